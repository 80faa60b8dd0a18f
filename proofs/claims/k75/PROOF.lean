import PyProof.Rows.All
import Wide.All
import OpenK.AllK
import Wide.FinOn
import Lean
import PyProof.EqAt
import PyProof.EqKinds
import PyProof.TupleCall
import KE.KTryMore
import PyProof.ZipIter
import KE.KDictLaws
import KE.KDictList
import PyProof.Rows.SetFrom
import PyProof.DictWalks
import PyProof.Rows.StrInSeq3
import PyProof.EnumMake
import PyProof.Rows.EnumRows
import PyProof.DictItems
import PyProof.FString5
import PyProof.MeetsDictList
import PySem.Challenge.RW_creditworks_k75_keys_made_less
set_option Elab.async false
set_option linter.all false
set_option maxRecDepth 100000
namespace L2
open PySem PySem.Spec PyProof.Rows
abbrev Key:=Sum Int Str
def o4:Key->Value->Bool
 | .inl k,v=>Value.isInt k v
 | .inr x,v=>Value.isStrOf x v
def JF (w:World):Key->Int
 | .inl k=>hashInt k
 | .inr x=>hashStr w x
theorem cL:∀ {k:Key} {v:Value},o4 k v=true->(∃ i t,k=Sum.inl i∧v=Value.int i t)∨(∃ x t,k=Sum.inr x∧v=Value.str x t)
 | .inl i,v,h=>by
  obtain ⟨t,e⟩:=Value.isInt_shape (k:=i) (v:=v) h
  exact .inl ⟨i,t,rfl,e⟩
 | .inr x,v,h=>by
  obtain ⟨t,e⟩:=Value.isStrOf_shape (x:=x) (v:=v) h
  exact .inr ⟨x,t,rfl,e⟩
theorem zu (i:Int) (t:Tok):o4 (.inl i) (.int i t)=true:=by simp [o4,Value.isInt]
theorem zw (x:Str) (t:Tok):o4 (.inr x) (.str x t)=true:=by simp [o4,Value.isStrOf]
theorem FZ (a b:Int):decide ((Sum.inl a:Key)=Sum.inl b)=(a == b):=by
 by_cases e:a=b
 ·subst e; simp
 ·have h : ¬ (Sum.inl a:Key)=Sum.inl b:=fun q=>e (Sum.inl.inj q)
  rw [decide_eq_false h]
  exact (beq_eq_false_iff_ne.mpr e).symm
theorem F1 (a b:Str):decide ((Sum.inr a:Key)=Sum.inr b)=decide (a=b):=by
 by_cases e:a=b
 ·subst e; simp
 ·have h : ¬ (Sum.inr a:Key)=Sum.inr b:=fun q=>e (Sum.inr.inj q)
  rw [decide_eq_false h,decide_eq_false e]
theorem F2 (a:Int) (b:Str):decide ((Sum.inl a:Key)=Sum.inr b)=false:=decide_eq_false (fun q=>nomatch q)
theorem F3 (a:Str) (b:Int):decide ((Sum.inr a:Key)=Sum.inl b)=false:=decide_eq_false (fun q=>nomatch q)
def bW (prog:Program) (w:World):PySem.KeyKind prog w Key where
 is:=o4
 hash:=JF w
 inj:=fun v a b ha hb=>by
  rcases cL ha with ⟨i,t,rfl,rfl⟩ | ⟨x,t,rfl,rfl⟩
  ·rcases cL hb with ⟨j,u,rfl,e⟩ | ⟨y,u,rfl,e⟩
   ·injection e with e1 _; rw [e1]
   ·exact nomatch e
  ·rcases cL hb with ⟨j,u,rfl,e⟩ | ⟨y,u,rfl,e⟩
   ·exact nomatch e
   ·injection e with e1 _; rw [e1]
 byValue:=fun k v h=>by
  rcases cL h with ⟨i,t,rfl,rfl⟩ | ⟨x,t,rfl,rfl⟩ <;> rfl
 pyHash:=fun hv h=>by
  rcases cL hv with ⟨i,t,rfl,rfl⟩ | ⟨x,t,rfl,rfl⟩
  ·exact wpAny_pyHash_int h
  ·exact wpAny_pyHash_str h
 eqBool:=fun hu hv h=>by
  rcases cL hu with ⟨i,t,rfl,rfl⟩ | ⟨x,t,rfl,rfl⟩
  ·rcases cL hv with ⟨j,u,rfl,rfl⟩ | ⟨y,u,rfl,rfl⟩
   ·rw [FZ] at h; exact wpAny_eqBool_int h
   ·rw [F2] at h; exact SeqAt.EqAt.int_str i t y u _ _ _ _ h
  ·rcases cL hv with ⟨j,u,rfl,rfl⟩ | ⟨y,u,rfl,rfl⟩
   ·rw [F3] at h; exact SeqAt.EqAt.str_int x t j u _ _ _ _ h
   ·rw [F1] at h; exact wpAny_eqBool_str h
 «strs»:=fun k x t v h=>by
  rcases cL h with ⟨i,u,rfl,e⟩ | ⟨y,u,rfl,e⟩
  ·exact nomatch e
  ·injection e with e1 _
   subst e1
   cases v <;> rfl
theorem wN (prog:Program) (w:World) (k:Key) (v:Value):(bW prog w).is k v=o4 k v:=rfl
theorem uz (prog:Program) (w:World) (i:Int) (t:Tok):(bW prog w).is (.inl i) (.int i t)=true:=zu i t
theorem uA (prog:Program) (w:World) (x:Str) (t:Tok):(bW prog w).is (.inr x) (.str x t)=true:=zw x t
end L2
namespace L2
open PySem PySem.Spec PyProof.Rows
inductive V where
 | non | bl (b:Bool) | int (i:Int) | str (x:Str) | byt (b:Array UInt8) | flt (b:UInt64) | ref (a:Addr) | ty (n:String)
 deriving DecidableEq
def RelV:V->Value->Prop
 | .non,u=>u=Value.none
 | .bl b,u=>u=Value.bool b
 | .int i,u=>∃ t,u=Value.int i t
 | .str x,u=>∃ t,u=Value.str x t
 | .byt b,u=>∃ t,u=Value.bytes b t
 | .flt b,u=>∃ t,u=Value.float b t
 | .ref a,u=>u=Value.ref a
 | .ty n,u=>u=Value.type n
abbrev Vals:List V->List Value->Prop:=Paired RelV
theorem Vals.length {xs:List V} {us:List Value} (r:Vals xs us):xs.length=us.length:=Paired.length r
theorem Vals.get:∀ {xs:List V} {us:List Value} {i:Nat} {x:V},Vals xs us->xs[i]?=some x->∃ u,us[i]?=some u∧RelV x u
 | _,_,_,_,.nil,e=>by simp at e
 | _,_,0,_,.cons r _,e=>by simp at e; subst e; exact ⟨_,rfl,r⟩
 | _,_,i + 1,x,.cons _ t,e=>by
  obtain ⟨u,h1,h2⟩:=Vals.get (i:=i) (x:=x) t (by simpa using e)
  exact ⟨u,by simpa using h1,h2⟩
theorem Vals.set {x:V} {u:Value} (r:RelV x u):∀ {xs:List V} {us:List Value} (i:Nat),Vals xs us->Vals (xs.set i x) (us.set i u)
 | _,_,_,.nil=>.nil
 | _,_,0,.cons _ t=>.cons r t
 | _,_,i + 1,.cons q t=>.cons q (Vals.set r i t)
theorem Vals.append:∀ {xs ys:List V} {us ws:List Value},Vals xs us->Vals ys ws->Vals (xs++ys) (us++ws)
 | _,_,_,_,.nil,s=>s
 | _,_,_,_,.cons r t,s=>.cons r (Vals.append t s)
theorem Vals.take:∀ {xs:List V} {us:List Value} (n:Nat),Vals xs us->Vals (xs.take n) (us.take n)
 | _,_,0,_=>.nil
 | _,_,_ + 1,.nil=>.nil
 | _,_,n + 1,.cons r t=>.cons r (Vals.take n t)
theorem Vals.drop:∀ {xs:List V} {us:List Value} (n:Nat),Vals xs us->Vals (xs.drop n) (us.drop n)
 | _,_,0,r=>r
 | _,_,_ + 1,.nil=>.nil
 | _,_,n + 1,.cons _ t=>Vals.drop n t
theorem Vals.none_of:∀ {xs:List V} {us:List Value} {i:Nat},Vals xs us->xs[i]?=none->us[i]?=none:=fun {xs us i} r e=>by
 have h1:=r.length
 have h2:xs.length≤i:=List.getElem?_eq_none_iff.mp e
 exact List.getElem?_eq_none_iff.mpr (by omega)
def mK:Option V->Option Value->Prop
 | some v,some u=>RelV v u
 | none,none=>True
 | _,_=>False
def KV {κ:Type}:List (κ × V)->List (κ × Value)->Prop:=Paired fun (p : κ × V) (q : κ × Value)=>p.1=q.1∧RelV p.2 q.2
def kV:Key->V
 | .inl i=>.int i
 | .inr x=>.str x
inductive HO where
 | lst (xs:List V)
 | tup (xs:List V)
 | dK (kvs:List (Key × V)) | dT (kvs:List (List Key × V))
 | set (S:Int->Bool) (n:Nat)
 | ins (C dx:Addr) (fs:List (Str × V))
 | own (x:Addr)
 | xd (fs:List (Str × V))
 | met (f x:Addr)
 | rng (lo hi:Int)
 | frz (o:Obj) (u:HO)
 | tbl (ps:Array Value)
 | ext (φ:Heap->Prop)
abbrev Hp:=Addr->Option HO
def upd (H:Hp) (a:Addr) (o:HO):Hp:=fun b=>if b=a then some o else H b
theorem az {H:Hp} {a:Addr} {o:HO}:upd H a o a=some o:=by unfold upd; rw [if_pos rfl]
theorem aq {H:Hp} {a b:Addr} {o:HO} (h:b≠a):upd H a o b=H b:=by unfold upd; rw [if_neg h]
theorem HR {H:Hp} {a b:Addr} {o u:HO} (h:H a=some o) (h':H b=some u) (d:o≠u):a≠b:=by
 intro e; subst e; rw [h] at h'; exact d (Option.some.inj h')
theorem eT {H:Hp} {a b:Addr} {o:HO} (h:H a=some o) (h':H b=none):a≠b:=by
 intro e; subst e; rw [h] at h'; cases h'
section
variable (P:Program) (w:World)
def b9 (H:Hp) (h:Heap) (a:Addr):HO->Prop
 | .lst xs=>xs.length≤sizeLine∧∃ (its:List Value) (n:Nat),Vals xs its∧h.get? a=some { cls:=.type "list",data:=.seq its.toArray n }
 | .tup xs=>xs.length≤sizeLine∧∃ its:List Value,Vals xs its∧IsTup h a its.toArray
 | .dK kvs=>kvs.length≤sizeLine∧(a == sysModules)=false∧∃ vs,KV kvs vs∧h.DictOf (bW P w) a vs
 | .dT kvs=>kvs.length≤sizeLine∧(a == sysModules)=false∧∃ xs:List (List Key × Addr × Value),
   Paired (fun (p:List Key × V) (q:List Key × Addr × Value)=>p.1=q.1∧H q.2.1=some (.tup (p.1.map kV))∧RelV p.2 q.2.2) kvs xs ∧
   ∃ o es ep,h.get? a=some o∧o.ExactDict∧o.data=.dict es ep∧es.toList=xs.map (entryOfKey (tupleKind (bW P w)))∧(xs.map (·.1)).Nodup
 | .set S n=>h.SetOf (intKind P w) a S n
 | .ins C dx fs=>H dx=some (.own a)∧fs.length≤1000∧dx≠a∧h.get? a=some (PySem.W.instObj C dx) ∧
   ∃ mA,h.Ns1 dx mA∧(∀ f,mK (fs.lookup f) (mA f))∧PySem.Within mA (fs.map (·.1))
 | .own _=>∃ o,h.get? a=some o
 | .xd fs=>∃ mA,h.Ns1 a mA∧∀ f,mK (fs.lookup f) (mA f)
 | .rng lo hi=>∃ t u v,h.get? a=some { cls:=.type "range",data:=.fields #[.int lo t,.int hi u,.int 1 v] }
 | .frz o u=>h.get? a=some o∧b9 H h a u
 | .tbl ps=>h.get? a=some { cls:=.none,data:=.fields ps }
 | .met f x=>h.get? a=some (PySem.W.methodObj (.ref f) (.ref x))
 | .ext φ=>φ h∧(∃ o,h.get? a=some o)∧∀ h1 h2:Heap,φ h1->(∀ o,h1.get? a=some o->h2.get? a=some o)->φ h2
def HOk (H:Hp) (h:Heap):Prop:=∀ a o,H a=some o->b9 P w H h a o
end
section
variable {P:Program} {w:World} {H H':Hp} {h h':Heap} {a:Addr} {o:HO}
theorem b9.lt (x:b9 P w H h a o):a < h.objs.size:=by
 cases o with
 | lst xs=>obtain ⟨_,_,_,_,e⟩:=x; exact Heap.lt_size e
 | tup xs=>obtain ⟨_,_,_,p⟩:=x; exact p.lt
 | dK kvs=>obtain ⟨_,_,_,_,o,_,_,e,_⟩:=x; exact Heap.lt_size e
 | dT kvs=>obtain ⟨_,_,_,_,o,_,_,e,_⟩:=x; exact Heap.lt_size e
 | set S n=>obtain ⟨o,_,_,_,e,_⟩:=x; exact Heap.lt_size e
 | ins C dx fs=>obtain ⟨_,_,_,e,_⟩:=x; exact Heap.lt_size e
 | own y=>obtain ⟨_,e⟩:=x; exact Heap.lt_size e
 | xd fs=>obtain ⟨_,⟨_,_,_,e,_⟩,_⟩:=x; exact Heap.lt_size e
 | rng lo hi=>obtain ⟨_,_,_,e⟩:=x; exact Heap.lt_size e
 | frz ob u=>obtain ⟨e,_⟩:=x; exact Heap.lt_size e
 | tbl ps=>exact Heap.lt_size (show h.get? a=some _ from x)
 | met f y=>exact Heap.lt_size (show h.get? a=some _ from x)
 | ext φ=>obtain ⟨_,⟨_,e⟩,_⟩:=x; exact Heap.lt_size e
theorem Paired.F4 {α β:Type} {F G : α->β->Prop}:∀ {l₁:List α} {l₂:List β},Paired F l₁ l₂->(∀ a b,F a b->G a b)->Paired G l₁ l₂
 | _,_,.nil,_=>.nil
 | _,_,.cons r t,f=>.cons (f _ _ r) (Paired.F4 t f)
theorem b9.stay (x:b9 P w H h a o) (k:∀ b u,(b=a∨H b=some (.own a))->h.get? b=some u->h'.get? b=some u)
  (ho:∀ b,H b=some (.own a)->H' b=some (.own a)) (ht:∀ b xs,H b=some (.tup xs)->H' b=some (.tup xs)):b9 P w H' h' a o:=by
 induction o with
 | lst xs=>obtain ⟨z,its,n,r,e⟩:=x; exact ⟨z,its,n,r,k _ _ (.inl rfl) e⟩
 | tup xs=>obtain ⟨z,its,r,ob,e,c⟩:=x; exact ⟨z,its,r,ob,k _ _ (.inl rfl) e,c⟩
 | dK kvs=>obtain ⟨z,y,vs,r,ob,es,ep,e,c⟩:=x; exact ⟨z,y,vs,r,ob,es,ep,k _ _ (.inl rfl) e,c⟩
 | dT kvs =>
  obtain ⟨z,y,xs,r,ob,es,ep,e,c⟩:=x
  exact ⟨z,y,xs,Paired.F4 r fun p q z=>⟨z.1,ht _ _ z.2.1,z.2.2⟩,ob,es,ep,k _ _ (.inl rfl) e,c⟩
 | set S n=>obtain ⟨ob,es,ep,t,e,c⟩:=x; exact ⟨ob,es,ep,t,k _ _ (.inl rfl) e,c⟩
 | ins C dx fs =>
  obtain ⟨d,z,ne,e,mA,⟨od,es,ep,e2,c⟩,r⟩:=x
  exact ⟨ho _ d,z,ne,k _ _ (.inl rfl) e,mA,⟨od,es,ep,k _ _ (.inr d) e2,c⟩,r⟩
 | own y=>obtain ⟨ob,e⟩:=x; exact ⟨ob,k _ _ (.inl rfl) e⟩
 | xd fs=>obtain ⟨mA,⟨od,es,ep,e,c⟩,r⟩:=x; exact ⟨mA,⟨od,es,ep,k _ _ (.inl rfl) e,c⟩,r⟩
 | rng lo hi=>obtain ⟨t,u,v,e⟩:=x; exact ⟨t,u,v,k _ _ (.inl rfl) e⟩
 | frz ob u ih=>obtain ⟨e,q⟩:=x; exact ⟨k _ _ (.inl rfl) e,ih q⟩
 | tbl ps =>
  have e:h.get? a=some { cls:=.none,data:=.fields ps }:=x
  show h'.get? a=some { cls:=.none,data:=.fields ps }
  exact k a _ (.inl rfl) e
 | met f y =>
  have e:h.get? a=some (PySem.W.methodObj (.ref f) (.ref y)):=x
  show h'.get? a=some (PySem.W.methodObj (.ref f) (.ref y))
  exact k a _ (.inl rfl) e
 | ext φ=>obtain ⟨p,⟨o,e⟩,st⟩:=x; exact ⟨st _ _ p fun o q=>k _ _ (.inl rfl) q,⟨o,k _ _ (.inl rfl) e⟩,st⟩
theorem HOk.lt (x:HOk P w H h) (e:H a=some o):a < h.objs.size:=(x a o e).lt
theorem HOk.fresh (x:HOk P w H h) (e:h.objs.size≤a):H a=none:=by
 cases q:H a with
 | none=>rfl
 | some u=>exact absurd (Nat.lt_of_lt_of_le (x.lt q) e) (Nat.lt_irrefl _)
theorem HOk.kept (x:HOk P w H h) (k:∀ b u,h.get? b=some u->h'.get? b=some u):HOk P w H h':=fun a o e =>
 (x a o e).stay (fun b u _ q=>k b u q) (fun _ q=>q) fun _ _ q=>q
theorem HOk.laid (x:HOk P w H h) (k:∀ b u,h.get? b=some u->h'.get? b=some u) (hp:h.objs.size≤a) (new:b9 P w (upd H a o) h' a o):HOk P w (upd H a o) h':=fun b u e=>by
 have hn:=x.fresh hp
 by_cases hb:b=a
 ·subst hb; rw [az] at e; cases e; exact new
 ·rw [aq hb] at e
  exact (x b u e).stay (fun c v _ q=>k c v q) (fun c q=>by rw [aq (eT q hn)]; exact q) fun c xs q=>by rw [aq (eT q hn)]; exact q
end
def Rd (H:Hp) (a:Addr) (u:HO):Prop:=H a=some u∨∃ o,H a=some (.frz o u)
theorem Rd.of {H:Hp} {a:Addr} {u:HO} (h:H a=some u):Rd H a u:=.inl h
theorem Rd.ok {P:Program} {w:World} {H:Hp} {h:Heap} {a:Addr} {u:HO} (r:Rd H a u) (x:HOk P w H h):b9 P w H h a u:=by
 rcases r with r | ⟨o,r⟩
 ·exact x a u r
 ·obtain ⟨_,q⟩:=x a _ r
  exact q
def Mut:Option HO->Prop
 | some (.lst _)=>True
 | some (.dK _)=>True
 | some (.dT _)=>True
 | some (.set _ _)=>True
 | some (.ins _ _ _)=>True
 | some (.ext _)=>True
 | _=>False
section
variable {P:Program} {w:World} {H:Hp} {h h':Heap} {x e:Addr} {o':HO}
theorem HOk.write (ok:HOk P w H h) (mu:Mut (H x)) (he:e=x∨H e=some (.own x)) (k:∀ b u,b≠e->h.get? b=some u->h'.get? b=some u) (heo:∃ u,h'.get? e=some u)
  (new:b9 P w (upd H x o') h' x o'):HOk P w (upd H x o') h':=fun b u q=>by
 have uB:∀ c y,H c=some (.own y)->c≠x:=fun c y r z=>by subst z; rw [r] at mu; exact mu
 have JG:∀ c xs,H c=some (.tup xs)->c≠x:=fun c xs r z=>by subst z; rw [r] at mu; exact mu
 by_cases hb:b=x
 ·subst hb; rw [az] at q; cases q; exact new
 ·rw [aq hb] at q
  by_cases hbe:b=e
  ·have q':H b=some (.own x):=by
    rcases he with z | z
    ·exact absurd (hbe.trans z) hb
    ·rw [hbe]; exact z
   rw [q] at q'; cases q'
   obtain ⟨v,hv⟩:=heo
   exact ⟨v,by rw [hbe]; exact hv⟩
  ·refine (ok b u q).stay (fun c v hc r=>k c v ?_ r) (fun c r=>by rw [aq (uB c b r)]; exact r) fun c xs r=>by rw [aq (JG c xs r)]; exact r
   rcases hc with rfl | hc
   ·exact hbe
   ·rintro rfl
    rcases he with z | z
    ·exact uB c b hc z
    ·rw [hc] at z; cases z; exact hb rfl
end
structure Un (fs ex:List Addr) (H H':Hp) (h h':Heap):Prop where
 keep:∀ b o,h.get? b=some o->H b=none->b ∉ fs->b ∉ ex->h'.get? b=some o
 slot:∀ b o,h.get? b=some o->H b=none->b∈fs->b ∉ ex->∃ sl,h'.get? b=some { o with slots:=sl }
 free:∀ b o,h.get? b=some o->H b=none->b ∉ ex->H' b=none
 there:∀ b o,h.get? b=some o->b ∉ ex->∃ o',h'.get? b=some o'
 tups:∀ b xs,H b=some (.tup xs)->H' b=some (.tup xs)
 g8:∀ b o u,H b=some (.frz o u)->H' b=some (.frz o u)
 iV:∀ b ps,H b=some (.tbl ps)->∃ more,H' b=some (.tbl (ps++more))
section
variable {fs fs' ex ex':List Addr} {H H1 H2:Hp} {h h1 h2 h':Heap} {a x e:Addr} {o:HO}
theorem Un.any (u:Un fs ex H H1 h h1) {b:Addr} {ob:Obj} (q:h.get? b=some ob) (n:H b=none) (hx:b ∉ ex):∃ sl,h1.get? b=some { ob with slots:=sl }:=by
 by_cases hb:b∈fs
 ·exact u.slot b ob q n hb hx
 ·exact ⟨ob.slots,u.keep b ob q n hb hx⟩
theorem Un.trans (a:Un fs ex H H1 h h1) (b:Un fs ex H1 H2 h1 h2):Un fs ex H H2 h h2 where
 keep:=fun c ob q n hc hx=>b.keep c ob (a.keep c ob q n hc hx) (a.free c ob q n hx) hc hx
 slot:=fun c ob q n hc hx=>by
  obtain ⟨sl,e1⟩:=a.slot c ob q n hc hx
  obtain ⟨sl',e2⟩:=b.slot c _ e1 (a.free c ob q n hx) hc hx
  exact ⟨sl',e2⟩
 free:=fun c ob q n hx=>by
  obtain ⟨o',e1⟩:=a.there c ob q hx
  exact b.free c o' e1 (a.free c ob q n hx) hx
 there:=fun c ob q hx=>by
  obtain ⟨o',e1⟩:=a.there c ob q hx
  exact b.there c o' e1 hx
 tups:=fun c xs q=>b.tups c xs (a.tups c xs q)
 g8:=fun c ob xs q=>b.g8 c ob xs (a.g8 c ob xs q)
 iV:=fun c ps q=>by
  obtain ⟨m1,e1⟩:=a.iV c ps q
  obtain ⟨m2,e2⟩:=b.iV c _ e1
  exact ⟨m1++m2,by rw [e2,Array.append_assoc]⟩
theorem Un.kept (k:∀ b u,h.get? b=some u->h'.get? b=some u):Un fs ex H H h h' :=
 ⟨fun b ob q _ _ _=>k b ob q,fun b ob q _ _ _=>⟨ob.slots,k b ob q⟩,fun _ _ _ n _=>n,fun b ob q _=>⟨ob,k b ob q⟩,fun _ _ q=>q,fun _ _ _ q=>q,fun _ ps q=>⟨#[],by rw [q]; simp⟩⟩
theorem Un.refl:Un fs ex H H h h:=Un.kept fun _ _ q=>q
theorem Un.laid (k:∀ b u,h.get? b=some u->h'.get? b=some u) (hp:h.objs.size≤a) (hn:H a=none):Un fs ex H (upd H a o) h h' where
 keep:=fun b u q _ _ _=>k b u q
 slot:=fun b u q _ _ _=>⟨u.slots,k b u q⟩
 free:=fun b u q n _=>by rw [aq (Nat.ne_of_lt (Nat.lt_of_lt_of_le (Heap.lt_size q) hp))]; exact n
 there:=fun b u q _=>⟨u,k b u q⟩
 tups:=fun b xs q=>by rw [aq (eT q hn)]; exact q
 g8:=fun b u xs q=>by rw [aq (eT q hn)]; exact q
 iV:=fun b ps q=>⟨#[],by rw [aq (eT q hn),q]; simp⟩
theorem Un.write (mu:Mut (H x)) (he:e=x∨H e=some (.own x)) (k:∀ b u,b≠e->h.get? b=some u->h'.get? b=some u) (heo:∃ u,h'.get? e=some u):Un fs ex H (upd H x o) h h':=by
 have hx:∀ b,H b=none->b≠x:=fun b n z=>by subst z; rw [n] at mu; exact mu
 have hb:∀ b,H b=none->b≠e:=fun b n z=>by
  subst z
  rcases he with r | r
  ·exact hx b n r
  ·rw [n] at r; cases r
 have hm:∀ b u,H b=some u->¬ Mut (some u)->b≠x:=fun b u q nm z=>by subst z; rw [q] at mu; exact nm mu
 refine ⟨fun b u q n _ _=>k b u (hb b n) q,fun b u q n _ _=>⟨u.slots,k b u (hb b n) q⟩,fun b u q n _=>by rw [aq (hx b n)]; exact n,fun b u q _=>?_,
  fun b xs q=>by rw [aq (hm b _ q fun z=>z)]; exact q,fun b u xs q=>by rw [aq (hm b _ q fun z=>z)]; exact q,fun b ps q=>⟨#[],by rw [aq (hm b _ q fun z=>z),q]; simp⟩⟩
 by_cases hbe:b=e
 ·subst hbe; exact heo
 ·exact ⟨u,k b u hbe q⟩
theorem Un.mono (u:Un fs ex H H1 h h1) (hs:∀ b∈fs,b∈fs') (hx:∀ b∈ex,b∈ex'):Un fs' ex' H H1 h h1 :=
 ⟨fun b ob q n hb he=>u.keep b ob q n (fun z=>hb (hs b z)) fun z=>he (hx b z),fun _ _ q n _ he=>u.any q n fun z=>he (hx _ z),fun b ob q n he=>u.free b ob q n fun z=>he (hx b z),fun b ob q he=>u.there b ob q fun z=>he (hx b z),u.tups,u.g8,u.iV⟩
end
def trk (h:Heap) (H:Hp):List Addr:=(List.range h.objs.size).filter fun a=>(H a).isSome
def sG (h:Heap) (H:Hp):Heap:=PySem.W.hideAll h (trk h H)
theorem zx (h:Heap) (H:Hp):(sG h H).objs.size=h.objs.size:=PySem.W.hideAll_size _ _
theorem AH {h:Heap} {H:Hp} {b:Addr} {o:Obj} (e:h.get? b=some o) (n:H b=none):(sG h H).get? b=some o :=
 PySem.W.hideAll_get _ e fun hm=>by
  have q:(H b).isSome=true:=(List.mem_filter.mp hm).2
  rw [n] at q; simp at q
theorem Di {h:Heap} {H:Hp} {b:Addr} {o:Obj} (e:(sG h H).get? b=some o):h.get? b=some o∧H b=none:=by
 have e':h.get? b=some o:=PySem.W.of_hideAll (trk h H) e
 refine ⟨e',?_⟩
 cases q:H b with
 | none=>rfl
 | some x =>
  have hm:b∈trk h H:=List.mem_filter.mpr ⟨List.mem_range.mpr (Heap.lt_size e'),by simp [q]⟩
  have z:(sG h H).get? b=none:=PySem.W.hideAll_none (trk h H) hm
  rw [z] at e; cases e
def Dj (g h:Heap) (L:Addr):List (Addr × Obj):=(List.range h.objs.size).filterMap fun a=>if a=L∨(g.get? a).isSome=true then none else (h.get? a).map fun o=>(a,o)
def rest (g h:Heap) (L d:Addr):List (Addr × Obj):=(Dj g h L).filter fun p=>decide (p.1≠d)
end L2
namespace L2
open PySem PySem.Spec PyProof.Rows
structure Mod (K:PySem.W.Frag) (mg:Str->Option Value) (base:Heap):Prop where
 kin:K.In base
 glob:base.Ns mainGlobals mg
 blt:∃ mb,base.Ns builtinsNs mb∧∀ x:Str,x≠"__name__"->mb x=bootBuiltins x
 nolimit:base.NoLimit
structure Cx where
 prog:Program
 w:World
 K:PySem.W.Frag
 mg:Str->Option Value
 base:Heap
 A:Around
 N:List Str
 s₀:Shared
 H₀:Hp
 env:Env
 outer:List Env
 stack:List Env
 ex:List Addr
 fn:Str->Bool
 calm:Bool
 pn:List (Addr × Obj)
 xe:Value->Shared->Prop
def frs (l:List Env):List Addr:=l.filterMap (·.frame)
abbrev Cx.fs (X:Cx):List Addr:=frs X.outer
def Vis (sc:Scope) (x:Str):Prop:=sc.names.lookup x=some .local∨sc.names.lookup x=some .cell∨sc.names.lookup x=some .free
def Loc (sc:Scope) (x:Str):Prop:=sc.names.lookup x=some .local∨sc.names.lookup x=some .cell
def Look (env:Env) (h:Heap) (m:Str->Option Value) (x:Str) (u:Value):Prop :=
 (env.kindOf x=some .local∧m x=some u)∨((env.kindOf x=some .cell∨env.kindOf x=some .free)∧∃ c,env.cells.lookup x=some c∧h.IsCell c (some u))
structure Cx.Ok (X:Cx):Prop where
 mod:Mod X.K X.mg X.base
 kind:X.env.scope.kind=.function
 glob:X.env.globals=mainGlobals
 blt:X.env.builtins=builtinsNs
 above:X.s₀.heap.objs.size≤X.env.locals
 inj:∀ x y c,X.env.cells.lookup x=some c->X.env.cells.lookup y=some c->x=y
 has:∀ x,(X.env.kindOf x=some .cell∨X.env.kindOf x=some .free)->∃ c,X.env.cells.lookup x=some c
 cab:∀ x c,X.fn x=true->X.env.cells.lookup x=some c->X.s₀.heap.objs.size≤c
 hd:X.calm=true->X.A.handled=none
 frames:X.A.frames=some X.stack
 stk:X.stack=X.outer∨(X.stack=X.env::X.outer∧X.env.frame=some X.env.locals)
 exf:∀ b∈X.ex,b≠X.env.locals∧∀ x c,X.env.cells.lookup x=some c->c≠b
 bs:∀ b o,X.base.get? b=some o->X.s₀.heap.get? b=some o∧X.H₀ b=none
 bsz:X.base.objs.size≤X.s₀.heap.objs.size
 wO:∀ b o,X.base.get? b=some o->b ∉ X.ex
 uC:∀ b∈X.ex,b ∉ X.fs
 ly:X.s₀.heap.FunFrames X.base X.outer
 frf:∀ b∈X.fs,X.H₀ b=none
structure Inv (X:Cx) (pins:List (Addr × Obj)) (σ:List (Option V)) (H:Hp) (s:Shared):Prop where
 ok:X.Ok
 os:s.os=X.s₀.os
 bare:AllBare s.gens
 base:Un X.fs X.ex X.H₀ H X.s₀.heap s.heap
 loc:∃ m,s.heap.Ns X.env.locals m∧∀ (i:Nat) (x:Str) (v:V),X.N[i]?=some x->σ[i]?=some (some v)->Vis X.env.scope x->∃ u,RelV v u∧Look X.env s.heap m x u
 cell:∀ x c,X.env.cells.lookup x=some c->∃ v,s.heap.IsCell c v
 free:H X.env.locals=none
 gK:∀ x c,X.env.cells.lookup x=some c->H c=none
 pin:∀ p∈X.pn++pins,s.heap.get? p.1=some p.2∧H p.1=none∧p.1≠X.env.locals∧p.1 ∉ X.fs∧∀ v,p.2.data≠.cell v
 hok:HOk X.prog X.w H s.heap
 len : σ.length=X.N.length
section
variable {X:Cx} {pins:List (Addr × Obj)} {σ:List (Option V)} {H H':Hp} {s:Shared} {h':Heap}
theorem Cx.Ok.JH (ok:X.Ok) {b:Addr} {o:Obj} (e:X.base.get? b=some o):b ∉ X.fs:=fun hb=>by
 have:=(ok.ly.mem hb).1
 rw [e] at this; cases this
theorem Inv.bs (I:Inv X pins σ H s):∀ b o,X.base.get? b=some o->s.heap.get? b=some o∧H b=none:=fun b o e =>
 ⟨I.base.keep b o (I.ok.bs b o e).1 (I.ok.bs b o e).2 (I.ok.JH e) (I.ok.wO b o e),I.base.free b o (I.ok.bs b o e).1 (I.ok.bs b o e).2 (I.ok.wO b o e)⟩
theorem Inv.bk (I:Inv X pins σ H s):∀ b o,X.base.get? b=some o->s.heap.get? b=some o:=fun b o e=>(I.bs b o e).1
theorem Inv.mod (I:Inv X pins σ H s):Mod X.K X.mg X.base:=I.ok.mod
theorem Inv.kIn (I:Inv X pins σ H s):X.K.In s.heap:=I.ok.mod.kin.keeps I.bk
theorem Inv.nolimit (I:Inv X pins σ H s):s.heap.NoLimit:=I.ok.mod.nolimit.keeps I.bk
theorem Inv.fr (I:Inv X pins σ H s):∃ m,Fr X.base X.env.locals s.heap m :=
 let ⟨m,hn,_⟩:=I.loc
 ⟨m,hn,I.bk,Nat.le_trans I.ok.bsz I.ok.above⟩
theorem Inv.lt (I:Inv X pins σ H s):X.env.locals < s.heap.objs.size:=let ⟨_,hn,_⟩:=I.loc; hn.lt
theorem Inv.sz (I:Inv X pins σ H s):X.s₀.heap.objs.size≤s.heap.objs.size:=Nat.le_trans I.ok.above (Nat.le_of_lt I.lt)
theorem Inv.JI (I:Inv X pins σ H s) {a:Addr} (h:s.heap.objs.size≤a):a ∉ X.fs:=fun hb=>by
 obtain ⟨_,o,ho,_⟩:=I.ok.ly.mem hb
 exact absurd (Nat.lt_of_lt_of_le (Heap.lt_size ho) (Nat.le_trans I.sz h)) (Nat.lt_irrefl _)
theorem Inv.cne (I:Inv X pins σ H s):∀ x c,X.env.cells.lookup x=some c->c≠X.env.locals:=fun x c e z=>by
 obtain ⟨v,o,ho,hd⟩:=I.cell x c e
 obtain ⟨m,⟨o',es,ep,ho',hd',_⟩,_⟩:=I.loc
 rw [z,ho'] at ho; cases ho; rw [hd'] at hd; cases hd
theorem Inv.ly (I:Inv X pins σ H s):s.heap.FunFrames X.base X.outer:=by
 have all:∀ (l:List Env),(∀ b∈frs l,b∈X.fs)->X.s₀.heap.FunFrames X.base l->s.heap.FunFrames X.base l:=by
  intro l
  induction l with
  | nil=>intro _ _; trivial
  | cons env r ih =>
   intro hs hl
   obtain ⟨hk,⟨L,o,hf,hn,ho,hd⟩,hr⟩:=hl
   have hL:L∈X.fs:=hs L (by unfold frs; rw [List.filterMap_cons,hf]; exact List.mem_cons_self)
   obtain ⟨sl,e⟩:=I.base.slot L o ho (I.ok.frf L hL) hL fun z=>I.ok.uC L z hL
   exact ⟨hk,⟨L,_,hf,hn,e,hd⟩,ih (fun b hb=>hs b (by unfold frs; rw [List.filterMap_cons,hf]; exact List.mem_cons_of_mem _ hb)) hr⟩
 exact all X.outer (fun _ hb=>hb) I.ok.ly
theorem Inv.stack (I:Inv X pins σ H s):s.heap.FunFrames X.base X.stack:=by
 rcases I.ok.stk with e | ⟨e,hf⟩
 ·rw [e]; exact I.ly
 ·rw [e]
  obtain ⟨m,hn,_⟩:=I.loc
  refine .cons (by rw [I.ok.kind]; decide) hf hn ?_ I.ly
  exact Heap.get?_none_of_le (Nat.le_trans I.ok.bsz I.ok.above)
theorem Inv.wQ (I:Inv X pins σ H s):∀ b∈frs X.stack,b∈X.env.locals::X.fs:=fun b hb=>by
 rcases I.ok.stk with e | ⟨e,hf⟩
 ·rw [e] at hb; exact List.mem_cons_of_mem _ hb
 ·rw [e] at hb
  unfold frs at hb
  rw [List.filterMap_cons,hf] at hb
  exact hb
theorem Inv.oH (I:Inv X pins σ H s):∀ b∈frs X.stack,H b=none:=fun b hb=>by
 rcases List.mem_cons.mp (I.wQ b hb) with e | hb
 ·rw [e]; exact I.free
 ·obtain ⟨_,o,ho,_⟩:=I.ok.ly.mem hb
  exact I.base.free b o ho (I.ok.frf b hb) fun z=>I.ok.uC b z hb
theorem Inv.step {g':Array GenState} {t':Nat} {d':Drawn} {ch:List Addr} (I:Inv X pins σ H s)
  (hch:∀ b∈ch,(b∈X.ex∨X.s₀.heap.objs.size≤b)∧b≠X.env.locals∧(∀ x c,X.env.cells.lookup x=some c->c≠b)∧∀ p∈X.pn++pins,p.1≠b)
  (keep:∀ b o,b≠X.env.locals->b ∉ X.fs->b ∉ ch->s.heap.get? b=some o->H b=none->h'.get? b=some o)
  (slot:∀ b o,b≠X.env.locals->b∈X.fs->b ∉ ch->s.heap.get? b=some o->H b=none->∃ sl,h'.get? b=some { o with slots:=sl }) (free:∀ b o,b ∉ ch->s.heap.get? b=some o->H b=none->H' b=none)
  (there:∀ b o,b ∉ ch->s.heap.get? b=some o->∃ o',h'.get? b=some o')
  (tups:∀ b xs,H b=some (.tup xs)->H' b=some (.tup xs)) (g8:∀ b o u,H b=some (.frz o u)->H' b=some (.frz o u)) (iV:∀ b ps,H b=some (.tbl ps)->∃ more,H' b=some (.tbl (ps++more)))
  (ns:∀ m,s.heap.Ns X.env.locals m->h'.Ns X.env.locals m) (hok:HOk X.prog X.w H' h') (hg:AllBare g') :
  Inv X pins σ H' { s with heap:=h',gens:=g',drawn:=d',toks:=t' }:=by
 have neL:∀ b o,X.s₀.heap.get? b=some o->b≠X.env.locals:=fun b o e=>Nat.ne_of_lt (Nat.lt_of_lt_of_le (Heap.lt_size e) I.ok.above)
 have neC:∀ b o,X.s₀.heap.get? b=some o->b ∉ X.ex->b ∉ ch:=fun b o e hx hb=>by
  rcases (hch b hb).1 with z | z
  ·exact hx z
  ·exact absurd (Nat.lt_of_lt_of_le (Heap.lt_size e) z) (Nat.lt_irrefl _)
 have cellK:∀ x c,X.env.cells.lookup x=some c->∀ v,s.heap.IsCell c v->h'.IsCell c v:=fun x c e v ⟨o,ho,hd⟩=>by
  have nch:c ∉ ch:=fun z=>(hch c z).2.2.1 x c e rfl
  by_cases hc:c∈X.fs
  ·obtain ⟨sl,q⟩:=slot c o (I.cne x c e) hc nch ho (I.gK x c e)
   exact ⟨_,q,hd⟩
  ·exact ⟨o,keep c o (I.cne x c e) hc nch ho (I.gK x c e),hd⟩
 refine ⟨I.ok,I.os,hg,⟨fun b o e n hb hx=>?_,fun b o e n hb hx=>?_,fun b o e n hx=>?_,fun b o e hx=>?_,fun b xs e=>tups b xs (I.base.tups b xs e),fun b o xs e=>g8 b o xs (I.base.g8 b o xs e),fun b ps e=>?_⟩,?_,fun x c e=>?_,?_,fun x c e=>?_,fun p hp=>?_,hok,I.len⟩
 ·exact keep b o (neL b o e) hb (neC b o e hx) (I.base.keep b o e n hb hx) (I.base.free b o e n hx)
 ·obtain ⟨sl,e1⟩:=I.base.slot b o e n hb hx
  obtain ⟨sl',e2⟩:=slot b _ (neL b o e) hb (neC b o e hx) e1 (I.base.free b o e n hx)
  exact ⟨sl',e2⟩
 ·obtain ⟨o',e1⟩:=I.base.there b o e hx
  exact free b o' (neC b o e hx) e1 (I.base.free b o e n hx)
 ·obtain ⟨o',e1⟩:=I.base.there b o e hx
  exact there b o' (neC b o e hx) e1
 ·obtain ⟨m1,e1⟩:=I.base.iV b ps e
  obtain ⟨m2,e2⟩:=iV b _ e1
  exact ⟨m1++m2,by rw [e2,Array.append_assoc]⟩
 ·obtain ⟨m,hn,hl⟩:=I.loc
  refine ⟨m,ns m hn,fun i x v e1 e2 e3=>?_⟩
  obtain ⟨u,r,l⟩:=hl i x v e1 e2 e3
  refine ⟨u,r,?_⟩
  rcases l with l | ⟨k,c,e,z⟩
  ·exact .inl l
  ·exact .inr ⟨k,c,e,cellK x c e _ z⟩
 ·obtain ⟨v,z⟩:=I.cell x c e
  exact ⟨v,cellK x c e v z⟩
 ·obtain ⟨m,⟨o,_,_,ho,_⟩,_⟩:=I.loc
  exact free _ o (fun z=>(hch _ z).2.1 rfl) ho I.free
 ·obtain ⟨v,o,ho,hd⟩:=I.cell x c e
  exact free c o (fun z=>(hch c z).2.2.1 x c e rfl) ho (I.gK x c e)
 ·obtain ⟨e,n,ne,nf,d⟩:=I.pin p hp
  have nch:p.1 ∉ ch:=fun z=>(hch p.1 z).2.2.2 p hp rfl
  exact ⟨keep p.1 p.2 ne nf nch e n,free p.1 p.2 nch e n,ne,nf,d⟩
theorem Inv.un {t':Nat} (I:Inv X pins σ H s) (u:Un X.fs [] H H' s.heap h') (hok:HOk X.prog X.w H' h'):Inv X pins σ H' { s with heap:=h',toks:=t' }:=by
 obtain ⟨m,⟨o,es,ep,ho,r⟩,_⟩:=id I.loc
 obtain ⟨sl,hL⟩:=u.any ho I.free (by simp)
 exact I.step (g':=s.gens) (d':=s.drawn) (ch:=[]) (fun _ z=>nomatch z) (fun b o _ hb _ e n=>u.keep b o e n hb (by simp)) (fun b o _ hb _ e n=>u.slot b o e n hb (by simp)) (fun b o _ e n=>u.free b o e n (by simp)) (fun b o _ e=>u.there b o e (by simp)) u.tups u.g8 u.iV (fun m' hm=>by
  obtain ⟨o',es',ep',ho',r'⟩:=hm
  rw [ho] at ho'; cases ho'
  exact ⟨_,es',ep',hL,r'⟩) hok I.bare
theorem Inv.call {g':Array GenState} {t':Nat} {d':Drawn} {ch:List Addr} (I:Inv X pins σ H s) (u:Un (frs X.stack) ch H H' s.heap h') (hok:HOk X.prog X.w H' h') (hg:AllBare g')
  (hch:∀ b∈ch,(b∈X.ex∨X.s₀.heap.objs.size≤b)∧b≠X.env.locals∧(∀ x c,X.env.cells.lookup x=some c->c≠b)∧∀ p∈X.pn++pins,p.1≠b) :
  Inv X pins σ H' { s with heap:=h',gens:=g',drawn:=d',toks:=t' }:=by
 obtain ⟨m,⟨o,es,ep,ho,r⟩,_⟩:=id I.loc
 obtain ⟨sl,hL⟩:=u.any ho I.free fun z=>(hch _ z).2.1 rfl
 exact I.step (ch:=ch) hch (fun b o hL hb hc e n=>u.keep b o e n (fun z=>(List.mem_cons.mp (I.wQ b z)).elim hL hb) hc) (fun b o _ _ hc e n=>u.any e n hc) (fun b o hc e n=>u.free b o e n hc) (fun b o hc e=>u.there b o e hc) u.tups u.g8 u.iV (fun m' hm=>by
  obtain ⟨o',es',ep',ho',r'⟩:=hm
  rw [ho] at ho'; cases ho'
  exact ⟨_,es',ep',hL,r'⟩) hok hg
theorem Inv.turned {t':Nat} {it:Addr} (I:Inv X pins σ H s) (k:∀ b o,b≠it->s.heap.get? b=some o->h'.get? b=some o) (hn:H it=none) (hL:it≠X.env.locals)
  (h1:it∈X.ex∨X.s₀.heap.objs.size≤it) (h2:∀ x c,X.env.cells.lookup x=some c->c≠it) (h3:∀ p∈X.pn++pins,p.1≠it):Inv X pins σ H { s with heap:=h',toks:=t' }:=by
 have nit:∀ b u,H b=some u->b≠it:=fun b u e z=>by rw [z,hn] at e; cases e
 refine I.step (g':=s.gens) (d':=s.drawn) (ch:=[it]) (fun b hb=>?_) (fun b o _ _ hc e _=>k b o (fun z=>hc (by simp [z])) e) (fun b o _ _ hc e _=>⟨o.slots,k b o (fun z=>hc (by simp [z])) e⟩) (fun _ _ _ _ n=>n)
  (fun b o hc e=>⟨o,k b o (fun z=>hc (by simp [z])) e⟩) (fun _ _ e=>e) (fun _ _ _ e=>e) (fun b ps e=>⟨#[],by rw [e]; simp⟩) (fun m hm=>?_) (fun b u e=>?_) I.bare
 ·have e:b=it:=by simpa using hb
  subst e
  exact ⟨h1,hL,h2,h3⟩
 ·obtain ⟨o,es,ep,ho,r⟩:=hm
  exact ⟨o,es,ep,k _ o (Ne.symm hL) ho,r⟩
 ·refine (I.hok b u e).stay (fun c v hc q=>k c v ?_ q) (fun _ q=>q) fun _ _ q=>q
  rcases hc with z | z
  ·rw [z]; exact nit b u e
  ·exact nit c _ z
theorem Inv.tok (I:Inv X pins σ H s) (t:Nat):Inv X pins σ H { s with toks:=t }:=I.un (h':=s.heap) (t':=t) Un.refl I.hok
theorem Inv.kept {t':Nat} (I:Inv X pins σ H s) (k:∀ b u,s.heap.get? b=some u->h'.get? b=some u):Inv X pins σ H { s with heap:=h',toks:=t' }:=I.un (Un.kept k) (I.hok.kept k)
theorem Inv.laid {a:Addr} {o:HO} {t':Nat} (I:Inv X pins σ H s) (k:∀ b u,s.heap.get? b=some u->h'.get? b=some u) (hp:s.heap.objs.size≤a) (new:b9 X.prog X.w (upd H a o) h' a o) :
  Inv X pins σ (upd H a o) { s with heap:=h',toks:=t' }:=I.un (Un.laid k hp (I.hok.fresh hp)) (I.hok.laid k hp new)
theorem Inv.write {x e:Addr} {o:HO} {t':Nat} (I:Inv X pins σ H s) (mu:Mut (H x)) (he:e=x∨H e=some (.own x)) (k:∀ b u,b≠e->s.heap.get? b=some u->h'.get? b=some u) (heo:∃ u,h'.get? e=some u)
  (new:b9 X.prog X.w (upd H x o) h' x o):Inv X pins σ (upd H x o) { s with heap:=h',toks:=t' }:=I.un (Un.write mu he k heo) (I.hok.write mu he k heo new)
theorem Inv.ye {Fh:List (Addr × Obj)} (I:Inv X pins σ H s) (h:∀ p∈Fh,s.heap.get? p.1=some p.2∧H p.1=none∧p.1≠X.env.locals∧p.1 ∉ X.fs∧∀ v,p.2.data≠.cell v):Inv X Fh σ H s :=
 ⟨I.ok,I.os,I.bare,I.base,I.loc,I.cell,I.free,I.gK,fun p hp=>(List.mem_append.mp hp).elim (fun z=>I.pin p (List.mem_append_left _ z)) (h p),I.hok,I.len⟩
theorem o5 {N:List Str} (hN:N.Nodup) {i j:Nat} {x:Str} (a:N[i]?=some x) (b:N[j]?=some x):i=j:=by
 obtain ⟨h1,e1⟩:=List.getElem?_eq_some_iff.mp a
 obtain ⟨h2,e2⟩:=List.getElem?_eq_some_iff.mp b
 exact (List.getElem_inj hN).mp (e1.trans e2.symm)
theorem zy {M:Model} {A:Around} {E:Value->Shared->Prop} {i:Nat} {x:Str} {v:V} {u:Value} {Q:Unit->Shared->Prop} (I:Inv X pins σ H s) (hN:X.N.Nodup) (hi:X.N[i]?=some x) (hx:Loc X.env.scope x) (r:RelV v u)
  (h:∀ s',Inv X pins (σ.set i (some v)) H s'->(∃ a,Heap.SameBut a s.heap s'.heap∧(a=X.env.locals∨X.env.cells.lookup x=some a))->Q () s') (hf:X.fn x=true∨X.env.scope.names.lookup x=some .local:=by first | exact .inl rfl | exact .inr rfl | assumption):wpAny M A (storeName X.env x u) Q E s:=by
 obtain ⟨m,hn,hl⟩:=id I.loc
 have hcls:(X.env.scope.kind == .class || (X.env.scope.kind == .module && X.env.locals != X.env.globals))=false:=by rw [I.ok.kind]; rfl
 have hiσ:i < σ.length:=by rw [I.len]; exact (List.getElem?_eq_some_iff.mp hi).1
 have cne:=I.cne
 have tracked:∀ {a:Addr} {h':Heap},(∃ o,s.heap.get? a=some o∧H a=none)->Heap.SameBut a s.heap h'->HOk X.prog X.w H h':=fun {a h'} ha hs b ob e=>by
  obtain ⟨_,_,hfree⟩:=ha
  refine (I.hok b ob e).stay (fun c w' hc q=>(hs.2 c ?_).trans q) (fun _ q=>q) fun _ _ q=>q
  rintro rfl
  rcases hc with rfl | hc
  ·rw [hfree] at e; cases e
  ·rw [hfree] at hc; cases hc
 rcases hx with hk | hk
 ·refine wpAny_storeName_local hk hn (fun h' hn' hs=>?_) hcls
  obtain ⟨oL,_,_,hoL,_⟩:=id hn
  refine h _ ⟨I.ok,I.os,I.bare,⟨fun b o e n hb hx=>?_,fun b o e n hb hx=>?_,I.base.free,fun b o e hx=>?_,I.base.tups,I.base.g8,I.base.iV⟩,⟨_,hn',fun j y v' e1 e2 e3=>?_⟩,fun y c e=>?_,I.free,I.gK,fun p hp=>?_,tracked ⟨oL,hoL,I.free⟩ hs,by simpa using I.len⟩ ⟨_,hs,.inl rfl⟩
  ·exact (hs.2 b (Nat.ne_of_lt (Nat.lt_of_lt_of_le (Heap.lt_size e) I.ok.above))).trans (I.base.keep b o e n hb hx)
  ·obtain ⟨sl,e1⟩:=I.base.slot b o e n hb hx
   exact ⟨sl,(hs.2 b (Nat.ne_of_lt (Nat.lt_of_lt_of_le (Heap.lt_size e) I.ok.above))).trans e1⟩
  ·obtain ⟨o',e1⟩:=I.base.there b o e hx
   exact ⟨o',(hs.2 b (Nat.ne_of_lt (Nat.lt_of_lt_of_le (Heap.lt_size e) I.ok.above))).trans e1⟩
  ·by_cases hj:j=i
   ·subst hj
    rw [hi] at e1; cases e1
    rw [List.getElem?_set_self hiσ] at e2
    cases e2
    exact ⟨u,r,.inl ⟨hk,by simp⟩⟩
   ·rw [List.getElem?_set_ne (Ne.symm hj)] at e2
    obtain ⟨u',r',q⟩:=hl j y v' e1 e2 e3
    refine ⟨u',r',?_⟩
    rcases q with ⟨k,e⟩ | ⟨k,c,e,z⟩
    ·refine .inl ⟨k,?_⟩
     have:y≠x:=fun e=>hj (o5 hN e1 (e ▸ hi))
     simp [this,e]
    ·exact .inr ⟨k,c,e,z.sameBut hs (cne y c e)⟩
  ·obtain ⟨w',z⟩:=I.cell y c e
   exact ⟨w',z.sameBut hs (cne y c e)⟩
  ·obtain ⟨e,n,ne,nf,d⟩:=I.pin p hp
   exact ⟨(hs.2 p.1 ne).trans e,n,ne,nf,d⟩
 ·have hfn:X.fn x=true:=by
   rcases hf with z | z
   ·exact z
   ·rw [z] at hk; cases hk
  obtain ⟨c,hc⟩:=I.ok.has x (.inl hk)
  obtain ⟨w',z⟩:=I.cell x c hc
  refine wpAny_storeName_cell I.ok.kind hk hc z (fun h' hc' hs=>?_)
  obtain ⟨oc,hoc,JJ⟩:=id z
  refine h { s with heap:=h' } ⟨I.ok,I.os,I.bare,⟨fun b o e n hb hx=>?_,fun b o e n hb hx=>?_,I.base.free,fun b o e hx=>?_,I.base.tups,I.base.g8,I.base.iV⟩,⟨m,hn.sameBut hs (Ne.symm (cne x c hc)),fun j y v' e1 e2 e3=>?_⟩,fun y c' e=>?_,I.free,I.gK,fun p hp=>?_,tracked ⟨oc,hoc,I.gK x c hc⟩ hs,by simpa using I.len⟩ ⟨c,hs,.inr hc⟩
  ·exact (hs.2 b (Nat.ne_of_lt (Nat.lt_of_lt_of_le (Heap.lt_size e) (I.ok.cab x c hfn hc)))).trans (I.base.keep b o e n hb hx)
  ·obtain ⟨sl,e1⟩:=I.base.slot b o e n hb hx
   exact ⟨sl,(hs.2 b (Nat.ne_of_lt (Nat.lt_of_lt_of_le (Heap.lt_size e) (I.ok.cab x c hfn hc)))).trans e1⟩
  ·obtain ⟨o',e1⟩:=I.base.there b o e hx
   exact ⟨o',(hs.2 b (Nat.ne_of_lt (Nat.lt_of_lt_of_le (Heap.lt_size e) (I.ok.cab x c hfn hc)))).trans e1⟩
  ·by_cases hj:j=i
   ·subst hj
    rw [hi] at e1; cases e1
    rw [List.getElem?_set_self hiσ] at e2
    cases e2
    exact ⟨u,r,.inr ⟨.inl hk,c,hc,hc'⟩⟩
   ·rw [List.getElem?_set_ne (Ne.symm hj)] at e2
    obtain ⟨u',r',q⟩:=hl j y v' e1 e2 e3
    refine ⟨u',r',?_⟩
    rcases q with q | ⟨k,c',e,z'⟩
    ·exact .inl q
    ·refine .inr ⟨k,c',e,z'.sameBut hs ?_⟩
     rintro rfl
     exact hj (o5 hN e1 (I.ok.inj _ _ _ e hc ▸ hi))
  ·by_cases hcc:c'=c
   ·subst hcc; exact ⟨_,hc'⟩
   ·obtain ⟨w2,z2⟩:=I.cell y c' e
    exact ⟨w2,z2.sameBut hs hcc⟩
  ·obtain ⟨e,n,ne,nf,d⟩:=I.pin p hp
   refine ⟨(hs.2 p.1 ?_).trans e,n,ne,nf,d⟩
   intro q
   rw [q,hoc] at e
   have q':oc=p.2:=Option.some.inj e
   exact d w' (by rw [← q']; exact JJ)
theorem o6 {M:Model} {A:Around} {E:Value->Shared->Prop} {i:Nat} {x:Str} {v:V} {u:Value} {Q:Unit->Shared->Prop} (I:Inv X pins σ H s) (hN:X.N.Nodup) (hi:X.N[i]?=some x) (hx:Loc X.env.scope x) (r:RelV v u)
  (h:∀ s',Inv X pins (σ.set i (some v)) H s'->Q () s') (hf:X.fn x=true∨X.env.scope.names.lookup x=some .local:=by first | exact .inl rfl | exact .inr rfl | assumption):wpAny M A (storeName X.env x u) Q E s :=
 zy I hN hi hx r (fun s' I' _=>h s' I') hf
theorem Inv.call' {s':Shared} {ch:List Addr} (I:Inv X pins σ H s) (ho:s'.os=s.os) (u:Un (frs X.stack) ch H H' s.heap s'.heap) (hok:HOk X.prog X.w H' s'.heap) (hg:AllBare s'.gens)
  (hch:∀ b∈ch,(b∈X.ex∨X.s₀.heap.objs.size≤b)∧b≠X.env.locals∧(∀ x c,X.env.cells.lookup x=some c->c≠b)∧∀ p∈X.pn++pins,p.1≠b):Inv X pins σ H' s':=by
 obtain ⟨h',g',d',t',o'⟩:=s'
 have e:o'=s.os:=ho
 subst e
 exact I.call (g':=g') (t':=t') (d':=d') u hok hg hch
end
abbrev XK:=Value->Option Addr->Hp->Prop
abbrev St:=List (Option V)
abbrev VK:=V->Hp->Prop
abbrev TE:=St->Hp->VK->Prop
abbrev TT:=St->Hp->(Bool->Hp->Prop)->Prop
abbrev TA:=St->Hp->(List V->Hp->Prop)->Prop
structure Ends where
 nx:St->Hp->Prop
 rt:VK
 bk:St->Hp->Prop:=fun _ _=>False
 ct:St->Hp->Prop:=fun _ _=>False
abbrev TS:=Ends->St->Hp->Prop
def EP (X:Cx) (pins:List (Addr × Obj)) (σ:St) (Q:VK) (u:Value) (s':Shared):Prop:=∃ v H',Inv X pins σ H' s'∧RelV v u∧Q v H'
def TP (X:Cx) (pins:List (Addr × Obj)) (σ:St) (Q:Bool->Hp->Prop) (b:Bool) (s':Shared):Prop:=∃ H',Inv X pins σ H' s'∧Q b H'
def AP (X:Cx) (pins:List (Addr × Obj)) (σ:St) (Q:List V->Hp->Prop) (us:List Value) (s':Shared):Prop:=∃ vs H',Inv X pins σ H' s'∧Vals vs us∧Q vs H'
def SP (X:Cx) (pins:List (Addr × Obj)) (D:Ends) (f:Flow) (s':Shared):Prop :=
 match f with
 | .next=>∃ σ' H',Inv X pins σ' H' s'∧D.nx σ' H'
 | .brk=>∃ σ' H',Inv X pins σ' H' s'∧D.bk σ' H'
 | .cont=>∃ σ' H',Inv X pins σ' H' s'∧D.ct σ' H'
 | .ret u=>∃ v σ' H',Inv X pins σ' H' s'∧RelV v u∧D.rt v H'
def PE (X:Cx) (e:Expr) (t:TE):Prop :=
 ∀ (pins:List (Addr × Obj)) (s:Shared) (σ:St) (H:Hp) (Q:VK),Inv X pins σ H s->t σ H Q->wpAny (model X.prog X.w) X.A (eval e X.env) (EP X pins σ Q) X.xe s
def PT (X:Cx) (e:Expr) (t:TT):Prop :=
 ∀ (pins:List (Addr × Obj)) (s:Shared) (σ:St) (H:Hp) (Q:Bool->Hp->Prop),Inv X pins σ H s->t σ H Q->wpAny (model X.prog X.w) X.A (isTrue e X.env (eval e X.env)) (TP X pins σ Q) X.xe s
def PW (X:Cx) (e:Expr) (t:TT):Prop :=
 ∀ (whole:Sem Value) (pins:List (Addr × Obj)) (s:Shared) (σ:St) (H:Hp) (Q:Bool->Hp->Prop),Inv X pins σ H s->t σ H Q->wpAny (model X.prog X.w) X.A (isTrue e X.env whole) (TP X pins σ Q) X.xe s
theorem PW.pt {X:Cx} {e:Expr} {t:TT} (h:PW X e t):PT X e t:=h _
def PA (X:Cx) (es:List Expr) (t:TA):Prop :=
 ∀ (pos:Pos) (pins:List (Addr × Obj)) (s:Shared) (σ:St) (H:Hp) (Q:List V->Hp->Prop),Inv X pins σ H s->t σ H Q->wpAny (model X.prog X.w) X.A (spliced (backTo pos (starEach es X.env))) (AP X pins σ Q) X.xe s
def PS (X:Cx) (st:Stmt) (t:TS):Prop :=
 ∀ (pins:List (Addr × Obj)) (s:Shared) (σ:St) (H:Hp) (D:Ends),Inv X pins σ H s->t D σ H->wpAny (model X.prog X.w) X.A (exec st X.env) (SP X pins D) X.xe s
def PSs (X:Cx) (st:List Stmt) (t:TS):Prop :=
 ∀ (pins:List (Addr × Obj)) (s:Shared) (σ:St) (H:Hp) (D:Ends),Inv X pins σ H s->t D σ H->wpAny (model X.prog X.w) X.A (execs st X.env) (SP X pins D) X.xe s
theorem thn {α:Type} {t:Sem α} {Q Q' : α->Shared->Prop} {M:Model} {A:Around} {E:Value->Shared->Prop} {s:Shared} (h:wpAny M A t Q E s) (hQ:∀ a s,Q a s->Q' a s):wpAny M A t Q' E s:=wpAny_mono h hQ fun _ _ x=>x
end L2
namespace L2
open PySem PySem.Spec PyProof.Rows
section
variable {X:Cx}
def lz (i:Nat):TE:=fun σ H Q=>∃ v,σ[i]?=some (some v)∧Q v H
def tC (v:V):TE:=fun _ H Q=>Q v H
theorem F5 {i:Nat} {x:Str} {pos:Pos} (hN:X.N[i]?=some x) (hv:Vis X.env.scope x) (hd:(x == ("__debug__":Str))=false:=by decide) (hcd:(x == ("__classdict__":Str))=false:=by decide):PE X (.Name x pos) (lz i):=by
 intro pins s σ H Q I h
 obtain ⟨v,e,h⟩:=h
 obtain ⟨m,hn,hl⟩:=I.loc
 obtain ⟨u,r,l⟩:=hl i x v hN e hv
 have fin:EP X pins σ Q u s:=⟨v,H,I,r,h⟩
 rcases l with ⟨hk,hm⟩ | ⟨hk,c,hc,hcell⟩
 ·exact wpAny_Name (wpAny_loadName_local I.ok.kind hk hn hm fin) hd
 ·rcases hk with hk | hk
  ·exact wpAny_Name (wpAny_loadName_cell I.ok.kind hk hc hcell fin) hd
  ·exact wpAny_Name (wpAny_loadName_free I.ok.kind hk hc hcell fin hcd) hd
theorem ax {i j pos}:PE X (.Constant (.int i) j pos) (tC (.int i)):=fun _ _ _ H _ I h=>wpAny_Constant_int ⟨.int i,H,I.tok _,⟨_,rfl⟩,h⟩
theorem cE {b j pos}:PE X (.Constant (.bool b) j pos) (tC (.bl b)):=fun _ _ _ H _ I h=>Constant_bool ⟨.bl b,H,I,rfl,h⟩
theorem dF {j pos}:PE X (.Constant .none j pos) (tC .non):=fun _ _ _ H _ I h=>Constant_none ⟨.non,H,I,rfl,h⟩
theorem dR {x j pos}:PE X (.Constant (.str x) j pos) (tC (.str x)):=fun _ _ _ H _ I h=>Calls.Constant_str ⟨.str x,H,I.tok _,⟨_,rfl⟩,h⟩
def Gl (X:Cx) (x:Str):Prop:=X.env.kindOf x=some .globalImplicit
theorem lR {E:Value->Shared->Prop} {pins:List (Addr × Obj)} {s:Shared} {σ:St} {H:Hp} {x:Str} {u:Value} {pos:Pos} {Q:Value->Shared->Prop} (I:Inv X pins σ H s) (hg:Gl X x) (hm:X.mg x=some u) (h:Q u s)
  (hd:(x == ("__debug__":Str))=false:=by decide):wpAny (model X.prog X.w) X.A (eval (.Name x pos) X.env) Q E s :=
 Calls.Name_function_global I.ok.kind hg (Calls.loadGlobal_global (by rw [I.ok.glob]; exact I.mod.glob.keeps I.bk) hm h) hd
theorem o7 {E:Value->Shared->Prop} {pins:List (Addr × Obj)} {s:Shared} {σ:St} {H:Hp} {x:Str} {u:Value} {pos:Pos} {Q:Value->Shared->Prop} (I:Inv X pins σ H s) (hg:Gl X x) (hm:X.mg x=none) (hv:bootBuiltins x=some u) (h:Q u s)
  (hn:x≠"__name__":=by decide) (hd:(x == ("__debug__":Str))=false:=by decide):wpAny (model X.prog X.w) X.A (eval (.Name x pos) X.env) Q E s:=by
 obtain ⟨mb,h1,h2⟩:=I.mod.blt
 exact Calls.Name_function_global I.ok.kind hg (Calls.loadGlobal_builtin (by rw [I.ok.glob]; exact I.mod.glob.keeps I.bk) hm (by rw [I.ok.blt]; exact h1.keeps I.bk) ((h2 x hn).trans hv) h) hd
theorem lS {x:Str} {v:V} {u:Value} {pos:Pos} (hg:Gl X x) (hm:X.mg x=some u) (r:RelV v u) (hd:(x == ("__debug__":Str))=false:=by decide):PE X (.Name x pos) (tC v) :=
 fun _ _ _ H _ I h=>lR I hg hm ⟨v,H,I,r,h⟩ hd
theorem Dk {x:Str} {v:V} {u:Value} {pos:Pos} (hg:Gl X x) (hm:X.mg x=none) (hv:bootBuiltins x=some u) (r:RelV v u) (hn:x≠"__name__":=by decide) (hd:(x == ("__debug__":Str))=false:=by decide):PE X (.Name x pos) (tC v) :=
 fun _ _ _ H _ I h=>o7 I hg hm hv ⟨v,H,I,r,h⟩ hn hd
variable {a b:Expr} {ta tb:TE} {pos:Pos}
def PC (X:Cx) (op:CmpOp) (a b:Expr) (t:TE):Prop :=
 ∀ (pins:List (Addr × Obj)) (s:Shared) (σ:St) (H:Hp) (Q:VK),Inv X pins σ H s->t σ H Q ->
  wpAny (model X.prog X.w) X.A (eval a X.env) (fun v s₁=>wpAny (model X.prog X.w) X.A (eval b X.env) (fun u s₂=>wpAny (model X.prog X.w) X.A (compareOp op v u) (EP X pins σ Q) X.xe s₂) X.xe s₁) X.xe s
def tB (t:TE):TT:=fun σ H Q=>t σ H fun x H1=>∃ c,x=.bl c∧Q c H1
theorem wR {op:CmpOp} {t:TE} (h:PC X op a b t) (h1:behindInMarks op b=false:=by first | exact HS _ (by decide) (by decide) | rfl):PT X (.Compare a [op] [b] pos) (tB t):=by
 intro pins s σ H Q I hw
 refine wpAny_isTrue_Compare1 (thn (h pins s σ H _ I hw) fun v s1 h1=>thn h1 fun u s2 h2=>thn h2 fun c s3 ⟨x,H1,I1,r1,q1⟩=>?_) h1
 obtain ⟨d,rfl,q⟩:=q1
 cases r1
 exact wpAny_truthy_bool ⟨H1,I1,q⟩
theorem dG {e:Expr} {t:TE} (h:PE X e t) (he:∀ whole,isTrue e X.env whole=(do let v ← whole; standAt e.pos; holding [v] (truthy v)):=by intro _; rfl):PT X e (tB t):=by
 intro pins s σ H Q I hw
 refine isTrue_plain (thn (h pins s σ H _ I hw) fun v s1 ⟨x,H1,I1,r1,q1⟩=>?_) (he _)
 obtain ⟨d,rfl,q⟩:=q1
 cases r1
 exact wpAny_truthy_bool ⟨H1,I1,q⟩
variable {tA tB':TT} {rest:List Expr}
def HU (t u:TT):TT:=fun σ H Q=>t σ H fun c H1=>if c=true then u σ H1 Q else Q false H1
def tOr (t u:TT):TT:=fun σ H Q=>t σ H fun c H1=>if c=true then Q true H1 else u σ H1 Q
def HV (t:TT):TT:=fun σ H Q=>t σ H fun c H1=>Q (!c) H1
theorem sI (ha:PT X a tA):PW X (.BoolOp .And [a] pos) tA:=by
 intro wh pins s σ H Q I h
 refine isTrue_and (thn (ha pins s σ H Q I h) fun c s1 e=>?_)
 cases c with
 | true=>exact isTrue_and_nil e
 | false=>exact e
theorem iW (ha:PT X a tA):PW X (.BoolOp .Or [a] pos) tA:=by
 intro wh pins s σ H Q I h
 refine isTrue_or (thn (ha pins s σ H Q I h) fun c s1 e=>?_)
 cases c with
 | false=>exact isTrue_or_nil e
 | true=>exact e
theorem wU (ha:PT X a tA) (hb:PW X (.BoolOp .And (b::rest) pos) tB'):PW X (.BoolOp .And (a::b::rest) pos) (HU tA tB'):=by
 intro wh pins s σ H Q I h
 refine isTrue_and (thn (ha pins s σ H _ I h) fun c s1 ⟨H1,I1,q1⟩=>?_)
 cases c with
 | true=>exact hb wh pins s1 σ H1 Q I1 q1
 | false=>exact ⟨H1,I1,q1⟩
theorem g9 (ha:PT X a tA) (hb:PW X (.BoolOp .Or (b::rest) pos) tB'):PW X (.BoolOp .Or (a::b::rest) pos) (tOr tA tB'):=by
 intro wh pins s σ H Q I h
 refine isTrue_or (thn (ha pins s σ H _ I h) fun c s1 ⟨H1,I1,q1⟩=>?_)
 cases c with
 | true=>exact ⟨H1,I1,q1⟩
 | false=>exact hb wh pins s1 σ H1 Q I1 q1
theorem gz (ha:PT X a tA):PT X (.UnaryOp .Not a pos) (HV tA):=by
 intro pins s σ H Q I h
 exact isTrue_not (ha pins s σ H (fun c H1=>Q (!c) H1) I h)
end
end L2
namespace L2
open PySem PySem.Spec PyProof.Rows
def SqL (K:PySem.W.Frag) (H:Hp) (a:Addr) (xs:List V):Prop :=
 Rd H a (.lst xs) ∨
  ∃ (o:Obj) (its:Array Value) (n:Nat),K.lookup a=some o∧o.cls=.type "list"∧o.dict=none∧o.data=.seq its n∧its.size≤sizeLine∧Vals xs its.toList
def SqT (K:PySem.W.Frag) (H:Hp) (a:Addr) (xs:List V):Prop :=
 Rd H a (.tup xs) ∨
  ∃ (o:Obj) (its:Array Value) (n:Nat),K.lookup a=some o∧o.cls=.type "tuple"∧o.data=.seq its n∧its.size≤sizeLine∧Vals xs its.toList
def JK:Value->Option V
 | .none=>some .non
 | .bool b=>some (.bl b)
 | .int i _=>some (.int i)
 | .str x _=>some (.str x)
 | .bytes b _=>some (.byt b)
 | .float b _=>some (.flt b)
 | .ref a=>some (.ref a)
 | .type n=>some (.ty n)
 | _=>none
theorem RelV.abs {x:V} {u:Value} (r:RelV x u):JK u=some x:=by
 cases x with
 | non=>cases r; rfl
 | bl _=>cases r; rfl
 | int _=>obtain ⟨t,rfl⟩:=r; rfl
 | str _=>obtain ⟨t,rfl⟩:=r; rfl
 | byt _=>obtain ⟨t,rfl⟩:=r; rfl
 | flt _=>obtain ⟨t,rfl⟩:=r; rfl
 | ref _=>cases r; rfl
 | ty _=>cases r; rfl
theorem RelV.inj {x y:V} {u:Value} (r:RelV x u) (q:RelV y u):x=y:=Option.some.inj (r.abs.symm.trans q.abs)
theorem Vals.inj:∀ {xs ys:List V} {us:List Value},Vals xs us->Vals ys us->xs=ys
 | _,_,_,.nil,.nil=>rfl
 | _,_,_,.cons r t,.cons r' t'=>by rw [r.inj r',Vals.inj t t']
section
variable {X:Cx} {pins:List (Addr × Obj)} {σ:St} {H:Hp} {s:Shared} {a:Addr} {xs ys:List V}
theorem SqL.of {K:PySem.W.Frag} (h:H a=some (.lst xs)):SqL K H a xs:=.inl (.inl h)
theorem SqT.of {K:PySem.W.Frag} (h:H a=some (.tup xs)):SqT K H a xs:=.inl (.inl h)
theorem Inv.list (I:Inv X pins σ H s) (h:SqL X.K H a xs):∃ its:List Value,Vals xs its∧PlainL s.heap a its.toArray∧xs.length≤sizeLine:=by
 rcases h with h | ⟨o,its,n,hk,hc,hd,hs,hz,r⟩
 ·obtain ⟨z,its,n,r,e⟩:=h.ok I.hok
  exact ⟨its,r,⟨_,n,e,rfl,rfl,rfl⟩,z⟩
 ·refine ⟨its.toList,r,⟨o,n,I.kIn a o hk,hc,hd,by simpa using hs⟩,?_⟩
  have e:=r.length
  simp only [Array.length_toList] at e
  omega
theorem Inv.tuple (I:Inv X pins σ H s) (h:SqT X.K H a xs):∃ its:List Value,Vals xs its∧IsTup s.heap a its.toArray∧xs.length≤sizeLine:=by
 rcases h with h | ⟨o,its,n,hk,hc,hs,hz,r⟩
 ·obtain ⟨z,its,r,p⟩:=h.ok I.hok
  exact ⟨its,r,p,z⟩
 ·refine ⟨its.toList,r,⟨o,I.kIn a o hk,hc,n,by simpa using hs⟩,?_⟩
  have e:=r.length
  simp only [Array.length_toList] at e
  omega
theorem Inv.uD (I:Inv X pins σ H s) (h:SqL X.K H a xs) (h':SqL X.K H a ys):xs=ys:=by
 obtain ⟨its,r,⟨o,n,e,_,_,d⟩,_⟩:=I.list h
 obtain ⟨its',r',⟨o',n',e',_,_,d'⟩,_⟩:=I.list h'
 rw [e] at e'; cases e'
 rw [d] at d'
 injection d' with d1 _
 have:its=its':=by simpa using congrArg Array.toList d1
 subst this
 exact r.inj r'
theorem Inv.zz (I:Inv X pins σ H s) (h:SqT X.K H a xs) (h':SqT X.K H a ys):xs=ys:=by
 obtain ⟨its,r,⟨o,e,_,n,d⟩,_⟩:=I.tuple h
 obtain ⟨its',r',⟨o',e',_,n',d'⟩,_⟩:=I.tuple h'
 rw [e] at e'; cases e'
 rw [d] at d'
 injection d' with d1 _
 have:its=its':=by simpa using congrArg Array.toList d1
 subst this
 exact r.inj r'
end
abbrev Cx.wish (X:Cx) (E:Value->Shared->Prop):Cx:={ X with xe:=E }
abbrev Cx.nox (X:Cx):Cx:=X.wish fun _ _=>False
theorem Cx.Ok.wish {X:Cx} (ok:X.Ok) (E:Value->Shared->Prop):(X.wish E).Ok :=
 ⟨ok.mod,ok.kind,ok.glob,ok.blt,ok.above,ok.inj,ok.has,ok.cab,ok.hd,ok.frames,ok.stk,ok.exf,ok.bs,ok.bsz,ok.wO,ok.uC,ok.ly,ok.frf⟩
theorem Cx.Ok.iX {X:Cx} {E:Value->Shared->Prop} (ok:(X.wish E).Ok):X.Ok :=
 ⟨ok.mod,ok.kind,ok.glob,ok.blt,ok.above,ok.inj,ok.has,ok.cab,ok.hd,ok.frames,ok.stk,ok.exf,ok.bs,ok.bsz,ok.wO,ok.uC,ok.ly,ok.frf⟩
section
variable {X:Cx} {pins:List (Addr × Obj)} {σ:St} {H:Hp} {s:Shared} {E:Value->Shared->Prop}
theorem Inv.wish (I:Inv X pins σ H s) (E:Value->Shared->Prop):Inv (X.wish E) pins σ H s:=⟨I.ok.wish E,I.os,I.bare,I.base,I.loc,I.cell,I.free,I.gK,I.pin,I.hok,I.len⟩
theorem Inv.iX (I:Inv (X.wish E) pins σ H s):Inv X pins σ H s:=⟨I.ok.iX,I.os,I.bare,I.base,I.loc,I.cell,I.free,I.gK,I.pin,I.hok,I.len⟩
theorem SP.iX {D:Ends} {f:Flow} {s':Shared} (h:SP (X.wish E) pins D f s'):SP X pins D f s':=by
 cases f with
 | next=>obtain ⟨σ',H',I,q⟩:=h; exact ⟨σ',H',I.iX,q⟩
 | brk=>obtain ⟨σ',H',I,q⟩:=h; exact ⟨σ',H',I.iX,q⟩
 | cont=>obtain ⟨σ',H',I,q⟩:=h; exact ⟨σ',H',I.iX,q⟩
 | ret u=>obtain ⟨v,σ',H',I,r,q⟩:=h; exact ⟨v,σ',H',I.iX,r,q⟩
theorem PE.nox {e:Expr} {t:TE} (h:PE X.nox e t):PE X e t:=fun pins s σ H Q I hw =>
 wpAny_mono (h pins s σ H Q (I.wish _) hw) (fun _ _ ⟨v,H',I',r,q⟩=>⟨v,H',I'.iX,r,q⟩) fun _ _ z=>False.elim z
theorem PT.nox {e:Expr} {t:TT} (h:PT X.nox e t):PT X e t:=fun pins s σ H Q I hw =>
 wpAny_mono (h pins s σ H Q (I.wish _) hw) (fun _ _ ⟨H',I',q⟩=>⟨H',I'.iX,q⟩) fun _ _ z=>False.elim z
theorem PSs.nox {st:List Stmt} {t:TS} (h:PSs X.nox st t):PSs X st t:=fun pins s σ H D I hw =>
 wpAny_mono (h pins s σ H D (I.wish _) hw) (fun _ _ q=>q.iX) fun _ _ z=>False.elim z
end
section
variable {X:Cx} {st:Stmt} {rest:List Stmt} {t u:TS} {e:Expr} {te:TE} {pos:Pos}
def yf:TS:=fun D σ H=>D.nx σ H
def zA (t u:TS):TS:=fun D σ H=>t { D with nx:=u D } σ H
theorem bD:PSs X [] yf:=fun _ _ σ H _ I h=>wpAny_execs_nil ⟨σ,H,I,h⟩
theorem av (h1:PS X st t) (h2:PSs X rest u):PSs X (st::rest) (zA t u):=by
 intro pins s σ H D I h
 refine wpAny_execs_cons (thn (h1 pins s σ H { D with nx:=u D } I h) fun f s1 q=>?_)
 cases f with
 | next =>
  obtain ⟨σ',H',I',q⟩:=q
  exact h2 pins s1 σ' H' D I' q
 | ret v=>exact q
 | brk=>exact q
 | cont=>exact q
theorem aE (h1:PS X st t):PSs X [st] t:=by
 intro pins s σ H D I h
 refine wpAny_execs_cons (thn (h1 pins s σ H D I h) fun f s1 q=>?_)
 cases f with
 | next=>exact wpAny_execs_nil q
 | ret v=>exact q
 | brk=>exact q
 | cont=>exact q
theorem Inv.quiet {pins:List (Addr × Obj)} {σ:St} {H:Hp} {s:Shared} (I:Inv X pins σ H s):interactive X.env=false:=by simp [interactive,I.ok.kind]
def uE (te:TE):TS:=fun D σ H=>te σ H fun _ H1=>D.nx σ H1
theorem dJ (he:PE X e te) (hs:swapsWith e none pos.line X.env=pure false:=by rfl):PS X (.Expr e pos) (uE te):=by
 intro pins s σ H D I h
 exact wpAny_Expr_any (thn (he pins s σ H _ I h) fun v s1 ⟨x,H1,I1,r1,q1⟩=>⟨σ,H1,I1,q1⟩) I.quiet hs
def AI (te:TE):TS:=fun D σ H=>te σ H D.rt
theorem a0 (he:PE X e te):PS X (.Return (some e) pos) (AI te):=by
 intro pins s σ H D I h
 exact wpAny_Return_some (thn (he pins s σ H _ I h) fun v s1 ⟨x,H1,I1,r1,q1⟩=>⟨x,σ,H1,I1,r1,q1⟩)
def AJ (c:TT) (t u:TS):TS:=fun D σ H=>c σ H fun b H1=>if b=true then t D σ H1 else u D σ H1
theorem cO {c:Expr} {a b:List Stmt} {tc:TT} (hc:PT X c tc) (ha:PSs X a t) (hb:PSs X b u):PS X (.If c a b pos) (AJ tc t u):=by
 intro pins s σ H D I h
 refine wpAny_If (thn (hc pins s σ H _ I h) fun d s1 ⟨H1,I1,q1⟩=>?_)
 cases d with
 | true=>exact ha pins s1 σ H1 D I1 q1
 | false=>exact hb pins s1 σ H1 D I1 q1
def wV:TS:=fun _ _ _=>False
theorem jj:PS X st wV:=fun _ _ _ _ _ _ h=>h.elim
end
abbrev TG:=V->St->Hp->(St->Hp->Prop)->Prop
abbrev TGs:=List V->St->Hp->(St->Hp->Prop)->Prop
def PG (X:Cx) (target:Expr) (t:TG):Prop :=
 ∀ (pins:List (Addr × Obj)) (s:Shared) (σ:St) (H:Hp) (v:V) (u:Value) (Q:St->Hp->Prop),Inv X pins σ H s->RelV v u->t v σ H Q ->
  wpAny (model X.prog X.w) X.A (assign target X.env u) (fun _ s'=>∃ σ' H',Inv X pins σ' H' s'∧Q σ' H') X.xe s
def PGs (X:Cx) (ts:List Expr) (t:TGs):Prop :=
 ∀ (pins:List (Addr × Obj)) (s:Shared) (σ:St) (H:Hp) (vs:List V) (us:List Value) (Q:St->Hp->Prop),Inv X pins σ H s->Vals vs us->t vs σ H Q ->
  wpAny (model X.prog X.w) X.A (assignInOrder ((assignEach ts X.env).map (·.2)) us) (fun _ s'=>∃ σ' H',Inv X pins σ' H' s'∧Q σ' H') X.xe s
abbrev JL:=V->V->V->Hp->(Hp->Prop)->Prop
section
variable {X:Cx} {pos:Pos}
def o8 (i:Nat):TG:=fun v σ H Q=>Q (σ.set i (some v)) H
theorem aY {i:Nat} {x:Str} (hN:X.N.Nodup) (hi:X.N[i]?=some x) (hx:Loc X.env.scope x) (hf:X.fn x=true∨X.env.scope.names.lookup x=some .local:=by first | exact .inl rfl | exact .inr rfl | assumption):PG X (.Name x pos) (o8 i):=by
 intro pins s σ H v u Q I r h
 exact wpAny_assign_Name (o6 I hN hi hx r (fun s' I'=>⟨_,H,I',h⟩) hf)
def F6:TGs:=fun vs σ H Q=>vs=[]∧Q σ H
def AK (t:TG) (u:TGs):TGs:=fun vs σ H Q=>∃ v r,vs=v::r∧t v σ H fun σ' H'=>u r σ' H' Q
theorem gN:PGs X [] F6:=by
 intro pins s σ H vs us Q I r h
 obtain ⟨e,h⟩:=h
 subst e
 cases r
 exact assignInOrder_nil ⟨σ,H,I,h⟩
theorem bc {e:Expr} {es:List Expr} {t:TG} {u:TGs} (h1:PG X e t) (h2:PGs X es u)
  (hs:(assignEach (e::es) X.env).map (·.2)=assign e X.env::(assignEach es X.env).map (·.2):=by rfl):PGs X (e::es) (AK t u):=by
 intro pins s σ H vs us Q I r h
 obtain ⟨v,vr,e1,h⟩:=h
 subst e1
 cases r with
 | cons r rr =>
  rw [hs]
  refine assignInOrder_cons (thn (h1 pins s σ H _ _ _ I r h) fun _ s1 ⟨σ1,H1,I1,q1⟩=>?_)
  exact h2 pins s1 σ1 H1 _ _ Q I1 rr q1
def lT (to ti:TE) (t:JL):TG:=fun v σ H Q=>to σ H fun o H1=>ti σ H1 fun i H2=>t o i v H2 fun H3=>Q σ H3
def zB (te:TE) (g:TG):TS:=fun D σ H=>te σ H fun x H1=>g x σ H1 D.nx
theorem lA {tg e:Expr} {te:TE} {g:TG} (he:PE X e te) (hg:PG X tg g) (hs:swapsWithSole [tg] e pos.line X.env=pure false:=by rfl) (hw:swappedStores [tg] e X.env=pure none:=by rfl)
  (h1:(assignEach [tg] X.env).map (·.2)=[assign tg X.env]:=by rfl):PS X (.Assign [tg] e pos) (zB te g):=by
 intro pins s σ H D I h
 refine wpAny_Assign_stores (thn (he pins s σ H _ I h) fun v s1 ⟨x,H1,I1,r1,q1⟩=>?_) hs hw
 rw [h1]
 exact thn (hg pins s1 σ H1 x v _ I1 r1 q1) fun _ s2 q=>q
theorem bg {i:Nat} {x:Str} {e:Expr} {te:TE} {pos':Pos} (hN:X.N.Nodup) (hi:X.N[i]?=some x) (hx:Loc X.env.scope x) (he:PE X e te) (hs:swapsWith e (some (.Name x pos')) pos.line X.env=pure false:=by rfl) (hf:X.fn x=true∨X.env.scope.names.lookup x=some .local:=by first | exact .inl rfl | exact .inr rfl | assumption) :
  PS X (.Assign [.Name x pos'] e pos) (zB te (o8 i)):=by
 intro pins s σ H D I h
 refine wpAny_Assign_Name (thn (he pins s σ H _ I h) fun v s1 ⟨y,H1,I1,r1,q1⟩=>?_) hs
 exact o6 I1 hN hi hx r1 (fun s2 I2=>⟨_,H1,I2,q1⟩) hf
end
section
variable {X:Cx} {pos:Pos}
def AL (c:TT) (tb:TS):TS:=fun D σ H=>∃ W:Nat->St->Hp->Prop,(∃ m,W m σ H)∧∀ m σ H,W m σ H ->
 c σ H fun b H1=>if b=true then ∃ N:St->Hp->Prop,(∀ σ' H',N σ' H'->∃ m',m' < m∧W m' σ' H')∧tb { D with nx:=N,ct:=N,bk:=D.nx } σ H1 else D.nx σ H1
theorem uF {c:Expr} {body:List Stmt} {tc:TT} {tb:TS} (hp:PassesOwn (model X.prog X.w) X.A X.env X.xe) (hc:PT X c tc) (hb:PSs X body tb):PS X (.While c body [] pos) (AL tc tb):=by
 intro pins s σ H D I h
 obtain ⟨W,⟨m0,w0⟩,turn⟩:=h
 refine wpAny_While (codeAny_whileLoop (fun n s'=>∃ σ' H',Inv X pins σ' H' s'∧W n σ' H') ?_ m0 ⟨σ,H,I,w0⟩)
 rintro n s1 ⟨σ1,H1,I1,w1⟩
 refine wpAny_passesOwn hp (thn (hc pins s1 σ1 H1 _ I1 (turn n σ1 H1 w1)) fun b s2 ⟨H2,I2,q2⟩=>?_)
 cases b with
 | true =>
  obtain ⟨N,hN,q2⟩:=q2
  rw [if_pos rfl]
  refine wpAny_passesOwn hp (thn (hb pins s2 σ1 H2 _ I2 q2) fun f s3 q3=>?_)
  cases f with
  | next =>
   obtain ⟨σ3,H3,I3,n3⟩:=q3
   obtain ⟨m',hm,w3⟩:=hN σ3 H3 n3
   exact ⟨m',hm,σ3,H3,I3,w3⟩
  | cont =>
   obtain ⟨σ3,H3,I3,n3⟩:=q3
   obtain ⟨m',hm,w3⟩:=hN σ3 H3 n3
   exact ⟨m',hm,σ3,H3,I3,w3⟩
  | brk=>exact q3
  | ret v=>exact q3
 | false =>
  rw [if_neg Bool.false_ne_true]
  exact wpAny_execs_nil ⟨σ1,H2,I2,q2⟩
end
structure It where
 go:Nat->Hp->Prop
 yld:Nat->Hp->V->Hp->Prop
 stop:Nat->Hp->Prop
def ou (X:Cx) (pins:List (Addr × Obj)) (H:Hp) (b:Addr):Prop :=
 H b=none∧b≠X.env.locals∧b ∉ X.fs∧(b∈X.ex∨X.s₀.heap.objs.size≤b)∧(∀ x c,X.env.cells.lookup x=some c->c≠b)∧∀ p∈X.pn++pins,p.1≠b
theorem Inv.wW {X:Cx} {pins:List (Addr × Obj)} {σ:St} {H H':Hp} {s:Shared} {b:Addr} (I:Inv X pins σ H s) (hb:s.heap.objs.size≤b) (hn:H' b=none):ou X pins H' b:=by
 refine ⟨hn,Nat.ne_of_gt (Nat.lt_of_lt_of_le I.lt hb),I.JI hb,.inr (Nat.le_trans I.sz hb),fun x c e z=>?_,fun p hp z=>?_⟩
 ·obtain ⟨v,q⟩:=I.cell x c e
  exact absurd (Nat.lt_of_lt_of_le q.lt (by rw [z]; exact hb)) (Nat.lt_irrefl _)
 ·exact absurd (Nat.lt_of_lt_of_le (Heap.lt_size (I.pin p hp).1) (by rw [z]; exact hb)) (Nat.lt_irrefl _)
structure Turn (P:Program) (w:World) (K:PySem.W.Frag) (tg:Expr) (J:It) (fp:List Addr) (it:Addr) (tn:Nat->Heap->Prop):Prop where
 mem:it∈fp
 obj:∀ i h,tn i h->∀ b∈fp,∃ o,h.get? b=some o∧∀ v,o.data≠.cell v
 keep:∀ i h h',tn i h->(∀ b∈fp,∀ o,h.get? b=some o->h'.get? b=some o)->tn i h'
 item:∀ (X:Cx),X.prog=P->X.w=w->X.K=K->X.calm=true->∀ (i:Nat) (pins:List (Addr × Obj)) (s:Shared) (σ:St) (H:Hp) (E:Value->Shared->Prop),Inv X pins σ H s->(∀ b∈fp,ou X pins H b)->tn i s.heap->J.go i H ->
  wpAny (model P w) X.A (pyNext (.ref it)) (fun r s1=>∃ u,r=some u ∧
   wpAny (model P w) X.A (letOwnedTupleGo tg (.ref it) u) (fun _ s2=>∃ x H',Inv X pins σ H' s2∧RelV x u∧J.yld i H x H'∧tn (i + 1) s2.heap∧∀ b∈fp,H' b=none) E s1) E s
 done:∀ (X:Cx),X.prog=P->X.w=w->X.K=K->X.calm=true->∀ (i:Nat) (pins:List (Addr × Obj)) (s:Shared) (σ:St) (H:Hp) (E:Value->Shared->Prop),Inv X pins σ H s->(∀ b∈fp,ou X pins H b)->tn i s.heap->J.stop i H ->
  wpAny (model P w) X.A (pyNext (.ref it)) (fun r s1=>r=none∧Inv X pins σ H s1) E s
 self:∀ (A:Around) (i:Nat) (s:Shared) (Q:Value->Shared->Prop) (E:Value->Shared->Prop),tn i s.heap->Q (.ref it) s->wpAny (model P w) A (pyIter (.ref it)) Q E s
abbrev TI:=St->Hp->(It->Hp->Prop)->Prop
def PIE (X:Cx) (pins:List (Addr × Obj)) (σ:St) (tg:Expr) (R:It->Hp->Prop) (itv:Value) (s2:Shared):Prop :=
 ∃ (it:Addr) (fp:List Addr) (tn:Nat->Heap->Prop) (J:It) (H':Hp),itv=.ref it∧Inv X pins σ H' s2∧Turn X.prog X.w X.K tg J fp it tn∧tn 0 s2.heap∧(∀ b∈fp,ou X pins H' b)∧R J H'
def PI (X:Cx) (tg iter:Expr) (wi:TI):Prop :=
 ∀ (pins:List (Addr × Obj)) (s:Shared) (σ:St) (H:Hp) (R:It->Hp->Prop),Inv X pins σ H s->wi σ H R ->
  wpAny (model X.prog X.w) X.A (eval iter X.env) (fun v s1=>wpAny (model X.prog X.w) X.A (pyIter v) (PIE X pins σ tg R) X.xe s1) X.xe s
theorem yg {M:Model} {A:Around} {E:Value->Shared->Prop} {s:Shared} {tg:Expr} {it:Addr} {u:Value} {o:Obj} {n:String} {vs:Array Value} {Q:Unit->Shared->Prop} (ho:s.heap.get? it=some o) (hc:o.cls=.type n) (hd:o.data=.fields vs)
  (hn : ["enumerate","zip","dict_itemiterator","dict_reverseitemiterator","odict_iterator","itertools.zip_longest","itertools.pairwise"].contains n=false) (hQ:Q () s):wpAny M A (letOwnedTupleGo tg (.ref it) u) Q E s:=by
 unfold letOwnedTupleGo
 cases tg <;> first
  | exact wpAny_pure hQ
  | (cases u <;> first
    | exact wpAny_pure hQ
    | (refine wpAny_bind (wpAny_load ho ?_)
       rw [hc,hd]
       show wpAny M A (if (["enumerate","zip","dict_itemiterator","dict_reverseitemiterator","odict_iterator","itertools.zip_longest","itertools.pairwise"].contains n && vs[0]? == some (rawInt _))=true then _ else _) Q E s
       rw [if_neg (by intro h; rw [hn,Bool.false_and] at h; cases h)]
       exact wpAny_pure hQ))
def Itl (K:PySem.W.Frag) (a:Addr):It :=
 ⟨fun i H=>∃ xs x,SqL K H a xs∧xs[i]?=some x,fun i H x H'=>H'=H∧∀ xs,SqL K H a xs->xs[i]?=some x,fun i H=>∃ xs,SqL K H a xs∧xs.length≤i⟩
def Itt (K:PySem.W.Frag) (a:Addr):It :=
 ⟨fun i H=>∃ xs x,SqT K H a xs∧xs[i]?=some x,fun i H x H'=>H'=H∧∀ xs,SqT K H a xs->xs[i]?=some x,fun i H=>∃ xs,SqT K H a xs∧xs.length≤i⟩
def Itr (lo:Int) (n:Nat):It:=⟨fun i _=>i < n,fun i H x H'=>H'=H∧x=.int (lo + i),fun i _=>n≤i⟩
theorem zC {P:Program} {w:World} {K:PySem.W.Frag} {tg:Expr} (a it:Addr):Turn P w K tg (Itl K a) [it] it (fun i h=>h.IsListIter it a i) where
 mem:=by simp
 obj:=fun i h st b hb=>by
  have e:b=it:=by simpa using hb
  subst e
  obtain ⟨o,e,c,d⟩:=st
  exact ⟨o,e,fun v z=>by rw [d] at z; cases z⟩
 keep:=fun i h h' st k=>st.at fun o e=>k it (by simp) o e
 item:=by
  intro X hP hw hK hc i pins s σ H E I hf st hg
  subst hP hw hK
  obtain ⟨xs,x,hq,hx⟩:=hg
  obtain ⟨its,rv,p,hz⟩:=I.list hq
  obtain ⟨u,hu,ru⟩:=rv.get hx
  obtain ⟨f0,f1,f2,f3,f4,f5⟩:=hf it (by simp)
  refine wpAny_pyNext_list_item st p.isList (x:=u) (by simpa using hu) fun h' st' sb=>?_
  have I1:Inv X pins σ H { s with heap:=h' }:=I.turned (t':=s.toks) (fun b o hb e=>(sb.2 b hb).trans e) f0 f1 f3 f4 f5
  obtain ⟨o,e,c,d⟩:=id st'
  exact ⟨u,rfl,yg (s:={ s with heap:=h' }) e c d (by decide) ⟨x,H,I1,ru,⟨rfl,fun ys hy=>by rw [I.uD hy hq]; exact hx⟩,st',fun b hb=>(hf b hb).1⟩⟩
 done:=by
  intro X hP hw hK hc i pins s σ H E I hf st hg
  subst hP hw hK
  obtain ⟨xs,hq,hx⟩:=hg
  obtain ⟨its,rv,p,hz⟩:=I.list hq
  obtain ⟨f0,f1,f2,f3,f4,f5⟩:=hf it (by simp)
  have hl:=rv.length
  exact wpAny_pyNext_list_end (I.ok.hd hc) st p.isList (by simp; omega) fun h' eb=>⟨rfl,I.turned (t':=s.toks) (fun b o hb e=>eb b o hb e) f0 f1 f3 f4 f5⟩
 self:=fun _ _ _ _ _ st h=>wpAny_pyIter_listiter st h
theorem wX {P:Program} {w:World} {K:PySem.W.Frag} {tg:Expr} (a it:Addr):Turn P w K tg (Itt K a) [it] it (fun i h=>h.IsTupleIter it a i) where
 mem:=by simp
 obj:=fun i h st b hb=>by
  have e:b=it:=by simpa using hb
  subst e
  obtain ⟨o,e,c,d⟩:=st
  exact ⟨o,e,fun v z=>by rw [d] at z; cases z⟩
 keep:=fun i h h' st k=>st.at fun o e=>k it (by simp) o e
 item:=by
  intro X hP hw hK hc i pins s σ H E I hf st hg
  subst hP hw hK
  obtain ⟨xs,x,hq,hx⟩:=hg
  obtain ⟨its,rv,p,hz⟩:=I.tuple hq
  obtain ⟨u,hu,ru⟩:=rv.get hx
  obtain ⟨f0,f1,f2,f3,f4,f5⟩:=hf it (by simp)
  refine wpAny_pyNext_tuple_item st (show s.heap.IsTuple a its.toArray from p) (x:=u) (by simpa using hu) fun h' st' sb=>?_
  have I1:Inv X pins σ H { s with heap:=h' }:=I.turned (t':=s.toks) (fun b o hb e=>(sb.2 b hb).trans e) f0 f1 f3 f4 f5
  obtain ⟨o,e,c,d⟩:=id st'
  exact ⟨u,rfl,yg (s:={ s with heap:=h' }) e c d (by decide) ⟨x,H,I1,ru,⟨rfl,fun ys hy=>by rw [I.zz hy hq]; exact hx⟩,st',fun b hb=>(hf b hb).1⟩⟩
 done:=by
  intro X hP hw hK hc i pins s σ H E I hf st hg
  subst hP hw hK
  obtain ⟨xs,hq,hx⟩:=hg
  obtain ⟨its,rv,p,hz⟩:=I.tuple hq
  obtain ⟨f0,f1,f2,f3,f4,f5⟩:=hf it (by simp)
  have hl:=rv.length
  exact wpAny_pyNext_tuple_end (I.ok.hd hc) st (show s.heap.IsTuple a its.toArray from p) (by simp; omega) fun h' eb=>⟨rfl,I.turned (t':=s.toks) (fun b o hb e=>eb b o hb e) f0 f1 f3 f4 f5⟩
 self:=fun _ _ _ _ _ st h=>wpAny_pyIter_tupleiter st h
theorem wY {P:Program} {w:World} {K:PySem.W.Frag} {tg:Expr} (it:Addr) (lo:Int) (n:Nat):Turn P w K tg (Itr lo n) [it] it (fun i h=>IsRangeIter h it (lo + (i:Nat) * 1) ((n:Int) - (i:Nat)) 1) where
 mem:=by simp
 obj:=fun i h st b hb=>by
  have e:b=it:=by simpa using hb
  subst e
  exact ⟨_,st,fun v z=>by
   have z':Data.fields _=Data.cell v:=z
   cases z'⟩
 keep:=fun i h h' st k=>k it (by simp) _ st
 item:=by
  intro X hP hw hK hc i pins s σ H E I hf st hg
  subst hP hw hK
  obtain ⟨f0,f1,f2,f3,f4,f5⟩:=hf it (by simp)
  have W:=Walks.range (prog:=X.prog) (w:=X.w) (I.ok.hd hc) it lo 1 n
  refine W.item i s _ _ hg st fun v h' tk hv st' kk=>?_
  obtain ⟨t,rfl⟩:=hv
  have I1:Inv X pins σ H { s with heap:=h',toks:=tk }:=I.turned (fun b o hb e=>kk b o (by simpa using hb) e) f0 f1 f3 f4 f5
  refine ⟨_,rfl,yg (s:={ s with heap:=h',toks:=tk }) (n:="range_iterator") st' rfl rfl (by decide) ⟨.int (lo + i),H,I1,⟨t,?_⟩,⟨rfl,rfl⟩,st',fun b hb=>(hf b hb).1⟩⟩
  rw [Int.mul_one]
 done:=by
  intro X hP hw hK hc i pins s σ H E I hf st hg
  subst hP hw hK
  obtain ⟨f0,f1,f2,f3,f4,f5⟩:=hf it (by simp)
  exact wpAny_pyNext_range_end (I.ok.hd hc) st (by have:n≤i:=hg; omega) fun h' eb=>⟨rfl,I.turned (t':=s.toks) (fun b o hb e=>eb b o hb e) f0 f1 f3 f4 f5⟩
 self:=fun _ _ _ _ _ st h=>wpAny_pyIter_rangeiter st h
end L2
namespace L2
open PySem PySem.Spec PyProof.Rows
section
variable {X:Cx} {tg:Expr}
def uG (K:PySem.W.Frag) (tl:TE):TI:=fun σ H R=>tl σ H fun x H1=>∃ a,x=.ref a∧(∃ xs,SqL K H1 a xs)∧R (Itl K a) H1
def F7 (K:PySem.W.Frag) (tl:TE):TI:=fun σ H R=>tl σ H fun x H1=>∃ a,x=.ref a∧(∃ xs,SqT K H1 a xs)∧R (Itt K a) H1
theorem Dl {l:Expr} {tl:TE} (hl:PE X l tl):PI X tg l (uG X.K tl):=by
 intro pins s σ H R I h
 refine thn (hl pins s σ H _ I h) fun v s1 ⟨x,H1,I1,r1,q1⟩=>?_
 obtain ⟨a,e,⟨xs,hq⟩,q⟩:=q1
 subst e
 cases r1
 obtain ⟨its,rv,p,hz⟩:=I1.list hq
 refine wpAny_pyIter_list p.isList ?_
 refine ⟨s1.heap.objs.size,[s1.heap.objs.size],_,_,H1,rfl,I1.kept (t':=s1.toks) fun b o e=>Heap.get?_push_of_some _ e,zC a _,⟨_,Heap.get?_push_size _ rfl,rfl,rfl⟩,fun b hb=>?_,q⟩
 have e:b=s1.heap.objs.size:=by simpa using hb
 subst e
 exact I1.wW (Nat.le_refl _) (I1.hok.fresh (Nat.le_refl _))
theorem F8 {l:Expr} {tl:TE} (hl:PE X l tl):PI X tg l (F7 X.K tl):=by
 intro pins s σ H R I h
 refine thn (hl pins s σ H _ I h) fun v s1 ⟨x,H1,I1,r1,q1⟩=>?_
 obtain ⟨a,e,⟨xs,hq⟩,q⟩:=q1
 subst e
 cases r1
 obtain ⟨its,rv,p,hz⟩:=I1.tuple hq
 refine wpAny_pyIter_tuple (show s1.heap.IsTuple a its.toArray from p) ?_
 refine ⟨s1.heap.objs.size,[s1.heap.objs.size],_,_,H1,rfl,I1.kept (t':=s1.toks) fun b o e=>Heap.get?_push_of_some _ e,wX a _,⟨_,Heap.get?_push_size _ rfl,rfl,rfl⟩,fun b hb=>?_,q⟩
 have e:b=s1.heap.objs.size:=by simpa using hb
 subst e
 exact I1.wW (Nat.le_refl _) (I1.hok.fresh (Nat.le_refl _))
theorem AM {pins:List (Addr × Obj)} {σ:St} {H:Hp} {s:Shared} {R:It->Hp->Prop} {E:Value->Shared->Prop} {lo hi:Int} {t u v:Tok} {tk:Nat} (I:Inv X pins σ H s) (h1 : -(2 ^ 62)≤lo) (h2:lo < 2 ^ 62) (h3 : -(2 ^ 62)≤hi) (h4:hi < 2 ^ 62)
  (q:R (Itr lo (hi - lo).toNat) H):wpAny (model X.prog X.w) X.A (pyIter (.ref s.heap.objs.size)) (PIE X pins σ tg R) E { s with heap:=s.heap.push { cls:=.type "range",data:=.fields #[.int lo t,.int hi u,.int 1 v] },toks:=tk }:=by
 refine wpAny_pyIter_range (IsRange.new ..) (small_one h1 h2 h3 h4) ?_
 have I1:Inv X pins σ H { s with heap:=s.heap.push { cls:=.type "range",data:=.fields #[.int lo t,.int hi u,.int 1 v] },toks:=tk }:=I.kept fun b o e=>Heap.get?_push_of_some _ e
 refine ⟨(s.heap.push { cls:=.type "range",data:=.fields #[.int lo t,.int hi u,.int 1 v] }).objs.size,[(s.heap.push { cls:=.type "range",data:=.fields #[.int lo t,.int hi u,.int 1 v] }).objs.size],_,_,H,rfl,
  I1.kept (t':=tk) fun b o e=>Heap.get?_push_of_some _ e,wY _ lo (hi - lo).toNat,?_,fun b hb=>?_,q⟩
 ·have e1:lo + ((0:Nat):Int) * 1=lo:=by simp
  have e2:(((hi - lo).toNat:Nat):Int) - ((0:Nat):Int)=Builtin.Range.rangeSize lo hi 1:=by rw [rangeSize_one]; split <;> omega
  show IsRangeIter _ _ (lo + ((0:Nat):Int) * 1) ((((hi - lo).toNat:Nat):Int) - ((0:Nat):Int)) 1
  rw [e1,e2]
  exact Heap.get?_push_size _ rfl
 ·have e:b=(s.heap.push { cls:=.type "range",data:=.fields #[.int lo t,.int hi u,.int 1 v] }).objs.size:=by simpa using hb
  subst e
  exact I1.wW (Nat.le_refl _) (I1.hok.fresh (Nat.le_refl _))
def AN (ta:TA):TI:=fun σ H R=>ta σ H fun vs H1=>∃ j:Int,vs=[.int j]∧-(2 ^ 62)≤j∧j < 2 ^ 62∧R (Itr 0 j.toNat) H1
theorem mL {a:Expr} {ta:TA} {p pos:Pos} (hg:Gl X "range") (hm:X.mg "range" = none) (ha:PA X [a] ta) (hs:starEach [a] X.env=[(false,eval a X.env)]:=by rfl):PI X tg (.Call (.Name "range" p) [a] [] pos) (AN ta):=by
 intro pins s σ H R I h
 refine Call_ (o7 I hg hm boot_range (PyProof.Rows.callWith_type1 (thn (ha pos pins s σ H _ I h) fun us s1 ⟨vs,H1,I1,r1,q1⟩=>?_) hs rfl))
 obtain ⟨j,e,q1,q2,q⟩:=q1
 subst e
 cases r1 with
 | cons r rr =>
  cases rr
  obtain ⟨t,rfl⟩:=r
  exact call_range_1 (AM I1 (by omega) (by omega) q1 q2 (by simpa using q))
def Dm (wi:TI) (g:TG) (tb:TS):TS:=fun D σ H=>wi σ H fun J H1=>∃ W:Nat->Nat->St->Hp->Prop,(∃ m,W 0 m σ H1)∧∀ i m σ H,W i m σ H ->
 (J.stop i H∧D.nx σ H)∨(J.go i H∧∃ N:St->Hp->Prop,(∀ σ' H',N σ' H'->∃ m',m' < m∧W (i + 1) m' σ' H')∧∀ x H',J.yld i H x H'->g x σ H' fun σ2 H2=>tb { D with nx:=N,ct:=N,bk:=D.nx } σ2 H2)
def fo (fp:List Addr) (h:Heap):List (Addr × Obj):=fp.filterMap fun b=>(h.get? b).map fun o=>(b,o)
theorem cn {fp:List Addr} {h:Heap} {b:Addr} {o:Obj} (hb:b∈fp) (e:h.get? b=some o):(b,o)∈fo fp h:=List.mem_filterMap.mpr ⟨b,hb,by rw [e]; rfl⟩
theorem jk {fp:List Addr} {h:Heap} {p:Addr × Obj} (hp:p∈fo fp h):p.1∈fp∧h.get? p.1=some p.2:=by
 obtain ⟨b,hb,e⟩:=List.mem_filterMap.mp hp
 cases q:h.get? b with
 | none=>rw [q] at e; cases e
 | some o =>
  rw [q] at e
  have e':(b,o)=p:=Option.some.inj e
  subst e'
  exact ⟨hb,q⟩
theorem Inv.pinned {pins:List (Addr × Obj)} {σ:St} {H:Hp} {s:Shared} {fp:List Addr} (I:Inv X pins σ H s) (hf:∀ b∈fp,ou X pins H b) (ho:∀ b∈fp,∃ o,s.heap.get? b=some o∧∀ v,o.data≠.cell v):Inv X (pins++fo fp s.heap) σ H s :=
 I.ye fun p hp=>(List.mem_append.mp hp).elim (fun z=>I.pin p (List.mem_append_right _ z)) fun z=>by
  obtain ⟨hb,e⟩:=jk z
  obtain ⟨f0,f1,f2,_⟩:=hf p.1 hb
  obtain ⟨o,e',d⟩:=ho p.1 hb
  rw [e] at e'; cases e'
  exact ⟨e,f0,f1,f2,d⟩
theorem Inv.eF {pins pl:List (Addr × Obj)} {σ:St} {H:Hp} {s:Shared} (I:Inv X (pins++pl) σ H s):Inv X pins σ H s:=I.ye fun p hp=>I.pin p (List.mem_append_right _ (List.mem_append_left _ hp))
theorem lB {iter:Expr} {body:List Stmt} {wi:TI} {g:TG} {tb:TS} {pos:Pos} (hp:PassesOwn (model X.prog X.w) X.A X.env X.xe) (hc:X.calm=true) (hi:PI X tg iter wi) (hg:PG X tg g) (hb:PSs X body tb)
  (hs:∀ x,foldedSetIterable iter X.env x=pure x:=by intro _; rfl):PS X (.For tg iter body [] pos) (Dm wi g tb):=by
 intro pins s σ H D I h
 refine wpAny_For (thn (hi pins s σ H _ I h) fun v s1 h1=>thn h1 fun itv s2 h2=>?_) hs
 obtain ⟨it,fp,tn,J,H2,e,I2,T,st2,f2,W,⟨m0,w0⟩,turn⟩:=h2
 subst e
 have stat:∀ {H':Hp},(∀ b∈fp,H' b=none)->∀ b∈fp,ou X pins H' b:=fun hn b hb=>⟨hn b hb,(f2 b hb).2⟩
 refine codeAny_forLoop_any (fun n s'=>∃ i σ' H',Inv X pins σ' H' s'∧tn i s'.heap∧(∀ b∈fp,H' b=none)∧W i n σ' H') ?_ m0 ⟨0,σ,H2,I2,st2,fun b hb=>(f2 b hb).1,w0⟩
 rintro n s3 ⟨i,σ3,H3,I3,st3,fr3,w3⟩
 rcases turn i n σ3 H3 w3 with ⟨stop,qn⟩ | ⟨go,N,hN,step⟩
 ·refine wpAny_passesOwn hp (thn (T.done X rfl rfl rfl hc i pins s3 σ3 H3 X.xe I3 (stat fr3) st3 stop) fun r s4 ⟨hr,I4⟩=>?_)
  subst hr
  exact wpAny_execs_nil ⟨σ3,H3,I4,qn⟩
 ·refine wpAny_passesOwn hp (thn (T.item X rfl rfl rfl hc i pins s3 σ3 H3 X.xe I3 (stat fr3) st3 go) fun r s4 ⟨u,hr,h4⟩=>?_)
  subst hr
  refine wpAny_passesOwn hp (thn h4 fun _ s5 ⟨x,H5,I5,r5,y5,st5,fr5⟩=>?_)
  have I5':=I5.pinned (stat fr5) (T.obj _ _ st5)
  refine wpAny_passesOwn hp (thn (hg _ s5 σ3 H5 x u _ I5' r5 (step x H5 y5)) fun _ s6 ⟨σ6,H6,I6,q6⟩=>?_)
  refine wpAny_passesOwn hp (thn (hb _ s6 σ6 H6 _ I6 q6) fun f s7 q7=>?_)
  have again:∀ {σ7:St} {H7:Hp},Inv X (pins++fo fp s5.heap) σ7 H7 s7->N σ7 H7->∃ m,m < n∧∃ i σ' H',Inv X pins σ' H' s7∧tn i s7.heap∧(∀ b∈fp,H' b=none)∧W i m σ' H':=fun {σ7 H7} I7 n7=>by
   obtain ⟨m',hm,w7⟩:=hN σ7 H7 n7
   refine ⟨m',hm,i + 1,σ7,H7,I7.eF,T.keep _ _ _ st5 fun b hb o e=>(I7.pin (b,o) (List.mem_append_right _ (List.mem_append_right _ (cn hb e)))).1,fun b hb=>?_,w7⟩
   obtain ⟨o,e,d⟩:=T.obj _ _ st5 b hb
   exact (I7.pin (b,o) (List.mem_append_right _ (List.mem_append_right _ (cn hb e)))).2.1
  cases f with
  | next=>obtain ⟨σ7,H7,I7,n7⟩:=q7; exact again I7 n7
  | cont=>obtain ⟨σ7,H7,I7,n7⟩:=q7; exact again I7 n7
  | brk=>obtain ⟨σ7,H7,I7,q7⟩:=q7; exact ⟨σ7,H7,I7.eF,q7⟩
  | ret v=>obtain ⟨x7,σ7,H7,I7,r7,q7⟩:=q7; exact ⟨x7,σ7,H7,I7.eF,r7,q7⟩
end
end L2
namespace L2
open PySem PySem.Spec PyProof.Rows
abbrev R2:=V->V->Hp->VK->Prop
def OpR (X:Cx) (f:Value->Value->Sem Value) (r:R2):Prop :=
 ∀ (pins:List (Addr × Obj)) (s:Shared) (σ:St) (H:Hp) (x y:V) (v u:Value) (Q:VK),Inv X pins σ H s->RelV x v->RelV y u->r x y H Q ->
  wpAny (model X.prog X.w) X.A (f v u) (EP X pins σ Q) X.xe s
def UnR (X:Cx) (f:Value->Sem Value) (r:V->Hp->VK->Prop):Prop :=
 ∀ (pins:List (Addr × Obj)) (s:Shared) (σ:St) (H:Hp) (x:V) (v:Value) (Q:VK),Inv X pins σ H s->RelV x v->r x H Q ->
  wpAny (model X.prog X.w) X.A (f v) (EP X pins σ Q) X.xe s
def dU (X:Cx) (f:Value) (r:List V->Hp->VK->Prop):Prop :=
 ∀ (pins:List (Addr × Obj)) (s:Shared) (σ:St) (H:Hp) (xs:List V) (us:List Value) (Q:VK),Inv X pins σ H s->Vals xs us->r xs H Q ->
  wpAny (model X.prog X.w) X.A (call f us) (EP X pins σ Q) X.xe s
def tOp (r:R2) (ta tb:TE):TE:=fun σ H Q=>ta σ H fun x H1=>tb σ H1 fun y H2=>r x y H2 Q
def tUn (r:V->Hp->VK->Prop) (ta:TE):TE:=fun σ H Q=>ta σ H fun x H1=>r x H1 Q
def rI (C:Int->Int->Prop) (g:Int->Int->V):R2:=fun x y H Q=>∃ i j,x=.int i∧y=.int j∧C i j∧Q (g i j) H
def rI0 (g:Int->Int->V):R2:=fun x y H Q=>∃ i j,x=.int i∧y=.int j∧Q (g i j) H
def rU (g:Int->V):V->Hp->VK->Prop:=fun x H Q=>∃ i,x=.int i∧Q (g i) H
section
variable {X:Cx} {a b c:Expr} {ta tb tc:TE} {pos:Pos}
theorem F9 (ha:PE X a ta) (hb:PE X b tb) {pins:List (Addr × Obj)} {s:Shared} {σ:St} {H:Hp} {R:V->V->Hp->Prop} (I:Inv X pins σ H s)
  (h:ta σ H fun x H1=>tb σ H1 fun y H2=>R x y H2) {Q:Value->Shared->Prop} {f:Value->Value->Sem Value}
  (hf:∀ v u s2 x y H2,Inv X pins σ H2 s2->RelV x v->RelV y u->R x y H2->wpAny (model X.prog X.w) X.A (f v u) Q X.xe s2) :
  wpAny (model X.prog X.w) X.A (eval a X.env) (fun v s₁=>wpAny (model X.prog X.w) X.A (eval b X.env) (fun u s₂=>wpAny (model X.prog X.w) X.A (f v u) Q X.xe s₂) X.xe s₁) X.xe s:=by
 refine thn (ha pins s σ H _ I h) fun v s1 ⟨x,H1,I1,r1,q1⟩=>?_
 refine thn (hb pins s1 σ H1 _ I1 q1) fun u s2 ⟨y,H2,I2,r2,q2⟩=>?_
 exact hf v u s2 x y H2 I2 r1 r2 q2
theorem aU {op:Operator} {r:R2} (ho:OpR X (binaryOp op) r) (ha:PE X a ta) (hb:PE X b tb):PE X (.BinOp a op b pos) (tOp r ta tb):=by
 intro pins s σ H Q I h
 exact wpAny_BinOp (F9 ha hb I h fun v u s2 x y H2 I2 rx ry q=>ho pins s2 σ H2 x y v u Q I2 rx ry q)
theorem HW {op:UnaryOp} {r:V->Hp->VK->Prop} (ho:UnR X (unaryOp op) r) (ha:PE X a ta):PE X (.UnaryOp op a pos) (tUn r ta):=by
 intro pins s σ H Q I h
 exact UnaryOp_ (thn (ha pins s σ H _ I h) fun v s1 ⟨x,H1,I1,r1,q1⟩=>ho pins s1 σ H1 x v Q I1 r1 q1)
theorem opI {f:Value->Value->Sem Value} {C:Int->Int->Prop} {g:Int->Int->Int}
  (rule:∀ (i j:Int) (t u:Tok) (s:Shared) (Q:Value->Shared->Prop) (E:Value->Shared->Prop),C i j->Q (.int (g i j) s.toks) { s with toks:=s.toks + 1 }->wpAny (model X.prog X.w) X.A (f (.int i t) (.int j u)) Q E s) :
  OpR X f (rI C fun i j=>.int (g i j)):=by
 intro pins s σ H x y v u Q I rx ry h
 obtain ⟨i,j,rfl,rfl,hc,q⟩:=h
 obtain ⟨t,rfl⟩:=rx
 obtain ⟨t',rfl⟩:=ry
 exact rule i j t t' s _ _ hc ⟨.int (g i j),H,I.tok _,⟨_,rfl⟩,q⟩
theorem HX {f:Value->Value->Sem Value} {g:Int->Int->Int}
  (rule:∀ (i j:Int) (t u:Tok) (s:Shared) (Q:Value->Shared->Prop) (E:Value->Shared->Prop),Q (.int (g i j) s.toks) { s with toks:=s.toks + 1 }->wpAny (model X.prog X.w) X.A (f (.int i t) (.int j u)) Q E s) :
  OpR X f (rI0 fun i j=>.int (g i j)):=by
 intro pins s σ H x y v u Q I rx ry h
 obtain ⟨i,j,rfl,rfl,q⟩:=h
 obtain ⟨t,rfl⟩:=rx
 obtain ⟨t',rfl⟩:=ry
 exact rule i j t t' s _ _ ⟨.int (g i j),H,I.tok _,⟨_,rfl⟩,q⟩
theorem Ga {f:Value->Value->Sem Value} {g:Int->Int->Bool}
  (rule:∀ (i j:Int) (t u:Tok) (s:Shared) (Q:Value->Shared->Prop) (E:Value->Shared->Prop),Q (.bool (g i j)) s->wpAny (model X.prog X.w) X.A (f (.int i t) (.int j u)) Q E s) :
  OpR X f (rI0 fun i j=>.bl (g i j)):=by
 intro pins s σ H x y v u Q I rx ry h
 obtain ⟨i,j,rfl,rfl,q⟩:=h
 obtain ⟨t,rfl⟩:=rx
 obtain ⟨t',rfl⟩:=ry
 exact rule i j t t' s _ _ ⟨.bl (g i j),H,I,rfl,q⟩
def Gb (i j:Int):Prop:=0 < j∧j < 1073741824
def Gd (i j:Int):Prop:=0≤j∧j≤1000000∧i.natAbs < 2 ^ 64
def Ge (i j:Int):Prop:=(-(2 ^ 64) < i∧i < 2 ^ 64)∨(-(2 ^ 64) < j∧j < 2 ^ 64)
theorem Ge.ok {i j:Int} (h:Ge i j):IntMulOk i j:=by
 rcases h with ⟨h1,h2⟩ | ⟨h1,h2⟩
 ·exact .of_left (intBits_le_64 h1 h2)
 ·exact .of_right (intBits_le_64 h1 h2)
theorem Gf:OpR X (binaryOp .Add) (rI0 fun i j=>.int (i + j)):=HX fun _ _ _ _ _ _ _ q=>add_int q
theorem iY:OpR X (binaryOp .Sub) (rI0 fun i j=>.int (i - j)):=HX fun _ _ _ _ _ _ _ q=>sub_int q
theorem d6:OpR X (binaryOp .FloorDiv) (rI Gb fun i j=>.int (i / j)):=opI fun i j _ _ _ _ _ hc q=>by
 have h1:(0:Int) < j:=hc.1
 have h2:j < 1073741824:=hc.2
 exact floordiv_int (by omega) (by rw [Int.fdiv_eq_ediv_of_nonneg i (by omega)]; exact q) (.inl (PyProof.noPylong_small (by omega)))
theorem cA:OpR X (binaryOp .Mod) (rI (fun _ j=>0 < j) fun i j=>.int (i % j)):=opI fun i j _ _ _ _ _ hc q=>by
 have h1:(0:Int) < j:=hc
 exact mod_int' (by omega) (by rw [Int.fmod_eq_emod_of_nonneg i (by omega)]; exact q)
theorem sJ:OpR X (binaryOp .Pow) (rI Gd fun i j=>.int (i ^ j.toNat)):=opI fun _ _ _ _ _ _ _ hc q=>pow_int_small hc.1 hc.2.1 hc.2.2 q
theorem unI {f:Value->Sem Value} {g:Int->Int}
  (rule:∀ (i:Int) (t:Tok) (s:Shared) (Q:Value->Shared->Prop) (E:Value->Shared->Prop),Q (.int (g i) s.toks) { s with toks:=s.toks + 1 }->wpAny (model X.prog X.w) X.A (f (.int i t)) Q E s) :
  UnR X f (rU fun i=>.int (g i)):=by
 intro pins s σ H x v Q I rx h
 obtain ⟨i,rfl,q⟩:=h
 obtain ⟨t,rfl⟩:=rx
 exact rule i t s _ _ ⟨.int (g i),H,I.tok _,⟨_,rfl⟩,q⟩
theorem Gg:UnR X (unaryOp .USub) (rU fun i=>.int (-i)):=unI fun _ _ _ _ _ q=>neg_int q
end
section
variable {X:Cx} {a b c:Expr} {ta tb tc:TE} {pos:Pos}
theorem AO {pins:List (Addr × Obj)} {σ:St} {H:Hp} {s:Shared} {Q:VK} {k k':Bool} (I:Inv X pins σ H s) (q:Q (.bl k) H) (e:k=k'):EP X pins σ Q (.bool k') s:=by
 subst e
 exact ⟨.bl k,H,I,rfl,q⟩
theorem HY:OpR X (compareOp .Lt) (rI0 fun i j=>.bl (decide (i < j))):=Ga fun _ _ _ _ _ _ _ q=>lt_int q
theorem yh:OpR X (compareOp .Gt) (rI0 fun i j=>.bl (decide (j < i))):=Ga fun _ _ _ _ _ _ _ q=>gt_int q
theorem Fi:OpR X (compareOp .GtE) (rI0 fun i j=>.bl (decide (j≤i))):=Ga fun _ _ _ _ _ _ _ q=>ge_int q
theorem wZ:OpR X (compareOp .Is) (fun x y H Q=>y=.non∧Q (.bl (decide (x=.non))) H):=by
 intro pins s σ H x y v u Q I rx ry h
 obtain ⟨rfl,q⟩:=h
 cases ry
 refine is_none_gen (AO I q ?_)
 cases x <;> first
  | (cases rx; rfl)
  | (obtain ⟨t,rfl⟩:=rx; rfl)
theorem oI:OpR X (compareOp .IsNot) (fun x y H Q=>y=.non∧Q (.bl (!decide (x=.non))) H):=by
 intro pins s σ H x y v u Q I rx ry h
 obtain ⟨rfl,q⟩:=h
 cases ry
 refine isnot_none_gen (AO I q ?_)
 cases x <;> first
  | (cases rx; rfl)
  | (obtain ⟨t,rfl⟩:=rx; rfl)
theorem OpR.or {f:Value->Value->Sem Value} {r r':R2} (h:OpR X f r) (h':OpR X f r'):OpR X f (fun x y H Q=>r x y H Q∨r' x y H Q):=by
 intro pins s σ H x y v u Q I rx ry q
 rcases q with q | q
 ·exact h pins s σ H x y v u Q I rx ry q
 ·exact h' pins s σ H x y v u Q I rx ry q
theorem bA (b:Expr) {op:CmpOp} (h:op≠.In:=by decide) (h2:op≠.NotIn:=by decide):behindInMarks op b=false:=by
 have e1:(op == CmpOp.In)=false:=by cases op <;> first | rfl | exact absurd rfl h
 have e2:(op == CmpOp.NotIn)=false:=by cases op <;> first | rfl | exact absurd rfl h2
 cases b <;> simp [behindInMarks,e1,e2]
theorem lU {op:CmpOp} {r:R2} (ho:OpR X (compareOp op) r) (ha:PE X a ta) (hb:PE X b tb) (hm:behindInMarks op b=false):PE X (.Compare a [op] [b] pos) (tOp r ta tb):=by
 intro pins s σ H Q I h
 exact wpAny_Compare1 (F9 ha hb I h fun v u s2 x y H2 I2 rx ry q=>ho pins s2 σ H2 x y v u Q I2 rx ry q) hm
def Fj (t:TE):TT:=fun σ H Q=>t σ H fun x H'=>∃ k,x=.bl k∧Q k H'
theorem bh {op:CmpOp} {r:R2} (ho:OpR X (compareOp op) r) (ha:PE X a ta) (hb:PE X b tb) (hm:behindInMarks op b=false):PT X (.Compare a [op] [b] pos) (Fj (tOp r ta tb)):=by
 intro pins s σ H Q I h
 refine wpAny_isTrue_Compare1 (thn (ha pins s σ H _ I h) fun v s1 ⟨x,H1,I1,r1,q1⟩=>thn (hb pins s1 σ H1 _ I1 q1) fun u s2 ⟨y,H2,I2,r2,q2⟩ =>
  thn (ho pins s2 σ H2 x y v u _ I2 r1 r2 q2) fun c s3 ⟨z,H3,I3,r3,k,e,q3⟩=>?_) hm
 subst e
 cases r3
 exact wpAny_truthy_bool ⟨H3,I3,q3⟩
theorem o9:(sizeLine:Nat) < 2 ^ 63:=by rw [sizeLine_eq]; decide
theorem w4:OpR X (binaryOp .Add) (fun x y H Q=>∃ i j,x=.str i∧y=.str j∧i.length + j.length≤sizeLine∧Q (.str (i++j)) H):=by
 intro pins s σ H x y v u Q I rx ry h
 obtain ⟨i,j,rfl,rfl,hz,q⟩:=h
 obtain ⟨t,rfl⟩:=rx
 obtain ⟨t',rfl⟩:=ry
 exact add_str (fun t' tk=>⟨.str (i++j),H,I.tok _,⟨_,rfl⟩,q⟩) hz
theorem vals1 {x:V} {us:List Value} (r:Vals [x] us):∃ u,us=[u]∧RelV x u:=by
 cases r with
 | cons r1 r2=>cases r2; exact ⟨_,rfl,r1⟩
theorem vals2 {x y:V} {us:List Value} (r:Vals [x,y] us):∃ u w',us=[u,w']∧RelV x u∧RelV y w':=by
 cases r with
 | cons r1 r2 =>
  cases r2 with
  | cons r3 r4=>cases r4; exact ⟨_,_,rfl,r1,r3⟩
theorem zD (hc:X.calm=true):dU X (.builtin "max") (fun xs H Q=>∃ i j,xs=[.int i,.int j]∧Q (.int (if j > i then j else i)) H):=by
 intro pins s σ H xs us Q I r h
 obtain ⟨i,j,rfl,q⟩:=h
 obtain ⟨u,w',rfl,⟨t,rfl⟩,⟨t',rfl⟩⟩:=vals2 r
 refine max_two_ints (I.ok.hd hc) fun h' tk k=>⟨_,H,I.kept k,?_,q⟩
 by_cases hj:j > i
 ·rw [if_pos hj,if_pos hj]; exact ⟨_,rfl⟩
 ·rw [if_neg hj,if_neg hj]; exact ⟨_,rfl⟩
theorem rE (hc:X.calm=true):dU X (.builtin "min") (fun xs H Q=>∃ i j,xs=[.int i,.int j]∧Q (.int (if j < i then j else i)) H):=by
 intro pins s σ H xs us Q I r h
 obtain ⟨i,j,rfl,q⟩:=h
 obtain ⟨u,w',rfl,⟨t,rfl⟩,⟨t',rfl⟩⟩:=vals2 r
 refine min_two_ints (I.ok.hd hc) fun h' tk k=>⟨_,H,I.kept k,?_,q⟩
 by_cases hj:j < i
 ·rw [if_pos hj,if_pos hj]; exact ⟨_,rfl⟩
 ·rw [if_neg hj,if_neg hj]; exact ⟨_,rfl⟩
end
end L2
namespace L2
open PySem PySem.Spec PyProof.Rows
structure Gh (h:Heap) (x dx C:Addr) (mA:Str->Option Value):Prop where
 obj:h.get? x=some (PySem.W.instObj C dx)
 ns:h.Ns1 dx mA
 ne:dx≠x
theorem zE {h:Heap} {dx:Addr} {mA:Str->Option Value} (n:h.Ns1 dx mA):∃ od,h.get? dx=some od∧∀ name,PySem.W.lookIn name od=some (mA name):=by
 obtain ⟨o,es,ep,ho,hd,hk,_,hm⟩:=n
 refine ⟨o,ho,fun name=>?_⟩
 have e:=hm name
 unfold nsFind findBy at e
 rw [← Array.find?_toList] at e
 unfold PySem.W.lookIn
 rw [hd]
 dsimp only
 split
 ·rename_i y q
  rw [q] at e
  exact congrArg some e
 ·rename_i q
  rw [q] at e
  have a:es.toList.any (·.refKey)=false:=by
   rw [List.any_eq_false]
   intro y hy
   obtain ⟨z,t,hkey⟩:=hk y (Array.mem_toList_iff.mp hy)
   simp [DictEntry.refKey,hkey]
  have a' : ¬ es.toList.any (·.refKey)=true:=by rw [a]; exact Bool.false_ne_true
  rw [if_neg a']
  exact congrArg some e
theorem Gh.look {h:Heap} {x dx C:Addr} {mA:Str->Option Value} (I:Gh h x dx C mA):∃ od,PySem.W.InstAt h x (PySem.W.instObj C dx) C (some od)∧∀ name,PySem.W.lookIn name od=some (mA name) :=
 let ⟨od,ho,hl⟩:=zE I.ns
 ⟨od,⟨I.obj,rfl,rfl,ho⟩,hl⟩
section
variable {prog:Program} {w:World} {A:Around} {E:Value->Shared->Prop} {s:Shared} {K:PySem.W.Frag} {x dx C f:Addr} {mA:Str->Option Value} {name:Str} {v:Value}
end
def Gi (f:Str) (v:V):List (Str × V)->List (Str × V)
 | []=>[(f,v)]
 | (g,x)::r=>if g=f then (g,v)::r else (g,x)::Gi f v r
theorem mK.some_of {v:V} {o:Option Value} (r:mK (some v) o):∃ u,o=some u∧RelV v u:=by
 cases o with
 | none=>exact (show False from r).elim
 | some u=>exact ⟨u,rfl,r⟩
theorem mK.none_of {o:Option Value} (r:mK none o):o=none:=by
 cases o with
 | none=>rfl
 | some u=>exact (show False from r).elim
section
variable {P:Program} {w:World} {H H':Hp} {h h':Heap} {a C dx:Addr} {fs fs':List (Str × V)}
theorem Dn (hok:HOk P w H h) (e:H a=some (.ins C dx fs)):∃ mA,Gh h a dx C mA∧(∀ f,mK (fs.lookup f) (mA f))∧PySem.Within mA (fs.map (·.1))∧fs.length≤1000∧H dx=some (.own a):=by
 obtain ⟨d,z,ne,ob,mA,n,r,q⟩:=(show b9 P w H h a (.ins C dx fs) from hok a _ e)
 exact ⟨mA,⟨ob,n,ne⟩,r,q,z,d⟩
end
structure Cls (K:PySem.W.Frag) (C:Addr):Prop where
 pg:PySem.W.plainGet K C Str.empty=true
 hd:PySem.W.hasDictIn K C=true
 po:PySem.W.plainOver K C=true
 sa:PySem.W.findIn K (.ref C) "__setattr__" = some (some (.builtin "object.__setattr__"))
theorem Cls.get {K:PySem.W.Frag} {C:Addr} (c:Cls K C) (f:Str):PySem.W.plainGet K C f=true:=c.pg
structure Con (K:PySem.W.Frag) (C:Addr) (f:Str) (v:V) (u:Value):Prop where
 at_:PySem.W.findIn K (.ref C) f=some (some u)
 rel:RelV v u
 get:PySem.W.specialIn K u "__get__" = some none
 cp:PySem.W.copiedNames.contains f=false
structure Meth (K:PySem.W.Frag) (C:Addr) (m:Str) (f:Addr):Prop where
 at_:PySem.W.findIn K (.ref C) m=some (some (.ref f))
 fn:PySem.W.isFn K (.ref f)=true
 kp:PySem.W.keepIn K (.ref f)=true
section
variable {X:Cx} {pins:List (Addr × Obj)} {σ:St} {H:Hp} {s:Shared} {a C dx:Addr} {fs:List (Str × V)} {f:Str} {v:V} {A:Around} {E:Value->Shared->Prop}
end
section
variable {X:Cx} {o e value:Expr} {f:Str} {pos pos' tpos:Pos} {ta tv:TE}
end
section
variable {X:Cx} {pins:List (Addr × Obj)} {σ:St} {H:Hp} {s:Shared} {A:Around} {E:Value->Shared->Prop} {Q:Value->Shared->Prop} {c:Value} {b:Bool}
inductive mM (K:PySem.W.Frag) (H:Hp):V->Value->Prop where
 | non:mM K H .non (.type "NoneType")
 | bl (x:Bool):mM K H (.bl x) (.type "bool")
 | int (i:Int):mM K H (.int i) (.type "int")
 | str (x:Str):mM K H (.str x) (.type "str")
 | flt (x:UInt64):mM K H (.flt x) (.type "float")
 | lst {a:Addr} {xs:List V} (e:H a=some (.lst xs)):mM K H (.ref a) (.type "list")
 | frz {a:Addr} {o:Obj} {xs:List V} (e:H a=some (.frz o (.lst xs))):mM K H (.ref a) (.type "list")
 | tup {a:Addr} {xs:List V} (e:H a=some (.tup xs)):mM K H (.ref a) (.type "tuple")
 | dK {a:Addr} {kvs:List (Key × V)} (e:H a=some (.dK kvs)):mM K H (.ref a) (.type "dict")
 | dT {a:Addr} {kvs:List (List Key × V)} (e:H a=some (.dT kvs)):mM K H (.ref a) (.type "dict")
 | ins {a C dx:Addr} {fs:List (Str × V)} (e:H a=some (.ins C dx fs)) (cl:Cls K C) (ha:PySem.W.findIn K (.ref C) "__class__" = some (some (.builtin "object.__class__")))
   (hn:PySem.W.specialIn K (.builtin "object.__class__") "__get__" = some (some (.builtin "getset_descriptor.__get__"))) (htk:PySem.W.takesIn K (.builtin "object.__class__")=some true)
   (hm:PySem.W.mroIn K C (.type "object")=some true):mM K H (.ref a) (.ref C)
theorem zF {x:V} {u t:Value} (I:Inv X pins σ H s) (rx:RelV x u) (ty:mM X.K H x t) (e:PySem.W.kitOne X.K t c=some b) (h:∀ tk,Q (.bool b) { s with toks:=tk }) :
  wpAny (model X.prog X.w) A (call (.builtin "isinstance") [u,c]) Q E s:=by
 cases ty with
 | non=>cases (show u=Value.none from rx); exact PySem.W.kia_one PySem.W.kitx_none I.kIn True.intro e (fun z=>nomatch z) h
 | bl y=>cases (show u=Value.bool y from rx); exact PySem.W.kia_one PySem.W.kitx_bool I.kIn True.intro e (fun z=>nomatch z) h
 | int i=>obtain ⟨t,q⟩:=(show ∃ t,u=Value.int i t from rx); cases q; exact PySem.W.kia_one PySem.W.kitx_int I.kIn True.intro e (fun z=>nomatch z) h
 | str y=>obtain ⟨t,q⟩:=(show ∃ t,u=Value.str y t from rx); cases q; exact PySem.W.kia_one PySem.W.kitx_str I.kIn True.intro e (fun z=>nomatch z) h
 | flt y=>obtain ⟨t,q⟩:=(show ∃ t,u=Value.float y t from rx); cases q; exact PySem.W.kia_one PySem.W.kitx_float I.kIn True.intro e (fun z=>nomatch z) h
 | @lst a xs ea =>
  cases (show u=Value.ref a from rx)
  obtain ⟨_,_,n,_,h1⟩:=(show b9 X.prog X.w H s.heap a (.lst xs) from I.hok a _ ea)
  exact PySem.W.kia_one PySem.W.kitx_list I.kIn ⟨_,h1,rfl⟩ e (fun z=>nomatch z) h
 | @frz a ob xs ea =>
  cases (show u=Value.ref a from rx)
  obtain ⟨_,_,_,n,_,h1⟩:=(show b9 X.prog X.w H s.heap a (.frz ob (.lst xs)) from I.hok a _ ea)
  exact PySem.W.kia_one PySem.W.kitx_list I.kIn ⟨_,h1,rfl⟩ e (fun z=>nomatch z) h
 | @tup a xs ea =>
  cases (show u=Value.ref a from rx)
  obtain ⟨_,_,_,p⟩:=(show b9 X.prog X.w H s.heap a (.tup xs) from I.hok a _ ea)
  obtain ⟨o,h1,h2,_⟩:=p
  exact PySem.W.kia_one PySem.W.kitx_tuple I.kIn ⟨o,h1,h2⟩ e (fun z=>nomatch z) h
 | @dK a kvs ea =>
  cases (show u=Value.ref a from rx)
  obtain ⟨_,_,vs,_,p⟩:=(show b9 X.prog X.w H s.heap a (.dK kvs) from I.hok a _ ea)
  obtain ⟨o,es,ep,h1,h2,_⟩:=p
  exact PySem.W.kia_one PySem.W.kitx_dict I.kIn ⟨o,h1,h2.1⟩ e (fun z=>nomatch z) h
 | @dT a kvs ea =>
  cases (show u=Value.ref a from rx)
  obtain ⟨_,_,xs,_,o,es,ep,h1,h2,_⟩:=(show b9 X.prog X.w H s.heap a (.dT kvs) from I.hok a _ ea)
  exact PySem.W.kia_one PySem.W.kitx_dict I.kIn ⟨o,h1,h2.1⟩ e (fun z=>nomatch z) h
 | @ins a C dx fs ea cl ha hn htk hm =>
  cases (show u=Value.ref a from rx)
  obtain ⟨mA,O,_⟩:=Dn I.hok ea
  obtain ⟨od,J,_⟩:=O.look
  exact PySem.W.kia_one (PySem.W.kitx_own (cl.get _) cl.hd ha hn htk hm) I.kIn J e (fun z=>nomatch z) h
end
end L2
namespace L2
open PySem PySem.Spec PyProof.Rows
structure fq (k:Nat) (A:Around):Prop where
 hd:A.handled=none
 dp:A.depth + 3 * k + 5 < recursionLimit
 un:A.units + 16 * k + 200 < cLine
theorem fq.mono {j k:Nat} {A:Around} (r:fq k A) (h:j≤k):fq j A:=⟨r.hd,by have:=r.dp; omega,by have:=r.un; omega⟩
theorem fq.deeper {k:Nat} {A:Around} (r:fq (k + 1) A) (env:Env):fq k (A.deeper env) :=
 ⟨r.hd,by have:=r.dp; show A.depth + 1 + 3 * k + 5 < _; omega,by have:=r.un; show A.units + 3 + 16 * k + 200 < _; omega⟩
theorem fq.in1 {k:Nat} {A:Around} (r:fq (k + 1) A):fq k A.in1 :=
 ⟨r.hd,by have:=r.dp; show A.depth + 3 * k + 5 < _; omega,by have:=r.un; show A.units + 1 + 16 * k + 200 < _; omega⟩
theorem w6 {A:Around} {C:Addr} {us:List Value} {kw:List (Str × Value)}:(A.under (.builtin "type.__call__" ⟨.ref C::us,kw⟩)).depth=A.depth + 1:=by
 first | rfl | simp [Around.under,Code.weight,Code.isCreation,Code.isGuard,Code.isCaller,Code.frames,Code.isFrame,guardIds]
theorem w8 {A:Around} {C:Addr} {us:List Value} {kw:List (Str × Value)}:(A.under (.builtin "type.__call__" ⟨.ref C::us,kw⟩)).units=A.units + 1:=by
 first | rfl | simp [Around.under,Code.cUnits,Code.frames,Code.isFrame]
theorem fq.make {k:Nat} {A:Around} (r:fq (k + 1) A) (C:Addr) (us:List Value) (kw:List (Str × Value)):fq k (A.under (.builtin "type.__call__" ⟨.ref C::us,kw⟩)) :=
 ⟨r.hd,by have:=r.dp; rw [w6]; omega,by have:=r.un; rw [w8]; omega⟩
theorem fq.depth {k:Nat} {A:Around} (r:fq k A):A.depth < recursionLimit:=by have:=r.dp; omega
theorem fq.units {k:Nat} {A:Around} (r:fq k A):A.units + 64 < cLine:=by have:=r.un; omega
def w9:TA:=fun _ H Q=>Q [] H
def hE (ta:TE) (tr:TA):TA:=fun σ H Q=>ta σ H fun x H1=>tr σ H1 fun xs H2=>Q (x::xs) H2
section
variable {X:Cx} {e:Expr} {es:List Expr} {te:TE} {t:TA} {pos:Pos}
theorem aw:PA X [] w9:=fun _ _ _ _ H Q I h=>Calls.spliced_nil ⟨[],H,I,.nil,h⟩
theorem aa (ha:PE X e te) (hr:PA X es t) (hs:starEach (e::es) X.env=(false,eval e X.env)::starEach es X.env:=by rfl):PA X (e::es) (hE te t):=by
 intro pos pins s σ H Q I h
 rw [hs]
 show wpAny _ _ (spliced ((false,eval e X.env)::backTo pos (starEach es X.env))) _ _ s
 refine Calls.spliced_cons (thn (ha pins s σ H _ I h) fun u s1 ⟨x,H1,I1,r1,q1⟩=>?_)
 exact thn (hr pos pins s1 σ H1 _ I1 q1) fun us s2 ⟨xs,H2,I2,r2,q2⟩=>⟨x::xs,H2,I2,.cons r1 r2,q2⟩
def Dp (t:TA):TE:=fun σ H Q=>t σ H fun xs H1=>xs.length≤sizeLine∧∀ p,H1 p=none->Q (.ref p) (upd H1 p (.tup xs))
def Gj (t:TA):TE:=fun σ H Q=>t σ H fun xs H1=>xs.length≤sizeLine∧∀ p,H1 p=none->Q (.ref p) (upd H1 p (.lst xs))
theorem bY {x1} (h:PA X es t):PE X (.Tuple es x1 pos) (Dp t):=by
 intro pins s σ H Q I hq
 refine wpAny_Tuple_spliced (thn (h pos pins s σ H _ I hq) fun us s1 ⟨xs,H1,I1,r,z,q⟩=>⟨by rw [← r.length]; exact z,?_⟩)
 have hf:H1 s1.heap.objs.size=none:=I1.hok.fresh (Nat.le_refl _)
 refine ⟨.ref s1.heap.objs.size,upd H1 s1.heap.objs.size (.tup xs),I1.laid (t':=s1.toks) (fun b u e=>Heap.get?_push_of_some _ e) (Nat.le_refl _) ?_,rfl,q _ hf⟩
 exact ⟨z,us,r,⟨_,Heap.get?_push_size _ rfl,rfl,_,rfl⟩⟩
theorem dm (h:PA X es t):PE X (.List es pos) (Gj t):=by
 intro pins s σ H Q I hq
 refine wpAny_List_spliced (thn (h pos pins s σ H _ I hq) fun us s1 ⟨xs,H1,I1,r,z,q⟩=>⟨by rw [← r.length]; exact z,?_⟩)
 have hf:H1 s1.heap.objs.size=none:=I1.hok.fresh (Nat.le_refl _)
 refine ⟨.ref s1.heap.objs.size,upd H1 s1.heap.objs.size (.lst xs),I1.laid (t':=s1.toks) (fun b u e=>Heap.get?_push_of_some _ e) (Nat.le_refl _) ?_,rfl,q _ hf⟩
 exact ⟨z,us,0,r,Heap.get?_push_size _ rfl⟩
end
abbrev Sp:=List V->Hp->VK->XK->Prop
abbrev CXT:=List Env->Hp->Shared->XK->Value->Shared->Prop
structure qO (P:Program) (w:World) (K:PySem.W.Frag) (mg:Str->Option Value) (base:Heap) (A:Around) (outer:List Env) (s:Shared) (H:Hp):Prop where
 frames:A.frames=some outer
 mod:Mod K mg base
 bs:∀ b o,base.get? b=some o->s.heap.get? b=some o∧H b=none
 bsz:base.objs.size≤s.heap.objs.size
 ly:s.heap.FunFrames base outer
 frf:∀ b∈frs outer,H b=none
 hok:HOk P w H s.heap
 bare:AllBare s.gens
def CE (outer:List Env) (P:Program) (w:World) (H:Hp) (s:Shared) (Q:VK) (u:Value) (s':Shared):Prop :=
 ∃ v H',s'.os=s.os∧AllBare s'.gens∧Un (frs outer) [] H H' s.heap s'.heap∧HOk P w H' s'.heap∧RelV v u∧Q v H'
def CR (CX:CXT) (outer:List Env) (P:Program) (w:World) (H:Hp) (s:Shared) (Q:VK) (E:XK) (r:Result) (s':Shared):Prop :=
 match r with
 | .ok (.ret u)=>CE outer P w H s Q u s'
 | .ok _=>False
 | .error e=>CX outer H s E e s'
structure kX (P:Program) (w:World) (K:PySem.W.Frag) (mg:Str->Option Value) (base:Heap) (CX:CXT) (k:Nat) (f:Addr) (fd:FuncData) (ps:List Str) (sp:Sp):Prop where
 len:∀ vs H Q E,sp vs H Q E->vs.length=ps.length
 run:∀ (A:Around) (outer:List Env) (s:Shared) (H:Hp) (args:Args) (us:List Value) (vs:List V) (Q:VK) (E:XK),fq k A->qO P w K mg base A outer s H->BindsTo s fd args (ps.zip us)->Vals vs us->sp vs H Q E ->
  codeAny (model P w) A (.call (.ref f) args) (CR CX outer P w H s Q E) s
theorem kX.mono {P:Program} {w:World} {K:PySem.W.Frag} {mg:Str->Option Value} {base:Heap} {CX:CXT} {j k:Nat} {f:Addr} {fd:FuncData} {ps:List Str} {sp:Sp} (F:kX P w K mg base CX j f fd ps sp) (h:j≤k) :
  kX P w K mg base CX k f fd ps sp:=⟨F.len,fun A outer s H args us vs Q E hr=>F.run A outer s H args us vs Q E (hr.mono h)⟩
theorem kX.imp {P:Program} {w:World} {K:PySem.W.Frag} {mg:Str->Option Value} {base:Heap} {CX:CXT} {k:Nat} {f:Addr} {fd:FuncData} {ps:List Str} {sp sp':Sp} (F:kX P w K mg base CX k f fd ps sp)
  (h:∀ vs H Q E,sp' vs H Q E->sp vs H Q E):kX P w K mg base CX k f fd ps sp' :=
 ⟨fun vs H Q E q=>F.len vs H Q E (h _ _ _ _ q),fun A outer s H args us vs Q E hr he hb hv hs=>F.run A outer s H args us vs Q E hr he hb hv (h _ _ _ _ hs)⟩
theorem qO.make {P:Program} {w:World} {K:PySem.W.Frag} {mg:Str->Option Value} {base:Heap} {A:Around} {outer:List Env} {s:Shared} {H:Hp} (e:qO P w K mg base A outer s H) (C:Addr) (us:List Value) (kw:List (Str × Value)) :
  qO P w K mg base (A.under (.builtin "type.__call__" ⟨.ref C::us,kw⟩)) outer s H:=⟨by first | exact e.frames | (simpa [Around.under,Code.envs,Code.isFrame,pushEnvs] using e.frames),e.mod,e.bs,e.bsz,e.ly,e.frf,e.hok,e.bare⟩
theorem qO.in1 {P:Program} {w:World} {K:PySem.W.Frag} {mg:Str->Option Value} {base:Heap} {A:Around} {outer:List Env} {s:Shared} {H:Hp} (e:qO P w K mg base A outer s H) :
  qO P w K mg base A.in1 outer s H:=⟨e.frames,e.mod,e.bs,e.bsz,e.ly,e.frf,e.hok,e.bare⟩
section
variable {X:Cx} {pins:List (Addr × Obj)} {σ:St} {H:Hp} {s s':Shared}
theorem Inv.env0 (I:Inv X pins σ H s):qO X.prog X.w X.K X.mg X.base X.A X.stack s H :=
 ⟨I.ok.frames,I.ok.mod,I.bs,Nat.le_trans I.ok.bsz I.sz,I.stack,I.oH,I.hok,I.bare⟩
theorem Inv.after {Q:VK} {u:Value} (I:Inv X pins σ H s) (h:CE X.stack X.prog X.w H s Q u s'):EP X pins σ Q u s':=by
 obtain ⟨v,H',os,bare,un,hok,r,q⟩:=h
 obtain ⟨hh,g,d,t,os'⟩:=s'
 obtain rfl:os'=s.os:=os
 exact ⟨v,H',I.call (h':=hh) (g':=g) (d':=d) (t':=t) (ch:=[]) un hok bare (fun b z=>absurd z (by simp)),r,q⟩
end
def hI (sp:Sp) (dvs:List V) (E:XK) (t:TA):TE:=fun σ H Q=>t σ H fun vs H1=>sp (vs++dvs) H1 Q E
def Binds (K:PySem.W.Frag) (fd:FuncData) (ps:List Str) (ds:List Value):Prop :=
 ∀ (s:Shared) (us:List Value),K.In s.heap->(us++ds).length=ps.length->BindsTo s fd ⟨us,[]⟩ (ps.zip (us++ds))
theorem Binds.all {K:PySem.W.Frag} {fd:FuncData} {ps:List Str} (h:∀ us:List Value,us.length=ps.length->bindArgs fd ⟨us,[]⟩=pure (ps.zip us)):Binds K fd ps []:=fun s us _ hl=>by
 rw [List.append_nil] at hl ⊢
 exact .of_eq (h us hl)
def Passes (CX:CXT) (X:Cx) (E:XK):Prop:=∀ (pins:List (Addr × Obj)) (σ:St) (H:Hp) (s:Shared) (e:Value) (s':Shared),Inv X pins σ H s->CX X.stack H s E e s'->X.xe e s'
section
variable {X:Cx} {CX:CXT} {k:Nat} {f C:Addr} {fd:FuncData} {ps:List Str} {sp:Sp} {dvs:List V} {ds:List Value} {E:XK} {x m:Str} {p pos apos:Pos} {e o:Expr} {es:List Expr} {ta:TE} {t:TA}
theorem Gk {pins:List (Addr × Obj)} {σ:St} {H:Hp} {s:Shared} {Q:VK} {us:List Value} {vs:List V} (F:kX X.prog X.w X.K X.mg X.base CX k f fd ps sp) (hr:fq k X.A) (hb:Binds X.K fd ps ds) (hd:Vals dvs ds) (hx:Passes CX X E)
  (I:Inv X pins σ H s) (r:Vals vs us) (h:sp (vs++dvs) H Q E):wpAny (model X.prog X.w) X.A (call (.ref f) us) (EP X pins σ Q) X.xe s:=by
 have r2:Vals (vs++dvs) (us++ds):=r.append hd
 have hl:(us++ds).length=ps.length:=by rw [← r2.length]; exact F.len _ _ _ _ h
 refine wpAny_call (codeAny_mono (F.run X.A X.stack s H ⟨us,[]⟩ (us++ds) (vs++dvs) Q E hr I.env0 (hb s us I.kIn hl) r2 h) fun r s' hq=>?_)
 cases r with
 | error e=>exact hx pins σ H s e s' I hq
 | ok fl =>
  cases fl with
  | ret u=>exact I.after hq
  | next=>exact False.elim hq
  | brk=>exact False.elim hq
  | cont=>exact False.elim hq
theorem yi (F:kX X.prog X.w X.K X.mg X.base CX k f fd ps sp) (hr:fq k X.A) (hg:Gl X x) (hm:X.mg x=some (.ref f)) (hk:PySem.W.keepIn X.K (.ref f)=true) (hb:Binds X.K fd ps ds) (hd:Vals dvs ds) (hx:Passes CX X E)
  (ha:PA X (e::es) t) (hdb:(x == ("__debug__":Str))=false:=by decide) (he:starEach (e::es) X.env=(false,eval e X.env)::starEach es X.env:=by rfl) (hpl:(backTo pos (starEach es X.env)).any (·.1)=false:=by rfl) :
  PE X (.Call (.Name x p) (e::es) [] pos) (hI sp dvs E t):=by
 intro pins s σ H Q I h
 refine wpAny_Call_Name_kw (lR I hg hm ?_ hdb)
 refine PySem.W.callWith_K (h₀:=X.base) I.ok.mod.kin hk (thn (ha pos pins s σ H _ I h) fun us s1 ⟨vs,H1,I1,r,q⟩=>⟨I1.kIn,?_⟩) he hpl
 exact Gk F hr hb hd hx I1 r q
structure Mk (K:PySem.W.Frag) (C f:Addr):Prop where
 makes:PySem.W.makesIn K C=true
 init:PySem.W.findIn K (.ref C) "__init__" = some (some (.ref f))
 fn:PySem.W.isFn K (.ref f)=true
 kp:PySem.W.keepIn K (.ref C)=true
end
section
variable {X:Cx} {CX:CXT} {k:Nat} {f C:Addr} {fd:FuncData} {ps ks:List Str} {sp:Sp} {E:XK} {x m:Str} {p pos apos kpos:Pos} {e o:Expr} {es:List Expr} {kws:List Keyword} {te ta:TE} {t tk:TA} {nm:Option Str}
structure JM (K:PySem.W.Frag) (fd:FuncData) (ps ks:List Str) (g:List Value->List Value->List Value) (gV:List V->List V->List V):Prop where
 to:∀ (s:Shared) (us ws:List Value),K.In s.heap->(g us ws).length=ps.length->BindsTo s fd ⟨us,ks.zip ws⟩ (ps.zip (g us ws))
 rel:∀ {vs:List V} {us:List Value} {zs:List V} {ws:List Value},Vals vs us->Vals zs ws->Vals (gV vs zs) (g us ws)
variable {g:List Value->List Value->List Value} {gV:List V->List V->List V}
end
structure bC (N P:List Str) (sc:Scope):Prop where
 kind:sc.kind=.function
 co:sc.isCoroutine=false
 gen:sc.isGenerator=false
 nd:N.Nodup
 pre:N.take P.length=P
 par:∀ x∈P,sc.names.lookup x=some .local∨sc.names.lookup x=some .cell
 Gm:∀ y∈sc.names,y.2≠.free
theorem rF {kindOf:Str->Option NameKind} {x:Str}:∀ {binds:List (Str × Value)} {m:Str->Option Value},(∀ v,(x,v) ∉ binds)->bindL kindOf binds m x=m x
 | [],_,_=>rfl
 | (n,v)::r,m,h=>by
  unfold bindL
  rw [rF fun w hw=>h w (List.mem_cons_of_mem _ hw)]
  split
  ·have:x≠n:=by rintro rfl; exact h v List.mem_cons_self
   simp [this]
  ·rfl
theorem rG {kindOf:Str->Option NameKind} {x:Str}:∀ {binds:List (Str × Value)} {m:Str->Option Value},(∀ v,(x,v) ∉ binds)->bindC kindOf binds m x=m x
 | [],_,_=>rfl
 | (n,v)::r,m,h=>by
  unfold bindC
  rw [rG fun w hw=>h w (List.mem_cons_of_mem _ hw)]
  split
  ·rfl
  ·have:x≠n:=by rintro rfl; exact h v List.mem_cons_self
   simp [this]
theorem rH {kindOf:Str->Option NameKind} {x:Str} {v:Value}:∀ {P:List Str} {vs:List Value} {i:Nat} {m:Str->Option Value},P.Nodup->P[i]?=some x->vs[i]?=some v->kindOf x=some .local ->
  bindL kindOf (P.zip vs) m x=some v
 | [],_,_,_,_,h,_,_=>by simp at h
 | _::_,[],_,_,_,_,h,_=>by simp at h
 | p::P,w::vs,0,m,nd,h1,h2,hk=>by
  simp at h1 h2; subst h1; subst h2
  show bindL kindOf ((p,w)::P.zip vs) m p=_
  unfold bindL
  rw [rF fun v hv=>(List.nodup_cons.mp nd).1 (List.of_mem_zip hv).1,if_pos hk]
  simp
 | p::P,w::vs,i + 1,m,nd,h1,h2,hk=>by
  show bindL kindOf ((p,w)::P.zip vs) m x=_
  unfold bindL
  exact rH (i:=i) (List.nodup_cons.mp nd).2 (by simpa using h1) (by simpa using h2) hk
theorem rJ {kindOf:Str->Option NameKind} {x:Str} {v:Value}:∀ {P:List Str} {vs:List Value} {i:Nat} {m:Str->Option Value},P.Nodup->P[i]?=some x->vs[i]?=some v->kindOf x≠some .local ->
  bindC kindOf (P.zip vs) m x=some v
 | [],_,_,_,_,h,_,_=>by simp at h
 | _::_,[],_,_,_,_,h,_=>by simp at h
 | p::P,w::vs,0,m,nd,h1,h2,hk=>by
  simp at h1 h2; subst h1; subst h2
  show bindC kindOf ((p,w)::P.zip vs) m p=_
  unfold bindC
  rw [rG fun v hv=>(List.nodup_cons.mp nd).1 (List.of_mem_zip hv).1,if_neg hk]
  simp
 | p::P,w::vs,i + 1,m,nd,h1,h2,hk=>by
  show bindC kindOf ((p,w)::P.zip vs) m x=_
  unfold bindC
  exact rJ (i:=i) (List.nodup_cons.mp nd).2 (by simpa using h1) (by simpa using h2) hk
def start (N:List Str) (vs:List V):St:=vs.map some++List.replicate (N.length - vs.length) none
def mO (CX:CXT) (P:Program) (w:World) (K:PySem.W.Frag) (mg:Str->Option Value) (base:Heap) (N:List Str) (qual:Str) (scope:Scope) (f:Addr) (cd:Value) (A:Around) (outer:List Env) (s:Shared) (H:Hp) (E:XK):Cx where
 prog:=P
 w:=w
 K:=K
 mg:=mg
 base:=base
 A:=A.deeper (envOfC qual scope s.heap.objs.size f cd)
 N:=N
 s₀:=s
 H₀:=H
 env:=envOfC qual scope s.heap.objs.size f cd
 outer:=outer
 stack:=envOfC qual scope s.heap.objs.size f cd::outer
 ex:=[]
 calm:=true
 fn:=fun _=>true
 pn:=[]
 xe:=fun e s'=>wpAny (model P w) (A.deeper (envOfC qual scope s.heap.objs.size f cd)) (leaving (envOfC qual scope s.heap.objs.size f cd) e) (fun _ s''=>CX outer H s E e s'') (fun e' s''=>CX outer H s E e' s'') s'
theorem uH {sc:Scope} {n:Nat} {x:Str} (h:sc.names.lookup x=some .cell):∃ c,(cellsFrom n sc.names []).lookup x=some c:=by
 have q:=PySem.W.cellsFrom_some sc.names n [] (.inl h)
 exact Option.isSome_iff_exists.mp q
theorem zG {CX:CXT} {P:Program} {w:World} {K:PySem.W.Frag} {mg:Str->Option Value} {base:Heap} {N ps:List Str} {qual:Str} {scope:Scope} {f:Addr} {cd:Value} {A:Around} {outer:List Env} {s s1:Shared} {H:Hp} {E:XK} {us:List Value} {vs:List V}
  (S:bC N ps scope) (hd:A.handled=none) (e0:qO P w K mg base A outer s H) (hl:vs.length=ps.length) (r:Vals vs us)
  (x:InCallC s s.heap.objs.size (bindL (envOfC qual scope s.heap.objs.size f cd).kindOf (ps.zip us) fun _=>none) (cellsFrom (s.heap.objs.size + 1) scope.names []) (bindC (envOfC qual scope s.heap.objs.size f cd).kindOf (ps.zip us) fun _=>none) s1) :
  Inv (mO CX P w K mg base N qual scope f cd A outer s H E) [] (start N vs) H s1:=by
 have hpl:ps.length≤N.length:=by have:=congrArg List.length S.pre; rw [List.length_take] at this; omega
 obtain ⟨h1,tk,rfl,hk⟩:=x.done
 have noA:∀ b:Addr,b ∉ (mO CX P w K mg base N qual scope f cd A outer s H E).ex:=fun b z=>absurd (show b∈([]:List Addr) from z) (by simp)
 refine ⟨⟨e0.mod,S.kind,rfl,rfl,Nat.le_refl _,fun y z c h1 h2=>?_,fun y hy=>?_,fun y c _ h=>?_,fun _=>hd,Around.frames_deeper e0.frames,.inr ⟨rfl,rfl⟩,fun b z=>absurd z (noA b),e0.bs,e0.bsz,fun b _ _=>noA b,fun b z=>absurd z (noA b),e0.ly,e0.frf⟩,
  rfl,e0.bare,Un.kept hk,⟨_,x.toInCall.ns,fun i y v h1 h2 h3=>?_⟩,fun y c h=>⟨_,x.cell y c h⟩,e0.hok.fresh (Nat.le_refl _),fun y c h=>?_,fun p hp=>absurd (show p∈([]:List (Addr × Obj)) from hp) (by simp),e0.hok.kept hk,?_⟩
 ·exact name_of_addr x.apart (PySem.mem_of_lookup h1) (PySem.mem_of_lookup h2)
 ·have hy:scope.names.lookup y=some .cell∨scope.names.lookup y=some .free:=hy
  rcases hy with hy | hy
  ·exact uH hy
  ·exact absurd rfl (S.Gm _ (PySem.mem_of_lookup hy))
 ·exact Nat.le_of_lt (x.above y c (PySem.mem_of_lookup h))
 ·have hi:i < vs.length:=by
   unfold start at h2
   by_cases hi:i < vs.length
   ·exact hi
   ·rw [List.getElem?_append_right (by simpa using hi)] at h2
    rw [List.getElem?_replicate] at h2
    split at h2 <;> cases h2
  have ha:vs[i]?=some v:=by
   unfold start at h2
   rw [List.getElem?_append_left (by simpa using hi),List.getElem?_map] at h2
   cases e:vs[i]? with
   | none=>rw [e] at h2; cases h2
   | some a=>rw [e] at h2; cases h2; rfl
  obtain ⟨u,hu,rv⟩:=r.get ha
  have hp:ps[i]?=some y:=by
   rw [← S.pre,List.getElem?_take_of_lt (by omega)]; exact h1
  have ndP:ps.Nodup:=by rw [← S.pre]; exact S.nd.sublist (List.take_sublist _ _)
  refine ⟨u,rv,?_⟩
  rcases S.par y (List.mem_of_getElem? hp) with k | k
  ·exact .inl ⟨k,rH ndP hp hu k⟩
  ·obtain ⟨c,e⟩:=uH (n:=s.heap.objs.size + 1) k
   refine .inr ⟨.inl k,c,e,?_⟩
   have q:=x.cell y c e
   rw [rJ ndP hp hu (by show scope.names.lookup y≠_; rw [k]; decide)] at q
   exact q
 ·exact e0.hok.fresh (Nat.le_of_lt (x.above y c (PySem.mem_of_lookup h)))
 ·unfold start
  show _=N.length
  rw [List.length_append,List.length_map,List.length_replicate]
  omega
theorem ej {CX:CXT} {P:Program} {w:World} {K:PySem.W.Frag} {mg:Str->Option Value} {base:Heap} {k:Nat} {f:Addr} {name qual:Str} {params:Arguments} {body:List Stmt} {scope:Scope} {dV kV doc pm cdv ct oc:Value} {an od:Option Addr}
  {osl:Array (Option Value)} {N ps:List Str} {sp:Sp} (lk:K.lookup f=some ⟨oc,od,.func (PySem.W.fnOf name qual params body scope dV kV doc pm an cdv ct),osl⟩) (hcd:PySem.W.codeIn K cdv qual=true) (S:bC N ps scope)
  (len:∀ vs H Q E,sp vs H Q E->vs.length=ps.length)
  (hbody:∀ (A:Around) (outer:List Env) (s:Shared) (H:Hp) (vs:List V) (Q:VK) (E:XK),fq k (A.deeper (envOfC qual scope s.heap.objs.size f cdv))->sp vs H Q E ->
   ∃ t,PSs (mO CX P w K mg base N qual scope f cdv A outer s H E) body t∧t { nx:=fun _ H'=>Q .non H',rt:=Q } (start N vs) H) :
  kX P w K mg base CX (k + 1) f (PySem.W.fnOf name qual params body scope dV kV doc pm an cdv ct) ps sp:=by
 refine ⟨len,fun A outer s H args us vs Q E hr e0 hb r hsp=>?_⟩
 have hl:=len _ _ _ _ hsp
 have KX:K.In s.heap:=e0.mod.kin.keeps fun b o e=>(e0.bs b o e).1
 have lim:s.heap.NoLimit:=e0.mod.nolimit.keeps fun b o e=>(e0.bs b o e).1
 have hkind:∀ y∈ps.zip us,scope.names.lookup y.1=some .local∨(scope.names.lookup y.1=some .cell∧((cellsFrom (s.heap.objs.size + 1) scope.names []).lookup y.1).isSome=true):=fun ⟨n,v⟩ hy=>by
  rcases S.par n (List.of_mem_zip hy).1 with q | q
  ·exact .inl q
  ·exact .inr ⟨q,PySem.W.cellsFrom_some _ _ _ (.inl q)⟩
 refine codeAny_call_function hr.depth (KX _ _ lk) rfl S.co S.gen rfl (PySem.W.codeRec_of KX hcd) (hb _ _ _ _ ?_)
 refine wpAny_newFunctionEnv_cells S.kind hkind fun env he s1 x=>?_
 subst he
 refine ⟨lim.keeps x.toInCall.keep,codeAny_func ?_⟩
 obtain ⟨t,ht,hq⟩:=hbody A outer s H vs Q E (hr.deeper _) hsp
 have I:Inv (mO CX P w K mg base N qual scope f cdv A outer s H E) [] (start N vs) H s1:=zG S hr.hd e0 hl r x
 refine wpAny_mono (ht [] s1 (start N vs) H _ I hq) (fun fl s' hs=>?_) fun e s' hs=>hs
 have fin:∀ {σ':St} {H':Hp} {v:V} {u:Value},Inv (mO CX P w K mg base N qual scope f cdv A outer s H E) [] σ' H' s'->RelV v u->Q v H'->CE outer P w H s Q u s' :=
  fun {σ' H' v u} J rv q=>⟨v,H',J.os,J.bare,J.base,J.hok,rv,q⟩
 cases fl with
 | ret u =>
  obtain ⟨v,σ',H',J,rv,q⟩:=hs
  exact fin J rv q
 | next =>
  obtain ⟨σ',H',J,q⟩:=hs
  exact fin (v:=V.non) (u:=Value.none) J rfl q
 | brk =>
  obtain ⟨_,_,_,q⟩:=hs
  exact False.elim q
 | cont =>
  obtain ⟨_,_,_,q⟩:=hs
  exact False.elim q
end L2
namespace L2
open PySem PySem.Spec PyProof.Rows
section
variable {X:Cx} {x:Str} {p pos:Pos} {e:Expr} {es:List Expr} {t:TA} {id T:String} {r:List V->Hp->VK->Prop}
def tCB (r:List V->Hp->VK->Prop) (t:TA):TE:=fun σ H Q=>t σ H fun vs H1=>r vs H1 Q
theorem aS (hc:dU X (.builtin id) r) (hg:Gl X x) (hm:X.mg x=none) (hv:bootBuiltins x=some (.builtin id)) (ha:PA X (e::es) t) (hn:x≠"__name__":=by decide) (hdb:(x == ("__debug__":Str))=false:=by decide)
  (he:starEach (e::es) X.env=(false,eval e X.env)::starEach es X.env:=by rfl) (hpl:(backTo pos (starEach es X.env)).any (·.1)=false:=by rfl):PE X (.Call (.Name x p) (e::es) [] pos) (tCB r t):=by
 intro pins s σ H Q I h
 refine wpAny_Call_Name_kw (o7 I hg hm hv ?_ hn hdb)
 exact PyProof.Rows.callWith_builtin1 (thn (ha pos pins s σ H _ I h) fun us s1 ⟨vs,H1,I1,r1,q1⟩=>hc pins s1 σ H1 vs us Q I1 r1 q1) he hpl
theorem cT (hc:dU X (.type T) r) (hg:Gl X x) (hm:X.mg x=none) (hv:bootBuiltins x=some (.type T)) (ha:PA X (e::es) t) (hn:x≠"__name__":=by decide) (hdb:(x == ("__debug__":Str))=false:=by decide)
  (he:starEach (e::es) X.env=(false,eval e X.env)::starEach es X.env:=by rfl) (hpl:(backTo pos (starEach es X.env)).any (·.1)=false:=by rfl):PE X (.Call (.Name x p) (e::es) [] pos) (tCB r t):=by
 intro pins s σ H Q I h
 refine wpAny_Call_Name_kw (o7 I hg hm hv ?_ hn hdb)
 exact PyProof.Rows.callWith_type1 (thn (ha pos pins s σ H _ I h) fun us s1 ⟨vs,H1,I1,r1,q1⟩=>hc pins s1 σ H1 vs us Q I1 r1 q1) he hpl
end
end L2
namespace HT
open PySem PyProof.Rows
theorem AQ (A:Around) (s:Shared) (a:Int) (t:Tok) (c:Int) (u:Tok) (prog:Program) (w:World) (E:Value->Shared->Prop) (Q:Value->Shared->Prop) (h:Q (.bool (decide (a < c))) s) :
  wpAny (model prog w) A (richCompare .Lt (.int a t) (.int c u)) Q E s :=
 (PyProof.Rows.lt_int h:wpAny (model prog w) A (compareOp .Lt (.int a t) (.int c u)) Q E s)
section
open PySem.SeqAt
open PySem.AutoSeq1 (wpAny_loadPart')
open PySem.MeetsSeq PySem.MeetsSeq2 PySem.MeetsSeq3
end
section
variable {prog:Program} {w:World} {A:Around} {E:Value->Shared->Prop} {s:Shared}
theorem Dq {t b:Addr} {vs ws:List Value} {Q:Value->Shared->Prop} (ht:IsTup s.heap t vs.toArray) (hb:IsTup s.heap b ws.toArray) (hv:vs≠[])
  (h1:ws=[]->Q (.ref t) s) (h2:ws≠[]->Q (.ref s.heap.objs.size) { s with heap:=s.heap.push { cls:=.type "tuple",data:=.seq (vs++ws).toArray } })
  (hsz:vs.length + ws.length≤sizeLine):wpAny (model prog w) A (binaryOp .Add (.ref t) (.ref b)) Q E s:=by
 obtain ⟨⟨cls,dd,data,sl⟩,ho,hc,n,hd⟩:=id ht
 obtain ⟨⟨cls2,dd2,data2,sl2⟩,ho2,hc2,n2,hd2⟩:=id hb
 simp only at hc hd hc2 hd2
 subst hc hd hc2 hd2
 have e:vs.toArray++ws.toArray=(vs++ws).toArray:=by simp
 by_cases hw:ws=[]
 ·exact concat_meets ⟨_,ho,rfl⟩ ⟨_,ho2,rfl⟩ noFill_tuple_add seq_tuple_add PySem.F.slot_tuple_add PySem.F.entry_tuple_add (PySem.F.args_tuple_add_2 _ _)
   (tuple_addW1 t b vs.toArray ws.toArray n n2 dd dd2 sl sl2 (by simpa using hv) (by simp [hw])) ⟨ho,ho2,h1 hw⟩
 ·refine concat_meets ⟨_,ho,rfl⟩ ⟨_,ho2,rfl⟩ noFill_tuple_add seq_tuple_add PySem.F.slot_tuple_add PySem.F.entry_tuple_add (PySem.F.args_tuple_add_2 _ _)
   (tuple_addW2 t b vs.toArray ws.toArray n n2 dd dd2 sl sl2 (by simpa using hv) (by simpa using hw) (by rw [List.size_toArray,List.size_toArray]; exact hsz)) ⟨ho,ho2,?_⟩
  rw [e]
  exact h2 hw
def sIx (n d:Nat):Option Int->Nat
 | none=>d
 | some v=>if v < 0 then (v + (n:Int)).toNat else min v.toNat n
theorem Gn (n d:Nat) (hd:d≤n) (o:Option Int):sIx n d o≤n:=by
 cases o with
 | none=>exact hd
 | some v =>
  show (if v < 0 then (v + (n:Int)).toNat else min v.toNat n)≤n
  by_cases hv:v < 0
  ·rw [if_pos hv]; omega
  ·rw [if_neg hv]; exact Nat.min_le_right _ _
theorem yj (v:Int) (n d:Nat):(if v < 0 then max (v + (n:Int)) 0 else min v (n:Int))=((sIx n d (some v):Nat):Int):=by
 show (if v < 0 then max (v + (n:Int)) 0 else min v (n:Int))=(((if v < 0 then (v + (n:Int)).toNat else min v.toNat n):Nat):Int)
 by_cases hv:v < 0
 ·simp only [if_pos hv]; omega
 ·simp only [if_neg hv]; omega
theorem xa (lo hi:Option Int) (n:Nat):Builtin.Slice.sliceAdjust lo hi 1 (n:Int)=(((sIx n 0 lo:Nat):Int),((sIx n n hi:Nat):Int)):=by
 have h1 : ¬ ((1:Int) < 0):=by omega
 unfold Builtin.Slice.sliceAdjust
 simp only [h1,if_false]
 refine Prod.ext ?_ ?_
 ·cases lo with
  | none=>rfl
  | some v=>exact yj v n 0
 ·cases hi with
  | none=>rfl
  | some v=>exact yj v n n
theorem xb (i j:Nat):Builtin.Slice.slicePlaces (i:Int) (j:Int) 1=j - i:=by
 unfold Builtin.Slice.slicePlaces
 have h1:(1:Int) > 0:=by omega
 simp only [h1,if_true,Int.ediv_one]
 split <;> omega
theorem pb {v:Value} {o:Option Int} {Q:Option Int->Shared->Prop} (p:IsPart v o) (h:Q o s):wpAny (model prog w) A (Builtin.Slice.slicePartIndex v) Q E s:=by
 cases p with
 | none=>exact slicePart_none h
 | int i t=>exact slicePart_int h
theorem mP {sl:Addr} {vl vu:Value} {lo hi:Option Int} {n:Nat} {Q:Int × Int × Nat->Shared->Prop} (hs:s.heap.IsSliceOf sl vl vu .none) (pl:IsPart vl lo) (pu:IsPart vu hi)
  (h:Q (((sIx n 0 lo:Nat):Int),1,sIx n n hi - sIx n 0 lo) s):wpAny (model prog w) A (Builtin.Slice.sliceApplied (.ref sl) (pure (n:Int))) Q E s:=by
 obtain ⟨os,hos,hcs,hds⟩:=id hs
 unfold Builtin.Slice.sliceApplied Builtin.Slice.sliceFields
 refine wpAny_bind (wpAny_bind (wpAny_field hos hds (x:=vl) rfl (wpAny_bind (wpAny_field hos hds (x:=vu) rfl (wpAny_bind (wpAny_field hos hds (x:=.none) rfl (wpAny_pure ?_)))))))
 refine wpAny_bind (slicePart_none ?_)
 show wpAny _ _ (if ((1:Int) == 0)=true then _ else _) _ _ s
 rw [if_neg (by decide)]
 refine wpAny_bind (pb pl (wpAny_bind (pb pu (wpAny_bind (wpAny_pure ?_)))))
 show wpAny _ _ (match Builtin.Slice.sliceAdjust lo hi 1 (n:Int) with | (lo,hi)=>pure (lo,(1:Int),Builtin.Slice.slicePlaces lo hi 1)) _ _ s
 rw [xa lo hi n]
 show wpAny _ _ (pure (((sIx n 0 lo:Nat):Int),(1:Int),Builtin.Slice.slicePlaces ((sIx n 0 lo:Nat):Int) ((sIx n n hi:Nat):Int) 1)) _ _ s
 rw [xb]
 exact wpAny_pure h
theorem AR (xs:Array Value) (i k:Nat):((List.range k).filterMap fun (m:Nat)=>xs[((i:Int) + (m:Int) * 1).toNat]?).toArray=((xs.toList.drop i).take k).toArray:=by
 have e:(fun (m:Nat)=>xs[((i:Int) + (m:Int) * 1).toNat]?)=fun m=>xs[i + m]?:=by
  funext m
  have:((i:Int) + (m:Int) * 1).toNat=i + m:=by omega
  rw [this]
 rw [e]
 have:=pick_run xs i k
 rw [List.filterMap_map] at this
 have e2:((fun x=>xs[x]?) ∘ fun x=>i + x)=fun m=>xs[i + m]?:=rfl
 rw [e2] at this
 rw [this]
theorem lV {t sl:Addr} {items:Array Value} {vl vu:Value} {lo hi:Option Int} {Q:Value->Shared->Prop} (ht:IsTup s.heap t items) (hs:s.heap.IsSliceOf sl vl vu .none) (pl:IsPart vl lo) (pu:IsPart vu hi)
  (hw : ¬ (sIx items.size 0 lo=0∧sIx items.size items.size hi=items.size))
  (h:Q (.ref s.heap.objs.size) { s with heap:=s.heap.push { cls:=.type "tuple",data:=.seq ((items.toList.drop (sIx items.size 0 lo)).take (sIx items.size items.size hi - sIx items.size 0 lo)).toArray } })
  (hsz:items.size≤sizeLine):wpAny (model prog w) A (getItem (.ref t) (.ref sl)) Q E s:=by
 have yk:sizeOk (.seq ((items.toList.drop (sIx items.size 0 lo)).take (sIx items.size items.size hi - sIx items.size 0 lo)).toArray):=by
  show ((items.toList.drop (sIx items.size 0 lo)).take (sIx items.size items.size hi - sIx items.size 0 lo)).toArray.size≤sizeLine
  rw [List.size_toArray,List.length_take,List.length_drop,Array.length_toList]
  omega
 have hj:sIx items.size items.size hi≤items.size:=Gn _ _ (Nat.le_refl _) hi
 obtain ⟨os,hos,hcs,hds⟩:=id hs
 have hTs:s.TypeIs (.ref sl) "slice":=⟨os,hos,hcs⟩
 unfold getItem
 try with_reducible refine wpAny_holding ?_
 first | refine wpAny_bind (wpAny_pure ?_) | skip
 refine wpAny_bind (wpAny_sequenceKey ht.typeIs (by decide) ?_)
 refine wpAny_bind (wpAny_callSpecial?_slot (name:=Str.ofString "__getitem__") ht.typeIs PyProof.Rows.slot_tuple_getitem
  (wpAny_call_entry PyProof.Rows.slot_tuple_getitem ht.typeIs entry_tuple_getitem ?_ (args_tuple_getitem _ _)))
 show wpAny _ _ (Builtin.Tuple.tupleItemsOf (.ref t) >>= _) _ _ s
 refine wpAny_bind (tupleItemsOf_ ht ?_)
 refine wpAny_bind (wpAny_typeOf hTs ?_)
 rw [if_pos (by decide)]
 refine wpAny_bind (mP hs pl pu ?_)
 have hno : ¬ ((((sIx items.size 0 lo:Nat):Int) == 0 && (1:Int) == 1 && (sIx items.size items.size hi - sIx items.size 0 lo) == items.size)=true):=by
  intro q
  rw [Bool.and_eq_true,Bool.and_eq_true] at q
  have q1:((sIx items.size 0 lo:Nat):Int)=0:=eq_of_beq q.1.1
  have q2:sIx items.size items.size hi - sIx items.size 0 lo=items.size:=eq_of_beq q.2
  exact hw ⟨by omega,by omega⟩
 show wpAny _ _ (if (((sIx items.size 0 lo:Nat):Int) == 0 && (1:Int) == 1 && (sIx items.size items.size hi - sIx items.size 0 lo) == items.size)=true then _ else _) _ _ s
 rw [if_neg hno,AR]
 first
  | exact wpAny_bind (m:=Builtin.Tuple.tupleExact _) (wpAny_newObj_type (wpAny_pure ⟨_,rfl,wpAny_pure h⟩) yk)
  | exact wpAny_bind (m:=Builtin.Tuple.tupleExact _) (wpAny_newObj_type (wpAny_bind (wpAny_pure (wpAny_pure ⟨_,rfl,wpAny_pure h⟩))) yk)
  | exact wpAny_bind (wpAny_bind (m:=Builtin.Tuple.tupleExact _) (wpAny_newObj_type (wpAny_pure (wpAny_pure ⟨_,rfl,wpAny_pure h⟩)) yk))
  | exact wpAny_bind (wpAny_bind (m:=Builtin.Tuple.tupleExact _) (wpAny_newObj_type (wpAny_pure ⟨_,rfl,wpAny_pure h⟩) yk))
end
end HT
namespace L2
open PySem PySem.Spec PyProof.Rows
abbrev TO:=St->Hp->(Option Int->Hp->Prop)->Prop
def PO (X:Cx) (e:Option Expr) (t:TO):Prop :=
 ∀ (pins:List (Addr × Obj)) (s:Shared) (σ:St) (H:Hp) (Q:Option Int->Hp->Prop),Inv X pins σ H s->t σ H Q ->
  wpAny (model X.prog X.w) X.A (evalPart e X.env) (fun u s'=>∃ o H',Inv X pins σ H' s'∧IsPart u o∧Q o H') X.xe s
def ym:TO:=fun _ H Q=>Q none H
def Fl (t:TE):TO:=fun σ H Q=>t σ H fun x H1=>∃ i,x=.int i∧Q (some i) H1
section
variable {X:Cx} {e:Expr} {te:TE} {lo hi:Option Expr} {tl th:TO} {pos p2:Pos}
theorem yn:PO X none ym:=by
 intro pins s σ H Q I h
 rw [evalPart_none]
 exact wpAny_pure ⟨none,H,I,.none,h⟩
theorem kH (h:PE X e te):PO X (some e) (Fl te):=by
 intro pins s σ H Q I hw
 rw [evalPart_some]
 refine thn (h pins s σ H _ I hw) fun u s1 ⟨x,H1,I1,r1,q1⟩=>?_
 obtain ⟨i,rfl,q⟩:=q1
 obtain ⟨t,rfl⟩:=r1
 exact ⟨some i,H1,I1,.int i t,q⟩
def SlR (X:Cx) (r:V->Option Int->Option Int->Hp->VK->Prop):Prop :=
 ∀ (pins:List (Addr × Obj)) (s:Shared) (σ:St) (H:Hp) (x:V) (v vl vu:Value) (lo hi:Option Int) (sl:Addr) (Q:VK),Inv X pins σ H s->RelV x v->s.heap.IsSliceOf sl vl vu .none->IsPart vl lo->IsPart vu hi->r x lo hi H Q ->
  ∃ T id,typeLookup (.type T) "__getitem__" = pure (some (.builtin id))∧s.TypeIs v T∧wpAny (model X.prog X.w) X.A (getItem v (.ref sl)) (EP X pins σ Q) X.xe s
theorem SlR.or {r r':V->Option Int->Option Int->Hp->VK->Prop} (h:SlR X r) (h':SlR X r'):SlR X (fun x lo hi H Q=>r x lo hi H Q∨r' x lo hi H Q):=by
 intro pins s σ H x v vl vu lo hi sl Q I rx hs pl pu q
 rcases q with q | q
 ·exact h pins s σ H x v vl vu lo hi sl Q I rx hs pl pu q
 ·exact h' pins s σ H x v vl vu lo hi sl Q I rx hs pl pu q
def tSl (r:V->Option Int->Option Int->Hp->VK->Prop) (te:TE) (tl th:TO):TE:=fun σ H Q=>te σ H fun x H1=>tl σ H1 fun l H2=>th σ H2 fun u H3=>r x l u H3 Q
theorem lW {r:V->Option Int->Option Int->Hp->VK->Prop} (hr:SlR X r) (he:PE X e te) (hl:PO X lo tl) (hu:PO X hi th):PE X (.Subscript e (.Slice lo hi none p2) pos) (tSl r te tl th):=by
 intro pins s σ H Q I h
 refine Subscript_ (thn (he pins s σ H _ I h) fun v s1 ⟨x,H1,I1,r1,q1⟩=>?_)
 refine wpAny_Slice (thn (hl pins s1 σ H1 _ I1 q1) fun vl s2 ⟨l,H2,I2,pl,q2⟩=>thn (hu pins s2 σ H2 _ I2 q2) fun vu s3 ⟨u,H3,I3,pu,q3⟩=>?_)
 rw [evalPart_none]
 refine wpAny_pure ?_
 have I4:Inv X pins σ H3 { s3 with heap:=s3.heap.push { cls:=.type "slice",data:=.fields #[vl,vu,.none] } }:=I3.kept (t':=s3.toks) fun b ob q=>Heap.get?_push_of_some _ q
 obtain ⟨T,id,hT,ht,hg⟩:=hr pins { s3 with heap:=s3.heap.push { cls:=.type "slice",data:=.fields #[vl,vu,.none] } } σ H3 x v vl vu l u s3.heap.objs.size Q I4 r1 (Heap.IsSliceOf.new ..) pl pu q3
 show wpAny (model X.prog X.w) X.A (subscriptTail e (.Slice lo hi none p2) v (.ref s3.heap.objs.size)) (EP X pins σ Q) X.xe { s3 with heap:=s3.heap.push { cls:=.type "slice",data:=.fields #[vl,vu,.none] } }
 exact tail_any (ops:=[.ref s3.heap.objs.size,v]) ht hT hg (by with_unfolding_all rfl)
def uI (xs:List V) (lo hi:Option Int):List V:=(xs.drop (HT.sIx xs.length 0 lo)).take (HT.sIx xs.length xs.length hi - HT.sIx xs.length 0 lo)
theorem nP (xs:List V) (lo hi:Option Int):(uI xs lo hi).length≤xs.length:=by
 unfold uI
 rw [List.length_take,List.length_drop]
 omega
def Gq (K:PySem.W.Frag):V->Option Int->Option Int->Hp->VK->Prop:=fun x lo hi H Q=>∃ a xs,x=.ref a∧SqT K H a xs ∧
 ¬ (HT.sIx xs.length 0 lo=0∧HT.sIx xs.length xs.length hi=xs.length)∧∀ p,H p=none->Q (.ref p) (upd H p (.tup (uI xs lo hi)))
theorem Gr:SlR X (Gq X.K):=by
 intro pins s σ H x v vl vu lo hi sl Q I rx hs pl pu h
 obtain ⟨a,xs,rfl,hx,hw,q⟩:=h
 cases rx
 obtain ⟨its,r,ht,hz⟩:=I.tuple hx
 have hlen:its.toArray.size=xs.length:=by rw [List.size_toArray]; exact r.length.symm
 refine ⟨"tuple",_,PyProof.Rows.slot_tuple_getitem.lookup,ht.typeIs,?_⟩
 refine HT.lV ht hs pl pu (by rw [hlen]; exact hw) ?_ (by rw [hlen]; exact hz)
 rw [hlen]
 refine ⟨.ref s.heap.objs.size,_,I.laid (t':=s.toks) (o:=.tup (uI xs lo hi)) (fun b ob q=>Heap.get?_push_of_some _ q) (Nat.le_refl _) ?_,rfl,q _ (I.hok.fresh (Nat.le_refl _))⟩
 exact ⟨Nat.le_trans (nP xs lo hi) hz,_,(r.drop (HT.sIx xs.length 0 lo)).take (HT.sIx xs.length xs.length hi - HT.sIx xs.length 0 lo),IsTup.new _ _⟩
def Fm (K:PySem.W.Frag):R2:=fun x y H Q=>∃ a b xs ys,x=.ref a∧y=.ref b∧SqT K H a xs∧SqT K H b ys∧xs≠[]∧xs.length + ys.length≤sizeLine ∧
 (ys=[]->Q (.ref a) H)∧(ys≠[]->∀ p,H p=none->Q (.ref p) (upd H p (.tup (xs++ys))))
theorem Vals.sL {xs:List V} {us:List Value} (r:Vals xs us):us=[]↔xs=[]:=by
 cases r with
 | nil=>simp
 | cons _ _=>simp
theorem Dr:OpR X (binaryOp .Add) (Fm X.K):=by
 intro pins s σ H x y v u Q I rx ry h
 obtain ⟨a,b,xs,ys,rfl,rfl,ha,hb,hx,hz,q1,q2⟩:=h
 cases rx
 cases ry
 obtain ⟨its,r1,p1,_⟩:=I.tuple ha
 obtain ⟨its2,r2,p2,_⟩:=I.tuple hb
 refine HT.Dq p1 p2 (fun z=>hx (r1.sL.mp z)) (fun z=>⟨.ref a,H,I,rfl,q1 (r2.sL.mp z)⟩) (fun z=>?_) (by rw [← r1.length,← r2.length]; exact hz)
 refine ⟨.ref s.heap.objs.size,_,I.laid (t':=s.toks) (o:=.tup (xs++ys)) (fun b ob q=>Heap.get?_push_of_some _ q) (Nat.le_refl _) ?_,rfl,q2 (fun w=>z (r2.sL.mpr w)) _ (I.hok.fresh (Nat.le_refl _))⟩
 exact ⟨by rw [List.length_append]; exact hz,_,r1.append r2,IsTup.new _ _⟩
end
end L2
namespace L2
open PySem PySem.Spec PyProof.Rows
def ixN (n:Nat) (i:Int):Option Nat:=if 0≤i then (if i < n then some i.toNat else none) else if -(n:Int)≤i then some (i + n).toNat else none
def atI {α:Type} (xs:List α) (i:Int):Option α:=(ixN xs.length i).bind fun j=>xs[j]?
theorem Ds {n:Nat} {i:Int} {j:Nat} (h:ixN n i=some j):seqIndex? i n=some j∧j < n∧-(n:Int)≤i∧i < n:=by
 unfold ixN at h
 by_cases h0 : 0≤i
 ·rw [if_pos h0] at h
  by_cases h1:i < n
  ·rw [if_pos h1] at h
   have e:i.toNat=j:=Option.some.inj h
   exact ⟨by rw [seqIndex_of h0 h1,e],by omega,by omega,h1⟩
  ·rw [if_neg h1] at h; cases h
 ·rw [if_neg h0] at h
  by_cases h1 : -(n:Int)≤i
  ·rw [if_pos h1] at h
   have e:(i + n).toNat=j:=Option.some.inj h
   exact ⟨by rw [seqIndex_neg (by omega) h1,e],by omega,h1,by omega⟩
  ·rw [if_neg h1] at h; cases h
theorem sM {α:Type} {xs:List α} {i:Int} {v : α} (h:atI xs i=some v):∃ j,seqIndex? i xs.length=some j∧xs[j]?=some v∧j < xs.length∧-(xs.length:Int)≤i∧i < xs.length:=by
 unfold atI at h
 cases e:ixN xs.length i with
 | none=>rw [e] at h; cases h
 | some j =>
  rw [e] at h
  obtain ⟨h1,h2,h3,h4⟩:=Ds e
  exact ⟨j,h1,h,h2,h3,h4⟩
theorem oJ {α:Type} {xs:List α} {j:Nat} {v : α} (h:xs[j]?=some v):atI xs (j:Int)=some v:=by
 have hj:j < xs.length:=(List.getElem?_eq_some_iff.mp h).1
 have e:ixN xs.length (j:Int)=some j:=by
  unfold ixN
  rw [if_pos (by omega),if_pos (by omega)]; simp
 unfold atI; rw [e]; exact h
theorem uJ {α:Type} (xs:List α) (v : α):atI (xs++[v]) (-1)=some v:=by
 have hl:(xs++[v]).length=xs.length + 1:=by simp
 have e:ixN (xs++[v]).length (-1)=some xs.length:=by
  unfold ixN
  rw [hl,if_neg (by decide),if_pos (by omega)]
  congr 1
  omega
 unfold atI
 rw [e]
 show (xs++[v])[xs.length]?=some v
 simp
def Dt (b:Expr):Prop:=∀ o i,subscripted b false o i=operate [o,i] (getItem o i)
def IxR (X:Cx) (r:R2):Prop :=
 ∀ (value slice:Expr) (pins:List (Addr × Obj)) (s:Shared) (σ:St) (H:Hp) (x y:V) (v u:Value) (Q:VK),Inv X pins σ H s->RelV x v->RelV y u->r x y H Q ->
  subscripted slice false v u=operate [v,u] (getItem v u)->wpAny (model X.prog X.w) X.A (subscriptTail value slice v u) (EP X pins σ Q) X.xe s
def MtR (X:Cx) (id:String) (r:V->List V->Hp->VK->Prop):Prop :=
 ∀ (pins:List (Addr × Obj)) (s:Shared) (σ:St) (H:Hp) (x:V) (xs:List V) (v:Value) (us:List Value) (Q:VK),Inv X pins σ H s->RelV x v->Vals xs us->r x xs H Q ->
  wpAny (model X.prog X.w) X.A (call (.builtin id) (v::us)) (EP X pins σ Q) X.xe s
section
variable {X:Cx} {a b:Expr} {ta tb:TE} {pos:Pos}
theorem IxR.or {r r':R2} (h:IxR X r) (h':IxR X r'):IxR X (fun x y H Q=>r x y H Q∨r' x y H Q):=by
 intro value slice pins s σ H x y v u Q I rx ry q hs
 rcases q with q | q
 ·exact h value slice pins s σ H x y v u Q I rx ry q hs
 ·exact h' value slice pins s σ H x y v u Q I rx ry q hs
theorem MtR.or {id:String} {r r':V->List V->Hp->VK->Prop} (h:MtR X id r) (h':MtR X id r'):MtR X id (fun x xs H Q=>r x xs H Q∨r' x xs H Q):=by
 intro pins s σ H x xs v us Q I rx rs q
 rcases q with q | q
 ·exact h pins s σ H x xs v us Q I rx rs q
 ·exact h' pins s σ H x xs v us Q I rx rs q
theorem aO {r:R2} (hr:IxR X r) (ha:PE X a ta) (hb:PE X b tb) (hs:Dt b):PE X (.Subscript a b pos) (tOp r ta tb):=by
 intro pins s σ H Q I h
 exact Subscript_ (F9 ha hb I h fun v u s2 x y H2 I2 rx ry q=>hr a b pins s2 σ H2 x y v u Q I2 rx ry q (hs _ _))
def HZ (K:PySem.W.Frag):R2:=fun x y H Q=>∃ p xs i v,x=.ref p∧y=.int i∧SqL K H p xs∧atI xs i=some v∧Q v H
def Ia (K:PySem.W.Frag):R2:=fun x y H Q=>∃ p xs i v,x=.ref p∧y=.int i∧SqT K H p xs∧atI xs i=some v∧Q v H
def Ib:R2:=fun x y H Q=>∃ z i c,x=.str z∧y=.int i∧z.length≤sizeLine∧atI z.cps.toList i=some c∧Q (.str ⟨#[c]⟩) H
theorem Du:IxR X (HZ X.K):=by
 intro value slice pins s σ H x y v u Q I rx ry h hs
 obtain ⟨p,xs,i,z,rfl,rfl,hq,he,q⟩:=h
 cases rx
 obtain ⟨t,rfl⟩:=ry
 obtain ⟨its,r,pl,hz⟩:=I.list hq
 obtain ⟨j,h1,h2,h3,h4,h5⟩:=sM he
 obtain ⟨w,ew,rw'⟩:=r.get h2
 have hl:=r.length
 have hn:=o9
 have fin:EP X pins σ Q w s:=⟨z,H,I,rw',q⟩
 by_cases h0 : 0≤i
 ·have hj:i.toNat=j:=by
   rw [seqIndex_of h0 h5] at h1
   exact Option.some.inj h1
  exact item_listR pl.isList h0 (by omega) (by rw [hj]; simpa using ew) fin hs
 ·have hj:(i + (its.toArray.size:Int)).toNat=j:=by
   rw [seqIndex_neg (by omega) h4] at h1
   rw [List.size_toArray,← hl]
   exact Option.some.inj h1
  exact subscriptTail_builtinR (x:=w) pl.isList.typeIs slot_list_getitem.lookup
   (wpAny_getItem_list_neg (Q:=fun r s'=>r=w∧EP X pins σ Q r s') pl.isList (by omega) (by rw [List.size_toArray] <;> omega) (by omega) (by rw [hj]; simpa using ew) ⟨rfl,fin⟩) hs
theorem Gs:IxR X (Ia X.K):=by
 intro value slice pins s σ H x y v u Q I rx ry h hs
 obtain ⟨p,xs,i,z,rfl,rfl,hq,he,q⟩:=h
 cases rx
 obtain ⟨t,rfl⟩:=ry
 obtain ⟨its,r,pl,hz⟩:=I.tuple hq
 obtain ⟨j,h1,h2,h3,h4,h5⟩:=sM he
 obtain ⟨w,ew,rw'⟩:=r.get h2
 have hl:=r.length
 have hn:=o9
 have fin:EP X pins σ Q w s:=⟨z,H,I,rw',q⟩
 exact subscriptTail_builtinR (x:=w) pl.typeIs slot_tuple_getitem.lookup
  (getItem_tuple (j:=j) (Q:=fun r s'=>r=w∧EP X pins σ Q r s') pl (by omega) (by omega) (by rw [List.size_toArray,← hl]; exact h1) (by simpa using ew) ⟨rfl,fin⟩) hs
theorem Gu:IxR X Ib:=by
 intro value slice pins s σ H x y v u Q I rx ry h hs
 obtain ⟨z,i,c,rfl,rfl,hz,he,q⟩:=h
 obtain ⟨t,rfl⟩:=rx
 obtain ⟨t',rfl⟩:=ry
 obtain ⟨j,h1,h2,h3,h4,h5⟩:=sM he
 have hl:z.cps.toList.length=z.length:=by simp [Str.length]
 rw [hl] at h1 h4 h5
 have hn:=o9
 exact tail_any (typeIs_str s z t) slot_str_getitem.lookup (getItem_str (c:=c) (by
  have e1:decide (i < -(2 ^ 63:Int))=false:=decide_eq_false (by omega)
  have e2:decide (i ≥ 2 ^ 63)=false:=decide_eq_false (by omega)
  rw [e1,e2,Bool.or_false]) (by rw [h1]; simpa using h2) ⟨.str ⟨#[c]⟩,H,I.tok _,⟨_,rfl⟩,q⟩) hs
def rIx (K:PySem.W.Frag):R2:=fun x y H Q=>HZ K x y H Q∨Ia K x y H Q∨Ib x y H Q
theorem Gv:IxR X (rIx X.K):=Du.or (Gs.or Gu)
theorem Inv.lst {pins:List (Addr × Obj)} {σ:St} {H:Hp} {s:Shared} {p:Addr} {xs:List V} (I:Inv X pins σ H s) (h:H p=some (.lst xs)) :
  ∃ (its:List Value) (n:Nat),Vals xs its∧s.heap.get? p=some { cls:=.type "list",data:=.seq its.toArray n }∧xs.length≤sizeLine:=by
 obtain ⟨z,its,n,r,e⟩:=I.hok p _ h
 exact ⟨its,n,r,e,z⟩
theorem sN (lo hi:Option Int) (n:Nat):(sliceBounds lo hi none n).1=((HT.sIx n 0 lo:Nat):Int)∧(sliceBounds lo hi none n).2.1=((HT.sIx n n hi:Nat):Int)∧(sliceBounds lo hi none n).2.2=1:=by
 refine ⟨?_,?_,rfl⟩
 ·cases lo with
  | none=>simp [sliceBounds,HT.sIx]
  | some i =>
   simp only [sliceBounds,HT.sIx,Option.getD_none,show (1:Int) > 0 by decide,if_true]
   by_cases h:i < 0
   ·simp only [h,if_true] <;> omega
   ·simp only [h,if_false] <;> omega
 ·cases hi with
  | none=>simp [sliceBounds,HT.sIx]
  | some i =>
   simp only [sliceBounds,HT.sIx,Option.getD_none,show (1:Int) > 0 by decide,if_true]
   by_cases h:i < 0
   ·simp only [h,if_true] <;> omega
   ·simp only [h,if_false] <;> omega
theorem qP (its:List Value) (lo hi:Option Int):slicePick its.toArray lo hi none=((its.drop (HT.sIx its.length 0 lo)).take (HT.sIx its.length its.length hi - HT.sIx its.length 0 lo)).toArray:=by
 obtain ⟨h1,h2,h3⟩:=sN lo hi its.toArray.size
 unfold slicePick
 rw [h1,h2,h3]
 simp only [sliceRange_one,pick_run,List.size_toArray] <;> rfl
def Gw (K:PySem.W.Frag):V->Option Int->Option Int->Hp->VK->Prop:=fun x lo hi H Q=>∃ a xs,x=.ref a∧SqL K H a xs∧∀ p,H p=none->Q (.ref p) (upd H p (.lst (uI xs lo hi)))
theorem Dv:SlR X (Gw X.K):=by
 intro pins s σ H x v vl vu lo hi sl Q I rx hs pl pu h
 obtain ⟨a,xs,rfl,hx,q⟩:=h
 cases rx
 obtain ⟨its,r,ht,hz⟩:=I.list hx
 have hlen:=r.length
 refine ⟨"list",_,slot_list_getitem.lookup,ht.isList.typeIs,?_⟩
 refine wpAny_getItem_list_slice ht.isList hs pl pu .none (by simp) ?_ (by rw [List.size_toArray] <;> omega)
 rw [qP,← hlen]
 refine ⟨.ref s.heap.objs.size,_,I.laid (t':=s.toks) (o:=.lst (uI xs lo hi)) (fun b ob q=>Heap.get?_push_of_some _ q) (Nat.le_refl _) ?_,rfl,q _ (I.hok.fresh (Nat.le_refl _))⟩
 exact ⟨Nat.le_trans (nP xs lo hi) hz,_,0,(r.drop (HT.sIx xs.length 0 lo)).take (HT.sIx xs.length xs.length hi - HT.sIx xs.length 0 lo),Heap.get?_push_size _ rfl⟩
def Ic:V->Bool
 | .non=>true
 | .bl _=>true
 | .int _=>true
 | .str _=>true
 | _=>false
def eqV:V->V->Bool
 | .non,.non=>true
 | .bl a,.bl b=>a == b
 | .bl a,.int b=>(if a then 1 else 0) == b
 | .int a,.bl b=>a == (if b then 1 else 0)
 | .int a,.int b=>a == b
 | .str a,.str b=>a == b
 | _,_=>false
def inV (x:V) (xs:List V):Bool:=xs.any fun y=>eqV y x
theorem sO:dU X (.builtin "len") (fun xs H Q=>∃ p ys,xs=[.ref p]∧(SqL X.K H p ys∨SqT X.K H p ys)∧Q (.int ys.length) H):=by
 intro pins s σ H xs us Q I r h
 obtain ⟨p,ys,rfl,hq,q⟩:=h
 obtain ⟨u,rfl,rx⟩:=vals1 r
 cases rx
 have hn:=o9
 rcases hq with hq | hq
 ·obtain ⟨its,r',pl,hz⟩:=I.list hq
  have hlen:=r'.length
  exact Calls.call_len_list pl.isList (by simp only [List.size_toArray] <;> omega) ⟨.int ys.length,H,I.tok _,⟨s.toks + 1,by rw [List.size_toArray,hlen]⟩,q⟩
 ·obtain ⟨its,r',pl,hz⟩:=I.tuple hq
  have hlen:=r'.length
  exact len_tuple pl (by simp only [List.size_toArray] <;> omega) ⟨.int ys.length,H,I.tok _,⟨s.toks + 1,by rw [List.size_toArray,hlen]⟩,q⟩
theorem sP:dU X (.builtin "len") (fun xs H Q=>∃ z,xs=[.str z]∧z.length≤sizeLine∧Q (.int z.length) H):=by
 intro pins s σ H xs us Q I r h
 obtain ⟨z,rfl,hz,q⟩:=h
 obtain ⟨u,rfl,t,rfl⟩:=vals1 r
 have hn:=o9
 exact len_str (by omega) ⟨.int z.length,H,I.tok _,⟨_,rfl⟩,q⟩
theorem dU.or {f:Value} {r r':List V->Hp->VK->Prop} (h:dU X f r) (h':dU X f r'):dU X f (fun xs H Q=>r xs H Q∨r' xs H Q):=by
 intro pins s σ H xs us Q I rs q
 rcases q with q | q
 ·exact h pins s σ H xs us Q I rs q
 ·exact h' pins s σ H xs us Q I rs q
theorem sQ:dU X (.type "list") (fun xs H Q=>∃ p ys,xs=[.ref p]∧(SqL X.K H p ys∨SqT X.K H p ys)∧∀ l,H l=none->Q (.ref l) (upd H l (.lst ys))):=by
 intro pins s σ H xs us Q I r h
 obtain ⟨p,ys,rfl,hq,q⟩:=h
 obtain ⟨u,rfl,rx⟩:=vals1 r
 cases rx
 have fin:∀ (its:List Value),Vals ys its->ys.length≤sizeLine->∀ (h':Heap) (c':Nat),(∀ b o',s.heap.get? b=some o'->h'.get? b=some o') ->
   h'.get? s.heap.objs.size=some { cls:=.type "list",dict:=none,data:=.seq its.toArray c',slots:=#[] }->EP X pins σ Q (.ref s.heap.objs.size) { s with heap:=h' }:=fun its r' hz h' c' kp e =>
  ⟨.ref s.heap.objs.size,_,I.laid (t':=s.toks) kp (Nat.le_refl _) (show b9 X.prog X.w _ h' _ (.lst ys) from ⟨hz,its,c',r',e⟩),rfl,q _ (I.hok.fresh (Nat.le_refl _))⟩
 rcases hq with hq | hq
 ·obtain ⟨its,r',pl,hz⟩:=I.list hq
  have hlen:=r'.length
  obtain ⟨o,ho,hc,n,hd⟩:=pl.isList
  exact call_list_seq p (.inl rfl) ho hc hd (fun h' c' kp e=>fin its r' hz h' c' kp e) (by simp only [List.size_toArray] <;> omega)
 ·obtain ⟨its,r',pl,hz⟩:=I.tuple hq
  have hlen:=r'.length
  obtain ⟨o,ho,hc,n,hd⟩:=pl
  exact call_list_seq p (.inr rfl) ho hc hd (fun h' c' kp e=>fin its r' hz h' c' kp e) (by simp only [List.size_toArray] <;> omega)
theorem qQ:dU X (.type "tuple") (fun xs H Q=>∃ p ys,xs=[.ref p]∧((SqL X.K H p ys∧∀ l,H l=none->Q (.ref l) (upd H l (.tup ys)))∨(SqT X.K H p ys∧Q (.ref p) H))):=by
 intro pins s σ H xs us Q I r h
 obtain ⟨p,ys,rfl,h⟩:=h
 obtain ⟨u,rfl,rx⟩:=vals1 r
 cases rx
 rcases h with ⟨hq,q⟩ | ⟨hq,q⟩
 ·obtain ⟨its,r',pl,hz⟩:=I.list hq
  have hlen:=r'.length
  refine call_tuple_list pl.isList (fun h' kp=>?_) (by simp only [List.size_toArray] <;> omega)
  have I1:Inv X pins σ H { s with heap:=h' }:=I.kept (t':=s.toks) kp
  have I2:Inv X pins σ (upd H h'.objs.size (.tup ys)) { s with heap:=h'.push { cls:=.type "tuple",data:=.seq its.toArray } } :=
   I1.laid (t':=s.toks) (fun b o e=>Heap.get?_push_of_some _ e) (Nat.le_refl _) (show b9 X.prog X.w _ _ _ (.tup ys) from ⟨hz,its,r',IsTup.new _ _⟩)
  exact ⟨.ref h'.objs.size,_,I2,rfl,q _ (I1.hok.fresh (Nat.le_refl _))⟩
 ·obtain ⟨its,r',pl,hz⟩:=I.tuple hq
  exact call_tuple_same pl ⟨.ref p,H,I,rfl,q⟩
def tyV (K:PySem.W.Frag) (T:String) (x:V) (H:Hp):Prop:=match x with
 | .str _=>T = "str"
 | .int _=>T = "int"
 | .ref p=>(T = "list"∧∃ xs,SqL K H p xs)∨(T = "tuple"∧∃ o,K.lookup p=some o∧o.cls=.type "tuple"∧o.dict=none) ∨
   (T = "dict"∧((∃ kvs,H p=some (.dK kvs))∨∃ kvs,H p=some (.dT kvs)))∨(T = "set"∧∃ S n,H p=some (.set S n))
 | _=>False
theorem AS {pins:List (Addr × Obj)} {σ:St} {H:Hp} {s:Shared} {T:String} {x:V} {v:Value} (I:Inv X pins σ H s) (r:RelV x v) (ty:tyV X.K T x H) :
  s.TypeIs v T∧∀ a,v=.ref a->∃ ob,s.heap.get? a=some ob∧ob.dict=none:=by
 cases x with
 | str z =>
  obtain ⟨t,rfl⟩:=r
  cases (show T = "str" from ty)
  exact ⟨typeIs_str s z t,fun _ e=>nomatch e⟩
 | int i =>
  obtain ⟨t,rfl⟩:=r
  cases (show T = "int" from ty)
  exact ⟨typeIs_int s i t,fun _ e=>nomatch e⟩
 | ref p =>
  cases r
  rcases ty with ⟨rfl,xs,hq⟩ | ⟨rfl,o,hk,hc,hd⟩ | ⟨rfl,hk⟩ | ⟨rfl,S,n,hk⟩
  ·obtain ⟨its,_,pl,_⟩:=I.list hq
   refine ⟨pl.isList.typeIs,fun a e=>?_⟩
   cases e
   obtain ⟨o,n,e,c,hd,_⟩:=pl
   exact ⟨o,e,hd⟩
  ·refine ⟨⟨o,I.kIn p o hk,hc⟩,fun a e=>?_⟩
   cases e
   exact ⟨o,I.kIn _ o hk,hd⟩
  ·have z:∃ o,s.heap.get? p=some o∧o.ExactDict:=by
    rcases hk with ⟨kvs,hk⟩ | ⟨kvs,hk⟩
    ·obtain ⟨_,_,_,_,o,_,_,e,ex,_⟩:=I.hok p _ hk
     exact ⟨o,e,ex⟩
    ·obtain ⟨_,_,_,_,o,_,_,e,ex,_⟩:=I.hok p _ hk
     exact ⟨o,e,ex⟩
   obtain ⟨o,e,ex⟩:=z
   refine ⟨⟨o,e,ex.1⟩,fun a e2=>?_⟩
   cases e2
   exact ⟨o,e,ex.2.1⟩
  ·obtain ⟨o,_,_,_,e,ex,_⟩:=I.hok p _ hk
   refine ⟨⟨o,e,ex.1⟩,fun a e2=>?_⟩
   cases e2
   exact ⟨o,e,ex.2.1⟩
 | _=>exact False.elim ty
def AU (K:PySem.W.Frag) (T:String) (r:V->List V->Hp->VK->Prop) (to:TE):TE:=fun σ H Q=>to σ H fun x H1=>tyV K T x H1∧r x [] H1 Q
def tBM (K:PySem.W.Frag) (T:String) (r:V->List V->Hp->VK->Prop) (to:TE) (t:TA):TE:=fun σ H Q=>to σ H fun x H1=>tyV K T x H1∧t σ H1 fun xs H2=>r x xs H2 Q
variable {o e:Expr} {es:List Expr} {to:TE} {t:TA} {name:Str} {apos cpos:Pos} {T id:String} {r:V->List V->Hp->VK->Prop}
theorem Gx (pa:PlainAttrs T) (slot:Slot T name id) (hty:typeOf (.builtin id)=pure (.type "method_descriptor")) (hm:MtR X id r) (ho:PE X o to)
  (hbase:attributeBase o name X.env (eval o X.env)=eval o X.env:=by rfl) (hline:(apos.endLine == cpos.line)=true:=by rfl):PE X (.Call (.Attribute o name apos) [] [] cpos) (AU X.K T r to):=by
 intro pins s σ H Q I h
 refine wpAny_Call_method0_late hbase hline (thn (ho pins s σ H _ I h) fun v s1 ⟨x,H1,I1,r1,ty,q1⟩=>?_)
 obtain ⟨h1,h2⟩:=AS I1 r1 ty
 exact ⟨T,id,pa,slot,hty,h1,h2,Calls.callWith_builtin rfl (PySem.evalArgs_none (hm pins s1 σ H1 x [] v [] Q I1 r1 .nil q1))⟩
theorem Ie (pa:PlainAttrs T) (slot:Slot T name id) (hty:typeOf (.builtin id)=pure (.type "method_descriptor")) (hm:MtR X id r) (ho:PE X o to) (ha:PA X (e::es) t)
  (hbase:attributeBase o name X.env (eval o X.env)=eval o X.env:=by rfl)
  (hfew:((backTo cpos (starEach (e::es) X.env)).all (fun x=>!x.1) && (backToKw cpos (keywordEach [] X.env)).all (fun x=>x.1.isSome)
   && decide ((e::es).length + ([]:List Keyword).length + (if ([]:List Keyword).isEmpty then 0 else 1) < 30))=true:=by rfl)
  (hline:(apos.endLine == cpos.line)=true:=by rfl) (hs:starEach (e::es) X.env=(false,eval e X.env)::starEach es X.env:=by rfl) (hplain:(backTo cpos (starEach es X.env)).any (·.1)=false:=by rfl) :
  PE X (.Call (.Attribute o name apos) (e::es) [] cpos) (tBM X.K T r to t):=by
 intro pins s σ H Q I h
 refine wpAny_Call_method_late hbase hfew hline rfl (thn (ho pins s σ H _ I h) fun v s1 ⟨x,H1,I1,r1,ty,q1⟩=>?_)
 obtain ⟨h1,h2⟩:=AS I1 r1 ty
 refine ⟨T,id,pa,slot,hty,h1,h2,?_⟩
 have hA:=ha cpos pins s1 σ H1 _ I1 q1
 rw [hs] at hA ⊢
 refine Calls.callWith_builtin (by show (false || (backTo cpos (starEach es X.env)).any (·.1))=false; rw [hplain] <;> rfl) (Calls.evalArgs_plain ?_)
 exact thn hA fun us s2 ⟨vs,H2,I2,r2,q2⟩=>hm pins s2 σ H2 x vs v us Q I2 r1 r2 q2
end
end L2
namespace L2
open PySem PySem.Spec PyProof.Rows
def MtM (X:Cx) (id:String) (r:V->List V->Hp->VK->Prop):Prop :=
 ∀ (pins:List (Addr × Obj)) (s:Shared) (σ:St) (H:Hp) (x:V) (xs:List V) (v:Value) (us:List Value) (Q:VK),Inv X pins σ H s->RelV x v->Vals xs us->r x xs H Q ->
  wpAny (model X.prog X.w) X.A (call (.builtin id) (v::us)) (EP X pins σ Q) X.xe s
theorem Vals.one:∀ {x:V} {us:List Value},Vals [x] us->∃ u,us=[u]∧RelV x u
 | _,_,.cons r .nil=>⟨_,rfl,r⟩
theorem Vals.zero:∀ {us:List Value},Vals [] us->us=[]
 | _,.nil=>rfl
theorem Vals.dropLast {xs:List V} {us:List Value} (h:Vals xs us):Vals xs.dropLast us.dropLast:=by
 induction h with
 | nil=>exact .nil
 | cons r t ih =>
  cases t with
  | nil=>exact .nil
  | cons q t'=>exact .cons r ih
theorem Vals.reverse {xs:List V} {us:List Value} (h:Vals xs us):Vals xs.reverse us.reverse:=by
 induction h with
 | nil=>exact .nil
 | cons r t ih=>rw [List.reverse_cons,List.reverse_cons]; exact Vals.append ih (.cons r .nil)
theorem Vals.rep {xs:List V} {us:List Value} (h:Vals xs us):∀ k:Nat,Vals (List.replicate k xs).flatten (List.replicate k us).flatten
 | 0=>.nil
 | k + 1=>by
  rw [List.replicate_succ,List.replicate_succ,List.flatten_cons,List.flatten_cons]
  exact Vals.append h (Vals.rep h k)
theorem foldl_rep (its:List Value):∀ (k:Nat) (acc:List Value),
  List.foldl (fun x1 x2=>x1++x2) acc.toArray (List.replicate k its.toArray)=(acc++(List.replicate k its).flatten).toArray
 | 0,acc=>by simp
 | k + 1,acc=>by
  have e:acc.toArray++its.toArray=(acc++its).toArray:=by simp
  have e2:(acc++its)++(List.replicate k its).flatten=acc++(List.replicate (k + 1) its).flatten:=by
   rw [List.replicate_succ,List.flatten_cons,List.append_assoc]
  rw [← e2,← foldl_rep its k (acc++its),← e,List.replicate_succ,List.foldl_cons]
section
variable {X:Cx} {pins:List (Addr × Obj)} {σ:St} {H:Hp} {s:Shared} {l b:Addr} {xs ys zs:List V}
theorem Inv.Dw {its its':List Value} {n:Nat} {f:Array Value->Array Value} {t':Nat} (I:Inv X pins σ H s) (hH:H l=some (.lst xs))
  (e:s.heap.get? l=some { cls:=.type "list",data:=.seq its.toArray n }) (hf:f its.toArray=its'.toArray) (hv:Vals ys its') (hz:ys.length≤sizeLine) :
  Inv X pins σ (upd H l (.lst ys)) { s with heap:=s.heap.update l (Obj.mapSeq f),toks:=t' }:=by
 have q:=PySem.IsL.update e f
 rw [hf] at q
 refine I.write (x:=l) (e:=l) (by rw [hH]; exact trivial) (.inl rfl) (fun b' u hb hu=>(Heap.get?_update_other s.heap (Obj.mapSeq f) (Ne.symm hb)).trans hu) ⟨_,q⟩ ?_
 exact ⟨hz,its',_,hv,q⟩
theorem Inv.Ig {its:List Value} {t':Nat} (I:Inv X pins σ H s) (hv:Vals ys its) (hz:ys.length≤sizeLine) :
  Inv X pins σ (upd H s.heap.objs.size (.lst ys)) { s with heap:=s.heap.push { cls:=.type "list",data:=.seq its.toArray },toks:=t' } :=
 I.laid (fun _ _ q=>Heap.get?_push_of_some _ q) (Nat.le_refl _) ⟨hz,its,0,hv,Heap.get?_push_size _ rfl⟩
theorem Inv.fresh (I:Inv X pins σ H s):H s.heap.objs.size=none:=I.hok.fresh (Nat.le_refl _)
theorem Inv.AV (I:Inv X pins σ H s) (hH:H l=some (.lst xs)):xs.length≤sizeLine∧∃ (its:List Value) (n:Nat),Vals xs its∧xs.length=its.length∧s.heap.get? l=some { cls:=.type "list",data:=.seq its.toArray n }:=by
 obtain ⟨z,its,n,r,e⟩:=I.hok l _ hH
 exact ⟨z,its,n,r,r.length,e⟩
theorem AW {n:Nat} (h:n≤sizeLine):Builtin.List.listTooLong n=false:=by
 unfold Builtin.List.listTooLong
 exact decide_eq_false (by omega)
end
section
variable {X:Cx}
def lX:V->List V->Hp->VK->Prop:=fun x vs H Q=>∃ l xs y,x=.ref l∧vs=[y]∧H l=some (.lst xs)∧xs.length < sizeLine∧Q .non (upd H l (.lst (xs++[y])))
theorem gY:MtM X "list.append" lX:=by
 intro pins s σ H x vs v us Q I rx rv h
 obtain ⟨l,xs,y,rfl,rfl,hH,hz,q⟩:=h
 cases rx
 obtain ⟨u,rfl,ru⟩:=rv.one
 obtain ⟨z,its,n,r,hl,e⟩:=I.AV hH
 refine call_meets F.slot_list_append ⟨_,e,rfl⟩ F.entry_list_append (F.args_list_append_2 _ _) (PySem.list_append l its.toArray n u (by rw [List.size_toArray]; omega)) ⟨e,?_⟩
 refine ⟨.non,_,I.Dw (its':=its++[u]) hH e (by simp) (r.append (.cons ru .nil)) ?_,rfl,q⟩
 rw [List.length_append,List.length_singleton]
 omega
def uK:V->List V->Hp->VK->Prop:=fun x vs H Q=>∃ l xs,x=.ref l∧vs=[]∧H l=some (.lst xs)∧Q .non (upd H l (.lst xs.reverse))
theorem xc:MtM X "list.reverse" uK:=by
 intro pins s σ H x vs v us Q I rx rv h
 obtain ⟨l,xs,rfl,rfl,hH,q⟩:=h
 cases rx
 have hus:=rv.zero
 subst hus
 obtain ⟨z,its,n,r,hl,e⟩:=I.AV hH
 refine call_meets F.slot_list_reverse ⟨_,e,rfl⟩ F.entry_list_reverse (F.args_list_reverse_1 _) (AutoSeq1.list_reverse_list_0 l its.toArray n (by rw [List.size_toArray]; omega)) ⟨e,?_⟩
 refine ⟨.non,_,I.Dw (its':=its.reverse) hH e (by simp) r.reverse ?_,rfl,q⟩
 rw [List.length_reverse]
 omega
def AX:V->List V->Hp->VK->Prop:=fun x vs H Q=>∃ l xs,x=.ref l∧vs=[]∧H l=some (.lst xs)∧Q .non (upd H l (.lst []))
theorem AY:MtM X "list.clear" AX:=by
 intro pins s σ H x vs v us Q I rx rv h
 obtain ⟨l,xs,rfl,rfl,hH,q⟩:=h
 cases rx
 have hus:=rv.zero
 subst hus
 obtain ⟨z,its,n,r,hl,e⟩:=I.AV hH
 refine call_meets F.slot_list_clear ⟨_,e,rfl⟩ F.entry_list_clear (F.args_list_clear_1 _) (AutoSeq1.list_clear_list_0 l its.toArray n (by rw [List.size_toArray]; omega)) ⟨e,?_⟩
 exact ⟨.non,_,I.Dw (its':=[]) (ys:=[]) hH e rfl .nil (Nat.zero_le _),rfl,q⟩
def Ih:R2:=fun x y H Q=>∃ l k xs,x=.ref l∧y=.int k∧H l=some (.lst xs)∧-(2 ^ 63)≤k∧k < 2 ^ 63∧xs.length * k.toNat≤sizeLine ∧
 ∀ p,H p=none->Q (.ref p) (upd H p (.lst (List.replicate k.toNat xs).flatten))
theorem len_rep {α:Type} (xs:List α) (k:Nat):(List.replicate k xs).flatten.length=k * xs.length:=by
 induction k with
 | zero=>simp
 | succ k ih=>rw [List.replicate_succ,List.flatten_cons,List.length_append,ih,Nat.succ_mul,Nat.add_comm]
theorem Gy:OpR X (binaryOp .Mult) Ih:=by
 intro pins s σ H x y v u Q I rx ry h
 obtain ⟨l,k,xs,rfl,rfl,hH,h1,h2,hz,q⟩:=h
 cases rx
 obtain ⟨t,rfl⟩:=ry
 obtain ⟨z,its,n,r,hl,e⟩:=I.AV hH
 have hlen:its.toArray.size * k.toNat≤sizeLine:=by rw [List.size_toArray,← hl]; exact hz
 have hcap : ¬ its.toArray.size * k.toNat > (2 ^ 63 - 1) / 8:=by
  have:(sizeLine:Nat)≤(2 ^ 63 - 1) / 8:=by decide
  omega
 have hfit : ¬ (!Builtin.List.listFitsIndex k)=true:=by
  rw [fitsIndex_both h1 h2]
  exact Bool.false_ne_true
 have Ii : ¬ Builtin.List.listTooLong (its.toArray.size * k.toNat)=true:=by
  rw [AW hlen]
  exact Bool.false_ne_true
 have hnew:List.foldl (fun x1 x2=>x1++x2) #[] (List.replicate (if its.toArray.isEmpty=true then 0 else k.toNat) its.toArray)=(List.replicate k.toNat its).flatten.toArray:=by
  have f0:∀ m:Nat,List.foldl (fun x1 x2=>x1++x2) #[] (List.replicate m its.toArray)=(List.replicate m its).flatten.toArray:=fun m=>by
   have:=foldl_rep its m []
   rw [List.nil_append] at this
   exact this
  rw [f0]
  cases its with
  | nil=>simp
  | cons a r'=>rw [if_neg (by simp)]
 refine wpAny_binaryOp_repeat_ref (T:="list") (U:="int") (by decide) ⟨_,e,rfl⟩ (fun s'=>typeIs_int s' k t) noFill_list_mul F.fills_int_mul F.slot_int_rmul repeat_list F.slot_int_index.lookup
  (call_meets F.slot_int_rmul (typeIs_int s k t) F.entry_int_rmul (F.args_int_rmul_2 _ _) (int___rmul___int_list k t l its.toArray n)
   ⟨e,rfl,⟨_,e,rfl⟩,call_meets F.slot_list_mul ⟨_,e,rfl⟩ F.entry_list_mul (F.args_list_mul_2 _ _) (AutoListH.list___mul___list_int_3 l its.toArray n k t hfit hcap Ii) ⟨e,?_⟩⟩)
 rw [hnew]
 exact ⟨.ref _,_,I.Ig (t':=s.toks) (r.rep k.toNat) (by rw [len_rep,Nat.mul_comm]; exact hz),rfl,q _ I.fresh⟩
end
section
variable {prog:Program} {w:World} {A:Around} {E:Value->Shared->Prop} {s:Shared}
set_option maxRecDepth 100000 in
end
section
variable {X:Cx}
end
end L2
namespace Att
open PySem PySem.W PySem.Calls PyProof.Rows
theorem ox {P:Params} {h:Heap}:∀ (ns:List Int) (vs:List Value),WellAll P h vs (ns.map WData.int)->IntsAre vs ns:=by
 intro ns
 induction ns with
 | nil =>
  intro vs w
  rw [List.map_nil] at w
  cases w
  exact .nil
 | cons n ns ih =>
  intro vs w
  rw [List.map_cons] at w
  cases w with
  | cons a b =>
   cases a
   exact .cons _ _ (ih _ b)
theorem zH {l:OpenLaw} {n:Nat} (hn:l.most=some n) {P:Params} {h:Heap} {args:List WData} {vals:List Value}
  (hpre:l.row.toRowW.claim.pre args=true) (hwl:WellAll P h vals args) :
  ∃ a vs ns,vals=[Value.ref a]∧args=[WData.list (ns.map WData.int)]∧h.get? a=some { cls:=.type "list",data:=.seq vs.toArray }∧IntsAre vs ns∧ns.length≤n:=by
 have hsh:WShape.hasAll [] args [.list .int]=true:=(pre_splitW hpre).1
 have hc:l.pre.holds [] { args:=args }=true:=(pre_splitW hpre).2
 obtain ⟨d,r,rfl,h1,h2⟩:=hasAllW_cons hsh
 obtain rfl:=hasAllW_nil h2
 obtain ⟨xs,rfl,h3⟩:=hasW_list h1
 obtain ⟨ns,rfl⟩:=items_int h3
 have hlen:ns.length≤n:=by
  unfold OpenLaw.pre at hc
  have h4:(WTm.not (.lt (.lit (.int (n:Int))) (.len (.arg 0)))).holds [] { args:=[.list (ns.map .int)] }=true:=by
   have h4:=(holds_andW hc).1
   rw [hn] at h4
   exact h4
  have h5:=condW_of h4 (w_not (w_lt w_lit (w_len_list (w_arg rfl))))
  rw [List.length_map] at h5
  refine Nat.le_of_not_lt fun q=>?_
  have q':(n:Int) < ((ns.length:Nat):Int):=by omega
  first
   | (rw [decide_eq_true q'] at h5; exact absurd h5 (by decide))
   | (simp at h5; omega)
 cases hwl with
 | cons w1 w2 =>
  cases w2
  cases w1 with
  | list ho hall=>exact ⟨_,_,ns,rfl,rfl,ho,ox ns _ hall,hlen⟩
theorem zI (l:OpenLaw) (args:List WData):l.row.toRowW.claim.post args (.bool true) args=true :=
 postW_of (r:=l.row.toRowW) (X:=(true == true))
  (show WShape.has [] (.bool true) .bool=true by first | rfl | decide | simp [WShape.has,WShape.arms,WShape.armsAll])
  (show (WTm.eq .res (.lit (.bool true))).value [] { args:=args,res:=some (.bool true),after:=args }=some (.bool (true == true)) from w_eq_bool (w_res rfl) w_lit) rfl
section
variable {prog:Program} {w:World} {A:Around} {E:Value->Shared->Prop} {s:Shared} {K:Frag}
end
end Att
namespace L2
open PySem PySem.Spec PyProof.Rows
theorem rK:∀ {vs:List Value} {ns:List Int},IntsAre vs ns->Vals (ns.map V.int) vs
 | _,_,.nil=>.nil
 | _,_,.cons n t h=>.cons ⟨t,rfl⟩ (rK h)
def Only (H:Hp):Prop:=∀ b,H b=none∨∃ o xs,H b=some (.frz o (.lst xs))
theorem AZ {P:Program} {w:World} {K:PySem.W.Frag} {mg mb:Str->Option Value} {CX:CXT} {k:Nat} {fa a:Addr} {fd:FuncData} {x:Str} {sp:Sp} {s₁:Shared} {vs:List Value} {ns:List Int}
  (KX:K.In s₁.heap) (hns:s₁.heap.Ns mainGlobals mg) (hb:s₁.heap.Ns builtinsNs mb) (hbb:∀ x:Str,x≠"__name__"->mb x=bootBuiltins x) (hlim:s₁.heap.NoLimit) (hg:s₁.gens=#[])
  (ha:s₁.heap.get? a=some { cls:=.type "list",data:=.seq vs.toArray }) (hi:IntsAre vs ns) (hl:ns.length≤sizeLine) (hr:fq k callerA)
  (F:∀ base:Heap,K.In base->base.Ns mainGlobals mg->kX P w K mg base CX k fa fd [x] sp) (hbind:∀ (s:Shared) (u:Value),BindsTo s fd ⟨[u],[]⟩ [(x,u)])
  (hsp:∀ H:Hp,Only H->SqL K H a (ns.map V.int)->sp [.ref a] H (fun v _=>v=.bl true) fun _ _ _=>False)
  (hCX:∀ H e s',CX [] H s₁ (fun _ _ _=>False) e s'->False) :
  codeAny (model P w) callerA (.call (.ref fa) ⟨[.ref a],[]⟩) (fun r s'=>r=.ok (.ret (.bool true))∧OldK s₁.heap s'.heap∧s'.os=s₁.os∧AllBare s'.gens) s₁:=by
 have rv:=rK hi
 have lenV:=hi.length
 have core:∀ H:Hp,Only H->SqL K H a (ns.map V.int)->HOk P w H s₁.heap->(∀ b,H b≠none->b=a)->(H a≠none->K.lookup a=none) ->
   codeAny (model P w) callerA (.call (.ref fa) ⟨[.ref a],[]⟩) (fun r s'=>r=.ok (.ret (.bool true))∧OldK s₁.heap s'.heap∧s'.os=s₁.os∧AllBare s'.gens) s₁:=by
  intro H hO hS hok hA hK
  have yo:∀ {b:Addr} {o:Obj},s₁.heap.get? b=some o->H b=none->(sG s₁.heap H).get? b=some o:=fun e n=>AH e n
  have noA:∀ {b:Addr} {o:Obj} {es:Array DictEntry} {ep:Nat},s₁.heap.get? b=some o->o.data=.dict es ep->H b=none:=fun {b o es ep} e d=>by
   cases q:H b with
   | none=>rfl
   | some u =>
    have e':b=a:=hA b (by rw [q]; simp)
    subst e'
    rw [ha] at e; cases e
    have d':Data.seq vs.toArray _=Data.dict es ep:=d
    cases d'
  have nsK:∀ {b:Addr} {m:Str->Option Value},s₁.heap.Ns b m->(sG s₁.heap H).Ns b m:=fun {b m} ⟨o,es,ep,e,d,r⟩=>⟨o,es,ep,yo e (noA e d),d,r⟩
  have hKb:K.In (sG s₁.heap H):=fun b o e=>yo (KX b o e) (by
   cases q:H b with
   | none=>rfl
   | some u =>
    have e':b=a:=hA b (by rw [q]; simp)
    subst e'
    rw [hK (by rw [q]; simp)] at e; cases e)
  have hM:Mod K mg (sG s₁.heap H):=⟨hKb,nsK hns,⟨mb,nsK hb,hbb⟩,let ⟨mc,h1,h2⟩:=hlim; ⟨mc,nsK h1,h2⟩⟩
  have e0:qO P w K mg (sG s₁.heap H) callerA [] s₁ H:=⟨rfl,hM,fun b o e=>Di e,Nat.le_of_eq (zx _ _),trivial,fun b hb=>absurd (show b∈([]:List Addr) from hb) (by simp),hok,.of_eq hg⟩
  refine codeAny_mono ((F _ hKb (nsK hns)).run callerA [] s₁ H ⟨[.ref a],[]⟩ [.ref a] [.ref a] _ _ hr e0 (hbind s₁ (.ref a)) (.cons rfl .nil) (hsp H hO hS)) fun r s' h=>?_
  cases r with
  | error e=>exact (hCX H e s' h).elim
  | ok fl =>
   cases fl with
   | next=>exact False.elim h
   | brk=>exact False.elim h
   | cont=>exact False.elim h
   | ret u =>
    obtain ⟨v,H',os,bare,un,hok',r',q⟩:=h
    have q':v=.bl true:=q
    subst q'
    obtain rfl:u=Value.bool true:=r'
    refine ⟨rfl,OldK.of_keep fun b o e=>?_,os,bare⟩
    cases q:H b with
    | none=>exact un.keep b o e q (by intro z; exact absurd (show b∈([]:List Addr) from z) (by simp)) (by simp)
    | some u =>
     rcases hO b with z | ⟨ob,xs,z⟩
     ·rw [q] at z; cases z
     ·have z2:=un.g8 b ob _ z
      obtain ⟨e1,_⟩:=hok b _ z
      obtain ⟨e2,_⟩:=hok' b _ z2
      rw [e] at e1; cases e1
      exact e2
 cases hk:K.lookup a with
 | some o =>
  have e:=KX a o hk
  rw [ha] at e
  cases e
  refine core (fun _=>none) (fun _=>.inl rfl) (.inr ⟨_,vs.toArray,_,hk,rfl,rfl,rfl,by rw [List.size_toArray,lenV]; exact hl,by simpa using rv⟩) (fun b u z=>by have z':(none:Option HO)=some u:=z; cases z') (fun b z=>absurd rfl z) fun z=>absurd rfl z
 | none =>
  refine core (fun b=>if b=a then some (.frz { cls:=.type "list",data:=.seq vs.toArray } (.lst (ns.map V.int))) else none) (fun b=>?_) (.inl (.inr ⟨{ cls:=.type "list",data:=.seq vs.toArray },if_pos rfl⟩)) (fun b u z=>?_) (fun b z=>?_) fun _=>hk
  ·by_cases hb:b=a
   ·exact .inr ⟨_,_,if_pos hb⟩
   ·exact .inl (if_neg hb)
  ·by_cases hb:b=a
   ·have z':=(if_pos hb).symm.trans z
    cases z'
    subst hb
    exact ⟨ha,by rw [List.length_map]; exact hl,vs,_,rv,ha⟩
   ·have z':=(if_neg hb).symm.trans z
    cases z'
  ·by_cases hb:b=a
   ·exact hb
   ·exact absurd (if_neg hb) z
end L2
namespace L2
open PySem PySem.Spec PyProof.Rows
abbrev KOf {K:PySem.W.Frag} {h:Heap} (_:K.In h):PySem.W.Frag:=K
end L2
namespace L2
open PySem PySem.Spec PyProof.Rows
def iG (s:Stmt):Arguments:=match s with
 | .FunctionDef _ a _ _ _ _ _ _ _ _=>a
 | _=>{ posonlyargs:=[],args:=[],vararg:=none,kwonlyargs:=[],kw_defaults:=[],kwarg:=none,defaults:=[] }
def ft (s:Stmt):List Stmt:=match s with
 | .FunctionDef _ _ b _ _ _ _ _ _ _=>b
 | _=>[]
def aK (s:Stmt):Scope:=match s with
 | .FunctionDef _ _ _ _ _ _ sc _ _ _=>sc
 | _=>{ kind:=.function,names:=[],isGenerator:=false,isCoroutine:=false }
abbrev CX0:CXT:=fun _ _ _ _ _ _=>False
abbrev E0:XK:=fun _ _ _=>False
theorem Ij {X:Cx}:Passes CX0 X E0:=fun _ _ _ _ _ _ _ h=>h.elim
structure Fun (K:PySem.W.Frag) (x qual:Str) (st:Stmt) (f:Addr) (fd:FuncData):Prop where
 ex:∃ (oc:Value) (od:Option Addr) (kV doc pm:Value) (an:Option Addr) (cdv ct:Value) (osl:Array (Option Value)),
  fd=PySem.W.fnOf x qual (iG st) (ft st) (aK st) .none kV doc pm an cdv ct∧K.lookup f=some ⟨oc,od,.func fd,osl⟩∧PySem.W.codeIn K cdv qual=true
 kp:PySem.W.keepIn K (.ref f)=true
section
variable {P:Program} {w:World} {K:PySem.W.Frag} {mg:Str->Option Value} {base:Heap}
theorem Fun.ok {x qual:Str} {st:Stmt} {f:Addr} {fd:FuncData} {N ps:List Str} {k:Nat} {sp:Sp} (F:Fun K x qual st f fd) (S:bC N ps (aK st)) (len:∀ vs H Q E,sp vs H Q E->vs.length=ps.length)
  (hbody:∀ (cdv:Value) (A:Around) (outer:List Env) (s:Shared) (H:Hp) (vs:List V) (Q:VK) (E:XK),fq k (A.deeper (envOfC qual (aK st) s.heap.objs.size f cdv))->sp vs H Q E ->
   ∃ t,PSs (mO CX0 P w K mg base N qual (aK st) f cdv A outer s H E).nox (ft st) t∧t { nx:=fun _ H'=>Q .non H',rt:=Q } (start N vs) H):kX P w K mg base CX0 (k + 1) f fd ps sp:=by
 obtain ⟨oc,od,kV,doc,pm,an,cdv,ct,osl,rfl,lk,hcd⟩:=F.ex
 refine ej lk hcd S len fun A outer s H vs Q E hr hsp=>?_
 obtain ⟨t,h,q⟩:=hbody cdv A outer s H vs Q E hr hsp
 exact ⟨t,h.nox,q⟩
theorem Fun.binds {x qual:Str} {st:Stmt} {f:Addr} {fd:FuncData} {ps:List Str} (F:Fun K x qual st f fd)
  (h:∀ (kV doc pm:Value) (an:Option Addr) (cdv ct:Value) (us:List Value),us.length=ps.length->bindArgs (PySem.W.fnOf x qual (iG st) (ft st) (aK st) .none kV doc pm an cdv ct) ⟨us,[]⟩=pure (ps.zip us)):Binds K fd ps []:=by
 obtain ⟨oc,od,kV,doc,pm,an,cdv,ct,osl,rfl,lk,hcd⟩:=F.ex
 exact .all (h kV doc pm an cdv ct)
theorem Gz {x qual:Str} {st:Stmt} {f:Addr} {oc:Value} {od an:Option Addr} {osl:Array (Option Value)} {kV doc pm cdv ct:Value} (l:K.lookup f=some ⟨oc,od,.func (PySem.W.fnOf x qual (iG st) (ft st) (aK st) .none kV doc pm an cdv ct),osl⟩)
  (c:PySem.W.codeIn K cdv qual=true) (k:PySem.W.keepIn K (.ref f)=true):Fun K x qual st f (PySem.W.fnOf x qual (iG st) (ft st) (aK st) .none kV doc pm an cdv ct):=⟨⟨oc,od,kV,doc,pm,an,cdv,ct,osl,rfl,l,c⟩,k⟩
end
section
variable {X:Cx}
theorem pv (i:Nat) {x:Str} {pos:Pos} (hN:X.N[i]?=some x:=by rfl) (hv:Vis X.env.scope x:=by first | exact Or.inl rfl | exact Or.inr (Or.inl rfl) | exact Or.inr (Or.inr rfl)) (hd:(x == ("__debug__":Str))=false:=by decide)
  (hcd:(x == ("__classdict__":Str))=false:=by decide):PE X (.Name x pos) (lz i):=F5 hN hv hd hcd
end
def aC (H H':Hp):Prop:=∀ b o,H b=some o->H' b=some o
theorem aC.refl (H:Hp):aC H H:=fun _ _ h=>h
theorem aC.trans {H H1 H2:Hp} (a:aC H H1) (b:aC H1 H2):aC H H2:=fun c o h=>b c o (a c o h)
theorem aC.free {H H':Hp} (e:aC H H') {l:Addr} (h:H' l=Option.none):H l=Option.none:=by
 cases q:H l with
 | none=>rfl
 | some o =>
  rw [e l o q] at h
  cases h
theorem aC.seq {K:PySem.W.Frag} {H H':Hp} {a:Addr} {xs:List V} (e:aC H H') (h:SqL K H a xs):SqL K H' a xs:=by
 rcases h with (h | ⟨o,h⟩) | h
 ·exact .inl (.inl (e _ _ h))
 ·exact .inl (.inr ⟨o,e _ _ h⟩)
 ·exact .inr h
end L2
namespace L2
open PySem PySem.Spec PyProof.Rows
theorem Inv.track {X:Cx} {pins:List (Addr × Obj)} {σ:St} {H:Hp} {s:Shared} {D:Addr} {o:HO} (I:Inv X pins σ H s) (hn:H D=none) (hD:X.s₀.heap.objs.size≤D) (hL:D≠X.env.locals)
  (hc:∀ x c,X.env.cells.lookup x=some c->c≠D) (hp:∀ p∈X.pn++pins,p.1≠D) (new:b9 X.prog X.w (upd H D o) s.heap D o):Inv X pins σ (upd H D o) s:=by
 have ne:∀ b u,H b=some u->b≠D:=fun b u e=>eT e hn
 refine ⟨I.ok,I.os,I.bare,⟨I.base.keep,I.base.slot,fun b ob e n hx=>?_,I.base.there,fun b xs e=>?_,fun b ob u e=>?_,fun b ps e=>?_⟩,I.loc,I.cell,?_,fun x c e=>?_,fun p q=>?_,fun b u e=>?_,I.len⟩
 ·have:b≠D:=Nat.ne_of_lt (Nat.lt_of_lt_of_le (Heap.lt_size e) hD)
  rw [aq this]; exact I.base.free b ob e n hx
 ·have z:=I.base.tups b xs e
  rw [aq (ne _ _ z)]; exact z
 ·have z:=I.base.g8 b ob u e
  rw [aq (ne _ _ z)]; exact z
 ·obtain ⟨more,z⟩:=I.base.iV b ps e
  exact ⟨more,by rw [aq (ne _ _ z)]; exact z⟩
 ·rw [aq (Ne.symm hL)]; exact I.free
 ·rw [aq (hc x c e)]; exact I.gK x c e
 ·obtain ⟨h1,h2,h3⟩:=I.pin p q
  exact ⟨h1,by rw [aq (hp p q)]; exact h2,h3⟩
 ·by_cases hb:b=D
  ·subst hb; rw [az] at e; cases e; exact new
  ·rw [aq hb] at e
   exact (I.hok b u e).stay (fun _ _ _ q=>q) (fun c q=>by rw [aq (ne _ _ q)]; exact q) fun c xs q=>by rw [aq (ne _ _ q)]; exact q
def j3 (cells:List (Str × Addr)):List (Str × NameKind)->List (Str × Addr)->List (Str × Addr)
 | [],acc=>acc
 | (n,k)::r,acc=>j3 cells r (if (k == NameKind.free)=true then (n,(cells.lookup n).getD 0)::acc else acc)
theorem yp {env:Env}:∀ (names:List (Str × NameKind)) (acc:List (Str × Addr)),(∀ y∈names,y.2=.free->∃ c,env.cells.lookup y.1=some c) ->
  (forIn names acc fun (x:Str × NameKind) (r:List (Str × Addr))=>(if (x.2 == NameKind.free)=true then do
    let c ← cellOf env x.1
    pure (ForInStep.yield ((x.1,c)::r)) else pure (ForInStep.yield r):Sem (ForInStep (List (Str × Addr)))))=pure (j3 env.cells names acc)
 | [],acc,_=>rfl
 | (n,k)::r,acc,h=>by
  have ih:=fun acc'=>yp (env:=env) r acc' fun y hy=>h y (List.mem_cons_of_mem _ hy)
  rw [List.forIn_cons]
  by_cases hk:k=.free
  ·subst hk
   obtain ⟨c,hc⟩:=h (n,.free) List.mem_cons_self rfl
   have hc':env.cells.lookup n=some c:=hc
   have e:cellOf env n=pure c:=by
    unfold cellOf
    rw [hc']
   show (if (NameKind.free == NameKind.free)=true then _ else _) >>= _=_
   rw [if_pos (by decide),e]
   simp only [pure_bind]
   rw [ih]
   simp only [j3,hc',Option.getD_some]
   rfl
  ·have hb:(k == NameKind.free)=false:=by simpa using hk
   show (if (k == NameKind.free)=true then _ else _) >>= _=_
   rw [hb,if_neg Bool.false_ne_true]
   simp only [pure_bind]
   rw [ih]
   simp only [j3,hb,Bool.false_eq_true,if_false]
theorem A0 {scope:Scope} {env:Env} (h:∀ y∈scope.names,y.2=.free->∃ c,env.cells.lookup y.1=some c):closureFor scope env=pure (j3 env.cells scope.names []):=by
 unfold closureFor
 have e:=yp (env:=env) scope.names [] h
 simp only [bind_pure]
 exact e
theorem yq {cells:List (Str × Addr)}:∀ (names:List (Str × NameKind)) (acc:List (Str × Addr)),(∀ y∈names,y.2=.free->∃ c,cells.lookup y.1=some c)->(∀ y c,acc.lookup y=some c->cells.lookup y=some c) ->
  ∀ y c,(j3 cells names acc).lookup y=some c->cells.lookup y=some c
 | [],_,_,ha=>ha
 | (n,k)::r,acc,h,ha=>by
  refine yq r _ (fun y hy=>h y (List.mem_cons_of_mem _ hy)) fun y c e=>?_
  by_cases hk:(k == NameKind.free)=true
  ·rw [if_pos hk] at e
   obtain ⟨c',hc⟩:=h (n,k) List.mem_cons_self (by simpa using hk)
   have hc':cells.lookup n=some c':=hc
   rw [hc',Option.getD_some] at e
   rw [List.lookup_cons] at e
   by_cases hy:(y == n)=true
   ·rw [hy] at e
    have:y=n:=by simpa using hy
    subst this
    rw [hc']; exact e
   ·have hy':(y == n)=false:=by simpa using hy
    rw [hy'] at e
    exact ha y c e
  ·rw [if_neg hk] at e
   exact ha y c e
theorem sR {cells:List (Str × Addr)}:∀ (names:List (Str × NameKind)) (acc:List (Str × Addr)) (y:Str),((y,NameKind.free)∈names∨∃ c,acc.lookup y=some c)->∃ c,(j3 cells names acc).lookup y=some c
 | [],acc,y,h=>by
  rcases h with h | h
  ·cases h
  ·exact h
 | (n,k)::r,acc,y,h=>by
  refine sR r _ y ?_
  rcases h with h | ⟨c,h⟩
  ·rcases List.mem_cons.mp h with e | h
   ·cases e
    refine .inr ⟨(cells.lookup n).getD 0,?_⟩
    rw [if_pos (by decide),List.lookup_cons]
    simp
   ·exact .inl h
  ·refine .inr ?_
   split
   ·rw [List.lookup_cons]
    cases y == n with
    | true=>exact ⟨_,rfl⟩
    | false=>exact ⟨c,h⟩
   ·exact ⟨c,h⟩
theorem hU (env : Env) : ∀ (names : List (Str × NameKind)) (y : Str),
  (names.map fun (n,k)=>if (k == NameKind.free && env.scope.kind == .function && env.kindOf n == some .cell) then (n,NameKind.cell) else (n,k)).lookup y
   = (names.lookup y).map fun k=>if (k == NameKind.free && env.scope.kind == .function && env.kindOf y == some .cell)=true then NameKind.cell else k
 | [],_=>rfl
 | (n,k)::r,y=>by
  have ih := hU env r y
  show List.lookup y ((if (k == NameKind.free && env.scope.kind == .function && env.kindOf n == some .cell)=true then (n,NameKind.cell) else (n,k))::_)=_
  by_cases hy:(y == n)=true
  ·have:y=n:=by simpa using hy
   subst this
   by_cases hc:(k == NameKind.free && env.scope.kind == .function && env.kindOf y == some .cell)=true
   ·rw [if_pos hc]; simp only [List.lookup_cons,hy,Option.map_some,hc,if_true]
   ·rw [if_neg hc]; simp only [List.lookup_cons,hy,Option.map_some,hc]; simp
  ·have hy':(y == n)=false:=by simpa using hy
   by_cases hc:(k == NameKind.free && env.scope.kind == .function && env.kindOf n == some .cell)=true
   ·rw [if_pos hc]; simp only [List.lookup_cons,hy']; exact ih
   ·rw [if_neg hc]; simp only [List.lookup_cons,hy']; exact ih
def cB (X:Cx) (scope:Scope) (N':List Str) (s₂:Shared) (H₂:Hp) (C:Addr) (fp:List Addr):Cx :=
 { X with N:=N',s₀:=s₂,H₀:=H₂,env:=compEnvC scope (j3 X.env.cells scope.names []) C X.env,outer:=X.stack,ex:=fp,fn:=fun _=>false,pn:=[],xe:=fun _ _=>False }
def cj (x:Str) (fr:List (Str × Nat)):List Str:=x::fr.map (·.1)
def bw (σ:St) (fr:List (Str × Nat)):St:=fr.map fun p=>σ.getD p.2 none
structure Blk (X:Cx) (scope:Scope) (x:Str) (fr:List (Str × Nat)):Prop where
 GA:(scope.names.all fun y=>y.2 != .cell)=true
 kind:scope.kind=.function
 names:(scope.names.all fun y=>y.2 != .local || scope.names.lookup y.1 == some .local)=true
 here:scope.names.lookup x=some .local
 free:(scope.names.all fun y=>y.2 != .free || X.env.scope.names.lookup y.1 == some .cell)=true
 seen:(fr.all fun p=>scope.names.lookup p.1 == some .free && X.N[p.2]? == some p.1)=true
 nd:(cj x fr).Nodup
section
variable {X:Cx} {scope:Scope} {x:Str} {fr:List (Str × Nat)} {pins:List (Addr × Obj)} {σ:St} {H:Hp} {s:Shared}
theorem Blk.cell (B:Blk X scope x fr):∀ y∈scope.names,y.2≠.cell:=fun y hy=>by
 have:=List.all_eq_true.mp B.GA y hy
 simpa using this
theorem Blk.loc (B:Blk X scope x fr):∀ y∈scope.names,y.2=.local->scope.names.lookup y.1=some .local:=fun y hy e=>by
 have:=List.all_eq_true.mp B.names y hy
 rw [e] at this
 simpa using this
theorem Blk.frees (B:Blk X scope x fr):∀ y∈scope.names,y.2=.free->X.env.kindOf y.1=some .cell:=fun y hy e=>by
 have:=List.all_eq_true.mp B.free y hy
 rw [e] at this
 have h:X.env.scope.names.lookup y.1=some .cell:=by simpa using this
 exact h
theorem Blk.clos (B:Blk X scope x fr) (ok:X.Ok):∀ y∈scope.names,y.2=.free->∃ c,X.env.cells.lookup y.1=some c:=fun y hy e=>ok.has y.1 (.inl (B.frees y hy e))
theorem Blk.sub (B:Blk X scope x fr) (ok:X.Ok):∀ y c,(j3 X.env.cells scope.names []).lookup y=some c->X.env.cells.lookup y=some c :=
 yq scope.names [] (B.clos ok) fun y c e=>by simp at e
theorem Blk.kinds (B : Blk X scope x fr) {y : Str} (h : (relabel scope X.env).names.lookup y = some .cell ∨ (relabel scope X.env).names.lookup y = some .free) : (y, NameKind.free) ∈ scope.names := by
 have e : (relabel scope X.env).names.lookup y = _ := hU X.env scope.names y
 rw [e] at h
 cases q:scope.names.lookup y with
 | none=>rw [q] at h; simp at h
 | some k =>
  have hm:=PySem.mem_of_lookup q
  rw [q] at h
  have hk:k=.free:=by
   by_cases hk:k=.free
   ·exact hk
   ·have hb:(k == NameKind.free)=false:=by simpa using hk
    have hc:k≠.cell:=B.cell _ hm
    rw [Option.map_some,hb,Bool.false_and,Bool.false_and,if_neg Bool.false_ne_true] at h
    rcases h with h | h
    ·exact absurd (Option.some.inj h) hc
    ·exact Option.some.inj h
  subst hk
  exact hm
theorem Blk.sees (B : Blk X scope x fr) (hk : X.env.scope.kind = .function) {y : Str} (h : scope.names.lookup y = some .free) : (relabel scope X.env).names.lookup y = some .cell := by
 have e : (relabel scope X.env).names.lookup y = _ := hU X.env scope.names y
 rw [e,h]
 have h2:X.env.kindOf y=some .cell:=B.frees _ (PySem.mem_of_lookup h) rfl
 simp [hk,h2]
theorem uL (I:Inv X pins σ H s) (B:Blk X scope x fr) {C:Addr} {fp:List Addr} {h₁:Heap} {tk:Nat} {o:Option V} (hC:s.heap.objs.size≤C) (hfp:∀ b∈fp,ou X pins H b) (hlt:∀ b∈fp,b < s.heap.objs.size)
  (old:∀ b ob,s.heap.get? b=some ob->h₁.get? b=some ob) (hns:h₁.Ns C fun _=>none):Inv (cB X scope (cj x fr) s H C fp) [] (none::bw σ fr) H { s with heap:=h₁,toks:=tk }:=by
 have neC:∀ b,b < s.heap.objs.size->b≠C:=fun b hb=>Nat.ne_of_lt (Nat.lt_of_lt_of_le hb hC)
 have cl:∀ y c,X.env.cells.lookup y=some c->c < s.heap.objs.size:=fun y c e=>by
  obtain ⟨v,o,ho,_⟩:=I.cell y c e
  exact Heap.lt_size ho
 refine ⟨⟨I.ok.mod,B.kind,I.ok.glob,I.ok.blt,hC,fun y z c h1 h2=>I.ok.inj y z c (B.sub I.ok _ _ h1) (B.sub I.ok _ _ h2),fun y hy=>sR _ _ _ (.inl (B.kinds hy)),fun y c h _=>(Bool.false_ne_true h).elim,I.ok.hd,I.ok.frames,.inl rfl,
  fun b hb=>⟨neC b (hlt b hb),fun y c e=>(hfp b hb).2.2.2.2.1 y c (B.sub I.ok _ _ e)⟩,I.bs,Nat.le_trans I.ok.bsz I.sz,fun b ob e hb=>?_,fun b hb hs=>?_,I.stack,I.oH⟩,
  rfl,I.bare,Un.kept old,⟨_,hns,fun i y v h1 h2 h3=>?_⟩,fun y c e=>?_,I.hok.fresh hC,fun y c e=>I.gK y c (B.sub I.ok _ _ e),fun p hp=>?_,I.hok.kept old,?_⟩
 ·rcases (hfp b hb).2.2.2.1 with z | z
  ·exact I.ok.wO b ob e z
  ·have h1:b < X.base.objs.size:=Heap.lt_size e
   have h2:=I.ok.bsz
   exact absurd (Nat.lt_of_lt_of_le h1 h2) (Nat.not_lt.mpr z)
 ·have z:=I.wQ b hs
  rcases List.mem_cons.mp z with z | z
  ·exact (hfp b hb).2.1 z
  ·exact (hfp b hb).2.2.1 z
 ·cases i with
  | zero=>simp at h2
  | succ i =>
   have h1':(fr.map (·.1))[i]?=some y:=by
    have z:(x::fr.map (·.1))[i + 1]?=some y:=h1
    rw [List.getElem?_cons_succ] at z
    exact z
   have h2':(bw σ fr)[i]?=some (some v):=by simpa using h2
   rw [List.getElem?_map] at h1'
   unfold bw at h2'
   rw [List.getElem?_map] at h2'
   cases e:fr[i]? with
   | none=>rw [e] at h1'; cases h1'
   | some p =>
    rw [e] at h1' h2'
    have e1:p.1=y:=by simpa using h1'
    have e2 : σ.getD p.2 none=some v:=by simpa using h2'
    have hs:=List.all_eq_true.mp B.seen p (List.mem_of_getElem? e)
    rw [Bool.and_eq_true] at hs
    have hs1:scope.names.lookup p.1=some .free:=by simpa using hs.1
    have hs2:X.N[p.2]?=some p.1:=by simpa using hs.2
    rw [e1] at hs1 hs2
    have hk:X.env.kindOf y=some .cell:=B.frees _ (PySem.mem_of_lookup hs1) rfl
    have e3 : σ[p.2]?=some (some v):=by
     rw [List.getD_eq_getElem?_getD] at e2
     cases q : σ[p.2]? with
     | none=>rw [q] at e2; simp at e2
     | some z=>rw [q] at e2; simp at e2; rw [e2]
    obtain ⟨m,hn,hl⟩:=I.loc
    obtain ⟨u,r,l⟩:=hl p.2 y v hs2 e3 (.inr (.inl hk))
    refine ⟨u,r,.inr ⟨.inl (B.sees I.ok.kind hs1),?_⟩⟩
    rcases l with ⟨z,_⟩ | ⟨_,c,ec,z⟩
    ·rw [hk] at z; cases z
    ·obtain ⟨c',hc'⟩:=sR (cells:=X.env.cells) scope.names [] y (.inl (PySem.mem_of_lookup hs1))
     have:=B.sub I.ok _ _ hc'
     rw [ec] at this
     cases this
     obtain ⟨ob,ho,hd⟩:=z
     exact ⟨c,hc',ob,old _ _ ho,hd⟩
 ·obtain ⟨v,ob,ho,hd⟩:=I.cell y c (B.sub I.ok _ _ e)
  exact ⟨v,ob,old _ _ ho,hd⟩
 ·exact absurd (show p∈([]:List (Addr × Obj)) from hp) (by simp)
 ·show _=(cj x fr).length
  simp [cj,bw]
end
end L2
namespace L2
open PySem PySem.Spec PyProof.Rows
def PIf (X:Cx) (ifs:List Expr) (t:TT):Prop :=
 ∀ (pins:List (Addr × Obj)) (s:Shared) (σ:St) (H:Hp) (Q:Bool->Hp->Prop),Inv X pins σ H s->t σ H Q ->
  wpAny (model X.prog X.w) X.A (forIn ifs true fun c r=>if r=true then do let ok ← isTrue c X.env (eval c X.env); pure (ForInStep.yield ok) else pure (ForInStep.yield r)) (TP X pins σ Q) X.xe s
def Dx:TT:=fun _ H Q=>Q true H
theorem yr {X:Cx}:PIf X [] Dx:=fun _ _ _ H _ I h=>wpAny_tests_nil ⟨H,I,h⟩
theorem sS {X:Cx} {c:Expr} {t:TT} (h:PT X c t):PIf X [c] t:=fun pins s σ H Q I hw=>wpAny_tests_one (h pins s σ H Q I hw)
def tLC (fr:List (Str × Nat)) (wi:TI) (tc:TT) (te:TE):TE:=fun σ H Q=>wi σ H fun J H1=>∃ W:Nat->Nat->List V->Hp->Prop,(∃ m,W 0 m [] H1)∧∀ i m ys H2,W i m ys H2->ys.length < sizeLine ∧
 ((J.stop i H2∧∀ D,H2 D=none->Q (.ref D) (upd H2 D (.lst ys))) ∨
  (J.go i H2∧∀ v H3,J.yld i H2 v H3->tc (some v::bw σ fr) H3 fun b H4 =>
   if b=true then te (some v::bw σ fr) H4 fun y H5=>∃ m',m' < m∧W (i + 1) m' (ys++[y]) H5 else ∃ m',m' < m∧W (i + 1) m' ys H4))
section
variable {X:Cx}
theorem uM {α:Type} {M:Model} {A:Around} {t:Sem α} {Q : α->Shared->Prop} {E:Value->Shared->Prop} {s:Shared} (h:wpAny M A t Q (fun _ _=>False) s):wpAny M A t Q E s:=wpAny_mono h (fun _ _ x=>x) fun _ _ x=>x.elim
theorem rM {prog:Program} {w:World} {A:Around} {R:Result->Shared->Prop} {s:Shared} {elt target iter:Expr} {ifs:List Expr} {scope:Scope} {pos:Pos} {it acc:Value} {env:Env} (J:Nat->Shared->Prop)
  (turn:∀ n s,J n s->wpAny (model prog w) A (pyNext it) (fun r s₁=>match r with
   | none=>R (.ok .next) s₁
   | some v=>wpAny (model prog w) A (letOwnedTupleGo target it v) (fun _ s₂=>wpAny (model prog w) A (assign target env v) (fun _ s₃ =>
     wpAny (model prog w) A (forIn ifs true fun c r=>if r=true then do let ok ← isTrue c env (eval c env); pure (ForInStep.yield ok) else pure (ForInStep.yield r)) (fun ok s₄ =>
      if ok=true then wpAny (model prog w) A (eval elt env) (fun y s₅ =>
       wpAny (model prog w) A (call (.builtin "list.append") [acc,y]) (fun _ s₆=>∃ m,m < n∧J m s₆) (fun _ _=>False) s₅) (fun _ _=>False) s₄
      else ∃ m,m < n∧J m s₄) (fun _ _=>False) s₃) (fun _ _=>False) s₂) (fun _ _=>False) s₁) (fun _ _=>False) s)
  (n:Nat) (h:J n s):codeAny (model prog w) A (.compLoop (.ListComp elt [⟨target,iter,ifs,0⟩] scope pos) 0 it acc env) R s:=by
 refine codeAny_loop rfl J (fun k s' hJ=>?_) n h
 show wpAny (model prog w) A ((compTurn (.ListComp elt [⟨target,iter,ifs,0⟩] scope pos) 0 it acc env).onRaise (fun x=>do noteFrame x env; theTreesLotGoes x)) _ _ s'
 refine wpAny_noted ?_
 rw [compTurn_list]
 refine wpAny_bind (wpAny_standAt (wpAny_bind (wpAny_mono (turn k s' hJ) (fun r s₁ h₁=>?_) fun _ _ z=>z.elim)))
 cases r with
 | none=>exact wpAny_pure h₁
 | some v =>
  refine wpAny_bind (wpAny_mono h₁ (fun _ s₂ h₂=>wpAny_bind (wpAny_mono h₂ (fun _ s₃ h₃=>wpAny_bind (wpAny_mono h₃ (fun ok s₄ h₄=>?_) fun _ _ z=>z.elim)) fun _ _ z=>z.elim)) fun _ _ z=>z.elim)
  cases ok with
  | false=>exact wpAny_pure ⟨rfl,h₄⟩
  | true =>
   exact wpAny_bind (wpAny_bind (wpAny_mono h₄ (fun y s₅ h₅=>wpAny_bind (wpAny_mono h₅ (fun _ s₆ h₆=>wpAny_pure (wpAny_pure ⟨rfl,h₆⟩)) fun _ _ z=>z.elim)) fun _ _ z=>z.elim))
theorem A5 {elt iter:Expr} {x:Str} {px:Pos} {ifs:List Expr} {scope:Scope} {pos:Pos} {fr:List (Str × Nat)} {wi:TI} {tc:TT} {te:TE} (hc:X.calm=true) (B:Blk X scope x fr)
  (hi:PI X (.Name x px) iter wi) (ht:∀ s₂ H₂ C fp,PIf (cB X scope (cj x fr) s₂ H₂ C fp) ifs tc) (he:∀ s₂ H₂ C fp,PE (cB X scope (cj x fr) s₂ H₂ C fp) elt te)
  (hs:∀ v,foldedSetIterable iter X.env v=pure v:=by intro _; rfl):PE X (.ListComp elt [⟨.Name x px,iter,ifs,0⟩] scope pos) (tLC fr wi tc te):=by
 intro pins s σ H Q I h
 rw [eval_ListComp]
 have hclos:=A0 (scope:=scope) (env:=X.env) (B.clos I.ok)
 refine wpAny_comprehension_free (use:=none) rfl hs hclos B.kind B.loc (thn (hi pins s σ H _ I h) fun v s1 h1=>thn h1 fun itv s2 h2=>?_)
 obtain ⟨it,fp,tn,J,H2,rfl,I2,T,st2,f2,W,⟨m0,w0⟩,turn⟩:=h2
 refine wpAny_newObj_type (wpAny_newFunctionEnv B.cell (by intro y hy; simp at hy) (fun h₁ hns hsb=>?_) B.kind)
 dsimp only at hns hsb ⊢
 generalize hG:s2.heap.push { cls:=.type "list",dict:=none,data:=.seq ([]:List Value).toArray }=G at hns hsb ⊢
 have hC:G.objs.size=s2.heap.objs.size + 1:=by rw [← hG,Heap.size_push]
 have hDC:s2.heap.objs.size≠G.objs.size:=by omega
 have old:∀ b ob,s2.heap.get? b=some ob->h₁.get? b=some ob:=fun b ob e=>by
  have hb:=Heap.lt_size e
  refine hsb.extBut b ob (Nat.ne_of_lt (by rw [hC]; exact Nat.lt_succ_of_lt hb)) (Heap.get?_push_of_some _ ?_)
  rw [← hG]
  exact Heap.get?_push_of_some _ e
 have hacc:h₁.get? s2.heap.objs.size=some { cls:=.type "list",data:=.seq ([]:List Value).toArray 0 }:=by
  refine hsb.extBut _ _ hDC (Heap.get?_push_of_some _ ?_)
  rw [← hG]
  exact Heap.get?_push_size _ rfl
 have hlt:∀ b∈fp,b < s2.heap.objs.size:=fun b hb=>by
  obtain ⟨o,e,_⟩:=T.obj 0 _ st2 b hb
  exact Heap.lt_size e
 have I4:=uL (tk:=s2.toks + ([]:List (Str × Value)).length) (o:=none) I2 B (show s2.heap.objs.size≤G.objs.size by omega) f2 hlt old hns
 have tn4:tn 0 h₁:=T.keep 0 _ _ st2 fun b _ o e=>old b o e
 have Dfs:s2.heap.objs.size ∉ frs X.stack:=fun z=>by
  obtain ⟨_,o,ho,_⟩:=I2.stack.mem z
  exact absurd (Heap.lt_size ho) (Nat.lt_irrefl _)
 have Dcl:∀ y c,X.env.cells.lookup y=some c->c≠s2.heap.objs.size:=fun y c e=>by
  obtain ⟨v,o,ho,_⟩:=I2.cell y c e
  exact Nat.ne_of_lt (Heap.lt_size ho)
 have DL:s2.heap.objs.size≠X.env.locals:=Nat.ne_of_gt I2.lt
 have Dfp:s2.heap.objs.size ∉ fp:=fun z=>absurd (hlt _ z) (Nat.lt_irrefl _)
 have loop:∀ s₃:Shared,s₃={ s2 with heap:=h₁,toks:=s2.toks + ([]:List (Str × Value)).length } ->
   codeAny (model X.prog X.w) X.A (.compLoop (.ListComp elt [⟨.Name x px,iter,ifs,0⟩] scope pos) 0 (.ref it) (.ref s2.heap.objs.size) (compEnvC scope (j3 X.env.cells scope.names []) G.objs.size X.env))
    (compPost (model X.prog X.w) X.A X.xe none (EP X pins σ Q) (.ref s2.heap.objs.size) G.objs.size) s₃:=by
  rintro s₃ rfl
  refine rM
   (fun n s'=>∃ i o H' ys its k,Inv (cB X scope (cj x fr) s2 H2 G.objs.size fp) [] (o::bw σ fr) H' s'∧tn i s'.heap∧(∀ b∈fp,H' b=none)∧H' s2.heap.objs.size=none ∧
    s'.heap.get? s2.heap.objs.size=some { cls:=.type "list",data:=.seq (its:List Value).toArray k }∧Vals ys its∧W i n ys H') ?_ m0
   ⟨0,none,H2,[],[],0,I4,tn4,fun b hb=>(f2 b hb).1,I2.hok.fresh (Nat.le_refl _),hacc,.nil,w0⟩
  rintro n s5 ⟨i,o,H5,ys,its,k,I5,st5,fr5,D5,hD5,r5,w5⟩
  have fok:∀ {H':Hp},(∀ b∈fp,H' b=none)->∀ b∈fp,ou (cB X scope (cj x fr) s2 H2 G.objs.size fp) [] H' b:=fun hn b hb =>
   ⟨hn b hb,(I5.ok.exf b hb).1,I5.ok.uC b hb,.inl hb,(I5.ok.exf b hb).2,fun p hp=>absurd (show p∈([]:List (Addr × Obj)) from hp) (by simp)⟩
  have dok:∀ {H':Hp},H' s2.heap.objs.size=none->ou (cB X scope (cj x fr) s2 H2 G.objs.size fp) [] H' s2.heap.objs.size:=fun hn =>
   ⟨hn,hDC,Dfs,.inr (Nat.le_refl _),fun y c e=>Dcl y c (B.sub I2.ok _ _ e),fun p hp=>absurd (show p∈([]:List (Addr × Obj)) from hp) (by simp)⟩
  obtain ⟨hz,alt⟩:=turn i n ys H5 w5
  have hzl:its.length≤sizeLine:=by rw [← r5.length]; exact Nat.le_of_lt hz
  rcases alt with ⟨stop,fin⟩ | ⟨go,step⟩
  ·refine thn (T.done (cB X scope (cj x fr) s2 H2 G.objs.size fp) rfl rfl rfl hc i (fo [s2.heap.objs.size] s5.heap) s5 (o::bw σ fr) H5 _ ?_ (fun b hb=>?_) st5 stop) fun r s6 ⟨hr,I6⟩=>?_
   ·exact (Inv.pinned I5 (fp:=[s2.heap.objs.size]) (fun b hb=>by rw [List.mem_singleton.mp hb]; exact dok D5) fun b hb=>by
     rw [List.mem_singleton.mp hb]
     exact ⟨_,hD5,fun v z=>by cases z⟩)
   ·obtain ⟨f0,f1,f2',f3,f4,f5⟩:=fok fr5 b hb
    refine ⟨f0,f1,f2',f3,f4,fun p hp=>?_⟩
    have hp':p∈fo [s2.heap.objs.size] s5.heap:=(List.mem_append.mp hp).elim (fun z=>absurd (show p∈([]:List (Addr × Obj)) from z) (by simp)) id
    have:=(jk hp').1
    rw [List.mem_singleton.mp this]
    exact fun e=>Dfp (by rw [e]; exact hb)
   ·subst hr
    have hD6:=(I6.pin (s2.heap.objs.size,{ cls:=.type "list",data:=.seq its.toArray k }) (List.mem_append_right _ (cn (by simp) hD5))).1
    obtain ⟨m6,hn6,_⟩:=I6.loc
    refine ⟨m6,hn6,fun h' hs'=>?_⟩
    have hCn:s2.heap.get? G.objs.size=none:=by
     cases e:s2.heap.get? G.objs.size with
     | none=>rfl
     | some ob=>exact absurd (Heap.lt_size e) (by rw [hC]; exact Nat.not_lt.mpr (Nat.le_succ _))
    have neC:∀ b ob,s2.heap.get? b=some ob->b≠G.objs.size:=fun b ob e z=>by rw [z,hCn] at e; cases e
    have u6:Un (frs X.stack) fp H2 H5 s2.heap s6.heap:=I6.base
    have u7:Un (frs X.stack) fp H2 H5 s2.heap h':=⟨fun b ob e n hb hx=>hs'.extBut b ob (neC b ob e) (u6.keep b ob e n hb hx),fun b ob e n hb hx=>by
      obtain ⟨sl,q⟩:=u6.slot b ob e n hb hx
      exact ⟨sl,hs'.extBut b _ (neC b ob e) q⟩,u6.free,fun b ob e hx=>by
      obtain ⟨o',q⟩:=u6.there b ob e hx
      exact ⟨o',hs'.extBut b _ (neC b ob e) q⟩,u6.tups,u6.g8,u6.iV⟩
    have hC5:H5 G.objs.size=none:=I6.free
    have JN:HOk X.prog X.w H5 h':=fun b ob e=>(I6.hok b ob e).stay (fun c u hc q=>hs'.extBut c u (by
      rintro rfl
      rcases hc with rfl | hc
      ·rw [hC5] at e; cases e
      ·rw [hC5] at hc; cases hc) q) (fun _ q=>q) fun _ _ q=>q
    have I7:Inv X pins σ H5 { s6 with heap:=h' }:=I2.call' (s':={ s6 with heap:=h' }) (I6.os) u7 JN I6.bare fun b hb=>⟨(f2 b hb).2.2.2.1,(f2 b hb).2.1,(f2 b hb).2.2.2.2.1,(f2 b hb).2.2.2.2.2⟩
    refine ⟨.ref s2.heap.objs.size,upd H5 s2.heap.objs.size (.lst ys),I7.track D5 I2.sz DL Dcl (fun p hp z=>?_) ?_,rfl,fin _ D5⟩
    ·obtain ⟨e,_⟩:=I2.pin p hp
     rw [z] at e
     exact absurd (Heap.lt_size e) (Nat.lt_irrefl _)
    ·exact ⟨Nat.le_of_lt hz,its,k,r5,hs'.extBut _ _ hDC hD6⟩
  ·refine uM (thn (T.item (cB X scope (cj x fr) s2 H2 G.objs.size fp) rfl rfl rfl hc i (fo [s2.heap.objs.size] s5.heap) s5 (o::bw σ fr) H5 _ ?_ (fun b hb=>?_) st5 go) fun r s6 ⟨u,hr,h6⟩=>?_)
   ·exact (Inv.pinned I5 (fp:=[s2.heap.objs.size]) (fun b hb=>by rw [List.mem_singleton.mp hb]; exact dok D5) fun b hb=>by
     rw [List.mem_singleton.mp hb]
     exact ⟨_,hD5,fun v z=>by cases z⟩)
   ·obtain ⟨f0,f1,f2',f3,f4,f5⟩:=fok fr5 b hb
    refine ⟨f0,f1,f2',f3,f4,fun p hp=>?_⟩
    have hp':p∈fo [s2.heap.objs.size] s5.heap:=(List.mem_append.mp hp).elim (fun z=>absurd (show p∈([]:List (Addr × Obj)) from z) (by simp)) id
    have:=(jk hp').1
    rw [List.mem_singleton.mp this]
    exact fun e=>Dfp (by rw [e]; exact hb)
   ·subst hr
    refine thn h6 fun _ s7 ⟨v,H7,I7,rv,y7,st7,fr7⟩=>?_
    have p7:=I7.pin (s2.heap.objs.size,{ cls:=.type "list",data:=.seq its.toArray k }) (List.mem_append_right _ (cn (by simp) hD5))
    have hD7:s7.heap.get? s2.heap.objs.size=some { cls:=.type "list",data:=.seq its.toArray k }:=p7.1
    have D7:H7 s2.heap.objs.size=none:=p7.2.1
    have I7u:Inv (cB X scope (cj x fr) s2 H2 G.objs.size fp) [] (o::bw σ fr) H7 s7:=Inv.eF (pins:=[]) I7
    have I8:=Inv.pinned I7u (fp:=s2.heap.objs.size::fp) (fun b hb=>by
      rcases List.mem_cons.mp hb with e | hb
      ·rw [e]; exact dok D7
      ·exact fok fr7 b hb) fun b hb=>by
      rcases List.mem_cons.mp hb with e | hb
      ·rw [e]; exact ⟨_,hD7,fun v z=>by cases z⟩
      ·exact T.obj _ _ st7 b hb
    have hl : Loc (cB X scope (cj x fr) s2 H2 G.objs.size fp).env.scope x := .inl (lookup_relabel_local B.here)
    have pk:∀ {σ':St} {H':Hp} {s':Shared},Inv (cB X scope (cj x fr) s2 H2 G.objs.size fp) ([]++fo (s2.heap.objs.size::fp) s7.heap) σ' H' s' ->
      tn (i + 1) s'.heap∧(∀ b∈fp,H' b=none)∧H' s2.heap.objs.size=none∧s'.heap.get? s2.heap.objs.size=some { cls:=.type "list",data:=.seq its.toArray k }:=fun {σ' H' s'} I'=>by
     have pD:=I'.pin (s2.heap.objs.size,{ cls:=.type "list",data:=.seq its.toArray k }) (List.mem_append_right _ (List.mem_append_right _ (cn (by simp) hD7)))
     refine ⟨T.keep _ _ _ st7 fun b hb ob e=>(I'.pin (b,ob) (List.mem_append_right _ (List.mem_append_right _ (cn (List.mem_cons_of_mem _ hb) e)))).1,fun b hb=>?_,pD.2.1,pD.1⟩
     obtain ⟨ob,e,_⟩:=T.obj _ _ st7 b hb
     exact (I'.pin (b,ob) (List.mem_append_right _ (List.mem_append_right _ (cn (List.mem_cons_of_mem _ hb) e)))).2.1
    refine uM (thn (aY (X := cB X scope (cj x fr) s2 H2 G.objs.size fp) (i := 0) B.nd rfl hl (.inr (lookup_relabel_local B.here)) _ s7 _ H7 v u (fun σ' H' => σ' = some v :: bw σ fr ∧ H' = H7) I8 rv ⟨rfl, rfl⟩) fun _ s8 ⟨σ8, H8, I9, e1, e2⟩ => ?_)
    subst e1 e2
    refine uM (thn (ht s2 H2 G.objs.size fp _ s8 _ H8 _ I9 (step v H8 y7)) fun ok s9 ⟨H9,I10,q10⟩=>?_)
    cases ok with
    | false =>
     rw [if_neg Bool.false_ne_true] at q10
     rw [if_neg Bool.false_ne_true]
     obtain ⟨m',hm,w'⟩:=q10
     obtain ⟨k1,k2,k3,k4⟩:=pk I10
     exact ⟨m',hm,i + 1,some v,H9,ys,its,k,Inv.eF (pins:=[]) I10,k1,k2,k3,k4,r5,w'⟩
    | true =>
     rw [if_pos rfl] at q10
     rw [if_pos rfl]
     refine uM (thn (he s2 H2 G.objs.size fp _ s9 _ H9 _ I10 q10) fun y' s10 ⟨y,H10,I11,ry,m',hm,w'⟩=>?_)
     obtain ⟨k1,k2,k3,k4⟩:=pk I11
     refine append_at k4 (fun h' hs' hD'=>?_) (by rw [List.size_toArray]; exact hzl)
     have I12:Inv (cB X scope (cj x fr) s2 H2 G.objs.size fp) [] (some v::bw σ fr) H10 { s10 with heap:=h' } :=
      (Inv.eF (pins:=[]) I11).turned (t':=s10.toks) (it:=s2.heap.objs.size) (fun b ob hb e=>(hs'.2 b hb).trans e) k3 hDC (.inr (Nat.le_refl _)) (fun z c e=>Dcl z c (B.sub I2.ok _ _ e)) fun p hp=>absurd (show p∈([]:List (Addr × Obj)) from hp) (by simp)
     refine ⟨m',hm,i + 1,some v,H10,ys++[y],its++[y'],k + 1,I12,T.keep _ _ _ k1 fun b hb ob e=>(hs'.2 b fun z=>Dfp (by rw [← z]; exact hb)).trans e,k2,k3,?_,r5.append (.cons ry .nil),w'⟩
     rw [hD']
     simp
 exact codeAny_compStart_list (loop _ rfl) (T.self _ 0 _ _ _ tn4 (loop _ rfl))
end
end L2
namespace L2
open PySem PySem.Spec PyProof.Rows
def tyN (H:Hp):V->String
 | .non=>"NoneType"
 | .bl _=>"bool"
 | .int _=>"int"
 | .str _=>"str"
 | .ref a=>match H a with
  | some (.lst _)=>"list"
  | some (.tup _)=>"tuple"
  | some (.dK _)=>"dict"
  | some (.frz _ (.lst _))=>"list"
  | _=>"?"
 | _=>"?"
def lY (T n:String):Bool:=T == n || (T == "bool" && n == "int")
def cG:List String:=["NoneType","bool","int","str","list","tuple","dict"]
def df:List String:=["bool","int","str","list","tuple","dict"]
theorem rN (K:PySem.W.Frag):∀ T∈cG,∀ n∈df,PySem.W.kitOne K (.type T) (.type n)=some (lY T n):=by
 intro T hT n hn
 simp only [cG,df,List.mem_cons,List.not_mem_nil,or_false] at hT hn
 rcases hT with rfl | rfl | rfl | rfl | rfl | rfl | rfl <;> rcases hn with rfl | rfl | rfl | rfl | rfl | rfl <;> kernel_rfl
theorem GB {K:PySem.W.Frag} {H:Hp} {x:V} (h:tyN H x∈cG):mM K H x (.type (tyN H x)):=by
 have no : ¬ ("?"∈cG):=by decide
 cases x with
 | non=>exact .non
 | bl b=>exact .bl b
 | int i=>exact .int i
 | str z=>exact .str z
 | ref a =>
  unfold tyN at h ⊢
  dsimp only at h ⊢
  cases e:H a with
  | none=>rw [e] at h; exact absurd h no
  | some o =>
   rw [e] at h
   cases o with
   | lst xs=>exact .lst e
   | tup xs=>exact .tup e
   | dK kvs=>exact .dK e
   | frz ob u =>
    cases u with
    | lst xs=>exact .frz e
    | _=>exact absurd h no
   | _=>exact absurd h no
 | _=>exact absurd h no
def GC (xs:List V) (H:Hp) (Q:VK):Prop:=∃ x n,xs=[x,.ty n]∧tyN H x∈cG∧n∈df∧Q (.bl (lY (tyN H x) n)) H
section
variable {X:Cx}
theorem hW:dU X (.builtin "isinstance") GC:=by
 intro pins s σ H xs us Q I r h
 obtain ⟨x,n,rfl,h1,h2,q⟩:=h
 obtain ⟨u,v,rfl,ru,rv⟩:=vals2 r
 cases rv
 exact zF I ru (GB h1) (rN X.K _ h1 _ h2) fun tk=>⟨.bl _,H,I.tok tk,rfl,q⟩
end
end L2
namespace L2
open PySem PySem.Spec PyProof.Rows
section
variable {X:Cx}
mutual
inductive hX (K:PySem.W.Frag) (H:Hp):V->PyData->Prop
 | non:hX K H .non .none
 | bl (b:Bool):hX K H (.bl b) (.bool b)
 | int (i:Int):hX K H (.int i) (.int i)
 | str (x:Str):hX K H (.str x) (.str x)
 | lst {a:Addr} {xs:List V} {ds:List PyData}:SqL K H a xs->hZ K H xs ds->hX K H (.ref a) (.list ds)
 | tup {a:Addr} {xs:List V} {ds:List PyData}:SqT K H a xs->hZ K H xs ds->hX K H (.ref a) (.tuple ds)
inductive hZ (K:PySem.W.Frag) (H:Hp):List V->List PyData->Prop
 | nil:hZ K H [] []
 | cons {x:V} {xs:List V} {d:PyData} {ds:List PyData}:hX K H x d->hZ K H xs ds->hZ K H (x::xs) (d::ds)
end
mutual
theorem hX.reads {pins:List (Addr × Obj)} {s:Shared} {σ:St} {H:Hp} (I:Inv X pins σ H s):∀ {x:V} {d:PyData},hX X.K H x d->∀ {u:Value},RelV x u->∃ as,Reads s.heap u d as
 | _,_,.non,_,r=>by cases r; exact ⟨_,.none⟩
 | _,_,.bl b,_,r=>by cases r; exact ⟨_,.bool b⟩
 | _,_,.int i,_,r=>by obtain ⟨t,rfl⟩:=r; exact ⟨_,.int i t⟩
 | _,_,.str z,_,r=>by obtain ⟨t,rfl⟩:=r; exact ⟨_,.str z t⟩
 | _,_,.lst hq hd,_,r=>by
  cases r
  obtain ⟨its,rv,pl,_⟩:=I.list hq
  obtain ⟨as,ha⟩:=hZ.reads I hd rv
  obtain ⟨o,n,e,c,_,d⟩:=pl
  exact ⟨_,.list e c d ha⟩
 | _,_,.tup hq hd,_,r=>by
  cases r
  obtain ⟨its,rv,pl,_⟩:=I.tuple hq
  obtain ⟨as,ha⟩:=hZ.reads I hd rv
  obtain ⟨o,e,c,n,d⟩:=pl
  exact ⟨_,.tuple e c d ha⟩
theorem hZ.reads {pins:List (Addr × Obj)} {s:Shared} {σ:St} {H:Hp} (I:Inv X pins σ H s):∀ {xs:List V} {ds:List PyData},hZ X.K H xs ds->∀ {us:List Value},Vals xs us->∃ as,ReadsAll s.heap us ds as
 | _,_,.nil,_,r=>by cases r; exact ⟨_,.nil⟩
 | _,_,.cons h t,_,r=>by
  cases r with
  | cons r1 r2 =>
   obtain ⟨as,ha⟩:=hX.reads I h r1
   obtain ⟨bs,hb⟩:=hZ.reads I t r2
   exact ⟨_,.cons ha hb⟩
end
def GD (K:PySem.W.Frag):R2:=fun x y H Q=>∃ da db,hX K H x da∧hX K H y db∧SeqAt.shaped da=true∧SeqAt.shaped db=true∧Q (.bl (PyData.eqv da db)) H
def GF (K:PySem.W.Frag):R2:=fun x y H Q=>∃ da db,hX K H x da∧hX K H y db∧SeqAt.shaped da=true∧SeqAt.shaped db=true∧Q (.bl (!PyData.eqv da db)) H
theorem GG (hu:X.A.units + 64 < cLine):OpR X (compareOp .Eq) (GD X.K):=by
 intro pins s σ H x y v u Q I rx ry h
 obtain ⟨da,db,ha,hb,sa,sb,q⟩:=h
 obtain ⟨as,ra⟩:=ha.reads I rx
 obtain ⟨bs,rb⟩:=hb.reads I ry
 exact eq_dataH ra rb sa sb hu ⟨.bl _,H,I,rfl,q⟩
theorem GH (hu:X.A.units + 64 < cLine):OpR X (compareOp .NotEq) (GF X.K):=by
 intro pins s σ H x y v u Q I rx ry h
 obtain ⟨da,db,ha,hb,sa,sb,q⟩:=h
 obtain ⟨as,ra⟩:=ha.reads I rx
 obtain ⟨bs,rb⟩:=hb.reads I ry
 exact ne_dataH ra rb sa sb hu ⟨.bl _,H,I,rfl,q⟩
theorem Dy:OpR X (binaryOp .Mult) (rI IntMulOk fun i j=>.int (i * j)):=opI fun _ _ _ _ _ _ _ hc q=>mul_int q hc
def GI (K:PySem.W.Frag) (xs:List V) (H:Hp) (Q:VK):Prop:=(∃ p ys,xs=[.ref p]∧(SqL K H p ys∨SqT K H p ys)∧Q (.int ys.length) H)∨(∃ z,xs=[.str z]∧z.length≤sizeLine∧Q (.int z.length) H)
theorem zJ:dU X (.builtin "len") (GI X.K):=sO.or sP
end
end L2
namespace L2
open PySem PySem.Spec PyProof.Rows
section
variable {σ:St} {H:Hp} {Q:VK} {D:Ends}
variable {K:PySem.W.Frag}
end
structure Top (K:PySem.W.Frag) (mg:Str->Option Value) (x:Str) (st:Stmt):Prop where
 ex:∃ (f:Addr) (fd:FuncData),Fun K x x st f fd∧mg x=some (.ref f)
structure Def (P:Program) (w:World) (K:PySem.W.Frag) (mg:Str->Option Value) (base:Heap) (CX:CXT) (k:Nat) (x:Str) (ps:List Str) (sp:Sp):Prop where
 ex:∃ (f:Addr) (fd:FuncData),kX P w K mg base CX k f fd ps sp∧mg x=some (.ref f)∧PySem.W.keepIn K (.ref f)=true∧Binds K fd ps []
section
variable {P:Program} {w:World} {K:PySem.W.Frag} {mg:Str->Option Value} {base:Heap}
theorem Top.mk' {x:Str} {st:Stmt} {h:Heap} {f:Addr} {oc:Value} {od an:Option Addr} {osl:Array (Option Value)} {kV doc pm cdv ct:Value} (X:K.In h) (G:h.Ns mainGlobals mg) (a:PySem.W.nsIn K mainGlobals x=some (some (.ref f)))
  (l:K.lookup f=some ⟨oc,od,.func (PySem.W.fnOf x x (iG st) (ft st) (aK st) .none kV doc pm an cdv ct),osl⟩) (c:PySem.W.codeIn K cdv x=true) (k:PySem.W.keepIn K (.ref f)=true):Top K mg x st :=
 ⟨⟨f,_,Gz l c k,PySem.W.mg_of X G a⟩⟩
theorem Top.def {x:Str} {st:Stmt} {N ps:List Str} {k:Nat} {sp:Sp} (T:Top K mg x st) (S:bC N ps (aK st)) (len:∀ vs H Q E,sp vs H Q E->vs.length=ps.length)
  (hb:∀ (kV doc pm:Value) (an:Option Addr) (cdv ct:Value) (us:List Value),us.length=ps.length->bindArgs (PySem.W.fnOf x x (iG st) (ft st) (aK st) .none kV doc pm an cdv ct) ⟨us,[]⟩=pure (ps.zip us))
  (hbody:∀ (f:Addr) (cdv:Value) (A:Around) (outer:List Env) (s:Shared) (H:Hp) (vs:List V) (Q:VK) (E:XK),fq k (A.deeper (envOfC x (aK st) s.heap.objs.size f cdv))->sp vs H Q E ->
   ∃ t,PSs (mO CX0 P w K mg base N x (aK st) f cdv A outer s H E).nox (ft st) t∧t { nx:=fun _ H'=>Q .non H',rt:=Q } (start N vs) H):Def P w K mg base CX0 (k + 1) x ps sp:=by
 obtain ⟨f,fd,F,m⟩:=T.ex
 exact ⟨⟨f,fd,F.ok S len (hbody f),m,F.kp,F.binds hb⟩⟩
theorem bB {X:Cx} {k:Nat} {x:Str} {ps:List Str} {sp:Sp} {p pos:Pos} {e:Expr} {es:List Expr} {t:TA} (D:Def X.prog X.w X.K X.mg X.base CX0 k x ps sp) (hr:fq k X.A) (ha:PA X (e::es) t) (hg:Gl X x:=by rfl)
  (hdb:(x == ("__debug__":Str))=false:=by decide) (he:starEach (e::es) X.env=(false,eval e X.env)::starEach es X.env:=by rfl) (hpl:(backTo pos (starEach es X.env)).any (·.1)=false:=by rfl) :
  PE X (.Call (.Name x p) (e::es) [] pos) (hI sp [] E0 t):=by
 obtain ⟨f,fd,F,m,kp,b⟩:=D.ex
 exact yi F hr hg m kp b .nil Ij ha hdb he hpl
end
open PySem.W in
theorem nQ:∀ (ns:List Int) (n:Int),n∈ns->Builtin.Int.intBits n≤WData.weightAll (ns.map WData.int)
 | m::r,n,h=>by
  rw [List.map_cons]
  have e:WData.weightAll (WData.int m::r.map WData.int)=WData.weight (.int m) + 1 + WData.weightAll (r.map WData.int):=by simp only [WData.weightAll]
  rw [e]
  rcases List.mem_cons.mp h with rfl | h
  ·have:Builtin.Int.intBits n=WData.weight (.int n):=by simp only [WData.weight,Builtin.Int.intBits]
   omega
  ·have:=nQ r n h
   omega
open PySem.W in
theorem uN {ns:List Int} (h:WData.layableAll [WData.list (ns.map WData.int)]=true):∀ n∈ns,Builtin.Int.intBits n≤1048576:=fun n hn=>by
 have h1:(WData.list (ns.map WData.int)).layable=true:=PySem.W.layableW_arg h _ (by simp)
 have h2:=(PySem.W.layableW_iff.mp h1).2.2
 have h3:WData.weight (.list (ns.map WData.int))=WData.weightAll (ns.map WData.int):=by simp only [WData.weight]
 have h4:=nQ ns n hn
 have h5:(2:Nat) ^ 20=1048576:=by decide
 omega
open PySem.W PySem.Calls in
theorem Dz {l:OpenLaw} {n:Nat} {q:Program} {loose:List Str} {XP:(Str->Option Value)->Heap->Prop} {YP:World->Heap->Prop} {d:DefRec}
  (hn:l.most=some n) (hdf:d.params.defaults=[])
  (call:∀ (w:World) (s₀ s₁:Shared) (mg mb:Str->Option Value) (fa a:Addr) (vs:List Value) (ns:List Int),
   Ground q loose [] XP w s₀ mg mb s₁.heap->YP w s₁.heap->mg d.name=some (.ref fa) ->
   s₁.heap.get? a=some { cls:=.type "list",data:=.seq vs.toArray }->IntsAre vs ns->ns.length≤n->(∀ k∈ns,Builtin.Int.intBits k≤1048576)->s₁.gens=#[] ->
   codeAny (model l.prog w) callerA (.call (.ref fa) ⟨[.ref a],[]⟩) (fun r s'=>r=.ok (.ret (.bool true))∧OldK s₁.heap s'.heap∧s'.os=s₁.os∧AllBare s'.gens) s₁) :
  WalkO q loose XP YP l.row.toRowW d [] (fun f vs=>PySem.call f vs):=by
 intro w s₀ s₁ mg mb G Y fa o pm cd doc dV kV ho hd hcd hD hmg hg args vals as' hpre hlay hrd hwl hlo
 obtain rfl:dV=.none:=Dflts.none hD hdf
 obtain ⟨a,vs,ns,rfl,rfl,hobj,hints,hlen⟩:=Att.zH hn hpre hwl
 refine enter_call (codeAny_mono (call w s₀ s₁ mg mb fa a vs ns G Y hmg hobj hints hlen (uN hlay) hg) fun r s' hq=>?_)
 obtain ⟨rfl,h2,h3,h4⟩:=hq
 exact ⟨.inl ⟨.bool true,.bool true,[],rfl,fun _=>rfl,.bool true,Att.zI l _,fun _=>⟨List.Pairwise.nil,fun _ hm=>(nomatch hm)⟩⟩,h2,h3,h4⟩
def A6 (K:PySem.W.Frag):Sp:=fun vs H Q _=>∃ (a:Addr) (ns:List Int),vs=[.ref a]∧SqL K H a (ns.map V.int)∧ns.length≤63∧(∀ k∈ns,Builtin.Int.intBits k≤1048576)∧∀ H',Q (.bl true) H'
theorem A7 {l:PySem.W.OpenLaw} {k:Nat} {q:Program} {loose:List Str} {XP:(Str->Option Value)->Heap->Prop} {YP:World->Heap->Prop} {d:DefRec} {K:Params->PySem.W.Frag} {x:Str} {st:Stmt}
  (hn:l.most=some 63) (hdf:d.params.defaults=[]) (hr:fq k callerA) (hY:∀ (w:World) (h:Heap),YP w h->(K w.params).In h)
  (hb:∀ (kV doc pm:Value) (an:Option Addr) (cdv ct u:Value),bindArgs (PySem.W.fnOf d.name d.name (iG st) (ft st) (aK st) .none kV doc pm an cdv ct) ⟨[u],[]⟩=pure [(x,u)])
  (F:∀ (w:World) (mg:Str->Option Value) (h:Heap),(K w.params).In h->h.Ns mainGlobals mg->Top (K w.params) mg d.name st ∧
   ∀ (f:Addr) (fd:FuncData),Fun (K w.params) d.name d.name st f fd->∀ base:Heap,(K w.params).In base->base.Ns mainGlobals mg->kX l.prog w (K w.params) mg base CX0 k f fd [x] (A6 (K w.params))) :
  PySem.W.WalkO q loose XP YP l.row.toRowW d [] (fun f vs=>PySem.call f vs):=by
 refine Dz hn hdf fun w s₀ s₁ mg mb fa a vs ns G Y hmg hobj hints hlen Ik hg=>?_
 have KX:=hY w _ Y
 obtain ⟨T,FF⟩:=F w mg _ KX G.T.g
 obtain ⟨f,fd,Ff,m⟩:=T.ex
 have e:=m.symm.trans hmg
 cases e
 have hbd:∀ (s:Shared) (u:Value),BindsTo s fd ⟨[u],[]⟩ [(x,u)]:=by
  obtain ⟨oc,od,kV,doc,pm,an,cdv,ct,osl,rfl,lk,hcd⟩:=Ff.ex
  exact fun s u=>.of_eq (hb kV doc pm an cdv ct u)
 exact AZ KX G.T.g G.T.b G.T.builtins G.T.nolimit hg hobj hints (Nat.le_trans hlen (by decide)) hr (FF _ fd Ff) hbd (fun H hO hS=>⟨a,ns,rfl,hS,hlen,Ik,fun _=>rfl⟩) fun H e s' h=>h
end L2
namespace L2
open PySem PySem.Spec PyProof.Rows
section
variable {σ:St} {H:Hp} {Q:VK} {K:PySem.W.Frag} {fr:List (Str × Nat)}
instance:Inhabited V:=⟨.non⟩
end
section
variable {σ:St} {H:Hp} {Q:VK} {K:PySem.W.Frag} {i j:Int}
end
section
variable {σ:St} {H:Hp} {K:PySem.W.Frag}
end
theorem eG {H:Hp} {p:Addr} {o:HO} (h:H p=none):aC H (upd H p o):=fun b u e=>by rw [aq (eT e h)]; exact e
theorem kZ {X:Cx} {x:Str} {n:String} {pos:Pos} (hm:X.mg x=none) (hv:bootBuiltins x=some (.type n)) (hg:Gl X x:=by rfl) (hn:x≠"__name__":=by decide) (hd:(x == ("__debug__":Str))=false:=by decide):PE X (.Name x pos) (tC (.ty n)) :=
 Dk hg hm hv (show RelV (.ty n) (.type n) from rfl) hn hd
end L2
namespace L2
open PySem PySem.Spec PyProof.Rows
section
variable {X:Cx}
theorem uO {elt iter:Expr} {x y:Str} {px py:Pos} {ifs:List Expr} {scope:Scope} {pos spos:Pos} {fr:List (Str × Nat)} {wi:TI} {tc:TT} {te:TE} {i0:Nat} (hc:X.calm=true) (hN:X.N.Nodup) (hi0:X.N[i0]?=some y) (hx0:Loc X.env.scope y) (B:Blk X scope x fr)
  (hi:PI X (.Name x px) iter wi) (ht:∀ s₂ H₂ C fp,PIf (cB X scope (cj x fr) s₂ H₂ C fp) ifs tc) (he:∀ s₂ H₂ C fp,PE (cB X scope (cj x fr) s₂ H₂ C fp) elt te)
  (hsw:swapsWith (.ListComp elt [⟨.Name x px,iter,ifs,0⟩] scope pos) (some (.Name y py)) spos.line X.env=pure true:=by rfl)
  (hf0:X.fn y=true∨X.env.scope.names.lookup y=some .local:=by first | exact .inl rfl | exact .inr rfl | assumption)
  (hs:∀ v,foldedSetIterable iter X.env v=pure v:=by intro _; rfl):PS X (.Assign [.Name y py] (.ListComp elt [⟨.Name x px,iter,ifs,0⟩] scope pos) spos) (zB (tLC fr wi tc te) (o8 i0)):=by
 intro pins s σ H D0 I h
 rw [exec_Assign_Name_used _ _ _ _ hsw]
 refine wpAny_bind (wpAny_standAt (wpAny_bind ?_))
 have hclos:=A0 (scope:=scope) (env:=X.env) (B.clos I.ok)
 show wpAny _ X.A (do let _ ← comprehension (.ListComp elt [⟨.Name x px,iter,ifs,0⟩] scope pos) scope X.env _ (newList []) false (eval iter X.env) (some (assign (.Name y py) X.env))) _ _ s
 refine wpAny_bind (wpAny_mono (wpAny_comprehension_free (use:=some (assign (.Name y py) X.env)) (Q:=fun _ s'=>SP X pins D0 .next s') rfl hs hclos B.kind B.loc
  (thn (hi pins s σ H _ I h) fun v s1 h1=>thn h1 fun itv s2 h2=>?_)) (fun _ s' hq=>wpAny_pure (wpAny_pure hq)) fun _ _ e=>e)
 obtain ⟨it,fp,tn,J,H2,rfl,I2,T,st2,f2,W,⟨m0,w0⟩,turn⟩:=h2
 refine wpAny_newObj_type (wpAny_newFunctionEnv B.cell (by intro y hy; simp at hy) (fun h₁ hns hsb=>?_) B.kind)
 dsimp only at hns hsb ⊢
 generalize hG:s2.heap.push { cls:=.type "list",dict:=none,data:=.seq ([]:List Value).toArray }=G at hns hsb ⊢
 have hC:G.objs.size=s2.heap.objs.size + 1:=by rw [← hG,Heap.size_push]
 have hDC:s2.heap.objs.size≠G.objs.size:=by omega
 have old:∀ b ob,s2.heap.get? b=some ob->h₁.get? b=some ob:=fun b ob e=>by
  have hb:=Heap.lt_size e
  refine hsb.extBut b ob (Nat.ne_of_lt (by rw [hC]; exact Nat.lt_succ_of_lt hb)) (Heap.get?_push_of_some _ ?_)
  rw [← hG]
  exact Heap.get?_push_of_some _ e
 have hacc:h₁.get? s2.heap.objs.size=some { cls:=.type "list",data:=.seq ([]:List Value).toArray 0 }:=by
  refine hsb.extBut _ _ hDC (Heap.get?_push_of_some _ ?_)
  rw [← hG]
  exact Heap.get?_push_size _ rfl
 have hlt:∀ b∈fp,b < s2.heap.objs.size:=fun b hb=>by
  obtain ⟨o,e,_⟩:=T.obj 0 _ st2 b hb
  exact Heap.lt_size e
 have I4:=uL (tk:=s2.toks + ([]:List (Str × Value)).length) (o:=none) I2 B (show s2.heap.objs.size≤G.objs.size by omega) f2 hlt old hns
 have tn4:tn 0 h₁:=T.keep 0 _ _ st2 fun b _ o e=>old b o e
 have Dfs:s2.heap.objs.size ∉ frs X.stack:=fun z=>by
  obtain ⟨_,o,ho,_⟩:=I2.stack.mem z
  exact absurd (Heap.lt_size ho) (Nat.lt_irrefl _)
 have Dcl:∀ y c,X.env.cells.lookup y=some c->c≠s2.heap.objs.size:=fun y c e=>by
  obtain ⟨v,o,ho,_⟩:=I2.cell y c e
  exact Nat.ne_of_lt (Heap.lt_size ho)
 have DL:s2.heap.objs.size≠X.env.locals:=Nat.ne_of_gt I2.lt
 have Dfp:s2.heap.objs.size ∉ fp:=fun z=>absurd (hlt _ z) (Nat.lt_irrefl _)
 have loop:∀ s₃:Shared,s₃={ s2 with heap:=h₁,toks:=s2.toks + ([]:List (Str × Value)).length } ->
   codeAny (model X.prog X.w) X.A (.compLoop (.ListComp elt [⟨.Name x px,iter,ifs,0⟩] scope pos) 0 (.ref it) (.ref s2.heap.objs.size) (compEnvC scope (j3 X.env.cells scope.names []) G.objs.size X.env))
    (compPost (model X.prog X.w) X.A X.xe (some (assign (.Name y py) X.env)) (fun _ s'=>SP X pins D0 .next s') (.ref s2.heap.objs.size) G.objs.size) s₃:=by
  rintro s₃ rfl
  refine rM
   (fun n s'=>∃ i o H' ys its k,Inv (cB X scope (cj x fr) s2 H2 G.objs.size fp) [] (o::bw σ fr) H' s'∧tn i s'.heap∧(∀ b∈fp,H' b=none)∧H' s2.heap.objs.size=none ∧
    s'.heap.get? s2.heap.objs.size=some { cls:=.type "list",data:=.seq (its:List Value).toArray k }∧Vals ys its∧W i n ys H') ?_ m0
   ⟨0,none,H2,[],[],0,I4,tn4,fun b hb=>(f2 b hb).1,I2.hok.fresh (Nat.le_refl _),hacc,.nil,w0⟩
  rintro n s5 ⟨i,o,H5,ys,its,k,I5,st5,fr5,D5,hD5,r5,w5⟩
  have fok:∀ {H':Hp},(∀ b∈fp,H' b=none)->∀ b∈fp,ou (cB X scope (cj x fr) s2 H2 G.objs.size fp) [] H' b:=fun hn b hb =>
   ⟨hn b hb,(I5.ok.exf b hb).1,I5.ok.uC b hb,.inl hb,(I5.ok.exf b hb).2,fun p hp=>absurd (show p∈([]:List (Addr × Obj)) from hp) (by simp)⟩
  have dok:∀ {H':Hp},H' s2.heap.objs.size=none->ou (cB X scope (cj x fr) s2 H2 G.objs.size fp) [] H' s2.heap.objs.size:=fun hn =>
   ⟨hn,hDC,Dfs,.inr (Nat.le_refl _),fun y c e=>Dcl y c (B.sub I2.ok _ _ e),fun p hp=>absurd (show p∈([]:List (Addr × Obj)) from hp) (by simp)⟩
  obtain ⟨hz,alt⟩:=turn i n ys H5 w5
  have hzl:its.length≤sizeLine:=by rw [← r5.length]; exact Nat.le_of_lt hz
  rcases alt with ⟨stop,fin⟩ | ⟨go,step⟩
  ·refine thn (T.done (cB X scope (cj x fr) s2 H2 G.objs.size fp) rfl rfl rfl hc i (fo [s2.heap.objs.size] s5.heap) s5 (o::bw σ fr) H5 _ ?_ (fun b hb=>?_) st5 stop) fun r s6 ⟨hr,I6⟩=>?_
   ·exact (Inv.pinned I5 (fp:=[s2.heap.objs.size]) (fun b hb=>by rw [List.mem_singleton.mp hb]; exact dok D5) fun b hb=>by
     rw [List.mem_singleton.mp hb]
     exact ⟨_,hD5,fun v z=>by cases z⟩)
   ·obtain ⟨f0,f1,f2',f3,f4,f5⟩:=fok fr5 b hb
    refine ⟨f0,f1,f2',f3,f4,fun p hp=>?_⟩
    have hp':p∈fo [s2.heap.objs.size] s5.heap:=(List.mem_append.mp hp).elim (fun z=>absurd (show p∈([]:List (Addr × Obj)) from z) (by simp)) id
    have:=(jk hp').1
    rw [List.mem_singleton.mp this]
    exact fun e=>Dfp (by rw [e]; exact hb)
   ·subst hr
    have hD6:=(I6.pin (s2.heap.objs.size,{ cls:=.type "list",data:=.seq its.toArray k }) (List.mem_append_right _ (cn (by simp) hD5))).1
    obtain ⟨m6,hn6,_⟩:=I6.loc
    have u6:Un (frs X.stack) fp H2 H5 s2.heap s6.heap:=I6.base
    have hC5:H5 G.objs.size=none:=I6.free
    have hCD:G.objs.size≠s2.heap.objs.size:=fun z=>hDC z.symm
    have I7:Inv X pins σ H5 s6:=I2.call' (s':=s6) (I6.os) u6 I6.hok I6.bare fun b hb=>⟨(f2 b hb).2.2.2.1,(f2 b hb).2.1,(f2 b hb).2.2.2.2.1,(f2 b hb).2.2.2.2.2⟩
    have pD:∀ p∈X.pn++pins,p.1≠s2.heap.objs.size:=fun p hp z=>by
     obtain ⟨e,_⟩:=I2.pin p hp
     rw [z] at e
     exact absurd (Heap.lt_size e) (Nat.lt_irrefl _)
    have I8:Inv X pins σ (upd H5 s2.heap.objs.size (.lst ys)) s6:=I7.track D5 I2.sz DL Dcl pD ⟨Nat.le_of_lt hz,its,k,r5,hD6⟩
    have hlt:s2.heap.objs.size < G.objs.size:=by rw [hC]; exact Nat.lt_succ_self _
    have hCu:upd H5 s2.heap.objs.size (.lst ys) G.objs.size=none:=by rw [aq hCD]; exact hC5
    obtain ⟨g0,g1,g2,g3,g4,g5⟩:=I2.wW (H':=upd H5 s2.heap.objs.size (.lst ys)) (Nat.le_of_lt hlt) hCu
    obtain ⟨oC,esC,epC,hoC,Fn⟩:=id hn6
    have I9:=Inv.pinned I8 (fp:=[G.objs.size]) (fun b hb=>by
     rw [List.mem_singleton.mp hb]
     exact ⟨g0,g1,g2,g3,g4,g5⟩) fun b hb=>by
     rw [List.mem_singleton.mp hb]
     refine ⟨oC,hoC,fun v z=>?_⟩
     have dd:=Fn
     simp [z] at dd
    refine thn (aY (X:=X) (i:=i0) hN hi0 hx0 hf0 _ s6 σ _ (.ref s2.heap.objs.size) (.ref s2.heap.objs.size) (fun σ' H'=>σ'=σ.set i0 (some (.ref s2.heap.objs.size))∧H'=upd H5 s2.heap.objs.size (.lst ys)) I9 rfl ⟨rfl,rfl⟩) fun _ s8 ⟨σ8,H8,I10,e1,e2⟩=>?_
    subst e1 e2
    have hC8:=(I10.pin (G.objs.size,oC) (List.mem_append_right _ (List.mem_append_right _ (cn (by simp) hoC)))).1
    refine ⟨m6,⟨oC,esC,epC,hC8,Fn⟩,fun h' hs'=>?_⟩
    exact ⟨_,_,(Inv.eF (pins:=pins) I10).turned (t':=s8.toks) (it:=G.objs.size) (fun b ob hb e=>hs'.extBut b ob hb e) g0 g1 g3 g4 g5,fin _ D5⟩
  ·refine uM (thn (T.item (cB X scope (cj x fr) s2 H2 G.objs.size fp) rfl rfl rfl hc i (fo [s2.heap.objs.size] s5.heap) s5 (o::bw σ fr) H5 _ ?_ (fun b hb=>?_) st5 go) fun r s6 ⟨u,hr,h6⟩=>?_)
   ·exact (Inv.pinned I5 (fp:=[s2.heap.objs.size]) (fun b hb=>by rw [List.mem_singleton.mp hb]; exact dok D5) fun b hb=>by
     rw [List.mem_singleton.mp hb]
     exact ⟨_,hD5,fun v z=>by cases z⟩)
   ·obtain ⟨f0,f1,f2',f3,f4,f5⟩:=fok fr5 b hb
    refine ⟨f0,f1,f2',f3,f4,fun p hp=>?_⟩
    have hp':p∈fo [s2.heap.objs.size] s5.heap:=(List.mem_append.mp hp).elim (fun z=>absurd (show p∈([]:List (Addr × Obj)) from z) (by simp)) id
    have:=(jk hp').1
    rw [List.mem_singleton.mp this]
    exact fun e=>Dfp (by rw [e]; exact hb)
   ·subst hr
    refine thn h6 fun _ s7 ⟨v,H7,I7,rv,y7,st7,fr7⟩=>?_
    have p7:=I7.pin (s2.heap.objs.size,{ cls:=.type "list",data:=.seq its.toArray k }) (List.mem_append_right _ (cn (by simp) hD5))
    have hD7:s7.heap.get? s2.heap.objs.size=some { cls:=.type "list",data:=.seq its.toArray k }:=p7.1
    have D7:H7 s2.heap.objs.size=none:=p7.2.1
    have I7u:Inv (cB X scope (cj x fr) s2 H2 G.objs.size fp) [] (o::bw σ fr) H7 s7:=Inv.eF (pins:=[]) I7
    have I8:=Inv.pinned I7u (fp:=s2.heap.objs.size::fp) (fun b hb=>by
      rcases List.mem_cons.mp hb with e | hb
      ·rw [e]; exact dok D7
      ·exact fok fr7 b hb) fun b hb=>by
      rcases List.mem_cons.mp hb with e | hb
      ·rw [e]; exact ⟨_,hD7,fun v z=>by cases z⟩
      ·exact T.obj _ _ st7 b hb
    have hl : Loc (cB X scope (cj x fr) s2 H2 G.objs.size fp).env.scope x := .inl (lookup_relabel_local B.here)
    have pk:∀ {σ':St} {H':Hp} {s':Shared},Inv (cB X scope (cj x fr) s2 H2 G.objs.size fp) ([]++fo (s2.heap.objs.size::fp) s7.heap) σ' H' s' ->
      tn (i + 1) s'.heap∧(∀ b∈fp,H' b=none)∧H' s2.heap.objs.size=none∧s'.heap.get? s2.heap.objs.size=some { cls:=.type "list",data:=.seq its.toArray k }:=fun {σ' H' s'} I'=>by
     have pD:=I'.pin (s2.heap.objs.size,{ cls:=.type "list",data:=.seq its.toArray k }) (List.mem_append_right _ (List.mem_append_right _ (cn (by simp) hD7)))
     refine ⟨T.keep _ _ _ st7 fun b hb ob e=>(I'.pin (b,ob) (List.mem_append_right _ (List.mem_append_right _ (cn (List.mem_cons_of_mem _ hb) e)))).1,fun b hb=>?_,pD.2.1,pD.1⟩
     obtain ⟨ob,e,_⟩:=T.obj _ _ st7 b hb
     exact (I'.pin (b,ob) (List.mem_append_right _ (List.mem_append_right _ (cn (List.mem_cons_of_mem _ hb) e)))).2.1
    refine uM (thn (aY (X := cB X scope (cj x fr) s2 H2 G.objs.size fp) (i := 0) B.nd rfl hl (.inr (lookup_relabel_local B.here)) _ s7 _ H7 v u (fun σ' H' => σ' = some v :: bw σ fr ∧ H' = H7) I8 rv ⟨rfl, rfl⟩) fun _ s8 ⟨σ8, H8, I9, e1, e2⟩ => ?_)
    subst e1 e2
    refine uM (thn (ht s2 H2 G.objs.size fp _ s8 _ H8 _ I9 (step v H8 y7)) fun ok s9 ⟨H9,I10,q10⟩=>?_)
    cases ok with
    | false =>
     rw [if_neg Bool.false_ne_true] at q10
     rw [if_neg Bool.false_ne_true]
     obtain ⟨m',hm,w'⟩:=q10
     obtain ⟨k1,k2,k3,k4⟩:=pk I10
     exact ⟨m',hm,i + 1,some v,H9,ys,its,k,Inv.eF (pins:=[]) I10,k1,k2,k3,k4,r5,w'⟩
    | true =>
     rw [if_pos rfl] at q10
     rw [if_pos rfl]
     refine uM (thn (he s2 H2 G.objs.size fp _ s9 _ H9 _ I10 q10) fun y' s10 ⟨y,H10,I11,ry,m',hm,w'⟩=>?_)
     obtain ⟨k1,k2,k3,k4⟩:=pk I11
     refine append_at k4 (fun h' hs' hD'=>?_) (by rw [List.size_toArray]; exact hzl)
     have I12:Inv (cB X scope (cj x fr) s2 H2 G.objs.size fp) [] (some v::bw σ fr) H10 { s10 with heap:=h' } :=
      (Inv.eF (pins:=[]) I11).turned (t':=s10.toks) (it:=s2.heap.objs.size) (fun b ob hb e=>(hs'.2 b hb).trans e) k3 hDC (.inr (Nat.le_refl _)) (fun z c e=>Dcl z c (B.sub I2.ok _ _ e)) fun p hp=>absurd (show p∈([]:List (Addr × Obj)) from hp) (by simp)
     refine ⟨m',hm,i + 1,some v,H10,ys++[y],its++[y'],k + 1,I12,T.keep _ _ _ k1 fun b hb ob e=>(hs'.2 b fun z=>Dfp (by rw [← z]; exact hb)).trans e,k2,k3,?_,r5.append (.cons ry .nil),w'⟩
     rw [hD']
     simp
 exact codeAny_compStart_list (loop _ rfl) (T.self _ 0 _ _ _ tn4 (loop _ rfl))
end
end L2
namespace L2
open PySem PySem.Spec PyProof.Rows
section
variable {P:Program} {w:World} {B:Around} {R:Result->Shared->Prop} {E:Value->Shared->Prop} {t:Shared} {i₀:Addr} {fp wr:List Addr} {n:Nat} {p:Nat->Value->Prop} {st:Nat->Shared->Prop}
end
section
variable {P:Program} {w:World} {A:Around} {E:Value->Shared->Prop} {s:Shared}
end
section
variable {X:Cx}
end
end L2
namespace L2
open PySem PySem.Spec PyProof.Rows
section
variable {prog:Program} {w:World} {A:Around} {E:Value->Shared->Prop} {s:Shared}
theorem rO {it t:Addr} {items:Array Value} (hne:t≠it):∀ (n i:Nat) (s:Shared) (Q:List Value->Shared->Prop),s.heap.IsListIter it t i->s.heap.IsList t items->i + n≤items.size ->
  (∀ h':Heap,h'.IsListIter it t (i + n)->Heap.SameBut it s.heap h'->Q ((items.toList.drop i).take n) { s with heap:=h' })->wpAny (model prog w) A (draw (.ref it) n) Q E s
 | 0,i,s,Q,hit,_,_,hQ=>by
  show wpAny _ _ (pure []) Q E s
  exact wpAny_pure (by simpa using hQ s.heap hit (Heap.SameBut.refl ..))
 | n + 1,i,s,Q,hit,ht,hle,hQ=>by
  have hlt:i < items.size:=by omega
  show wpAny _ _ (pyNext (.ref it) >>= _) Q E s
  refine wpAny_bind (wpAny_pyNext_list_item hit ht (x:=items[i]) (by simp [hlt]) fun h1 hit1 hs1=>?_)
  refine wpAny_bind (wpAny_holding (rO hne n (i + 1) _ _ hit1 (ht.extBut hs1.extBut hne) (by omega) fun h2 hit2 hs2=>wpAny_pure ?_))
  have hd:items.toList.drop i=items[i]::items.toList.drop (i + 1):=by simp [List.drop_eq_getElem_cons,hlt]
  have:=hQ h2 (by rw [show i + (n + 1)=i + 1 + n by omega]; exact hit2) (hs1.trans hs2)
  rw [hd,List.take_succ_cons] at this
  exact this
theorem oy {t:Addr} {items:Array Value} {Q:List Value->Shared->Prop} (hh:A.handled=none) (ht:s.heap.IsList t items)
  (hQ:∀ h',Heap.ExtBut s.heap.objs.size s.heap h'->Q items.toList { s with heap:=h' }):wpAny (model prog w) A (unpackItems (.ref t) items.size none) Q E s:=by
 have hlt:t≠s.heap.objs.size:=by obtain ⟨o,ho,_⟩:=ht; exact Nat.ne_of_lt (Heap.lt_size ho)
 unfold unpackItems
 refine wpAny_bind ?_
 ·unfold notIterableAtAll
  refine wpAny_bind (wpAny_specialOf ht.typeIs slot_list_iter.lookup ?_)
  refine wpAny_pure ?_
  simp only [Bool.false_eq_true,if_false]
  refine wpAny_bind (wpAny_holding (wpAny_pyIter_list ht ?_))
  refine wpAny_bind (wpAny_holding (rO hlt items.size 0 _ _ ⟨_,Heap.get?_push_size _ rfl,rfl,rfl⟩ (ht.push _) (by omega) fun h1 hit1 hs1=>?_))
  have hall:List.take items.size (List.drop 0 items.toList)=items.toList:=by
   rw [List.drop_zero]; exact List.take_of_length_le (by simp)
  rw [hall]
  rw [if_neg (by simp)]
  have ht1:h1.IsList t items:=(ht.push _).extBut hs1.extBut hlt
  refine wpAny_bind (wpAny_holding (wpAny_pyNext_list_end hh hit1 ht1 (by simp) fun h2 he2=>?_))
  simp only [Option.isSome_none,Bool.false_eq_true,if_false]
  refine wpAny_pure (hQ h2 fun b o hb e=>he2 b o hb (hs1.extBut b o hb (Heap.get?_push_of_some _ e)))
theorem mQ {env:Env} {elts:List Expr} {x1} {pos:Pos} {t:Addr} {items:Array Value} {Q:Unit->Shared->Prop} (hh:A.handled=none) (ht:s.heap.IsList t items)
  (hn:(assignEach elts env).length=items.size) (hstar:(assignEach elts env).findIdx? (·.1)=none)
  (h:∀ h',Heap.ExtBut s.heap.objs.size s.heap h'->wpAny (model prog w) A (assignInOrder ((assignEach elts env).map (·.2)) items.toList) Q E { s with heap:=h' }) :
  wpAny (model prog w) A (assign (.Tuple elts x1 pos) env (.ref t)) Q E s:=by
 rw [assign_Tuple]
 refine wpAny_bind (wpAny_standAt ?_)
 unfold unpack
 rw [hn,hstar]
 exact wpAny_bind (wpAny_holding (oy hh ht h))
end
variable {X:Cx}
def A8 (K:PySem.W.Frag) (n:Nat) (t:TGs):TG:=fun v σ H Q=>∃ a xs,v=.ref a∧(SqT K H a xs∨SqL K H a xs)∧xs.length=n∧t xs σ H Q
theorem gO {es:List Expr} {k:Nat} {pos:Pos} {t:TGs} {n:Nat} (hc:X.calm=true) (h:PGs X es t)
  (hn:(assignEach es X.env).length=n:=by rfl) (hst:(assignEach es X.env).findIdx? (·.1)=none:=by rfl):PG X (.Tuple es k pos) (A8 X.K n t):=by
 intro pins s σ H v u Q I r hw
 obtain ⟨a,xs,e1,hq,hl,hw⟩:=hw
 subst e1
 cases r
 rcases hq with hq | hq
 ·obtain ⟨its,rv,ht,hz⟩:=I.tuple hq
  refine assign_Tuple_tuple (I.ok.hd hc) ht (by simp [hn,← hl,rv.length]) hst fun h' hx=>?_
  have I1:Inv X pins σ H { s with heap:=h' }:=I.kept (t':=s.toks) fun b o e=>hx b o (Nat.ne_of_lt (Heap.lt_size e)) e
  exact h pins _ σ H xs _ Q I1 (by simpa using rv) hw
 ·obtain ⟨its,rv,ht,hz⟩:=I.list hq
  refine mQ (I.ok.hd hc) ht.isList (by simp [hn,← hl,rv.length]) hst fun h' hx=>?_
  have I1:Inv X pins σ H { s with heap:=h' }:=I.kept (t':=s.toks) fun b o e=>hx b o (Nat.ne_of_lt (Heap.lt_size e)) e
  exact h pins _ σ H xs _ Q I1 (by simpa using rv) hw
end L2
namespace L2
open PySem PySem.Spec PyProof.Rows
structure yt (P:Program) (w:World) (outer:List Env) (H:Hp) (s:Shared) (E:XK) (ea t:Addr) (cls:Value) (B:Heap) (H':Hp) (s':Shared):Prop where
 os:s'.os=s.os
 bare:AllBare s'.gens
 fly:Heap.FlyingW B outer ea cls (.ref t) s'.heap
 keep:∀ b o,s.heap.get? b=some o->H b=none->b ∉ frs outer->B.get? b=some o
 there:∀ b o,s.heap.get? b=some o->b ∉ frs outer->∃ o',B.get? b=some o'
 slot:∀ b o,s.heap.get? b=some o->b∈frs outer->H b=none->∃ sl,s'.heap.get? b=some { o with slots:=sl }
 free:∀ b o,s.heap.get? b=some o->H b=none->H' b=none
 tups:∀ b xs,H b=some (.tup xs)->H' b=some (.tup xs)
 g8:∀ b o u,H b=some (.frz o u)->H' b=some (.frz o u)
 iV:∀ b ps,H b=some (.tbl ps)->∃ more,H' b=some (.tbl (ps++more))
 hok:HOk P w H' B
 wish:E cls none H'
def CXW (P:Program) (w:World):CXT:=fun outer H s E e s'=>∃ ea t cls B H',e=.ref ea∧yt P w outer H s E ea t cls B H' s'
def yu (X:Cx) (cls:Value) (W:Hp->Prop):Prop:=∀ (pins:List (Addr × Obj)) (σ:St) (H:Hp) (s:Shared) (e:Addr) (h':Heap) (vs:List Value),Inv X pins σ H s->Heap.MadeExcOf s.heap h' e cls vs->W H->X.xe (.ref e) { s with heap:=h' }
def A9 (W:Hp->Prop) (t:TA):TS:=fun _ σ H=>t σ H fun vs H1=>vs.length≤100∧W H1
theorem DA {K:PySem.W.Frag} {h₀:Heap} {C:Addr} {bmB:List Value} {newId:String} (X:K.In h₀) (q:PySem.W.excIn K C bmB newId=true) :
  ∃ bm N nm q bs hdct sn sub ab col dd k0 k1 k2 k3 k5 mN,h₀.get? C=some (excClassObj nm q C N bs bm hdct sn sub ab col dd k0 k1 k2 k3 k5 newId)∧h₀.Ns N mN∧mN "__init__" = none∧OwnTail h₀ bmB bm:=by
 unfold PySem.W.excIn at q
 split at q
 ·rename_i dd cd sl ho
  split at q
  ·rename_i C' bm k0 k1 k2 k3 n k5 hm hs
   simp only [Bool.and_eq_true,beq_iff_eq,Bool.not_eq_true'] at q
   obtain ⟨⟨⟨⟨⟨rfl,rfl⟩,hdel⟩,ht⟩,hok⟩,hni⟩:=q
   obtain ⟨nm,bs,mro,ns,qn,hd,sn,sub,ab,col,del⟩:=cd
   dsimp only at hm hdel hok hni
   subst hm hdel
   have hsl:sl=#[k0,k1,k2,k3,some (.builtin n),k5]:=by
    obtain ⟨l⟩:=sl
    simp only at hs
    rw [hs]
   subst hsl
   exact ⟨bm,ns,nm,qn,bs,hd,sn,sub,ab,col,dd,k0,k1,k2,k3,k5,_,X _ _ ho,.of_isNs (PySem.W.isNs_of_in X hok),PySem.W.nsMap_none_of_in X hok hni,PySem.W.tail_of_in X ht⟩
  ·cases q
 ·cases q
section
variable {X:Cx}
theorem uP {x:Str} {C:Addr} {Bn newId initId:String} {bm:List Value} {np cpos pos:Pos} {e:Expr} {es:List Expr} {t:TA} {W:Hp->Prop} (hc:X.calm=true) (hg:Gl X x) (hm:X.mg x=some (.ref C)) (hq:PySem.W.excIn X.K C bm newId=true)
  (FB:ExcBaseFacts Bn newId initId bm) (hx:yu X (.ref C) W) (ha:PA X (e::es) t) (hdb:(x == ("__debug__":Str))=false:=by decide)
  (he:starEach (e::es) X.env=(false,eval e X.env)::starEach es X.env:=by rfl) (hpl:(backTo cpos (starEach es X.env)).any (·.1)=false:=by rfl) :
  PS X (.Raise (some (.Call (.Name x np) (e::es) [] cpos)) none pos) (A9 W t):=by
 intro pins s σ H D I h
 obtain ⟨tl,N,nm,q,bs,hdct,sn,sub,ab,col,dd,k0,k1,k2,k3,k5,mN,hC,hN,hni,T⟩:=DA I.mod.kin hq
 refine wpAny_Raise_call_subT (C:=C) (nm:=nm) (q:=q) (N:=N) (bs:=bs) (bm:=tl) (hdct:=hdct) (sn:=sn) (sub:=sub) (ab:=ab) (col:=col) (dd:=dd) (k0:=k0) (k1:=k1) (k2:=k2) (k3:=k3) (k5:=k5)
  FB (mN:=mN) (T.hasType FB.hasBase) (I.ok.hd hc) (by rw [he]; show (false || (backTo cpos (starEach es X.env)).any (·.1))=false; rw [hpl]; rfl) hni (lR I hg hm ⟨rfl,?_⟩ hdb)
 have hp:=ha cpos pins s σ H _ I h
 rw [he] at hp ⊢
 refine Calls.evalArgs_plain (wpAny_mono hp (fun vs s₂ h₂=>?_) fun _ _ y=>y)
 obtain ⟨us,H1,I1,r1,hl,w1⟩:=h₂
 exact ⟨rfl,by rw [← r1.length]; exact Nat.le_trans hl (by simp only [sizeLine]; omega),I1.bk _ _ hC,hN.keeps I1.bk,T.keeps I1.bk,fun h' e' hm'=>hx pins σ H1 s₂ e' h' vs I1 hm' w1⟩
theorem k6 {P:Program} {w:World} {K:PySem.W.Frag} {mg:Str->Option Value} {base:Heap} {N:List Str} {qual:Str} {scope:Scope} {f:Addr} {cd:Value} {A:Around} {outer:List Env} {s₀:Shared} {H₀:Hp} {E:XK} {cls:Value}
  (hk:scope.kind=.function) (hex:(envOfC qual scope s₀.heap.objs.size f cd).frame=some s₀.heap.objs.size):yu (mO (CXW P w) P w K mg base N qual scope f cd A outer s₀ H₀ E) cls (fun H'=>E cls none H'):=by
 intro pins σ H s e h' vs I hx hw
 have noA:∀ b:Addr,b ∉ (mO (CXW P w) P w K mg base N qual scope f cd A outer s₀ H₀ E).ex:=fun b z=>absurd (show b∈([]:List Addr) from z) (by simp)
 have hst:=I.stack
 have frL:(mO (CXW P w) P w K mg base N qual scope f cd A outer s₀ H₀ E).stack=envOfC qual scope s₀.heap.objs.size f cd::outer:=rfl
 rw [frL] at hst
 have hfr:=I.ok.frames
 have hin:∀ env∈(envOfC qual scope s₀.heap.objs.size f cd::outer),∀ b,env.frame=some b->b∈frs (envOfC qual scope s₀.heap.objs.size f cd::outer):=fun env he b hb=>List.mem_filterMap.mpr ⟨env,he,hb⟩
 have noH:∀ b∈frs (envOfC qual scope s₀.heap.objs.size f cd::outer),H b=none:=fun b hb=>I.oH b hb
 show wpAny _ _ (leaving _ (.ref e)) _ _ _
 refine wpAny_leaves_madeW (base:=PySem.W.hideAll s.heap (frs (envOfC qual scope s₀.heap.objs.size f cd::outer))) hfr hex (fun b o q=>PySem.W.of_hideAll _ q) (PySem.W.funFrames_hide hst hin) hx fun h2 t x1 x2 x3 x4=>?_
 have sub:∀ b∈frs outer,b∈frs (envOfC qual scope s₀.heap.objs.size f cd::outer):=fun b hb=>by
  obtain ⟨env,he,hf⟩:=List.mem_filterMap.mp hb
  exact hin env (List.mem_cons_of_mem _ he) b hf
 have out:∀ b o,s₀.heap.get? b=some o->b ∉ frs outer->b ∉ frs (envOfC qual scope s₀.heap.objs.size f cd::outer):=fun b o q hb hm=>by
  obtain ⟨env,he,hf⟩:=List.mem_filterMap.mp hm
  rcases List.mem_cons.mp he with rfl | he
  ·rw [hex] at hf
   cases hf
   exact absurd (Heap.lt_size q) (Nat.lt_irrefl _)
  ·exact hb (List.mem_filterMap.mpr ⟨env,he,hf⟩)
 refine ⟨e,t,cls,_,H,rfl,⟨I.os,I.bare,x1,fun b o q n hb=>?_,fun b o q hb=>?_,fun b o q hb n=>?_,fun b o q n=>?_,I.base.tups,I.base.g8,I.base.iV,fun b u q=>?_,hw⟩⟩
 ·exact PySem.W.hideAll_get _ (I.base.keep b o q n hb (noA b)) (out b o q hb)
 ·obtain ⟨o',q'⟩:=I.base.there b o q (noA b)
  exact ⟨o',PySem.W.hideAll_get _ q' (out b o q hb)⟩
 ·obtain ⟨sl,q'⟩:=I.base.slot b o q n hb (noA b)
  obtain ⟨_,o2,q2,hd⟩:=hst.mem (sub b hb)
  rw [q'] at q2
  cases q2
  obtain ⟨sl',q3⟩:=x4 b _ (hx.keeps b _ q') hd
  exact ⟨sl',q3⟩
 ·exact I.base.free b o q n (noA b)
 ·refine (I.hok b u q).stay (fun c v hc q'=>PySem.W.hideAll_get _ q' fun hm=>?_) (fun _ q'=>q') fun _ _ q'=>q'
  have hn:=noH c hm
  rcases hc with z | z
  ·rw [z,q] at hn; cases hn
  ·rw [z] at hn; cases hn
theorem oK {M:Model} {A:Around} {E:Value->Shared->Prop} {pins:List (Addr × Obj)} {σ:St} {H:Hp} {s:Shared} {i:Nat} {x:Str} {pos:Pos} {Q:Unit->Shared->Prop} (I:Inv X pins σ H s) (hN:X.N.Nodup) (hi:X.N[i]?=some x) (hk:X.env.scope.names.lookup x=some .local)
  (h:∀ s',Inv X pins (σ.set i none) H s'->Q () s'):wpAny M A (do bindName X.env x .none; unbindBehindTheSuite X.env x pos) Q E s:=by
 obtain ⟨m,hn,hl⟩:=id I.loc
 have hk':X.env.kindOf x=some .local:=hk
 have hcls:(X.env.scope.kind == .class || (X.env.scope.kind == .module && X.env.locals != X.env.globals))=false:=by rw [I.ok.kind]; rfl
 have hiσ:i < σ.length:=by rw [I.len]; exact (List.getElem?_eq_some_iff.mp hi).1
 have cne:=I.cne
 refine wpAny_bind (wpAny_bindName (wpAny_storeName_local hk' hn (fun h₁ hn₁ hs₁=>?_) hcls))
 unfold unbindBehindTheSuite
 refine wpAny_onRaise ?_
 unfold unbindName
 refine wpAny_bind (wpAny_point (wpAny_bind ?_))
 unfold deleteName
 simp only [hk',hcls]
 rw [if_neg (by decide)]
 refine wpAny_bind (wpAny_nsDel_keeps hn₁ fun h₂ v hn₂ hs₂=>?_)
 simp only [if_true,Option.isSome_some,Bool.not_true,Bool.false_eq_true,if_false]
 have hs:Heap.SameBut X.env.locals s.heap h₂:=hs₁.trans hs₂
 obtain ⟨oL,_,_,hoL,_⟩:=id hn
 refine wpAny_pure (wpAny_point (h _ ⟨I.ok,I.os,I.bare,⟨fun b o e n hb hx=>?_,fun b o e n hb hx=>?_,I.base.free,fun b o e hx=>?_,I.base.tups,I.base.g8,I.base.iV⟩,⟨_,hn₂,fun j y v' e1 e2 e3=>?_⟩,fun y c e=>?_,I.free,I.gK,fun p hp=>?_,fun b ob e=>?_,by simpa using I.len⟩))
 ·exact (hs.2 b (Nat.ne_of_lt (Nat.lt_of_lt_of_le (Heap.lt_size e) I.ok.above))).trans (I.base.keep b o e n hb hx)
 ·obtain ⟨sl,e1⟩:=I.base.slot b o e n hb hx
  exact ⟨sl,(hs.2 b (Nat.ne_of_lt (Nat.lt_of_lt_of_le (Heap.lt_size e) I.ok.above))).trans e1⟩
 ·obtain ⟨o',e1⟩:=I.base.there b o e hx
  exact ⟨o',(hs.2 b (Nat.ne_of_lt (Nat.lt_of_lt_of_le (Heap.lt_size e) I.ok.above))).trans e1⟩
 ·by_cases hj:j=i
  ·subst hj
   rw [List.getElem?_set_self hiσ] at e2
   cases e2
  ·rw [List.getElem?_set_ne (Ne.symm hj)] at e2
   obtain ⟨u',r',q⟩:=hl j y v' e1 e2 e3
   refine ⟨u',r',?_⟩
   rcases q with ⟨k,e⟩ | ⟨k,c,e,z⟩
   ·refine .inl ⟨k,?_⟩
    have:y≠x:=fun e=>hj (o5 hN e1 (e ▸ hi))
    simp [this,e]
   ·exact .inr ⟨k,c,e,z.sameBut hs (cne y c e)⟩
 ·obtain ⟨w',z⟩:=I.cell y c e
  exact ⟨w',z.sameBut hs (cne y c e)⟩
 ·obtain ⟨e,n,ne,nf,d⟩:=I.pin p hp
  exact ⟨(hs.2 p.1 ne).trans e,n,ne,nf,d⟩
 ·refine (I.hok b ob e).stay (fun c w' hc q=>(hs.2 c ?_).trans q) (fun _ q=>q) fun _ _ q=>q
  rintro rfl
  rcases hc with rfl | hc
  ·rw [I.free] at e; cases e
  ·rw [I.free] at hc; cases hc
theorem b9.is {P:Program} {w:World} {H:Hp} {h:Heap} {a:Addr} {o:HO} (x:b9 P w H h a o):∃ u,h.get? a=some u:=by
 induction o with
 | lst xs=>obtain ⟨z,its,n,r,e⟩:=x; exact ⟨_,e⟩
 | tup xs=>first | (obtain ⟨z,its,r,ob,e,c⟩:=x; exact ⟨_,e⟩) | (obtain ⟨z,its,r,⟨ob,e,c⟩,_⟩:=x; exact ⟨_,e⟩)
 | dK kvs=>obtain ⟨z,y,vs,r,ob,es,ep,e,c⟩:=x; exact ⟨_,e⟩
 | dT kvs=>obtain ⟨z,y,xs,r,ob,es,ep,e,c⟩:=x; exact ⟨_,e⟩
 | set S n=>obtain ⟨ob,es,ep,t,e,c⟩:=x; exact ⟨_,e⟩
 | ins C dx fs=>obtain ⟨_,_,_,e,_⟩:=x; exact ⟨_,e⟩
 | own _=>exact x
 | xd fs=>obtain ⟨_,⟨_,_,_,e,_⟩,_⟩:=x; exact ⟨_,e⟩
 | rng lo hi=>obtain ⟨_,_,_,e⟩:=x; exact ⟨_,e⟩
 | frz ob u=>obtain ⟨e,_⟩:=x; exact ⟨_,e⟩
 | tbl ps=>exact ⟨_,x⟩
 | met f y=>exact ⟨_,x⟩
 | ext φ=>obtain ⟨_,e,_⟩:=x; exact e
theorem b9.Fo {P:Program} {w:World} {H:Hp} {h:Heap} {a:Addr} {xs:List V} (x:b9 P w H h a (.tup xs)):xs.length≤sizeLine∧∃ its:List Value,Vals xs its∧IsTup h a its.toArray:=by
 first | exact x | (obtain ⟨z,its,r,p,_⟩:=x; exact ⟨z,its,r,p⟩)
theorem b9.Ba {P:Program} {w:World} {H:Hp} {h:Heap} {xs:List V} {its:List Value} (hz:xs.length≤sizeLine) (r:Vals xs its):b9 P w H (h.push { cls:=.type "tuple",data:=.seq its.toArray }) h.objs.size (.tup xs):=by
 first | exact ⟨hz,its,r,⟨_,Heap.get?_push_size _ rfl,rfl,_,rfl⟩⟩ | exact ⟨hz,its,r,⟨_,Heap.get?_push_size _ rfl,rfl,_,rfl⟩,_,Heap.get?_push_size _ rfl,rfl⟩
theorem yt.inv {pins:List (Addr × Obj)} {σ:St} {H H':Hp} {s s':Shared} {E:XK} {ea t:Addr} {cls:Value} {B h2:Heap} (fl:yt X.prog X.w X.stack H s E ea t cls B H' s') (I:Inv X pins σ H s) (f2:Heap.FlyingW B X.stack ea cls (.ref t) h2) (sm:s'.heap.UpToSlots h2) :
  Inv X pins σ H' { s' with heap:=h2 }:=by
 refine I.call' (ch:=[]) fl.os ⟨fun b o q n hb _=>f2.1 b o (fl.keep b o q n hb),fun b o q n hb _=>?_,fun b o q n _=>fl.free b o q n,fun b o q _=>?_,fl.tups,fl.g8,fl.iV⟩ (fl.hok.kept f2.1) fl.bare (fun b z=>absurd z (by simp))
 ·obtain ⟨sl,q1⟩:=fl.slot b o q hb n
  obtain ⟨_,o2,q2,hd⟩:=fl.fly.2.2.1.mem hb
  rw [q1] at q2
  cases q2
  obtain ⟨sl',q3⟩:=sm b _ q1 hd
  exact ⟨sl',q3⟩
 ·by_cases hb:b∈frs X.stack
  ·obtain ⟨sl,q1⟩:=fl.slot b o q hb (I.oH b hb)
   obtain ⟨_,o2,q2,hd⟩:=fl.fly.2.2.1.mem hb
   rw [q1] at q2
   cases q2
   obtain ⟨sl',q3⟩:=sm b _ q1 hd
   exact ⟨_,q3⟩
  ·obtain ⟨o',q1⟩:=fl.there b o q hb
   exact ⟨o',f2.1 b o' q1⟩
end
def Cx.mkd (X:Cx) (e:Addr):Cx:={ X with A:=X.A.mark (some (.ref e)),calm:=false,xe:=fun _ _=>False }
def Cx.inX (X:Cx) (e:Addr) (oe:Obj):Cx:={ X with A:=X.A.mark (some (.ref e)),calm:=false,pn:=(e,oe)::X.pn,xe:=fun _ _=>False }
section
variable {X:Cx} {pins:List (Addr × Obj)} {σ:St} {H:Hp} {s:Shared} {e:Addr} {oe:Obj}
theorem Cx.Ok.mkd (ok:X.Ok):(X.mkd e).Ok:=⟨ok.mod,ok.kind,ok.glob,ok.blt,ok.above,ok.inj,ok.has,ok.cab,fun h=>absurd (show false=true from h) Bool.false_ne_true,ok.frames,ok.stk,ok.exf,ok.bs,ok.bsz,ok.wO,ok.uC,ok.ly,ok.frf⟩
theorem Inv.mkd (I:Inv X pins σ H s):Inv (X.mkd e) pins σ H s:=⟨I.ok.mkd,I.os,I.bare,I.base,I.loc,I.cell,I.free,I.gK,I.pin,I.hok,I.len⟩
theorem Cx.Ok.inX (ok:X.Ok):(X.inX e oe).Ok:=⟨ok.mod,ok.kind,ok.glob,ok.blt,ok.above,ok.inj,ok.has,ok.cab,fun h=>absurd (show false=true from h) Bool.false_ne_true,ok.frames,ok.stk,ok.exf,ok.bs,ok.bsz,ok.wO,ok.uC,ok.ly,ok.frf⟩
theorem Inv.inX (I:Inv X pins σ H s) (h1:s.heap.get? e=some oe) (h2:H e=none) (h3:e≠X.env.locals) (h4:e ∉ X.fs) (h5:∀ v,oe.data≠.cell v):Inv (X.inX e oe) pins σ H s :=
 ⟨I.ok.inX,I.os,I.bare,I.base,I.loc,I.cell,I.free,I.gK,fun p hp=>by
  rcases List.mem_cons.mp (show p∈(e,oe)::(X.pn++pins) from hp) with rfl | hp
  ·exact ⟨h1,h2,h3,h4,h5⟩
  ·exact I.pin p hp,I.hok,I.len⟩
theorem Inv.DB (ok:X.Ok) (I:Inv (X.inX e oe) pins σ H s):Inv X pins σ H s :=
 ⟨ok,I.os,I.bare,I.base,I.loc,I.cell,I.free,I.gK,fun p hp=>I.pin p (show p∈(e,oe)::(X.pn++pins) from List.mem_cons_of_mem _ hp),I.hok,I.len⟩
def Ends.drop (D:Ends) (i:Nat):Ends:={ nx:=fun σ H=>D.nx (σ.set i none) H,rt:=D.rt,bk:=fun σ H=>D.bk (σ.set i none) H,ct:=fun σ H=>D.ct (σ.set i none) H }
def Bb (sp:Sp) (t:TA) (i:Nat) (ok:Value->Prop) (th:Value->Addr->TS):TS:=fun D σ H=>t σ H fun vs H1=>sp vs H1 (fun _ H2=>D.nx σ H2) (fun cls _ H2=>ok cls∧∀ e:Addr,H2 e=none->th cls e (D.drop i) (σ.set i (some (.ref e))) H2)
theorem DC {k:Nat} {f C:Addr} {fd:FuncData} {ps:List Str} {sp:Sp} {x xC n:Str} {p np pos pos' epos hpos:Pos} {a:Expr} {es:List Expr} {t:TA} {i:Nat} {ok:Value->Prop} {th:Value->Addr->TS} {b₀:Stmt} {suite:List Stmt}
  (hxe:X.xe=fun _ _=>False) (F:kX X.prog X.w X.K X.mg X.base (CXW X.prog X.w) k f fd ps sp) (hr:fq k X.A) (hg:Gl X x) (hm:X.mg x=some (.ref f)) (hk:PySem.W.keepIn X.K (.ref f)=true) (hb:Binds X.K fd ps []) (ha:PA X (a::es) t)
  (hst:X.stack=X.env::X.outer) (hfr:X.env.frame=some X.env.locals) (hgC:Gl X xC) (hmC:X.mg xC=some (.ref C)) (hex:∀ cls,ok cls->PySem.W.exmOne X.K cls (.ref C)=some true)
  (hN:X.N.Nodup) (hi:X.N[i]?=some n) (hln:X.env.scope.names.lookup n=some .local) (hS:∀ (cls:Value) (e:Addr) (oe:Obj),oe.cls=cls->ok cls->PSs (X.inX e oe) (b₀::suite) (th cls e))
  (hdb:(x == ("__debug__":Str))=false:=by decide) (hdC:(xC == ("__debug__":Str))=false:=by decide) (he:starEach (a::es) X.env=(false,eval a X.env)::starEach es X.env:=by rfl) (hpl:(backTo pos' (starEach es X.env)).any (·.1)=false:=by rfl)
  (hs:swapsWith (.Call (.Name x p) (a::es) [] pos') none epos.line X.env=pure false:=by rfl) :
  PS X (.Try [.Expr (.Call (.Name x p) (a::es) [] pos') epos] [.ExceptHandler (some (.Name xC np)) (some n) (b₀::suite) hpos] [] [] pos) (Bb sp t i ok th):=by
 intro pins s σ H D I h
 refine wpAny_Try_except ?_
 refine wpAny_execs_cons (wpAny_Expr_any ?_ I.quiet hs)
 refine wpAny_Call_Name_kw (lR I hg hm ?_ hdb)
 refine PySem.W.callWith_K (h₀:=X.base) I.ok.mod.kin hk (wpAny_mono (ha pos' pins s σ H _ I h) (fun us s1 ⟨vs,H1,I1,r,q⟩=>⟨I1.kIn,?_⟩) (fun _ _ z=>by rw [hxe] at z; exact z.elim)) he hpl
 have hl:us.length=ps.length:=by rw [← r.length]; exact F.len _ _ _ _ q
 have hbt:=hb s1 us I1.kIn (by rw [List.append_nil]; exact hl)
 rw [List.append_nil] at hbt
 refine wpAny_call (codeAny_mono (F.run X.A X.stack s1 H1 ⟨us,[]⟩ us vs _ _ hr I1.env0 hbt r q) fun r s' hq=>?_)
 cases r with
 | ok fl =>
  cases fl with
  | ret u =>
   obtain ⟨v,H2,I2,rv,q2⟩:=I1.after hq
   exact wpAny_execs_nil (wpAny_execs_nil ⟨σ,H2,I2,q2⟩)
  | next=>exact False.elim hq
  | brk=>exact False.elim hq
  | cont=>exact False.elim hq
 | error ev =>
  obtain ⟨ea,t',cls,B,H2,rfl,fl⟩:=hq
  obtain ⟨okc,hth⟩:=fl.wish
  have fly:=fl.fly
  rw [hst] at fly
  refine wpAny_looks_onW (by rw [I.ok.frames,hst]) hfr fly fun h4 Il sm4=>?_
  refine wpAny_landsW Il fun h5 GJ sm5=>?_
  have sm:s'.heap.UpToSlots h5:=sm4.trans sm5
  have I5:Inv X pins σ H2 { s' with heap:=h5 }:=fl.inv I1 (by rw [hst]; exact GJ) sm
  have I5m:=I5.mkd (e:=ea)
  refine wpAny_handleBy_cons (codeAny_handlers_test (lR I5m hgC hmC ?_ hdC)) (by intro q; cases q)
  have LT:PySem.W.Looks (model X.prog X.w) h5 (typeOf (.ref ea)) cls:=by
   obtain ⟨ob,hob,hobc⟩:=GJ.there
   exact hobc ▸ (PySem.W.Looks.ld hob).andThen .now
  refine (PySem.W.exm_one I5.kIn LT (hex cls okc)) _ _ _ _ (fun _ _ z=>z) ?_
  refine codeAny_handlers_suite_as ?_
  refine lands_againW GJ fun h6 DD sm6=>?_
  have I6:Inv X pins σ H2 { s' with heap:=h6 }:=fl.inv I1 (by rw [hst]; exact DD) (sm.trans sm6)
  obtain ⟨oe,ws,hoe,hoec,hoed,_⟩:=DD.first
  have hHe:H2 ea=none:=by
   cases z:H2 ea with
   | none=>rfl
   | some u =>
    obtain ⟨o',q'⟩:=(fl.hok ea u z).is
    rw [DD.2.1] at q'
    cases q'
  have nfr:ea ∉ frs (X.env::X.outer):=fun hm'=>by
   obtain ⟨_,o',q',hd⟩:=DD.2.2.1.mem hm'
   rw [hoe] at q'
   cases q'
   exact hd ws hoed
  have I6x:Inv (X.inX ea oe) pins σ H2 { s' with heap:=h6 }:=I6.inX hoe hHe (fun z=>nfr (List.mem_filterMap.mpr ⟨X.env,List.mem_cons_self,by rw [hfr,z]⟩)) (fun z=>nfr (by
   obtain ⟨env,he',hf'⟩:=List.mem_filterMap.mp z
   exact List.mem_filterMap.mpr ⟨env,List.mem_cons_of_mem _ he',hf'⟩)) (fun v z=>by rw [hoed] at z; cases z)
  refine o6 (X:=X.inX ea oe) I6x hN hi (.inl hln) (v:=.ref ea) rfl (fun s7 I7=>?_) (.inr hln)
  refine wpAny_mono (hS cls ea oe hoec okc pins s7 _ H2 (D.drop i) I7 (hth ea hHe)) (fun fl' s8 q8=>?_) (fun _ _ z=>z.elim)
  cases fl' with
  | next =>
   obtain ⟨σ8,H8,I8,q8⟩:=q8
   exact oK (I8.DB I.ok) hN hi hln fun s9 I9=>⟨_,H8,I9,q8⟩
  | brk =>
   obtain ⟨σ8,H8,I8,q8⟩:=q8
   exact oK (I8.DB I.ok) hN hi hln fun s9 I9=>⟨_,H8,I9,q8⟩
  | cont =>
   obtain ⟨σ8,H8,I8,q8⟩:=q8
   exact oK (I8.DB I.ok) hN hi hln fun s9 I9=>⟨_,H8,I9,q8⟩
  | ret u =>
   obtain ⟨v8,σ8,H8,I8,r8,q8⟩:=q8
   exact oK (I8.DB I.ok) hN hi hln fun s9 I9=>⟨v8,_,H8,I9,r8,q8⟩
end
end L2
namespace L2
open PySem PySem.Spec PyProof.Rows PySem.W Builtin Builtin.ObjectAttr Builtin.Getset_descriptor
section
variable {prog:Program} {w:World} {A:Around} {E:Value->Shared->Prop} {K:PySem.W.Frag} {a D:Addr} {o:Obj} {h:Heap} {g:Array GenState} {d:Drawn} {t:Nat} {os:OsState}
structure uQ (K:PySem.W.Frag) (D:Addr):Prop where
 ga:findIn K (.ref D) "__getattribute__" = some (some (.builtin "BaseException.__getattribute__"))
 gn:findIn K (.ref D) "__getattr__" = some none
 ca:findIn K (.ref D) "__class__" = some (some (.builtin "object.__class__"))
 sub:subIn K (.ref D) (.type "BaseException")=some true
 mro:mroIn K D (.type "object")=some true
 gs:specialIn K (.builtin "object.__class__") "__get__" = some (some (.builtin "getset_descriptor.__get__"))
 tk:takesIn K (.builtin "object.__class__")=some true
 cls:(clsIn K D).isSome=true
theorem exc_type (hx:h.get? a=some o) (hc:o.cls=.ref D) (M:Model):Looks M h (typeOf (.ref a)) (.ref D):=hc ▸ (Looks.ld hx).andThen .now
theorem qR {R:Result->Shared->Prop} {tp:Value} (X:K.In h) (hx:h.get? a=some o) (hc:o.cls=.ref D) (Z:uQ K D) (hq:R (.ok (.ret (.ref D))) ⟨h,g,d,t,os⟩) :
  codeAny (model prog w) A (.call (.builtin "getset_descriptor.__get__") ⟨[.builtin "object.__class__",.ref a,tp],[]⟩) R ⟨h,g,d,t,os⟩:=by
 have L0:=exc_type hx hc (model prog w)
 have L1:=looks_mroIn (M:=model prog w) X Z.mro
 refine codeAny_call_builtin KF.slot_gs.plain KF.entry_gs (KF.slot_gs.check _ _ _ _ _ _ _ _ KF.type_class (KF.args_gs _ _ _) ?_)
 unfold Builtin.«getset_descriptor.__get__» descrGet
 rw [dga_obj]
 refine wpAny_bind (wpAny_pure ?_)
 unfold descrGetter descrCheckInstance descrNameAndClass isInstance
 simp only [KF.owner_class]
 repeat lk
 refine ⟨Code.quiet_builtin _ (by decide +kernel),codeAny_builtin KF.entry_class ?_⟩
 unfold Builtin.«object.__class__» shownTypeOf
 repeat lk
 exact hq
theorem oz {tk:Tok} {Q:PySem.Fin->Shared->Prop} (X:K.In h) (hx:h.get? a=some o) (hc:o.cls=.ref D) (Z:uQ K D) (hq:Q (.done (.ret (.ref D))) ⟨h,g,d,t,os⟩) :
  wpAny (model prog w) A (Builtin.«object.__getattribute__» ⟨[.ref a,.str "__class__" tk],[]⟩) Q E ⟨h,g,d,t,os⟩:=by
 have L0:=exc_type hx hc (model prog w)
 have L2:=looks_findIn (M:=model prog w) X Z.ca
 have L3:=looks_specialIn (M:=model prog w) X Z.gs
 have L4:=looks_takesIn (M:=model prog w) X Z.tk
 unfold Builtin.«object.__getattribute__» find
 repeat (first | with_reducible refine wpAny_call (qR X hx hc Z ?_) | lk)
 exact hq
theorem pd {Q:Option Value->Shared->Prop} (X:K.In h) (hx:h.get? a=some o) (hc:o.cls=.ref D) (Z:uQ K D) (hq:Q (some (.ref D)) ⟨h,g,d,t + 1,os⟩) :
  wpAny (model prog w) A (getAttr? (.ref a) "__class__") Q E ⟨h,g,d,t,os⟩:=by
 have L0:=exc_type hx hc (model prog w)
 have L1:=looks_findIn (M:=model prog w) X Z.ga
 have L2:=looks_findIn (M:=model prog w) X Z.gn
 unfold getAttr? getAttrBy? getAttrBy
 refine wpAny_bind (wpAny_mkText (wpAny_bind (wpAny_attempt (wpAny_holding (wpAny_bind (L0.at (wpAny_bind (L1.at ?_))))))))
 show wpAny _ _ (getAttrByItsOwn _ _ _ _ _ _) _ _ _
 unfold getAttrByItsOwn hookBefore
 rw [if_pos (show onTheHeap (Value.ref D)=true from rfl)]
 refine wpAny_bind (L2.at ?_)
 have hck:∀ {Q':Unit->Shared->Prop} {E':Value->Shared->Prop} {A':Around} {nv:Value} {t':Nat},Q' () ⟨h,g,d,t',os⟩->wpAny (model prog w) A' (checkBuiltinCall "BaseException.__getattribute__" ⟨[.ref a,nv],[]⟩) Q' E' ⟨h,g,d,t',os⟩:=fun {Q' E' A' nv t'} q'=>by
  have L5:=looks_subIn (M:=model prog w) X Z.sub
  have hk:builtinKind "BaseException.__getattribute__" = some .slot:=by decide +kernel
  have hsplit:splitId "BaseException.__getattribute__" = some ("BaseException","__getattribute__"):=by decide +kernel
  have ha:=F.args_bexc_ga (.ref a) nv
  have LI:Looks (model prog w) h (isInstance (.ref a) (.type "BaseException")) true:=L0.andThen L5
  simp only [checkBuiltinCall,hk,hsplit]
  refine wpAny_bind ?_
  repeat (first | with_reducible refine Looks.at (by assumption) ?_ | wp_step)
  exact q'
 have f3:=F.attr_ValueError.ga.bind (.ref a)
 refine wpAny_bind (wpAny_attempt (wpAny_holding ?_))
 show wpAny _ _ (boundAndCalled _ _ _) _ _ _
 unfold boundAndCalled
 rw [f3]
 refine wpAny_bind (wpAny_pure ?_)
 refine wpAny_call (codeAny_call_builtin F.attr_ValueError.ga.plain F.entry_bexc_ga (hck (oz X hx hc Z ?_)))
 exact handed_on rfl (wpAny_pure hq)
theorem uR (Z:uQ K D) (hc:o.cls=.ref D):KitX K (.ref a) (.ref D) (fun h=>h.get? a=some o) where
 ty:=fun M _ _ hx=>exc_type hx hc M
 it:=fun _ _ X _=>by
  obtain ⟨cd,hcd⟩:=Option.isSome_iff_exists.mp Z.cls
  unfold clsIn at hcd
  split at hcd
  ·rename_i c' d' cd' sl' ho
   intro A' Q' E' s' k q
   unfold isType loadHead
   exact wpAny_bind (wpAny_loadPart (k _ _ (X _ _ ho)) (wpAny_pure q))
  ·cases hcd
 ne:=fun h tp dd its n sl X htp=>by
  obtain ⟨cd,hcd⟩:=Option.isSome_iff_exists.mp Z.cls
  refine Bool.eq_false_iff.mpr fun q=>?_
  have e:D=tp:=Value.ref.inj (beq_iff_eq.mp q)
  subst e
  unfold clsIn at hcd
  split at hcd
  ·rename_i c' d' cd' sl' ho
   have z:=(X _ _ ho).symm.trans htp
   cases z
  ·cases hcd
 ca:=fun {_ _ _ _ _ s} X hx k=>by
  obtain ⟨h,g,d,t,os⟩:=s
  exact pd X hx hc Z k
end
section
variable {X:Cx} {e:Addr} {oe:Obj} {D:Addr}
def Bc (K:PySem.W.Frag) (e D:Addr):List V->Hp->VK->Prop:=fun vs H Q =>
 (∃ c cv b,vs=[.ref e,c]∧(∀ u,RelV c u->u=cv)∧kitOne K (.ref D) cv=some b∧Q (.bl b) H) ∨
 (∃ tp cs cvs b,vs=[.ref e,.ref tp]∧H tp=some (.tup cs)∧(∀ us,Vals cs us->us=cvs)∧kitAny K (.ref D) cvs=some b∧Q (.bl b) H)
theorem zK (hp:(e,oe)∈X.pn) (hc:oe.cls=.ref D) (Z:uQ X.K D):dU X (.builtin "isinstance") (Bc X.K e D):=by
 intro pins s σ H vs us Q I r h
 have hx:=(I.pin (e,oe) (List.mem_append_left _ hp)).1
 rcases h with ⟨c,cv,b,rfl,hcv,hk,q⟩ | ⟨tp,cs,cvs,b,rfl,ht,hcv,hk,q⟩
 ·cases r with
  | cons r1 r =>
   cases r with
   | cons r2 r =>
    cases r
    obtain rfl:=r1
    obtain rfl:=hcv _ r2
    exact kia_one (uR (a:=e) Z hc) I.kIn hx hk (by intro z; cases z) fun tk=>⟨.bl b,H,I.tok tk,rfl,q⟩
 ·cases r with
  | cons r1 r =>
   cases r with
   | cons r2 r =>
    cases r
    obtain rfl:=r1
    obtain rfl:=r2
    obtain ⟨z,its,rv,ob,eo,ec,n,ed⟩:=(I.hok tp _ ht).Fo
    obtain rfl:=hcv _ rv
    obtain ⟨oc,od,odt,osl⟩:=ob
    dsimp only at ec ed
    subst ec ed
    exact kia_tup (uR (a:=e) Z hc) I.kIn hx eo hk (by intro z; cases z) fun tk=>⟨.bl b,H,I.tok tk,rfl,q⟩
end
end L2
namespace Mir
open PySem L2
class Zc where
 e:Addr
instance (priority:=10) zc0:Zc:=⟨0⟩
variable [Zc]
noncomputable def cIf {α:Type} (c:Prop) (a b : α) : α:=@ite α c (Classical.propDecidable c) a b
theorem b0 {α:Type} {c:Prop} {a b : α} (h:c):cIf c a b=a:=by unfold cIf; rw [if_pos h]
theorem DE {α:Type} {c:Prop} {a b : α} (h : ¬ c):cIf c a b=b:=by unfold cIf; rw [if_neg h]
theorem Bd {α:Type} {a b : α}:cIf True a b=a:=b0 trivial
theorem cH {α:Type} {c:Prop} {a:Option α} {x : α} (h:cIf c a none=some x):c∧a=some x:=by
 by_cases hc:c
 ·rw [b0 hc] at h; exact ⟨hc,h⟩
 ·rw [DE hc] at h; cases h
abbrev D:=PyData
def sT:Key->D->Prop
 | .inl i,c=>c=.int i
 | .inr x,c=>c=.str x
mutual
inductive Rep (H:Hp):V->D->Prop
 | non:Rep H .non .none
 | bl (b:Bool):Rep H (.bl b) (.bool b)
 | int (i:Int):Rep H (.int i) (.int i)
 | str (x:Str):Rep H (.str x) (.str x)
 | lst {a:Addr} {xs:List V} {ds:List D}:Rd H a (.lst xs)->aP H xs ds->Rep H (.ref a) (.list ds)
 | tup {a:Addr} {xs:List V} {ds:List D}:H a=some (.tup xs)->aP H xs ds->Rep H (.ref a) (.tuple ds)
 | dct {a:Addr} {kvs:List (Key × V)} {es:List (D × D)}:Rd H a (.dK kvs)->bx H kvs es->Rep H (.ref a) (.dict es)
inductive aP (H:Hp):List V->List D->Prop
 | nil:aP H [] []
 | cons {x:V} {xs:List V} {d:D} {ds:List D}:Rep H x d->aP H xs ds->aP H (x::xs) (d::ds)
inductive bx (H:Hp):List (Key × V)->List (D × D)->Prop
 | nil:bx H [] []
 | cons {k:Key} {x:V} {kvs:List (Key × V)} {c d:D} {es:List (D × D)}:sT k c->Rep H x d->bx H kvs es->bx H ((k,x)::kvs) ((c,d)::es)
end
theorem d7 {H H':Hp} (e:aC H H') {a:Addr} {u:HO} (h:Rd H a u):Rd H' a u:=by
 rcases h with h | ⟨o,h⟩
 ·exact .inl (e _ _ h)
 ·exact .inr ⟨o,e _ _ h⟩
mutual
theorem Rep.mono {H H':Hp} (e:aC H H'):∀ {v:V} {d:D},Rep H v d->Rep H' v d
 | _,_,.non=>.non
 | _,_,.bl b=>.bl b
 | _,_,.int i=>.int i
 | _,_,.str x=>.str x
 | _,_,.lst h r=>.lst (d7 e h) (aP.mono e r)
 | _,_,.tup h r=>.tup (e _ _ h) (aP.mono e r)
 | _,_,.dct h r=>.dct (d7 e h) (bx.mono e r)
theorem aP.mono {H H':Hp} (e:aC H H'):∀ {v:List V} {d:List D},aP H v d->aP H' v d
 | _,_,.nil=>.nil
 | _,_,.cons a b=>.cons (Rep.mono e a) (aP.mono e b)
theorem bx.mono {H H':Hp} (e:aC H H'):∀ {v:List (Key × V)} {d:List (D × D)},bx H v d->bx H' v d
 | _,_,.nil=>.nil
 | _,_,.cons k a b=>.cons k (Rep.mono e a) (bx.mono e b)
end
theorem aP.length {H:Hp}:∀ {v:List V} {d:List D},aP H v d->v.length=d.length
 | _,_,.nil=>rfl
 | _,_,.cons _ b=>by simp [aP.length b]
theorem aP.get {H:Hp}:∀ {v:List V} {d:List D} (i:Nat),aP H v d->∀ c,d[i]?=some c->∃ x,v[i]?=some x∧Rep H x c
 | _,_,_,.nil,c,e=>by simp at e
 | _,_,0,.cons a _,c,e=>by simp at e; subst e; exact ⟨_,rfl,a⟩
 | _,_,i + 1,.cons _ b,c,e=>by
  obtain ⟨x,h1,h2⟩:=aP.get i b c (by simpa using e)
  exact ⟨x,by simpa using h1,h2⟩
theorem aP.append {H:Hp}:∀ {v w:List V} {d c:List D},aP H v d->aP H w c->aP H (v++w) (d++c)
 | _,_,_,_,.nil,r=>r
 | _,_,_,_,.cons a b,r=>.cons a (aP.append b r)
theorem aP.take {H:Hp}:∀ {v:List V} {d:List D} (n:Nat),aP H v d->aP H (v.take n) (d.take n)
 | _,_,0,_=>.nil
 | _,_,_ + 1,.nil=>.nil
 | _,_,n + 1,.cons a b=>.cons a (aP.take n b)
theorem aP.drop {H:Hp}:∀ {v:List V} {d:List D} (n:Nat),aP H v d->aP H (v.drop n) (d.drop n)
 | _,_,0,r=>r
 | _,_,_ + 1,.nil=>.nil
 | _,_,n + 1,.cons _ b=>aP.drop n b
theorem aP.set {H:Hp} {x:V} {c:D} (r:Rep H x c):∀ {v:List V} {d:List D} (i:Nat),aP H v d->aP H (v.set i x) (d.set i c)
 | _,_,_,.nil=>.nil
 | _,_,0,.cons _ b=>.cons r b
 | _,_,i + 1,.cons a b=>.cons a (aP.set r i b)
theorem aP.eraseIdx {H:Hp}:∀ {v:List V} {d:List D} (i:Nat),aP H v d->aP H (v.eraseIdx i) (d.eraseIdx i)
 | _,_,_,.nil=>.nil
 | _,_,0,.cons _ b=>b
 | _,_,i + 1,.cons a b=>.cons a (aP.eraseIdx i b)
theorem aP.dropLast {H:Hp} {v:List V} {d:List D} (r:aP H v d):aP H v.dropLast d.dropLast:=by
 rw [List.dropLast_eq_take,List.dropLast_eq_take,r.length]; exact r.take _
theorem aP.reverse {H:Hp}:∀ {v:List V} {d:List D},aP H v d->aP H v.reverse d.reverse
 | _,_,.nil=>.nil
 | _,_,.cons a b=>by rw [List.reverse_cons,List.reverse_cons]; exact (aP.reverse b).append (.cons a .nil)
theorem aP.flat {H:Hp} {v:List V} {d:List D} (r:aP H v d):∀ k,aP H (List.replicate k v).flatten (List.replicate k d).flatten
 | 0=>.nil
 | k + 1=>by
  rw [List.replicate_succ,List.replicate_succ,List.flatten_cons,List.flatten_cons]; exact r.append (aP.flat r k)
inductive Sl where
 | no | fz (d:D) | own (d:D) | io (d:D) | ro (d:D) | ex
def Sl.dA:Sl->Bool
 | .own _=>true
 | .io _=>true
 | _=>false
def Sl.isRef:Sl->Bool
 | .own _=>true
 | .io _=>true
 | .ro _=>true
 | _=>false
theorem Sl.jy {s:Sl} (h:s.dA=true):s.isRef=true:=by cases s <;> first | rfl | cases h
abbrev Rho:=List Sl
inductive Kd where
 | fz | new | at (i:Nat) | ro
abbrev RV:=D × Kd
inductive Own (B H:Hp) (p:Addr):D->Prop
 | lst {xs:List V} {ds:List D}:H p=some (.lst xs)->aP B xs ds->Own B H p (.list ds)
 | dct {kvs:List (Key × V)} {es:List (D × D)}:H p=some (.dK kvs)->bx B kvs es->Own B H p (.dict es)
theorem Own.there {B H:Hp} {p:Addr} {d:D} (h:Own B H p d):∃ o,H p=some o:=by cases h with
 | lst h _=>exact ⟨_,h⟩
 | dct h _=>exact ⟨_,h⟩
theorem Own.jz {B H:Hp} {p:Addr} {d:D} (h:Own B H p d):H p≠none:=by
 obtain ⟨o,e⟩:=h.there; rw [e]; simp
theorem Own.mono {B H B' H':Hp} {p:Addr} {d:D} (h:Own B H p d) (e:aC B B') (k:∀ o,H p=some o->H' p=some o):Own B' H' p d:=by cases h with
 | lst h r=>exact .lst (k _ h) (r.mono e)
 | dct h r=>exact .dct (k _ h) (r.mono e)
theorem Own.j4 {B H:Hp} {p:Addr} {d:D} (h:Own B H p d) (xs:List V):H p≠some (.tup xs):=by cases h with
 | lst h _=>rw [h]; simp
 | dct h _=>rw [h]; simp
theorem Own.rep {B H:Hp} {p:Addr} {d:D} (h:Own B H p d) (e:aC B H):Rep H (.ref p) d:=by cases h with
 | lst h r=>exact .lst (.inl h) (r.mono e)
 | dct h r=>exact .dct (.inl h) (r.mono e)
theorem Own.frozen {B H B':Hp} {p:Addr} {d:D} (h:Own B H p d) (e:aC B B') (k:∀ o,H p=some o->B' p=some o):Rep B' (.ref p) d:=by cases h with
 | lst h r=>exact .lst (.inl (k _ h)) (r.mono e)
 | dct h r=>exact .dct (.inl (k _ h)) (r.mono e)
structure Fr where
 B:Hp
 H:Hp
 io:List (Nat × Addr)
 Z:Addr->Prop
def pe (B H:Hp) (σ:St) (i:Nat):Sl->Prop
 | .no=>True
 | .ex=>True
 | .fz d=>∃ v,σ[i]?=some (some v)∧Rep B v d
 | .own d=>∃ p,σ[i]?=some (some (.ref p))∧B p=none∧Own B H p d
 | .io d=>∃ p,σ[i]?=some (some (.ref p))∧B p=none∧Own B H p d
 | .ro d=>∃ p,σ[i]?=some (some (.ref p))∧Own B H p d
structure Rel (F:Fr) (B H:Hp) (σ:St) (ρ:Rho):Prop where
 sub:aC B H
 sB:aC F.B B
 sH:∀ q o,F.H q=some o->(∀ x∈F.io,x.2≠q)->H q=some o
 nB:∀ q,F.H q≠none->F.B q=none->B q=none
 len : ρ.length=σ.length
 slot:∀ (i:Nat) (s:Sl),ρ[i]?=some s->pe B H σ i s
 dist:∀ (i j:Nat) (s t:Sl) (p:Addr),ρ[i]?=some s->s.dA=true->ρ[j]?=some t->t.isRef=true->σ[i]?=some (some (.ref p))->σ[j]?=some (some (.ref p))->i=j
 jl:∀ (i:Nat) (d:D) (p:Addr),ρ[i]?=some (.own d)->σ[i]?=some (some (.ref p))->F.H p=none
 fx:∀ x∈F.io,σ[x.1]?=some (some (.ref x.2))∧∃ d,ρ[x.1]?=some (.io d)
 ioN:∀ (i:Nat) (d:D),ρ[i]?=some (.io d)->∃ p,(i,p)∈F.io
 cC:∀ q xs,H q=some (.tup xs)->B q=some (.tup xs)
 exv:∀ i:Nat,ρ[i]?=some .ex->σ[i]?=some (some (.ref Zc.e))
 nz:∀ q o u,H q=some (.frz o u)->F.Z q
structure Ext (σ:St) (ρ:Rho) (B H:Hp) (ρ':Rho) (B' H':Hp):Prop where
 sB:aC B B'
 keep:∀ q o,H q=some o->(∀ (i:Nat) (s:Sl),ρ[i]?=some s->s.dA=true->σ[i]?≠some (some (.ref q)))->H' q=some o∧(B q=none->B' q=none)
 own:∀ (i:Nat) (s':Sl),ρ'[i]?=some s'->s'.dA=true->∃ s,ρ[i]?=some s∧s.dA=true
 ref:∀ (i:Nat) (s':Sl),ρ'[i]?=some s'->s'.isRef=true->∃ s,ρ[i]?=some s∧s.isRef=true
 live:∀ q,H' q=none->H q=none
theorem Ext.refl (σ:St) (ρ:Rho) (B H:Hp):Ext σ ρ B H ρ B H:=⟨aC.refl _,fun _ _ h _=>⟨h,id⟩,fun _ s h e=>⟨s,h,e⟩,fun _ s h e=>⟨s,h,e⟩,fun _ h=>h⟩
theorem Ext.trans {σ:St} {ρ ρ1 ρ2:Rho} {B H B1 H1 B2 H2:Hp} (a:Ext σ ρ B H ρ1 B1 H1) (b:Ext σ ρ1 B1 H1 ρ2 B2 H2):Ext σ ρ B H ρ2 B2 H2:=by
 refine ⟨a.sB.trans b.sB,fun q o h n=>?_,fun i s h e=>?_,fun i s h e=>?_,fun q h=>a.live q (b.live q h)⟩
 ·obtain ⟨h1,h2⟩:=a.keep q o h n
  obtain ⟨h3,h4⟩:=b.keep q o h1 fun i s e1 e2=>by
   obtain ⟨s',e3,e4⟩:=a.own i s e1 e2
   exact n i s' e3 e4
  exact ⟨h3,fun z=>h4 (h2 z)⟩
 ·obtain ⟨s1,h1,e1⟩:=b.own i s h e
  exact a.own i s1 h1 e1
 ·obtain ⟨s1,h1,e1⟩:=b.ref i s h e
  exact a.ref i s1 h1 e1
def slD:Sl->D
 | .own d=>d
 | .io d=>d
 | .ro d=>d
 | .fz d=>d
 | .no=>.none
 | .ex=>.none
def Val (F:Fr) (B H:Hp) (σ:St) (ρ:Rho) (v:V) (r:RV):Prop:=match r.2 with
 | .fz=>Rep B v r.1
 | .new=>∃ p,v=.ref p∧B p=none∧F.H p=none∧Own B H p r.1∧∀ (i:Nat) (s:Sl),ρ[i]?=some s->s.isRef=true->σ[i]?≠some (some (.ref p))
 | .at i=>∃ s,ρ[i]?=some s∧s.dA=true∧slD s=r.1∧σ[i]?=some (some v)
 | .ro=>∃ p,v=.ref p∧Own B H p r.1∧∀ (i:Nat) (s:Sl),ρ[i]?=some s->s.dA=true->σ[i]?≠some (some (.ref p))
def View (B H:Hp) (v:V) (d:D):Prop:=Rep B v d∨∃ p,v=.ref p∧Own B H p d
theorem View.rep {B H:Hp} {v:V} {d:D} (h:View B H v d) (e:aC B H):Rep H v d:=by
 rcases h with h | ⟨p,rfl,h⟩
 ·exact h.mono e
 ·exact h.rep e
theorem View.list {B H:Hp} {v:V} {ds:List D} (h:View B H v (.list ds)) (e:aC B H):∃ p xs,v=.ref p∧Rd H p (.lst xs)∧aP B xs ds:=by
 rcases h with h | ⟨p,rfl,h⟩
 ·cases h with
  | lst h r=>exact ⟨_,_,rfl,d7 e h,r⟩
 ·cases h with
  | lst h r=>exact ⟨_,_,rfl,.inl h,r⟩
theorem View.tuple {B H:Hp} {v:V} {ds:List D} (h:View B H v (.tuple ds)) (e:aC B H):∃ p xs,v=.ref p∧H p=some (.tup xs)∧aP B xs ds:=by
 rcases h with h | ⟨p,rfl,h⟩
 ·cases h with
  | tup h r=>exact ⟨_,_,rfl,e _ _ h,r⟩
 ·cases h
theorem View.dict {B H:Hp} {v:V} {es:List (D × D)} (h:View B H v (.dict es)) (e:aC B H):∃ p kvs,v=.ref p∧Rd H p (.dK kvs)∧bx B kvs es:=by
 rcases h with h | ⟨p,rfl,h⟩
 ·cases h with
  | dct h r=>exact ⟨_,_,rfl,d7 e h,r⟩
 ·cases h with
  | dct h r=>exact ⟨_,_,rfl,.inl h,r⟩
theorem View.int {B H:Hp} {v:V} {i:Int} (h:View B H v (.int i)):v=.int i:=by
 rcases h with h | ⟨p,rfl,h⟩
 ·cases h; rfl
 ·cases h
theorem View.bool {B H:Hp} {v:V} {b:Bool} (h:View B H v (.bool b)):v=.bl b:=by
 rcases h with h | ⟨p,rfl,h⟩
 ·cases h; rfl
 ·cases h
theorem View.str {B H:Hp} {v:V} {x:Str} (h:View B H v (.str x)):v=.str x:=by
 rcases h with h | ⟨p,rfl,h⟩
 ·cases h; rfl
 ·cases h
theorem View.none {B H:Hp} {v:V} (h:View B H v .none):v=.non:=by
 rcases h with h | ⟨p,rfl,h⟩
 ·cases h; rfl
 ·cases h
section
variable {F:Fr} {B H B' H':Hp} {σ:St} {ρ ρ':Rho} {v:V} {r:RV}
theorem Rel.ownAt (R:Rel F B H σ ρ) {i:Nat} {s:Sl} (h : ρ[i]?=some s) (e:s.dA=true):∃ p,σ[i]?=some (some (.ref p))∧B p=Option.none∧Own B H p (slD s):=by
 have:=R.slot i s h
 cases s with
 | own d=>exact this
 | io d=>exact this
 | _=>cases e
theorem Val.view (R:Rel F B H σ ρ) (h:Val F B H σ ρ v r):View B H v r.1:=by
 obtain ⟨d,k⟩:=r
 cases k with
 | fz=>exact .inl h
 | new=>obtain ⟨p,rfl,_,_,o,_⟩:=h; exact .inr ⟨p,rfl,o⟩
 | «at» i =>
  obtain ⟨s,h1,h2,h3,h4⟩:=h
  obtain ⟨p,e1,e2,e3⟩:=R.ownAt h1 h2
  rw [h4] at e1
  cases e1
  exact .inr ⟨p,rfl,h3 ▸ e3⟩
 | ro=>obtain ⟨p,rfl,o,_⟩:=h; exact .inr ⟨p,rfl,o⟩
theorem Rel.rP (R:Rel F B H σ ρ) {d:D} (h:Val F B H σ ρ v (d,.new)):∃ B',Rel F B' H σ ρ∧Rep B' v d∧aC B B'∧∀ q,v≠.ref q->B' q=B q:=by
 obtain ⟨p,rfl,hB,hF,o,nn⟩:=h
 obtain ⟨ob,hp⟩:=o.there
 have e:aC B (upd B p ob):=eG hB
 have ne:∀ (i:Nat) (s:Sl) (q:Addr),ρ[i]?=some s->s.isRef=true->σ[i]?=some (some (.ref q))->q≠p:=fun i s q h1 h2 h3 z=>nn i s h1 h2 (z ▸ h3)
 refine ⟨upd B p ob,⟨?_,R.sB.trans e,R.sH,?_,R.len,?_,R.dist,R.jl,R.fx,R.ioN,(fun q xs h=>e _ _ (R.cC q xs h)),R.exv,R.nz⟩,?_,e,fun q hq=>aq fun z=>hq (z ▸ rfl)⟩
 ·intro q u hq
  by_cases z:q=p
  ·subst z; rw [az] at hq; cases hq; exact hp
  ·rw [aq z] at hq; exact R.sub q u hq
 ·intro q h1 h2
  have z:q≠p:=fun z=>h1 (z ▸ hF)
  rw [aq z]; exact R.nB q h1 h2
 ·intro i s hs
  have q:=R.slot i s hs
  cases s with
  | no=>trivial
  | ex=>trivial
  | fz d=>obtain ⟨x,h1,h2⟩:=q; exact ⟨x,h1,h2.mono e⟩
  | own d=>obtain ⟨q,h1,h2,h3⟩:=q; exact ⟨q,h1,by rw [aq (ne i _ q hs rfl h1)]; exact h2,h3.mono e fun _ z=>z⟩
  | io d=>obtain ⟨q,h1,h2,h3⟩:=q; exact ⟨q,h1,by rw [aq (ne i _ q hs rfl h1)]; exact h2,h3.mono e fun _ z=>z⟩
  | ro d=>obtain ⟨q,h1,h3⟩:=q; exact ⟨q,h1,h3.mono e fun _ z=>z⟩
 ·exact o.frozen e fun u h=>by rw [az,← h,hp]
theorem get_set {i j:Nat} {s t:Sl} (h:(ρ.set i s)[j]?=some t):(j=i∧t=s∧i < ρ.length)∨(j≠i∧ρ[j]?=some t):=by
 by_cases z:j=i
 ·subst z
  have hl:j < ρ.length:=by
   have:=List.getElem?_eq_some_iff.mp h
   obtain ⟨hh,_⟩:=this
   simpa using hh
  rw [List.getElem?_set_self hl] at h
  exact .inl ⟨rfl,(Option.some.inj h).symm,hl⟩
 ·rw [List.getElem?_set_ne (fun e=>z e.symm)] at h
  exact .inr ⟨z,h⟩
theorem sU {ρ:Rho} {i j:Nat} {s:Sl} (hs:s≠.ex) (h:(ρ.set i s)[j]?=some .ex) : ρ[j]?=some .ex∧j≠i:=by
 rcases get_set h with ⟨_,z,_⟩ | ⟨hj,h⟩
 ·exact absurd z.symm hs
 ·exact ⟨h,hj⟩
theorem Rel.Be (R:Rel F B H σ ρ) {i:Nat} {d:D} (hi : ρ[i]?=some (.own d)) (hv : σ[i]?=some (some v)):∃ B',Rel F B' H σ (ρ.set i (.fz d))∧Rep B' v d∧Ext σ ρ B H (ρ.set i (.fz d)) B' H:=by
 obtain ⟨p,h1,hB,o⟩:=R.slot i _ hi
 rw [hv] at h1
 cases h1
 have hF:=R.jl i d p hi hv
 obtain ⟨ob,hp⟩:=o.there
 have e:aC B (upd B p ob):=eG hB
 have rp:Rep (upd B p ob) (.ref p) d:=o.frozen e fun u h=>by rw [az,← h,hp]
 have ne:∀ (j:Nat) (s:Sl) (q:Addr),j≠i->ρ[j]?=some s->s.isRef=true->σ[j]?=some (some (.ref q))->q≠p:=fun j s q hj h1 h2 h3 z=>hj (R.dist i j _ s p hi rfl h1 h2 hv (z ▸ h3)).symm
 refine ⟨upd B p ob,⟨?_,R.sB.trans e,R.sH,?_,by rw [List.length_set]; exact R.len,?_,?_,?_,?_,?_,(fun q xs h=>e _ _ (R.cC q xs h)),(fun j h=>R.exv j (sU (by simp) h).1),R.nz⟩,rp,⟨e,?_,?_,?_,fun _ h=>h⟩⟩
 ·intro q u hq
  by_cases z:q=p
  ·subst z; rw [az] at hq; cases hq; exact hp
  ·rw [aq z] at hq; exact R.sub q u hq
 ·intro q h1 h2
  have z:q≠p:=fun z=>h1 (z ▸ hF)
  rw [aq z]; exact R.nB q h1 h2
 ·intro j s hs
  rcases get_set hs with ⟨rfl,rfl,_⟩ | ⟨hj,hs⟩
  ·exact ⟨_,hv,rp⟩
  ·have q:=R.slot j s hs
   cases s with
   | no=>trivial
   | ex=>trivial
   | fz d=>obtain ⟨x,h1,h2⟩:=q; exact ⟨x,h1,h2.mono e⟩
   | own d=>obtain ⟨q,h1,h2,h3⟩:=q; exact ⟨q,h1,by rw [aq (ne j _ q hj hs rfl h1)]; exact h2,h3.mono e fun _ z=>z⟩
   | io d=>obtain ⟨q,h1,h2,h3⟩:=q; exact ⟨q,h1,by rw [aq (ne j _ q hj hs rfl h1)]; exact h2,h3.mono e fun _ z=>z⟩
   | ro d=>obtain ⟨q,h1,h3⟩:=q; exact ⟨q,h1,h3.mono e fun _ z=>z⟩
 ·intro a b s t q h1 h2 h3 h4 h5 h6
  rcases get_set h1 with ⟨rfl,rfl,_⟩ | ⟨ha,h1⟩
  ·cases h2
  ·rcases get_set h3 with ⟨rfl,rfl,_⟩ | ⟨hb,h3⟩
   ·cases h4
   ·exact R.dist a b s t q h1 h2 h3 h4 h5 h6
 ·intro j c q h1 h2
  rcases get_set h1 with ⟨rfl,h,_⟩ | ⟨_,h1⟩
  ·cases h
  ·exact R.jl j c q h1 h2
 ·intro x hx
  obtain ⟨h1,c,h2⟩:=R.fx x hx
  refine ⟨h1,c,?_⟩
  by_cases z:i=x.1
  ·subst z; rw [hi] at h2; cases h2
  ·rw [List.getElem?_set_ne z]; exact h2
 ·intro j c h1
  rcases get_set h1 with ⟨rfl,h,_⟩ | ⟨_,h1⟩
  ·cases h
  ·exact R.ioN j c h1
 ·intro q u hq hn
  refine ⟨hq,fun z=>?_⟩
  rw [aq (show q≠p from fun y=>hn i _ hi rfl (by rw [y]; exact hv))]; exact z
 ·intro j s h1 h2
  rcases get_set h1 with ⟨rfl,rfl,_⟩ | ⟨_,h1⟩
  ·cases h2
  ·exact ⟨s,h1,h2⟩
 ·intro j s h1 h2
  rcases get_set h1 with ⟨rfl,rfl,_⟩ | ⟨_,h1⟩
  ·cases h2
  ·exact ⟨s,h1,h2⟩
theorem Rel.free (R:Rel F B H σ ρ) {p:Addr} (hp:H p=none):B p=none∧F.H p=none∧∀ (i:Nat) (s:Sl),ρ[i]?=some s->s.isRef=true->σ[i]?≠some (some (.ref p)):=by
 have hB:B p=none:=R.sub.free hp
 have nn:∀ (i:Nat) (s:Sl),ρ[i]?=some s->s.isRef=true->σ[i]?≠some (some (.ref p)):=fun i s h1 h2 h3=>by
  have q:=R.slot i s h1
  cases s with
  | own d=>obtain ⟨q,e1,_,e3⟩:=q; rw [h3] at e1; cases e1; exact e3.jz hp
  | io d=>obtain ⟨q,e1,_,e3⟩:=q; rw [h3] at e1; cases e1; exact e3.jz hp
  | ro d=>obtain ⟨q,e1,e3⟩:=q; rw [h3] at e1; cases e1; exact e3.jz hp
  | no=>cases h2
  | ex=>cases h2
  | fz d=>cases h2
 refine ⟨hB,?_,nn⟩
 cases q:F.H p with
 | none=>rfl
 | some u =>
  by_cases z:∃ x∈F.io,x.2=p
  ·obtain ⟨x,hx,rfl⟩:=z
   obtain ⟨h1,d,h2⟩:=R.fx x hx
   exact absurd h1 (nn _ _ h2 rfl)
  ·have:=R.sH p u q fun x hx y=>z ⟨x,hx,y⟩
   rw [hp] at this; cases this
theorem Rel.grow (R:Rel F B H σ ρ) (eB:aC B B') (eH:aC H H') (sub:aC B' H') (nb:∀ q,H q≠none->B q=none->B' q=none) (tB:∀ q xs,H' q=some (.tup xs)->B' q=some (.tup xs)) (nf:∀ q o u,H' q=some (.frz o u)->H q≠none):Rel F B' H' σ ρ:=by
 have lv:∀ q,F.H q≠none->H q≠none:=fun q h z=>h (R.free z).2.1
 refine ⟨sub,R.sB.trans eB,fun q u h1 h2=>eH _ _ (R.sH q u h1 h2),fun q h1 h2=>nb q (lv q h1) (R.nB q h1 h2),R.len,fun i s hs=>?_,R.dist,R.jl,R.fx,R.ioN,tB,R.exv,fun q o u h=>by
  cases y:H q with
  | none=>exact absurd y (nf q o u h)
  | some x =>
   have:=eH q x y
   rw [h] at this
   cases this
   exact R.nz q o u y⟩
 have q:=R.slot i s hs
 cases s with
 | no=>trivial
 | ex=>trivial
 | fz d=>obtain ⟨x,h1,h2⟩:=q; exact ⟨x,h1,h2.mono eB⟩
 | own d=>obtain ⟨q,h1,h2,h3⟩:=q; exact ⟨q,h1,nb q h3.jz h2,h3.mono eB fun _ z=>eH _ _ z⟩
 | io d=>obtain ⟨q,h1,h2,h3⟩:=q; exact ⟨q,h1,nb q h3.jz h2,h3.mono eB fun _ z=>eH _ _ z⟩
 | ro d=>obtain ⟨q,h1,h3⟩:=q; exact ⟨q,h1,h3.mono eB fun _ z=>eH _ _ z⟩
theorem Ext.grow (eB:aC B B') (eH:aC H H') (nb:∀ q,H q≠none->B q=none->B' q=none):Ext σ ρ B H ρ B' H' :=
 ⟨eB,fun q u h _=>⟨eH _ _ h,fun z=>nb q (by rw [h]; simp) z⟩,fun _ s h z=>⟨s,h,z⟩,fun _ s h z=>⟨s,h,z⟩,fun q h=>eH.free h⟩
theorem Rel.lay (R:Rel F B H σ ρ) {p:Addr} {o:HO} (hp:H p=none) (no:(∀ xs,o≠.tup xs)∧∀ a u,o≠.frz a u):Rel F B (upd H p o) σ ρ∧Ext σ ρ B H ρ B (upd H p o):=by
 have e:aC H (upd H p o):=eG hp
 refine ⟨R.grow (aC.refl _) e (R.sub.trans e) (fun _ _ z=>z) (fun q xs h=>?_) (fun q a u h y=>?_),Ext.grow (aC.refl _) e fun _ _ z=>z⟩
 ·by_cases z:q=p
  ·subst z; rw [az] at h; cases h; exact absurd rfl (no.1 xs)
  ·rw [aq z] at h; exact R.cC q xs h
 ·by_cases z:q=p
  ·subst z; rw [az] at h; cases h; exact no.2 _ _ rfl
  ·rw [aq z,y] at h; cases h
theorem Rel.qS (R:Rel F B H σ ρ) {p:Addr} {xs:List V} (hp:H p=none):Rel F (upd B p (.tup xs)) (upd H p (.tup xs)) σ ρ∧Ext σ ρ B H ρ (upd B p (.tup xs)) (upd H p (.tup xs))∧aC B (upd B p (.tup xs)):=by
 have hB:=(R.free hp).1
 have eH:aC H (upd H p (.tup xs)):=eG hp
 have eB:aC B (upd B p (.tup xs)):=eG hB
 have nb:∀ q,H q≠none->B q=none->upd B p (.tup xs) q=none:=fun q h z=>by rw [aq (show q≠p from fun y=>h (by rw [y]; exact hp))]; exact z
 refine ⟨R.grow eB eH (fun q u h=>?_) nb (fun q ys h=>?_) (fun q a u h y=>?_),Ext.grow eB eH nb,eB⟩
 ·by_cases z:q=p
  ·subst z; rw [az] at h ⊢; exact h
  ·rw [aq z] at h ⊢; exact R.sub q u h
 ·by_cases z:q=p
  ·subst z; rw [az] at h ⊢; exact h
  ·rw [aq z] at h ⊢; exact R.cC q ys h
 ·by_cases z:q=p
  ·subst z; rw [az] at h; cases h
  ·rw [aq z,y] at h; cases h
end
end Mir
namespace Mir
open PySem L2
variable [Zc]
abbrev PM:=Rho->Option (RV × Rho)
def ME (t:TE) (m:PM):Prop :=
 ∀ (F:Fr) (B H:Hp) (σ:St) (ρ:Rho) (r:RV) (ρ':Rho) (Q:VK),Rel F B H σ ρ->m ρ=some (r,ρ') ->
  (∀ v B' H',Ext σ ρ B H ρ' B' H'->Rel F B' H' σ ρ'->Val F B' H' σ ρ' v r->(∀ p,r.2=.new->v=.ref p->H p=none)->Q v H')->t σ H Q
def MT (t:TT) (m:Rho->Option (Bool × Rho)):Prop :=
 ∀ (F:Fr) (B H:Hp) (σ:St) (ρ:Rho) (b:Bool) (ρ':Rho) (Q:Bool->Hp->Prop),Rel F B H σ ρ->m ρ=some (b,ρ') ->
  (∀ B' H',Ext σ ρ B H ρ' B' H'->Rel F B' H' σ ρ'->Q b H')->t σ H Q
def Vl (F:Fr) (B H:Hp) (σ:St) (ρ:Rho):List V->List RV->Prop
 | [],[]=>True
 | v::vs,r::rs=>(Val F B H σ ρ v r∧r.2≠.new)∧Vl F B H σ ρ vs rs
 | _,_=>False
def MA (t:TA) (m:Rho->Option (List RV × Rho)):Prop :=
 ∀ (F:Fr) (B H:Hp) (σ:St) (ρ:Rho) (rs:List RV) (ρ':Rho) (Q:List V->Hp->Prop),Rel F B H σ ρ->m ρ=some (rs,ρ') ->
  (∀ vs B' H',Ext σ ρ B H ρ' B' H'->Rel F B' H' σ ρ'->Vl F B' H' σ ρ' vs rs->Q vs H')->t σ H Q
def sv (m:PM):PM:=fun ρ=>match m ρ with
 | some ((d,.new),ρ')=>some ((d,.fz),ρ')
 | x=>x
theorem kI {m:PM} {ρ ρ':Rho} {r:RV} (h:sv m ρ=some (r,ρ')):r.2≠.new:=by
 unfold sv at h
 split at h
 ·cases h; simp
 ·rename_i hx
  intro e
  obtain ⟨d,k⟩:=r
  cases (show k=.new from e)
  exact hx d ρ' h
theorem ME.sv {t:TE} {m:PM} (h:ME t m):ME t (sv m):=by
 intro F B H σ ρ r ρ' Q R e q
 unfold Mir.sv at e
 split at e
 ·rename_i d ρ1 e1
  cases e
  refine h F B H σ ρ _ _ Q R e1 fun v B' H' E R' V' N=>?_
  obtain ⟨B2,R2,rp,s2,k2⟩:=R'.rP V'
  refine q v B2 H' ⟨E.sB.trans s2,fun q o h1 h2=>?_,E.own,E.ref,E.live⟩ R2 rp (fun _ z=>by cases z)
  obtain ⟨h3,h4⟩:=E.keep q o h1 h2
  refine ⟨h3,fun z=>?_⟩
  rw [k2 q fun y=>by
   have:=N q rfl y
   rw [h1] at this; cases this]
  exact h4 z
 ·exact h F B H σ ρ r ρ' Q R e q
def mR (ρ:Rho) (r:RV):Option RV:=match r.2 with
 | .at i=>match ρ[i]? with
  | some (.own d)=>some (d,.at i)
  | some (.io d)=>some (d,.at i)
  | some (.fz d)=>some (d,.fz)
  | _=>none
 | _=>some r
section
variable {F:Fr} {B H B' H':Hp} {σ:St} {ρ ρ':Rho} {v:V} {r r':RV}
theorem Val.next (E:Ext σ ρ B H ρ' B' H') (R':Rel F B' H' σ ρ') (h:Val F B H σ ρ v r) (nn:r.2≠.new) (e:mR ρ' r=some r'):Val F B' H' σ ρ' v r'∧r'.2≠.new:=by
 obtain ⟨d,k⟩:=r
 cases k with
 | fz=>cases e; exact ⟨Rep.mono E.sB h,nn⟩
 | new=>exact absurd rfl nn
 | «at» i =>
  obtain ⟨s,h1,h2,h3,h4⟩:=h
  have e':(match ρ'[i]? with
   | some (.own d)=>some (d,Kd.at i)
   | some (.io d)=>some (d,Kd.at i)
   | some (.fz d)=>some (d,Kd.fz)
   | _=>none)=some r':=e
  cases q : ρ'[i]? with
  | none=>rw [q] at e'; cases e'
  | some s' =>
   rw [q] at e'
   cases s' with
   | own c=>cases e'; exact ⟨⟨_,q,rfl,rfl,h4⟩,by simp⟩
   | io c=>cases e'; exact ⟨⟨_,q,rfl,rfl,h4⟩,by simp⟩
   | fz c =>
    cases e'
    obtain ⟨x,y1,y2⟩:=R'.slot i _ q
    rw [h4] at y1; cases y1
    exact ⟨y2,by simp⟩
   | no=>cases e'
   | ex=>cases e'
   | ro c=>cases e'
 | ro =>
  cases e
  obtain ⟨p,rfl,o,n⟩:=h
  obtain ⟨ob,hp⟩:=o.there
  refine ⟨⟨p,rfl,o.mono E.sB fun u hu=>(E.keep p u hu n).1,fun i s h1 h2=>?_⟩,nn⟩
  obtain ⟨s0,h3,h4⟩:=E.own i s h1 h2
  exact n i s0 h3 h4
end
def nR (B H:Hp) (res:D × Bool) (k:VK->Prop):Prop:=match res with
 | (d,false)=>∃ v,Rep B v d∧∀ Q:VK,Q v H->k Q
 | (.list ds,true)=>∃ vs,aP B vs ds∧∀ Q:VK,(∀ p,H p=none->Q (.ref p) (upd H p (.lst vs)))->k Q
 | (.tuple ds,true)=>∃ vs,aP B vs ds∧∀ Q:VK,(∀ p,H p=none->Q (.ref p) (upd H p (.tup vs)))->k Q
 | (.dict es,true)=>∃ kvs,bx B kvs es∧∀ Q:VK,(∀ p,H p=none->Q (.ref p) (upd H p (.dK kvs)))->k Q
 | _=>False
def j5:D × Bool->RV
 | (d,false)=>(d,.fz)
 | (.tuple ds,true)=>(.tuple ds,.fz)
 | (d,true)=>(d,.new)
theorem gg {F:Fr} {B H:Hp} {σ:St} {ρ:Rho} {res:D × Bool} {k:VK->Prop} {Q:VK} (R:Rel F B H σ ρ) (h:nR B H res k)
  (q:∀ v B' H',Ext σ ρ B H ρ B' H'->Rel F B' H' σ ρ->Val F B' H' σ ρ v (j5 res)->(∀ p,(j5 res).2=.new->v=.ref p->H p=none)->Q v H'):k Q:=by
 obtain ⟨d,b⟩:=res
 cases b with
 | false =>
  obtain ⟨v,rp,hk⟩:=h
  exact hk Q (q v B H (Ext.refl _ _ _ _) R rp fun p z=>by cases z)
 | true =>
  cases d with
  | list ds =>
   obtain ⟨vs,rp,hk⟩:=h
   refine hk Q fun p hp=>?_
   obtain ⟨R',E⟩:=R.lay (o:=.lst vs) hp ⟨(fun _ z=>by cases z),fun _ _ z=>by cases z⟩
   obtain ⟨hB,hF,nn⟩:=R.free hp
   exact q _ B _ E R' ⟨p,rfl,hB,hF,.lst az rp,nn⟩ fun q _ z=>by cases z; exact hp
  | dict es =>
   obtain ⟨kvs,rp,hk⟩:=h
   refine hk Q fun p hp=>?_
   obtain ⟨R',E⟩:=R.lay (o:=.dK kvs) hp ⟨(fun _ z=>by cases z),fun _ _ z=>by cases z⟩
   obtain ⟨hB,hF,nn⟩:=R.free hp
   exact q _ B _ E R' ⟨p,rfl,hB,hF,.dct az rp,nn⟩ fun q _ z=>by cases z; exact hp
  | tuple ds =>
   obtain ⟨vs,rp,hk⟩:=h
   refine hk Q fun p hp=>?_
   obtain ⟨R',E,e⟩:=R.qS (xs:=vs) hp
   exact q _ _ _ E R' (show Rep _ _ _ from .tup az (rp.mono e)) fun q z=>by cases z
  | none=>exact h.elim
  | bool _=>exact h.elim
  | int _=>exact h.elim
  | str _=>exact h.elim
def mC (d:D):PM:=fun ρ=>some ((d,.fz),ρ)
theorem DF {v:V} {d:D} (h:∀ B,Rep B v d):ME (tC v) (mC d):=by
 intro F B H σ ρ r ρ' Q R e q
 cases e
 exact q v B H (Ext.refl _ _ _ _) R (h B) fun p z=>by cases z
theorem ay {i:Int}:ME (tC (.int i)) (mC (.int i)):=DF fun _=>.int i
theorem cP {b:Bool}:ME (tC (.bl b)) (mC (.bool b)):=DF fun _=>.bl b
theorem gA:ME (tC .non) (mC .none):=DF fun _=>.non
theorem et {x:Str}:ME (tC (.str x)) (mC (.str x)):=DF fun _=>.str x
def ai (i:Nat):PM:=fun ρ=>match ρ[i]? with
 | some (.fz d)=>some ((d,.fz),ρ)
 | some (.own d)=>some ((d,.at i),ρ)
 | some (.io d)=>some ((d,.at i),ρ)
 | some (.ro d)=>some ((d,.ro),ρ)
 | _=>none
theorem ae {i:Nat}:ME (lz i) (ai i):=by
 intro F B H σ ρ r ρ' Q R e q
 unfold ai at e
 cases hs : ρ[i]? with
 | none=>rw [hs] at e; cases e
 | some s =>
  rw [hs] at e
  have sl:=R.slot i s hs
  cases s with
  | no=>cases e
  | ex=>cases e
  | fz d =>
   cases e
   obtain ⟨v,h1,h2⟩:=sl
   exact ⟨v,h1,q v B H (Ext.refl _ _ _ _) R h2 fun p z=>by cases z⟩
  | own d =>
   cases e
   obtain ⟨p,h1,h2,h3⟩:=sl
   exact ⟨_,h1,q _ B H (Ext.refl _ _ _ _) R ⟨_,hs,rfl,rfl,h1⟩ fun p z=>by cases z⟩
  | io d =>
   cases e
   obtain ⟨p,h1,h2,h3⟩:=sl
   exact ⟨_,h1,q _ B H (Ext.refl _ _ _ _) R ⟨_,hs,rfl,rfl,h1⟩ fun p z=>by cases z⟩
  | ro d =>
   cases e
   obtain ⟨p,h1,h3⟩:=sl
   refine ⟨_,h1,q _ B H (Ext.refl _ _ _ _) R ⟨p,rfl,h3,fun j s h4 h5 h6=>?_⟩ fun p z=>by cases z⟩
   have:=R.dist j i s _ p h4 h5 hs rfl h6 h1
   subst this
   rw [hs] at h4; cases h4; cases h5
def OpJ (r:R2) (g:D->D->Option (D × Bool)):Prop :=
 ∀ (B H:Hp) (x y:V) (c d:D) (res:D × Bool),aC B H->View B H x c->View B H y d->g c d=some res->nR B H res fun Q=>r x y H Q
def mOp (g:D->D->Option (D × Bool)) (a b:PM):PM:=fun ρ=>(sv a ρ).bind fun x=>(sv b x.2).bind fun y=>(mR y.2 x.1).bind fun r=>(g r.1 y.1.1).map fun res=>(j5 res,y.2)
theorem ar {r:R2} {g:D->D->Option (D × Bool)} {ta tb:TE} {a b:PM} (J:OpJ r g) (ha:ME ta a) (hb:ME tb b):ME (tOp r ta tb) (mOp g a b):=by
 intro F B H σ ρ r0 ρ' Q R e q
 obtain ⟨x,e1,e⟩:=Option.bind_eq_some_iff.mp e
 obtain ⟨y,e2,e⟩:=Option.bind_eq_some_iff.mp e
 obtain ⟨r',e3,e⟩:=Option.bind_eq_some_iff.mp e
 obtain ⟨res,e4,e⟩:=Option.map_eq_some_iff.mp e
 cases e
 refine ha.sv F B H σ ρ x.1 x.2 _ R e1 fun v B1 H1 E1 R1 V1 N1=>?_
 refine hb.sv F B1 H1 σ x.2 y.1 y.2 _ R1 e2 fun u B2 H2 E2 R2 V2 N2=>?_
 obtain ⟨V3,n3⟩:=V1.next E2 R2 (kI e1) e3
 refine gg R2 (J B2 H2 v u r'.1 y.1.1 res R2.sub (V3.view R2) (V2.view R2) e4) fun w B3 H3 E3 R3 V4 N4=>?_
 refine q w B3 H3 (E1.trans (E2.trans E3)) R3 V4 fun p z1 z2=>?_
 exact E1.live p (E2.live p (N4 p z1 z2))
end Mir
namespace Mir
open PySem L2
variable [Zc]
theorem Ext.fresh {σ:St} {ρ ρ':Rho} {B H B' H':Hp} (E:Ext σ ρ B H ρ' B' H') {p:Addr} (h:H' p=none):H p=none:=E.live p h
def UnJ (r:V->Hp->VK->Prop) (g:D->Option (D × Bool)):Prop:=∀ (B H:Hp) (x:V) (c:D) (res:D × Bool),aC B H->View B H x c->g c=some res->nR B H res fun Q=>r x H Q
def mUn (g:D->Option (D × Bool)) (a:PM):PM:=fun ρ=>(sv a ρ).bind fun x=>(g x.1.1).map fun res=>(j5 res,x.2)
theorem Im {r:V->Hp->VK->Prop} {g:D->Option (D × Bool)} {ta:TE} {a:PM} (J:UnJ r g) (ha:ME ta a):ME (tUn r ta) (mUn g a):=by
 intro F B H σ ρ r0 ρ' Q R e q
 obtain ⟨x,e1,e⟩:=Option.bind_eq_some_iff.mp e
 obtain ⟨res,e4,e⟩:=Option.map_eq_some_iff.mp e
 cases e
 refine ha.sv F B H σ ρ x.1 x.2 _ R e1 fun v B1 H1 E1 R1 V1 N1=>?_
 exact gg R1 (J B1 H1 v x.1.1 res R1.sub (V1.view R1) e4) fun w B3 H3 E3 R3 V4 N4=>q w B3 H3 (E1.trans E3) R3 V4 fun p z1 z2=>E1.live p (N4 p z1 z2)
def asB:RV × Rho->Option (Bool × Rho)
 | ((.bool b,_),ρ)=>some (b,ρ)
 | _=>none
theorem GK {x:RV × Rho} {b:Bool} {ρ:Rho} (h:asB x=some (b,ρ)):x.1.1=.bool b∧x.2=ρ:=by
 obtain ⟨⟨d,k⟩,ρ0⟩:=x
 cases d with
 | bool c=>cases h; exact ⟨rfl,rfl⟩
 | _=>cases h
def aF (a:PM):Rho->Option (Bool × Rho):=fun ρ=>(sv a ρ).bind asB
theorem aX {ta:TE} {a:PM} (ha:ME ta a):MT (Fj ta) (aF a):=by
 intro F B H σ ρ b ρ' Q R e q
 obtain ⟨x,e1,e⟩:=Option.bind_eq_some_iff.mp e
 obtain ⟨h1,h2⟩:=GK e
 refine ha.sv F B H σ ρ x.1 x.2 _ R e1 fun v B1 H1 E1 R1 V1 N1=>?_
 have:=V1.view R1
 rw [h1] at this
 rw [h2] at E1 R1
 exact ⟨b,this.bool,q B1 H1 E1 R1⟩
theorem fQ {ta:TE} {a:PM} (ha:ME ta a):MT (tB ta) (aF a):=aX ha
def lC (a b:Rho->Option (Bool × Rho)):Rho->Option (Bool × Rho):=fun ρ=>(a ρ).bind fun x=>if x.1=true then b x.2 else some (false,x.2)
def mOr (a b:Rho->Option (Bool × Rho)):Rho->Option (Bool × Rho):=fun ρ=>(a ρ).bind fun x=>if x.1=true then some (true,x.2) else b x.2
def gP (a:Rho->Option (Bool × Rho)):Rho->Option (Bool × Rho):=fun ρ=>(a ρ).map fun x=>(!x.1,x.2)
section
variable {ta tb:TT} {a b:Rho->Option (Bool × Rho)}
theorem xf (ha:MT ta a) (hb:MT tb b):MT (HU ta tb) (lC a b):=by
 intro F B H σ ρ c ρ' Q R e q
 obtain ⟨x,e1,e⟩:=Option.bind_eq_some_iff.mp e
 refine ha F B H σ ρ x.1 x.2 _ R e1 fun B1 H1 E1 R1=>?_
 by_cases h:x.1=true
 ·rw [if_pos h] at e ⊢
  exact hb F B1 H1 σ x.2 c ρ' Q R1 e fun B2 H2 E2 R2=>q B2 H2 (E1.trans E2) R2
 ·rw [if_neg h] at e ⊢
  cases e
  exact q B1 H1 E1 R1
theorem ia (ha:MT ta a) (hb:MT tb b):MT (tOr ta tb) (mOr a b):=by
 intro F B H σ ρ c ρ' Q R e q
 obtain ⟨x,e1,e⟩:=Option.bind_eq_some_iff.mp e
 refine ha F B H σ ρ x.1 x.2 _ R e1 fun B1 H1 E1 R1=>?_
 by_cases h:x.1=true
 ·rw [if_pos h] at e ⊢
  cases e
  exact q B1 H1 E1 R1
 ·rw [if_neg h] at e ⊢
  exact hb F B1 H1 σ x.2 c ρ' Q R1 e fun B2 H2 E2 R2=>q B2 H2 (E1.trans E2) R2
theorem gB (ha:MT ta a):MT (HV ta) (gP a):=by
 intro F B H σ ρ c ρ' Q R e q
 obtain ⟨x,e1,e⟩:=Option.map_eq_some_iff.mp e
 cases e
 exact ha F B H σ ρ x.1 x.2 _ R e1 fun B1 H1 E1 R1=>q B1 H1 E1 R1
end
section
variable {ta tb:TE} {a b:PM}
def Io (a b:PM):PM:=fun ρ=>(aF a ρ).bind fun x=>if x.1=true then b x.2 else some ((.bool false,.fz),x.2)
def JO (a b:PM):PM:=fun ρ=>(aF a ρ).bind fun x=>if x.1=true then some ((.bool true,.fz),x.2) else b x.2
def Ip (a:PM):PM:=fun ρ=>(aF a ρ).map fun x=>((.bool !x.1,.fz),x.2)
def JP (c:Rho->Option (Bool × Rho)) (a b:PM):PM:=fun ρ=>(c ρ).bind fun x=>if x.1=true then a x.2 else b x.2
end
def aD:Rho->Option (List RV × Rho):=fun ρ=>some ([],ρ)
def ah (a:PM) (m:Rho->Option (List RV × Rho)):Rho->Option (List RV × Rho):=fun ρ=>(sv a ρ).bind fun x=>(m x.2).bind fun y=>(mR y.2 x.1).map fun r=>(r::y.1,y.2)
theorem aA:MA w9 aD:=by
 intro F B H σ ρ rs ρ' Q R e q
 cases e
 exact q [] B H (Ext.refl _ _ _ _) R trivial
theorem af {ta:TE} {tr:TA} {a:PM} {m:Rho->Option (List RV × Rho)} (ha:ME ta a) (hr:MA tr m):MA (hE ta tr) (ah a m):=by
 intro F B H σ ρ rs ρ' Q R e q
 obtain ⟨x,e1,e⟩:=Option.bind_eq_some_iff.mp e
 obtain ⟨y,e2,e⟩:=Option.bind_eq_some_iff.mp e
 obtain ⟨r,e3,e⟩:=Option.map_eq_some_iff.mp e
 cases e
 refine ha.sv F B H σ ρ x.1 x.2 _ R e1 fun v B1 H1 E1 R1 V1 N1=>?_
 refine hr F B1 H1 σ x.2 y.1 y.2 _ R1 e2 fun vs B2 H2 E2 R2 V2=>?_
 exact q (v::vs) B2 H2 (E1.trans E2) R2 ⟨V1.next E2 R2 (kI e1) e3,V2⟩
def zL (B:Hp) (σ:St) (v:V) (r:RV):Prop:=match r.2 with
 | .fz=>Rep B v r.1
 | .at i=>σ[i]?=some (some v)
 | _=>True
def WVl (B:Hp) (σ:St):List V->List RV->Prop
 | [],[]=>True
 | v::vs,r::rs=>zL B σ v r∧WVl B σ vs rs
 | _,_=>False
theorem Vl.weak {F:Fr} {B H:Hp} {σ:St} {ρ:Rho}:∀ {vs:List V} {rs:List RV},Vl F B H σ ρ vs rs->WVl B σ vs rs
 | [],[],_=>trivial
 | v::vs,r::rs,⟨⟨h,n⟩,t⟩=>by
  refine ⟨?_,Vl.weak t⟩
  obtain ⟨d,k⟩:=r
  cases k with
  | fz=>exact h
  | «at» i=>obtain ⟨_,_,_,_,e⟩:=h; exact e
  | new=>trivial
  | ro=>trivial
theorem WVl.mono {B B':Hp} {σ:St} (e:aC B B'):∀ {vs:List V} {rs:List RV},WVl B σ vs rs->WVl B' σ vs rs
 | [],[],_=>trivial
 | v::vs,r::rs,⟨h,t⟩=>by
  refine ⟨?_,WVl.mono e t⟩
  obtain ⟨d,k⟩:=r
  cases k with
  | fz=>exact Rep.mono e h
  | «at» i=>exact h
  | new=>trivial
  | ro=>trivial
def j6 (r:RV) (ρ:Rho):Option (D × Rho):=match r.2 with
 | .fz=>some (r.1,ρ)
 | .at i=>match ρ[i]? with
  | some (.own d)=>some (d,ρ.set i (.fz d))
  | some (.fz d)=>some (d,ρ)
  | _=>none
 | _=>none
def eZ:List RV->Rho->Option (List D × Rho)
 | [],ρ=>some ([],ρ)
 | r::rs,ρ=>(j6 r ρ).bind fun x=>(eZ rs x.2).map fun y=>(x.1::y.1,y.2)
section
variable {F:Fr} {B H:Hp} {σ:St} {ρ ρ':Rho}
theorem Rel.frz (R:Rel F B H σ ρ) {v:V} {r:RV} {d:D} (w:zL B σ v r) (e:j6 r ρ=some (d,ρ')):∃ B',Rel F B' H σ ρ'∧Rep B' v d∧Ext σ ρ B H ρ' B' H:=by
 obtain ⟨c,k⟩:=r
 cases k with
 | fz=>cases e; exact ⟨B,R,w,Ext.refl _ _ _ _⟩
 | new=>cases e
 | ro=>cases e
 | «at» i =>
  have e':(match ρ[i]? with
   | some (.own d)=>some (d,ρ.set i (.fz d))
   | some (.fz d)=>some (d,ρ)
   | _=>none)=some (d,ρ'):=e
  cases q : ρ[i]? with
  | none=>rw [q] at e'; cases e'
  | some s =>
   rw [q] at e'
   cases s with
   | own c=>cases e'; exact R.Be q w
   | fz c =>
    cases e'
    obtain ⟨x,h1,h2⟩:=R.slot i _ q
    have w' : σ[i]?=some (some v):=w
    rw [w'] at h1; cases h1
    exact ⟨B,R,h2,Ext.refl _ _ _ _⟩
   | no=>cases e'
   | ex=>cases e'
   | io c=>cases e'
   | ro c=>cases e'
theorem Rel.qT:∀ {rs:List RV} {vs:List V} {ds:List D} {B:Hp} {ρ ρ':Rho},Rel F B H σ ρ->WVl B σ vs rs->eZ rs ρ=some (ds,ρ')->∃ B',Rel F B' H σ ρ'∧aP B' vs ds∧Ext σ ρ B H ρ' B' H
 | [],[],ds,B,ρ,ρ',R,_,e=>by cases e; exact ⟨B,R,.nil,Ext.refl _ _ _ _⟩
 | r::rs,v::vs,ds,B,ρ,ρ',R,⟨w,ws⟩,e=>by
  obtain ⟨x,e1,e⟩:=Option.bind_eq_some_iff.mp e
  obtain ⟨y,e2,e⟩:=Option.map_eq_some_iff.mp e
  cases e
  obtain ⟨B1,R1,rp,E1⟩:=R.frz w e1
  obtain ⟨B2,R2,rps,E2⟩:=Rel.qT R1 (ws.mono E1.sB) e2
  exact ⟨B2,R2,.cons (rp.mono E2.sB) rps,E1.trans E2⟩
 | [],_::_,_,_,_,_,_,h,_=>h.elim
 | _::_,[],_,_,_,_,_,h,_=>h.elim
end
noncomputable def fm (m:Rho->Option (List RV × Rho)):PM:=fun ρ=>(m ρ).bind fun x=>(eZ x.1 x.2).bind fun y=>cIf (y.1.length≤sizeLine) (some ((.tuple y.1,.fz),y.2)) none
noncomputable def dn (m:Rho->Option (List RV × Rho)):PM:=fun ρ=>(m ρ).bind fun x=>(eZ x.1 x.2).bind fun y=>cIf (y.1.length≤sizeLine) (some ((.list y.1,.new),y.2)) none
theorem cZ {t:TA} {m:Rho->Option (List RV × Rho)} (h:MA t m):ME (Dp t) (fm m):=by
 intro F B H σ ρ r ρ' Q R e q
 obtain ⟨x,e1,e⟩:=Option.bind_eq_some_iff.mp e
 obtain ⟨y,e2,e⟩:=Option.bind_eq_some_iff.mp e
 obtain ⟨hz,e⟩:=cH e
 ·cases e
  refine h F B H σ ρ x.1 x.2 _ R e1 fun vs B1 H1 E1 R1 V1=>?_
  obtain ⟨B2,R2,rp,E2⟩:=Rel.qT R1 V1.weak e2
  refine ⟨by rw [rp.length]; exact hz,fun p hp=>?_⟩
  have:=gg (res:=(.tuple y.1,true)) (k:=fun Q=>∀ p,H1 p=none->Q (.ref p) (upd H1 p (.tup vs))) (Q:=Q) R2 ⟨vs,rp,fun Q h=>h⟩ fun v B' H' E R' V' N=>q v B' H' (E1.trans (E2.trans E)) R' V' fun p z=>by cases z
  exact this p hp
theorem dh {t:TA} {m:Rho->Option (List RV × Rho)} (h:MA t m):ME (Gj t) (dn m):=by
 intro F B H σ ρ r ρ' Q R e q
 obtain ⟨x,e1,e⟩:=Option.bind_eq_some_iff.mp e
 obtain ⟨y,e2,e⟩:=Option.bind_eq_some_iff.mp e
 obtain ⟨hz,e⟩:=cH e
 ·cases e
  refine h F B H σ ρ x.1 x.2 _ R e1 fun vs B1 H1 E1 R1 V1=>?_
  obtain ⟨B2,R2,rp,E2⟩:=Rel.qT R1 V1.weak e2
  refine ⟨by rw [rp.length]; exact hz,fun p hp=>?_⟩
  have:=gg (res:=(.list y.1,true)) (k:=fun Q=>∀ p,H1 p=none->Q (.ref p) (upd H1 p (.lst vs))) (Q:=Q) R2 ⟨vs,rp,fun Q h=>h⟩ fun v B' H' E R' V' N=>q v B' H' (E1.trans (E2.trans E)) R' V' fun p z1 z2=>E1.live p (N p z1 z2)
  exact this p hp
def Views (B H:Hp):List V->List D->Prop
 | [],[]=>True
 | v::vs,d::ds=>View B H v d∧Views B H vs ds
 | _,_=>False
theorem Vl.views {F:Fr} {B H:Hp} {σ:St} {ρ:Rho} (R:Rel F B H σ ρ):∀ {vs:List V} {rs:List RV},Vl F B H σ ρ vs rs->Views B H vs (rs.map (·.1))
 | [],[],_=>trivial
 | v::vs,r::rs,⟨⟨h,n⟩,t⟩=>⟨h.view R,Vl.views R t⟩
def lZ (r:List V->Hp->VK->Prop) (g:List D->Option (D × Bool)):Prop:=∀ (B H:Hp) (vs:List V) (ds:List D) (res:D × Bool),aC B H->Views B H vs ds->g ds=some res->nR B H res fun Q=>r vs H Q
def mCB (g:List D->Option (D × Bool)) (m:Rho->Option (List RV × Rho)):PM:=fun ρ=>(m ρ).bind fun x=>(g (x.1.map (·.1))).map fun res=>(j5 res,x.2)
theorem cF {r:List V->Hp->VK->Prop} {g:List D->Option (D × Bool)} {t:TA} {m:Rho->Option (List RV × Rho)} (J:lZ r g) (h:MA t m):ME (tCB r t) (mCB g m):=by
 intro F B H σ ρ r0 ρ' Q R e q
 obtain ⟨x,e1,e⟩:=Option.bind_eq_some_iff.mp e
 obtain ⟨res,e4,e⟩:=Option.map_eq_some_iff.mp e
 cases e
 refine h F B H σ ρ x.1 x.2 _ R e1 fun vs B1 H1 E1 R1 V1=>?_
 exact gg R1 (J B1 H1 vs _ res R1.sub (V1.views R1) e4) fun w B3 H3 E3 R3 V4 N4=>q w B3 H3 (E1.trans E3) R3 V4 fun p z1 z2=>E1.live p (N4 p z1 z2)
def jA:Rho->Option (Option Int × Rho):=fun ρ=>some (none,ρ)
def asI:RV × Rho->Option (Int × Rho)
 | ((.int i,_),ρ)=>some (i,ρ)
 | _=>none
theorem GL {x:RV × Rho} {b:Int} {ρ:Rho} (h:asI x=some (b,ρ)):x.1.1=.int b∧x.2=ρ:=by
 obtain ⟨⟨d,k⟩,ρ0⟩:=x
 cases d with
 | int c=>cases h; exact ⟨rfl,rfl⟩
 | _=>cases h
def gq (a:PM):Rho->Option (Option Int × Rho):=fun ρ=>((sv a ρ).bind asI).map fun x=>(some x.1,x.2)
def MO (t:TO) (m:Rho->Option (Option Int × Rho)):Prop :=
 ∀ (F:Fr) (B H:Hp) (σ:St) (ρ:Rho) (b:Option Int) (ρ':Rho) (Q:Option Int->Hp->Prop),Rel F B H σ ρ->m ρ=some (b,ρ') ->
  (∀ B' H',Ext σ ρ B H ρ' B' H'->Rel F B' H' σ ρ'->Q b H')->t σ H Q
theorem yw:MO ym jA:=by
 intro F B H σ ρ b ρ' Q R e q
 cases e
 exact q B H (Ext.refl _ _ _ _) R
theorem kJ {ta:TE} {a:PM} (ha:ME ta a):MO (Fl ta) (gq a):=by
 intro F B H σ ρ b ρ' Q R e q
 obtain ⟨y,e1,e⟩:=Option.map_eq_some_iff.mp e
 obtain ⟨x,e2,e3⟩:=Option.bind_eq_some_iff.mp e1
 cases e
 obtain ⟨h1,h2⟩:=GL (b:=y.1) (ρ:=y.2) e3
 refine ha.sv F B H σ ρ x.1 x.2 _ R e2 fun v B1 H1 E1 R1 V1 N1=>?_
 have:=V1.view R1
 rw [h1] at this
 rw [h2] at E1 R1
 exact ⟨y.1,this.int,q B1 H1 E1 R1⟩
def SlJ (r:V->Option Int->Option Int->Hp->VK->Prop) (g:D->Option Int->Option Int->Option (D × Bool)):Prop :=
 ∀ (B H:Hp) (x:V) (c:D) (l u:Option Int) (res:D × Bool),aC B H->View B H x c->g c l u=some res->nR B H res fun Q=>r x l u H Q
def mSl (g:D->Option Int->Option Int->Option (D × Bool)) (a:PM) (l u:Rho->Option (Option Int × Rho)):PM:=fun ρ=>(sv a ρ).bind fun x=>(l x.2).bind fun y=>(u y.2).bind fun z=>(mR z.2 x.1).bind fun r=>(g r.1 y.1 z.1).map fun res=>(j5 res,z.2)
theorem yx {r:V->Option Int->Option Int->Hp->VK->Prop} {g:D->Option Int->Option Int->Option (D × Bool)} {ta:TE} {tl tu:TO} {a:PM} {l u:Rho->Option (Option Int × Rho)} (J:SlJ r g) (ha:ME ta a) (hl:MO tl l) (hu:MO tu u):ME (tSl r ta tl tu) (mSl g a l u):=by
 intro F B H σ ρ r0 ρ' Q R e q
 obtain ⟨x,e1,e⟩:=Option.bind_eq_some_iff.mp e
 obtain ⟨y,e2,e⟩:=Option.bind_eq_some_iff.mp e
 obtain ⟨z,e3,e⟩:=Option.bind_eq_some_iff.mp e
 obtain ⟨r',e4,e⟩:=Option.bind_eq_some_iff.mp e
 obtain ⟨res,e5,e⟩:=Option.map_eq_some_iff.mp e
 cases e
 refine ha.sv F B H σ ρ x.1 x.2 _ R e1 fun v B1 H1 E1 R1 V1 N1=>?_
 refine hl F B1 H1 σ x.2 y.1 y.2 _ R1 e2 fun B2 H2 E2 R2=>?_
 refine hu F B2 H2 σ y.2 z.1 z.2 _ R2 e3 fun B3 H3 E3 R3=>?_
 obtain ⟨V3,n3⟩:=V1.next (E2.trans E3) R3 (kI e1) e4
 exact gg R3 (J B3 H3 v r'.1 y.1 z.1 res R3.sub (V3.view R3) e5) fun w B4 H4 E4 R4 V4 N4=>q w B4 H4 ((E1.trans (E2.trans E3)).trans E4) R4 V4 fun p z1 z2=>(E1.trans (E2.trans E3)).live p (N4 p z1 z2)
end Mir
namespace Mir
open PySem L2
variable [Zc]
mutual
def eI:D->Bool
 | .none=>true
 | .bool _=>true
 | .int _=>true
 | .str _=>true
 | .list _=>false
 | .tuple ds=>bI ds
 | .dict _=>false
def bI:List D->Bool
 | []=>true
 | d::ds=>eI d && bI ds
end
mutual
theorem Rep.dq {B B':Hp} (k:∀ q xs,B q=some (.tup xs)->B' q=some (.tup xs)):∀ {v:V} {d:D},Rep B v d->eI d=true->Rep B' v d
 | _,_,.non,_=>.non
 | _,_,.bl b,_=>.bl b
 | _,_,.int i,_=>.int i
 | _,_,.str x,_=>.str x
 | _,_,.lst _ _,h=>by simp [eI] at h
 | _,_,.dct _ _,h=>by simp [eI] at h
 | _,_,.tup h r,e=>.tup (k _ _ h) (aP.dq k r (by simpa [eI] using e))
theorem aP.dq {B B':Hp} (k:∀ q xs,B q=some (.tup xs)->B' q=some (.tup xs)):∀ {v:List V} {d:List D},aP B v d->bI d=true->aP B' v d
 | _,_,.nil,_=>.nil
 | _,_,.cons a b,e=>by
  simp only [bI,Bool.and_eq_true] at e
  exact .cons (Rep.dq k a e.1) (aP.dq k b e.2)
end
theorem bx.dq {B B':Hp} (k:∀ q xs,B q=some (.tup xs)->B' q=some (.tup xs)):∀ {v:List (Key × V)} {d:List (D × D)},bx B v d->bI (d.map (·.2))=true->bx B' v d
 | _,_,.nil,_=>.nil
 | _,_,.cons c a b,e=>by
  simp only [List.map_cons,bI,Bool.and_eq_true] at e
  exact .cons c (Rep.dq k a e.1) (bx.dq k b e.2)
def eJ (d:D) (o:Bool):Bool:=match o,d with
 | true,.list ds=>bI ds
 | true,.dict es=>bI (es.map (·.2))
 | true,_=>false
 | false,d=>eI d
structure Post (B H:Hp) (v:V) (B' H':Hp) (d:D) (o:Bool):Prop where
 eH:aC H H'
 eB:aC B B'
 sub:aC B' H'
 nb:∀ q,H q≠none->B q=none->B' q=none
 tB:∀ q xs,H' q=some (.tup xs)->B' q=some (.tup xs)
 nz:∀ q o u,H' q=some (.frz o u)->H q≠none
 val:if o=true then ∃ p,v=.ref p∧H p=none∧B' p=none∧Own B' H' p d else Rep B' v d
def spM (f:List D->Option (D × Bool)):Sp:=fun vs H Q _=>∃ B ds d o,aC B H∧(∀ q xs,H q=some (.tup xs)->B q=some (.tup xs))∧aP B vs ds∧f ds=some (d,o)∧∀ v B' H',Post B H v B' H' d o->Q v H'
def kO (d:D) (o:Bool):RV:=(d,if o=true then .new else .fz)
def bJ (f:List D->Option (D × Bool)) (m:Rho->Option (List RV × Rho)):PM:=fun ρ=>(m ρ).bind fun x=>(f (x.1.map (·.1))).bind fun w =>
 if eJ w.1 w.2=true then some (kO w.1 w.2,x.2) else (eZ x.1 x.2).map fun y=>(kO w.1 w.2,y.2)
theorem Views.reps {B H:Hp} (e:aC B H):∀ {vs:List V} {ds:List D},Views B H vs ds->aP H vs ds
 | [],[],_=>.nil
 | v::vs,d::ds,⟨h,t⟩=>.cons (h.rep e) (Views.reps e t)
theorem uS:∀ {rs:List RV} {ρ ρ':Rho} {ds:List D},(∀ r∈rs,∀ i,r.2=.at i->∃ s,ρ[i]?=some s∧slD s=r.1)->eZ rs ρ=some (ds,ρ')->ds=rs.map (·.1)
 | [],_,_,_,_,e=>by cases e; rfl
 | r::rs,ρ,ρ',ds,h,e=>by
  obtain ⟨x,e1,e⟩:=Option.bind_eq_some_iff.mp e
  obtain ⟨y,e2,e⟩:=Option.map_eq_some_iff.mp e
  cases e
  have hx:x.1=r.1∧∀ (i:Nat) (s:Sl),ρ[i]?=some s->∃ s',x.2[i]?=some s'∧slD s'=slD s:=by
   obtain ⟨d,k⟩:=r
   cases k with
   | fz=>cases e1; exact ⟨rfl,fun i s h=>⟨s,h,rfl⟩⟩
   | new=>cases e1
   | ro=>cases e1
   | «at» i =>
    obtain ⟨s,h1,h2⟩:=h (d,.at i) (by simp) i rfl
    have e':(match ρ[i]? with
     | some (.own d)=>some (d,ρ.set i (.fz d))
     | some (.fz d)=>some (d,ρ)
     | _=>none)=some x:=e1
    rw [h1] at e'
    cases s with
    | own c =>
     cases e'
     refine ⟨h2,fun j t hj=>?_⟩
     by_cases z:j=i
     ·subst z
      rw [h1] at hj; cases hj
      obtain ⟨hl,_⟩:=List.getElem?_eq_some_iff.mp h1
      exact ⟨.fz c,by rw [List.getElem?_set_self hl],rfl⟩
     ·exact ⟨t,by rw [List.getElem?_set_ne (fun e=>z e.symm)]; exact hj,rfl⟩
    | fz c=>cases e'; exact ⟨h2,fun i s h=>⟨s,h,rfl⟩⟩
    | no=>cases e'
    | ex=>cases e'
    | io c=>cases e'
    | ro c=>cases e'
  rw [List.map_cons,hx.1,uS (ρ:=x.2) (fun r hr i hi=>?_) e2]
  obtain ⟨s,h1,h2⟩:=h r (List.mem_cons_of_mem _ hr) i hi
  obtain ⟨s',h3,h4⟩:=hx.2 i s h1
  exact ⟨s',h3,h4.trans h2⟩
theorem Vl.at {F:Fr} {B H:Hp} {σ:St} {ρ:Rho}:∀ {vs:List V} {rs:List RV},Vl F B H σ ρ vs rs->∀ r∈rs,∀ i,r.2=.at i->∃ s,ρ[i]?=some s∧slD s=r.1
 | [],[],_,r',hr,i,hi=>by cases hr
 | v::vs,r::rs,⟨⟨h,_⟩,t⟩,r',hr,i,hi=>by
  rcases List.mem_cons.mp hr with rfl | hr
  ·obtain ⟨d,k⟩:=r'
   cases (show k=.at i from hi)
   obtain ⟨s,h1,_,h2,_⟩:=h
   exact ⟨s,h1,h2⟩
  ·exact Vl.at t r' hr i hi
theorem bO {f:List D->Option (D × Bool)} {E:XK} {t:TA} {m:Rho->Option (List RV × Rho)} (h:MA t m):ME (hI (spM f) [] E t) (bJ f m):=by
 intro F B H σ ρ r0 ρ' Q R e q
 obtain ⟨x,e1,e⟩:=Option.bind_eq_some_iff.mp e
 obtain ⟨w,e2,e⟩:=Option.bind_eq_some_iff.mp e
 refine h F B H σ ρ x.1 x.2 _ R e1 fun vs B1 H1 E1 R1 V1=>?_
 rw [List.append_nil]
 by_cases hp:eJ w.1 w.2=true
 ·rw [if_pos hp] at e
  cases e
  refine ⟨H1,_,w.1,w.2,aC.refl _,fun _ _ z=>z,(V1.views R1).reps R1.sub,e2,fun v B' H' P=>?_⟩
  let B2:Hp:=fun q=>if H1 q=none then B' q else B1 q
  have old:∀ q,H1 q≠none->B2 q=B1 q:=fun q z=>if_neg z
  have new:∀ q,H1 q=none->B2 q=B' q:=fun q z=>if_pos z
  have eB:aC B1 B2:=fun q o z=>by rw [old q (by rw [R1.sub q o z]; simp)]; exact z
  have sub:aC B2 H':=fun q o z=>by
   by_cases y:H1 q=none
   ·rw [new q y] at z; exact P.sub q o z
   ·rw [old q y] at z; exact P.eH q o (R1.sub q o z)
  have nb:∀ q,H1 q≠none->B1 q=none->B2 q=none:=fun q y z=>by rw [old q y]; exact z
  have tB:∀ q xs,H' q=some (.tup xs)->B2 q=some (.tup xs):=fun q xs z=>by
   cases y:H1 q with
   | none=>rw [new q y]; exact P.tB q xs z
   | some o =>
    have:=P.eH q o y
    rw [z] at this
    cases this
    rw [old q (by rw [y]; simp)]; exact R1.cC q xs y
  have kt:∀ q xs,B' q=some (.tup xs)->B2 q=some (.tup xs):=fun q xs z=>tB q xs (P.sub q _ z)
  have R2:=R1.grow eB P.eH sub nb tB P.nz
  have E2:Ext σ x.2 B1 H1 x.2 B2 H':=Ext.grow eB P.eH nb
  obtain ⟨d,o⟩:=w
  cases o with
  | false =>
   have pv:Rep B' v d:=P.val
   exact q v B2 H' (E1.trans E2) R2 (show Rep B2 v d from pv.dq kt hp) fun p z=>by cases z
  | true =>
   obtain ⟨p,rfl,h1,h2,h3⟩:∃ p,v=.ref p∧H1 p=none∧B' p=none∧Own B' H' p d:=P.val
   have fr:=R1.free h1
   refine q _ B2 H' (E1.trans E2) R2 ⟨p,rfl,by rw [new p h1]; exact h2,fr.2.1,?_,fr.2.2⟩ fun p' _ z=>by cases z; exact E1.live p h1
   cases h3 with
   | lst h r=>exact .lst h (r.dq kt hp)
   | dct h r=>exact .dct h (r.dq kt hp)
 ·rw [if_neg hp] at e
  obtain ⟨y,e3,e⟩:=Option.map_eq_some_iff.mp e
  cases e
  obtain ⟨B2,R2,rp,E2⟩:=Rel.qT R1 V1.weak e3
  have hd:=uS V1.at e3
  rw [hd] at rp
  refine ⟨B2,_,w.1,w.2,R2.sub,R2.cC,rp,e2,fun v B' H' P=>?_⟩
  have R3:=R2.grow P.eB P.eH P.sub P.nb P.tB P.nz
  have E3:Ext σ y.2 B2 H1 y.2 B' H':=Ext.grow P.eB P.eH P.nb
  obtain ⟨d,o⟩:=w
  cases o with
  | false =>
   have pv:Rep B' v d:=P.val
   exact q v B' H' (E1.trans (E2.trans E3)) R3 pv fun p z=>by cases z
  | true =>
   obtain ⟨p,rfl,h1,h2,h3⟩:∃ p,v=.ref p∧H1 p=none∧B' p=none∧Own B' H' p d:=P.val
   have fr:=R2.free h1
   exact q _ B' H' (E1.trans (E2.trans E3)) R3 ⟨p,rfl,h2,fr.2.1,h3,fr.2.2⟩ fun p' _ z=>by cases z; exact E1.live p h1
def yy (B H:Hp) (x:V) (H':Hp) (d:D):Prop:=(H'=H∧Rep B x d)∨∃ p xs cs,d=.tuple cs∧x=.ref p∧H p=none∧H'=upd H p (.tup xs)∧aP B xs cs
def l4 (G B:Hp) (J:It) (ds:List D):Prop:=∀ H,aC G H->J.stop ds.length H∧∀ (i:Nat) (d:D),ds[i]?=some d->J.go i H∧∀ x H',J.yld i H x H'->yy B H x H' d
theorem l4.mono {G B B':Hp} {J:It} {ds:List D} (h:l4 G B J ds) (e:aC B B'):l4 G B' J ds:=fun H s=>⟨(h H s).1,fun i d hd=>⟨((h H s).2 i d hd).1,fun x H' y=>by
 rcases ((h H s).2 i d hd).2 x H' y with ⟨h1,h2⟩ | ⟨p,xs,cs,h1,h2,h3,h4,h5⟩
 ·exact .inl ⟨h1,h2.mono e⟩
 ·exact .inr ⟨p,xs,cs,h1,h2,h3,h4,h5.mono e⟩⟩⟩
def MI (t:TI) (m:Rho->Option (List D × Rho)):Prop :=
 ∀ (F:Fr) (B H:Hp) (σ:St) (ρ:Rho) (ds:List D) (ρ':Rho) (Q:It->Hp->Prop),Rel F B H σ ρ->m ρ=some (ds,ρ') ->
  (∀ J B' H',Ext σ ρ B H ρ' B' H'->Rel F B' H' σ ρ'->l4 H' B' J ds->Q J H')->t σ H Q
def MF (t:TI) (m:Rho->Option (List D × Rho)):Prop :=
 ∀ (F:Fr) (B H:Hp) (σ:St) (ρ:Rho) (ds:List D) (ρ':Rho) (Q:It->Hp->Prop),Rel F B H σ ρ->m ρ=some (ds,ρ') ->
  (∀ J B' H',Ext σ ρ B H ρ' B' H'->Rel F B' H' σ ρ'->l4 B' B' J ds->Q J H')->t σ H Q
theorem jU {K:PySem.W.Frag} {H:Hp} {p:Addr} {xs:List V} (h:Rd H p (.lst xs)):SqL K H p xs:=.inl h
theorem Bf {K:PySem.W.Frag} {G B:Hp} {p:Addr} {xs:List V} {ds:List D} (h:Rd G p (.lst xs)) (r:aP B xs ds):l4 G B (Itl K p) ds:=fun H s=>by
 have h':SqL K H p xs:=jU (d7 s h)
 refine ⟨⟨xs,h',by rw [r.length]; exact Nat.le_refl _⟩,fun i d hd=>?_⟩
 obtain ⟨x,h1,h2⟩:=r.get i d hd
 refine ⟨⟨xs,x,h',h1⟩,fun y H' hy=>.inl ⟨hy.1,?_⟩⟩
 have:=hy.2 xs h'
 rw [h1] at this
 cases this
 exact h2
theorem GN {K:PySem.W.Frag} {G B:Hp} {p:Addr} {xs:List V} {ds:List D} (h:G p=some (.tup xs)) (r:aP B xs ds):l4 G B (Itt K p) ds:=fun H s=>by
 have h':SqT K H p xs:=.inl (.inl (s _ _ h))
 refine ⟨⟨xs,h',by rw [r.length]; exact Nat.le_refl _⟩,fun i d hd=>?_⟩
 obtain ⟨x,h1,h2⟩:=r.get i d hd
 refine ⟨⟨xs,x,h',h1⟩,fun y H' hy=>.inl ⟨hy.1,?_⟩⟩
 have:=hy.2 xs h'
 rw [h1] at this
 cases this
 exact h2
def asL:D->Option (List D)
 | .list ds=>some ds
 | _=>none
def asT:D->Option (List D)
 | .tuple ds=>some ds
 | _=>none
theorem xg {d:D} {ds:List D} (h:asL d=some ds):d=.list ds:=by cases d <;> first | cases h; rfl | cases h
theorem GO {d:D} {ds:List D} (h:asT d=some ds):d=.tuple ds:=by cases d <;> first | cases h; rfl | cases h
def Bg (a:PM):Rho->Option (List D × Rho):=fun ρ=>(sv a ρ).bind fun x=>(asL x.1.1).map fun ds=>(ds,x.2)
def Bh (a:PM):Rho->Option (List D × Rho):=fun ρ=>(sv a ρ).bind fun x=>(asT x.1.1).map fun ds=>(ds,x.2)
def Bi (a:PM):Rho->Option (List D × Rho):=fun ρ=>(sv a ρ).bind fun x=>(j6 x.1 x.2).bind fun y=>(asL y.1).map fun ds=>(ds,y.2)
section
variable {K:PySem.W.Frag} {ta:TE} {a:PM}
theorem DG (ha:ME ta a):MI (uG K ta) (Bg a):=by
 intro F B H σ ρ ds ρ' Q R e q
 obtain ⟨x,e1,e⟩:=Option.bind_eq_some_iff.mp e
 obtain ⟨ds',e2,e⟩:=Option.map_eq_some_iff.mp e
 cases e
 refine ha.sv F B H σ ρ x.1 x.2 _ R e1 fun v B1 H1 E1 R1 V1 N1=>?_
 have w:=V1.view R1
 rw [xg e2] at w
 obtain ⟨p,xs,rfl,h1,h2⟩:=w.list R1.sub
 exact ⟨p,rfl,⟨xs,jU h1⟩,q _ B1 H1 E1 R1 (Bf h1 h2)⟩
theorem Bj (ha:ME ta a):MI (F7 K ta) (Bh a):=by
 intro F B H σ ρ ds ρ' Q R e q
 obtain ⟨x,e1,e⟩:=Option.bind_eq_some_iff.mp e
 obtain ⟨ds',e2,e⟩:=Option.map_eq_some_iff.mp e
 cases e
 refine ha.sv F B H σ ρ x.1 x.2 _ R e1 fun v B1 H1 E1 R1 V1 N1=>?_
 have w:=V1.view R1
 rw [GO e2] at w
 obtain ⟨p,xs,rfl,h1,h2⟩:=w.tuple R1.sub
 exact ⟨p,rfl,⟨xs,.inl (.inl h1)⟩,q _ B1 H1 E1 R1 (GN h1 h2)⟩
theorem DH (ha:ME ta a):MF (uG K ta) (Bi a):=by
 intro F B H σ ρ ds ρ' Q R e q
 obtain ⟨x,e1,e⟩:=Option.bind_eq_some_iff.mp e
 obtain ⟨y,e3,e⟩:=Option.bind_eq_some_iff.mp e
 obtain ⟨ds',e2,e⟩:=Option.map_eq_some_iff.mp e
 cases e
 refine ha.sv F B H σ ρ x.1 x.2 _ R e1 fun v B1 H1 E1 R1 V1 N1=>?_
 have w:zL B1 σ v x.1:=(Vl.weak (F:=F) (H:=H1) (ρ:=x.2) (vs:=[v]) (rs:=[x.1]) ⟨⟨V1,kI e1⟩,trivial⟩).1
 obtain ⟨B2,R2,rp,E2⟩:=R1.frz w e3
 rw [xg e2] at rp
 cases rp with
 | lst h r=>exact ⟨_,rfl,⟨_,jU (d7 R2.sub h)⟩,q _ B2 H1 (E1.trans E2) R2 (Bf h r)⟩
end
def uT (lo:Int) (n:Nat):List D:=(List.range n).map fun (k:Nat)=>PyData.int (lo + (k:Int))
theorem GP {G B:Hp} {lo:Int} {n:Nat}:l4 G B (Itr lo n) (uT lo n):=fun H _=>by
 refine ⟨by simp [uT,Itr],fun i d hd=>?_⟩
 rw [uT,List.getElem?_map] at hd
 obtain ⟨k,h1,h2⟩:=Option.map_eq_some_iff.mp hd
 have hk:=List.getElem?_eq_some_iff.mp h1
 obtain ⟨hl,hk⟩:=hk
 rw [List.getElem_range] at hk
 rw [List.length_range] at hl
 subst hk
 refine ⟨hl,fun x H' hy=>.inl ⟨hy.1,?_⟩⟩
 rw [hy.2,← h2]
 exact .int _
noncomputable def rg1:List RV × Rho->Option (List D × Rho)
 | ([(.int j,_)],ρ)=>cIf (-(2 ^ 62)≤j∧j < 2 ^ 62) (some (uT 0 j.toNat,ρ)) none
 | _=>none
noncomputable def rg2:List RV × Rho->Option (List D × Rho)
 | ([(.int i,_),(.int j,_)],ρ)=>cIf (-(2 ^ 62)≤i∧i < 2 ^ 62∧-(2 ^ 62)≤j∧j < 2 ^ 62) (some (uT i (j - i).toNat,ρ)) none
 | _=>none
noncomputable def sV (m:Rho->Option (List RV × Rho)):Rho->Option (List D × Rho):=fun ρ=>(m ρ).bind rg1
noncomputable def JQ (m:Rho->Option (List RV × Rho)):Rho->Option (List D × Rho):=fun ρ=>(m ρ).bind rg2
section
variable {ta:TA} {m:Rho->Option (List RV × Rho)}
theorem Bl (h:MA ta m) (F:Fr) (B H:Hp) (σ:St) (ρ:Rho) (ds:List D) (ρ':Rho) (Q:It->Hp->Prop) (R:Rel F B H σ ρ) (e:sV m ρ=some (ds,ρ'))
  (q:∀ J B' H',Ext σ ρ B H ρ' B' H'->Rel F B' H' σ ρ'->(∀ G,l4 G B' J ds)->Q J H'):AN ta σ H Q:=by
 obtain ⟨x,e1,e⟩:=Option.bind_eq_some_iff.mp e
 refine h F B H σ ρ x.1 x.2 _ R e1 fun vs B1 H1 E1 R1 V1=>?_
 obtain ⟨rs,ρ2⟩:=x
 unfold rg1 at e
 split at e
 ·rename_i j k ρ3 heq
  cases heq
  obtain ⟨hj,e⟩:=cH e
  ·cases e
   match vs,V1 with
   | [v],⟨⟨h1,_⟩,_⟩ =>
    have:v=.int j:=(h1.view R1).int
    subst this
    exact ⟨j,rfl,hj.1,hj.2,q _ B1 H1 E1 R1 fun G=>GP⟩
 ·cases e
theorem sW (h:MA ta m):MF (AN ta) (sV m):=fun F B H σ ρ ds ρ' Q R e q=>Bl h F B H σ ρ ds ρ' Q R e fun J B' H' E R' I=>q J B' H' E R' (I _)
end
end Mir
namespace Mir
open PySem L2
variable [Zc]
def GQ:List RV × Rho->Option (RV × Rho)
 | ([r],ρ)=>some (r,ρ)
 | _=>none
theorem DI {x:List RV × Rho} {y:RV × Rho} (h:GQ x=some y):x=([y.1],y.2):=by
 obtain ⟨rs,ρ⟩:=x
 unfold GQ at h
 split at h
 ·rename_i heq; cases heq; cases h; rfl
 ·cases h
section
variable {K:PySem.W.Frag} {ta:TA} {m:Rho->Option (List RV × Rho)}
end
def cI (ρ:Rho) (i:Nat):Sl:=match ρ[i]? with
 | some (.own d)=>.ro d
 | some (.io d)=>.ro d
 | some .ex=>.no
 | some s=>s
 | none=>.no
def asF:RV->Option D
 | (d,.fz)=>some d
 | _=>none
theorem Bm {r:RV} {d:D} (h:asF r=some d):r=(d,.fz):=by
 obtain ⟨c,k⟩:=r
 cases k with
 | fz=>cases h; rfl
 | _=>cases h
def jV (c:Rho->Option (Bool × Rho)) (e:PM) (ρn:Rho):List D->Option (List D)
 | []=>some []
 | d::ds=>(c (.fz d::ρn)).bind fun b=>if b.1=true then (sv e (.fz d::ρn)).bind fun y=>(asF y.1).bind fun z=>(jV c e ρn ds).map (z::·) else jV c e ρn ds
noncomputable def mLC (fr:List (Str × Nat)) (it:Rho->Option (List D × Rho)) (c:Rho->Option (Bool × Rho)) (e:PM):PM:=fun ρ=>(it ρ).bind fun x=>(jV c e (fr.map fun p=>cI x.2 p.2) x.1).bind fun ys=>cIf (ys.length < sizeLine) (some ((.list ys,.new),x.2)) none
def DJ:Rho->Option (Bool × Rho):=fun ρ=>some (true,ρ)
theorem GR:MT Dx DJ:=by
 intro F B H σ ρ b ρ' Q R e q
 cases e
 exact q B H (Ext.refl _ _ _ _) R
def F0 (H:Hp):Fr:=⟨fun _=>none,fun _=>none,[],fun q=>H q≠none⟩
theorem zM {ρ:Rho} {i:Nat}:cI ρ i≠.ex:=by
 unfold cI
 cases h : ρ[i]? with
 | none=>simp
 | some s=>cases s <;> simp
theorem pf {ρ:Rho} {i:Nat}:(cI ρ i).dA=false:=by
 unfold cI
 cases h : ρ[i]? with
 | none=>rfl
 | some s=>cases s <;> rfl
theorem Rel.inner {F:Fr} {B H:Hp} {σ:St} {ρ:Rho} (R:Rel F B H σ ρ) (fr:List (Str × Nat)) {v:V} {d:D} (h:Rep B v d):Rel (F0 H) B H (some v::bw σ fr) (.fz d::fr.map fun p=>cI ρ p.2):=by
 have uB:∀ (i:Nat) (s:Sl),(Sl.fz d::fr.map fun p=>cI ρ p.2)[i]?=some s->s.dA=true->False:=fun i s h1 h2=>by
  cases i with
  | zero=>cases h1; cases h2
  | succ i =>
   have h1':(fr.map fun p=>cI ρ p.2)[i]?=some s:=by simpa using h1
   rw [List.getElem?_map] at h1'
   obtain ⟨p,_,e⟩:=Option.map_eq_some_iff.mp h1'
   rw [← e,pf] at h2
   cases h2
 have nex:∀ i:Nat,(Sl.fz d::fr.map fun p=>cI ρ p.2)[i]?=some Sl.ex->False:=fun i h1=>by
  cases i with
  | zero=>cases h1
  | succ i =>
   have h1':(fr.map fun p=>cI ρ p.2)[i]?=some Sl.ex:=by simpa using h1
   rw [List.getElem?_map] at h1'
   obtain ⟨p,_,e⟩:=Option.map_eq_some_iff.mp h1'
   exact absurd e zM
 refine ⟨R.sub,(fun _ _ z=>by cases z),(fun _ _ z=>by cases z),fun _ z _=>absurd rfl z,by simp [bw],fun i s hs=>?_,fun i j s t p h1 h2=>(uB i s h1 h2).elim,fun i d p h1=>(uB i _ h1 rfl).elim,(fun x hx=>by cases hx),fun i d h1=>(uB i _ h1 rfl).elim,R.cC,(fun i h1=>(nex i h1).elim),fun q o u h z=>by rw [z] at h; cases h⟩
 cases i with
 | zero=>cases hs; exact ⟨v,rfl,h⟩
 | succ i =>
  have hs':(fr.map fun p=>cI ρ p.2)[i]?=some s:=by simpa using hs
  rw [List.getElem?_map] at hs'
  obtain ⟨p,hp,e⟩:=Option.map_eq_some_iff.mp hs'
  have hσ:∀ x,σ[p.2]?=some (some x)->(some v::bw σ fr)[i + 1]?=some (some x):=fun x hx=>by
   rw [List.getElem?_cons_succ]
   unfold bw
   rw [List.getElem?_map,hp,Option.map_some,List.getD_eq_getElem?_getD,hx]
   rfl
  unfold cI at e
  cases q : ρ[p.2]? with
  | none=>rw [q] at e; subst e; trivial
  | some s0 =>
   rw [q] at e
   have sl:=R.slot p.2 s0 q
   cases s0 with
   | no=>subst e; trivial
   | ex=>subst e; trivial
   | fz c=>subst e; obtain ⟨x,h1,h2⟩:=sl; exact ⟨x,hσ _ h1,h2⟩
   | own c=>subst e; obtain ⟨x,h1,_,h2⟩:=sl; exact ⟨x,hσ _ h1,h2⟩
   | io c=>subst e; obtain ⟨x,h1,_,h2⟩:=sl; exact ⟨x,hσ _ h1,h2⟩
   | ro c=>subst e; obtain ⟨x,h1,h2⟩:=sl; exact ⟨x,hσ _ h1,h2⟩
theorem jm {ρ ρ':Rho} {σ:St} {B H B' H':Hp} (uB:∀ (i:Nat) (s:Sl),ρ[i]?=some s->s.dA=true->False) (E:Ext σ ρ B H ρ' B' H'):aC H H'∧∀ q,H q≠none->B q=none->B' q=none:=by
 have k:∀ q o,H q=some o->H' q=some o∧(B q=none->B' q=none):=fun q o h=>E.keep q o h fun i s h1 h2=>(uB i s h1 h2).elim
 refine ⟨fun q o h=>(k q o h).1,fun q h z=>?_⟩
 cases e:H q with
 | none=>exact absurd e h
 | some o=>exact (k q o e).2 z
theorem ib {fr:List (Str × Nat)} {ρ:Rho} {d:D} (i:Nat) (s:Sl) (h1:(Sl.fz d::fr.map fun p=>cI ρ p.2)[i]?=some s) (h2:s.dA=true):False:=by
 cases i with
 | zero=>cases h1; cases h2
 | succ i =>
  have h1':(fr.map fun p=>cI ρ p.2)[i]?=some s:=by simpa using h1
  rw [List.getElem?_map] at h1'
  obtain ⟨p,_,e⟩:=Option.map_eq_some_iff.mp h1'
  rw [← e,pf] at h2
  cases h2
theorem Bo {fr:List (Str × Nat)} {wi:TI} {tc:TT} {te:TE} {it:Rho->Option (List D × Rho)} {c:Rho->Option (Bool × Rho)} {e:PM} (hi:MI wi it) (hc:MT tc c) (he:ME te e):ME (tLC fr wi tc te) (mLC fr it c e):=by
 intro F B H σ ρ r0 ρ' Q R e0 q
 obtain ⟨x,e1,e0⟩:=Option.bind_eq_some_iff.mp e0
 obtain ⟨out,e2,e0⟩:=Option.bind_eq_some_iff.mp e0
 obtain ⟨hz,e0⟩:=cH e0
 cases e0
 refine hi F B H σ ρ x.1 x.2 _ R e1 fun J B1 H1 E1 R1 I1=>?_
 obtain ⟨ds,ρ1⟩:=x
 refine ⟨fun i m ys H2=>m=ds.length - i∧i≤ds.length∧∃ B2 done rest,aC B1 B2∧aC H1 H2∧(∀ q,H1 q≠none->B1 q=none->B2 q=none)∧Rel F B2 H2 σ ρ1∧aP B2 ys done∧jV c e (fr.map fun p=>cI ρ1 p.2) (ds.drop i)=some rest∧done++rest=out,
  ⟨ds.length,rfl,Nat.zero_le _,B1,[],out,aC.refl _,aC.refl _,fun _ _ z=>z,R1,.nil,e2,rfl⟩,?_⟩
 rintro i m ys H2 ⟨rfl,hil,B2,done,rest,eB,eH,nb,R2,rp,hcl,hdr⟩
 have hlen:ys.length≤out.length:=by rw [← hdr,List.length_append,rp.length]; omega
 refine ⟨by omega,?_⟩
 by_cases hlt:i < ds.length
 ·refine .inr ?_
  obtain ⟨go,yl⟩:=(I1 H2 eH).2 i ds[i] (List.getElem?_eq_getElem hlt)
  refine ⟨go,fun v H3 hy=>?_⟩
  rw [List.drop_eq_getElem_cons hlt] at hcl
  obtain ⟨b,c1,c2⟩:=Option.bind_eq_some_iff.mp (show (c (.fz ds[i]::fr.map fun p=>cI ρ1 p.2)).bind _=some rest from hcl)
  have had:∃ B3,aC B2 B3∧aC H2 H3∧(∀ q,H2 q≠none->B2 q=none->B3 q=none)∧Rel F B3 H3 σ ρ1∧Rep B3 v ds[i]:=by
   rcases yl v H3 hy with ⟨rfl,h2⟩ | ⟨p,xs,cs,h1,rfl,h3,rfl,h5⟩
   ·exact ⟨B2,aC.refl _,aC.refl _,fun _ _ z=>z,R2,h2.mono eB⟩
   ·obtain ⟨R3,E3,e3⟩:=R2.qS (xs:=xs) h3
    refine ⟨_,e3,eG h3,fun q h z=>?_,R3,?_⟩
    ·rw [aq (show q≠p from fun y=>h (by rw [y]; exact h3))]; exact z
    ·rw [h1]; exact .tup az (h5.mono (eB.trans e3))
  obtain ⟨B3,eB3,eH3,nb3,R3,rv⟩:=had
  have Ri:=R3.inner fr rv
  refine hc (F0 H3) B3 H3 _ _ b.1 b.2 _ Ri c1 fun B4 H4 E4 R4=>?_
  obtain ⟨eH4,nb4⟩:=jm ib E4
  have R4o:Rel F B4 H4 σ ρ1:=R3.grow E4.sB eH4 R4.sub nb4 R4.cC R4.nz
  have nbA:∀ q,H1 q≠none->B1 q=none->B4 q=none:=fun q h z=>by
   have h2:H2 q≠none:=fun y=>h (eH.free y)
   have h3:H3 q≠none:=fun y=>h2 (eH3.free y)
   exact nb4 q h3 (nb3 q h2 (nb q h z))
  cases hb:b.1 with
  | false =>
   rw [hb,if_neg Bool.false_ne_true] at c2
   rw [if_neg Bool.false_ne_true]
   exact ⟨ds.length - (i + 1),by omega,rfl,hlt,B4,done,rest,eB.trans (eB3.trans E4.sB),eH.trans (eH3.trans eH4),nbA,R4o,rp.mono (eB3.trans E4.sB),c2,hdr⟩
  | true =>
   rw [hb,if_pos rfl] at c2
   rw [if_pos rfl]
   obtain ⟨y,c3,c2⟩:=Option.bind_eq_some_iff.mp c2
   obtain ⟨z,c4,c2⟩:=Option.bind_eq_some_iff.mp c2
   obtain ⟨rest',c5,c6⟩:=Option.map_eq_some_iff.mp c2
   subst c6
   have Ri4:=R4o.inner fr (rv.mono E4.sB)
   refine he.sv (F0 H4) B4 H4 _ _ y.1 y.2 _ Ri4 c3 fun u B5 H5 E5 R5 V5 N5=>?_
   obtain ⟨eH5,nb5⟩:=jm ib E5
   have R5o:Rel F B5 H5 σ ρ1:=R4o.grow E5.sB eH5 R5.sub nb5 R5.cC R5.nz
   rw [Bm c4] at V5
   refine ⟨ds.length - (i + 1),by omega,rfl,hlt,B5,done++[z],rest',eB.trans (eB3.trans (E4.sB.trans E5.sB)),eH.trans (eH3.trans (eH4.trans eH5)),fun q h w=>?_,R5o,(rp.mono (eB3.trans (E4.sB.trans E5.sB))).append (.cons V5 .nil),c5,by rw [List.append_assoc]; exact hdr⟩
   have h2:H2 q≠none:=fun y=>h (eH.free y)
   have h3:H3 q≠none:=fun y=>h2 (eH3.free y)
   have h4:H4 q≠none:=fun y=>h3 (eH4.free y)
   exact nb5 q h4 (nbA q h w)
 ·have hi':i=ds.length:=by omega
  subst hi'
  refine .inl ⟨(I1 H2 eH).1,fun p hp=>?_⟩
  rw [List.drop_length] at hcl
  cases hcl
  rw [List.append_nil] at hdr
  subst hdr
  have E2:Ext σ ρ1 B1 H1 ρ1 B2 H2:=Ext.grow eB eH nb
  have:=gg (res:=(.list done,true)) (k:=fun Q=>∀ p,H2 p=none->Q (.ref p) (upd H2 p (.lst ys))) (Q:=Q) R2 ⟨ys,rp,fun Q h=>h⟩ fun v B' H' E R' V' N=>q v B' H' ((E1.trans E2).trans E) R' V' fun p z1 z2=>(E1.trans E2).live p (N p z1 z2)
  exact this p hp
end Mir
namespace Mir
open PySem L2
variable [Zc]
def Sl.put:Sl->D->Sl
 | .own _,d=>.own d
 | .io _,d=>.io d
 | s,_=>s
section
variable {F:Fr} {B H:Hp} {σ:St} {ρ ρ':Rho} {v:V}
theorem pe.at {B H:Hp} {σ σ':St} {i:Nat} {s:Sl} (e : σ'[i]?=σ[i]?) (h:pe B H σ i s):pe B H σ' i s:=by
 unfold pe at h ⊢
 rw [e]; exact h
theorem Rel.write (R:Rel F B H σ ρ) {i:Nat} {s:Sl} {p:Addr} {o:HO} {d:D} (hi : ρ[i]?=some s) (hs:s.dA=true) (hv : σ[i]?=some (some (.ref p))) (no:(∀ xs,o≠.tup xs)∧∀ a u,o≠.frz a u) (ow:Own B (upd H p o) p d) :
  Rel F B (upd H p o) σ (ρ.set i (s.put d))∧Ext σ ρ B H (ρ.set i (s.put d)) B (upd H p o):=by
 obtain ⟨p',e1,hB,o0⟩:=R.ownAt hi hs
 rw [hv] at e1
 cases e1
 have hl:i < ρ.length:=(List.getElem?_eq_some_iff.mp hi).1
 have pO:(s.put d).dA=true∧slD (s.put d)=d:=by cases s <;> first | exact ⟨rfl,rfl⟩ | cases hs
 have ne:∀ (j:Nat) (t:Sl) (q:Addr),j≠i->ρ[j]?=some t->t.isRef=true->σ[j]?=some (some (.ref q))->q≠p:=fun j t q hj h1 h2 h3 z=>hj (R.dist i j s t p hi hs h1 h2 hv (z ▸ h3)).symm
 have nio:∀ (j:Nat) (t:Sl),(ρ.set i (s.put d))[j]?=some t->∃ t0,ρ[j]?=some t0∧t.dA=t0.dA∧t.isRef=t0.isRef∧(∀ c,t=.own c->∃ c0,t0=.own c0)∧∀ c,t=.io c->∃ c0,t0=.io c0:=fun j t h=>by
  rcases get_set h with ⟨rfl,rfl,_⟩ | ⟨_,h⟩
  ·refine ⟨s,hi,?_⟩
   cases s with
   | own c=>exact ⟨rfl,rfl,fun _ _=>⟨_,rfl⟩,fun _ z=>by cases z⟩
   | io c=>exact ⟨rfl,rfl,(fun _ z=>by cases z),fun _ _=>⟨_,rfl⟩⟩
   | _=>cases hs
  ·exact ⟨t,h,rfl,rfl,fun c z=>⟨c,z⟩,fun c z=>⟨c,z⟩⟩
 have hF:F.H p=none∨∃ x∈F.io,x.2=p:=by
  cases s with
  | own c=>exact .inl (R.jl i c p hi hv)
  | io c =>
   obtain ⟨p',hp⟩:=R.ioN i c hi
   obtain ⟨h1,_⟩:=R.fx _ hp
   have h1' : σ[i]?=some (some (.ref p')):=h1
   rw [hv] at h1'
   cases h1'
   exact .inr ⟨_,hp,rfl⟩
  | _=>cases hs
 have JR:s.put d≠.ex:=by
  cases s with
  | own c=>simp [Sl.put]
  | io c=>simp [Sl.put]
  | _=>cases hs
 refine ⟨⟨?_,R.sB,?_,R.nB,by rw [List.length_set]; exact R.len,?_,?_,?_,?_,?_,?_,(fun j h=>R.exv j (sU JR h).1),fun q a u h=>by
  by_cases z:q=p
  ·subst z; rw [az] at h; cases h; exact absurd rfl (no.2 _ _)
  ·rw [aq z] at h; exact R.nz q a u h⟩,⟨aC.refl _,?_,?_,?_,?_⟩⟩
 ·intro q u hq
  rw [aq (show q≠p from fun z=>by rw [z,hB] at hq; cases hq)]; exact R.sub q u hq
 ·intro q u h1 h2
  have z:q≠p:=fun z=>by
   rcases hF with h | ⟨x,hx,h⟩
   ·rw [z,h] at h1; cases h1
   ·exact h2 x hx (h.trans z.symm)
  rw [aq z]; exact R.sH q u h1 h2
 ·intro j t ht
  rcases get_set ht with ⟨rfl,rfl,_⟩ | ⟨hj,ht⟩
  ·cases s with
   | own c=>exact ⟨p,hv,hB,ow⟩
   | io c=>exact ⟨p,hv,hB,ow⟩
   | _=>cases hs
  ·have q:=R.slot j t ht
   have k:∀ q,q≠p->∀ u,H q=some u->upd H p o q=some u:=fun q z u h=>by rw [aq z]; exact h
   cases t with
   | no=>trivial
   | ex=>trivial
   | fz c=>exact q
   | own c=>obtain ⟨q,h1,h2,h3⟩:=q; exact ⟨q,h1,h2,h3.mono (aC.refl _) (k q (ne j _ q hj ht rfl h1))⟩
   | io c=>obtain ⟨q,h1,h2,h3⟩:=q; exact ⟨q,h1,h2,h3.mono (aC.refl _) (k q (ne j _ q hj ht rfl h1))⟩
   | ro c=>obtain ⟨q,h1,h3⟩:=q; exact ⟨q,h1,h3.mono (aC.refl _) (k q (ne j _ q hj ht rfl h1))⟩
 ·intro a b t u q h1 h2 h3 h4 h5 h6
  obtain ⟨t0,h1',e1,_,_,_⟩:=nio a t h1
  obtain ⟨u0,h3',_,e3,_,_⟩:=nio b u h3
  exact R.dist a b t0 u0 q h1' (e1 ▸ h2) h3' (e3 ▸ h4) h5 h6
 ·intro j c q h1 h2
  obtain ⟨t0,h1',_,_,e1,_⟩:=nio j _ h1
  obtain ⟨c0,rfl⟩:=e1 c rfl
  exact R.jl j c0 q h1' h2
 ·intro x hx
  obtain ⟨h1,c,h2⟩:=R.fx x hx
  refine ⟨h1,?_⟩
  by_cases z:i=x.1
  ·subst z
   rw [hi] at h2
   cases h2
   exact ⟨d,by rw [List.getElem?_set_self hl]; rfl⟩
  ·exact ⟨c,by rw [List.getElem?_set_ne z]; exact h2⟩
 ·intro j c h1
  obtain ⟨t0,h1',_,_,_,e1⟩:=nio j _ h1
  obtain ⟨c0,rfl⟩:=e1 c rfl
  exact R.ioN j c0 h1'
 ·intro q xs h
  by_cases z:q=p
  ·subst z; rw [az] at h; cases h; exact absurd rfl (no.1 xs)
  ·rw [aq z] at h; exact R.cC q xs h
 ·intro q u h n
  refine ⟨?_,id⟩
  rw [aq (show q≠p from fun z=>n i s hi hs (by rw [z]; exact hv))]; exact h
 ·intro j t h1 h2
  obtain ⟨t0,h1',e1,_,_,_⟩:=nio j t h1
  exact ⟨t0,h1',e1 ▸ h2⟩
 ·intro j t h1 h2
  obtain ⟨t0,h1',_,e1,_,_⟩:=nio j t h1
  exact ⟨t0,h1',e1 ▸ h2⟩
 ·intro q h
  by_cases z:q=p
  ·subst z; rw [az] at h; cases h
  ·rw [aq z] at h; exact h
end
def ph:Option Sl->Option (List D)
 | some (.own (.list ds))=>some ds
 | some (.io (.list ds))=>some ds
 | _=>none
theorem sX {s:Option Sl} {ds:List D} (h:ph s=some ds):∃ t,s=some t∧t.dA=true∧slD t=.list ds:=by
 unfold ph at h
 split at h
 ·cases h; exact ⟨_,rfl,rfl,rfl⟩
 ·cases h; exact ⟨_,rfl,rfl,rfl⟩
 ·cases h
def putAt (ρ:Rho) (i:Nat) (d:D):Rho:=match ρ[i]? with
 | some s=>ρ.set i (s.put d)
 | none=>ρ
def uU (r:V->List V->Hp->VK->Prop) (f:List D->List D->Option (List D × D)):Prop :=
 ∀ (B H:Hp) (p:Addr) (xs:List V) (ds:List D) (vs:List V) (as:List D) (w:List D × D),H p=some (.lst xs)->aP B xs ds->aC B H->aP B vs as->f ds as=some w ->
  ∃ xs' v,aP B xs' w.1∧Rep B v w.2∧∀ Q:VK,Q v (upd H p (.lst xs'))->r (.ref p) vs H Q
def pj (i:Nat) (f:List D->List D->Option (List D × D)) (m:Rho->Option (List RV × Rho)):PM:=fun ρ=>(ph ρ[i]?).bind fun _=>(m ρ).bind fun x=>(eZ x.1 x.2).bind fun y=>(ph y.2[i]?).bind fun ds=>(f ds y.1).map fun w=>((w.2,.fz),putAt y.2 i (.list w.1))
theorem Own.list {B H:Hp} {p:Addr} {ds:List D} (h:Own B H p (.list ds)):∃ xs,H p=some (.lst xs)∧aP B xs ds:=by
 cases h with
 | lst h r=>exact ⟨_,h,r⟩
theorem mS {K:PySem.W.Frag} {i:Nat} {r:V->List V->Hp->VK->Prop} {f:List D->List D->Option (List D × D)} {t:TA} {m:Rho->Option (List RV × Rho)} (J:uU r f) (h:MA t m):ME (tBM K "list" r (lz i) t) (pj i f m):=by
 intro F B H σ ρ r0 ρ' Q R e q
 obtain ⟨ds0,e0,e⟩:=Option.bind_eq_some_iff.mp e
 obtain ⟨x,e1,e⟩:=Option.bind_eq_some_iff.mp e
 obtain ⟨y,e2,e⟩:=Option.bind_eq_some_iff.mp e
 obtain ⟨ds,e3,e⟩:=Option.bind_eq_some_iff.mp e
 obtain ⟨w,e4,e⟩:=Option.map_eq_some_iff.mp e
 cases e
 obtain ⟨s0,hs0,ho0,hd0⟩:=sX e0
 obtain ⟨p,hv,hB,ow⟩:=R.ownAt hs0 ho0
 rw [hd0] at ow
 obtain ⟨xs0,hp0,_⟩:=ow.list
 refine ⟨_,hv,.inl ⟨rfl,xs0,SqL.of hp0⟩,?_⟩
 refine h F B H σ ρ x.1 x.2 _ R e1 fun vs B1 H1 E1 R1 V1=>?_
 obtain ⟨B2,R2,rp,E2⟩:=Rel.qT R1 V1.weak e2
 obtain ⟨s,hs,ho,hd⟩:=sX e3
 obtain ⟨p',hv',hB',ow'⟩:=R2.ownAt hs ho
 rw [hv] at hv'
 cases hv'
 rw [hd] at ow'
 obtain ⟨xs,hp,rx⟩:=ow'.list
 obtain ⟨xs',u,rx',ru,hr⟩:=J B2 H1 p xs ds vs y.1 w hp rx R2.sub rp e4
 obtain ⟨R3,E3⟩:=R2.write (o:=.lst xs') (d:=.list w.1) hs ho hv ⟨(fun _ z=>by cases z),fun _ _ z=>by cases z⟩ (.lst az rx')
 have ep:putAt y.2 i (.list w.1)=y.2.set i (s.put (.list w.1)):=by unfold putAt; rw [hs]
 rw [ep] at q
 exact hr Q (q u B2 _ (E1.trans (E2.trans E3)) R3 ru fun p z=>by cases z)
def rQ (i:Nat) (f:List D->List D->Option (List D × D)):PM:=fun ρ=>(ph ρ[i]?).bind fun ds=>(f ds []).map fun w=>((w.2,.fz),putAt ρ i (.list w.1))
theorem DK {K:PySem.W.Frag} {i:Nat} {r:V->List V->Hp->VK->Prop} {f:List D->List D->Option (List D × D)} (J:uU r f):ME (AU K "list" r (lz i)) (rQ i f):=by
 intro F B H σ ρ r0 ρ' Q R e q
 obtain ⟨ds,e0,e⟩:=Option.bind_eq_some_iff.mp e
 obtain ⟨w,e4,e⟩:=Option.map_eq_some_iff.mp e
 cases e
 obtain ⟨s,hs,ho,hd⟩:=sX e0
 obtain ⟨p,hv,hB,ow⟩:=R.ownAt hs ho
 rw [hd] at ow
 obtain ⟨xs,hp,rx⟩:=ow.list
 refine ⟨_,hv,.inl ⟨rfl,xs,SqL.of hp⟩,?_⟩
 obtain ⟨xs',u,rx',ru,hr⟩:=J B H p xs ds [] [] w hp rx R.sub .nil e4
 obtain ⟨R3,E3⟩:=R.write (o:=.lst xs') (d:=.list w.1) hs ho hv ⟨(fun _ z=>by cases z),fun _ _ z=>by cases z⟩ (.lst az rx')
 have ep:putAt ρ i (.list w.1)=ρ.set i (s.put (.list w.1)):=by unfold putAt; rw [hs]
 rw [ep] at q
 exact hr Q (q u B _ E3 R3 ru fun p z=>by cases z)
end Mir
namespace Mir
open PySem L2
variable [Zc]
inductive Out where
 | nx (ρ:Rho) | rt (r:RV) (ρ:Rho) | bk (ρ:Rho) | ct (ρ:Rho)
abbrev SM:=Rho->Option Out
def k7 (F:Fr) (D:Ends):Out->Prop
 | .nx ρ=>∀ B H σ,Rel F B H σ ρ->D.nx σ H
 | .rt r ρ=>∀ v B H σ,Rel F B H σ ρ->Val F B H σ ρ v r->D.rt v H
 | .bk ρ=>∀ B H σ,Rel F B H σ ρ->D.bk σ H
 | .ct ρ=>∀ B H σ,Rel F B H σ ρ->D.ct σ H
def MS (t:TS) (m:SM):Prop:=∀ (F:Fr) (B H:Hp) (σ:St) (ρ:Rho) (o:Out) (D:Ends),Rel F B H σ ρ->m ρ=some o->k7 F D o->t D σ H
def bM (a b:SM):SM:=fun ρ=>(a ρ).bind fun o=>match o with
 | .nx ρ'=>b ρ'
 | o=>some o
theorem aR {t u:TS} {a b:SM} (ha:MS t a) (hb:MS u b):MS (zA t u) (bM a b):=by
 intro F B H σ ρ o D R e q
 obtain ⟨x,e1,e⟩:=Option.bind_eq_some_iff.mp e
 refine ha F B H σ ρ x _ R e1 ?_
 cases x with
 | nx ρ'=>exact fun B' H' σ' R'=>hb F B' H' σ' ρ' o D R' e q
 | rt r ρ'=>cases e; exact q
 | bk ρ'=>cases e; exact q
 | ct ρ'=>cases e; exact q
def e9:SM:=fun ρ=>some (.nx ρ)
theorem dg:MS yf e9:=by
 intro F B H σ ρ o D R e q
 cases e; exact q B H σ R
def mT:SM:=fun _=>none
theorem j7:MS wV mT:=by
 intro F B H σ ρ o D R e q
 cases e
def eu (a:PM):SM:=fun ρ=>(a ρ).map fun x=>.rt x.1 x.2
theorem cm {t:TE} {a:PM} (ha:ME t a):MS (AI t) (eu a):=by
 intro F B H σ ρ o D R e q
 obtain ⟨x,e1,e⟩:=Option.map_eq_some_iff.mp e
 cases e
 exact ha F B H σ ρ x.1 x.2 _ R e1 fun v B' H' E R' V' N=>q v B' H' σ R' V'
def Iq:SM:=fun ρ=>some (.rt (.none,.fz) ρ)
def fc (a:PM):SM:=fun ρ=>(a ρ).map fun x=>.nx x.2
theorem gh {t:TE} {a:PM} (ha:ME t a):MS (uE t) (fc a):=by
 intro F B H σ ρ o D R e q
 obtain ⟨x,e1,e⟩:=Option.map_eq_some_iff.mp e
 cases e
 exact ha F B H σ ρ x.1 x.2 _ R e1 fun v B' H' E R' V' N=>q B' H' σ R'
def gr (c:Rho->Option (Bool × Rho)) (a b:SM):SM:=fun ρ=>(c ρ).bind fun x=>if x.1=true then a x.2 else b x.2
theorem gL {tc:TT} {t u:TS} {c:Rho->Option (Bool × Rho)} {a b:SM} (hc:MT tc c) (ha:MS t a) (hb:MS u b):MS (AJ tc t u) (gr c a b):=by
 intro F B H σ ρ o D R e q
 obtain ⟨x,e1,e⟩:=Option.bind_eq_some_iff.mp e
 refine hc F B H σ ρ x.1 x.2 _ R e1 fun B' H' E R'=>?_
 by_cases h:x.1=true
 ·rw [if_pos h] at e ⊢; exact ha F B' H' σ x.2 o D R' e q
 ·rw [if_neg h] at e ⊢; exact hb F B' H' σ x.2 o D R' e q
def eK (ρ:Rho) (i:Nat) (s:Sl):Option Rho:=match ρ[i]? with
 | none=>none
 | some (.io _)=>none
 | some _=>some (ρ.set i s)
theorem l6 {ρ ρ':Rho} {i:Nat} {s:Sl} (h:eK ρ i s=some ρ') : ρ'=ρ.set i s∧∃ s0,ρ[i]?=some s0∧∀ d,s0≠.io d:=by
 unfold eK at h
 cases q : ρ[i]? with
 | none=>rw [q] at h; cases h
 | some s0 =>
  rw [q] at h
  cases s0 with
  | io d=>cases h
  | no=>cases h; exact ⟨rfl,_,rfl,fun _ z=>by cases z⟩
  | ex=>cases h; exact ⟨rfl,_,rfl,fun _ z=>by cases z⟩
  | fz _=>cases h; exact ⟨rfl,_,rfl,fun _ z=>by cases z⟩
  | own _=>cases h; exact ⟨rfl,_,rfl,fun _ z=>by cases z⟩
  | ro _=>cases h; exact ⟨rfl,_,rfl,fun _ z=>by cases z⟩
section
variable {F:Fr} {B H:Hp} {σ:St} {ρ ρ':Rho} {v:V}
theorem Rel.pq (R:Rel F B H σ ρ) {i:Nat} {d:D} (rp:Rep B v d) (h:eK ρ i (.fz d)=some ρ'):Rel F B H (σ.set i (some v)) ρ':=by
 obtain ⟨rfl,s0,h0,nio⟩:=l6 h
 have hl:i < ρ.length:=(List.getElem?_eq_some_iff.mp h0).1
 have hls:i < σ.length:=R.len ▸ hl
 have so:∀ j,j≠i->(σ.set i (some v))[j]?=σ[j]?:=fun j hj=>List.getElem?_set_ne fun e=>hj e.symm
 refine ⟨R.sub,R.sB,R.sH,R.nB,by rw [List.length_set,List.length_set]; exact R.len,?_,?_,?_,?_,?_,R.cC,(fun j h=>by obtain ⟨h1,h2⟩:=sU (by simp) h; rw [so j h2]; exact R.exv j h1),R.nz⟩
 ·intro j s hs
  rcases get_set hs with ⟨rfl,rfl,_⟩ | ⟨hj,hs⟩
  ·exact ⟨v,List.getElem?_set_self hls,rp⟩
  ·exact (R.slot j s hs).at (so j hj)
 ·intro a b s t p h1 h2 h3 h4 h5 h6
  rcases get_set h1 with ⟨rfl,rfl,_⟩ | ⟨ha,h1⟩
  ·cases h2
  ·rcases get_set h3 with ⟨rfl,rfl,_⟩ | ⟨hb,h3⟩
   ·cases h4
   ·rw [so a ha] at h5; rw [so b hb] at h6; exact R.dist a b s t p h1 h2 h3 h4 h5 h6
 ·intro j c p h1 h2
  rcases get_set h1 with ⟨rfl,e,_⟩ | ⟨hj,h1⟩
  ·cases e
  ·rw [so j hj] at h2; exact R.jl j c p h1 h2
 ·intro x hx
  obtain ⟨h1,c,h2⟩:=R.fx x hx
  have z:x.1≠i:=fun z=>by rw [z,h0] at h2; cases h2; exact nio _ rfl
  exact ⟨by rw [so _ z]; exact h1,c,by rw [List.getElem?_set_ne fun e=>z e.symm]; exact h2⟩
 ·intro j c h1
  rcases get_set h1 with ⟨rfl,e,_⟩ | ⟨hj,h1⟩
  ·cases e
  ·exact R.ioN j c h1
theorem Rel.zN (R:Rel F B H σ ρ) {i:Nat} {d:D} (vl:Val F B H σ ρ v (d,.new)) (h:eK ρ i (.own d)=some ρ'):Rel F B H (σ.set i (some v)) ρ':=by
 obtain ⟨rfl,s0,h0,nio⟩:=l6 h
 obtain ⟨p,rfl,hB,hF,ow,nn⟩:=vl
 have hl:i < ρ.length:=(List.getElem?_eq_some_iff.mp h0).1
 have hls:i < σ.length:=R.len ▸ hl
 have so:∀ j,j≠i->(σ.set i (some (.ref p)))[j]?=σ[j]?:=fun j hj=>List.getElem?_set_ne fun e=>hj e.symm
 have si:(σ.set i (some (.ref p)))[i]?=some (some (.ref p)):=List.getElem?_set_self hls
 refine ⟨R.sub,R.sB,R.sH,R.nB,by rw [List.length_set,List.length_set]; exact R.len,?_,?_,?_,?_,?_,R.cC,(fun j h=>by obtain ⟨h1,h2⟩:=sU (by simp) h; rw [so j h2]; exact R.exv j h1),R.nz⟩
 ·intro j s hs
  rcases get_set hs with ⟨rfl,rfl,_⟩ | ⟨hj,hs⟩
  ·exact ⟨p,si,hB,ow⟩
  ·exact (R.slot j s hs).at (so j hj)
 ·intro a b s t q h1 h2 h3 h4 h5 h6
  rcases get_set h1 with ⟨rfl,rfl,_⟩ | ⟨ha,h1'⟩
  ·rcases get_set h3 with ⟨rfl,rfl,_⟩ | ⟨hb,h3⟩
   ·rfl
   ·rw [si] at h5
    cases h5
    rw [so b hb] at h6
    exact absurd h6 (nn b t h3 h4)
  ·rcases get_set h3 with ⟨rfl,rfl,_⟩ | ⟨hb,h3⟩
   ·rw [si] at h6
    cases h6
    rw [so a ha] at h5
    exact absurd h5 (nn a s h1' (Sl.jy h2))
   ·rw [so a ha] at h5; rw [so b hb] at h6; exact R.dist a b s t q h1' h2 h3 h4 h5 h6
 ·intro j c q h1 h2
  rcases get_set h1 with ⟨rfl,e,_⟩ | ⟨hj,h1⟩
  ·rw [si] at h2; cases h2; exact hF
  ·rw [so j hj] at h2; exact R.jl j c q h1 h2
 ·intro x hx
  obtain ⟨h1,c,h2⟩:=R.fx x hx
  have z:x.1≠i:=fun z=>by rw [z,h0] at h2; cases h2; exact nio _ rfl
  exact ⟨by rw [so _ z]; exact h1,c,by rw [List.getElem?_set_ne fun e=>z e.symm]; exact h2⟩
 ·intro j c h1
  rcases get_set h1 with ⟨rfl,e,_⟩ | ⟨hj,h1⟩
  ·cases e
  ·exact R.ioN j c h1
end
def sto (i:Nat) (x:RV × Rho):Option Rho:=match x.1.2 with
 | .fz=>eK x.2 i (.fz x.1.1)
 | .new=>eK x.2 i (.own x.1.1)
 | .at j=>if j=i then some x.2 else (j6 x.1 x.2).bind fun y=>eK y.2 i (.fz y.1)
 | .ro=>none
def de (i:Nat) (a:PM):SM:=fun ρ=>(a ρ).bind fun x=>(sto i x).map .nx
theorem bZ {i:Nat} {t:TE} {a:PM} (ha:ME t a):MS (zB t (o8 i)) (de i a):=by
 intro F B H σ ρ o D R e q
 obtain ⟨x,e1,e⟩:=Option.bind_eq_some_iff.mp e
 obtain ⟨ρ2,e2,e⟩:=Option.map_eq_some_iff.mp e
 cases e
 refine ha F B H σ ρ x.1 x.2 _ R e1 fun v B1 H1 E1 R1 V1 N1=>?_
 show D.nx (σ.set i (some v)) H1
 obtain ⟨⟨d,k⟩,ρ1⟩:=x
 cases k with
 | fz=>exact q B1 H1 _ (R1.pq V1 e2)
 | new=>exact q B1 H1 _ (R1.zN V1 e2)
 | ro=>cases e2
 | «at» j =>
  have e2':(if j=i then some ρ1 else (j6 (d,.at j) ρ1).bind fun y=>eK y.2 i (.fz y.1))=some ρ2:=e2
  obtain ⟨s,h1,h2,h3,h4⟩:=V1
  have h4' : σ[j]?=some (some v):=h4
  by_cases z:j=i
  ·rw [if_pos z] at e2'
   cases e2'
   subst z
   have : σ.set j (some v)=σ:=by
    apply List.ext_getElem?
    intro k
    by_cases hk:k=j
    ·subst hk
     obtain ⟨hl,_⟩:=List.getElem?_eq_some_iff.mp h4'
     rw [List.getElem?_set_self hl,h4']
    ·rw [List.getElem?_set_ne fun e=>hk e.symm]
   rw [this]
   exact q B1 H1 _ R1
  ·rw [if_neg z] at e2'
   obtain ⟨y,e3,e4⟩:=Option.bind_eq_some_iff.mp e2'
   obtain ⟨B2,R2,rp,E2⟩:=R1.frz (v:=v) (r:=(d,.at j)) (show zL B1 σ v (d,.at j) from h4') e3
   exact q B2 H1 _ (R2.pq rp e4)
def JS (i:Nat) (f:Int->Int->Int) (a:PM):SM:=fun ρ=>match ρ[i]? with
 | some (.fz (.int x))=>((sv a ρ).bind asI).bind fun y=>(eK y.2 i (.fz (.int (f x y.1)))).map .nx
 | _=>none
def MG (g:TG) (mg:D->Rho->Option Rho):Prop:=∀ (F:Fr) (B H:Hp) (σ:St) (ρ:Rho) (v:V) (d:D) (ρ':Rho) (Q:St->Hp->Prop),Rel F B H σ ρ->Rep B v d->mg d ρ=some ρ'->(∀ B' H' σ',Rel F B' H' σ' ρ'->aC B B'->Q σ' H')->g v σ H Q
def MGs (g:TGs) (mg:List D->Rho->Option Rho):Prop:=∀ (F:Fr) (B H:Hp) (σ:St) (ρ:Rho) (vs:List V) (ds:List D) (ρ':Rho) (Q:St->Hp->Prop),Rel F B H σ ρ->aP B vs ds->mg ds ρ=some ρ'->(∀ B' H' σ',Rel F B' H' σ' ρ'->aC B B'->Q σ' H')->g vs σ H Q
def mgN (i:Nat):D->Rho->Option Rho:=fun d ρ=>eK ρ i (.fz d)
theorem bE {i:Nat}:MG (o8 i) (mgN i):=fun F B H σ ρ v d ρ' Q R rp e q=>q B H _ (R.pq rp e) (aC.refl _)
def ez:List D->Rho->Option Rho:=fun ds ρ=>match ds with
 | []=>some ρ
 | _=>none
def aT (g:D->Rho->Option Rho) (gs:List D->Rho->Option Rho):List D->Rho->Option Rho:=fun ds ρ=>match ds with
 | d::ds=>(g d ρ).bind fun ρ1=>gs ds ρ1
 | _=>none
theorem iH:MGs F6 ez:=fun F B H σ ρ vs ds ρ' Q R rp e q=>by
 cases rp with
 | nil=>cases e; exact ⟨rfl,q B H σ R (aC.refl _)⟩
 | cons _ _=>cases e
theorem bz {g:TG} {gs:TGs} {m:D->Rho->Option Rho} {ms:List D->Rho->Option Rho} (h:MG g m) (hs:MGs gs ms):MGs (AK g gs) (aT m ms):=fun F B H σ ρ vs ds ρ' Q R rp e q=>by
 cases rp with
 | nil=>cases e
 | cons r rs =>
  obtain ⟨ρ1,e1,e2⟩:=Option.bind_eq_some_iff.mp e
  exact ⟨_,_,rfl,h F B H σ ρ _ _ ρ1 _ R r e1 fun B1 H1 σ1 R1 s1=>hs F B1 H1 σ1 ρ1 _ _ ρ' Q R1 (rs.mono s1) e2 fun B2 H2 σ2 R2 s2=>q B2 H2 σ2 R2 (s1.trans s2)⟩
def mgT (n:Nat) (ms:List D->Rho->Option Rho):D->Rho->Option Rho:=fun d ρ=>(asT d).bind fun ds=>if ds.length=n then ms ds ρ else none
def jW (a:PM) (g:D->Rho->Option Rho):SM:=fun ρ=>(sv a ρ).bind fun x=>(j6 x.1 x.2).bind fun y=>(g y.1 y.2).map .nx
theorem kK {t:TE} {tg:TG} {a:PM} {g:D->Rho->Option Rho} (ha:ME t a) (hg:MG tg g):MS (zB t tg) (jW a g):=by
 intro F B H σ ρ o D R e q
 obtain ⟨x,e1,e⟩:=Option.bind_eq_some_iff.mp e
 obtain ⟨y,e2,e⟩:=Option.bind_eq_some_iff.mp e
 obtain ⟨ρ2,e3,e⟩:=Option.map_eq_some_iff.mp e
 cases e
 refine ha.sv F B H σ ρ x.1 x.2 _ R e1 fun v B1 H1 E1 R1 V1 N1=>?_
 have w:zL B1 σ v x.1:=(Vl.weak (F:=F) (H:=H1) (ρ:=x.2) (vs:=[v]) (rs:=[x.1]) ⟨⟨V1,kI e1⟩,trivial⟩).1
 obtain ⟨B2,R2,rp,E2⟩:=R1.frz w e2
 exact hg F B2 H1 σ y.2 v y.1 ρ2 _ R2 rp e3 fun B' H' σ' R' _=>q B' H' σ' R'
def Ir (i:Nat) (a:PM):D->Rho->Option Rho:=fun d ρ=>(ph ρ[i]?).bind fun _=>((sv a ρ).bind asI).bind fun y=>(ph y.2[i]?).bind fun ds=>(ixN ds.length y.1).map fun j=>putAt y.2 i (.list (ds.set j d))
def fu (c:Rho->Option (Bool × Rho)) (b:SM):Nat->SM
 | 0=>fun _=>none
 | n + 1=>fun ρ=>(c ρ).bind fun x=>if x.1=true then (b x.2).bind fun o=>match o with
   | .nx ρ'=>fu c b n ρ'
   | .ct ρ'=>fu c b n ρ'
   | .bk ρ'=>some (.nx ρ')
   | .rt r ρ'=>some (.rt r ρ')
  else some (.nx x.2)
theorem uV {tc:TT} {tb:TS} {c:Rho->Option (Bool × Rho)} {b:SM} {n:Nat} (hc:MT tc c) (hb:MS tb b):MS (AL tc tb) (fu c b n):=by
 intro F B H σ ρ o D R e q
 refine ⟨fun m σ H=>∃ B ρ,Rel F B H σ ρ∧fu c b m ρ=some o,⟨n,B,ρ,R,e⟩,?_⟩
 rintro m σ1 H1 ⟨B1,ρ1,R1,e1⟩
 cases m with
 | zero=>cases e1
 | succ m =>
  obtain ⟨x,e2,e3⟩:=Option.bind_eq_some_iff.mp (show (c ρ1).bind _=some o from e1)
  refine hc F B1 H1 σ1 ρ1 x.1 x.2 _ R1 e2 fun B2 H2 E2 R2=>?_
  by_cases h:x.1=true
  ·rw [if_pos h] at e3 ⊢
   obtain ⟨w,e4,e5⟩:=Option.bind_eq_some_iff.mp e3
   refine ⟨fun σ' H'=>∃ B' ρ',Rel F B' H' σ' ρ'∧fu c b m ρ'=some o,fun σ' H' h'=>⟨m,Nat.lt_succ_self _,h'⟩,?_⟩
   refine hb F B2 H2 σ1 x.2 w _ R2 e4 ?_
   cases w with
   | nx ρ'=>exact fun B' H' σ' R'=>⟨B',ρ',R',e5⟩
   | ct ρ'=>exact fun B' H' σ' R'=>⟨B',ρ',R',e5⟩
   | bk ρ'=>cases e5; exact q
   | rt r ρ'=>cases e5; exact q
  ·rw [if_neg h] at e3 ⊢
   cases e3
   exact q B2 H2 σ1 R2
def forL (g:D->Rho->Option Rho) (b:SM):List D->SM
 | []=>fun ρ=>some (.nx ρ)
 | d::ds=>fun ρ=>(g d ρ).bind fun ρ1=>(b ρ1).bind fun o=>match o with
   | .nx ρ'=>forL g b ds ρ'
   | .ct ρ'=>forL g b ds ρ'
   | .bk ρ'=>some (.nx ρ')
   | .rt r ρ'=>some (.rt r ρ')
def uW (it:Rho->Option (List D × Rho)) (g:D->Rho->Option Rho) (b:SM):SM:=fun ρ=>(it ρ).bind fun x=>forL g b x.1 x.2
section
variable {F:Fr} {B B1 H H1:Hp} {σ σ1:St} {ρ ρ1:Rho}
theorem Rel.up (R1:Rel F B1 H1 σ1 ρ1) (R:Rel ⟨B1,F.H,F.io,F.Z⟩ B H σ ρ):Rel F B H σ ρ :=
 ⟨R.sub,R1.sB.trans R.sB,R.sH,fun q h z=>R.nB q h (R1.nB q h z),R.len,R.slot,R.dist,R.jl,R.fx,R.ioN,R.cC,R.exv,R.nz⟩
theorem Rel.down (R1:Rel F B1 H1 σ1 ρ1):Rel ⟨B1,F.H,F.io,F.Z⟩ B1 H1 σ1 ρ1 :=
 ⟨R1.sub,aC.refl _,R1.sH,fun q h z=>z,R1.len,R1.slot,R1.dist,R1.jl,R1.fx,R1.ioN,R1.cC,R1.exv,R1.nz⟩
end
theorem k7.down {F:Fr} {B1 H1:Hp} {σ1:St} {ρ1:Rho} (R1:Rel F B1 H1 σ1 ρ1) {D:Ends} {o:Out} (h:k7 F D o):k7 ⟨B1,F.H,F.io,F.Z⟩ D o:=by
 cases o with
 | nx ρ=>exact fun B H σ R=>h B H σ (R1.up R)
 | bk ρ=>exact fun B H σ R=>h B H σ (R1.up R)
 | ct ρ=>exact fun B H σ R=>h B H σ (R1.up R)
 | rt r ρ=>exact fun v B H σ R V=>h v B H σ (R1.up R) V
theorem sY {ti:TI} {tg:TG} {tb:TS} {it:Rho->Option (List D × Rho)} {g:D->Rho->Option Rho} {b:SM} (hi:MF ti it) (hg:MG tg g) (hb:MS tb b):MS (Dm ti tg tb) (uW it g b):=by
 intro F B H σ ρ o D R e q
 obtain ⟨x,e1,e⟩:=Option.bind_eq_some_iff.mp e
 refine hi F B H σ ρ x.1 x.2 _ R e1 fun J B1 H1 E1 R1 I1=>?_
 obtain ⟨ds,ρ1⟩:=x
 have q':=q.down R1
 refine ⟨fun i m σ H=>m=ds.length - i∧i≤ds.length∧∃ B ρ,Rel ⟨B1,F.H,F.io,F.Z⟩ B H σ ρ∧forL g b (ds.drop i) ρ=some o,⟨ds.length,rfl,Nat.zero_le _,B1,ρ1,R1.down,e⟩,?_⟩
 rintro i m σ2 H2 ⟨rfl,hil,B2,ρ2,R2,e2⟩
 have sH:aC B1 H2:=R2.sB.trans R2.sub
 by_cases hlt:i < ds.length
 ·refine .inr ?_
  obtain ⟨go,yl⟩:=(I1 H2 sH).2 i ds[i] (List.getElem?_eq_getElem hlt)
  rw [List.drop_eq_getElem_cons hlt] at e2
  obtain ⟨ρ3,e3,e4⟩:=Option.bind_eq_some_iff.mp (show (g ds[i] ρ2).bind _=some o from e2)
  obtain ⟨w,e5,e6⟩:=Option.bind_eq_some_iff.mp e4
  refine ⟨go,fun σ' H'=>∃ B' ρ',Rel ⟨B1,F.H,F.io,F.Z⟩ B' H' σ' ρ'∧forL g b (ds.drop (i + 1)) ρ'=some o,fun σ' H' h'=>⟨ds.length - (i + 1),by omega,rfl,hlt,h'⟩,fun y H3 hy=>?_⟩
  have had:∃ B3,Rel ⟨B1,F.H,F.io,F.Z⟩ B3 H3 σ2 ρ2∧Rep B3 y ds[i]:=by
   rcases yl y H3 hy with ⟨rfl,h2⟩ | ⟨p,xs,cs,h1,rfl,h3,rfl,h5⟩
   ·exact ⟨B2,R2,h2.mono R2.sB⟩
   ·obtain ⟨R3,E3,e3⟩:=R2.qS (xs:=xs) h3
    exact ⟨_,R3,by rw [h1]; exact .tup az (h5.mono (R2.sB.trans e3))⟩
  obtain ⟨B3,R3,rp⟩:=had
  refine hg _ B3 H3 σ2 ρ2 y ds[i] ρ3 _ R3 rp e3 fun B4 H4 σ4 R4 _=>?_
  refine hb _ B4 H4 σ4 ρ3 w _ R4 e5 ?_
  cases w with
  | nx ρ'=>exact fun B' H' σ' R'=>⟨B',ρ',R',e6⟩
  | ct ρ'=>exact fun B' H' σ' R'=>⟨B',ρ',R',e6⟩
  | bk ρ'=>cases e6; exact q'
  | rt r ρ'=>cases e6; exact q'
 ·have hi':i=ds.length:=by omega
  subst hi'
  rw [List.drop_length] at e2
  cases e2
  exact .inl ⟨(I1 H2 sH).1,q' B2 H2 σ2 R2⟩
def pz:Out->Option (D × Bool)
 | .rt (d,.fz) _=>some (d,false)
 | .rt (d,.new) _=>some (d,true)
 | .rt (_,.at i) ρ=>match ρ[i]? with
  | some (.own d)=>some (d,true)
  | _=>none
 | .nx _=>some (.none,false)
 | _=>none
def fnM (n k:Nat) (b:SM) (ds:List D):Option (D × Bool):=if ds.length=n then (b (ds.map .fz++List.replicate k .no)).bind pz else none
theorem eU {n k:Nat} {b:SM} {t:TS} {N:List Str} {vs:List V} {H:Hp} {Q:VK} {E:XK} (hb:MS t b) (hN:N.length=n + k) (h:spM (fnM n k b) vs H Q E):t { nx:=fun _ H'=>Q .non H',rt:=Q } (L2.start N vs) H:=by
 obtain ⟨B,ds,d,o,sub,tB,rp,e,q⟩:=h
 unfold fnM at e
 split at e
 case isFalse=>cases e
 rename_i hl
 obtain ⟨w,e1,e2⟩:=Option.bind_eq_some_iff.mp e
 have hvl:vs.length=n:=rp.length.trans hl
 have iZ:∀ (i:Nat) (s:Sl),(ds.map Sl.fz++List.replicate k .no)[i]?=some s->s.isRef=true->False:=fun i s h1 h2=>by
  have:=List.mem_of_getElem? h1
  rcases List.mem_append.mp this with h | h
  ·obtain ⟨c,_,rfl⟩:=List.mem_map.mp h; cases h2
  ·rw [List.eq_of_mem_replicate h] at h2; cases h2
 have ex0:∀ i:Nat,(ds.map Sl.fz++List.replicate k .no)[i]?=some Sl.ex->False:=fun i h1=>by
  have:=List.mem_of_getElem? h1
  rcases List.mem_append.mp this with h | h
  ·obtain ⟨c,_,z⟩:=List.mem_map.mp h; cases z
  ·have:=List.eq_of_mem_replicate h; cases this
 have R:Rel ⟨B,H,[],fun q=>H q≠none⟩ B H (L2.start N vs) (ds.map .fz++List.replicate k .no):=by
  refine ⟨sub,aC.refl _,fun _ _ z _=>z,fun _ _ z=>z,?_,fun i s hs=>?_,fun i j s t p h1 h2=>(iZ i s h1 (Sl.jy h2)).elim,fun i c p h1=>(iZ i _ h1 rfl).elim,(fun x hx=>by cases hx),fun i c h1=>(iZ i _ h1 rfl).elim,tB,(fun i h1=>(ex0 i h1).elim),fun q o u h z=>by rw [z] at h; cases h⟩
  ·simp [L2.start,hl,hvl,hN]
  ·by_cases hi:i < n
   ·rw [List.getElem?_append_left (by simpa [hl] using hi),List.getElem?_map] at hs
    obtain ⟨c,h1,rfl⟩:=Option.map_eq_some_iff.mp hs
    obtain ⟨x,h2,h3⟩:=rp.get i c h1
    refine ⟨x,?_,h3⟩
    unfold L2.start
    rw [List.getElem?_append_left (by simpa [hvl] using hi),List.getElem?_map,h2]
    rfl
   ·rw [List.getElem?_append_right (by simpa [hl] using Nat.le_of_not_lt hi)] at hs
    have:=List.eq_of_mem_replicate (List.mem_of_getElem? hs)
    subst this
    trivial
 refine hb _ B H _ _ w _ R e1 ?_
 have post:∀ {B' H':Hp} {σ':St} {ρ':Rho},Rel ⟨B,H,[],fun q=>H q≠none⟩ B' H' σ' ρ'->aC H H'∧aC B B'∧aC B' H'∧(∀ q,H q≠none->B q=none->B' q=none)∧(∀ q xs,H' q=some (.tup xs)->B' q=some (.tup xs))∧∀ q o u,H' q=some (.frz o u)->H q≠none:=fun R' =>
  ⟨fun q u z=>R'.sH q u z (fun x hx=>by cases hx),R'.sB,R'.sub,R'.nB,R'.cC,R'.nz⟩
 cases w with
 | nx ρ' =>
  cases e2
  intro B' H' σ' R'
  obtain ⟨p1,p2,p3,p4,p5,p6⟩:=post R'
  exact q _ B' H' ⟨p1,p2,p3,p4,p5,p6,.non⟩
 | bk ρ'=>cases e2
 | ct ρ'=>cases e2
 | rt r ρ' =>
  intro v B' H' σ' R' V'
  obtain ⟨p1,p2,p3,p4,p5,p6⟩:=post R'
  obtain ⟨c,kd⟩:=r
  cases kd with
  | fz=>cases e2; exact q v B' H' ⟨p1,p2,p3,p4,p5,p6,V'⟩
  | new =>
   cases e2
   obtain ⟨p,rfl,h1,h2,h3,_⟩:=V'
   exact q _ B' H' ⟨p1,p2,p3,p4,p5,p6,⟨p,rfl,h2,h1,h3⟩⟩
  | ro=>cases e2
  | «at» i =>
   obtain ⟨s,h1,h2,h3,h4⟩:=V'
   have e2':(match ρ'[i]? with
    | some (.own d)=>some (d,true)
    | _=>none)=some (d,o):=e2
   rw [h1] at e2'
   cases s with
   | own c' =>
    cases e2'
    obtain ⟨p,g1,g2,g3⟩:=R'.slot i _ h1
    have h4' : σ'[i]?=some (some v):=h4
    rw [h4'] at g1
    cases g1
    exact q _ B' H' ⟨p1,p2,p3,p4,p5,p6,⟨p,rfl,R'.jl i _ p h1 h4',g2,g3⟩⟩
   | _=>cases e2'
theorem dr {n k:Nat} {b:SM} {vs:List V} {H:Hp} {Q:VK} {E:XK} (h:spM (fnM n k b) vs H Q E):vs.length=n:=by
 obtain ⟨B,ds,d,o,sub,tB,rp,e,q⟩:=h
 unfold fnM at e
 split at e
 ·rename_i hl; exact rp.length.trans hl
 ·cases e
end Mir
namespace Mir
open PySem L2 PySem.Spec PyProof.Rows
variable [Zc]
section
variable {X:Cx}
def Fp:R2:=fun x y H Q=>∃ l b xs zs,x=.ref l∧y=.ref b∧Rd H l (.lst xs)∧Rd H b (.lst zs)∧xs.length + zs.length≤sizeLine∧∀ p,H p=none->Q (.ref p) (upd H p (.lst (xs++zs)))
theorem DM:OpR X (binaryOp .Add) Fp:=by
 intro pins s σ H x y v u Q I rx ry h
 obtain ⟨l,b,xs,zs,rfl,rfl,hH,hB,hz,q⟩:=h
 cases rx
 cases ry
 obtain ⟨z,its,n,r,e⟩:=hH.ok I.hok
 obtain ⟨z2,its2,n2,r2,e2⟩:=hB.ok I.hok
 have hl:=r.length
 have hl2:=r2.length
 refine PySem.P.add_list e e2 ?_ (by rw [List.size_toArray,List.size_toArray]; omega)
 have ea:its.toArray++its2.toArray=(its++its2).toArray:=by simp
 rw [ea]
 exact ⟨.ref _,_,I.Ig (t':=s.toks) (r.append r2) (by rw [List.length_append]; omega),rfl,q _ I.fresh⟩
def sZ (K:PySem.W.Frag):R2:=fun x y H Q=>rI0 (fun i j=>.int (i + j)) x y H Q∨Fp x y H Q∨(∃ i j,x=.str i∧y=.str j∧i.length + j.length≤sizeLine∧Q (.str (i++j)) H)∨Fm K x y H Q
theorem yz:OpR X (binaryOp .Add) (sZ X.K):=Gf.or (DM.or (w4.or Dr))
end
theorem fv {B H:Hp} {i:Int} {k:VK->Prop} (h:∀ Q:VK,Q (.int i) H->k Q):nR B H (.int i,false) k:=⟨_,.int i,h⟩
theorem j8 {B H:Hp} {i:Bool} {k:VK->Prop} (h:∀ Q:VK,Q (.bl i) H->k Q):nR B H (.bool i,false) k:=⟨_,.bl i,h⟩
theorem DN {B H:Hp} {i:Str} {k:VK->Prop} (h:∀ Q:VK,Q (.str i) H->k Q):nR B H (.str i,false) k:=⟨_,.str i,h⟩
noncomputable def eA:D->D->Option (D × Bool)
 | .int i,.int j=>some (.int (i + j),false)
 | .list a,.list b=>cIf (a.length + b.length≤sizeLine) (some (.list (a++b),true)) none
 | .str a,.str b=>cIf (a.length + b.length≤sizeLine) (some (.str (a++b),false)) none
 | .tuple (c::a),.tuple b=>cIf ((c::a).length + b.length≤sizeLine∧b≠[]) (some (.tuple ((c::a)++b),true)) none
 | _,_=>none
theorem gM {K:PySem.W.Frag}:OpJ (sZ K) eA:=by
 intro B H x y c d res s hx hy e
 unfold eA at e
 split at e
 ·cases e
  have h1:=hx.int; have h2:=hy.int; subst h1 h2
  exact fv fun Q q=>.inl ⟨_,_,rfl,rfl,q⟩
 ·obtain ⟨hz,e⟩:=cH e
  ·cases e
   obtain ⟨p,xs,rfl,r1,rp1⟩:=hx.list s
   obtain ⟨p2,ys,rfl,r2,rp2⟩:=hy.list s
   exact ⟨xs++ys,rp1.append rp2,fun Q q=>.inr (.inl ⟨_,_,_,_,rfl,rfl,r1,r2,by rw [rp1.length,rp2.length]; exact hz,q⟩)⟩
 ·obtain ⟨hz,e⟩:=cH e
  ·cases e
   have h1:=hx.str; have h2:=hy.str; subst h1 h2
   exact DN fun Q q=>.inr (.inr (.inl ⟨_,_,rfl,rfl,hz,q⟩))
 ·obtain ⟨hz,e⟩:=cH e
  ·cases e
   obtain ⟨p,xs,rfl,r1,rp1⟩:=hx.tuple s
   obtain ⟨p2,ys,rfl,r2,rp2⟩:=hy.tuple s
   have hne:xs≠[]:=by intro z; subst z; cases rp1
   have JT:ys≠[]:=by intro z; subst z; cases rp2; exact hz.2 rfl
   refine ⟨xs++ys,rp1.append rp2,fun Q q=>.inr (.inr (.inr ⟨_,_,xs,ys,rfl,rfl,.inl (.inl r1),.inl (.inl r2),?_⟩))⟩
   exact ⟨hne,by rw [rp1.length,rp2.length]; exact hz.1,fun z=>absurd z JT,fun _=>q⟩
 ·cases e
noncomputable def gI (C:Int->Int->Prop) (f:Int->Int->Int):D->D->Option (D × Bool)
 | .int i,.int j=>cIf (C i j) (some (.int (f i j),false)) none
 | _,_=>none
theorem J_I {C:Int->Int->Prop} {f:Int->Int->Int}:OpJ (rI C fun i j=>.int (f i j)) (gI C f):=by
 intro B H x y c d res s hx hy e
 unfold gI at e
 split at e
 ·obtain ⟨hc,e⟩:=cH e
  ·cases e
   have h1:=hx.int; have h2:=hy.int; subst h1 h2
   exact fv fun Q q=>⟨_,_,rfl,rfl,hc,q⟩
 ·cases e
def gI0 (f:Int->Int->Int):D->D->Option (D × Bool)
 | .int i,.int j=>some (.int (f i j),false)
 | _,_=>none
theorem qU {f:Int->Int->Int}:OpJ (rI0 fun i j=>.int (f i j)) (gI0 f):=by
 intro B H x y c d res s hx hy e
 unfold gI0 at e
 split at e
 ·cases e
  have h1:=hx.int; have h2:=hy.int; subst h1 h2
  exact fv fun Q q=>⟨_,_,rfl,rfl,q⟩
 ·cases e
def gB0 (f:Int->Int->Bool):D->D->Option (D × Bool)
 | .int i,.int j=>some (.bool (f i j),false)
 | _,_=>none
theorem xh {f:Int->Int->Bool}:OpJ (rI0 fun i j=>.bl (f i j)) (gB0 f):=by
 intro B H x y c d res s hx hy e
 unfold gB0 at e
 split at e
 ·cases e
  have h1:=hx.int; have h2:=hy.int; subst h1 h2
  exact j8 fun Q q=>⟨_,_,rfl,rfl,q⟩
 ·cases e
abbrev lT:=gI0 fun i j=>i - j
abbrev gLt:=gB0 fun i j=>decide (i < j)
abbrev gGt:=gB0 fun i j=>decide (j < i)
abbrev gGe:=gB0 fun i j=>decide (j≤i)
noncomputable abbrev i3:=gI Gb fun i j=>i / j
noncomputable abbrev cJ:=gI (fun _ j=>0 < j) fun i j=>i % j
noncomputable abbrev uX:=gI Gd fun i j=>i ^ j.toNat
section
variable {X:Cx}
def yA:R2:=fun x y H Q=>rI IntMulOk (fun i j=>.int (i * j)) x y H Q∨Ih x y H Q
theorem yB:OpR X (binaryOp .Mult) yA:=Dy.or Gy
end
noncomputable def xi:D->D->Option (D × Bool)
 | .int i,.int j=>cIf (IntMulOk i j) (some (.int (i * j),false)) none
 | _,_=>none
theorem Fq:OpJ yA xi:=by
 intro B H x y c d res s hx hy e
 unfold xi at e
 split at e
 ·obtain ⟨hc,e⟩:=cH e
  ·cases e
   have h1:=hx.int; have h2:=hy.int; subst h1 h2
   exact fv fun Q q=>.inl ⟨_,_,rfl,rfl,hc,q⟩
 ·cases e
mutual
theorem Rep.data {K:PySem.W.Frag} {H:Hp}:∀ {v:V} {d:D},Rep H v d->d.canLay0=true->hX K H v d
 | _,_,.non,_=>.non
 | _,_,.bl b,_=>.bl b
 | _,_,.int i,_=>.int i
 | _,_,.str x,_=>.str x
 | _,_,.lst h r,e=>.lst (jU h) (aP.data r (by simpa [PyData.canLay0] using e))
 | _,_,.tup h r,e=>.tup (.inl (.inl h)) (aP.data r (by simpa [PyData.canLay0] using e))
 | _,_,.dct _ _,e=>by simp [PyData.canLay0] at e
theorem aP.data {K:PySem.W.Frag} {H:Hp}:∀ {v:List V} {d:List D},aP H v d->PyData.canLayAll0 d=true->hZ K H v d
 | _,_,.nil,_=>.nil
 | _,_,.cons a b,e=>by
  simp only [PyData.canLayAll0,Bool.and_eq_true] at e
  exact .cons (Rep.data a e.1) (aP.data b e.2)
end
def gEq:D->D->Option (D × Bool):=fun c d=>if SeqAt.shaped c=true∧SeqAt.shaped d=true then some (.bool (PyData.eqv c d),false) else none
def gNe:D->D->Option (D × Bool):=fun c d=>if SeqAt.shaped c=true∧SeqAt.shaped d=true then some (.bool (!PyData.eqv c d),false) else none
theorem uY {K:PySem.W.Frag}:OpJ (GD K) gEq:=by
 intro B H x y c d res s hx hy e
 unfold gEq at e
 split at e
 ·rename_i h
  cases e
  exact j8 fun Q q=>⟨_,_,(hx.rep s).data (SeqAt.canLay_of_shaped h.1),(hy.rep s).data (SeqAt.canLay_of_shaped h.2),h.1,h.2,q⟩
 ·cases e
theorem l7 {K:PySem.W.Frag}:OpJ (GF K) gNe:=by
 intro B H x y c d res s hx hy e
 unfold gNe at e
 split at e
 ·rename_i h
  cases e
  exact j8 fun Q q=>⟨_,_,(hx.rep s).data (SeqAt.canLay_of_shaped h.1),(hy.rep s).data (SeqAt.canLay_of_shaped h.2),h.1,h.2,q⟩
 ·cases e
def isNone:D->Bool
 | .none=>true
 | _=>false
theorem Rep.isNone {H:Hp} {v:V} {d:D} (h:Rep H v d):decide (v=.non)=Mir.isNone d:=by cases h <;> rfl
def gIs:D->D->Option (D × Bool)
 | c,.none=>some (.bool (isNone c),false)
 | _,_=>none
def ic:D->D->Option (D × Bool)
 | c,.none=>some (.bool (!isNone c),false)
 | _,_=>none
theorem GS:OpJ (fun x y H Q=>y=.non∧Q (.bl (decide (x=.non))) H) gIs:=by
 intro B H x y c d res s hx hy e
 unfold gIs at e
 split at e
 ·cases e
  exact j8 fun Q q=>⟨hy.none,by rw [(hx.rep s).isNone]; exact q⟩
 ·cases e
theorem oM:OpJ (fun x y H Q=>y=.non∧Q (.bl (!decide (x=.non))) H) ic:=by
 intro B H x y c d res s hx hy e
 unfold ic at e
 split at e
 ·cases e
  exact j8 fun Q q=>⟨hy.none,by rw [(hx.rep s).isNone]; exact q⟩
 ·cases e
def zO:D->Option (D × Bool)
 | .int i=>some (.int (-i),false)
 | _=>none
theorem Iu:UnJ (rU fun i=>.int (-i)) zO:=by
 intro B H x c res s hx e
 unfold zO at e
 split at e
 ·cases e
  have h1:=hx.int; subst h1
  exact fv fun Q q=>⟨_,rfl,q⟩
 ·cases e
def gIx:D->D->Option (D × Bool)
 | .list ds,.int i=>(atI ds i).map fun d=>(d,false)
 | .tuple ds,.int i=>(atI ds i).map fun d=>(d,false)
 | _,_=>none
theorem aP.atI {H:Hp} {vs:List V} {ds:List D} (r:aP H vs ds) {i:Int} {d:D} (h:L2.atI ds i=some d):∃ v,L2.atI vs i=some v∧Rep H v d:=by
 unfold L2.atI at h ⊢
 rw [r.length]
 obtain ⟨j,h1,h2⟩:=Option.bind_eq_some_iff.mp h
 obtain ⟨v,h3,h4⟩:=r.get j d h2
 exact ⟨v,by rw [h1]; exact h3,h4⟩
theorem bT {K:PySem.W.Frag}:OpJ (rIx K) gIx:=by
 intro B H x y c d res s hx hy e
 unfold gIx at e
 split at e
 ·obtain ⟨w,h1,h2⟩:=Option.map_eq_some_iff.mp e
  cases h2
  obtain ⟨p,xs,rfl,r1,rp1⟩:=hx.list s
  have h2:=hy.int; subst h2
  obtain ⟨v,h3,h4⟩:=rp1.atI h1
  exact ⟨v,h4,fun Q q=>.inl ⟨_,_,_,_,rfl,rfl,jU r1,h3,q⟩⟩
 ·obtain ⟨w,h1,h2⟩:=Option.map_eq_some_iff.mp e
  cases h2
  obtain ⟨p,xs,rfl,r1,rp1⟩:=hx.tuple s
  have h2:=hy.int; subst h2
  obtain ⟨v,h3,h4⟩:=rp1.atI h1
  exact ⟨v,h4,fun Q q=>.inr (.inl ⟨_,_,_,_,rfl,rfl,.inl (.inl r1),h3,q⟩)⟩
 ·cases e
def cutD (ds:List D) (lo hi:Option Int):List D:=(ds.drop (HT.sIx ds.length 0 lo)).take (HT.sIx ds.length ds.length hi - HT.sIx ds.length 0 lo)
theorem aP.cut {H:Hp} {vs:List V} {ds:List D} (r:aP H vs ds) (lo hi:Option Int):aP H (uI vs lo hi) (cutD ds lo hi):=by
 unfold uI cutD
 rw [r.length]
 exact (r.drop _).take _
def gSl:D->Option Int->Option Int->Option (D × Bool)
 | .list ds,lo,hi=>some (.list (cutD ds lo hi),true)
 | _,_,_=>none
theorem GU {K:PySem.W.Frag}:SlJ (Gw K) gSl:=by
 intro B H x c l u res s hx e
 unfold gSl at e
 split at e
 ·cases e
  obtain ⟨p,xs,rfl,r1,rp1⟩:=hx.list s
  exact ⟨_,rp1.cut _ _,fun Q q=>⟨_,_,rfl,jU r1,q⟩⟩
 ·cases e
noncomputable def dH:List D->Option (D × Bool)
 | [.list ds]=>some (.int ds.length,false)
 | [.tuple ds]=>some (.int ds.length,false)
 | [.str x]=>cIf (x.length≤sizeLine) (some (.int x.length,false)) none
 | _=>none
theorem i4 {B H:Hp} {vs:List V} {d:D} (h:Views B H vs [d]):∃ v,vs=[v]∧View B H v d:=by
 match vs,h with
 | [v],⟨h,_⟩=>exact ⟨v,rfl,h⟩
theorem Bp {B H:Hp} {vs:List V} {c d:D} (h:Views B H vs [c,d]):∃ v w,vs=[v,w]∧View B H v c∧View B H w d:=by
 match vs,h with
 | [v,w],⟨h,g,_⟩=>exact ⟨v,w,rfl,h,g⟩
theorem iI {K:PySem.W.Frag}:lZ (GI K) dH:=by
 intro B H vs ds res s h e
 unfold dH at e
 split at e
 ·cases e
  obtain ⟨v,rfl,hh⟩:=i4 h
  obtain ⟨p,xs,rfl,r1,rp1⟩:=hh.list s
  exact fv fun Q q=>.inl ⟨_,_,rfl,.inl (jU r1),by rw [rp1.length]; exact q⟩
 ·cases e
  obtain ⟨v,rfl,hh⟩:=i4 h
  obtain ⟨p,xs,rfl,r1,rp1⟩:=hh.tuple s
  exact fv fun Q q=>.inl ⟨_,_,rfl,.inr (.inl (.inl r1)),by rw [rp1.length]; exact q⟩
 ·obtain ⟨hz,e⟩:=cH e
  ·cases e
   obtain ⟨v,rfl,hh⟩:=i4 h
   have:=hh.str; subst this
   exact fv fun Q q=>.inr ⟨_,rfl,hz,q⟩
 ·cases e
def zP:List D->Option (D × Bool)
 | [.int i,.int j]=>some (.int (if j > i then j else i),false)
 | _=>none
def zQ:List D->Option (D × Bool)
 | [.int i,.int j]=>some (.int (if j < i then j else i),false)
 | _=>none
def JU:List D->Option (D × Bool)
 | [.int i]=>some (.int (if i < 0 then -i else i),false)
 | _=>none
def JV:List D->Option (D × Bool)
 | [.int i]=>some (.int i,false)
 | [.bool b]=>some (.int (if b then 1 else 0),false)
 | _=>none
theorem Iw:lZ (fun xs H Q=>∃ i j,xs=[.int i,.int j]∧Q (.int (if j > i then j else i)) H) zP:=by
 intro B H vs ds res s h e
 unfold zP at e
 split at e
 ·cases e
  obtain ⟨v,w,rfl,h1,h2⟩:=Bp h
  have:=h1.int; subst this
  have:=h2.int; subst this
  exact fv fun Q q=>⟨_,_,rfl,q⟩
 ·cases e
theorem Fs:lZ (fun xs H Q=>∃ i j,xs=[.int i,.int j]∧Q (.int (if j < i then j else i)) H) zQ:=by
 intro B H vs ds res s h e
 unfold zQ at e
 split at e
 ·cases e
  obtain ⟨v,w,rfl,h1,h2⟩:=Bp h
  have:=h1.int; subst this
  have:=h2.int; subst this
  exact fv fun Q q=>⟨_,_,rfl,q⟩
 ·cases e
def uZ:List D->Option (D × Bool)
 | [.list ds]=>some (.list ds,true)
 | [.tuple ds]=>some (.list ds,true)
 | _=>none
theorem xj {K:PySem.W.Frag}:lZ (fun xs H Q=>∃ p ys,xs=[.ref p]∧(SqL K H p ys∨SqT K H p ys)∧∀ l,H l=none->Q (.ref l) (upd H l (.lst ys))) uZ:=by
 intro B H vs ds res s h e
 unfold uZ at e
 split at e
 ·cases e
  obtain ⟨v,rfl,hh⟩:=i4 h
  obtain ⟨p,xs,rfl,r1,rp1⟩:=hh.list s
  exact ⟨xs,rp1,fun Q q=>⟨_,_,rfl,.inl (jU r1),q⟩⟩
 ·cases e
  obtain ⟨v,rfl,hh⟩:=i4 h
  obtain ⟨p,xs,rfl,r1,rp1⟩:=hh.tuple s
  exact ⟨xs,rp1,fun Q q=>⟨_,_,rfl,.inr (.inl (.inl r1)),q⟩⟩
 ·cases e
def tyD:D->String
 | .none=>"NoneType"
 | .bool _=>"bool"
 | .int _=>"int"
 | .str _=>"str"
 | .list _=>"list"
 | .tuple _=>"tuple"
 | .dict _=>"?"
theorem Rep.ty {H:Hp} {v:V} {d:D} (h:Rep H v d) (hd:tyD d≠"?"):tyN H v=tyD d:=by
 cases h with
 | non=>rfl
 | bl _=>rfl
 | int _=>rfl
 | str _=>rfl
 | lst h _ =>
  rcases h with h | ⟨o,h⟩
  ·unfold tyN; simp only [h]; rfl
  ·unfold tyN; simp only [h]; rfl
 | tup h _=>unfold tyN; simp only [h]; rfl
 | dct _ _=>exact absurd rfl hd
def j9 (n:String):D->Option (D × Bool):=fun d=>if tyD d≠"?"∧n∈df then some (.bool (lY (tyD d) n),false) else none
def kY (n:String) (a:PM):PM:=mUn (j9 n) a
theorem mU {n:String} {ta:TE} {a:PM} (ha:ME ta a):ME (tCB GC (hE ta (hE (tC (.ty n)) w9))) (kY n a):=by
 intro F B H σ ρ r0 ρ' Q R e q
 obtain ⟨x,e1,e⟩:=Option.bind_eq_some_iff.mp e
 obtain ⟨res,e4,e⟩:=Option.map_eq_some_iff.mp e
 cases e
 refine ha.sv F B H σ ρ x.1 x.2 _ R e1 fun v B1 H1 E1 R1 V1 N1=>?_
 unfold j9 at e4
 split at e4
 ·rename_i hd
  cases e4
  have rp:=(V1.view R1).rep R1.sub
  have ht:=rp.ty hd.1
  have hk:tyD x.1.1∈cG:=by
   have h2:=hd.1
   revert h2
   cases x.1.1 with
   | none=>intro _; show "NoneType"∈cG; decide
   | bool _=>intro _; show "bool"∈cG; decide
   | int _=>intro _; show "int"∈cG; decide
   | str _=>intro _; show "str"∈cG; decide
   | list _=>intro _; show "list"∈cG; decide
   | tuple _=>intro _; show "tuple"∈cG; decide
   | dict _=>intro h2; exact absurd rfl h2
  exact ⟨v,n,rfl,by rw [ht]; exact hk,hd.2,by rw [ht]; exact q _ B1 H1 E1 R1 (.bl _) fun p z=>by cases z⟩
 ·cases e4
def u1:D->Bool
 | .none=>true
 | .bool _=>true
 | .int _=>true
 | .str _=>true
 | _=>false
theorem Rep.flat {H:Hp} {v:V} {d:D} (h:Rep H v d) (e:u1 d=true):Ic v=true:=by cases h <;> first | rfl | cases e
theorem Rep.eqv {H:Hp} {v w:V} {c d:D} (h:Rep H v c) (g:Rep H w d) (e:u1 c=true) (e':u1 d=true):eqV v w=PyData.eqv c d:=by
 cases h <;> first | (cases e; done) | (cases g <;> first | (cases e'; done) | (simp [eqV,PyData.eqv]))
noncomputable def gi:List D->List D->Option (List D × D):=fun ds as=>match as with
 | [d]=>cIf (ds.length < sizeLine) (some (ds++[d],.none)) none
 | _=>none
theorem kc:uU lX gi:=by
 intro B H p xs ds vs as w hp rx s rv e
 unfold gi at e
 split at e
 ·obtain ⟨hz,e⟩:=cH e
  ·cases e
   cases rv with
   | cons a b =>
    cases b
    exact ⟨_,_,rx.append (.cons a .nil),.non,fun Q q=>⟨_,_,_,rfl,rfl,hp,by rw [rx.length]; exact hz,q⟩⟩
 ·cases e
def JW:List D->List D->Option (List D × D):=fun ds as=>match as with
 | []=>(ds[ds.length - 1]?).map fun d=>(ds.dropLast,d)
 | _=>none
def mV:List D->List D->Option (List D × D):=fun ds as=>match as with
 | []=>some ([],.none)
 | _=>none
theorem DO:uU AX mV:=by
 intro B H p xs ds vs as w hp rx s rv e
 unfold mV at e
 split at e
 ·cases e
  cases rv
  exact ⟨_,_,.nil,.non,fun Q q=>⟨_,_,rfl,rfl,hp,q⟩⟩
 ·cases e
def l8:List D->List D->Option (List D × D):=fun ds as=>match as with
 | []=>some (ds.reverse,.none)
 | _=>none
theorem zR:uU uK l8:=by
 intro B H p xs ds vs as w hp rx s rv e
 unfold l8 at e
 split at e
 ·cases e
  cases rv
  exact ⟨_,_,rx.reverse,.non,fun Q q=>⟨_,_,rfl,rfl,hp,q⟩⟩
 ·cases e
end Mir
namespace Mir
open PySem L2 PySem.Spec PyProof.Rows
variable [Zc]
section
variable {X:Cx} {K:PySem.W.Frag}
theorem dM (h:X.K=K):OpR X (binaryOp .Add) (sZ K):=h ▸ yz
theorem ke (h:X.K=K) (hu:X.A.units + 64 < cLine):OpR X (compareOp .Eq) (GD K):=h ▸ GG hu
theorem fw (h:X.K=K) (hu:X.A.units + 64 < cLine):OpR X (compareOp .NotEq) (GF K):=h ▸ GH hu
theorem aB (h:X.K=K):IxR X (rIx K):=h ▸ Gv
theorem pC (h:X.K=K):SlR X (Gw K):=h ▸ Dv
theorem cy (h:X.K=K):dU X (.builtin "len") (GI K):=h ▸ zJ
theorem lD (h:X.K=K):dU X (.type "list") (fun xs H Q=>∃ p ys,xs=[.ref p]∧(SqL K H p ys∨SqT K H p ys)∧∀ l,H l=none->Q (.ref l) (upd H l (.lst ys))):=h ▸ sQ
variable {tg l o e:Expr} {es:List Expr} {tl to:TE} {t:TA} {name:Str} {apos cpos:Pos} {T id:String} {r:V->List V->Hp->VK->Prop}
theorem l9 (h:X.K=K) (hl:PE X l tl):PI X tg l (uG K tl):=h ▸ Dl hl
theorem yC (h:X.K=K) (hl:PE X l tl):PI X tg l (F7 K tl):=h ▸ F8 hl
theorem tf (h:X.K=K) (pa:PlainAttrs T) (slot:Slot T name id) (hty:typeOf (.builtin id)=pure (.type "method_descriptor")) (hm:MtR X id r) (ho:PE X o to)
  (hbase:attributeBase o name X.env (eval o X.env)=eval o X.env:=by rfl) (hline:(apos.endLine == cpos.line)=true:=by rfl):PE X (.Call (.Attribute o name apos) [] [] cpos) (AU K T r to):=h ▸ Gx pa slot hty hm ho hbase hline
theorem lE (h:X.K=K) (pa:PlainAttrs T) (slot:Slot T name id) (hty:typeOf (.builtin id)=pure (.type "method_descriptor")) (hm:MtR X id r) (ho:PE X o to) (ha:PA X (e::es) t)
  (hbase:attributeBase o name X.env (eval o X.env)=eval o X.env:=by rfl)
  (hfew:((backTo cpos (starEach (e::es) X.env)).all (fun x=>!x.1) && (backToKw cpos (keywordEach [] X.env)).all (fun x=>x.1.isSome)
   && decide ((e::es).length + ([]:List Keyword).length + (if ([]:List Keyword).isEmpty then 0 else 1) < 30))=true:=by rfl)
  (hline:(apos.endLine == cpos.line)=true:=by rfl) (hs:starEach (e::es) X.env=(false,eval e X.env)::starEach es X.env:=by rfl) (hplain:(backTo cpos (starEach es X.env)).any (·.1)=false:=by rfl) :
  PE X (.Call (.Attribute o name apos) (e::es) [] cpos) (tBM K T r to t):=h ▸ Ie pa slot hty hm ho ha hbase hfew hline hs hplain
end
def oN (K:PySem.W.Frag):Bool:=K.all fun p=>match p.2.cls with
 | .type n=>n != "list"
 | _=>true
theorem u3 {α:Type}:∀ {l:List (Addr × α)} {a:Addr} {o : α},l.lookup a=some o->(a,o)∈l
 | (b,c)::l,a,o,h=>by
  rw [List.lookup_cons] at h
  by_cases z:a=b
  ·subst z
   rw [beq_self_eq_true] at h
   cases h
   exact List.mem_cons_self
  ·rw [beq_eq_false_iff_ne.mpr z] at h
   exact List.mem_cons_of_mem _ (u3 h)
theorem Iy {K:PySem.W.Frag} (h:oN K=true) {H:Hp} {a:Addr} {xs:List V} (s:SqL K H a xs):Rd H a (.lst xs):=by
 rcases s with s | ⟨o,its,n,hk,hc,_⟩
 ·exact s
 ·have:=List.all_eq_true.mp h _ (u3 hk)
  dsimp only at this
  rw [hc] at this
  simp at this
theorem rR {H:Hp}:∀ ns:List Int,aP H (ns.map V.int) (ns.map PyData.int)
 | []=>.nil
 | n::ns=>.cons (.int n) (rR ns)
theorem GV {K:PySem.W.Frag} (h:oN K=true) {f:List D->Option (D × Bool)} (T:∀ ns:List Int,ns.length≤63->(∀ k∈ns,Builtin.Int.intBits k≤1048576)->f [.list (ns.map .int)]=some (.bool true,false))
  (vs:List V) (H:Hp) (Q:VK) (E:XK) (s:A6 K vs H Q E):spM f vs H Q E:=by
 obtain ⟨a,ns,rfl,hS,hl,hb,q⟩:=s
 refine ⟨H,_,_,_,aC.refl _,fun _ _ z=>z,.cons (.lst (Iy h hS) (rR ns)) .nil,T ns hl hb,fun v B' H' P=>?_⟩
 have pv:Rep B' v (.bool true):=P.val
 cases pv
 exact q _
end Mir
namespace Mir
open PySem L2
variable [Zc]
abbrev dI (l:List Int):D:=.list (l.map .int)
theorem Iz (i j:Int):(i == j)=decide (i=j):=by by_cases h:i=j <;> simp [h]
theorem yD (i j:Int):gEq (.int i) (.int j)=some (.bool (decide (i=j)),false):=by
 unfold gEq
 rw [if_pos ⟨rfl,rfl⟩]
 simp only [PyData.eqv,Iz]
theorem yE (i j:Int):gNe (.int i) (.int j)=some (.bool (!decide (i=j)),false):=by
 unfold gNe
 rw [if_pos ⟨rfl,rfl⟩]
 simp only [PyData.eqv,Iz]
theorem Bq (i j:Bool):gEq (.bool i) (.bool j)=some (.bool (i == j),false):=by
 unfold gEq
 rw [if_pos ⟨rfl,rfl⟩]
 simp only [PyData.eqv]
theorem Br (i j:Bool):gNe (.bool i) (.bool j)=some (.bool (!(i == j)),false):=by
 unfold gNe
 rw [if_pos ⟨rfl,rfl⟩]
 simp only [PyData.eqv]
theorem nS:∀ l:List Int,PyData.canLayAll0 (l.map .int)=true
 | []=>rfl
 | _::l=>by simp only [List.map_cons,PyData.canLayAll0,PyData.canLay0,nS l,Bool.and_self]
theorem xk (l:List Int):(dI l).depth≤2:=by
 have h:∀ l:List Int,PyData.depthAll (l.map .int)≤1:=by
  intro l
  induction l with
  | nil=>simp [PyData.depthAll]
  | cons a l ih=>simp only [List.map_cons,PyData.depthAll,PyData.depth]; omega
 have:=h l
 simp only [dI,PyData.depth]
 omega
theorem shaped_ints (l:List Int):SeqAt.shaped (dI l)=true:=by
 unfold SeqAt.shaped
 have h:=xk l
 rw [decide_eq_true (by omega),Bool.and_true]
 simp only [dI,PyData.canLay0,nS]
theorem nT:∀ a b:List Int,PyData.eqvAll (a.map .int) (b.map .int)=decide (a=b)
 | [],[]=>by simp [PyData.eqvAll]
 | [],_::_=>by simp [PyData.eqvAll]
 | _::_,[]=>by simp [PyData.eqvAll]
 | x::a,y::b=>by
  simp only [List.map_cons,PyData.eqvAll,PyData.eqv,nT a b]
  by_cases h:x=y <;> by_cases g:a=b <;> simp [h,g]
theorem u5 (a b:List Int):PyData.eqv (dI a) (dI b)=decide (a=b):=by simp only [dI,PyData.eqv,nT]
theorem u9 (a b:List Int):gEq (dI a) (dI b)=some (.bool (decide (a=b)),false):=by
 unfold gEq
 rw [if_pos ⟨shaped_ints a,shaped_ints b⟩,u5]
theorem Bu (a b:List Int):gNe (dI a) (dI b)=some (.bool (!decide (a=b)),false):=by
 unfold gNe
 rw [if_pos ⟨shaped_ints a,shaped_ints b⟩,u5]
theorem vc (i:Int):j9 "int" (.int i)=some (.bool true,false):=by simp [j9,tyD,df,lY]
theorem md (i:Int):j9 "bool" (.int i)=some (.bool false,false):=by simp [j9,tyD,df,lY]
theorem k8 (i:List D):j9 "list" (.list i)=some (.bool true,false):=by simp [j9,tyD,df,lY]
theorem eN (i:List D):j9 "tuple" (.tuple i)=some (.bool true,false):=by simp [j9,tyD,df,lY]
theorem oJ {α:Type} (xs:List α) (i:Nat):atI xs (i:Int)=xs[i]?:=by
 unfold atI ixN
 rw [if_pos (by omega)]
 split
 ·simp
 ·rename_i h
  rw [Option.bind_none,List.getElem?_eq_none (by omega)]
theorem uJ {α:Type} (xs:List α):atI xs (-1)=xs.getLast?:=by
 unfold atI ixN
 rw [if_neg (by omega)]
 cases xs with
 | nil=>simp
 | cons a l =>
  rw [if_pos (by simp only [List.length_cons]; omega),Option.bind_some,List.getLast?_eq_getElem?]
  congr 1
  simp only [List.length_cons]; omega
theorem DP {α β:Type} (f : α->β) (xs:List α) (i:Int):atI (xs.map f) i=(atI xs i).map f:=by
 simp only [atI,List.length_map,List.getElem?_map]
 cases ixN xs.length i with
 | none=>rfl
 | some j=>simp only [Option.bind_some]
theorem pE {c:Rho->Option (Bool × Rho)} {b:SM} {n:Nat} {ρ ρ1 ρ2:Rho} {o:Option Out} (h1:c ρ=some (true,ρ1)) (h2:b ρ1=some (.nx ρ2)) (h3:fu c b n ρ2=o):fu c b (n + 1) ρ=o:=by
 unfold fu
 simp only [h1,h2,Option.bind_some,if_true,h3]
theorem mW {c:Rho->Option (Bool × Rho)} {b:SM} {n:Nat} {ρ ρ1:Rho} (h1:c ρ=some (false,ρ1)):fu c b (n + 1) ρ=some (.nx ρ1):=by
 unfold fu
 simp only [h1,Option.bind_some,Bool.false_eq_true,if_false]
theorem zS (i:Int):eJ (.int i) false=true:=rfl
theorem xl (i:Bool):eJ (.bool i) false=true:=rfl
theorem zT (i:Str):eJ (.str i) false=true:=rfl
theorem xm:eJ .none false=true:=rfl
theorem xn (l:List D):eJ (.list l) false=false:=rfl
theorem zU (l:List D):eJ (.tuple l) false=bI l:=by simp only [eJ,eI]
theorem zV (l:List D):eJ (.list l) true=bI l:=rfl
theorem pF:bI []=true:=by simp only [bI]
theorem pG (i:Int) (l:List D):bI (.int i::l)=bI l:=by simp only [bI,eI,Bool.true_and]
theorem vd (i:Bool) (l:List D):bI (.bool i::l)=bI l:=by simp only [bI,eI,Bool.true_and]
theorem ve (i l:List D):bI (.list i::l)=false:=by simp only [bI,eI,Bool.false_and]
theorem nU:∀ l:List Int,bI (l.map .int)=true
 | []=>pF
 | i::l=>by rw [List.map_cons,pG,nU l]
theorem GW (d:D):j5 (d,false)=(d,.fz):=rfl
theorem GX (l:List D):j5 (.list l,true)=(.list l,.new):=rfl
theorem GY (l:List D):j5 (.tuple l,true)=(.tuple l,.fz):=rfl
theorem JX (d:D):kO d false=(d,.fz):=rfl
theorem JY (d:D):kO d true=(d,.new):=rfl
theorem aM {a b:SM} {ρ ρ1:Rho} {o:Option Out} (h1:a ρ=some (.nx ρ1)) (h2:b ρ1=o):bM a b ρ=o:=by
 unfold bM; simp only [h1,Option.bind_some,h2]
theorem mX {a b:SM} {ρ ρ1:Rho} {r:RV} (h1:a ρ=some (.rt r ρ1)):bM a b ρ=some (.rt r ρ1):=by
 unfold bM; simp only [h1,Option.bind_some]
theorem ej {n k:Nat} {b:SM} {ds:List D} {o:Out} {w:D × Bool} (h0:ds.length=n) (h1:b (ds.map .fz++List.replicate k .no)=some o) (h2:pz o=some w):fnM n k b ds=some w:=by
 unfold fnM; rw [if_pos h0,h1,Option.bind_some,h2]
theorem cz {f:List D->Option (D × Bool)} {m:Rho->Option (List RV × Rho)} {ρ ρ1:Rho} {rs:List RV} {d:D} {o:Bool} (h1:m ρ=some (rs,ρ1)) (h2:f (rs.map (·.1))=some (d,o)) (h3:eJ d o=true):bJ f m ρ=some (kO d o,ρ1):=by
 unfold bJ; rw [h1,Option.bind_some]; dsimp only; rw [h2,Option.bind_some,if_pos h3]
theorem cD {a:PM} {ρ ρ1:Rho} {r:RV} (h:a ρ=some (r,ρ1)):eu a ρ=some (.rt r ρ1):=by
 unfold eu; rw [h,Option.map_some]
theorem pH {it:Rho->Option (List D × Rho)} {g:D->Rho->Option Rho} {b:SM} {ρ ρ1:Rho} {ds:List D} {o:Option Out} (h1:it ρ=some (ds,ρ1)) (h2:forL g b ds ρ1=o):uW it g b ρ=o:=by
 unfold uW; rw [h1,Option.bind_some]; exact h2
theorem GZ {m:Rho->Option (List RV × Rho)} {ρ ρ1:Rho} {j:Int} {k:Kd} (h1:m ρ=some ([(.int j,k)],ρ1)) (h2 : -(2 ^ 62)≤j∧j < 2 ^ 62):sV m ρ=some (uT 0 j.toNat,ρ1):=by
 unfold sV; rw [h1,Option.bind_some]; show cIf _ _ _=_; rw [b0 h2]
end Mir
namespace Mir
open PySem L2
variable [Zc]
def SF (s:Sl):Prop:=s=.no∨∃ d,s=.fz d
theorem SF.fz (d:D):SF (.fz d):=.inr ⟨d,rfl⟩
theorem SF.no:SF .no:=.inl rfl
theorem DQ {n k:Nat} (h:k < n):ixN n (k:Int)=some k:=by
 unfold ixN
 rw [if_pos (by omega),if_pos (by omega),Int.toNat_natCast]
theorem rS {n:Nat} (h:n≤100000):n≤sizeLine:=Nat.le_trans h (by decide)
theorem vf {n:Nat} (h:n≤100000):n < sizeLine:=Nat.lt_of_le_of_lt h (by decide)
end Mir
namespace Mir
open PySem L2 PySem.Spec PyProof.Rows
variable [Zc]
end Mir
namespace Mir
open PySem L2
variable [Zc]
def inD (x:D) (ds:List D):Bool:=ds.any fun d=>PyData.eqv d x
theorem aP.inV {H:Hp} {v:V} {c:D} (g:Rep H v c) (e:u1 c=true):∀ {vs:List V} {ds:List D},aP H vs ds->ds.all u1=true->inV v vs=inD c ds
 | _,_,.nil,_=>rfl
 | _,_,.cons a b,h=>by
  simp only [List.all_cons,Bool.and_eq_true] at h
  have:=aP.inV g e b h.2
  unfold L2.inV inD at this ⊢
  rw [List.any_cons,List.any_cons,this,a.eqv g h.1 e]
section
variable {X:Cx} {K:PySem.W.Frag}
end
end Mir
namespace Mir
open PySem L2
variable [Zc]
section
variable {a b:PM} {ρ ρ1 ρ2 ρ3:Rho} {x y d:D} {r:RV} {res:D × Bool}
theorem ie (h:a ρ=some ((d,.new),ρ1)):sv a ρ=some ((d,.fz),ρ1):=by unfold sv; rw [h]
theorem ak (h:a ρ=some ((d,.fz),ρ1)):sv a ρ=some ((d,.fz),ρ1):=by unfold sv; rw [h]
theorem nV {i:Nat} (h:a ρ=some ((d,.at i),ρ1)):sv a ρ=some ((d,.at i),ρ1):=by unfold sv; rw [h]
theorem bH {g:D->D->Option (D × Bool)} (h1:sv a ρ=some ((x,.fz),ρ1)) (h2:sv b ρ1=some (r,ρ2)) (h3:g x r.1=some res):mOp g a b ρ=some (j5 res,ρ2):=by
 unfold mOp; rw [h1,Option.bind_some]; dsimp only; rw [h2,Option.bind_some]; dsimp only [mR,Option.bind_some]; rw [h3,Option.map_some]
theorem Ft {g:D->D->Option (D × Bool)} {i:Nat} (h1:sv a ρ=some ((x,.at i),ρ1)) (h2:sv b ρ1=some (r,ρ2)) (h4 : ρ2[i]?=some (.own y)) (h3:g y r.1=some res):mOp g a b ρ=some (j5 res,ρ2):=by
 unfold mOp; rw [h1,Option.bind_some]; dsimp only; rw [h2,Option.bind_some]; dsimp only [mR]; rw [h4]; dsimp only [Option.bind_some]; rw [h3,Option.map_some]
theorem au {m:Rho->Option (List RV × Rho)} {rs:List RV} (h1:sv a ρ=some ((x,.fz),ρ1)) (h2:m ρ1=some (rs,ρ2)):ah a m ρ=some ((x,.fz)::rs,ρ2):=by
 unfold ah; rw [h1,Option.bind_some]; dsimp only; rw [h2,Option.bind_some]; rfl
theorem oO {m:Rho->Option (List RV × Rho)} {rs:List RV} {i:Nat} (h1:sv a ρ=some ((x,.at i),ρ1)) (h2:m ρ1=some (rs,ρ2)) (h4 : ρ2[i]?=some (.own y)):ah a m ρ=some ((y,.at i)::rs,ρ2):=by
 unfold ah; rw [h1,Option.bind_some]; dsimp only; rw [h2,Option.bind_some]; dsimp only [mR]; rw [h4]; rfl
theorem aI:aD ρ=some ([],ρ):=rfl
theorem ao {i:Nat} (h : ρ[i]?=some (.fz d)):ai i ρ=some ((d,.fz),ρ):=by unfold ai; rw [h]
theorem gj {i:Nat} (h : ρ[i]?=some (.own d)):ai i ρ=some ((d,.at i),ρ):=by unfold ai; rw [h]
theorem fe {g:List D->Option (D × Bool)} {m:Rho->Option (List RV × Rho)} {rs:List RV} (h1:m ρ=some (rs,ρ1)) (h2:g (rs.map (·.1))=some res):mCB g m ρ=some (j5 res,ρ1):=by
 unfold mCB; rw [h1,Option.bind_some]; dsimp only; rw [h2,Option.map_some]
theorem dW {i:Nat} (h1:a ρ=some ((d,.fz),ρ1)) (h2:eK ρ1 i (.fz d)=some ρ2):de i a ρ=some (.nx ρ2):=by
 unfold de; rw [h1,Option.bind_some]; dsimp only [sto]; rw [h2,Option.map_some]
theorem dN {i:Nat} (h1:a ρ=some ((d,.new),ρ1)) (h2:eK ρ1 i (.own d)=some ρ2):de i a ρ=some (.nx ρ2):=by
 unfold de; rw [h1,Option.bind_some]; dsimp only [sto]; rw [h2,Option.map_some]
theorem pI {c:Rho->Option (Bool × Rho)} {s t:SM} {o:Option Out} (h1:c ρ=some (true,ρ1)) (h2:s ρ1=o):gr c s t ρ=o:=by
 unfold gr; rw [h1,Option.bind_some]; dsimp only; rw [if_pos rfl,h2]
theorem i5 {c:Rho->Option (Bool × Rho)} {s t:SM} {o:Option Out} (h1:c ρ=some (false,ρ1)) (h2:t ρ1=o):gr c s t ρ=o:=by
 unfold gr; rw [h1,Option.bind_some]; dsimp only; rw [if_neg Bool.false_ne_true,h2]
theorem test_ev {k:Kd} {v:Bool} (h:a ρ=some ((.bool v,.fz),ρ1)):aF a ρ=some (v,ρ1):=by
 unfold aF; rw [ak h]; rfl
theorem fR {c:Rho->Option (Bool × Rho)} {v:Bool} (h:c ρ=some (v,ρ1)):gP c ρ=some (!v,ρ1):=by unfold gP; rw [h]; rfl
theorem rT {c e:Rho->Option (Bool × Rho)} {o:Option (Bool × Rho)} (h:c ρ=some (true,ρ1)) (h2:e ρ1=o):lC c e ρ=o:=by unfold lC; rw [h]; simpa using h2
theorem Bv {c e:Rho->Option (Bool × Rho)} (h:c ρ=some (false,ρ1)):lC c e ρ=some (false,ρ1):=by unfold lC; rw [h]; rfl
theorem G0 {c e:Rho->Option (Bool × Rho)} (h:c ρ=some (true,ρ1)):mOr c e ρ=some (true,ρ1):=by unfold mOr; rw [h]; rfl
theorem j2 {c e:Rho->Option (Bool × Rho)} {o:Option (Bool × Rho)} (h:c ρ=some (false,ρ1)) (h2:e ρ1=o):mOr c e ρ=o:=by unfold mOr; rw [h]; simpa using h2
theorem rV (a b:List D) (h:a.length + b.length≤100000):eA (.list a) (.list b)=some (.list (a++b),true):=by
 show cIf _ _ _=_; rw [b0 (rS h)]
theorem eC {m:Rho->Option (List RV × Rho)} {rs:List RV} {ds:List D} (h1:m ρ=some (rs,ρ1)) (h2:eZ rs ρ1=some (ds,ρ2)) (h3:ds.length≤100000):dn m ρ=some ((.list ds,.new),ρ2):=by
 unfold dn; rw [h1,Option.bind_some]; dsimp only; rw [h2,Option.bind_some]; dsimp only; rw [b0 (rS h3)]
theorem c7 {m:Rho->Option (List RV × Rho)} {rs:List RV} {ds:List D} (h1:m ρ=some (rs,ρ1)) (h2:eZ rs ρ1=some (ds,ρ2)) (h3:ds.length≤100000):fm m ρ=some ((.tuple ds,.fz),ρ2):=by
 unfold fm; rw [h1,Option.bind_some]; dsimp only; rw [h2,Option.bind_some]; dsimp only; rw [b0 (rS h3)]
theorem Bw {fr:List (Str × Nat)} {it:Rho->Option (List D × Rho)} {c:Rho->Option (Bool × Rho)} {e:PM} {ds ys:List D} (h1:it ρ=some (ds,ρ1)) (h2:jV c e (fr.map fun p=>cI ρ1 p.2) ds=some ys) (h3:ys.length≤100000) :
  mLC fr it c e ρ=some ((.list ys,.new),ρ1):=by
 unfold mLC; rw [h1,Option.bind_some]; dsimp only; rw [h2,Option.bind_some,b0 (vf h3)]
theorem G1 {d:List D} {k:Kd} (h1:sv a ρ=some ((.list d,k),ρ1)):Bg a ρ=some (d,ρ1):=by
 unfold Bg; rw [h1]; rfl
theorem G2 {d:List D} (h1:sv a ρ=some ((.list d,.fz),ρ1)):Bi a ρ=some (d,ρ1):=by
 unfold Bi; rw [h1]; rfl
theorem gk (h:a ρ=some (r,ρ1)):fc a ρ=some (.nx ρ1):=by unfold fc; rw [h]; rfl
end
theorem rW {e:PM} {ρn:Rho} {α:Type} {f : α->D} {g : α->D}:∀ l:List α,(∀ x∈l,∃ ρ,sv e (.fz (f x)::ρn)=some ((g x,.fz),ρ))->jV DJ e ρn (l.map f)=some (l.map g)
 | [],_=>rfl
 | x::l,h=>by
  obtain ⟨ρ,h1⟩:=h x List.mem_cons_self
  have h2:=rW l fun y hy=>h y (List.mem_cons_of_mem _ hy)
  rw [List.map_cons,List.map_cons]
  unfold jV
  simp only [DJ,h1,h2,asF,Option.bind_some,Option.map_some,if_true]
theorem Bx (n:Nat):uT 0 n=(List.range n).map fun k:Nat=>PyData.int (k:Int):=by
 unfold uT
 congr 1
 funext k
 rw [Int.zero_add]
theorem IC {i j:Int} (h:(-(2 ^ 64) < i∧i < 2 ^ 64)∨(-(2 ^ 64) < j∧j < 2 ^ 64)):IntMulOk i j:=Ge.ok h
def IE (m:PM) (ρ:Rho) (v:Int):Prop:=m ρ=some ((.int v,.fz),ρ)
def BE (m:PM) (ρ:Rho) (v:Bool):Prop:=m ρ=some ((.bool v,.fz),ρ)
section
variable {a b:PM} {ρ:Rho} {i j:Int} {u v:Bool}
theorem zW {g:D->D->Option (D × Bool)} {k:Int} (h1:IE a ρ i) (h2:IE b ρ j) (h3:g (.int i) (.int j)=some (.int k,false)):IE (mOp g a b) ρ k:=bH (ak h1) (ak h2) h3
theorem By {g:D->D->Option (D × Bool)} {k:Bool} (h1:IE a ρ i) (h2:IE b ρ j) (h3:g (.int i) (.int j)=some (.bool k,false)):BE (mOp g a b) ρ k:=bH (ak h1) (ak h2) h3
theorem bU:IE (mC (.int i)) ρ i:=rfl
theorem b4 {k:Nat} (h : ρ[k]?=some (.fz (.int i))):IE (ai k) ρ i:=ao h
theorem i6 (h1:IE a ρ i) (h2:IE b ρ j):IE (mOp eA a b) ρ (i + j):=zW h1 h2 rfl
theorem i7 (h1:IE a ρ i) (h2:IE b ρ j):IE (mOp lT a b) ρ (i - j):=zW h1 h2 rfl
theorem Bz {C:Int->Int->Prop} {f:Int->Int->Int} (h:C i j):gI C f (.int i) (.int j)=some (.int (f i j),false):=by show cIf _ _ _=_; rw [b0 h]
theorem BA (h1:IE a ρ i) (h2:IE b ρ j) (h:IntMulOk i j):IE (mOp xi a b) ρ (i * j):=zW h1 h2 (by show cIf _ _ _=_; rw [b0 h])
theorem lF (h1:IE a ρ i) (h2:IE b ρ j) (h:Gb i j):IE (mOp i3 a b) ρ (i / j):=zW h1 h2 (Bz h)
theorem c8 (h1:IE a ρ i) (h2:IE b ρ j) (h : 0 < j):IE (mOp cJ a b) ρ (i % j):=zW h1 h2 (Bz (C:=fun _ j=>0 < j) h)
theorem xo (h1:IE a ρ i) (h2:IE b ρ j) (h:Gd i j):IE (mOp uX a b) ρ (i ^ j.toNat):=zW h1 h2 (Bz h)
theorem G3 (h1:IE a ρ i):IE (mUn zO a) ρ (-i):=by unfold IE mUn; rw [ak h1]; rfl
theorem Fu (h1:IE a ρ i) (h2:IE b ρ j):BE (mOp gEq a b) ρ (decide (i=j)):=By h1 h2 (yD i j)
theorem rX (h1:IE a ρ i) (h2:IE b ρ j):BE (mOp gNe a b) ρ (!decide (i=j)):=By h1 h2 (yE i j)
theorem Fv (h1:IE a ρ i) (h2:IE b ρ j):BE (mOp gLt a b) ρ (decide (i < j)):=By h1 h2 rfl
theorem pJ (h1:IE a ρ i) (h2:IE b ρ j):BE (mOp gGt a b) ρ (decide (j < i)):=By h1 h2 rfl
theorem Fw (h1:IE a ρ i) (h2:IE b ρ j):BE (mOp gGe a b) ρ (decide (j≤i)):=By h1 h2 rfl
theorem BE.t (h:BE a ρ v):aF a ρ=some (v,ρ):=test_ev (k:=.fz) h
theorem BE.is (h:BE a ρ u) (e:u=v):BE a ρ v:=e ▸ h
theorem IE.is (h:IE a ρ i) (e:i=j):IE a ρ j:=e ▸ h
theorem kL {f:List D->Option (D × Bool)} {m:Rho->Option (List RV × Rho)} {rs:List RV} (h1:m ρ=some (rs,ρ)) (h2:f (rs.map (·.1))=some (.int i,false)):IE (bJ f m) ρ i:=cz h1 h2 rfl
theorem iJ {f:List D->Option (D × Bool)} {m:Rho->Option (List RV × Rho)} {rs:List RV} (h1:m ρ=some (rs,ρ)) (h2:f (rs.map (·.1))=some (.bool v,false)):BE (bJ f m) ρ v:=cz h1 h2 rfl
theorem IE.cons {m:Rho->Option (List RV × Rho)} {rs:List RV} (h:IE a ρ i) (h2:m ρ=some (rs,ρ)):ah a m ρ=some ((.int i,.fz)::rs,ρ):=au (ak h) h2
end
section
variable {a b:PM} {ρ:Rho} {i j:Int} {u v:Bool}
theorem ig (h:BE a ρ u) (e:u=v):aF a ρ=some (v,ρ):=e ▸ h.t
theorem dX {m:Rho->Option (List RV × Rho)} {rs:List RV} (h:IE a ρ i) (h2:m ρ=some (rs,ρ)):ah a m ρ=some ((.int i,.fz)::rs,ρ):=au (ak h) h2
theorem tEq (h1:IE a ρ i) (h2:IE b ρ j) (h:i=j):aF (mOp gEq a b) ρ=some (true,ρ):=ig (Fu h1 h2) (decide_eq_true h)
theorem tNe (h1:IE a ρ i) (h2:IE b ρ j) (h:i≠j):aF (mOp gEq a b) ρ=some (false,ρ):=ig (Fu h1 h2) (decide_eq_false h)
end
theorem mY {n:String} {a:PM} {ρ ρ1:Rho} {d:D} {k:Kd} {v:Bool} (h1:sv a ρ=some ((d,k),ρ1)) (h2:j9 n d=some (.bool v,false)):kY n a ρ=some ((.bool v,.fz),ρ1):=by
 unfold kY mUn; rw [h1,Option.bind_some]; dsimp only; rw [h2]; rfl
theorem vg {α:Type} (x : α) (l:List α):atI (x::l) 0=some x:=oJ (x::l) 0
theorem jn {g:D->Rho->Option Rho} {b:SM} {d:D} {ds:List D} {ρ ρ1 ρ2:Rho} {o:Option Out} (h1:g d ρ=some ρ1) (h2:b ρ1=some (.nx ρ2)) (h3:forL g b ds ρ2=o):forL g b (d::ds) ρ=o:=by
 show ((g d ρ).bind _)=_
 rw [h1,Option.bind_some,h2]
 exact h3
theorem DR {g:D->Rho->Option Rho} {b:SM} {d:D} {ds:List D} {ρ ρ1 ρ2:Rho} {r:RV} (h1:g d ρ=some ρ1) (h2:b ρ1=some (.rt r ρ2)):forL g b (d::ds) ρ=some (.rt r ρ2):=by
 show ((g d ρ).bind _)=_
 rw [h1,Option.bind_some,h2]
 rfl
end Mir
namespace Mir
open PySem L2
variable [Zc]
def asS:D->Option (List D)
 | .list ds=>some ds
 | .tuple ds=>some ds
 | _=>none
def mgU (n:Nat) (ms:List D->Rho->Option Rho):D->Rho->Option Rho:=fun d ρ=>(asS d).bind fun ds=>if ds.length=n then ms ds ρ else none
theorem iK {K:PySem.W.Frag} {n:Nat} {gs:TGs} {ms:List D->Rho->Option Rho} (h:MGs gs ms):MG (A8 K n gs) (mgU n ms):=fun F B H σ ρ v d ρ' Q R rp e q=>by
 obtain ⟨ds,e1,e2⟩:=Option.bind_eq_some_iff.mp e
 cases rp with
 | tup hp rs =>
  cases e1
  split at e2
  ·rename_i hn
   exact ⟨_,_,rfl,.inl (.inl (.inl (R.sub _ _ hp))),by rw [rs.length]; exact hn,h F B H σ ρ _ _ ρ' Q R rs e2 q⟩
  ·cases e2
 | lst hp rs =>
  cases e1
  split at e2
  ·rename_i hn
   exact ⟨_,_,rfl,.inr (jU (d7 R.sub hp)),by rw [rs.length]; exact hn,h F B H σ ρ _ _ ρ' Q R rs e2 q⟩
  ·cases e2
 | _=>cases e1
end Mir
namespace L2
open PySem PySem.Spec PyProof.Rows
variable {X:Cx}
end L2
namespace Mir
open PySem L2
variable [Zc]
theorem vh (a b:Int):zQ [.int a,.int b]=some (.int (min a b),false):=by
 show some (PyData.int (if b < a then b else a),false)=_
 rw [show (if b < a then b else a)=min a b by split <;> omega]
end Mir
namespace Mir
open PySem L2
inductive vk where
 | ok (o:Out) | er (c:Str) (ρ:Rho)
abbrev EM:=Rho->Option vk
section
variable [Zc]
def G4 (F:Fr) (D:Ends) (W:Str->Hp->Prop):vk->Prop
 | .ok o=>k7 F D o
 | .er c ρ=>∀ B H σ,Rel F B H σ ρ->W c H
def MSE (W:Str->Hp->Prop) (t:TS) (m:EM):Prop:=∀ (F:Fr) (B H:Hp) (σ:St) (ρ:Rho) (o:vk) (D:Ends),Rel F B H σ ρ->m ρ=some o->G4 F D W o->t D σ H
def k9 (m:SM):EM:=fun ρ=>(m ρ).map .ok
theorem ij {W:Str->Hp->Prop} {t:TS} {m:SM} (h:MS t m):MSE W t (k9 m):=by
 intro F B H σ ρ o D R e q
 obtain ⟨x,e1,e⟩:=Option.map_eq_some_iff.mp e
 cases e
 exact h F B H σ ρ x D R e1 q
def pK (a b:EM):EM:=fun ρ=>(a ρ).bind fun o=>match o with
 | .ok (.nx ρ')=>b ρ'
 | o=>some o
theorem kM {W:Str->Hp->Prop} {t u:TS} {a b:EM} (ha:MSE W t a) (hb:MSE W u b):MSE W (zA t u) (pK a b):=by
 intro F B H σ ρ o D R e q
 obtain ⟨x,e1,e⟩:=Option.bind_eq_some_iff.mp e
 refine ha F B H σ ρ x _ R e1 ?_
 cases x with
 | er c ρ1=>cases e; exact q
 | ok x =>
  cases x with
  | nx ρ1=>exact fun B1 H1 σ1 R1=>hb F B1 H1 σ1 ρ1 o D R1 e q
  | rt r ρ1=>cases e; exact q
  | bk ρ1=>cases e; exact q
  | ct ρ1=>cases e; exact q
def eIf (c:Rho->Option (Bool × Rho)) (a b:EM):EM:=fun ρ=>(c ρ).bind fun x=>if x.1=true then a x.2 else b x.2
theorem BB {W:Str->Hp->Prop} {tc:TT} {t u:TS} {c:Rho->Option (Bool × Rho)} {a b:EM} (hc:MT tc c) (ha:MSE W t a) (hb:MSE W u b):MSE W (AJ tc t u) (eIf c a b):=by
 intro F B H σ ρ o D R e q
 obtain ⟨x,e1,e⟩:=Option.bind_eq_some_iff.mp e
 refine hc F B H σ ρ x.1 x.2 _ R e1 fun B' H' E R'=>?_
 by_cases h:x.1=true
 ·rw [if_pos h] at e ⊢; exact ha F B' H' σ x.2 o D R' e q
 ·rw [if_neg h] at e ⊢; exact hb F B' H' σ x.2 o D R' e q
def xp (c:Str) (m:Rho->Option (List RV × Rho)):EM:=fun ρ=>(m ρ).bind fun x=>if x.1.length≤100 then some (.er c x.2) else none
theorem BC {F:Fr} {B H:Hp} {σ:St} {ρ:Rho}:∀ {vs:List V} {rs:List RV},Vl F B H σ ρ vs rs->vs.length=rs.length
 | [],[],_=>rfl
 | _::_,_::_,⟨_,t⟩=>by rw [List.length_cons,List.length_cons,BC t]
theorem rY {W:Str->Hp->Prop} {W':Hp->Prop} {c:Str} {t:TA} {m:Rho->Option (List RV × Rho)} (h:MA t m) (hw:∀ H,W c H->W' H):MSE W (A9 W' t) (xp c m):=by
 intro F B H σ ρ o D R e q
 obtain ⟨x,e1,e⟩:=Option.bind_eq_some_iff.mp e
 split at e
 ·rename_i hz
  cases e
  refine h F B H σ ρ x.1 x.2 _ R e1 fun vs B1 H1 E1 R1 V1=>⟨by rw [BC V1]; exact hz,hw _ (q B1 H1 σ R1)⟩
 ·cases e
def fnX (n k:Nat) (b:EM) (ds:List D):Option ((D × Bool) ⊕ Str):=if ds.length=n then (b (ds.map .fz++List.replicate k .no)).bind fun o=>match o with
 | .ok o=>(pz o).map .inl
 | .er c _=>some (.inr c)
 else none
def spX (cl:Str->Value) (f:List D->Option ((D × Bool) ⊕ Str)):Sp:=fun vs H Q E=>∃ B ds w,aC B H∧(∀ q xs,H q=some (.tup xs)->B q=some (.tup xs))∧aP B vs ds∧f ds=some w ∧
 match w with
 | .inl (d,o)=>∀ v B' H',Post B H v B' H' d o->Q v H'
 | .inr c=>∀ B' H',Post B H .non B' H' .none false->E (cl c) none H'
theorem yF {cl:Str->Value} {n k:Nat} {b:EM} {t:TS} {N:List Str} {vs:List V} {H:Hp} {Q:VK} {E:XK} (hb:MSE (fun c H=>E (cl c) none H) t b) (hN:N.length=n + k) (h:spX cl (fnX n k b) vs H Q E):t { nx:=fun _ H'=>Q .non H',rt:=Q } (L2.start N vs) H:=by
 obtain ⟨B,ds,w0,sub,tB,rp,e,q⟩:=h
 unfold fnX at e
 split at e
 case isFalse=>cases e
 rename_i hl
 obtain ⟨w,e1,e2⟩:=Option.bind_eq_some_iff.mp e
 have hvl:vs.length=n:=rp.length.trans hl
 have iZ:∀ (i:Nat) (s:Sl),(ds.map Sl.fz++List.replicate k .no)[i]?=some s->s.isRef=true->False:=fun i s h1 h2=>by
  have:=List.mem_of_getElem? h1
  rcases List.mem_append.mp this with h | h
  ·obtain ⟨c,_,rfl⟩:=List.mem_map.mp h; cases h2
  ·rw [List.eq_of_mem_replicate h] at h2; cases h2
 have ex0:∀ i:Nat,(ds.map Sl.fz++List.replicate k .no)[i]?=some Sl.ex->False:=fun i h1=>by
  have:=List.mem_of_getElem? h1
  rcases List.mem_append.mp this with h | h
  ·obtain ⟨c,_,z⟩:=List.mem_map.mp h; cases z
  ·have:=List.eq_of_mem_replicate h; cases this
 have R:Rel ⟨B,H,[],fun q=>H q≠none⟩ B H (L2.start N vs) (ds.map .fz++List.replicate k .no):=by
  refine ⟨sub,aC.refl _,fun _ _ z _=>z,fun _ _ z=>z,?_,fun i s hs=>?_,fun i j s t p h1 h2=>(iZ i s h1 (Sl.jy h2)).elim,fun i c p h1=>(iZ i _ h1 rfl).elim,(fun x hx=>by cases hx),fun i c h1=>(iZ i _ h1 rfl).elim,tB,(fun i h1=>(ex0 i h1).elim),fun q o u h z=>by rw [z] at h; cases h⟩
  ·simp [L2.start,hl,hvl,hN]
  ·by_cases hi:i < n
   ·rw [List.getElem?_append_left (by simpa [hl] using hi),List.getElem?_map] at hs
    obtain ⟨c,h1,rfl⟩:=Option.map_eq_some_iff.mp hs
    obtain ⟨x,h2,h3⟩:=rp.get i c h1
    refine ⟨x,?_,h3⟩
    unfold L2.start
    rw [List.getElem?_append_left (by simpa [hvl] using hi),List.getElem?_map,h2]
    rfl
   ·rw [List.getElem?_append_right (by simpa [hl] using Nat.le_of_not_lt hi)] at hs
    have:=List.eq_of_mem_replicate (List.mem_of_getElem? hs)
    subst this
    trivial
 refine hb _ B H _ _ w _ R e1 ?_
 have post:∀ {B' H':Hp} {σ':St} {ρ':Rho},Rel ⟨B,H,[],fun q=>H q≠none⟩ B' H' σ' ρ'->aC H H'∧aC B B'∧aC B' H'∧(∀ q,H q≠none->B q=none->B' q=none)∧(∀ q xs,H' q=some (.tup xs)->B' q=some (.tup xs))∧∀ q o u,H' q=some (.frz o u)->H q≠none:=fun R' =>
  ⟨fun q u z=>R'.sH q u z (fun x hx=>by cases hx),R'.sB,R'.sub,R'.nB,R'.cC,R'.nz⟩
 cases w with
 | er c ρ' =>
  cases e2
  intro B' H' σ' R'
  obtain ⟨p1,p2,p3,p4,p5,p6⟩:=post R'
  exact q B' H' ⟨p1,p2,p3,p4,p5,p6,.non⟩
 | ok w =>
 replace e2:=Option.map_eq_some_iff.mp e2
 obtain ⟨⟨d,o⟩,e2,e3⟩:=e2
 subst e3
 cases w with
 | nx ρ' =>
  cases e2
  intro B' H' σ' R'
  obtain ⟨p1,p2,p3,p4,p5,p6⟩:=post R'
  exact q _ B' H' ⟨p1,p2,p3,p4,p5,p6,.non⟩
 | bk ρ'=>cases e2
 | ct ρ'=>cases e2
 | rt r ρ' =>
  intro v B' H' σ' R' V'
  obtain ⟨p1,p2,p3,p4,p5,p6⟩:=post R'
  obtain ⟨c,kd⟩:=r
  cases kd with
  | fz=>cases e2; exact q v B' H' ⟨p1,p2,p3,p4,p5,p6,V'⟩
  | new =>
   cases e2
   obtain ⟨p,rfl,h1,h2,h3,_⟩:=V'
   exact q _ B' H' ⟨p1,p2,p3,p4,p5,p6,⟨p,rfl,h2,h1,h3⟩⟩
  | ro=>cases e2
  | «at» i =>
   obtain ⟨s,h1,h2,h3,h4⟩:=V'
   have e2':(match ρ'[i]? with
    | some (.own d)=>some (d,true)
    | _=>none)=some (d,o):=e2
   rw [h1] at e2'
   cases s with
   | own c' =>
    cases e2'
    obtain ⟨p,g1,g2,g3⟩:=R'.slot i _ h1
    have h4' : σ'[i]?=some (some v):=h4
    rw [h4'] at g1
    cases g1
    exact q _ B' H' ⟨p1,p2,p3,p4,p5,p6,⟨p,rfl,R'.jl i _ p h1 h4',g2,g3⟩⟩
   | _=>cases e2'
theorem yG {cl:Str->Value} {n k:Nat} {b:EM} {vs:List V} {H:Hp} {Q:VK} {E:XK} (h:spX cl (fnX n k b) vs H Q E):vs.length=n:=by
 obtain ⟨B,ds,w,sub,tB,rp,e,q⟩:=h
 unfold fnX at e
 split at e
 ·rename_i hl; exact rp.length.trans hl
 ·cases e
end
def BD (ρ:Rho):Bool:=ρ.all fun s=>match s with
 | .ex=>false
 | _=>true
theorem yH {ρ:Rho} (h:BD ρ=true) (j:Nat) (z : ρ[j]?=some .ex):False:=by
 have:=(List.all_eq_true.mp h) _ (List.mem_of_getElem? z)
 cases this
theorem Rel.ID {z z':Zc} {F:Fr} {B H:Hp} {σ:St} {ρ ρ':Rho} {i:Nat} {s:Sl} (v:Option V) (R : @Rel z F B H σ ρ) (h:eK ρ i s=some ρ') (hs:s=.no∨s=.ex) (hex:∀ j:Nat,ρ'[j]?=some .ex->(σ.set i v)[j]?=some (some (.ref z'.e))) : @Rel z' F B H (σ.set i v) ρ':=by
 obtain ⟨rfl,s0,h0,nio⟩:=l6 h
 obtain ⟨r1,r2,r3,r4,r5,r6,r7,r8,r9,r10,r11,r12,r13⟩:=R
 have nr:s.isRef=false:=by rcases hs with rfl | rfl <;> rfl
 have no:s.dA=false:=by rcases hs with rfl | rfl <;> rfl
 have so:∀ j,j≠i->(σ.set i v)[j]?=σ[j]?:=fun j hj=>List.getElem?_set_ne fun e=>hj e.symm
 refine @Rel.mk z' _ _ _ _ _ r1 r2 r3 r4 (by rw [List.length_set,List.length_set]; exact r5) ?_ ?_ ?_ ?_ ?_ r11 hex r13
 ·intro j s' hs'
  rcases get_set hs' with ⟨rfl,rfl,_⟩ | ⟨hj,hs'⟩
  ·rcases hs with rfl | rfl <;> trivial
  ·exact (r6 j s' hs').at (so j hj)
 ·intro a b s' t p h1 h2 h3 h4 h5 h6
  rcases get_set h1 with ⟨rfl,rfl,_⟩ | ⟨ha,h1⟩
  ·rw [no] at h2; cases h2
  ·rcases get_set h3 with ⟨rfl,rfl,_⟩ | ⟨hb,h3⟩
   ·rw [nr] at h4; cases h4
   ·rw [so a ha] at h5; rw [so b hb] at h6; exact r7 a b s' t p h1 h2 h3 h4 h5 h6
 ·intro j c p h1 h2
  rcases get_set h1 with ⟨rfl,e,_⟩ | ⟨hj,h1⟩
  ·rw [← e] at no; cases no
  ·rw [so j hj] at h2; exact r8 j c p h1 h2
 ·intro x hx
  obtain ⟨h1,c,h2⟩:=r9 x hx
  have z:x.1≠i:=fun z=>by rw [z,h0] at h2; cases h2; exact nio _ rfl
  exact ⟨by rw [so _ z]; exact h1,c,by rw [List.getElem?_set_ne fun e=>z e.symm]; exact h2⟩
 ·intro j c h1
  rcases get_set h1 with ⟨rfl,e,_⟩ | ⟨hj,h1⟩
  ·rw [← e] at no; cases no
  ·exact r10 j c h1
def Fx (i:Nat):Out->Option Out
 | .nx ρ=>(eK ρ i .no).bind fun ρ'=>if BD ρ'=true then some (.nx ρ') else none
 | _=>none
def yI (f:List D->Option ((D × Bool) ⊕ Str)) (m:Rho->Option (List RV × Rho)) (i:Nat) (su:Str->Option SM):SM:=fun ρ=>(m ρ).bind fun x=>(f (x.1.map (·.1))).bind fun w=>match w with
 | .inl _=>some (.nx x.2)
 | .inr c=>(su c).bind fun s=>if BD x.2=true then (eK x.2 i .ex).bind fun ρ1=>(s ρ1).bind (Fx i) else none
theorem DS [z:Zc] {cl:Str->Value} {f:List D->Option ((D × Bool) ⊕ Str)} {t:TA} {m:Rho->Option (List RV × Rho)} {i:Nat} {su:Str->Option SM} {ok:Value->Prop} {th:Value->Addr->TS} (h:MA t m) (hok:∀ c s,su c=some s->ok (cl c))
  (hs:∀ c s,su c=some s->∀ e:Addr,@MS ⟨e⟩ (th (cl c) e) s):MS (Bb (spX cl f) t i ok th) (yI f m i su):=by
 intro F B H σ ρ o D R e q
 obtain ⟨x,e1,e⟩:=Option.bind_eq_some_iff.mp e
 obtain ⟨w,e2,e⟩:=Option.bind_eq_some_iff.mp e
 refine h F B H σ ρ x.1 x.2 _ R e1 fun vs B1 H1 E1 R1 V1=>?_
 have grow:∀ {v:V} {B' H':Hp} {d:PyData} {o:Bool},Post H1 H1 v B' H' d o->∃ B2,Rel F B2 H' σ x.2:=fun {v B' H' d o} P=>by
  let B2:Hp:=fun q=>if H1 q=none then B' q else B1 q
  have old:∀ q,H1 q≠none->B2 q=B1 q:=fun q z=>if_neg z
  have new:∀ q,H1 q=none->B2 q=B' q:=fun q z=>if_pos z
  have eB:aC B1 B2:=fun q o z=>by rw [old q (by rw [R1.sub q o z]; simp)]; exact z
  have sub:aC B2 H':=fun q o z=>by
   by_cases y:H1 q=none
   ·rw [new q y] at z; exact P.sub q o z
   ·rw [old q y] at z; exact P.eH q o (R1.sub q o z)
  have nb:∀ q,H1 q≠none->B1 q=none->B2 q=none:=fun q y z=>by rw [old q y]; exact z
  have tB:∀ q xs,H' q=some (.tup xs)->B2 q=some (.tup xs):=fun q xs z=>by
   cases y:H1 q with
   | none=>rw [new q y]; exact P.tB q xs z
   | some o =>
    have:=P.eH q o y
    rw [z] at this
    cases this
    rw [old q (by rw [y]; simp)]; exact R1.cC q xs y
  exact ⟨B2,R1.grow eB P.eH sub nb tB P.nz⟩
 refine ⟨H1,_,w,aC.refl _,fun _ _ z=>z,(V1.views R1).reps R1.sub,e2,?_⟩
 cases w with
 | inl w =>
  cases e
  obtain ⟨d,o'⟩:=w
  intro v B' H' P
  obtain ⟨B2,R2⟩:=grow P
  exact q B2 H' σ R2
 | inr c =>
  obtain ⟨s,e3,e⟩:=Option.bind_eq_some_iff.mp e
  split at e
  ·rename_i hn
   obtain ⟨ρ1,e4,e⟩:=Option.bind_eq_some_iff.mp e
   obtain ⟨o1,e5,e6⟩:=Option.bind_eq_some_iff.mp e
   intro B' H' P
   obtain ⟨B2,R2⟩:=grow P
   refine ⟨hok c s e3,fun ea hea=>?_⟩
   have IF:=l6 e4
   have hl:i < σ.length:=by
    obtain ⟨_,s0,h0,_⟩:=IF
    have:=(List.getElem?_eq_some_iff.mp h0).1
    rw [R2.len] at this
    exact this
   have R3 : @Rel ⟨ea⟩ F B2 H' (σ.set i (some (.ref ea))) ρ1:=Rel.ID (z:=z) (z':=⟨ea⟩) (some (.ref ea)) R2 e4 (.inr rfl) fun j hj=>by
    obtain ⟨rfl,_⟩:=IF
    rcases get_set hj with ⟨rfl,_,_⟩ | ⟨_,hj⟩
    ·exact List.getElem?_set_self hl
    ·exact (yH hn j hj).elim
   refine hs c s e3 ea F B2 H' _ ρ1 o1 _ R3 e5 ?_
   cases o1 with
   | nx ρ2 =>
    obtain ⟨ρ3,e7,e8⟩:=Option.bind_eq_some_iff.mp (show (eK ρ2 i .no).bind _=some o from e6)
    split at e8
    ·rename_i hn2
     cases e8
     intro B4 H4 σ4 R4
     exact q B4 H4 _ (Rel.ID (z:=⟨ea⟩) (z':=z) none R4 e7 (.inl rfl) fun j hj=>(yH hn2 j hj).elim)
    ·cases e8
   | rt r ρ2=>cases e6
   | bk ρ2=>cases e6
   | ct ρ2=>cases e6
  ·cases e
def dk (i:Nat) (b:Bool):PM:=fun ρ=>match ρ[i]? with
 | some .ex=>some ((.bool b,.fz),ρ)
 | _=>none
theorem DT {i:Nat} {b:Bool} {ρ ρ':Rho} {r:RV} (e:dk i b ρ=some (r,ρ')) : ρ[i]?=some .ex∧r=(.bool b,.fz)∧ρ'=ρ:=by
 unfold dk at e
 split at e
 ·rename_i h; cases e; exact ⟨h,rfl,rfl⟩
 ·cases e
theorem eO [Zc] {K:PySem.W.Frag} {Dc:Addr} {i:Nat} {b:Bool} {c:V} {cv:Value} (hcv:∀ u,RelV c u->u=cv) (hk:PySem.W.kitOne K (.ref Dc) cv=some b):ME (tCB (Bc K Zc.e Dc) (hE (lz i) (hE (tC c) w9))) (dk i b):=by
 intro F B H σ ρ r0 ρ' Q R e q
 obtain ⟨h,rfl,rfl⟩:=DT e
 exact ⟨_,R.exv i h,.inl ⟨c,cv,b,rfl,hcv,hk,q _ B H (Ext.refl _ _ _ _) R (.bl b) fun p z=>by cases z⟩⟩
end Mir
namespace L2
open PySem PySem.Spec PyProof.Rows
theorem Top.IG {P:Program} {w:World} {K:PySem.W.Frag} {mg:Str->Option Value} {base:Heap} {x:Str} {st:Stmt} {N ps:List Str} {k:Nat} {sp:Sp} (T:Top K mg x st) (S:bC N ps (aK st)) (len:∀ vs H Q E,sp vs H Q E->vs.length=ps.length)
  (hb:∀ (kV doc pm:Value) (an:Option Addr) (cdv ct:Value) (us:List Value),us.length=ps.length->bindArgs (PySem.W.fnOf x x (iG st) (ft st) (aK st) .none kV doc pm an cdv ct) ⟨us,[]⟩=pure (ps.zip us))
  (hbody:∀ (f:Addr) (cdv:Value) (A:Around) (outer:List Env) (s:Shared) (H:Hp) (vs:List V) (Q:VK) (E:XK),fq k (A.deeper (envOfC x (aK st) s.heap.objs.size f cdv))->sp vs H Q E ->
   ∃ t,PSs (mO (CXW P w) P w K mg base N x (aK st) f cdv A outer s H E) (ft st) t∧t { nx:=fun _ H'=>Q .non H',rt:=Q } (start N vs) H):Def P w K mg base (CXW P w) (k + 1) x ps sp:=by
 obtain ⟨f,fd,F,m⟩:=T.ex
 refine ⟨⟨f,fd,?_,m,F.kp,F.binds hb⟩⟩
 obtain ⟨oc,od,kV,doc,pm,an,cdv,ct,osl,rfl,lk,hcd⟩:=F.ex
 exact ej lk hcd S len fun A outer s H vs Q E hr hsp=>hbody f cdv A outer s H vs Q E hr hsp
end L2
namespace L2
open PySem PySem.Spec PyProof.Rows
def clM (mg:Str->Option Value) (c:Str):Value:=(mg c).getD .none
theorem mZ {mg:Str->Option Value} {c:Str} {v:Value} (h:mg c=some v):clM mg c=v:=by unfold clM; rw [h]; rfl
def addrOf:Value->Addr
 | .ref a=>a
 | _=>0
def okX (K:PySem.W.Frag) (C:Addr) (cls:Value):Prop:=∃ D,cls=.ref D∧uQ K D∧PySem.W.exmOne K cls (.ref C)=some true
theorem gZ {X:Cx} {K:PySem.W.Frag} {C e:Addr} {cls:Value} {oe:Obj} (h:X.K=K) (hok:okX K C cls) (hoc:oe.cls=cls):dU (X.inX e oe) (.builtin "isinstance") (Bc K e (addrOf cls)):=by
 subst h
 obtain ⟨D,rfl,Z,_⟩:=hok
 exact zK (X:=X.inX e oe) (List.mem_cons_self) hoc Z
theorem DU {X:Cx} {K:PySem.W.Frag} {k:Nat} {C:Addr} {ps:List Str} {sp:Sp} {x xC n:Str} {p np pos pos' epos hpos:Pos} {a:Expr} {es:List Expr} {t:TA} {i:Nat} {th:Value->Addr->TS} {b₀:Stmt} {suite:List Stmt}
  (hK:X.K=K) (hxe:X.xe=fun _ _=>False) (Df:Def X.prog X.w X.K X.mg X.base (CXW X.prog X.w) k x ps sp) (hr:fq k X.A) (ha:PA X (a::es) t) (hst:X.stack=X.env::X.outer) (hfr:X.env.frame=some X.env.locals) (hg:Gl X x) (hgC:Gl X xC)
  (hmC:X.mg xC=some (.ref C)) (hN:X.N.Nodup) (hi:X.N[i]?=some n) (hln:X.env.scope.names.lookup n=some .local) (hS:∀ (cls:Value) (e:Addr) (oe:Obj),oe.cls=cls->okX K C cls->PSs (X.inX e oe) (b₀::suite) (th cls e))
  (hdb:(x == ("__debug__":Str))=false:=by decide) (hdC:(xC == ("__debug__":Str))=false:=by decide) (he:starEach (a::es) X.env=(false,eval a X.env)::starEach es X.env:=by rfl) (hpl:(backTo pos' (starEach es X.env)).any (·.1)=false:=by rfl)
  (hs:swapsWith (.Call (.Name x p) (a::es) [] pos') none epos.line X.env=pure false:=by rfl) :
  PS X (.Try [.Expr (.Call (.Name x p) (a::es) [] pos') epos] [.ExceptHandler (some (.Name xC np)) (some n) (b₀::suite) hpos] [] [] pos) (Bb sp t i (okX K C) th):=by
 subst hK
 obtain ⟨f,fd,F,m,kp,b⟩:=Df.ex
 exact DC hxe F hr hg m kp b ha hst hfr hgC hmC (fun cls h=>by obtain ⟨_,_,_,z⟩:=h; exact z) hN hi hln hS hdb hdC he hpl hs
end L2
namespace L2
open PySem PySem.Spec PyProof.Rows
theorem Vals.picks {xs:List V} {us:List Value} (r:Vals xs us):∀ is:List Nat,Vals (is.filterMap (xs[·]?)) (is.filterMap (us[·]?))
 | []=>.nil
 | i::is=>by
  cases h:xs[i]? with
  | none=>rw [List.filterMap_cons_none h,List.filterMap_cons_none (r.none_of h)]; exact r.picks is
  | some x =>
   obtain ⟨u,h1,h2⟩:=r.get h
   rw [List.filterMap_cons_some h,List.filterMap_cons_some h1]
   exact .cons h2 (r.picks is)
section
variable {X:Cx} {e:Expr} {te:TE} {est:Expr} {lo hi:Option Expr} {tl th tk:TO} {pos p2:Pos}
end
end L2
namespace Mir
open PySem L2
variable [Zc]
theorem aP.picks {H:Hp} {vs:List V} {ds:List D} (r:aP H vs ds):∀ is:List Nat,aP H (is.filterMap (vs[·]?)) (is.filterMap (ds[·]?))
 | []=>.nil
 | i::is=>by
  cases h:ds[i]? with
  | none =>
   have h':vs[i]?=none:=by
    rw [List.getElem?_eq_none_iff] at h ⊢
    rw [r.length]; exact h
   rw [List.filterMap_cons_none h,List.filterMap_cons_none h']; exact r.picks is
  | some x =>
   obtain ⟨u,h1,h2⟩:=r.get i x h
   rw [List.filterMap_cons_some h,List.filterMap_cons_some h1]
   exact .cons h2 (r.picks is)
end Mir
namespace Mir
open PySem L2
section
variable [Zc]
def LF (B:Hp):Prop:=∀ q o,B q=some o->∃ xs,o=.tup xs
structure FrP (F:Fr):Prop where
 lf:LF F.B
 io:F.io=[]
 zh:∀ q,F.Z q->F.H q≠none
def MSP (t:TS) (m:SM):Prop:=∀ (F:Fr) (B H:Hp) (σ:St) (ρ:Rho) (o:Out) (D:Ends),FrP F->Rel F B H σ ρ->m ρ=some o->k7 F D o->t D σ H
theorem MS.p {t:TS} {m:SM} (h:MS t m):MSP t m:=fun F B H σ ρ o D _ R e q=>h F B H σ ρ o D R e q
def tups (H:Hp):Hp:=fun q=>match H q with
 | some (.tup xs)=>some (.tup xs)
 | _=>none
theorem aP.put {B B':Hp} (k:∀ q xs,B q=some (.tup xs)->B' q=some (.tup xs)) {x:V} {c c':D} (hr:Rep B' x c'):∀ {vs:List V} {ds:List D} (j:Nat),aP B vs ds->vs[j]?=some x->ds[j]?=some c->bI (ds.set j .none)=true->aP B' vs (ds.set j c')
 | _,_,_,.nil,h,_,_=>by simp at h
 | _,_,0,.cons a b,h1,h2,e=>by
  simp only [List.getElem?_cons_zero,Option.some.injEq] at h1
  subst h1
  simp only [List.set_cons_zero,bI,Bool.and_eq_true] at e
  exact .cons hr (b.dq k e.2)
 | _,_,j + 1,.cons a b,h1,h2,e=>by
  simp only [List.set_cons_succ,bI,Bool.and_eq_true] at e
  exact .cons (a.dq k e.1) (aP.put k hr j b (by simpa using h1) (by simpa using h2) e.2)
end
end Mir
namespace Mir
open PySem L2
section
variable [Zc]
structure IH (B H:Hp) (p:Addr) (v:V) (B' H':Hp) (d:D) (o:Bool) (d1:D):Prop where
 eH:∀ q u,q≠p->H q=some u->H' q=some u
 eB:aC B B'
 sub:aC B' H'
 nb:∀ q,H q≠none->B q=none->B' q=none
 tB:∀ q xs,H' q=some (.tup xs)->B' q=some (.tup xs)
 nz:∀ q o u,H' q=some (.frz o u)->H q≠none
 own:Own B' H' p d1
 val:if o=true then ∃ p,v=.ref p∧H p=none∧B' p=none∧Own B' H' p d else Rep B' v d
def spI (f:List D->Option ((D × Bool) × D)):Sp:=fun vs H Q _=>∃ B p us d0 ds r d1,vs=.ref p::us∧aC B H∧(∀ q xs,H q=some (.tup xs)->B q=some (.tup xs))∧B p=none∧Own B H p d0∧aP B us ds∧f (d0::ds)=some (r,d1)∧∀ v B' H',IH B H p v B' H' r.1 r.2 d1->Q v H'
def m4:Out->Rho
 | .nx ρ=>ρ
 | .rt _ ρ=>ρ
 | .bk ρ=>ρ
 | .ct ρ=>ρ
def io0:Rho->Option D
 | .io d::_=>some d
 | _=>none
theorem G5 {ρ:Rho} {d:D} (h:io0 ρ=some d) : ρ[0]?=some (Sl.io d):=by
 unfold io0 at h
 split at h
 ·cases h; rfl
 ·cases h
def fnI (n k:Nat) (b:SM):List D->Option ((D × Bool) × D)
 | []=>none
 | d0::ds=>if ds.length + 1=n then (b (.io d0::ds.map .fz++List.replicate k .no)).bind fun o=>(pz o).bind fun r=>(io0 (m4 o)).map fun d=>(r,d) else none
theorem DV {n k:Nat} {b:SM} {t:TS} {N:List Str} {vs:List V} {H:Hp} {Q:VK} {E:XK} (hb:MS t b) (hN:N.length=n + k) (h:spI (fnI n k b) vs H Q E):t { nx:=fun _ H'=>Q .non H',rt:=Q } (L2.start N vs) H:=by
 obtain ⟨B,p,us,d0,ds,r0,d1,rfl,sub,tB,hB,ow,rp,e,q⟩:=h
 simp only [fnI] at e
 split at e
 case isFalse=>cases e
 rename_i hl
 obtain ⟨w,e1,e2⟩:=Option.bind_eq_some_iff.mp e
 obtain ⟨r,e2,e3⟩:=Option.bind_eq_some_iff.mp e2
 obtain ⟨d,e3,e4⟩:=Option.map_eq_some_iff.mp e3
 cases e4
 have hvl:us.length + 1=n:=by rw [rp.length]; exact hl
 have iZ:∀ (i:Nat) (s:Sl),(Sl.io d0::ds.map Sl.fz++List.replicate k .no)[i]?=some s->s.isRef=true->i=0∧s=.io d0:=fun i s h1 h2=>by
  cases i with
  | zero=>rw [List.cons_append,List.getElem?_cons_zero] at h1; cases h1; exact ⟨rfl,rfl⟩
  | succ i =>
   rw [List.cons_append,List.getElem?_cons_succ] at h1
   have:=List.mem_of_getElem? h1
   rcases List.mem_append.mp this with h | h
   ·obtain ⟨c,_,rfl⟩:=List.mem_map.mp h; cases h2
   ·rw [List.eq_of_mem_replicate h] at h2; cases h2
 have ex0:∀ i:Nat,(Sl.io d0::ds.map Sl.fz++List.replicate k .no)[i]?=some Sl.ex->False:=fun i h1=>by
  cases i with
  | zero=>rw [List.cons_append,List.getElem?_cons_zero] at h1; cases h1
  | succ i =>
   rw [List.cons_append,List.getElem?_cons_succ] at h1
   have:=List.mem_of_getElem? h1
   rcases List.mem_append.mp this with h | h
   ·obtain ⟨c,_,z⟩:=List.mem_map.mp h; cases z
   ·have:=List.eq_of_mem_replicate h; cases this
 have st0:(L2.start N (.ref p::us))[0]?=some (some (.ref p)):=by
  unfold L2.start
  rw [List.map_cons,List.cons_append,List.getElem?_cons_zero]
 have R:Rel ⟨B,H,[(0,p)],fun q=>H q≠none⟩ B H (L2.start N (.ref p::us)) (.io d0::ds.map .fz++List.replicate k .no):=by
  refine ⟨sub,aC.refl _,fun _ _ z _=>z,fun _ _ z=>z,?_,fun i s hs=>?_,fun i j s t p h1 h2 h3 h4 _ _=>(iZ i s h1 (Sl.jy h2)).1.trans (iZ j t h3 h4).1.symm,(fun i c p h1=>by have:=(iZ i _ h1 rfl).2; cases this),(fun x hx=>?_),(fun i c h1=>?_),tB,(fun i h1=>(ex0 i h1).elim),fun q o u h z=>by rw [z] at h; cases h⟩
  ·simp [L2.start,hl,hvl,hN]; omega
  ·cases i with
   | zero =>
    rw [List.cons_append,List.getElem?_cons_zero] at hs
    cases hs
    exact ⟨p,st0,hB,ow⟩
   | succ i =>
    rw [List.cons_append,List.getElem?_cons_succ] at hs
    by_cases hi:i < ds.length
    ·rw [List.getElem?_append_left (by simpa using hi),List.getElem?_map] at hs
     obtain ⟨c,h1,rfl⟩:=Option.map_eq_some_iff.mp hs
     obtain ⟨x,h2,h3⟩:=rp.get i c h1
     refine ⟨x,?_,h3⟩
     unfold L2.start
     rw [List.map_cons,List.cons_append,List.getElem?_cons_succ,List.getElem?_append_left (by rw [List.length_map,rp.length]; exact hi),List.getElem?_map,h2]
     rfl
    ·rw [List.getElem?_append_right (by simpa using Nat.le_of_not_lt hi)] at hs
     have:=List.eq_of_mem_replicate (List.mem_of_getElem? hs)
     subst this
     trivial
  ·simp only [List.mem_cons,List.not_mem_nil,or_false] at hx
   subst hx
   exact ⟨st0,d0,rfl⟩
  ·obtain ⟨rfl,_⟩:=iZ i _ h1 rfl
   exact ⟨p,by simp⟩
 refine hb _ B H _ _ w _ R e1 ?_
 have post:∀ {B' H':Hp} {σ':St} {ρ':Rho},m4 w=ρ'->Rel ⟨B,H,[(0,p)],fun q=>H q≠none⟩ B' H' σ' ρ'->(∀ q u,q≠p->H q=some u->H' q=some u)∧aC B B'∧aC B' H'∧(∀ q,H q≠none->B q=none->B' q=none)∧(∀ q xs,H' q=some (.tup xs)->B' q=some (.tup xs))∧(∀ q o u,H' q=some (.frz o u)->H q≠none)∧Own B' H' p d1:=fun {B' H' σ' ρ'} hw R'=>by
  refine ⟨fun q u n z=>R'.sH q u z (fun x hx=>?_),R'.sB,R'.sub,R'.nB,R'.cC,R'.nz,?_⟩
  ·simp only [List.mem_cons,List.not_mem_nil,or_false] at hx
   subst hx
   exact fun z=>n z.symm
  ·rw [hw] at e3
   have h0:=G5 e3
   obtain ⟨p',g1,g2,g3⟩:=R'.slot 0 _ h0
   obtain ⟨g4,_⟩:=R'.fx (0,p) (by simp)
   rw [g4] at g1
   cases g1
   exact g3
 cases w with
 | nx ρ' =>
  cases e2
  intro B' H' σ' R'
  obtain ⟨p1,p2,p3,p4,p5,p6,p7⟩:=post rfl R'
  exact q _ B' H' ⟨p1,p2,p3,p4,p5,p6,p7,.non⟩
 | bk ρ'=>cases e2
 | ct ρ'=>cases e2
 | rt r' ρ' =>
  intro v B' H' σ' R' V'
  obtain ⟨p1,p2,p3,p4,p5,p6,p7⟩:=post rfl R'
  obtain ⟨c,kd⟩:=r'
  cases kd with
  | fz=>cases e2; exact q v B' H' ⟨p1,p2,p3,p4,p5,p6,p7,V'⟩
  | new =>
   cases e2
   obtain ⟨p,rfl,h1,h2,h3,_⟩:=V'
   exact q _ B' H' ⟨p1,p2,p3,p4,p5,p6,p7,⟨p,rfl,h2,h1,h3⟩⟩
  | ro=>cases e2
  | «at» i =>
   obtain ⟨s,h1,h2,h3,h4⟩:=V'
   have e2':(match ρ'[i]? with
    | some (.own d)=>some (d,true)
    | _=>none)=some r0:=e2
   rw [h1] at e2'
   cases s with
   | own c' =>
    cases e2'
    obtain ⟨p,g1,g2,g3⟩:=R'.slot i _ h1
    have h4' : σ'[i]?=some (some v):=h4
    rw [h4'] at g1
    cases g1
    exact q _ B' H' ⟨p1,p2,p3,p4,p5,p6,p7,⟨p,rfl,R'.jl i _ p h1 h4',g2,g3⟩⟩
   | _=>cases e2'
theorem DW {n k:Nat} {b:SM} {vs:List V} {H:Hp} {Q:VK} {E:XK} (h:spI (fnI n k b) vs H Q E):vs.length=n:=by
 obtain ⟨B,p,us,d0,ds,r0,d1,rfl,sub,tB,hB,ow,rp,e,q⟩:=h
 simp only [fnI] at e
 split at e
 ·rename_i hl; rw [List.length_cons,rp.length]; exact hl
 ·cases e
def ownAt (ρ:Rho) (i:Nat):Option Sl:=match ρ[i]? with
 | some s=>if s.dA=true then some s else none
 | none=>none
theorem ik {ρ:Rho} {i:Nat} {s:Sl} (h:ownAt ρ i=some s) : ρ[i]?=some s∧s.dA=true:=by
 unfold ownAt at h
 split at h
 ·rename_i s' h0
  split at h
  ·rename_i h1; cases h; exact ⟨h0,h1⟩
  ·cases h
 ·cases h
def tj (i:Nat) (f:List D->Option ((D × Bool) × D)) (m:Rho->Option (List RV × Rho)):PM:=fun ρ=>(ownAt ρ i).bind fun _=>(m ρ).bind fun x=>(eZ x.1 x.2).bind fun y=>(ownAt y.2 i).bind fun s=>(f (slD s::y.1)).map fun w=>(kO w.1.1 w.1.2,y.2.set i (s.put w.2))
theorem Own.tm {B H:Hp} {p:Addr} {d:D} (h:Own B H p d) (a:Obj) (u:HO):H p≠some (.frz a u):=by cases h with
 | lst h _=>rw [h]; simp
 | dct h _=>rw [h]; simp
theorem BF {f:List D->Option ((D × Bool) × D)} {E:XK} {i:Nat} {t:TA} {m:Rho->Option (List RV × Rho)} (h:MA t m):ME (hI (spI f) [] E (hE (lz i) t)) (tj i f m):=by
 intro F B H σ ρ r0 ρ' Q R e q
 obtain ⟨s0,e0,e⟩:=Option.bind_eq_some_iff.mp e
 obtain ⟨x,e1,e⟩:=Option.bind_eq_some_iff.mp e
 obtain ⟨y,e2,e⟩:=Option.bind_eq_some_iff.mp e
 obtain ⟨s,e4,e⟩:=Option.bind_eq_some_iff.mp e
 obtain ⟨w,e3,e⟩:=Option.map_eq_some_iff.mp e
 cases e
 obtain ⟨hs0,ho0⟩:=ik e0
 obtain ⟨hs,ho⟩:=ik e4
 obtain ⟨p,hv,_,_⟩:=R.ownAt hs0 ho0
 refine ⟨_,hv,?_⟩
 refine h F B H σ ρ x.1 x.2 _ R e1 fun vs B1 H1 E1 R1 V1=>?_
 show spI f (V.ref p::vs++[]) H1 Q E
 rw [List.append_nil]
 obtain ⟨B2,R2,rp,E2⟩:=Rel.qT R1 V1.weak e2
 obtain ⟨p',hv',hB,ow⟩:=R2.ownAt hs ho
 rw [hv] at hv'
 cases hv'
 obtain ⟨oo,hoo⟩:=ow.there
 obtain ⟨r,d1⟩:=w
 refine ⟨B2,p,vs,slD s,y.1,r,d1,rfl,R2.sub,R2.cC,hB,ow,rp,e3,fun v B' H' P=>?_⟩
 obtain ⟨o1,ho1⟩:=P.own.there
 have hB':B' p=none:=P.nb p (by rw [hoo]; simp) hB
 have eH:aC H1 (upd H' p oo):=fun c u hc=>by
  by_cases z:c=p
  ·subst z; rw [hoo] at hc; cases hc; exact az
  ·rw [aq z]; exact P.eH c u z hc
 have sub:aC B' (upd H' p oo):=fun c u hc=>by
  rw [aq (fun z=>by rw [z,hB'] at hc; cases hc)]; exact P.sub c u hc
 have tB:∀ c xs,upd H' p oo c=some (.tup xs)->B' c=some (.tup xs):=fun c xs hc=>by
  by_cases z:c=p
  ·subst z; rw [az] at hc; cases hc; exact absurd hoo (ow.j4 xs)
  ·rw [aq z] at hc; exact P.tB c xs hc
 have nz:∀ c a u,upd H' p oo c=some (.frz a u)->H1 c≠none:=fun c a u hc=>by
  by_cases z:c=p
  ·subst z; rw [hoo]; simp
  ·rw [aq z] at hc; exact P.nz c a u hc
 have R3:=R2.grow P.eB eH sub P.nb tB nz
 have E3:Ext σ y.2 B2 H1 y.2 B' (upd H' p oo):=Ext.grow P.eB eH P.nb
 have back:upd (upd H' p oo) p o1=H':=by
  funext c
  by_cases z:c=p
  ·subst z; rw [az,ho1]
  ·rw [aq z,aq z]
 obtain ⟨R4,E4⟩:=R3.write (o:=o1) (d:=d1) hs ho hv ⟨(fun xs z=>by rw [z] at ho1; exact P.own.j4 xs ho1),fun a u z=>by rw [z] at ho1; exact P.own.tm a u ho1⟩ (by rw [back]; exact P.own)
 rw [back] at R4 E4
 have EE:=E1.trans (E2.trans (E3.trans E4))
 obtain ⟨d,o⟩:=r
 cases o with
 | false =>
  have pv:Rep B' v d:=P.val
  exact q v B' H' EE R4 pv fun p z=>by cases z
 | true =>
  obtain ⟨p2,rfl,h1,h2,h3⟩:∃ p,v=.ref p∧H1 p=none∧B' p=none∧Own B' H' p d:=P.val
  have fr:=R2.free h1
  refine q _ B' H' EE R4 ⟨p2,rfl,h2,fr.2.1,h3,fun j t h4 h5 h6=>?_⟩ fun p' _ z=>by cases z; exact E1.live p2 h1
  rcases get_set h4 with ⟨rfl,_,_⟩ | ⟨_,h4⟩
  ·rw [hv] at h6
   cases h6
   rw [h1] at hoo; cases hoo
  ·exact fr.2.2 j t h4 h5 h6
theorem BG {f:List D->Option ((D × Bool) × D)} {m:Rho->Option (List RV × Rho)} {i:Nat} {s s':Sl} {rs:List RV} {ds:List D} {d d0 d1:D} {o:Bool} {ρ ρ1 ρ2:Rho} (h0:ownAt ρ i=some s') (h1:m ρ=some (rs,ρ1)) (h2:eZ rs ρ1=some (ds,ρ2)) (h3:ownAt ρ2 i=some s) (h4:f (slD s::ds)=some ((d,o),d1)):tj i f m ρ=some (kO d o,ρ2.set i (s.put d1)):=by
 unfold tj
 rw [h0,Option.bind_some,h1,Option.bind_some]; dsimp only
 rw [h2,Option.bind_some]; dsimp only
 rw [h3,Option.bind_some,h4]; rfl
theorem xq {d:D} {ρ:Rho} {i:Nat} (h : ρ[i]?=some (.io d)):ai i ρ=some ((d,.at i),ρ):=by unfold ai; rw [h]
theorem G6 {n k:Nat} {b:SM} {d0 d1:D} {ds:List D} {o:Out} {r:D × Bool} (hl:ds.length + 1=n) (h:b (.io d0::ds.map .fz++List.replicate k .no)=some o) (hr:pz o=some r) (h0:io0 (m4 o)=some d1):fnI n k b (d0::ds)=some (r,d1):=by
 simp only [fnI]; rw [if_pos hl,h,Option.bind_some,hr,Option.bind_some,h0]; rfl
theorem II {a b:PM} {ρ ρ1 ρ2:Rho} {x:D} {r:RV} {res:D × Bool} {g:D->D->Option (D × Bool)} (h1:sv a ρ=some ((x,.ro),ρ1)) (h2:sv b ρ1=some (r,ρ2)) (h3:g x r.1=some res):mOp g a b ρ=some (j5 res,ρ2):=by
 unfold mOp; rw [h1,Option.bind_some]; dsimp only; rw [h2,Option.bind_some]; dsimp only [mR,Option.bind_some]; rw [h3,Option.map_some]
end
end Mir
namespace Mir
open PySem L2
section
variable [Zc]
def Two (H0 B' H':Hp) (v:V) (c:D × D):Prop:=∃ a p q,v=.ref a∧H' a=some (.tup [.ref p,.ref q])∧p≠q∧H0 p=none∧H0 q=none∧B' p=none∧B' q=none∧Own B' H' p c.1∧Own B' H' q c.2
structure IJ (B H:Hp) (v:V) (B' H':Hp) (c:D × D):Prop where
 eH:aC H H'
 eB:aC B B'
 sub:aC B' H'
 nb:∀ q,H q≠none->B q=none->B' q=none
 tB:∀ q xs,H' q=some (.tup xs)->B' q=some (.tup xs)
 nz:∀ q o u,H' q=some (.frz o u)->H q≠none
 val:Two H B' H' v c
def spD (f:List D->Option (D × D)):Sp:=fun vs H Q _=>∃ B ds c,aC B H∧(∀ q xs,H q=some (.tup xs)->B q=some (.tup xs))∧aP B vs ds∧f ds=some c∧∀ v B' H',IJ B H v B' H' c->Q v H'
def OkD (F:Fr) (E:Ends) (c:D × D):Prop:=∀ v B' H' σ' ρ',Rel F B' H' σ' ρ'->Two F.H B' H' v c->E.rt v H'
def MD (t:TS) (m:Rho->Option (D × D)):Prop:=∀ (F:Fr) (B H:Hp) (σ:St) (ρ:Rho) (c:D × D) (E:Ends),Rel F B H σ ρ->m ρ=some c->OkD F E c->t E σ H
def me (a:SM) (b:Rho->Option (D × D)):Rho->Option (D × D):=fun ρ=>(a ρ).bind fun o=>match o with
 | .nx ρ'=>b ρ'
 | _=>none
theorem m5 {t u:TS} {a:SM} {b:Rho->Option (D × D)} (ha:MS t a) (hb:MD u b):MD (zA t u) (me a b):=by
 intro F B H σ ρ c E R e q
 obtain ⟨x,e1,e⟩:=Option.bind_eq_some_iff.mp e
 cases x with
 | nx ρ'=>exact ha F B H σ ρ _ { E with nx:=u E } R e1 fun B' H' σ' R'=>hb F B' H' σ' ρ' c E R' e q
 | rt r ρ'=>cases e
 | bk ρ'=>cases e
 | ct ρ'=>cases e
def yJ (i j:Nat):Rho->Option (D × D):=fun ρ=>match ρ[i]?,ρ[j]? with
 | some (.own c1),some (.own c2)=>if i=j then none else some (c1,c2)
 | _,_=>none
theorem BH {i j:Nat}:MD (AI (Dp (hE (lz i) (hE (lz j) w9)))) (yJ i j):=by
 intro F B H σ ρ c E R e q
 unfold yJ at e
 split at e
 case h_2=>cases e
 rename_i c1 c2 hi hj
 split at e
 ·cases e
 rename_i hij
 cases e
 obtain ⟨p,vi,bi,oi⟩:=R.slot i _ hi
 obtain ⟨r,vj,bj,oj⟩:=R.slot j _ hj
 have hne:p≠r:=fun z=>hij (R.dist i j _ _ p hi rfl hj rfl vi (z ▸ vj))
 refine ⟨_,vi,_,vj,(by simp only [List.length_cons,List.length_nil,sizeLine]; omega),fun a ha=>?_⟩
 obtain ⟨R',_,eB⟩:=R.qS (xs:=[.ref p,.ref r]) ha
 have pa:p≠a:=fun z=>oi.jz (z ▸ ha)
 have ra:r≠a:=fun z=>oj.jz (z ▸ ha)
 refine q _ _ _ σ ρ R' ⟨a,p,r,rfl,az,hne,R.jl i _ p hi vi,R.jl j _ r hj vj,by rw [aq pa]; exact bi,by rw [aq ra]; exact bj,oi.mono eB fun o h=>by rw [aq pa]; exact h,oj.mono eB fun o h=>by rw [aq ra]; exact h⟩
def BI (f:List D->Option (D × D)) (m:Rho->Option (List RV × Rho)):Rho->Option (D × D):=fun ρ=>(m ρ).bind fun x=>(eZ x.1 x.2).bind fun y=>f y.1
theorem DX {f:List D->Option (D × D)} {X:XK} {t:TA} {m:Rho->Option (List RV × Rho)} (h:MA t m):MD (AI (hI (spD f) [] X t)) (BI f m):=by
 intro F B H σ ρ c E R e q
 obtain ⟨x,e1,e⟩:=Option.bind_eq_some_iff.mp e
 obtain ⟨y,e2,e3⟩:=Option.bind_eq_some_iff.mp e
 refine h F B H σ ρ x.1 x.2 _ R e1 fun vs B1 H1 E1 R1 V1=>?_
 show spD f (vs++[]) H1 E.rt X
 rw [List.append_nil]
 obtain ⟨B2,R2,rp,E2⟩:=Rel.qT R1 V1.weak e2
 refine ⟨B2,y.1,c,R2.sub,R2.cC,rp,e3,fun v B' H' P=>?_⟩
 have R3:=R2.grow P.eB P.eH P.sub P.nb P.tB P.nz
 obtain ⟨a,p,r,rfl,ha,hne,hp,hr,bp,br,op,or⟩:=P.val
 exact q _ B' H' σ _ R3 ⟨a,p,r,rfl,ha,hne,(R2.free hp).2.1,(R2.free hr).2.1,bp,br,op,or⟩
def zX (c:Rho->Option (Bool × Rho)) (a b:Rho->Option (D × D)):Rho->Option (D × D):=fun ρ=>(c ρ).bind fun x=>if x.1=true then a x.2 else b x.2
theorem IK {tc:TT} {t u:TS} {c:Rho->Option (Bool × Rho)} {a b:Rho->Option (D × D)} (hc:MT tc c) (ha:MD t a) (hb:MD u b):MD (zA (AJ tc t yf) u) (zX c a b):=by
 intro F B H σ ρ w E R e q
 obtain ⟨x,e1,e⟩:=Option.bind_eq_some_iff.mp e
 refine hc F B H σ ρ x.1 x.2 _ R e1 fun B' H' _ R'=>?_
 cases hb':x.1 with
 | true =>
  rw [hb',if_pos rfl] at e
  rw [if_pos rfl]
  exact ha F B' H' σ x.2 w { E with nx:=u E } R' e q
 | false =>
  rw [hb',if_neg Bool.false_ne_true] at e
  rw [if_neg Bool.false_ne_true]
  exact hb F B' H' σ x.2 w E R' e q
def fnD (n k:Nat) (b:Rho->Option (D × D)) (ds:List D):Option (D × D):=if ds.length=n then b (ds.map .fz++List.replicate k .no) else none
theorem yK {n k:Nat} {b:Rho->Option (D × D)} {t:TS} {N:List Str} {vs:List V} {H:Hp} {Q:VK} {E:XK} (hb:MD t b) (hN:N.length=n + k) (h:spD (fnD n k b) vs H Q E):t { nx:=fun _ H'=>Q .non H',rt:=Q } (L2.start N vs) H:=by
 obtain ⟨B,ds,c,sub,tB,rp,e,q⟩:=h
 unfold fnD at e
 split at e
 case isFalse=>cases e
 rename_i hl
 have hvl:vs.length=n:=rp.length.trans hl
 have iZ:∀ (i:Nat) (s:Sl),(ds.map Sl.fz++List.replicate k .no)[i]?=some s->s.isRef=true->False:=fun i s h1 h2=>by
  have:=List.mem_of_getElem? h1
  rcases List.mem_append.mp this with h | h
  ·obtain ⟨c,_,rfl⟩:=List.mem_map.mp h; cases h2
  ·rw [List.eq_of_mem_replicate h] at h2; cases h2
 have ex0:∀ i:Nat,(ds.map Sl.fz++List.replicate k .no)[i]?=some Sl.ex->False:=fun i h1=>by
  have:=List.mem_of_getElem? h1
  rcases List.mem_append.mp this with h | h
  ·obtain ⟨c,_,z⟩:=List.mem_map.mp h; cases z
  ·have:=List.eq_of_mem_replicate h; cases this
 have R:Rel ⟨B,H,[],fun q=>H q≠none⟩ B H (L2.start N vs) (ds.map .fz++List.replicate k .no):=by
  refine ⟨sub,aC.refl _,fun _ _ z _=>z,fun _ _ z=>z,?_,fun i s hs=>?_,fun i j s t p h1 h2=>(iZ i s h1 (Sl.jy h2)).elim,fun i c p h1=>(iZ i _ h1 rfl).elim,(fun x hx=>by cases hx),fun i c h1=>(iZ i _ h1 rfl).elim,tB,(fun i h1=>(ex0 i h1).elim),fun q o u h z=>by rw [z] at h; cases h⟩
  ·simp [L2.start,hl,hvl,hN]
  ·by_cases hi:i < n
   ·rw [List.getElem?_append_left (by simpa [hl] using hi),List.getElem?_map] at hs
    obtain ⟨c,h1,rfl⟩:=Option.map_eq_some_iff.mp hs
    obtain ⟨x,h2,h3⟩:=rp.get i c h1
    refine ⟨x,?_,h3⟩
    unfold L2.start
    rw [List.getElem?_append_left (by simpa [hvl] using hi),List.getElem?_map,h2]
    rfl
   ·rw [List.getElem?_append_right (by simpa [hl] using Nat.le_of_not_lt hi)] at hs
    have:=List.eq_of_mem_replicate (List.mem_of_getElem? hs)
    subst this
    trivial
 refine hb _ B H _ _ c _ R e fun v B' H' σ' ρ' R' T=>?_
 exact q v B' H' ⟨fun q u z=>R'.sH q u z (fun x hx=>by cases hx),R'.sB,R'.sub,R'.nB,R'.cC,R'.nz,T⟩
theorem yL {n k:Nat} {b:Rho->Option (D × D)} {vs:List V} {H:Hp} {Q:VK} {E:XK} (h:spD (fnD n k b) vs H Q E):vs.length=n:=by
 obtain ⟨B,ds,c,sub,tB,rp,e,q⟩:=h
 unfold fnD at e
 split at e
 ·rename_i hl; exact rp.length.trans hl
 ·cases e
end
end Mir
namespace L2
open PySem PySem.Spec PyProof.Rows
section
variable {X:Cx} {pins:List (Addr × Obj)} {σ:St} {H:Hp} {s:Shared} {h':Heap}
theorem Inv.tq {t':Nat} {fp:List Addr} (I:Inv X pins σ H s) (k:∀ b o,b ∉ fp->s.heap.get? b=some o->h'.get? b=some o) (f:∀ b∈fp,ou X pins H b):Inv X pins σ H { s with heap:=h',toks:=t' }:=by
 have nit:∀ b u,H b=some u->b ∉ fp:=fun b u e z=>by rw [(f b z).1] at e; cases e
 have hL:X.env.locals ∉ fp:=fun z=>(f _ z).2.1 rfl
 refine I.step (g':=s.gens) (d':=s.drawn) (ch:=fp) (fun b hb=>?_) (fun b o _ _ hc e _=>k b o hc e) (fun b o _ _ hc e _=>⟨o.slots,k b o hc e⟩) (fun _ _ _ _ n=>n)
  (fun b o hc e=>⟨o,k b o hc e⟩) (fun _ _ e=>e) (fun _ _ _ e=>e) (fun b ps e=>⟨#[],by rw [e]; simp⟩) (fun m hm=>?_) (fun b u e=>?_) I.bare
 ·obtain ⟨_,f1,_,f3,f4,f5⟩:=f b hb
  exact ⟨f3,f1,f4,f5⟩
 ·obtain ⟨o,es,ep,ho,r⟩:=hm
  exact ⟨o,es,ep,k _ o hL ho,r⟩
 ·refine (I.hok b u e).stay (fun c v hc q=>k c v ?_ q) (fun _ q=>q) fun _ _ q=>q
  rcases hc with z | z
  ·rw [z]; exact nit b u e
  ·exact nit c _ z
end
section
variable {X:Cx}
end
end L2
namespace L2
open PySem PySem.Spec PyProof.Rows
section
variable {prog:Program} {w:World} {A:Around} {E:Value->Shared->Prop} {s:Shared}
def BJ (l:Addr) (it:Addr) (items:Array Value) (n:Nat) (h:Heap):Prop:=h.IsTupleIter it l n∧h.IsTuple l items
theorem BJ.keep {l it:Addr} {items:Array Value} (n:Nat) (h h':Heap) (x:BJ l it items n h) (a:∀ o,h.get? it=some o->h'.get? it=some o) (b:∀ o,h.get? l=some o->h'.get? l=some o):BJ l it items n h' :=
 ⟨x.1.at a,by obtain ⟨o,e,r⟩:=x.2; exact ⟨o,b _ e,r⟩⟩
end
end L2
namespace L2
open PySem PySem.Spec PyProof.Rows
section
variable {prog:Program} {w:World} {A:Around} {E:Value->Shared->Prop} {s:Shared}
end
section
variable {X:Cx}
end
def DY (x y:Str) (fr:List (Str × Nat)):List Str:=x::y::fr.map (·.1)
structure J9 (X:Cx) (scope:Scope) (x y:Str) (fr:List (Str × Nat)):Prop where
 b:Blk X scope x fr
 J6:scope.names.lookup y=some .local
 nd2:(DY x y fr).Nodup
section
variable {X:Cx} {scope:Scope} {x y:Str} {fr:List (Str × Nat)} {pins:List (Addr × Obj)} {σ:St} {H:Hp} {s:Shared}
end
section
variable {X:Cx}
end
end L2
namespace L2
open PySem PySem.Spec PyProof.Rows
abbrev XE:=St->Value->Hp->Prop
abbrev TX:=XE->TS
abbrev TEX:=XE->TE
def XP (X:Cx) (pins:List (Addr × Obj)) (E:XE) (ev:Value) (s':Shared):Prop :=
 ∃ (ea t:Addr) (cls:Value) (B:Heap) (H':Hp) (s1:Shared) (H1:Hp) (σ1:St),ev=.ref ea∧Inv X pins σ1 H1 s1∧yt X.prog X.w X.stack H1 s1 (fun cls _ H'=>E σ1 cls H') ea t cls B H' s'
def xr (sp:Sp) (t:TA):TEX:=fun E σ H Q=>t σ H fun vs H1=>sp vs H1 Q (fun cls _ H2=>E σ cls H2)
section
variable {X:Cx} {st:Stmt} {rest:List Stmt} {t:TX} {u:TX} {pos:Pos}
end
section
variable {X:Cx}
end
end L2
namespace Mir
open PySem L2
section
variable [Zc]
abbrev XM:=Rho->Option ((RV × Rho) ⊕ (Str × Rho))
def G7 (cl:Str->Value) (F:Fr) (D:Ends) (E:XE):vk->Prop
 | .ok o=>k7 F D o
 | .er c ρ=>∀ B H σ,Rel F B H σ ρ->E σ (cl c) H
def MSX (cl:Str->Value) (t:TX) (m:EM):Prop:=∀ (F:Fr) (B H:Hp) (σ:St) (ρ:Rho) (o:vk) (D:Ends) (E:XE),Rel F B H σ ρ->m ρ=some o->G7 cl F D E o->t E D σ H
variable {cl:Str->Value}
def mOk (m:XM):PM:=fun ρ=>match m ρ with
 | some (.inl x)=>some x
 | _=>none
theorem G8 {m:XM} {ρ:Rho} {x:RV × Rho} (h:mOk m ρ=some x):m ρ=some (.inl x):=by
 unfold mOk at h
 split at h
 ·rename_i y e; cases h; exact e
 ·cases h
structure MEX (cl:Str->Value) (t:TEX) (m:XM):Prop where
 ok:∀ E,ME (t E) (mOk m)
 er:∀ (F:Fr) (B H:Hp) (σ:St) (ρ:Rho) (c:Str) (ρ':Rho) (Q:VK) (E:XE),Rel F B H σ ρ->m ρ=some (.inr (c,ρ'))->(∀ B' H',Rel F B' H' σ ρ'->E σ (cl c) H')->t E σ H Q
def jB (f:List D->Option ((D × Bool) ⊕ Str)) (m:Rho->Option (List RV × Rho)):XM:=fun ρ=>(m ρ).bind fun x=>(eZ x.1 x.2).bind fun y=>(f y.1).map fun w=>match w with
 | .inl (d,o)=>.inl (kO d o,y.2)
 | .inr c=>.inr (c,y.2)
theorem rZ {f:List D->Option ((D × Bool) ⊕ Str)} {m:Rho->Option (List RV × Rho)} {ρ:Rho} {z} (h:jB f m ρ=some z):∃ x y w,m ρ=some x∧eZ x.1 x.2=some y∧f y.1=some w∧z=(match w with
 | .inl (d,o)=>.inl (kO d o,y.2)
 | .inr c=>.inr (c,y.2)):=by
 obtain ⟨x,e1,h⟩:=Option.bind_eq_some_iff.mp h
 obtain ⟨y,e2,h⟩:=Option.bind_eq_some_iff.mp h
 obtain ⟨w,e3,h⟩:=Option.map_eq_some_iff.mp h
 exact ⟨x,y,w,e1,e2,e3,h.symm⟩
theorem BK {f:List D->Option ((D × Bool) ⊕ Str)} {t:TA} {m:Rho->Option (List RV × Rho)} (h:MA t m):MEX cl (xr (spX cl f) t) (jB f m):=by
 refine ⟨fun E=>?_,?_⟩
 ·intro F B H σ ρ r ρ' Q R e q
  obtain ⟨x,y,w,e1,e2,e3,e4⟩:=rZ (G8 e)
  cases w with
  | inr c=>cases e4
  | inl w =>
   obtain ⟨d,o⟩:=w
   cases e4
   refine h F B H σ ρ x.1 x.2 _ R e1 fun vs B1 H1 E1 R1 V1=>?_
   obtain ⟨B2,R2,rp,E2⟩:=Rel.qT R1 V1.weak e2
   refine ⟨B2,y.1,_,R2.sub,R2.cC,rp,e3,fun v B' H' P=>?_⟩
   have R3:=R2.grow P.eB P.eH P.sub P.nb P.tB P.nz
   have E3:Ext σ y.2 B2 H1 y.2 B' H':=Ext.grow P.eB P.eH P.nb
   cases o with
   | false =>
    have pv:Rep B' v d:=P.val
    exact q v B' H' (E1.trans (E2.trans E3)) R3 pv fun p z=>by cases z
   | true =>
    obtain ⟨p,rfl,h1,h2,h3⟩:∃ p,v=.ref p∧H1 p=none∧B' p=none∧Own B' H' p d:=P.val
    have fr:=R2.free h1
    exact q _ B' H' (E1.trans (E2.trans E3)) R3 ⟨p,rfl,h2,fr.2.1,h3,fr.2.2⟩ fun p' _ z=>by cases z; exact E1.live p h1
 ·intro F B H σ ρ c ρ' Q E R e q
  obtain ⟨x,y,w,e1,e2,e3,e4⟩:=rZ e
  cases w with
  | inl w=>obtain ⟨d,o⟩:=w; cases e4
  | inr c' =>
   cases e4
   refine h F B H σ ρ x.1 x.2 _ R e1 fun vs B1 H1 E1 R1 V1=>?_
   obtain ⟨B2,R2,rp,E2⟩:=Rel.qT R1 V1.weak e2
   refine ⟨B2,y.1,_,R2.sub,R2.cC,rp,e3,fun B' H' P=>?_⟩
   exact q B' H' (R2.grow P.eB P.eH P.sub P.nb P.tB P.nz)
def eX (k:PM->SM) (m:XM):EM:=fun ρ=>(m ρ).bind fun o=>match o with
 | .inl _=>(k (mOk m) ρ).map .ok
 | .inr x=>some (.er x.1 x.2)
theorem IL {T:TE->TS} {te:TEX} {k:PM->SM} {m:XM} (hT:∀ (te:TE) D σ H,(∀ Q,te σ H Q)->T te D σ H) (hk:∀ t m,ME t m->MS (T t) (k m)) (h:MEX cl te m):MSX cl (fun E=>T (te E)) (eX k m):=by
 intro F B H σ ρ o D E R e q
 obtain ⟨x,e1,e⟩:=Option.bind_eq_some_iff.mp e
 cases x with
 | inl x =>
  obtain ⟨y,e2,e⟩:=Option.map_eq_some_iff.mp e
  cases e
  exact hk _ _ (h.ok E) F B H σ ρ y D R e2 q
 | inr x =>
  cases e
  exact hT _ D σ H fun Q=>h.er F B H σ ρ x.1 x.2 Q E R e1 fun B' H' R'=>q B' H' σ R'
end
end Mir
namespace Mir
open PySem L2
section
variable [Zc]
structure Fy (B H:Hp) (p p2:Addr) (v:V) (B' H':Hp) (d:D) (o:Bool) (d1 d2:D):Prop where
 eH:∀ q u,q≠p->q≠p2->H q=some u->H' q=some u
 eB:aC B B'
 sub:aC B' H'
 nb:∀ q,H q≠none->B q=none->B' q=none
 tB:∀ q xs,H' q=some (.tup xs)->B' q=some (.tup xs)
 nz:∀ q o u,H' q=some (.frz o u)->H q≠none
 own:Own B' H' p d1
 xt:Own B' H' p2 d2
 val:if o=true then ∃ p,v=.ref p∧H p=none∧B' p=none∧Own B' H' p d else Rep B' v d
def spJ (f:List D->Option ((D × Bool) × D × D)):Sp:=fun vs H Q _=>∃ B p p2 us d0 e0 ds r d1 d2,vs=.ref p::.ref p2::us∧p≠p2∧aC B H∧(∀ q xs,H q=some (.tup xs)->B q=some (.tup xs))∧B p=none∧B p2=none∧Own B H p d0∧Own B H p2 e0∧aP B us ds∧f (d0::e0::ds)=some (r,d1,d2)∧∀ v B' H',Fy B H p p2 v B' H' r.1 r.2 d1 d2->Q v H'
def io2:Rho->Option (D × D)
 | .io d::.io e::_=>some (d,e)
 | _=>none
theorem G9 {ρ:Rho} {d:D × D} (h:io2 ρ=some d) : ρ[0]?=some (Sl.io d.1)∧ρ[1]?=some (Sl.io d.2):=by
 unfold io2 at h
 split at h
 ·cases h; exact ⟨rfl,rfl⟩
 ·cases h
def fnJ (n k:Nat) (b:SM):List D->Option ((D × Bool) × D × D)
 | d0::e0::ds=>if ds.length + 2=n then (b (.io d0::.io e0::ds.map .fz++List.replicate k .no)).bind fun o=>(pz o).bind fun r=>(io2 (m4 o)).map fun d=>(r,d) else none
 | _=>none
theorem tw {n k:Nat} {b:SM} {t:TS} {N:List Str} {vs:List V} {H:Hp} {Q:VK} {E:XK} (hb:MS t b) (hN:N.length=n + k) (h:spJ (fnJ n k b) vs H Q E):t { nx:=fun _ H'=>Q .non H',rt:=Q } (L2.start N vs) H:=by
 obtain ⟨B,p,p2,us,d0,e0,ds,r0,d1,d2,rfl,hpp,sub,tB,hB,hB2,ow,ow2,rp,e,q⟩:=h
 simp only [fnJ] at e
 split at e
 case isFalse=>cases e
 rename_i hl
 obtain ⟨w,e1,e2⟩:=Option.bind_eq_some_iff.mp e
 obtain ⟨r,e2,e3⟩:=Option.bind_eq_some_iff.mp e2
 obtain ⟨d,e3,e4⟩:=Option.map_eq_some_iff.mp e3
 cases e4
 have hvl:us.length + 2=n:=by rw [rp.length]; exact hl
 have iZ:∀ (i:Nat) (s:Sl),(Sl.io d0::Sl.io e0::ds.map Sl.fz++List.replicate k .no)[i]?=some s->s.isRef=true->(i=0∧s=.io d0)∨(i=1∧s=.io e0):=fun i s h1 h2=>by
  cases i with
  | zero=>rw [List.cons_append,List.getElem?_cons_zero] at h1; cases h1; exact .inl ⟨rfl,rfl⟩
  | succ i =>
   cases i with
   | zero=>rw [List.cons_append,List.getElem?_cons_succ,List.cons_append,List.getElem?_cons_zero] at h1; cases h1; exact .inr ⟨rfl,rfl⟩
   | succ i =>
    rw [List.cons_append,List.getElem?_cons_succ,List.cons_append,List.getElem?_cons_succ] at h1
    have:=List.mem_of_getElem? h1
    rcases List.mem_append.mp this with h | h
    ·obtain ⟨c,_,rfl⟩:=List.mem_map.mp h; cases h2
    ·rw [List.eq_of_mem_replicate h] at h2; cases h2
 have ex0:∀ i:Nat,(Sl.io d0::Sl.io e0::ds.map Sl.fz++List.replicate k .no)[i]?=some Sl.ex->False:=fun i h1=>by
  cases i with
  | zero=>rw [List.cons_append,List.getElem?_cons_zero] at h1; cases h1
  | succ i =>
   cases i with
   | zero=>rw [List.cons_append,List.getElem?_cons_succ,List.cons_append,List.getElem?_cons_zero] at h1; cases h1
   | succ i =>
    rw [List.cons_append,List.getElem?_cons_succ,List.cons_append,List.getElem?_cons_succ] at h1
    have:=List.mem_of_getElem? h1
    rcases List.mem_append.mp this with h | h
    ·obtain ⟨c,_,z⟩:=List.mem_map.mp h; cases z
    ·have:=List.eq_of_mem_replicate h; cases this
 have st0:(L2.start N (.ref p::.ref p2::us))[0]?=some (some (.ref p)):=by
  unfold L2.start
  rw [List.map_cons,List.cons_append,List.getElem?_cons_zero]
 have st1:(L2.start N (.ref p::.ref p2::us))[1]?=some (some (.ref p2)):=by
  unfold L2.start
  rw [List.map_cons,List.cons_append,List.getElem?_cons_succ,List.map_cons,List.cons_append,List.getElem?_cons_zero]
 have R:Rel ⟨B,H,[(0,p),(1,p2)],fun q=>H q≠none⟩ B H (L2.start N (.ref p::.ref p2::us)) (.io d0::.io e0::ds.map .fz++List.replicate k .no):=by
  refine ⟨sub,aC.refl _,fun _ _ z _=>z,fun _ _ z=>z,?_,fun i s hs=>?_,fun i j s t p' h1 h2 h3 h4 h5 h6=>?_,(fun i c p h1=>by rcases iZ i _ h1 rfl with ⟨_,z⟩ | ⟨_,z⟩ <;> cases z),(fun x hx=>?_),(fun i c h1=>?_),tB,(fun i h1=>(ex0 i h1).elim),fun q o u h z=>by rw [z] at h; cases h⟩
  ·simp [L2.start,hl,hvl,hN]; omega
  ·cases i with
   | zero =>
    rw [List.cons_append,List.getElem?_cons_zero] at hs
    cases hs
    exact ⟨p,st0,hB,ow⟩
   | succ i =>
    cases i with
    | zero =>
     rw [List.cons_append,List.getElem?_cons_succ,List.cons_append,List.getElem?_cons_zero] at hs
     cases hs
     exact ⟨p2,st1,hB2,ow2⟩
    | succ i =>
     rw [List.cons_append,List.getElem?_cons_succ,List.cons_append,List.getElem?_cons_succ] at hs
     by_cases hi:i < ds.length
     ·rw [List.getElem?_append_left (by simpa using hi),List.getElem?_map] at hs
      obtain ⟨c,h1,rfl⟩:=Option.map_eq_some_iff.mp hs
      obtain ⟨x,h2,h3⟩:=rp.get i c h1
      refine ⟨x,?_,h3⟩
      unfold L2.start
      rw [List.map_cons,List.cons_append,List.getElem?_cons_succ,List.map_cons,List.cons_append,List.getElem?_cons_succ,List.getElem?_append_left (by rw [List.length_map,rp.length]; exact hi),List.getElem?_map,h2]
      rfl
     ·rw [List.getElem?_append_right (by simpa using Nat.le_of_not_lt hi)] at hs
      have:=List.eq_of_mem_replicate (List.mem_of_getElem? hs)
      subst this
      trivial
  ·rcases iZ i s h1 (Sl.jy h2) with ⟨rfl,_⟩ | ⟨rfl,_⟩ <;> rcases iZ j t h3 h4 with ⟨rfl,_⟩ | ⟨rfl,_⟩
   ·rfl
   ·rw [st0] at h5; rw [st1] at h6; cases h5; cases h6; exact absurd rfl hpp
   ·rw [st1] at h5; rw [st0] at h6; cases h5; cases h6; exact absurd rfl hpp
   ·rfl
  ·simp only [List.mem_cons,List.not_mem_nil,or_false] at hx
   rcases hx with rfl | rfl
   ·exact ⟨st0,d0,rfl⟩
   ·exact ⟨st1,e0,rfl⟩
  ·rcases iZ i _ h1 rfl with ⟨rfl,_⟩ | ⟨rfl,_⟩
   ·exact ⟨p,by simp⟩
   ·exact ⟨p2,by simp⟩
 refine hb _ B H _ _ w _ R e1 ?_
 have post:∀ {B' H':Hp} {σ':St} {ρ':Rho},m4 w=ρ'->Rel ⟨B,H,[(0,p),(1,p2)],fun q=>H q≠none⟩ B' H' σ' ρ'->(∀ q u,q≠p->q≠p2->H q=some u->H' q=some u)∧aC B B'∧aC B' H'∧(∀ q,H q≠none->B q=none->B' q=none)∧(∀ q xs,H' q=some (.tup xs)->B' q=some (.tup xs))∧(∀ q o u,H' q=some (.frz o u)->H q≠none)∧Own B' H' p d1∧Own B' H' p2 d2:=fun {B' H' σ' ρ'} hw R'=>by
  rw [hw] at e3
  have h0:=G9 e3
  refine ⟨fun q u n n2 z=>R'.sH q u z (fun x hx=>?_),R'.sB,R'.sub,R'.nB,R'.cC,R'.nz,?_,?_⟩
  ·simp only [List.mem_cons,List.not_mem_nil,or_false] at hx
   rcases hx with rfl | rfl
   ·exact fun z=>n z.symm
   ·exact fun z=>n2 z.symm
  ·obtain ⟨p',g1,g2,g3⟩:=R'.slot 0 _ h0.1
   obtain ⟨g4,_⟩:=R'.fx (0,p) (by simp)
   rw [g4] at g1
   cases g1
   exact g3
  ·obtain ⟨p',g1,g2,g3⟩:=R'.slot 1 _ h0.2
   obtain ⟨g4,_⟩:=R'.fx (1,p2) (by simp)
   rw [g4] at g1
   cases g1
   exact g3
 cases w with
 | nx ρ' =>
  cases e2
  intro B' H' σ' R'
  obtain ⟨p1,p2,p3,p4,p5,p6,p7,p8⟩:=post rfl R'
  exact q _ B' H' ⟨p1,p2,p3,p4,p5,p6,p7,p8,.non⟩
 | bk ρ'=>cases e2
 | ct ρ'=>cases e2
 | rt r' ρ' =>
  intro v B' H' σ' R' V'
  obtain ⟨p1,p2,p3,p4,p5,p6,p7,p8⟩:=post rfl R'
  obtain ⟨c,kd⟩:=r'
  cases kd with
  | fz=>cases e2; exact q v B' H' ⟨p1,p2,p3,p4,p5,p6,p7,p8,V'⟩
  | new =>
   cases e2
   obtain ⟨p,rfl,h1,h2,h3,_⟩:=V'
   exact q _ B' H' ⟨p1,p2,p3,p4,p5,p6,p7,p8,⟨p,rfl,h2,h1,h3⟩⟩
  | ro=>cases e2
  | «at» i =>
   obtain ⟨s,h1,h2,h3,h4⟩:=V'
   have e2':(match ρ'[i]? with
    | some (.own d)=>some (d,true)
    | _=>none)=some r0:=e2
   rw [h1] at e2'
   cases s with
   | own c' =>
    cases e2'
    obtain ⟨p,g1,g2,g3⟩:=R'.slot i _ h1
    have h4' : σ'[i]?=some (some v):=h4
    rw [h4'] at g1
    cases g1
    exact q _ B' H' ⟨p1,p2,p3,p4,p5,p6,p7,p8,⟨p,rfl,R'.jl i _ p h1 h4',g2,g3⟩⟩
   | _=>cases e2'
theorem tD {n k:Nat} {b:SM} {vs:List V} {H:Hp} {Q:VK} {E:XK} (h:spJ (fnJ n k b) vs H Q E):vs.length=n:=by
 obtain ⟨B,p,p2,us,d0,e0,ds,r0,d1,d2,rfl,hpp,sub,tB,hB,hB2,ow,ow2,rp,e,q⟩:=h
 simp only [fnJ] at e
 split at e
 ·rename_i hl; rw [List.length_cons,List.length_cons,rp.length]; exact hl
 ·cases e
def i8 (i j:Nat) (f:List D->Option ((D × Bool) × D × D)) (m:Rho->Option (List RV × Rho)):PM:=fun ρ=>if i=j then none else (ownAt ρ i).bind fun _=>(ownAt ρ j).bind fun _=>(m ρ).bind fun x=>(eZ x.1 x.2).bind fun y=>(ownAt y.2 i).bind fun s=>(ownAt y.2 j).bind fun s2=>(f (slD s::slD s2::y.1)).map fun w=>(kO w.1.1 w.1.2,(y.2.set i (s.put w.2.1)).set j (s2.put w.2.2))
theorem pL {f:List D->Option ((D × Bool) × D × D)} {E:XK} {i j:Nat} {t:TA} {m:Rho->Option (List RV × Rho)} (h:MA t m):ME (hI (spJ f) [] E (hE (lz i) (hE (lz j) t))) (i8 i j f m):=by
 intro F B H σ ρ r0 ρ' Q R e q
 unfold i8 at e
 split at e
 case isTrue=>cases e
 rename_i hij
 obtain ⟨s0,e0,e⟩:=Option.bind_eq_some_iff.mp e
 obtain ⟨t0,e0',e⟩:=Option.bind_eq_some_iff.mp e
 obtain ⟨x,e1,e⟩:=Option.bind_eq_some_iff.mp e
 obtain ⟨y,e2,e⟩:=Option.bind_eq_some_iff.mp e
 obtain ⟨s,e4,e⟩:=Option.bind_eq_some_iff.mp e
 obtain ⟨s2,e5,e⟩:=Option.bind_eq_some_iff.mp e
 obtain ⟨w,e3,e⟩:=Option.map_eq_some_iff.mp e
 cases e
 obtain ⟨hs0,ho0⟩:=ik e0
 obtain ⟨ht0,hp0⟩:=ik e0'
 obtain ⟨hs,ho⟩:=ik e4
 obtain ⟨hs2,ho2⟩:=ik e5
 obtain ⟨p,hv,_,_⟩:=R.ownAt hs0 ho0
 obtain ⟨p2,hv2,_,_⟩:=R.ownAt ht0 hp0
 have hpp:p≠p2:=fun z=>hij (R.dist i j s0 t0 p hs0 ho0 ht0 (Sl.jy hp0) hv (z ▸ hv2))
 refine ⟨_,hv,_,hv2,?_⟩
 refine h F B H σ ρ x.1 x.2 _ R e1 fun vs B1 H1 E1 R1 V1=>?_
 show spJ f (V.ref p::V.ref p2::vs++[]) H1 Q E
 rw [List.append_nil]
 obtain ⟨B2,R2,rp,E2⟩:=Rel.qT R1 V1.weak e2
 obtain ⟨p',hv',hB,ow⟩:=R2.ownAt hs ho
 rw [hv] at hv'
 cases hv'
 obtain ⟨p2',IM,hB2,ow2⟩:=R2.ownAt hs2 ho2
 rw [hv2] at IM
 cases IM
 obtain ⟨oo,hoo⟩:=ow.there
 obtain ⟨oo2,zY⟩:=ow2.there
 obtain ⟨r,d1,d2⟩:=w
 refine ⟨B2,p,p2,vs,slD s,slD s2,y.1,r,d1,d2,rfl,hpp,R2.sub,R2.cC,hB,hB2,ow,ow2,rp,e3,fun v B' H' P=>?_⟩
 obtain ⟨o1,ho1⟩:=P.own.there
 obtain ⟨o2,zZ⟩:=P.xt.there
 have hB':B' p=none:=P.nb p (by rw [hoo]; simp) hB
 have hB2':B' p2=none:=P.nb p2 (by rw [zY]; simp) hB2
 let G:Hp:=upd (upd H' p oo) p2 oo2
 have Gp:G p=some oo:=by show upd (upd H' p oo) p2 oo2 p=_; rw [aq hpp]; exact az
 have Gp2:G p2=some oo2:=az
 have Go:∀ c,c≠p->c≠p2->G c=H' c:=fun c z z2=>by show upd (upd H' p oo) p2 oo2 c=_; rw [aq z2,aq z]
 have eH:aC H1 G:=fun c u hc=>by
  by_cases z:c=p
  ·subst z; rw [hoo] at hc; cases hc; exact Gp
  ·by_cases z2:c=p2
   ·subst z2; rw [zY] at hc; cases hc; exact Gp2
   ·rw [Go c z z2]; exact P.eH c u z z2 hc
 have sub:aC B' G:=fun c u hc=>by
  rw [Go c (fun z=>by rw [z,hB'] at hc; cases hc) (fun z=>by rw [z,hB2'] at hc; cases hc)]; exact P.sub c u hc
 have tB:∀ c xs,G c=some (.tup xs)->B' c=some (.tup xs):=fun c xs hc=>by
  by_cases z:c=p
  ·subst z; rw [Gp] at hc; cases hc; exact absurd hoo (ow.j4 xs)
  ·by_cases z2:c=p2
   ·subst z2; rw [Gp2] at hc; cases hc; exact absurd zY (ow2.j4 xs)
   ·rw [Go c z z2] at hc; exact P.tB c xs hc
 have nz:∀ c a u,G c=some (.frz a u)->H1 c≠none:=fun c a u hc=>by
  by_cases z:c=p
  ·subst z; rw [hoo]; simp
  ·by_cases z2:c=p2
   ·subst z2; rw [zY]; simp
   ·rw [Go c z z2] at hc; exact P.nz c a u hc
 have R3:=R2.grow P.eB eH sub P.nb tB nz
 have E3:Ext σ y.2 B2 H1 y.2 B' G:=Ext.grow P.eB eH P.nb
 have G1p:upd G p o1 p=some o1:=az
 obtain ⟨R4,E4⟩:=R3.write (o:=o1) (d:=d1) hs ho hv ⟨(fun xs z=>by rw [z] at ho1; exact P.own.j4 xs ho1),fun a u z=>by rw [z] at ho1; exact P.own.tm a u ho1⟩ (P.own.mono (aC.refl _) fun u hu=>by rw [ho1] at hu; cases hu; exact az)
 have JZ:(y.2.set i (s.put d1))[j]?=some s2:=by rw [List.getElem?_set_ne hij]; exact hs2
 have back:upd (upd G p o1) p2 o2=H':=by
  funext c
  by_cases z2:c=p2
  ·subst z2; rw [az,zZ]
  ·rw [aq z2]
   by_cases z:c=p
   ·subst z; rw [az,ho1]
   ·rw [aq z,Go c z z2]
 obtain ⟨R5,E5⟩:=R4.write (o:=o2) (d:=d2) JZ ho2 hv2 ⟨(fun xs z=>by rw [z] at zZ; exact P.xt.j4 xs zZ),fun a u z=>by rw [z] at zZ; exact P.xt.tm a u zZ⟩ (P.xt.mono (aC.refl _) fun u hu=>by rw [zZ] at hu; cases hu; exact az)
 rw [back] at R5 E5
 have EE:=E1.trans (E2.trans (E3.trans (E4.trans E5)))
 obtain ⟨d,o⟩:=r
 cases o with
 | false =>
  have pv:Rep B' v d:=P.val
  exact q v B' H' EE R5 pv fun p z=>by cases z
 | true =>
  obtain ⟨p3,rfl,h1,h2,h3⟩:∃ p,v=.ref p∧H1 p=none∧B' p=none∧Own B' H' p d:=P.val
  have fr:=R2.free h1
  refine q _ B' H' EE R5 ⟨p3,rfl,h2,fr.2.1,h3,fun j' t h4 h5 h6=>?_⟩ fun p' _ z=>by cases z; exact E1.live p3 h1
  rcases get_set h4 with ⟨rfl,_,_⟩ | ⟨_,h4⟩
  ·rw [hv2] at h6
   cases h6
   rw [h1] at zY; cases zY
  ·rcases get_set h4 with ⟨rfl,_,_⟩ | ⟨_,h4⟩
   ·rw [hv] at h6
    cases h6
    rw [h1] at hoo; cases hoo
   ·exact fr.2.2 j' t h4 h5 h6
end
end Mir
namespace L2
open PySem PySem.Spec PyProof.Rows
theorem IP {P:Program} {w:World} {K:PySem.W.Frag} {mg:Str->Option Value} {base:Heap} {N:List Str} {qual:Str} {scope:Scope} {f:Addr} {cd:Value} {A:Around} {outer:List Env} {s₀:Shared} {H₀:Hp} {E:XK}
  (hex:(envOfC qual scope s₀.heap.objs.size f cd).frame=some s₀.heap.objs.size):Passes (CXW P w) (mO (CXW P w) P w K mg base N qual scope f cd A outer s₀ H₀ E) E:=by
 intro pins σ H s e s' I h
 obtain ⟨ea,t,cls,B,H',rfl,fl⟩:=h
 have noA:∀ b:Addr,b ∉ (mO (CXW P w) P w K mg base N qual scope f cd A outer s₀ H₀ E).ex:=fun b z=>absurd (show b∈([]:List Addr) from z) (by simp)
 have fly:Heap.FlyingW B (envOfC qual scope s₀.heap.objs.size f cd::outer) ea cls (.ref t) s'.heap:=fl.fly
 have hin:∀ env∈(envOfC qual scope s₀.heap.objs.size f cd::outer),∀ b,env.frame=some b->b∈frs (envOfC qual scope s₀.heap.objs.size f cd::outer):=fun env he b hb=>List.mem_filterMap.mpr ⟨env,he,hb⟩
 have sub:∀ b∈frs outer,b∈frs (envOfC qual scope s₀.heap.objs.size f cd::outer):=fun b hb=>by
  obtain ⟨env,he,hf⟩:=List.mem_filterMap.mp hb
  exact hin env (List.mem_cons_of_mem _ he) b hf
 have out:∀ b o,s₀.heap.get? b=some o->b ∉ frs outer->b ∉ frs (envOfC qual scope s₀.heap.objs.size f cd::outer):=fun b o q hb hm=>by
  obtain ⟨env,he,hf⟩:=List.mem_filterMap.mp hm
  rcases List.mem_cons.mp he with rfl | he
  ·rw [hex] at hf
   cases hf
   exact absurd (Heap.lt_size q) (Nat.lt_irrefl _)
  ·exact hb (List.mem_filterMap.mpr ⟨env,he,hf⟩)
 show wpAny _ _ (leaving _ (.ref ea)) _ _ _
 refine wpAny_leaves_onW I.ok.frames hex fly fun h2 fl2 sm=>?_
 refine ⟨ea,t,cls,B,H',rfl,⟨fl.os.trans I.os,fl.bare,fl2,fun b o q n hb=>?_,fun b o q hb=>?_,fun b o q hb n=>?_,fun b o q n=>?_,fun b xs q=>fl.tups b xs (I.base.tups b xs q),fun b o u q=>fl.g8 b o u (I.base.g8 b o u q),fun b ps q=>?_,fl.hok,fl.wish⟩⟩
 ·exact fl.keep b o (I.base.keep b o q n hb (noA b)) (I.base.free b o q n (noA b)) (out b o q hb)
 ·obtain ⟨o',q'⟩:=I.base.there b o q (noA b)
  exact fl.there b o' q' (out b o q hb)
 ·obtain ⟨sl,q'⟩:=I.base.slot b o q n hb (noA b)
  obtain ⟨sl2,q2⟩:=fl.slot b _ q' (sub b hb) (I.base.free b o q n (noA b))
  obtain ⟨_,o2,q3,hd⟩:=fly.2.2.1.mem (sub b hb)
  rw [q2] at q3
  cases q3
  obtain ⟨sl3,q4⟩:=sm b _ q2 hd
  exact ⟨sl3,q4⟩
 ·obtain ⟨o',q'⟩:=I.base.there b o q (noA b)
  exact fl.free b o' q' (I.base.free b o q n (noA b))
 ·obtain ⟨m1,z1⟩:=I.base.iV b ps q
  obtain ⟨m2,z2⟩:=fl.iV b _ z1
  exact ⟨m1++m2,by rw [z2]; simp⟩
theorem DZ {X:Cx} {k:Nat} {x:Str} {ps:List Str} {sp:Sp} {p pos:Pos} {e:Expr} {es:List Expr} {t:TA} {E:XK} (D:Def X.prog X.w X.K X.mg X.base (CXW X.prog X.w) k x ps sp) (hr:fq k X.A) (hx:Passes (CXW X.prog X.w) X E) (ha:PA X (e::es) t) (hg:Gl X x:=by rfl)
  (hdb:(x == ("__debug__":Str))=false:=by decide) (he:starEach (e::es) X.env=(false,eval e X.env)::starEach es X.env:=by rfl) (hpl:(backTo pos (starEach es X.env)).any (·.1)=false:=by rfl) :
  PE X (.Call (.Name x p) (e::es) [] pos) (hI sp [] E t):=by
 obtain ⟨f,fd,F,m,kp,b⟩:=D.ex
 exact yi F hr hg m kp b .nil hx ha hdb he hpl
end L2
namespace Mir
open PySem L2
section
variable [Zc]
theorem IQ {cl:Str->Value} {E:XK} {T:TE->TS} {k:PM->SM} {f:List D->Option ((D × Bool) ⊕ Str)} {t:TA} {m:Rho->Option (List RV × Rho)} (hT:∀ (te:TE) D σ H,(∀ Q,te σ H Q)->T te D σ H) (hk:∀ t m,ME t m->MS (T t) (k m)) (h:MA t m) :
  MSE (fun c H=>E (cl c) none H) (T (hI (spX cl f) [] E t)) (eX k (jB f m)):=by
 have e0:hI (spX cl f) [] E t=xr (spX cl f) t (fun _ cls H=>E cls none H):=by
  funext σ H Q
  show t σ H (fun vs H1=>spX cl f (vs++[]) H1 Q E)=t σ H (fun vs H1=>spX cl f vs H1 Q (fun cls _ H2=>E cls none H2))
  congr 1
  funext vs H1
  rw [List.append_nil]
  rfl
 rw [e0]
 intro F B H σ ρ o D R e q
 refine IL (cl:=cl) (T:=T) (te:=xr (spX cl f) t) hT hk (BK h) F B H σ ρ o D _ R e ?_
 cases o with
 | ok o=>exact q
 | er c ρ1=>exact fun B1 H1 σ1 R1=>q B1 H1 σ1 R1
theorem z0 {cl:Str->Value} {E:XK} {f:List D->Option ((D × Bool) ⊕ Str)} {t:TA} {m:Rho->Option (List RV × Rho)} (h:MA t m):MSE (fun c H=>E (cl c) none H) (uE (hI (spX cl f) [] E t)) (eX fc (jB f m)):=IQ (T:=uE) (fun te D σ H q=>q _) (fun t m h=>gh h) h
end
end Mir
namespace Mir
open PySem L2
section
variable [Zc]
end
end Mir
namespace L2
open PySem PySem.Spec PyProof.Rows PySem.W
def excAt (e:Addr) (cls:Value):Heap->Prop:=fun h=>∃ oe,h.get? e=some oe∧oe.cls=cls
section
variable {X:Cx}
end
end L2
namespace Mir
open PySem L2
section
variable {σ:St} {H:Hp} {b:Bool} {t u:TE} {c d:TT} {p q:TS}
end
end Mir
namespace L2
open PySem
def J0 (e:Addr) (cls:Value) (dx:Addr):Heap->Prop:=fun h=>∃ oe vs,h.get? e=some oe∧oe.cls=cls∧oe.dict=some dx∧oe.data=.fields vs
end L2
namespace Mir
open PySem L2
class Zl where
 cl:Str->Value
instance (priority:=10) zl0:Zl:=⟨fun _=>.none⟩
section
variable [Zc] [Zl]
inductive SV where
 | pl (d:D) | lc (k:Nat) | tp (xs:List SV)
inductive Cl where
 | dat (d:D) | obj (C:Addr) (fs:List (Str × SV)) | lst (xs:List SV) | dct (es:List (Key × SV)) | exc (c:Str) (n:Option Int)
structure SS where
 S:List (Option Cl)
 t:List (Option SV)
mutual
inductive dB (A:List Addr) (B:Hp):V->SV->Prop
 | pl {v:V} {d:D}:Rep B v d->dB A B v (.pl d)
 | lc {k:Nat} {a:Addr}:A[k]?=some a->dB A B (.ref a) (.lc k)
 | tp {t:Addr} {vs:List V} {xs:List SV}:B t=some (.tup vs)->bV A B vs xs->dB A B (.ref t) (.tp xs)
inductive bV (A:List Addr) (B:Hp):List V->List SV->Prop
 | nil:bV A B [] []
 | cons {v:V} {x:SV} {vs:List V} {xs:List SV}:dB A B v x->bV A B vs xs->bV A B (v::vs) (x::xs)
end
def Gro (A A':List Addr):Prop:=∀ (k:Nat) (a:Addr),A[k]?=some a->A'[k]?=some a
theorem Gro.refl (A:List Addr):Gro A A:=fun _ _ h=>h
theorem Gro.trans {A A1 A2:List Addr} (a:Gro A A1) (b:Gro A1 A2):Gro A A2:=fun k x h=>b k x (a k x h)
theorem Gro.app (A N:List Addr):Gro A (A++N):=fun k a h=>by rw [List.getElem?_append_left (List.getElem?_eq_some_iff.mp h).1]; exact h
mutual
theorem dB.mono {A A':List Addr} {B B':Hp} (g:Gro A A') (e:aC B B'):∀ {v:V} {x:SV},dB A B v x->dB A' B' v x
 | _,_,.pl r=>.pl (r.mono e)
 | _,_,.lc h=>.lc (g _ _ h)
 | _,_,.tp h r=>.tp (e _ _ h) (bV.mono g e r)
theorem bV.mono {A A':List Addr} {B B':Hp} (g:Gro A A') (e:aC B B'):∀ {v:List V} {x:List SV},bV A B v x->bV A' B' v x
 | _,_,.nil=>.nil
 | _,_,.cons a b=>.cons (dB.mono g e a) (bV.mono g e b)
end
theorem bV.length {A:List Addr} {B:Hp}:∀ {v:List V} {x:List SV},bV A B v x->v.length=x.length
 | _,_,.nil=>rfl
 | _,_,.cons _ b=>by rw [List.length_cons,List.length_cons,bV.length b]
theorem bV.get {A:List Addr} {B:Hp}:∀ {v:List V} {x:List SV} (i:Nat),bV A B v x->∀ c,x[i]?=some c->∃ y,v[i]?=some y∧dB A B y c
 | _,_,i,.nil,c,h=>by simp at h
 | _,_,0,.cons a _,c,h=>by simp at h; subst h; exact ⟨_,rfl,a⟩
 | _,_,i + 1,.cons _ b,c,h=>by
  rw [List.getElem?_cons_succ] at h
  rw [List.getElem?_cons_succ]
  exact bV.get i b c h
inductive ff (A:List Addr) (B:Hp):List (Str × V)->List (Str × SV)->Prop
 | nil:ff A B [] []
 | cons {f:Str} {v:V} {x:SV} {gs:List (Str × V)} {fs:List (Str × SV)}:dB A B v x->ff A B gs fs->ff A B ((f,v)::gs) ((f,x)::fs)
theorem ff.mono {A A':List Addr} {B B':Hp} (g:Gro A A') (e:aC B B'):∀ {v:List (Str × V)} {x:List (Str × SV)},ff A B v x->ff A' B' v x
 | _,_,.nil=>.nil
 | _,_,.cons a b=>.cons (a.mono g e) (ff.mono g e b)
inductive jX (A:List Addr) (B:Hp):List (Key × V)->List (Key × SV)->Prop
 | nil:jX A B [] []
 | cons {f:Key} {v:V} {x:SV} {gs:List (Key × V)} {fs:List (Key × SV)}:dB A B v x->jX A B gs fs->jX A B ((f,v)::gs) ((f,x)::fs)
theorem jX.mono {A A':List Addr} {B B':Hp} (g:Gro A A') (e:aC B B'):∀ {v:List (Key × V)} {x:List (Key × SV)},jX A B v x->jX A' B' v x
 | _,_,.nil=>.nil
 | _,_,.cons a b=>.cons (a.mono g e) (jX.mono g e b)
theorem ff.length {A:List Addr} {B:Hp}:∀ {gs:List (Str × V)} {fs:List (Str × SV)},ff A B gs fs->gs.length=fs.length
 | _,_,.nil=>rfl
 | _,_,.cons _ b=>by rw [List.length_cons,List.length_cons,ff.length b]
def BL (f:Str) (x:SV):List (Str × SV)->List (Str × SV)
 | []=>[(f,x)]
 | (k,y)::r=>if k=f then (k,x)::r else (k,y)::BL f x r
theorem ff.put {A:List Addr} {B:Hp} {f:Str} {v:V} {x:SV} (rv:dB A B v x):∀ {gs:List (Str × V)} {fs:List (Str × SV)},ff A B gs fs->ff A B (Gi f v gs) (BL f x fs)
 | _,_,.nil=>.cons rv .nil
 | _,_,.cons (f:=k) (v:=u) (x:=y) (gs:=gs) (fs:=fs) a b=>by
  show ff A B (if k=f then (k,v)::gs else (k,u)::Gi f v gs) (if k=f then (k,x)::fs else (k,y)::BL f x fs)
  by_cases e:k=f
  ·rw [if_pos e,if_pos e]; exact .cons rv b
  ·rw [if_neg e,if_neg e]; exact .cons a (ff.put rv b)
def Mx:HO->Prop
 | .lst _=>True
 | .dK _=>True
 | .ins _ _ _=>True
 | .ext _=>True
 | _=>False
def MxF (o:HO):Prop:=Mx o∨∃ ob φ,o=.frz ob (.ext φ)
def z3 (H:Hp) (a:Addr) (φ:Heap->Prop):Prop:=H a=some (.ext φ)∨∃ o,H a=some (.frz o (.ext φ))
theorem z3.mono {H H':Hp} {a:Addr} {φ:Heap->Prop} (h:z3 H a φ) (k:∀ o,H a=some o->H' a=some o):z3 H' a φ:=h.elim (fun h=>.inl (k _ h)) fun ⟨o,h⟩=>.inr ⟨o,k _ h⟩
theorem z3.ok {P:Program} {w:World} {H:Hp} {h:Heap} {a:Addr} {φ:Heap->Prop} (x:z3 H a φ) (k:HOk P w H h) : φ h:=by
 rcases x with x | ⟨o,x⟩
 ·exact (k a _ x).1
 ·exact (k a _ x).2.1
theorem D1 {x:Addr} : ¬ MxF (.own x):=fun z=>by rcases z with z | ⟨_,_,z⟩; exact z; cases z
theorem Ha {fs:List (Str × V)} : ¬ MxF (.xd fs):=fun z=>by rcases z with z | ⟨_,_,z⟩; exact z; cases z
inductive eD (A:List Addr) (B H:Hp) (a:Addr):Cl->Prop
 | dat {d:D}:Own B H a d->eD A B H a (.dat d)
 | obj {C dx:Addr} {gs:List (Str × V)} {fs:List (Str × SV)}:H a=some (.ins C dx gs)->H dx=some (.own a)->ff A B gs fs->eD A B H a (.obj C fs)
 | lst {vs:List V} {xs:List SV}:H a=some (.lst vs)->bV A B vs xs->eD A B H a (.lst xs)
 | dct {kvs:List (Key × V)} {es:List (Key × SV)}:H a=some (.dK kvs)->jX A B kvs es->eD A B H a (.dct es)
 | exc {c:Str} {n:Option Int} {φ:Heap->Prop}:z3 H a φ->(∀ h,φ h->excAt a (Zl.cl c) h)->(∀ k,n=some k->∃ dx,(∀ h,φ h->J0 a (Zl.cl c) dx h)∧H dx=some (.xd [("by",.int k)]))->eD A B H a (.exc c n)
theorem eD.mono {A A':List Addr} {B B' H H':Hp} {a:Addr} {c:Cl} (h:eD A B H a c) (g:Gro A A') (e:aC B B') (k:∀ o,H a=some o->H' a=some o) (ko:∀ q o,H q=some o->¬ MxF o->H' q=some o):eD A' B' H' a c:=by
 cases h with
 | dat h=>exact .dat (h.mono e k)
 | obj h1 h2 h3=>exact .obj (k _ h1) (ko _ _ h2 D1) (h3.mono g e)
 | lst h1 h2=>exact .lst (k _ h1) (h2.mono g e)
 | dct h1 h2=>exact .dct (k _ h1) (h2.mono g e)
 | exc h1 h2 h3=>exact .exc (h1.mono k) h2 fun n e=>(let ⟨dx,p1,p2⟩:=h3 n e; ⟨dx,p1,ko _ _ p2 Ha⟩)
structure StO (A:List Addr) (B H:Hp) (S:List (Option Cl)):Prop where
 len:A.length=S.length
 nd:A.Nodup
 dis:∀ a∈A,B a=none
 mx:∀ a∈A,∃ o,H a=some o∧MxF o
 cell:∀ (k:Nat) (c:Cl) (a:Addr),S[k]?=some (some c)->A[k]?=some a->eD A B H a c
structure FrN where
 B:Hp
 H:Hp
 io:List Addr
 Z:Addr->Prop
structure bf (G:FrN) (A:List Addr) (B H:Hp) (σ:St) (s:SS):Prop where
 sub:aC B H
 sB:aC G.B B
 cC:∀ q xs,H q=some (.tup xs)->B q=some (.tup xs)
 kept:∀ q o,G.H q=some o->q ∉ G.io->H q=some o
 nB:∀ q,G.H q≠none->G.B q=none->B q=none
 pre:Gro G.io A
 fresh:∀ a∈A,a∈G.io∨G.H a=none
 st:StO A B H s.S
 len:s.t.length=σ.length
 slot:∀ (i:Nat) (x:SV),s.t[i]?=some (some x)->∃ v,σ[i]?=some (some v)∧dB A B v x
 nz:∀ q o u,H q=some (.frz o u)->G.Z q
section
variable {G:FrN} {A A':List Addr} {B H B' H':Hp} {σ:St} {s:SS}
theorem StO.mono (O:StO A B H s.S) (eB:aC B B') (eH:aC H H') (nb:∀ q,H q≠none->B q=none->B' q=none):StO A B' H' s.S where
 len:=O.len
 nd:=O.nd
 dis:=fun a ha=>by obtain ⟨o,h,_⟩:=O.mx a ha; exact nb a (by rw [h]; simp) (O.dis a ha)
 mx:=fun a ha=>by obtain ⟨o,h,m⟩:=O.mx a ha; exact ⟨o,eH _ _ h,m⟩
 cell:=fun k c a h1 h2=>(O.cell k c a h1 h2).mono (Gro.refl _) eB (fun o h=>eH _ _ h) fun q o h _=>eH _ _ h
theorem bf.grow (R:bf G A B H σ s) (eB:aC B B') (eH:aC H H') (sub:aC B' H') (nb:∀ q,H q≠none->B q=none->B' q=none) (tB:∀ q xs,H' q=some (.tup xs)->B' q=some (.tup xs)) (nz:∀ q o u,H' q=some (.frz o u)->G.Z q):bf G A B' H' σ s where
 sub:=sub
 sB:=R.sB.trans eB
 cC:=tB
 kept:=fun q o h n=>eH _ _ (R.kept q o h n)
 nB:=fun q h z=>by
  have z1:=R.nB q h z
  by_cases hq:H q=none
  ·by_cases hi:q∈G.io
   ·obtain ⟨k,hk⟩:=List.mem_iff_getElem?.mp hi
    obtain ⟨o,h2,_⟩:=R.st.mx q (List.mem_of_getElem? (R.pre k q hk))
    rw [hq] at h2; cases h2
   ·cases h3:G.H q with
    | none=>exact absurd h3 h
    | some o=>rw [R.kept q o h3 hi] at hq; cases hq
  ·exact nb q hq z1
 pre:=R.pre
 fresh:=R.fresh
 st:=R.st.mono eB eH nb
 len:=R.len
 slot:=fun i x h=>by obtain ⟨v,h1,h2⟩:=R.slot i x h; exact ⟨v,h1,h2.mono (Gro.refl _) eB⟩
 nz:=nz
theorem bf.pM (R:bf G A B H σ s) {p:Addr} (h:H p=none):G.H p=none∧p ∉ A∧B p=none:=by
 have hA:p ∉ A:=fun z=>by obtain ⟨o,h2,_⟩:=R.st.mx p z; rw [h] at h2; cases h2
 refine ⟨?_,hA,?_⟩
 ·cases h3:G.H p with
  | none=>rfl
  | some o =>
   have:p ∉ G.io:=fun z=>by
    obtain ⟨k,hk⟩:=List.mem_iff_getElem?.mp z
    exact hA (List.mem_of_getElem? (R.pre k p hk))
   rw [R.kept p o h3 this] at h; cases h
 ·cases h3:B p with
  | none=>rfl
  | some o=>rw [R.sub p o h3] at h; cases h
theorem bf.write (R:bf G A B H σ s) {k:Nat} {a:Addr} {o:HO} {c:Cl} (hk:A[k]?=some a) (mo:Mx o) (ok:eD A B (upd H a o) a c):bf G A B (upd H a o) σ ⟨s.S.set k (some c),s.t⟩:=by
 have ha:a∈A:=List.mem_of_getElem? hk
 have hB:=R.st.dis a ha
 obtain ⟨o0,h0,m0⟩:=R.st.mx a ha
 have kl:=(List.getElem?_eq_some_iff.mp hk).1
 refine ⟨fun q u h=>?_,R.sB,fun q xs h=>?_,fun q u h n=>?_,R.nB,R.pre,R.fresh,⟨?_,R.st.nd,R.st.dis,fun b hb=>?_,fun j d b h1 h2=>?_⟩,R.len,R.slot,fun q u w h=>?_⟩
 ·rw [aq (fun z=>by rw [z,hB] at h; cases h)]; exact R.sub q u h
 ·by_cases z:q=a
  ·subst z; rw [az] at h; cases h; cases mo
  ·rw [aq z] at h; exact R.cC q xs h
 ·have z:q≠a:=fun z=>by
   subst z
   rcases R.fresh q ha with g | g
   ·exact n g
   ·rw [g] at h; cases h
  rw [aq z]; exact R.kept q u h n
 ·show A.length=(s.S.set k (some c)).length
  rw [List.length_set]; exact R.st.len
 ·by_cases z:b=a
  ·subst z; exact ⟨o,az,.inl mo⟩
  ·rw [aq z]; exact R.st.mx b hb
 ·have h1':(s.S.set k (some c))[j]?=some (some d):=h1
  by_cases z:j=k
  ·subst z
   rw [hk] at h2; cases h2
   rw [List.getElem?_set_self (by rw [← R.st.len]; exact kl)] at h1'
   cases h1'
   exact ok
  ·rw [List.getElem?_set_ne fun e=>z e.symm] at h1'
   have nb:b≠a:=fun e=>by
    subst e
    exact z ((List.getElem?_inj (List.getElem?_eq_some_iff.mp h2).1 R.st.nd).mp (h2.trans hk.symm))
   refine (R.st.cell j d b h1' h2).mono (Gro.refl _) (aC.refl _) (fun u h=>by rw [aq nb]; exact h) fun q o h hm=>?_
   rw [aq (fun e=>by subst e; rw [h0] at h; cases h; exact hm m0)]; exact h
 ·by_cases z:q=a
  ·subst z; rw [az] at h; cases h; cases mo
  ·rw [aq z] at h; exact R.nz q u w h
theorem bf.take (R:bf G A B H σ s) {p:Addr} {c:Cl} {o:HO} (hG:G.H p=none) (hA:p ∉ A) (hB:B p=none) (hp:H p=some o) (mo:Mx o) (ok:eD (A++[p]) B H p c):bf G (A++[p]) B H σ ⟨s.S++[some c],s.t⟩:=by
 refine ⟨R.sub,R.sB,R.cC,R.kept,R.nB,R.pre.trans (Gro.app _ _),fun b hb=>?_,⟨?_,?_,fun b hb=>?_,fun b hb=>?_,fun j d b h1 h2=>?_⟩,R.len,fun i x h=>?_,R.nz⟩
 ·rcases List.mem_append.mp hb with h | h
  ·exact R.fresh b h
  ·simp only [List.mem_singleton] at h; subst h; exact .inr hG
 ·show (A++[p]).length=(s.S++[some c]).length
  rw [List.length_append,List.length_append,R.st.len]; rfl
 ·rw [List.nodup_append]
  refine ⟨R.st.nd,by simp,fun x hx y hy=>?_⟩
  simp only [List.mem_singleton] at hy; subst hy
  exact fun z=>hA (z ▸ hx)
 ·rcases List.mem_append.mp hb with h | h
  ·exact R.st.dis b h
  ·simp only [List.mem_singleton] at h; subst h; exact hB
 ·rcases List.mem_append.mp hb with h | h
  ·exact R.st.mx b h
  ·simp only [List.mem_singleton] at h; subst h; exact ⟨o,hp,.inl mo⟩
 ·have h1':(s.S++[some c])[j]?=some (some d):=h1
  by_cases z:j < s.S.length
  ·rw [List.getElem?_append_left z] at h1'
   rw [List.getElem?_append_left (by rw [R.st.len]; exact z)] at h2
   exact (R.st.cell j d b h1' h2).mono (Gro.app _ _) (aC.refl _) (fun _ h=>h) fun _ _ h _=>h
  ·rw [List.getElem?_append_right (Nat.le_of_not_lt z)] at h1'
   rw [List.getElem?_append_right (by rw [R.st.len]; exact Nat.le_of_not_lt z),R.st.len] at h2
   cases hz:j - s.S.length with
   | zero =>
    rw [hz] at h1' h2
    simp at h1' h2
    subst h1' h2
    exact ok
   | succ n=>rw [hz] at h1'; simp at h1'
 ·obtain ⟨v,h1,h2⟩:=R.slot i x h
  exact ⟨v,h1,h2.mono (Gro.app _ _) (aC.refl _)⟩
theorem bf.qS (R:bf G A B H σ s) {p:Addr} {xs:List V} (hp:H p=none):bf G A (upd B p (.tup xs)) (upd H p (.tup xs)) σ s∧aC B (upd B p (.tup xs)):=by
 obtain ⟨_,_,hB⟩:=R.pM hp
 have eB:aC B (upd B p (.tup xs)):=fun q u h=>by rw [aq (fun z=>by rw [z,hB] at h; cases h)]; exact h
 refine ⟨R.grow eB (fun q u h=>by rw [aq (fun z=>by rw [z,hp] at h; cases h)]; exact h) (fun q u h=>?_) (fun q h z=>?_) (fun q ys h=>?_) fun q u w h=>?_,eB⟩
 ·by_cases z:q=p
  ·subst z; rw [az] at h ⊢; exact h
  ·rw [aq z] at h ⊢; exact R.sub q u h
 ·rw [aq (fun e=>by rw [e] at h; exact h hp)]; exact z
 ·by_cases z:q=p
  ·subst z; rw [az] at h ⊢; exact h
  ·rw [aq z] at h ⊢; exact R.cC q ys h
 ·by_cases z:q=p
  ·subst z; rw [az] at h; cases h
  ·rw [aq z] at h; exact R.nz q u w h
theorem bf.set (R:bf G A B H σ s) {i:Nat} {v:V} {x:SV} (h:i < s.t.length) (rv:dB A B v x):bf G A B H (σ.set i (some v)) ⟨s.S,s.t.set i (some x)⟩:=by
 refine ⟨R.sub,R.sB,R.cC,R.kept,R.nB,R.pre,R.fresh,R.st,?_,fun j y hj=>?_,R.nz⟩
 ·show (s.t.set i (some x)).length=_
  rw [List.length_set,List.length_set]; exact R.len
 ·have hj':(s.t.set i (some x))[j]?=some (some y):=hj
  by_cases z:j=i
  ·subst z
   rw [List.getElem?_set_self h] at hj'
   cases hj'
   exact ⟨v,List.getElem?_set_self (R.len ▸ h),rv⟩
  ·rw [List.getElem?_set_ne fun e=>z e.symm] at hj'
   rw [List.getElem?_set_ne fun e=>z e.symm]
   exact R.slot j y hj'
mutual
def blV (n:Nat):SV->Bool
 | .pl _=>true
 | .lc k=>decide (k < n)
 | .tp xs=>pN n xs
def pN (n:Nat):List SV->Bool
 | []=>true
 | x::xs=>blV n x && pN n xs
end
theorem vm {n k:Nat} {a:Addr} {A:List Addr} (h:A[k]?=some a) (hk:k < n):(A.take n)[k]?=some a:=by rw [List.getElem?_take,if_pos hk]; exact h
mutual
theorem dB.take {A:List Addr} {B:Hp} (n:Nat):∀ {v:V} {x:SV},dB A B v x->blV n x=true->dB (A.take n) B v x
 | _,_,.pl r,_=>.pl r
 | _,_,.lc h,e=>.lc (vm h (by simpa [blV] using e))
 | _,_,.tp h r,e=>.tp h (bV.take n r (by simpa [blV] using e))
theorem bV.take {A:List Addr} {B:Hp} (n:Nat):∀ {v:List V} {x:List SV},bV A B v x->pN n x=true->bV (A.take n) B v x
 | _,_,.nil,_=>.nil
 | _,_,.cons a b,e=>by
  simp only [pN,Bool.and_eq_true] at e
  exact .cons (dB.take n a e.1) (bV.take n b e.2)
end
def xu {α:Type} (n:Nat):List (α × SV)->Bool
 | []=>true
 | x::xs=>blV n x.2 && xu n xs
theorem ff.take {A:List Addr} {B:Hp} (n:Nat):∀ {v:List (Str × V)} {x:List (Str × SV)},ff A B v x->xu n x=true->ff (A.take n) B v x
 | _,_,.nil,_=>.nil
 | _,_,.cons a b,e=>by
  simp only [xu,Bool.and_eq_true] at e
  exact .cons (a.take n e.1) (ff.take n b e.2)
theorem jX.take {A:List Addr} {B:Hp} (n:Nat):∀ {v:List (Key × V)} {x:List (Key × SV)},jX A B v x->xu n x=true->jX (A.take n) B v x
 | _,_,.nil,_=>.nil
 | _,_,.cons a b,e=>by
  simp only [xu,Bool.and_eq_true] at e
  exact .cons (a.take n e.1) (jX.take n b e.2)
def blC (n:Nat):Cl->Bool
 | .dat _=>true
 | .obj _ fs=>xu n fs
 | .lst xs=>pN n xs
 | .dct es=>xu n es
 | .exc _ _=>true
theorem eD.take {A:List Addr} {B H:Hp} {a:Addr} {c:Cl} (n:Nat) (h:eD A B H a c) (e:blC n c=true):eD (A.take n) B H a c:=by
 cases h with
 | dat h=>exact .dat h
 | obj h1 h2 h3=>exact .obj h1 h2 (h3.take n e)
 | lst h1 h2=>exact .lst h1 (h2.take n e)
 | dct h1 h2=>exact .dct h1 (h2.take n e)
 | exc h1 h2 h3=>exact .exc h1 h2 h3
def gcC (n:Nat) (c:Option Cl):Option Cl:=match c with
 | some c=>if blC n c=true then some c else none
 | none=>none
def gcV (n:Nat) (x:Option SV):Option SV:=match x with
 | some x=>if blV n x=true then some x else none
 | none=>none
def gcS (n:Nat) (S:List (Option Cl)):List (Option Cl):=(S.take n).map (gcC n)
def gcT (n:Nat) (t:List (Option SV)):List (Option SV):=t.map (gcV n)
def gc (n:Nat) (s:SS):SS:=⟨gcS n s.S,gcT n s.t⟩
theorem Hb {n:Nat} {c:Option Cl} {d:Cl} (h:gcC n c=some d):c=some d∧blC n d=true:=by
 cases c with
 | none=>cases h
 | some c =>
  simp only [gcC] at h
  split at h
  ·rename_i e; cases h; exact ⟨rfl,e⟩
  ·cases h
theorem Hc {n:Nat} {c:Option SV} {d:SV} (h:gcV n c=some d):c=some d∧blV n d=true:=by
 cases c with
 | none=>cases h
 | some c =>
  simp only [gcV] at h
  split at h
  ·rename_i e; cases h; exact ⟨rfl,e⟩
  ·cases h
theorem StO.gc {S:List (Option Cl)} (O:StO A B H S) (n:Nat):StO (A.take n) B H (gcS n S):=by
 refine ⟨?_,O.nd.sublist (List.take_sublist _ _),fun a ha=>O.dis a (List.mem_of_mem_take ha),fun a ha=>O.mx a (List.mem_of_mem_take ha),fun k c a h1 h2=>?_⟩
 ·unfold gcS; rw [List.length_map,List.length_take,List.length_take,O.len]
 ·unfold gcS at h1
  rw [List.getElem?_map] at h1
  obtain ⟨c',h3,h4⟩:=Option.map_eq_some_iff.mp h1
  obtain ⟨rfl,h5⟩:=Hb h4
  rw [List.getElem?_take] at h3 h2
  split at h2
  ·rename_i hk
   rw [if_pos hk] at h3
   exact (O.cell k c a h3 h2).take n h5
  ·cases h2
theorem bf.gc (R:bf G A B H σ s) {n:Nat} (hn:G.io.length≤n):bf G (A.take n) B H σ (gc n s):=by
 refine ⟨R.sub,R.sB,R.cC,R.kept,R.nB,fun k a h=>?_,fun a ha=>R.fresh a (List.mem_of_mem_take ha),R.st.gc n,?_,fun i x h=>?_,R.nz⟩
 ·exact vm (R.pre k a h) (Nat.lt_of_lt_of_le (List.getElem?_eq_some_iff.mp h).1 hn)
 ·show (gcT n s.t).length=_
  unfold gcT; rw [List.length_map]; exact R.len
 ·have h':(gcT n s.t)[i]?=some (some x):=h
  unfold gcT at h'
  rw [List.getElem?_map] at h'
  obtain ⟨c',h3,h4⟩:=Option.map_eq_some_iff.mp h'
  obtain ⟨rfl,h5⟩:=Hc h4
  obtain ⟨v,h6,h7⟩:=R.slot i x h3
  exact ⟨v,h6,h7.take n h5⟩
def yM (n:Nat) (S:List (Option Cl)):Bool:=(S.take n).all fun c=>match c with
 | some c=>blC n c
 | none=>true
def IS (n:Nat) (t:List (Option SV)) (i:Nat):Bool:=match t[i]? with
 | some (some x)=>blV n x
 | _=>true
def gcE (n:Nat) (kp:List Nat) (s:SS):SS:=if (yM n s.S && kp.all (IS n s.t))=true then gc n s else s
theorem bf.gcE (R:bf G A B H σ s) {n:Nat} {kp:List Nat} (hn:G.io.length≤n):∃ A',bf G A' B H σ (gcE n kp s):=by
 unfold Mir.gcE
 split
 ·exact ⟨_,R.gc hn⟩
 ·exact ⟨_,R⟩
theorem Gro.len {A A':List Addr} (g:Gro A A'):A.length≤A'.length:=by
 cases h:A.length with
 | zero=>omega
 | succ k =>
  have hk:k < A.length:=by omega
  have:=g k A[k] (List.getElem?_eq_getElem hk)
  exact (List.getElem?_eq_some_iff.mp this).1
end
end
end Mir
namespace Mir
open PySem L2
section
variable [Zc] [Zl]
mutual
def rdV (S:List (Option Cl)):SV->Option D
 | .pl d=>some d
 | .lc k=>match S[k]? with
  | some (some (.dat d))=>some d
  | _=>none
 | .tp xs=>(qV S xs).map .tuple
def qV (S:List (Option Cl)):List SV->Option (List D)
 | []=>some []
 | x::xs=>(rdV S x).bind fun d=>(qV S xs).map fun ds=>d::ds
end
section
variable {G:FrN} {A:List Addr} {B H:Hp} {σ:St} {s:SS}
mutual
theorem yN (O:StO A B H s.S) (sub:aC B H):∀ {v:V} {x:SV} {d:D},dB A B v x->rdV s.S x=some d->Rep H v d
 | _,_,d,.pl r,e=>by
  simp only [rdV] at e
  cases e
  exact r.mono sub
 | _,_,d,.lc (k:=k) h,e=>by
  simp only [rdV] at e
  split at e
  ·rename_i d' hc
   cases e
   cases O.cell k _ _ hc h with
   | dat o=>exact o.rep sub
  ·cases e
 | _,_,d,.tp h r,e=>by
  simp only [rdV] at e
  obtain ⟨ds,e1,rfl⟩:=Option.map_eq_some_iff.mp e
  exact .tup (sub _ _ h) (pP O sub r e1)
theorem pP (O:StO A B H s.S) (sub:aC B H):∀ {v:List V} {x:List SV} {d:List D},bV A B v x->qV s.S x=some d->aP H v d
 | _,_,d,.nil,e=>by
  simp only [qV] at e
  cases e
  exact .nil
 | _,_,d,.cons a b,e=>by
  simp only [qV] at e
  obtain ⟨c,e1,e⟩:=Option.bind_eq_some_iff.mp e
  obtain ⟨ds,e2,rfl⟩:=Option.map_eq_some_iff.mp e
  exact .cons (yN O sub a e1) (pP O sub b e2)
end
def z4 (S:List (Option Cl)):Option SV->Sl
 | none=>.no
 | some x=>match rdV S x with
  | some d=>.fz d
  | none=>.no
def vw (s:SS):Rho:=s.t.map (z4 s.S)
def slC:Option SV->Sl
 | some (.pl d)=>.fz d
 | _=>.no
def vwC (s:SS):Rho:=s.t.map slC
theorem z5 (S:List (Option Cl)) (y:Option SV):z4 S y=.no∨∃ d x,z4 S y=.fz d∧y=some x∧rdV S x=some d:=by
 cases y with
 | none=>exact .inl rfl
 | some x =>
  cases h:rdV S x with
  | none=>exact .inl (by simp only [z4,h])
  | some d=>exact .inr ⟨d,x,by simp only [z4,h],rfl,h⟩
theorem BM (y:Option SV):slC y=.no∨∃ d,slC y=.fz d∧y=some (.pl d):=by
 cases y with
 | none=>exact .inl rfl
 | some x=>cases x with
  | pl d=>exact .inr ⟨d,rfl,rfl⟩
  | lc _=>exact .inl rfl
  | tp _=>exact .inl rfl
theorem xw {i:Nat} {x:Sl} (h:(vw s)[i]?=some x):x=.no∨∃ d y,x=.fz d∧s.t[i]?=some (some y)∧rdV s.S y=some d:=by
 unfold vw at h
 rw [List.getElem?_map] at h
 obtain ⟨y,h1,rfl⟩:=Option.map_eq_some_iff.mp h
 rcases z5 s.S y with e | ⟨d,z,e,rfl,e2⟩
 ·exact .inl e
 ·exact .inr ⟨d,z,e,h1,e2⟩
theorem tE {i:Nat} {x:Sl} (h:(vwC s)[i]?=some x):x=.no∨∃ d,x=.fz d∧s.t[i]?=some (some (.pl d)):=by
 unfold vwC at h
 rw [List.getElem?_map] at h
 obtain ⟨y,h1,rfl⟩:=Option.map_eq_some_iff.mp h
 rcases BM y with e | ⟨d,e,rfl⟩
 ·exact .inl e
 ·exact .inr ⟨d,e,h1⟩
theorem bf.opn (R:bf G A B H σ s):Rel ⟨H,H,[],G.Z⟩ H H σ (vw s):=by
 have nk:∀ (i:Nat) (x:Sl),(vw s)[i]?=some x->x.isRef=true->False:=fun i x h e=>by
  rcases xw h with rfl | ⟨d,y,rfl,_⟩ <;> cases e
 refine ⟨aC.refl _,aC.refl _,fun _ _ h _=>h,fun _ h z=>absurd z h,?_,fun i x h=>?_,fun i j x t p h1 h2=>(nk i x h1 (Sl.jy h2)).elim,fun i d p h=>(nk i _ h rfl).elim,(fun x hx=>by cases hx),fun i d h=>(nk i _ h rfl).elim,fun _ _ h=>h,fun i h=>?_,R.nz⟩
 ·unfold vw; rw [List.length_map]; exact R.len
 ·rcases xw h with rfl | ⟨d,y,rfl,h1,h2⟩
  ·trivial
  ·obtain ⟨v,h3,h4⟩:=R.slot i y h1
   exact ⟨v,h3,yN R.st R.sub h4 h2⟩
 ·rcases xw h with z | ⟨d,y,z,_⟩ <;> cases z
theorem bf.cls (R:bf G A B H σ s):Rel ⟨B,H,[],G.Z⟩ B H σ (vwC s):=by
 have nk:∀ (i:Nat) (x:Sl),(vwC s)[i]?=some x->x.isRef=true->False:=fun i x h e=>by
  rcases tE h with rfl | ⟨d,rfl,_⟩ <;> cases e
 refine ⟨R.sub,aC.refl _,fun _ _ h _=>h,fun _ _ z=>z,?_,fun i x h=>?_,fun i j x t p h1 h2=>(nk i x h1 (Sl.jy h2)).elim,fun i d p h=>(nk i _ h rfl).elim,(fun x hx=>by cases hx),fun i d h=>(nk i _ h rfl).elim,R.cC,fun i h=>?_,R.nz⟩
 ·unfold vwC; rw [List.length_map]; exact R.len
 ·rcases tE h with rfl | ⟨d,rfl,h1⟩
  ·trivial
  ·obtain ⟨v,h3,h4⟩:=R.slot i _ h1
   cases h4 with
   | pl r=>exact ⟨v,h3,r⟩
 ·rcases tE h with z | ⟨d,z,_⟩ <;> cases z
def tbu (B H:Hp):Hp:=fun q=>match B q with
 | some o=>some o
 | none=>match H q with
  | some (.tup xs)=>some (.tup xs)
  | _=>none
theorem mf {B H:Hp}:aC B (tbu B H):=fun q o h=>by unfold tbu; rw [h]
theorem mh {B H:Hp} (sub:aC B H) {q:Addr} {xs:List V} (h:H q=some (.tup xs)):tbu B H q=some (.tup xs):=by
 unfold tbu
 cases hb:B q with
 | none=>rw [h]
 | some o =>
  have:=sub q o hb
  rw [h] at this
  exact this.symm
theorem nc {B H:Hp} {q:Addr} {o:HO} (h:tbu B H q=some o):B q=some o∨(B q=none∧∃ xs,o=.tup xs∧H q=some (.tup xs)):=by
 unfold tbu at h
 cases hb:B q with
 | some o'=>rw [hb] at h; exact .inl h
 | none =>
  rw [hb] at h
  refine .inr ⟨rfl,?_⟩
  dsimp only at h
  split at h
  ·rename_i xs hx; cases h; exact ⟨xs,rfl,hx⟩
  ·cases h
theorem bf.back {ρ:Rho} {B1 H1:Hp} (R:bf G A B H σ s) (R1:Rel ⟨H,H,[],G.Z⟩ B1 H1 σ ρ):bf G A (tbu B H1) H1 σ s∧aC B (tbu B H1)∧aC H H1∧∀ q xs,B1 q=some (.tup xs)->tbu B H1 q=some (.tup xs):=by
 have eH:aC H H1:=fun q o h=>R1.sH q o h fun x hx=>by cases hx
 have tF:aC B H1:=R.sub.trans eH
 refine ⟨R.grow mf eH (fun q o h=>?_) (fun q h z=>?_) (fun q xs h=>mh tF h) R1.nz,mf,eH,fun q xs h=>mh tF (R1.sub _ _ h)⟩
 ·rcases nc h with h | ⟨_,xs,rfl,h'⟩
  ·exact tF q o h
  ·exact h'
 ·cases h2:tbu B H1 q with
  | none=>rfl
  | some o =>
   rcases nc h2 with h3 | ⟨_,xs,rfl,h3⟩
   ·rw [z] at h3; cases h3
   ·cases h4:H q with
    | none=>exact absurd h4 h
    | some u =>
     have:=eH q u h4
     rw [h3] at this
     cases this
     rw [R.cC q xs h4] at z; cases z
end
theorem Own.dq {B B' H:Hp} {p:Addr} {d:D} (k:∀ q xs,B q=some (.tup xs)->B' q=some (.tup xs)) (h:Own B H p d) (e:eJ d true=true):Own B' H p d:=by
 cases h with
 | lst h r=>exact .lst h (r.dq k e)
 | dct h r=>exact .dct h (r.dq k e)
theorem Own.mx {B H:Hp} {p:Addr} {d:D} (h:Own B H p d):∃ o,H p=some o∧Mx o:=by
 cases h with
 | lst h r=>exact ⟨_,h,trivial⟩
 | dct h r=>exact ⟨_,h,trivial⟩
structure Xc where
 c:Str
 by_:Option Int
inductive RR (α:Type) where
 | ok (v : α) (s:SS) | er (x:Xc) (s:SS)
abbrev MN (α:Type):=SS->Option (RR α)
abbrev EN:=MN SV
def bN {α β:Type} (m:MN α) (k : α->MN β):MN β:=fun s=>match m s with
 | some (.ok v s')=>k v s'
 | some (.er x s')=>some (.er x s')
 | none=>none
abbrev WX:=Xc->St->Hp->Prop
abbrev RL (β α:Type):=List Addr->Hp->β->α->Prop
def ROk {α β:Type} (G:FrN) (A:List Addr) (B:Hp) (σ:St) (W:WX) (Rl:RL β α) (Q : β->Hp->Prop):RR α->Prop
 | .ok v s'=>∀ x A' B' H',Gro A A'->aC B B'->bf G A' B' H' σ s'->Rl A' B' x v->Q x H'
 | .er y s'=>∀ A' B' H',bf G A' B' H' σ s'->W y σ H'
def NM {α β:Type} (W:WX) (Rl:RL β α) (t:St->Hp->(β->Hp->Prop)->Prop) (m:MN α):Prop :=
 ∀ (G:FrN) (A:List Addr) (B H:Hp) (σ:St) (s:SS) (r:RR α) (Q : β->Hp->Prop),bf G A B H σ s->m s=some r->ROk G A B σ W Rl Q r->t σ H Q
abbrev NE (W:WX) (t:TE) (m:EN):Prop:=NM W dB t m
abbrev NT (W:WX) (t:TT) (m:MN Bool):Prop:=NM W (fun _ _ (b c:Bool)=>b=c) t m
abbrev NA (W:WX) (t:TA) (m:MN (List SV)):Prop:=NM W bV t m
section
variable {W:WX} {G:FrN} {A:List Addr} {B H:Hp} {σ:St} {s:SS}
theorem ROk.up {α β:Type} {Rl:RL β α} {Q : β->Hp->Prop} {r:RR α} {A1:List Addr} {B1:Hp} (q:ROk G A B σ W Rl Q r) (g:Gro A A1) (e:aC B B1):ROk G A1 B1 σ W Rl Q r:=by
 cases r with
 | ok v s'=>exact fun x A' B' H' g' e'=>q x A' B' H' (g.trans g') (e.trans e')
 | er y s'=>exact q
theorem fT {α β γ δ:Type} {Rl:RL β α} {Rl':RL δ γ} {t:St->Hp->(β->Hp->Prop)->Prop} {m:MN α} {k : α->MN γ} {r:RR γ} {Q : δ->Hp->Prop} {C : β->Hp->Prop} (h:NM W Rl t m) (R:bf G A B H σ s) (e:bN m k s=some r) (q:ROk G A B σ W Rl' Q r)
  (c:∀ x v A' B' H' s',Gro A A'->aC B B'->bf G A' B' H' σ s'->Rl A' B' x v->k v s'=some r->ROk G A' B' σ W Rl' Q r->C x H'):t σ H C:=by
 unfold bN at e
 split at e
 ·rename_i v s' h1
  exact h G A B H σ s _ C R h1 fun x A' B' H' g eB R' V=>c x v A' B' H' s' g eB R' V e (q.up g eB)
 ·rename_i y s' h1
  cases e
  exact h G A B H σ s _ C R h1 q
 ·cases e
end
section
variable {W:WX} {G:FrN} {A:List Addr} {B H:Hp} {σ:St} {s:SS}
def newD (d:D) (s:SS):RR SV:=.ok (.lc s.S.length) ⟨s.S++[some (.dat d)],s.t⟩
def IT (w:D × Bool) (s:SS):Option (RR SV):=match w with
 | (d,false)=>some (.ok (.pl d) s)
 | (.tuple ds,true)=>some (.ok (.pl (.tuple ds)) s)
 | (d,true)=>some (newD d s)
end
section
variable {W:WX}
def nO (m:PM):EN:=fun s=>(m (vw s)).bind fun x=>match x.1 with
 | (d,.fz)=>if eI d=true then some (.ok (.pl d) s) else none
 | (d,.new)=>if eJ d true=true then some (newD d s) else none
 | _=>none
theorem gC {t:TE} {m:PM} (h:ME t m):NE W t (nO m):=by
 intro G A B H σ s r Q R e q
 obtain ⟨x,e1,e⟩:=Option.bind_eq_some_iff.mp e
 refine h _ H H σ (vw s) x.1 x.2 _ R.opn e1 fun v B1 H1 E1 R1 V1 N1=>?_
 obtain ⟨R2,eB,eH,kt⟩:=R.back R1
 obtain ⟨⟨d,k⟩,ρ1⟩:=x
 cases k with
 | fz =>
  dsimp only at e
  split at e
  ·rename_i hp
   cases e
   have V1':Rep B1 v d:=V1
   exact q v A _ H1 (Gro.refl _) eB R2 (.pl (V1'.dq kt hp))
  ·cases e
 | new =>
  dsimp only at e
  split at e
  ·rename_i hp
   cases e
   obtain ⟨p,rfl,hB,hF,ow,_⟩:=V1
   have hF':H p=none:=hF
   obtain ⟨g1,g2,g3⟩:=R.pM hF'
   have ow':=ow.dq kt hp
   obtain ⟨o,ho,mo⟩:=ow'.mx
   have hB2:tbu B H1 p=none:=by
    cases h2:tbu B H1 p with
    | none=>rfl
    | some o' =>
     rcases nc h2 with h3 | ⟨_,xs,rfl,h3⟩
     ·rw [g3] at h3; cases h3
     ·exact absurd h3 (ow.j4 xs)
   have R3:=R2.take (c:=.dat d) g1 g2 hB2 ho mo (.dat ow')
   refine q _ _ _ H1 (Gro.app _ _) eB R3 (.lc ?_)
   rw [← R.st.len]; exact List.getElem?_concat_length
  ·cases e
 | ro=>cases e
 | «at» j=>cases e
def nTo (m:Rho->Option (Bool × Rho)):MN Bool:=fun s=>(m (vw s)).map fun x=>.ok x.1 s
theorem oA {t:TT} {m:Rho->Option (Bool × Rho)} (h:MT t m):NT W t (nTo m):=by
 intro G A B H σ s r Q R e q
 obtain ⟨x,e1,e⟩:=Option.map_eq_some_iff.mp e
 cases e
 refine h _ H H σ (vw s) x.1 x.2 _ R.opn e1 fun B1 H1 E1 R1=>?_
 obtain ⟨R2,eB,eH,kt⟩:=R.back R1
 exact q _ A _ H1 (Gro.refl _) eB R2 rfl
def cU (i:Nat):EN:=fun s=>match s.t[i]? with
 | some (some x)=>some (.ok x s)
 | _=>none
theorem bP {i:Nat}:NE W (lz i) (cU i):=by
 intro G A B H σ s r Q R e q
 unfold cU at e
 split at e
 ·rename_i x hx
  cases e
  obtain ⟨v,h1,h2⟩:=R.slot i _ hx
  exact ⟨v,h1,q v A B H (Gro.refl _) (aC.refl _) R h2⟩
 ·cases e
def nLit (d:D):EN:=fun s=>some (.ok (.pl d) s)
theorem du {v:V} {d:D} (h:∀ B,Rep B v d):NE W (tC v) (nLit d):=by
 intro G A B H σ s r Q R e q
 cases e
 exact q v A B H (Gro.refl _) (aC.refl _) R (.pl (h B))
def ixV (S:List (Option Cl)) (x:SV) (i:Int):Option SV:=match x with
 | .tp xs=>L2.atI xs i
 | .pl (.tuple ds)=>(L2.atI ds i).map .pl
 | .pl (.list ds)=>(L2.atI ds i).map .pl
 | .lc k=>match S[k]? with
  | some (some (.dat (.list ds)))=>(L2.atI ds i).map .pl
  | some (some (.lst xs))=>L2.atI xs i
  | _=>none
 | _=>none
theorem mi {α β:Type} {P : α->β->Prop} {xs:List α} {ys:List β} (hl:xs.length=ys.length) (h:∀ (n:Nat) (y : β),ys[n]?=some y->∃ x,xs[n]?=some x∧P x y) {i:Int} {y : β} (e:L2.atI ys i=some y):∃ x,L2.atI xs i=some x∧P x y:=by
 unfold L2.atI at e ⊢
 rw [hl]
 obtain ⟨j,e1,e2⟩:=Option.bind_eq_some_iff.mp e
 obtain ⟨x,h1,h2⟩:=h j y e2
 exact ⟨x,by rw [e1,Option.bind_some]; exact h1,h2⟩
theorem Hd {K:PySem.W.Frag} {G:FrN} {A:List Addr} {B H:Hp} {σ:St} {s:SS} {v:V} {x y:SV} {i:Int} (R:bf G A B H σ s) (hV:dB A B v x) (e:ixV s.S x i=some y):∃ u,dB A B u y∧∀ Q:VK,Q u H->rIx K v (.int i) H Q:=by
 have lst:∀ {a:Addr} {xs:List V} {u:V},H a=some (.lst xs)∨Rd H a (.lst xs)->L2.atI xs i=some u->∀ Q:VK,Q u H->rIx K (.ref a) (.int i) H Q:=fun h h1 Q q =>
  .inl ⟨_,_,_,_,rfl,rfl,.inl (h.elim .inl id),h1,q⟩
 cases x with
 | tp xs =>
  cases hV with
  | tp ht rs =>
   obtain ⟨u,h1,h2⟩:=mi rs.length (fun n y hy=>rs.get n y hy) e
   exact ⟨u,h2,fun Q q=>.inr (.inl ⟨_,_,_,_,rfl,rfl,.inl (.inl (R.sub _ _ ht)),h1,q⟩)⟩
 | pl d =>
  cases d with
  | tuple ds =>
   obtain ⟨c,e1,rfl⟩:=Option.map_eq_some_iff.mp e
   cases hV with
   | pl rp =>
    cases rp with
    | tup ht rs =>
     obtain ⟨u,h1,h2⟩:=mi rs.length (fun n y hy=>rs.get n y hy) e1
     exact ⟨u,.pl h2,fun Q q=>.inr (.inl ⟨_,_,_,_,rfl,rfl,.inl (.inl (R.sub _ _ ht)),h1,q⟩)⟩
  | list ds =>
   obtain ⟨c,e1,rfl⟩:=Option.map_eq_some_iff.mp e
   cases hV with
   | pl rp =>
    cases rp with
    | lst ht rs =>
     obtain ⟨u,h1,h2⟩:=mi rs.length (fun n y hy=>rs.get n y hy) e1
     exact ⟨u,.pl h2,lst (.inr (d7 R.sub ht)) h1⟩
  | _=>cases e
 | lc k =>
  simp only [ixV] at e
  cases hV with
  | lc hA =>
   split at e
   ·rename_i ds hk
    obtain ⟨c,e1,rfl⟩:=Option.map_eq_some_iff.mp e
    cases R.st.cell k _ _ hk hA with
    | dat ow =>
     obtain ⟨xs,hp,rs⟩:=ow.list
     obtain ⟨u,h1,h2⟩:=mi rs.length (fun n y hy=>rs.get n y hy) e1
     exact ⟨u,.pl h2,lst (.inl hp) h1⟩
   ·rename_i xs hk
    cases R.st.cell k _ _ hk hA with
    | lst hp rs =>
     obtain ⟨u,h1,h2⟩:=mi rs.length (fun n y hy=>rs.get n y hy) e
     exact ⟨u,h2,lst (.inl hp) h1⟩
   ·cases e
def nIx (a b:EN):EN:=bN a fun x=>bN b fun y s=>match y with
 | .pl (.int i)=>(ixV s.S x i).map fun z=>.ok z s
 | _=>none
theorem kf {K:PySem.W.Frag} {ta tb:TE} {a b:EN} (ha:NE W ta a) (hb:NE W tb b):NE W (tOp (rIx K) ta tb) (nIx a b):=by
 intro G A B H σ s r0 Q R e q
 refine fT (t:=ta) ha R e q fun x v A1 B1 H1 s1 g1 eB1 R1 V1 e1 q1=>?_
 refine fT (t:=tb) hb R1 e1 q1 fun y u A2 B2 H2 s2 g2 eB2 R2 V2 e2 q2=>?_
 split at e2
 ·obtain ⟨z,e3,e4⟩:=Option.map_eq_some_iff.mp e2
  cases e4
  cases V2 with
  | pl rp =>
   cases rp
   obtain ⟨w,h1,h2⟩:=Hd (K:=K) R2 (V1.mono g2 eB2) e3
   exact h2 Q (q2 w A2 B2 H2 (Gro.refl _) (aC.refl _) R2 h1)
 ·cases e2
def fg:MN (List SV):=fun s=>some (.ok [] s)
theorem eV:NA W w9 fg:=by
 intro G A B H σ s rs Q R e q
 cases e
 exact q [] A B H (Gro.refl _) (aC.refl _) R .nil
def bq (a:EN) (m:MN (List SV)):MN (List SV):=bN a fun x=>bN m fun xs s=>some (.ok (x::xs) s)
theorem a7 {ta:TE} {tr:TA} {a:EN} {m:MN (List SV)} (ha:NE W ta a) (hr:NA W tr m):NA W (hE ta tr) (bq a m):=by
 intro G A B H σ s r0 Q R e q
 refine fT (t:=ta) ha R e q fun x v A1 B1 H1 s1 g1 eB1 R1 V1 e1 q1=>?_
 refine fT (t:=tr) hr R1 e1 q1 fun y u A2 B2 H2 s2 g2 eB2 R2 V2 e2 q2=>?_
 cases e2
 exact q2 _ A2 B2 H2 (Gro.refl _) (aC.refl _) R2 (.cons (V1.mono g2 eB2) V2)
def iL:List SV->Option (List D)
 | []=>some []
 | .pl d::xs=>(iL xs).map fun ds=>d::ds
 | _=>none
theorem jo {A:List Addr} {B:Hp}:∀ {vs:List V} {xs:List SV} {ds:List D},bV A B vs xs->iL xs=some ds->aP B vs ds
 | _,_,ds,.nil,e=>by
  simp only [iL] at e
  cases e; exact .nil
 | _,_,ds,.cons (x:=x) a b,e=>by
  cases x with
  | pl d =>
   simp only [iL] at e
   obtain ⟨ds',e1,rfl⟩:=Option.map_eq_some_iff.mp e
   cases a with
   | pl r=>exact .cons r (jo b e1)
  | lc k=>simp [iL] at e
  | tp k=>simp [iL] at e
def mkT (xs:List SV):SV:=match iL xs with
 | some ds=>.pl (.tuple ds)
 | none=>.tp xs
theorem D2 {A:List Addr} {B:Hp} {t:Addr} {vs:List V} {xs:List SV} (h:B t=some (.tup vs)) (r:bV A B vs xs):dB A B (.ref t) (mkT xs):=by
 unfold mkT
 split
 ·rename_i ds e; exact .pl (.tup h (jo r e))
 ·exact .tp h r
noncomputable def mj (m:MN (List SV)):EN:=bN m fun xs s=>cIf (xs.length≤sizeLine) (some (.ok (mkT xs) s)) none
theorem kg {t:TA} {m:MN (List SV)} (h:NA W t m):NE W (Dp t) (mj m):=by
 intro G A B H σ s r0 Q R e q
 refine fT (t:=t) h R e q fun vs xs A1 B1 H1 s1 g1 eB1 R1 V1 e1 q1=>?_
 obtain ⟨hz,e1⟩:=cH e1
 cases e1
 refine ⟨by rw [V1.length]; exact hz,fun p hp=>?_⟩
 obtain ⟨R2,eB2⟩:=R1.qS (xs:=vs) hp
 exact q1 _ A1 _ _ (Gro.refl _) eB2 R2 (D2 az (V1.mono (Gro.refl _) eB2))
def mkL (xs:List SV):Cl:=match iL xs with
 | some ds=>.dat (.list ds)
 | none=>.lst xs
def IU (c:Cl) (s:SS):RR SV:=.ok (.lc s.S.length) ⟨s.S++[some c],s.t⟩
theorem BN {G:FrN} {A:List Addr} {B H:Hp} {σ:St} {s:SS} {c:Cl} {p:Addr} {o:HO} {Q:VK} (R:bf G A B H σ s) (hp:H p=none) (mo:Mx o) (ok:∀ H',H' p=some o->eD (A++[p]) B H' p c) (q:ROk G A B σ W dB Q (IU c s)):Q (.ref p) (upd H p o):=by
 obtain ⟨g1,g2,g3⟩:=R.pM hp
 have eH:aC H (upd H p o):=fun q u h=>by rw [aq (fun z=>by rw [z,hp] at h; cases h)]; exact h
 have R2:bf G A B (upd H p o) σ s:=R.grow (aC.refl _) eH (R.sub.trans eH) (fun _ _ z=>z) (fun q xs h=>by
  by_cases z:q=p
  ·subst z; rw [az] at h; cases h; cases mo
  ·rw [aq z] at h; exact R.cC q xs h) fun q u w h=>by
  by_cases z:q=p
  ·subst z; rw [az] at h; cases h; cases mo
  ·rw [aq z] at h; exact R.nz q u w h
 have R3:=R2.take (c:=c) g1 g2 g3 az mo (ok _ az)
 exact q _ _ _ _ (Gro.app _ _) (aC.refl _) R3 (.lc (by rw [← R.st.len]; exact List.getElem?_concat_length))
noncomputable def D3 (m:MN (List SV)):EN:=bN m fun xs s=>cIf (xs.length≤sizeLine) (some (IU (mkL xs) s)) none
theorem He {t:TA} {m:MN (List SV)} (h:NA W t m):NE W (Gj t) (D3 m):=by
 intro G A B H σ s r0 Q R e q
 refine fT (t:=t) h R e q fun vs xs A1 B1 H1 s1 g1 eB1 R1 V1 e1 q1=>?_
 obtain ⟨hz,e1⟩:=cH e1
 cases e1
 refine ⟨by rw [V1.length]; exact hz,fun p hp=>BN R1 hp trivial (fun H' h'=>?_) q1⟩
 unfold mkL
 split
 ·rename_i ds ea; exact .dat (.lst h' (jo V1 ea))
 ·exact .lst h' (V1.mono (Gro.app _ _) (aC.refl _))
structure vn (A:List Addr) (B H:Hp) (A':List Addr) (B' H':Hp) (S':List (Option Cl)) (v:V) (r:SV):Prop where
 gro:Gro A A'
 eB:aC B B'
 sub:aC B' H'
 tB:∀ q xs,H' q=some (.tup xs)->B' q=some (.tup xs)
 kept:∀ q o,H q=some o->q ∉ A->H' q=some o
 nb:∀ q,H q≠none->B q=none->B' q=none
 fresh:∀ a∈A',a∈A∨H a=none
 st:StO A' B' H' S'
 nz:∀ q o u,H' q=some (.frz o u)->∃ o0 u0,H q=some (.frz o0 u0)
 val:dB A' B' v r
inductive FR where
 | ok (r:SV) (S:List (Option Cl)) | er (x:Xc) (S:List (Option Cl))
abbrev FN:=List (Option Cl)->List SV->Option FR
def spS (f:FN):Sp:=fun vs H Q E=>∃ A B S xs w,aC B H∧(∀ q xs,H q=some (.tup xs)->B q=some (.tup xs))∧StO A B H S∧bV A B vs xs∧f S xs=some w ∧
 match w with
 | .ok r S'=>∀ v A' B' H',vn A B H A' B' H' S' v r->Q v H'
 | .er x S'=>∀ A' B' H',vn A B H A' B' H' S' .non (.pl .none)->E (Zl.cl x.c) none H'
def spQ (f:FN):Sp:=fun vs H Q _=>spS f vs H Q E0
theorem bf.post {G:FrN} {A A':List Addr} {B H B' H':Hp} {σ:St} {s:SS} {S':List (Option Cl)} {v:V} {r:SV} (R:bf G A B H σ s) (P:vn A B H A' B' H' S' v r):bf G A' B' H' σ ⟨S',s.t⟩:=by
 refine ⟨P.sub,R.sB.trans P.eB,P.tB,fun q o h n=>?_,fun q h z=>?_,R.pre.trans P.gro,fun a ha=>?_,P.st,R.len,fun i x h=>?_,fun q o u h=>?_⟩
 ·refine P.kept q o (R.kept q o h n) fun hq=>?_
  rcases R.fresh q hq with h1 | h1
  ·exact n h1
  ·rw [h1] at h; cases h
 ·refine P.nb q (fun hq=>?_) (R.nB q h z)
  have:=(R.pM hq).1
  exact h this
 ·rcases P.fresh a ha with h | h
  ·exact R.fresh a h
  ·exact .inr (R.pM h).1
 ·obtain ⟨w,h1,h2⟩:=R.slot i x h
  exact ⟨w,h1,h2.mono P.gro P.eB⟩
 ·obtain ⟨o0,u0,h0⟩:=P.nz q o u h
  exact R.nz q o0 u0 h0
def frR (w:FR) (t:List (Option SV)):RR SV:=match w with
 | .ok r S=>.ok r ⟨S,t⟩
 | .er x S=>.er x ⟨S,t⟩
def pQ (f:FN) (m:MN (List SV)):EN:=bN m fun xs s=>(f s.S xs).map fun w=>frR w s.t
theorem BO {f:FN} {G:FrN} {A:List Addr} {B H:Hp} {σ:St} {s:SS} {vs:List V} {xs:List SV} {r0:RR SV} {Q:VK} {E:XK} (R:bf G A B H σ s) (V:bV A B vs xs) (e:((f s.S xs).map fun w=>frR w s.t)=some r0) (q:ROk G A B σ W dB Q r0)
  (hw:∀ x H',W x σ H'->E (Zl.cl x.c) none H'):spS f vs H Q E:=by
 obtain ⟨w,e2,e3⟩:=Option.map_eq_some_iff.mp e
 refine ⟨A,B,s.S,xs,w,R.sub,R.cC,R.st,V,e2,?_⟩
 cases w with
 | ok r S' =>
  cases e3
  exact fun v A' B' H' P=>q v A' B' H' P.gro P.eB (R.post P) P.val
 | er x S' =>
  cases e3
  exact fun A' B' H' P=>hw x H' (q A' B' H' (R.post P))
theorem D4 {f:FN} {E:XK} {t:TA} {m:MN (List SV)} (hw:∀ x σ H',W x σ H'->E (Zl.cl x.c) none H') (h:NA W t m):NE W (hI (spS f) [] E t) (pQ f m):=by
 intro G A B H σ s r0 Q R e q
 refine fT (t:=t) h R e q fun vs xs A1 B1 H1 s1 g1 eB1 R1 V1 e1 q1=>?_
 rw [List.append_nil]
 exact BO R1 V1 e1 q1 fun x H'=>hw x σ H'
def W0:WX:=fun _ _ _=>False
theorem pR {f:FN} {t:TA} {m:MN (List SV)} (h:NA W0 t m):NE W0 (hI (spQ f) [] E0 t) (pQ f m):=D4 (fun _ _ _ z=>z.elim) h
end
end
end Mir
namespace Mir
open PySem L2
section
variable [Zc] [Zl]
inductive jq where
 | nx (s:SS) | rt (r:SV) (s:SS) | bk (s:SS) | ct (s:SS) | er (x:Xc) (s:SS)
abbrev SN:=SS->Option jq
def NOk (G:FrN) (W:WX) (D:Ends):jq->Prop
 | .nx s=>∀ A B H σ,bf G A B H σ s->D.nx σ H
 | .rt r s=>∀ v A B H σ,bf G A B H σ s->dB A B v r->D.rt v H
 | .bk s=>∀ A B H σ,bf G A B H σ s->D.bk σ H
 | .ct s=>∀ A B H σ,bf G A B H σ s->D.ct σ H
 | .er x s=>∀ A B H σ,bf G A B H σ s->W x σ H
def NS (W:WX) (t:TS) (m:SN):Prop:=∀ (G:FrN) (A:List Addr) (B H:Hp) (σ:St) (s:SS) (o:jq) (D:Ends),bf G A B H σ s->m s=some o->NOk G W D o->t D σ H
def bS {α:Type} (m:MN α) (k : α->SN):SN:=fun s=>match m s with
 | some (.ok v s')=>k v s'
 | some (.er x s')=>some (.er x s')
 | none=>none
section
variable {W:WX}
theorem pS {α β:Type} {Rl:RL β α} {t:St->Hp->(β->Hp->Prop)->Prop} {m:MN α} {k : α->SN} {G:FrN} {A:List Addr} {B H:Hp} {σ:St} {s:SS} {o:jq} {D:Ends} {C : β->Hp->Prop} (h:NM W Rl t m) (R:bf G A B H σ s) (e:bS m k s=some o) (q:NOk G W D o)
  (c:∀ x v A' B' H' s',bf G A' B' H' σ s'->Rl A' B' x v->k v s'=some o->C x H'):t σ H C:=by
 unfold bS at e
 split at e
 ·rename_i v s' h1
  exact h G A B H σ s _ C R h1 fun x A' B' H' g eB R' V=>c x v A' B' H' s' R' V e
 ·rename_i y s' h1
  cases e
  exact h G A B H σ s _ C R h1 fun A' B' H' R'=>q A' B' H' σ R'
 ·cases e
def cN (a b:SN):SN:=fun s=>match a s with
 | some (.nx s')=>b s'
 | o=>o
theorem bQ {t u:TS} {a b:SN} (ha:NS W t a) (hb:NS W u b):NS W (zA t u) (cN a b):=by
 intro G A B H σ s o D R e q
 unfold cN at e
 split at e
 ·rename_i s' e1
  exact ha G A B H σ s _ _ R e1 fun A' B' H' σ' R'=>hb G A' B' H' σ' s' o D R' e q
 ·rename_i o' hn
  refine ha G A B H σ s o _ R e ?_
  cases o with
  | nx s'=>exact absurd e (hn s')
  | rt r s'=>exact q
  | bk s'=>exact q
  | ct s'=>exact q
  | er x s'=>exact q
def il:SN:=fun s=>some (.nx s)
theorem eP:NS W yf il:=by
 intro G A B H σ s o D R e q
 cases e; exact q A B H σ R
def xx:SN:=fun _=>none
theorem BP:NS W wV xx:=by
 intro G A B H σ s o D R e q
 cases e
def kh (a:EN):SN:=bS a fun x s=>some (.rt x s)
theorem fU {t:TE} {a:EN} (ha:NE W t a):NS W (AI t) (kh a):=by
 intro G A B H σ s o D R e q
 refine pS (t:=t) ha R e q fun x v A' B' H' s' R' V' e1=>?_
 cases e1
 exact q x A' B' H' σ R' V'
def nW (a:EN):SN:=bS a fun _ s=>some (.nx s)
theorem oP {t:TE} {a:EN} (ha:NE W t a):NS W (uE t) (nW a):=by
 intro G A B H σ s o D R e q
 refine pS (t:=t) ha R e q fun x v A' B' H' s' R' V' e1=>?_
 cases e1
 exact q A' B' H' σ R'
def jC (c:MN Bool) (a b:SN):SN:=bS c fun x=>if x=true then a else b
theorem jY {tc:TT} {t u:TS} {c:MN Bool} {a b:SN} (hc:NT W tc c) (ha:NS W t a) (hb:NS W u b):NS W (AJ tc t u) (jC c a b):=by
 intro G A B H σ s o D R e q
 refine pS (t:=tc) hc R e q fun x v A' B' H' s' R' V' e1=>?_
 subst V'
 by_cases h:x=true
 ·rw [if_pos h] at e1 ⊢; exact ha G A' B' H' σ s' o D R' e1 q
 ·rw [if_neg h] at e1 ⊢; exact hb G A' B' H' σ s' o D R' e1 q
def NG (W:WX) (g:TG) (mg:SV->SN):Prop:=∀ (G:FrN) (A:List Addr) (B H:Hp) (σ:St) (s:SS) (v:V) (x:SV) (o:jq) (D:Ends),bf G A B H σ s->dB A B v x->mg x s=some o->NOk G W D o->g v σ H D.nx
def ngN (i:Nat):SV->SN:=fun x s=>if i < s.t.length then some (.nx ⟨s.S,s.t.set i (some x)⟩) else none
theorem cV {i:Nat}:NG W (o8 i) (ngN i):=fun G A B H σ s v x o D R rv e q=>by
 unfold ngN at e
 split at e
 ·rename_i h; cases e; exact q A B H _ (R.set h rv)
 ·cases e
def NGs (g:TGs) (mg:List SV->SS->Option SS):Prop:=∀ (G:FrN) (A:List Addr) (B H:Hp) (σ:St) (s:SS) (vs:List V) (xs:List SV) (s':SS) (Q:St->Hp->Prop),bf G A B H σ s->bV A B vs xs->mg xs s=some s'->(∀ σ',bf G A B H σ' s'->Q σ' H)->g vs σ H Q
def BQ:List SV->SS->Option SS:=fun xs s=>match xs with
 | []=>some s
 | _=>none
def oQ (i:Nat) (gs:List SV->SS->Option SS):List SV->SS->Option SS:=fun xs s=>match xs with
 | x::xs=>if i < s.t.length then gs xs ⟨s.S,s.t.set i (some x)⟩ else none
 | _=>none
theorem D6:NGs F6 BQ:=fun G A B H σ s vs xs s' Q R rv e q=>by
 cases rv with
 | nil=>cases e; exact ⟨rfl,q σ R⟩
 | cons _ _=>cases e
theorem vo {i:Nat} {gs:TGs} {ms:List SV->SS->Option SS} (hs:NGs gs ms):NGs (AK (o8 i) gs) (oQ i ms):=fun G A B H σ s vs xs s' Q R rv e q=>by
 cases rv with
 | nil=>cases e
 | cons r rs =>
  simp only [oQ] at e
  split at e
  ·rename_i h
   exact ⟨_,_,rfl,hs G A B H _ _ _ _ s' Q (R.set h r) rs e fun σ2 R2=>q σ2 R2⟩
  ·cases e
theorem aP.plV {A:List Addr} {B:Hp}:∀ {vs:List V} {ds:List D},aP B vs ds->bV A B vs (ds.map .pl)
 | _,_,.nil=>.nil
 | _,_,.cons a b=>.cons (.pl a) (aP.plV b)
def qW (S:List (Option Cl)):SV->Option (List SV)
 | .tp xs=>some xs
 | .pl (.tuple ds)=>some (ds.map .pl)
 | .pl (.list ds)=>some (ds.map .pl)
 | .lc k=>match S[k]? with
  | some (some (.dat (.list ds)))=>some (ds.map .pl)
  | some (some (.lst xs))=>some xs
  | _=>none
 | _=>none
theorem BR {K:PySem.W.Frag} {G:FrN} {A:List Addr} {B H:Hp} {σ:St} {s:SS} {v:V} {x:SV} {xs:List SV} (R:bf G A B H σ s) (h:dB A B v x) (e:qW s.S x=some xs):∃ t vs,v=.ref t∧(SqT K H t vs∨SqL K H t vs)∧bV A B vs xs:=by
 cases x with
 | lc k =>
  simp only [qW] at e
  cases h with
  | lc hA =>
   split at e
   ·rename_i ds hk
    cases e
    cases R.st.cell k _ _ hk hA with
    | dat ow =>
     obtain ⟨ys,hp,rs⟩:=ow.list
     exact ⟨_,_,rfl,.inr (SqL.of hp),rs.plV⟩
   ·rename_i ys hk
    cases e
    cases R.st.cell k _ _ hk hA with
    | lst hp rs=>exact ⟨_,_,rfl,.inr (SqL.of hp),rs⟩
   ·cases e
 | tp ys=>cases e; cases h with | tp h1 h2=>exact ⟨_,_,rfl,.inl (.inl (.inl (R.sub _ _ h1))),h2⟩
 | pl d =>
  cases d with
  | tuple ds=>cases e; cases h with | pl r=>cases r with | tup h1 h2=>exact ⟨_,_,rfl,.inl (.inl (.inl (R.sub _ _ h1))),h2.plV⟩
  | list ds=>cases e; cases h with | pl r=>cases r with | lst h1 h2=>exact ⟨_,_,rfl,.inr (.inl (d7 R.sub h1)),h2.plV⟩
  | _=>cases e
def ngT (n:Nat) (ms:List SV->SS->Option SS):SV->SN:=fun x s=>(qW s.S x).bind fun xs=>if xs.length=n then (ms xs s).map .nx else none
theorem D8 {K:PySem.W.Frag} {n:Nat} {gs:TGs} {ms:List SV->SS->Option SS} (h:NGs gs ms):NG W (A8 K n gs) (ngT n ms):=fun G A B H σ s v x o D R rv e q=>by
 obtain ⟨xs,e1,e⟩:=Option.bind_eq_some_iff.mp e
 obtain ⟨t,vs,rfl,h1,h2⟩:=BR (K:=K) R rv e1
 split at e
 ·rename_i hn
  obtain ⟨s2,e2,e3⟩:=Option.map_eq_some_iff.mp e
  cases e3
  exact ⟨_,_,rfl,h1,by rw [h2.length]; exact hn,h G A B H σ s _ _ s2 _ R h2 e2 fun σ' R'=>q A B H σ' R'⟩
 ·cases e
def gQ (a:EN) (g:SV->SN):SN:=bS a g
theorem eE {t:TE} {tg:TG} {a:EN} {g:SV->SN} (ha:NE W t a) (hg:NG W tg g):NS W (zB t tg) (gQ a g):=by
 intro G A B H σ s o D R e q
 exact pS (t:=t) ha R e q fun x v A' B' H' s' R' V' e1=>hg G A' B' H' σ s' x v o D R' V' e1 q
theorem bV.set {A:List Addr} {B:Hp} {x:V} {c:SV} (r:dB A B x c):∀ {v:List V} {d:List SV} (i:Nat),bV A B v d->bV A B (v.set i x) (d.set i c)
 | _,_,_,.nil=>.nil
 | _,_,0,.cons _ b=>.cons r b
 | _,_,i + 1,.cons a b=>.cons a (bV.set r i b)
noncomputable def jD (n:Nat) (kp:List Nat) (ok:SS->Prop) (g:SV->SN) (b:SN):List SV->SN
 | []=>fun s=>cIf (ok s) (some (.nx s)) none
 | d::ds=>fun s=>cIf (ok s) (match g d s with
   | some (.nx s1)=>(match b s1 with
    | some (.nx s')=>jD n kp ok g b ds (gcE n kp s')
    | some (.ct s')=>jD n kp ok g b ds (gcE n kp s')
    | some (.bk s')=>some (.nx s')
    | some (.rt r s')=>some (.rt r s')
    | some (.er x s')=>some (.er x s')
    | none=>none)
   | _=>none) none
theorem bf.down {G:FrN} {A A1:List Addr} {B H B1 H1:Hp} {σ σ1:St} {s s1:SS} (R1:bf G A1 B1 H1 σ1 s1) (R:bf ⟨B1,H1,A1,G.Z⟩ A B H σ s):bf G A B H σ s:=by
 refine ⟨R.sub,R1.sB.trans R.sB,R.cC,fun q o h n=>R.kept q o (R1.kept q o h n) fun hq=>?_,fun q h z=>R.nB q (fun hq=>h (R1.pM hq).1) (R1.nB q h z),R1.pre.trans R.pre,fun a ha=>?_,R.st,R.len,R.slot,R.nz⟩
 ·rcases R1.fresh q hq with h1 | h1
  ·exact n h1
  ·rw [h1] at h; cases h
 ·rcases R.fresh a ha with h | h
  ·exact R1.fresh a h
  ·exact .inr (R1.pM h).1
theorem bf.up {G:FrN} {A1:List Addr} {B1 H1:Hp} {σ1:St} {s1:SS} (R1:bf G A1 B1 H1 σ1 s1):bf ⟨B1,H1,A1,G.Z⟩ A1 B1 H1 σ1 s1 :=
 ⟨R1.sub,aC.refl _,R1.cC,fun _ _ h _=>h,fun _ _ z=>z,Gro.refl _,fun _ h=>.inl h,R1.st,R1.len,R1.slot,R1.nz⟩
theorem NOk.up {G:FrN} {A1:List Addr} {B1 H1:Hp} {σ1:St} {s1:SS} (R1:bf G A1 B1 H1 σ1 s1) {D:Ends} {o:jq} (h:NOk G W D o):NOk ⟨B1,H1,A1,G.Z⟩ W D o:=by
 cases o with
 | nx s=>exact fun A B H σ R=>h A B H σ (R1.down R)
 | bk s=>exact fun A B H σ R=>h A B H σ (R1.down R)
 | ct s=>exact fun A B H σ R=>h A B H σ (R1.down R)
 | rt r s=>exact fun v A B H σ R V=>h v A B H σ (R1.down R) V
 | er x s=>exact fun A B H σ R=>h A B H σ (R1.down R)
def IV (A:List Addr) (B H:Hp) (x:V) (H':Hp) (y:SV):Prop:=(H'=H∧dB A B x y)∨∃ p xs cs,y=.pl (.tuple cs)∧x=.ref p∧H p=none∧H'=upd H p (.tup xs)∧aP B xs cs
theorem yO {kp:List Nat} {tg:TG} {tb:TS} {g:SV->SN} {b:SN} {ok:SS->Prop} {G:FrN} {J:It} {ds:List SV} {A1:List Addr} {B1 H1:Hp} {σ1:St} {s1:SS} {W0:Ends} {o:jq}
  (hg:NG W tg g) (hb:NS W tb b) (R1:bf G A1 B1 H1 σ1 s1) (e:jD s1.S.length kp ok g b ds s1=some o) (q:NOk G W W0 o)
  (I:∀ A B H σ s,bf ⟨B1,H1,A1,G.Z⟩ A B H σ s->ok s->J.stop ds.length H∧∀ (i:Nat) (d:SV),ds[i]?=some d->J.go i H∧∀ x H',J.yld i H x H'->IV A B H x H' d) :
  ∃ W:Nat->Nat->St->Hp->Prop,(∃ m,W 0 m σ1 H1)∧∀ i m σ H,W i m σ H ->
   (J.stop i H∧W0.nx σ H)∨(J.go i H∧∃ N:St->Hp->Prop,(∀ σ' H',N σ' H'->∃ m',m' < m∧W (i + 1) m' σ' H')∧∀ x H',J.yld i H x H'->tg x σ H' fun σ2 H2=>tb { W0 with nx:=N,ct:=N,bk:=W0.nx } σ2 H2):=by
 have q':=q.up R1
 have hio:(FrN.mk B1 H1 A1 G.Z).io.length≤s1.S.length:=Nat.le_of_eq R1.st.len
 refine ⟨fun i m σ H=>m=ds.length - i∧i≤ds.length∧∃ A B s,bf ⟨B1,H1,A1,G.Z⟩ A B H σ s∧jD s1.S.length kp ok g b (ds.drop i) s=some o,⟨ds.length,rfl,Nat.zero_le _,A1,B1,s1,R1.up,e⟩,?_⟩
 rintro i m σ2 H2 ⟨rfl,hil,A2,B2,s2,R2,e2⟩
 by_cases hlt:i < ds.length
 ·refine .inr ?_
  rw [List.drop_eq_getElem_cons hlt] at e2
  obtain ⟨hok,e2⟩:=cH (show cIf (ok s2) _ none=some o from e2)
  obtain ⟨go,yl⟩:=(I A2 B2 H2 σ2 s2 R2 hok).2 i ds[i] (List.getElem?_eq_getElem hlt)
  refine ⟨go,fun σ' H'=>∃ A' B' s',bf ⟨B1,H1,A1,G.Z⟩ A' B' H' σ' s'∧jD s1.S.length kp ok g b (ds.drop (i + 1)) s'=some o,fun σ' H' h'=>⟨ds.length - (i + 1),by omega,rfl,hlt,h'⟩,fun y H3 hy=>?_⟩
  have had:∃ B3,bf ⟨B1,H1,A1,G.Z⟩ A2 B3 H3 σ2 s2∧dB A2 B3 y ds[i]:=by
   rcases yl y H3 hy with ⟨rfl,h2⟩ | ⟨p,xs,cs,h1,rfl,h3,rfl,h5⟩
   ·exact ⟨B2,R2,h2⟩
   ·obtain ⟨R3,e3⟩:=R2.qS (xs:=xs) h3
    exact ⟨_,R3,by rw [h1]; exact .pl (.tup az (h5.mono e3))⟩
  obtain ⟨B3,R3,rp⟩:=had
  split at e2
  ·rename_i s3 e3
   refine hg _ A2 B3 H3 σ2 s2 y ds[i] (.nx s3) ⟨fun σ2 H2=>tb { W0 with nx:=fun σ' H'=>∃ A' B' s',bf ⟨B1,H1,A1,G.Z⟩ A' B' H' σ' s'∧jD s1.S.length kp ok g b (ds.drop (i + 1)) s'=some o,ct:=fun σ' H'=>∃ A' B' s',bf ⟨B1,H1,A1,G.Z⟩ A' B' H' σ' s'∧jD s1.S.length kp ok g b (ds.drop (i + 1)) s'=some o,bk:=W0.nx } σ2 H2,W0.rt,W0.bk,W0.ct⟩ R3 rp e3 fun A4 B4 H4 σ4 R4=>?_
   split at e2
   ·rename_i s' e5; exact hb _ A4 B4 H4 σ4 s3 _ _ R4 e5 fun A' B' H' σ' R'=>(let ⟨A3,R3⟩:=R'.gcE hio; ⟨A3,B',_,R3,e2⟩)
   ·rename_i s' e5; exact hb _ A4 B4 H4 σ4 s3 _ _ R4 e5 fun A' B' H' σ' R'=>(let ⟨A3,R3⟩:=R'.gcE hio; ⟨A3,B',_,R3,e2⟩)
   ·rename_i s' e5; cases e2; exact hb _ A4 B4 H4 σ4 s3 _ _ R4 e5 q'
   ·rename_i r s' e5; cases e2; exact hb _ A4 B4 H4 σ4 s3 _ _ R4 e5 q'
   ·rename_i r s' e5; cases e2; exact hb _ A4 B4 H4 σ4 s3 _ _ R4 e5 q'
   ·cases e2
  ·cases e2
 ·have hi':i=ds.length:=by omega
  subst hi'
  rw [List.drop_length] at e2
  obtain ⟨hok,e2⟩:=cH (show cIf (ok s2) _ none=some o from e2)
  cases e2
  exact .inl ⟨(I A2 B2 H2 σ2 s2 R2 hok).1,q' A2 B2 H2 σ2 R2⟩
theorem yy.mono {B B' H:Hp} {x:V} {H':Hp} {d:D} (h:yy B H x H' d) (e:aC B B'):yy B' H x H' d:=by
 rcases h with ⟨h1,h2⟩ | ⟨p,xs,cs,h1,h2,h3,h4,h5⟩
 ·exact .inl ⟨h1,h2.mono e⟩
 ·exact .inr ⟨p,xs,cs,h1,h2,h3,h4,h5.mono e⟩
def stays (k:SV) (xs:List SV) (s:SS):Prop:=qW s.S k=some xs
noncomputable def vp (kp:List Nat) (a:EN) (g:SV->SN) (b:SN):SN:=bS a fun y s=>match y with
 | .lc k=>(qW s.S (.lc k)).bind fun xs=>jD s.S.length kp (stays (.lc k) xs) g b xs s
 | .pl (.list ds)=>jD s.S.length kp (fun _=>True) g b (ds.map .pl) s
 | _=>none
theorem yP {K:PySem.W.Frag} {A:List Addr} {B H:Hp} {p:Addr} {xs:List V} {ys:List SV} (h:SqL K H p xs) (r:bV A B xs ys):(Itl K p).stop ys.length H∧∀ (i:Nat) (d:SV),ys[i]?=some d->(Itl K p).go i H∧∀ x H',(Itl K p).yld i H x H'->IV A B H x H' d:=by
 refine ⟨⟨xs,h,by rw [r.length]; exact Nat.le_refl _⟩,fun i d hd=>?_⟩
 obtain ⟨u,h1,h2⟩:=r.get i d hd
 refine ⟨⟨xs,u,h,h1⟩,fun x H' hy=>.inl ⟨hy.1,?_⟩⟩
 have:=hy.2 xs h
 rw [h1] at this
 cases this
 exact h2
theorem yQ {kp:List Nat} {K:PySem.W.Frag} {te:TE} {tg:TG} {tb:TS} {a:EN} {g:SV->SN} {b:SN} (ha:NE W te a) (hg:NG W tg g) (hb:NS W tb b):NS W (Dm (uG K te) tg tb) (vp kp a g b):=by
 intro G A B H σ s o D R e q
 refine pS (t:=te) ha R e q fun x v A1 B1 H1 s1 R1 V1 e1=>?_
 split at e1
 ·rename_i k
  obtain ⟨xs,e2,e3⟩:=Option.bind_eq_some_iff.mp e1
  cases V1 with
  | @lc _ p hA =>
   have lst:∀ {A':List Addr} {B' H':Hp} {σ':St} {s':SS} {G':FrN},bf G' A' B' H' σ' s'->A'[k]?=some p->qW s'.S (.lc k)=some xs->∃ vs,H' p=some (.lst vs)∧bV A' B' vs xs:=fun {A' B' H' σ' s' G'} R' hA' e'=>by
    simp only [qW] at e'
    split at e'
    ·rename_i ds hk
     cases e'
     cases R'.st.cell k _ _ hk hA' with
     | dat ow =>
      obtain ⟨ys,hp,rs⟩:=ow.list
      exact ⟨_,hp,rs.plV⟩
    ·rename_i ys hk
     cases e'
     cases R'.st.cell k _ _ hk hA' with
     | lst hp rs=>exact ⟨_,hp,rs⟩
    ·cases e'
   obtain ⟨vs,hp,rs⟩:=lst R1 hA e2
   refine ⟨_,rfl,⟨vs,SqL.of hp⟩,?_⟩
   refine yO hg hb R1 e3 q fun A' B' H' σ' s' R' hok=>?_
   obtain ⟨vs',hp',rs'⟩:=lst R' (R'.pre k _ hA) hok
   exact yP (SqL.of hp') rs'
 ·rename_i ds
  cases V1 with
  | pl r =>
   cases r with
   | lst hp rs =>
    refine ⟨_,rfl,⟨_,.inl (d7 R1.sub hp)⟩,?_⟩
    refine yO hg hb R1 e1 q fun A' B' H' σ' s' R' hok=>?_
    exact yP (.inl (d7 (R'.sB.trans R'.sub) hp)) (rs.mono R'.sB).plV
 ·cases e1
def sd (S:List (Option Cl)) (k:Nat):Bool:=match S[k]? with
 | some (some (.dat (.list _)))=>true
 | some (some (.lst _))=>true
 | _=>false
theorem vq {K:PySem.W.Frag} {G:FrN} {A:List Addr} {B H:Hp} {σ:St} {s:SS} {k:Nat} {a:Addr} (R:bf G A B H σ s) (hA:A[k]?=some a) (e:sd s.S k=true):tyV K "list" (.ref a) H:=by
 unfold sd at e
 split at e
 ·rename_i ds hk
  cases R.st.cell k _ _ hk hA with
  | dat ow=>obtain ⟨xs,hp,_⟩:=ow.list; exact .inl ⟨rfl,xs,SqL.of hp⟩
 ·rename_i ds hk
  cases R.st.cell k _ _ hk hA with
  | lst hp _=>exact .inl ⟨rfl,_,SqL.of hp⟩
 ·cases e
def BS (a:EN) (m:MN (List SV)) (u:Nat->List SV->SS->Option (RR SV)):EN:=bN a fun x s=>match x with
 | .lc k=>if sd s.S k=true then bN m (fun xs s2=>u k xs s2) s else none
 | _=>none
theorem D9 {K:PySem.W.Frag} {te:TE} {a:EN} {r:V->List V->Hp->VK->Prop} {t:TA} {m:MN (List SV)} {u:Nat->List SV->SS->Option (RR SV)} (ha:NE W te a) (h:NA W t m)
  (hu:∀ (G:FrN) (A:List Addr) (B H:Hp) (σ:St) (s:SS) (p:Addr) (k:Nat) (vs:List V) (xs:List SV) (r0:RR SV) (Q:VK),bf G A B H σ s->A[k]?=some p->bV A B vs xs->u k xs s=some r0->ROk G A B σ W dB Q r0->r (.ref p) vs H Q):NE W (tBM K "list" r te t) (BS a m u):=by
 intro G A B H σ s r0 Q R e q
 refine fT (t:=te) ha R e q fun x v A1 B1 H1 s1 g1 eB1 R1 V1 e1 q1=>?_
 split at e1
 ·rename_i k
  split at e1
  ·rename_i hl
   cases V1 with
   | lc hA =>
    refine ⟨vq R1 hA hl,?_⟩
    refine fT (t:=t) h R1 e1 q1 fun vs xs A2 B2 H2 s2 g2 eB2 R2 V2 e2 q2=>?_
    exact hu G A2 B2 H2 σ s2 _ k vs xs r0 Q R2 (g2 _ _ hA) V2 e2 q2
  ·cases e1
 ·cases e1
def Hf (f:List D->List D->Option (List D × D)) (k:Nat) (xs:List SV) (s:SS):Option (RR SV):=(iL xs).bind fun as=>match s.S[k]? with
  | some (some (.dat (.list ds)))=>(f ds as).map fun w=>.ok (.pl w.2) ⟨s.S.set k (some (.dat (.list w.1))),s.t⟩
  | _=>none
theorem Ea {r:V->List V->Hp->VK->Prop} {f:List D->List D->Option (List D × D)} (J:uU r f) (G:FrN) (A:List Addr) (B H:Hp) (σ:St) (s:SS) (p:Addr) (k:Nat) (vs:List V) (xs:List SV) (r0:RR SV) (Q:VK) (R:bf G A B H σ s) (hA:A[k]?=some p) (hV:bV A B vs xs) (e:Hf f k xs s=some r0) (q:ROk G A B σ W dB Q r0):r (.ref p) vs H Q:=by
 obtain ⟨as,e1,e⟩:=Option.bind_eq_some_iff.mp e
 split at e
 ·rename_i ds hk
  obtain ⟨w,e2,e3⟩:=Option.map_eq_some_iff.mp e
  cases e3
  cases R.st.cell k _ _ hk hA with
  | dat ow =>
   obtain ⟨ys,hp,rx⟩:=ow.list
   obtain ⟨xs',u,rx',ru,hr⟩:=J B H _ ys ds vs as w hp rx R.sub (jo hV e1) e2
   have R3:=R.write (o:=.lst xs') (c:=.dat (.list w.1)) hA trivial (.dat (.lst az rx'))
   exact hr Q (q u A B _ (Gro.refl _) (aC.refl _) R3 (.pl ru))
 ·cases e
noncomputable def Eb (k:Nat) (xs:List SV) (s:SS):Option (RR SV):=match xs,s.S[k]? with
 | [.pl d],some (some (.dat (.list ds)))=>cIf (ds.length < sizeLine) (some (.ok (.pl .none) ⟨s.S.set k (some (.dat (.list (ds++[d])))),s.t⟩)) none
 | [x],some (some (.dat (.list ds)))=>cIf (ds.length < sizeLine) (some (.ok (.pl .none) ⟨s.S.set k (some (.lst (ds.map .pl++[x]))),s.t⟩)) none
 | [x],some (some (.lst ys))=>cIf (ys.length < sizeLine) (some (.ok (.pl .none) ⟨s.S.set k (some (.lst (ys++[x]))),s.t⟩)) none
 | _,_=>none
theorem bV.append {A:List Addr} {B:Hp}:∀ {v w:List V} {d c:List SV},bV A B v d->bV A B w c->bV A B (v++w) (d++c)
 | _,_,_,_,.nil,r=>r
 | _,_,_,_,.cons a b,r=>.cons a (bV.append b r)
theorem Ec (G:FrN) (A:List Addr) (B H:Hp) (σ:St) (s:SS) (p:Addr) (k:Nat) (vs:List V) (xs:List SV) (r0:RR SV) (Q:VK) (R:bf G A B H σ s) (hA:A[k]?=some p) (hV:bV A B vs xs) (e:Eb k xs s=some r0) (q:ROk G A B σ W dB Q r0):lX (.ref p) vs H Q:=by
 have go:∀ {x:SV} {y:V} {ys:List V} {c:Cl},vs=[y]->H p=some (.lst ys)->ys.length < sizeLine->eD A B (upd H p (.lst (ys++[y]))) p c->r0=.ok (.pl .none) ⟨s.S.set k (some c),s.t⟩->lX (.ref p) vs H Q:=fun {x y ys c} h1 h2 h3 ok er=>by
  subst er h1
  exact ⟨p,ys,y,rfl,rfl,h2,h3,q .non A B _ (Gro.refl _) (aC.refl _) (R.write (o:=.lst (ys++[y])) hA trivial ok) (.pl .non)⟩
 unfold Eb at e
 split at e
 ·rename_i d ds hk
  obtain ⟨hz,e⟩:=cH e
  cases e
  cases hV with
  | cons a b =>
   cases b
   cases a with
   | pl r =>
    cases R.st.cell k _ _ hk hA with
    | dat ow =>
     obtain ⟨ys,hp,rs⟩:=ow.list
     exact go (x:=.pl d) rfl hp (by rw [rs.length]; exact hz) (.dat (.lst az (rs.append (.cons r .nil)))) rfl
 ·rename_i x ds _ hk
  obtain ⟨hz,e⟩:=cH e
  cases e
  cases hV with
  | cons a b =>
   cases b
   cases R.st.cell k _ _ hk hA with
   | dat ow =>
    obtain ⟨ys,hp,rs⟩:=ow.list
    exact go (x:=x) rfl hp (by rw [rs.length]; exact hz) (.lst az (rs.plV.append (.cons a .nil))) rfl
 ·rename_i x ys hk
  obtain ⟨hz,e⟩:=cH e
  cases e
  cases hV with
  | cons a b =>
   cases b
   cases R.st.cell k _ _ hk hA with
   | lst hp rs=>exact go (x:=x) rfl hp (by rw [rs.length]; exact hz) (.lst az (rs.append (.cons a .nil))) rfl
 ·cases e
noncomputable def Ed (a:EN) (m:MN (List SV)):EN:=BS a m Eb
theorem Hg {K:PySem.W.Frag} {te:TE} {a:EN} {t:TA} {m:MN (List SV)} (ha:NE W te a) (h:NA W t m):NE W (tBM K "list" lX te t) (Ed a m):=D9 ha h Ec
end
def fS (n:Nat) (S:List (Option Cl)):List (Option Cl):=if yM n S=true then gcS n S else S
def retS (n:Nat):jq->Option FR
 | .rt r s=>if blV n r=true then some (.ok r (fS n s.S)) else some (.ok r s.S)
 | .nx s=>some (.ok (.pl .none) (fS n s.S))
 | .er x s=>some (.er x (fS n s.S))
 | _=>none
def fnS (n k:Nat) (b:SN):FN:=fun S xs=>if xs.length=n then (b ⟨S,xs.map some++List.replicate k none⟩).bind (retS S.length) else none
theorem se {A:List Addr} {B H:Hp} {N:List Str} {vs:List V} {S:List (Option Cl)} {xs:List SV} {n k:Nat} (sub:aC B H) (tB:∀ q xs,H q=some (.tup xs)->B q=some (.tup xs)) (O:StO A B H S) (rv:bV A B vs xs) (hl:xs.length=n) (hN:N.length=n + k) :
  bf ⟨B,H,A,fun q=>∃ o u,H q=some (.frz o u)⟩ A B H (L2.start N vs) ⟨S,xs.map some++List.replicate k none⟩:=by
 have hvl:vs.length=n:=rv.length.trans hl
 refine ⟨sub,aC.refl _,tB,fun _ _ h _=>h,fun _ _ z=>z,Gro.refl _,fun _ h=>.inl h,O,?_,fun i x h=>?_,fun q o u h=>⟨o,u,h⟩⟩
 ·simp [L2.start,hl,hvl,hN]
 ·have h':(xs.map some++List.replicate k none)[i]?=some (some x):=h
  by_cases hi:i < n
  ·rw [List.getElem?_append_left (by simpa [hl] using hi),List.getElem?_map] at h'
   obtain ⟨c,h1,h2⟩:=Option.map_eq_some_iff.mp h'
   cases h2
   obtain ⟨y,h3,h4⟩:=rv.get i _ h1
   refine ⟨y,?_,h4⟩
   unfold L2.start
   rw [List.getElem?_append_left (by simpa [hvl] using hi),List.getElem?_map,h3]
   rfl
  ·rw [List.getElem?_append_right (by simpa [hl] using Nat.le_of_not_lt hi)] at h'
   have:=List.eq_of_mem_replicate (List.mem_of_getElem? h')
   cases this
theorem post_of {A A':List Addr} {B H B' H':Hp} {σ':St} {s':SS} {v:V} {r:SV} (R':bf ⟨B,H,A,fun q=>∃ o u,H q=some (.frz o u)⟩ A' B' H' σ' s') (V':dB A' B' v r):vn A B H A' B' H' s'.S v r:=⟨R'.pre,R'.sB,R'.sub,R'.cC,R'.kept,R'.nB,R'.fresh,R'.st,R'.nz,V'⟩
theorem pT {A A':List Addr} {B H B' H':Hp} {σ':St} {s':SS} {v:V} {r:SV} {n:Nat} (hn:A.length≤n) (R':bf ⟨B,H,A,fun q=>∃ o u,H q=some (.frz o u)⟩ A' B' H' σ' s') (V':dB A' B' v r) (hb:blV n r=true):∃ A'',vn A B H A'' B' H' (fS n s'.S) v r:=by
 unfold fS
 split
 ·exact ⟨_,post_of (R'.gc hn) (V'.take _ hb)⟩
 ·exact ⟨_,post_of R' V'⟩
theorem Ee {n k:Nat} {b:SN} {t:TS} {N:List Str} {vs:List V} {H:Hp} {Q:VK} {E:XK} (hb:NS (fun x _ H=>E (Zl.cl x.c) none H) t b) (hN:N.length=n + k) (h:spS (fnS n k b) vs H Q E):t { nx:=fun _ H'=>Q .non H',rt:=Q } (L2.start N vs) H:=by
 obtain ⟨A,B,S,xs,w0,sub,tB,O,rv,e,q⟩:=h
 unfold fnS at e
 split at e
 case isFalse=>cases e
 rename_i hl
 obtain ⟨w,e1,e2⟩:=Option.bind_eq_some_iff.mp e
 have R:=se (k:=k) sub tB O rv hl hN
 refine hb _ A B H _ _ w _ R e1 ?_
 have hn:A.length≤S.length:=Nat.le_of_eq O.len
 cases w with
 | nx s'=>cases e2; exact fun A' B' H' σ' R'=>(let ⟨A2,p⟩:=pT hn R' (.pl .non) rfl; q _ A2 B' H' p)
 | bk s'=>cases e2
 | ct s'=>cases e2
 | er x s'=>cases e2; exact fun A' B' H' σ' R'=>(let ⟨A2,p⟩:=pT hn R' (.pl .non) rfl; q A2 B' H' p)
 | rt r' s' =>
  simp only [retS] at e2
  split at e2
  ·rename_i hbl
   cases e2
   exact fun v A' B' H' σ' R' V'=>(let ⟨A2,p⟩:=pT hn R' V' hbl; q v A2 B' H' p)
  ·cases e2
   exact fun v A' B' H' σ' R' V'=>q v A' B' H' (post_of R' V')
theorem tG {n k:Nat} {b:SN} {t:TS} {N:List Str} {vs:List V} {H:Hp} {Q:VK} {E:XK} (hb:NS W0 t b) (hN:N.length=n + k) (h:spQ (fnS n k b) vs H Q E):t { nx:=fun _ H'=>Q .non H',rt:=Q } (L2.start N vs) H:=Ee (E:=E0) hb hN h
theorem Ef {n k:Nat} {b:SN} {vs:List V} {H:Hp} {Q:VK} {E:XK} (h:spS (fnS n k b) vs H Q E):vs.length=n:=by
 obtain ⟨A,B,S,xs,w,sub,tB,O,rv,e,q⟩:=h
 unfold fnS at e
 split at e
 ·rename_i hl; exact rv.length.trans hl
 ·cases e
theorem tH {n k:Nat} {b:SN} {vs:List V} {H:Hp} {Q:VK} {E:XK} (h:spQ (fnS n k b) vs H Q E):vs.length=n:=Ef (E:=E0) h
def IW:jq->Option (D × Bool)
 | .rt (.pl d) _=>some (d,false)
 | .rt (.lc k) s=>match s.S[k]? with
  | some (some (.dat d))=>some (d,true)
  | _=>none
 | .nx _=>some (.none,false)
 | _=>none
def fnO (n k:Nat) (b:SN) (ds:List D):Option (D × Bool):=if ds.length=n then (b ⟨[],ds.map (fun d=>some (.pl d))++List.replicate k none⟩).bind IW else none
theorem Eg {n k:Nat} {b:SN} {t:TS} {N:List Str} {vs:List V} {H:Hp} {Q:VK} {E:XK} (hb:NS W0 t b) (hN:N.length=n + k) (h:spM (fnO n k b) vs H Q E):t { nx:=fun _ H'=>Q .non H',rt:=Q } (L2.start N vs) H:=by
 obtain ⟨B,ds,d,o,sub,tB,rp,e,q⟩:=h
 unfold fnO at e
 split at e
 case isFalse=>cases e
 rename_i hl
 obtain ⟨w,e1,e2⟩:=Option.bind_eq_some_iff.mp e
 have O:StO [] B H ([]:List (Option Cl)):=⟨rfl,List.nodup_nil,(fun a h=>by cases h),(fun a h=>by cases h),fun k c a h=>by simp at h⟩
 have R:=se (k:=k) (xs:=ds.map .pl) sub tB O (aP.plV rp) (by simpa using hl) hN
 rw [List.map_map] at R
 refine hb _ [] B H _ _ w _ R e1 ?_
 have post:∀ {A':List Addr} {B' H':Hp} {σ':St} {s':SS},bf ⟨B,H,[],fun q=>∃ o u,H q=some (.frz o u)⟩ A' B' H' σ' s'->aC H H'∧aC B B'∧aC B' H'∧(∀ q,H q≠none->B q=none->B' q=none)∧(∀ q xs,H' q=some (.tup xs)->B' q=some (.tup xs))∧∀ q o u,H' q=some (.frz o u)->H q≠none:=fun R' =>
  ⟨fun q u z=>R'.kept q u z (by simp),R'.sB,R'.sub,R'.nB,R'.cC,fun q o u z=>(let ⟨_,_,y⟩:=R'.nz q o u z; by rw [y]; simp)⟩
 cases w with
 | nx s' =>
  cases e2
  intro A' B' H' σ' R'
  obtain ⟨p1,p2,p3,p4,p5,p6⟩:=post R'
  exact q _ B' H' ⟨p1,p2,p3,p4,p5,p6,.non⟩
 | bk s'=>cases e2
 | ct s'=>cases e2
 | er x s'=>cases e2
 | rt r s' =>
  intro v A' B' H' σ' R' V'
  obtain ⟨p1,p2,p3,p4,p5,p6⟩:=post R'
  cases r with
  | pl c =>
   cases e2
   cases V' with
   | pl rv=>exact q v B' H' ⟨p1,p2,p3,p4,p5,p6,rv⟩
  | tp xs=>cases e2
  | lc j =>
   have e2':(match s'.S[j]? with
    | some (some (.dat d))=>some (d,true)
    | _=>none)=some (d,o):=e2
   split at e2'
   ·rename_i d' hj
    cases e2'
    obtain ⟨a,rfl,hA⟩:∃ a,v=.ref a∧A'[j]?=some a:=by cases V' with | lc h=>exact ⟨_,rfl,h⟩
    ·have ha:=List.mem_of_getElem? hA
     cases R'.st.cell j _ _ hj hA with
     | dat ow =>
      have hn:H a=none:=by
       rcases R'.fresh a ha with z | z
       ·cases z
       ·exact z
      exact q _ B' H' ⟨p1,p2,p3,p4,p5,p6,⟨_,rfl,hn,R'.st.dis _ ha,ow⟩⟩
   ·cases e2'
theorem Eh {n k:Nat} {b:SN} {vs:List V} {H:Hp} {Q:VK} {E:XK} (h:spM (fnO n k b) vs H Q E):vs.length=n:=by
 obtain ⟨B,ds,d,o,sub,tB,rp,e,q⟩:=h
 unfold fnO at e
 split at e
 ·rename_i hl; exact rp.length.trans hl
 ·cases e
end
end Mir
namespace L2
open PySem PySem.Spec PyProof.Rows
section
variable {κ:Type} [DecidableEq κ]
def i9 (kvs:List (κ × V)) (k : κ):Option V:=(kvs.find? fun kv=>decide (kv.1=k)).map (·.2)
def putK (kvs:List (κ × V)) (k : κ) (v:V):List (κ × V) :=
 if (kvs.any fun kv=>decide (kv.1=k))=true then kvs.map (fun kv=>if kv.1=k then (kv.1,v) else kv) else kvs++[(k,v)]
theorem ki {p : κ × V} {r:List (κ × V)} {k : κ} (e:p.1=k):i9 (p::r) k=some p.2:=by simp [i9,List.find?_cons,e]
theorem kj {p : κ × V} {r:List (κ × V)} {k : κ} (e : ¬ p.1=k):i9 (p::r) k=i9 r k:=by simp [i9,List.find?_cons,e]
theorem pU (k : κ):∀ kvs:List (κ × V),(kvs.any fun kv=>decide (kv.1=k))=(i9 kvs k).isSome
 | []=>rfl
 | p::r=>by
  rw [List.any_cons]
  by_cases e:p.1=k
  ·simp only [ki e,decide_eq_true e,Bool.true_or,Option.isSome_some]
  ·rw [kj e,decide_eq_false e,Bool.false_or]; exact pU k r
theorem nX (kvs:List (κ × V)) (k : κ) (v:V):(putK kvs k v).length≤kvs.length + 1:=by
 unfold putK
 split
 ·rw [List.length_map]; omega
 ·rw [List.length_append,List.length_cons,List.length_nil]; omega
theorem BU {kvs:List (κ × V)} {k : κ} (v:V) (h:i9 kvs k=none):putK kvs k v=kvs++[(k,v)]:=by
 unfold putK
 rw [pU,h]
 exact if_neg (by decide)
theorem mK.ng {o:Option V} {u:Option Value} (r:mK o u):o.isSome=u.isSome:=by
 cases o with
 | none=>cases u with
  | none=>rfl
  | some _=>exact (show False from r).elim
 | some _=>cases u with
  | none=>exact (show False from r).elim
  | some _=>rfl
theorem KV.val {kvs:List (κ × V)} {vs:List (κ × Value)} (r:KV kvs vs) (k : κ):mK (i9 kvs k) (valueAt vs k):=by
 unfold KV at r
 induction r with
 | nil=>exact True.intro
 | @cons p q ps qs h t ih =>
  obtain ⟨h1,h2⟩:=h
  by_cases e:p.1=k
  ·have e':q.1=k:=h1.symm.trans e
   have b:valueAt (q::qs) k=some q.2:=by simp [valueAt,List.find?_cons,e']
   rw [ki e,b]; exact h2
  ·have e' : ¬ q.1=k:=fun z=>e (h1.trans z)
   have b:valueAt (q::qs) k=valueAt qs k:=by simp [valueAt,List.find?_cons,e']
   rw [kj e,b]; exact ih
theorem KV.any {kvs:List (κ × V)} {vs:List (κ × Value)} (r:KV kvs vs) (k : κ):(kvs.any fun kv=>decide (kv.1=k))=vs.any fun kv=>decide (kv.1=k):=by
 unfold KV at r
 induction r with
 | nil=>rfl
 | cons h t ih=>rw [List.any_cons,List.any_cons,ih,h.1]
theorem KV.repl {kvs:List (κ × V)} {vs:List (κ × Value)} (r:KV kvs vs) (k : κ) {y:V} {u:Value} (ry:RelV y u) :
  KV (kvs.map fun kv=>if kv.1=k then (kv.1,y) else kv) (vs.map fun kv=>if kv.1=k then (kv.1,u) else kv):=by
 unfold KV at r ⊢
 induction r with
 | nil=>exact .nil
 | @cons p q ps qs h t ih =>
  rw [List.map_cons,List.map_cons]
  refine .cons ?_ ih
  obtain ⟨h1,h2⟩:=h
  by_cases e:p.1=k
  ·rw [if_pos e,if_pos (h1.symm.trans e)]; exact ⟨h1,ry⟩
  ·rw [if_neg e,if_neg (fun z=>e (h1.trans z))]; exact ⟨h1,h2⟩
theorem KV.put {kvs:List (κ × V)} {vs:List (κ × Value)} (r:KV kvs vs) (k : κ) {y:V} {u:Value} (ry:RelV y u):KV (putK kvs k y) (stored vs k u):=by
 unfold putK stored
 rw [r.any k]
 by_cases e:(vs.any fun kv=>decide (kv.1=k))=true
 ·rw [if_pos e,if_pos e]; exact r.repl k ry
 ·rw [if_neg e,if_neg e]; exact Paired.snoc r ⟨rfl,ry⟩
theorem KV.keys {kvs:List (κ × V)} {vs:List (κ × Value)} (r:KV kvs vs):kvs.map (·.1)=vs.map (·.1):=by
 unfold KV at r
 induction r with
 | nil=>rfl
 | cons h t ih=>rw [List.map_cons,List.map_cons,ih,h.1]
theorem KV.length {kvs:List (κ × V)} {vs:List (κ × Value)} (r:KV kvs vs):kvs.length=vs.length:=Paired.length r
end
theorem yR {P:Program} {w:World} {k:Key} {u:Value} (r:RelV (kV k) u):(bW P w).is k u=true:=by
 cases k with
 | inl i=>obtain ⟨t,e⟩:=(show ∃ t,u=Value.int i t from r); subst e; exact uz P w i t
 | inr x=>obtain ⟨t,e⟩:=(show ∃ t,u=Value.str x t from r); subst e; exact uA P w x t
theorem sf {P:Program} {w:World}:∀ {ks:List Key} {us:List Value},Vals (ks.map kV) us->ItemsAre (bW P w) ks us
 | [],_,r=>by rw [List.map_nil] at r; cases r; exact .nil
 | k::ks,_,r=>by
  rw [List.map_cons] at r
  cases r with
  | cons h t=>exact .cons (yR h) (sf t)
abbrev KT (H:Hp):List (List Key × V)->List (List Key × Addr × Value)->Prop:=Paired fun p q=>p.1=q.1∧H q.2.1=some (.tup (p.1.map kV))∧RelV p.2 q.2.2
theorem KT.val {H:Hp} {kvs:List (List Key × V)} {xs:List (List Key × Addr × Value)} (r:KT H kvs xs) (k:List Key):mK (i9 kvs k) ((atKey xs k).map (·.2)):=by
 induction r with
 | nil=>exact True.intro
 | @cons p q ps qs h t ih =>
  obtain ⟨h1,_,h2⟩:=h
  by_cases e:p.1=k
  ·have e':q.1=k:=h1.symm.trans e
   have b:atKey (q::qs) k=some q.2:=by simp [atKey,List.find?_cons,e']
   rw [ki e,b]; exact h2
  ·have e' : ¬ q.1=k:=fun z=>e (h1.trans z)
   have b:atKey (q::qs) k=atKey qs k:=by simp [atKey,List.find?_cons,e']
   rw [kj e,b]; exact ih
theorem KT.repl {H:Hp} {kvs:List (List Key × V)} {xs:List (List Key × Addr × Value)} (r:KT H kvs xs) (k:List Key) {y:V} {u:Value} (ry:RelV y u) :
  KT H (kvs.map fun kv=>if kv.1=k then (kv.1,y) else kv) (xs.map (putAt k u)):=by
 induction r with
 | nil=>exact .nil
 | @cons p q ps qs h t ih =>
  rw [List.map_cons,List.map_cons]
  refine .cons ?_ ih
  obtain ⟨h1,h2,h3⟩:=h
  unfold putAt
  by_cases e:p.1=k
  ·rw [if_pos e,if_pos (h1.symm.trans e)]; exact ⟨h1,h2,ry⟩
  ·rw [if_neg e,if_neg (fun z=>e (h1.trans z))]; exact ⟨h1,h2,h3⟩
theorem KT.put {H:Hp} {kvs:List (List Key × V)} {xs:List (List Key × Addr × Value)} (r:KT H kvs xs) (k:List Key) {b:Addr} {y:V} {u:Value} (hb:H b=some (.tup (k.map kV))) (ry:RelV y u) :
  KT H (putK kvs k y) (storedH xs k b u):=by
 have e:(kvs.any fun kv=>decide (kv.1=k))=(atKey xs k).isSome:=by
  rw [pU,(r.val k).ng,Option.isSome_map]
 unfold putK storedH
 rw [e]
 by_cases q:(atKey xs k).isSome=true
 ·rw [if_pos q,if_pos q]; exact r.repl k ry
 ·rw [if_neg q,if_neg q]; exact Paired.snoc r ⟨rfl,hb,ry⟩
theorem KT.keeps {H H':Hp} {kvs:List (List Key × V)} {xs:List (List Key × Addr × Value)} (r:KT H kvs xs) (ht:∀ b ys,H b=some (.tup ys)->H' b=some (.tup ys)):KT H' kvs xs :=
 Paired.F4 r fun _ _ z=>⟨z.1,ht _ _ z.2.1,z.2.2⟩
section
variable {P:Program} {w:World} {H:Hp} {h:Heap} {a:Addr}
theorem Fz {u:HO} (ok:HOk P w H h) (e:Rd H a u):b9 P w H h a u:=e.ok ok
theorem pV {kvs:List (Key × V)} (ok:HOk P w H h) (e:Rd H a (.dK kvs)):kvs.length≤sizeLine∧(a == sysModules)=false∧∃ vs,KV kvs vs∧h.DictOf (bW P w) a vs :=
 show b9 P w H h a (.dK kvs) from Fz ok e
theorem BV {kvs:List (Key × V)} (ok:HOk P w H h) (e:H a=some (.dK kvs)):kvs.length≤sizeLine∧(a == sysModules)=false∧∃ vs,KV kvs vs∧h.DictOf (bW P w) a vs:=pV ok (.inl e)
theorem tJ {ks:List Key} (ok:HOk P w H h) (e:H a=some (.tup (ks.map kV))):(tupleKind (bW P w)).is h ks a:=by
 obtain ⟨_,its,r,o,h1,h2,n,h3⟩:=b9.Fo (P:=P) (w:=w) (H:=H) (ok a _ e)
 exact ⟨o,its.toArray,n,h1,h2,h3,by simpa using sf r⟩
theorem yS {kvs:List (List Key × V)} (ok:HOk P w H h) (e:Rd H a (.dT kvs)):kvs.length≤sizeLine∧(a == sysModules)=false ∧
  ∃ xs,KT H kvs xs∧h.DictOfH (tupleKind (bW P w)) a xs:=by
 obtain ⟨z,y,xs,r,o,es,ep,h1,h2,h3,h4,h5⟩:=(show b9 P w H h a (.dT kvs) from Fz ok e)
 refine ⟨z,y,xs,r,o,es,ep,h1,h2,h3,h4,fun x hx=>?_,h5⟩
 have all:∀ {l:List (List Key × V)} {m:List (List Key × Addr × Value)},KT H l m->∀ x∈m,(tupleKind (bW P w)).is h x.1 x.2.1:=by
  intro l m q
  induction q with
  | nil=>intro x hx; exact nomatch hx
  | @cons p q ps qs hq t ih =>
   intro x hx
   rcases List.mem_cons.mp hx with e | hx
   ·subst e
    exact tJ ok (by rw [← hq.1]; exact hq.2.1)
   ·exact ih x hx
 exact all r x hx
theorem IX {kvs:List (List Key × V)} (ok:HOk P w H h) (e:H a=some (.dT kvs)):kvs.length≤sizeLine∧(a == sysModules)=false ∧
  ∃ xs,KT H kvs xs∧h.DictOfH (tupleKind (bW P w)) a xs:=yS ok (.inl e)
end
def pW (H:Hp) (a:Addr) (y:V) (r:Option V):Prop :=
 (∃ kvs k,Rd H a (.dK kvs)∧y=kV k∧r=i9 kvs k)∨∃ kvs k b,Rd H a (.dT kvs)∧y=.ref b∧H b=some (.tup (k.map kV))∧r=i9 kvs k
def z6 (H:Hp) (a:Addr) (y v:V) (H':Hp):Prop :=
 (∃ kvs k,H a=some (.dK kvs)∧y=kV k∧kvs.length < sizeLine∧H'=upd H a (.dK (putK kvs k v))) ∨
 ∃ kvs k b,H a=some (.dT kvs)∧y=.ref b∧H b=some (.tup (k.map kV))∧kvs.length < sizeLine∧H'=upd H a (.dT (putK kvs k v))
theorem pW.k {H:Hp} {a:Addr} {kvs:List (Key × V)} {k:Key} (e:H a=some (.dK kvs)):pW H a (kV k) (i9 kvs k):=.inl ⟨kvs,k,.inl e,rfl,rfl⟩
theorem pW.t {H:Hp} {a b:Addr} {kvs:List (List Key × V)} {k:List Key} (e:H a=some (.dT kvs)) (eb:H b=some (.tup (k.map kV))):pW H a (.ref b) (i9 kvs k):=.inr ⟨kvs,k,b,.inl e,rfl,eb,rfl⟩
theorem z6.k {H:Hp} {a:Addr} {kvs:List (Key × V)} {k:Key} {v:V} (e:H a=some (.dK kvs)) (hl:kvs.length < sizeLine):z6 H a (kV k) v (upd H a (.dK (putK kvs k v))):=.inl ⟨kvs,k,e,rfl,hl,rfl⟩
theorem z6.t {H:Hp} {a b:Addr} {kvs:List (List Key × V)} {k:List Key} {v:V} (e:H a=some (.dT kvs)) (eb:H b=some (.tup (k.map kV))) (hl:kvs.length < sizeLine) :
  z6 H a (.ref b) v (upd H a (.dT (putK kvs k v))):=.inr ⟨kvs,k,b,e,rfl,eb,hl,rfl⟩
section
variable {X:Cx} {pins:List (Addr × Obj)} {σ:St} {H:Hp} {s:Shared} {a:Addr} {y v:V} {u r:Value} {o:Option V} {A:Around} {E:Value->Shared->Prop}
theorem Inv.big (I:Inv X pins σ H s):sysModules < s.heap.objs.size:=by
 have h:mainGlobals < s.heap.objs.size:=(I.mod.glob.keeps I.bk).lt
 exact Nat.lt_trans (by decide) h
theorem z7 {Q:Value->Shared->Prop} (hu:A.units + 1 < cLine) (I:Inv X pins σ H s) (g:pW H a y (some v)) (ry:RelV y u) (h:∀ w' s',Inv X pins σ H s'->RelV v w'->Q w' s') :
  wpAny (model X.prog X.w) A (getItem (.ref a) u) Q E s:=by
 rcases g with ⟨kvs,k,e,ey,l⟩ | ⟨kvs,k,b,e,ey,eb,l⟩
 ·subst ey
  obtain ⟨z,hd,vs,rel,dd⟩:=pV I.hok e
  obtain ⟨w',hw,rw'⟩:=mK.some_of (v:=v) (o:=valueAt vs k) (by rw [l]; exact rel.val k)
  exact wpAny_getItem_of (yR ry) dd.mapOf hw (h w' _ (I.tok _) rw')
 ·subst ey
  cases (show u=Value.ref b from ry)
  obtain ⟨z,hd,xs,rel,dd⟩:=yS I.hok e
  obtain ⟨w',hw,rw'⟩:=mK.some_of (v:=v) (o:=(atKey xs k).map (·.2)) (by rw [l]; exact rel.val k)
  obtain ⟨p,hp,hp2⟩:=Option.map_eq_some_iff.mp hw
  refine wpAny_getItem_heap (tupleKind_room_in1 hu) (tJ I.hok eb) dd hp ?_
  rw [hp2]
  exact h w' _ (I.tok _) rw'
theorem Ei {Q:Value->Shared->Prop} (hu:A.units + 1 < cLine) (I:Inv X pins σ H s) (g:pW H a y o) (ry:RelV y u) (h:∀ s',Inv X pins σ H s'->Q (.bool (!o.isSome)) s') :
  wpAny (model X.prog X.w) A (compareOp .NotIn u (.ref a)) Q E s:=by
 rcases g with ⟨kvs,k,e,ey,l⟩ | ⟨kvs,k,b,e,ey,eb,l⟩
 ·subst ey
  obtain ⟨z,hd,vs,rel,dd⟩:=pV I.hok e
  refine wpAny_notIn_of (yR ry) hd dd.mapOf ?_
  rw [← (rel.val k).ng,← l]
  exact h _ (I.tok _)
 ·subst ey
  cases (show u=Value.ref b from ry)
  obtain ⟨z,hd,xs,rel,dd⟩:=yS I.hok e
  refine wpAny_notIn_heap (tupleKind_room_in1 hu) (tJ I.hok eb) hd dd ?_
  have q:=(rel.val k).ng
  rw [Option.isSome_map] at q
  rw [← q,← l]
  exact h _ (I.tok _)
theorem tK {h':Heap} {t':Nat} {ob:HO} (I:Inv X pins σ H s) (mu:Mut (H a)) (hs:Heap.SameBut a s.heap h') (he:∃ q,h'.get? a=some q) (new:b9 X.prog X.w (upd H a ob) h' a ob) :
  Inv X pins σ (upd H a ob) { s with heap:=h',toks:=t' } :=
 I.write (x:=a) (e:=a) mu (.inl rfl) (fun b q hb z=>(hs.2 b hb).trans z) he new
theorem xy {P:Program} {w:World} {H':Hp} {h':Heap} {kvs:List (Key × V)} {vs:List (Key × Value)} (z:kvs.length≤sizeLine) (hd:(a == sysModules)=false) (rel:KV kvs vs) (dd:h'.DictOf (bW P w) a vs) :
  b9 P w H' h' a (.dK kvs):=⟨z,hd,vs,rel,dd⟩
theorem z8 {H':Hp} {Q:Unit->Shared->Prop} (hu:A.units + 1 < cLine) (I:Inv X pins σ H s) (g:z6 H a y v H') (ry:RelV y u) (rv:RelV v r) (h:∀ s',Inv X pins σ H' s'->Q () s') :
  wpAny (model X.prog X.w) A (setItem (.ref a) u r) Q E s:=by
 rcases g with ⟨kvs,k,e,ey,l,eH⟩ | ⟨kvs,k,b,e,ey,eb,l,eH⟩
 ·subst ey eH
  obtain ⟨z,hd,vs,rel,dd⟩:=BV I.hok e
  have hz:vs.length≤sizeLine:=by rw [← rel.length]; exact z
  have hl:(putK kvs k v).length≤sizeLine:=by have:=nX kvs k v; omega
  refine wpAny_setItem_pairs (hsz:=hz) (yR ry) dd fun h' dd' hs=>h _ ?_
  have he:∃ q,h'.get? a=some q:=let ⟨q,_,_,hq,_⟩:=dd'; ⟨q,hq⟩
  exact tK I (by rw [e]; exact True.intro) hs he (xy hl hd (rel.put k rv) dd')
 ·subst ey eH
  cases (show u=Value.ref b from ry)
  obtain ⟨z,hd,xs,rel,dd⟩:=IX I.hok e
  have hz:xs.length≤sizeLine:=by rw [← Paired.length rel]; exact z
  have hl:(putK kvs k v).length≤sizeLine:=by have:=nX kvs k v; omega
  refine wpAny_setItem_heap (hsz:=hz) (tupleKind_room_in1 hu) (tJ I.hok eb) dd fun h' dd' hs=>h _ ?_
  obtain ⟨q,es,ep,hq,h2,h3,h4,_,h5⟩:=dd'
  refine tK I (by rw [e]; exact True.intro) hs ⟨q,hq⟩ ⟨hl,hd,_,(rel.put k eb rv).keeps fun c ys ec=>?_,q,es,ep,hq,h2,h3,h4,h5⟩
  rw [aq (HR ec e (fun z=>nomatch z))]
  exact ec
end
section
variable {X:Cx} {pins:List (Addr × Obj)} {σ:St} {H:Hp} {s:Shared} {a:Addr} {kvs:List (Key × V)} {k:Key} {u:Value} {A:Around} {E:Value->Shared->Prop}
theorem IY {Q:Value->Shared->Prop} (I:Inv X pins σ H s) (e:Rd H a (.dK kvs)) (h:∀ t s',Inv X pins σ H s'->Q (.int kvs.length t) s'):wpAny (model X.prog X.w) A (call (.builtin "len") [.ref a]) Q E s:=by
 obtain ⟨z,hd,vs,rel,dd⟩:=pV I.hok e
 refine call_len_dict hd dd (by rw [← rel.length]; rw [sizeLine_eq] at z; omega) ?_
 rw [← rel.length]
 exact h _ _ (I.tok _)
end
def IZ (i:Expr):Prop:=∀ ov iv,subscripted i false ov iv=operate [ov,iv] (getItem ov iv)
theorem Ej {prog:Program} {w:World} {A:Around} {E:Value->Shared->Prop} {s:Shared} {env:Env} {value slice:Expr} {pos:Pos} {T id:String} {Q:Value->Shared->Prop}
  (hl:typeLookup (.type T) "__getitem__" = pure (some (.builtin id))) (hs:IZ slice)
  (h:wpAny (model prog w) A (eval value env) (fun o s₁=>wpAny (model prog w) A (eval slice env) (fun i s₂=>s₂.TypeIs o T∧wpAny (model prog w) A (getItem o i) Q E s₂) E s₁) E s) :
  wpAny (model prog w) A (eval (.Subscript value slice pos) env) Q E s:=by
 refine Subscript_ (wpAny_mono h (fun o s₁ h₁=>wpAny_mono h₁ (fun i s₂ h₂=>?_) fun _ _ x=>x) fun _ _ x=>x)
 obtain ⟨hT,h₂⟩:=h₂
 unfold subscriptTail
 refine wpAny_bind ?_
 rw [getitemInPython_of_ne hT.not_modules]
 refine wpAny_bind (wpAny_specialOf hT hl ?_)
 have fin:wpAny (model prog w) A (subscripted slice false o i) (fun r s₃=>wpAny (model prog w) A (letTemporaryGo value o r >>= fun _=>pure r) Q E s₃) E s₂:=by
  rw [hs o i]
  exact wpAny_operating (wpAny_mono h₂ (fun r s₃ h₃=>wpAny_bind (wpAny_letTemporaryGo (wpAny_pure h₃))) fun _ _ x=>x)
 first
  | exact wpAny_pure (wpAny_bind fin)
  | exact wpAny_bind (wpAny_pure (wpAny_bind fin))
  | exact wpAny_bind fin
theorem vt {X:Cx} {pins:List (Addr × Obj)} {σ:St} {H:Hp} {s:Shared} {a:Addr} {y:V} {o:Option V} (I:Inv X pins σ H s) (g:pW H a y o):s.TypeIs (.ref a) "dict":=by
 rcases g with ⟨kvs,k,e,_,_⟩ | ⟨kvs,k,b,e,_,_,_⟩
 ·obtain ⟨_,_,vs,_,dd⟩:=pV I.hok e
  exact dd.typeIs
 ·obtain ⟨_,_,xs,_,dd⟩:=yS I.hok e
  exact dd.typeIs
def I0 (td ty:TE):TE:=fun σ H Q=>td σ H fun x H1=>ty σ H1 fun y H2=>∃ a v,x=.ref a∧pW H2 a y (some v)∧Q v H2
def Ek (ty td:TE):TE:=fun σ H Q=>ty σ H fun y H1=>td σ H1 fun x H2=>∃ a o,x=.ref a∧pW H2 a y o∧Q (.bl (!o.isSome)) H2
def BW (td ty tv:TE):TS:=fun D σ H=>tv σ H fun v H1=>td σ H1 fun x H2=>ty σ H2 fun y H3=>∃ a H4,x=.ref a∧z6 H3 a y v H4∧D.nx σ H4
section
variable {X:Cx} {o i e value:Expr} {pos pos' tpos:Pos} {td ty tv:TE}
theorem bF (hu:X.A.units + 1 < cLine) (ho:PE X o td) (hi:PE X i ty) (hs:IZ i):PE X (.Subscript o i pos) (I0 td ty):=by
 intro pins s σ H Q I h
 refine Ej PySem.F.slot_dict_getitem.lookup hs (thn (ho pins s σ H _ I h) fun u s1 ⟨x,H1,I1,rx,q1⟩=>thn (hi pins s1 σ H1 _ I1 q1) fun iv s2 ⟨y,H2,I2,ry,a,v,ex,g,q2⟩=>?_)
 subst ex
 obtain rfl:u=Value.ref a:=rx
 exact ⟨vt I2 g,z7 hu I2 g ry fun w' s3 I3 rw'=>⟨v,H2,I3,rw',q2⟩⟩
theorem nh (hu:X.A.units + 1 < cLine) (hi:PE X i ty) (ho:PE X o td):PC X .NotIn i o (Ek ty td):=by
 intro pins s σ H Q I h
 refine thn (hi pins s σ H _ I h) fun iv s1 ⟨y,H1,I1,ry,q1⟩=>thn (ho pins s1 σ H1 _ I1 q1) fun u s2 ⟨x,H2,I2,rx,a,ov,ex,g,q2⟩=>?_
 subst ex
 obtain rfl:u=Value.ref a:=rx
 exact Ei hu I2 g ry fun s3 I3=>⟨.bl (!ov.isSome),H2,I3,rfl,q2⟩
theorem d8 (hu:X.A.units + 1 < cLine) (ho:PE X o td) (hi:PE X i ty) (hv:PE X value tv) (hs:swapsWith value (some (.Subscript o i pos')) pos.line X.env=pure false) :
  PS X (.Assign [.Subscript o i pos'] value pos) (BW td ty tv):=by
 intro pins s σ H D I h
 refine wpAny_Assign_Subscript (thn (hv pins s σ H _ I h) fun r s1 ⟨v,H1,I1,rv,q1⟩=>thn (ho pins s1 σ H1 _ I1 q1) fun u s2 ⟨x,H2,I2,rx,q2⟩=>thn (hi pins s2 σ H2 _ I2 q2) fun iv s3 ⟨y,H3,I3,ry,a,H4,ex,g,q3⟩=>?_) hs
 subst ex
 obtain rfl:u=Value.ref a:=rx
 exact z8 hu I3 g ry rv fun s4 I4=>⟨σ,H4,I4,q3⟩
end
theorem BX {P:Program} {w:World} {H:Hp} (h:Heap) (hb:sysModules < h.objs.size):b9 P w H (h.push { cls:=.type "dict",data:=.dict #[] }) h.objs.size (.dK []) :=
 ⟨Nat.zero_le _,beq_eq_false_iff_ne.mpr (Ne.symm (Nat.ne_of_lt hb)),[],.nil,Heap.DictOf.new h⟩
def BY:TE:=fun _ H Q=>∀ p,H p=none->Q (.ref p) (upd H p (.dK []))
section
variable {X:Cx} {pos:Pos}
theorem vv:PE X (.Dict [] [] pos) BY:=fun pins s σ H Q I h =>
 wpAny_Dict_empty ⟨.ref s.heap.objs.size,_,I.laid (a:=s.heap.objs.size) (o:=.dK []) (t':=s.toks) (fun _ _ q=>Heap.get?_push_of_some _ q) (Nat.le_refl _) (BX s.heap I.big),rfl,h _ (I.hok.fresh (Nat.le_refl _))⟩
end
structure M1 (X:Cx) (o:Expr) (m:Str) (apos:Pos) (e:Expr) (cpos:Pos):Prop where
 base:attributeBase o m X.env (eval o X.env)=eval o X.env
 few:((backTo cpos (starEach [e] X.env)).all (fun x=>!x.1) && (backToKw cpos (keywordEach [] X.env)).all (fun x=>x.1.isSome)
  && decide (([e]:List Expr).length + ([]:List Keyword).length + (if ([]:List Keyword).isEmpty then 0 else 1) < 30))=true
 line:(apos.endLine == cpos.line)=true
 trees:backTo cpos (starEach [e] X.env)=[(false,eval e X.env)]
structure M2 (X:Cx) (o:Expr) (m:Str) (apos:Pos) (e f:Expr) (cpos:Pos):Prop where
 base:attributeBase o m X.env (eval o X.env)=eval o X.env
 few:((backTo cpos (starEach [e,f] X.env)).all (fun x=>!x.1) && (backToKw cpos (keywordEach [] X.env)).all (fun x=>x.1.isSome)
  && decide (([e,f]:List Expr).length + ([]:List Keyword).length + (if ([]:List Keyword).isEmpty then 0 else 1) < 30))=true
 line:(apos.endLine == cpos.line)=true
 trees:backTo cpos (starEach [e,f] X.env)=[(false,eval e X.env),(false,eval f X.env)]
section
variable {X:Cx} {pins:List (Addr × Obj)} {σ:St} {H:Hp} {s:Shared} {a:Addr} {y d:V} {u r:Value} {o:Option V} {A:Around} {E:Value->Shared->Prop}
end
section
variable {X:Cx} {o e f:Expr} {apos cpos:Pos} {td ty tx:TE}
end
section
variable {X:Cx} {pins:List (Addr × Obj)} {σ:St} {H:Hp} {s:Shared} {a:Addr} {kvs:List (Key × V)} {A:Around} {E:Value->Shared->Prop}
theorem BZ {Q:Value->Shared->Prop} (I:Inv X pins σ H s) (e:Rd H a (.dK kvs)) (h:∀ p s',H p=none->Inv X pins σ (upd H p (.dK kvs)) s'->Q (.ref p) s'):wpAny (model X.prog X.w) A (call (.type "dict") [.ref a]) Q E s:=by
 obtain ⟨z,hd,vs,rel,dd⟩:=pV I.hok e
 refine kt_call_dict hd dd (by rw [← rel.length]; exact z) fun h' dd' hs=>?_
 refine h _ _ (I.hok.fresh (Nat.le_refl _)) (I.laid (a:=s.heap.objs.size) (o:=.dK kvs) (t':=s.toks) (fun b q hq=>?_) (Nat.le_refl _) (xy z (beq_eq_false_iff_ne.mpr (Ne.symm (Nat.ne_of_lt I.big))) rel dd'))
 exact (hs.2 b (Nat.ne_of_lt (Heap.lt_size hq))).trans (Heap.get?_push_of_some _ hq)
end
section
variable {X:Cx} {pins:List (Addr × Obj)} {σ:St} {H:Hp} {s:Shared} {a:Addr} {y:V} {u:Value} {A:Around} {E:Value->Shared->Prop}
end
end L2
namespace L2
open PySem PySem.Spec PyProof.Rows
section
variable {X:Cx}
theorem nj:∀ {ns:List Int} {us:List Value},Vals (ns.map V.int) us->IntsAre us ns
 | [],us,h=>by cases h; first | exact .nil | trivial
 | n::ns,us,h=>by
  cases h with
  | cons r t =>
   obtain ⟨tk,rfl⟩:=r
   exact .cons _ _ (nj t)
end
end L2
namespace Mir
open PySem L2
variable [Zc]
def B6:PM:=fun ρ=>some ((.dict [],.new),ρ)
theorem yT:ME BY B6:=by
 intro F B H σ ρ r ρ' Q R e q
 cases e
 exact gg (res:=(.dict [],true)) (k:=fun Q=>∀ p,H p=none->Q (.ref p) (upd H p (.dK []))) (Q:=Q) R ⟨[],.nil,fun Q h=>h⟩ fun v B' H' E R' V' N=>q v B' H' E R' V' N
def B7:Option Sl->Option (List (D × D))
 | some (.own (.dict es))=>some es
 | some (.io (.dict es))=>some es
 | _=>none
theorem yU {s:Option Sl} {es:List (D × D)} (h:B7 s=some es):∃ t,s=some t∧t.dA=true∧slD t=.dict es:=by
 unfold B7 at h
 split at h
 ·cases h; exact ⟨_,rfl,rfl,rfl⟩
 ·cases h; exact ⟨_,rfl,rfl,rfl⟩
 ·cases h
theorem Own.dict {B H:Hp} {p:Addr} {es:List (D × D)} (h:Own B H p (.dict es)):∃ kvs,H p=some (.dK kvs)∧bx B kvs es:=by
 cases h with
 | dct h r=>exact ⟨_,h,r⟩
theorem bx.snoc {B:Hp} {k:Key} {c:D} {x:V} {d:D} (hk:sT k c) (hx:Rep B x d):∀ {kvs:List (Key × V)} {es:List (D × D)},bx B kvs es->bx B (kvs++[(k,x)]) (es++[(c,d)])
 | _,_,.nil=>.cons hk hx .nil
 | _,_,.cons h1 h2 r=>.cons h1 h2 (bx.snoc hk hx r)
theorem bx.length {B:Hp}:∀ {kvs:List (Key × V)} {es:List (D × D)},bx B kvs es->kvs.length=es.length
 | _,_,.nil=>rfl
 | _,_,.cons _ _ r=>by rw [List.length_cons,List.length_cons,bx.length r]
theorem BU {kvs:List (Key × V)} {k:Key} {v:V} (h:i9 kvs k=none):putK kvs k v=kvs++[(k,v)]:=by
 unfold putK
 rw [if_neg]
 intro z
 rw [List.any_eq_true] at z
 obtain ⟨p,hp,e⟩:=z
 have e':=of_decide_eq_true e
 unfold i9 at h
 rw [Option.map_eq_none_iff,List.find?_eq_none] at h
 exact h p hp (by simpa using e')
def B8:List (D × D)->Option (List Int)
 | []=>some []
 | (_,.int i)::r=>(B8 r).map (i::·)
 | _=>none
theorem nj {B:Hp}:∀ {kvs:List (Key × V)} {es:List (D × D)} {ns:List Int},bx B kvs es->B8 es=some ns->kvs.map (·.2)=ns.map V.int
 | _,_,_,.nil,h=>by cases h; rfl
 | _,_,ns,.cons (d:=d) hk hx r,h=>by
  cases d with
  | int i =>
   obtain ⟨ms,h1,h2⟩:=Option.map_eq_some_iff.mp (show (B8 _).map (i::·)=some ns from h)
   subst h2
   cases hx
   rw [List.map_cons,List.map_cons,nj r h1]
  | _=>cases h
theorem Rel.fresh {F:Fr} {B H:Hp} {σ:St} {ρ:Rho} {p:Addr} {o:HO} (R:Rel F B H σ ρ) (hp:H p=none) (n1:∀ xs,o≠.tup xs) (n2:∀ a u,o≠.frz a u):Rel F B (upd H p o) σ ρ∧Ext σ ρ B H ρ B (upd H p o):=by
 refine ⟨R.grow (fun _ _ z=>z) (eG hp) (fun q u z=>eG hp q u (R.sub q u z)) (fun _ _ z=>z) (fun q xs z=>?_) fun q a u z y=>?_,Ext.grow (fun _ _ z=>z) (eG hp) fun _ _ z=>z⟩
 ·by_cases w:q=p
  ·subst w; rw [az] at z; cases z; exact absurd rfl (n1 xs)
  ·rw [aq w] at z; exact R.cC q xs z
 ·by_cases w:q=p
  ·subst w; rw [az] at z; cases z; exact absurd rfl (n2 a u)
  ·rw [aq w,y] at z; cases z
end Mir
namespace L2
open PySem PySem.Spec PyProof.Rows
section
variable {X:Cx}
def FA:List V->Hp->VK->Prop:=fun xs H Q=>∃ a kvs,xs=[V.ref a]∧Rd H a (.dK kvs)∧Q (.int kvs.length) H
theorem kN:dU X (.builtin "len") FA:=by
 intro pins s σ H xs us Q I r h
 obtain ⟨a,kvs,rfl,ha,q⟩:=h
 cases r with
 | cons r1 r =>
  cases r
  obtain rfl:=r1
  exact IY I ha fun t s' I'=>⟨.int kvs.length,H,I',⟨t,rfl⟩,q⟩
def B9:List V->Hp->VK->Prop:=fun xs H Q=>∃ a kvs,xs=[V.ref a]∧Rd H a (.dK kvs)∧∀ p,H p=none->Q (.ref p) (upd H p (.dK kvs))
theorem jE:dU X (.type "dict") B9:=by
 intro pins s σ H xs us Q I r h
 obtain ⟨a,kvs,rfl,ha,q⟩:=h
 cases r with
 | cons r1 r =>
  cases r
  obtain rfl:=r1
  exact BZ I ha fun p s' hp I'=>⟨.ref p,_,I',rfl,q p hp⟩
def Ca:List V->Hp->VK->Prop:=fun xs H Q=>∃ a kvs,xs=[V.ref a]∧Rd H a (.dK kvs)∧∀ p,H p=none->Q (.ref p) (upd H p (.lst (kvs.map fun q=>kV q.1)))
theorem Cb {P:Program} {w:World} {k:Key} {u:Value} (h:(bW P w).is k u=true):RelV (kV k) u:=by
 rw [wN] at h
 rcases cL h with ⟨i,t,rfl,rfl⟩ | ⟨x,t,rfl,rfl⟩
 ·exact ⟨t,rfl⟩
 ·exact ⟨t,rfl⟩
theorem z9 {P:Program} {w:World} {kvs:List (Key × V)} {vs:List (Key × Value)} (us:List Value) (r:KV kvs vs) (hl:us.length=vs.length) (hv:∀ (j:Nat) (v:Value),us[j]?=some v->∃ k x,vs[j]?=some (k,x)∧(bW P w).is k v=true):Vals (kvs.map fun q=>kV q.1) us:=by
 induction r generalizing us with
 | nil =>
  cases us with
  | nil=>exact .nil
  | cons u us=>cases hl
 | @cons a b l1 l2 h t ih =>
  cases us with
  | nil=>cases hl
  | cons u us =>
   obtain ⟨k,x,e1,e2⟩:=hv 0 u rfl
   have e3:b=(k,x):=by simpa using e1
   subst e3
   have e4:a.1=k:=h.1
   refine .cons ?_ (ih us (by simpa using hl) fun j v e=>hv (j + 1) v (by simpa using e))
   show RelV (kV a.1) u
   rw [e4]
   exact Cb e2
theorem nY (hc:X.calm=true):dU X (.type "list") Ca:=by
 intro pins s σ H xs us Q I r h
 obtain ⟨a,kvs,rfl,ha,q⟩:=h
 cases r with
 | cons r1 r =>
  cases r
  obtain rfl:=r1
  obtain ⟨z,hd,vs,rel,dd⟩:=pV I.hok ha
  obtain ⟨ep,hat⟩:=dd.dictAt
  refine PySem.W.kdl_call (PySem.W.kdl_dict (knd:=bW X.prog X.w) (kvs:=vs) (ep:=ep) hd) (I.ok.hd hc) hat (by rw [← rel.length]; exact z) fun h' tk acc' c' hk hD hacc=>?_
  have kv:Vals (kvs.map fun q=>kV q.1) acc'.toList:=z9 acc'.toList rel (by rw [Array.length_toList]; exact hacc.1) fun j u e=>hacc.2 j u (by rw [← Array.getElem?_toList]; exact e)
  refine ⟨.ref s.heap.objs.size,_,I.laid (a:=s.heap.objs.size) (o:=.lst (kvs.map fun q=>kV q.1)) (t':=tk) hk (Nat.le_refl _) ⟨by rw [List.length_map]; exact z,acc'.toList,c',kv,?_⟩,rfl,q _ (I.hok.fresh (Nat.le_refl _))⟩
  rw [hD,Array.toArray_toList]
end
end L2
namespace Mir
open PySem L2
variable [Zc]
def keyOf:D->Option Key
 | .int i=>some (.inl i)
 | .str x=>some (.inr x)
 | _=>none
theorem sT.of {k:Key} {c:D} (h:sT k c):keyOf c=some k:=by
 cases k with
 | inl i=>obtain rfl:=(show c=.int i from h); rfl
 | inr x=>obtain rfl:=(show c=.str x from h); rfl
theorem yV {k:Key} {c:D} (h:keyOf c=some k):sT k c:=by
 unfold keyOf at h
 split at h
 ·cases h; exact rfl
 ·cases h; exact rfl
 ·cases h
def iq:List (D × D)->Key->Option D
 | [],_=>none
 | (c,d)::r,k=>if keyOf c=some k then some d else iq r k
theorem kP {B:Hp} {k:Key}:∀ {kvs:List (Key × V)} {es:List (D × D)},bx B kvs es->(∀ d,iq es k=some d->∃ u,i9 kvs k=some u∧Rep B u d)∧(iq es k=none->i9 kvs k=none)
 | _,_,.nil=>⟨fun d h=>(by cases h),fun _=>rfl⟩
 | _,_,.cons (k:=k') (x:=x) (c:=c) (d:=d) (kvs:=kvs) (es:=es) hk hx r=>by
  have ih:=kP (k:=k) r
  by_cases e:k'=k
  ·subst e
   have hl:iq ((c,d)::es) k'=some d:=if_pos hk.of
   refine ⟨fun d' h=>?_,fun h=>?_⟩
   ·rw [hl] at h; cases h
    exact ⟨x,ki rfl,hx⟩
   ·rw [hl] at h; cases h
  ·have hv:i9 ((k',x)::kvs) k=i9 kvs k:=kj e
   have hl:iq ((c,d)::es) k=iq es k:=if_neg fun z=>e (by rw [hk.of] at z; exact Option.some.inj z)
   rw [hv,hl]
   exact ih
theorem View.key {B H:Hp} {y:V} {d:D} {k:Key} (h:View B H y d) (e:keyOf d=some k):y=kV k:=by
 unfold keyOf at e
 split at e
 ·cases e
  rcases h with h | ⟨p,_,h⟩
  ·cases h; rfl
  ·cases h
 ·cases e
  rcases h with h | ⟨p,_,h⟩
  ·cases h; rfl
  ·cases h
 ·cases e
def Ja:R2:=fun x y H Q=>∃ a v,x=.ref a∧pW H a y (some v)∧Q v H
def El:R2:=fun y x H Q=>∃ a o,x=.ref a∧pW H a y o∧Q (.bl (!o.isSome)) H
def cR:D->D->Option (D × Bool)
 | .dict es,c=>(keyOf c).bind fun k=>(iq es k).map fun d=>(d,false)
 | _,_=>none
theorem cW:OpJ Ja cR:=by
 intro B H x y c d res s hx hy e
 unfold cR at e
 split at e
 ·obtain ⟨k,h1,e⟩:=Option.bind_eq_some_iff.mp e
  obtain ⟨v,h2,e⟩:=Option.map_eq_some_iff.mp e
  cases e
  obtain rfl:=hy.key h1
  obtain ⟨a,kvs,rfl,r1,rk⟩:=hx.dict s
  obtain ⟨u,h3,h4⟩:=(kP rk).1 v h2
  exact ⟨u,h4,fun Q q=>⟨a,u,rfl,.inl ⟨kvs,k,r1,rfl,h3.symm⟩,q⟩⟩
 ·cases e
def jF:D->D->Option (D × Bool)
 | c,.dict es=>(keyOf c).map fun k=>(.bool (!(iq es k).isSome),false)
 | _,_=>none
theorem yW {B:Hp} {k:Key} {kvs:List (Key × V)} {es:List (D × D)} (r:bx B kvs es):(i9 kvs k).isSome=(iq es k).isSome:=by
 cases h:iq es k with
 | none=>rw [(kP r).2 h]; rfl
 | some d=>obtain ⟨u,h1,_⟩:=(kP r).1 d h; rw [h1]; rfl
theorem pX:OpJ El jF:=by
 intro B H y x c d res s hy hx e
 unfold jF at e
 split at e
 ·obtain ⟨k,h1,e⟩:=Option.map_eq_some_iff.mp e
  cases e
  obtain rfl:=hy.key h1
  obtain ⟨a,kvs,rfl,r1,rk⟩:=hx.dict s
  exact ⟨.bl _,.bl _,fun Q q=>⟨a,_,rfl,.inl ⟨kvs,k,r1,rfl,rfl⟩,by rw [yW rk]; exact q⟩⟩
 ·cases e
def lg:List D->Option (D × Bool)
 | [.dict es]=>some (.int es.length,false)
 | _=>none
theorem tL:lZ FA lg:=by
 intro B H vs ds res s h e
 unfold lg at e
 split at e
 ·cases e
  obtain ⟨v,rfl,hh⟩:=i4 h
  obtain ⟨a,kvs,rfl,r1,rk⟩:=hh.dict s
  exact fv fun Q q=>⟨a,kvs,rfl,r1,by rw [rk.length]; exact q⟩
 ·cases e
def lG:List D->Option (D × Bool)
 | [.dict es]=>some (.dict es,true)
 | _=>none
theorem oR:lZ B9 lG:=by
 intro B H vs ds res s h e
 unfold lG at e
 split at e
 ·cases e
  obtain ⟨v,rfl,hh⟩:=i4 h
  obtain ⟨a,kvs,rfl,r1,rk⟩:=hh.dict s
  exact ⟨kvs,rk,fun Q q=>⟨a,kvs,rfl,r1,q⟩⟩
 ·cases e
def nq:List D->Option (D × Bool)
 | [.dict es]=>some (.list (es.map (·.1)),true)
 | _=>none
theorem pY {B:Hp}:∀ {kvs:List (Key × V)} {es:List (D × D)},bx B kvs es->aP B (kvs.map fun q=>kV q.1) (es.map (·.1))
 | _,_,.nil=>.nil
 | _,_,.cons (k:=k) (c:=c) hk hx r=>by
  refine .cons ?_ (pY r)
  cases k with
  | inl i=>obtain rfl:=(show c=.int i from hk); exact .int i
  | inr x=>obtain rfl:=(show c=.str x from hk); exact .str x
theorem yX:lZ Ca nq:=by
 intro B H vs ds res s h e
 unfold nq at e
 split at e
 ·cases e
  obtain ⟨v,rfl,hh⟩:=i4 h
  obtain ⟨a,kvs,rfl,r1,rk⟩:=hh.dict s
  exact ⟨_,pY rk,fun Q q=>⟨a,kvs,rfl,r1,q⟩⟩
 ·cases e
def putD (es:List (D × D)) (c d:D) (k:Key):List (D × D):=if (iq es k).isSome then es.map fun p=>if keyOf p.1=some k then (p.1,d) else p else es++[(c,d)]
theorem yY (k:Key):∀ kvs:List (Key × V),(kvs.any fun kv=>decide (kv.1=k))=(i9 kvs k).isSome
 | []=>rfl
 | p::l=>by
  rw [List.any_cons,yY k l]
  by_cases h:p.1=k
  ·rw [ki h,decide_eq_true h]; rfl
  ·rw [kj h,decide_eq_false h]; rfl
theorem bx.map {B:Hp} {k:Key} {d:D} {v:V} (hv:Rep B v d):∀ {kvs:List (Key × V)} {es:List (D × D)},bx B kvs es->bx B (kvs.map fun p=>if p.1=k then (p.1,v) else p) (es.map fun p=>if keyOf p.1=some k then (p.1,d) else p)
 | _,_,.nil=>.nil
 | _,_,.cons (k:=k') h1 h2 t=>by
  rw [List.map_cons,List.map_cons]
  by_cases e:k'=k
  ·subst e
   rw [if_pos rfl,if_pos h1.of]
   exact .cons h1 hv (bx.map hv t)
  ·rw [if_neg e,if_neg fun z=>e (by rw [h1.of] at z; exact Option.some.inj z)]
   exact .cons h1 h2 (bx.map hv t)
theorem bx.put {B:Hp} {k:Key} {c d:D} {v:V} (hk:sT k c) (hv:Rep B v d) {kvs:List (Key × V)} {es:List (D × D)} (r:bx B kvs es):bx B (putK kvs k v) (putD es c d k):=by
 unfold putK putD
 rw [yY,yW r]
 split
 ·exact bx.map hv r
 ·exact bx.snoc hk hv r
noncomputable def iM (i:Nat) (a b:PM):SM:=fun ρ=>(sv a ρ).bind fun x=>(j6 x.1 x.2).bind fun y=>(B7 y.2[i]?).bind fun _=>(sv b y.2).bind fun z=>(keyOf z.1.1).bind fun k=>(B7 z.2[i]?).bind fun es=>cIf (es.length < 100000) (some (.nx (Mir.putAt z.2 i (.dict (putD es z.1.1 y.1 k))))) none
theorem gR {i:Nat} {ty tv:TE} {a b:PM} (ha:ME tv a) (hb:ME ty b):MS (BW (lz i) ty tv) (iM i a b):=by
 intro F B H σ ρ o D R e q
 obtain ⟨x,e1,e⟩:=Option.bind_eq_some_iff.mp e
 obtain ⟨y,e2,e⟩:=Option.bind_eq_some_iff.mp e
 obtain ⟨es0,e3,e⟩:=Option.bind_eq_some_iff.mp e
 obtain ⟨z,e4,e⟩:=Option.bind_eq_some_iff.mp e
 obtain ⟨k,e5,e⟩:=Option.bind_eq_some_iff.mp e
 obtain ⟨es,e6,e⟩:=Option.bind_eq_some_iff.mp e
 obtain ⟨hz,e⟩:=cH e
 cases e
 refine ha.sv F B H σ ρ x.1 x.2 _ R e1 fun v B1 H1 E1 R1 V1 N1=>?_
 have w:zL B1 σ v x.1:=(Vl.weak (F:=F) (H:=H1) (ρ:=x.2) (vs:=[v]) (rs:=[x.1]) ⟨⟨V1,kI e1⟩,trivial⟩).1
 obtain ⟨B2,R2,rp,E2⟩:=R1.frz w e2
 obtain ⟨s0,hs0,ho0,hd0⟩:=yU e3
 obtain ⟨p,hv,hB,ow⟩:=R2.ownAt hs0 ho0
 refine ⟨_,hv,?_⟩
 refine hb.sv F B2 H1 σ y.2 z.1 z.2 _ R2 e4 fun u B3 H3 E3 R3 V3 N3=>?_
 obtain rfl:=(V3.view R3).key e5
 obtain ⟨s,hs,ho,hd⟩:=yU e6
 obtain ⟨p',hv',hB',ow'⟩:=R3.ownAt hs ho
 rw [hv] at hv'
 cases hv'
 rw [hd] at ow'
 obtain ⟨kvs,hp,rk⟩:=ow'.dict
 obtain ⟨R4,E4⟩:=R3.write (o:=.dK (putK kvs k v)) (d:=.dict (putD es z.1.1 y.1 k)) hs ho hv ⟨(fun _ z=>by cases z),fun _ _ z=>by cases z⟩ (.dct az (bx.put (yV e5) (rp.mono E3.sB) rk))
 have ep:Mir.putAt z.2 i (.dict (putD es z.1.1 y.1 k))=z.2.set i (s.put (.dict (putD es z.1.1 y.1 k))):=by unfold Mir.putAt; rw [hs]
 rw [ep] at q
 exact ⟨p,_,rfl,.inl ⟨kvs,k,hp,rfl,by rw [rk.length,sizeLine_eq]; omega,rfl⟩,q B3 _ σ R4⟩
end Mir
namespace L2
open PySem PySem.Spec PyProof.Rows
section
variable {X:Cx} {pins:List (Addr × Obj)} {σ:St} {H:Hp} {s:Shared} {a:Addr} {kvs:List (Key × V)}
theorem Inv.view {u u':HO} (I:Inv X pins σ H s) (e:H a=some u) (nt:∀ xs,u≠.tup xs) (no:∀ x,u≠.own x) (nz:∀ o v,X.H₀ a≠some (.frz o v)) (nb:∀ ps,u≠.tbl ps) (new:b9 X.prog X.w (upd H a u') s.heap a u'):Inv X pins σ (upd H a u') s:=by
 have nn:∀ b,H b=none->b≠a:=fun b z y=>by rw [y,e] at z; cases z
 refine ⟨I.ok,I.os,I.bare,⟨I.base.keep,I.base.slot,fun b o q n hx=>?_,I.base.there,fun b xs q=>?_,fun b o v q=>?_,fun b ps q=>?_⟩,I.loc,I.cell,?_,fun x c hc=>?_,fun p hp=>?_,fun b v q=>?_,I.len⟩
 ·have:=I.base.free b o q n hx
  rw [aq (nn b this)]; exact this
 ·have z:=I.base.tups b xs q
  rw [aq (fun y=>by rw [y,e] at z; exact nt xs (Option.some.inj z))]; exact z
 ·have z:=I.base.g8 b o v q
  rw [aq (fun y=>nz o v (by rw [← y]; exact q))]; exact z
 ·obtain ⟨m,z⟩:=I.base.iV b ps q
  exact ⟨m,by rw [aq (fun y=>by rw [y,e] at z; exact nb _ (Option.some.inj z))]; exact z⟩
 ·rw [aq (nn _ I.free)]; exact I.free
 ·have z:=I.gK x c hc
  rw [aq (nn _ z)]; exact z
 ·obtain ⟨a1,a2,a3,a4,a5⟩:=I.pin p hp
  exact ⟨a1,by rw [aq (nn _ a2)]; exact a2,a3,a4,a5⟩
 ·by_cases z:b=a
  ·subst z
   rw [az] at q
   cases q
   exact new
  ·rw [aq z] at q
   refine (I.hok b v q).stay (fun _ _ _ r=>r) (fun c r=>?_) fun c xs r=>?_
   ·rw [aq (fun y=>by rw [y,e] at r; exact no b (Option.some.inj r))]; exact r
   ·rw [aq (fun y=>by rw [y,e] at r; exact nt xs (Option.some.inj r))]; exact r
theorem Inv.FC (I:Inv X pins σ H s) (e:H a=some (.dK kvs)):∀ o v,X.H₀ a≠some (.frz o v):=fun o v z=>by
 have:=I.base.g8 a o v z
 rw [e] at this
 cases this
theorem Inv.J1 (I:Inv X pins σ H s) (e:H a=some (.dK kvs)):∃ o,Inv X pins σ (upd H a (.frz o (.dK kvs))) s:=by
 obtain ⟨z,hd,vs,rel,dd⟩:=BV I.hok e
 obtain ⟨o,es,ep,ho,r⟩:=id dd
 exact ⟨o,I.view e (fun _ z=>by cases z) (fun _ z=>by cases z) (I.FC e) (fun _ z=>by cases z) ⟨ho,z,hd,vs,rel,dd⟩⟩
theorem Inv.tM {o:Obj} (I:Inv X pins σ H s) (e:H a=some (.frz o (.dK kvs))) (nz:∀ o v,X.H₀ a≠some (.frz o v)):Inv X pins σ (upd H a (.dK kvs)) s:=by
 obtain ⟨_,z,hd,vs,rel,dd⟩:=I.hok a _ e
 exact I.view e (fun _ z=>by cases z) (fun _ z=>by cases z) nz (fun _ z=>by cases z) ⟨z,hd,vs,rel,dd⟩
def Jb (a:Addr) (o:Obj) (kvs:List (Key × V)) (D:Ends):Ends where
 nx:=fun σ H=>H a=some (.frz o (.dK kvs))∧D.nx σ (upd H a (.dK kvs))
 rt:=fun v H=>H a=some (.frz o (.dK kvs))∧D.rt v (upd H a (.dK kvs))
 bk:=fun σ H=>H a=some (.frz o (.dK kvs))∧D.bk σ (upd H a (.dK kvs))
 ct:=fun σ H=>H a=some (.frz o (.dK kvs))∧D.ct σ (upd H a (.dK kvs))
def FD (t:TS):TS:=fun D σ H=>∃ a kvs,H a=some (.dK kvs)∧∀ o,t (Jb a o kvs D) σ (upd H a (.frz o (.dK kvs)))
theorem Hh {st:Stmt} {t:TS} (h:PS X st t):PS X st (FD t):=by
 intro pins s σ H D I hw
 obtain ⟨a,kvs,e,q⟩:=hw
 obtain ⟨o,I1⟩:=I.J1 e
 have nz:=I.FC e
 refine wpAny_mono (h pins s σ _ _ I1 (q o)) (fun f s1 z=>?_) fun _ _ z=>z
 cases f with
 | next=>obtain ⟨σ',H',I',e',z⟩:=z; exact ⟨σ',_,I'.tM e' nz,z⟩
 | brk=>obtain ⟨σ',H',I',e',z⟩:=z; exact ⟨σ',_,I'.tM e' nz,z⟩
 | cont=>obtain ⟨σ',H',I',e',z⟩:=z; exact ⟨σ',_,I'.tM e' nz,z⟩
 | ret u=>obtain ⟨v,σ',H',I',r,e',z⟩:=z; exact ⟨v,σ',_,I'.tM e' nz,r,z⟩
def Jc (t:TE):TE:=fun σ H Q=>∃ a kvs,H a=some (.dK kvs)∧∀ o,t σ (upd H a (.frz o (.dK kvs))) fun v H'=>H' a=some (.frz o (.dK kvs))∧Q v (upd H' a (.dK kvs))
def ItD (a:Addr) (o:Obj) (kvs:List (Key × V)):It where
 go:=fun i H=>H a=some (.frz o (.dK kvs))∧i < kvs.length
 yld:=fun i H x H'=>H'=H∧∃ k v,kvs[i]?=some (k,v)∧x=kV k
 stop:=fun i H=>H a=some (.frz o (.dK kvs))∧kvs.length≤i
theorem Jd {kvs:List (Key × V)} {vs:List (Key × Value)} (r:KV kvs vs) (i:Nat) {k:Key} {x:Value} (h:vs[i]?=some (k,x)):∃ v,kvs[i]?=some (k,v):=by
 induction r generalizing i with
 | nil=>simp at h
 | cons h1 t ih =>
  cases i with
  | zero =>
   rename_i p q l l'
   have e:q=(k,x):=by simpa using h
   subst e
   exact ⟨p.2,by show some p=_; exact congrArg some (Prod.ext h1.1 rfl)⟩
  | succ i=>simpa using ih i (by simpa using h)
theorem Aa {P:Program} {w:World} {K:PySem.W.Frag} {tg:Expr} {a it:Addr} {o:Obj} {kvs:List (Key × V)} {vs:List (Key × Value)} {ep:Nat} {h₁:Heap} (rel:KV kvs vs) (ho:h₁.get? a=some o) (hat:h₁.DictAt (bW P w) a vs ep) :
  Turn P w K tg (ItD a o kvs) [it] it (fun i h=>h.IsKeyIter it a i vs.length ep) where
 mem:=by simp
 obj:=fun i h st b hb=>by
  have e:b=it:=by simpa using hb
  subst e
  obtain ⟨o,e,c,d⟩:=st
  exact ⟨o,e,fun v z=>by rw [d] at z; cases z⟩
 keep:=fun i h h' st k=>st.at fun o e=>k it (by simp) o e
 item:=by
  intro X hP hw hK hc i pins s σ H E I hf st hg
  subst hP hw hK
  obtain ⟨hH,hi⟩:=hg
  obtain ⟨hg,_⟩:=I.hok a _ hH
  have hd:s.heap.DictAt (bW X.prog X.w) a vs ep:=hat.at' fun o' e=>by rw [ho] at e; cases e; exact hg
  obtain ⟨f0,f1,f2,f3,f4,f5⟩:=hf it (by simp)
  have hl:=rel.length
  obtain ⟨⟨k,x⟩,hx⟩:∃ p,vs[i]?=some p:=⟨vs[i]'(by omega),by simp⟩
  refine wpAny_pyNext_dict_item st hd hx fun key h' hkey st' sb=>?_
  have I1:Inv X pins σ H { s with heap:=h' }:=I.turned (t':=s.toks) (fun b o hb e=>(sb.2 b hb).trans e) f0 f1 f3 f4 f5
  obtain ⟨oi,e,c,d⟩:=id st'
  obtain ⟨v,hv⟩:=Jd rel i hx
  exact ⟨key,rfl,yg (s:={ s with heap:=h' }) e c d (by decide) ⟨kV k,H,I1,Cb hkey,⟨rfl,k,v,hv,rfl⟩,st',fun b hb=>(hf b hb).1⟩⟩
 done:=by
  intro X hP hw hK hc i pins s σ H E I hf st hg
  subst hP hw hK
  obtain ⟨hH,hi⟩:=hg
  obtain ⟨hg,_⟩:=I.hok a _ hH
  have hd:s.heap.DictAt (bW X.prog X.w) a vs ep:=hat.at' fun o' e=>by rw [ho] at e; cases e; exact hg
  obtain ⟨f0,f1,f2,f3,f4,f5⟩:=hf it (by simp)
  have hl:=rel.length
  exact wpAny_pyNext_dict_end (I.ok.hd hc) st hd (by simp; omega) fun h' eb=>⟨rfl,I.turned (t':=s.toks) (fun b o hb e=>eb b o hb e) f0 f1 f3 f4 f5⟩
 self:=fun A i s Q E st q=>wpAny_pyIter_keyiter st q
def Je (tl:TE):TI:=fun σ H R=>tl σ H fun x H1=>∃ a o kvs,x=.ref a∧H1 a=some (.frz o (.dK kvs))∧R (ItD a o kvs) H1
theorem Em {tg l:Expr} {tl:TE} (hl:PE X l tl):PI X tg l (Je tl):=by
 intro pins s σ H R I h
 refine thn (hl pins s σ H _ I h) fun v s1 ⟨x,H1,I1,r1,q1⟩=>?_
 obtain ⟨a,o,kvs,e,hH,q⟩:=q1
 subst e
 cases r1
 obtain ⟨ho,z,hd,vs,rel,dd⟩:=I1.hok a _ hH
 obtain ⟨ep,hat⟩:=dd.dictAt
 refine wpAny_pyIter_dict hd hat ?_
 refine ⟨s1.heap.objs.size,[s1.heap.objs.size],_,_,H1,rfl,I1.kept (t':=s1.toks) fun b o e=>Heap.get?_push_of_some _ e,Aa rel ho hat,⟨_,Heap.get?_push_size _ rfl,rfl,rfl⟩,fun b hb=>?_,q⟩
 have e:b=s1.heap.objs.size:=by simpa using hb
 subst e
 exact I1.wW (Nat.le_refl _) (I1.hok.fresh (Nat.le_refl _))
end
end L2
namespace Mir
open PySem L2
variable [Zc]
mutual
theorem Rep.map {B B':Hp} (hL:∀ p xs,Rd B p (.lst xs)->Rd B' p (.lst xs)) (hT:∀ p xs,B p=some (.tup xs)->B' p=some (.tup xs)) (hD:∀ p kvs,Rd B p (.dK kvs)->Rd B' p (.dK kvs)):∀ {v:V} {d:D},Rep B v d->Rep B' v d
 | _,_,.non=>.non
 | _,_,.bl b=>.bl b
 | _,_,.int i=>.int i
 | _,_,.str x=>.str x
 | _,_,.lst h r=>.lst (hL _ _ h) (aP.map hL hT hD r)
 | _,_,.tup h r=>.tup (hT _ _ h) (aP.map hL hT hD r)
 | _,_,.dct h r=>.dct (hD _ _ h) (bx.map' hL hT hD r)
theorem aP.map {B B':Hp} (hL:∀ p xs,Rd B p (.lst xs)->Rd B' p (.lst xs)) (hT:∀ p xs,B p=some (.tup xs)->B' p=some (.tup xs)) (hD:∀ p kvs,Rd B p (.dK kvs)->Rd B' p (.dK kvs)):∀ {vs:List V} {ds:List D},aP B vs ds->aP B' vs ds
 | _,_,.nil=>.nil
 | _,_,.cons h r=>.cons (Rep.map hL hT hD h) (aP.map hL hT hD r)
theorem bx.map' {B B':Hp} (hL:∀ p xs,Rd B p (.lst xs)->Rd B' p (.lst xs)) (hT:∀ p xs,B p=some (.tup xs)->B' p=some (.tup xs)) (hD:∀ p kvs,Rd B p (.dK kvs)->Rd B' p (.dK kvs)):∀ {kvs:List (Key × V)} {es:List (D × D)},bx B kvs es->bx B' kvs es
 | _,_,.nil=>.nil
 | _,_,.cons hk h r=>.cons hk (Rep.map hL hT hD h) (bx.map' hL hT hD r)
end
section
variable {B:Hp} {a:Addr} {o:Obj} {kvs:List (Key × V)}
theorem pZ (hB:B a=some (.dK kvs)):∀ p xs,Rd B p (.lst xs)->Rd (upd B a (.frz o (.dK kvs))) p (.lst xs):=fun p xs h=>by
 by_cases z:p=a
 ·subst z
  rcases h with h | ⟨o',h⟩ <;> (rw [hB] at h; cases h)
 ·rcases h with h | ⟨o',h⟩
  ·exact .inl (by rw [aq z]; exact h)
  ·exact .inr ⟨o',by rw [aq z]; exact h⟩
theorem p9 (hB:B a=some (.dK kvs)):∀ p xs,B p=some (.tup xs)->upd B a (.frz o (.dK kvs)) p=some (.tup xs):=fun p xs h=>by
 rw [aq (fun z=>by rw [z,hB] at h; cases h)]; exact h
theorem qa (hB:B a=some (.dK kvs)):∀ p kvs',Rd B p (.dK kvs')->Rd (upd B a (.frz o (.dK kvs))) p (.dK kvs'):=fun p xs h=>by
 by_cases z:p=a
 ·subst z
  rcases h with h | ⟨o',h⟩
  ·rw [hB] at h; cases h
   exact .inr ⟨o,az⟩
  ·rw [hB] at h; cases h
 ·rcases h with h | ⟨o',h⟩
  ·exact .inl (by rw [aq z]; exact h)
  ·exact .inr ⟨o',by rw [aq z]; exact h⟩
theorem nu (hB:B a=some (.frz o (.dK kvs))):∀ p xs,Rd B p (.lst xs)->Rd (upd B a (.dK kvs)) p (.lst xs):=fun p xs h=>by
 by_cases z:p=a
 ·subst z
  rcases h with h | ⟨o',h⟩ <;> (rw [hB] at h; cases h)
 ·rcases h with h | ⟨o',h⟩
  ·exact .inl (by rw [aq z]; exact h)
  ·exact .inr ⟨o',by rw [aq z]; exact h⟩
theorem ny (hB:B a=some (.frz o (.dK kvs))):∀ p xs,B p=some (.tup xs)->upd B a (.dK kvs) p=some (.tup xs):=fun p xs h=>by
 rw [aq (fun z=>by rw [z,hB] at h; cases h)]; exact h
theorem nC (hB:B a=some (.frz o (.dK kvs))):∀ p kvs',Rd B p (.dK kvs')->Rd (upd B a (.dK kvs)) p (.dK kvs'):=fun p xs h=>by
 by_cases z:p=a
 ·subst z
  rcases h with h | ⟨o',h⟩
  ·rw [hB] at h; cases h
  ·rw [hB] at h; cases h
   exact .inl az
 ·rcases h with h | ⟨o',h⟩
  ·exact .inl (by rw [aq z]; exact h)
  ·exact .inr ⟨o',by rw [aq z]; exact h⟩
end
def oB (ρ:Rho):Bool:=ρ.all fun s=>match s with
 | .ro _=>false
 | _=>true
theorem yZ {ρ:Rho} (h:oB ρ=true) {i:Nat} {d:D} (z : ρ[i]?=some (.ro d)):False:=by
 have:=(List.all_eq_true.mp h) _ (List.mem_of_getElem? z)
 cases this
def Fr.hide (F:Fr) (a:Addr) (u:HO):Fr:=⟨fun q=>if q=a then (F.B a).map fun _=>u else F.B q,fun q=>if q=a then (F.H a).map fun _=>u else F.H q,F.io,fun q=>F.Z q∨q=a⟩
section
variable {F:Fr} {B H:Hp} {σ:St} {ρ:Rho} {a:Addr} {o:Obj} {kvs:List (Key × V)}
theorem Own.ne {p:Addr} {u:HO} (hp:B p=none) (hB:B a=some u):p≠a:=fun z=>by rw [z,hB] at hp; cases hp
theorem Rel.hide (R:Rel F B H σ ρ) (hB:B a=some (.dK kvs)) (nr:oB ρ=true):Rel (F.hide a (.frz o (.dK kvs))) (upd B a (.frz o (.dK kvs))) (upd H a (.frz o (.dK kvs))) σ ρ:=by
 have own:∀ {p:Addr} {d:D},B p=none->Own B H p d->Own (upd B a (.frz o (.dK kvs))) (upd H a (.frz o (.dK kvs))) p d:=fun {p d} hp h=>by
  have z:=Own.ne hp hB
  cases h with
  | lst h r=>exact .lst (by rw [aq z]; exact h) (aP.map (pZ hB) (p9 hB) (qa hB) r)
  | dct h r=>exact .dct (by rw [aq z]; exact h) (bx.map' (pZ hB) (p9 hB) (qa hB) r)
 refine ⟨fun q u h=>?_,fun q u h=>?_,fun q u h n=>?_,fun q h1 h2=>?_,R.len,fun i s hs=>?_,R.dist,fun i d p h1 h2=>?_,R.fx,R.ioN,fun q xs h=>?_,R.exv,fun q o' u h=>?_⟩
 ·by_cases z:q=a
  ·subst z; rw [az] at h ⊢; exact h
  ·rw [aq z] at h ⊢; exact R.sub q u h
 ·by_cases z:q=a
  ·subst z
   have e:(∃ x,F.B q=some x)∧HO.frz o (HO.dK kvs)=u:=by simpa [Fr.hide] using h
   rw [az,e.2]
  ·rw [aq z]; exact R.sB q u (by simpa [Fr.hide,z] using h)
 ·by_cases z:q=a
  ·subst z
   have e:(∃ x,F.H q=some x)∧HO.frz o (HO.dK kvs)=u:=by simpa [Fr.hide] using h
   rw [az,e.2]
  ·rw [aq z]; exact R.sH q u (by simpa [Fr.hide,z] using h) n
 ·by_cases z:q=a
  ·subst z
   have g1:F.H q≠none:=fun y=>h1 (by simp [Fr.hide,y])
   have g2:F.B q=none:=by simpa [Fr.hide] using h2
   have:=R.nB q g1 g2
   rw [hB] at this; cases this
  ·rw [aq z]; exact R.nB q (by simpa [Fr.hide,z] using h1) (by simpa [Fr.hide,z] using h2)
 ·have:=R.slot i s hs
  cases s with
  | no=>trivial
  | ex=>trivial
  | fz d=>obtain ⟨v,h1,h2⟩:=this; exact ⟨v,h1,Rep.map (pZ hB) (p9 hB) (qa hB) h2⟩
  | own d=>obtain ⟨p,h1,h2,h3⟩:=this; exact ⟨p,h1,by rw [aq (Own.ne h2 hB)]; exact h2,own h2 h3⟩
  | io d=>obtain ⟨p,h1,h2,h3⟩:=this; exact ⟨p,h1,by rw [aq (Own.ne h2 hB)]; exact h2,own h2 h3⟩
  | ro d=>exact (yZ nr hs).elim
 ·have h3:=R.jl i d p h1 h2
  obtain ⟨p',g1,g2,_⟩:=R.slot i _ h1
  rw [h2] at g1; cases g1
  have z:=Own.ne g2 hB
  show (if p=a then _ else F.H p)=none
  rw [if_neg z]; exact h3
 ·have z:q≠a:=fun z=>by rw [z,az] at h; cases h
  rw [aq z] at h ⊢; exact R.cC q xs h
 ·by_cases z:q=a
  ·exact .inr z
  ·rw [aq z] at h; exact .inl (R.nz q o' u h)
theorem Rel.show (R0:∃ B0 H0 σ0 ρ0,Rel F B0 H0 σ0 ρ0∧B0 a=some (.dK kvs)) (R:Rel (F.hide a (.frz o (.dK kvs))) B H σ ρ) (hB:B a=some (.frz o (.dK kvs))) (nr:oB ρ=true):Rel F (upd B a (.dK kvs)) (upd H a (.dK kvs)) σ ρ:=by
 obtain ⟨B0,H0,σ0,ρ0,R0,hB0⟩:=R0
 have own:∀ {p:Addr} {d:D},B p=none->Own B H p d->Own (upd B a (.dK kvs)) (upd H a (.dK kvs)) p d:=fun {p d} hp h=>by
  have z:=Own.ne hp hB
  cases h with
  | lst h r=>exact .lst (by rw [aq z]; exact h) (aP.map (nu hB) (ny hB) (nC hB) r)
  | dct h r=>exact .dct (by rw [aq z]; exact h) (bx.map' (nu hB) (ny hB) (nC hB) r)
 refine ⟨fun q u h=>?_,fun q u h=>?_,fun q u h n=>?_,fun q h1 h2=>?_,R.len,fun i s hs=>?_,R.dist,fun i d p h1 h2=>?_,R.fx,R.ioN,fun q xs h=>?_,R.exv,fun q o' u h=>?_⟩
 ·by_cases z:q=a
  ·subst z; rw [az] at h ⊢; exact h
  ·rw [aq z] at h ⊢; exact R.sub q u h
 ·by_cases z:q=a
  ·subst z
   have:=R0.sB q u h
   rw [hB0] at this
   rw [az]; exact this
  ·rw [aq z]; exact R.sB q u (by simpa [Fr.hide,z] using h)
 ·by_cases z:q=a
  ·subst z
   have:=R0.sH q u h n
   rw [R0.sub q _ hB0] at this
   rw [az]; exact this
  ·rw [aq z]; exact R.sH q u (by simpa [Fr.hide,z] using h) n
 ·by_cases z:q=a
  ·subst z
   have:=R0.nB q h1 h2
   rw [hB0] at this; cases this
  ·rw [aq z]; exact R.nB q (by simpa [Fr.hide,z] using h1) (by simpa [Fr.hide,z] using h2)
 ·have:=R.slot i s hs
  cases s with
  | no=>trivial
  | ex=>trivial
  | fz d=>obtain ⟨v,h1,h2⟩:=this; exact ⟨v,h1,Rep.map (nu hB) (ny hB) (nC hB) h2⟩
  | own d=>obtain ⟨p,h1,h2,h3⟩:=this; exact ⟨p,h1,by rw [aq (Own.ne h2 hB)]; exact h2,own h2 h3⟩
  | io d=>obtain ⟨p,h1,h2,h3⟩:=this; exact ⟨p,h1,by rw [aq (Own.ne h2 hB)]; exact h2,own h2 h3⟩
  | ro d=>exact (yZ nr hs).elim
 ·have h3:=R.jl i d p h1 h2
  obtain ⟨p',g1,g2,_⟩:=R.slot i _ h1
  rw [h2] at g1; cases g1
  have z:=Own.ne g2 hB
  have:(if p=a then (F.H a).map fun _=>HO.frz o (.dK kvs) else F.H p)=none:=h3
  rw [if_neg z] at this; exact this
 ·have z:q≠a:=fun z=>by rw [z,az] at h; cases h
  rw [aq z] at h ⊢; exact R.cC q xs h
 ·have z:q≠a:=fun z=>by rw [z,az] at h; cases h
  rw [aq z] at h
  rcases R.nz q o' u h with w | w
  ·exact w
  ·exact absurd w z
end
theorem Cc {G B:Hp} {a:Addr} {o:Obj} {kvs:List (Key × V)} {es:List (D × D)} (h:G a=some (.frz o (.dK kvs))) (r:bx B kvs es):l4 G B (ItD a o kvs) (es.map (·.1)):=fun H s=>by
 have h':=s _ _ h
 have hl:=r.length
 refine ⟨⟨h',by rw [List.length_map]; omega⟩,fun i d hd=>?_⟩
 have hi:i < es.length:=by have:=(List.getElem?_eq_some_iff.mp hd).1; rwa [List.length_map] at this
 refine ⟨⟨h',by omega⟩,fun x H' hy=>?_⟩
 obtain ⟨rfl,k,v,hk,rfl⟩:=hy
 refine .inl ⟨rfl,?_⟩
 have kr:=pY r
 obtain ⟨w,h1,h2⟩:=kr.get i d hd
 have e:(kvs.map fun q=>kV q.1)[i]?=some (kV k):=by rw [List.getElem?_map,hk]; rfl
 rw [e] at h1
 cases h1
 exact h2
theorem Cd {tg:TG} {tb:TS} {g:D->Rho->Option Rho} {b:SM} (hg:MG tg g) (hb:MS tb b) {F:Fr} {B1 H1:Hp} {σ:St} {ρ1:Rho} {J:It} {ds:List D} {o:Out} {D:Ends} (R1:Rel F B1 H1 σ ρ1) (I1:l4 B1 B1 J ds) (e:forL g b ds ρ1=some o) (q:k7 F D o) :
  ∃ W:Nat->Nat->St->Hp->Prop,(∃ m,W 0 m σ H1)∧∀ i m σ H,W i m σ H->(J.stop i H∧D.nx σ H)∨(J.go i H∧∃ N:St->Hp->Prop,(∀ σ' H',N σ' H'->∃ m',m' < m∧W (i + 1) m' σ' H')∧∀ x H',J.yld i H x H'->tg x σ H' fun σ2 H2=>tb { D with nx:=N,ct:=N,bk:=D.nx } σ2 H2):=by
 have q':=q.down R1
 refine ⟨fun i m σ H=>m=ds.length - i∧i≤ds.length∧∃ B ρ,Rel ⟨B1,F.H,F.io,F.Z⟩ B H σ ρ∧forL g b (ds.drop i) ρ=some o,⟨ds.length,rfl,Nat.zero_le _,B1,ρ1,R1.down,e⟩,?_⟩
 rintro i m σ2 H2 ⟨rfl,hil,B2,ρ2,R2,e2⟩
 have sH:aC B1 H2:=R2.sB.trans R2.sub
 by_cases hlt:i < ds.length
 ·refine .inr ?_
  obtain ⟨go,yl⟩:=(I1 H2 sH).2 i ds[i] (List.getElem?_eq_getElem hlt)
  rw [List.drop_eq_getElem_cons hlt] at e2
  obtain ⟨ρ3,e3,e4⟩:=Option.bind_eq_some_iff.mp (show (g ds[i] ρ2).bind _=some o from e2)
  obtain ⟨w,e5,e6⟩:=Option.bind_eq_some_iff.mp e4
  refine ⟨go,fun σ' H'=>∃ B' ρ',Rel ⟨B1,F.H,F.io,F.Z⟩ B' H' σ' ρ'∧forL g b (ds.drop (i + 1)) ρ'=some o,fun σ' H' h'=>⟨ds.length - (i + 1),by omega,rfl,hlt,h'⟩,fun y H3 hy=>?_⟩
  have had:∃ B3,Rel ⟨B1,F.H,F.io,F.Z⟩ B3 H3 σ2 ρ2∧Rep B3 y ds[i]:=by
   rcases yl y H3 hy with ⟨rfl,h2⟩ | ⟨p,xs,cs,h1,rfl,h3,rfl,h5⟩
   ·exact ⟨B2,R2,h2.mono R2.sB⟩
   ·obtain ⟨R3,E3,e3⟩:=R2.qS (xs:=xs) h3
    exact ⟨_,R3,by rw [h1]; exact .tup az (h5.mono (R2.sB.trans e3))⟩
  obtain ⟨B3,R3,rp⟩:=had
  refine hg _ B3 H3 σ2 ρ2 y ds[i] ρ3 _ R3 rp e3 fun B4 H4 σ4 R4 _=>?_
  refine hb _ B4 H4 σ4 ρ3 w _ R4 e5 ?_
  cases w with
  | nx ρ'=>exact fun B' H' σ' R'=>⟨B',ρ',R',e6⟩
  | ct ρ'=>exact fun B' H' σ' R'=>⟨B',ρ',R',e6⟩
  | bk ρ'=>cases e6; exact q'
  | rt r ρ'=>cases e6; exact q'
 ·have hi':i=ds.length:=by omega
  subst hi'
  rw [List.drop_length] at e2
  cases e2
  exact .inl ⟨(I1 H2 sH).1,q' B2 H2 σ2 R2⟩
def Hi:Out->Rho
 | .nx ρ=>ρ
 | .rt _ ρ=>ρ
 | .bk ρ=>ρ
 | .ct ρ=>ρ
def sg:RV->Option (List (D × D))
 | (.dict es,.fz)=>some es
 | _=>none
theorem vx {r:RV} {es:List (D × D)} (h:sg r=some es):r=(.dict es,.fz):=by
 unfold sg at h
 split at h
 ·cases h; rfl
 ·cases h
def Calm (tl:TE) (dv:PM):Prop:=∀ (F:Fr) (B H:Hp) (σ:St) (ρ:Rho) (r:RV) (ρ':Rho),Rel F B H σ ρ->dv ρ=some (r,ρ')->ρ'=ρ∧∃ v,Rep B v r.1∧(∀ Q:VK,Q v H->tl σ H Q)∧∀ a o kvs,B a=some (.dK kvs)->∀ Q:VK,Q v (upd H a (.frz o (.dK kvs)))->tl σ (upd H a (.frz o (.dK kvs))) Q
def vy (i:Nat):PM:=fun ρ=>match ρ[i]? with
 | some (.fz d)=>some ((d,.fz),ρ)
 | _=>none
theorem vz {i:Nat}:Calm (lz i) (vy i):=by
 intro F B H σ ρ r ρ' R e
 unfold vy at e
 split at e
 ·rename_i d h
  cases e
  obtain ⟨v,h1,h2⟩:=R.slot i _ h
  exact ⟨rfl,v,h2,fun Q q=>⟨v,h1,q⟩,fun a o kvs _ Q q=>⟨v,h1,q⟩⟩
 ·cases e
def Hj (dv:PM) (j:Nat):PM:=fun ρ=>(dv ρ).bind fun x=>match x.1.1 with
 | .tuple ds=>(ds[j]?).map fun d=>((d,.fz),x.2)
 | _=>none
theorem En {K:PySem.W.Frag} {tl:TE} {dv:PM} {j:Nat} (h:Calm tl dv):Calm (tOp (rIx K) tl (tC (.int (j:Int)))) (Hj dv j):=by
 intro F B H σ ρ r ρ' R e
 obtain ⟨x,e1,e⟩:=Option.bind_eq_some_iff.mp e
 obtain ⟨⟨c,k⟩,ρ1⟩:=x
 cases c with
 | tuple ds =>
  obtain ⟨d,e2,e⟩:=Option.map_eq_some_iff.mp (show (ds[j]?).map _=some (r,ρ') from e)
  cases e
  obtain ⟨rfl,v,rv,h1,h2⟩:=h F B H σ ρ _ _ R e1
  refine ⟨rfl,?_⟩
  cases rv with
  | @tup p xs _ hp rp =>
   obtain ⟨w,g1,g2⟩:=rp.get j d e2
   have at1:atI xs (j:Int)=some w:=by
    have hl:j < xs.length:=(List.getElem?_eq_some_iff.mp g1).1
    unfold atI
    have:ixN xs.length (j:Int)=some j:=DQ hl
    rw [this]; exact g1
   refine ⟨w,g2,fun Q q=>h1 _ (.inr (.inl ⟨p,xs,(j:Int),w,rfl,rfl,.inl (.inl (R.sub _ _ hp)),at1,q⟩)),fun a o kvs ha Q q=>h2 a o kvs ha _ (.inr (.inl ⟨p,xs,(j:Int),w,rfl,rfl,.inl (.inl ?_),at1,q⟩))⟩
   rw [aq (fun z=>by rw [z,ha] at hp; cases hp)]
   exact R.sub _ _ hp
 | _=>cases e
theorem Own.show {B H:Hp} {a p:Addr} {o:Obj} {kvs:List (Key × V)} {d:D} (hB:B a=some (.frz o (.dK kvs))) (z:p≠a) (h:Own B H p d):Own (upd B a (.dK kvs)) (upd H a (.dK kvs)) p d:=by
 cases h with
 | lst h r=>exact .lst (by rw [aq z]; exact h) (aP.map (nu hB) (ny hB) (nC hB) r)
 | dct h r=>exact .dct (by rw [aq z]; exact h) (bx.map' (nu hB) (ny hB) (nC hB) r)
theorem vA {F:Fr} {B H:Hp} {σ:St} {ρ:Rho} {a:Addr} {o:Obj} {kvs:List (Key × V)} {v:V} {r:RV} (hB:B a=some (.frz o (.dK kvs))) (hH:H a=some (.frz o (.dK kvs))) (V:Val (F.hide a (.frz o (.dK kvs))) B H σ ρ v r):Val F (upd B a (.dK kvs)) (upd H a (.dK kvs)) σ ρ v r:=by
 obtain ⟨c,k⟩:=r
 cases k with
 | fz=>exact Rep.map (nu hB) (ny hB) (nC hB) V
 | new =>
  obtain ⟨p,rfl,h1,h2,h3,h4⟩:=V
  have z:=Own.ne h1 hB
  refine ⟨p,rfl,by rw [aq z]; exact h1,?_,Own.show hB z h3,h4⟩
  have:(if p=a then (F.H a).map fun _=>HO.frz o (.dK kvs) else F.H p)=none:=h2
  rw [if_neg z] at this; exact this
 | «at» i=>exact V
 | ro =>
  obtain ⟨p,rfl,h1,h2⟩:=V
  have z:p≠a:=fun z=>by
   subst z
   cases h1 with
   | lst h _=>rw [hH] at h; cases h
   | dct h _=>rw [hH] at h; cases h
  exact ⟨p,rfl,Own.show hB z h1,h2⟩
theorem Ce {F:Fr} {B0 H0:Hp} {σ0:St} {ρ0:Rho} {a:Addr} {ob:Obj} {kvs:List (Key × V)} (R0:Rel F B0 H0 σ0 ρ0) (hB:B0 a=some (.dK kvs)) {o:Out} {D:Ends} (nr:oB (Hi o)=true) (q:k7 F D o):k7 ⟨upd B0 a (.frz ob (.dK kvs)),(F.hide a (.frz ob (.dK kvs))).H,F.io,(F.hide a (.frz ob (.dK kvs))).Z⟩ (Jb a ob kvs D) o:=by
 have up:∀ {B H σ ρ},Rel ⟨upd B0 a (.frz ob (.dK kvs)),(F.hide a (.frz ob (.dK kvs))).H,F.io,(F.hide a (.frz ob (.dK kvs))).Z⟩ B H σ ρ->Rel (F.hide a (.frz ob (.dK kvs))) B H σ ρ∧B a=some (.frz ob (.dK kvs)):=fun {B H σ ρ} R=>by
  refine ⟨⟨R.sub,fun q u h=>R.sB q u ?_,R.sH,fun q h z=>R.nB q h ?_,R.len,R.slot,R.dist,R.jl,R.fx,R.ioN,R.cC,R.exv,R.nz⟩,R.sB a _ az⟩
  ·show upd B0 a _ q=some u
   by_cases w:q=a
   ·subst w
    have e:(∃ x,F.B q=some x)∧HO.frz ob (HO.dK kvs)=u:=by simpa [Fr.hide] using h
    rw [az,e.2]
   ·rw [aq w]; exact R0.sB q u (by simpa [Fr.hide,w] using h)
  ·show upd B0 a _ q=none
   by_cases w:q=a
   ·subst w
    have g1:F.H q≠none:=fun y=>h (by simp [Fr.hide,y])
    have g2:F.B q=none:=by simpa [Fr.hide] using z
    have:=R0.nB q g1 g2
    rw [hB] at this; cases this
   ·rw [aq w]; exact R0.nB q (by simpa [Fr.hide,w] using h) (by simpa [Fr.hide,w] using z)
 cases o with
 | nx ρ=>exact fun B H σ R=>⟨R.sub a _ (up R).2,q _ _ _ (Rel.show ⟨_,_,_,_,R0,hB⟩ (up R).1 (up R).2 nr)⟩
 | bk ρ=>exact fun B H σ R=>⟨R.sub a _ (up R).2,q _ _ _ (Rel.show ⟨_,_,_,_,R0,hB⟩ (up R).1 (up R).2 nr)⟩
 | ct ρ=>exact fun B H σ R=>⟨R.sub a _ (up R).2,q _ _ _ (Rel.show ⟨_,_,_,_,R0,hB⟩ (up R).1 (up R).2 nr)⟩
 | rt r ρ=>exact fun v B H σ R V=>⟨R.sub a _ (up R).2,q _ _ _ _ (Rel.show ⟨_,_,_,_,R0,hB⟩ (up R).1 (up R).2 nr) (vA (up R).2 (R.sub a _ (up R).2) V)⟩
def Cf (t:TS):TS:=fun D σ H=>FD t D σ H∨t D σ H
theorem _root_.L2.y0 {X:Cx} {st:Stmt} {t:TS} (h:PS X st t):PS X st (Cf t):=by
 intro pins s σ H D I hw
 rcases hw with hw | hw
 ·exact Hh h pins s σ H D I hw
 ·exact h pins s σ H D I hw
end Mir
namespace Mir
open PySem L2
variable [Zc]
theorem FE {fr:List (Str × Nat)} {tc:TT} {te:TE} {c:Rho->Option (Bool × Rho)} {e:PM} (hc:MT tc c) (he:ME te e) {F:Fr} {B1 H1:Hp} {σ:St} {ρ1:Rho} {J:It} {ds out:List D} {Q:VK} (R1:Rel F B1 H1 σ ρ1) (I1:l4 H1 B1 J ds) (e2:jV c e (fr.map fun p=>cI ρ1 p.2) ds=some out) (hz:out.length < sizeLine)
  (q:∀ v B' H',Ext σ ρ1 B1 H1 ρ1 B' H'->Rel F B' H' σ ρ1->Val F B' H' σ ρ1 v (.list out,.new)->(∀ p,Kd.new=Kd.new->v=.ref p->H1 p=none)->Q v H') :
  ∃ W:Nat->Nat->List V->Hp->Prop,(∃ m,W 0 m [] H1)∧∀ i m ys H2,W i m ys H2->ys.length < sizeLine ∧
 ((J.stop i H2∧∀ D,H2 D=none->Q (.ref D) (upd H2 D (.lst ys))) ∨
  (J.go i H2∧∀ v H3,J.yld i H2 v H3->tc (some v::bw σ fr) H3 fun b H4 =>
   if b=true then te (some v::bw σ fr) H4 fun y H5=>∃ m',m' < m∧W (i + 1) m' (ys++[y]) H5 else ∃ m',m' < m∧W (i + 1) m' ys H4)):=by
 refine ⟨fun i m ys H2=>m=ds.length - i∧i≤ds.length∧∃ B2 done rest,aC B1 B2∧aC H1 H2∧(∀ q,H1 q≠none->B1 q=none->B2 q=none)∧Rel F B2 H2 σ ρ1∧aP B2 ys done∧jV c e (fr.map fun p=>cI ρ1 p.2) (ds.drop i)=some rest∧done++rest=out,
  ⟨ds.length,rfl,Nat.zero_le _,B1,[],out,aC.refl _,aC.refl _,fun _ _ z=>z,R1,.nil,e2,rfl⟩,?_⟩
 rintro i m ys H2 ⟨rfl,hil,B2,done,rest,eB,eH,nb,R2,rp,hcl,hdr⟩
 have hlen:ys.length≤out.length:=by rw [← hdr,List.length_append,rp.length]; omega
 refine ⟨by omega,?_⟩
 by_cases hlt:i < ds.length
 ·refine .inr ?_
  obtain ⟨go,yl⟩:=(I1 H2 eH).2 i ds[i] (List.getElem?_eq_getElem hlt)
  refine ⟨go,fun v H3 hy=>?_⟩
  rw [List.drop_eq_getElem_cons hlt] at hcl
  obtain ⟨b,c1,c2⟩:=Option.bind_eq_some_iff.mp (show (c (.fz ds[i]::fr.map fun p=>cI ρ1 p.2)).bind _=some rest from hcl)
  have had:∃ B3,aC B2 B3∧aC H2 H3∧(∀ q,H2 q≠none->B2 q=none->B3 q=none)∧Rel F B3 H3 σ ρ1∧Rep B3 v ds[i]:=by
   rcases yl v H3 hy with ⟨rfl,h2⟩ | ⟨p,xs,cs,h1,rfl,h3,rfl,h5⟩
   ·exact ⟨B2,aC.refl _,aC.refl _,fun _ _ z=>z,R2,h2.mono eB⟩
   ·obtain ⟨R3,E3,e3⟩:=R2.qS (xs:=xs) h3
    refine ⟨_,e3,eG h3,fun q h z=>?_,R3,?_⟩
    ·rw [aq (show q≠p from fun y=>h (by rw [y]; exact h3))]; exact z
    ·rw [h1]; exact .tup az (h5.mono (eB.trans e3))
  obtain ⟨B3,eB3,eH3,nb3,R3,rv⟩:=had
  have Ri:=R3.inner fr rv
  refine hc (F0 H3) B3 H3 _ _ b.1 b.2 _ Ri c1 fun B4 H4 E4 R4=>?_
  obtain ⟨eH4,nb4⟩:=jm ib E4
  have R4o:Rel F B4 H4 σ ρ1:=R3.grow E4.sB eH4 R4.sub nb4 R4.cC R4.nz
  have nbA:∀ q,H1 q≠none->B1 q=none->B4 q=none:=fun q h z=>by
   have h2:H2 q≠none:=fun y=>h (eH.free y)
   have h3:H3 q≠none:=fun y=>h2 (eH3.free y)
   exact nb4 q h3 (nb3 q h2 (nb q h z))
  cases hb:b.1 with
  | false =>
   rw [hb,if_neg Bool.false_ne_true] at c2
   rw [if_neg Bool.false_ne_true]
   exact ⟨ds.length - (i + 1),by omega,rfl,hlt,B4,done,rest,eB.trans (eB3.trans E4.sB),eH.trans (eH3.trans eH4),nbA,R4o,rp.mono (eB3.trans E4.sB),c2,hdr⟩
  | true =>
   rw [hb,if_pos rfl] at c2
   rw [if_pos rfl]
   obtain ⟨y,c3,c2⟩:=Option.bind_eq_some_iff.mp c2
   obtain ⟨z,c4,c2⟩:=Option.bind_eq_some_iff.mp c2
   obtain ⟨rest',c5,c6⟩:=Option.map_eq_some_iff.mp c2
   subst c6
   have Ri4:=R4o.inner fr (rv.mono E4.sB)
   refine he.sv (F0 H4) B4 H4 _ _ y.1 y.2 _ Ri4 c3 fun u B5 H5 E5 R5 V5 N5=>?_
   obtain ⟨eH5,nb5⟩:=jm ib E5
   have R5o:Rel F B5 H5 σ ρ1:=R4o.grow E5.sB eH5 R5.sub nb5 R5.cC R5.nz
   rw [Bm c4] at V5
   refine ⟨ds.length - (i + 1),by omega,rfl,hlt,B5,done++[z],rest',eB.trans (eB3.trans (E4.sB.trans E5.sB)),eH.trans (eH3.trans (eH4.trans eH5)),fun q h w=>?_,R5o,(rp.mono (eB3.trans (E4.sB.trans E5.sB))).append (.cons V5 .nil),c5,by rw [List.append_assoc]; exact hdr⟩
   have h2:H2 q≠none:=fun y=>h (eH.free y)
   have h3:H3 q≠none:=fun y=>h2 (eH3.free y)
   have h4:H4 q≠none:=fun y=>h3 (eH4.free y)
   exact nb5 q h4 (nbA q h w)
 ·have hi':i=ds.length:=by omega
  subst hi'
  refine .inl ⟨(I1 H2 eH).1,fun p hp=>?_⟩
  rw [List.drop_length] at hcl
  cases hcl
  rw [List.append_nil] at hdr
  subst hdr
  have E2:Ext σ ρ1 B1 H1 ρ1 B2 H2:=Ext.grow eB eH nb
  have:=gg (res:=(.list done,true)) (k:=fun Q=>∀ p,H2 p=none->Q (.ref p) (upd H2 p (.lst ys))) (Q:=Q) R2 ⟨ys,rp,fun Q h=>h⟩ fun v B' H' E R' V' N=>q v B' H' (E2.trans E) R' V' fun p z1 z2=>E2.live p (N p z1 z2)
  exact this p hp
noncomputable def Cg (fr:List (Str × Nat)) (dv:PM) (c:Rho->Option (Bool × Rho)) (e:PM):PM:=fun ρ=>(dv ρ).bind fun x=>(sg x.1).bind fun es=>if oB ρ=true then (jV c e (fr.map fun p=>cI ρ p.2) (es.map (·.1))).bind fun out=>cIf (out.length < sizeLine) (some ((.list out,.new),ρ)) none else none
def Hk (t:TE):TE:=fun σ H Q=>Jc t σ H Q∨t σ H Q
theorem Hl {fr:List (Str × Nat)} {tl:TE} {tc:TT} {te:TE} {dv:PM} {c:Rho->Option (Bool × Rho)} {e:PM} (hd:Calm tl dv) (hc:MT tc c) (he:ME te e):ME (Hk (tLC fr (Je tl) tc te)) (Cg fr dv c e):=by
 intro F B H σ ρ r0 ρ' Q R e0 q
 obtain ⟨x,e1,e0⟩:=Option.bind_eq_some_iff.mp e0
 obtain ⟨es,e2,e0⟩:=Option.bind_eq_some_iff.mp e0
 split at e0
 rotate_left
 ·cases e0
 rename_i nr
 obtain ⟨out,e3,e0⟩:=Option.bind_eq_some_iff.mp e0
 obtain ⟨hz,e0⟩:=cH e0
 cases e0
 obtain ⟨r,ρ1⟩:=x
 obtain ⟨_,v,rv,h1,h2⟩:=hd F B H σ ρ r ρ1 R e1
 obtain rfl:=vx e2
 cases rv with
 | @dct a kvs _ hdd rk =>
  rcases hdd with hdd | ⟨ob,hdd⟩
  ·refine .inl ⟨a,kvs,R.sub a _ hdd,fun ob=>?_⟩
   have R':=R.hide (o:=ob) hdd nr
   refine h2 a ob kvs hdd _ ⟨a,ob,kvs,rfl,az,?_⟩
   refine FE (Q:=fun v H'=>H' a=some (.frz ob (.dK kvs))∧Q v (upd H' a (.dK kvs))) hc he R' (Cc az (bx.map' (pZ hdd) (p9 hdd) (qa hdd) rk)) e3 hz fun w B' H' E' RR V' N'=>?_
   have hB':B' a=some (.frz ob (.dK kvs)):=E'.sB a _ az
   have hH':=RR.sub a _ hB'
   refine ⟨hH',q w _ _ ?_ (Rel.show ⟨_,_,_,_,R,hdd⟩ RR hB' nr) (vA hB' hH' V') fun p z1 z2=>?_⟩
   ·refine ⟨fun p u h=>?_,fun p u h n=>?_,E'.own,E'.ref,fun p h=>?_⟩
    ·by_cases z:p=a
     ·subst z; rw [az,← hdd]; exact h
     ·rw [aq z]; exact E'.sB p u (by rw [aq z]; exact h)
    ·by_cases z:p=a
     ·subst z
      rw [R.sub p _ hdd] at h
      exact ⟨by rw [az]; exact h,fun y=>by rw [hdd] at y; cases y⟩
     ·obtain ⟨k1,k2⟩:=E'.keep p u (by rw [aq z]; exact h) n
      exact ⟨by rw [aq z]; exact k1,fun y=>by rw [aq z]; exact k2 (by rw [aq z]; exact y)⟩
    ·have z:p≠a:=fun z=>by rw [z,az] at h; cases h
     rw [aq z] at h
     have:=E'.live p h
     rw [aq z] at this; exact this
   ·have:=N' p rfl z2
    have z:p≠a:=fun z=>by rw [z,az] at this; cases this
    rw [aq z] at this; exact this
  ·exact .inr (h1 _ ⟨a,ob,kvs,rfl,R.sub a _ hdd,FE hc he R (Cc (R.sub a _ hdd) rk) e3 hz q⟩)
end Mir
namespace L2
open PySem PySem.Spec PyProof.Rows
section
variable {X:Cx} {K:PySem.W.Frag}
def FG (K:PySem.W.Frag):List V->Hp->VK->Prop:=fun xs H Q=>∃ p ys,xs=[V.ref p]∧((SqL K H p ys∧∀ l,H l=none->Q (.ref l) (upd H l (.tup ys)))∨(SqT K H p ys∧Q (.ref p) H))
theorem km (h:X.K=K):dU X (.type "tuple") (FG K):=h ▸ qQ
def FH:V->List V->Hp->VK->Prop:=fun x vs H Q=>∃ (l:Addr) (zs:List Str) (z:Str) (j:Nat),x=.ref l∧vs=[.str z]∧H l=some (.lst (zs.map V.str))∧zs[j]?=some z∧(∀ m,m < j->zs[m]?≠some z)∧Q .non (upd H l (.lst ((zs.eraseIdx j).map V.str)))
theorem Vals.erase:∀ {xs:List V} {us:List Value} (j:Nat),Vals xs us->Vals (xs.eraseIdx j) (us.eraseIdx j)
 | _,_,_,.nil=>.nil
 | _,_,0,.cons _ t=>t
 | _,_,j + 1,.cons h t=>.cons h (Vals.erase j t)
theorem tN {α β:Type} (f : α->β):∀ (l:List α) (j:Nat),(l.eraseIdx j).map f=(l.map f).eraseIdx j
 | [],_=>rfl
 | _::_,0=>rfl
 | a::l,j + 1=>by
  show f a::(l.eraseIdx j).map f=f a::(l.map f).eraseIdx j
  rw [tN f l j]
def eqS (z:Str):Value->Bool
 | .str a _=>a == z
 | _=>false
theorem tO:∀ {zs:List Str} {us:List Value},Vals (zs.map V.str) us->∀ (i:Nat) (u:Value),us[i]?=some u->∃ a t,zs[i]?=some a∧u=.str a t
 | [],us,h,i,u,e=>by cases h; simp at e
 | a::zs,us,h,i,u,e=>by
  cases h with
  | cons h1 t =>
   cases i with
   | zero =>
    obtain ⟨tk,rfl⟩:=h1
    have:u=.str a tk:=by simpa using e.symm
    exact ⟨a,tk,rfl,this⟩
   | succ i=>simpa using tO t i u (by simpa using e)
theorem Eo:MtM X "list.remove" FH:=by
 intro pins s σ H x vs v us Q I rx rv h
 obtain ⟨l,zs,z,j,rfl,rfl,hH,hj,hno,q⟩:=h
 cases rx
 obtain ⟨u,rfl,ru⟩:=rv.one
 obtain ⟨tk,rfl⟩:=ru
 obtain ⟨hz,its,n,r,hl,e⟩:=I.AV hH
 have hlen:its.length=zs.length:=by rw [← r.length,List.length_map]
 have hjz:j < zs.length:=(List.getElem?_eq_some_iff.mp hj).1
 refine call_meets F.slot_list_remove ⟨_,e,rfl⟩ F.entry_list_remove (F.args_list_remove_2 _ _) (PySem.MeetsSeq.list_remove l its.toArray n (.str z tk) (eqS z) (fun y hy=>?_) j (by rw [List.size_toArray]; omega) ?_ (fun m hm hmj=>?_) (by rw [List.size_toArray,hlen]; rwa [List.length_map] at hz)) ⟨e,?_⟩
 ·obtain ⟨i,hi,rfl⟩:=List.getElem_of_mem (show y∈its by simpa using hy)
  obtain ⟨a,t,_,ha⟩:=tO r i its[i] (List.getElem?_eq_getElem hi)
  rw [ha]
  exact eqGives_str a z t tk
 ·have hji:j < its.length:=by omega
  obtain ⟨a,t,h1,ha⟩:=tO r j its[j] (List.getElem?_eq_getElem hji)
  show eqS z (its.toArray[j]'(by simpa using hji))=true
  have:its.toArray[j]'(by simpa using hji)=its[j]:=by simp
  rw [this,ha]
  rw [hj] at h1
  cases h1
  simp [eqS]
 ·have hmi:m < its.length:=by simpa using hm
  obtain ⟨a,t,h1,ha⟩:=tO r m its[m] (List.getElem?_eq_getElem hmi)
  have:its.toArray[m]'hm=its[m]:=by simp
  rw [this,ha]
  have ne:a≠z:=fun w=>hno m hmj (by rw [h1,w])
  simp [eqS,ne]
 ·refine ⟨.non,_,I.Dw (its':=its.eraseIdx j) hH e (by simp) ?_ ?_,rfl,q⟩
  ·have:=Vals.erase j r
   rwa [← tN] at this
  ·rw [List.length_map]
   have:=List.length_eraseIdx_le zs j
   rw [List.length_map] at hz
   omega
end
end L2
namespace Mir
open PySem L2
variable [Zc]
def qb:List D->Option (List Str)
 | []=>some []
 | .str z::r=>(qb r).map (z::·)
 | _=>none
def vB:List Str->Str->Option Nat
 | [],_=>none
 | a::l,z=>if a=z then some 0 else (vB l z).map (· + 1)
theorem y3 {z:Str}:∀ {zs:List Str} {j:Nat},vB zs z=some j->zs[j]?=some z∧∀ m,m < j->zs[m]?≠some z
 | [],j,h=>by cases h
 | a::l,j,h=>by
  by_cases e:a=z
  ·have:vB (a::l) z=some 0:=if_pos e
   rw [this] at h; cases h
   exact ⟨by rw [e]; rfl,fun m hm=>by omega⟩
  ·have:vB (a::l) z=(vB l z).map (· + 1):=if_neg e
   rw [this] at h
   obtain ⟨i,h1,rfl⟩:=Option.map_eq_some_iff.mp h
   obtain ⟨g1,g2⟩:=y3 h1
   refine ⟨g1,fun m hm=>?_⟩
   cases m with
   | zero=>exact fun w=>e (by simpa using w)
   | succ m=>exact g2 m (by omega)
theorem vC {B:Hp}:∀ {xs:List V} {ds:List D} {zs:List Str},aP B xs ds->qb ds=some zs->xs=zs.map V.str
 | _,_,_,.nil,h=>by cases h; rfl
 | _,_,zs,.cons (d:=d) hx r,h=>by
  cases d with
  | str z =>
   obtain ⟨ms,h1,h2⟩:=Option.map_eq_some_iff.mp (show (qb _).map (z::·)=some zs from h)
   subst h2
   cases hx
   rw [List.map_cons,vC r h1]
  | _=>cases h
def oS (ds:List D):List D->Option (List D × D)
 | [.str z]=>(qb ds).bind fun zs=>(vB zs z).map fun j=>(ds.eraseIdx j,.none)
 | _=>none
theorem Ci:uU FH oS:=by
 intro B H p xs ds vs as w hp rx s rv e
 unfold oS at e
 split at e
 ·rename_i z
  obtain ⟨zs,e1,e⟩:=Option.bind_eq_some_iff.mp e
  obtain ⟨j,e2,e⟩:=Option.map_eq_some_iff.mp e
  cases e
  cases rv with
  | cons a b =>
   cases b
   cases a
   obtain rfl:=vC rx e1
   obtain ⟨g1,g2⟩:=y3 e2
   refine ⟨(zs.eraseIdx j).map V.str,.non,?_,.non,fun Q q=>⟨p,zs,z,j,rfl,rfl,hp,g1,g2,q⟩⟩
   have:=aP.eraseIdx j rx
   rwa [← tN] at this
 ·cases e
def qc:List D->Option (D × Bool)
 | [.list ds]=>some (.tuple ds,true)
 | [.tuple ds]=>some (.tuple ds,false)
 | _=>none
theorem tP {K:PySem.W.Frag}:lZ (FG K) qc:=by
 intro B H vs ds res s h e
 unfold qc at e
 split at e
 ·cases e
  obtain ⟨v,rfl,hh⟩:=i4 h
  obtain ⟨p,xs,rfl,r1,rp1⟩:=hh.list s
  exact ⟨xs,rp1,fun Q q=>⟨p,xs,rfl,.inl ⟨jU r1,q⟩⟩⟩
 ·cases e
  obtain ⟨v,rfl,hh⟩:=i4 h
  rcases hh with hh | ⟨p,rfl,hh⟩
  ·cases hh with
   | @tup p xs _ h1 h2=>exact ⟨.ref p,.tup h1 h2,fun Q q=>⟨p,xs,rfl,.inr ⟨.inl (.inl (s _ _ h1)),q⟩⟩⟩
  ·cases hh
 ·cases e
noncomputable def tQ:D->D->Option (D × Bool)
 | .str z,.int i=>cIf (z.length≤sizeLine) ((atI z.cps.toList i).map fun c=>(.str ⟨#[c]⟩,false)) none
 | c,d=>gIx c d
theorem FI {K:PySem.W.Frag}:OpJ (rIx K) tQ:=by
 intro B H x y c d res s hx hy e
 unfold tQ at e
 split at e
 ·obtain ⟨hz,e⟩:=cH e
  obtain ⟨w,h1,h2⟩:=Option.map_eq_some_iff.mp e
  cases h2
  rcases hx with hx | ⟨p,_,hx⟩
  ·cases hx
   rcases hy with hy | ⟨p,_,hy⟩
   ·cases hy
    exact ⟨.str ⟨#[w]⟩,.str _,fun Q q=>.inr (.inr ⟨_,_,w,rfl,rfl,hz,h1,q⟩)⟩
   ·cases hy
  ·cases hx
 ·exact bT B H x y _ _ res s hx hy e
end Mir
namespace L2
open PySem PySem.Spec PyProof.Rows
def Ite (K:PySem.W.Frag) (a:Addr):It :=
 ⟨fun i H=>∃ xs x,SqL K H a xs∧xs[i]?=some x,
  fun i H v H'=>∃ p x,v=.ref p∧H p=none∧H'=upd H p (.tup [.int i,x])∧∀ xs,SqL K H a xs->xs[i]?=some x,
  fun i H=>∃ xs,SqL K H a xs∧xs.length≤i⟩
theorem Ab {P:Program} {w:World} {K:PySem.W.Frag} {elts:List Expr} {cx} {pos:Pos} {e it l:Addr} (hei:e≠it) :
  Turn P w K (.Tuple elts cx pos) (Ite K l) [e,it] e (fun i h=>(∃ old,IsEnum h e it ((i:Nat):Int) old)∧h.IsListIter it l i) where
 mem:=by simp
 obj:=fun i h st b hb=>by
  obtain ⟨⟨old,he⟩,⟨o1,g1,c1,d1⟩⟩:=st
  simp only [List.mem_cons,List.not_mem_nil,or_false] at hb
  rcases hb with rfl | rfl
  ·exact ⟨_,he,fun v e=>by cases e⟩
  ·exact ⟨_,g1,fun v e=>by rw [d1] at e; cases e⟩
 keep:=fun i h h' st k=>by
  obtain ⟨⟨old,he⟩,h1⟩:=st
  exact ⟨⟨old,k e (by simp) _ he⟩,h1.at fun o x=>k it (by simp) o x⟩
 item:=by
  intro X hP hw hK hc i pins s σ H E I hf st hg
  subst hP hw hK
  obtain ⟨⟨old,he⟩,h1⟩:=st
  obtain ⟨xs,x,q1,hx⟩:=hg
  obtain ⟨us,r1,p1,_⟩:=I.list q1
  obtain ⟨u,hu,ru⟩:=r1.get hx
  have lt:∀ b∈[e,it],b < s.heap.objs.size:=fun b hb=>by
   obtain ⟨o1,g1,_,_⟩:=id h1
   simp only [List.mem_cons,List.not_mem_nil,or_false] at hb
   rcases hb with rfl | rfl
   ·exact Heap.lt_size he
   ·exact Heap.lt_size g1
  refine wpAny_pyNext_enum_item he h1 p1.isList (x:=u) (by simpa using hu) hei fun h' heo h1' hT hsz hk=>?_
  refine ⟨_,rfl,wpAny_letOwnedTupleGo_enum (s:={ s with heap:=h',toks:=s.toks + 1 }) heo fun h3 he3 sb=>?_⟩
  have hfr:H s.heap.objs.size=none:=I.hok.fresh (Nat.le_refl _)
  have up:∀ b o,b≠e->h'.get? b=some o->h3.get? b=some o:=fun b o hb x=>(sb.2 b hb).trans x
  have IA:Inv X pins σ (upd H s.heap.objs.size (.tup [.int i,x])) { s with heap:=s.heap.push { cls:=.type "tuple",data:=.seq #[.int i s.toks,u] },toks:=s.toks + 1 } :=
   I.laid (fun b o e=>Heap.get?_push_of_some _ e) (Nat.le_refl _) (b9.Ba (its:=[.int i s.toks,u]) (by simp only [List.length_cons,List.length_nil,sizeLine]; omega) (.cons ⟨_,rfl⟩ (.cons ru .nil)))
  have IB:Inv X pins σ (upd H s.heap.objs.size (.tup [.int i,x])) { s with heap:=h3,toks:=s.toks + 1 }:=by
   refine Inv.tq (s:={ s with heap:=s.heap.push { cls:=.type "tuple",data:=.seq #[.int i s.toks,u] },toks:=s.toks + 1 }) (h':=h3) (t':=s.toks + 1) (fp:=[e,it]) IA (fun b o hb g=>?_) (fun b hb=>?_)
   ·simp only [List.mem_cons,List.not_mem_nil,or_false,not_or] at hb
    obtain ⟨b1,b2⟩:=hb
    refine up b o b1 ?_
    by_cases eb:b=s.heap.objs.size
    ·subst eb
     have e':(s.heap.push { cls:=.type "tuple",data:=.seq #[.int i s.toks,u] }).get? s.heap.objs.size=some { cls:=.type "tuple",data:=.seq #[.int i s.toks,u] }:=Heap.get?_push_size _ rfl
     rw [e'] at g
     cases g
     exact hT
    ·have e0:(s.heap.push { cls:=.type "tuple",data:=.seq #[.int i s.toks,u] }).get? b=s.heap.get? b:=Heap.get?_push_ne _ _ _ eb
     exact hk b o b1 b2 (e0 ▸ g)
   ·obtain ⟨f0,f1⟩:=hf b hb
    exact ⟨by rw [aq (fun e=>absurd (lt b hb) (by rw [e]; exact Nat.lt_irrefl _))]; exact f0,f1⟩
  have ec:((i + 1:Nat):Int)=(i:Int) + 1:=by push_cast; rfl
  refine ⟨.ref s.heap.objs.size,_,IB,rfl,⟨_,x,rfl,hfr,rfl,fun xs' h=>by rw [I.uD h q1]; exact hx⟩,⟨⟨u,ec ▸ he3⟩,h1'.at fun o x=>up it o (Ne.symm hei) x⟩,fun b hb=>?_⟩
  rw [aq (fun e=>absurd (lt b hb) (by rw [e]; exact Nat.lt_irrefl _))]
  exact (hf b hb).1
 done:=by
  intro X hP hw hK hc i pins s σ H E I hf st hg
  subst hP hw hK
  obtain ⟨⟨old,he⟩,h1⟩:=st
  obtain ⟨xs,q1,hl⟩:=hg
  obtain ⟨us,r1,p1,_⟩:=I.list q1
  have l1:=r1.length
  refine wpAny_pyNext_enum_end (I.ok.hd hc) he h1 p1.isList (by simp; omega) fun h' hk=>⟨rfl,?_⟩
  refine Inv.tq (t':=s.toks) (fp:=[e,it]) I (fun b o hb g=>?_) hf
  simp only [List.mem_cons,List.not_mem_nil,or_false,not_or] at hb
  exact hk b o hb.2 g
 self:=fun _ _ _ _ _ st h=>by obtain ⟨⟨old,he⟩,_⟩:=st; exact wpAny_pyIter_enum he h
def FJ (K:PySem.W.Frag) (ta:TA):TI:=fun σ H R=>ta σ H fun vs H1=>∃ a xs,vs=[.ref a]∧SqL K H1 a xs∧R (Ite K a) H1
section
variable {X:Cx}
theorem Ep {elts:List Expr} {cx} {tp:Pos} {a:Expr} {ta:TA} {p pos:Pos} (hg:Gl X "enumerate") (hm:X.mg "enumerate" = none) (ha:PA X [a] ta) (hs:starEach [a] X.env=[(false,eval a X.env)]:=by rfl) :
  PI X (.Tuple elts cx tp) (.Call (.Name "enumerate" p) [a] [] pos) (FJ X.K ta):=by
 intro pins s σ H R I h
 refine Call_ (o7 I hg hm boot_enumerate (PyProof.Rows.callWith_type1 (thn (ha pos pins s σ H _ I h) fun us s1 ⟨vs,H1,I1,r1,q1⟩=>?_) (by rw [hs]; rfl) (by rfl)))
 obtain ⟨l1,xs,e,g1,q⟩:=q1
 subst e
 cases r1 with
 | cons r rr =>
  cases rr
  cases r
  obtain ⟨us,rv1,p1,_⟩:=I1.list g1
  have k1:l1 < s1.heap.objs.size:=by obtain ⟨o,_,e,_⟩:=id p1; exact Heap.lt_size e
  refine call_enumerate_list p1.isList fun h' he h1 hsz hk=>?_
  refine wpAny_pyIter_enum he ?_
  refine ⟨s1.heap.objs.size + 1,[s1.heap.objs.size + 1,s1.heap.objs.size],_,_,H1,rfl,I1.kept (t':=s1.toks) hk,Ab (Nat.succ_ne_self _),⟨⟨_,he⟩,h1⟩,fun b hb=>?_,q⟩
  have hb':s1.heap.objs.size≤b:=by
   simp only [List.mem_cons,List.not_mem_nil,or_false] at hb
   rcases hb with rfl | rfl
   ·exact Nat.le_add_right _ _
   ·exact Nat.le_refl _
  exact I1.wW hb' (I1.hok.fresh hb')
end
end L2
namespace L2
open PySem PySem.Spec PyProof.Rows
def ItI (a:Addr) (o:Obj) (kvs:List (Key × V)):It where
 go:=fun i H=>H a=some (.frz o (.dK kvs))∧i < kvs.length
 yld:=fun i H x H'=>∃ p k v,x=.ref p∧H p=none∧H'=upd H p (.tup [kV k,v])∧kvs[i]?=some (k,v)
 stop:=fun i H=>H a=some (.frz o (.dK kvs))∧kvs.length≤i
theorem Er {kvs:List (Key × V)} {vs:List (Key × Value)} (r:KV kvs vs) (i:Nat) {k:Key} {x:Value} (h:vs[i]?=some (k,x)):∃ v,kvs[i]?=some (k,v)∧RelV v x:=by
 induction r generalizing i with
 | nil=>simp at h
 | cons h1 t ih =>
  cases i with
  | zero =>
   rename_i p q l l'
   have e:q=(k,x):=by simpa using h
   subst e
   exact ⟨p.2,congrArg some (Prod.ext h1.1 rfl),h1.2⟩
  | succ i=>simpa using ih i (by simpa using h)
theorem qd:entryFor table "dict_itemiterator.__iter__" = some Builtin.«dict_keyiterator.__iter__»:=entryFor_alias (id':="dict_keyiterator.__iter__") (by kernel_rfl) rfl (by decide +kernel) (by kernel_rfl)
theorem xA {P:Program} {w:World} {K:PySem.W.Frag} {elts:List Expr} {cx} {pos:Pos} {a it:Addr} {o:Obj} {kvs:List (Key × V)} {vs:List (Key × Value)} {ep:Nat} {h₁:Heap} (rel:KV kvs vs) (ho:h₁.get? a=some o) (hat:h₁.DictAt (bW P w) a vs ep) :
  Turn P w K (.Tuple elts cx pos) (ItI a o kvs) [it] it (fun i h=>∃ ok ov,IsItemIter h it a i vs.length ep ok ov) where
 mem:=by simp
 obj:=fun i h st b hb=>by
  have e:b=it:=by simpa using hb
  subst e
  obtain ⟨ok,ov,st⟩:=st
  exact ⟨_,st,fun v e=>by cases e⟩
 keep:=fun i h h' st k=>by
  obtain ⟨ok,ov,st⟩:=st
  exact ⟨ok,ov,k it (by simp) _ st⟩
 item:=by
  intro X hP hw hK hc i pins s σ H E I hf st hg
  subst hP hw hK
  obtain ⟨ok,ov,st⟩:=st
  obtain ⟨hH,hi⟩:=hg
  obtain ⟨hg,_⟩:=I.hok a _ hH
  have hd:s.heap.DictAt (bW X.prog X.w) a vs ep:=hat.at' fun o' e=>by rw [ho] at e; cases e; exact hg
  have hl:=rel.length
  obtain ⟨⟨k,x⟩,hx⟩:∃ p,vs[i]?=some p:=⟨vs[i]'(by omega),by simp⟩
  obtain ⟨v,hv,rv⟩:=Er rel i hx
  have lt:it < s.heap.objs.size:=Heap.lt_size st
  refine wpAny_pyNext_items_item st hd hx fun key h' hkey heo hT hsz hk=>?_
  refine ⟨_,rfl,wpAny_letOwnedTupleGo_items (s:={ s with heap:=h' }) heo fun h3 he3 sb=>?_⟩
  have hfr:H s.heap.objs.size=none:=I.hok.fresh (Nat.le_refl _)
  have up:∀ b o,b≠it->h'.get? b=some o->h3.get? b=some o:=fun b o hb x=>(sb.2 b hb).trans x
  have IA:Inv X pins σ (upd H s.heap.objs.size (.tup [kV k,v])) { s with heap:=s.heap.push { cls:=.type "tuple",data:=.seq #[key,x] },toks:=s.toks } :=
   I.laid (fun b o e=>Heap.get?_push_of_some _ e) (Nat.le_refl _) (b9.Ba (its:=[key,x]) (by simp only [List.length_cons,List.length_nil,sizeLine]; omega) (.cons (Cb hkey) (.cons rv .nil)))
  have IB:Inv X pins σ (upd H s.heap.objs.size (.tup [kV k,v])) { s with heap:=h3,toks:=s.toks }:=by
   refine Inv.tq (s:={ s with heap:=s.heap.push { cls:=.type "tuple",data:=.seq #[key,x] },toks:=s.toks }) (h':=h3) (t':=s.toks) (fp:=[it]) IA (fun b o hb g=>?_) (fun b hb=>?_)
   ·have b1:b≠it:=by simpa using hb
    refine up b o b1 ?_
    by_cases eb:b=s.heap.objs.size
    ·subst eb
     have e':(s.heap.push { cls:=.type "tuple",data:=.seq #[key,x] }).get? s.heap.objs.size=some { cls:=.type "tuple",data:=.seq #[key,x] }:=Heap.get?_push_size _ rfl
     rw [e'] at g
     cases g
     exact hT
    ·have e0:(s.heap.push { cls:=.type "tuple",data:=.seq #[key,x] }).get? b=s.heap.get? b:=Heap.get?_push_ne _ _ _ eb
     exact hk b o b1 (e0 ▸ g)
   ·have eb:b=it:=by simpa using hb
    subst eb
    obtain ⟨f0,f1⟩:=hf b hb
    exact ⟨by rw [aq (Nat.ne_of_lt lt)]; exact f0,f1⟩
  refine ⟨.ref s.heap.objs.size,_,IB,rfl,⟨_,k,v,rfl,hfr,rfl,hv⟩,⟨_,_,he3⟩,fun b hb=>?_⟩
  have eb:b=it:=by simpa using hb
  subst eb
  rw [aq (Nat.ne_of_lt lt)]
  exact (hf b hb).1
 done:=by
  intro X hP hw hK hc i pins s σ H E I hf st hg
  subst hP hw hK
  obtain ⟨ok,ov,st⟩:=st
  obtain ⟨hH,hi⟩:=hg
  obtain ⟨hg,_⟩:=I.hok a _ hH
  have hd:s.heap.DictAt (bW X.prog X.w) a vs ep:=hat.at' fun o' e=>by rw [ho] at e; cases e; exact hg
  obtain ⟨f0,f1,f2,f3,f4,f5⟩:=hf it (by simp)
  have hl:=rel.length
  exact wpAny_pyNext_items_end (I.ok.hd hc) st hd (by simp; omega) fun h' eb=>⟨rfl,I.turned (t':=s.toks) (fun b o hb e=>eb b o hb e) f0 f1 f3 f4 f5⟩
 self:=fun A i s Q E st q=>by
  obtain ⟨ok,ov,st⟩:=st
  refine wpAny_pyIter_slot (id:="dict_itemiterator.__iter__") ⟨_,st,rfl⟩ F.slot_dict_itemiterator_iter (wpAny_call_entry F.slot_dict_itemiterator_iter ⟨_,st,rfl⟩ qd ?_ (F.args_dict_itemiterator_iter_1 _))
  show wpAny _ _ (ret (.ref it)) _ _ s
  exact wpAny_pure ⟨_,rfl,"dict_itemiterator",_,⟨_,st,rfl⟩,F.slot_dict_itemiterator_next.lookup,q⟩
def Jf (tl:TE):TI:=fun σ H R=>tl σ H fun x H1=>∃ a o kvs,x=.ref a∧H1 a=some (.frz o (.dK kvs))∧R (ItI a o kvs) H1
section
variable {X:Cx}
theorem Cj {elts:List Expr} {cx} {tp:Pos} {l:Expr} {tl:TE} {apos cpos:Pos} (hl:PE X l tl) (hbase:attributeBase l "items" X.env (eval l X.env)=eval l X.env:=by rfl) (hline:(apos.endLine == cpos.line)=true:=by rfl) :
  PI X (.Tuple elts cx tp) (.Call (.Attribute l "items" apos) [] [] cpos) (Jf tl):=by
 intro pins s σ H R I h
 refine wpAny_Call_method0_late hbase hline (thn (hl pins s σ H _ I h) fun v s1 ⟨x,H1,I1,r1,q1⟩=>?_)
 obtain ⟨a,o,kvs,e,hH,q⟩:=q1
 subst e
 cases r1
 obtain ⟨ho,z,hd,vs,rel,dd⟩:=I1.hok a _ hH
 obtain ⟨ob,_,_,g1,g2,_⟩:=id dd
 obtain ⟨ep,hat⟩:=dd.dictAt
 refine ⟨"dict","dict.items",PySem.F.plainAttrs_dict,PySem.F.slot_dict_items,PySem.F.type_dict_items,dd.typeIs,fun b eb=>by cases eb; exact ⟨ob,g1,g2.2.1⟩,Calls.callWith_builtin rfl (PySem.evalArgs_none ?_)⟩
 refine call_meetsIn PySem.F.slot_dict_items dd.typeIs PySem.F.entry_dict_items (PySem.F.args_dict_items_1 _) (meets_dict_items (bW X.prog X.w) a hd) ⟨⟨vs,dd⟩,?_⟩
 have Jg:(s1.heap.push { cls:=.type "dict_items",data:=.fields #[.ref a] }).IsItemsView s1.heap.objs.size a:=⟨_,Heap.get?_push_size _ rfl,rfl,rfl⟩
 have I2:Inv X pins σ H1 { s1 with heap:=s1.heap.push { cls:=.type "dict_items",data:=.fields #[.ref a] } }:=I1.kept (t':=s1.toks) fun b o e=>Heap.get?_push_of_some _ e
 refine wpAny_pyIter_items (s:={ s1 with heap:=s1.heap.push { cls:=.type "dict_items",data:=.fields #[.ref a] } }) Jg (hat.push _) ?_
 refine ⟨_,[_],_,_,H1,rfl,I2.kept (t':=s1.toks) fun b o e=>Heap.get?_push_of_some _ e,xA rel ho hat,⟨_,_,Heap.get?_push_size _ rfl⟩,fun b hb=>?_,q⟩
 have e:b=(s1.heap.push { cls:=.type "dict_items",data:=.fields #[.ref a] }).objs.size:=by simpa using hb
 subst e
 exact I2.wW (Nat.le_refl _) (I2.hok.fresh (Nat.le_refl _))
end
end L2
namespace Mir
open PySem L2
variable [Zc]
def kn (es:List (D × D)):List D:=es.map fun p=>PyData.tuple [p.1,p.2]
theorem FK {B:Hp}:∀ {kvs:List (Key × V)} {es:List (D × D)} (_:bx B kvs es) (i:Nat) {k:Key} {v:V} {p:D × D},kvs[i]?=some (k,v)->es[i]?=some p->sT k p.1∧Rep B v p.2
 | _,_,.nil,i,k,v,p,h,_=>by simp at h
 | _,_,.cons hk hx r,0,k,v,p,h1,h2=>by
  simp only [List.getElem?_cons_zero,Option.some.injEq] at h1 h2
  subst h2
  cases h1
  exact ⟨hk,hx⟩
 | _,_,.cons hk hx r,i + 1,k,v,p,h1,h2=>FK r i (by simpa using h1) (by simpa using h2)
theorem sT.rep {B:Hp} {k:Key} {c:D} (h:sT k c):Rep B (kV k) c:=by
 cases k with
 | inl i=>obtain rfl:=(show c=.int i from h); exact .int i
 | inr x=>obtain rfl:=(show c=.str x from h); exact .str x
theorem Ck {G B:Hp} {a:Addr} {o:Obj} {kvs:List (Key × V)} {es:List (D × D)} (h:G a=some (.frz o (.dK kvs))) (r:bx B kvs es):l4 G B (ItI a o kvs) (kn es):=fun H s=>by
 have h':=s _ _ h
 have hl:=r.length
 have hp:(kn es).length=es.length:=by unfold kn; rw [List.length_map]
 refine ⟨⟨h',by omega⟩,fun i d hd=>?_⟩
 have hi:i < es.length:=by have:=(List.getElem?_eq_some_iff.mp hd).1; omega
 refine ⟨⟨h',by omega⟩,fun x H' hy=>?_⟩
 obtain ⟨p,k,v,rfl,hn,rfl,hk⟩:=hy
 have e:(kn es)[i]?=(es[i]?).map fun p=>PyData.tuple [p.1,p.2]:=by unfold kn; rw [List.getElem?_map]
 rw [e] at hd
 obtain ⟨q,h1,rfl⟩:=Option.map_eq_some_iff.mp hd
 obtain ⟨g1,g2⟩:=FK r i hk h1
 exact .inr ⟨p,[kV k,v],[q.1,q.2],rfl,rfl,hn,rfl,.cons g1.rep (.cons g2 .nil)⟩
def y4 (dv:PM) (g:D->Rho->Option Rho) (b:SM):SM:=fun ρ=>(dv ρ).bind fun x=>(sg x.1).bind fun es=>if oB ρ=true then (forL g b (kn es) x.2).bind fun o=>if oB (Hi o)=true then some o else none else none
theorem Es {tl:TE} {tg:TG} {tb:TS} {dv:PM} {g:D->Rho->Option Rho} {b:SM} (hc:Calm tl dv) (hg:MG tg g) (hb:MS tb b):MS (Cf (Dm (Jf tl) tg tb)) (y4 dv g b):=by
 intro F B H σ ρ o D R e q
 obtain ⟨x,e1,e⟩:=Option.bind_eq_some_iff.mp e
 obtain ⟨es,e2,e⟩:=Option.bind_eq_some_iff.mp e
 split at e
 rotate_left
 ·cases e
 rename_i nr
 obtain ⟨o',e3,e⟩:=Option.bind_eq_some_iff.mp e
 split at e
 rotate_left
 ·cases e
 rename_i nr2
 cases e
 obtain ⟨r,ρ1⟩:=x
 obtain ⟨rfl,v,rv,h1,h2⟩:=hc F B H σ ρ r ρ1 R e1
 obtain rfl:=vx e2
 cases rv with
 | @dct a kvs _ hd rk =>
  rcases hd with hd | ⟨ob,hd⟩
  ·refine .inl ⟨a,kvs,R.sub a _ hd,fun ob=>?_⟩
   have R':=R.hide (o:=ob) hd nr
   refine h2 a ob kvs hd _ ⟨a,ob,kvs,rfl,az,?_⟩
   exact Cd hg hb R'.down (Ck az (bx.map' (pZ hd) (p9 hd) (qa hd) rk)) e3 (Ce R hd nr2 q)
  ·exact .inr (h1 _ ⟨a,ob,kvs,rfl,R.sub a _ hd,Cd hg hb R (Ck hd rk) e3 q⟩)
end Mir
set_option maxHeartbeats 1000000
namespace L2
open PySem PySem.Spec PyProof.Rows
def aZ (a:Int) (x:Str) (c:Int) (y:Str):Bool:=if a=c then (if x=y then false else decide (x.cps.toList < y.cps.toList)) else decide (a < c)
section
open PySem.SeqAt
open PySem.AutoSeq1 (wpAny_loadPart')
open PySem.MeetsSeq PySem.MeetsSeq2 PySem.MeetsSeq3
theorem vD (l b:Addr) (n n2:Nat) (dd dd2:Option Addr) (sl sl2:Array (Option Value)) (a c:Int) (x y:Str) (t t2 u u2:Tok) :
  Meets (Builtin.«tuple.__lt__» ⟨[.ref l,.ref b],[]⟩)
   (fun _ R s=>s.heap.get? l=some { cls:=.type "tuple",dict:=dd,data:=.seq #[.int a t,.str x u] n,slots:=sl }∧s.heap.get? b=some { cls:=.type "tuple",dict:=dd2,data:=.seq #[.int c t2,.str y u2] n2,slots:=sl2 } ∧
    R (.ok (.ret (.bool (aZ a x c y)))) s) :=
 .of_wp fun prog w A R s h=>by
  obtain ⟨hp,g,d,tk,os⟩:=s
  obtain ⟨hl,hb,h⟩:=h
  have f2:=AutoSeq1.sub_tuple_tuple
  wp_walk using wpAny_loadPart' hl,wpAny_loadPart' hb,wpAny_forIn_list _ (fun rest b s'=>b.1=none∧s'=⟨hp,g,d,tk,os⟩ ∧
   ((rest=[(.int a t,.int c t2),(.str x u,.str y u2)])∨(rest=[(.str x u,.str y u2)]∧a=c)∨(rest=[]∧a=c∧x=y))) _
  case turn =>
   rintro ⟨p,q⟩ rest b s' ⟨hb',rfl,hz⟩
   rcases hz with hz | ⟨hz,e0⟩ | ⟨hz,_,_⟩
   ·cases hz
    refine wpAny_bind ((EqAt.int_int a t c t2) prog w _ _ ?_)
    cases hac:(a == c) with
    | true =>
     have e:a=c:=by simpa using hac
     wp_walk
     exact ⟨rfl,rfl,.inr (.inl ⟨rfl,e⟩)⟩
    | false =>
     have e:a≠c:=by simpa using hac
     have hri:=HT.AQ A.in1 ⟨hp,g,d,tk,os⟩ a t c t2 prog w
     have hR:R (.ok (.ret (.bool (decide (a < c))))) ⟨hp,g,d,tk,os⟩:=by
      unfold aZ at h
      rwa [if_neg e] at h
     wp_walk using hri
     exact ⟨_,rfl,by simpa using hR⟩
   ·cases hz
    refine wpAny_bind ((EqAt.str_str x u y u2) prog w _ _ ?_)
    cases hxy:(x == y) with
    | true =>
     have e:x=y:=by simpa using hxy
     wp_walk
     exact ⟨rfl,rfl,.inr (.inr ⟨rfl,e0,e⟩)⟩
    | false =>
     have e:x≠y:=by simpa using hxy
     have hri:∀ (E:Value->Shared->Prop) (Q:Value->Shared->Prop),Q (.bool (decide (x.cps.toList < y.cps.toList))) ⟨hp,g,d,tk,os⟩->wpAny (model prog w) A.in1 (richCompare .Lt (.str x u) (.str y u2)) Q E ⟨hp,g,d,tk,os⟩:=fun E Q hq=>(PyProof.Rows.lt_str hq:wpAny (model prog w) A.in1 (compareOp .Lt (.str x u) (.str y u2)) Q E ⟨hp,g,d,tk,os⟩)
     have hR:R (.ok (.ret (.bool (decide (x.cps.toList < y.cps.toList))))) ⟨hp,g,d,tk,os⟩:=by
      unfold aZ at h
      rwa [if_pos e0,if_neg e] at h
     wp_walk using hri
     exact ⟨_,rfl,by simpa using hR⟩
   ·cases hz
  case fin =>
   rintro ⟨b1,b2⟩ s' ⟨hb',rfl,hz⟩
   simp only at hb'
   subst hb'
   rcases hz with hz | ⟨hz,_⟩ | ⟨_,e1,e2⟩
   ·cases hz
   ·cases hz
   ·have hR:R (.ok (.ret (.bool false))) ⟨hp,g,d,tk,os⟩:=by
     unfold aZ at h
     rwa [if_pos e1,if_pos e2] at h
    wp_walk
    exact ⟨_,rfl,by simpa [Builtin.Tuple.tupleCompareSizes] using hR⟩
  case h=>exact ⟨rfl,rfl,.inl rfl⟩
end
section
variable {prog:Program} {w:World} {A:Around} {E:Value->Shared->Prop} {s:Shared}
theorem Cm {l b:Addr} {a c:Int} {x y:Str} {t t2 u u2:Tok} {Q:Value->Shared->Prop} (hl:IsTup s.heap l #[.int a t,.str x u]) (hb:IsTup s.heap b #[.int c t2,.str y u2]) (hu:A.units < cLine) (h:Q (.bool (aZ a x c y)) s) :
  wpAny (model prog w) A (compareOp .Lt (.ref l) (.ref b)) Q E s:=by
 obtain ⟨⟨cls,dd,data,sl⟩,ho,hc,n,hd⟩:=id hl
 obtain ⟨⟨cls2,dd2,data2,sl2⟩,ho2,hc2,n2,hd2⟩:=id hb
 simp only at hc hd hc2 hd2
 subst hc hd hc2 hd2
 exact richCompare_meets_room (op:=.Lt) ⟨_,ho,rfl⟩ ⟨_,ho2,rfl⟩ PySem.F.slot_tuple_lt PySem.F.entry_tuple_lt (PySem.F.args_tuple_lt_2 _ _) (vD l b n n2 dd dd2 sl sl2 a c x y t t2 u u2)
  ⟨ho,ho2,show Value.bool (aZ a x c y)≠Value.notImplemented∧Q (.bool (aZ a x c y)) s from ⟨(fun x=>nomatch x),h⟩⟩ hu
end
section
variable {X:Cx} {K:PySem.W.Frag}
def Jh (K:PySem.W.Frag):R2:=fun x y H Q=>∃ a b i z j v,x=.ref a∧y=.ref b∧SqT K H a [.int i,.str z]∧SqT K H b [.int j,.str v]∧Q (.bl (aZ i z j v)) H
theorem Hm (h:X.K=K) (hu:X.A.units < cLine):OpR X (compareOp .Lt) (Jh K):=by
 subst h
 intro pins s σ H x y v u Q I rx ry h
 obtain ⟨a,b,i,z,j,w,rfl,rfl,ha,hb,q⟩:=h
 cases rx
 cases ry
 obtain ⟨its,r1,p1,_⟩:=I.tuple ha
 obtain ⟨its2,r2,p2,_⟩:=I.tuple hb
 cases r1 with
 | cons e1 r1 =>
  cases r1 with
  | cons e2 r1 =>
   cases r1
   cases r2 with
   | cons f1 r2 =>
    cases r2 with
    | cons f2 r2 =>
     cases r2
     obtain ⟨t1,rfl⟩:=e1
     obtain ⟨t2,rfl⟩:=e2
     obtain ⟨t3,rfl⟩:=f1
     obtain ⟨t4,rfl⟩:=f2
     exact Cm p1 p2 hu ⟨.bl _,H,I,rfl,q⟩
end
end L2
namespace Mir
open PySem L2
variable [Zc]
def Hn:D->D->Option (D × Bool)
 | .tuple [.int i,.str z],.tuple [.int j,.str w]=>some (.bool (aZ i z j w),false)
 | _,_=>none
theorem Ji {K:PySem.W.Frag}:OpJ (Jh K) Hn:=by
 intro B H x y c d res s hx hy e
 unfold Hn at e
 split at e
 ·cases e
  obtain ⟨p,xs,rfl,h1,r1⟩:=hx.tuple s
  obtain ⟨q,ys,rfl,h2,r2⟩:=hy.tuple s
  cases r1 with
  | cons a1 r1 =>
   cases r1 with
   | cons a2 r1 =>
    cases r1
    cases r2 with
    | cons b1 r2 =>
     cases r2 with
     | cons b2 r2 =>
      cases r2
      cases a1; cases a2; cases b1; cases b2
      exact ⟨.bl _,.bl _,fun Q q'=>⟨p,q,_,_,_,_,rfl,rfl,.inl (.inl h1),.inl (.inl h2),q'⟩⟩
 ·cases e
end Mir
set_option maxHeartbeats 1000000
namespace L2
open PySem PySem.Spec PyProof.Rows
theorem Cn (A:Around) (s:Shared) (a:Int) (t:Tok) (c:Int) (u:Tok) (prog:Program) (w:World) (E:Value->Shared->Prop) (Q:Value->Shared->Prop) (h:Q (.bool (decide (c < a))) s) :
  wpAny (model prog w) A (richCompare .Gt (.int a t) (.int c u)) Q E s :=
 (PyProof.Rows.gt_int h:wpAny (model prog w) A (compareOp .Gt (.int a t) (.int c u)) Q E s)
section
open PySem.SeqAt
open PySem.AutoSeq1 (wpAny_loadPart')
open PySem.MeetsSeq PySem.MeetsSeq2 PySem.MeetsSeq3
theorem vE (l b:Addr) (n n2:Nat) (dd dd2:Option Addr) (sl sl2:Array (Option Value)) (a c:Int) (x y:Str) (t t2 u u2:Tok) :
  Meets (Builtin.«tuple.__gt__» ⟨[.ref l,.ref b],[]⟩)
   (fun _ R s=>s.heap.get? l=some { cls:=.type "tuple",dict:=dd,data:=.seq #[.int a t,.str x u] n,slots:=sl }∧s.heap.get? b=some { cls:=.type "tuple",dict:=dd2,data:=.seq #[.int c t2,.str y u2] n2,slots:=sl2 } ∧
    R (.ok (.ret (.bool (aZ c y a x)))) s) :=
 .of_wp fun prog w A R s h=>by
  obtain ⟨hp,g,d,tk,os⟩:=s
  obtain ⟨hl,hb,h⟩:=h
  have f2:=AutoSeq1.sub_tuple_tuple
  wp_walk using wpAny_loadPart' hl,wpAny_loadPart' hb,wpAny_forIn_list _ (fun rest b s'=>b.1=none∧s'=⟨hp,g,d,tk,os⟩ ∧
   ((rest=[(.int a t,.int c t2),(.str x u,.str y u2)])∨(rest=[(.str x u,.str y u2)]∧a=c)∨(rest=[]∧a=c∧x=y))) _
  case turn =>
   rintro ⟨p,q⟩ rest b s' ⟨hb',rfl,hz⟩
   rcases hz with hz | ⟨hz,e0⟩ | ⟨hz,_,_⟩
   ·cases hz
    refine wpAny_bind ((EqAt.int_int a t c t2) prog w _ _ ?_)
    cases hac:(a == c) with
    | true =>
     have e:a=c:=by simpa using hac
     wp_walk
     exact ⟨rfl,rfl,.inr (.inl ⟨rfl,e⟩)⟩
    | false =>
     have e:a≠c:=by simpa using hac
     have hri:=Cn A.in1 ⟨hp,g,d,tk,os⟩ a t c t2 prog w
     have hR:R (.ok (.ret (.bool (decide (c < a))))) ⟨hp,g,d,tk,os⟩:=by
      unfold aZ at h
      rwa [if_neg (fun z=>e z.symm)] at h
     wp_walk using hri
     exact ⟨_,rfl,by simpa using hR⟩
   ·cases hz
    refine wpAny_bind ((EqAt.str_str x u y u2) prog w _ _ ?_)
    cases hxy:(x == y) with
    | true =>
     have e:x=y:=by simpa using hxy
     wp_walk
     exact ⟨rfl,rfl,.inr (.inr ⟨rfl,e0,e⟩)⟩
    | false =>
     have e:x≠y:=by simpa using hxy
     have hri:∀ (E:Value->Shared->Prop) (Q:Value->Shared->Prop),Q (.bool (decide (y.cps.toList < x.cps.toList))) ⟨hp,g,d,tk,os⟩->wpAny (model prog w) A.in1 (richCompare .Gt (.str x u) (.str y u2)) Q E ⟨hp,g,d,tk,os⟩:=fun E Q hq=>(PySem.P.gt_str hq:wpAny (model prog w) A.in1 (compareOp .Gt (.str x u) (.str y u2)) Q E ⟨hp,g,d,tk,os⟩)
     have hR:R (.ok (.ret (.bool (decide (y.cps.toList < x.cps.toList))))) ⟨hp,g,d,tk,os⟩:=by
      unfold aZ at h
      rwa [if_pos e0.symm,if_neg (fun z=>e z.symm)] at h
     wp_walk using hri
     exact ⟨_,rfl,by simpa using hR⟩
   ·cases hz
  case fin =>
   rintro ⟨b1,b2⟩ s' ⟨hb',rfl,hz⟩
   simp only at hb'
   subst hb'
   rcases hz with hz | ⟨hz,_⟩ | ⟨_,e1,e2⟩
   ·cases hz
   ·cases hz
   ·have hR:R (.ok (.ret (.bool false))) ⟨hp,g,d,tk,os⟩:=by
     unfold aZ at h
     rwa [if_pos e1.symm,if_pos e2.symm] at h
    wp_walk
    exact ⟨_,rfl,by simpa [Builtin.Tuple.tupleCompareSizes] using hR⟩
  case h=>exact ⟨rfl,rfl,.inl rfl⟩
end
section
variable {prog:Program} {w:World} {A:Around} {E:Value->Shared->Prop} {s:Shared}
theorem Co {l b:Addr} {a c:Int} {x y:Str} {t t2 u u2:Tok} {Q:Value->Shared->Prop} (hl:IsTup s.heap l #[.int a t,.str x u]) (hb:IsTup s.heap b #[.int c t2,.str y u2]) (hu:A.units < cLine) (h:Q (.bool (aZ c y a x)) s) :
  wpAny (model prog w) A (compareOp .Gt (.ref l) (.ref b)) Q E s:=by
 obtain ⟨⟨cls,dd,data,sl⟩,ho,hc,n,hd⟩:=id hl
 obtain ⟨⟨cls2,dd2,data2,sl2⟩,ho2,hc2,n2,hd2⟩:=id hb
 simp only at hc hd hc2 hd2
 subst hc hd hc2 hd2
 exact richCompare_meets_room (op:=.Gt) ⟨_,ho,rfl⟩ ⟨_,ho2,rfl⟩ PySem.F.slot_tuple_gt PySem.F.entry_tuple_gt (PySem.F.args_tuple_gt_2 _ _) (vE l b n n2 dd dd2 sl sl2 a c x y t t2 u u2)
  ⟨ho,ho2,show Value.bool (aZ c y a x)≠Value.notImplemented∧Q (.bool (aZ c y a x)) s from ⟨(fun x=>nomatch x),h⟩⟩ hu
end
section
variable {X:Cx} {K:PySem.W.Frag}
def Jj (K:PySem.W.Frag):R2:=fun x y H Q=>∃ a b i z j v,x=.ref a∧y=.ref b∧SqT K H a [.int i,.str z]∧SqT K H b [.int j,.str v]∧Q (.bl (aZ j v i z)) H
theorem Ho (h:X.K=K) (hu:X.A.units < cLine):OpR X (compareOp .Gt) (Jj K):=by
 subst h
 intro pins s σ H x y v u Q I rx ry h
 obtain ⟨a,b,i,z,j,w,rfl,rfl,ha,hb,q⟩:=h
 cases rx
 cases ry
 obtain ⟨its,r1,p1,_⟩:=I.tuple ha
 obtain ⟨its2,r2,p2,_⟩:=I.tuple hb
 cases r1 with
 | cons e1 r1 =>
  cases r1 with
  | cons e2 r1 =>
   cases r1
   cases r2 with
   | cons f1 r2 =>
    cases r2 with
    | cons f2 r2 =>
     cases r2
     obtain ⟨t1,rfl⟩:=e1
     obtain ⟨t2,rfl⟩:=e2
     obtain ⟨t3,rfl⟩:=f1
     obtain ⟨t4,rfl⟩:=f2
     exact Co p1 p2 hu ⟨.bl _,H,I,rfl,q⟩
end
end L2
namespace Mir
open PySem L2
variable [Zc]
def Et:D->D->Option (D × Bool)
 | .tuple [.int i,.str z],.tuple [.int j,.str w]=>some (.bool (aZ j w i z),false)
 | _,_=>none
theorem Jk {K:PySem.W.Frag}:OpJ (Jj K) Et:=by
 intro B H x y c d res s hx hy e
 unfold Et at e
 split at e
 ·cases e
  obtain ⟨p,xs,rfl,h1,r1⟩:=hx.tuple s
  obtain ⟨q,ys,rfl,h2,r2⟩:=hy.tuple s
  cases r1 with
  | cons a1 r1 =>
   cases r1 with
   | cons a2 r1 =>
    cases r1
    cases r2 with
    | cons b1 r2 =>
     cases r2 with
     | cons b2 r2 =>
      cases r2
      cases a1; cases a2; cases b1; cases b2
      exact ⟨.bl _,.bl _,fun Q q'=>⟨p,q,_,_,_,_,rfl,rfl,.inl (.inl h1),.inl (.inl h2),q'⟩⟩
 ·cases e
end Mir
namespace L2
open PySem PySem.Spec PyProof.Rows
section
variable {X:Cx}
def y6:V->List V->Hp->VK->Prop:=fun x xs H Q=>∃ a kvs,x=.ref a∧xs=[]∧H a=some (.dK kvs)∧Q .non (upd H a (.dK []))
theorem Ac:MtR X "dict.clear" y6:=by
 intro pins s σ H x xs v us Q I rx rv h
 obtain ⟨a,kvs,rfl,rfl,e,h1⟩:=h
 cases rx
 cases rv
 obtain ⟨z,hd,vs,rel,dd⟩:=BV I.hok e
 refine call_meetsIn PySem.F.slot_dict_clear dd.typeIs PySem.F.entry_dict_clear (PySem.F.args_dict_clear_1 _) (meets_dict_clear (bW X.prog X.w) a) ⟨vs,dd,by rw [← rel.length]; exact z,fun h' dd' hs=>?_⟩
 have he:∃ q,h'.get? a=some q:=let ⟨q,_,_,hq,_⟩:=dd'; ⟨q,hq⟩
 exact ⟨.non,_,tK I (by rw [e]; exact True.intro) hs he (xy (Nat.zero_le _) hd .nil dd'),rfl,h1⟩
end
end L2
namespace Mir
open PySem L2
section
variable [Zc] [Zl] {W:WX}
def Eu (f:List D->List D->Option (List D × D)) (a:EN):EN:=bN a fun x s=>match x with
 | .lc k=>if sd s.S k=true then Hf f k [] s else none
 | _=>none
theorem Hq {K:PySem.W.Frag} {te:TE} {a:EN} {r:V->List V->Hp->VK->Prop} {f:List D->List D->Option (List D × D)} (J:uU r f) (ha:NE W te a):NE W (AU K "list" r te) (Eu f a):=by
 intro G A B H σ s r0 Q R e q
 refine fT (t:=te) ha R e q fun x v A1 B1 H1 s1 g1 eB1 R1 V1 e1 q1=>?_
 split at e1
 ·rename_i k
  split at e1
  ·rename_i hl
   cases V1 with
   | lc hA=>exact ⟨vq R1 hA hl,Ea J G A1 B1 H1 σ s1 _ k [] [] r0 Q R1 hA .nil e1 q1⟩
  ·cases e1
 ·cases e1
def y8 (a:EN):EN:=bN a fun x s=>match x with
 | .lc k=>match s.S[k]? with
  | some (some (.dat (.dict _)))=>some (.ok (.pl .none) ⟨s.S.set k (some (.dat (.dict []))),s.t⟩)
  | _=>none
 | _=>none
theorem Ew {K:PySem.W.Frag} {te:TE} {a:EN} (ha:NE W te a):NE W (AU K "dict" y6 te) (y8 a):=by
 intro G A B H σ s r0 Q R e q
 refine fT (t:=te) ha R e q fun x v A1 B1 H1 s1 g1 eB1 R1 V1 e1 q1=>?_
 split at e1
 ·rename_i k
  split at e1
  ·rename_i es hk
   cases e1
   cases V1 with
   | lc hA =>
    cases R1.st.cell k _ _ hk hA with
    | dat ow =>
     obtain ⟨kvs,hp,rk⟩:=ow.dict
     refine ⟨.inr (.inr (.inl ⟨rfl,.inl ⟨kvs,hp⟩⟩)),_,kvs,rfl,rfl,hp,?_⟩
     exact q1 .non A1 B1 _ (Gro.refl _) (aC.refl _) (R1.write (o:=.dK []) (c:=.dat (.dict [])) hA trivial (.dat (.dct az .nil))) (.pl .non)
  ·cases e1
 ·cases e1
theorem tR {α β:Type} {Rl:RL β α} {t:St->Hp->(β->Hp->Prop)->Prop} {m:MN α} {k : α->SN} {G:FrN} {A:List Addr} {B H:Hp} {σ:St} {s:SS} {o:jq} {D:Ends} {C : β->Hp->Prop} (h:NM W Rl t m) (R:bf G A B H σ s) (e:bS m k s=some o) (q:NOk G W D o)
  (c:∀ x v A' B' H' s',Gro A A'->aC B B'->bf G A' B' H' σ s'->Rl A' B' x v->k v s'=some o->C x H'):t σ H C:=by
 unfold bS at e
 split at e
 ·rename_i v s' h1
  exact h G A B H σ s _ C R h1 fun x A' B' H' g eB R' V=>c x v A' B' H' s' g eB R' V e
 ·rename_i y s' h1
  cases e
  exact h G A B H σ s _ C R h1 fun A' B' H' R'=>q A' B' H' σ R'
 ·cases e
noncomputable def Hr (x y k:SV) (s:SS):Option jq:=match x,y,k with
 | .lc j,.pl yd,.pl kd=>(keyOf kd).bind fun key=>match s.S[j]? with
  | some (some (.dat (.dict es)))=>cIf (es.length < 100000) (some (.nx ⟨s.S.set j (some (.dat (.dict (putD es kd yd key)))),s.t⟩)) none
  | _=>none
 | _,_,_=>none
noncomputable def nZ (d k v:EN):SN:=bS v fun y=>bS d fun x=>bS k fun z=>Hr x y z
theorem oT {td ty tv:TE} {d k v:EN} (hd:NE W td d) (hk:NE W ty k) (hv:NE W tv v):NS W (BW td ty tv) (nZ d k v):=by
 intro G A B H σ s o D R e q
 refine tR (t:=tv) hv R e q fun y yv A1 B1 H1 s1 g1 eB1 R1 V1 e1=>?_
 refine tR (t:=td) hd R1 e1 q fun x xv A2 B2 H2 s2 g2 eB2 R2 V2 e2=>?_
 refine tR (t:=ty) hk R2 e2 q fun z zv A3 B3 H3 s3 g3 eB3 R3 V3 e3=>?_
 unfold Hr at e3
 split at e3
 ·rename_i j yd kd
  obtain ⟨key,e4,e5⟩:=Option.bind_eq_some_iff.mp e3
  split at e5
  ·rename_i es hj
   obtain ⟨hz,e6⟩:=cH e5
   cases e6
   have V2':=V2.mono g3 eB3
   cases V1 with
   | pl ry =>
    cases V3 with
    | pl rz =>
     cases V2' with
     | lc hA =>
      cases R3.st.cell j _ _ hj hA with
      | dat ow =>
       obtain ⟨kvs,hp,rk⟩:=ow.dict
       obtain rfl:z=kV key:=View.key (H:=H3) (.inl rz) e4
       have R4:=R3.write (o:=.dK (putK kvs key y)) (c:=.dat (.dict (putD es kd yd key))) hA trivial (.dat (.dct az (bx.put (yV e4) (ry.mono (eB2.trans eB3)) rk)))
       exact ⟨_,_,rfl,.inl ⟨kvs,key,hp,rfl,by rw [rk.length,sizeLine_eq]; omega,rfl⟩,q A3 B3 _ σ R4⟩
  ·cases e5
 ·cases e3
def xB (f:List D->Option (D × D)) (m:MN (List SV)):EN:=bN m fun xs s=>(qV s.S xs).bind fun ds=>(f ds).bind fun c=>if (eJ c.1 true && eJ c.2 true)=true then some (.ok (.tp [.lc s.S.length,.lc (s.S.length + 1)]) ⟨s.S++[some (.dat c.1)]++[some (.dat c.2)],s.t⟩) else none
theorem bf.opened {G:FrN} {A:List Addr} {B H B' H':Hp} {σ:St} {s:SS} (R:bf G A B H σ s) (eH:aC H H') (nz:∀ q o u,H' q=some (.frz o u)->H q≠none):bf G A (tbu B H') H' σ s:=by
 have tF:aC B H':=R.sub.trans eH
 refine R.grow mf eH (fun q u h=>?_) (fun q h z=>?_) (fun q xs h=>mh tF h) fun q u w h=>?_
 ·rcases nc h with h | ⟨_,xs,rfl,h'⟩
  ·exact tF q u h
  ·exact h'
 ·cases h2:tbu B H' q with
  | none=>rfl
  | some u =>
   rcases nc h2 with h3 | ⟨_,xs,rfl,h3⟩
   ·rw [z] at h3; cases h3
   ·cases h4:H q with
    | none=>exact absurd h4 h
    | some u4 =>
     have:=eH q u4 h4
     rw [h3] at this
     cases this
     rw [R.cC q xs h4] at z; cases z
 ·have hq:=nz q u w h
  cases h2:H q with
  | none=>exact absurd h2 hq
  | some o2 =>
   have:=eH q o2 h2
   rw [h] at this
   cases this
   exact R.nz q u w h2
theorem vF {B H:Hp} {p:Addr} (h:B p=none) (n:∀ xs,H p≠some (.tup xs)):tbu B H p=none:=by
 cases h2:tbu B H p with
 | none=>rfl
 | some o' =>
  rcases nc h2 with h3 | ⟨_,xs,rfl,h3⟩
  ·rw [h] at h3; cases h3
  ·exact absurd h3 (n xs)
theorem Cp {f:List D->Option (D × D)} {E:XK} {t:TA} {m:MN (List SV)} (h:NA W t m):NE W (hI (spD f) [] E t) (xB f m):=by
 intro G A B H σ s r0 Q R e q
 refine fT (t:=t) h R e q fun vs xs A1 B1 H1 s1 g1 eB1 R1 V1 e1 q1=>?_
 rw [List.append_nil]
 obtain ⟨ds,h1,e1⟩:=Option.bind_eq_some_iff.mp e1
 obtain ⟨c,h2,e1⟩:=Option.bind_eq_some_iff.mp e1
 split at e1
 case isFalse=>cases e1
 rename_i hp
 rw [Bool.and_eq_true] at hp
 cases e1
 refine ⟨H1,ds,c,aC.refl _,fun _ _ z=>z,pP R1.st R1.sub V1 h1,h2,fun v B' H' P=>?_⟩
 obtain ⟨a,p,r,rfl,ha,hpr,hp0,hr0,hBp,hBr,op,or⟩:=P.val
 have R2:=R1.opened (B':=B') P.eH P.nz
 have tF:aC B1 H':=R1.sub.trans P.eH
 have kt:∀ q xs,B' q=some (.tup xs)->tbu B1 H' q=some (.tup xs):=fun q xs h=>mh tF (P.sub _ _ h)
 have op':=op.dq kt hp.1
 have or':=or.dq kt hp.2
 obtain ⟨o1,ho1,mo1⟩:=op'.mx
 obtain ⟨o2,ho2,mo2⟩:=or'.mx
 obtain ⟨gp1,gp2,gp3⟩:=R1.pM hp0
 obtain ⟨gr1,gr2,gr3⟩:=R1.pM hr0
 have R3:=R2.take (c:=.dat c.1) gp1 gp2 (vF gp3 (op.j4)) ho1 mo1 (.dat op')
 have R4:=R3.take (c:=.dat c.2) gr1 (fun z=>by
  rcases List.mem_append.mp z with z | z
  ·exact gr2 z
  ·exact hpr (List.mem_singleton.mp z).symm) (vF gr3 (or.j4)) ho2 mo2 (.dat or')
 refine q1 _ _ _ H' ((Gro.app _ _).trans (Gro.app _ _)) mf R4 (.tp (mh tF ha) (.cons (.lc ?_) (.cons (.lc ?_) .nil)))
 ·rw [← R1.st.len]
  exact Gro.app _ _ _ _ List.getElem?_concat_length
 ·rw [← R1.st.len]
  have:(A1++[p]).length=A1.length + 1:=by simp
  rw [← this]
  exact List.getElem?_concat_length
def tS (f:List D->Option ((D × Bool) × D × D)) (m:MN (List SV)):EN:=bN m fun xs s=>match xs with
 | .lc i::.lc j::ys=>if i=j then none else (iL ys).bind fun ds=>match s.S[i]?,s.S[j]? with
  | some (some (.dat d0)),some (some (.dat e0))=>(f (d0::e0::ds)).bind fun w=>IT w.1 ⟨(s.S.set i (some (.dat w.2.1))).set j (some (.dat w.2.2)),s.t⟩
  | _,_=>none
 | _=>none
theorem bf.Jl {G:FrN} {A:List Addr} {B H B' H':Hp} {σ:St} {s:SS} {i j:Nat} {p p2:Addr} {v:V} {d:D} {o:Bool} {d0 e0 d1 d2:D} (R:bf G A B H σ s) (hij:i≠j) (hi:A[i]?=some p) (hj:A[j]?=some p2) (ow:Own B H p d0) (ow2:Own B H p2 e0) (P:Fy B H p p2 v B' H' d o d1 d2):bf G A B' H' σ ⟨(s.S.set i (some (.dat d1))).set j (some (.dat d2)),s.t⟩:=by
 have ip:=List.mem_of_getElem? hi
 have jp:=List.mem_of_getElem? hj
 have li:i < s.S.length:=by rw [← R.st.len]; exact (List.getElem?_eq_some_iff.mp hi).1
 have lj:j < s.S.length:=by rw [← R.st.len]; exact (List.getElem?_eq_some_iff.mp hj).1
 obtain ⟨o1,ho1,mo1⟩:=ow.mx
 obtain ⟨o2,ho2,mo2⟩:=ow2.mx
 have mx':∀ {q:Addr} {u:HO},H q=some u->¬ MxF u->H' q=some u:=fun {q u} h n=>P.eH q u (fun z=>by subst z; rw [ho1] at h; cases h; exact n (.inl mo1)) (fun z=>by subst z; rw [ho2] at h; cases h; exact n (.inl mo2)) h
 refine ⟨P.sub,R.sB.trans P.eB,P.tB,fun q u h n=>?_,fun q h z=>P.nb q (fun hq=>h (R.pM hq).1) (R.nB q h z),R.pre,R.fresh,⟨?_,R.st.nd,fun a ha=>?_,fun a ha=>?_,fun k c a h1 h2=>?_⟩,R.len,fun k x h=>?_,fun q u w h=>?_⟩
 ·have nA:q ∉ A:=fun hq=>by
   rcases R.fresh q hq with h1 | h1
   ·exact n h1
   ·rw [h1] at h; cases h
  exact P.eH q u (fun z=>nA (z ▸ ip)) (fun z=>nA (z ▸ jp)) (R.kept q u h n)
 ·show A.length=((s.S.set i (some (.dat d1))).set j (some (.dat d2))).length
  rw [List.length_set,List.length_set]; exact R.st.len
 ·obtain ⟨u,h,_⟩:=R.st.mx a ha
  exact P.nb a (by rw [h]; simp) (R.st.dis a ha)
 ·by_cases z:a=p
  ·subst z; obtain ⟨u,h,m⟩:=P.own.mx; exact ⟨u,h,.inl m⟩
  ·by_cases z2:a=p2
   ·subst z2; obtain ⟨u,h,m⟩:=P.xt.mx; exact ⟨u,h,.inl m⟩
   ·obtain ⟨u,h,m⟩:=R.st.mx a ha
    exact ⟨u,P.eH a u z z2 h,m⟩
 ·have h1':((s.S.set i (some (.dat d1))).set j (some (.dat d2)))[k]?=some (some c):=h1
  by_cases zj:k=j
  ·subst zj
   rw [List.getElem?_set_self (by rw [List.length_set]; exact lj)] at h1'
   cases h1'
   rw [hj] at h2; cases h2
   exact .dat P.xt
  ·rw [List.getElem?_set_ne (fun e=>zj e.symm)] at h1'
   by_cases zi:k=i
   ·subst zi
    rw [List.getElem?_set_self li] at h1'
    cases h1'
    rw [hi] at h2; cases h2
    exact .dat P.own
   ·rw [List.getElem?_set_ne (fun e=>zi e.symm)] at h1'
    have na:a≠p:=fun e=>by
     subst e
     exact zi ((List.getElem?_inj (List.getElem?_eq_some_iff.mp h2).1 R.st.nd).mp (h2.trans hi.symm))
    have nb:a≠p2:=fun e=>by
     subst e
     exact zj ((List.getElem?_inj (List.getElem?_eq_some_iff.mp h2).1 R.st.nd).mp (h2.trans hj.symm))
    exact (R.st.cell k c a h1' h2).mono (Gro.refl _) P.eB (fun u h=>P.eH a u na nb h) fun q u h n=>mx' h n
 ·obtain ⟨w,h1,h2⟩:=R.slot k x h
  exact ⟨w,h1,h2.mono (Gro.refl _) P.eB⟩
 ·have hq:=P.nz q u w h
  cases h2:H q with
  | none=>exact absurd h2 hq
  | some o3 =>
   by_cases z:q=p
   ·subst z; obtain ⟨u',h',m'⟩:=P.own.mx; rw [h] at h'; cases h'; cases m'
   ·by_cases z2:q=p2
    ·subst z2; obtain ⟨u',h',m'⟩:=P.xt.mx; rw [h] at h'; cases h'; cases m'
    ·have:=P.eH q o3 z z2 h2
     rw [h] at this
     cases this
     exact R.nz q u w h2
theorem Cq {f:List D->Option ((D × Bool) × D × D)} {E:XK} {t:TA} {m:MN (List SV)} (h:NA W t m):NE W (hI (spJ f) [] E t) (tS f m):=by
 intro G A B H σ s r0 Q R e q
 refine fT (t:=t) h R e q fun vs xs A1 B1 H1 s1 g1 eB1 R1 V1 e1 q1=>?_
 rw [List.append_nil]
 split at e1
 case h_2=>cases e1
 rename_i i j ys
 split at e1
 ·cases e1
 rename_i hij
 obtain ⟨ds,h1,e1⟩:=Option.bind_eq_some_iff.mp e1
 split at e1
 case h_2=>cases e1
 rename_i d0 e0 hi hj
 obtain ⟨⟨⟨d,o⟩,d1,d2⟩,h2,e1⟩:=Option.bind_eq_some_iff.mp e1
 cases V1 with
 | cons va V1 =>
  cases V1 with
  | cons vb V1 =>
   cases va with
   | lc hA =>
    cases vb with
    | lc hB =>
     cases R1.st.cell i _ _ hi hA with
     | dat ow =>
      cases R1.st.cell j _ _ hj hB with
      | dat ow2 =>
       have hne:∀ {p p2:Addr},A1[i]?=some p->A1[j]?=some p2->p≠p2:=fun {p p2} x y z=>by
        subst z
        exact hij ((List.getElem?_inj (List.getElem?_eq_some_iff.mp x).1 R1.st.nd).mp (x.trans y.symm))
       refine ⟨B1,_,_,_,d0,e0,ds,(d,o),d1,d2,rfl,hne hA hB,R1.sub,R1.cC,R1.st.dis _ (List.mem_of_getElem? hA),R1.st.dis _ (List.mem_of_getElem? hB),ow,ow2,jo V1 h1,h2,fun v B' H' P=>?_⟩
       have R2:=R1.Jl hij hA hB ow ow2 P
       have pv:=P.val
       cases o with
       | false =>
        cases e1
        exact q1 v A1 B' H' (Gro.refl _) P.eB R2 (.pl pv)
       | true =>
        obtain ⟨p,rfl,hn,hB',ow3⟩:=pv
        have key:∀ r1,r1=newD d ⟨(s1.S.set i (some (.dat d1))).set j (some (.dat d2)),s1.t⟩->ROk G A1 B1 σ W dB Q r1->Q (.ref p) H':=fun r1 er q2=>by
         subst er
         obtain ⟨g1,g2,g3⟩:=R1.pM hn
         obtain ⟨ob,ho,mo⟩:=ow3.mx
         have R3:=R2.take (c:=.dat d) g1 g2 hB' ho mo (.dat ow3)
         exact q2 _ _ B' H' (Gro.app _ _) P.eB R3 (.lc (by rw [← R2.st.len]; exact List.getElem?_concat_length))
        cases ow3 with
        | lst _ _=>cases e1; exact key _ rfl q1
        | dct _ _=>cases e1; exact key _ rfl q1
end
end Mir
namespace Mir
open PySem L2
variable [Zc]
theorem xD {f:List D->Option ((D × Bool) × D)} {E:XK} {F:Fr} {B2 H1:Hp} {σ:St} {ρ2:Rho} {i:Nat} {s:Sl} {p:Addr} {vs:List V} {as:List D} {d d1:D} {Q:VK} (R2:Rel F B2 H1 σ ρ2) (hs : ρ2[i]?=some s) (ho:s.dA=true) (hv : σ[i]?=some (some (.ref p))) (rp:aP B2 vs as) (e3:f (slD s::as)=some ((d,false),d1))
  (q:∀ v B' H',Ext σ ρ2 B2 H1 (ρ2.set i (s.put d1)) B' H'->Rel F B' H' σ (ρ2.set i (s.put d1))->Rep B' v d->Q v H'):spI f (.ref p::vs) H1 Q E:=by
 obtain ⟨p',hv',hB,ow⟩:=R2.ownAt hs ho
 rw [hv] at hv'
 cases hv'
 obtain ⟨oo,hoo⟩:=ow.there
 refine ⟨B2,p,vs,slD s,as,(d,false),d1,rfl,R2.sub,R2.cC,hB,ow,rp,e3,fun v B' H' P=>?_⟩
 obtain ⟨o1,ho1⟩:=P.own.there
 have hB':B' p=none:=P.nb p (by rw [hoo]; simp) hB
 have eH:aC H1 (upd H' p oo):=fun c u hc=>by
  by_cases z:c=p
  ·subst z; rw [hoo] at hc; cases hc; exact az
  ·rw [aq z]; exact P.eH c u z hc
 have sub:aC B' (upd H' p oo):=fun c u hc=>by
  rw [aq (fun z=>by rw [z,hB'] at hc; cases hc)]; exact P.sub c u hc
 have tB:∀ c xs,upd H' p oo c=some (.tup xs)->B' c=some (.tup xs):=fun c xs hc=>by
  by_cases z:c=p
  ·subst z; rw [az] at hc; cases hc; exact absurd hoo (ow.j4 xs)
  ·rw [aq z] at hc; exact P.tB c xs hc
 have nz:∀ c a u,upd H' p oo c=some (.frz a u)->H1 c≠none:=fun c a u hc=>by
  by_cases z:c=p
  ·subst z; rw [hoo]; simp
  ·rw [aq z] at hc; exact P.nz c a u hc
 have R3:=R2.grow P.eB eH sub P.nb tB nz
 have E3:Ext σ ρ2 B2 H1 ρ2 B' (upd H' p oo):=Ext.grow P.eB eH P.nb
 have back:upd (upd H' p oo) p o1=H':=by
  funext c
  by_cases z:c=p
  ·subst z; rw [az,ho1]
  ·rw [aq z,aq z]
 obtain ⟨R4,E4⟩:=R3.write (o:=o1) (d:=d1) hs ho hv ⟨(fun xs z=>by rw [z] at ho1; exact P.own.j4 xs ho1),fun a u z=>by rw [z] at ho1; exact P.own.tm a u ho1⟩ (by rw [back]; exact P.own)
 rw [back] at R4 E4
 exact q v B' H' (E3.trans E4) R4 P.val
def Cr:List RV->Option (List D)
 | []=>some []
 | (d,.fz)::r=>(Cr r).map (d::·)
 | _=>none
theorem FL {F:Fr} {B H:Hp} {σ:St} {ρ:Rho}:∀ {vs:List V} {rs:List RV} {ds:List D},Vl F B H σ ρ vs rs->Cr rs=some ds->aP B vs ds
 | [],[],_,_,h=>by cases h; exact .nil
 | v::vs,(d,k)::rs,ds,V,h=>by
  obtain ⟨⟨h1,_⟩,h2⟩:=V
  cases k with
  | fz =>
   obtain ⟨ds',e1,rfl⟩:=Option.map_eq_some_iff.mp (show (Cr rs).map (d::·)=some ds from h)
   exact .cons h1 (FL h2 e1)
  | _=>cases h
 | [],_::_,_,V,_=>V.elim
 | _::_,[],_,V,_=>V.elim
def goI (f:List D->Option ((D × Bool) × D)) (m:Rho->Option (List RV × Rho)) (fr:List (Str × Nat)) (ρ:Rho) (i:Nat) (s:Sl):List D->D->Option (List D × D)
 | [],d0=>some ([],d0)
 | d::ds,d0=>(m (.fz d::fr.map fun p=>cI (ρ.set i (s.put d0)) p.2)).bind fun x=>(Cr x.1).bind fun as=>(f (d0::as)).bind fun w=>if w.1.2=false then (goI f m fr ρ i s ds w.2).map fun z=>(w.1.1::z.1,z.2) else none
noncomputable def Hs (fr:List (Str × Nat)) (i j:Nat) (it:Rho->Option (List D × Rho)) (f:List D->Option ((D × Bool) × D)) (m:Rho->Option (List RV × Rho)):PM:=fun ρ=>(it ρ).bind fun x=>(ownAt x.2 i).bind fun s=>(goI f m fr x.2 i s x.1 (slD s)).bind fun w=>cIf (w.1.length < sizeLine) (some ((.list w.1,.new),x.2.set i (s.put w.2))) none
theorem Ex (s:Sl) (d e:D):(s.put d).put e=s.put e:=by cases s <;> rfl
theorem Ey {s:Sl} (h:s.dA=true) (d:D):(s.put d).dA=true∧slD (s.put d)=d:=by cases s <;> first | exact ⟨rfl,rfl⟩ | cases h
theorem Cs {s:Sl} (h:s.dA=true):s.put (slD s)=s:=by cases s <;> first | rfl | cases h
theorem Ht {fr:List (Str × Nat)} {i j:Nat} {wi:TI} {it:Rho->Option (List D × Rho)} {f:List D->Option ((D × Bool) × D)} {E:XK} {t:TA} {m:Rho->Option (List RV × Rho)} (hj:(fr.map (·.2))[j]?=some i) (hi:MF wi it) (h:MA t m) :
  ME (tLC fr wi Dx (hI (spI f) [] E (hE (lz (j + 1)) t))) (Hs fr i j it f m):=by
 intro F B H σ ρ r0 ρ' Q R e0 q
 obtain ⟨x,e1,e0⟩:=Option.bind_eq_some_iff.mp e0
 obtain ⟨s,e2,e0⟩:=Option.bind_eq_some_iff.mp e0
 obtain ⟨w,e3,e0⟩:=Option.bind_eq_some_iff.mp e0
 obtain ⟨hz,e0⟩:=cH e0
 cases e0
 refine hi F B H σ ρ x.1 x.2 _ R e1 fun J B1 H1 E1 R1 I1=>?_
 obtain ⟨ds,ρ1⟩:=x
 obtain ⟨hs,ho⟩:=ik e2
 obtain ⟨p,hv,_,_⟩:=R1.ownAt hs ho
 have hil:i < ρ1.length:=(List.getElem?_eq_some_iff.mp hs).1
 have hin:∀ v:V,(some v::bw σ fr)[j + 1]?=some (some (.ref p)):=fun v=>by
  have:(fr[j]?).map (·.2)=some i:=by rw [← List.getElem?_map]; exact hj
  obtain ⟨q,h1,h2⟩:=Option.map_eq_some_iff.mp this
  have hl:i < σ.length:=(List.getElem?_eq_some_iff.mp hv).1
  rw [List.getElem?_cons_succ]
  unfold bw
  rw [List.getElem?_map,h1,Option.map_some,h2]
  have : σ.getD i none=some (.ref p):=by
   rw [List.getD_eq_getElem?_getD,hv]; rfl
  rw [this]
 have self0 : ρ1.set i (s.put (slD s))=ρ1:=by
  rw [Cs ho]
  obtain ⟨hlt,he⟩:=List.getElem?_eq_some_iff.mp hs
  rw [← he]; exact List.set_getElem_self hlt
 refine ⟨fun n m' ys H2=>m'=ds.length - n∧n≤ds.length∧∃ B2 dc done rest,aC B1 B2∧Ext σ ρ1 B1 H1 (ρ1.set i (s.put dc)) B2 H2∧Rel F B2 H2 σ (ρ1.set i (s.put dc))∧aP B2 ys done∧goI f m fr ρ1 i s (ds.drop n) dc=some (rest,w.2)∧done++rest=w.1,
  ⟨ds.length,rfl,Nat.zero_le _,B1,slD s,[],w.1,aC.refl _,by rw [self0]; exact Ext.refl _ _ _ _,by rw [self0]; exact R1,.nil,e3,rfl⟩,?_⟩
 rintro n m' ys H2 ⟨rfl,hnl,B2,dc,done,rest,eB,EE,R2,rp,hgo,hdr⟩
 have hlen:ys.length≤w.1.length:=by rw [← hdr,List.length_append,rp.length]; omega
 refine ⟨by omega,?_⟩
 have sH:aC B1 H2:=eB.trans R2.sub
 by_cases hlt:n < ds.length
 ·refine .inr ?_
  obtain ⟨go,yl⟩:=(I1 H2 sH).2 n ds[n] (List.getElem?_eq_getElem hlt)
  refine ⟨go,fun v H3 hy=>?_⟩
  rw [List.drop_eq_getElem_cons hlt] at hgo
  obtain ⟨y,c1,c2⟩:=Option.bind_eq_some_iff.mp (show (m (.fz ds[n]::fr.map fun p=>cI (ρ1.set i (s.put dc)) p.2)).bind _=some (rest,w.2) from hgo)
  obtain ⟨as,c3,c2⟩:=Option.bind_eq_some_iff.mp c2
  obtain ⟨g,c4,c2⟩:=Option.bind_eq_some_iff.mp c2
  split at c2
  rotate_left
  ·cases c2
  rename_i hg0
  obtain ⟨z,c5,c6⟩:=Option.map_eq_some_iff.mp c2
  have had:∃ B3,aC B2 B3∧Ext σ (ρ1.set i (s.put dc)) B2 H2 (ρ1.set i (s.put dc)) B3 H3∧Rel F B3 H3 σ (ρ1.set i (s.put dc))∧Rep B3 v ds[n]:=by
   rcases yl v H3 hy with ⟨rfl,h2⟩ | ⟨p,xs,cs,h1,rfl,h3,rfl,h5⟩
   ·exact ⟨B2,aC.refl _,Ext.refl _ _ _ _,R2,h2.mono eB⟩
   ·obtain ⟨R3,E3,e3⟩:=R2.qS (xs:=xs) h3
    exact ⟨_,e3,E3,R3,by rw [h1]; exact .tup az (h5.mono (eB.trans e3))⟩
  obtain ⟨B3,eB3,E3,R3,rv⟩:=had
  unfold Dx
  dsimp only
  rw [if_pos rfl]
  have Ri:=R3.inner fr rv
  refine ⟨_,hin v,?_⟩
  refine h (F0 H3) B3 H3 _ _ y.1 y.2 _ Ri c1 fun us B4 H4 E4 R4 V4=>?_
  obtain ⟨eH4,nb4⟩:=jm ib E4
  have R4o:Rel F B4 H4 σ (ρ1.set i (s.put dc)):=R3.grow E4.sB eH4 R4.sub nb4 R4.cC R4.nz
  have E4o:Ext σ (ρ1.set i (s.put dc)) B3 H3 (ρ1.set i (s.put dc)) B4 H4:=Ext.grow E4.sB eH4 nb4
  have hs':(ρ1.set i (s.put dc))[i]?=some (s.put dc):=List.getElem?_set_self hil
  obtain ⟨po,ps⟩:=Ey ho dc
  obtain ⟨⟨gd,gb⟩,g1⟩:=g
  have J2:gb=false:=hg0
  subst J2
  show spI f (V.ref p::us++[]) H4 _ E
  rw [List.append_nil]
  refine xD R4o hs' po hv (FL V4 c3) (by rw [ps]; exact c4) fun u B5 H5 E5 R5 ru=>?_
  rw [Ex,List.set_set] at E5 R5
  have EA:=((EE.trans E3).trans E4o).trans E5
  have sB5:aC B1 B5:=EA.sB
  have e6:gd::z.1=rest:=(Prod.mk.inj c6).1
  have e7:z.2=w.2:=(Prod.mk.inj c6).2
  refine ⟨ds.length - (n + 1),by omega,rfl,hlt,B5,g1,done++[gd],z.1,sB5,EA,R5,?_,by rw [c5,← e7],by rw [← hdr,← e6,List.append_assoc]; rfl⟩
  exact (rp.mono (eB3.trans (E4.sB.trans E5.sB))).append (.cons ru .nil)
 ·have hn':n=ds.length:=by omega
  subst hn'
  refine .inl ⟨(I1 H2 sH).1,fun D hD=>?_⟩
  rw [List.drop_length] at hgo
  have J3:rest=[]∧dc=w.2:=by
   have:=(Option.some.inj (show some (([]:List PyData),dc)=some (rest,w.2) from hgo))
   exact ⟨(congrArg Prod.fst this).symm,congrArg Prod.snd this⟩
  obtain ⟨rfl,rfl⟩:=J3
  rw [List.append_nil] at hdr
  rw [hdr] at rp
  have:=gg (res:=(.list w.1,true)) (k:=fun Q=>∀ p,H2 p=none->Q (.ref p) (upd H2 p (.lst ys))) (Q:=Q) R2 ⟨ys,rp,fun Q h=>h⟩ fun v B' H' E' R' V' N=>q v B' H' ((E1.trans EE).trans E') R' V' fun p z1 z2=>(E1.trans EE).live p (N p z1 z2)
  exact this D hD
end Mir
namespace L2
open PySem PySem.W PySem.Calls PySem.Spec PyProof.Rows
open PySem.AutoSeq1 (wpAny_loadPart')
theorem tuple_addW0 (l b:Addr) (items items2:Array Value) (n n2:Nat) (dd dd2:Option Addr) (sl sl2:Array (Option Value)) (hc0:items.isEmpty=true) :
  Meets (Builtin.«tuple.__add__» ⟨[.ref l,.ref b],[]⟩) (fun _ R s=>s.heap.get? l=some { cls:=.type "tuple",dict:=dd,data:=.seq items n,slots:=sl }∧s.heap.get? b=some { cls:=.type "tuple",dict:=dd2,data:=.seq items2 n2,slots:=sl2 }∧R (.ok (.ret (Value.ref b))) s) :=
 .of_wp fun prog w A R s h=>by
  obtain ⟨hp,g,d,tk,os⟩:=s; obtain ⟨hl,hb,h⟩:=h
  have f2:=PySem.AutoSeq1.sub_tuple_tuple
  wp_walk using wpAny_loadPart' hl,wpAny_loadPart' hb
  exact ⟨_,rfl,h⟩
section
variable {prog:Program} {w:World} {A:Around} {E:Value->Shared->Prop} {s:Shared}
theorem Ct {t b:Addr} {ws:List Value} {Q:Value->Shared->Prop} (ht:IsTup s.heap t ([]:List Value).toArray) (hb:IsTup s.heap b ws.toArray) (h1:Q (.ref b) s):wpAny (model prog w) A (binaryOp .Add (.ref t) (.ref b)) Q E s:=by
 obtain ⟨⟨cls,dd,data,sl⟩,ho,hc,n,hd⟩:=id ht
 obtain ⟨⟨cls2,dd2,data2,sl2⟩,ho2,hc2,n2,hd2⟩:=id hb
 simp only at hc hd hc2 hd2
 subst hc hd hc2 hd2
 exact concat_meets ⟨_,ho,rfl⟩ ⟨_,ho2,rfl⟩ noFill_tuple_add seq_tuple_add PySem.F.slot_tuple_add PySem.F.entry_tuple_add (PySem.F.args_tuple_add_2 _ _)
   (tuple_addW0 t b _ ws.toArray n n2 dd dd2 sl sl2 rfl) ⟨ho,ho2,h1⟩
end
def FO (K:PySem.W.Frag):R2:=fun x y H Q=>∃ a b ys,x=.ref a∧y=.ref b∧SqT K H a []∧SqT K H b ys∧Q (.ref b) H
section
variable {X:Cx}
theorem Ez:OpR X (binaryOp .Add) (FO X.K):=by
 intro pins s σ H x y v u Q I rx ry h
 obtain ⟨a,b,ys,rfl,rfl,ha,hb,q⟩:=h
 cases rx
 cases ry
 obtain ⟨its,r1,p1,_⟩:=I.tuple ha
 obtain ⟨its2,r2,p2,_⟩:=I.tuple hb
 cases r1
 exact Ct p1 p2 ⟨.ref b,H,I,rfl,q⟩
def Cu (K:PySem.W.Frag):R2:=fun x y H Q=>Mir.sZ K x y H Q∨FO K x y H Q
theorem Cv {K:PySem.W.Frag} (h:X.K=K):OpR X (binaryOp .Add) (Cu K):=h ▸ Mir.yz.or Ez
end
end L2
namespace Mir
open PySem L2
variable [Zc]
noncomputable def sh:D->D->Option (D × Bool)
 | .tuple [],.tuple b=>some (.tuple b,false)
 | x,y=>eA x y
theorem Hu {K:PySem.W.Frag}:OpJ (Cu K) sh:=by
 intro B H x y c d res s hx hy e
 unfold sh at e
 split at e
 ·rename_i b
  cases e
  obtain ⟨p,xs,rfl,r1,rp1⟩:=hx.tuple s
  cases rp1
  have hy':Rep B y (.tuple b):=by
   rcases hy with h | ⟨p,rfl,h⟩
   ·exact h
   ·cases h
  refine ⟨y,hy',fun Q q=>.inr ?_⟩
  cases hy' with
  | tup h r =>
   exact ⟨_,_,_,rfl,rfl,.inl (.inl r1),.inl (.inl (s _ _ h)),q⟩
 ·have:=gM (K:=K) B H x y c d res s hx hy e
  obtain ⟨r0,o⟩:=res
  cases o with
  | false=>obtain ⟨v,h1,h2⟩:=this; exact ⟨v,h1,fun Q q=>.inl (h2 Q q)⟩
  | true =>
   cases r0 with
   | list ds=>obtain ⟨v,h1,h2⟩:=this; exact ⟨v,h1,fun Q q=>.inl (h2 Q q)⟩
   | tuple ds=>obtain ⟨v,h1,h2⟩:=this; exact ⟨v,h1,fun Q q=>.inl (h2 Q q)⟩
   | dict ds=>obtain ⟨v,h1,h2⟩:=this; exact ⟨v,h1,fun Q q=>.inl (h2 Q q)⟩
   | _=>exact this
theorem Ad (a b:List D) (h:a.length + b.length≤100000) (hb:b≠[]):∃ o,sh (.tuple a) (.tuple b)=some (.tuple (a++b),o):=by
 cases a with
 | nil=>exact ⟨false,rfl⟩
 | cons c a=>exact ⟨true,by show cIf _ _ _=_; rw [b0 ⟨rS h,hb⟩]⟩
end Mir
namespace Mir
open PySem L2
section
variable [Zc]
def Ag (N:List Nat) (σ σ':St):Prop:=σ'.length=σ.length∧∀ n,n ∉ N->σ'[n]?=σ[n]?
theorem Ag.refl (N:List Nat) (σ:St):Ag N σ σ:=⟨rfl,fun _ _=>rfl⟩
theorem Ag.trans {N:List Nat} {σ σ1 σ2:St} (a:Ag N σ σ1) (b:Ag N σ1 σ2):Ag N σ σ2:=⟨b.1.trans a.1,fun n h=>(b.2 n h).trans (a.2 n h)⟩
theorem Ag.set {N:List Nat} {σ:St} {i:Nat} (h:i∈N) (v:Option V):Ag N σ (σ.set i v):=⟨List.length_set,fun n hn=>List.getElem?_set_ne (fun e:i=n=>hn (by rw [← e]; exact h))⟩
def nD (N:List Nat) (σ0:St) (F:Fr) (D:Ends):Out->Prop
 | .nx ρ=>∀ B H σ,Rel F B H σ ρ->Ag N σ0 σ->D.nx σ H
 | .rt r ρ=>∀ v B H σ,Rel F B H σ ρ->Val F B H σ ρ v r->D.rt v H
 | .bk ρ=>∀ B H σ,Rel F B H σ ρ->Ag N σ0 σ->D.bk σ H
 | .ct ρ=>∀ B H σ,Rel F B H σ ρ->Ag N σ0 σ->D.ct σ H
theorem nD.step {N:List Nat} {σ σ1:St} {F:Fr} {D:Ends} {o:Out} (h:nD N σ F D o) (a:Ag N σ σ1):nD N σ1 F D o:=by
 cases o with
 | nx ρ=>exact fun B H σ' R b=>h B H σ' R (a.trans b)
 | bk ρ=>exact fun B H σ' R b=>h B H σ' R (a.trans b)
 | ct ρ=>exact fun B H σ' R b=>h B H σ' R (a.trans b)
 | rt r ρ=>exact h
theorem nD.down {N:List Nat} {σ:St} {F:Fr} {B1 H1:Hp} {σ1:St} {ρ1:Rho} (R1:Rel F B1 H1 σ1 ρ1) {D:Ends} {o:Out} (h:nD N σ F D o):nD N σ ⟨B1,F.H,F.io,F.Z⟩ D o:=by
 cases o with
 | nx ρ=>exact fun B H σ R a=>h B H σ (R1.up R) a
 | bk ρ=>exact fun B H σ R a=>h B H σ (R1.up R) a
 | ct ρ=>exact fun B H σ R a=>h B H σ (R1.up R) a
 | rt r ρ=>exact fun v B H σ R V=>h v B H σ (R1.up R) V
variable {N:List Nat}
theorem Rel.Ae {F:Fr} {B H:Hp} {σ:St} {ρ:Rho} {p:Addr} {xs:List V} (R:Rel F B H σ ρ) (hB:B p=none) (hF:F.H p=none) (hH:H p=some (.lst xs)) (hn:∀ (n:Nat) (s:Sl),ρ[n]?=some s->s.isRef=true->σ[n]?≠some (some (.ref p))) (ys:List V):Rel F B (upd H p (.lst ys)) σ ρ:=by
 refine ⟨fun q o h=>?_,R.sB,fun q o h hx=>?_,R.nB,R.len,fun n s hs=>?_,R.dist,R.jl,R.fx,R.ioN,fun q zs h=>?_,R.exv,fun q o u h=>?_⟩
 ·rw [aq (fun z=>by rw [z,hB] at h; cases h)]; exact R.sub q o h
 ·rw [aq (fun z=>by rw [z,hF] at h; cases h)]; exact R.sH q o h hx
 ·have ok:=R.slot n s hs
  have ne:s.isRef=true->∀ q,σ[n]?=some (some (.ref q))->∀ o,H q=some o->upd H p (.lst ys) q=some o:=fun hr q hq o ho=>by
   rw [aq (fun z=>hn n s hs hr (by rw [hq,z]))]; exact ho
  cases s with
  | no=>trivial
  | ex=>trivial
  | fz d=>exact ok
  | own d=>obtain ⟨q,h1,h2,h3⟩:=ok; exact ⟨q,h1,h2,h3.mono (aC.refl _) (ne rfl q h1)⟩
  | io d=>obtain ⟨q,h1,h2,h3⟩:=ok; exact ⟨q,h1,h2,h3.mono (aC.refl _) (ne rfl q h1)⟩
  | ro d=>obtain ⟨q,h1,h3⟩:=ok; exact ⟨q,h1,h3.mono (aC.refl _) (ne rfl q h1)⟩
 ·by_cases z:q=p
  ·subst z; rw [az] at h; cases h
  ·rw [aq z] at h; exact R.cC q zs h
 ·by_cases z:q=p
  ·subst z; rw [az] at h; cases h
  ·rw [aq z] at h; exact R.nz q o u h
structure Hv (F:Fr) (B H:Hp) (σ:St) (ρ:Rho) (i:Nat) (ps:List Addr) (b:Nat):Prop where
 here:∃ a,σ[i]?=some (some (.ref a))∧H a=some (.tup (ps.map .ref))
 lst:∀ p∈ps,∃ xs,H p=some (.lst xs)∧xs.length≤b
 out:∀ p∈ps,B p=none∧F.H p=none
 free:∀ p∈ps,∀ (n:Nat) (s:Sl),ρ[n]?=some s->s.isRef=true->σ[n]?≠some (some (.ref p))
theorem Hv.Ae {F:Fr} {B H:Hp} {σ:St} {ρ:Rho} {i:Nat} {ps:List Addr} {p:Addr} {b:Nat} (d:Hv F B H σ ρ i ps b) (hp:p∈ps) (ys:List V) (b2:Nat) (hb:b≤b2) (hy:ys.length≤b2):Hv F B (upd H p (.lst ys)) σ ρ i ps b2:=by
 obtain ⟨xs,hx,_⟩:=d.lst p hp
 refine ⟨?_,fun q hq=>?_,d.out,d.free⟩
 ·obtain ⟨a,h1,h2⟩:=d.here
  exact ⟨a,h1,by rw [aq (fun z=>by rw [z,hx] at h2; cases h2)]; exact h2⟩
 ·by_cases z:q=p
  ·subst z; exact ⟨ys,az,hy⟩
  ·rw [aq z]; obtain ⟨zs,h1,h2⟩:=d.lst q hq; exact ⟨zs,h1,Nat.le_trans h2 hb⟩
structure Sv (N:List Nat) (i:Nat) (F:Fr) (Bs:Hp) (σs:St) (ρs:Rho) (ps:List Addr) (b:Nat) (B:Hp) (σ:St):Prop where
 slot:∀ (n:Nat) (d:D),n≠i->ρs[n]?=some (.fz d)->∃ v,σs[n]?=some (some v)∧Rep Bs v d
 sBs:aC F.B Bs
 nBs:∀ q,F.H q≠none->F.B q=none->Bs q=none
 sB:aC Bs B
 ag:Ag N σs σ
 ni:i ∉ N
 here:∃ a,σs[i]?=some (some (.ref a))∧B a=some (.tup (ps.map .ref))
 out:∀ p∈ps,Bs p=none∧F.H p=none
 lst:∀ p∈ps,∃ xs,B p=some (.lst xs)∧xs.length≤b
 len : ρs.length=σs.length
 io:F.io=[]
theorem Sv.go {N:List Nat} {i:Nat} {F:Fr} {Bs B B':Hp} {σs σ σ':St} {ρs:Rho} {ps:List Addr} {b:Nat} (s:Sv N i F Bs σs ρs ps b B σ) (e:aC B B') (a:Ag N σ σ'):Sv N i F Bs σs ρs ps b B' σ':=by
 refine ⟨s.slot,s.sBs,s.nBs,s.sB.trans e,s.ag.trans a,s.ni,?_,s.out,fun p hp=>?_,s.len,s.io⟩
 ·obtain ⟨c,h1,h2⟩:=s.here; exact ⟨c,h1,e _ _ h2⟩
 ·obtain ⟨xs,h1,h2⟩:=s.lst p hp; exact ⟨xs,e _ _ h1,h2⟩
end
end Mir
namespace Mir
open PySem L2
def xE:D->Bool
 | .list _=>false
 | .tuple _=>false
 | _=>true
mutual
inductive Nw (G B:Hp):V->D->Prop
 | lst {p:Addr} {xs:List V} {ds:List D}:G p=none->B p=some (.lst xs)->xs.length=ds.length->Nw G B (.ref p) (.list ds)
 | tup {a:Addr} {xs:List V} {ds:List D}:B a=some (.tup xs)->Nws G B xs ds->Nw G B (.ref a) (.tuple ds)
 | oth {v:V} {d:D}:xE d=true->Nw G B v d
inductive Nws (G B:Hp):List V->List D->Prop
 | nil:Nws G B [] []
 | cons {v:V} {vs:List V} {d:D} {ds:List D}:Nw G B v d->Nws G B vs ds->Nws G B (v::vs) (d::ds)
end
mutual
theorem Nw.mono {G B B':Hp} (e:aC B B'):∀ {v:V} {d:D},Nw G B v d->Nw G B' v d
 | _,_,.lst a b c=>.lst a (e _ _ b) c
 | _,_,.tup a b=>.tup (e _ _ a) (Nws.mono e b)
 | _,_,.oth a=>.oth a
theorem Nws.mono {G B B':Hp} (e:aC B B'):∀ {v:List V} {d:List D},Nws G B v d->Nws G B' v d
 | _,_,.nil=>.nil
 | _,_,.cons a b=>.cons (Nw.mono e a) (Nws.mono e b)
end
mutual
theorem Nw.pure {G B:Hp}:∀ {v:V} {d:D},Rep B v d->eI d=true->Nw G B v d
 | _,_,.non,_=>.oth rfl
 | _,_,.bl b,_=>.oth rfl
 | _,_,.int i,_=>.oth rfl
 | _,_,.str x,_=>.oth rfl
 | _,_,.lst _ _,h=>by simp [eI] at h
 | _,_,.dct _ _,h=>by simp [eI] at h
 | _,_,.tup h r,e=>.tup h (Nws.pure r (by simpa [eI] using e))
theorem Nws.pure {G B:Hp}:∀ {v:List V} {d:List D},aP B v d->bI d=true->Nws G B v d
 | _,_,.nil,_=>.nil
 | _,_,.cons a b,e=>by
  simp only [bI,Bool.and_eq_true] at e
  exact .cons (Nw.pure a e.1) (Nws.pure b e.2)
end
theorem Nw.own {G B0 B H:Hp} {p:Addr} {d:D} (hG:G p=none) (o:Own B0 H p d) (r:Rep B (.ref p) d) (s:aC B H):Nw G B (.ref p) d:=by
 cases o with
 | dct h _=>exact .oth rfl
 | lst h _ =>
  cases r with
  | lst hr rr =>
   rcases hr with e | ⟨u,e⟩
   ·exact .lst hG e rr.length
   ·have:=s _ _ e
    rw [h] at this
    cases this
section
variable [Zc]
def MEW (t:TE) (m:PM):Prop:=∀ (F:Fr) (B H:Hp) (σ:St) (ρ:Rho) (r:RV) (ρ':Rho) (Q:VK),Rel F B H σ ρ->m ρ=some (r,ρ') ->
  (∀ v B' H',Ext σ ρ B H ρ' B' H'->Rel F B' H' σ ρ'->Val F B' H' σ ρ' v r->(∀ p,r.2=.new->v=.ref p->H p=none)->(r.2=.fz->Nw F.H B' v r.1)->Q v H')->t σ H Q
theorem MEW.sv {t:TE} {m:PM} (h:MEW t m):MEW t (sv m):=by
 intro F B H σ ρ r ρ' Q R e q
 unfold Mir.sv at e
 split at e
 ·rename_i d ρ1 e1
  cases e
  refine h F B H σ ρ _ _ Q R e1 fun v B' H' E R' V' N W=>?_
  obtain ⟨B2,R2,rp,s2,k2⟩:=R'.rP V'
  obtain ⟨p,rfl,hB,hF,o,nn⟩:=V'
  refine q _ B2 H' ⟨E.sB.trans s2,fun q o h1 h2=>?_,E.own,E.ref,E.live⟩ R2 rp (fun _ z=>by cases z) (fun _=>Nw.own hF o rp R2.sub)
  obtain ⟨h3,h4⟩:=E.keep q o h1 h2
  refine ⟨h3,fun z=>?_⟩
  by_cases y:q=p
  ·subst y
   exact absurd (N q rfl rfl) (by rw [h1]; simp)
  ·rw [k2 q (fun z=>y (by cases z; rfl))]; exact h4 z
 ·rename_i hx
  exact h F B H σ ρ r ρ' Q R e q
def NwL (G B:Hp):List V->List RV->Prop
 | [],[]=>True
 | v::vs,r::rs=>(r.2=.fz->Nw G B v r.1)∧NwL G B vs rs
 | _,_=>False
theorem NwL.mono {G B B':Hp} (e:aC B B'):∀ {vs:List V} {rs:List RV},NwL G B vs rs->NwL G B' vs rs
 | [],[],_=>trivial
 | _::_,_::_,⟨a,b⟩=>⟨fun z=>(a z).mono e,NwL.mono e b⟩
 | [],_::_,h=>h.elim
 | _::_,[],h=>h.elim
def nr (m:SM):SM:=fun ρ=>(m ρ).bind fun o=>match o with
 | .rt _ _=>none
 | o=>some o
end
end Mir
namespace Mir
open PySem L2
mutual
inductive NwB (G Bs B:Hp) (b:Nat):V->D->Prop
 | lst {p:Addr} {xs:List V} {ds:List D}:G p=none->Bs p=none->B p=some (.lst xs)->xs.length≤b->NwB G Bs B b (.ref p) (.list ds)
 | tup {a:Addr} {xs:List V} {ds:List D}:B a=some (.tup xs)->ml G Bs B b xs ds->NwB G Bs B b (.ref a) (.tuple ds)
 | oth {v:V} {d:D}:xE d=true->NwB G Bs B b v d
inductive ml (G Bs B:Hp) (b:Nat):List V->List D->Prop
 | nil:ml G Bs B b [] []
 | cons {v:V} {vs:List V} {d:D} {ds:List D}:NwB G Bs B b v d->ml G Bs B b vs ds->ml G Bs B b (v::vs) (d::ds)
end
mutual
theorem NwB.mono {G Bs B B':Hp} {b:Nat} (e:aC B B'):∀ {v:V} {d:D},NwB G Bs B b v d->NwB G Bs B' b v d
 | _,_,.lst a b c d=>.lst a b (e _ _ c) d
 | _,_,.tup a b=>.tup (e _ _ a) (ml.mono e b)
 | _,_,.oth a=>.oth a
theorem ml.mono {G Bs B B':Hp} {b:Nat} (e:aC B B'):∀ {v:List V} {d:List D},ml G Bs B b v d->ml G Bs B' b v d
 | _,_,.nil=>.nil
 | _,_,.cons a b=>.cons (NwB.mono e a) (ml.mono e b)
end
mutual
def tT:D->Bool
 | .list ds=>decide (ds.length≤90000)
 | .tuple ds=>oU ds
 | .none=>true
 | .bool _=>true
 | .int _=>true
 | .str _=>true
 | .dict _=>true
def oU:List D->Bool
 | []=>true
 | d::ds=>tT d && oU ds
end
mutual
theorem NwB.of {G G' Bs B:Hp} (k:∀ p,G p=none->G' p=none∧Bs p=none):∀ {v:V} {d:D},Nw G B v d->tT d=true->NwB G' Bs B 90000 v d
 | _,_,.lst a b c,h=>.lst (k _ a).1 (k _ a).2 b (by rw [c]; simpa [tT] using h)
 | _,_,.tup a b,h=>.tup a (ml.of k b (by simpa [tT] using h))
 | _,_,.oth a,_=>.oth a
theorem ml.of {G G' Bs B:Hp} (k:∀ p,G p=none->G' p=none∧Bs p=none):∀ {v:List V} {d:List D},Nws G B v d->oU d=true->ml G' Bs B 90000 v d
 | _,_,.nil,_=>.nil
 | _,_,.cons a b,h=>by
  simp only [oU,Bool.and_eq_true] at h
  exact .cons (NwB.of k a h.1) (ml.of k b h.2)
end
mutual
inductive Dd (G B H:Hp) (b:Nat):V->D->Prop
 | lst {p:Addr} {xs:List V} {ds:List D}:G p=none->B p=none->H p=some (.lst xs)->xs.length≤b->Dd G B H b (.ref p) (.list ds)
 | tup {a:Addr} {xs:List V} {ds:List D}:H a=some (.tup xs)->Dds G B H b xs ds->Dd G B H b (.ref a) (.tuple ds)
 | oth {v:V} {d:D}:xE d=true->Dd G B H b v d
inductive Dds (G B H:Hp) (b:Nat):List V->List D->Prop
 | nil:Dds G B H b [] []
 | cons {v:V} {vs:List V} {d:D} {ds:List D}:Dd G B H b v d->Dds G B H b vs ds->Dds G B H b (v::vs) (d::ds)
end
mutual
theorem Dd.of {G Bs B B5 H:Hp} {b:Nat} (s:aC B H) (k:∀ p xs,B p=some (.lst xs)->Bs p=none->B5 p=none):∀ {v:V} {d:D},NwB G Bs B b v d->Dd G B5 H b v d
 | _,_,.lst a b c d=>.lst a (k _ _ c b) (s _ _ c) d
 | _,_,.tup a b=>.tup (s _ _ a) (Dds.of s k b)
 | _,_,.oth a=>.oth a
theorem Dds.of {G Bs B B5 H:Hp} {b:Nat} (s:aC B H) (k:∀ p xs,B p=some (.lst xs)->Bs p=none->B5 p=none):∀ {v:List V} {d:List D},ml G Bs B b v d->Dds G B5 H b v d
 | _,_,.nil=>.nil
 | _,_,.cons a b=>.cons (Dd.of s k a) (Dds.of s k b)
end
mutual
theorem Dd.Ae {G B H:Hp} {b b2:Nat} {p:Addr} {ys:List V} (hp:∃ xs,H p=some (.lst xs)) (hb:b≤b2) (hy:ys.length≤b2):∀ {v:V} {d:D},Dd G B H b v d->Dd G B (upd H p (.lst ys)) b2 v d
 | _,_,.lst (p:=q) h1 h2 h3 h4=>by
  by_cases z:q=p
  ·subst z; exact .lst h1 h2 az hy
  ·exact .lst h1 h2 (by rw [aq z]; exact h3) (Nat.le_trans h4 hb)
 | _,_,.tup (a:=q) h1 h2=>by
  refine .tup ?_ (Dds.Ae hp hb hy h2)
  rw [aq (fun z=>by obtain ⟨xs,hx⟩:=hp; rw [z,hx] at h1; cases h1)]; exact h1
 | _,_,.oth a=>.oth a
theorem Dds.Ae {G B H:Hp} {b b2:Nat} {p:Addr} {ys:List V} (hp:∃ xs,H p=some (.lst xs)) (hb:b≤b2) (hy:ys.length≤b2):∀ {v:List V} {d:List D},Dds G B H b v d->Dds G B (upd H p (.lst ys)) b2 v d
 | _,_,.nil=>.nil
 | _,_,.cons a c=>.cons (Dd.Ae hp hb hy a) (Dds.Ae hp hb hy c)
end
theorem Dds.get {G B H:Hp} {b:Nat}:∀ {vs:List V} {ds:List D} (j:Nat) {d:D},Dds G B H b vs ds->ds[j]?=some d->∃ v,vs[j]?=some v∧Dd G B H b v d
 | _,_,_,_,.nil,e=>by simp at e
 | _,_,0,_,.cons a _,e=>by simp at e; subst e; exact ⟨_,rfl,a⟩
 | _,_,j + 1,_,.cons _ c,e=>by
  obtain ⟨v,h1,h2⟩:=Dds.get j c (by simpa using e)
  exact ⟨v,by simpa using h1,h2⟩
section
variable [Zc]
structure Sg (N:List Nat) (i:Nat) (F:Fr) (Bs:Hp) (σs:St) (ρs:Rho) (v:V) (d:D) (b:Nat) (B:Hp) (σ:St):Prop where
 slot:∀ (n:Nat) (d:D),n≠i->ρs[n]?=some (.fz d)->∃ v,σs[n]?=some (some v)∧Rep Bs v d
 sBs:aC F.B Bs
 nBs:∀ q,F.H q≠none->F.B q=none->Bs q=none
 sB:aC Bs B
 ag:Ag N σs σ
 ni:i ∉ N
 here : σs[i]?=some (some v)
 nw:NwB F.H Bs B b v d
 len : ρs.length=σs.length
 io:F.io=[]
theorem Sg.go {N:List Nat} {i:Nat} {F:Fr} {Bs B B':Hp} {σs σ σ':St} {ρs:Rho} {v:V} {d:D} {b:Nat} (s:Sg N i F Bs σs ρs v d b B σ) (e:aC B B') (a:Ag N σ σ'):Sg N i F Bs σs ρs v d b B' σ' :=
 ⟨s.slot,s.sBs,s.nBs,s.sB.trans e,s.ag.trans a,s.ni,s.here,s.nw.mono e,s.len,s.io⟩
variable {N:List Nat}
end
end Mir
namespace L2
open PySem PySem.Spec PyProof.Rows
end L2
namespace Mir
open PySem L2
section
variable [Zc]
def n0 (as:List D):List D:=as.mapIdx fun i a=>PyData.tuple [.int i,a]
theorem Af {as:List D} {i:Nat} {d:D} (h:(n0 as)[i]?=some d):∃ a,d=.tuple [.int i,a]∧as[i]?=some a:=by
 unfold n0 at h
 rw [List.getElem?_mapIdx] at h
 obtain ⟨a,h1,h2⟩:=Option.map_eq_some_iff.mp h
 exact ⟨a,h2.symm,h1⟩
theorem Hw {K:PySem.W.Frag} {G B:Hp} {p:Addr} {xs:List V} {as:List D} (h1:Rd G p (.lst xs)) (r1:aP B xs as):l4 G B (Ite K p) (n0 as):=fun H s=>by
 have g1:SqL K H p xs:=jU (d7 s h1)
 refine ⟨⟨xs,g1,by rw [r1.length]; simp [n0]⟩,fun i d hd=>?_⟩
 obtain ⟨a,rfl,ha⟩:=Af hd
 obtain ⟨x,x1,x2⟩:=r1.get i a ha
 refine ⟨⟨xs,x,g1,x1⟩,fun v H' hy=>?_⟩
 obtain ⟨p',x',rfl,hp,rfl,e1⟩:=hy
 have e1':=e1 xs g1
 rw [x1] at e1'
 cases e1'
 exact .inr ⟨p',[.int i,x],[.int i,a],rfl,rfl,hp,rfl,.cons (.int _) (.cons x2 .nil)⟩
def Jm (m:Rho->Option (List RV × Rho)):Rho->Option (List D × Rho):=fun ρ=>((m ρ).bind GQ).bind fun x=>(j6 x.1 x.2).bind fun y=>(asL y.1).map fun ds=>(n0 ds,y.2)
section
variable {K:PySem.W.Frag} {ta:TA} {m:Rho->Option (List RV × Rho)}
theorem EB (h:MA ta m):MF (FJ K ta) (Jm m):=by
 intro F B H σ ρ ds ρ' Q R e q
 obtain ⟨x,e0,e⟩:=Option.bind_eq_some_iff.mp e
 obtain ⟨x0,e1,e3⟩:=Option.bind_eq_some_iff.mp e0
 obtain ⟨y,e4,e⟩:=Option.bind_eq_some_iff.mp e
 obtain ⟨ds',e2,e⟩:=Option.map_eq_some_iff.mp e
 cases e
 rw [DI e3] at e1
 refine h F B H σ ρ _ _ _ R e1 fun vs B1 H1 E1 R1 V1=>?_
 match vs,V1 with
 | [v],V1 =>
  obtain ⟨B2,R2,rp,E2⟩:=R1.frz V1.weak.1 e4
  rw [xg e2] at rp
  cases rp with
  | lst h r=>exact ⟨_,_,rfl,jU (d7 R2.sub h),q _ B2 H1 (E1.trans E2) R2 (Hw h r)⟩
end
end
end Mir
namespace L2
open PySem
def FP (xs:List V) (H:Hp) (Q:VK):Prop:=GC xs H Q∨∃ a o kvs n,xs=[.ref a,.ty n]∧(H a=some (.dK kvs)∨H a=some (.frz o (.dK kvs)))∧n∈df∧Q (.bl (lY "dict" n)) H
theorem nE {X:Cx}:dU X (.builtin "isinstance") FP:=by
 intro pins s σ H xs us Q I r h
 rcases h with h | ⟨a,o,kvs,n,rfl,hd,h2,q⟩
 ·exact hW pins s σ H xs us Q I r h
 ·obtain ⟨u,v,rfl,ru,rv⟩:=vals2 r
  cases rv
  have fin:∀ {vs} {h:Heap},h=s.heap->h.DictOf (bW X.prog X.w) a vs->wpAny (model X.prog X.w) X.A (call (.builtin "isinstance") [u,.type n]) (EP X pins σ Q) X.xe s:=fun {vs h} eh p=>by
   subst eh
   cases (show u=Value.ref a from ru)
   obtain ⟨o,es,ep,h1,h3,_⟩:=p
   exact PySem.W.kia_one PySem.W.kitx_dict I.kIn ⟨o,h1,h3.1⟩ (rN X.K "dict" (by decide) n h2) (fun z=>nomatch z) fun tk=>⟨.bl _,H,I.tok tk,rfl,q⟩
  rcases hd with hd | hd
  ·obtain ⟨_,_,vs,_,p⟩:=(show b9 X.prog X.w H s.heap a (.dK kvs) from I.hok a _ hd)
   exact fin rfl p
  ·obtain ⟨_,_,_,vs,_,p⟩:=(show b9 X.prog X.w H s.heap a (.frz o (.dK kvs)) from I.hok a _ hd)
   exact fin rfl p
end L2
namespace Mir
open PySem L2
section
variable [Zc]
def vG (n:String):D->Option (D × Bool)
 | .dict _=>if n∈df then some (.bool (lY "dict" n),false) else none
 | d=>j9 n d
def mm (n:String) (a:PM):PM:=mUn (vG n) a
theorem tU {n:String} {ta:TE} {a:PM} (ha:ME ta a):ME (tCB FP (hE ta (hE (tC (.ty n)) w9))) (mm n a):=by
 intro F B H σ ρ r0 ρ' Q R e q
 obtain ⟨x,e1,e⟩:=Option.bind_eq_some_iff.mp e
 obtain ⟨res,e4,e⟩:=Option.map_eq_some_iff.mp e
 cases e
 by_cases hd:∃ es,x.1.1=.dict es
 ·obtain ⟨es,hd⟩:=hd
  refine ha.sv F B H σ ρ x.1 x.2 _ R e1 fun v B1 H1 E1 R1 V1 N1=>?_
  rw [hd] at e4
  have e4':(if n∈df then some ((PyData.bool (lY "dict" n),false):D × Bool) else none)=some res:=e4
  by_cases hn:n∈df
  ·rw [if_pos hn] at e4'
   cases e4'
   have rp:=(V1.view R1).rep R1.sub
   rw [hd] at rp
   cases rp with
   | dct h _ =>
    rcases h with h | ⟨o,h⟩
    ·exact .inr ⟨_,⟨.none,none,.plain,#[]⟩,_,n,rfl,.inl h,hn,q _ B1 H1 E1 R1 (.bl _) fun p z=>by cases z⟩
    ·exact .inr ⟨_,o,_,n,rfl,.inr h,hn,q _ B1 H1 E1 R1 (.bl _) fun p z=>by cases z⟩
  ·rw [if_neg hn] at e4'; cases e4'
 ·have e5:j9 n x.1.1=some res:=by
   revert e4 hd
   cases x.1.1 with
   | dict es=>intro _ hd; exact absurd ⟨es,rfl⟩ hd
   | _=>intro e4 _; exact e4
  refine ha.sv F B H σ ρ x.1 x.2 _ R e1 fun v B1 H1 E1 R1 V1 N1=>.inl ?_
  unfold j9 at e5
  split at e5
  ·rename_i hd'
   cases e5
   have rp:=(V1.view R1).rep R1.sub
   have ht:=rp.ty hd'.1
   have hk:tyD x.1.1∈cG:=by
    have h2:=hd'.1
    revert h2
    cases x.1.1 with
    | none=>intro _; show "NoneType"∈cG; decide
    | bool _=>intro _; show "bool"∈cG; decide
    | int _=>intro _; show "int"∈cG; decide
    | str _=>intro _; show "str"∈cG; decide
    | list _=>intro _; show "list"∈cG; decide
    | tuple _=>intro _; show "tuple"∈cG; decide
    | dict _=>intro h2; exact absurd rfl h2
   exact ⟨v,n,rfl,by rw [ht]; exact hk,hd'.2,by rw [ht]; exact q _ B1 H1 E1 R1 (.bl _) fun p z=>by cases z⟩
  ·cases e5
end
end Mir
namespace L2
open PySem
theorem hv1 {a b c:Nat} (h:a + b < c) (hb : 1≤b:=by decide):a + 1 < c:=by omega
theorem EC {X:Cx} {K:PySem.W.Frag} (h:X.K=K):SlR X (Gq K):=h ▸ Gr
end L2
namespace Mir
open PySem L2
noncomputable def Ah:D->Option Int->Option Int->Option (D × Bool)
 | .tuple ds,lo,hi=>cIf (¬ (HT.sIx ds.length 0 lo=0∧HT.sIx ds.length ds.length hi=ds.length)) (some (.tuple (cutD ds lo hi),true)) none
 | _,_,_=>none
theorem Jn {K:PySem.W.Frag}:SlJ (Gq K) Ah:=by
 intro B H x c l u res s hx e
 unfold Ah at e
 split at e
 ·obtain ⟨hz,e⟩:=cH e
  cases e
  obtain ⟨p,xs,rfl,r1,rp1⟩:=hx.tuple s
  exact ⟨_,rp1.cut _ _,fun Q q=>⟨_,_,rfl,.inl (.inl r1),by rw [rp1.length]; exact hz,q⟩⟩
 ·cases e
end Mir
namespace aL
open PySem
structure Row where
 key:Int
 above:Option Str
 mark:Bool
 below:List Str
section
variable {α:Type} [DecidableEq α]
theorem qe:∀ (l k:List α),l.Nodup->(∀ x∈l,x∈k)->l.length≤k.length
 | [],_,_,_=>Nat.zero_le _
 | a::l,k,h,hs=>by
  have ha:=hs a List.mem_cons_self
  have hn:=List.nodup_cons.mp h
  have:=qe l (k.erase a) hn.2 fun x hx=>(List.mem_erase_of_ne (fun e=>hn.1 (by rw [← e]; exact hx))).mpr (hs x (List.mem_cons_of_mem _ hx))
  rw [List.length_erase_of_mem ha] at this
  have : 0 < k.length:=List.length_pos_of_mem ha
  rw [List.length_cons]
  omega
end
variable (keys:List Str) (row:Str->Row)
def FQ:Nat->Option Str->Option Str
 | 0,x=>x
 | _ + 1,none=>none
 | k + 1,some n=>if n∈keys then FQ k (row n).above else some n
def reach:Nat->Str->Bool
 | 0,_=>false
 | k + 1,n=>if n∈keys then (match (row n).above with
  | none=>true
  | some a=>reach k a) else false
variable (lt:Int->Str->Int->Str->Bool)
structure J7 (aj:List Str):Prop where
 aj:aj.Perm (keys.filter fun n=>(row n).above.isNone)
 mark:∀ n∈keys,(row n).above=none->(row n).mark=false
 up:∀ n∈keys,∀ a,(row n).above=some a->a∈keys∧(row a).below.count n=1∧lt (row n).key n (row a).key a=false
 down:∀ n∈keys,∀ (i:Nat) (l:Str),(row n).below[i]?=some l->l∈keys∧(row l).above=some n∧(i:Int) - (if (row l).mark then 1 else 0)≤((row l).below.length:Int)
 come:∀ n∈keys,FQ keys row keys.length (some n)=none
structure J8 (aj:List Str):Prop where
 Ka:∀ n∈aj,aj.count n=1∧n∈keys∧(row n).above=none
 top2:∀ n∈keys,(row n).above=none->n∈aj
 mark:∀ n∈keys,(row n).above=none->(row n).mark=false
 up:∀ n∈keys,∀ a,(row n).above=some a->a∈keys∧n∈(row a).below∧lt (row n).key n (row a).key a=false
 down:∀ n∈keys,∀ (i:Nat) (l:Str),(row n).below[i]?=some l->l∈keys∧l ∉ (row n).below.take i∧(row l).above=some n∧(i:Int) - (if (row l).mark then 1 else 0)≤((row l).below.length:Int)
 come:∀ n∈keys,reach keys row (keys.length + 1) n=true
end aL
set_option maxHeartbeats 4000000
namespace K75
open PySem L2 Mir
noncomputable def gS:SM :=
  (bM (de 5 (mOp gIx (ai 0) (mOp cJ (mOp eA (ai 2) (ai 3)) (mCB dH (ah (ai 0) aD)))))
  (bM (de 6 (mOp gIx (ai 0) (mOp cJ (mOp eA (ai 2) (ai 4)) (mCB dH (ah (ai 0) aD)))))
  (gr (aF (mOp gEq (mCB dH (ah (mOp gIx (mOp cR (ai 1) (ai 5)) (mC (.int 3))) aD)) (mCB dH (ah (mOp gIx (mOp cR (ai 1) (ai 6)) (mC (.int 3))) aD))))
  (eu (dn (ah (ai 5) (ah (ai 6) aD))))
  e9)))
noncomputable def mn:SM :=
  (uW (sV (ah (ai 3) aD)) (mgN 4)
  gS)
noncomputable def xF:SM :=
  (bM (uW (sV (ah (mCB dH (ah (ai 0) aD)) aD)) (mgN 3)
  mn)
  (eu (dn aD)))
noncomputable def jG:List D->Option (D × Bool):=fnM 3 4 xF
noncomputable def vH:Rho->Option (Bool × Rho) :=
  (aF (mOp gNe (ai 0) (ai 1)))
noncomputable def vI:PM :=
  (ai 0)
noncomputable def oa:Rho->Option (Bool × Rho) :=
  (aF (ai 4))
noncomputable def kq:SM :=
  (bM (jW (mOp cR (ai 1) (ai 2)) (mgU 4 (aT (mgN 5) (aT (mgN 6) (aT (mgN 7) (aT (mgN 8) ez))))))
  (bM (iM 1 (fm (ah (ai 5) (ah (mC .none) (ah (mC (.bool false)) (ah (ai 8) aD))))) (ai 2))
  (bM (fc (pj 0 gi (ah (ai 2) aD)))
  (bM (fc (pj 3 gi (ah (fm (ah (mC (.str "cut")) (ah (ai 2) aD))) aD)))
  (bM (jW (mOp cR (ai 1) (ai 6)) (mgU 4 (aT (mgN 5) (aT (mgN 9) (aT (mgN 10) (aT (mgN 8) ez))))))
  (bM (de 8 (mCB qc (ah (mLC [("_law_name",2)] (Bh (ai 8)) vH vI) aD)))
  (bM (iM 1 (fm (ah (ai 5) (ah (ai 9) (ah (mOp ic (ai 9) (mC .none)) (ah (ai 8) aD))))) (ai 6))
  (bM (de 4 (ai 10))
  (de 2 (ai 6))))))))))
noncomputable def Ai:SM :=
  (bM (de 3 (dn aD))
  (bM (de 4 (mOp ic (mOp gIx (mOp cR (ai 1) (ai 2)) (mC (.int 1))) (mC .none)))
  (bM (fu oa
  kq 1000000)
  (eu (ai 3)))))
noncomputable def fh:List D->Option ((D × Bool) × D × D):=fnJ 3 8 Ai
noncomputable def tV:SM :=
  (eu (mOp Hn (fm (ah (mOp gIx (mOp cR (ai 0) (ai 1)) (mC (.int 0))) (ah (ai 1) aD))) (fm (ah (mOp gIx (mOp cR (ai 0) (ai 2)) (mC (.int 0))) (ah (ai 2) aD)))))
noncomputable def cu:List D->Option (D × Bool):=fnM 3 0 tV
noncomputable def xG:SM :=
  (bM (jW (mOp cR (ai 1) (ai 2)) (mgU 4 (aT (mgN 4) (aT (mgN 5) (aT (mgN 6) (aT (mgN 7) ez))))))
  (bM (iM 1 (fm (ah (ai 4) (ah (ai 3) (ah (mC (.bool false)) (ah (ai 7) aD))))) (ai 2))
  (bM (jW (mOp cR (ai 1) (ai 3)) (mgU 4 (aT (mgN 4) (aT (mgN 5) (aT (mgN 6) (aT (mgN 7) ez))))))
  (bM (iM 1 (fm (ah (ai 4) (ah (ai 5) (ah (ai 6) (ah (mOp sh (ai 7) (fm (ah (ai 2) aD))) aD))))) (ai 3))
  (fc (pj 0 oS (ah (ai 2) aD)))))))
noncomputable def fV:List D->Option ((D × Bool) × D × D):=fnJ 4 4 xG
noncomputable def qX:SM :=
  (bM (de 1 (mC (.str "abcdefghijklmnopqrstuvwxyz")))
  (bM (de 2 (mOp eA (mOp tQ (ai 1) (mOp cJ (mOp i3 (ai 0) (mC (.int 52))) (mC (.int 26)))) (mOp tQ (ai 1) (mOp cJ (mOp i3 (ai 0) (mC (.int 2))) (mC (.int 26))))))
  (bM (gr (aF (mOp gEq (mOp cJ (ai 0) (mC (.int 2))) (mC (.int 1))))
  (de 2 (mOp eA (ai 2) (mOp gIx (dn (ah (mC (.str "a")) (ah (mC (.str "zz")) (ah (mC (.str "aaa")) (ah (mC (.str "zzzz")) (ah (mC (.str "bbbbb")) (ah (mC (.str "zzzzzz")) aD))))))) (mOp cJ (mOp i3 (ai 0) (mC (.int 2))) (mC (.int 6))))))
  e9)
  (eu (ai 2)))))
noncomputable def cw:List D->Option (D × Bool):=fnM 1 2 qX
noncomputable def tW:SM :=
  (bM (gr (aF (mOp gEq (mOp cJ (ai 0) (mC (.int 3))) (mC (.int 0))))
  (eu (mOp lT (mOp cJ (mOp i3 (ai 0) (mC (.int 3))) (mC (.int 5))) (mC (.int 2))))
  e9)
  (bM (gr (aF (mOp gEq (mOp cJ (ai 0) (mC (.int 3))) (mC (.int 1))))
  (eu (mOp lT (mOp cJ (mOp i3 (ai 0) (mC (.int 3))) (mC (.int 61))) (mC (.int 30))))
  e9)
  (eu (mOp lT (mOp cJ (mOp i3 (ai 0) (mC (.int 3))) (mOp eA (mOp xi (mC (.int 2)) (mOp uX (mC (.int 10)) (mC (.int 59)))) (mC (.int 1)))) (mOp uX (mC (.int 10)) (mC (.int 59)))))))
noncomputable def cX:List D->Option (D × Bool):=fnM 1 0 tW
noncomputable def gm:SM :=
  (bM (de 6 (mOp i3 (ai 5) (mC (.int 5))))
  (bM (de 7 (bJ jG (ah (ai 2) (ah (ai 3) (ah (mOp cJ (ai 6) (mC (.int 97))) aD)))))
  (bM (de 8 (mCB nq (ah (ai 3) aD)))
  (gr (lC (aF (mOp gEq (mOp cJ (ai 5) (mC (.int 5))) (mC (.int 4)))) (aF (mOp gGt (mCB dH (ah (ai 8) aD)) (mC (.int 0)))))
  (fc (i8 2 3 fh (ah (mOp gIx (ai 8) (mOp cJ (ai 6) (mCB dH (ah (ai 8) aD)))) aD)))
  (gr (lC (aF (mOp gGt (mOp cJ (ai 5) (mC (.int 5))) (mC (.int 0)))) (aF (mOp gNe (ai 7) (dn aD))))
  (bM (gr (aF (bJ cu (ah (ai 3) (ah (mOp gIx (ai 7) (mC (.int 0))) (ah (mOp gIx (ai 7) (mC (.int 1))) aD)))))
  (fc (rQ 7 l8))
  e9)
  (fc (i8 2 3 fV (ah (mOp gIx (ai 7) (mC (.int 0))) (ah (mOp gIx (ai 7) (mC (.int 1))) aD)))))
  (bM (de 9 (bJ cw (ah (mOp eA (ai 1) (ai 4)) aD)))
  (bM (iM 3 (fm (ah (bJ cX (ah (ai 6) aD)) (ah (mC .none) (ah (mC (.bool false)) (ah (fm aD) aD))))) (ai 9))
  (fc (pj 2 gi (ah (ai 9) aD))))))))))
noncomputable def tX:Rho->Option (D × D) :=
  (me (de 2 (dn aD))
  (me (de 3 B6)
  (me (uW (Jm (ah (ai 0) aD)) (mgU 2 (aT (mgN 4) (aT (mgN 5) ez)))
  gm)
  (yJ 2 3))))
noncomputable def gu:List D->Option (D × D):=fnD 2 8 tX
noncomputable def vJ (self:List D->Option ((D × Bool) × D)):SM :=
  (bM (de 5 (bJ cw (ah (mCB lg (ah (ai 0) aD)) aD)))
  (bM (iM 0 (fm (ah (ai 4) (ah (ai 2) (ah (ai 3) (ah (fm aD) aD))))) (ai 5))
  (bM (de 6 (Hs [("_law_held",0),("_law_name",5),("_law_key",4)] 0 0 (sV (ah (ai 1) aD)) self (ah (mCB zP (ah (mC (.int 0)) (ah (mOp lT (ai 0) (mC (.int 1))) aD))) (ah (ai 2) (ah (mOp gGt (ai 0) (mC (.int 0))) (ah (mOp eA (ai 3) (mC (.int 1))) aD))))))
  (bM (iM 0 (fm (ah (ai 4) (ah (ai 2) (ah (ai 3) (ah (mCB qc (ah (ai 6) aD)) aD))))) (ai 5))
  (eu (ai 5))))))
noncomputable def dY:Nat->List D->Option ((D × Bool) × D)
 | 0=>fun _=>none
 | n + 1=>fnI 5 2 (vJ (dY n))
noncomputable def lh:SM :=
  (bM (de 4 (bJ cw (ah (mCB lg (ah (ai 1) aD)) aD)))
  (bM (iM 1 (fm (ah (bJ cX (ah (ai 3) aD)) (ah (mC .none) (ah (mC (.bool false)) (ah (fm aD) aD))))) (ai 4))
  (fc (pj 2 gi (ah (ai 4) aD)))))
noncomputable def tY:Rho->Option (D × D) :=
  (zX (mOr (aF (mOp gEq (ai 0) (dn aD))) (aF (mOp gNe (mOp cJ (mOp gIx (ai 0) (mC (.int 0))) (mC (.int 7))) (mC (.int 6))))) (BI gu (ah (ai 0) (ah (mC (.int 0)) aD)))
  (me (de 1 B6)
  (me (de 2 (dn (ah (tj 1 (dY 12) (ah (mOp cJ (mOp i3 (mOp gIx (ai 0) (mC (.int 0))) (mC (.int 7))) (mC (.int 10))) (ah (mC .none) (ah (mC (.bool false)) (ah (bJ cX (ah (mOp i3 (mOp gIx (ai 0) (mC (.int 0))) (mC (.int 70))) aD)) aD))))) aD)))
  (me (uW (Bi (mSl gSl (ai 0) (gq (mC (.int 1))) (gq (mC (.int 12))))) (mgN 3)
  lh)
  (yJ 2 1)))))
noncomputable def gv:List D->Option (D × D):=fnD 1 4 tY
noncomputable def qf:SM :=
  (bM (gr (mOr (gP (aF (kY "tuple" (ai 0)))) (mOr (aF (mOp gNe (mCB dH (ah (ai 0) aD)) (mC (.int 4)))) (gP (aF (kY "tuple" (mOp gIx (ai 0) (mC (.int 3))))))))
  (eu (mC (.bool false)))
  e9)
  (bM (gr (mOr (aF (kY "bool" (mOp gIx (ai 0) (mC (.int 0))))) (gP (aF (kY "bool" (mOp gIx (ai 0) (mC (.int 2)))))))
  (eu (mC (.bool false)))
  e9)
  (eu (mOp gEq (ai 0) (ai 1)))))
noncomputable def fy:List D->Option (D × Bool):=fnM 2 0 qf
noncomputable def eQ:SM :=
  (gr (mOr (aF (mOp jF (ai 3) (mOp gIx (ai 0) (mC (.int 1))))) (gP (aF (bJ fy (ah (mOp cR (mOp gIx (ai 0) (mC (.int 1))) (ai 3)) (ah (ai 4) aD))))))
  (eu (mC (.bool false)))
  e9)
noncomputable def qY:SM :=
  (bM (gr (mOr (gP (aF (mm "tuple" (ai 0)))) (mOr (aF (mOp gNe (mCB dH (ah (ai 0) aD)) (mC (.int 2)))) (mOr (gP (aF (mm "list" (mOp gIx (ai 0) (mC (.int 0)))))) (aF (mOp gNe (mOp gIx (ai 0) (mC (.int 0))) (ai 1))))))
  (eu (mC (.bool false)))
  e9)
  (bM (gr (mOr (gP (aF (mm "dict" (mOp gIx (ai 0) (mC (.int 1)))))) (aF (mOp gNe (mCB lg (ah (mOp gIx (ai 0) (mC (.int 1))) aD)) (mCB lg (ah (ai 2) aD)))))
  (eu (mC (.bool false)))
  e9)
  (bM (y4 (vy 2) (mgU 2 (aT (mgN 3) (aT (mgN 4) ez)))
  eQ)
  (eu (mC (.bool true))))))
noncomputable def b6:List D->Option (D × Bool):=fnM 3 2 qY
noncomputable def qZ:EM :=
  (eIf (aF (mOp jF (ai 1) (mOp gIx (ai 0) (mC (.int 1)))))
  (xp "Lacking" (ah (mC (.str "the pile has no such name")) aD))
  (k9 e9))
noncomputable def fA:List D->Option ((D × Bool) ⊕ Str):=fnX 2 0 qZ
noncomputable def tZ:SM :=
  (gr (aF (mOp jF (ai 1) (mOp gIx (ai 0) (mC (.int 1)))))
  mT
  e9)
noncomputable def fB:List D->Option (D × Bool):=fnM 2 0 tZ
noncomputable def jr:Rho->Option (Bool × Rho) :=
  (aF (mOp gIx (mOp cR (ai 0) (ai 3)) (mC (.int 2))))
noncomputable def js:SM :=
  (bM (fc (pj 2 gi (ah (ai 3) aD)))
  (de 3 (mOp gIx (mOp cR (ai 0) (ai 3)) (mC (.int 1)))))
noncomputable def qg:SM :=
  (bM (de 2 (dn (ah (ai 1) aD)))
  (bM (de 3 (mOp gIx (mOp cR (ai 0) (ai 1)) (mC (.int 1))))
  (bM (fu jr
  js 1000000)
  (eu (ai 2)))))
noncomputable def fC:List D->Option (D × Bool):=fnM 2 2 qg
noncomputable def vK:Rho->Option (Bool × Rho) :=
  (aF (mOp gNe (ai 0) (ai 1)))
noncomputable def vL:PM :=
  (ai 0)
noncomputable def Aj:SM :=
  (eu (fm (ah (mOp gIx (ai 0) (mC (.int 0))) (ah (mOp gIx (ai 0) (mC (.int 1))) (ah (mOp gIx (ai 0) (mC (.int 2))) (ah (mCB qc (ah (mLC [("name",1)] (Bh (mOp gIx (ai 0) (mC (.int 3)))) vK vL) aD)) aD))))))
noncomputable def kQ:List D->Option (D × Bool):=fnM 2 0 Aj
noncomputable def Cw:SM :=
  (eu (fm (ah (mOp gIx (ai 0) (mC (.int 0))) (ah (mC .none) (ah (mC (.bool false)) (ah (mOp gIx (ai 0) (mC (.int 3))) aD))))))
noncomputable def mq:List D->Option (D × Bool):=fnM 1 0 Cw
noncomputable def vM:SM :=
  (eu (fm (ah (mOp gIx (ai 0) (mC (.int 0))) (ah (mOp gIx (ai 0) (mC (.int 1))) (ah (mC (.bool true)) (ah (mOp gIx (ai 0) (mC (.int 3))) aD))))))
noncomputable def iN:List D->Option (D × Bool):=fnM 1 0 vM
noncomputable def vN:PM :=
  (fm (ah (mC (.str "cut")) (ah (ai 0) aD)))
noncomputable def iO:SN :=
  (cN (gQ (nIx (nO (mOp cR (ai 2) (ai 5))) (nLit (.int 1))) (ngN 6))
  (cN (nZ (cU 2) (cU 6) (nO (bJ kQ (ah (mOp cR (ai 2) (ai 6)) (ah (ai 5) aD)))))
  (nZ (cU 2) (cU 5) (nO (bJ mq (ah (mOp cR (ai 2) (ai 5)) aD))))))
noncomputable def Ak:SN :=
  (cN (gQ (nO (mCB lG (ah (mOp gIx (ai 0) (mC (.int 1))) aD))) (ngN 2))
  (cN (gQ (nO (bJ fC (ah (ai 2) (ah (ai 1) aD)))) (ngN 3))
  (cN (gQ (nIx (nO (mOp cR (ai 2) (mOp gIx (ai 3) (mUn zO (mC (.int 1)))))) (nLit (.int 1))) (ngN 4))
  (cN (vp [0,1,2,3,4] (cU 3) (ngN 5)
  iO)
  (cN (jC (nTo (aF (mOp ic (mOp gIx (mOp cR (ai 2) (ai 4)) (mC (.int 1))) (mC .none))))
  (nZ (cU 2) (cU 4) (nO (bJ iN (ah (mOp cR (ai 2) (ai 4)) aD))))
  il)
  (kh (mj (bq (mj (bq (nO (mOp eA (mOp gIx (ai 0) (mC (.int 0))) (ai 3))) (bq (cU 2) fg))) (bq (nO (mLC [] (Bg (ai 3)) DJ vN)) fg)))))))))
noncomputable def kR:FN:=fnS 2 5 Ak
noncomputable def xH:SM :=
  (eu (fm (ah (mOp gIx (mOp cR (ai 0) (ai 1)) (mC (.int 0))) (ah (ai 1) aD))))
noncomputable def eW:List D->Option (D × Bool):=fnM 2 0 xH
noncomputable def t5:EM :=
  (pK (eX fc (jB fA (ah (ai 0) (ah (ai 1) aD))))
  (pK (k9 (de 3 (mOp cR (mOp gIx (ai 0) (mC (.int 1))) (ai 1))))
  (pK (eIf (aF (mOp gGe (ai 2) (mOp gIx (ai 3) (mC (.int 0)))))
  (xp "NotLess" (ah (mC (.str "the new key is not less")) aD))
  (k9 e9))
  (pK (k9 mT)
  (pK (k9 mT)
  (pK (k9 mT)
  (k9 mT)))))))
noncomputable def fi:List D->Option ((D × Bool) ⊕ Str):=fnX 3 2 t5
noncomputable def vO:SN :=
  (cN (nW (nO (bJ fB (ah (ai 0) (ah (ai 1) aD)))))
  (cN (gQ (nO (mOp cR (mOp gIx (ai 0) (mC (.int 1))) (ai 1))) (ngN 3))
  (cN (jC (nTo (aF (mOp gGe (ai 2) (mOp gIx (ai 3) (mC (.int 0))))))
  xx
  il)
  (cN (gQ (nO (mCB lG (ah (mOp gIx (ai 0) (mC (.int 1))) aD))) (ngN 4))
  (cN (nZ (cU 4) (cU 1) (mj (bq (cU 2) (bq (nIx (cU 3) (nLit (.int 1))) (bq (nIx (cU 3) (nLit (.int 2))) (bq (nIx (cU 3) (nLit (.int 3))) fg))))))
  (cN (jC (nTo (mOr (aF (mOp gIs (mOp gIx (ai 3) (mC (.int 1))) (mC .none))) (aF (mOp Et (bJ eW (ah (ai 4) (ah (ai 1) aD))) (bJ eW (ah (ai 4) (ah (mOp gIx (ai 3) (mC (.int 1))) aD)))))))
  (kh (mj (bq (mj (bq (nO (mCB uZ (ah (mOp gIx (ai 0) (mC (.int 0))) aD))) (bq (cU 4) fg))) (bq (D3 fg) fg))))
  il)
  (kh (pQ kR (bq (mj (bq (nIx (cU 0) (nLit (.int 0))) (bq (cU 4) fg))) (bq (cU 1) fg))))))))))
noncomputable def fj:FN:=fnS 3 2 vO
noncomputable def eR:Str->Option SM :=
  fun c=>if c = "NotLess" then some ((bM (de 3 (dn (ah (dk 4 true) (ah (dk 4 false) (ah (dk 4 true) aD)))))
  (de 3 (mOp eA (ai 3) (dn (ah (dk 4 false) (ah (dk 4 false) (ah (dk 4 false) aD)))))))) else if c = "Lacking" then some ((bM (de 3 (dn (ah (dk 4 true) (ah (dk 4 true) (ah (dk 4 false) aD)))))
  (de 3 (mOp eA (ai 3) (dn (ah (dk 4 false) (ah (dk 4 false) (ah (dk 4 false) aD)))))))) else none
noncomputable def q0:SM :=
  (bM (de 3 (dn aD))
  (bM (yI fi (ah (ai 0) (ah (ai 1) (ah (ai 2) aD))) 4 eR)
  (eu (ai 3))))
noncomputable def bL:List D->Option (D × Bool):=fnM 3 2 q0
noncomputable def jZ:Rho->Option (Bool × Rho) :=
  (aF (mOp gIx (mOp cR (mOp gIx (ai 1) (mC (.int 1))) (ai 0)) (mC (.int 2))))
noncomputable def j0:PM :=
  (ai 0)
noncomputable def q5:SM :=
  (bM (de 1 (Cg [("pile",0)] (Hj (vy 0) 1) jZ j0))
  (eu (mOp eA (mCB dH (ah (mOp gIx (ai 0) (mC (.int 0))) aD)) (mOp xi (mC (.int 2)) (mCB dH (ah (ai 1) aD))))))
noncomputable def dD:List D->Option (D × Bool):=fnM 1 1 q5
noncomputable def xI:SM :=
  (bM (jW (mOp cR (ai 1) (ai 2)) (mgU 4 (aT (mgN 4) (aT (mgN 5) (aT (mgN 6) (aT (mgN 7) ez))))))
  (bM (iM 1 (fm (ah (ai 3) (ah (ai 5) (ah (ai 6) (ah (ai 7) aD))))) (ai 2))
  (bM (gr (lC (aF (mOp ic (ai 5) (mC .none))) (aF (bJ cu (ah (ai 1) (ah (ai 2) (ah (ai 5) aD))))))
  (eu (i8 0 1 fh (ah (ai 2) aD)))
  e9)
  (eu (dn aD)))))
noncomputable def fW:List D->Option ((D × Bool) × D × D):=fnJ 4 4 xI
noncomputable def qh:SN :=
  (cN (gQ (mj (bq (nO (mCB uZ (ah (ai 1) aD))) (bq (nO (mCB lG (ah (ai 2) aD))) fg))) (ngN 5))
  (cN (jC (nTo (aF (mOp gNe (bJ bL (ah (ai 0) (ah (ai 3) (ah (mOp gIx (mOp cR (ai 2) (ai 3)) (mC (.int 0))) aD)))) (dn (ah (mC (.bool true)) (ah (mC (.bool false)) (ah (mC (.bool true)) (ah (mC (.bool false)) (ah (mC (.bool false)) (ah (mC (.bool false)) aD))))))))))
  (kh (nLit .none))
  il)
  (cN (jC (nTo (aF (mOp gNe (bJ bL (ah (ai 0) (ah (ai 3) (ah (mOp eA (mOp gIx (mOp cR (ai 2) (ai 3)) (mC (.int 0))) (mOp uX (mC (.int 10)) (mC (.int 20)))) aD)))) (dn (ah (mC (.bool true)) (ah (mC (.bool false)) (ah (mC (.bool true)) (ah (mC (.bool false)) (ah (mC (.bool false)) (ah (mC (.bool false)) aD))))))))))
  (kh (nLit .none))
  il)
  (cN (gQ (nO (bJ dD (ah (ai 0) aD))) (ngN 6))
  (cN (gQ (pQ fj (bq (cU 0) (bq (cU 3) (bq (cU 4) fg)))) (ngN 7))
  (cN (gQ (tS fW (bq (cU 1) (bq (cU 2) (bq (cU 3) (bq (cU 4) fg))))) (ngN 8))
  (cN (jC (nTo (mOr (gP (aF (kY "tuple" (ai 7)))) (mOr (aF (mOp gNe (mCB dH (ah (ai 7) aD)) (mC (.int 2)))) (mOr (gP (aF (kY "list" (mOp gIx (ai 7) (mC (.int 1)))))) (aF (mOp gNe (mOp gIx (ai 7) (mC (.int 1))) (ai 8)))))))
  (kh (nLit .none))
  il)
  (cN (jC (nTo (mOr (gP (aF (bJ b6 (ah (mOp gIx (ai 7) (mC (.int 0))) (ah (ai 1) (ah (ai 2) aD)))))) (gP (aF (bJ b6 (ah (ai 0) (ah (mOp gIx (ai 5) (mC (.int 0))) (ah (mOp gIx (ai 5) (mC (.int 1))) aD))))))))
  (kh (nLit .none))
  il)
  (cN (jC (nTo (aF (mOp gGt (mOp eA (mCB dH (ah (ai 8) aD)) (bJ dD (ah (mOp gIx (ai 7) (mC (.int 0))) aD))) (mOp eA (ai 6) (mC (.int 4))))))
  (kh (nLit .none))
  il)
  (cN (nW (Ed (nIx (cU 7) (nLit (.int 1))) (bq (nLit (.str "x")) fg)))
  (cN (nW (Eu mV (nIx (cU 0) (nLit (.int 0)))))
  (cN (nW (y8 (nIx (cU 0) (nLit (.int 1)))))
  (cN (jC (nTo (gP (aF (bJ b6 (ah (mOp gIx (ai 7) (mC (.int 0))) (ah (ai 1) (ah (ai 2) aD)))))))
  (kh (nLit .none))
  il)
  (kh (nIx (cU 7) (nLit (.int 0)))))))))))))))))
noncomputable def fD:FN:=fnS 5 4 qh
noncomputable def q9:SM :=
  (bM (jW (mSl Ah (mOp cR (ai 0) (ai 1)) jA (gq (mC (.int 2)))) (mgU 2 (aT (mgN 3) (aT (mgN 4) ez))))
  (bM (gr (mOr (aF (mOp gEq (mOp cJ (ai 2) (mC (.int 5))) (mC (.int 0)))) (aF (mOp gIs (ai 4) (mC .none))))
  (eu (mOp lT (mOp lT (ai 3) (mC (.int 1))) (mOp cJ (mOp i3 (ai 2) (mC (.int 5))) (mC (.int 3)))))
  e9)
  (bM (gr (aF (mOp gLt (mOp cJ (ai 2) (mC (.int 5))) (mC (.int 3))))
  (eu (mCB zQ (ah (mOp lT (ai 3) (mC (.int 1))) (ah (mOp lT (mOp eA (mOp gIx (mOp cR (ai 0) (ai 4)) (mC (.int 0))) (mOp cJ (mOp i3 (ai 2) (mC (.int 5))) (mC (.int 3)))) (mC (.int 1))) aD))))
  e9)
  (eu (mOp lT (mOp lT (mCB zQ (ah (ai 3) (ah (mOp gIx (mOp cR (ai 0) (ai 4)) (mC (.int 0))) aD))) (mC (.int 1))) (mOp cJ (mOp i3 (ai 2) (mC (.int 5))) (mOp uX (mC (.int 10)) (mC (.int 20)))))))))
noncomputable def eL:List D->Option (D × Bool):=fnM 3 2 q9
noncomputable def ua:SN :=
  (cN (gQ (nO (mOp gIx (dn (ah (mC (.str "notthere")) (ah (mC (.str "")) (ah (mC (.str "P")) (ah (mC (.str "abcdefghi")) (ah (mC (.str "a b")) aD)))))) (mOp cJ (ai 4) (mC (.int 5))))) (ngN 5))
  (cN (jC (nTo (aF (mOp gNe (bJ bL (ah (ai 3) (ah (ai 5) (ah (mOp cJ (ai 4) (mC (.int 7))) aD)))) (dn (ah (mC (.bool true)) (ah (mC (.bool true)) (ah (mC (.bool false)) (ah (mC (.bool false)) (ah (mC (.bool false)) (ah (mC (.bool false)) aD))))))))))
  (kh (nLit (.bool false)))
  il)
  (cN (gQ (nO (mCB nq (ah (ai 2) aD))) (ngN 6))
  (jC (nTo (aF (mOp gNe (ai 6) (dn aD))))
  (cN (gQ (nIx (cU 6) (nO (mOp cJ (mOp i3 (ai 4) (mC (.int 5))) (mCB dH (ah (ai 6) aD))))) (ngN 7))
  (cN (gQ (pQ fD (bq (cU 3) (bq (cU 1) (bq (cU 2) (bq (cU 7) (bq (nO (bJ eL (ah (ai 2) (ah (ai 7) (ah (ai 4) aD))))) fg)))))) (ngN 3))
  (jC (nTo (aF (mOp gIs (ai 3) (mC .none))))
  (kh (nLit (.bool false)))
  il)))
  il))))
noncomputable def y9:SN :=
  (cN (gQ (xB gv (bq (nO (mSl gSl (ai 0) (gq (mC (.int 20))) (gq (mC (.int 80))))) fg)) (ngT 2 (oQ 1 (oQ 2 BQ))))
  (cN (gQ (mj (bq (nO (mCB uZ (ah (ai 1) aD))) (bq (nO (mCB lG (ah (ai 2) aD))) fg))) (ngN 3))
  (cN (vp [0,1,2,3] (nO (mSl gSl (ai 0) jA (gq (mC (.int 20))))) (ngN 4)
  ua)
  (kh (nO (bJ b6 (ah (ai 3) (ah (ai 1) (ah (ai 2) aD)))))))))
noncomputable def FT:List D->Option (D × Bool):=fnO 1 7 y9
end K75
namespace K75
open PySem L2 Mir
local macro_rules | `(tactic| walk_at "mir") => `(tactic| simp only [*, fnM, bM, gr, aF, mOp, sv, ai, mC, mCB, ah, aD, mR, gB0, gI0, gI, eA, xi, zO, gIx, DP, gSl, dH, zP, zQ, JU, JV, gIs, ic, GW, GX, GY, asB, asI, mUn, kY, yD, yE, u9, Bu, Bq, Br, vc, md, k8, eN, isNone,
 lC,mOr,gP,Io,JO,Ip,JP,fm,dn,eZ,j6,de,sto,eK,eu,Iq,fc,e9,JS,pz,bJ,zS,xl,zT,xm,xn,zU,zV,pF,pG,vd,ve,nU,JX,JY,sV,JQ,rg1,rg2,Bg,Bi,asL,asT,uW,mgN,mgT,mgU,asS,aT,ez,jW,Ir,ph,Mir.putAt,Sl.put,pj,rQ,gi,JW,mV,
 List.length_cons,List.length_nil,List.map_cons,List.map_nil,List.cons_append,List.nil_append,List.replicate,List.getElem?_cons_zero,List.getElem?_cons_succ,List.getElem?_nil,List.set_cons_zero,List.set_cons_succ,
 Option.bind_some,Option.bind_none,Option.map_some,Option.map_none,if_true,if_false,Bd,Bool.false_eq_true,reduceIte,decide_true,decide_false,Bool.not_true,Bool.not_false,ite_true,ite_false,Nat.reduceAdd,Nat.reduceEqDiff,Bool.and_true,Bool.true_and,Bool.and_false,Bool.not_eq_true,not_true_eq_false,not_false_eq_true,Int.reduceLT,Int.reduceLE,Int.reduceEq,Nat.reduceLeDiff])
local macro_rules | `(tactic| walk_at "st") => `(tactic| (apply aM; · (walk_at "mir"; try exact rfl)))
theorem II {a b:PM} {ρ ρ1 ρ2:Rho} {x:D} {r:RV} {res:D × Bool} {g:D->D->Option (D × Bool)} (h1:sv a ρ=some ((x,.ro),ρ1)) (h2:sv b ρ1=some (r,ρ2)) (h3:g x r.1=some res):mOp g a b ρ=some (j5 res,ρ2):=by
 unfold mOp; rw [h1,Option.bind_some]; dsimp only; rw [h2,Option.bind_some]; dsimp only [mR,Option.bind_some]; rw [h3,Option.map_some]
theorem qi (l:List D) (k:Int) (d:D) (h:L2.atI l k=some d):gIx (.list l) (.int k)=some (d,false):=by
 show (L2.atI l k).map _=_
 rw [h]; rfl
def NIo (s:Sl):Prop:=∀ d,s≠.io d
theorem NIo.no:NIo .no:=fun d h=>by cases h
theorem NIo.fz (x:D):NIo (.fz x):=fun d h=>by cases h
theorem NIo.own (x:D):NIo (.own x):=fun d h=>by cases h
theorem iP {ρ:Rho} {i:Nat} {s:Sl} (q:Sl) (h : ρ[i]?=some s) (hs:NIo s):eK ρ i q=some (ρ.set i q):=by
 unfold eK
 rw [h]
 cases s <;> first | rfl | exact absurd rfl (hs _)
theorem fE {ρ:Rho} {i:Nat} {s:Sl} {d:D} (h : ρ[i]?=some s) (hs:NIo s):mgN i d ρ=some (ρ.set i (.fz d)):=iP _ h hs
def LT:Str:="abcdefghijklmnopqrstuvwxyz"
def letter (j:Nat):Str:=⟨#[LT.cps.toList.getD j 97]⟩
theorem Jo:∀ j:Nat,j < 26->atI LT.cps.toList (j:Int)=some (LT.cps.toList.getD j 97):=by decide
theorem sj (j:Nat) (h:j < 26):tQ (.str LT) (.int (j:Int))=some (.str (letter j),false):=by
 show cIf (LT.length≤sizeLine) _ none=_
 rw [b0 (by rw [sizeLine_eq]; decide),Jo j h]; rfl
def sfx (j:Nat):Str:=(["a","zz","aaa","zzzz","bbbbb","zzzzzz"]:List Str).getD j ""
def aH (k:Nat):Str:=if k % 2=1 then letter (k / 52 % 26)++letter (k / 2 % 26)++sfx (k / 2 % 6) else letter (k / 52 % 26)++letter (k / 2 % 26)
theorem ku:∀ i:Nat,i < 130->∀ j:Nat,j < i->aH i≠aH j:=by decide +kernel
theorem za (m:Str):keyOf (.str m)=some (.inr m):=rfl
def aJ:Option Str->D
 | none=>.none
 | some a=>.str a
def aW (r:aL.Row):D:=.tuple [.int r.key,aJ r.above,.bool r.mark,.tuple (r.below.map .str)]
def cg (keys:List Str) (row:Str->aL.Row):List (D × D):=keys.map fun n=>(PyData.str n,aW (row n))
theorem jt (row:Str->aL.Row) (n:Str):∀ keys:List Str,iq (cg keys row) (.inr n)=if n∈keys then some (aW (row n)) else none
 | []=>rfl
 | m::keys=>by
  show (if keyOf (.str m)=some (.inr n) then some (aW (row m)) else iq (cg keys row) (.inr n))=_
  by_cases e:m=n
  ·subst e
   rw [if_pos (za m),if_pos List.mem_cons_self]
  ·have e1 : ¬ keyOf (.str m)=some (.inr n):=fun z=>e (Sum.inr.inj (Option.some.inj z))
   rw [if_neg e1,jt row n keys]
   by_cases h:n∈keys
   ·rw [if_pos h,if_pos (List.mem_cons_of_mem _ h)]
   ·rw [if_neg h,if_neg fun z=>by
     rcases List.mem_cons.mp z with z | z
     ·exact e z.symm
     ·exact h z]
def aQ (row:Str->aL.Row) (n:Str) (r:aL.Row):Str->aL.Row:=fun m=>if m=n then r else row m
theorem ub (keys:List Str) (row:Str->aL.Row) (n:Str) (r:aL.Row) (h:n∈keys):putD (cg keys row) (.str n) (aW r) (.inr n)=cg keys (aQ row n r):=by
 unfold putD
 rw [jt,if_pos h]
 show (cg keys row).map _=_
 unfold cg
 rw [List.map_map]
 refine List.map_congr_left fun m _=>?_
 show (if keyOf (.str m)=some (.inr n) then (PyData.str m,aW r) else (PyData.str m,aW (row m)))=(PyData.str m,aW (aQ row n r m))
 unfold aQ
 by_cases e:m=n
 ·subst e
  rw [if_pos (za m),if_pos rfl]
 ·have e1 : ¬ keyOf (.str m)=some (.inr n):=fun z=>e (Sum.inr.inj (Option.some.inj z))
  rw [if_neg e1,if_neg e]
theorem uc (keys:List Str) (row:Str->aL.Row) (n:Str) (r:aL.Row) (h:n ∉ keys):putD (cg keys row) (.str n) (aW r) (.inr n)=cg (keys++[n]) (aQ row n r):=by
 unfold putD
 rw [jt,if_neg h]
 show cg keys row++[(.str n,aW r)]=_
 unfold cg
 rw [List.map_append]
 congr 1
 ·refine List.map_congr_left fun m hm=>?_
  show _=(PyData.str m,aW (aQ row n r m))
  unfold aQ
  rw [if_neg fun z=>h (by rw [← z]; exact hm)]
 ·show [(PyData.str n,aW r)]=[(PyData.str n,aW (aQ row n r n))]
  unfold aQ
  rw [if_pos rfl]
theorem mr (keys:List Str) (row:Str->aL.Row):(cg keys row).length=keys.length:=by unfold cg; rw [List.length_map]
theorem sk (keys:List Str) (row:Str->aL.Row):(cg keys row).map (·.1)=keys.map .str:=by unfold cg; rw [List.map_map]; rfl
theorem zb (keys:List Str) (row:Str->aL.Row) (n:Str) (h:n∈keys):cR (.dict (cg keys row)) (.str n)=some (aW (row n),false):=by
 show (iq (cg keys row) (.inr n)).map _=_
 rw [jt,if_pos h]; rfl
theorem qj (j:Nat):(letter j).length=1:=rfl
theorem ED:∀ j:Nat,j < 6->(sfx j).length≤6:=by decide
theorem add_str (a b:Str) (h:a.length + b.length≤1000):eA (.str a) (.str b)=some (.str (a++b),false):=by
 show cIf (a.length + b.length≤sizeLine) _ none=_
 rw [b0 (by rw [sizeLine_eq]; omega)]
theorem two_len (i j:Nat):(letter i++letter j).length=2:=rfl
theorem ud (k:Nat):cw [.int (k:Int)]=some (.str (aH k),false):=by
 have hk:∀ {ρ:Rho},ρ[0]?=some (.fz (.int (k:Int)))->∀ (a b:Nat),0 < a->a < 1000->0 < b->IE (mOp cJ (mOp i3 (ai 0) (mC (.int (a:Int)))) (mC (.int (b:Int)))) ρ ((k / a % b:Nat):Int):=fun {ρ} h a b ha ha2 hb=>by
  have:=c8 (lF (b4 h) (bU (i:=(a:Int))) ⟨by omega,by omega⟩) (bU (i:=(b:Int))) (by omega)
  rwa [show ((k:Int) / (a:Int) % (b:Int))=((k / a % b:Nat):Int) by rw [Int.natCast_emod,Int.natCast_ediv]] at this
 have l1:∀ {ρ:Rho},ρ[0]?=some (.fz (.int (k:Int)))->ρ[1]?=some (.fz (.str LT))->mOp tQ (ai 1) (mOp cJ (mOp i3 (ai 0) (mC (.int 52))) (mC (.int 26))) ρ=some ((.str (letter (k / 52 % 26)),.fz),ρ):=fun {ρ} h0 h1=>bH (r:=(.int ((k / 52 % 26:Nat):Int),.fz)) (res:=(.str (letter (k / 52 % 26)),false)) (ak (ao h1)) (ak (hk h0 52 26 (by omega) (by omega) (by omega))) (sj _ (by omega))
 have l2:∀ {ρ:Rho},ρ[0]?=some (.fz (.int (k:Int)))->ρ[1]?=some (.fz (.str LT))->mOp tQ (ai 1) (mOp cJ (mOp i3 (ai 0) (mC (.int 2))) (mC (.int 26))) ρ=some ((.str (letter (k / 2 % 26)),.fz),ρ):=fun {ρ} h0 h1=>bH (r:=(.int ((k / 2 % 26:Nat):Int),.fz)) (res:=(.str (letter (k / 2 % 26)),false)) (ak (ao h1)) (ak (hk h0 2 26 (by omega) (by omega) (by omega))) (sj _ (by omega))
 have em:∀ {ρ:Rho},ρ[0]?=some (.fz (.int (k:Int)))->IE (mOp cJ (ai 0) (mC (.int 2))) ρ ((k:Int) % 2):=fun {ρ} h=>c8 (b4 h) bU (by decide)
 have two:=add_str (letter (k / 52 % 26)) (letter (k / 2 % 26)) (by rw [qj,qj]; omega)
 have hd:∀ (u:SM) (o:Option Out),u [.fz (.int (k:Int)),.fz (.str LT),.fz (.str (letter (k / 52 % 26)++letter (k / 2 % 26)))]=o->bM (de 1 (mC (.str "abcdefghijklmnopqrstuvwxyz"))) (bM (de 2 (mOp eA (mOp tQ (ai 1) (mOp cJ (mOp i3 (ai 0) (mC (.int 52))) (mC (.int 26)))) (mOp tQ (ai 1) (mOp cJ (mOp i3 (ai 0) (mC (.int 2))) (mC (.int 26)))))) u) [.fz (.int (k:Int)),.no,.no]=o:=fun u o h=>by
  refine aM (ρ1:=[.fz (.int (k:Int)),.fz (.str LT),.no]) (dW rfl rfl) ?_
  exact aM (ρ1:=[.fz (.int (k:Int)),.fz (.str LT),.fz (.str (letter (k / 52 % 26)++letter (k / 2 % 26)))]) (dW (bH (r:=(.str (letter (k / 2 % 26)),.fz)) (res:=(.str (letter (k / 52 % 26)++letter (k / 2 % 26)),false)) (ak (l1 rfl rfl)) (ak (l2 rfl rfl)) two) rfl) h
 by_cases odd:k % 2=1
 ·have en:aH k=letter (k / 52 % 26)++letter (k / 2 % 26)++sfx (k / 2 % 6):=if_pos odd
  rw [en]
  refine ej (o:=.rt (.str (letter (k / 52 % 26)++letter (k / 2 % 26)++sfx (k / 2 % 6)),.fz) [.fz (.int (k:Int)),.fz (.str LT),.fz (.str (letter (k / 52 % 26)++letter (k / 2 % 26)++sfx (k / 2 % 6)))]) rfl (hd _ _ ?_) rfl
  have six:∀ j:Nat,j < 6->gIx (.list [.str "a",.str "zz",.str "aaa",.str "zzzz",.str "bbbbb",.str "zzzzzz"]) (.int (j:Int))=some (.str (sfx j),false):=fun j hj=>by
   have:j=0∨j=1∨j=2∨j=3∨j=4∨j=5:=by omega
   rcases this with rfl | rfl | rfl | rfl | rfl | rfl <;> rfl
  refine aM (ρ1:=[.fz (.int (k:Int)),.fz (.str LT),.fz (.str (letter (k / 52 % 26)++letter (k / 2 % 26)++sfx (k / 2 % 6)))]) (pI (tEq (em rfl) bU (by omega)) (dW (bH (r:=(.str (sfx (k / 2 % 6)),.fz)) (res:=(.str (letter (k / 52 % 26)++letter (k / 2 % 26)++sfx (k / 2 % 6)),false)) (ak (ao rfl)) (ak (bH (r:=(.int ((k / 2 % 6:Nat):Int),.fz)) (res:=(.str (sfx (k / 2 % 6)),false)) (ie (eC (rs:=[(.str "a",.fz),(.str "zz",.fz),(.str "aaa",.fz),(.str "zzzz",.fz),(.str "bbbbb",.fz),(.str "zzzzzz",.fz)]) rfl rfl (by simp))) (ak (hk rfl 2 6 (by omega) (by omega) (by omega))) (six _ (by omega)))) (add_str _ _ (by have:=ED (k / 2 % 6) (by omega); rw [two_len]; omega))) rfl)) (cD (ao rfl))
 ·have en:aH k=letter (k / 52 % 26)++letter (k / 2 % 26):=if_neg odd
  rw [en]
  exact ej (o:=.rt (.str (letter (k / 52 % 26)++letter (k / 2 % 26)),.fz) [.fz (.int (k:Int)),.fz (.str LT),.fz (.str (letter (k / 52 % 26)++letter (k / 2 % 26)))]) rfl (hd _ _ (aM (ρ1:=[.fz (.int (k:Int)),.fz (.str LT),.fz (.str (letter (k / 52 % 26)++letter (k / 2 % 26)))]) (i5 (tNe (em rfl) bU (by omega)) rfl) (cD (ao rfl)))) rfl
theorem key_is (c:Int):∃ v:Int,cX [.int c]=some (.int v,false):=by
 have em:∀ {ρ:Rho},IE (mOp cJ (ai 0) (mC (.int 3))) (.fz (.int c)::ρ) (c % 3):=fun {ρ}=>c8 (b4 rfl) bU (by decide)
 have ed:∀ {ρ:Rho},IE (mOp i3 (ai 0) (mC (.int 3))) (.fz (.int c)::ρ) (c / 3):=fun {ρ}=>lF (b4 rfl) bU ⟨by decide,by decide⟩
 by_cases h0:c % 3=0
 ·exact ⟨c / 3 % 5 - 2,ej (o:=.rt (.int (c / 3 % 5 - 2),.fz) [.fz (.int c)]) rfl (mX (pI (tEq em bU h0) (cD (i7 (c8 ed bU (by decide)) bU)))) rfl⟩
 ·by_cases h1:c % 3=1
  ·exact ⟨c / 3 % 61 - 30,ej (o:=.rt (.int (c / 3 % 61 - 30),.fz) [.fz (.int c)]) rfl (aM (ρ1:=[.fz (.int c)]) (i5 (tNe em bU h0) rfl) (mX (pI (tEq em bU h1) (cD (i7 (c8 ed bU (by decide)) bU))))) rfl⟩
  ·have ep:∀ {ρ:Rho},IE (mOp uX (mC (.int 10)) (mC (.int 59))) ρ ((10:Int) ^ (59:Int).toNat):=fun {ρ}=>xo bU bU ⟨by decide,by decide,by decide⟩
   have e2:IE (mOp xi (mC (.int 2)) (mOp uX (mC (.int 10)) (mC (.int 59)))) [.fz (.int c)] (2 * (10:Int) ^ (59:Int).toNat):=BA bU ep (IntMulOk.of_left (by decide))
   exact ⟨_,ej (o:=.rt (.int (c / 3 % (2 * (10:Int) ^ (59:Int).toNat + 1) - (10:Int) ^ (59:Int).toNat),.fz) [.fz (.int c)]) rfl (aM (ρ1:=[.fz (.int c)]) (i5 (tNe em bU h0) rfl) (aM (ρ1:=[.fz (.int c)]) (i5 (tNe em bU h1) rfl) (cD (i7 (c8 ed (i6 e2 bU) (by decide)) ep)))) rfl⟩
theorem lH {keys:List Str} {row:Str->aL.Row} {n:Str} (h:n∈keys) {a b:PM} {ρ:Rho} (ha:sv a ρ=some ((.dict (cg keys row),.fz),ρ)) (hb:b ρ=some ((.str n,.fz),ρ)):mOp cR a b ρ=some ((aW (row n),.fz),ρ):=bH (r:=(.str n,.fz)) (res:=(aW (row n),false)) ha (ak hb) (zb keys row n h)
theorem fF {r:aL.Row} {a:PM} {ρ:Rho} (h:a ρ=some ((aW r,.fz),ρ)):IE (mOp gIx a (mC (.int 0))) ρ r.key:=bH (r:=(.int 0,.fz)) (res:=(.int r.key,false)) (ak h) (ak rfl) rfl
theorem d9 {r:aL.Row} {a:PM} {ρ:Rho} (h:a ρ=some ((aW r,.fz),ρ)):mOp gIx a (mC (.int 1)) ρ=some ((aJ r.above,.fz),ρ):=bH (r:=(.int 1,.fz)) (res:=(aJ r.above,false)) (ak h) (ak rfl) rfl
theorem kx {r:aL.Row} {a:PM} {ρ:Rho} (h:a ρ=some ((aW r,.fz),ρ)):mOp gIx a (mC (.int 2)) ρ=some ((.bool r.mark,.fz),ρ):=bH (r:=(.int 2,.fz)) (res:=(.bool r.mark,false)) (ak h) (ak rfl) rfl
theorem ju {r:aL.Row} {a:PM} {ρ:Rho} (h:a ρ=some ((aW r,.fz),ρ)):mOp gIx a (mC (.int 3)) ρ=some ((.tuple (r.below.map .str),.fz),ρ):=bH (r:=(.int 3,.fz)) (res:=(.tuple (r.below.map .str),false)) (ak h) (ak rfl) rfl
theorem sq (keys:List Str) (row:Str->aL.Row) (x y:Str) (hx:x∈keys) (hy:y∈keys):cu [.dict (cg keys row),.str x,.str y]=some (.bool (aZ (row x).key x (row y).key y),false):=by
 generalize hH:PyData.dict (cg keys row)=X
 have rx:mOp cR (ai 0) (ai 1) [.fz X,.fz (.str x),.fz (.str y)]=some ((aW (row x),.fz),[.fz X,.fz (.str x),.fz (.str y)]):=lH hx (by rw [hH]; exact ak (ao rfl)) (ao rfl)
 have ry:mOp cR (ai 0) (ai 2) [.fz X,.fz (.str x),.fz (.str y)]=some ((aW (row y),.fz),[.fz X,.fz (.str x),.fz (.str y)]):=lH hy (by rw [hH]; exact ak (ao rfl)) (ao rfl)
 have tx:=c7 (rs:=[(.int (row x).key,.fz),(.str x,.fz)]) (dX (fF rx) (au (ak (ao (i:=1) rfl)) aI)) rfl (by simp)
 have ty:=c7 (rs:=[(.int (row y).key,.fz),(.str y,.fz)]) (dX (fF ry) (au (ak (ao (i:=2) rfl)) aI)) rfl (by simp)
 exact ej (o:=.rt (.bool (aZ (row x).key x (row y).key y),.fz) [.fz X,.fz (.str x),.fz (.str y)]) rfl (cD (bH (r:=(.tuple [.int (row y).key,.str y],.fz)) (res:=(.bool (aZ (row x).key x (row y).key y),false)) (ak tx) (ak ty) rfl)) rfl
theorem sr:∀ zs:List Str,qb (zs.map PyData.str)=some zs
 | []=>rfl
 | z::zs=>by
  show (qb (zs.map PyData.str)).map (z::·)=_
  rw [sr zs]; rfl
def Is (ρ:Rho) (i:Nat) (d:D):Prop:=ρ[i]?=some (.fz d)∨ρ[i]?=some (.own d)∨ρ[i]?=some (.io d)
theorem xq {ρ:Rho} {i:Nat} {d:D} (h : ρ[i]?=some (.io d)):ai i ρ=some ((d,.at i),ρ):=by unfold ai; rw [h]
theorem Jp {a b:PM} {ρ ρ1 ρ2:Rho} {x y:D} {r:RV} {res:D × Bool} {g:D->D->Option (D × Bool)} {i:Nat} (h1:sv a ρ=some ((x,.at i),ρ1)) (h2:sv b ρ1=some (r,ρ2)) (h4 : ρ2[i]?=some (.io y)) (h3:g y r.1=some res):mOp g a b ρ=some (j5 res,ρ2):=by
 unfold mOp; rw [h1,Option.bind_some]; dsimp only; rw [h2,Option.bind_some]; simp only [mR,h4,Option.bind_some,h3,Option.map_some]
theorem qk {g:D->D->Option (D × Bool)} {b:PM} {ρ:Rho} {i:Nat} {x:D} {r:RV} {res:D × Bool} (h:Is ρ i x) (h2:sv b ρ=some (r,ρ)) (h3:g x r.1=some res):mOp g (ai i) b ρ=some (j5 res,ρ):=by
 rcases h with h | h | h
 ·exact bH (ak (ao h)) h2 h3
 ·exact Ft (nV (gj h)) h2 h h3
 ·exact Jp (nV (xq h)) h2 h h3
theorem zc {m:Rho->Option (List RV × Rho)} {ρ:Rho} {i:Nat} {x:D} {rs:List RV} (h:Is ρ i x) (h2:m ρ=some (rs,ρ)):∃ k,ah (ai i) m ρ=some ((x,k)::rs,ρ):=by
 rcases h with h | h | h
 ·exact ⟨_,au (ak (ao h)) h2⟩
 ·exact ⟨_,oO (nV (gj h)) h2 h⟩
 ·refine ⟨.at i,?_⟩
  unfold ah
  rw [nV (xq h),Option.bind_some]; dsimp only
  rw [h2,Option.bind_some]; simp only [mR,h,Option.map_some]
theorem zd {g:List D->Option (D × Bool)} {ρ:Rho} {i:Nat} {x:D} {res:D × Bool} (h:Is ρ i x) (h2:g [x]=some res):mCB g (ah (ai i) aD) ρ=some (j5 res,ρ):=by
 obtain ⟨k,e⟩:=zc h aI
 exact fe e h2
theorem xJ {ρ:Rho} {i:Nat} {l:List D} (h:Is ρ i (.list l)):IE (mCB dH (ah (ai i) aD)) ρ (l.length:Int):=zd (res:=(.int (l.length:Int),false)) h rfl
theorem ue {ρ:Rho} {i:Nat} {keys:List Str} {row:Str->aL.Row} (h:Is ρ i (.dict (cg keys row))):IE (mCB lg (ah (ai i) aD)) ρ (keys.length:Int):=zd (res:=(.int (keys.length:Int),false)) h (by show some (PyData.int ((cg keys row).length:Int),false)=_; rw [mr])
theorem cS {ρ:Rho} {i:Nat} {keys:List Str} {row:Str->aL.Row} {n:Str} {b:PM} (h:Is ρ i (.dict (cg keys row))) (hn:n∈keys) (hb:b ρ=some ((.str n,.fz),ρ)):mOp cR (ai i) b ρ=some ((aW (row n),.fz),ρ):=qk (r:=(.str n,.fz)) (res:=(aW (row n),false)) h (ak hb) (zb keys row n hn)
theorem kS {a:PM} {g:D->Rho->Option Rho} {ρ ρ1 ρ2:Rho} {d:D} (h:a ρ=some ((d,.fz),ρ1)) (hg:g d ρ1=some ρ2):jW a g ρ=some (.nx ρ2):=by
 unfold jW; rw [ak h,Option.bind_some]; dsimp only [j6,Option.bind_some]; rw [hg]; rfl
def Al (keys:List Str) (n:Str):List Str:=if n∈keys then keys else keys++[n]
theorem fG {keys:List Str} {n:Str} (h:n∈keys):Al keys n=keys:=if_pos h
theorem ql {keys:List Str} {n:Str} (h:n ∉ keys):Al keys n=keys++[n]:=if_neg h
theorem vP (keys:List Str) (row:Str->aL.Row) (n:Str) (r:aL.Row):putD (cg keys row) (.str n) (aW r) (.inr n)=cg (Al keys n) (aQ row n r):=by
 by_cases h:n∈keys
 ·rw [fG h,ub _ _ _ _ h]
 ·rw [ql h,uc _ _ _ _ h]
theorem gT {i:Nat} {a b:PM} {ρ:Rho} {keys:List Str} {row:Str->aL.Row} {n:Str} {r:aL.Row} {s:Sl} (ha:a ρ=some ((aW r,.fz),ρ)) (hb:b ρ=some ((.str n,.fz),ρ)) (h : ρ[i]?=some s) (hs:s=.own (.dict (cg keys row))∨s=.io (.dict (cg keys row))) (hl:keys.length≤1000):iM i a b ρ=some (.nx (ρ.set i (s.put (.dict (cg (Al keys n) (aQ row n r)))))):=by
 have hl':(cg keys row).length < 100000:=by rw [mr]; omega
 have ho:B7 (some s)=some (cg keys row):=by rcases hs with rfl | rfl <;> rfl
 unfold iM
 rw [ak ha,Option.bind_some]; dsimp only [j6,Option.bind_some]
 rw [h,ho,Option.bind_some,ak hb,Option.bind_some]; dsimp only [keyOf,Option.bind_some]
 rw [h,ho,Option.bind_some,b0 hl',vP]
 unfold Mir.putAt
 rw [h]
theorem nF {i:Nat} {f:List D->List D->Option (List D × D)} {m:Rho->Option (List RV × Rho)} {ρ ρ1 ρ2 ρ3:Rho} {rs:List RV} {as ds0 ds:List D} {w:List D × D} (h0:ph ρ[i]?=some ds0) (h1:m ρ=some (rs,ρ1)) (h2:eZ rs ρ1=some (as,ρ2)) (h3:ph ρ2[i]?=some ds) (h4:f ds as=some w) (h5:Mir.putAt ρ2 i (.list w.1)=ρ3):pj i f m ρ=some ((w.2,.fz),ρ3):=by
 unfold pj
 rw [h0,Option.bind_some,h1,Option.bind_some]; dsimp only
 rw [h2,Option.bind_some]; dsimp only
 rw [h3,Option.bind_some,h4,Option.map_some,h5]
theorem qm {ds:List D} (d:D) (h:ds.length≤100000):gi ds [d]=some (ds++[d],.none):=by
 show cIf _ _ _=_; rw [b0 (vf h)]
theorem qo {i j:Nat} {f:List D->Option ((D × Bool) × D × D)} {m:Rho->Option (List RV × Rho)} {ρ ρ1 ρ2 ρ3:Rho} {rs:List RV} {ds:List D} {s t s0 t0:Sl} {d d1 d2 dS dT:D} {o:Bool} {r:RV} (hij:i≠j) (a:ownAt ρ i=some s0) (b:ownAt ρ j=some t0) (h1:m ρ=some (rs,ρ1)) (h2:eZ rs ρ1=some (ds,ρ2)) (h3:ownAt ρ2 i=some s) (h4:ownAt ρ2 j=some t) (h5:f (dS::dT::ds)=some ((d,o),d1,d2)) (h6:(ρ2.set i (s.put d1)).set j (t.put d2)=ρ3) (e1:slD s=dS:=by rfl) (e2:slD t=dT:=by rfl) (h7:kO d o=r:=by rfl):i8 i j f m ρ=some (r,ρ3):=by
 subst e1 e2 h7
 unfold i8
 rw [if_neg hij,a,Option.bind_some,b,Option.bind_some,h1,Option.bind_some]; dsimp only
 rw [h2,Option.bind_some]; dsimp only
 rw [h3,Option.bind_some,h4,Option.bind_some,h5,Option.map_some,h6]
theorem qp {n k:Nat} {b:SM} {d0 e0:D} {ds:List D} {o:Out} {r:D × Bool} {d:D × D} (h0:ds.length + 2=n) (h1:b (.io d0::.io e0::ds.map .fz++List.replicate k .no)=some o) (h2:pz o=some r) (h3:io2 (m4 o)=some d):fnJ n k b (d0::e0::ds)=some (r,d):=by
 show (if ds.length + 2=n then _ else _)=_
 rw [if_pos h0,h1,Option.bind_some,h2,Option.bind_some,h3,Option.map_some]
abbrev TD (aj:List Str):D:=.list (aj.map .str)
abbrev HD (keys:List Str) (row:Str->aL.Row):D:=.dict (cg keys row)
theorem Cy {z:Str}:∀ {zs:List Str},z∈zs->∃ j,vB zs z=some j∧zs.eraseIdx j=zs.erase z
 | [],h=>by cases h
 | a::zs,h=>by
  unfold vB
  by_cases e:a=z
  ·subst e
   exact ⟨0,if_pos rfl,by simp⟩
  ·obtain ⟨j,h1,h2⟩:=Cy (zs:=zs) ((List.mem_cons.mp h).resolve_left fun q=>e q.symm)
   refine ⟨j + 1,?_,?_⟩
   ·rw [if_neg e,h1]; rfl
   ·rw [List.eraseIdx_cons_succ,h2,List.erase_cons_tail (by simpa using e)]
theorem Hx {z:Str} {zs:List Str} (h:z∈zs):oS (zs.map .str) [.str z]=some ((zs.erase z).map .str,.none):=by
 obtain ⟨j,h1,h2⟩:=Cy h
 show (qb (zs.map .str)).bind _=_
 rw [sr,Option.bind_some,h1,Option.map_some,← h2,tN]
def dO (row:Str->aL.Row) (name on:Str):Str->aL.Row :=
 aQ (aQ row name ⟨(row name).key,some on,false,(row name).below⟩) on ⟨((aQ row name ⟨(row name).key,some on,false,(row name).below⟩) on).key,((aQ row name ⟨(row name).key,some on,false,(row name).below⟩) on).above,((aQ row name ⟨(row name).key,some on,false,(row name).below⟩) on).mark,((aQ row name ⟨(row name).key,some on,false,(row name).below⟩) on).below++[name]⟩
theorem EF {aj keys:List Str} {row:Str->aL.Row} {name on:Str} (hn:name∈keys) (ho:on∈keys) (ht:name∈aj) (hk:keys.length≤1000) (hb:∀ n∈keys,(row n).below.length≤1000):fV [TD aj,HD keys row,.str name,.str on]=some ((.none,false),TD (aj.erase name),HD keys (dO row name on)):=by
 have e1:aW (row name)=.tuple [.int (row name).key,aJ (row name).above,.bool (row name).mark,.tuple ((row name).below.map .str)]:=rfl
 let cq:=aQ row name ⟨(row name).key,some on,false,(row name).below⟩
 have hb1:(cq on).below.length≤1000:=by
  show (aQ row name ⟨(row name).key,some on,false,(row name).below⟩ on).below.length≤1000
  unfold aQ
  split
  ·exact hb name hn
  ·exact hb on ho
 refine qp (o:=.nx [.io (TD (aj.erase name)),.io (HD keys (dO row name on)),.fz (.str name),.fz (.str on),.fz (.int (cq on).key),.fz (aJ (cq on).above),.fz (.bool (cq on).mark),.fz (.tuple ((cq on).below.map .str))]) rfl ?_ rfl rfl
 refine aM (ρ1:=[.io (TD aj),.io (HD keys row),.fz (.str name),.fz (.str on),.fz (.int (row name).key),.fz (aJ (row name).above),.fz (.bool (row name).mark),.fz (.tuple ((row name).below.map .str))]) (kS (cS (.inr (.inr rfl)) hn (ao rfl)) rfl) ?_
 refine aM (ρ1:=[.io (TD aj),.io (HD keys cq),.fz (.str name),.fz (.str on),.fz (.int (row name).key),.fz (aJ (row name).above),.fz (.bool (row name).mark),.fz (.tuple ((row name).below.map .str))]) ((gT (i:=1) (r:=⟨(row name).key,some on,false,(row name).below⟩) (c7 (rs:=[(.int (row name).key,.fz),(.str on,.fz),(.bool false,.fz),(.tuple ((row name).below.map .str),.fz)]) rfl rfl (by simp)) (ao rfl) rfl (.inr rfl) hk).trans (by rw [fG hn]; rfl)) ?_
 refine aM (ρ1:=[.io (TD aj),.io (HD keys cq),.fz (.str name),.fz (.str on),.fz (.int (cq on).key),.fz (aJ (cq on).above),.fz (.bool (cq on).mark),.fz (.tuple ((cq on).below.map .str))]) (kS (cS (.inr (.inr rfl)) ho (ao rfl)) rfl) ?_
 refine aM (ρ1:=[.io (TD aj),.io (HD keys (dO row name on)),.fz (.str name),.fz (.str on),.fz (.int (cq on).key),.fz (aJ (cq on).above),.fz (.bool (cq on).mark),.fz (.tuple ((cq on).below.map .str))]) ?_ ?_
 ·have ea:∃ k,sv (mOp sh (ai 7) (fm (ah (ai 2) aD))) [.io (TD aj),.io (HD keys cq),.fz (.str name),.fz (.str on),.fz (.int (cq on).key),.fz (aJ (cq on).above),.fz (.bool (cq on).mark),.fz (.tuple ((cq on).below.map .str))]=some ((.tuple (((cq on).below++[name]).map .str),.fz),k)∧k=[.io (TD aj),.io (HD keys cq),.fz (.str name),.fz (.str on),.fz (.int (cq on).key),.fz (aJ (cq on).above),.fz (.bool (cq on).mark),.fz (.tuple ((cq on).below.map .str))]:=by
   obtain ⟨o,ho⟩:=Ad ((cq on).below.map .str) [.str name] (by simp; omega) (by simp)
   refine ⟨_,?_,rfl⟩
   have h:=bH (a:=ai 7) (b:=fm (ah (ai 2) aD)) (r:=(.tuple [.str name],.fz)) (res:=(.tuple (((cq on).below++[name]).map .str),o)) (ρ:=[.io (TD aj),.io (HD keys cq),.fz (.str name),.fz (.str on),.fz (.int (cq on).key),.fz (aJ (cq on).above),.fz (.bool (cq on).mark),.fz (.tuple ((cq on).below.map .str))]) (g:=sh) (ak (ao rfl)) (ak (c7 (rs:=[(.str name,.fz)]) rfl rfl (by simp))) (by rw [ho,List.map_append]; rfl)
   cases o
   ·exact ak h
   ·exact ak h
  obtain ⟨_,ea,rfl⟩:=ea
  exact (gT (i:=1) (r:=⟨(cq on).key,(cq on).above,(cq on).mark,(cq on).below++[name]⟩) (c7 (rs:=[(.int (cq on).key,.fz),(aJ (cq on).above,.fz),(.bool (cq on).mark,.fz),(.tuple (((cq on).below++[name]).map .str),.fz)]) (au (ak (ao rfl)) (au (ak (ao rfl)) (au (ak (ao rfl)) (au ea aI)))) rfl (by simp)) (ao rfl) rfl (.inr rfl) hk).trans (by rw [fG ho]; rfl)
 ·exact gk (nF (rs:=[(.str name,.fz)]) rfl rfl rfl rfl (Hx ht) rfl)
theorem vQ {a c:Int} {x y:Str} (ne:x≠y) (h:aZ a x c y=false):aZ c y a x=true:=by
 unfold aZ at h ⊢
 by_cases e:a=c
 ·subst e
  rw [if_pos rfl,if_neg ne] at h
  rw [if_pos rfl,if_neg (fun z=>ne z.symm)]
  have h1 : ¬ x.cps.toList < y.cps.toList:=of_decide_eq_false h
  refine decide_eq_true ?_
  rcases List.le_iff_lt_or_eq.mp (List.not_lt.mp h1) with h2 | h2
  ·exact h2
  ·refine absurd ?_ ne
   cases x; cases y
   congr 1
   exact (Array.toList_inj.mp h2).symm
 ·rw [if_neg e] at h
  rw [if_neg (fun z=>e z.symm)]
  have:=of_decide_eq_false h
  exact decide_eq_true (by omega)
theorem mv {a b c:Int} {x y z:Str} (h1:aZ a x b y=true) (h2:aZ b y c z=true):aZ a x c z=true:=by
 unfold aZ at h1 h2 ⊢
 by_cases e1:a=b
 ·subst e1
  rw [if_pos rfl] at h1
  by_cases e2:a=c
  ·subst e2
   rw [if_pos rfl] at h2 ⊢
   split at h1
   ·cases h1
   split at h2
   ·cases h2
   have l1:=of_decide_eq_true h1
   have l2:=of_decide_eq_true h2
   have l3:x.cps.toList < z.cps.toList:=List.lt_trans l1 l2
   rw [if_neg (fun q=>by rw [q] at l3; exact List.lt_irrefl _ l3)]
   exact decide_eq_true l3
  ·rw [if_neg e2] at h2 ⊢; exact h2
 ·rw [if_neg e1] at h1
  have l1:=of_decide_eq_true h1
  by_cases e2:b=c
  ·subst e2; rw [if_neg e1]; exact h1
  ·rw [if_neg e2] at h2
   have l2:=of_decide_eq_true h2
   rw [if_neg (by omega)]
   exact decide_eq_true (by omega)
theorem qq {a:Int} {x:Str}:aZ a x a x=false:=by
 unfold aZ; rw [if_pos rfl,if_pos rfl]
theorem mw {x:Str} (h:PyData.strOk x=true):SeqAt.shaped (.str x)=true:=by
 unfold SeqAt.shaped
 rw [decide_eq_true (by simp [PyData.depth]),Bool.and_true]
 simp only [PyData.canLay0,h]
theorem ze {x y:Str} (hx:PyData.strOk x=true) (hy:PyData.strOk y=true):gNe (.str x) (.str y)=some (.bool (!decide (x=y)),false):=by
 unfold gNe
 rw [if_pos ⟨mw hx,mw hy⟩]
 simp only [PyData.eqv]
 by_cases e:x=y
 ·subst e; simp
 ·simp [e]
theorem gU {c:Rho->Option (Bool × Rho)} {e:PM} {ρn:Rho} {p:Str->Bool}:∀ l:List Str,(∀ x∈l,∃ ρ,c (.fz (.str x)::ρn)=some (p x,ρ))->(∀ x∈l,∃ ρ,sv e (.fz (.str x)::ρn)=some ((.str x,.fz),ρ))->jV c e ρn (l.map .str)=some ((l.filter p).map .str)
 | [],_,_=>rfl
 | x::l,h,h2=>by
  have ih:=gU l (fun y hy=>h y (List.mem_cons_of_mem _ hy)) fun y hy=>h2 y (List.mem_cons_of_mem _ hy)
  obtain ⟨ρ,e1⟩:=h x List.mem_cons_self
  obtain ⟨ρ2,e2⟩:=h2 x List.mem_cons_self
  show (c (.fz (.str x)::ρn)).bind _=_
  rw [e1,Option.bind_some]; dsimp only
  cases hp:p x with
  | false=>rw [if_neg (by simp),ih,List.filter_cons_of_neg (by simp [hp])]
  | true=>rw [if_pos rfl,e2,Option.bind_some]; dsimp only [asF,Option.bind_some]; rw [ih,List.filter_cons_of_pos (by simp [hp])]; rfl
theorem jH {x y:Str} (hx:PyData.strOk x=true) (hy:PyData.strOk y=true):PyData.strOk (x++y)=true:=by
 unfold PyData.strOk at *
 show (x.cps++y.cps).all _=true
 rw [Array.all_append,hx,hy]; rfl
theorem sx:∀ j:Nat,j < 26->PyData.strOk (letter j)=true:=by decide +kernel
theorem Hy:∀ j:Nat,j < 6->PyData.strOk (sfx j)=true:=by decide +kernel
theorem Cz (k:Nat):PyData.strOk (aH k)=true:=by
 unfold aH
 have h1:=sx (k / 52 % 26) (by omega)
 have h2:=sx (k / 2 % 26) (by omega)
 split
 ·exact jH (jH h1 h2) (Hy _ (by omega))
 ·exact jH h1 h2
structure Bt (K:Str->Int) (c:Nat) (aj keys:List Str) (row:Str->aL.Row):Prop where
 nd:keys.Nodup
 nm:∀ n∈keys,∃ i,i < c∧n=aH i
 tn:aj.Nodup
 tk:∀ t∈aj,t∈keys∧(row t).above=none
 ne:keys≠[]->aj≠[]
 mkd:∀ n∈keys,(row n).mark=true->(row n).above≠none
 ab:∀ n∈keys,∀ a,(row n).above=some a->a∈keys
 bl:∀ n∈keys,(row n).below.length≤c∧∀ b∈(row n).below,b∈keys
 ho:∀ n∈keys,∀ a,(row n).above=some a->aZ (K a) a (K n) n=true
theorem Bt.kl {c:Nat} {aj keys:List Str} {row:Str->aL.Row} {K:Str->Int} (h:Bt K c aj keys row):keys.length≤c:=by
 have:=aL.qe keys ((List.range c).map aH) h.nd fun x hx=>by
  obtain ⟨i,hi,rfl⟩:=h.nm x hx
  exact List.mem_map_of_mem (List.mem_range.mpr hi)
 simpa using this
theorem Bt.tl {c:Nat} {aj keys:List Str} {row:Str->aL.Row} {K:Str->Int} (h:Bt K c aj keys row):aj.length≤c:=Nat.le_trans (aL.qe aj keys h.tn fun x hx=>(h.tk x hx).1) h.kl
theorem Bt.ok {c:Nat} {aj keys:List Str} {row:Str->aL.Row} {K:Str->Int} (h:Bt K c aj keys row) {n:Str} (hn:n∈keys):PyData.strOk n=true:=by
 obtain ⟨i,_,rfl⟩:=h.nm n hn
 exact Cz i
theorem aN (row:Str->aL.Row) (n:Str) (r:aL.Row):aQ row n r n=r:=if_pos rfl
theorem aG (row:Str->aL.Row) {n m:Str} (r:aL.Row) (h:m≠n):aQ row n r m=row m:=if_neg h
def bo (row:Str->aL.Row) (name:Str):Str->aL.Row:=aQ row name ⟨(row name).key,none,false,(row name).below⟩
def dQ (row:Str->aL.Row) (name a:Str):Str->aL.Row:=aQ (bo row name) a ⟨(bo row name a).key,(bo row name a).above,(bo row name a).above.isSome,(bo row name a).below.filter fun x=>!decide (x=name)⟩
theorem lI (row:Str->aL.Row) (name n:Str):(bo row name n).above=if n=name then none else (row n).above:=by
 unfold bo aQ
 split <;> rfl
theorem ir (row:Str->aL.Row) (name a n:Str):(dQ row name a n).above=if n=name then none else (row n).above:=by
 rw [← lI]
 unfold dQ
 by_cases e:n=a
 ·subst e; rw [aN]
 ·rw [aG _ _ e]
theorem qr {row:Str->aL.Row} {name a n:Str}:(dQ row name a n).below.length≤(row n).below.length∧∀ b∈(dQ row name a n).below,b∈(row n).below:=by
 have h1:(bo row name n).below=(row n).below:=by
  unfold bo aQ
  split
  ·rename_i e; rw [e]
  ·rfl
 unfold dQ
 by_cases e:n=a
 ·subst e
  rw [aN]
  show (List.filter _ (bo row name n).below).length≤_∧∀ b∈List.filter _ (bo row name n).below,_
  rw [h1]
  exact ⟨List.length_filter_le _ _,fun b hb=>(List.mem_filter.mp hb).1⟩
 ·rw [aG _ _ e,h1]
  exact ⟨Nat.le_refl _,fun b hb=>hb⟩
theorem Am {row:Str->aL.Row} {name a n:Str}:(dQ row name a n).mark=true->(dQ row name a n).above.isSome=true∨(n≠name∧(row n).mark=true):=by
 intro h
 by_cases e:n=a
 ·subst e
  left
  unfold dQ at h ⊢
  rw [aN] at h ⊢
  exact h
 ·unfold dQ at h ⊢
  rw [aG _ _ e] at h ⊢
  unfold bo at h ⊢
  by_cases e2:n=name
  ·subst e2; rw [aN] at h; cases h
  ·rw [aG _ _ e2] at h
   exact Or.inr ⟨e2,h⟩
theorem CA (row:Str->aL.Row) (name n:Str):(bo row name n).key=(row n).key:=by
 unfold bo aQ
 split
 ·rename_i e; rw [e]
 ·rfl
theorem CB (row:Str->aL.Row) (name a n:Str):(dQ row name a n).key=(row n).key:=by
 rw [← CA row name]
 unfold dQ
 by_cases e:n=a
 ·subst e; rw [aN]
 ·rw [aG _ _ e]
theorem Bt.cut {c:Nat} {aj keys:List Str} {row:Str->aL.Row} {K:Str->Int} (h:Bt K c aj keys row) {name a:Str} (hn:name∈keys) (ha:(row name).above=some a):Bt K c (aj++[name]) keys (dQ row name a):=by
 have hnt:name ∉ aj:=fun z=>by rw [(h.tk name z).2] at ha; cases ha
 refine ⟨h.nd,h.nm,?_,fun t ht=>?_,fun _=>by simp,fun n hk hm=>?_,fun n hk b hb=>?_,fun n hk=>?_,fun n hk b hb=>?_⟩
 ·rw [List.nodup_append]
  refine ⟨h.tn,by simp,fun x hx y hy=>?_⟩
  rw [List.mem_singleton.mp hy]
  exact fun e=>hnt (by rw [← e]; exact hx)
 ·rw [ir]
  rcases List.mem_append.mp ht with ht | ht
  ·refine ⟨(h.tk t ht).1,?_⟩
   split
   ·rfl
   ·exact (h.tk t ht).2
  ·rw [List.mem_singleton.mp ht]
   exact ⟨hn,if_pos rfl⟩
 ·rcases Am hm with e | ⟨e1,e2⟩
  ·exact fun z=>by rw [z] at e; cases e
  ·rw [ir,if_neg e1]
   exact h.mkd n hk e2
 ·rw [ir] at hb
  split at hb
  ·cases hb
  ·exact h.ab n hk b hb
 ·exact ⟨Nat.le_trans qr.1 (h.bl n hk).1,fun b hb=>(h.bl n hk).2 b (qr.2 b hb)⟩
 ·rw [ir] at hb
  split at hb
  ·cases hb
  ·exact h.ho n hk b hb
inductive Ch (row:Str->aL.Row):Str->List Str->Str->Prop
 | one {n a:Str}:(row n).above=some a->(row a).mark=false->Ch row n [n] a
 | more {n a L:Str} {C:List Str}:(row n).above=some a->(row a).mark=true->Ch row a C L->Ch row n (n::C) L
theorem sy {α:Type} {p q : α->Bool}:∀ l:List α,(∀ x∈l,p x=true->q x=true)->(∃ x∈l,p x=false∧q x=true)->l.countP p < l.countP q
 | [],_,⟨x,hx,_⟩=>by cases hx
 | y::l,h,⟨x,hx,e1,e2⟩=>by
  rw [List.countP_cons,List.countP_cons]
  have hle:l.countP p≤l.countP q:=List.countP_mono_left fun z hz=>h z (List.mem_cons_of_mem _ hz)
  rcases List.mem_cons.mp hx with rfl | hx'
  ·rw [e1,e2,if_neg Bool.false_ne_true,if_pos rfl]; omega
  ·have:=sy l (fun z hz=>h z (List.mem_cons_of_mem _ hz)) ⟨x,hx',e1,e2⟩
   have hy:=h y (List.mem_cons_self)
   cases hp:p y with
   | false=>rw [if_neg Bool.false_ne_true]; omega
   | true=>rw [hy hp,if_pos rfl]; omega
section
variable {K:Str->Int} {c:Nat} {aj keys:List Str} {row:Str->aL.Row}
def rank (K:Str->Int) (keys:List Str) (n:Str):Nat:=keys.countP fun m=>aZ (K m) m (K n) n
theorem zf (h:Bt K c aj keys row) {n a:Str} (hn:n∈keys) (ha:(row n).above=some a):rank K keys a < rank K keys n :=
 sy keys (fun m _ e=>mv e (h.ho n hn a ha)) ⟨a,h.ab n hn a ha,qq,h.ho n hn a ha⟩
theorem Jq (h:Bt K c aj keys row):∀ (m:Nat) (n:Str),n∈keys->rank K keys n≤m->(row n).above≠none->∃ C L,Ch row n C L∧C.length≤m:=by
 intro m
 induction m with
 | zero =>
  intro n hn hr ha
  cases e:(row n).above with
  | none=>exact absurd e ha
  | some a=>have:=zf h hn e; omega
 | succ m ih =>
  intro n hn hr ha
  cases e:(row n).above with
  | none=>exact absurd e ha
  | some a =>
   have hk:=h.ab n hn a e
   cases em:(row a).mark with
   | false=>exact ⟨[n],a,.one e em,by simp⟩
   | true =>
    obtain ⟨C,L,h1,h2⟩:=ih a hk (by have:=zf h hn e; omega) (h.mkd a hk em)
    exact ⟨n::C,L,.more e em h1,by rw [List.length_cons]; omega⟩
theorem FU (h:Bt K c aj keys row) {n:Str} (hn:n∈keys) (ha:(row n).above≠none):∃ C L,Ch row n C L∧C.length≤c:=by
 obtain ⟨C,L,h1,h2⟩:=Jq h keys.length n hn List.countP_le_length ha
 exact ⟨C,L,h1,Nat.le_trans h2 h.kl⟩
theorem Ch.mem (h:Bt K c aj keys row):∀ {C:List Str} {n L:Str},Ch row n C L->n∈keys->(∀ x∈C,x∈keys)∧L∈keys
 | _,n,_,.one ha _,hn=>⟨fun x hx=>by rw [List.mem_singleton.mp hx]; exact hn,h.ab n hn _ ha⟩
 | _,n,_,.more ha _ hc,hn=>by
  obtain ⟨h1,h2⟩:=Ch.mem h hc (h.ab n hn _ ha)
  exact ⟨fun x hx=>(List.mem_cons.mp hx).elim (fun e=>e ▸ hn) (h1 x),h2⟩
theorem Ch.tr {bu:Str->aL.Row} (h:Bt K c aj keys row):∀ {C:List Str} {n L:Str},Ch row n C L->n∈keys->(bu n).above=(row n).above->(∀ m∈keys,aZ (K m) m (K n) n=true->(bu m).above=(row m).above∧(bu m).mark=(row m).mark)->Ch bu n C L
 | _,n,a,.one ha hm,hn,e,k=>.one (e.trans ha) (((k a (h.ab n hn a ha) (h.ho n hn a ha)).2).trans hm)
 | _,n,_,.more (a:=a) ha hm hc,hn,e,k =>
  .more (e.trans ha) (((k a (h.ab n hn a ha) (h.ho n hn a ha)).2).trans hm) (Ch.tr h hc (h.ab n hn a ha) (k a (h.ab n hn a ha) (h.ho n hn a ha)).1 fun m hm l=>k m hm (mv l (h.ho n hn a ha)))
theorem An {n a m:Str} (h1:m≠n) (h2:m≠a):dQ row n a m=row m:=by
 unfold dQ bo
 rw [aG _ _ h2,aG _ _ h1]
theorem nG {n a:Str} (h:a≠n):(bo row n a).mark=(row a).mark:=by
 unfold bo
 rw [aG _ _ h]
theorem Bt.neA (h:Bt K c aj keys row) {n a:Str} (hn:n∈keys) (ha:(row n).above=some a):a≠n:=fun e=>by
 have:=h.ho n hn a ha
 rw [e,qq] at this
 cases this
theorem Ch.cut (h:Bt K c aj keys row) {n a L:Str} {C:List Str} (hn:n∈keys) (ha:(row n).above=some a) (hc:Ch row a C L):Ch (dQ row n a) a C L:=by
 have ne:=h.neA hn ha
 refine Ch.tr h hc (h.ab n hn a ha) (by rw [ir,if_neg ne]) fun m hm l=>?_
 have e1:m≠n:=fun e=>by
  subst e
  have:=mv l (h.ho m hn a ha)
  rw [qq] at this; cases this
 have e2:m≠a:=fun e=>by
  subst e
  rw [qq] at l; cases l
 rw [An e1 e2]
 exact ⟨rfl,rfl⟩
end
def cuts:List Str->(Str->aL.Row)->Str->aL.Row
 | [],row=>row
 | n::C,row=>cuts C (dQ row n ((row n).above.getD n))
theorem g6 {C:List Str} {row:Str->aL.Row} {n a:Str} (ha:(row n).above=some a):cuts (n::C) row=cuts C (dQ row n a):=by
 show cuts C (dQ row n ((row n).above.getD n))=_
 rw [ha]; rfl
theorem vR:∀ (C:List Str) (row:Str->aL.Row) (n:Str),(cuts C row n).key=(row n).key
 | [],_,_=>rfl
 | x::C,row,n=>(vR C _ n).trans (CB _ _ _ _)
def stp (n:Str):D:=.tuple [.str "cut",.str n]
theorem fk (f:Option Str):ic (aJ f) .none=some (.bool f.isSome,false):=by cases f <;> rfl
theorem vS (f:Option Str):gIs (aJ f) .none=some (.bool f.isNone,false):=by cases f <;> rfl
theorem my (l:List Str) (x:Str):l.map PyData.str++[.str x]=(l++[x]).map .str:=by rw [List.map_append]; rfl
theorem CC {a:PM} {ρ ρ1:Rho} {l:List D} {k:Kd} (h1:sv a ρ=some ((.tuple l,k),ρ1)):Bh a ρ=some (l,ρ1):=by
 unfold Bh; rw [h1]; rfl
theorem vT {c:Nat} (hc:c≤200) {aj keys:List Str} {row:Str->aL.Row} {name a:Str} {K:Str->Int} (h:Bt K c aj keys row) (hn:name∈keys) (ha:(row name).above=some a) {sts:List D} (hs:sts.length≤1000) {s5 s6 s7 s8 s9 s10:Sl} (n5:NIo s5) (n6:NIo s6) (n7:NIo s7) (n8:NIo s8) (n9:NIo s9) (n10:NIo s10) :
  kq [.io (TD aj),.io (HD keys row),.fz (.str name),.own (.list sts),.fz (.bool true),s5,s6,s7,s8,s9,s10]=some (.nx [.io (TD (aj++[name])),.io (HD keys (dQ row name a)),.fz (.str a),.own (.list (sts++[.tuple [.str "cut",.str name]])),.fz (.bool (bo row name a).mark),.fz (.int (bo row name a).key),.fz (.str a),.fz (.bool (row name).mark),.fz (.tuple (((bo row name a).below.filter fun x=>!decide (x=name)).map .str)),.fz (aJ (bo row name a).above),.fz (.bool (bo row name a).mark)]):=by
 have hka:=h.ab name hn a ha
 have kl:=h.kl
 have tl:=h.tl
 have okn:=h.ok hn
 refine aM (ρ1:=[.io (TD aj),.io (HD keys row),.fz (.str name),.own (.list sts),.fz (.bool true),.fz (.int (row name).key),.fz (.str a),.fz (.bool (row name).mark),.fz (.tuple ((row name).below.map .str)),s9,s10]) (kS (cS (.inr (.inr rfl)) hn (ao rfl)) ?_) ?_
 ·show (mgN 5 (.int (row name).key) _).bind (fun ρ1=>(mgN 6 (aJ (row name).above) ρ1).bind fun ρ2=>(mgN 7 (.bool (row name).mark) ρ2).bind fun ρ3=>(mgN 8 (.tuple ((row name).below.map .str)) ρ3).bind fun ρ4=>some ρ4)=_
  rw [fE (s:=s5) rfl n5,Option.bind_some,fE (s:=s6) rfl n6,Option.bind_some,fE (s:=s7) rfl n7,Option.bind_some,fE (s:=s8) rfl n8,Option.bind_some,ha]
  rfl
 refine aM (ρ1:=[.io (TD aj),.io (HD keys (bo row name)),.fz (.str name),.own (.list sts),.fz (.bool true),.fz (.int (row name).key),.fz (.str a),.fz (.bool (row name).mark),.fz (.tuple ((row name).below.map .str)),s9,s10]) ((gT (i:=1) (r:=⟨(row name).key,none,false,(row name).below⟩) (c7 (rs:=[(.int (row name).key,.fz),(.none,.fz),(.bool false,.fz),(.tuple ((row name).below.map .str),.fz)]) rfl rfl (by simp)) (ao rfl) rfl (.inr rfl) (by omega)).trans (by rw [fG hn]; rfl)) ?_
 refine aM (ρ1:=[.io (TD (aj++[name])),.io (HD keys (bo row name)),.fz (.str name),.own (.list sts),.fz (.bool true),.fz (.int (row name).key),.fz (.str a),.fz (.bool (row name).mark),.fz (.tuple ((row name).below.map .str)),s9,s10]) (gk (nF (rs:=[(.str name,.fz)]) rfl rfl rfl rfl (qm _ (by rw [List.length_map]; omega)) (by rw [my]; rfl))) ?_
 refine aM (ρ1:=[.io (TD (aj++[name])),.io (HD keys (bo row name)),.fz (.str name),.own (.list (sts++[.tuple [.str "cut",.str name]])),.fz (.bool true),.fz (.int (row name).key),.fz (.str a),.fz (.bool (row name).mark),.fz (.tuple ((row name).below.map .str)),s9,s10]) (gk (nF (rs:=[(.tuple [.str "cut",.str name],.fz)]) rfl (au (ak (c7 (rs:=[(.str "cut",.fz),(.str name,.fz)]) rfl rfl (by simp))) aI) rfl rfl (qm _ (by omega)) rfl)) ?_
 refine aM (ρ1:=[.io (TD (aj++[name])),.io (HD keys (bo row name)),.fz (.str name),.own (.list (sts++[.tuple [.str "cut",.str name]])),.fz (.bool true),.fz (.int (bo row name a).key),.fz (.str a),.fz (.bool (row name).mark),.fz (.tuple ((bo row name a).below.map .str)),.fz (aJ (bo row name a).above),.fz (.bool (bo row name a).mark)]) (kS (cS (.inr (.inr rfl)) hka (ao rfl)) ?_) ?_
 ·show (some ([.io (TD (aj++[name])),.io (HD keys (bo row name)),.fz (.str name),.own (.list (sts++[.tuple [.str "cut",.str name]])),.fz (.bool true),.fz (.int (bo row name a).key),.fz (.str a),.fz (.bool (row name).mark),.fz (.tuple ((row name).below.map .str)),s9,s10]:Rho)).bind (fun ρ1=>(mgN 9 (aJ (bo row name a).above) ρ1).bind fun ρ2=>(mgN 10 (.bool (bo row name a).mark) ρ2).bind fun ρ3=>(mgN 8 (.tuple ((bo row name a).below.map .str)) ρ3).bind fun ρ4=>some ρ4)=_
  rw [Option.bind_some,fE (s:=s9) rfl n9,Option.bind_some,fE (s:=s10) rfl n10,Option.bind_some]
  rfl
 have bk:∀ b∈(bo row name a).below,b∈keys:=fun b hb=>by
  have e:(bo row name a).below=(row a).below:=by
   unfold bo aQ
   split
   ·rename_i e; rw [e]
   ·rfl
  rw [e] at hb
  exact (h.bl a hka).2 b hb
 have bl:(bo row name a).below.length≤1000:=by
  have e:(bo row name a).below=(row a).below:=by
   unfold bo aQ
   split
   ·rename_i e; rw [e]
   ·rfl
  rw [e]
  have:=(h.bl a hka).1
  omega
 refine aM (ρ1:=[.io (TD (aj++[name])),.io (HD keys (bo row name)),.fz (.str name),.own (.list (sts++[.tuple [.str "cut",.str name]])),.fz (.bool true),.fz (.int (bo row name a).key),.fz (.str a),.fz (.bool (row name).mark),.fz (.tuple (((bo row name a).below.filter fun x=>!decide (x=name)).map .str)),.fz (aJ (bo row name a).above),.fz (.bool (bo row name a).mark)]) (dW (fe (rs:=[(.list (((bo row name a).below.filter fun x=>!decide (x=name)).map .str),.fz)]) (res:=(.tuple (((bo row name a).below.filter fun x=>!decide (x=name)).map .str),true)) (au (ie (Bw (CC (ak (ao rfl))) (gU (p:=fun x=>!decide (x=name)) _ (fun x hx=>⟨_,test_ev (k:=.fz) (bH (r:=(.str name,.fz)) (res:=(.bool (!decide (x=name)),false)) (ak (ao rfl)) (ak (ao rfl)) (ze (h.ok (bk x hx)) okn))⟩) fun x hx=>⟨_,ak (ao rfl)⟩) (by rw [List.length_map]; exact Nat.le_trans (List.length_filter_le _ _) (by omega)))) aI) rfl) rfl) ?_
 refine aM (ρ1:=[.io (TD (aj++[name])),.io (HD keys (dQ row name a)),.fz (.str name),.own (.list (sts++[.tuple [.str "cut",.str name]])),.fz (.bool true),.fz (.int (bo row name a).key),.fz (.str a),.fz (.bool (row name).mark),.fz (.tuple (((bo row name a).below.filter fun x=>!decide (x=name)).map .str)),.fz (aJ (bo row name a).above),.fz (.bool (bo row name a).mark)]) ((gT (i:=1) (r:=⟨(bo row name a).key,(bo row name a).above,(bo row name a).above.isSome,(bo row name a).below.filter fun x=>!decide (x=name)⟩) (c7 (rs:=[(.int (bo row name a).key,.fz),(aJ (bo row name a).above,.fz),(.bool (bo row name a).above.isSome,.fz),(.tuple (((bo row name a).below.filter fun x=>!decide (x=name)).map .str),.fz)]) (au (ak (ao rfl)) (au (ak (ao rfl)) (au (ak (bH (r:=(.none,.fz)) (res:=(.bool (bo row name a).above.isSome,false)) (ak (ao rfl)) (ak rfl) (fk _))) (au (ak (ao rfl)) aI)))) rfl (by simp)) (ao rfl) rfl (.inr rfl) (by omega)).trans (by rw [fG hka]; rfl)) ?_
 exact aM (ρ1:=[.io (TD (aj++[name])),.io (HD keys (dQ row name a)),.fz (.str name),.own (.list (sts++[.tuple [.str "cut",.str name]])),.fz (.bool (bo row name a).mark),.fz (.int (bo row name a).key),.fz (.str a),.fz (.bool (row name).mark),.fz (.tuple (((bo row name a).below.filter fun x=>!decide (x=name)).map .str)),.fz (aJ (bo row name a).above),.fz (.bool (bo row name a).mark)]) (dW (ao rfl) rfl) (dW (ao rfl) rfl)
theorem Ao {c:Nat} (hc:c≤200) {K:Str->Int} {keys:List Str}:∀ (C:List Str) (aj:List Str) (row:Str->aL.Row) (name L:Str) (sts:List D) (s5 s6 s7 s8 s9 s10:Sl) (fuel:Nat),NIo s5->NIo s6->NIo s7->NIo s8->NIo s9->NIo s10->Ch row name C L->Bt K c aj keys row->name∈keys->sts.length + C.length≤1000->C.length < fuel ->
  ∃ n' tl,fu oa kq fuel [.io (TD aj),.io (HD keys row),.fz (.str name),.own (.list sts),.fz (.bool true),s5,s6,s7,s8,s9,s10]=some (.nx (.io (TD (aj++C))::.io (HD keys (cuts C row))::.fz n'::.own (.list (sts++C.map stp))::tl))∧Bt K c (aj++C) keys (cuts C row):=by
 intro C
 induction C with
 | nil=>intro aj row name L sts s5 s6 s7 s8 s9 s10 fuel _ _ _ _ _ _ hch; cases hch
 | cons x C ih =>
  intro aj row name L sts s5 s6 s7 s8 s9 s10 fuel n5 n6 n7 n8 n9 n10 hch h hn hs hf
  rw [List.length_cons] at hs hf
  obtain ⟨fuel,rfl⟩:∃ k,fuel=k + 1:=⟨fuel - 1,by omega⟩
  cases hch with
  | one ha hm =>
   obtain ⟨fuel,rfl⟩:∃ k,fuel=k + 1:=⟨fuel - 1,by omega⟩
   have ne:=h.neA hn ha
   rw [g6 ha]
   exact ⟨_,_,pE (test_ev (k:=.fz) (ao rfl)) (vT hc h hn ha (by omega) n5 n6 n7 n8 n9 n10) (mW (test_ev (k:=.fz) (by rw [nG ne,hm]; exact ao rfl))),h.cut hn ha⟩
  | more ha hm hch =>
   rename_i a
   have ne:=h.neA hn ha
   rw [g6 ha]
   obtain ⟨n',tl,h1,h2⟩:=ih (aj++[x]) (dQ row x a) a L (sts++[.tuple [.str "cut",.str x]]) (.fz (.int (bo row x a).key)) (.fz (.str a)) (.fz (.bool (row x).mark)) (.fz (.tuple (((bo row x a).below.filter fun y=>!decide (y=x)).map .str))) (.fz (aJ (bo row x a).above)) (.fz (.bool (bo row x a).mark)) fuel (NIo.fz _) (NIo.fz _) (NIo.fz _) (NIo.fz _) (NIo.fz _) (NIo.fz _) (Ch.cut h hn ha hch) (h.cut hn ha) (h.ab x hn a ha) (by rw [List.length_append,List.length_singleton]; omega) (by omega)
   refine ⟨n',tl,pE (test_ev (k:=.fz) (ao rfl)) (vT hc h hn ha (by omega) n5 n6 n7 n8 n9 n10) ?_,?_⟩
   ·rw [nG ne,hm] at h1 ⊢
    rw [h1,List.append_assoc,List.append_assoc]
    rfl
   ·rw [List.append_assoc] at h2; exact h2
theorem CD {c:Nat} (hc:c≤200) {K:Str->Int} {aj keys C:List Str} {row:Str->aL.Row} (h:Bt K c aj keys row) {name L:Str} (hn:name∈keys) (hch:Ch row name C L) (hl:C.length≤200):fh [TD aj,HD keys row,.str name]=some ((.list (C.map stp),true),TD (aj++C),HD keys (cuts C row))∧Bt K c (aj++C) keys (cuts C row):=by
 obtain ⟨n',tl,h1,h2⟩:=Ao hc C aj row name L [] .no .no .no .no .no .no 1000000 NIo.no NIo.no NIo.no NIo.no NIo.no NIo.no hch h hn (by simp; omega) (by omega)
 refine ⟨?_,h2⟩
 have ea:(row name).above.isSome=true:=by cases hch with | one ha _=>rw [ha]; rfl | more ha _ _=>rw [ha]; rfl
 refine qp (o:=.rt (.list (C.map stp),.at 3) (.io (TD (aj++C))::.io (HD keys (cuts C row))::.fz n'::.own (.list (C.map stp))::tl)) rfl ?_ rfl rfl
 refine aM (ρ1:=[.io (TD aj),.io (HD keys row),.fz (.str name),.own (.list []),.no,.no,.no,.no,.no,.no,.no]) (dN (eC (rs:=[]) rfl rfl (by simp)) rfl) ?_
 refine aM (ρ1:=[.io (TD aj),.io (HD keys row),.fz (.str name),.own (.list []),.fz (.bool true),.no,.no,.no,.no,.no,.no]) (dW (bH (r:=(.none,.fz)) (res:=(.bool true,false)) (ak (d9 (cS (.inr (.inr rfl)) hn (ao rfl)))) (ak rfl) (by rw [fk,ea])) rfl) ?_
 rw [List.nil_append] at h1
 exact aM h1 (cD (gj rfl))
theorem Hz {c:Nat} (hc:c≤200) {K:Str->Int} {aj keys:List Str} {row:Str->aL.Row} (h:Bt K c aj keys row) {name:Str} (hn:name∈keys):∃ a6 bu sts,fh [TD aj,HD keys row,.str name]=some ((.list sts,true),TD a6,HD keys bu)∧Bt K c a6 keys bu∧∀ n,(bu n).key=(row n).key:=by
 cases ea:(row name).above with
 | some a =>
  obtain ⟨C,L,h1,h2⟩:=FU h hn (by rw [ea]; simp)
  obtain ⟨h3,h4⟩:=CD hc h hn h1 (by omega)
  exact ⟨_,_,_,h3,h4,vR C row⟩
 | none =>
  refine ⟨aj,row,[],?_,h,fun _=>rfl⟩
  refine qp (o:=.rt (.list [],.at 3) [.io (TD aj),.io (HD keys row),.fz (.str name),.own (.list []),.fz (.bool false),.no,.no,.no,.no,.no,.no]) rfl ?_ rfl rfl
  refine aM (ρ1:=[.io (TD aj),.io (HD keys row),.fz (.str name),.own (.list []),.no,.no,.no,.no,.no,.no,.no]) (dN (eC (rs:=[]) rfl rfl (by simp)) rfl) ?_
  refine aM (ρ1:=[.io (TD aj),.io (HD keys row),.fz (.str name),.own (.list []),.fz (.bool false),.no,.no,.no,.no,.no,.no]) (dW (bH (r:=(.none,.fz)) (res:=(.bool false,false)) (ak (d9 (cS (.inr (.inr rfl)) hn (ao rfl)))) (ak rfl) (by rw [fk,ea]; rfl)) rfl) ?_
  exact aM (mW (n:=999999) (test_ev (k:=.fz) (ao rfl))) (cD (gj rfl))
theorem kT (c:Int) (n:Nat) (h : 0 < n):∃ a:Nat,c % (n:Int)=(a:Int)∧a < n:=by
 have h1:=Int.emod_nonneg c (show (n:Int)≠0 by omega)
 have h2:=Int.emod_lt_of_pos c (show (0:Int) < (n:Int) by omega)
 exact ⟨(c % (n:Int)).toNat,by omega,by omega⟩
theorem HA (c:Int) {n k j:Nat} (hk:k < n) (hj:j < k):(c + (k:Int)) % (n:Int)≠(c + (j:Int)) % (n:Int):=fun e=>by
 have h:=Int.emod_eq_emod_iff_emod_sub_eq_zero.mp e
 rw [show c + (k:Int) - (c + (j:Int))=(k:Int) - (j:Int) by omega,Int.emod_eq_of_lt (by omega) (by omega)] at h
 omega
theorem uf {a:PM} {ρ:Rho} {n:Nat} (h:IE a ρ (n:Int)) (hn:n≤100000):sV (ah a aD) ρ=some ((List.range n).map (fun k:Nat=>PyData.int (k:Int)),ρ):=by
 rw [GZ (j:=(n:Int)) (k:=.fz) (dX h aI) ⟨by omega,by omega⟩,Int.toNat_natCast,Bx]
theorem ug {g:D->Rho->Option Rho} {b:SM} {α:Type} {f : α->D} (I:Rho->Prop) (R:RV->Prop):∀ (l:List α) (ρ:Rho),I ρ->(∀ x∈l,∀ ρ,I ρ->∃ ρ1 o,g (f x) ρ=some ρ1∧b ρ1=some o∧((∃ ρ2,o=.nx ρ2∧I ρ2)∨∃ r ρ2,o=.rt r ρ2∧R r))->∃ o,forL g b (l.map f) ρ=some o∧((∃ ρ2,o=.nx ρ2∧I ρ2)∨∃ r ρ2,o=.rt r ρ2∧R r)
 | [],ρ,h,_=>⟨_,rfl,.inl ⟨ρ,rfl,h⟩⟩
 | x::l,ρ,h,hb=>by
  obtain ⟨ρ1,o,h1,h2,h3⟩:=hb x List.mem_cons_self ρ h
  rcases h3 with ⟨ρ2,rfl,i2⟩ | ⟨r,ρ2,rfl,i2⟩
  ·obtain ⟨o,e1,e2⟩:=ug I R l ρ2 i2 fun y hy=>hb y (List.mem_cons_of_mem _ hy)
   exact ⟨o,jn h1 h2 e1,e2⟩
  ·exact ⟨_,DR h1 h2,.inr ⟨r,ρ2,rfl,i2⟩⟩
theorem zg {aj:List Str} {i:Nat} {t:Str} (h:aj[i]?=some t):gIx (TD aj) (.int (i:Int))=some (.str t,false):=qi _ _ _ (by rw [Mir.oJ,List.getElem?_map,h]; rfl)
def HB (aj:List Str) (r:RV):Prop:=∃ a b,(∃ i j:Nat,i≠j∧aj[i]?=some a∧aj[j]?=some b)∧r=(.list [.str a,.str b],.new)
theorem vU {r:aL.Row} {a:PM} {ρ:Rho} (h:a ρ=some ((aW r,.fz),ρ)):IE (mCB dH (ah (mOp gIx a (mC (.int 3))) aD)) ρ (r.below.length:Int):=fe (rs:=[(.tuple (r.below.map .str),.fz)]) (res:=(.int (r.below.length:Int),false)) (au (ak (ju h)) aI) (by show some (PyData.int ((r.below.map PyData.str).length:Int),false)=_; rw [List.length_map])
theorem Ap {aj keys:List Str} {row:Str->aL.Row} (hk:∀ t∈aj,t∈keys) (st:Int) {k j:Nat} (hkn:k < aj.length) (hj:j < k) {s5 s6:Sl} (n5:NIo s5) (n6:NIo s6) :
  ∃ o,gS [.fz (TD aj),.fz (HD keys row),.fz (.int st),.fz (.int (k:Int)),.fz (.int (j:Int)),s5,s6]=some o∧((∃ x y,o=.nx [.fz (TD aj),.fz (HD keys row),.fz (.int st),.fz (.int (k:Int)),.fz (.int (j:Int)),.fz x,.fz y])∨∃ r ρ2,o=.rt r ρ2∧HB aj r):=by
 obtain ⟨i,e1,hi⟩:=kT (st + (k:Int)) aj.length (by omega)
 obtain ⟨i',e2,hi'⟩:=kT (st + (j:Int)) aj.length (by omega)
 have ne:i≠i':=fun z=>HA st hkn hj (by rw [e1,e2,z])
 have g1:aj[i]?=some aj[i]:=List.getElem?_eq_getElem hi
 have g2:aj[i']?=some aj[i']:=List.getElem?_eq_getElem hi'
 have m1:=hk _ (List.getElem_mem hi)
 have m2:=hk _ (List.getElem_mem hi')
 generalize aj[i]=a at g1 m1
 generalize aj[i']=b at g2 m2
 have ln:∀ {ρ:Rho},ρ[0]?=some (.fz (TD aj))->IE (mCB dH (ah (ai 0) aD)) ρ (aj.length:Int):=fun {ρ} h=>by
  have:=xJ (i:=0) (l:=aj.map .str) (.inl h)
  rwa [List.length_map] at this
 have v1:∀ {ρ:Rho},ρ[0]?=some (.fz (TD aj))->ρ[2]?=some (.fz (.int st))->ρ[3]?=some (.fz (.int (k:Int)))->mOp gIx (ai 0) (mOp cJ (mOp eA (ai 2) (ai 3)) (mCB dH (ah (ai 0) aD))) ρ=some ((.str a,.fz),ρ):=fun {ρ} h0 h2 h3=>bH (r:=(.int (i:Int),.fz)) (res:=(.str a,false)) (ak (ao h0)) (ak ((c8 (i6 (b4 h2) (b4 h3)) (ln h0) (by omega)).is e1)) (zg g1)
 have v2:∀ {ρ:Rho},ρ[0]?=some (.fz (TD aj))->ρ[2]?=some (.fz (.int st))->ρ[4]?=some (.fz (.int (j:Int)))->mOp gIx (ai 0) (mOp cJ (mOp eA (ai 2) (ai 4)) (mCB dH (ah (ai 0) aD))) ρ=some ((.str b,.fz),ρ):=fun {ρ} h0 h2 h3=>bH (r:=(.int (i':Int),.fz)) (res:=(.str b,false)) (ak (ao h0)) (ak ((c8 (i6 (b4 h2) (b4 h3)) (ln h0) (by omega)).is e2)) (zg g2)
 have go:∀ o,gr (aF (mOp gEq (mCB dH (ah (mOp gIx (mOp cR (ai 1) (ai 5)) (mC (.int 3))) aD)) (mCB dH (ah (mOp gIx (mOp cR (ai 1) (ai 6)) (mC (.int 3))) aD)))) (eu (dn (ah (ai 5) (ah (ai 6) aD)))) e9 [.fz (TD aj),.fz (HD keys row),.fz (.int st),.fz (.int (k:Int)),.fz (.int (j:Int)),.fz (.str a),.fz (.str b)]=some o->gS [.fz (TD aj),.fz (HD keys row),.fz (.int st),.fz (.int (k:Int)),.fz (.int (j:Int)),s5,s6]=some o:=fun o h=>by
  refine aM (ρ1:=[.fz (TD aj),.fz (HD keys row),.fz (.int st),.fz (.int (k:Int)),.fz (.int (j:Int)),.fz (.str a),s6]) (dW (v1 rfl rfl rfl) (iP (s:=s5) _ rfl n5)) ?_
  exact aM (ρ1:=[.fz (TD aj),.fz (HD keys row),.fz (.int st),.fz (.int (k:Int)),.fz (.int (j:Int)),.fz (.str a),.fz (.str b)]) (dW (v2 rfl rfl rfl) (iP (s:=s6) _ rfl n6)) h
 have l1:=vU (cS (i:=1) (ρ:=[.fz (TD aj),.fz (HD keys row),.fz (.int st),.fz (.int (k:Int)),.fz (.int (j:Int)),.fz (.str a),.fz (.str b)]) (b:=ai 5) (.inl rfl) m1 (ao rfl))
 have l2:=vU (cS (i:=1) (ρ:=[.fz (TD aj),.fz (HD keys row),.fz (.int st),.fz (.int (k:Int)),.fz (.int (j:Int)),.fz (.str a),.fz (.str b)]) (b:=ai 6) (.inl rfl) m2 (ao rfl))
 by_cases e:((row a).below.length:Int)=((row b).below.length:Int)
 ·exact ⟨_,go _ (pI (tEq l1 l2 e) (cD (eC (rs:=[(.str a,.fz),(.str b,.fz)]) rfl rfl (by simp)))),.inr ⟨_,_,rfl,a,b,⟨i,i',ne,g1,g2⟩,rfl⟩⟩
 ·exact ⟨_,go _ (i5 (tNe l1 l2 e) rfl),.inl ⟨_,_,rfl⟩⟩
theorem EG {aj keys:List Str} {row:Str->aL.Row} (hk:∀ t∈aj,t∈keys) (hl:aj.length≤1000) (st:Int):∃ L:List Str,jG [TD aj,HD keys row,.int st]=some (TD L,true)∧(L=[]∨∃ (a b:Str) (i j:Nat),L=[a,b]∧i≠j∧aj[i]?=some a∧aj[j]?=some b):=by
 have ln:IE (mCB dH (ah (ai 0) aD)) [.fz (TD aj),.fz (HD keys row),.fz (.int st),.no,.no,.no,.no] (aj.length:Int):=by
  have:=xJ (i:=0) (l:=aj.map .str) (ρ:=[.fz (TD aj),.fz (HD keys row),.fz (.int st),.no,.no,.no,.no]) (.inl rfl)
  rwa [List.length_map] at this
 obtain ⟨o,h1,h2⟩:=ug (g:=mgN 3) (b:=mn) (f:=fun k:Nat=>PyData.int (k:Int)) (fun ρ=>∃ s3 s4 s5 s6,NIo s3∧NIo s4∧NIo s5∧NIo s6∧ρ=[.fz (TD aj),.fz (HD keys row),.fz (.int st),s3,s4,s5,s6]) (HB aj) (List.range aj.length) [.fz (TD aj),.fz (HD keys row),.fz (.int st),.no,.no,.no,.no] ⟨_,_,_,_,NIo.no,NIo.no,NIo.no,NIo.no,rfl⟩ (fun k hkm ρ hρ=>by
  obtain ⟨s3,s4,s5,s6,n3,n4,n5,n6,rfl⟩:=hρ
  have hkn:=List.mem_range.mp hkm
  obtain ⟨o,g1,g2⟩:=ug (g:=mgN 4) (b:=gS) (f:=fun k:Nat=>PyData.int (k:Int)) (fun ρ=>∃ s4 s5 s6,NIo s4∧NIo s5∧NIo s6∧ρ=[.fz (TD aj),.fz (HD keys row),.fz (.int st),.fz (.int (k:Int)),s4,s5,s6]) (HB aj) (List.range k) [.fz (TD aj),.fz (HD keys row),.fz (.int st),.fz (.int (k:Int)),s4,s5,s6] ⟨_,_,_,n4,n5,n6,rfl⟩ (fun j hjm ρ hρ=>by
   obtain ⟨s4,s5,s6,n4,n5,n6,rfl⟩:=hρ
   obtain ⟨o,f1,f2⟩:=Ap (row:=row) hk st hkn (List.mem_range.mp hjm) n5 n6
   refine ⟨_,o,fE (s:=s4) rfl n4,f1,?_⟩
   rcases f2 with ⟨x,y,rfl⟩ | f2
   ·exact .inl ⟨_,rfl,_,_,_,NIo.fz _,NIo.fz _,NIo.fz _,rfl⟩
   ·exact .inr f2)
  refine ⟨_,o,fE (s:=s3) rfl n3,pH (uf (b4 rfl) (by omega)) g1,?_⟩
  rcases g2 with ⟨ρ2,rfl,s4,s5,s6,n4,n5,n6,rfl⟩ | g2
  ·exact .inl ⟨_,rfl,_,_,_,_,NIo.fz _,n4,n5,n6,rfl⟩
  ·exact .inr g2)
 rcases h2 with ⟨ρ2,rfl,_⟩ | ⟨r,ρ2,rfl,a,b,⟨i,j,ne,g1,g2⟩,rfl⟩
 ·exact ⟨[],ej (o:=.rt (.list [],.new) ρ2) rfl (aM (pH (uf ln (by omega)) h1) (cD (eC (rs:=[]) rfl rfl (by simp)))) rfl,.inl rfl⟩
 ·exact ⟨[a,b],ej rfl (mX (pH (uf ln (by omega)) h1)) rfl,.inr ⟨a,b,i,j,rfl,ne,g1,g2⟩⟩
theorem Bt.more {c d:Nat} {aj keys:List Str} {row:Str->aL.Row} {K:Str->Int} (h:Bt K c aj keys row) (hd:c≤d):Bt K d aj keys row :=
 ⟨h.nd,fun n hn=>by obtain ⟨i,hi,e⟩:=h.nm n hn; exact ⟨i,by omega,e⟩,h.tn,h.tk,h.ne,h.mkd,h.ab,fun n hn=>⟨by have:=(h.bl n hn).1; omega,(h.bl n hn).2⟩,h.ho⟩
theorem fX {row:Str->aL.Row} {name on:Str} (ne:on≠name):dO row name on on=⟨(row on).key,(row on).above,(row on).mark,(row on).below++[name]⟩:=by
 unfold dO
 rw [aN,aG _ _ ne]
theorem fH {row:Str->aL.Row} {name on:Str} (ne:on≠name):dO row name on name=⟨(row name).key,some on,false,(row name).below⟩:=by
 unfold dO
 rw [aG _ _ (fun z=>ne z.symm),aN]
theorem fY {row:Str->aL.Row} {name on n:Str} (h1:n≠on) (h2:n≠name):dO row name on n=row n:=by
 unfold dO
 rw [aG _ _ h1,aG _ _ h2]
theorem og {row:Str->aL.Row} {name on:Str} (ne:on≠name) (n:Str):(dO row name on n).key=(row n).key:=by
 by_cases e:n=on
 ·subst e; rw [fX ne]
 ·by_cases e2:n=name
  ·subst e2; rw [fH ne]
  ·rw [fY e e2]
theorem Bt.hung {c:Nat} {aj keys:List Str} {row:Str->aL.Row} {K:Str->Int} (h:Bt K c aj keys row) {name on:Str} (hn:name∈aj) (ho:on∈aj) (ne:on≠name) (hlt:aZ (K on) on (K name) name=true):Bt K (c + 1) (aj.erase name) keys (dO row name on):=by
 have hk:=(h.tk name hn).1
 have ok:=(h.tk on ho).1
 refine ⟨h.nd,(h.more (Nat.le_succ c)).nm,h.tn.erase _,fun t ht=>?_,fun _ z=>?_,fun n hnk hm=>?_,fun n hnk a ha=>?_,fun n hnk=>?_,fun n hnk a ha=>?_⟩
 ·obtain ⟨h1,h2⟩:=(List.Nodup.mem_erase_iff h.tn).mp ht
  refine ⟨(h.tk t h2).1,?_⟩
  by_cases e:t=on
  ·subst e; rw [fX ne]; exact (h.tk t h2).2
  ·rw [fY e h1]; exact (h.tk t h2).2
 ·have:on∈aj.erase name:=(List.Nodup.mem_erase_iff h.tn).mpr ⟨ne,ho⟩
  rw [z] at this; cases this
 ·by_cases e:n=on
  ·subst e; rw [fX ne] at hm ⊢; exact h.mkd n hnk hm
  ·by_cases e2:n=name
   ·subst e2; rw [fH ne] at hm; cases hm
   ·rw [fY e e2] at hm ⊢; exact h.mkd n hnk hm
 ·by_cases e:n=on
  ·subst e; rw [fX ne] at ha; exact h.ab n hnk a ha
  ·by_cases e2:n=name
   ·subst e2; rw [fH ne] at ha; cases ha; exact ok
   ·rw [fY e e2] at ha; exact h.ab n hnk a ha
 ·by_cases e:n=on
  ·subst e
   rw [fX ne]
   refine ⟨?_,fun b hb=>?_⟩
   ·show ((row n).below++[name]).length≤c + 1
    rw [List.length_append,List.length_singleton]
    have:=(h.bl n hnk).1
    omega
   ·rcases List.mem_append.mp (show b∈(row n).below++[name] from hb) with hb | hb
    ·exact (h.bl n hnk).2 b hb
    ·rw [List.mem_singleton.mp hb]; exact hk
  ·by_cases e2:n=name
   ·subst e2; rw [fH ne]; exact ⟨Nat.le_succ_of_le (h.bl n hnk).1,(h.bl n hnk).2⟩
   ·rw [fY e e2]; exact ⟨by have:=(h.bl n hnk).1; omega,(h.bl n hnk).2⟩
 ·by_cases e:n=on
  ·subst e; rw [fX ne] at ha; exact h.ho n hnk a ha
  ·by_cases e2:n=name
   ·subst e2; rw [fH ne] at ha; cases ha; exact hlt
   ·rw [fY e e2] at ha; exact h.ho n hnk a ha
theorem Bt.new {c:Nat} (hc:c < 130) {aj keys:List Str} {row:Str->aL.Row} {K:Str->Int} (h:Bt K c aj keys row) (v:Int):aH c ∉ keys∧Bt (fun n=>if n=aH c then v else K n) (c + 1) (aj++[aH c]) (keys++[aH c]) (aQ row (aH c) ⟨v,none,false,[]⟩):=by
 have hn:aH c ∉ keys:=fun z=>by
  obtain ⟨i,hi,e⟩:=h.nm _ z
  exact ku c hc i hi e
 refine ⟨hn,?_,fun n hnk=>?_,?_,fun t ht=>?_,fun _=>by simp,fun n hnk hm=>?_,fun n hnk a ha=>?_,fun n hnk=>?_,fun n hnk a ha=>?_⟩
 ·rw [List.nodup_append]
  exact ⟨h.nd,by simp,fun x hx y hy=>by rw [List.mem_singleton.mp hy]; exact fun e=>hn (by rw [← e]; exact hx)⟩
 ·rcases List.mem_append.mp hnk with hx | hx
  ·obtain ⟨i,hi,e⟩:=h.nm n hx; exact ⟨i,by omega,e⟩
  ·exact ⟨c,by omega,List.mem_singleton.mp hx⟩
 ·rw [List.nodup_append]
  exact ⟨h.tn,by simp,fun x hx y hy=>by rw [List.mem_singleton.mp hy]; exact fun e=>hn (by rw [← e]; exact (h.tk x hx).1)⟩
 ·rcases List.mem_append.mp ht with hx | hx
  ·refine ⟨List.mem_append_left _ (h.tk t hx).1,?_⟩
   rw [aG _ _ (fun z=>hn (by rw [← z]; exact (h.tk t hx).1))]
   exact (h.tk t hx).2
  ·rw [List.mem_singleton.mp hx,aN]
   exact ⟨by simp,rfl⟩
 ·by_cases e:n=aH c
  ·subst e; rw [aN] at hm; cases hm
  ·rw [aG _ _ e] at hm ⊢
   exact h.mkd n ((List.mem_append.mp hnk).resolve_right fun z=>e (List.mem_singleton.mp z)) hm
 ·by_cases e:n=aH c
  ·subst e; rw [aN] at ha; cases ha
  ·rw [aG _ _ e] at ha
   exact List.mem_append_left _ (h.ab n ((List.mem_append.mp hnk).resolve_right fun z=>e (List.mem_singleton.mp z)) a ha)
 ·by_cases e:n=aH c
  ·subst e; rw [aN]; exact ⟨Nat.zero_le _,fun b hb=>by cases hb⟩
  ·rw [aG _ _ e]
   have h1:=h.bl n ((List.mem_append.mp hnk).resolve_right fun z=>e (List.mem_singleton.mp z))
   exact ⟨by have:=h1.1; omega,fun b hb=>List.mem_append_left _ (h1.2 b hb)⟩
 ·by_cases e:n=aH c
  ·subst e; rw [aN] at ha; cases ha
  ·rw [aG _ _ e] at ha
   have hk:=(List.mem_append.mp hnk).resolve_right fun z=>e (List.mem_singleton.mp z)
   rw [if_neg e,if_neg (fun z=>hn (by rw [← z]; exact h.ab n hk a ha))]
   exact h.ho n hk a ha
abbrev Bk (c:Nat) (aj keys:List Str) (row:Str->aL.Row):Prop:=Bt (fun n=>(row n).key) c aj keys row
theorem Bt.re {K:Str->Int} {c:Nat} {aj keys:List Str} {row:Str->aL.Row} (h:Bt K c aj keys row) (e:∀ n∈keys,K n=(row n).key):Bk c aj keys row :=
 ⟨h.nd,h.nm,h.tn,h.tk,h.ne,h.mkd,h.ab,h.bl,fun n hn a ha=>by rw [← e n hn,← e a (h.ab n hn a ha)]; exact h.ho n hn a ha⟩
theorem Bk.new {c:Nat} (hc:c < 130) {aj keys:List Str} {row:Str->aL.Row} (h:Bk c aj keys row) (v:Int):aH c ∉ keys∧Bk (c + 1) (aj++[aH c]) (keys++[aH c]) (aQ row (aH c) ⟨v,none,false,[]⟩) :=
 ⟨(Bt.new hc h v).1,(Bt.new hc h v).2.re fun n _=>by
  by_cases e:n=aH c
  ·subst e; rw [aN,if_pos rfl]
  ·rw [aG _ _ e,if_neg e]⟩
theorem oh {l:List Str} (h:∀ x∈l,PyData.strOk x=true):PyData.canLayAll0 (l.map .str)=true∧PyData.depthAll (l.map .str)≤1:=by
 induction l with
 | nil=>exact ⟨rfl,by simp [PyData.depthAll]⟩
 | cons x l ih =>
  obtain ⟨h1,h2⟩:=ih fun y hy=>h y (List.mem_cons_of_mem _ hy)
  refine ⟨?_,?_⟩
  ·simp only [List.map_cons,PyData.canLayAll0,PyData.canLay0,h x List.mem_cons_self,h1,Bool.and_true]
  ·simp only [List.map_cons,PyData.depthAll,PyData.depth]
   omega
theorem kU {l:List Str} (h:∀ x∈l,PyData.strOk x=true):SeqAt.shaped (TD l)=true:=by
 obtain ⟨h1,h2⟩:=oh h
 unfold SeqAt.shaped
 rw [decide_eq_true (by simp only [PyData.depth]; omega),Bool.and_true]
 simp only [PyData.canLay0,h1]
theorem zk {l:List Str} (h:∀ x∈l,PyData.strOk x=true):gNe (TD l) (.list [])=some (.bool (!l.isEmpty),false):=by
 unfold gNe
 rw [if_pos ⟨kU h,kU (l:=[]) fun x hx=>by cases hx⟩]
 cases l with
 | nil=>rfl
 | cons x l=>simp [PyData.eqv,PyData.eqvAll]
theorem jv:∀ l:List Str,bI (l.map .str)=true
 | []=>rfl
 | x::l=>by
  show (eI (.str x) && bI (l.map .str))=true
  rw [jv l]; rfl
theorem EH {i:Nat} {f:List D->List D->Option (List D × D)} {ρ ρ1:Rho} {ds:List D} {w:List D × D} (h0:ph ρ[i]?=some ds) (h4:f ds []=some w) (h5:Mir.putAt ρ i (.list w.1)=ρ1):rQ i f ρ=some ((w.2,.fz),ρ1):=by
 unfold rQ; rw [h0,Option.bind_some,h4,Option.map_some,h5]
theorem vV {ρ:Rho} {i:Nat} {keys:List Str} {row:Str->aL.Row} (h:Is ρ i (HD keys row)):mCB nq (ah (ai i) aD) ρ=some ((TD keys,.new),ρ):=zd (res:=(TD keys,true)) h (by show some (PyData.list ((cg keys row).map (·.1)),true)=_; rw [sk])
theorem oV {ρ:Rho} {i:Nat} {l:List Str} (h:Is ρ i (TD l)):IE (mCB dH (ah (ai i) aD)) ρ (l.length:Int):=by
 have:=xJ h
 rwa [List.length_map] at this
theorem EI {ρ:Rho} {i:Nat} {l:List Str} (h:Is ρ i (TD l)) (hl : 0 < l.length) {a:PM} {v:Int} (ha:IE a ρ v):∃ n∈l,mOp gIx (ai i) (mOp cJ a (mCB dH (ah (ai i) aD))) ρ=some ((.str n,.fz),ρ):=by
 obtain ⟨k,e,hk⟩:=kT v l.length hl
 exact ⟨l[k],List.getElem_mem hk,qk (r:=(.int (k:Int),.fz)) (res:=(.str l[k],false)) h (ak ((c8 ha (oV h) (by omega)).is e)) (zg (List.getElem?_eq_getElem hk))⟩
abbrev bst (cs:D) (T H:D) (k cell:Int) (s6 s7 s8 s9:Sl):Rho:=[.fz cs,.fz (.int 0),.own T,.own H,.fz (.int k),.fz (.int cell),s6,s7,s8,s9]
theorem xK {c:Nat} (hc:c < 100) {aj keys:List Str} {row:Str->aL.Row} (h:Bk c aj keys row) (cs:D) (cell:Int) {s6 s7 s8 s9:Sl} (n6:NIo s6) (n7:NIo s7) (n8:NIo s8) (n9:NIo s9) :
  ∃ a6 keys' bu t6 t7 t8 t9,gm (bst cs (TD aj) (HD keys row) (c:Int) cell s6 s7 s8 s9)=some (.nx (bst cs (TD a6) (HD keys' bu) (c:Int) cell t6 t7 t8 t9))∧Bk (c + 1) a6 keys' bu∧NIo t6∧NIo t7∧NIo t8∧NIo t9:=by
 have kl:=h.kl
 have tl:=h.tl
 obtain ⟨L,hL,hL2⟩:=EG (row:=row) (fun t ht=>(h.tk t ht).1) (by omega) (cell / 5 % 97)
 have okL:∀ x∈L,PyData.strOk x=true:=fun x hx=>by
  rcases hL2 with rfl | ⟨a,b,i,j,rfl,_,g1,g2⟩
  ·cases hx
  ·have:x=a∨x=b:=by simpa using hx
   rcases this with rfl | rfl
   ·exact h.ok (h.tk x (List.mem_of_getElem? g1)).1
   ·exact h.ok (h.tk x (List.mem_of_getElem? g2)).1
 have hd:∀ o,gr (lC (aF (mOp gEq (mOp cJ (ai 5) (mC (.int 5))) (mC (.int 4)))) (aF (mOp gGt (mCB dH (ah (ai 8) aD)) (mC (.int 0)))))
   (fc (i8 2 3 fh (ah (mOp gIx (ai 8) (mOp cJ (ai 6) (mCB dH (ah (ai 8) aD)))) aD)))
   (gr (lC (aF (mOp gGt (mOp cJ (ai 5) (mC (.int 5))) (mC (.int 0)))) (aF (mOp gNe (ai 7) (dn aD))))
   (bM (gr (aF (bJ cu (ah (ai 3) (ah (mOp gIx (ai 7) (mC (.int 0))) (ah (mOp gIx (ai 7) (mC (.int 1))) aD)))))
   (fc (rQ 7 l8))
   e9)
   (fc (i8 2 3 fV (ah (mOp gIx (ai 7) (mC (.int 0))) (ah (mOp gIx (ai 7) (mC (.int 1))) aD)))))
   (bM (de 9 (bJ cw (ah (mOp eA (ai 1) (ai 4)) aD)))
   (bM (iM 3 (fm (ah (bJ cX (ah (ai 6) aD)) (ah (mC .none) (ah (mC (.bool false)) (ah (fm aD) aD))))) (ai 9))
   (fc (pj 2 gi (ah (ai 9) aD)))))) (bst cs (TD aj) (HD keys row) (c:Int) cell (.fz (.int (cell / 5))) (.own (TD L)) (.own (TD keys)) s9)=some o->gm (bst cs (TD aj) (HD keys row) (c:Int) cell s6 s7 s8 s9)=some o:=fun o ho=>by
  refine aM (ρ1:=bst cs (TD aj) (HD keys row) (c:Int) cell (.fz (.int (cell / 5))) s7 s8 s9) (dW (lF (b4 rfl) bU ⟨by decide,by decide⟩) (iP (s:=s6) _ rfl n6)) ?_
  refine aM (ρ1:=bst cs (TD aj) (HD keys row) (c:Int) cell (.fz (.int (cell / 5))) (.own (TD L)) s8 s9) (dN (cz (rs:=[(TD aj,.at 2),(HD keys row,.at 3),(.int (cell / 5 % 97),.fz)]) (oO (nV (gj rfl)) (oO (nV (gj rfl)) (dX (c8 (b4 rfl) bU (by decide)) aI) rfl) rfl) hL (jv L)) (iP (s:=s7) _ rfl n7)) ?_
  exact aM (ρ1:=bst cs (TD aj) (HD keys row) (c:Int) cell (.fz (.int (cell / 5))) (.own (TD L)) (.own (TD keys)) s9) (dN (vV (.inr (.inl rfl))) (iP (s:=s8) _ rfl n8)) ho
 have em:IE (mOp cJ (ai 5) (mC (.int 5))) (bst cs (TD aj) (HD keys row) (c:Int) cell (.fz (.int (cell / 5))) (.own (TD L)) (.own (TD keys)) s9) (cell % 5):=c8 (b4 rfl) bU (by decide)
 have el:IE (mCB dH (ah (ai 8) aD)) (bst cs (TD aj) (HD keys row) (c:Int) cell (.fz (.int (cell / 5))) (.own (TD L)) (.own (TD keys)) s9) (keys.length:Int):=oV (.inr (.inl rfl))
 by_cases c1:cell % 5=4∧0 < keys.length
 ·obtain ⟨n,hn,en⟩:=EI (ρ:=bst cs (TD aj) (HD keys row) (c:Int) cell (.fz (.int (cell / 5))) (.own (TD L)) (.own (TD keys)) s9) (i:=8) (l:=keys) (.inr (.inl rfl)) c1.2 (a:=ai 6) (b4 rfl)
  obtain ⟨a6,bu,sts,h1,h2,h2k⟩:=Hz (by omega:c≤200) h hn
  refine ⟨a6,keys,bu,_,_,_,_,hd _ (pI (rT (tEq em bU c1.1) (ig (pJ el bU) (decide_eq_true (by omega)))) (gk (qo (r:=(.list sts,.new)) (ρ3:=bst cs (TD a6) (HD keys bu) (c:Int) cell (.fz (.int (cell / 5))) (.own (TD L)) (.own (TD keys)) s9) (by decide) rfl rfl (au (ak en) aI) rfl rfl rfl h1 rfl))),(h2.re fun n _=>(h2k n).symm).more (Nat.le_succ c),NIo.fz _,NIo.own _,NIo.own _,n9⟩
 ·have t1:lC (aF (mOp gEq (mOp cJ (ai 5) (mC (.int 5))) (mC (.int 4)))) (aF (mOp gGt (mCB dH (ah (ai 8) aD)) (mC (.int 0)))) (bst cs (TD aj) (HD keys row) (c:Int) cell (.fz (.int (cell / 5))) (.own (TD L)) (.own (TD keys)) s9)=some (false,bst cs (TD aj) (HD keys row) (c:Int) cell (.fz (.int (cell / 5))) (.own (TD L)) (.own (TD keys)) s9):=by
   by_cases e:cell % 5=4
   ·exact rT (tEq em bU e) (ig (pJ el bU) (decide_eq_false (by omega)))
   ·exact Bv (tNe em bU e)
  have enw:mOp gNe (ai 7) (dn aD) (bst cs (TD aj) (HD keys row) (c:Int) cell (.fz (.int (cell / 5))) (.own (TD L)) (.own (TD keys)) s9)=some ((.bool (!L.isEmpty),.fz),bst cs (TD aj) (HD keys row) (c:Int) cell (.fz (.int (cell / 5))) (.own (TD L)) (.own (TD keys)) s9):=qk (r:=(.list [],.fz)) (res:=(.bool (!L.isEmpty),false)) (.inr (.inl rfl)) (ie (eC (rs:=[]) rfl rfl (by simp))) (zk okL)
  by_cases c2 : 0 < cell % 5∧L≠[]
  ·obtain ⟨a,b,i,j,rfl,ne,g1,g2⟩:=hL2.resolve_left c2.2
   have ma:=List.mem_of_getElem? g1
   have mb:=List.mem_of_getElem? g2
   have ka:=(h.tk a ma).1
   have kb:=(h.tk b mb).1
   have nab:a≠b:=fun e=>by
    subst e
    obtain ⟨hi,e1⟩:=List.getElem?_eq_some_iff.mp g1
    obtain ⟨hj,e2⟩:=List.getElem?_eq_some_iff.mp g2
    have pw:=List.pairwise_iff_getElem.mp h.tn
    rcases Nat.lt_or_gt_of_ne ne with q | q
    ·exact pw i j hi hj q (e1.trans e2.symm)
    ·exact pw j i hj hi q (e2.trans e1.symm)
   have fin:∀ x y:Str,x∈aj->y∈aj->y≠x->fc (i8 2 3 fV (ah (mOp gIx (ai 7) (mC (.int 0))) (ah (mOp gIx (ai 7) (mC (.int 1))) aD))) (bst cs (TD aj) (HD keys row) (c:Int) cell (.fz (.int (cell / 5))) (.own (TD [x,y])) (.own (TD keys)) s9)=some (.nx (bst cs (TD (aj.erase x)) (HD keys (dO row x y)) (c:Int) cell (.fz (.int (cell / 5))) (.own (TD [x,y])) (.own (TD keys)) s9)):=fun x y hx hy hne=>by
    have i0:mOp gIx (ai 7) (mC (.int 0)) (bst cs (TD aj) (HD keys row) (c:Int) cell (.fz (.int (cell / 5))) (.own (TD [x,y])) (.own (TD keys)) s9)=some ((.str x,.fz),bst cs (TD aj) (HD keys row) (c:Int) cell (.fz (.int (cell / 5))) (.own (TD [x,y])) (.own (TD keys)) s9):=qk (r:=(.int 0,.fz)) (res:=(.str x,false)) (.inr (.inl rfl)) (ak rfl) rfl
    have i1:mOp gIx (ai 7) (mC (.int 1)) (bst cs (TD aj) (HD keys row) (c:Int) cell (.fz (.int (cell / 5))) (.own (TD [x,y])) (.own (TD keys)) s9)=some ((.str y,.fz),bst cs (TD aj) (HD keys row) (c:Int) cell (.fz (.int (cell / 5))) (.own (TD [x,y])) (.own (TD keys)) s9):=qk (r:=(.int 1,.fz)) (res:=(.str y,false)) (.inr (.inl rfl)) (ak rfl) rfl
    exact gk (qo (r:=(.none,.fz)) (by decide) rfl rfl (au (ak i0) (au (ak i1) aI)) rfl rfl rfl (EF (h.tk x hx).1 (h.tk y hy).1 hx (by omega) fun n hn=>by have:=(h.bl n hn).1; omega) rfl)
   have i0:mOp gIx (ai 7) (mC (.int 0)) (bst cs (TD aj) (HD keys row) (c:Int) cell (.fz (.int (cell / 5))) (.own (TD [a,b])) (.own (TD keys)) s9)=some ((.str a,.fz),bst cs (TD aj) (HD keys row) (c:Int) cell (.fz (.int (cell / 5))) (.own (TD [a,b])) (.own (TD keys)) s9):=qk (r:=(.int 0,.fz)) (res:=(.str a,false)) (.inr (.inl rfl)) (ak rfl) rfl
   have i1:mOp gIx (ai 7) (mC (.int 1)) (bst cs (TD aj) (HD keys row) (c:Int) cell (.fz (.int (cell / 5))) (.own (TD [a,b])) (.own (TD keys)) s9)=some ((.str b,.fz),bst cs (TD aj) (HD keys row) (c:Int) cell (.fz (.int (cell / 5))) (.own (TD [a,b])) (.own (TD keys)) s9):=qk (r:=(.int 1,.fz)) (res:=(.str b,false)) (.inr (.inl rfl)) (ak rfl) rfl
   have tb:aF (bJ cu (ah (ai 3) (ah (mOp gIx (ai 7) (mC (.int 0))) (ah (mOp gIx (ai 7) (mC (.int 1))) aD)))) (bst cs (TD aj) (HD keys row) (c:Int) cell (.fz (.int (cell / 5))) (.own (TD [a,b])) (.own (TD keys)) s9)=some (aZ (row a).key a (row b).key b,bst cs (TD aj) (HD keys row) (c:Int) cell (.fz (.int (cell / 5))) (.own (TD [a,b])) (.own (TD keys)) s9):=(iJ (rs:=[(HD keys row,.at 3),(.str a,.fz),(.str b,.fz)]) (oO (nV (gj rfl)) (au (ak i0) (au (ak i1) aI)) rfl) (sq keys row a b ka kb)).t
   have t2:lC (aF (mOp gGt (mOp cJ (ai 5) (mC (.int 5))) (mC (.int 0)))) (aF (mOp gNe (ai 7) (dn aD))) (bst cs (TD aj) (HD keys row) (c:Int) cell (.fz (.int (cell / 5))) (.own (TD [a,b])) (.own (TD keys)) s9)=some (true,bst cs (TD aj) (HD keys row) (c:Int) cell (.fz (.int (cell / 5))) (.own (TD [a,b])) (.own (TD keys)) s9):=rT (ig (pJ em bU) (decide_eq_true c2.1)) (test_ev (k:=.fz) enw)
   cases eb:aZ (row a).key a (row b).key b with
   | true =>
    rw [eb] at tb
    exact ⟨aj.erase b,keys,dO row b a,_,_,_,_,hd _ (i5 t1 (pI t2 (aM (ρ1:=bst cs (TD aj) (HD keys row) (c:Int) cell (.fz (.int (cell / 5))) (.own (TD [b,a])) (.own (TD keys)) s9) (pI tb (gk (EH rfl rfl rfl))) (fin b a mb ma nab)))),(h.hung mb ma nab eb).re fun n _=>(og nab n).symm,NIo.fz _,NIo.own _,NIo.own _,n9⟩
   | false =>
    rw [eb] at tb
    exact ⟨aj.erase a,keys,dO row a b,_,_,_,_,hd _ (i5 t1 (pI t2 (aM (ρ1:=bst cs (TD aj) (HD keys row) (c:Int) cell (.fz (.int (cell / 5))) (.own (TD [a,b])) (.own (TD keys)) s9) (i5 tb rfl) (fin a b ma mb fun z=>nab z.symm)))),(h.hung ma mb (fun z=>nab z.symm) (vQ nab eb)).re fun n _=>(og (fun z=>nab z.symm) n).symm,NIo.fz _,NIo.own _,NIo.own _,n9⟩
  ·have t2:lC (aF (mOp gGt (mOp cJ (ai 5) (mC (.int 5))) (mC (.int 0)))) (aF (mOp gNe (ai 7) (dn aD))) (bst cs (TD aj) (HD keys row) (c:Int) cell (.fz (.int (cell / 5))) (.own (TD L)) (.own (TD keys)) s9)=some (false,bst cs (TD aj) (HD keys row) (c:Int) cell (.fz (.int (cell / 5))) (.own (TD L)) (.own (TD keys)) s9):=by
    by_cases e : 0 < cell % 5
    ·have:L=[]:=Classical.byContradiction fun z=>c2 ⟨e,z⟩
     subst this
     exact rT (ig (pJ em bU) (decide_eq_true e)) (test_ev (k:=.fz) enw)
    ·exact Bv (ig (pJ em bU) (decide_eq_false e))
   obtain ⟨v,hv⟩:=key_is (cell / 5)
   obtain ⟨hnk,hB⟩:=Bk.new (by omega:c < 130) h v
   have ea:IE (mOp eA (ai 1) (ai 4)) (bst cs (TD aj) (HD keys row) (c:Int) cell (.fz (.int (cell / 5))) (.own (TD L)) (.own (TD keys)) s9) (c:Int):=(i6 (b4 rfl) (b4 rfl)).is (by omega)
   refine ⟨_,_,_,_,_,_,_,hd _ (i5 t1 (i5 t2 ?_)),hB,NIo.fz (.int (cell / 5)),NIo.own (TD L),NIo.own (TD keys),NIo.fz (.str (aH c))⟩
   refine aM (ρ1:=bst cs (TD aj) (HD keys row) (c:Int) cell (.fz (.int (cell / 5))) (.own (TD L)) (.own (TD keys)) (.fz (.str (aH c)))) (dW (cz (rs:=[(.int (c:Int),.fz)]) (dX ea aI) (ud c) rfl) (iP (s:=s9) _ rfl n9)) ?_
   refine aM (ρ1:=bst cs (TD aj) (HD (keys++[aH c]) (aQ row (aH c) ⟨v,none,false,[]⟩)) (c:Int) cell (.fz (.int (cell / 5))) (.own (TD L)) (.own (TD keys)) (.fz (.str (aH c)))) ((gT (i:=3) (r:=⟨v,none,false,[]⟩) (c7 (rs:=[(.int v,.fz),(.none,.fz),(.bool false,.fz),(.tuple [],.fz)]) (dX (kL (rs:=[(.int (cell / 5),.fz)]) rfl hv) (au (ak rfl) (au (ak rfl) (au (ak (c7 (rs:=[]) rfl rfl (by simp))) aI)))) rfl (by simp)) (ao rfl) rfl (.inl rfl) (by omega)).trans (by rw [ql hnk]; rfl)) ?_
   exact gk (nF (rs:=[(.str (aH c),.fz)]) rfl rfl rfl rfl (qm _ (by rw [List.length_map]; omega)) (by rw [my]; rfl))
theorem CG (cs:List Int):n0 (cs.map .int)=(cs.zipIdx).map fun p:Int × Nat=>PyData.tuple [.int (p.2:Int),.int p.1]:=by
 unfold n0
 refine List.ext_getElem? fun i=>?_
 rw [List.getElem?_mapIdx,List.getElem?_map,List.getElem?_map,List.getElem?_zipIdx]
 cases cs[i]? <;> simp
theorem xM (csD:D):∀ (cs:List Int) (c:Nat) (aj keys:List Str) (row:Str->aL.Row) (s4 s5 s6 s7 s8 s9:Sl),NIo s4->NIo s5->NIo s6->NIo s7->NIo s8->NIo s9->c + cs.length≤100->Bk c aj keys row ->
  ∃ a6 keys' bu tl,forL (mgU 2 (aT (mgN 4) (aT (mgN 5) ez))) gm ((cs.zipIdx c).map fun p:Int × Nat=>PyData.tuple [.int (p.2:Int),.int p.1]) [.fz csD,.fz (.int 0),.own (TD aj),.own (HD keys row),s4,s5,s6,s7,s8,s9]=some (.nx (.fz csD::.fz (.int 0)::.own (TD a6)::.own (HD keys' bu)::tl))∧Bk (c + cs.length) a6 keys' bu:=by
 intro cs
 induction cs with
 | nil=>intro c aj keys row s4 s5 s6 s7 s8 s9 _ _ _ _ _ _ _ h; exact ⟨aj,keys,row,_,rfl,h⟩
 | cons x cs ih =>
  intro c aj keys row s4 s5 s6 s7 s8 s9 n4 n5 n6 n7 n8 n9 hl h
  rw [List.length_cons] at hl ⊢
  obtain ⟨Jr,Js,cq,t6,t7,t8,t9,h1,h2,m6,m7,m8,m9⟩:=xK (by omega:c < 100) h csD x n6 n7 n8 n9
  obtain ⟨a6,keys',bu,tl,h3,h4⟩:=ih (c + 1) Jr Js cq (.fz (.int (c:Int))) (.fz (.int x)) t6 t7 t8 t9 (NIo.fz _) (NIo.fz _) m6 m7 m8 m9 (by omega) h2
  refine ⟨a6,keys',bu,tl,?_,by rw [show c + (cs.length + 1)=c + 1 + cs.length by omega]; exact h4⟩
  rw [List.zipIdx_cons,List.map_cons]
  refine jn (ρ1:=bst csD (TD aj) (HD keys row) (c:Int) x s6 s7 s8 s9) ?_ h1 h3
  show (mgN 4 (.int (c:Int)) _).bind (fun ρ1=>(mgN 5 (.int x) ρ1).bind fun ρ2=>some ρ2)=_
  rw [fE (s:=s4) rfl n4,Option.bind_some,fE (s:=s5) rfl n5,Option.bind_some]
  rfl
theorem Bt.zero (row:Str->aL.Row):Bk 0 [] [] row:=⟨by simp,(fun n hn=>by cases hn),by simp,(fun n hn=>by cases hn),fun z=>absurd rfl z,(fun n hn=>by cases hn),(fun n hn=>by cases hn),(fun n hn=>by cases hn),fun n hn=>by cases hn⟩
theorem xN {n k:Nat} {b:Rho->Option (D × D)} {ds:List D} {w:D × D} (h0:ds.length=n) (h1:b (ds.map .fz++List.replicate k .no)=some w):fnD n k b ds=some w:=by unfold fnD; rw [if_pos h0,h1]
theorem jw {a:SM} {b:Rho->Option (D × D)} {ρ ρ1:Rho} {o:Option (D × D)} (h1:a ρ=some (.nx ρ1)) (h2:b ρ1=o):me a b ρ=o:=by unfold me; rw [h1,Option.bind_some]; exact h2
theorem CH (cs:List Int) (hl:cs.length≤60):∃ aj keys row,gu [.list (cs.map .int),.int 0]=some (TD aj,HD keys row)∧Bk 60 aj keys row:=by
 obtain ⟨aj,keys,row,tl,h1,h2⟩:=xM (.list (cs.map .int)) cs 0 [] [] (fun _=>⟨0,none,false,[]⟩) .no .no .no .no .no .no NIo.no NIo.no NIo.no NIo.no NIo.no NIo.no (by omega) (Bt.zero _)
 refine ⟨aj,keys,row,?_,h2.more (by omega)⟩
 refine xN rfl ?_
 refine jw (ρ1:=[.fz (.list (cs.map .int)),.fz (.int 0),.own (TD []),.no,.no,.no,.no,.no,.no,.no]) (dN (eC (rs:=[]) rfl rfl (by simp)) rfl) ?_
 refine jw (ρ1:=[.fz (.list (cs.map .int)),.fz (.int 0),.own (TD []),.own (HD [] fun _=>⟨0,none,false,[]⟩),.no,.no,.no,.no,.no,.no]) (dN rfl rfl) ?_
 rw [← CG] at h1
 exact jw (pH (ds:=n0 (cs.map .int)) rfl h1) rfl
def names (c:Nat):List Str:=(List.range c).map aH
theorem jx (c:Nat):(names c).length=c:=by unfold names; rw [List.length_map,List.length_range]
theorem dE {c:Nat} {n:Str}:n∈names c↔∃ i,i < c∧n=aH i:=by
 unfold names; rw [List.mem_map]
 constructor
 ·rintro ⟨i,hi,rfl⟩; exact ⟨i,List.mem_range.mp hi,rfl⟩
 ·rintro ⟨i,hi,rfl⟩; exact ⟨i,List.mem_range.mpr hi,rfl⟩
theorem lJ (c:Nat):names (c + 1)=names c++[aH c]:=by unfold names; rw [List.range_succ,List.map_append]; rfl
theorem sA {c:Nat} (hc:c < 130):aH c ∉ names c:=fun z=>by
 obtain ⟨i,hi,e⟩:=dE.mp z
 exact ku c hc i hi e
theorem qt {c:Nat} (hc:c < 130):Al (names c) (aH c)=names (c + 1):=by rw [ql (sA hc),lJ]
theorem CI:∀ c:Nat,c≤130->(names c).Nodup:=by
 intro c
 induction c with
 | zero=>intro _; exact List.nodup_nil
 | succ c ih =>
  intro hc
  rw [lJ,List.nodup_append]
  exact ⟨ih (by omega),by simp,fun x hx y hy=>by rw [List.mem_singleton.mp hy]; exact fun e=>sA (c:=c) (by omega) (by rw [← e]; exact hx)⟩
def fb (m:Nat):Nat:=[1,2,3,5,8,13,21,34,55,89].getD m 0
theorem EJ:∀ q,q < 9->fb (q + 1)=fb q + fb (q - 1):=by decide
theorem CJ:∀ M,M < 10->∀ q,q < M + 1->fb q≤fb M:=by decide
theorem oW:∀ M,M < 10->M≤fb M∧0 < fb M:=by decide
structure Gp (c:Nat) (row:Str->aL.Row):Prop where
 ab:∀ i,i < c->∀ a,(row (aH i)).above=some a->(∃ j,j < c∧a=aH j)∧(row a).key < (row (aH i)).key
 mkd:∀ i,i < c->(row (aH i)).mark=true->(row (aH i)).above≠none
 bl:∀ i,i < c->(row (aH i)).below.length≤c∧∀ b∈(row (aH i)).below,∃ j,j < c∧b=aH j
theorem Gp.new {c:Nat} {row:Str->aL.Row} (h:Gp c row) (hc:c < 130) {key:Int} {above:Option Str} {mark:Bool} (ha:∀ a,above=some a->(∃ j,j < c∧a=aH j)∧(row a).key < key) (hm:mark=true->above≠none):Gp (c + 1) (aQ row (aH c) ⟨key,above,mark,[]⟩):=by
 have ne:∀ i,i < c->aH i≠aH c:=fun i hi e=>ku c hc i hi e.symm
 refine ⟨fun i hi a e=>?_,fun i hi e=>?_,fun i hi=>?_⟩
 ·by_cases z:i=c
  ·subst z
   rw [aN] at e ⊢
   obtain ⟨⟨j,hj,rfl⟩,h2⟩:=ha a e
   rw [aG _ _ (ne j hj)]
   exact ⟨⟨j,by omega,rfl⟩,h2⟩
  ·have hi':i < c:=by omega
   rw [aG _ _ (ne i hi')] at e ⊢
   obtain ⟨⟨j,hj,rfl⟩,h2⟩:=h.ab i hi' a e
   rw [aG _ _ (ne j hj)]
   exact ⟨⟨j,by omega,rfl⟩,h2⟩
 ·by_cases z:i=c
  ·subst z
   rw [aN] at e ⊢
   exact hm e
  ·have hi':i < c:=by omega
   rw [aG _ _ (ne i hi')] at e ⊢
   exact h.mkd i hi' e
 ·by_cases z:i=c
  ·subst z
   rw [aN]
   exact ⟨Nat.zero_le _,fun b hb=>by cases hb⟩
  ·have hi':i < c:=by omega
   rw [aG _ _ (ne i hi')]
   obtain ⟨h1,h2⟩:=h.bl i hi'
   exact ⟨by omega,fun b hb=>by obtain ⟨j,hj,e⟩:=h2 b hb; exact ⟨j,by omega,e⟩⟩
theorem Gp.upd {c:Nat} {row:Str->aL.Row} (h:Gp c row) {n:Str} {ns:List Str} (hl:ns.length≤c) (hb:∀ b∈ns,∃ j,j < c∧b=aH j):Gp c (aQ row n ⟨(row n).key,(row n).above,(row n).mark,ns⟩):=by
 have ek:∀ m,(aQ row n ⟨(row n).key,(row n).above,(row n).mark,ns⟩ m).key=(row m).key:=fun m=>by
  by_cases z:m=n
  ·subst z; rw [aN]
  ·rw [aG _ _ z]
 have ea:∀ m,(aQ row n ⟨(row n).key,(row n).above,(row n).mark,ns⟩ m).above=(row m).above:=fun m=>by
  by_cases z:m=n
  ·subst z; rw [aN]
  ·rw [aG _ _ z]
 refine ⟨fun i hi a e=>?_,fun i hi e=>?_,fun i hi=>?_⟩
 ·rw [ea] at e
  rw [ek,ek]
  exact h.ab i hi a e
 ·rw [ea]
  refine h.mkd i hi ?_
  by_cases z:aH i=n
  ·rw [z,aN] at e; rw [z]; exact e
  ·rw [aG _ _ z] at e; exact e
 ·by_cases z:aH i=n
  ·rw [z,aN]; exact ⟨hl,hb⟩
  ·rw [aG _ _ z]; exact h.bl i hi
theorem Gp.bt {c:Nat} {row:Str->aL.Row} (h:Gp c row) (hc:c≤130) (h0 : 0 < c) (ha:(row (aH 0)).above=none):Bk c [aH 0] (names c) row:=by
 refine ⟨CI c hc,fun n hn=>dE.mp hn,by simp,fun t ht=>?_,fun _=>by simp,fun n hn e=>?_,fun n hn a e=>?_,fun n hn=>?_,fun n hn a e=>?_⟩
 ·rw [List.mem_singleton.mp ht]
  exact ⟨dE.mpr ⟨0,h0,rfl⟩,ha⟩
 ·obtain ⟨i,hi,rfl⟩:=dE.mp hn
  exact h.mkd i hi e
 ·obtain ⟨i,hi,rfl⟩:=dE.mp hn
  exact dE.mpr (h.ab i hi a e).1
 ·obtain ⟨i,hi,rfl⟩:=dE.mp hn
  exact ⟨(h.bl i hi).1,fun b hb=>dE.mpr ((h.bl i hi).2 b hb)⟩
 ·obtain ⟨i,hi,rfl⟩:=dE.mp hn
  have hk:=(h.ab i hi a e).2
  unfold aZ
  rw [if_neg (by omega)]
  exact decide_eq_true hk
def Grows (f:List D->Option ((D × Bool) × D)) (many:Nat):Prop:=∀ (c:Nat) (row:Str->aL.Row) (above:Option Str) (mark:Bool) (key:Int),Gp c row->c + fb many≤120->(∀ a,above=some a->(∃ j,j < c∧a=aH j)∧(row a).key < key)->(mark=true->above≠none) ->
 ∃ bu:Str->aL.Row,f [HD (names c) row,.int (many:Int),aJ above,.bool mark,.int key]=some ((.str (aH c),false),HD (names (c + fb many)) bu)∧Gp (c + fb many) bu∧(∀ i,i < c->bu (aH i)=row (aH i))∧(bu (aH c)).above=above
theorem EK {f:List D->Option ((D × Bool) × D)} {M:Nat} (hM:M < 10) (hf:∀ k,k + 1 < M∨(k=0∧0 < M)->Grows f k) {many above mark key s6:Sl} (c0:Nat) (k0:Int) (hm:key=.fz (.int k0)) (hb:c0 + fb M≤120):∀ (m q:Nat) (row:Str->aL.Row),q + m=M->Gp (c0 + fb q) row->(row (aH c0)).key=k0->∀ d0:D,
  ∃ (ns:List Str) (bu:Str->aL.Row),goI f (ah (mCB zP (ah (mC (.int 0)) (ah (mOp lT (ai 0) (mC (.int 1))) aD))) (ah (ai 2) (ah (mOp gGt (ai 0) (mC (.int 0))) (ah (mOp eA (ai 3) (mC (.int 1))) aD)))) [("_law_held",0),("_law_name",5),("_law_key",4)] [.io d0,many,above,mark,key,.fz (.str (aH c0)),s6] 0 (.io d0) ((List.range' q m).map fun k:Nat=>PyData.int (k:Int)) (HD (names (c0 + fb q)) row)=some (ns.map .str,HD (names (c0 + fb M)) bu)∧Gp (c0 + fb M) bu∧(∀ i,i < c0 + fb q->bu (aH i)=row (aH i))∧ns.length=m∧∀ x∈ns,∃ j,j < c0 + fb M∧x=aH j:=by
 subst hm
 intro m
 induction m with
 | zero =>
  intro q row hq hg hk d0
  obtain rfl:q=M:=by omega
  exact ⟨[],row,rfl,hg,fun _ _=>rfl,rfl,fun x hx=>by cases hx⟩
 | succ m ih =>
  intro q row hq hg hk d0
  have p0:=(oW q (by omega)).2
  have p1:=EJ q (by omega)
  have p2:=CJ M hM (q + 1) (by omega)
  obtain ⟨cq, e1, g1, s1, _⟩ := hf (q - 1) (by by_cases z : q = 0
                                               ·right; omega
                                               ·left; omega) (c0 + fb q) row (some (aH c0)) (decide (0 < (q:Int))) (k0 + 1) hg (by omega) (fun a ha=>by cases ha; exact ⟨⟨c0,by omega,rfl⟩,by rw [hk]; omega⟩) (fun _ z=>by cases z)
  rw [show c0 + fb q + fb (q - 1)=c0 + fb (q + 1) by omega] at e1 g1
  obtain ⟨ns,bu,e2,g2,s2,l2,o2⟩:=ih (q + 1) cq (by omega) g1 (by rw [s1 c0 (by omega)]; exact hk) d0
  refine ⟨aH (c0 + fb q)::ns,bu,?_,g2,fun i hi=>(s2 i (by omega)).trans (s1 i hi),by rw [List.length_cons,l2],fun x hx=>?_⟩
  ·rw [List.range'_succ,List.map_cons]
   unfold goI
   have ev:ah (mCB zP (ah (mC (.int 0)) (ah (mOp lT (ai 0) (mC (.int 1))) aD))) (ah (ai 2) (ah (mOp gGt (ai 0) (mC (.int 0))) (ah (mOp eA (ai 3) (mC (.int 1))) aD))) [.fz (.int (q:Int)),.ro (HD (names (c0 + fb q)) row),.fz (.str (aH c0)),.fz (.int k0)]=some ([(.int ((q - 1:Nat):Int),.fz),(.str (aH c0),.fz),(.bool (decide (0 < (q:Int))),.fz),(.int (k0 + 1),.fz)],[.fz (.int (q:Int)),.ro (HD (names (c0 + fb q)) row),.fz (.str (aH c0)),.fz (.int k0)]):=by
    refine au (ak (fe (rs:=[(.int 0,.fz),(.int ((q:Int) - 1),.fz)]) (res:=(.int ((q - 1:Nat):Int),false)) (dX bU (dX (i7 (b4 rfl) bU) aI)) ?_)) (au (ak (ao rfl)) (au (ak (pJ (b4 rfl) bU)) (dX (i6 (b4 rfl) bU) aI)))
    show some (PyData.int (if (0:Int) < (q:Int) - 1 then (q:Int) - 1 else 0),false)=_
    rw [show (if (0:Int) < (q:Int) - 1 then (q:Int) - 1 else 0)=((q - 1:Nat):Int) by split <;> omega]
   show (ah _ _ [.fz (.int (q:Int)),.ro (HD (names (c0 + fb q)) row),.fz (.str (aH c0)),.fz (.int k0)]).bind _=_
   rw [ev,Option.bind_some]
   dsimp only [Cr,Option.bind_some,Option.map_some]
   show (f (HD (names (c0 + fb q)) row::[.int ((q - 1:Nat):Int),.str (aH c0),.bool (decide (0 < (q:Int))),.int (k0 + 1)])).bind _=_
   rw [show f [HD (names (c0 + fb q)) row,.int ((q - 1:Nat):Int),.str (aH c0),.bool (decide (0 < (q:Int))),.int (k0 + 1)]=some ((.str (aH (c0 + fb q)),false),HD (names (c0 + fb (q + 1))) cq) from e1,Option.bind_some]
   dsimp only
   rw [if_pos rfl,e2]; rfl
  ·rcases List.mem_cons.mp hx with rfl | hx
   ·exact ⟨c0 + fb q,by have:=(oW (q - 1) (by omega)).2; omega,rfl⟩
   ·exact o2 x hx
theorem CK:∀ n many:Nat,many < n->many < 10->Grows (dY n) many:=by
 intro n
 induction n with
 | zero=>intro many h; omega
 | succ n ih =>
  intro many hmn h9 c row above mark key hg hl ha hk
  have pm:=oW many h9
  have hc:c < 130:=by omega
  have g1:=hg.new hc ha hk
  obtain ⟨ns,bu,e2,g2,s2,l2,o2⟩:=EK (f:=dY n) (M:=many) h9 (fun k hk=>ih k (by omega) (by omega)) (many:=.fz (.int (many:Int))) (above:=.fz (aJ above)) (mark:=.fz (.bool mark)) (s6:=.no) c key rfl hl many 0 _ (by omega) g1 (by rw [aN]) (HD (names (c + 1)) (aQ row (aH c) ⟨key,above,mark,[]⟩))
  have er:bu (aH c)=⟨key,above,mark,[]⟩:=(s2 c (Nat.lt_succ_self c)).trans (aN _ _ _)
  have g3:=g2.upd (n:=aH c) (ns:=ns) (by omega) o2
  rw [er] at g3
  have hin:aH c∈names (c + fb many):=dE.mpr ⟨c,by omega,rfl⟩
  refine ⟨aQ bu (aH c) ⟨key,above,mark,ns⟩,?_,g3,fun i hi=>?_,by rw [aN]⟩
  ·refine G6 (o:=.rt (.str (aH c),.fz) [.io (HD (names (c + fb many)) (aQ bu (aH c) ⟨key,above,mark,ns⟩)),.fz (.int (many:Int)),.fz (aJ above),.fz (.bool mark),.fz (.int key),.fz (.str (aH c)),.own (TD ns)]) rfl ?_ rfl rfl
   refine aM (ρ1:=[.io (HD (names c) row),.fz (.int (many:Int)),.fz (aJ above),.fz (.bool mark),.fz (.int key),.fz (.str (aH c)),.no]) (dW (cz (rs:=[(.int (c:Int),.fz)]) (dX ((ue (.inr (.inr rfl))).is (by rw [jx])) aI) (ud c) rfl) rfl) ?_
   refine aM (ρ1:=[.io (HD (names (c + 1)) (aQ row (aH c) ⟨key,above,mark,[]⟩)),.fz (.int (many:Int)),.fz (aJ above),.fz (.bool mark),.fz (.int key),.fz (.str (aH c)),.no]) ((gT (i:=0) (r:=⟨key,above,mark,[]⟩) (c7 (rs:=[(.int key,.fz),(aJ above,.fz),(.bool mark,.fz),(.tuple [],.fz)]) (au (ak (ao rfl)) (au (ak (ao rfl)) (au (ak (ao rfl)) (au (ak (c7 (rs:=[]) rfl rfl (by simp))) aI)))) rfl (by simp)) (ao rfl) rfl (.inr rfl) (by rw [jx]; omega)).trans (by rw [qt hc]; rfl)) ?_
   refine aM (ρ1:=[.io (HD (names (c + fb many)) bu),.fz (.int (many:Int)),.fz (aJ above),.fz (.bool mark),.fz (.int key),.fz (.str (aH c)),.own (TD ns)]) (dN (ρ1:=[.io (HD (names (c + fb many)) bu),.fz (.int (many:Int)),.fz (aJ above),.fz (.bool mark),.fz (.int key),.fz (.str (aH c)),.no]) ?_ rfl) ?_
   ·unfold Hs
    rw [uf (n:=many) (b4 rfl) (by omega),Option.bind_some]
    dsimp only
    rw [show ownAt [Sl.io (HD (names (c + 1)) (aQ row (aH c) ⟨key,above,mark,[]⟩)),.fz (.int (many:Int)),.fz (aJ above),.fz (.bool mark),.fz (.int key),.fz (.str (aH c)),.no] 0=some (.io (HD (names (c + 1)) (aQ row (aH c) ⟨key,above,mark,[]⟩))) from rfl,Option.bind_some]
    rw [List.range_eq_range']
    show (goI _ _ _ _ _ _ _ (HD (names (c + fb 0)) (aQ row (aH c) ⟨key,above,mark,[]⟩))).bind _=_
    rw [show c + 1=c + fb 0 from rfl] at e2 ⊢
    rw [e2,Option.bind_some]
    rw [b0 (vf (by rw [List.length_map]; omega))]; rfl
   ·exact aM (ρ1:=[.io (HD (names (c + fb many)) (aQ bu (aH c) ⟨key,above,mark,ns⟩)),.fz (.int (many:Int)),.fz (aJ above),.fz (.bool mark),.fz (.int key),.fz (.str (aH c)),.own (TD ns)]) ((gT (i:=0) (r:=⟨key,above,mark,ns⟩) (c7 (rs:=[(.int key,.fz),(aJ above,.fz),(.bool mark,.fz),(.tuple (ns.map .str),.fz)]) (au (ak (ao rfl)) (au (ak (ao rfl)) (au (ak (ao rfl)) (au (ak (zd (i:=6) (x:=TD ns) (res:=(.tuple (ns.map .str),true)) (.inr (.inl rfl)) rfl)) aI)))) rfl (by simp)) (ao rfl) rfl (.inr rfl) (by rw [jx]; omega)).trans (by rw [fG hin]; rfl)) (cD (ao rfl))
  ·rw [aG _ _ (fun e=>ku c hc i hi e.symm),s2 i (Nat.lt_succ_of_lt hi),aG _ _ (fun e=>ku c hc i hi e.symm)]
theorem xO (cs0:D):∀ (cs:List Int) (c:Nat) (aj:List Str) (row:Str->aL.Row) (s3 s4:Sl),NIo s3->NIo s4->Bk c aj (names c) row->c + cs.length≤120 ->
  ∃ (a6:List Str) (bu:Str->aL.Row) (tl:Rho),forL (mgN 3) lh (cs.map .int) [.fz cs0,.own (HD (names c) row),.own (TD aj),s3,s4]=some (.nx (.fz cs0::.own (HD (names (c + cs.length)) bu)::.own (TD a6)::tl))∧Bk (c + cs.length) a6 (names (c + cs.length)) bu:=by
 intro cs
 induction cs with
 | nil=>intro c aj row s3 s4 _ _ h _; exact ⟨aj,row,_,rfl,h⟩
 | cons x cs ih =>
  intro c aj row s3 s4 n3 n4 h hl
  rw [List.length_cons] at hl ⊢
  obtain ⟨v,hv⟩:=key_is x
  have hc:c < 130:=by omega
  have hB:=(Bk.new hc h v).2
  rw [← lJ] at hB
  have tl:=h.tl
  obtain ⟨a6,bu,tl',h1,h2⟩:=ih (c + 1) (aj++[aH c]) (aQ row (aH c) ⟨v,none,false,[]⟩) (.fz (.int x)) (.fz (.str (aH c))) (NIo.fz _) (NIo.fz _) hB (by omega)
  rw [show c + 1 + cs.length=c + (cs.length + 1) by omega] at h1 h2
  refine ⟨a6,bu,tl',?_,h2⟩
  rw [List.map_cons]
  refine jn (ρ1:=[.fz cs0,.own (HD (names c) row),.own (TD aj),.fz (.int x),s4]) (fE (s:=s3) rfl n3) ?_ h1
  refine aM (ρ1:=[.fz cs0,.own (HD (names c) row),.own (TD aj),.fz (.int x),.fz (.str (aH c))]) (dW (cz (rs:=[(.int (c:Int),.fz)]) (dX ((ue (.inr (.inl rfl))).is (by rw [jx])) aI) (ud c) rfl) (iP (s:=s4) _ rfl n4)) ?_
  refine aM (ρ1:=[.fz cs0,.own (HD (names (c + 1)) (aQ row (aH c) ⟨v,none,false,[]⟩)),.own (TD aj),.fz (.int x),.fz (.str (aH c))]) ((gT (i:=1) (r:=⟨v,none,false,[]⟩) (c7 (rs:=[(.int v,.fz),(.none,.fz),(.bool false,.fz),(.tuple [],.fz)]) (dX (kL (rs:=[(.int x,.fz)]) rfl hv) (au (ak rfl) (au (ak rfl) (au (ak (c7 (rs:=[]) rfl rfl (by simp))) aI)))) rfl (by simp)) (ao rfl) rfl (.inl rfl) (by rw [jx]; omega)).trans (by rw [qt hc]; rfl)) ?_
  exact gk (nF (rs:=[(.str (aH c),.fz)]) rfl rfl rfl rfl (qm _ (by rw [List.length_map]; omega)) (by rw [my]; rfl))
theorem qu (ns:List Int) (lo hi:Nat):∃ cs:List Int,cutD (ns.map .int) (some (lo:Int)) (some (hi:Int))=cs.map .int∧cs.length≤hi - lo∧∀ c∈cs,c∈ns:=by
 unfold cutD
 refine ⟨(ns.drop (HT.sIx (ns.map PyData.int).length 0 (some (lo:Int)))).take (HT.sIx (ns.map PyData.int).length (ns.map PyData.int).length (some (hi:Int)) - HT.sIx (ns.map PyData.int).length 0 (some (lo:Int))),by rw [List.map_take,List.map_drop],?_,fun c hc=>List.mem_of_mem_drop (List.mem_of_mem_take hc)⟩
 rw [List.length_take,List.length_drop]
 simp only [HT.sIx,List.length_map]
 rw [if_neg (by omega),if_neg (by omega)]
 omega
theorem CL (cs:List Int) (hl:cs.length≤60):∃ (aj keys:List Str) (row:Str->aL.Row),gv [.list (cs.map .int)]=some (TD aj,HD keys row)∧Bk 120 aj keys row:=by
 have eq0:mOp gEq (ai 0) (dn aD) [.fz (.list (cs.map .int)),.no,.no,.no,.no]=some ((.bool (decide (cs=[])),.fz),[.fz (.list (cs.map .int)),.no,.no,.no,.no]):=bH (r:=(.list [],.fz)) (res:=(.bool (decide (cs=[])),false)) (ak (ao rfl)) (ie (eC (rs:=[]) rfl rfl (by simp))) (u9 cs [])
 have bt:∀ h:mOr (aF (mOp gEq (ai 0) (dn aD))) (aF (mOp gNe (mOp cJ (mOp gIx (ai 0) (mC (.int 0))) (mC (.int 7))) (mC (.int 6)))) [.fz (.list (cs.map .int)),.no,.no,.no,.no]=some (true,[.fz (.list (cs.map .int)),.no,.no,.no,.no]),∃ (aj keys:List Str) (row:Str->aL.Row),gv [.list (cs.map .int)]=some (TD aj,HD keys row)∧Bk 120 aj keys row:=fun h=>by
  obtain ⟨aj,keys,row,h1,h2⟩:=CH cs hl
  refine ⟨aj,keys,row,xN rfl ?_,h2.more (by omega)⟩
  show zX _ _ _ [.fz (.list (cs.map .int)),.no,.no,.no,.no]=_
  unfold zX
  rw [h,Option.bind_some]; dsimp only
  rw [if_pos rfl]
  show (gu [.list (cs.map .int),.int 0])=_
  exact h1
 cases cs with
 | nil=>exact bt (G0 (test_ev (k:=.fz) eq0))
 | cons c cs =>
  have i0:IE (mOp gIx (ai 0) (mC (.int 0))) [.fz (.list ((c::cs).map .int)),.no,.no,.no,.no] c:=bH (r:=(.int 0,.fz)) (res:=(.int c,false)) (ak (ao rfl)) (ak rfl) (qi _ _ _ (Mir.vg _ _))
  have ne0:aF (mOp gEq (ai 0) (dn aD)) [.fz (.list ((c::cs).map .int)),.no,.no,.no,.no]=some (false,[.fz (.list ((c::cs).map .int)),.no,.no,.no,.no]):=test_ev (k:=.fz) (by rw [eq0]; rfl)
  by_cases h6:c % 7=6
  ·obtain ⟨v,hv⟩:=key_is (c / 70)
   obtain ⟨m,em,hm⟩:∃ m:Nat,c / 7 % 10=(m:Int)∧m < 10:=kT (c / 7) 10 (by omega)
   obtain ⟨cq,e1,g1,_,a1⟩:=CK 12 m (by omega) hm 0 (fun _=>(⟨0,none,false,[]⟩:aL.Row)) none false v ⟨(fun i hi=>by omega),(fun i hi=>by omega),fun i hi=>by omega⟩ (by have:=CJ 9 (by omega) m (by omega); have:fb 9=89:=rfl; omega) (fun a ha=>by cases ha) (fun z=>by cases z)
   have hz:=CJ 9 (by omega) m (by omega)
   have hz9:fb 9=89:=rfl
   rw [Nat.zero_add] at e1 g1
   have b1:=g1.bt (by omega) (oW m hm).2 a1
   obtain ⟨ds,e2,l2,_⟩:=qu (c::cs) 1 12
   obtain ⟨a6,bu,tl,h1,h2⟩:=xO (.list ((c::cs).map .int)) ds (fb m) [aH 0] cq .no .no NIo.no NIo.no b1 (by omega)
   refine ⟨a6,_,bu,xN rfl ?_,h2.more (by omega)⟩
   show zX _ _ _ [.fz (.list ((c::cs).map .int)),.no,.no,.no,.no]=_
   unfold zX
   rw [j2 ne0 (ig (rX (c8 i0 bU (by decide)) bU) (by rw [h6])),Option.bind_some]; dsimp only
   rw [if_neg (by simp)]
   refine jw (ρ1:=[.fz (.list ((c::cs).map .int)),.own (HD [] fun _=>⟨0,none,false,[]⟩),.no,.no,.no]) (dN rfl rfl) ?_
   have i1:IE (mOp gIx (ai 0) (mC (.int 0))) [.fz (.list ((c::cs).map .int)),.own (HD [] fun _=>⟨0,none,false,[]⟩),.no,.no,.no] c:=bH (r:=(.int 0,.fz)) (res:=(.int c,false)) (ak (ao rfl)) (ak rfl) (qi _ _ _ (Mir.vg _ _))
   refine jw (ρ1:=[.fz (.list ((c::cs).map .int)),.own (HD (names (fb m)) cq),.own (TD [aH 0]),.no,.no]) (dN (eC (rs:=[(.str (aH 0),.fz)]) (ρ1:=[.fz (.list ((c::cs).map .int)),.own (HD (names (fb m)) cq),.no,.no,.no]) (ρ2:=[.fz (.list ((c::cs).map .int)),.own (HD (names (fb m)) cq),.no,.no,.no]) (ds:=[.str (aH 0)]) (au (ρ1:=[.fz (.list ((c::cs).map .int)),.own (HD (names (fb m)) cq),.no,.no,.no]) (ak (BG (d0:=.none) (i:=1) (f:=dY 12) (d:=.str (aH 0)) (o:=false) (d1:=HD (names (fb m)) cq) (s:=.own (HD [] fun _=>⟨0,none,false,[]⟩)) (s':=.own (HD [] fun _=>⟨0,none,false,[]⟩)) (ds:=[.int (m:Int),.none,.bool false,.int v]) (ρ2:=[.fz (.list ((c::cs).map .int)),.own (HD [] fun _=>⟨0,none,false,[]⟩),.no,.no,.no]) (rs:=[(.int (m:Int),.fz),(.none,.fz),(.bool false,.fz),(.int v,.fz)]) rfl (dX ((c8 (lF i1 bU ⟨by decide,by decide⟩) bU (by decide)).is em) (au (ak rfl) (au (ak rfl) (dX (kL (rs:=[(.int (c / 70),.fz)]) (dX (lF i1 bU ⟨by decide,by decide⟩) aI) hv) aI)))) rfl rfl e1)) aI) rfl (by simp)) rfl) ?_
   exact jw (pH (ds:=ds.map .int) (ρ1:=[.fz (.list ((c::cs).map .int)),.own (HD (names (fb m)) cq),.own (TD [aH 0]),.no,.no]) (G2 (ie (show mSl gSl (ai 0) (gq (mC (.int 1))) (gq (mC (.int 12))) [.fz (.list ((c::cs).map .int)),.own (HD (names (fb m)) cq),.own (TD [aH 0]),.no,.no]=some ((.list (ds.map .int),.new),_) from by rw [← e2]; rfl))) h1) rfl
  ·exact bt (j2 ne0 (ig (rX (c8 i0 bU (by decide)) bU) (by rw [decide_eq_false h6]; rfl)))
theorem EL (x y:Str):PyData.eqv (.str x) (.str y)=decide (x=y):=by
 simp only [PyData.eqv]
 by_cases e:x=y
 ·subst e; simp
 ·simp [e]
theorem iQ:∀ a b:List Str,PyData.eqvAll (a.map .str) (b.map .str)=decide (a=b)
 | [],[]=>by simp [PyData.eqvAll]
 | [],_::_=>by simp [PyData.eqvAll]
 | _::_,[]=>by simp [PyData.eqvAll]
 | x::a,y::b=>by
  simp only [List.map_cons,PyData.eqvAll]
  rw [EL,iQ a b,Bool.eq_iff_iff]
  simp
theorem HC {a b:List Str} (ha:∀ x∈a,PyData.strOk x=true) (hb:∀ x∈b,PyData.strOk x=true):gNe (TD a) (TD b)=some (.bool (!decide (a=b)),false):=by
 unfold gNe
 rw [if_pos ⟨kU ha,kU hb⟩]
 show some (PyData.bool (!PyData.eqvAll (a.map .str) (b.map .str)),false)=_
 rw [iQ]
variable {keys:List Str} {row:Str->aL.Row} {aj:List Str} {c:Nat}
theorem xP (keys:List Str) (row:Str->aL.Row) (n:Str):jF (.str n) (HD keys row)=some (.bool (!decide (n∈keys)),false):=by
 show some (PyData.bool (!(iq (cg keys row) (.inr n)).isSome),false)=_
 rw [jt]
 by_cases h:n∈keys
 ·rw [if_pos h,decide_eq_true h]; rfl
 ·rw [if_neg h,decide_eq_false h]; rfl
theorem om {n:Str} (hn:n∈keys):eW [HD keys row,.str n]=some (.tuple [.int (row n).key,.str n],false) :=
 ej (o:=.rt (.tuple [.int (row n).key,.str n],.fz) [.fz (HD keys row),.fz (.str n)]) rfl (cD (c7 (rs:=[(.int (row n).key,.fz),(.str n,.fz)]) (dX (fF (cS (.inl rfl) hn (ao rfl))) (au (ak (ao rfl)) aI)) rfl (by simp))) rfl
theorem HE {fr:List (Str × Nat)} {dv:PM} {cc:Rho->Option (Bool × Rho)} {e:PM} {ρ:Rho} {ys:List D} (h1:dv ρ=some ((HD keys row,.fz),ρ)) (hr:oB ρ=true) (h2:jV cc e (fr.map fun p=>cI ρ p.2) (keys.map .str)=some ys) (h3:ys.length≤100000):Cg fr dv cc e ρ=some ((.list ys,.new),ρ):=by
 unfold Cg
 rw [h1,Option.bind_some]
 dsimp only [sg,Option.bind_some]
 rw [if_pos hr,sk,h2,Option.bind_some,b0 (vf h3)]
theorem sC (hkl:keys.length≤950):dD [.tuple [TD aj,HD keys row]]=some (.int ((aj.length:Int) + 2 * ((keys.filter fun n=>(row n).mark).length:Int)),false):=by
 have fl:(keys.filter fun n=>(row n).mark).length≤1000:=Nat.le_trans (List.length_filter_le _ _) (by omega)
 have f1:Cg [("pile",0)] (Hj (vy 0) 1) jZ j0 [.fz (.tuple [TD aj,HD keys row]),.no]=some ((TD (keys.filter fun n=>(row n).mark),.new),[.fz (.tuple [TD aj,HD keys row]),.no]):=by
  refine HE rfl rfl ?_ (by rw [List.length_map]; omega)
  refine gU (p:=fun n=>(row n).mark) keys (fun n hn=>⟨_,test_ev (k:=.fz) (kx (lH hn (ak (bH (r:=(.int 1,.fz)) (res:=(HD keys row,false)) (ak (ao rfl)) (ak rfl) rfl)) (ao rfl)))⟩) fun n hn=>⟨_,ak (ao rfl)⟩
 have l0:IE (mCB dH (ah (mOp gIx (ai 0) (mC (.int 0))) aD)) [.fz (.tuple [TD aj,HD keys row]),.own (TD (keys.filter fun n=>(row n).mark))] (aj.length:Int):=fe (rs:=[(TD aj,.fz)]) (res:=(.int (aj.length:Int),false)) (au (ak (bH (r:=(.int 0,.fz)) (res:=(TD aj,false)) (ak (ao rfl)) (ak rfl) rfl)) aI) (by show some (PyData.int ((aj.map PyData.str).length:Int),false)=_; rw [List.length_map])
 have l1:IE (mCB dH (ah (ai 1) aD)) [.fz (.tuple [TD aj,HD keys row]),.own (TD (keys.filter fun n=>(row n).mark))] ((keys.filter fun n=>(row n).mark).length:Int):=oV (.inr (.inl rfl))
 exact ej (o:=.rt (.int ((aj.length:Int) + 2 * ((keys.filter fun n=>(row n).mark).length:Int)),.fz) [.fz (.tuple [TD aj,HD keys row]),.own (TD (keys.filter fun n=>(row n).mark))]) rfl (aM (dN f1 rfl) (cD (i6 l0 (BA bU l1 (IC (.inl ⟨by omega,by omega⟩)))))) rfl
theorem zl {a b:EM} {ρ ρ1:Rho} {o:Option vk} (h1:a ρ=some (.ok (.nx ρ1))) (h2:b ρ1=o):pK a b ρ=o:=by unfold pK; rw [h1]; exact h2
theorem zm {a b:EM} {ρ ρ1:Rho} {c:Str} (h1:a ρ=some (.er c ρ1)):pK a b ρ=some (.er c ρ1):=by unfold pK; rw [h1]; rfl
theorem vW {m:SM} {ρ:Rho} {o:Out} (h:m ρ=some o):k9 m ρ=some (.ok o):=by unfold k9; rw [h]; rfl
theorem FV {c:Rho->Option (Bool × Rho)} {a b:EM} {ρ ρ1:Rho} {o:Option vk} (h1:c ρ=some (true,ρ1)) (h2:a ρ1=o):eIf c a b ρ=o:=by unfold eIf; rw [h1,Option.bind_some]; dsimp only; rw [if_pos rfl,h2]
theorem Jt {c:Rho->Option (Bool × Rho)} {a b:EM} {ρ ρ1:Rho} {o:Option vk} (h1:c ρ=some (false,ρ1)) (h2:b ρ1=o):eIf c a b ρ=o:=by unfold eIf; rw [h1,Option.bind_some]; dsimp only; rw [if_neg Bool.false_ne_true,h2]
theorem xQ {n k:Nat} {b:EM} {ds:List D} {c:Str} {ρ:Rho} (hl:ds.length=n) (h:b (ds.map .fz++List.replicate k .no)=some (.er c ρ)):fnX n k b ds=some (.inr c):=by
 unfold fnX; rw [if_pos hl,h]; rfl
theorem HF {n k:Nat} {b:EM} {ds:List D} {o:Out} {r:D × Bool} (hl:ds.length=n) (h:b (ds.map .fz++List.replicate k .no)=some (.ok o)) (hr:pz o=some r):fnX n k b ds=some (.inl r):=by
 unfold fnX; rw [if_pos hl,h]; show (pz o).map _=_; rw [hr]; rfl
theorem HG {f:List D->Option ((D × Bool) ⊕ Str)} {m:Rho->Option (List RV × Rho)} {i:Nat} {su:Str->Option SM} {ρ ρ1 ρ2 ρ3 ρ4:Rho} {rs:List RV} {c:Str} {s:SM} (h1:m ρ=some (rs,ρ1)) (h2:f (rs.map (·.1))=some (.inr c)) (h3:su c=some s) (h4:BD ρ1=true) (h5:eK ρ1 i .ex=some ρ2) (h6:s ρ2=some (.nx ρ3)) (h7:eK ρ3 i .no=some ρ4) (h8:BD ρ4=true):yI f m i su ρ=some (.nx ρ4):=by
 unfold yI
 rw [h1,Option.bind_some]; dsimp only
 rw [h2,Option.bind_some]; dsimp only
 rw [h3,Option.bind_some,if_pos h4,h5,Option.bind_some,h6,Option.bind_some]
 unfold Fx
 dsimp only
 rw [h7,Option.bind_some,if_pos h8]
theorem CM {f:List D->Option ((D × Bool) ⊕ Str)} {m:Rho->Option (List RV × Rho)} {ρ ρ1 ρ2:Rho} {rs:List RV} {ds:List D} {d:D} {o:Bool} (h1:m ρ=some (rs,ρ1)) (h2:eZ rs ρ1=some (ds,ρ2)) (h3:f ds=some (.inl (d,o))):jB f m ρ=some (.inl (kO d o,ρ2)):=by
 unfold jB; rw [h1,Option.bind_some]; dsimp only; rw [h2,Option.bind_some]; dsimp only; rw [h3]; rfl
theorem CN {f:List D->Option ((D × Bool) ⊕ Str)} {m:Rho->Option (List RV × Rho)} {ρ ρ1 ρ2:Rho} {rs:List RV} {ds:List D} {c:Str} (h1:m ρ=some (rs,ρ1)) (h2:eZ rs ρ1=some (ds,ρ2)) (h3:f ds=some (.inr c)):jB f m ρ=some (.inr (c,ρ2)):=by
 unfold jB; rw [h1,Option.bind_some]; dsimp only; rw [h2,Option.bind_some]; dsimp only; rw [h3]; rfl
theorem Ju {k:PM->SM} {m:XM} {ρ:Rho} {x:RV × Rho} {o:Out} (h:m ρ=some (.inl x)) (h2:∀ m':PM,m' ρ=some x->k m' ρ=some o):eX k m ρ=some (.ok o):=by
 unfold eX; rw [h,Option.bind_some]; dsimp only
 rw [h2 (mOk m) (by unfold mOk; rw [h]),Option.map_some]
theorem Jv {k:PM->SM} {m:XM} {ρ ρ1:Rho} {c:Str} (h:m ρ=some (.inr (c,ρ1))):eX k m ρ=some (.er c ρ1):=by
 unfold eX; rw [h,Option.bind_some]
abbrev PD (aj keys:List Str) (row:Str->aL.Row):D:=.tuple [TD aj,HD keys row]
theorem ll {ρ:Rho} {i:Nat} (h : ρ[i]?=some (.fz (PD aj keys row))):mOp gIx (ai i) (mC (.int 1)) ρ=some ((HD keys row,.fz),ρ):=bH (r:=(.int 1,.fz)) (res:=(HD keys row,false)) (ak (ao h)) (ak rfl) rfl
theorem vX {ρ:Rho} {i:Nat} (h : ρ[i]?=some (.fz (PD aj keys row))):mOp gIx (ai i) (mC (.int 0)) ρ=some ((TD aj,.fz),ρ):=bH (r:=(.int 0,.fz)) (res:=(TD aj,false)) (ak (ao h)) (ak rfl) rfl
theorem ky {ρ:Rho} {i j:Nat} {n:Str} (h : ρ[i]?=some (.fz (PD aj keys row))) (hj : ρ[j]?=some (.fz (.str n))):BE (mOp jF (ai j) (mOp gIx (ai i) (mC (.int 1)))) ρ (!decide (n∈keys)):=bH (r:=(HD keys row,.fz)) (res:=(.bool (!decide (n∈keys)),false)) (ak (ao hj)) (ak (ll h)) (xP keys row n)
theorem EO {n:Str} (hn:n∈keys):fB [PD aj keys row,.str n]=some (.none,false) :=
 ej (o:=.nx [.fz (PD aj keys row),.fz (.str n)]) rfl (i5 (ig (ky (i:=0) (j:=1) rfl rfl) (by rw [decide_eq_true hn]; rfl)) rfl) rfl
theorem CO {n:Str} (hn:n ∉ keys):fA [PD aj keys row,.str n]=some (.inr "Lacking") :=
 xQ (ρ:=[.fz (PD aj keys row),.fz (.str n)]) rfl (FV (ig (ky (i:=0) (j:=1) rfl rfl) (by rw [decide_eq_false hn]; rfl)) rfl)
theorem CP {n:Str} (hn:n∈keys):fA [PD aj keys row,.str n]=some (.inl (.none,false)) :=
 HF (o:=.nx [.fz (PD aj keys row),.fz (.str n)]) rfl (Jt (ig (ky (i:=0) (j:=1) rfl rfl) (by rw [decide_eq_true hn]; rfl)) (vW rfl)) rfl
theorem CQ {n:Str} (hn:n ∉ keys) (k:Int):fi [PD aj keys row,.str n,.int k]=some (.inr "Lacking") :=
 xQ (ρ:=[.fz (PD aj keys row),.fz (.str n),.fz (.int k),.no,.no]) rfl (zm (Jv (CN (rs:=[(PD aj keys row,.fz),(.str n,.fz)]) (au (ak (ao rfl)) (au (ak (ao rfl)) aI)) rfl (CO hn))))
theorem CS {n:Str} (hn:n∈keys) {k:Int} (hk:(row n).key≤k):fi [PD aj keys row,.str n,.int k]=some (.inr "NotLess"):=by
 refine xQ (ρ:=[.fz (PD aj keys row),.fz (.str n),.fz (.int k),.fz (aW (row n)),.no]) rfl ?_
 refine zl (ρ1:=[.fz (PD aj keys row),.fz (.str n),.fz (.int k),.no,.no]) (Ju (CM (rs:=[(PD aj keys row,.fz),(.str n,.fz)]) (au (ak (ao rfl)) (au (ak (ao rfl)) aI)) rfl (CP hn)) fun m' hm=>gk hm) ?_
 refine zl (ρ1:=[.fz (PD aj keys row),.fz (.str n),.fz (.int k),.fz (aW (row n)),.no]) (vW (dW (lH hn (ak (ll rfl)) (ao rfl)) rfl)) ?_
 exact zm (FV (ig (Fw (b4 rfl) (fF (ao rfl))) (decide_eq_true hk)) rfl)
def iu (l:List Bool):D:=.list (l.map .bool)
theorem zo {ρ:Rho} (h : ρ[4]?=some .ex) (b1 b2 b3:Bool):dn (ah (dk 4 b1) (ah (dk 4 b2) (ah (dk 4 b3) aD))) ρ=some ((iu [b1,b2,b3],.new),ρ):=by
 have e:∀ b,dk 4 b ρ=some ((.bool b,.fz),ρ):=fun b=>by unfold dk; rw [h]
 exact eC (rs:=[(.bool b1,.fz),(.bool b2,.fz),(.bool b3,.fz)]) (au (ak (e b1)) (au (ak (e b2)) (au (ak (e b3)) aI))) rfl (by simp)
theorem qv {n:Str} {k:Int} {c:Str} {b1 b2 b3:Bool} (hx:fi [PD aj keys row,.str n,.int k]=some (.inr c)) (hs:eR c=some ((bM (de 3 (dn (ah (dk 4 b1) (ah (dk 4 b2) (ah (dk 4 b3) aD))))) (de 3 (mOp eA (ai 3) (dn (ah (dk 4 false) (ah (dk 4 false) (ah (dk 4 false) aD))))))))):bL [PD aj keys row,.str n,.int k]=some (iu [b1,b2,b3,false,false,false],true):=by
 refine ej (o:=.rt (iu [b1,b2,b3,false,false,false],.at 3) [.fz (PD aj keys row),.fz (.str n),.fz (.int k),.own (iu [b1,b2,b3,false,false,false]),.no]) rfl ?_ rfl
 refine aM (ρ1:=[.fz (PD aj keys row),.fz (.str n),.fz (.int k),.own (.list []),.no]) (dN (eC (rs:=[]) rfl rfl (by simp)) rfl) ?_
 refine aM (ρ1:=[.fz (PD aj keys row),.fz (.str n),.fz (.int k),.own (iu [b1,b2,b3,false,false,false]),.no]) (HG (rs:=[(PD aj keys row,.fz),(.str n,.fz),(.int k,.fz)]) (ρ2:=[.fz (PD aj keys row),.fz (.str n),.fz (.int k),.own (.list []),.ex]) (ρ3:=[.fz (PD aj keys row),.fz (.str n),.fz (.int k),.own (iu [b1,b2,b3,false,false,false]),.ex]) (au (ak (ao rfl)) (au (ak (ao rfl)) (au (ak (ao rfl)) aI))) hx hs rfl rfl ?_ rfl rfl) (cD (gj rfl))
 refine aM (ρ1:=[.fz (PD aj keys row),.fz (.str n),.fz (.int k),.own (iu [b1,b2,b3]),.ex]) (dN (zo rfl b1 b2 b3) rfl) ?_
 exact dN (Ft (r:=(iu [false,false,false],.fz)) (res:=(iu [b1,b2,b3,false,false,false],true)) (nV (gj rfl)) (ie (zo rfl false false false)) rfl (rV [.bool b1,.bool b2,.bool b3] [.bool false,.bool false,.bool false] (by simp))) rfl
theorem xR {n:Str} (hn:n ∉ keys) (k:Int):bL [PD aj keys row,.str n,.int k]=some (iu [true,true,false,false,false,false],true):=qv (CQ hn k) rfl
theorem qw {n:Str} (hn:n∈keys) {k:Int} (hk:(row n).key≤k):bL [PD aj keys row,.str n,.int k]=some (iu [true,false,true,false,false,false],true):=qv (CS hn hk) rfl
def rOk (r:aL.Row):Prop:=(∀ a,r.above=some a->PyData.strOk a=true)∧∀ b∈r.below,PyData.strOk b=true
theorem qx {r:aL.Row} (h:rOk r):SeqAt.shaped (aW r)=true:=by
 obtain ⟨h1,h2⟩:=oh h.2
 have ha:PyData.canLay0 (aJ r.above)=true∧PyData.depth (aJ r.above)=0:=by
  cases e:r.above with
  | none=>exact ⟨rfl,by simp [aJ,PyData.depth]⟩
  | some a=>exact ⟨by simp only [aJ,PyData.canLay0,h.1 a e],by simp [aJ,PyData.depth]⟩
 unfold SeqAt.shaped aW
 rw [decide_eq_true (by simp only [PyData.depth,PyData.depthAll,ha.2]; omega),Bool.and_true]
 simp only [PyData.canLay0,PyData.canLayAll0,ha.1,h1,Bool.and_true,Bool.true_and]
theorem ER (r:aL.Row):PyData.eqv (aW r) (aW r)=true:=by
 unfold aW
 cases r.above with
 | none=>simp [aJ,PyData.eqv,PyData.eqvAll,iQ]
 | some a=>simp [aJ,PyData.eqv,PyData.eqvAll,iQ]
theorem entry_is {r:aL.Row} (h:rOk r):fy [aW r,aW r]=some (.bool true,false):=by
 have t1:mOr (gP (aF (kY "tuple" (ai 0)))) (mOr (aF (mOp gNe (mCB dH (ah (ai 0) aD)) (mC (.int 4)))) (gP (aF (kY "tuple" (mOp gIx (ai 0) (mC (.int 3))))))) [.fz (aW r),.fz (aW r)]=some (false,[.fz (aW r),.fz (aW r)]) :=
  j2 (fR (test_ev (k:=.fz) (v:=true) (mY (ak (ao rfl)) (eN _)))) (j2 (ig (rX (fe (rs:=[(aW r,.fz)]) (res:=(.int 4,false)) (au (ak (ao rfl)) aI) rfl) bU) rfl) (fR (test_ev (k:=.fz) (v:=true) (mY (ak (ju (ao rfl))) (eN _)))))
 have t2:mOr (aF (kY "bool" (mOp gIx (ai 0) (mC (.int 0))))) (gP (aF (kY "bool" (mOp gIx (ai 0) (mC (.int 2)))))) [.fz (aW r),.fz (aW r)]=some (false,[.fz (aW r),.fz (aW r)]) :=
  j2 (test_ev (k:=.fz) (v:=false) (mY (ak (fF (ao rfl))) (md _))) (fR (test_ev (k:=.fz) (v:=true) (mY (ak (kx (ao rfl))) (by simp [j9,tyD,df,lY]))))
 refine ej (o:=.rt (.bool true,.fz) [.fz (aW r),.fz (aW r)]) rfl (aM (i5 t1 rfl) (aM (i5 t2 rfl) (cD (bH (r:=(aW r,.fz)) (res:=(.bool true,false)) (ak (ao rfl)) (ak (ao rfl)) ?_)))) rfl
 show gEq (aW r) (aW r)=_
 unfold gEq
 rw [if_pos ⟨qx h,qx h⟩,ER]
theorem uh {n:String} {a:PM} {ρ ρ1:Rho} {d:D} {k:Kd} {v:Bool} (h1:sv a ρ=some ((d,k),ρ1)) (h2:vG n d=some (.bool v,false)):mm n a ρ=some ((.bool v,.fz),ρ1):=by
 unfold mm mUn; rw [h1,Option.bind_some]; dsimp only; rw [h2]; rfl
theorem ES {dv:PM} {g:D->Rho->Option Rho} {b:SM} {ρ ρ1:Rho} {o:Out} (h1:dv ρ=some ((HD keys row,.fz),ρ1)) (hr:oB ρ=true) (h2:forL g b (keys.map fun n=>PyData.tuple [.str n,aW (row n)]) ρ1=some o) (h3:oB (Hi o)=true):y4 dv g b ρ=some o:=by
 unfold y4
 rw [h1,Option.bind_some]
 dsimp only [sg,Option.bind_some]
 rw [if_pos hr,show kn (cg keys row)=keys.map fun n=>PyData.tuple [.str n,aW (row n)] from by unfold kn cg; rw [List.map_map]; rfl,h2,Option.bind_some,if_pos h3]
theorem Aq (T:D):∀ (l:List Str) (x y:D),(∀ n∈l,n∈keys)->(∀ n∈keys,rOk (row n))->∃ x' y',forL (mgU 2 (aT (mgN 3) (aT (mgN 4) ez))) eQ (l.map fun n=>PyData.tuple [.str n,aW (row n)]) [.fz (PD aj keys row),.fz T,.fz (HD keys row),.fz x,.fz y]=some (.nx [.fz (PD aj keys row),.fz T,.fz (HD keys row),.fz x',.fz y']):=by
 intro l
 induction l with
 | nil=>intro x y _ _; exact ⟨x,y,rfl⟩
 | cons n l ih =>
  intro x y hl hk
  obtain ⟨x',y',h1⟩:=ih (.str n) (aW (row n)) (fun m hm=>hl m (List.mem_cons_of_mem _ hm)) hk
  have hn:=hl n List.mem_cons_self
  refine ⟨x',y',?_⟩
  rw [List.map_cons]
  refine jn (ρ1:=[.fz (PD aj keys row),.fz T,.fz (HD keys row),.fz (.str n),.fz (aW (row n))]) rfl ?_ h1
  refine i5 (j2 (ig (ky (i:=0) (j:=3) rfl rfl) (by rw [decide_eq_true hn]; rfl)) (fR (v:=true) ?_)) rfl
  exact (iJ (rs:=[(aW (row n),.fz),(aW (row n),.fz)]) (au (ak (lH hn (ak (ll rfl)) (ao rfl))) (au (ak (ao rfl)) aI)) (entry_is (hk n hn))).t
theorem oX (hk:∀ n∈keys,rOk (row n)) (ht:∀ t∈aj,PyData.strOk t=true):b6 [PD aj keys row,TD aj,HD keys row]=some (.bool true,false):=by
 have t1:mOr (gP (aF (mm "tuple" (ai 0)))) (mOr (aF (mOp gNe (mCB dH (ah (ai 0) aD)) (mC (.int 2)))) (mOr (gP (aF (mm "list" (mOp gIx (ai 0) (mC (.int 0)))))) (aF (mOp gNe (mOp gIx (ai 0) (mC (.int 0))) (ai 1))))) [.fz (PD aj keys row),.fz (TD aj),.fz (HD keys row),.no,.no]=some (false,[.fz (PD aj keys row),.fz (TD aj),.fz (HD keys row),.no,.no]) :=
  j2 (fR (test_ev (k:=.fz) (v:=true) (uh (ak (ao rfl)) (by simp [vG,j9,tyD,df,lY])))) (j2 (ig (rX (fe (rs:=[(PD aj keys row,.fz)]) (res:=(.int 2,false)) (au (ak (ao rfl)) aI) rfl) bU) rfl) (j2 (fR (test_ev (k:=.fz) (v:=true) (uh (ak (vX rfl)) (by simp [vG,j9,tyD,df,lY])))) (test_ev (k:=.fz) (v:=false) (bH (r:=(TD aj,.fz)) (res:=(.bool false,false)) (ak (vX rfl)) (ak (ao rfl)) (by rw [HC ht ht,decide_eq_true rfl]; rfl)))))
 have l0:IE (mCB lg (ah (mOp gIx (ai 0) (mC (.int 1))) aD)) [.fz (PD aj keys row),.fz (TD aj),.fz (HD keys row),.no,.no] (keys.length:Int):=fe (rs:=[(HD keys row,.fz)]) (res:=(.int (keys.length:Int),false)) (au (ak (ll rfl)) aI) (by show some (PyData.int ((cg keys row).length:Int),false)=_; rw [mr])
 have t2:mOr (gP (aF (mm "dict" (mOp gIx (ai 0) (mC (.int 1)))))) (aF (mOp gNe (mCB lg (ah (mOp gIx (ai 0) (mC (.int 1))) aD)) (mCB lg (ah (ai 2) aD)))) [.fz (PD aj keys row),.fz (TD aj),.fz (HD keys row),.no,.no]=some (false,[.fz (PD aj keys row),.fz (TD aj),.fz (HD keys row),.no,.no]) :=
  j2 (fR (test_ev (k:=.fz) (v:=true) (uh (ak (ll rfl)) (by simp [vG,df,lY])))) (ig (rX l0 (ue (.inl rfl))) (by simp))
 have lp:∃ s t,forL (mgU 2 (aT (mgN 3) (aT (mgN 4) ez))) eQ (keys.map fun n=>PyData.tuple [.str n,aW (row n)]) [.fz (PD aj keys row),.fz (TD aj),.fz (HD keys row),.no,.no]=some (.nx [.fz (PD aj keys row),.fz (TD aj),.fz (HD keys row),s,t])∧oB [.fz (PD aj keys row),.fz (TD aj),.fz (HD keys row),s,t]=true:=by
  have gen:∀ l:List Str,(∀ n∈l,n∈keys)->∃ s t,forL (mgU 2 (aT (mgN 3) (aT (mgN 4) ez))) eQ (l.map fun n=>PyData.tuple [.str n,aW (row n)]) [.fz (PD aj keys row),.fz (TD aj),.fz (HD keys row),.no,.no]=some (.nx [.fz (PD aj keys row),.fz (TD aj),.fz (HD keys row),s,t])∧oB [.fz (PD aj keys row),.fz (TD aj),.fz (HD keys row),s,t]=true:=fun l hl=>by
   cases l with
   | nil=>exact ⟨.no,.no,rfl,rfl⟩
   | cons n l =>
    have hn:=hl n List.mem_cons_self
    obtain ⟨x',y',h1⟩:=Aq (aj:=aj) (TD aj) l (.str n) (aW (row n)) (fun m hm=>hl m (List.mem_cons_of_mem _ hm)) hk
    refine ⟨.fz x',.fz y',?_,rfl⟩
    rw [List.map_cons]
    refine jn (ρ1:=[.fz (PD aj keys row),.fz (TD aj),.fz (HD keys row),.fz (.str n),.fz (aW (row n))]) rfl ?_ h1
    refine i5 (j2 (ig (ky (i:=0) (j:=3) rfl rfl) (by rw [decide_eq_true hn]; rfl)) (fR (v:=true) ?_)) rfl
    exact (iJ (rs:=[(aW (row n),.fz),(aW (row n),.fz)]) (au (ak (lH hn (ak (ll rfl)) (ao rfl))) (au (ak (ao rfl)) aI)) (entry_is (hk n hn))).t
  exact gen keys fun n hn=>hn
 obtain ⟨s,t,h1,h2⟩:=lp
 exact ej (o:=.rt (.bool true,.fz) [.fz (PD aj keys row),.fz (TD aj),.fz (HD keys row),s,t]) rfl (aM (i5 t1 rfl) (aM (i5 t2 rfl) (aM (ES (ρ1:=[.fz (PD aj keys row),.fz (TD aj),.fz (HD keys row),.no,.no]) rfl rfl h1 h2) (cD rfl)))) rfl
theorem Ar (r:aL.Row):mq [aW r]=some (aW ⟨r.key,none,false,r.below⟩,false) :=
 ej (o:=.rt (aW ⟨r.key,none,false,r.below⟩,.fz) [.fz (aW r)]) rfl (cD (c7 (rs:=[(.int r.key,.fz),(.none,.fz),(.bool false,.fz),(.tuple (r.below.map .str),.fz)]) (au (ak (fF (ao rfl))) (au (ak rfl) (au (ak rfl) (au (ak (ju (ao rfl))) aI)))) rfl (by simp))) rfl
theorem ui (r:aL.Row):iN [aW r]=some (aW ⟨r.key,r.above,true,r.below⟩,false) :=
 ej (o:=.rt (aW ⟨r.key,r.above,true,r.below⟩,.fz) [.fz (aW r)]) rfl (cD (c7 (rs:=[(.int r.key,.fz),(aJ r.above,.fz),(.bool true,.fz),(.tuple (r.below.map .str),.fz)]) (au (ak (fF (ao rfl))) (au (ak (d9 (ao rfl))) (au (ak rfl) (au (ak (ju (ao rfl))) aI)))) rfl (by simp))) rfl
theorem xS {r:aL.Row} {n:Str} (hb:∀ b∈r.below,PyData.strOk b=true) (hl:r.below.length≤1000) (hn:PyData.strOk n=true):kQ [aW r,.str n]=some (aW ⟨r.key,r.above,r.mark,r.below.filter fun x=>!decide (x=n)⟩,false):=by
 refine ej (o:=.rt (aW ⟨r.key,r.above,r.mark,r.below.filter fun x=>!decide (x=n)⟩,.fz) [.fz (aW r),.fz (.str n)]) rfl (cD (c7 (rs:=[(.int r.key,.fz),(aJ r.above,.fz),(.bool r.mark,.fz),(.tuple ((r.below.filter fun x=>!decide (x=n)).map .str),.fz)]) (au (ak (fF (ao rfl))) (au (ak (d9 (ao rfl))) (au (ak (kx (ao rfl))) (au (ak ?_) aI)))) rfl (by simp))) rfl
 refine fe (rs:=[(.list ((r.below.filter fun x=>!decide (x=n)).map .str),.fz)]) (res:=(.tuple ((r.below.filter fun x=>!decide (x=n)).map .str),true)) (au (ie (Bw (CC (ak (ju (ao rfl)))) (gU (p:=fun x=>!decide (x=n)) _ (fun x hx=>⟨_,test_ev (k:=.fz) (bH (r:=(.str n,.fz)) (res:=(.bool (!decide (x=n)),false)) (ak (ao rfl)) (ak (ao rfl)) (ze (hb x hx) hn))⟩) fun x hx=>⟨_,ak (ao rfl)⟩) (by rw [List.length_map]; exact Nat.le_trans (List.length_filter_le _ _) (by omega)))) aI) rfl
theorem xT {K:Str->Int} (h:Bt K c aj keys row) (x:D):∀ (C:List Str) (n L a:Str) (pre:List Str) (fuel:Nat),Ch row n C L->n∈keys->(row n).above=some a->pre.length + C.length≤1000->C.length≤fuel ->
  fu jr js fuel [.fz (HD keys row),.fz x,.own (TD (pre++[n])),.fz (.str a)]=some (.nx [.fz (HD keys row),.fz x,.own (TD (pre++C)),.fz (.str L)]):=by
 intro C
 induction C with
 | nil=>intro n L a pre fuel hch; cases hch
 | cons y C ih =>
  intro n L a pre fuel hch hn ha hl hf
  rw [List.length_cons] at hl hf
  obtain ⟨fuel,rfl⟩:∃ k,fuel=k + 1:=⟨fuel - 1,by omega⟩
  have hk:=h.ab n hn a ha
  cases hch with
  | one hb hm =>
   rw [ha] at hb
   cases hb
   exact mW (test_ev (k:=.fz) (by rw [← hm]; exact kx (cS (.inl rfl) hk (ao rfl))))
  | more hb hm hch =>
   rw [ha] at hb
   cases hb
   obtain ⟨b,eb⟩:∃ b,(row a).above=some b:=by cases hch with | one e _=>exact ⟨_,e⟩ | more e _ _=>exact ⟨_,e⟩
   have h1:=ih a L b (pre++[y]) fuel hch hk eb (by rw [List.length_append,List.length_singleton]; omega) (by omega)
   rw [List.append_assoc pre [y] C] at h1
   refine pE (ρ1:=[.fz (HD keys row),.fz x,.own (TD (pre++[y])),.fz (.str a)]) (test_ev (k:=.fz) (by rw [← hm]; exact kx (cS (.inl rfl) hk (ao rfl)))) ?_ h1
   refine aM (ρ1:=[.fz (HD keys row),.fz x,.own (TD (pre++[y]++[a])),.fz (.str a)]) (gk (nF (rs:=[(.str a,.fz)]) rfl rfl rfl rfl (qm _ (by rw [List.length_map,List.length_append,List.length_singleton]; omega)) (by rw [my]; rfl))) ?_
   exact dW (d9 (cS (.inl rfl) hk (ao rfl))) (by rw [eb]; rfl)
theorem CT {K:Str->Int} (h:Bt K c aj keys row) {n L:Str} {C:List Str} (hn:n∈keys) (hch:Ch row n C L) (hl:C.length≤900):fC [HD keys row,.str n]=some (TD C,true):=by
 obtain ⟨a,ea⟩:∃ a,(row n).above=some a:=by cases hch with | one e _=>exact ⟨_,e⟩ | more e _ _=>exact ⟨_,e⟩
 have h1:=xT h (.str n) C n L a [] 1000000 hch hn ea (by simp; omega) (by omega)
 rw [List.nil_append,List.nil_append] at h1
 refine ej (o:=.rt (TD C,.at 2) [.fz (HD keys row),.fz (.str n),.own (TD C),.fz (.str L)]) rfl ?_ rfl
 refine aM (ρ1:=[.fz (HD keys row),.fz (.str n),.own (TD [n]),.no]) (dN (eC (rs:=[(.str n,.fz)]) (au (ak (ao rfl)) aI) rfl (by simp)) rfl) ?_
 refine aM (ρ1:=[.fz (HD keys row),.fz (.str n),.own (TD [n]),.fz (.str a)]) (dW (d9 (cS (.inl rfl) hn (ao rfl))) (by rw [ea]; rfl)) ?_
 exact aM h1 (cD (gj rfl))
def dZ (row:Str->aL.Row) (n:Str) (k:Int):Str->aL.Row:=aQ row n ⟨k,(row n).above,(row n).mark,(row n).below⟩
theorem uj (n:Str) (k:Int):dZ row n k n=⟨k,(row n).above,(row n).mark,(row n).below⟩:=aN _ _ _
theorem uk {n m:Str} (k:Int) (h:m≠n):dZ row n k m=row m:=aG _ _ h
theorem iR (n m:Str) (k:Int):(dZ row n k m).above=(row m).above∧(dZ row n k m).mark=(row m).mark∧(dZ row n k m).below=(row m).below:=by
 by_cases e:m=n
 ·subst e; rw [uj]; exact ⟨rfl,rfl,rfl⟩
 ·rw [uk k e]; exact ⟨rfl,rfl,rfl⟩
theorem Bt.less {K:Str->Int} (h:Bt K c aj keys row) (n:Str) (k:Int):Bt K c aj keys (dZ row n k):=by
 refine ⟨h.nd,h.nm,h.tn,fun t ht=>?_,h.ne,fun m hm e=>?_,fun m hm a e=>?_,fun m hm=>?_,fun m hm a e=>?_⟩
 ·rw [(iR n t k).1]; exact h.tk t ht
 ·rw [(iR n m k).2.1] at e; rw [(iR n m k).1]; exact h.mkd m hm e
 ·rw [(iR n m k).1] at e; exact h.ab m hm a e
 ·rw [(iR n m k).2.2]; exact h.bl m hm
 ·rw [(iR n m k).1] at e; exact h.ho m hm a e
section
variable {K:Str->Int} {n:Str} {k:Int}
theorem sD (h:Bt K c aj keys row) (hc:c≤200) (hn:n∈keys) {u:SM} {o:Option Out} (ho:u [.io (TD aj),.io (HD keys (dZ row n k)),.fz (.str n),.fz (.int k),.fz (.int (row n).key),.fz (aJ (row n).above),.fz (.bool (row n).mark),.fz (.tuple ((row n).below.map .str))]=o) :
  bM (jW (mOp cR (ai 1) (ai 2)) (mgU 4 (aT (mgN 4) (aT (mgN 5) (aT (mgN 6) (aT (mgN 7) ez)))))) (bM (iM 1 (fm (ah (ai 3) (ah (ai 5) (ah (ai 6) (ah (ai 7) aD))))) (ai 2)) u) [.io (TD aj),.io (HD keys row),.fz (.str n),.fz (.int k),.no,.no,.no,.no]=o:=by
 have kl:=h.kl
 refine aM (ρ1:=[.io (TD aj),.io (HD keys row),.fz (.str n),.fz (.int k),.fz (.int (row n).key),.fz (aJ (row n).above),.fz (.bool (row n).mark),.fz (.tuple ((row n).below.map .str))]) (kS (cS (.inr (.inr rfl)) hn (ao rfl)) rfl) ?_
 exact aM ((gT (i:=1) (r:=⟨k,(row n).above,(row n).mark,(row n).below⟩) (c7 (rs:=[(.int k,.fz),(aJ (row n).above,.fz),(.bool (row n).mark,.fz),(.tuple ((row n).below.map .str),.fz)]) (au (ak (ao rfl)) (au (ak (ao rfl)) (au (ak (ao rfl)) (au (ak (ao rfl)) aI)))) rfl (by simp)) (ao rfl) rfl (.inr rfl) (by omega)).trans (by rw [fG hn]; rfl)) ho
def Keeps (row:Str->aL.Row) (n:Str) (k:Int):Prop:=∀ a,(row n).above=some a->aZ k n (row a).key a=false
theorem vY (h:Bt K c aj keys row) (hn:n∈keys) {a:Str} (ha:(row n).above=some a) {ρ:Rho} (h1 : ρ[1]?=some (.io (HD keys (dZ row n k)))) (h2 : ρ[2]?=some (.fz (.str n))) (h5 : ρ[5]?=some (.fz (.str a))):aF (bJ cu (ah (ai 1) (ah (ai 2) (ah (ai 5) aD)))) ρ=some (aZ k n (row a).key a,ρ):=by
 have e:=sq keys (dZ row n k) n a hn (h.ab n hn a ha)
 rw [uj,uk k (h.neA hn ha)] at e
 obtain ⟨kd,ec⟩:=zc (i:=1) (m:=ah (ai 2) (ah (ai 5) aD)) (rs:=[(.str n,.fz),(.str a,.fz)]) (.inr (.inr h1)) (au (ak (ao h2)) (au (ak (ao h5)) aI))
 exact (iJ ec e).t
theorem As (h:Bt K c aj keys row) (hc:c≤200) (hn:n∈keys) (hk:Keeps row n k):fW [TD aj,HD keys row,.str n,.int k]=some ((.list [],true),TD aj,HD keys (dZ row n k)):=by
 refine qp (o:=.rt (.list [],.new) [.io (TD aj),.io (HD keys (dZ row n k)),.fz (.str n),.fz (.int k),.fz (.int (row n).key),.fz (aJ (row n).above),.fz (.bool (row n).mark),.fz (.tuple ((row n).below.map .str))]) rfl (sD h hc hn ?_) rfl rfl
 refine aM (i5 ?_ rfl) (cD (eC (rs:=[]) rfl rfl (by simp)))
 have t1:aF (mOp ic (ai 5) (mC .none)) [.io (TD aj),.io (HD keys (dZ row n k)),.fz (.str n),.fz (.int k),.fz (.int (row n).key),.fz (aJ (row n).above),.fz (.bool (row n).mark),.fz (.tuple ((row n).below.map .str))]=some ((row n).above.isSome,[.io (TD aj),.io (HD keys (dZ row n k)),.fz (.str n),.fz (.int k),.fz (.int (row n).key),.fz (aJ (row n).above),.fz (.bool (row n).mark),.fz (.tuple ((row n).below.map .str))]):=test_ev (k:=.fz) (bH (r:=(.none,.fz)) (res:=(.bool (row n).above.isSome,false)) (ak (ao rfl)) (ak rfl) (fk _))
 cases ea:(row n).above with
 | none=>rw [ea] at t1; exact Bv t1
 | some a =>
  rw [ea] at t1
  refine rT t1 ?_
  rw [← hk a ea]
  exact vY h hn ea rfl rfl rfl
theorem CU (h:Bt K c aj keys row) (hc:c≤200) (hn:n∈keys) {a L:Str} {C:List Str} (ha:(row n).above=some a) (hk:aZ k n (row a).key a=true) (hch:Ch (dZ row n k) n C L) (hl:C.length≤200):fW [TD aj,HD keys row,.str n,.int k]=some ((.list (C.map stp),true),TD (aj++C),HD keys (cuts C (dZ row n k))):=by
 refine qp (o:=.rt (.list (C.map stp),.new) [.io (TD (aj++C)),.io (HD keys (cuts C (dZ row n k))),.fz (.str n),.fz (.int k),.fz (.int (row n).key),.fz (aJ (row n).above),.fz (.bool (row n).mark),.fz (.tuple ((row n).below.map .str))]) rfl (sD h hc hn ?_) rfl rfl
 have tt:lC (aF (mOp ic (ai 5) (mC .none))) (aF (bJ cu (ah (ai 1) (ah (ai 2) (ah (ai 5) aD))))) [.io (TD aj),.io (HD keys (dZ row n k)),.fz (.str n),.fz (.int k),.fz (.int (row n).key),.fz (aJ (row n).above),.fz (.bool (row n).mark),.fz (.tuple ((row n).below.map .str))]=some (true,[.io (TD aj),.io (HD keys (dZ row n k)),.fz (.str n),.fz (.int k),.fz (.int (row n).key),.fz (aJ (row n).above),.fz (.bool (row n).mark),.fz (.tuple ((row n).below.map .str))]):=by
  refine rT (test_ev (k:=.fz) (bH (r:=(.none,.fz)) (res:=(.bool true,false)) (ak (ao rfl)) (ak rfl) (by rw [fk,ha]; rfl))) ?_
  rw [← hk]
  exact vY h hn ha rfl rfl (by rw [ha]; rfl)
 exact mX (pI tt (cD (qo (r:=(.list (C.map stp),.new)) (by decide) rfl rfl (au (ak (ao rfl)) aI) rfl rfl rfl (CD hc (h.less n k) hn hch hl).1 rfl)))
end
theorem ET (r:aL.Row) {a:PM} {ρ:Rho} (h:a ρ=some ((aW r,.fz),ρ)):mSl Ah a jA (gq (mC (.int 2))) ρ=some ((.tuple [.int r.key,aJ r.above],.fz),ρ):=by
 have e:Ah (aW r) none (some 2)=some (.tuple [.int r.key,aJ r.above],true):=by
  show cIf _ _ _=_
  exact b0 (show ¬ (HT.sIx 4 0 none=0∧HT.sIx 4 4 (some 2)=4) from by decide)
 unfold mSl
 rw [ak h,Option.bind_some]
 rw [show jA ρ=some (none,ρ) from rfl,Option.bind_some,show gq (mC (.int 2)) ρ=some (some 2,ρ) from rfl,Option.bind_some]
 dsimp only [mR,Option.bind_some]
 rw [e]; rfl
theorem HH {K:Str->Int} (h:Bt K c aj keys row) {n:Str} (hn:n∈keys) (cell:Int):∃ k,eL [HD keys row,.str n,.int cell]=some (.int k,false)∧k < (row n).key:=by
 have em:∀ {x y:Sl},IE (mOp cJ (ai 2) (mC (.int 5))) [.fz (HD keys row),.fz (.str n),.fz (.int cell),x,y] (cell % 5):=fun {x y}=>c8 (b4 rfl) bU (by decide)
 have ed:∀ {x y:Sl},IE (mOp i3 (ai 2) (mC (.int 5))) [.fz (HD keys row),.fz (.str n),.fz (.int cell),x,y] (cell / 5):=fun {x y}=>lF (b4 rfl) bU ⟨by decide,by decide⟩
 have hd:∀ (u:SM) (o:Out) (v:Int),u [.fz (HD keys row),.fz (.str n),.fz (.int cell),.fz (.int (row n).key),.fz (aJ (row n).above)]=some o->pz o=some (.int v,false)->fnM 3 2 (bM (jW (mSl Ah (mOp cR (ai 0) (ai 1)) jA (gq (mC (.int 2)))) (mgU 2 (aT (mgN 3) (aT (mgN 4) ez)))) u) [HD keys row,.str n,.int cell]=some (.int v,false):=fun u o v ho hr =>
  ej rfl (aM (kS (ET (row n) (cS (.inl rfl) hn (ao rfl))) rfl) ho) hr
 have m3:=Int.emod_nonneg (cell / 5) (by decide:(3:Int)≠0)
 have ti:aF (mOp gIs (ai 4) (mC .none)) [.fz (HD keys row),.fz (.str n),.fz (.int cell),.fz (.int (row n).key),.fz (aJ (row n).above)]=some ((row n).above.isNone,[.fz (HD keys row),.fz (.str n),.fz (.int cell),.fz (.int (row n).key),.fz (aJ (row n).above)]):=test_ev (k:=.fz) (bH (r:=(.none,.fz)) (res:=(.bool (row n).above.isNone,false)) (ak (ao rfl)) (ak rfl) (vS _))
 have first:∀ h:mOr (aF (mOp gEq (mOp cJ (ai 2) (mC (.int 5))) (mC (.int 0)))) (aF (mOp gIs (ai 4) (mC .none))) [.fz (HD keys row),.fz (.str n),.fz (.int cell),.fz (.int (row n).key),.fz (aJ (row n).above)]=some (true,[.fz (HD keys row),.fz (.str n),.fz (.int cell),.fz (.int (row n).key),.fz (aJ (row n).above)]),∃ k,eL [HD keys row,.str n,.int cell]=some (.int k,false)∧k < (row n).key:=fun h =>
  ⟨_,hd _ _ _ (mX (pI h (cD (i7 (i7 (b4 rfl) bU) (c8 ed bU (by decide)))))) rfl,by omega⟩
 by_cases h0:cell % 5=0
 ·exact first (G0 (tEq em bU h0))
 ·cases ea:(row n).above with
  | none=>exact first (j2 (tNe em bU h0) (by rw [ti,ea]; rfl))
  | some a =>
   have hk:=h.ab n hn a ea
   have t0:mOr (aF (mOp gEq (mOp cJ (ai 2) (mC (.int 5))) (mC (.int 0)))) (aF (mOp gIs (ai 4) (mC .none))) [.fz (HD keys row),.fz (.str n),.fz (.int cell),.fz (.int (row n).key),.fz (aJ (row n).above)]=some (false,[.fz (HD keys row),.fz (.str n),.fz (.int cell),.fz (.int (row n).key),.fz (aJ (row n).above)]):=j2 (tNe em bU h0) (by rw [ti,ea]; rfl)
   have ra:IE (mOp gIx (mOp cR (ai 0) (ai 4)) (mC (.int 0))) [.fz (HD keys row),.fz (.str n),.fz (.int cell),.fz (.int (row n).key),.fz (aJ (row n).above)] (row a).key:=fF (cS (.inl rfl) hk (by rw [ea]; exact ao rfl))
   by_cases h3:cell % 5 < 3
   ·refine ⟨_,hd _ _ _ (aM (i5 t0 rfl) (mX (pI (ig (Fv em bU) (decide_eq_true h3)) (cD (fe (rs:=[(.int ((row n).key - 1),.fz),(.int ((row a).key + cell / 5 % 3 - 1),.fz)]) (res:=(.int (min ((row n).key - 1) ((row a).key + cell / 5 % 3 - 1)),false)) (dX (i7 (b4 rfl) bU) (dX (i7 (i6 ra (c8 ed bU (by decide))) bU) aI)) (vh _ _)))))) rfl,by omega⟩
   ·have ep:IE (mOp uX (mC (.int 10)) (mC (.int 20))) [.fz (HD keys row),.fz (.str n),.fz (.int cell),.fz (.int (row n).key),.fz (aJ (row n).above)] ((10:Int) ^ (20:Int).toNat):=xo bU bU ⟨by decide,by decide,by decide⟩
    have mp:=Int.emod_nonneg (cell / 5) (by decide:((10:Int) ^ (20:Int).toNat)≠0)
    refine ⟨_,hd _ _ _ (aM (i5 t0 rfl) (aM (i5 (ig (Fv em bU) (decide_eq_false h3)) rfl) (cD (i7 (i7 (fe (rs:=[(.int (row n).key,.fz),(.int (row a).key,.fz)]) (res:=(.int (min (row n).key (row a).key),false)) (dX (b4 rfl) (dX ra aI)) (vh _ _)) bU) (c8 ed ep (by decide)))))) rfl,by omega⟩
section
variable {α β:Type}
theorem iS {m:MN α} {k : α->MN β} {s s':SS} {v : α} (h:m s=some (.ok v s')):bN m k s=k v s':=by unfold bN; rw [h]
theorem lr {m:MN α} {k : α->SN} {s s':SS} {v : α} (h:m s=some (.ok v s')):bS m k s=k v s':=by unfold bS; rw [h]
theorem a8 {a b:SN} {s s':SS} {o:Option jq} (h:a s=some (.nx s')) (h2:b s'=o):cN a b s=o:=by unfold cN; rw [h]; exact h2
theorem EU {a b:SN} {s s':SS} {r:SV} (h:a s=some (.rt r s')):cN a b s=some (.rt r s'):=by unfold cN; rw [h]
theorem CV {c:MN Bool} {a b:SN} {s s':SS} {o:Option jq} (h:c s=some (.ok true s')) (h2:a s'=o):jC c a b s=o:=by unfold jC; rw [lr h,if_pos rfl]; exact h2
theorem j1 {c:MN Bool} {a b:SN} {s s':SS} {o:Option jq} (h:c s=some (.ok false s')) (h2:b s'=o):jC c a b s=o:=by unfold jC; rw [lr h,if_neg Bool.false_ne_true]; exact h2
theorem eY {a:EN} {i:Nat} {s s':SS} {x:SV} (h:a s=some (.ok x s')) (hi:i < s'.t.length):gQ a (ngN i) s=some (.nx ⟨s'.S,s'.t.set i (some x)⟩):=by unfold gQ; rw [lr h]; unfold ngN; rw [if_pos hi]
theorem mz {a:EN} {s s':SS} {x:SV} (h:a s=some (.ok x s')):kh a s=some (.rt x s'):=by unfold kh; rw [lr h]
theorem mB {a:EN} {s s':SS} {x:SV} (h:a s=some (.ok x s')):nW a s=some (.nx s'):=by unfold nW; rw [lr h]
theorem a9 {i:Nat} {s:SS} {x:SV} (h:s.t[i]?=some (some x)):cU i s=some (.ok x s):=by unfold cU; rw [h]
theorem bR {a:EN} {m:MN (List SV)} {s s1 s2:SS} {x:SV} {xs:List SV} (h:a s=some (.ok x s1)) (h2:m s1=some (.ok xs s2)):bq a m s=some (.ok (x::xs) s2):=by unfold bq; rw [iS h,iS h2]
theorem qy {f:FN} {m:MN (List SV)} {s s1:SS} {xs:List SV} {r:SV} {S':List (Option Cl)} (h:m s=some (.ok xs s1)) (h2:f s1.S xs=some (.ok r S')):pQ f m s=some (.ok r ⟨S',s1.t⟩):=by unfold pQ; rw [iS h,h2]; rfl
theorem qz {d:D} {s:SS}:nLit d s=some (.ok (.pl d) s):=rfl
theorem iT {s:SS}:fg s=some (.ok [] s):=rfl
theorem HI {n k:Nat} {b:SN} {S:List (Option Cl)} {xs:List SV} {o:jq} {w:FR} (h0:xs.length=n) (h1:b ⟨S,xs.map some++List.replicate k none⟩=some o) (h2:retS S.length o=some w):fnS n k b S xs=some w:=by
 unfold fnS; rw [if_pos h0,h1]; exact h2
end
theorem Au {n:Nat} {S:List (Option Cl)} (h:yM n S=true) {c:Cl} (hc:some c∈S.take n):blC n c=true:=by
 unfold yM at h
 exact (List.all_eq_true.mp h) _ hc
theorem EV {n:Nat} {c:Option Cl} (h:∀ d,c=some d->blC n d=true):gcC n c=c:=by
 cases c with
 | none=>rfl
 | some d=>simp only [gcC,h d rfl,if_true]
theorem bG {α:Type} {S X:List α} {j:Nat} {c : α} (h:S[j]?=some c):(S++X)[j]?=some c:=by
 rw [List.getElem?_append_left (List.getElem?_eq_some_iff.mp h).1]; exact h
theorem EW {n:Nat} {x:Option SV} (h:∀ y,x=some y->blV n y=true):gcV n x=x:=by
 cases x with
 | none=>rfl
 | some y=>simp only [gcV,h y rfl,if_true]
def CW (n:Nat) (t:List (Option SV)):Bool:=t.all fun x=>match x with
 | some x=>blV n x
 | none=>true
theorem EX {n:Nat} {t:List (Option SV)} (h:CW n t=true) {x:SV} (hx:some x∈t):blV n x=true:=(List.all_eq_true.mp h) _ hx
theorem EY {n:Nat} {t:List (Option SV)} (h:CW n t=true):gcT n t=t:=by
 unfold gcT
 refine (List.map_congr_left fun c hc=>EW fun d e=>?_).trans (List.map_id _)
 subst e
 exact EX h hc
theorem di {S:List (Option Cl)} {j:Nat} {d:D} (h:S[j]?=some (some (.dat d))):rdV S (.lc j)=some d:=by simp only [rdV,h]
theorem Jw {S:List (Option Cl)} {d:D}:rdV S (.pl d)=some d:=by simp only [rdV]
theorem bX {s:SS} {k:Nat} {x:SV} {d:D} (h:s.t[k]?=some (some x)) (e:rdV s.S x=some d):(vw s)[k]?=some (.fz d):=by
 unfold vw
 rw [List.getElem?_map,h]
 simp only [Option.map_some,z4,e]
theorem dP {s:SS} {k:Nat} {d:D} (h:s.t[k]?=some (some (.pl d))):(vw s)[k]?=some (.fz d):=bX h Jw
theorem lu {m:PM} {s:SS} {d:D} {ρ:Rho} (h:m (vw s)=some ((d,.fz),ρ)) (hp:eI d=true):nO m s=some (.ok (.pl d) s):=by
 unfold nO; rw [h,Option.bind_some]; dsimp only; rw [if_pos hp]
theorem CY {m:PM} {s:SS} {i:Int} (h:IE m (vw s) i):nO m s=some (.ok (.pl (.int i)) s):=lu h rfl
theorem Jx {m:PM} {s:SS} {b:Bool} (h:BE m (vw s) b):nO m s=some (.ok (.pl (.bool b)) s):=lu h rfl
theorem jI {m:PM} {s:SS} {d:D} {ρ:Rho} (h:m (vw s)=some ((d,.new),ρ)) (hp:eJ d true=true):nO m s=some (.ok (.lc s.S.length) ⟨s.S++[some (.dat d)],s.t⟩):=by
 unfold nO; rw [h,Option.bind_some]; dsimp only; rw [if_pos hp]; rfl
theorem gD {m:Rho->Option (Bool × Rho)} {s:SS} {b:Bool} {ρ:Rho} (h:m (vw s)=some (b,ρ)):nTo m s=some (.ok b s):=by unfold nTo; rw [h]; rfl
theorem iw {a b:EN} {s s1 s2:SS} {x y:SV} {i:Int} (h1:a s=some (.ok x s1)) (h2:b s1=some (.ok (.pl (.int i)) s2)) (h3:ixV s2.S x i=some y):nIx a b s=some (.ok y s2):=by
 unfold nIx; rw [iS h1,iS h2]; simp only [h3,Option.map_some]
theorem Jy {s:SS}:D3 fg s=some (.ok (.lc s.S.length) ⟨s.S++[some (.dat (.list []))],s.t⟩):=by
 unfold D3
 rw [iS (show fg s=some (.ok [] s) from rfl),b0 (show ([]:List SV).length≤sizeLine from Nat.zero_le _)]
 rfl
theorem EZ {m:MN (List SV)} {s s1:SS} {xs:List SV} {ds:List D} (h:m s=some (.ok xs s1)) (h1:iL xs=some ds) (h2:xs.length≤100):mj m s=some (.ok (.pl (.tuple ds)) s1):=by
 unfold mj
 rw [iS h,b0 (rS (by omega))]
 simp only [mkT,h1]
theorem E6 {a:EN} {m:MN (List SV)} {s s1 s2:SS} {k:Nat} {ds:List D} {d:D} {ds0:List D} (h:a s=some (.ok (.lc k) s1)) (h0:s1.S[k]?=some (some (.dat (.list ds0)))) (h1:m s1=some (.ok [.pl d] s2)) (h2:s2.S[k]?=some (some (.dat (.list ds)))) (h3:ds.length≤100000):Ed a m s=some (.ok (.pl .none) ⟨s2.S.set k (some (.dat (.list (ds++[d])))),s2.t⟩):=by
 unfold Ed BS
 rw [iS h]
 simp only [sd,h0,if_true]
 rw [iS h1]
 simp only [Eb,h2,b0 (vf h3)]
theorem CZ {i:Nat} {x:SV} {s:SS} (h:i < s.t.length):ngN i x s=some (.nx ⟨s.S,s.t.set i (some x)⟩):=by unfold ngN; rw [if_pos h]
abbrev dt (d:D):Option Cl:=some (.dat d)
section
variable {α:Type}
theorem ap0 {S X:List α} {a : α}:(S++a::X)[S.length]?=some a:=by rw [List.getElem?_append_right (Nat.le_refl _),Nat.sub_self]; rfl
theorem apk {S X:List α} {a : α} {k:Nat} (h:X[k]?=some a):(S++X)[S.length + k]?=some a:=by rw [List.getElem?_append_right (Nat.le_add_right _ _),Nat.add_sub_cancel_left]; exact h
theorem E7 {S X:List α} {a b : α}:(S++a::X).set S.length b=S++b::X:=by
 rw [List.set_append_right _ _ (Nat.le_refl _),Nat.sub_self]; rfl
theorem jJ {S:List α} {i:Nat} {a : α} (h:S[i]?=some a):i < S.length:=(List.getElem?_eq_some_iff.mp h).1
end
theorem eM (r:aL.Row):eI (aW r)=true:=by
 unfold aW
 have:eI (aJ r.above)=true:=by cases r.above <;> rfl
 simp only [eI,bI,this,jv,Bool.and_true]
theorem mD (keys:List Str) (row:Str->aL.Row):eJ (HD keys row) true=true:=by
 show bI ((cg keys row).map (·.2))=true
 unfold cg
 rw [List.map_map]
 induction keys with
 | nil=>rfl
 | cons n l ih=>simp only [List.map_cons,bI,Function.comp,eM,Bool.true_and]; exact ih
theorem jK (l:List Str):eJ (TD l) true=true:=jv l
theorem C0 {S:List (Option Cl)} {kp:List Nat} {t:List (Option SV)} {n:Nat} (hn:S.length≤n) (ht:CW n t=true):gcE n kp ⟨S,t⟩=⟨S,t⟩:=by
 unfold gcE
 split
 ·rename_i h
  rw [Bool.and_eq_true] at h
  unfold gc
  dsimp only
  rw [EY ht]
  congr 1
  unfold gcS
  rw [List.take_of_length_le hn]
  refine (List.map_congr_left fun c hc=>EV fun d e=>?_).trans (List.map_id _)
  subst e
  exact Au h.1 (by rw [List.take_of_length_le hn]; exact hc)
 ·rfl
theorem sE {n:Nat} {kp:List Nat} {ok:SS->Prop} {g:SV->SN} {b:SN} {s:SS} (h0:ok s):jD n kp ok g b [] s=some (.nx s):=by unfold jD; rw [b0 h0]
theorem qA {n:Nat} {kp:List Nat} {ok:SS->Prop} {g:SV->SN} {b:SN} {d:SV} {ds:List SV} {s s1 s2 s3:SS} {o:Option jq} (h0:ok s) (h1:g d s=some (.nx s1)) (h2:b s1=some (.nx s2)) (h3:gcE n kp s2=s3) (h4:jD n kp ok g b ds s3=o):jD n kp ok g b (d::ds) s=o:=by
 unfold jD; rw [b0 h0,h1]; dsimp only; rw [h2]; dsimp only; rw [h3]; exact h4
theorem oY {d k v:EN} {s s1 s2 s3:SS} {j:Nat} {n:Str} {r:aL.Row} (hv:v s=some (.ok (.pl (aW r)) s1)) (hd:d s1=some (.ok (.lc j) s2)) (hk:k s2=some (.ok (.pl (.str n)) s3)) (hj:s3.S[j]?=some (dt (HD keys row))) (hl:keys.length≤1000):nZ d k v s=some (.nx ⟨s3.S.set j (dt (HD (Al keys n) (aQ row n r))),s3.t⟩):=by
 unfold nZ
 rw [lr hv,lr hd,lr hk]
 unfold Hr
 dsimp only [keyOf,Option.bind_some]
 rw [hj]
 dsimp only
 rw [b0 (by rw [mr]; omega),vP]
theorem vZ {kp:List Nat} {a:EN} {g:SV->SN} {b:SN} {s s1:SS} {k:Nat} {ds:List D} {o:Option jq} (h:a s=some (.ok (.lc k) s1)) (hk:s1.S[k]?=some (dt (.list ds))) (h2:jD s1.S.length kp (stays (.lc k) (ds.map .pl)) g b (ds.map .pl) s1=o):vp kp a g b s=o:=by
 unfold vp
 rw [lr h]
 simp only [qW,hk,Option.bind_some]
 exact h2
theorem mE {S:List (Option Cl)} {t:List (Option SV)} {k:Nat} {ds:List D} (h:S[k]?=some (dt (.list ds))):stays (.lc k) (ds.map .pl) ⟨S,t⟩:=by
 show qW S (.lc k)=_
 simp only [qW,h]
theorem fI {S:List (Option Cl)} {p q:Nat} (hp:S[p]?=some (dt (TD aj))) (hq:S[q]?=some (dt (HD keys row))):rdV S (.tp [.lc p,.lc q])=some (PD aj keys row):=by
 simp only [rdV,qV,hp,hq,Option.bind_some,Option.map_some]
theorem jL {m:MN (List SV)} {s s1:SS} {xs:List SV} (h:m s=some (.ok xs s1)) (h1:iL xs=none) (h2:xs.length≤100):mj m s=some (.ok (.tp xs) s1):=by
 unfold mj
 rw [iS h,b0 (rS (by omega))]
 simp only [mkT,h1]
def off (row:Str->aL.Row) (n a:Str):Str->aL.Row:=aQ (aQ row a ⟨(row a).key,(row a).above,(row a).mark,(row a).below.filter fun x=>!decide (x=n)⟩) n ⟨(row n).key,none,false,(row n).below⟩
theorem um {n a:Str} (ne:a≠n) (hm:(row a).mark=(row a).above.isSome):off row n a=dQ row n a:=by
 funext m
 unfold off dQ bo
 by_cases e1:m=n
 ·subst e1
  rw [aN,aG _ _ (fun z=>ne z.symm),aN]
 ·rw [aG _ _ e1]
  by_cases e2:m=a
  ·subst e2
   rw [aN,aN,aG _ _ e1,hm]
  ·rw [aG _ _ e2,aG _ _ e2,aG _ _ e1]
theorem C1 {n a:Str} (ne:a≠n) (hm:(row a).mark=false):dQ row n a=if (off row n a a).above.isSome=true then aQ (off row n a) a ⟨(off row n a a).key,(off row n a a).above,true,(off row n a a).below⟩ else off row n a:=by
 have e:off row n a a=⟨(row a).key,(row a).above,(row a).mark,(row a).below.filter fun x=>!decide (x=n)⟩:=by
  unfold off; rw [aG _ _ ne,aN]
 rw [e]
 dsimp only
 cases ea:(row a).above.isSome with
 | false =>
  rw [if_neg Bool.false_ne_true]
  exact (um ne (by rw [hm,ea])).symm
 | true =>
  rw [if_pos rfl]
  funext m
  by_cases e2:m=a
  ·subst e2
   unfold dQ bo
   rw [aN,aN,aG _ _ ne,ea]
  ·rw [aG _ _ e2]
   unfold dQ bo off
   rw [aG _ _ e2]
   by_cases e1:m=n
   ·subst e1; rw [aN,aN]
   ·rw [aG _ _ e1,aG _ _ e1,aG _ _ e2]
theorem zp {S:List (Option Cl)} {r:aL.Row} {a:Str} (h:r.above=some a):ixV S (.pl (aW r)) 1=some (.pl (.str a)):=by
 show some (SV.pl (aJ r.above))=_
 rw [h]; rfl
def offs:List Str->(Str->aL.Row)->Str->aL.Row
 | [],row=>row
 | n::C,row=>offs C (off row n ((row n).above.getD n))
theorem kW {C:List Str} {n a:Str} (ha:(row n).above=some a):offs (n::C) row=offs C (off row n a):=by
 show offs C (off row n ((row n).above.getD n))=_
 rw [ha]; rfl
theorem Av {K:Str->Int}:∀ (C aj:List Str) (row:Str->aL.Row) (n L:Str),Bt K c aj keys row->n∈keys->Ch row n C L->cuts C row=if (offs C row L).above.isSome=true then aQ (offs C row) L ⟨(offs C row L).key,(offs C row L).above,true,(offs C row L).below⟩ else offs C row:=by
 intro C
 induction C with
 | nil=>intro aj row n L _ _ hch; cases hch
 | cons x C ih =>
  intro aj row n L h hn hch
  cases hch with
  | one ha hm =>
   rw [g6 ha,kW ha]
   exact C1 (h.neA hn ha) hm
  | more ha hm hch =>
   rename_i a
   have hka:=h.ab x hn a ha
   rw [g6 ha,kW ha,um (h.neA hn ha) (by
    rw [hm]
    cases e:(row a).above with
    | none=>exact absurd e (h.mkd a hka hm)
    | some b=>rfl)]
   exact ih (aj++[x]) (dQ row x a) a L (h.cut hn ha) hka (Ch.cut h hn ha hch)
theorem Ch.above {n L:Str} {C:List Str} (h:Ch row n C L):∃ a,(row n).above=some a:=by cases h with | one e _=>exact ⟨_,e⟩ | more e _ _=>exact ⟨_,e⟩
theorem Ch.last {K:Str->Int} (h:Bt K c aj keys row):∀ {C:List Str} {n L:Str},Ch row n C L->n∈keys->∃ pre z,C=pre++[z]∧z∈keys∧(row z).above=some L
 | _,n,_,.one ha _,hn=>⟨[],n,rfl,hn,ha⟩
 | _,n,_,.more ha _ hc,hn=>by
  obtain ⟨pre,z,h1,h2,h3⟩:=Ch.last h hc (h.ab n hn _ ha)
  exact ⟨n::pre,z,by rw [h1]; rfl,h2,h3⟩
theorem C2 (hc:c≤200) {K:Str->Int} {Call:List Str} {B:List (Option Cl)} {pile nm last:SV} (h1:blV (B.length + 2) pile=true) (h2:blV (B.length + 2) nm=true) (h3:blV (B.length + 2) last=true):∀ (C aj:List Str) (row:Str->aL.Row) (n L:Str) (x y:Option SV),Bt K c aj keys row->n∈keys->Ch row n C L->CW (B.length + 2) [y]=true ->
  ∃ x' y',jD (B.length + 2) [0,1,2,3,4] (stays (.lc (B.length + 1)) ((Call.map PyData.str).map .pl)) (ngN 5) iO ((C.map PyData.str).map .pl) ⟨B++[dt (HD keys row),dt (TD Call)],[some pile,some nm,some (.lc B.length),some (.lc (B.length + 1)),some last,x,y]⟩=some (.nx ⟨B++[dt (HD keys (offs C row)),dt (TD Call)],[some pile,some nm,some (.lc B.length),some (.lc (B.length + 1)),some last,x',y']⟩):=by
 have step:∀ (aj:List Str) (row:Str->aL.Row) (n a:Str) (x y:Option SV) (ds:List SV) (o:Option jq),Bt K c aj keys row->n∈keys->(row n).above=some a->jD (B.length + 2) [0,1,2,3,4] (stays (.lc (B.length + 1)) ((Call.map PyData.str).map .pl)) (ngN 5) iO ds ⟨B++[dt (HD keys (off row n a)),dt (TD Call)],[some pile,some nm,some (.lc B.length),some (.lc (B.length + 1)),some last,some (.pl (.str n)),some (.pl (.str a))]⟩=o ->
   jD (B.length + 2) [0,1,2,3,4] (stays (.lc (B.length + 1)) ((Call.map PyData.str).map .pl)) (ngN 5) iO (.pl (.str n)::ds) ⟨B++[dt (HD keys row),dt (TD Call)],[some pile,some nm,some (.lc B.length),some (.lc (B.length + 1)),some last,x,y]⟩=o:=fun aj row n a x y ds o h hn ha ho=>by
  have hka:=h.ab n hn a ha
  have ne:=h.neA hn ha
  have kl:=h.kl
  have bl:=h.bl a hka
  refine qA (s1:=⟨B++[dt (HD keys row),dt (TD Call)],[some pile,some nm,some (.lc B.length),some (.lc (B.length + 1)),some last,some (.pl (.str n)),y]⟩) (s2:=⟨B++[dt (HD keys (off row n a)),dt (TD Call)],[some pile,some nm,some (.lc B.length),some (.lc (B.length + 1)),some last,some (.pl (.str n)),some (.pl (.str a))]⟩) (mE (apk (k:=1) rfl)) (CZ (by simp)) ?_ (C0 (by simp) (by simp [CW,h1,h2,h3,blV])) ho
  refine a8 (s':=⟨B++[dt (HD keys row),dt (TD Call)],[some pile,some nm,some (.lc B.length),some (.lc (B.length + 1)),some last,some (.pl (.str n)),some (.pl (.str a))]⟩) (eY (i:=6) (iw (lu (cS (.inl (bX rfl (di ap0))) hn (ao (dP rfl))) (eM _)) qz (zp ha)) (by simp)) ?_
  refine a8 (s':=⟨B++[dt (HD keys (aQ row a ⟨(row a).key,(row a).above,(row a).mark,(row a).below.filter fun x=>!decide (x=n)⟩)),dt (TD Call)],[some pile,some nm,some (.lc B.length),some (.lc (B.length + 1)),some last,some (.pl (.str n)),some (.pl (.str a))]⟩) ((oY (r:=⟨(row a).key,(row a).above,(row a).mark,(row a).below.filter fun x=>!decide (x=n)⟩) (lu (cz (rs:=[(aW (row a),.fz),(.str n,.fz)]) (au (ak (cS (.inl (bX rfl (di ap0))) hka (ao (dP rfl)))) (au (ak (ao (dP rfl))) aI)) (xS (fun b hb=>h.ok (bl.2 b hb)) (by omega) (h.ok hn)) (eM _)) (eM _)) (a9 rfl) (a9 rfl) ap0 (by omega)).trans (by rw [fG hka,E7])) ?_
  have:=cS (keys:=keys) (row:=aQ row a ⟨(row a).key,(row a).above,(row a).mark,(row a).below.filter fun x=>!decide (x=n)⟩) (n:=n) (i:=2) (b:=ai 5) (ρ:=vw ⟨B++[dt (HD keys (aQ row a ⟨(row a).key,(row a).above,(row a).mark,(row a).below.filter fun x=>!decide (x=n)⟩)),dt (TD Call)],[some pile,some nm,some (.lc B.length),some (.lc (B.length + 1)),some last,some (.pl (.str n)),some (.pl (.str a))]⟩) (.inl (bX rfl (di ap0))) hn (ao (dP rfl))
  rw [aG _ _ (fun z=>ne z.symm)] at this
  exact (oY (row:=aQ row a ⟨(row a).key,(row a).above,(row a).mark,(row a).below.filter fun x=>!decide (x=n)⟩) (r:=⟨(row n).key,none,false,(row n).below⟩) (lu (cz (rs:=[(aW (row n),.fz)]) (au (ak this) aI) (Ar (row n)) (eM _)) (eM _)) (a9 rfl) (a9 rfl) ap0 (by omega)).trans (by rw [fG hn,E7]; rfl)
 intro C
 induction C with
 | nil=>intro aj row n L x y _ _ hch; cases hch
 | cons z C ih =>
  intro aj row n L x y h hn hch hy
  cases hch with
  | one ha hm =>
   rw [kW ha]
   exact ⟨_,_,step aj row z _ x y [] _ h hn ha (sE (mE (apk (k:=1) rfl)))⟩
  | more ha hm hch =>
   rename_i a
   have hka:=h.ab z hn a ha
   have e:=um (row:=row) (h.neA hn ha) (by
    rw [hm]
    cases e:(row a).above with
    | none=>exact absurd e (h.mkd a hka hm)
    | some b=>rfl)
   obtain ⟨x',y',h4⟩:=ih (aj++[z]) (dQ row z a) a L (some (.pl (.str z))) (some (.pl (.str a))) (h.cut hn ha) hka (Ch.cut h hn ha hch) rfl
   refine ⟨x',y',?_⟩
   rw [← e] at h4
   rw [kW ha]
   exact step aj row z a x y _ _ h hn ha h4
theorem E8 (ds:List D) (d:D):gIx (.list (ds++[d])) (.int (-1))=some (d,false):=by
 show (L2.atI (ds++[d]) (-1)).map (fun d=>(d,false))=_
 rw [Mir.uJ]; simp
theorem Aw (C:List Str):eJ (.list (C.map stp)) true=true:=by
 show bI (C.map stp)=true
 induction C with
 | nil=>rfl
 | cons x C ih=>simp only [List.map_cons,bI,ih,Bool.and_true]; rfl
theorem Jz {α:Type} {S:List α} {a : α}:(S++[a]).length=S.length + 1:=by simp
theorem HJ {α:Type} {S:List α} {a b : α}:(S++[a,b]).length=S.length + 2:=by simp
theorem v3 {m:PM} {S:List (Option Cl)} {t:List (Option SV)} {d:D} {ρ:Rho} {X:List (Option Cl)} {k:Nat} (h:m (vw ⟨S++X,t⟩)=some ((d,.new),ρ)) (hp:eJ d true=true) (hk:X.length=k):nO m ⟨S++X,t⟩=some (.ok (.lc (S.length + k)) ⟨S++(X++[dt d]),t⟩):=by
 rw [jI h hp]
 dsimp only
 rw [List.length_append,hk,List.append_assoc]
theorem uo {n k:Nat} {b:SN} {S S':List (Option Cl)} {xs:List SV} {r:SV} {t':List (Option SV)} (h0:xs.length=n) (h1:b ⟨S,xs.map some++List.replicate k none⟩=some (.rt r ⟨S',t'⟩)) (h2:blV S.length r=false):fnS n k b S xs=some (.ok r S') :=
 HI h0 h1 (show (if blV S.length r=true then _ else _)=_ from if_neg (by rw [h2]; simp))
theorem xU (hc:c≤200) {K:Str->Int} (h:Bt K c aj keys row) {n L:Str} {C:List Str} (hn:n∈keys) (hch:Ch row n C L) (hl:C.length≤c) {S:List (Option Cl)} {p q:Nat} (hp:S[p]?=some (dt (TD aj))) (hq:S[q]?=some (dt (HD keys row))) :
  kR S [.tp [.lc p,.lc q],.pl (.str n)]=some (.ok (.tp [.tp [.lc (S.length + 2),.lc S.length],.lc (S.length + 3)]) (S++[dt (HD keys (cuts C row)),dt (TD C),dt (TD (aj++C)),dt (.list (C.map stp))])):=by
 have kl:=h.kl
 have tl:=h.tl
 obtain ⟨memC,JA⟩:=Ch.mem h hch hn
 obtain ⟨pre,z,rfl,hz,hza⟩:=Ch.last h hch hn
 have lp:=jJ hp
 have lq:=jJ hq
 have rp:∀ X:List (Option Cl),rdV (S++X) (.tp [.lc p,.lc q])=some (PD aj keys row):=fun X=>fI (bG hp) (bG hq)
 obtain ⟨x',y',lo⟩:=C2 (c:=c) (keys:=keys) hc (Call:=pre++[z]) (B:=S) (pile:=.tp [.lc p,.lc q]) (nm:=.pl (.str n)) (last:=.pl (.str L)) (by simp [blV,pN]; omega) rfl rfl (pre++[z]) aj row n L none none h hn hch rfl
 refine uo (t':=[some (.tp [.lc p,.lc q]),some (.pl (.str n)),some (.lc S.length),some (.lc (S.length + 1)),some (.pl (.str L)),x',y']) rfl ?_ (by simp [blV,pN])
 refine a8 (s':=⟨S++[dt (HD keys row)],[some (.tp [.lc p,.lc q]),some (.pl (.str n)),some (.lc S.length),none,none,none,none]⟩) (eY (i:=2) (s':=⟨S++[dt (HD keys row)],[some (.tp [.lc p,.lc q]),some (.pl (.str n)),none,none,none,none,none]⟩) (jI (fe (rs:=[(HD keys row,.fz)]) (res:=(HD keys row,true)) (au (ak (ll (bX rfl (fI hp hq)))) aI) rfl) (mD keys row)) (by simp)) ?_
 refine a8 (s':=⟨S++[dt (HD keys row),dt (TD (pre++[z]))],[some (.tp [.lc p,.lc q]),some (.pl (.str n)),some (.lc S.length),some (.lc (S.length + 1)),none,none,none]⟩) (eY (i:=3) (v3 (k:=1) (cz (rs:=[(HD keys row,.fz),(.str n,.fz)]) (au (ak (ao (bX rfl (di ap0)))) (au (ak (ao (dP rfl))) aI)) (CT h hn hch (by omega)) (jv _)) (jK _) rfl) (by simp)) ?_
 have ixz:mOp cR (ai 2) (mOp gIx (ai 3) (mUn zO (mC (.int 1)))) (vw ⟨S++[dt (HD keys row),dt (TD (pre++[z]))],[some (.tp [.lc p,.lc q]),some (.pl (.str n)),some (.lc S.length),some (.lc (S.length + 1)),none,none,none]⟩)=some ((aW (row z),.fz),vw ⟨S++[dt (HD keys row),dt (TD (pre++[z]))],[some (.tp [.lc p,.lc q]),some (.pl (.str n)),some (.lc S.length),some (.lc (S.length + 1)),none,none,none]⟩) :=
  cS (.inl (bX rfl (di ap0))) hz (bH (r:=(.int (-1),.fz)) (res:=(.str z,false)) (ak (ao (bX rfl (di (apk (k:=1) rfl))))) (ak (G3 bU)) (by show gIx (.list ((pre++[z]).map .str)) (.int (-1))=_; rw [List.map_append]; exact E8 _ _))
 refine a8 (s':=⟨S++[dt (HD keys row),dt (TD (pre++[z]))],[some (.tp [.lc p,.lc q]),some (.pl (.str n)),some (.lc S.length),some (.lc (S.length + 1)),some (.pl (.str L)),none,none]⟩) (eY (i:=4) (iw (lu ixz (eM _)) qz (zp hza)) (by simp)) ?_
 refine a8 (s':=⟨S++[dt (HD keys (offs (pre++[z]) row)),dt (TD (pre++[z]))],[some (.tp [.lc p,.lc q]),some (.pl (.str n)),some (.lc S.length),some (.lc (S.length + 1)),some (.pl (.str L)),x',y']⟩) (vZ (a9 rfl) (apk (k:=1) rfl) (by dsimp only; rw [HJ]; exact lo)) ?_
 have rL:mOp cR (ai 2) (ai 4) (vw ⟨S++[dt (HD keys (offs (pre++[z]) row)),dt (TD (pre++[z]))],[some (.tp [.lc p,.lc q]),some (.pl (.str n)),some (.lc S.length),some (.lc (S.length + 1)),some (.pl (.str L)),x',y']⟩)=some ((aW (offs (pre++[z]) row L),.fz),vw ⟨S++[dt (HD keys (offs (pre++[z]) row)),dt (TD (pre++[z]))],[some (.tp [.lc p,.lc q]),some (.pl (.str n)),some (.lc S.length),some (.lc (S.length + 1)),some (.pl (.str L)),x',y']⟩):=cS (.inl (bX rfl (di ap0))) JA (ao (dP rfl))
 have tI:nTo (aF (mOp ic (mOp gIx (mOp cR (ai 2) (ai 4)) (mC (.int 1))) (mC .none))) ⟨S++[dt (HD keys (offs (pre++[z]) row)),dt (TD (pre++[z]))],[some (.tp [.lc p,.lc q]),some (.pl (.str n)),some (.lc S.length),some (.lc (S.length + 1)),some (.pl (.str L)),x',y']⟩=some (.ok (offs (pre++[z]) row L).above.isSome ⟨S++[dt (HD keys (offs (pre++[z]) row)),dt (TD (pre++[z]))],[some (.tp [.lc p,.lc q]),some (.pl (.str n)),some (.lc S.length),some (.lc (S.length + 1)),some (.pl (.str L)),x',y']⟩):=gD (test_ev (k:=.fz) (bH (r:=(.none,.fz)) (res:=(.bool (offs (pre++[z]) row L).above.isSome,false)) (ak (d9 rL)) (ak rfl) (fk _)))
 have e:=Av (pre++[z]) aj row n L h hn hch
 refine a8 (s':=⟨S++[dt (HD keys (cuts (pre++[z]) row)),dt (TD (pre++[z]))],[some (.tp [.lc p,.lc q]),some (.pl (.str n)),some (.lc S.length),some (.lc (S.length + 1)),some (.pl (.str L)),x',y']⟩) ?_ ?_
 ·cases ei:(offs (pre++[z]) row L).above.isSome with
  | true =>
   rw [ei,if_pos rfl] at e
   rw [ei] at tI
   refine CV tI ((oY (r:=⟨(offs (pre++[z]) row L).key,(offs (pre++[z]) row L).above,true,(offs (pre++[z]) row L).below⟩) (lu (cz (rs:=[(aW (offs (pre++[z]) row L),.fz)]) (au (ak rL) aI) (ui _) (eM _)) (eM _)) (a9 rfl) (a9 rfl) ap0 (by omega)).trans ?_)
   rw [fG JA,E7,e]
  | false =>
   rw [ei,if_neg Bool.false_ne_true] at e
   rw [ei] at tI
   rw [e]
   exact j1 tI rfl
 refine mz (jL (xs:=[.tp [.lc (S.length + 2),.lc S.length],.lc (S.length + 3)]) (bR (s1:=⟨S++[dt (HD keys (cuts (pre++[z]) row)),dt (TD (pre++[z])),dt (TD (aj++(pre++[z])))],[some (.tp [.lc p,.lc q]),some (.pl (.str n)),some (.lc S.length),some (.lc (S.length + 1)),some (.pl (.str L)),x',y']⟩) (jL (xs:=[.lc (S.length + 2),.lc S.length]) (bR (v3 (k:=2) (bH (r:=(TD (pre++[z]),.fz)) (res:=(TD (aj++(pre++[z])),true)) (ak (vX (bX rfl (rp _)))) (ak (ao (bX rfl (di (apk (k:=1) rfl))))) ?_) (jK _) rfl) (bR (a9 rfl) iT)) rfl (by simp)) (bR (v3 (k:=3) (Bw (G1 (ak (ao (bX rfl (di (apk (k:=1) rfl)))))) (rW (f:=PyData.str) (g:=stp) _ fun x hx=>⟨[.fz (.str x)],ak (c7 (rs:=[(.str "cut",.fz),(.str x,.fz)]) rfl rfl (by simp))⟩) (by rw [List.length_map]; omega)) (Aw _) rfl) iT)) rfl (by simp))
 show eA (.list (aj.map .str)) (.list ((pre++[z]).map .str))=some (.list ((aj++(pre++[z])).map .str),true)
 rw [List.map_append (l₁:=aj)]
 exact rV _ _ (by simp only [List.length_map]; omega)
section
variable {K:Str->Int} {n:Str} {k:Int} {S:List (Option Cl)} {p q:Nat}
theorem sF (hc:c≤200) (h:Bt K c aj keys row) (hn:n∈keys) (hk:k < (row n).key) (hp:S[p]?=some (dt (TD aj))) (hq:S[q]?=some (dt (HD keys row))) {u:SN} {o:Option jq}
  (ho:u ⟨S++[dt (HD keys (dZ row n k))],[some (.tp [.lc p,.lc q]),some (.pl (.str n)),some (.pl (.int k)),some (.pl (aW (row n))),some (.lc S.length)]⟩=o) :
  cN (nW (nO (bJ fB (ah (ai 0) (ah (ai 1) aD))))) (cN (gQ (nO (mOp cR (mOp gIx (ai 0) (mC (.int 1))) (ai 1))) (ngN 3)) (cN (jC (nTo (aF (mOp gGe (ai 2) (mOp gIx (ai 3) (mC (.int 0)))))) xx il) (cN (gQ (nO (mCB lG (ah (mOp gIx (ai 0) (mC (.int 1))) aD))) (ngN 4)) (cN (nZ (cU 4) (cU 1) (mj (bq (cU 2) (bq (nIx (cU 3) (nLit (.int 1))) (bq (nIx (cU 3) (nLit (.int 2))) (bq (nIx (cU 3) (nLit (.int 3))) fg)))))) u)))) ⟨S,[some (.tp [.lc p,.lc q]),some (.pl (.str n)),some (.pl (.int k)),none,none]⟩=o:=by
 have kl:=h.kl
 have rp:=fI hp hq
 refine a8 (mB (lu (cz (rs:=[(PD aj keys row,.fz),(.str n,.fz)]) (au (ak (ao (bX rfl rp))) (au (ak (ao (dP rfl))) aI)) (EO hn) rfl) rfl)) ?_
 refine a8 (s':=⟨S,[some (.tp [.lc p,.lc q]),some (.pl (.str n)),some (.pl (.int k)),some (.pl (aW (row n))),none]⟩) (eY (i:=3) (lu (lH hn (ak (ll (bX rfl rp))) (ao (dP rfl))) (eM _)) (by simp)) ?_
 refine a8 (j1 (gD (ig (Fw (b4 (dP rfl)) (fF (ao (dP rfl)))) (decide_eq_false (by omega)))) rfl) ?_
 refine a8 (s':=⟨S++[dt (HD keys row)],[some (.tp [.lc p,.lc q]),some (.pl (.str n)),some (.pl (.int k)),some (.pl (aW (row n))),some (.lc S.length)]⟩) (eY (i:=4) (s':=⟨S++[dt (HD keys row)],[some (.tp [.lc p,.lc q]),some (.pl (.str n)),some (.pl (.int k)),some (.pl (aW (row n))),none]⟩) (jI (fe (rs:=[(HD keys row,.fz)]) (res:=(HD keys row,true)) (au (ak (ll (bX rfl rp))) aI) rfl) (mD keys row)) (by simp)) ?_
 exact a8 ((oY (r:=⟨k,(row n).above,(row n).mark,(row n).below⟩) (EZ (xs:=[.pl (.int k),.pl (aJ (row n).above),.pl (.bool (row n).mark),.pl (.tuple ((row n).below.map .str))]) (bR (a9 rfl) (bR (iw (a9 rfl) qz rfl) (bR (iw (a9 rfl) qz rfl) (bR (iw (a9 rfl) qz rfl) iT)))) rfl (by simp)) (a9 rfl) (a9 rfl) ap0 (by omega)).trans (by rw [fG hn,E7]; rfl)) ho
theorem zq (h:Bt K c aj keys row) (hn:n∈keys) {s:SS} (h1:(vw s)[1]?=some (.fz (.str n))) (h3:(vw s)[3]?=some (.fz (aW (row n)))) (h4:(vw s)[4]?=some (.fz (HD keys (dZ row n k)))) {b:Bool} (hb:∀ a,(row n).above=some a->aZ (row a).key a k n=b) (hb0:(row n).above=none->b=true):nTo (mOr (aF (mOp gIs (mOp gIx (ai 3) (mC (.int 1))) (mC .none))) (aF (mOp Et (bJ eW (ah (ai 4) (ah (ai 1) aD))) (bJ eW (ah (ai 4) (ah (mOp gIx (ai 3) (mC (.int 1))) aD)))))) s=some (.ok b s):=by
 refine gD (ρ:=vw s) ?_
 have t1:aF (mOp gIs (mOp gIx (ai 3) (mC (.int 1))) (mC .none)) (vw s)=some ((row n).above.isNone,vw s):=test_ev (k:=.fz) (bH (r:=(.none,.fz)) (res:=(.bool (row n).above.isNone,false)) (ak (d9 (ao h3))) (ak rfl) (vS _))
 cases ea:(row n).above with
 | none =>
  rw [ea] at t1
  rw [hb0 ea]
  exact G0 t1
 | some a =>
  rw [ea] at t1
  have hka:=h.ab n hn a ea
  refine j2 t1 ?_
  have s1:=om (row:=dZ row n k) hn
  have s2:=om (row:=dZ row n k) hka
  rw [uj] at s1
  rw [uk k (h.neA hn ea)] at s2
  rw [← hb a ea]
  have ab:mOp gIx (ai 3) (mC (.int 1)) (vw s)=some ((.str a,.fz),vw s):=by
   have:=d9 (ao h3)
   rw [ea] at this; exact this
  exact test_ev (k:=.fz) (bH (r:=(.tuple [.int (row a).key,.str a],.fz)) (res:=(.bool (aZ (row a).key a k n),false)) (ak (cz (rs:=[(HD keys (dZ row n k),.fz),(.str n,.fz)]) (au (ak (ao h4)) (au (ak (ao h1)) aI)) s1 rfl)) (ak (cz (rs:=[(HD keys (dZ row n k),.fz),(.str a,.fz)]) (au (ak (ao h4)) (au (ak ab) aI)) s2 rfl)) rfl)
theorem Ax (hc:c≤200) (h:Bt K c aj keys row) (hn:n∈keys) (hk:k < (row n).key) (hq0:Keeps row n k) (hp:S[p]?=some (dt (TD aj))) (hq:S[q]?=some (dt (HD keys row))) :
  fj S [.tp [.lc p,.lc q],.pl (.str n),.pl (.int k)]=some (.ok (.tp [.tp [.lc (S.length + 1),.lc S.length],.lc (S.length + 2)]) (S++[dt (HD keys (dZ row n k)),dt (TD aj),dt (.list [])])):=by
 refine uo (t':=[some (.tp [.lc p,.lc q]),some (.pl (.str n)),some (.pl (.int k)),some (.pl (aW (row n))),some (.lc S.length)]) rfl (sF hc h hn hk hp hq ?_) (by simp [blV,pN])
 have tl:=h.tl
 refine EU (CV (zq (k:=k) (b:=true) h hn (dP rfl) (dP rfl) (bX rfl (di ap0)) (fun a ha=>vQ (fun z=>h.neA hn ha z.symm) (hq0 a ha)) fun _=>rfl) ?_)
 refine mz (jL (xs:=[.tp [.lc (S.length + 1),.lc S.length],.lc (S.length + 2)]) (bR (s1:=⟨S++[dt (HD keys (dZ row n k)),dt (TD aj)],[some (.tp [.lc p,.lc q]),some (.pl (.str n)),some (.pl (.int k)),some (.pl (aW (row n))),some (.lc S.length)]⟩) (jL (xs:=[.lc (S.length + 1),.lc S.length]) (bR (v3 (k:=1) (fe (rs:=[(TD aj,.fz)]) (res:=(TD aj,true)) (au (ak (vX (bX rfl (fI (bG hp) (bG hq))))) aI) rfl) (jK _) rfl) (bR (a9 rfl) iT)) rfl (by simp)) (bR (s1:=⟨S++[dt (HD keys (dZ row n k)),dt (TD aj),dt (.list [])],[some (.tp [.lc p,.lc q]),some (.pl (.str n)),some (.pl (.int k)),some (.pl (aW (row n))),some (.lc S.length)]⟩) ?_ iT)) rfl (by simp))
 rw [Jy]
 dsimp only
 rw [HJ,List.append_assoc]
 rfl
theorem C3 (hc:c≤200) (h:Bt K c aj keys row) (hn:n∈keys) (hk:k < (row n).key) {a L:Str} {C:List Str} (ha:(row n).above=some a) (hlt:aZ k n (row a).key a=true) (hch:Ch (dZ row n k) n C L) (hl:C.length≤c) (hp:S[p]?=some (dt (TD aj))) (hq:S[q]?=some (dt (HD keys row))) :
  fj S [.tp [.lc p,.lc q],.pl (.str n),.pl (.int k)]=some (.ok (.tp [.tp [.lc (S.length + 3),.lc (S.length + 1)],.lc (S.length + 4)]) (S++[dt (HD keys (dZ row n k)),dt (HD keys (cuts C (dZ row n k))),dt (TD C),dt (TD (aj++C)),dt (.list (C.map stp))])):=by
 refine uo (t':=[some (.tp [.lc p,.lc q]),some (.pl (.str n)),some (.pl (.int k)),some (.pl (aW (row n))),some (.lc S.length)]) rfl (sF hc h hn hk hp hq ?_) (by simp [blV,pN])
 refine a8 (j1 (zq (k:=k) (b:=false) h hn (dP rfl) (dP rfl) (bX rfl (di ap0)) (fun a' ha'=>by
  rw [ha] at ha'; cases ha'
  cases e:aZ (row a).key a k n with
  | false=>rfl
  | true=>have:=mv hlt e; rw [qq] at this; cases this) fun z=>by rw [ha] at z; cases z) rfl) ?_
 have co:=xU hc (h.less n k) hn hch hl (S:=S++[dt (HD keys (dZ row n k))]) (p:=p) (q:=S.length) (bG hp) ap0
 rw [Jz,List.append_assoc] at co
 exact mz (qy (bR (jL (xs:=[.lc p,.lc S.length]) (bR (iw (a9 rfl) qz rfl) (bR (a9 rfl) iT)) rfl (by simp)) (bR (a9 rfl) iT)) co)
end
def mk (keys:List Str) (row:Str->aL.Row):Nat:=(keys.filter fun n=>(row n).mark).length
def b1 (b:Bool):Nat:=if b then 1 else 0
theorem oZ (y:Str) (l:List Str) (row:Str->aL.Row):mk (y::l) row=b1 (row y).mark + mk l row:=by
 unfold mk b1
 rw [List.filter_cons]
 cases (row y).mark with
 | true=>rw [if_pos rfl,if_pos rfl,List.length_cons,Nat.add_comm]
 | false=>rw [if_neg Bool.false_ne_true,if_neg Bool.false_ne_true,Nat.zero_add]
theorem FW {row:Str->aL.Row} {x:Str} {r:aL.Row}:∀ l:List Str,x ∉ l->mk l (aQ row x r)=mk l row
 | [],_=>rfl
 | y::l,h=>by
  rw [oZ,oZ,FW l (fun z=>h (List.mem_cons_of_mem _ z)),aG _ _ (fun z=>h (by rw [z]; exact List.mem_cons_self))]
theorem xV {row:Str->aL.Row} {x:Str} {r:aL.Row}:∀ l:List Str,l.Nodup->x∈l->mk l (aQ row x r) + b1 (row x).mark=mk l row + b1 r.mark
 | [],_,h=>by cases h
 | y::l,nd,h=>by
  rw [oZ,oZ]
  obtain ⟨n1,n2⟩:=List.nodup_cons.mp nd
  by_cases e:y=x
  ·subst e
   rw [aN,FW l n1]; omega
  ·have:=xV (row:=row) (r:=r) l n2 ((List.mem_cons.mp h).resolve_left fun z=>e z.symm)
   rw [aG _ _ e]; omega
theorem C4 {n a:Str} (nd:keys.Nodup) (hn:n∈keys) (ha:a∈keys) (ne:a≠n):mk keys (dQ row n a) + b1 (row n).mark + b1 (row a).mark=mk keys row + b1 (row a).above.isSome:=by
 have e1:=xV (row:=row) (x:=n) (r:=⟨(row n).key,none,false,(row n).below⟩) keys nd hn
 have e2:=xV (row:=bo row n) (x:=a) (r:=⟨(bo row n a).key,(bo row n a).above,(bo row n a).above.isSome,(bo row n a).below.filter fun x=>!decide (x=n)⟩) keys nd ha
 rw [nG ne] at e2
 dsimp only at e1 e2
 have e3:(bo row n a).above=(row a).above:=by rw [lI,if_neg ne]
 rw [e3] at e2
 have e4:mk keys (dQ row n a)=mk keys (aQ (bo row n) a ⟨(bo row n a).key,(row a).above,(row a).above.isSome,(bo row n a).below.filter fun x=>!decide (x=n)⟩):=by
  unfold dQ; rw [e3]
 have e5:mk keys (bo row n)=mk keys (aQ row n ⟨(row n).key,none,false,(row n).below⟩):=rfl
 rw [e4]
 have:b1 false=0:=rfl
 omega
theorem JB (b:Bool):b1 b≤1:=by unfold b1; split <;> omega
theorem E9 {K:Str->Int}:∀ (C aj:List Str) (row:Str->aL.Row) (n L:Str),Bt K c aj keys row->n∈keys->Ch row n C L->mk keys (cuts C row) + C.length + b1 (row n).mark≤mk keys row + 2:=by
 intro C
 induction C with
 | nil=>intro aj row n L _ _ hch; cases hch
 | cons x C ih =>
  intro aj row n L h hn hch
  cases hch with
  | one ha hm =>
   have e:=C4 (row:=row) h.nd hn (h.ab x hn _ ha) (h.neA hn ha)
   rw [g6 ha]
   have:=JB (row L).above.isSome
   rw [List.length_singleton]
   show mk keys (dQ row x L) + 1 + _≤_
   omega
  | more ha hm hch =>
   rename_i a
   have hka:=h.ab x hn a ha
   have ne:=h.neA hn ha
   have e:=C4 (row:=row) h.nd hn hka ne
   rw [g6 ha,List.length_cons]
   have i:=ih (aj++[x]) (dQ row x a) a L (h.cut hn ha) hka (Ch.cut h hn ha hch)
   have hs:(row a).above.isSome=true:=by
    cases e:(row a).above with
    | none=>exact absurd e (h.mkd a hka hm)
    | some b=>rfl
   have em:(dQ row x a a).mark=true:=by
    unfold dQ
    rw [aN]
    show (bo row x a).above.isSome=true
    rw [lI,if_neg ne]; exact hs
   rw [em] at i
   rw [hm,hs] at e
   have:b1 true=1:=rfl
   omega
theorem zr (n:Str) (k:Int):mk keys (dZ row n k)=mk keys row:=by
 unfold mk
 congr 2
 funext m
 rw [(iR n m k).2.1]
section
variable {K:Str->Int} {n:Str} {k:Int}
structure Res (K:Str->Int) (c:Nat) (aj keys:List Str) (row:Str->aL.Row) (n:Str) (k:Int) (S X:List (Option Cl)) (a b f0 f1 f2:Nat) (a6:List Str) (bu:Str->aL.Row) (C:List Str):Prop where
 run:fj S [.tp [.lc a,.lc b],.pl (.str n),.pl (.int k)]=some (.ok (.tp [.tp [.lc f0,.lc f1],.lc f2]) (S++X))
 g0:(S++X)[f0]?=some (dt (TD a6))
 g1:(S++X)[f1]?=some (dt (HD keys bu))
 g2:(S++X)[f2]?=some (dt (.list (C.map stp)))
 l0:S.length≤f0
 l1:S.length≤f1
 l2:S.length≤f2
 n01:f0≠f1
 n02:f0≠f2
 n12:f1≠f2
 law:fW [TD aj,HD keys row,.str n,.int k]=some ((.list (C.map stp),true),TD a6,HD keys bu)
 bt:Bt K c a6 keys bu
 cl:C.length≤c
 ck:∀ x∈C,x∈keys
 cr:C.length + (a6.length + 2 * mk keys bu)≤aj.length + 2 * mk keys row + 4
theorem HK (hc:c≤200) (h:Bt K c aj keys row) (hn:n∈keys) (hk:k < (row n).key) {S:List (Option Cl)} {a b:Nat} (ha:S[a]?=some (dt (TD aj))) (hb:S[b]?=some (dt (HD keys row))):∃ X f0 f1 f2 a6 bu C,Res K c aj keys row n k S X a b f0 f1 f2 a6 bu C:=by
 have keep:Keeps row n k->∃ X f0 f1 f2 a6 bu C,Res K c aj keys row n k S X a b f0 f1 f2 a6 bu C:=fun hq =>
  ⟨_,_,_,_,aj,dZ row n k,[],Ax hc h hn hk hq ha hb,apk (k:=1) rfl,ap0,apk (k:=2) rfl,by omega,by omega,by omega,by omega,by omega,by omega,As h hc hn hq,h.less n k,Nat.zero_le _,(fun x hx=>by cases hx),by rw [zr]; simp⟩
 cases ea:(row n).above with
 | none=>exact keep fun a e=>by rw [ea] at e; cases e
 | some a' =>
  cases el:aZ k n (row a').key a' with
  | false=>exact keep fun a e=>by rw [ea] at e; cases e; exact el
  | true =>
   have hl:=h.less n k
   obtain ⟨C,L,hch,hcl⟩:=FU hl hn (by rw [(iR n n k).1,ea]; simp)
   have e:=E9 C aj (dZ row n k) n L hl hn hch
   rw [zr] at e
   refine ⟨_,_,_,_,aj++C,cuts C (dZ row n k),C,C3 hc h hn hk ea el hch hcl ha hb,apk (k:=3) rfl,apk (k:=1) rfl,apk (k:=4) rfl,by omega,by omega,by omega,by omega,by omega,by omega,CU h hc hn ea el hch (by omega),(CD hc hl hn hch (by omega)).2,hcl,(Ch.mem hl hch hn).1,?_⟩
   rw [List.length_append]
   omega
theorem Bt.rok (h:Bt K c aj keys row):∀ n∈keys,rOk (row n):=fun n hn=>⟨fun a ha=>h.ok (h.ab n hn a ha),fun b hb=>h.ok ((h.bl n hn).2 b hb)⟩
theorem Bt.tok (h:Bt K c aj keys row):∀ t∈aj,PyData.strOk t=true:=fun t ht=>h.ok (h.tk t ht).1
end
theorem v9 {C:List Str} (h:∀ x∈C,PyData.strOk x=true):PyData.canLayAll0 (C.map stp)=true∧PyData.depthAll (C.map stp)≤2:=by
 induction C with
 | nil=>exact ⟨rfl,by simp [PyData.depthAll]⟩
 | cons x C ih =>
  obtain ⟨h1,h2⟩:=ih fun y hy=>h y (List.mem_cons_of_mem _ hy)
  have hx:=h x List.mem_cons_self
  refine ⟨?_,?_⟩
  ·simp only [List.map_cons,PyData.canLayAll0,h1,Bool.and_true]
   have:PyData.strOk "cut" = true:=by decide +kernel
   simp only [stp,PyData.canLay0,PyData.canLayAll0,hx,this,Bool.and_true]
  ·simp only [List.map_cons,stp,PyData.depthAll,PyData.depth]
   omega
theorem wa:∀ C:List Str,PyData.eqvAll (C.map stp) (C.map stp)=true
 | []=>rfl
 | x::C=>by
  simp only [List.map_cons,PyData.eqvAll,wa C,Bool.and_true]
  simp [stp,PyData.eqv,PyData.eqvAll]
theorem C5 {C:List Str} (h:∀ x∈C,PyData.strOk x=true):gNe (.list (C.map stp)) (.list (C.map stp))=some (.bool false,false):=by
 obtain ⟨h1,h2⟩:=v9 h
 have hs:SeqAt.shaped (.list (C.map stp))=true:=by
  unfold SeqAt.shaped
  rw [decide_eq_true (by simp only [PyData.depth]; omega),Bool.and_true]
  simp only [PyData.canLay0,h1]
 unfold gNe
 rw [if_pos ⟨hs,hs⟩]
 show some (PyData.bool (!PyData.eqvAll (C.map stp) (C.map stp)),false)=_
 rw [wa]; rfl
theorem C6 (b1 b2 b3:Bool):gNe (iu [b1,b2,b3,false,false,false]) (iu [b1,b2,b3,false,false,false])=some (.bool false,false):=by
 cases b1 <;> cases b2 <;> cases b3 <;> rfl
theorem qB {ρ:Rho} {m:Rho->Option (List RV × Rho)} {rs:List RV} (b1 b2 b3:Bool) (h1:m ρ=some (rs,ρ)) (h2:bL (rs.map (·.1))=some (iu [b1,b2,b3,false,false,false],true)):aF (mOp gNe (bJ bL m) (dn (ah (mC (.bool b1)) (ah (mC (.bool b2)) (ah (mC (.bool b3)) (ah (mC (.bool false)) (ah (mC (.bool false)) (ah (mC (.bool false)) aD)))))))) ρ=some (false,ρ) :=
 test_ev (k:=.fz) (bH (r:=(iu [b1,b2,b3,false,false,false],.fz)) (res:=(.bool false,false)) (ie (cz h1 h2 rfl)) (ie (eC (rs:=[(.bool b1,.fz),(.bool b2,.fz),(.bool b3,.fz),(.bool false,.fz),(.bool false,.fz),(.bool false,.fz)]) rfl rfl (by simp))) (C6 b1 b2 b3))
theorem Fb {a:EN} {s s1:SS} {k:Nat} {ds:List D} (h:a s=some (.ok (.lc k) s1)) (hk:s1.S[k]?=some (dt (.list ds))):Eu mV a s=some (.ok (.pl .none) ⟨s1.S.set k (dt (.list [])),s1.t⟩):=by
 unfold Eu
 rw [iS h]
 simp only [sd,hk,if_true,Hf,iL,Option.bind_some,mV,Option.map_some]
theorem C7 {a:EN} {s s1:SS} {k:Nat} {es:List (D × D)} (h:a s=some (.ok (.lc k) s1)) (hk:s1.S[k]?=some (dt (.dict es))):y8 a s=some (.ok (.pl .none) ⟨s1.S.set k (dt (.dict [])),s1.t⟩):=by
 unfold y8
 rw [iS h]
 simp only [hk]
theorem Ay {f:List D->Option ((D × Bool) × D × D)} {m:MN (List SV)} {s s1:SS} {i j:Nat} {ys:List SV} {ds sts:List D} {d0 e0 d1 e1:D} (h:m s=some (.ok (.lc i::.lc j::ys) s1)) (hij:i≠j) (h1:iL ys=some ds) (hi:s1.S[i]?=some (dt d0)) (hj:s1.S[j]?=some (dt e0)) (hf:f (d0::e0::ds)=some ((.list sts,true),d1,e1)):tS f m s=some (.ok (.lc s1.S.length) ⟨(s1.S.set i (dt d1)).set j (dt e1)++[dt (.list sts)],s1.t⟩):=by
 unfold tS
 rw [iS h]
 simp only [if_neg hij,h1,hi,hj,Option.bind_some,hf,IT,newD,List.length_set]
theorem bK {α:Type} {S:List α} {i x:Nat} {u : α} (h:x≠i):(S.set i u)[x]?=S[x]?:=List.getElem?_set_ne fun e=>h e.symm
abbrev fr (a b i j:Nat) (n:Str) (k:Int) (s5 s6 s7 s8:Option SV):List (Option SV):=[some (.tp [.lc a,.lc b]),some (.lc i),some (.lc j),some (.pl (.str n)),some (.pl (.int k)),s5,s6,s7,s8]
theorem wb (hc:c≤200) {K:Str->Int} {n:Str} {k:Int} (h:Bt K c aj keys row) (hn:n∈keys) (hk:k < (row n).key) {S:List (Option Cl)} {a b i j:Nat} (ha:S[a]?=some (dt (TD aj))) (hb:S[b]?=some (dt (HD keys row))) (hi:S[i]?=some (dt (TD aj))) (hj:S[j]?=some (dt (HD keys row))) (nai:a≠i) (nbj:b≠j) :
  ∃ S' f0 f1 a6 bu,fD S [.tp [.lc a,.lc b],.lc i,.lc j,.pl (.str n),.pl (.int k)]=some (.ok (.tp [.lc f0,.lc f1]) S')∧S'[f0]?=some (dt (TD a6))∧S'[f1]?=some (dt (HD keys bu))∧S'[i]?=some (dt (TD a6))∧S'[j]?=some (dt (HD keys bu))∧S.length≤f0∧S.length≤f1∧Bt K c a6 keys bu∧∀ (x:Nat) (d:Option Cl),x≠i->x≠j->x≠a->x≠b->S[x]?=some d->S'[x]?=some d:=by
 have kl:=h.kl
 have tl:=h.tl
 have la:=jJ ha
 have lb:=jJ hb
 have li:=jJ hi
 have lj:=jJ hj
 have naj:a≠j:=fun e=>by subst e; rw [ha] at hj; cases hj
 have nbi:b≠i:=fun e=>by subst e; rw [hb] at hi; cases hi
 have nij:i≠j:=fun e=>by subst e; rw [hi] at hj; cases hj
 have nab:a≠b:=fun e=>by subst e; rw [ha] at hb; cases hb
 have p20:(row n).key≤(row n).key + (10:Int) ^ (20:Int).toNat:=by
  have:(0:Int)≤(10:Int) ^ (20:Int).toNat:=by decide
  omega
 have rp:=fI ha hb
 obtain ⟨X,f0,f1,f2,a6,bu,C,R⟩:=HK hc h hn hk (S:=S++[dt (TD aj),dt (HD keys row)]) (a:=a) (b:=b) (bG ha) (bG hb)
 have l0:=R.l0
 have l1:=R.l1
 have l2:=R.l2
 have ct:=R.cl
 rw [HJ] at l0 l1 l2
 have tl':=R.bt.tl
 obtain ⟨S2,hS2⟩:∃ S2,S2=S++[dt (TD aj),dt (HD keys row)]++X:=⟨_,rfl⟩
 have low:∀ {x:Nat} {d:Option Cl},S[x]?=some d->S2[x]?=some d:=fun {x d} e=>by rw [hS2]; exact bG (bG e)
 have run:=R.run
 have g0:=R.g0
 have g1:=R.g1
 have g2:=R.g2
 rw [← hS2] at run g0 g1 g2
 have k0:S2[S.length]?=some (dt (TD aj)):=by rw [hS2]; exact bG ap0
 have k1:S2[S.length + 1]?=some (dt (HD keys row)):=by rw [hS2]; exact bG (apk (k:=1) rfl)
 have ls2:S.length + 2≤S2.length:=by rw [hS2]; simp
 obtain ⟨S3,hS3⟩:∃ S3,S3=(S2.set i (dt (TD a6))).set j (dt (HD keys bu))++[dt (.list (C.map stp))]:=⟨_,rfl⟩
 have up:∀ {x:Nat} {d:Option Cl},x≠i->x≠j->S2[x]?=some d->S3[x]?=some d:=fun {x d} e1 e2 e=>by
  rw [hS3]; refine bG ?_; rw [bK e2,bK e1]; exact e
 have q_i:S3[i]?=some (dt (TD a6)):=by
  rw [hS3]; refine bG ?_; rw [bK nij]; exact List.getElem?_set_self (by omega)
 have q_j:S3[j]?=some (dt (HD keys bu)):=by
  rw [hS3]; refine bG ?_; exact List.getElem?_set_self (by rw [List.length_set]; omega)
 have q_a:=up nai naj (low ha)
 have q_b:=up nbi nbj (low hb)
 have q_0:=up (by omega) (by omega) k0
 have q_1:=up (by omega) (by omega) k1
 have HL:=up (by omega) (by omega) g0
 have HM:=up (by omega) (by omega) g1
 have Fc:=up (by omega) (by omega) g2
 have q_s:S3[S2.length]?=some (dt (.list (C.map stp))):=by
  rw [hS3]
  have:((S2.set i (dt (TD a6))).set j (dt (HD keys bu))).length=S2.length:=by rw [List.length_set,List.length_set]
  rw [← this]; exact ap0
 have rf:rdV S3 (.tp [.tp [.lc f0,.lc f1],.lc f2])=some (.tuple [PD a6 keys bu,.list (C.map stp)]):=by
  simp only [rdV,qV,HL,HM,Fc,Option.bind_some,Option.map_some]
 refine ⟨((S3.set f2 (dt (.list (C.map stp++[.str "x"])))).set a (dt (.list []))).set b (dt (.dict [])),f0,f1,a6,bu,?_,?_,?_,?_,?_,by omega,by omega,R.bt,fun x d e1 e2 e3 e4 e=>?_⟩
 ·refine uo (t':=fr a b i j n k (some (.tp [.lc S.length,.lc (S.length + 1)])) (some (.pl (.int ((aj.length:Int) + 2 * (mk keys row:Int))))) (some (.tp [.tp [.lc f0,.lc f1],.lc f2])) (some (.lc S2.length))) rfl ?_ (by simp [blV,pN]; omega)
  refine a8 (s':=⟨S++[dt (TD aj),dt (HD keys row)],fr a b i j n k (some (.tp [.lc S.length,.lc (S.length + 1)])) none none none⟩) (eY (i:=5) (s':=⟨S++[dt (TD aj),dt (HD keys row)],fr a b i j n k none none none none⟩) (jL (xs:=[.lc S.length,.lc (S.length + 1)]) (bR (s1:=⟨S++[dt (TD aj)],fr a b i j n k none none none none⟩) (jI (fe (rs:=[(TD aj,.fz)]) (res:=(TD aj,true)) (au (ak (ao (bX rfl (di hi)))) aI) rfl) (jK _)) (bR (v3 (k:=1) (fe (rs:=[(HD keys row,.fz)]) (res:=(HD keys row,true)) (au (ak (ao (bX rfl (di (bG hj))))) aI) rfl) (mD _ _) rfl) iT)) rfl (by simp)) (by simp)) ?_
  have rp2:rdV (S++[dt (TD aj),dt (HD keys row)]) (.tp [.lc a,.lc b])=some (PD aj keys row):=fI (bG ha) (bG hb)
  have rk:∀ {s6 s7 s8:Option SV},IE (mOp gIx (mOp cR (ai 2) (ai 3)) (mC (.int 0))) (vw ⟨S++[dt (TD aj),dt (HD keys row)],fr a b i j n k (some (.tp [.lc S.length,.lc (S.length + 1)])) s6 s7 s8⟩) (row n).key:=fun {s6 s7 s8}=>fF (cS (.inl (bX rfl (di (bG hj)))) hn (ao (dP rfl)))
  refine a8 (j1 (gD (qB true false true (rs:=[(PD aj keys row,.fz),(.str n,.fz),(.int (row n).key,.fz)]) (au (ak (ao (bX rfl rp2))) (au (ak (ao (dP rfl))) (dX rk aI))) (qw hn (Int.le_refl _)))) rfl) ?_
  refine a8 (j1 (gD (qB true false true (rs:=[(PD aj keys row,.fz),(.str n,.fz),(.int ((row n).key + (10:Int) ^ (20:Int).toNat),.fz)]) (au (ak (ao (bX rfl rp2))) (au (ak (ao (dP rfl))) (dX (i6 rk (xo bU bU ⟨by decide,by decide,by decide⟩)) aI))) (qw hn p20))) rfl) ?_
  refine a8 (s':=⟨S++[dt (TD aj),dt (HD keys row)],fr a b i j n k (some (.tp [.lc S.length,.lc (S.length + 1)])) (some (.pl (.int ((aj.length:Int) + 2 * (mk keys row:Int))))) none none⟩) (eY (i:=6) (CY (kL (rs:=[(PD aj keys row,.fz)]) (au (ak (ao (bX rfl rp2))) aI) (sC (by omega)))) (by simp)) ?_
  refine a8 (s':=⟨S2,fr a b i j n k (some (.tp [.lc S.length,.lc (S.length + 1)])) (some (.pl (.int ((aj.length:Int) + 2 * (mk keys row:Int))))) (some (.tp [.tp [.lc f0,.lc f1],.lc f2])) none⟩) (eY (i:=7) (qy (bR (a9 rfl) (bR (a9 rfl) (bR (a9 rfl) iT))) run) (by simp)) ?_
  refine a8 (s':=⟨S3,fr a b i j n k (some (.tp [.lc S.length,.lc (S.length + 1)])) (some (.pl (.int ((aj.length:Int) + 2 * (mk keys row:Int))))) (some (.tp [.tp [.lc f0,.lc f1],.lc f2])) (some (.lc S2.length))⟩) ((eY (i:=8) (Ay (bR (a9 rfl) (bR (a9 rfl) (bR (a9 rfl) (bR (a9 rfl) iT)))) nij rfl (low hi) (low hj) R.law) (by simp)).trans (by rw [hS3]; rfl)) ?_
  generalize hρ:(⟨S3,fr a b i j n k (some (.tp [.lc S.length,.lc (S.length + 1)])) (some (.pl (.int ((aj.length:Int) + 2 * (mk keys row:Int))))) (some (.tp [.tp [.lc f0,.lc f1],.lc f2])) (some (.lc S2.length))⟩:SS)=s
  have v0:(vw s)[0]?=some (.fz (PD aj keys row)):=by rw [← hρ]; exact bX rfl (fI q_a q_b)
  have v1:(vw s)[1]?=some (.fz (TD a6)):=by rw [← hρ]; exact bX rfl (di q_i)
  have v2:(vw s)[2]?=some (.fz (HD keys bu)):=by rw [← hρ]; exact bX rfl (di q_j)
  have v5:(vw s)[5]?=some (.fz (PD aj keys row)):=by rw [← hρ]; exact bX rfl (fI q_0 q_1)
  have v6:(vw s)[6]?=some (.fz (.int ((aj.length:Int) + 2 * (mk keys row:Int)))):=by rw [← hρ]; exact dP rfl
  have v7:(vw s)[7]?=some (.fz (.tuple [PD a6 keys bu,.list (C.map stp)])):=by rw [← hρ]; exact bX rfl rf
  have v8:(vw s)[8]?=some (.fz (.list (C.map stp))):=by rw [← hρ]; exact bX rfl (di q_s)
  have x0:mOp gIx (ai 7) (mC (.int 0)) (vw s)=some ((PD a6 keys bu,.fz),vw s):=bH (r:=(.int 0,.fz)) (res:=(PD a6 keys bu,false)) (ak (ao v7)) (ak rfl) rfl
  have x1:mOp gIx (ai 7) (mC (.int 1)) (vw s)=some ((.list (C.map stp),.fz),vw s):=bH (r:=(.int 1,.fz)) (res:=(.list (C.map stp),false)) (ak (ao v7)) (ak rfl) rfl
  have tA:mOr (gP (aF (kY "tuple" (ai 7)))) (mOr (aF (mOp gNe (mCB dH (ah (ai 7) aD)) (mC (.int 2)))) (mOr (gP (aF (kY "list" (mOp gIx (ai 7) (mC (.int 1)))))) (aF (mOp gNe (mOp gIx (ai 7) (mC (.int 1))) (ai 8))))) (vw s)=some (false,vw s) :=
   j2 (fR (test_ev (k:=.fz) (v:=true) (mY (ak (ao v7)) (eN _)))) (j2 (ig (rX (fe (rs:=[(.tuple [PD a6 keys bu,.list (C.map stp)],.fz)]) (res:=(.int 2,false)) (au (ak (ao v7)) aI) rfl) bU) rfl) (j2 (fR (test_ev (k:=.fz) (v:=true) (mY (ak x1) (k8 _)))) (test_ev (k:=.fz) (v:=false) (bH (r:=(.list (C.map stp),.fz)) (res:=(.bool false,false)) (ak x1) (ak (ao v8)) (C5 fun x hx=>h.ok (R.ck x hx))))))
  refine a8 (j1 (gD tA) rfl) ?_
  have pA:aF (bJ b6 (ah (mOp gIx (ai 7) (mC (.int 0))) (ah (ai 1) (ah (ai 2) aD)))) (vw s)=some (true,vw s):=(iJ (rs:=[(PD a6 keys bu,.fz),(TD a6,.fz),(HD keys bu,.fz)]) (au (ak x0) (au (ak (ao v1)) (au (ak (ao v2)) aI))) (oX R.bt.rok R.bt.tok)).t
  have pB:aF (bJ b6 (ah (ai 0) (ah (mOp gIx (ai 5) (mC (.int 0))) (ah (mOp gIx (ai 5) (mC (.int 1))) aD)))) (vw s)=some (true,vw s):=(iJ (rs:=[(PD aj keys row,.fz),(TD aj,.fz),(HD keys row,.fz)]) (au (ak (ao v0)) (au (ak (vX v5)) (au (ak (ll v5)) aI))) (oX h.rok h.tok)).t
  refine a8 (j1 (gD (j2 (fR pA) (fR pB))) rfl) ?_
  have cr:=R.cr
  have tC:aF (mOp gGt (mOp eA (mCB dH (ah (ai 8) aD)) (bJ dD (ah (mOp gIx (ai 7) (mC (.int 0))) aD))) (mOp eA (ai 6) (mC (.int 4)))) (vw s)=some (false,vw s) :=
   ig (pJ (i6 (fe (rs:=[(.list (C.map stp),.fz)]) (res:=(.int (C.length:Int),false)) (au (ak (ao v8)) aI) (by show some (PyData.int ((C.map stp).length:Int),false)=_; rw [List.length_map])) (kL (rs:=[(PD a6 keys bu,.fz)]) (au (ak x0) aI) (sC (by omega)))) (i6 (b4 v6) bU)) (decide_eq_false (by
    show ¬ ((aj.length:Int) + 2 * (mk keys row:Int) + 4 < (C.length:Int) + ((a6.length:Int) + 2 * (mk keys bu:Int)))
    omega))
  refine a8 (j1 (gD tC) rfl) ?_
  rw [← hρ]
  refine a8 (s':=⟨S3.set f2 (dt (.list (C.map stp++[.str "x"]))),fr a b i j n k (some (.tp [.lc S.length,.lc (S.length + 1)])) (some (.pl (.int ((aj.length:Int) + 2 * (mk keys row:Int))))) (some (.tp [.tp [.lc f0,.lc f1],.lc f2])) (some (.lc S2.length))⟩) (mB (E6 (iw (a9 rfl) qz rfl) Fc (bR qz iT) Fc (by rw [List.length_map]; omega))) ?_
  refine a8 (s':=⟨(S3.set f2 (dt (.list (C.map stp++[.str "x"])))).set a (dt (.list [])),fr a b i j n k (some (.tp [.lc S.length,.lc (S.length + 1)])) (some (.pl (.int ((aj.length:Int) + 2 * (mk keys row:Int))))) (some (.tp [.tp [.lc f0,.lc f1],.lc f2])) (some (.lc S2.length))⟩) (mB (Fb (ds:=aj.map .str) (iw (a9 rfl) qz rfl) (by dsimp only; rw [bK (by omega)]; exact q_a))) ?_
  refine a8 (s':=⟨((S3.set f2 (dt (.list (C.map stp++[.str "x"])))).set a (dt (.list []))).set b (dt (.dict [])),fr a b i j n k (some (.tp [.lc S.length,.lc (S.length + 1)])) (some (.pl (.int ((aj.length:Int) + 2 * (mk keys row:Int))))) (some (.tp [.tp [.lc f0,.lc f1],.lc f2])) (some (.lc S2.length))⟩) (mB (C7 (es:=cg keys row) (iw (a9 rfl) qz rfl) (by dsimp only; rw [bK (fun e=>nab e.symm),bK (by omega)]; exact q_b))) ?_
  have J4:(((S3.set f2 (dt (.list (C.map stp++[.str "x"])))).set a (dt (.list []))).set b (dt (.dict [])))[f0]?=some (dt (TD a6)):=by rw [bK (by omega),bK (by omega),bK R.n02]; exact HL
  have J5:(((S3.set f2 (dt (.list (C.map stp++[.str "x"])))).set a (dt (.list []))).set b (dt (.dict [])))[f1]?=some (dt (HD keys bu)):=by rw [bK (by omega),bK (by omega),bK R.n12]; exact HM
  have e_i:(((S3.set f2 (dt (.list (C.map stp++[.str "x"])))).set a (dt (.list []))).set b (dt (.dict [])))[i]?=some (dt (TD a6)):=by rw [bK (fun e=>nbi e.symm),bK (fun e=>nai e.symm),bK (by omega)]; exact q_i
  have e_j:(((S3.set f2 (dt (.list (C.map stp++[.str "x"])))).set a (dt (.list []))).set b (dt (.dict [])))[j]?=some (dt (HD keys bu)):=by rw [bK (fun e=>nbj e.symm),bK (fun e=>naj e.symm),bK (by omega)]; exact q_j
  have JC:(((S3.set f2 (dt (.list (C.map stp++[.str "x"])))).set a (dt (.list []))).set b (dt (.dict [])))[f2]?=some (dt (.list (C.map stp++[.str "x"]))):=by rw [bK (by omega),bK (by omega)]; exact List.getElem?_set_self (jJ Fc)
  have rf':rdV (((S3.set f2 (dt (.list (C.map stp++[.str "x"])))).set a (dt (.list []))).set b (dt (.dict []))) (.tp [.tp [.lc f0,.lc f1],.lc f2])=some (.tuple [PD a6 keys bu,.list (C.map stp++[.str "x"])]):=by
   simp only [rdV,qV,J4,J5,JC,Option.bind_some,Option.map_some]
  refine a8 (j1 (gD (fR (v:=true) ((iJ (rs:=[(PD a6 keys bu,.fz),(TD a6,.fz),(HD keys bu,.fz)]) (au (ak (bH (r:=(.int 0,.fz)) (res:=(PD a6 keys bu,false)) (ak (ao (bX rfl rf'))) (ak rfl) rfl)) (au (ak (ao (bX rfl (di e_i)))) (au (ak (ao (bX rfl (di e_j)))) aI))) (oX R.bt.rok R.bt.tok)).t))) rfl) ?_
  exact mz (iw (a9 rfl) qz rfl)
 ·rw [bK (by omega),bK (by omega),bK R.n02]; exact HL
 ·rw [bK (by omega),bK (by omega),bK R.n12]; exact HM
 ·rw [bK (fun e=>nbi e.symm),bK (fun e=>nai e.symm),bK (by omega)]; exact q_i
 ·rw [bK (fun e=>nbj e.symm),bK (fun e=>naj e.symm),bK (by omega)]; exact q_j
 ·have lx:=jJ e
  rw [bK e4,bK e3,bK (by omega)]; exact up e1 e2 (low e)
def wc:List Str:=["notthere","","P","abcdefghi","a b"]
theorem HN:∀ a,a < 26->∀ b,b < 26->(∀ o∈wc,letter a++letter b≠o)∧∀ c,c < 6->∀ o∈wc,letter a++letter b++sfx c≠o:=by decide +kernel
theorem C8 (i:Nat) {o:Str} (h:o∈wc):aH i≠o:=by
 have k:=HN (i / 52 % 26) (Nat.mod_lt _ (by omega)) (i / 2 % 26) (Nat.mod_lt _ (by omega))
 unfold aH
 split
 ·exact k.2 (i / 2 % 6) (Nat.mod_lt _ (by omega)) o h
 ·exact k.1 o h
theorem Fd {K:Str->Int} (h:Bt K c aj keys row) {o:Str} (ho:o∈wc):o ∉ keys:=fun z=>by
 obtain ⟨i,_,e⟩:=h.nm o z
 exact C8 i ho e.symm
theorem HP (cell:Int):∃ o∈wc,gIx (.list (wc.map .str)) (.int (cell % 5))=some (.str o,false):=by
 obtain ⟨m,em,hm⟩:=kT cell 5 (by omega)
 have em':cell % 5=(m:Int):=em
 rw [em']
 have hm':m < wc.length:=hm
 exact ⟨wc[m],List.getElem_mem hm',zg (List.getElem?_eq_getElem hm')⟩
theorem Fe {S:List (Option Cl)} {k m:Nat} {l:List Str} {n:Str} (h:S[k]?=some (dt (TD l))) (hn:l[m]?=some n):ixV S (.lc k) (m:Int)=some (.pl (.str n)):=by
 simp only [ixV,h]
 rw [Mir.oJ,List.getElem?_map,hn]; rfl
theorem FX (l:List Int):eJ (.list (l.map .int)) true=true:=by
 show bI (l.map .int)=true
 induction l with
 | nil=>rfl
 | cons x l ih=>simp only [List.map_cons,bI,eI,ih,Bool.and_true]
def Iv (K:Str->Int) (keys:List Str) (scr:D) (cs:List Int) (s:SS):Prop:=∃ S a b aj row x4 x5 x6 x7,s=⟨S,[some (.pl scr),some (.lc 1),some (.lc 2),some (.tp [.lc a,.lc b]),x4,x5,x6,x7]⟩∧S[1]?=some (dt (TD aj))∧S[2]?=some (dt (HD keys row))∧S[a]?=some (dt (TD aj))∧S[b]?=some (dt (HD keys row))∧a≠1∧b≠2∧a≠5∧S[5]?=some (dt (.list (cs.map .int)))∧Bt K 120 aj keys row
theorem mF {S:List (Option Cl)} {n x:Nat} {d:D} (hx:x < n) (h:S[x]?=some (dt d)):(gcS n S)[x]?=some (dt d):=by
 unfold gcS
 rw [List.getElem?_map,List.getElem?_take,if_pos hx,h]
 rfl
theorem JD {K:Str->Int} {scr:D} {cs:List Int} {s:SS} (h:Iv K keys scr cs s):Iv K keys scr cs (gcE 6 [0,1,2,3] s):=by
 unfold gcE
 split
 ·rename_i hc
  obtain ⟨S,a,b,aj,row,x4,x5,x6,x7,rfl,h1,h2,h3,h4,n1,n2,n5,h5,hB⟩:=h
  rw [Bool.and_eq_true] at hc
  have hl:blV 6 (.tp [.lc a,.lc b])=true:=by
   have:=(List.all_eq_true.mp hc.2) 3 (by simp)
   exact this
  have hab:a < 6∧b < 6:=by simpa [blV,pN] using hl
  refine ⟨gcS 6 S,a,b,aj,row,gcV 6 x4,gcV 6 x5,gcV 6 x6,gcV 6 x7,?_,mF (by omega) h1,mF (by omega) h2,mF hab.1 h3,mF hab.2 h4,n1,n2,n5,mF (by omega) h5,hB⟩
  show (⟨gcS 6 S,[gcV 6 (some (.pl scr)),gcV 6 (some (.lc 1)),gcV 6 (some (.lc 2)),gcV 6 (some (.tp [.lc a,.lc b])),gcV 6 x4,gcV 6 x5,gcV 6 x6,gcV 6 x7]⟩:SS)=_
  have e:gcV 6 (some (.tp [.lc a,.lc b]))=some (.tp [.lc a,.lc b]):=by simp only [gcV,hl,if_true]
  rw [e]
  rfl
 ·exact h
theorem Fg {K:Str->Int} {scr:D} {cs:List Int} {S:List (Option Cl)} {a b:Nat} {x5 x6 x7:Option SV} (cell:Int) (h1:S[1]?=some (dt (TD aj))) (h2:S[2]?=some (dt (HD keys row))) (h3:S[a]?=some (dt (TD aj))) (h4:S[b]?=some (dt (HD keys row))) (n1:a≠1) (n2:b≠2) (n5:a≠5) (h5:S[5]?=some (dt (.list (cs.map .int)))) (hB:Bt K 120 aj keys row) :
  ∃ s',ua ⟨S,[some (.pl scr),some (.lc 1),some (.lc 2),some (.tp [.lc a,.lc b]),some (.pl (.int cell)),x5,x6,x7]⟩=some (.nx s')∧Iv K keys scr cs s':=by
 have kl:=hB.kl
 obtain ⟨o,ho,eo⟩:=HP cell
 have hd:∀ (u:SN) (r:Option jq),u ⟨S++[dt (TD keys)],[some (.pl scr),some (.lc 1),some (.lc 2),some (.tp [.lc a,.lc b]),some (.pl (.int cell)),some (.pl (.str o)),some (.lc S.length),x7]⟩=r ->
   cN (gQ (nO (mOp gIx (dn (ah (mC (.str "notthere")) (ah (mC (.str "")) (ah (mC (.str "P")) (ah (mC (.str "abcdefghi")) (ah (mC (.str "a b")) aD)))))) (mOp cJ (ai 4) (mC (.int 5))))) (ngN 5)) (cN (jC (nTo (aF (mOp gNe (bJ bL (ah (ai 3) (ah (ai 5) (ah (mOp cJ (ai 4) (mC (.int 7))) aD)))) (dn (ah (mC (.bool true)) (ah (mC (.bool true)) (ah (mC (.bool false)) (ah (mC (.bool false)) (ah (mC (.bool false)) (ah (mC (.bool false)) aD)))))))))) (kh (nLit (.bool false))) il) (cN (gQ (nO (mCB nq (ah (ai 2) aD))) (ngN 6)) u)) ⟨S,[some (.pl scr),some (.lc 1),some (.lc 2),some (.tp [.lc a,.lc b]),some (.pl (.int cell)),x5,x6,x7]⟩=r:=fun u r hu=>by
  refine a8 (s':=⟨S,[some (.pl scr),some (.lc 1),some (.lc 2),some (.tp [.lc a,.lc b]),some (.pl (.int cell)),some (.pl (.str o)),x6,x7]⟩) (eY (i:=5) (lu (bH (r:=(.int (cell % 5),.fz)) (res:=(.str o,false)) (ie (eC (rs:=[(.str "notthere",.fz),(.str "",.fz),(.str "P",.fz),(.str "abcdefghi",.fz),(.str "a b",.fz)]) rfl rfl (by simp))) (ak (c8 (b4 (dP rfl)) bU (by decide))) eo) rfl) (by simp)) ?_
  refine a8 (j1 (gD (qB true true false (rs:=[(PD aj keys row,.fz),(.str o,.fz),(.int (cell % 7),.fz)]) (au (ak (ao (bX rfl (fI h3 h4)))) (au (ak (ao (dP rfl))) (dX (c8 (b4 (dP rfl)) bU (by decide)) aI))) (xR (Fd hB ho) _))) rfl) ?_
  exact a8 (eY (i:=6) (s':=⟨S++[dt (TD keys)],[some (.pl scr),some (.lc 1),some (.lc 2),some (.tp [.lc a,.lc b]),some (.pl (.int cell)),some (.pl (.str o)),x6,x7]⟩) (jI (vV (.inl (bX rfl (di h2)))) (jK _)) (by simp)) hu
 have tn:nTo (aF (mOp gNe (ai 6) (dn aD))) ⟨S++[dt (TD keys)],[some (.pl scr),some (.lc 1),some (.lc 2),some (.tp [.lc a,.lc b]),some (.pl (.int cell)),some (.pl (.str o)),some (.lc S.length),x7]⟩=some (.ok (!keys.isEmpty) ⟨S++[dt (TD keys)],[some (.pl scr),some (.lc 1),some (.lc 2),some (.tp [.lc a,.lc b]),some (.pl (.int cell)),some (.pl (.str o)),some (.lc S.length),x7]⟩):=gD (test_ev (k:=.fz) (bH (r:=(.list [],.fz)) (res:=(.bool (!keys.isEmpty),false)) (ak (ao (bX rfl (di ap0)))) (ie (eC (rs:=[]) rfl rfl (by simp))) (zk fun x hx=>hB.ok hx)))
 cases ek:keys.isEmpty with
 | true =>
  rw [ek] at tn
  exact ⟨_,hd _ _ (j1 tn rfl),S++[dt (TD keys)],a,b,aj,row,_,_,_,_,rfl,bG h1,bG h2,bG h3,bG h4,n1,n2,n5,bG h5,hB⟩
 | false =>
  rw [ek] at tn
  have kpos : 0 < keys.length:=by
   cases keys with
   | nil=>cases ek
   | cons x l=>simp
  obtain ⟨m,em,hm⟩:=kT (cell / 5) keys.length kpos
  obtain ⟨n,hn⟩:∃ n,keys[m]?=some n:=⟨_,List.getElem?_eq_getElem hm⟩
  have hnk:n∈keys:=List.mem_of_getElem? hn
  obtain ⟨k,ek2,hk⟩:=HH hB hnk cell
  obtain ⟨S',f0,f1,a6,bu,r1,r2,r3,r4,r5,r6,r7,r8,r9⟩:=wb (c:=120) (by omega) hB hnk hk (S:=S++[dt (TD keys)]) (a:=a) (b:=b) (i:=1) (j:=2) (bG h3) (bG h4) (bG h1) (bG h2) n1 n2
  have l5:=jJ h5
  have b5:b≠5:=fun e=>by rw [e,h5] at h4; cases h4
  rw [Jz] at r6 r7
  refine ⟨⟨S',[some (.pl scr),some (.lc 1),some (.lc 2),some (.tp [.lc f0,.lc f1]),some (.pl (.int cell)),some (.pl (.str o)),some (.lc S.length),some (.pl (.str n))]⟩,hd _ _ (CV tn ?_),S',f0,f1,a6,bu,_,_,_,_,rfl,r4,r5,r2,r3,by omega,by omega,by omega,r9 5 _ (by omega) (by omega) (fun e=>n5 e.symm) (fun e=>b5 e.symm) (bG h5),r8⟩
  refine a8 (s':=⟨S++[dt (TD keys)],[some (.pl scr),some (.lc 1),some (.lc 2),some (.tp [.lc a,.lc b]),some (.pl (.int cell)),some (.pl (.str o)),some (.lc S.length),some (.pl (.str n))]⟩) (eY (i:=7) (iw (a9 rfl) (CY ((c8 (lF (b4 (dP rfl)) bU ⟨by decide,by decide⟩) (oV (.inl (bX rfl (di ap0)))) (by omega)).is em)) (Fe ap0 hn)) (by simp)) ?_
  refine a8 (s':=⟨S',[some (.pl scr),some (.lc 1),some (.lc 2),some (.tp [.lc f0,.lc f1]),some (.pl (.int cell)),some (.pl (.str o)),some (.lc S.length),some (.pl (.str n))]⟩) (eY (i:=3) (qy (bR (a9 rfl) (bR (a9 rfl) (bR (a9 rfl) (bR (a9 rfl) (bR (CY (kL (rs:=[(HD keys row,.fz),(.str n,.fz),(.int cell,.fz)]) (au (ak (ao (bX rfl (di (bG h2))))) (au (ak (ao (dP rfl))) (au (ak (ao (dP rfl))) aI))) ek2)) iT))))) r1) (by simp)) ?_
  exact j1 (gD (test_ev (k:=.fz) (bH (r:=(.none,.fz)) (res:=(.bool false,false)) (ak (ao (bX rfl (fI r2 r3)))) (ak rfl) rfl))) rfl
theorem C9 {K:Str->Int} {scr:D} {cs:List Int}:∀ (l:List Int) (s:SS),Iv K keys scr cs s->∃ s',jD 6 [0,1,2,3] (stays (.lc 5) ((cs.map PyData.int).map .pl)) (ngN 4) ua ((l.map PyData.int).map .pl) s=some (.nx s')∧Iv K keys scr cs s':=by
 intro l
 induction l with
 | nil =>
  intro s h
  refine ⟨s,?_,h⟩
  obtain ⟨S,a,b,aj,row,x4,x5,x6,x7,rfl,h1,h2,h3,h4,n1,n2,n5,h5,hB⟩:=h
  exact sE (mE h5)
 | cons x l ih =>
  intro s h
  obtain ⟨S,a,b,aj,row,x4,x5,x6,x7,rfl,h1,h2,h3,h4,n1,n2,n5,h5,hB⟩:=h
  obtain ⟨s1,e1,i1⟩:=Fg (K:=K) (scr:=scr) (x5:=x5) (x6:=x6) (x7:=x7) x h1 h2 h3 h4 n1 n2 n5 h5 hB
  obtain ⟨s2,e2,i2⟩:=ih _ (JD i1)
  exact ⟨s2,qA (mE h5) (CZ (by simp)) e1 rfl e2,i2⟩
theorem De (ns:List Int) (hl:ns.length≤63) (hb:∀ k∈ns,Builtin.Int.intBits k≤1048576):FT [.list (ns.map .int)]=some (.bool true,false):=by
 obtain ⟨cs,e1,l1,_⟩:=qu ns 20 80
 obtain ⟨cs2,e2,l2,_⟩:∃ cs:List Int,cutD (ns.map .int) none (some (20:Int))=cs.map .int∧cs.length≤20∧True:=by
  obtain ⟨cs,e,h1,_⟩:=qu ns 0 20
  exact ⟨cs,e,h1,trivial⟩
 obtain ⟨aj,keys,row,eb,hB⟩:=CL cs (by omega)
 have i0:Iv (fun n=>(row n).key) keys (.list (ns.map .int)) cs2 ⟨[dt (.list (cs.map .int)),dt (TD aj),dt (HD keys row),dt (TD aj),dt (HD keys row),dt (.list (cs2.map .int))],[some (.pl (.list (ns.map .int))),some (.lc 1),some (.lc 2),some (.tp [.lc 3,.lc 4]),none,none,none,none]⟩ :=
  ⟨_,3,4,aj,row,none,none,none,none,rfl,rfl,rfl,rfl,rfl,by omega,by omega,by omega,rfl,hB⟩
 obtain ⟨s',lo,iv⟩:=C9 cs2 _ i0
 obtain ⟨S,a,b,a6,bu,x4,x5,x6,x7,rfl,h1,h2,h3,h4,n1,n2,n5,h5,hB'⟩:=iv
 have body:y9 ⟨[],[some (.pl (.list (ns.map .int))),none,none,none,none,none,none,none]⟩=some (.rt (.pl (.bool true)) ⟨S,[some (.pl (.list (ns.map .int))),some (.lc 1),some (.lc 2),some (.tp [.lc a,.lc b]),x4,x5,x6,x7]⟩):=by
  refine a8 (s':=⟨[dt (.list (cs.map .int)),dt (TD aj),dt (HD keys row)],[some (.pl (.list (ns.map .int))),some (.lc 1),some (.lc 2),none,none,none,none,none]⟩) ?_ ?_
  ·have en:nO (mSl gSl (ai 0) (gq (mC (.int 20))) (gq (mC (.int 80)))) ⟨[],[some (.pl (.list (ns.map .int))),none,none,none,none,none,none,none]⟩=some (.ok (.lc 0) ⟨[dt (.list (cs.map .int))],[some (.pl (.list (ns.map .int))),none,none,none,none,none,none,none]⟩):=jI (show mSl gSl (ai 0) (gq (mC (.int 20))) (gq (mC (.int 80))) _=some ((.list (cs.map .int),.new),_) from by rw [← e1]; rfl) (FX cs)
   unfold gQ
   rw [lr (v:=.tp [.lc 1,.lc 2]) (s':=⟨[dt (.list (cs.map .int)),dt (TD aj),dt (HD keys row)],[some (.pl (.list (ns.map .int))),none,none,none,none,none,none,none]⟩)]
   ·rfl
   ·unfold xB
    rw [iS (bR en iT)]
    simp only [qV,rdV,List.getElem?_cons_zero,Option.bind_some,Option.map_some,eb,jK,mD,Bool.and_true,if_true]
    rfl
  refine a8 (s':=⟨[dt (.list (cs.map .int)),dt (TD aj),dt (HD keys row),dt (TD aj),dt (HD keys row)],[some (.pl (.list (ns.map .int))),some (.lc 1),some (.lc 2),some (.tp [.lc 3,.lc 4]),none,none,none,none]⟩) (eY (i:=3) (s':=⟨[dt (.list (cs.map .int)),dt (TD aj),dt (HD keys row),dt (TD aj),dt (HD keys row)],[some (.pl (.list (ns.map .int))),some (.lc 1),some (.lc 2),none,none,none,none,none]⟩) (jL (xs:=[.lc 3,.lc 4]) (bR (jI (fe (rs:=[(TD aj,.fz)]) (res:=(TD aj,true)) (au (ak (ao (bX rfl (di rfl)))) aI) rfl) (jK _)) (bR (jI (fe (rs:=[(HD keys row,.fz)]) (res:=(HD keys row,true)) (au (ak (ao (bX rfl (di rfl)))) aI) rfl) (mD _ _)) iT)) rfl (by simp)) (by simp)) ?_
  refine a8 (vZ (k:=5) (ds:=cs2.map .int) (s1:=⟨[dt (.list (cs.map .int)),dt (TD aj),dt (HD keys row),dt (TD aj),dt (HD keys row),dt (.list (cs2.map .int))],[some (.pl (.list (ns.map .int))),some (.lc 1),some (.lc 2),some (.tp [.lc 3,.lc 4]),none,none,none,none]⟩) (jI (show mSl gSl (ai 0) jA (gq (mC (.int 20))) _=some ((.list (cs2.map .int),.new),_) from by rw [← e2]; rfl) (FX cs2)) rfl lo) ?_
  exact mz (Jx (iJ (rs:=[(PD a6 keys bu,.fz),(TD a6,.fz),(HD keys bu,.fz)]) (au (ak (ao (bX rfl (fI h3 h4)))) (au (ak (ao (bX rfl (di h1)))) (au (ak (ao (bX rfl (di h2)))) aI))) (oX hB'.rok hB'.tok)))
 show fnO 1 7 y9 [.list (ns.map .int)]=_
 unfold fnO
 rw [if_pos (show ([PyData.list (ns.map .int)]:List D).length=1 from rfl)]
 show (y9 ⟨[],[some (.pl (.list (ns.map .int))),none,none,none,none,none,none,none]⟩).bind IW=_
 rw [body]; rfl
end K75
set_option maxHeartbeats 4000000
def PySem.W.Fast.tw14937172088521852989:Nat:=0
def PySem.W.Fast.tw1219287786494078379:Nat:=0
def PySem.W.Fast.tw5969089670053775768:Nat:=0
def PySem.W.Fast.tw5153678473673205231:Nat:=0
def PySem.W.Fast.tw14593334488360948511:Nat:=0
def PySem.W.Fast.tw4153311405661647320:Nat:=0
def PySem.W.Fast.tw17283687389848566634:Nat:=0
def PySem.W.Fast.tw7678545076367296878:Nat:=0
def PySem.W.Fast.tw1750521777034909410:Nat:=0
def PySem.W.Fast.tw18079933701352669207:Nat:=0
namespace K75
open PySem L2 Mir
def top (i:Nat):Stmt:=PySem.Challenge.pw_creditworks_k75_keys_made_less.main.body.getD i (.Pass ⟨0,0,0,0⟩)
abbrev lK:Stmt:=top 24
theorem gw:bC ["_law_tops","_law_held","_law_start","_law_k","_law_j","_law_one","_law_other"] ["_law_tops","_law_held","_law_start"] (aK lK):=⟨rfl,rfl,rfl,by decide +kernel,rfl,by decide +kernel,by decide +kernel⟩
abbrev nH:Stmt:=top 22
theorem cb:bC ["_law_tops","_law_held","_law_name","_law_steps","_law_going","_law_key","_law_above","_law_mark","_law_below","_law_further","_law_marked"] ["_law_tops","_law_held","_law_name"] (aK nH):=⟨rfl,rfl,rfl,by decide +kernel,rfl,by decide +kernel,by decide +kernel⟩
abbrev jM:Stmt:=top 23
theorem rd:bC ["_law_held","_law_one","_law_other"] ["_law_held","_law_one","_law_other"] (aK jM):=⟨rfl,rfl,rfl,by decide +kernel,rfl,by decide +kernel,by decide +kernel⟩
abbrev lL:Stmt:=top 21
theorem cY:bC ["_law_tops","_law_held","_law_name","_law_on","_law_key","_law_above","_law_mark","_law_below"] ["_law_tops","_law_held","_law_name","_law_on"] (aK lL):=⟨rfl,rfl,rfl,by decide +kernel,rfl,by decide +kernel,by decide +kernel⟩
abbrev ja:Stmt:=top 19
theorem fJ:bC ["_law_k","_law_letters","_law_name"] ["_law_k"] (aK ja):=⟨rfl,rfl,rfl,by decide +kernel,rfl,by decide +kernel,by decide +kernel⟩
abbrev jN:Stmt:=top 20
theorem rg:bC ["_law_number"] ["_law_number"] (aK jN):=⟨rfl,rfl,rfl,by decide +kernel,rfl,by decide +kernel,by decide +kernel⟩
abbrev kz:Stmt:=top 25
theorem cK:bC ["_law_cells","_law_first","_law_tops","_law_held","_law_k","_law_cell","_law_number","_law_like_here","_law_names","_law_name"] ["_law_cells","_law_first"] (aK kz):=⟨rfl,rfl,rfl,by decide +kernel,rfl,by decide +kernel,by decide +kernel⟩
abbrev kA:Stmt:=top 26
theorem gW:bC ["_law_held","_law_many","_law_above","_law_mark","_law_key","_law_name","_law_below"] ["_law_held","_law_many","_law_above","_law_mark","_law_key"] (aK kA):=⟨rfl,rfl,rfl,by decide +kernel,rfl,by decide +kernel,by decide +kernel⟩
abbrev kB:Stmt:=top 27
theorem fK:bC ["_law_cells","_law_held","_law_tops","_law_cell","_law_name"] ["_law_cells"] (aK kB):=⟨rfl,rfl,rfl,by decide +kernel,rfl,by decide +kernel,by decide +kernel⟩
abbrev ix:Stmt:=top 28
theorem oD:bC ["_law_found","_law_due"] ["_law_found","_law_due"] (aK ix):=⟨rfl,rfl,rfl,by decide +kernel,rfl,by decide +kernel,by decide +kernel⟩
abbrev jb:Stmt:=top 29
theorem iy:bC ["_law_found","_law_tops","_law_held","_law_name","_law_entry"] ["_law_found","_law_tops","_law_held"] (aK jb):=⟨rfl,rfl,rfl,by decide +kernel,rfl,by decide +kernel,by decide +kernel⟩
abbrev gX:Stmt:=top 13
theorem jc:bC ["pile","name"] ["pile","name"] (aK gX):=⟨rfl,rfl,rfl,by decide +kernel,rfl,by decide +kernel,by decide +kernel⟩
abbrev iA:Stmt:=top 15
theorem eS:bC ["held","name","names","above"] ["held","name"] (aK iA):=⟨rfl,rfl,rfl,by decide +kernel,rfl,by decide +kernel,by decide +kernel⟩
abbrev nI:Stmt:=top 16
theorem xW:bC ["row","name"] ["row","name"] (aK nI):=⟨rfl,rfl,rfl,by decide +kernel,rfl,by decide +kernel,by decide +kernel⟩
abbrev qC:Stmt:=top 9
theorem Az:bC ["row"] ["row"] (aK qC):=⟨rfl,rfl,rfl,by decide +kernel,rfl,by decide +kernel,by decide +kernel⟩
abbrev kC:Stmt:=top 17
theorem uq:bC ["row"] ["row"] (aK kC):=⟨rfl,rfl,rfl,by decide +kernel,rfl,by decide +kernel,by decide +kernel⟩
abbrev nJ:Stmt:=top 14
theorem fZ:bC ["pile","name","held","names","last","cut","above"] ["pile","name"] (aK nJ):=⟨rfl,rfl,rfl,by decide +kernel,rfl,by decide +kernel,by decide +kernel⟩
abbrev lM:Stmt:=top 8
theorem wd:bC ["held","name"] ["held","name"] (aK lM):=⟨rfl,rfl,rfl,by decide +kernel,rfl,by decide +kernel,by decide +kernel⟩
abbrev iU:Stmt:=top 12
theorem ee:bC ["pile","name","key","row","held"] ["pile","name","key"] (aK iU):=⟨rfl,rfl,rfl,by decide +kernel,rfl,by decide +kernel,by decide +kernel⟩
abbrev jd:Stmt:=top 30
theorem d3:bC ["_law_pile","_law_name","_law_key","_law_told","e"] ["_law_pile","_law_name","_law_key"] (aK jd):=⟨rfl,rfl,rfl,by decide +kernel,rfl,by decide +kernel,by decide +kernel⟩
abbrev je:Stmt:=top 10
theorem kD:bC ["pile","marked"] ["pile"] (aK je):=⟨rfl,rfl,rfl,by decide +kernel,rfl,by decide +kernel,by decide +kernel⟩
abbrev lN:Stmt:=top 32
theorem gx:bC ["_law_tops","_law_held","_law_name","_law_key","_law_old","_law_above","_law_mark","_law_below"] ["_law_tops","_law_held","_law_name","_law_key"] (aK lN):=⟨rfl,rfl,rfl,by decide +kernel,rfl,by decide +kernel,by decide +kernel⟩
abbrev iB:Stmt:=top 33
theorem dC:bC ["_law_pile","_law_tops","_law_held","_law_name","_law_key","_law_kept","_law_ahead","_law_found","_law_steps"] ["_law_pile","_law_tops","_law_held","_law_name","_law_key"] (aK iB):=⟨rfl,rfl,rfl,by decide +kernel,rfl,by decide +kernel,by decide +kernel⟩
abbrev jf:Stmt:=top 31
theorem iC:bC ["_law_held","_law_name","_law_cell","_law_key","_law_above"] ["_law_held","_law_name","_law_cell"] (aK jf):=⟨rfl,rfl,rfl,by decide +kernel,rfl,by decide +kernel,by decide +kernel⟩
abbrev zt:Stmt:=top 34
theorem jO:bC ["_law_script","_law_tops","_law_held","_law_pile","_law_cell","_law_odd","_law_names","_law_name"] ["_law_script"] (aK zt):=⟨rfl,rfl,rfl,by decide +kernel,rfl,by decide +kernel,by decide +kernel⟩
structure CF (K:PySem.W.Frag) (mg:Str->Option Value) (ba bb b7 dw dy cQ:Addr):Prop where
 nK:PySem.W.excIn K ba [.type "ValueError",.type "Exception",.type "BaseException",.type "object"] "ValueError.__new__" = true
 f6:mg "Lacking" = some (.ref ba)
 nL:PySem.W.excIn K bb [.type "ValueError",.type "Exception",.type "BaseException",.type "object"] "ValueError.__new__" = true
 f7:mg "NotLess" = some (.ref bb)
 jg:mg "CreditError" = some (.ref b7)
 AA:uQ K bb
 ur:mg "Empty" = some (.ref dw)
 gE:PySem.W.kitOne K (.ref bb) (.ref dw)=some false
 uu:mg "Twice" = some (.ref dy)
 gF:PySem.W.kitOne K (.ref bb) (.ref dy)=some false
 qD:mg "NoName" = some (.ref cQ)
 f9:PySem.W.kitOne K (.ref bb) (.ref cQ)=some false
 fL:PySem.W.kitOne K (.ref bb) (.ref bb)=some true
 fM:PySem.W.kitOne K (.ref bb) (.ref ba)=some false
 d4:PySem.W.kitOne K (.ref bb) (.type "ValueError")=some true
 AB:uQ K ba
 gG:PySem.W.kitOne K (.ref ba) (.ref dw)=some false
 gH:PySem.W.kitOne K (.ref ba) (.ref dy)=some false
 gf:PySem.W.kitOne K (.ref ba) (.ref cQ)=some false
 fN:PySem.W.kitOne K (.ref ba) (.ref bb)=some false
 fO:PySem.W.kitOne K (.ref ba) (.ref ba)=some true
 d5:PySem.W.kitOne K (.ref ba) (.type "ValueError")=some true
 h_NotLess_CreditError:PySem.W.exmOne K (.ref bb) (.ref b7)=some true
 h_Lacking_CreditError:PySem.W.exmOne K (.ref ba) (.ref b7)=some true
local macro_rules | `(tactic| walk_at "l") => `(tactic| first | exact Or.inl rfl | exact Or.inr rfl)
section
variable {P:Program} {w:World} {K:PySem.W.Frag} {mg:Str->Option Value} {base:Heap}
def fP (mg:Str->Option Value):Prop:=∀ x∈(["ValueError","bool","dict","enumerate","isinstance","len","list","max","min","range","tuple"]:List Str),mg x=none
variable {ba bb b7 dw dy cQ:Addr}
theorem we (Z:fP mg) (T:Top K mg "_law_like" lK) :Def P w K mg base CX0 1 "_law_like" ["_law_tops","_law_held","_law_start"] (spM jG):=by
 have dj:mg "len" = none:=Z _ (by decide +kernel)
 have mG:mg "range" = none:=Z _ (by decide +kernel)
 refine T.def gw (fun vs H Q E h=>dr h) (fun _ _ _ _ _ _ us hl=>match us,hl with | [_,_,_],_=>rfl) fun f cdv A outer s H vs Q E hr h=>?_
 have hu:=hr.units
 exact ⟨_,(av (lB PassesOwn.never rfl (mL rfl mG (aa (aS (cy (K:=K) rfl) rfl dj PySem.boot_len (aa (pv 0) aw)) aw)) (aY (i:=3) gw.nd rfl (by walk_at "l"))
   (aE (lB PassesOwn.never rfl (mL rfl mG (aa (pv 3) aw)) (aY (i:=4) gw.nd rfl (by walk_at "l"))
   (av (bg (i:=5) gw.nd rfl (by walk_at "l") (aO (aB (K:=K) rfl) (pv 0) (aU cA (aU (dM (K:=K) rfl) (pv 2) (pv 3)) (aS (cy (K:=K) rfl) rfl dj PySem.boot_len (aa (pv 0) aw))) (fun _ _=>rfl)))
   (av (bg (i:=6) gw.nd rfl (by walk_at "l") (aO (aB (K:=K) rfl) (pv 0) (aU cA (aU (dM (K:=K) rfl) (pv 2) (pv 4)) (aS (cy (K:=K) rfl) rfl dj PySem.boot_len (aa (pv 0) aw))) (fun _ _=>rfl)))
   (aE (cO (bh (ke (K:=K) rfl hu) (aS (cy (K:=K) rfl) rfl dj PySem.boot_len (aa (aO (aB (K:=K) rfl) (bF (hv1 hu) (pv 1) (pv 5) (fun _ _=>rfl)) ax (fun _ _=>rfl)) aw)) (aS (cy (K:=K) rfl) rfl dj PySem.boot_len (aa (aO (aB (K:=K) rfl) (bF (hv1 hu) (pv 1) (pv 6) (fun _ _=>rfl)) ax (fun _ _=>rfl)) aw)) (bA _))
   (aE (a0 (dm (aa (pv 5) (aa (pv 6) aw)))))
   bD)))))))
   (aE (a0 (dm aw)))),
   eU (n:=3) (k:=4) (aR (sY (sW (af (cF iI (af ae aA)) aA)) bE
   (sY (sW (af ae aA)) bE
   (aR (bZ (ar bT ae (ar J_I (ar gM ae ae) (cF iI (af ae aA)))))
   (aR (bZ (ar bT ae (ar J_I (ar gM ae ae) (cF iI (af ae aA)))))
   (gL (aX (ar uY (cF iI (af (ar bT (ar cW ae ae) ay) aA)) (cF iI (af (ar bT (ar cW ae ae) ay) aA))))
   (cm (dh (af ae (af ae aA))))
   dg)))))
   (cm (dh aA))) rfl h⟩
theorem xX (Z:fP mg) (T:Top K mg "_law_cut" nH) :Def P w K mg base CX0 1 "_law_cut" ["_law_tops","_law_held","_law_name"] (spJ fh):=by
 have ef:mg "tuple" = none:=Z _ (by decide +kernel)
 refine T.def cb (fun vs H Q E h=>tD h) (fun _ _ _ _ _ _ us hl=>match us,hl with | [_,_,_],_=>rfl) fun f cdv A outer s H vs Q E hr h=>?_
 have hu:=hr.units
 exact ⟨_,(av (bg (i:=3) cb.nd rfl (by walk_at "l") (dm aw))
   (av (bg (i:=4) cb.nd rfl (by walk_at "l") (lU oI (aO (aB (K:=K) rfl) (bF (hv1 hu) (pv 1) (pv 2) (fun _ _=>rfl)) ax (fun _ _=>rfl)) dF (bA _)))
   (av (uF PassesOwn.never (dG (pv 4))
   (av (lA (bF (hv1 hu) (pv 1) (pv 2) (fun _ _=>rfl)) (gO rfl (bc (aY (i:=5) cb.nd rfl (by walk_at "l")) (bc (aY (i:=6) cb.nd rfl (by walk_at "l")) (bc (aY (i:=7) cb.nd rfl (by walk_at "l")) (bc (aY (i:=8) cb.nd rfl (by walk_at "l")) gN))))))
   (av (d8 (hv1 hu) (pv 1) (pv 2) (bY (aa (pv 5) (aa dF (aa cE (aa (pv 8) aw))))) rfl)
   (av (dJ (lE (K:=K) rfl PySem.F.plainAttrs_list PySem.F.slot_list_append PySem.F.type_list_append gY (pv 0) (aa (pv 2) aw)))
   (av (dJ (lE (K:=K) rfl PySem.F.plainAttrs_list PySem.F.slot_list_append PySem.F.type_list_append gY (pv 3) (aa (bY (aa dR (aa (pv 2) aw))) aw)))
   (av (lA (bF (hv1 hu) (pv 1) (pv 6) (fun _ _=>rfl)) (gO rfl (bc (aY (i:=5) cb.nd rfl (by walk_at "l")) (bc (aY (i:=9) cb.nd rfl (by walk_at "l")) (bc (aY (i:=10) cb.nd rfl (by walk_at "l")) (bc (aY (i:=8) cb.nd rfl (by walk_at "l")) gN))))))
   (av (bg (i:=8) cb.nd rfl (by walk_at "l") (cT (km (K:=K) rfl) rfl ef PyProof.Rows.boot_tuple (aa (A5 (fr:=[("_law_name",2)]) rfl ⟨rfl,rfl,rfl,rfl,rfl,rfl,by decide +kernel⟩ (yC (K:=K) rfl (pv 8)) (fun _ _ _ _=>(sS (bh (fw (K:=K) rfl hu) (pv 0) (pv 1) (bA _)))) (fun _ _ _ _=>(pv 0))) aw)))
   (av (d8 (hv1 hu) (pv 1) (pv 6) (bY (aa (pv 5) (aa (pv 9) (aa (lU oI (pv 9) dF (bA _)) (aa (pv 8) aw))))) rfl)
   (av (bg (i:=4) cb.nd rfl (by walk_at "l") (pv 10))
   (aE (bg (i:=2) cb.nd rfl (by walk_at "l") (pv 6))))))))))))
   (aE (a0 (pv 3)))))),
   tw (n:=3) (k:=8) (aR (bZ (dh aA))
   (aR (bZ (ar oM (ar bT (ar cW ae ae) ay) gA))
   (aR (uV (fQ ae)
   (aR (kK (ar cW ae ae) (iK (bz bE (bz bE (bz bE (bz bE iH))))))
   (aR (gR (i:=1) (cZ (af ae (af gA (af cP (af ae aA))))) ae)
   (aR (gh (mS kc (af ae aA)))
   (aR (gh (mS kc (af (cZ (af et (af ae aA))) aA)))
   (aR (kK (ar cW ae ae) (iK (bz bE (bz bE (bz bE (bz bE iH))))))
   (aR (bZ (cF tP (af (Bo (Bj ae) (aX (ar l7 ae ae)) ae) aA)))
   (aR (gR (i:=1) (cZ (af ae (af ae (af (ar oM ae gA) (af ae aA))))) ae)
   (aR (bZ ae)
   (bZ ae))))))))))
   (cm ae)))) rfl h⟩
theorem rh (Z:fP mg) (T:Top K mg "_law_before" jM) :Def P w K mg base CX0 1 "_law_before" ["_law_held","_law_one","_law_other"] (spM cu):=by
 refine T.def rd (fun vs H Q E h=>dr h) (fun _ _ _ _ _ _ us hl=>match us,hl with | [_,_,_],_=>rfl) fun f cdv A outer s H vs Q E hr h=>?_
 have hu:=hr.units
 exact ⟨_,(aE (a0 (lU (Hm (K:=K) rfl (Nat.lt_of_le_of_lt (Nat.le_add_right _ _) hu)) (bY (aa (aO (aB (K:=K) rfl) (bF (hv1 hu) (pv 0) (pv 1) (fun _ _=>rfl)) ax (fun _ _=>rfl)) (aa (pv 1) aw))) (bY (aa (aO (aB (K:=K) rfl) (bF (hv1 hu) (pv 0) (pv 2) (fun _ _=>rfl)) ax (fun _ _=>rfl)) (aa (pv 2) aw))) (bA _)))),
   eU (n:=3) (k:=0) (cm (ar Ji (cZ (af (ar bT (ar cW ae ae) ay) (af ae aA))) (cZ (af (ar bT (ar cW ae ae) ay) (af ae aA))))) rfl h⟩
theorem wg (Z:fP mg) (T:Top K mg "_law_hung" lL) :Def P w K mg base CX0 1 "_law_hung" ["_law_tops","_law_held","_law_name","_law_on"] (spJ fV):=by
 refine T.def cY (fun vs H Q E h=>tD h) (fun _ _ _ _ _ _ us hl=>match us,hl with | [_,_,_,_],_=>rfl) fun f cdv A outer s H vs Q E hr h=>?_
 have hu:=hr.units
 exact ⟨_,(av (lA (bF (hv1 hu) (pv 1) (pv 2) (fun _ _=>rfl)) (gO rfl (bc (aY (i:=4) cY.nd rfl (by walk_at "l")) (bc (aY (i:=5) cY.nd rfl (by walk_at "l")) (bc (aY (i:=6) cY.nd rfl (by walk_at "l")) (bc (aY (i:=7) cY.nd rfl (by walk_at "l")) gN))))))
   (av (d8 (hv1 hu) (pv 1) (pv 2) (bY (aa (pv 4) (aa (pv 3) (aa cE (aa (pv 7) aw))))) rfl)
   (av (lA (bF (hv1 hu) (pv 1) (pv 3) (fun _ _=>rfl)) (gO rfl (bc (aY (i:=4) cY.nd rfl (by walk_at "l")) (bc (aY (i:=5) cY.nd rfl (by walk_at "l")) (bc (aY (i:=6) cY.nd rfl (by walk_at "l")) (bc (aY (i:=7) cY.nd rfl (by walk_at "l")) gN))))))
   (av (d8 (hv1 hu) (pv 1) (pv 3) (bY (aa (pv 4) (aa (pv 5) (aa (pv 6) (aa (aU (Cv (K:=K) rfl) (pv 7) (bY (aa (pv 2) aw))) aw))))) rfl)
   (aE (dJ (lE (K:=K) rfl PySem.F.plainAttrs_list PySem.F.slot_list_remove PySem.F.type_list_remove Eo (pv 0) (aa (pv 2) aw)))))))),
   tw (n:=4) (k:=4) (aR (kK (ar cW ae ae) (iK (bz bE (bz bE (bz bE (bz bE iH))))))
   (aR (gR (i:=1) (cZ (af ae (af ae (af cP (af ae aA))))) ae)
   (aR (kK (ar cW ae ae) (iK (bz bE (bz bE (bz bE (bz bE iH))))))
   (aR (gR (i:=1) (cZ (af ae (af ae (af ae (af (ar Hu ae (cZ (af ae aA))) aA))))) ae)
   (gh (mS Ci (af ae aA))))))) rfl h⟩
theorem qE (Z:fP mg) (T:Top K mg "_law_name_by" ja) :Def P w K mg base CX0 1 "_law_name_by" ["_law_k"] (spM cw):=by
 refine T.def fJ (fun vs H Q E h=>dr h) (fun _ _ _ _ _ _ us hl=>match us,hl with | [_],_=>rfl) fun f cdv A outer s H vs Q E hr h=>?_
 have hu:=hr.units
 exact ⟨_,(av (bg (i:=1) fJ.nd rfl (by walk_at "l") dR)
   (av (bg (i:=2) fJ.nd rfl (by walk_at "l") (aU (dM (K:=K) rfl) (aO (aB (K:=K) rfl) (pv 1) (aU cA (aU d6 (pv 0) ax) ax) (fun _ _=>rfl)) (aO (aB (K:=K) rfl) (pv 1) (aU cA (aU d6 (pv 0) ax) ax) (fun _ _=>rfl))))
   (av (cO (bh (ke (K:=K) rfl hu) (aU cA (pv 0) ax) ax (bA _))
   (aE (bg (i:=2) fJ.nd rfl (by walk_at "l") (aU (dM (K:=K) rfl) (pv 2) (aO (aB (K:=K) rfl) (dm (aa dR (aa dR (aa dR (aa dR (aa dR (aa dR aw))))))) (aU cA (aU d6 (pv 0) ax) ax) (fun _ _=>rfl)))))
   bD)
   (aE (a0 (pv 2)))))),
   eU (n:=1) (k:=2) (aR (bZ et)
   (aR (bZ (ar gM (ar FI ae (ar J_I (ar J_I ae ay) ay)) (ar FI ae (ar J_I (ar J_I ae ay) ay))))
   (aR (gL (aX (ar uY (ar J_I ae ay) ay))
   (bZ (ar gM ae (ar bT (dh (af et (af et (af et (af et (af et (af et aA))))))) (ar J_I (ar J_I ae ay) ay))))
   dg)
   (cm ae)))) rfl h⟩
theorem ri (Z:fP mg) (T:Top K mg "_law_key_by" jN) :Def P w K mg base CX0 1 "_law_key_by" ["_law_number"] (spM cX):=by
 refine T.def rg (fun vs H Q E h=>dr h) (fun _ _ _ _ _ _ us hl=>match us,hl with | [_],_=>rfl) fun f cdv A outer s H vs Q E hr h=>?_
 have hu:=hr.units
 exact ⟨_,(av (cO (bh (ke (K:=K) rfl hu) (aU cA (pv 0) ax) ax (bA _))
   (aE (a0 (aU iY (aU cA (aU d6 (pv 0) ax) ax) ax)))
   bD)
   (av (cO (bh (ke (K:=K) rfl hu) (aU cA (pv 0) ax) ax (bA _))
   (aE (a0 (aU iY (aU cA (aU d6 (pv 0) ax) ax) ax)))
   bD)
   (aE (a0 (aU iY (aU cA (aU d6 (pv 0) ax) (aU (dM (K:=K) rfl) (aU yB ax (aU sJ ax ax)) ax)) (aU sJ ax ax)))))),
   eU (n:=1) (k:=0) (aR (gL (aX (ar uY (ar J_I ae ay) ay))
   (cm (ar qU (ar J_I (ar J_I ae ay) ay) ay))
   dg)
   (aR (gL (aX (ar uY (ar J_I ae ay) ay))
   (cm (ar qU (ar J_I (ar J_I ae ay) ay) ay))
   dg)
   (cm (ar qU (ar J_I (ar J_I ae ay) (ar gM (ar Fq ay (ar J_I ay ay)) ay)) (ar J_I ay ay))))) rfl h⟩
theorem rj (Z:fP mg) (T:Top K mg "_law_built" kz) (g7:Def P w K mg base CX0 1 "_law_cut" ["_law_tops","_law_held","_law_name"] (spJ fh)) (lO:Def P w K mg base CX0 1 "_law_hung" ["_law_tops","_law_held","_law_name","_law_on"] (spJ fV)) (eg:Def P w K mg base CX0 1 "_law_before" ["_law_held","_law_one","_law_other"] (spM cu)) (dz:Def P w K mg base CX0 1 "_law_key_by" ["_law_number"] (spM cX)) (b8:Def P w K mg base CX0 1 "_law_name_by" ["_law_k"] (spM cw)) (lP:Def P w K mg base CX0 1 "_law_like" ["_law_tops","_law_held","_law_start"] (spM jG)):Def P w K mg base CX0 2 "_law_built" ["_law_cells","_law_first"] (spD gu):=by
 have oq:mg "enumerate" = none:=Z _ (by decide +kernel)
 have dj:mg "len" = none:=Z _ (by decide +kernel)
 have gJ:mg "list" = none:=Z _ (by decide +kernel)
 refine T.def cK (fun vs H Q E h=>yL h) (fun _ _ _ _ _ _ us hl=>match us,hl with | [_,_],_=>rfl) fun f cdv A outer s H vs Q E hr h=>?_
 have hu:=hr.units
 exact ⟨_,(av (bg (i:=2) cK.nd rfl (by walk_at "l") (dm aw))
   (av (bg (i:=3) cK.nd rfl (by walk_at "l") vv)
   (av (lB PassesOwn.never rfl (Ep rfl oq (aa (pv 0) aw)) (gO rfl (bc (aY (i:=4) cK.nd rfl (by walk_at "l")) (bc (aY (i:=5) cK.nd rfl (by walk_at "l")) gN)))
   (av (bg (i:=6) cK.nd rfl (by walk_at "l") (aU d6 (pv 5) ax))
   (av (bg (i:=7) cK.nd rfl (by walk_at "l") (bB lP (hr.mono (by omega)) (aa (pv 2) (aa (pv 3) (aa (aU cA (pv 6) ax) aw)))))
   (av (bg (i:=8) cK.nd rfl (by walk_at "l") (cT (nY rfl) rfl gJ PyProof.Rows.boot_list (aa (pv 3) aw)))
   (aE (cO (PW.pt (wU (bh (ke (K:=K) rfl hu) (aU cA (pv 5) ax) ax (bA _)) (sI (bh yh (aS (cy (K:=K) rfl) rfl dj PySem.boot_len (aa (pv 8) aw)) ax (bA _)))))
   (aE (dJ (bB g7 (hr.mono (by omega)) (aa (pv 2) (aa (pv 3) (aa (aO (aB (K:=K) rfl) (pv 8) (aU cA (pv 6) (aS (cy (K:=K) rfl) rfl dj PySem.boot_len (aa (pv 8) aw))) (fun _ _=>rfl)) aw))))))
   (aE (cO (PW.pt (wU (bh yh (aU cA (pv 5) ax) ax (bA _)) (sI (bh (fw (K:=K) rfl hu) (pv 7) (dm aw) (bA _)))))
   (av (cO (dG (bB eg (hr.mono (by omega)) (aa (pv 3) (aa (aO (aB (K:=K) rfl) (pv 7) ax (fun _ _=>rfl)) (aa (aO (aB (K:=K) rfl) (pv 7) ax (fun _ _=>rfl)) aw)))))
   (aE (dJ (tf (K:=K) rfl PySem.F.plainAttrs_list PySem.F.slot_list_reverse PySem.F.type_list_reverse xc (pv 7))))
   bD)
   (aE (dJ (bB lO (hr.mono (by omega)) (aa (pv 2) (aa (pv 3) (aa (aO (aB (K:=K) rfl) (pv 7) ax (fun _ _=>rfl)) (aa (aO (aB (K:=K) rfl) (pv 7) ax (fun _ _=>rfl)) aw))))))))
   (av (bg (i:=9) cK.nd rfl (by walk_at "l") (bB b8 (hr.mono (by omega)) (aa (aU (dM (K:=K) rfl) (pv 1) (pv 4)) aw)))
   (av (d8 (hv1 hu) (pv 3) (pv 9) (bY (aa (bB dz (hr.mono (by omega)) (aa (pv 6) aw)) (aa dF (aa cE (aa (bY aw) aw))))) rfl)
   (aE (dJ (lE (K:=K) rfl PySem.F.plainAttrs_list PySem.F.slot_list_append PySem.F.type_list_append gY (pv 2) (aa (pv 9) aw))))))))))))))
   (aE (a0 (bY (aa (pv 2) (aa (pv 3) aw)))))))),
   yK (n:=2) (k:=8) (m5 (bZ (dh aA))
   (m5 (bZ yT)
   (m5 (sY (EB (af ae aA)) (iK (bz bE (bz bE iH)))
   (aR (bZ (ar J_I ae ay))
   (aR (bZ (bO (af ae (af ae (af (ar J_I ae ay) aA)))))
   (aR (bZ (cF yX (af ae aA)))
   (gL (xf (aX (ar uY (ar J_I ae ay) ay)) (aX (ar xh (cF iI (af ae aA)) ay)))
   (gh (pL (i:=2) (j:=3) (af (ar bT ae (ar J_I ae (cF iI (af ae aA)))) aA)))
   (gL (xf (aX (ar xh (ar J_I ae ay) ay)) (aX (ar l7 ae (dh aA))))
   (aR (gL (fQ (bO (af ae (af (ar bT ae ay) (af (ar bT ae ay) aA)))))
   (gh (DK zR))
   dg)
   (gh (pL (i:=2) (j:=3) (af (ar bT ae ay) (af (ar bT ae ay) aA)))))
   (aR (bZ (bO (af (ar gM ae ae) aA)))
   (aR (gR (i:=3) (cZ (af (bO (af ae aA)) (af gA (af cP (af (cZ aA) aA))))) ae)
   (gh (mS kc (af ae aA)))))))))))
   (BH (i:=2) (j:=3))))) rfl h⟩
theorem mH (Z:fP mg) (T:Top K mg "_law_grown" kA) (b8:Def P w K mg base CX0 1 "_law_name_by" ["_law_k"] (spM cw)):∀ n,Def P w K mg base CX0 (2 + n) "_law_grown" ["_law_held","_law_many","_law_above","_law_mark","_law_key"] (spI (dY n))
 | 0=>T.def gW (fun vs H Q E h=>by obtain ⟨_,_,_,_,_,_,_,_,_,_,_,_,_,e,_⟩:=h; cases e) (fun _ _ _ _ _ _ us hl=>match us,hl with | [_,_,_,_,_],_=>rfl) fun f cdv A outer s H vs Q E hr h=>by obtain ⟨_,_,_,_,_,_,_,_,_,_,_,_,_,e,_⟩:=h; cases e
 | n + 1=>by
  have gy:=mH Z T b8 n
  have ef:mg "tuple" = none:=Z _ (by decide +kernel)
  have mG:mg "range" = none:=Z _ (by decide +kernel)
  have FY:mg "max" = none:=Z _ (by decide +kernel)
  have dj:mg "len" = none:=Z _ (by decide +kernel)
  refine T.def gW (fun vs H Q E h=>DW h) (fun _ _ _ _ _ _ us hl=>match us,hl with | [_,_,_,_,_],_=>rfl) fun f cdv A outer s H vs Q E hr h=>?_
  have hu:=hr.units
  exact ⟨_,(av (bg (i:=5) gW.nd rfl (by walk_at "l") (bB b8 (hr.mono (by first | omega | (show _≤_ + n; omega))) (aa (aS kN rfl dj PySem.boot_len (aa (pv 0) aw)) aw)))
   (av (d8 (hv1 hu) (pv 0) (pv 5) (bY (aa (pv 4) (aa (pv 2) (aa (pv 3) (aa (bY aw) aw))))) rfl)
   (av (uO (i0:=6) (fr:=[("_law_held",0),("_law_name",5),("_law_key",4)]) rfl gW.nd rfl (by walk_at "l") ⟨rfl,rfl,rfl,rfl,rfl,rfl,by decide +kernel⟩ (mL rfl mG (aa (pv 1) aw)) (fun _ _ _ _=>yr) (fun _ _ _ _=>(bB gy (hr.mono (Nat.le_refl _)) (aa (pv 1) (aa (aS (zD rfl) rfl FY PyProof.Rows.boot_max (aa ax (aa (aU iY (pv 0) ax) aw))) (aa (pv 2) (aa (lU yh (pv 0) ax (bA _)) (aa (aU (dM (K:=K) rfl) (pv 3) ax) aw))))))))
   (av (d8 (hv1 hu) (pv 0) (pv 5) (bY (aa (pv 4) (aa (pv 2) (aa (pv 3) (aa (cT (km (K:=K) rfl) rfl ef PyProof.Rows.boot_tuple (aa (pv 6) aw)) aw))))) rfl)
   (aE (a0 (pv 5))))))),
   DV (n:=5) (k:=2) (aR (bZ (bO (af (cF tL (af ae aA)) aA)))
   (aR (gR (i:=0) (cZ (af ae (af ae (af ae (af (cZ aA) aA))))) ae)
   (aR (bZ (Ht (i:=0) (j:=0) rfl (sW (af ae aA)) (af (cF Iw (af ay (af (ar qU ae ay) aA))) (af ae (af (ar xh ae ay) (af (ar gM ae ay) aA))))))
   (aR (gR (i:=0) (cZ (af ae (af ae (af ae (af (cF tP (af ae aA)) aA))))) ae)
   (cm ae))))) rfl h⟩
theorem rl (Z:fP mg) (T:Top K mg "_law_begun" kB) (dz:Def P w K mg base CX0 1 "_law_key_by" ["_law_number"] (spM cX)) (b8:Def P w K mg base CX0 1 "_law_name_by" ["_law_k"] (spM cw)) (gy:Def P w K mg base CX0 14 "_law_grown" ["_law_held","_law_many","_law_above","_law_mark","_law_key"] (spI (dY 12))) (jP:Def P w K mg base CX0 2 "_law_built" ["_law_cells","_law_first"] (spD gu)):Def P w K mg base CX0 15 "_law_begun" ["_law_cells"] (spD gv):=by
 have dj:mg "len" = none:=Z _ (by decide +kernel)
 refine T.def fK (fun vs H Q E h=>yL h) (fun _ _ _ _ _ _ us hl=>match us,hl with | [_],_=>rfl) fun f cdv A outer s H vs Q E hr h=>?_
 have hu:=hr.units
 exact ⟨_,(av (cO (PW.pt (g9 (bh (ke (K:=K) rfl hu) (pv 0) (dm aw) (bA _)) (iW (bh (fw (K:=K) rfl hu) (aU cA (aO (aB (K:=K) rfl) (pv 0) ax (fun _ _=>rfl)) ax) ax (bA _))))) (aE (a0 (bB jP (hr.mono (by omega)) (aa (pv 0) (aa ax aw))))) bD)
   (av (bg (i:=1) fK.nd rfl (by walk_at "l") vv)
   (av (bg (i:=2) fK.nd rfl (by walk_at "l") (dm (aa (bB gy (hr.mono (by omega)) (aa (pv 1) (aa (aU cA (aU d6 (aO (aB (K:=K) rfl) (pv 0) ax (fun _ _=>rfl)) ax) ax) (aa dF (aa cE (aa (bB dz (hr.mono (by omega)) (aa (aU d6 (aO (aB (K:=K) rfl) (pv 0) ax (fun _ _=>rfl)) ax) aw)) aw)))))) aw)))
   (av (lB PassesOwn.never rfl (l9 (K:=K) rfl (lW (pC (K:=K) rfl) (pv 0) (kH ax) (kH ax))) (aY (i:=3) fK.nd rfl (by walk_at "l"))
   (av (bg (i:=4) fK.nd rfl (by walk_at "l") (bB b8 (hr.mono (by omega)) (aa (aS kN rfl dj PySem.boot_len (aa (pv 1) aw)) aw)))
   (av (d8 (hv1 hu) (pv 1) (pv 4) (bY (aa (bB dz (hr.mono (by omega)) (aa (pv 3) aw)) (aa dF (aa cE (aa (bY aw) aw))))) rfl)
   (aE (dJ (lE (K:=K) rfl PySem.F.plainAttrs_list PySem.F.slot_list_append PySem.F.type_list_append gY (pv 2) (aa (pv 4) aw)))))))
   (aE (a0 (bY (aa (pv 2) (aa (pv 1) aw))))))))),
   yK (n:=1) (k:=4) (IK (ia (aX (ar uY ae (dh aA))) (aX (ar l7 (ar J_I (ar bT ae ay) ay) ay))) (DX (af ae (af ay aA)))
   (m5 (bZ yT)
   (m5 (bZ (dh (af (BF (i:=1) (af (ar J_I (ar J_I (ar bT ae ay) ay) ay) (af gA (af cP (af (bO (af (ar J_I (ar bT ae ay) ay) aA)) aA))))) aA)))
   (m5 (sY (DH (yx GU ae (kJ ay) (kJ ay))) bE
   (aR (bZ (bO (af (cF tL (af ae aA)) aA)))
   (aR (gR (i:=1) (cZ (af (bO (af ae aA)) (af gA (af cP (af (cZ aA) aA))))) ae)
   (gh (mS kc (af ae aA))))))
   (BH (i:=2) (j:=1)))))) rfl h⟩
theorem oE (Z:fP mg) (T:Top K mg "_law_is_entry" ix) :Def P w K mg base CX0 1 "_law_is_entry" ["_law_found","_law_due"] (spM fy):=by
 have xY:mg "bool" = none:=Z _ (by decide +kernel)
 have aV:mg "isinstance" = none:=Z _ (by decide +kernel)
 have ef:mg "tuple" = none:=Z _ (by decide +kernel)
 have dj:mg "len" = none:=Z _ (by decide +kernel)
 refine T.def oD (fun vs H Q E h=>dr h) (fun _ _ _ _ _ _ us hl=>match us,hl with | [_,_],_=>rfl) fun f cdv A outer s H vs Q E hr h=>?_
 have hu:=hr.units
 exact ⟨_,(av (cO (PW.pt (g9 (gz (dG (aS hW rfl aV PyProof.Rows.boot_isinstance (aa (pv 0) (aa (kZ ef PyProof.Rows.boot_tuple) aw))))) (g9 (bh (fw (K:=K) rfl hu) (aS (cy (K:=K) rfl) rfl dj PySem.boot_len (aa (pv 0) aw)) ax (bA _)) (iW (gz (dG (aS hW rfl aV PyProof.Rows.boot_isinstance (aa (aO (aB (K:=K) rfl) (pv 0) ax (fun _ _=>rfl)) (aa (kZ ef PyProof.Rows.boot_tuple) aw)))))))))
   (aE (a0 cE))
   bD)
   (av (cO (PW.pt (g9 (dG (aS hW rfl aV PyProof.Rows.boot_isinstance (aa (aO (aB (K:=K) rfl) (pv 0) ax (fun _ _=>rfl)) (aa (kZ xY PyProof.Rows.boot_bool) aw)))) (iW (gz (dG (aS hW rfl aV PyProof.Rows.boot_isinstance (aa (aO (aB (K:=K) rfl) (pv 0) ax (fun _ _=>rfl)) (aa (kZ xY PyProof.Rows.boot_bool) aw))))))))
   (aE (a0 cE))
   bD)
   (aE (a0 (lU (ke (K:=K) rfl hu) (pv 0) (pv 1) (bA _)))))),
   eU (n:=2) (k:=0) (aR (gL (ia (gB (fQ (mU ae))) (ia (aX (ar l7 (cF iI (af ae aA)) ay)) (gB (fQ (mU (ar bT ae ay))))))
   (cm cP)
   dg)
   (aR (gL (ia (fQ (mU (ar bT ae ay))) (gB (fQ (mU (ar bT ae ay)))))
   (cm cP)
   dg)
   (cm (ar uY ae ae)))) rfl h⟩
theorem qF (Z:fP mg) (T:Top K mg "_law_is_pile" jb) (iD:Def P w K mg base CX0 1 "_law_is_entry" ["_law_found","_law_due"] (spM fy)):Def P w K mg base CX0 2 "_law_is_pile" ["_law_found","_law_tops","_law_held"] (spM b6):=by
 have dj:mg "len" = none:=Z _ (by decide +kernel)
 have jh:mg "dict" = none:=Z _ (by decide +kernel)
 have aV:mg "isinstance" = none:=Z _ (by decide +kernel)
 have gJ:mg "list" = none:=Z _ (by decide +kernel)
 have ef:mg "tuple" = none:=Z _ (by decide +kernel)
 refine T.def iy (fun vs H Q E h=>dr h) (fun _ _ _ _ _ _ us hl=>match us,hl with | [_,_,_],_=>rfl) fun f cdv A outer s H vs Q E hr h=>?_
 have hu:=hr.units
 exact ⟨_,(av (cO (PW.pt (g9 (gz (dG (aS nE rfl aV PyProof.Rows.boot_isinstance (aa (pv 0) (aa (kZ ef PyProof.Rows.boot_tuple) aw))))) (g9 (bh (fw (K:=K) rfl hu) (aS (cy (K:=K) rfl) rfl dj PySem.boot_len (aa (pv 0) aw)) ax (bA _)) (g9 (gz (dG (aS nE rfl aV PyProof.Rows.boot_isinstance (aa (aO (aB (K:=K) rfl) (pv 0) ax (fun _ _=>rfl)) (aa (kZ gJ PyProof.Rows.boot_list) aw))))) (iW (bh (fw (K:=K) rfl hu) (aO (aB (K:=K) rfl) (pv 0) ax (fun _ _=>rfl)) (pv 1) (bA _)))))))
   (aE (a0 cE))
   bD)
   (av (cO (PW.pt (g9 (gz (dG (aS nE rfl aV PyProof.Rows.boot_isinstance (aa (aO (aB (K:=K) rfl) (pv 0) ax (fun _ _=>rfl)) (aa (kZ jh PyProof.Rows.boot_dict) aw))))) (iW (bh (fw (K:=K) rfl hu) (aS kN rfl dj PySem.boot_len (aa (aO (aB (K:=K) rfl) (pv 0) ax (fun _ _=>rfl)) aw)) (aS kN rfl dj PySem.boot_len (aa (pv 2) aw)) (bA _)))))
   (aE (a0 cE))
   bD)
   (av (y0 (lB PassesOwn.never rfl (Cj (pv 2)) (gO rfl (bc (aY (i:=3) iy.nd rfl (by walk_at "l")) (bc (aY (i:=4) iy.nd rfl (by walk_at "l")) gN)))
   (aE (cO (PW.pt (g9 (wR (nh (hv1 hu) (pv 3) (aO (aB (K:=K) rfl) (pv 0) ax (fun _ _=>rfl)))) (iW (gz (dG (bB iD (hr.mono (by omega)) (aa (bF (hv1 hu) (aO (aB (K:=K) rfl) (pv 0) ax (fun _ _=>rfl)) (pv 3) (fun _ _=>rfl)) (aa (pv 4) aw))))))))
   (aE (a0 cE))
   bD))))
   (aE (a0 cE))))),
   eU (n:=3) (k:=2) (aR (gL (ia (gB (fQ (tU ae))) (ia (aX (ar l7 (cF iI (af ae aA)) ay)) (ia (gB (fQ (tU (ar bT ae ay)))) (aX (ar l7 (ar bT ae ay) ae)))))
   (cm cP)
   dg)
   (aR (gL (ia (gB (fQ (tU (ar bT ae ay)))) (aX (ar l7 (cF tL (af (ar bT ae ay) aA)) (cF tL (af ae aA)))))
   (cm cP)
   dg)
   (aR (Es vz (iK (bz bE (bz bE iH)))
   (gL (ia (aX (ar pX ae (ar bT ae ay))) (gB (fQ (bO (af (ar cW (ar bT ae ay) ae) (af ae aA))))))
   (cm cP)
   dg))
   (cm cP)))) rfl h⟩
theorem qG (Z:fP mg) (T:Top K mg "hold_there" gX) (cf:CF K mg ba bb b7 dw dy cQ) :Def P w K mg base (CXW P w) 1 "hold_there" ["pile","name"] (spX (clM mg) fA):=by
 refine T.IG jc (fun vs H Q E h=>yG h) (fun _ _ _ _ _ _ us hl=>match us,hl with | [_,_],_=>rfl) fun f cdv A outer s H vs Q E hr h=>?_
 have hu:=hr.units
 exact ⟨_,(aE (cO (wR (nh (hv1 hu) (pv 1) (aO (aB (K:=K) rfl) (pv 0) ax (fun _ _=>rfl))))
   (aE (uP rfl rfl cf.f6 cf.nK PySem.F.excBase_ValueError (k6 jc.kind rfl) (aa dR aw)))
   bD)),
   yF (n:=2) (k:=0) (BB (aX (ar pX ae (ar bT ae ay)))
   (rY (c:="Lacking") (af et aA) (fun H h=>mZ cf.f6 ▸ h))
   (ij dg)) rfl h⟩
theorem rm (Z:fP mg) (T:Top K mg "hold_there" gX) :Def P w K mg base CX0 1 "hold_there" ["pile","name"] (spM fB):=by
 refine T.def jc (fun vs H Q E h=>dr h) (fun _ _ _ _ _ _ us hl=>match us,hl with | [_,_],_=>rfl) fun f cdv A outer s H vs Q E hr h=>?_
 have hu:=hr.units
 exact ⟨_,(aE (cO (wR (nh (hv1 hu) (pv 1) (aO (aB (K:=K) rfl) (pv 0) ax (fun _ _=>rfl))))
   (aE jj)
   bD)),
   eU (n:=2) (k:=0) (gL (aX (ar pX ae (ar bT ae ay)))
   j7
   dg) rfl h⟩
theorem oF (Z:fP mg) (T:Top K mg "names_to_cut" iA) :Def P w K mg base CX0 1 "names_to_cut" ["held","name"] (spM fC):=by
 refine T.def eS (fun vs H Q E h=>dr h) (fun _ _ _ _ _ _ us hl=>match us,hl with | [_,_],_=>rfl) fun f cdv A outer s H vs Q E hr h=>?_
 have hu:=hr.units
 exact ⟨_,(av (bg (i:=2) eS.nd rfl (by walk_at "l") (dm (aa (pv 1) aw)))
   (av (bg (i:=3) eS.nd rfl (by walk_at "l") (aO (aB (K:=K) rfl) (bF (hv1 hu) (pv 0) (pv 1) (fun _ _=>rfl)) ax (fun _ _=>rfl)))
   (av (uF PassesOwn.never (dG (aO (aB (K:=K) rfl) (bF (hv1 hu) (pv 0) (pv 3) (fun _ _=>rfl)) ax (fun _ _=>rfl)))
   (av (dJ (lE (K:=K) rfl PySem.F.plainAttrs_list PySem.F.slot_list_append PySem.F.type_list_append gY (pv 2) (aa (pv 3) aw)))
   (aE (bg (i:=3) eS.nd rfl (by walk_at "l") (aO (aB (K:=K) rfl) (bF (hv1 hu) (pv 0) (pv 3) (fun _ _=>rfl)) ax (fun _ _=>rfl))))))
   (aE (a0 (pv 2)))))),
   eU (n:=2) (k:=2) (aR (bZ (dh (af ae aA)))
   (aR (bZ (ar bT (ar cW ae ae) ay))
   (aR (uV (fQ (ar bT (ar cW ae ae) ay))
   (aR (gh (mS kc (af ae aA)))
   (bZ (ar bT (ar cW ae ae) ay))))
   (cm ae)))) rfl h⟩
theorem xZ (Z:fP mg) (T:Top K mg "without" nI) :Def P w K mg base CX0 1 "without" ["row","name"] (spM kQ):=by
 have ef:mg "tuple" = none:=Z _ (by decide +kernel)
 refine T.def xW (fun vs H Q E h=>dr h) (fun _ _ _ _ _ _ us hl=>match us,hl with | [_,_],_=>rfl) fun f cdv A outer s H vs Q E hr h=>?_
 have hu:=hr.units
 exact ⟨_,(aE (a0 (bY (aa (aO (aB (K:=K) rfl) (pv 0) ax (fun _ _=>rfl)) (aa (aO (aB (K:=K) rfl) (pv 0) ax (fun _ _=>rfl)) (aa (aO (aB (K:=K) rfl) (pv 0) ax (fun _ _=>rfl)) (aa (cT (km (K:=K) rfl) rfl ef PyProof.Rows.boot_tuple (aa (A5 (fr:=[("name",1)]) rfl ⟨rfl,rfl,rfl,rfl,rfl,rfl,by decide +kernel⟩ (yC (K:=K) rfl (aO (aB (K:=K) rfl) (pv 0) ax (fun _ _=>rfl))) (fun _ _ _ _=>(sS (bh (fw (K:=K) rfl hu) (pv 0) (pv 1) (bA _)))) (fun _ _ _ _=>(pv 0))) aw)) aw))))))),
   eU (n:=2) (k:=0) (cm (cZ (af (ar bT ae ay) (af (ar bT ae ay) (af (ar bT ae ay) (af (cF tP (af (Bo (Bj (ar bT ae ay)) (aX (ar l7 ae ae)) ae) aA)) aA)))))) rfl h⟩
theorem AD (Z:fP mg) (T:Top K mg "as_top" qC) :Def P w K mg base CX0 1 "as_top" ["row"] (spM mq):=by
 refine T.def Az (fun vs H Q E h=>dr h) (fun _ _ _ _ _ _ us hl=>match us,hl with | [_],_=>rfl) fun f cdv A outer s H vs Q E hr h=>?_
 have hu:=hr.units
 exact ⟨_,(aE (a0 (bY (aa (aO (aB (K:=K) rfl) (pv 0) ax (fun _ _=>rfl)) (aa dF (aa cE (aa (aO (aB (K:=K) rfl) (pv 0) ax (fun _ _=>rfl)) aw))))))),
   eU (n:=1) (k:=0) (cm (cZ (af (ar bT ae ay) (af gA (af cP (af (ar bT ae ay) aA)))))) rfl h⟩
theorem uv (Z:fP mg) (T:Top K mg "with_mark" kC) :Def P w K mg base CX0 1 "with_mark" ["row"] (spM iN):=by
 refine T.def uq (fun vs H Q E h=>dr h) (fun _ _ _ _ _ _ us hl=>match us,hl with | [_],_=>rfl) fun f cdv A outer s H vs Q E hr h=>?_
 have hu:=hr.units
 exact ⟨_,(aE (a0 (bY (aa (aO (aB (K:=K) rfl) (pv 0) ax (fun _ _=>rfl)) (aa (aO (aB (K:=K) rfl) (pv 0) ax (fun _ _=>rfl)) (aa cE (aa (aO (aB (K:=K) rfl) (pv 0) ax (fun _ _=>rfl)) aw))))))),
   eU (n:=1) (k:=0) (cm (cZ (af (ar bT ae ay) (af (ar bT ae ay) (af cP (af (ar bT ae ay) aA)))))) rfl h⟩
theorem x8 (Z:fP mg) (T:Top K mg "cut_off" nJ) (kE:Def P w K mg base CX0 1 "with_mark" ["row"] (spM iN)) (qH:Def P w K mg base CX0 1 "as_top" ["row"] (spM mq)) (nM:Def P w K mg base CX0 1 "without" ["row","name"] (spM kQ)) (iE:Def P w K mg base CX0 1 "names_to_cut" ["held","name"] (spM fC)):Def P w K mg base CX0 2 "cut_off" ["pile","name"] (spQ kR):=by
 have jh:mg "dict" = none:=Z _ (by decide +kernel)
 refine T.def fZ (fun vs H Q E h=>tH h) (fun _ _ _ _ _ _ us hl=>match us,hl with | [_,_],_=>rfl) fun f cdv A outer s H vs Q E hr h=>?_
 have hu:=hr.units
 exact ⟨_,(av (bg (i:=2) fZ.nd rfl (by walk_at "l") (cT jE rfl jh PyProof.Rows.boot_dict (aa (aO (aB (K:=K) rfl) (pv 0) ax (fun _ _=>rfl)) aw)))
   (av (bg (i:=3) fZ.nd rfl (by walk_at "l") (bB iE (hr.mono (by omega)) (aa (pv 2) (aa (pv 1) aw))))
   (av (bg (i:=4) fZ.nd rfl (by walk_at "l") (aO (aB (K:=K) rfl) (bF (hv1 hu) (pv 2) (aO (aB (K:=K) rfl) (pv 3) (HW Gg ax) (fun _ _=>rfl)) (fun _ _=>rfl)) ax (fun _ _=>rfl)))
   (av (lB PassesOwn.never rfl (l9 (K:=K) rfl (pv 3)) (aY (i:=5) fZ.nd rfl (by walk_at "l"))
   (av (bg (i:=6) fZ.nd rfl (by walk_at "l") (aO (aB (K:=K) rfl) (bF (hv1 hu) (pv 2) (pv 5) (fun _ _=>rfl)) ax (fun _ _=>rfl)))
   (av (d8 (hv1 hu) (pv 2) (pv 6) (bB nM (hr.mono (by omega)) (aa (bF (hv1 hu) (pv 2) (pv 6) (fun _ _=>rfl)) (aa (pv 5) aw))) rfl)
   (aE (d8 (hv1 hu) (pv 2) (pv 5) (bB qH (hr.mono (by omega)) (aa (bF (hv1 hu) (pv 2) (pv 5) (fun _ _=>rfl)) aw)) rfl)))))
   (av (cO (bh oI (aO (aB (K:=K) rfl) (bF (hv1 hu) (pv 2) (pv 4) (fun _ _=>rfl)) ax (fun _ _=>rfl)) dF (bA _))
   (aE (d8 (hv1 hu) (pv 2) (pv 4) (bB kE (hr.mono (by omega)) (aa (bF (hv1 hu) (pv 2) (pv 4) (fun _ _=>rfl)) aw)) rfl))
   bD)
   (aE (a0 (bY (aa (bY (aa (aU (dM (K:=K) rfl) (aO (aB (K:=K) rfl) (pv 0) ax (fun _ _=>rfl)) (pv 3)) (aa (pv 2) aw))) (aa (A5 (fr:=[]) rfl ⟨rfl,rfl,rfl,rfl,rfl,rfl,by decide +kernel⟩ (l9 (K:=K) rfl (pv 3)) (fun _ _ _ _=>yr) (fun _ _ _ _=>(bY (aa dR (aa (pv 0) aw))))) aw)))))))))),
   tG (n:=2) (k:=5) (bQ (eE (gC (cF oR (af (ar bT ae ay) aA))) cV)
   (bQ (eE (gC (bO (af ae (af ae aA)))) cV)
   (bQ (eE (kf (gC (ar cW ae (ar bT ae (Im Iu ay)))) (du fun _=>.int _)) cV)
   (bQ (yQ bP cV
   (bQ (eE (kf (gC (ar cW ae ae)) (du fun _=>.int _)) cV)
   (bQ (oT bP bP (gC (bO (af (ar cW ae ae) (af ae aA)))))
   (oT bP bP (gC (bO (af (ar cW ae ae) aA)))))))
   (bQ (jY (oA (aX (ar oM (ar bT (ar cW ae ae) ay) gA)))
   (oT bP bP (gC (bO (af (ar cW ae ae) aA))))
   eP)
   (fU (kg (a7 (kg (a7 (gC (ar gM (ar bT ae ay) ae)) (a7 bP eV))) (a7 (gC (Bo (DG ae) GR (cZ (af et (af ae aA))))) eV))))))))) rfl h⟩
theorem wj (Z:fP mg) (T:Top K mg "standing" lM) :Def P w K mg base CX0 1 "standing" ["held","name"] (spM eW):=by
 refine T.def wd (fun vs H Q E h=>dr h) (fun _ _ _ _ _ _ us hl=>match us,hl with | [_,_],_=>rfl) fun f cdv A outer s H vs Q E hr h=>?_
 have hu:=hr.units
 exact ⟨_,(aE (a0 (bY (aa (aO (aB (K:=K) rfl) (bF (hv1 hu) (pv 0) (pv 1) (fun _ _=>rfl)) ax (fun _ _=>rfl)) (aa (pv 1) aw))))),
   eU (n:=2) (k:=0) (cm (cZ (af (ar bT (ar cW ae ae) ay) (af ae aA)))) rfl h⟩
theorem rn (Z:fP mg) (T:Top K mg "make_less" iU) (cf:CF K mg ba bb b7 dw dy cQ) (jQ:Def P w K mg base (CXW P w) 1 "hold_there" ["pile","name"] (spX (clM mg) fA)):Def P w K mg base (CXW P w) 2 "make_less" ["pile","name","key"] (spX (clM mg) fi):=by
 refine T.IG ee (fun vs H Q E h=>yG h) (fun _ _ _ _ _ _ us hl=>match us,hl with | [_,_,_],_=>rfl) fun f cdv A outer s H vs Q E hr h=>?_
 have hu:=hr.units
 exact ⟨_,(av (dJ (DZ jQ (hr.mono (by omega)) (IP rfl) (aa (pv 0) (aa (pv 1) aw))))
   (av (id (bg (i:=3) ee.nd rfl (by walk_at "l") (bF (hv1 hu) (aO (aB (K:=K) rfl) (pv 0) ax (fun _ _=>rfl)) (pv 1) (fun _ _=>rfl))))
   (av (cO (bh Fi (pv 2) (aO (aB (K:=K) rfl) (pv 3) ax (fun _ _=>rfl)) (bA _))
   (aE (uP rfl rfl cf.f7 cf.nL PySem.F.excBase_ValueError (k6 ee.kind rfl) (aa dR aw)))
   bD)
   (av (id jj)
   (av (id jj)
   (av (id jj)
   (aE (id jj)))))))),
   yF (n:=3) (k:=2) (kM (z0 (af ae (af ae aA)))
   (kM (ij (bZ (ar cW (ar bT ae ay) ae)))
   (kM (BB (aX (ar xh ae (ar bT ae ay)))
   (rY (c:="NotLess") (af et aA) (fun H h=>mZ cf.f7 ▸ h))
   (ij dg))
   (kM (ij j7)
   (kM (ij j7)
   (kM (ij j7)
   (ij j7))))))) rfl h⟩
theorem uw (Z:fP mg) (T:Top K mg "make_less" iU) (nN:Def P w K mg base CX0 2 "cut_off" ["pile","name"] (spQ kR)) (jR:Def P w K mg base CX0 1 "standing" ["held","name"] (spM eW)) (jS:Def P w K mg base CX0 1 "hold_there" ["pile","name"] (spM fB)):Def P w K mg base CX0 3 "make_less" ["pile","name","key"] (spQ fj):=by
 have gJ:mg "list" = none:=Z _ (by decide +kernel)
 have jh:mg "dict" = none:=Z _ (by decide +kernel)
 refine T.def ee (fun vs H Q E h=>tH h) (fun _ _ _ _ _ _ us hl=>match us,hl with | [_,_,_],_=>rfl) fun f cdv A outer s H vs Q E hr h=>?_
 have hu:=hr.units
 exact ⟨_,(av (dJ (bB jS (hr.mono (by omega)) (aa (pv 0) (aa (pv 1) aw))))
   (av (bg (i:=3) ee.nd rfl (by walk_at "l") (bF (hv1 hu) (aO (aB (K:=K) rfl) (pv 0) ax (fun _ _=>rfl)) (pv 1) (fun _ _=>rfl)))
   (av (cO (bh Fi (pv 2) (aO (aB (K:=K) rfl) (pv 3) ax (fun _ _=>rfl)) (bA _))
   (aE jj)
   bD)
   (av (bg (i:=4) ee.nd rfl (by walk_at "l") (cT jE rfl jh PyProof.Rows.boot_dict (aa (aO (aB (K:=K) rfl) (pv 0) ax (fun _ _=>rfl)) aw)))
   (av (d8 (hv1 hu) (pv 4) (pv 1) (bY (aa (pv 2) (aa (aO (aB (K:=K) rfl) (pv 3) ax (fun _ _=>rfl)) (aa (aO (aB (K:=K) rfl) (pv 3) ax (fun _ _=>rfl)) (aa (aO (aB (K:=K) rfl) (pv 3) ax (fun _ _=>rfl)) aw))))) rfl)
   (av (cO (PW.pt (g9 (bh wZ (aO (aB (K:=K) rfl) (pv 3) ax (fun _ _=>rfl)) dF (bA _)) (iW (bh (Ho (K:=K) rfl (Nat.lt_of_le_of_lt (Nat.le_add_right _ _) hu)) (bB jR (hr.mono (by omega)) (aa (pv 4) (aa (pv 1) aw))) (bB jR (hr.mono (by omega)) (aa (pv 4) (aa (aO (aB (K:=K) rfl) (pv 3) ax (fun _ _=>rfl)) aw))) (bA _)))))
   (aE (a0 (bY (aa (bY (aa (cT (lD (K:=K) rfl) rfl gJ PyProof.Rows.boot_list (aa (aO (aB (K:=K) rfl) (pv 0) ax (fun _ _=>rfl)) aw)) (aa (pv 4) aw))) (aa (dm aw) aw)))))
   bD)
   (aE (a0 (bB nN (hr.mono (by omega)) (aa (bY (aa (aO (aB (K:=K) rfl) (pv 0) ax (fun _ _=>rfl)) (aa (pv 4) aw))) (aa (pv 1) aw))))))))))),
   tG (n:=3) (k:=2) (bQ (oP (gC (bO (af ae (af ae aA)))))
   (bQ (eE (gC (ar cW (ar bT ae ay) ae)) cV)
   (bQ (jY (oA (aX (ar xh ae (ar bT ae ay))))
   BP
   eP)
   (bQ (eE (gC (cF oR (af (ar bT ae ay) aA))) cV)
   (bQ (oT bP bP (kg (a7 bP (a7 (kf bP (du fun _=>.int _)) (a7 (kf bP (du fun _=>.int _)) (a7 (kf bP (du fun _=>.int _)) eV))))))
   (bQ (jY (oA (ia (aX (ar GS (ar bT ae ay) gA)) (aX (ar Jk (bO (af ae (af ae aA))) (bO (af ae (af (ar bT ae ay) aA)))))))
   (fU (kg (a7 (kg (a7 (gC (cF xj (af (ar bT ae ay) aA))) (a7 bP eV))) (a7 (He eV) eV))))
   eP)
   (fU (pR (a7 (kg (a7 (kf bP (du fun _=>.int _)) (a7 bP eV))) (a7 bP eV)))))))))) rfl h⟩
theorem qI (Z:fP mg) (T:Top K mg "_law_refused" jd) (cf:CF K mg ba bb b7 dw dy cQ) (kF:Def P w K mg base (CXW P w) 2 "make_less" ["pile","name","key"] (spX (clM mg) fi)) :Def P w K mg base CX0 3 "_law_refused" ["_law_pile","_law_name","_law_key"] (spM bL):=by
 have aV:mg "isinstance" = none:=Z _ (by decide +kernel)
 have mI:mg "ValueError" = none:=Z _ (by decide +kernel)
 refine T.def d3 (fun vs H Q E h=>dr h) (fun _ _ _ _ _ _ us hl=>match us,hl with | [_,_,_],_=>rfl) fun f cdv A outer s H vs Q E hr h=>?_
 have hu:=hr.units
 exact ⟨_,(av (bg (i:=3) d3.nd rfl (by walk_at "l") (dm aw))
   (av (DU (K:=K) (i:=4) rfl rfl kF (hr.mono (by omega)) (aa (pv 0) (aa (pv 1) (aa (pv 2) aw))) rfl rfl rfl rfl cf.jg d3.nd rfl rfl (fun cls e oe hoc hok =>
   (av (bg (i:=3) d3.nd rfl (by walk_at "l") (dm (aa (aS (gZ (K:=K) rfl hok hoc) rfl aV PyProof.Rows.boot_isinstance (aa (pv 4) (aa (kZ mI PyProof.Rows.Boot.«ValueError») aw))) (aa (aS (gZ (K:=K) rfl hok hoc) rfl aV PyProof.Rows.boot_isinstance (aa (pv 4) (aa (lS (v:=.ref ba) rfl cf.f6 rfl) aw))) (aa (aS (gZ (K:=K) rfl hok hoc) rfl aV PyProof.Rows.boot_isinstance (aa (pv 4) (aa (lS (v:=.ref bb) rfl cf.f7 rfl) aw))) aw)))))
   (aE (bg (i:=3) d3.nd rfl (by walk_at "l") (aU (dM (K:=K) rfl) (pv 3) (dm (aa (aS (gZ (K:=K) rfl hok hoc) rfl aV PyProof.Rows.boot_isinstance (aa (pv 4) (aa (lS (v:=.ref cQ) rfl cf.qD rfl) aw))) (aa (aS (gZ (K:=K) rfl hok hoc) rfl aV PyProof.Rows.boot_isinstance (aa (pv 4) (aa (lS (v:=.ref dy) rfl cf.uu rfl) aw))) (aa (aS (gZ (K:=K) rfl hok hoc) rfl aV PyProof.Rows.boot_isinstance (aa (pv 4) (aa (lS (v:=.ref dw) rfl cf.ur rfl) aw))) aw))))))))))
   (aE (a0 (pv 3))))),
   eU (n:=3) (k:=2) (aR (bZ (dh aA))
   (aR (DS (cl := clM mg) (af ae (af ae (af ae aA))) (fun c s h => by
      unfold eR at h
      split at h
      ·rename_i z; subst z; cases h; rw [mZ cf.f7]; exact ⟨_,rfl,cf.AA,cf.h_NotLess_CreditError⟩
      ·
       split at h
       ·rename_i z; subst z; cases h; rw [mZ cf.f6]; exact ⟨_,rfl,cf.AB,cf.h_Lacking_CreditError⟩
       ·
        cases h) (fun c s h ea=>by
      unfold eR at h
      split at h
      ·rename_i z; subst z; cases h; rw [mZ cf.f7]; (letI iz:Zc:=⟨ea⟩; exact (aR (bZ (dh (af (eO (c:=.ty "ValueError") (cv:=.type "ValueError") (fun u h=>h) cf.d4) (af (eO (c:=.ref ba) (cv:=.ref ba) (fun u h=>h) cf.fM) (af (eO (c:=.ref bb) (cv:=.ref bb) (fun u h=>h) cf.fL) aA))))) (bZ (ar gM ae (dh (af (eO (c:=.ref cQ) (cv:=.ref cQ) (fun u h=>h) cf.f9) (af (eO (c:=.ref dy) (cv:=.ref dy) (fun u h=>h) cf.gF) (af (eO (c:=.ref dw) (cv:=.ref dw) (fun u h=>h) cf.gE) aA))))))))
      ·
       split at h
       ·rename_i z; subst z; cases h; rw [mZ cf.f6]; (letI iz:Zc:=⟨ea⟩; exact (aR (bZ (dh (af (eO (c:=.ty "ValueError") (cv:=.type "ValueError") (fun u h=>h) cf.d5) (af (eO (c:=.ref ba) (cv:=.ref ba) (fun u h=>h) cf.fO) (af (eO (c:=.ref bb) (cv:=.ref bb) (fun u h=>h) cf.fN) aA))))) (bZ (ar gM ae (dh (af (eO (c:=.ref cQ) (cv:=.ref cQ) (fun u h=>h) cf.gf) (af (eO (c:=.ref dy) (cv:=.ref dy) (fun u h=>h) cf.gH) (af (eO (c:=.ref dw) (cv:=.ref dw) (fun u h=>h) cf.gG) aA))))))))
       ·
        cases h))
   (cm ae))) rfl h⟩
theorem qJ (Z:fP mg) (T:Top K mg "pile_credit" je) :Def P w K mg base CX0 1 "pile_credit" ["pile"] (spM dD):=by
 have dj:mg "len" = none:=Z _ (by decide +kernel)
 refine T.def kD (fun vs H Q E h=>dr h) (fun _ _ _ _ _ _ us hl=>match us,hl with | [_],_=>rfl) fun f cdv A outer s H vs Q E hr h=>?_
 have hu:=hr.units
 exact ⟨_,(av (y0 (uO (i0:=1) (fr:=[("pile",0)]) rfl kD.nd rfl (by walk_at "l") ⟨rfl,rfl,rfl,rfl,rfl,rfl,by decide +kernel⟩ (Em (aO (aB (K:=K) rfl) (pv 0) ax (fun _ _=>rfl))) (fun _ _ _ _=>(sS (dG (aO (aB (K:=K) rfl) (bF (hv1 hu) (aO (aB (K:=K) rfl) (pv 1) ax (fun _ _=>rfl)) (pv 0) (fun _ _=>rfl)) ax (fun _ _=>rfl))))) (fun _ _ _ _=>(pv 0))))
   (aE (a0 (aU (dM (K:=K) rfl) (aS (cy (K:=K) rfl) rfl dj PySem.boot_len (aa (aO (aB (K:=K) rfl) (pv 0) ax (fun _ _=>rfl)) aw)) (aU yB ax (aS (cy (K:=K) rfl) rfl dj PySem.boot_len (aa (pv 1) aw))))))),
   eU (n:=1) (k:=1) (aR (bZ (Hl (En (j:=1) vz) (fQ (ar bT (ar cW (ar bT ae ay) ae) ay)) ae))
   (cm (ar gM (cF iI (af (ar bT ae ay) aA)) (ar Fq ay (cF iI (af ae aA)))))) rfl h⟩
theorem wk (Z:fP mg) (T:Top K mg "_law_done" lN) (eg:Def P w K mg base CX0 1 "_law_before" ["_law_held","_law_one","_law_other"] (spM cu)) (g7:Def P w K mg base CX0 1 "_law_cut" ["_law_tops","_law_held","_law_name"] (spJ fh)):Def P w K mg base CX0 2 "_law_done" ["_law_tops","_law_held","_law_name","_law_key"] (spJ fW):=by
 refine T.def gx (fun vs H Q E h=>tD h) (fun _ _ _ _ _ _ us hl=>match us,hl with | [_,_,_,_],_=>rfl) fun f cdv A outer s H vs Q E hr h=>?_
 have hu:=hr.units
 exact ⟨_,(av (lA (bF (hv1 hu) (pv 1) (pv 2) (fun _ _=>rfl)) (gO rfl (bc (aY (i:=4) gx.nd rfl (by walk_at "l")) (bc (aY (i:=5) gx.nd rfl (by walk_at "l")) (bc (aY (i:=6) gx.nd rfl (by walk_at "l")) (bc (aY (i:=7) gx.nd rfl (by walk_at "l")) gN))))))
   (av (d8 (hv1 hu) (pv 1) (pv 2) (bY (aa (pv 3) (aa (pv 5) (aa (pv 6) (aa (pv 7) aw))))) rfl)
   (av (cO (PW.pt (wU (bh oI (pv 5) dF (bA _)) (sI (dG (bB eg (hr.mono (by omega)) (aa (pv 1) (aa (pv 2) (aa (pv 5) aw))))))))
   (aE (a0 (bB g7 (hr.mono (by omega)) (aa (pv 0) (aa (pv 1) (aa (pv 2) aw))))))
   bD)
   (aE (a0 (dm aw)))))),
   tw (n:=4) (k:=4) (aR (kK (ar cW ae ae) (iK (bz bE (bz bE (bz bE (bz bE iH))))))
   (aR (gR (i:=1) (cZ (af ae (af ae (af ae (af ae aA))))) ae)
   (aR (gL (xf (aX (ar oM ae gA)) (fQ (bO (af ae (af ae (af ae aA))))))
   (cm (pL (i:=0) (j:=1) (af ae aA)))
   dg)
   (cm (dh aA))))) rfl h⟩
theorem oG (Z:fP mg) (T:Top K mg "_law_lessened" iB) (cM:Def P w K mg base CX0 2 "_law_is_pile" ["_law_found","_law_tops","_law_held"] (spM b6)) (gp:Def P w K mg base CX0 1 "pile_credit" ["pile"] (spM dD)) (lQ:Def P w K mg base CX0 2 "_law_done" ["_law_tops","_law_held","_law_name","_law_key"] (spJ fW)) (kG:Def P w K mg base CX0 3 "make_less" ["pile","name","key"] (spQ fj)) (c9:Def P w K mg base CX0 3 "_law_refused" ["_law_pile","_law_name","_law_key"] (spM bL)):Def P w K mg base CX0 4 "_law_lessened" ["_law_pile","_law_tops","_law_held","_law_name","_law_key"] (spQ fD):=by
 have dj:mg "len" = none:=Z _ (by decide +kernel)
 have gJ:mg "list" = none:=Z _ (by decide +kernel)
 have aV:mg "isinstance" = none:=Z _ (by decide +kernel)
 have ef:mg "tuple" = none:=Z _ (by decide +kernel)
 have jh:mg "dict" = none:=Z _ (by decide +kernel)
 refine T.def dC (fun vs H Q E h=>tH h) (fun _ _ _ _ _ _ us hl=>match us,hl with | [_,_,_,_,_],_=>rfl) fun f cdv A outer s H vs Q E hr h=>?_
 have hu:=hr.units
 exact ⟨_,(av (bg (i:=5) dC.nd rfl (by walk_at "l") (bY (aa (cT (lD (K:=K) rfl) rfl gJ PyProof.Rows.boot_list (aa (pv 1) aw)) (aa (cT jE rfl jh PyProof.Rows.boot_dict (aa (pv 2) aw)) aw))))
   (av (cO (bh (fw (K:=K) rfl hu) (bB c9 (hr.mono (by omega)) (aa (pv 0) (aa (pv 3) (aa (aO (aB (K:=K) rfl) (bF (hv1 hu) (pv 2) (pv 3) (fun _ _=>rfl)) ax (fun _ _=>rfl)) aw)))) (dm (aa cE (aa cE (aa cE (aa cE (aa cE (aa cE aw))))))) (bA _))
   (aE (a0 dF))
   bD)
   (av (cO (bh (fw (K:=K) rfl hu) (bB c9 (hr.mono (by omega)) (aa (pv 0) (aa (pv 3) (aa (aU (dM (K:=K) rfl) (aO (aB (K:=K) rfl) (bF (hv1 hu) (pv 2) (pv 3) (fun _ _=>rfl)) ax (fun _ _=>rfl)) (aU sJ ax ax)) aw)))) (dm (aa cE (aa cE (aa cE (aa cE (aa cE (aa cE aw))))))) (bA _))
   (aE (a0 dF))
   bD)
   (av (bg (i:=6) dC.nd rfl (by walk_at "l") (bB gp (hr.mono (by omega)) (aa (pv 0) aw)))
   (av (bg (i:=7) dC.nd rfl (by walk_at "l") (bB kG (hr.mono (by omega)) (aa (pv 0) (aa (pv 3) (aa (pv 4) aw)))))
   (av (bg (i:=8) dC.nd rfl (by walk_at "l") (bB lQ (hr.mono (by omega)) (aa (pv 1) (aa (pv 2) (aa (pv 3) (aa (pv 4) aw))))))
   (av (cO (PW.pt (g9 (gz (dG (aS hW rfl aV PyProof.Rows.boot_isinstance (aa (pv 7) (aa (kZ ef PyProof.Rows.boot_tuple) aw))))) (g9 (bh (fw (K:=K) rfl hu) (aS (cy (K:=K) rfl) rfl dj PySem.boot_len (aa (pv 7) aw)) ax (bA _)) (g9 (gz (dG (aS hW rfl aV PyProof.Rows.boot_isinstance (aa (aO (aB (K:=K) rfl) (pv 7) ax (fun _ _=>rfl)) (aa (kZ gJ PyProof.Rows.boot_list) aw))))) (iW (bh (fw (K:=K) rfl hu) (aO (aB (K:=K) rfl) (pv 7) ax (fun _ _=>rfl)) (pv 8) (bA _)))))))
   (aE (a0 dF))
   bD)
   (av (cO (PW.pt (g9 (gz (dG (bB cM (hr.mono (by omega)) (aa (aO (aB (K:=K) rfl) (pv 7) ax (fun _ _=>rfl)) (aa (pv 1) (aa (pv 2) aw)))))) (iW (gz (dG (bB cM (hr.mono (by omega)) (aa (pv 0) (aa (aO (aB (K:=K) rfl) (pv 5) ax (fun _ _=>rfl)) (aa (aO (aB (K:=K) rfl) (pv 5) ax (fun _ _=>rfl)) aw)))))))))
   (aE (a0 dF))
   bD)
   (av (cO (bh yh (aU (dM (K:=K) rfl) (aS (cy (K:=K) rfl) rfl dj PySem.boot_len (aa (pv 8) aw)) (bB gp (hr.mono (by omega)) (aa (aO (aB (K:=K) rfl) (pv 7) ax (fun _ _=>rfl)) aw))) (aU (dM (K:=K) rfl) (pv 6) ax) (bA _))
   (aE (a0 dF))
   bD)
   (av (dJ (lE (K:=K) rfl PySem.F.plainAttrs_list PySem.F.slot_list_append PySem.F.type_list_append gY (aO (aB (K:=K) rfl) (pv 7) ax (fun _ _=>rfl)) (aa dR aw)))
   (av (dJ (tf (K:=K) rfl PySem.F.plainAttrs_list PySem.F.slot_list_clear PySem.F.type_list_clear AY (aO (aB (K:=K) rfl) (pv 0) ax (fun _ _=>rfl))))
   (av (dJ (tf (K:=K) rfl PySem.F.plainAttrs_dict PySem.F.slot_dict_clear PySem.F.type_dict_clear Ac (aO (aB (K:=K) rfl) (pv 0) ax (fun _ _=>rfl))))
   (av (cO (gz (dG (bB cM (hr.mono (by omega)) (aa (aO (aB (K:=K) rfl) (pv 7) ax (fun _ _=>rfl)) (aa (pv 1) (aa (pv 2) aw))))))
   (aE (a0 dF))
   bD)
   (aE (a0 (aO (aB (K:=K) rfl) (pv 7) ax (fun _ _=>rfl))))))))))))))))),
   tG (n:=5) (k:=4) (bQ (eE (kg (a7 (gC (cF xj (af ae aA))) (a7 (gC (cF oR (af ae aA))) eV))) cV)
   (bQ (jY (oA (aX (ar l7 (bO (af ae (af ae (af (ar bT (ar cW ae ae) ay) aA)))) (dh (af cP (af cP (af cP (af cP (af cP (af cP aA))))))))))
   (fU (du fun _=>.non))
   eP)
   (bQ (jY (oA (aX (ar l7 (bO (af ae (af ae (af (ar gM (ar bT (ar cW ae ae) ay) (ar J_I ay ay)) aA)))) (dh (af cP (af cP (af cP (af cP (af cP (af cP aA))))))))))
   (fU (du fun _=>.non))
   eP)
   (bQ (eE (gC (bO (af ae aA))) cV)
   (bQ (eE (pR (a7 bP (a7 bP (a7 bP eV)))) cV)
   (bQ (eE (Cq (a7 bP (a7 bP (a7 bP (a7 bP eV))))) cV)
   (bQ (jY (oA (ia (gB (fQ (mU ae))) (ia (aX (ar l7 (cF iI (af ae aA)) ay)) (ia (gB (fQ (mU (ar bT ae ay)))) (aX (ar l7 (ar bT ae ay) ae))))))
   (fU (du fun _=>.non))
   eP)
   (bQ (jY (oA (ia (gB (fQ (bO (af (ar bT ae ay) (af ae (af ae aA)))))) (gB (fQ (bO (af ae (af (ar bT ae ay) (af (ar bT ae ay) aA))))))))
   (fU (du fun _=>.non))
   eP)
   (bQ (jY (oA (aX (ar xh (ar gM (cF iI (af ae aA)) (bO (af (ar bT ae ay) aA))) (ar gM ae ay))))
   (fU (du fun _=>.non))
   eP)
   (bQ (oP (Hg (kf bP (du fun _=>.int _)) (a7 (du fun _=>.str _) eV)))
   (bQ (oP (Hq DO (kf bP (du fun _=>.int _))))
   (bQ (oP (Ew (kf bP (du fun _=>.int _))))
   (bQ (jY (oA (gB (fQ (bO (af (ar bT ae ay) (af ae (af ae aA)))))))
   (fU (du fun _=>.non))
   eP)
   (fU (kf bP (du fun _=>.int _)))))))))))))))) rfl h⟩
theorem qK (Z:fP mg) (T:Top K mg "_law_key_due" jf) :Def P w K mg base CX0 1 "_law_key_due" ["_law_held","_law_name","_law_cell"] (spM eL):=by
 have Dg:mg "min" = none:=Z _ (by decide +kernel)
 refine T.def iC (fun vs H Q E h=>dr h) (fun _ _ _ _ _ _ us hl=>match us,hl with | [_,_,_],_=>rfl) fun f cdv A outer s H vs Q E hr h=>?_
 have hu:=hr.units
 exact ⟨_,(av (lA (lW (EC (K:=K) rfl) (bF (hv1 hu) (pv 0) (pv 1) (fun _ _=>rfl)) yn (kH ax)) (gO rfl (bc (aY (i:=3) iC.nd rfl (by walk_at "l")) (bc (aY (i:=4) iC.nd rfl (by walk_at "l")) gN))))
   (av (cO (PW.pt (g9 (bh (ke (K:=K) rfl hu) (aU cA (pv 2) ax) ax (bA _)) (iW (bh wZ (pv 4) dF (bA _)))))
   (aE (a0 (aU iY (aU iY (pv 3) ax) (aU cA (aU d6 (pv 2) ax) ax))))
   bD)
   (av (cO (bh HY (aU cA (pv 2) ax) ax (bA _))
   (aE (a0 (aS (rE rfl) rfl Dg PyProof.Rows.boot_min (aa (aU iY (pv 3) ax) (aa (aU iY (aU (dM (K:=K) rfl) (aO (aB (K:=K) rfl) (bF (hv1 hu) (pv 0) (pv 4) (fun _ _=>rfl)) ax (fun _ _=>rfl)) (aU cA (aU d6 (pv 2) ax) ax)) ax) aw)))))
   bD)
   (aE (a0 (aU iY (aU iY (aS (rE rfl) rfl Dg PyProof.Rows.boot_min (aa (pv 3) (aa (aO (aB (K:=K) rfl) (bF (hv1 hu) (pv 0) (pv 4) (fun _ _=>rfl)) ax (fun _ _=>rfl)) aw))) ax) (aU cA (aU d6 (pv 2) ax) (aU sJ ax ax)))))))),
   eU (n:=3) (k:=2) (aR (kK (yx Jn (ar cW ae ae) yw (kJ ay)) (iK (bz bE (bz bE iH))))
   (aR (gL (ia (aX (ar uY (ar J_I ae ay) ay)) (aX (ar GS ae gA)))
   (cm (ar qU (ar qU ae ay) (ar J_I (ar J_I ae ay) ay)))
   dg)
   (aR (gL (aX (ar xh (ar J_I ae ay) ay))
   (cm (cF Fs (af (ar qU ae ay) (af (ar qU (ar gM (ar bT (ar cW ae ae) ay) (ar J_I (ar J_I ae ay) ay)) ay) aA))))
   dg)
   (cm (ar qU (ar qU (cF Fs (af ae (af (ar bT (ar cW ae ae) ay) aA))) ay) (ar J_I (ar J_I ae ay) (ar J_I ay ay))))))) rfl h⟩
theorem HQ {f:Addr} {fd:FuncData} (NL:oN K=true) (Z:fP mg) (F:Fun K "law" "law" zt f fd) (cM:Def P w K mg base CX0 2 "_law_is_pile" ["_law_found","_law_tops","_law_held"] (spM b6)) (ji:Def P w K mg base CX0 1 "_law_key_due" ["_law_held","_law_name","_law_cell"] (spM eL)) (iF:Def P w K mg base CX0 4 "_law_lessened" ["_law_pile","_law_tops","_law_held","_law_name","_law_key"] (spQ fD)) (c9:Def P w K mg base CX0 3 "_law_refused" ["_law_pile","_law_name","_law_key"] (spM bL)) (jT:Def P w K mg base CX0 15 "_law_begun" ["_law_cells"] (spD gv)):kX P w K mg base CX0 16 f fd ["_law_script"] (A6 K):=by
 have dj:mg "len" = none:=Z _ (by decide +kernel)
 have gJ:mg "list" = none:=Z _ (by decide +kernel)
 have jh:mg "dict" = none:=Z _ (by decide +kernel)
 refine kX.imp (sp:=spM FT) ?_ (GV NL De)
 refine F.ok jO (fun vs H Q E h=>Eh h) fun cdv A outer s H vs Q E hr h=>?_
 have hu:=hr.units
 exact ⟨_,(av (lA (bB jT (hr.mono (by omega)) (aa (lW (pC (K:=K) rfl) (pv 0) (kH ax) (kH ax)) aw)) (gO rfl (bc (aY (i:=1) jO.nd rfl (by walk_at "l")) (bc (aY (i:=2) jO.nd rfl (by walk_at "l")) gN))))
   (av (bg (i:=3) jO.nd rfl (by walk_at "l") (bY (aa (cT (lD (K:=K) rfl) rfl gJ PyProof.Rows.boot_list (aa (pv 1) aw)) (aa (cT jE rfl jh PyProof.Rows.boot_dict (aa (pv 2) aw)) aw))))
   (av (lB PassesOwn.never rfl (l9 (K:=K) rfl (lW (pC (K:=K) rfl) (pv 0) yn (kH ax))) (aY (i:=4) jO.nd rfl (by walk_at "l"))
   (av (bg (i:=5) jO.nd rfl (by walk_at "l") (aO (aB (K:=K) rfl) (dm (aa dR (aa dR (aa dR (aa dR (aa dR aw)))))) (aU cA (pv 4) ax) (fun _ _=>rfl)))
   (av (cO (bh (fw (K:=K) rfl hu) (bB c9 (hr.mono (by omega)) (aa (pv 3) (aa (pv 5) (aa (aU cA (pv 4) ax) aw)))) (dm (aa cE (aa cE (aa cE (aa cE (aa cE (aa cE aw))))))) (bA _))
   (aE (a0 cE))
   bD)
   (av (bg (i:=6) jO.nd rfl (by walk_at "l") (cT (nY rfl) rfl gJ PyProof.Rows.boot_list (aa (pv 2) aw)))
   (aE (cO (bh (fw (K:=K) rfl hu) (pv 6) (dm aw) (bA _))
   (av (bg (i:=7) jO.nd rfl (by walk_at "l") (aO (aB (K:=K) rfl) (pv 6) (aU cA (aU d6 (pv 4) ax) (aS (cy (K:=K) rfl) rfl dj PySem.boot_len (aa (pv 6) aw))) (fun _ _=>rfl)))
   (av (bg (i:=3) jO.nd rfl (by walk_at "l") (bB iF (hr.mono (by omega)) (aa (pv 3) (aa (pv 1) (aa (pv 2) (aa (pv 7) (aa (bB ji (hr.mono (by omega)) (aa (pv 2) (aa (pv 7) (aa (pv 4) aw)))) aw)))))))
   (aE (cO (bh wZ (pv 3) dF (bA _))
   (aE (a0 cE))
   bD))))
   bD))))))
   (aE (a0 (bB cM (hr.mono (by omega)) (aa (pv 3) (aa (pv 1) (aa (pv 2) aw))))))))),
   Eg (n:=1) (k:=7) (bQ (eE (Cp (a7 (gC (yx GU ae (kJ ay) (kJ ay))) eV)) (D8 (vo (vo D6))))
   (bQ (eE (kg (a7 (gC (cF xj (af ae aA))) (a7 (gC (cF oR (af ae aA))) eV))) cV)
   (bQ (yQ (gC (yx GU ae yw (kJ ay))) cV
   (bQ (eE (gC (ar bT (dh (af et (af et (af et (af et (af et aA)))))) (ar J_I ae ay))) cV)
   (bQ (jY (oA (aX (ar l7 (bO (af ae (af ae (af (ar J_I ae ay) aA)))) (dh (af cP (af cP (af cP (af cP (af cP (af cP aA))))))))))
   (fU (du fun _=>.bl _))
   eP)
   (bQ (eE (gC (cF yX (af ae aA))) cV)
   (jY (oA (aX (ar l7 ae (dh aA))))
   (bQ (eE (kf bP (gC (ar J_I (ar J_I ae ay) (cF iI (af ae aA))))) cV)
   (bQ (eE (pR (a7 bP (a7 bP (a7 bP (a7 bP (a7 (gC (bO (af ae (af ae (af ae aA))))) eV)))))) cV)
   (jY (oA (aX (ar GS ae gA)))
   (fU (du fun _=>.bl _))
   eP)))
   eP)))))
   (fU (gC (bO (af ae (af ae (af ae aA))))))))) rfl h⟩
end
end K75
open PySem PySem.W PyProof.Rows
set_option maxRecDepth 100000 in
set_option maxHeartbeats 0 in
theorem PySem.Challenge.cw_creditworks_k75_keys_made_less_holds : PySem.Challenge.rw_creditworks_k75_keys_made_less.Holds := by
 w_on; o_law; k_head; (case hw=>w_witness2)
 k_fill
 refine L2.A7 (l:=PySem.Challenge.rw_creditworks_k75_keys_made_less) (k:=16) (x:="_law_script") (st:=K75.zt) rfl rfl ⟨rfl,by decide,by decide⟩ (fun w h Y=>PySem.W.kIn_of Y) (fun _ _ _ _ _ _ _=>rfl) ?F
 case F =>
  intro w mg h KX G
  have x9:L2.Top (L2.KOf KX) mg "_law_like" K75.lK:=by
   dsimp only [L2.KOf]
   refine' L2.Top.mk' KX G ?a ?l ?c ?k
   (case a=>k_is); (case l=>k_is); (case c=>k_is); (case k=>k_is)
  have AE:L2.Top (L2.KOf KX) mg "_law_cut" K75.nH:=by
   dsimp only [L2.KOf]
   refine' L2.Top.mk' KX G ?a ?l ?c ?k
   (case a=>k_is); (case l=>k_is); (case c=>k_is); (case k=>k_is)
  have ux:L2.Top (L2.KOf KX) mg "_law_before" K75.jM:=by
   dsimp only [L2.KOf]
   refine' L2.Top.mk' KX G ?a ?l ?c ?k
   (case a=>k_is); (case l=>k_is); (case c=>k_is); (case k=>k_is)
  have ya:L2.Top (L2.KOf KX) mg "_law_hung" K75.lL:=by
   dsimp only [L2.KOf]
   refine' L2.Top.mk' KX G ?a ?l ?c ?k
   (case a=>k_is); (case l=>k_is); (case c=>k_is); (case k=>k_is)
  have rq:L2.Top (L2.KOf KX) mg "_law_name_by" K75.ja:=by
   dsimp only [L2.KOf]
   refine' L2.Top.mk' KX G ?a ?l ?c ?k
   (case a=>k_is); (case l=>k_is); (case c=>k_is); (case k=>k_is)
  have uy:L2.Top (L2.KOf KX) mg "_law_key_by" K75.jN:=by
   dsimp only [L2.KOf]
   refine' L2.Top.mk' KX G ?a ?l ?c ?k
   (case a=>k_is); (case l=>k_is); (case c=>k_is); (case k=>k_is)
  have wm:L2.Top (L2.KOf KX) mg "_law_built" K75.kz:=by
   dsimp only [L2.KOf]
   refine' L2.Top.mk' KX G ?a ?l ?c ?k
   (case a=>k_is); (case l=>k_is); (case c=>k_is); (case k=>k_is)
  have wo:L2.Top (L2.KOf KX) mg "_law_grown" K75.kA:=by
   dsimp only [L2.KOf]
   refine' L2.Top.mk' KX G ?a ?l ?c ?k
   (case a=>k_is); (case l=>k_is); (case c=>k_is); (case k=>k_is)
  have wq:L2.Top (L2.KOf KX) mg "_law_begun" K75.kB:=by
   dsimp only [L2.KOf]
   refine' L2.Top.mk' KX G ?a ?l ?c ?k
   (case a=>k_is); (case l=>k_is); (case c=>k_is); (case k=>k_is)
  have qL:L2.Top (L2.KOf KX) mg "_law_is_entry" K75.ix:=by
   dsimp only [L2.KOf]
   refine' L2.Top.mk' KX G ?a ?l ?c ?k
   (case a=>k_is); (case l=>k_is); (case c=>k_is); (case k=>k_is)
  have rA:L2.Top (L2.KOf KX) mg "_law_is_pile" K75.jb:=by
   dsimp only [L2.KOf]
   refine' L2.Top.mk' KX G ?a ?l ?c ?k
   (case a=>k_is); (case l=>k_is); (case c=>k_is); (case k=>k_is)
  have mJ:L2.Top (L2.KOf KX) mg "hold_there" K75.gX:=by
   dsimp only [L2.KOf]
   refine' L2.Top.mk' KX G ?a ?l ?c ?k
   (case a=>k_is); (case l=>k_is); (case c=>k_is); (case k=>k_is)
  have qM:L2.Top (L2.KOf KX) mg "names_to_cut" K75.iA:=by
   dsimp only [L2.KOf]
   refine' L2.Top.mk' KX G ?a ?l ?c ?k
   (case a=>k_is); (case l=>k_is); (case c=>k_is); (case k=>k_is)
  have AF:L2.Top (L2.KOf KX) mg "without" K75.nI:=by
   dsimp only [L2.KOf]
   refine' L2.Top.mk' KX G ?a ?l ?c ?k
   (case a=>k_is); (case l=>k_is); (case c=>k_is); (case k=>k_is)
  have Dh:L2.Top (L2.KOf KX) mg "as_top" K75.qC:=by
   dsimp only [L2.KOf]
   refine' L2.Top.mk' KX G ?a ?l ?c ?k
   (case a=>k_is); (case l=>k_is); (case c=>k_is); (case k=>k_is)
  have wt:L2.Top (L2.KOf KX) mg "with_mark" K75.kC:=by
   dsimp only [L2.KOf]
   refine' L2.Top.mk' KX G ?a ?l ?c ?k
   (case a=>k_is); (case l=>k_is); (case c=>k_is); (case k=>k_is)
  have AG:L2.Top (L2.KOf KX) mg "cut_off" K75.nJ:=by
   dsimp only [L2.KOf]
   refine' L2.Top.mk' KX G ?a ?l ?c ?k
   (case a=>k_is); (case l=>k_is); (case c=>k_is); (case k=>k_is)
  have yb:L2.Top (L2.KOf KX) mg "standing" K75.lM:=by
   dsimp only [L2.KOf]
   refine' L2.Top.mk' KX G ?a ?l ?c ?k
   (case a=>k_is); (case l=>k_is); (case c=>k_is); (case k=>k_is)
  have ot:L2.Top (L2.KOf KX) mg "make_less" K75.iU:=by
   dsimp only [L2.KOf]
   refine' L2.Top.mk' KX G ?a ?l ?c ?k
   (case a=>k_is); (case l=>k_is); (case c=>k_is); (case k=>k_is)
  have rB:L2.Top (L2.KOf KX) mg "_law_refused" K75.jd:=by
   dsimp only [L2.KOf]
   refine' L2.Top.mk' KX G ?a ?l ?c ?k
   (case a=>k_is); (case l=>k_is); (case c=>k_is); (case k=>k_is)
  have rC:L2.Top (L2.KOf KX) mg "pile_credit" K75.je:=by
   dsimp only [L2.KOf]
   refine' L2.Top.mk' KX G ?a ?l ?c ?k
   (case a=>k_is); (case l=>k_is); (case c=>k_is); (case k=>k_is)
  have yc:L2.Top (L2.KOf KX) mg "_law_done" K75.lN:=by
   dsimp only [L2.KOf]
   refine' L2.Top.mk' KX G ?a ?l ?c ?k
   (case a=>k_is); (case l=>k_is); (case c=>k_is); (case k=>k_is)
  have qN:L2.Top (L2.KOf KX) mg "_law_lessened" K75.iB:=by
   dsimp only [L2.KOf]
   refine' L2.Top.mk' KX G ?a ?l ?c ?k
   (case a=>k_is); (case l=>k_is); (case c=>k_is); (case k=>k_is)
  have rD:L2.Top (L2.KOf KX) mg "_law_key_due" K75.jf:=by
   dsimp only [L2.KOf]
   refine' L2.Top.mk' KX G ?a ?l ?c ?k
   (case a=>k_is); (case l=>k_is); (case c=>k_is); (case k=>k_is)
  have JE:L2.Top (L2.KOf KX) mg "law" K75.zt:=by
   dsimp only [L2.KOf]
   refine' L2.Top.mk' KX G ?a ?l ?c ?k
   (case a=>k_is); (case l=>k_is); (case c=>k_is); (case k=>k_is)
  have mI:mg "ValueError" = none:=by
   refine' PySem.W.mg_none_of KX G ?z
   (case z=>k_is)
  have xY:mg "bool" = none:=by
   refine' PySem.W.mg_none_of KX G ?z
   (case z=>k_is)
  have jh:mg "dict" = none:=by
   refine' PySem.W.mg_none_of KX G ?z
   (case z=>k_is)
  have oq:mg "enumerate" = none:=by
   refine' PySem.W.mg_none_of KX G ?z
   (case z=>k_is)
  have aV:mg "isinstance" = none:=by
   refine' PySem.W.mg_none_of KX G ?z
   (case z=>k_is)
  have dj:mg "len" = none:=by
   refine' PySem.W.mg_none_of KX G ?z
   (case z=>k_is)
  have gJ:mg "list" = none:=by
   refine' PySem.W.mg_none_of KX G ?z
   (case z=>k_is)
  have FY:mg "max" = none:=by
   refine' PySem.W.mg_none_of KX G ?z
   (case z=>k_is)
  have Dg:mg "min" = none:=by
   refine' PySem.W.mg_none_of KX G ?z
   (case z=>k_is)
  have mG:mg "range" = none:=by
   refine' PySem.W.mg_none_of KX G ?z
   (case z=>k_is)
  have ef:mg "tuple" = none:=by
   refine' PySem.W.mg_none_of KX G ?z
   (case z=>k_is)
  have Z:K75.fP mg:=by
   intro x hx
   simp only [List.mem_cons,List.not_mem_nil,or_false] at hx
   rcases hx with rfl | rfl | rfl | rfl | rfl | rfl | rfl | rfl | rfl | rfl | rfl <;> assumption
  have NL:Mir.oN (L2.KOf KX)=true:=by
   dsimp only [L2.KOf]
   first | rfl | kernel_rfl | k_is
  have CFF:∃ ba bb b7 dw dy cQ,K75.CF (L2.KOf KX) mg ba bb b7 dw dy cQ:=by
   dsimp only [L2.KOf]
   refine' ⟨_,_,_,_,_,_,⟨?nK,PySem.W.mg_of KX G ?f6,?nL,PySem.W.mg_of KX G ?f7,PySem.W.mg_of KX G ?jg,⟨?wu,?wx,?wy,?wz,?wA,?wB,?wC,?wD⟩,PySem.W.mg_of KX G ?ur,?gE,PySem.W.mg_of KX G ?uu,?gF,PySem.W.mg_of KX G ?qD,?f9,?fL,?fM,?d4,⟨?wF,?wG,?wH,?wI,?wJ,?wK,?wL,?wM⟩,?gG,?gH,?gf,?fN,?fO,?d5,?h_NotLess_CreditError,?h_Lacking_CreditError⟩⟩
   (case f6=>k_is)
   (case f7=>k_is)
   (case jg=>k_is)
   (case ur=>k_is)
   (case uu=>k_is)
   (case qD=>k_is)
   (case nK=>first | k_is | k_exc | rfl | kernel_rfl | decide +kernel)
   (case nL=>first | k_is | k_exc | rfl | kernel_rfl | decide +kernel)
   (case wu=>first | k_is | k_exc | rfl | kernel_rfl | decide +kernel)
   (case wx=>first | k_is | k_exc | rfl | kernel_rfl | decide +kernel)
   (case wy=>first | k_is | k_exc | rfl | kernel_rfl | decide +kernel)
   (case wz=>first | k_is | k_exc | rfl | kernel_rfl | decide +kernel)
   (case wA=>first | k_is | k_exc | rfl | kernel_rfl | decide +kernel)
   (case wB=>first | k_is | k_exc | rfl | kernel_rfl | decide +kernel)
   (case wC=>first | k_is | k_exc | rfl | kernel_rfl | decide +kernel)
   (case wD=>first | k_is | k_exc | rfl | kernel_rfl | decide +kernel)
   (case gE=>first | k_is | k_exc | rfl | kernel_rfl | decide +kernel)
   (case gF=>first | k_is | k_exc | rfl | kernel_rfl | decide +kernel)
   (case f9=>first | k_is | k_exc | rfl | kernel_rfl | decide +kernel)
   (case fL=>first | k_is | k_exc | rfl | kernel_rfl | decide +kernel)
   (case fM=>first | k_is | k_exc | rfl | kernel_rfl | decide +kernel)
   (case d4=>first | k_is | k_exc | rfl | kernel_rfl | decide +kernel)
   (case wF=>first | k_is | k_exc | rfl | kernel_rfl | decide +kernel)
   (case wG=>first | k_is | k_exc | rfl | kernel_rfl | decide +kernel)
   (case wH=>first | k_is | k_exc | rfl | kernel_rfl | decide +kernel)
   (case wI=>first | k_is | k_exc | rfl | kernel_rfl | decide +kernel)
   (case wJ=>first | k_is | k_exc | rfl | kernel_rfl | decide +kernel)
   (case wK=>first | k_is | k_exc | rfl | kernel_rfl | decide +kernel)
   (case wL=>first | k_is | k_exc | rfl | kernel_rfl | decide +kernel)
   (case wM=>first | k_is | k_exc | rfl | kernel_rfl | decide +kernel)
   (case gG=>first | k_is | k_exc | rfl | kernel_rfl | decide +kernel)
   (case gH=>first | k_is | k_exc | rfl | kernel_rfl | decide +kernel)
   (case gf=>first | k_is | k_exc | rfl | kernel_rfl | decide +kernel)
   (case fN=>first | k_is | k_exc | rfl | kernel_rfl | decide +kernel)
   (case fO=>first | k_is | k_exc | rfl | kernel_rfl | decide +kernel)
   (case d5=>first | k_is | k_exc | rfl | kernel_rfl | decide +kernel)
   (case h_NotLess_CreditError=>first | k_is | k_exc | rfl | kernel_rfl | decide +kernel)
   (case h_Lacking_CreditError=>first | k_is | k_exc | rfl | kernel_rfl | decide +kernel)
  obtain ⟨ba,bb,b7,dw,dy,cQ,cf⟩:=CFF
  refine ⟨JE,fun f fd Ff base kb gb=>?_⟩
  have lP:=K75.we (P:=PySem.Challenge.rw_creditworks_k75_keys_made_less.prog) (w:=w) (base:=base) Z x9
  have g7:=K75.xX (P:=PySem.Challenge.rw_creditworks_k75_keys_made_less.prog) (w:=w) (base:=base) Z AE
  have eg:=K75.rh (P:=PySem.Challenge.rw_creditworks_k75_keys_made_less.prog) (w:=w) (base:=base) Z ux
  have lO:=K75.wg (P:=PySem.Challenge.rw_creditworks_k75_keys_made_less.prog) (w:=w) (base:=base) Z ya
  have b8:=K75.qE (P:=PySem.Challenge.rw_creditworks_k75_keys_made_less.prog) (w:=w) (base:=base) Z rq
  have dz:=K75.ri (P:=PySem.Challenge.rw_creditworks_k75_keys_made_less.prog) (w:=w) (base:=base) Z uy
  have jP:=K75.rj (P:=PySem.Challenge.rw_creditworks_k75_keys_made_less.prog) (w:=w) (base:=base) Z wm g7 lO eg dz b8 lP
  have gy:=K75.mH (P:=PySem.Challenge.rw_creditworks_k75_keys_made_less.prog) (w:=w) (base:=base) Z wo b8 12
  have jT:=K75.rl (P:=PySem.Challenge.rw_creditworks_k75_keys_made_less.prog) (w:=w) (base:=base) Z wq dz b8 gy jP
  have iD:=K75.oE (P:=PySem.Challenge.rw_creditworks_k75_keys_made_less.prog) (w:=w) (base:=base) Z qL
  have cM:=K75.qF (P:=PySem.Challenge.rw_creditworks_k75_keys_made_less.prog) (w:=w) (base:=base) Z rA iD
  have jQ:=K75.qG (P:=PySem.Challenge.rw_creditworks_k75_keys_made_less.prog) (w:=w) (base:=base) Z mJ cf
  have jS:=K75.rm (P:=PySem.Challenge.rw_creditworks_k75_keys_made_less.prog) (w:=w) (base:=base) Z mJ
  have iE:=K75.oF (P:=PySem.Challenge.rw_creditworks_k75_keys_made_less.prog) (w:=w) (base:=base) Z qM
  have nM:=K75.xZ (P:=PySem.Challenge.rw_creditworks_k75_keys_made_less.prog) (w:=w) (base:=base) Z AF
  have qH:=K75.AD (P:=PySem.Challenge.rw_creditworks_k75_keys_made_less.prog) (w:=w) (base:=base) Z Dh
  have kE:=K75.uv (P:=PySem.Challenge.rw_creditworks_k75_keys_made_less.prog) (w:=w) (base:=base) Z wt
  have nN:=K75.x8 (P:=PySem.Challenge.rw_creditworks_k75_keys_made_less.prog) (w:=w) (base:=base) Z AG kE qH nM iE
  have jR:=K75.wj (P:=PySem.Challenge.rw_creditworks_k75_keys_made_less.prog) (w:=w) (base:=base) Z yb
  have kF:=K75.rn (P:=PySem.Challenge.rw_creditworks_k75_keys_made_less.prog) (w:=w) (base:=base) Z ot cf jQ
  have kG:=K75.uw (P:=PySem.Challenge.rw_creditworks_k75_keys_made_less.prog) (w:=w) (base:=base) Z ot nN jR jS
  have c9:=K75.qI (P:=PySem.Challenge.rw_creditworks_k75_keys_made_less.prog) (w:=w) (base:=base) Z rB cf kF
  have gp:=K75.qJ (P:=PySem.Challenge.rw_creditworks_k75_keys_made_less.prog) (w:=w) (base:=base) Z rC
  have lQ:=K75.wk (P:=PySem.Challenge.rw_creditworks_k75_keys_made_less.prog) (w:=w) (base:=base) Z yc eg g7
  have iF:=K75.oG (P:=PySem.Challenge.rw_creditworks_k75_keys_made_less.prog) (w:=w) (base:=base) Z qN cM gp lQ kG c9
  have ji:=K75.qK (P:=PySem.Challenge.rw_creditworks_k75_keys_made_less.prog) (w:=w) (base:=base) Z rD
  exact K75.HQ NL Z Ff cM ji iF c9 jT
