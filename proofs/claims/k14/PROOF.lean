import PyProof.Rows.All
import Wide.All
import OpenK.AllK
import Wide.FinOn
import Lean
import PyProof.EqAt
import PyProof.EqKinds
import PyProof.TupleCall
import KE.KTryMore
import PyProof.Rows.Range3
import KE.KxText
import PyProof.ZipIter
import PyProof.ExcInit
import PyProof.FString
import PyProof.InstStore
import OpenK.KCls
import PyProof.InstStoreFacts
import PyProof.ExcClass2
import PyProof.ExcBaseAll.ValueError
import OpenK.KMake
import KE.KDictLaws
import KE.KDictList
import PyProof.Rows.SetFrom
import PySem.Challenge.RW_creditworks_k14_what_is_refused

set_option Elab.async false
set_option linter.all false
set_option maxRecDepth 100000
namespace L2
open PySem PySem.Spec PyProof.Rows
abbrev Key:=Sum Int Str
def keyIs:Key->Value->Bool
  | .inl k,v=>Value.isInt k v
  | .inr x,v=>Value.isStrOf x v
def keyH (w:World):Key->Int
  | .inl k=>hashInt k
  | .inr x=>hashStr w x
theorem keyIs_shape:∀ {k:Key} {v:Value},keyIs k v=true->(∃ i t,k=Sum.inl i∧v=Value.int i t)∨(∃ x t,k=Sum.inr x∧v=Value.str x t)
  | .inl i,v,h=>by
    obtain ⟨t,e⟩:=Value.isInt_shape (k:=i) (v:=v) h
    exact .inl ⟨i,t,rfl,e⟩
  | .inr x,v,h=>by
    obtain ⟨t,e⟩:=Value.isStrOf_shape (x:=x) (v:=v) h
    exact .inr ⟨x,t,rfl,e⟩
theorem key_ll (a b:Int):decide ((Sum.inl a:Key)=Sum.inl b)=(a == b):=by
  by_cases e:a=b
  . subst e; simp
  . have h : ¬ (Sum.inl a:Key)=Sum.inl b:=fun q=>e (Sum.inl.inj q)
    rw [decide_eq_false h]
    exact (beq_eq_false_iff_ne.mpr e).symm
theorem key_rr (a b:Str):decide ((Sum.inr a:Key)=Sum.inr b)=decide (a=b):=by
  by_cases e:a=b
  . subst e; simp
  . have h : ¬ (Sum.inr a:Key)=Sum.inr b:=fun q=>e (Sum.inr.inj q)
    rw [decide_eq_false h,decide_eq_false e]
theorem key_lr (a:Int) (b:Str):decide ((Sum.inl a:Key)=Sum.inr b)=false:=decide_eq_false (fun q=>nomatch q)
theorem key_rl (a:Str) (b:Int):decide ((Sum.inr a:Key)=Sum.inl b)=false:=decide_eq_false (fun q=>nomatch q)
def mixKind (prog:Program) (w:World):PySem.KeyKind prog w Key where
  is:=keyIs
  hash:=keyH w
  inj:=fun v a b ha hb=>by
    rcases keyIs_shape ha with ⟨i,t,rfl,rfl⟩ | ⟨x,t,rfl,rfl⟩
    . rcases keyIs_shape hb with ⟨j,u,rfl,e⟩ | ⟨y,u,rfl,e⟩
      . injection e with e1 _; rw [e1]
      . exact nomatch e
    . rcases keyIs_shape hb with ⟨j,u,rfl,e⟩ | ⟨y,u,rfl,e⟩
      . exact nomatch e
      . injection e with e1 _; rw [e1]
  byValue:=fun k v h=>by
    rcases keyIs_shape h with ⟨i,t,rfl,rfl⟩ | ⟨x,t,rfl,rfl⟩ <;> rfl
  pyHash:=fun hv h=>by
    rcases keyIs_shape hv with ⟨i,t,rfl,rfl⟩ | ⟨x,t,rfl,rfl⟩
    . exact wpAny_pyHash_int h
    . exact wpAny_pyHash_str h
  eqBool:=fun hu hv h=>by
    rcases keyIs_shape hu with ⟨i,t,rfl,rfl⟩ | ⟨x,t,rfl,rfl⟩
    . rcases keyIs_shape hv with ⟨j,u,rfl,rfl⟩ | ⟨y,u,rfl,rfl⟩
      . rw [key_ll] at h; exact wpAny_eqBool_int h
      . rw [key_lr] at h; exact SeqAt.EqAt.int_str i t y u _ _ _ _ h
    . rcases keyIs_shape hv with ⟨j,u,rfl,rfl⟩ | ⟨y,u,rfl,rfl⟩
      . rw [key_rl] at h; exact SeqAt.EqAt.str_int x t j u _ _ _ _ h
      . rw [key_rr] at h; exact wpAny_eqBool_str h
  «strs»:=fun k x t v h=>by
    rcases keyIs_shape h with ⟨i,u,rfl,e⟩ | ⟨y,u,rfl,e⟩
    . exact nomatch e
    . injection e with e1 _
      subst e1
      cases v <;> rfl
end L2
namespace L2
open PySem PySem.Spec PyProof.Rows
inductive V where
  | non | bl (b:Bool) | int (i:Int) | str (x:Str) | byt (b:Array UInt8) | flt (b:UInt64) | ref (a:Addr) | ty (n:String)
  deriving DecidableEq
def RelV:V->Value->Prop
  | .non,u=>u=Value.none
  | .bl b,u=>u=Value.bool b
  | .int i,u=>∃ t,u=Value.int i t
  | .str x,u=>∃ t,u=Value.str x t
  | .byt b,u=>∃ t,u=Value.bytes b t
  | .flt b,u=>∃ t,u=Value.float b t
  | .ref a,u=>u=Value.ref a
  | .ty n,u=>u=Value.type n
abbrev Vals:List V->List Value->Prop:=Paired RelV
theorem Vals.length {xs:List V} {us:List Value} (r:Vals xs us):xs.length=us.length:=Paired.length r
theorem Vals.get:∀ {xs:List V} {us:List Value} {i:Nat} {x:V},Vals xs us->xs[i]?=some x->∃ u,us[i]?=some u∧RelV x u
  | _,_,_,_,.nil,e=>by simp at e
  | _,_,0,_,.cons r _,e=>by simp at e; subst e; exact ⟨_,rfl,r⟩
  | _,_,i + 1,x,.cons _ t,e=>by
    obtain ⟨u,h1,h2⟩:=Vals.get (i:=i) (x:=x) t (by simpa using e)
    exact ⟨u,by simpa using h1,h2⟩
theorem Vals.set {x:V} {u:Value} (r:RelV x u):∀ {xs:List V} {us:List Value} (i:Nat),Vals xs us->Vals (xs.set i x) (us.set i u)
  | _,_,_,.nil=>.nil
  | _,_,0,.cons _ t=>.cons r t
  | _,_,i + 1,.cons q t=>.cons q (Vals.set r i t)
theorem Vals.append:∀ {xs ys:List V} {us ws:List Value},Vals xs us->Vals ys ws->Vals (xs++ys) (us++ws)
  | _,_,_,_,.nil,s=>s
  | _,_,_,_,.cons r t,s=>.cons r (Vals.append t s)
theorem Vals.take:∀ {xs:List V} {us:List Value} (n:Nat),Vals xs us->Vals (xs.take n) (us.take n)
  | _,_,0,_=>.nil
  | _,_,_ + 1,.nil=>.nil
  | _,_,n + 1,.cons r t=>.cons r (Vals.take n t)
theorem Vals.drop:∀ {xs:List V} {us:List Value} (n:Nat),Vals xs us->Vals (xs.drop n) (us.drop n)
  | _,_,0,r=>r
  | _,_,_ + 1,.nil=>.nil
  | _,_,n + 1,.cons _ t=>Vals.drop n t
theorem Vals.none_of:∀ {xs:List V} {us:List Value} {i:Nat},Vals xs us->xs[i]?=none->us[i]?=none:=fun {xs us i} r e=>by
  have h1:=r.length
  have h2:xs.length≤i:=List.getElem?_eq_none_iff.mp e
  exact List.getElem?_eq_none_iff.mpr (by omega)
def RelO:Option V->Option Value->Prop
  | some v,some u=>RelV v u
  | none,none=>True
  | _,_=>False
def KV {κ:Type}:List (κ × V)->List (κ × Value)->Prop:=Paired fun (p : κ × V) (q : κ × Value)=>p.1=q.1∧RelV p.2 q.2
def kV:Key->V
  | .inl i=>.int i
  | .inr x=>.str x
inductive HO where
  | lst (xs:List V)
  | tup (xs:List V)
  | dK (kvs:List (Key × V)) | dT (kvs:List (List Key × V))
  | set (S:Int->Bool) (n:Nat)
  | ins (C dx:Addr) (fs:List (Str × V))
  | own (x:Addr)
  | xd (fs:List (Str × V))
  | met (f x:Addr)
  | rng (lo hi:Int)
  | frz (o:Obj) (u:HO)
  | tbl (ps:Array Value)
  | ext (φ:Heap->Prop)
abbrev Hp:=Addr->Option HO
def upd (H:Hp) (a:Addr) (o:HO):Hp:=fun b=>if b=a then some o else H b
theorem upd_same {H:Hp} {a:Addr} {o:HO}:upd H a o a=some o:=by unfold upd; rw [if_pos rfl]
theorem upd_ne {H:Hp} {a b:Addr} {o:HO} (h:b≠a):upd H a o b=H b:=by unfold upd; rw [if_neg h]
theorem upd_upd {H:Hp} {a:Addr} {o u:HO}:upd (upd H a o) a u=upd H a u:=by
  funext b; unfold upd; split <;> rfl
theorem ne_of {H:Hp} {a b:Addr} {o u:HO} (h:H a=some o) (h':H b=some u) (d:o≠u):a≠b:=by
  intro e; subst e; rw [h] at h'; exact d (Option.some.inj h')
theorem ne_of_none {H:Hp} {a b:Addr} {o:HO} (h:H a=some o) (h':H b=none):a≠b:=by
  intro e; subst e; rw [h] at h'; cases h'
section
variable (P:Program) (w:World)
def ObjOk (H:Hp) (h:Heap) (a:Addr):HO->Prop
  | .lst xs=>xs.length≤sizeLine∧∃ (its:List Value) (n:Nat),Vals xs its∧h.get? a=some { cls:=.type "list",data:=.seq its.toArray n }
  | .tup xs=>xs.length≤sizeLine∧∃ its:List Value,Vals xs its∧IsTup h a its.toArray
  | .dK kvs=>kvs.length≤sizeLine∧(a == sysModules)=false∧∃ vs,KV kvs vs∧h.DictOf (mixKind P w) a vs
  | .dT kvs=>kvs.length≤sizeLine∧(a == sysModules)=false∧∃ xs:List (List Key × Addr × Value),
      Paired (fun (p:List Key × V) (q:List Key × Addr × Value)=>p.1=q.1∧H q.2.1=some (.tup (p.1.map kV))∧RelV p.2 q.2.2) kvs xs ∧
      ∃ o es ep,h.get? a=some o∧o.ExactDict∧o.data=.dict es ep∧es.toList=xs.map (entryOfKey (tupleKind (mixKind P w)))∧(xs.map (·.1)).Nodup
  | .set S n=>h.SetOf (intKind P w) a S n
  | .ins C dx fs=>H dx=some (.own a)∧fs.length≤1000∧dx≠a∧h.get? a=some (PySem.W.instObj C dx) ∧
      ∃ mA,h.Ns1 dx mA∧(∀ f,RelO (fs.lookup f) (mA f))∧PySem.Within mA (fs.map (·.1))
  | .own _=>∃ o,h.get? a=some o
  | .xd fs=>∃ mA,h.Ns1 a mA∧∀ f,RelO (fs.lookup f) (mA f)
  | .rng lo hi=>∃ t u v,h.get? a=some { cls:=.type "range",data:=.fields #[.int lo t,.int hi u,.int 1 v] }
  | .frz o u=>h.get? a=some o∧ObjOk H h a u
  | .tbl ps=>h.get? a=some { cls:=.none,data:=.fields ps }
  | .met f x=>h.get? a=some (PySem.W.methodObj (.ref f) (.ref x))
  | .ext φ=>φ h∧(∃ o,h.get? a=some o)∧∀ h1 h2:Heap,φ h1->(∀ o,h1.get? a=some o->h2.get? a=some o)->φ h2
def HOk (H:Hp) (h:Heap):Prop:=∀ a o,H a=some o->ObjOk P w H h a o
end
section
variable {P:Program} {w:World} {H H':Hp} {h h':Heap} {a:Addr} {o:HO}
theorem ObjOk.lt (x:ObjOk P w H h a o):a < h.objs.size:=by
  cases o with
  | lst xs=>obtain ⟨_,_,_,_,e⟩:=x; exact Heap.lt_size e
  | tup xs=>obtain ⟨_,_,_,p⟩:=x; exact p.lt
  | dK kvs=>obtain ⟨_,_,_,_,o,_,_,e,_⟩:=x; exact Heap.lt_size e
  | dT kvs=>obtain ⟨_,_,_,_,o,_,_,e,_⟩:=x; exact Heap.lt_size e
  | set S n=>obtain ⟨o,_,_,_,e,_⟩:=x; exact Heap.lt_size e
  | ins C dx fs=>obtain ⟨_,_,_,e,_⟩:=x; exact Heap.lt_size e
  | own y=>obtain ⟨_,e⟩:=x; exact Heap.lt_size e
  | xd fs=>obtain ⟨_,⟨_,_,_,e,_⟩,_⟩:=x; exact Heap.lt_size e
  | rng lo hi=>obtain ⟨_,_,_,e⟩:=x; exact Heap.lt_size e
  | frz ob u=>obtain ⟨e,_⟩:=x; exact Heap.lt_size e
  | tbl ps=>exact Heap.lt_size (show h.get? a=some _ from x)
  | met f y=>exact Heap.lt_size (show h.get? a=some _ from x)
  | ext φ=>obtain ⟨_,⟨_,e⟩,_⟩:=x; exact Heap.lt_size e
theorem Paired.mapP {α β:Type} {F G : α->β->Prop}:∀ {l₁:List α} {l₂:List β},Paired F l₁ l₂->(∀ a b,F a b->G a b)->Paired G l₁ l₂
  | _,_,.nil,_=>.nil
  | _,_,.cons r t,f=>.cons (f _ _ r) (Paired.mapP t f)
theorem ObjOk.stay (x:ObjOk P w H h a o) (k:∀ b u,(b=a∨H b=some (.own a))->h.get? b=some u->h'.get? b=some u)
    (ho:∀ b,H b=some (.own a)->H' b=some (.own a)) (ht:∀ b xs,H b=some (.tup xs)->H' b=some (.tup xs)):ObjOk P w H' h' a o:=by
  induction o with
  | lst xs=>obtain ⟨z,its,n,r,e⟩:=x; exact ⟨z,its,n,r,k _ _ (.inl rfl) e⟩
  | tup xs=>obtain ⟨z,its,r,ob,e,c⟩:=x; exact ⟨z,its,r,ob,k _ _ (.inl rfl) e,c⟩
  | dK kvs=>obtain ⟨z,y,vs,r,ob,es,ep,e,c⟩:=x; exact ⟨z,y,vs,r,ob,es,ep,k _ _ (.inl rfl) e,c⟩
  | dT kvs =>
    obtain ⟨z,y,xs,r,ob,es,ep,e,c⟩:=x
    exact ⟨z,y,xs,Paired.mapP r fun p q z=>⟨z.1,ht _ _ z.2.1,z.2.2⟩,ob,es,ep,k _ _ (.inl rfl) e,c⟩
  | set S n=>obtain ⟨ob,es,ep,t,e,c⟩:=x; exact ⟨ob,es,ep,t,k _ _ (.inl rfl) e,c⟩
  | ins C dx fs =>
    obtain ⟨d,z,ne,e,mA,⟨od,es,ep,e2,c⟩,r⟩:=x
    exact ⟨ho _ d,z,ne,k _ _ (.inl rfl) e,mA,⟨od,es,ep,k _ _ (.inr d) e2,c⟩,r⟩
  | own y=>obtain ⟨ob,e⟩:=x; exact ⟨ob,k _ _ (.inl rfl) e⟩
  | xd fs=>obtain ⟨mA,⟨od,es,ep,e,c⟩,r⟩:=x; exact ⟨mA,⟨od,es,ep,k _ _ (.inl rfl) e,c⟩,r⟩
  | rng lo hi=>obtain ⟨t,u,v,e⟩:=x; exact ⟨t,u,v,k _ _ (.inl rfl) e⟩
  | frz ob u ih=>obtain ⟨e,q⟩:=x; exact ⟨k _ _ (.inl rfl) e,ih q⟩
  | tbl ps =>
    have e:h.get? a=some { cls:=.none,data:=.fields ps }:=x
    show h'.get? a=some { cls:=.none,data:=.fields ps }
    exact k a _ (.inl rfl) e
  | met f y =>
    have e:h.get? a=some (PySem.W.methodObj (.ref f) (.ref y)):=x
    show h'.get? a=some (PySem.W.methodObj (.ref f) (.ref y))
    exact k a _ (.inl rfl) e
  | ext φ=>obtain ⟨p,⟨o,e⟩,st⟩:=x; exact ⟨st _ _ p fun o q=>k _ _ (.inl rfl) q,⟨o,k _ _ (.inl rfl) e⟩,st⟩
theorem HOk.lt (x:HOk P w H h) (e:H a=some o):a < h.objs.size:=(x a o e).lt
theorem HOk.fresh (x:HOk P w H h) (e:h.objs.size≤a):H a=none:=by
  cases q:H a with
  | none=>rfl
  | some u=>exact absurd (Nat.lt_of_lt_of_le (x.lt q) e) (Nat.lt_irrefl _)
theorem HOk.kept (x:HOk P w H h) (k:∀ b u,h.get? b=some u->h'.get? b=some u):HOk P w H h':=fun a o e =>
  (x a o e).stay (fun b u _ q=>k b u q) (fun _ q=>q) fun _ _ q=>q
theorem HOk.laid (x:HOk P w H h) (k:∀ b u,h.get? b=some u->h'.get? b=some u) (hp:h.objs.size≤a) (new:ObjOk P w (upd H a o) h' a o):HOk P w (upd H a o) h':=fun b u e=>by
  have hn:=x.fresh hp
  by_cases hb:b=a
  . subst hb; rw [upd_same] at e; cases e; exact new
  . rw [upd_ne hb] at e
    exact (x b u e).stay (fun c v _ q=>k c v q) (fun c q=>by rw [upd_ne (ne_of_none q hn)]; exact q) fun c xs q=>by rw [upd_ne (ne_of_none q hn)]; exact q
end
def Rd (H:Hp) (a:Addr) (u:HO):Prop:=H a=some u∨∃ o,H a=some (.frz o u)
theorem Rd.of {H:Hp} {a:Addr} {u:HO} (h:H a=some u):Rd H a u:=.inl h
theorem Rd.ok {P:Program} {w:World} {H:Hp} {h:Heap} {a:Addr} {u:HO} (r:Rd H a u) (x:HOk P w H h):ObjOk P w H h a u:=by
  rcases r with r | ⟨o,r⟩
  . exact x a u r
  . obtain ⟨_,q⟩:=x a _ r
    exact q
def Mut:Option HO->Prop
  | some (.lst _)=>True
  | some (.dK _)=>True
  | some (.dT _)=>True
  | some (.set _ _)=>True
  | some (.ins _ _ _)=>True
  | some (.ext _)=>True
  | _=>False
section
variable {P:Program} {w:World} {H:Hp} {h h':Heap} {x e:Addr} {o':HO}
theorem HOk.write (ok:HOk P w H h) (mu:Mut (H x)) (he:e=x∨H e=some (.own x)) (k:∀ b u,b≠e->h.get? b=some u->h'.get? b=some u) (heo:∃ u,h'.get? e=some u)
    (new:ObjOk P w (upd H x o') h' x o'):HOk P w (upd H x o') h':=fun b u q=>by
  have nown:∀ c y,H c=some (.own y)->c≠x:=fun c y r z=>by subst z; rw [r] at mu; exact mu
  have ntup:∀ c xs,H c=some (.tup xs)->c≠x:=fun c xs r z=>by subst z; rw [r] at mu; exact mu
  by_cases hb:b=x
  . subst hb; rw [upd_same] at q; cases q; exact new
  . rw [upd_ne hb] at q
    by_cases hbe:b=e
    . have q':H b=some (.own x):=by
        rcases he with z | z
        . exact absurd (hbe.trans z) hb
        . rw [hbe]; exact z
      rw [q] at q'; cases q'
      obtain ⟨v,hv⟩:=heo
      exact ⟨v,by rw [hbe]; exact hv⟩
    . refine (ok b u q).stay (fun c v hc r=>k c v ?_ r) (fun c r=>by rw [upd_ne (nown c b r)]; exact r) fun c xs r=>by rw [upd_ne (ntup c xs r)]; exact r
      rcases hc with rfl | hc
      . exact hbe
      . rintro rfl
        rcases he with z | z
        . exact nown c b hc z
        . rw [hc] at z; cases z; exact hb rfl
end
structure Un (fs ex:List Addr) (H H':Hp) (h h':Heap):Prop where
  keep:∀ b o,h.get? b=some o->H b=none->b ∉ fs->b ∉ ex->h'.get? b=some o
  slot:∀ b o,h.get? b=some o->H b=none->b∈fs->b ∉ ex->∃ sl,h'.get? b=some { o with slots:=sl }
  free:∀ b o,h.get? b=some o->H b=none->b ∉ ex->H' b=none
  there:∀ b o,h.get? b=some o->b ∉ ex->∃ o',h'.get? b=some o'
  tups:∀ b xs,H b=some (.tup xs)->H' b=some (.tup xs)
  frzs:∀ b o u,H b=some (.frz o u)->H' b=some (.frz o u)
  tbls:∀ b ps,H b=some (.tbl ps)->∃ more,H' b=some (.tbl (ps++more))
section
variable {fs fs' ex ex':List Addr} {H H1 H2:Hp} {h h1 h2 h':Heap} {a x e:Addr} {o:HO}
theorem Un.any (u:Un fs ex H H1 h h1) {b:Addr} {ob:Obj} (q:h.get? b=some ob) (n:H b=none) (hx:b ∉ ex):∃ sl,h1.get? b=some { ob with slots:=sl }:=by
  by_cases hb:b∈fs
  . exact u.slot b ob q n hb hx
  . exact ⟨ob.slots,u.keep b ob q n hb hx⟩
theorem Un.trans (a:Un fs ex H H1 h h1) (b:Un fs ex H1 H2 h1 h2):Un fs ex H H2 h h2 where
  keep:=fun c ob q n hc hx=>b.keep c ob (a.keep c ob q n hc hx) (a.free c ob q n hx) hc hx
  slot:=fun c ob q n hc hx=>by
    obtain ⟨sl,e1⟩:=a.slot c ob q n hc hx
    obtain ⟨sl',e2⟩:=b.slot c _ e1 (a.free c ob q n hx) hc hx
    exact ⟨sl',e2⟩
  free:=fun c ob q n hx=>by
    obtain ⟨o',e1⟩:=a.there c ob q hx
    exact b.free c o' e1 (a.free c ob q n hx) hx
  there:=fun c ob q hx=>by
    obtain ⟨o',e1⟩:=a.there c ob q hx
    exact b.there c o' e1 hx
  tups:=fun c xs q=>b.tups c xs (a.tups c xs q)
  frzs:=fun c ob xs q=>b.frzs c ob xs (a.frzs c ob xs q)
  tbls:=fun c ps q=>by
    obtain ⟨m1,e1⟩:=a.tbls c ps q
    obtain ⟨m2,e2⟩:=b.tbls c _ e1
    exact ⟨m1++m2,by rw [e2,Array.append_assoc]⟩
theorem Un.kept (k:∀ b u,h.get? b=some u->h'.get? b=some u):Un fs ex H H h h' :=
  ⟨fun b ob q _ _ _=>k b ob q,fun b ob q _ _ _=>⟨ob.slots,k b ob q⟩,fun _ _ _ n _=>n,fun b ob q _=>⟨ob,k b ob q⟩,fun _ _ q=>q,fun _ _ _ q=>q,fun _ ps q=>⟨#[],by rw [q]; simp⟩⟩
theorem Un.refl:Un fs ex H H h h:=Un.kept fun _ _ q=>q
theorem Un.laid (k:∀ b u,h.get? b=some u->h'.get? b=some u) (hp:h.objs.size≤a) (hn:H a=none):Un fs ex H (upd H a o) h h' where
  keep:=fun b u q _ _ _=>k b u q
  slot:=fun b u q _ _ _=>⟨u.slots,k b u q⟩
  free:=fun b u q n _=>by rw [upd_ne (Nat.ne_of_lt (Nat.lt_of_lt_of_le (Heap.lt_size q) hp))]; exact n
  there:=fun b u q _=>⟨u,k b u q⟩
  tups:=fun b xs q=>by rw [upd_ne (ne_of_none q hn)]; exact q
  frzs:=fun b u xs q=>by rw [upd_ne (ne_of_none q hn)]; exact q
  tbls:=fun b ps q=>⟨#[],by rw [upd_ne (ne_of_none q hn),q]; simp⟩
theorem Un.write (mu:Mut (H x)) (he:e=x∨H e=some (.own x)) (k:∀ b u,b≠e->h.get? b=some u->h'.get? b=some u) (heo:∃ u,h'.get? e=some u):Un fs ex H (upd H x o) h h':=by
  have hx:∀ b,H b=none->b≠x:=fun b n z=>by subst z; rw [n] at mu; exact mu
  have hb:∀ b,H b=none->b≠e:=fun b n z=>by
    subst z
    rcases he with r | r
    . exact hx b n r
    . rw [n] at r; cases r
  have hm:∀ b u,H b=some u->¬ Mut (some u)->b≠x:=fun b u q nm z=>by subst z; rw [q] at mu; exact nm mu
  refine ⟨fun b u q n _ _=>k b u (hb b n) q,fun b u q n _ _=>⟨u.slots,k b u (hb b n) q⟩,fun b u q n _=>by rw [upd_ne (hx b n)]; exact n,fun b u q _=>?_,
    fun b xs q=>by rw [upd_ne (hm b _ q fun z=>z)]; exact q,fun b u xs q=>by rw [upd_ne (hm b _ q fun z=>z)]; exact q,fun b ps q=>⟨#[],by rw [upd_ne (hm b _ q fun z=>z),q]; simp⟩⟩
  by_cases hbe:b=e
  . subst hbe; exact heo
  . exact ⟨u,k b u hbe q⟩
theorem Un.mono (u:Un fs ex H H1 h h1) (hs:∀ b∈fs,b∈fs') (hx:∀ b∈ex,b∈ex'):Un fs' ex' H H1 h h1 :=
  ⟨fun b ob q n hb he=>u.keep b ob q n (fun z=>hb (hs b z)) fun z=>he (hx b z),fun _ _ q n _ he=>u.any q n fun z=>he (hx _ z),fun b ob q n he=>u.free b ob q n fun z=>he (hx b z),fun b ob q he=>u.there b ob q fun z=>he (hx b z),u.tups,u.frzs,u.tbls⟩
end
def trk (h:Heap) (H:Hp):List Addr:=(List.range h.objs.size).filter fun a=>(H a).isSome
def hidT (h:Heap) (H:Hp):Heap:=PySem.W.hideAll h (trk h H)
theorem hidT_size (h:Heap) (H:Hp):(hidT h H).objs.size=h.objs.size:=PySem.W.hideAll_size _ _
theorem hidT_get {h:Heap} {H:Hp} {b:Addr} {o:Obj} (e:h.get? b=some o) (n:H b=none):(hidT h H).get? b=some o :=
  PySem.W.hideAll_get _ e fun hm=>by
    have q:(H b).isSome=true:=(List.mem_filter.mp hm).2
    rw [n] at q; simp at q
theorem of_hidT {h:Heap} {H:Hp} {b:Addr} {o:Obj} (e:(hidT h H).get? b=some o):h.get? b=some o∧H b=none:=by
  have e':h.get? b=some o:=PySem.W.of_hideAll (trk h H) e
  refine ⟨e',?_⟩
  cases q:H b with
  | none=>rfl
  | some x =>
    have hm:b∈trk h H:=List.mem_filter.mpr ⟨List.mem_range.mpr (Heap.lt_size e'),by simp [q]⟩
    have z:(hidT h H).get? b=none:=PySem.W.hideAll_none (trk h H) hm
    rw [z] at e; cases e
def allNews (g h:Heap) (L:Addr):List (Addr × Obj):=(List.range h.objs.size).filterMap fun a=>if a=L∨(g.get? a).isSome=true then none else (h.get? a).map fun o=>(a,o)
def rest (g h:Heap) (L d:Addr):List (Addr × Obj):=(allNews g h L).filter fun p=>decide (p.1≠d)
end L2
namespace L2
open PySem PySem.Spec PyProof.Rows
structure Mod (K:PySem.W.Frag) (mg:Str->Option Value) (base:Heap):Prop where
  kin:K.In base
  glob:base.Ns mainGlobals mg
  blt:∃ mb,base.Ns builtinsNs mb∧∀ x:Str,x≠"__name__"->mb x=bootBuiltins x
  nolimit:base.NoLimit
structure Cx where
  prog:Program
  w:World
  K:PySem.W.Frag
  mg:Str->Option Value
  base:Heap
  A:Around
  N:List Str
  s₀:Shared
  H₀:Hp
  env:Env
  outer:List Env
  stack:List Env
  ex:List Addr
  fn:Str->Bool
  calm:Bool
  pn:List (Addr × Obj)
  xe:Value->Shared->Prop
def frs (l:List Env):List Addr:=l.filterMap (·.frame)
abbrev Cx.fs (X:Cx):List Addr:=frs X.outer
def Vis (sc:Scope) (x:Str):Prop:=sc.names.lookup x=some .local∨sc.names.lookup x=some .cell∨sc.names.lookup x=some .free
def Loc (sc:Scope) (x:Str):Prop:=sc.names.lookup x=some .local∨sc.names.lookup x=some .cell
def Look (env:Env) (h:Heap) (m:Str->Option Value) (x:Str) (u:Value):Prop :=
  (env.kindOf x=some .local∧m x=some u)∨((env.kindOf x=some .cell∨env.kindOf x=some .free)∧∃ c,env.cells.lookup x=some c∧h.IsCell c (some u))
structure Cx.Ok (X:Cx):Prop where
  mod:Mod X.K X.mg X.base
  kind:X.env.scope.kind=.function
  glob:X.env.globals=mainGlobals
  blt:X.env.builtins=builtinsNs
  above:X.s₀.heap.objs.size≤X.env.locals
  inj:∀ x y c,X.env.cells.lookup x=some c->X.env.cells.lookup y=some c->x=y
  has:∀ x,(X.env.kindOf x=some .cell∨X.env.kindOf x=some .free)->∃ c,X.env.cells.lookup x=some c
  cab:∀ x c,X.fn x=true->X.env.cells.lookup x=some c->X.s₀.heap.objs.size≤c
  hd:X.calm=true->X.A.handled=none
  frames:X.A.frames=some X.stack
  stk:X.stack=X.outer∨(X.stack=X.env::X.outer∧X.env.frame=some X.env.locals)
  exf:∀ b∈X.ex,b≠X.env.locals∧∀ x c,X.env.cells.lookup x=some c->c≠b
  bs:∀ b o,X.base.get? b=some o->X.s₀.heap.get? b=some o∧X.H₀ b=none
  bsz:X.base.objs.size≤X.s₀.heap.objs.size
  noex:∀ b o,X.base.get? b=some o->b ∉ X.ex
  exfs:∀ b∈X.ex,b ∉ X.fs
  funs:X.s₀.heap.FunFrames X.base X.outer
  frf:∀ b∈X.fs,X.H₀ b=none
structure Inv (X:Cx) (pins:List (Addr × Obj)) (σ:List (Option V)) (H:Hp) (s:Shared):Prop where
  ok:X.Ok
  os:s.os=X.s₀.os
  bare:AllBare s.gens
  base:Un X.fs X.ex X.H₀ H X.s₀.heap s.heap
  loc:∃ m,s.heap.Ns X.env.locals m∧∀ (i:Nat) (x:Str) (v:V),X.N[i]?=some x->σ[i]?=some (some v)->Vis X.env.scope x->∃ u,RelV v u∧Look X.env s.heap m x u
  cell:∀ x c,X.env.cells.lookup x=some c->∃ v,s.heap.IsCell c v
  free:H X.env.locals=none
  freeC:∀ x c,X.env.cells.lookup x=some c->H c=none
  pin:∀ p∈X.pn++pins,s.heap.get? p.1=some p.2∧H p.1=none∧p.1≠X.env.locals∧p.1 ∉ X.fs∧∀ v,p.2.data≠.cell v
  hok:HOk X.prog X.w H s.heap
  len : σ.length=X.N.length
section
variable {X:Cx} {pins:List (Addr × Obj)} {σ:List (Option V)} {H H':Hp} {s:Shared} {h':Heap}
theorem Cx.Ok.nofr (ok:X.Ok) {b:Addr} {o:Obj} (e:X.base.get? b=some o):b ∉ X.fs:=fun hb=>by
  have:=(ok.funs.mem hb).1
  rw [e] at this; cases this
theorem Inv.bs (I:Inv X pins σ H s):∀ b o,X.base.get? b=some o->s.heap.get? b=some o∧H b=none:=fun b o e =>
  ⟨I.base.keep b o (I.ok.bs b o e).1 (I.ok.bs b o e).2 (I.ok.nofr e) (I.ok.noex b o e),I.base.free b o (I.ok.bs b o e).1 (I.ok.bs b o e).2 (I.ok.noex b o e)⟩
theorem Inv.bk (I:Inv X pins σ H s):∀ b o,X.base.get? b=some o->s.heap.get? b=some o:=fun b o e=>(I.bs b o e).1
theorem Inv.mod (I:Inv X pins σ H s):Mod X.K X.mg X.base:=I.ok.mod
theorem Inv.kIn (I:Inv X pins σ H s):X.K.In s.heap:=I.ok.mod.kin.keeps I.bk
theorem Inv.nolimit (I:Inv X pins σ H s):s.heap.NoLimit:=I.ok.mod.nolimit.keeps I.bk
theorem Inv.fr (I:Inv X pins σ H s):∃ m,Fr X.base X.env.locals s.heap m :=
  let ⟨m,hn,_⟩:=I.loc
  ⟨m,hn,I.bk,Nat.le_trans I.ok.bsz I.ok.above⟩
theorem Inv.lt (I:Inv X pins σ H s):X.env.locals < s.heap.objs.size:=let ⟨_,hn,_⟩:=I.loc; hn.lt
theorem Inv.sz (I:Inv X pins σ H s):X.s₀.heap.objs.size≤s.heap.objs.size:=Nat.le_trans I.ok.above (Nat.le_of_lt I.lt)
theorem Inv.nofs (I:Inv X pins σ H s) {a:Addr} (h:s.heap.objs.size≤a):a ∉ X.fs:=fun hb=>by
  obtain ⟨_,o,ho,_⟩:=I.ok.funs.mem hb
  exact absurd (Nat.lt_of_lt_of_le (Heap.lt_size ho) (Nat.le_trans I.sz h)) (Nat.lt_irrefl _)
theorem Inv.cne (I:Inv X pins σ H s):∀ x c,X.env.cells.lookup x=some c->c≠X.env.locals:=fun x c e z=>by
  obtain ⟨v,o,ho,hd⟩:=I.cell x c e
  obtain ⟨m,⟨o',es,ep,ho',hd',_⟩,_⟩:=I.loc
  rw [z,ho'] at ho; cases ho; rw [hd'] at hd; cases hd
theorem Inv.funs (I:Inv X pins σ H s):s.heap.FunFrames X.base X.outer:=by
  have all:∀ (l:List Env),(∀ b∈frs l,b∈X.fs)->X.s₀.heap.FunFrames X.base l->s.heap.FunFrames X.base l:=by
    intro l
    induction l with
    | nil=>intro _ _; trivial
    | cons env r ih =>
      intro hs hl
      obtain ⟨hk,⟨L,o,hf,hn,ho,hd⟩,hr⟩:=hl
      have hL:L∈X.fs:=hs L (by unfold frs; rw [List.filterMap_cons,hf]; exact List.mem_cons_self)
      obtain ⟨sl,e⟩:=I.base.slot L o ho (I.ok.frf L hL) hL fun z=>I.ok.exfs L z hL
      exact ⟨hk,⟨L,_,hf,hn,e,hd⟩,ih (fun b hb=>hs b (by unfold frs; rw [List.filterMap_cons,hf]; exact List.mem_cons_of_mem _ hb)) hr⟩
  exact all X.outer (fun _ hb=>hb) I.ok.funs
theorem Inv.stack (I:Inv X pins σ H s):s.heap.FunFrames X.base X.stack:=by
  rcases I.ok.stk with e | ⟨e,hf⟩
  . rw [e]; exact I.funs
  . rw [e]
    obtain ⟨m,hn,_⟩:=I.loc
    refine .cons (by rw [I.ok.kind]; decide) hf hn ?_ I.funs
    exact Heap.get?_none_of_le (Nat.le_trans I.ok.bsz I.ok.above)
theorem Inv.stkSub (I:Inv X pins σ H s):∀ b∈frs X.stack,b∈X.env.locals::X.fs:=fun b hb=>by
  rcases I.ok.stk with e | ⟨e,hf⟩
  . rw [e] at hb; exact List.mem_cons_of_mem _ hb
  . rw [e] at hb
    unfold frs at hb
    rw [List.filterMap_cons,hf] at hb
    exact hb
theorem Inv.stkFree (I:Inv X pins σ H s):∀ b∈frs X.stack,H b=none:=fun b hb=>by
  rcases List.mem_cons.mp (I.stkSub b hb) with e | hb
  . rw [e]; exact I.free
  . obtain ⟨_,o,ho,_⟩:=I.ok.funs.mem hb
    exact I.base.free b o ho (I.ok.frf b hb) fun z=>I.ok.exfs b z hb
theorem Inv.step {g':Array GenState} {t':Nat} {d':Drawn} {ch:List Addr} (I:Inv X pins σ H s)
    (hch:∀ b∈ch,(b∈X.ex∨X.s₀.heap.objs.size≤b)∧b≠X.env.locals∧(∀ x c,X.env.cells.lookup x=some c->c≠b)∧∀ p∈X.pn++pins,p.1≠b)
    (keep:∀ b o,b≠X.env.locals->b ∉ X.fs->b ∉ ch->s.heap.get? b=some o->H b=none->h'.get? b=some o)
    (slot:∀ b o,b≠X.env.locals->b∈X.fs->b ∉ ch->s.heap.get? b=some o->H b=none->∃ sl,h'.get? b=some { o with slots:=sl }) (free:∀ b o,b ∉ ch->s.heap.get? b=some o->H b=none->H' b=none)
    (there:∀ b o,b ∉ ch->s.heap.get? b=some o->∃ o',h'.get? b=some o')
    (tups:∀ b xs,H b=some (.tup xs)->H' b=some (.tup xs)) (frzs:∀ b o u,H b=some (.frz o u)->H' b=some (.frz o u)) (tbls:∀ b ps,H b=some (.tbl ps)->∃ more,H' b=some (.tbl (ps++more)))
    (ns:∀ m,s.heap.Ns X.env.locals m->h'.Ns X.env.locals m) (hok:HOk X.prog X.w H' h') (hg:AllBare g') :
    Inv X pins σ H' { s with heap:=h',gens:=g',drawn:=d',toks:=t' }:=by
  have neL:∀ b o,X.s₀.heap.get? b=some o->b≠X.env.locals:=fun b o e=>Nat.ne_of_lt (Nat.lt_of_lt_of_le (Heap.lt_size e) I.ok.above)
  have neC:∀ b o,X.s₀.heap.get? b=some o->b ∉ X.ex->b ∉ ch:=fun b o e hx hb=>by
    rcases (hch b hb).1 with z | z
    . exact hx z
    . exact absurd (Nat.lt_of_lt_of_le (Heap.lt_size e) z) (Nat.lt_irrefl _)
  have cellK:∀ x c,X.env.cells.lookup x=some c->∀ v,s.heap.IsCell c v->h'.IsCell c v:=fun x c e v ⟨o,ho,hd⟩=>by
    have nch:c ∉ ch:=fun z=>(hch c z).2.2.1 x c e rfl
    by_cases hc:c∈X.fs
    . obtain ⟨sl,q⟩:=slot c o (I.cne x c e) hc nch ho (I.freeC x c e)
      exact ⟨_,q,hd⟩
    . exact ⟨o,keep c o (I.cne x c e) hc nch ho (I.freeC x c e),hd⟩
  refine ⟨I.ok,I.os,hg,⟨fun b o e n hb hx=>?_,fun b o e n hb hx=>?_,fun b o e n hx=>?_,fun b o e hx=>?_,fun b xs e=>tups b xs (I.base.tups b xs e),fun b o xs e=>frzs b o xs (I.base.frzs b o xs e),fun b ps e=>?_⟩,?_,fun x c e=>?_,?_,fun x c e=>?_,fun p hp=>?_,hok,I.len⟩
  . exact keep b o (neL b o e) hb (neC b o e hx) (I.base.keep b o e n hb hx) (I.base.free b o e n hx)
  . obtain ⟨sl,e1⟩:=I.base.slot b o e n hb hx
    obtain ⟨sl',e2⟩:=slot b _ (neL b o e) hb (neC b o e hx) e1 (I.base.free b o e n hx)
    exact ⟨sl',e2⟩
  . obtain ⟨o',e1⟩:=I.base.there b o e hx
    exact free b o' (neC b o e hx) e1 (I.base.free b o e n hx)
  . obtain ⟨o',e1⟩:=I.base.there b o e hx
    exact there b o' (neC b o e hx) e1
  . obtain ⟨m1,e1⟩:=I.base.tbls b ps e
    obtain ⟨m2,e2⟩:=tbls b _ e1
    exact ⟨m1++m2,by rw [e2,Array.append_assoc]⟩
  . obtain ⟨m,hn,hl⟩:=I.loc
    refine ⟨m,ns m hn,fun i x v e1 e2 e3=>?_⟩
    obtain ⟨u,r,l⟩:=hl i x v e1 e2 e3
    refine ⟨u,r,?_⟩
    rcases l with l | ⟨k,c,e,z⟩
    . exact .inl l
    . exact .inr ⟨k,c,e,cellK x c e _ z⟩
  . obtain ⟨v,z⟩:=I.cell x c e
    exact ⟨v,cellK x c e v z⟩
  . obtain ⟨m,⟨o,_,_,ho,_⟩,_⟩:=I.loc
    exact free _ o (fun z=>(hch _ z).2.1 rfl) ho I.free
  . obtain ⟨v,o,ho,hd⟩:=I.cell x c e
    exact free c o (fun z=>(hch c z).2.2.1 x c e rfl) ho (I.freeC x c e)
  . obtain ⟨e,n,ne,nf,d⟩:=I.pin p hp
    have nch:p.1 ∉ ch:=fun z=>(hch p.1 z).2.2.2 p hp rfl
    exact ⟨keep p.1 p.2 ne nf nch e n,free p.1 p.2 nch e n,ne,nf,d⟩
theorem Inv.un {t':Nat} (I:Inv X pins σ H s) (u:Un X.fs [] H H' s.heap h') (hok:HOk X.prog X.w H' h'):Inv X pins σ H' { s with heap:=h',toks:=t' }:=by
  obtain ⟨m,⟨o,es,ep,ho,r⟩,_⟩:=id I.loc
  obtain ⟨sl,hL⟩:=u.any ho I.free (by simp)
  exact I.step (g':=s.gens) (d':=s.drawn) (ch:=[]) (fun _ z=>nomatch z) (fun b o _ hb _ e n=>u.keep b o e n hb (by simp)) (fun b o _ hb _ e n=>u.slot b o e n hb (by simp)) (fun b o _ e n=>u.free b o e n (by simp)) (fun b o _ e=>u.there b o e (by simp)) u.tups u.frzs u.tbls (fun m' hm=>by
    obtain ⟨o',es',ep',ho',r'⟩:=hm
    rw [ho] at ho'; cases ho'
    exact ⟨_,es',ep',hL,r'⟩) hok I.bare
theorem Inv.call {g':Array GenState} {t':Nat} {d':Drawn} {ch:List Addr} (I:Inv X pins σ H s) (u:Un (frs X.stack) ch H H' s.heap h') (hok:HOk X.prog X.w H' h') (hg:AllBare g')
    (hch:∀ b∈ch,(b∈X.ex∨X.s₀.heap.objs.size≤b)∧b≠X.env.locals∧(∀ x c,X.env.cells.lookup x=some c->c≠b)∧∀ p∈X.pn++pins,p.1≠b) :
    Inv X pins σ H' { s with heap:=h',gens:=g',drawn:=d',toks:=t' }:=by
  obtain ⟨m,⟨o,es,ep,ho,r⟩,_⟩:=id I.loc
  obtain ⟨sl,hL⟩:=u.any ho I.free fun z=>(hch _ z).2.1 rfl
  exact I.step (ch:=ch) hch (fun b o hL hb hc e n=>u.keep b o e n (fun z=>(List.mem_cons.mp (I.stkSub b z)).elim hL hb) hc) (fun b o _ _ hc e n=>u.any e n hc) (fun b o hc e n=>u.free b o e n hc) (fun b o hc e=>u.there b o e hc) u.tups u.frzs u.tbls (fun m' hm=>by
    obtain ⟨o',es',ep',ho',r'⟩:=hm
    rw [ho] at ho'; cases ho'
    exact ⟨_,es',ep',hL,r'⟩) hok hg
theorem Inv.turned {t':Nat} {it:Addr} (I:Inv X pins σ H s) (k:∀ b o,b≠it->s.heap.get? b=some o->h'.get? b=some o) (hn:H it=none) (hL:it≠X.env.locals)
    (h1:it∈X.ex∨X.s₀.heap.objs.size≤it) (h2:∀ x c,X.env.cells.lookup x=some c->c≠it) (h3:∀ p∈X.pn++pins,p.1≠it):Inv X pins σ H { s with heap:=h',toks:=t' }:=by
  have nit:∀ b u,H b=some u->b≠it:=fun b u e z=>by rw [z,hn] at e; cases e
  refine I.step (g':=s.gens) (d':=s.drawn) (ch:=[it]) (fun b hb=>?_) (fun b o _ _ hc e _=>k b o (fun z=>hc (by simp [z])) e) (fun b o _ _ hc e _=>⟨o.slots,k b o (fun z=>hc (by simp [z])) e⟩) (fun _ _ _ _ n=>n)
    (fun b o hc e=>⟨o,k b o (fun z=>hc (by simp [z])) e⟩) (fun _ _ e=>e) (fun _ _ _ e=>e) (fun b ps e=>⟨#[],by rw [e]; simp⟩) (fun m hm=>?_) (fun b u e=>?_) I.bare
  . have e:b=it:=by simpa using hb
    subst e
    exact ⟨h1,hL,h2,h3⟩
  . obtain ⟨o,es,ep,ho,r⟩:=hm
    exact ⟨o,es,ep,k _ o (Ne.symm hL) ho,r⟩
  . refine (I.hok b u e).stay (fun c v hc q=>k c v ?_ q) (fun _ q=>q) fun _ _ q=>q
    rcases hc with z | z
    . rw [z]; exact nit b u e
    . exact nit c _ z
theorem Inv.tok (I:Inv X pins σ H s) (t:Nat):Inv X pins σ H { s with toks:=t }:=I.un (h':=s.heap) (t':=t) Un.refl I.hok
theorem Inv.kept {t':Nat} (I:Inv X pins σ H s) (k:∀ b u,s.heap.get? b=some u->h'.get? b=some u):Inv X pins σ H { s with heap:=h',toks:=t' }:=I.un (Un.kept k) (I.hok.kept k)
theorem Inv.laid {a:Addr} {o:HO} {t':Nat} (I:Inv X pins σ H s) (k:∀ b u,s.heap.get? b=some u->h'.get? b=some u) (hp:s.heap.objs.size≤a) (new:ObjOk X.prog X.w (upd H a o) h' a o) :
    Inv X pins σ (upd H a o) { s with heap:=h',toks:=t' }:=I.un (Un.laid k hp (I.hok.fresh hp)) (I.hok.laid k hp new)
theorem Inv.write {x e:Addr} {o:HO} {t':Nat} (I:Inv X pins σ H s) (mu:Mut (H x)) (he:e=x∨H e=some (.own x)) (k:∀ b u,b≠e->s.heap.get? b=some u->h'.get? b=some u) (heo:∃ u,h'.get? e=some u)
    (new:ObjOk X.prog X.w (upd H x o) h' x o):Inv X pins σ (upd H x o) { s with heap:=h',toks:=t' }:=I.un (Un.write mu he k heo) (I.hok.write mu he k heo new)
theorem Inv.weak {σ':List (Option V)} (I:Inv X pins σ H s) (hl : σ'.length=σ.length) (w:∀ (i:Nat) v,σ'[i]?=some (some v)->σ[i]?=some (some v)):Inv X pins σ' H s :=
  ⟨I.ok,I.os,I.bare,I.base,let ⟨m,hn,hl'⟩:=I.loc; ⟨m,hn,fun i x v e1 e2 e3=>hl' i x v e1 (w i v e2) e3⟩,I.cell,I.free,I.freeC,I.pin,I.hok,hl.trans I.len⟩
theorem Inv.pins_of {pins':List (Addr × Obj)} (I:Inv X pins σ H s) (h:∀ p∈pins',s.heap.get? p.1=some p.2∧H p.1=none∧p.1≠X.env.locals∧p.1 ∉ X.fs∧∀ v,p.2.data≠.cell v):Inv X pins' σ H s :=
  ⟨I.ok,I.os,I.bare,I.base,I.loc,I.cell,I.free,I.freeC,fun p hp=>(List.mem_append.mp hp).elim (fun z=>I.pin p (List.mem_append_left _ z)) (h p),I.hok,I.len⟩
theorem nodup_ix {N:List Str} (hN:N.Nodup) {i j:Nat} {x:Str} (a:N[i]?=some x) (b:N[j]?=some x):i=j:=by
  obtain ⟨h1,e1⟩:=List.getElem?_eq_some_iff.mp a
  obtain ⟨h2,e2⟩:=List.getElem?_eq_some_iff.mp b
  exact (List.getElem_inj hN).mp (e1.trans e2.symm)
theorem store_ok2 {M:Model} {A:Around} {E:Value->Shared->Prop} {i:Nat} {x:Str} {v:V} {u:Value} {Q:Unit->Shared->Prop} (I:Inv X pins σ H s) (hN:X.N.Nodup) (hi:X.N[i]?=some x) (hx:Loc X.env.scope x) (r:RelV v u)
    (h:∀ s',Inv X pins (σ.set i (some v)) H s'->(∃ a,Heap.SameBut a s.heap s'.heap∧(a=X.env.locals∨X.env.cells.lookup x=some a))->Q () s') (hf:X.fn x=true∨X.env.scope.names.lookup x=some .local:=by first | exact .inl rfl | exact .inr rfl | assumption):wpAny M A (storeName X.env x u) Q E s:=by
  obtain ⟨m,hn,hl⟩:=id I.loc
  have hcls:(X.env.scope.kind == .class || (X.env.scope.kind == .module && X.env.locals != X.env.globals))=false:=by rw [I.ok.kind]; rfl
  have hiσ:i < σ.length:=by rw [I.len]; exact (List.getElem?_eq_some_iff.mp hi).1
  have cne:=I.cne
  have tracked:∀ {a:Addr} {h':Heap},(∃ o,s.heap.get? a=some o∧H a=none)->Heap.SameBut a s.heap h'->HOk X.prog X.w H h':=fun {a h'} ha hs b ob e=>by
    obtain ⟨_,_,hfree⟩:=ha
    refine (I.hok b ob e).stay (fun c w' hc q=>(hs.2 c ?_).trans q) (fun _ q=>q) fun _ _ q=>q
    rintro rfl
    rcases hc with rfl | hc
    . rw [hfree] at e; cases e
    . rw [hfree] at hc; cases hc
  rcases hx with hk | hk
  . refine wpAny_storeName_local hk hn (fun h' hn' hs=>?_) hcls
    obtain ⟨oL,_,_,hoL,_⟩:=id hn
    refine h _ ⟨I.ok,I.os,I.bare,⟨fun b o e n hb hx=>?_,fun b o e n hb hx=>?_,I.base.free,fun b o e hx=>?_,I.base.tups,I.base.frzs,I.base.tbls⟩,⟨_,hn',fun j y v' e1 e2 e3=>?_⟩,fun y c e=>?_,I.free,I.freeC,fun p hp=>?_,tracked ⟨oL,hoL,I.free⟩ hs,by simpa using I.len⟩ ⟨_,hs,.inl rfl⟩
    . exact (hs.2 b (Nat.ne_of_lt (Nat.lt_of_lt_of_le (Heap.lt_size e) I.ok.above))).trans (I.base.keep b o e n hb hx)
    . obtain ⟨sl,e1⟩:=I.base.slot b o e n hb hx
      exact ⟨sl,(hs.2 b (Nat.ne_of_lt (Nat.lt_of_lt_of_le (Heap.lt_size e) I.ok.above))).trans e1⟩
    . obtain ⟨o',e1⟩:=I.base.there b o e hx
      exact ⟨o',(hs.2 b (Nat.ne_of_lt (Nat.lt_of_lt_of_le (Heap.lt_size e) I.ok.above))).trans e1⟩
    . by_cases hj:j=i
      . subst hj
        rw [hi] at e1; cases e1
        rw [List.getElem?_set_self hiσ] at e2
        cases e2
        exact ⟨u,r,.inl ⟨hk,by simp⟩⟩
      . rw [List.getElem?_set_ne (Ne.symm hj)] at e2
        obtain ⟨u',r',q⟩:=hl j y v' e1 e2 e3
        refine ⟨u',r',?_⟩
        rcases q with ⟨k,e⟩ | ⟨k,c,e,z⟩
        . refine .inl ⟨k,?_⟩
          have:y≠x:=fun e=>hj (nodup_ix hN e1 (e ▸ hi))
          simp [this,e]
        . exact .inr ⟨k,c,e,z.sameBut hs (cne y c e)⟩
    . obtain ⟨w',z⟩:=I.cell y c e
      exact ⟨w',z.sameBut hs (cne y c e)⟩
    . obtain ⟨e,n,ne,nf,d⟩:=I.pin p hp
      exact ⟨(hs.2 p.1 ne).trans e,n,ne,nf,d⟩
  . have hfn:X.fn x=true:=by
      rcases hf with z | z
      . exact z
      . rw [z] at hk; cases hk
    obtain ⟨c,hc⟩:=I.ok.has x (.inl hk)
    obtain ⟨w',z⟩:=I.cell x c hc
    refine wpAny_storeName_cell I.ok.kind hk hc z (fun h' hc' hs=>?_)
    obtain ⟨oc,hoc,hocd⟩:=id z
    refine h { s with heap:=h' } ⟨I.ok,I.os,I.bare,⟨fun b o e n hb hx=>?_,fun b o e n hb hx=>?_,I.base.free,fun b o e hx=>?_,I.base.tups,I.base.frzs,I.base.tbls⟩,⟨m,hn.sameBut hs (Ne.symm (cne x c hc)),fun j y v' e1 e2 e3=>?_⟩,fun y c' e=>?_,I.free,I.freeC,fun p hp=>?_,tracked ⟨oc,hoc,I.freeC x c hc⟩ hs,by simpa using I.len⟩ ⟨c,hs,.inr hc⟩
    . exact (hs.2 b (Nat.ne_of_lt (Nat.lt_of_lt_of_le (Heap.lt_size e) (I.ok.cab x c hfn hc)))).trans (I.base.keep b o e n hb hx)
    . obtain ⟨sl,e1⟩:=I.base.slot b o e n hb hx
      exact ⟨sl,(hs.2 b (Nat.ne_of_lt (Nat.lt_of_lt_of_le (Heap.lt_size e) (I.ok.cab x c hfn hc)))).trans e1⟩
    . obtain ⟨o',e1⟩:=I.base.there b o e hx
      exact ⟨o',(hs.2 b (Nat.ne_of_lt (Nat.lt_of_lt_of_le (Heap.lt_size e) (I.ok.cab x c hfn hc)))).trans e1⟩
    . by_cases hj:j=i
      . subst hj
        rw [hi] at e1; cases e1
        rw [List.getElem?_set_self hiσ] at e2
        cases e2
        exact ⟨u,r,.inr ⟨.inl hk,c,hc,hc'⟩⟩
      . rw [List.getElem?_set_ne (Ne.symm hj)] at e2
        obtain ⟨u',r',q⟩:=hl j y v' e1 e2 e3
        refine ⟨u',r',?_⟩
        rcases q with q | ⟨k,c',e,z'⟩
        . exact .inl q
        . refine .inr ⟨k,c',e,z'.sameBut hs ?_⟩
          rintro rfl
          exact hj (nodup_ix hN e1 (I.ok.inj _ _ _ e hc ▸ hi))
    . by_cases hcc:c'=c
      . subst hcc; exact ⟨_,hc'⟩
      . obtain ⟨w2,z2⟩:=I.cell y c' e
        exact ⟨w2,z2.sameBut hs hcc⟩
    . obtain ⟨e,n,ne,nf,d⟩:=I.pin p hp
      refine ⟨(hs.2 p.1 ?_).trans e,n,ne,nf,d⟩
      intro q
      rw [q,hoc] at e
      have q':oc=p.2:=Option.some.inj e
      exact d w' (by rw [← q']; exact hocd)
theorem store_ok {M:Model} {A:Around} {E:Value->Shared->Prop} {i:Nat} {x:Str} {v:V} {u:Value} {Q:Unit->Shared->Prop} (I:Inv X pins σ H s) (hN:X.N.Nodup) (hi:X.N[i]?=some x) (hx:Loc X.env.scope x) (r:RelV v u)
    (h:∀ s',Inv X pins (σ.set i (some v)) H s'->Q () s') (hf:X.fn x=true∨X.env.scope.names.lookup x=some .local:=by first | exact .inl rfl | exact .inr rfl | assumption):wpAny M A (storeName X.env x u) Q E s :=
  store_ok2 I hN hi hx r (fun s' I' _=>h s' I') hf
theorem Inv.call' {s':Shared} {ch:List Addr} (I:Inv X pins σ H s) (ho:s'.os=s.os) (u:Un (frs X.stack) ch H H' s.heap s'.heap) (hok:HOk X.prog X.w H' s'.heap) (hg:AllBare s'.gens)
    (hch:∀ b∈ch,(b∈X.ex∨X.s₀.heap.objs.size≤b)∧b≠X.env.locals∧(∀ x c,X.env.cells.lookup x=some c->c≠b)∧∀ p∈X.pn++pins,p.1≠b):Inv X pins σ H' s':=by
  obtain ⟨h',g',d',t',o'⟩:=s'
  have e:o'=s.os:=ho
  subst e
  exact I.call (g':=g') (t':=t') (d':=d') u hok hg hch
end
abbrev XK:=Value->Option Addr->Hp->Prop
abbrev St:=List (Option V)
abbrev VK:=V->Hp->Prop
abbrev TE:=St->Hp->VK->Prop
abbrev TT:=St->Hp->(Bool->Hp->Prop)->Prop
abbrev TA:=St->Hp->(List V->Hp->Prop)->Prop
structure Ends where
  nx:St->Hp->Prop
  rt:VK
  bk:St->Hp->Prop:=fun _ _=>False
  ct:St->Hp->Prop:=fun _ _=>False
abbrev TS:=Ends->St->Hp->Prop
def EP (X:Cx) (pins:List (Addr × Obj)) (σ:St) (Q:VK) (u:Value) (s':Shared):Prop:=∃ v H',Inv X pins σ H' s'∧RelV v u∧Q v H'
def TP (X:Cx) (pins:List (Addr × Obj)) (σ:St) (Q:Bool->Hp->Prop) (b:Bool) (s':Shared):Prop:=∃ H',Inv X pins σ H' s'∧Q b H'
def AP (X:Cx) (pins:List (Addr × Obj)) (σ:St) (Q:List V->Hp->Prop) (us:List Value) (s':Shared):Prop:=∃ vs H',Inv X pins σ H' s'∧Vals vs us∧Q vs H'
def SP (X:Cx) (pins:List (Addr × Obj)) (D:Ends) (f:Flow) (s':Shared):Prop :=
  match f with
  | .next=>∃ σ' H',Inv X pins σ' H' s'∧D.nx σ' H'
  | .brk=>∃ σ' H',Inv X pins σ' H' s'∧D.bk σ' H'
  | .cont=>∃ σ' H',Inv X pins σ' H' s'∧D.ct σ' H'
  | .ret u=>∃ v σ' H',Inv X pins σ' H' s'∧RelV v u∧D.rt v H'
def PE (X:Cx) (e:Expr) (t:TE):Prop :=
  ∀ (pins:List (Addr × Obj)) (s:Shared) (σ:St) (H:Hp) (Q:VK),Inv X pins σ H s->t σ H Q->wpAny (model X.prog X.w) X.A (eval e X.env) (EP X pins σ Q) X.xe s
def PT (X:Cx) (e:Expr) (t:TT):Prop :=
  ∀ (pins:List (Addr × Obj)) (s:Shared) (σ:St) (H:Hp) (Q:Bool->Hp->Prop),Inv X pins σ H s->t σ H Q->wpAny (model X.prog X.w) X.A (isTrue e X.env (eval e X.env)) (TP X pins σ Q) X.xe s
def PW (X:Cx) (e:Expr) (t:TT):Prop :=
  ∀ (whole:Sem Value) (pins:List (Addr × Obj)) (s:Shared) (σ:St) (H:Hp) (Q:Bool->Hp->Prop),Inv X pins σ H s->t σ H Q->wpAny (model X.prog X.w) X.A (isTrue e X.env whole) (TP X pins σ Q) X.xe s
theorem PW.pt {X:Cx} {e:Expr} {t:TT} (h:PW X e t):PT X e t:=h _
def PA (X:Cx) (es:List Expr) (t:TA):Prop :=
  ∀ (pos:Pos) (pins:List (Addr × Obj)) (s:Shared) (σ:St) (H:Hp) (Q:List V->Hp->Prop),Inv X pins σ H s->t σ H Q->wpAny (model X.prog X.w) X.A (spliced (backTo pos (starEach es X.env))) (AP X pins σ Q) X.xe s
def PS (X:Cx) (st:Stmt) (t:TS):Prop :=
  ∀ (pins:List (Addr × Obj)) (s:Shared) (σ:St) (H:Hp) (D:Ends),Inv X pins σ H s->t D σ H->wpAny (model X.prog X.w) X.A (exec st X.env) (SP X pins D) X.xe s
def PSs (X:Cx) (st:List Stmt) (t:TS):Prop :=
  ∀ (pins:List (Addr × Obj)) (s:Shared) (σ:St) (H:Hp) (D:Ends),Inv X pins σ H s->t D σ H->wpAny (model X.prog X.w) X.A (execs st X.env) (SP X pins D) X.xe s
theorem thn {α:Type} {t:Sem α} {Q Q' : α->Shared->Prop} {M:Model} {A:Around} {E:Value->Shared->Prop} {s:Shared} (h:wpAny M A t Q E s) (hQ:∀ a s,Q a s->Q' a s):wpAny M A t Q' E s:=wpAny_mono h hQ fun _ _ x=>x
end L2
namespace L2
open PySem PySem.Spec PyProof.Rows
section
variable {X:Cx}
def tVar (i:Nat):TE:=fun σ H Q=>∃ v,σ[i]?=some (some v)∧Q v H
def tC (v:V):TE:=fun _ H Q=>Q v H
theorem pe_var {i:Nat} {x:Str} {pos:Pos} (hN:X.N[i]?=some x) (hv:Vis X.env.scope x) (hd:(x == ("__debug__":Str))=false:=by decide) (hcd:(x == ("__classdict__":Str))=false:=by decide):PE X (.Name x pos) (tVar i):=by
  intro pins s σ H Q I h
  obtain ⟨v,e,h⟩:=h
  obtain ⟨m,hn,hl⟩:=I.loc
  obtain ⟨u,r,l⟩:=hl i x v hN e hv
  have fin:EP X pins σ Q u s:=⟨v,H,I,r,h⟩
  rcases l with ⟨hk,hm⟩ | ⟨hk,c,hc,hcell⟩
  . exact wpAny_Name (wpAny_loadName_local I.ok.kind hk hn hm fin) hd
  . rcases hk with hk | hk
    . exact wpAny_Name (wpAny_loadName_cell I.ok.kind hk hc hcell fin) hd
    . exact wpAny_Name (wpAny_loadName_free I.ok.kind hk hc hcell fin hcd) hd
theorem pe_int {i j pos}:PE X (.Constant (.int i) j pos) (tC (.int i)):=fun _ _ _ H _ I h=>wpAny_Constant_int ⟨.int i,H,I.tok _,⟨_,rfl⟩,h⟩
theorem pe_bl {b j pos}:PE X (.Constant (.bool b) j pos) (tC (.bl b)):=fun _ _ _ H _ I h=>Constant_bool ⟨.bl b,H,I,rfl,h⟩
theorem pe_non {j pos}:PE X (.Constant .none j pos) (tC .non):=fun _ _ _ H _ I h=>Constant_none ⟨.non,H,I,rfl,h⟩
theorem pe_str {x j pos}:PE X (.Constant (.str x) j pos) (tC (.str x)):=fun _ _ _ H _ I h=>Calls.Constant_str ⟨.str x,H,I.tok _,⟨_,rfl⟩,h⟩
def Gl (X:Cx) (x:Str):Prop:=X.env.kindOf x=some .globalImplicit
theorem ld_glob {E:Value->Shared->Prop} {pins:List (Addr × Obj)} {s:Shared} {σ:St} {H:Hp} {x:Str} {u:Value} {pos:Pos} {Q:Value->Shared->Prop} (I:Inv X pins σ H s) (hg:Gl X x) (hm:X.mg x=some u) (h:Q u s)
    (hd:(x == ("__debug__":Str))=false:=by decide):wpAny (model X.prog X.w) X.A (eval (.Name x pos) X.env) Q E s :=
  Calls.Name_function_global I.ok.kind hg (Calls.loadGlobal_global (by rw [I.ok.glob]; exact I.mod.glob.keeps I.bk) hm h) hd
theorem ld_blt {E:Value->Shared->Prop} {pins:List (Addr × Obj)} {s:Shared} {σ:St} {H:Hp} {x:Str} {u:Value} {pos:Pos} {Q:Value->Shared->Prop} (I:Inv X pins σ H s) (hg:Gl X x) (hm:X.mg x=none) (hv:bootBuiltins x=some u) (h:Q u s)
    (hn:x≠"__name__":=by decide) (hd:(x == ("__debug__":Str))=false:=by decide):wpAny (model X.prog X.w) X.A (eval (.Name x pos) X.env) Q E s:=by
  obtain ⟨mb,h1,h2⟩:=I.mod.blt
  exact Calls.Name_function_global I.ok.kind hg (Calls.loadGlobal_builtin (by rw [I.ok.glob]; exact I.mod.glob.keeps I.bk) hm (by rw [I.ok.blt]; exact h1.keeps I.bk) ((h2 x hn).trans hv) h) hd
theorem pe_glob {x:Str} {v:V} {u:Value} {pos:Pos} (hg:Gl X x) (hm:X.mg x=some u) (r:RelV v u) (hd:(x == ("__debug__":Str))=false:=by decide):PE X (.Name x pos) (tC v) :=
  fun _ _ _ H _ I h=>ld_glob I hg hm ⟨v,H,I,r,h⟩ hd
theorem pe_bltn {x:Str} {v:V} {u:Value} {pos:Pos} (hg:Gl X x) (hm:X.mg x=none) (hv:bootBuiltins x=some u) (r:RelV v u) (hn:x≠"__name__":=by decide) (hd:(x == ("__debug__":Str))=false:=by decide):PE X (.Name x pos) (tC v) :=
  fun _ _ _ H _ I h=>ld_blt I hg hm hv ⟨v,H,I,r,h⟩ hn hd
variable {a b:Expr} {ta tb:TE} {pos:Pos}
def tB (t:TE):TT:=fun σ H Q=>t σ H fun x H1=>∃ c,x=.bl c∧Q c H1
theorem pt_val {e:Expr} {t:TE} (h:PE X e t) (he:∀ whole,isTrue e X.env whole=(do let v ← whole; standAt e.pos; holding [v] (truthy v)):=by intro _; rfl):PT X e (tB t):=by
  intro pins s σ H Q I hw
  refine isTrue_plain (thn (h pins s σ H _ I hw) fun v s1 ⟨x,H1,I1,r1,q1⟩=>?_) (he _)
  obtain ⟨d,rfl,q⟩:=q1
  cases r1
  exact wpAny_truthy_bool ⟨H1,I1,q⟩
variable {tA tB':TT} {rest:List Expr}
def tOr (t u:TT):TT:=fun σ H Q=>t σ H fun c H1=>if c=true then Q true H1 else u σ H1 Q
def tNot (t:TT):TT:=fun σ H Q=>t σ H fun c H1=>Q (!c) H1
theorem pw_or1 (ha:PT X a tA):PW X (.BoolOp .Or [a] pos) tA:=by
  intro wh pins s σ H Q I h
  refine isTrue_or (thn (ha pins s σ H Q I h) fun c s1 e=>?_)
  cases c with
  | false=>exact isTrue_or_nil e
  | true=>exact e
theorem pw_or (ha:PT X a tA) (hb:PW X (.BoolOp .Or (b::rest) pos) tB'):PW X (.BoolOp .Or (a::b::rest) pos) (tOr tA tB'):=by
  intro wh pins s σ H Q I h
  refine isTrue_or (thn (ha pins s σ H _ I h) fun c s1 ⟨H1,I1,q1⟩=>?_)
  cases c with
  | true=>exact ⟨H1,I1,q1⟩
  | false=>exact hb wh pins s1 σ H1 Q I1 q1
theorem pt_not (ha:PT X a tA):PT X (.UnaryOp .Not a pos) (tNot tA):=by
  intro pins s σ H Q I h
  exact isTrue_not (ha pins s σ H (fun c H1=>Q (!c) H1) I h)
def tAndV (ta tb:TE):TE:=fun σ H Q=>ta σ H fun x H1=>∃ c,x=.bl c∧if c=true then tb σ H1 Q else Q (.bl false) H1
def tNotV (ta:TE):TE:=fun σ H Q=>ta σ H fun x H1=>∃ c,x=.bl c∧Q (.bl (!c)) H1
theorem pe_one {op} {t:TE} (h:PE X a t):PE X (.BoolOp op [a] pos) t:=fun pins s σ H Q I hw=>BoolOp_one (h pins s σ H Q I hw)
theorem pe_and (ha:PE X a ta) (hb:PE X (.BoolOp .And (b::rest) pos) tb):PE X (.BoolOp .And (a::b::rest) pos) (tAndV ta tb):=by
  intro pins s σ H Q I h
  refine BoolOp_and (thn (ha pins s σ H _ I h) fun v s1 ⟨x,H1,I1,r1,q1⟩=>?_)
  obtain ⟨c,rfl,q1⟩:=q1
  cases r1
  refine wpAny_truthy_bool ?_
  cases c with
  | true=>exact hb pins s1 σ H1 Q I1 q1
  | false=>exact ⟨.bl false,H1,I1,rfl,q1⟩
theorem pe_not (ha:PE X a ta):PE X (.UnaryOp .Not a pos) (tNotV ta):=by
  intro pins s σ H Q I h
  refine UnaryOp_ (thn (ha pins s σ H _ I h) fun v s1 ⟨x,H1,I1,r1,q1⟩=>?_)
  obtain ⟨c,rfl,q1⟩:=q1
  cases r1
  exact not_of (wpAny_truthy_bool ⟨.bl (!c),H1,I1,rfl,q1⟩)
def tIf (t:TT) (ta tb:TE):TE:=fun σ H Q=>t σ H fun c H1=>if c=true then ta σ H1 Q else tb σ H1 Q
theorem pe_ifExp {c:Expr} (hc:PT X c tA) (ha:PE X a ta) (hb:PE X b tb):PE X (.IfExp c a b pos) (tIf tA ta tb):=by
  intro pins s σ H Q I h
  refine wpAny_IfExp (thn (hc pins s σ H _ I h) fun d s1 ⟨H1,I1,q1⟩=>?_)
  cases d with
  | true=>exact ha pins s1 σ H1 Q I1 q1
  | false=>exact hb pins s1 σ H1 Q I1 q1
end
end L2
namespace L2
open PySem PySem.Spec PyProof.Rows
def SqL (K:PySem.W.Frag) (H:Hp) (a:Addr) (xs:List V):Prop :=
  Rd H a (.lst xs) ∨
    ∃ (o:Obj) (its:Array Value) (n:Nat),K.lookup a=some o∧o.cls=.type "list"∧o.dict=none∧o.data=.seq its n∧its.size≤sizeLine∧Vals xs its.toList
def SqT (K:PySem.W.Frag) (H:Hp) (a:Addr) (xs:List V):Prop :=
  Rd H a (.tup xs) ∨
    ∃ (o:Obj) (its:Array Value) (n:Nat),K.lookup a=some o∧o.cls=.type "tuple"∧o.data=.seq its n∧its.size≤sizeLine∧Vals xs its.toList
def absV:Value->Option V
  | .none=>some .non
  | .bool b=>some (.bl b)
  | .int i _=>some (.int i)
  | .str x _=>some (.str x)
  | .bytes b _=>some (.byt b)
  | .float b _=>some (.flt b)
  | .ref a=>some (.ref a)
  | .type n=>some (.ty n)
  | _=>none
theorem RelV.abs {x:V} {u:Value} (r:RelV x u):absV u=some x:=by
  cases x with
  | non=>cases r; rfl
  | bl _=>cases r; rfl
  | int _=>obtain ⟨t,rfl⟩:=r; rfl
  | str _=>obtain ⟨t,rfl⟩:=r; rfl
  | byt _=>obtain ⟨t,rfl⟩:=r; rfl
  | flt _=>obtain ⟨t,rfl⟩:=r; rfl
  | ref _=>cases r; rfl
  | ty _=>cases r; rfl
theorem RelV.inj {x y:V} {u:Value} (r:RelV x u) (q:RelV y u):x=y:=Option.some.inj (r.abs.symm.trans q.abs)
theorem Vals.inj:∀ {xs ys:List V} {us:List Value},Vals xs us->Vals ys us->xs=ys
  | _,_,_,.nil,.nil=>rfl
  | _,_,_,.cons r t,.cons r' t'=>by rw [r.inj r',Vals.inj t t']
section
variable {X:Cx} {pins:List (Addr × Obj)} {σ:St} {H:Hp} {s:Shared} {a:Addr} {xs ys:List V}
theorem SqL.of {K:PySem.W.Frag} (h:H a=some (.lst xs)):SqL K H a xs:=.inl (.inl h)
theorem SqT.of {K:PySem.W.Frag} (h:H a=some (.tup xs)):SqT K H a xs:=.inl (.inl h)
theorem Inv.list (I:Inv X pins σ H s) (h:SqL X.K H a xs):∃ its:List Value,Vals xs its∧PlainL s.heap a its.toArray∧xs.length≤sizeLine:=by
  rcases h with h | ⟨o,its,n,hk,hc,hd,hs,hz,r⟩
  . obtain ⟨z,its,n,r,e⟩:=h.ok I.hok
    exact ⟨its,r,⟨_,n,e,rfl,rfl,rfl⟩,z⟩
  . refine ⟨its.toList,r,⟨o,n,I.kIn a o hk,hc,hd,by simpa using hs⟩,?_⟩
    have e:=r.length
    simp only [Array.length_toList] at e
    omega
theorem Inv.tuple (I:Inv X pins σ H s) (h:SqT X.K H a xs):∃ its:List Value,Vals xs its∧IsTup s.heap a its.toArray∧xs.length≤sizeLine:=by
  rcases h with h | ⟨o,its,n,hk,hc,hs,hz,r⟩
  . obtain ⟨z,its,r,p⟩:=h.ok I.hok
    exact ⟨its,r,p,z⟩
  . refine ⟨its.toList,r,⟨o,I.kIn a o hk,hc,n,by simpa using hs⟩,?_⟩
    have e:=r.length
    simp only [Array.length_toList] at e
    omega
theorem Inv.list_inj (I:Inv X pins σ H s) (h:SqL X.K H a xs) (h':SqL X.K H a ys):xs=ys:=by
  obtain ⟨its,r,⟨o,n,e,_,_,d⟩,_⟩:=I.list h
  obtain ⟨its',r',⟨o',n',e',_,_,d'⟩,_⟩:=I.list h'
  rw [e] at e'; cases e'
  rw [d] at d'
  injection d' with d1 _
  have:its=its':=by simpa using congrArg Array.toList d1
  subst this
  exact r.inj r'
theorem Inv.tuple_inj (I:Inv X pins σ H s) (h:SqT X.K H a xs) (h':SqT X.K H a ys):xs=ys:=by
  obtain ⟨its,r,⟨o,e,_,n,d⟩,_⟩:=I.tuple h
  obtain ⟨its',r',⟨o',e',_,n',d'⟩,_⟩:=I.tuple h'
  rw [e] at e'; cases e'
  rw [d] at d'
  injection d' with d1 _
  have:its=its':=by simpa using congrArg Array.toList d1
  subst this
  exact r.inj r'
end
abbrev Cx.wish (X:Cx) (E:Value->Shared->Prop):Cx:={ X with xe:=E }
abbrev Cx.nox (X:Cx):Cx:=X.wish fun _ _=>False
theorem Cx.Ok.wish {X:Cx} (ok:X.Ok) (E:Value->Shared->Prop):(X.wish E).Ok :=
  ⟨ok.mod,ok.kind,ok.glob,ok.blt,ok.above,ok.inj,ok.has,ok.cab,ok.hd,ok.frames,ok.stk,ok.exf,ok.bs,ok.bsz,ok.noex,ok.exfs,ok.funs,ok.frf⟩
theorem Cx.Ok.unwish {X:Cx} {E:Value->Shared->Prop} (ok:(X.wish E).Ok):X.Ok :=
  ⟨ok.mod,ok.kind,ok.glob,ok.blt,ok.above,ok.inj,ok.has,ok.cab,ok.hd,ok.frames,ok.stk,ok.exf,ok.bs,ok.bsz,ok.noex,ok.exfs,ok.funs,ok.frf⟩
section
variable {X:Cx} {pins:List (Addr × Obj)} {σ:St} {H:Hp} {s:Shared} {E:Value->Shared->Prop}
theorem Inv.wish (I:Inv X pins σ H s) (E:Value->Shared->Prop):Inv (X.wish E) pins σ H s:=⟨I.ok.wish E,I.os,I.bare,I.base,I.loc,I.cell,I.free,I.freeC,I.pin,I.hok,I.len⟩
theorem Inv.unwish (I:Inv (X.wish E) pins σ H s):Inv X pins σ H s:=⟨I.ok.unwish,I.os,I.bare,I.base,I.loc,I.cell,I.free,I.freeC,I.pin,I.hok,I.len⟩
theorem SP.unwish {D:Ends} {f:Flow} {s':Shared} (h:SP (X.wish E) pins D f s'):SP X pins D f s':=by
  cases f with
  | next=>obtain ⟨σ',H',I,q⟩:=h; exact ⟨σ',H',I.unwish,q⟩
  | brk=>obtain ⟨σ',H',I,q⟩:=h; exact ⟨σ',H',I.unwish,q⟩
  | cont=>obtain ⟨σ',H',I,q⟩:=h; exact ⟨σ',H',I.unwish,q⟩
  | ret u=>obtain ⟨v,σ',H',I,r,q⟩:=h; exact ⟨v,σ',H',I.unwish,r,q⟩
theorem PE.nox {e:Expr} {t:TE} (h:PE X.nox e t):PE X e t:=fun pins s σ H Q I hw =>
  wpAny_mono (h pins s σ H Q (I.wish _) hw) (fun _ _ ⟨v,H',I',r,q⟩=>⟨v,H',I'.unwish,r,q⟩) fun _ _ z=>False.elim z
theorem PT.nox {e:Expr} {t:TT} (h:PT X.nox e t):PT X e t:=fun pins s σ H Q I hw =>
  wpAny_mono (h pins s σ H Q (I.wish _) hw) (fun _ _ ⟨H',I',q⟩=>⟨H',I'.unwish,q⟩) fun _ _ z=>False.elim z
theorem PSs.nox {st:List Stmt} {t:TS} (h:PSs X.nox st t):PSs X st t:=fun pins s σ H D I hw =>
  wpAny_mono (h pins s σ H D (I.wish _) hw) (fun _ _ q=>q.unwish) fun _ _ z=>False.elim z
end
section
variable {X:Cx} {st:Stmt} {rest:List Stmt} {t u:TS} {e:Expr} {te:TE} {pos:Pos}
def tNext:TS:=fun D σ H=>D.nx σ H
def tSeq (t u:TS):TS:=fun D σ H=>t { D with nx:=u D } σ H
theorem pss_nil:PSs X [] tNext:=fun _ _ σ H _ I h=>wpAny_execs_nil ⟨σ,H,I,h⟩
theorem pss_cons (h1:PS X st t) (h2:PSs X rest u):PSs X (st::rest) (tSeq t u):=by
  intro pins s σ H D I h
  refine wpAny_execs_cons (thn (h1 pins s σ H { D with nx:=u D } I h) fun f s1 q=>?_)
  cases f with
  | next =>
    obtain ⟨σ',H',I',q⟩:=q
    exact h2 pins s1 σ' H' D I' q
  | ret v=>exact q
  | brk=>exact q
  | cont=>exact q
theorem pss_one (h1:PS X st t):PSs X [st] t:=by
  intro pins s σ H D I h
  refine wpAny_execs_cons (thn (h1 pins s σ H D I h) fun f s1 q=>?_)
  cases f with
  | next=>exact wpAny_execs_nil q
  | ret v=>exact q
  | brk=>exact q
  | cont=>exact q
theorem Inv.quiet {pins:List (Addr × Obj)} {σ:St} {H:Hp} {s:Shared} (I:Inv X pins σ H s):interactive X.env=false:=by simp [interactive,I.ok.kind]
def tDrop (te:TE):TS:=fun D σ H=>te σ H fun _ H1=>D.nx σ H1
theorem ps_expr (he:PE X e te) (hs:swapsWith e none pos.line X.env=pure false:=by rfl):PS X (.Expr e pos) (tDrop te):=by
  intro pins s σ H D I h
  exact wpAny_Expr_any (thn (he pins s σ H _ I h) fun v s1 ⟨x,H1,I1,r1,q1⟩=>⟨σ,H1,I1,q1⟩) I.quiet hs
def tRet (te:TE):TS:=fun D σ H=>te σ H D.rt
theorem ps_ret (he:PE X e te):PS X (.Return (some e) pos) (tRet te):=by
  intro pins s σ H D I h
  exact wpAny_Return_some (thn (he pins s σ H _ I h) fun v s1 ⟨x,H1,I1,r1,q1⟩=>⟨x,σ,H1,I1,r1,q1⟩)
def tIfS (c:TT) (t u:TS):TS:=fun D σ H=>c σ H fun b H1=>if b=true then t D σ H1 else u D σ H1
theorem ps_if {c:Expr} {a b:List Stmt} {tc:TT} (hc:PT X c tc) (ha:PSs X a t) (hb:PSs X b u):PS X (.If c a b pos) (tIfS tc t u):=by
  intro pins s σ H D I h
  refine wpAny_If (thn (hc pins s σ H _ I h) fun d s1 ⟨H1,I1,q1⟩=>?_)
  cases d with
  | true=>exact ha pins s1 σ H1 D I1 q1
  | false=>exact hb pins s1 σ H1 D I1 q1
end
abbrev TG:=V->St->Hp->(St->Hp->Prop)->Prop
abbrev TGs:=List V->St->Hp->(St->Hp->Prop)->Prop
def PG (X:Cx) (target:Expr) (t:TG):Prop :=
  ∀ (pins:List (Addr × Obj)) (s:Shared) (σ:St) (H:Hp) (v:V) (u:Value) (Q:St->Hp->Prop),Inv X pins σ H s->RelV v u->t v σ H Q ->
    wpAny (model X.prog X.w) X.A (assign target X.env u) (fun _ s'=>∃ σ' H',Inv X pins σ' H' s'∧Q σ' H') X.xe s
def PGs (X:Cx) (ts:List Expr) (t:TGs):Prop :=
  ∀ (pins:List (Addr × Obj)) (s:Shared) (σ:St) (H:Hp) (vs:List V) (us:List Value) (Q:St->Hp->Prop),Inv X pins σ H s->Vals vs us->t vs σ H Q ->
    wpAny (model X.prog X.w) X.A (assignInOrder ((assignEach ts X.env).map (·.2)) us) (fun _ s'=>∃ σ' H',Inv X pins σ' H' s'∧Q σ' H') X.xe s
abbrev TSet:=V->V->V->Hp->(Hp->Prop)->Prop
section
variable {X:Cx} {pos:Pos}
def gName (i:Nat):TG:=fun v σ H Q=>Q (σ.set i (some v)) H
theorem pg_name {i:Nat} {x:Str} (hN:X.N.Nodup) (hi:X.N[i]?=some x) (hx:Loc X.env.scope x) (hf:X.fn x=true∨X.env.scope.names.lookup x=some .local:=by first | exact .inl rfl | exact .inr rfl | assumption):PG X (.Name x pos) (gName i):=by
  intro pins s σ H v u Q I r h
  exact wpAny_assign_Name (store_ok I hN hi hx r (fun s' I'=>⟨_,H,I',h⟩) hf)
def gNil:TGs:=fun vs σ H Q=>vs=[]∧Q σ H
def gCons (t:TG) (u:TGs):TGs:=fun vs σ H Q=>∃ v r,vs=v::r∧t v σ H fun σ' H'=>u r σ' H' Q
theorem pgs_nil:PGs X [] gNil:=by
  intro pins s σ H vs us Q I r h
  obtain ⟨e,h⟩:=h
  subst e
  cases r
  exact assignInOrder_nil ⟨σ,H,I,h⟩
theorem pgs_cons {e:Expr} {es:List Expr} {t:TG} {u:TGs} (h1:PG X e t) (h2:PGs X es u)
    (hs:(assignEach (e::es) X.env).map (·.2)=assign e X.env::(assignEach es X.env).map (·.2):=by rfl):PGs X (e::es) (gCons t u):=by
  intro pins s σ H vs us Q I r h
  obtain ⟨v,vr,e1,h⟩:=h
  subst e1
  cases r with
  | cons r rr =>
    rw [hs]
    refine assignInOrder_cons (thn (h1 pins s σ H _ _ _ I r h) fun _ s1 ⟨σ1,H1,I1,q1⟩=>?_)
    exact h2 pins s1 σ1 H1 _ _ Q I1 rr q1
def gSub (to ti:TE) (t:TSet):TG:=fun v σ H Q=>to σ H fun o H1=>ti σ H1 fun i H2=>t o i v H2 fun H3=>Q σ H3
def tAsg (te:TE) (g:TG):TS:=fun D σ H=>te σ H fun x H1=>g x σ H1 D.nx
theorem ps_asg {tg e:Expr} {te:TE} {g:TG} (he:PE X e te) (hg:PG X tg g) (hs:swapsWithSole [tg] e pos.line X.env=pure false:=by rfl) (hw:swappedStores [tg] e X.env=pure none:=by rfl)
    (h1:(assignEach [tg] X.env).map (·.2)=[assign tg X.env]:=by rfl):PS X (.Assign [tg] e pos) (tAsg te g):=by
  intro pins s σ H D I h
  refine wpAny_Assign_stores (thn (he pins s σ H _ I h) fun v s1 ⟨x,H1,I1,r1,q1⟩=>?_) hs hw
  rw [h1]
  exact thn (hg pins s1 σ H1 x v _ I1 r1 q1) fun _ s2 q=>q
theorem ps_set {i:Nat} {x:Str} {e:Expr} {te:TE} {pos':Pos} (hN:X.N.Nodup) (hi:X.N[i]?=some x) (hx:Loc X.env.scope x) (he:PE X e te) (hs:swapsWith e (some (.Name x pos')) pos.line X.env=pure false:=by rfl) (hf:X.fn x=true∨X.env.scope.names.lookup x=some .local:=by first | exact .inl rfl | exact .inr rfl | assumption) :
    PS X (.Assign [.Name x pos'] e pos) (tAsg te (gName i)):=by
  intro pins s σ H D I h
  refine wpAny_Assign_Name (thn (he pins s σ H _ I h) fun v s1 ⟨y,H1,I1,r1,q1⟩=>?_) hs
  exact store_ok I1 hN hi hx r1 (fun s2 I2=>⟨_,H1,I2,q1⟩) hf
end
section
variable {X:Cx} {pos:Pos}
end
structure It where
  go:Nat->Hp->Prop
  yld:Nat->Hp->V->Hp->Prop
  stop:Nat->Hp->Prop
def FpOk (X:Cx) (pins:List (Addr × Obj)) (H:Hp) (b:Addr):Prop :=
  H b=none∧b≠X.env.locals∧b ∉ X.fs∧(b∈X.ex∨X.s₀.heap.objs.size≤b)∧(∀ x c,X.env.cells.lookup x=some c->c≠b)∧∀ p∈X.pn++pins,p.1≠b
theorem Inv.fpOk {X:Cx} {pins:List (Addr × Obj)} {σ:St} {H H':Hp} {s:Shared} {b:Addr} (I:Inv X pins σ H s) (hb:s.heap.objs.size≤b) (hn:H' b=none):FpOk X pins H' b:=by
  refine ⟨hn,Nat.ne_of_gt (Nat.lt_of_lt_of_le I.lt hb),I.nofs hb,.inr (Nat.le_trans I.sz hb),fun x c e z=>?_,fun p hp z=>?_⟩
  . obtain ⟨v,q⟩:=I.cell x c e
    exact absurd (Nat.lt_of_lt_of_le q.lt (by rw [z]; exact hb)) (Nat.lt_irrefl _)
  . exact absurd (Nat.lt_of_lt_of_le (Heap.lt_size (I.pin p hp).1) (by rw [z]; exact hb)) (Nat.lt_irrefl _)
structure Turn (P:Program) (w:World) (K:PySem.W.Frag) (tg:Expr) (J:It) (fp:List Addr) (it:Addr) (tn:Nat->Heap->Prop):Prop where
  mem:it∈fp
  obj:∀ i h,tn i h->∀ b∈fp,∃ o,h.get? b=some o∧∀ v,o.data≠.cell v
  keep:∀ i h h',tn i h->(∀ b∈fp,∀ o,h.get? b=some o->h'.get? b=some o)->tn i h'
  item:∀ (X:Cx),X.prog=P->X.w=w->X.K=K->X.calm=true->∀ (i:Nat) (pins:List (Addr × Obj)) (s:Shared) (σ:St) (H:Hp) (E:Value->Shared->Prop),Inv X pins σ H s->(∀ b∈fp,FpOk X pins H b)->tn i s.heap->J.go i H ->
    wpAny (model P w) X.A (pyNext (.ref it)) (fun r s1=>∃ u,r=some u ∧
      wpAny (model P w) X.A (letOwnedTupleGo tg (.ref it) u) (fun _ s2=>∃ x H',Inv X pins σ H' s2∧RelV x u∧J.yld i H x H'∧tn (i + 1) s2.heap∧∀ b∈fp,H' b=none) E s1) E s
  done:∀ (X:Cx),X.prog=P->X.w=w->X.K=K->X.calm=true->∀ (i:Nat) (pins:List (Addr × Obj)) (s:Shared) (σ:St) (H:Hp) (E:Value->Shared->Prop),Inv X pins σ H s->(∀ b∈fp,FpOk X pins H b)->tn i s.heap->J.stop i H ->
    wpAny (model P w) X.A (pyNext (.ref it)) (fun r s1=>r=none∧Inv X pins σ H s1) E s
  self:∀ (A:Around) (i:Nat) (s:Shared) (Q:Value->Shared->Prop) (E:Value->Shared->Prop),tn i s.heap->Q (.ref it) s->wpAny (model P w) A (pyIter (.ref it)) Q E s
abbrev TI:=St->Hp->(It->Hp->Prop)->Prop
def PIE (X:Cx) (pins:List (Addr × Obj)) (σ:St) (tg:Expr) (R:It->Hp->Prop) (itv:Value) (s2:Shared):Prop :=
  ∃ (it:Addr) (fp:List Addr) (tn:Nat->Heap->Prop) (J:It) (H':Hp),itv=.ref it∧Inv X pins σ H' s2∧Turn X.prog X.w X.K tg J fp it tn∧tn 0 s2.heap∧(∀ b∈fp,FpOk X pins H' b)∧R J H'
def PI (X:Cx) (tg iter:Expr) (wi:TI):Prop :=
  ∀ (pins:List (Addr × Obj)) (s:Shared) (σ:St) (H:Hp) (R:It->Hp->Prop),Inv X pins σ H s->wi σ H R ->
    wpAny (model X.prog X.w) X.A (eval iter X.env) (fun v s1=>wpAny (model X.prog X.w) X.A (pyIter v) (PIE X pins σ tg R) X.xe s1) X.xe s
theorem go_of {M:Model} {A:Around} {E:Value->Shared->Prop} {s:Shared} {tg:Expr} {it:Addr} {u:Value} {o:Obj} {n:String} {vs:Array Value} {Q:Unit->Shared->Prop} (ho:s.heap.get? it=some o) (hc:o.cls=.type n) (hd:o.data=.fields vs)
    (hn : ["enumerate","zip","dict_itemiterator","dict_reverseitemiterator","odict_iterator","itertools.zip_longest","itertools.pairwise"].contains n=false) (hQ:Q () s):wpAny M A (letOwnedTupleGo tg (.ref it) u) Q E s:=by
  unfold letOwnedTupleGo
  cases tg <;> first
    | exact wpAny_pure hQ
    | (cases u <;> first
        | exact wpAny_pure hQ
        | (refine wpAny_bind (wpAny_load ho ?_)
           rw [hc,hd]
           show wpAny M A (if (["enumerate","zip","dict_itemiterator","dict_reverseitemiterator","odict_iterator","itertools.zip_longest","itertools.pairwise"].contains n && vs[0]? == some (rawInt _))=true then _ else _) Q E s
           rw [if_neg (by intro h; rw [hn,Bool.false_and] at h; cases h)]
           exact wpAny_pure hQ))
def Itl (K:PySem.W.Frag) (a:Addr):It :=
  ⟨fun i H=>∃ xs x,SqL K H a xs∧xs[i]?=some x,fun i H x H'=>H'=H∧∀ xs,SqL K H a xs->xs[i]?=some x,fun i H=>∃ xs,SqL K H a xs∧xs.length≤i⟩
def Itt (K:PySem.W.Frag) (a:Addr):It :=
  ⟨fun i H=>∃ xs x,SqT K H a xs∧xs[i]?=some x,fun i H x H'=>H'=H∧∀ xs,SqT K H a xs->xs[i]?=some x,fun i H=>∃ xs,SqT K H a xs∧xs.length≤i⟩
def Itr (lo:Int) (n:Nat):It:=⟨fun i _=>i < n,fun i H x H'=>H'=H∧x=.int (lo + i),fun i _=>n≤i⟩
theorem turn_list {P:Program} {w:World} {K:PySem.W.Frag} {tg:Expr} (a it:Addr):Turn P w K tg (Itl K a) [it] it (fun i h=>h.IsListIter it a i) where
  mem:=by simp
  obj:=fun i h st b hb=>by
    have e:b=it:=by simpa using hb
    subst e
    obtain ⟨o,e,c,d⟩:=st
    exact ⟨o,e,fun v z=>by rw [d] at z; cases z⟩
  keep:=fun i h h' st k=>st.at fun o e=>k it (by simp) o e
  item:=by
    intro X hP hw hK hc i pins s σ H E I hf st hg
    subst hP hw hK
    obtain ⟨xs,x,hq,hx⟩:=hg
    obtain ⟨its,rv,p,hz⟩:=I.list hq
    obtain ⟨u,hu,ru⟩:=rv.get hx
    obtain ⟨f0,f1,f2,f3,f4,f5⟩:=hf it (by simp)
    refine wpAny_pyNext_list_item st p.isList (x:=u) (by simpa using hu) fun h' st' sb=>?_
    have I1:Inv X pins σ H { s with heap:=h' }:=I.turned (t':=s.toks) (fun b o hb e=>(sb.2 b hb).trans e) f0 f1 f3 f4 f5
    obtain ⟨o,e,c,d⟩:=id st'
    exact ⟨u,rfl,go_of (s:={ s with heap:=h' }) e c d (by decide) ⟨x,H,I1,ru,⟨rfl,fun ys hy=>by rw [I.list_inj hy hq]; exact hx⟩,st',fun b hb=>(hf b hb).1⟩⟩
  done:=by
    intro X hP hw hK hc i pins s σ H E I hf st hg
    subst hP hw hK
    obtain ⟨xs,hq,hx⟩:=hg
    obtain ⟨its,rv,p,hz⟩:=I.list hq
    obtain ⟨f0,f1,f2,f3,f4,f5⟩:=hf it (by simp)
    have hl:=rv.length
    exact wpAny_pyNext_list_end (I.ok.hd hc) st p.isList (by simp; omega) fun h' eb=>⟨rfl,I.turned (t':=s.toks) (fun b o hb e=>eb b o hb e) f0 f1 f3 f4 f5⟩
  self:=fun _ _ _ _ _ st h=>wpAny_pyIter_listiter st h
theorem turn_tuple {P:Program} {w:World} {K:PySem.W.Frag} {tg:Expr} (a it:Addr):Turn P w K tg (Itt K a) [it] it (fun i h=>h.IsTupleIter it a i) where
  mem:=by simp
  obj:=fun i h st b hb=>by
    have e:b=it:=by simpa using hb
    subst e
    obtain ⟨o,e,c,d⟩:=st
    exact ⟨o,e,fun v z=>by rw [d] at z; cases z⟩
  keep:=fun i h h' st k=>st.at fun o e=>k it (by simp) o e
  item:=by
    intro X hP hw hK hc i pins s σ H E I hf st hg
    subst hP hw hK
    obtain ⟨xs,x,hq,hx⟩:=hg
    obtain ⟨its,rv,p,hz⟩:=I.tuple hq
    obtain ⟨u,hu,ru⟩:=rv.get hx
    obtain ⟨f0,f1,f2,f3,f4,f5⟩:=hf it (by simp)
    refine wpAny_pyNext_tuple_item st (show s.heap.IsTuple a its.toArray from p) (x:=u) (by simpa using hu) fun h' st' sb=>?_
    have I1:Inv X pins σ H { s with heap:=h' }:=I.turned (t':=s.toks) (fun b o hb e=>(sb.2 b hb).trans e) f0 f1 f3 f4 f5
    obtain ⟨o,e,c,d⟩:=id st'
    exact ⟨u,rfl,go_of (s:={ s with heap:=h' }) e c d (by decide) ⟨x,H,I1,ru,⟨rfl,fun ys hy=>by rw [I.tuple_inj hy hq]; exact hx⟩,st',fun b hb=>(hf b hb).1⟩⟩
  done:=by
    intro X hP hw hK hc i pins s σ H E I hf st hg
    subst hP hw hK
    obtain ⟨xs,hq,hx⟩:=hg
    obtain ⟨its,rv,p,hz⟩:=I.tuple hq
    obtain ⟨f0,f1,f2,f3,f4,f5⟩:=hf it (by simp)
    have hl:=rv.length
    exact wpAny_pyNext_tuple_end (I.ok.hd hc) st (show s.heap.IsTuple a its.toArray from p) (by simp; omega) fun h' eb=>⟨rfl,I.turned (t':=s.toks) (fun b o hb e=>eb b o hb e) f0 f1 f3 f4 f5⟩
  self:=fun _ _ _ _ _ st h=>wpAny_pyIter_tupleiter st h
theorem turn_range {P:Program} {w:World} {K:PySem.W.Frag} {tg:Expr} (it:Addr) (lo:Int) (n:Nat):Turn P w K tg (Itr lo n) [it] it (fun i h=>IsRangeIter h it (lo + (i:Nat) * 1) ((n:Int) - (i:Nat)) 1) where
  mem:=by simp
  obj:=fun i h st b hb=>by
    have e:b=it:=by simpa using hb
    subst e
    exact ⟨_,st,fun v z=>by
      have z':Data.fields _=Data.cell v:=z
      cases z'⟩
  keep:=fun i h h' st k=>k it (by simp) _ st
  item:=by
    intro X hP hw hK hc i pins s σ H E I hf st hg
    subst hP hw hK
    obtain ⟨f0,f1,f2,f3,f4,f5⟩:=hf it (by simp)
    have W:=Walks.range (prog:=X.prog) (w:=X.w) (I.ok.hd hc) it lo 1 n
    refine W.item i s _ _ hg st fun v h' tk hv st' kk=>?_
    obtain ⟨t,rfl⟩:=hv
    have I1:Inv X pins σ H { s with heap:=h',toks:=tk }:=I.turned (fun b o hb e=>kk b o (by simpa using hb) e) f0 f1 f3 f4 f5
    refine ⟨_,rfl,go_of (s:={ s with heap:=h',toks:=tk }) (n:="range_iterator") st' rfl rfl (by decide) ⟨.int (lo + i),H,I1,⟨t,?_⟩,⟨rfl,rfl⟩,st',fun b hb=>(hf b hb).1⟩⟩
    rw [Int.mul_one]
  done:=by
    intro X hP hw hK hc i pins s σ H E I hf st hg
    subst hP hw hK
    obtain ⟨f0,f1,f2,f3,f4,f5⟩:=hf it (by simp)
    exact wpAny_pyNext_range_end (I.ok.hd hc) st (by have:n≤i:=hg; omega) fun h' eb=>⟨rfl,I.turned (t':=s.toks) (fun b o hb e=>eb b o hb e) f0 f1 f3 f4 f5⟩
  self:=fun _ _ _ _ _ st h=>wpAny_pyIter_rangeiter st h
end L2
namespace L2
open PySem PySem.Spec PyProof.Rows
section
variable {X:Cx} {tg:Expr}
def iList (K:PySem.W.Frag) (tl:TE):TI:=fun σ H R=>tl σ H fun x H1=>∃ a,x=.ref a∧(∃ xs,SqL K H1 a xs)∧R (Itl K a) H1
def iTup (K:PySem.W.Frag) (tl:TE):TI:=fun σ H R=>tl σ H fun x H1=>∃ a,x=.ref a∧(∃ xs,SqT K H1 a xs)∧R (Itt K a) H1
theorem pi_list {l:Expr} {tl:TE} (hl:PE X l tl):PI X tg l (iList X.K tl):=by
  intro pins s σ H R I h
  refine thn (hl pins s σ H _ I h) fun v s1 ⟨x,H1,I1,r1,q1⟩=>?_
  obtain ⟨a,e,⟨xs,hq⟩,q⟩:=q1
  subst e
  cases r1
  obtain ⟨its,rv,p,hz⟩:=I1.list hq
  refine wpAny_pyIter_list p.isList ?_
  refine ⟨s1.heap.objs.size,[s1.heap.objs.size],_,_,H1,rfl,I1.kept (t':=s1.toks) fun b o e=>Heap.get?_push_of_some _ e,turn_list a _,⟨_,Heap.get?_push_size _ rfl,rfl,rfl⟩,fun b hb=>?_,q⟩
  have e:b=s1.heap.objs.size:=by simpa using hb
  subst e
  exact I1.fpOk (Nat.le_refl _) (I1.hok.fresh (Nat.le_refl _))
theorem pi_tup {l:Expr} {tl:TE} (hl:PE X l tl):PI X tg l (iTup X.K tl):=by
  intro pins s σ H R I h
  refine thn (hl pins s σ H _ I h) fun v s1 ⟨x,H1,I1,r1,q1⟩=>?_
  obtain ⟨a,e,⟨xs,hq⟩,q⟩:=q1
  subst e
  cases r1
  obtain ⟨its,rv,p,hz⟩:=I1.tuple hq
  refine wpAny_pyIter_tuple (show s1.heap.IsTuple a its.toArray from p) ?_
  refine ⟨s1.heap.objs.size,[s1.heap.objs.size],_,_,H1,rfl,I1.kept (t':=s1.toks) fun b o e=>Heap.get?_push_of_some _ e,turn_tuple a _,⟨_,Heap.get?_push_size _ rfl,rfl,rfl⟩,fun b hb=>?_,q⟩
  have e:b=s1.heap.objs.size:=by simpa using hb
  subst e
  exact I1.fpOk (Nat.le_refl _) (I1.hok.fresh (Nat.le_refl _))
theorem range_it {pins:List (Addr × Obj)} {σ:St} {H:Hp} {s:Shared} {R:It->Hp->Prop} {E:Value->Shared->Prop} {lo hi:Int} {t u v:Tok} {tk:Nat} (I:Inv X pins σ H s) (h1 : -(2 ^ 62)≤lo) (h2:lo < 2 ^ 62) (h3 : -(2 ^ 62)≤hi) (h4:hi < 2 ^ 62)
    (q:R (Itr lo (hi - lo).toNat) H):wpAny (model X.prog X.w) X.A (pyIter (.ref s.heap.objs.size)) (PIE X pins σ tg R) E { s with heap:=s.heap.push { cls:=.type "range",data:=.fields #[.int lo t,.int hi u,.int 1 v] },toks:=tk }:=by
  refine wpAny_pyIter_range (IsRange.new ..) (small_one h1 h2 h3 h4) ?_
  have I1:Inv X pins σ H { s with heap:=s.heap.push { cls:=.type "range",data:=.fields #[.int lo t,.int hi u,.int 1 v] },toks:=tk }:=I.kept fun b o e=>Heap.get?_push_of_some _ e
  refine ⟨(s.heap.push { cls:=.type "range",data:=.fields #[.int lo t,.int hi u,.int 1 v] }).objs.size,[(s.heap.push { cls:=.type "range",data:=.fields #[.int lo t,.int hi u,.int 1 v] }).objs.size],_,_,H,rfl,
    I1.kept (t':=tk) fun b o e=>Heap.get?_push_of_some _ e,turn_range _ lo (hi - lo).toNat,?_,fun b hb=>?_,q⟩
  . have e1:lo + ((0:Nat):Int) * 1=lo:=by simp
    have e2:(((hi - lo).toNat:Nat):Int) - ((0:Nat):Int)=Builtin.Range.rangeSize lo hi 1:=by rw [rangeSize_one]; split <;> omega
    show IsRangeIter _ _ (lo + ((0:Nat):Int) * 1) ((((hi - lo).toNat:Nat):Int) - ((0:Nat):Int)) 1
    rw [e1,e2]
    exact Heap.get?_push_size _ rfl
  . have e:b=(s.heap.push { cls:=.type "range",data:=.fields #[.int lo t,.int hi u,.int 1 v] }).objs.size:=by simpa using hb
    subst e
    exact I1.fpOk (Nat.le_refl _) (I1.hok.fresh (Nat.le_refl _))
def iRng1 (ta:TA):TI:=fun σ H R=>ta σ H fun vs H1=>∃ j:Int,vs=[.int j]∧-(2 ^ 62)≤j∧j < 2 ^ 62∧R (Itr 0 j.toNat) H1
theorem pi_range1 {a:Expr} {ta:TA} {p pos:Pos} (hg:Gl X "range") (hm:X.mg "range" = none) (ha:PA X [a] ta) (hs:starEach [a] X.env=[(false,eval a X.env)]:=by rfl):PI X tg (.Call (.Name "range" p) [a] [] pos) (iRng1 ta):=by
  intro pins s σ H R I h
  refine Call_ (ld_blt I hg hm boot_range (PyProof.Rows.callWith_type1 (thn (ha pos pins s σ H _ I h) fun us s1 ⟨vs,H1,I1,r1,q1⟩=>?_) hs rfl))
  obtain ⟨j,e,q1,q2,q⟩:=q1
  subst e
  cases r1 with
  | cons r rr =>
    cases rr
    obtain ⟨t,rfl⟩:=r
    exact call_range_1 (range_it I1 (by omega) (by omega) q1 q2 (by simpa using q))
def tFor (wi:TI) (g:TG) (tb:TS):TS:=fun D σ H=>wi σ H fun J H1=>∃ W:Nat->Nat->St->Hp->Prop,(∃ m,W 0 m σ H1)∧∀ i m σ H,W i m σ H ->
  (J.stop i H∧D.nx σ H)∨(J.go i H∧∃ N:St->Hp->Prop,(∀ σ' H',N σ' H'->∃ m',m' < m∧W (i + 1) m' σ' H')∧∀ x H',J.yld i H x H'->g x σ H' fun σ2 H2=>tb { D with nx:=N,ct:=N,bk:=D.nx } σ2 H2)
def pinsAt (fp:List Addr) (h:Heap):List (Addr × Obj):=fp.filterMap fun b=>(h.get? b).map fun o=>(b,o)
theorem mem_pinsAt {fp:List Addr} {h:Heap} {b:Addr} {o:Obj} (hb:b∈fp) (e:h.get? b=some o):(b,o)∈pinsAt fp h:=List.mem_filterMap.mpr ⟨b,hb,by rw [e]; rfl⟩
theorem of_pinsAt {fp:List Addr} {h:Heap} {p:Addr × Obj} (hp:p∈pinsAt fp h):p.1∈fp∧h.get? p.1=some p.2:=by
  obtain ⟨b,hb,e⟩:=List.mem_filterMap.mp hp
  cases q:h.get? b with
  | none=>rw [q] at e; cases e
  | some o =>
    rw [q] at e
    have e':(b,o)=p:=Option.some.inj e
    subst e'
    exact ⟨hb,q⟩
theorem Inv.pinned {pins:List (Addr × Obj)} {σ:St} {H:Hp} {s:Shared} {fp:List Addr} (I:Inv X pins σ H s) (hf:∀ b∈fp,FpOk X pins H b) (ho:∀ b∈fp,∃ o,s.heap.get? b=some o∧∀ v,o.data≠.cell v):Inv X (pins++pinsAt fp s.heap) σ H s :=
  I.pins_of fun p hp=>(List.mem_append.mp hp).elim (fun z=>I.pin p (List.mem_append_right _ z)) fun z=>by
    obtain ⟨hb,e⟩:=of_pinsAt z
    obtain ⟨f0,f1,f2,_⟩:=hf p.1 hb
    obtain ⟨o,e',d⟩:=ho p.1 hb
    rw [e] at e'; cases e'
    exact ⟨e,f0,f1,f2,d⟩
theorem Inv.unpinned {pins pl:List (Addr × Obj)} {σ:St} {H:Hp} {s:Shared} (I:Inv X (pins++pl) σ H s):Inv X pins σ H s:=I.pins_of fun p hp=>I.pin p (List.mem_append_right _ (List.mem_append_left _ hp))
theorem ps_for {iter:Expr} {body:List Stmt} {wi:TI} {g:TG} {tb:TS} {pos:Pos} (hp:PassesOwn (model X.prog X.w) X.A X.env X.xe) (hc:X.calm=true) (hi:PI X tg iter wi) (hg:PG X tg g) (hb:PSs X body tb)
    (hs:∀ x,foldedSetIterable iter X.env x=pure x:=by intro _; rfl):PS X (.For tg iter body [] pos) (tFor wi g tb):=by
  intro pins s σ H D I h
  refine wpAny_For (thn (hi pins s σ H _ I h) fun v s1 h1=>thn h1 fun itv s2 h2=>?_) hs
  obtain ⟨it,fp,tn,J,H2,e,I2,T,st2,f2,W,⟨m0,w0⟩,turn⟩:=h2
  subst e
  have stat:∀ {H':Hp},(∀ b∈fp,H' b=none)->∀ b∈fp,FpOk X pins H' b:=fun hn b hb=>⟨hn b hb,(f2 b hb).2⟩
  refine codeAny_forLoop_any (fun n s'=>∃ i σ' H',Inv X pins σ' H' s'∧tn i s'.heap∧(∀ b∈fp,H' b=none)∧W i n σ' H') ?_ m0 ⟨0,σ,H2,I2,st2,fun b hb=>(f2 b hb).1,w0⟩
  rintro n s3 ⟨i,σ3,H3,I3,st3,fr3,w3⟩
  rcases turn i n σ3 H3 w3 with ⟨stop,qn⟩ | ⟨go,N,hN,step⟩
  . refine wpAny_passesOwn hp (thn (T.done X rfl rfl rfl hc i pins s3 σ3 H3 X.xe I3 (stat fr3) st3 stop) fun r s4 ⟨hr,I4⟩=>?_)
    subst hr
    exact wpAny_execs_nil ⟨σ3,H3,I4,qn⟩
  . refine wpAny_passesOwn hp (thn (T.item X rfl rfl rfl hc i pins s3 σ3 H3 X.xe I3 (stat fr3) st3 go) fun r s4 ⟨u,hr,h4⟩=>?_)
    subst hr
    refine wpAny_passesOwn hp (thn h4 fun _ s5 ⟨x,H5,I5,r5,y5,st5,fr5⟩=>?_)
    have I5':=I5.pinned (stat fr5) (T.obj _ _ st5)
    refine wpAny_passesOwn hp (thn (hg _ s5 σ3 H5 x u _ I5' r5 (step x H5 y5)) fun _ s6 ⟨σ6,H6,I6,q6⟩=>?_)
    refine wpAny_passesOwn hp (thn (hb _ s6 σ6 H6 _ I6 q6) fun f s7 q7=>?_)
    have again:∀ {σ7:St} {H7:Hp},Inv X (pins++pinsAt fp s5.heap) σ7 H7 s7->N σ7 H7->∃ m,m < n∧∃ i σ' H',Inv X pins σ' H' s7∧tn i s7.heap∧(∀ b∈fp,H' b=none)∧W i m σ' H':=fun {σ7 H7} I7 n7=>by
      obtain ⟨m',hm,w7⟩:=hN σ7 H7 n7
      refine ⟨m',hm,i + 1,σ7,H7,I7.unpinned,T.keep _ _ _ st5 fun b hb o e=>(I7.pin (b,o) (List.mem_append_right _ (List.mem_append_right _ (mem_pinsAt hb e)))).1,fun b hb=>?_,w7⟩
      obtain ⟨o,e,d⟩:=T.obj _ _ st5 b hb
      exact (I7.pin (b,o) (List.mem_append_right _ (List.mem_append_right _ (mem_pinsAt hb e)))).2.1
    cases f with
    | next=>obtain ⟨σ7,H7,I7,n7⟩:=q7; exact again I7 n7
    | cont=>obtain ⟨σ7,H7,I7,n7⟩:=q7; exact again I7 n7
    | brk=>obtain ⟨σ7,H7,I7,q7⟩:=q7; exact ⟨σ7,H7,I7.unpinned,q7⟩
    | ret v=>obtain ⟨x7,σ7,H7,I7,r7,q7⟩:=q7; exact ⟨x7,σ7,H7,I7.unpinned,r7,q7⟩
end
end L2
namespace L2
open PySem PySem.Spec PyProof.Rows
abbrev R2:=V->V->Hp->VK->Prop
def OpR (X:Cx) (f:Value->Value->Sem Value) (r:R2):Prop :=
  ∀ (pins:List (Addr × Obj)) (s:Shared) (σ:St) (H:Hp) (x y:V) (v u:Value) (Q:VK),Inv X pins σ H s->RelV x v->RelV y u->r x y H Q ->
    wpAny (model X.prog X.w) X.A (f v u) (EP X pins σ Q) X.xe s
def UnR (X:Cx) (f:Value->Sem Value) (r:V->Hp->VK->Prop):Prop :=
  ∀ (pins:List (Addr × Obj)) (s:Shared) (σ:St) (H:Hp) (x:V) (v:Value) (Q:VK),Inv X pins σ H s->RelV x v->r x H Q ->
    wpAny (model X.prog X.w) X.A (f v) (EP X pins σ Q) X.xe s
def CallR (X:Cx) (f:Value) (r:List V->Hp->VK->Prop):Prop :=
  ∀ (pins:List (Addr × Obj)) (s:Shared) (σ:St) (H:Hp) (xs:List V) (us:List Value) (Q:VK),Inv X pins σ H s->Vals xs us->r xs H Q ->
    wpAny (model X.prog X.w) X.A (call f us) (EP X pins σ Q) X.xe s
def tOp (r:R2) (ta tb:TE):TE:=fun σ H Q=>ta σ H fun x H1=>tb σ H1 fun y H2=>r x y H2 Q
def tUn (r:V->Hp->VK->Prop) (ta:TE):TE:=fun σ H Q=>ta σ H fun x H1=>r x H1 Q
def rI (C:Int->Int->Prop) (g:Int->Int->V):R2:=fun x y H Q=>∃ i j,x=.int i∧y=.int j∧C i j∧Q (g i j) H
def rI0 (g:Int->Int->V):R2:=fun x y H Q=>∃ i j,x=.int i∧y=.int j∧Q (g i j) H
def rU (g:Int->V):V->Hp->VK->Prop:=fun x H Q=>∃ i,x=.int i∧Q (g i) H
section
variable {X:Cx} {a b c:Expr} {ta tb tc:TE} {pos:Pos}
theorem binT (ha:PE X a ta) (hb:PE X b tb) {pins:List (Addr × Obj)} {s:Shared} {σ:St} {H:Hp} {R:V->V->Hp->Prop} (I:Inv X pins σ H s)
    (h:ta σ H fun x H1=>tb σ H1 fun y H2=>R x y H2) {Q:Value->Shared->Prop} {f:Value->Value->Sem Value}
    (hf:∀ v u s2 x y H2,Inv X pins σ H2 s2->RelV x v->RelV y u->R x y H2->wpAny (model X.prog X.w) X.A (f v u) Q X.xe s2) :
    wpAny (model X.prog X.w) X.A (eval a X.env) (fun v s₁=>wpAny (model X.prog X.w) X.A (eval b X.env) (fun u s₂=>wpAny (model X.prog X.w) X.A (f v u) Q X.xe s₂) X.xe s₁) X.xe s:=by
  refine thn (ha pins s σ H _ I h) fun v s1 ⟨x,H1,I1,r1,q1⟩=>?_
  refine thn (hb pins s1 σ H1 _ I1 q1) fun u s2 ⟨y,H2,I2,r2,q2⟩=>?_
  exact hf v u s2 x y H2 I2 r1 r2 q2
theorem pe_op {op:Operator} {r:R2} (ho:OpR X (binaryOp op) r) (ha:PE X a ta) (hb:PE X b tb):PE X (.BinOp a op b pos) (tOp r ta tb):=by
  intro pins s σ H Q I h
  exact wpAny_BinOp (binT ha hb I h fun v u s2 x y H2 I2 rx ry q=>ho pins s2 σ H2 x y v u Q I2 rx ry q)
theorem pe_un {op:UnaryOp} {r:V->Hp->VK->Prop} (ho:UnR X (unaryOp op) r) (ha:PE X a ta):PE X (.UnaryOp op a pos) (tUn r ta):=by
  intro pins s σ H Q I h
  exact UnaryOp_ (thn (ha pins s σ H _ I h) fun v s1 ⟨x,H1,I1,r1,q1⟩=>ho pins s1 σ H1 x v Q I1 r1 q1)
theorem opI {f:Value->Value->Sem Value} {C:Int->Int->Prop} {g:Int->Int->Int}
    (rule:∀ (i j:Int) (t u:Tok) (s:Shared) (Q:Value->Shared->Prop) (E:Value->Shared->Prop),C i j->Q (.int (g i j) s.toks) { s with toks:=s.toks + 1 }->wpAny (model X.prog X.w) X.A (f (.int i t) (.int j u)) Q E s) :
    OpR X f (rI C fun i j=>.int (g i j)):=by
  intro pins s σ H x y v u Q I rx ry h
  obtain ⟨i,j,rfl,rfl,hc,q⟩:=h
  obtain ⟨t,rfl⟩:=rx
  obtain ⟨t',rfl⟩:=ry
  exact rule i j t t' s _ _ hc ⟨.int (g i j),H,I.tok _,⟨_,rfl⟩,q⟩
theorem opI0 {f:Value->Value->Sem Value} {g:Int->Int->Int}
    (rule:∀ (i j:Int) (t u:Tok) (s:Shared) (Q:Value->Shared->Prop) (E:Value->Shared->Prop),Q (.int (g i j) s.toks) { s with toks:=s.toks + 1 }->wpAny (model X.prog X.w) X.A (f (.int i t) (.int j u)) Q E s) :
    OpR X f (rI0 fun i j=>.int (g i j)):=by
  intro pins s σ H x y v u Q I rx ry h
  obtain ⟨i,j,rfl,rfl,q⟩:=h
  obtain ⟨t,rfl⟩:=rx
  obtain ⟨t',rfl⟩:=ry
  exact rule i j t t' s _ _ ⟨.int (g i j),H,I.tok _,⟨_,rfl⟩,q⟩
theorem opB0 {f:Value->Value->Sem Value} {g:Int->Int->Bool}
    (rule:∀ (i j:Int) (t u:Tok) (s:Shared) (Q:Value->Shared->Prop) (E:Value->Shared->Prop),Q (.bool (g i j)) s->wpAny (model X.prog X.w) X.A (f (.int i t) (.int j u)) Q E s) :
    OpR X f (rI0 fun i j=>.bl (g i j)):=by
  intro pins s σ H x y v u Q I rx ry h
  obtain ⟨i,j,rfl,rfl,q⟩:=h
  obtain ⟨t,rfl⟩:=rx
  obtain ⟨t',rfl⟩:=ry
  exact rule i j t t' s _ _ ⟨.bl (g i j),H,I,rfl,q⟩
def CDiv (i j:Int):Prop:=0 < j∧j < 1073741824
def CPow (i j:Int):Prop:=0≤j∧j≤1000000∧i.natAbs < 2 ^ 64
def CMul (i j:Int):Prop:=(-(2 ^ 64) < i∧i < 2 ^ 64)∨(-(2 ^ 64) < j∧j < 2 ^ 64)
theorem CMul.ok {i j:Int} (h:CMul i j):IntMulOk i j:=by
  rcases h with ⟨h1,h2⟩ | ⟨h1,h2⟩
  . exact .of_left (intBits_le_64 h1 h2)
  . exact .of_right (intBits_le_64 h1 h2)
theorem op_add:OpR X (binaryOp .Add) (rI0 fun i j=>.int (i + j)):=opI0 fun _ _ _ _ _ _ _ q=>add_int q
theorem op_sub:OpR X (binaryOp .Sub) (rI0 fun i j=>.int (i - j)):=opI0 fun _ _ _ _ _ _ _ q=>sub_int q
theorem op_fdiv:OpR X (binaryOp .FloorDiv) (rI CDiv fun i j=>.int (i / j)):=opI fun i j _ _ _ _ _ hc q=>by
  have h1:(0:Int) < j:=hc.1
  have h2:j < 1073741824:=hc.2
  exact floordiv_int (by omega) (by rw [Int.fdiv_eq_ediv_of_nonneg i (by omega)]; exact q) (.inl (PyProof.noPylong_small (by omega)))
theorem op_mod:OpR X (binaryOp .Mod) (rI (fun _ j=>0 < j) fun i j=>.int (i % j)):=opI fun i j _ _ _ _ _ hc q=>by
  have h1:(0:Int) < j:=hc
  exact mod_int' (by omega) (by rw [Int.fmod_eq_emod_of_nonneg i (by omega)]; exact q)
theorem op_pow:OpR X (binaryOp .Pow) (rI CPow fun i j=>.int (i ^ j.toNat)):=opI fun _ _ _ _ _ _ _ hc q=>pow_int_small hc.1 hc.2.1 hc.2.2 q
theorem unI {f:Value->Sem Value} {g:Int->Int}
    (rule:∀ (i:Int) (t:Tok) (s:Shared) (Q:Value->Shared->Prop) (E:Value->Shared->Prop),Q (.int (g i) s.toks) { s with toks:=s.toks + 1 }->wpAny (model X.prog X.w) X.A (f (.int i t)) Q E s) :
    UnR X f (rU fun i=>.int (g i)):=by
  intro pins s σ H x v Q I rx h
  obtain ⟨i,rfl,q⟩:=h
  obtain ⟨t,rfl⟩:=rx
  exact rule i t s _ _ ⟨.int (g i),H,I.tok _,⟨_,rfl⟩,q⟩
theorem un_neg:UnR X (unaryOp .USub) (rU fun i=>.int (-i)):=unI fun _ _ _ _ _ q=>neg_int q
end
section
variable {X:Cx} {a b c:Expr} {ta tb tc:TE} {pos:Pos}
theorem fin_bl {pins:List (Addr × Obj)} {σ:St} {H:Hp} {s:Shared} {Q:VK} {k k':Bool} (I:Inv X pins σ H s) (q:Q (.bl k) H) (e:k=k'):EP X pins σ Q (.bool k') s:=by
  subst e
  exact ⟨.bl k,H,I,rfl,q⟩
theorem op_lt:OpR X (compareOp .Lt) (rI0 fun i j=>.bl (decide (i < j))):=opB0 fun _ _ _ _ _ _ _ q=>lt_int q
theorem op_gt:OpR X (compareOp .Gt) (rI0 fun i j=>.bl (decide (j < i))):=opB0 fun _ _ _ _ _ _ _ q=>gt_int q
theorem op_ge:OpR X (compareOp .GtE) (rI0 fun i j=>.bl (decide (j≤i))):=opB0 fun _ _ _ _ _ _ _ q=>ge_int q
theorem op_isN:OpR X (compareOp .Is) (fun x y H Q=>y=.non∧Q (.bl (decide (x=.non))) H):=by
  intro pins s σ H x y v u Q I rx ry h
  obtain ⟨rfl,q⟩:=h
  cases ry
  refine is_none_gen (fin_bl I q ?_)
  cases x <;> first
    | (cases rx; rfl)
    | (obtain ⟨t,rfl⟩:=rx; rfl)
theorem OpR.or {f:Value->Value->Sem Value} {r r':R2} (h:OpR X f r) (h':OpR X f r'):OpR X f (fun x y H Q=>r x y H Q∨r' x y H Q):=by
  intro pins s σ H x y v u Q I rx ry q
  rcases q with q | q
  . exact h pins s σ H x y v u Q I rx ry q
  . exact h' pins s σ H x y v u Q I rx ry q
theorem nomark (b:Expr) {op:CmpOp} (h:op≠.In:=by decide) (h2:op≠.NotIn:=by decide):behindInMarks op b=false:=by
  have e1:(op == CmpOp.In)=false:=by cases op <;> first | rfl | exact absurd rfl h
  have e2:(op == CmpOp.NotIn)=false:=by cases op <;> first | rfl | exact absurd rfl h2
  cases b <;> simp [behindInMarks,e1,e2]
theorem pe_cmpR {op:CmpOp} {r:R2} (ho:OpR X (compareOp op) r) (ha:PE X a ta) (hb:PE X b tb) (hm:behindInMarks op b=false):PE X (.Compare a [op] [b] pos) (tOp r ta tb):=by
  intro pins s σ H Q I h
  exact wpAny_Compare1 (binT ha hb I h fun v u s2 x y H2 I2 rx ry q=>ho pins s2 σ H2 x y v u Q I2 rx ry q) hm
def tTest (t:TE):TT:=fun σ H Q=>t σ H fun x H'=>∃ k,x=.bl k∧Q k H'
theorem pt_cmpR {op:CmpOp} {r:R2} (ho:OpR X (compareOp op) r) (ha:PE X a ta) (hb:PE X b tb) (hm:behindInMarks op b=false):PT X (.Compare a [op] [b] pos) (tTest (tOp r ta tb)):=by
  intro pins s σ H Q I h
  refine wpAny_isTrue_Compare1 (thn (ha pins s σ H _ I h) fun v s1 ⟨x,H1,I1,r1,q1⟩=>thn (hb pins s1 σ H1 _ I1 q1) fun u s2 ⟨y,H2,I2,r2,q2⟩ =>
    thn (ho pins s2 σ H2 x y v u _ I2 r1 r2 q2) fun c s3 ⟨z,H3,I3,r3,k,e,q3⟩=>?_) hm
  subst e
  cases r3
  exact wpAny_truthy_bool ⟨H3,I3,q3⟩
theorem line63:(sizeLine:Nat) < 2 ^ 63:=by rw [sizeLine_eq]; decide
theorem op_add_str:OpR X (binaryOp .Add) (fun x y H Q=>∃ i j,x=.str i∧y=.str j∧i.length + j.length≤sizeLine∧Q (.str (i++j)) H):=by
  intro pins s σ H x y v u Q I rx ry h
  obtain ⟨i,j,rfl,rfl,hz,q⟩:=h
  obtain ⟨t,rfl⟩:=rx
  obtain ⟨t',rfl⟩:=ry
  exact add_str (fun t' tk=>⟨.str (i++j),H,I.tok _,⟨_,rfl⟩,q⟩) hz
theorem vals1 {x:V} {us:List Value} (r:Vals [x] us):∃ u,us=[u]∧RelV x u:=by
  cases r with
  | cons r1 r2=>cases r2; exact ⟨_,rfl,r1⟩
theorem vals2 {x y:V} {us:List Value} (r:Vals [x,y] us):∃ u w',us=[u,w']∧RelV x u∧RelV y w':=by
  cases r with
  | cons r1 r2 =>
    cases r2 with
    | cons r3 r4=>cases r4; exact ⟨_,_,rfl,r1,r3⟩
end
end L2
namespace L2
open PySem PySem.Spec PyProof.Rows
structure ObjM (h:Heap) (x dx C:Addr) (mA:Str->Option Value):Prop where
  obj:h.get? x=some (PySem.W.instObj C dx)
  ns:h.Ns1 dx mA
  ne:dx≠x
theorem lookIn_ns {h:Heap} {dx:Addr} {mA:Str->Option Value} (n:h.Ns1 dx mA):∃ od,h.get? dx=some od∧∀ name,PySem.W.lookIn name od=some (mA name):=by
  obtain ⟨o,es,ep,ho,hd,hk,_,hm⟩:=n
  refine ⟨o,ho,fun name=>?_⟩
  have e:=hm name
  unfold nsFind findBy at e
  rw [← Array.find?_toList] at e
  unfold PySem.W.lookIn
  rw [hd]
  dsimp only
  split
  . rename_i y q
    rw [q] at e
    exact congrArg some e
  . rename_i q
    rw [q] at e
    have a:es.toList.any (·.refKey)=false:=by
      rw [List.any_eq_false]
      intro y hy
      obtain ⟨z,t,hkey⟩:=hk y (Array.mem_toList_iff.mp hy)
      simp [DictEntry.refKey,hkey]
    have a' : ¬ es.toList.any (·.refKey)=true:=by rw [a]; exact Bool.false_ne_true
    rw [if_neg a']
    exact congrArg some e
theorem ObjM.look {h:Heap} {x dx C:Addr} {mA:Str->Option Value} (I:ObjM h x dx C mA):∃ od,PySem.W.InstAt h x (PySem.W.instObj C dx) C (some od)∧∀ name,PySem.W.lookIn name od=some (mA name) :=
  let ⟨od,ho,hl⟩:=lookIn_ns I.ns
  ⟨od,⟨I.obj,rfl,rfl,ho⟩,hl⟩
section
variable {prog:Program} {w:World} {A:Around} {E:Value->Shared->Prop} {s:Shared} {K:PySem.W.Frag} {x dx C f:Addr} {mA:Str->Option Value} {name:Str} {v:Value}
theorem get_map {expr:Bool} {Q:Value->Shared->Prop} (X:K.In s.heap) (I:ObjM s.heap x dx C mA) (hg:PySem.W.plainGet K C name=true) (hh:PySem.W.hasDictIn K C=true)
    (ha:PySem.W.findIn K (.ref C) name=some none) (hv:mA name=some v) (hv':PySem.W.handedIn v=true) (h:Q v { s with toks:=s.toks + 1 }) :
    wpAny (model prog w) A (getAttr (.ref x) name expr) Q E s:=by
  obtain ⟨od,J,hl⟩:=I.look
  exact PySem.W.get_value X J (PySem.W.plainGet_of hg).1 (PySem.W.findObj_own hh ha rfl (by rw [hl,hv])) hv' h
theorem get_meth {pl:Sem Bool} {Q:Value × List Value->Shared->Prop} (X:K.In s.heap) (I:ObjM s.heap x dx C mA) (hg:PySem.W.plainGet K C name=true)
    (hf:PySem.W.findIn K (.ref C) name=some (some (.ref f))) (ht:PySem.W.isFn K (.ref f)=true) (hv:mA name=none) (h:Q (.ref f,[.ref x]) s) :
    wpAny (model prog w) A (getMethod (.ref x) name pl) Q E s:=by
  obtain ⟨od,J,hl⟩:=I.look
  exact PySem.W.method_fn X J (PySem.W.plainGet_of hg).1 (PySem.W.plainGet_of hg).2 hf (beq_iff_eq.mp ht) (by show (PySem.W.lookIn name od).map (·.isSome)=some false; rw [hl,hv]; rfl) h
theorem set_map {ns:List Str} {Q:Unit->Shared->Prop} (X:K.In s.heap) (I:ObjM s.heap x dx C mA)
    (hs:PySem.W.findIn K (.ref C) "__setattr__" = some (some (.builtin "object.__setattr__"))) (hp:PySem.W.plainOver K C=true) (ht:PySem.W.takerIn K C name=some none) (hh:PySem.W.hasDictIn K C=true)
    (hw:PySem.Within mA ns) (hsz:ns.length≤sizeLine)
    (h:∀ h',ObjM h' x dx C (fun y=>if y=name then some v else mA y)->Heap.SameBut dx s.heap h'->Q () { s with heap:=h',toks:=s.toks + 2 }) :
    wpAny (model prog w) A (setAttr (.ref x) name v) Q E s:=by
  obtain ⟨od,J,hl⟩:=I.look
  refine PySem.W.set_plain X J hs (PySem.W.osa_open (s:={ s with toks:=s.toks + 1 }) (r:=none) X J hp ht fun b=>?_)
  obtain ⟨cd,hc,hd'⟩:=PySem.W.any_some hh
  have hx:s.heap.get? x=some ⟨.ref C,some dx,.plain,#[]⟩:=I.obj
  refine wpAny_bind (wpAny_pure (wpAny_bind (wpAny_bind (wpAny_loadPart hx (wpAny_bind (PySem.W.Looks.here (s:={ s with toks:=s.toks + 1 }) (PySem.W.looks_clsIn X hc) ?_))))))
  rw [hd']
  refine wpAny_pure (a:=some dx) (wpAny_bind (wpAny_pure (wpAny_bind ?_)))
  refine wpAny_nsSet1 (s:={ s with toks:=s.toks + 1 }) I.ns fun h' hn2 hs2=>?_
  obtain ⟨oD,esD,epD,hoD,hdD,hcD⟩:=hn2.count (PySem.Within.cons name v hw)
  refine wpAny_bind (wpAny_lookBehind hoD (by rw [hdD]; exact pastItsLine_dict (Nat.le_trans hcD (by rw [List.length_cons]; omega))) ?_)
  exact wpAny_pure (h _ ⟨(hs2.2 _ (Ne.symm I.ne)).trans I.obj,hn2,I.ne⟩ hs2)
theorem make_map {R:Result->Shared->Prop} {vs:List Value} {kw:List (Str × Value)} (X:K.In s.heap) (hm:PySem.W.makesIn K C=true)
    (hi:PySem.W.findIn K (.ref C) "__init__" = some (some (.ref f))) (hf:PySem.W.typeIn K (.ref f)=some (.type "function"))
    (h:codeAny (model prog w) (A.under (.builtin "type.__call__" ⟨.ref C::vs,kw⟩)) (.call (.ref f) ⟨.ref (s.heap.objs.size + 1)::vs,kw⟩) (PySem.W.InitBack (s.heap.objs.size + 1) R)
      { s with heap:=(s.heap.push PySem.W.emptyDict).push (PySem.W.instObj C s.heap.objs.size) }) :
    codeAny (model prog w) A (.call (.ref C) ⟨vs,kw⟩) R s:=by
  obtain ⟨hh,g,d,t,os⟩:=s
  exact PySem.W.make_core (PySem.W.makes_of X hm) (PySem.W.looks_findIn X hi) (fun self=>PySem.W.bind_fn X self hf) (.inl rfl) h
end
def putF (f:Str) (v:V):List (Str × V)->List (Str × V)
  | []=>[(f,v)]
  | (g,x)::r=>if g=f then (g,v)::r else (g,x)::putF f v r
theorem lookup_putF (f g:Str) (v:V):∀ fs:List (Str × V),(putF f v fs).lookup g=if g=f then some v else fs.lookup g
  | []=>by
    show List.lookup g [(f,v)]=_
    by_cases h:g=f
    . have hb:(g == f)=true:=beq_iff_eq.mpr h
      simp only [List.lookup,hb,if_pos h]
    . have hb:(g == f)=false:=beq_eq_false_iff_ne.mpr h
      simp only [List.lookup,hb,if_neg h]
  | (k,x)::r=>by
    have ih:=lookup_putF f g v r
    rw [show putF f v ((k,x)::r)=(if k=f then (k,v)::r else (k,x)::putF f v r) from rfl]
    by_cases hk:k=f
    . rw [if_pos hk]
      by_cases h:g=k
      . have hb:(g == k)=true:=beq_iff_eq.mpr h
        simp only [List.lookup,hb,if_pos (h.trans hk)]
      . have hb:(g == k)=false:=beq_eq_false_iff_ne.mpr h
        simp only [List.lookup,hb,if_neg (fun e:g=f=>h (e.trans hk.symm))]
    . rw [if_neg hk]
      by_cases h:g=k
      . have hb:(g == k)=true:=beq_iff_eq.mpr h
        simp only [List.lookup,hb,if_neg (fun e:g=f=>hk (h.symm.trans e))]
      . have hb:(g == k)=false:=beq_eq_false_iff_ne.mpr h
        simp only [List.lookup,hb]
        exact ih
theorem keys_putF (f:Str) (v:V):∀ fs:List (Str × V),f∈(putF f v fs).map (·.1)∧∀ g,g∈fs.map (·.1)->g∈(putF f v fs).map (·.1)
  | []=>⟨by simp [putF],fun g h=>by simp at h⟩
  | (k,x)::r=>by
    obtain ⟨i1,i2⟩:=keys_putF f v r
    rw [show putF f v ((k,x)::r)=(if k=f then (k,v)::r else (k,x)::putF f v r) from rfl]
    by_cases hk:k=f
    . rw [if_pos hk]
      subst hk
      exact ⟨by simp,fun g h=>by simpa using h⟩
    . rw [if_neg hk]
      refine ⟨?_,fun g h=>?_⟩
      . rw [List.map_cons]
        exact List.mem_cons_of_mem _ i1
      . rw [List.map_cons] at h ⊢
        rcases List.mem_cons.mp h with e | e
        . exact List.mem_cons.mpr (.inl e)
        . exact List.mem_cons_of_mem _ (i2 g e)
theorem length_putF (f:Str) (v:V):∀ fs:List (Str × V),(putF f v fs).length≤fs.length + 1
  | []=>by simp [putF]
  | (k,x)::r=>by
    have ih:=length_putF f v r
    rw [show putF f v ((k,x)::r)=(if k=f then (k,v)::r else (k,x)::putF f v r) from rfl]
    by_cases hk:k=f
    . rw [if_pos hk,List.length_cons,List.length_cons]; omega
    . rw [if_neg hk,List.length_cons,List.length_cons]; omega
theorem RelO.some_of {v:V} {o:Option Value} (r:RelO (some v) o):∃ u,o=some u∧RelV v u:=by
  cases o with
  | none=>exact (show False from r).elim
  | some u=>exact ⟨u,rfl,r⟩
theorem RelO.none_of {o:Option Value} (r:RelO none o):o=none:=by
  cases o with
  | none=>rfl
  | some u=>exact (show False from r).elim
theorem handed_of {v:V} {u:Value} (r:RelV v u):PySem.W.handedIn u=true:=by
  cases v with
  | non=>cases (show u=Value.none from r); rfl
  | bl b=>cases (show u=Value.bool b from r); rfl
  | int i=>obtain ⟨t,e⟩:=(show ∃ t,u=Value.int i t from r); cases e; rfl
  | str x=>obtain ⟨t,e⟩:=(show ∃ t,u=Value.str x t from r); cases e; rfl
  | byt b=>obtain ⟨t,e⟩:=(show ∃ t,u=Value.bytes b t from r); cases e; rfl
  | flt b=>obtain ⟨t,e⟩:=(show ∃ t,u=Value.float b t from r); cases e; rfl
  | ref a=>cases (show u=Value.ref a from r); rfl
  | ty n=>cases (show u=Value.type n from r); rfl
section
variable {P:Program} {w:World} {H H':Hp} {h h':Heap} {a C dx:Addr} {fs fs':List (Str × V)}
theorem ins_get (hok:HOk P w H h) (e:H a=some (.ins C dx fs)):∃ mA,ObjM h a dx C mA∧(∀ f,RelO (fs.lookup f) (mA f))∧PySem.Within mA (fs.map (·.1))∧fs.length≤1000∧H dx=some (.own a):=by
  obtain ⟨d,z,ne,ob,mA,n,r,q⟩:=(show ObjOk P w H h a (.ins C dx fs) from hok a _ e)
  exact ⟨mA,⟨ob,n,ne⟩,r,q,z,d⟩
end
structure Cls (K:PySem.W.Frag) (C:Addr):Prop where
  pg:PySem.W.plainGet K C Str.empty=true
  hd:PySem.W.hasDictIn K C=true
  po:PySem.W.plainOver K C=true
  sa:PySem.W.findIn K (.ref C) "__setattr__" = some (some (.builtin "object.__setattr__"))
theorem Cls.get {K:PySem.W.Frag} {C:Addr} (c:Cls K C) (f:Str):PySem.W.plainGet K C f=true:=c.pg
def NoAttr (K:PySem.W.Frag) (C:Addr) (f:Str):Prop:=PySem.W.findIn K (.ref C) f=some none
theorem NoAttr.taker {K:PySem.W.Frag} {C:Addr} {f:Str} (n:NoAttr K C f):PySem.W.takerIn K C f=some none:=by
  unfold PySem.W.takerIn
  rw [show PySem.W.findIn K (.ref C) f=some none from n]
  rfl
structure Con (K:PySem.W.Frag) (C:Addr) (f:Str) (v:V) (u:Value):Prop where
  at_:PySem.W.findIn K (.ref C) f=some (some u)
  rel:RelV v u
  get:PySem.W.specialIn K u "__get__" = some none
  cp:PySem.W.copiedNames.contains f=false
structure Meth (K:PySem.W.Frag) (C:Addr) (m:Str) (f:Addr):Prop where
  at_:PySem.W.findIn K (.ref C) m=some (some (.ref f))
  fn:PySem.W.isFn K (.ref f)=true
  kp:PySem.W.keepIn K (.ref f)=true
section
variable {X:Cx} {pins:List (Addr × Obj)} {σ:St} {H:Hp} {s:Shared} {a C dx:Addr} {fs:List (Str × V)} {f:Str} {v:V} {A:Around} {E:Value->Shared->Prop}
theorem getattr_ok {b:Bool} {Q:Value->Shared->Prop} (I:Inv X pins σ H s) (e:H a=some (.ins C dx fs)) (c:Cls X.K C) (n:NoAttr X.K C f) (l:fs.lookup f=some v)
    (h:∀ u s',Inv X pins σ H s'->RelV v u->Q u s'):wpAny (model X.prog X.w) A (getAttr (.ref a) f b) Q E s:=by
  obtain ⟨mA,O,r,_,_,_⟩:=ins_get I.hok e
  obtain ⟨u,hu,ru⟩:=RelO.some_of (v:=v) (o:=mA f) (by rw [← l]; exact r f)
  exact get_map I.kIn O (c.get f) c.hd n hu (handed_of ru) (h u _ (I.tok _) ru)
theorem getmeth_ok {m:Str} {g:Addr} {pl:Sem Bool} {Q:Value × List Value->Shared->Prop} (I:Inv X pins σ H s) (e:H a=some (.ins C dx fs)) (c:Cls X.K C) (k:Meth X.K C m g) (l:fs.lookup m=none)
    (h:Q (.ref g,[.ref a]) s):wpAny (model X.prog X.w) A (getMethod (.ref a) m pl) Q E s:=by
  obtain ⟨mA,O,r,_,_,_⟩:=ins_get I.hok e
  have hn:mA m=none:=RelO.none_of (by rw [← l]; exact r m)
  exact get_meth I.kIn O (c.get m) k.at_ k.fn hn h
theorem setattr_ok {y:V} {u:Value} {Q:Unit->Shared->Prop} (I:Inv X pins σ H s) (e:H a=some (.ins C dx fs)) (c:Cls X.K C) (n:NoAttr X.K C f) (hl:fs.length < 1000) (ry:RelV y u)
    (h:∀ s',Inv X pins σ (upd H a (.ins C dx (putF f y fs))) s'->Q () s'):wpAny (model X.prog X.w) A (setAttr (.ref a) f u) Q E s:=by
  obtain ⟨mA,O,r,wi,_,ho⟩:=ins_get I.hok e
  have hz:(fs.map (·.1)).length≤sizeLine:=by rw [List.length_map,sizeLine_eq]; omega
  refine set_map I.kIn O c.sa c.po n.taker c.hd wi hz fun h' O' sb=>h _ ?_
  have hd:∃ o,h'.get? dx=some o:=let ⟨o,_,_,e',_⟩:=O'.ns; ⟨o,e'⟩
  refine I.write (x:=a) (e:=dx) (by rw [e]; exact True.intro) (.inr ho) (fun b q hb z=>(sb.2 b hb).trans z) hd ?_
  refine ⟨by rw [upd_ne O.ne]; exact ho,?_,O.ne,O'.obj,_,O'.ns,fun g=>?_,fun g hg=>?_⟩
  . have:=length_putF f y fs; omega
  . show RelO ((putF f y fs).lookup g) (if g=f then some u else mA g)
    rw [lookup_putF]
    by_cases q:g=f
    . rw [if_pos q,if_pos q]; exact ry
    . rw [if_neg q,if_neg q]; exact r g
  . by_cases q:g=f
    . rw [q]; exact (keys_putF f y fs).1
    . refine (keys_putF f y fs).2 g (wi g fun z=>hg ?_)
      show (if g=f then some u else mA g)=none
      rw [if_neg q]; exact z
theorem Inv.made (I:Inv X pins σ H s):Inv X pins σ (upd (upd H s.heap.objs.size (.own (s.heap.objs.size + 1))) (s.heap.objs.size + 1) (.ins C s.heap.objs.size []))
    { s with heap:=(s.heap.push PySem.W.emptyDict).push (PySem.W.instObj C s.heap.objs.size) }:=by
  have e1:(s.heap.push PySem.W.emptyDict).get? s.heap.objs.size=some PySem.W.emptyDict:=Heap.get?_push_size s.heap rfl
  have e2:((s.heap.push PySem.W.emptyDict).push (PySem.W.instObj C s.heap.objs.size)).get? (s.heap.objs.size + 1)=some (PySem.W.instObj C s.heap.objs.size):=by
    have:=Heap.get?_push_size (s.heap.push PySem.W.emptyDict) (o:=PySem.W.instObj C s.heap.objs.size) rfl
    rwa [Heap.size_push] at this
  have e3:(s.heap.push PySem.W.emptyDict).Ns s.heap.objs.size (fun _=>none):=⟨PySem.W.emptyDict,#[],_,e1,rfl,(fun e he=>absurd he (by simp)),fun _=>rfl⟩
  have I1:=I.laid (a:=s.heap.objs.size) (o:=.own (s.heap.objs.size + 1)) (h':=s.heap.push PySem.W.emptyDict) (t':=s.toks) (fun b u q=>Heap.get?_push_of_some _ q) (Nat.le_refl _) ⟨_,e1⟩
  refine I1.laid (a:=s.heap.objs.size + 1) (o:=.ins C s.heap.objs.size []) (t':=s.toks) (fun b u q=>Heap.get?_push_of_some _ q) (Nat.le_of_eq (Heap.size_push _ _)) ?_
  have ne:s.heap.objs.size≠s.heap.objs.size + 1:=Nat.ne_of_lt (Nat.lt_succ_self _)
  refine ⟨by rw [upd_ne ne,upd_same],Nat.zero_le _,ne,e2,fun _=>none,(Heap.Ns1.of_empty e3).at fun o q=>Heap.get?_push_of_some _ q,fun _=>True.intro,fun y hy=>absurd rfl hy⟩
theorem attr_of {prog:Program} {w:World} {env:Env} {e:Expr} {f:Str} {pos:Pos} {s:Shared} {Q:Value->Shared->Prop} (hb:attributeBase e f env (eval e env)=eval e env)
    (h:wpAny (model prog w) A (eval e env) (fun o s₁=>wpAny (model prog w) A (getAttr o f true) Q E s₁) E s):wpAny (model prog w) A (eval (.Attribute e f pos) env) Q E s :=
  Attribute_any_ h (by rw [arm_eval_Attribute,hb])
end
def tFld (K:PySem.W.Frag) (ta:TE) (f:Str):TE:=fun σ H Q=>ta σ H fun x H1=>∃ a C dx fs v,x=.ref a∧H1 a=some (.ins C dx fs)∧Cls K C∧NoAttr K C f∧fs.lookup f=some v∧Q v H1
def sFld (K:PySem.W.Frag) (ta tv:TE) (f:Str):TS:=fun D σ H=>tv σ H fun y H1=>ta σ H1 fun x H2=>∃ a C dx fs,x=.ref a∧H2 a=some (.ins C dx fs)∧Cls K C∧NoAttr K C f∧fs.length < 1000 ∧
  D.nx σ (upd H2 a (.ins C dx (putF f y fs)))
section
variable {X:Cx} {o e value:Expr} {f:Str} {pos pos' tpos:Pos} {ta tv:TE}
theorem pe_fld (he:PE X e ta) (hb:attributeBase e f X.env (eval e X.env)=eval e X.env):PE X (.Attribute e f pos) (tFld X.K ta f):=by
  intro pins s σ H Q I h
  refine attr_of hb (thn (he pins s σ H _ I h) fun u s1 ⟨x,H1,I1,rx,a,C,dx,fs,v,ex,ea,c,n,l,q⟩=>?_)
  subst ex
  obtain rfl:u=Value.ref a:=rx
  exact getattr_ok I1 ea c n l fun u' s2 I2 ru=>⟨v,H1,I2,ru,q⟩
theorem ps_fld (ha:PE X o ta) (hv:PE X value tv) (hs:swapsWith value (some (.Attribute o f pos')) pos.line X.env=pure false):PS X (.Assign [.Attribute o f pos'] value pos) (sFld X.K ta tv f):=by
  intro pins s σ H D I h
  refine plainObj_wpAny_Assign_Attribute (thn (hv pins s σ H _ I h) fun u s1 ⟨y,H1,I1,ry,q⟩=>thn (ha pins s1 σ H1 _ I1 q) fun ov s2 ⟨x,H2,I2,rx,a,C,dx,fs,ex,ea,c,n,l,q2⟩=>?_) hs
  subst ex
  obtain rfl:ov=Value.ref a:=rx
  exact setattr_ok I2 ea c n l ry fun s3 I3=>⟨σ,_,I3,q2⟩
end
section
variable {X:Cx} {pins:List (Addr × Obj)} {σ:St} {H:Hp} {s:Shared} {A:Around} {E:Value->Shared->Prop} {Q:Value->Shared->Prop} {c:Value} {b:Bool}
inductive TyOf (K:PySem.W.Frag) (H:Hp):V->Value->Prop where
  | non:TyOf K H .non (.type "NoneType")
  | bl (x:Bool):TyOf K H (.bl x) (.type "bool")
  | int (i:Int):TyOf K H (.int i) (.type "int")
  | str (x:Str):TyOf K H (.str x) (.type "str")
  | flt (x:UInt64):TyOf K H (.flt x) (.type "float")
  | lst {a:Addr} {xs:List V} (e:H a=some (.lst xs)):TyOf K H (.ref a) (.type "list")
  | frz {a:Addr} {o:Obj} {xs:List V} (e:H a=some (.frz o (.lst xs))):TyOf K H (.ref a) (.type "list")
  | tup {a:Addr} {xs:List V} (e:H a=some (.tup xs)):TyOf K H (.ref a) (.type "tuple")
  | dK {a:Addr} {kvs:List (Key × V)} (e:H a=some (.dK kvs)):TyOf K H (.ref a) (.type "dict")
  | dT {a:Addr} {kvs:List (List Key × V)} (e:H a=some (.dT kvs)):TyOf K H (.ref a) (.type "dict")
  | ins {a C dx:Addr} {fs:List (Str × V)} (e:H a=some (.ins C dx fs)) (cl:Cls K C) (ha:PySem.W.findIn K (.ref C) "__class__" = some (some (.builtin "object.__class__")))
      (hn:PySem.W.specialIn K (.builtin "object.__class__") "__get__" = some (some (.builtin "getset_descriptor.__get__"))) (htk:PySem.W.takesIn K (.builtin "object.__class__")=some true)
      (hm:PySem.W.mroIn K C (.type "object")=some true):TyOf K H (.ref a) (.ref C)
theorem isinst_ok {x:V} {u t:Value} (I:Inv X pins σ H s) (rx:RelV x u) (ty:TyOf X.K H x t) (e:PySem.W.kitOne X.K t c=some b) (h:∀ tk,Q (.bool b) { s with toks:=tk }) :
    wpAny (model X.prog X.w) A (call (.builtin "isinstance") [u,c]) Q E s:=by
  cases ty with
  | non=>cases (show u=Value.none from rx); exact PySem.W.kia_one PySem.W.kitx_none I.kIn True.intro e (fun z=>nomatch z) h
  | bl y=>cases (show u=Value.bool y from rx); exact PySem.W.kia_one PySem.W.kitx_bool I.kIn True.intro e (fun z=>nomatch z) h
  | int i=>obtain ⟨t,q⟩:=(show ∃ t,u=Value.int i t from rx); cases q; exact PySem.W.kia_one PySem.W.kitx_int I.kIn True.intro e (fun z=>nomatch z) h
  | str y=>obtain ⟨t,q⟩:=(show ∃ t,u=Value.str y t from rx); cases q; exact PySem.W.kia_one PySem.W.kitx_str I.kIn True.intro e (fun z=>nomatch z) h
  | flt y=>obtain ⟨t,q⟩:=(show ∃ t,u=Value.float y t from rx); cases q; exact PySem.W.kia_one PySem.W.kitx_float I.kIn True.intro e (fun z=>nomatch z) h
  | @lst a xs ea =>
    cases (show u=Value.ref a from rx)
    obtain ⟨_,_,n,_,h1⟩:=(show ObjOk X.prog X.w H s.heap a (.lst xs) from I.hok a _ ea)
    exact PySem.W.kia_one PySem.W.kitx_list I.kIn ⟨_,h1,rfl⟩ e (fun z=>nomatch z) h
  | @frz a ob xs ea =>
    cases (show u=Value.ref a from rx)
    obtain ⟨_,_,_,n,_,h1⟩:=(show ObjOk X.prog X.w H s.heap a (.frz ob (.lst xs)) from I.hok a _ ea)
    exact PySem.W.kia_one PySem.W.kitx_list I.kIn ⟨_,h1,rfl⟩ e (fun z=>nomatch z) h
  | @tup a xs ea =>
    cases (show u=Value.ref a from rx)
    obtain ⟨_,_,_,p⟩:=(show ObjOk X.prog X.w H s.heap a (.tup xs) from I.hok a _ ea)
    obtain ⟨o,h1,h2,_⟩:=p
    exact PySem.W.kia_one PySem.W.kitx_tuple I.kIn ⟨o,h1,h2⟩ e (fun z=>nomatch z) h
  | @dK a kvs ea =>
    cases (show u=Value.ref a from rx)
    obtain ⟨_,_,vs,_,p⟩:=(show ObjOk X.prog X.w H s.heap a (.dK kvs) from I.hok a _ ea)
    obtain ⟨o,es,ep,h1,h2,_⟩:=p
    exact PySem.W.kia_one PySem.W.kitx_dict I.kIn ⟨o,h1,h2.1⟩ e (fun z=>nomatch z) h
  | @dT a kvs ea =>
    cases (show u=Value.ref a from rx)
    obtain ⟨_,_,xs,_,o,es,ep,h1,h2,_⟩:=(show ObjOk X.prog X.w H s.heap a (.dT kvs) from I.hok a _ ea)
    exact PySem.W.kia_one PySem.W.kitx_dict I.kIn ⟨o,h1,h2.1⟩ e (fun z=>nomatch z) h
  | @ins a C dx fs ea cl ha hn htk hm =>
    cases (show u=Value.ref a from rx)
    obtain ⟨mA,O,_⟩:=ins_get I.hok ea
    obtain ⟨od,J,_⟩:=O.look
    exact PySem.W.kia_one (PySem.W.kitx_own (cl.get _) cl.hd ha hn htk hm) I.kIn J e (fun z=>nomatch z) h
end
end L2
namespace L2
open PySem PySem.Spec PyProof.Rows
structure Room (k:Nat) (A:Around):Prop where
  hd:A.handled=none
  dp:A.depth + 3 * k + 5 < recursionLimit
  un:A.units + 16 * k + 200 < cLine
theorem Room.mono {j k:Nat} {A:Around} (r:Room k A) (h:j≤k):Room j A:=⟨r.hd,by have:=r.dp; omega,by have:=r.un; omega⟩
theorem Room.deeper {k:Nat} {A:Around} (r:Room (k + 1) A) (env:Env):Room k (A.deeper env) :=
  ⟨r.hd,by have:=r.dp; show A.depth + 1 + 3 * k + 5 < _; omega,by have:=r.un; show A.units + 3 + 16 * k + 200 < _; omega⟩
theorem Room.in1 {k:Nat} {A:Around} (r:Room (k + 1) A):Room k A.in1 :=
  ⟨r.hd,by have:=r.dp; show A.depth + 3 * k + 5 < _; omega,by have:=r.un; show A.units + 1 + 16 * k + 200 < _; omega⟩
theorem make_depth {A:Around} {C:Addr} {us:List Value} {kw:List (Str × Value)}:(A.under (.builtin "type.__call__" ⟨.ref C::us,kw⟩)).depth=A.depth + 1:=by
  first | rfl | simp [Around.under,Code.weight,Code.isCreation,Code.isGuard,Code.isCaller,Code.frames,Code.isFrame,guardIds]
theorem make_units {A:Around} {C:Addr} {us:List Value} {kw:List (Str × Value)}:(A.under (.builtin "type.__call__" ⟨.ref C::us,kw⟩)).units=A.units + 1:=by
  first | rfl | simp [Around.under,Code.cUnits,Code.frames,Code.isFrame]
theorem Room.make {k:Nat} {A:Around} (r:Room (k + 1) A) (C:Addr) (us:List Value) (kw:List (Str × Value)):Room k (A.under (.builtin "type.__call__" ⟨.ref C::us,kw⟩)) :=
  ⟨r.hd,by have:=r.dp; rw [make_depth]; omega,by have:=r.un; rw [make_units]; omega⟩
theorem Room.depth {k:Nat} {A:Around} (r:Room k A):A.depth < recursionLimit:=by have:=r.dp; omega
theorem Room.units {k:Nat} {A:Around} (r:Room k A):A.units + 64 < cLine:=by have:=r.un; omega
def tNil:TA:=fun _ H Q=>Q [] H
def tCons (ta:TE) (tr:TA):TA:=fun σ H Q=>ta σ H fun x H1=>tr σ H1 fun xs H2=>Q (x::xs) H2
section
variable {X:Cx} {e:Expr} {es:List Expr} {te:TE} {t:TA} {pos:Pos}
theorem pa_nil:PA X [] tNil:=fun _ _ _ _ H Q I h=>Calls.spliced_nil ⟨[],H,I,.nil,h⟩
theorem pa_cons (ha:PE X e te) (hr:PA X es t) (hs:starEach (e::es) X.env=(false,eval e X.env)::starEach es X.env:=by rfl):PA X (e::es) (tCons te t):=by
  intro pos pins s σ H Q I h
  rw [hs]
  show wpAny _ _ (spliced ((false,eval e X.env)::backTo pos (starEach es X.env))) _ _ s
  refine Calls.spliced_cons (thn (ha pins s σ H _ I h) fun u s1 ⟨x,H1,I1,r1,q1⟩=>?_)
  exact thn (hr pos pins s1 σ H1 _ I1 q1) fun us s2 ⟨xs,H2,I2,r2,q2⟩=>⟨x::xs,H2,I2,.cons r1 r2,q2⟩
def tTup (t:TA):TE:=fun σ H Q=>t σ H fun xs H1=>xs.length≤sizeLine∧∀ p,H1 p=none->Q (.ref p) (upd H1 p (.tup xs))
def tLst (t:TA):TE:=fun σ H Q=>t σ H fun xs H1=>xs.length≤sizeLine∧∀ p,H1 p=none->Q (.ref p) (upd H1 p (.lst xs))
theorem pe_tup {x1} (h:PA X es t):PE X (.Tuple es x1 pos) (tTup t):=by
  intro pins s σ H Q I hq
  refine wpAny_Tuple_spliced (thn (h pos pins s σ H _ I hq) fun us s1 ⟨xs,H1,I1,r,z,q⟩=>⟨by rw [← r.length]; exact z,?_⟩)
  have hf:H1 s1.heap.objs.size=none:=I1.hok.fresh (Nat.le_refl _)
  refine ⟨.ref s1.heap.objs.size,upd H1 s1.heap.objs.size (.tup xs),I1.laid (t':=s1.toks) (fun b u e=>Heap.get?_push_of_some _ e) (Nat.le_refl _) ?_,rfl,q _ hf⟩
  exact ⟨z,us,r,⟨_,Heap.get?_push_size _ rfl,rfl,_,rfl⟩⟩
theorem pe_lst (h:PA X es t):PE X (.List es pos) (tLst t):=by
  intro pins s σ H Q I hq
  refine wpAny_List_spliced (thn (h pos pins s σ H _ I hq) fun us s1 ⟨xs,H1,I1,r,z,q⟩=>⟨by rw [← r.length]; exact z,?_⟩)
  have hf:H1 s1.heap.objs.size=none:=I1.hok.fresh (Nat.le_refl _)
  refine ⟨.ref s1.heap.objs.size,upd H1 s1.heap.objs.size (.lst xs),I1.laid (t':=s1.toks) (fun b u e=>Heap.get?_push_of_some _ e) (Nat.le_refl _) ?_,rfl,q _ hf⟩
  exact ⟨z,us,0,r,Heap.get?_push_size _ rfl⟩
end
abbrev Sp:=List V->Hp->VK->XK->Prop
abbrev CXT:=List Env->Hp->Shared->XK->Value->Shared->Prop
structure Env0 (P:Program) (w:World) (K:PySem.W.Frag) (mg:Str->Option Value) (base:Heap) (A:Around) (outer:List Env) (s:Shared) (H:Hp):Prop where
  frames:A.frames=some outer
  mod:Mod K mg base
  bs:∀ b o,base.get? b=some o->s.heap.get? b=some o∧H b=none
  bsz:base.objs.size≤s.heap.objs.size
  funs:s.heap.FunFrames base outer
  frf:∀ b∈frs outer,H b=none
  hok:HOk P w H s.heap
  bare:AllBare s.gens
def CE (outer:List Env) (P:Program) (w:World) (H:Hp) (s:Shared) (Q:VK) (u:Value) (s':Shared):Prop :=
  ∃ v H',s'.os=s.os∧AllBare s'.gens∧Un (frs outer) [] H H' s.heap s'.heap∧HOk P w H' s'.heap∧RelV v u∧Q v H'
def CR (CX:CXT) (outer:List Env) (P:Program) (w:World) (H:Hp) (s:Shared) (Q:VK) (E:XK) (r:Result) (s':Shared):Prop :=
  match r with
  | .ok (.ret u)=>CE outer P w H s Q u s'
  | .ok _=>False
  | .error e=>CX outer H s E e s'
structure FnOk (P:Program) (w:World) (K:PySem.W.Frag) (mg:Str->Option Value) (base:Heap) (CX:CXT) (k:Nat) (f:Addr) (fd:FuncData) (ps:List Str) (sp:Sp):Prop where
  len:∀ vs H Q E,sp vs H Q E->vs.length=ps.length
  run:∀ (A:Around) (outer:List Env) (s:Shared) (H:Hp) (args:Args) (us:List Value) (vs:List V) (Q:VK) (E:XK),Room k A->Env0 P w K mg base A outer s H->BindsTo s fd args (ps.zip us)->Vals vs us->sp vs H Q E ->
    codeAny (model P w) A (.call (.ref f) args) (CR CX outer P w H s Q E) s
theorem FnOk.mono {P:Program} {w:World} {K:PySem.W.Frag} {mg:Str->Option Value} {base:Heap} {CX:CXT} {j k:Nat} {f:Addr} {fd:FuncData} {ps:List Str} {sp:Sp} (F:FnOk P w K mg base CX j f fd ps sp) (h:j≤k) :
    FnOk P w K mg base CX k f fd ps sp:=⟨F.len,fun A outer s H args us vs Q E hr=>F.run A outer s H args us vs Q E (hr.mono h)⟩
theorem FnOk.imp {P:Program} {w:World} {K:PySem.W.Frag} {mg:Str->Option Value} {base:Heap} {CX:CXT} {k:Nat} {f:Addr} {fd:FuncData} {ps:List Str} {sp sp':Sp} (F:FnOk P w K mg base CX k f fd ps sp)
    (h:∀ vs H Q E,sp' vs H Q E->sp vs H Q E):FnOk P w K mg base CX k f fd ps sp' :=
  ⟨fun vs H Q E q=>F.len vs H Q E (h _ _ _ _ q),fun A outer s H args us vs Q E hr he hb hv hs=>F.run A outer s H args us vs Q E hr he hb hv (h _ _ _ _ hs)⟩
theorem Env0.make {P:Program} {w:World} {K:PySem.W.Frag} {mg:Str->Option Value} {base:Heap} {A:Around} {outer:List Env} {s:Shared} {H:Hp} (e:Env0 P w K mg base A outer s H) (C:Addr) (us:List Value) (kw:List (Str × Value)) :
    Env0 P w K mg base (A.under (.builtin "type.__call__" ⟨.ref C::us,kw⟩)) outer s H:=⟨by first | exact e.frames | (simpa [Around.under,Code.envs,Code.isFrame,pushEnvs] using e.frames),e.mod,e.bs,e.bsz,e.funs,e.frf,e.hok,e.bare⟩
theorem Env0.in1 {P:Program} {w:World} {K:PySem.W.Frag} {mg:Str->Option Value} {base:Heap} {A:Around} {outer:List Env} {s:Shared} {H:Hp} (e:Env0 P w K mg base A outer s H) :
    Env0 P w K mg base A.in1 outer s H:=⟨e.frames,e.mod,e.bs,e.bsz,e.funs,e.frf,e.hok,e.bare⟩
section
variable {X:Cx} {pins:List (Addr × Obj)} {σ:St} {H:Hp} {s s':Shared}
theorem Inv.env0 (I:Inv X pins σ H s):Env0 X.prog X.w X.K X.mg X.base X.A X.stack s H :=
  ⟨I.ok.frames,I.ok.mod,I.bs,Nat.le_trans I.ok.bsz I.sz,I.stack,I.stkFree,I.hok,I.bare⟩
theorem Inv.after {Q:VK} {u:Value} (I:Inv X pins σ H s) (h:CE X.stack X.prog X.w H s Q u s'):EP X pins σ Q u s':=by
  obtain ⟨v,H',os,bare,un,hok,r,q⟩:=h
  obtain ⟨hh,g,d,t,os'⟩:=s'
  obtain rfl:os'=s.os:=os
  exact ⟨v,H',I.call (h':=hh) (g':=g) (d':=d) (t':=t) (ch:=[]) un hok bare (fun b z=>absurd z (by simp)),r,q⟩
end
def tCall (sp:Sp) (dvs:List V) (E:XK) (t:TA):TE:=fun σ H Q=>t σ H fun vs H1=>sp (vs++dvs) H1 Q E
def tMeth (C:Addr) (m:Str) (sp:Sp) (dvs:List V) (E:XK) (ta:TE) (t:TA):TE:=fun σ H Q=>ta σ H fun x H1=>∃ a dx fs,x=.ref a∧H1 a=some (.ins C dx fs)∧fs.lookup m=none ∧
  t σ H1 fun vs H2=>sp (x::(vs++dvs)) H2 Q E
def tMake (C:Addr) (sp:Sp) (dvs:List V) (E:XK) (t:TA):TE:=fun σ H Q=>t σ H fun vs H1=>∀ x dx,H1 x=none->H1 dx=none->dx≠x ->
  sp (.ref x::(vs++dvs)) (upd (upd H1 dx (.own x)) x (.ins C dx [])) (fun v H2=>v=.non∧Q (.ref x) H2) E
def Binds (K:PySem.W.Frag) (fd:FuncData) (ps:List Str) (ds:List Value):Prop :=
  ∀ (s:Shared) (us:List Value),K.In s.heap->(us++ds).length=ps.length->BindsTo s fd ⟨us,[]⟩ (ps.zip (us++ds))
theorem Binds.all {K:PySem.W.Frag} {fd:FuncData} {ps:List Str} (h:∀ us:List Value,us.length=ps.length->bindArgs fd ⟨us,[]⟩=pure (ps.zip us)):Binds K fd ps []:=fun s us _ hl=>by
  rw [List.append_nil] at hl ⊢
  exact .of_eq (h us hl)
def Passes (CX:CXT) (X:Cx) (E:XK):Prop:=∀ (pins:List (Addr × Obj)) (σ:St) (H:Hp) (s:Shared) (e:Value) (s':Shared),Inv X pins σ H s->CX X.stack H s E e s'->X.xe e s'
section
variable {X:Cx} {CX:CXT} {k:Nat} {f C:Addr} {fd:FuncData} {ps:List Str} {sp:Sp} {dvs:List V} {ds:List Value} {E:XK} {x m:Str} {p pos apos:Pos} {e o:Expr} {es:List Expr} {ta:TE} {t:TA}
theorem run_fn {pins:List (Addr × Obj)} {σ:St} {H:Hp} {s:Shared} {Q:VK} {us:List Value} {vs:List V} (F:FnOk X.prog X.w X.K X.mg X.base CX k f fd ps sp) (hr:Room k X.A) (hb:Binds X.K fd ps ds) (hd:Vals dvs ds) (hx:Passes CX X E)
    (I:Inv X pins σ H s) (r:Vals vs us) (h:sp (vs++dvs) H Q E):wpAny (model X.prog X.w) X.A (call (.ref f) us) (EP X pins σ Q) X.xe s:=by
  have r2:Vals (vs++dvs) (us++ds):=r.append hd
  have hl:(us++ds).length=ps.length:=by rw [← r2.length]; exact F.len _ _ _ _ h
  refine wpAny_call (codeAny_mono (F.run X.A X.stack s H ⟨us,[]⟩ (us++ds) (vs++dvs) Q E hr I.env0 (hb s us I.kIn hl) r2 h) fun r s' hq=>?_)
  cases r with
  | error e=>exact hx pins σ H s e s' I hq
  | ok fl =>
    cases fl with
    | ret u=>exact I.after hq
    | next=>exact False.elim hq
    | brk=>exact False.elim hq
    | cont=>exact False.elim hq
theorem pe_call (F:FnOk X.prog X.w X.K X.mg X.base CX k f fd ps sp) (hr:Room k X.A) (hg:Gl X x) (hm:X.mg x=some (.ref f)) (hk:PySem.W.keepIn X.K (.ref f)=true) (hb:Binds X.K fd ps ds) (hd:Vals dvs ds) (hx:Passes CX X E)
    (ha:PA X (e::es) t) (hdb:(x == ("__debug__":Str))=false:=by decide) (he:starEach (e::es) X.env=(false,eval e X.env)::starEach es X.env:=by rfl) (hpl:(backTo pos (starEach es X.env)).any (·.1)=false:=by rfl) :
    PE X (.Call (.Name x p) (e::es) [] pos) (tCall sp dvs E t):=by
  intro pins s σ H Q I h
  refine wpAny_Call_Name_kw (ld_glob I hg hm ?_ hdb)
  refine PySem.W.callWith_K (h₀:=X.base) I.ok.mod.kin hk (thn (ha pos pins s σ H _ I h) fun us s1 ⟨vs,H1,I1,r,q⟩=>⟨I1.kIn,?_⟩) he hpl
  exact run_fn F hr hb hd hx I1 r q
theorem pe_meth {pl:Sem Bool} (he:PE X o ta) (c:Cls X.K C) (hm:Meth X.K C m f) (F:FnOk X.prog X.w X.K X.mg X.base CX k f fd ps sp) (hr:Room k X.A) (hb:Binds X.K fd ps ds) (hd:Vals dvs ds) (hx:Passes CX X E) (ha:PA X (e::es) t)
    (hst:starEach (e::es) X.env=(false,eval e X.env)::starEach es X.env:=by rfl) (hpl:(backTo pos (starEach es X.env)).any (·.1)=false:=by rfl)
    (ht:eval (.Call (.Attribute o m apos) (e::es) [] pos) X.env=(do
      let ov ← eval o X.env
      standAt apos.atName
      let (f,first) ← holding [ov] (getMethod ov m pl)
      callWith pos f first (backTo pos (starEach (e::es) X.env)) (backToKw pos (keywordEach [] X.env))):=by rfl) :
    PE X (.Call (.Attribute o m apos) (e::es) [] pos) (tMeth C m sp dvs E ta t):=by
  intro pins s σ H Q I h
  refine PySem.W.methodCall_KW (pl:=pl) (thn (he pins s σ H _ I h) fun u s1 ⟨x,H1,I1,rx,a,dx,fs,ex,ea,l,q⟩=>?_) ht
  subst ex
  obtain rfl:u=Value.ref a:=rx
  refine getmeth_ok I1 ea c hm l ?_
  refine PySem.W.callWith_K (first:=[.ref a]) (h₀:=X.base) I.ok.mod.kin hm.kp (thn (ha pos pins s1 σ H1 _ I1 q) fun us s2 ⟨vs,H2,I2,r,q2⟩=>⟨I2.kIn,?_⟩) hst hpl
  exact run_fn (us:=.ref a::us) (vs:=.ref a::vs) F hr hb hd hx I2 (.cons rfl r) q2
theorem pe_meth0 {pl:Sem Bool} (he:PE X o ta) (c:Cls X.K C) (hm:Meth X.K C m f) (F:FnOk X.prog X.w X.K X.mg X.base CX k f fd ps sp) (hr:Room k X.A) (hb:Binds X.K fd ps ds) (hd:Vals dvs ds) (hx:Passes CX X E)
    (ht:eval (.Call (.Attribute o m apos) [] [] pos) X.env=(do
      let ov ← eval o X.env
      standAt apos.atName
      let (f,first) ← holding [ov] (getMethod ov m pl)
      callWith pos f first (backTo pos (starEach [] X.env)) (backToKw pos (keywordEach [] X.env))):=by rfl) :
    PE X (.Call (.Attribute o m apos) [] [] pos) (tMeth C m sp dvs E ta tNil):=by
  intro pins s σ H Q I h
  refine PySem.W.methodCall_KW (pl:=pl) (thn (he pins s σ H _ I h) fun u s1 ⟨x,H1,I1,rx,a,dx,fs,ex,ea,l,q⟩=>?_) ht
  subst ex
  obtain rfl:u=Value.ref a:=rx
  refine getmeth_ok I1 ea c hm l ?_
  exact PySem.W.callWith_K0 (first:=[.ref a]) I1.kIn hm.kp (run_fn (us:=[.ref a]) (vs:=[.ref a]) F hr hb hd hx I1 (.cons rfl .nil) q)
structure Mk (K:PySem.W.Frag) (C f:Addr):Prop where
  makes:PySem.W.makesIn K C=true
  init:PySem.W.findIn K (.ref C) "__init__" = some (some (.ref f))
  fn:PySem.W.isFn K (.ref f)=true
  kp:PySem.W.keepIn K (.ref C)=true
theorem run_make {pins:List (Addr × Obj)} {σ:St} {H:Hp} {s:Shared} {Q:VK} {us:List Value} {vs:List V} (M:Mk X.K C f) (F:FnOk X.prog X.w X.K X.mg X.base CX k f fd ps sp) (hr:Room (k + 1) X.A) (hb:Binds X.K fd ps ds) (hd:Vals dvs ds)
    (hx:Passes CX X E) (I:Inv X pins σ H s) (r:Vals vs us)
    (h:∀ x dx,H x=none->H dx=none->dx≠x->sp (.ref x::(vs++dvs)) (upd (upd H dx (.own x)) x (.ins C dx [])) (fun v H2=>v=.non∧Q (.ref x) H2) E) :
    wpAny (model X.prog X.w) X.A (call (.ref C) us) (EP X pins σ Q) X.xe s:=by
  have hq:=h (s.heap.objs.size + 1) s.heap.objs.size (I.hok.fresh (Nat.le_succ _)) (I.hok.fresh (Nat.le_refl _)) (Nat.ne_of_lt (Nat.lt_succ_self _))
  have I2:=Inv.made (C:=C) I
  have r2:Vals (V.ref (s.heap.objs.size + 1)::(vs++dvs)) (Value.ref (s.heap.objs.size + 1)::(us++ds)):=.cons rfl (r.append hd)
  have hl:(Value.ref (s.heap.objs.size + 1)::us++ds).length=ps.length:=by
    have e:=r2.length
    rw [F.len _ _ _ _ hq] at e
    exact e.symm
  refine wpAny_call (make_map (f:=f) I.kIn M.makes M.init (beq_iff_eq.mp M.fn) (codeAny_mono (F.run _ X.stack _ _ ⟨Value.ref (s.heap.objs.size + 1)::us,[]⟩ (Value.ref (s.heap.objs.size + 1)::(us++ds)) _ _ E (hr.make C us [])
    (I2.env0.make C us []) (hb _ (Value.ref (s.heap.objs.size + 1)::us) I2.kIn hl) r2 hq) fun r s' hq'=>?_))
  cases r with
  | error e=>exact hx pins σ _ _ e s' I2 hq'
  | ok fl =>
    cases fl with
    | ret u =>
      obtain ⟨v,H',I3,rv,ev,q3⟩:=I2.after hq'
      subst ev
      exact ⟨rv,⟨V.ref (s.heap.objs.size + 1),H',I3,rfl,q3⟩⟩
    | next=>exact False.elim hq'
    | brk=>exact False.elim hq'
    | cont=>exact False.elim hq'
theorem pe_make0 (M:Mk X.K C f) (F:FnOk X.prog X.w X.K X.mg X.base CX k f fd ps sp) (hr:Room (k + 1) X.A) (hg:Gl X x) (hm:X.mg x=some (.ref C)) (hb:Binds X.K fd ps ds) (hd:Vals dvs ds) (hx:Passes CX X E)
    (hdb:(x == ("__debug__":Str))=false:=by decide):PE X (.Call (.Name x p) [] [] pos) (tMake C sp dvs E tNil):=by
  intro pins s σ H Q I h
  refine wpAny_Call_Name_kw (ld_glob I hg hm ?_ hdb)
  exact PySem.W.callWith_K0 I.kIn M.kp (run_make (us:=[]) M F hr hb hd hx I .nil h)
end
section
variable {X:Cx} {CX:CXT} {k:Nat} {f C:Addr} {fd:FuncData} {ps ks:List Str} {sp:Sp} {E:XK} {x m:Str} {p pos apos kpos:Pos} {e o:Expr} {es:List Expr} {kws:List Keyword} {te ta:TE} {t tk:TA} {nm:Option Str}
structure KBinds (K:PySem.W.Frag) (fd:FuncData) (ps ks:List Str) (g:List Value->List Value->List Value) (gV:List V->List V->List V):Prop where
  to:∀ (s:Shared) (us ws:List Value),K.In s.heap->(g us ws).length=ps.length->BindsTo s fd ⟨us,ks.zip ws⟩ (ps.zip (g us ws))
  rel:∀ {vs:List V} {us:List Value} {zs:List V} {ws:List Value},Vals vs us->Vals zs ws->Vals (gV vs zs) (g us ws)
variable {g:List Value->List Value->List Value} {gV:List V->List V->List V}
end
structure FnScope (N P:List Str) (sc:Scope):Prop where
  kind:sc.kind=.function
  co:sc.isCoroutine=false
  gen:sc.isGenerator=false
  nd:N.Nodup
  pre:N.take P.length=P
  par:∀ x∈P,sc.names.lookup x=some .local∨sc.names.lookup x=some .cell
  nofree:∀ y∈sc.names,y.2≠.free
theorem bindL_out {kindOf:Str->Option NameKind} {x:Str}:∀ {binds:List (Str × Value)} {m:Str->Option Value},(∀ v,(x,v) ∉ binds)->bindL kindOf binds m x=m x
  | [],_,_=>rfl
  | (n,v)::r,m,h=>by
    unfold bindL
    rw [bindL_out fun w hw=>h w (List.mem_cons_of_mem _ hw)]
    split
    . have:x≠n:=by rintro rfl; exact h v List.mem_cons_self
      simp [this]
    . rfl
theorem bindC_out {kindOf:Str->Option NameKind} {x:Str}:∀ {binds:List (Str × Value)} {m:Str->Option Value},(∀ v,(x,v) ∉ binds)->bindC kindOf binds m x=m x
  | [],_,_=>rfl
  | (n,v)::r,m,h=>by
    unfold bindC
    rw [bindC_out fun w hw=>h w (List.mem_cons_of_mem _ hw)]
    split
    . rfl
    . have:x≠n:=by rintro rfl; exact h v List.mem_cons_self
      simp [this]
theorem bindL_get {kindOf:Str->Option NameKind} {x:Str} {v:Value}:∀ {P:List Str} {vs:List Value} {i:Nat} {m:Str->Option Value},P.Nodup->P[i]?=some x->vs[i]?=some v->kindOf x=some .local ->
    bindL kindOf (P.zip vs) m x=some v
  | [],_,_,_,_,h,_,_=>by simp at h
  | _::_,[],_,_,_,_,h,_=>by simp at h
  | p::P,w::vs,0,m,nd,h1,h2,hk=>by
    simp at h1 h2; subst h1; subst h2
    show bindL kindOf ((p,w)::P.zip vs) m p=_
    unfold bindL
    rw [bindL_out fun v hv=>(List.nodup_cons.mp nd).1 (List.of_mem_zip hv).1,if_pos hk]
    simp
  | p::P,w::vs,i + 1,m,nd,h1,h2,hk=>by
    show bindL kindOf ((p,w)::P.zip vs) m x=_
    unfold bindL
    exact bindL_get (i:=i) (List.nodup_cons.mp nd).2 (by simpa using h1) (by simpa using h2) hk
theorem bindC_get {kindOf:Str->Option NameKind} {x:Str} {v:Value}:∀ {P:List Str} {vs:List Value} {i:Nat} {m:Str->Option Value},P.Nodup->P[i]?=some x->vs[i]?=some v->kindOf x≠some .local ->
    bindC kindOf (P.zip vs) m x=some v
  | [],_,_,_,_,h,_,_=>by simp at h
  | _::_,[],_,_,_,_,h,_=>by simp at h
  | p::P,w::vs,0,m,nd,h1,h2,hk=>by
    simp at h1 h2; subst h1; subst h2
    show bindC kindOf ((p,w)::P.zip vs) m p=_
    unfold bindC
    rw [bindC_out fun v hv=>(List.nodup_cons.mp nd).1 (List.of_mem_zip hv).1,if_neg hk]
    simp
  | p::P,w::vs,i + 1,m,nd,h1,h2,hk=>by
    show bindC kindOf ((p,w)::P.zip vs) m x=_
    unfold bindC
    exact bindC_get (i:=i) (List.nodup_cons.mp nd).2 (by simpa using h1) (by simpa using h2) hk
def start (N:List Str) (vs:List V):St:=vs.map some++List.replicate (N.length - vs.length) none
def cxOf (CX:CXT) (P:Program) (w:World) (K:PySem.W.Frag) (mg:Str->Option Value) (base:Heap) (N:List Str) (qual:Str) (scope:Scope) (f:Addr) (cd:Value) (A:Around) (outer:List Env) (s:Shared) (H:Hp) (E:XK):Cx where
  prog:=P
  w:=w
  K:=K
  mg:=mg
  base:=base
  A:=A.deeper (envOfC qual scope s.heap.objs.size f cd)
  N:=N
  s₀:=s
  H₀:=H
  env:=envOfC qual scope s.heap.objs.size f cd
  outer:=outer
  stack:=envOfC qual scope s.heap.objs.size f cd::outer
  ex:=[]
  calm:=true
  fn:=fun _=>true
  pn:=[]
  xe:=fun e s'=>wpAny (model P w) (A.deeper (envOfC qual scope s.heap.objs.size f cd)) (leaving (envOfC qual scope s.heap.objs.size f cd) e) (fun _ s''=>CX outer H s E e s'') (fun e' s''=>CX outer H s E e' s'') s'
theorem cell_has {sc:Scope} {n:Nat} {x:Str} (h:sc.names.lookup x=some .cell):∃ c,(cellsFrom n sc.names []).lookup x=some c:=by
  have q:=PySem.W.cellsFrom_some sc.names n [] (.inl h)
  exact Option.isSome_iff_exists.mp q
theorem inv_start {CX:CXT} {P:Program} {w:World} {K:PySem.W.Frag} {mg:Str->Option Value} {base:Heap} {N ps:List Str} {qual:Str} {scope:Scope} {f:Addr} {cd:Value} {A:Around} {outer:List Env} {s s1:Shared} {H:Hp} {E:XK} {us:List Value} {vs:List V}
    (S:FnScope N ps scope) (hd:A.handled=none) (e0:Env0 P w K mg base A outer s H) (hl:vs.length=ps.length) (r:Vals vs us)
    (x:InCallC s s.heap.objs.size (bindL (envOfC qual scope s.heap.objs.size f cd).kindOf (ps.zip us) fun _=>none) (cellsFrom (s.heap.objs.size + 1) scope.names []) (bindC (envOfC qual scope s.heap.objs.size f cd).kindOf (ps.zip us) fun _=>none) s1) :
    Inv (cxOf CX P w K mg base N qual scope f cd A outer s H E) [] (start N vs) H s1:=by
  have hpl:ps.length≤N.length:=by have:=congrArg List.length S.pre; rw [List.length_take] at this; omega
  obtain ⟨h1,tk,rfl,hk⟩:=x.done
  have noA:∀ b:Addr,b ∉ (cxOf CX P w K mg base N qual scope f cd A outer s H E).ex:=fun b z=>absurd (show b∈([]:List Addr) from z) (by simp)
  refine ⟨⟨e0.mod,S.kind,rfl,rfl,Nat.le_refl _,fun y z c h1 h2=>?_,fun y hy=>?_,fun y c _ h=>?_,fun _=>hd,Around.frames_deeper e0.frames,.inr ⟨rfl,rfl⟩,fun b z=>absurd z (noA b),e0.bs,e0.bsz,fun b _ _=>noA b,fun b z=>absurd z (noA b),e0.funs,e0.frf⟩,
    rfl,e0.bare,Un.kept hk,⟨_,x.toInCall.ns,fun i y v h1 h2 h3=>?_⟩,fun y c h=>⟨_,x.cell y c h⟩,e0.hok.fresh (Nat.le_refl _),fun y c h=>?_,fun p hp=>absurd (show p∈([]:List (Addr × Obj)) from hp) (by simp),e0.hok.kept hk,?_⟩
  . exact name_of_addr x.apart (PySem.mem_of_lookup h1) (PySem.mem_of_lookup h2)
  . have hy:scope.names.lookup y=some .cell∨scope.names.lookup y=some .free:=hy
    rcases hy with hy | hy
    . exact cell_has hy
    . exact absurd rfl (S.nofree _ (PySem.mem_of_lookup hy))
  . exact Nat.le_of_lt (x.above y c (PySem.mem_of_lookup h))
  . have hi:i < vs.length:=by
      unfold start at h2
      by_cases hi:i < vs.length
      . exact hi
      . rw [List.getElem?_append_right (by simpa using hi)] at h2
        rw [List.getElem?_replicate] at h2
        split at h2 <;> cases h2
    have ha:vs[i]?=some v:=by
      unfold start at h2
      rw [List.getElem?_append_left (by simpa using hi),List.getElem?_map] at h2
      cases e:vs[i]? with
      | none=>rw [e] at h2; cases h2
      | some a=>rw [e] at h2; cases h2; rfl
    obtain ⟨u,hu,rv⟩:=r.get ha
    have hp:ps[i]?=some y:=by
      rw [← S.pre,List.getElem?_take_of_lt (by omega)]; exact h1
    have ndP:ps.Nodup:=by rw [← S.pre]; exact S.nd.sublist (List.take_sublist _ _)
    refine ⟨u,rv,?_⟩
    rcases S.par y (List.mem_of_getElem? hp) with k | k
    . exact .inl ⟨k,bindL_get ndP hp hu k⟩
    . obtain ⟨c,e⟩:=cell_has (n:=s.heap.objs.size + 1) k
      refine .inr ⟨.inl k,c,e,?_⟩
      have q:=x.cell y c e
      rw [bindC_get ndP hp hu (by show scope.names.lookup y≠_; rw [k]; decide)] at q
      exact q
  . exact e0.hok.fresh (Nat.le_of_lt (x.above y c (PySem.mem_of_lookup h)))
  . unfold start
    show _=N.length
    rw [List.length_append,List.length_map,List.length_replicate]
    omega
theorem fn_of {CX:CXT} {P:Program} {w:World} {K:PySem.W.Frag} {mg:Str->Option Value} {base:Heap} {k:Nat} {f:Addr} {name qual:Str} {params:Arguments} {body:List Stmt} {scope:Scope} {dV kV doc pm cdv ct oc:Value} {an od:Option Addr}
    {osl:Array (Option Value)} {N ps:List Str} {sp:Sp} (lk:K.lookup f=some ⟨oc,od,.func (PySem.W.fnOf name qual params body scope dV kV doc pm an cdv ct),osl⟩) (hcd:PySem.W.codeIn K cdv qual=true) (S:FnScope N ps scope)
    (len:∀ vs H Q E,sp vs H Q E->vs.length=ps.length)
    (hbody:∀ (A:Around) (outer:List Env) (s:Shared) (H:Hp) (vs:List V) (Q:VK) (E:XK),Room k (A.deeper (envOfC qual scope s.heap.objs.size f cdv))->sp vs H Q E ->
      ∃ t,PSs (cxOf CX P w K mg base N qual scope f cdv A outer s H E) body t∧t { nx:=fun _ H'=>Q .non H',rt:=Q } (start N vs) H) :
    FnOk P w K mg base CX (k + 1) f (PySem.W.fnOf name qual params body scope dV kV doc pm an cdv ct) ps sp:=by
  refine ⟨len,fun A outer s H args us vs Q E hr e0 hb r hsp=>?_⟩
  have hl:=len _ _ _ _ hsp
  have KX:K.In s.heap:=e0.mod.kin.keeps fun b o e=>(e0.bs b o e).1
  have lim:s.heap.NoLimit:=e0.mod.nolimit.keeps fun b o e=>(e0.bs b o e).1
  have hkind:∀ y∈ps.zip us,scope.names.lookup y.1=some .local∨(scope.names.lookup y.1=some .cell∧((cellsFrom (s.heap.objs.size + 1) scope.names []).lookup y.1).isSome=true):=fun ⟨n,v⟩ hy=>by
    rcases S.par n (List.of_mem_zip hy).1 with q | q
    . exact .inl q
    . exact .inr ⟨q,PySem.W.cellsFrom_some _ _ _ (.inl q)⟩
  refine codeAny_call_function hr.depth (KX _ _ lk) rfl S.co S.gen rfl (PySem.W.codeRec_of KX hcd) (hb _ _ _ _ ?_)
  refine wpAny_newFunctionEnv_cells S.kind hkind fun env he s1 x=>?_
  subst he
  refine ⟨lim.keeps x.toInCall.keep,codeAny_func ?_⟩
  obtain ⟨t,ht,hq⟩:=hbody A outer s H vs Q E (hr.deeper _) hsp
  have I:Inv (cxOf CX P w K mg base N qual scope f cdv A outer s H E) [] (start N vs) H s1:=inv_start S hr.hd e0 hl r x
  refine wpAny_mono (ht [] s1 (start N vs) H _ I hq) (fun fl s' hs=>?_) fun e s' hs=>hs
  have fin:∀ {σ':St} {H':Hp} {v:V} {u:Value},Inv (cxOf CX P w K mg base N qual scope f cdv A outer s H E) [] σ' H' s'->RelV v u->Q v H'->CE outer P w H s Q u s' :=
    fun {σ' H' v u} J rv q=>⟨v,H',J.os,J.bare,J.base,J.hok,rv,q⟩
  cases fl with
  | ret u =>
    obtain ⟨v,σ',H',J,rv,q⟩:=hs
    exact fin J rv q
  | next =>
    obtain ⟨σ',H',J,q⟩:=hs
    exact fin (v:=V.non) (u:=Value.none) J rfl q
  | brk =>
    obtain ⟨_,_,_,q⟩:=hs
    exact False.elim q
  | cont =>
    obtain ⟨_,_,_,q⟩:=hs
    exact False.elim q
end L2
namespace L2
open PySem PySem.Spec PyProof.Rows
section
variable {X:Cx} {x:Str} {p pos:Pos} {e:Expr} {es:List Expr} {t:TA} {id T:String} {r:List V->Hp->VK->Prop}
def tCB (r:List V->Hp->VK->Prop) (t:TA):TE:=fun σ H Q=>t σ H fun vs H1=>r vs H1 Q
theorem pe_callB (hc:CallR X (.builtin id) r) (hg:Gl X x) (hm:X.mg x=none) (hv:bootBuiltins x=some (.builtin id)) (ha:PA X (e::es) t) (hn:x≠"__name__":=by decide) (hdb:(x == ("__debug__":Str))=false:=by decide)
    (he:starEach (e::es) X.env=(false,eval e X.env)::starEach es X.env:=by rfl) (hpl:(backTo pos (starEach es X.env)).any (·.1)=false:=by rfl):PE X (.Call (.Name x p) (e::es) [] pos) (tCB r t):=by
  intro pins s σ H Q I h
  refine wpAny_Call_Name_kw (ld_blt I hg hm hv ?_ hn hdb)
  exact PyProof.Rows.callWith_builtin1 (thn (ha pos pins s σ H _ I h) fun us s1 ⟨vs,H1,I1,r1,q1⟩=>hc pins s1 σ H1 vs us Q I1 r1 q1) he hpl
theorem pe_callTy (hc:CallR X (.type T) r) (hg:Gl X x) (hm:X.mg x=none) (hv:bootBuiltins x=some (.type T)) (ha:PA X (e::es) t) (hn:x≠"__name__":=by decide) (hdb:(x == ("__debug__":Str))=false:=by decide)
    (he:starEach (e::es) X.env=(false,eval e X.env)::starEach es X.env:=by rfl) (hpl:(backTo pos (starEach es X.env)).any (·.1)=false:=by rfl):PE X (.Call (.Name x p) (e::es) [] pos) (tCB r t):=by
  intro pins s σ H Q I h
  refine wpAny_Call_Name_kw (ld_blt I hg hm hv ?_ hn hdb)
  exact PyProof.Rows.callWith_type1 (thn (ha pos pins s σ H _ I h) fun us s1 ⟨vs,H1,I1,r1,q1⟩=>hc pins s1 σ H1 vs us Q I1 r1 q1) he hpl
end
end L2
namespace HT
open PySem PyProof.Rows
section
open PySem.SeqAt
open PySem.AutoSeq1 (wpAny_loadPart')
open PySem.MeetsSeq PySem.MeetsSeq2 PySem.MeetsSeq3
end
section
variable {prog:Program} {w:World} {A:Around} {E:Value->Shared->Prop} {s:Shared}
theorem cat_tup {t b:Addr} {vs ws:List Value} {Q:Value->Shared->Prop} (ht:IsTup s.heap t vs.toArray) (hb:IsTup s.heap b ws.toArray) (hv:vs≠[])
    (h1:ws=[]->Q (.ref t) s) (h2:ws≠[]->Q (.ref s.heap.objs.size) { s with heap:=s.heap.push { cls:=.type "tuple",data:=.seq (vs++ws).toArray } })
    (hsz:vs.length + ws.length≤sizeLine):wpAny (model prog w) A (binaryOp .Add (.ref t) (.ref b)) Q E s:=by
  obtain ⟨⟨cls,dd,data,sl⟩,ho,hc,n,hd⟩:=id ht
  obtain ⟨⟨cls2,dd2,data2,sl2⟩,ho2,hc2,n2,hd2⟩:=id hb
  simp only at hc hd hc2 hd2
  subst hc hd hc2 hd2
  have e:vs.toArray++ws.toArray=(vs++ws).toArray:=by simp
  by_cases hw:ws=[]
  . exact concat_meets ⟨_,ho,rfl⟩ ⟨_,ho2,rfl⟩ noFill_tuple_add seq_tuple_add PySem.F.slot_tuple_add PySem.F.entry_tuple_add (PySem.F.args_tuple_add_2 _ _)
      (tuple_addW1 t b vs.toArray ws.toArray n n2 dd dd2 sl sl2 (by simpa using hv) (by simp [hw])) ⟨ho,ho2,h1 hw⟩
  . refine concat_meets ⟨_,ho,rfl⟩ ⟨_,ho2,rfl⟩ noFill_tuple_add seq_tuple_add PySem.F.slot_tuple_add PySem.F.entry_tuple_add (PySem.F.args_tuple_add_2 _ _)
      (tuple_addW2 t b vs.toArray ws.toArray n n2 dd dd2 sl sl2 (by simpa using hv) (by simpa using hw) (by rw [List.size_toArray,List.size_toArray]; exact hsz)) ⟨ho,ho2,?_⟩
    rw [e]
    exact h2 hw
def sIx (n d:Nat):Option Int->Nat
  | none=>d
  | some v=>if v < 0 then (v + (n:Int)).toNat else min v.toNat n
end
end HT
namespace L2
open PySem PySem.Spec PyProof.Rows
abbrev TO:=St->Hp->(Option Int->Hp->Prop)->Prop
def PO (X:Cx) (e:Option Expr) (t:TO):Prop :=
  ∀ (pins:List (Addr × Obj)) (s:Shared) (σ:St) (H:Hp) (Q:Option Int->Hp->Prop),Inv X pins σ H s->t σ H Q ->
    wpAny (model X.prog X.w) X.A (evalPart e X.env) (fun u s'=>∃ o H',Inv X pins σ H' s'∧IsPart u o∧Q o H') X.xe s
def tPart (t:TE):TO:=fun σ H Q=>t σ H fun x H1=>∃ i,x=.int i∧Q (some i) H1
section
variable {X:Cx} {e:Expr} {te:TE} {lo hi:Option Expr} {tl th:TO} {pos p2:Pos}
theorem po_some (h:PE X e te):PO X (some e) (tPart te):=by
  intro pins s σ H Q I hw
  rw [evalPart_some]
  refine thn (h pins s σ H _ I hw) fun u s1 ⟨x,H1,I1,r1,q1⟩=>?_
  obtain ⟨i,rfl,q⟩:=q1
  obtain ⟨t,rfl⟩:=r1
  exact ⟨some i,H1,I1,.int i t,q⟩
def SlR (X:Cx) (r:V->Option Int->Option Int->Hp->VK->Prop):Prop :=
  ∀ (pins:List (Addr × Obj)) (s:Shared) (σ:St) (H:Hp) (x:V) (v vl vu:Value) (lo hi:Option Int) (sl:Addr) (Q:VK),Inv X pins σ H s->RelV x v->s.heap.IsSliceOf sl vl vu .none->IsPart vl lo->IsPart vu hi->r x lo hi H Q ->
    ∃ T id,typeLookup (.type T) "__getitem__" = pure (some (.builtin id))∧s.TypeIs v T∧wpAny (model X.prog X.w) X.A (getItem v (.ref sl)) (EP X pins σ Q) X.xe s
theorem SlR.or {r r':V->Option Int->Option Int->Hp->VK->Prop} (h:SlR X r) (h':SlR X r'):SlR X (fun x lo hi H Q=>r x lo hi H Q∨r' x lo hi H Q):=by
  intro pins s σ H x v vl vu lo hi sl Q I rx hs pl pu q
  rcases q with q | q
  . exact h pins s σ H x v vl vu lo hi sl Q I rx hs pl pu q
  . exact h' pins s σ H x v vl vu lo hi sl Q I rx hs pl pu q
def tSl (r:V->Option Int->Option Int->Hp->VK->Prop) (te:TE) (tl th:TO):TE:=fun σ H Q=>te σ H fun x H1=>tl σ H1 fun l H2=>th σ H2 fun u H3=>r x l u H3 Q
theorem pe_slice {r:V->Option Int->Option Int->Hp->VK->Prop} (hr:SlR X r) (he:PE X e te) (hl:PO X lo tl) (hu:PO X hi th):PE X (.Subscript e (.Slice lo hi none p2) pos) (tSl r te tl th):=by
  intro pins s σ H Q I h
  refine Subscript_ (thn (he pins s σ H _ I h) fun v s1 ⟨x,H1,I1,r1,q1⟩=>?_)
  refine wpAny_Slice (thn (hl pins s1 σ H1 _ I1 q1) fun vl s2 ⟨l,H2,I2,pl,q2⟩=>thn (hu pins s2 σ H2 _ I2 q2) fun vu s3 ⟨u,H3,I3,pu,q3⟩=>?_)
  rw [evalPart_none]
  refine wpAny_pure ?_
  have I4:Inv X pins σ H3 { s3 with heap:=s3.heap.push { cls:=.type "slice",data:=.fields #[vl,vu,.none] } }:=I3.kept (t':=s3.toks) fun b ob q=>Heap.get?_push_of_some _ q
  obtain ⟨T,id,hT,ht,hg⟩:=hr pins { s3 with heap:=s3.heap.push { cls:=.type "slice",data:=.fields #[vl,vu,.none] } } σ H3 x v vl vu l u s3.heap.objs.size Q I4 r1 (Heap.IsSliceOf.new ..) pl pu q3
  show wpAny (model X.prog X.w) X.A (subscriptTail e (.Slice lo hi none p2) v (.ref s3.heap.objs.size)) (EP X pins σ Q) X.xe { s3 with heap:=s3.heap.push { cls:=.type "slice",data:=.fields #[vl,vu,.none] } }
  exact tail_any (ops:=[.ref s3.heap.objs.size,v]) ht hT hg (by with_unfolding_all rfl)
def cutV (xs:List V) (lo hi:Option Int):List V:=(xs.drop (HT.sIx xs.length 0 lo)).take (HT.sIx xs.length xs.length hi - HT.sIx xs.length 0 lo)
theorem cutV_length (xs:List V) (lo hi:Option Int):(cutV xs lo hi).length≤xs.length:=by
  unfold cutV
  rw [List.length_take,List.length_drop]
  omega
def rCatT (K:PySem.W.Frag):R2:=fun x y H Q=>∃ a b xs ys,x=.ref a∧y=.ref b∧SqT K H a xs∧SqT K H b ys∧xs≠[]∧xs.length + ys.length≤sizeLine ∧
  (ys=[]->Q (.ref a) H)∧(ys≠[]->∀ p,H p=none->Q (.ref p) (upd H p (.tup (xs++ys))))
theorem Vals.nil_iff {xs:List V} {us:List Value} (r:Vals xs us):us=[]↔xs=[]:=by
  cases r with
  | nil=>simp
  | cons _ _=>simp
theorem op_catT:OpR X (binaryOp .Add) (rCatT X.K):=by
  intro pins s σ H x y v u Q I rx ry h
  obtain ⟨a,b,xs,ys,rfl,rfl,ha,hb,hx,hz,q1,q2⟩:=h
  cases rx
  cases ry
  obtain ⟨its,r1,p1,_⟩:=I.tuple ha
  obtain ⟨its2,r2,p2,_⟩:=I.tuple hb
  refine HT.cat_tup p1 p2 (fun z=>hx (r1.nil_iff.mp z)) (fun z=>⟨.ref a,H,I,rfl,q1 (r2.nil_iff.mp z)⟩) (fun z=>?_) (by rw [← r1.length,← r2.length]; exact hz)
  refine ⟨.ref s.heap.objs.size,_,I.laid (t':=s.toks) (o:=.tup (xs++ys)) (fun b ob q=>Heap.get?_push_of_some _ q) (Nat.le_refl _) ?_,rfl,q2 (fun w=>z (r2.nil_iff.mpr w)) _ (I.hok.fresh (Nat.le_refl _))⟩
  exact ⟨by rw [List.length_append]; exact hz,_,r1.append r2,IsTup.new _ _⟩
end
end L2
namespace L2
open PySem PySem.Spec PyProof.Rows
def ixN (n:Nat) (i:Int):Option Nat:=if 0≤i then (if i < n then some i.toNat else none) else if -(n:Int)≤i then some (i + n).toNat else none
def atI {α:Type} (xs:List α) (i:Int):Option α:=(ixN xs.length i).bind fun j=>xs[j]?
theorem ixN_seq {n:Nat} {i:Int} {j:Nat} (h:ixN n i=some j):seqIndex? i n=some j∧j < n∧-(n:Int)≤i∧i < n:=by
  unfold ixN at h
  by_cases h0 : 0≤i
  . rw [if_pos h0] at h
    by_cases h1:i < n
    . rw [if_pos h1] at h
      have e:i.toNat=j:=Option.some.inj h
      exact ⟨by rw [seqIndex_of h0 h1,e],by omega,by omega,h1⟩
    . rw [if_neg h1] at h; cases h
  . rw [if_neg h0] at h
    by_cases h1 : -(n:Int)≤i
    . rw [if_pos h1] at h
      have e:(i + n).toNat=j:=Option.some.inj h
      exact ⟨by rw [seqIndex_neg (by omega) h1,e],by omega,h1,by omega⟩
    . rw [if_neg h1] at h; cases h
theorem atI_get {α:Type} {xs:List α} {i:Int} {v : α} (h:atI xs i=some v):∃ j,seqIndex? i xs.length=some j∧xs[j]?=some v∧j < xs.length∧-(xs.length:Int)≤i∧i < xs.length:=by
  unfold atI at h
  cases e:ixN xs.length i with
  | none=>rw [e] at h; cases h
  | some j =>
    rw [e] at h
    obtain ⟨h1,h2,h3,h4⟩:=ixN_seq e
    exact ⟨j,h1,h,h2,h3,h4⟩
theorem atI_nat {α:Type} {xs:List α} {j:Nat} {v : α} (h:xs[j]?=some v):atI xs (j:Int)=some v:=by
  have hj:j < xs.length:=(List.getElem?_eq_some_iff.mp h).1
  have e:ixN xs.length (j:Int)=some j:=by
    unfold ixN
    rw [if_pos (by omega),if_pos (by omega)]; simp
  unfold atI; rw [e]; exact h
theorem atI_last {α:Type} (xs:List α) (v : α):atI (xs++[v]) (-1)=some v:=by
  have hl:(xs++[v]).length=xs.length + 1:=by simp
  have e:ixN (xs++[v]).length (-1)=some xs.length:=by
    unfold ixN
    rw [hl,if_neg (by decide),if_pos (by omega)]
    congr 1
    omega
  unfold atI
  rw [e]
  show (xs++[v])[xs.length]?=some v
  simp
def PlainIx (b:Expr):Prop:=∀ o i,subscripted b false o i=operate [o,i] (getItem o i)
def IxR (X:Cx) (r:R2):Prop :=
  ∀ (value slice:Expr) (pins:List (Addr × Obj)) (s:Shared) (σ:St) (H:Hp) (x y:V) (v u:Value) (Q:VK),Inv X pins σ H s->RelV x v->RelV y u->r x y H Q ->
    subscripted slice false v u=operate [v,u] (getItem v u)->wpAny (model X.prog X.w) X.A (subscriptTail value slice v u) (EP X pins σ Q) X.xe s
def MtR (X:Cx) (id:String) (r:V->List V->Hp->VK->Prop):Prop :=
  ∀ (pins:List (Addr × Obj)) (s:Shared) (σ:St) (H:Hp) (x:V) (xs:List V) (v:Value) (us:List Value) (Q:VK),Inv X pins σ H s->RelV x v->Vals xs us->r x xs H Q ->
    wpAny (model X.prog X.w) X.A (call (.builtin id) (v::us)) (EP X pins σ Q) X.xe s
section
variable {X:Cx} {a b:Expr} {ta tb:TE} {pos:Pos}
theorem IxR.or {r r':R2} (h:IxR X r) (h':IxR X r'):IxR X (fun x y H Q=>r x y H Q∨r' x y H Q):=by
  intro value slice pins s σ H x y v u Q I rx ry q hs
  rcases q with q | q
  . exact h value slice pins s σ H x y v u Q I rx ry q hs
  . exact h' value slice pins s σ H x y v u Q I rx ry q hs
theorem MtR.or {id:String} {r r':V->List V->Hp->VK->Prop} (h:MtR X id r) (h':MtR X id r'):MtR X id (fun x xs H Q=>r x xs H Q∨r' x xs H Q):=by
  intro pins s σ H x xs v us Q I rx rs q
  rcases q with q | q
  . exact h pins s σ H x xs v us Q I rx rs q
  . exact h' pins s σ H x xs v us Q I rx rs q
theorem pe_ix {r:R2} (hr:IxR X r) (ha:PE X a ta) (hb:PE X b tb) (hs:PlainIx b):PE X (.Subscript a b pos) (tOp r ta tb):=by
  intro pins s σ H Q I h
  exact Subscript_ (binT ha hb I h fun v u s2 x y H2 I2 rx ry q=>hr a b pins s2 σ H2 x y v u Q I2 rx ry q (hs _ _))
def rIxL (K:PySem.W.Frag):R2:=fun x y H Q=>∃ p xs i v,x=.ref p∧y=.int i∧SqL K H p xs∧atI xs i=some v∧Q v H
def rIxT (K:PySem.W.Frag):R2:=fun x y H Q=>∃ p xs i v,x=.ref p∧y=.int i∧SqT K H p xs∧atI xs i=some v∧Q v H
def rIxS:R2:=fun x y H Q=>∃ z i c,x=.str z∧y=.int i∧z.length≤sizeLine∧atI z.cps.toList i=some c∧Q (.str ⟨#[c]⟩) H
theorem ix_list:IxR X (rIxL X.K):=by
  intro value slice pins s σ H x y v u Q I rx ry h hs
  obtain ⟨p,xs,i,z,rfl,rfl,hq,he,q⟩:=h
  cases rx
  obtain ⟨t,rfl⟩:=ry
  obtain ⟨its,r,pl,hz⟩:=I.list hq
  obtain ⟨j,h1,h2,h3,h4,h5⟩:=atI_get he
  obtain ⟨w,ew,rw'⟩:=r.get h2
  have hl:=r.length
  have hn:=line63
  have fin:EP X pins σ Q w s:=⟨z,H,I,rw',q⟩
  by_cases h0 : 0≤i
  . have hj:i.toNat=j:=by
      rw [seqIndex_of h0 h5] at h1
      exact Option.some.inj h1
    exact item_listR pl.isList h0 (by omega) (by rw [hj]; simpa using ew) fin hs
  . have hj:(i + (its.toArray.size:Int)).toNat=j:=by
      rw [seqIndex_neg (by omega) h4] at h1
      rw [List.size_toArray,← hl]
      exact Option.some.inj h1
    exact subscriptTail_builtinR (x:=w) pl.isList.typeIs slot_list_getitem.lookup
      (wpAny_getItem_list_neg (Q:=fun r s'=>r=w∧EP X pins σ Q r s') pl.isList (by omega) (by rw [List.size_toArray] <;> omega) (by omega) (by rw [hj]; simpa using ew) ⟨rfl,fin⟩) hs
theorem ix_tup:IxR X (rIxT X.K):=by
  intro value slice pins s σ H x y v u Q I rx ry h hs
  obtain ⟨p,xs,i,z,rfl,rfl,hq,he,q⟩:=h
  cases rx
  obtain ⟨t,rfl⟩:=ry
  obtain ⟨its,r,pl,hz⟩:=I.tuple hq
  obtain ⟨j,h1,h2,h3,h4,h5⟩:=atI_get he
  obtain ⟨w,ew,rw'⟩:=r.get h2
  have hl:=r.length
  have hn:=line63
  have fin:EP X pins σ Q w s:=⟨z,H,I,rw',q⟩
  exact subscriptTail_builtinR (x:=w) pl.typeIs slot_tuple_getitem.lookup
    (getItem_tuple (j:=j) (Q:=fun r s'=>r=w∧EP X pins σ Q r s') pl (by omega) (by omega) (by rw [List.size_toArray,← hl]; exact h1) (by simpa using ew) ⟨rfl,fin⟩) hs
theorem ix_str:IxR X rIxS:=by
  intro value slice pins s σ H x y v u Q I rx ry h hs
  obtain ⟨z,i,c,rfl,rfl,hz,he,q⟩:=h
  obtain ⟨t,rfl⟩:=rx
  obtain ⟨t',rfl⟩:=ry
  obtain ⟨j,h1,h2,h3,h4,h5⟩:=atI_get he
  have hl:z.cps.toList.length=z.length:=by simp [Str.length]
  rw [hl] at h1 h4 h5
  have hn:=line63
  exact tail_any (typeIs_str s z t) slot_str_getitem.lookup (getItem_str (c:=c) (by
    have e1:decide (i < -(2 ^ 63:Int))=false:=decide_eq_false (by omega)
    have e2:decide (i ≥ 2 ^ 63)=false:=decide_eq_false (by omega)
    rw [e1,e2,Bool.or_false]) (by rw [h1]; simpa using h2) ⟨.str ⟨#[c]⟩,H,I.tok _,⟨_,rfl⟩,q⟩) hs
def rIx (K:PySem.W.Frag):R2:=fun x y H Q=>rIxL K x y H Q∨rIxT K x y H Q∨rIxS x y H Q
theorem ix_seq:IxR X (rIx X.K):=ix_list.or (ix_tup.or ix_str)
theorem Inv.lst {pins:List (Addr × Obj)} {σ:St} {H:Hp} {s:Shared} {p:Addr} {xs:List V} (I:Inv X pins σ H s) (h:H p=some (.lst xs)) :
    ∃ (its:List Value) (n:Nat),Vals xs its∧s.heap.get? p=some { cls:=.type "list",data:=.seq its.toArray n }∧xs.length≤sizeLine:=by
  obtain ⟨z,its,n,r,e⟩:=I.hok p _ h
  exact ⟨its,n,r,e,z⟩
theorem slice_bounds (lo hi:Option Int) (n:Nat):(sliceBounds lo hi none n).1=((HT.sIx n 0 lo:Nat):Int)∧(sliceBounds lo hi none n).2.1=((HT.sIx n n hi:Nat):Int)∧(sliceBounds lo hi none n).2.2=1:=by
  refine ⟨?_,?_,rfl⟩
  . cases lo with
    | none=>simp [sliceBounds,HT.sIx]
    | some i =>
      simp only [sliceBounds,HT.sIx,Option.getD_none,show (1:Int) > 0 by decide,if_true]
      by_cases h:i < 0
      . simp only [h,if_true] <;> omega
      . simp only [h,if_false] <;> omega
  . cases hi with
    | none=>simp [sliceBounds,HT.sIx]
    | some i =>
      simp only [sliceBounds,HT.sIx,Option.getD_none,show (1:Int) > 0 by decide,if_true]
      by_cases h:i < 0
      . simp only [h,if_true] <;> omega
      . simp only [h,if_false] <;> omega
theorem slicePick_cut (its:List Value) (lo hi:Option Int):slicePick its.toArray lo hi none=((its.drop (HT.sIx its.length 0 lo)).take (HT.sIx its.length its.length hi - HT.sIx its.length 0 lo)).toArray:=by
  obtain ⟨h1,h2,h3⟩:=slice_bounds lo hi its.toArray.size
  unfold slicePick
  rw [h1,h2,h3]
  simp only [sliceRange_one,pick_run,List.size_toArray] <;> rfl
def rSlL (K:PySem.W.Frag):V->Option Int->Option Int->Hp->VK->Prop:=fun x lo hi H Q=>∃ a xs,x=.ref a∧SqL K H a xs∧∀ p,H p=none->Q (.ref p) (upd H p (.lst (cutV xs lo hi)))
theorem sl_list:SlR X (rSlL X.K):=by
  intro pins s σ H x v vl vu lo hi sl Q I rx hs pl pu h
  obtain ⟨a,xs,rfl,hx,q⟩:=h
  cases rx
  obtain ⟨its,r,ht,hz⟩:=I.list hx
  have hlen:=r.length
  refine ⟨"list",_,slot_list_getitem.lookup,ht.isList.typeIs,?_⟩
  refine wpAny_getItem_list_slice ht.isList hs pl pu .none (by simp) ?_ (by rw [List.size_toArray] <;> omega)
  rw [slicePick_cut,← hlen]
  refine ⟨.ref s.heap.objs.size,_,I.laid (t':=s.toks) (o:=.lst (cutV xs lo hi)) (fun b ob q=>Heap.get?_push_of_some _ q) (Nat.le_refl _) ?_,rfl,q _ (I.hok.fresh (Nat.le_refl _))⟩
  exact ⟨Nat.le_trans (cutV_length xs lo hi) hz,_,0,(r.drop (HT.sIx xs.length 0 lo)).take (HT.sIx xs.length xs.length hi - HT.sIx xs.length 0 lo),Heap.get?_push_size _ rfl⟩
def flatV:V->Bool
  | .non=>true
  | .bl _=>true
  | .int _=>true
  | .str _=>true
  | _=>false
def eqV:V->V->Bool
  | .non,.non=>true
  | .bl a,.bl b=>a == b
  | .bl a,.int b=>(if a then 1 else 0) == b
  | .int a,.bl b=>a == (if b then 1 else 0)
  | .int a,.int b=>a == b
  | .str a,.str b=>a == b
  | _,_=>false
def inV (x:V) (xs:List V):Bool:=xs.any fun y=>eqV y x
theorem call_len_seq:CallR X (.builtin "len") (fun xs H Q=>∃ p ys,xs=[.ref p]∧(SqL X.K H p ys∨SqT X.K H p ys)∧Q (.int ys.length) H):=by
  intro pins s σ H xs us Q I r h
  obtain ⟨p,ys,rfl,hq,q⟩:=h
  obtain ⟨u,rfl,rx⟩:=vals1 r
  cases rx
  have hn:=line63
  rcases hq with hq | hq
  . obtain ⟨its,r',pl,hz⟩:=I.list hq
    have hlen:=r'.length
    exact Calls.call_len_list pl.isList (by simp only [List.size_toArray] <;> omega) ⟨.int ys.length,H,I.tok _,⟨s.toks + 1,by rw [List.size_toArray,hlen]⟩,q⟩
  . obtain ⟨its,r',pl,hz⟩:=I.tuple hq
    have hlen:=r'.length
    exact len_tuple pl (by simp only [List.size_toArray] <;> omega) ⟨.int ys.length,H,I.tok _,⟨s.toks + 1,by rw [List.size_toArray,hlen]⟩,q⟩
theorem call_len_str:CallR X (.builtin "len") (fun xs H Q=>∃ z,xs=[.str z]∧z.length≤sizeLine∧Q (.int z.length) H):=by
  intro pins s σ H xs us Q I r h
  obtain ⟨z,rfl,hz,q⟩:=h
  obtain ⟨u,rfl,t,rfl⟩:=vals1 r
  have hn:=line63
  exact len_str (by omega) ⟨.int z.length,H,I.tok _,⟨_,rfl⟩,q⟩
theorem CallR.or {f:Value} {r r':List V->Hp->VK->Prop} (h:CallR X f r) (h':CallR X f r'):CallR X f (fun xs H Q=>r xs H Q∨r' xs H Q):=by
  intro pins s σ H xs us Q I rs q
  rcases q with q | q
  . exact h pins s σ H xs us Q I rs q
  . exact h' pins s σ H xs us Q I rs q
theorem call_list_of:CallR X (.type "list") (fun xs H Q=>∃ p ys,xs=[.ref p]∧(SqL X.K H p ys∨SqT X.K H p ys)∧∀ l,H l=none->Q (.ref l) (upd H l (.lst ys))):=by
  intro pins s σ H xs us Q I r h
  obtain ⟨p,ys,rfl,hq,q⟩:=h
  obtain ⟨u,rfl,rx⟩:=vals1 r
  cases rx
  have fin:∀ (its:List Value),Vals ys its->ys.length≤sizeLine->∀ (h':Heap) (c':Nat),(∀ b o',s.heap.get? b=some o'->h'.get? b=some o') ->
      h'.get? s.heap.objs.size=some { cls:=.type "list",dict:=none,data:=.seq its.toArray c',slots:=#[] }->EP X pins σ Q (.ref s.heap.objs.size) { s with heap:=h' }:=fun its r' hz h' c' kp e =>
    ⟨.ref s.heap.objs.size,_,I.laid (t':=s.toks) kp (Nat.le_refl _) (show ObjOk X.prog X.w _ h' _ (.lst ys) from ⟨hz,its,c',r',e⟩),rfl,q _ (I.hok.fresh (Nat.le_refl _))⟩
  rcases hq with hq | hq
  . obtain ⟨its,r',pl,hz⟩:=I.list hq
    have hlen:=r'.length
    obtain ⟨o,ho,hc,n,hd⟩:=pl.isList
    exact call_list_seq p (.inl rfl) ho hc hd (fun h' c' kp e=>fin its r' hz h' c' kp e) (by simp only [List.size_toArray] <;> omega)
  . obtain ⟨its,r',pl,hz⟩:=I.tuple hq
    have hlen:=r'.length
    obtain ⟨o,ho,hc,n,hd⟩:=pl
    exact call_list_seq p (.inr rfl) ho hc hd (fun h' c' kp e=>fin its r' hz h' c' kp e) (by simp only [List.size_toArray] <;> omega)
def tyV (K:PySem.W.Frag) (T:String) (x:V) (H:Hp):Prop:=match x with
  | .str _=>T = "str"
  | .int _=>T = "int"
  | .ref p=>(T = "list"∧∃ xs,SqL K H p xs)∨(T = "tuple"∧∃ o,K.lookup p=some o∧o.cls=.type "tuple"∧o.dict=none) ∨
      (T = "dict"∧((∃ kvs,H p=some (.dK kvs))∨∃ kvs,H p=some (.dT kvs)))∨(T = "set"∧∃ S n,H p=some (.set S n))
  | _=>False
theorem tyV_is {pins:List (Addr × Obj)} {σ:St} {H:Hp} {s:Shared} {T:String} {x:V} {v:Value} (I:Inv X pins σ H s) (r:RelV x v) (ty:tyV X.K T x H) :
    s.TypeIs v T∧∀ a,v=.ref a->∃ ob,s.heap.get? a=some ob∧ob.dict=none:=by
  cases x with
  | str z =>
    obtain ⟨t,rfl⟩:=r
    cases (show T = "str" from ty)
    exact ⟨typeIs_str s z t,fun _ e=>nomatch e⟩
  | int i =>
    obtain ⟨t,rfl⟩:=r
    cases (show T = "int" from ty)
    exact ⟨typeIs_int s i t,fun _ e=>nomatch e⟩
  | ref p =>
    cases r
    rcases ty with ⟨rfl,xs,hq⟩ | ⟨rfl,o,hk,hc,hd⟩ | ⟨rfl,hk⟩ | ⟨rfl,S,n,hk⟩
    . obtain ⟨its,_,pl,_⟩:=I.list hq
      refine ⟨pl.isList.typeIs,fun a e=>?_⟩
      cases e
      obtain ⟨o,n,e,c,hd,_⟩:=pl
      exact ⟨o,e,hd⟩
    . refine ⟨⟨o,I.kIn p o hk,hc⟩,fun a e=>?_⟩
      cases e
      exact ⟨o,I.kIn _ o hk,hd⟩
    . have z:∃ o,s.heap.get? p=some o∧o.ExactDict:=by
        rcases hk with ⟨kvs,hk⟩ | ⟨kvs,hk⟩
        . obtain ⟨_,_,_,_,o,_,_,e,ex,_⟩:=I.hok p _ hk
          exact ⟨o,e,ex⟩
        . obtain ⟨_,_,_,_,o,_,_,e,ex,_⟩:=I.hok p _ hk
          exact ⟨o,e,ex⟩
      obtain ⟨o,e,ex⟩:=z
      refine ⟨⟨o,e,ex.1⟩,fun a e2=>?_⟩
      cases e2
      exact ⟨o,e,ex.2.1⟩
    . obtain ⟨o,_,_,_,e,ex,_⟩:=I.hok p _ hk
      refine ⟨⟨o,e,ex.1⟩,fun a e2=>?_⟩
      cases e2
      exact ⟨o,e,ex.2.1⟩
  | _=>exact False.elim ty
def tBM (K:PySem.W.Frag) (T:String) (r:V->List V->Hp->VK->Prop) (to:TE) (t:TA):TE:=fun σ H Q=>to σ H fun x H1=>tyV K T x H1∧t σ H1 fun xs H2=>r x xs H2 Q
variable {o e:Expr} {es:List Expr} {to:TE} {t:TA} {name:Str} {apos cpos:Pos} {T id:String} {r:V->List V->Hp->VK->Prop}
theorem pe_bm (pa:PlainAttrs T) (slot:Slot T name id) (hty:typeOf (.builtin id)=pure (.type "method_descriptor")) (hm:MtR X id r) (ho:PE X o to) (ha:PA X (e::es) t)
    (hbase:attributeBase o name X.env (eval o X.env)=eval o X.env:=by rfl)
    (hfew:((backTo cpos (starEach (e::es) X.env)).all (fun x=>!x.1) && (backToKw cpos (keywordEach [] X.env)).all (fun x=>x.1.isSome)
      && decide ((e::es).length + ([]:List Keyword).length + (if ([]:List Keyword).isEmpty then 0 else 1) < 30))=true:=by rfl)
    (hline:(apos.endLine == cpos.line)=true:=by rfl) (hs:starEach (e::es) X.env=(false,eval e X.env)::starEach es X.env:=by rfl) (hplain:(backTo cpos (starEach es X.env)).any (·.1)=false:=by rfl) :
    PE X (.Call (.Attribute o name apos) (e::es) [] cpos) (tBM X.K T r to t):=by
  intro pins s σ H Q I h
  refine wpAny_Call_method_late hbase hfew hline rfl (thn (ho pins s σ H _ I h) fun v s1 ⟨x,H1,I1,r1,ty,q1⟩=>?_)
  obtain ⟨h1,h2⟩:=tyV_is I1 r1 ty
  refine ⟨T,id,pa,slot,hty,h1,h2,?_⟩
  have hA:=ha cpos pins s1 σ H1 _ I1 q1
  rw [hs] at hA ⊢
  refine Calls.callWith_builtin (by show (false || (backTo cpos (starEach es X.env)).any (·.1))=false; rw [hplain] <;> rfl) (Calls.evalArgs_plain ?_)
  exact thn hA fun us s2 ⟨vs,H2,I2,r2,q2⟩=>hm pins s2 σ H2 x vs v us Q I2 r1 r2 q2
end
end L2
namespace L2
open PySem PySem.Spec PyProof.Rows
def MtM (X:Cx) (id:String) (r:V->List V->Hp->VK->Prop):Prop :=
  ∀ (pins:List (Addr × Obj)) (s:Shared) (σ:St) (H:Hp) (x:V) (xs:List V) (v:Value) (us:List Value) (Q:VK),Inv X pins σ H s->RelV x v->Vals xs us->r x xs H Q ->
    wpAny (model X.prog X.w) X.A (call (.builtin id) (v::us)) (EP X pins σ Q) X.xe s
theorem Vals.one:∀ {x:V} {us:List Value},Vals [x] us->∃ u,us=[u]∧RelV x u
  | _,_,.cons r .nil=>⟨_,rfl,r⟩
theorem Vals.two:∀ {x y:V} {us:List Value},Vals [x,y] us->∃ u v,us=[u,v]∧RelV x u∧RelV y v
  | _,_,_,.cons r (.cons q .nil)=>⟨_,_,rfl,r,q⟩
theorem Vals.zero:∀ {us:List Value},Vals [] us->us=[]
  | _,.nil=>rfl
theorem Vals.dropLast {xs:List V} {us:List Value} (h:Vals xs us):Vals xs.dropLast us.dropLast:=by
  induction h with
  | nil=>exact .nil
  | cons r t ih =>
    cases t with
    | nil=>exact .nil
    | cons q t'=>exact .cons r ih
theorem Vals.eraseIdx:∀ {xs:List V} {us:List Value} (i:Nat),Vals xs us->Vals (xs.eraseIdx i) (us.eraseIdx i)
  | _,_,_,.nil=>.nil
  | _,_,0,.cons _ t=>t
  | _,_,i + 1,.cons r t=>.cons r (Vals.eraseIdx i t)
theorem Vals.reverse {xs:List V} {us:List Value} (h:Vals xs us):Vals xs.reverse us.reverse:=by
  induction h with
  | nil=>exact .nil
  | cons r t ih=>rw [List.reverse_cons,List.reverse_cons]; exact Vals.append ih (.cons r .nil)
theorem Vals.rep {xs:List V} {us:List Value} (h:Vals xs us):∀ k:Nat,Vals (List.replicate k xs).flatten (List.replicate k us).flatten
  | 0=>.nil
  | k + 1=>by
    rw [List.replicate_succ,List.replicate_succ,List.flatten_cons,List.flatten_cons]
    exact Vals.append h (Vals.rep h k)
section
variable {X:Cx} {pins:List (Addr × Obj)} {σ:St} {H:Hp} {s:Shared} {l b:Addr} {xs ys zs:List V}
theorem Inv.lset {its its':List Value} {n:Nat} {f:Array Value->Array Value} {t':Nat} (I:Inv X pins σ H s) (hH:H l=some (.lst xs))
    (e:s.heap.get? l=some { cls:=.type "list",data:=.seq its.toArray n }) (hf:f its.toArray=its'.toArray) (hv:Vals ys its') (hz:ys.length≤sizeLine) :
    Inv X pins σ (upd H l (.lst ys)) { s with heap:=s.heap.update l (Obj.mapSeq f),toks:=t' }:=by
  have q:=PySem.IsL.update e f
  rw [hf] at q
  refine I.write (x:=l) (e:=l) (by rw [hH]; exact trivial) (.inl rfl) (fun b' u hb hu=>(Heap.get?_update_other s.heap (Obj.mapSeq f) (Ne.symm hb)).trans hu) ⟨_,q⟩ ?_
  exact ⟨hz,its',_,hv,q⟩
theorem Inv.lnew {its:List Value} {t':Nat} (I:Inv X pins σ H s) (hv:Vals ys its) (hz:ys.length≤sizeLine) :
    Inv X pins σ (upd H s.heap.objs.size (.lst ys)) { s with heap:=s.heap.push { cls:=.type "list",data:=.seq its.toArray },toks:=t' } :=
  I.laid (fun _ _ q=>Heap.get?_push_of_some _ q) (Nat.le_refl _) ⟨hz,its,0,hv,Heap.get?_push_size _ rfl⟩
theorem Inv.fresh (I:Inv X pins σ H s):H s.heap.objs.size=none:=I.hok.fresh (Nat.le_refl _)
theorem Inv.lstM (I:Inv X pins σ H s) (hH:H l=some (.lst xs)):xs.length≤sizeLine∧∃ (its:List Value) (n:Nat),Vals xs its∧xs.length=its.length∧s.heap.get? l=some { cls:=.type "list",data:=.seq its.toArray n }:=by
  obtain ⟨z,its,n,r,e⟩:=I.hok l _ hH
  exact ⟨z,its,n,r,r.length,e⟩
end
section
variable {X:Cx}
def rAppend:V->List V->Hp->VK->Prop:=fun x vs H Q=>∃ l xs y,x=.ref l∧vs=[y]∧H l=some (.lst xs)∧xs.length < sizeLine∧Q .non (upd H l (.lst (xs++[y])))
theorem mt_append:MtM X "list.append" rAppend:=by
  intro pins s σ H x vs v us Q I rx rv h
  obtain ⟨l,xs,y,rfl,rfl,hH,hz,q⟩:=h
  cases rx
  obtain ⟨u,rfl,ru⟩:=rv.one
  obtain ⟨z,its,n,r,hl,e⟩:=I.lstM hH
  refine call_meets F.slot_list_append ⟨_,e,rfl⟩ F.entry_list_append (F.args_list_append_2 _ _) (PySem.list_append l its.toArray n u (by rw [List.size_toArray]; omega)) ⟨e,?_⟩
  refine ⟨.non,_,I.lset (its':=its++[u]) hH e (by simp) (r.append (.cons ru .nil)) ?_,rfl,q⟩
  rw [List.length_append,List.length_singleton]
  omega
end
section
variable {prog:Program} {w:World} {A:Around} {E:Value->Shared->Prop} {s:Shared}
set_option maxRecDepth 100000 in
end
section
variable {X:Cx}
end
end L2
namespace Att
open PySem PySem.W PySem.Calls PyProof.Rows
theorem ints_of_wellAll {P:Params} {h:Heap}:∀ (ns:List Int) (vs:List Value),WellAll P h vs (ns.map WData.int)->IntsAre vs ns:=by
  intro ns
  induction ns with
  | nil =>
    intro vs w
    rw [List.map_nil] at w
    cases w
    exact .nil
  | cons n ns ih =>
    intro vs w
    rw [List.map_cons] at w
    cases w with
    | cons a b =>
      cases a
      exact .cons _ _ (ih _ b)
theorem script_of {l:OpenLaw} {n:Nat} (hn:l.most=some n) {P:Params} {h:Heap} {args:List WData} {vals:List Value}
    (hpre:l.row.toRowW.claim.pre args=true) (hwl:WellAll P h vals args) :
    ∃ a vs ns,vals=[Value.ref a]∧args=[WData.list (ns.map WData.int)]∧h.get? a=some { cls:=.type "list",data:=.seq vs.toArray }∧IntsAre vs ns∧ns.length≤n:=by
  have hsh:WShape.hasAll [] args [.list .int]=true:=(pre_splitW hpre).1
  have hc:l.pre.holds [] { args:=args }=true:=(pre_splitW hpre).2
  obtain ⟨d,r,rfl,h1,h2⟩:=hasAllW_cons hsh
  obtain rfl:=hasAllW_nil h2
  obtain ⟨xs,rfl,h3⟩:=hasW_list h1
  obtain ⟨ns,rfl⟩:=items_int h3
  have hlen:ns.length≤n:=by
    unfold OpenLaw.pre at hc
    have h4:(WTm.not (.lt (.lit (.int (n:Int))) (.len (.arg 0)))).holds [] { args:=[.list (ns.map .int)] }=true:=by
      have h4:=(holds_andW hc).1
      rw [hn] at h4
      exact h4
    have h5:=condW_of h4 (w_not (w_lt w_lit (w_len_list (w_arg rfl))))
    rw [List.length_map] at h5
    refine Nat.le_of_not_lt fun q=>?_
    have q':(n:Int) < ((ns.length:Nat):Int):=by omega
    first
      | (rw [decide_eq_true q'] at h5; exact absurd h5 (by decide))
      | (simp at h5; omega)
  cases hwl with
  | cons w1 w2 =>
    cases w2
    cases w1 with
    | list ho hall=>exact ⟨_,_,ns,rfl,rfl,ho,ints_of_wellAll ns _ hall,hlen⟩
theorem post_true (l:OpenLaw) (args:List WData):l.row.toRowW.claim.post args (.bool true) args=true :=
  postW_of (r:=l.row.toRowW) (X:=(true == true))
    (show WShape.has [] (.bool true) .bool=true by first | rfl | decide | simp [WShape.has,WShape.arms,WShape.armsAll])
    (show (WTm.eq .res (.lit (.bool true))).value [] { args:=args,res:=some (.bool true),after:=args }=some (.bool (true == true)) from w_eq_bool (w_res rfl) w_lit) rfl
section
variable {prog:Program} {w:World} {A:Around} {E:Value->Shared->Prop} {s:Shared} {K:Frag}
end
end Att
namespace L2
open PySem PySem.Spec PyProof.Rows
theorem vals_ints:∀ {vs:List Value} {ns:List Int},IntsAre vs ns->Vals (ns.map V.int) vs
  | _,_,.nil=>.nil
  | _,_,.cons n t h=>.cons ⟨t,rfl⟩ (vals_ints h)
def Only (H:Hp):Prop:=∀ b,H b=none∨∃ o xs,H b=some (.frz o (.lst xs))
theorem law_call {P:Program} {w:World} {K:PySem.W.Frag} {mg mb:Str->Option Value} {CX:CXT} {k:Nat} {fa a:Addr} {fd:FuncData} {x:Str} {sp:Sp} {s₁:Shared} {vs:List Value} {ns:List Int}
    (KX:K.In s₁.heap) (hns:s₁.heap.Ns mainGlobals mg) (hb:s₁.heap.Ns builtinsNs mb) (hbb:∀ x:Str,x≠"__name__"->mb x=bootBuiltins x) (hlim:s₁.heap.NoLimit) (hg:s₁.gens=#[])
    (ha:s₁.heap.get? a=some { cls:=.type "list",data:=.seq vs.toArray }) (hi:IntsAre vs ns) (hl:ns.length≤sizeLine) (hr:Room k callerA)
    (F:∀ base:Heap,K.In base->base.Ns mainGlobals mg->FnOk P w K mg base CX k fa fd [x] sp) (hbind:∀ (s:Shared) (u:Value),BindsTo s fd ⟨[u],[]⟩ [(x,u)])
    (hsp:∀ H:Hp,Only H->SqL K H a (ns.map V.int)->sp [.ref a] H (fun v _=>v=.bl true) fun _ _ _=>False)
    (hCX:∀ H e s',CX [] H s₁ (fun _ _ _=>False) e s'->False) :
    codeAny (model P w) callerA (.call (.ref fa) ⟨[.ref a],[]⟩) (fun r s'=>r=.ok (.ret (.bool true))∧OldK s₁.heap s'.heap∧s'.os=s₁.os∧AllBare s'.gens) s₁:=by
  have rv:=vals_ints hi
  have lenV:=hi.length
  have core:∀ H:Hp,Only H->SqL K H a (ns.map V.int)->HOk P w H s₁.heap->(∀ b,H b≠none->b=a)->(H a≠none->K.lookup a=none) ->
      codeAny (model P w) callerA (.call (.ref fa) ⟨[.ref a],[]⟩) (fun r s'=>r=.ok (.ret (.bool true))∧OldK s₁.heap s'.heap∧s'.os=s₁.os∧AllBare s'.gens) s₁:=by
    intro H hO hS hok hA hK
    have base_of:∀ {b:Addr} {o:Obj},s₁.heap.get? b=some o->H b=none->(hidT s₁.heap H).get? b=some o:=fun e n=>hidT_get e n
    have noA:∀ {b:Addr} {o:Obj} {es:Array DictEntry} {ep:Nat},s₁.heap.get? b=some o->o.data=.dict es ep->H b=none:=fun {b o es ep} e d=>by
      cases q:H b with
      | none=>rfl
      | some u =>
        have e':b=a:=hA b (by rw [q]; simp)
        subst e'
        rw [ha] at e; cases e
        have d':Data.seq vs.toArray _=Data.dict es ep:=d
        cases d'
    have nsK:∀ {b:Addr} {m:Str->Option Value},s₁.heap.Ns b m->(hidT s₁.heap H).Ns b m:=fun {b m} ⟨o,es,ep,e,d,r⟩=>⟨o,es,ep,base_of e (noA e d),d,r⟩
    have hKb:K.In (hidT s₁.heap H):=fun b o e=>base_of (KX b o e) (by
      cases q:H b with
      | none=>rfl
      | some u =>
        have e':b=a:=hA b (by rw [q]; simp)
        subst e'
        rw [hK (by rw [q]; simp)] at e; cases e)
    have hM:Mod K mg (hidT s₁.heap H):=⟨hKb,nsK hns,⟨mb,nsK hb,hbb⟩,let ⟨mc,h1,h2⟩:=hlim; ⟨mc,nsK h1,h2⟩⟩
    have e0:Env0 P w K mg (hidT s₁.heap H) callerA [] s₁ H:=⟨rfl,hM,fun b o e=>of_hidT e,Nat.le_of_eq (hidT_size _ _),trivial,fun b hb=>absurd (show b∈([]:List Addr) from hb) (by simp),hok,.of_eq hg⟩
    refine codeAny_mono ((F _ hKb (nsK hns)).run callerA [] s₁ H ⟨[.ref a],[]⟩ [.ref a] [.ref a] _ _ hr e0 (hbind s₁ (.ref a)) (.cons rfl .nil) (hsp H hO hS)) fun r s' h=>?_
    cases r with
    | error e=>exact (hCX H e s' h).elim
    | ok fl =>
      cases fl with
      | next=>exact False.elim h
      | brk=>exact False.elim h
      | cont=>exact False.elim h
      | ret u =>
        obtain ⟨v,H',os,bare,un,hok',r',q⟩:=h
        have q':v=.bl true:=q
        subst q'
        obtain rfl:u=Value.bool true:=r'
        refine ⟨rfl,OldK.of_keep fun b o e=>?_,os,bare⟩
        cases q:H b with
        | none=>exact un.keep b o e q (by intro z; exact absurd (show b∈([]:List Addr) from z) (by simp)) (by simp)
        | some u =>
          rcases hO b with z | ⟨ob,xs,z⟩
          . rw [q] at z; cases z
          . have z2:=un.frzs b ob _ z
            obtain ⟨e1,_⟩:=hok b _ z
            obtain ⟨e2,_⟩:=hok' b _ z2
            rw [e] at e1; cases e1
            exact e2
  cases hk:K.lookup a with
  | some o =>
    have e:=KX a o hk
    rw [ha] at e
    cases e
    refine core (fun _=>none) (fun _=>.inl rfl) (.inr ⟨_,vs.toArray,_,hk,rfl,rfl,rfl,by rw [List.size_toArray,lenV]; exact hl,by simpa using rv⟩) (fun b u z=>by have z':(none:Option HO)=some u:=z; cases z') (fun b z=>absurd rfl z) fun z=>absurd rfl z
  | none =>
    refine core (fun b=>if b=a then some (.frz { cls:=.type "list",data:=.seq vs.toArray } (.lst (ns.map V.int))) else none) (fun b=>?_) (.inl (.inr ⟨{ cls:=.type "list",data:=.seq vs.toArray },if_pos rfl⟩)) (fun b u z=>?_) (fun b z=>?_) fun _=>hk
    . by_cases hb:b=a
      . exact .inr ⟨_,_,if_pos hb⟩
      . exact .inl (if_neg hb)
    . by_cases hb:b=a
      . have z':=(if_pos hb).symm.trans z
        cases z'
        subst hb
        exact ⟨ha,by rw [List.length_map]; exact hl,vs,_,rv,ha⟩
      . have z':=(if_neg hb).symm.trans z
        cases z'
    . by_cases hb:b=a
      . exact hb
      . exact absurd (if_neg hb) z
end L2
namespace L2
open PySem PySem.Spec PyProof.Rows
abbrev KOf {K:PySem.W.Frag} {h:Heap} (_:K.In h):PySem.W.Frag:=K
end L2
namespace L2
open PySem PySem.Spec PyProof.Rows
def inClass (s:Stmt) (j:Nat):Stmt:=match s with
  | .ClassDef _ _ _ body _ _ _ _ _ _ _=>body.getD j (.Pass ⟨0,0,0,0⟩)
  | _=>.Pass ⟨0,0,0,0⟩
def defArgs (s:Stmt):Arguments:=match s with
  | .FunctionDef _ a _ _ _ _ _ _ _ _=>a
  | _=>{ posonlyargs:=[],args:=[],vararg:=none,kwonlyargs:=[],kw_defaults:=[],kwarg:=none,defaults:=[] }
def defBody (s:Stmt):List Stmt:=match s with
  | .FunctionDef _ _ b _ _ _ _ _ _ _=>b
  | _=>[]
def defScope (s:Stmt):Scope:=match s with
  | .FunctionDef _ _ _ _ _ _ sc _ _ _=>sc
  | _=>{ kind:=.function,names:=[],isGenerator:=false,isCoroutine:=false }
abbrev CX0:CXT:=fun _ _ _ _ _ _=>False
abbrev E0:XK:=fun _ _ _=>False
theorem pass0 {X:Cx}:Passes CX0 X E0:=fun _ _ _ _ _ _ _ h=>h.elim
structure Fun (K:PySem.W.Frag) (x qual:Str) (st:Stmt) (f:Addr) (fd:FuncData):Prop where
  ex:∃ (oc:Value) (od:Option Addr) (kV doc pm:Value) (an:Option Addr) (cdv ct:Value) (osl:Array (Option Value)),
    fd=PySem.W.fnOf x qual (defArgs st) (defBody st) (defScope st) .none kV doc pm an cdv ct∧K.lookup f=some ⟨oc,od,.func fd,osl⟩∧PySem.W.codeIn K cdv qual=true
  kp:PySem.W.keepIn K (.ref f)=true
section
variable {P:Program} {w:World} {K:PySem.W.Frag} {mg:Str->Option Value} {base:Heap}
theorem Fun.ok {x qual:Str} {st:Stmt} {f:Addr} {fd:FuncData} {N ps:List Str} {k:Nat} {sp:Sp} (F:Fun K x qual st f fd) (S:FnScope N ps (defScope st)) (len:∀ vs H Q E,sp vs H Q E->vs.length=ps.length)
    (hbody:∀ (cdv:Value) (A:Around) (outer:List Env) (s:Shared) (H:Hp) (vs:List V) (Q:VK) (E:XK),Room k (A.deeper (envOfC qual (defScope st) s.heap.objs.size f cdv))->sp vs H Q E ->
      ∃ t,PSs (cxOf CX0 P w K mg base N qual (defScope st) f cdv A outer s H E).nox (defBody st) t∧t { nx:=fun _ H'=>Q .non H',rt:=Q } (start N vs) H):FnOk P w K mg base CX0 (k + 1) f fd ps sp:=by
  obtain ⟨oc,od,kV,doc,pm,an,cdv,ct,osl,rfl,lk,hcd⟩:=F.ex
  refine fn_of lk hcd S len fun A outer s H vs Q E hr hsp=>?_
  obtain ⟨t,h,q⟩:=hbody cdv A outer s H vs Q E hr hsp
  exact ⟨t,h.nox,q⟩
theorem Fun.binds {x qual:Str} {st:Stmt} {f:Addr} {fd:FuncData} {ps:List Str} (F:Fun K x qual st f fd)
    (h:∀ (kV doc pm:Value) (an:Option Addr) (cdv ct:Value) (us:List Value),us.length=ps.length->bindArgs (PySem.W.fnOf x qual (defArgs st) (defBody st) (defScope st) .none kV doc pm an cdv ct) ⟨us,[]⟩=pure (ps.zip us)):Binds K fd ps []:=by
  obtain ⟨oc,od,kV,doc,pm,an,cdv,ct,osl,rfl,lk,hcd⟩:=F.ex
  exact .all (h kV doc pm an cdv ct)
theorem fun_mk {x qual:Str} {st:Stmt} {f:Addr} {oc:Value} {od an:Option Addr} {osl:Array (Option Value)} {kV doc pm cdv ct:Value} (l:K.lookup f=some ⟨oc,od,.func (PySem.W.fnOf x qual (defArgs st) (defBody st) (defScope st) .none kV doc pm an cdv ct),osl⟩)
    (c:PySem.W.codeIn K cdv qual=true) (k:PySem.W.keepIn K (.ref f)=true):Fun K x qual st f (PySem.W.fnOf x qual (defArgs st) (defBody st) (defScope st) .none kV doc pm an cdv ct):=⟨⟨oc,od,kV,doc,pm,an,cdv,ct,osl,rfl,l,c⟩,k⟩
end
section
variable {X:Cx}
theorem pv (i:Nat) {x:Str} {pos:Pos} (hN:X.N[i]?=some x:=by rfl) (hv:Vis X.env.scope x:=by first | exact Or.inl rfl | exact Or.inr (Or.inl rfl) | exact Or.inr (Or.inr rfl)) (hd:(x == ("__debug__":Str))=false:=by decide)
    (hcd:(x == ("__classdict__":Str))=false:=by decide):PE X (.Name x pos) (tVar i):=pe_var hN hv hd hcd
end
def Same (H H':Hp):Prop:=∀ b o,H b=some o->H' b=some o
theorem Same.refl (H:Hp):Same H H:=fun _ _ h=>h
theorem Same.trans {H H1 H2:Hp} (a:Same H H1) (b:Same H1 H2):Same H H2:=fun c o h=>b c o (a c o h)
theorem Same.free {H H':Hp} (e:Same H H') {l:Addr} (h:H' l=Option.none):H l=Option.none:=by
  cases q:H l with
  | none=>rfl
  | some o =>
    rw [e l o q] at h
    cases h
theorem Same.seq {K:PySem.W.Frag} {H H':Hp} {a:Addr} {xs:List V} (e:Same H H') (h:SqL K H a xs):SqL K H' a xs:=by
  rcases h with (h | ⟨o,h⟩) | h
  . exact .inl (.inl (e _ _ h))
  . exact .inl (.inr ⟨o,e _ _ h⟩)
  . exact .inr h
end L2
set_option Elab.async false
set_option linter.all false
set_option maxRecDepth 100000
namespace L2
open PySem PySem.Spec PyProof.Rows
theorem Inv.track {X:Cx} {pins:List (Addr × Obj)} {σ:St} {H:Hp} {s:Shared} {D:Addr} {o:HO} (I:Inv X pins σ H s) (hn:H D=none) (hD:X.s₀.heap.objs.size≤D) (hL:D≠X.env.locals)
    (hc:∀ x c,X.env.cells.lookup x=some c->c≠D) (hp:∀ p∈X.pn++pins,p.1≠D) (new:ObjOk X.prog X.w (upd H D o) s.heap D o):Inv X pins σ (upd H D o) s:=by
  have ne:∀ b u,H b=some u->b≠D:=fun b u e=>ne_of_none e hn
  refine ⟨I.ok,I.os,I.bare,⟨I.base.keep,I.base.slot,fun b ob e n hx=>?_,I.base.there,fun b xs e=>?_,fun b ob u e=>?_,fun b ps e=>?_⟩,I.loc,I.cell,?_,fun x c e=>?_,fun p q=>?_,fun b u e=>?_,I.len⟩
  . have:b≠D:=Nat.ne_of_lt (Nat.lt_of_lt_of_le (Heap.lt_size e) hD)
    rw [upd_ne this]; exact I.base.free b ob e n hx
  . have z:=I.base.tups b xs e
    rw [upd_ne (ne _ _ z)]; exact z
  . have z:=I.base.frzs b ob u e
    rw [upd_ne (ne _ _ z)]; exact z
  . obtain ⟨more,z⟩:=I.base.tbls b ps e
    exact ⟨more,by rw [upd_ne (ne _ _ z)]; exact z⟩
  . rw [upd_ne (Ne.symm hL)]; exact I.free
  . rw [upd_ne (hc x c e)]; exact I.freeC x c e
  . obtain ⟨h1,h2,h3⟩:=I.pin p q
    exact ⟨h1,by rw [upd_ne (hp p q)]; exact h2,h3⟩
  . by_cases hb:b=D
    . subst hb; rw [upd_same] at e; cases e; exact new
    . rw [upd_ne hb] at e
      exact (I.hok b u e).stay (fun _ _ _ q=>q) (fun c q=>by rw [upd_ne (ne _ _ q)]; exact q) fun c xs q=>by rw [upd_ne (ne _ _ q)]; exact q
def cloOf (cells:List (Str × Addr)):List (Str × NameKind)->List (Str × Addr)->List (Str × Addr)
  | [],acc=>acc
  | (n,k)::r,acc=>cloOf cells r (if (k == NameKind.free)=true then (n,(cells.lookup n).getD 0)::acc else acc)
theorem clo_run {env:Env}:∀ (names:List (Str × NameKind)) (acc:List (Str × Addr)),(∀ y∈names,y.2=.free->∃ c,env.cells.lookup y.1=some c) ->
    (forIn names acc fun (x:Str × NameKind) (r:List (Str × Addr))=>(if (x.2 == NameKind.free)=true then do
        let c ← cellOf env x.1
        pure (ForInStep.yield ((x.1,c)::r)) else pure (ForInStep.yield r):Sem (ForInStep (List (Str × Addr)))))=pure (cloOf env.cells names acc)
  | [],acc,_=>rfl
  | (n,k)::r,acc,h=>by
    have ih:=fun acc'=>clo_run (env:=env) r acc' fun y hy=>h y (List.mem_cons_of_mem _ hy)
    rw [List.forIn_cons]
    by_cases hk:k=.free
    . subst hk
      obtain ⟨c,hc⟩:=h (n,.free) List.mem_cons_self rfl
      have hc':env.cells.lookup n=some c:=hc
      have e:cellOf env n=pure c:=by
        unfold cellOf
        rw [hc']
      show (if (NameKind.free == NameKind.free)=true then _ else _) >>= _=_
      rw [if_pos (by decide),e]
      simp only [pure_bind]
      rw [ih]
      simp only [cloOf,hc',Option.getD_some]
      rfl
    . have hb:(k == NameKind.free)=false:=by simpa using hk
      show (if (k == NameKind.free)=true then _ else _) >>= _=_
      rw [hb,if_neg Bool.false_ne_true]
      simp only [pure_bind]
      rw [ih]
      simp only [cloOf,hb,Bool.false_eq_true,if_false]
theorem clo_eq {scope:Scope} {env:Env} (h:∀ y∈scope.names,y.2=.free->∃ c,env.cells.lookup y.1=some c):closureFor scope env=pure (cloOf env.cells scope.names []):=by
  unfold closureFor
  have e:=clo_run (env:=env) scope.names [] h
  simp only [bind_pure]
  exact e
theorem clo_sub {cells:List (Str × Addr)}:∀ (names:List (Str × NameKind)) (acc:List (Str × Addr)),(∀ y∈names,y.2=.free->∃ c,cells.lookup y.1=some c)->(∀ y c,acc.lookup y=some c->cells.lookup y=some c) ->
    ∀ y c,(cloOf cells names acc).lookup y=some c->cells.lookup y=some c
  | [],_,_,ha=>ha
  | (n,k)::r,acc,h,ha=>by
    refine clo_sub r _ (fun y hy=>h y (List.mem_cons_of_mem _ hy)) fun y c e=>?_
    by_cases hk:(k == NameKind.free)=true
    . rw [if_pos hk] at e
      obtain ⟨c',hc⟩:=h (n,k) List.mem_cons_self (by simpa using hk)
      have hc':cells.lookup n=some c':=hc
      rw [hc',Option.getD_some] at e
      rw [List.lookup_cons] at e
      by_cases hy:(y == n)=true
      . rw [hy] at e
        have:y=n:=by simpa using hy
        subst this
        rw [hc']; exact e
      . have hy':(y == n)=false:=by simpa using hy
        rw [hy'] at e
        exact ha y c e
    . rw [if_neg hk] at e
      exact ha y c e
theorem clo_has {cells:List (Str × Addr)}:∀ (names:List (Str × NameKind)) (acc:List (Str × Addr)) (y:Str),((y,NameKind.free)∈names∨∃ c,acc.lookup y=some c)->∃ c,(cloOf cells names acc).lookup y=some c
  | [],acc,y,h=>by
    rcases h with h | h
    . cases h
    . exact h
  | (n,k)::r,acc,y,h=>by
    refine clo_has r _ y ?_
    rcases h with h | ⟨c,h⟩
    . rcases List.mem_cons.mp h with e | h
      . cases e
        refine .inr ⟨(cells.lookup n).getD 0,?_⟩
        rw [if_pos (by decide),List.lookup_cons]
        simp
      . exact .inl h
    . refine .inr ?_
      split
      . rw [List.lookup_cons]
        cases y == n with
        | true=>exact ⟨_,rfl⟩
        | false=>exact ⟨c,h⟩
      . exact ⟨c,h⟩
theorem relabel_lookup (env : Env) : ∀ (names : List (Str × NameKind)) (y : Str),
    (names.map fun (n,k)=>if (k == NameKind.free && env.scope.kind == .function && env.kindOf n == some .cell) then (n,NameKind.cell) else (n,k)).lookup y
      = (names.lookup y).map fun k=>if (k == NameKind.free && env.scope.kind == .function && env.kindOf y == some .cell)=true then NameKind.cell else k
  | [],_=>rfl
  | (n,k)::r,y=>by
    have ih := relabel_lookup env r y
    show List.lookup y ((if (k == NameKind.free && env.scope.kind == .function && env.kindOf n == some .cell)=true then (n,NameKind.cell) else (n,k))::_)=_
    by_cases hy:(y == n)=true
    . have:y=n:=by simpa using hy
      subst this
      by_cases hc:(k == NameKind.free && env.scope.kind == .function && env.kindOf y == some .cell)=true
      . rw [if_pos hc]; simp only [List.lookup_cons,hy,Option.map_some,hc,if_true]
      . rw [if_neg hc]; simp only [List.lookup_cons,hy,Option.map_some,hc]; simp
    . have hy':(y == n)=false:=by simpa using hy
      by_cases hc:(k == NameKind.free && env.scope.kind == .function && env.kindOf n == some .cell)=true
      . rw [if_pos hc]; simp only [List.lookup_cons,hy']; exact ih
      . rw [if_neg hc]; simp only [List.lookup_cons,hy']; exact ih
def cxComp (X:Cx) (scope:Scope) (N':List Str) (s₂:Shared) (H₂:Hp) (C:Addr) (fp:List Addr):Cx :=
  { X with N:=N',s₀:=s₂,H₀:=H₂,env:=compEnvC scope (cloOf X.env.cells scope.names []) C X.env,outer:=X.stack,ex:=fp,fn:=fun _=>false,pn:=[],xe:=fun _ _=>False }
def compNs (x:Str) (fr:List (Str × Nat)):List Str:=x::fr.map (·.1)
def compRest (σ:St) (fr:List (Str × Nat)):St:=fr.map fun p=>σ.getD p.2 none
structure Blk (X:Cx) (scope:Scope) (x:Str) (fr:List (Str × Nat)):Prop where
  nocell:(scope.names.all fun y=>y.2 != .cell)=true
  kind:scope.kind=.function
  names:(scope.names.all fun y=>y.2 != .local || scope.names.lookup y.1 == some .local)=true
  here:scope.names.lookup x=some .local
  free:(scope.names.all fun y=>y.2 != .free || X.env.scope.names.lookup y.1 == some .cell)=true
  seen:(fr.all fun p=>scope.names.lookup p.1 == some .free && X.N[p.2]? == some p.1)=true
  nd:(compNs x fr).Nodup
section
variable {X:Cx} {scope:Scope} {x:Str} {fr:List (Str × Nat)} {pins:List (Addr × Obj)} {σ:St} {H:Hp} {s:Shared}
theorem Blk.cell (B:Blk X scope x fr):∀ y∈scope.names,y.2≠.cell:=fun y hy=>by
  have:=List.all_eq_true.mp B.nocell y hy
  simpa using this
theorem Blk.loc (B:Blk X scope x fr):∀ y∈scope.names,y.2=.local->scope.names.lookup y.1=some .local:=fun y hy e=>by
  have:=List.all_eq_true.mp B.names y hy
  rw [e] at this
  simpa using this
theorem Blk.frees (B:Blk X scope x fr):∀ y∈scope.names,y.2=.free->X.env.kindOf y.1=some .cell:=fun y hy e=>by
  have:=List.all_eq_true.mp B.free y hy
  rw [e] at this
  have h:X.env.scope.names.lookup y.1=some .cell:=by simpa using this
  exact h
theorem Blk.clos (B:Blk X scope x fr) (ok:X.Ok):∀ y∈scope.names,y.2=.free->∃ c,X.env.cells.lookup y.1=some c:=fun y hy e=>ok.has y.1 (.inl (B.frees y hy e))
theorem Blk.sub (B:Blk X scope x fr) (ok:X.Ok):∀ y c,(cloOf X.env.cells scope.names []).lookup y=some c->X.env.cells.lookup y=some c :=
  clo_sub scope.names [] (B.clos ok) fun y c e=>by simp at e
theorem Blk.kinds (B : Blk X scope x fr) {y : Str} (h : (relabel scope X.env).names.lookup y = some .cell ∨ (relabel scope X.env).names.lookup y = some .free) : (y, NameKind.free) ∈ scope.names := by
  have e : (relabel scope X.env).names.lookup y = _ := relabel_lookup X.env scope.names y
  rw [e] at h
  cases q:scope.names.lookup y with
  | none=>rw [q] at h; simp at h
  | some k =>
    have hm:=PySem.mem_of_lookup q
    rw [q] at h
    have hk:k=.free:=by
      by_cases hk:k=.free
      . exact hk
      . have hb:(k == NameKind.free)=false:=by simpa using hk
        have hc:k≠.cell:=B.cell _ hm
        rw [Option.map_some,hb,Bool.false_and,Bool.false_and,if_neg Bool.false_ne_true] at h
        rcases h with h | h
        . exact absurd (Option.some.inj h) hc
        . exact Option.some.inj h
    subst hk
    exact hm
theorem Blk.sees (B : Blk X scope x fr) (hk : X.env.scope.kind = .function) {y : Str} (h : scope.names.lookup y = some .free) : (relabel scope X.env).names.lookup y = some .cell := by
  have e : (relabel scope X.env).names.lookup y = _ := relabel_lookup X.env scope.names y
  rw [e,h]
  have h2:X.env.kindOf y=some .cell:=B.frees _ (PySem.mem_of_lookup h) rfl
  simp [hk,h2]
theorem inv_comp (I:Inv X pins σ H s) (B:Blk X scope x fr) {C:Addr} {fp:List Addr} {h₁:Heap} {tk:Nat} {o:Option V} (hC:s.heap.objs.size≤C) (hfp:∀ b∈fp,FpOk X pins H b) (hlt:∀ b∈fp,b < s.heap.objs.size)
    (old:∀ b ob,s.heap.get? b=some ob->h₁.get? b=some ob) (hns:h₁.Ns C fun _=>none):Inv (cxComp X scope (compNs x fr) s H C fp) [] (none::compRest σ fr) H { s with heap:=h₁,toks:=tk }:=by
  have neC:∀ b,b < s.heap.objs.size->b≠C:=fun b hb=>Nat.ne_of_lt (Nat.lt_of_lt_of_le hb hC)
  have cl:∀ y c,X.env.cells.lookup y=some c->c < s.heap.objs.size:=fun y c e=>by
    obtain ⟨v,o,ho,_⟩:=I.cell y c e
    exact Heap.lt_size ho
  refine ⟨⟨I.ok.mod,B.kind,I.ok.glob,I.ok.blt,hC,fun y z c h1 h2=>I.ok.inj y z c (B.sub I.ok _ _ h1) (B.sub I.ok _ _ h2),fun y hy=>clo_has _ _ _ (.inl (B.kinds hy)),fun y c h _=>(Bool.false_ne_true h).elim,I.ok.hd,I.ok.frames,.inl rfl,
    fun b hb=>⟨neC b (hlt b hb),fun y c e=>(hfp b hb).2.2.2.2.1 y c (B.sub I.ok _ _ e)⟩,I.bs,Nat.le_trans I.ok.bsz I.sz,fun b ob e hb=>?_,fun b hb hs=>?_,I.stack,I.stkFree⟩,
    rfl,I.bare,Un.kept old,⟨_,hns,fun i y v h1 h2 h3=>?_⟩,fun y c e=>?_,I.hok.fresh hC,fun y c e=>I.freeC y c (B.sub I.ok _ _ e),fun p hp=>?_,I.hok.kept old,?_⟩
  . rcases (hfp b hb).2.2.2.1 with z | z
    . exact I.ok.noex b ob e z
    . have h1:b < X.base.objs.size:=Heap.lt_size e
      have h2:=I.ok.bsz
      exact absurd (Nat.lt_of_lt_of_le h1 h2) (Nat.not_lt.mpr z)
  . have z:=I.stkSub b hs
    rcases List.mem_cons.mp z with z | z
    . exact (hfp b hb).2.1 z
    . exact (hfp b hb).2.2.1 z
  . cases i with
    | zero=>simp at h2
    | succ i =>
      have h1':(fr.map (·.1))[i]?=some y:=by
        have z:(x::fr.map (·.1))[i + 1]?=some y:=h1
        rw [List.getElem?_cons_succ] at z
        exact z
      have h2':(compRest σ fr)[i]?=some (some v):=by simpa using h2
      rw [List.getElem?_map] at h1'
      unfold compRest at h2'
      rw [List.getElem?_map] at h2'
      cases e:fr[i]? with
      | none=>rw [e] at h1'; cases h1'
      | some p =>
        rw [e] at h1' h2'
        have e1:p.1=y:=by simpa using h1'
        have e2 : σ.getD p.2 none=some v:=by simpa using h2'
        have hs:=List.all_eq_true.mp B.seen p (List.mem_of_getElem? e)
        rw [Bool.and_eq_true] at hs
        have hs1:scope.names.lookup p.1=some .free:=by simpa using hs.1
        have hs2:X.N[p.2]?=some p.1:=by simpa using hs.2
        rw [e1] at hs1 hs2
        have hk:X.env.kindOf y=some .cell:=B.frees _ (PySem.mem_of_lookup hs1) rfl
        have e3 : σ[p.2]?=some (some v):=by
          rw [List.getD_eq_getElem?_getD] at e2
          cases q : σ[p.2]? with
          | none=>rw [q] at e2; simp at e2
          | some z=>rw [q] at e2; simp at e2; rw [e2]
        obtain ⟨m,hn,hl⟩:=I.loc
        obtain ⟨u,r,l⟩:=hl p.2 y v hs2 e3 (.inr (.inl hk))
        refine ⟨u,r,.inr ⟨.inl (B.sees I.ok.kind hs1),?_⟩⟩
        rcases l with ⟨z,_⟩ | ⟨_,c,ec,z⟩
        . rw [hk] at z; cases z
        . obtain ⟨c',hc'⟩:=clo_has (cells:=X.env.cells) scope.names [] y (.inl (PySem.mem_of_lookup hs1))
          have:=B.sub I.ok _ _ hc'
          rw [ec] at this
          cases this
          obtain ⟨ob,ho,hd⟩:=z
          exact ⟨c,hc',ob,old _ _ ho,hd⟩
  . obtain ⟨v,ob,ho,hd⟩:=I.cell y c (B.sub I.ok _ _ e)
    exact ⟨v,ob,old _ _ ho,hd⟩
  . exact absurd (show p∈([]:List (Addr × Obj)) from hp) (by simp)
  . show _=(compNs x fr).length
    simp [compNs,compRest]
end
end L2
set_option Elab.async false
set_option linter.all false
set_option maxRecDepth 100000
namespace L2
open PySem PySem.Spec PyProof.Rows
def PIf (X:Cx) (ifs:List Expr) (t:TT):Prop :=
  ∀ (pins:List (Addr × Obj)) (s:Shared) (σ:St) (H:Hp) (Q:Bool->Hp->Prop),Inv X pins σ H s->t σ H Q ->
    wpAny (model X.prog X.w) X.A (forIn ifs true fun c r=>if r=true then do let ok ← isTrue c X.env (eval c X.env); pure (ForInStep.yield ok) else pure (ForInStep.yield r)) (TP X pins σ Q) X.xe s
def tYes:TT:=fun _ H Q=>Q true H
theorem pif_nil {X:Cx}:PIf X [] tYes:=fun _ _ _ H _ I h=>wpAny_tests_nil ⟨H,I,h⟩
theorem pif_one {X:Cx} {c:Expr} {t:TT} (h:PT X c t):PIf X [c] t:=fun pins s σ H Q I hw=>wpAny_tests_one (h pins s σ H Q I hw)
def tLC (fr:List (Str × Nat)) (wi:TI) (tc:TT) (te:TE):TE:=fun σ H Q=>wi σ H fun J H1=>∃ W:Nat->Nat->List V->Hp->Prop,(∃ m,W 0 m [] H1)∧∀ i m ys H2,W i m ys H2->ys.length < sizeLine ∧
  ((J.stop i H2∧∀ D,H2 D=none->Q (.ref D) (upd H2 D (.lst ys))) ∨
    (J.go i H2∧∀ v H3,J.yld i H2 v H3->tc (some v::compRest σ fr) H3 fun b H4 =>
      if b=true then te (some v::compRest σ fr) H4 fun y H5=>∃ m',m' < m∧W (i + 1) m' (ys++[y]) H5 else ∃ m',m' < m∧W (i + 1) m' ys H4))
section
variable {X:Cx}
theorem anyE {α:Type} {M:Model} {A:Around} {t:Sem α} {Q : α->Shared->Prop} {E:Value->Shared->Prop} {s:Shared} (h:wpAny M A t Q (fun _ _=>False) s):wpAny M A t Q E s:=wpAny_mono h (fun _ _ x=>x) fun _ _ x=>x.elim
theorem comp_loop {prog:Program} {w:World} {A:Around} {R:Result->Shared->Prop} {s:Shared} {elt target iter:Expr} {ifs:List Expr} {scope:Scope} {pos:Pos} {it acc:Value} {env:Env} (J:Nat->Shared->Prop)
    (turn:∀ n s,J n s->wpAny (model prog w) A (pyNext it) (fun r s₁=>match r with
      | none=>R (.ok .next) s₁
      | some v=>wpAny (model prog w) A (letOwnedTupleGo target it v) (fun _ s₂=>wpAny (model prog w) A (assign target env v) (fun _ s₃ =>
          wpAny (model prog w) A (forIn ifs true fun c r=>if r=true then do let ok ← isTrue c env (eval c env); pure (ForInStep.yield ok) else pure (ForInStep.yield r)) (fun ok s₄ =>
            if ok=true then wpAny (model prog w) A (eval elt env) (fun y s₅ =>
              wpAny (model prog w) A (call (.builtin "list.append") [acc,y]) (fun _ s₆=>∃ m,m < n∧J m s₆) (fun _ _=>False) s₅) (fun _ _=>False) s₄
            else ∃ m,m < n∧J m s₄) (fun _ _=>False) s₃) (fun _ _=>False) s₂) (fun _ _=>False) s₁) (fun _ _=>False) s)
    (n:Nat) (h:J n s):codeAny (model prog w) A (.compLoop (.ListComp elt [⟨target,iter,ifs,0⟩] scope pos) 0 it acc env) R s:=by
  refine codeAny_loop rfl J (fun k s' hJ=>?_) n h
  show wpAny (model prog w) A ((compTurn (.ListComp elt [⟨target,iter,ifs,0⟩] scope pos) 0 it acc env).onRaise (fun x=>do noteFrame x env; theTreesLotGoes x)) _ _ s'
  refine wpAny_noted ?_
  rw [compTurn_list]
  refine wpAny_bind (wpAny_standAt (wpAny_bind (wpAny_mono (turn k s' hJ) (fun r s₁ h₁=>?_) fun _ _ z=>z.elim)))
  cases r with
  | none=>exact wpAny_pure h₁
  | some v =>
    refine wpAny_bind (wpAny_mono h₁ (fun _ s₂ h₂=>wpAny_bind (wpAny_mono h₂ (fun _ s₃ h₃=>wpAny_bind (wpAny_mono h₃ (fun ok s₄ h₄=>?_) fun _ _ z=>z.elim)) fun _ _ z=>z.elim)) fun _ _ z=>z.elim)
    cases ok with
    | false=>exact wpAny_pure ⟨rfl,h₄⟩
    | true =>
      exact wpAny_bind (wpAny_bind (wpAny_mono h₄ (fun y s₅ h₅=>wpAny_bind (wpAny_mono h₅ (fun _ s₆ h₆=>wpAny_pure (wpAny_pure ⟨rfl,h₆⟩)) fun _ _ z=>z.elim)) fun _ _ z=>z.elim))
theorem pe_lc {elt iter:Expr} {x:Str} {px:Pos} {ifs:List Expr} {scope:Scope} {pos:Pos} {fr:List (Str × Nat)} {wi:TI} {tc:TT} {te:TE} (hc:X.calm=true) (B:Blk X scope x fr)
    (hi:PI X (.Name x px) iter wi) (ht:∀ s₂ H₂ C fp,PIf (cxComp X scope (compNs x fr) s₂ H₂ C fp) ifs tc) (he:∀ s₂ H₂ C fp,PE (cxComp X scope (compNs x fr) s₂ H₂ C fp) elt te)
    (hs:∀ v,foldedSetIterable iter X.env v=pure v:=by intro _; rfl):PE X (.ListComp elt [⟨.Name x px,iter,ifs,0⟩] scope pos) (tLC fr wi tc te):=by
  intro pins s σ H Q I h
  rw [eval_ListComp]
  have hclos:=clo_eq (scope:=scope) (env:=X.env) (B.clos I.ok)
  refine wpAny_comprehension_free (use:=none) rfl hs hclos B.kind B.loc (thn (hi pins s σ H _ I h) fun v s1 h1=>thn h1 fun itv s2 h2=>?_)
  obtain ⟨it,fp,tn,J,H2,rfl,I2,T,st2,f2,W,⟨m0,w0⟩,turn⟩:=h2
  refine wpAny_newObj_type (wpAny_newFunctionEnv B.cell (by intro y hy; simp at hy) (fun h₁ hns hsb=>?_) B.kind)
  dsimp only at hns hsb ⊢
  generalize hG:s2.heap.push { cls:=.type "list",dict:=none,data:=.seq ([]:List Value).toArray }=G at hns hsb ⊢
  have hC:G.objs.size=s2.heap.objs.size + 1:=by rw [← hG,Heap.size_push]
  have hDC:s2.heap.objs.size≠G.objs.size:=by omega
  have old:∀ b ob,s2.heap.get? b=some ob->h₁.get? b=some ob:=fun b ob e=>by
    have hb:=Heap.lt_size e
    refine hsb.extBut b ob (Nat.ne_of_lt (by rw [hC]; exact Nat.lt_succ_of_lt hb)) (Heap.get?_push_of_some _ ?_)
    rw [← hG]
    exact Heap.get?_push_of_some _ e
  have hacc:h₁.get? s2.heap.objs.size=some { cls:=.type "list",data:=.seq ([]:List Value).toArray 0 }:=by
    refine hsb.extBut _ _ hDC (Heap.get?_push_of_some _ ?_)
    rw [← hG]
    exact Heap.get?_push_size _ rfl
  have hlt:∀ b∈fp,b < s2.heap.objs.size:=fun b hb=>by
    obtain ⟨o,e,_⟩:=T.obj 0 _ st2 b hb
    exact Heap.lt_size e
  have I4:=inv_comp (tk:=s2.toks + ([]:List (Str × Value)).length) (o:=none) I2 B (show s2.heap.objs.size≤G.objs.size by omega) f2 hlt old hns
  have tn4:tn 0 h₁:=T.keep 0 _ _ st2 fun b _ o e=>old b o e
  have Dfs:s2.heap.objs.size ∉ frs X.stack:=fun z=>by
    obtain ⟨_,o,ho,_⟩:=I2.stack.mem z
    exact absurd (Heap.lt_size ho) (Nat.lt_irrefl _)
  have Dcl:∀ y c,X.env.cells.lookup y=some c->c≠s2.heap.objs.size:=fun y c e=>by
    obtain ⟨v,o,ho,_⟩:=I2.cell y c e
    exact Nat.ne_of_lt (Heap.lt_size ho)
  have DL:s2.heap.objs.size≠X.env.locals:=Nat.ne_of_gt I2.lt
  have Dfp:s2.heap.objs.size ∉ fp:=fun z=>absurd (hlt _ z) (Nat.lt_irrefl _)
  have loop:∀ s₃:Shared,s₃={ s2 with heap:=h₁,toks:=s2.toks + ([]:List (Str × Value)).length } ->
      codeAny (model X.prog X.w) X.A (.compLoop (.ListComp elt [⟨.Name x px,iter,ifs,0⟩] scope pos) 0 (.ref it) (.ref s2.heap.objs.size) (compEnvC scope (cloOf X.env.cells scope.names []) G.objs.size X.env))
        (compPost (model X.prog X.w) X.A X.xe none (EP X pins σ Q) (.ref s2.heap.objs.size) G.objs.size) s₃:=by
    rintro s₃ rfl
    refine comp_loop
      (fun n s'=>∃ i o H' ys its k,Inv (cxComp X scope (compNs x fr) s2 H2 G.objs.size fp) [] (o::compRest σ fr) H' s'∧tn i s'.heap∧(∀ b∈fp,H' b=none)∧H' s2.heap.objs.size=none ∧
        s'.heap.get? s2.heap.objs.size=some { cls:=.type "list",data:=.seq (its:List Value).toArray k }∧Vals ys its∧W i n ys H') ?_ m0
      ⟨0,none,H2,[],[],0,I4,tn4,fun b hb=>(f2 b hb).1,I2.hok.fresh (Nat.le_refl _),hacc,.nil,w0⟩
    rintro n s5 ⟨i,o,H5,ys,its,k,I5,st5,fr5,D5,hD5,r5,w5⟩
    have fok:∀ {H':Hp},(∀ b∈fp,H' b=none)->∀ b∈fp,FpOk (cxComp X scope (compNs x fr) s2 H2 G.objs.size fp) [] H' b:=fun hn b hb =>
      ⟨hn b hb,(I5.ok.exf b hb).1,I5.ok.exfs b hb,.inl hb,(I5.ok.exf b hb).2,fun p hp=>absurd (show p∈([]:List (Addr × Obj)) from hp) (by simp)⟩
    have dok:∀ {H':Hp},H' s2.heap.objs.size=none->FpOk (cxComp X scope (compNs x fr) s2 H2 G.objs.size fp) [] H' s2.heap.objs.size:=fun hn =>
      ⟨hn,hDC,Dfs,.inr (Nat.le_refl _),fun y c e=>Dcl y c (B.sub I2.ok _ _ e),fun p hp=>absurd (show p∈([]:List (Addr × Obj)) from hp) (by simp)⟩
    obtain ⟨hz,alt⟩:=turn i n ys H5 w5
    have hzl:its.length≤sizeLine:=by rw [← r5.length]; exact Nat.le_of_lt hz
    rcases alt with ⟨stop,fin⟩ | ⟨go,step⟩
    . refine thn (T.done (cxComp X scope (compNs x fr) s2 H2 G.objs.size fp) rfl rfl rfl hc i (pinsAt [s2.heap.objs.size] s5.heap) s5 (o::compRest σ fr) H5 _ ?_ (fun b hb=>?_) st5 stop) fun r s6 ⟨hr,I6⟩=>?_
      . exact (Inv.pinned I5 (fp:=[s2.heap.objs.size]) (fun b hb=>by rw [List.mem_singleton.mp hb]; exact dok D5) fun b hb=>by
          rw [List.mem_singleton.mp hb]
          exact ⟨_,hD5,fun v z=>by cases z⟩)
      . obtain ⟨f0,f1,f2',f3,f4,f5⟩:=fok fr5 b hb
        refine ⟨f0,f1,f2',f3,f4,fun p hp=>?_⟩
        have hp':p∈pinsAt [s2.heap.objs.size] s5.heap:=(List.mem_append.mp hp).elim (fun z=>absurd (show p∈([]:List (Addr × Obj)) from z) (by simp)) id
        have:=(of_pinsAt hp').1
        rw [List.mem_singleton.mp this]
        exact fun e=>Dfp (by rw [e]; exact hb)
      . subst hr
        have hD6:=(I6.pin (s2.heap.objs.size,{ cls:=.type "list",data:=.seq its.toArray k }) (List.mem_append_right _ (mem_pinsAt (by simp) hD5))).1
        obtain ⟨m6,hn6,_⟩:=I6.loc
        refine ⟨m6,hn6,fun h' hs'=>?_⟩
        have hCn:s2.heap.get? G.objs.size=none:=by
          cases e:s2.heap.get? G.objs.size with
          | none=>rfl
          | some ob=>exact absurd (Heap.lt_size e) (by rw [hC]; exact Nat.not_lt.mpr (Nat.le_succ _))
        have neC:∀ b ob,s2.heap.get? b=some ob->b≠G.objs.size:=fun b ob e z=>by rw [z,hCn] at e; cases e
        have u6:Un (frs X.stack) fp H2 H5 s2.heap s6.heap:=I6.base
        have u7:Un (frs X.stack) fp H2 H5 s2.heap h':=⟨fun b ob e n hb hx=>hs'.extBut b ob (neC b ob e) (u6.keep b ob e n hb hx),fun b ob e n hb hx=>by
            obtain ⟨sl,q⟩:=u6.slot b ob e n hb hx
            exact ⟨sl,hs'.extBut b _ (neC b ob e) q⟩,u6.free,fun b ob e hx=>by
            obtain ⟨o',q⟩:=u6.there b ob e hx
            exact ⟨o',hs'.extBut b _ (neC b ob e) q⟩,u6.tups,u6.frzs,u6.tbls⟩
        have hC5:H5 G.objs.size=none:=I6.free
        have hok7:HOk X.prog X.w H5 h':=fun b ob e=>(I6.hok b ob e).stay (fun c u hc q=>hs'.extBut c u (by
            rintro rfl
            rcases hc with rfl | hc
            . rw [hC5] at e; cases e
            . rw [hC5] at hc; cases hc) q) (fun _ q=>q) fun _ _ q=>q
        have I7:Inv X pins σ H5 { s6 with heap:=h' }:=I2.call' (s':={ s6 with heap:=h' }) (I6.os) u7 hok7 I6.bare fun b hb=>⟨(f2 b hb).2.2.2.1,(f2 b hb).2.1,(f2 b hb).2.2.2.2.1,(f2 b hb).2.2.2.2.2⟩
        refine ⟨.ref s2.heap.objs.size,upd H5 s2.heap.objs.size (.lst ys),I7.track D5 I2.sz DL Dcl (fun p hp z=>?_) ?_,rfl,fin _ D5⟩
        . obtain ⟨e,_⟩:=I2.pin p hp
          rw [z] at e
          exact absurd (Heap.lt_size e) (Nat.lt_irrefl _)
        . exact ⟨Nat.le_of_lt hz,its,k,r5,hs'.extBut _ _ hDC hD6⟩
    . refine anyE (thn (T.item (cxComp X scope (compNs x fr) s2 H2 G.objs.size fp) rfl rfl rfl hc i (pinsAt [s2.heap.objs.size] s5.heap) s5 (o::compRest σ fr) H5 _ ?_ (fun b hb=>?_) st5 go) fun r s6 ⟨u,hr,h6⟩=>?_)
      . exact (Inv.pinned I5 (fp:=[s2.heap.objs.size]) (fun b hb=>by rw [List.mem_singleton.mp hb]; exact dok D5) fun b hb=>by
          rw [List.mem_singleton.mp hb]
          exact ⟨_,hD5,fun v z=>by cases z⟩)
      . obtain ⟨f0,f1,f2',f3,f4,f5⟩:=fok fr5 b hb
        refine ⟨f0,f1,f2',f3,f4,fun p hp=>?_⟩
        have hp':p∈pinsAt [s2.heap.objs.size] s5.heap:=(List.mem_append.mp hp).elim (fun z=>absurd (show p∈([]:List (Addr × Obj)) from z) (by simp)) id
        have:=(of_pinsAt hp').1
        rw [List.mem_singleton.mp this]
        exact fun e=>Dfp (by rw [e]; exact hb)
      . subst hr
        refine thn h6 fun _ s7 ⟨v,H7,I7,rv,y7,st7,fr7⟩=>?_
        have p7:=I7.pin (s2.heap.objs.size,{ cls:=.type "list",data:=.seq its.toArray k }) (List.mem_append_right _ (mem_pinsAt (by simp) hD5))
        have hD7:s7.heap.get? s2.heap.objs.size=some { cls:=.type "list",data:=.seq its.toArray k }:=p7.1
        have D7:H7 s2.heap.objs.size=none:=p7.2.1
        have I7u:Inv (cxComp X scope (compNs x fr) s2 H2 G.objs.size fp) [] (o::compRest σ fr) H7 s7:=Inv.unpinned (pins:=[]) I7
        have I8:=Inv.pinned I7u (fp:=s2.heap.objs.size::fp) (fun b hb=>by
            rcases List.mem_cons.mp hb with e | hb
            . rw [e]; exact dok D7
            . exact fok fr7 b hb) fun b hb=>by
            rcases List.mem_cons.mp hb with e | hb
            . rw [e]; exact ⟨_,hD7,fun v z=>by cases z⟩
            . exact T.obj _ _ st7 b hb
        have hl : Loc (cxComp X scope (compNs x fr) s2 H2 G.objs.size fp).env.scope x := .inl (lookup_relabel_local B.here)
        have pk:∀ {σ':St} {H':Hp} {s':Shared},Inv (cxComp X scope (compNs x fr) s2 H2 G.objs.size fp) ([]++pinsAt (s2.heap.objs.size::fp) s7.heap) σ' H' s' ->
            tn (i + 1) s'.heap∧(∀ b∈fp,H' b=none)∧H' s2.heap.objs.size=none∧s'.heap.get? s2.heap.objs.size=some { cls:=.type "list",data:=.seq its.toArray k }:=fun {σ' H' s'} I'=>by
          have pD:=I'.pin (s2.heap.objs.size,{ cls:=.type "list",data:=.seq its.toArray k }) (List.mem_append_right _ (List.mem_append_right _ (mem_pinsAt (by simp) hD7)))
          refine ⟨T.keep _ _ _ st7 fun b hb ob e=>(I'.pin (b,ob) (List.mem_append_right _ (List.mem_append_right _ (mem_pinsAt (List.mem_cons_of_mem _ hb) e)))).1,fun b hb=>?_,pD.2.1,pD.1⟩
          obtain ⟨ob,e,_⟩:=T.obj _ _ st7 b hb
          exact (I'.pin (b,ob) (List.mem_append_right _ (List.mem_append_right _ (mem_pinsAt (List.mem_cons_of_mem _ hb) e)))).2.1
        refine anyE (thn (pg_name (X := cxComp X scope (compNs x fr) s2 H2 G.objs.size fp) (i := 0) B.nd rfl hl (.inr (lookup_relabel_local B.here)) _ s7 _ H7 v u (fun σ' H' => σ' = some v :: compRest σ fr ∧ H' = H7) I8 rv ⟨rfl, rfl⟩) fun _ s8 ⟨σ8, H8, I9, e1, e2⟩ => ?_)
        subst e1 e2
        refine anyE (thn (ht s2 H2 G.objs.size fp _ s8 _ H8 _ I9 (step v H8 y7)) fun ok s9 ⟨H9,I10,q10⟩=>?_)
        cases ok with
        | false =>
          rw [if_neg Bool.false_ne_true] at q10
          rw [if_neg Bool.false_ne_true]
          obtain ⟨m',hm,w'⟩:=q10
          obtain ⟨k1,k2,k3,k4⟩:=pk I10
          exact ⟨m',hm,i + 1,some v,H9,ys,its,k,Inv.unpinned (pins:=[]) I10,k1,k2,k3,k4,r5,w'⟩
        | true =>
          rw [if_pos rfl] at q10
          rw [if_pos rfl]
          refine anyE (thn (he s2 H2 G.objs.size fp _ s9 _ H9 _ I10 q10) fun y' s10 ⟨y,H10,I11,ry,m',hm,w'⟩=>?_)
          obtain ⟨k1,k2,k3,k4⟩:=pk I11
          refine append_at k4 (fun h' hs' hD'=>?_) (by rw [List.size_toArray]; exact hzl)
          have I12:Inv (cxComp X scope (compNs x fr) s2 H2 G.objs.size fp) [] (some v::compRest σ fr) H10 { s10 with heap:=h' } :=
            (Inv.unpinned (pins:=[]) I11).turned (t':=s10.toks) (it:=s2.heap.objs.size) (fun b ob hb e=>(hs'.2 b hb).trans e) k3 hDC (.inr (Nat.le_refl _)) (fun z c e=>Dcl z c (B.sub I2.ok _ _ e)) fun p hp=>absurd (show p∈([]:List (Addr × Obj)) from hp) (by simp)
          refine ⟨m',hm,i + 1,some v,H10,ys++[y],its++[y'],k + 1,I12,T.keep _ _ _ k1 fun b hb ob e=>(hs'.2 b fun z=>Dfp (by rw [← z]; exact hb)).trans e,k2,k3,?_,r5.append (.cons ry .nil),w'⟩
          rw [hD']
          simp
  exact codeAny_compStart_list (loop _ rfl) (T.self _ 0 _ _ _ tn4 (loop _ rfl))
end
end L2
set_option Elab.async false
set_option linter.all false
set_option maxRecDepth 100000
namespace L2
open PySem PySem.Spec PyProof.Rows
def tyN (H:Hp):V->String
  | .non=>"NoneType"
  | .bl _=>"bool"
  | .int _=>"int"
  | .str _=>"str"
  | .ref a=>match H a with
    | some (.lst _)=>"list"
    | some (.tup _)=>"tuple"
    | some (.dK _)=>"dict"
    | some (.frz _ (.lst _))=>"list"
    | _=>"?"
  | _=>"?"
def tyIs (T n:String):Bool:=T == n || (T == "bool" && n == "int")
def tyKnown:List String:=["NoneType","bool","int","str","list","tuple","dict"]
def tyAsked:List String:=["bool","int","str","list","tuple","dict"]
theorem kit_known (K:PySem.W.Frag):∀ T∈tyKnown,∀ n∈tyAsked,PySem.W.kitOne K (.type T) (.type n)=some (tyIs T n):=by
  intro T hT n hn
  simp only [tyKnown,tyAsked,List.mem_cons,List.not_mem_nil,or_false] at hT hn
  rcases hT with rfl | rfl | rfl | rfl | rfl | rfl | rfl <;> rcases hn with rfl | rfl | rfl | rfl | rfl | rfl <;> kernel_rfl
theorem tyN_of {K:PySem.W.Frag} {H:Hp} {x:V} (h:tyN H x∈tyKnown):TyOf K H x (.type (tyN H x)):=by
  have no : ¬ ("?"∈tyKnown):=by decide
  cases x with
  | non=>exact .non
  | bl b=>exact .bl b
  | int i=>exact .int i
  | str z=>exact .str z
  | ref a =>
    unfold tyN at h ⊢
    dsimp only at h ⊢
    cases e:H a with
    | none=>rw [e] at h; exact absurd h no
    | some o =>
      rw [e] at h
      cases o with
      | lst xs=>exact .lst e
      | tup xs=>exact .tup e
      | dK kvs=>exact .dK e
      | frz ob u =>
        cases u with
        | lst xs=>exact .frz e
        | _=>exact absurd h no
      | _=>exact absurd h no
  | _=>exact absurd h no
def rIsi (xs:List V) (H:Hp) (Q:VK):Prop:=∃ x n,xs=[x,.ty n]∧tyN H x∈tyKnown∧n∈tyAsked∧Q (.bl (tyIs (tyN H x) n)) H
section
variable {X:Cx}
theorem call_isi:CallR X (.builtin "isinstance") rIsi:=by
  intro pins s σ H xs us Q I r h
  obtain ⟨x,n,rfl,h1,h2,q⟩:=h
  obtain ⟨u,v,rfl,ru,rv⟩:=vals2 r
  cases rv
  exact isinst_ok I ru (tyN_of h1) (kit_known X.K _ h1 _ h2) fun tk=>⟨.bl _,H,I.tok tk,rfl,q⟩
end
end L2
set_option Elab.async false
set_option linter.all false
set_option maxRecDepth 100000
namespace L2
open PySem PySem.Spec PyProof.Rows
section
variable {X:Cx}
theorem boolsAre_of {bs:List Bool}:∀ {us:List Value},Vals (bs.map V.bl) us->LSm.BoolsAre us bs:=by
  induction bs with
  | nil=>intro us r; rw [List.map_nil] at r; cases r; exact .nil
  | cons b bs ih =>
    intro us r
    rw [List.map_cons] at r
    cases r with
    | cons r1 r2 =>
      cases r1
      exact .cons b (ih r2)
def rAll (K:PySem.W.Frag) (xs:List V) (H:Hp) (Q:VK):Prop:=∃ (p:Addr) (bs:List Bool),xs=[.ref p]∧SqL K H p (bs.map V.bl)∧Q (.bl (bs.all id)) H
theorem call_all (hc:X.calm=true):CallR X (.builtin "all") (rAll X.K):=by
  intro pins s σ H xs us Q I r h
  obtain ⟨p,bs,rfl,hq,q⟩:=h
  obtain ⟨u,rfl,rx⟩:=vals1 r
  cases rx
  obtain ⟨its,r',pl,hz⟩:=I.list hq
  have hb:=boolsAre_of r'
  have hl:=pl.isList
  have hlt:p < s.heap.objs.size:=by obtain ⟨_,e,_⟩:=hl; exact Heap.lt_size e
  refine call_all_walk (wpAny_pyIter_list hl ?_)
  refine ⟨s.heap.objs.size,[s.heap.objs.size,p],[s.heap.objs.size],its.toArray.size,_,_,fun i=>(bs[i]?).getD true,rfl,Walks.list (A:=X.A.in1) (I.ok.hd hc) _ p (Nat.ne_of_lt hlt) its.toArray,
    ⟨⟨_,Heap.get?_push_size _ rfl,rfl,rfl⟩,hl.push _⟩,fun i v s' Q' E' hP hQ=>?_,fun h' tk hk=>?_⟩
  . obtain ⟨b,e,rfl⟩:=hb.get i v (by simpa using hP)
    simp only [e,Option.getD_some] at hQ
    exact wpAny_truthy_bool hQ
  . have e:((List.range its.toArray.size).all fun i=>(bs[i]?).getD true)=bs.all id:=by
      rw [List.size_toArray,hb.length]; exact LSm.range_all bs
    rw [e]
    exact ⟨.bl (bs.all id),H,I.kept (t':=tk) (LSm.kept_iter hk),rfl,q⟩
mutual
inductive DataV (K:PySem.W.Frag) (H:Hp):V->PyData->Prop
  | non:DataV K H .non .none
  | bl (b:Bool):DataV K H (.bl b) (.bool b)
  | int (i:Int):DataV K H (.int i) (.int i)
  | str (x:Str):DataV K H (.str x) (.str x)
  | lst {a:Addr} {xs:List V} {ds:List PyData}:SqL K H a xs->DataVs K H xs ds->DataV K H (.ref a) (.list ds)
  | tup {a:Addr} {xs:List V} {ds:List PyData}:SqT K H a xs->DataVs K H xs ds->DataV K H (.ref a) (.tuple ds)
inductive DataVs (K:PySem.W.Frag) (H:Hp):List V->List PyData->Prop
  | nil:DataVs K H [] []
  | cons {x:V} {xs:List V} {d:PyData} {ds:List PyData}:DataV K H x d->DataVs K H xs ds->DataVs K H (x::xs) (d::ds)
end
mutual
theorem DataV.reads {pins:List (Addr × Obj)} {s:Shared} {σ:St} {H:Hp} (I:Inv X pins σ H s):∀ {x:V} {d:PyData},DataV X.K H x d->∀ {u:Value},RelV x u->∃ as,Reads s.heap u d as
  | _,_,.non,_,r=>by cases r; exact ⟨_,.none⟩
  | _,_,.bl b,_,r=>by cases r; exact ⟨_,.bool b⟩
  | _,_,.int i,_,r=>by obtain ⟨t,rfl⟩:=r; exact ⟨_,.int i t⟩
  | _,_,.str z,_,r=>by obtain ⟨t,rfl⟩:=r; exact ⟨_,.str z t⟩
  | _,_,.lst hq hd,_,r=>by
    cases r
    obtain ⟨its,rv,pl,_⟩:=I.list hq
    obtain ⟨as,ha⟩:=DataVs.reads I hd rv
    obtain ⟨o,n,e,c,_,d⟩:=pl
    exact ⟨_,.list e c d ha⟩
  | _,_,.tup hq hd,_,r=>by
    cases r
    obtain ⟨its,rv,pl,_⟩:=I.tuple hq
    obtain ⟨as,ha⟩:=DataVs.reads I hd rv
    obtain ⟨o,e,c,n,d⟩:=pl
    exact ⟨_,.tuple e c d ha⟩
theorem DataVs.reads {pins:List (Addr × Obj)} {s:Shared} {σ:St} {H:Hp} (I:Inv X pins σ H s):∀ {xs:List V} {ds:List PyData},DataVs X.K H xs ds->∀ {us:List Value},Vals xs us->∃ as,ReadsAll s.heap us ds as
  | _,_,.nil,_,r=>by cases r; exact ⟨_,.nil⟩
  | _,_,.cons h t,_,r=>by
    cases r with
    | cons r1 r2 =>
      obtain ⟨as,ha⟩:=DataV.reads I h r1
      obtain ⟨bs,hb⟩:=DataVs.reads I t r2
      exact ⟨_,.cons ha hb⟩
end
def rEqD (K:PySem.W.Frag):R2:=fun x y H Q=>∃ da db,DataV K H x da∧DataV K H y db∧SeqAt.shaped da=true∧SeqAt.shaped db=true∧Q (.bl (PyData.eqv da db)) H
def rNeD (K:PySem.W.Frag):R2:=fun x y H Q=>∃ da db,DataV K H x da∧DataV K H y db∧SeqAt.shaped da=true∧SeqAt.shaped db=true∧Q (.bl (!PyData.eqv da db)) H
theorem op_eqD (hu:X.A.units + 64 < cLine):OpR X (compareOp .Eq) (rEqD X.K):=by
  intro pins s σ H x y v u Q I rx ry h
  obtain ⟨da,db,ha,hb,sa,sb,q⟩:=h
  obtain ⟨as,ra⟩:=ha.reads I rx
  obtain ⟨bs,rb⟩:=hb.reads I ry
  exact eq_dataH ra rb sa sb hu ⟨.bl _,H,I,rfl,q⟩
theorem op_neD (hu:X.A.units + 64 < cLine):OpR X (compareOp .NotEq) (rNeD X.K):=by
  intro pins s σ H x y v u Q I rx ry h
  obtain ⟨da,db,ha,hb,sa,sb,q⟩:=h
  obtain ⟨as,ra⟩:=ha.reads I rx
  obtain ⟨bs,rb⟩:=hb.reads I ry
  exact ne_dataH ra rb sa sb hu ⟨.bl _,H,I,rfl,q⟩
def rLen (K:PySem.W.Frag) (xs:List V) (H:Hp) (Q:VK):Prop:=(∃ p ys,xs=[.ref p]∧(SqL K H p ys∨SqT K H p ys)∧Q (.int ys.length) H)∨(∃ z,xs=[.str z]∧z.length≤sizeLine∧Q (.int z.length) H)
theorem call_lenU:CallR X (.builtin "len") (rLen X.K):=call_len_seq.or call_len_str
end
end L2
set_option Elab.async false
set_option linter.all false
set_option maxRecDepth 100000
namespace L2
open PySem PySem.Spec PyProof.Rows
section
variable {σ:St} {H:Hp} {Q:VK} {D:Ends}
variable {K:PySem.W.Frag}
end
structure Top (K:PySem.W.Frag) (mg:Str->Option Value) (x:Str) (st:Stmt):Prop where
  ex:∃ (f:Addr) (fd:FuncData),Fun K x x st f fd∧mg x=some (.ref f)
structure Def (P:Program) (w:World) (K:PySem.W.Frag) (mg:Str->Option Value) (base:Heap) (CX:CXT) (k:Nat) (x:Str) (ps:List Str) (sp:Sp):Prop where
  ex:∃ (f:Addr) (fd:FuncData),FnOk P w K mg base CX k f fd ps sp∧mg x=some (.ref f)∧PySem.W.keepIn K (.ref f)=true∧Binds K fd ps []
section
variable {P:Program} {w:World} {K:PySem.W.Frag} {mg:Str->Option Value} {base:Heap}
theorem Top.mk' {x:Str} {st:Stmt} {h:Heap} {f:Addr} {oc:Value} {od an:Option Addr} {osl:Array (Option Value)} {kV doc pm cdv ct:Value} (X:K.In h) (G:h.Ns mainGlobals mg) (a:PySem.W.nsIn K mainGlobals x=some (some (.ref f)))
    (l:K.lookup f=some ⟨oc,od,.func (PySem.W.fnOf x x (defArgs st) (defBody st) (defScope st) .none kV doc pm an cdv ct),osl⟩) (c:PySem.W.codeIn K cdv x=true) (k:PySem.W.keepIn K (.ref f)=true):Top K mg x st :=
  ⟨⟨f,_,fun_mk l c k,PySem.W.mg_of X G a⟩⟩
theorem Top.def {x:Str} {st:Stmt} {N ps:List Str} {k:Nat} {sp:Sp} (T:Top K mg x st) (S:FnScope N ps (defScope st)) (len:∀ vs H Q E,sp vs H Q E->vs.length=ps.length)
    (hb:∀ (kV doc pm:Value) (an:Option Addr) (cdv ct:Value) (us:List Value),us.length=ps.length->bindArgs (PySem.W.fnOf x x (defArgs st) (defBody st) (defScope st) .none kV doc pm an cdv ct) ⟨us,[]⟩=pure (ps.zip us))
    (hbody:∀ (f:Addr) (cdv:Value) (A:Around) (outer:List Env) (s:Shared) (H:Hp) (vs:List V) (Q:VK) (E:XK),Room k (A.deeper (envOfC x (defScope st) s.heap.objs.size f cdv))->sp vs H Q E ->
      ∃ t,PSs (cxOf CX0 P w K mg base N x (defScope st) f cdv A outer s H E).nox (defBody st) t∧t { nx:=fun _ H'=>Q .non H',rt:=Q } (start N vs) H):Def P w K mg base CX0 (k + 1) x ps sp:=by
  obtain ⟨f,fd,F,m⟩:=T.ex
  exact ⟨⟨f,fd,F.ok S len (hbody f),m,F.kp,F.binds hb⟩⟩
theorem pe_def {X:Cx} {k:Nat} {x:Str} {ps:List Str} {sp:Sp} {p pos:Pos} {e:Expr} {es:List Expr} {t:TA} (D:Def X.prog X.w X.K X.mg X.base CX0 k x ps sp) (hr:Room k X.A) (ha:PA X (e::es) t) (hg:Gl X x:=by rfl)
    (hdb:(x == ("__debug__":Str))=false:=by decide) (he:starEach (e::es) X.env=(false,eval e X.env)::starEach es X.env:=by rfl) (hpl:(backTo pos (starEach es X.env)).any (·.1)=false:=by rfl) :
    PE X (.Call (.Name x p) (e::es) [] pos) (tCall sp [] E0 t):=by
  obtain ⟨f,fd,F,m,kp,b⟩:=D.ex
  exact pe_call F hr hg m kp b .nil pass0 ha hdb he hpl
end
open PySem.W in
theorem bits_weight:∀ (ns:List Int) (n:Int),n∈ns->Builtin.Int.intBits n≤WData.weightAll (ns.map WData.int)
  | m::r,n,h=>by
    rw [List.map_cons]
    have e:WData.weightAll (WData.int m::r.map WData.int)=WData.weight (.int m) + 1 + WData.weightAll (r.map WData.int):=by simp only [WData.weightAll]
    rw [e]
    rcases List.mem_cons.mp h with rfl | h
    . have:Builtin.Int.intBits n=WData.weight (.int n):=by simp only [WData.weight,Builtin.Int.intBits]
      omega
    . have:=bits_weight r n h
      omega
open PySem.W in
theorem bits_script {ns:List Int} (h:WData.layableAll [WData.list (ns.map WData.int)]=true):∀ n∈ns,Builtin.Int.intBits n≤1048576:=fun n hn=>by
  have h1:(WData.list (ns.map WData.int)).layable=true:=PySem.W.layableW_arg h _ (by simp)
  have h2:=(PySem.W.layableW_iff.mp h1).2.2
  have h3:WData.weight (.list (ns.map WData.int))=WData.weightAll (ns.map WData.int):=by simp only [WData.weight]
  have h4:=bits_weight ns n hn
  have h5:(2:Nat) ^ 20=1048576:=by decide
  omega
open PySem.W PySem.Calls in
theorem attachB {l:OpenLaw} {n:Nat} {q:Program} {loose:List Str} {XP:(Str->Option Value)->Heap->Prop} {YP:World->Heap->Prop} {d:DefRec}
    (hn:l.most=some n) (hdf:d.params.defaults=[])
    (call:∀ (w:World) (s₀ s₁:Shared) (mg mb:Str->Option Value) (fa a:Addr) (vs:List Value) (ns:List Int),
      Ground q loose [] XP w s₀ mg mb s₁.heap->YP w s₁.heap->mg d.name=some (.ref fa) ->
      s₁.heap.get? a=some { cls:=.type "list",data:=.seq vs.toArray }->IntsAre vs ns->ns.length≤n->(∀ k∈ns,Builtin.Int.intBits k≤1048576)->s₁.gens=#[] ->
      codeAny (model l.prog w) callerA (.call (.ref fa) ⟨[.ref a],[]⟩) (fun r s'=>r=.ok (.ret (.bool true))∧OldK s₁.heap s'.heap∧s'.os=s₁.os∧AllBare s'.gens) s₁) :
    WalkO q loose XP YP l.row.toRowW d [] (fun f vs=>PySem.call f vs):=by
  intro w s₀ s₁ mg mb G Y fa o pm cd doc dV kV ho hd hcd hD hmg hg args vals as' hpre hlay hrd hwl hlo
  obtain rfl:dV=.none:=Dflts.none hD hdf
  obtain ⟨a,vs,ns,rfl,rfl,hobj,hints,hlen⟩:=Att.script_of hn hpre hwl
  refine enter_call (codeAny_mono (call w s₀ s₁ mg mb fa a vs ns G Y hmg hobj hints hlen (bits_script hlay) hg) fun r s' hq=>?_)
  obtain ⟨rfl,h2,h3,h4⟩:=hq
  exact ⟨.inl ⟨.bool true,.bool true,[],rfl,fun _=>rfl,.bool true,Att.post_true l _,fun _=>⟨List.Pairwise.nil,fun _ hm=>(nomatch hm)⟩⟩,h2,h3,h4⟩
def spLaw (K:PySem.W.Frag):Sp:=fun vs H Q _=>∃ (a:Addr) (ns:List Int),vs=[.ref a]∧SqL K H a (ns.map V.int)∧ns.length≤63∧(∀ k∈ns,Builtin.Int.intBits k≤1048576)∧∀ H',Q (.bl true) H'
theorem walk_law {l:PySem.W.OpenLaw} {k:Nat} {q:Program} {loose:List Str} {XP:(Str->Option Value)->Heap->Prop} {YP:World->Heap->Prop} {d:DefRec} {K:Params->PySem.W.Frag} {x:Str} {st:Stmt}
    (hn:l.most=some 63) (hdf:d.params.defaults=[]) (hr:Room k callerA) (hY:∀ (w:World) (h:Heap),YP w h->(K w.params).In h)
    (hb:∀ (kV doc pm:Value) (an:Option Addr) (cdv ct u:Value),bindArgs (PySem.W.fnOf d.name d.name (defArgs st) (defBody st) (defScope st) .none kV doc pm an cdv ct) ⟨[u],[]⟩=pure [(x,u)])
    (F:∀ (w:World) (mg:Str->Option Value) (h:Heap),(K w.params).In h->h.Ns mainGlobals mg->Top (K w.params) mg d.name st ∧
      ∀ (f:Addr) (fd:FuncData),Fun (K w.params) d.name d.name st f fd->∀ base:Heap,(K w.params).In base->base.Ns mainGlobals mg->FnOk l.prog w (K w.params) mg base CX0 k f fd [x] (spLaw (K w.params))) :
    PySem.W.WalkO q loose XP YP l.row.toRowW d [] (fun f vs=>PySem.call f vs):=by
  refine attachB hn hdf fun w s₀ s₁ mg mb fa a vs ns G Y hmg hobj hints hlen hbits hg=>?_
  have KX:=hY w _ Y
  obtain ⟨T,FF⟩:=F w mg _ KX G.T.g
  obtain ⟨f,fd,Ff,m⟩:=T.ex
  have e:=m.symm.trans hmg
  cases e
  have hbd:∀ (s:Shared) (u:Value),BindsTo s fd ⟨[u],[]⟩ [(x,u)]:=by
    obtain ⟨oc,od,kV,doc,pm,an,cdv,ct,osl,rfl,lk,hcd⟩:=Ff.ex
    exact fun s u=>.of_eq (hb kV doc pm an cdv ct u)
  exact law_call KX G.T.g G.T.b G.T.builtins G.T.nolimit hg hobj hints (Nat.le_trans hlen (by decide)) hr (FF _ fd Ff) hbd (fun H hO hS=>⟨a,ns,rfl,hS,hlen,hbits,fun _=>rfl⟩) fun H e s' h=>h
end L2
set_option Elab.async false
set_option linter.all false
set_option maxRecDepth 100000
namespace L2
open PySem PySem.Spec PyProof.Rows
section
variable {σ:St} {H:Hp} {Q:VK} {K:PySem.W.Frag} {fr:List (Str × Nat)}
instance:Inhabited V:=⟨.non⟩
end
section
variable {σ:St} {H:Hp} {Q:VK} {K:PySem.W.Frag} {i j:Int}
end
section
variable {σ:St} {H:Hp} {K:PySem.W.Frag}
end
theorem same_upd {H:Hp} {p:Addr} {o:HO} (h:H p=none):Same H (upd H p o):=fun b u e=>by rw [upd_ne (ne_of_none e h)]; exact e
theorem pe_ty {X:Cx} {x:Str} {n:String} {pos:Pos} (hm:X.mg x=none) (hv:bootBuiltins x=some (.type n)) (hg:Gl X x:=by rfl) (hn:x≠"__name__":=by decide) (hd:(x == ("__debug__":Str))=false:=by decide):PE X (.Name x pos) (tC (.ty n)) :=
  pe_bltn hg hm hv (show RelV (.ty n) (.type n) from rfl) hn hd
end L2
set_option Elab.async false
set_option linter.all false
set_option maxRecDepth 100000
namespace L2
open PySem PySem.Spec PyProof.Rows
section
variable {X:Cx}
end
end L2
set_option Elab.async false
set_option linter.all false
set_option maxRecDepth 100000
namespace L2
open PySem PySem.Spec PyProof.Rows
section
variable {P:Program} {w:World} {B:Around} {R:Result->Shared->Prop} {E:Value->Shared->Prop} {t:Shared} {i₀:Addr} {fp wr:List Addr} {n:Nat} {p:Nat->Value->Prop} {st:Nat->Shared->Prop}
end
section
variable {P:Program} {w:World} {A:Around} {E:Value->Shared->Prop} {s:Shared}
end
section
variable {X:Cx}
end
end L2
set_option Elab.async false
set_option linter.all false
set_option maxRecDepth 100000
namespace L2
open PySem PySem.Spec PyProof.Rows
section
variable {prog:Program} {w:World} {A:Around} {E:Value->Shared->Prop} {s:Shared}
theorem pull_list {it t:Addr} {items:Array Value} (hne:t≠it):∀ (n i:Nat) (s:Shared) (Q:List Value->Shared->Prop),s.heap.IsListIter it t i->s.heap.IsList t items->i + n≤items.size ->
    (∀ h':Heap,h'.IsListIter it t (i + n)->Heap.SameBut it s.heap h'->Q ((items.toList.drop i).take n) { s with heap:=h' })->wpAny (model prog w) A (draw (.ref it) n) Q E s
  | 0,i,s,Q,hit,_,_,hQ=>by
    show wpAny _ _ (pure []) Q E s
    exact wpAny_pure (by simpa using hQ s.heap hit (Heap.SameBut.refl ..))
  | n + 1,i,s,Q,hit,ht,hle,hQ=>by
    have hlt:i < items.size:=by omega
    show wpAny _ _ (pyNext (.ref it) >>= _) Q E s
    refine wpAny_bind (wpAny_pyNext_list_item hit ht (x:=items[i]) (by simp [hlt]) fun h1 hit1 hs1=>?_)
    refine wpAny_bind (wpAny_holding (pull_list hne n (i + 1) _ _ hit1 (ht.extBut hs1.extBut hne) (by omega) fun h2 hit2 hs2=>wpAny_pure ?_))
    have hd:items.toList.drop i=items[i]::items.toList.drop (i + 1):=by simp [List.drop_eq_getElem_cons,hlt]
    have:=hQ h2 (by rw [show i + (n + 1)=i + 1 + n by omega]; exact hit2) (hs1.trans hs2)
    rw [hd,List.take_succ_cons] at this
    exact this
theorem unpackItems_lst {t:Addr} {items:Array Value} {Q:List Value->Shared->Prop} (hh:A.handled=none) (ht:s.heap.IsList t items)
    (hQ:∀ h',Heap.ExtBut s.heap.objs.size s.heap h'->Q items.toList { s with heap:=h' }):wpAny (model prog w) A (unpackItems (.ref t) items.size none) Q E s:=by
  have hlt:t≠s.heap.objs.size:=by obtain ⟨o,ho,_⟩:=ht; exact Nat.ne_of_lt (Heap.lt_size ho)
  unfold unpackItems
  refine wpAny_bind ?_
  . unfold notIterableAtAll
    refine wpAny_bind (wpAny_specialOf ht.typeIs slot_list_iter.lookup ?_)
    refine wpAny_pure ?_
    simp only [Bool.false_eq_true,if_false]
    refine wpAny_bind (wpAny_holding (wpAny_pyIter_list ht ?_))
    refine wpAny_bind (wpAny_holding (pull_list hlt items.size 0 _ _ ⟨_,Heap.get?_push_size _ rfl,rfl,rfl⟩ (ht.push _) (by omega) fun h1 hit1 hs1=>?_))
    have hall:List.take items.size (List.drop 0 items.toList)=items.toList:=by
      rw [List.drop_zero]; exact List.take_of_length_le (by simp)
    rw [hall]
    rw [if_neg (by simp)]
    have ht1:h1.IsList t items:=(ht.push _).extBut hs1.extBut hlt
    refine wpAny_bind (wpAny_holding (wpAny_pyNext_list_end hh hit1 ht1 (by simp) fun h2 he2=>?_))
    simp only [Option.isSome_none,Bool.false_eq_true,if_false]
    refine wpAny_pure (hQ h2 fun b o hb e=>he2 b o hb (hs1.extBut b o hb (Heap.get?_push_of_some _ e)))
theorem assign_Tuple_lst {env:Env} {elts:List Expr} {x1} {pos:Pos} {t:Addr} {items:Array Value} {Q:Unit->Shared->Prop} (hh:A.handled=none) (ht:s.heap.IsList t items)
    (hn:(assignEach elts env).length=items.size) (hstar:(assignEach elts env).findIdx? (·.1)=none)
    (h:∀ h',Heap.ExtBut s.heap.objs.size s.heap h'->wpAny (model prog w) A (assignInOrder ((assignEach elts env).map (·.2)) items.toList) Q E { s with heap:=h' }) :
    wpAny (model prog w) A (assign (.Tuple elts x1 pos) env (.ref t)) Q E s:=by
  rw [assign_Tuple]
  refine wpAny_bind (wpAny_standAt ?_)
  unfold unpack
  rw [hn,hstar]
  exact wpAny_bind (wpAny_holding (unpackItems_lst hh ht h))
end
variable {X:Cx}
def gTupL (K:PySem.W.Frag) (n:Nat) (t:TGs):TG:=fun v σ H Q=>∃ a xs,v=.ref a∧(SqT K H a xs∨SqL K H a xs)∧xs.length=n∧t xs σ H Q
theorem pg_tupL {es:List Expr} {k:Nat} {pos:Pos} {t:TGs} {n:Nat} (hc:X.calm=true) (h:PGs X es t)
    (hn:(assignEach es X.env).length=n:=by rfl) (hst:(assignEach es X.env).findIdx? (·.1)=none:=by rfl):PG X (.Tuple es k pos) (gTupL X.K n t):=by
  intro pins s σ H v u Q I r hw
  obtain ⟨a,xs,e1,hq,hl,hw⟩:=hw
  subst e1
  cases r
  rcases hq with hq | hq
  . obtain ⟨its,rv,ht,hz⟩:=I.tuple hq
    refine assign_Tuple_tuple (I.ok.hd hc) ht (by simp [hn,← hl,rv.length]) hst fun h' hx=>?_
    have I1:Inv X pins σ H { s with heap:=h' }:=I.kept (t':=s.toks) fun b o e=>hx b o (Nat.ne_of_lt (Heap.lt_size e)) e
    exact h pins _ σ H xs _ Q I1 (by simpa using rv) hw
  . obtain ⟨its,rv,ht,hz⟩:=I.list hq
    refine assign_Tuple_lst (I.ok.hd hc) ht.isList (by simp [hn,← hl,rv.length]) hst fun h' hx=>?_
    have I1:Inv X pins σ H { s with heap:=h' }:=I.kept (t':=s.toks) fun b o e=>hx b o (Nat.ne_of_lt (Heap.lt_size e)) e
    exact h pins _ σ H xs _ Q I1 (by simpa using rv) hw
end L2
set_option Elab.async false
set_option linter.all false
set_option maxRecDepth 100000
namespace L2
open PySem PySem.Spec PyProof.Rows
structure Flown (P:Program) (w:World) (outer:List Env) (H:Hp) (s:Shared) (E:XK) (ea t:Addr) (cls:Value) (B:Heap) (H':Hp) (s':Shared):Prop where
  os:s'.os=s.os
  bare:AllBare s'.gens
  fly:Heap.FlyingW B outer ea cls (.ref t) s'.heap
  keep:∀ b o,s.heap.get? b=some o->H b=none->b ∉ frs outer->B.get? b=some o
  there:∀ b o,s.heap.get? b=some o->b ∉ frs outer->∃ o',B.get? b=some o'
  slot:∀ b o,s.heap.get? b=some o->b∈frs outer->H b=none->∃ sl,s'.heap.get? b=some { o with slots:=sl }
  free:∀ b o,s.heap.get? b=some o->H b=none->H' b=none
  tups:∀ b xs,H b=some (.tup xs)->H' b=some (.tup xs)
  frzs:∀ b o u,H b=some (.frz o u)->H' b=some (.frz o u)
  tbls:∀ b ps,H b=some (.tbl ps)->∃ more,H' b=some (.tbl (ps++more))
  hok:HOk P w H' B
  wish:E cls none H'
def CXW (P:Program) (w:World):CXT:=fun outer H s E e s'=>∃ ea t cls B H',e=.ref ea∧Flown P w outer H s E ea t cls B H' s'
def RaiseOk (X:Cx) (cls:Value) (W:Hp->Prop):Prop:=∀ (pins:List (Addr × Obj)) (σ:St) (H:Hp) (s:Shared) (e:Addr) (h':Heap) (vs:List Value),Inv X pins σ H s->Heap.MadeExcOf s.heap h' e cls vs->W H->X.xe (.ref e) { s with heap:=h' }
def tRaise (W:Hp->Prop) (t:TA):TS:=fun _ σ H=>t σ H fun vs H1=>vs.length≤100∧W H1
theorem exc_obj {K:PySem.W.Frag} {h₀:Heap} {C:Addr} {bmB:List Value} {newId:String} (X:K.In h₀) (q:PySem.W.excIn K C bmB newId=true) :
    ∃ bm N nm q bs hdct sn sub ab col dd k0 k1 k2 k3 k5 mN,h₀.get? C=some (excClassObj nm q C N bs bm hdct sn sub ab col dd k0 k1 k2 k3 k5 newId)∧h₀.Ns N mN∧mN "__init__" = none∧OwnTail h₀ bmB bm:=by
  unfold PySem.W.excIn at q
  split at q
  . rename_i dd cd sl ho
    split at q
    . rename_i C' bm k0 k1 k2 k3 n k5 hm hs
      simp only [Bool.and_eq_true,beq_iff_eq,Bool.not_eq_true'] at q
      obtain ⟨⟨⟨⟨⟨rfl,rfl⟩,hdel⟩,ht⟩,hok⟩,hni⟩:=q
      obtain ⟨nm,bs,mro,ns,qn,hd,sn,sub,ab,col,del⟩:=cd
      dsimp only at hm hdel hok hni
      subst hm hdel
      have hsl:sl=#[k0,k1,k2,k3,some (.builtin n),k5]:=by
        obtain ⟨l⟩:=sl
        simp only at hs
        rw [hs]
      subst hsl
      exact ⟨bm,ns,nm,qn,bs,hd,sn,sub,ab,col,dd,k0,k1,k2,k3,k5,_,X _ _ ho,.of_isNs (PySem.W.isNs_of_in X hok),PySem.W.nsMap_none_of_in X hok hni,PySem.W.tail_of_in X ht⟩
    . cases q
  . cases q
section
variable {X:Cx}
theorem ps_raise {x:Str} {C:Addr} {Bn newId initId:String} {bm:List Value} {np cpos pos:Pos} {e:Expr} {es:List Expr} {t:TA} {W:Hp->Prop} (hc:X.calm=true) (hg:Gl X x) (hm:X.mg x=some (.ref C)) (hq:PySem.W.excIn X.K C bm newId=true)
    (FB:ExcBaseFacts Bn newId initId bm) (hx:RaiseOk X (.ref C) W) (ha:PA X (e::es) t) (hdb:(x == ("__debug__":Str))=false:=by decide)
    (he:starEach (e::es) X.env=(false,eval e X.env)::starEach es X.env:=by rfl) (hpl:(backTo cpos (starEach es X.env)).any (·.1)=false:=by rfl) :
    PS X (.Raise (some (.Call (.Name x np) (e::es) [] cpos)) none pos) (tRaise W t):=by
  intro pins s σ H D I h
  obtain ⟨tl,N,nm,q,bs,hdct,sn,sub,ab,col,dd,k0,k1,k2,k3,k5,mN,hC,hN,hni,T⟩:=exc_obj I.mod.kin hq
  refine wpAny_Raise_call_subT (C:=C) (nm:=nm) (q:=q) (N:=N) (bs:=bs) (bm:=tl) (hdct:=hdct) (sn:=sn) (sub:=sub) (ab:=ab) (col:=col) (dd:=dd) (k0:=k0) (k1:=k1) (k2:=k2) (k3:=k3) (k5:=k5)
    FB (mN:=mN) (T.hasType FB.hasBase) (I.ok.hd hc) (by rw [he]; show (false || (backTo cpos (starEach es X.env)).any (·.1))=false; rw [hpl]; rfl) hni (ld_glob I hg hm ⟨rfl,?_⟩ hdb)
  have hp:=ha cpos pins s σ H _ I h
  rw [he] at hp ⊢
  refine Calls.evalArgs_plain (wpAny_mono hp (fun vs s₂ h₂=>?_) fun _ _ y=>y)
  obtain ⟨us,H1,I1,r1,hl,w1⟩:=h₂
  exact ⟨rfl,by rw [← r1.length]; exact Nat.le_trans hl (by simp only [sizeLine]; omega),I1.bk _ _ hC,hN.keeps I1.bk,T.keeps I1.bk,fun h' e' hm'=>hx pins σ H1 s₂ e' h' vs I1 hm' w1⟩
theorem goes_ok {M:Model} {A:Around} {E:Value->Shared->Prop} {pins:List (Addr × Obj)} {σ:St} {H:Hp} {s:Shared} {i:Nat} {x:Str} {pos:Pos} {Q:Unit->Shared->Prop} (I:Inv X pins σ H s) (hN:X.N.Nodup) (hi:X.N[i]?=some x) (hk:X.env.scope.names.lookup x=some .local)
    (h:∀ s',Inv X pins (σ.set i none) H s'->Q () s'):wpAny M A (do bindName X.env x .none; unbindBehindTheSuite X.env x pos) Q E s:=by
  obtain ⟨m,hn,hl⟩:=id I.loc
  have hk':X.env.kindOf x=some .local:=hk
  have hcls:(X.env.scope.kind == .class || (X.env.scope.kind == .module && X.env.locals != X.env.globals))=false:=by rw [I.ok.kind]; rfl
  have hiσ:i < σ.length:=by rw [I.len]; exact (List.getElem?_eq_some_iff.mp hi).1
  have cne:=I.cne
  refine wpAny_bind (wpAny_bindName (wpAny_storeName_local hk' hn (fun h₁ hn₁ hs₁=>?_) hcls))
  unfold unbindBehindTheSuite
  refine wpAny_onRaise ?_
  unfold unbindName
  refine wpAny_bind (wpAny_point (wpAny_bind ?_))
  unfold deleteName
  simp only [hk',hcls]
  rw [if_neg (by decide)]
  refine wpAny_bind (wpAny_nsDel_keeps hn₁ fun h₂ v hn₂ hs₂=>?_)
  simp only [if_true,Option.isSome_some,Bool.not_true,Bool.false_eq_true,if_false]
  have hs:Heap.SameBut X.env.locals s.heap h₂:=hs₁.trans hs₂
  obtain ⟨oL,_,_,hoL,_⟩:=id hn
  refine wpAny_pure (wpAny_point (h _ ⟨I.ok,I.os,I.bare,⟨fun b o e n hb hx=>?_,fun b o e n hb hx=>?_,I.base.free,fun b o e hx=>?_,I.base.tups,I.base.frzs,I.base.tbls⟩,⟨_,hn₂,fun j y v' e1 e2 e3=>?_⟩,fun y c e=>?_,I.free,I.freeC,fun p hp=>?_,fun b ob e=>?_,by simpa using I.len⟩))
  . exact (hs.2 b (Nat.ne_of_lt (Nat.lt_of_lt_of_le (Heap.lt_size e) I.ok.above))).trans (I.base.keep b o e n hb hx)
  . obtain ⟨sl,e1⟩:=I.base.slot b o e n hb hx
    exact ⟨sl,(hs.2 b (Nat.ne_of_lt (Nat.lt_of_lt_of_le (Heap.lt_size e) I.ok.above))).trans e1⟩
  . obtain ⟨o',e1⟩:=I.base.there b o e hx
    exact ⟨o',(hs.2 b (Nat.ne_of_lt (Nat.lt_of_lt_of_le (Heap.lt_size e) I.ok.above))).trans e1⟩
  . by_cases hj:j=i
    . subst hj
      rw [List.getElem?_set_self hiσ] at e2
      cases e2
    . rw [List.getElem?_set_ne (Ne.symm hj)] at e2
      obtain ⟨u',r',q⟩:=hl j y v' e1 e2 e3
      refine ⟨u',r',?_⟩
      rcases q with ⟨k,e⟩ | ⟨k,c,e,z⟩
      . refine .inl ⟨k,?_⟩
        have:y≠x:=fun e=>hj (nodup_ix hN e1 (e ▸ hi))
        simp [this,e]
      . exact .inr ⟨k,c,e,z.sameBut hs (cne y c e)⟩
  . obtain ⟨w',z⟩:=I.cell y c e
    exact ⟨w',z.sameBut hs (cne y c e)⟩
  . obtain ⟨e,n,ne,nf,d⟩:=I.pin p hp
    exact ⟨(hs.2 p.1 ne).trans e,n,ne,nf,d⟩
  . refine (I.hok b ob e).stay (fun c w' hc q=>(hs.2 c ?_).trans q) (fun _ q=>q) fun _ _ q=>q
    rintro rfl
    rcases hc with rfl | hc
    . rw [I.free] at e; cases e
    . rw [I.free] at hc; cases hc
theorem ObjOk.is {P:Program} {w:World} {H:Hp} {h:Heap} {a:Addr} {o:HO} (x:ObjOk P w H h a o):∃ u,h.get? a=some u:=by
  induction o with
  | lst xs=>obtain ⟨z,its,n,r,e⟩:=x; exact ⟨_,e⟩
  | tup xs=>first | (obtain ⟨z,its,r,ob,e,c⟩:=x; exact ⟨_,e⟩) | (obtain ⟨z,its,r,⟨ob,e,c⟩,_⟩:=x; exact ⟨_,e⟩)
  | dK kvs=>obtain ⟨z,y,vs,r,ob,es,ep,e,c⟩:=x; exact ⟨_,e⟩
  | dT kvs=>obtain ⟨z,y,xs,r,ob,es,ep,e,c⟩:=x; exact ⟨_,e⟩
  | set S n=>obtain ⟨ob,es,ep,t,e,c⟩:=x; exact ⟨_,e⟩
  | ins C dx fs=>obtain ⟨_,_,_,e,_⟩:=x; exact ⟨_,e⟩
  | own _=>exact x
  | xd fs=>obtain ⟨_,⟨_,_,_,e,_⟩,_⟩:=x; exact ⟨_,e⟩
  | rng lo hi=>obtain ⟨_,_,_,e⟩:=x; exact ⟨_,e⟩
  | frz ob u=>obtain ⟨e,_⟩:=x; exact ⟨_,e⟩
  | tbl ps=>exact ⟨_,x⟩
  | met f y=>exact ⟨_,x⟩
  | ext φ=>obtain ⟨_,e,_⟩:=x; exact e
theorem Flown.inv {pins:List (Addr × Obj)} {σ:St} {H H':Hp} {s s':Shared} {E:XK} {ea t:Addr} {cls:Value} {B h2:Heap} (fl:Flown X.prog X.w X.stack H s E ea t cls B H' s') (I:Inv X pins σ H s) (f2:Heap.FlyingW B X.stack ea cls (.ref t) h2) (sm:s'.heap.UpToSlots h2) :
    Inv X pins σ H' { s' with heap:=h2 }:=by
  refine I.call' (ch:=[]) fl.os ⟨fun b o q n hb _=>f2.1 b o (fl.keep b o q n hb),fun b o q n hb _=>?_,fun b o q n _=>fl.free b o q n,fun b o q _=>?_,fl.tups,fl.frzs,fl.tbls⟩ (fl.hok.kept f2.1) fl.bare (fun b z=>absurd z (by simp))
  . obtain ⟨sl,q1⟩:=fl.slot b o q hb n
    obtain ⟨_,o2,q2,hd⟩:=fl.fly.2.2.1.mem hb
    rw [q1] at q2
    cases q2
    obtain ⟨sl',q3⟩:=sm b _ q1 hd
    exact ⟨sl',q3⟩
  . by_cases hb:b∈frs X.stack
    . obtain ⟨sl,q1⟩:=fl.slot b o q hb (I.stkFree b hb)
      obtain ⟨_,o2,q2,hd⟩:=fl.fly.2.2.1.mem hb
      rw [q1] at q2
      cases q2
      obtain ⟨sl',q3⟩:=sm b _ q1 hd
      exact ⟨_,q3⟩
    . obtain ⟨o',q1⟩:=fl.there b o q hb
      exact ⟨o',f2.1 b o' q1⟩
end
def Cx.mkd (X:Cx) (e:Addr):Cx:={ X with A:=X.A.mark (some (.ref e)),calm:=false,xe:=fun _ _=>False }
def Cx.inX (X:Cx) (e:Addr) (oe:Obj):Cx:={ X with A:=X.A.mark (some (.ref e)),calm:=false,pn:=(e,oe)::X.pn,xe:=fun _ _=>False }
section
variable {X:Cx} {pins:List (Addr × Obj)} {σ:St} {H:Hp} {s:Shared} {e:Addr} {oe:Obj}
theorem Cx.Ok.mkd (ok:X.Ok):(X.mkd e).Ok:=⟨ok.mod,ok.kind,ok.glob,ok.blt,ok.above,ok.inj,ok.has,ok.cab,fun h=>absurd (show false=true from h) Bool.false_ne_true,ok.frames,ok.stk,ok.exf,ok.bs,ok.bsz,ok.noex,ok.exfs,ok.funs,ok.frf⟩
theorem Inv.mkd (I:Inv X pins σ H s):Inv (X.mkd e) pins σ H s:=⟨I.ok.mkd,I.os,I.bare,I.base,I.loc,I.cell,I.free,I.freeC,I.pin,I.hok,I.len⟩
theorem Cx.Ok.inX (ok:X.Ok):(X.inX e oe).Ok:=⟨ok.mod,ok.kind,ok.glob,ok.blt,ok.above,ok.inj,ok.has,ok.cab,fun h=>absurd (show false=true from h) Bool.false_ne_true,ok.frames,ok.stk,ok.exf,ok.bs,ok.bsz,ok.noex,ok.exfs,ok.funs,ok.frf⟩
theorem Inv.inX (I:Inv X pins σ H s) (h1:s.heap.get? e=some oe) (h2:H e=none) (h3:e≠X.env.locals) (h4:e ∉ X.fs) (h5:∀ v,oe.data≠.cell v):Inv (X.inX e oe) pins σ H s :=
  ⟨I.ok.inX,I.os,I.bare,I.base,I.loc,I.cell,I.free,I.freeC,fun p hp=>by
    rcases List.mem_cons.mp (show p∈(e,oe)::(X.pn++pins) from hp) with rfl | hp
    . exact ⟨h1,h2,h3,h4,h5⟩
    . exact I.pin p hp,I.hok,I.len⟩
def Ends.drop (D:Ends) (i:Nat):Ends:={ nx:=fun σ H=>D.nx (σ.set i none) H,rt:=D.rt,bk:=fun σ H=>D.bk (σ.set i none) H,ct:=fun σ H=>D.ct (σ.set i none) H }
end
end L2
set_option Elab.async false
set_option linter.all false
set_option maxRecDepth 100000
namespace L2
open PySem PySem.Spec PyProof.Rows PySem.W Builtin Builtin.ObjectAttr Builtin.Getset_descriptor
section
variable {prog:Program} {w:World} {A:Around} {E:Value->Shared->Prop} {K:PySem.W.Frag} {a D:Addr} {o:Obj} {h:Heap} {g:Array GenState} {d:Drawn} {t:Nat} {os:OsState}
structure ExcK (K:PySem.W.Frag) (D:Addr):Prop where
  ga:findIn K (.ref D) "__getattribute__" = some (some (.builtin "BaseException.__getattribute__"))
  gn:findIn K (.ref D) "__getattr__" = some none
  ca:findIn K (.ref D) "__class__" = some (some (.builtin "object.__class__"))
  sub:subIn K (.ref D) (.type "BaseException")=some true
  mro:mroIn K D (.type "object")=some true
  gs:specialIn K (.builtin "object.__class__") "__get__" = some (some (.builtin "getset_descriptor.__get__"))
  tk:takesIn K (.builtin "object.__class__")=some true
  cls:(clsIn K D).isSome=true
theorem exc_type (hx:h.get? a=some o) (hc:o.cls=.ref D) (M:Model):Looks M h (typeOf (.ref a)) (.ref D):=hc ▸ (Looks.ld hx).andThen .now
theorem exc_class_get {R:Result->Shared->Prop} {tp:Value} (X:K.In h) (hx:h.get? a=some o) (hc:o.cls=.ref D) (Z:ExcK K D) (hq:R (.ok (.ret (.ref D))) ⟨h,g,d,t,os⟩) :
    codeAny (model prog w) A (.call (.builtin "getset_descriptor.__get__") ⟨[.builtin "object.__class__",.ref a,tp],[]⟩) R ⟨h,g,d,t,os⟩:=by
  have L0:=exc_type hx hc (model prog w)
  have L1:=looks_mroIn (M:=model prog w) X Z.mro
  refine codeAny_call_builtin KF.slot_gs.plain KF.entry_gs (KF.slot_gs.check _ _ _ _ _ _ _ _ KF.type_class (KF.args_gs _ _ _) ?_)
  unfold Builtin.«getset_descriptor.__get__» descrGet
  rw [dga_obj]
  refine wpAny_bind (wpAny_pure ?_)
  unfold descrGetter descrCheckInstance descrNameAndClass isInstance
  simp only [KF.owner_class]
  repeat lk
  refine ⟨Code.quiet_builtin _ (by decide +kernel),codeAny_builtin KF.entry_class ?_⟩
  unfold Builtin.«object.__class__» shownTypeOf
  repeat lk
  exact hq
theorem exc_class_entry {tk:Tok} {Q:PySem.Fin->Shared->Prop} (X:K.In h) (hx:h.get? a=some o) (hc:o.cls=.ref D) (Z:ExcK K D) (hq:Q (.done (.ret (.ref D))) ⟨h,g,d,t,os⟩) :
    wpAny (model prog w) A (Builtin.«object.__getattribute__» ⟨[.ref a,.str "__class__" tk],[]⟩) Q E ⟨h,g,d,t,os⟩:=by
  have L0:=exc_type hx hc (model prog w)
  have L2:=looks_findIn (M:=model prog w) X Z.ca
  have L3:=looks_specialIn (M:=model prog w) X Z.gs
  have L4:=looks_takesIn (M:=model prog w) X Z.tk
  unfold Builtin.«object.__getattribute__» find
  repeat (first | with_reducible refine wpAny_call (exc_class_get X hx hc Z ?_) | lk)
  exact hq
theorem exc_class_attr {Q:Option Value->Shared->Prop} (X:K.In h) (hx:h.get? a=some o) (hc:o.cls=.ref D) (Z:ExcK K D) (hq:Q (some (.ref D)) ⟨h,g,d,t + 1,os⟩) :
    wpAny (model prog w) A (getAttr? (.ref a) "__class__") Q E ⟨h,g,d,t,os⟩:=by
  have L0:=exc_type hx hc (model prog w)
  have L1:=looks_findIn (M:=model prog w) X Z.ga
  have L2:=looks_findIn (M:=model prog w) X Z.gn
  unfold getAttr? getAttrBy? getAttrBy
  refine wpAny_bind (wpAny_mkText (wpAny_bind (wpAny_attempt (wpAny_holding (wpAny_bind (L0.at (wpAny_bind (L1.at ?_))))))))
  show wpAny _ _ (getAttrByItsOwn _ _ _ _ _ _) _ _ _
  unfold getAttrByItsOwn hookBefore
  rw [if_pos (show onTheHeap (Value.ref D)=true from rfl)]
  refine wpAny_bind (L2.at ?_)
  have hck:∀ {Q':Unit->Shared->Prop} {E':Value->Shared->Prop} {A':Around} {nv:Value} {t':Nat},Q' () ⟨h,g,d,t',os⟩->wpAny (model prog w) A' (checkBuiltinCall "BaseException.__getattribute__" ⟨[.ref a,nv],[]⟩) Q' E' ⟨h,g,d,t',os⟩:=fun {Q' E' A' nv t'} q'=>by
    have L5:=looks_subIn (M:=model prog w) X Z.sub
    have hk:builtinKind "BaseException.__getattribute__" = some .slot:=by decide +kernel
    have hsplit:splitId "BaseException.__getattribute__" = some ("BaseException","__getattribute__"):=by decide +kernel
    have ha:=F.args_bexc_ga (.ref a) nv
    have LI:Looks (model prog w) h (isInstance (.ref a) (.type "BaseException")) true:=L0.andThen L5
    simp only [checkBuiltinCall,hk,hsplit]
    refine wpAny_bind ?_
    repeat (first | with_reducible refine Looks.at (by assumption) ?_ | wp_step)
    exact q'
  have f3:=F.attr_ValueError.ga.bind (.ref a)
  refine wpAny_bind (wpAny_attempt (wpAny_holding ?_))
  show wpAny _ _ (boundAndCalled _ _ _) _ _ _
  unfold boundAndCalled
  rw [f3]
  refine wpAny_bind (wpAny_pure ?_)
  refine wpAny_call (codeAny_call_builtin F.attr_ValueError.ga.plain F.entry_bexc_ga (hck (exc_class_entry X hx hc Z ?_)))
  exact handed_on rfl (wpAny_pure hq)
theorem kitx_exc (Z:ExcK K D) (hc:o.cls=.ref D):KitX K (.ref a) (.ref D) (fun h=>h.get? a=some o) where
  ty:=fun M _ _ hx=>exc_type hx hc M
  it:=fun _ _ X _=>by
    obtain ⟨cd,hcd⟩:=Option.isSome_iff_exists.mp Z.cls
    unfold clsIn at hcd
    split at hcd
    . rename_i c' d' cd' sl' ho
      intro A' Q' E' s' k q
      unfold isType loadHead
      exact wpAny_bind (wpAny_loadPart (k _ _ (X _ _ ho)) (wpAny_pure q))
    . cases hcd
  ne:=fun h tp dd its n sl X htp=>by
    obtain ⟨cd,hcd⟩:=Option.isSome_iff_exists.mp Z.cls
    refine Bool.eq_false_iff.mpr fun q=>?_
    have e:D=tp:=Value.ref.inj (beq_iff_eq.mp q)
    subst e
    unfold clsIn at hcd
    split at hcd
    . rename_i c' d' cd' sl' ho
      have z:=(X _ _ ho).symm.trans htp
      cases z
    . cases hcd
  ca:=fun {_ _ _ _ _ s} X hx k=>by
    obtain ⟨h,g,d,t,os⟩:=s
    exact exc_class_attr X hx hc Z k
end
section
variable {X:Cx} {e:Addr} {oe:Obj} {D:Addr}
end
end L2
set_option Elab.async false
set_option linter.all false
set_option maxRecDepth 100000
namespace Mir
open PySem L2
class Zc where
  e:Addr
instance (priority:=10) zc0:Zc:=⟨0⟩
variable [Zc]
noncomputable def cIf {α:Type} (c:Prop) (a b : α) : α:=@ite α c (Classical.propDecidable c) a b
theorem cIf_pos {α:Type} {c:Prop} {a b : α} (h:c):cIf c a b=a:=by unfold cIf; rw [if_pos h]
theorem cIf_neg {α:Type} {c:Prop} {a b : α} (h : ¬ c):cIf c a b=b:=by unfold cIf; rw [if_neg h]
theorem cIf_eq {α:Type} {c:Prop} {a:Option α} {x : α} (h:cIf c a none=some x):c∧a=some x:=by
  by_cases hc:c
  . rw [cIf_pos hc] at h; exact ⟨hc,h⟩
  . rw [cIf_neg hc] at h; cases h
abbrev D:=PyData
def KeyD:Key->D->Prop
  | .inl i,c=>c=.int i
  | .inr x,c=>c=.str x
mutual
inductive Rep (H:Hp):V->D->Prop
  | non:Rep H .non .none
  | bl (b:Bool):Rep H (.bl b) (.bool b)
  | int (i:Int):Rep H (.int i) (.int i)
  | str (x:Str):Rep H (.str x) (.str x)
  | lst {a:Addr} {xs:List V} {ds:List D}:Rd H a (.lst xs)->Reps H xs ds->Rep H (.ref a) (.list ds)
  | tup {a:Addr} {xs:List V} {ds:List D}:H a=some (.tup xs)->Reps H xs ds->Rep H (.ref a) (.tuple ds)
  | dct {a:Addr} {kvs:List (Key × V)} {es:List (D × D)}:Rd H a (.dK kvs)->RepKs H kvs es->Rep H (.ref a) (.dict es)
inductive Reps (H:Hp):List V->List D->Prop
  | nil:Reps H [] []
  | cons {x:V} {xs:List V} {d:D} {ds:List D}:Rep H x d->Reps H xs ds->Reps H (x::xs) (d::ds)
inductive RepKs (H:Hp):List (Key × V)->List (D × D)->Prop
  | nil:RepKs H [] []
  | cons {k:Key} {x:V} {kvs:List (Key × V)} {c d:D} {es:List (D × D)}:KeyD k c->Rep H x d->RepKs H kvs es->RepKs H ((k,x)::kvs) ((c,d)::es)
end
theorem rd_same {H H':Hp} (e:Same H H') {a:Addr} {u:HO} (h:Rd H a u):Rd H' a u:=by
  rcases h with h | ⟨o,h⟩
  . exact .inl (e _ _ h)
  . exact .inr ⟨o,e _ _ h⟩
mutual
theorem Rep.mono {H H':Hp} (e:Same H H'):∀ {v:V} {d:D},Rep H v d->Rep H' v d
  | _,_,.non=>.non
  | _,_,.bl b=>.bl b
  | _,_,.int i=>.int i
  | _,_,.str x=>.str x
  | _,_,.lst h r=>.lst (rd_same e h) (Reps.mono e r)
  | _,_,.tup h r=>.tup (e _ _ h) (Reps.mono e r)
  | _,_,.dct h r=>.dct (rd_same e h) (RepKs.mono e r)
theorem Reps.mono {H H':Hp} (e:Same H H'):∀ {v:List V} {d:List D},Reps H v d->Reps H' v d
  | _,_,.nil=>.nil
  | _,_,.cons a b=>.cons (Rep.mono e a) (Reps.mono e b)
theorem RepKs.mono {H H':Hp} (e:Same H H'):∀ {v:List (Key × V)} {d:List (D × D)},RepKs H v d->RepKs H' v d
  | _,_,.nil=>.nil
  | _,_,.cons k a b=>.cons k (Rep.mono e a) (RepKs.mono e b)
end
theorem Reps.length {H:Hp}:∀ {v:List V} {d:List D},Reps H v d->v.length=d.length
  | _,_,.nil=>rfl
  | _,_,.cons _ b=>by simp [Reps.length b]
theorem Reps.get {H:Hp}:∀ {v:List V} {d:List D} (i:Nat),Reps H v d->∀ c,d[i]?=some c->∃ x,v[i]?=some x∧Rep H x c
  | _,_,_,.nil,c,e=>by simp at e
  | _,_,0,.cons a _,c,e=>by simp at e; subst e; exact ⟨_,rfl,a⟩
  | _,_,i + 1,.cons _ b,c,e=>by
    obtain ⟨x,h1,h2⟩:=Reps.get i b c (by simpa using e)
    exact ⟨x,by simpa using h1,h2⟩
theorem Reps.append {H:Hp}:∀ {v w:List V} {d c:List D},Reps H v d->Reps H w c->Reps H (v++w) (d++c)
  | _,_,_,_,.nil,r=>r
  | _,_,_,_,.cons a b,r=>.cons a (Reps.append b r)
theorem Reps.take {H:Hp}:∀ {v:List V} {d:List D} (n:Nat),Reps H v d->Reps H (v.take n) (d.take n)
  | _,_,0,_=>.nil
  | _,_,_ + 1,.nil=>.nil
  | _,_,n + 1,.cons a b=>.cons a (Reps.take n b)
theorem Reps.drop {H:Hp}:∀ {v:List V} {d:List D} (n:Nat),Reps H v d->Reps H (v.drop n) (d.drop n)
  | _,_,0,r=>r
  | _,_,_ + 1,.nil=>.nil
  | _,_,n + 1,.cons _ b=>Reps.drop n b
theorem Reps.set {H:Hp} {x:V} {c:D} (r:Rep H x c):∀ {v:List V} {d:List D} (i:Nat),Reps H v d->Reps H (v.set i x) (d.set i c)
  | _,_,_,.nil=>.nil
  | _,_,0,.cons _ b=>.cons r b
  | _,_,i + 1,.cons a b=>.cons a (Reps.set r i b)
theorem Reps.eraseIdx {H:Hp}:∀ {v:List V} {d:List D} (i:Nat),Reps H v d->Reps H (v.eraseIdx i) (d.eraseIdx i)
  | _,_,_,.nil=>.nil
  | _,_,0,.cons _ b=>b
  | _,_,i + 1,.cons a b=>.cons a (Reps.eraseIdx i b)
theorem Reps.dropLast {H:Hp} {v:List V} {d:List D} (r:Reps H v d):Reps H v.dropLast d.dropLast:=by
  rw [List.dropLast_eq_take,List.dropLast_eq_take,r.length]; exact r.take _
theorem Reps.reverse {H:Hp}:∀ {v:List V} {d:List D},Reps H v d->Reps H v.reverse d.reverse
  | _,_,.nil=>.nil
  | _,_,.cons a b=>by rw [List.reverse_cons,List.reverse_cons]; exact (Reps.reverse b).append (.cons a .nil)
theorem Reps.flat {H:Hp} {v:List V} {d:List D} (r:Reps H v d):∀ k,Reps H (List.replicate k v).flatten (List.replicate k d).flatten
  | 0=>.nil
  | k + 1=>by
    rw [List.replicate_succ,List.replicate_succ,List.flatten_cons,List.flatten_cons]; exact r.append (Reps.flat r k)
inductive Sl where
  | no | fz (d:D) | own (d:D) | io (d:D) | ro (d:D) | ex
def Sl.isOwn:Sl->Bool
  | .own _=>true
  | .io _=>true
  | _=>false
def Sl.isRef:Sl->Bool
  | .own _=>true
  | .io _=>true
  | .ro _=>true
  | _=>false
theorem Sl.ref_of {s:Sl} (h:s.isOwn=true):s.isRef=true:=by cases s <;> first | rfl | cases h
abbrev Rho:=List Sl
inductive Kd where
  | fz | new | at (i:Nat) | ro
abbrev RV:=D × Kd
inductive Own (B H:Hp) (p:Addr):D->Prop
  | lst {xs:List V} {ds:List D}:H p=some (.lst xs)->Reps B xs ds->Own B H p (.list ds)
  | dct {kvs:List (Key × V)} {es:List (D × D)}:H p=some (.dK kvs)->RepKs B kvs es->Own B H p (.dict es)
theorem Own.there {B H:Hp} {p:Addr} {d:D} (h:Own B H p d):∃ o,H p=some o:=by cases h with
  | lst h _=>exact ⟨_,h⟩
  | dct h _=>exact ⟨_,h⟩
theorem Own.ne_none {B H:Hp} {p:Addr} {d:D} (h:Own B H p d):H p≠none:=by
  obtain ⟨o,e⟩:=h.there; rw [e]; simp
theorem Own.mono {B H B' H':Hp} {p:Addr} {d:D} (h:Own B H p d) (e:Same B B') (k:∀ o,H p=some o->H' p=some o):Own B' H' p d:=by cases h with
  | lst h r=>exact .lst (k _ h) (r.mono e)
  | dct h r=>exact .dct (k _ h) (r.mono e)
theorem Own.notup {B H:Hp} {p:Addr} {d:D} (h:Own B H p d) (xs:List V):H p≠some (.tup xs):=by cases h with
  | lst h _=>rw [h]; simp
  | dct h _=>rw [h]; simp
theorem Own.rep {B H:Hp} {p:Addr} {d:D} (h:Own B H p d) (e:Same B H):Rep H (.ref p) d:=by cases h with
  | lst h r=>exact .lst (.inl h) (r.mono e)
  | dct h r=>exact .dct (.inl h) (r.mono e)
theorem Own.frozen {B H B':Hp} {p:Addr} {d:D} (h:Own B H p d) (e:Same B B') (k:∀ o,H p=some o->B' p=some o):Rep B' (.ref p) d:=by cases h with
  | lst h r=>exact .lst (.inl (k _ h)) (r.mono e)
  | dct h r=>exact .dct (.inl (k _ h)) (r.mono e)
structure Fr where
  B:Hp
  H:Hp
  io:List (Nat × Addr)
  Z:Addr->Prop
def SlotOk (B H:Hp) (σ:St) (i:Nat):Sl->Prop
  | .no=>True
  | .ex=>True
  | .fz d=>∃ v,σ[i]?=some (some v)∧Rep B v d
  | .own d=>∃ p,σ[i]?=some (some (.ref p))∧B p=none∧Own B H p d
  | .io d=>∃ p,σ[i]?=some (some (.ref p))∧B p=none∧Own B H p d
  | .ro d=>∃ p,σ[i]?=some (some (.ref p))∧Own B H p d
structure Rel (F:Fr) (B H:Hp) (σ:St) (ρ:Rho):Prop where
  sub:Same B H
  sB:Same F.B B
  sH:∀ q o,F.H q=some o->(∀ x∈F.io,x.2≠q)->H q=some o
  nB:∀ q,F.H q≠none->F.B q=none->B q=none
  len : ρ.length=σ.length
  slot:∀ (i:Nat) (s:Sl),ρ[i]?=some s->SlotOk B H σ i s
  dist:∀ (i j:Nat) (s t:Sl) (p:Addr),ρ[i]?=some s->s.isOwn=true->ρ[j]?=some t->t.isRef=true->σ[i]?=some (some (.ref p))->σ[j]?=some (some (.ref p))->i=j
  ownN:∀ (i:Nat) (d:D) (p:Addr),ρ[i]?=some (.own d)->σ[i]?=some (some (.ref p))->F.H p=none
  fx:∀ x∈F.io,σ[x.1]?=some (some (.ref x.2))∧∃ d,ρ[x.1]?=some (.io d)
  ioN:∀ (i:Nat) (d:D),ρ[i]?=some (.io d)->∃ p,(i,p)∈F.io
  tupB:∀ q xs,H q=some (.tup xs)->B q=some (.tup xs)
  exv:∀ i:Nat,ρ[i]?=some .ex->σ[i]?=some (some (.ref Zc.e))
  nz:∀ q o u,H q=some (.frz o u)->F.Z q
structure Ext (σ:St) (ρ:Rho) (B H:Hp) (ρ':Rho) (B' H':Hp):Prop where
  sB:Same B B'
  keep:∀ q o,H q=some o->(∀ (i:Nat) (s:Sl),ρ[i]?=some s->s.isOwn=true->σ[i]?≠some (some (.ref q)))->H' q=some o∧(B q=none->B' q=none)
  own:∀ (i:Nat) (s':Sl),ρ'[i]?=some s'->s'.isOwn=true->∃ s,ρ[i]?=some s∧s.isOwn=true
  ref:∀ (i:Nat) (s':Sl),ρ'[i]?=some s'->s'.isRef=true->∃ s,ρ[i]?=some s∧s.isRef=true
  live:∀ q,H' q=none->H q=none
theorem Ext.refl (σ:St) (ρ:Rho) (B H:Hp):Ext σ ρ B H ρ B H:=⟨Same.refl _,fun _ _ h _=>⟨h,id⟩,fun _ s h e=>⟨s,h,e⟩,fun _ s h e=>⟨s,h,e⟩,fun _ h=>h⟩
theorem Ext.trans {σ:St} {ρ ρ1 ρ2:Rho} {B H B1 H1 B2 H2:Hp} (a:Ext σ ρ B H ρ1 B1 H1) (b:Ext σ ρ1 B1 H1 ρ2 B2 H2):Ext σ ρ B H ρ2 B2 H2:=by
  refine ⟨a.sB.trans b.sB,fun q o h n=>?_,fun i s h e=>?_,fun i s h e=>?_,fun q h=>a.live q (b.live q h)⟩
  . obtain ⟨h1,h2⟩:=a.keep q o h n
    obtain ⟨h3,h4⟩:=b.keep q o h1 fun i s e1 e2=>by
      obtain ⟨s',e3,e4⟩:=a.own i s e1 e2
      exact n i s' e3 e4
    exact ⟨h3,fun z=>h4 (h2 z)⟩
  . obtain ⟨s1,h1,e1⟩:=b.own i s h e
    exact a.own i s1 h1 e1
  . obtain ⟨s1,h1,e1⟩:=b.ref i s h e
    exact a.ref i s1 h1 e1
def slD:Sl->D
  | .own d=>d
  | .io d=>d
  | .ro d=>d
  | .fz d=>d
  | .no=>.none
  | .ex=>.none
def Val (F:Fr) (B H:Hp) (σ:St) (ρ:Rho) (v:V) (r:RV):Prop:=match r.2 with
  | .fz=>Rep B v r.1
  | .new=>∃ p,v=.ref p∧B p=none∧F.H p=none∧Own B H p r.1∧∀ (i:Nat) (s:Sl),ρ[i]?=some s->s.isRef=true->σ[i]?≠some (some (.ref p))
  | .at i=>∃ s,ρ[i]?=some s∧s.isOwn=true∧slD s=r.1∧σ[i]?=some (some v)
  | .ro=>∃ p,v=.ref p∧Own B H p r.1∧∀ (i:Nat) (s:Sl),ρ[i]?=some s->s.isOwn=true->σ[i]?≠some (some (.ref p))
def View (B H:Hp) (v:V) (d:D):Prop:=Rep B v d∨∃ p,v=.ref p∧Own B H p d
theorem View.rep {B H:Hp} {v:V} {d:D} (h:View B H v d) (e:Same B H):Rep H v d:=by
  rcases h with h | ⟨p,rfl,h⟩
  . exact h.mono e
  . exact h.rep e
theorem View.list {B H:Hp} {v:V} {ds:List D} (h:View B H v (.list ds)) (e:Same B H):∃ p xs,v=.ref p∧Rd H p (.lst xs)∧Reps B xs ds:=by
  rcases h with h | ⟨p,rfl,h⟩
  . cases h with
    | lst h r=>exact ⟨_,_,rfl,rd_same e h,r⟩
  . cases h with
    | lst h r=>exact ⟨_,_,rfl,.inl h,r⟩
theorem View.tuple {B H:Hp} {v:V} {ds:List D} (h:View B H v (.tuple ds)) (e:Same B H):∃ p xs,v=.ref p∧H p=some (.tup xs)∧Reps B xs ds:=by
  rcases h with h | ⟨p,rfl,h⟩
  . cases h with
    | tup h r=>exact ⟨_,_,rfl,e _ _ h,r⟩
  . cases h
theorem View.dict {B H:Hp} {v:V} {es:List (D × D)} (h:View B H v (.dict es)) (e:Same B H):∃ p kvs,v=.ref p∧Rd H p (.dK kvs)∧RepKs B kvs es:=by
  rcases h with h | ⟨p,rfl,h⟩
  . cases h with
    | dct h r=>exact ⟨_,_,rfl,rd_same e h,r⟩
  . cases h with
    | dct h r=>exact ⟨_,_,rfl,.inl h,r⟩
theorem View.int {B H:Hp} {v:V} {i:Int} (h:View B H v (.int i)):v=.int i:=by
  rcases h with h | ⟨p,rfl,h⟩
  . cases h; rfl
  . cases h
theorem View.bool {B H:Hp} {v:V} {b:Bool} (h:View B H v (.bool b)):v=.bl b:=by
  rcases h with h | ⟨p,rfl,h⟩
  . cases h; rfl
  . cases h
theorem View.str {B H:Hp} {v:V} {x:Str} (h:View B H v (.str x)):v=.str x:=by
  rcases h with h | ⟨p,rfl,h⟩
  . cases h; rfl
  . cases h
theorem View.none {B H:Hp} {v:V} (h:View B H v .none):v=.non:=by
  rcases h with h | ⟨p,rfl,h⟩
  . cases h; rfl
  . cases h
section
variable {F:Fr} {B H B' H':Hp} {σ:St} {ρ ρ':Rho} {v:V} {r:RV}
theorem Rel.ownAt (R:Rel F B H σ ρ) {i:Nat} {s:Sl} (h : ρ[i]?=some s) (e:s.isOwn=true):∃ p,σ[i]?=some (some (.ref p))∧B p=Option.none∧Own B H p (slD s):=by
  have:=R.slot i s h
  cases s with
  | own d=>exact this
  | io d=>exact this
  | _=>cases e
theorem Val.view (R:Rel F B H σ ρ) (h:Val F B H σ ρ v r):View B H v r.1:=by
  obtain ⟨d,k⟩:=r
  cases k with
  | fz=>exact .inl h
  | new=>obtain ⟨p,rfl,_,_,o,_⟩:=h; exact .inr ⟨p,rfl,o⟩
  | «at» i =>
    obtain ⟨s,h1,h2,h3,h4⟩:=h
    obtain ⟨p,e1,e2,e3⟩:=R.ownAt h1 h2
    rw [h4] at e1
    cases e1
    exact .inr ⟨p,rfl,h3 ▸ e3⟩
  | ro=>obtain ⟨p,rfl,o,_⟩:=h; exact .inr ⟨p,rfl,o⟩
theorem Rel.freezeNew (R:Rel F B H σ ρ) {d:D} (h:Val F B H σ ρ v (d,.new)):∃ B',Rel F B' H σ ρ∧Rep B' v d∧Same B B'∧∀ q,v≠.ref q->B' q=B q:=by
  obtain ⟨p,rfl,hB,hF,o,nn⟩:=h
  obtain ⟨ob,hp⟩:=o.there
  have e:Same B (upd B p ob):=same_upd hB
  have ne:∀ (i:Nat) (s:Sl) (q:Addr),ρ[i]?=some s->s.isRef=true->σ[i]?=some (some (.ref q))->q≠p:=fun i s q h1 h2 h3 z=>nn i s h1 h2 (z ▸ h3)
  refine ⟨upd B p ob,⟨?_,R.sB.trans e,R.sH,?_,R.len,?_,R.dist,R.ownN,R.fx,R.ioN,(fun q xs h=>e _ _ (R.tupB q xs h)),R.exv,R.nz⟩,?_,e,fun q hq=>upd_ne fun z=>hq (z ▸ rfl)⟩
  . intro q u hq
    by_cases z:q=p
    . subst z; rw [upd_same] at hq; cases hq; exact hp
    . rw [upd_ne z] at hq; exact R.sub q u hq
  . intro q h1 h2
    have z:q≠p:=fun z=>h1 (z ▸ hF)
    rw [upd_ne z]; exact R.nB q h1 h2
  . intro i s hs
    have q:=R.slot i s hs
    cases s with
    | no=>trivial
    | ex=>trivial
    | fz d=>obtain ⟨x,h1,h2⟩:=q; exact ⟨x,h1,h2.mono e⟩
    | own d=>obtain ⟨q,h1,h2,h3⟩:=q; exact ⟨q,h1,by rw [upd_ne (ne i _ q hs rfl h1)]; exact h2,h3.mono e fun _ z=>z⟩
    | io d=>obtain ⟨q,h1,h2,h3⟩:=q; exact ⟨q,h1,by rw [upd_ne (ne i _ q hs rfl h1)]; exact h2,h3.mono e fun _ z=>z⟩
    | ro d=>obtain ⟨q,h1,h3⟩:=q; exact ⟨q,h1,h3.mono e fun _ z=>z⟩
  . exact o.frozen e fun u h=>by rw [upd_same,← h,hp]
theorem get_set {i j:Nat} {s t:Sl} (h:(ρ.set i s)[j]?=some t):(j=i∧t=s∧i < ρ.length)∨(j≠i∧ρ[j]?=some t):=by
  by_cases z:j=i
  . subst z
    have hl:j < ρ.length:=by
      have:=List.getElem?_eq_some_iff.mp h
      obtain ⟨hh,_⟩:=this
      simpa using hh
    rw [List.getElem?_set_self hl] at h
    exact .inl ⟨rfl,(Option.some.inj h).symm,hl⟩
  . rw [List.getElem?_set_ne (fun e=>z e.symm)] at h
    exact .inr ⟨z,h⟩
theorem ex_set {ρ:Rho} {i j:Nat} {s:Sl} (hs:s≠.ex) (h:(ρ.set i s)[j]?=some .ex) : ρ[j]?=some .ex∧j≠i:=by
  rcases get_set h with ⟨_,z,_⟩ | ⟨hj,h⟩
  . exact absurd z.symm hs
  . exact ⟨h,hj⟩
theorem Rel.freezeAt (R:Rel F B H σ ρ) {i:Nat} {d:D} (hi : ρ[i]?=some (.own d)) (hv : σ[i]?=some (some v)):∃ B',Rel F B' H σ (ρ.set i (.fz d))∧Rep B' v d∧Ext σ ρ B H (ρ.set i (.fz d)) B' H:=by
  obtain ⟨p,h1,hB,o⟩:=R.slot i _ hi
  rw [hv] at h1
  cases h1
  have hF:=R.ownN i d p hi hv
  obtain ⟨ob,hp⟩:=o.there
  have e:Same B (upd B p ob):=same_upd hB
  have rp:Rep (upd B p ob) (.ref p) d:=o.frozen e fun u h=>by rw [upd_same,← h,hp]
  have ne:∀ (j:Nat) (s:Sl) (q:Addr),j≠i->ρ[j]?=some s->s.isRef=true->σ[j]?=some (some (.ref q))->q≠p:=fun j s q hj h1 h2 h3 z=>hj (R.dist i j _ s p hi rfl h1 h2 hv (z ▸ h3)).symm
  refine ⟨upd B p ob,⟨?_,R.sB.trans e,R.sH,?_,by rw [List.length_set]; exact R.len,?_,?_,?_,?_,?_,(fun q xs h=>e _ _ (R.tupB q xs h)),(fun j h=>R.exv j (ex_set (by simp) h).1),R.nz⟩,rp,⟨e,?_,?_,?_,fun _ h=>h⟩⟩
  . intro q u hq
    by_cases z:q=p
    . subst z; rw [upd_same] at hq; cases hq; exact hp
    . rw [upd_ne z] at hq; exact R.sub q u hq
  . intro q h1 h2
    have z:q≠p:=fun z=>h1 (z ▸ hF)
    rw [upd_ne z]; exact R.nB q h1 h2
  . intro j s hs
    rcases get_set hs with ⟨rfl,rfl,_⟩ | ⟨hj,hs⟩
    . exact ⟨_,hv,rp⟩
    . have q:=R.slot j s hs
      cases s with
      | no=>trivial
      | ex=>trivial
      | fz d=>obtain ⟨x,h1,h2⟩:=q; exact ⟨x,h1,h2.mono e⟩
      | own d=>obtain ⟨q,h1,h2,h3⟩:=q; exact ⟨q,h1,by rw [upd_ne (ne j _ q hj hs rfl h1)]; exact h2,h3.mono e fun _ z=>z⟩
      | io d=>obtain ⟨q,h1,h2,h3⟩:=q; exact ⟨q,h1,by rw [upd_ne (ne j _ q hj hs rfl h1)]; exact h2,h3.mono e fun _ z=>z⟩
      | ro d=>obtain ⟨q,h1,h3⟩:=q; exact ⟨q,h1,h3.mono e fun _ z=>z⟩
  . intro a b s t q h1 h2 h3 h4 h5 h6
    rcases get_set h1 with ⟨rfl,rfl,_⟩ | ⟨ha,h1⟩
    . cases h2
    . rcases get_set h3 with ⟨rfl,rfl,_⟩ | ⟨hb,h3⟩
      . cases h4
      . exact R.dist a b s t q h1 h2 h3 h4 h5 h6
  . intro j c q h1 h2
    rcases get_set h1 with ⟨rfl,h,_⟩ | ⟨_,h1⟩
    . cases h
    . exact R.ownN j c q h1 h2
  . intro x hx
    obtain ⟨h1,c,h2⟩:=R.fx x hx
    refine ⟨h1,c,?_⟩
    by_cases z:i=x.1
    . subst z; rw [hi] at h2; cases h2
    . rw [List.getElem?_set_ne z]; exact h2
  . intro j c h1
    rcases get_set h1 with ⟨rfl,h,_⟩ | ⟨_,h1⟩
    . cases h
    . exact R.ioN j c h1
  . intro q u hq hn
    refine ⟨hq,fun z=>?_⟩
    rw [upd_ne (show q≠p from fun y=>hn i _ hi rfl (by rw [y]; exact hv))]; exact z
  . intro j s h1 h2
    rcases get_set h1 with ⟨rfl,rfl,_⟩ | ⟨_,h1⟩
    . cases h2
    . exact ⟨s,h1,h2⟩
  . intro j s h1 h2
    rcases get_set h1 with ⟨rfl,rfl,_⟩ | ⟨_,h1⟩
    . cases h2
    . exact ⟨s,h1,h2⟩
theorem Rel.free (R:Rel F B H σ ρ) {p:Addr} (hp:H p=none):B p=none∧F.H p=none∧∀ (i:Nat) (s:Sl),ρ[i]?=some s->s.isRef=true->σ[i]?≠some (some (.ref p)):=by
  have hB:B p=none:=R.sub.free hp
  have nn:∀ (i:Nat) (s:Sl),ρ[i]?=some s->s.isRef=true->σ[i]?≠some (some (.ref p)):=fun i s h1 h2 h3=>by
    have q:=R.slot i s h1
    cases s with
    | own d=>obtain ⟨q,e1,_,e3⟩:=q; rw [h3] at e1; cases e1; exact e3.ne_none hp
    | io d=>obtain ⟨q,e1,_,e3⟩:=q; rw [h3] at e1; cases e1; exact e3.ne_none hp
    | ro d=>obtain ⟨q,e1,e3⟩:=q; rw [h3] at e1; cases e1; exact e3.ne_none hp
    | no=>cases h2
    | ex=>cases h2
    | fz d=>cases h2
  refine ⟨hB,?_,nn⟩
  cases q:F.H p with
  | none=>rfl
  | some u =>
    by_cases z:∃ x∈F.io,x.2=p
    . obtain ⟨x,hx,rfl⟩:=z
      obtain ⟨h1,d,h2⟩:=R.fx x hx
      exact absurd h1 (nn _ _ h2 rfl)
    . have:=R.sH p u q fun x hx y=>z ⟨x,hx,y⟩
      rw [hp] at this; cases this
theorem Rel.grow (R:Rel F B H σ ρ) (eB:Same B B') (eH:Same H H') (sub:Same B' H') (nb:∀ q,H q≠none->B q=none->B' q=none) (tB:∀ q xs,H' q=some (.tup xs)->B' q=some (.tup xs)) (nf:∀ q o u,H' q=some (.frz o u)->H q≠none):Rel F B' H' σ ρ:=by
  have lv:∀ q,F.H q≠none->H q≠none:=fun q h z=>h (R.free z).2.1
  refine ⟨sub,R.sB.trans eB,fun q u h1 h2=>eH _ _ (R.sH q u h1 h2),fun q h1 h2=>nb q (lv q h1) (R.nB q h1 h2),R.len,fun i s hs=>?_,R.dist,R.ownN,R.fx,R.ioN,tB,R.exv,fun q o u h=>by
    cases y:H q with
    | none=>exact absurd y (nf q o u h)
    | some x =>
      have:=eH q x y
      rw [h] at this
      cases this
      exact R.nz q o u y⟩
  have q:=R.slot i s hs
  cases s with
  | no=>trivial
  | ex=>trivial
  | fz d=>obtain ⟨x,h1,h2⟩:=q; exact ⟨x,h1,h2.mono eB⟩
  | own d=>obtain ⟨q,h1,h2,h3⟩:=q; exact ⟨q,h1,nb q h3.ne_none h2,h3.mono eB fun _ z=>eH _ _ z⟩
  | io d=>obtain ⟨q,h1,h2,h3⟩:=q; exact ⟨q,h1,nb q h3.ne_none h2,h3.mono eB fun _ z=>eH _ _ z⟩
  | ro d=>obtain ⟨q,h1,h3⟩:=q; exact ⟨q,h1,h3.mono eB fun _ z=>eH _ _ z⟩
theorem Ext.grow (eB:Same B B') (eH:Same H H') (nb:∀ q,H q≠none->B q=none->B' q=none):Ext σ ρ B H ρ B' H' :=
  ⟨eB,fun q u h _=>⟨eH _ _ h,fun z=>nb q (by rw [h]; simp) z⟩,fun _ s h z=>⟨s,h,z⟩,fun _ s h z=>⟨s,h,z⟩,fun q h=>eH.free h⟩
theorem Rel.lay (R:Rel F B H σ ρ) {p:Addr} {o:HO} (hp:H p=none) (no:(∀ xs,o≠.tup xs)∧∀ a u,o≠.frz a u):Rel F B (upd H p o) σ ρ∧Ext σ ρ B H ρ B (upd H p o):=by
  have e:Same H (upd H p o):=same_upd hp
  refine ⟨R.grow (Same.refl _) e (R.sub.trans e) (fun _ _ z=>z) (fun q xs h=>?_) (fun q a u h y=>?_),Ext.grow (Same.refl _) e fun _ _ z=>z⟩
  . by_cases z:q=p
    . subst z; rw [upd_same] at h; cases h; exact absurd rfl (no.1 xs)
    . rw [upd_ne z] at h; exact R.tupB q xs h
  . by_cases z:q=p
    . subst z; rw [upd_same] at h; cases h; exact no.2 _ _ rfl
    . rw [upd_ne z,y] at h; cases h
theorem Rel.layT (R:Rel F B H σ ρ) {p:Addr} {xs:List V} (hp:H p=none):Rel F (upd B p (.tup xs)) (upd H p (.tup xs)) σ ρ∧Ext σ ρ B H ρ (upd B p (.tup xs)) (upd H p (.tup xs))∧Same B (upd B p (.tup xs)):=by
  have hB:=(R.free hp).1
  have eH:Same H (upd H p (.tup xs)):=same_upd hp
  have eB:Same B (upd B p (.tup xs)):=same_upd hB
  have nb:∀ q,H q≠none->B q=none->upd B p (.tup xs) q=none:=fun q h z=>by rw [upd_ne (show q≠p from fun y=>h (by rw [y]; exact hp))]; exact z
  refine ⟨R.grow eB eH (fun q u h=>?_) nb (fun q ys h=>?_) (fun q a u h y=>?_),Ext.grow eB eH nb,eB⟩
  . by_cases z:q=p
    . subst z; rw [upd_same] at h ⊢; exact h
    . rw [upd_ne z] at h ⊢; exact R.sub q u h
  . by_cases z:q=p
    . subst z; rw [upd_same] at h ⊢; exact h
    . rw [upd_ne z] at h ⊢; exact R.tupB q ys h
  . by_cases z:q=p
    . subst z; rw [upd_same] at h; cases h
    . rw [upd_ne z,y] at h; cases h
end
end Mir
set_option Elab.async false
set_option linter.all false
set_option maxRecDepth 100000
namespace Mir
open PySem L2
variable [Zc]
abbrev PM:=Rho->Option (RV × Rho)
def ME (t:TE) (m:PM):Prop :=
  ∀ (F:Fr) (B H:Hp) (σ:St) (ρ:Rho) (r:RV) (ρ':Rho) (Q:VK),Rel F B H σ ρ->m ρ=some (r,ρ') ->
    (∀ v B' H',Ext σ ρ B H ρ' B' H'->Rel F B' H' σ ρ'->Val F B' H' σ ρ' v r->(∀ p,r.2=.new->v=.ref p->H p=none)->Q v H')->t σ H Q
def MT (t:TT) (m:Rho->Option (Bool × Rho)):Prop :=
  ∀ (F:Fr) (B H:Hp) (σ:St) (ρ:Rho) (b:Bool) (ρ':Rho) (Q:Bool->Hp->Prop),Rel F B H σ ρ->m ρ=some (b,ρ') ->
    (∀ B' H',Ext σ ρ B H ρ' B' H'->Rel F B' H' σ ρ'->Q b H')->t σ H Q
def Vl (F:Fr) (B H:Hp) (σ:St) (ρ:Rho):List V->List RV->Prop
  | [],[]=>True
  | v::vs,r::rs=>(Val F B H σ ρ v r∧r.2≠.new)∧Vl F B H σ ρ vs rs
  | _,_=>False
def MA (t:TA) (m:Rho->Option (List RV × Rho)):Prop :=
  ∀ (F:Fr) (B H:Hp) (σ:St) (ρ:Rho) (rs:List RV) (ρ':Rho) (Q:List V->Hp->Prop),Rel F B H σ ρ->m ρ=some (rs,ρ') ->
    (∀ vs B' H',Ext σ ρ B H ρ' B' H'->Rel F B' H' σ ρ'->Vl F B' H' σ ρ' vs rs->Q vs H')->t σ H Q
def sv (m:PM):PM:=fun ρ=>match m ρ with
  | some ((d,.new),ρ')=>some ((d,.fz),ρ')
  | x=>x
theorem sv_kind {m:PM} {ρ ρ':Rho} {r:RV} (h:sv m ρ=some (r,ρ')):r.2≠.new:=by
  unfold sv at h
  split at h
  . cases h; simp
  . rename_i hx
    intro e
    obtain ⟨d,k⟩:=r
    cases (show k=.new from e)
    exact hx d ρ' h
theorem ME.sv {t:TE} {m:PM} (h:ME t m):ME t (sv m):=by
  intro F B H σ ρ r ρ' Q R e q
  unfold Mir.sv at e
  split at e
  . rename_i d ρ1 e1
    cases e
    refine h F B H σ ρ _ _ Q R e1 fun v B' H' E R' V' N=>?_
    obtain ⟨B2,R2,rp,s2,k2⟩:=R'.freezeNew V'
    refine q v B2 H' ⟨E.sB.trans s2,fun q o h1 h2=>?_,E.own,E.ref,E.live⟩ R2 rp (fun _ z=>by cases z)
    obtain ⟨h3,h4⟩:=E.keep q o h1 h2
    refine ⟨h3,fun z=>?_⟩
    rw [k2 q fun y=>by
      have:=N q rfl y
      rw [h1] at this; cases this]
    exact h4 z
  . exact h F B H σ ρ r ρ' Q R e q
def refr (ρ:Rho) (r:RV):Option RV:=match r.2 with
  | .at i=>match ρ[i]? with
    | some (.own d)=>some (d,.at i)
    | some (.io d)=>some (d,.at i)
    | some (.fz d)=>some (d,.fz)
    | _=>none
  | _=>some r
section
variable {F:Fr} {B H B' H':Hp} {σ:St} {ρ ρ':Rho} {v:V} {r r':RV}
theorem Val.next (E:Ext σ ρ B H ρ' B' H') (R':Rel F B' H' σ ρ') (h:Val F B H σ ρ v r) (nn:r.2≠.new) (e:refr ρ' r=some r'):Val F B' H' σ ρ' v r'∧r'.2≠.new:=by
  obtain ⟨d,k⟩:=r
  cases k with
  | fz=>cases e; exact ⟨Rep.mono E.sB h,nn⟩
  | new=>exact absurd rfl nn
  | «at» i =>
    obtain ⟨s,h1,h2,h3,h4⟩:=h
    have e':(match ρ'[i]? with
      | some (.own d)=>some (d,Kd.at i)
      | some (.io d)=>some (d,Kd.at i)
      | some (.fz d)=>some (d,Kd.fz)
      | _=>none)=some r':=e
    cases q : ρ'[i]? with
    | none=>rw [q] at e'; cases e'
    | some s' =>
      rw [q] at e'
      cases s' with
      | own c=>cases e'; exact ⟨⟨_,q,rfl,rfl,h4⟩,by simp⟩
      | io c=>cases e'; exact ⟨⟨_,q,rfl,rfl,h4⟩,by simp⟩
      | fz c =>
        cases e'
        obtain ⟨x,y1,y2⟩:=R'.slot i _ q
        rw [h4] at y1; cases y1
        exact ⟨y2,by simp⟩
      | no=>cases e'
      | ex=>cases e'
      | ro c=>cases e'
  | ro =>
    cases e
    obtain ⟨p,rfl,o,n⟩:=h
    obtain ⟨ob,hp⟩:=o.there
    refine ⟨⟨p,rfl,o.mono E.sB fun u hu=>(E.keep p u hu n).1,fun i s h1 h2=>?_⟩,nn⟩
    obtain ⟨s0,h3,h4⟩:=E.own i s h1 h2
    exact n i s0 h3 h4
end
def ResOk (B H:Hp) (res:D × Bool) (k:VK->Prop):Prop:=match res with
  | (d,false)=>∃ v,Rep B v d∧∀ Q:VK,Q v H->k Q
  | (.list ds,true)=>∃ vs,Reps B vs ds∧∀ Q:VK,(∀ p,H p=none->Q (.ref p) (upd H p (.lst vs)))->k Q
  | (.tuple ds,true)=>∃ vs,Reps B vs ds∧∀ Q:VK,(∀ p,H p=none->Q (.ref p) (upd H p (.tup vs)))->k Q
  | (.dict es,true)=>∃ kvs,RepKs B kvs es∧∀ Q:VK,(∀ p,H p=none->Q (.ref p) (upd H p (.dK kvs)))->k Q
  | _=>False
def resK:D × Bool->RV
  | (d,false)=>(d,.fz)
  | (.tuple ds,true)=>(.tuple ds,.fz)
  | (d,true)=>(d,.new)
theorem res_end {F:Fr} {B H:Hp} {σ:St} {ρ:Rho} {res:D × Bool} {k:VK->Prop} {Q:VK} (R:Rel F B H σ ρ) (h:ResOk B H res k)
    (q:∀ v B' H',Ext σ ρ B H ρ B' H'->Rel F B' H' σ ρ->Val F B' H' σ ρ v (resK res)->(∀ p,(resK res).2=.new->v=.ref p->H p=none)->Q v H'):k Q:=by
  obtain ⟨d,b⟩:=res
  cases b with
  | false =>
    obtain ⟨v,rp,hk⟩:=h
    exact hk Q (q v B H (Ext.refl _ _ _ _) R rp fun p z=>by cases z)
  | true =>
    cases d with
    | list ds =>
      obtain ⟨vs,rp,hk⟩:=h
      refine hk Q fun p hp=>?_
      obtain ⟨R',E⟩:=R.lay (o:=.lst vs) hp ⟨(fun _ z=>by cases z),fun _ _ z=>by cases z⟩
      obtain ⟨hB,hF,nn⟩:=R.free hp
      exact q _ B _ E R' ⟨p,rfl,hB,hF,.lst upd_same rp,nn⟩ fun q _ z=>by cases z; exact hp
    | dict es =>
      obtain ⟨kvs,rp,hk⟩:=h
      refine hk Q fun p hp=>?_
      obtain ⟨R',E⟩:=R.lay (o:=.dK kvs) hp ⟨(fun _ z=>by cases z),fun _ _ z=>by cases z⟩
      obtain ⟨hB,hF,nn⟩:=R.free hp
      exact q _ B _ E R' ⟨p,rfl,hB,hF,.dct upd_same rp,nn⟩ fun q _ z=>by cases z; exact hp
    | tuple ds =>
      obtain ⟨vs,rp,hk⟩:=h
      refine hk Q fun p hp=>?_
      obtain ⟨R',E,e⟩:=R.layT (xs:=vs) hp
      exact q _ _ _ E R' (show Rep _ _ _ from .tup upd_same (rp.mono e)) fun q z=>by cases z
    | none=>exact h.elim
    | bool _=>exact h.elim
    | int _=>exact h.elim
    | str _=>exact h.elim
def mC (d:D):PM:=fun ρ=>some ((d,.fz),ρ)
theorem me_c {v:V} {d:D} (h:∀ B,Rep B v d):ME (tC v) (mC d):=by
  intro F B H σ ρ r ρ' Q R e q
  cases e
  exact q v B H (Ext.refl _ _ _ _) R (h B) fun p z=>by cases z
theorem me_int {i:Int}:ME (tC (.int i)) (mC (.int i)):=me_c fun _=>.int i
theorem me_bl {b:Bool}:ME (tC (.bl b)) (mC (.bool b)):=me_c fun _=>.bl b
theorem me_non:ME (tC .non) (mC .none):=me_c fun _=>.non
theorem me_str {x:Str}:ME (tC (.str x)) (mC (.str x)):=me_c fun _=>.str x
def mVar (i:Nat):PM:=fun ρ=>match ρ[i]? with
  | some (.fz d)=>some ((d,.fz),ρ)
  | some (.own d)=>some ((d,.at i),ρ)
  | some (.io d)=>some ((d,.at i),ρ)
  | some (.ro d)=>some ((d,.ro),ρ)
  | _=>none
theorem me_var {i:Nat}:ME (tVar i) (mVar i):=by
  intro F B H σ ρ r ρ' Q R e q
  unfold mVar at e
  cases hs : ρ[i]? with
  | none=>rw [hs] at e; cases e
  | some s =>
    rw [hs] at e
    have sl:=R.slot i s hs
    cases s with
    | no=>cases e
    | ex=>cases e
    | fz d =>
      cases e
      obtain ⟨v,h1,h2⟩:=sl
      exact ⟨v,h1,q v B H (Ext.refl _ _ _ _) R h2 fun p z=>by cases z⟩
    | own d =>
      cases e
      obtain ⟨p,h1,h2,h3⟩:=sl
      exact ⟨_,h1,q _ B H (Ext.refl _ _ _ _) R ⟨_,hs,rfl,rfl,h1⟩ fun p z=>by cases z⟩
    | io d =>
      cases e
      obtain ⟨p,h1,h2,h3⟩:=sl
      exact ⟨_,h1,q _ B H (Ext.refl _ _ _ _) R ⟨_,hs,rfl,rfl,h1⟩ fun p z=>by cases z⟩
    | ro d =>
      cases e
      obtain ⟨p,h1,h3⟩:=sl
      refine ⟨_,h1,q _ B H (Ext.refl _ _ _ _) R ⟨p,rfl,h3,fun j s h4 h5 h6=>?_⟩ fun p z=>by cases z⟩
      have:=R.dist j i s _ p h4 h5 hs rfl h6 h1
      subst this
      rw [hs] at h4; cases h4; cases h5
def OpJ (r:R2) (g:D->D->Option (D × Bool)):Prop :=
  ∀ (B H:Hp) (x y:V) (c d:D) (res:D × Bool),Same B H->View B H x c->View B H y d->g c d=some res->ResOk B H res fun Q=>r x y H Q
def mOp (g:D->D->Option (D × Bool)) (a b:PM):PM:=fun ρ=>(sv a ρ).bind fun x=>(sv b x.2).bind fun y=>(refr y.2 x.1).bind fun r=>(g r.1 y.1.1).map fun res=>(resK res,y.2)
theorem me_op {r:R2} {g:D->D->Option (D × Bool)} {ta tb:TE} {a b:PM} (J:OpJ r g) (ha:ME ta a) (hb:ME tb b):ME (tOp r ta tb) (mOp g a b):=by
  intro F B H σ ρ r0 ρ' Q R e q
  obtain ⟨x,e1,e⟩:=Option.bind_eq_some_iff.mp e
  obtain ⟨y,e2,e⟩:=Option.bind_eq_some_iff.mp e
  obtain ⟨r',e3,e⟩:=Option.bind_eq_some_iff.mp e
  obtain ⟨res,e4,e⟩:=Option.map_eq_some_iff.mp e
  cases e
  refine ha.sv F B H σ ρ x.1 x.2 _ R e1 fun v B1 H1 E1 R1 V1 N1=>?_
  refine hb.sv F B1 H1 σ x.2 y.1 y.2 _ R1 e2 fun u B2 H2 E2 R2 V2 N2=>?_
  obtain ⟨V3,n3⟩:=V1.next E2 R2 (sv_kind e1) e3
  refine res_end R2 (J B2 H2 v u r'.1 y.1.1 res R2.sub (V3.view R2) (V2.view R2) e4) fun w B3 H3 E3 R3 V4 N4=>?_
  refine q w B3 H3 (E1.trans (E2.trans E3)) R3 V4 fun p z1 z2=>?_
  exact E1.live p (E2.live p (N4 p z1 z2))
end Mir
set_option Elab.async false
set_option linter.all false
set_option maxRecDepth 100000
namespace Mir
open PySem L2
variable [Zc]
theorem Ext.fresh {σ:St} {ρ ρ':Rho} {B H B' H':Hp} (E:Ext σ ρ B H ρ' B' H') {p:Addr} (h:H' p=none):H p=none:=E.live p h
def UnJ (r:V->Hp->VK->Prop) (g:D->Option (D × Bool)):Prop:=∀ (B H:Hp) (x:V) (c:D) (res:D × Bool),Same B H->View B H x c->g c=some res->ResOk B H res fun Q=>r x H Q
def mUn (g:D->Option (D × Bool)) (a:PM):PM:=fun ρ=>(sv a ρ).bind fun x=>(g x.1.1).map fun res=>(resK res,x.2)
theorem me_un {r:V->Hp->VK->Prop} {g:D->Option (D × Bool)} {ta:TE} {a:PM} (J:UnJ r g) (ha:ME ta a):ME (tUn r ta) (mUn g a):=by
  intro F B H σ ρ r0 ρ' Q R e q
  obtain ⟨x,e1,e⟩:=Option.bind_eq_some_iff.mp e
  obtain ⟨res,e4,e⟩:=Option.map_eq_some_iff.mp e
  cases e
  refine ha.sv F B H σ ρ x.1 x.2 _ R e1 fun v B1 H1 E1 R1 V1 N1=>?_
  exact res_end R1 (J B1 H1 v x.1.1 res R1.sub (V1.view R1) e4) fun w B3 H3 E3 R3 V4 N4=>q w B3 H3 (E1.trans E3) R3 V4 fun p z1 z2=>E1.live p (N4 p z1 z2)
def asB:RV × Rho->Option (Bool × Rho)
  | ((.bool b,_),ρ)=>some (b,ρ)
  | _=>none
theorem asB_eq {x:RV × Rho} {b:Bool} {ρ:Rho} (h:asB x=some (b,ρ)):x.1.1=.bool b∧x.2=ρ:=by
  obtain ⟨⟨d,k⟩,ρ0⟩:=x
  cases d with
  | bool c=>cases h; exact ⟨rfl,rfl⟩
  | _=>cases h
def mTest (a:PM):Rho->Option (Bool × Rho):=fun ρ=>(sv a ρ).bind asB
theorem mt_test {ta:TE} {a:PM} (ha:ME ta a):MT (tTest ta) (mTest a):=by
  intro F B H σ ρ b ρ' Q R e q
  obtain ⟨x,e1,e⟩:=Option.bind_eq_some_iff.mp e
  obtain ⟨h1,h2⟩:=asB_eq e
  refine ha.sv F B H σ ρ x.1 x.2 _ R e1 fun v B1 H1 E1 R1 V1 N1=>?_
  have:=V1.view R1
  rw [h1] at this
  rw [h2] at E1 R1
  exact ⟨b,this.bool,q B1 H1 E1 R1⟩
theorem mt_tB {ta:TE} {a:PM} (ha:ME ta a):MT (tB ta) (mTest a):=mt_test ha
def mOr (a b:Rho->Option (Bool × Rho)):Rho->Option (Bool × Rho):=fun ρ=>(a ρ).bind fun x=>if x.1=true then some (true,x.2) else b x.2
def mNot (a:Rho->Option (Bool × Rho)):Rho->Option (Bool × Rho):=fun ρ=>(a ρ).map fun x=>(!x.1,x.2)
section
variable {ta tb:TT} {a b:Rho->Option (Bool × Rho)}
theorem mt_or (ha:MT ta a) (hb:MT tb b):MT (tOr ta tb) (mOr a b):=by
  intro F B H σ ρ c ρ' Q R e q
  obtain ⟨x,e1,e⟩:=Option.bind_eq_some_iff.mp e
  refine ha F B H σ ρ x.1 x.2 _ R e1 fun B1 H1 E1 R1=>?_
  by_cases h:x.1=true
  . rw [if_pos h] at e ⊢
    cases e
    exact q B1 H1 E1 R1
  . rw [if_neg h] at e ⊢
    exact hb F B1 H1 σ x.2 c ρ' Q R1 e fun B2 H2 E2 R2=>q B2 H2 (E1.trans E2) R2
theorem mt_not (ha:MT ta a):MT (tNot ta) (mNot a):=by
  intro F B H σ ρ c ρ' Q R e q
  obtain ⟨x,e1,e⟩:=Option.map_eq_some_iff.mp e
  cases e
  exact ha F B H σ ρ x.1 x.2 _ R e1 fun B1 H1 E1 R1=>q B1 H1 E1 R1
end
section
variable {ta tb:TE} {a b:PM}
def mAndV (a b:PM):PM:=fun ρ=>(mTest a ρ).bind fun x=>if x.1=true then b x.2 else some ((.bool false,.fz),x.2)
def mNotV (a:PM):PM:=fun ρ=>(mTest a ρ).map fun x=>((.bool !x.1,.fz),x.2)
theorem me_andV (ha:ME ta a) (hb:ME tb b):ME (tAndV ta tb) (mAndV a b):=by
  intro F B H σ ρ c ρ' Q R e q
  obtain ⟨x,e1,e⟩:=Option.bind_eq_some_iff.mp e
  refine mt_test ha F B H σ ρ x.1 x.2 (fun c H1=>if c=true then tb σ H1 Q else Q (.bl false) H1) R e1 fun B1 H1 E1 R1=>?_
  by_cases h:x.1=true
  . rw [if_pos h] at e ⊢
    exact hb F B1 H1 σ x.2 c ρ' Q R1 e fun v B2 H2 E2 R2 V2 N2=>q v B2 H2 (E1.trans E2) R2 V2 fun p z1 z2=>E1.live p (N2 p z1 z2)
  . rw [if_neg h] at e ⊢
    cases e
    exact q _ B1 H1 E1 R1 (.bl false) fun p z=>by cases z
theorem me_notV (ha:ME ta a):ME (tNotV ta) (mNotV a):=by
  intro F B H σ ρ c ρ' Q R e q
  obtain ⟨x,e1,e⟩:=Option.map_eq_some_iff.mp e
  cases e
  exact mt_test ha F B H σ ρ x.1 x.2 (fun c H1=>Q (.bl !c) H1) R e1 fun B1 H1 E1 R1=>q _ B1 H1 E1 R1 (.bl _) fun p z=>by cases z
def mIfE (c:Rho->Option (Bool × Rho)) (a b:PM):PM:=fun ρ=>(c ρ).bind fun x=>if x.1=true then a x.2 else b x.2
theorem me_ifE {tc:TT} {c:Rho->Option (Bool × Rho)} (hc:MT tc c) (ha:ME ta a) (hb:ME tb b):ME (tIf tc ta tb) (mIfE c a b):=by
  intro F B H σ ρ r ρ' Q R e q
  obtain ⟨x,e1,e⟩:=Option.bind_eq_some_iff.mp e
  refine hc F B H σ ρ x.1 x.2 _ R e1 fun B1 H1 E1 R1=>?_
  by_cases h:x.1=true
  . rw [if_pos h] at e ⊢
    exact ha F B1 H1 σ x.2 r ρ' Q R1 e fun v B2 H2 E2 R2 V2 N2=>q v B2 H2 (E1.trans E2) R2 V2 fun p z1 z2=>E1.live p (N2 p z1 z2)
  . rw [if_neg h] at e ⊢
    exact hb F B1 H1 σ x.2 r ρ' Q R1 e fun v B2 H2 E2 R2 V2 N2=>q v B2 H2 (E1.trans E2) R2 V2 fun p z1 z2=>E1.live p (N2 p z1 z2)
end
def mNil:Rho->Option (List RV × Rho):=fun ρ=>some ([],ρ)
def mCons (a:PM) (m:Rho->Option (List RV × Rho)):Rho->Option (List RV × Rho):=fun ρ=>(sv a ρ).bind fun x=>(m x.2).bind fun y=>(refr y.2 x.1).map fun r=>(r::y.1,y.2)
theorem ma_nil:MA tNil mNil:=by
  intro F B H σ ρ rs ρ' Q R e q
  cases e
  exact q [] B H (Ext.refl _ _ _ _) R trivial
theorem ma_cons {ta:TE} {tr:TA} {a:PM} {m:Rho->Option (List RV × Rho)} (ha:ME ta a) (hr:MA tr m):MA (tCons ta tr) (mCons a m):=by
  intro F B H σ ρ rs ρ' Q R e q
  obtain ⟨x,e1,e⟩:=Option.bind_eq_some_iff.mp e
  obtain ⟨y,e2,e⟩:=Option.bind_eq_some_iff.mp e
  obtain ⟨r,e3,e⟩:=Option.map_eq_some_iff.mp e
  cases e
  refine ha.sv F B H σ ρ x.1 x.2 _ R e1 fun v B1 H1 E1 R1 V1 N1=>?_
  refine hr F B1 H1 σ x.2 y.1 y.2 _ R1 e2 fun vs B2 H2 E2 R2 V2=>?_
  exact q (v::vs) B2 H2 (E1.trans E2) R2 ⟨V1.next E2 R2 (sv_kind e1) e3,V2⟩
def WVal (B:Hp) (σ:St) (v:V) (r:RV):Prop:=match r.2 with
  | .fz=>Rep B v r.1
  | .at i=>σ[i]?=some (some v)
  | _=>True
def WVl (B:Hp) (σ:St):List V->List RV->Prop
  | [],[]=>True
  | v::vs,r::rs=>WVal B σ v r∧WVl B σ vs rs
  | _,_=>False
theorem Vl.weak {F:Fr} {B H:Hp} {σ:St} {ρ:Rho}:∀ {vs:List V} {rs:List RV},Vl F B H σ ρ vs rs->WVl B σ vs rs
  | [],[],_=>trivial
  | v::vs,r::rs,⟨⟨h,n⟩,t⟩=>by
    refine ⟨?_,Vl.weak t⟩
    obtain ⟨d,k⟩:=r
    cases k with
    | fz=>exact h
    | «at» i=>obtain ⟨_,_,_,_,e⟩:=h; exact e
    | new=>trivial
    | ro=>trivial
theorem WVl.mono {B B':Hp} {σ:St} (e:Same B B'):∀ {vs:List V} {rs:List RV},WVl B σ vs rs->WVl B' σ vs rs
  | [],[],_=>trivial
  | v::vs,r::rs,⟨h,t⟩=>by
    refine ⟨?_,WVl.mono e t⟩
    obtain ⟨d,k⟩:=r
    cases k with
    | fz=>exact Rep.mono e h
    | «at» i=>exact h
    | new=>trivial
    | ro=>trivial
def fzOne (r:RV) (ρ:Rho):Option (D × Rho):=match r.2 with
  | .fz=>some (r.1,ρ)
  | .at i=>match ρ[i]? with
    | some (.own d)=>some (d,ρ.set i (.fz d))
    | some (.fz d)=>some (d,ρ)
    | _=>none
  | _=>none
def fzAll:List RV->Rho->Option (List D × Rho)
  | [],ρ=>some ([],ρ)
  | r::rs,ρ=>(fzOne r ρ).bind fun x=>(fzAll rs x.2).map fun y=>(x.1::y.1,y.2)
section
variable {F:Fr} {B H:Hp} {σ:St} {ρ ρ':Rho}
theorem Rel.frz (R:Rel F B H σ ρ) {v:V} {r:RV} {d:D} (w:WVal B σ v r) (e:fzOne r ρ=some (d,ρ')):∃ B',Rel F B' H σ ρ'∧Rep B' v d∧Ext σ ρ B H ρ' B' H:=by
  obtain ⟨c,k⟩:=r
  cases k with
  | fz=>cases e; exact ⟨B,R,w,Ext.refl _ _ _ _⟩
  | new=>cases e
  | ro=>cases e
  | «at» i =>
    have e':(match ρ[i]? with
      | some (.own d)=>some (d,ρ.set i (.fz d))
      | some (.fz d)=>some (d,ρ)
      | _=>none)=some (d,ρ'):=e
    cases q : ρ[i]? with
    | none=>rw [q] at e'; cases e'
    | some s =>
      rw [q] at e'
      cases s with
      | own c=>cases e'; exact R.freezeAt q w
      | fz c =>
        cases e'
        obtain ⟨x,h1,h2⟩:=R.slot i _ q
        have w' : σ[i]?=some (some v):=w
        rw [w'] at h1; cases h1
        exact ⟨B,R,h2,Ext.refl _ _ _ _⟩
      | no=>cases e'
      | ex=>cases e'
      | io c=>cases e'
      | ro c=>cases e'
theorem Rel.frzL:∀ {rs:List RV} {vs:List V} {ds:List D} {B:Hp} {ρ ρ':Rho},Rel F B H σ ρ->WVl B σ vs rs->fzAll rs ρ=some (ds,ρ')->∃ B',Rel F B' H σ ρ'∧Reps B' vs ds∧Ext σ ρ B H ρ' B' H
  | [],[],ds,B,ρ,ρ',R,_,e=>by cases e; exact ⟨B,R,.nil,Ext.refl _ _ _ _⟩
  | r::rs,v::vs,ds,B,ρ,ρ',R,⟨w,ws⟩,e=>by
    obtain ⟨x,e1,e⟩:=Option.bind_eq_some_iff.mp e
    obtain ⟨y,e2,e⟩:=Option.map_eq_some_iff.mp e
    cases e
    obtain ⟨B1,R1,rp,E1⟩:=R.frz w e1
    obtain ⟨B2,R2,rps,E2⟩:=Rel.frzL R1 (ws.mono E1.sB) e2
    exact ⟨B2,R2,.cons (rp.mono E2.sB) rps,E1.trans E2⟩
  | [],_::_,_,_,_,_,_,h,_=>h.elim
  | _::_,[],_,_,_,_,_,h,_=>h.elim
end
noncomputable def mTup (m:Rho->Option (List RV × Rho)):PM:=fun ρ=>(m ρ).bind fun x=>(fzAll x.1 x.2).bind fun y=>cIf (y.1.length≤sizeLine) (some ((.tuple y.1,.fz),y.2)) none
noncomputable def mLst (m:Rho->Option (List RV × Rho)):PM:=fun ρ=>(m ρ).bind fun x=>(fzAll x.1 x.2).bind fun y=>cIf (y.1.length≤sizeLine) (some ((.list y.1,.new),y.2)) none
theorem me_tup {t:TA} {m:Rho->Option (List RV × Rho)} (h:MA t m):ME (tTup t) (mTup m):=by
  intro F B H σ ρ r ρ' Q R e q
  obtain ⟨x,e1,e⟩:=Option.bind_eq_some_iff.mp e
  obtain ⟨y,e2,e⟩:=Option.bind_eq_some_iff.mp e
  obtain ⟨hz,e⟩:=cIf_eq e
  . cases e
    refine h F B H σ ρ x.1 x.2 _ R e1 fun vs B1 H1 E1 R1 V1=>?_
    obtain ⟨B2,R2,rp,E2⟩:=Rel.frzL R1 V1.weak e2
    refine ⟨by rw [rp.length]; exact hz,fun p hp=>?_⟩
    have:=res_end (res:=(.tuple y.1,true)) (k:=fun Q=>∀ p,H1 p=none->Q (.ref p) (upd H1 p (.tup vs))) (Q:=Q) R2 ⟨vs,rp,fun Q h=>h⟩ fun v B' H' E R' V' N=>q v B' H' (E1.trans (E2.trans E)) R' V' fun p z=>by cases z
    exact this p hp
theorem me_lst {t:TA} {m:Rho->Option (List RV × Rho)} (h:MA t m):ME (tLst t) (mLst m):=by
  intro F B H σ ρ r ρ' Q R e q
  obtain ⟨x,e1,e⟩:=Option.bind_eq_some_iff.mp e
  obtain ⟨y,e2,e⟩:=Option.bind_eq_some_iff.mp e
  obtain ⟨hz,e⟩:=cIf_eq e
  . cases e
    refine h F B H σ ρ x.1 x.2 _ R e1 fun vs B1 H1 E1 R1 V1=>?_
    obtain ⟨B2,R2,rp,E2⟩:=Rel.frzL R1 V1.weak e2
    refine ⟨by rw [rp.length]; exact hz,fun p hp=>?_⟩
    have:=res_end (res:=(.list y.1,true)) (k:=fun Q=>∀ p,H1 p=none->Q (.ref p) (upd H1 p (.lst vs))) (Q:=Q) R2 ⟨vs,rp,fun Q h=>h⟩ fun v B' H' E R' V' N=>q v B' H' (E1.trans (E2.trans E)) R' V' fun p z1 z2=>E1.live p (N p z1 z2)
    exact this p hp
def Views (B H:Hp):List V->List D->Prop
  | [],[]=>True
  | v::vs,d::ds=>View B H v d∧Views B H vs ds
  | _,_=>False
theorem Vl.views {F:Fr} {B H:Hp} {σ:St} {ρ:Rho} (R:Rel F B H σ ρ):∀ {vs:List V} {rs:List RV},Vl F B H σ ρ vs rs->Views B H vs (rs.map (·.1))
  | [],[],_=>trivial
  | v::vs,r::rs,⟨⟨h,n⟩,t⟩=>⟨h.view R,Vl.views R t⟩
def CallJ (r:List V->Hp->VK->Prop) (g:List D->Option (D × Bool)):Prop:=∀ (B H:Hp) (vs:List V) (ds:List D) (res:D × Bool),Same B H->Views B H vs ds->g ds=some res->ResOk B H res fun Q=>r vs H Q
def mCB (g:List D->Option (D × Bool)) (m:Rho->Option (List RV × Rho)):PM:=fun ρ=>(m ρ).bind fun x=>(g (x.1.map (·.1))).map fun res=>(resK res,x.2)
theorem me_cb {r:List V->Hp->VK->Prop} {g:List D->Option (D × Bool)} {t:TA} {m:Rho->Option (List RV × Rho)} (J:CallJ r g) (h:MA t m):ME (tCB r t) (mCB g m):=by
  intro F B H σ ρ r0 ρ' Q R e q
  obtain ⟨x,e1,e⟩:=Option.bind_eq_some_iff.mp e
  obtain ⟨res,e4,e⟩:=Option.map_eq_some_iff.mp e
  cases e
  refine h F B H σ ρ x.1 x.2 _ R e1 fun vs B1 H1 E1 R1 V1=>?_
  exact res_end R1 (J B1 H1 vs _ res R1.sub (V1.views R1) e4) fun w B3 H3 E3 R3 V4 N4=>q w B3 H3 (E1.trans E3) R3 V4 fun p z1 z2=>E1.live p (N4 p z1 z2)
def asI:RV × Rho->Option (Int × Rho)
  | ((.int i,_),ρ)=>some (i,ρ)
  | _=>none
theorem asI_eq {x:RV × Rho} {b:Int} {ρ:Rho} (h:asI x=some (b,ρ)):x.1.1=.int b∧x.2=ρ:=by
  obtain ⟨⟨d,k⟩,ρ0⟩:=x
  cases d with
  | int c=>cases h; exact ⟨rfl,rfl⟩
  | _=>cases h
def mPart (a:PM):Rho->Option (Option Int × Rho):=fun ρ=>((sv a ρ).bind asI).map fun x=>(some x.1,x.2)
def MO (t:TO) (m:Rho->Option (Option Int × Rho)):Prop :=
  ∀ (F:Fr) (B H:Hp) (σ:St) (ρ:Rho) (b:Option Int) (ρ':Rho) (Q:Option Int->Hp->Prop),Rel F B H σ ρ->m ρ=some (b,ρ') ->
    (∀ B' H',Ext σ ρ B H ρ' B' H'->Rel F B' H' σ ρ'->Q b H')->t σ H Q
theorem mo_some {ta:TE} {a:PM} (ha:ME ta a):MO (tPart ta) (mPart a):=by
  intro F B H σ ρ b ρ' Q R e q
  obtain ⟨y,e1,e⟩:=Option.map_eq_some_iff.mp e
  obtain ⟨x,e2,e3⟩:=Option.bind_eq_some_iff.mp e1
  cases e
  obtain ⟨h1,h2⟩:=asI_eq (b:=y.1) (ρ:=y.2) e3
  refine ha.sv F B H σ ρ x.1 x.2 _ R e2 fun v B1 H1 E1 R1 V1 N1=>?_
  have:=V1.view R1
  rw [h1] at this
  rw [h2] at E1 R1
  exact ⟨y.1,this.int,q B1 H1 E1 R1⟩
def SlJ (r:V->Option Int->Option Int->Hp->VK->Prop) (g:D->Option Int->Option Int->Option (D × Bool)):Prop :=
  ∀ (B H:Hp) (x:V) (c:D) (l u:Option Int) (res:D × Bool),Same B H->View B H x c->g c l u=some res->ResOk B H res fun Q=>r x l u H Q
def mSl (g:D->Option Int->Option Int->Option (D × Bool)) (a:PM) (l u:Rho->Option (Option Int × Rho)):PM:=fun ρ=>(sv a ρ).bind fun x=>(l x.2).bind fun y=>(u y.2).bind fun z=>(refr z.2 x.1).bind fun r=>(g r.1 y.1 z.1).map fun res=>(resK res,z.2)
theorem me_sl {r:V->Option Int->Option Int->Hp->VK->Prop} {g:D->Option Int->Option Int->Option (D × Bool)} {ta:TE} {tl tu:TO} {a:PM} {l u:Rho->Option (Option Int × Rho)} (J:SlJ r g) (ha:ME ta a) (hl:MO tl l) (hu:MO tu u):ME (tSl r ta tl tu) (mSl g a l u):=by
  intro F B H σ ρ r0 ρ' Q R e q
  obtain ⟨x,e1,e⟩:=Option.bind_eq_some_iff.mp e
  obtain ⟨y,e2,e⟩:=Option.bind_eq_some_iff.mp e
  obtain ⟨z,e3,e⟩:=Option.bind_eq_some_iff.mp e
  obtain ⟨r',e4,e⟩:=Option.bind_eq_some_iff.mp e
  obtain ⟨res,e5,e⟩:=Option.map_eq_some_iff.mp e
  cases e
  refine ha.sv F B H σ ρ x.1 x.2 _ R e1 fun v B1 H1 E1 R1 V1 N1=>?_
  refine hl F B1 H1 σ x.2 y.1 y.2 _ R1 e2 fun B2 H2 E2 R2=>?_
  refine hu F B2 H2 σ y.2 z.1 z.2 _ R2 e3 fun B3 H3 E3 R3=>?_
  obtain ⟨V3,n3⟩:=V1.next (E2.trans E3) R3 (sv_kind e1) e4
  exact res_end R3 (J B3 H3 v r'.1 y.1 z.1 res R3.sub (V3.view R3) e5) fun w B4 H4 E4 R4 V4 N4=>q w B4 H4 ((E1.trans (E2.trans E3)).trans E4) R4 V4 fun p z1 z2=>(E1.trans (E2.trans E3)).live p (N4 p z1 z2)
end Mir
set_option Elab.async false
set_option linter.all false
set_option maxRecDepth 100000
namespace Mir
open PySem L2
variable [Zc]
mutual
def pureD:D->Bool
  | .none=>true
  | .bool _=>true
  | .int _=>true
  | .str _=>true
  | .list _=>false
  | .tuple ds=>pureDs ds
  | .dict _=>false
def pureDs:List D->Bool
  | []=>true
  | d::ds=>pureD d && pureDs ds
end
mutual
theorem Rep.ofPure {B B':Hp} (k:∀ q xs,B q=some (.tup xs)->B' q=some (.tup xs)):∀ {v:V} {d:D},Rep B v d->pureD d=true->Rep B' v d
  | _,_,.non,_=>.non
  | _,_,.bl b,_=>.bl b
  | _,_,.int i,_=>.int i
  | _,_,.str x,_=>.str x
  | _,_,.lst _ _,h=>by simp [pureD] at h
  | _,_,.dct _ _,h=>by simp [pureD] at h
  | _,_,.tup h r,e=>.tup (k _ _ h) (Reps.ofPure k r (by simpa [pureD] using e))
theorem Reps.ofPure {B B':Hp} (k:∀ q xs,B q=some (.tup xs)->B' q=some (.tup xs)):∀ {v:List V} {d:List D},Reps B v d->pureDs d=true->Reps B' v d
  | _,_,.nil,_=>.nil
  | _,_,.cons a b,e=>by
    simp only [pureDs,Bool.and_eq_true] at e
    exact .cons (Rep.ofPure k a e.1) (Reps.ofPure k b e.2)
end
theorem RepKs.ofPure {B B':Hp} (k:∀ q xs,B q=some (.tup xs)->B' q=some (.tup xs)):∀ {v:List (Key × V)} {d:List (D × D)},RepKs B v d->pureDs (d.map (·.2))=true->RepKs B' v d
  | _,_,.nil,_=>.nil
  | _,_,.cons c a b,e=>by
    simp only [List.map_cons,pureDs,Bool.and_eq_true] at e
    exact .cons c (Rep.ofPure k a e.1) (RepKs.ofPure k b e.2)
def pureR (d:D) (o:Bool):Bool:=match o,d with
  | true,.list ds=>pureDs ds
  | true,.dict es=>pureDs (es.map (·.2))
  | true,_=>false
  | false,d=>pureD d
structure Post (B H:Hp) (v:V) (B' H':Hp) (d:D) (o:Bool):Prop where
  eH:Same H H'
  eB:Same B B'
  sub:Same B' H'
  nb:∀ q,H q≠none->B q=none->B' q=none
  tB:∀ q xs,H' q=some (.tup xs)->B' q=some (.tup xs)
  nz:∀ q o u,H' q=some (.frz o u)->H q≠none
  val:if o=true then ∃ p,v=.ref p∧H p=none∧B' p=none∧Own B' H' p d else Rep B' v d
def spM (f:List D->Option (D × Bool)):Sp:=fun vs H Q _=>∃ B ds d o,Same B H∧(∀ q xs,H q=some (.tup xs)->B q=some (.tup xs))∧Reps B vs ds∧f ds=some (d,o)∧∀ v B' H',Post B H v B' H' d o->Q v H'
def kO (d:D) (o:Bool):RV:=(d,if o=true then .new else .fz)
def mCall (f:List D->Option (D × Bool)) (m:Rho->Option (List RV × Rho)):PM:=fun ρ=>(m ρ).bind fun x=>(f (x.1.map (·.1))).bind fun w =>
  if pureR w.1 w.2=true then some (kO w.1 w.2,x.2) else (fzAll x.1 x.2).map fun y=>(kO w.1 w.2,y.2)
theorem Views.reps {B H:Hp} (e:Same B H):∀ {vs:List V} {ds:List D},Views B H vs ds->Reps H vs ds
  | [],[],_=>.nil
  | v::vs,d::ds,⟨h,t⟩=>.cons (h.rep e) (Views.reps e t)
theorem fzAll_eq:∀ {rs:List RV} {ρ ρ':Rho} {ds:List D},(∀ r∈rs,∀ i,r.2=.at i->∃ s,ρ[i]?=some s∧slD s=r.1)->fzAll rs ρ=some (ds,ρ')->ds=rs.map (·.1)
  | [],_,_,_,_,e=>by cases e; rfl
  | r::rs,ρ,ρ',ds,h,e=>by
    obtain ⟨x,e1,e⟩:=Option.bind_eq_some_iff.mp e
    obtain ⟨y,e2,e⟩:=Option.map_eq_some_iff.mp e
    cases e
    have hx:x.1=r.1∧∀ (i:Nat) (s:Sl),ρ[i]?=some s->∃ s',x.2[i]?=some s'∧slD s'=slD s:=by
      obtain ⟨d,k⟩:=r
      cases k with
      | fz=>cases e1; exact ⟨rfl,fun i s h=>⟨s,h,rfl⟩⟩
      | new=>cases e1
      | ro=>cases e1
      | «at» i =>
        obtain ⟨s,h1,h2⟩:=h (d,.at i) (by simp) i rfl
        have e':(match ρ[i]? with
          | some (.own d)=>some (d,ρ.set i (.fz d))
          | some (.fz d)=>some (d,ρ)
          | _=>none)=some x:=e1
        rw [h1] at e'
        cases s with
        | own c =>
          cases e'
          refine ⟨h2,fun j t hj=>?_⟩
          by_cases z:j=i
          . subst z
            rw [h1] at hj; cases hj
            obtain ⟨hl,_⟩:=List.getElem?_eq_some_iff.mp h1
            exact ⟨.fz c,by rw [List.getElem?_set_self hl],rfl⟩
          . exact ⟨t,by rw [List.getElem?_set_ne (fun e=>z e.symm)]; exact hj,rfl⟩
        | fz c=>cases e'; exact ⟨h2,fun i s h=>⟨s,h,rfl⟩⟩
        | no=>cases e'
        | ex=>cases e'
        | io c=>cases e'
        | ro c=>cases e'
    rw [List.map_cons,hx.1,fzAll_eq (ρ:=x.2) (fun r hr i hi=>?_) e2]
    obtain ⟨s,h1,h2⟩:=h r (List.mem_cons_of_mem _ hr) i hi
    obtain ⟨s',h3,h4⟩:=hx.2 i s h1
    exact ⟨s',h3,h4.trans h2⟩
theorem Vl.at {F:Fr} {B H:Hp} {σ:St} {ρ:Rho}:∀ {vs:List V} {rs:List RV},Vl F B H σ ρ vs rs->∀ r∈rs,∀ i,r.2=.at i->∃ s,ρ[i]?=some s∧slD s=r.1
  | [],[],_,r',hr,i,hi=>by cases hr
  | v::vs,r::rs,⟨⟨h,_⟩,t⟩,r',hr,i,hi=>by
    rcases List.mem_cons.mp hr with rfl | hr
    . obtain ⟨d,k⟩:=r'
      cases (show k=.at i from hi)
      obtain ⟨s,h1,_,h2,_⟩:=h
      exact ⟨s,h1,h2⟩
    . exact Vl.at t r' hr i hi
theorem me_call {f:List D->Option (D × Bool)} {E:XK} {t:TA} {m:Rho->Option (List RV × Rho)} (h:MA t m):ME (tCall (spM f) [] E t) (mCall f m):=by
  intro F B H σ ρ r0 ρ' Q R e q
  obtain ⟨x,e1,e⟩:=Option.bind_eq_some_iff.mp e
  obtain ⟨w,e2,e⟩:=Option.bind_eq_some_iff.mp e
  refine h F B H σ ρ x.1 x.2 _ R e1 fun vs B1 H1 E1 R1 V1=>?_
  rw [List.append_nil]
  by_cases hp:pureR w.1 w.2=true
  . rw [if_pos hp] at e
    cases e
    refine ⟨H1,_,w.1,w.2,Same.refl _,fun _ _ z=>z,(V1.views R1).reps R1.sub,e2,fun v B' H' P=>?_⟩
    let B2:Hp:=fun q=>if H1 q=none then B' q else B1 q
    have old:∀ q,H1 q≠none->B2 q=B1 q:=fun q z=>if_neg z
    have new:∀ q,H1 q=none->B2 q=B' q:=fun q z=>if_pos z
    have eB:Same B1 B2:=fun q o z=>by rw [old q (by rw [R1.sub q o z]; simp)]; exact z
    have sub:Same B2 H':=fun q o z=>by
      by_cases y:H1 q=none
      . rw [new q y] at z; exact P.sub q o z
      . rw [old q y] at z; exact P.eH q o (R1.sub q o z)
    have nb:∀ q,H1 q≠none->B1 q=none->B2 q=none:=fun q y z=>by rw [old q y]; exact z
    have tB:∀ q xs,H' q=some (.tup xs)->B2 q=some (.tup xs):=fun q xs z=>by
      cases y:H1 q with
      | none=>rw [new q y]; exact P.tB q xs z
      | some o =>
        have:=P.eH q o y
        rw [z] at this
        cases this
        rw [old q (by rw [y]; simp)]; exact R1.tupB q xs y
    have kt:∀ q xs,B' q=some (.tup xs)->B2 q=some (.tup xs):=fun q xs z=>tB q xs (P.sub q _ z)
    have R2:=R1.grow eB P.eH sub nb tB P.nz
    have E2:Ext σ x.2 B1 H1 x.2 B2 H':=Ext.grow eB P.eH nb
    obtain ⟨d,o⟩:=w
    cases o with
    | false =>
      have pv:Rep B' v d:=P.val
      exact q v B2 H' (E1.trans E2) R2 (show Rep B2 v d from pv.ofPure kt hp) fun p z=>by cases z
    | true =>
      obtain ⟨p,rfl,h1,h2,h3⟩:∃ p,v=.ref p∧H1 p=none∧B' p=none∧Own B' H' p d:=P.val
      have fr:=R1.free h1
      refine q _ B2 H' (E1.trans E2) R2 ⟨p,rfl,by rw [new p h1]; exact h2,fr.2.1,?_,fr.2.2⟩ fun p' _ z=>by cases z; exact E1.live p h1
      cases h3 with
      | lst h r=>exact .lst h (r.ofPure kt hp)
      | dct h r=>exact .dct h (r.ofPure kt hp)
  . rw [if_neg hp] at e
    obtain ⟨y,e3,e⟩:=Option.map_eq_some_iff.mp e
    cases e
    obtain ⟨B2,R2,rp,E2⟩:=Rel.frzL R1 V1.weak e3
    have hd:=fzAll_eq V1.at e3
    rw [hd] at rp
    refine ⟨B2,_,w.1,w.2,R2.sub,R2.tupB,rp,e2,fun v B' H' P=>?_⟩
    have R3:=R2.grow P.eB P.eH P.sub P.nb P.tB P.nz
    have E3:Ext σ y.2 B2 H1 y.2 B' H':=Ext.grow P.eB P.eH P.nb
    obtain ⟨d,o⟩:=w
    cases o with
    | false =>
      have pv:Rep B' v d:=P.val
      exact q v B' H' (E1.trans (E2.trans E3)) R3 pv fun p z=>by cases z
    | true =>
      obtain ⟨p,rfl,h1,h2,h3⟩:∃ p,v=.ref p∧H1 p=none∧B' p=none∧Own B' H' p d:=P.val
      have fr:=R2.free h1
      exact q _ B' H' (E1.trans (E2.trans E3)) R3 ⟨p,rfl,h2,fr.2.1,h3,fr.2.2⟩ fun p' _ z=>by cases z; exact E1.live p h1
def YldOk (B H:Hp) (x:V) (H':Hp) (d:D):Prop:=(H'=H∧Rep B x d)∨∃ p xs cs,d=.tuple cs∧x=.ref p∧H p=none∧H'=upd H p (.tup xs)∧Reps B xs cs
def ItOk (G B:Hp) (J:It) (ds:List D):Prop:=∀ H,Same G H->J.stop ds.length H∧∀ (i:Nat) (d:D),ds[i]?=some d->J.go i H∧∀ x H',J.yld i H x H'->YldOk B H x H' d
theorem ItOk.mono {G B B':Hp} {J:It} {ds:List D} (h:ItOk G B J ds) (e:Same B B'):ItOk G B' J ds:=fun H s=>⟨(h H s).1,fun i d hd=>⟨((h H s).2 i d hd).1,fun x H' y=>by
  rcases ((h H s).2 i d hd).2 x H' y with ⟨h1,h2⟩ | ⟨p,xs,cs,h1,h2,h3,h4,h5⟩
  . exact .inl ⟨h1,h2.mono e⟩
  . exact .inr ⟨p,xs,cs,h1,h2,h3,h4,h5.mono e⟩⟩⟩
def MI (t:TI) (m:Rho->Option (List D × Rho)):Prop :=
  ∀ (F:Fr) (B H:Hp) (σ:St) (ρ:Rho) (ds:List D) (ρ':Rho) (Q:It->Hp->Prop),Rel F B H σ ρ->m ρ=some (ds,ρ') ->
    (∀ J B' H',Ext σ ρ B H ρ' B' H'->Rel F B' H' σ ρ'->ItOk H' B' J ds->Q J H')->t σ H Q
def MF (t:TI) (m:Rho->Option (List D × Rho)):Prop :=
  ∀ (F:Fr) (B H:Hp) (σ:St) (ρ:Rho) (ds:List D) (ρ':Rho) (Q:It->Hp->Prop),Rel F B H σ ρ->m ρ=some (ds,ρ') ->
    (∀ J B' H',Ext σ ρ B H ρ' B' H'->Rel F B' H' σ ρ'->ItOk B' B' J ds->Q J H')->t σ H Q
theorem rd_sq {K:PySem.W.Frag} {H:Hp} {p:Addr} {xs:List V} (h:Rd H p (.lst xs)):SqL K H p xs:=.inl h
theorem itt_ok {K:PySem.W.Frag} {G B:Hp} {p:Addr} {xs:List V} {ds:List D} (h:G p=some (.tup xs)) (r:Reps B xs ds):ItOk G B (Itt K p) ds:=fun H s=>by
  have h':SqT K H p xs:=.inl (.inl (s _ _ h))
  refine ⟨⟨xs,h',by rw [r.length]; exact Nat.le_refl _⟩,fun i d hd=>?_⟩
  obtain ⟨x,h1,h2⟩:=r.get i d hd
  refine ⟨⟨xs,x,h',h1⟩,fun y H' hy=>.inl ⟨hy.1,?_⟩⟩
  have:=hy.2 xs h'
  rw [h1] at this
  cases this
  exact h2
def asT:D->Option (List D)
  | .tuple ds=>some ds
  | _=>none
theorem asT_eq {d:D} {ds:List D} (h:asT d=some ds):d=.tuple ds:=by cases d <;> first | cases h; rfl | cases h
def mItT (a:PM):Rho->Option (List D × Rho):=fun ρ=>(sv a ρ).bind fun x=>(asT x.1.1).map fun ds=>(ds,x.2)
section
variable {K:PySem.W.Frag} {ta:TE} {a:PM}
theorem mf_tup (ha:ME ta a):MF (iTup K ta) (mItT a):=by
  intro F B H σ ρ ds ρ' Q R e q
  obtain ⟨x,e1,e⟩:=Option.bind_eq_some_iff.mp e
  obtain ⟨ds',e2,e⟩:=Option.map_eq_some_iff.mp e
  cases e
  refine ha.sv F B H σ ρ x.1 x.2 _ R e1 fun v B1 H1 E1 R1 V1 N1=>?_
  have w:=V1.view R1
  rw [asT_eq e2] at w
  obtain ⟨p,xs,rfl,h1,h2⟩:=w.tuple R1.sub
  exact ⟨p,rfl,⟨xs,.inl (.inl h1)⟩,q _ B1 H1 E1 R1 (itt_ok (R1.tupB _ _ h1) h2)⟩
end
def rngD (lo:Int) (n:Nat):List D:=(List.range n).map fun (k:Nat)=>PyData.int (lo + (k:Int))
theorem itr_ok {G B:Hp} {lo:Int} {n:Nat}:ItOk G B (Itr lo n) (rngD lo n):=fun H _=>by
  refine ⟨by simp [rngD,Itr],fun i d hd=>?_⟩
  rw [rngD,List.getElem?_map] at hd
  obtain ⟨k,h1,h2⟩:=Option.map_eq_some_iff.mp hd
  have hk:=List.getElem?_eq_some_iff.mp h1
  obtain ⟨hl,hk⟩:=hk
  rw [List.getElem_range] at hk
  rw [List.length_range] at hl
  subst hk
  refine ⟨hl,fun x H' hy=>.inl ⟨hy.1,?_⟩⟩
  rw [hy.2,← h2]
  exact .int _
noncomputable def rg1:List RV × Rho->Option (List D × Rho)
  | ([(.int j,_)],ρ)=>cIf (-(2 ^ 62)≤j∧j < 2 ^ 62) (some (rngD 0 j.toNat,ρ)) none
  | _=>none
noncomputable def mRg1 (m:Rho->Option (List RV × Rho)):Rho->Option (List D × Rho):=fun ρ=>(m ρ).bind rg1
section
variable {ta:TA} {m:Rho->Option (List RV × Rho)}
theorem rng1_gen (h:MA ta m) (F:Fr) (B H:Hp) (σ:St) (ρ:Rho) (ds:List D) (ρ':Rho) (Q:It->Hp->Prop) (R:Rel F B H σ ρ) (e:mRg1 m ρ=some (ds,ρ'))
    (q:∀ J B' H',Ext σ ρ B H ρ' B' H'->Rel F B' H' σ ρ'->(∀ G,ItOk G B' J ds)->Q J H'):iRng1 ta σ H Q:=by
  obtain ⟨x,e1,e⟩:=Option.bind_eq_some_iff.mp e
  refine h F B H σ ρ x.1 x.2 _ R e1 fun vs B1 H1 E1 R1 V1=>?_
  obtain ⟨rs,ρ2⟩:=x
  unfold rg1 at e
  split at e
  . rename_i j k ρ3 heq
    cases heq
    obtain ⟨hj,e⟩:=cIf_eq e
    . cases e
      match vs,V1 with
      | [v],⟨⟨h1,_⟩,_⟩ =>
        have:v=.int j:=(h1.view R1).int
        subst this
        exact ⟨j,rfl,hj.1,hj.2,q _ B1 H1 E1 R1 fun G=>itr_ok⟩
  . cases e
theorem mi_rng1 (h:MA ta m):MI (iRng1 ta) (mRg1 m):=fun F B H σ ρ ds ρ' Q R e q=>rng1_gen h F B H σ ρ ds ρ' Q R e fun J B' H' E R' I=>q J B' H' E R' (I _)
theorem mf_rng1 (h:MA ta m):MF (iRng1 ta) (mRg1 m):=fun F B H σ ρ ds ρ' Q R e q=>rng1_gen h F B H σ ρ ds ρ' Q R e fun J B' H' E R' I=>q J B' H' E R' (I _)
end
end Mir
set_option Elab.async false
set_option linter.all false
set_option maxRecDepth 100000
namespace Mir
open PySem L2
variable [Zc]
section
variable {K:PySem.W.Frag} {ta:TA} {m:Rho->Option (List RV × Rho)}
end
def demote (ρ:Rho) (i:Nat):Sl:=match ρ[i]? with
  | some (.own d)=>.ro d
  | some (.io d)=>.ro d
  | some .ex=>.no
  | some s=>s
  | none=>.no
def asF:RV->Option D
  | (d,.fz)=>some d
  | _=>none
theorem asF_eq {r:RV} {d:D} (h:asF r=some d):r=(d,.fz):=by
  obtain ⟨c,k⟩:=r
  cases k with
  | fz=>cases h; rfl
  | _=>cases h
def compL (c:Rho->Option (Bool × Rho)) (e:PM) (ρn:Rho):List D->Option (List D)
  | []=>some []
  | d::ds=>(c (.fz d::ρn)).bind fun b=>if b.1=true then (sv e (.fz d::ρn)).bind fun y=>(asF y.1).bind fun z=>(compL c e ρn ds).map (z::·) else compL c e ρn ds
noncomputable def mLC (fr:List (Str × Nat)) (it:Rho->Option (List D × Rho)) (c:Rho->Option (Bool × Rho)) (e:PM):PM:=fun ρ=>(it ρ).bind fun x=>(compL c e (fr.map fun p=>demote x.2 p.2) x.1).bind fun ys=>cIf (ys.length < sizeLine) (some ((.list ys,.new),x.2)) none
def F0 (H:Hp):Fr:=⟨fun _=>none,fun _=>none,[],fun q=>H q≠none⟩
theorem demote_ex {ρ:Rho} {i:Nat}:demote ρ i≠.ex:=by
  unfold demote
  cases h : ρ[i]? with
  | none=>simp
  | some s=>cases s <;> simp
theorem demote_own {ρ:Rho} {i:Nat}:(demote ρ i).isOwn=false:=by
  unfold demote
  cases h : ρ[i]? with
  | none=>rfl
  | some s=>cases s <;> rfl
theorem Rel.inner {F:Fr} {B H:Hp} {σ:St} {ρ:Rho} (R:Rel F B H σ ρ) (fr:List (Str × Nat)) {v:V} {d:D} (h:Rep B v d):Rel (F0 H) B H (some v::compRest σ fr) (.fz d::fr.map fun p=>demote ρ p.2):=by
  have nown:∀ (i:Nat) (s:Sl),(Sl.fz d::fr.map fun p=>demote ρ p.2)[i]?=some s->s.isOwn=true->False:=fun i s h1 h2=>by
    cases i with
    | zero=>cases h1; cases h2
    | succ i =>
      have h1':(fr.map fun p=>demote ρ p.2)[i]?=some s:=by simpa using h1
      rw [List.getElem?_map] at h1'
      obtain ⟨p,_,e⟩:=Option.map_eq_some_iff.mp h1'
      rw [← e,demote_own] at h2
      cases h2
  have nex:∀ i:Nat,(Sl.fz d::fr.map fun p=>demote ρ p.2)[i]?=some Sl.ex->False:=fun i h1=>by
    cases i with
    | zero=>cases h1
    | succ i =>
      have h1':(fr.map fun p=>demote ρ p.2)[i]?=some Sl.ex:=by simpa using h1
      rw [List.getElem?_map] at h1'
      obtain ⟨p,_,e⟩:=Option.map_eq_some_iff.mp h1'
      exact absurd e demote_ex
  refine ⟨R.sub,(fun _ _ z=>by cases z),(fun _ _ z=>by cases z),fun _ z _=>absurd rfl z,by simp [compRest],fun i s hs=>?_,fun i j s t p h1 h2=>(nown i s h1 h2).elim,fun i d p h1=>(nown i _ h1 rfl).elim,(fun x hx=>by cases hx),fun i d h1=>(nown i _ h1 rfl).elim,R.tupB,(fun i h1=>(nex i h1).elim),fun q o u h z=>by rw [z] at h; cases h⟩
  cases i with
  | zero=>cases hs; exact ⟨v,rfl,h⟩
  | succ i =>
    have hs':(fr.map fun p=>demote ρ p.2)[i]?=some s:=by simpa using hs
    rw [List.getElem?_map] at hs'
    obtain ⟨p,hp,e⟩:=Option.map_eq_some_iff.mp hs'
    have hσ:∀ x,σ[p.2]?=some (some x)->(some v::compRest σ fr)[i + 1]?=some (some x):=fun x hx=>by
      rw [List.getElem?_cons_succ]
      unfold compRest
      rw [List.getElem?_map,hp,Option.map_some,List.getD_eq_getElem?_getD,hx]
      rfl
    unfold demote at e
    cases q : ρ[p.2]? with
    | none=>rw [q] at e; subst e; trivial
    | some s0 =>
      rw [q] at e
      have sl:=R.slot p.2 s0 q
      cases s0 with
      | no=>subst e; trivial
      | ex=>subst e; trivial
      | fz c=>subst e; obtain ⟨x,h1,h2⟩:=sl; exact ⟨x,hσ _ h1,h2⟩
      | own c=>subst e; obtain ⟨x,h1,_,h2⟩:=sl; exact ⟨x,hσ _ h1,h2⟩
      | io c=>subst e; obtain ⟨x,h1,_,h2⟩:=sl; exact ⟨x,hσ _ h1,h2⟩
      | ro c=>subst e; obtain ⟨x,h1,h2⟩:=sl; exact ⟨x,hσ _ h1,h2⟩
theorem inner_ext {ρ ρ':Rho} {σ:St} {B H B' H':Hp} (nown:∀ (i:Nat) (s:Sl),ρ[i]?=some s->s.isOwn=true->False) (E:Ext σ ρ B H ρ' B' H'):Same H H'∧∀ q,H q≠none->B q=none->B' q=none:=by
  have k:∀ q o,H q=some o->H' q=some o∧(B q=none->B' q=none):=fun q o h=>E.keep q o h fun i s h1 h2=>(nown i s h1 h2).elim
  refine ⟨fun q o h=>(k q o h).1,fun q h z=>?_⟩
  cases e:H q with
  | none=>exact absurd e h
  | some o=>exact (k q o e).2 z
theorem inner_nown {fr:List (Str × Nat)} {ρ:Rho} {d:D} (i:Nat) (s:Sl) (h1:(Sl.fz d::fr.map fun p=>demote ρ p.2)[i]?=some s) (h2:s.isOwn=true):False:=by
  cases i with
  | zero=>cases h1; cases h2
  | succ i =>
    have h1':(fr.map fun p=>demote ρ p.2)[i]?=some s:=by simpa using h1
    rw [List.getElem?_map] at h1'
    obtain ⟨p,_,e⟩:=Option.map_eq_some_iff.mp h1'
    rw [← e,demote_own] at h2
    cases h2
theorem me_lc {fr:List (Str × Nat)} {wi:TI} {tc:TT} {te:TE} {it:Rho->Option (List D × Rho)} {c:Rho->Option (Bool × Rho)} {e:PM} (hi:MI wi it) (hc:MT tc c) (he:ME te e):ME (tLC fr wi tc te) (mLC fr it c e):=by
  intro F B H σ ρ r0 ρ' Q R e0 q
  obtain ⟨x,e1,e0⟩:=Option.bind_eq_some_iff.mp e0
  obtain ⟨out,e2,e0⟩:=Option.bind_eq_some_iff.mp e0
  obtain ⟨hz,e0⟩:=cIf_eq e0
  cases e0
  refine hi F B H σ ρ x.1 x.2 _ R e1 fun J B1 H1 E1 R1 I1=>?_
  obtain ⟨ds,ρ1⟩:=x
  refine ⟨fun i m ys H2=>m=ds.length - i∧i≤ds.length∧∃ B2 done rest,Same B1 B2∧Same H1 H2∧(∀ q,H1 q≠none->B1 q=none->B2 q=none)∧Rel F B2 H2 σ ρ1∧Reps B2 ys done∧compL c e (fr.map fun p=>demote ρ1 p.2) (ds.drop i)=some rest∧done++rest=out,
    ⟨ds.length,rfl,Nat.zero_le _,B1,[],out,Same.refl _,Same.refl _,fun _ _ z=>z,R1,.nil,e2,rfl⟩,?_⟩
  rintro i m ys H2 ⟨rfl,hil,B2,done,rest,eB,eH,nb,R2,rp,hcl,hdr⟩
  have hlen:ys.length≤out.length:=by rw [← hdr,List.length_append,rp.length]; omega
  refine ⟨by omega,?_⟩
  by_cases hlt:i < ds.length
  . refine .inr ?_
    obtain ⟨go,yl⟩:=(I1 H2 eH).2 i ds[i] (List.getElem?_eq_getElem hlt)
    refine ⟨go,fun v H3 hy=>?_⟩
    rw [List.drop_eq_getElem_cons hlt] at hcl
    obtain ⟨b,c1,c2⟩:=Option.bind_eq_some_iff.mp (show (c (.fz ds[i]::fr.map fun p=>demote ρ1 p.2)).bind _=some rest from hcl)
    have had:∃ B3,Same B2 B3∧Same H2 H3∧(∀ q,H2 q≠none->B2 q=none->B3 q=none)∧Rel F B3 H3 σ ρ1∧Rep B3 v ds[i]:=by
      rcases yl v H3 hy with ⟨rfl,h2⟩ | ⟨p,xs,cs,h1,rfl,h3,rfl,h5⟩
      . exact ⟨B2,Same.refl _,Same.refl _,fun _ _ z=>z,R2,h2.mono eB⟩
      . obtain ⟨R3,E3,e3⟩:=R2.layT (xs:=xs) h3
        refine ⟨_,e3,same_upd h3,fun q h z=>?_,R3,?_⟩
        . rw [upd_ne (show q≠p from fun y=>h (by rw [y]; exact h3))]; exact z
        . rw [h1]; exact .tup upd_same (h5.mono (eB.trans e3))
    obtain ⟨B3,eB3,eH3,nb3,R3,rv⟩:=had
    have Ri:=R3.inner fr rv
    refine hc (F0 H3) B3 H3 _ _ b.1 b.2 _ Ri c1 fun B4 H4 E4 R4=>?_
    obtain ⟨eH4,nb4⟩:=inner_ext inner_nown E4
    have R4o:Rel F B4 H4 σ ρ1:=R3.grow E4.sB eH4 R4.sub nb4 R4.tupB R4.nz
    have nbA:∀ q,H1 q≠none->B1 q=none->B4 q=none:=fun q h z=>by
      have h2:H2 q≠none:=fun y=>h (eH.free y)
      have h3:H3 q≠none:=fun y=>h2 (eH3.free y)
      exact nb4 q h3 (nb3 q h2 (nb q h z))
    cases hb:b.1 with
    | false =>
      rw [hb,if_neg Bool.false_ne_true] at c2
      rw [if_neg Bool.false_ne_true]
      exact ⟨ds.length - (i + 1),by omega,rfl,hlt,B4,done,rest,eB.trans (eB3.trans E4.sB),eH.trans (eH3.trans eH4),nbA,R4o,rp.mono (eB3.trans E4.sB),c2,hdr⟩
    | true =>
      rw [hb,if_pos rfl] at c2
      rw [if_pos rfl]
      obtain ⟨y,c3,c2⟩:=Option.bind_eq_some_iff.mp c2
      obtain ⟨z,c4,c2⟩:=Option.bind_eq_some_iff.mp c2
      obtain ⟨rest',c5,c6⟩:=Option.map_eq_some_iff.mp c2
      subst c6
      have Ri4:=R4o.inner fr (rv.mono E4.sB)
      refine he.sv (F0 H4) B4 H4 _ _ y.1 y.2 _ Ri4 c3 fun u B5 H5 E5 R5 V5 N5=>?_
      obtain ⟨eH5,nb5⟩:=inner_ext inner_nown E5
      have R5o:Rel F B5 H5 σ ρ1:=R4o.grow E5.sB eH5 R5.sub nb5 R5.tupB R5.nz
      rw [asF_eq c4] at V5
      refine ⟨ds.length - (i + 1),by omega,rfl,hlt,B5,done++[z],rest',eB.trans (eB3.trans (E4.sB.trans E5.sB)),eH.trans (eH3.trans (eH4.trans eH5)),fun q h w=>?_,R5o,(rp.mono (eB3.trans (E4.sB.trans E5.sB))).append (.cons V5 .nil),c5,by rw [List.append_assoc]; exact hdr⟩
      have h2:H2 q≠none:=fun y=>h (eH.free y)
      have h3:H3 q≠none:=fun y=>h2 (eH3.free y)
      have h4:H4 q≠none:=fun y=>h3 (eH4.free y)
      exact nb5 q h4 (nbA q h w)
  . have hi':i=ds.length:=by omega
    subst hi'
    refine .inl ⟨(I1 H2 eH).1,fun p hp=>?_⟩
    rw [List.drop_length] at hcl
    cases hcl
    rw [List.append_nil] at hdr
    subst hdr
    have E2:Ext σ ρ1 B1 H1 ρ1 B2 H2:=Ext.grow eB eH nb
    have:=res_end (res:=(.list done,true)) (k:=fun Q=>∀ p,H2 p=none->Q (.ref p) (upd H2 p (.lst ys))) (Q:=Q) R2 ⟨ys,rp,fun Q h=>h⟩ fun v B' H' E R' V' N=>q v B' H' ((E1.trans E2).trans E) R' V' fun p z1 z2=>(E1.trans E2).live p (N p z1 z2)
    exact this p hp
end Mir
set_option Elab.async false
set_option linter.all false
set_option maxRecDepth 100000
namespace Mir
open PySem L2
variable [Zc]
def Sl.put:Sl->D->Sl
  | .own _,d=>.own d
  | .io _,d=>.io d
  | s,_=>s
section
variable {F:Fr} {B H:Hp} {σ:St} {ρ ρ':Rho} {v:V}
theorem SlotOk.at {B H:Hp} {σ σ':St} {i:Nat} {s:Sl} (e : σ'[i]?=σ[i]?) (h:SlotOk B H σ i s):SlotOk B H σ' i s:=by
  unfold SlotOk at h ⊢
  rw [e]; exact h
theorem Rel.write (R:Rel F B H σ ρ) {i:Nat} {s:Sl} {p:Addr} {o:HO} {d:D} (hi : ρ[i]?=some s) (hs:s.isOwn=true) (hv : σ[i]?=some (some (.ref p))) (no:(∀ xs,o≠.tup xs)∧∀ a u,o≠.frz a u) (ow:Own B (upd H p o) p d) :
    Rel F B (upd H p o) σ (ρ.set i (s.put d))∧Ext σ ρ B H (ρ.set i (s.put d)) B (upd H p o):=by
  obtain ⟨p',e1,hB,o0⟩:=R.ownAt hi hs
  rw [hv] at e1
  cases e1
  have hl:i < ρ.length:=(List.getElem?_eq_some_iff.mp hi).1
  have pO:(s.put d).isOwn=true∧slD (s.put d)=d:=by cases s <;> first | exact ⟨rfl,rfl⟩ | cases hs
  have ne:∀ (j:Nat) (t:Sl) (q:Addr),j≠i->ρ[j]?=some t->t.isRef=true->σ[j]?=some (some (.ref q))->q≠p:=fun j t q hj h1 h2 h3 z=>hj (R.dist i j s t p hi hs h1 h2 hv (z ▸ h3)).symm
  have nio:∀ (j:Nat) (t:Sl),(ρ.set i (s.put d))[j]?=some t->∃ t0,ρ[j]?=some t0∧t.isOwn=t0.isOwn∧t.isRef=t0.isRef∧(∀ c,t=.own c->∃ c0,t0=.own c0)∧∀ c,t=.io c->∃ c0,t0=.io c0:=fun j t h=>by
    rcases get_set h with ⟨rfl,rfl,_⟩ | ⟨_,h⟩
    . refine ⟨s,hi,?_⟩
      cases s with
      | own c=>exact ⟨rfl,rfl,fun _ _=>⟨_,rfl⟩,fun _ z=>by cases z⟩
      | io c=>exact ⟨rfl,rfl,(fun _ z=>by cases z),fun _ _=>⟨_,rfl⟩⟩
      | _=>cases hs
    . exact ⟨t,h,rfl,rfl,fun c z=>⟨c,z⟩,fun c z=>⟨c,z⟩⟩
  have hF:F.H p=none∨∃ x∈F.io,x.2=p:=by
    cases s with
    | own c=>exact .inl (R.ownN i c p hi hv)
    | io c =>
      obtain ⟨p',hp⟩:=R.ioN i c hi
      obtain ⟨h1,_⟩:=R.fx _ hp
      have h1' : σ[i]?=some (some (.ref p')):=h1
      rw [hv] at h1'
      cases h1'
      exact .inr ⟨_,hp,rfl⟩
    | _=>cases hs
  have nput:s.put d≠.ex:=by
    cases s with
    | own c=>simp [Sl.put]
    | io c=>simp [Sl.put]
    | _=>cases hs
  refine ⟨⟨?_,R.sB,?_,R.nB,by rw [List.length_set]; exact R.len,?_,?_,?_,?_,?_,?_,(fun j h=>R.exv j (ex_set nput h).1),fun q a u h=>by
    by_cases z:q=p
    . subst z; rw [upd_same] at h; cases h; exact absurd rfl (no.2 _ _)
    . rw [upd_ne z] at h; exact R.nz q a u h⟩,⟨Same.refl _,?_,?_,?_,?_⟩⟩
  . intro q u hq
    rw [upd_ne (show q≠p from fun z=>by rw [z,hB] at hq; cases hq)]; exact R.sub q u hq
  . intro q u h1 h2
    have z:q≠p:=fun z=>by
      rcases hF with h | ⟨x,hx,h⟩
      . rw [z,h] at h1; cases h1
      . exact h2 x hx (h.trans z.symm)
    rw [upd_ne z]; exact R.sH q u h1 h2
  . intro j t ht
    rcases get_set ht with ⟨rfl,rfl,_⟩ | ⟨hj,ht⟩
    . cases s with
      | own c=>exact ⟨p,hv,hB,ow⟩
      | io c=>exact ⟨p,hv,hB,ow⟩
      | _=>cases hs
    . have q:=R.slot j t ht
      have k:∀ q,q≠p->∀ u,H q=some u->upd H p o q=some u:=fun q z u h=>by rw [upd_ne z]; exact h
      cases t with
      | no=>trivial
      | ex=>trivial
      | fz c=>exact q
      | own c=>obtain ⟨q,h1,h2,h3⟩:=q; exact ⟨q,h1,h2,h3.mono (Same.refl _) (k q (ne j _ q hj ht rfl h1))⟩
      | io c=>obtain ⟨q,h1,h2,h3⟩:=q; exact ⟨q,h1,h2,h3.mono (Same.refl _) (k q (ne j _ q hj ht rfl h1))⟩
      | ro c=>obtain ⟨q,h1,h3⟩:=q; exact ⟨q,h1,h3.mono (Same.refl _) (k q (ne j _ q hj ht rfl h1))⟩
  . intro a b t u q h1 h2 h3 h4 h5 h6
    obtain ⟨t0,h1',e1,_,_,_⟩:=nio a t h1
    obtain ⟨u0,h3',_,e3,_,_⟩:=nio b u h3
    exact R.dist a b t0 u0 q h1' (e1 ▸ h2) h3' (e3 ▸ h4) h5 h6
  . intro j c q h1 h2
    obtain ⟨t0,h1',_,_,e1,_⟩:=nio j _ h1
    obtain ⟨c0,rfl⟩:=e1 c rfl
    exact R.ownN j c0 q h1' h2
  . intro x hx
    obtain ⟨h1,c,h2⟩:=R.fx x hx
    refine ⟨h1,?_⟩
    by_cases z:i=x.1
    . subst z
      rw [hi] at h2
      cases h2
      exact ⟨d,by rw [List.getElem?_set_self hl]; rfl⟩
    . exact ⟨c,by rw [List.getElem?_set_ne z]; exact h2⟩
  . intro j c h1
    obtain ⟨t0,h1',_,_,_,e1⟩:=nio j _ h1
    obtain ⟨c0,rfl⟩:=e1 c rfl
    exact R.ioN j c0 h1'
  . intro q xs h
    by_cases z:q=p
    . subst z; rw [upd_same] at h; cases h; exact absurd rfl (no.1 xs)
    . rw [upd_ne z] at h; exact R.tupB q xs h
  . intro q u h n
    refine ⟨?_,id⟩
    rw [upd_ne (show q≠p from fun z=>n i s hi hs (by rw [z]; exact hv))]; exact h
  . intro j t h1 h2
    obtain ⟨t0,h1',e1,_,_,_⟩:=nio j t h1
    exact ⟨t0,h1',e1 ▸ h2⟩
  . intro j t h1 h2
    obtain ⟨t0,h1',_,e1,_,_⟩:=nio j t h1
    exact ⟨t0,h1',e1 ▸ h2⟩
  . intro q h
    by_cases z:q=p
    . subst z; rw [upd_same] at h; cases h
    . rw [upd_ne z] at h; exact h
end
def putAt (ρ:Rho) (i:Nat) (d:D):Rho:=match ρ[i]? with
  | some s=>ρ.set i (s.put d)
  | none=>ρ
theorem Own.list {B H:Hp} {p:Addr} {ds:List D} (h:Own B H p (.list ds)):∃ xs,H p=some (.lst xs)∧Reps B xs ds:=by
  cases h with
  | lst h r=>exact ⟨_,h,r⟩
end Mir
set_option Elab.async false
set_option linter.all false
set_option maxRecDepth 100000
namespace Mir
open PySem L2
variable [Zc]
inductive Out where
  | nx (ρ:Rho) | rt (r:RV) (ρ:Rho) | bk (ρ:Rho) | ct (ρ:Rho)
abbrev SM:=Rho->Option Out
def OutOk (F:Fr) (D:Ends):Out->Prop
  | .nx ρ=>∀ B H σ,Rel F B H σ ρ->D.nx σ H
  | .rt r ρ=>∀ v B H σ,Rel F B H σ ρ->Val F B H σ ρ v r->D.rt v H
  | .bk ρ=>∀ B H σ,Rel F B H σ ρ->D.bk σ H
  | .ct ρ=>∀ B H σ,Rel F B H σ ρ->D.ct σ H
def MS (t:TS) (m:SM):Prop:=∀ (F:Fr) (B H:Hp) (σ:St) (ρ:Rho) (o:Out) (D:Ends),Rel F B H σ ρ->m ρ=some o->OutOk F D o->t D σ H
def mSeq (a b:SM):SM:=fun ρ=>(a ρ).bind fun o=>match o with
  | .nx ρ'=>b ρ'
  | o=>some o
theorem ms_seq {t u:TS} {a b:SM} (ha:MS t a) (hb:MS u b):MS (tSeq t u) (mSeq a b):=by
  intro F B H σ ρ o D R e q
  obtain ⟨x,e1,e⟩:=Option.bind_eq_some_iff.mp e
  refine ha F B H σ ρ x _ R e1 ?_
  cases x with
  | nx ρ'=>exact fun B' H' σ' R'=>hb F B' H' σ' ρ' o D R' e q
  | rt r ρ'=>cases e; exact q
  | bk ρ'=>cases e; exact q
  | ct ρ'=>cases e; exact q
def mPass:SM:=fun ρ=>some (.nx ρ)
theorem ms_next:MS tNext mPass:=by
  intro F B H σ ρ o D R e q
  cases e; exact q B H σ R
def mRet (a:PM):SM:=fun ρ=>(a ρ).map fun x=>.rt x.1 x.2
theorem ms_ret {t:TE} {a:PM} (ha:ME t a):MS (tRet t) (mRet a):=by
  intro F B H σ ρ o D R e q
  obtain ⟨x,e1,e⟩:=Option.map_eq_some_iff.mp e
  cases e
  exact ha F B H σ ρ x.1 x.2 _ R e1 fun v B' H' E R' V' N=>q v B' H' σ R' V'
def mIfS (c:Rho->Option (Bool × Rho)) (a b:SM):SM:=fun ρ=>(c ρ).bind fun x=>if x.1=true then a x.2 else b x.2
theorem ms_if {tc:TT} {t u:TS} {c:Rho->Option (Bool × Rho)} {a b:SM} (hc:MT tc c) (ha:MS t a) (hb:MS u b):MS (tIfS tc t u) (mIfS c a b):=by
  intro F B H σ ρ o D R e q
  obtain ⟨x,e1,e⟩:=Option.bind_eq_some_iff.mp e
  refine hc F B H σ ρ x.1 x.2 _ R e1 fun B' H' E R'=>?_
  by_cases h:x.1=true
  . rw [if_pos h] at e ⊢; exact ha F B' H' σ x.2 o D R' e q
  . rw [if_neg h] at e ⊢; exact hb F B' H' σ x.2 o D R' e q
def setSl (ρ:Rho) (i:Nat) (s:Sl):Option Rho:=match ρ[i]? with
  | none=>none
  | some (.io _)=>none
  | some _=>some (ρ.set i s)
theorem setSl_eq {ρ ρ':Rho} {i:Nat} {s:Sl} (h:setSl ρ i s=some ρ') : ρ'=ρ.set i s∧∃ s0,ρ[i]?=some s0∧∀ d,s0≠.io d:=by
  unfold setSl at h
  cases q : ρ[i]? with
  | none=>rw [q] at h; cases h
  | some s0 =>
    rw [q] at h
    cases s0 with
    | io d=>cases h
    | no=>cases h; exact ⟨rfl,_,rfl,fun _ z=>by cases z⟩
    | ex=>cases h; exact ⟨rfl,_,rfl,fun _ z=>by cases z⟩
    | fz _=>cases h; exact ⟨rfl,_,rfl,fun _ z=>by cases z⟩
    | own _=>cases h; exact ⟨rfl,_,rfl,fun _ z=>by cases z⟩
    | ro _=>cases h; exact ⟨rfl,_,rfl,fun _ z=>by cases z⟩
section
variable {F:Fr} {B H:Hp} {σ:St} {ρ ρ':Rho} {v:V}
theorem Rel.assignFz (R:Rel F B H σ ρ) {i:Nat} {d:D} (rp:Rep B v d) (h:setSl ρ i (.fz d)=some ρ'):Rel F B H (σ.set i (some v)) ρ':=by
  obtain ⟨rfl,s0,h0,nio⟩:=setSl_eq h
  have hl:i < ρ.length:=(List.getElem?_eq_some_iff.mp h0).1
  have hls:i < σ.length:=R.len ▸ hl
  have so:∀ j,j≠i->(σ.set i (some v))[j]?=σ[j]?:=fun j hj=>List.getElem?_set_ne fun e=>hj e.symm
  refine ⟨R.sub,R.sB,R.sH,R.nB,by rw [List.length_set,List.length_set]; exact R.len,?_,?_,?_,?_,?_,R.tupB,(fun j h=>by obtain ⟨h1,h2⟩:=ex_set (by simp) h; rw [so j h2]; exact R.exv j h1),R.nz⟩
  . intro j s hs
    rcases get_set hs with ⟨rfl,rfl,_⟩ | ⟨hj,hs⟩
    . exact ⟨v,List.getElem?_set_self hls,rp⟩
    . exact (R.slot j s hs).at (so j hj)
  . intro a b s t p h1 h2 h3 h4 h5 h6
    rcases get_set h1 with ⟨rfl,rfl,_⟩ | ⟨ha,h1⟩
    . cases h2
    . rcases get_set h3 with ⟨rfl,rfl,_⟩ | ⟨hb,h3⟩
      . cases h4
      . rw [so a ha] at h5; rw [so b hb] at h6; exact R.dist a b s t p h1 h2 h3 h4 h5 h6
  . intro j c p h1 h2
    rcases get_set h1 with ⟨rfl,e,_⟩ | ⟨hj,h1⟩
    . cases e
    . rw [so j hj] at h2; exact R.ownN j c p h1 h2
  . intro x hx
    obtain ⟨h1,c,h2⟩:=R.fx x hx
    have z:x.1≠i:=fun z=>by rw [z,h0] at h2; cases h2; exact nio _ rfl
    exact ⟨by rw [so _ z]; exact h1,c,by rw [List.getElem?_set_ne fun e=>z e.symm]; exact h2⟩
  . intro j c h1
    rcases get_set h1 with ⟨rfl,e,_⟩ | ⟨hj,h1⟩
    . cases e
    . exact R.ioN j c h1
theorem Rel.assignOwn (R:Rel F B H σ ρ) {i:Nat} {d:D} (vl:Val F B H σ ρ v (d,.new)) (h:setSl ρ i (.own d)=some ρ'):Rel F B H (σ.set i (some v)) ρ':=by
  obtain ⟨rfl,s0,h0,nio⟩:=setSl_eq h
  obtain ⟨p,rfl,hB,hF,ow,nn⟩:=vl
  have hl:i < ρ.length:=(List.getElem?_eq_some_iff.mp h0).1
  have hls:i < σ.length:=R.len ▸ hl
  have so:∀ j,j≠i->(σ.set i (some (.ref p)))[j]?=σ[j]?:=fun j hj=>List.getElem?_set_ne fun e=>hj e.symm
  have si:(σ.set i (some (.ref p)))[i]?=some (some (.ref p)):=List.getElem?_set_self hls
  refine ⟨R.sub,R.sB,R.sH,R.nB,by rw [List.length_set,List.length_set]; exact R.len,?_,?_,?_,?_,?_,R.tupB,(fun j h=>by obtain ⟨h1,h2⟩:=ex_set (by simp) h; rw [so j h2]; exact R.exv j h1),R.nz⟩
  . intro j s hs
    rcases get_set hs with ⟨rfl,rfl,_⟩ | ⟨hj,hs⟩
    . exact ⟨p,si,hB,ow⟩
    . exact (R.slot j s hs).at (so j hj)
  . intro a b s t q h1 h2 h3 h4 h5 h6
    rcases get_set h1 with ⟨rfl,rfl,_⟩ | ⟨ha,h1'⟩
    . rcases get_set h3 with ⟨rfl,rfl,_⟩ | ⟨hb,h3⟩
      . rfl
      . rw [si] at h5
        cases h5
        rw [so b hb] at h6
        exact absurd h6 (nn b t h3 h4)
    . rcases get_set h3 with ⟨rfl,rfl,_⟩ | ⟨hb,h3⟩
      . rw [si] at h6
        cases h6
        rw [so a ha] at h5
        exact absurd h5 (nn a s h1' (Sl.ref_of h2))
      . rw [so a ha] at h5; rw [so b hb] at h6; exact R.dist a b s t q h1' h2 h3 h4 h5 h6
  . intro j c q h1 h2
    rcases get_set h1 with ⟨rfl,e,_⟩ | ⟨hj,h1⟩
    . rw [si] at h2; cases h2; exact hF
    . rw [so j hj] at h2; exact R.ownN j c q h1 h2
  . intro x hx
    obtain ⟨h1,c,h2⟩:=R.fx x hx
    have z:x.1≠i:=fun z=>by rw [z,h0] at h2; cases h2; exact nio _ rfl
    exact ⟨by rw [so _ z]; exact h1,c,by rw [List.getElem?_set_ne fun e=>z e.symm]; exact h2⟩
  . intro j c h1
    rcases get_set h1 with ⟨rfl,e,_⟩ | ⟨hj,h1⟩
    . cases e
    . exact R.ioN j c h1
end
def sto (i:Nat) (x:RV × Rho):Option Rho:=match x.1.2 with
  | .fz=>setSl x.2 i (.fz x.1.1)
  | .new=>setSl x.2 i (.own x.1.1)
  | .at j=>if j=i then some x.2 else (fzOne x.1 x.2).bind fun y=>setSl y.2 i (.fz y.1)
  | .ro=>none
def mAsg (i:Nat) (a:PM):SM:=fun ρ=>(a ρ).bind fun x=>(sto i x).map .nx
theorem ms_asg {i:Nat} {t:TE} {a:PM} (ha:ME t a):MS (tAsg t (gName i)) (mAsg i a):=by
  intro F B H σ ρ o D R e q
  obtain ⟨x,e1,e⟩:=Option.bind_eq_some_iff.mp e
  obtain ⟨ρ2,e2,e⟩:=Option.map_eq_some_iff.mp e
  cases e
  refine ha F B H σ ρ x.1 x.2 _ R e1 fun v B1 H1 E1 R1 V1 N1=>?_
  show D.nx (σ.set i (some v)) H1
  obtain ⟨⟨d,k⟩,ρ1⟩:=x
  cases k with
  | fz=>exact q B1 H1 _ (R1.assignFz V1 e2)
  | new=>exact q B1 H1 _ (R1.assignOwn V1 e2)
  | ro=>cases e2
  | «at» j =>
    have e2':(if j=i then some ρ1 else (fzOne (d,.at j) ρ1).bind fun y=>setSl y.2 i (.fz y.1))=some ρ2:=e2
    obtain ⟨s,h1,h2,h3,h4⟩:=V1
    have h4' : σ[j]?=some (some v):=h4
    by_cases z:j=i
    . rw [if_pos z] at e2'
      cases e2'
      subst z
      have : σ.set j (some v)=σ:=by
        apply List.ext_getElem?
        intro k
        by_cases hk:k=j
        . subst hk
          obtain ⟨hl,_⟩:=List.getElem?_eq_some_iff.mp h4'
          rw [List.getElem?_set_self hl,h4']
        . rw [List.getElem?_set_ne fun e=>hk e.symm]
      rw [this]
      exact q B1 H1 _ R1
    . rw [if_neg z] at e2'
      obtain ⟨y,e3,e4⟩:=Option.bind_eq_some_iff.mp e2'
      obtain ⟨B2,R2,rp,E2⟩:=R1.frz (v:=v) (r:=(d,.at j)) (show WVal B1 σ v (d,.at j) from h4') e3
      exact q B2 H1 _ (R2.assignFz rp e4)
section
variable {F:Fr} {B B1 H H1:Hp} {σ σ1:St} {ρ ρ1:Rho}
theorem Rel.up (R1:Rel F B1 H1 σ1 ρ1) (R:Rel ⟨B1,F.H,F.io,F.Z⟩ B H σ ρ):Rel F B H σ ρ :=
  ⟨R.sub,R1.sB.trans R.sB,R.sH,fun q h z=>R.nB q h (R1.nB q h z),R.len,R.slot,R.dist,R.ownN,R.fx,R.ioN,R.tupB,R.exv,R.nz⟩
theorem Rel.down (R1:Rel F B1 H1 σ1 ρ1):Rel ⟨B1,F.H,F.io,F.Z⟩ B1 H1 σ1 ρ1 :=
  ⟨R1.sub,Same.refl _,R1.sH,fun q h z=>z,R1.len,R1.slot,R1.dist,R1.ownN,R1.fx,R1.ioN,R1.tupB,R1.exv,R1.nz⟩
end
theorem OutOk.down {F:Fr} {B1 H1:Hp} {σ1:St} {ρ1:Rho} (R1:Rel F B1 H1 σ1 ρ1) {D:Ends} {o:Out} (h:OutOk F D o):OutOk ⟨B1,F.H,F.io,F.Z⟩ D o:=by
  cases o with
  | nx ρ=>exact fun B H σ R=>h B H σ (R1.up R)
  | bk ρ=>exact fun B H σ R=>h B H σ (R1.up R)
  | ct ρ=>exact fun B H σ R=>h B H σ (R1.up R)
  | rt r ρ=>exact fun v B H σ R V=>h v B H σ (R1.up R) V
def retD:Out->Option (D × Bool)
  | .rt (d,.fz) _=>some (d,false)
  | .rt (d,.new) _=>some (d,true)
  | .rt (_,.at i) ρ=>match ρ[i]? with
    | some (.own d)=>some (d,true)
    | _=>none
  | .nx _=>some (.none,false)
  | _=>none
def fnM (n k:Nat) (b:SM) (ds:List D):Option (D × Bool):=if ds.length=n then (b (ds.map .fz++List.replicate k .no)).bind retD else none
theorem fn_run {n k:Nat} {b:SM} {t:TS} {N:List Str} {vs:List V} {H:Hp} {Q:VK} {E:XK} (hb:MS t b) (hN:N.length=n + k) (h:spM (fnM n k b) vs H Q E):t { nx:=fun _ H'=>Q .non H',rt:=Q } (L2.start N vs) H:=by
  obtain ⟨B,ds,d,o,sub,tB,rp,e,q⟩:=h
  unfold fnM at e
  split at e
  case isFalse=>cases e
  rename_i hl
  obtain ⟨w,e1,e2⟩:=Option.bind_eq_some_iff.mp e
  have hvl:vs.length=n:=rp.length.trans hl
  have own0:∀ (i:Nat) (s:Sl),(ds.map Sl.fz++List.replicate k .no)[i]?=some s->s.isRef=true->False:=fun i s h1 h2=>by
    have:=List.mem_of_getElem? h1
    rcases List.mem_append.mp this with h | h
    . obtain ⟨c,_,rfl⟩:=List.mem_map.mp h; cases h2
    . rw [List.eq_of_mem_replicate h] at h2; cases h2
  have ex0:∀ i:Nat,(ds.map Sl.fz++List.replicate k .no)[i]?=some Sl.ex->False:=fun i h1=>by
    have:=List.mem_of_getElem? h1
    rcases List.mem_append.mp this with h | h
    . obtain ⟨c,_,z⟩:=List.mem_map.mp h; cases z
    . have:=List.eq_of_mem_replicate h; cases this
  have R:Rel ⟨B,H,[],fun q=>H q≠none⟩ B H (L2.start N vs) (ds.map .fz++List.replicate k .no):=by
    refine ⟨sub,Same.refl _,fun _ _ z _=>z,fun _ _ z=>z,?_,fun i s hs=>?_,fun i j s t p h1 h2=>(own0 i s h1 (Sl.ref_of h2)).elim,fun i c p h1=>(own0 i _ h1 rfl).elim,(fun x hx=>by cases hx),fun i c h1=>(own0 i _ h1 rfl).elim,tB,(fun i h1=>(ex0 i h1).elim),fun q o u h z=>by rw [z] at h; cases h⟩
    . simp [L2.start,hl,hvl,hN]
    . by_cases hi:i < n
      . rw [List.getElem?_append_left (by simpa [hl] using hi),List.getElem?_map] at hs
        obtain ⟨c,h1,rfl⟩:=Option.map_eq_some_iff.mp hs
        obtain ⟨x,h2,h3⟩:=rp.get i c h1
        refine ⟨x,?_,h3⟩
        unfold L2.start
        rw [List.getElem?_append_left (by simpa [hvl] using hi),List.getElem?_map,h2]
        rfl
      . rw [List.getElem?_append_right (by simpa [hl] using Nat.le_of_not_lt hi)] at hs
        have:=List.eq_of_mem_replicate (List.mem_of_getElem? hs)
        subst this
        trivial
  refine hb _ B H _ _ w _ R e1 ?_
  have post:∀ {B' H':Hp} {σ':St} {ρ':Rho},Rel ⟨B,H,[],fun q=>H q≠none⟩ B' H' σ' ρ'->Same H H'∧Same B B'∧Same B' H'∧(∀ q,H q≠none->B q=none->B' q=none)∧(∀ q xs,H' q=some (.tup xs)->B' q=some (.tup xs))∧∀ q o u,H' q=some (.frz o u)->H q≠none:=fun R' =>
    ⟨fun q u z=>R'.sH q u z (fun x hx=>by cases hx),R'.sB,R'.sub,R'.nB,R'.tupB,R'.nz⟩
  cases w with
  | nx ρ' =>
    cases e2
    intro B' H' σ' R'
    obtain ⟨p1,p2,p3,p4,p5,p6⟩:=post R'
    exact q _ B' H' ⟨p1,p2,p3,p4,p5,p6,.non⟩
  | bk ρ'=>cases e2
  | ct ρ'=>cases e2
  | rt r ρ' =>
    intro v B' H' σ' R' V'
    obtain ⟨p1,p2,p3,p4,p5,p6⟩:=post R'
    obtain ⟨c,kd⟩:=r
    cases kd with
    | fz=>cases e2; exact q v B' H' ⟨p1,p2,p3,p4,p5,p6,V'⟩
    | new =>
      cases e2
      obtain ⟨p,rfl,h1,h2,h3,_⟩:=V'
      exact q _ B' H' ⟨p1,p2,p3,p4,p5,p6,⟨p,rfl,h2,h1,h3⟩⟩
    | ro=>cases e2
    | «at» i =>
      obtain ⟨s,h1,h2,h3,h4⟩:=V'
      have e2':(match ρ'[i]? with
        | some (.own d)=>some (d,true)
        | _=>none)=some (d,o):=e2
      rw [h1] at e2'
      cases s with
      | own c' =>
        cases e2'
        obtain ⟨p,g1,g2,g3⟩:=R'.slot i _ h1
        have h4' : σ'[i]?=some (some v):=h4
        rw [h4'] at g1
        cases g1
        exact q _ B' H' ⟨p1,p2,p3,p4,p5,p6,⟨p,rfl,R'.ownN i _ p h1 h4',g2,g3⟩⟩
      | _=>cases e2'
theorem spM_len {n k:Nat} {b:SM} {vs:List V} {H:Hp} {Q:VK} {E:XK} (h:spM (fnM n k b) vs H Q E):vs.length=n:=by
  obtain ⟨B,ds,d,o,sub,tB,rp,e,q⟩:=h
  unfold fnM at e
  split at e
  . rename_i hl; exact rp.length.trans hl
  . cases e
end Mir
set_option Elab.async false
set_option linter.all false
set_option maxRecDepth 100000
namespace Mir
open PySem L2 PySem.Spec PyProof.Rows
variable [Zc]
section
variable {X:Cx}
def rCatR:R2:=fun x y H Q=>∃ l b xs zs,x=.ref l∧y=.ref b∧Rd H l (.lst xs)∧Rd H b (.lst zs)∧xs.length + zs.length≤sizeLine∧∀ p,H p=none->Q (.ref p) (upd H p (.lst (xs++zs)))
theorem op_catR:OpR X (binaryOp .Add) rCatR:=by
  intro pins s σ H x y v u Q I rx ry h
  obtain ⟨l,b,xs,zs,rfl,rfl,hH,hB,hz,q⟩:=h
  cases rx
  cases ry
  obtain ⟨z,its,n,r,e⟩:=hH.ok I.hok
  obtain ⟨z2,its2,n2,r2,e2⟩:=hB.ok I.hok
  have hl:=r.length
  have hl2:=r2.length
  refine PySem.P.add_list e e2 ?_ (by rw [List.size_toArray,List.size_toArray]; omega)
  have ea:its.toArray++its2.toArray=(its++its2).toArray:=by simp
  rw [ea]
  exact ⟨.ref _,_,I.lnew (t':=s.toks) (r.append r2) (by rw [List.length_append]; omega),rfl,q _ I.fresh⟩
def rPlusM (K:PySem.W.Frag):R2:=fun x y H Q=>rI0 (fun i j=>.int (i + j)) x y H Q∨rCatR x y H Q∨(∃ i j,x=.str i∧y=.str j∧i.length + j.length≤sizeLine∧Q (.str (i++j)) H)∨rCatT K x y H Q
theorem op_addM:OpR X (binaryOp .Add) (rPlusM X.K):=op_add.or (op_catR.or (op_add_str.or op_catT))
end
theorem res_int {B H:Hp} {i:Int} {k:VK->Prop} (h:∀ Q:VK,Q (.int i) H->k Q):ResOk B H (.int i,false) k:=⟨_,.int i,h⟩
theorem res_bool {B H:Hp} {i:Bool} {k:VK->Prop} (h:∀ Q:VK,Q (.bl i) H->k Q):ResOk B H (.bool i,false) k:=⟨_,.bl i,h⟩
theorem res_str {B H:Hp} {i:Str} {k:VK->Prop} (h:∀ Q:VK,Q (.str i) H->k Q):ResOk B H (.str i,false) k:=⟨_,.str i,h⟩
noncomputable def gAdd:D->D->Option (D × Bool)
  | .int i,.int j=>some (.int (i + j),false)
  | .list a,.list b=>cIf (a.length + b.length≤sizeLine) (some (.list (a++b),true)) none
  | .str a,.str b=>cIf (a.length + b.length≤sizeLine) (some (.str (a++b),false)) none
  | .tuple (c::a),.tuple b=>cIf ((c::a).length + b.length≤sizeLine∧b≠[]) (some (.tuple ((c::a)++b),true)) none
  | _,_=>none
theorem J_add {K:PySem.W.Frag}:OpJ (rPlusM K) gAdd:=by
  intro B H x y c d res s hx hy e
  unfold gAdd at e
  split at e
  . cases e
    have h1:=hx.int; have h2:=hy.int; subst h1 h2
    exact res_int fun Q q=>.inl ⟨_,_,rfl,rfl,q⟩
  . obtain ⟨hz,e⟩:=cIf_eq e
    . cases e
      obtain ⟨p,xs,rfl,r1,rp1⟩:=hx.list s
      obtain ⟨p2,ys,rfl,r2,rp2⟩:=hy.list s
      exact ⟨xs++ys,rp1.append rp2,fun Q q=>.inr (.inl ⟨_,_,_,_,rfl,rfl,r1,r2,by rw [rp1.length,rp2.length]; exact hz,q⟩)⟩
  . obtain ⟨hz,e⟩:=cIf_eq e
    . cases e
      have h1:=hx.str; have h2:=hy.str; subst h1 h2
      exact res_str fun Q q=>.inr (.inr (.inl ⟨_,_,rfl,rfl,hz,q⟩))
  . obtain ⟨hz,e⟩:=cIf_eq e
    . cases e
      obtain ⟨p,xs,rfl,r1,rp1⟩:=hx.tuple s
      obtain ⟨p2,ys,rfl,r2,rp2⟩:=hy.tuple s
      have hne:xs≠[]:=by intro z; subst z; cases rp1
      have hne2:ys≠[]:=by intro z; subst z; cases rp2; exact hz.2 rfl
      refine ⟨xs++ys,rp1.append rp2,fun Q q=>.inr (.inr (.inr ⟨_,_,xs,ys,rfl,rfl,.inl (.inl r1),.inl (.inl r2),?_⟩))⟩
      exact ⟨hne,by rw [rp1.length,rp2.length]; exact hz.1,fun z=>absurd z hne2,fun _=>q⟩
  . cases e
noncomputable def gI (C:Int->Int->Prop) (f:Int->Int->Int):D->D->Option (D × Bool)
  | .int i,.int j=>cIf (C i j) (some (.int (f i j),false)) none
  | _,_=>none
theorem J_I {C:Int->Int->Prop} {f:Int->Int->Int}:OpJ (rI C fun i j=>.int (f i j)) (gI C f):=by
  intro B H x y c d res s hx hy e
  unfold gI at e
  split at e
  . obtain ⟨hc,e⟩:=cIf_eq e
    . cases e
      have h1:=hx.int; have h2:=hy.int; subst h1 h2
      exact res_int fun Q q=>⟨_,_,rfl,rfl,hc,q⟩
  . cases e
def gI0 (f:Int->Int->Int):D->D->Option (D × Bool)
  | .int i,.int j=>some (.int (f i j),false)
  | _,_=>none
theorem J_I0 {f:Int->Int->Int}:OpJ (rI0 fun i j=>.int (f i j)) (gI0 f):=by
  intro B H x y c d res s hx hy e
  unfold gI0 at e
  split at e
  . cases e
    have h1:=hx.int; have h2:=hy.int; subst h1 h2
    exact res_int fun Q q=>⟨_,_,rfl,rfl,q⟩
  . cases e
def gB0 (f:Int->Int->Bool):D->D->Option (D × Bool)
  | .int i,.int j=>some (.bool (f i j),false)
  | _,_=>none
theorem J_B0 {f:Int->Int->Bool}:OpJ (rI0 fun i j=>.bl (f i j)) (gB0 f):=by
  intro B H x y c d res s hx hy e
  unfold gB0 at e
  split at e
  . cases e
    have h1:=hx.int; have h2:=hy.int; subst h1 h2
    exact res_bool fun Q q=>⟨_,_,rfl,rfl,q⟩
  . cases e
abbrev gSub:=gI0 fun i j=>i - j
abbrev gLt:=gB0 fun i j=>decide (i < j)
abbrev gGt:=gB0 fun i j=>decide (j < i)
abbrev gGe:=gB0 fun i j=>decide (j≤i)
noncomputable abbrev gDiv:=gI CDiv fun i j=>i / j
noncomputable abbrev gMod:=gI (fun _ j=>0 < j) fun i j=>i % j
noncomputable abbrev gPow:=gI CPow fun i j=>i ^ j.toNat
section
variable {X:Cx}
end
mutual
theorem Rep.data {K:PySem.W.Frag} {H:Hp}:∀ {v:V} {d:D},Rep H v d->d.canLay0=true->DataV K H v d
  | _,_,.non,_=>.non
  | _,_,.bl b,_=>.bl b
  | _,_,.int i,_=>.int i
  | _,_,.str x,_=>.str x
  | _,_,.lst h r,e=>.lst (rd_sq h) (Reps.data r (by simpa [PyData.canLay0] using e))
  | _,_,.tup h r,e=>.tup (.inl (.inl h)) (Reps.data r (by simpa [PyData.canLay0] using e))
  | _,_,.dct _ _,e=>by simp [PyData.canLay0] at e
theorem Reps.data {K:PySem.W.Frag} {H:Hp}:∀ {v:List V} {d:List D},Reps H v d->PyData.canLayAll0 d=true->DataVs K H v d
  | _,_,.nil,_=>.nil
  | _,_,.cons a b,e=>by
    simp only [PyData.canLayAll0,Bool.and_eq_true] at e
    exact .cons (Rep.data a e.1) (Reps.data b e.2)
end
def gEq:D->D->Option (D × Bool):=fun c d=>if SeqAt.shaped c=true∧SeqAt.shaped d=true then some (.bool (PyData.eqv c d),false) else none
def gNe:D->D->Option (D × Bool):=fun c d=>if SeqAt.shaped c=true∧SeqAt.shaped d=true then some (.bool (!PyData.eqv c d),false) else none
theorem J_eq {K:PySem.W.Frag}:OpJ (rEqD K) gEq:=by
  intro B H x y c d res s hx hy e
  unfold gEq at e
  split at e
  . rename_i h
    cases e
    exact res_bool fun Q q=>⟨_,_,(hx.rep s).data (SeqAt.canLay_of_shaped h.1),(hy.rep s).data (SeqAt.canLay_of_shaped h.2),h.1,h.2,q⟩
  . cases e
theorem J_ne {K:PySem.W.Frag}:OpJ (rNeD K) gNe:=by
  intro B H x y c d res s hx hy e
  unfold gNe at e
  split at e
  . rename_i h
    cases e
    exact res_bool fun Q q=>⟨_,_,(hx.rep s).data (SeqAt.canLay_of_shaped h.1),(hy.rep s).data (SeqAt.canLay_of_shaped h.2),h.1,h.2,q⟩
  . cases e
def isNone:D->Bool
  | .none=>true
  | _=>false
theorem Rep.isNone {H:Hp} {v:V} {d:D} (h:Rep H v d):decide (v=.non)=Mir.isNone d:=by cases h <;> rfl
def gIs:D->D->Option (D × Bool)
  | c,.none=>some (.bool (isNone c),false)
  | _,_=>none
theorem J_is:OpJ (fun x y H Q=>y=.non∧Q (.bl (decide (x=.non))) H) gIs:=by
  intro B H x y c d res s hx hy e
  unfold gIs at e
  split at e
  . cases e
    exact res_bool fun Q q=>⟨hy.none,by rw [(hx.rep s).isNone]; exact q⟩
  . cases e
def gNeg:D->Option (D × Bool)
  | .int i=>some (.int (-i),false)
  | _=>none
theorem J_neg:UnJ (rU fun i=>.int (-i)) gNeg:=by
  intro B H x c res s hx e
  unfold gNeg at e
  split at e
  . cases e
    have h1:=hx.int; subst h1
    exact res_int fun Q q=>⟨_,rfl,q⟩
  . cases e
def gIx:D->D->Option (D × Bool)
  | .list ds,.int i=>(atI ds i).map fun d=>(d,false)
  | .tuple ds,.int i=>(atI ds i).map fun d=>(d,false)
  | _,_=>none
theorem Reps.atI {H:Hp} {vs:List V} {ds:List D} (r:Reps H vs ds) {i:Int} {d:D} (h:L2.atI ds i=some d):∃ v,L2.atI vs i=some v∧Rep H v d:=by
  unfold L2.atI at h ⊢
  rw [r.length]
  obtain ⟨j,h1,h2⟩:=Option.bind_eq_some_iff.mp h
  obtain ⟨v,h3,h4⟩:=r.get j d h2
  exact ⟨v,by rw [h1]; exact h3,h4⟩
theorem J_ix {K:PySem.W.Frag}:OpJ (rIx K) gIx:=by
  intro B H x y c d res s hx hy e
  unfold gIx at e
  split at e
  . obtain ⟨w,h1,h2⟩:=Option.map_eq_some_iff.mp e
    cases h2
    obtain ⟨p,xs,rfl,r1,rp1⟩:=hx.list s
    have h2:=hy.int; subst h2
    obtain ⟨v,h3,h4⟩:=rp1.atI h1
    exact ⟨v,h4,fun Q q=>.inl ⟨_,_,_,_,rfl,rfl,rd_sq r1,h3,q⟩⟩
  . obtain ⟨w,h1,h2⟩:=Option.map_eq_some_iff.mp e
    cases h2
    obtain ⟨p,xs,rfl,r1,rp1⟩:=hx.tuple s
    have h2:=hy.int; subst h2
    obtain ⟨v,h3,h4⟩:=rp1.atI h1
    exact ⟨v,h4,fun Q q=>.inr (.inl ⟨_,_,_,_,rfl,rfl,.inl (.inl r1),h3,q⟩)⟩
  . cases e
def cutD (ds:List D) (lo hi:Option Int):List D:=(ds.drop (HT.sIx ds.length 0 lo)).take (HT.sIx ds.length ds.length hi - HT.sIx ds.length 0 lo)
theorem Reps.cut {H:Hp} {vs:List V} {ds:List D} (r:Reps H vs ds) (lo hi:Option Int):Reps H (cutV vs lo hi) (cutD ds lo hi):=by
  unfold cutV cutD
  rw [r.length]
  exact (r.drop _).take _
def gSl:D->Option Int->Option Int->Option (D × Bool)
  | .list ds,lo,hi=>some (.list (cutD ds lo hi),true)
  | _,_,_=>none
theorem J_sl {K:PySem.W.Frag}:SlJ (rSlL K) gSl:=by
  intro B H x c l u res s hx e
  unfold gSl at e
  split at e
  . cases e
    obtain ⟨p,xs,rfl,r1,rp1⟩:=hx.list s
    exact ⟨_,rp1.cut _ _,fun Q q=>⟨_,_,rfl,rd_sq r1,q⟩⟩
  . cases e
noncomputable def gLen:List D->Option (D × Bool)
  | [.list ds]=>some (.int ds.length,false)
  | [.tuple ds]=>some (.int ds.length,false)
  | [.str x]=>cIf (x.length≤sizeLine) (some (.int x.length,false)) none
  | _=>none
theorem views1 {B H:Hp} {vs:List V} {d:D} (h:Views B H vs [d]):∃ v,vs=[v]∧View B H v d:=by
  match vs,h with
  | [v],⟨h,_⟩=>exact ⟨v,rfl,h⟩
theorem J_len {K:PySem.W.Frag}:CallJ (rLen K) gLen:=by
  intro B H vs ds res s h e
  unfold gLen at e
  split at e
  . cases e
    obtain ⟨v,rfl,hh⟩:=views1 h
    obtain ⟨p,xs,rfl,r1,rp1⟩:=hh.list s
    exact res_int fun Q q=>.inl ⟨_,_,rfl,.inl (rd_sq r1),by rw [rp1.length]; exact q⟩
  . cases e
    obtain ⟨v,rfl,hh⟩:=views1 h
    obtain ⟨p,xs,rfl,r1,rp1⟩:=hh.tuple s
    exact res_int fun Q q=>.inl ⟨_,_,rfl,.inr (.inl (.inl r1)),by rw [rp1.length]; exact q⟩
  . obtain ⟨hz,e⟩:=cIf_eq e
    . cases e
      obtain ⟨v,rfl,hh⟩:=views1 h
      have:=hh.str; subst this
      exact res_int fun Q q=>.inr ⟨_,rfl,hz,q⟩
  . cases e
def boolsOf:List D->Option (List Bool)
  | []=>some []
  | .bool i::ds=>(boolsOf ds).map (i::·)
  | _=>none
theorem Reps.bools {H:Hp}:∀ {vs:List V} {ds:List D} {ns:List Bool},Reps H vs ds->boolsOf ds=some ns->vs=ns.map V.bl
  | _,_,_,.nil,e=>by cases e; rfl
  | _,_,_,.cons (d:=d) a b,e=>by
    cases d with
    | bool i =>
      obtain ⟨ms,h1,h2⟩:=Option.map_eq_some_iff.mp (show (boolsOf _).map _=some _ from e)
      cases h2
      cases a
      rw [List.map_cons,Reps.bools b h1]
    | _=>cases e
def gAll:List D->Option (D × Bool)
  | [.list ds]=>(boolsOf ds).map fun ns=>(.bool (ns.all id),false)
  | _=>none
theorem J_all {K:PySem.W.Frag}:CallJ (rAll K) gAll:=by
  intro B H vs ds res s h e
  unfold gAll at e
  split at e
  . obtain ⟨ns,h1,h2⟩:=Option.map_eq_some_iff.mp e
    cases h2
    obtain ⟨v,rfl,hh⟩:=views1 h
    obtain ⟨p,xs,rfl,r1,rp1⟩:=hh.list s
    have:=rp1.bools h1; subst this
    exact res_bool fun Q q=>⟨_,_,rfl,rd_sq r1,q⟩
  . cases e
def gList:List D->Option (D × Bool)
  | [.list ds]=>some (.list ds,true)
  | [.tuple ds]=>some (.list ds,true)
  | _=>none
theorem J_list {K:PySem.W.Frag}:CallJ (fun xs H Q=>∃ p ys,xs=[.ref p]∧(SqL K H p ys∨SqT K H p ys)∧∀ l,H l=none->Q (.ref l) (upd H l (.lst ys))) gList:=by
  intro B H vs ds res s h e
  unfold gList at e
  split at e
  . cases e
    obtain ⟨v,rfl,hh⟩:=views1 h
    obtain ⟨p,xs,rfl,r1,rp1⟩:=hh.list s
    exact ⟨xs,rp1,fun Q q=>⟨_,_,rfl,.inl (rd_sq r1),q⟩⟩
  . cases e
    obtain ⟨v,rfl,hh⟩:=views1 h
    obtain ⟨p,xs,rfl,r1,rp1⟩:=hh.tuple s
    exact ⟨xs,rp1,fun Q q=>⟨_,_,rfl,.inr (.inl (.inl r1)),q⟩⟩
  . cases e
def tyD:D->String
  | .none=>"NoneType"
  | .bool _=>"bool"
  | .int _=>"int"
  | .str _=>"str"
  | .list _=>"list"
  | .tuple _=>"tuple"
  | .dict _=>"?"
theorem Rep.ty {H:Hp} {v:V} {d:D} (h:Rep H v d) (hd:tyD d≠"?"):tyN H v=tyD d:=by
  cases h with
  | non=>rfl
  | bl _=>rfl
  | int _=>rfl
  | str _=>rfl
  | lst h _ =>
    rcases h with h | ⟨o,h⟩
    . unfold tyN; simp only [h]; rfl
    . unfold tyN; simp only [h]; rfl
  | tup h _=>unfold tyN; simp only [h]; rfl
  | dct _ _=>exact absurd rfl hd
def gIsi (n:String):D->Option (D × Bool):=fun d=>if tyD d≠"?"∧n∈tyAsked then some (.bool (tyIs (tyD d) n),false) else none
def mIsi (n:String) (a:PM):PM:=mUn (gIsi n) a
theorem me_isi {n:String} {ta:TE} {a:PM} (ha:ME ta a):ME (tCB rIsi (tCons ta (tCons (tC (.ty n)) tNil))) (mIsi n a):=by
  intro F B H σ ρ r0 ρ' Q R e q
  obtain ⟨x,e1,e⟩:=Option.bind_eq_some_iff.mp e
  obtain ⟨res,e4,e⟩:=Option.map_eq_some_iff.mp e
  cases e
  refine ha.sv F B H σ ρ x.1 x.2 _ R e1 fun v B1 H1 E1 R1 V1 N1=>?_
  unfold gIsi at e4
  split at e4
  . rename_i hd
    cases e4
    have rp:=(V1.view R1).rep R1.sub
    have ht:=rp.ty hd.1
    have hk:tyD x.1.1∈tyKnown:=by
      have h2:=hd.1
      revert h2
      cases x.1.1 with
      | none=>intro _; show "NoneType"∈tyKnown; decide
      | bool _=>intro _; show "bool"∈tyKnown; decide
      | int _=>intro _; show "int"∈tyKnown; decide
      | str _=>intro _; show "str"∈tyKnown; decide
      | list _=>intro _; show "list"∈tyKnown; decide
      | tuple _=>intro _; show "tuple"∈tyKnown; decide
      | dict _=>intro h2; exact absurd rfl h2
    exact ⟨v,n,rfl,by rw [ht]; exact hk,hd.2,by rw [ht]; exact q _ B1 H1 E1 R1 (.bl _) fun p z=>by cases z⟩
  . cases e4
def flatD:D->Bool
  | .none=>true
  | .bool _=>true
  | .int _=>true
  | .str _=>true
  | _=>false
theorem Rep.flat {H:Hp} {v:V} {d:D} (h:Rep H v d) (e:flatD d=true):flatV v=true:=by cases h <;> first | rfl | cases e
theorem Rep.eqv {H:Hp} {v w:V} {c d:D} (h:Rep H v c) (g:Rep H w d) (e:flatD c=true) (e':flatD d=true):eqV v w=PyData.eqv c d:=by
  cases h <;> first | (cases e; done) | (cases g <;> first | (cases e'; done) | (simp [eqV,PyData.eqv]))
end Mir
set_option Elab.async false
set_option linter.all false
set_option maxRecDepth 100000
namespace Mir
open PySem L2 PySem.Spec PyProof.Rows
variable [Zc]
section
variable {X:Cx} {K:PySem.W.Frag}
theorem op_addK (h:X.K=K):OpR X (binaryOp .Add) (rPlusM K):=h ▸ op_addM
theorem op_eqK (h:X.K=K) (hu:X.A.units + 64 < cLine):OpR X (compareOp .Eq) (rEqD K):=h ▸ op_eqD hu
theorem op_neK (h:X.K=K) (hu:X.A.units + 64 < cLine):OpR X (compareOp .NotEq) (rNeD K):=h ▸ op_neD hu
theorem ix_seqK (h:X.K=K):IxR X (rIx K):=h ▸ ix_seq
theorem sl_listK (h:X.K=K):SlR X (rSlL K):=h ▸ sl_list
theorem call_lenK (h:X.K=K):CallR X (.builtin "len") (rLen K):=h ▸ call_lenU
theorem call_allK (h:X.K=K) (hc:X.calm=true):CallR X (.builtin "all") (rAll K):=h ▸ call_all hc
theorem call_listK (h:X.K=K):CallR X (.type "list") (fun xs H Q=>∃ p ys,xs=[.ref p]∧(SqL K H p ys∨SqT K H p ys)∧∀ l,H l=none->Q (.ref l) (upd H l (.lst ys))):=h ▸ call_list_of
variable {tg l o e:Expr} {es:List Expr} {tl to:TE} {t:TA} {name:Str} {apos cpos:Pos} {T id:String} {r:V->List V->Hp->VK->Prop}
theorem pi_listK (h:X.K=K) (hl:PE X l tl):PI X tg l (iList K tl):=h ▸ pi_list hl
theorem pi_tupK (h:X.K=K) (hl:PE X l tl):PI X tg l (iTup K tl):=h ▸ pi_tup hl
theorem pe_bmK (h:X.K=K) (pa:PlainAttrs T) (slot:Slot T name id) (hty:typeOf (.builtin id)=pure (.type "method_descriptor")) (hm:MtR X id r) (ho:PE X o to) (ha:PA X (e::es) t)
    (hbase:attributeBase o name X.env (eval o X.env)=eval o X.env:=by rfl)
    (hfew:((backTo cpos (starEach (e::es) X.env)).all (fun x=>!x.1) && (backToKw cpos (keywordEach [] X.env)).all (fun x=>x.1.isSome)
      && decide ((e::es).length + ([]:List Keyword).length + (if ([]:List Keyword).isEmpty then 0 else 1) < 30))=true:=by rfl)
    (hline:(apos.endLine == cpos.line)=true:=by rfl) (hs:starEach (e::es) X.env=(false,eval e X.env)::starEach es X.env:=by rfl) (hplain:(backTo cpos (starEach es X.env)).any (·.1)=false:=by rfl) :
    PE X (.Call (.Attribute o name apos) (e::es) [] cpos) (tBM K T r to t):=h ▸ pe_bm pa slot hty hm ho ha hbase hfew hline hs hplain
end
def noLists (K:PySem.W.Frag):Bool:=K.all fun p=>match p.2.cls with
  | .type n=>n != "list"
  | _=>true
theorem mem_look {α:Type}:∀ {l:List (Addr × α)} {a:Addr} {o : α},l.lookup a=some o->(a,o)∈l
  | (b,c)::l,a,o,h=>by
    rw [List.lookup_cons] at h
    by_cases z:a=b
    . subst z
      rw [beq_self_eq_true] at h
      cases h
      exact List.mem_cons_self
    . rw [beq_eq_false_iff_ne.mpr z] at h
      exact List.mem_cons_of_mem _ (mem_look h)
theorem sq_rd {K:PySem.W.Frag} (h:noLists K=true) {H:Hp} {a:Addr} {xs:List V} (s:SqL K H a xs):Rd H a (.lst xs):=by
  rcases s with s | ⟨o,its,n,hk,hc,_⟩
  . exact s
  . have:=List.all_eq_true.mp h _ (mem_look hk)
    dsimp only at this
    rw [hc] at this
    simp at this
theorem reps_ints {H:Hp}:∀ ns:List Int,Reps H (ns.map V.int) (ns.map PyData.int)
  | []=>.nil
  | n::ns=>.cons (.int n) (reps_ints ns)
theorem law_sp {K:PySem.W.Frag} (h:noLists K=true) {f:List D->Option (D × Bool)} (T:∀ ns:List Int,ns.length≤63->(∀ k∈ns,Builtin.Int.intBits k≤1048576)->f [.list (ns.map .int)]=some (.bool true,false))
    (vs:List V) (H:Hp) (Q:VK) (E:XK) (s:spLaw K vs H Q E):spM f vs H Q E:=by
  obtain ⟨a,ns,rfl,hS,hl,hb,q⟩:=s
  refine ⟨H,_,_,_,Same.refl _,fun _ _ z=>z,.cons (.lst (sq_rd h hS) (reps_ints ns)) .nil,T ns hl hb,fun v B' H' P=>?_⟩
  have pv:Rep B' v (.bool true):=P.val
  cases pv
  exact q _
end Mir
set_option Elab.async false
set_option linter.all false
set_option maxRecDepth 100000
namespace Mir
open PySem L2
variable [Zc]
abbrev dI (l:List Int):D:=.list (l.map .int)
theorem beqI (i j:Int):(i == j)=decide (i=j):=by by_cases h:i=j <;> simp [h]
theorem gEq_int (i j:Int):gEq (.int i) (.int j)=some (.bool (decide (i=j)),false):=by
  unfold gEq
  rw [if_pos ⟨rfl,rfl⟩]
  simp only [PyData.eqv,beqI]
theorem gNe_int (i j:Int):gNe (.int i) (.int j)=some (.bool (!decide (i=j)),false):=by
  unfold gNe
  rw [if_pos ⟨rfl,rfl⟩]
  simp only [PyData.eqv,beqI]
theorem canLay_ints:∀ l:List Int,PyData.canLayAll0 (l.map .int)=true
  | []=>rfl
  | _::l=>by simp only [List.map_cons,PyData.canLayAll0,PyData.canLay0,canLay_ints l,Bool.and_self]
theorem depth_ints (l:List Int):(dI l).depth≤2:=by
  have h:∀ l:List Int,PyData.depthAll (l.map .int)≤1:=by
    intro l
    induction l with
    | nil=>simp [PyData.depthAll]
    | cons a l ih=>simp only [List.map_cons,PyData.depthAll,PyData.depth]; omega
  have:=h l
  simp only [dI,PyData.depth]
  omega
theorem shaped_ints (l:List Int):SeqAt.shaped (dI l)=true:=by
  unfold SeqAt.shaped
  have h:=depth_ints l
  rw [decide_eq_true (by omega),Bool.and_true]
  simp only [dI,PyData.canLay0,canLay_ints]
theorem eqvAll_ints:∀ a b:List Int,PyData.eqvAll (a.map .int) (b.map .int)=decide (a=b)
  | [],[]=>by simp [PyData.eqvAll]
  | [],_::_=>by simp [PyData.eqvAll]
  | _::_,[]=>by simp [PyData.eqvAll]
  | x::a,y::b=>by
    simp only [List.map_cons,PyData.eqvAll,PyData.eqv,eqvAll_ints a b]
    by_cases h:x=y <;> by_cases g:a=b <;> simp [h,g]
theorem eqv_ints (a b:List Int):PyData.eqv (dI a) (dI b)=decide (a=b):=by simp only [dI,PyData.eqv,eqvAll_ints]
theorem gEq_ints (a b:List Int):gEq (dI a) (dI b)=some (.bool (decide (a=b)),false):=by
  unfold gEq
  rw [if_pos ⟨shaped_ints a,shaped_ints b⟩,eqv_ints]
theorem gNe_ints (a b:List Int):gNe (dI a) (dI b)=some (.bool (!decide (a=b)),false):=by
  unfold gNe
  rw [if_pos ⟨shaped_ints a,shaped_ints b⟩,eqv_ints]
theorem isi_int_int (i:Int):gIsi "int" (.int i)=some (.bool true,false):=by simp [gIsi,tyD,tyAsked,tyIs]
theorem isi_int_bool (i:Int):gIsi "bool" (.int i)=some (.bool false,false):=by simp [gIsi,tyD,tyAsked,tyIs]
theorem atI_nat {α:Type} (xs:List α) (i:Nat):atI xs (i:Int)=xs[i]?:=by
  unfold atI ixN
  rw [if_pos (by omega)]
  split
  . simp
  . rename_i h
    rw [Option.bind_none,List.getElem?_eq_none (by omega)]
theorem atI_pos {α:Type} (xs:List α) (i:Int) (h : 0≤i):atI xs i=xs[i.toNat]?:=by
  have:=atI_nat xs i.toNat
  rw [Int.toNat_of_nonneg h] at this
  exact this
theorem atI_last {α:Type} (xs:List α):atI xs (-1)=xs.getLast?:=by
  unfold atI ixN
  rw [if_neg (by omega)]
  cases xs with
  | nil=>simp
  | cons a l =>
    rw [if_pos (by simp only [List.length_cons]; omega),Option.bind_some,List.getLast?_eq_getElem?]
    congr 1
    simp only [List.length_cons]; omega
theorem pureDs_nil:pureDs []=true:=by simp only [pureDs]
theorem pureDs_int (i:Int) (l:List D):pureDs (.int i::l)=pureDs l:=by simp only [pureDs,pureD,Bool.true_and]
theorem pureDs_ints:∀ l:List Int,pureDs (l.map .int)=true
  | []=>pureDs_nil
  | i::l=>by rw [List.map_cons,pureDs_int,pureDs_ints l]
theorem seq_nx {a b:SM} {ρ ρ1:Rho} {o:Option Out} (h1:a ρ=some (.nx ρ1)) (h2:b ρ1=o):mSeq a b ρ=o:=by
  unfold mSeq; simp only [h1,Option.bind_some,h2]
theorem seq_rt {a b:SM} {ρ ρ1:Rho} {r:RV} (h1:a ρ=some (.rt r ρ1)):mSeq a b ρ=some (.rt r ρ1):=by
  unfold mSeq; simp only [h1,Option.bind_some]
theorem fn_of {n k:Nat} {b:SM} {ds:List D} {o:Out} {w:D × Bool} (h0:ds.length=n) (h1:b (ds.map .fz++List.replicate k .no)=some o) (h2:retD o=some w):fnM n k b ds=some w:=by
  unfold fnM; rw [if_pos h0,h1,Option.bind_some,h2]
theorem call_pure {f:List D->Option (D × Bool)} {m:Rho->Option (List RV × Rho)} {ρ ρ1:Rho} {rs:List RV} {d:D} {o:Bool} (h1:m ρ=some (rs,ρ1)) (h2:f (rs.map (·.1))=some (d,o)) (h3:pureR d o=true):mCall f m ρ=some (kO d o,ρ1):=by
  unfold mCall; rw [h1,Option.bind_some]; dsimp only; rw [h2,Option.bind_some,if_pos h3]
theorem ret_eq {a:PM} {ρ ρ1:Rho} {r:RV} (h:a ρ=some (r,ρ1)):mRet a ρ=some (.rt r ρ1):=by
  unfold mRet; rw [h,Option.map_some]
theorem rg1_eq {m:Rho->Option (List RV × Rho)} {ρ ρ1:Rho} {j:Int} {k:Kd} (h1:m ρ=some ([(.int j,k)],ρ1)) (h2 : -(2 ^ 62)≤j∧j < 2 ^ 62):mRg1 m ρ=some (rngD 0 j.toNat,ρ1):=by
  unfold mRg1; rw [h1,Option.bind_some]; show cIf _ _ _=_; rw [cIf_pos h2]
end Mir
set_option Elab.async false
set_option linter.all false
set_option maxRecDepth 100000
namespace Mir
open PySem L2
variable [Zc]
def SF (s:Sl):Prop:=s=.no∨∃ d,s=.fz d
theorem SF.fz (d:D):SF (.fz d):=.inr ⟨d,rfl⟩
theorem SF.no:SF .no:=.inl rfl
theorem boolsOf_rep:∀ n:Nat,boolsOf (List.replicate n (.bool true))=some (List.replicate n true)
  | 0=>rfl
  | n + 1=>by rw [List.replicate_succ]; simp only [boolsOf,boolsOf_rep n,Option.map_some,List.replicate_succ]
theorem all_rep (n:Nat):(List.replicate n true).all id=true:=by
  induction n with
  | zero=>rfl
  | succ n ih=>rw [List.replicate_succ,List.all_cons,ih]; rfl
theorem gAll_rep (n:Nat):gAll [.list (List.replicate n (.bool true))]=some (.bool true,false):=by
  simp only [gAll,boolsOf_rep,Option.map_some,all_rep]
theorem sz_le {n:Nat} (h:n≤100000):n≤sizeLine:=Nat.le_trans h (by decide)
theorem sz_lt {n:Nat} (h:n≤100000):n < sizeLine:=Nat.lt_of_le_of_lt h (by decide)
end Mir
set_option Elab.async false
set_option linter.all false
set_option maxRecDepth 100000
namespace Mir
open PySem L2 PySem.Spec PyProof.Rows
variable [Zc]
end Mir
set_option Elab.async false
set_option linter.all false
set_option maxRecDepth 100000
namespace Mir
open PySem L2
variable [Zc]
def inD (x:D) (ds:List D):Bool:=ds.any fun d=>PyData.eqv d x
theorem Reps.inV {H:Hp} {v:V} {c:D} (g:Rep H v c) (e:flatD c=true):∀ {vs:List V} {ds:List D},Reps H vs ds->ds.all flatD=true->inV v vs=inD c ds
  | _,_,.nil,_=>rfl
  | _,_,.cons a b,h=>by
    simp only [List.all_cons,Bool.and_eq_true] at h
    have:=Reps.inV g e b h.2
    unfold L2.inV inD at this ⊢
    rw [List.any_cons,List.any_cons,this,a.eqv g h.1 e]
section
variable {X:Cx} {K:PySem.W.Frag}
end
end Mir
set_option Elab.async false
set_option linter.all false
set_option maxRecDepth 100000
namespace Mir
open PySem L2
variable [Zc]
section
variable {a b:PM} {ρ ρ1 ρ2 ρ3:Rho} {x y d:D} {r:RV} {res:D × Bool}
theorem sv_new (h:a ρ=some ((d,.new),ρ1)):sv a ρ=some ((d,.fz),ρ1):=by unfold sv; rw [h]
theorem sv_fz (h:a ρ=some ((d,.fz),ρ1)):sv a ρ=some ((d,.fz),ρ1):=by unfold sv; rw [h]
theorem sv_at {i:Nat} (h:a ρ=some ((d,.at i),ρ1)):sv a ρ=some ((d,.at i),ρ1):=by unfold sv; rw [h]
theorem op_ev {g:D->D->Option (D × Bool)} (h1:sv a ρ=some ((x,.fz),ρ1)) (h2:sv b ρ1=some (r,ρ2)) (h3:g x r.1=some res):mOp g a b ρ=some (resK res,ρ2):=by
  unfold mOp; rw [h1,Option.bind_some]; dsimp only; rw [h2,Option.bind_some]; dsimp only [refr,Option.bind_some]; rw [h3,Option.map_some]
theorem op_at {g:D->D->Option (D × Bool)} {i:Nat} (h1:sv a ρ=some ((x,.at i),ρ1)) (h2:sv b ρ1=some (r,ρ2)) (h4 : ρ2[i]?=some (.own y)) (h3:g y r.1=some res):mOp g a b ρ=some (resK res,ρ2):=by
  unfold mOp; rw [h1,Option.bind_some]; dsimp only; rw [h2,Option.bind_some]; dsimp only [refr]; rw [h4]; dsimp only [Option.bind_some]; rw [h3,Option.map_some]
theorem cons_fz {m:Rho->Option (List RV × Rho)} {rs:List RV} (h1:sv a ρ=some ((x,.fz),ρ1)) (h2:m ρ1=some (rs,ρ2)):mCons a m ρ=some ((x,.fz)::rs,ρ2):=by
  unfold mCons; rw [h1,Option.bind_some]; dsimp only; rw [h2,Option.bind_some]; rfl
theorem nil_ev:mNil ρ=some ([],ρ):=rfl
theorem var_fz {i:Nat} (h : ρ[i]?=some (.fz d)):mVar i ρ=some ((d,.fz),ρ):=by unfold mVar; rw [h]
theorem var_own {i:Nat} (h : ρ[i]?=some (.own d)):mVar i ρ=some ((d,.at i),ρ):=by unfold mVar; rw [h]
theorem cb_ev {g:List D->Option (D × Bool)} {m:Rho->Option (List RV × Rho)} {rs:List RV} (h1:m ρ=some (rs,ρ1)) (h2:g (rs.map (·.1))=some res):mCB g m ρ=some (resK res,ρ1):=by
  unfold mCB; rw [h1,Option.bind_some]; dsimp only; rw [h2,Option.map_some]
theorem asg_fz {i:Nat} (h1:a ρ=some ((d,.fz),ρ1)) (h2:setSl ρ1 i (.fz d)=some ρ2):mAsg i a ρ=some (.nx ρ2):=by
  unfold mAsg; rw [h1,Option.bind_some]; dsimp only [sto]; rw [h2,Option.map_some]
theorem asg_new {i:Nat} (h1:a ρ=some ((d,.new),ρ1)) (h2:setSl ρ1 i (.own d)=some ρ2):mAsg i a ρ=some (.nx ρ2):=by
  unfold mAsg; rw [h1,Option.bind_some]; dsimp only [sto]; rw [h2,Option.map_some]
theorem if_t {c:Rho->Option (Bool × Rho)} {s t:SM} {o:Option Out} (h1:c ρ=some (true,ρ1)) (h2:s ρ1=o):mIfS c s t ρ=o:=by
  unfold mIfS; rw [h1,Option.bind_some]; dsimp only; rw [if_pos rfl,h2]
theorem if_f {c:Rho->Option (Bool × Rho)} {s t:SM} {o:Option Out} (h1:c ρ=some (false,ρ1)) (h2:t ρ1=o):mIfS c s t ρ=o:=by
  unfold mIfS; rw [h1,Option.bind_some]; dsimp only; rw [if_neg Bool.false_ne_true,h2]
theorem test_ev {k:Kd} {v:Bool} (h:a ρ=some ((.bool v,.fz),ρ1)):mTest a ρ=some (v,ρ1):=by
  unfold mTest; rw [sv_fz h]; rfl
theorem not_ev {c:Rho->Option (Bool × Rho)} {v:Bool} (h:c ρ=some (v,ρ1)):mNot c ρ=some (!v,ρ1):=by unfold mNot; rw [h]; rfl
theorem or_t {c e:Rho->Option (Bool × Rho)} (h:c ρ=some (true,ρ1)):mOr c e ρ=some (true,ρ1):=by unfold mOr; rw [h]; rfl
theorem or_f {c e:Rho->Option (Bool × Rho)} {o:Option (Bool × Rho)} (h:c ρ=some (false,ρ1)) (h2:e ρ1=o):mOr c e ρ=o:=by unfold mOr; rw [h]; simpa using h2
theorem gAdd_list (a b:List D) (h:a.length + b.length≤100000):gAdd (.list a) (.list b)=some (.list (a++b),true):=by
  show cIf _ _ _=_; rw [cIf_pos (sz_le h)]
theorem lst_ev {m:Rho->Option (List RV × Rho)} {rs:List RV} {ds:List D} (h1:m ρ=some (rs,ρ1)) (h2:fzAll rs ρ1=some (ds,ρ2)) (h3:ds.length≤100000):mLst m ρ=some ((.list ds,.new),ρ2):=by
  unfold mLst; rw [h1,Option.bind_some]; dsimp only; rw [h2,Option.bind_some]; dsimp only; rw [cIf_pos (sz_le h3)]
theorem tup_ev {m:Rho->Option (List RV × Rho)} {rs:List RV} {ds:List D} (h1:m ρ=some (rs,ρ1)) (h2:fzAll rs ρ1=some (ds,ρ2)) (h3:ds.length≤100000):mTup m ρ=some ((.tuple ds,.fz),ρ2):=by
  unfold mTup; rw [h1,Option.bind_some]; dsimp only; rw [h2,Option.bind_some]; dsimp only; rw [cIf_pos (sz_le h3)]
theorem lc_ev {fr:List (Str × Nat)} {it:Rho->Option (List D × Rho)} {c:Rho->Option (Bool × Rho)} {e:PM} {ds ys:List D} (h1:it ρ=some (ds,ρ1)) (h2:compL c e (fr.map fun p=>demote ρ1 p.2) ds=some ys) (h3:ys.length≤100000) :
    mLC fr it c e ρ=some ((.list ys,.new),ρ1):=by
  unfold mLC; rw [h1,Option.bind_some]; dsimp only; rw [h2,Option.bind_some,cIf_pos (sz_lt h3)]
end
theorem rngD_map (n:Nat):rngD 0 n=(List.range n).map fun k:Nat=>PyData.int (k:Int):=by
  unfold rngD
  congr 1
  funext k
  rw [Int.zero_add]
def IE (m:PM) (ρ:Rho) (v:Int):Prop:=m ρ=some ((.int v,.fz),ρ)
def BE (m:PM) (ρ:Rho) (v:Bool):Prop:=m ρ=some ((.bool v,.fz),ρ)
section
variable {a b:PM} {ρ:Rho} {i j:Int} {u v:Bool}
theorem op_i {g:D->D->Option (D × Bool)} {k:Int} (h1:IE a ρ i) (h2:IE b ρ j) (h3:g (.int i) (.int j)=some (.int k,false)):IE (mOp g a b) ρ k:=op_ev (sv_fz h1) (sv_fz h2) h3
theorem op_b {g:D->D->Option (D × Bool)} {k:Bool} (h1:IE a ρ i) (h2:IE b ρ j) (h3:g (.int i) (.int j)=some (.bool k,false)):BE (mOp g a b) ρ k:=op_ev (sv_fz h1) (sv_fz h2) h3
theorem ie_c:IE (mC (.int i)) ρ i:=rfl
theorem ie_var {k:Nat} (h : ρ[k]?=some (.fz (.int i))):IE (mVar k) ρ i:=var_fz h
theorem ie_add (h1:IE a ρ i) (h2:IE b ρ j):IE (mOp gAdd a b) ρ (i + j):=op_i h1 h2 rfl
theorem ie_sub (h1:IE a ρ i) (h2:IE b ρ j):IE (mOp gSub a b) ρ (i - j):=op_i h1 h2 rfl
theorem gI_ev {C:Int->Int->Prop} {f:Int->Int->Int} (h:C i j):gI C f (.int i) (.int j)=some (.int (f i j),false):=by show cIf _ _ _=_; rw [cIf_pos h]
theorem ie_div (h1:IE a ρ i) (h2:IE b ρ j) (h:CDiv i j):IE (mOp gDiv a b) ρ (i / j):=op_i h1 h2 (gI_ev h)
theorem ie_mod (h1:IE a ρ i) (h2:IE b ρ j) (h : 0 < j):IE (mOp gMod a b) ρ (i % j):=op_i h1 h2 (gI_ev (C:=fun _ j=>0 < j) h)
theorem ie_pow (h1:IE a ρ i) (h2:IE b ρ j) (h:CPow i j):IE (mOp gPow a b) ρ (i ^ j.toNat):=op_i h1 h2 (gI_ev h)
theorem ie_neg (h1:IE a ρ i):IE (mUn gNeg a) ρ (-i):=by unfold IE mUn; rw [sv_fz h1]; rfl
theorem be_eq (h1:IE a ρ i) (h2:IE b ρ j):BE (mOp gEq a b) ρ (decide (i=j)):=op_b h1 h2 (gEq_int i j)
theorem be_lt (h1:IE a ρ i) (h2:IE b ρ j):BE (mOp gLt a b) ρ (decide (i < j)):=op_b h1 h2 rfl
theorem be_gt (h1:IE a ρ i) (h2:IE b ρ j):BE (mOp gGt a b) ρ (decide (j < i)):=op_b h1 h2 rfl
theorem be_ge (h1:IE a ρ i) (h2:IE b ρ j):BE (mOp gGe a b) ρ (decide (j≤i)):=op_b h1 h2 rfl
theorem BE.t (h:BE a ρ v):mTest a ρ=some (v,ρ):=test_ev (k:=.fz) h
theorem BE.is (h:BE a ρ u) (e:u=v):BE a ρ v:=e ▸ h
theorem IE.is (h:IE a ρ i) (e:i=j):IE a ρ j:=e ▸ h
theorem be_call {f:List D->Option (D × Bool)} {m:Rho->Option (List RV × Rho)} {rs:List RV} (h1:m ρ=some (rs,ρ)) (h2:f (rs.map (·.1))=some (.bool v,false)):BE (mCall f m) ρ v:=call_pure h1 h2 rfl
theorem IE.cons {m:Rho->Option (List RV × Rho)} {rs:List RV} (h:IE a ρ i) (h2:m ρ=some (rs,ρ)):mCons a m ρ=some ((.int i,.fz)::rs,ρ):=cons_fz (sv_fz h) h2
theorem be_and (h1:BE a ρ u) (h2:u=true->BE b ρ v) (h3:u=false->v=false):BE (mAndV a b) ρ v:=by
  unfold BE mAndV
  rw [h1.t]
  cases u with
  | true=>exact h2 rfl
  | false=>rw [h3 rfl]; rfl
theorem be_not (h1:BE a ρ u):BE (mNotV a) ρ (!u):=by unfold BE mNotV; rw [h1.t]; rfl
end
section
variable {a b:PM} {ρ:Rho} {i j:Int} {u v:Bool}
theorem tstB (h:BE a ρ u) (e:u=v):mTest a ρ=some (v,ρ):=e ▸ h.t
theorem consI {m:Rho->Option (List RV × Rho)} {rs:List RV} (h:IE a ρ i) (h2:m ρ=some (rs,ρ)):mCons a m ρ=some ((.int i,.fz)::rs,ρ):=cons_fz (sv_fz h) h2
end
theorem ifE_t {c:Rho->Option (Bool × Rho)} {a b:PM} {ρ ρ1:Rho} {o:Option (RV × Rho)} (h1:c ρ=some (true,ρ1)) (h2:a ρ1=o):mIfE c a b ρ=o:=by unfold mIfE; rw [h1]; simpa using h2
theorem ifE_f {c:Rho->Option (Bool × Rho)} {a b:PM} {ρ ρ1:Rho} {o:Option (RV × Rho)} (h1:c ρ=some (false,ρ1)) (h2:b ρ1=o):mIfE c a b ρ=o:=by unfold mIfE; rw [h1]; simpa using h2
theorem isi_ev {n:String} {a:PM} {ρ ρ1:Rho} {d:D} {k:Kd} {v:Bool} (h1:sv a ρ=some ((d,k),ρ1)) (h2:gIsi n d=some (.bool v,false)):mIsi n a ρ=some ((.bool v,.fz),ρ1):=by
  unfold mIsi mUn; rw [h1,Option.bind_some]; dsimp only; rw [h2]; rfl
end Mir
set_option Elab.async false
set_option linter.all false
set_option maxRecDepth 100000
namespace Mir
open PySem L2
variable [Zc]
end Mir
set_option Elab.async false
set_option linter.all false
set_option maxRecDepth 100000
namespace L2
open PySem PySem.Spec PyProof.Rows
variable {X:Cx}
end L2
namespace Mir
open PySem L2
variable [Zc]
theorem gLen_ints (l:List Int):gLen [.list (l.map .int)]=some (.int (l.length:Int),false):=by show some (PyData.int ((l.map PyData.int).length:Int),false)=_; rw [List.length_map]
end Mir
set_option Elab.async false
set_option linter.all false
set_option maxRecDepth 100000
namespace Mir
open PySem L2
inductive OutE where
  | ok (o:Out) | er (c:Str) (ρ:Rho)
section
variable [Zc]
end
end Mir
namespace L2
open PySem PySem.Spec PyProof.Rows
end L2
set_option Elab.async false
set_option linter.all false
set_option maxRecDepth 100000
namespace L2
open PySem PySem.Spec PyProof.Rows
def okX (K:PySem.W.Frag) (C:Addr) (cls:Value):Prop:=∃ D,cls=.ref D∧ExcK K D∧PySem.W.exmOne K cls (.ref C)=some true
end L2
set_option Elab.async false
set_option linter.all false
set_option maxRecDepth 100000
namespace L2
open PySem PySem.Spec PyProof.Rows
theorem Vals.picks {xs:List V} {us:List Value} (r:Vals xs us):∀ is:List Nat,Vals (is.filterMap (xs[·]?)) (is.filterMap (us[·]?))
  | []=>.nil
  | i::is=>by
    cases h:xs[i]? with
    | none=>rw [List.filterMap_cons_none h,List.filterMap_cons_none (r.none_of h)]; exact r.picks is
    | some x =>
      obtain ⟨u,h1,h2⟩:=r.get h
      rw [List.filterMap_cons_some h,List.filterMap_cons_some h1]
      exact .cons h2 (r.picks is)
section
variable {X:Cx} {e:Expr} {te:TE} {est:Expr} {lo hi:Option Expr} {tl th tk:TO} {pos p2:Pos}
end
end L2
namespace Mir
open PySem L2
variable [Zc]
theorem Reps.picks {H:Hp} {vs:List V} {ds:List D} (r:Reps H vs ds):∀ is:List Nat,Reps H (is.filterMap (vs[·]?)) (is.filterMap (ds[·]?))
  | []=>.nil
  | i::is=>by
    cases h:ds[i]? with
    | none =>
      have h':vs[i]?=none:=by
        rw [List.getElem?_eq_none_iff] at h ⊢
        rw [r.length]; exact h
      rw [List.filterMap_cons_none h,List.filterMap_cons_none h']; exact r.picks is
    | some x =>
      obtain ⟨u,h1,h2⟩:=r.get i x h
      rw [List.filterMap_cons_some h,List.filterMap_cons_some h1]
      exact .cons h2 (r.picks is)
end Mir
set_option Elab.async false
set_option linter.all false
set_option maxRecDepth 100000
namespace Mir
open PySem L2
section
variable [Zc]
def LF (B:Hp):Prop:=∀ q o,B q=some o->∃ xs,o=.tup xs
structure FrP (F:Fr):Prop where
  lf:LF F.B
  io:F.io=[]
  zh:∀ q,F.Z q->F.H q≠none
def MSP (t:TS) (m:SM):Prop:=∀ (F:Fr) (B H:Hp) (σ:St) (ρ:Rho) (o:Out) (D:Ends),FrP F->Rel F B H σ ρ->m ρ=some o->OutOk F D o->t D σ H
theorem MS.p {t:TS} {m:SM} (h:MS t m):MSP t m:=fun F B H σ ρ o D _ R e q=>h F B H σ ρ o D R e q
def tups (H:Hp):Hp:=fun q=>match H q with
  | some (.tup xs)=>some (.tup xs)
  | _=>none
theorem Reps.put {B B':Hp} (k:∀ q xs,B q=some (.tup xs)->B' q=some (.tup xs)) {x:V} {c c':D} (hr:Rep B' x c'):∀ {vs:List V} {ds:List D} (j:Nat),Reps B vs ds->vs[j]?=some x->ds[j]?=some c->pureDs (ds.set j .none)=true->Reps B' vs (ds.set j c')
  | _,_,_,.nil,h,_,_=>by simp at h
  | _,_,0,.cons a b,h1,h2,e=>by
    simp only [List.getElem?_cons_zero,Option.some.injEq] at h1
    subst h1
    simp only [List.set_cons_zero,pureDs,Bool.and_eq_true] at e
    exact .cons hr (b.ofPure k e.2)
  | _,_,j + 1,.cons a b,h1,h2,e=>by
    simp only [List.set_cons_succ,pureDs,Bool.and_eq_true] at e
    exact .cons (a.ofPure k e.1) (Reps.put k hr j b (by simpa using h1) (by simpa using h2) e.2)
end
end Mir
set_option Elab.async false
set_option linter.all false
set_option maxRecDepth 100000
namespace Mir
open PySem L2
section
variable [Zc]
structure PostI (B H:Hp) (p:Addr) (v:V) (B' H':Hp) (d:D) (o:Bool) (d1:D):Prop where
  eH:∀ q u,q≠p->H q=some u->H' q=some u
  eB:Same B B'
  sub:Same B' H'
  nb:∀ q,H q≠none->B q=none->B' q=none
  tB:∀ q xs,H' q=some (.tup xs)->B' q=some (.tup xs)
  nz:∀ q o u,H' q=some (.frz o u)->H q≠none
  own:Own B' H' p d1
  val:if o=true then ∃ p,v=.ref p∧H p=none∧B' p=none∧Own B' H' p d else Rep B' v d
def ownAt (ρ:Rho) (i:Nat):Option Sl:=match ρ[i]? with
  | some s=>if s.isOwn=true then some s else none
  | none=>none
end
end Mir
set_option Elab.async false
set_option linter.all false
set_option maxRecDepth 100000
namespace L2
open PySem PySem.Spec PyProof.Rows
section
variable {X:Cx} {tg:Expr}
end
end L2
namespace L2
open PySem PySem.Spec PyProof.Rows
end L2
set_option Elab.async false
set_option linter.all false
set_option maxRecDepth 100000
namespace Mir
open PySem L2
section
variable [Zc]
section
variable {ta:TA} {m:Rho->Option (List RV × Rho)}
end
end
end Mir
namespace Mir
open PySem L2
section
variable [Zc]
end
end Mir
set_option Elab.async false
set_option linter.all false
set_option maxRecDepth 100000
namespace Mir
open PySem L2
section
variable [Zc]
def Two (H0 B' H':Hp) (v:V) (c:D × D):Prop:=∃ a p q,v=.ref a∧H' a=some (.tup [.ref p,.ref q])∧p≠q∧H0 p=none∧H0 q=none∧B' p=none∧B' q=none∧Own B' H' p c.1∧Own B' H' q c.2
structure PostD (B H:Hp) (v:V) (B' H':Hp) (c:D × D):Prop where
  eH:Same H H'
  eB:Same B B'
  sub:Same B' H'
  nb:∀ q,H q≠none->B q=none->B' q=none
  tB:∀ q xs,H' q=some (.tup xs)->B' q=some (.tup xs)
  nz:∀ q o u,H' q=some (.frz o u)->H q≠none
  val:Two H B' H' v c
end
end Mir
set_option Elab.async false
set_option linter.all false
set_option maxRecDepth 100000
namespace L2
open PySem PySem.Spec PyProof.Rows
section
variable {X:Cx} {pins:List (Addr × Obj)} {σ:St} {H:Hp} {s:Shared} {h':Heap}
end
section
variable {X:Cx}
end
end L2
set_option Elab.async false
set_option linter.all false
set_option maxRecDepth 100000
namespace L2
open PySem PySem.Spec PyProof.Rows
section
variable {prog:Program} {w:World} {A:Around} {E:Value->Shared->Prop} {s:Shared}
def TupIt (l:Addr) (it:Addr) (items:Array Value) (n:Nat) (h:Heap):Prop:=h.IsTupleIter it l n∧h.IsTuple l items
theorem TupIt.keep {l it:Addr} {items:Array Value} (n:Nat) (h h':Heap) (x:TupIt l it items n h) (a:∀ o,h.get? it=some o->h'.get? it=some o) (b:∀ o,h.get? l=some o->h'.get? l=some o):TupIt l it items n h' :=
  ⟨x.1.at a,by obtain ⟨o,e,r⟩:=x.2; exact ⟨o,b _ e,r⟩⟩
end
end L2
set_option Elab.async false
set_option linter.all false
set_option maxRecDepth 100000
namespace L2
open PySem PySem.Spec PyProof.Rows
section
variable {prog:Program} {w:World} {A:Around} {E:Value->Shared->Prop} {s:Shared}
end
section
variable {X:Cx}
end
def compNs2 (x y:Str) (fr:List (Str × Nat)):List Str:=x::y::fr.map (·.1)
structure Blk2 (X:Cx) (scope:Scope) (x y:Str) (fr:List (Str × Nat)):Prop where
  b:Blk X scope x fr
  here2:scope.names.lookup y=some .local
  nd2:(compNs2 x y fr).Nodup
section
variable {X:Cx} {scope:Scope} {x y:Str} {fr:List (Str × Nat)} {pins:List (Addr × Obj)} {σ:St} {H:Hp} {s:Shared}
end
section
variable {X:Cx}
end
end L2
set_option Elab.async false
set_option linter.all false
set_option maxRecDepth 100000
namespace L2
open PySem PySem.Spec PyProof.Rows
abbrev XE:=St->Value->Hp->Prop
abbrev TX:=XE->TS
abbrev TEX:=XE->TE
def XP (X:Cx) (pins:List (Addr × Obj)) (E:XE) (ev:Value) (s':Shared):Prop :=
  ∃ (ea t:Addr) (cls:Value) (B:Heap) (H':Hp) (s1:Shared) (H1:Hp) (σ1:St),ev=.ref ea∧Inv X pins σ1 H1 s1∧Flown X.prog X.w X.stack H1 s1 (fun cls _ H'=>E σ1 cls H') ea t cls B H' s'
section
variable {X:Cx} {st:Stmt} {rest:List Stmt} {t:TX} {u:TX} {pos:Pos}
end
section
variable {X:Cx}
end
end L2
set_option Elab.async false
set_option linter.all false
set_option maxRecDepth 100000
namespace Mir
open PySem L2
section
variable [Zc]
abbrev XM:=Rho->Option ((RV × Rho) ⊕ (Str × Rho))
variable {cl:Str->Value}
def mOk (m:XM):PM:=fun ρ=>match m ρ with
  | some (.inl x)=>some x
  | _=>none
structure MEX (cl:Str->Value) (t:TEX) (m:XM):Prop where
  ok:∀ E,ME (t E) (mOk m)
  er:∀ (F:Fr) (B H:Hp) (σ:St) (ρ:Rho) (c:Str) (ρ':Rho) (Q:VK) (E:XE),Rel F B H σ ρ->m ρ=some (.inr (c,ρ'))->(∀ B' H',Rel F B' H' σ ρ'->E σ (cl c) H')->t E σ H Q
end
end Mir
set_option Elab.async false
set_option linter.all false
set_option maxRecDepth 100000
namespace Mir
open PySem L2
section
variable [Zc]
structure PostJ (B H:Hp) (p p2:Addr) (v:V) (B' H':Hp) (d:D) (o:Bool) (d1 d2:D):Prop where
  eH:∀ q u,q≠p->q≠p2->H q=some u->H' q=some u
  eB:Same B B'
  sub:Same B' H'
  nb:∀ q,H q≠none->B q=none->B' q=none
  tB:∀ q xs,H' q=some (.tup xs)->B' q=some (.tup xs)
  nz:∀ q o u,H' q=some (.frz o u)->H q≠none
  own:Own B' H' p d1
  own2:Own B' H' p2 d2
  val:if o=true then ∃ p,v=.ref p∧H p=none∧B' p=none∧Own B' H' p d else Rep B' v d
end
end Mir
set_option Elab.async false
set_option linter.all false
set_option maxRecDepth 100000
namespace L2
open PySem PySem.Spec PyProof.Rows
end L2
namespace Mir
open PySem L2
section
variable [Zc]
end
end Mir
set_option Elab.async false
set_option linter.all false
set_option maxRecDepth 100000
namespace Mir
open PySem L2
section
variable [Zc]
end
end Mir
set_option Elab.async false
set_option linter.all false
set_option maxRecDepth 100000
namespace L2
open PySem PySem.Spec PyProof.Rows PySem.W
def excAt (e:Addr) (cls:Value):Heap->Prop:=fun h=>∃ oe,h.get? e=some oe∧oe.cls=cls
theorem Inv.outM {X:Cx} {pins:List (Addr × Obj)} {σ:St} {H:Hp} {s:Shared} {e:Addr} (ok:X.Ok) (I:Inv (X.mkd e) pins σ H s):Inv X pins σ H s :=
  ⟨ok,I.os,I.bare,I.base,I.loc,I.cell,I.free,I.freeC,I.pin,I.hok,I.len⟩
section
variable {X:Cx}
end
end L2
namespace Mir
open PySem L2
section
variable {σ:St} {H:Hp} {b:Bool} {t u:TE} {c d:TT} {p q:TS}
end
end Mir
set_option Elab.async false
set_option linter.all false
set_option maxRecDepth 100000
namespace L2
open PySem
def excB (e:Addr) (cls:Value) (dx:Addr):Heap->Prop:=fun h=>∃ oe vs,h.get? e=some oe∧oe.cls=cls∧oe.dict=some dx∧oe.data=.fields vs
end L2
namespace Mir
open PySem L2
class Zl where
  cl:Str->Value
instance (priority:=10) zl0:Zl:=⟨fun _=>.none⟩
section
variable [Zc] [Zl]
inductive SV where
  | pl (d:D) | lc (k:Nat) | tp (xs:List SV)
inductive Cl where
  | dat (d:D) | obj (C:Addr) (fs:List (Str × SV)) | lst (xs:List SV) | dct (es:List (Key × SV)) | exc (c:Str) (n:Option Int)
structure SS where
  S:List (Option Cl)
  t:List (Option SV)
mutual
inductive RepV (A:List Addr) (B:Hp):V->SV->Prop
  | pl {v:V} {d:D}:Rep B v d->RepV A B v (.pl d)
  | lc {k:Nat} {a:Addr}:A[k]?=some a->RepV A B (.ref a) (.lc k)
  | tp {t:Addr} {vs:List V} {xs:List SV}:B t=some (.tup vs)->RepVs A B vs xs->RepV A B (.ref t) (.tp xs)
inductive RepVs (A:List Addr) (B:Hp):List V->List SV->Prop
  | nil:RepVs A B [] []
  | cons {v:V} {x:SV} {vs:List V} {xs:List SV}:RepV A B v x->RepVs A B vs xs->RepVs A B (v::vs) (x::xs)
end
def Gro (A A':List Addr):Prop:=∀ (k:Nat) (a:Addr),A[k]?=some a->A'[k]?=some a
theorem Gro.refl (A:List Addr):Gro A A:=fun _ _ h=>h
theorem Gro.trans {A A1 A2:List Addr} (a:Gro A A1) (b:Gro A1 A2):Gro A A2:=fun k x h=>b k x (a k x h)
theorem Gro.app (A N:List Addr):Gro A (A++N):=fun k a h=>by rw [List.getElem?_append_left (List.getElem?_eq_some_iff.mp h).1]; exact h
mutual
theorem RepV.mono {A A':List Addr} {B B':Hp} (g:Gro A A') (e:Same B B'):∀ {v:V} {x:SV},RepV A B v x->RepV A' B' v x
  | _,_,.pl r=>.pl (r.mono e)
  | _,_,.lc h=>.lc (g _ _ h)
  | _,_,.tp h r=>.tp (e _ _ h) (RepVs.mono g e r)
theorem RepVs.mono {A A':List Addr} {B B':Hp} (g:Gro A A') (e:Same B B'):∀ {v:List V} {x:List SV},RepVs A B v x->RepVs A' B' v x
  | _,_,.nil=>.nil
  | _,_,.cons a b=>.cons (RepV.mono g e a) (RepVs.mono g e b)
end
theorem RepVs.length {A:List Addr} {B:Hp}:∀ {v:List V} {x:List SV},RepVs A B v x->v.length=x.length
  | _,_,.nil=>rfl
  | _,_,.cons _ b=>by rw [List.length_cons,List.length_cons,RepVs.length b]
theorem RepVs.get {A:List Addr} {B:Hp}:∀ {v:List V} {x:List SV} (i:Nat),RepVs A B v x->∀ c,x[i]?=some c->∃ y,v[i]?=some y∧RepV A B y c
  | _,_,i,.nil,c,h=>by simp at h
  | _,_,0,.cons a _,c,h=>by simp at h; subst h; exact ⟨_,rfl,a⟩
  | _,_,i + 1,.cons _ b,c,h=>by
    rw [List.getElem?_cons_succ] at h
    rw [List.getElem?_cons_succ]
    exact RepVs.get i b c h
inductive RepFs (A:List Addr) (B:Hp):List (Str × V)->List (Str × SV)->Prop
  | nil:RepFs A B [] []
  | cons {f:Str} {v:V} {x:SV} {gs:List (Str × V)} {fs:List (Str × SV)}:RepV A B v x->RepFs A B gs fs->RepFs A B ((f,v)::gs) ((f,x)::fs)
theorem RepFs.mono {A A':List Addr} {B B':Hp} (g:Gro A A') (e:Same B B'):∀ {v:List (Str × V)} {x:List (Str × SV)},RepFs A B v x->RepFs A' B' v x
  | _,_,.nil=>.nil
  | _,_,.cons a b=>.cons (a.mono g e) (RepFs.mono g e b)
inductive RepDs (A:List Addr) (B:Hp):List (Key × V)->List (Key × SV)->Prop
  | nil:RepDs A B [] []
  | cons {f:Key} {v:V} {x:SV} {gs:List (Key × V)} {fs:List (Key × SV)}:RepV A B v x->RepDs A B gs fs->RepDs A B ((f,v)::gs) ((f,x)::fs)
theorem RepDs.mono {A A':List Addr} {B B':Hp} (g:Gro A A') (e:Same B B'):∀ {v:List (Key × V)} {x:List (Key × SV)},RepDs A B v x->RepDs A' B' v x
  | _,_,.nil=>.nil
  | _,_,.cons a b=>.cons (a.mono g e) (RepDs.mono g e b)
theorem RepFs.look {A:List Addr} {B:Hp} {f:Str}:∀ {gs:List (Str × V)} {fs:List (Str × SV)} {x:SV},RepFs A B gs fs->fs.lookup f=some x->∃ v,gs.lookup f=some v∧RepV A B v x
  | _,_,x,.nil,h=>by cases h
  | _,_,x,.cons (f:=k) (v:=v) a b,h=>by
    by_cases e:f=k
    . have hb:(f == k)=true:=beq_iff_eq.mpr e
      simp only [List.lookup,hb] at h ⊢
      cases h
      exact ⟨v,rfl,a⟩
    . have hb:(f == k)=false:=beq_eq_false_iff_ne.mpr e
      simp only [List.lookup,hb] at h ⊢
      exact RepFs.look b h
theorem RepFs.noLook {A:List Addr} {B:Hp} {f:Str}:∀ {gs:List (Str × V)} {fs:List (Str × SV)},RepFs A B gs fs->fs.lookup f=none->gs.lookup f=none
  | _,_,.nil,_=>rfl
  | _,_,.cons (f:=k) a b,h=>by
    by_cases e:f=k
    . have hb:(f == k)=true:=beq_iff_eq.mpr e
      simp only [List.lookup,hb] at h
      cases h
    . have hb:(f == k)=false:=beq_eq_false_iff_ne.mpr e
      simp only [List.lookup,hb] at h ⊢
      exact RepFs.noLook b h
theorem RepFs.length {A:List Addr} {B:Hp}:∀ {gs:List (Str × V)} {fs:List (Str × SV)},RepFs A B gs fs->gs.length=fs.length
  | _,_,.nil=>rfl
  | _,_,.cons _ b=>by rw [List.length_cons,List.length_cons,RepFs.length b]
def putFS (f:Str) (x:SV):List (Str × SV)->List (Str × SV)
  | []=>[(f,x)]
  | (k,y)::r=>if k=f then (k,x)::r else (k,y)::putFS f x r
theorem RepFs.put {A:List Addr} {B:Hp} {f:Str} {v:V} {x:SV} (rv:RepV A B v x):∀ {gs:List (Str × V)} {fs:List (Str × SV)},RepFs A B gs fs->RepFs A B (putF f v gs) (putFS f x fs)
  | _,_,.nil=>.cons rv .nil
  | _,_,.cons (f:=k) (v:=u) (x:=y) (gs:=gs) (fs:=fs) a b=>by
    show RepFs A B (if k=f then (k,v)::gs else (k,u)::putF f v gs) (if k=f then (k,x)::fs else (k,y)::putFS f x fs)
    by_cases e:k=f
    . rw [if_pos e,if_pos e]; exact .cons rv b
    . rw [if_neg e,if_neg e]; exact .cons a (RepFs.put rv b)
def Mx:HO->Prop
  | .lst _=>True
  | .dK _=>True
  | .ins _ _ _=>True
  | .ext _=>True
  | _=>False
def MxF (o:HO):Prop:=Mx o∨∃ ob φ,o=.frz ob (.ext φ)
def XtAt (H:Hp) (a:Addr) (φ:Heap->Prop):Prop:=H a=some (.ext φ)∨∃ o,H a=some (.frz o (.ext φ))
theorem XtAt.mono {H H':Hp} {a:Addr} {φ:Heap->Prop} (h:XtAt H a φ) (k:∀ o,H a=some o->H' a=some o):XtAt H' a φ:=h.elim (fun h=>.inl (k _ h)) fun ⟨o,h⟩=>.inr ⟨o,k _ h⟩
theorem XtAt.ok {P:Program} {w:World} {H:Hp} {h:Heap} {a:Addr} {φ:Heap->Prop} (x:XtAt H a φ) (k:HOk P w H h) : φ h:=by
  rcases x with x | ⟨o,x⟩
  . exact (k a _ x).1
  . exact (k a _ x).2.1
theorem not_own {x:Addr} : ¬ MxF (.own x):=fun z=>by rcases z with z | ⟨_,_,z⟩; exact z; cases z
theorem not_xd {fs:List (Str × V)} : ¬ MxF (.xd fs):=fun z=>by rcases z with z | ⟨_,_,z⟩; exact z; cases z
inductive CellOk (A:List Addr) (B H:Hp) (a:Addr):Cl->Prop
  | dat {d:D}:Own B H a d->CellOk A B H a (.dat d)
  | obj {C dx:Addr} {gs:List (Str × V)} {fs:List (Str × SV)}:H a=some (.ins C dx gs)->H dx=some (.own a)->RepFs A B gs fs->CellOk A B H a (.obj C fs)
  | lst {vs:List V} {xs:List SV}:H a=some (.lst vs)->RepVs A B vs xs->CellOk A B H a (.lst xs)
  | dct {kvs:List (Key × V)} {es:List (Key × SV)}:H a=some (.dK kvs)->RepDs A B kvs es->CellOk A B H a (.dct es)
  | exc {c:Str} {n:Option Int} {φ:Heap->Prop}:XtAt H a φ->(∀ h,φ h->excAt a (Zl.cl c) h)->(∀ k,n=some k->∃ dx,(∀ h,φ h->excB a (Zl.cl c) dx h)∧H dx=some (.xd [("by",.int k)]))->CellOk A B H a (.exc c n)
theorem CellOk.mono {A A':List Addr} {B B' H H':Hp} {a:Addr} {c:Cl} (h:CellOk A B H a c) (g:Gro A A') (e:Same B B') (k:∀ o,H a=some o->H' a=some o) (ko:∀ q o,H q=some o->¬ MxF o->H' q=some o):CellOk A' B' H' a c:=by
  cases h with
  | dat h=>exact .dat (h.mono e k)
  | obj h1 h2 h3=>exact .obj (k _ h1) (ko _ _ h2 not_own) (h3.mono g e)
  | lst h1 h2=>exact .lst (k _ h1) (h2.mono g e)
  | dct h1 h2=>exact .dct (k _ h1) (h2.mono g e)
  | exc h1 h2 h3=>exact .exc (h1.mono k) h2 fun n e=>(let ⟨dx,p1,p2⟩:=h3 n e; ⟨dx,p1,ko _ _ p2 not_xd⟩)
structure StO (A:List Addr) (B H:Hp) (S:List (Option Cl)):Prop where
  len:A.length=S.length
  nd:A.Nodup
  dis:∀ a∈A,B a=none
  mx:∀ a∈A,∃ o,H a=some o∧MxF o
  cell:∀ (k:Nat) (c:Cl) (a:Addr),S[k]?=some (some c)->A[k]?=some a->CellOk A B H a c
structure FrN where
  B:Hp
  H:Hp
  io:List Addr
  Z:Addr->Prop
structure RelN (G:FrN) (A:List Addr) (B H:Hp) (σ:St) (s:SS):Prop where
  sub:Same B H
  sB:Same G.B B
  tupB:∀ q xs,H q=some (.tup xs)->B q=some (.tup xs)
  kept:∀ q o,G.H q=some o->q ∉ G.io->H q=some o
  nB:∀ q,G.H q≠none->G.B q=none->B q=none
  pre:Gro G.io A
  fresh:∀ a∈A,a∈G.io∨G.H a=none
  st:StO A B H s.S
  len:s.t.length=σ.length
  slot:∀ (i:Nat) (x:SV),s.t[i]?=some (some x)->∃ v,σ[i]?=some (some v)∧RepV A B v x
  nz:∀ q o u,H q=some (.frz o u)->G.Z q
section
variable {G:FrN} {A A':List Addr} {B H B' H':Hp} {σ:St} {s:SS}
theorem StO.mono (O:StO A B H s.S) (eB:Same B B') (eH:Same H H') (nb:∀ q,H q≠none->B q=none->B' q=none):StO A B' H' s.S where
  len:=O.len
  nd:=O.nd
  dis:=fun a ha=>by obtain ⟨o,h,_⟩:=O.mx a ha; exact nb a (by rw [h]; simp) (O.dis a ha)
  mx:=fun a ha=>by obtain ⟨o,h,m⟩:=O.mx a ha; exact ⟨o,eH _ _ h,m⟩
  cell:=fun k c a h1 h2=>(O.cell k c a h1 h2).mono (Gro.refl _) eB (fun o h=>eH _ _ h) fun q o h _=>eH _ _ h
theorem RelN.grow (R:RelN G A B H σ s) (eB:Same B B') (eH:Same H H') (sub:Same B' H') (nb:∀ q,H q≠none->B q=none->B' q=none) (tB:∀ q xs,H' q=some (.tup xs)->B' q=some (.tup xs)) (nz:∀ q o u,H' q=some (.frz o u)->G.Z q):RelN G A B' H' σ s where
  sub:=sub
  sB:=R.sB.trans eB
  tupB:=tB
  kept:=fun q o h n=>eH _ _ (R.kept q o h n)
  nB:=fun q h z=>by
    have z1:=R.nB q h z
    by_cases hq:H q=none
    . by_cases hi:q∈G.io
      . obtain ⟨k,hk⟩:=List.mem_iff_getElem?.mp hi
        obtain ⟨o,h2,_⟩:=R.st.mx q (List.mem_of_getElem? (R.pre k q hk))
        rw [hq] at h2; cases h2
      . cases h3:G.H q with
        | none=>exact absurd h3 h
        | some o=>rw [R.kept q o h3 hi] at hq; cases hq
    . exact nb q hq z1
  pre:=R.pre
  fresh:=R.fresh
  st:=R.st.mono eB eH nb
  len:=R.len
  slot:=fun i x h=>by obtain ⟨v,h1,h2⟩:=R.slot i x h; exact ⟨v,h1,h2.mono (Gro.refl _) eB⟩
  nz:=nz
theorem RelN.newG (R:RelN G A B H σ s) {p:Addr} (h:H p=none):G.H p=none∧p ∉ A∧B p=none:=by
  have hA:p ∉ A:=fun z=>by obtain ⟨o,h2,_⟩:=R.st.mx p z; rw [h] at h2; cases h2
  refine ⟨?_,hA,?_⟩
  . cases h3:G.H p with
    | none=>rfl
    | some o =>
      have:p ∉ G.io:=fun z=>by
        obtain ⟨k,hk⟩:=List.mem_iff_getElem?.mp z
        exact hA (List.mem_of_getElem? (R.pre k p hk))
      rw [R.kept p o h3 this] at h; cases h
  . cases h3:B p with
    | none=>rfl
    | some o=>rw [R.sub p o h3] at h; cases h
theorem RelN.write (R:RelN G A B H σ s) {k:Nat} {a:Addr} {o:HO} {c:Cl} (hk:A[k]?=some a) (mo:Mx o) (ok:CellOk A B (upd H a o) a c):RelN G A B (upd H a o) σ ⟨s.S.set k (some c),s.t⟩:=by
  have ha:a∈A:=List.mem_of_getElem? hk
  have hB:=R.st.dis a ha
  obtain ⟨o0,h0,m0⟩:=R.st.mx a ha
  have kl:=(List.getElem?_eq_some_iff.mp hk).1
  refine ⟨fun q u h=>?_,R.sB,fun q xs h=>?_,fun q u h n=>?_,R.nB,R.pre,R.fresh,⟨?_,R.st.nd,R.st.dis,fun b hb=>?_,fun j d b h1 h2=>?_⟩,R.len,R.slot,fun q u w h=>?_⟩
  . rw [upd_ne (fun z=>by rw [z,hB] at h; cases h)]; exact R.sub q u h
  . by_cases z:q=a
    . subst z; rw [upd_same] at h; cases h; cases mo
    . rw [upd_ne z] at h; exact R.tupB q xs h
  . have z:q≠a:=fun z=>by
      subst z
      rcases R.fresh q ha with g | g
      . exact n g
      . rw [g] at h; cases h
    rw [upd_ne z]; exact R.kept q u h n
  . show A.length=(s.S.set k (some c)).length
    rw [List.length_set]; exact R.st.len
  . by_cases z:b=a
    . subst z; exact ⟨o,upd_same,.inl mo⟩
    . rw [upd_ne z]; exact R.st.mx b hb
  . have h1':(s.S.set k (some c))[j]?=some (some d):=h1
    by_cases z:j=k
    . subst z
      rw [hk] at h2; cases h2
      rw [List.getElem?_set_self (by rw [← R.st.len]; exact kl)] at h1'
      cases h1'
      exact ok
    . rw [List.getElem?_set_ne fun e=>z e.symm] at h1'
      have nb:b≠a:=fun e=>by
        subst e
        exact z ((List.getElem?_inj (List.getElem?_eq_some_iff.mp h2).1 R.st.nd).mp (h2.trans hk.symm))
      refine (R.st.cell j d b h1' h2).mono (Gro.refl _) (Same.refl _) (fun u h=>by rw [upd_ne nb]; exact h) fun q o h hm=>?_
      rw [upd_ne (fun e=>by subst e; rw [h0] at h; cases h; exact hm m0)]; exact h
  . by_cases z:q=a
    . subst z; rw [upd_same] at h; cases h; cases mo
    . rw [upd_ne z] at h; exact R.nz q u w h
theorem RelN.take (R:RelN G A B H σ s) {p:Addr} {c:Cl} {o:HO} (hG:G.H p=none) (hA:p ∉ A) (hB:B p=none) (hp:H p=some o) (mo:Mx o) (ok:CellOk (A++[p]) B H p c):RelN G (A++[p]) B H σ ⟨s.S++[some c],s.t⟩:=by
  refine ⟨R.sub,R.sB,R.tupB,R.kept,R.nB,R.pre.trans (Gro.app _ _),fun b hb=>?_,⟨?_,?_,fun b hb=>?_,fun b hb=>?_,fun j d b h1 h2=>?_⟩,R.len,fun i x h=>?_,R.nz⟩
  . rcases List.mem_append.mp hb with h | h
    . exact R.fresh b h
    . simp only [List.mem_singleton] at h; subst h; exact .inr hG
  . show (A++[p]).length=(s.S++[some c]).length
    rw [List.length_append,List.length_append,R.st.len]; rfl
  . rw [List.nodup_append]
    refine ⟨R.st.nd,by simp,fun x hx y hy=>?_⟩
    simp only [List.mem_singleton] at hy; subst hy
    exact fun z=>hA (z ▸ hx)
  . rcases List.mem_append.mp hb with h | h
    . exact R.st.dis b h
    . simp only [List.mem_singleton] at h; subst h; exact hB
  . rcases List.mem_append.mp hb with h | h
    . exact R.st.mx b h
    . simp only [List.mem_singleton] at h; subst h; exact ⟨o,hp,.inl mo⟩
  . have h1':(s.S++[some c])[j]?=some (some d):=h1
    by_cases z:j < s.S.length
    . rw [List.getElem?_append_left z] at h1'
      rw [List.getElem?_append_left (by rw [R.st.len]; exact z)] at h2
      exact (R.st.cell j d b h1' h2).mono (Gro.app _ _) (Same.refl _) (fun _ h=>h) fun _ _ h _=>h
    . rw [List.getElem?_append_right (Nat.le_of_not_lt z)] at h1'
      rw [List.getElem?_append_right (by rw [R.st.len]; exact Nat.le_of_not_lt z),R.st.len] at h2
      cases hz:j - s.S.length with
      | zero =>
        rw [hz] at h1' h2
        simp at h1' h2
        subst h1' h2
        exact ok
      | succ n=>rw [hz] at h1'; simp at h1'
  . obtain ⟨v,h1,h2⟩:=R.slot i x h
    exact ⟨v,h1,h2.mono (Gro.app _ _) (Same.refl _)⟩
theorem RelN.layT (R:RelN G A B H σ s) {p:Addr} {xs:List V} (hp:H p=none):RelN G A (upd B p (.tup xs)) (upd H p (.tup xs)) σ s∧Same B (upd B p (.tup xs)):=by
  obtain ⟨_,_,hB⟩:=R.newG hp
  have eB:Same B (upd B p (.tup xs)):=fun q u h=>by rw [upd_ne (fun z=>by rw [z,hB] at h; cases h)]; exact h
  refine ⟨R.grow eB (fun q u h=>by rw [upd_ne (fun z=>by rw [z,hp] at h; cases h)]; exact h) (fun q u h=>?_) (fun q h z=>?_) (fun q ys h=>?_) fun q u w h=>?_,eB⟩
  . by_cases z:q=p
    . subst z; rw [upd_same] at h ⊢; exact h
    . rw [upd_ne z] at h ⊢; exact R.sub q u h
  . rw [upd_ne (fun e=>by rw [e] at h; exact h hp)]; exact z
  . by_cases z:q=p
    . subst z; rw [upd_same] at h ⊢; exact h
    . rw [upd_ne z] at h ⊢; exact R.tupB q ys h
  . by_cases z:q=p
    . subst z; rw [upd_same] at h; cases h
    . rw [upd_ne z] at h; exact R.nz q u w h
theorem RelN.set (R:RelN G A B H σ s) {i:Nat} {v:V} {x:SV} (h:i < s.t.length) (rv:RepV A B v x):RelN G A B H (σ.set i (some v)) ⟨s.S,s.t.set i (some x)⟩:=by
  refine ⟨R.sub,R.sB,R.tupB,R.kept,R.nB,R.pre,R.fresh,R.st,?_,fun j y hj=>?_,R.nz⟩
  . show (s.t.set i (some x)).length=_
    rw [List.length_set,List.length_set]; exact R.len
  . have hj':(s.t.set i (some x))[j]?=some (some y):=hj
    by_cases z:j=i
    . subst z
      rw [List.getElem?_set_self h] at hj'
      cases hj'
      exact ⟨v,List.getElem?_set_self (R.len ▸ h),rv⟩
    . rw [List.getElem?_set_ne fun e=>z e.symm] at hj'
      rw [List.getElem?_set_ne fun e=>z e.symm]
      exact R.slot j y hj'
mutual
def blV (n:Nat):SV->Bool
  | .pl _=>true
  | .lc k=>decide (k < n)
  | .tp xs=>blVs n xs
def blVs (n:Nat):List SV->Bool
  | []=>true
  | x::xs=>blV n x && blVs n xs
end
theorem take_get {n k:Nat} {a:Addr} {A:List Addr} (h:A[k]?=some a) (hk:k < n):(A.take n)[k]?=some a:=by rw [List.getElem?_take,if_pos hk]; exact h
mutual
theorem RepV.take {A:List Addr} {B:Hp} (n:Nat):∀ {v:V} {x:SV},RepV A B v x->blV n x=true->RepV (A.take n) B v x
  | _,_,.pl r,_=>.pl r
  | _,_,.lc h,e=>.lc (take_get h (by simpa [blV] using e))
  | _,_,.tp h r,e=>.tp h (RepVs.take n r (by simpa [blV] using e))
theorem RepVs.take {A:List Addr} {B:Hp} (n:Nat):∀ {v:List V} {x:List SV},RepVs A B v x->blVs n x=true->RepVs (A.take n) B v x
  | _,_,.nil,_=>.nil
  | _,_,.cons a b,e=>by
    simp only [blVs,Bool.and_eq_true] at e
    exact .cons (RepV.take n a e.1) (RepVs.take n b e.2)
end
def blFs {α:Type} (n:Nat):List (α × SV)->Bool
  | []=>true
  | x::xs=>blV n x.2 && blFs n xs
theorem RepFs.take {A:List Addr} {B:Hp} (n:Nat):∀ {v:List (Str × V)} {x:List (Str × SV)},RepFs A B v x->blFs n x=true->RepFs (A.take n) B v x
  | _,_,.nil,_=>.nil
  | _,_,.cons a b,e=>by
    simp only [blFs,Bool.and_eq_true] at e
    exact .cons (a.take n e.1) (RepFs.take n b e.2)
theorem RepDs.take {A:List Addr} {B:Hp} (n:Nat):∀ {v:List (Key × V)} {x:List (Key × SV)},RepDs A B v x->blFs n x=true->RepDs (A.take n) B v x
  | _,_,.nil,_=>.nil
  | _,_,.cons a b,e=>by
    simp only [blFs,Bool.and_eq_true] at e
    exact .cons (a.take n e.1) (RepDs.take n b e.2)
def blC (n:Nat):Cl->Bool
  | .dat _=>true
  | .obj _ fs=>blFs n fs
  | .lst xs=>blVs n xs
  | .dct es=>blFs n es
  | .exc _ _=>true
theorem CellOk.take {A:List Addr} {B H:Hp} {a:Addr} {c:Cl} (n:Nat) (h:CellOk A B H a c) (e:blC n c=true):CellOk (A.take n) B H a c:=by
  cases h with
  | dat h=>exact .dat h
  | obj h1 h2 h3=>exact .obj h1 h2 (h3.take n e)
  | lst h1 h2=>exact .lst h1 (h2.take n e)
  | dct h1 h2=>exact .dct h1 (h2.take n e)
  | exc h1 h2 h3=>exact .exc h1 h2 h3
def gcC (n:Nat) (c:Option Cl):Option Cl:=match c with
  | some c=>if blC n c=true then some c else none
  | none=>none
def gcV (n:Nat) (x:Option SV):Option SV:=match x with
  | some x=>if blV n x=true then some x else none
  | none=>none
def gcS (n:Nat) (S:List (Option Cl)):List (Option Cl):=(S.take n).map (gcC n)
def gcT (n:Nat) (t:List (Option SV)):List (Option SV):=t.map (gcV n)
def gc (n:Nat) (s:SS):SS:=⟨gcS n s.S,gcT n s.t⟩
theorem gcC_eq {n:Nat} {c:Option Cl} {d:Cl} (h:gcC n c=some d):c=some d∧blC n d=true:=by
  cases c with
  | none=>cases h
  | some c =>
    simp only [gcC] at h
    split at h
    . rename_i e; cases h; exact ⟨rfl,e⟩
    . cases h
theorem gcV_eq {n:Nat} {c:Option SV} {d:SV} (h:gcV n c=some d):c=some d∧blV n d=true:=by
  cases c with
  | none=>cases h
  | some c =>
    simp only [gcV] at h
    split at h
    . rename_i e; cases h; exact ⟨rfl,e⟩
    . cases h
theorem StO.gc {S:List (Option Cl)} (O:StO A B H S) (n:Nat):StO (A.take n) B H (gcS n S):=by
  refine ⟨?_,O.nd.sublist (List.take_sublist _ _),fun a ha=>O.dis a (List.mem_of_mem_take ha),fun a ha=>O.mx a (List.mem_of_mem_take ha),fun k c a h1 h2=>?_⟩
  . unfold gcS; rw [List.length_map,List.length_take,List.length_take,O.len]
  . unfold gcS at h1
    rw [List.getElem?_map] at h1
    obtain ⟨c',h3,h4⟩:=Option.map_eq_some_iff.mp h1
    obtain ⟨rfl,h5⟩:=gcC_eq h4
    rw [List.getElem?_take] at h3 h2
    split at h2
    . rename_i hk
      rw [if_pos hk] at h3
      exact (O.cell k c a h3 h2).take n h5
    . cases h2
theorem RelN.gc (R:RelN G A B H σ s) {n:Nat} (hn:G.io.length≤n):RelN G (A.take n) B H σ (gc n s):=by
  refine ⟨R.sub,R.sB,R.tupB,R.kept,R.nB,fun k a h=>?_,fun a ha=>R.fresh a (List.mem_of_mem_take ha),R.st.gc n,?_,fun i x h=>?_,R.nz⟩
  . exact take_get (R.pre k a h) (Nat.lt_of_lt_of_le (List.getElem?_eq_some_iff.mp h).1 hn)
  . show (gcT n s.t).length=_
    unfold gcT; rw [List.length_map]; exact R.len
  . have h':(gcT n s.t)[i]?=some (some x):=h
    unfold gcT at h'
    rw [List.getElem?_map] at h'
    obtain ⟨c',h3,h4⟩:=Option.map_eq_some_iff.mp h'
    obtain ⟨rfl,h5⟩:=gcV_eq h4
    obtain ⟨v,h6,h7⟩:=R.slot i x h3
    exact ⟨v,h6,h7.take n h5⟩
def noEsc (n:Nat) (S:List (Option Cl)):Bool:=(S.take n).all fun c=>match c with
  | some c=>blC n c
  | none=>true
def lowAt (n:Nat) (t:List (Option SV)) (i:Nat):Bool:=match t[i]? with
  | some (some x)=>blV n x
  | _=>true
def gcE (n:Nat) (kp:List Nat) (s:SS):SS:=if (noEsc n s.S && kp.all (lowAt n s.t))=true then gc n s else s
theorem RelN.gcE (R:RelN G A B H σ s) {n:Nat} {kp:List Nat} (hn:G.io.length≤n):∃ A',RelN G A' B H σ (gcE n kp s):=by
  unfold Mir.gcE
  split
  . exact ⟨_,R.gc hn⟩
  . exact ⟨_,R⟩
theorem Gro.len {A A':List Addr} (g:Gro A A'):A.length≤A'.length:=by
  cases h:A.length with
  | zero=>omega
  | succ k =>
    have hk:k < A.length:=by omega
    have:=g k A[k] (List.getElem?_eq_getElem hk)
    exact (List.getElem?_eq_some_iff.mp this).1
end
end
end Mir
set_option Elab.async false
set_option linter.all false
set_option maxRecDepth 100000
namespace Mir
open PySem L2
section
variable [Zc] [Zl]
mutual
def rdV (S:List (Option Cl)):SV->Option D
  | .pl d=>some d
  | .lc k=>match S[k]? with
    | some (some (.dat d))=>some d
    | _=>none
  | .tp xs=>(rdVs S xs).map .tuple
def rdVs (S:List (Option Cl)):List SV->Option (List D)
  | []=>some []
  | x::xs=>(rdV S x).bind fun d=>(rdVs S xs).map fun ds=>d::ds
end
section
variable {G:FrN} {A:List Addr} {B H:Hp} {σ:St} {s:SS}
mutual
theorem rdV_rep (O:StO A B H s.S) (sub:Same B H):∀ {v:V} {x:SV} {d:D},RepV A B v x->rdV s.S x=some d->Rep H v d
  | _,_,d,.pl r,e=>by
    simp only [rdV] at e
    cases e
    exact r.mono sub
  | _,_,d,.lc (k:=k) h,e=>by
    simp only [rdV] at e
    split at e
    . rename_i d' hc
      cases e
      cases O.cell k _ _ hc h with
      | dat o=>exact o.rep sub
    . cases e
  | _,_,d,.tp h r,e=>by
    simp only [rdV] at e
    obtain ⟨ds,e1,rfl⟩:=Option.map_eq_some_iff.mp e
    exact .tup (sub _ _ h) (rdVs_rep O sub r e1)
theorem rdVs_rep (O:StO A B H s.S) (sub:Same B H):∀ {v:List V} {x:List SV} {d:List D},RepVs A B v x->rdVs s.S x=some d->Reps H v d
  | _,_,d,.nil,e=>by
    simp only [rdVs] at e
    cases e
    exact .nil
  | _,_,d,.cons a b,e=>by
    simp only [rdVs] at e
    obtain ⟨c,e1,e⟩:=Option.bind_eq_some_iff.mp e
    obtain ⟨ds,e2,rfl⟩:=Option.map_eq_some_iff.mp e
    exact .cons (rdV_rep O sub a e1) (rdVs_rep O sub b e2)
end
def slOf (S:List (Option Cl)):Option SV->Sl
  | none=>.no
  | some x=>match rdV S x with
    | some d=>.fz d
    | none=>.no
def vw (s:SS):Rho:=s.t.map (slOf s.S)
def slC:Option SV->Sl
  | some (.pl d)=>.fz d
  | _=>.no
def vwC (s:SS):Rho:=s.t.map slC
theorem slOf_kind (S:List (Option Cl)) (y:Option SV):slOf S y=.no∨∃ d x,slOf S y=.fz d∧y=some x∧rdV S x=some d:=by
  cases y with
  | none=>exact .inl rfl
  | some x =>
    cases h:rdV S x with
    | none=>exact .inl (by simp only [slOf,h])
    | some d=>exact .inr ⟨d,x,by simp only [slOf,h],rfl,h⟩
theorem slC_kind (y:Option SV):slC y=.no∨∃ d,slC y=.fz d∧y=some (.pl d):=by
  cases y with
  | none=>exact .inl rfl
  | some x=>cases x with
    | pl d=>exact .inr ⟨d,rfl,rfl⟩
    | lc _=>exact .inl rfl
    | tp _=>exact .inl rfl
theorem vw_get {i:Nat} {x:Sl} (h:(vw s)[i]?=some x):x=.no∨∃ d y,x=.fz d∧s.t[i]?=some (some y)∧rdV s.S y=some d:=by
  unfold vw at h
  rw [List.getElem?_map] at h
  obtain ⟨y,h1,rfl⟩:=Option.map_eq_some_iff.mp h
  rcases slOf_kind s.S y with e | ⟨d,z,e,rfl,e2⟩
  . exact .inl e
  . exact .inr ⟨d,z,e,h1,e2⟩
theorem vwC_get {i:Nat} {x:Sl} (h:(vwC s)[i]?=some x):x=.no∨∃ d,x=.fz d∧s.t[i]?=some (some (.pl d)):=by
  unfold vwC at h
  rw [List.getElem?_map] at h
  obtain ⟨y,h1,rfl⟩:=Option.map_eq_some_iff.mp h
  rcases slC_kind y with e | ⟨d,e,rfl⟩
  . exact .inl e
  . exact .inr ⟨d,e,h1⟩
theorem RelN.opn (R:RelN G A B H σ s):Rel ⟨H,H,[],G.Z⟩ H H σ (vw s):=by
  have nk:∀ (i:Nat) (x:Sl),(vw s)[i]?=some x->x.isRef=true->False:=fun i x h e=>by
    rcases vw_get h with rfl | ⟨d,y,rfl,_⟩ <;> cases e
  refine ⟨Same.refl _,Same.refl _,fun _ _ h _=>h,fun _ h z=>absurd z h,?_,fun i x h=>?_,fun i j x t p h1 h2=>(nk i x h1 (Sl.ref_of h2)).elim,fun i d p h=>(nk i _ h rfl).elim,(fun x hx=>by cases hx),fun i d h=>(nk i _ h rfl).elim,fun _ _ h=>h,fun i h=>?_,R.nz⟩
  . unfold vw; rw [List.length_map]; exact R.len
  . rcases vw_get h with rfl | ⟨d,y,rfl,h1,h2⟩
    . trivial
    . obtain ⟨v,h3,h4⟩:=R.slot i y h1
      exact ⟨v,h3,rdV_rep R.st R.sub h4 h2⟩
  . rcases vw_get h with z | ⟨d,y,z,_⟩ <;> cases z
theorem RelN.cls (R:RelN G A B H σ s):Rel ⟨B,H,[],G.Z⟩ B H σ (vwC s):=by
  have nk:∀ (i:Nat) (x:Sl),(vwC s)[i]?=some x->x.isRef=true->False:=fun i x h e=>by
    rcases vwC_get h with rfl | ⟨d,rfl,_⟩ <;> cases e
  refine ⟨R.sub,Same.refl _,fun _ _ h _=>h,fun _ _ z=>z,?_,fun i x h=>?_,fun i j x t p h1 h2=>(nk i x h1 (Sl.ref_of h2)).elim,fun i d p h=>(nk i _ h rfl).elim,(fun x hx=>by cases hx),fun i d h=>(nk i _ h rfl).elim,R.tupB,fun i h=>?_,R.nz⟩
  . unfold vwC; rw [List.length_map]; exact R.len
  . rcases vwC_get h with rfl | ⟨d,rfl,h1⟩
    . trivial
    . obtain ⟨v,h3,h4⟩:=R.slot i _ h1
      cases h4 with
      | pl r=>exact ⟨v,h3,r⟩
  . rcases vwC_get h with z | ⟨d,z,_⟩ <;> cases z
def tbu (B H:Hp):Hp:=fun q=>match B q with
  | some o=>some o
  | none=>match H q with
    | some (.tup xs)=>some (.tup xs)
    | _=>none
theorem tbu_same {B H:Hp}:Same B (tbu B H):=fun q o h=>by unfold tbu; rw [h]
theorem tbu_tup {B H:Hp} (sub:Same B H) {q:Addr} {xs:List V} (h:H q=some (.tup xs)):tbu B H q=some (.tup xs):=by
  unfold tbu
  cases hb:B q with
  | none=>rw [h]
  | some o =>
    have:=sub q o hb
    rw [h] at this
    exact this.symm
theorem tbu_or {B H:Hp} {q:Addr} {o:HO} (h:tbu B H q=some o):B q=some o∨(B q=none∧∃ xs,o=.tup xs∧H q=some (.tup xs)):=by
  unfold tbu at h
  cases hb:B q with
  | some o'=>rw [hb] at h; exact .inl h
  | none =>
    rw [hb] at h
    refine .inr ⟨rfl,?_⟩
    dsimp only at h
    split at h
    . rename_i xs hx; cases h; exact ⟨xs,rfl,hx⟩
    . cases h
theorem RelN.back {ρ:Rho} {B1 H1:Hp} (R:RelN G A B H σ s) (R1:Rel ⟨H,H,[],G.Z⟩ B1 H1 σ ρ):RelN G A (tbu B H1) H1 σ s∧Same B (tbu B H1)∧Same H H1∧∀ q xs,B1 q=some (.tup xs)->tbu B H1 q=some (.tup xs):=by
  have eH:Same H H1:=fun q o h=>R1.sH q o h fun x hx=>by cases hx
  have sub1:Same B H1:=R.sub.trans eH
  refine ⟨R.grow tbu_same eH (fun q o h=>?_) (fun q h z=>?_) (fun q xs h=>tbu_tup sub1 h) R1.nz,tbu_same,eH,fun q xs h=>tbu_tup sub1 (R1.sub _ _ h)⟩
  . rcases tbu_or h with h | ⟨_,xs,rfl,h'⟩
    . exact sub1 q o h
    . exact h'
  . cases h2:tbu B H1 q with
    | none=>rfl
    | some o =>
      rcases tbu_or h2 with h3 | ⟨_,xs,rfl,h3⟩
      . rw [z] at h3; cases h3
      . cases h4:H q with
        | none=>exact absurd h4 h
        | some u =>
          have:=eH q u h4
          rw [h3] at this
          cases this
          rw [R.tupB q xs h4] at z; cases z
theorem RelN.backC {ρ:Rho} {B1 H1:Hp} (R:RelN G A B H σ s) (R1:Rel ⟨B,H,[],G.Z⟩ B1 H1 σ ρ):RelN G A B1 H1 σ s∧Same B B1∧Same H H1:=by
  have eH:Same H H1:=fun q o h=>R1.sH q o h fun x hx=>by cases hx
  exact ⟨R.grow R1.sB eH R1.sub (fun q h z=>R1.nB q h z) R1.tupB R1.nz,R1.sB,eH⟩
end
theorem Own.ofPure {B B' H:Hp} {p:Addr} {d:D} (k:∀ q xs,B q=some (.tup xs)->B' q=some (.tup xs)) (h:Own B H p d) (e:pureR d true=true):Own B' H p d:=by
  cases h with
  | lst h r=>exact .lst h (r.ofPure k e)
  | dct h r=>exact .dct h (r.ofPure k e)
theorem Own.mx {B H:Hp} {p:Addr} {d:D} (h:Own B H p d):∃ o,H p=some o∧Mx o:=by
  cases h with
  | lst h r=>exact ⟨_,h,trivial⟩
  | dct h r=>exact ⟨_,h,trivial⟩
structure Xc where
  c:Str
  by_:Option Int
inductive RR (α:Type) where
  | ok (v : α) (s:SS) | er (x:Xc) (s:SS)
abbrev MN (α:Type):=SS->Option (RR α)
abbrev EN:=MN SV
def bN {α β:Type} (m:MN α) (k : α->MN β):MN β:=fun s=>match m s with
  | some (.ok v s')=>k v s'
  | some (.er x s')=>some (.er x s')
  | none=>none
abbrev WX:=Xc->St->Hp->Prop
abbrev RL (β α:Type):=List Addr->Hp->β->α->Prop
def ROk {α β:Type} (G:FrN) (A:List Addr) (B:Hp) (σ:St) (W:WX) (Rl:RL β α) (Q : β->Hp->Prop):RR α->Prop
  | .ok v s'=>∀ x A' B' H',Gro A A'->Same B B'->RelN G A' B' H' σ s'->Rl A' B' x v->Q x H'
  | .er y s'=>∀ A' B' H',RelN G A' B' H' σ s'->W y σ H'
def NM {α β:Type} (W:WX) (Rl:RL β α) (t:St->Hp->(β->Hp->Prop)->Prop) (m:MN α):Prop :=
  ∀ (G:FrN) (A:List Addr) (B H:Hp) (σ:St) (s:SS) (r:RR α) (Q : β->Hp->Prop),RelN G A B H σ s->m s=some r->ROk G A B σ W Rl Q r->t σ H Q
abbrev NE (W:WX) (t:TE) (m:EN):Prop:=NM W RepV t m
abbrev NT (W:WX) (t:TT) (m:MN Bool):Prop:=NM W (fun _ _ (b c:Bool)=>b=c) t m
abbrev NA (W:WX) (t:TA) (m:MN (List SV)):Prop:=NM W RepVs t m
section
variable {W:WX} {G:FrN} {A:List Addr} {B H:Hp} {σ:St} {s:SS}
theorem ROk.up {α β:Type} {Rl:RL β α} {Q : β->Hp->Prop} {r:RR α} {A1:List Addr} {B1:Hp} (q:ROk G A B σ W Rl Q r) (g:Gro A A1) (e:Same B B1):ROk G A1 B1 σ W Rl Q r:=by
  cases r with
  | ok v s'=>exact fun x A' B' H' g' e'=>q x A' B' H' (g.trans g') (e.trans e')
  | er y s'=>exact q
theorem nm_use {α β γ δ:Type} {Rl:RL β α} {Rl':RL δ γ} {t:St->Hp->(β->Hp->Prop)->Prop} {m:MN α} {k : α->MN γ} {r:RR γ} {Q : δ->Hp->Prop} {C : β->Hp->Prop} (h:NM W Rl t m) (R:RelN G A B H σ s) (e:bN m k s=some r) (q:ROk G A B σ W Rl' Q r)
    (c:∀ x v A' B' H' s',Gro A A'->Same B B'->RelN G A' B' H' σ s'->Rl A' B' x v->k v s'=some r->ROk G A' B' σ W Rl' Q r->C x H'):t σ H C:=by
  unfold bN at e
  split at e
  . rename_i v s' h1
    exact h G A B H σ s _ C R h1 fun x A' B' H' g eB R' V=>c x v A' B' H' s' g eB R' V e (q.up g eB)
  . rename_i y s' h1
    cases e
    exact h G A B H σ s _ C R h1 q
  . cases e
end
def rdC (S:List (Option Cl)):SV->Option D
  | .pl d=>some d
  | .lc k=>match S[k]? with
    | some (some (.dat d))=>some d
    | _=>none
  | .tp _=>none
def rdCs (S:List (Option Cl)):List SV->Option (List D)
  | []=>some []
  | x::xs=>(rdC S x).bind fun d=>(rdCs S xs).map fun ds=>d::ds
section
variable {W:WX} {G:FrN} {A:List Addr} {B H:Hp} {σ:St} {s:SS}
theorem rdC_view {S:List (Option Cl)} (O:StO A B H S) {v:V} {x:SV} {d:D} (h:RepV A B v x) (e:rdC S x=some d):View B H v d:=by
  cases h with
  | pl r=>cases e; exact .inl r
  | lc h =>
    simp only [rdC] at e
    split at e
    . rename_i d' hc
      cases e
      cases O.cell _ _ _ hc h with
      | dat o=>exact .inr ⟨_,rfl,o⟩
    . cases e
  | tp _ _=>cases e
theorem rdCs_views {S:List (Option Cl)} (O:StO A B H S):∀ {vs:List V} {xs:List SV} {ds:List D},RepVs A B vs xs->rdCs S xs=some ds->Views B H vs ds
  | _,_,ds,.nil,e=>by
    simp only [rdCs] at e
    cases e
    trivial
  | _,_,ds,.cons a b,e=>by
    simp only [rdCs] at e
    obtain ⟨c,e1,e⟩:=Option.bind_eq_some_iff.mp e
    obtain ⟨cs,e2,rfl⟩:=Option.map_eq_some_iff.mp e
    exact ⟨rdC_view O a e1,rdCs_views O b e2⟩
theorem views_of:∀ {vs:List V} {ds:List D},Reps H vs ds->Views H H vs ds
  | _,_,.nil=>trivial
  | _,_,.cons a b=>⟨.inl a,views_of b⟩
def newD (d:D) (s:SS):RR SV:=.ok (.lc s.S.length) ⟨s.S++[some (.dat d)],s.t⟩
theorem newD_end {d:D} {p:Addr} {o:HO} {Q:VK} (R:RelN G A B H σ s) (hp:H p=none) (mo:Mx o) (ok:∀ H',H' p=some o->Own B H' p d) (q:ROk G A B σ W RepV Q (newD d s)):Q (.ref p) (upd H p o):=by
  obtain ⟨g1,g2,g3⟩:=R.newG hp
  have eH:Same H (upd H p o):=fun q u h=>by rw [upd_ne (fun z=>by rw [z,hp] at h; cases h)]; exact h
  have R2:RelN G A B (upd H p o) σ s:=R.grow (Same.refl _) eH (R.sub.trans eH) (fun _ _ z=>z) (fun q xs h=>by
    by_cases z:q=p
    . subst z; rw [upd_same] at h; cases h; cases mo
    . rw [upd_ne z] at h; exact R.tupB q xs h) fun q u w h=>by
    by_cases z:q=p
    . subst z; rw [upd_same] at h; cases h; cases mo
    . rw [upd_ne z] at h; exact R.nz q u w h
  have R3:=R2.take (c:=.dat d) g1 g2 g3 upd_same mo (.dat (ok _ upd_same))
  exact q _ _ _ _ (Gro.app _ _) (Same.refl _) R3 (.lc (by rw [← R.st.len]; exact List.getElem?_concat_length))
theorem tup_end {ds:List D} {p:Addr} {vs:List V} {Q:VK} (R:RelN G A B H σ s) (hp:H p=none) (rp:Reps B vs ds) (q:ROk G A B σ W RepV Q (.ok (.pl (.tuple ds)) s)):Q (.ref p) (upd H p (.tup vs)):=by
  obtain ⟨R2,eB⟩:=R.layT (xs:=vs) hp
  exact q _ A _ _ (Gro.refl _) eB R2 (.pl (.tup upd_same (rp.mono eB)))
def resN (w:D × Bool) (s:SS):Option (RR SV):=match w with
  | (d,false)=>some (.ok (.pl d) s)
  | (.tuple ds,true)=>some (.ok (.pl (.tuple ds)) s)
  | (d,true)=>some (newD d s)
theorem resN_end {w:D × Bool} {k:VK->Prop} {r:RR SV} {Q:VK} (R:RelN G A B H σ s) (h:ResOk B H w k) (e:resN w s=some r) (q:ROk G A B σ W RepV Q r):k Q:=by
  obtain ⟨d,b⟩:=w
  cases b with
  | false =>
    cases e
    obtain ⟨v,rp,hk⟩:=h
    exact hk Q (q v A B H (Gro.refl _) (Same.refl _) R (.pl rp))
  | true =>
    cases d with
    | list ds =>
      cases e
      obtain ⟨vs,rp,hk⟩:=h
      exact hk Q fun p hp=>newD_end R hp trivial (fun H' h'=>.lst h' rp) q
    | dict es =>
      cases e
      obtain ⟨kvs,rp,hk⟩:=h
      exact hk Q fun p hp=>newD_end R hp trivial (fun H' h'=>.dct h' rp) q
    | tuple ds =>
      cases e
      obtain ⟨vs,rp,hk⟩:=h
      exact hk Q fun p hp=>tup_end R hp rp q
    | none=>exact h.elim
    | bool _=>exact h.elim
    | int _=>exact h.elim
    | str _=>exact h.elim
def resO (w:D × Bool) (s:SS):Option (RR SV):=match w with
  | (d,false)=>if pureD d=true then some (.ok (.pl d) s) else none
  | (.tuple ds,true)=>if pureDs ds=true then some (.ok (.pl (.tuple ds)) s) else none
  | (d,true)=>if pureR d true=true then some (newD d s) else none
theorem resO_end {w:D × Bool} {k:VK->Prop} {r:RR SV} {Q:VK} (R:RelN G A B H σ s) (h:ResOk H H w k) (e:resO w s=some r) (q:ROk G A B σ W RepV Q r):k Q:=by
  obtain ⟨d,b⟩:=w
  cases b with
  | false =>
    simp only [resO] at e
    split at e
    . rename_i hp
      cases e
      obtain ⟨v,rp,hk⟩:=h
      exact hk Q (q v A B H (Gro.refl _) (Same.refl _) R (.pl (rp.ofPure R.tupB hp)))
    . cases e
  | true =>
    cases d with
    | list ds =>
      simp only [resO] at e
      split at e
      . rename_i hpu
        cases e
        obtain ⟨vs,rp,hk⟩:=h
        exact hk Q fun p hp=>newD_end R hp trivial (fun H' h'=>.lst h' (rp.ofPure R.tupB hpu)) q
      . cases e
    | dict es =>
      simp only [resO] at e
      split at e
      . rename_i hpu
        cases e
        obtain ⟨kvs,rp,hk⟩:=h
        exact hk Q fun p hp=>newD_end R hp trivial (fun H' h'=>.dct h' (rp.ofPure R.tupB hpu)) q
      . cases e
    | tuple ds =>
      simp only [resO] at e
      split at e
      . rename_i hpu
        cases e
        obtain ⟨vs,rp,hk⟩:=h
        exact hk Q fun p hp=>tup_end R hp (rp.ofPure R.tupB hpu) q
      . cases e
    | none=>exact h.elim
    | bool _=>exact h.elim
    | int _=>exact h.elim
    | str _=>exact h.elim
end
section
variable {W:WX}
def nO (m:PM):EN:=fun s=>(m (vw s)).bind fun x=>match x.1 with
  | (d,.fz)=>if pureD d=true then some (.ok (.pl d) s) else none
  | (d,.new)=>if pureR d true=true then some (newD d s) else none
  | _=>none
theorem ne_o {t:TE} {m:PM} (h:ME t m):NE W t (nO m):=by
  intro G A B H σ s r Q R e q
  obtain ⟨x,e1,e⟩:=Option.bind_eq_some_iff.mp e
  refine h _ H H σ (vw s) x.1 x.2 _ R.opn e1 fun v B1 H1 E1 R1 V1 N1=>?_
  obtain ⟨R2,eB,eH,kt⟩:=R.back R1
  obtain ⟨⟨d,k⟩,ρ1⟩:=x
  cases k with
  | fz =>
    dsimp only at e
    split at e
    . rename_i hp
      cases e
      have V1':Rep B1 v d:=V1
      exact q v A _ H1 (Gro.refl _) eB R2 (.pl (V1'.ofPure kt hp))
    . cases e
  | new =>
    dsimp only at e
    split at e
    . rename_i hp
      cases e
      obtain ⟨p,rfl,hB,hF,ow,_⟩:=V1
      have hF':H p=none:=hF
      obtain ⟨g1,g2,g3⟩:=R.newG hF'
      have ow':=ow.ofPure kt hp
      obtain ⟨o,ho,mo⟩:=ow'.mx
      have hB2:tbu B H1 p=none:=by
        cases h2:tbu B H1 p with
        | none=>rfl
        | some o' =>
          rcases tbu_or h2 with h3 | ⟨_,xs,rfl,h3⟩
          . rw [g3] at h3; cases h3
          . exact absurd h3 (ow.notup xs)
      have R3:=R2.take (c:=.dat d) g1 g2 hB2 ho mo (.dat ow')
      refine q _ _ _ H1 (Gro.app _ _) eB R3 (.lc ?_)
      rw [← R.st.len]; exact List.getElem?_concat_length
    . cases e
  | ro=>cases e
  | «at» j=>cases e
def nC (m:PM):EN:=fun s=>(m (vwC s)).bind fun x=>match x.1 with
  | (d,.fz)=>some (.ok (.pl d) s)
  | (d,.new)=>some (newD d s)
  | _=>none
theorem ne_c {t:TE} {m:PM} (h:ME t m):NE W t (nC m):=by
  intro G A B H σ s r Q R e q
  obtain ⟨x,e1,e⟩:=Option.bind_eq_some_iff.mp e
  refine h _ B H σ (vwC s) x.1 x.2 _ R.cls e1 fun v B1 H1 E1 R1 V1 N1=>?_
  obtain ⟨R2,eB,eH⟩:=R.backC R1
  obtain ⟨⟨d,k⟩,ρ1⟩:=x
  cases k with
  | fz=>cases e; exact q v A _ H1 (Gro.refl _) eB R2 (.pl V1)
  | new =>
    cases e
    obtain ⟨p,rfl,hB,hF,ow,_⟩:=V1
    have hF':H p=none:=hF
    obtain ⟨g1,g2,g3⟩:=R.newG hF'
    obtain ⟨o,ho,mo⟩:=ow.mx
    have R3:=R2.take (c:=.dat d) g1 g2 hB ho mo (.dat ow)
    refine q _ _ _ H1 (Gro.app _ _) eB R3 (.lc ?_)
    rw [← R.st.len]; exact List.getElem?_concat_length
  | ro=>cases e
  | «at» j=>cases e
def nTo (m:Rho->Option (Bool × Rho)):MN Bool:=fun s=>(m (vw s)).map fun x=>.ok x.1 s
theorem nt_o {t:TT} {m:Rho->Option (Bool × Rho)} (h:MT t m):NT W t (nTo m):=by
  intro G A B H σ s r Q R e q
  obtain ⟨x,e1,e⟩:=Option.map_eq_some_iff.mp e
  cases e
  refine h _ H H σ (vw s) x.1 x.2 _ R.opn e1 fun B1 H1 E1 R1=>?_
  obtain ⟨R2,eB,eH,kt⟩:=R.back R1
  exact q _ A _ H1 (Gro.refl _) eB R2 rfl
def nVar (i:Nat):EN:=fun s=>match s.t[i]? with
  | some (some x)=>some (.ok x s)
  | _=>none
theorem ne_var {i:Nat}:NE W (tVar i) (nVar i):=by
  intro G A B H σ s r Q R e q
  unfold nVar at e
  split at e
  . rename_i x hx
    cases e
    obtain ⟨v,h1,h2⟩:=R.slot i _ hx
    exact ⟨v,h1,q v A B H (Gro.refl _) (Same.refl _) R h2⟩
  . cases e
def nLit (d:D):EN:=fun s=>some (.ok (.pl d) s)
theorem ne_lit {v:V} {d:D} (h:∀ B,Rep B v d):NE W (tC v) (nLit d):=by
  intro G A B H σ s r Q R e q
  cases e
  exact q v A B H (Gro.refl _) (Same.refl _) R (.pl (h B))
def nOp (g:D->D->Option (D × Bool)) (a b:EN):EN:=bN a fun x=>bN b fun y s=>match rdC s.S x,rdC s.S y with
  | some c,some d=>(g c d).bind fun w=>resN w s
  | _,_=>(rdV s.S x).bind fun c=>(rdV s.S y).bind fun d=>(g c d).bind fun w=>resO w s
theorem ne_op {r:R2} {g:D->D->Option (D × Bool)} {ta tb:TE} {a b:EN} (J:OpJ r g) (ha:NE W ta a) (hb:NE W tb b):NE W (tOp r ta tb) (nOp g a b):=by
  intro G A B H σ s r0 Q R e q
  refine nm_use (t:=ta) ha R e q fun x v A1 B1 H1 s1 g1 eB1 R1 V1 e1 q1=>?_
  refine nm_use (t:=tb) hb R1 e1 q1 fun y u A2 B2 H2 s2 g2 eB2 R2 V2 e2 q2=>?_
  have V1':=V1.mono g2 eB2
  split at e2
  . rename_i c d h1 h2
    obtain ⟨w,e3,e4⟩:=Option.bind_eq_some_iff.mp e2
    exact resN_end R2 (J B2 H2 x y c d w R2.sub (rdC_view R2.st V1' h1) (rdC_view R2.st V2 h2) e3) e4 q2
  . obtain ⟨c,h1,e2⟩:=Option.bind_eq_some_iff.mp e2
    obtain ⟨d,h2,e2⟩:=Option.bind_eq_some_iff.mp e2
    obtain ⟨w,e3,e4⟩:=Option.bind_eq_some_iff.mp e2
    exact resO_end R2 (J H2 H2 x y c d w (Same.refl _) (.inl (rdV_rep R2.st R2.sub V1' h1)) (.inl (rdV_rep R2.st R2.sub V2 h2)) e3) e4 q2
def nTest (a:EN):MN Bool:=bN a fun x s=>match x with
  | .pl (.bool b)=>some (.ok b s)
  | _=>none
theorem nt_test {ta:TE} {a:EN} (ha:NE W ta a):NT W (tTest ta) (nTest a):=by
  intro G A B H σ s r0 Q R e q
  refine nm_use (t:=ta) ha R e q fun x v A1 B1 H1 s1 g1 eB1 R1 V1 e1 q1=>?_
  split at e1
  . cases e1
    cases V1 with
    | pl r=>cases r; exact ⟨_,rfl,q1 _ A1 B1 H1 (Gro.refl _) (Same.refl _) R1 rfl⟩
  . cases e1
theorem nt_tB {ta:TE} {a:EN} (ha:NE W ta a):NT W (tB ta) (nTest a):=nt_test ha
def okB (b:Bool):MN Bool:=fun s=>some (.ok b s)
theorem okB_end {G:FrN} {A:List Addr} {B H:Hp} {σ:St} {s:SS} {b:Bool} {r:RR Bool} {Q:Bool->Hp->Prop} (R:RelN G A B H σ s) (e:okB b s=some r) (q:ROk G A B σ W (fun _ _ (b c:Bool)=>b=c) Q r):Q b H:=by
  cases e
  exact q b A B H (Gro.refl _) (Same.refl _) R rfl
def okD (d:D):EN:=fun s=>some (.ok (.pl d) s)
def nOr (a b:MN Bool):MN Bool:=bN a fun x=>if x=true then okB true else b
theorem nt_or {ta tb:TT} {a b:MN Bool} (ha:NT W ta a) (hb:NT W tb b):NT W (tOr ta tb) (nOr a b):=by
  intro G A B H σ s r0 Q R e q
  refine nm_use (t:=ta) ha R e q fun x v A1 B1 H1 s1 g1 eB1 R1 V1 e1 q1=>?_
  subst V1
  by_cases h:x=true
  . rw [if_pos h] at e1 ⊢; exact okB_end R1 e1 q1
  . rw [if_neg h] at e1 ⊢; exact hb G A1 B1 H1 σ s1 r0 Q R1 e1 q1
def nNot (a:MN Bool):MN Bool:=bN a fun x=>okB (!x)
theorem nt_not {ta:TT} {a:MN Bool} (ha:NT W ta a):NT W (tNot ta) (nNot a):=by
  intro G A B H σ s r0 Q R e q
  refine nm_use (t:=ta) ha R e q fun x v A1 B1 H1 s1 g1 eB1 R1 V1 e1 q1=>?_
  subst V1
  exact okB_end R1 e1 q1
def ixV (S:List (Option Cl)) (x:SV) (i:Int):Option SV:=match x with
  | .tp xs=>L2.atI xs i
  | .pl (.tuple ds)=>(L2.atI ds i).map .pl
  | .pl (.list ds)=>(L2.atI ds i).map .pl
  | .lc k=>match S[k]? with
    | some (some (.dat (.list ds)))=>(L2.atI ds i).map .pl
    | some (some (.lst xs))=>L2.atI xs i
    | _=>none
  | _=>none
theorem atI_rel {α β:Type} {P : α->β->Prop} {xs:List α} {ys:List β} (hl:xs.length=ys.length) (h:∀ (n:Nat) (y : β),ys[n]?=some y->∃ x,xs[n]?=some x∧P x y) {i:Int} {y : β} (e:L2.atI ys i=some y):∃ x,L2.atI xs i=some x∧P x y:=by
  unfold L2.atI at e ⊢
  rw [hl]
  obtain ⟨j,e1,e2⟩:=Option.bind_eq_some_iff.mp e
  obtain ⟨x,h1,h2⟩:=h j y e2
  exact ⟨x,by rw [e1,Option.bind_some]; exact h1,h2⟩
theorem ixV_ok {K:PySem.W.Frag} {G:FrN} {A:List Addr} {B H:Hp} {σ:St} {s:SS} {v:V} {x y:SV} {i:Int} (R:RelN G A B H σ s) (hV:RepV A B v x) (e:ixV s.S x i=some y):∃ u,RepV A B u y∧∀ Q:VK,Q u H->rIx K v (.int i) H Q:=by
  have lst:∀ {a:Addr} {xs:List V} {u:V},H a=some (.lst xs)∨Rd H a (.lst xs)->L2.atI xs i=some u->∀ Q:VK,Q u H->rIx K (.ref a) (.int i) H Q:=fun h h1 Q q =>
    .inl ⟨_,_,_,_,rfl,rfl,.inl (h.elim .inl id),h1,q⟩
  cases x with
  | tp xs =>
    cases hV with
    | tp ht rs =>
      obtain ⟨u,h1,h2⟩:=atI_rel rs.length (fun n y hy=>rs.get n y hy) e
      exact ⟨u,h2,fun Q q=>.inr (.inl ⟨_,_,_,_,rfl,rfl,.inl (.inl (R.sub _ _ ht)),h1,q⟩)⟩
  | pl d =>
    cases d with
    | tuple ds =>
      obtain ⟨c,e1,rfl⟩:=Option.map_eq_some_iff.mp e
      cases hV with
      | pl rp =>
        cases rp with
        | tup ht rs =>
          obtain ⟨u,h1,h2⟩:=atI_rel rs.length (fun n y hy=>rs.get n y hy) e1
          exact ⟨u,.pl h2,fun Q q=>.inr (.inl ⟨_,_,_,_,rfl,rfl,.inl (.inl (R.sub _ _ ht)),h1,q⟩)⟩
    | list ds =>
      obtain ⟨c,e1,rfl⟩:=Option.map_eq_some_iff.mp e
      cases hV with
      | pl rp =>
        cases rp with
        | lst ht rs =>
          obtain ⟨u,h1,h2⟩:=atI_rel rs.length (fun n y hy=>rs.get n y hy) e1
          exact ⟨u,.pl h2,lst (.inr (rd_same R.sub ht)) h1⟩
    | _=>cases e
  | lc k =>
    simp only [ixV] at e
    cases hV with
    | lc hA =>
      split at e
      . rename_i ds hk
        obtain ⟨c,e1,rfl⟩:=Option.map_eq_some_iff.mp e
        cases R.st.cell k _ _ hk hA with
        | dat ow =>
          obtain ⟨xs,hp,rs⟩:=ow.list
          obtain ⟨u,h1,h2⟩:=atI_rel rs.length (fun n y hy=>rs.get n y hy) e1
          exact ⟨u,.pl h2,lst (.inl hp) h1⟩
      . rename_i xs hk
        cases R.st.cell k _ _ hk hA with
        | lst hp rs =>
          obtain ⟨u,h1,h2⟩:=atI_rel rs.length (fun n y hy=>rs.get n y hy) e
          exact ⟨u,h2,lst (.inl hp) h1⟩
      . cases e
def nIx (a b:EN):EN:=bN a fun x=>bN b fun y s=>match y with
  | .pl (.int i)=>(ixV s.S x i).map fun z=>.ok z s
  | _=>none
theorem ne_ix {K:PySem.W.Frag} {ta tb:TE} {a b:EN} (ha:NE W ta a) (hb:NE W tb b):NE W (tOp (rIx K) ta tb) (nIx a b):=by
  intro G A B H σ s r0 Q R e q
  refine nm_use (t:=ta) ha R e q fun x v A1 B1 H1 s1 g1 eB1 R1 V1 e1 q1=>?_
  refine nm_use (t:=tb) hb R1 e1 q1 fun y u A2 B2 H2 s2 g2 eB2 R2 V2 e2 q2=>?_
  split at e2
  . obtain ⟨z,e3,e4⟩:=Option.map_eq_some_iff.mp e2
    cases e4
    cases V2 with
    | pl rp =>
      cases rp
      obtain ⟨w,h1,h2⟩:=ixV_ok (K:=K) R2 (V1.mono g2 eB2) e3
      exact h2 Q (q2 w A2 B2 H2 (Gro.refl _) (Same.refl _) R2 h1)
  . cases e2
def naNil:MN (List SV):=fun s=>some (.ok [] s)
theorem na_nil:NA W tNil naNil:=by
  intro G A B H σ s rs Q R e q
  cases e
  exact q [] A B H (Gro.refl _) (Same.refl _) R .nil
def naCons (a:EN) (m:MN (List SV)):MN (List SV):=bN a fun x=>bN m fun xs s=>some (.ok (x::xs) s)
theorem na_cons {ta:TE} {tr:TA} {a:EN} {m:MN (List SV)} (ha:NE W ta a) (hr:NA W tr m):NA W (tCons ta tr) (naCons a m):=by
  intro G A B H σ s r0 Q R e q
  refine nm_use (t:=ta) ha R e q fun x v A1 B1 H1 s1 g1 eB1 R1 V1 e1 q1=>?_
  refine nm_use (t:=tr) hr R1 e1 q1 fun y u A2 B2 H2 s2 g2 eB2 R2 V2 e2 q2=>?_
  cases e2
  exact q2 _ A2 B2 H2 (Gro.refl _) (Same.refl _) R2 (.cons (V1.mono g2 eB2) V2)
def allPl:List SV->Option (List D)
  | []=>some []
  | .pl d::xs=>(allPl xs).map fun ds=>d::ds
  | _=>none
theorem allPl_rep {A:List Addr} {B:Hp}:∀ {vs:List V} {xs:List SV} {ds:List D},RepVs A B vs xs->allPl xs=some ds->Reps B vs ds
  | _,_,ds,.nil,e=>by
    simp only [allPl] at e
    cases e; exact .nil
  | _,_,ds,.cons (x:=x) a b,e=>by
    cases x with
    | pl d =>
      simp only [allPl] at e
      obtain ⟨ds',e1,rfl⟩:=Option.map_eq_some_iff.mp e
      cases a with
      | pl r=>exact .cons r (allPl_rep b e1)
    | lc k=>simp [allPl] at e
    | tp k=>simp [allPl] at e
def mkT (xs:List SV):SV:=match allPl xs with
  | some ds=>.pl (.tuple ds)
  | none=>.tp xs
theorem mkT_rep {A:List Addr} {B:Hp} {t:Addr} {vs:List V} {xs:List SV} (h:B t=some (.tup vs)) (r:RepVs A B vs xs):RepV A B (.ref t) (mkT xs):=by
  unfold mkT
  split
  . rename_i ds e; exact .pl (.tup h (allPl_rep r e))
  . exact .tp h r
noncomputable def nTup (m:MN (List SV)):EN:=bN m fun xs s=>cIf (xs.length≤sizeLine) (some (.ok (mkT xs) s)) none
theorem ne_tup {t:TA} {m:MN (List SV)} (h:NA W t m):NE W (tTup t) (nTup m):=by
  intro G A B H σ s r0 Q R e q
  refine nm_use (t:=t) h R e q fun vs xs A1 B1 H1 s1 g1 eB1 R1 V1 e1 q1=>?_
  obtain ⟨hz,e1⟩:=cIf_eq e1
  cases e1
  refine ⟨by rw [V1.length]; exact hz,fun p hp=>?_⟩
  obtain ⟨R2,eB2⟩:=R1.layT (xs:=vs) hp
  exact q1 _ A1 _ _ (Gro.refl _) eB2 R2 (mkT_rep upd_same (V1.mono (Gro.refl _) eB2))
def mkL (xs:List SV):Cl:=match allPl xs with
  | some ds=>.dat (.list ds)
  | none=>.lst xs
def newC (c:Cl) (s:SS):RR SV:=.ok (.lc s.S.length) ⟨s.S++[some c],s.t⟩
theorem newC_end {G:FrN} {A:List Addr} {B H:Hp} {σ:St} {s:SS} {c:Cl} {p:Addr} {o:HO} {Q:VK} (R:RelN G A B H σ s) (hp:H p=none) (mo:Mx o) (ok:∀ H',H' p=some o->CellOk (A++[p]) B H' p c) (q:ROk G A B σ W RepV Q (newC c s)):Q (.ref p) (upd H p o):=by
  obtain ⟨g1,g2,g3⟩:=R.newG hp
  have eH:Same H (upd H p o):=fun q u h=>by rw [upd_ne (fun z=>by rw [z,hp] at h; cases h)]; exact h
  have R2:RelN G A B (upd H p o) σ s:=R.grow (Same.refl _) eH (R.sub.trans eH) (fun _ _ z=>z) (fun q xs h=>by
    by_cases z:q=p
    . subst z; rw [upd_same] at h; cases h; cases mo
    . rw [upd_ne z] at h; exact R.tupB q xs h) fun q u w h=>by
    by_cases z:q=p
    . subst z; rw [upd_same] at h; cases h; cases mo
    . rw [upd_ne z] at h; exact R.nz q u w h
  have R3:=R2.take (c:=c) g1 g2 g3 upd_same mo (ok _ upd_same)
  exact q _ _ _ _ (Gro.app _ _) (Same.refl _) R3 (.lc (by rw [← R.st.len]; exact List.getElem?_concat_length))
noncomputable def nLst (m:MN (List SV)):EN:=bN m fun xs s=>cIf (xs.length≤sizeLine) (some (newC (mkL xs) s)) none
theorem ne_lst {t:TA} {m:MN (List SV)} (h:NA W t m):NE W (tLst t) (nLst m):=by
  intro G A B H σ s r0 Q R e q
  refine nm_use (t:=t) h R e q fun vs xs A1 B1 H1 s1 g1 eB1 R1 V1 e1 q1=>?_
  obtain ⟨hz,e1⟩:=cIf_eq e1
  cases e1
  refine ⟨by rw [V1.length]; exact hz,fun p hp=>newC_end R1 hp trivial (fun H' h'=>?_) q1⟩
  unfold mkL
  split
  . rename_i ds ea; exact .dat (.lst h' (allPl_rep V1 ea))
  . exact .lst h' (V1.mono (Gro.app _ _) (Same.refl _))
def nCB (g:List D->Option (D × Bool)) (m:MN (List SV)):EN:=bN m fun xs s=>match rdCs s.S xs with
  | some ds=>(g ds).bind fun w=>resN w s
  | none=>(rdVs s.S xs).bind fun ds=>(g ds).bind fun w=>resO w s
theorem ne_cb {r:List V->Hp->VK->Prop} {g:List D->Option (D × Bool)} {t:TA} {m:MN (List SV)} (J:CallJ r g) (h:NA W t m):NE W (tCB r t) (nCB g m):=by
  intro G A B H σ s r0 Q R e q
  refine nm_use (t:=t) h R e q fun vs xs A1 B1 H1 s1 g1 eB1 R1 V1 e1 q1=>?_
  split at e1
  . rename_i ds h1
    obtain ⟨w,e3,e4⟩:=Option.bind_eq_some_iff.mp e1
    exact resN_end R1 (J B1 H1 vs ds w R1.sub (rdCs_views R1.st V1 h1) e3) e4 q1
  . obtain ⟨ds,h1,e1⟩:=Option.bind_eq_some_iff.mp e1
    obtain ⟨w,e3,e4⟩:=Option.bind_eq_some_iff.mp e1
    exact resO_end R1 (J H1 H1 vs ds w (Same.refl _) (views_of (rdVs_rep R1.st R1.sub V1 h1)) e3) e4 q1
structure PostN (A:List Addr) (B H:Hp) (A':List Addr) (B' H':Hp) (S':List (Option Cl)) (v:V) (r:SV):Prop where
  gro:Gro A A'
  eB:Same B B'
  sub:Same B' H'
  tB:∀ q xs,H' q=some (.tup xs)->B' q=some (.tup xs)
  kept:∀ q o,H q=some o->q ∉ A->H' q=some o
  nb:∀ q,H q≠none->B q=none->B' q=none
  fresh:∀ a∈A',a∈A∨H a=none
  st:StO A' B' H' S'
  nz:∀ q o u,H' q=some (.frz o u)->∃ o0 u0,H q=some (.frz o0 u0)
  val:RepV A' B' v r
inductive FR where
  | ok (r:SV) (S:List (Option Cl)) | er (x:Xc) (S:List (Option Cl))
abbrev FN:=List (Option Cl)->List SV->Option FR
def spS (f:FN):Sp:=fun vs H Q E=>∃ A B S xs w,Same B H∧(∀ q xs,H q=some (.tup xs)->B q=some (.tup xs))∧StO A B H S∧RepVs A B vs xs∧f S xs=some w ∧
  match w with
  | .ok r S'=>∀ v A' B' H',PostN A B H A' B' H' S' v r->Q v H'
  | .er x S'=>∀ A' B' H',PostN A B H A' B' H' S' .non (.pl .none)->E (Zl.cl x.c) none H'
def spQ (f:FN):Sp:=fun vs H Q _=>spS f vs H Q E0
theorem RelN.post {G:FrN} {A A':List Addr} {B H B' H':Hp} {σ:St} {s:SS} {S':List (Option Cl)} {v:V} {r:SV} (R:RelN G A B H σ s) (P:PostN A B H A' B' H' S' v r):RelN G A' B' H' σ ⟨S',s.t⟩:=by
  refine ⟨P.sub,R.sB.trans P.eB,P.tB,fun q o h n=>?_,fun q h z=>?_,R.pre.trans P.gro,fun a ha=>?_,P.st,R.len,fun i x h=>?_,fun q o u h=>?_⟩
  . refine P.kept q o (R.kept q o h n) fun hq=>?_
    rcases R.fresh q hq with h1 | h1
    . exact n h1
    . rw [h1] at h; cases h
  . refine P.nb q (fun hq=>?_) (R.nB q h z)
    have:=(R.newG hq).1
    exact h this
  . rcases P.fresh a ha with h | h
    . exact R.fresh a h
    . exact .inr (R.newG h).1
  . obtain ⟨w,h1,h2⟩:=R.slot i x h
    exact ⟨w,h1,h2.mono P.gro P.eB⟩
  . obtain ⟨o0,u0,h0⟩:=P.nz q o u h
    exact R.nz q o0 u0 h0
def frR (w:FR) (t:List (Option SV)):RR SV:=match w with
  | .ok r S=>.ok r ⟨S,t⟩
  | .er x S=>.er x ⟨S,t⟩
def nCall (f:FN) (m:MN (List SV)):EN:=bN m fun xs s=>(f s.S xs).map fun w=>frR w s.t
theorem call_end {f:FN} {G:FrN} {A:List Addr} {B H:Hp} {σ:St} {s:SS} {vs:List V} {xs:List SV} {r0:RR SV} {Q:VK} {E:XK} (R:RelN G A B H σ s) (V:RepVs A B vs xs) (e:((f s.S xs).map fun w=>frR w s.t)=some r0) (q:ROk G A B σ W RepV Q r0)
    (hw:∀ x H',W x σ H'->E (Zl.cl x.c) none H'):spS f vs H Q E:=by
  obtain ⟨w,e2,e3⟩:=Option.map_eq_some_iff.mp e
  refine ⟨A,B,s.S,xs,w,R.sub,R.tupB,R.st,V,e2,?_⟩
  cases w with
  | ok r S' =>
    cases e3
    exact fun v A' B' H' P=>q v A' B' H' P.gro P.eB (R.post P) P.val
  | er x S' =>
    cases e3
    exact fun A' B' H' P=>hw x H' (q A' B' H' (R.post P))
theorem ne_call {f:FN} {E:XK} {t:TA} {m:MN (List SV)} (hw:∀ x σ H',W x σ H'->E (Zl.cl x.c) none H') (h:NA W t m):NE W (tCall (spS f) [] E t) (nCall f m):=by
  intro G A B H σ s r0 Q R e q
  refine nm_use (t:=t) h R e q fun vs xs A1 B1 H1 s1 g1 eB1 R1 V1 e1 q1=>?_
  rw [List.append_nil]
  exact call_end R1 V1 e1 q1 fun x H'=>hw x σ H'
def W0:WX:=fun _ _ _=>False
theorem ne_callQ {f:FN} {t:TA} {m:MN (List SV)} (h:NA W0 t m):NE W0 (tCall (spQ f) [] E0 t) (nCall f m):=ne_call (fun _ _ _ z=>z.elim) h
def qt {α:Type} (m:MN α):MN α:=fun s=>match m s with
  | some (.ok v s')=>some (.ok v s')
  | _=>none
theorem nm_qt {α β:Type} {Rl:RL β α} {t:St->Hp->(β->Hp->Prop)->Prop} {m:MN α} (h:NM W0 Rl t m):NM W Rl t (qt m):=by
  intro G A B H σ s r Q R e q
  unfold qt at e
  split at e
  . rename_i v s' h1
    cases e
    exact h G A B H σ s _ Q R h1 q
  . cases e
def nCallO (f:List D->Option (D × Bool)) (m:MN (List SV)):EN:=bN m fun xs s=>match allPl xs with
  | some ds=>(f ds).bind fun w=>resN w s
  | none=>(rdVs s.S xs).bind fun ds=>(f ds).bind fun w=>resO w s
theorem Rel_post_closed {G:FrN} {A:List Addr} {B H B' H':Hp} {σ:St} {s:SS} {v:V} {d:D} {o:Bool} (R:RelN G A B H σ s) (P:Post B H v B' H' d o):RelN G A B' H' σ s :=
  R.grow P.eB P.eH P.sub (fun q h z=>P.nb q h z) P.tB fun q u w h=>by
    have hq:=P.nz q u w h
    cases h2:H q with
    | none=>exact absurd h2 hq
    | some o2 =>
      have:=P.eH q o2 h2
      rw [h] at this
      cases this
      exact R.nz q u w h2
theorem ne_callO {f:List D->Option (D × Bool)} {E:XK} {t:TA} {m:MN (List SV)} (h:NA W t m):NE W (tCall (spM f) [] E t) (nCallO f m):=by
  intro G A B H σ s r0 Q R e q
  refine nm_use (t:=t) h R e q fun vs xs A1 B1 H1 s1 g1 eB1 R1 V1 e1 q1=>?_
  rw [List.append_nil]
  split at e1
  . rename_i ds h1
    obtain ⟨w,e3,e4⟩:=Option.bind_eq_some_iff.mp e1
    obtain ⟨d,o⟩:=w
    refine ⟨B1,ds,d,o,R1.sub,R1.tupB,allPl_rep V1 h1,e3,fun v B' H' P=>?_⟩
    have R2:=Rel_post_closed R1 P
    have pv:=P.val
    cases o with
    | false =>
      cases e4
      exact q1 v A1 B' H' (Gro.refl _) P.eB R2 (.pl pv)
    | true =>
      obtain ⟨p,rfl,hn,hB,ow⟩:=pv
      have key:∀ r1,r1=newD d s1->ROk G A1 B1 σ W RepV Q r1->Q (.ref p) H':=fun r1 er q2=>by
        subst er
        obtain ⟨g1,g2,g3⟩:=R1.newG hn
        obtain ⟨ob,ho,mo⟩:=ow.mx
        have R3:=R2.take (c:=.dat d) g1 g2 hB ho mo (.dat ow)
        exact q2 _ _ B' H' (Gro.app _ _) P.eB R3 (.lc (by rw [← R1.st.len]; exact List.getElem?_concat_length))
      cases ow with
      | lst _ _=>cases e4; exact key _ rfl q1
      | dct _ _=>cases e4; exact key _ rfl q1
  . obtain ⟨ds,h1,e1⟩:=Option.bind_eq_some_iff.mp e1
    obtain ⟨w,e3,e4⟩:=Option.bind_eq_some_iff.mp e1
    obtain ⟨d,o⟩:=w
    refine ⟨H1,ds,d,o,Same.refl _,fun _ _ z=>z,rdVs_rep R1.st R1.sub V1 h1,e3,fun v B' H' P=>?_⟩
    have eH:Same H1 H':=P.eH
    have sub1:Same B1 H':=R1.sub.trans eH
    have R2:RelN G A1 (tbu B1 H') H' σ s1:=R1.grow tbu_same eH (fun q u h=>by
        rcases tbu_or h with h | ⟨_,xs,rfl,h'⟩
        . exact sub1 q u h
        . exact h') (fun q h z=>by
        cases h2:tbu B1 H' q with
        | none=>rfl
        | some u =>
          rcases tbu_or h2 with h3 | ⟨_,xs,rfl,h3⟩
          . rw [z] at h3; cases h3
          . cases h4:H1 q with
            | none=>exact absurd h4 h
            | some u4 =>
              have:=eH q u4 h4
              rw [h3] at this
              cases this
              rw [R1.tupB q xs h4] at z; cases z) (fun q xs h=>tbu_tup sub1 h) fun q u w h=>by
        have hq:=P.nz q u w h
        cases h2:H1 q with
        | none=>exact absurd h2 hq
        | some o2 =>
          have:=P.eH q o2 h2
          rw [h] at this
          cases this
          exact R1.nz q u w h2
    have kt:∀ q xs,B' q=some (.tup xs)->tbu B1 H' q=some (.tup xs):=fun q xs h=>tbu_tup sub1 (P.sub _ _ h)
    have pv:=P.val
    cases o with
    | false =>
      simp only [resO] at e4
      split at e4
      . rename_i hp
        cases e4
        have pv':Rep B' v d:=pv
        exact q1 v A1 _ H' (Gro.refl _) tbu_same R2 (.pl (pv'.ofPure kt hp))
      . cases e4
    | true =>
      obtain ⟨p,rfl,hn,hB,ow⟩:=pv
      have key:pureR d true=true->∀ r1,r1=newD d s1->ROk G A1 B1 σ W RepV Q r1->Q (.ref p) H':=fun hp r1 er q2=>by
        subst er
        obtain ⟨g1,g2,g3⟩:=R1.newG hn
        have ow':=ow.ofPure kt hp
        obtain ⟨ob,ho,mo⟩:=ow'.mx
        have hB2:tbu B1 H' p=none:=by
          cases h2:tbu B1 H' p with
          | none=>rfl
          | some o' =>
            rcases tbu_or h2 with h3 | ⟨_,xs,rfl,h3⟩
            . rw [g3] at h3; cases h3
            . exact absurd h3 (ow.notup xs)
        have R3:=R2.take (c:=.dat d) g1 g2 hB2 ho mo (.dat ow')
        exact q2 _ _ _ H' (Gro.app _ _) tbu_same R3 (.lc (by rw [← R1.st.len]; exact List.getElem?_concat_length))
      cases ow with
      | lst h r =>
        simp only [resO] at e4
        split at e4
        . rename_i hp; cases e4; exact key hp _ rfl q1
        . cases e4
      | dct h r =>
        simp only [resO] at e4
        split at e4
        . rename_i hp; cases e4; exact key hp _ rfl q1
        . cases e4
end
end
end Mir
set_option Elab.async false
set_option linter.all false
set_option maxRecDepth 100000
namespace Mir
open PySem L2
section
variable [Zc] [Zl]
inductive NOut where
  | nx (s:SS) | rt (r:SV) (s:SS) | bk (s:SS) | ct (s:SS) | er (x:Xc) (s:SS)
abbrev SN:=SS->Option NOut
def NOk (G:FrN) (W:WX) (D:Ends):NOut->Prop
  | .nx s=>∀ A B H σ,RelN G A B H σ s->D.nx σ H
  | .rt r s=>∀ v A B H σ,RelN G A B H σ s->RepV A B v r->D.rt v H
  | .bk s=>∀ A B H σ,RelN G A B H σ s->D.bk σ H
  | .ct s=>∀ A B H σ,RelN G A B H σ s->D.ct σ H
  | .er x s=>∀ A B H σ,RelN G A B H σ s->W x σ H
def NS (W:WX) (t:TS) (m:SN):Prop:=∀ (G:FrN) (A:List Addr) (B H:Hp) (σ:St) (s:SS) (o:NOut) (D:Ends),RelN G A B H σ s->m s=some o->NOk G W D o->t D σ H
def bS {α:Type} (m:MN α) (k : α->SN):SN:=fun s=>match m s with
  | some (.ok v s')=>k v s'
  | some (.er x s')=>some (.er x s')
  | none=>none
section
variable {W:WX}
theorem ns_use {α β:Type} {Rl:RL β α} {t:St->Hp->(β->Hp->Prop)->Prop} {m:MN α} {k : α->SN} {G:FrN} {A:List Addr} {B H:Hp} {σ:St} {s:SS} {o:NOut} {D:Ends} {C : β->Hp->Prop} (h:NM W Rl t m) (R:RelN G A B H σ s) (e:bS m k s=some o) (q:NOk G W D o)
    (c:∀ x v A' B' H' s',RelN G A' B' H' σ s'->Rl A' B' x v->k v s'=some o->C x H'):t σ H C:=by
  unfold bS at e
  split at e
  . rename_i v s' h1
    exact h G A B H σ s _ C R h1 fun x A' B' H' g eB R' V=>c x v A' B' H' s' R' V e
  . rename_i y s' h1
    cases e
    exact h G A B H σ s _ C R h1 fun A' B' H' R'=>q A' B' H' σ R'
  . cases e
def nSeq (a b:SN):SN:=fun s=>match a s with
  | some (.nx s')=>b s'
  | o=>o
theorem ns_seq {t u:TS} {a b:SN} (ha:NS W t a) (hb:NS W u b):NS W (tSeq t u) (nSeq a b):=by
  intro G A B H σ s o D R e q
  unfold nSeq at e
  split at e
  . rename_i s' e1
    exact ha G A B H σ s _ _ R e1 fun A' B' H' σ' R'=>hb G A' B' H' σ' s' o D R' e q
  . rename_i o' hn
    refine ha G A B H σ s o _ R e ?_
    cases o with
    | nx s'=>exact absurd e (hn s')
    | rt r s'=>exact q
    | bk s'=>exact q
    | ct s'=>exact q
    | er x s'=>exact q
def nPass:SN:=fun s=>some (.nx s)
theorem ns_next:NS W tNext nPass:=by
  intro G A B H σ s o D R e q
  cases e; exact q A B H σ R
def nRet (a:EN):SN:=bS a fun x s=>some (.rt x s)
theorem ns_ret {t:TE} {a:EN} (ha:NE W t a):NS W (tRet t) (nRet a):=by
  intro G A B H σ s o D R e q
  refine ns_use (t:=t) ha R e q fun x v A' B' H' s' R' V' e1=>?_
  cases e1
  exact q x A' B' H' σ R' V'
def nDrop (a:EN):SN:=bS a fun _ s=>some (.nx s)
theorem ns_drop {t:TE} {a:EN} (ha:NE W t a):NS W (tDrop t) (nDrop a):=by
  intro G A B H σ s o D R e q
  refine ns_use (t:=t) ha R e q fun x v A' B' H' s' R' V' e1=>?_
  cases e1
  exact q A' B' H' σ R'
def nIfS (c:MN Bool) (a b:SN):SN:=bS c fun x=>if x=true then a else b
theorem ns_if {tc:TT} {t u:TS} {c:MN Bool} {a b:SN} (hc:NT W tc c) (ha:NS W t a) (hb:NS W u b):NS W (tIfS tc t u) (nIfS c a b):=by
  intro G A B H σ s o D R e q
  refine ns_use (t:=tc) hc R e q fun x v A' B' H' s' R' V' e1=>?_
  subst V'
  by_cases h:x=true
  . rw [if_pos h] at e1 ⊢; exact ha G A' B' H' σ s' o D R' e1 q
  . rw [if_neg h] at e1 ⊢; exact hb G A' B' H' σ s' o D R' e1 q
def NG (W:WX) (g:TG) (mg:SV->SN):Prop:=∀ (G:FrN) (A:List Addr) (B H:Hp) (σ:St) (s:SS) (v:V) (x:SV) (o:NOut) (D:Ends),RelN G A B H σ s->RepV A B v x->mg x s=some o->NOk G W D o->g v σ H D.nx
def ngN (i:Nat):SV->SN:=fun x s=>if i < s.t.length then some (.nx ⟨s.S,s.t.set i (some x)⟩) else none
theorem ng_name {i:Nat}:NG W (gName i) (ngN i):=fun G A B H σ s v x o D R rv e q=>by
  unfold ngN at e
  split at e
  . rename_i h; cases e; exact q A B H _ (R.set h rv)
  . cases e
def NGs (g:TGs) (mg:List SV->SS->Option SS):Prop:=∀ (G:FrN) (A:List Addr) (B H:Hp) (σ:St) (s:SS) (vs:List V) (xs:List SV) (s':SS) (Q:St->Hp->Prop),RelN G A B H σ s->RepVs A B vs xs->mg xs s=some s'->(∀ σ',RelN G A B H σ' s'->Q σ' H)->g vs σ H Q
def ngsNil:List SV->SS->Option SS:=fun xs s=>match xs with
  | []=>some s
  | _=>none
def ngsCons (i:Nat) (gs:List SV->SS->Option SS):List SV->SS->Option SS:=fun xs s=>match xs with
  | x::xs=>if i < s.t.length then gs xs ⟨s.S,s.t.set i (some x)⟩ else none
  | _=>none
theorem ngs_nil:NGs gNil ngsNil:=fun G A B H σ s vs xs s' Q R rv e q=>by
  cases rv with
  | nil=>cases e; exact ⟨rfl,q σ R⟩
  | cons _ _=>cases e
theorem ngs_cons {i:Nat} {gs:TGs} {ms:List SV->SS->Option SS} (hs:NGs gs ms):NGs (gCons (gName i) gs) (ngsCons i ms):=fun G A B H σ s vs xs s' Q R rv e q=>by
  cases rv with
  | nil=>cases e
  | cons r rs =>
    simp only [ngsCons] at e
    split at e
    . rename_i h
      exact ⟨_,_,rfl,hs G A B H _ _ _ _ s' Q (R.set h r) rs e fun σ2 R2=>q σ2 R2⟩
    . cases e
theorem Reps.plV {A:List Addr} {B:Hp}:∀ {vs:List V} {ds:List D},Reps B vs ds->RepVs A B vs (ds.map .pl)
  | _,_,.nil=>.nil
  | _,_,.cons a b=>.cons (.pl a) (Reps.plV b)
def asTp (S:List (Option Cl)):SV->Option (List SV)
  | .tp xs=>some xs
  | .pl (.tuple ds)=>some (ds.map .pl)
  | .pl (.list ds)=>some (ds.map .pl)
  | .lc k=>match S[k]? with
    | some (some (.dat (.list ds)))=>some (ds.map .pl)
    | some (some (.lst xs))=>some xs
    | _=>none
  | _=>none
theorem asTp_rep {K:PySem.W.Frag} {G:FrN} {A:List Addr} {B H:Hp} {σ:St} {s:SS} {v:V} {x:SV} {xs:List SV} (R:RelN G A B H σ s) (h:RepV A B v x) (e:asTp s.S x=some xs):∃ t vs,v=.ref t∧(SqT K H t vs∨SqL K H t vs)∧RepVs A B vs xs:=by
  cases x with
  | lc k =>
    simp only [asTp] at e
    cases h with
    | lc hA =>
      split at e
      . rename_i ds hk
        cases e
        cases R.st.cell k _ _ hk hA with
        | dat ow =>
          obtain ⟨ys,hp,rs⟩:=ow.list
          exact ⟨_,_,rfl,.inr (SqL.of hp),rs.plV⟩
      . rename_i ys hk
        cases e
        cases R.st.cell k _ _ hk hA with
        | lst hp rs=>exact ⟨_,_,rfl,.inr (SqL.of hp),rs⟩
      . cases e
  | tp ys=>cases e; cases h with | tp h1 h2=>exact ⟨_,_,rfl,.inl (.inl (.inl (R.sub _ _ h1))),h2⟩
  | pl d =>
    cases d with
    | tuple ds=>cases e; cases h with | pl r=>cases r with | tup h1 h2=>exact ⟨_,_,rfl,.inl (.inl (.inl (R.sub _ _ h1))),h2.plV⟩
    | list ds=>cases e; cases h with | pl r=>cases r with | lst h1 h2=>exact ⟨_,_,rfl,.inr (.inl (rd_same R.sub h1)),h2.plV⟩
    | _=>cases e
def ngT (n:Nat) (ms:List SV->SS->Option SS):SV->SN:=fun x s=>(asTp s.S x).bind fun xs=>if xs.length=n then (ms xs s).map .nx else none
theorem ng_tupL {K:PySem.W.Frag} {n:Nat} {gs:TGs} {ms:List SV->SS->Option SS} (h:NGs gs ms):NG W (gTupL K n gs) (ngT n ms):=fun G A B H σ s v x o D R rv e q=>by
  obtain ⟨xs,e1,e⟩:=Option.bind_eq_some_iff.mp e
  obtain ⟨t,vs,rfl,h1,h2⟩:=asTp_rep (K:=K) R rv e1
  split at e
  . rename_i hn
    obtain ⟨s2,e2,e3⟩:=Option.map_eq_some_iff.mp e
    cases e3
    exact ⟨_,_,rfl,h1,by rw [h2.length]; exact hn,h G A B H σ s _ _ s2 _ R h2 e2 fun σ' R'=>q A B H σ' R'⟩
  . cases e
def nAsg (a:EN) (g:SV->SN):SN:=bS a g
theorem ns_asg {t:TE} {tg:TG} {a:EN} {g:SV->SN} (ha:NE W t a) (hg:NG W tg g):NS W (tAsg t tg) (nAsg a g):=by
  intro G A B H σ s o D R e q
  exact ns_use (t:=t) ha R e q fun x v A' B' H' s' R' V' e1=>hg G A' B' H' σ s' x v o D R' V' e1 q
theorem RepVs.set {A:List Addr} {B:Hp} {x:V} {c:SV} (r:RepV A B x c):∀ {v:List V} {d:List SV} (i:Nat),RepVs A B v d->RepVs A B (v.set i x) (d.set i c)
  | _,_,_,.nil=>.nil
  | _,_,0,.cons _ b=>.cons r b
  | _,_,i + 1,.cons a b=>.cons a (RepVs.set r i b)
noncomputable def forN (n:Nat) (kp:List Nat) (ok:SS->Prop) (g:SV->SN) (b:SN):List SV->SN
  | []=>fun s=>cIf (ok s) (some (.nx s)) none
  | d::ds=>fun s=>cIf (ok s) (match g d s with
      | some (.nx s1)=>(match b s1 with
        | some (.nx s')=>forN n kp ok g b ds (gcE n kp s')
        | some (.ct s')=>forN n kp ok g b ds (gcE n kp s')
        | some (.bk s')=>some (.nx s')
        | some (.rt r s')=>some (.rt r s')
        | some (.er x s')=>some (.er x s')
        | none=>none)
      | _=>none) none
theorem RelN.down {G:FrN} {A A1:List Addr} {B H B1 H1:Hp} {σ σ1:St} {s s1:SS} (R1:RelN G A1 B1 H1 σ1 s1) (R:RelN ⟨B1,H1,A1,G.Z⟩ A B H σ s):RelN G A B H σ s:=by
  refine ⟨R.sub,R1.sB.trans R.sB,R.tupB,fun q o h n=>R.kept q o (R1.kept q o h n) fun hq=>?_,fun q h z=>R.nB q (fun hq=>h (R1.newG hq).1) (R1.nB q h z),R1.pre.trans R.pre,fun a ha=>?_,R.st,R.len,R.slot,R.nz⟩
  . rcases R1.fresh q hq with h1 | h1
    . exact n h1
    . rw [h1] at h; cases h
  . rcases R.fresh a ha with h | h
    . exact R1.fresh a h
    . exact .inr (R1.newG h).1
theorem RelN.up {G:FrN} {A1:List Addr} {B1 H1:Hp} {σ1:St} {s1:SS} (R1:RelN G A1 B1 H1 σ1 s1):RelN ⟨B1,H1,A1,G.Z⟩ A1 B1 H1 σ1 s1 :=
  ⟨R1.sub,Same.refl _,R1.tupB,fun _ _ h _=>h,fun _ _ z=>z,Gro.refl _,fun _ h=>.inl h,R1.st,R1.len,R1.slot,R1.nz⟩
theorem NOk.up {G:FrN} {A1:List Addr} {B1 H1:Hp} {σ1:St} {s1:SS} (R1:RelN G A1 B1 H1 σ1 s1) {D:Ends} {o:NOut} (h:NOk G W D o):NOk ⟨B1,H1,A1,G.Z⟩ W D o:=by
  cases o with
  | nx s=>exact fun A B H σ R=>h A B H σ (R1.down R)
  | bk s=>exact fun A B H σ R=>h A B H σ (R1.down R)
  | ct s=>exact fun A B H σ R=>h A B H σ (R1.down R)
  | rt r s=>exact fun v A B H σ R V=>h v A B H σ (R1.down R) V
  | er x s=>exact fun A B H σ R=>h A B H σ (R1.down R)
def YldN (A:List Addr) (B H:Hp) (x:V) (H':Hp) (y:SV):Prop:=(H'=H∧RepV A B x y)∨∃ p xs cs,y=.pl (.tuple cs)∧x=.ref p∧H p=none∧H'=upd H p (.tup xs)∧Reps B xs cs
theorem for_gen {kp:List Nat} {tg:TG} {tb:TS} {g:SV->SN} {b:SN} {ok:SS->Prop} {G:FrN} {J:It} {ds:List SV} {A1:List Addr} {B1 H1:Hp} {σ1:St} {s1:SS} {W0:Ends} {o:NOut}
    (hg:NG W tg g) (hb:NS W tb b) (R1:RelN G A1 B1 H1 σ1 s1) (e:forN s1.S.length kp ok g b ds s1=some o) (q:NOk G W W0 o)
    (I:∀ A B H σ s,RelN ⟨B1,H1,A1,G.Z⟩ A B H σ s->ok s->J.stop ds.length H∧∀ (i:Nat) (d:SV),ds[i]?=some d->J.go i H∧∀ x H',J.yld i H x H'->YldN A B H x H' d) :
    ∃ W:Nat->Nat->St->Hp->Prop,(∃ m,W 0 m σ1 H1)∧∀ i m σ H,W i m σ H ->
      (J.stop i H∧W0.nx σ H)∨(J.go i H∧∃ N:St->Hp->Prop,(∀ σ' H',N σ' H'->∃ m',m' < m∧W (i + 1) m' σ' H')∧∀ x H',J.yld i H x H'->tg x σ H' fun σ2 H2=>tb { W0 with nx:=N,ct:=N,bk:=W0.nx } σ2 H2):=by
  have q':=q.up R1
  have hio:(FrN.mk B1 H1 A1 G.Z).io.length≤s1.S.length:=Nat.le_of_eq R1.st.len
  refine ⟨fun i m σ H=>m=ds.length - i∧i≤ds.length∧∃ A B s,RelN ⟨B1,H1,A1,G.Z⟩ A B H σ s∧forN s1.S.length kp ok g b (ds.drop i) s=some o,⟨ds.length,rfl,Nat.zero_le _,A1,B1,s1,R1.up,e⟩,?_⟩
  rintro i m σ2 H2 ⟨rfl,hil,A2,B2,s2,R2,e2⟩
  by_cases hlt:i < ds.length
  . refine .inr ?_
    rw [List.drop_eq_getElem_cons hlt] at e2
    obtain ⟨hok,e2⟩:=cIf_eq (show cIf (ok s2) _ none=some o from e2)
    obtain ⟨go,yl⟩:=(I A2 B2 H2 σ2 s2 R2 hok).2 i ds[i] (List.getElem?_eq_getElem hlt)
    refine ⟨go,fun σ' H'=>∃ A' B' s',RelN ⟨B1,H1,A1,G.Z⟩ A' B' H' σ' s'∧forN s1.S.length kp ok g b (ds.drop (i + 1)) s'=some o,fun σ' H' h'=>⟨ds.length - (i + 1),by omega,rfl,hlt,h'⟩,fun y H3 hy=>?_⟩
    have had:∃ B3,RelN ⟨B1,H1,A1,G.Z⟩ A2 B3 H3 σ2 s2∧RepV A2 B3 y ds[i]:=by
      rcases yl y H3 hy with ⟨rfl,h2⟩ | ⟨p,xs,cs,h1,rfl,h3,rfl,h5⟩
      . exact ⟨B2,R2,h2⟩
      . obtain ⟨R3,e3⟩:=R2.layT (xs:=xs) h3
        exact ⟨_,R3,by rw [h1]; exact .pl (.tup upd_same (h5.mono e3))⟩
    obtain ⟨B3,R3,rp⟩:=had
    split at e2
    . rename_i s3 e3
      refine hg _ A2 B3 H3 σ2 s2 y ds[i] (.nx s3) ⟨fun σ2 H2=>tb { W0 with nx:=fun σ' H'=>∃ A' B' s',RelN ⟨B1,H1,A1,G.Z⟩ A' B' H' σ' s'∧forN s1.S.length kp ok g b (ds.drop (i + 1)) s'=some o,ct:=fun σ' H'=>∃ A' B' s',RelN ⟨B1,H1,A1,G.Z⟩ A' B' H' σ' s'∧forN s1.S.length kp ok g b (ds.drop (i + 1)) s'=some o,bk:=W0.nx } σ2 H2,W0.rt,W0.bk,W0.ct⟩ R3 rp e3 fun A4 B4 H4 σ4 R4=>?_
      split at e2
      . rename_i s' e5; exact hb _ A4 B4 H4 σ4 s3 _ _ R4 e5 fun A' B' H' σ' R'=>(let ⟨A3,R3⟩:=R'.gcE hio; ⟨A3,B',_,R3,e2⟩)
      . rename_i s' e5; exact hb _ A4 B4 H4 σ4 s3 _ _ R4 e5 fun A' B' H' σ' R'=>(let ⟨A3,R3⟩:=R'.gcE hio; ⟨A3,B',_,R3,e2⟩)
      . rename_i s' e5; cases e2; exact hb _ A4 B4 H4 σ4 s3 _ _ R4 e5 q'
      . rename_i r s' e5; cases e2; exact hb _ A4 B4 H4 σ4 s3 _ _ R4 e5 q'
      . rename_i r s' e5; cases e2; exact hb _ A4 B4 H4 σ4 s3 _ _ R4 e5 q'
      . cases e2
    . cases e2
  . have hi':i=ds.length:=by omega
    subst hi'
    rw [List.drop_length] at e2
    obtain ⟨hok,e2⟩:=cIf_eq (show cIf (ok s2) _ none=some o from e2)
    cases e2
    exact .inl ⟨(I A2 B2 H2 σ2 s2 R2 hok).1,q' A2 B2 H2 σ2 R2⟩
theorem yldN_of {A:List Addr} {B H:Hp} {x:V} {H':Hp} {d:D} (h:YldOk B H x H' d):YldN A B H x H' (.pl d):=by
  rcases h with ⟨h1,h2⟩ | ⟨p,xs,cs,h1,h2,h3,h4,h5⟩
  . exact .inl ⟨h1,.pl h2⟩
  . exact .inr ⟨p,xs,cs,by rw [h1],h2,h3,h4,h5⟩
theorem YldOk.mono {B B' H:Hp} {x:V} {H':Hp} {d:D} (h:YldOk B H x H' d) (e:Same B B'):YldOk B' H x H' d:=by
  rcases h with ⟨h1,h2⟩ | ⟨p,xs,cs,h1,h2,h3,h4,h5⟩
  . exact .inl ⟨h1,h2.mono e⟩
  . exact .inr ⟨p,xs,cs,h1,h2,h3,h4,h5.mono e⟩
theorem map_pl_get {ds:List D} {i:Nat} {x:SV} (h:(ds.map SV.pl)[i]?=some x):∃ d,ds[i]?=some d∧x=.pl d:=by
  rw [List.getElem?_map] at h
  obtain ⟨d,h1,h2⟩:=Option.map_eq_some_iff.mp h
  exact ⟨d,h1,h2.symm⟩
noncomputable def nFor (kp:List Nat) (it:Rho->Option (List D × Rho)) (g:SV->SN) (b:SN):SN:=fun s=>(it (vwC s)).bind fun x=>forN s.S.length kp (fun _=>True) g b (x.1.map .pl) s
theorem ns_for {kp:List Nat} {ti:TI} {tg:TG} {tb:TS} {it:Rho->Option (List D × Rho)} {g:SV->SN} {b:SN} (hi:MF ti it) (hg:NG W tg g) (hb:NS W tb b):NS W (tFor ti tg tb) (nFor kp it g b):=by
  intro G A B H σ s o D R e q
  obtain ⟨x,e1,e⟩:=Option.bind_eq_some_iff.mp e
  refine hi _ B H σ (vwC s) x.1 x.2 _ R.cls e1 fun J B1 H1 E1 R1 I1=>?_
  obtain ⟨R2,eB,eH⟩:=R.backC R1
  refine for_gen hg hb R2 e q fun A' B' H' σ' s' R' _=>?_
  have I2:=I1 H' (R'.sB.trans R'.sub)
  rw [List.length_map]
  refine ⟨I2.1,fun i d hd=>?_⟩
  obtain ⟨c,h1,rfl⟩:=map_pl_get hd
  exact ⟨(I2.2 i c h1).1,fun y H2 hy=>yldN_of (((I2.2 i c h1).2 y H2 hy).mono R'.sB)⟩
def stays (k:SV) (xs:List SV) (s:SS):Prop:=asTp s.S k=some xs
noncomputable def nForL (kp:List Nat) (a:EN) (g:SV->SN) (b:SN):SN:=bS a fun y s=>match y with
  | .lc k=>(asTp s.S (.lc k)).bind fun xs=>forN s.S.length kp (stays (.lc k) xs) g b xs s
  | .pl (.list ds)=>forN s.S.length kp (fun _=>True) g b (ds.map .pl) s
  | _=>none
theorem itl_okN {K:PySem.W.Frag} {A:List Addr} {B H:Hp} {p:Addr} {xs:List V} {ys:List SV} (h:SqL K H p xs) (r:RepVs A B xs ys):(Itl K p).stop ys.length H∧∀ (i:Nat) (d:SV),ys[i]?=some d->(Itl K p).go i H∧∀ x H',(Itl K p).yld i H x H'->YldN A B H x H' d:=by
  refine ⟨⟨xs,h,by rw [r.length]; exact Nat.le_refl _⟩,fun i d hd=>?_⟩
  obtain ⟨u,h1,h2⟩:=r.get i d hd
  refine ⟨⟨xs,u,h,h1⟩,fun x H' hy=>.inl ⟨hy.1,?_⟩⟩
  have:=hy.2 xs h
  rw [h1] at this
  cases this
  exact h2
theorem ns_forL {kp:List Nat} {K:PySem.W.Frag} {te:TE} {tg:TG} {tb:TS} {a:EN} {g:SV->SN} {b:SN} (ha:NE W te a) (hg:NG W tg g) (hb:NS W tb b):NS W (tFor (iList K te) tg tb) (nForL kp a g b):=by
  intro G A B H σ s o D R e q
  refine ns_use (t:=te) ha R e q fun x v A1 B1 H1 s1 R1 V1 e1=>?_
  split at e1
  . rename_i k
    obtain ⟨xs,e2,e3⟩:=Option.bind_eq_some_iff.mp e1
    cases V1 with
    | @lc _ p hA =>
      have lst:∀ {A':List Addr} {B' H':Hp} {σ':St} {s':SS} {G':FrN},RelN G' A' B' H' σ' s'->A'[k]?=some p->asTp s'.S (.lc k)=some xs->∃ vs,H' p=some (.lst vs)∧RepVs A' B' vs xs:=fun {A' B' H' σ' s' G'} R' hA' e'=>by
        simp only [asTp] at e'
        split at e'
        . rename_i ds hk
          cases e'
          cases R'.st.cell k _ _ hk hA' with
          | dat ow =>
            obtain ⟨ys,hp,rs⟩:=ow.list
            exact ⟨_,hp,rs.plV⟩
        . rename_i ys hk
          cases e'
          cases R'.st.cell k _ _ hk hA' with
          | lst hp rs=>exact ⟨_,hp,rs⟩
        . cases e'
      obtain ⟨vs,hp,rs⟩:=lst R1 hA e2
      refine ⟨_,rfl,⟨vs,SqL.of hp⟩,?_⟩
      refine for_gen hg hb R1 e3 q fun A' B' H' σ' s' R' hok=>?_
      obtain ⟨vs',hp',rs'⟩:=lst R' (R'.pre k _ hA) hok
      exact itl_okN (SqL.of hp') rs'
  . rename_i ds
    cases V1 with
    | pl r =>
      cases r with
      | lst hp rs =>
        refine ⟨_,rfl,⟨_,.inl (rd_same R1.sub hp)⟩,?_⟩
        refine for_gen hg hb R1 e1 q fun A' B' H' σ' s' R' hok=>?_
        exact itl_okN (.inl (rd_same (R'.sB.trans R'.sub) hp)) (rs.mono R'.sB).plV
  . cases e1
def isLst (S:List (Option Cl)) (k:Nat):Bool:=match S[k]? with
  | some (some (.dat (.list _)))=>true
  | some (some (.lst _))=>true
  | _=>false
theorem isLst_ok {K:PySem.W.Frag} {G:FrN} {A:List Addr} {B H:Hp} {σ:St} {s:SS} {k:Nat} {a:Addr} (R:RelN G A B H σ s) (hA:A[k]?=some a) (e:isLst s.S k=true):tyV K "list" (.ref a) H:=by
  unfold isLst at e
  split at e
  . rename_i ds hk
    cases R.st.cell k _ _ hk hA with
    | dat ow=>obtain ⟨xs,hp,_⟩:=ow.list; exact .inl ⟨rfl,xs,SqL.of hp⟩
  . rename_i ds hk
    cases R.st.cell k _ _ hk hA with
    | lst hp _=>exact .inl ⟨rfl,_,SqL.of hp⟩
  . cases e
def nMutG (a:EN) (m:MN (List SV)) (u:Nat->List SV->SS->Option (RR SV)):EN:=bN a fun x s=>match x with
  | .lc k=>if isLst s.S k=true then bN m (fun xs s2=>u k xs s2) s else none
  | _=>none
theorem ne_mutG {K:PySem.W.Frag} {te:TE} {a:EN} {r:V->List V->Hp->VK->Prop} {t:TA} {m:MN (List SV)} {u:Nat->List SV->SS->Option (RR SV)} (ha:NE W te a) (h:NA W t m)
    (hu:∀ (G:FrN) (A:List Addr) (B H:Hp) (σ:St) (s:SS) (p:Addr) (k:Nat) (vs:List V) (xs:List SV) (r0:RR SV) (Q:VK),RelN G A B H σ s->A[k]?=some p->RepVs A B vs xs->u k xs s=some r0->ROk G A B σ W RepV Q r0->r (.ref p) vs H Q):NE W (tBM K "list" r te t) (nMutG a m u):=by
  intro G A B H σ s r0 Q R e q
  refine nm_use (t:=te) ha R e q fun x v A1 B1 H1 s1 g1 eB1 R1 V1 e1 q1=>?_
  split at e1
  . rename_i k
    split at e1
    . rename_i hl
      cases V1 with
      | lc hA =>
        refine ⟨isLst_ok R1 hA hl,?_⟩
        refine nm_use (t:=t) h R1 e1 q1 fun vs xs A2 B2 H2 s2 g2 eB2 R2 V2 e2 q2=>?_
        exact hu G A2 B2 H2 σ s2 _ k vs xs r0 Q R2 (g2 _ _ hA) V2 e2 q2
    . cases e1
  . cases e1
noncomputable def uApp (k:Nat) (xs:List SV) (s:SS):Option (RR SV):=match xs,s.S[k]? with
  | [.pl d],some (some (.dat (.list ds)))=>cIf (ds.length < sizeLine) (some (.ok (.pl .none) ⟨s.S.set k (some (.dat (.list (ds++[d])))),s.t⟩)) none
  | [x],some (some (.dat (.list ds)))=>cIf (ds.length < sizeLine) (some (.ok (.pl .none) ⟨s.S.set k (some (.lst (ds.map .pl++[x]))),s.t⟩)) none
  | [x],some (some (.lst ys))=>cIf (ys.length < sizeLine) (some (.ok (.pl .none) ⟨s.S.set k (some (.lst (ys++[x]))),s.t⟩)) none
  | _,_=>none
theorem RepVs.append {A:List Addr} {B:Hp}:∀ {v w:List V} {d c:List SV},RepVs A B v d->RepVs A B w c->RepVs A B (v++w) (d++c)
  | _,_,_,_,.nil,r=>r
  | _,_,_,_,.cons a b,r=>.cons a (RepVs.append b r)
theorem uApp_ok (G:FrN) (A:List Addr) (B H:Hp) (σ:St) (s:SS) (p:Addr) (k:Nat) (vs:List V) (xs:List SV) (r0:RR SV) (Q:VK) (R:RelN G A B H σ s) (hA:A[k]?=some p) (hV:RepVs A B vs xs) (e:uApp k xs s=some r0) (q:ROk G A B σ W RepV Q r0):rAppend (.ref p) vs H Q:=by
  have go:∀ {x:SV} {y:V} {ys:List V} {c:Cl},vs=[y]->H p=some (.lst ys)->ys.length < sizeLine->CellOk A B (upd H p (.lst (ys++[y]))) p c->r0=.ok (.pl .none) ⟨s.S.set k (some c),s.t⟩->rAppend (.ref p) vs H Q:=fun {x y ys c} h1 h2 h3 ok er=>by
    subst er h1
    exact ⟨p,ys,y,rfl,rfl,h2,h3,q .non A B _ (Gro.refl _) (Same.refl _) (R.write (o:=.lst (ys++[y])) hA trivial ok) (.pl .non)⟩
  unfold uApp at e
  split at e
  . rename_i d ds hk
    obtain ⟨hz,e⟩:=cIf_eq e
    cases e
    cases hV with
    | cons a b =>
      cases b
      cases a with
      | pl r =>
        cases R.st.cell k _ _ hk hA with
        | dat ow =>
          obtain ⟨ys,hp,rs⟩:=ow.list
          exact go (x:=.pl d) rfl hp (by rw [rs.length]; exact hz) (.dat (.lst upd_same (rs.append (.cons r .nil)))) rfl
  . rename_i x ds _ hk
    obtain ⟨hz,e⟩:=cIf_eq e
    cases e
    cases hV with
    | cons a b =>
      cases b
      cases R.st.cell k _ _ hk hA with
      | dat ow =>
        obtain ⟨ys,hp,rs⟩:=ow.list
        exact go (x:=x) rfl hp (by rw [rs.length]; exact hz) (.lst upd_same (rs.plV.append (.cons a .nil))) rfl
  . rename_i x ys hk
    obtain ⟨hz,e⟩:=cIf_eq e
    cases e
    cases hV with
    | cons a b =>
      cases b
      cases R.st.cell k _ _ hk hA with
      | lst hp rs=>exact go (x:=x) rfl hp (by rw [rs.length]; exact hz) (.lst upd_same (rs.append (.cons a .nil))) rfl
  . cases e
noncomputable def nApp (a:EN) (m:MN (List SV)):EN:=nMutG a m uApp
theorem ne_app {K:PySem.W.Frag} {te:TE} {a:EN} {t:TA} {m:MN (List SV)} (ha:NE W te a) (h:NA W t m):NE W (tBM K "list" rAppend te t) (nApp a m):=ne_mutG ha h uApp_ok
end
def fS (n:Nat) (S:List (Option Cl)):List (Option Cl):=if noEsc n S=true then gcS n S else S
def retS (n:Nat):NOut->Option FR
  | .rt r s=>if blV n r=true then some (.ok r (fS n s.S)) else some (.ok r s.S)
  | .nx s=>some (.ok (.pl .none) (fS n s.S))
  | .er x s=>some (.er x (fS n s.S))
  | _=>none
def fnS (n k:Nat) (b:SN):FN:=fun S xs=>if xs.length=n then (b ⟨S,xs.map some++List.replicate k none⟩).bind (retS S.length) else none
theorem start_rel {A:List Addr} {B H:Hp} {N:List Str} {vs:List V} {S:List (Option Cl)} {xs:List SV} {n k:Nat} (sub:Same B H) (tB:∀ q xs,H q=some (.tup xs)->B q=some (.tup xs)) (O:StO A B H S) (rv:RepVs A B vs xs) (hl:xs.length=n) (hN:N.length=n + k) :
    RelN ⟨B,H,A,fun q=>∃ o u,H q=some (.frz o u)⟩ A B H (L2.start N vs) ⟨S,xs.map some++List.replicate k none⟩:=by
  have hvl:vs.length=n:=rv.length.trans hl
  refine ⟨sub,Same.refl _,tB,fun _ _ h _=>h,fun _ _ z=>z,Gro.refl _,fun _ h=>.inl h,O,?_,fun i x h=>?_,fun q o u h=>⟨o,u,h⟩⟩
  . simp [L2.start,hl,hvl,hN]
  . have h':(xs.map some++List.replicate k none)[i]?=some (some x):=h
    by_cases hi:i < n
    . rw [List.getElem?_append_left (by simpa [hl] using hi),List.getElem?_map] at h'
      obtain ⟨c,h1,h2⟩:=Option.map_eq_some_iff.mp h'
      cases h2
      obtain ⟨y,h3,h4⟩:=rv.get i _ h1
      refine ⟨y,?_,h4⟩
      unfold L2.start
      rw [List.getElem?_append_left (by simpa [hvl] using hi),List.getElem?_map,h3]
      rfl
    . rw [List.getElem?_append_right (by simpa [hl] using Nat.le_of_not_lt hi)] at h'
      have:=List.eq_of_mem_replicate (List.mem_of_getElem? h')
      cases this
theorem post_of {A A':List Addr} {B H B' H':Hp} {σ':St} {s':SS} {v:V} {r:SV} (R':RelN ⟨B,H,A,fun q=>∃ o u,H q=some (.frz o u)⟩ A' B' H' σ' s') (V':RepV A' B' v r):PostN A B H A' B' H' s'.S v r:=⟨R'.pre,R'.sB,R'.sub,R'.tupB,R'.kept,R'.nB,R'.fresh,R'.st,R'.nz,V'⟩
theorem post_low {A A':List Addr} {B H B' H':Hp} {σ':St} {s':SS} {v:V} {r:SV} {n:Nat} (hn:A.length≤n) (R':RelN ⟨B,H,A,fun q=>∃ o u,H q=some (.frz o u)⟩ A' B' H' σ' s') (V':RepV A' B' v r) (hb:blV n r=true):∃ A'',PostN A B H A'' B' H' (fS n s'.S) v r:=by
  unfold fS
  split
  . exact ⟨_,post_of (R'.gc hn) (V'.take _ hb)⟩
  . exact ⟨_,post_of R' V'⟩
theorem fn_runS {n k:Nat} {b:SN} {t:TS} {N:List Str} {vs:List V} {H:Hp} {Q:VK} {E:XK} (hb:NS (fun x _ H=>E (Zl.cl x.c) none H) t b) (hN:N.length=n + k) (h:spS (fnS n k b) vs H Q E):t { nx:=fun _ H'=>Q .non H',rt:=Q } (L2.start N vs) H:=by
  obtain ⟨A,B,S,xs,w0,sub,tB,O,rv,e,q⟩:=h
  unfold fnS at e
  split at e
  case isFalse=>cases e
  rename_i hl
  obtain ⟨w,e1,e2⟩:=Option.bind_eq_some_iff.mp e
  have R:=start_rel (k:=k) sub tB O rv hl hN
  refine hb _ A B H _ _ w _ R e1 ?_
  have hn:A.length≤S.length:=Nat.le_of_eq O.len
  cases w with
  | nx s'=>cases e2; exact fun A' B' H' σ' R'=>(let ⟨A2,p⟩:=post_low hn R' (.pl .non) rfl; q _ A2 B' H' p)
  | bk s'=>cases e2
  | ct s'=>cases e2
  | er x s'=>cases e2; exact fun A' B' H' σ' R'=>(let ⟨A2,p⟩:=post_low hn R' (.pl .non) rfl; q A2 B' H' p)
  | rt r' s' =>
    simp only [retS] at e2
    split at e2
    . rename_i hbl
      cases e2
      exact fun v A' B' H' σ' R' V'=>(let ⟨A2,p⟩:=post_low hn R' V' hbl; q v A2 B' H' p)
    . cases e2
      exact fun v A' B' H' σ' R' V'=>q v A' B' H' (post_of R' V')
theorem fn_runQ {n k:Nat} {b:SN} {t:TS} {N:List Str} {vs:List V} {H:Hp} {Q:VK} {E:XK} (hb:NS W0 t b) (hN:N.length=n + k) (h:spQ (fnS n k b) vs H Q E):t { nx:=fun _ H'=>Q .non H',rt:=Q } (L2.start N vs) H:=fn_runS (E:=E0) hb hN h
theorem spS_len {n k:Nat} {b:SN} {vs:List V} {H:Hp} {Q:VK} {E:XK} (h:spS (fnS n k b) vs H Q E):vs.length=n:=by
  obtain ⟨A,B,S,xs,w,sub,tB,O,rv,e,q⟩:=h
  unfold fnS at e
  split at e
  . rename_i hl; exact rv.length.trans hl
  . cases e
theorem spQ_len {n k:Nat} {b:SN} {vs:List V} {H:Hp} {Q:VK} {E:XK} (h:spQ (fnS n k b) vs H Q E):vs.length=n:=spS_len (E:=E0) h
def retO:NOut->Option (D × Bool)
  | .rt (.pl d) _=>some (d,false)
  | .rt (.lc k) s=>match s.S[k]? with
    | some (some (.dat d))=>some (d,true)
    | _=>none
  | .nx _=>some (.none,false)
  | _=>none
def fnO (n k:Nat) (b:SN) (ds:List D):Option (D × Bool):=if ds.length=n then (b ⟨[],ds.map (fun d=>some (.pl d))++List.replicate k none⟩).bind retO else none
theorem fn_runO {n k:Nat} {b:SN} {t:TS} {N:List Str} {vs:List V} {H:Hp} {Q:VK} {E:XK} (hb:NS W0 t b) (hN:N.length=n + k) (h:spM (fnO n k b) vs H Q E):t { nx:=fun _ H'=>Q .non H',rt:=Q } (L2.start N vs) H:=by
  obtain ⟨B,ds,d,o,sub,tB,rp,e,q⟩:=h
  unfold fnO at e
  split at e
  case isFalse=>cases e
  rename_i hl
  obtain ⟨w,e1,e2⟩:=Option.bind_eq_some_iff.mp e
  have O:StO [] B H ([]:List (Option Cl)):=⟨rfl,List.nodup_nil,(fun a h=>by cases h),(fun a h=>by cases h),fun k c a h=>by simp at h⟩
  have R:=start_rel (k:=k) (xs:=ds.map .pl) sub tB O (Reps.plV rp) (by simpa using hl) hN
  rw [List.map_map] at R
  refine hb _ [] B H _ _ w _ R e1 ?_
  have post:∀ {A':List Addr} {B' H':Hp} {σ':St} {s':SS},RelN ⟨B,H,[],fun q=>∃ o u,H q=some (.frz o u)⟩ A' B' H' σ' s'->Same H H'∧Same B B'∧Same B' H'∧(∀ q,H q≠none->B q=none->B' q=none)∧(∀ q xs,H' q=some (.tup xs)->B' q=some (.tup xs))∧∀ q o u,H' q=some (.frz o u)->H q≠none:=fun R' =>
    ⟨fun q u z=>R'.kept q u z (by simp),R'.sB,R'.sub,R'.nB,R'.tupB,fun q o u z=>(let ⟨_,_,y⟩:=R'.nz q o u z; by rw [y]; simp)⟩
  cases w with
  | nx s' =>
    cases e2
    intro A' B' H' σ' R'
    obtain ⟨p1,p2,p3,p4,p5,p6⟩:=post R'
    exact q _ B' H' ⟨p1,p2,p3,p4,p5,p6,.non⟩
  | bk s'=>cases e2
  | ct s'=>cases e2
  | er x s'=>cases e2
  | rt r s' =>
    intro v A' B' H' σ' R' V'
    obtain ⟨p1,p2,p3,p4,p5,p6⟩:=post R'
    cases r with
    | pl c =>
      cases e2
      cases V' with
      | pl rv=>exact q v B' H' ⟨p1,p2,p3,p4,p5,p6,rv⟩
    | tp xs=>cases e2
    | lc j =>
      have e2':(match s'.S[j]? with
        | some (some (.dat d))=>some (d,true)
        | _=>none)=some (d,o):=e2
      split at e2'
      . rename_i d' hj
        cases e2'
        obtain ⟨a,rfl,hA⟩:∃ a,v=.ref a∧A'[j]?=some a:=by cases V' with | lc h=>exact ⟨_,rfl,h⟩
        . have ha:=List.mem_of_getElem? hA
          cases R'.st.cell j _ _ hj hA with
          | dat ow =>
            have hn:H a=none:=by
              rcases R'.fresh a ha with z | z
              . cases z
              . exact z
            exact q _ B' H' ⟨p1,p2,p3,p4,p5,p6,⟨_,rfl,hn,R'.st.dis _ ha,ow⟩⟩
      . cases e2'
theorem spO_len {n k:Nat} {b:SN} {vs:List V} {H:Hp} {Q:VK} {E:XK} (h:spM (fnO n k b) vs H Q E):vs.length=n:=by
  obtain ⟨B,ds,d,o,sub,tB,rp,e,q⟩:=h
  unfold fnO at e
  split at e
  . rename_i hl; exact rp.length.trans hl
  . cases e
end
end Mir
set_option Elab.async false
set_option linter.all false
set_option maxRecDepth 100000
namespace L2
open PySem PySem.Spec PyProof.Rows
structure MDef (P:Program) (w:World) (K:PySem.W.Frag) (mg:Str->Option Value) (base:Heap) (CX:CXT) (k:Nat) (C:Addr) (m:Str) (ps:List Str) (dvs:List V) (sp:Sp):Prop where
  ex:∃ (f:Addr) (fd:FuncData) (ds:List Value),FnOk P w K mg base CX k f fd ps sp∧Cls K C∧Meth K C m f∧Binds K fd ps ds∧Vals dvs ds
structure MDefK (P:Program) (w:World) (K:PySem.W.Frag) (mg:Str->Option Value) (base:Heap) (CX:CXT) (k:Nat) (C:Addr) (m:Str) (ps ks:List Str) (gV:List V->List V->List V) (sp:Sp):Prop where
  ex:∃ (f:Addr) (fd:FuncData) (g:List Value->List Value->List Value),FnOk P w K mg base CX k f fd ps sp∧Cls K C∧Meth K C m f∧KBinds K fd ps ks g gV
structure CDef (P:Program) (w:World) (K:PySem.W.Frag) (mg:Str->Option Value) (base:Heap) (CX:CXT) (k:Nat) (x:Str) (C:Addr) (ps:List Str) (sp:Sp):Prop where
  ex:∃ (f:Addr) (fd:FuncData),FnOk P w K mg base CX k f fd ps sp∧mg x=some (.ref C)∧Mk K C f∧Binds K fd ps []
structure Mem (K:PySem.W.Frag) (x qual:Str) (st:Stmt) (f:Addr) (fd:FuncData) (dv:List V):Prop where
  ex:∃ (oc:Value) (od:Option Addr) (dV kV doc pm:Value) (an:Option Addr) (cdv ct:Value) (osl:Array (Option Value)),
    fd=PySem.W.fnOf x qual (defArgs st) (defBody st) (defScope st) dV kV doc pm an cdv ct∧K.lookup f=some ⟨oc,od,.func fd,osl⟩∧PySem.W.codeIn K cdv qual=true ∧
    ((dv=[]∧dV=.none)∨dv≠[]∧∃ T o items n,dV=.ref T∧K.lookup T=some o∧o.data=.seq items n∧Vals dv items.toList)
section
variable {P:Program} {w:World} {K:PySem.W.Frag} {mg:Str->Option Value} {base:Heap}
theorem Mem.ok {x qual:Str} {st:Stmt} {f:Addr} {fd:FuncData} {dv:List V} {N ps:List Str} {k:Nat} {sp:Sp} (F:Mem K x qual st f fd dv) (S:FnScope N ps (defScope st)) (len:∀ vs H Q E,sp vs H Q E->vs.length=ps.length)
    (hbody:∀ (cdv:Value) (A:Around) (outer:List Env) (s:Shared) (H:Hp) (vs:List V) (Q:VK) (E:XK),Room k (A.deeper (envOfC qual (defScope st) s.heap.objs.size f cdv))->sp vs H Q E ->
      ∃ t,PSs (cxOf CX0 P w K mg base N qual (defScope st) f cdv A outer s H E).nox (defBody st) t∧t { nx:=fun _ H'=>Q .non H',rt:=Q } (start N vs) H):FnOk P w K mg base CX0 (k + 1) f fd ps sp:=by
  obtain ⟨oc,od,dV,kV,doc,pm,an,cdv,ct,osl,rfl,lk,hcd,_⟩:=F.ex
  refine fn_of lk hcd S len fun A outer s H vs Q E hr hsp=>?_
  obtain ⟨t,h,q⟩:=hbody cdv A outer s H vs Q E hr hsp
  exact ⟨t,h.nox,q⟩
theorem Mem.okX {x qual:Str} {st:Stmt} {f:Addr} {fd:FuncData} {dv:List V} {N ps:List Str} {k:Nat} {sp:Sp} (F:Mem K x qual st f fd dv) (S:FnScope N ps (defScope st)) (len:∀ vs H Q E,sp vs H Q E->vs.length=ps.length)
    (hbody:∀ (cdv:Value) (A:Around) (outer:List Env) (s:Shared) (H:Hp) (vs:List V) (Q:VK) (E:XK),Room k (A.deeper (envOfC qual (defScope st) s.heap.objs.size f cdv))->sp vs H Q E ->
      ∃ t,PSs (cxOf (CXW P w) P w K mg base N qual (defScope st) f cdv A outer s H E) (defBody st) t∧t { nx:=fun _ H'=>Q .non H',rt:=Q } (start N vs) H):FnOk P w K mg base (CXW P w) (k + 1) f fd ps sp:=by
  obtain ⟨oc,od,dV,kV,doc,pm,an,cdv,ct,osl,rfl,lk,hcd,_⟩:=F.ex
  exact fn_of lk hcd S len fun A outer s H vs Q E hr hsp=>hbody cdv A outer s H vs Q E hr hsp
theorem Mem.binds {x qual:Str} {st:Stmt} {f:Addr} {fd:FuncData} {ps:List Str} (F:Mem K x qual st f fd [])
    (h:∀ (kV doc pm:Value) (an:Option Addr) (cdv ct:Value) (us:List Value),us.length=ps.length->bindArgs (PySem.W.fnOf x qual (defArgs st) (defBody st) (defScope st) .none kV doc pm an cdv ct) ⟨us,[]⟩=pure (ps.zip us)):Binds K fd ps []:=by
  obtain ⟨oc,od,dV,kV,doc,pm,an,cdv,ct,osl,rfl,lk,hcd,hd⟩:=F.ex
  rcases hd with ⟨_,rfl⟩ | ⟨z,_⟩
  . exact .all (h kV doc pm an cdv ct)
  . exact absurd rfl z
theorem Mem.bindsD {x qual:Str} {st:Stmt} {f:Addr} {fd:FuncData} {ps:List Str} {dv dvs:List V} (F:Mem K x qual st f fd dv) (hdv:dv≠[])
    (h:∀ (T:Addr) (kV doc pm:Value) (an:Option Addr) (cdv ct:Value) (items:Array Value),Vals dv items.toList->∃ ds,Vals dvs ds∧∀ us:List Value,(us++ds).length=ps.length->∃ k,bindArgs (PySem.W.fnOf x qual (defArgs st) (defBody st) (defScope st) (.ref T) kV doc pm an cdv ct) ⟨us,[]⟩=seqItems? (.ref T) >>= k∧k (some items)=pure (ps.zip (us++ds))):∃ ds,Binds K fd ps ds∧Vals dvs ds:=by
  obtain ⟨oc,od,dV,kV,doc,pm,an,cdv,ct,osl,rfl,lk,hcd,hd⟩:=F.ex
  rcases hd with ⟨z,_⟩ | ⟨_,T,o,items,n,rfl,h1,h2,h3⟩
  . exact absurd z hdv
  . obtain ⟨ds,h4,h5⟩:=h T kV doc pm an cdv ct items h3
    refine ⟨ds,fun s us KX hl=>?_,h4⟩
    obtain ⟨k,e1,e2⟩:=h5 us hl
    exact PySem.W.binds_K KX rfl h1 h2 e1 e2
theorem mem_mk {x qual:Str} {st:Stmt} {f:Addr} {oc:Value} {od an:Option Addr} {osl:Array (Option Value)} {kV doc pm cdv ct:Value} (l:K.lookup f=some ⟨oc,od,.func (PySem.W.fnOf x qual (defArgs st) (defBody st) (defScope st) .none kV doc pm an cdv ct),osl⟩)
    (c:PySem.W.codeIn K cdv qual=true):Mem K x qual st f (PySem.W.fnOf x qual (defArgs st) (defBody st) (defScope st) .none kV doc pm an cdv ct) []:=⟨⟨oc,od,.none,kV,doc,pm,an,cdv,ct,osl,rfl,l,c,.inl ⟨rfl,rfl⟩⟩⟩
theorem mem_mkD {x qual:Str} {st:Stmt} {f T:Addr} {oc:Value} {od an:Option Addr} {osl:Array (Option Value)} {kV doc pm cdv ct:Value} {o:Obj} {items:Array Value} {n:Nat} {dv:List V} (hdv:dv≠[]) (l:K.lookup f=some ⟨oc,od,.func (PySem.W.fnOf x qual (defArgs st) (defBody st) (defScope st) (.ref T) kV doc pm an cdv ct),osl⟩)
    (c:PySem.W.codeIn K cdv qual=true) (h1:K.lookup T=some o) (h2:o.data=.seq items n) (h3:Vals dv items.toList):Mem K x qual st f (PySem.W.fnOf x qual (defArgs st) (defBody st) (defScope st) (.ref T) kV doc pm an cdv ct) dv:=⟨⟨oc,od,.ref T,kV,doc,pm,an,cdv,ct,osl,rfl,l,c,.inr ⟨hdv,T,o,items,n,rfl,h1,h2,h3⟩⟩⟩
end
section
variable {X:Cx} {K:PySem.W.Frag} {o e value:Expr} {es:List Expr} {f m x:Str} {p pos pos' apos:Pos} {ta tv:TE} {t tk:TA} {C:Addr} {k:Nat} {ps ks:List Str} {dvs:List V} {sp:Sp} {kws:List Keyword}
theorem pe_fldK (h:X.K=K) (he:PE X e ta) (hb:attributeBase e f X.env (eval e X.env)=eval e X.env:=by rfl):PE X (.Attribute e f pos) (tFld K ta f):=h ▸ pe_fld he hb
theorem ps_fldK (h:X.K=K) (ha:PE X o ta) (hv:PE X value tv) (hs:swapsWith value (some (.Attribute o f pos')) pos.line X.env=pure false:=by rfl):PS X (.Assign [.Attribute o f pos'] value pos) (sFld K ta tv f):=h ▸ ps_fld ha hv hs
theorem pe_mdef {pl:Sem Bool} (D:MDef X.prog X.w X.K X.mg X.base CX0 k C m ps dvs sp) (he:PE X o ta) (hr:Room k X.A) (ha:PA X (e::es) t)
    (hst:starEach (e::es) X.env=(false,eval e X.env)::starEach es X.env:=by rfl) (hpl:(backTo pos (starEach es X.env)).any (·.1)=false:=by rfl)
    (ht:eval (.Call (.Attribute o m apos) (e::es) [] pos) X.env=(do
      let ov ← eval o X.env
      standAt apos.atName
      let (f,first) ← holding [ov] (getMethod ov m pl)
      callWith pos f first (backTo pos (starEach (e::es) X.env)) (backToKw pos (keywordEach [] X.env))):=by rfl) :
    PE X (.Call (.Attribute o m apos) (e::es) [] pos) (tMeth C m sp dvs E0 ta t):=by
  obtain ⟨f,fd,ds,F,c,hm,b,hd⟩:=D.ex
  exact pe_meth he c hm F hr b hd pass0 ha hst hpl ht
theorem pe_mdef0 {pl:Sem Bool} (D:MDef X.prog X.w X.K X.mg X.base CX0 k C m ps dvs sp) (he:PE X o ta) (hr:Room k X.A)
    (ht:eval (.Call (.Attribute o m apos) [] [] pos) X.env=(do
      let ov ← eval o X.env
      standAt apos.atName
      let (f,first) ← holding [ov] (getMethod ov m pl)
      callWith pos f first (backTo pos (starEach [] X.env)) (backToKw pos (keywordEach [] X.env))):=by rfl) :
    PE X (.Call (.Attribute o m apos) [] [] pos) (tMeth C m sp dvs E0 ta tNil):=by
  obtain ⟨f,fd,ds,F,c,hm,b,hd⟩:=D.ex
  exact pe_meth0 he c hm F hr b hd pass0 ht
theorem pe_cdef0 (D:CDef X.prog X.w X.K X.mg X.base CX0 k x C ps sp) (hr:Room (k + 1) X.A) (hg:Gl X x:=by rfl) (hdb:(x == ("__debug__":Str))=false:=by decide):PE X (.Call (.Name x p) [] [] pos) (tMake C sp [] E0 tNil):=by
  obtain ⟨f,fd,F,hm,M,b⟩:=D.ex
  exact pe_make0 M F hr hg hm b .nil pass0 hdb
end
end L2
namespace Mir
open PySem L2
section
variable [Zc] [Zl] {W:WX}
def objAt (S:List (Option Cl)) (k:Nat):Option (Addr × List (Str × SV)):=match S[k]? with
  | some (some (.obj C fs))=>some (C,fs)
  | _=>none
theorem objAt_eq {S:List (Option Cl)} {k:Nat} {y:Addr × List (Str × SV)} (h:objAt S k=some y):S[k]?=some (some (.obj y.1 y.2)):=by
  unfold objAt at h
  split at h
  . rename_i C fs hk; cases h; exact hk
  . cases h
def nFldC (C:Addr) (a:EN) (f:Str):EN:=bN a fun x s=>match x with
  | .lc k=>(objAt s.S k).bind fun y=>if y.1=C then (y.2.lookup f).map fun z=>.ok z s else none
  | _=>none
theorem ne_fldC {K:PySem.W.Frag} {C:Addr} {ta:TE} {a:EN} {f:Str} (hc:Cls K C) (hn:NoAttr K C f) (ha:NE W ta a):NE W (tFld K ta f) (nFldC C a f):=by
  intro G A B H σ s r0 Q R e q
  refine nm_use (t:=ta) ha R e q fun x v A1 B1 H1 s1 g1 eB1 R1 V1 e1 q1=>?_
  split at e1
  . rename_i k
    obtain ⟨y,e2,e3⟩:=Option.bind_eq_some_iff.mp e1
    split at e3
    . rename_i hC
      obtain ⟨z,e4,e5⟩:=Option.map_eq_some_iff.mp e3
      cases e5
      subst hC
      cases V1 with
      | lc hA =>
        cases R1.st.cell k _ _ (objAt_eq e2) hA with
        | obj h1 h2 h3 =>
          obtain ⟨u,h4,h5⟩:=h3.look e4
          exact ⟨_,_,_,_,u,rfl,h1,hc,hn,h4,q1 u A1 B1 H1 (Gro.refl _) (Same.refl _) R1 h5⟩
    . cases e3
  . cases e1
def nSetF (C:Addr) (a v:EN) (f:Str):SN:=bS v fun y=>bS a fun x s=>match x with
  | .lc k=>(objAt s.S k).bind fun z=>if z.1=C∧z.2.length < 1000 then some (.nx ⟨s.S.set k (some (.obj C (putFS f y z.2))),s.t⟩) else none
  | _=>none
theorem ns_fld {K:PySem.W.Frag} {C:Addr} {ta tv:TE} {a v:EN} {f:Str} (hc:Cls K C) (hn:NoAttr K C f) (ha:NE W ta a) (hv:NE W tv v):NS W (sFld K ta tv f) (nSetF C a v f):=by
  intro G A B H σ s o D R e q
  unfold nSetF bS at e
  split at e
  . rename_i y s1 h1
    dsimp only at e
    refine hv G A B H σ s _ _ R h1 fun yv A1 B1 H1 g1 eB1 R1 V1=>?_
    split at e
    . rename_i x s2 h2
      try dsimp only at e
      refine ha G A1 B1 H1 σ s1 _ _ R1 h2 fun xv A2 B2 H2 g2 eB2 R2 V2=>?_
      split at e
      . rename_i k
        obtain ⟨z,e3,e4⟩:=Option.bind_eq_some_iff.mp e
        split at e4
        . rename_i hz
          obtain ⟨rfl,hz⟩:=hz
          cases e4
          cases V2 with
          | lc hA =>
            cases R2.st.cell k _ _ (objAt_eq e3) hA with
            | obj h1 h2 h3 =>
              have nx:∀ {dx a:Addr} {gs:List (Str × V)},H2 a=some (.ins z.1 dx gs)->H2 dx=some (.own a)->dx≠a:=fun {dx a gs} p1 p2 pe=>by rw [pe,p1] at p2; cases p2
              refine ⟨_,_,_,_,rfl,h1,hc,hn,by rw [h3.length]; exact hz,q A2 B2 _ σ (R2.write hA trivial (.obj upd_same (by rw [upd_ne (nx h1 h2)]; exact h2) (h3.put (V1.mono g2 eB2))))⟩
        . cases e4
      . cases e
    . rename_i x2 s2 h2
      cases e
      exact ha G A1 B1 H1 σ s1 _ _ R1 h2 fun A' B' H' R'=>q A' B' H' σ R'
    . cases e
  . rename_i x2 s2 h2
    cases e
    exact hv G A B H σ s _ _ R h2 fun A' B' H' R'=>q A' B' H' σ R'
  . cases e
def nMeth (C:Addr) (mn:Str) (f:FN) (dv:List D) (a:EN) (m:MN (List SV)):EN:=bN a fun x s=>match x with
  | .lc k=>(objAt s.S k).bind fun y=>if y.1=C∧y.2.lookup mn=none then bN m (fun xs s2=>(f s2.S (.lc k::(xs++dv.map .pl))).map fun w=>frR w s2.t) s else none
  | _=>none
theorem ne_meth {C:Addr} {mn:Str} {f:FN} {dv:List D} {dvs:List V} {E:XK} {ta:TE} {t:TA} {a:EN} {m:MN (List SV)} (hw:∀ x σ H',W x σ H'->E (Zl.cl x.c) none H') (hd:∀ B,Reps B dvs dv) (ha:NE W ta a) (h:NA W t m):NE W (tMeth C mn (spS f) dvs E ta t) (nMeth C mn f dv a m):=by
  intro G A B H σ s r0 Q R e q
  refine nm_use (t:=ta) ha R e q fun x v A1 B1 H1 s1 g1 eB1 R1 V1 e1 q1=>?_
  split at e1
  . rename_i k
    obtain ⟨y,e2,e3⟩:=Option.bind_eq_some_iff.mp e1
    split at e3
    . rename_i hz
      obtain ⟨rfl,hz⟩:=hz
      cases V1 with
      | lc hA =>
        cases R1.st.cell k _ _ (objAt_eq e2) hA with
        | obj h1 h2 h3 =>
          refine ⟨_,_,_,rfl,h1,h3.noLook hz,?_⟩
          refine nm_use (t:=t) h R1 e3 q1 fun vs xs A2 B2 H2 s2 g2 eB2 R2 V2 e4 q2=>?_
          exact call_end R2 (.cons (.lc (g2 _ _ hA)) (V2.append (hd B2).plV)) e4 q2 fun x H'=>hw x σ H'
    . cases e3
  . cases e1
theorem ne_methQ {C:Addr} {mn:Str} {f:FN} {dv:List D} {dvs:List V} {ta:TE} {t:TA} {a:EN} {m:MN (List SV)} (hd:∀ B,Reps B dvs dv) (ha:NE W0 ta a) (h:NA W0 t m):NE W0 (tMeth C mn (spQ f) dvs E0 ta t) (nMeth C mn f dv a m):=ne_meth (fun _ _ _ z=>z.elim) hd ha h
def nMake (C:Addr) (f:FN) (m:MN (List SV)):EN:=bN m fun xs s=>match f (s.S++[some (.obj C [])]) (.lc s.S.length::xs) with
  | some (.ok (.pl .none) S')=>some (.ok (.lc s.S.length) ⟨S',s.t⟩)
  | some (.er x S')=>some (.er x ⟨S',s.t⟩)
  | _=>none
theorem ne_make {C:Addr} {f:FN} {E:XK} {t:TA} {m:MN (List SV)} (hw:∀ x σ H',W x σ H'->E (Zl.cl x.c) none H') (h:NA W t m):NE W (tMake C (spS f) [] E t) (nMake C f m):=by
  intro G A B H σ s r0 Q R e q
  refine nm_use (t:=t) h R e q fun vs xs A1 B1 H1 s1 g1 eB1 R1 V1 e1 q1=>?_
  intro x dx hx hdx ne
  rw [List.append_nil]
  have eH:Same H1 (upd (upd H1 dx (.own x)) x (.ins C dx [])):=fun q u hq=>by
    rw [upd_ne (fun z=>by rw [z,hx] at hq; cases hq),upd_ne (fun z=>by rw [z,hdx] at hq; cases hq)]; exact hq
  have R2:RelN G A1 B1 (upd (upd H1 dx (.own x)) x (.ins C dx [])) σ s1:=R1.grow (Same.refl _) eH (R1.sub.trans eH) (fun _ _ z=>z) (fun q xs hq=>by
    by_cases z:q=x
    . subst z; rw [upd_same] at hq; cases hq
    . rw [upd_ne z] at hq
      by_cases z:q=dx
      . subst z; rw [upd_same] at hq; cases hq
      . rw [upd_ne z] at hq; exact R1.tupB q xs hq) fun q u w hq=>by
    by_cases z:q=x
    . subst z; rw [upd_same] at hq; cases hq
    . rw [upd_ne z] at hq
      by_cases z:q=dx
      . subst z; rw [upd_same] at hq; cases hq
      . rw [upd_ne z] at hq; exact R1.nz q u w hq
  obtain ⟨n1,n2,n3⟩:=R1.newG hx
  have R3:RelN G (A1++[x]) B1 (upd (upd H1 dx (.own x)) x (.ins C dx [])) σ ⟨s1.S++[some (.obj C [])],s1.t⟩:=R2.take (c:=.obj C []) n1 n2 n3 upd_same trivial (.obj upd_same (by rw [upd_ne ne]; exact upd_same) .nil)
  have hk:(A1++[x])[s1.S.length]?=some x:=by rw [← R1.st.len]; exact List.getElem?_concat_length
  split at e1
  . rename_i S' hf
    cases e1
    refine ⟨_,B1,_,_,_,R3.sub,R3.tupB,R3.st,.cons (.lc hk) (V1.mono (Gro.app _ _) (Same.refl _)),hf,fun v A' B' H' P=>?_⟩
    have pv:=P.val
    cases pv with
    | pl r =>
      cases r
      exact ⟨rfl,q1 (.ref x) A' B' H' ((Gro.app _ _).trans P.gro) P.eB (R3.post P) (.lc (P.gro _ _ hk))⟩
  . rename_i y S' hf
    cases e1
    refine ⟨_,B1,_,_,_,R3.sub,R3.tupB,R3.st,.cons (.lc hk) (V1.mono (Gro.app _ _) (Same.refl _)),hf,fun A' B' H' P=>hw y σ H' (q1 A' B' H' (R3.post P))⟩
  . cases e1
theorem ne_makeQ {C:Addr} {f:FN} {t:TA} {m:MN (List SV)} (h:NA W0 t m):NE W0 (tMake C (spQ f) [] E0 t) (nMake C f m):=ne_make (fun _ _ _ z=>z.elim) h
end
end Mir
set_option Elab.async false
set_option linter.all false
set_option maxRecDepth 100000
namespace L2
open PySem PySem.Spec PyProof.Rows
theorem FnOk.quiet {P:Program} {w:World} {K:PySem.W.Frag} {mg:Str->Option Value} {base:Heap} {k:Nat} {f:Addr} {fd:FuncData} {ps:List Str} {sp:Sp} (F:FnOk P w K mg base (CXW P w) k f fd ps sp):FnOk P w K mg base CX0 k f fd ps (fun vs H Q _=>sp vs H Q E0) :=
  ⟨fun vs H Q E h=>F.len vs H Q E0 h,fun A outer s H args us vs Q E hr he hb hv hs=>codeAny_mono (F.run A outer s H args us vs Q E0 hr he hb hv hs) fun r s' h=>by
    cases r with
    | ok fl=>cases fl with
      | ret u=>exact h
      | next=>exact h
      | brk=>exact h
      | cont=>exact h
    | error e=>obtain ⟨_,_,_,_,_,_,fl⟩:=h; exact fl.wish.elim⟩
section
variable {P:Program} {w:World} {K:PySem.W.Frag} {mg:Str->Option Value} {base:Heap} {k:Nat} {C:Addr} {x m:Str} {ps ks:List Str} {dvs:List V} {sp:Sp}
theorem Def.quiet (D:Def P w K mg base (CXW P w) k x ps sp):Def P w K mg base CX0 k x ps (fun vs H Q _=>sp vs H Q E0):=by
  obtain ⟨f,fd,F,h1,h2,h3⟩:=D.ex
  exact ⟨⟨f,fd,F.quiet,h1,h2,h3⟩⟩
theorem MDef.quiet (D:MDef P w K mg base (CXW P w) k C m ps dvs sp):MDef P w K mg base CX0 k C m ps dvs (fun vs H Q _=>sp vs H Q E0):=by
  obtain ⟨f,fd,ds,F,h1⟩:=D.ex
  exact ⟨⟨f,fd,ds,F.quiet,h1⟩⟩
theorem CDef.quiet (D:CDef P w K mg base (CXW P w) k x C ps sp):CDef P w K mg base CX0 k x C ps (fun vs H Q _=>sp vs H Q E0):=by
  obtain ⟨f,fd,F,h1⟩:=D.ex
  exact ⟨⟨f,fd,F.quiet,h1⟩⟩
end
def rIsiG (K:PySem.W.Frag):List V->Hp->VK->Prop:=fun vs H Q=>∃ e D c cv b φ,vs=[.ref e,c]∧Mir.XtAt H e φ∧(∀ h,φ h->excAt e (.ref D) h)∧ExcK K D∧(∀ u,RelV c u->u=cv)∧PySem.W.kitOne K (.ref D) cv=some b∧Q (.bl b) H
theorem call_isiG {X:Cx} {K:PySem.W.Frag} (hK:X.K=K):CallR X (.builtin "isinstance") (rIsiG K):=by
  subst hK
  intro pins s σ H vs us Q I r h
  obtain ⟨e,D,c,cv,b,φ,rfl,hH,hφ,Z,hcv,hk,q⟩:=h
  have p:=hH.ok I.hok
  obtain ⟨oe,hx,hc⟩:=hφ _ p
  cases r with
  | cons r1 r =>
    cases r with
    | cons r2 r =>
      cases r
      obtain rfl:=r1
      obtain rfl:=hcv _ r2
      exact PySem.W.kia_one (kitx_exc (a:=e) Z hc) I.kIn hx hk (by intro z; cases z) fun tk=>⟨.bl b,H,I.tok tk,rfl,q⟩
section
variable {X:Cx} {K:PySem.W.Frag} {o e value:Expr} {es:List Expr} {f m x:Str} {p pos pos' apos:Pos} {ta tv:TE} {t tk:TA} {C:Addr} {k:Nat} {ps ks:List Str} {dvs:List V} {sp:Sp} {kws:List Keyword} {E:XK}
end
end L2
namespace Mir
open PySem L2
section
variable [Zc] [Zl] {W:WX}
def nRaise (c:Str) (m:MN (List SV)):SN:=bS m fun xs s=>if xs.length≤100 then some (.er ⟨c,none⟩ s) else none
theorem ns_raise {c:Str} {W':Hp->Prop} {t:TA} {m:MN (List SV)} (h:NA W t m) (hw:∀ σ H,W ⟨c,none⟩ σ H->W' H):NS W (tRaise W' t) (nRaise c m):=by
  intro G A B H σ s o D R e q
  refine ns_use (t:=t) h R e q fun vs xs A1 B1 H1 s1 R1 V1 e1=>?_
  split at e1
  . rename_i hz
    cases e1
    exact ⟨by rw [V1.length]; exact hz,hw σ H1 (q A1 B1 H1 σ R1)⟩
  . cases e1
theorem RelN.unset {G:FrN} {A:List Addr} {B H:Hp} {σ:St} {s:SS} (R:RelN G A B H σ s) (i:Nat):RelN G A B H (σ.set i none) ⟨s.S,s.t.set i none⟩:=by
  refine ⟨R.sub,R.sB,R.tupB,R.kept,R.nB,R.pre,R.fresh,R.st,?_,fun j y hj=>?_,R.nz⟩
  . show (s.t.set i none).length=_
    rw [List.length_set,List.length_set]; exact R.len
  . have hj':(s.t.set i none)[j]?=some (some y):=hj
    by_cases z:j=i
    . subst z
      by_cases hl:j < s.t.length
      . rw [List.getElem?_set_self hl] at hj'; cases hj'
      . rw [List.getElem?_eq_none (by rw [List.length_set]; omega)] at hj'; cases hj'
    . rw [List.getElem?_set_ne fun e=>z e.symm] at hj'
      rw [List.getElem?_set_ne fun e=>z e.symm]
      exact R.slot j y hj'
def dropN (i:Nat):NOut->Option NOut
  | .nx s=>some (.nx ⟨s.S,s.t.set i none⟩)
  | .bk s=>some (.bk ⟨s.S,s.t.set i none⟩)
  | .ct s=>some (.ct ⟨s.S,s.t.set i none⟩)
  | .rt r s=>some (.rt r s)
  | .er _ _=>none
def nIsiX (i:Nat) (tab:Str->Option Bool):EN:=bN (nVar i) fun x s=>match x with
  | .lc k=>(match s.S[k]? with
    | some (some (.exc c _))=>(tab c).map fun b=>.ok (.pl (.bool b)) s
    | _=>none)
  | _=>none
theorem ne_isiX {K:PySem.W.Frag} {i:Nat} {tab:Str->Option Bool} {c:V} {cv:Value} (hcv:∀ u,RelV c u->u=cv) (hk:∀ k b,tab k=some b->∃ D,Zl.cl k=.ref D∧ExcK K D∧PySem.W.kitOne K (.ref D) cv=some b):NE W (tCB (rIsiG K) (tCons (tVar i) (tCons (tC c) tNil))) (nIsiX i tab):=by
  intro G A B H σ s r0 Q R e q
  refine nm_use (t:=tVar i) ne_var R e q fun x v A1 B1 H1 s1 g1 eB1 R1 V1 e1 q1=>?_
  split at e1
  . rename_i k
    split at e1
    . rename_i kc kn hS
      obtain ⟨b,e2,e3⟩:=Option.map_eq_some_iff.mp e1
      cases e3
      cases V1 with
      | lc hA =>
        cases R1.st.cell k _ _ hS hA with
        | exc h1 hφ _ =>
          obtain ⟨D,h2,h3,h4⟩:=hk kc b e2
          rw [h2] at hφ
          exact ⟨_,D,c,cv,b,_,rfl,h1,hφ,h3,hcv,h4,q1 _ A1 B1 H1 (Gro.refl _) (Same.refl _) R1 (.pl (.bl b))⟩
    . cases e1
  . cases e1
end
end Mir
set_option Elab.async false
set_option linter.all false
set_option maxRecDepth 100000
namespace L2
open PySem PySem.Spec PyProof.Rows
theorem dict_mapF (o:Obj) (f:Array Value->Array Value):(o.mapFields f).dict=o.dict:=by obtain ⟨c,d,dt,sl⟩:=o; cases dt <;> rfl
def DicAt (h:Heap) (e:Addr) (od:Option Addr):Prop:=∃ o,h.get? e=some o∧o.dict=od∧∃ vs,o.data=.fields vs∧vs[2]?=some .none
section
variable {M:Model} {A:Around} {E:Value->Shared->Prop} {s:Shared}
theorem entryD {base:Heap} {env:Env} {outer:List Env} {L e:Addr} {oe:Obj} {vs:Array Value} {head a0:Value} {hadNext:Bool} {Q:Unit->Shared->Prop}
    (hfr:A.frames=some (env::outer)) (hl:s.heap.FunFrames base (env::outer)) (hf:env.frame=some L) (he:s.heap.get? e=some oe) (hkb:base.StaysIn s.heap) (hen:base.get? e=none) (hd:oe.data=.fields vs) (hsz : 1 < vs.size) (h0:vs[0]?=some a0) (hx2:vs[2]?=some .none)
    (h:∀ h',Heap.NotedW base (env::outer) e oe.cls a0 (rawInt L) s.heap h'->DicAt h' e oe.dict->Q () { s with heap:=h' }) :
    wpAny M A (do let a ← frameOf env; let pl ← entryPlaceOf L hadNext; let b ← EntryCells.newEntry head a .none (rawInt L) .none pl; setField (.ref e) 1 b) Q E s:=by
  have hne:e ∉ (env::outer).filterMap (·.frame):=fun hm=>by
    obtain ⟨_,o,ho,hnf⟩:=hl.mem hm
    rw [he] at ho; cases ho; exact hnf vs hd
  refine wpAny_bind (wpAny_frameOf_fun hfr hl hf fun h1 hs=>?_)
  refine wpAny_bind (wpAny_entryPlaceOf fun pl hpl=>?_)
  unfold EntryCells.newEntry newFields
  refine wpAny_bind (wpAny_newObj_type ?_ (hpl.sizeOk5 _ _ _ _ _))
  generalize hob:({ cls:=.type "traceback",dict:=none,data:=.fields ([head,.ref L,.none,rawInt L,.none]++(if pl.isEmpty then List.replicate 6 Value.none else pl)).toArray }:Obj)=ob
  have hbd:ob.data=.fields ([head,.ref L,.none,rawInt L,.none]++(if pl.isEmpty then List.replicate 6 Value.none else pl)).toArray:=by rw [← hob]
  have he1:h1.get? e=some oe:=(hs.2.1 e hne).trans he
  have kb:base.StaysIn h1:=fun b o hbo=>(hs.2.1 b fun hm=>by rw [(hl.mem hm).1] at hbo; cases hbo).trans (hkb b o hbo)
  have he2:=Heap.get?_push_of_some (h:=h1) ob he1
  refine wpAny_setField he2 hd hsz ?_
  have ne:h1.objs.size≠e:=Nat.ne_of_gt (Heap.lt_size he1)
  have hd3:=Obj.data_mapFields hd (·.setIfInBounds 1 (Value.ref h1.objs.size))
  have he3:=Heap.get?_update_self (Obj.mapFields (·.setIfInBounds 1 (Value.ref h1.objs.size))) he2 (Obj.isFreed_of_fields hd3)
  have hT:=(Heap.get?_update_other (h1.push ob) (Obj.mapFields (·.setIfInBounds 1 (Value.ref h1.objs.size))) (Ne.symm ne)).trans (Heap.get?_push_size h1 (Obj.isFreed_of_fields hbd))
  have keep:∀ b o,b≠e->h1.get? b=some o->((h1.push ob).update e (Obj.mapFields (·.setIfInBounds 1 (Value.ref h1.objs.size)))).get? b=some o:=fun b o z hb=>by
    rw [Heap.get?_update_other _ _ (Ne.symm z)]; exact Heap.get?_push_of_some _ hb
  have nr:∀ b o,s.heap.get? b=some o->(∀ vs,o.data≠.fields vs)->b≠e:=fun b o hb hnf q=>by
    rw [q,he] at hb; cases hb; exact hnf vs hd
  refine h _ ⟨fun b o hbo=>keep b o (fun q=>by rw [q,hen] at hbo; cases hbo) (kb b o hbo),hl.of_keeps fun b o hb hnf=>?_,?_,fun b o hb hnf=>?_⟩ ⟨_,he3,dict_mapF _ _,_,hd3,by rw [Array.getElem?_setIfInBounds_ne (by decide)]; exact hx2⟩
  . obtain ⟨sl,z⟩:=hs.2.2 b o hb
    exact ⟨_,keep b _ (nr b o hb hnf) z,rfl⟩
  . exact ⟨_,_,h1.objs.size,_,_,he3,⟨Obj.cls_mapFields _ _,by rw [Array.getElem?_setIfInBounds_ne (by decide)]; exact h0⟩,hd3,by simp [hsz],kb.fresh,ne,hT,hbd,by first | (simp; done) | (rcases hpl with rfl | ⟨_,_,_,_,_,_,_,rfl⟩ <;> simp)⟩
  . obtain ⟨sl,z⟩:=hs.2.2 b o hb
    exact ⟨sl,keep b _ (nr b o hb hnf) z⟩
theorem flightD {base:Heap} {l:List Env} {e:Addr} {cls a0 fl:Value} {od:Option Addr} {Q:Unit->Shared->Prop} (hkb:base.StaysIn s.heap) (hl:s.heap.FunFrames base l) (ht:s.heap.TracedAtW base e cls a0 fl) (dc:DicAt s.heap e od)
    (h:∀ h',base.StaysIn h'->h'.FunFrames base l->h'.TracedW base e cls a0->DicAt h' e od->(∀ b o,s.heap.get? b=some o->(∀ vs,o.data≠.fields vs)->h'.get? b=some o)->Q () { s with heap:=h' }) :
    wpAny M A (setFlight (.ref e) none) Q E s:=by
  obtain ⟨oe,vs,T,oT,ts,he,hc,hd,h1,hnT,ne,hT,hdT,h3⟩:=ht
  obtain ⟨oe',he',hdc,hvs⟩:=dc
  rw [he] at he'
  cases he'
  have hz : 3 < ts.size:=(Array.getElem?_eq_some_iff.mp h3).1
  have other:∀ b,b≠T->(s.heap.update T (Obj.mapFields (·.setIfInBounds 3 ((none:Option Addr).elim Value.none fun f=>rawInt f)))).get? b=s.heap.get? b:=fun b hb=>Heap.get?_update_other _ _ (Ne.symm hb)
  have nr:∀ b o,s.heap.get? b=some o->(∀ vs,o.data≠.fields vs)->b≠T:=fun b o hb hnf q=>by
    rw [q,hT] at hb; cases hb; exact hnf ts hdT
  unfold setFlight
  refine wpAny_bind (wpAny_field he hd h1 ?_)
  rw [if_pos (show (Value.ref T != Value.none)=true from by simp)]
  refine wpAny_setField hT hdT hz (h _ (fun b o q=>(other b fun z=>by rw [z,hnT] at q; cases q).trans (hkb b o q)) (hl.of_keeps fun b o hb hnf=>⟨o,(other b (nr b o hb hnf)).trans hb,rfl⟩) ?_ ⟨oe,(other e (Ne.symm ne)).trans he,hdc,hvs⟩ fun b o hb hnf=>(other b (nr b o hb hnf)).trans hb)
  exact ⟨oe,vs,T,_,_,(other e (Ne.symm ne)).trans he,hc,hd,h1,hnT,ne,Heap.get?_update_self _ hT (Obj.isFreed_of_fields (Obj.data_mapFields hdT _)),Obj.data_mapFields hdT _,by simp [hz]⟩
theorem leaveD {base:Heap} {env:Env} {outer:List Env} {L e:Addr} {oe:Obj} {vs:Array Value} {a0:Value} {Q:Unit->Shared->Prop}
    (hfr:A.frames=some (env::outer)) (hl:s.heap.FunFrames base (env::outer)) (hf:env.frame=some L) (he:s.heap.get? e=some oe) (hkb:base.StaysIn s.heap) (hen:base.get? e=none) (hd:oe.data=.fields vs) (h1:vs[1]?=some .none) (h0:vs[0]?=some a0) (hx2:vs[2]?=some .none)
    (h:∀ h',Heap.FlyingW base outer e oe.cls a0 h'->DicAt h' e oe.dict->s.heap.UpToSlots h'->Q () { s with heap:=h' }):wpAny M A (leaving env (.ref e)) Q E s:=by
  unfold leaving noteFrame
  simp only [hf]
  refine wpAny_bind (wpAny_bind (wpAny_field he hd h1 ?_))
  rw [if_neg (by decide)]
  refine entryD hfr hl hf he hkb hen hd (Array.getElem?_eq_some_iff.mp h1).1 h0 hx2 fun h2 N D=>?_
  obtain ⟨n1,n2,n3,n4⟩:=N
  refine flightD (s:={ s with heap:=h2 }) n1 n2 n3 D fun h' k1 k2 k3 k4 k5=>h h' ⟨k1,hen,?_,k3⟩ k4 fun b o hb hnf=>?_
  . obtain ⟨_,_,z⟩:=k2
    exact z
  . obtain ⟨sl,z⟩:=n4 b o hb hnf
    exact ⟨sl,k5 b _ z hnf⟩
theorem looksD {base:Heap} {env:Env} {outer:List Env} {L e:Addr} {cls a0:Value} {od:Option Addr} {Q:Unit->Shared->Prop} (hfr:A.frames=some (env::outer)) (hf:env.frame=some L) (hfl:Heap.FlyingW base (env::outer) e cls a0 s.heap) (dc:DicAt s.heap e od)
    (hQ:∀ h',Heap.HeldW base (env::outer) e cls a0 L h'->DicAt h' e od->s.heap.UpToSlots h'->Q () { s with heap:=h' }):wpAny M A (noteFrame (.ref e) env) Q E s:=by
  obtain ⟨f1,f2,f3,oe,vs,T,oT,ts,he,⟨hcls,h0⟩,hd,h1,hnT,ne,hT,hdT,h3⟩:=hfl
  obtain ⟨oe',he',hdc,vs',hd',hx2⟩:=dc
  rw [he] at he'
  cases he'
  obtain rfl:vs=vs':=by rw [hd] at hd'; cases hd'; rfl
  subst hcls hdc
  unfold noteFrame
  simp only [hf]
  refine wpAny_bind (wpAny_field he hd h1 ?_)
  rw [if_pos (show (Value.ref T != Value.none)=true from by simp)]
  refine wpAny_bind (wpAny_field hT hdT h3 ?_)
  rw [if_neg (show ¬ ((Value.none == rawInt L)=true) from by simp [rawInt])]
  refine wpAny_bind (wpAny_setField hT hdT (Array.getElem?_eq_some_iff.mp h3).1 ?_)
  have other:∀ b,b≠T->(s.heap.update T (Obj.mapFields (·.setIfInBounds 3 Value.none))).get? b=s.heap.get? b:=fun b hb=>Heap.get?_update_other _ _ (Ne.symm hb)
  have nr:∀ b o,s.heap.get? b=some o->(∀ vs,o.data≠.fields vs)->b≠T:=fun b o hb hnf q=>by
    rw [q,hT] at hb; cases hb; exact hnf ts hdT
  refine entryD (s:={ s with heap:=s.heap.update T (Obj.mapFields (·.setIfInBounds 3 Value.none)) }) hfr (f3.of_keeps fun b o hb hnf=>⟨o,(other b (nr b o hb hnf)).trans hb,rfl⟩) hf ((other e (Ne.symm ne)).trans he)
    (fun b o hbo=>(other b fun q=>by rw [q,hnT] at hbo; cases hbo).trans (f1 b o hbo)) f2 hd (Array.getElem?_eq_some_iff.mp h1).1 h0 hx2 fun h' N D=>?_
  obtain ⟨n1,n2,n3,n4⟩:=N
  exact hQ h' ⟨n1,f2,n2,n3⟩ D fun b o hb hnf=>n4 b o ((other b (nr b o hb hnf)).trans hb) hnf
theorem landsD {base:Heap} {l:List Env} {e L:Addr} {cls a0:Value} {od:Option Addr} {Q:Unit->Shared->Prop} (hh:Heap.HeldW base l e cls a0 L s.heap) (dc:DicAt s.heap e od)
    (hQ:∀ h',Heap.FlyingW base l e cls a0 h'->DicAt h' e od->s.heap.UpToSlots h'->Q () { s with heap:=h' }):wpAny M A (setFlight (.ref e) none) Q E s:=by
  obtain ⟨f1,f2,f3,f4⟩:=hh
  exact flightD f1 f3 f4 dc fun h' k1 k2 k3 k4 k5=>hQ h' ⟨k1,f2,k2,k3⟩ k4 fun b o hb hn=>⟨o.slots,k5 b o hb hn⟩
theorem againD {base:Heap} {l:List Env} {e:Addr} {cls a0:Value} {od:Option Addr} {Q:Unit->Shared->Prop} (hh:Heap.FlyingW base l e cls a0 s.heap) (dc:DicAt s.heap e od)
    (hQ:∀ h',Heap.FlyingW base l e cls a0 h'->DicAt h' e od->s.heap.UpToSlots h'->Q () { s with heap:=h' }):wpAny M A (setFlight (.ref e) none) Q E s:=by
  obtain ⟨f1,f2,f3,f4⟩:=hh
  exact flightD f1 f3 f4.at dc fun h' k1 k2 k3 k4 k5=>hQ h' ⟨k1,f2,k2,k3⟩ k4 fun b o hb hn=>⟨o.slots,k5 b o hb hn⟩
end
end L2
set_option Elab.async false
set_option linter.all false
set_option maxRecDepth 100000
namespace L2
open PySem PySem.Spec PyProof.Rows PySem.W
section
variable {prog:Program} {w:World} {A:Around} {E:Value->Shared->Prop} {h:Heap} {g:Array GenState} {d:Drawn} {t:Nat} {os:OsState} {K:Frag}
variable {nm q:Str} {C N x:Addr} {bs bm bmB:List Value} {hdct:Bool} {sn:List Str} {sub:List Value} {ab:Bool} {col:Option Bool} {dd:Option Addr} {k0 k1 k2 k3 k5:Option Value} {B newId initId:String} {name:Str} {v:Value} {o:Obj} {vs:Array Value}
theorem setattr_exc {Q:Unit->Shared->Prop} (X:K.In h) (hC:h.get? C=some (excClassObj nm q C N bs bm true sn sub ab col dd k0 k1 k2 k3 k5 newId)) (hx:h.get? x=some o) (hc:o.cls=.ref C) (hdn:o.dict=none) (hvs:o.data=.fields vs)
    (hsa:findIn K (.ref C) "__setattr__" = some (some (.builtin "object.__setattr__"))) (hna:findIn K (.ref C) name=some none) (hob:bm.contains (.type "object")=true) (hpass:∀ self,refuseLoop self "__setattr__" bm=pure ())
    (hq:∀ h' tk',h'.get? x=some { o with dict:=some h.objs.size }->h'.Ns1 h.objs.size (fun y=>if y=name then some v else none)->(∀ b o',b≠x->h.get? b=some o'->h'.get? b=some o')->Q () ⟨h',g,d,tk',os⟩) :
    wpAny (model prog w) A (setAttr (.ref x) name v) Q E ⟨h,g,d,t,os⟩:=by
  have SF:=PySem.F.store_object
  have I:InstAt h x o C none:=⟨hx,hc,by unfold notCls; rw [hvs],by rw [hdn]; trivial⟩
  have hcB:(Value.ref C::bm).contains (.type "object")=true:=by rw [List.contains_cons,hob,Bool.or_true]
  have L1:=looks_findIn (M:=model prog w) X hna
  refine set_plain (s:=⟨h,g,d,t,os⟩) X I hsa ?_
  refine codeAny_call_builtin SF.slot.plain SF.entry (@check_slot (model prog w) _ _ ⟨h,g,d,t + 1,os⟩ "object.__setattr__" "object" "__setattr__" (.ref x) [.str name t,v] [] _ SF.kind SF.split (I.type.andThen fun A Q E s k z=>?_) (SF.args (.ref x) (.str name t) v) ?_)
  . obtain ⟨hh,g',d',t',os'⟩:=s
    refine wpAny_isSubtype_exc (k _ _ hC) ?_
    rw [hcB]; exact z
  have hp:=hpass (.ref x)
  unfold Builtin.«object.__setattr__»
  repeat (first | rw [refuse_eq] | (rw [refuseLoop_ref,hp]) | (with_reducible refine wpAny_loadPart_at hx ?_; rw [hc]) | with_reducible refine wpAny_mroOf_exc hC ?_ | (with_reducible refine L1.at ?_) | wp_step)
  rw [hdn,if_neg (by simp [typeHasDict])]
  split
  . rename_i hcd
    cases hcd
  split
  . rename_i c hcd
    rw [hvs] at hcd; cases hcd
  . have hx1:(h.push { cls:=.type "dict",data:=.dict #[] }).get? x=some o:=Heap.get?_push_of_some _ hx
    have hxs:x≠h.objs.size:=Nat.ne_of_lt (Heap.lt_size hx)
    refine wpAny_bind (wpAny_alloc' ?_)
    refine wpAny_bind (wpAny_update' hx1 ?_)
    refine wpAny_pure ?_
    have hgd:((h.push { cls:=.type "dict",data:=.dict #[] }).update x fun o=>{ cls:=o.cls,dict:=some h.objs.size,data:=o.data,slots:=o.slots }).get? h.objs.size=some { cls:=.type "dict",data:=.dict #[] } :=
      (Heap.get?_update_ne _ _ _ _ hxs.symm).trans (Heap.get?_push_at rfl rfl)
    have hnd:((h.push { cls:=.type "dict",data:=.dict #[] }).update x fun o=>{ cls:=o.cls,dict:=some h.objs.size,data:=o.data,slots:=o.slots }).Ns h.objs.size (fun _=>none):=⟨_,#[],_,hgd,rfl,fun e he=>absurd he (by simp),fun _=>rfl⟩
    show wpAny _ _ (Builtin.ObjectAttr.storeInDict h.objs.size (.str name _) name v) _ _ _
    unfold Builtin.ObjectAttr.storeInDict Builtin.ObjectAttr.newKeyGuard
    refine wpAny_bind (wpAny_pure (wpAny_bind (wpAny_nsSet1 (Heap.Ns1.of_empty hnd) fun h' hn' hs=>?_)))
    obtain ⟨oD,esD,epD,hoD,hdD,hcD⟩:=hn'.count (Within.cons name v Within.nil)
    refine wpAny_bind (wpAny_lookBehind hoD (by rw [hdD]; exact pastItsLine_dict (Nat.le_trans hcD (by rw [List.length_cons,List.length_nil,sizeLine_eq]; omega))) ?_)
    wp_walk
    have hx':h'.get? x=some { o with dict:=some h.objs.size }:=by
      refine (hs.2 x hxs).trans (Heap.get?_update_self _ hx1 ?_)
      have hfr:=(Heap.get?_some_iff.mp hx).2
      obtain ⟨oc,od,odt,osl⟩:=o
      cases odt <;> first | rfl | exact hfr
    exact hq h' _ hx' hn' fun b o' hb q=>(hs.2 b (Nat.ne_of_lt (Heap.lt_size q))).trans ((Heap.get?_update_ne _ _ _ _ hb).trans (Heap.get?_push_of_some _ q))
theorem init_exc (F:ExcBaseFacts B newId initId bmB) (T:OwnTail h bmB bm) {e a0:Addr} {rest:List Value} {Q:Value->Shared->Prop} (hC:h.get? C=some (excClassObj nm q C N bs bm hdct sn sub ab col dd k0 k1 k2 k3 k5 newId)) (he:h.get? e=some o) (hc:o.cls=.ref C) (hvs:o.data=.fields #[.ref a0,.none,.none,.none,.bool false,.none])
    (hq:∀ h' t0,h'.get? e=some { o with data:=.fields #[.ref t0,.none,.none,.none,.bool false,.none] }->(∀ b o',b≠e->h.get? b=some o'->h'.get? b=some o')->Q .none ⟨h',g,d,t,os⟩) (hrest:rest.length≤sizeLine:=by size_fits) :
    wpAny (model prog w) A (call (.builtin initId) (.ref e::rest)) Q E ⟨h,g,d,t,os⟩:=by
  refine wpAny_call (codeAny_call_builtin F.init.plain F.initEntry (wpAny_check_init_subT F T hC he hc ?_))
  obtain ⟨oc,od,odt,osl⟩:=o
  subst hvs
  wp_walk
  refine hq _ h.objs.size ?_ fun b o' hb q=>?_
  . rw [Heap.get?_update_self _ (Heap.get?_push_of_some _ he) rfl]
    rfl
  . rw [Heap.get?_update_other _ _ (Ne.symm hb)]
    exact Heap.get?_push_of_some _ q
theorem call_exi (F:ExcBaseFacts B newId initId bmB) (T:OwnTail h bmB bm) {mN:Str->Option Value} {rest:List Value} {fI:Addr} {oI:Obj} {Q:Value->Shared->Prop} (hC:h.get? C=some (excClassObj nm q C N bs bm hdct sn sub ab col dd k0 k1 k2 k3 k5 newId)) (hn:h.Ns N mN) (hi:mN "__init__" = some (.ref fI))
    (hfI:h.get? fI=some oI) (hfc:oI.cls=.type "function")
    (hq:∀ h' e,Heap.MadeExcOf h h' e (.ref C) rest->h.objs.size≤e ->
      wpAny (model prog w) (A.under (.builtin "type.__call__" ⟨.ref C::rest,[]⟩)) (call (.ref fI) (.ref e::rest)) (fun r s'=>r=.none∧Q (.ref e) s') E ⟨h',g,d,t,os⟩) (hrest:rest.length≤sizeLine:=by size_fits) :
    wpAny (model prog w) A (call (.ref C) rest) Q E ⟨h,g,d,t,os⟩:=by
  have f1:=tc_lookup
  have f2:=tc_bind (.ref C)
  have hT:(⟨h,g,d,t,os⟩:Shared).TypeIs (.ref C) "type":=⟨_,hC,rfl⟩
  refine wpAny_call (codeAny_of_tree ?_)
  show wpAny _ _ (callAny (.ref C) _) _ _ _
  repeat (any_goals (first | assumption | with_reducible refine wpAny_loadPart_at hC ?_ | wp_step))
  refine ⟨rfl,?_⟩
  refine codeAny_call_builtin_at (Code.quiet_builtin _ (by decide +kernel)) entry_typeCall (wpAny_check_type_call_sub hC ?_)
  repeat (first | with_reducible refine wpAny_loadPart_at hC ?_ | with_reducible refine wpAny_madeBy_exc hC ?_ | wp_step)
  refine codeAny_call_builtin_code (Code.quiet_builtin _ F.quiet) (wpAny_check_new_subT F T hC ?_)
  refine codeAny_exc_new_subT F T hC ?_ hrest
  show wpAny _ _ _ _ _ ⟨(h.push { cls:=.type "tuple",data:=.seq rest.toArray }).push { cls:=.ref C,data:=.fields #[.ref h.objs.size,.none,.none,.none,.bool false,.none] },g,d,t,os⟩
  generalize ho1:({ cls:=.type "tuple",data:=.seq rest.toArray }:Obj)=o1
  generalize ho2:({ cls:=.ref C,data:=.fields #[.ref h.objs.size,.none,.none,.none,.bool false,.none] }:Obj)=o2
  have f1':o1.isFreed=false:=by rw [← ho1]; rfl
  have f2':o2.isFreed=false:=by rw [← ho2]; rfl
  have hk:∀ b o,h.get? b=some o->((h.push o1).push o2).get? b=some o:=fun b o z=>Heap.get?_push_of_some _ (Heap.get?_push_of_some _ z)
  have hC1:=hk _ _ hC
  have hg2:((h.push o1).push o2).get? (h.objs.size + 1)=some o2:=by
    have:=Heap.get?_push_size (h.push o1) (o:=o2) f2'
    rwa [Heap.size_push] at this
  have hg1:((h.push o1).push o2).get? h.objs.size=some o1:=Heap.get?_push_of_some _ (Heap.get?_push_size h f1')
  have hc2:o2.cls=.ref C:=by rw [← ho2]
  have hcC:(Value.ref C::bm).contains (.ref C)=true:=by simp
  have hT2:((⟨(h.push o1).push o2,g,d,t,os⟩:Shared)).TypeIs (.ref fI) "function":=⟨_,hk _ _ hfI,hfc⟩
  unfold isInstance
  repeat (first | (with_reducible refine wpAny_loadPart_at hg2 ?_) | rw [hc2] | wp_step)
  refine wpAny_isSubtype_exc hC1 ?_
  rw [hcC]
  repeat (first | (with_reducible refine wpAny_loadPart_at hg2 ?_) | rw [hc2] | wp_step)
  show wpAny _ _ (typeLookup (.ref C) _) _ _ _
  refine wpAny_typeLookup_tail hC1 (hn.keeps hk) (T.keeps hk) F.mroIs F.init.lookup ?_
  rw [hi]
  refine wpAny_holding (wpAny_bind ?_)
  unfold bindSpecial
  refine wpAny_bind (wpAny_typeOf (T:="function") hT2 ?_)
  rw [if_pos (by decide)]
  refine wpAny_pure (wpAny_bind (wpAny_mono (hq _ (h.objs.size + 1) ⟨hk,Heap.get?_none_of_le (Nat.le_succ _),h.objs.size,by rw [hg2,← ho2],Heap.get?_none_of_le (Nat.le_refl _),by rw [hg1,← ho1]⟩ (Nat.le_succ _)) (fun r s' hr=>?_) fun _ _ x=>x))
  obtain ⟨rfl,hQ⟩:=hr
  wp_walk
  exact hQ
end
end L2
set_option Elab.async false
set_option linter.all false
set_option maxRecDepth 100000
namespace L2
open PySem PySem.Spec PyProof.Rows PySem.W
def bmV:List Value:=[.type "ValueError",.type "Exception",.type "BaseException",.type "object"]
def exiIn (K:Frag) (C fI:Addr):Bool:=match K.lookup C with
  | some ⟨.type "type",_,.cls cd,sl⟩=>(match cd.mro,sl.toList with
    | .ref C'::bm,[_,_,_,_,some (.builtin n),_]=>C' == C && n == "ValueError.__new__" && !cd.hasDel && cd.hasDict && tailIn K bmV bm && nsOkIn K cd.ns && nsIn K cd.ns "__init__" == some (some (.ref fI))
    | _,_=>false)
  | _=>false
structure Exi (K:Frag) (C fI:Addr):Prop where
  cl:exiIn K C fI=true
  sa:findIn K (.ref C) "__setattr__" = some (some (.builtin "object.__setattr__"))
  by_:findIn K (.ref C) "by" = some none
  fn:typeIn K (.ref fI)=some (.type "function")
  kp:keepIn K (.ref C)=true
theorem ns_some_of {K:Frag} {h:Heap} {N:Addr} {mg:Str->Option Value} {n:Str} {v:Value} (X:K.In h) (G:h.Ns N mg) (e:nsIn K N n=some (some v)):mg n=some v:=by
  obtain ⟨o,es,ep,ho,hd,_,hf⟩:=G
  unfold nsIn at e
  split at e
  . rename_i c d es' n' sl q
    have z:=X _ _ q
    rw [z] at ho
    cases ho
    cases hd
    split at e
    . rename_i en he
      cases e
      rw [← hf]
      unfold nsFind findBy
      rw [← Array.find?_toList,he]
      rfl
    . split at e <;> cases e
  . cases e
theorem exi_obj {K:Frag} {h₀:Heap} {C fI:Addr} (X:K.In h₀) (q:exiIn K C fI=true) :
    ∃ bm N nm q bs sn sub ab col dd k0 k1 k2 k3 k5 mN,h₀.get? C=some (excClassObj nm q C N bs bm true sn sub ab col dd k0 k1 k2 k3 k5 "ValueError.__new__")∧h₀.Ns N mN∧mN "__init__" = some (.ref fI)∧OwnTail h₀ bmV bm:=by
  unfold exiIn at q
  split at q
  . rename_i dd cd sl ho
    split at q
    . rename_i C' bm k0 k1 k2 k3 n k5 hm hs
      simp only [Bool.and_eq_true,beq_iff_eq,Bool.not_eq_true'] at q
      obtain ⟨⟨⟨⟨⟨⟨rfl,rfl⟩,hdel⟩,hdi⟩,ht⟩,hok⟩,hni⟩:=q
      obtain ⟨nm,bs,mro,ns,qn,hd,sn,sub,ab,col,del⟩:=cd
      dsimp only at hm hdel hok hni hdi
      subst hm hdel hdi
      have hsl:sl=#[k0,k1,k2,k3,some (.builtin "ValueError.__new__"),k5]:=by
        obtain ⟨l⟩:=sl
        simp only at hs
        rw [hs]
      subst hsl
      have hN:h₀.Ns ns (h₀.nsMap ns):=.of_isNs (isNs_of_in X hok)
      exact ⟨bm,ns,nm,qn,bs,sn,sub,ab,col,dd,k0,k1,k2,k3,k5,_,X _ _ ho,hN,ns_some_of X hN hni,tail_of_in X ht⟩
    . cases q
  . cases q
theorem tail_pass {h:Heap} {bm:List Value} (T:OwnTail h bmV bm) (self:Value):refuseLoop self "__setattr__" bm=pure ():=by
  induction T with
  | base=>exact PySem.F.store_ValueError.passes self
  | own _ _ _ _ ih=>rw [refuseLoop_ref]; exact ih
def excN (e C:Addr):Heap->Prop:=fun h=>∃ oe t0,h.get? e=some oe∧oe.cls=.ref C∧oe.dict=none∧oe.data=.fields #[.ref t0,.none,.none,.none,.bool false,.none]
def excD (e C dx:Addr):Heap->Prop:=fun h=>∃ oe t0,h.get? e=some oe∧oe.cls=.ref C∧oe.dict=some dx∧oe.data=.fields #[.ref t0,.none,.none,.none,.bool false,.none]
theorem excN_ok {P:Program} {w:World} {H:Hp} {h:Heap} {e C:Addr} (x:excN e C h):ObjOk P w H h e (.ext (excN e C)):=by
  refine ⟨x,?_,fun h1 h2 ⟨o1,t1,p1,p2⟩ k=>⟨o1,t1,k o1 p1,p2⟩⟩
  obtain ⟨oe,_,q,_⟩:=x
  exact ⟨oe,q⟩
theorem excD_ok {P:Program} {w:World} {H:Hp} {h:Heap} {e C dx:Addr} (x:excD e C dx h):ObjOk P w H h e (.ext (excD e C dx)):=by
  refine ⟨x,?_,fun h1 h2 ⟨o1,t1,p1,p2⟩ k=>⟨o1,t1,k o1 p1,p2⟩⟩
  obtain ⟨oe,_,q,_⟩:=x
  exact ⟨oe,q⟩
section
variable {X:Cx} {pins:List (Addr × Obj)} {σ:St} {H H1:Hp} {s s1:Shared}
theorem Inv.add {a:Addr} {u:HO} (I:Inv X pins σ H s) (I1:Inv X pins σ H1 s1) (ha:s1.heap.get? a=none) (hn:H a=none) (ok:ObjOk X.prog X.w (upd H a u) s.heap a u):Inv X pins σ (upd H a u) s:=by
  have hne:∀ b o,s1.heap.get? b=some o->b≠a:=fun b o q z=>by subst z; rw [ha] at q; cases q
  have nul:∀ b,b≠a->upd H a u b=H b:=fun b z=>upd_ne z
  refine ⟨I.ok,I.os,I.bare,⟨I.base.keep,I.base.slot,fun b o q n hx=>?_,I.base.there,fun b xs q=>?_,fun b o v q=>?_,fun b ps q=>?_⟩,I.loc,I.cell,?_,fun x c hc=>?_,fun p hp=>?_,fun b v q=>?_,I.len⟩
  . obtain ⟨o',q'⟩:=I1.base.there b o q hx
    rw [nul b (hne b o' q')]; exact I.base.free b o q n hx
  . have z:=I.base.tups b xs q
    rw [nul b (ne_of_none z hn)]; exact z
  . have z:=I.base.frzs b o v q
    rw [nul b (ne_of_none z hn)]; exact z
  . obtain ⟨m,z⟩:=I.base.tbls b ps q
    exact ⟨m,by rw [nul b (ne_of_none z hn)]; exact z⟩
  . obtain ⟨m,⟨o,es,ep,ho,_⟩,_⟩:=I1.loc
    show upd H a _ X.env.locals=none
    rw [nul _ (hne _ _ ho)]; exact I.free
  . obtain ⟨v,o,ho,_⟩:=I1.cell x c hc
    rw [nul _ (hne _ _ ho)]; exact I.freeC x c hc
  . obtain ⟨a1,a2,a3,a4,a5⟩:=I.pin p hp
    exact ⟨a1,by rw [nul _ (hne _ _ (I1.pin p hp).1)]; exact a2,a3,a4,a5⟩
  . by_cases z:b=a
    . subst z
      rw [upd_same] at q
      cases q
      exact ok
    . rw [nul b z] at q
      exact (I.hok b v q).stay (fun _ _ _ r=>r) (fun c r=>by rw [nul c (ne_of_none r hn)]; exact r) fun c xs r=>by rw [nul c (ne_of_none r hn)]; exact r
def tFs (tv:TE):TE:=fun σ H Q=>tv σ H fun x H1=>∃ n:Int,x=.int n∧n.natAbs.log2 < 1920∧∀ z:Str,Q (.str z) H1
theorem pe_fs {c v:Expr} {z:Str} {vp pos:Pos} {tv:TE} (hc:PE X c (tC (.str z))) (hz:z.length≤1000) (hv:PE X v tv):PE X (.JoinedStr [c,.FormattedValue v (-1) none vp] pos) (tFs tv):=by
  intro pins s σ H Q I h
  refine wpAny_JoinedStr ?_
  show wpAny _ _ (eval c X.env) _ _ _
  refine thn (hc pins s σ H (fun x H1=>x=.str z∧H1=H) I ⟨rfl,rfl⟩) fun u s1 ⟨x,H1,I1,rx,ex,eH⟩=>?_
  subst ex eH
  obtain ⟨t,rfl⟩:=(show ∃ t,u=Value.str z t from rx)
  have e0:(Str.empty++z).length=z.length:=by rw [strLen_append]; exact Nat.zero_add _
  refine ⟨z,t,rfl,by rw [e0]; simp only [sizeLine]; omega,?_⟩
  show wpAny _ _ (eval (.FormattedValue v (-1) none vp) X.env) _ _ _
  refine wpAny_FormattedValue_plain (thn (hv pins s1 σ H1 _ I1 h) fun u2 s2 ⟨x2,H2,I2,r2,n,e2,hb,q2⟩=>?_)
  subst e2
  obtain ⟨t2,rfl⟩:=(show ∃ t,u2=Value.int n t from r2)
  have hl:=int_text_fits hb
  refine wpAny_formatField_int hb ⟨_,_,rfl,?_,?_,?_⟩
  . rw [strLen_append,e0]
    have:(Str.ofString (toString n)).length≤3000:=by rw [PySem.ofString_length]; have:=int_text_length_le (k:=1920) (by decide) hb; omega
    simp only [sizeLine]; omega
  . rw [strLen_append,e0]
    have:(Str.ofString (toString n)).length≤3000:=by rw [PySem.ofString_length]; have:=int_text_length_le (k:=1920) (by decide) hb; omega
    simp only [sizeLine]; omega
  . exact ⟨.str _,H2,I2.tok _,⟨_,rfl⟩,q2 _⟩
def tBaseI (C:Addr) (t:TA):TE:=fun σ H Q=>t σ H fun vs H1=>∃ e ws,vs=.ref e::ws∧ws.length≤100∧H1 e=some (.ext (excN e C))∧Q .non (upd H1 e (.ext (excN e C)))
theorem pe_baseI {x:Str} {np apos pos:Pos} {Cc C fI:Addr} {pl:Sem Bool} {a:Expr} {es:List Expr} {t:TA} (Z:Exi X.K C fI) (hg:Gl X x) (hm:X.mg x=some (.ref Cc)) (hr:readsIn X.K Cc (.type "type")=true)
    (hf:findCls X.K (.ref Cc) (.type "type") "__init__" = some (.val (.builtin "ValueError.__init__"))) (hs:specialIn X.K (.ref Cc) "__getattribute__" = some (some (.builtin "type.__getattribute__"))) (ha:PA X (a::es) t) (hdb:(x == ("__debug__":Str))=false:=by decide)
    (hst:starEach (a::es) X.env=(false,eval a X.env)::starEach es X.env:=by rfl) (hpl:(backTo pos (starEach es X.env)).any (·.1)=false:=by rfl)
    (ht:eval (.Call (.Attribute (.Name x np) "__init__" apos) (a::es) [] pos) X.env=(do
      let ov ← eval (.Name x np) X.env
      standAt apos.atName
      let (f,first) ← holding [ov] (getMethod ov "__init__" pl)
      callWith pos f first (backTo pos (starEach (a::es) X.env)) (backToKw pos (keywordEach [] X.env))):=by rfl) :
    PE X (.Call (.Attribute (.Name x np) "__init__" apos) (a::es) [] pos) (tBaseI C t):=by
  intro pins s σ H Q I h
  refine PySem.W.methodCall_KW (pl:=pl) (ld_glob I hg hm ?_ hdb) ht
  refine method_cls I.kIn hs (cls_value I.kIn hr hf rfl ?_)
  have I0:=I.tok (s.toks + 1)
  refine PyProof.Rows.callWith_builtin1 (thn (ha pos pins _ σ H _ I0 h) fun us s1 ⟨vs,H1,I1,r,e,ws,ev,hl,hH,q⟩=>?_) hst hpl
  subst ev
  cases r with
  | cons r1 r2 =>
    obtain rfl:=r1
    obtain ⟨bm,N,nm,qn,bs,sn,sub,ab,col,dd,k0,k1,k2,k3,k5,mN,hC,hN,hi,T⟩:=exi_obj I1.kIn Z.cl
    obtain ⟨⟨oe,t0,he,hc,hdn,hd⟩,_,_⟩:=I1.hok e _ hH
    obtain ⟨hp,g,d,tk,os⟩:=s1
    refine init_exc PySem.F.excBase_ValueError T hC he hc hd (fun h' t0' he' hk'=>?_) (by rw [← r2.length]; simp only [sizeLine]; omega)
    refine ⟨.non,_,I1.write (x:=e) (e:=e) (o:=.ext (excN e C)) (t':=tk) (by rw [hH]; trivial) (.inl rfl) (fun b u z y=>hk' b u z y) ⟨_,he'⟩ (excN_ok ⟨_,t0',he',hc,hdn,rfl⟩),rfl,q⟩
def sExcF (C:Addr) (f:Str) (ta tv:TE):TS:=fun D σ H=>tv σ H fun y H1=>ta σ H1 fun x H2=>∃ e,x=.ref e∧H2 e=some (.ext (excN e C))∧∀ dx,H2 dx=none->dx≠e->D.nx σ (upd (upd H2 e (.ext (excD e C dx))) dx (.xd [(f,y)]))
theorem ps_excF {o value:Expr} {pos pos':Pos} {ta tv:TE} {C fI:Addr} (Z:Exi X.K C fI) (ha:PE X o ta) (hv:PE X value tv) (hs:swapsWith value (some (.Attribute o "by" pos')) pos.line X.env=pure false:=by rfl) :
    PS X (.Assign [.Attribute o "by" pos'] value pos) (sExcF C "by" ta tv):=by
  intro pins s σ H D I h
  refine plainObj_wpAny_Assign_Attribute (thn (hv pins s σ H _ I h) fun u s1 ⟨y,H1,I1,ry,q⟩=>thn (ha pins s1 σ H1 _ I1 q) fun ov s2 ⟨x,H2,I2,rx,e,ex,hH,q2⟩=>?_) hs
  subst ex
  obtain rfl:ov=Value.ref e:=rx
  obtain ⟨bm,N,nm,qn,bs,sn,sub,ab,col,dd,k0,k1,k2,k3,k5,mN,hC,hN,hi,T⟩:=exi_obj I2.kIn Z.cl
  obtain ⟨⟨oe,t0,he,hc,hdn,hd⟩,_,_⟩:=I2.hok e _ hH
  obtain ⟨hp,g,d,tk,os⟩:=s2
  have hfr:H2 hp.objs.size=none:=I2.hok.fresh (Nat.le_refl _)
  have hne:hp.objs.size≠e:=Nat.ne_of_gt (Heap.lt_size he)
  refine setattr_exc I2.kIn hC he hc hdn hd Z.sa Z.by_ (T.hasType (by decide)) (tail_pass T) fun h' tk' he' hn' hk'=>?_
  have I3:=I2.write (x:=e) (e:=e) (o:=.ext (excD e C hp.objs.size)) (h':=h') (t':=tk') (by rw [hH]; trivial) (.inl rfl) (fun b u z y=>hk' b u z y) ⟨_,he'⟩ (excD_ok ⟨_,t0,he',hc,rfl,hd⟩)
  have I4:=I3.add (a:=hp.objs.size) (u:=.xd [("by",y)]) I2 (Heap.get?_none_of_le (Nat.le_refl _)) (by rw [upd_ne hne]; exact hfr) ⟨_,hn',fun f=>?_⟩
  . exact ⟨σ,_,I4,q2 _ hfr hne⟩
  . by_cases z:f = "by"
    . rw [z,if_pos rfl]; exact ry
    . rw [if_neg z]
      have:([("by",y)]:List (Str × V)).lookup f=none:=by simp [List.lookup,beq_eq_false_iff_ne.mpr z]
      rw [this]; trivial
def spIni (C:Addr):Sp:=fun vs H Q _=>∃ e n,vs=[.ref e,.int n]∧H e=some (.ext (excN e C))∧n.natAbs.log2 < 1920∧∀ dx,H dx=none->dx≠e->Q .non (upd (upd H e (.ext (excD e C dx))) dx (.xd [("by",.int n)]))
def tExi (C:Addr) (t:TA):TE:=fun σ H Q=>t σ H fun vs H1=>∃ n:Int,vs=[.int n]∧n.natAbs.log2 < 1920∧∀ e dx,H1 e=none->H1 dx=none->dx≠e->Q (.ref e) (upd (upd H1 e (.ext (excD e C dx))) dx (.xd [("by",.int n)]))
theorem run_exi {C fI:Addr} {fd:FuncData} {k:Nat} {n:Int} {us:List Value} {Q:VK} (Z:Exi X.K C fI) (F:FnOk X.prog X.w X.K X.mg X.base CX0 k fI fd ["self","by"] (spIni C)) (hr:Room (k + 1) X.A) (hb:Binds X.K fd ["self","by"] []) (I:Inv X pins σ H s) (r:Vals [.int n] us) (hn:n.natAbs.log2 < 1920)
    (h:∀ e dx,s.heap.objs.size≤e->H e=none->H dx=none->dx≠e->Q (.ref e) (upd (upd H e (.ext (excD e C dx))) dx (.xd [("by",.int n)]))):wpAny (model X.prog X.w) X.A (call (.ref C) us) (EP X pins σ Q) X.xe s:=by
  obtain ⟨bm,N,nm,qn,bs,sn,sub,ab,col,dd,k0,k1,k2,k3,k5,mN,hC,hN,hi,T⟩:=exi_obj I.kIn Z.cl
  obtain ⟨oI,hfI,hfc⟩:=Option.map_eq_some_iff.mp Z.fn
  have ul:us.length=1:=by rw [← r.length]; rfl
  obtain ⟨hp,g,d,tk,os⟩:=s
  refine call_exi PySem.F.excBase_ValueError T hC hN hi (I.kIn _ _ hfI) hfc (fun h' e hm he=>?_) (by rw [ul]; simp only [sizeLine]; omega)
  obtain ⟨t0,he',_,_⟩:=hm.there
  have hfr:H e=none:=I.hok.fresh he
  have I2:=I.laid (a:=e) (o:=.ext (excN e C)) (h':=h') (t':=tk) hm.keeps he (excN_ok ⟨_,t0,he',rfl,rfl,rfl⟩)
  have r2:Vals (V.ref e::[.int n]) (Value.ref e::us):=.cons rfl r
  have hq:spIni C (V.ref e::[.int n]) (upd H e (.ext (excN e C))) (fun v H2=>v=.non∧Q (.ref e) H2) E0:=⟨e,n,rfl,upd_same,hn,fun dx hdx hne=>⟨rfl,by rw [upd_upd]; exact h e dx he hfr (by rw [← hdx,upd_ne hne]) hne⟩⟩
  have hbt:=hb _ (Value.ref e::us) I2.kIn (by rw [List.append_nil]; show us.length + 1=2; omega)
  rw [List.append_nil] at hbt
  refine wpAny_call (codeAny_mono (F.run _ X.stack _ _ ⟨Value.ref e::us,[]⟩ (Value.ref e::us) _ _ E0 (hr.make C us []) (I2.env0.make C us []) hbt r2 hq) fun r s' hq'=>?_)
  cases r with
  | error e=>exact (show False from hq').elim
  | ok fl =>
    cases fl with
    | ret u =>
      obtain ⟨v,H',I3,rv,ev,q3⟩:=I2.after hq'
      subst ev
      exact ⟨rv,⟨V.ref e,H',I3,rfl,q3⟩⟩
    | next=>exact False.elim hq'
    | brk=>exact False.elim hq'
    | cont=>exact False.elim hq'
end
end L2
set_option Elab.async false
set_option linter.all false
set_option maxRecDepth 100000
namespace L2
open PySem PySem.Spec PyProof.Rows PySem.W
def CXD (P:Program) (w:World):CXT:=fun outer H s E e s'=>∃ ea t cls B H' od,e=.ref ea∧DicAt s'.heap ea od∧Flown P w outer H s (fun c _ H1=>E c od H1) ea t cls B H' s'
theorem raiseStmt_exc {M:Model} {A:Around} {E:Value->Shared->Prop} {s:Shared} {env:Env} {x:Sem Value} {Q:Flow->Shared->Prop} {K:Frag} {C fI:Addr} (Z:Exi K C fI) (hh:A.handled=none)
    (h:wpAny M A x (fun v s1=>K.In s1.heap∧∃ e oe t0,v=.ref e∧s1.heap.get? e=some oe∧oe.cls=.ref C∧oe.data=.fields #[.ref t0,.none,.none,.none,.bool false,.none]∧E (.ref e) s1) E s):wpAny M A (raiseStmt env (some x) none) Q E s:=by
  unfold raiseStmt
  refine wpAny_bind (wpAny_mono h (fun v s1 h1=>?_) fun _ _ x=>x)
  obtain ⟨hK,e,⟨oc,od,odt,osl⟩,t0,rfl,he,hc,hd,hE⟩:=h1
  dsimp only at hc hd
  subst hc hd
  obtain ⟨bm,N,nm,qn,bs,sn,sub,ab,col,dd,k0,k1,k2,k3,k5,mN,hC,hN,hi,T⟩:=exi_obj hK Z.cl
  have hcB:(Value.ref C::bm).contains (.type "BaseException")=true:=by rw [List.contains_cons,T.hasType (b:=true) (by decide),Bool.or_true]
  obtain ⟨hp,g,d,tk,os⟩:=s1
  repeat (first | with_reducible refine wpAny_loadPart_at he ?_ | with_reducible refine wpAny_loadPart_at hC ?_ | (with_reducible refine wpAny_isSubtype_exc hC ?_; rw [hcB]) | wp_step)
  exact wpAny_raiseNew_none hh hE
section
variable {X:Cx}
def RaiseD (X:Cx) (C:Addr) (W:Addr->Hp->Prop):Prop:=∀ (pins:List (Addr × Obj)) (σ:St) (H:Hp) (s s1:Shared) (H1:Hp) (e dx:Addr) (u:HO),Inv X pins σ H1 s1->s1.heap.objs.size≤e->H1 e=none->H1 dx=none->dx≠e->Inv X pins σ (upd (upd H1 e (.ext (excD e C dx))) dx u) s->W dx (upd H1 dx u)->X.xe (.ref e) s
def tRaiseD (W:Int->Addr->Hp->Prop) (t:TA):TS:=fun _ σ H=>t σ H fun vs H1=>∃ n:Int,vs=[.int n]∧n.natAbs.log2 < 1920∧∀ dx,H1 dx=none->W n dx (upd H1 dx (.xd [("by",.int n)]))
theorem ps_raiseD {x:Str} {C fI:Addr} {fd:FuncData} {k:Nat} {np cpos pos:Pos} {a:Expr} {t:TA} {W:Addr->Hp->Prop} (Z:Exi X.K C fI) (F:FnOk X.prog X.w X.K X.mg X.base CX0 k fI fd ["self","by"] (spIni C)) (hr:Room (k + 1) X.A) (hb:Binds X.K fd ["self","by"] [])
    (hc:X.calm=true) (hg:Gl X x) (hm:X.mg x=some (.ref C)) (hx:RaiseD X C W) (ha:PA X [a] t) (hdb:(x == ("__debug__":Str))=false:=by decide)
    (he:starEach [a] X.env=(false,eval a X.env)::starEach [] X.env:=by rfl) (hpl:(backTo cpos (starEach [] X.env)).any (·.1)=false:=by rfl) :
    PS X (.Raise (some (.Call (.Name x np) [a] [] cpos)) none pos) (tRaiseD (fun _=>W) t):=by
  intro pins s σ H D I h
  rw [arm_exec_Raise]
  refine wpAny_bind (wpAny_standAt (raiseStmt_exc Z (I.ok.hd hc) ?_))
  refine wpAny_bind (wpAny_mono (?_:wpAny _ _ (eval (.Call (.Name x np) [a] [] cpos) X.env) _ _ _) (fun v s3 h3=>wpAny_bind (wpAny_standAt (wpAny_pure h3))) fun _ _ x=>x)
  refine wpAny_Call_Name_kw (ld_glob I hg hm ?_ hdb)
  refine PySem.W.callWith_K (h₀:=X.base) I.ok.mod.kin Z.kp (thn (ha cpos pins s σ H _ I h) fun us s1 ⟨vs,H1,I1,r,n,ev,hn,q⟩=>⟨I1.kIn,?_⟩) he hpl
  subst ev
  refine thn (run_exi (Q:=fun x H2=>∃ e dx,x=.ref e∧s1.heap.objs.size≤e∧H1 e=none∧H1 dx=none∧dx≠e∧H2=upd (upd H1 e (.ext (excD e C dx))) dx (.xd [("by",.int n)])) Z F hr hb I1 r hn fun e dx z1 z2 z3 z4=>⟨e,dx,rfl,z1,z2,z3,z4,rfl⟩) fun v s2 ⟨y,H2,I2,ry,e,dx,ey,z1,z2,z3,z4,eH⟩=>?_
  subst ey eH
  obtain rfl:v=Value.ref e:=ry
  obtain ⟨⟨oe,t0,ho,hoc,hod,hda⟩,_,_⟩:=I2.hok e (.ext (excD e C dx)) (by rw [upd_ne (Ne.symm z4),upd_same])
  exact ⟨I2.kIn,e,oe,t0,rfl,ho,hoc,hda,hx pins σ H s2 s1 H1 e dx _ I1 z1 z2 z3 z4 I2 (q dx z3)⟩
theorem raiseD_leave {P:Program} {w:World} {K:PySem.W.Frag} {mg:Str->Option Value} {base:Heap} {N:List Str} {qual:Str} {scope:Scope} {f:Addr} {cd:Value} {A:Around} {outer:List Env} {s₀:Shared} {H₀:Hp} {E:XK} {C:Addr}
    (hex:(envOfC qual scope s₀.heap.objs.size f cd).frame=some s₀.heap.objs.size):RaiseD (cxOf (CXD P w) P w K mg base N qual scope f cd A outer s₀ H₀ E) C (fun dx H'=>E (.ref C) (some dx) H'):=by
  intro pins σ _ s s1 H1 e dx u I1 hsz he hdx hne I hw
  have noA:∀ b:Addr,b ∉ (cxOf (CXD P w) P w K mg base N qual scope f cd A outer s₀ H₀ E).ex:=fun b z=>absurd (show b∈([]:List Addr) from z) (by simp)
  have hst:=I.stack
  have frL:(cxOf (CXD P w) P w K mg base N qual scope f cd A outer s₀ H₀ E).stack=envOfC qual scope s₀.heap.objs.size f cd::outer:=rfl
  rw [frL] at hst
  have hfr:=I.ok.frames
  have hin:∀ env∈(envOfC qual scope s₀.heap.objs.size f cd::outer),∀ b,env.frame=some b->b∈e::frs (envOfC qual scope s₀.heap.objs.size f cd::outer):=fun env he b hb=>List.mem_cons_of_mem _ (List.mem_filterMap.mpr ⟨env,he,hb⟩)
  have noH:∀ b∈frs (envOfC qual scope s₀.heap.objs.size f cd::outer),(upd (upd H1 e (.ext (excD e C dx))) dx u) b=none:=fun b hb=>I.stkFree b hb
  have hHe:(upd (upd H1 e (.ext (excD e C dx))) dx u) e=some (.ext (excD e C dx)):=by rw [upd_ne (Ne.symm hne),upd_same]
  have old:∀ b o,s₀.heap.get? b=some o->b≠e:=fun b o q z=>by
    obtain ⟨o',q'⟩:=I1.base.there b o q (noA b)
    exact absurd (Nat.lt_of_lt_of_le (Heap.lt_size q') hsz) (by rw [z]; exact Nat.lt_irrefl _)
  have back:∀ b,b≠e->upd H1 dx u b=(upd (upd H1 e (.ext (excD e C dx))) dx u) b:=fun b z=>by
    by_cases y:b=dx
    . subst y; rw [upd_same,upd_same]
    . rw [upd_ne y,upd_ne y,upd_ne z]
  obtain ⟨⟨oe,t0,ho,hoc,hod,hda⟩,_,_⟩:=I.hok e _ hHe
  have enf:e ∉ frs (envOfC qual scope s₀.heap.objs.size f cd::outer):=fun z=>by have:=noH e z; rw [hHe] at this; cases this
  show wpAny _ _ (leaving _ (.ref e)) _ _ _
  refine leaveD (base:=PySem.W.hideAll s.heap (e::frs (envOfC qual scope s₀.heap.objs.size f cd::outer))) hfr (PySem.W.funFrames_hide hst hin) hex ho (fun b o q=>PySem.W.of_hideAll _ q) (PySem.W.hideAll_none _ List.mem_cons_self) hda rfl rfl rfl fun h2 x1 x2 x4=>?_
  rw [hoc] at x1
  rw [hod] at x2
  have sub:∀ b∈frs outer,b∈frs (envOfC qual scope s₀.heap.objs.size f cd::outer):=fun b hb=>by
    obtain ⟨env,he,hf⟩:=List.mem_filterMap.mp hb
    exact List.mem_filterMap.mpr ⟨env,List.mem_cons_of_mem _ he,hf⟩
  have out:∀ b o,s₀.heap.get? b=some o->b ∉ frs outer->b ∉ e::frs (envOfC qual scope s₀.heap.objs.size f cd::outer):=fun b o q hb hm=>by
    rcases List.mem_cons.mp hm with z | hm
    . exact old b o q z
    obtain ⟨env,he,hf⟩:=List.mem_filterMap.mp hm
    rcases List.mem_cons.mp he with rfl | he
    . rw [hex] at hf
      cases hf
      exact absurd (Heap.lt_size q) (Nat.lt_irrefl _)
    . exact hb (List.mem_filterMap.mpr ⟨env,he,hf⟩)
  refine ⟨e,t0,.ref C,_,upd H1 dx u,some dx,rfl,x2,⟨I.os,I.bare,x1,fun b o q n hb=>?_,fun b o q hb=>?_,fun b o q hb n=>?_,fun b o q n=>?_,fun b xs q=>?_,fun b o v q=>?_,fun b ps q=>?_,fun b v q=>?_,hw⟩⟩
  . exact PySem.W.hideAll_get _ (I.base.keep b o q n hb (noA b)) (out b o q hb)
  . obtain ⟨o',q'⟩:=I.base.there b o q (noA b)
    exact ⟨o',PySem.W.hideAll_get _ q' (out b o q hb)⟩
  . obtain ⟨sl,q'⟩:=I.base.slot b o q n hb (noA b)
    obtain ⟨_,o2,q2,hd⟩:=hst.mem (sub b hb)
    rw [q'] at q2
    cases q2
    obtain ⟨sl',q3⟩:=x4 b _ q' hd
    exact ⟨sl',q3⟩
  . rw [back b (old b o q)]; exact I.base.free b o q n (noA b)
  . have z:=I.base.tups b xs q
    rw [back b (fun y=>by rw [y,hHe] at z; cases z)]; exact z
  . have z:=I.base.frzs b o v q
    rw [back b (fun y=>by rw [y,hHe] at z; cases z)]; exact z
  . obtain ⟨m,z⟩:=I.base.tbls b ps q
    exact ⟨m,by rw [back b (fun y=>by rw [y,hHe] at z; cases z)]; exact z⟩
  . have hbe:b≠e:=fun z=>by rw [z,upd_ne (Ne.symm hne),he] at q; cases q
    rw [back b hbe] at q
    refine (I.hok b v q).stay (fun c v' hc q'=>PySem.W.hideAll_get _ q' fun hm=>?_) (fun c z=>?_) fun c xs z=>?_
    . rcases List.mem_cons.mp hm with y | hm
      . rcases hc with z | z
        . exact hbe (z.symm.trans y)
        . rw [y,hHe] at z; cases z
      . have hn:=noH c hm
        rcases hc with z | z
        . rw [z,q] at hn; cases hn
        . rw [z] at hn; cases hn
    . rw [back c (fun y=>by rw [y,hHe] at z; cases z)]; exact z
    . rw [back c (fun y=>by rw [y,hHe] at z; cases z)]; exact z
end
end L2
set_option Elab.async false
set_option linter.all false
set_option maxRecDepth 100000
namespace L2
open PySem PySem.Spec PyProof.Rows PySem.W Builtin Builtin.ObjectAttr
structure ExcF (K:Frag) (D:Addr) (f:Str):Prop where
  ga:findIn K (.ref D) "__getattribute__" = some (some (.builtin "BaseException.__getattribute__"))
  gn:findIn K (.ref D) "__getattr__" = some none
  sub:subIn K (.ref D) (.type "BaseException")=some true
  hd:hasDictIn K D=true
  no:findIn K (.ref D) f=some none
section
variable {prog:Program} {w:World} {A:Around} {E:Value->Shared->Prop} {K:Frag} {a D dx:Addr} {o:Obj} {vs:Array Value} {h:Heap} {g:Array GenState} {d:Drawn} {t:Nat} {os:OsState} {mA:Str->Option Value} {f:Str} {v:Value}
theorem exc_fld {expr:Bool} {Q:Value->Shared->Prop} (X:K.In h) (hx:h.get? a=some o) (hc:o.cls=.ref D) (hdx:o.dict=some dx) (hda:o.data=.fields vs) (hn:h.Ns1 dx mA) (hv:mA f=some v) (hh:handedIn v=true) (Z:ExcF K D f) (hq:Q v ⟨h,g,d,t + 1,os⟩) :
    wpAny (model prog w) A (getAttr (.ref a) f expr) Q E ⟨h,g,d,t,os⟩:=by
  obtain ⟨od,ho,hl⟩:=lookIn_ns hn
  have I:InstAt h a o D (some od):=⟨hx,hc,by unfold notCls; rw [hda],by rw [hdx]; exact ho⟩
  have L0:=exc_type hx hc (model prog w)
  have L1:=looks_findIn (M:=model prog w) X Z.ga
  have L2:=looks_findIn (M:=model prog w) X Z.gn
  have LF:=looks_find (M:=model prog w) X I (findObj_own Z.hd Z.no rfl (by rw [hl,hv]))
  unfold getAttr getAttrBy
  refine wpAny_bind (wpAny_mkText (wpAny_holding (wpAny_bind (L0.at (wpAny_bind (L1.at ?_))))))
  dsimp only
  rw [show (onTheHeap (Value.ref D) && Value.builtin "BaseException.__getattribute__" == Value.builtin "object.__getattribute__")=false from by rw [show (Value.builtin "BaseException.__getattribute__" == Value.builtin "object.__getattribute__")=false from by decide +kernel,Bool.and_false],if_neg (by decide)]
  unfold getAttrByItsOwn hookBefore
  rw [if_pos (show onTheHeap (Value.ref D)=true from rfl)]
  refine wpAny_bind (L2.at ?_)
  have hck:∀ {Q':Unit->Shared->Prop} {E':Value->Shared->Prop} {A':Around} {nv:Value} {t':Nat},Q' () ⟨h,g,d,t',os⟩->wpAny (model prog w) A' (checkBuiltinCall "BaseException.__getattribute__" ⟨[.ref a,nv],[]⟩) Q' E' ⟨h,g,d,t',os⟩:=fun {Q' E' A' nv t'} q'=>by
    have L5:=looks_subIn (M:=model prog w) X Z.sub
    have hk:builtinKind "BaseException.__getattribute__" = some .slot:=by decide +kernel
    have hsplit:splitId "BaseException.__getattribute__" = some ("BaseException","__getattribute__"):=by decide +kernel
    have ha:=F.args_bexc_ga (.ref a) nv
    have LI:Looks (model prog w) h (isInstance (.ref a) (.type "BaseException")) true:=L0.andThen L5
    simp only [checkBuiltinCall,hk,hsplit]
    refine wpAny_bind ?_
    repeat (first | with_reducible refine Looks.at (by assumption) ?_ | wp_step)
    exact q'
  have f3:=F.attr_ValueError.ga.bind (.ref a)
  refine wpAny_bind (wpAny_attempt (wpAny_holding ?_))
  unfold callGetattribute
  rw [show (expr && onTheHeap (Value.builtin "BaseException.__getattribute__"))=false from by cases expr <;> rfl,if_neg (by decide)]
  unfold boundAndCalled
  rw [f3]
  refine wpAny_bind (wpAny_pure ?_)
  refine wpAny_call (codeAny_call_builtin F.attr_ValueError.ga.plain F.entry_bexc_ga (hck ?_))
  unfold Builtin.«object.__getattribute__»
  repeat (first | with_reducible refine LF.at ?_ | lk)
  exact handed_on hh hq
end
abbrev XED:=St->Value->Option Addr->Hp->Prop
abbrev TXD:=XED->TS
abbrev TEXD:=XED->TE
def XPD (X:Cx) (pins:List (Addr × Obj)) (E:XED) (ev:Value) (s':Shared):Prop :=
  ∃ (ea t:Addr) (cls:Value) (B:Heap) (H':Hp) (s1:Shared) (H1:Hp) (σ1:St) (od:Option Addr),ev=.ref ea∧Inv X pins σ1 H1 s1∧DicAt s'.heap ea od∧Flown X.prog X.w X.stack H1 s1 (fun cls _ H'=>E σ1 cls od H') ea t cls B H' s'
def PXD (X:Cx) (st:Stmt) (t:TXD):Prop :=
  ∀ (pins:List (Addr × Obj)) (s:Shared) (σ:St) (H:Hp) (D:Ends) (E:XED),Inv X pins σ H s->t E D σ H->wpAny (model X.prog X.w) X.A (exec st X.env) (SP X pins D) (XPD X pins E) s
def PXDs (X:Cx) (st:List Stmt) (t:TXD):Prop :=
  ∀ (pins:List (Addr × Obj)) (s:Shared) (σ:St) (H:Hp) (D:Ends) (E:XED),Inv X pins σ H s->t E D σ H->wpAny (model X.prog X.w) X.A (execs st X.env) (SP X pins D) (XPD X pins E) s
def PEXD (X:Cx) (e:Expr) (t:TEXD):Prop :=
  ∀ (pins:List (Addr × Obj)) (s:Shared) (σ:St) (H:Hp) (Q:VK) (E:XED),Inv X pins σ H s->t E σ H Q->wpAny (model X.prog X.w) X.A (eval e X.env) (EP X pins σ Q) (XPD X pins E) s
def tIfXD (c:TT) (t u:TXD):TXD:=fun E=>tIfS c (t E) (u E)
def tDropXD (te:TEXD):TXD:=fun E=>tDrop (te E)
def tMethD (C:Addr) (m:Str) (sp:Sp) (dvs:List V) (ta:TE) (t:TA):TEXD:=fun E σ H Q=>ta σ H fun x H1=>∃ a dx fs,x=.ref a∧H1 a=some (.ins C dx fs)∧fs.lookup m=none ∧
  t σ H1 fun vs H2=>sp (x::(vs++dvs)) H2 Q (fun cls od H3=>E σ cls od H3)
section
variable {X:Cx} {st:Stmt} {rest:List Stmt} {t u:TXD} {pos:Pos}
theorem pxd_one (h1:PXD X st t):PXDs X [st] t:=by
  intro pins s σ H D E I h
  refine wpAny_execs_cons (thn (h1 pins s σ H D E I h) fun f s1 q=>?_)
  cases f with
  | next=>exact wpAny_execs_nil q
  | ret v=>exact q
  | brk=>exact q
  | cont=>exact q
theorem pxd_if {c:Expr} {a b:List Stmt} {tc:TT} (hxe:X.xe=fun _ _=>False) (hc:PT X c tc) (ha:PXDs X a t) (hb:PXDs X b u):PXD X (.If c a b pos) (tIfXD tc t u):=by
  intro pins s σ H D E I h
  refine wpAny_If (wpAny_mono (hc pins s σ H _ I h) (fun d s1 ⟨H1,I1,q1⟩=>?_) fun _ _ z=>by rw [hxe] at z; exact z.elim)
  cases d with
  | true=>exact ha pins s1 σ H1 D E I1 q1
  | false=>exact hb pins s1 σ H1 D E I1 q1
theorem pxd_expr {e:Expr} {te:TEXD} (he:PEXD X e te) (hs:swapsWith e none pos.line X.env=pure false:=by rfl):PXD X (.Expr e pos) (tDropXD te):=by
  intro pins s σ H D E I h
  exact wpAny_Expr_any (thn (he pins s σ H _ E I h) fun v s1 ⟨x,H1,I1,r1,q1⟩=>⟨σ,H1,I1,q1⟩) I.quiet hs
theorem pexd_mdef {pl:Sem Bool} {k:Nat} {C:Addr} {m:Str} {ps:List Str} {dvs:List V} {sp:Sp} {o e:Expr} {es:List Expr} {ta:TE} {t:TA} {apos:Pos} (hxe:X.xe=fun _ _=>False) (D:MDef X.prog X.w X.K X.mg X.base (CXD X.prog X.w) k C m ps dvs sp) (he:PE X o ta) (hr:Room k X.A) (ha:PA X (e::es) t)
    (hst:starEach (e::es) X.env=(false,eval e X.env)::starEach es X.env:=by rfl) (hpl:(backTo pos (starEach es X.env)).any (·.1)=false:=by rfl)
    (ht:eval (.Call (.Attribute o m apos) (e::es) [] pos) X.env=(do
      let ov ← eval o X.env
      standAt apos.atName
      let (f,first) ← holding [ov] (getMethod ov m pl)
      callWith pos f first (backTo pos (starEach (e::es) X.env)) (backToKw pos (keywordEach [] X.env))):=by rfl) :
    PEXD X (.Call (.Attribute o m apos) (e::es) [] pos) (tMethD C m sp dvs ta t):=by
  obtain ⟨f,fd,ds,F,c,hm,b,hd⟩:=D.ex
  intro pins s σ H Q E I h
  have no:∀ (ev:Value) (s':Shared),X.xe ev s'->XPD X pins E ev s':=fun ev s' z=>by rw [hxe] at z; exact z.elim
  refine PySem.W.methodCall_KW (pl:=pl) (wpAny_mono (he pins s σ H _ I h) (fun u s1 ⟨x,H1,I1,rx,a,dx,fs,ex,ea,l,q⟩=>?_) no) ht
  subst ex
  obtain rfl:u=Value.ref a:=rx
  refine getmeth_ok I1 ea c hm l ?_
  refine PySem.W.callWith_K (first:=[.ref a]) (h₀:=X.base) I.ok.mod.kin hm.kp (wpAny_mono (ha pos pins s1 σ H1 _ I1 q) (fun us s2 ⟨vs,H2,I2,r,q2⟩=>⟨I2.kIn,?_⟩) no) hst hpl
  have r2:Vals (V.ref a::(vs++dvs)) (Value.ref a::(us++ds)):=.cons rfl (r.append hd)
  have hl:(Value.ref a::us++ds).length=ps.length:=by
    have e:=r2.length
    rw [F.len _ _ _ _ q2] at e
    exact e.symm
  refine wpAny_call (codeAny_mono (F.run X.A X.stack s2 H2 ⟨Value.ref a::us,[]⟩ (Value.ref a::(us++ds)) (V.ref a::(vs++dvs)) Q _ hr I2.env0 (b s2 (Value.ref a::us) I2.kIn hl) r2 q2) fun r s' hq=>?_)
  cases r with
  | ok fl =>
    cases fl with
    | ret u=>exact I2.after hq
    | next=>exact False.elim hq
    | brk=>exact False.elim hq
    | cont=>exact False.elim hq
  | error ev =>
    obtain ⟨ea,t',cls,B,H3,od,rfl,dc,fl⟩:=hq
    exact ⟨ea,t',cls,B,H3,s2,H2,σ,od,rfl,I2,dc,fl⟩
end
end L2
set_option Elab.async false
set_option linter.all false
set_option maxRecDepth 100000
namespace Mir
open PySem L2
section
variable [Zc] [Zl] {W:WX}
def ErF (E:XK) (x:Xc) (H:Hp):Prop:=match x.by_ with
  | none=>E (Zl.cl x.c) none H
  | some n=>∀ dx,H dx=none->E (Zl.cl x.c) (some dx) (upd H dx (.xd [("by",.int n)]))
def spF (f:FN):Sp:=fun vs H Q E=>∃ A B S xs w,Same B H∧(∀ q xs,H q=some (.tup xs)->B q=some (.tup xs))∧StO A B H S∧RepVs A B vs xs∧f S xs=some w ∧
  match w with
  | .ok r S'=>∀ v A' B' H',PostN A B H A' B' H' S' v r->Q v H'
  | .er x S'=>∀ A' B' H',PostN A B H A' B' H' S' .non (.pl .none)->ErF E x H'
theorem fn_runF {n k:Nat} {b:SN} {t:TS} {N:List Str} {vs:List V} {H:Hp} {Q:VK} {E:XK} (hb:NS (fun x _ H=>ErF E x H) t b) (hN:N.length=n + k) (h:spF (fnS n k b) vs H Q E):t { nx:=fun _ H'=>Q .non H',rt:=Q } (L2.start N vs) H:=by
  obtain ⟨A,B,S,xs,w0,sub,tB,O,rv,e,q⟩:=h
  unfold fnS at e
  split at e
  case isFalse=>cases e
  rename_i hl
  obtain ⟨w,e1,e2⟩:=Option.bind_eq_some_iff.mp e
  have R:=start_rel (k:=k) sub tB O rv hl hN
  refine hb _ A B H _ _ w _ R e1 ?_
  have hn:A.length≤S.length:=Nat.le_of_eq O.len
  cases w with
  | nx s'=>cases e2; exact fun A' B' H' σ' R'=>(let ⟨A2,p⟩:=post_low hn R' (.pl .non) rfl; q _ A2 B' H' p)
  | bk s'=>cases e2
  | ct s'=>cases e2
  | er x s'=>cases e2; exact fun A' B' H' σ' R'=>(let ⟨A2,p⟩:=post_low hn R' (.pl .non) rfl; q A2 B' H' p)
  | rt r' s' =>
    simp only [retS] at e2
    split at e2
    . rename_i hbl
      cases e2
      exact fun v A' B' H' σ' R' V'=>(let ⟨A2,p⟩:=post_low hn R' V' hbl; q v A2 B' H' p)
    . cases e2
      exact fun v A' B' H' σ' R' V'=>q v A' B' H' (post_of R' V')
theorem spF_len {n k:Nat} {b:SN} {vs:List V} {H:Hp} {Q:VK} {E:XK} (h:spF (fnS n k b) vs H Q E):vs.length=n:=by
  obtain ⟨A,B,S,xs,w,sub,tB,O,rv,e,q⟩:=h
  unfold fnS at e
  split at e
  . rename_i hl; exact rv.length.trans hl
  . cases e
def nRaiseD (c:Str) (m:MN (List SV)):SN:=bS m fun xs s=>match xs with
  | [.pl (.int n)]=>if n.natAbs.log2 < 1920 then some (.er ⟨c,some n⟩ s) else none
  | _=>none
theorem ns_raiseD {c:Str} {W':Addr->Hp->Prop} {t:TA} {m:MN (List SV)} (h:NA W t m) (hw:∀ n σ H,W ⟨c,some n⟩ σ H->∀ dx,H dx=none->W' dx (upd H dx (.xd [("by",.int n)]))):NS W (tRaiseD (fun _=>W') t) (nRaiseD c m):=by
  intro G A B H σ s o D R e q
  refine ns_use (t:=t) h R e q fun vs xs A1 B1 H1 s1 R1 V1 e1=>?_
  split at e1
  . rename_i n
    split at e1
    . rename_i hz
      cases e1
      cases V1 with
      | cons r1 r2 =>
        cases r2
        cases r1 with
        | pl r1 =>
          cases r1
          exact ⟨n,rfl,hz,hw n σ H1 (q A1 B1 H1 σ R1)⟩
    . cases e1
  . cases e1
def ErS (E:XED) (x:Xc) (σ:St) (H:Hp):Prop:=match x.by_ with
  | none=>E σ (Zl.cl x.c) none H
  | some n=>∀ dx,H dx=none->E σ (Zl.cl x.c) (some dx) (upd H dx (.xd [("by",.int n)]))
def NXF (t:TXD) (m:SN):Prop:=∀ E:XED,NS (ErS E) (t E) m
def NEXF (t:TEXD) (m:EN):Prop:=∀ E:XED,NE (ErS E) (t E) m
theorem nxf_if {tc:TT} {t u:TXD} {c:MN Bool} {a b:SN} (hc:∀ W:WX,NT W tc c) (ha:NXF t a) (hb:NXF u b):NXF (tIfXD tc t u) (nIfS c a b):=fun E=>ns_if (hc _) (ha E) (hb E)
theorem nxf_drop {t:TEXD} {m:EN} (h:NEXF t m):NXF (tDropXD t) (nDrop m):=fun E=>ns_drop (h E)
theorem call_endF {f:FN} {G:FrN} {A:List Addr} {B H:Hp} {σ:St} {s:SS} {vs:List V} {xs:List SV} {r0:RR SV} {Q:VK} {E:XED} (R:RelN G A B H σ s) (V:RepVs A B vs xs) (e:((f s.S xs).map fun w=>frR w s.t)=some r0) (q:ROk G A B σ (ErS E) RepV Q r0):spF f vs H Q (fun cls od H3=>E σ cls od H3):=by
  obtain ⟨w,e2,e3⟩:=Option.map_eq_some_iff.mp e
  refine ⟨A,B,s.S,xs,w,R.sub,R.tupB,R.st,V,e2,?_⟩
  cases w with
  | ok r S' =>
    cases e3
    exact fun v A' B' H' P=>q v A' B' H' P.gro P.eB (R.post P) P.val
  | er x S' =>
    cases e3
    exact fun A' B' H' P=>q A' B' H' (R.post P)
theorem nexf_meth {C:Addr} {mn:Str} {f:FN} {dv:List D} {dvs:List V} {ta:TE} {t:TA} {a:EN} {m:MN (List SV)} (hd:∀ B,Reps B dvs dv) (ha:∀ W:WX,NE W ta a) (h:∀ W:WX,NA W t m):NEXF (tMethD C mn (spF f) dvs ta t) (nMeth C mn f dv a m):=by
  intro E G A B H σ s r0 Q R e q
  refine nm_use (t:=ta) (ha _) R e q fun x v A1 B1 H1 s1 g1 eB1 R1 V1 e1 q1=>?_
  split at e1
  . rename_i k
    obtain ⟨y,e2,e3⟩:=Option.bind_eq_some_iff.mp e1
    split at e3
    . rename_i hz
      obtain ⟨rfl,hz⟩:=hz
      cases V1 with
      | lc hA =>
        cases R1.st.cell k _ _ (objAt_eq e2) hA with
        | obj h1 h2 h3 =>
          refine ⟨_,_,_,rfl,h1,h3.noLook hz,?_⟩
          refine nm_use (t:=t) (h _) R1 e3 q1 fun vs xs A2 B2 H2 s2 g2 eB2 R2 V2 e4 q2=>?_
          exact call_endF R2 (.cons (.lc (g2 _ _ hA)) (V2.append (hd B2).plV)) e4 q2
    . cases e3
  . cases e1
theorem RelN.junk {G:FrN} {A:List Addr} {B H:Hp} {σ:St} {s:SS} (R:RelN G A B H σ s) {e:Addr} {u:HO} (he:H e=none) (ht:∀ xs,u≠.tup xs) (hz:∀ o v,u≠.frz o v):RelN G A B (upd H e u) σ s:=by
  have eH:Same H (upd H e u):=fun q w h=>by rw [upd_ne (fun z=>by rw [z,he] at h; cases h)]; exact h
  exact R.grow (Same.refl _) eH (R.sub.trans eH) (fun _ _ z=>z) (fun q xs h=>by
    by_cases z:q=e
    . subst z; rw [upd_same] at h; cases h; exact absurd rfl (ht xs)
    . rw [upd_ne z] at h; exact R.tupB q xs h) fun q o w h=>by
    by_cases z:q=e
    . subst z; rw [upd_same] at h; cases h; exact absurd rfl (hz o w)
    . rw [upd_ne z] at h; exact R.nz q o w h
end
end Mir
namespace L2
open PySem PySem.Spec PyProof.Rows
section
variable {P:Program} {w:World} {K:PySem.W.Frag} {mg:Str->Option Value} {base:Heap}
theorem Mem.okD {x qual:Str} {st:Stmt} {f:Addr} {fd:FuncData} {dv:List V} {N ps:List Str} {k:Nat} {sp:Sp} (F:Mem K x qual st f fd dv) (S:FnScope N ps (defScope st)) (len:∀ vs H Q E,sp vs H Q E->vs.length=ps.length)
    (hbody:∀ (cdv:Value) (A:Around) (outer:List Env) (s:Shared) (H:Hp) (vs:List V) (Q:VK) (E:XK),Room k (A.deeper (envOfC qual (defScope st) s.heap.objs.size f cdv))->sp vs H Q E ->
      ∃ t,PSs (cxOf (CXD P w) P w K mg base N qual (defScope st) f cdv A outer s H E) (defBody st) t∧t { nx:=fun _ H'=>Q .non H',rt:=Q } (start N vs) H):FnOk P w K mg base (CXD P w) (k + 1) f fd ps sp:=by
  obtain ⟨oc,od,dV,kV,doc,pm,an,cdv,ct,osl,rfl,lk,hcd,_⟩:=F.ex
  exact fn_of lk hcd S len fun A outer s H vs Q E hr hsp=>hbody cdv A outer s H vs Q E hr hsp
end
end L2
set_option Elab.async false
set_option linter.all false
set_option maxRecDepth 100000
namespace L2
open PySem PySem.Spec PyProof.Rows PySem.W
def tIni (C:Addr):TS:=tSeq (tDrop (tBaseI C (tCons (tVar 0) (tCons (tFs (tVar 1)) tNil)))) (sExcF C "by" (tVar 0) (tVar 1))
theorem spIni_len {C:Addr} {vs:List V} {H:Hp} {Q:VK} {E:XK} (h:spIni C vs H Q E):vs.length=2:=by
  obtain ⟨e,n,rfl,_⟩:=h
  rfl
theorem ini_run {C:Addr} {vs:List V} {H:Hp} {Q:VK} {E:XK} (h:spIni C vs H Q E):tIni C { nx:=fun _ H'=>Q .non H',rt:=Q } (start ["self","by"] vs) H:=by
  obtain ⟨e,n,rfl,hH,hn,q⟩:=h
  refine ⟨.ref e,rfl,.int n,rfl,n,rfl,hn,fun z=>⟨e,[.str z],rfl,by simp,hH,?_⟩⟩
  refine ⟨.int n,rfl,.ref e,rfl,e,rfl,upd_same,fun dx hdx hne=>?_⟩
  rw [upd_upd]
  exact q dx (by rw [← hdx,upd_ne hne]) hne
end L2
set_option Elab.async false
set_option linter.all false
set_option maxRecDepth 100000
namespace L2
open PySem PySem.Spec PyProof.Rows PySem.W
theorem raiseOk_leaveD {P:Program} {w:World} {K:PySem.W.Frag} {mg:Str->Option Value} {base:Heap} {N:List Str} {qual:Str} {scope:Scope} {f:Addr} {cd:Value} {A:Around} {outer:List Env} {s₀:Shared} {H₀:Hp} {E:XK} {cls:Value}
    (hex:(envOfC qual scope s₀.heap.objs.size f cd).frame=some s₀.heap.objs.size):RaiseOk (cxOf (CXD P w) P w K mg base N qual scope f cd A outer s₀ H₀ E) cls (fun H'=>E cls none H'):=by
  intro pins σ H s e h' vs I hx hw
  have noA:∀ b:Addr,b ∉ (cxOf (CXD P w) P w K mg base N qual scope f cd A outer s₀ H₀ E).ex:=fun b z=>absurd (show b∈([]:List Addr) from z) (by simp)
  have hst:=I.stack
  have frL:(cxOf (CXD P w) P w K mg base N qual scope f cd A outer s₀ H₀ E).stack=envOfC qual scope s₀.heap.objs.size f cd::outer:=rfl
  rw [frL] at hst
  have hfr:=I.ok.frames
  have hin:∀ env∈(envOfC qual scope s₀.heap.objs.size f cd::outer),∀ b,env.frame=some b->b∈frs (envOfC qual scope s₀.heap.objs.size f cd::outer):=fun env he b hb=>List.mem_filterMap.mpr ⟨env,he,hb⟩
  have noH:∀ b∈frs (envOfC qual scope s₀.heap.objs.size f cd::outer),H b=none:=fun b hb=>I.stkFree b hb
  obtain ⟨t0,ho,htn,ht⟩:=hx.there
  have hk:∀ b o,(PySem.W.hideAll s.heap (frs (envOfC qual scope s₀.heap.objs.size f cd::outer))).get? b=some o->s.heap.get? b=some o:=fun b o q=>PySem.W.of_hideAll _ q
  have hen:(PySem.W.hideAll s.heap (frs (envOfC qual scope s₀.heap.objs.size f cd::outer))).get? e=none:=by
    cases q:(PySem.W.hideAll s.heap (frs (envOfC qual scope s₀.heap.objs.size f cd::outer))).get? e with
    | none=>rfl
    | some o=>have:=hk e o q; rw [hx.new] at this; cases this
  show wpAny _ _ (leaving _ (.ref e)) _ _ _
  refine leaveD (s:={ s with heap:=h' }) (base:=PySem.W.hideAll s.heap (frs (envOfC qual scope s₀.heap.objs.size f cd::outer))) hfr ((PySem.W.funFrames_hide hst hin).of_keeps fun b o hb _=>⟨o,hx.keeps b o hb,rfl⟩) hex ho (fun b o q=>hx.keeps b o (hk b o q)) hen rfl rfl rfl rfl fun h2 x1 x2 x4=>?_
  have sub:∀ b∈frs outer,b∈frs (envOfC qual scope s₀.heap.objs.size f cd::outer):=fun b hb=>by
    obtain ⟨env,he,hf⟩:=List.mem_filterMap.mp hb
    exact hin env (List.mem_cons_of_mem _ he) b hf
  have out:∀ b o,s₀.heap.get? b=some o->b ∉ frs outer->b ∉ frs (envOfC qual scope s₀.heap.objs.size f cd::outer):=fun b o q hb hm=>by
    obtain ⟨env,he,hf⟩:=List.mem_filterMap.mp hm
    rcases List.mem_cons.mp he with rfl | he
    . rw [hex] at hf
      cases hf
      exact absurd (Heap.lt_size q) (Nat.lt_irrefl _)
    . exact hb (List.mem_filterMap.mpr ⟨env,he,hf⟩)
  refine ⟨e,t0,cls,_,H,none,rfl,x2,⟨I.os,I.bare,x1,fun b o q n hb=>?_,fun b o q hb=>?_,fun b o q hb n=>?_,fun b o q n=>?_,I.base.tups,I.base.frzs,I.base.tbls,fun b u q=>?_,hw⟩⟩
  . exact PySem.W.hideAll_get _ (I.base.keep b o q n hb (noA b)) (out b o q hb)
  . obtain ⟨o',q'⟩:=I.base.there b o q (noA b)
    exact ⟨o',PySem.W.hideAll_get _ q' (out b o q hb)⟩
  . obtain ⟨sl,q'⟩:=I.base.slot b o q n hb (noA b)
    obtain ⟨_,o2,q2,hd⟩:=hst.mem (sub b hb)
    rw [q'] at q2
    cases q2
    obtain ⟨sl',q3⟩:=x4 b _ (hx.keeps b _ q') hd
    exact ⟨sl',q3⟩
  . exact I.base.free b o q n (noA b)
  . refine (I.hok b u q).stay (fun c v hc q'=>PySem.W.hideAll_get _ q' fun hm=>?_) (fun _ q'=>q') fun _ _ q'=>q'
    have hn:=noH c hm
    rcases hc with z | z
    . rw [z,q] at hn; cases hn
    . rw [z] at hn; cases hn
theorem FnOk.quietD {P:Program} {w:World} {K:PySem.W.Frag} {mg:Str->Option Value} {base:Heap} {k:Nat} {f:Addr} {fd:FuncData} {ps:List Str} {sp:Sp} (F:FnOk P w K mg base (CXD P w) k f fd ps sp):FnOk P w K mg base CX0 k f fd ps (fun vs H Q _=>sp vs H Q E0) :=
  ⟨fun vs H Q E h=>F.len vs H Q E0 h,fun A outer s H args us vs Q E hr he hb hv hs=>codeAny_mono (F.run A outer s H args us vs Q E0 hr he hb hv hs) fun r s' h=>by
    cases r with
    | ok fl=>cases fl with
      | ret u=>exact h
      | next=>exact h
      | brk=>exact h
      | cont=>exact h
    | error e=>obtain ⟨_,_,_,_,_,_,_,_,fl⟩:=h; exact fl.wish.elim⟩
theorem MDef.quietD {P:Program} {w:World} {K:PySem.W.Frag} {mg:Str->Option Value} {base:Heap} {k:Nat} {C:Addr} {m:Str} {ps:List Str} {dvs:List V} {sp:Sp} (D:MDef P w K mg base (CXD P w) k C m ps dvs sp):MDef P w K mg base CX0 k C m ps dvs (fun vs H Q _=>sp vs H Q E0):=by
  obtain ⟨f,fd,ds,F,h1⟩:=D.ex
  exact ⟨⟨f,fd,ds,F.quietD,h1⟩⟩
def ctxN (e:Addr) (h:Heap):Prop:=∃ oe vs,h.get? e=some oe∧oe.data=.fields vs∧vs[2]?=some .none
def extO (e:Addr) (cls:Value) (od:Option Addr):Heap->Prop:=fun h=>∃ oe vs,h.get? e=some oe∧oe.cls=cls∧oe.dict=od∧oe.data=.fields vs∧vs[2]?=some .none
theorem extO_at {e:Addr} {cls:Value} {od:Option Addr} {h:Heap} (x:extO e cls od h):excAt e cls h:=by
  obtain ⟨oe,_,a,b,_⟩:=x; exact ⟨oe,a,b⟩
theorem extO_B {e dx:Addr} {cls:Value} {h:Heap} (x:extO e cls (some dx) h):excB e cls dx h:=by
  obtain ⟨oe,vs,a,b,c,d,_⟩:=x; exact ⟨oe,vs,a,b,c,d⟩
theorem extO_ctx {e:Addr} {cls:Value} {od:Option Addr} {h:Heap} (x:extO e cls od h):ctxN e h:=by
  obtain ⟨oe,vs,a,_,_,d,f⟩:=x; exact ⟨oe,vs,a,d,f⟩
section
variable {X:Cx}
def tTryG (tb:TXD) (i:Nat) (ok:Value->Prop) (th:Value->Addr->TS):TS:=fun D σ H=>tb (fun σ1 cls od H2=>ok cls∧∀ e:Addr,H2 e=none->th cls e (D.drop i) (σ1.set i (some (.ref e))) (upd H2 e (.ext (extO e cls od)))) D σ H
theorem ps_tryG {K:PySem.W.Frag} {C:Addr} {xC n:Str} {np pos hpos:Pos} {i:Nat} {body:List Stmt} {tb:TXD} {th:Value->Addr->TS} {b₀:Stmt} {suite:List Stmt} (hK:X.K=K) (hb:PXDs X body tb)
    (hst:X.stack=X.env::X.outer) (hfr:X.env.frame=some X.env.locals) (hgC:Gl X xC) (hmC:X.mg xC=some (.ref C)) (hN:X.N.Nodup) (hi:X.N[i]?=some n) (hln:X.env.scope.names.lookup n=some .local)
    (hS:∀ (cls:Value) (e:Addr),PSs (X.mkd e) (b₀::suite) (th cls e))
    (hdC:(xC == ("__debug__":Str))=false:=by decide):PS X (.Try body [.ExceptHandler (some (.Name xC np)) (some n) (b₀::suite) hpos] [] [] pos) (tTryG tb i (fun cls=>PySem.W.exmOne K cls (.ref C)=some true) th):=by
  subst hK
  intro pins s σ H D I h
  refine wpAny_Try_except ?_
  refine wpAny_mono (hb pins s σ H D _ I h) (fun f s1 q=>?_) fun ev s' hq=>?_
  . cases f with
    | next=>exact wpAny_execs_nil q
    | ret v=>exact q
    | brk=>exact q
    | cont=>exact q
  . obtain ⟨ea,t',cls,B,H2,s1,H1,σ1,od,rfl,I1,dc,fl⟩:=hq
    obtain ⟨hex,hth⟩:=fl.wish
    have fly:=fl.fly
    rw [hst] at fly
    refine looksD (by rw [I.ok.frames,hst]) hfr fly dc fun h4 held4 dc4 sm4=>?_
    refine landsD held4 dc4 fun h5 fly5 dc5 sm5=>?_
    have sm:s'.heap.UpToSlots h5:=sm4.trans sm5
    have I5:Inv X pins σ1 H2 { s' with heap:=h5 }:=fl.inv I1 (by rw [hst]; exact fly5) sm
    have I5m:=I5.mkd (e:=ea)
    refine wpAny_handleBy_cons (codeAny_handlers_test (ld_glob I5m hgC hmC ?_ hdC)) (by intro q; cases q)
    have LT:PySem.W.Looks (model X.prog X.w) h5 (typeOf (.ref ea)) cls:=by
      obtain ⟨ob,hob,hobc⟩:=fly5.there
      exact hobc ▸ (PySem.W.Looks.ld hob).andThen .now
    refine (PySem.W.exm_one I5.kIn LT hex) _ _ _ _ (fun _ _ z=>z) ?_
    refine codeAny_handlers_suite_as ?_
    refine againD fly5 dc5 fun h6 fly6 dc6 sm6=>?_
    have I6:Inv X pins σ1 H2 { s' with heap:=h6 }:=fl.inv I1 (by rw [hst]; exact fly6) (sm.trans sm6)
    obtain ⟨oe,ws,hoe,hoec,hoed,_⟩:=fly6.first
    obtain ⟨oe',hoe',hod,ws',hoed',hctx⟩:=dc6
    have ee:oe=oe':=Option.some.inj (hoe.symm.trans hoe')
    subst ee
    have hHe:H2 ea=none:=by
      cases z:H2 ea with
      | none=>rfl
      | some u =>
        obtain ⟨o',q'⟩:=(fl.hok ea u z).is
        rw [fly6.2.1] at q'
        cases q'
    have nfr:ea ∉ frs (X.env::X.outer):=fun hm'=>by
      obtain ⟨_,o',q',hd⟩:=fly6.2.2.1.mem hm'
      rw [hoe] at q'
      cases q'
      exact hd ws hoed
    have hn1:s1.heap.get? ea=none:=by
      cases z:s1.heap.get? ea with
      | none=>rfl
      | some o =>
        obtain ⟨o',q'⟩:=fl.there ea o z (by rw [hst]; exact nfr)
        rw [fly6.2.1] at q'
        cases q'
    have ok:ObjOk X.prog X.w (upd H2 ea (.ext (extO ea cls od))) h6 ea (.ext (extO ea cls od)):=⟨⟨oe,ws',hoe,hoec,hod,hoed',hctx⟩,⟨oe,hoe⟩,fun h1 h2 ⟨o1,v1,p1,p2⟩ k=>⟨o1,v1,k o1 p1,p2⟩⟩
    have Ik:=(I6.add (a:=ea) (u:=.ext (extO ea cls od)) I1 hn1 hHe ok).mkd (e:=ea)
    refine store_ok (X:=X.mkd ea) Ik hN hi (.inl hln) (v:=.ref ea) rfl (fun s7 I7=>?_) (.inr hln)
    refine wpAny_mono (hS cls ea pins s7 _ _ (D.drop i) I7 (hth ea hHe)) (fun fl' s8 q8=>?_) (fun _ _ z=>z.elim)
    cases fl' with
    | next =>
      obtain ⟨σ8,H8,I8,q8⟩:=q8
      exact goes_ok (I8.outM I.ok) hN hi hln fun s9 I9=>⟨_,H8,I9,q8⟩
    | brk =>
      obtain ⟨σ8,H8,I8,q8⟩:=q8
      exact goes_ok (I8.outM I.ok) hN hi hln fun s9 I9=>⟨_,H8,I9,q8⟩
    | cont =>
      obtain ⟨σ8,H8,I8,q8⟩:=q8
      exact goes_ok (I8.outM I.ok) hN hi hln fun s9 I9=>⟨_,H8,I9,q8⟩
    | ret u =>
      obtain ⟨v8,σ8,H8,I8,r8,q8⟩:=q8
      exact goes_ok (I8.outM I.ok) hN hi hln fun s9 I9=>⟨v8,_,H8,I9,r8,q8⟩
def tExcG (K:Frag) (ta:TE) (f:Str):TE:=fun σ H Q=>ta σ H fun x H1=>∃ e D dx fs v φ,x=.ref e∧Mir.XtAt H1 e φ∧(∀ h,φ h->excB e (.ref D) dx h)∧H1 dx=some (.xd fs)∧ExcF K D f∧fs.lookup f=some v∧Q v H1
theorem pe_excG {K:Frag} {e:Expr} {f:Str} {ta:TE} {pos:Pos} (hK:X.K=K) (he:PE X e ta) (hb:attributeBase e f X.env (eval e X.env)=eval e X.env:=by rfl):PE X (.Attribute e f pos) (tExcG K ta f):=by
  subst hK
  intro pins s σ H Q I h
  refine attr_of hb (thn (he pins s σ H _ I h) fun u s1 ⟨x,H1,I1,rx,ea,D,dx,fs,v,φ,ex,h1,hφ,h2,Z,l,q⟩=>?_)
  subst ex
  obtain rfl:u=Value.ref ea:=rx
  have p:=h1.ok I1.hok
  obtain ⟨oe,vs,ho,hc,hd,hda⟩:=hφ _ p
  obtain ⟨mA,hn,r⟩:=I1.hok dx _ h2
  obtain ⟨w,hw,rw'⟩:=RelO.some_of (v:=v) (o:=mA f) (by rw [← l]; exact r f)
  obtain ⟨hp,g,d,tk,os⟩:=s1
  exact exc_fld I1.kIn ho hc hd hda hn hw (handed_of rw') Z ⟨v,H1,I1.tok _,rw',q⟩
theorem pe_exi {x:Str} {C fI:Addr} {fd:FuncData} {k:Nat} {np cpos:Pos} {a:Expr} {t:TA} (Z:Exi X.K C fI) (F:FnOk X.prog X.w X.K X.mg X.base CX0 k fI fd ["self","by"] (spIni C)) (hr:Room (k + 1) X.A) (hb:Binds X.K fd ["self","by"] [])
    (hg:Gl X x) (hm:X.mg x=some (.ref C)) (ha:PA X [a] t) (hdb:(x == ("__debug__":Str))=false:=by decide)
    (he:starEach [a] X.env=(false,eval a X.env)::starEach [] X.env:=by rfl) (hpl:(backTo cpos (starEach [] X.env)).any (·.1)=false:=by rfl):PE X (.Call (.Name x np) [a] [] cpos) (tExi C t):=by
  intro pins s σ H Q I h
  refine wpAny_Call_Name_kw (ld_glob I hg hm ?_ hdb)
  refine PySem.W.callWith_K (h₀:=X.base) I.ok.mod.kin Z.kp (thn (ha cpos pins s σ H _ I h) fun us s1 ⟨vs,H1,I1,r,n,ev,hn,q⟩=>⟨I1.kIn,?_⟩) he hpl
  subst ev
  exact run_exi Z F hr hb I1 r hn fun e dx _ z2 z3 z4=>q e dx z2 z3 z4
def tMkX (C:Addr) (t:TA):TE:=fun σ H Q=>t σ H fun vs H1=>vs.length≤100∧∀ e,H1 e=none->Q (.ref e) (upd H1 e (.ext (excAt e (.ref C))))
theorem run_mkX {pins:List (Addr × Obj)} {σ:St} {H:Hp} {s:Shared} {C:Addr} {us:List Value} {vs:List V} {Q:VK} (hq:PySem.W.excIn X.K C bmV "ValueError.__new__" = true) (I:Inv X pins σ H s) (r:Vals vs us) (hl:vs.length≤100) (h:∀ e,H e=none->Q (.ref e) (upd H e (.ext (excAt e (.ref C))))):wpAny (model X.prog X.w) X.A (call (.ref C) us) (EP X pins σ Q) X.xe s:=by
  obtain ⟨tl,N,nm,q,bs,hdct,sn,sub,ab,col,dd,k0,k1,k2,k3,k5,mN,hC,hN,hni,T⟩:=exc_obj I.kIn hq
  obtain ⟨hp,g,d,tk,os⟩:=s
  refine wpAny_call_exc_subT PySem.F.excBase_ValueError T hC hN hni (fun h' e hm=>?_) (by rw [← r.length]; simp only [sizeLine]; omega)
  obtain ⟨t0,he,_,_⟩:=hm.there
  have hHe:H e=none:=by
    cases z:H e with
    | none=>rfl
    | some u =>
      obtain ⟨o',q'⟩:=(I.hok e u z).is
      rw [hm.new] at q'
      cases q'
  have I2:Inv X pins σ H ⟨h',g,d,tk,os⟩:=I.kept (h':=h') (t':=tk) hm.keeps
  have I3:=I2.add (a:=e) (u:=.ext (excAt e (.ref C))) I hm.new hHe ⟨⟨_,he,rfl⟩,⟨_,he⟩,fun h1 h2 ⟨o1,p1,p2⟩ k=>⟨o1,k o1 p1,p2⟩⟩
  exact ⟨.ref e,_,I3,rfl,h e hHe⟩
theorem pe_mkX {x:Str} {C:Addr} {np cpos:Pos} {a:Expr} {es:List Expr} {t:TA} (hq:PySem.W.excIn X.K C bmV "ValueError.__new__" = true) (hk:PySem.W.keepIn X.K (.ref C)=true) (hg:Gl X x) (hm:X.mg x=some (.ref C)) (ha:PA X (a::es) t) (hdb:(x == ("__debug__":Str))=false:=by decide)
    (he:starEach (a::es) X.env=(false,eval a X.env)::starEach es X.env:=by rfl) (hpl:(backTo cpos (starEach es X.env)).any (·.1)=false:=by rfl):PE X (.Call (.Name x np) (a::es) [] cpos) (tMkX C t):=by
  intro pins s σ H Q I h
  refine wpAny_Call_Name_kw (ld_glob I hg hm ?_ hdb)
  refine PySem.W.callWith_K (h₀:=X.base) I.ok.mod.kin hk (thn (ha cpos pins s σ H _ I h) fun us s1 ⟨vs,H1,I1,r,hl,q⟩=>⟨I1.kIn,?_⟩) he hpl
  exact run_mkX hq I1 r hl q
theorem pe_mkX0 {x:Str} {C:Addr} {np cpos:Pos} (hq:PySem.W.excIn X.K C bmV "ValueError.__new__" = true) (hk:PySem.W.keepIn X.K (.ref C)=true) (hg:Gl X x) (hm:X.mg x=some (.ref C)) (hdb:(x == ("__debug__":Str))=false:=by decide):PE X (.Call (.Name x np) [] [] cpos) (tMkX C tNil):=by
  intro pins s σ H Q I h
  refine wpAny_Call_Name_kw (ld_glob I hg hm ?_ hdb)
  exact PySem.W.callWith_K0 I.kIn hk (run_mkX (us:=[]) hq I .nil h.1 h.2)
end
end L2
set_option Elab.async false
set_option linter.all false
set_option maxRecDepth 100000
namespace Mir
open PySem L2
section
variable [Zc] [Zl] {W:WX}
def nTryG (b:SN) (i:Nat) (su:Str->Bool) (h:SN):SN:=fun s=>match b s with
  | some (.er x s1)=>if su x.c=true∧i < s1.t.length then (h ⟨s1.S++[some (.exc x.c x.by_)],s1.t.set i (some (.lc s1.S.length))⟩).bind (dropN i) else none
  | o=>o
theorem RelN.layG {G:FrN} {A:List Addr} {B H:Hp} {σ:St} {s:SS} (R:RelN G A B H σ s) {e:Addr} {c:Str} {n:Option Int} {φ:Heap->Prop} (he:H e=none) (h1:∀ h,φ h->excAt e (Zl.cl c) h) (h2:∀ k,n=some k->∃ dx,(∀ h,φ h->excB e (Zl.cl c) dx h)∧H dx=some (.xd [("by",.int k)])):RelN G (A++[e]) B (upd H e (.ext φ)) σ ⟨s.S++[some (.exc c n)],s.t⟩:=by
  obtain ⟨g1,g2,g3⟩:=R.newG he
  have R2:RelN G A B (upd H e (.ext φ)) σ s:=R.junk he (fun xs z=>by cases z) (fun o v z=>by cases z)
  refine R2.take (c:=.exc c n) g1 g2 g3 upd_same trivial (.exc (.inl upd_same) h1 fun k ek=>?_)
  obtain ⟨dx,p1,p2⟩:=h2 k ek
  exact ⟨dx,p1,by rw [upd_ne (fun z=>by rw [z,he] at p2; cases p2)]; exact p2⟩
def spFQ (f:FN):Sp:=fun vs H Q _=>spF f vs H Q E0
theorem call_endFQ {f:FN} {G:FrN} {A:List Addr} {B H:Hp} {σ:St} {s:SS} {vs:List V} {xs:List SV} {r0:RR SV} {Q:VK} {E:XK} (R:RelN G A B H σ s) (V:RepVs A B vs xs) (e:((f s.S xs).map fun w=>frR w s.t)=some r0) (q:ROk G A B σ W0 RepV Q r0):spFQ f vs H Q E:=by
  obtain ⟨w,e2,e3⟩:=Option.map_eq_some_iff.mp e
  refine ⟨A,B,s.S,xs,w,R.sub,R.tupB,R.st,V,e2,?_⟩
  cases w with
  | ok r S' =>
    cases e3
    exact fun v A' B' H' P=>q v A' B' H' P.gro P.eB (R.post P) P.val
  | er x S' =>
    cases e3
    exact fun A' B' H' P=>(q A' B' H' (R.post P)).elim
theorem ne_methF {C:Addr} {mn:Str} {f:FN} {dv:List D} {dvs:List V} {ta:TE} {t:TA} {a:EN} {m:MN (List SV)} (hd:∀ B,Reps B dvs dv) (ha:NE W0 ta a) (h:NA W0 t m):NE W0 (tMeth C mn (spFQ f) dvs E0 ta t) (nMeth C mn f dv a m):=by
  intro G A B H σ s r0 Q R e q
  refine nm_use (t:=ta) ha R e q fun x v A1 B1 H1 s1 g1 eB1 R1 V1 e1 q1=>?_
  split at e1
  . rename_i k
    obtain ⟨y,e2,e3⟩:=Option.bind_eq_some_iff.mp e1
    split at e3
    . rename_i hz
      obtain ⟨rfl,hz⟩:=hz
      cases V1 with
      | lc hA =>
        cases R1.st.cell k _ _ (objAt_eq e2) hA with
        | obj h1 h2 h3 =>
          refine ⟨_,_,_,rfl,h1,h3.noLook hz,?_⟩
          refine nm_use (t:=t) h R1 e3 q1 fun vs xs A2 B2 H2 s2 g2 eB2 R2 V2 e4 q2=>?_
          exact call_endFQ R2 (.cons (.lc (g2 _ _ hA)) (V2.append (hd B2).plV)) e4 q2
    . cases e3
  . cases e1
def nFldX (P:Str->Bool) (a:EN):EN:=bN a fun x s=>match x with
  | .lc k=>(match s.S[k]? with
    | some (some (.exc c (some n)))=>if P c=true then some (.ok (.pl (.int n)) s) else none
    | _=>none)
  | _=>none
theorem ne_fldX {K:PySem.W.Frag} {ta:TE} {a:EN} {P:Str->Bool} (hP:∀ c,P c=true->∃ D,Zl.cl c=.ref D∧ExcF K D "by") (ha:NE W ta a):NE W (tExcG K ta "by") (nFldX P a):=by
  intro G A B H σ s r0 Q R e q
  refine nm_use (t:=ta) ha R e q fun x v A1 B1 H1 s1 g1 eB1 R1 V1 e1 q1=>?_
  split at e1
  . rename_i k
    split at e1
    . rename_i c n hS
      split at e1
      . rename_i hp
        cases e1
        cases V1 with
        | lc hA =>
          cases R1.st.cell k _ _ hS hA with
          | exc h1 hφ hn =>
            obtain ⟨dx,p1,p2⟩:=hn n rfl
            obtain ⟨D,hD,Z⟩:=hP c hp
            rw [hD] at p1
            exact ⟨_,D,dx,_,.int n,_,rfl,h1,p1,p2,Z,rfl,q1 _ A1 B1 H1 (Gro.refl _) (Same.refl _) R1 (.pl (.int n))⟩
      . cases e1
    . cases e1
  . cases e1
def nMkX (c:Str) (m:MN (List SV)):EN:=bN m fun xs s=>if xs.length≤100 then some (.ok (.lc s.S.length) ⟨s.S++[some (.exc c none)],s.t⟩) else none
theorem ne_mkX {c:Str} {C:Addr} {t:TA} {m:MN (List SV)} (hc:Zl.cl c=.ref C) (h:NA W t m):NE W (tMkX C t) (nMkX c m):=by
  intro G A B H σ s r0 Q R e q
  refine nm_use (t:=t) h R e q fun vs xs A1 B1 H1 s1 g1 eB1 R1 V1 e1 q1=>?_
  split at e1
  . rename_i hz
    cases e1
    refine ⟨by rw [V1.length]; exact hz,fun ea hea=>?_⟩
    have R2:=R1.layG (c:=c) (n:=none) (φ:=excAt ea (.ref C)) hea (fun h z=>by rw [hc]; exact z) fun k hk=>by cases hk
    exact q1 _ _ _ _ (Gro.app _ _) (Same.refl _) R2 (.lc (by rw [← R1.st.len]; exact List.getElem?_concat_length))
  . cases e1
def nMkI (c:Str) (m:MN (List SV)):EN:=bN m fun xs s=>match xs with
  | [.pl (.int n)]=>if n.natAbs.log2 < 1920 then some (.ok (.lc s.S.length) ⟨s.S++[some (.exc c (some n))],s.t⟩) else none
  | _=>none
theorem excD_B {e C dx:Addr} {h:Heap} (x:excD e C dx h):excB e (.ref C) dx h:=by
  obtain ⟨oe,t0,a,b,c,d⟩:=x
  exact ⟨oe,_,a,b,c,d⟩
theorem ne_mkI {c:Str} {C:Addr} {t:TA} {m:MN (List SV)} (hc:Zl.cl c=.ref C) (h:NA W t m):NE W (tExi C t) (nMkI c m):=by
  intro G A B H σ s r0 Q R e q
  refine nm_use (t:=t) h R e q fun vs xs A1 B1 H1 s1 g1 eB1 R1 V1 e1 q1=>?_
  split at e1
  . rename_i n
    split at e1
    . rename_i hz
      cases e1
      cases V1 with
      | cons r1 r2 =>
        cases r2
        cases r1 with
        | pl r1 =>
          cases r1
          refine ⟨n,rfl,hz,fun ea dx hea hdx hne=>?_⟩
          have R2:=R1.junk (u:=.xd [("by",.int n)]) hdx (fun xs z=>by cases z) (fun o v z=>by cases z)
          have hea2:upd H1 dx (.xd [("by",.int n)]) ea=none:=by rw [upd_ne (Ne.symm hne)]; exact hea
          have R3:=R2.layG (c:=c) (n:=some n) (φ:=excD ea C dx) hea2 (fun h z=>by rw [hc]; obtain ⟨oe,_,a,b,_⟩:=z; exact ⟨oe,a,b⟩) fun k hk=>by cases hk; exact ⟨dx,fun h z=>by rw [hc]; exact excD_B z,upd_same⟩
          have eq:upd (upd H1 dx (.xd [("by",.int n)])) ea (.ext (excD ea C dx))=upd (upd H1 ea (.ext (excD ea C dx))) dx (.xd [("by",.int n)]):=by
            funext b
            by_cases z1:b=ea
            . subst z1; rw [upd_same,upd_ne (Ne.symm hne),upd_same]
            . by_cases z2:b=dx
              . subst z2; rw [upd_ne hne,upd_same,upd_same]
              . rw [upd_ne z1,upd_ne z2,upd_ne z2,upd_ne z1]
          rw [eq] at R3
          exact q1 _ _ _ _ (Gro.app _ _) (Same.refl _) R3 (.lc (by rw [← R1.st.len]; exact List.getElem?_concat_length))
    . cases e1
  . cases e1
noncomputable def nAddL (a b:EN):EN:=bN a fun x=>bN b fun y s=>match x,y with
  | .lc i,.lc j=>(match s.S[i]?,s.S[j]? with
    | some (some (.lst xs)),some (some (.lst ys))=>cIf (xs.length + ys.length≤sizeLine) (some (newC (.lst (xs++ys)) s)) none
    | _,_=>none)
  | _,_=>none
theorem ne_addL {K:PySem.W.Frag} {ta tb:TE} {a b:EN} (ha:NE W ta a) (hb:NE W tb b):NE W (tOp (rPlusM K) ta tb) (nAddL a b):=by
  intro G A B H σ s r0 Q R e q
  refine nm_use (t:=ta) ha R e q fun x v A1 B1 H1 s1 g1 eB1 R1 V1 e1 q1=>?_
  refine nm_use (t:=tb) hb R1 e1 q1 fun y u A2 B2 H2 s2 g2 eB2 R2 V2 e2 q2=>?_
  split at e2
  . rename_i i j
    split at e2
    . rename_i xs ys h1 h2
      obtain ⟨hz,e3⟩:=cIf_eq e2
      cases e3
      cases V1 with
      | lc hA =>
        cases V2 with
        | lc hA2 =>
          cases R2.st.cell i _ _ h1 (g2 _ _ hA) with
          | lst p1 r1 =>
            cases R2.st.cell j _ _ h2 hA2 with
            | lst p2 r2 =>
              refine .inr (.inl ⟨_,_,_,_,rfl,rfl,rd_same (Same.refl _) (.inl p1),rd_same (Same.refl _) (.inl p2),by rw [r1.length,r2.length]; exact hz,fun p hp=>?_⟩)
              exact newC_end R2 hp trivial (fun H' h'=>.lst h' ((r1.append r2).mono (Gro.app _ _) (Same.refl _))) q2
    . cases e2
  . cases e2
def compS (t:List (Option SV)) (fr:List (Str × Nat)):List (Option SV):=fr.map fun p=>t.getD p.2 none
def lcN (n:Nat) (fr:List (Str × Nat)) (e:EN):List Nat->SS->List D->Option (List D × SS)
  | [],s,acc=>some (acc,s)
  | j::js,s,acc=>match e ⟨s.S,some (.pl (.int (j:Int)))::compS s.t fr⟩ with
    | some (.ok (.pl d) s')=>lcN n fr e js (gcE n [] ⟨s'.S,s.t⟩) (acc++[d])
    | _=>none
noncomputable def nLCR (fr:List (Str × Nat)) (k:Nat) (e:EN):EN:=fun s=>(lcN s.S.length fr e (List.range k) s []).bind fun r=>cIf (k < sizeLine) (some (newD (.list r.1) r.2)) none
theorem RelN.inner {G:FrN} {A:List Addr} {B H:Hp} {σ:St} {s:SS} (R:RelN G A B H σ s) (fr:List (Str × Nat)) {v:V} {x:SV} (hv:RepV A B v x):RelN G A B H (some v::compRest σ fr) ⟨s.S,some x::compS s.t fr⟩:=by
  refine ⟨R.sub,R.sB,R.tupB,R.kept,R.nB,R.pre,R.fresh,R.st,by simp [compS,compRest],fun i y h=>?_,R.nz⟩
  cases i with
  | zero =>
    have h':some (some x)=some (some y):=h
    cases h'
    exact ⟨v,rfl,hv⟩
  | succ i =>
    have h':(compS s.t fr)[i]?=some (some y):=h
    unfold compS at h'
    rw [List.getElem?_map] at h'
    obtain ⟨p,h1,h2⟩:=Option.map_eq_some_iff.mp h'
    have h3:s.t[p.2]?=some (some y):=by
      rw [List.getD_eq_getElem?_getD] at h2
      cases h4:s.t[p.2]? with
      | none=>rw [h4] at h2; cases h2
      | some z=>rw [h4] at h2; exact congrArg some h2
    obtain ⟨w,h5,h6⟩:=R.slot p.2 y h3
    refine ⟨w,?_,h6⟩
    show (compRest σ fr)[i]?=_
    unfold compRest
    rw [List.getElem?_map,h1,Option.map_some,List.getD_eq_getElem?_getD,h5]
    rfl
theorem RelN.swap {G:FrN} {A A':List Addr} {B H B' H':Hp} {σ σ':St} {s s':SS} (R:RelN G A B H σ s) (R':RelN G A' B' H' σ' s') (g:Gro A A') (e:Same B B'):RelN G A' B' H' σ ⟨s'.S,s.t⟩ :=
  ⟨R'.sub,R'.sB,R'.tupB,R'.kept,R'.nB,R'.pre,R'.fresh,R'.st,R.len,fun i x h=>(let ⟨v,h1,h2⟩:=R.slot i x h; ⟨v,h1,h2.mono g e⟩),R'.nz⟩
theorem Reps.snoc {B:Hp}:∀ {vs:List V} {ds:List D} {v:V} {d:D},Reps B vs ds->Rep B v d->Reps B (vs++[v]) (ds++[d])
  | _,_,_,_,.nil,r=>.cons r .nil
  | _,_,_,_,.cons a b,r=>.cons a (Reps.snoc b r)
theorem ne_lcR {fr:List (Str × Nat)} {te:TE} {e:EN} {k:Nat} (hk:(k:Int) < 2 ^ 62) (he:NE W te e):NE W (tLC fr (iRng1 (tCons (tC (.int (k:Int))) tNil)) tYes te) (nLCR fr k e):=by
  intro G A B H σ s r0 Q R e0 q
  obtain ⟨⟨ds,s2⟩,e1,e2⟩:=Option.bind_eq_some_iff.mp e0
  obtain ⟨hz,e2⟩:=cIf_eq e2
  cases e2
  have hio:(FrN.mk B H A G.Z).io.length≤s.S.length:=Nat.le_of_eq R.st.len
  refine ⟨(k:Int),rfl,by omega,hk,?_⟩
  rw [Int.toNat_natCast]
  refine ⟨fun i m ys H2=>m=k - i∧i≤k∧ys.length=i∧∃ A' B' s' cs,RelN ⟨B,H,A,G.Z⟩ A' B' H2 σ s'∧Reps B' ys cs∧lcN s.S.length fr e ((List.range k).drop i) s' cs=some (ds,s2),⟨k,by simp,Nat.zero_le _,rfl,A,B,s,[],R.up,.nil,by rw [List.drop_zero]; exact e1⟩,?_⟩
  rintro i m ys H2 ⟨rfl,hil,hyl,A2,B2,s3,cs,R2,rs,e3⟩
  refine ⟨by omega,?_⟩
  by_cases hlt:i < k
  . refine .inr ⟨hlt,fun v H3 hy=>?_⟩
    obtain ⟨rfl,rfl⟩:H3=H2∧v=.int (0 + (i:Int)):=hy
    rw [Int.zero_add]
    show te _ _ _
    rw [List.drop_eq_getElem_cons (by rw [List.length_range]; exact hlt),List.getElem_range] at e3
    unfold lcN at e3
    split at e3
    . rename_i d s4 e4
      refine he _ A2 B2 H3 _ _ _ _ (R2.inner fr (.pl (.int (i:Int)))) e4 fun y A5 B5 H5 g5 eB5 R5 V5=>?_
      cases V5 with
      | pl rd =>
        have R6:=R2.swap R5 g5 eB5
        obtain ⟨A7,R7⟩:=R6.gcE (n:=s.S.length) (kp:=[]) hio
        exact ⟨k - (i + 1),by omega,rfl,hlt,by rw [List.length_append,hyl]; rfl,A7,B5,_,_,R7,Reps.snoc (rs.mono eB5) rd,e3⟩
    . cases e3
  . have hi':i=k:=by omega
    subst hi'
    rw [List.drop_eq_nil_of_le (by rw [List.length_range]; exact Nat.le_refl _)] at e3
    cases e3
    refine .inl ⟨Nat.le_refl _,fun p hp=>?_⟩
    refine newD_end (G:=⟨B,H,A,G.Z⟩) (A:=A2) (B:=B2) (σ:=σ) (W:=W) R2 hp trivial (fun H' h'=>.lst h' rs) ?_
    exact fun x A' B' H' _ _ R' V'=>q x A' B' H' R'.pre R'.sB (R.down R') V'
end
end Mir
namespace Mir
open PySem L2
def AllP {α:Type} (P : α->Prop):List α->Prop
  | []=>True
  | x::r=>P x∧AllP P r
theorem AllP.get {α:Type} {P : α->Prop}:∀ {l:List α},AllP P l->∀ x∈l,P x
  | _::_,h,_,.head _=>h.1
  | _::_,h,_,.tail _ m=>AllP.get h.2 _ m
theorem look_mem {c:Str} {b:Bool}:∀ {l:List (Str × Bool)},l.lookup c=some b->(c,b)∈l
  | [],h=>by cases h
  | (k,v)::r,h=>by
    by_cases z:c=k
    . subst z
      rw [List.lookup_cons,beq_self_eq_true] at h
      cases h
      exact List.mem_cons_self
    . rw [List.lookup_cons,beq_eq_false_iff_ne.mpr z] at h
      exact List.mem_cons_of_mem _ (look_mem h)
section
variable [Zc] [Zl] {W:WX}
theorem ne_isiL {K:PySem.W.Frag} {i:Nat} {l:List (Str × Bool)} {c:V} {cv:Value} (hcv:∀ u,RelV c u->u=cv) (h:AllP (fun p:Str × Bool=>∃ D,Zl.cl p.1=.ref D∧ExcK K D∧PySem.W.kitOne K (.ref D) cv=some p.2) l):NE W (tCB (rIsiG K) (tCons (tVar i) (tCons (tC c) tNil))) (nIsiX i (fun k=>l.lookup k)) :=
  ne_isiX hcv fun k b e=>h.get _ (look_mem e)
def nOpV (g:D->D->Option (D × Bool)) (a b:EN):EN:=bN a fun x=>bN b fun y s=>(nO (mOp g (mVar 0) (mVar 1)) ⟨s.S,[some x,some y]⟩).bind fun r=>match r with
  | .ok v s'=>some (.ok v ⟨s'.S,s.t⟩)
  | .er _ _=>none
theorem RelN.two {G:FrN} {A:List Addr} {B H:Hp} {σ:St} {s:SS} (R:RelN G A B H σ s) {v w:V} {x y:SV} (hv:RepV A B v x) (hw:RepV A B w y):RelN G A B H [some v,some w] ⟨s.S,[some x,some y]⟩:=by
  refine ⟨R.sub,R.sB,R.tupB,R.kept,R.nB,R.pre,R.fresh,R.st,rfl,fun i z h=>?_,R.nz⟩
  match i,h with
  | 0,h=>have h':some (some x)=some (some z):=h; cases h'; exact ⟨v,rfl,hv⟩
  | 1,h=>have h':some (some y)=some (some z):=h; cases h'; exact ⟨w,rfl,hw⟩
theorem ne_opV {r:R2} {g:D->D->Option (D × Bool)} {ta tb:TE} {a b:EN} (J:OpJ r g) (ha:NE W ta a) (hb:NE W tb b):NE W (tOp r ta tb) (nOpV g a b):=by
  intro G A B H σ s r0 Q R e q
  refine nm_use (t:=ta) ha R e q fun x v A1 B1 H1 s1 g1 eB1 R1 V1 e1 q1=>?_
  refine nm_use (t:=tb) hb R1 e1 q1 fun y u A2 B2 H2 s2 g2 eB2 R2 V2 e2 q2=>?_
  obtain ⟨r1,e3,e4⟩:=Option.bind_eq_some_iff.mp e2
  have R3:=R2.two (V1.mono g2 eB2) V2
  have key:(tOp r (tVar 0) (tVar 1)) [some x,some y] H2 Q:=by
    refine (ne_o (W:=fun z _ H=>W z σ H) (me_op J me_var me_var)) G A2 B2 H2 _ _ r1 Q R3 e3 ?_
    cases r1 with
    | ok v' s'=>cases e4; exact fun x' A' B' H' g' eB' R' V'=>q2 x' A' B' H' g' eB' (R2.swap R' g' eB') V'
    | er z s'=>cases e4
  obtain ⟨x',hx,y',hy,k⟩:=key
  cases hx
  cases hy
  exact k
end
end Mir
set_option Elab.async false
set_option linter.all false
set_option maxRecDepth 100000
namespace L2
open PySem PySem.Spec PyProof.Rows PySem.W
def HX (X:Cx):Prop:=∃ e oe u vs,X.A.handled=some (.ref e)∧X.H₀ e=some (.frz oe u)∧oe.data=.fields vs∧vs[2]?=some .none
section
variable {prog:Program} {w:World} {A:Around} {E:Value->Shared->Prop} {s:Shared}
theorem entry_unchain:entryFor table "proto.unchain" = some Builtin.«proto.unchain»:=entryFor_of_tree (by kernel_rfl)
theorem raiseNew_ctx {α:Type} {a e:Addr} {oe oa:Obj} {vs ws:Array Value} {Q : α->Shared->Prop} (hh:A.handled=some (.ref e)) (he:s.heap.get? e=some oe) (hd:oe.data=.fields vs) (h2:vs[2]?=some .none) (hne:e≠a) (ha:s.heap.get? a=some oa) (hda:oa.data=.fields ws) (hz : 2 < ws.size)
    (h:E (.ref a) { s with heap:=s.heap.update a (Obj.mapFields (·.setIfInBounds 2 (.ref e))) }):wpAny (model prog w) A (raiseNew (.ref a):Sem α) Q E s:=by
  simp only [raiseNew]
  refine wpAny_bind (wpAny_handled ?_)
  rw [hh]
  have hb:((Value.ref e:Value) != Value.ref a)=true:=by simp [hne]
  show wpAny _ _ (if ((Value.ref e:Value) != Value.ref a)=true then _ else _) _ _ s
  rw [if_pos hb]
  refine wpAny_bind (wpAny_holding (wpAny_runValue (codeAny_builtin entry_unchain ?_)))
  show wpAny _ _ (field (.ref e) 2 >>= _) _ _ s
  refine wpAny_bind (wpAny_field he hd h2 ?_)
  refine wpAny_bind (wpAny_pure ?_)
  refine wpAny_pure ?_
  show wpAny _ _ (setField (.ref a) 2 (.ref e) >>= _) _ _ s
  exact wpAny_bind (wpAny_setField ha hda hz (wpAny_throw h))
theorem next_range_endH {it e:Addr} {oe:Obj} {vs:Array Value} {x left step:Int} {Q:Option Value->Shared->Prop} (hh:A.handled=some (.ref e)) (he:s.heap.get? e=some oe) (hd:oe.data=.fields vs) (h2:vs[2]?=some .none) (hit:IsRangeIter s.heap it x left step) (hleft:left≤0)
    (hQ:∀ h',Heap.ExtBut it s.heap h'->Q none { s with heap:=h' }):wpAny (model prog w) A (pyNext (.ref it)) Q E s:=by
  have hT:s.TypeIs (.ref it) "range_iterator":=⟨_,hit,rfl⟩
  unfold pyNext
  refine wpAny_bind (wpAny_attempt (wpAny_callSpecial?_slot (name:=Str.ofString "__next__") hT F.slot_range_iterator_next
    (wpAny_call_entry F.slot_range_iterator_next hT F.entry_range_iterator_next ?_ (F.args_range_iterator_next_1 _))))
  show wpAny _ _ (field (.ref it) 0 >>= _) _ _ s
  refine wpAny_bind (wpAny_field hit rfl (x:=rawInt x) rfl ?_)
  show wpAny _ _ (field (.ref it) 1 >>= _) _ _ s
  refine wpAny_bind (wpAny_field hit rfl (x:=rawInt left) rfl ?_)
  show wpAny _ _ (field (.ref it) 2 >>= _) _ _ s
  refine wpAny_bind (wpAny_field hit rfl (x:=rawInt step) rfl ?_)
  show wpAny _ _ (if left≤0 then _ else _) _ _ s
  rw [if_pos hleft]
  refine wpAny_bind (wpAny_rule ?_)
  refine wpAny_bind ?_
  show wpAny _ _ (newExc (.type "StopIteration") [] >>= _) _ _ _
  refine wpAny_bind ?_
  simp only [newExc,newTuple]
  refine wpAny_bind (wpAny_newObj_type ?_ (by size_fits))
  refine wpAny_bind (m:=firstArgMember _ _) (wpAny_of_eq (a:=Value.none) (by first | rfl | (simp only [firstArgMember]; rfl)) ?_)
  refine wpAny_newObj_type ?_ (by size_fits)
  generalize hp1:({ cls:=.type "tuple",data:=.seq ([]:List Value).toArray }:Obj)=p1
  generalize hp2:({ cls:=.type "StopIteration",data:=_ }:Obj)=p2
  have z1:(s.heap.push p1).objs.size=s.heap.objs.size + 1:=Heap.size_push ..
  have he2:((s.heap.push p1).push p2).get? e=some oe:=Heap.get?_push_of_some _ (Heap.get?_push_of_some _ he)
  have ha2:((s.heap.push p1).push p2).get? (s.heap.push p1).objs.size=some p2:=Heap.get?_push_size _ (by rw [← hp2]; rfl)
  have hne:e≠(s.heap.push p1).objs.size:=Nat.ne_of_lt (by rw [z1]; exact Nat.lt_succ_of_lt (Heap.lt_size he))
  have hni:it≠(s.heap.push p1).objs.size:=Nat.ne_of_lt (by rw [z1]; exact Nat.lt_succ_of_lt (Heap.lt_size hit))
  refine raiseNew_ctx (s:={ s with heap:=(s.heap.push p1).push p2 }) (by first | exact hh | (show A.in1.handled=_; exact hh)) he2 hd h2 hne ha2 (by rw [← hp2]) (by simp [ownMembersOf]) ?_
  have ha3:=Heap.get?_update_self (Obj.mapFields (·.setIfInBounds 2 (.ref e))) ha2 (by rw [← hp2]; rfl)
  refine wpAny_bind (wpAny_isInstance (T:="StopIteration") (b:=true) ⟨_,ha3,by rw [← hp2]; rfl⟩ isSubtype_stop ?_)
  refine wpAny_pure (hQ _ fun b o hb q=>?_)
  have hbn:b≠(s.heap.push p1).objs.size:=Nat.ne_of_lt (by rw [z1]; exact Nat.lt_succ_of_lt (Heap.lt_size q))
  rw [Heap.get?_update_other _ _ (Ne.symm hbn)]
  exact Heap.get?_push_of_some _ (Heap.get?_push_of_some _ q)
end
theorem HX.at {X:Cx} {pins:List (Addr × Obj)} {σ:St} {H:Hp} {s:Shared} (hx:HX X) (I:Inv X pins σ H s):∃ e oe u vs,X.A.handled=some (.ref e)∧H e=some (.frz oe u)∧s.heap.get? e=some oe∧oe.data=.fields vs∧vs[2]?=some .none:=by
  obtain ⟨e,oe,u,vs,h1,h2,h3,h4⟩:=hx
  have z:=I.base.frzs e oe u h2
  exact ⟨e,oe,u,vs,h1,z,(I.hok e _ z).1,h3,h4⟩
theorem HX.comp {X:Cx} {pins:List (Addr × Obj)} {σ:St} {H2:Hp} {s2:Shared} {scope:Scope} {ns:List Str} {C:Addr} {fp:List Addr} (hx:HX X) (I:Inv X pins σ H2 s2):HX (cxComp X scope ns s2 H2 C fp):=by
  obtain ⟨e,oe,u,vs,h1,h2,_,h3,h4⟩:=hx.at I
  exact ⟨e,oe,u,vs,h1,h2,h3,h4⟩
structure TurnH (P:Program) (w:World) (K:PySem.W.Frag) (tg:Expr) (J:It) (fp:List Addr) (it:Addr) (tn:Nat->Heap->Prop):Prop where
  mem:it∈fp
  obj:∀ i h,tn i h->∀ b∈fp,∃ o,h.get? b=some o∧∀ v,o.data≠.cell v
  keep:∀ i h h',tn i h->(∀ b∈fp,∀ o,h.get? b=some o->h'.get? b=some o)->tn i h'
  item:∀ (X:Cx),X.prog=P->X.w=w->X.K=K->HX X->∀ (i:Nat) (pins:List (Addr × Obj)) (s:Shared) (σ:St) (H:Hp) (E:Value->Shared->Prop),Inv X pins σ H s->(∀ b∈fp,FpOk X pins H b)->tn i s.heap->J.go i H ->
    wpAny (model P w) X.A (pyNext (.ref it)) (fun r s1=>∃ u,r=some u ∧
      wpAny (model P w) X.A (letOwnedTupleGo tg (.ref it) u) (fun _ s2=>∃ x H',Inv X pins σ H' s2∧RelV x u∧J.yld i H x H'∧tn (i + 1) s2.heap∧∀ b∈fp,H' b=none) E s1) E s
  done:∀ (X:Cx),X.prog=P->X.w=w->X.K=K->HX X->∀ (i:Nat) (pins:List (Addr × Obj)) (s:Shared) (σ:St) (H:Hp) (E:Value->Shared->Prop),Inv X pins σ H s->(∀ b∈fp,FpOk X pins H b)->tn i s.heap->J.stop i H ->
    wpAny (model P w) X.A (pyNext (.ref it)) (fun r s1=>r=none∧Inv X pins σ H s1) E s
  self:∀ (A:Around) (i:Nat) (s:Shared) (Q:Value->Shared->Prop) (E:Value->Shared->Prop),tn i s.heap->Q (.ref it) s->wpAny (model P w) A (pyIter (.ref it)) Q E s
def PIEH (X:Cx) (pins:List (Addr × Obj)) (σ:St) (tg:Expr) (R:It->Hp->Prop) (itv:Value) (s2:Shared):Prop :=
  ∃ (it:Addr) (fp:List Addr) (tn:Nat->Heap->Prop) (J:It) (H':Hp),itv=.ref it∧Inv X pins σ H' s2∧TurnH X.prog X.w X.K tg J fp it tn∧tn 0 s2.heap∧(∀ b∈fp,FpOk X pins H' b)∧R J H'
def PIH (X:Cx) (tg iter:Expr) (wi:TI):Prop :=
  ∀ (pins:List (Addr × Obj)) (s:Shared) (σ:St) (H:Hp) (R:It->Hp->Prop),Inv X pins σ H s->wi σ H R ->
    wpAny (model X.prog X.w) X.A (eval iter X.env) (fun v s1=>wpAny (model X.prog X.w) X.A (pyIter v) (PIEH X pins σ tg R) X.xe s1) X.xe s
theorem turn_rangeH {P:Program} {w:World} {K:PySem.W.Frag} {tg:Expr} (it:Addr) (lo:Int) (n:Nat):TurnH P w K tg (Itr lo n) [it] it (fun i h=>IsRangeIter h it (lo + (i:Nat) * 1) ((n:Int) - (i:Nat)) 1) where
  mem:=by simp
  obj:=(turn_range (P:=P) (w:=w) (K:=K) (tg:=tg) it lo n).obj
  keep:=(turn_range (P:=P) (w:=w) (K:=K) (tg:=tg) it lo n).keep
  item:=by
    intro X hP hw hK hc i pins s σ H E I hf st hg
    subst hP hw hK
    obtain ⟨f0,f1,f2,f3,f4,f5⟩:=hf it (by simp)
    refine wpAny_pyNext_range_item st (by have:i < n:=hg; omega) fun h' st' kk=>?_
    have I1:Inv X pins σ H { s with heap:=h',toks:=s.toks + 1 }:=I.turned (fun b o hb e=>(kk.2 b hb).trans e) f0 f1 f3 f4 f5
    have st2:IsRangeIter h' it (lo + ((i + 1:Nat):Int) * 1) ((n:Int) - ((i + 1:Nat):Int)) 1:=by
      have e1:lo + (i:Int) * 1 + 1=lo + ((i + 1:Nat):Int) * 1:=by omega
      have e2:(n:Int) - (i:Int) - 1=(n:Int) - ((i + 1:Nat):Int):=by omega
      rw [← e1,← e2]; exact st'
    refine ⟨_,rfl,go_of (s:={ s with heap:=h',toks:=s.toks + 1 }) (n:="range_iterator") st' rfl rfl (by decide) ⟨.int (lo + i),H,I1,⟨s.toks,?_⟩,⟨rfl,rfl⟩,st2,fun b hb=>(hf b hb).1⟩⟩
    rw [Int.mul_one]
  done:=by
    intro X hP hw hK hc i pins s σ H E I hf st hg
    subst hP hw hK
    obtain ⟨f0,f1,f2,f3,f4,f5⟩:=hf it (by simp)
    obtain ⟨e,oe,u,vs,h1,_,h2,h3,h4⟩:=hc.at I
    exact next_range_endH h1 h2 h3 h4 st (by have:n≤i:=hg; omega) fun h' eb=>⟨rfl,I.turned (t':=s.toks) (fun b o hb e=>eb b o hb e) f0 f1 f3 f4 f5⟩
  self:=fun _ _ _ _ _ st h=>wpAny_pyIter_rangeiter st h
section
variable {X:Cx} {tg:Expr}
theorem range_itH {pins:List (Addr × Obj)} {σ:St} {H:Hp} {s:Shared} {R:It->Hp->Prop} {E:Value->Shared->Prop} {lo hi:Int} {t u v:Tok} {tk:Nat} (I:Inv X pins σ H s) (h1 : -(2 ^ 62)≤lo) (h2:lo < 2 ^ 62) (h3 : -(2 ^ 62)≤hi) (h4:hi < 2 ^ 62)
    (q:R (Itr lo (hi - lo).toNat) H):wpAny (model X.prog X.w) X.A (pyIter (.ref s.heap.objs.size)) (PIEH X pins σ tg R) E { s with heap:=s.heap.push { cls:=.type "range",data:=.fields #[.int lo t,.int hi u,.int 1 v] },toks:=tk }:=by
  refine wpAny_pyIter_range (IsRange.new ..) (small_one h1 h2 h3 h4) ?_
  have I1:Inv X pins σ H { s with heap:=s.heap.push { cls:=.type "range",data:=.fields #[.int lo t,.int hi u,.int 1 v] },toks:=tk }:=I.kept fun b o e=>Heap.get?_push_of_some _ e
  refine ⟨_,[_],_,_,H,rfl,I1.kept (t':=tk) fun b o e=>Heap.get?_push_of_some _ e,turn_rangeH _ lo (hi - lo).toNat,?_,fun b hb=>?_,q⟩
  . have e1:lo + ((0:Nat):Int) * 1=lo:=by simp
    have e2:(((hi - lo).toNat:Nat):Int) - ((0:Nat):Int)=Builtin.Range.rangeSize lo hi 1:=by rw [rangeSize_one]; split <;> omega
    show IsRangeIter _ _ (lo + ((0:Nat):Int) * 1) ((((hi - lo).toNat:Nat):Int) - ((0:Nat):Int)) 1
    rw [e1,e2]
    exact Heap.get?_push_size _ rfl
  . have e:=List.mem_singleton.mp hb
    subst e
    exact I1.fpOk (Nat.le_refl _) (I1.hok.fresh (Nat.le_refl _))
theorem pi_range1H {a:Expr} {ta:TA} {p pos:Pos} (hg:Gl X "range") (hm:X.mg "range" = none) (ha:PA X [a] ta) (hs:starEach [a] X.env=[(false,eval a X.env)]:=by rfl):PIH X tg (.Call (.Name "range" p) [a] [] pos) (iRng1 ta):=by
  intro pins s σ H R I h
  refine Call_ (ld_blt I hg hm boot_range (PyProof.Rows.callWith_type1 (thn (ha pos pins s σ H _ I h) fun us s1 ⟨vs,H1,I1,r1,q1⟩=>?_) hs rfl))
  obtain ⟨j,e,q1,q2,q⟩:=q1
  subst e
  cases r1 with
  | cons r rr =>
    cases rr
    obtain ⟨t,rfl⟩:=r
    exact call_range_1 (range_itH I1 (by omega) (by omega) q1 q2 (by simpa using q))
theorem pe_lcH {elt iter:Expr} {x:Str} {px:Pos} {ifs:List Expr} {scope:Scope} {pos:Pos} {fr:List (Str × Nat)} {wi:TI} {tc:TT} {te:TE} (hx:HX X) (B:Blk X scope x fr)
    (hi:PIH X (.Name x px) iter wi) (ht:∀ s₂ H₂ C fp,PIf (cxComp X scope (compNs x fr) s₂ H₂ C fp) ifs tc) (he:∀ s₂ H₂ C fp,PE (cxComp X scope (compNs x fr) s₂ H₂ C fp) elt te)
    (hs:∀ v,foldedSetIterable iter X.env v=pure v:=by intro _; rfl):PE X (.ListComp elt [⟨.Name x px,iter,ifs,0⟩] scope pos) (tLC fr wi tc te):=by
  intro pins s σ H Q I h
  rw [eval_ListComp]
  have hclos:=clo_eq (scope:=scope) (env:=X.env) (B.clos I.ok)
  refine wpAny_comprehension_free (use:=none) rfl hs hclos B.kind B.loc (thn (hi pins s σ H _ I h) fun v s1 h1=>thn h1 fun itv s2 h2=>?_)
  obtain ⟨it,fp,tn,J,H2,rfl,I2,T,st2,f2,W,⟨m0,w0⟩,turn⟩:=h2
  have hc':∀ C,HX (cxComp X scope (compNs x fr) s2 H2 C fp):=fun C=>hx.comp I2
  refine wpAny_newObj_type (wpAny_newFunctionEnv B.cell (by intro y hy; simp at hy) (fun h₁ hns hsb=>?_) B.kind)
  dsimp only at hns hsb ⊢
  generalize hG:s2.heap.push { cls:=.type "list",dict:=none,data:=.seq ([]:List Value).toArray }=G at hns hsb ⊢
  have hC:G.objs.size=s2.heap.objs.size + 1:=by rw [← hG,Heap.size_push]
  have hDC:s2.heap.objs.size≠G.objs.size:=by omega
  have old:∀ b ob,s2.heap.get? b=some ob->h₁.get? b=some ob:=fun b ob e=>by
    have hb:=Heap.lt_size e
    refine hsb.extBut b ob (Nat.ne_of_lt (by rw [hC]; exact Nat.lt_succ_of_lt hb)) (Heap.get?_push_of_some _ ?_)
    rw [← hG]
    exact Heap.get?_push_of_some _ e
  have hacc:h₁.get? s2.heap.objs.size=some { cls:=.type "list",data:=.seq ([]:List Value).toArray 0 }:=by
    refine hsb.extBut _ _ hDC (Heap.get?_push_of_some _ ?_)
    rw [← hG]
    exact Heap.get?_push_size _ rfl
  have hlt:∀ b∈fp,b < s2.heap.objs.size:=fun b hb=>by
    obtain ⟨o,e,_⟩:=T.obj 0 _ st2 b hb
    exact Heap.lt_size e
  have I4:=inv_comp (tk:=s2.toks + ([]:List (Str × Value)).length) (o:=none) I2 B (show s2.heap.objs.size≤G.objs.size by omega) f2 hlt old hns
  have tn4:tn 0 h₁:=T.keep 0 _ _ st2 fun b _ o e=>old b o e
  have Dfs:s2.heap.objs.size ∉ frs X.stack:=fun z=>by
    obtain ⟨_,o,ho,_⟩:=I2.stack.mem z
    exact absurd (Heap.lt_size ho) (Nat.lt_irrefl _)
  have Dcl:∀ y c,X.env.cells.lookup y=some c->c≠s2.heap.objs.size:=fun y c e=>by
    obtain ⟨v,o,ho,_⟩:=I2.cell y c e
    exact Nat.ne_of_lt (Heap.lt_size ho)
  have DL:s2.heap.objs.size≠X.env.locals:=Nat.ne_of_gt I2.lt
  have Dfp:s2.heap.objs.size ∉ fp:=fun z=>absurd (hlt _ z) (Nat.lt_irrefl _)
  have loop:∀ s₃:Shared,s₃={ s2 with heap:=h₁,toks:=s2.toks + ([]:List (Str × Value)).length } ->
      codeAny (model X.prog X.w) X.A (.compLoop (.ListComp elt [⟨.Name x px,iter,ifs,0⟩] scope pos) 0 (.ref it) (.ref s2.heap.objs.size) (compEnvC scope (cloOf X.env.cells scope.names []) G.objs.size X.env))
        (compPost (model X.prog X.w) X.A X.xe none (EP X pins σ Q) (.ref s2.heap.objs.size) G.objs.size) s₃:=by
    rintro s₃ rfl
    refine comp_loop
      (fun n s'=>∃ i o H' ys its k,Inv (cxComp X scope (compNs x fr) s2 H2 G.objs.size fp) [] (o::compRest σ fr) H' s'∧tn i s'.heap∧(∀ b∈fp,H' b=none)∧H' s2.heap.objs.size=none ∧
        s'.heap.get? s2.heap.objs.size=some { cls:=.type "list",data:=.seq (its:List Value).toArray k }∧Vals ys its∧W i n ys H') ?_ m0
      ⟨0,none,H2,[],[],0,I4,tn4,fun b hb=>(f2 b hb).1,I2.hok.fresh (Nat.le_refl _),hacc,.nil,w0⟩
    rintro n s5 ⟨i,o,H5,ys,its,k,I5,st5,fr5,D5,hD5,r5,w5⟩
    have fok:∀ {H':Hp},(∀ b∈fp,H' b=none)->∀ b∈fp,FpOk (cxComp X scope (compNs x fr) s2 H2 G.objs.size fp) [] H' b:=fun hn b hb =>
      ⟨hn b hb,(I5.ok.exf b hb).1,I5.ok.exfs b hb,.inl hb,(I5.ok.exf b hb).2,fun p hp=>absurd (show p∈([]:List (Addr × Obj)) from hp) (by simp)⟩
    have dok:∀ {H':Hp},H' s2.heap.objs.size=none->FpOk (cxComp X scope (compNs x fr) s2 H2 G.objs.size fp) [] H' s2.heap.objs.size:=fun hn =>
      ⟨hn,hDC,Dfs,.inr (Nat.le_refl _),fun y c e=>Dcl y c (B.sub I2.ok _ _ e),fun p hp=>absurd (show p∈([]:List (Addr × Obj)) from hp) (by simp)⟩
    obtain ⟨hz,alt⟩:=turn i n ys H5 w5
    have hzl:its.length≤sizeLine:=by rw [← r5.length]; exact Nat.le_of_lt hz
    rcases alt with ⟨stop,fin⟩ | ⟨go,step⟩
    . refine thn (T.done (cxComp X scope (compNs x fr) s2 H2 G.objs.size fp) rfl rfl rfl (hc' _) i (pinsAt [s2.heap.objs.size] s5.heap) s5 (o::compRest σ fr) H5 _ ?_ (fun b hb=>?_) st5 stop) fun r s6 ⟨hr,I6⟩=>?_
      . exact (Inv.pinned I5 (fp:=[s2.heap.objs.size]) (fun b hb=>by rw [List.mem_singleton.mp hb]; exact dok D5) fun b hb=>by
          rw [List.mem_singleton.mp hb]
          exact ⟨_,hD5,fun v z=>by cases z⟩)
      . obtain ⟨f0,f1,f2',f3,f4,f5⟩:=fok fr5 b hb
        refine ⟨f0,f1,f2',f3,f4,fun p hp=>?_⟩
        have hp':p∈pinsAt [s2.heap.objs.size] s5.heap:=(List.mem_append.mp hp).elim (fun z=>absurd (show p∈([]:List (Addr × Obj)) from z) (by simp)) id
        have:=(of_pinsAt hp').1
        rw [List.mem_singleton.mp this]
        exact fun e=>Dfp (by rw [e]; exact hb)
      . subst hr
        have hD6:=(I6.pin (s2.heap.objs.size,{ cls:=.type "list",data:=.seq its.toArray k }) (List.mem_append_right _ (mem_pinsAt (by simp) hD5))).1
        obtain ⟨m6,hn6,_⟩:=I6.loc
        refine ⟨m6,hn6,fun h' hs'=>?_⟩
        have hCn:s2.heap.get? G.objs.size=none:=by
          cases e:s2.heap.get? G.objs.size with
          | none=>rfl
          | some ob=>exact absurd (Heap.lt_size e) (by rw [hC]; exact Nat.not_lt.mpr (Nat.le_succ _))
        have neC:∀ b ob,s2.heap.get? b=some ob->b≠G.objs.size:=fun b ob e z=>by rw [z,hCn] at e; cases e
        have u6:Un (frs X.stack) fp H2 H5 s2.heap s6.heap:=I6.base
        have u7:Un (frs X.stack) fp H2 H5 s2.heap h':=⟨fun b ob e n hb hx=>hs'.extBut b ob (neC b ob e) (u6.keep b ob e n hb hx),fun b ob e n hb hx=>by
            obtain ⟨sl,q⟩:=u6.slot b ob e n hb hx
            exact ⟨sl,hs'.extBut b _ (neC b ob e) q⟩,u6.free,fun b ob e hx=>by
            obtain ⟨o',q⟩:=u6.there b ob e hx
            exact ⟨o',hs'.extBut b _ (neC b ob e) q⟩,u6.tups,u6.frzs,u6.tbls⟩
        have hC5:H5 G.objs.size=none:=I6.free
        have hok7:HOk X.prog X.w H5 h':=fun b ob e=>(I6.hok b ob e).stay (fun c u hc q=>hs'.extBut c u (by
            rintro rfl
            rcases hc with rfl | hc
            . rw [hC5] at e; cases e
            . rw [hC5] at hc; cases hc) q) (fun _ q=>q) fun _ _ q=>q
        have I7:Inv X pins σ H5 { s6 with heap:=h' }:=I2.call' (s':={ s6 with heap:=h' }) (I6.os) u7 hok7 I6.bare fun b hb=>⟨(f2 b hb).2.2.2.1,(f2 b hb).2.1,(f2 b hb).2.2.2.2.1,(f2 b hb).2.2.2.2.2⟩
        refine ⟨.ref s2.heap.objs.size,upd H5 s2.heap.objs.size (.lst ys),I7.track D5 I2.sz DL Dcl (fun p hp z=>?_) ?_,rfl,fin _ D5⟩
        . obtain ⟨e,_⟩:=I2.pin p hp
          rw [z] at e
          exact absurd (Heap.lt_size e) (Nat.lt_irrefl _)
        . exact ⟨Nat.le_of_lt hz,its,k,r5,hs'.extBut _ _ hDC hD6⟩
    . refine anyE (thn (T.item (cxComp X scope (compNs x fr) s2 H2 G.objs.size fp) rfl rfl rfl (hc' _) i (pinsAt [s2.heap.objs.size] s5.heap) s5 (o::compRest σ fr) H5 _ ?_ (fun b hb=>?_) st5 go) fun r s6 ⟨u,hr,h6⟩=>?_)
      . exact (Inv.pinned I5 (fp:=[s2.heap.objs.size]) (fun b hb=>by rw [List.mem_singleton.mp hb]; exact dok D5) fun b hb=>by
          rw [List.mem_singleton.mp hb]
          exact ⟨_,hD5,fun v z=>by cases z⟩)
      . obtain ⟨f0,f1,f2',f3,f4,f5⟩:=fok fr5 b hb
        refine ⟨f0,f1,f2',f3,f4,fun p hp=>?_⟩
        have hp':p∈pinsAt [s2.heap.objs.size] s5.heap:=(List.mem_append.mp hp).elim (fun z=>absurd (show p∈([]:List (Addr × Obj)) from z) (by simp)) id
        have:=(of_pinsAt hp').1
        rw [List.mem_singleton.mp this]
        exact fun e=>Dfp (by rw [e]; exact hb)
      . subst hr
        refine thn h6 fun _ s7 ⟨v,H7,I7,rv,y7,st7,fr7⟩=>?_
        have p7:=I7.pin (s2.heap.objs.size,{ cls:=.type "list",data:=.seq its.toArray k }) (List.mem_append_right _ (mem_pinsAt (by simp) hD5))
        have hD7:s7.heap.get? s2.heap.objs.size=some { cls:=.type "list",data:=.seq its.toArray k }:=p7.1
        have D7:H7 s2.heap.objs.size=none:=p7.2.1
        have I7u:Inv (cxComp X scope (compNs x fr) s2 H2 G.objs.size fp) [] (o::compRest σ fr) H7 s7:=Inv.unpinned (pins:=[]) I7
        have I8:=Inv.pinned I7u (fp:=s2.heap.objs.size::fp) (fun b hb=>by
            rcases List.mem_cons.mp hb with e | hb
            . rw [e]; exact dok D7
            . exact fok fr7 b hb) fun b hb=>by
            rcases List.mem_cons.mp hb with e | hb
            . rw [e]; exact ⟨_,hD7,fun v z=>by cases z⟩
            . exact T.obj _ _ st7 b hb
        have hl : Loc (cxComp X scope (compNs x fr) s2 H2 G.objs.size fp).env.scope x := .inl (lookup_relabel_local B.here)
        have pk:∀ {σ':St} {H':Hp} {s':Shared},Inv (cxComp X scope (compNs x fr) s2 H2 G.objs.size fp) ([]++pinsAt (s2.heap.objs.size::fp) s7.heap) σ' H' s' ->
            tn (i + 1) s'.heap∧(∀ b∈fp,H' b=none)∧H' s2.heap.objs.size=none∧s'.heap.get? s2.heap.objs.size=some { cls:=.type "list",data:=.seq its.toArray k }:=fun {σ' H' s'} I'=>by
          have pD:=I'.pin (s2.heap.objs.size,{ cls:=.type "list",data:=.seq its.toArray k }) (List.mem_append_right _ (List.mem_append_right _ (mem_pinsAt (by simp) hD7)))
          refine ⟨T.keep _ _ _ st7 fun b hb ob e=>(I'.pin (b,ob) (List.mem_append_right _ (List.mem_append_right _ (mem_pinsAt (List.mem_cons_of_mem _ hb) e)))).1,fun b hb=>?_,pD.2.1,pD.1⟩
          obtain ⟨ob,e,_⟩:=T.obj _ _ st7 b hb
          exact (I'.pin (b,ob) (List.mem_append_right _ (List.mem_append_right _ (mem_pinsAt (List.mem_cons_of_mem _ hb) e)))).2.1
        refine anyE (thn (pg_name (X := cxComp X scope (compNs x fr) s2 H2 G.objs.size fp) (i := 0) B.nd rfl hl (.inr (lookup_relabel_local B.here)) _ s7 _ H7 v u (fun σ' H' => σ' = some v :: compRest σ fr ∧ H' = H7) I8 rv ⟨rfl, rfl⟩) fun _ s8 ⟨σ8, H8, I9, e1, e2⟩ => ?_)
        subst e1 e2
        refine anyE (thn (ht s2 H2 G.objs.size fp _ s8 _ H8 _ I9 (step v H8 y7)) fun ok s9 ⟨H9,I10,q10⟩=>?_)
        cases ok with
        | false =>
          rw [if_neg Bool.false_ne_true] at q10
          rw [if_neg Bool.false_ne_true]
          obtain ⟨m',hm,w'⟩:=q10
          obtain ⟨k1,k2,k3,k4⟩:=pk I10
          exact ⟨m',hm,i + 1,some v,H9,ys,its,k,Inv.unpinned (pins:=[]) I10,k1,k2,k3,k4,r5,w'⟩
        | true =>
          rw [if_pos rfl] at q10
          rw [if_pos rfl]
          refine anyE (thn (he s2 H2 G.objs.size fp _ s9 _ H9 _ I10 q10) fun y' s10 ⟨y,H10,I11,ry,m',hm,w'⟩=>?_)
          obtain ⟨k1,k2,k3,k4⟩:=pk I11
          refine append_at k4 (fun h' hs' hD'=>?_) (by rw [List.size_toArray]; exact hzl)
          have I12:Inv (cxComp X scope (compNs x fr) s2 H2 G.objs.size fp) [] (some v::compRest σ fr) H10 { s10 with heap:=h' } :=
            (Inv.unpinned (pins:=[]) I11).turned (t':=s10.toks) (it:=s2.heap.objs.size) (fun b ob hb e=>(hs'.2 b hb).trans e) k3 hDC (.inr (Nat.le_refl _)) (fun z c e=>Dcl z c (B.sub I2.ok _ _ e)) fun p hp=>absurd (show p∈([]:List (Addr × Obj)) from hp) (by simp)
          refine ⟨m',hm,i + 1,some v,H10,ys++[y],its++[y'],k + 1,I12,T.keep _ _ _ k1 fun b hb ob e=>(hs'.2 b fun z=>Dfp (by rw [← z]; exact hb)).trans e,k2,k3,?_,r5.append (.cons ry .nil),w'⟩
          rw [hD']
          simp
  exact codeAny_compStart_list (loop _ rfl) (T.self _ 0 _ _ _ tn4 (loop _ rfl))
end
structure RoomH (k:Nat) (A:Around):Prop where
  dp:A.depth + 3 * k + 5 < recursionLimit
  un:A.units + 16 * k + 200 < cLine
theorem RoomH.deeper {k:Nat} {A:Around} (r:RoomH (k + 1) A) (env:Env):RoomH k (A.deeper env) :=
  ⟨by have:=r.dp; show A.depth + 1 + 3 * k + 5 < _; omega,by have:=r.un; show A.units + 3 + 16 * k + 200 < _; omega⟩
theorem Room.toH {k:Nat} {A:Around} {v:Option Value} (r:Room k A):RoomH k (A.mark v):=⟨r.dp,r.un⟩
theorem RoomH.units {k:Nat} {A:Around} (r:RoomH k A):A.units + 64 < cLine:=by have:=r.un; omega
abbrev Cx.noc (X:Cx):Cx:={ X with calm:=false }
theorem Inv.noc {X:Cx} {A:Around} {pins:List (Addr × Obj)} {σ:St} {H:Hp} {s:Shared} {xe:Value->Shared->Prop} (I:Inv X pins σ H s) (hf:A.frames=some X.stack):Inv { X with A:=A,calm:=false,xe:=xe } pins σ H s :=
  ⟨⟨I.ok.mod,I.ok.kind,I.ok.glob,I.ok.blt,I.ok.above,I.ok.inj,I.ok.has,I.ok.cab,fun h=>absurd (show false=true from h) Bool.false_ne_true,hf,I.ok.stk,I.ok.exf,I.ok.bs,I.ok.bsz,I.ok.noex,I.ok.exfs,I.ok.funs,I.ok.frf⟩,I.os,I.bare,I.base,I.loc,I.cell,I.free,I.freeC,I.pin,I.hok,I.len⟩
structure FnOkH (P:Program) (w:World) (K:PySem.W.Frag) (mg:Str->Option Value) (base:Heap) (k:Nat) (f:Addr) (fd:FuncData) (ps:List Str) (sp:Sp):Prop where
  len:∀ vs H Q E,sp vs H Q E->vs.length=ps.length
  run:∀ (A:Around) (outer:List Env) (s:Shared) (H:Hp) (args:Args) (us:List Value) (vs:List V) (Q:VK) (e:Addr) (oe:Obj) (u:HO) (ws:Array Value),A.handled=some (.ref e)->H e=some (.frz oe u)->oe.data=.fields ws->ws[2]?=some .none ->
    RoomH k A->Env0 P w K mg base A outer s H->BindsTo s fd args (ps.zip us)->Vals vs us->sp vs H Q E0->codeAny (model P w) A (.call (.ref f) args) (CR CX0 outer P w H s Q E0) s
structure DefH (P:Program) (w:World) (K:PySem.W.Frag) (mg:Str->Option Value) (base:Heap) (k:Nat) (x:Str) (ps:List Str) (sp:Sp):Prop where
  ex:∃ (f:Addr) (fd:FuncData),FnOkH P w K mg base k f fd ps sp∧mg x=some (.ref f)∧PySem.W.keepIn K (.ref f)=true∧Binds K fd ps []
theorem Top.defH {P:Program} {w:World} {K:PySem.W.Frag} {mg:Str->Option Value} {base:Heap} {x:Str} {st:Stmt} {N ps:List Str} {k:Nat} {sp:Sp} (T:Top K mg x st) (S:FnScope N ps (defScope st)) (len:∀ vs H Q E,sp vs H Q E->vs.length=ps.length)
    (hb:∀ (kV doc pm:Value) (an:Option Addr) (cdv ct:Value) (us:List Value),us.length=ps.length->bindArgs (PySem.W.fnOf x x (defArgs st) (defBody st) (defScope st) .none kV doc pm an cdv ct) ⟨us,[]⟩=pure (ps.zip us))
    (hbody:∀ (f:Addr) (cdv:Value) (A:Around) (outer:List Env) (s:Shared) (H:Hp) (vs:List V) (Q:VK),RoomH k (A.deeper (envOfC x (defScope st) s.heap.objs.size f cdv))->HX (cxOf CX0 P w K mg base N x (defScope st) f cdv A outer s H E0).nox.noc->sp vs H Q E0 ->
      ∃ t,PSs (cxOf CX0 P w K mg base N x (defScope st) f cdv A outer s H E0).nox.noc (defBody st) t∧t { nx:=fun _ H'=>Q .non H',rt:=Q } (start N vs) H):DefH P w K mg base (k + 1) x ps sp:=by
  obtain ⟨f,fd,F,m⟩:=T.ex
  refine ⟨⟨f,fd,?_,m,F.kp,F.binds hb⟩⟩
  obtain ⟨oc,od,kV,doc,pm,an,cdv,ct,osl,rfl,lk,hcd⟩:=F.ex
  refine ⟨len,fun A outer s H args us vs Q e oe u ws hh hH hod hw2 hr e0 hb r hsp=>?_⟩
  have hl:=len _ _ _ _ hsp
  have KX:K.In s.heap:=e0.mod.kin.keeps fun b o e=>(e0.bs b o e).1
  have lim:s.heap.NoLimit:=e0.mod.nolimit.keeps fun b o e=>(e0.bs b o e).1
  have hkind:∀ y∈ps.zip us,(defScope st).names.lookup y.1=some .local∨((defScope st).names.lookup y.1=some .cell∧((cellsFrom (s.heap.objs.size + 1) (defScope st).names []).lookup y.1).isSome=true):=fun ⟨n,v⟩ hy=>by
    rcases S.par n (List.of_mem_zip hy).1 with q | q
    . exact .inl q
    . exact .inr ⟨q,PySem.W.cellsFrom_some _ _ _ (.inl q)⟩
  refine codeAny_call_function (by have:=hr.dp; omega) (KX _ _ lk) rfl S.co S.gen rfl (PySem.W.codeRec_of KX hcd) (hb _ _ _ _ ?_)
  refine wpAny_newFunctionEnv_cells S.kind hkind fun env he s1 x1=>?_
  subst he
  refine ⟨lim.keeps x1.toInCall.keep,codeAny_func ?_⟩
  obtain ⟨t,ht,hq⟩:=hbody f cdv A outer s H vs Q (hr.deeper _) ⟨e,oe,u,ws,hh,hH,hod,hw2⟩ hsp
  have e1:Env0 P w K mg base { A with handled:=none } outer s H:=⟨e0.frames,e0.mod,e0.bs,e0.bsz,e0.funs,e0.frf,e0.hok,e0.bare⟩
  have I0:Inv (cxOf CX0 P w K mg base N x (defScope st) f cdv { A with handled:=none } outer s H E0) [] (start N vs) H s1:=inv_start S rfl e1 hl r x1
  have I:Inv (cxOf CX0 P w K mg base N x (defScope st) f cdv A outer s H E0).nox.noc [] (start N vs) H s1:=I0.noc (Around.frames_deeper e0.frames)
  refine wpAny_mono (ht [] s1 (start N vs) H _ I hq) (fun fl s' hs=>?_) fun e s' hs=>hs.elim
  have fin:∀ {σ':St} {H':Hp} {v:V} {u:Value},Inv (cxOf CX0 P w K mg base N x (defScope st) f cdv A outer s H E0).nox.noc [] σ' H' s'->RelV v u->Q v H'->CE outer P w H s Q u s' :=
    fun {σ' H' v u} J rv q=>⟨v,H',J.os,J.bare,J.base,J.hok,rv,q⟩
  cases fl with
  | ret u =>
    obtain ⟨v,σ',H',J,rv,q⟩:=hs
    exact fin J rv q
  | next =>
    obtain ⟨σ',H',J,q⟩:=hs
    exact fin (v:=V.non) (u:=Value.none) J rfl q
  | brk =>
    obtain ⟨_,_,_,q⟩:=hs
    exact False.elim q
  | cont =>
    obtain ⟨_,_,_,q⟩:=hs
    exact False.elim q
def tCallH (e:Addr) (sp:Sp) (t:TA):TE:=fun σ H Q=>t σ H fun vs H1=>∃ φ,vs=[.ref e]∧H1 e=some (.ext φ)∧(∀ h,φ h->ctxN e h)∧∀ oe,sp [.ref e] (upd H1 e (.frz oe (.ext φ))) (fun v H2=>H2 e=some (.frz oe (.ext φ))->Q v (upd H2 e (.ext φ))) E0
theorem HOk.swap {P:Program} {w:World} {H:Hp} {h:Heap} {e:Addr} {u u':HO} (k:HOk P w H h) (he:H e=some u) (h1:∀ x,u≠.own x) (h2:∀ xs,u≠.tup xs) (ok:ObjOk P w (upd H e u') h e u'):HOk P w (upd H e u') h:=fun b v q=>by
  by_cases z:b=e
  . subst z; rw [upd_same] at q; cases q; exact ok
  . rw [upd_ne z] at q
    exact (k b v q).stay (fun _ _ _ r=>r) (fun c r=>by rw [upd_ne (ne_of r he (fun z=>h1 _ z.symm))]; exact r) fun c xs r=>by rw [upd_ne (ne_of r he (fun z=>h2 _ z.symm))]; exact r
theorem pe_callH {X:Cx} {k:Nat} {x:Str} {e:Addr} {ps:List Str} {sp:Sp} {p pos:Pos} {a:Expr} {t:TA} (hh:X.A.handled=some (.ref e)) (D:DefH X.prog X.w X.K X.mg X.base k x ps sp) (hr:RoomH k X.A) (ha:PA X [a] t) (hg:Gl X x:=by rfl)
    (hdb:(x == ("__debug__":Str))=false:=by decide) (he:starEach [a] X.env=(false,eval a X.env)::starEach [] X.env:=by rfl) (hpl:(backTo pos (starEach [] X.env)).any (·.1)=false:=by rfl) :
    PE X (.Call (.Name x p) [a] [] pos) (tCallH e sp t):=by
  obtain ⟨f,fd,F,hm,hk,hb⟩:=D.ex
  intro pins s σ H Q I h
  refine wpAny_Call_Name_kw (ld_glob I hg hm ?_ hdb)
  refine PySem.W.callWith_K (h₀:=X.base) I.ok.mod.kin hk (thn (ha pos pins s σ H _ I h) fun us s1 ⟨vs,H1,I1,r,φ,ev,h1,h2,h3⟩=>⟨I1.kIn,?_⟩) he hpl
  subst ev
  have ok1:=I1.hok e _ h1
  obtain ⟨oe,ws,g1,g2,g3⟩:=h2 _ ok1.1
  have hl:us.length=ps.length:=by rw [← r.length]; exact F.len _ _ _ _ (h3 oe)
  have hbt:=hb s1 us I1.kIn (by rw [List.append_nil]; exact hl)
  rw [List.append_nil] at hbt
  have ne1:∀ b,H1 b=none->b≠e:=fun b z y=>by rw [y,h1] at z; cases z
  have E1:=I1.env0
  have hokF:HOk X.prog X.w (upd H1 e (.frz oe (.ext φ))) s1.heap:=I1.hok.swap h1 (fun _ z=>by cases z) (fun _ z=>by cases z) ⟨g1,ok1⟩
  have E2:Env0 X.prog X.w X.K X.mg X.base X.A X.stack s1 (upd H1 e (.frz oe (.ext φ))) :=
    ⟨E1.frames,E1.mod,fun b o q=>⟨(E1.bs b o q).1,by rw [upd_ne (ne1 b (E1.bs b o q).2)]; exact (E1.bs b o q).2⟩,E1.bsz,E1.funs,fun b q=>by rw [upd_ne (ne1 b (E1.frf b q))]; exact E1.frf b q,hokF,E1.bare⟩
  refine wpAny_call (codeAny_mono (F.run X.A X.stack s1 _ ⟨us,[]⟩ us _ _ e oe (.ext φ) ws hh upd_same g2 g3 hr E2 hbt r (h3 oe)) fun r s' hq=>?_)
  cases r with
  | error ev=>exact (show False from hq).elim
  | ok fl =>
    cases fl with
    | next=>exact False.elim hq
    | brk=>exact False.elim hq
    | cont=>exact False.elim hq
    | ret u =>
      obtain ⟨v,H',os,bare,un,hok,rv,q⟩:=hq
      have he':=un.frzs e _ _ upd_same
      have okE:=hok e _ he'
      refine I1.after ⟨v,upd H' e (.ext φ),os,bare,⟨fun b o q n hb hx=>?_,fun b o q n hb hx=>?_,fun b o q n hx=>?_,un.there,fun b xs q=>?_,fun b o u q=>?_,fun b ps q=>?_⟩,?_,rv,q he'⟩
      . exact un.keep b o q (by rw [upd_ne (ne1 b n)]; exact n) hb hx
      . exact un.slot b o q (by rw [upd_ne (ne1 b n)]; exact n) hb hx
      . rw [upd_ne (ne1 b n)]; exact un.free b o q (by rw [upd_ne (ne1 b n)]; exact n) hx
      . have hn:=ne_of q h1 (fun z=>by cases z)
        rw [upd_ne hn]; exact un.tups b xs (by rw [upd_ne hn]; exact q)
      . have hn:=ne_of q h1 (fun z=>by cases z)
        rw [upd_ne hn]; exact un.frzs b o u (by rw [upd_ne hn]; exact q)
      . have hn:=ne_of q h1 (fun z=>by cases z)
        obtain ⟨more,z⟩:=un.tbls b ps (by rw [upd_ne hn]; exact q)
        exact ⟨more,by rw [upd_ne hn]; exact z⟩
      . exact hok.swap he' (fun _ z=>by cases z) (fun _ z=>by cases z) okE.2
end L2
set_option Elab.async false
set_option linter.all false
set_option maxRecDepth 100000
namespace Mir
open PySem L2
section
variable [Zc] [Zl] {W:WX}
theorem StO.swapX {A:List Addr} {B H:Hp} {S:List (Option Cl)} {e:Addr} {oe:Obj} {φ:Heap->Prop} {u u':HO} (O:StO A B H S) (he:H e=some u) (hu:(u=.ext φ∧u'=.frz oe (.ext φ))∨(u=.frz oe (.ext φ)∧u'=.ext φ)):StO A B (upd H e u') S:=by
  have mu:MxF u:=by rcases hu with ⟨rfl,rfl⟩ | ⟨rfl,rfl⟩ <;> first | exact .inl trivial | exact .inr ⟨_,_,rfl⟩
  have mu':MxF u':=by rcases hu with ⟨rfl,rfl⟩ | ⟨rfl,rfl⟩ <;> first | exact .inl trivial | exact .inr ⟨_,_,rfl⟩
  refine ⟨O.len,O.nd,O.dis,fun a ha=>?_,fun k c a h1 h2=>?_⟩
  . by_cases z:a=e
    . subst z; exact ⟨u',upd_same,mu'⟩
    . rw [upd_ne z]; exact O.mx a ha
  . by_cases z:a=e
    . subst z
      have no:∀ o:HO,H a=some o->(∀ ψ,o≠.ext ψ)->(∀ ob v,o≠.frz ob v)->False:=fun o h x1 x2=>by
        rw [he] at h; cases h
        rcases hu with ⟨rfl,rfl⟩ | ⟨rfl,rfl⟩
        . exact x1 _ rfl
        . exact x2 _ _ rfl
      cases O.cell k c a h1 h2 with
      | dat h=>cases h with
        | lst h _=>exact (no _ h (fun _ z=>by cases z) fun _ _ z=>by cases z).elim
        | dct h _=>exact (no _ h (fun _ z=>by cases z) fun _ _ z=>by cases z).elim
      | obj h _ _=>exact (no _ h (fun _ z=>by cases z) fun _ _ z=>by cases z).elim
      | lst h _=>exact (no _ h (fun _ z=>by cases z) fun _ _ z=>by cases z).elim
      | dct h _=>exact (no _ h (fun _ z=>by cases z) fun _ _ z=>by cases z).elim
      | @exc c n ψ h p1 p2 =>
        have hφ : ψ=φ:=by
          rcases h with h | ⟨o,h⟩
          . rw [he] at h
            rcases hu with ⟨rfl,rfl⟩ | ⟨rfl,rfl⟩ <;> cases h
            rfl
          . rw [he] at h
            rcases hu with ⟨rfl,rfl⟩ | ⟨rfl,rfl⟩ <;> cases h
            rfl
        subst hφ
        refine .exc ?_ p1 fun k ek=>?_
        . rcases hu with ⟨rfl,rfl⟩ | ⟨rfl,rfl⟩
          . exact .inr ⟨oe,upd_same⟩
          . exact .inl upd_same
        . obtain ⟨dx,q1,q2⟩:=p2 k ek
          refine ⟨dx,q1,?_⟩
          rw [upd_ne (fun z=>by subst z; rw [he] at q2; cases q2; exact not_xd mu)]; exact q2
    . refine (O.cell k c a h1 h2).mono (Gro.refl _) (Same.refl _) (fun o h=>by rw [upd_ne z]; exact h) fun q o h hm=>?_
      rw [upd_ne (fun z=>by subst z; rw [he] at h; cases h; exact hm mu)]; exact h
theorem RelN.postH {G:FrN} {A A':List Addr} {B H B' H':Hp} {σ:St} {s:SS} {S':List (Option Cl)} {v:V} {r:SV} {e:Addr} {oe:Obj} {φ:Heap->Prop} (R:RelN G A B H σ s) (he:H e=some (.ext φ)) (hA:e∈A)
    (P:PostN A B (upd H e (.frz oe (.ext φ))) A' B' H' S' v r) (hf:H' e=some (.frz oe (.ext φ))):RelN G A' B' (upd H' e (.ext φ)) σ ⟨S',s.t⟩:=by
  have hA':e∈A':=by
    obtain ⟨k,hk⟩:=List.mem_iff_getElem?.mp hA
    exact List.mem_of_getElem? (P.gro k e hk)
  have hB':=P.st.dis e hA'
  have nG:∀ q o,G.H q=some o->q ∉ G.io->q ∉ A:=fun q o h n z=>by
    rcases R.fresh q z with h1 | h1
    . exact n h1
    . rw [h1] at h; cases h
  refine ⟨fun q o h=>?_,R.sB.trans P.eB,fun q xs h=>?_,fun q o h n=>?_,fun q h z=>?_,R.pre.trans P.gro,fun a ha=>?_,P.st.swapX hf (.inr ⟨rfl,rfl⟩),R.len,fun i x h=>?_,fun q o u h=>?_⟩
  . rw [upd_ne (fun z=>by rw [z,hB'] at h; cases h)]; exact P.sub q o h
  . by_cases z:q=e
    . subst z; rw [upd_same] at h; cases h
    . rw [upd_ne z] at h; exact P.tB q xs h
  . have hq:=nG q o h n
    have z:q≠e:=fun z=>hq (z ▸ hA)
    rw [upd_ne z]
    exact P.kept q o (by rw [upd_ne z]; exact R.kept q o h n) hq
  . refine P.nb q (fun hq=>?_) (R.nB q h z)
    by_cases y:q=e
    . subst y; rw [upd_same] at hq; cases hq
    . rw [upd_ne y] at hq; exact h (R.newG hq).1
  . rcases P.fresh a ha with h | h
    . exact R.fresh a h
    . by_cases y:a=e
      . subst y; rw [upd_same] at h; cases h
      . rw [upd_ne y] at h; exact .inr (R.newG h).1
  . obtain ⟨w,h1,h2⟩:=R.slot i x h
    exact ⟨w,h1,h2.mono P.gro P.eB⟩
  . by_cases y:q=e
    . subst y; rw [upd_same] at h; cases h
    . rw [upd_ne y] at h
      obtain ⟨o0,u0,h0⟩:=P.nz q o u h
      rw [upd_ne y] at h0
      exact R.nz q o0 u0 h0
theorem ns_callH {G:FrN} {A:List Addr} {B H:Hp} {σ:St} {s:SS} {i n:Nat} {e:Addr} {φ:Heap->Prop} {f:FN} {g:SV->SN} {rest:SN} {tg:TG} {tr:TS} {o:NOut} {D:Ends} (R:RelN G A B H σ s) (hi:s.t[i]?=some (some (.lc n))) (hA:A[n]?=some e) (he:H e=some (.ext φ)) (hφ:∀ h,φ h->ctxN e h)
    (hg:NG W0 tg g) (hr:NS W0 tr rest) (hm:nSeq (nAsg (nCall f (naCons (nVar i) naNil)) g) rest s=some o) (ho:∀ x s',o≠.er x s') (q:NOk G W0 D o):tSeq (tAsg (tCallH e (spQ f) (tCons (tVar i) tNil)) tg) tr D σ H:=by
  have hv:(naCons (nVar i) naNil) s=some (.ok [.lc n] s):=by simp [naCons,naNil,nVar,bN,hi]
  obtain ⟨v0,hv1,hv2⟩:=R.slot i _ hi
  obtain rfl:v0=.ref e:=by cases hv2 with | lc h=>rw [hA] at h; cases h; rfl
  refine ⟨.ref e,hv1,φ,rfl,he,hφ,fun oe=>?_⟩
  unfold nSeq nAsg bS nCall bN at hm
  simp only [hv] at hm
  cases hw:f s.S [.lc n] with
  | none=>rw [hw] at hm; cases hm
  | some w =>
    rw [hw] at hm
    have eH:Same B (upd H e (.frz oe (.ext φ))):=fun p u h=>by rw [upd_ne (fun z=>by rw [z,R.st.dis e (List.mem_of_getElem? hA)] at h; cases h)]; exact R.sub p u h
    refine ⟨A,B,s.S,[.lc n],w,eH,fun p xs h=>?_,R.st.swapX he (.inl ⟨rfl,rfl⟩),.cons (.lc hA) .nil,hw,?_⟩
    . by_cases z:p=e
      . subst z; rw [upd_same] at h; cases h
      . rw [upd_ne z] at h; exact R.tupB p xs h
    . cases w with
      | er x S'=>cases hm; exact (ho _ _ rfl).elim
      | ok r S' =>
        intro v A' B' H' P hf
        have R2:=R.postH he (List.mem_of_getElem? hA) P hf
        simp only [Option.map,frR] at hm
        cases hz:g r ⟨S',s.t⟩ with
        | none=>rw [hz] at hm; cases hm
        | some o1 =>
          rw [hz] at hm
          refine hg G A' B' _ σ _ v r o1 { D with nx:=tr D } R2 P.val hz ?_
          cases o1 with
          | nx s1=>exact fun A4 B4 H4 σ4 R4=>hr G A4 B4 H4 σ4 s1 o D R4 hm q
          | rt r1 s1=>cases hm; exact q
          | bk s1=>cases hm; exact q
          | ct s1=>cases hm; exact q
          | er y s1=>cases hm; exact q
theorem ns_tryC {tb:TXD} {b rest:SN} {i:Nat} {su:Str->Bool} {ok:Value->Prop} {f:FN} {g:SV->SN} {tg:TG} {tr:TS} (hb:NXF tb b) (hok:∀ c,su c=true->ok (Zl.cl c)) (hg:NG W0 tg g) (hr:NS W0 tr rest) :
    NS W (tTryG tb i ok (fun _ e=>tSeq (tAsg (tCallH e (spQ f) (tCons (tVar i) tNil)) tg) tr)) (nTryG b i su (nSeq (nAsg (nCall f (naCons (nVar i) naNil)) g) rest)):=by
  intro G A B H σ s o D R e q
  unfold nTryG at e
  split at e
  . rename_i x s1 h1
    split at e
    . rename_i hz
      obtain ⟨o2,h2,h3⟩:=Option.bind_eq_some_iff.mp e
      have fin:∀ {A1:List Addr} {B1 H1:Hp} {σ1:St} {ea:Addr} {φ:Heap->Prop},RelN G A1 B1 H1 σ1 s1->H1 ea=none->(∀ h,φ h->excAt ea (Zl.cl x.c) h)->(∀ h,φ h->ctxN ea h)->(∀ k,x.by_=some k->∃ dx,(∀ h,φ h->excB ea (Zl.cl x.c) dx h)∧H1 dx=some (.xd [("by",.int k)])) ->
          tSeq (tAsg (tCallH ea (spQ f) (tCons (tVar i) tNil)) tg) tr (D.drop i) (σ1.set i (some (.ref ea))) (upd H1 ea (.ext φ)):=fun {A1 B1 H1 σ1 ea φ} R1 hea p1 pc p2=>by
        have R2:=R1.layG (c:=x.c) (n:=x.by_) hea p1 p2
        have hat:(A1++[ea])[s1.S.length]?=some ea:=by rw [← R1.st.len]; exact List.getElem?_concat_length
        have R3:=R2.set (i:=i) (v:=.ref ea) (x:=.lc s1.S.length) hz.2 (.lc hat)
        refine ns_callH R3 (List.getElem?_set_self hz.2) hat upd_same pc hg hr h2 (fun y s' z=>by subst z; cases h3) ?_
        cases o2 with
        | nx s2=>cases h3; exact fun A4 B4 H4 σ4 R4=>q A4 B4 H4 _ (R4.unset i)
        | bk s2=>cases h3; exact fun A4 B4 H4 σ4 R4=>q A4 B4 H4 _ (R4.unset i)
        | ct s2=>cases h3; exact fun A4 B4 H4 σ4 R4=>q A4 B4 H4 _ (R4.unset i)
        | rt r s2=>cases h3; exact q
        | er y s2=>cases h3
      refine hb _ G A B H σ s _ D R h1 fun A1 B1 H1 σ1 R1=>?_
      unfold ErS
      split
      . rename_i hn
        exact ⟨hok _ hz.1,fun ea hea=>fin R1 hea (fun h z=>extO_at z) (fun h z=>extO_ctx z) fun k hk=>by rw [hn] at hk; cases hk⟩
      . rename_i n hn
        refine fun dx hdx=>⟨hok _ hz.1,fun ea hea=>?_⟩
        have R2:=R1.junk (u:=.xd [("by",.int n)]) hdx (fun xs z=>by cases z) (fun o v z=>by cases z)
        exact fin R2 hea (fun h z=>extO_at z) (fun h z=>extO_ctx z) fun k hk=>by rw [hn] at hk; cases hk; exact ⟨dx,fun h z=>extO_B z,upd_same⟩
    . cases e
  . rename_i o' hn
    refine hb _ G A B H σ s o D R e ?_
    cases o with
    | er x s'=>exact absurd e (hn x s')
    | nx s'=>exact q
    | rt r s'=>exact q
    | bk s'=>exact q
    | ct s'=>exact q
end
end Mir
set_option Elab.async false
set_option linter.all false
set_option maxRecDepth 100000
namespace L2
open PySem
structure WS (X:Cx) (st:Stmt) (t:TS):Prop where
  h:PS X st t
structure WSs (X:Cx) (ss:List Stmt) (t:TS):Prop where
  h:PSs X ss t
section
variable {X:Cx} {st:Stmt} {rest:List Stmt} {t u:TS} {pos:Pos}
theorem wss_cons (h1:WS X st t) (h2:WSs X rest u):WSs X (st::rest) (tSeq t u):=⟨pss_cons h1.h h2.h⟩
theorem wss_one (h1:WS X st t):WSs X [st] t:=⟨pss_one h1.h⟩
theorem w_ret {e:Expr} {te:TE} (h:PE X e te):WS X (.Return (some e) pos) (tRet te):=⟨ps_ret h⟩
theorem w_set {i:Nat} {x:Str} {e:Expr} {te:TE} {pos':Pos} (hN:X.N.Nodup) (hi:X.N[i]?=some x) (hx:Loc X.env.scope x) (he:PE X e te) (hs:swapsWith e (some (.Name x pos')) pos.line X.env=pure false:=by rfl) (hf:X.fn x=true∨X.env.scope.names.lookup x=some .local:=by first | exact .inl rfl | exact .inr rfl | assumption):WS X (.Assign [.Name x pos'] e pos) (tAsg te (gName i)):=⟨ps_set hN hi hx he hs hf⟩
theorem w_if {c:Expr} {a b:List Stmt} {tc:TT} (hc:PT X c tc) (ha:WSs X a t) (hb:WSs X b u):WS X (.If c a b pos) (tIfS tc t u):=⟨ps_if hc ha.h hb.h⟩
theorem wss_nil:WSs X [] tNext:=⟨pss_nil⟩
end
def rIsiD (xs:List V) (H:Hp) (Q:VK):Prop:=rIsi xs H Q∨∃ a o kvs n,xs=[.ref a,.ty n]∧(H a=some (.dK kvs)∨H a=some (.frz o (.dK kvs)))∧n∈tyAsked∧Q (.bl (tyIs "dict" n)) H
theorem call_isiD {X:Cx}:CallR X (.builtin "isinstance") rIsiD:=by
  intro pins s σ H xs us Q I r h
  rcases h with h | ⟨a,o,kvs,n,rfl,hd,h2,q⟩
  . exact call_isi pins s σ H xs us Q I r h
  . obtain ⟨u,v,rfl,ru,rv⟩:=vals2 r
    cases rv
    have fin:∀ {vs} {h:Heap},h=s.heap->h.DictOf (mixKind X.prog X.w) a vs->wpAny (model X.prog X.w) X.A (call (.builtin "isinstance") [u,.type n]) (EP X pins σ Q) X.xe s:=fun {vs h} eh p=>by
      subst eh
      cases (show u=Value.ref a from ru)
      obtain ⟨o,es,ep,h1,h3,_⟩:=p
      exact PySem.W.kia_one PySem.W.kitx_dict I.kIn ⟨o,h1,h3.1⟩ (kit_known X.K "dict" (by decide) n h2) (fun z=>nomatch z) fun tk=>⟨.bl _,H,I.tok tk,rfl,q⟩
    rcases hd with hd | hd
    . obtain ⟨_,_,vs,_,p⟩:=(show ObjOk X.prog X.w H s.heap a (.dK kvs) from I.hok a _ hd)
      exact fin rfl p
    . obtain ⟨_,_,_,vs,_,p⟩:=(show ObjOk X.prog X.w H s.heap a (.frz o (.dK kvs)) from I.hok a _ hd)
      exact fin rfl p
end L2
namespace Mir
open PySem L2
section
variable [Zc]
def gIsiD (n:String):D->Option (D × Bool)
  | .dict _=>if n∈tyAsked then some (.bool (tyIs "dict" n),false) else none
  | d=>gIsi n d
def mIsiD (n:String) (a:PM):PM:=mUn (gIsiD n) a
theorem me_isiD {n:String} {ta:TE} {a:PM} (ha:ME ta a):ME (tCB rIsiD (tCons ta (tCons (tC (.ty n)) tNil))) (mIsiD n a):=by
  intro F B H σ ρ r0 ρ' Q R e q
  obtain ⟨x,e1,e⟩:=Option.bind_eq_some_iff.mp e
  obtain ⟨res,e4,e⟩:=Option.map_eq_some_iff.mp e
  cases e
  by_cases hd:∃ es,x.1.1=.dict es
  . obtain ⟨es,hd⟩:=hd
    refine ha.sv F B H σ ρ x.1 x.2 _ R e1 fun v B1 H1 E1 R1 V1 N1=>?_
    rw [hd] at e4
    have e4':(if n∈tyAsked then some ((PyData.bool (tyIs "dict" n),false):D × Bool) else none)=some res:=e4
    by_cases hn:n∈tyAsked
    . rw [if_pos hn] at e4'
      cases e4'
      have rp:=(V1.view R1).rep R1.sub
      rw [hd] at rp
      cases rp with
      | dct h _ =>
        rcases h with h | ⟨o,h⟩
        . exact .inr ⟨_,⟨.none,none,.plain,#[]⟩,_,n,rfl,.inl h,hn,q _ B1 H1 E1 R1 (.bl _) fun p z=>by cases z⟩
        . exact .inr ⟨_,o,_,n,rfl,.inr h,hn,q _ B1 H1 E1 R1 (.bl _) fun p z=>by cases z⟩
    . rw [if_neg hn] at e4'; cases e4'
  . have e5:gIsi n x.1.1=some res:=by
      revert e4 hd
      cases x.1.1 with
      | dict es=>intro _ hd; exact absurd ⟨es,rfl⟩ hd
      | _=>intro e4 _; exact e4
    refine ha.sv F B H σ ρ x.1 x.2 _ R e1 fun v B1 H1 E1 R1 V1 N1=>.inl ?_
    unfold gIsi at e5
    split at e5
    . rename_i hd'
      cases e5
      have rp:=(V1.view R1).rep R1.sub
      have ht:=rp.ty hd'.1
      have hk:tyD x.1.1∈tyKnown:=by
        have h2:=hd'.1
        revert h2
        cases x.1.1 with
        | none=>intro _; show "NoneType"∈tyKnown; decide
        | bool _=>intro _; show "bool"∈tyKnown; decide
        | int _=>intro _; show "int"∈tyKnown; decide
        | str _=>intro _; show "str"∈tyKnown; decide
        | list _=>intro _; show "list"∈tyKnown; decide
        | tuple _=>intro _; show "tuple"∈tyKnown; decide
        | dict _=>intro h2; exact absurd rfl h2
      exact ⟨v,n,rfl,by rw [ht]; exact hk,hd'.2,by rw [ht]; exact q _ B1 H1 E1 R1 (.bl _) fun p z=>by cases z⟩
    . cases e5
end
end Mir
namespace Mir
open PySem L2
def isiAll (K:PySem.W.Frag) (cv:Value):List (Str × Addr)->List (Str × Bool)->Bool
  | [],[]=>true
  | (a,D)::ns,(b,r)::l=>decide (a=b) && (decide (PySem.W.kitOne K (.ref D) cv=some r) && isiAll K cv ns l)
  | _,_=>false
theorem isiAll_get [Zl] {K:PySem.W.Frag} {cv:Value}:∀ {ns:List (Str × Addr)} {l:List (Str × Bool)},isiAll K cv ns l=true->AllP (fun p:Str × Addr=>Zl.cl p.1=.ref p.2∧ExcK K p.2) ns->AllP (fun p:Str × Bool=>∃ D,Zl.cl p.1=.ref D∧ExcK K D∧PySem.W.kitOne K (.ref D) cv=some p.2) l
  | [],[],_,_=>trivial
  | (a,D)::ns,(b,r)::l,h,k=>by
    simp only [isiAll,Bool.and_eq_true,decide_eq_true_eq] at h
    obtain ⟨rfl,h2,h3⟩:=h
    exact ⟨⟨D,k.1.1,k.1.2,h2⟩,isiAll_get h3 k.2⟩
  | [],_::_,h,_=>by cases h
  | _::_,[],h,_=>by cases h
end Mir
set_option Elab.async false
set_option linter.all false
set_option maxRecDepth 100000
namespace L2
open PySem PySem.Spec PyProof.Rows
section
variable {κ:Type} [DecidableEq κ]
def valV (kvs:List (κ × V)) (k : κ):Option V:=(kvs.find? fun kv=>decide (kv.1=k)).map (·.2)
def putK (kvs:List (κ × V)) (k : κ) (v:V):List (κ × V) :=
  if (kvs.any fun kv=>decide (kv.1=k))=true then kvs.map (fun kv=>if kv.1=k then (kv.1,v) else kv) else kvs++[(k,v)]
def dropK (kvs:List (κ × V)) (k : κ):List (κ × V):=kvs.filter fun kv=>decide (kv.1≠k)
theorem valV_pos {p : κ × V} {r:List (κ × V)} {k : κ} (e:p.1=k):valV (p::r) k=some p.2:=by simp [valV,List.find?_cons,e]
theorem valV_neg {p : κ × V} {r:List (κ × V)} {k : κ} (e : ¬ p.1=k):valV (p::r) k=valV r k:=by simp [valV,List.find?_cons,e]
theorem valV_any (k : κ):∀ kvs:List (κ × V),(kvs.any fun kv=>decide (kv.1=k))=(valV kvs k).isSome
  | []=>rfl
  | p::r=>by
    rw [List.any_cons]
    by_cases e:p.1=k
    . simp only [valV_pos e,decide_eq_true e,Bool.true_or,Option.isSome_some]
    . rw [valV_neg e,decide_eq_false e,Bool.false_or]; exact valV_any k r
theorem putK_new {kvs:List (κ × V)} {k : κ} (v:V) (h:valV kvs k=none):putK kvs k v=kvs++[(k,v)]:=by
  unfold putK
  rw [valV_any,h]
  exact if_neg (by decide)
theorem RelO.isSome_eq {o:Option V} {u:Option Value} (r:RelO o u):o.isSome=u.isSome:=by
  cases o with
  | none=>cases u with
    | none=>rfl
    | some _=>exact (show False from r).elim
  | some _=>cases u with
    | none=>exact (show False from r).elim
    | some _=>rfl
theorem RelO.getD {o:Option V} {u:Option Value} {d:V} {d':Value} (r:RelO o u) (rd:RelV d d'):RelV (o.getD d) (u.getD d'):=by
  cases o with
  | none=>cases u with
    | none=>exact rd
    | some _=>exact (show False from r).elim
  | some _=>cases u with
    | none=>exact (show False from r).elim
    | some _=>exact r
theorem KV.val {kvs:List (κ × V)} {vs:List (κ × Value)} (r:KV kvs vs) (k : κ):RelO (valV kvs k) (valueAt vs k):=by
  unfold KV at r
  induction r with
  | nil=>exact True.intro
  | @cons p q ps qs h t ih =>
    obtain ⟨h1,h2⟩:=h
    by_cases e:p.1=k
    . have e':q.1=k:=h1.symm.trans e
      have b:valueAt (q::qs) k=some q.2:=by simp [valueAt,List.find?_cons,e']
      rw [valV_pos e,b]; exact h2
    . have e' : ¬ q.1=k:=fun z=>e (h1.trans z)
      have b:valueAt (q::qs) k=valueAt qs k:=by simp [valueAt,List.find?_cons,e']
      rw [valV_neg e,b]; exact ih
theorem KV.any {kvs:List (κ × V)} {vs:List (κ × Value)} (r:KV kvs vs) (k : κ):(kvs.any fun kv=>decide (kv.1=k))=vs.any fun kv=>decide (kv.1=k):=by
  unfold KV at r
  induction r with
  | nil=>rfl
  | cons h t ih=>rw [List.any_cons,List.any_cons,ih,h.1]
theorem KV.repl {kvs:List (κ × V)} {vs:List (κ × Value)} (r:KV kvs vs) (k : κ) {y:V} {u:Value} (ry:RelV y u) :
    KV (kvs.map fun kv=>if kv.1=k then (kv.1,y) else kv) (vs.map fun kv=>if kv.1=k then (kv.1,u) else kv):=by
  unfold KV at r ⊢
  induction r with
  | nil=>exact .nil
  | @cons p q ps qs h t ih =>
    rw [List.map_cons,List.map_cons]
    refine .cons ?_ ih
    obtain ⟨h1,h2⟩:=h
    by_cases e:p.1=k
    . rw [if_pos e,if_pos (h1.symm.trans e)]; exact ⟨h1,ry⟩
    . rw [if_neg e,if_neg (fun z=>e (h1.trans z))]; exact ⟨h1,h2⟩
theorem KV.put {kvs:List (κ × V)} {vs:List (κ × Value)} (r:KV kvs vs) (k : κ) {y:V} {u:Value} (ry:RelV y u):KV (putK kvs k y) (stored vs k u):=by
  unfold putK stored
  rw [r.any k]
  by_cases e:(vs.any fun kv=>decide (kv.1=k))=true
  . rw [if_pos e,if_pos e]; exact r.repl k ry
  . rw [if_neg e,if_neg e]; exact Paired.snoc r ⟨rfl,ry⟩
theorem KV.drop {kvs:List (κ × V)} {vs:List (κ × Value)} (r:KV kvs vs) (k : κ):KV (dropK kvs k) (without vs k):=by
  unfold KV at r ⊢
  unfold dropK without
  induction r with
  | nil=>exact .nil
  | @cons p q ps qs h t ih =>
    obtain ⟨h1,h2⟩:=h
    rw [List.filter_cons,List.filter_cons]
    by_cases e:p.1=k
    . have a : ¬ decide (p.1≠k)=true:=by simp [e]
      have b : ¬ decide (q.1≠k)=true:=by simp [h1.symm.trans e]
      rw [if_neg a,if_neg b]; exact ih
    . have e' : ¬ q.1=k:=fun z=>e (h1.trans z)
      have a:decide (p.1≠k)=true:=by simp [e]
      have b:decide (q.1≠k)=true:=by simp [e']
      rw [if_pos a,if_pos b]; exact .cons ⟨h1,h2⟩ ih
theorem KV.length {kvs:List (κ × V)} {vs:List (κ × Value)} (r:KV kvs vs):kvs.length=vs.length:=Paired.length r
end
abbrev KT (H:Hp):List (List Key × V)->List (List Key × Addr × Value)->Prop:=Paired fun p q=>p.1=q.1∧H q.2.1=some (.tup (p.1.map kV))∧RelV p.2 q.2.2
theorem KT.val {H:Hp} {kvs:List (List Key × V)} {xs:List (List Key × Addr × Value)} (r:KT H kvs xs) (k:List Key):RelO (valV kvs k) ((atKey xs k).map (·.2)):=by
  induction r with
  | nil=>exact True.intro
  | @cons p q ps qs h t ih =>
    obtain ⟨h1,_,h2⟩:=h
    by_cases e:p.1=k
    . have e':q.1=k:=h1.symm.trans e
      have b:atKey (q::qs) k=some q.2:=by simp [atKey,List.find?_cons,e']
      rw [valV_pos e,b]; exact h2
    . have e' : ¬ q.1=k:=fun z=>e (h1.trans z)
      have b:atKey (q::qs) k=atKey qs k:=by simp [atKey,List.find?_cons,e']
      rw [valV_neg e,b]; exact ih
theorem KT.repl {H:Hp} {kvs:List (List Key × V)} {xs:List (List Key × Addr × Value)} (r:KT H kvs xs) (k:List Key) {y:V} {u:Value} (ry:RelV y u) :
    KT H (kvs.map fun kv=>if kv.1=k then (kv.1,y) else kv) (xs.map (putAt k u)):=by
  induction r with
  | nil=>exact .nil
  | @cons p q ps qs h t ih =>
    rw [List.map_cons,List.map_cons]
    refine .cons ?_ ih
    obtain ⟨h1,h2,h3⟩:=h
    unfold putAt
    by_cases e:p.1=k
    . rw [if_pos e,if_pos (h1.symm.trans e)]; exact ⟨h1,h2,ry⟩
    . rw [if_neg e,if_neg (fun z=>e (h1.trans z))]; exact ⟨h1,h2,h3⟩
theorem KT.put {H:Hp} {kvs:List (List Key × V)} {xs:List (List Key × Addr × Value)} (r:KT H kvs xs) (k:List Key) {b:Addr} {y:V} {u:Value} (hb:H b=some (.tup (k.map kV))) (ry:RelV y u) :
    KT H (putK kvs k y) (storedH xs k b u):=by
  have e:(kvs.any fun kv=>decide (kv.1=k))=(atKey xs k).isSome:=by
    rw [valV_any,(r.val k).isSome_eq,Option.isSome_map]
  unfold putK storedH
  rw [e]
  by_cases q:(atKey xs k).isSome=true
  . rw [if_pos q,if_pos q]; exact r.repl k ry
  . rw [if_neg q,if_neg q]; exact Paired.snoc r ⟨rfl,hb,ry⟩
theorem KT.keeps {H H':Hp} {kvs:List (List Key × V)} {xs:List (List Key × Addr × Value)} (r:KT H kvs xs) (ht:∀ b ys,H b=some (.tup ys)->H' b=some (.tup ys)):KT H' kvs xs :=
  Paired.mapP r fun _ _ z=>⟨z.1,ht _ _ z.2.1,z.2.2⟩
section
variable {P:Program} {w:World} {H:Hp} {h:Heap} {a:Addr}
end
def DGet (H:Hp) (a:Addr) (y:V) (r:Option V):Prop :=
  (∃ kvs k,Rd H a (.dK kvs)∧y=kV k∧r=valV kvs k)∨∃ kvs k b,Rd H a (.dT kvs)∧y=.ref b∧H b=some (.tup (k.map kV))∧r=valV kvs k
def DPut (H:Hp) (a:Addr) (y v:V) (H':Hp):Prop :=
  (∃ kvs k,H a=some (.dK kvs)∧y=kV k∧kvs.length < sizeLine∧H'=upd H a (.dK (putK kvs k v))) ∨
  ∃ kvs k b,H a=some (.dT kvs)∧y=.ref b∧H b=some (.tup (k.map kV))∧kvs.length < sizeLine∧H'=upd H a (.dT (putK kvs k v))
theorem DGet.k {H:Hp} {a:Addr} {kvs:List (Key × V)} {k:Key} (e:H a=some (.dK kvs)):DGet H a (kV k) (valV kvs k):=.inl ⟨kvs,k,.inl e,rfl,rfl⟩
theorem DGet.t {H:Hp} {a b:Addr} {kvs:List (List Key × V)} {k:List Key} (e:H a=some (.dT kvs)) (eb:H b=some (.tup (k.map kV))):DGet H a (.ref b) (valV kvs k):=.inr ⟨kvs,k,b,.inl e,rfl,eb,rfl⟩
theorem DPut.k {H:Hp} {a:Addr} {kvs:List (Key × V)} {k:Key} {v:V} (e:H a=some (.dK kvs)) (hl:kvs.length < sizeLine):DPut H a (kV k) v (upd H a (.dK (putK kvs k v))):=.inl ⟨kvs,k,e,rfl,hl,rfl⟩
theorem DPut.t {H:Hp} {a b:Addr} {kvs:List (List Key × V)} {k:List Key} {v:V} (e:H a=some (.dT kvs)) (eb:H b=some (.tup (k.map kV))) (hl:kvs.length < sizeLine) :
    DPut H a (.ref b) v (upd H a (.dT (putK kvs k v))):=.inr ⟨kvs,k,b,e,rfl,eb,hl,rfl⟩
section
variable {X:Cx} {pins:List (Addr × Obj)} {σ:St} {H:Hp} {s:Shared} {a:Addr} {y v:V} {u r:Value} {o:Option V} {A:Around} {E:Value->Shared->Prop}
theorem Inv.big (I:Inv X pins σ H s):sysModules < s.heap.objs.size:=by
  have h:mainGlobals < s.heap.objs.size:=(I.mod.glob.keeps I.bk).lt
  exact Nat.lt_trans (by decide) h
end
section
variable {X:Cx} {pins:List (Addr × Obj)} {σ:St} {H:Hp} {s:Shared} {a:Addr} {kvs:List (Key × V)} {k:Key} {u:Value} {A:Around} {E:Value->Shared->Prop}
end
section
variable {X:Cx} {o i e value:Expr} {pos pos' tpos:Pos} {td ty tv:TE}
end
theorem dk_empty {P:Program} {w:World} {H:Hp} (h:Heap) (hb:sysModules < h.objs.size):ObjOk P w H (h.push { cls:=.type "dict",data:=.dict #[] }) h.objs.size (.dK []) :=
  ⟨Nat.zero_le _,beq_eq_false_iff_ne.mpr (Ne.symm (Nat.ne_of_lt hb)),[],.nil,Heap.DictOf.new h⟩
def tDNewK:TE:=fun _ H Q=>∀ p,H p=none->Q (.ref p) (upd H p (.dK []))
section
variable {X:Cx} {pos:Pos}
theorem pe_dnewK:PE X (.Dict [] [] pos) tDNewK:=fun pins s σ H Q I h =>
  wpAny_Dict_empty ⟨.ref s.heap.objs.size,_,I.laid (a:=s.heap.objs.size) (o:=.dK []) (t':=s.toks) (fun _ _ q=>Heap.get?_push_of_some _ q) (Nat.le_refl _) (dk_empty s.heap I.big),rfl,h _ (I.hok.fresh (Nat.le_refl _))⟩
end
structure M1 (X:Cx) (o:Expr) (m:Str) (apos:Pos) (e:Expr) (cpos:Pos):Prop where
  base:attributeBase o m X.env (eval o X.env)=eval o X.env
  few:((backTo cpos (starEach [e] X.env)).all (fun x=>!x.1) && (backToKw cpos (keywordEach [] X.env)).all (fun x=>x.1.isSome)
    && decide (([e]:List Expr).length + ([]:List Keyword).length + (if ([]:List Keyword).isEmpty then 0 else 1) < 30))=true
  line:(apos.endLine == cpos.line)=true
  trees:backTo cpos (starEach [e] X.env)=[(false,eval e X.env)]
structure M2 (X:Cx) (o:Expr) (m:Str) (apos:Pos) (e f:Expr) (cpos:Pos):Prop where
  base:attributeBase o m X.env (eval o X.env)=eval o X.env
  few:((backTo cpos (starEach [e,f] X.env)).all (fun x=>!x.1) && (backToKw cpos (keywordEach [] X.env)).all (fun x=>x.1.isSome)
    && decide (([e,f]:List Expr).length + ([]:List Keyword).length + (if ([]:List Keyword).isEmpty then 0 else 1) < 30))=true
  line:(apos.endLine == cpos.line)=true
  trees:backTo cpos (starEach [e,f] X.env)=[(false,eval e X.env),(false,eval f X.env)]
section
variable {X:Cx} {pins:List (Addr × Obj)} {σ:St} {H:Hp} {s:Shared} {a:Addr} {y d:V} {u r:Value} {o:Option V} {A:Around} {E:Value->Shared->Prop}
end
section
variable {X:Cx} {o e f:Expr} {apos cpos:Pos} {td ty tx:TE}
end
section
variable {X:Cx} {pins:List (Addr × Obj)} {σ:St} {H:Hp} {s:Shared} {a:Addr} {kvs:List (Key × V)} {A:Around} {E:Value->Shared->Prop}
end
section
variable {X:Cx} {pins:List (Addr × Obj)} {σ:St} {H:Hp} {s:Shared} {a:Addr} {y:V} {u:Value} {A:Around} {E:Value->Shared->Prop}
end
end L2
set_option Elab.async false
set_option linter.all false
set_option maxRecDepth 100000
namespace L2
open PySem PySem.Spec PyProof.Rows
section
variable {X:Cx}
theorem ints_vals:∀ {ns:List Int} {us:List Value},Vals (ns.map V.int) us->IntsAre us ns
  | [],us,h=>by cases h; first | exact .nil | trivial
  | n::ns,us,h=>by
    cases h with
    | cons r t =>
      obtain ⟨tk,rfl⟩:=r
      exact .cons _ _ (ints_vals t)
end
end L2
set_option Elab.async false
set_option linter.all false
set_option maxRecDepth 100000
namespace Mir
open PySem L2
variable [Zc]
def mDct0:PM:=fun ρ=>some ((.dict [],.new),ρ)
theorem me_dct0:ME tDNewK mDct0:=by
  intro F B H σ ρ r ρ' Q R e q
  cases e
  exact res_end (res:=(.dict [],true)) (k:=fun Q=>∀ p,H p=none->Q (.ref p) (upd H p (.dK []))) (Q:=Q) R ⟨[],.nil,fun Q h=>h⟩ fun v B' H' E R' V' N=>q v B' H' E R' V' N
theorem Own.dict {B H:Hp} {p:Addr} {es:List (D × D)} (h:Own B H p (.dict es)):∃ kvs,H p=some (.dK kvs)∧RepKs B kvs es:=by
  cases h with
  | dct h r=>exact ⟨_,h,r⟩
theorem RepKs.snoc {B:Hp} {k:Key} {c:D} {x:V} {d:D} (hk:KeyD k c) (hx:Rep B x d):∀ {kvs:List (Key × V)} {es:List (D × D)},RepKs B kvs es->RepKs B (kvs++[(k,x)]) (es++[(c,d)])
  | _,_,.nil=>.cons hk hx .nil
  | _,_,.cons h1 h2 r=>.cons h1 h2 (RepKs.snoc hk hx r)
theorem RepKs.length {B:Hp}:∀ {kvs:List (Key × V)} {es:List (D × D)},RepKs B kvs es->kvs.length=es.length
  | _,_,.nil=>rfl
  | _,_,.cons _ _ r=>by rw [List.length_cons,List.length_cons,RepKs.length r]
theorem putK_new {kvs:List (Key × V)} {k:Key} {v:V} (h:valV kvs k=none):putK kvs k v=kvs++[(k,v)]:=by
  unfold putK
  rw [if_neg]
  intro z
  rw [List.any_eq_true] at z
  obtain ⟨p,hp,e⟩:=z
  have e':=of_decide_eq_true e
  unfold valV at h
  rw [Option.map_eq_none_iff,List.find?_eq_none] at h
  exact h p hp (by simpa using e')
def intsD:List (D × D)->Option (List Int)
  | []=>some []
  | (_,.int i)::r=>(intsD r).map (i::·)
  | _=>none
theorem ints_vals {B:Hp}:∀ {kvs:List (Key × V)} {es:List (D × D)} {ns:List Int},RepKs B kvs es->intsD es=some ns->kvs.map (·.2)=ns.map V.int
  | _,_,_,.nil,h=>by cases h; rfl
  | _,_,ns,.cons (d:=d) hk hx r,h=>by
    cases d with
    | int i =>
      obtain ⟨ms,h1,h2⟩:=Option.map_eq_some_iff.mp (show (intsD _).map (i::·)=some ns from h)
      subst h2
      cases hx
      rw [List.map_cons,List.map_cons,ints_vals r h1]
    | _=>cases h
theorem Rel.fresh {F:Fr} {B H:Hp} {σ:St} {ρ:Rho} {p:Addr} {o:HO} (R:Rel F B H σ ρ) (hp:H p=none) (n1:∀ xs,o≠.tup xs) (n2:∀ a u,o≠.frz a u):Rel F B (upd H p o) σ ρ∧Ext σ ρ B H ρ B (upd H p o):=by
  refine ⟨R.grow (fun _ _ z=>z) (same_upd hp) (fun q u z=>same_upd hp q u (R.sub q u z)) (fun _ _ z=>z) (fun q xs z=>?_) fun q a u z y=>?_,Ext.grow (fun _ _ z=>z) (same_upd hp) fun _ _ z=>z⟩
  . by_cases w:q=p
    . subst w; rw [upd_same] at z; cases z; exact absurd rfl (n1 xs)
    . rw [upd_ne w] at z; exact R.tupB q xs z
  . by_cases w:q=p
    . subst w; rw [upd_same] at z; cases z; exact absurd rfl (n2 a u)
    . rw [upd_ne w,y] at z; cases z
end Mir
set_option maxHeartbeats 4000000
set_option Elab.async false
set_option linter.all false
set_option maxRecDepth 100000
namespace K14
open PySem L2 Mir
structure CA where
  Ledger:Addr
  Overdrawn:Addr
  CreditError:Addr
  NoNumber:Addr
  Empty:Addr
  NoThing:Addr
  Lacking:Addr
  AtTop:Addr
  NoPlace:Addr
  Mixed:Addr
  NoName:Addr
  Twice:Addr
  NotLess:Addr
  NoRow:Addr
noncomputable def b_Ledger_init (ca:CA):SN :=
    (nSetF ca.Ledger (nVar 0) (nLst naNil) "rows")
noncomputable def m_Ledger_init (ca:CA):FN:=fnS 1 0 (b_Ledger_init ca)
def kt_NoRow:List (Str × Bool):=[("NoNumber",false),("Empty",false),("NoThing",false),("Lacking",false),("AtTop",false),("NoPlace",false),("Mixed",false),("NoName",false),("Twice",false),("NotLess",false),("NoRow",true),("Overdrawn",false)]
def kt_NotLess:List (Str × Bool):=[("NoNumber",false),("Empty",false),("NoThing",false),("Lacking",false),("AtTop",false),("NoPlace",false),("Mixed",false),("NoName",false),("Twice",false),("NotLess",true),("NoRow",false),("Overdrawn",false)]
def kt_Twice:List (Str × Bool):=[("NoNumber",false),("Empty",false),("NoThing",false),("Lacking",false),("AtTop",false),("NoPlace",false),("Mixed",false),("NoName",false),("Twice",true),("NotLess",false),("NoRow",false),("Overdrawn",false)]
def kt_NoName:List (Str × Bool):=[("NoNumber",false),("Empty",false),("NoThing",false),("Lacking",false),("AtTop",false),("NoPlace",false),("Mixed",false),("NoName",true),("Twice",false),("NotLess",false),("NoRow",false),("Overdrawn",false)]
def kt_Mixed:List (Str × Bool):=[("NoNumber",false),("Empty",false),("NoThing",false),("Lacking",false),("AtTop",false),("NoPlace",false),("Mixed",true),("NoName",false),("Twice",false),("NotLess",false),("NoRow",false),("Overdrawn",false)]
def kt_NoPlace:List (Str × Bool):=[("NoNumber",false),("Empty",false),("NoThing",false),("Lacking",false),("AtTop",false),("NoPlace",true),("Mixed",false),("NoName",false),("Twice",false),("NotLess",false),("NoRow",false),("Overdrawn",false)]
def kt_AtTop:List (Str × Bool):=[("NoNumber",false),("Empty",false),("NoThing",false),("Lacking",false),("AtTop",true),("NoPlace",false),("Mixed",false),("NoName",false),("Twice",false),("NotLess",false),("NoRow",false),("Overdrawn",false)]
def kt_Lacking:List (Str × Bool):=[("NoNumber",false),("Empty",false),("NoThing",false),("Lacking",true),("AtTop",false),("NoPlace",false),("Mixed",false),("NoName",false),("Twice",false),("NotLess",false),("NoRow",false),("Overdrawn",false)]
def kt_NoThing:List (Str × Bool):=[("NoNumber",false),("Empty",false),("NoThing",true),("Lacking",false),("AtTop",false),("NoPlace",false),("Mixed",false),("NoName",false),("Twice",false),("NotLess",false),("NoRow",false),("Overdrawn",false)]
def kt_Empty:List (Str × Bool):=[("NoNumber",false),("Empty",true),("NoThing",false),("Lacking",false),("AtTop",false),("NoPlace",false),("Mixed",false),("NoName",false),("Twice",false),("NotLess",false),("NoRow",false),("Overdrawn",false)]
def kt_Overdrawn:List (Str × Bool):=[("NoNumber",false),("Empty",false),("NoThing",false),("Lacking",false),("AtTop",false),("NoPlace",false),("Mixed",false),("NoName",false),("Twice",false),("NotLess",false),("NoRow",false),("Overdrawn",true)]
def kt_NoNumber:List (Str × Bool):=[("NoNumber",true),("Empty",false),("NoThing",false),("Lacking",false),("AtTop",false),("NoPlace",false),("Mixed",false),("NoName",false),("Twice",false),("NotLess",false),("NoRow",false),("Overdrawn",false)]
def kt_CreditError:List (Str × Bool):=[("NoNumber",true),("Empty",true),("NoThing",true),("Lacking",true),("AtTop",true),("NoPlace",true),("Mixed",true),("NoName",true),("Twice",true),("NotLess",true),("NoRow",true),("Overdrawn",true)]
def kt_ValueError:List (Str × Bool):=[("NoNumber",true),("Empty",true),("NoThing",true),("Lacking",true),("AtTop",true),("NoPlace",true),("Mixed",true),("NoName",true),("Twice",true),("NotLess",true),("NoRow",true),("Overdrawn",true)]
noncomputable def ct1_law_kinds:Rho->Option (Bool × Rho) :=
    (mTest (mOp gIx (mVar 1) (mVar 0)))
noncomputable def ce1_law_kinds:PM :=
    (mVar 0)
noncomputable def b_law_kinds (ca:CA):SN :=
    (nSeq (nAsg (nLst (naCons (nIsiX 0 (fun k=>List.lookup k kt_ValueError)) (naCons (nIsiX 0 (fun k=>List.lookup k kt_CreditError)) (naCons (nIsiX 0 (fun k=>List.lookup k kt_NoNumber)) naNil)))) (ngN 1))
    (nSeq (nAsg (nOp gAdd (nVar 1) (nLst (naCons (nIsiX 0 (fun k=>List.lookup k kt_Overdrawn)) (naCons (nIsiX 0 (fun k=>List.lookup k kt_Empty)) (naCons (nIsiX 0 (fun k=>List.lookup k kt_NoThing)) naNil))))) (ngN 1))
    (nSeq (nAsg (nOp gAdd (nVar 1) (nLst (naCons (nIsiX 0 (fun k=>List.lookup k kt_Lacking)) (naCons (nIsiX 0 (fun k=>List.lookup k kt_AtTop)) (naCons (nIsiX 0 (fun k=>List.lookup k kt_NoPlace)) naNil))))) (ngN 1))
    (nSeq (nAsg (nOp gAdd (nVar 1) (nLst (naCons (nIsiX 0 (fun k=>List.lookup k kt_Mixed)) (naCons (nIsiX 0 (fun k=>List.lookup k kt_NoName)) (naCons (nIsiX 0 (fun k=>List.lookup k kt_Twice)) naNil))))) (ngN 1))
    (nSeq (nAsg (nOp gAdd (nVar 1) (nLst (naCons (nIsiX 0 (fun k=>List.lookup k kt_NotLess)) (naCons (nIsiX 0 (fun k=>List.lookup k kt_NoRow)) naNil)))) (ngN 1))
    (nRet (nO (mLC [("_law_told",1)] (mRg1 (mCons (mC (.int 14)) mNil)) ct1_law_kinds ce1_law_kinds))))))))
noncomputable def m_law_kinds (ca:CA):FN:=fnS 1 1 (b_law_kinds ca)
noncomputable def b_law_whole:SM :=
    (mRet (mAndV (mIsi "int" (mVar 0)) (mNotV (mIsi "bool" (mVar 0)))))
noncomputable def m_law_whole:List D->Option (D × Bool):=fnM 1 0 b_law_whole
noncomputable def b_law_made (ca:CA):SN :=
    (nSeq (nAsg (nMkI "Overdrawn" (naCons (nVar 0) naNil)) (ngN 1))
    (nSeq (nIfS (nOr (nTest (nOp gNe (nCall (m_law_kinds ca) (naCons (nVar 1) naNil)) (nLst (naCons (nLit (.int 0)) (naCons (nLit (.int 1)) (naCons (nLit (.int 3)) naNil)))))) (nOr (nNot (nTest (nCallO m_law_whole (naCons (nFldX (fun c=>decide (c = "Overdrawn")) (nVar 1)) naNil)))) (nTest (nOp gNe (nFldX (fun c=>decide (c = "Overdrawn")) (nVar 1)) (nVar 0)))))
    (nRet (nLit (.bool false)))
    nPass)
    (nSeq (nAsg (nLst (naCons (nMkX "NoNumber" naNil) (naCons (nMkX "Empty" naNil) (naCons (nMkX "NoThing" naNil) (naCons (nMkX "Lacking" naNil) (naCons (nMkX "AtTop" naNil) (naCons (nMkX "NoPlace" naNil) (naCons (nMkX "Mixed" naNil) (naCons (nMkX "NoName" naNil) (naCons (nMkX "Twice" naNil) naNil)))))))))) (ngN 2))
    (nSeq (nAsg (nAddL (nVar 2) (nLst (naCons (nMkX "NotLess" naNil) (naCons (nMkX "NoRow" naNil) naNil)))) (ngN 2))
    (nSeq (nIfS (nTo (mTest (mOp gEq (mOp gMod (mVar 0) (mC (.int 2))) (mC (.int 1)))))
    (nSeq (nAsg (nLst (naCons (nMkX "NoNumber" (naCons (nLit (.str "no")) naNil)) (naCons (nMkX "Empty" (naCons (nLit (.str "no")) naNil)) (naCons (nMkX "NoThing" (naCons (nLit (.str "no")) naNil)) (naCons (nMkX "Lacking" (naCons (nLit (.str "no")) naNil)) (naCons (nMkX "AtTop" (naCons (nLit (.str "no")) naNil)) (naCons (nMkX "NoPlace" (naCons (nLit (.str "no")) naNil)) (naCons (nMkX "Mixed" (naCons (nLit (.str "no")) naNil)) naNil)))))))) (ngN 2))
    (nAsg (nAddL (nVar 2) (nLst (naCons (nMkX "NoName" (naCons (nLit (.str "no")) naNil)) (naCons (nMkX "Twice" (naCons (nLit (.str "no")) naNil)) (naCons (nMkX "NotLess" (naCons (nLit (.str "no")) naNil)) (naCons (nMkX "NoRow" (naCons (nLit (.str "no")) naNil)) naNil)))))) (ngN 2)))
    nPass)
    (nSeq (nAsg (nLst (naCons (nLit (.int 2)) (naCons (nLit (.int 4)) (naCons (nLit (.int 5)) (naCons (nLit (.int 6)) (naCons (nLit (.int 7)) (naCons (nLit (.int 8)) (naCons (nLit (.int 9)) (naCons (nLit (.int 10)) (naCons (nLit (.int 11)) (naCons (nLit (.int 12)) (naCons (nLit (.int 13)) naNil)))))))))))) (ngN 3))
    (nRet (nCB gAll (naCons (nLCR [("_law_some",2),("_law_places",3)] 11 (nOp gEq (nCall (m_law_kinds ca) (naCons (nIx (nVar 1) (nVar 0)) naNil)) (nLst (naCons (nLit (.int 0)) (naCons (nLit (.int 1)) (naCons (nIx (nVar 2) (nVar 0)) naNil)))))) naNil)))))))))
noncomputable def m_law_made (ca:CA):FN:=fnS 1 3 (b_law_made ca)
noncomputable def b_Ledger_credit (ca:CA):SN :=
    (nSeq (nIfS (nTest (nOp gEq (nFldC ca.Ledger (nVar 0) "rows") (nLst naNil)))
    (nRet (nLit (.int 0)))
    nPass)
    (nRet (nIx (nIx (nFldC ca.Ledger (nVar 0) "rows") (nO (mUn gNeg (mC (.int 1))))) (nLit (.int 4)))))
noncomputable def m_Ledger_credit (ca:CA):FN:=fnS 1 0 (b_Ledger_credit ca)
noncomputable def b_is_count:SM :=
    (mRet (mAndV (mIsiD "int" (mVar 0)) (mAndV (mNotV (mIsiD "bool" (mVar 0))) (mOp gGe (mVar 0) (mC (.int 0))))))
noncomputable def m_is_count:List D->Option (D × Bool):=fnM 1 0 b_is_count
noncomputable def lb1_Ledger_enter (ca:CA):SN :=
    (nIfS (nTo (mNot (mTest (mCall m_is_count (mCons (mVar 7) mNil)))))
    (nRaise "NoNumber" (naCons (nLit (.str "steps, price and credit are whole numbers from 0 on")) naNil))
    nPass)
noncomputable def b_Ledger_enter (ca:CA):SN :=
    (nSeq (nAsg (qt (nMeth ca.Ledger "credit" (m_Ledger_credit ca) [] (nVar 0) naNil)) (ngN 5))
    (nSeq (nAsg (nC (mIfE (mTest (mOp gIs (mVar 4) (mC .none))) (mVar 5) (mVar 4))) (ngN 6))
    (nSeq (nFor [0,1,2,3,4,5,6,8] (mItT (mTup (mCons (mVar 2) (mCons (mVar 3) (mCons (mVar 6) mNil))))) (ngN 7)
    (lb1_Ledger_enter ca))
    (nSeq (nAsg (nO (mOp gSub (mOp gSub (mOp gAdd (mVar 2) (mVar 6)) (mVar 5)) (mVar 3))) (ngN 8))
    (nSeq (nIfS (nTo (mTest (mOp gGt (mVar 8) (mC (.int 0)))))
    (nRaiseD "Overdrawn" (naCons (nVar 8) naNil))
    nPass)
    (nDrop (nApp (nFldC ca.Ledger (nVar 0) "rows") (naCons (nTup (naCons (nVar 1) (naCons (nVar 2) (naCons (nVar 3) (naCons (nVar 5) (naCons (nVar 6) naNil)))))) naNil))))))))
noncomputable def m_Ledger_enter (ca:CA):FN:=fnS 5 4 (b_Ledger_enter ca)
noncomputable def b_law_cell_at:SM :=
    (mSeq (mIfS (mTest (mOp gLt (mVar 1) (mCB gLen (mCons (mVar 0) mNil))))
    (mRet (mOp gIx (mVar 0) (mVar 1)))
    mPass)
    (mRet (mC (.int 0))))
noncomputable def m_law_cell_at:List D->Option (D × Bool):=fnM 2 0 b_law_cell_at
noncomputable def b_law_try (ca:CA):SN :=
    (nSeq (nAsg (nLst naNil) (ngN 5))
    (nSeq (nAsg (nLit .none) (ngN 6))
    (nSeq (nTryG (nIfS (nTo (mTest (mVar 4)))
    (nDrop (nMeth ca.Ledger "enter" (m_Ledger_enter ca) [.none] (nVar 0) (naCons (nLit (.str "deed")) (naCons (nVar 1) (naCons (nVar 2) naNil)))))
    (nDrop (nMeth ca.Ledger "enter" (m_Ledger_enter ca) [] (nVar 0) (naCons (nLit (.str "deed")) (naCons (nVar 1) (naCons (nVar 2) (naCons (nVar 3) naNil))))))) 7 (fun c=>decide (c = "NoNumber") || decide (c = "Overdrawn"))
    (nSeq (nAsg (nCall (m_law_kinds ca) (naCons (nVar 7) naNil)) (ngN 5))
    (nIfS (nTo (mTest (mOp gEq (mVar 5) (mLst (mCons (mC (.int 0)) (mCons (mC (.int 1)) (mCons (mC (.int 3)) mNil)))))))
    (nAsg (nFldX (fun c=>decide (c = "Overdrawn")) (nVar 7)) (ngN 6))
    nPass)))
    (nRet (nTup (naCons (nVar 5) (naCons (nVar 6) naNil)))))))
noncomputable def m_law_try (ca:CA):FN:=fnS 5 3 (b_law_try ca)
noncomputable def b_law_bad:SM :=
    (mSeq (mAsg 2 (mOp gSub (mUn gNeg (mC (.int 1))) (mOp gMod (mOp gDiv (mVar 0) (mC (.int 8))) (mOp gPow (mC (.int 10)) (mC (.int 59))))))
    (mSeq (mAsg 3 (mLst (mCons (mC (.bool true)) (mCons (mC (.bool false)) (mCons (mVar 2) (mCons (mC (.str "1")) (mCons (mTup (mCons (mC (.int 1)) mNil)) (mCons (mLst (mCons (mC (.int 1)) mNil)) (mCons mDct0 (mCons (mC .none) mNil))))))))))
    (mRet (mOp gIx (mVar 3) (mOp gMod (mVar 0) (mVar 1))))))
noncomputable def m_law_bad:List D->Option (D × Bool):=fnM 2 2 b_law_bad
noncomputable def b_law_refused (ca:CA):SN :=
    (nSeq (nAsg (nO (mOp gDiv (mVar 1) (mC (.int 8)))) (ngN 3))
    (nSeq (nAsg (nO (mOp gMod (mVar 3) (mC (.int 10)))) (ngN 4))
    (nSeq (nAsg (nO (mOp gMod (mOp gDiv (mVar 3) (mC (.int 10))) (mC (.int 10)))) (ngN 5))
    (nSeq (nAsg (nO (mOp gMod (mOp gDiv (mVar 3) (mC (.int 100))) (mC (.int 10)))) (ngN 6))
    (nSeq (nAsg (nO (mAndV (mOp gEq (mOp gMod (mOp gDiv (mVar 1) (mC (.int 3))) (mC (.int 2))) (mC (.int 1))) (mOp gLt (mOp gMod (mVar 1) (mC (.int 3))) (mC (.int 2))))) (ngN 7))
    (nSeq (nIfS (nTo (mTest (mVar 7)))
    (nAsg (nVar 2) (ngN 5))
    nPass)
    (nSeq (nIfS (nTo (mOr (mTest (mOp gEq (mOp gMod (mOp gDiv (mVar 3) (mC (.int 1000))) (mC (.int 2))) (mC (.int 1)))) (mTest (mOp gEq (mOp gMod (mVar 1) (mC (.int 8))) (mC (.int 7))))))
    (nAsg (nO (mOp gAdd (mOp gAdd (mOp gAdd (mVar 2) (mVar 4)) (mC (.int 1))) (mVar 6))) (ngN 6))
    nPass)
    (nSeq (nIfS (nTo (mTest (mOp gEq (mOp gMod (mVar 1) (mC (.int 8))) (mC (.int 7)))))
    (nSeq (nAsg (nCall (m_law_try ca) (naCons (nVar 0) (naCons (nVar 6) (naCons (nVar 4) (naCons (nVar 5) (naCons (nVar 7) naNil)))))) (ngT 2 (ngsCons 8 (ngsCons 9 ngsNil))))
    (nRet (nO (mAndV (mOp gEq (mVar 8) (mLst (mCons (mC (.int 0)) (mCons (mC (.int 1)) (mCons (mC (.int 3)) mNil))))) (mAndV (mCall m_law_whole (mCons (mVar 9) mNil)) (mOp gEq (mVar 9) (mOp gSub (mOp gSub (mOp gAdd (mVar 6) (mVar 5)) (mVar 2)) (mVar 4))))))))
    nPass)
    (nSeq (nIfS (nTo (mTest (mOp gEq (mOp gMod (mVar 1) (mC (.int 3))) (mC (.int 0)))))
    (nAsg (nCallO m_law_bad (naCons (nO (mOp gDiv (mVar 3) (mC (.int 2000)))) (naCons (nLit (.int 8)) naNil))) (ngN 6))
    (nIfS (nTo (mTest (mOp gEq (mOp gMod (mVar 1) (mC (.int 3))) (mC (.int 1)))))
    (nAsg (nCallO m_law_bad (naCons (nO (mOp gDiv (mVar 3) (mC (.int 2000)))) (naCons (nLit (.int 8)) naNil))) (ngN 4))
    (nAsg (nCallO m_law_bad (naCons (nO (mOp gDiv (mVar 3) (mC (.int 2000)))) (naCons (nLit (.int 7)) naNil))) (ngN 5))))
    (nRet (nOpV gEq (nCall (m_law_try ca) (naCons (nVar 0) (naCons (nVar 6) (naCons (nVar 4) (naCons (nVar 5) (naCons (nVar 7) naNil)))))) (nTup (naCons (nLst (naCons (nLit (.int 0)) (naCons (nLit (.int 1)) (naCons (nLit (.int 2)) naNil)))) (naCons (nLit .none) naNil))))))))))))))
noncomputable def m_law_refused (ca:CA):FN:=fnS 3 7 (b_law_refused ca)
noncomputable def b_Ledger_entries (ca:CA):SN :=
    (nRet (nCB gList (naCons (nFldC ca.Ledger (nVar 0) "rows") naNil)))
noncomputable def m_Ledger_entries (ca:CA):FN:=fnS 1 0 (b_Ledger_entries ca)
noncomputable def lb1_law (ca:CA):SN :=
    (nSeq (nIfS (nNot (nTest (nCall (m_law_refused ca) (naCons (nVar 1) (naCons (nVar 7) (naCons (nVar 3) naNil))))))
    (nRet (nLit (.bool false)))
    nPass)
    (nIfS (nOr (nTest (nOp gNe (nMeth ca.Ledger "entries" (m_Ledger_entries ca) [] (nVar 1) naNil) (nVar 2))) (nTest (nOp gNe (nMeth ca.Ledger "credit" (m_Ledger_credit ca) [] (nVar 1) naNil) (nVar 3))))
    (nRet (nLit (.bool false)))
    nPass))
noncomputable def lb2_law (ca:CA):SN :=
    (nSeq (nAsg (nO (mOp gMod (mOp gDiv (mCall m_law_cell_at (mCons (mVar 0) (mCons (mC (.int 1)) mNil))) (mOp gAdd (mVar 4) (mC (.int 1)))) (mOp gPow (mC (.int 10)) (mC (.int 50))))) (ngN 5))
    (nSeq (nAsg (nO (mOp gMod (mOp gDiv (mCall m_law_cell_at (mCons (mVar 0) (mCons (mC (.int 2)) mNil))) (mOp gAdd (mVar 4) (mC (.int 1)))) (mOp gAdd (mOp gAdd (mVar 3) (mVar 5)) (mC (.int 1))))) (ngN 6))
    (nSeq (nDrop (nMeth ca.Ledger "enter" (m_Ledger_enter ca) [] (nVar 1) (naCons (nLit (.str "begun")) (naCons (nLit (.int 0)) (naCons (nVar 5) (naCons (nVar 6) naNil))))))
    (nSeq (nDrop (nApp (nVar 2) (naCons (nTup (naCons (nLit (.str "begun")) (naCons (nLit (.int 0)) (naCons (nVar 5) (naCons (nVar 3) (naCons (nVar 6) naNil)))))) naNil)))
    (nAsg (nVar 6) (ngN 3))))))
noncomputable def b_law (ca:CA):SN :=
    (nSeq (nAsg (nMake ca.Ledger (m_Ledger_init ca) naNil) (ngN 1))
    (nSeq (nAsg (nLst naNil) (ngN 2))
    (nSeq (nAsg (nLit (.int 0)) (ngN 3))
    (nSeq (nFor [0,1,2,3,7] (mRg1 (mCons (mOp gMod (mCall m_law_cell_at (mCons (mVar 0) (mCons (mC (.int 0)) mNil))) (mC (.int 4))) mNil)) (ngN 4)
    (lb2_law ca))
    (nSeq (nForL [0,1,2,3,4,5,6] (nO (mOp gAdd (mLst (mCons (mC (.int 7)) mNil)) (mSl gSl (mVar 0) (mPart (mC (.int 3))) (mPart (mC (.int 43)))))) (ngN 7)
    (lb1_law ca))
    (nRet (nCall (m_law_made ca) (naCons (nO (mOp gMod (mCall m_law_cell_at (mCons (mVar 0) (mCons (mC (.int 1)) mNil))) (mOp gPow (mC (.int 10)) (mC (.int 50))))) naNil))))))))
noncomputable def m_law (ca:CA):List D->Option (D × Bool):=fnO 1 7 (b_law ca)
end K14
set_option Elab.async false
set_option linter.all false
set_option maxRecDepth 100000
namespace K14
open PySem L2 Mir
section
variable {α β:Type}
theorem bN_ok {m:MN α} {k : α->MN β} {s s':SS} {v : α} (h:m s=some (.ok v s')):bN m k s=k v s':=by unfold bN; rw [h]
theorem bS_ok {m:MN α} {k : α->SN} {s s':SS} {v : α} (h:m s=some (.ok v s')):bS m k s=k v s':=by unfold bS; rw [h]
theorem nseq_nx {a b:SN} {s s':SS} {o:Option NOut} (h:a s=some (.nx s')) (h2:b s'=o):nSeq a b s=o:=by unfold nSeq; rw [h]; exact h2
theorem nseq_rt {a b:SN} {s s':SS} {r:SV} (h:a s=some (.rt r s')):nSeq a b s=some (.rt r s'):=by unfold nSeq; rw [h]
theorem nif_t {c:MN Bool} {a b:SN} {s s':SS} {o:Option NOut} (h:c s=some (.ok true s')) (h2:a s'=o):nIfS c a b s=o:=by unfold nIfS; rw [bS_ok h,if_pos rfl]; exact h2
theorem nif_f {c:MN Bool} {a b:SN} {s s':SS} {o:Option NOut} (h:c s=some (.ok false s')) (h2:b s'=o):nIfS c a b s=o:=by unfold nIfS; rw [bS_ok h,if_neg Bool.false_ne_true]; exact h2
theorem nasg_n {a:EN} {i:Nat} {s s':SS} {x:SV} (h:a s=some (.ok x s')) (hi:i < s'.t.length):nAsg a (ngN i) s=some (.nx ⟨s'.S,s'.t.set i (some x)⟩):=by unfold nAsg; rw [bS_ok h]; unfold ngN; rw [if_pos hi]
theorem nret_ok {a:EN} {s s':SS} {x:SV} (h:a s=some (.ok x s')):nRet a s=some (.rt x s'):=by unfold nRet; rw [bS_ok h]
theorem ndrop_ok {a:EN} {s s':SS} {x:SV} (h:a s=some (.ok x s')):nDrop a s=some (.nx s'):=by unfold nDrop; rw [bS_ok h]
theorem nvar_ok {i:Nat} {s:SS} {x:SV} (h:s.t[i]?=some (some x)):nVar i s=some (.ok x s):=by unfold nVar; rw [h]
theorem nacons {a:EN} {m:MN (List SV)} {s s1 s2:SS} {x:SV} {xs:List SV} (h:a s=some (.ok x s1)) (h2:m s1=some (.ok xs s2)):naCons a m s=some (.ok (x::xs) s2):=by unfold naCons; rw [bN_ok h,bN_ok h2]
theorem ntest_ok {a:EN} {s s':SS} {b:Bool} (h:a s=some (.ok (.pl (.bool b)) s')):nTest a s=some (.ok b s'):=by unfold nTest; rw [bN_ok h]
theorem nnot_ok {a:MN Bool} {s s':SS} {b:Bool} (h:a s=some (.ok b s')):nNot a s=some (.ok (!b) s'):=by unfold nNot; rw [bN_ok h]; rfl
theorem nor_f {a b:MN Bool} {s s':SS} {r:Option (RR Bool)} (h:a s=some (.ok false s')) (h2:b s'=r):nOr a b s=r:=by unfold nOr; rw [bN_ok h,if_neg Bool.false_ne_true]; exact h2
theorem nfldC_ok {C:Addr} {a:EN} {f:Str} {s s':SS} {k:Nat} {fs:List (Str × SV)} {x:SV} (h:a s=some (.ok (.lc k) s')) (h1:s'.S[k]?=some (some (.obj C fs))) (h2:fs.lookup f=some x):nFldC C a f s=some (.ok x s'):=by
  unfold nFldC; rw [bN_ok h]; simp only [objAt,h1,Option.bind_some,if_true,h2,Option.map_some]
theorem nmeth_ok {C:Addr} {mn:Str} {f:FN} {dv:List D} {a:EN} {m:MN (List SV)} {s s1 s2:SS} {k:Nat} {fs:List (Str × SV)} {xs:List SV} {r:SV} {S':List (Option Cl)} (h:a s=some (.ok (.lc k) s1)) (h1:s1.S[k]?=some (some (.obj C fs))) (h2:fs.lookup mn=none) (h3:m s1=some (.ok xs s2)) (h4:f s2.S (.lc k::(xs++dv.map .pl))=some (.ok r S')):nMeth C mn f dv a m s=some (.ok r ⟨S',s2.t⟩):=by
  unfold nMeth; rw [bN_ok h]; simp only [objAt,h1,Option.bind_some,h2,and_self,if_true,bN_ok h3,h4,Option.map_some,frR]
theorem ncall_ok {f:FN} {m:MN (List SV)} {s s1:SS} {xs:List SV} {r:SV} {S':List (Option Cl)} (h:m s=some (.ok xs s1)) (h2:f s1.S xs=some (.ok r S')):nCall f m s=some (.ok r ⟨S',s1.t⟩):=by unfold nCall; rw [bN_ok h,h2]; rfl
theorem nlit {d:D} {s:SS}:nLit d s=some (.ok (.pl d) s):=rfl
theorem nanil {s:SS}:naNil s=some (.ok [] s):=rfl
theorem ncallO_ok {f:List D->Option (D × Bool)} {m:MN (List SV)} {s s1:SS} {xs:List SV} {ds:List D} {d:D} (h:m s=some (.ok xs s1)) (h1:allPl xs=some ds) (h2:f ds=some (d,false)):nCallO f m s=some (.ok (.pl d) s1):=by
  unfold nCallO; rw [bN_ok h]; simp only [h1,h2,Option.bind_some]; rfl
theorem fnS_ok {n k:Nat} {b:SN} {S:List (Option Cl)} {xs:List SV} {o:NOut} {w:FR} (h0:xs.length=n) (h1:b ⟨S,xs.map some++List.replicate k none⟩=some o) (h2:retS S.length o=some w):fnS n k b S xs=some w:=by
  unfold fnS; rw [if_pos h0,h1]; exact h2
end
theorem noEsc_mem {n:Nat} {S:List (Option Cl)} (h:noEsc n S=true) {c:Cl} (hc:some c∈S.take n):blC n c=true:=by
  unfold noEsc at h
  exact (List.all_eq_true.mp h) _ hc
theorem gcC_low {n:Nat} {c:Option Cl} (h:∀ d,c=some d->blC n d=true):gcC n c=c:=by
  cases c with
  | none=>rfl
  | some d=>simp only [gcC,h d rfl,if_true]
theorem gcS_app {S X:List (Option Cl)} (h:noEsc S.length S=true):gcS S.length (S++X)=S:=by
  unfold gcS
  rw [List.take_left]
  refine (List.map_congr_left fun c hc=>gcC_low fun d e=>?_).trans (List.map_id _)
  subst e
  exact noEsc_mem h (by rw [List.take_length]; exact hc)
theorem noEsc_app {S X:List (Option Cl)} (h:noEsc S.length S=true):noEsc S.length (S++X)=true:=by
  unfold noEsc at h ⊢
  rw [List.take_left]
  rw [List.take_length] at h
  exact h
theorem fS_app {S X:List (Option Cl)} (h:noEsc S.length S=true):fS S.length (S++X)=S:=by
  unfold fS; rw [if_pos (noEsc_app h),gcS_app h]
theorem fS_self {S:List (Option Cl)} (h:noEsc S.length S=true):fS S.length S=S:=by
  have:=fS_app (X:=[]) h
  rwa [List.append_nil] at this
theorem noEsc_set {S:List (Option Cl)} (h:noEsc S.length S=true) {k:Nat} {c:Cl} (hc:blC S.length c=true):noEsc (S.set k (some c)).length (S.set k (some c))=true:=by
  unfold noEsc at h ⊢
  rw [List.take_length] at h ⊢
  rw [List.length_set]
  refine List.all_eq_true.mpr fun x hx=>?_
  rcases List.mem_or_eq_of_mem_set hx with hx | rfl
  . exact (List.all_eq_true.mp h) x hx
  . exact hc
theorem fS_set {S:List (Option Cl)} (h:noEsc S.length S=true) {k:Nat} {c:Cl} (hc:blC S.length c=true):fS S.length (S.set k (some c))=S.set k (some c):=by
  have:=fS_self (noEsc_set h (k:=k) hc)
  rwa [List.length_set] at this
theorem get_app {α:Type} {S X:List α} {j:Nat} {c : α} (h:S[j]?=some c):(S++X)[j]?=some c:=by
  rw [List.getElem?_append_left (List.getElem?_eq_some_iff.mp h).1]; exact h
theorem get_new {α:Type} {S:List α} {c : α}:(S++[c])[S.length]?=some c:=List.getElem?_concat_length
theorem gcV_low {n:Nat} {x:Option SV} (h:∀ y,x=some y->blV n y=true):gcV n x=x:=by
  cases x with
  | none=>rfl
  | some y=>simp only [gcV,h y rfl,if_true]
def lowT (n:Nat) (t:List (Option SV)):Bool:=t.all fun x=>match x with
  | some x=>blV n x
  | none=>true
theorem lowT_at {n:Nat} {t:List (Option SV)} (h:lowT n t=true) {x:SV} (hx:some x∈t):blV n x=true:=(List.all_eq_true.mp h) _ hx
theorem gcT_low {n:Nat} {t:List (Option SV)} (h:lowT n t=true):gcT n t=t:=by
  unfold gcT
  refine (List.map_congr_left fun c hc=>gcV_low fun d e=>?_).trans (List.map_id _)
  subst e
  exact lowT_at h hc
theorem lowAt_all {n:Nat} {t:List (Option SV)} (h:lowT n t=true) (kp:List Nat):kp.all (lowAt n t)=true:=by
  refine List.all_eq_true.mpr fun i _=>?_
  unfold lowAt
  split
  . rename_i x hx; exact lowT_at h (List.mem_of_getElem? hx)
  . rfl
theorem gcE_low {S X:List (Option Cl)} {kp:List Nat} {t:List (Option SV)} (h:noEsc S.length S=true) (ht:lowT S.length t=true):gcE S.length kp ⟨S++X,t⟩=⟨S,t⟩:=by
  unfold gcE
  dsimp only
  rw [noEsc_app h,lowAt_all ht,Bool.and_true,if_pos rfl]
  unfold gc
  dsimp only
  rw [gcS_app h,gcT_low ht]
theorem rd_lc {S:List (Option Cl)} {j:Nat} {d:D} (h:S[j]?=some (some (.dat d))):rdV S (.lc j)=some d:=by simp only [rdV,h]
theorem rd_pl {S:List (Option Cl)} {d:D}:rdV S (.pl d)=some d:=by simp only [rdV]
theorem rc_lc {S:List (Option Cl)} {j:Nat} {d:D} (h:S[j]?=some (some (.dat d))):rdC S (.lc j)=some d:=by simp only [rdC,h]
theorem rc_pl {S:List (Option Cl)} {d:D}:rdC S (.pl d)=some d:=rfl
theorem vw_at {s:SS} {k:Nat} {x:SV} {d:D} (h:s.t[k]?=some (some x)) (e:rdV s.S x=some d):(vw s)[k]?=some (.fz d):=by
  unfold vw
  rw [List.getElem?_map,h]
  simp only [Option.map_some,slOf,e]
theorem vw_pl {s:SS} {k:Nat} {d:D} (h:s.t[k]?=some (some (.pl d))):(vw s)[k]?=some (.fz d):=vw_at h rd_pl
theorem vwC_pl {s:SS} {k:Nat} {d:D} (h:s.t[k]?=some (some (.pl d))):(vwC s)[k]?=some (.fz d):=by
  unfold vwC
  rw [List.getElem?_map,h]
  rfl
theorem no_ok {m:PM} {s:SS} {d:D} {ρ:Rho} (h:m (vw s)=some ((d,.fz),ρ)) (hp:pureD d=true):nO m s=some (.ok (.pl d) s):=by
  unfold nO; rw [h,Option.bind_some]; dsimp only; rw [if_pos hp]
theorem no_ie {m:PM} {s:SS} {i:Int} (h:IE m (vw s) i):nO m s=some (.ok (.pl (.int i)) s):=no_ok h rfl
theorem no_be {m:PM} {s:SS} {b:Bool} (h:BE m (vw s) b):nO m s=some (.ok (.pl (.bool b)) s):=no_ok h rfl
theorem no_new {m:PM} {s:SS} {d:D} {ρ:Rho} (h:m (vw s)=some ((d,.new),ρ)) (hp:pureR d true=true):nO m s=some (.ok (.lc s.S.length) ⟨s.S++[some (.dat d)],s.t⟩):=by
  unfold nO; rw [h,Option.bind_some]; dsimp only; rw [if_pos hp]; rfl
theorem nto_ok {m:Rho->Option (Bool × Rho)} {s:SS} {b:Bool} {ρ:Rho} (h:m (vw s)=some (b,ρ)):nTo m s=some (.ok b s):=by unfold nTo; rw [h]; rfl
theorem nop_ok {g:D->D->Option (D × Bool)} {a b:EN} {s s1 s2:SS} {x y:SV} {c d e:D} (h1:a s=some (.ok x s1)) (h2:b s1=some (.ok y s2)) (h3:rdC s2.S x=some c) (h4:rdC s2.S y=some d) (h5:g c d=some (e,false)):nOp g a b s=some (.ok (.pl e) s2):=by
  unfold nOp; rw [bN_ok h1,bN_ok h2]; simp only [h3,h4,h5,Option.bind_some]; rfl
theorem nix_ok {a b:EN} {s s1 s2:SS} {x y:SV} {i:Int} (h1:a s=some (.ok x s1)) (h2:b s1=some (.ok (.pl (.int i)) s2)) (h3:ixV s2.S x i=some y):nIx a b s=some (.ok y s2):=by
  unfold nIx; rw [bN_ok h1,bN_ok h2]; simp only [h3,Option.map_some]
theorem ncb_ok {g:List D->Option (D × Bool)} {m:MN (List SV)} {s s1:SS} {xs:List SV} {ds:List D} {d:D} (h:m s=some (.ok xs s1)) (h1:rdCs s1.S xs=some ds) (h2:g ds=some (d,false)):nCB g m s=some (.ok (.pl d) s1):=by
  unfold nCB; rw [bN_ok h]; simp only [h1,h2,Option.bind_some]; rfl
theorem ncb_newL {g:List D->Option (D × Bool)} {m:MN (List SV)} {s s1:SS} {xs:List SV} {ds:List D} {l:List D} (h:m s=some (.ok xs s1)) (h1:rdCs s1.S xs=some ds) (h2:g ds=some (.list l,true)):nCB g m s=some (.ok (.lc s1.S.length) ⟨s1.S++[some (.dat (.list l))],s1.t⟩):=by
  unfold nCB; rw [bN_ok h]; simp only [h1,h2,Option.bind_some]; rfl
theorem nlst0 {s:SS}:nLst naNil s=some (.ok (.lc s.S.length) ⟨s.S++[some (.dat (.list []))],s.t⟩):=by
  unfold nLst
  rw [bN_ok (show naNil s=some (.ok [] s) from rfl),cIf_pos (show ([]:List SV).length≤sizeLine from Nat.zero_le _)]
  rfl
theorem ntup_pl {m:MN (List SV)} {s s1:SS} {xs:List SV} {ds:List D} (h:m s=some (.ok xs s1)) (h1:allPl xs=some ds) (h2:xs.length≤100):nTup m s=some (.ok (.pl (.tuple ds)) s1):=by
  unfold nTup
  rw [bN_ok h,cIf_pos (sz_le (by omega))]
  simp only [mkT,h1]
theorem napp_pl {a:EN} {m:MN (List SV)} {s s1 s2:SS} {k:Nat} {ds:List D} {d:D} {ds0:List D} (h:a s=some (.ok (.lc k) s1)) (h0:s1.S[k]?=some (some (.dat (.list ds0)))) (h1:m s1=some (.ok [.pl d] s2)) (h2:s2.S[k]?=some (some (.dat (.list ds)))) (h3:ds.length≤100000):nApp a m s=some (.ok (.pl .none) ⟨s2.S.set k (some (.dat (.list (ds++[d])))),s2.t⟩):=by
  unfold nApp nMutG
  rw [bN_ok h]
  simp only [isLst,h0,if_true]
  rw [bN_ok h1]
  simp only [uApp,h2,cIf_pos (sz_lt h3)]
theorem forN_nil {n:Nat} {kp:List Nat} {g:SV->SN} {b:SN} {s:SS}:forN n kp (fun _=>True) g b [] s=some (.nx s):=by unfold forN; rw [cIf_pos trivial]
theorem forN_cons {n:Nat} {kp:List Nat} {g:SV->SN} {b:SN} {d:SV} {ds:List SV} {s s1 s2 s3:SS} {o:Option NOut} (h1:g d s=some (.nx s1)) (h2:b s1=some (.nx s2)) (h3:gcE n kp s2=s3) (h4:forN n kp (fun _=>True) g b ds s3=o):forN n kp (fun _=>True) g b (d::ds) s=o:=by
  unfold forN; rw [cIf_pos trivial,h1]; dsimp only; rw [h2]; dsimp only; rw [h3]; exact h4
theorem nfor_ok {kp:List Nat} {it:Rho->Option (List D × Rho)} {g:SV->SN} {b:SN} {s:SS} {ds:List D} {ρ:Rho} {o:Option NOut} (h1:it (vwC s)=some (ds,ρ)) (h2:forN s.S.length kp (fun _=>True) g b (ds.map .pl) s=o):nFor kp it g b s=o:=by unfold nFor; rw [h1,Option.bind_some]; exact h2
theorem ngn_ok {i:Nat} {x:SV} {s:SS} (h:i < s.t.length):ngN i x s=some (.nx ⟨s.S,s.t.set i (some x)⟩):=by unfold ngN; rw [if_pos h]
theorem gcE_same {S:List (Option Cl)} {kp:List Nat} {t:List (Option SV)} (h:noEsc S.length S=true) (ht:lowT S.length t=true):gcE S.length kp ⟨S,t⟩=⟨S,t⟩:=by
  have:=gcE_low (X:=[]) (kp:=kp) h ht
  rwa [List.append_nil] at this
structure Ent where
  w:Str
  s:Int
  p:Int
  a:Int
  b:Int
def eD (e:Ent):D:=.tuple [.str e.w,.int e.s,.int e.p,.int e.a,.int e.b]
def rD (l:List Ent):D:=.list (l.map eD)
def lastB (l:List Ent):Int:=(l.getLast?.map (·.b)).getD 0
structure Led (ca:CA) (S:List (Option Cl)) (i j:Nat) (l:List Ent):Prop where
  o:S[i]?=some (some (.obj ca.Ledger [("rows",.lc j)]))
  r:S[j]?=some (some (.dat (rD l)))
  w:noEsc S.length S=true
  z:l.length≤100
  k:∀ e∈l,PyData.strOk e.w=true
theorem canLay_rows:∀ l:List Ent,(∀ e∈l,PyData.strOk e.w=true)->PyData.canLayAll0 (l.map eD)=true
  | [],_=>rfl
  | e::l,h=>by
    rw [List.map_cons]
    simp only [PyData.canLayAll0,canLay_rows l fun x hx=>h x (List.mem_cons_of_mem _ hx),eD,PyData.canLay0,Bool.and_true,h e List.mem_cons_self]
theorem depth_rows (l:List Ent):(rD l).depth≤3:=by
  unfold rD
  have h:∀ l:List Ent,PyData.depthAll (l.map eD)≤2:=by
    intro l
    induction l with
    | nil=>simp [PyData.depthAll]
    | cons e l ih =>
      rw [List.map_cons]
      simp only [PyData.depthAll,eD,PyData.depth]
      omega
  simp only [PyData.depth]
  have:=h l
  omega
theorem shaped_rows (l:List Ent) (hk:∀ e∈l,PyData.strOk e.w=true):SeqAt.shaped (rD l)=true:=by
  unfold SeqAt.shaped
  have h:=depth_rows l
  rw [decide_eq_true (by omega),Bool.and_true]
  simp only [rD,PyData.canLay0,canLay_rows l hk]
theorem eq_nil (l:List Ent) (hk:∀ e∈l,PyData.strOk e.w=true):gEq (rD l) (.list [])=some (.bool l.isEmpty,false):=by
  unfold gEq
  rw [if_pos ⟨shaped_rows l hk,shaped_rows [] (fun e he=>by cases he)⟩]
  cases l with
  | nil=>rfl
  | cons e l=>simp only [rD,List.map_cons,PyData.eqv,PyData.eqvAll,List.isEmpty_cons]
theorem eq_rows (l:List Ent) (hk:∀ e∈l,PyData.strOk e.w=true):PyData.eqv (rD l) (rD l)=true:=SeqAt.eqv_refl _ (SeqAt.canLay_of_shaped (shaped_rows l hk))
section
variable {ca:CA} {S:List (Option Cl)} {i j:Nat} {l:List Ent}
theorem fld_rows {t:List (Option SV)} {X:List (Option Cl)} (h:Led ca S i j l) (ht:t[0]?=some (some (.lc i))):nFldC ca.Ledger (nVar 0) "rows" ⟨S++X,t⟩=some (.ok (.lc j) ⟨S++X,t⟩) :=
  nfldC_ok (nvar_ok ht) (get_app h.o) rfl
theorem fld_rows0 {t:List (Option SV)} (h:Led ca S i j l) (ht:t[0]?=some (some (.lc i))):nFldC ca.Ledger (nVar 0) "rows" ⟨S,t⟩=some (.ok (.lc j) ⟨S,t⟩) :=
  nfldC_ok (nvar_ok ht) h.o rfl
theorem entries_is (h:Led ca S i j l):m_Ledger_entries ca S [.lc i]=some (.ok (.lc S.length) (S++[some (.dat (rD l))])):=by
  refine fnS_ok rfl (o:=.rt (.lc S.length) ⟨S++[some (.dat (rD l))],[some (.lc i)]⟩) (nret_ok ?_) ?_
  . exact ncb_newL (s1:=⟨S,[some (.lc i)]⟩) (ds:=[rD l]) (nacons (fld_rows0 h rfl) nanil) (by simp only [rdCs,rc_lc h.r,Option.bind_some,Option.map_some]) rfl
  . simp only [retS,blV,Nat.lt_irrefl,decide_false,Bool.false_eq_true,if_false]
theorem credit_is (h:Led ca S i j l):m_Ledger_credit ca S [.lc i]=some (.ok (.pl (.int (lastB l))) S):=by
  have t1:nTest (nOp gEq (nFldC ca.Ledger (nVar 0) "rows") (nLst naNil)) ⟨S,[some (.lc i)]⟩=some (.ok l.isEmpty ⟨S++[some (.dat (.list []))],[some (.lc i)]⟩) :=
    ntest_ok (nop_ok (fld_rows0 h rfl) nlst0 (rc_lc (get_app h.r)) (rc_lc get_new) (eq_nil l h.k))
  cases l with
  | nil =>
    refine fnS_ok rfl (o:=.rt (.pl (.int 0)) ⟨S++[some (.dat (.list []))],[some (.lc i)]⟩) (nseq_rt (nif_t t1 rfl)) ?_
    simp only [retS,blV,if_true,fS_app h.w]
    rfl
  | cons e l =>
    obtain ⟨q,f,hq⟩:∃ q f,e::l=q++[f]:=⟨(e::l).dropLast,(e::l).getLast (by simp),(List.dropLast_concat_getLast (by simp)).symm⟩
    rw [hq] at h ⊢
    have la:L2.atI ((q++[f]).map eD) (-1)=some (eD f):=by rw [Mir.atI_last,List.map_append]; simp
    refine fnS_ok rfl (o:=.rt (.pl (.int f.b)) ⟨S++[some (.dat (.list []))],[some (.lc i)]⟩) (nseq_nx (nif_f t1 rfl) (nret_ok ?_)) ?_
    . refine nix_ok (x:=.pl (eD f)) (nix_ok (i:=-1) (fld_rows h rfl) (no_ie (ie_neg ie_c)) ?_) rfl rfl
      simp only [ixV,get_app (X:=[some (Cl.dat (.list []))]) h.r,rD,la,Option.map_some]
    . simp only [retS,blV,if_true,fS_app h.w]
      simp [lastB]
end
theorem whole (i:Int):m_law_whole [.int i]=some (.bool true,false):=by
  refine fn_of (o:=.rt (.bool true,.fz) [.fz (.int i)]) rfl (ret_eq ?_) rfl
  have a1:BE (mIsi "int" (mVar 0)) [.fz (.int i)] true:=isi_ev (sv_fz (var_fz rfl)) (isi_int_int i)
  have a2:BE (mIsi "bool" (mVar 0)) [.fz (.int i)] false:=isi_ev (sv_fz (var_fz rfl)) (isi_int_bool i)
  exact be_and a1 (fun _=>be_not a2) (fun z=>by cases z)
section
variable {ca:CA} {S:List (Option Cl)} {i j r:Nat} {l:List Ent}
theorem noEsc_snoc {S:List (Option Cl)} {c:Cl} (h:noEsc S.length S=true) (hc:blC (S.length + 1) c=true) (hm:∀ d,blC S.length d=true->blC (S.length + 1) d=true):noEsc (S++[some c]).length (S++[some c])=true:=by
  unfold noEsc at h ⊢
  rw [List.take_length] at h ⊢
  rw [List.length_append,List.length_singleton]
  refine List.all_eq_true.mpr fun x hx=>?_
  rcases List.mem_append.mp hx with hx | hx
  . have:=(List.all_eq_true.mp h) x hx
    cases x with
    | none=>rfl
    | some d=>exact hm d this
  . simp only [List.mem_singleton] at hx; subst hx; exact hc
mutual
theorem blV_mono {n m:Nat} (h:n≤m):∀ {x:SV},blV n x=true->blV m x=true
  | .pl _,_=>by simp only [blV]
  | .lc k,e=>by simp only [blV,decide_eq_true_eq] at e ⊢; omega
  | .tp xs,e=>by simp only [blV] at e ⊢; exact blVs_mono h e
theorem blVs_mono {n m:Nat} (h:n≤m):∀ {x:List SV},blVs n x=true->blVs m x=true
  | [],_=>by simp only [blVs]
  | x::xs,e=>by
    simp only [blVs,Bool.and_eq_true] at e ⊢
    exact ⟨blV_mono h e.1,blVs_mono h e.2⟩
end
theorem blFs_mono {α:Type} {n m:Nat} (h:n≤m):∀ {x:List (α × SV)},blFs n x=true->blFs m x=true
  | [],_=>by simp only [blFs]
  | x::xs,e=>by
    simp only [blFs,Bool.and_eq_true] at e ⊢
    exact ⟨blV_mono h e.1,blFs_mono h e.2⟩
theorem blC_mono {n m:Nat} (h:n≤m) {c:Cl} (e:blC n c=true):blC m c=true:=by
  cases c with
  | dat d=>rfl
  | obj C fs=>exact blFs_mono h e
  | lst xs=>exact blVs_mono h e
  | dct es=>exact blFs_mono h e
  | exc c=>rfl
theorem noEsc_dat {S:List (Option Cl)} {d:D} (h:noEsc S.length S=true):noEsc (S++[some (Cl.dat d)]).length (S++[some (Cl.dat d)])=true:=noEsc_snoc h rfl fun c hc=>blC_mono (Nat.le_succ _) hc
theorem Led.app (h:Led ca S i j l) (d:D):Led ca (S++[some (.dat d)]) i j l:=⟨get_app h.o,get_app h.r,noEsc_dat h.w,h.z,h.k⟩
theorem Led.lti (h:Led ca S i j l):i < S.length:=(List.getElem?_eq_some_iff.mp h.o).1
theorem Led.ltj (h:Led ca S i j l):j < S.length:=(List.getElem?_eq_some_iff.mp h.r).1
theorem Led.enter (h:Led ca S i j l) (e:Ent) (he:PyData.strOk e.w=true) (hz:l.length < 100) (ij:i≠j):Led ca (S.set j (some (.dat (rD (l++[e]))))) i j (l++[e]):=by
  refine ⟨?_,?_,noEsc_set h.w rfl,by simp; omega,fun x hx=>?_⟩
  . rw [List.getElem?_set_ne (Ne.symm ij)]; exact h.o
  . rw [List.getElem?_set_self h.ltj]
  . rcases List.mem_append.mp hx with hx | hx
    . exact h.k x hx
    . simp only [List.mem_singleton] at hx; subst hx; exact he
end
theorem forN_inv {n:Nat} {kp:List Nat} {g:SV->SN} {b:SN} (I:Nat->SS->Prop):∀ (ds:List SV) (k:Nat) (s:SS),I k s ->
    (∀ (i:Nat) (d:SV) (s:SS),ds[i]?=some d->I (k + i) s->∃ s1 s2,g d s=some (.nx s1)∧b s1=some (.nx s2)∧I (k + i + 1) (gcE n kp s2))->∃ s',I (k + ds.length) s'∧forN n kp (fun _=>True) g b ds s=some (.nx s')
  | [],k,s,h,_=>⟨s,h,forN_nil⟩
  | d::ds,k,s,h,st=>by
    obtain ⟨s1,s2,h1,h2,h3⟩:=st 0 d s rfl h
    obtain ⟨s',h4,h5⟩:=forN_inv I ds (k + 1) _ h3 fun i d s hi hI=>by
      have:=st (i + 1) d s hi (by rw [show k + (i + 1)=k + 1 + i by omega]; exact hI)
      rwa [show k + (i + 1) + 1=k + 1 + i + 1 by omega] at this
    exact ⟨s',by rw [List.length_cons,show k + (ds.length + 1)=k + 1 + ds.length by omega]; exact h4,forN_cons h1 h2 rfl h5⟩
theorem qt_ok {α:Type} {m:MN α} {s s':SS} {v : α} (h:m s=some (.ok v s')):qt m s=some (.ok v s'):=by unfold qt; rw [h]
theorem bS_er {α:Type} {m:MN α} {k : α->SN} {s s':SS} {x:Xc} (h:m s=some (.er x s')):bS m k s=some (.er x s'):=by unfold bS; rw [h]
theorem ndrop_er {a:EN} {s s':SS} {x:Xc} (h:a s=some (.er x s')):nDrop a s=some (.er x s'):=bS_er h
theorem nseq_er {a b:SN} {s s':SS} {x:Xc} (h:a s=some (.er x s')):nSeq a b s=some (.er x s'):=by unfold nSeq; rw [h]
theorem nmeth_er {C:Addr} {mn:Str} {f:FN} {dv:List D} {a:EN} {m:MN (List SV)} {s s1 s2:SS} {k:Nat} {fs:List (Str × SV)} {xs:List SV} {x:Xc} {S':List (Option Cl)} (h:a s=some (.ok (.lc k) s1)) (h1:s1.S[k]?=some (some (.obj C fs))) (h2:fs.lookup mn=none) (h3:m s1=some (.ok xs s2)) (h4:f s2.S (.lc k::(xs++dv.map .pl))=some (.er x S')):nMeth C mn f dv a m s=some (.er x ⟨S',s2.t⟩):=by
  unfold nMeth; rw [bN_ok h]; simp only [objAt,h1,Option.bind_some,h2,and_self,if_true,bN_ok h3,h4,Option.map_some,frR]
theorem forG_nil {n:Nat} {kp:List Nat} {ok:SS->Prop} {g:SV->SN} {b:SN} {s:SS} (h:ok s):forN n kp ok g b [] s=some (.nx s):=by unfold forN; rw [cIf_pos h]
theorem forG_cons {n:Nat} {kp:List Nat} {ok:SS->Prop} {g:SV->SN} {b:SN} {d:SV} {ds:List SV} {s s1 s2 s3:SS} {o:Option NOut} (h0:ok s) (h1:g d s=some (.nx s1)) (h2:b s1=some (.nx s2)) (h3:gcE n kp s2=s3) (h4:forN n kp ok g b ds s3=o):forN n kp ok g b (d::ds) s=o:=by
  unfold forN; rw [cIf_pos h0,h1]; dsimp only; rw [h2]; dsimp only; rw [h3]; exact h4
theorem ne_rows (l:List Ent) (hk:∀ e∈l,PyData.strOk e.w=true):gNe (rD l) (rD l)=some (.bool false,false):=by
  unfold gNe
  rw [if_pos ⟨shaped_rows l hk,shaped_rows l hk⟩,eq_rows l hk]
  rfl
theorem nc_ok {m:PM} {s:SS} {d:D} {ρ:Rho} (h:m (vwC s)=some ((d,.fz),ρ)):nC m s=some (.ok (.pl d) s):=by
  unfold nC; rw [h,Option.bind_some]
def cnt:D->Bool
  | .int i=>decide (0≤i)
  | _=>false
theorem cnt_is (d:D):m_is_count [d]=some (.bool (cnt d),false):=by
  have ev:∀ {n:String} {v:Bool},gIsiD n d=some (.bool v,false)->BE (mIsiD n (mVar 0)) [.fz d] v:=fun {n v} h=>by
    have h1:sv (mVar 0) [.fz d]=some ((d,.fz),[.fz d]):=sv_fz (var_fz rfl)
    unfold BE mIsiD mUn
    rw [h1,Option.bind_some]
    dsimp only
    rw [h]
    rfl
  have no:gIsiD "int" d=some (.bool false,false)->m_is_count [d]=some (.bool false,false):=fun h=>by
    refine fn_of (o:=.rt (.bool false,.fz) [.fz d]) rfl (ret_eq ?_) rfl
    exact be_and (ev h) (fun z=>by cases z) (fun _=>rfl)
  cases d with
  | int i =>
    refine fn_of (o:=.rt (.bool (decide (0≤i)),.fz) [.fz (.int i)]) rfl (ret_eq ?_) rfl
    exact be_and (ev (isi_int_int i)) (fun _=>be_and (be_not (ev (isi_int_bool i))) (fun _=>be_ge (ie_var rfl) ie_c) (fun z=>by cases z)) (fun z=>by cases z)
  | bool b =>
    refine fn_of (o:=.rt (.bool false,.fz) [.fz (.bool b)]) rfl (ret_eq ?_) rfl
    exact be_and (ev (v:=true) (by simp [gIsiD,gIsi,tyD,tyAsked,tyIs])) (fun _=>be_and (be_not (ev (v:=true) (by simp [gIsiD,gIsi,tyD,tyAsked,tyIs]))) (fun z=>by cases z) (fun _=>rfl)) (fun z=>by cases z)
  | none=>exact no (by simp [gIsiD,gIsi,tyD,tyAsked,tyIs])
  | str x=>exact no (by simp [gIsiD,gIsi,tyD,tyAsked,tyIs])
  | tuple x=>exact no (by simp [gIsiD,gIsi,tyD,tyAsked,tyIs])
  | list x=>exact no (by simp [gIsiD,gIsi,tyD,tyAsked,tyIs])
  | dict x=>exact no (by simp [gIsiD,tyAsked,tyIs])
theorem forN_er {n:Nat} {kp:List Nat} {g:SV->SN} {b:SN} {d:SV} {ds:List SV} {s s1 s2:SS} {x:Xc} (h1:g d s=some (.nx s1)) (h2:b s1=some (.er x s2)):forN n kp (fun _=>True) g b (d::ds) s=some (.er x s2):=by
  unfold forN; rw [cIf_pos trivial,h1]; dsimp only; rw [h2]
section
variable {ca:CA} {S:List (Option Cl)} {i j r:Nat} {l:List Ent}
def eT (i:Nat) (w:Str) (s p c:D) (a:Int) (b:D) (x y:Option SV):List (Option SV):=[some (.lc i),some (.pl (.str w)),some (.pl s),some (.pl p),some (.pl c),some (.pl (.int a)),some (.pl b),x,y]
noncomputable def enterTail (ca:CA):SN:=nSeq (nAsg (nO (mOp Mir.gSub (mOp Mir.gSub (mOp gAdd (mVar 2) (mVar 6)) (mVar 5)) (mVar 3))) (ngN 8))
    (nSeq (nIfS (nTo (mTest (mOp gGt (mVar 8) (mC (.int 0)))))
    (nRaiseD "Overdrawn" (naCons (nVar 8) naNil))
    nPass)
    (nDrop (nApp (nFldC ca.Ledger (nVar 0) "rows") (naCons (nTup (naCons (nVar 1) (naCons (nVar 2) (naCons (nVar 3) (naCons (nVar 5) (naCons (nVar 6) naNil)))))) naNil))))
theorem enter_pre (h:Led ca S i j l) (w:Str) (s p b c:D) (hc:(isNone c=false∧b=c)∨(c=.none∧b=.int (lastB l))) {o:Option NOut}
    (ho:(nSeq (nFor [0,1,2,3,4,5,6,8] (mItT (mTup (mCons (mVar 2) (mCons (mVar 3) (mCons (mVar 6) mNil))))) (ngN 7) (lb1_Ledger_enter ca)) (enterTail ca)) ⟨S,eT i w s p c (lastB l) b none none⟩=o) :
    b_Ledger_enter ca ⟨S,[some (.lc i),some (.pl (.str w)),some (.pl s),some (.pl p),some (.pl c),none,none,none,none]⟩=o:=by
  have e1:qt (nMeth ca.Ledger "credit" (m_Ledger_credit ca) [] (nVar 0) naNil) ⟨S,[some (.lc i),some (.pl (.str w)),some (.pl s),some (.pl p),some (.pl c),none,none,none,none]⟩=some (.ok (.pl (.int (lastB l))) ⟨S,[some (.lc i),some (.pl (.str w)),some (.pl s),some (.pl p),some (.pl c),none,none,none,none]⟩):=qt_ok (nmeth_ok (nvar_ok rfl) h.o rfl nanil (credit_is h))
  have e2:nC (mIfE (mTest (mOp gIs (mVar 4) (mC .none))) (mVar 5) (mVar 4)) ⟨S,[some (.lc i),some (.pl (.str w)),some (.pl s),some (.pl p),some (.pl c),some (.pl (.int (lastB l))),none,none,none]⟩=some (.ok (.pl b) ⟨S,[some (.lc i),some (.pl (.str w)),some (.pl s),some (.pl p),some (.pl c),some (.pl (.int (lastB l))),none,none,none]⟩):=by
    refine nc_ok (ρ:=vwC ⟨S,[some (.lc i),some (.pl (.str w)),some (.pl s),some (.pl p),some (.pl c),some (.pl (.int (lastB l))),none,none,none]⟩) ?_
    rcases hc with ⟨hn,rfl⟩ | ⟨rfl,rfl⟩
    . exact ifE_f (test_ev (k:=.fz) (op_ev (res:=(.bool false,false)) (sv_fz (var_fz (vwC_pl rfl))) (sv_fz rfl) (by show some (PyData.bool (isNone _),false)=_; rw [hn]))) (var_fz (vwC_pl rfl))
    . exact ifE_t (test_ev (k:=.fz) (op_ev (res:=(.bool true,false)) (sv_fz (var_fz (vwC_pl rfl))) (sv_fz rfl) rfl)) (var_fz (vwC_pl rfl))
  exact nseq_nx (nasg_n e1 (by simp)) (nseq_nx (nasg_n e2 (by simp)) ho)
theorem low_eT (h:Led ca S i j l) {w:Str} {s p c b:D} {a:Int} {x:Option SV} (hx:x=none∨∃ d,x=some (.pl d)):lowT S.length (eT i w s p c a b x none)=true:=by
  have lti:=h.lti
  rcases hx with rfl | ⟨d,rfl⟩ <;> simp [eT,lowT,blV,lti]
theorem enter_it {s p c b:D} {a:Int} {w:Str}:mItT (mTup (mCons (mVar 2) (mCons (mVar 3) (mCons (mVar 6) mNil)))) (vwC ⟨S,eT i w s p c a b none none⟩)=some ([s,p,b],vwC ⟨S,eT i w s p c a b none none⟩):=by
  have ev:mTup (mCons (mVar 2) (mCons (mVar 3) (mCons (mVar 6) mNil))) (vwC ⟨S,eT i w s p c a b none none⟩)=some ((.tuple [s,p,b],.fz),vwC ⟨S,eT i w s p c a b none none⟩) :=
    tup_ev (rs:=[(s,.fz),(p,.fz),(b,.fz)]) (cons_fz (sv_fz (var_fz (vwC_pl rfl))) (cons_fz (sv_fz (var_fz (vwC_pl rfl))) (cons_fz (sv_fz (var_fz (vwC_pl rfl))) nil_ev))) rfl (by simp)
  unfold mItT
  rw [sv_fz ev]
  rfl
theorem turn_ok {w:Str} {s p c b v:D} {a:Int} (hv:cnt v=true):lb1_Ledger_enter ca ⟨S,eT i w s p c a b (some (.pl v)) none⟩=some (.nx ⟨S,eT i w s p c a b (some (.pl v)) none⟩):=by
  refine nif_f (nto_ok (b:=false) (ρ:=vw ⟨S,eT i w s p c a b (some (.pl v)) none⟩) ?_) rfl
  exact not_ev (c:=mTest _) (v:=true) ((be_call (rs:=[(v,.fz)]) (cons_fz (sv_fz (var_fz (vw_pl rfl))) nil_ev) ((cnt_is v).trans (by rw [hv]))).t)
theorem turn_er {w:Str} {s p c b v:D} {a:Int} (hv:cnt v=false):lb1_Ledger_enter ca ⟨S,eT i w s p c a b (some (.pl v)) none⟩=some (.er ⟨"NoNumber",none⟩ ⟨S,eT i w s p c a b (some (.pl v)) none⟩):=by
  refine nif_t (nto_ok (b:=true) (ρ:=vw ⟨S,eT i w s p c a b (some (.pl v)) none⟩) ?_) rfl
  exact not_ev (c:=mTest _) (v:=false) ((be_call (rs:=[(v,.fz)]) (cons_fz (sv_fz (var_fz (vw_pl rfl))) nil_ev) ((cnt_is v).trans (by rw [hv]))).t)
theorem enter_bad (h:Led ca S i j l) (w:Str) (s p b c:D) (hc:(isNone c=false∧b=c)∨(c=.none∧b=.int (lastB l))) (bad:cnt s=false∨cnt p=false∨cnt b=false) :
    m_Ledger_enter ca S [.lc i,.pl (.str w),.pl s,.pl p,.pl c]=some (.er ⟨"NoNumber",none⟩ S):=by
  have fin:∀ x:Option SV,(nFor [0,1,2,3,4,5,6,8] (mItT (mTup (mCons (mVar 2) (mCons (mVar 3) (mCons (mVar 6) mNil))))) (ngN 7) (lb1_Ledger_enter ca)) ⟨S,eT i w s p c (lastB l) b none none⟩=some (.er ⟨"NoNumber",none⟩ ⟨S,eT i w s p c (lastB l) b x none⟩)->m_Ledger_enter ca S [.lc i,.pl (.str w),.pl s,.pl p,.pl c]=some (.er ⟨"NoNumber",none⟩ S):=fun x hx=>by
    refine fnS_ok rfl (o:=.er ⟨"NoNumber",none⟩ ⟨S,eT i w s p c (lastB l) b x none⟩) (enter_pre h w s p b c hc (nseq_er hx)) ?_
    simp only [retS]
    rw [fS_self h.w]
  cases hs:cnt s with
  | false=>exact fin _ (nfor_ok (ds:=[s,p,b]) enter_it (forN_er (ngn_ok (by simp [eT])) (turn_er hs)))
  | true =>
    cases hp:cnt p with
    | false=>exact fin _ (nfor_ok (ds:=[s,p,b]) enter_it (forN_cons (ngn_ok (by simp [eT])) (turn_ok hs) (gcE_same h.w (low_eT h (.inr ⟨_,rfl⟩))) (forN_er (ngn_ok (by simp [eT])) (turn_er hp))))
    | true =>
      have hb:cnt b=false:=by rcases bad with z | z | z; rw [hs] at z; cases z; rw [hp] at z; cases z; exact z
      exact fin _ (nfor_ok (ds:=[s,p,b]) enter_it (forN_cons (ngn_ok (by simp [eT])) (turn_ok hs) (gcE_same h.w (low_eT h (.inr ⟨_,rfl⟩))) (forN_cons (ngn_ok (by simp [eT])) (turn_ok hp) (gcE_same h.w (low_eT h (.inr ⟨_,rfl⟩))) (forN_er (ngn_ok (by simp [eT])) (turn_er hb)))))
theorem enter_go (h:Led ca S i j l) (w:Str) (s p b:Int) (c:D) (hs : 0≤s) (hp : 0≤p) (hb : 0≤b) (hc:c=.int b∨(c=.none∧b=lastB l)) {o:Option NOut}
    (ho:(nSeq (nIfS (nTo (mTest (mOp gGt (mVar 8) (mC (.int 0))))) (nRaiseD "Overdrawn" (naCons (nVar 8) naNil)) nPass) (nDrop (nApp (nFldC ca.Ledger (nVar 0) "rows") (naCons (nTup (naCons (nVar 1) (naCons (nVar 2) (naCons (nVar 3) (naCons (nVar 5) (naCons (nVar 6) naNil)))))) naNil)))) ⟨S,eT i w (.int s) (.int p) c (lastB l) (.int b) (some (.pl (.int b))) (some (.pl (.int (s + b - lastB l - p))))⟩=o) :
    b_Ledger_enter ca ⟨S,[some (.lc i),some (.pl (.str w)),some (.pl (.int s)),some (.pl (.int p)),some (.pl c),none,none,none,none]⟩=o:=by
  refine enter_pre h w (.int s) (.int p) (.int b) c (by rcases hc with rfl | ⟨rfl,rfl⟩; exact .inl ⟨rfl,rfl⟩; exact .inr ⟨rfl,rfl⟩) ?_
  have ci:∀ v:Int,0≤v->cnt (.int v)=true:=fun v hv=>decide_eq_true hv
  refine nseq_nx (s':=⟨S,eT i w (.int s) (.int p) c (lastB l) (.int b) (some (.pl (.int b))) none⟩) (nfor_ok (ds:=[.int s,.int p,.int b]) enter_it (forN_cons (ngn_ok (by simp [eT])) (turn_ok (ci s hs)) (gcE_same h.w (low_eT h (.inr ⟨_,rfl⟩))) (forN_cons (ngn_ok (by simp [eT])) (turn_ok (ci p hp)) (gcE_same h.w (low_eT h (.inr ⟨_,rfl⟩))) (forN_cons (ngn_ok (by simp [eT])) (turn_ok (ci b hb)) (gcE_same h.w (low_eT h (.inr ⟨_,rfl⟩))) forN_nil)))) ?_
  refine nseq_nx (nasg_n (x:=.pl (.int (s + b - lastB l - p))) (s':=⟨S,eT i w (.int s) (.int p) c (lastB l) (.int b) (some (.pl (.int b))) none⟩) ?_ (by simp [eT])) ho
  exact no_ie (ie_sub (ie_sub (ie_add (ie_var (vw_pl rfl)) (ie_var (vw_pl rfl))) (ie_var (vw_pl rfl))) (ie_var (vw_pl rfl)))
theorem enter_ok (h:Led ca S i j l) (w:Str) (s p b:Int) (c:D) (hs : 0≤s) (hp : 0≤p) (hb : 0≤b) (hc:c=.int b∨(c=.none∧b=lastB l)) (le:s + b≤lastB l + p) :
    m_Ledger_enter ca S [.lc i,.pl (.str w),.pl (.int s),.pl (.int p),.pl c]=some (.ok (.pl .none) (S.set j (some (.dat (rD (l++[⟨w,s,p,lastB l,b⟩])))))):=by
  let t:=eT i w (.int s) (.int p) c (lastB l) (.int b) (some (.pl (.int b))) (some (.pl (.int (s + b - lastB l - p))))
  refine fnS_ok rfl (o:=.nx ⟨S.set j (some (.dat (rD (l++[⟨w,s,p,lastB l,b⟩])))),t⟩) (enter_go h w s p b c hs hp hb hc ?_) ?_
  . have e5:nTo (mTest (mOp gGt (mVar 8) (mC (.int 0)))) ⟨S,t⟩=some (.ok false ⟨S,t⟩):=nto_ok (tstB (be_gt (ie_var (vw_pl rfl)) ie_c) (decide_eq_false (by omega)))
    refine nseq_nx (nif_f e5 rfl) (ndrop_ok (x:=.pl .none) ?_)
    have e6:nTup (naCons (nVar 1) (naCons (nVar 2) (naCons (nVar 3) (naCons (nVar 5) (naCons (nVar 6) naNil))))) ⟨S,t⟩=some (.ok (.pl (eD ⟨w,s,p,lastB l,b⟩)) ⟨S,t⟩) :=
      ntup_pl (nacons (nvar_ok rfl) (nacons (nvar_ok rfl) (nacons (nvar_ok rfl) (nacons (nvar_ok rfl) (nacons (nvar_ok rfl) nanil))))) rfl (by simp)
    have e7:=napp_pl (a:=nFldC ca.Ledger (nVar 0) "rows") (fld_rows0 h (t:=t) rfl) h.r (nacons e6 nanil) h.r (by have:=h.z; simp; omega)
    refine e7.trans ?_
    simp only [rD,List.map_append,List.map_cons,List.map_nil]
  . simp only [retS]
    rw [fS_set h.w rfl]
theorem enter_er (h:Led ca S i j l) (w:Str) (s p b:Int) (c:D) (hs : 0≤s) (hp : 0≤p) (hb : 0≤b) (hc:c=.int b∨(c=.none∧b=lastB l)) (lt : 0 < s + b - lastB l - p) (hz:(s + b - lastB l - p).natAbs.log2 < 1920) :
    m_Ledger_enter ca S [.lc i,.pl (.str w),.pl (.int s),.pl (.int p),.pl c]=some (.er ⟨"Overdrawn",some (s + b - lastB l - p)⟩ S):=by
  let t:=eT i w (.int s) (.int p) c (lastB l) (.int b) (some (.pl (.int b))) (some (.pl (.int (s + b - lastB l - p))))
  refine fnS_ok rfl (o:=.er ⟨"Overdrawn",some (s + b - lastB l - p)⟩ ⟨S,t⟩) (enter_go h w s p b c hs hp hb hc ?_) ?_
  . have e5:nTo (mTest (mOp gGt (mVar 8) (mC (.int 0)))) ⟨S,t⟩=some (.ok true ⟨S,t⟩):=nto_ok (tstB (be_gt (ie_var (vw_pl rfl)) ie_c) (decide_eq_true (by omega)))
    refine nseq_er (nif_t e5 ?_)
    unfold nRaiseD
    rw [bS_ok (nacons (x:=.pl (.int (s + b - lastB l - p))) (nvar_ok rfl) nanil)]
    dsimp only
    rw [if_pos hz]
  . simp only [retS]
    rw [fS_self h.w]
end
theorem pureR_ints (l:List Int):pureR (.list (l.map .int)) true=true:=pureDs_ints l
theorem nlst_ok {m:MN (List SV)} {s s1:SS} {xs:List SV} (h:m s=some (.ok xs s1)) (hz:xs.length≤100):nLst m s=some (.ok (.lc s1.S.length) ⟨s1.S++[some (mkL xs)],s1.t⟩):=by
  unfold nLst
  rw [bN_ok h,cIf_pos (sz_le (by omega))]
  rfl
theorem nisi {i k:Nat} {c:Str} {n:Option Int} {b:Bool} {tab:List (Str × Bool)} {s:SS} (ht:s.t[i]?=some (some (.lc k))) (hS:s.S[k]?=some (some (.exc c n))) (h:tab.lookup c=some b):nIsiX i (fun k=>tab.lookup k) s=some (.ok (.pl (.bool b)) s):=by
  unfold nIsiX; rw [bN_ok (nvar_ok ht)]; simp only [hS,h,Option.map_some]
theorem nop_newL {g:D->D->Option (D × Bool)} {a b:EN} {s s1 s2:SS} {x y:SV} {c d:D} {l:List D} (h1:a s=some (.ok x s1)) (h2:b s1=some (.ok y s2)) (h3:rdC s2.S x=some c) (h4:rdC s2.S y=some d) (h5:g c d=some (.list l,true)):nOp g a b s=some (.ok (.lc s2.S.length) ⟨s2.S++[some (.dat (.list l))],s2.t⟩):=by
  unfold nOp; rw [bN_ok h1,bN_ok h2]; simp only [h3,h4,h5,Option.bind_some]; rfl
def kX (b:Nat->Bool):List (Option Cl):=[some (.dat (.list [.bool (b 0),.bool (b 1),.bool (b 2)])),some (.dat (.list [.bool (b 3),.bool (b 4),.bool (b 5)])),some (.dat (.list [.bool (b 0),.bool (b 1),.bool (b 2),.bool (b 3),.bool (b 4),.bool (b 5)])),some (.dat (.list [.bool (b 6),.bool (b 7),.bool (b 8)])),some (.dat (.list [.bool (b 0),.bool (b 1),.bool (b 2),.bool (b 3),.bool (b 4),.bool (b 5),.bool (b 6),.bool (b 7),.bool (b 8)])),some (.dat (.list [.bool (b 9),.bool (b 10),.bool (b 11)])),some (.dat (.list [.bool (b 0),.bool (b 1),.bool (b 2),.bool (b 3),.bool (b 4),.bool (b 5),.bool (b 6),.bool (b 7),.bool (b 8),.bool (b 9),.bool (b 10),.bool (b 11)])),some (.dat (.list [.bool (b 12),.bool (b 13)])),some (.dat (.list [.bool (b 0),.bool (b 1),.bool (b 2),.bool (b 3),.bool (b 4),.bool (b 5),.bool (b 6),.bool (b 7),.bool (b 8),.bool (b 9),.bool (b 10),.bool (b 11),.bool (b 12),.bool (b 13)]))]
theorem kinds_gen {ca:CA} {S:List (Option Cl)} {k:Nat} {c:Str} {n:Option Int} (hS:S[k]?=some (some (.exc c n))) (b:Nat->Bool) (h0:kt_ValueError.lookup c=some (b 0)) (h1:kt_CreditError.lookup c=some (b 1)) (h2:kt_NoNumber.lookup c=some (b 2)) (h3:kt_Overdrawn.lookup c=some (b 3)) (h4:kt_Empty.lookup c=some (b 4)) (h5:kt_NoThing.lookup c=some (b 5)) (h6:kt_Lacking.lookup c=some (b 6)) (h7:kt_AtTop.lookup c=some (b 7)) (h8:kt_NoPlace.lookup c=some (b 8)) (h9:kt_Mixed.lookup c=some (b 9)) (h10:kt_NoName.lookup c=some (b 10)) (h11:kt_Twice.lookup c=some (b 11)) (h12:kt_NotLess.lookup c=some (b 12)) (h13:kt_NoRow.lookup c=some (b 13)) {ys:List Int}
    (hc:compL ct1_law_kinds ce1_law_kinds [.fz (.list [.bool (b 0),.bool (b 1),.bool (b 2),.bool (b 3),.bool (b 4),.bool (b 5),.bool (b 6),.bool (b 7),.bool (b 8),.bool (b 9),.bool (b 10),.bool (b 11),.bool (b 12),.bool (b 13)])] (rngD 0 (14:Int).toNat)=some (ys.map .int)) (hz:ys.length≤100) :
    m_law_kinds ca S [.lc k]=some (.ok (.lc (S.length + 9)) (S++kX b++[some (.dat (.list (ys.map .int)))])):=by
  have g0:∀ X:List (Option Cl),(S++X)[k]?=some (some (.exc c n)):=fun X=>get_app hS
  have p1:nAsg (nLst (naCons (nIsiX 0 fun k=>kt_ValueError.lookup k) (naCons (nIsiX 0 fun k=>kt_CreditError.lookup k) (naCons (nIsiX 0 fun k=>kt_NoNumber.lookup k) naNil)))) (ngN 1) ⟨S,[some (.lc k),none]⟩=some (.nx ⟨(S++[some (.dat (.list [.bool (b 0),.bool (b 1),.bool (b 2)]))]),[some (.lc k),some (.lc S.length)]⟩) :=
    nasg_n (nlst_ok (xs:=[.pl (.bool (b 0)),.pl (.bool (b 1)),.pl (.bool (b 2))]) (nacons (nisi rfl hS h0) (nacons (nisi rfl hS h1) (nacons (nisi rfl hS h2) nanil))) (by simp)) (by simp)
  have p2:nAsg (nOp gAdd (nVar 1) (nLst (naCons (nIsiX 0 fun k=>kt_Overdrawn.lookup k) (naCons (nIsiX 0 fun k=>kt_Empty.lookup k) (naCons (nIsiX 0 fun k=>kt_NoThing.lookup k) naNil))))) (ngN 1) ⟨(S++[some (.dat (.list [.bool (b 0),.bool (b 1),.bool (b 2)]))]),[some (.lc k),some (.lc S.length)]⟩=some (.nx ⟨(S++[some (.dat (.list [.bool (b 0),.bool (b 1),.bool (b 2)])),some (.dat (.list [.bool (b 3),.bool (b 4),.bool (b 5)])),some (.dat (.list [.bool (b 0),.bool (b 1),.bool (b 2),.bool (b 3),.bool (b 4),.bool (b 5)]))]),[some (.lc k),some (.lc (S.length + 2))]⟩):=by
    have q1:nLst (naCons (nIsiX 0 fun k=>kt_Overdrawn.lookup k) (naCons (nIsiX 0 fun k=>kt_Empty.lookup k) (naCons (nIsiX 0 fun k=>kt_NoThing.lookup k) naNil))) ⟨(S++[some (.dat (.list [.bool (b 0),.bool (b 1),.bool (b 2)]))]),[some (.lc k),some (.lc S.length)]⟩=some (.ok (.lc (S.length + 1)) ⟨(S++[some (.dat (.list [.bool (b 0),.bool (b 1),.bool (b 2)])),some (.dat (.list [.bool (b 3),.bool (b 4),.bool (b 5)]))]),[some (.lc k),some (.lc S.length)]⟩):=by
      have q0:=nlst_ok (xs:=[.pl (.bool (b 3)),.pl (.bool (b 4)),.pl (.bool (b 5))]) (show (naCons (nIsiX 0 fun k=>kt_Overdrawn.lookup k) (naCons (nIsiX 0 fun k=>kt_Empty.lookup k) (naCons (nIsiX 0 fun k=>kt_NoThing.lookup k) naNil))) ⟨(S++[some (.dat (.list [.bool (b 0),.bool (b 1),.bool (b 2)]))]),[some (.lc k),some (.lc S.length)]⟩=_ from (nacons (nisi rfl (g0 _) h3) (nacons (nisi rfl (g0 _) h4) (nacons (nisi rfl (g0 _) h5) nanil)))) (by simp)
      rw [q0]; simp [mkL,allPl]
    have q2:=nop_newL (g:=gAdd) (c:=.list [.bool (b 0),.bool (b 1),.bool (b 2)]) (d:=.list [.bool (b 3),.bool (b 4),.bool (b 5)]) (l:=[.bool (b 0),.bool (b 1),.bool (b 2),.bool (b 3),.bool (b 4),.bool (b 5)]) (nvar_ok (i:=1) (s:=⟨(S++[some (.dat (.list [.bool (b 0),.bool (b 1),.bool (b 2)]))]),[some (.lc k),some (.lc S.length)]⟩) rfl) q1 (rc_lc (by simp)) (rc_lc (by simp)) (gAdd_list _ _ (by simp))
    have q3:=nasg_n (i:=1) q2 (by simp)
    rw [q3]; simp
  have p3:nAsg (nOp gAdd (nVar 1) (nLst (naCons (nIsiX 0 fun k=>kt_Lacking.lookup k) (naCons (nIsiX 0 fun k=>kt_AtTop.lookup k) (naCons (nIsiX 0 fun k=>kt_NoPlace.lookup k) naNil))))) (ngN 1) ⟨(S++[some (.dat (.list [.bool (b 0),.bool (b 1),.bool (b 2)])),some (.dat (.list [.bool (b 3),.bool (b 4),.bool (b 5)])),some (.dat (.list [.bool (b 0),.bool (b 1),.bool (b 2),.bool (b 3),.bool (b 4),.bool (b 5)]))]),[some (.lc k),some (.lc (S.length + 2))]⟩=some (.nx ⟨(S++[some (.dat (.list [.bool (b 0),.bool (b 1),.bool (b 2)])),some (.dat (.list [.bool (b 3),.bool (b 4),.bool (b 5)])),some (.dat (.list [.bool (b 0),.bool (b 1),.bool (b 2),.bool (b 3),.bool (b 4),.bool (b 5)])),some (.dat (.list [.bool (b 6),.bool (b 7),.bool (b 8)])),some (.dat (.list [.bool (b 0),.bool (b 1),.bool (b 2),.bool (b 3),.bool (b 4),.bool (b 5),.bool (b 6),.bool (b 7),.bool (b 8)]))]),[some (.lc k),some (.lc (S.length + 4))]⟩):=by
    have q1:nLst (naCons (nIsiX 0 fun k=>kt_Lacking.lookup k) (naCons (nIsiX 0 fun k=>kt_AtTop.lookup k) (naCons (nIsiX 0 fun k=>kt_NoPlace.lookup k) naNil))) ⟨(S++[some (.dat (.list [.bool (b 0),.bool (b 1),.bool (b 2)])),some (.dat (.list [.bool (b 3),.bool (b 4),.bool (b 5)])),some (.dat (.list [.bool (b 0),.bool (b 1),.bool (b 2),.bool (b 3),.bool (b 4),.bool (b 5)]))]),[some (.lc k),some (.lc (S.length + 2))]⟩=some (.ok (.lc (S.length + 3)) ⟨(S++[some (.dat (.list [.bool (b 0),.bool (b 1),.bool (b 2)])),some (.dat (.list [.bool (b 3),.bool (b 4),.bool (b 5)])),some (.dat (.list [.bool (b 0),.bool (b 1),.bool (b 2),.bool (b 3),.bool (b 4),.bool (b 5)])),some (.dat (.list [.bool (b 6),.bool (b 7),.bool (b 8)]))]),[some (.lc k),some (.lc (S.length + 2))]⟩):=by
      have q0:=nlst_ok (xs:=[.pl (.bool (b 6)),.pl (.bool (b 7)),.pl (.bool (b 8))]) (show (naCons (nIsiX 0 fun k=>kt_Lacking.lookup k) (naCons (nIsiX 0 fun k=>kt_AtTop.lookup k) (naCons (nIsiX 0 fun k=>kt_NoPlace.lookup k) naNil))) ⟨(S++[some (.dat (.list [.bool (b 0),.bool (b 1),.bool (b 2)])),some (.dat (.list [.bool (b 3),.bool (b 4),.bool (b 5)])),some (.dat (.list [.bool (b 0),.bool (b 1),.bool (b 2),.bool (b 3),.bool (b 4),.bool (b 5)]))]),[some (.lc k),some (.lc (S.length + 2))]⟩=_ from (nacons (nisi rfl (g0 _) h6) (nacons (nisi rfl (g0 _) h7) (nacons (nisi rfl (g0 _) h8) nanil)))) (by simp)
      rw [q0]; simp [mkL,allPl]
    have q2:=nop_newL (g:=gAdd) (c:=.list [.bool (b 0),.bool (b 1),.bool (b 2),.bool (b 3),.bool (b 4),.bool (b 5)]) (d:=.list [.bool (b 6),.bool (b 7),.bool (b 8)]) (l:=[.bool (b 0),.bool (b 1),.bool (b 2),.bool (b 3),.bool (b 4),.bool (b 5),.bool (b 6),.bool (b 7),.bool (b 8)]) (nvar_ok (i:=1) (s:=⟨(S++[some (.dat (.list [.bool (b 0),.bool (b 1),.bool (b 2)])),some (.dat (.list [.bool (b 3),.bool (b 4),.bool (b 5)])),some (.dat (.list [.bool (b 0),.bool (b 1),.bool (b 2),.bool (b 3),.bool (b 4),.bool (b 5)]))]),[some (.lc k),some (.lc (S.length + 2))]⟩) rfl) q1 (rc_lc (by simp)) (rc_lc (by simp)) (gAdd_list _ _ (by simp))
    have q3:=nasg_n (i:=1) q2 (by simp)
    rw [q3]; simp
  have p4:nAsg (nOp gAdd (nVar 1) (nLst (naCons (nIsiX 0 fun k=>kt_Mixed.lookup k) (naCons (nIsiX 0 fun k=>kt_NoName.lookup k) (naCons (nIsiX 0 fun k=>kt_Twice.lookup k) naNil))))) (ngN 1) ⟨(S++[some (.dat (.list [.bool (b 0),.bool (b 1),.bool (b 2)])),some (.dat (.list [.bool (b 3),.bool (b 4),.bool (b 5)])),some (.dat (.list [.bool (b 0),.bool (b 1),.bool (b 2),.bool (b 3),.bool (b 4),.bool (b 5)])),some (.dat (.list [.bool (b 6),.bool (b 7),.bool (b 8)])),some (.dat (.list [.bool (b 0),.bool (b 1),.bool (b 2),.bool (b 3),.bool (b 4),.bool (b 5),.bool (b 6),.bool (b 7),.bool (b 8)]))]),[some (.lc k),some (.lc (S.length + 4))]⟩=some (.nx ⟨(S++[some (.dat (.list [.bool (b 0),.bool (b 1),.bool (b 2)])),some (.dat (.list [.bool (b 3),.bool (b 4),.bool (b 5)])),some (.dat (.list [.bool (b 0),.bool (b 1),.bool (b 2),.bool (b 3),.bool (b 4),.bool (b 5)])),some (.dat (.list [.bool (b 6),.bool (b 7),.bool (b 8)])),some (.dat (.list [.bool (b 0),.bool (b 1),.bool (b 2),.bool (b 3),.bool (b 4),.bool (b 5),.bool (b 6),.bool (b 7),.bool (b 8)])),some (.dat (.list [.bool (b 9),.bool (b 10),.bool (b 11)])),some (.dat (.list [.bool (b 0),.bool (b 1),.bool (b 2),.bool (b 3),.bool (b 4),.bool (b 5),.bool (b 6),.bool (b 7),.bool (b 8),.bool (b 9),.bool (b 10),.bool (b 11)]))]),[some (.lc k),some (.lc (S.length + 6))]⟩):=by
    have q1:nLst (naCons (nIsiX 0 fun k=>kt_Mixed.lookup k) (naCons (nIsiX 0 fun k=>kt_NoName.lookup k) (naCons (nIsiX 0 fun k=>kt_Twice.lookup k) naNil))) ⟨(S++[some (.dat (.list [.bool (b 0),.bool (b 1),.bool (b 2)])),some (.dat (.list [.bool (b 3),.bool (b 4),.bool (b 5)])),some (.dat (.list [.bool (b 0),.bool (b 1),.bool (b 2),.bool (b 3),.bool (b 4),.bool (b 5)])),some (.dat (.list [.bool (b 6),.bool (b 7),.bool (b 8)])),some (.dat (.list [.bool (b 0),.bool (b 1),.bool (b 2),.bool (b 3),.bool (b 4),.bool (b 5),.bool (b 6),.bool (b 7),.bool (b 8)]))]),[some (.lc k),some (.lc (S.length + 4))]⟩=some (.ok (.lc (S.length + 5)) ⟨(S++[some (.dat (.list [.bool (b 0),.bool (b 1),.bool (b 2)])),some (.dat (.list [.bool (b 3),.bool (b 4),.bool (b 5)])),some (.dat (.list [.bool (b 0),.bool (b 1),.bool (b 2),.bool (b 3),.bool (b 4),.bool (b 5)])),some (.dat (.list [.bool (b 6),.bool (b 7),.bool (b 8)])),some (.dat (.list [.bool (b 0),.bool (b 1),.bool (b 2),.bool (b 3),.bool (b 4),.bool (b 5),.bool (b 6),.bool (b 7),.bool (b 8)])),some (.dat (.list [.bool (b 9),.bool (b 10),.bool (b 11)]))]),[some (.lc k),some (.lc (S.length + 4))]⟩):=by
      have q0:=nlst_ok (xs:=[.pl (.bool (b 9)),.pl (.bool (b 10)),.pl (.bool (b 11))]) (show (naCons (nIsiX 0 fun k=>kt_Mixed.lookup k) (naCons (nIsiX 0 fun k=>kt_NoName.lookup k) (naCons (nIsiX 0 fun k=>kt_Twice.lookup k) naNil))) ⟨(S++[some (.dat (.list [.bool (b 0),.bool (b 1),.bool (b 2)])),some (.dat (.list [.bool (b 3),.bool (b 4),.bool (b 5)])),some (.dat (.list [.bool (b 0),.bool (b 1),.bool (b 2),.bool (b 3),.bool (b 4),.bool (b 5)])),some (.dat (.list [.bool (b 6),.bool (b 7),.bool (b 8)])),some (.dat (.list [.bool (b 0),.bool (b 1),.bool (b 2),.bool (b 3),.bool (b 4),.bool (b 5),.bool (b 6),.bool (b 7),.bool (b 8)]))]),[some (.lc k),some (.lc (S.length + 4))]⟩=_ from (nacons (nisi rfl (g0 _) h9) (nacons (nisi rfl (g0 _) h10) (nacons (nisi rfl (g0 _) h11) nanil)))) (by simp)
      rw [q0]; simp [mkL,allPl]
    have q2:=nop_newL (g:=gAdd) (c:=.list [.bool (b 0),.bool (b 1),.bool (b 2),.bool (b 3),.bool (b 4),.bool (b 5),.bool (b 6),.bool (b 7),.bool (b 8)]) (d:=.list [.bool (b 9),.bool (b 10),.bool (b 11)]) (l:=[.bool (b 0),.bool (b 1),.bool (b 2),.bool (b 3),.bool (b 4),.bool (b 5),.bool (b 6),.bool (b 7),.bool (b 8),.bool (b 9),.bool (b 10),.bool (b 11)]) (nvar_ok (i:=1) (s:=⟨(S++[some (.dat (.list [.bool (b 0),.bool (b 1),.bool (b 2)])),some (.dat (.list [.bool (b 3),.bool (b 4),.bool (b 5)])),some (.dat (.list [.bool (b 0),.bool (b 1),.bool (b 2),.bool (b 3),.bool (b 4),.bool (b 5)])),some (.dat (.list [.bool (b 6),.bool (b 7),.bool (b 8)])),some (.dat (.list [.bool (b 0),.bool (b 1),.bool (b 2),.bool (b 3),.bool (b 4),.bool (b 5),.bool (b 6),.bool (b 7),.bool (b 8)]))]),[some (.lc k),some (.lc (S.length + 4))]⟩) rfl) q1 (rc_lc (by simp)) (rc_lc (by simp)) (gAdd_list _ _ (by simp))
    have q3:=nasg_n (i:=1) q2 (by simp)
    rw [q3]; simp
  have p5:nAsg (nOp gAdd (nVar 1) (nLst (naCons (nIsiX 0 fun k=>kt_NotLess.lookup k) (naCons (nIsiX 0 fun k=>kt_NoRow.lookup k) naNil)))) (ngN 1) ⟨(S++[some (.dat (.list [.bool (b 0),.bool (b 1),.bool (b 2)])),some (.dat (.list [.bool (b 3),.bool (b 4),.bool (b 5)])),some (.dat (.list [.bool (b 0),.bool (b 1),.bool (b 2),.bool (b 3),.bool (b 4),.bool (b 5)])),some (.dat (.list [.bool (b 6),.bool (b 7),.bool (b 8)])),some (.dat (.list [.bool (b 0),.bool (b 1),.bool (b 2),.bool (b 3),.bool (b 4),.bool (b 5),.bool (b 6),.bool (b 7),.bool (b 8)])),some (.dat (.list [.bool (b 9),.bool (b 10),.bool (b 11)])),some (.dat (.list [.bool (b 0),.bool (b 1),.bool (b 2),.bool (b 3),.bool (b 4),.bool (b 5),.bool (b 6),.bool (b 7),.bool (b 8),.bool (b 9),.bool (b 10),.bool (b 11)]))]),[some (.lc k),some (.lc (S.length + 6))]⟩=some (.nx ⟨(S++[some (.dat (.list [.bool (b 0),.bool (b 1),.bool (b 2)])),some (.dat (.list [.bool (b 3),.bool (b 4),.bool (b 5)])),some (.dat (.list [.bool (b 0),.bool (b 1),.bool (b 2),.bool (b 3),.bool (b 4),.bool (b 5)])),some (.dat (.list [.bool (b 6),.bool (b 7),.bool (b 8)])),some (.dat (.list [.bool (b 0),.bool (b 1),.bool (b 2),.bool (b 3),.bool (b 4),.bool (b 5),.bool (b 6),.bool (b 7),.bool (b 8)])),some (.dat (.list [.bool (b 9),.bool (b 10),.bool (b 11)])),some (.dat (.list [.bool (b 0),.bool (b 1),.bool (b 2),.bool (b 3),.bool (b 4),.bool (b 5),.bool (b 6),.bool (b 7),.bool (b 8),.bool (b 9),.bool (b 10),.bool (b 11)])),some (.dat (.list [.bool (b 12),.bool (b 13)])),some (.dat (.list [.bool (b 0),.bool (b 1),.bool (b 2),.bool (b 3),.bool (b 4),.bool (b 5),.bool (b 6),.bool (b 7),.bool (b 8),.bool (b 9),.bool (b 10),.bool (b 11),.bool (b 12),.bool (b 13)]))]),[some (.lc k),some (.lc (S.length + 8))]⟩):=by
    have q1:nLst (naCons (nIsiX 0 fun k=>kt_NotLess.lookup k) (naCons (nIsiX 0 fun k=>kt_NoRow.lookup k) naNil)) ⟨(S++[some (.dat (.list [.bool (b 0),.bool (b 1),.bool (b 2)])),some (.dat (.list [.bool (b 3),.bool (b 4),.bool (b 5)])),some (.dat (.list [.bool (b 0),.bool (b 1),.bool (b 2),.bool (b 3),.bool (b 4),.bool (b 5)])),some (.dat (.list [.bool (b 6),.bool (b 7),.bool (b 8)])),some (.dat (.list [.bool (b 0),.bool (b 1),.bool (b 2),.bool (b 3),.bool (b 4),.bool (b 5),.bool (b 6),.bool (b 7),.bool (b 8)])),some (.dat (.list [.bool (b 9),.bool (b 10),.bool (b 11)])),some (.dat (.list [.bool (b 0),.bool (b 1),.bool (b 2),.bool (b 3),.bool (b 4),.bool (b 5),.bool (b 6),.bool (b 7),.bool (b 8),.bool (b 9),.bool (b 10),.bool (b 11)]))]),[some (.lc k),some (.lc (S.length + 6))]⟩=some (.ok (.lc (S.length + 7)) ⟨(S++[some (.dat (.list [.bool (b 0),.bool (b 1),.bool (b 2)])),some (.dat (.list [.bool (b 3),.bool (b 4),.bool (b 5)])),some (.dat (.list [.bool (b 0),.bool (b 1),.bool (b 2),.bool (b 3),.bool (b 4),.bool (b 5)])),some (.dat (.list [.bool (b 6),.bool (b 7),.bool (b 8)])),some (.dat (.list [.bool (b 0),.bool (b 1),.bool (b 2),.bool (b 3),.bool (b 4),.bool (b 5),.bool (b 6),.bool (b 7),.bool (b 8)])),some (.dat (.list [.bool (b 9),.bool (b 10),.bool (b 11)])),some (.dat (.list [.bool (b 0),.bool (b 1),.bool (b 2),.bool (b 3),.bool (b 4),.bool (b 5),.bool (b 6),.bool (b 7),.bool (b 8),.bool (b 9),.bool (b 10),.bool (b 11)])),some (.dat (.list [.bool (b 12),.bool (b 13)]))]),[some (.lc k),some (.lc (S.length + 6))]⟩):=by
      have q0:=nlst_ok (xs:=[.pl (.bool (b 12)),.pl (.bool (b 13))]) (show (naCons (nIsiX 0 fun k=>kt_NotLess.lookup k) (naCons (nIsiX 0 fun k=>kt_NoRow.lookup k) naNil)) ⟨(S++[some (.dat (.list [.bool (b 0),.bool (b 1),.bool (b 2)])),some (.dat (.list [.bool (b 3),.bool (b 4),.bool (b 5)])),some (.dat (.list [.bool (b 0),.bool (b 1),.bool (b 2),.bool (b 3),.bool (b 4),.bool (b 5)])),some (.dat (.list [.bool (b 6),.bool (b 7),.bool (b 8)])),some (.dat (.list [.bool (b 0),.bool (b 1),.bool (b 2),.bool (b 3),.bool (b 4),.bool (b 5),.bool (b 6),.bool (b 7),.bool (b 8)])),some (.dat (.list [.bool (b 9),.bool (b 10),.bool (b 11)])),some (.dat (.list [.bool (b 0),.bool (b 1),.bool (b 2),.bool (b 3),.bool (b 4),.bool (b 5),.bool (b 6),.bool (b 7),.bool (b 8),.bool (b 9),.bool (b 10),.bool (b 11)]))]),[some (.lc k),some (.lc (S.length + 6))]⟩=_ from (nacons (nisi rfl (g0 _) h12) (nacons (nisi rfl (g0 _) h13) nanil))) (by simp)
      rw [q0]; simp [mkL,allPl]
    have q2:=nop_newL (g:=gAdd) (c:=.list [.bool (b 0),.bool (b 1),.bool (b 2),.bool (b 3),.bool (b 4),.bool (b 5),.bool (b 6),.bool (b 7),.bool (b 8),.bool (b 9),.bool (b 10),.bool (b 11)]) (d:=.list [.bool (b 12),.bool (b 13)]) (l:=[.bool (b 0),.bool (b 1),.bool (b 2),.bool (b 3),.bool (b 4),.bool (b 5),.bool (b 6),.bool (b 7),.bool (b 8),.bool (b 9),.bool (b 10),.bool (b 11),.bool (b 12),.bool (b 13)]) (nvar_ok (i:=1) (s:=⟨(S++[some (.dat (.list [.bool (b 0),.bool (b 1),.bool (b 2)])),some (.dat (.list [.bool (b 3),.bool (b 4),.bool (b 5)])),some (.dat (.list [.bool (b 0),.bool (b 1),.bool (b 2),.bool (b 3),.bool (b 4),.bool (b 5)])),some (.dat (.list [.bool (b 6),.bool (b 7),.bool (b 8)])),some (.dat (.list [.bool (b 0),.bool (b 1),.bool (b 2),.bool (b 3),.bool (b 4),.bool (b 5),.bool (b 6),.bool (b 7),.bool (b 8)])),some (.dat (.list [.bool (b 9),.bool (b 10),.bool (b 11)])),some (.dat (.list [.bool (b 0),.bool (b 1),.bool (b 2),.bool (b 3),.bool (b 4),.bool (b 5),.bool (b 6),.bool (b 7),.bool (b 8),.bool (b 9),.bool (b 10),.bool (b 11)]))]),[some (.lc k),some (.lc (S.length + 6))]⟩) rfl) q1 (rc_lc (by simp)) (rc_lc (by simp)) (gAdd_list _ _ (by simp))
    have q3:=nasg_n (i:=1) q2 (by simp)
    rw [q3]; simp
  have v1:(vw ⟨(S++[some (.dat (.list [.bool (b 0),.bool (b 1),.bool (b 2)])),some (.dat (.list [.bool (b 3),.bool (b 4),.bool (b 5)])),some (.dat (.list [.bool (b 0),.bool (b 1),.bool (b 2),.bool (b 3),.bool (b 4),.bool (b 5)])),some (.dat (.list [.bool (b 6),.bool (b 7),.bool (b 8)])),some (.dat (.list [.bool (b 0),.bool (b 1),.bool (b 2),.bool (b 3),.bool (b 4),.bool (b 5),.bool (b 6),.bool (b 7),.bool (b 8)])),some (.dat (.list [.bool (b 9),.bool (b 10),.bool (b 11)])),some (.dat (.list [.bool (b 0),.bool (b 1),.bool (b 2),.bool (b 3),.bool (b 4),.bool (b 5),.bool (b 6),.bool (b 7),.bool (b 8),.bool (b 9),.bool (b 10),.bool (b 11)])),some (.dat (.list [.bool (b 12),.bool (b 13)])),some (.dat (.list [.bool (b 0),.bool (b 1),.bool (b 2),.bool (b 3),.bool (b 4),.bool (b 5),.bool (b 6),.bool (b 7),.bool (b 8),.bool (b 9),.bool (b 10),.bool (b 11),.bool (b 12),.bool (b 13)]))]),[some (.lc k),some (.lc (S.length + 8))]⟩)[1]?=some (.fz (.list [.bool (b 0),.bool (b 1),.bool (b 2),.bool (b 3),.bool (b 4),.bool (b 5),.bool (b 6),.bool (b 7),.bool (b 8),.bool (b 9),.bool (b 10),.bool (b 11),.bool (b 12),.bool (b 13)])):=vw_at (x:=.lc (S.length + 8)) rfl (rd_lc (by simp))
  have dm:([("_law_told",1)]:List (Str × Nat)).map (fun p=>demote (vw ⟨(S++[some (.dat (.list [.bool (b 0),.bool (b 1),.bool (b 2)])),some (.dat (.list [.bool (b 3),.bool (b 4),.bool (b 5)])),some (.dat (.list [.bool (b 0),.bool (b 1),.bool (b 2),.bool (b 3),.bool (b 4),.bool (b 5)])),some (.dat (.list [.bool (b 6),.bool (b 7),.bool (b 8)])),some (.dat (.list [.bool (b 0),.bool (b 1),.bool (b 2),.bool (b 3),.bool (b 4),.bool (b 5),.bool (b 6),.bool (b 7),.bool (b 8)])),some (.dat (.list [.bool (b 9),.bool (b 10),.bool (b 11)])),some (.dat (.list [.bool (b 0),.bool (b 1),.bool (b 2),.bool (b 3),.bool (b 4),.bool (b 5),.bool (b 6),.bool (b 7),.bool (b 8),.bool (b 9),.bool (b 10),.bool (b 11)])),some (.dat (.list [.bool (b 12),.bool (b 13)])),some (.dat (.list [.bool (b 0),.bool (b 1),.bool (b 2),.bool (b 3),.bool (b 4),.bool (b 5),.bool (b 6),.bool (b 7),.bool (b 8),.bool (b 9),.bool (b 10),.bool (b 11),.bool (b 12),.bool (b 13)]))]),[some (.lc k),some (.lc (S.length + 8))]⟩) p.2)=[.fz (.list [.bool (b 0),.bool (b 1),.bool (b 2),.bool (b 3),.bool (b 4),.bool (b 5),.bool (b 6),.bool (b 7),.bool (b 8),.bool (b 9),.bool (b 10),.bool (b 11),.bool (b 12),.bool (b 13)])]:=by
    simp only [List.map_cons,List.map_nil,demote,v1]
  have it:mRg1 (mCons (mC (.int 14)) mNil) (vw ⟨(S++[some (.dat (.list [.bool (b 0),.bool (b 1),.bool (b 2)])),some (.dat (.list [.bool (b 3),.bool (b 4),.bool (b 5)])),some (.dat (.list [.bool (b 0),.bool (b 1),.bool (b 2),.bool (b 3),.bool (b 4),.bool (b 5)])),some (.dat (.list [.bool (b 6),.bool (b 7),.bool (b 8)])),some (.dat (.list [.bool (b 0),.bool (b 1),.bool (b 2),.bool (b 3),.bool (b 4),.bool (b 5),.bool (b 6),.bool (b 7),.bool (b 8)])),some (.dat (.list [.bool (b 9),.bool (b 10),.bool (b 11)])),some (.dat (.list [.bool (b 0),.bool (b 1),.bool (b 2),.bool (b 3),.bool (b 4),.bool (b 5),.bool (b 6),.bool (b 7),.bool (b 8),.bool (b 9),.bool (b 10),.bool (b 11)])),some (.dat (.list [.bool (b 12),.bool (b 13)])),some (.dat (.list [.bool (b 0),.bool (b 1),.bool (b 2),.bool (b 3),.bool (b 4),.bool (b 5),.bool (b 6),.bool (b 7),.bool (b 8),.bool (b 9),.bool (b 10),.bool (b 11),.bool (b 12),.bool (b 13)]))]),[some (.lc k),some (.lc (S.length + 8))]⟩)=some (rngD 0 (14:Int).toNat,vw ⟨(S++[some (.dat (.list [.bool (b 0),.bool (b 1),.bool (b 2)])),some (.dat (.list [.bool (b 3),.bool (b 4),.bool (b 5)])),some (.dat (.list [.bool (b 0),.bool (b 1),.bool (b 2),.bool (b 3),.bool (b 4),.bool (b 5)])),some (.dat (.list [.bool (b 6),.bool (b 7),.bool (b 8)])),some (.dat (.list [.bool (b 0),.bool (b 1),.bool (b 2),.bool (b 3),.bool (b 4),.bool (b 5),.bool (b 6),.bool (b 7),.bool (b 8)])),some (.dat (.list [.bool (b 9),.bool (b 10),.bool (b 11)])),some (.dat (.list [.bool (b 0),.bool (b 1),.bool (b 2),.bool (b 3),.bool (b 4),.bool (b 5),.bool (b 6),.bool (b 7),.bool (b 8),.bool (b 9),.bool (b 10),.bool (b 11)])),some (.dat (.list [.bool (b 12),.bool (b 13)])),some (.dat (.list [.bool (b 0),.bool (b 1),.bool (b 2),.bool (b 3),.bool (b 4),.bool (b 5),.bool (b 6),.bool (b 7),.bool (b 8),.bool (b 9),.bool (b 10),.bool (b 11),.bool (b 12),.bool (b 13)]))]),[some (.lc k),some (.lc (S.length + 8))]⟩):=rg1_eq (k:=.fz) (consI (ie_c (i:=14)) nil_ev) ⟨by decide,by decide⟩
  have p6:nO (mLC [("_law_told",1)] (mRg1 (mCons (mC (.int 14)) mNil)) ct1_law_kinds ce1_law_kinds) ⟨(S++[some (.dat (.list [.bool (b 0),.bool (b 1),.bool (b 2)])),some (.dat (.list [.bool (b 3),.bool (b 4),.bool (b 5)])),some (.dat (.list [.bool (b 0),.bool (b 1),.bool (b 2),.bool (b 3),.bool (b 4),.bool (b 5)])),some (.dat (.list [.bool (b 6),.bool (b 7),.bool (b 8)])),some (.dat (.list [.bool (b 0),.bool (b 1),.bool (b 2),.bool (b 3),.bool (b 4),.bool (b 5),.bool (b 6),.bool (b 7),.bool (b 8)])),some (.dat (.list [.bool (b 9),.bool (b 10),.bool (b 11)])),some (.dat (.list [.bool (b 0),.bool (b 1),.bool (b 2),.bool (b 3),.bool (b 4),.bool (b 5),.bool (b 6),.bool (b 7),.bool (b 8),.bool (b 9),.bool (b 10),.bool (b 11)])),some (.dat (.list [.bool (b 12),.bool (b 13)])),some (.dat (.list [.bool (b 0),.bool (b 1),.bool (b 2),.bool (b 3),.bool (b 4),.bool (b 5),.bool (b 6),.bool (b 7),.bool (b 8),.bool (b 9),.bool (b 10),.bool (b 11),.bool (b 12),.bool (b 13)]))]),[some (.lc k),some (.lc (S.length + 8))]⟩=some (.ok (.lc (S.length + 9)) ⟨(S++[some (.dat (.list [.bool (b 0),.bool (b 1),.bool (b 2)])),some (.dat (.list [.bool (b 3),.bool (b 4),.bool (b 5)])),some (.dat (.list [.bool (b 0),.bool (b 1),.bool (b 2),.bool (b 3),.bool (b 4),.bool (b 5)])),some (.dat (.list [.bool (b 6),.bool (b 7),.bool (b 8)])),some (.dat (.list [.bool (b 0),.bool (b 1),.bool (b 2),.bool (b 3),.bool (b 4),.bool (b 5),.bool (b 6),.bool (b 7),.bool (b 8)])),some (.dat (.list [.bool (b 9),.bool (b 10),.bool (b 11)])),some (.dat (.list [.bool (b 0),.bool (b 1),.bool (b 2),.bool (b 3),.bool (b 4),.bool (b 5),.bool (b 6),.bool (b 7),.bool (b 8),.bool (b 9),.bool (b 10),.bool (b 11)])),some (.dat (.list [.bool (b 12),.bool (b 13)])),some (.dat (.list [.bool (b 0),.bool (b 1),.bool (b 2),.bool (b 3),.bool (b 4),.bool (b 5),.bool (b 6),.bool (b 7),.bool (b 8),.bool (b 9),.bool (b 10),.bool (b 11),.bool (b 12),.bool (b 13)]))])++[some (.dat (.list (ys.map .int)))],[some (.lc k),some (.lc (S.length + 8))]⟩):=by
    rw [no_new (lc_ev it (ys:=ys.map .int) (by rw [dm]; exact hc) (by simp; omega)) (pureR_ints _)]
    simp
  refine fnS_ok rfl (o:=.rt (.lc (S.length + 9)) ⟨(S++[some (.dat (.list [.bool (b 0),.bool (b 1),.bool (b 2)])),some (.dat (.list [.bool (b 3),.bool (b 4),.bool (b 5)])),some (.dat (.list [.bool (b 0),.bool (b 1),.bool (b 2),.bool (b 3),.bool (b 4),.bool (b 5)])),some (.dat (.list [.bool (b 6),.bool (b 7),.bool (b 8)])),some (.dat (.list [.bool (b 0),.bool (b 1),.bool (b 2),.bool (b 3),.bool (b 4),.bool (b 5),.bool (b 6),.bool (b 7),.bool (b 8)])),some (.dat (.list [.bool (b 9),.bool (b 10),.bool (b 11)])),some (.dat (.list [.bool (b 0),.bool (b 1),.bool (b 2),.bool (b 3),.bool (b 4),.bool (b 5),.bool (b 6),.bool (b 7),.bool (b 8),.bool (b 9),.bool (b 10),.bool (b 11)])),some (.dat (.list [.bool (b 12),.bool (b 13)])),some (.dat (.list [.bool (b 0),.bool (b 1),.bool (b 2),.bool (b 3),.bool (b 4),.bool (b 5),.bool (b 6),.bool (b 7),.bool (b 8),.bool (b 9),.bool (b 10),.bool (b 11),.bool (b 12),.bool (b 13)]))])++[some (.dat (.list (ys.map .int)))],[some (.lc k),some (.lc (S.length + 8))]⟩) (nseq_nx p1 (nseq_nx p2 (nseq_nx p3 (nseq_nx p4 (nseq_nx p5 (nret_ok p6)))))) ?_
  have hlt : ¬ (S.length + 9 < S.length):=by omega
  simp only [retS,blV,hlt,decide_false,Bool.false_eq_true,if_false]
  rfl
def plc (c:Str):Nat:=match ([("NoNumber",2),("Overdrawn",3),("Empty",4),("NoThing",5),("Lacking",6),("AtTop",7),("NoPlace",8),("Mixed",9),("NoName",10),("Twice",11),("NotLess",12),("NoRow",13)]:List (Str × Nat)).lookup c with
  | some k=>k
  | none=>0
def kB (p:Nat):Nat->Bool:=fun k=>k == 0 || k == 1 || k == p
def KNm:List Str:=["NoNumber","Overdrawn","Empty","NoThing","Lacking","AtTop","NoPlace","Mixed","NoName","Twice","NotLess","NoRow"]
theorem kcomp:∀ p∈([2,3,4,5,6,7,8,9,10,11,12,13]:List Nat),compL ct1_law_kinds ce1_law_kinds [.fz (.list [.bool (kB p 0),.bool (kB p 1),.bool (kB p 2),.bool (kB p 3),.bool (kB p 4),.bool (kB p 5),.bool (kB p 6),.bool (kB p 7),.bool (kB p 8),.bool (kB p 9),.bool (kB p 10),.bool (kB p 11),.bool (kB p 12),.bool (kB p 13)])] (rngD 0 (14:Int).toNat)=some (([0,1,(p:Int)]:List Int).map .int):=by
  intro p hp
  simp only [List.mem_cons,List.not_mem_nil,or_false] at hp
  rcases hp with rfl | rfl | rfl | rfl | rfl | rfl | rfl | rfl | rfl | rfl | rfl | rfl <;> rfl
theorem ktab:∀ c∈KNm,plc c∈([2,3,4,5,6,7,8,9,10,11,12,13]:List Nat)∧kt_ValueError.lookup c=some (kB (plc c) 0)∧kt_CreditError.lookup c=some (kB (plc c) 1)∧kt_NoNumber.lookup c=some (kB (plc c) 2)∧kt_Overdrawn.lookup c=some (kB (plc c) 3)∧kt_Empty.lookup c=some (kB (plc c) 4)∧kt_NoThing.lookup c=some (kB (plc c) 5)∧kt_Lacking.lookup c=some (kB (plc c) 6)∧kt_AtTop.lookup c=some (kB (plc c) 7)∧kt_NoPlace.lookup c=some (kB (plc c) 8)∧kt_Mixed.lookup c=some (kB (plc c) 9)∧kt_NoName.lookup c=some (kB (plc c) 10)∧kt_Twice.lookup c=some (kB (plc c) 11)∧kt_NotLess.lookup c=some (kB (plc c) 12)∧kt_NoRow.lookup c=some (kB (plc c) 13):=by decide +kernel
theorem kinds_is {ca:CA} {S:List (Option Cl)} {k:Nat} {c:Str} {n:Option Int} (hS:S[k]?=some (some (.exc c n))) (hc:c∈KNm):m_law_kinds ca S [.lc k]=some (.ok (.lc (S.length + 9)) (S++kX (kB (plc c))++[some (.dat (.list (([0,1,(plc c:Int)]:List Int).map .int)))])):=by
  obtain ⟨hp,h0,h1,h2,h3,h4,h5,h6,h7,h8,h9,h10,h11,h12,h13⟩:=ktab c hc
  exact kinds_gen hS (kB (plc c)) h0 h1 h2 h3 h4 h5 h6 h7 h8 h9 h10 h11 h12 h13 (kcomp _ hp) (by simp)
theorem ntryG_er {b h:SN} {i:Nat} {su:Str->Bool} {s s1:SS} {x:Xc} {o o':NOut} (h1:b s=some (.er x s1)) (h2:su x.c=true) (h3:i < s1.t.length) (h4:h ⟨s1.S++[some (.exc x.c x.by_)],s1.t.set i (some (.lc s1.S.length))⟩=some o) (h5:dropN i o=some o'):nTryG b i su h s=some o':=by
  unfold nTryG
  rw [h1]
  dsimp only
  rw [if_pos ⟨h2,h3⟩,h4]
  exact h5
theorem nfldX_ok {P:Str->Bool} {a:EN} {s s1:SS} {k:Nat} {c:Str} {n:Int} (h:a s=some (.ok (.lc k) s1)) (hS:s1.S[k]?=some (some (.exc c (some n)))) (hP:P c=true):nFldX P a s=some (.ok (.pl (.int n)) s1):=by
  unfold nFldX; rw [bN_ok h]; simp only [hS,hP,if_true]
section
variable {ca:CA} {S:List (Option Cl)} {i j r:Nat} {l:List Ent}
def byD:Option Int->D
  | none=>.none
  | some v=>.int v
def tY (c:Str) (n:Option Int):List (Option Cl):=[some (.dat (.list [])),some (.exc c n)]++kX (kB (plc c))++[some (.dat (.list (([0,1,(plc c:Int)]:List Int).map .int)))]
theorem tY_at {c:Str} {n:Option Int}:(S++tY c n)[S.length + 11]?=some (some (.dat (.list (([0,1,(plc c:Int)]:List Int).map .int)))):=by
  rw [List.getElem?_append_right (by omega),show S.length + 11 - S.length=11 by omega]
  rfl
theorem eq013 {s:SS} {i:Nat} {p:Int} (hv:(vw s)[i]?=some (.fz (.list (([0,1,p]:List Int).map .int)))) (q:Int):BE (mOp gEq (mVar i) (mLst (mCons (mC (.int 0)) (mCons (mC (.int 1)) (mCons (mC (.int q)) mNil))))) (vw s) (decide (([0,1,p]:List Int)=[0,1,q])):=by
  refine op_ev (res:=(.bool (decide (([0,1,p]:List Int)=[0,1,q])),false)) (sv_fz (var_fz hv)) (sv_new (lst_ev (rs:=[(.int 0,.fz),(.int 1,.fz),(.int q,.fz)]) (ds:=[.int 0,.int 1,.int q]) (consI ie_c (consI ie_c (consI ie_c nil_ev))) rfl (by simp))) ?_
  exact gEq_ints [0,1,p] [0,1,q]
theorem try_er {o:Cl} (hi:S[i]?=some (some (.obj ca.Ledger [("rows",.lc j)]))) {st pr be:D} {left:Bool} {c:Str} {n:Option Int} (hc:(c = "NoNumber"∧n=none)∨(c = "Overdrawn"∧∃ v,n=some v))
    (he:m_Ledger_enter ca (S++[some (.dat (.list []))]) [.lc i,.pl (.str "deed"),.pl st,.pl pr,.pl (if left=true then .none else be)]=some (.er ⟨c,n⟩ (S++[some (.dat (.list []))]))) :
    m_law_try ca S [.lc i,.pl st,.pl pr,.pl be,.pl (.bool left)]=some (.ok (.tp [.lc (S.length + 11),.pl (byD n)]) (S++tY c n)):=by
  let S1:=S++[some (Cl.dat (.list []))]
  let t (a b e:Option SV):List (Option SV):=[some (.lc i),some (.pl st),some (.pl pr),some (.pl be),some (.pl (.bool left)),a,b,e]
  have hi1:S1[i]?=some (some (.obj ca.Ledger [("rows",.lc j)])):=get_app hi
  have hk:c∈KNm:=by rcases hc with ⟨rfl,_⟩ | ⟨rfl,_⟩ <;> decide +kernel
  have a1:nAsg (nLst naNil) (ngN 5) ⟨S,t none none none⟩=some (.nx ⟨S1,t (some (.lc S.length)) none none⟩):=nasg_n nlst0 (by simp [t])
  have a2:nAsg (nLit .none) (ngN 6) ⟨S1,t (some (.lc S.length)) none none⟩=some (.nx ⟨S1,t (some (.lc S.length)) (some (.pl .none)) none⟩):=nasg_n nlit (by simp [t])
  let T:=t (some (.lc S.length)) (some (.pl .none)) none
  have a3:nIfS (nTo (mTest (mVar 4)))
    (nDrop (nMeth ca.Ledger "enter" (m_Ledger_enter ca) [.none] (nVar 0) (naCons (nLit (.str "deed")) (naCons (nVar 1) (naCons (nVar 2) naNil)))))
    (nDrop (nMeth ca.Ledger "enter" (m_Ledger_enter ca) [] (nVar 0) (naCons (nLit (.str "deed")) (naCons (nVar 1) (naCons (nVar 2) (naCons (nVar 3) naNil)))))) ⟨S1,T⟩=some (.er ⟨c,n⟩ ⟨S1,T⟩):=by
    have tt:nTo (mTest (mVar 4)) ⟨S1,T⟩=some (.ok left ⟨S1,T⟩):=nto_ok (test_ev (k:=.fz) (var_fz (vw_pl rfl)))
    cases left with
    | true=>exact nif_t tt (ndrop_er (nmeth_er (nvar_ok rfl) hi1 rfl (nacons nlit (nacons (nvar_ok rfl) (nacons (nvar_ok rfl) nanil))) he))
    | false=>exact nif_f tt (ndrop_er (nmeth_er (nvar_ok rfl) hi1 rfl (nacons nlit (nacons (nvar_ok rfl) (nacons (nvar_ok rfl) (nacons (nvar_ok rfl) nanil)))) he))
  let S2:=S1++[some (Cl.exc c n)]
  have l2:S2.length=S.length + 2:=by simp [S2,S1]
  have e2:S2[S1.length]?=some (some (.exc c n)):=get_new
  have ks:=kinds_is (ca:=ca) e2 hk
  have eS:S2++kX (kB (plc c))++[some (.dat (.list (([0,1,(plc c:Int)]:List Int).map .int)))]=S++tY c n:=by simp [S2,S1,tY]
  rw [eS,l2] at ks
  let S3:=S++tY c n
  let T3:List (Option SV):=t (some (.lc (S.length + 2 + 9))) (some (.pl .none)) (some (.lc S1.length))
  have a4:nAsg (nCall (m_law_kinds ca) (naCons (nVar 7) naNil)) (ngN 5) ⟨S2,t (some (.lc S.length)) (some (.pl .none)) (some (.lc S1.length))⟩=some (.nx ⟨S3,T3⟩):=nasg_n (ncall_ok (nacons (nvar_ok rfl) nanil) ks) (by simp [t])
  have v5:(vw ⟨S3,T3⟩)[5]?=some (.fz (.list (([0,1,(plc c:Int)]:List Int).map .int))):=vw_at (x:=.lc (S.length + 11)) rfl (rd_lc tY_at)
  have e3:S3[S1.length]?=some (some (.exc c n)):=by
    have:S3=S2++(kX (kB (plc c))++[some (.dat (.list (([0,1,(plc c:Int)]:List Int).map .int)))]):=by rw [← List.append_assoc]; exact eS.symm
    rw [this]; exact get_app e2
  have a5:nIfS (nTo (mTest (mOp gEq (mVar 5) (mLst (mCons (mC (.int 0)) (mCons (mC (.int 1)) (mCons (mC (.int 3)) mNil)))))))
    (nAsg (nFldX (fun c=>decide (c = "Overdrawn")) (nVar 7)) (ngN 6)) nPass ⟨S3,T3⟩=some (.nx ⟨S3,t (some (.lc (S.length + 2 + 9))) (some (.pl (byD n))) (some (.lc S1.length))⟩):=by
    have te:=nto_ok (s:=⟨S3,T3⟩) ((eq013 v5 3).t)
    rcases hc with ⟨rfl,rfl⟩ | ⟨rfl,v,rfl⟩
    . rw [show decide (([0,1,(plc "NoNumber":Int)]:List Int)=[0,1,3])=false by decide +kernel] at te
      exact nif_f te rfl
    . rw [show decide (([0,1,(plc "Overdrawn":Int)]:List Int)=[0,1,3])=true by decide +kernel] at te
      exact nif_t te (nasg_n (nfldX_ok (nvar_ok rfl) e3 (by decide +kernel)) (by simp [T3,t]))
  have su:(fun c:Str=>decide (c = "NoNumber") || decide (c = "Overdrawn")) c=true:=by rcases hc with ⟨rfl,_⟩ | ⟨rfl,_⟩ <;> decide +kernel
  refine fnS_ok rfl (o:=.rt (.tp [.lc (S.length + 11),.pl (byD n)]) ⟨S3,t (some (.lc (S.length + 11))) (some (.pl (byD n))) none⟩) (nseq_nx a1 (nseq_nx a2 (nseq_nx (ntryG_er a3 su (by simp [T,t]) (nseq_nx a4 a5) rfl) (nret_ok ?_)))) ?_
  . unfold nTup
    rw [bN_ok (nacons (x:=.lc (S.length + 11)) (nvar_ok rfl) (nacons (x:=.pl (byD n)) (nvar_ok rfl) nanil)),cIf_pos (sz_le (by simp))]
    rfl
  . have hb:blV S.length (.tp [.lc (S.length + 11),.pl (byD n)])=false:=by simp [blV,blVs]
    show (if blV S.length (.tp [.lc (S.length + 11),.pl (byD n)])=true then _ else _)=_
    rw [hb]
    rfl
end
theorem bad_is (x n:Int) (hn:n=8∨n=7):∃ d,m_law_bad [.int x,.int n]=some (d,false)∧cnt d=false∧(n=7->isNone d=false):=by
  have h59:(0:Int) < 10 ^ (59:Int).toNat:=by decide
  generalize hlow : -1 - x / 8 % 10 ^ (59:Int).toNat=low
  have hneg:low < 0:=by have:=Int.emod_nonneg (x / 8) (Int.ne_of_gt h59); omega
  let things:List D:=[.bool true,.bool false,.int low,.str "1",.tuple [.int 1],.list [.int 1],.dict [],.none]
  have b1:mAsg 2 (mOp Mir.gSub (mUn gNeg (mC (.int 1))) (mOp gMod (mOp gDiv (mVar 0) (mC (.int 8))) (mOp gPow (mC (.int 10)) (mC (.int 59))))) [.fz (.int x),.fz (.int n),.no,.no]=some (.nx [.fz (.int x),.fz (.int n),.fz (.int low),.no]):=by
    rw [← hlow]
    exact asg_fz (ie_sub (ie_neg ie_c) (ie_mod (ie_div (ie_var rfl) ie_c ⟨by decide,by decide⟩) (ie_pow ie_c ie_c ⟨by decide,by decide,by decide⟩) h59)) rfl
  have t1:mTup (mCons (mC (.int 1)) mNil) [.fz (.int x),.fz (.int n),.fz (.int low),.no]=some ((.tuple [.int 1],.fz),[.fz (.int x),.fz (.int n),.fz (.int low),.no]):=tup_ev (rs:=[(.int 1,.fz)]) (consI ie_c nil_ev) rfl (by simp)
  have t2:mLst (mCons (mC (.int 1)) mNil) [.fz (.int x),.fz (.int n),.fz (.int low),.no]=some ((.list [.int 1],.new),[.fz (.int x),.fz (.int n),.fz (.int low),.no]):=lst_ev (rs:=[(.int 1,.fz)]) (consI ie_c nil_ev) rfl (by simp)
  have b2:mAsg 3 (mLst (mCons (mC (.bool true)) (mCons (mC (.bool false)) (mCons (mVar 2) (mCons (mC (.str "1")) (mCons (mTup (mCons (mC (.int 1)) mNil)) (mCons (mLst (mCons (mC (.int 1)) mNil)) (mCons mDct0 (mCons (mC .none) mNil))))))))) [.fz (.int x),.fz (.int n),.fz (.int low),.no]=some (.nx [.fz (.int x),.fz (.int n),.fz (.int low),.own (.list things)]):=by
    refine asg_new (lst_ev (rs:=things.map fun d=>(d,.fz)) (ds:=things) (cons_fz (sv_fz rfl) (cons_fz (sv_fz rfl) (cons_fz (sv_fz (var_fz rfl)) (cons_fz (sv_fz rfl) (cons_fz (sv_fz t1) (cons_fz (sv_new t2) (cons_fz (sv_new rfl) (cons_fz (sv_fz rfl) nil_ev)))))))) rfl (by simp [things])) rfl
  have hm : 0≤x % n∧x % n < n:=by rcases hn with rfl | rfl <;> omega
  obtain ⟨k,hk⟩:∃ k:Nat,x % n=(k:Int):=⟨(x % n).toNat,by omega⟩
  have hk8:k < 8:=by rcases hn with rfl | rfl <;> omega
  have at_:L2.atI things (k:Int)=some things[k]:=by
    rw [Mir.atI_pos _ _ (by omega),Int.toNat_natCast,List.getElem?_eq_getElem (by simp [things]; exact hk8)]
  have b3:mRet (mOp gIx (mVar 3) (mOp gMod (mVar 0) (mVar 1))) [.fz (.int x),.fz (.int n),.fz (.int low),.own (.list things)]=some (.rt (things[k],.fz) [.fz (.int x),.fz (.int n),.fz (.int low),.own (.list things)]):=by
    refine ret_eq ?_
    refine op_at (res:=(things[k],false)) (sv_at (var_own rfl)) (sv_fz (ie_mod (ie_var rfl) (ie_var rfl) (by omega))) rfl ?_
    show (L2.atI things (x % n)).map _=_
    rw [hk,at_]
    rfl
  refine ⟨things[k],fn_of rfl (seq_nx b1 (seq_nx b2 b3)) rfl,?_,fun h7=>?_⟩
  . match k,hk8 with
    | 0,_=>rfl
    | 1,_=>rfl
    | 2,_=>exact decide_eq_false (by omega)
    | 3,_=>rfl
    | 4,_=>rfl
    | 5,_=>rfl
    | 6,_=>rfl
    | 7,_=>rfl
  . match k,(show k < 7 by omega) with
    | 0,_=>rfl
    | 1,_=>rfl
    | 2,_=>rfl
    | 3,_=>rfl
    | 4,_=>rfl
    | 5,_=>rfl
    | 6,_=>rfl
theorem nopV_ok {g:D->D->Option (D × Bool)} {a b:EN} {s s1 s2:SS} {x y:SV} {c d:D} {e:Bool} (h1:a s=some (.ok x s1)) (h2:b s1=some (.ok y s2)) (h3:rdV s2.S x=some c) (h4:rdV s2.S y=some d) (h5:g c d=some (.bool e,false)):nOpV g a b s=some (.ok (.pl (.bool e)) s2):=by
  unfold nOpV
  rw [bN_ok h1,bN_ok h2]
  have:nO (mOp g (mVar 0) (mVar 1)) ⟨s2.S,[some x,some y]⟩=some (.ok (.pl (.bool e)) ⟨s2.S,[some x,some y]⟩) :=
    no_ok (op_ev (res:=(.bool e,false)) (sv_fz (var_fz (vw_at (k:=0) (x:=x) rfl h3))) (sv_fz (var_fz (vw_at (k:=1) (x:=y) rfl h4))) h5) rfl
  rw [this]
  rfl
theorem rd_tp2 {S:List (Option Cl)} {a:SV} {x:D} (h:rdV S a=some x):rdV S (.tp [a,.pl .none])=some (.tuple [x,.none]):=by
  simp only [rdV,rdVs,h,Option.bind_some,Option.map_some]
theorem log_lt {n:Int} (h0 : 0≤n) (h:n < 10 ^ 60):n.natAbs.log2 < 1920:=by
  have h1:n.natAbs < 2 ^ 1920:=by
    have:(10:Int) ^ 60≤2 ^ 1920:=by decide +kernel
    omega
  by_cases hz:n.natAbs=0
  . rw [hz]; decide
  . exact (Nat.log2_lt hz).mpr h1
section
variable {ca:CA} {S:List (Option Cl)} {i j r:Nat} {l:List Ent}
def rT (i:Nat) (c a r:Int) (p b s:D) (lf:Bool) (x y:Option SV):List (Option SV):=[some (.lc i),some (.pl (.int c)),some (.pl (.int a)),some (.pl (.int r)),some (.pl p),some (.pl b),some (.pl s),some (.pl (.bool lf)),x,y]
theorem refused_is (h:Led ca S i j l) (c:Int) (a0 : 0≤lastB l) (a1:lastB l < 10 ^ 52):m_law_refused ca S [.lc i,.pl (.int c),.pl (.int (lastB l))]=some (.ok (.pl (.bool true)) S):=by
  generalize hA:lastB l=A at a0 a1
  let t0:List (Option SV):=[some (.lc i),some (.pl (.int c)),some (.pl (.int A)),none,none,none,none,none,none,none]
  let r:Int:=c / 8
  let p0:Int:=r % 10
  let b0:Int:=r / 10 % 10
  let s0:Int:=r / 100 % 10
  let lf:Bool:=decide (c / 3 % 2=1) && decide (c % 3 < 2)
  have x1:nAsg (nO (mOp gDiv (mVar 1) (mC (.int 8)))) (ngN 3) ⟨S,t0⟩=some (.nx ⟨S,t0.set 3 (some (.pl (.int r)))⟩):=nasg_n (no_ie (ie_div (ie_var (vw_pl rfl)) ie_c ⟨by decide,by decide⟩)) (by simp [t0])
  have x2:nAsg (nO (mOp gMod (mVar 3) (mC (.int 10)))) (ngN 4) ⟨S,t0.set 3 (some (.pl (.int r)))⟩=some (.nx ⟨S,(t0.set 3 (some (.pl (.int r)))).set 4 (some (.pl (.int p0)))⟩):=nasg_n (no_ie (ie_mod (ie_var (vw_pl rfl)) ie_c (by decide))) (by simp [t0])
  have x3:nAsg (nO (mOp gMod (mOp gDiv (mVar 3) (mC (.int 10))) (mC (.int 10)))) (ngN 5) ⟨S,(t0.set 3 (some (.pl (.int r)))).set 4 (some (.pl (.int p0)))⟩=some (.nx ⟨S,((t0.set 3 (some (.pl (.int r)))).set 4 (some (.pl (.int p0)))).set 5 (some (.pl (.int b0)))⟩):=nasg_n (no_ie (ie_mod (ie_div (ie_var (vw_pl rfl)) ie_c ⟨by decide,by decide⟩) ie_c (by decide))) (by simp [t0])
  have x4:nAsg (nO (mOp gMod (mOp gDiv (mVar 3) (mC (.int 100))) (mC (.int 10)))) (ngN 6) ⟨S,((t0.set 3 (some (.pl (.int r)))).set 4 (some (.pl (.int p0)))).set 5 (some (.pl (.int b0)))⟩=some (.nx ⟨S,(((t0.set 3 (some (.pl (.int r)))).set 4 (some (.pl (.int p0)))).set 5 (some (.pl (.int b0)))).set 6 (some (.pl (.int s0)))⟩):=nasg_n (no_ie (ie_mod (ie_div (ie_var (vw_pl rfl)) ie_c ⟨by decide,by decide⟩) ie_c (by decide))) (by simp [t0])
  have x5:nAsg (nO (mAndV (mOp gEq (mOp gMod (mOp gDiv (mVar 1) (mC (.int 3))) (mC (.int 2))) (mC (.int 1))) (mOp gLt (mOp gMod (mVar 1) (mC (.int 3))) (mC (.int 2))))) (ngN 7) ⟨S,(((t0.set 3 (some (.pl (.int r)))).set 4 (some (.pl (.int p0)))).set 5 (some (.pl (.int b0)))).set 6 (some (.pl (.int s0)))⟩=some (.nx ⟨S,rT i c A r (.int p0) (.int b0) (.int s0) lf none none⟩):=by
    refine nasg_n (no_be (be_and (be_eq (ie_mod (ie_div (ie_var (vw_pl rfl)) ie_c ⟨by decide,by decide⟩) ie_c (by decide)) ie_c) (fun hu=>(be_lt (ie_mod (ie_var (vw_pl rfl)) ie_c (by decide)) ie_c).is (v:=lf) ?_) (fun hu=>?_))) (by simp [t0])
    . simp only [lf,hu,Bool.true_and]
    . simp only [lf,hu,Bool.false_and]
  obtain ⟨b1,hb1,hbl,x6⟩:∃ b1:Int,(0≤b1∧b1 < 10 ^ 52)∧(lf=true->b1=A)∧nIfS (nTo (mTest (mVar 7))) (nAsg (nVar 2) (ngN 5)) nPass ⟨S,rT i c A r (.int p0) (.int b0) (.int s0) lf none none⟩=some (.nx ⟨S,rT i c A r (.int p0) (.int b1) (.int s0) lf none none⟩):=by
    have tt:nTo (mTest (mVar 7)) ⟨S,rT i c A r (.int p0) (.int b0) (.int s0) lf none none⟩=some (.ok lf ⟨S,rT i c A r (.int p0) (.int b0) (.int s0) lf none none⟩):=nto_ok (test_ev (k:=.fz) (var_fz (vw_pl rfl)))
    cases hl:lf with
    | true=>rw [hl] at tt; exact ⟨A,⟨a0,a1⟩,fun _=>rfl,nif_t tt (nasg_n (nvar_ok rfl) (by simp [rT]))⟩
    | false=>rw [hl] at tt; exact ⟨b0,⟨by omega,by omega⟩,(fun z=>by cases z),nif_f tt rfl⟩
  have hs0 : 0≤s0∧s0 < 10:=by constructor <;> omega
  have hp0 : 0≤p0∧p0 < 10:=by constructor <;> omega
  obtain ⟨s1,hs1,hs7,x7⟩:∃ s1:Int,0≤s1∧(c % 8=7->s1=A + p0 + 1 + s0)∧nIfS (nTo (mOr (mTest (mOp gEq (mOp gMod (mOp gDiv (mVar 3) (mC (.int 1000))) (mC (.int 2))) (mC (.int 1)))) (mTest (mOp gEq (mOp gMod (mVar 1) (mC (.int 8))) (mC (.int 7)))))) (nAsg (nO (mOp gAdd (mOp gAdd (mOp gAdd (mVar 2) (mVar 4)) (mC (.int 1))) (mVar 6))) (ngN 6)) nPass ⟨S,rT i c A r (.int p0) (.int b1) (.int s0) lf none none⟩=some (.nx ⟨S,rT i c A r (.int p0) (.int b1) (.int s1) lf none none⟩):=by
    let s:SS:=⟨S,rT i c A r (.int p0) (.int b1) (.int s0) lf none none⟩
    have q1:mTest (mOp gEq (mOp gMod (mOp gDiv (mVar 3) (mC (.int 1000))) (mC (.int 2))) (mC (.int 1))) (vw s)=some (decide (r / 1000 % 2=1),vw s):=(be_eq (ie_mod (ie_div (ie_var (vw_pl rfl)) ie_c ⟨by decide,by decide⟩) ie_c (by decide)) ie_c).t
    have q2:mTest (mOp gEq (mOp gMod (mVar 1) (mC (.int 8))) (mC (.int 7))) (vw s)=some (decide (c % 8=7),vw s):=(be_eq (ie_mod (ie_var (vw_pl rfl)) ie_c (by decide)) ie_c).t
    have yes:nTo (mOr (mTest (mOp gEq (mOp gMod (mOp gDiv (mVar 3) (mC (.int 1000))) (mC (.int 2))) (mC (.int 1)))) (mTest (mOp gEq (mOp gMod (mVar 1) (mC (.int 8))) (mC (.int 7))))) s=some (.ok true s)->∃ s1:Int,0≤s1∧(c % 8=7->s1=A + p0 + 1 + s0)∧nIfS (nTo (mOr (mTest (mOp gEq (mOp gMod (mOp gDiv (mVar 3) (mC (.int 1000))) (mC (.int 2))) (mC (.int 1)))) (mTest (mOp gEq (mOp gMod (mVar 1) (mC (.int 8))) (mC (.int 7)))))) (nAsg (nO (mOp gAdd (mOp gAdd (mOp gAdd (mVar 2) (mVar 4)) (mC (.int 1))) (mVar 6))) (ngN 6)) nPass ⟨S,rT i c A r (.int p0) (.int b1) (.int s0) lf none none⟩=some (.nx ⟨S,rT i c A r (.int p0) (.int b1) (.int s1) lf none none⟩):=fun hy =>
      ⟨A + p0 + 1 + s0,by omega,fun _=>rfl,nif_t hy (nasg_n (no_ie (ie_add (ie_add (ie_add (ie_var (vw_pl rfl)) (ie_var (vw_pl rfl))) ie_c) (ie_var (vw_pl rfl)))) (by simp [s,rT]))⟩
    by_cases e1:r / 1000 % 2=1
    . exact yes (nto_ok (or_t (q1.trans (by rw [decide_eq_true e1]))))
    . by_cases e2:c % 8=7
      . exact yes (nto_ok (or_f (q1.trans (by rw [decide_eq_false e1])) (q2.trans (by rw [decide_eq_true e2]))))
      . exact ⟨s0,hs0.1,fun z=>absurd z e2,nif_f (nto_ok (or_f (q1.trans (by rw [decide_eq_false e1])) (q2.trans (by rw [decide_eq_false e2])))) rfl⟩
  have hL1:Led ca (S++[some (.dat (.list []))]) i j l:=h.app _
  have c7:nTo (mTest (mOp gEq (mOp gMod (mVar 1) (mC (.int 8))) (mC (.int 7)))) ⟨S,rT i c A r (.int p0) (.int b1) (.int s1) lf none none⟩=some (.ok (decide (c % 8=7)) ⟨S,rT i c A r (.int p0) (.int b1) (.int s1) lf none none⟩):=nto_ok ((be_eq (ie_mod (ie_var (vw_pl rfl)) ie_c (by decide)) ie_c).t)
  have fin:∀ {X:List (Option Cl)} {t:List (Option SV)},b_law_refused ca ⟨S,t0⟩=some (.rt (.pl (.bool true)) ⟨S++X,t⟩)->m_law_refused ca S [.lc i,.pl (.int c),.pl (.int A)]=some (.ok (.pl (.bool true)) S):=fun {X t} hx=>by
    refine fnS_ok rfl (o:=.rt (.pl (.bool true)) ⟨S++X,t⟩) hx ?_
    simp only [retS,blV,if_true,fS_app h.w]
  by_cases e7:c % 8=7
  . have hs:=hs7 e7
    have pos : 0 < s1 + b1 - lastB l - p0:=by rw [hA]; omega
    have en:=enter_er (ca:=ca) hL1 "deed" s1 p0 b1 (if lf=true then .none else .int b1) hs1 hp0.1 hb1.1 (by
      cases hl:lf with
      | true=>exact .inr ⟨rfl,by rw [hA]; exact hbl hl⟩
      | false=>exact .inl rfl) pos (log_lt (by omega) (by rw [hA]; omega))
    have tr:=try_er (ca:=ca) (o:=.dat .none) h.o (st:=.int s1) (pr:=.int p0) (be:=.int b1) (left:=lf) (.inr ⟨rfl,_,rfl⟩) en
    have call:nAsg (nCall (m_law_try ca) (naCons (nVar 0) (naCons (nVar 6) (naCons (nVar 4) (naCons (nVar 5) (naCons (nVar 7) naNil)))))) (ngT 2 (ngsCons 8 (ngsCons 9 ngsNil))) ⟨S,rT i c A r (.int p0) (.int b1) (.int s1) lf none none⟩=some (.nx ⟨S++tY "Overdrawn" (some (s1 + b1 - lastB l - p0)),rT i c A r (.int p0) (.int b1) (.int s1) lf (some (.lc (S.length + 11))) (some (.pl (.int (s1 + b1 - lastB l - p0))))⟩):=by
      unfold nAsg
      rw [bS_ok (ncall_ok (nacons (nvar_ok rfl) (nacons (nvar_ok rfl) (nacons (nvar_ok rfl) (nacons (nvar_ok rfl) (nacons (nvar_ok rfl) nanil))))) tr)]
      rfl
    let s8:SS:=⟨S++tY "Overdrawn" (some (s1 + b1 - lastB l - p0)),rT i c A r (.int p0) (.int b1) (.int s1) lf (some (.lc (S.length + 11))) (some (.pl (.int (s1 + b1 - lastB l - p0))))⟩
    have v8:(vw s8)[8]?=some (.fz (.list (([0,1,(plc "Overdrawn":Int)]:List Int).map .int))):=vw_at (x:=.lc (S.length + 11)) rfl (rd_lc tY_at)
    have rr:nO (mAndV (mOp gEq (mVar 8) (mLst (mCons (mC (.int 0)) (mCons (mC (.int 1)) (mCons (mC (.int 3)) mNil))))) (mAndV (mCall m_law_whole (mCons (mVar 9) mNil)) (mOp gEq (mVar 9) (mOp Mir.gSub (mOp Mir.gSub (mOp gAdd (mVar 6) (mVar 5)) (mVar 2)) (mVar 4))))) s8=some (.ok (.pl (.bool true)) s8):=by
      refine no_be (be_and ((eq013 v8 3).is (decide_eq_true (by decide +kernel))) (fun _=>be_and (be_call (rs:=[(.int (s1 + b1 - lastB l - p0),.fz)]) (consI (ie_var (vw_pl rfl)) nil_ev) (whole _)) (fun _=>(be_eq (ie_var (vw_pl rfl)) (ie_sub (ie_sub (ie_add (ie_var (vw_pl rfl)) (ie_var (vw_pl rfl))) (ie_var (vw_pl rfl))) (ie_var (vw_pl rfl)))).is (decide_eq_true ?_)) (fun z=>by cases z)) (fun z=>by cases z))
      rw [hA]
    exact fin (nseq_nx x1 (nseq_nx x2 (nseq_nx x3 (nseq_nx x4 (nseq_nx x5 (nseq_nx x6 (nseq_nx x7 (nseq_rt (nif_t (c7.trans (by rw [decide_eq_true e7])) (nseq_nx call (nret_ok rr)))))))))))
  . obtain ⟨p2,b2,s2,hc2,hbad,x9⟩:∃ p2 b2 s2:D,(lf=false->isNone b2=false)∧(cnt s2=false∨cnt p2=false∨(lf=false∧cnt b2=false))∧nIfS (nTo (mTest (mOp gEq (mOp gMod (mVar 1) (mC (.int 3))) (mC (.int 0))))) (nAsg (nCallO m_law_bad (naCons (nO (mOp gDiv (mVar 3) (mC (.int 2000)))) (naCons (nLit (.int 8)) naNil))) (ngN 6)) (nIfS (nTo (mTest (mOp gEq (mOp gMod (mVar 1) (mC (.int 3))) (mC (.int 1))))) (nAsg (nCallO m_law_bad (naCons (nO (mOp gDiv (mVar 3) (mC (.int 2000)))) (naCons (nLit (.int 8)) naNil))) (ngN 4)) (nAsg (nCallO m_law_bad (naCons (nO (mOp gDiv (mVar 3) (mC (.int 2000)))) (naCons (nLit (.int 7)) naNil))) (ngN 5))) ⟨S,rT i c A r (.int p0) (.int b1) (.int s1) lf none none⟩=some (.nx ⟨S,rT i c A r p2 b2 s2 lf none none⟩):=by
      have c0:nTo (mTest (mOp gEq (mOp gMod (mVar 1) (mC (.int 3))) (mC (.int 0)))) ⟨S,rT i c A r (.int p0) (.int b1) (.int s1) lf none none⟩=some (.ok (decide (c % 3=0)) ⟨S,rT i c A r (.int p0) (.int b1) (.int s1) lf none none⟩):=nto_ok ((be_eq (ie_mod (ie_var (vw_pl rfl)) ie_c (by decide)) ie_c).t)
      have c1:nTo (mTest (mOp gEq (mOp gMod (mVar 1) (mC (.int 3))) (mC (.int 1)))) ⟨S,rT i c A r (.int p0) (.int b1) (.int s1) lf none none⟩=some (.ok (decide (c % 3=1)) ⟨S,rT i c A r (.int p0) (.int b1) (.int s1) lf none none⟩):=nto_ok ((be_eq (ie_mod (ie_var (vw_pl rfl)) ie_c (by decide)) ie_c).t)
      obtain ⟨d8,h81,h82,_⟩:=bad_is (r / 2000) 8 (.inl rfl)
      obtain ⟨d7,h71,h72,h73⟩:=bad_is (r / 2000) 7 (.inr rfl)
      have call8:nCallO m_law_bad (naCons (nO (mOp gDiv (mVar 3) (mC (.int 2000)))) (naCons (nLit (.int 8)) naNil)) ⟨S,rT i c A r (.int p0) (.int b1) (.int s1) lf none none⟩=some (.ok (.pl d8) ⟨S,rT i c A r (.int p0) (.int b1) (.int s1) lf none none⟩):=ncallO_ok (ds:=[.int (r / 2000),.int 8]) (nacons (no_ie (ie_div (ie_var (vw_pl rfl)) ie_c ⟨by decide,by decide⟩)) (nacons nlit nanil)) rfl h81
      have call7:nCallO m_law_bad (naCons (nO (mOp gDiv (mVar 3) (mC (.int 2000)))) (naCons (nLit (.int 7)) naNil)) ⟨S,rT i c A r (.int p0) (.int b1) (.int s1) lf none none⟩=some (.ok (.pl d7) ⟨S,rT i c A r (.int p0) (.int b1) (.int s1) lf none none⟩):=ncallO_ok (ds:=[.int (r / 2000),.int 7]) (nacons (no_ie (ie_div (ie_var (vw_pl rfl)) ie_c ⟨by decide,by decide⟩)) (nacons nlit nanil)) rfl h71
      by_cases z0:c % 3=0
      . exact ⟨.int p0,.int b1,d8,fun _=>rfl,.inl h82,nif_t (c0.trans (by rw [decide_eq_true z0])) (nasg_n call8 (by simp [rT]))⟩
      . by_cases z1:c % 3=1
        . exact ⟨d8,.int b1,.int s1,fun _=>rfl,.inr (.inl h82),nif_f (c0.trans (by rw [decide_eq_false z0])) (nif_t (c1.trans (by rw [decide_eq_true z1])) (nasg_n call8 (by simp [rT])))⟩
        . have hlf:lf=false:=by simp only [lf]; rw [decide_eq_false (show ¬ (c % 3 < 2) by omega),Bool.and_false]
          exact ⟨.int p0,d7,.int s1,fun _=>h73 rfl,.inr (.inr ⟨hlf,h72⟩),nif_f (c0.trans (by rw [decide_eq_false z0])) (nif_f (c1.trans (by rw [decide_eq_false z1])) (nasg_n call7 (by simp [rT])))⟩
    have en:m_Ledger_enter ca (S++[some (.dat (.list []))]) [.lc i,.pl (.str "deed"),.pl s2,.pl p2,.pl (if lf=true then .none else b2)]=some (.er ⟨"NoNumber",none⟩ (S++[some (.dat (.list []))])):=by
      cases hl:lf with
      | true =>
        refine enter_bad hL1 "deed" s2 p2 (.int (lastB l)) .none (.inr ⟨rfl,rfl⟩) ?_
        rcases hbad with z | z | ⟨z,_⟩
        . exact .inl z
        . exact .inr (.inl z)
        . rw [hl] at z; cases z
      | false =>
        refine enter_bad hL1 "deed" s2 p2 b2 b2 (.inl ⟨hc2 hl,rfl⟩) ?_
        rcases hbad with z | z | ⟨_,z⟩
        . exact .inl z
        . exact .inr (.inl z)
        . exact .inr (.inr z)
    have tr:=try_er (ca:=ca) (o:=.dat .none) h.o (st:=s2) (pr:=p2) (be:=b2) (left:=lf) (.inl ⟨rfl,rfl⟩) en
    have call:nCall (m_law_try ca) (naCons (nVar 0) (naCons (nVar 6) (naCons (nVar 4) (naCons (nVar 5) (naCons (nVar 7) naNil))))) ⟨S,rT i c A r p2 b2 s2 lf none none⟩=some (.ok (.tp [.lc (S.length + 11),.pl .none]) ⟨S++tY "NoNumber" none,rT i c A r p2 b2 s2 lf none none⟩):=ncall_ok (nacons (nvar_ok rfl) (nacons (nvar_ok rfl) (nacons (nvar_ok rfl) (nacons (nvar_ok rfl) (nacons (nvar_ok rfl) nanil))))) tr
    let S3:=S++tY "NoNumber" none
    have q1:nLst (naCons (nLit (.int 0)) (naCons (nLit (.int 1)) (naCons (nLit (.int 2)) naNil))) ⟨S3,rT i c A r p2 b2 s2 lf none none⟩=some (.ok (.lc S3.length) ⟨S3++[some (.dat (.list [.int 0,.int 1,.int 2]))],rT i c A r p2 b2 s2 lf none none⟩):=nlst_ok (nacons nlit (nacons nlit (nacons nlit nanil))) (by simp)
    have q2:nTup (naCons (nLst (naCons (nLit (.int 0)) (naCons (nLit (.int 1)) (naCons (nLit (.int 2)) naNil)))) (naCons (nLit .none) naNil)) ⟨S3,rT i c A r p2 b2 s2 lf none none⟩=some (.ok (.tp [.lc S3.length,.pl .none]) ⟨S3++[some (.dat (.list [.int 0,.int 1,.int 2]))],rT i c A r p2 b2 s2 lf none none⟩):=by
      unfold nTup
      rw [bN_ok (nacons q1 (nacons (x:=.pl .none) nlit nanil)),cIf_pos (sz_le (by simp))]
      rfl
    have rr:nOpV gEq (nCall (m_law_try ca) (naCons (nVar 0) (naCons (nVar 6) (naCons (nVar 4) (naCons (nVar 5) (naCons (nVar 7) naNil)))))) (nTup (naCons (nLst (naCons (nLit (.int 0)) (naCons (nLit (.int 1)) (naCons (nLit (.int 2)) naNil)))) (naCons (nLit .none) naNil))) ⟨S,rT i c A r p2 b2 s2 lf none none⟩=some (.ok (.pl (.bool true)) ⟨S3++[some (.dat (.list [.int 0,.int 1,.int 2]))],rT i c A r p2 b2 s2 lf none none⟩):=by
      refine nopV_ok (c:=.tuple [.list [.int 0,.int 1,.int 2],.none]) (d:=.tuple [.list [.int 0,.int 1,.int 2],.none]) call q2 ?_ ?_ ?_
      . exact rd_tp2 (rd_lc (get_app (X:=[some (Cl.dat (.list [.int 0,.int 1,.int 2]))]) (tY_at (S:=S) (c:="NoNumber") (n:=none))))
      . exact rd_tp2 (rd_lc (get_new (S:=S3) (c:=some (Cl.dat (.list [.int 0,.int 1,.int 2])))))
      . rfl
    simp only [S3,List.append_assoc] at rr
    exact fin (X:=tY "NoNumber" none++[some (.dat (.list [.int 0,.int 1,.int 2]))]) (nseq_nx x1 (nseq_nx x2 (nseq_nx x3 (nseq_nx x4 (nseq_nx x5 (nseq_nx x6 (nseq_nx x7 (nseq_nx (nif_f (c7.trans (by rw [decide_eq_false e7])) rfl) (nseq_nx x9 (nret_ok rr))))))))))
end
theorem noEsc_appX {S X:List (Option Cl)} (h:noEsc S.length S=true) (hx:X.all (fun x=>match x with
    | some c=>blC (S.length + X.length) c
    | none=>true)=true):noEsc (S++X).length (S++X)=true:=by
  unfold noEsc at h ⊢
  rw [List.take_length] at h ⊢
  rw [List.length_append]
  refine List.all_eq_true.mpr fun x hm=>?_
  rcases List.mem_append.mp hm with hm | hm
  . have:=(List.all_eq_true.mp h) x hm
    cases x with
    | none=>rfl
    | some d=>exact blC_mono (Nat.le_add_right _ _) this
  . exact (List.all_eq_true.mp hx) x hm
theorem nmkX_ok {c:Str} {m:MN (List SV)} {s s1:SS} {xs:List SV} (h:m s=some (.ok xs s1)) (hz:xs.length≤100):nMkX c m s=some (.ok (.lc s1.S.length) ⟨s1.S++[some (.exc c none)],s1.t⟩):=by
  unfold nMkX; rw [bN_ok h,if_pos hz]
def mkXs (w:Bool):List Str->MN (List SV)
  | []=>naNil
  | c::cs=>naCons (nMkX c (if w then naCons (nLit (.str "no")) naNil else naNil)) (mkXs w cs)
def exs (cs:List Str):List (Option Cl):=cs.map fun c=>some (.exc c none)
def lcs (n k:Nat):List SV:=(List.range k).map fun i=>.lc (n + i)
theorem lcs_succ (n k:Nat):lcs n (k + 1)=.lc n::lcs (n + 1) k:=by
  unfold lcs
  rw [List.range_succ_eq_map,List.map_cons,List.map_map]
  congr 1
  refine List.map_congr_left fun i _=>?_
  show SV.lc (n + (i + 1))=SV.lc (n + 1 + i)
  congr 1
  omega
theorem mkXs_ok (w:Bool):∀ (cs:List Str) (S:List (Option Cl)) (t:List (Option SV)),mkXs w cs ⟨S,t⟩=some (.ok (lcs S.length cs.length) ⟨S++exs cs,t⟩)
  | [],S,t=>by simp [mkXs,lcs,exs,naNil]
  | c::cs,S,t=>by
    have h1:nMkX c (if w then naCons (nLit (.str "no")) naNil else naNil) ⟨S,t⟩=some (.ok (.lc S.length) ⟨S++[some (.exc c none)],t⟩):=by
      cases w with
      | true=>exact nmkX_ok (xs:=[.pl (.str "no")]) (nacons nlit nanil) (by simp)
      | false=>exact nmkX_ok (xs:=[]) nanil (by simp)
    have h2:=mkXs_ok w cs (S++[some (.exc c none)]) t
    have h3:=nacons h1 h2
    show naCons _ _ _=_
    rw [h3,List.length_cons,lcs_succ]
    simp [exs]
theorem mkL_lcs (n k:Nat):mkL (lcs n (k + 1))=.lst (lcs n (k + 1)):=by
  rw [lcs_succ]
  rfl
theorem lst_mk {w:Bool} {c:Str} {cs:List Str} {S:List (Option Cl)} {t:List (Option SV)} (hz:cs.length≤50):nLst (mkXs w (c::cs)) ⟨S,t⟩=some (.ok (.lc (S.length + (cs.length + 1))) ⟨S++(exs (c::cs)++[some (.lst (lcs S.length (cs.length + 1)))]),t⟩):=by
  have h:=nlst_ok (mkXs_ok w (c::cs) S t) (by simp [lcs]; omega)
  rw [h,List.length_cons,mkL_lcs]
  simp [exs]
theorem naddL_ok {a b:EN} {s s1 s2:SS} {i j:Nat} {xs ys:List SV} (h1:a s=some (.ok (.lc i) s1)) (h2:b s1=some (.ok (.lc j) s2)) (h3:s2.S[i]?=some (some (.lst xs))) (h4:s2.S[j]?=some (some (.lst ys))) (hz:xs.length + ys.length≤100):nAddL a b s=some (.ok (.lc s2.S.length) ⟨s2.S++[some (.lst (xs++ys))],s2.t⟩):=by
  unfold nAddL
  rw [bN_ok h1,bN_ok h2]
  simp only [h3,h4,cIf_pos (sz_le (show xs.length + ys.length≤100000 by omega))]
  rfl
theorem two_mk {w:Bool} {c d:Str} {cs ds:List Str} {S:List (Option Cl)} {t:List (Option SV)} (h2 : 2 < t.length) (hz:cs.length≤20) (hy:ds.length≤20) (hw:noEsc S.length S=true) :
    ∃ (X:List (Option Cl)) (q:Nat) (as:List Nat),noEsc (S++X).length (S++X)=true∧(S++X)[q]?=some (some (.lst (as.map .lc)))∧as.length=(c::cs++d::ds).length∧(∀ k,(hk:k < as.length)->∀ e,(c::cs++d::ds)[k]?=some e->(S++X)[as[k]]?=some (some (.exc e none)))∧q < (S++X).length ∧
      ∃ s1,nAsg (nLst (mkXs w (c::cs))) (ngN 2) ⟨S,t⟩=some (.nx s1)∧nAsg (nAddL (nVar 2) (nLst (mkXs w (d::ds)))) (ngN 2) s1=some (.nx ⟨S++X,t.set 2 (some (.lc q))⟩):=by
  let n:=S.length
  let X1:=exs (c::cs)++[some (Cl.lst (lcs S.length (cs.length + 1)))]
  let S1:=S++X1
  have l1:S1.length=n + (cs.length + 2):=by simp [S1,X1,exs,n]
  have e1:=lst_mk (w:=w) (c:=c) (S:=S) (t:=t) (show cs.length≤50 by omega)
  have e2:=lst_mk (w:=w) (c:=d) (S:=S1) (t:=t.set 2 (some (.lc (S.length + (cs.length + 1))))) (show ds.length≤50 by omega)
  let X2:=exs (d::ds)++[some (Cl.lst (lcs S1.length (ds.length + 1)))]
  have at1:S1[S.length + (cs.length + 1)]?=some (some (.lst (lcs S.length (cs.length + 1)))):=by
    show (S++X1)[S.length + (cs.length + 1)]?=_
    rw [List.getElem?_append_right (by omega),show S.length + (cs.length + 1) - S.length=(exs (c::cs)).length by simp [exs]]
    exact List.getElem?_concat_length
  have at2:(S1++X2)[S1.length + (ds.length + 1)]?=some (some (.lst (lcs S1.length (ds.length + 1)))):=by
    rw [List.getElem?_append_right (by omega),show S1.length + (ds.length + 1) - S1.length=(exs (d::ds)).length by simp [exs]]
    exact List.getElem?_concat_length
  have e3:=naddL_ok (nvar_ok (i:=2) (s:=⟨S1,t.set 2 (some (.lc (S.length + (cs.length + 1))))⟩) (x:=.lc (S.length + (cs.length + 1))) (List.getElem?_set_self h2)) e2 (get_app at1) at2 (by simp [lcs]; omega)
  have e4:=nasg_n (i:=2) e3 (by simpa using h2)
  let as:List Nat:=(List.range (cs.length + 1)).map (n + ·)++(List.range (ds.length + 1)).map (S1.length + ·)
  have eas:lcs S.length (cs.length + 1)++lcs S1.length (ds.length + 1)=as.map .lc:=by simp [lcs,as,n,Function.comp_def]
  have eS:S1++X2++[some (.lst (lcs S.length (cs.length + 1)++lcs S1.length (ds.length + 1)))]=S++(X1++X2++[some (.lst (as.map .lc))]):=by rw [eas]; simp [S1]
  have l2:(S1++X2).length=n + (cs.length + 2) + (ds.length + 2):=by rw [List.length_append,l1]; simp [X2,exs]
  refine ⟨X1++X2++[some (.lst (as.map .lc))],n + (cs.length + 2) + (ds.length + 2),as,?_,?_,?_,?_,?_,_,nasg_n e1 h2,?_⟩
  . refine noEsc_appX hw ?_
    refine List.all_eq_true.mpr fun x hx=>?_
    have blx:∀ m k N,m + k≤N->blVs N (lcs m k)=true:=fun m k N hN=>by
      have:∀ xs:List Nat,(∀ i∈xs,m + i < N)->blVs N (xs.map fun i=>SV.lc (m + i))=true:=fun xs=>by
        induction xs with
        | nil=>intro _; rfl
        | cons i xs ih=>intro h; simp only [List.map_cons,blVs,blV,Bool.and_eq_true,decide_eq_true_eq]; exact ⟨h i List.mem_cons_self,ih fun j hj=>h j (List.mem_cons_of_mem _ hj)⟩
      exact this _ fun i hi=>by have:=List.mem_range.mp hi; omega
    have lX:(X1++X2++[some (Cl.lst (as.map .lc))]).length=cs.length + 2 + (ds.length + 2) + 1:=by simp [X1,X2,exs]; omega
    rw [lX]
    have bap:∀ (N:Nat) (a b:List SV),blVs N a=true->blVs N b=true->blVs N (a++b)=true:=fun N a b ha hb=>by
      induction a with
      | nil=>exact hb
      | cons x a ih=>simp only [List.cons_append,blVs,Bool.and_eq_true] at ha ⊢; exact ⟨ha.1,ih ha.2⟩
    simp only [X1,X2,exs,List.mem_append,List.mem_map,List.mem_singleton] at hx
    rcases hx with ((⟨e,_,rfl⟩ | rfl) | ⟨e,_,rfl⟩ | rfl) | rfl
    . rfl
    . exact blx _ _ _ (by omega)
    . rfl
    . exact blx _ _ _ (by rw [l1]; omega)
    . show blVs _ (as.map .lc)=true
      rw [← eas]
      exact bap _ _ _ (blx _ _ _ (by omega)) (blx _ _ _ (by rw [l1]; omega))
  . rw [← eS,← l2]
    rw [← eas]
    exact List.getElem?_concat_length
  . simp [as]
    omega
  . intro k hk e he
    rw [← eS]
    refine get_app ?_
    have hla:as.length=cs.length + 1 + (ds.length + 1):=by simp [as]
    by_cases z:k < cs.length + 1
    . have ha:as[k]=n + k:=by simp [as,List.getElem_append_left,z]
      rw [ha]
      refine get_app ?_
      show (S++X1)[n + k]?=_
      rw [List.getElem?_append_right (by omega),show n + k - S.length=k by simp [n]]
      refine get_app ?_
      rw [List.getElem?_append_left (by simpa using z)] at he
      unfold exs
      rw [List.getElem?_map,he]
      rfl
    . have ha:as[k]=S1.length + (k - (cs.length + 1)):=by
        simp only [as]
        rw [List.getElem_append_right (by simpa using Nat.le_of_not_lt z)]
        simp
      rw [ha,List.getElem?_append_right (by omega),show S1.length + (k - (cs.length + 1)) - S1.length=k - (cs.length + 1) by omega]
      refine get_app ?_
      rw [List.getElem?_append_right (by simpa using Nat.le_of_not_lt z)] at he
      unfold exs
      rw [List.getElem?_map]
      simp only [List.length_cons] at he
      rw [he]
      rfl
  . rw [← eS,List.length_append,l2]
    simp
  . refine e4.trans ?_
    show some (NOut.nx (SS.mk (S1++X2++_) ((t.set 2 _).set 2 _)))=_
    rw [eS,List.set_set]
    show some (NOut.nx (SS.mk _ (t.set 2 (some (.lc (S1++X2).length)))))=_
    rw [l2]
def nms:List Str:=["NoNumber","Empty","NoThing","Lacking","AtTop","NoPlace","Mixed","NoName","Twice","NotLess","NoRow"]
def plcs:List Int:=[2,4,5,6,7,8,9,10,11,12,13]
theorem nms_at:∀ j:Nat,j < 11->∃ c,nms[j]?=some c∧c∈KNm∧plcs[j]?=some ((plc c:Nat):Int):=by decide +kernel
theorem lcN_true {fr:List (Str × Nat)} {e:EN} {S:List (Option Cl)} {t:List (Option SV)} (hw:noEsc S.length S=true) (ht:lowT S.length t=true):∀ (js:List Nat) (acc:List D),(∀ j∈js,∃ (Z:List (Option Cl)) (t':List (Option SV)),e ⟨S,some (.pl (.int (j:Int)))::compS t fr⟩=some (.ok (.pl (.bool true)) ⟨S++Z,t'⟩)) ->
    lcN S.length fr e js ⟨S,t⟩ acc=some (acc++List.replicate js.length (.bool true),⟨S,t⟩)
  | [],acc,_=>by simp [lcN]
  | j::js,acc,h=>by
    obtain ⟨Z,t',hj⟩:=h j List.mem_cons_self
    unfold lcN
    dsimp only
    rw [hj]
    dsimp only
    rw [gcE_low hw ht,lcN_true hw ht js _ fun i hi=>h i (List.mem_cons_of_mem _ hi)]
    simp [List.replicate_succ]
section
variable {ca:CA} {S:List (Option Cl)}
theorem atI_nat {α:Type} (l:List α) (j:Nat):L2.atI l (j:Int)=l[j]?:=by
  rw [Mir.atI_pos _ _ (by omega),Int.toNat_natCast]
theorem elt_is {q r j:Nat} {as:List Nat} {t:List (Option SV)} (hq:S[q]?=some (some (.lst (as.map .lc)))) (hl:as.length=11) (hx:∀ k,(hk:k < as.length)->∀ e,nms[k]?=some e->S[as[k]]?=some (some (.exc e none))) (hr:S[r]?=some (some (.dat (.list (plcs.map .int))))) (hj:j < 11)
    (h0:t[0]?=some (some (.pl (.int (j:Int))))) (h1:t[1]?=some (some (.lc q))) (h2:t[2]?=some (some (.lc r))) :
    ∃ Z,(nOp gEq (nCall (m_law_kinds ca) (naCons (nIx (nVar 1) (nVar 0)) naNil)) (nLst (naCons (nLit (.int 0)) (naCons (nLit (.int 1)) (naCons (nIx (nVar 2) (nVar 0)) naNil))))) ⟨S,t⟩=some (.ok (.pl (.bool true)) ⟨S++Z,t⟩):=by
  obtain ⟨c,hc1,hc2,hc3⟩:=nms_at j hj
  have hc4:=hx j (by omega) c hc1
  have i1:nIx (nVar 1) (nVar 0) ⟨S,t⟩=some (.ok (.lc (as[j]'(by omega))) ⟨S,t⟩):=by
    refine nix_ok (i:=(j:Int)) (nvar_ok h1) (nvar_ok h0) ?_
    simp only [ixV,hq]
    rw [atI_nat,List.getElem?_map,List.getElem?_eq_getElem (by omega)]
    rfl
  have ks:=kinds_is (ca:=ca) hc4 hc2
  let Y:List (Option Cl):=kX (kB (plc c))++[some (.dat (.list (([0,1,(plc c:Int)]:List Int).map .int)))]
  have eY:S++kX (kB (plc c))++[some (.dat (.list (([0,1,(plc c:Int)]:List Int).map .int)))]=S++Y:=by simp [Y]
  rw [eY] at ks
  have c1:nCall (m_law_kinds ca) (naCons (nIx (nVar 1) (nVar 0)) naNil) ⟨S,t⟩=some (.ok (.lc (S.length + 9)) ⟨S++Y,t⟩):=ncall_ok (nacons i1 nanil) ks
  have i2:nIx (nVar 2) (nVar 0) ⟨S++Y,t⟩=some (.ok (.pl (.int (plc c:Int))) ⟨S++Y,t⟩):=by
    refine nix_ok (i:=(j:Int)) (nvar_ok h2) (nvar_ok h0) ?_
    simp only [ixV,get_app (X:=Y) hr]
    rw [atI_nat,List.getElem?_map,hc3]
    rfl
  have c2:nLst (naCons (nLit (.int 0)) (naCons (nLit (.int 1)) (naCons (nIx (nVar 2) (nVar 0)) naNil))) ⟨S++Y,t⟩=some (.ok (.lc (S++Y).length) ⟨S++Y++[some (.dat (.list [.int 0,.int 1,.int (plc c:Int)]))],t⟩):=nlst_ok (nacons nlit (nacons nlit (nacons i2 nanil))) (by simp)
  have a9:(S++Y)[S.length + 9]?=some (some (.dat (.list (([0,1,(plc c:Int)]:List Int).map .int)))):=by
    rw [List.getElem?_append_right (by omega),show S.length + 9 - S.length=9 by omega]
    rfl
  refine ⟨Y++[some (.dat (.list [.int 0,.int 1,.int (plc c:Int)]))],?_⟩
  rw [← List.append_assoc]
  exact nop_ok c1 c2 (rc_lc (get_app a9)) (rc_lc get_new) ((gEq_ints [0,1,(plc c:Int)] [0,1,(plc c:Int)]).trans (by rw [decide_eq_true rfl]))
theorem all_is {q:Nat} {as:List Nat} {t:List (Option SV)} (hw:noEsc S.length S=true) (hq:S[q]?=some (some (.lst (as.map .lc)))) (hl:as.length=11) (hx:∀ k,(hk:k < as.length)->∀ e,nms[k]?=some e->S[as[k]]?=some (some (.exc e none))) (h2:t[2]?=some (some (.lc q))) (ht:t.length=4) (hlow:lowT S.length t=true) :
    ∃ Z t',(nSeq (nAsg (nLst (naCons (nLit (.int 2)) (naCons (nLit (.int 4)) (naCons (nLit (.int 5)) (naCons (nLit (.int 6)) (naCons (nLit (.int 7)) (naCons (nLit (.int 8)) (naCons (nLit (.int 9)) (naCons (nLit (.int 10)) (naCons (nLit (.int 11)) (naCons (nLit (.int 12)) (naCons (nLit (.int 13)) naNil)))))))))))) (ngN 3))
    (nRet (nCB gAll (naCons (nLCR [("_law_some",2),("_law_places",3)] 11 (nOp gEq (nCall (m_law_kinds ca) (naCons (nIx (nVar 1) (nVar 0)) naNil)) (nLst (naCons (nLit (.int 0)) (naCons (nLit (.int 1)) (naCons (nIx (nVar 2) (nVar 0)) naNil)))))) naNil)))) ⟨S,t⟩=some (.rt (.pl (.bool true)) ⟨S++Z,t'⟩):=by
  let S4:=S++[some (Cl.dat (.list (plcs.map .int)))]
  let t4:=t.set 3 (some (.lc S.length))
  have e1:nAsg (nLst (naCons (nLit (.int 2)) (naCons (nLit (.int 4)) (naCons (nLit (.int 5)) (naCons (nLit (.int 6)) (naCons (nLit (.int 7)) (naCons (nLit (.int 8)) (naCons (nLit (.int 9)) (naCons (nLit (.int 10)) (naCons (nLit (.int 11)) (naCons (nLit (.int 12)) (naCons (nLit (.int 13)) naNil)))))))))))) (ngN 3) ⟨S,t⟩=some (.nx ⟨S4,t4⟩) :=
    nasg_n (nlst_ok (xs:=plcs.map fun i=>.pl (.int i)) (nacons nlit (nacons nlit (nacons nlit (nacons nlit (nacons nlit (nacons nlit (nacons nlit (nacons nlit (nacons nlit (nacons nlit (nacons nlit nanil))))))))))) (by simp [plcs])) (show 3 < t.length by omega)
  have hw4:noEsc S4.length S4=true:=noEsc_dat hw
  have l4:S4.length=S.length + 1:=by simp [S4]
  have lowm:∀ x:SV,some x∈t4->blV S4.length x=true:=fun x hxm=>by
    rcases List.mem_or_eq_of_mem_set hxm with h | h
    . exact blV_mono (by omega) (lowT_at hlow h)
    . cases h; simp [blV,l4]
  have low4:lowT S4.length t4=true:=by
    unfold lowT
    refine List.all_eq_true.mpr fun x hxm=>?_
    cases x with
    | none=>rfl
    | some x=>exact lowm x hxm
  have t42:t4[2]?=some (some (.lc q)):=by rw [List.getElem?_set_ne (by decide)]; exact h2
  have t43:t4[3]?=some (some (.lc S.length)):=List.getElem?_set_self (by omega)
  have cs:compS t4 [("_law_some",2),("_law_places",3)]=[some (.lc q),some (.lc S.length)]:=by
    simp only [compS,List.map_cons,List.map_nil,List.getD_eq_getElem?_getD,t42,t43,Option.getD_some]
  have e2:=lcN_true (fr:=[("_law_some",2),("_law_places",3)]) (e:=nOp gEq (nCall (m_law_kinds ca) (naCons (nIx (nVar 1) (nVar 0)) naNil)) (nLst (naCons (nLit (.int 0)) (naCons (nLit (.int 1)) (naCons (nIx (nVar 2) (nVar 0)) naNil))))) hw4 low4 (List.range 11) [] (fun j hj=>by
    rw [cs]
    obtain ⟨Z,hZ⟩:=elt_is (ca:=ca) (S:=S4) (q:=q) (r:=S.length) (j:=j) (as:=as) (t:=[some (.pl (.int (j:Int))),some (.lc q),some (.lc S.length)]) (get_app hq) hl (fun k hk e he=>get_app (hx k hk e he)) get_new (List.mem_range.mp hj) rfl rfl rfl
    exact ⟨Z,_,hZ⟩)
  have e3:nLCR [("_law_some",2),("_law_places",3)] 11 (nOp gEq (nCall (m_law_kinds ca) (naCons (nIx (nVar 1) (nVar 0)) naNil)) (nLst (naCons (nLit (.int 0)) (naCons (nLit (.int 1)) (naCons (nIx (nVar 2) (nVar 0)) naNil))))) ⟨S4,t4⟩=some (.ok (.lc S4.length) ⟨S4++[some (.dat (.list (List.replicate 11 (.bool true))))],t4⟩):=by
    unfold nLCR
    rw [e2,Option.bind_some,cIf_pos (sz_lt (by decide))]
    rfl
  refine ⟨[some (Cl.dat (.list (plcs.map .int)))]++[some (.dat (.list (List.replicate 11 (.bool true))))],t4,?_⟩
  rw [← List.append_assoc]
  refine nseq_nx e1 (nret_ok (ncb_ok (nacons e3 nanil) (ds:=[.list (List.replicate 11 (.bool true))]) ?_ (gAll_rep 11)))
  have:=rc_lc (get_new (S:=S4) (c:=some (Cl.dat (.list (List.replicate 11 (.bool true))))))
  show (rdC (S4++[some (Cl.dat (.list (List.replicate 11 (.bool true))))]) (.lc S4.length)).bind _=_
  rw [this]
  rfl
end
section
variable {ca:CA} {S:List (Option Cl)}
theorem seq_two {a b:SN} {s s1 s2:SS} (h1:a s=some (.nx s1)) (h2:b s1=some (.nx s2)):nSeq a b s=some (.nx s2):=nseq_nx h1 h2
theorem made_is (c:Int) (h0 : 0≤c) (h1:c < 10 ^ 52) (hw:noEsc S.length S=true):m_law_made ca S [.pl (.int c)]=some (.ok (.pl (.bool true)) S):=by
  let S1:=S++[some (Cl.exc "Overdrawn" (some c))]
  let t1:List (Option SV):=[some (.pl (.int c)),some (.lc S.length),none,none]
  have hz:c.natAbs.log2 < 1920:=log_lt h0 (by omega)
  have a1:nAsg (nMkI "Overdrawn" (naCons (nVar 0) naNil)) (ngN 1) ⟨S,[some (.pl (.int c)),none,none,none]⟩=some (.nx ⟨S1,t1⟩):=by
    refine nasg_n (s':=⟨S1,[some (.pl (.int c)),none,none,none]⟩) (x:=.lc S.length) ?_ (by simp)
    unfold nMkI
    rw [bN_ok (nacons (x:=.pl (.int c)) (nvar_ok rfl) nanil)]
    dsimp only
    rw [if_pos hz]
  have ks:=kinds_is (ca:=ca) (S:=S1) (k:=S.length) (c:="Overdrawn") (n:=some c) get_new (by decide +kernel)
  let Y:List (Option Cl):=kX (kB (plc "Overdrawn"))++[some (.dat (.list (([0,1,(plc "Overdrawn":Int)]:List Int).map .int)))]
  let S2:=S1++Y
  have eY:S1++kX (kB (plc "Overdrawn"))++[some (.dat (.list (([0,1,(plc "Overdrawn":Int)]:List Int).map .int)))]=S2:=by simp only [S2,Y,List.append_assoc]
  rw [eY] at ks
  let S3:=S2++[some (Cl.dat (.list [.int 0,.int 1,.int 3]))]
  have k1:nCall (m_law_kinds ca) (naCons (nVar 1) naNil) ⟨S1,t1⟩=some (.ok (.lc (S1.length + 9)) ⟨S2,t1⟩):=ncall_ok (nacons (nvar_ok rfl) nanil) ks
  have k2:nLst (naCons (nLit (.int 0)) (naCons (nLit (.int 1)) (naCons (nLit (.int 3)) naNil))) ⟨S2,t1⟩=some (.ok (.lc S2.length) ⟨S3,t1⟩):=nlst_ok (nacons nlit (nacons nlit (nacons nlit nanil))) (by simp)
  have a9:S2[S1.length + 9]?=some (some (.dat (.list (([0,1,(plc "Overdrawn":Int)]:List Int).map .int)))):=by
    show (S1++Y)[S1.length + 9]?=_
    rw [List.getElem?_append_right (by omega),show S1.length + 9 - S1.length=9 by omega]
    rfl
  have k3:nTest (nOp gNe (nCall (m_law_kinds ca) (naCons (nVar 1) naNil)) (nLst (naCons (nLit (.int 0)) (naCons (nLit (.int 1)) (naCons (nLit (.int 3)) naNil))))) ⟨S1,t1⟩=some (.ok false ⟨S3,t1⟩) :=
    ntest_ok (nop_ok k1 k2 (rc_lc (get_app a9)) (rc_lc get_new) ((gNe_ints [0,1,(plc "Overdrawn":Int)] [0,1,3]).trans (by rw [show decide (([0,1,(plc "Overdrawn":Int)]:List Int)=[0,1,3])=true by decide +kernel]; rfl)))
  have x3:S3[S.length]?=some (some (.exc "Overdrawn" (some c))):=get_app (get_app get_new)
  have f3:nFldX (fun c=>decide (c = "Overdrawn")) (nVar 1) ⟨S3,t1⟩=some (.ok (.pl (.int c)) ⟨S3,t1⟩):=nfldX_ok (nvar_ok rfl) x3 (by decide +kernel)
  have k4:nNot (nTest (nCallO m_law_whole (naCons (nFldX (fun c=>decide (c = "Overdrawn")) (nVar 1)) naNil))) ⟨S3,t1⟩=some (.ok false ⟨S3,t1⟩):=nnot_ok (b:=true) (ntest_ok (ncallO_ok (nacons f3 nanil) rfl (whole c)))
  have k5:nTest (nOp gNe (nFldX (fun c=>decide (c = "Overdrawn")) (nVar 1)) (nVar 0)) ⟨S3,t1⟩=some (.ok false ⟨S3,t1⟩):=ntest_ok (nop_ok f3 (nvar_ok rfl) rc_pl rc_pl ((gNe_int c c).trans (by rw [decide_eq_true rfl]; rfl)))
  have l3:S3=S++([some (Cl.exc "Overdrawn" (some c))]++Y++[some (Cl.dat (.list [.int 0,.int 1,.int 3]))]):=by simp only [S3,S2,S1,List.append_assoc]
  have w3:noEsc S3.length S3=true:=by
    rw [l3]
    refine noEsc_appX hw ?_
    rfl
  have lt3:S.length < S3.length:=by rw [l3]; simp
  obtain ⟨X,q,as,p1,p2,p3,p4,p5,s4,m1,m2⟩:=two_mk (w:=false) (c:="NoNumber") (d:="NotLess") (cs:=["Empty","NoThing","Lacking","AtTop","NoPlace","Mixed","NoName","Twice"]) (ds:=["NoRow"]) (S:=S3) (t:=t1) (by simp [t1]) (by simp) (by simp) w3
  let t5:List (Option SV):=[some (.pl (.int c)),some (.lc S.length),some (.lc q),none]
  have low5:∀ (X:List (Option Cl)) (q:Nat),q < (S3++X).length->lowT (S3++X).length [some (.pl (.int c)),some (.lc S.length),some (.lc q),none]=true:=fun X q hq=>by
    have:S.length < (S3++X).length:=by rw [List.length_append]; omega
    simp only [lowT,List.all_cons,List.all_nil,blV,decide_eq_true hq,decide_eq_true this,Bool.and_self]
  have fin:∀ {Z:List (Option Cl)} {t:List (Option SV)},b_law_made ca ⟨S,[some (.pl (.int c)),none,none,none]⟩=some (.rt (.pl (.bool true)) ⟨S3++Z,t⟩)->m_law_made ca S [.pl (.int c)]=some (.ok (.pl (.bool true)) S):=fun {Z t} hx=>by
    refine fnS_ok rfl (o:=.rt (.pl (.bool true)) ⟨S3++Z,t⟩) hx ?_
    rw [l3,List.append_assoc]
    simp only [retS,blV,if_true,fS_app hw]
  have c5:nTo (mTest (mOp gEq (mOp gMod (mVar 0) (mC (.int 2))) (mC (.int 1)))) ⟨S3++X,t5⟩=some (.ok (decide (c % 2=1)) ⟨S3++X,t5⟩):=nto_ok ((be_eq (ie_mod (ie_var (vw_pl rfl)) ie_c (by decide)) ie_c).t)
  by_cases e2:c % 2=1
  . rw [decide_eq_true e2] at c5
    obtain ⟨X',q',as',r1,r2,r3,r4,r5,s6,n1,n2⟩:=two_mk (w:=true) (c:="NoNumber") (d:="NoName") (cs:=["Empty","NoThing","Lacking","AtTop","NoPlace","Mixed"]) (ds:=["Twice","NotLess","NoRow"]) (S:=S3++X) (t:=t5) (by simp [t5]) (by simp) (by simp) p1
    rw [List.append_assoc S3 X X'] at r1 r2 r5
    obtain ⟨Z,t',hf⟩:=all_is (ca:=ca) (q:=q') (as:=as') (t:=[some (.pl (.int c)),some (.lc S.length),some (.lc q'),none]) r1 r2 r3 (fun k hk e he=>by rw [← List.append_assoc S3 X X']; exact r4 k hk e he) rfl rfl (low5 _ _ r5)
    have n2':nAsg (nAddL (nVar 2) (nLst (mkXs true ["NoName","Twice","NotLess","NoRow"]))) (ngN 2) s6=some (.nx ⟨S3++(X++X'),[some (.pl (.int c)),some (.lc S.length),some (.lc q'),none]⟩):=by rw [← List.append_assoc S3 X X']; exact n2
    rw [List.append_assoc S3 (X++X') Z] at hf
    exact fin (nseq_nx a1 (nseq_nx (nif_f (nor_f k3 (nor_f k4 k5)) rfl) (nseq_nx m1 (nseq_nx m2 (nseq_nx (nif_t c5 (seq_two n1 n2')) hf)))))
  . rw [decide_eq_false e2] at c5
    obtain ⟨Z,t',hf⟩:=all_is (ca:=ca) (q:=q) (as:=as) (t:=t5) p1 p2 p3 p4 rfl rfl (low5 _ _ p5)
    rw [List.append_assoc S3 X Z] at hf
    exact fin (nseq_nx a1 (nseq_nx (nif_f (nor_f k3 (nor_f k4 k5)) rfl) (nseq_nx m1 (nseq_nx m2 (nseq_nx (nif_f c5 rfl) hf)))))
end
def cell (ns:List Int) (k:Nat):Int:=ns.getD k 0
theorem cell_at (ns:List Int) (k:Nat):m_law_cell_at [.list (ns.map .int),.int k]=some (.int (cell ns k),false):=by
  have ll:=gLen_ints ns
  by_cases h:k < ns.length
  . have c:(k:Int) < (ns.length:Int):=Int.ofNat_lt.mpr h
    have g:gIx (.list (ns.map .int)) (.int (k:Int))=some (.int (cell ns k),false):=by
      show (L2.atI (ns.map PyData.int) (k:Int)).map (fun d=>(d,false))=_
      unfold cell
      rw [Mir.atI_nat,List.getElem?_map,List.getElem?_eq_getElem h,List.getD_eq_getElem?_getD,List.getElem?_eq_getElem h]
      rfl
    generalize (k:Int)=kk at *
    generalize (ns.length:Int)=n at *
    generalize PyData.list (ns.map .int)=S at *
    exact fn_of (o:=.rt (.int (cell ns k),.fz) [.fz S,.fz (.int kk)]) rfl (seq_rt (if_t (tstB (be_lt (ie_var rfl) (cb_ev (rs:=[(S,.fz)]) (res:=(.int n,false)) rfl ll)) (decide_eq_true c)) (ret_eq (op_ev (r:=(.int kk,.fz)) (res:=(.int (cell ns k),false)) (sv_fz (var_fz rfl)) (sv_fz (var_fz rfl)) g)))) rfl
  . have c : ¬ (k:Int) < (ns.length:Int):=fun z=>h (Int.ofNat_lt.mp z)
    have e:cell ns k=0:=by
      unfold cell
      rw [List.getD_eq_getElem?_getD,List.getElem?_eq_none (Nat.le_of_not_lt h)]
      rfl
    rw [e]
    generalize (k:Int)=kk at *
    generalize (ns.length:Int)=n at *
    generalize PyData.list (ns.map .int)=S at *
    exact fn_of (o:=.rt (.int 0,.fz) [.fz S,.fz (.int kk)]) rfl (seq_nx (ρ1:=[.fz S,.fz (.int kk)]) (if_f (tstB (be_lt (ie_var rfl) (cb_ev (rs:=[(S,.fz)]) (res:=(.int n,false)) rfl ll)) (decide_eq_false c)) rfl) (ret_eq ie_c)) rfl
theorem nasg_ie {m:PM} {i:Nat} {s:SS} {v:Int} (h:IE m (vw s) v) (hi:i < s.t.length):nAsg (nO m) (ngN i) s=some (.nx ⟨s.S,s.t.set i (some (.pl (.int v)))⟩):=nasg_n (no_ie h) hi
section
variable {ca:CA}
def O1 (ca:CA):List (Option Cl):=[some (.obj ca.Ledger [("rows",.lc 1)]),some (.dat (.list []))]
theorem init1 {t:List (Option SV)}:nMake ca.Ledger (m_Ledger_init ca) naNil ⟨[],t⟩=some (.ok (.lc 0) ⟨O1 ca,t⟩):=by
  have hi:m_Ledger_init ca [some (.obj ca.Ledger [])] [.lc 0]=some (.ok (.pl .none) (O1 ca)):=by
    refine fnS_ok rfl (o:=.nx ⟨O1 ca,[some (.lc 0)]⟩) ?_ rfl
    show nSetF ca.Ledger (nVar 0) (nLst naNil) "rows" _=_
    unfold nSetF
    rw [bS_ok nlst0,bS_ok (nvar_ok (x:=.lc 0) rfl)]
    simp [objAt,putFS,O1]
  unfold nMake
  rw [bN_ok nanil]
  show (match m_Ledger_init ca [some (.obj ca.Ledger [])] [.lc 0] with
    | some (.ok (.pl .none) S')=>some (RR.ok (SV.lc 0) ⟨S',t⟩)
    | some (.er x S')=>some (RR.er x ⟨S',t⟩)
    | _=>none)=_
  rw [hi]
def St (ca:CA) (l:List Ent):List (Option Cl):=[some (.obj ca.Ledger [("rows",.lc 1)]),some (.dat (rD l)),some (.dat (rD l))]
structure Bk (n:Nat) (l:List Ent):Prop where
  z:l.length≤n
  k:∀ e∈l,PyData.strOk e.w=true
  a0 : 0≤lastB l
  a1:lastB l≤n * 10 ^ 50
theorem bk_nil:Bk 0 []:=⟨Nat.le_refl _,(fun e he=>by cases he),Int.le_refl _,by decide⟩
theorem led {n:Nat} {l:List Ent} (h:Bk n l) (hn:n≤3):Led ca (St ca l) 0 1 l:=⟨rfl,rfl,rfl,Nat.le_trans h.z (by omega),h.k⟩
def lT (Sc:SV) (a:Int) (x4 x5 x6 x7:Option SV):List (Option SV):=[some Sc,some (.lc 0),some (.lc 2),some (.pl (.int a)),x4,x5,x6,x7]
theorem turn2 (ns:List Int) {n:Nat} {l:List Ent} (h:Bk n l) (hn:n < 3) (k:Nat) (hk:k < 4) (x5 x6:Option SV) :
    ∃ l' p b,Bk (n + 1) l'∧lb2_law ca ⟨St ca l,lT (.pl (.list (ns.map .int))) (lastB l) (some (.pl (.int (k:Int)))) x5 x6 none⟩=some (.nx ⟨St ca l',lT (.pl (.list (ns.map .int))) (lastB l') (some (.pl (.int (k:Int)))) (some (.pl (.int p))) (some (.pl (.int b))) none⟩):=by
  let Sc:SV:=.pl (.list (ns.map .int))
  let c1:=cell ns 1
  let c2:=cell ns 2
  have d1:CDiv c1 ((k:Int) + 1):=⟨by omega,by omega⟩
  have d2:CDiv c2 ((k:Int) + 1):=⟨by omega,by omega⟩
  have h50:(0:Int) < 10 ^ (50:Int).toNat:=by decide
  let p:Int:=c1 / ((k:Int) + 1) % 10 ^ (50:Int).toNat
  have p0 : 0≤p:=Int.emod_nonneg _ (Int.ne_of_gt h50)
  have p1:p < 10 ^ (50:Int).toNat:=Int.emod_lt_of_pos _ h50
  have p1':p < 10 ^ 50:=p1
  let A:=lastB l
  have a0 : 0≤A:=h.a0
  have hm:(0:Int) < A + p + 1:=by omega
  let b:Int:=c2 / ((k:Int) + 1) % (A + p + 1)
  have b0 : 0≤b:=Int.emod_nonneg _ (Int.ne_of_gt hm)
  have b1:b < A + p + 1:=Int.emod_lt_of_pos _ hm
  have ce:∀ (s:SS) (q:Nat),s.t[0]?=some (some Sc)->IE (mCall m_law_cell_at (mCons (mVar 0) (mCons (mC (.int (q:Int))) mNil))) (vw s) (cell ns q):=fun s q hs =>
    call_pure (rs:=[(.list (ns.map .int),.fz),(.int (q:Int),.fz)]) (cons_fz (sv_fz (var_fz (vw_pl hs))) (consI ie_c nil_ev)) (cell_at ns q) rfl
  have e1:=nasg_ie (i:=5) (s:=⟨St ca l,lT Sc A (some (.pl (.int (k:Int)))) x5 x6 none⟩) (ie_mod (ie_div (ce _ 1 rfl) (ie_add (ie_var (vw_pl (k:=4) rfl)) (ie_c (i:=1))) d1) (ie_pow (ie_c (i:=10)) (ie_c (i:=50)) ⟨by decide,by decide,by decide⟩) h50) (by simp [lT])
  have e2:=nasg_ie (i:=6) (s:=⟨St ca l,lT Sc A (some (.pl (.int (k:Int)))) (some (.pl (.int p))) x6 none⟩) (ie_mod (ie_div (ce _ 2 rfl) (ie_add (ie_var (vw_pl (k:=4) rfl)) (ie_c (i:=1))) d2) (ie_add (ie_add (ie_var (vw_pl (k:=3) rfl)) (ie_var (vw_pl (k:=5) rfl))) (ie_c (i:=1))) hm) (by simp [lT])
  have hL:Led ca (St ca l) 0 1 l:=led h (by omega)
  let e:Ent:=⟨"begun",0,p,A,b⟩
  have en:=enter_ok (ca:=ca) hL "begun" 0 p b (.int b) (Int.le_refl _) p0 b0 (.inl rfl) (show 0 + b≤lastB l + p by show 0 + b≤A + p; omega)
  let t3:List (Option SV):=lT Sc A (some (.pl (.int (k:Int)))) (some (.pl (.int p))) (some (.pl (.int b))) none
  let S3:List (Option Cl):=[some (.obj ca.Ledger [("rows",.lc 1)]),some (.dat (rD (l++[e]))),some (.dat (rD l))]
  have e3:nDrop (nMeth ca.Ledger "enter" (m_Ledger_enter ca) [] (nVar 1) (naCons (nLit (.str "begun")) (naCons (nLit (.int 0)) (naCons (nVar 5) (naCons (nVar 6) naNil))))) ⟨St ca l,t3⟩=some (.nx ⟨S3,t3⟩):=ndrop_ok (nmeth_ok (nvar_ok rfl) hL.o rfl (nacons nlit (nacons nlit (nacons (nvar_ok rfl) (nacons (nvar_ok rfl) nanil)))) en)
  have tp:nTup (naCons (nLit (.str "begun")) (naCons (nLit (.int 0)) (naCons (nVar 5) (naCons (nVar 3) (naCons (nVar 6) naNil))))) ⟨S3,t3⟩=some (.ok (.pl (eD e)) ⟨S3,t3⟩):=ntup_pl (nacons nlit (nacons nlit (nacons (nvar_ok rfl) (nacons (nvar_ok rfl) (nacons (nvar_ok rfl) nanil))))) rfl (by simp)
  have e4:nDrop (nApp (nVar 2) (naCons (nTup (naCons (nLit (.str "begun")) (naCons (nLit (.int 0)) (naCons (nVar 5) (naCons (nVar 3) (naCons (nVar 6) naNil)))))) naNil)) ⟨S3,t3⟩=some (.nx ⟨St ca (l++[e]),t3⟩):=by
    refine ndrop_ok (x:=.pl .none) ?_
    have:=napp_pl (a:=nVar 2) (s:=⟨S3,t3⟩) (nvar_ok (x:=.lc 2) rfl) (show S3[2]?=some (some (.dat (.list (l.map eD)))) from rfl) (nacons tp nanil) (show S3[2]?=some (some (.dat (.list (l.map eD)))) from rfl) (by have:=h.z; simp; omega)
    refine this.trans ?_
    simp [S3,St,rD]
  have lb:lastB (l++[e])=b:=by simp [lastB,e]
  refine ⟨l++[e],p,b,⟨by simpa using h.z,fun x hx=>?_,by rw [lb]; exact b0,?_⟩,?_⟩
  . rcases List.mem_append.mp hx with hx | hx
    . exact h.k x hx
    . simp only [List.mem_singleton] at hx; subst hx; show PyData.strOk "begun" = true; decide +kernel
  . rw [lb]
    have:=h.a1
    have hA:A≤(n:Int) * 10 ^ 50:=this
    have:((n + 1:Nat):Int) * 10 ^ 50=(n:Int) * 10 ^ 50 + 10 ^ 50:=by rw [Int.natCast_add,Int.add_mul]; rfl
    omega
  . rw [lb]
    exact nseq_nx e1 (nseq_nx e2 (nseq_nx e3 (nseq_nx e4 (nasg_n (nvar_ok rfl) (by simp [t3,lT])))))
theorem cut_ints (ns:List Int) (lo hi:Option Int):∃ cs:List Int,cutD (ns.map .int) lo hi=cs.map .int∧cs.length≤ns.length:=by
  unfold cutD
  exact ⟨(ns.drop (HT.sIx (ns.map PyData.int).length 0 lo)).take (HT.sIx (ns.map PyData.int).length (ns.map PyData.int).length hi - HT.sIx (ns.map PyData.int).length 0 lo),by rw [List.map_take,List.map_drop],by rw [List.length_take,List.length_drop]; omega⟩
theorem turn1 {l:List Ent} {n:Nat} (h:Bk n l) (hn:n≤3) (Sc:SV) (cs:List D) (c:Int) (x4 x5 x6:Option SV) :
    lb1_law ca ⟨St ca l++[some (.dat (.list cs))],lT Sc (lastB l) x4 x5 x6 (some (.pl (.int c)))⟩=some (.nx ⟨St ca l++[some (.dat (.list cs))]++[some (.dat (rD l))],lT Sc (lastB l) x4 x5 x6 (some (.pl (.int c)))⟩):=by
  have hL:Led ca (St ca l++[some (.dat (.list cs))]) 0 1 l:=(led h hn).app _
  have hL2:Led ca (St ca l++[some (.dat (.list cs))]++[some (.dat (rD l))]) 0 1 l:=hL.app _
  have a1:lastB l < 10 ^ 52:=by
    have:=h.a1
    have:(n:Int)≤3:=by omega
    have h2:(n:Int) * 10 ^ 50≤3 * 10 ^ 50:=Int.mul_le_mul_of_nonneg_right this (by decide)
    omega
  have rf:=refused_is (ca:=ca) hL c h.a0 a1
  let t:=lT Sc (lastB l) x4 x5 x6 (some (.pl (.int c)))
  have k1:nCall (m_law_refused ca) (naCons (nVar 1) (naCons (nVar 7) (naCons (nVar 3) naNil))) ⟨St ca l++[some (.dat (.list cs))],t⟩=some (.ok (.pl (.bool true)) ⟨St ca l++[some (.dat (.list cs))],t⟩):=ncall_ok (nacons (nvar_ok rfl) (nacons (nvar_ok rfl) (nacons (nvar_ok rfl) nanil))) rf
  have k2:nTest (nOp gNe (nMeth ca.Ledger "entries" (m_Ledger_entries ca) [] (nVar 1) naNil) (nVar 2)) ⟨St ca l++[some (.dat (.list cs))],t⟩=some (.ok false ⟨St ca l++[some (.dat (.list cs))]++[some (.dat (rD l))],t⟩) :=
    ntest_ok (nop_ok (s1:=⟨St ca l++[some (.dat (.list cs))]++[some (.dat (rD l))],t⟩) (nmeth_ok (nvar_ok rfl) hL.o rfl nanil (entries_is hL)) (nvar_ok (x:=.lc 2) rfl) (rc_lc get_new) (rc_lc (d:=rD l) rfl) (ne_rows l h.k))
  have k3:nTest (nOp gNe (nMeth ca.Ledger "credit" (m_Ledger_credit ca) [] (nVar 1) naNil) (nVar 3)) ⟨St ca l++[some (.dat (.list cs))]++[some (.dat (rD l))],t⟩=some (.ok false ⟨St ca l++[some (.dat (.list cs))]++[some (.dat (rD l))],t⟩) :=
    ntest_ok (nop_ok (nmeth_ok (nvar_ok rfl) hL2.o rfl nanil (credit_is hL2)) (nvar_ok rfl) rc_pl rc_pl ((gNe_int (lastB l) (lastB l)).trans (by rw [decide_eq_true rfl]; rfl)))
  exact nseq_nx (nif_f (nnot_ok (b:=true) (ntest_ok k1)) rfl) (nif_f (nor_f k2 k3) rfl)
theorem loop1 {l:List Ent} {n:Nat} (h:Bk n l) (hn:n≤3) (Sc:SV) (hs:∃ d,Sc=.pl d) (cs:List D) {x4 x5 x6:Option SV} (hx:∀ x,x∈[x4,x5,x6]->x=none∨∃ d,x=some (.pl d)):∀ (q:List Int) (x7:Option SV),(x7=none∨∃ d,x7=some (.pl d))->∃ y7,forN (St ca l++[some (Cl.dat (.list cs))]).length [0,1,2,3,4,5,6] (stays (.lc 3) (cs.map .pl)) (ngN 7) (lb1_law ca) ((q.map PyData.int).map .pl) ⟨St ca l++[some (.dat (.list cs))],lT Sc (lastB l) x4 x5 x6 x7⟩=some (.nx ⟨St ca l++[some (.dat (.list cs))],lT Sc (lastB l) x4 x5 x6 y7⟩):=by
  have hL:Led ca (St ca l++[some (.dat (.list cs))]) 0 1 l:=(led h hn).app _
  have ok:∀ t,stays (.lc 3) (cs.map .pl) ⟨St ca l++[some (.dat (.list cs))],t⟩:=fun t=>rfl
  intro q
  induction q with
  | nil=>intro x7 _; exact ⟨x7,forG_nil (ok _)⟩
  | cons c q ih =>
    intro x7 hx7
    obtain ⟨y7,hf⟩:=ih (some (.pl (.int c))) (.inr ⟨_,rfl⟩)
    refine ⟨y7,forG_cons (ok _) (ngn_ok (by simp [lT])) (turn1 h hn Sc cs c x4 x5 x6) (gcE_low hL.w ?_) hf⟩
    obtain ⟨d,rfl⟩:=hs
    have low:∀ x,x∈[x4,x5,x6]->(match x with | some y=>blV (St ca l++[some (Cl.dat (.list cs))]).length y | none=>true)=true:=fun x hm=>by
      rcases hx x hm with rfl | ⟨d,rfl⟩
      . rfl
      . simp [blV]
    show lowT _ (lT (.pl d) (lastB l) x4 x5 x6 (some (.pl (.int c))))=true
    refine List.all_eq_true.mpr fun x hm=>?_
    have hm':x=some (.pl d)∨x=some (.lc 0)∨x=some (.lc 2)∨x=some (.pl (.int (lastB l)))∨x∈[x4,x5,x6]∨x=some (.pl (.int c)):=by simpa [lT,or_assoc] using hm
    rcases hm' with rfl | rfl | rfl | rfl | hm' | rfl
    . rfl
    . rfl
    . rfl
    . rfl
    . exact low x hm'
    . rfl
theorem law_true (ca:CA) (ns:List Int) (hl:ns.length≤63) (hb:∀ k∈ns,Builtin.Int.intBits k≤1048576):m_law ca [.list (ns.map .int)]=some (.bool true,false):=by
  let Sc:SV:=.pl (.list (ns.map .int))
  let t0:List (Option SV):=[some Sc,none,none,none,none,none,none,none]
  have ce:∀ (s:SS) (q:Nat),s.t[0]?=some (some Sc)->IE (mCall m_law_cell_at (mCons (mVar 0) (mCons (mC (.int (q:Int))) mNil))) (vw s) (cell ns q):=fun s q hs =>
    call_pure (rs:=[(.list (ns.map .int),.fz),(.int (q:Int),.fz)]) (cons_fz (sv_fz (var_fz (vw_pl hs))) (consI ie_c nil_ev)) (cell_at ns q) rfl
  have ceC:∀ (s:SS) (q:Nat),s.t[0]?=some (some Sc)->IE (mCall m_law_cell_at (mCons (mVar 0) (mCons (mC (.int (q:Int))) mNil))) (vwC s) (cell ns q):=fun s q hs =>
    call_pure (rs:=[(.list (ns.map .int),.fz),(.int (q:Int),.fz)]) (cons_fz (sv_fz (var_fz (vwC_pl hs))) (consI ie_c nil_ev)) (cell_at ns q) rfl
  have a1:nAsg (nMake ca.Ledger (m_Ledger_init ca) naNil) (ngN 1) ⟨[],t0⟩=some (.nx ⟨O1 ca,t0.set 1 (some (.lc 0))⟩):=nasg_n init1 (by simp [t0])
  have a2:nAsg (nLst naNil) (ngN 2) ⟨O1 ca,t0.set 1 (some (.lc 0))⟩=some (.nx ⟨St ca [],(t0.set 1 (some (.lc 0))).set 2 (some (.lc 2))⟩):=nasg_n nlst0 (by simp [t0])
  have a3:nAsg (nLit (.int 0)) (ngN 3) ⟨St ca [],(t0.set 1 (some (.lc 0))).set 2 (some (.lc 2))⟩=some (.nx ⟨St ca [],lT Sc 0 none none none none⟩):=nasg_n nlit (by simp [t0])
  let m:Nat:=(cell ns 0 % 4).toNat
  have hm:m < 4:=by have:=Int.emod_lt_of_pos (cell ns 0) (show (0:Int) < 4 by decide); omega
  have it:mRg1 (mCons (mOp gMod (mCall m_law_cell_at (mCons (mVar 0) (mCons (mC (.int 0)) mNil))) (mC (.int 4))) mNil) (vwC ⟨St ca [],lT Sc 0 none none none none⟩)=some (rngD 0 m,vwC ⟨St ca [],lT Sc 0 none none none none⟩):=by
    have:=Int.emod_nonneg (cell ns 0) (show (4:Int)≠0 by decide)
    exact rg1_eq (k:=.fz) (consI (ie_mod (ceC _ 0 rfl) (ie_c (i:=4)) (by decide)) nil_ev) ⟨by omega,by omega⟩
  have a4:∃ l x4 x5 x6,Bk m l∧(∀ x,x∈[x4,x5,x6]->x=none∨∃ d,x=some (SV.pl d))∧nFor [0,1,2,3,7] (mRg1 (mCons (mOp gMod (mCall m_law_cell_at (mCons (mVar 0) (mCons (mC (.int 0)) mNil))) (mC (.int 4))) mNil)) (ngN 4) (lb2_law ca) ⟨St ca [],lT Sc 0 none none none none⟩=some (.nx ⟨St ca l,lT Sc (lastB l) x4 x5 x6 none⟩):=by
    obtain ⟨s',hI,hF⟩:=forN_inv (n:=3) (kp:=[0,1,2,3,7]) (g:=ngN 4) (b:=lb2_law ca) (fun k s=>∃ l x4 x5 x6,Bk k l∧(∀ x,x∈[x4,x5,x6]->x=none∨∃ d,x=some (SV.pl d))∧s=⟨St ca l,lT Sc (lastB l) x4 x5 x6 none⟩)
      ((rngD 0 m).map .pl) 0 ⟨St ca [],lT Sc 0 none none none none⟩ ⟨[],none,none,none,bk_nil,(fun x hx=>by simp at hx; exact .inl hx),rfl⟩ fun i d s hi hI=>by
        obtain ⟨l,x4,x5,x6,hB,hx,rfl⟩:=hI
        rw [rngD_map,List.map_map,List.getElem?_map] at hi
        obtain ⟨k,hk1,hk2⟩:=Option.map_eq_some_iff.mp hi
        have hlt:=(List.getElem?_eq_some_iff.mp hk1).1
        rw [List.length_range] at hlt
        rw [List.getElem?_range hlt] at hk1
        cases hk1
        subst hk2
        obtain ⟨l',p,b,hB',ht⟩:=turn2 (ca:=ca) ns hB (by omega) i (by omega) x5 x6
        refine ⟨_,_,ngn_ok (by simp [lT]),ht,?_⟩
        refine ⟨l',some (.pl (.int (i:Int))),some (.pl (.int p)),some (.pl (.int b)),hB',(fun x hx=>?_),?_⟩
        . simp only [List.mem_cons,List.not_mem_nil,or_false] at hx
          rcases hx with rfl | rfl | rfl
          . exact .inr ⟨_,rfl⟩
          . exact .inr ⟨_,rfl⟩
          . exact .inr ⟨_,rfl⟩
        . exact gcE_same (S:=St ca l') rfl rfl
    obtain ⟨l,x4,x5,x6,hB,hx,rfl⟩:=hI
    have hk : 0 + ((rngD 0 m).map SV.pl).length=m:=by rw [rngD_map]; simp
    rw [hk] at hB
    exact ⟨l,x4,x5,x6,hB,hx,nfor_ok it hF⟩
  obtain ⟨l,x4,x5,x6,hB,hx,hF⟩:=a4
  obtain ⟨cs,hcs,hcl⟩:=cut_ints ns (some 3) (some 43)
  let s5:SS:=⟨St ca l,lT Sc (lastB l) x4 x5 x6 none⟩
  have sl:mSl gSl (mVar 0) (mPart (mC (.int 3))) (mPart (mC (.int 43))) (vw s5)=some ((.list (cs.map .int),.new),vw s5):=by
    have h0:(vw s5)[0]?=some (.fz (.list (ns.map .int))):=vw_pl rfl
    unfold mSl
    rw [sv_fz (var_fz h0),Option.bind_some,← hcs]
    rfl
  have ad:mOp gAdd (mLst (mCons (mC (.int 7)) mNil)) (mSl gSl (mVar 0) (mPart (mC (.int 3))) (mPart (mC (.int 43)))) (vw s5)=some ((.list ((7::cs).map .int),.new),vw s5):=by
    refine op_ev (res:=(.list ((7::cs).map .int),true)) (sv_new (lst_ev (rs:=[(.int 7,.fz)]) (ds:=[.int 7]) (consI ie_c nil_ev) rfl (by simp))) (sv_new sl) ?_
    exact gAdd_list [.int 7] (cs.map .int) (by simp; omega)
  have a5:nO (mOp gAdd (mLst (mCons (mC (.int 7)) mNil)) (mSl gSl (mVar 0) (mPart (mC (.int 3))) (mPart (mC (.int 43))))) s5=some (.ok (.lc 3) ⟨St ca l++[some (.dat (.list ((7::cs).map .int)))],lT Sc (lastB l) x4 x5 x6 none⟩):=no_new ad (pureR_ints (7::cs))
  obtain ⟨y7,hL1⟩:=loop1 (ca:=ca) hB (by omega) Sc ⟨_,rfl⟩ ((7::cs).map .int) hx (7::cs) none (.inl rfl)
  let S4:=St ca l++[some (Cl.dat (.list ((7::cs).map .int)))]
  have a6:nForL [0,1,2,3,4,5,6] (nO (mOp gAdd (mLst (mCons (mC (.int 7)) mNil)) (mSl gSl (mVar 0) (mPart (mC (.int 3))) (mPart (mC (.int 43)))))) (ngN 7) (lb1_law ca) s5=some (.nx ⟨S4,lT Sc (lastB l) x4 x5 x6 y7⟩):=by
    unfold nForL
    rw [bS_ok a5]
    dsimp only
    rw [show asTp S4 (.lc 3)=some (((7::cs).map PyData.int).map .pl) from rfl,Option.bind_some]
    exact hL1
  have h50:(0:Int) < 10 ^ (50:Int).toNat:=by decide
  have w4:noEsc S4.length S4=true:=noEsc_dat rfl
  have md:=made_is (ca:=ca) (S:=S4) (cell ns 1 % 10 ^ (50:Int).toNat) (Int.emod_nonneg _ (Int.ne_of_gt h50)) (by have:=Int.emod_lt_of_pos (cell ns 1) h50; exact Int.lt_trans this (by decide)) w4
  have a7:nCall (m_law_made ca) (naCons (nO (mOp gMod (mCall m_law_cell_at (mCons (mVar 0) (mCons (mC (.int 1)) mNil))) (mOp gPow (mC (.int 10)) (mC (.int 50))))) naNil) ⟨S4,lT Sc (lastB l) x4 x5 x6 y7⟩=some (.ok (.pl (.bool true)) ⟨S4,lT Sc (lastB l) x4 x5 x6 y7⟩) :=
    ncall_ok (nacons (no_ie (ie_mod (ce _ 1 rfl) (ie_pow ie_c ie_c ⟨by decide,by decide,by decide⟩) h50)) nanil) md
  have all:b_law ca ⟨[],t0⟩=some (.rt (.pl (.bool true)) ⟨S4,lT Sc (lastB l) x4 x5 x6 y7⟩):=nseq_nx a1 (nseq_nx a2 (nseq_nx a3 (nseq_nx hF (nseq_nx a6 (nret_ok a7)))))
  show fnO 1 7 (b_law ca) [.list (ns.map .int)]=_
  unfold fnO
  rw [if_pos (show [PyData.list (ns.map .int)].length=1 from rfl)]
  show (b_law ca ⟨[],t0⟩).bind retO=_
  rw [all]
  rfl
end
end K14
set_option maxHeartbeats 4000000
set_option Elab.async false
set_option linter.all false
set_option maxRecDepth 100000
def PySem.W.Fast.tw7684381967209710082:Nat:=0
def PySem.W.Fast.tw9587072592898383100:Nat:=0
def PySem.W.Fast.tw3662352266838268497:Nat:=0
def PySem.W.Fast.tw16721467522908500950:Nat:=0
def PySem.W.Fast.tw5137959308182243376:Nat:=0
def PySem.W.Fast.tw13215556421646872961:Nat:=0
def PySem.W.Fast.tw5768205295431265519:Nat:=0
def PySem.W.Fast.tw8160553229369633217:Nat:=0
def PySem.W.Fast.tw12397465409843281821:Nat:=0
def PySem.W.Fast.tw569406733167260296:Nat:=0
def PySem.W.Fast.tw3004230940040618590:Nat:=0
def PySem.W.Fast.tw13670643577160421209:Nat:=0
def PySem.W.Fast.tw15679410658971873215:Nat:=0
namespace K14
open PySem L2 Mir
def top (i:Nat):Stmt:=PySem.Challenge.pw_creditworks_k14_what_is_refused.main.body.getD i (.Pass ⟨0,0,0,0⟩)
abbrev s_Ledger_init:Stmt:=inClass (top 18) 0
theorem sc_Ledger_init:FnScope ["self"] ["self"] (defScope s_Ledger_init):=⟨rfl,rfl,rfl,by decide +kernel,rfl,by decide +kernel,by decide +kernel⟩
abbrev s_law_kinds:Stmt:=top 23
theorem sc_law_kinds:FnScope ["_law_error","_law_told"] ["_law_error"] (defScope s_law_kinds):=⟨rfl,rfl,rfl,by decide +kernel,rfl,by decide +kernel,by decide +kernel⟩
abbrev s_law_whole:Stmt:=top 21
theorem sc_law_whole:FnScope ["_law_found"] ["_law_found"] (defScope s_law_whole):=⟨rfl,rfl,rfl,by decide +kernel,rfl,by decide +kernel,by decide +kernel⟩
abbrev s_law_made:Stmt:=top 26
theorem sc_law_made:FnScope ["_law_cell","_law_over","_law_some","_law_places"] ["_law_cell"] (defScope s_law_made):=⟨rfl,rfl,rfl,by decide +kernel,rfl,by decide +kernel,by decide +kernel⟩
abbrev s_Ledger_credit:Stmt:=inClass (top 18) 5
theorem sc_Ledger_credit:FnScope ["self"] ["self"] (defScope s_Ledger_credit):=⟨rfl,rfl,rfl,by decide +kernel,rfl,by decide +kernel,by decide +kernel⟩
abbrev s_is_count:Stmt:=top 2
theorem sc_is_count:FnScope ["value"] ["value"] (defScope s_is_count):=⟨rfl,rfl,rfl,by decide +kernel,rfl,by decide +kernel,by decide +kernel⟩
abbrev s_Ledger_enter:Stmt:=inClass (top 18) 1
theorem sc_Ledger_enter:FnScope ["self","word","steps","price","credit","ahead","behind","number","over"] ["self","word","steps","price","credit"] (defScope s_Ledger_enter):=⟨rfl,rfl,rfl,by decide +kernel,rfl,by decide +kernel,by decide +kernel⟩
abbrev s_law_cell_at:Stmt:=top 20
theorem sc_law_cell_at:FnScope ["_law_script","_law_k"] ["_law_script","_law_k"] (defScope s_law_cell_at):=⟨rfl,rfl,rfl,by decide +kernel,rfl,by decide +kernel,by decide +kernel⟩
abbrev s_law_try:Stmt:=top 24
theorem sc_law_try:FnScope ["_law_book","_law_steps","_law_price","_law_behind","_law_left","_law_told","_law_by","e"] ["_law_book","_law_steps","_law_price","_law_behind","_law_left"] (defScope s_law_try):=⟨rfl,rfl,rfl,by decide +kernel,rfl,by decide +kernel,by decide +kernel⟩
abbrev s_law_bad:Stmt:=top 22
theorem sc_law_bad:FnScope ["_law_cell","_law_some","_law_low","_law_things"] ["_law_cell","_law_some"] (defScope s_law_bad):=⟨rfl,rfl,rfl,by decide +kernel,rfl,by decide +kernel,by decide +kernel⟩
abbrev s_law_refused:Stmt:=top 25
theorem sc_law_refused:FnScope ["_law_book","_law_cell","_law_ahead","_law_rest","_law_price","_law_behind","_law_steps","_law_left","_law_told","_law_by"] ["_law_book","_law_cell","_law_ahead"] (defScope s_law_refused):=⟨rfl,rfl,rfl,by decide +kernel,rfl,by decide +kernel,by decide +kernel⟩
abbrev s_Ledger_entries:Stmt:=inClass (top 18) 2
theorem sc_Ledger_entries:FnScope ["self"] ["self"] (defScope s_Ledger_entries):=⟨rfl,rfl,rfl,by decide +kernel,rfl,by decide +kernel,by decide +kernel⟩
abbrev s_law:Stmt:=top 27
theorem sc_law:FnScope ["_law_script","_law_book","_law_rows","_law_ahead","_law_k","_law_price","_law_behind","_law_cell"] ["_law_script"] (defScope s_law):=⟨rfl,rfl,rfl,by decide +kernel,rfl,by decide +kernel,by decide +kernel⟩
def KC (ca:CA):List (Str × Addr):=[("NoNumber",ca.NoNumber),("Empty",ca.Empty),("NoThing",ca.NoThing),("Lacking",ca.Lacking),("AtTop",ca.AtTop),("NoPlace",ca.NoPlace),("Mixed",ca.Mixed),("NoName",ca.NoName),("Twice",ca.Twice),("NotLess",ca.NotLess),("NoRow",ca.NoRow),("Overdrawn",ca.Overdrawn)]
structure CF [Zl] (K:PySem.W.Frag) (mg:Str->Option Value) (ca:CA):Prop where
  cl_Ledger:Cls K ca.Ledger
  n_Ledger_rows:NoAttr K ca.Ledger "rows"
  zl_Overdrawn:Zl.cl "Overdrawn" = .ref ca.Overdrawn
  m_Overdrawn:mg "Overdrawn" = some (.ref ca.Overdrawn)
  xm_Overdrawn:PySem.W.exmOne K (.ref ca.Overdrawn) (.ref ca.Overdrawn)=some true
  xf_Overdrawn:ExcF K ca.Overdrawn "by"
  m_NoRow:mg "NoRow" = some (.ref ca.NoRow)
  zl_NoNumber:Zl.cl "NoNumber" = .ref ca.NoNumber
  k_NoNumber:ExcK K ca.NoNumber
  zl_Empty:Zl.cl "Empty" = .ref ca.Empty
  k_Empty:ExcK K ca.Empty
  zl_NoThing:Zl.cl "NoThing" = .ref ca.NoThing
  k_NoThing:ExcK K ca.NoThing
  zl_Lacking:Zl.cl "Lacking" = .ref ca.Lacking
  k_Lacking:ExcK K ca.Lacking
  zl_AtTop:Zl.cl "AtTop" = .ref ca.AtTop
  k_AtTop:ExcK K ca.AtTop
  zl_NoPlace:Zl.cl "NoPlace" = .ref ca.NoPlace
  k_NoPlace:ExcK K ca.NoPlace
  zl_Mixed:Zl.cl "Mixed" = .ref ca.Mixed
  k_Mixed:ExcK K ca.Mixed
  zl_NoName:Zl.cl "NoName" = .ref ca.NoName
  k_NoName:ExcK K ca.NoName
  zl_Twice:Zl.cl "Twice" = .ref ca.Twice
  k_Twice:ExcK K ca.Twice
  zl_NotLess:Zl.cl "NotLess" = .ref ca.NotLess
  k_NotLess:ExcK K ca.NotLess
  zl_NoRow:Zl.cl "NoRow" = .ref ca.NoRow
  k_NoRow:ExcK K ca.NoRow
  k_Overdrawn:ExcK K ca.Overdrawn
  ii_NoRow:isiAll K (.ref ca.NoRow) (KC ca) kt_NoRow=true
  m_NotLess:mg "NotLess" = some (.ref ca.NotLess)
  ii_NotLess:isiAll K (.ref ca.NotLess) (KC ca) kt_NotLess=true
  m_Twice:mg "Twice" = some (.ref ca.Twice)
  ii_Twice:isiAll K (.ref ca.Twice) (KC ca) kt_Twice=true
  m_NoName:mg "NoName" = some (.ref ca.NoName)
  ii_NoName:isiAll K (.ref ca.NoName) (KC ca) kt_NoName=true
  m_Mixed:mg "Mixed" = some (.ref ca.Mixed)
  ii_Mixed:isiAll K (.ref ca.Mixed) (KC ca) kt_Mixed=true
  m_NoPlace:mg "NoPlace" = some (.ref ca.NoPlace)
  ii_NoPlace:isiAll K (.ref ca.NoPlace) (KC ca) kt_NoPlace=true
  m_AtTop:mg "AtTop" = some (.ref ca.AtTop)
  ii_AtTop:isiAll K (.ref ca.AtTop) (KC ca) kt_AtTop=true
  m_Lacking:mg "Lacking" = some (.ref ca.Lacking)
  ii_Lacking:isiAll K (.ref ca.Lacking) (KC ca) kt_Lacking=true
  m_NoThing:mg "NoThing" = some (.ref ca.NoThing)
  ii_NoThing:isiAll K (.ref ca.NoThing) (KC ca) kt_NoThing=true
  m_Empty:mg "Empty" = some (.ref ca.Empty)
  ii_Empty:isiAll K (.ref ca.Empty) (KC ca) kt_Empty=true
  ii_Overdrawn:isiAll K (.ref ca.Overdrawn) (KC ca) kt_Overdrawn=true
  m_NoNumber:mg "NoNumber" = some (.ref ca.NoNumber)
  ii_NoNumber:isiAll K (.ref ca.NoNumber) (KC ca) kt_NoNumber=true
  m_CreditError:mg "CreditError" = some (.ref ca.CreditError)
  ii_CreditError:isiAll K (.ref ca.CreditError) (KC ca) kt_CreditError=true
  ii_ValueError:isiAll K (.type "ValueError") (KC ca) kt_ValueError=true
  x_NoRow:PySem.W.excIn K ca.NoRow bmV "ValueError.__new__" = true
  kp_NoRow:PySem.W.keepIn K (.ref ca.NoRow)=true
  x_NotLess:PySem.W.excIn K ca.NotLess bmV "ValueError.__new__" = true
  kp_NotLess:PySem.W.keepIn K (.ref ca.NotLess)=true
  x_Twice:PySem.W.excIn K ca.Twice bmV "ValueError.__new__" = true
  kp_Twice:PySem.W.keepIn K (.ref ca.Twice)=true
  x_NoName:PySem.W.excIn K ca.NoName bmV "ValueError.__new__" = true
  kp_NoName:PySem.W.keepIn K (.ref ca.NoName)=true
  x_Mixed:PySem.W.excIn K ca.Mixed bmV "ValueError.__new__" = true
  kp_Mixed:PySem.W.keepIn K (.ref ca.Mixed)=true
  x_NoPlace:PySem.W.excIn K ca.NoPlace bmV "ValueError.__new__" = true
  kp_NoPlace:PySem.W.keepIn K (.ref ca.NoPlace)=true
  x_AtTop:PySem.W.excIn K ca.AtTop bmV "ValueError.__new__" = true
  kp_AtTop:PySem.W.keepIn K (.ref ca.AtTop)=true
  x_Lacking:PySem.W.excIn K ca.Lacking bmV "ValueError.__new__" = true
  kp_Lacking:PySem.W.keepIn K (.ref ca.Lacking)=true
  x_NoThing:PySem.W.excIn K ca.NoThing bmV "ValueError.__new__" = true
  kp_NoThing:PySem.W.keepIn K (.ref ca.NoThing)=true
  x_Empty:PySem.W.excIn K ca.Empty bmV "ValueError.__new__" = true
  kp_Empty:PySem.W.keepIn K (.ref ca.Empty)=true
  x_NoNumber:PySem.W.excIn K ca.NoNumber bmV "ValueError.__new__" = true
  kp_NoNumber:PySem.W.keepIn K (.ref ca.NoNumber)=true
  h_NoNumber_CreditError:PySem.W.exmOne K (.ref ca.NoNumber) (.ref ca.CreditError)=some true
  h_Overdrawn_CreditError:PySem.W.exmOne K (.ref ca.Overdrawn) (.ref ca.CreditError)=some true
theorem kz [Zl] {K:PySem.W.Frag} {mg:Str->Option Value} {ca:CA} (cf:CF K mg ca):AllP (fun p:Str × Addr=>Zl.cl p.1=.ref p.2∧ExcK K p.2) (KC ca):=⟨⟨cf.zl_NoNumber,cf.k_NoNumber⟩,⟨cf.zl_Empty,cf.k_Empty⟩,⟨cf.zl_NoThing,cf.k_NoThing⟩,⟨cf.zl_Lacking,cf.k_Lacking⟩,⟨cf.zl_AtTop,cf.k_AtTop⟩,⟨cf.zl_NoPlace,cf.k_NoPlace⟩,⟨cf.zl_Mixed,cf.k_Mixed⟩,⟨cf.zl_NoName,cf.k_NoName⟩,⟨cf.zl_Twice,cf.k_Twice⟩,⟨cf.zl_NotLess,cf.k_NotLess⟩,⟨cf.zl_NoRow,cf.k_NoRow⟩,⟨cf.zl_Overdrawn,cf.k_Overdrawn⟩,trivial⟩
section
variable {P:Program} {w:World} {K:PySem.W.Frag} {mg:Str->Option Value} {base:Heap} {ca:CA} [zl:Zl]
def NoGl (mg:Str->Option Value):Prop:=∀ x∈(["ValueError","all","bool","int","isinstance","len","list","range"]:List Str),mg x=none
abbrev s_Overdrawn_init:Stmt:=inClass (top 6) 0
theorem sc_Overdrawn_init:FnScope ["self","by"] ["self","by"] (defScope s_Overdrawn_init):=⟨rfl,rfl,rfl,by decide +kernel,rfl,by decide +kernel,by decide +kernel⟩
theorem fi_Overdrawn {f Cc:Addr} {fd:FuncData} (F:Mem K "__init__" "Overdrawn.__init__" s_Overdrawn_init f fd []) (ZI:Exi K ca.Overdrawn f) (mc:mg "CreditError" = some (.ref Cc)) (hr:PySem.W.readsIn K Cc (.type "type")=true) (hf:PySem.W.findCls K (.ref Cc) (.type "type") "__init__" = some (.val (.builtin "ValueError.__init__"))) (hs:PySem.W.specialIn K (.ref Cc) "__getattribute__" = some (some (.builtin "type.__getattribute__"))):FnOk P w K mg base CX0 1 f fd ["self","by"] (spIni ca.Overdrawn):=by
  refine F.ok sc_Overdrawn_init (fun vs H Q E h=>spIni_len h) fun cdv A outer s H vs Q E hr2 h=>?_
  exact ⟨tIni ca.Overdrawn,(pss_cons (ps_expr (pe_baseI ZI rfl mc hr hf hs (pa_cons (pv 0) (pa_cons (pe_fs pe_str (by decide) (pv 1)) pa_nil)))) (pss_one (ps_excF ZI (pv 0) (pv 1)))),ini_run h⟩
theorem fo_Ledger_init {f:Addr} {fd:FuncData} (Z:NoGl mg) (cf:CF K mg ca) (F:Mem K "__init__" "Ledger.__init__" s_Ledger_init f fd []) :FnOk P w K mg base CX0 1 f fd ["self"] (spQ (m_Ledger_init ca)):=by
  refine F.ok sc_Ledger_init (fun vs H Q E h=>spQ_len h) fun cdv A outer s H vs Q E hr h=>?_
  have hu:=hr.units
  exact ⟨_,(pss_one (ps_fldK (K:=K) rfl (pv 0) (pe_lst pa_nil))),
      fn_runQ (n:=1) (k:=0) (ns_fld cf.cl_Ledger cf.n_Ledger_rows ne_var (ne_lst na_nil)) rfl h⟩
theorem ok_law_kinds (Z:NoGl mg) (cf:CF K mg ca) (T:Top K mg "_law_kinds" s_law_kinds) :Def P w K mg base CX0 1 "_law_kinds" ["_law_error"] (spQ (m_law_kinds ca)):=by
  have z_range:mg "range" = none:=Z _ (by decide +kernel)
  have z_isinstance:mg "isinstance" = none:=Z _ (by decide +kernel)
  have z_ValueError:mg "ValueError" = none:=Z _ (by decide +kernel)
  refine T.def sc_law_kinds (fun vs H Q E h=>spQ_len h) (fun _ _ _ _ _ _ us hl=>match us,hl with | [_],_=>rfl) fun f cdv A outer s H vs Q E hr h=>?_
  have hu:=hr.units
  exact ⟨_,(pss_cons (ps_set (i:=1) sc_law_kinds.nd rfl (by first | exact Or.inl rfl | exact Or.inr rfl) (pe_lst (pa_cons (pe_callB (call_isiG (K:=K) rfl) rfl z_isinstance PyProof.Rows.boot_isinstance (pa_cons (pv 0) (pa_cons (pe_ty z_ValueError PyProof.Rows.Boot.«ValueError») pa_nil))) (pa_cons (pe_callB (call_isiG (K:=K) rfl) rfl z_isinstance PyProof.Rows.boot_isinstance (pa_cons (pv 0) (pa_cons (pe_glob (v:=.ref ca.CreditError) rfl cf.m_CreditError rfl) pa_nil))) (pa_cons (pe_callB (call_isiG (K:=K) rfl) rfl z_isinstance PyProof.Rows.boot_isinstance (pa_cons (pv 0) (pa_cons (pe_glob (v:=.ref ca.NoNumber) rfl cf.m_NoNumber rfl) pa_nil))) pa_nil)))))
      (pss_cons (ps_set (i:=1) sc_law_kinds.nd rfl (by first | exact Or.inl rfl | exact Or.inr rfl) (pe_op (op_addK (K:=K) rfl) (pv 1) (pe_lst (pa_cons (pe_callB (call_isiG (K:=K) rfl) rfl z_isinstance PyProof.Rows.boot_isinstance (pa_cons (pv 0) (pa_cons (pe_glob (v:=.ref ca.Overdrawn) rfl cf.m_Overdrawn rfl) pa_nil))) (pa_cons (pe_callB (call_isiG (K:=K) rfl) rfl z_isinstance PyProof.Rows.boot_isinstance (pa_cons (pv 0) (pa_cons (pe_glob (v:=.ref ca.Empty) rfl cf.m_Empty rfl) pa_nil))) (pa_cons (pe_callB (call_isiG (K:=K) rfl) rfl z_isinstance PyProof.Rows.boot_isinstance (pa_cons (pv 0) (pa_cons (pe_glob (v:=.ref ca.NoThing) rfl cf.m_NoThing rfl) pa_nil))) pa_nil))))))
      (pss_cons (ps_set (i:=1) sc_law_kinds.nd rfl (by first | exact Or.inl rfl | exact Or.inr rfl) (pe_op (op_addK (K:=K) rfl) (pv 1) (pe_lst (pa_cons (pe_callB (call_isiG (K:=K) rfl) rfl z_isinstance PyProof.Rows.boot_isinstance (pa_cons (pv 0) (pa_cons (pe_glob (v:=.ref ca.Lacking) rfl cf.m_Lacking rfl) pa_nil))) (pa_cons (pe_callB (call_isiG (K:=K) rfl) rfl z_isinstance PyProof.Rows.boot_isinstance (pa_cons (pv 0) (pa_cons (pe_glob (v:=.ref ca.AtTop) rfl cf.m_AtTop rfl) pa_nil))) (pa_cons (pe_callB (call_isiG (K:=K) rfl) rfl z_isinstance PyProof.Rows.boot_isinstance (pa_cons (pv 0) (pa_cons (pe_glob (v:=.ref ca.NoPlace) rfl cf.m_NoPlace rfl) pa_nil))) pa_nil))))))
      (pss_cons (ps_set (i:=1) sc_law_kinds.nd rfl (by first | exact Or.inl rfl | exact Or.inr rfl) (pe_op (op_addK (K:=K) rfl) (pv 1) (pe_lst (pa_cons (pe_callB (call_isiG (K:=K) rfl) rfl z_isinstance PyProof.Rows.boot_isinstance (pa_cons (pv 0) (pa_cons (pe_glob (v:=.ref ca.Mixed) rfl cf.m_Mixed rfl) pa_nil))) (pa_cons (pe_callB (call_isiG (K:=K) rfl) rfl z_isinstance PyProof.Rows.boot_isinstance (pa_cons (pv 0) (pa_cons (pe_glob (v:=.ref ca.NoName) rfl cf.m_NoName rfl) pa_nil))) (pa_cons (pe_callB (call_isiG (K:=K) rfl) rfl z_isinstance PyProof.Rows.boot_isinstance (pa_cons (pv 0) (pa_cons (pe_glob (v:=.ref ca.Twice) rfl cf.m_Twice rfl) pa_nil))) pa_nil))))))
      (pss_cons (ps_set (i:=1) sc_law_kinds.nd rfl (by first | exact Or.inl rfl | exact Or.inr rfl) (pe_op (op_addK (K:=K) rfl) (pv 1) (pe_lst (pa_cons (pe_callB (call_isiG (K:=K) rfl) rfl z_isinstance PyProof.Rows.boot_isinstance (pa_cons (pv 0) (pa_cons (pe_glob (v:=.ref ca.NotLess) rfl cf.m_NotLess rfl) pa_nil))) (pa_cons (pe_callB (call_isiG (K:=K) rfl) rfl z_isinstance PyProof.Rows.boot_isinstance (pa_cons (pv 0) (pa_cons (pe_glob (v:=.ref ca.NoRow) rfl cf.m_NoRow rfl) pa_nil))) pa_nil)))))
      (pss_one (ps_ret (pe_lc (fr:=[("_law_told",1)]) rfl ⟨rfl,rfl,rfl,rfl,rfl,rfl,by decide +kernel⟩ (pi_range1 rfl z_range (pa_cons pe_int pa_nil)) (fun _ _ _ _=>(pif_one (pt_val (pe_ix (ix_seqK (K:=K) rfl) (pv 1) (pv 0) (fun _ _=>rfl))))) (fun _ _ _ _=>(pv 0)))))))))),
      fn_runQ (n:=1) (k:=1) (ns_seq (ns_asg (ne_lst (na_cons (ne_isiL (l:=kt_ValueError) (c:=(.ty "ValueError")) (cv:=(.type "ValueError")) (fun u h=>h) (isiAll_get cf.ii_ValueError (kz cf))) (na_cons (ne_isiL (l:=kt_CreditError) (c:=(.ref ca.CreditError)) (cv:=(.ref ca.CreditError)) (fun u h=>h) (isiAll_get cf.ii_CreditError (kz cf))) (na_cons (ne_isiL (l:=kt_NoNumber) (c:=(.ref ca.NoNumber)) (cv:=(.ref ca.NoNumber)) (fun u h=>h) (isiAll_get cf.ii_NoNumber (kz cf))) na_nil)))) ng_name)
      (ns_seq (ns_asg (ne_op J_add ne_var (ne_lst (na_cons (ne_isiL (l:=kt_Overdrawn) (c:=(.ref ca.Overdrawn)) (cv:=(.ref ca.Overdrawn)) (fun u h=>h) (isiAll_get cf.ii_Overdrawn (kz cf))) (na_cons (ne_isiL (l:=kt_Empty) (c:=(.ref ca.Empty)) (cv:=(.ref ca.Empty)) (fun u h=>h) (isiAll_get cf.ii_Empty (kz cf))) (na_cons (ne_isiL (l:=kt_NoThing) (c:=(.ref ca.NoThing)) (cv:=(.ref ca.NoThing)) (fun u h=>h) (isiAll_get cf.ii_NoThing (kz cf))) na_nil))))) ng_name)
      (ns_seq (ns_asg (ne_op J_add ne_var (ne_lst (na_cons (ne_isiL (l:=kt_Lacking) (c:=(.ref ca.Lacking)) (cv:=(.ref ca.Lacking)) (fun u h=>h) (isiAll_get cf.ii_Lacking (kz cf))) (na_cons (ne_isiL (l:=kt_AtTop) (c:=(.ref ca.AtTop)) (cv:=(.ref ca.AtTop)) (fun u h=>h) (isiAll_get cf.ii_AtTop (kz cf))) (na_cons (ne_isiL (l:=kt_NoPlace) (c:=(.ref ca.NoPlace)) (cv:=(.ref ca.NoPlace)) (fun u h=>h) (isiAll_get cf.ii_NoPlace (kz cf))) na_nil))))) ng_name)
      (ns_seq (ns_asg (ne_op J_add ne_var (ne_lst (na_cons (ne_isiL (l:=kt_Mixed) (c:=(.ref ca.Mixed)) (cv:=(.ref ca.Mixed)) (fun u h=>h) (isiAll_get cf.ii_Mixed (kz cf))) (na_cons (ne_isiL (l:=kt_NoName) (c:=(.ref ca.NoName)) (cv:=(.ref ca.NoName)) (fun u h=>h) (isiAll_get cf.ii_NoName (kz cf))) (na_cons (ne_isiL (l:=kt_Twice) (c:=(.ref ca.Twice)) (cv:=(.ref ca.Twice)) (fun u h=>h) (isiAll_get cf.ii_Twice (kz cf))) na_nil))))) ng_name)
      (ns_seq (ns_asg (ne_op J_add ne_var (ne_lst (na_cons (ne_isiL (l:=kt_NotLess) (c:=(.ref ca.NotLess)) (cv:=(.ref ca.NotLess)) (fun u h=>h) (isiAll_get cf.ii_NotLess (kz cf))) (na_cons (ne_isiL (l:=kt_NoRow) (c:=(.ref ca.NoRow)) (cv:=(.ref ca.NoRow)) (fun u h=>h) (isiAll_get cf.ii_NoRow (kz cf))) na_nil)))) ng_name)
      (ns_ret (ne_o (me_lc (mi_rng1 (ma_cons me_int ma_nil)) (mt_tB (me_op J_ix me_var me_var)) me_var)))))))) rfl h⟩
theorem okh_law_kinds (Z:NoGl mg) (cf:CF K mg ca) (T:Top K mg "_law_kinds" s_law_kinds) :DefH P w K mg base 1 "_law_kinds" ["_law_error"] (spQ (m_law_kinds ca)):=by
  have z_range:mg "range" = none:=Z _ (by decide +kernel)
  have z_isinstance:mg "isinstance" = none:=Z _ (by decide +kernel)
  have z_ValueError:mg "ValueError" = none:=Z _ (by decide +kernel)
  refine T.defH sc_law_kinds (fun vs H Q E h=>spQ_len h) (fun _ _ _ _ _ _ us hl=>match us,hl with | [_],_=>rfl) fun f cdv A outer s H vs Q hr hx h=>?_
  have hu:=hr.units
  exact ⟨_,(pss_cons (ps_set (i:=1) sc_law_kinds.nd rfl (by first | exact Or.inl rfl | exact Or.inr rfl) (pe_lst (pa_cons (pe_callB (call_isiG (K:=K) rfl) rfl z_isinstance PyProof.Rows.boot_isinstance (pa_cons (pv 0) (pa_cons (pe_ty z_ValueError PyProof.Rows.Boot.«ValueError») pa_nil))) (pa_cons (pe_callB (call_isiG (K:=K) rfl) rfl z_isinstance PyProof.Rows.boot_isinstance (pa_cons (pv 0) (pa_cons (pe_glob (v:=.ref ca.CreditError) rfl cf.m_CreditError rfl) pa_nil))) (pa_cons (pe_callB (call_isiG (K:=K) rfl) rfl z_isinstance PyProof.Rows.boot_isinstance (pa_cons (pv 0) (pa_cons (pe_glob (v:=.ref ca.NoNumber) rfl cf.m_NoNumber rfl) pa_nil))) pa_nil)))))
      (pss_cons (ps_set (i:=1) sc_law_kinds.nd rfl (by first | exact Or.inl rfl | exact Or.inr rfl) (pe_op (op_addK (K:=K) rfl) (pv 1) (pe_lst (pa_cons (pe_callB (call_isiG (K:=K) rfl) rfl z_isinstance PyProof.Rows.boot_isinstance (pa_cons (pv 0) (pa_cons (pe_glob (v:=.ref ca.Overdrawn) rfl cf.m_Overdrawn rfl) pa_nil))) (pa_cons (pe_callB (call_isiG (K:=K) rfl) rfl z_isinstance PyProof.Rows.boot_isinstance (pa_cons (pv 0) (pa_cons (pe_glob (v:=.ref ca.Empty) rfl cf.m_Empty rfl) pa_nil))) (pa_cons (pe_callB (call_isiG (K:=K) rfl) rfl z_isinstance PyProof.Rows.boot_isinstance (pa_cons (pv 0) (pa_cons (pe_glob (v:=.ref ca.NoThing) rfl cf.m_NoThing rfl) pa_nil))) pa_nil))))))
      (pss_cons (ps_set (i:=1) sc_law_kinds.nd rfl (by first | exact Or.inl rfl | exact Or.inr rfl) (pe_op (op_addK (K:=K) rfl) (pv 1) (pe_lst (pa_cons (pe_callB (call_isiG (K:=K) rfl) rfl z_isinstance PyProof.Rows.boot_isinstance (pa_cons (pv 0) (pa_cons (pe_glob (v:=.ref ca.Lacking) rfl cf.m_Lacking rfl) pa_nil))) (pa_cons (pe_callB (call_isiG (K:=K) rfl) rfl z_isinstance PyProof.Rows.boot_isinstance (pa_cons (pv 0) (pa_cons (pe_glob (v:=.ref ca.AtTop) rfl cf.m_AtTop rfl) pa_nil))) (pa_cons (pe_callB (call_isiG (K:=K) rfl) rfl z_isinstance PyProof.Rows.boot_isinstance (pa_cons (pv 0) (pa_cons (pe_glob (v:=.ref ca.NoPlace) rfl cf.m_NoPlace rfl) pa_nil))) pa_nil))))))
      (pss_cons (ps_set (i:=1) sc_law_kinds.nd rfl (by first | exact Or.inl rfl | exact Or.inr rfl) (pe_op (op_addK (K:=K) rfl) (pv 1) (pe_lst (pa_cons (pe_callB (call_isiG (K:=K) rfl) rfl z_isinstance PyProof.Rows.boot_isinstance (pa_cons (pv 0) (pa_cons (pe_glob (v:=.ref ca.Mixed) rfl cf.m_Mixed rfl) pa_nil))) (pa_cons (pe_callB (call_isiG (K:=K) rfl) rfl z_isinstance PyProof.Rows.boot_isinstance (pa_cons (pv 0) (pa_cons (pe_glob (v:=.ref ca.NoName) rfl cf.m_NoName rfl) pa_nil))) (pa_cons (pe_callB (call_isiG (K:=K) rfl) rfl z_isinstance PyProof.Rows.boot_isinstance (pa_cons (pv 0) (pa_cons (pe_glob (v:=.ref ca.Twice) rfl cf.m_Twice rfl) pa_nil))) pa_nil))))))
      (pss_cons (ps_set (i:=1) sc_law_kinds.nd rfl (by first | exact Or.inl rfl | exact Or.inr rfl) (pe_op (op_addK (K:=K) rfl) (pv 1) (pe_lst (pa_cons (pe_callB (call_isiG (K:=K) rfl) rfl z_isinstance PyProof.Rows.boot_isinstance (pa_cons (pv 0) (pa_cons (pe_glob (v:=.ref ca.NotLess) rfl cf.m_NotLess rfl) pa_nil))) (pa_cons (pe_callB (call_isiG (K:=K) rfl) rfl z_isinstance PyProof.Rows.boot_isinstance (pa_cons (pv 0) (pa_cons (pe_glob (v:=.ref ca.NoRow) rfl cf.m_NoRow rfl) pa_nil))) pa_nil)))))
      (pss_one (ps_ret (pe_lcH (fr:=[("_law_told",1)]) hx ⟨rfl,rfl,rfl,rfl,rfl,rfl,by decide +kernel⟩ (pi_range1H rfl z_range (pa_cons pe_int pa_nil)) (fun _ _ _ _=>(pif_one (pt_val (pe_ix (ix_seqK (K:=K) rfl) (pv 1) (pv 0) (fun _ _=>rfl))))) (fun _ _ _ _=>(pv 0)))))))))),
      fn_runQ (n:=1) (k:=1) (ns_seq (ns_asg (ne_lst (na_cons (ne_isiL (l:=kt_ValueError) (c:=(.ty "ValueError")) (cv:=(.type "ValueError")) (fun u h=>h) (isiAll_get cf.ii_ValueError (kz cf))) (na_cons (ne_isiL (l:=kt_CreditError) (c:=(.ref ca.CreditError)) (cv:=(.ref ca.CreditError)) (fun u h=>h) (isiAll_get cf.ii_CreditError (kz cf))) (na_cons (ne_isiL (l:=kt_NoNumber) (c:=(.ref ca.NoNumber)) (cv:=(.ref ca.NoNumber)) (fun u h=>h) (isiAll_get cf.ii_NoNumber (kz cf))) na_nil)))) ng_name)
      (ns_seq (ns_asg (ne_op J_add ne_var (ne_lst (na_cons (ne_isiL (l:=kt_Overdrawn) (c:=(.ref ca.Overdrawn)) (cv:=(.ref ca.Overdrawn)) (fun u h=>h) (isiAll_get cf.ii_Overdrawn (kz cf))) (na_cons (ne_isiL (l:=kt_Empty) (c:=(.ref ca.Empty)) (cv:=(.ref ca.Empty)) (fun u h=>h) (isiAll_get cf.ii_Empty (kz cf))) (na_cons (ne_isiL (l:=kt_NoThing) (c:=(.ref ca.NoThing)) (cv:=(.ref ca.NoThing)) (fun u h=>h) (isiAll_get cf.ii_NoThing (kz cf))) na_nil))))) ng_name)
      (ns_seq (ns_asg (ne_op J_add ne_var (ne_lst (na_cons (ne_isiL (l:=kt_Lacking) (c:=(.ref ca.Lacking)) (cv:=(.ref ca.Lacking)) (fun u h=>h) (isiAll_get cf.ii_Lacking (kz cf))) (na_cons (ne_isiL (l:=kt_AtTop) (c:=(.ref ca.AtTop)) (cv:=(.ref ca.AtTop)) (fun u h=>h) (isiAll_get cf.ii_AtTop (kz cf))) (na_cons (ne_isiL (l:=kt_NoPlace) (c:=(.ref ca.NoPlace)) (cv:=(.ref ca.NoPlace)) (fun u h=>h) (isiAll_get cf.ii_NoPlace (kz cf))) na_nil))))) ng_name)
      (ns_seq (ns_asg (ne_op J_add ne_var (ne_lst (na_cons (ne_isiL (l:=kt_Mixed) (c:=(.ref ca.Mixed)) (cv:=(.ref ca.Mixed)) (fun u h=>h) (isiAll_get cf.ii_Mixed (kz cf))) (na_cons (ne_isiL (l:=kt_NoName) (c:=(.ref ca.NoName)) (cv:=(.ref ca.NoName)) (fun u h=>h) (isiAll_get cf.ii_NoName (kz cf))) (na_cons (ne_isiL (l:=kt_Twice) (c:=(.ref ca.Twice)) (cv:=(.ref ca.Twice)) (fun u h=>h) (isiAll_get cf.ii_Twice (kz cf))) na_nil))))) ng_name)
      (ns_seq (ns_asg (ne_op J_add ne_var (ne_lst (na_cons (ne_isiL (l:=kt_NotLess) (c:=(.ref ca.NotLess)) (cv:=(.ref ca.NotLess)) (fun u h=>h) (isiAll_get cf.ii_NotLess (kz cf))) (na_cons (ne_isiL (l:=kt_NoRow) (c:=(.ref ca.NoRow)) (cv:=(.ref ca.NoRow)) (fun u h=>h) (isiAll_get cf.ii_NoRow (kz cf))) na_nil)))) ng_name)
      (ns_ret (ne_o (me_lc (mi_rng1 (ma_cons me_int ma_nil)) (mt_tB (me_op J_ix me_var me_var)) me_var)))))))) rfl h⟩
theorem ok_law_whole (Z:NoGl mg) (T:Top K mg "_law_whole" s_law_whole) :Def P w K mg base CX0 1 "_law_whole" ["_law_found"] (spM m_law_whole):=by
  have z_bool:mg "bool" = none:=Z _ (by decide +kernel)
  have z_isinstance:mg "isinstance" = none:=Z _ (by decide +kernel)
  have z_int:mg "int" = none:=Z _ (by decide +kernel)
  refine T.def sc_law_whole (fun vs H Q E h=>spM_len h) (fun _ _ _ _ _ _ us hl=>match us,hl with | [_],_=>rfl) fun f cdv A outer s H vs Q E hr h=>?_
  have hu:=hr.units
  exact ⟨_,(pss_one (ps_ret (pe_and (pe_callB call_isi rfl z_isinstance PyProof.Rows.boot_isinstance (pa_cons (pv 0) (pa_cons (pe_ty z_int PyProof.Rows.boot_int) pa_nil))) (pe_one (pe_not (pe_callB call_isi rfl z_isinstance PyProof.Rows.boot_isinstance (pa_cons (pv 0) (pa_cons (pe_ty z_bool PyProof.Rows.boot_bool) pa_nil)))))))),
      fn_run (n:=1) (k:=0) (ms_ret (me_andV (me_isi me_var) (me_notV (me_isi me_var)))) rfl h⟩
theorem ok_law_made (Z:NoGl mg) (cf:CF K mg ca) (T:Top K mg "_law_made" s_law_made) {fI:Addr} {fdI:FuncData} (ZI_Overdrawn:Exi K ca.Overdrawn fI) (FI_Overdrawn:FnOk P w K mg base CX0 1 fI fdI ["self","by"] (spIni ca.Overdrawn)) (BI_Overdrawn:Binds K fdI ["self","by"] []) (D_law_kinds:Def P w K mg base CX0 1 "_law_kinds" ["_law_error"] (spQ (m_law_kinds ca))) (D_law_whole:Def P w K mg base CX0 1 "_law_whole" ["_law_found"] (spM m_law_whole)):Def P w K mg base CX0 3 "_law_made" ["_law_cell"] (spQ (m_law_made ca)):=by
  have z_range:mg "range" = none:=Z _ (by decide +kernel)
  have z_all:mg "all" = none:=Z _ (by decide +kernel)
  refine T.def sc_law_made (fun vs H Q E h=>spQ_len h) (fun _ _ _ _ _ _ us hl=>match us,hl with | [_],_=>rfl) fun f cdv A outer s H vs Q E hr h=>?_
  have hu:=hr.units
  exact ⟨_,(WSs.h (wss_cons (w_set (i:=1) sc_law_made.nd rfl (by first | exact Or.inl rfl | exact Or.inr rfl) (pe_exi ZI_Overdrawn FI_Overdrawn (hr.mono (by omega)) BI_Overdrawn rfl cf.m_Overdrawn (pa_cons (pv 0) pa_nil)))
      (wss_cons (w_if (PW.pt (pw_or (pt_cmpR (op_neK (K:=K) rfl hu) (pe_def D_law_kinds (hr.mono (by omega)) (pa_cons (pv 1) pa_nil)) (pe_lst (pa_cons pe_int (pa_cons pe_int (pa_cons pe_int pa_nil)))) (nomark _)) (pw_or (pt_not (pt_val (pe_def D_law_whole (hr.mono (by omega)) (pa_cons (pe_excG (K:=K) rfl (pv 1)) pa_nil)))) (pw_or1 (pt_cmpR (op_neK (K:=K) rfl hu) (pe_excG (K:=K) rfl (pv 1)) (pv 0) (nomark _))))))
      (wss_one (w_ret pe_bl))
      wss_nil)
      (wss_cons (w_set (i:=2) sc_law_made.nd rfl (by first | exact Or.inl rfl | exact Or.inr rfl) (pe_lst (pa_cons (pe_mkX0 cf.x_NoNumber cf.kp_NoNumber rfl cf.m_NoNumber) (pa_cons (pe_mkX0 cf.x_Empty cf.kp_Empty rfl cf.m_Empty) (pa_cons (pe_mkX0 cf.x_NoThing cf.kp_NoThing rfl cf.m_NoThing) (pa_cons (pe_mkX0 cf.x_Lacking cf.kp_Lacking rfl cf.m_Lacking) (pa_cons (pe_mkX0 cf.x_AtTop cf.kp_AtTop rfl cf.m_AtTop) (pa_cons (pe_mkX0 cf.x_NoPlace cf.kp_NoPlace rfl cf.m_NoPlace) (pa_cons (pe_mkX0 cf.x_Mixed cf.kp_Mixed rfl cf.m_Mixed) (pa_cons (pe_mkX0 cf.x_NoName cf.kp_NoName rfl cf.m_NoName) (pa_cons (pe_mkX0 cf.x_Twice cf.kp_Twice rfl cf.m_Twice) pa_nil)))))))))))
      (wss_cons (w_set (i:=2) sc_law_made.nd rfl (by first | exact Or.inl rfl | exact Or.inr rfl) (pe_op (op_addK (K:=K) rfl) (pv 2) (pe_lst (pa_cons (pe_mkX0 cf.x_NotLess cf.kp_NotLess rfl cf.m_NotLess) (pa_cons (pe_mkX0 cf.x_NoRow cf.kp_NoRow rfl cf.m_NoRow) pa_nil)))))
      (wss_cons (w_if (pt_cmpR (op_eqK (K:=K) rfl hu) (pe_op op_mod (pv 0) pe_int) pe_int (nomark _))
      (wss_cons (w_set (i:=2) sc_law_made.nd rfl (by first | exact Or.inl rfl | exact Or.inr rfl) (pe_lst (pa_cons (pe_mkX cf.x_NoNumber cf.kp_NoNumber rfl cf.m_NoNumber (pa_cons pe_str pa_nil)) (pa_cons (pe_mkX cf.x_Empty cf.kp_Empty rfl cf.m_Empty (pa_cons pe_str pa_nil)) (pa_cons (pe_mkX cf.x_NoThing cf.kp_NoThing rfl cf.m_NoThing (pa_cons pe_str pa_nil)) (pa_cons (pe_mkX cf.x_Lacking cf.kp_Lacking rfl cf.m_Lacking (pa_cons pe_str pa_nil)) (pa_cons (pe_mkX cf.x_AtTop cf.kp_AtTop rfl cf.m_AtTop (pa_cons pe_str pa_nil)) (pa_cons (pe_mkX cf.x_NoPlace cf.kp_NoPlace rfl cf.m_NoPlace (pa_cons pe_str pa_nil)) (pa_cons (pe_mkX cf.x_Mixed cf.kp_Mixed rfl cf.m_Mixed (pa_cons pe_str pa_nil)) pa_nil)))))))))
      (wss_one (w_set (i:=2) sc_law_made.nd rfl (by first | exact Or.inl rfl | exact Or.inr rfl) (pe_op (op_addK (K:=K) rfl) (pv 2) (pe_lst (pa_cons (pe_mkX cf.x_NoName cf.kp_NoName rfl cf.m_NoName (pa_cons pe_str pa_nil)) (pa_cons (pe_mkX cf.x_Twice cf.kp_Twice rfl cf.m_Twice (pa_cons pe_str pa_nil)) (pa_cons (pe_mkX cf.x_NotLess cf.kp_NotLess rfl cf.m_NotLess (pa_cons pe_str pa_nil)) (pa_cons (pe_mkX cf.x_NoRow cf.kp_NoRow rfl cf.m_NoRow (pa_cons pe_str pa_nil)) pa_nil)))))))))
      wss_nil)
      (wss_cons (w_set (i:=3) sc_law_made.nd rfl (by first | exact Or.inl rfl | exact Or.inr rfl) (pe_lst (pa_cons pe_int (pa_cons pe_int (pa_cons pe_int (pa_cons pe_int (pa_cons pe_int (pa_cons pe_int (pa_cons pe_int (pa_cons pe_int (pa_cons pe_int (pa_cons pe_int (pa_cons pe_int pa_nil)))))))))))))
      (wss_one (w_ret (pe_callB (call_allK (K:=K) rfl rfl) rfl z_all PyProof.Rows.boot_all (pa_cons (pe_lc (fr:=[("_law_some",2),("_law_places",3)]) rfl ⟨rfl,rfl,rfl,rfl,rfl,rfl,by decide +kernel⟩ (pi_range1 rfl z_range (pa_cons pe_int pa_nil)) (fun _ _ _ _=>pif_nil) (fun _ _ _ _=>(pe_cmpR (op_eqK (K:=K) rfl hu) (pe_def D_law_kinds (hr.mono (by omega)) (pa_cons (pe_ix (ix_seqK (K:=K) rfl) (pv 1) (pv 0) (fun _ _=>rfl)) pa_nil)) (pe_lst (pa_cons pe_int (pa_cons pe_int (pa_cons (pe_ix (ix_seqK (K:=K) rfl) (pv 2) (pv 0) (fun _ _=>rfl)) pa_nil)))) (nomark _)))) pa_nil))))))))))),
      fn_runQ (n:=1) (k:=3) (ns_seq (ns_asg (ne_mkI cf.zl_Overdrawn (na_cons ne_var na_nil)) ng_name)
      (ns_seq (ns_if (nt_or (nt_test (ne_op J_ne (ne_callQ (na_cons ne_var na_nil)) (ne_lst (na_cons (ne_lit fun _=>.int _) (na_cons (ne_lit fun _=>.int _) (na_cons (ne_lit fun _=>.int _) na_nil)))))) (nt_or (nt_not (nt_tB (ne_callO (na_cons (ne_fldX (P:=fun c=>decide (c = "Overdrawn")) (fun c h=>by obtain rfl:c = "Overdrawn":=of_decide_eq_true h; exact ⟨_,cf.zl_Overdrawn,cf.xf_Overdrawn⟩) ne_var) na_nil)))) (nt_test (ne_op J_ne (ne_fldX (P:=fun c=>decide (c = "Overdrawn")) (fun c h=>by obtain rfl:c = "Overdrawn":=of_decide_eq_true h; exact ⟨_,cf.zl_Overdrawn,cf.xf_Overdrawn⟩) ne_var) ne_var))))
      (ns_ret (ne_lit fun _=>.bl _))
      ns_next)
      (ns_seq (ns_asg (ne_lst (na_cons (ne_mkX cf.zl_NoNumber na_nil) (na_cons (ne_mkX cf.zl_Empty na_nil) (na_cons (ne_mkX cf.zl_NoThing na_nil) (na_cons (ne_mkX cf.zl_Lacking na_nil) (na_cons (ne_mkX cf.zl_AtTop na_nil) (na_cons (ne_mkX cf.zl_NoPlace na_nil) (na_cons (ne_mkX cf.zl_Mixed na_nil) (na_cons (ne_mkX cf.zl_NoName na_nil) (na_cons (ne_mkX cf.zl_Twice na_nil) na_nil)))))))))) ng_name)
      (ns_seq (ns_asg (ne_addL ne_var (ne_lst (na_cons (ne_mkX cf.zl_NotLess na_nil) (na_cons (ne_mkX cf.zl_NoRow na_nil) na_nil)))) ng_name)
      (ns_seq (ns_if (nt_o (mt_test (me_op J_eq (me_op J_I me_var me_int) me_int)))
      (ns_seq (ns_asg (ne_lst (na_cons (ne_mkX cf.zl_NoNumber (na_cons (ne_lit fun _=>.str _) na_nil)) (na_cons (ne_mkX cf.zl_Empty (na_cons (ne_lit fun _=>.str _) na_nil)) (na_cons (ne_mkX cf.zl_NoThing (na_cons (ne_lit fun _=>.str _) na_nil)) (na_cons (ne_mkX cf.zl_Lacking (na_cons (ne_lit fun _=>.str _) na_nil)) (na_cons (ne_mkX cf.zl_AtTop (na_cons (ne_lit fun _=>.str _) na_nil)) (na_cons (ne_mkX cf.zl_NoPlace (na_cons (ne_lit fun _=>.str _) na_nil)) (na_cons (ne_mkX cf.zl_Mixed (na_cons (ne_lit fun _=>.str _) na_nil)) na_nil)))))))) ng_name)
      (ns_asg (ne_addL ne_var (ne_lst (na_cons (ne_mkX cf.zl_NoName (na_cons (ne_lit fun _=>.str _) na_nil)) (na_cons (ne_mkX cf.zl_Twice (na_cons (ne_lit fun _=>.str _) na_nil)) (na_cons (ne_mkX cf.zl_NotLess (na_cons (ne_lit fun _=>.str _) na_nil)) (na_cons (ne_mkX cf.zl_NoRow (na_cons (ne_lit fun _=>.str _) na_nil)) na_nil)))))) ng_name))
      ns_next)
      (ns_seq (ns_asg (ne_lst (na_cons (ne_lit fun _=>.int _) (na_cons (ne_lit fun _=>.int _) (na_cons (ne_lit fun _=>.int _) (na_cons (ne_lit fun _=>.int _) (na_cons (ne_lit fun _=>.int _) (na_cons (ne_lit fun _=>.int _) (na_cons (ne_lit fun _=>.int _) (na_cons (ne_lit fun _=>.int _) (na_cons (ne_lit fun _=>.int _) (na_cons (ne_lit fun _=>.int _) (na_cons (ne_lit fun _=>.int _) na_nil)))))))))))) ng_name)
      (ns_ret (ne_cb J_all (na_cons (ne_lcR (k:=11) (by decide) (ne_op J_eq (ne_callQ (na_cons (ne_ix ne_var ne_var) na_nil)) (ne_lst (na_cons (ne_lit fun _=>.int _) (na_cons (ne_lit fun _=>.int _) (na_cons (ne_ix ne_var ne_var) na_nil)))))) na_nil))))))))) rfl h⟩
theorem fo_Ledger_credit {f:Addr} {fd:FuncData} (Z:NoGl mg) (cf:CF K mg ca) (F:Mem K "credit" "Ledger.credit" s_Ledger_credit f fd []) :FnOk P w K mg base CX0 1 f fd ["self"] (spQ (m_Ledger_credit ca)):=by
  refine F.ok sc_Ledger_credit (fun vs H Q E h=>spQ_len h) fun cdv A outer s H vs Q E hr h=>?_
  have hu:=hr.units
  exact ⟨_,(pss_cons (ps_if (pt_cmpR (op_eqK (K:=K) rfl hu) (pe_fldK (K:=K) rfl (pv 0)) (pe_lst pa_nil) (nomark _))
      (pss_one (ps_ret pe_int))
      pss_nil)
      (pss_one (ps_ret (pe_ix (ix_seqK (K:=K) rfl) (pe_ix (ix_seqK (K:=K) rfl) (pe_fldK (K:=K) rfl (pv 0)) (pe_un un_neg pe_int) (fun _ _=>rfl)) pe_int (fun _ _=>rfl))))),
      fn_runQ (n:=1) (k:=0) (ns_seq (ns_if (nt_test (ne_op J_eq (ne_fldC cf.cl_Ledger cf.n_Ledger_rows ne_var) (ne_lst na_nil)))
      (ns_ret (ne_lit fun _=>.int _))
      ns_next)
      (ns_ret (ne_ix (ne_ix (ne_fldC cf.cl_Ledger cf.n_Ledger_rows ne_var) (ne_o (me_un J_neg me_int))) (ne_lit fun _=>.int _)))) rfl h⟩
theorem ok_is_count (Z:NoGl mg) (T:Top K mg "is_count" s_is_count) :Def P w K mg base CX0 1 "is_count" ["value"] (spM m_is_count):=by
  have z_bool:mg "bool" = none:=Z _ (by decide +kernel)
  have z_isinstance:mg "isinstance" = none:=Z _ (by decide +kernel)
  have z_int:mg "int" = none:=Z _ (by decide +kernel)
  refine T.def sc_is_count (fun vs H Q E h=>spM_len h) (fun _ _ _ _ _ _ us hl=>match us,hl with | [_],_=>rfl) fun f cdv A outer s H vs Q E hr h=>?_
  have hu:=hr.units
  exact ⟨_,(pss_one (ps_ret (pe_and (pe_callB call_isiD rfl z_isinstance PyProof.Rows.boot_isinstance (pa_cons (pv 0) (pa_cons (pe_ty z_int PyProof.Rows.boot_int) pa_nil))) (pe_and (pe_not (pe_callB call_isiD rfl z_isinstance PyProof.Rows.boot_isinstance (pa_cons (pv 0) (pa_cons (pe_ty z_bool PyProof.Rows.boot_bool) pa_nil)))) (pe_one (pe_cmpR op_ge (pv 0) pe_int (nomark _))))))),
      fn_run (n:=1) (k:=0) (ms_ret (me_andV (me_isiD me_var) (me_andV (me_notV (me_isiD me_var)) (me_op J_B0 me_var me_int)))) rfl h⟩
theorem fo_Ledger_enter {f:Addr} {fd:FuncData} (Z:NoGl mg) (cf:CF K mg ca) (F:Mem K "enter" "Ledger.enter" s_Ledger_enter f fd [(.int 0),.non]) {fI:Addr} {fdI:FuncData} (ZI_Overdrawn:Exi K ca.Overdrawn fI) (FI_Overdrawn:FnOk P w K mg base CX0 1 fI fdI ["self","by"] (spIni ca.Overdrawn)) (BI_Overdrawn:Binds K fdI ["self","by"] []) (D_is_count:Def P w K mg base CX0 1 "is_count" ["value"] (spM m_is_count)) (MD_Ledger_credit_0:MDef P w K mg base CX0 1 ca.Ledger "credit" ["self"] [] (spQ (m_Ledger_credit ca))):FnOk P w K mg base (CXD P w) 3 f fd ["self","word","steps","price","credit"] (spF (m_Ledger_enter ca)):=by
  refine F.okD sc_Ledger_enter (fun vs H Q E h=>spF_len h) fun cdv A outer s H vs Q E hr h=>?_
  have hu:=hr.units
  exact ⟨_,(pss_cons (ps_set (i:=5) sc_Ledger_enter.nd rfl (by first | exact Or.inl rfl | exact Or.inr rfl) (pe_mdef0 MD_Ledger_credit_0 (pv 0) (hr.mono (by omega))))
      (pss_cons (ps_set (i:=6) sc_Ledger_enter.nd rfl (by first | exact Or.inl rfl | exact Or.inr rfl) (pe_ifExp (pt_cmpR op_isN (pv 4) pe_non (nomark _)) (pv 5) (pv 4)))
      (pss_cons (ps_for PassesOwn.leaving rfl (pi_tupK (K:=K) rfl (pe_tup (pa_cons (pv 2) (pa_cons (pv 3) (pa_cons (pv 6) pa_nil))))) (pg_name (i:=7) sc_Ledger_enter.nd rfl (by first | exact Or.inl rfl | exact Or.inr rfl))
      (pss_one (ps_if (pt_not (pt_val (pe_def D_is_count (hr.mono (by omega)) (pa_cons (pv 7) pa_nil))))
      (pss_one (ps_raise rfl rfl cf.m_NoNumber cf.x_NoNumber PySem.F.excBase_ValueError (raiseOk_leaveD rfl) (pa_cons pe_str pa_nil)))
      pss_nil)))
      (pss_cons (ps_set (i:=8) sc_Ledger_enter.nd rfl (by first | exact Or.inl rfl | exact Or.inr rfl) (pe_op op_sub (pe_op op_sub (pe_op (op_addK (K:=K) rfl) (pv 2) (pv 6)) (pv 5)) (pv 3)))
      (pss_cons (ps_if (pt_cmpR op_gt (pv 8) pe_int (nomark _))
      (pss_one (ps_raiseD ZI_Overdrawn FI_Overdrawn (hr.mono (by omega)) BI_Overdrawn rfl rfl cf.m_Overdrawn (raiseD_leave rfl) (pa_cons (pv 8) pa_nil)))
      pss_nil)
      (pss_one (ps_expr (pe_bmK (K:=K) rfl PySem.F.plainAttrs_list PySem.F.slot_list_append PySem.F.type_list_append mt_append (pe_fldK (K:=K) rfl (pv 0)) (pa_cons (pe_tup (pa_cons (pv 1) (pa_cons (pv 2) (pa_cons (pv 3) (pa_cons (pv 5) (pa_cons (pv 6) pa_nil)))))) pa_nil))))))))),
      fn_runF (n:=5) (k:=4) (ns_seq (ns_asg (nm_qt (ne_methQ (fun _=>.nil) ne_var na_nil)) ng_name)
      (ns_seq (ns_asg (ne_c (me_ifE (mt_test (me_op J_is me_var me_non)) me_var me_var)) ng_name)
      (ns_seq (ns_for (mf_tup (me_tup (ma_cons me_var (ma_cons me_var (ma_cons me_var ma_nil))))) ng_name
      (ns_if (nt_o (mt_not (mt_tB (me_call (ma_cons me_var ma_nil)))))
      (ns_raise (na_cons (ne_lit fun _=>.str _) na_nil) (fun σ H z=>by have y:E (Zl.cl "NoNumber") none _:=z; rw [cf.zl_NoNumber] at y; exact y))
      ns_next))
      (ns_seq (ns_asg (ne_o (me_op J_I0 (me_op J_I0 (me_op J_add me_var me_var) me_var) me_var)) ng_name)
      (ns_seq (ns_if (nt_o (mt_test (me_op J_B0 me_var me_int)))
      (ns_raiseD (na_cons ne_var na_nil) (fun n σ H z dx h=>by have y:E (Zl.cl "Overdrawn") (some dx) _:=z dx h; rw [cf.zl_Overdrawn] at y; exact y))
      ns_next)
      (ns_drop (ne_app (ne_fldC cf.cl_Ledger cf.n_Ledger_rows ne_var) (na_cons (ne_tup (na_cons ne_var (na_cons ne_var (na_cons ne_var (na_cons ne_var (na_cons ne_var na_nil)))))) na_nil)))))))) rfl h⟩
theorem bd_Ledger_enter_1 {f:Addr} {fd:FuncData} (F:Mem K "enter" "Ledger.enter" s_Ledger_enter f fd [(.int 0),.non]):∃ ds,Binds K fd ["self","word","steps","price","credit"] ds∧Vals [.non] ds:=by
  refine F.bindsD (by simp) fun T kV doc pm an cdv ct items hv=>?_
  obtain ⟨l⟩:=items
  have hv:Vals _ l:=hv
  match l,hv with
  | _,.cons h0 (.cons h1 .nil) =>
    obtain ⟨t0,rfl⟩:=h0
    cases h1
    refine ⟨[.none],.cons rfl .nil,fun us hl=>?_⟩
    have hl2:us.length=4:=by simp only [List.length_append,List.length_cons,List.length_nil] at hl; omega
    match us,hl2 with
    | [_,_,_,_],_=>exact ⟨_,rfl,rfl⟩
theorem bd_Ledger_enter_0 {f:Addr} {fd:FuncData} (F:Mem K "enter" "Ledger.enter" s_Ledger_enter f fd [(.int 0),.non]):∃ ds,Binds K fd ["self","word","steps","price","credit"] ds∧Vals [] ds:=by
  refine F.bindsD (by simp) fun T kV doc pm an cdv ct items hv=>?_
  obtain ⟨l⟩:=items
  have hv:Vals _ l:=hv
  match l,hv with
  | _,.cons h0 (.cons h1 .nil) =>
    obtain ⟨t0,rfl⟩:=h0
    cases h1
    refine ⟨[],.nil,fun us hl=>?_⟩
    have hl2:us.length=5:=by simp only [List.length_append,List.length_cons,List.length_nil] at hl; omega
    match us,hl2 with
    | [_,_,_,_,_],_=>exact ⟨_,rfl,rfl⟩
theorem ok_law_cell_at (Z:NoGl mg) (T:Top K mg "_law_cell_at" s_law_cell_at) :Def P w K mg base CX0 1 "_law_cell_at" ["_law_script","_law_k"] (spM m_law_cell_at):=by
  have z_len:mg "len" = none:=Z _ (by decide +kernel)
  refine T.def sc_law_cell_at (fun vs H Q E h=>spM_len h) (fun _ _ _ _ _ _ us hl=>match us,hl with | [_,_],_=>rfl) fun f cdv A outer s H vs Q E hr h=>?_
  have hu:=hr.units
  exact ⟨_,(pss_cons (ps_if (pt_cmpR op_lt (pv 1) (pe_callB (call_lenK (K:=K) rfl) rfl z_len PySem.boot_len (pa_cons (pv 0) pa_nil)) (nomark _))
      (pss_one (ps_ret (pe_ix (ix_seqK (K:=K) rfl) (pv 0) (pv 1) (fun _ _=>rfl))))
      pss_nil)
      (pss_one (ps_ret pe_int))),
      fn_run (n:=2) (k:=0) (ms_seq (ms_if (mt_test (me_op J_B0 me_var (me_cb J_len (ma_cons me_var ma_nil))))
      (ms_ret (me_op J_ix me_var me_var))
      ms_next)
      (ms_ret me_int)) rfl h⟩
theorem ok_law_try (Z:NoGl mg) (cf:CF K mg ca) (T:Top K mg "_law_try" s_law_try) (MD_Ledger_enter_1:MDef P w K mg base (CXD P w) 3 ca.Ledger "enter" ["self","word","steps","price","credit"] [.non] (spF (m_Ledger_enter ca))) (MD_Ledger_enter_0:MDef P w K mg base (CXD P w) 3 ca.Ledger "enter" ["self","word","steps","price","credit"] [] (spF (m_Ledger_enter ca))) (D_law_kinds:Def P w K mg base CX0 1 "_law_kinds" ["_law_error"] (spQ (m_law_kinds ca))) (DH_law_kinds:DefH P w K mg base 1 "_law_kinds" ["_law_error"] (spQ (m_law_kinds ca))):Def P w K mg base CX0 4 "_law_try" ["_law_book","_law_steps","_law_price","_law_behind","_law_left"] (spQ (m_law_try ca)):=by
  refine T.def sc_law_try (fun vs H Q E h=>spQ_len h) (fun _ _ _ _ _ _ us hl=>match us,hl with | [_,_,_,_,_],_=>rfl) fun f cdv A outer s H vs Q E hr h=>?_
  have hu:=hr.units
  exact ⟨_,(pss_cons (ps_set (i:=5) sc_law_try.nd rfl (by first | exact Or.inl rfl | exact Or.inr rfl) (pe_lst pa_nil))
      (pss_cons (ps_set (i:=6) sc_law_try.nd rfl (by first | exact Or.inl rfl | exact Or.inr rfl) pe_non)
      (pss_cons (ps_tryG (K:=K) (i:=7) rfl
      (pxd_one (pxd_if rfl (pt_val (pv 4))
      (pxd_one (pxd_expr (pexd_mdef rfl MD_Ledger_enter_1 (pv 0) (hr.mono (by omega)) (pa_cons pe_str (pa_cons (pv 1) (pa_cons (pv 2) pa_nil))))))
      (pxd_one (pxd_expr (pexd_mdef rfl MD_Ledger_enter_0 (pv 0) (hr.mono (by omega)) (pa_cons pe_str (pa_cons (pv 1) (pa_cons (pv 2) (pa_cons (pv 3) pa_nil)))))))))
      rfl rfl rfl cf.m_CreditError sc_law_try.nd rfl rfl (fun cls e =>
      (pss_cons (ps_set (i:=5) sc_law_try.nd rfl (by first | exact Or.inl rfl | exact Or.inr rfl) (pe_callH (e:=e) rfl DH_law_kinds (hr.mono (by omega)).toH (pa_cons (pv 7) pa_nil)))
      (pss_one (ps_if (pt_cmpR (op_eqK (K:=K) rfl hu) (pv 5) (pe_lst (pa_cons pe_int (pa_cons pe_int (pa_cons pe_int pa_nil)))) (nomark _))
      (pss_one (ps_set (i:=6) sc_law_try.nd rfl (by first | exact Or.inl rfl | exact Or.inr rfl) (pe_excG (K:=K) rfl (pv 7))))
      pss_nil)))))
      (pss_one (ps_ret (pe_tup (pa_cons (pv 5) (pa_cons (pv 6) pa_nil)))))))),
      fn_runQ (n:=5) (k:=3) (ns_seq (ns_asg (ne_lst na_nil) ng_name)
      (ns_seq (ns_asg (ne_lit fun _=>.non) ng_name)
      (ns_seq (ns_tryC
      (nxf_if (fun _=>(nt_o (mt_tB me_var)))
      (nxf_drop (nexf_meth (fun _=>(.cons .non .nil)) (fun _=>ne_var) (fun _=>(na_cons (ne_lit fun _=>.str _) (na_cons ne_var (na_cons ne_var na_nil))))))
      (nxf_drop (nexf_meth (fun _ => .nil) (fun _ => ne_var) (fun _ => (na_cons (ne_lit fun _ => .str _) (na_cons ne_var (na_cons ne_var (na_cons ne_var na_nil)))))))) (fun c h => by
            simp only [Bool.or_eq_true,decide_eq_true_eq] at h
            rcases h with rfl | rfl
            . rw [cf.zl_NoNumber]; exact cf.h_NoNumber_CreditError
            . rw [cf.zl_Overdrawn]; exact cf.h_Overdrawn_CreditError) ng_name (ns_if (nt_o (mt_test (me_op J_eq me_var (me_lst (ma_cons me_int (ma_cons me_int (ma_cons me_int ma_nil)))))))
      (ns_asg (ne_fldX (P:=fun c=>decide (c = "Overdrawn")) (fun c h=>by obtain rfl:c = "Overdrawn":=of_decide_eq_true h; exact ⟨_,cf.zl_Overdrawn,cf.xf_Overdrawn⟩) ne_var) ng_name)
      ns_next))
      (ns_ret (ne_tup (na_cons ne_var (na_cons ne_var na_nil))))))) rfl h⟩
theorem ok_law_bad (Z:NoGl mg) (T:Top K mg "_law_bad" s_law_bad) :Def P w K mg base CX0 1 "_law_bad" ["_law_cell","_law_some"] (spM m_law_bad):=by
  refine T.def sc_law_bad (fun vs H Q E h=>spM_len h) (fun _ _ _ _ _ _ us hl=>match us,hl with | [_,_],_=>rfl) fun f cdv A outer s H vs Q E hr h=>?_
  have hu:=hr.units
  exact ⟨_,(pss_cons (ps_set (i:=2) sc_law_bad.nd rfl (by first | exact Or.inl rfl | exact Or.inr rfl) (pe_op op_sub (pe_un un_neg pe_int) (pe_op op_mod (pe_op op_fdiv (pv 0) pe_int) (pe_op op_pow pe_int pe_int))))
      (pss_cons (ps_set (i:=3) sc_law_bad.nd rfl (by first | exact Or.inl rfl | exact Or.inr rfl) (pe_lst (pa_cons pe_bl (pa_cons pe_bl (pa_cons (pv 2) (pa_cons pe_str (pa_cons (pe_tup (pa_cons pe_int pa_nil)) (pa_cons (pe_lst (pa_cons pe_int pa_nil)) (pa_cons pe_dnewK (pa_cons pe_non pa_nil))))))))))
      (pss_one (ps_ret (pe_ix (ix_seqK (K:=K) rfl) (pv 3) (pe_op op_mod (pv 0) (pv 1)) (fun _ _=>rfl)))))),
      fn_run (n:=2) (k:=2) (ms_seq (ms_asg (me_op J_I0 (me_un J_neg me_int) (me_op J_I (me_op J_I me_var me_int) (me_op J_I me_int me_int))))
      (ms_seq (ms_asg (me_lst (ma_cons me_bl (ma_cons me_bl (ma_cons me_var (ma_cons me_str (ma_cons (me_tup (ma_cons me_int ma_nil)) (ma_cons (me_lst (ma_cons me_int ma_nil)) (ma_cons me_dct0 (ma_cons me_non ma_nil))))))))))
      (ms_ret (me_op J_ix me_var (me_op J_I me_var me_var))))) rfl h⟩
theorem ok_law_refused (Z:NoGl mg) (cf:CF K mg ca) (T:Top K mg "_law_refused" s_law_refused) (D_law_try:Def P w K mg base CX0 4 "_law_try" ["_law_book","_law_steps","_law_price","_law_behind","_law_left"] (spQ (m_law_try ca))) (D_law_bad:Def P w K mg base CX0 1 "_law_bad" ["_law_cell","_law_some"] (spM m_law_bad)) (D_law_whole:Def P w K mg base CX0 1 "_law_whole" ["_law_found"] (spM m_law_whole)):Def P w K mg base CX0 5 "_law_refused" ["_law_book","_law_cell","_law_ahead"] (spQ (m_law_refused ca)):=by
  refine T.def sc_law_refused (fun vs H Q E h=>spQ_len h) (fun _ _ _ _ _ _ us hl=>match us,hl with | [_,_,_],_=>rfl) fun f cdv A outer s H vs Q E hr h=>?_
  have hu:=hr.units
  exact ⟨_,(pss_cons (ps_set (i:=3) sc_law_refused.nd rfl (by first | exact Or.inl rfl | exact Or.inr rfl) (pe_op op_fdiv (pv 1) pe_int))
      (pss_cons (ps_set (i:=4) sc_law_refused.nd rfl (by first | exact Or.inl rfl | exact Or.inr rfl) (pe_op op_mod (pv 3) pe_int))
      (pss_cons (ps_set (i:=5) sc_law_refused.nd rfl (by first | exact Or.inl rfl | exact Or.inr rfl) (pe_op op_mod (pe_op op_fdiv (pv 3) pe_int) pe_int))
      (pss_cons (ps_set (i:=6) sc_law_refused.nd rfl (by first | exact Or.inl rfl | exact Or.inr rfl) (pe_op op_mod (pe_op op_fdiv (pv 3) pe_int) pe_int))
      (pss_cons (ps_set (i:=7) sc_law_refused.nd rfl (by first | exact Or.inl rfl | exact Or.inr rfl) (pe_and (pe_cmpR (op_eqK (K:=K) rfl hu) (pe_op op_mod (pe_op op_fdiv (pv 1) pe_int) pe_int) pe_int (nomark _)) (pe_one (pe_cmpR op_lt (pe_op op_mod (pv 1) pe_int) pe_int (nomark _)))))
      (pss_cons (ps_if (pt_val (pv 7))
      (pss_one (ps_set (i:=5) sc_law_refused.nd rfl (by first | exact Or.inl rfl | exact Or.inr rfl) (pv 2)))
      pss_nil)
      (pss_cons (ps_if (PW.pt (pw_or (pt_cmpR (op_eqK (K:=K) rfl hu) (pe_op op_mod (pe_op op_fdiv (pv 3) pe_int) pe_int) pe_int (nomark _)) (pw_or1 (pt_cmpR (op_eqK (K:=K) rfl hu) (pe_op op_mod (pv 1) pe_int) pe_int (nomark _)))))
      (pss_one (ps_set (i:=6) sc_law_refused.nd rfl (by first | exact Or.inl rfl | exact Or.inr rfl) (pe_op (op_addK (K:=K) rfl) (pe_op (op_addK (K:=K) rfl) (pe_op (op_addK (K:=K) rfl) (pv 2) (pv 4)) pe_int) (pv 6))))
      pss_nil)
      (pss_cons (ps_if (pt_cmpR (op_eqK (K:=K) rfl hu) (pe_op op_mod (pv 1) pe_int) pe_int (nomark _))
      (pss_cons (ps_asg (pe_def D_law_try (hr.mono (by omega)) (pa_cons (pv 0) (pa_cons (pv 6) (pa_cons (pv 4) (pa_cons (pv 5) (pa_cons (pv 7) pa_nil)))))) (pg_tupL rfl (pgs_cons (pg_name (i:=8) sc_law_refused.nd rfl (by first | exact Or.inl rfl | exact Or.inr rfl)) (pgs_cons (pg_name (i:=9) sc_law_refused.nd rfl (by first | exact Or.inl rfl | exact Or.inr rfl)) pgs_nil))))
      (pss_one (ps_ret (pe_and (pe_cmpR (op_eqK (K:=K) rfl hu) (pv 8) (pe_lst (pa_cons pe_int (pa_cons pe_int (pa_cons pe_int pa_nil)))) (nomark _)) (pe_and (pe_def D_law_whole (hr.mono (by omega)) (pa_cons (pv 9) pa_nil)) (pe_one (pe_cmpR (op_eqK (K:=K) rfl hu) (pv 9) (pe_op op_sub (pe_op op_sub (pe_op (op_addK (K:=K) rfl) (pv 6) (pv 5)) (pv 2)) (pv 4)) (nomark _))))))))
      pss_nil)
      (pss_cons (ps_if (pt_cmpR (op_eqK (K:=K) rfl hu) (pe_op op_mod (pv 1) pe_int) pe_int (nomark _))
      (pss_one (ps_set (i:=6) sc_law_refused.nd rfl (by first | exact Or.inl rfl | exact Or.inr rfl) (pe_def D_law_bad (hr.mono (by omega)) (pa_cons (pe_op op_fdiv (pv 3) pe_int) (pa_cons pe_int pa_nil)))))
      (pss_one (ps_if (pt_cmpR (op_eqK (K:=K) rfl hu) (pe_op op_mod (pv 1) pe_int) pe_int (nomark _))
      (pss_one (ps_set (i:=4) sc_law_refused.nd rfl (by first | exact Or.inl rfl | exact Or.inr rfl) (pe_def D_law_bad (hr.mono (by omega)) (pa_cons (pe_op op_fdiv (pv 3) pe_int) (pa_cons pe_int pa_nil)))))
      (pss_one (ps_set (i:=5) sc_law_refused.nd rfl (by first | exact Or.inl rfl | exact Or.inr rfl) (pe_def D_law_bad (hr.mono (by omega)) (pa_cons (pe_op op_fdiv (pv 3) pe_int) (pa_cons pe_int pa_nil))))))))
      (pss_one (ps_ret (pe_cmpR (op_eqK (K:=K) rfl hu) (pe_def D_law_try (hr.mono (by omega)) (pa_cons (pv 0) (pa_cons (pv 6) (pa_cons (pv 4) (pa_cons (pv 5) (pa_cons (pv 7) pa_nil)))))) (pe_tup (pa_cons (pe_lst (pa_cons pe_int (pa_cons pe_int (pa_cons pe_int pa_nil)))) (pa_cons pe_non pa_nil))) (nomark _))))))))))))),
      fn_runQ (n:=3) (k:=7) (ns_seq (ns_asg (ne_o (me_op J_I me_var me_int)) ng_name)
      (ns_seq (ns_asg (ne_o (me_op J_I me_var me_int)) ng_name)
      (ns_seq (ns_asg (ne_o (me_op J_I (me_op J_I me_var me_int) me_int)) ng_name)
      (ns_seq (ns_asg (ne_o (me_op J_I (me_op J_I me_var me_int) me_int)) ng_name)
      (ns_seq (ns_asg (ne_o (me_andV (me_op J_eq (me_op J_I (me_op J_I me_var me_int) me_int) me_int) (me_op J_B0 (me_op J_I me_var me_int) me_int))) ng_name)
      (ns_seq (ns_if (nt_o (mt_tB me_var))
      (ns_asg ne_var ng_name)
      ns_next)
      (ns_seq (ns_if (nt_o (mt_or (mt_test (me_op J_eq (me_op J_I (me_op J_I me_var me_int) me_int) me_int)) (mt_test (me_op J_eq (me_op J_I me_var me_int) me_int))))
      (ns_asg (ne_o (me_op J_add (me_op J_add (me_op J_add me_var me_var) me_int) me_var)) ng_name)
      ns_next)
      (ns_seq (ns_if (nt_o (mt_test (me_op J_eq (me_op J_I me_var me_int) me_int)))
      (ns_seq (ns_asg (ne_callQ (na_cons ne_var (na_cons ne_var (na_cons ne_var (na_cons ne_var (na_cons ne_var na_nil)))))) (ng_tupL (ngs_cons (ngs_cons ngs_nil))))
      (ns_ret (ne_o (me_andV (me_op J_eq me_var (me_lst (ma_cons me_int (ma_cons me_int (ma_cons me_int ma_nil))))) (me_andV (me_call (ma_cons me_var ma_nil)) (me_op J_eq me_var (me_op J_I0 (me_op J_I0 (me_op J_add me_var me_var) me_var) me_var)))))))
      ns_next)
      (ns_seq (ns_if (nt_o (mt_test (me_op J_eq (me_op J_I me_var me_int) me_int)))
      (ns_asg (ne_callO (na_cons (ne_o (me_op J_I me_var me_int)) (na_cons (ne_lit fun _=>.int _) na_nil))) ng_name)
      (ns_if (nt_o (mt_test (me_op J_eq (me_op J_I me_var me_int) me_int)))
      (ns_asg (ne_callO (na_cons (ne_o (me_op J_I me_var me_int)) (na_cons (ne_lit fun _=>.int _) na_nil))) ng_name)
      (ns_asg (ne_callO (na_cons (ne_o (me_op J_I me_var me_int)) (na_cons (ne_lit fun _=>.int _) na_nil))) ng_name)))
      (ns_ret (ne_opV J_eq (ne_callQ (na_cons ne_var (na_cons ne_var (na_cons ne_var (na_cons ne_var (na_cons ne_var na_nil)))))) (ne_tup (na_cons (ne_lst (na_cons (ne_lit fun _=>.int _) (na_cons (ne_lit fun _=>.int _) (na_cons (ne_lit fun _=>.int _) na_nil)))) (na_cons (ne_lit fun _=>.non) na_nil)))))))))))))) rfl h⟩
theorem fo_Ledger_entries {f:Addr} {fd:FuncData} (Z:NoGl mg) (cf:CF K mg ca) (F:Mem K "entries" "Ledger.entries" s_Ledger_entries f fd []) :FnOk P w K mg base CX0 1 f fd ["self"] (spQ (m_Ledger_entries ca)):=by
  have z_list:mg "list" = none:=Z _ (by decide +kernel)
  refine F.ok sc_Ledger_entries (fun vs H Q E h=>spQ_len h) fun cdv A outer s H vs Q E hr h=>?_
  have hu:=hr.units
  exact ⟨_,(pss_one (ps_ret (pe_callTy (call_listK (K:=K) rfl) rfl z_list PyProof.Rows.boot_list (pa_cons (pe_fldK (K:=K) rfl (pv 0)) pa_nil)))),
      fn_runQ (n:=1) (k:=0) (ns_ret (ne_cb J_list (na_cons (ne_fldC cf.cl_Ledger cf.n_Ledger_rows ne_var) na_nil))) rfl h⟩
theorem ok_law {f:Addr} {fd:FuncData} (NL:noLists K=true) (Z:NoGl mg) (cf:CF K mg ca) (F:Fun K "law" "law" s_law f fd) (D_law_cell_at:Def P w K mg base CX0 1 "_law_cell_at" ["_law_script","_law_k"] (spM m_law_cell_at)) (D_law_made:Def P w K mg base CX0 3 "_law_made" ["_law_cell"] (spQ (m_law_made ca))) (MD_Ledger_credit_0:MDef P w K mg base CX0 1 ca.Ledger "credit" ["self"] [] (spQ (m_Ledger_credit ca))) (MD_Ledger_entries_0:MDef P w K mg base CX0 1 ca.Ledger "entries" ["self"] [] (spQ (m_Ledger_entries ca))) (D_law_refused:Def P w K mg base CX0 5 "_law_refused" ["_law_book","_law_cell","_law_ahead"] (spQ (m_law_refused ca))) (MD_Ledger_enter_1:MDef P w K mg base (CXD P w) 3 ca.Ledger "enter" ["self","word","steps","price","credit"] [.non] (spF (m_Ledger_enter ca))) (MD_Ledger_enter_0:MDef P w K mg base (CXD P w) 3 ca.Ledger "enter" ["self","word","steps","price","credit"] [] (spF (m_Ledger_enter ca))) (CD_Ledger:CDef P w K mg base CX0 1 "Ledger" ca.Ledger ["self"] (spQ (m_Ledger_init ca))):FnOk P w K mg base CX0 6 f fd ["_law_script"] (spLaw K):=by
  have z_range:mg "range" = none:=Z _ (by decide +kernel)
  refine FnOk.imp (sp:=spM (m_law ca)) ?_ (law_sp NL (law_true ca))
  refine F.ok sc_law (fun vs H Q E h=>spO_len h) fun cdv A outer s H vs Q E hr h=>?_
  have hu:=hr.units
  exact ⟨_,(pss_cons (ps_set (i:=1) sc_law.nd rfl (by first | exact Or.inl rfl | exact Or.inr rfl) (pe_cdef0 CD_Ledger (hr.mono (by omega))))
      (pss_cons (ps_set (i:=2) sc_law.nd rfl (by first | exact Or.inl rfl | exact Or.inr rfl) (pe_lst pa_nil))
      (pss_cons (ps_set (i:=3) sc_law.nd rfl (by first | exact Or.inl rfl | exact Or.inr rfl) pe_int)
      (pss_cons (ps_for PassesOwn.never rfl (pi_range1 rfl z_range (pa_cons (pe_op op_mod (pe_def D_law_cell_at (hr.mono (by omega)) (pa_cons (pv 0) (pa_cons pe_int pa_nil))) pe_int) pa_nil)) (pg_name (i:=4) sc_law.nd rfl (by first | exact Or.inl rfl | exact Or.inr rfl))
      (pss_cons (ps_set (i:=5) sc_law.nd rfl (by first | exact Or.inl rfl | exact Or.inr rfl) (pe_op op_mod (pe_op op_fdiv (pe_def D_law_cell_at (hr.mono (by omega)) (pa_cons (pv 0) (pa_cons pe_int pa_nil))) (pe_op (op_addK (K:=K) rfl) (pv 4) pe_int)) (pe_op op_pow pe_int pe_int)))
      (pss_cons (ps_set (i:=6) sc_law.nd rfl (by first | exact Or.inl rfl | exact Or.inr rfl) (pe_op op_mod (pe_op op_fdiv (pe_def D_law_cell_at (hr.mono (by omega)) (pa_cons (pv 0) (pa_cons pe_int pa_nil))) (pe_op (op_addK (K:=K) rfl) (pv 4) pe_int)) (pe_op (op_addK (K:=K) rfl) (pe_op (op_addK (K:=K) rfl) (pv 3) (pv 5)) pe_int)))
      (pss_cons (ps_expr (pe_mdef MD_Ledger_enter_0.quietD (pv 1) (hr.mono (by omega)) (pa_cons pe_str (pa_cons pe_int (pa_cons (pv 5) (pa_cons (pv 6) pa_nil))))))
      (pss_cons (ps_expr (pe_bmK (K:=K) rfl PySem.F.plainAttrs_list PySem.F.slot_list_append PySem.F.type_list_append mt_append (pv 2) (pa_cons (pe_tup (pa_cons pe_str (pa_cons pe_int (pa_cons (pv 5) (pa_cons (pv 3) (pa_cons (pv 6) pa_nil)))))) pa_nil)))
      (pss_one (ps_set (i:=3) sc_law.nd rfl (by first | exact Or.inl rfl | exact Or.inr rfl) (pv 6))))))))
      (pss_cons (ps_for PassesOwn.never rfl (pi_listK (K:=K) rfl (pe_op (op_addK (K:=K) rfl) (pe_lst (pa_cons pe_int pa_nil)) (pe_slice (sl_listK (K:=K) rfl) (pv 0) (po_some pe_int) (po_some pe_int)))) (pg_name (i:=7) sc_law.nd rfl (by first | exact Or.inl rfl | exact Or.inr rfl))
      (pss_cons (ps_if (pt_not (pt_val (pe_def D_law_refused (hr.mono (by omega)) (pa_cons (pv 1) (pa_cons (pv 7) (pa_cons (pv 3) pa_nil))))))
      (pss_one (ps_ret pe_bl))
      pss_nil)
      (pss_one (ps_if (PW.pt (pw_or (pt_cmpR (op_neK (K:=K) rfl hu) (pe_mdef0 MD_Ledger_entries_0 (pv 1) (hr.mono (by omega))) (pv 2) (nomark _)) (pw_or1 (pt_cmpR (op_neK (K:=K) rfl hu) (pe_mdef0 MD_Ledger_credit_0 (pv 1) (hr.mono (by omega))) (pv 3) (nomark _)))))
      (pss_one (ps_ret pe_bl))
      pss_nil))))
      (pss_one (ps_ret (pe_def D_law_made (hr.mono (by omega)) (pa_cons (pe_op op_mod (pe_def D_law_cell_at (hr.mono (by omega)) (pa_cons (pv 0) (pa_cons pe_int pa_nil))) (pe_op op_pow pe_int pe_int)) pa_nil))))))))),
      fn_runO (n:=1) (k:=7) (ns_seq (ns_asg (ne_makeQ na_nil) ng_name)
      (ns_seq (ns_asg (ne_lst na_nil) ng_name)
      (ns_seq (ns_asg (ne_lit fun _=>.int _) ng_name)
      (ns_seq (ns_for (mf_rng1 (ma_cons (me_op J_I (me_call (ma_cons me_var (ma_cons me_int ma_nil))) me_int) ma_nil)) ng_name
      (ns_seq (ns_asg (ne_o (me_op J_I (me_op J_I (me_call (ma_cons me_var (ma_cons me_int ma_nil))) (me_op J_add me_var me_int)) (me_op J_I me_int me_int))) ng_name)
      (ns_seq (ns_asg (ne_o (me_op J_I (me_op J_I (me_call (ma_cons me_var (ma_cons me_int ma_nil))) (me_op J_add me_var me_int)) (me_op J_add (me_op J_add me_var me_var) me_int))) ng_name)
      (ns_seq (ns_drop (ne_methF (fun _=>.nil) ne_var (na_cons (ne_lit fun _=>.str _) (na_cons (ne_lit fun _=>.int _) (na_cons ne_var (na_cons ne_var na_nil))))))
      (ns_seq (ns_drop (ne_app ne_var (na_cons (ne_tup (na_cons (ne_lit fun _=>.str _) (na_cons (ne_lit fun _=>.int _) (na_cons ne_var (na_cons ne_var (na_cons ne_var na_nil)))))) na_nil)))
      (ns_asg ne_var ng_name))))))
      (ns_seq (ns_forL (ne_o (me_op J_add (me_lst (ma_cons me_int ma_nil)) (me_sl J_sl me_var (mo_some me_int) (mo_some me_int)))) ng_name
      (ns_seq (ns_if (nt_not (nt_tB (ne_callQ (na_cons ne_var (na_cons ne_var (na_cons ne_var na_nil))))))
      (ns_ret (ne_lit fun _=>.bl _))
      ns_next)
      (ns_if (nt_or (nt_test (ne_op J_ne (ne_methQ (fun _=>.nil) ne_var na_nil) ne_var)) (nt_test (ne_op J_ne (ne_methQ (fun _=>.nil) ne_var na_nil) ne_var)))
      (ns_ret (ne_lit fun _=>.bl _))
      ns_next)))
      (ns_ret (ne_callQ (na_cons (ne_o (me_op J_I (me_call (ma_cons me_var (ma_cons me_int ma_nil))) (me_op J_I me_int me_int))) na_nil)))))))) rfl h⟩
end
end K14
open PySem PySem.W PyProof.Rows
set_option maxRecDepth 100000 in
set_option maxHeartbeats 0 in
theorem PySem.Challenge.cw_creditworks_k14_what_is_refused_holds : PySem.Challenge.rw_creditworks_k14_what_is_refused.Holds := by
  w_on; o_law; k_head; (case hw=>w_witness2)
  k_fill
  refine L2.walk_law (l:=PySem.Challenge.rw_creditworks_k14_what_is_refused) (k:=6) (x:="_law_script") (st:=K14.s_law) rfl rfl ⟨rfl,by decide,by decide⟩ (fun w h Y=>PySem.W.kIn_of Y) (fun _ _ _ _ _ _ _=>rfl) ?F
  case F =>
    intro w mg h KX G
    have T_law_kinds:L2.Top (L2.KOf KX) mg "_law_kinds" K14.s_law_kinds:=by
      dsimp only [L2.KOf]
      refine' L2.Top.mk' KX G ?a ?l ?c ?k
      (case a=>k_is); (case l=>k_is); (case c=>k_is); (case k=>k_is)
    have T_law_whole:L2.Top (L2.KOf KX) mg "_law_whole" K14.s_law_whole:=by
      dsimp only [L2.KOf]
      refine' L2.Top.mk' KX G ?a ?l ?c ?k
      (case a=>k_is); (case l=>k_is); (case c=>k_is); (case k=>k_is)
    have T_law_made:L2.Top (L2.KOf KX) mg "_law_made" K14.s_law_made:=by
      dsimp only [L2.KOf]
      refine' L2.Top.mk' KX G ?a ?l ?c ?k
      (case a=>k_is); (case l=>k_is); (case c=>k_is); (case k=>k_is)
    have T_is_count:L2.Top (L2.KOf KX) mg "is_count" K14.s_is_count:=by
      dsimp only [L2.KOf]
      refine' L2.Top.mk' KX G ?a ?l ?c ?k
      (case a=>k_is); (case l=>k_is); (case c=>k_is); (case k=>k_is)
    have T_law_cell_at:L2.Top (L2.KOf KX) mg "_law_cell_at" K14.s_law_cell_at:=by
      dsimp only [L2.KOf]
      refine' L2.Top.mk' KX G ?a ?l ?c ?k
      (case a=>k_is); (case l=>k_is); (case c=>k_is); (case k=>k_is)
    have T_law_try:L2.Top (L2.KOf KX) mg "_law_try" K14.s_law_try:=by
      dsimp only [L2.KOf]
      refine' L2.Top.mk' KX G ?a ?l ?c ?k
      (case a=>k_is); (case l=>k_is); (case c=>k_is); (case k=>k_is)
    have T_law_bad:L2.Top (L2.KOf KX) mg "_law_bad" K14.s_law_bad:=by
      dsimp only [L2.KOf]
      refine' L2.Top.mk' KX G ?a ?l ?c ?k
      (case a=>k_is); (case l=>k_is); (case c=>k_is); (case k=>k_is)
    have T_law_refused:L2.Top (L2.KOf KX) mg "_law_refused" K14.s_law_refused:=by
      dsimp only [L2.KOf]
      refine' L2.Top.mk' KX G ?a ?l ?c ?k
      (case a=>k_is); (case l=>k_is); (case c=>k_is); (case k=>k_is)
    have T_law:L2.Top (L2.KOf KX) mg "law" K14.s_law:=by
      dsimp only [L2.KOf]
      refine' L2.Top.mk' KX G ?a ?l ?c ?k
      (case a=>k_is); (case l=>k_is); (case c=>k_is); (case k=>k_is)
    have z_ValueError:mg "ValueError" = none:=by
      refine' PySem.W.mg_none_of KX G ?z
      (case z=>k_is)
    have z_all:mg "all" = none:=by
      refine' PySem.W.mg_none_of KX G ?z
      (case z=>k_is)
    have z_bool:mg "bool" = none:=by
      refine' PySem.W.mg_none_of KX G ?z
      (case z=>k_is)
    have z_int:mg "int" = none:=by
      refine' PySem.W.mg_none_of KX G ?z
      (case z=>k_is)
    have z_isinstance:mg "isinstance" = none:=by
      refine' PySem.W.mg_none_of KX G ?z
      (case z=>k_is)
    have z_len:mg "len" = none:=by
      refine' PySem.W.mg_none_of KX G ?z
      (case z=>k_is)
    have z_list:mg "list" = none:=by
      refine' PySem.W.mg_none_of KX G ?z
      (case z=>k_is)
    have z_range:mg "range" = none:=by
      refine' PySem.W.mg_none_of KX G ?z
      (case z=>k_is)
    have Z:K14.NoGl mg:=by
      intro x hx
      simp only [List.mem_cons,List.not_mem_nil,or_false] at hx
      rcases hx with rfl | rfl | rfl | rfl | rfl | rfl | rfl | rfl <;> assumption
    have NL:Mir.noLists (L2.KOf KX)=true:=by
      dsimp only [L2.KOf]
      first | rfl | kernel_rfl | k_is
    have CL_Ledger:∃ C,L2.Cls (L2.KOf KX) C∧mg "Ledger" = some (.ref C)∧L2.NoAttr (L2.KOf KX) C "rows"∧(∃ f fd,L2.Mem (L2.KOf KX) "__init__" "Ledger.__init__" K14.s_Ledger_init f fd []∧L2.Mk (L2.KOf KX) C f)∧(∃ f fd,L2.Mem (L2.KOf KX) "credit" "Ledger.credit" K14.s_Ledger_credit f fd []∧L2.Meth (L2.KOf KX) C "credit" f)∧(∃ f fd,L2.Mem (L2.KOf KX) "enter" "Ledger.enter" K14.s_Ledger_enter f fd [(.int 0),.non]∧L2.Meth (L2.KOf KX) C "enter" f)∧(∃ f fd,L2.Mem (L2.KOf KX) "entries" "Ledger.entries" K14.s_Ledger_entries f fd []∧L2.Meth (L2.KOf KX) C "entries" f):=by
      dsimp only [L2.KOf]
      refine' ⟨_,⟨?pg,?hd,?po,?sa⟩,PySem.W.mg_of KX G ?m,?n_rows,⟨_,_,L2.mem_mk ?Ledger_init_l ?Ledger_init_c,⟨?Ledger_init_mk,?Ledger_init_at,?Ledger_init_fn,?Ledger_init_kp⟩⟩,⟨_,_,L2.mem_mk ?Ledger_credit_l ?Ledger_credit_c,⟨?Ledger_credit_at,?Ledger_credit_fn,?Ledger_credit_kp⟩⟩,⟨_,_,L2.mem_mkD (by simp) ?Ledger_enter_l ?Ledger_enter_c ?Ledger_enter_t ?Ledger_enter_d ?Ledger_enter_v,⟨?Ledger_enter_at,?Ledger_enter_fn,?Ledger_enter_kp⟩⟩,⟨_,_,L2.mem_mk ?Ledger_entries_l ?Ledger_entries_c,⟨?Ledger_entries_at,?Ledger_entries_fn,?Ledger_entries_kp⟩⟩⟩
      (case m=>first | k_is | rfl | kernel_rfl | decide +kernel)
      (case pg=>first | k_is | rfl | kernel_rfl | decide +kernel)
      (case hd=>first | k_is | rfl | kernel_rfl | decide +kernel)
      (case po=>first | k_is | rfl | kernel_rfl | decide +kernel)
      (case sa=>first | k_is | rfl | kernel_rfl | decide +kernel)
      (case n_rows=>first | k_is | rfl | kernel_rfl | decide +kernel)
      (case Ledger_init_at=>first | k_is | rfl | kernel_rfl | decide +kernel)
      (case Ledger_init_l=>first | k_is | rfl | kernel_rfl | decide +kernel)
      (case Ledger_init_c=>first | k_is | rfl | kernel_rfl | decide +kernel)
      (case Ledger_init_mk=>first | k_is | rfl | kernel_rfl | decide +kernel)
      (case Ledger_init_fn=>first | k_is | rfl | kernel_rfl | decide +kernel)
      (case Ledger_init_kp=>first | k_is | rfl | kernel_rfl | decide +kernel)
      (case Ledger_credit_at=>first | k_is | rfl | kernel_rfl | decide +kernel)
      (case Ledger_credit_l=>first | k_is | rfl | kernel_rfl | decide +kernel)
      (case Ledger_credit_c=>first | k_is | rfl | kernel_rfl | decide +kernel)
      (case Ledger_credit_fn=>first | k_is | rfl | kernel_rfl | decide +kernel)
      (case Ledger_credit_kp=>first | k_is | rfl | kernel_rfl | decide +kernel)
      (case Ledger_enter_at=>first | k_is | rfl | kernel_rfl | decide +kernel)
      (case Ledger_enter_l=>first | k_is | rfl | kernel_rfl | decide +kernel)
      (case Ledger_enter_c=>first | k_is | rfl | kernel_rfl | decide +kernel)
      (case Ledger_enter_t=>first | k_is | rfl | kernel_rfl | decide +kernel)
      (case Ledger_enter_fn=>first | k_is | rfl | kernel_rfl | decide +kernel)
      (case Ledger_enter_kp=>first | k_is | rfl | kernel_rfl | decide +kernel)
      (case Ledger_enter_d=>first | exact rfl | k_is)
      (case Ledger_enter_v=>exact .cons ⟨_,rfl⟩ (.cons rfl .nil))
      (case Ledger_entries_at=>first | k_is | rfl | kernel_rfl | decide +kernel)
      (case Ledger_entries_l=>first | k_is | rfl | kernel_rfl | decide +kernel)
      (case Ledger_entries_c=>first | k_is | rfl | kernel_rfl | decide +kernel)
      (case Ledger_entries_fn=>first | k_is | rfl | kernel_rfl | decide +kernel)
      (case Ledger_entries_kp=>first | k_is | rfl | kernel_rfl | decide +kernel)
    obtain ⟨C_Ledger,cl_Ledger,mg_Ledger,n_Ledger_rows,⟨f_Ledger_init,fd_Ledger_init,F_Ledger_init,mk_Ledger⟩,⟨f_Ledger_credit,fd_Ledger_credit,F_Ledger_credit,me_Ledger_credit⟩,⟨f_Ledger_enter,fd_Ledger_enter,F_Ledger_enter,me_Ledger_enter⟩,⟨f_Ledger_entries,fd_Ledger_entries,F_Ledger_entries,me_Ledger_entries⟩⟩:=CL_Ledger
    have CLX:∃ C_Overdrawn C_CreditError C_NoNumber C_Empty C_NoThing C_Lacking C_AtTop C_NoPlace C_Mixed C_NoName C_Twice C_NotLess C_NoRow f fd,L2.Exi (L2.KOf KX) C_Overdrawn f∧mg "Overdrawn" = some (.ref C_Overdrawn)∧PySem.W.findIn (L2.KOf KX) (.ref C_Overdrawn) "__init__" = some (some (.ref f))∧L2.Mem (L2.KOf KX) "__init__" "Overdrawn.__init__" K14.s_Overdrawn_init f fd []∧L2.ExcF (L2.KOf KX) C_Overdrawn "by"∧PySem.W.exmOne (L2.KOf KX) (.ref C_Overdrawn) (.ref C_Overdrawn)=some true∧mg "CreditError" = some (.ref C_CreditError)∧PySem.W.readsIn (L2.KOf KX) C_CreditError (.type "type")=true∧PySem.W.findCls (L2.KOf KX) (.ref C_CreditError) (.type "type") "__init__" = some (.val (.builtin "ValueError.__init__"))∧PySem.W.specialIn (L2.KOf KX) (.ref C_CreditError) "__getattribute__" = some (some (.builtin "type.__getattribute__"))∧mg "NoRow" = some (.ref C_NoRow)∧L2.ExcK (L2.KOf KX) C_NoNumber∧L2.ExcK (L2.KOf KX) C_Empty∧L2.ExcK (L2.KOf KX) C_NoThing∧L2.ExcK (L2.KOf KX) C_Lacking∧L2.ExcK (L2.KOf KX) C_AtTop∧L2.ExcK (L2.KOf KX) C_NoPlace∧L2.ExcK (L2.KOf KX) C_Mixed∧L2.ExcK (L2.KOf KX) C_NoName∧L2.ExcK (L2.KOf KX) C_Twice∧L2.ExcK (L2.KOf KX) C_NotLess∧L2.ExcK (L2.KOf KX) C_NoRow∧L2.ExcK (L2.KOf KX) C_Overdrawn∧Mir.isiAll (L2.KOf KX) (.ref C_NoRow) [("NoNumber",C_NoNumber),("Empty",C_Empty),("NoThing",C_NoThing),("Lacking",C_Lacking),("AtTop",C_AtTop),("NoPlace",C_NoPlace),("Mixed",C_Mixed),("NoName",C_NoName),("Twice",C_Twice),("NotLess",C_NotLess),("NoRow",C_NoRow),("Overdrawn",C_Overdrawn)] K14.kt_NoRow=true∧mg "NotLess" = some (.ref C_NotLess)∧Mir.isiAll (L2.KOf KX) (.ref C_NotLess) [("NoNumber",C_NoNumber),("Empty",C_Empty),("NoThing",C_NoThing),("Lacking",C_Lacking),("AtTop",C_AtTop),("NoPlace",C_NoPlace),("Mixed",C_Mixed),("NoName",C_NoName),("Twice",C_Twice),("NotLess",C_NotLess),("NoRow",C_NoRow),("Overdrawn",C_Overdrawn)] K14.kt_NotLess=true∧mg "Twice" = some (.ref C_Twice)∧Mir.isiAll (L2.KOf KX) (.ref C_Twice) [("NoNumber",C_NoNumber),("Empty",C_Empty),("NoThing",C_NoThing),("Lacking",C_Lacking),("AtTop",C_AtTop),("NoPlace",C_NoPlace),("Mixed",C_Mixed),("NoName",C_NoName),("Twice",C_Twice),("NotLess",C_NotLess),("NoRow",C_NoRow),("Overdrawn",C_Overdrawn)] K14.kt_Twice=true∧mg "NoName" = some (.ref C_NoName)∧Mir.isiAll (L2.KOf KX) (.ref C_NoName) [("NoNumber",C_NoNumber),("Empty",C_Empty),("NoThing",C_NoThing),("Lacking",C_Lacking),("AtTop",C_AtTop),("NoPlace",C_NoPlace),("Mixed",C_Mixed),("NoName",C_NoName),("Twice",C_Twice),("NotLess",C_NotLess),("NoRow",C_NoRow),("Overdrawn",C_Overdrawn)] K14.kt_NoName=true∧mg "Mixed" = some (.ref C_Mixed)∧Mir.isiAll (L2.KOf KX) (.ref C_Mixed) [("NoNumber",C_NoNumber),("Empty",C_Empty),("NoThing",C_NoThing),("Lacking",C_Lacking),("AtTop",C_AtTop),("NoPlace",C_NoPlace),("Mixed",C_Mixed),("NoName",C_NoName),("Twice",C_Twice),("NotLess",C_NotLess),("NoRow",C_NoRow),("Overdrawn",C_Overdrawn)] K14.kt_Mixed=true∧mg "NoPlace" = some (.ref C_NoPlace)∧Mir.isiAll (L2.KOf KX) (.ref C_NoPlace) [("NoNumber",C_NoNumber),("Empty",C_Empty),("NoThing",C_NoThing),("Lacking",C_Lacking),("AtTop",C_AtTop),("NoPlace",C_NoPlace),("Mixed",C_Mixed),("NoName",C_NoName),("Twice",C_Twice),("NotLess",C_NotLess),("NoRow",C_NoRow),("Overdrawn",C_Overdrawn)] K14.kt_NoPlace=true∧mg "AtTop" = some (.ref C_AtTop)∧Mir.isiAll (L2.KOf KX) (.ref C_AtTop) [("NoNumber",C_NoNumber),("Empty",C_Empty),("NoThing",C_NoThing),("Lacking",C_Lacking),("AtTop",C_AtTop),("NoPlace",C_NoPlace),("Mixed",C_Mixed),("NoName",C_NoName),("Twice",C_Twice),("NotLess",C_NotLess),("NoRow",C_NoRow),("Overdrawn",C_Overdrawn)] K14.kt_AtTop=true∧mg "Lacking" = some (.ref C_Lacking)∧Mir.isiAll (L2.KOf KX) (.ref C_Lacking) [("NoNumber",C_NoNumber),("Empty",C_Empty),("NoThing",C_NoThing),("Lacking",C_Lacking),("AtTop",C_AtTop),("NoPlace",C_NoPlace),("Mixed",C_Mixed),("NoName",C_NoName),("Twice",C_Twice),("NotLess",C_NotLess),("NoRow",C_NoRow),("Overdrawn",C_Overdrawn)] K14.kt_Lacking=true∧mg "NoThing" = some (.ref C_NoThing)∧Mir.isiAll (L2.KOf KX) (.ref C_NoThing) [("NoNumber",C_NoNumber),("Empty",C_Empty),("NoThing",C_NoThing),("Lacking",C_Lacking),("AtTop",C_AtTop),("NoPlace",C_NoPlace),("Mixed",C_Mixed),("NoName",C_NoName),("Twice",C_Twice),("NotLess",C_NotLess),("NoRow",C_NoRow),("Overdrawn",C_Overdrawn)] K14.kt_NoThing=true∧mg "Empty" = some (.ref C_Empty)∧Mir.isiAll (L2.KOf KX) (.ref C_Empty) [("NoNumber",C_NoNumber),("Empty",C_Empty),("NoThing",C_NoThing),("Lacking",C_Lacking),("AtTop",C_AtTop),("NoPlace",C_NoPlace),("Mixed",C_Mixed),("NoName",C_NoName),("Twice",C_Twice),("NotLess",C_NotLess),("NoRow",C_NoRow),("Overdrawn",C_Overdrawn)] K14.kt_Empty=true∧Mir.isiAll (L2.KOf KX) (.ref C_Overdrawn) [("NoNumber",C_NoNumber),("Empty",C_Empty),("NoThing",C_NoThing),("Lacking",C_Lacking),("AtTop",C_AtTop),("NoPlace",C_NoPlace),("Mixed",C_Mixed),("NoName",C_NoName),("Twice",C_Twice),("NotLess",C_NotLess),("NoRow",C_NoRow),("Overdrawn",C_Overdrawn)] K14.kt_Overdrawn=true∧mg "NoNumber" = some (.ref C_NoNumber)∧Mir.isiAll (L2.KOf KX) (.ref C_NoNumber) [("NoNumber",C_NoNumber),("Empty",C_Empty),("NoThing",C_NoThing),("Lacking",C_Lacking),("AtTop",C_AtTop),("NoPlace",C_NoPlace),("Mixed",C_Mixed),("NoName",C_NoName),("Twice",C_Twice),("NotLess",C_NotLess),("NoRow",C_NoRow),("Overdrawn",C_Overdrawn)] K14.kt_NoNumber=true∧mg "CreditError" = some (.ref C_CreditError)∧Mir.isiAll (L2.KOf KX) (.ref C_CreditError) [("NoNumber",C_NoNumber),("Empty",C_Empty),("NoThing",C_NoThing),("Lacking",C_Lacking),("AtTop",C_AtTop),("NoPlace",C_NoPlace),("Mixed",C_Mixed),("NoName",C_NoName),("Twice",C_Twice),("NotLess",C_NotLess),("NoRow",C_NoRow),("Overdrawn",C_Overdrawn)] K14.kt_CreditError=true∧Mir.isiAll (L2.KOf KX) (.type "ValueError") [("NoNumber",C_NoNumber),("Empty",C_Empty),("NoThing",C_NoThing),("Lacking",C_Lacking),("AtTop",C_AtTop),("NoPlace",C_NoPlace),("Mixed",C_Mixed),("NoName",C_NoName),("Twice",C_Twice),("NotLess",C_NotLess),("NoRow",C_NoRow),("Overdrawn",C_Overdrawn)] K14.kt_ValueError=true∧PySem.W.excIn (L2.KOf KX) C_NoRow L2.bmV "ValueError.__new__" = true∧PySem.W.keepIn (L2.KOf KX) (.ref C_NoRow)=true∧PySem.W.excIn (L2.KOf KX) C_NotLess L2.bmV "ValueError.__new__" = true∧PySem.W.keepIn (L2.KOf KX) (.ref C_NotLess)=true∧PySem.W.excIn (L2.KOf KX) C_Twice L2.bmV "ValueError.__new__" = true∧PySem.W.keepIn (L2.KOf KX) (.ref C_Twice)=true∧PySem.W.excIn (L2.KOf KX) C_NoName L2.bmV "ValueError.__new__" = true∧PySem.W.keepIn (L2.KOf KX) (.ref C_NoName)=true∧PySem.W.excIn (L2.KOf KX) C_Mixed L2.bmV "ValueError.__new__" = true∧PySem.W.keepIn (L2.KOf KX) (.ref C_Mixed)=true∧PySem.W.excIn (L2.KOf KX) C_NoPlace L2.bmV "ValueError.__new__" = true∧PySem.W.keepIn (L2.KOf KX) (.ref C_NoPlace)=true∧PySem.W.excIn (L2.KOf KX) C_AtTop L2.bmV "ValueError.__new__" = true∧PySem.W.keepIn (L2.KOf KX) (.ref C_AtTop)=true∧PySem.W.excIn (L2.KOf KX) C_Lacking L2.bmV "ValueError.__new__" = true∧PySem.W.keepIn (L2.KOf KX) (.ref C_Lacking)=true∧PySem.W.excIn (L2.KOf KX) C_NoThing L2.bmV "ValueError.__new__" = true∧PySem.W.keepIn (L2.KOf KX) (.ref C_NoThing)=true∧PySem.W.excIn (L2.KOf KX) C_Empty L2.bmV "ValueError.__new__" = true∧PySem.W.keepIn (L2.KOf KX) (.ref C_Empty)=true∧PySem.W.excIn (L2.KOf KX) C_NoNumber L2.bmV "ValueError.__new__" = true∧PySem.W.keepIn (L2.KOf KX) (.ref C_NoNumber)=true∧PySem.W.exmOne (L2.KOf KX) (.ref C_NoNumber) (.ref C_CreditError)=some true∧PySem.W.exmOne (L2.KOf KX) (.ref C_Overdrawn) (.ref C_CreditError)=some true:=by
      dsimp only [L2.KOf]
      refine' ⟨_,_,_,_,_,_,_,_,_,_,_,_,_,_,_,⟨?cl,?sa,?byf,?fn,?kp⟩,PySem.W.mg_of KX G ?m,?at_,L2.mem_mk ?l ?c,⟨?ga,?gn,?sub,?hd,?no⟩,?xm,PySem.W.mg_of KX G ?mc,?rd,?fc,?sp,PySem.W.mg_of KX G ?m_NoRow,⟨?k_NoNumber_0,?k_NoNumber_1,?k_NoNumber_2,?k_NoNumber_3,?k_NoNumber_4,?k_NoNumber_5,?k_NoNumber_6,?k_NoNumber_7⟩,⟨?k_Empty_0,?k_Empty_1,?k_Empty_2,?k_Empty_3,?k_Empty_4,?k_Empty_5,?k_Empty_6,?k_Empty_7⟩,⟨?k_NoThing_0,?k_NoThing_1,?k_NoThing_2,?k_NoThing_3,?k_NoThing_4,?k_NoThing_5,?k_NoThing_6,?k_NoThing_7⟩,⟨?k_Lacking_0,?k_Lacking_1,?k_Lacking_2,?k_Lacking_3,?k_Lacking_4,?k_Lacking_5,?k_Lacking_6,?k_Lacking_7⟩,⟨?k_AtTop_0,?k_AtTop_1,?k_AtTop_2,?k_AtTop_3,?k_AtTop_4,?k_AtTop_5,?k_AtTop_6,?k_AtTop_7⟩,⟨?k_NoPlace_0,?k_NoPlace_1,?k_NoPlace_2,?k_NoPlace_3,?k_NoPlace_4,?k_NoPlace_5,?k_NoPlace_6,?k_NoPlace_7⟩,⟨?k_Mixed_0,?k_Mixed_1,?k_Mixed_2,?k_Mixed_3,?k_Mixed_4,?k_Mixed_5,?k_Mixed_6,?k_Mixed_7⟩,⟨?k_NoName_0,?k_NoName_1,?k_NoName_2,?k_NoName_3,?k_NoName_4,?k_NoName_5,?k_NoName_6,?k_NoName_7⟩,⟨?k_Twice_0,?k_Twice_1,?k_Twice_2,?k_Twice_3,?k_Twice_4,?k_Twice_5,?k_Twice_6,?k_Twice_7⟩,⟨?k_NotLess_0,?k_NotLess_1,?k_NotLess_2,?k_NotLess_3,?k_NotLess_4,?k_NotLess_5,?k_NotLess_6,?k_NotLess_7⟩,⟨?k_NoRow_0,?k_NoRow_1,?k_NoRow_2,?k_NoRow_3,?k_NoRow_4,?k_NoRow_5,?k_NoRow_6,?k_NoRow_7⟩,⟨?k_Overdrawn_0,?k_Overdrawn_1,?k_Overdrawn_2,?k_Overdrawn_3,?k_Overdrawn_4,?k_Overdrawn_5,?k_Overdrawn_6,?k_Overdrawn_7⟩,?ii_NoRow,PySem.W.mg_of KX G ?m_NotLess,?ii_NotLess,PySem.W.mg_of KX G ?m_Twice,?ii_Twice,PySem.W.mg_of KX G ?m_NoName,?ii_NoName,PySem.W.mg_of KX G ?m_Mixed,?ii_Mixed,PySem.W.mg_of KX G ?m_NoPlace,?ii_NoPlace,PySem.W.mg_of KX G ?m_AtTop,?ii_AtTop,PySem.W.mg_of KX G ?m_Lacking,?ii_Lacking,PySem.W.mg_of KX G ?m_NoThing,?ii_NoThing,PySem.W.mg_of KX G ?m_Empty,?ii_Empty,?ii_Overdrawn,PySem.W.mg_of KX G ?m_NoNumber,?ii_NoNumber,PySem.W.mg_of KX G ?m_CreditError,?ii_CreditError,?ii_ValueError,?x_NoRow,?kp_NoRow,?x_NotLess,?kp_NotLess,?x_Twice,?kp_Twice,?x_NoName,?kp_NoName,?x_Mixed,?kp_Mixed,?x_NoPlace,?kp_NoPlace,?x_AtTop,?kp_AtTop,?x_Lacking,?kp_Lacking,?x_NoThing,?kp_NoThing,?x_Empty,?kp_Empty,?x_NoNumber,?kp_NoNumber,?h_NoNumber_CreditError,?h_Overdrawn_CreditError⟩
      (case m=>first | k_is | k_exc | rfl | kernel_rfl | decide +kernel)
      (case mc=>first | k_is | k_exc | rfl | kernel_rfl | decide +kernel)
      (case m_NoRow=>first | k_is | k_exc | rfl | kernel_rfl | decide +kernel)
      (case m_NotLess=>first | k_is | k_exc | rfl | kernel_rfl | decide +kernel)
      (case m_Twice=>first | k_is | k_exc | rfl | kernel_rfl | decide +kernel)
      (case m_NoName=>first | k_is | k_exc | rfl | kernel_rfl | decide +kernel)
      (case m_Mixed=>first | k_is | k_exc | rfl | kernel_rfl | decide +kernel)
      (case m_NoPlace=>first | k_is | k_exc | rfl | kernel_rfl | decide +kernel)
      (case m_AtTop=>first | k_is | k_exc | rfl | kernel_rfl | decide +kernel)
      (case m_Lacking=>first | k_is | k_exc | rfl | kernel_rfl | decide +kernel)
      (case m_NoThing=>first | k_is | k_exc | rfl | kernel_rfl | decide +kernel)
      (case m_Empty=>first | k_is | k_exc | rfl | kernel_rfl | decide +kernel)
      (case m_NoNumber=>first | k_is | k_exc | rfl | kernel_rfl | decide +kernel)
      (case m_CreditError=>first | k_is | k_exc | rfl | kernel_rfl | decide +kernel)
      (case at_=>first | k_is | k_exc | rfl | kernel_rfl | decide +kernel)
      (case l=>first | k_is | k_exc | rfl | kernel_rfl | decide +kernel)
      (case c=>first | k_is | k_exc | rfl | kernel_rfl | decide +kernel)
      (case cl=>first | k_is | k_exc | rfl | kernel_rfl | decide +kernel)
      (case sa=>first | k_is | k_exc | rfl | kernel_rfl | decide +kernel)
      (case byf=>first | k_is | k_exc | rfl | kernel_rfl | decide +kernel)
      (case fn=>first | k_is | k_exc | rfl | kernel_rfl | decide +kernel)
      (case kp=>first | k_is | k_exc | rfl | kernel_rfl | decide +kernel)
      (case ga=>first | k_is | k_exc | rfl | kernel_rfl | decide +kernel)
      (case gn=>first | k_is | k_exc | rfl | kernel_rfl | decide +kernel)
      (case sub=>first | k_is | k_exc | rfl | kernel_rfl | decide +kernel)
      (case hd=>first | k_is | k_exc | rfl | kernel_rfl | decide +kernel)
      (case no=>first | k_is | k_exc | rfl | kernel_rfl | decide +kernel)
      (case xm=>first | k_is | k_exc | rfl | kernel_rfl | decide +kernel)
      (case rd=>first | k_is | k_exc | rfl | kernel_rfl | decide +kernel)
      (case fc=>first | k_is | k_exc | rfl | kernel_rfl | decide +kernel)
      (case sp=>first | k_is | k_exc | rfl | kernel_rfl | decide +kernel)
      (case k_NoNumber_0=>first | k_is | k_exc | rfl | kernel_rfl | decide +kernel)
      (case k_NoNumber_1=>first | k_is | k_exc | rfl | kernel_rfl | decide +kernel)
      (case k_NoNumber_2=>first | k_is | k_exc | rfl | kernel_rfl | decide +kernel)
      (case k_NoNumber_3=>first | k_is | k_exc | rfl | kernel_rfl | decide +kernel)
      (case k_NoNumber_4=>first | k_is | k_exc | rfl | kernel_rfl | decide +kernel)
      (case k_NoNumber_5=>first | k_is | k_exc | rfl | kernel_rfl | decide +kernel)
      (case k_NoNumber_6=>first | k_is | k_exc | rfl | kernel_rfl | decide +kernel)
      (case k_NoNumber_7=>first | k_is | k_exc | rfl | kernel_rfl | decide +kernel)
      (case k_Empty_0=>first | k_is | k_exc | rfl | kernel_rfl | decide +kernel)
      (case k_Empty_1=>first | k_is | k_exc | rfl | kernel_rfl | decide +kernel)
      (case k_Empty_2=>first | k_is | k_exc | rfl | kernel_rfl | decide +kernel)
      (case k_Empty_3=>first | k_is | k_exc | rfl | kernel_rfl | decide +kernel)
      (case k_Empty_4=>first | k_is | k_exc | rfl | kernel_rfl | decide +kernel)
      (case k_Empty_5=>first | k_is | k_exc | rfl | kernel_rfl | decide +kernel)
      (case k_Empty_6=>first | k_is | k_exc | rfl | kernel_rfl | decide +kernel)
      (case k_Empty_7=>first | k_is | k_exc | rfl | kernel_rfl | decide +kernel)
      (case k_NoThing_0=>first | k_is | k_exc | rfl | kernel_rfl | decide +kernel)
      (case k_NoThing_1=>first | k_is | k_exc | rfl | kernel_rfl | decide +kernel)
      (case k_NoThing_2=>first | k_is | k_exc | rfl | kernel_rfl | decide +kernel)
      (case k_NoThing_3=>first | k_is | k_exc | rfl | kernel_rfl | decide +kernel)
      (case k_NoThing_4=>first | k_is | k_exc | rfl | kernel_rfl | decide +kernel)
      (case k_NoThing_5=>first | k_is | k_exc | rfl | kernel_rfl | decide +kernel)
      (case k_NoThing_6=>first | k_is | k_exc | rfl | kernel_rfl | decide +kernel)
      (case k_NoThing_7=>first | k_is | k_exc | rfl | kernel_rfl | decide +kernel)
      (case k_Lacking_0=>first | k_is | k_exc | rfl | kernel_rfl | decide +kernel)
      (case k_Lacking_1=>first | k_is | k_exc | rfl | kernel_rfl | decide +kernel)
      (case k_Lacking_2=>first | k_is | k_exc | rfl | kernel_rfl | decide +kernel)
      (case k_Lacking_3=>first | k_is | k_exc | rfl | kernel_rfl | decide +kernel)
      (case k_Lacking_4=>first | k_is | k_exc | rfl | kernel_rfl | decide +kernel)
      (case k_Lacking_5=>first | k_is | k_exc | rfl | kernel_rfl | decide +kernel)
      (case k_Lacking_6=>first | k_is | k_exc | rfl | kernel_rfl | decide +kernel)
      (case k_Lacking_7=>first | k_is | k_exc | rfl | kernel_rfl | decide +kernel)
      (case k_AtTop_0=>first | k_is | k_exc | rfl | kernel_rfl | decide +kernel)
      (case k_AtTop_1=>first | k_is | k_exc | rfl | kernel_rfl | decide +kernel)
      (case k_AtTop_2=>first | k_is | k_exc | rfl | kernel_rfl | decide +kernel)
      (case k_AtTop_3=>first | k_is | k_exc | rfl | kernel_rfl | decide +kernel)
      (case k_AtTop_4=>first | k_is | k_exc | rfl | kernel_rfl | decide +kernel)
      (case k_AtTop_5=>first | k_is | k_exc | rfl | kernel_rfl | decide +kernel)
      (case k_AtTop_6=>first | k_is | k_exc | rfl | kernel_rfl | decide +kernel)
      (case k_AtTop_7=>first | k_is | k_exc | rfl | kernel_rfl | decide +kernel)
      (case k_NoPlace_0=>first | k_is | k_exc | rfl | kernel_rfl | decide +kernel)
      (case k_NoPlace_1=>first | k_is | k_exc | rfl | kernel_rfl | decide +kernel)
      (case k_NoPlace_2=>first | k_is | k_exc | rfl | kernel_rfl | decide +kernel)
      (case k_NoPlace_3=>first | k_is | k_exc | rfl | kernel_rfl | decide +kernel)
      (case k_NoPlace_4=>first | k_is | k_exc | rfl | kernel_rfl | decide +kernel)
      (case k_NoPlace_5=>first | k_is | k_exc | rfl | kernel_rfl | decide +kernel)
      (case k_NoPlace_6=>first | k_is | k_exc | rfl | kernel_rfl | decide +kernel)
      (case k_NoPlace_7=>first | k_is | k_exc | rfl | kernel_rfl | decide +kernel)
      (case k_Mixed_0=>first | k_is | k_exc | rfl | kernel_rfl | decide +kernel)
      (case k_Mixed_1=>first | k_is | k_exc | rfl | kernel_rfl | decide +kernel)
      (case k_Mixed_2=>first | k_is | k_exc | rfl | kernel_rfl | decide +kernel)
      (case k_Mixed_3=>first | k_is | k_exc | rfl | kernel_rfl | decide +kernel)
      (case k_Mixed_4=>first | k_is | k_exc | rfl | kernel_rfl | decide +kernel)
      (case k_Mixed_5=>first | k_is | k_exc | rfl | kernel_rfl | decide +kernel)
      (case k_Mixed_6=>first | k_is | k_exc | rfl | kernel_rfl | decide +kernel)
      (case k_Mixed_7=>first | k_is | k_exc | rfl | kernel_rfl | decide +kernel)
      (case k_NoName_0=>first | k_is | k_exc | rfl | kernel_rfl | decide +kernel)
      (case k_NoName_1=>first | k_is | k_exc | rfl | kernel_rfl | decide +kernel)
      (case k_NoName_2=>first | k_is | k_exc | rfl | kernel_rfl | decide +kernel)
      (case k_NoName_3=>first | k_is | k_exc | rfl | kernel_rfl | decide +kernel)
      (case k_NoName_4=>first | k_is | k_exc | rfl | kernel_rfl | decide +kernel)
      (case k_NoName_5=>first | k_is | k_exc | rfl | kernel_rfl | decide +kernel)
      (case k_NoName_6=>first | k_is | k_exc | rfl | kernel_rfl | decide +kernel)
      (case k_NoName_7=>first | k_is | k_exc | rfl | kernel_rfl | decide +kernel)
      (case k_Twice_0=>first | k_is | k_exc | rfl | kernel_rfl | decide +kernel)
      (case k_Twice_1=>first | k_is | k_exc | rfl | kernel_rfl | decide +kernel)
      (case k_Twice_2=>first | k_is | k_exc | rfl | kernel_rfl | decide +kernel)
      (case k_Twice_3=>first | k_is | k_exc | rfl | kernel_rfl | decide +kernel)
      (case k_Twice_4=>first | k_is | k_exc | rfl | kernel_rfl | decide +kernel)
      (case k_Twice_5=>first | k_is | k_exc | rfl | kernel_rfl | decide +kernel)
      (case k_Twice_6=>first | k_is | k_exc | rfl | kernel_rfl | decide +kernel)
      (case k_Twice_7=>first | k_is | k_exc | rfl | kernel_rfl | decide +kernel)
      (case k_NotLess_0=>first | k_is | k_exc | rfl | kernel_rfl | decide +kernel)
      (case k_NotLess_1=>first | k_is | k_exc | rfl | kernel_rfl | decide +kernel)
      (case k_NotLess_2=>first | k_is | k_exc | rfl | kernel_rfl | decide +kernel)
      (case k_NotLess_3=>first | k_is | k_exc | rfl | kernel_rfl | decide +kernel)
      (case k_NotLess_4=>first | k_is | k_exc | rfl | kernel_rfl | decide +kernel)
      (case k_NotLess_5=>first | k_is | k_exc | rfl | kernel_rfl | decide +kernel)
      (case k_NotLess_6=>first | k_is | k_exc | rfl | kernel_rfl | decide +kernel)
      (case k_NotLess_7=>first | k_is | k_exc | rfl | kernel_rfl | decide +kernel)
      (case k_NoRow_0=>first | k_is | k_exc | rfl | kernel_rfl | decide +kernel)
      (case k_NoRow_1=>first | k_is | k_exc | rfl | kernel_rfl | decide +kernel)
      (case k_NoRow_2=>first | k_is | k_exc | rfl | kernel_rfl | decide +kernel)
      (case k_NoRow_3=>first | k_is | k_exc | rfl | kernel_rfl | decide +kernel)
      (case k_NoRow_4=>first | k_is | k_exc | rfl | kernel_rfl | decide +kernel)
      (case k_NoRow_5=>first | k_is | k_exc | rfl | kernel_rfl | decide +kernel)
      (case k_NoRow_6=>first | k_is | k_exc | rfl | kernel_rfl | decide +kernel)
      (case k_NoRow_7=>first | k_is | k_exc | rfl | kernel_rfl | decide +kernel)
      (case k_Overdrawn_0=>first | k_is | k_exc | rfl | kernel_rfl | decide +kernel)
      (case k_Overdrawn_1=>first | k_is | k_exc | rfl | kernel_rfl | decide +kernel)
      (case k_Overdrawn_2=>first | k_is | k_exc | rfl | kernel_rfl | decide +kernel)
      (case k_Overdrawn_3=>first | k_is | k_exc | rfl | kernel_rfl | decide +kernel)
      (case k_Overdrawn_4=>first | k_is | k_exc | rfl | kernel_rfl | decide +kernel)
      (case k_Overdrawn_5=>first | k_is | k_exc | rfl | kernel_rfl | decide +kernel)
      (case k_Overdrawn_6=>first | k_is | k_exc | rfl | kernel_rfl | decide +kernel)
      (case k_Overdrawn_7=>first | k_is | k_exc | rfl | kernel_rfl | decide +kernel)
      (case ii_NoRow=>first | k_is | k_exc | kernel_rfl | rfl | decide +kernel)
      (case ii_NotLess=>first | k_is | k_exc | kernel_rfl | rfl | decide +kernel)
      (case ii_Twice=>first | k_is | k_exc | kernel_rfl | rfl | decide +kernel)
      (case ii_NoName=>first | k_is | k_exc | kernel_rfl | rfl | decide +kernel)
      (case ii_Mixed=>first | k_is | k_exc | kernel_rfl | rfl | decide +kernel)
      (case ii_NoPlace=>first | k_is | k_exc | kernel_rfl | rfl | decide +kernel)
      (case ii_AtTop=>first | k_is | k_exc | kernel_rfl | rfl | decide +kernel)
      (case ii_Lacking=>first | k_is | k_exc | kernel_rfl | rfl | decide +kernel)
      (case ii_NoThing=>first | k_is | k_exc | kernel_rfl | rfl | decide +kernel)
      (case ii_Empty=>first | k_is | k_exc | kernel_rfl | rfl | decide +kernel)
      (case ii_Overdrawn=>first | k_is | k_exc | kernel_rfl | rfl | decide +kernel)
      (case ii_NoNumber=>first | k_is | k_exc | kernel_rfl | rfl | decide +kernel)
      (case ii_CreditError=>first | k_is | k_exc | kernel_rfl | rfl | decide +kernel)
      (case ii_ValueError=>first | k_is | k_exc | kernel_rfl | rfl | decide +kernel)
      (case x_NoRow=>first | k_is | k_exc | rfl | kernel_rfl | decide +kernel)
      (case kp_NoRow=>first | k_is | k_exc | rfl | kernel_rfl | decide +kernel)
      (case x_NotLess=>first | k_is | k_exc | rfl | kernel_rfl | decide +kernel)
      (case kp_NotLess=>first | k_is | k_exc | rfl | kernel_rfl | decide +kernel)
      (case x_Twice=>first | k_is | k_exc | rfl | kernel_rfl | decide +kernel)
      (case kp_Twice=>first | k_is | k_exc | rfl | kernel_rfl | decide +kernel)
      (case x_NoName=>first | k_is | k_exc | rfl | kernel_rfl | decide +kernel)
      (case kp_NoName=>first | k_is | k_exc | rfl | kernel_rfl | decide +kernel)
      (case x_Mixed=>first | k_is | k_exc | rfl | kernel_rfl | decide +kernel)
      (case kp_Mixed=>first | k_is | k_exc | rfl | kernel_rfl | decide +kernel)
      (case x_NoPlace=>first | k_is | k_exc | rfl | kernel_rfl | decide +kernel)
      (case kp_NoPlace=>first | k_is | k_exc | rfl | kernel_rfl | decide +kernel)
      (case x_AtTop=>first | k_is | k_exc | rfl | kernel_rfl | decide +kernel)
      (case kp_AtTop=>first | k_is | k_exc | rfl | kernel_rfl | decide +kernel)
      (case x_Lacking=>first | k_is | k_exc | rfl | kernel_rfl | decide +kernel)
      (case kp_Lacking=>first | k_is | k_exc | rfl | kernel_rfl | decide +kernel)
      (case x_NoThing=>first | k_is | k_exc | rfl | kernel_rfl | decide +kernel)
      (case kp_NoThing=>first | k_is | k_exc | rfl | kernel_rfl | decide +kernel)
      (case x_Empty=>first | k_is | k_exc | rfl | kernel_rfl | decide +kernel)
      (case kp_Empty=>first | k_is | k_exc | rfl | kernel_rfl | decide +kernel)
      (case x_NoNumber=>first | k_is | k_exc | rfl | kernel_rfl | decide +kernel)
      (case kp_NoNumber=>first | k_is | k_exc | rfl | kernel_rfl | decide +kernel)
      (case h_NoNumber_CreditError=>first | k_is | k_exc | rfl | kernel_rfl | decide +kernel)
      (case h_Overdrawn_CreditError=>first | k_is | k_exc | rfl | kernel_rfl | decide +kernel)
    obtain ⟨C_Overdrawn,C_CreditError,C_NoNumber,C_Empty,C_NoThing,C_Lacking,C_AtTop,C_NoPlace,C_Mixed,C_NoName,C_Twice,C_NotLess,C_NoRow,f_Overdrawn,fd_Overdrawn,ZI_Overdrawn,mg_Overdrawn,_,F_Overdrawn,xf_Overdrawn,xm_Overdrawn,mc_Overdrawn,rd_Overdrawn,fc_Overdrawn,sp_Overdrawn,q_m_NoRow,q_k_NoNumber,q_k_Empty,q_k_NoThing,q_k_Lacking,q_k_AtTop,q_k_NoPlace,q_k_Mixed,q_k_NoName,q_k_Twice,q_k_NotLess,q_k_NoRow,q_k_Overdrawn,q_ii_NoRow,q_m_NotLess,q_ii_NotLess,q_m_Twice,q_ii_Twice,q_m_NoName,q_ii_NoName,q_m_Mixed,q_ii_Mixed,q_m_NoPlace,q_ii_NoPlace,q_m_AtTop,q_ii_AtTop,q_m_Lacking,q_ii_Lacking,q_m_NoThing,q_ii_NoThing,q_m_Empty,q_ii_Empty,q_ii_Overdrawn,q_m_NoNumber,q_ii_NoNumber,q_m_CreditError,q_ii_CreditError,q_ii_ValueError,q_x_NoRow,q_kp_NoRow,q_x_NotLess,q_kp_NotLess,q_x_Twice,q_kp_Twice,q_x_NoName,q_kp_NoName,q_x_Mixed,q_kp_Mixed,q_x_NoPlace,q_kp_NoPlace,q_x_AtTop,q_kp_AtTop,q_x_Lacking,q_kp_Lacking,q_x_NoThing,q_kp_NoThing,q_x_Empty,q_kp_Empty,q_x_NoNumber,q_kp_NoNumber,q_h_NoNumber_CreditError,q_h_Overdrawn_CreditError⟩:=CLX
    letI zl:Mir.Zl:=⟨fun c=>if c = "Overdrawn" then .ref C_Overdrawn else if c = "CreditError" then .ref C_CreditError else if c = "NoNumber" then .ref C_NoNumber else if c = "Empty" then .ref C_Empty else if c = "NoThing" then .ref C_NoThing else if c = "Lacking" then .ref C_Lacking else if c = "AtTop" then .ref C_AtTop else if c = "NoPlace" then .ref C_NoPlace else if c = "Mixed" then .ref C_Mixed else if c = "NoName" then .ref C_NoName else if c = "Twice" then .ref C_Twice else if c = "NotLess" then .ref C_NotLess else if c = "NoRow" then .ref C_NoRow else .none⟩
    have zz_Overdrawn:zl.cl "Overdrawn" = .ref C_Overdrawn:=by
      show ite _ _ _=_
      rw [if_pos rfl]
    have zz_CreditError:zl.cl "CreditError" = .ref C_CreditError:=by
      show ite _ _ _=_
      rw [if_neg (by decide),if_pos rfl]
    have zz_NoNumber:zl.cl "NoNumber" = .ref C_NoNumber:=by
      show ite _ _ _=_
      rw [if_neg (by decide),if_neg (by decide),if_pos rfl]
    have zz_Empty:zl.cl "Empty" = .ref C_Empty:=by
      show ite _ _ _=_
      rw [if_neg (by decide),if_neg (by decide),if_neg (by decide),if_pos rfl]
    have zz_NoThing:zl.cl "NoThing" = .ref C_NoThing:=by
      show ite _ _ _=_
      rw [if_neg (by decide),if_neg (by decide),if_neg (by decide),if_neg (by decide),if_pos rfl]
    have zz_Lacking:zl.cl "Lacking" = .ref C_Lacking:=by
      show ite _ _ _=_
      rw [if_neg (by decide),if_neg (by decide),if_neg (by decide),if_neg (by decide),if_neg (by decide),if_pos rfl]
    have zz_AtTop:zl.cl "AtTop" = .ref C_AtTop:=by
      show ite _ _ _=_
      rw [if_neg (by decide),if_neg (by decide),if_neg (by decide),if_neg (by decide),if_neg (by decide),if_neg (by decide),if_pos rfl]
    have zz_NoPlace:zl.cl "NoPlace" = .ref C_NoPlace:=by
      show ite _ _ _=_
      rw [if_neg (by decide),if_neg (by decide),if_neg (by decide),if_neg (by decide),if_neg (by decide),if_neg (by decide),if_neg (by decide),if_pos rfl]
    have zz_Mixed:zl.cl "Mixed" = .ref C_Mixed:=by
      show ite _ _ _=_
      rw [if_neg (by decide),if_neg (by decide),if_neg (by decide),if_neg (by decide),if_neg (by decide),if_neg (by decide),if_neg (by decide),if_neg (by decide),if_pos rfl]
    have zz_NoName:zl.cl "NoName" = .ref C_NoName:=by
      show ite _ _ _=_
      rw [if_neg (by decide),if_neg (by decide),if_neg (by decide),if_neg (by decide),if_neg (by decide),if_neg (by decide),if_neg (by decide),if_neg (by decide),if_neg (by decide),if_pos rfl]
    have zz_Twice:zl.cl "Twice" = .ref C_Twice:=by
      show ite _ _ _=_
      rw [if_neg (by decide),if_neg (by decide),if_neg (by decide),if_neg (by decide),if_neg (by decide),if_neg (by decide),if_neg (by decide),if_neg (by decide),if_neg (by decide),if_neg (by decide),if_pos rfl]
    have zz_NotLess:zl.cl "NotLess" = .ref C_NotLess:=by
      show ite _ _ _=_
      rw [if_neg (by decide),if_neg (by decide),if_neg (by decide),if_neg (by decide),if_neg (by decide),if_neg (by decide),if_neg (by decide),if_neg (by decide),if_neg (by decide),if_neg (by decide),if_neg (by decide),if_pos rfl]
    have zz_NoRow:zl.cl "NoRow" = .ref C_NoRow:=by
      show ite _ _ _=_
      rw [if_neg (by decide),if_neg (by decide),if_neg (by decide),if_neg (by decide),if_neg (by decide),if_neg (by decide),if_neg (by decide),if_neg (by decide),if_neg (by decide),if_neg (by decide),if_neg (by decide),if_neg (by decide),if_pos rfl]
    let ca:K14.CA:=⟨C_Ledger,C_Overdrawn,C_CreditError,C_NoNumber,C_Empty,C_NoThing,C_Lacking,C_AtTop,C_NoPlace,C_Mixed,C_NoName,C_Twice,C_NotLess,C_NoRow⟩
    have cf:K14.CF (L2.KOf KX) mg ca:=⟨cl_Ledger,n_Ledger_rows,zz_Overdrawn,mg_Overdrawn,xm_Overdrawn,xf_Overdrawn,q_m_NoRow,zz_NoNumber,q_k_NoNumber,zz_Empty,q_k_Empty,zz_NoThing,q_k_NoThing,zz_Lacking,q_k_Lacking,zz_AtTop,q_k_AtTop,zz_NoPlace,q_k_NoPlace,zz_Mixed,q_k_Mixed,zz_NoName,q_k_NoName,zz_Twice,q_k_Twice,zz_NotLess,q_k_NotLess,zz_NoRow,q_k_NoRow,q_k_Overdrawn,q_ii_NoRow,q_m_NotLess,q_ii_NotLess,q_m_Twice,q_ii_Twice,q_m_NoName,q_ii_NoName,q_m_Mixed,q_ii_Mixed,q_m_NoPlace,q_ii_NoPlace,q_m_AtTop,q_ii_AtTop,q_m_Lacking,q_ii_Lacking,q_m_NoThing,q_ii_NoThing,q_m_Empty,q_ii_Empty,q_ii_Overdrawn,q_m_NoNumber,q_ii_NoNumber,q_m_CreditError,q_ii_CreditError,q_ii_ValueError,q_x_NoRow,q_kp_NoRow,q_x_NotLess,q_kp_NotLess,q_x_Twice,q_kp_Twice,q_x_NoName,q_kp_NoName,q_x_Mixed,q_kp_Mixed,q_x_NoPlace,q_kp_NoPlace,q_x_AtTop,q_kp_AtTop,q_x_Lacking,q_kp_Lacking,q_x_NoThing,q_kp_NoThing,q_x_Empty,q_kp_Empty,q_x_NoNumber,q_kp_NoNumber,q_h_NoNumber_CreditError,q_h_Overdrawn_CreditError⟩
    refine ⟨T_law,fun f fd Ff base kb gb=>?_⟩
    have FI_Overdrawn:=K14.fi_Overdrawn (P:=PySem.Challenge.rw_creditworks_k14_what_is_refused.prog) (w:=w) (base:=base) (ca:=ca) F_Overdrawn ZI_Overdrawn mc_Overdrawn rd_Overdrawn fc_Overdrawn sp_Overdrawn
    have BI_Overdrawn:=F_Overdrawn.binds (ps:=["self","by"]) (fun _ _ _ _ _ _ us hl=>match us,hl with | [_,_],_=>rfl)
    have FO_Ledger_init:=K14.fo_Ledger_init (P:=PySem.Challenge.rw_creditworks_k14_what_is_refused.prog) (w:=w) (base:=base) Z cf F_Ledger_init
    have CD_Ledger:L2.CDef _ _ (L2.KOf KX) mg base L2.CX0 1 "Ledger" ca.Ledger ["self"] _:=⟨⟨_,_,FO_Ledger_init,mg_Ledger,mk_Ledger,F_Ledger_init.binds (fun _ _ _ _ _ _ us hl=>match us,hl with | [_],_=>rfl)⟩⟩
    have D_law_kinds:=K14.ok_law_kinds (P:=PySem.Challenge.rw_creditworks_k14_what_is_refused.prog) (w:=w) (base:=base) Z cf T_law_kinds
    have DH_law_kinds:=K14.okh_law_kinds (P:=PySem.Challenge.rw_creditworks_k14_what_is_refused.prog) (w:=w) (base:=base) Z cf T_law_kinds
    have D_law_whole:=K14.ok_law_whole (P:=PySem.Challenge.rw_creditworks_k14_what_is_refused.prog) (w:=w) (base:=base) Z T_law_whole
    have D_law_made:=K14.ok_law_made (P:=PySem.Challenge.rw_creditworks_k14_what_is_refused.prog) (w:=w) (base:=base) Z cf T_law_made ZI_Overdrawn FI_Overdrawn BI_Overdrawn D_law_kinds D_law_whole
    have FO_Ledger_credit:=K14.fo_Ledger_credit (P:=PySem.Challenge.rw_creditworks_k14_what_is_refused.prog) (w:=w) (base:=base) Z cf F_Ledger_credit
    have MD_Ledger_credit_0:L2.MDef _ _ (L2.KOf KX) mg base L2.CX0 1 ca.Ledger "credit" ["self"] [] _:=⟨⟨_,_,[],FO_Ledger_credit,cf.cl_Ledger,me_Ledger_credit,F_Ledger_credit.binds (fun _ _ _ _ _ _ us hl=>match us,hl with | [_],_=>rfl),.nil⟩⟩
    have D_is_count:=K14.ok_is_count (P:=PySem.Challenge.rw_creditworks_k14_what_is_refused.prog) (w:=w) (base:=base) Z T_is_count
    have FO_Ledger_enter:=K14.fo_Ledger_enter (P:=PySem.Challenge.rw_creditworks_k14_what_is_refused.prog) (w:=w) (base:=base) Z cf F_Ledger_enter ZI_Overdrawn FI_Overdrawn BI_Overdrawn D_is_count MD_Ledger_credit_0
    obtain ⟨ds_Ledger_enter_1,bd_Ledger_enter_1,vd_Ledger_enter_1⟩:=K14.bd_Ledger_enter_1 F_Ledger_enter
    have MD_Ledger_enter_1:L2.MDef _ _ (L2.KOf KX) mg base (L2.CXD _ _) 3 ca.Ledger "enter" ["self","word","steps","price","credit"] [.non] _:=⟨⟨_,_,_,FO_Ledger_enter,cf.cl_Ledger,me_Ledger_enter,bd_Ledger_enter_1,vd_Ledger_enter_1⟩⟩
    obtain ⟨ds_Ledger_enter_0,bd_Ledger_enter_0,vd_Ledger_enter_0⟩:=K14.bd_Ledger_enter_0 F_Ledger_enter
    have MD_Ledger_enter_0:L2.MDef _ _ (L2.KOf KX) mg base (L2.CXD _ _) 3 ca.Ledger "enter" ["self","word","steps","price","credit"] [] _:=⟨⟨_,_,_,FO_Ledger_enter,cf.cl_Ledger,me_Ledger_enter,bd_Ledger_enter_0,vd_Ledger_enter_0⟩⟩
    have D_law_cell_at:=K14.ok_law_cell_at (P:=PySem.Challenge.rw_creditworks_k14_what_is_refused.prog) (w:=w) (base:=base) Z T_law_cell_at
    have D_law_try:=K14.ok_law_try (P:=PySem.Challenge.rw_creditworks_k14_what_is_refused.prog) (w:=w) (base:=base) Z cf T_law_try MD_Ledger_enter_1 MD_Ledger_enter_0 D_law_kinds DH_law_kinds
    have D_law_bad:=K14.ok_law_bad (P:=PySem.Challenge.rw_creditworks_k14_what_is_refused.prog) (w:=w) (base:=base) Z T_law_bad
    have D_law_refused:=K14.ok_law_refused (P:=PySem.Challenge.rw_creditworks_k14_what_is_refused.prog) (w:=w) (base:=base) Z cf T_law_refused D_law_try D_law_bad D_law_whole
    have FO_Ledger_entries:=K14.fo_Ledger_entries (P:=PySem.Challenge.rw_creditworks_k14_what_is_refused.prog) (w:=w) (base:=base) Z cf F_Ledger_entries
    have MD_Ledger_entries_0:L2.MDef _ _ (L2.KOf KX) mg base L2.CX0 1 ca.Ledger "entries" ["self"] [] _:=⟨⟨_,_,[],FO_Ledger_entries,cf.cl_Ledger,me_Ledger_entries,F_Ledger_entries.binds (fun _ _ _ _ _ _ us hl=>match us,hl with | [_],_=>rfl),.nil⟩⟩
    exact K14.ok_law NL Z cf Ff D_law_cell_at D_law_made MD_Ledger_credit_0 MD_Ledger_entries_0 D_law_refused MD_Ledger_enter_1 MD_Ledger_enter_0 CD_Ledger

