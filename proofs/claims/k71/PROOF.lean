import PyProof.Rows.All
import Wide.All
import OpenK.AllK
import Wide.FinOn
import Lean
import PyProof.EqAt
import PyProof.EqKinds
import PyProof.TupleCall
import KE.KTryMore
import PyProof.ZipIter
import PyProof.EnumMake
import PyProof.Rows.EnumRows
import KE.KSortTup
import KE.KDictLaws
import KE.KDictList
import PyProof.Rows.SetFrom
import PyProof.DictWalks
import PyProof.Rows.StrInSeq3
import PyProof.DictItems
import PyProof.Rows.SortShellK
import PyProof.Rows.SortKeyStr
import PyProof.NeKinds
import PyProof.FactsAll.dict_1
import PySem.Challenge.RW_creditworks_k71_piles_in_form
set_option Elab.async false
set_option linter.all false
set_option maxRecDepth 100000
namespace L2
open PySem PySem.Spec PyProof.Rows
abbrev Key:=Sum Int Str
def keyIs:Key->Value->Bool
  | .inl k,v=>Value.isInt k v
  | .inr x,v=>Value.isStrOf x v
def keyH (w:World):Key->Int
  | .inl k=>hashInt k
  | .inr x=>hashStr w x
theorem keyIs_shape:∀ {k:Key} {v:Value},keyIs k v=true->(∃ i t,k=Sum.inl i∧v=Value.int i t)∨(∃ x t,k=Sum.inr x∧v=Value.str x t)
  | .inl i,v,h=>by
    obtain ⟨t,e⟩:=Value.isInt_shape (k:=i) (v:=v) h
    exact .inl ⟨i,t,rfl,e⟩
  | .inr x,v,h=>by
    obtain ⟨t,e⟩:=Value.isStrOf_shape (x:=x) (v:=v) h
    exact .inr ⟨x,t,rfl,e⟩
theorem keyIs_int (i:Int) (t:Tok):keyIs (.inl i) (.int i t)=true:=by simp [keyIs,Value.isInt]
theorem keyIs_str (x:Str) (t:Tok):keyIs (.inr x) (.str x t)=true:=by simp [keyIs,Value.isStrOf]
theorem key_ll (a b:Int):decide ((Sum.inl a:Key)=Sum.inl b)=(a == b):=by
  by_cases e:a=b
  . subst e; simp
  . have h : ¬ (Sum.inl a:Key)=Sum.inl b:=fun q=>e (Sum.inl.inj q)
    rw [decide_eq_false h]
    exact (beq_eq_false_iff_ne.mpr e).symm
theorem key_rr (a b:Str):decide ((Sum.inr a:Key)=Sum.inr b)=decide (a=b):=by
  by_cases e:a=b
  . subst e; simp
  . have h : ¬ (Sum.inr a:Key)=Sum.inr b:=fun q=>e (Sum.inr.inj q)
    rw [decide_eq_false h,decide_eq_false e]
theorem key_lr (a:Int) (b:Str):decide ((Sum.inl a:Key)=Sum.inr b)=false:=decide_eq_false (fun q=>nomatch q)
theorem key_rl (a:Str) (b:Int):decide ((Sum.inr a:Key)=Sum.inl b)=false:=decide_eq_false (fun q=>nomatch q)
def mixKind (prog:Program) (w:World):PySem.KeyKind prog w Key where
  is:=keyIs
  hash:=keyH w
  inj:=fun v a b ha hb=>by
    rcases keyIs_shape ha with ⟨i,t,rfl,rfl⟩ | ⟨x,t,rfl,rfl⟩
    . rcases keyIs_shape hb with ⟨j,u,rfl,e⟩ | ⟨y,u,rfl,e⟩
      . injection e with e1 _; rw [e1]
      . exact nomatch e
    . rcases keyIs_shape hb with ⟨j,u,rfl,e⟩ | ⟨y,u,rfl,e⟩
      . exact nomatch e
      . injection e with e1 _; rw [e1]
  byValue:=fun k v h=>by
    rcases keyIs_shape h with ⟨i,t,rfl,rfl⟩ | ⟨x,t,rfl,rfl⟩ <;> rfl
  pyHash:=fun hv h=>by
    rcases keyIs_shape hv with ⟨i,t,rfl,rfl⟩ | ⟨x,t,rfl,rfl⟩
    . exact wpAny_pyHash_int h
    . exact wpAny_pyHash_str h
  eqBool:=fun hu hv h=>by
    rcases keyIs_shape hu with ⟨i,t,rfl,rfl⟩ | ⟨x,t,rfl,rfl⟩
    . rcases keyIs_shape hv with ⟨j,u,rfl,rfl⟩ | ⟨y,u,rfl,rfl⟩
      . rw [key_ll] at h; exact wpAny_eqBool_int h
      . rw [key_lr] at h; exact SeqAt.EqAt.int_str i t y u _ _ _ _ h
    . rcases keyIs_shape hv with ⟨j,u,rfl,rfl⟩ | ⟨y,u,rfl,rfl⟩
      . rw [key_rl] at h; exact SeqAt.EqAt.str_int x t j u _ _ _ _ h
      . rw [key_rr] at h; exact wpAny_eqBool_str h
  «strs»:=fun k x t v h=>by
    rcases keyIs_shape h with ⟨i,u,rfl,e⟩ | ⟨y,u,rfl,e⟩
    . exact nomatch e
    . injection e with e1 _
      subst e1
      cases v <;> rfl
theorem mixKind_is (prog:Program) (w:World) (k:Key) (v:Value):(mixKind prog w).is k v=keyIs k v:=rfl
theorem mixKind_int (prog:Program) (w:World) (i:Int) (t:Tok):(mixKind prog w).is (.inl i) (.int i t)=true:=keyIs_int i t
theorem mixKind_str (prog:Program) (w:World) (x:Str) (t:Tok):(mixKind prog w).is (.inr x) (.str x t)=true:=keyIs_str x t
end L2
namespace L2
open PySem PySem.Spec PyProof.Rows
inductive V where
  | non | bl (b:Bool) | int (i:Int) | str (x:Str) | byt (b:Array UInt8) | flt (b:UInt64) | ref (a:Addr) | ty (n:String)
  deriving DecidableEq
def RelV:V->Value->Prop
  | .non,u=>u=Value.none
  | .bl b,u=>u=Value.bool b
  | .int i,u=>∃ t,u=Value.int i t
  | .str x,u=>∃ t,u=Value.str x t
  | .byt b,u=>∃ t,u=Value.bytes b t
  | .flt b,u=>∃ t,u=Value.float b t
  | .ref a,u=>u=Value.ref a
  | .ty n,u=>u=Value.type n
abbrev Vals:List V->List Value->Prop:=Paired RelV
theorem Vals.length {xs:List V} {us:List Value} (r:Vals xs us):xs.length=us.length:=Paired.length r
theorem Vals.get:∀ {xs:List V} {us:List Value} {i:Nat} {x:V},Vals xs us->xs[i]?=some x->∃ u,us[i]?=some u∧RelV x u
  | _,_,_,_,.nil,e=>by simp at e
  | _,_,0,_,.cons r _,e=>by simp at e; subst e; exact ⟨_,rfl,r⟩
  | _,_,i + 1,x,.cons _ t,e=>by
    obtain ⟨u,h1,h2⟩:=Vals.get (i:=i) (x:=x) t (by simpa using e)
    exact ⟨u,by simpa using h1,h2⟩
theorem Vals.set {x:V} {u:Value} (r:RelV x u):∀ {xs:List V} {us:List Value} (i:Nat),Vals xs us->Vals (xs.set i x) (us.set i u)
  | _,_,_,.nil=>.nil
  | _,_,0,.cons _ t=>.cons r t
  | _,_,i + 1,.cons q t=>.cons q (Vals.set r i t)
theorem Vals.append:∀ {xs ys:List V} {us ws:List Value},Vals xs us->Vals ys ws->Vals (xs++ys) (us++ws)
  | _,_,_,_,.nil,s=>s
  | _,_,_,_,.cons r t,s=>.cons r (Vals.append t s)
theorem Vals.take:∀ {xs:List V} {us:List Value} (n:Nat),Vals xs us->Vals (xs.take n) (us.take n)
  | _,_,0,_=>.nil
  | _,_,_ + 1,.nil=>.nil
  | _,_,n + 1,.cons r t=>.cons r (Vals.take n t)
theorem Vals.drop:∀ {xs:List V} {us:List Value} (n:Nat),Vals xs us->Vals (xs.drop n) (us.drop n)
  | _,_,0,r=>r
  | _,_,_ + 1,.nil=>.nil
  | _,_,n + 1,.cons _ t=>Vals.drop n t
theorem Vals.none_of:∀ {xs:List V} {us:List Value} {i:Nat},Vals xs us->xs[i]?=none->us[i]?=none:=fun {xs us i} r e=>by
  have h1:=r.length
  have h2:xs.length≤i:=List.getElem?_eq_none_iff.mp e
  exact List.getElem?_eq_none_iff.mpr (by omega)
def RelO:Option V->Option Value->Prop
  | some v,some u=>RelV v u
  | none,none=>True
  | _,_=>False
def KV {κ:Type}:List (κ × V)->List (κ × Value)->Prop:=Paired fun (p : κ × V) (q : κ × Value)=>p.1=q.1∧RelV p.2 q.2
def kV:Key->V
  | .inl i=>.int i
  | .inr x=>.str x
inductive HO where
  | lst (xs:List V)
  | tup (xs:List V)
  | dK (kvs:List (Key × V)) | dT (kvs:List (List Key × V))
  | set (S:Int->Bool) (n:Nat)
  | ins (C dx:Addr) (fs:List (Str × V))
  | own (x:Addr)
  | xd (fs:List (Str × V))
  | met (f x:Addr)
  | rng (lo hi:Int)
  | frz (o:Obj) (u:HO)
  | tbl (ps:Array Value)
  | ext (φ:Heap->Prop)
abbrev Hp:=Addr->Option HO
def upd (H:Hp) (a:Addr) (o:HO):Hp:=fun b=>if b=a then some o else H b
theorem upd_same {H:Hp} {a:Addr} {o:HO}:upd H a o a=some o:=by unfold upd; rw [if_pos rfl]
theorem upd_ne {H:Hp} {a b:Addr} {o:HO} (h:b≠a):upd H a o b=H b:=by unfold upd; rw [if_neg h]
theorem ne_of {H:Hp} {a b:Addr} {o u:HO} (h:H a=some o) (h':H b=some u) (d:o≠u):a≠b:=by
  intro e; subst e; rw [h] at h'; exact d (Option.some.inj h')
theorem ne_of_none {H:Hp} {a b:Addr} {o:HO} (h:H a=some o) (h':H b=none):a≠b:=by
  intro e; subst e; rw [h] at h'; cases h'
section
variable (P:Program) (w:World)
def ObjOk (H:Hp) (h:Heap) (a:Addr):HO->Prop
  | .lst xs=>xs.length≤sizeLine∧∃ (its:List Value) (n:Nat),Vals xs its∧h.get? a=some { cls:=.type "list",data:=.seq its.toArray n }
  | .tup xs=>xs.length≤sizeLine∧∃ its:List Value,Vals xs its∧IsTup h a its.toArray∧∃ o,h.get? a=some o∧o.dict=none
  | .dK kvs=>kvs.length≤sizeLine∧(a == sysModules)=false∧∃ vs,KV kvs vs∧h.DictOf (mixKind P w) a vs
  | .dT kvs=>kvs.length≤sizeLine∧(a == sysModules)=false∧∃ xs:List (List Key × Addr × Value),
      Paired (fun (p:List Key × V) (q:List Key × Addr × Value)=>p.1=q.1∧H q.2.1=some (.tup (p.1.map kV))∧RelV p.2 q.2.2) kvs xs ∧
      ∃ o es ep,h.get? a=some o∧o.ExactDict∧o.data=.dict es ep∧es.toList=xs.map (entryOfKey (tupleKind (mixKind P w)))∧(xs.map (·.1)).Nodup
  | .set S n=>h.SetOf (intKind P w) a S n
  | .ins C dx fs=>H dx=some (.own a)∧fs.length≤1000∧dx≠a∧h.get? a=some (PySem.W.instObj C dx) ∧
      ∃ mA,h.Ns1 dx mA∧(∀ f,RelO (fs.lookup f) (mA f))∧PySem.Within mA (fs.map (·.1))
  | .own _=>∃ o,h.get? a=some o
  | .xd fs=>∃ mA,h.Ns1 a mA∧∀ f,RelO (fs.lookup f) (mA f)
  | .rng lo hi=>∃ t u v,h.get? a=some { cls:=.type "range",data:=.fields #[.int lo t,.int hi u,.int 1 v] }
  | .frz o u=>h.get? a=some o∧ObjOk H h a u
  | .tbl ps=>h.get? a=some { cls:=.none,data:=.fields ps }
  | .met f x=>h.get? a=some (PySem.W.methodObj (.ref f) (.ref x))
  | .ext φ=>φ h∧(∃ o,h.get? a=some o)∧∀ h1 h2:Heap,φ h1->(∀ o,h1.get? a=some o->h2.get? a=some o)->φ h2
def HOk (H:Hp) (h:Heap):Prop:=∀ a o,H a=some o->ObjOk P w H h a o
end
section
variable {P:Program} {w:World} {H H':Hp} {h h':Heap} {a:Addr} {o:HO}
theorem ObjOk.lt (x:ObjOk P w H h a o):a < h.objs.size:=by
  cases o with
  | lst xs=>obtain ⟨_,_,_,_,e⟩:=x; exact Heap.lt_size e
  | tup xs=>obtain ⟨_,_,_,p,_⟩:=x; exact p.lt
  | dK kvs=>obtain ⟨_,_,_,_,o,_,_,e,_⟩:=x; exact Heap.lt_size e
  | dT kvs=>obtain ⟨_,_,_,_,o,_,_,e,_⟩:=x; exact Heap.lt_size e
  | set S n=>obtain ⟨o,_,_,_,e,_⟩:=x; exact Heap.lt_size e
  | ins C dx fs=>obtain ⟨_,_,_,e,_⟩:=x; exact Heap.lt_size e
  | own y=>obtain ⟨_,e⟩:=x; exact Heap.lt_size e
  | xd fs=>obtain ⟨_,⟨_,_,_,e,_⟩,_⟩:=x; exact Heap.lt_size e
  | rng lo hi=>obtain ⟨_,_,_,e⟩:=x; exact Heap.lt_size e
  | frz ob u=>obtain ⟨e,_⟩:=x; exact Heap.lt_size e
  | tbl ps=>exact Heap.lt_size (show h.get? a=some _ from x)
  | met f y=>exact Heap.lt_size (show h.get? a=some _ from x)
  | ext φ=>obtain ⟨_,⟨_,e⟩,_⟩:=x; exact Heap.lt_size e
theorem Paired.mapP {α β:Type} {F G : α->β->Prop}:∀ {l₁:List α} {l₂:List β},Paired F l₁ l₂->(∀ a b,F a b->G a b)->Paired G l₁ l₂
  | _,_,.nil,_=>.nil
  | _,_,.cons r t,f=>.cons (f _ _ r) (Paired.mapP t f)
theorem ObjOk.stay (x:ObjOk P w H h a o) (k:∀ b u,(b=a∨H b=some (.own a))->h.get? b=some u->h'.get? b=some u)
    (ho:∀ b,H b=some (.own a)->H' b=some (.own a)) (ht:∀ b xs,H b=some (.tup xs)->H' b=some (.tup xs)):ObjOk P w H' h' a o:=by
  induction o with
  | lst xs=>obtain ⟨z,its,n,r,e⟩:=x; exact ⟨z,its,n,r,k _ _ (.inl rfl) e⟩
  | tup xs=>obtain ⟨z,its,r,⟨ob,e,c⟩,o2,e2,c2⟩:=x; exact ⟨z,its,r,⟨ob,k _ _ (.inl rfl) e,c⟩,o2,k _ _ (.inl rfl) e2,c2⟩
  | dK kvs=>obtain ⟨z,y,vs,r,ob,es,ep,e,c⟩:=x; exact ⟨z,y,vs,r,ob,es,ep,k _ _ (.inl rfl) e,c⟩
  | dT kvs =>
    obtain ⟨z,y,xs,r,ob,es,ep,e,c⟩:=x
    exact ⟨z,y,xs,Paired.mapP r fun p q z=>⟨z.1,ht _ _ z.2.1,z.2.2⟩,ob,es,ep,k _ _ (.inl rfl) e,c⟩
  | set S n=>obtain ⟨ob,es,ep,t,e,c⟩:=x; exact ⟨ob,es,ep,t,k _ _ (.inl rfl) e,c⟩
  | ins C dx fs =>
    obtain ⟨d,z,ne,e,mA,⟨od,es,ep,e2,c⟩,r⟩:=x
    exact ⟨ho _ d,z,ne,k _ _ (.inl rfl) e,mA,⟨od,es,ep,k _ _ (.inr d) e2,c⟩,r⟩
  | own y=>obtain ⟨ob,e⟩:=x; exact ⟨ob,k _ _ (.inl rfl) e⟩
  | xd fs=>obtain ⟨mA,⟨od,es,ep,e,c⟩,r⟩:=x; exact ⟨mA,⟨od,es,ep,k _ _ (.inl rfl) e,c⟩,r⟩
  | rng lo hi=>obtain ⟨t,u,v,e⟩:=x; exact ⟨t,u,v,k _ _ (.inl rfl) e⟩
  | frz ob u ih=>obtain ⟨e,q⟩:=x; exact ⟨k _ _ (.inl rfl) e,ih q⟩
  | tbl ps =>
    have e:h.get? a=some { cls:=.none,data:=.fields ps }:=x
    show h'.get? a=some { cls:=.none,data:=.fields ps }
    exact k a _ (.inl rfl) e
  | met f y =>
    have e:h.get? a=some (PySem.W.methodObj (.ref f) (.ref y)):=x
    show h'.get? a=some (PySem.W.methodObj (.ref f) (.ref y))
    exact k a _ (.inl rfl) e
  | ext φ=>obtain ⟨p,⟨o,e⟩,st⟩:=x; exact ⟨st _ _ p fun o q=>k _ _ (.inl rfl) q,⟨o,k _ _ (.inl rfl) e⟩,st⟩
theorem HOk.lt (x:HOk P w H h) (e:H a=some o):a < h.objs.size:=(x a o e).lt
theorem HOk.fresh (x:HOk P w H h) (e:h.objs.size≤a):H a=none:=by
  cases q:H a with
  | none=>rfl
  | some u=>exact absurd (Nat.lt_of_lt_of_le (x.lt q) e) (Nat.lt_irrefl _)
theorem HOk.kept (x:HOk P w H h) (k:∀ b u,h.get? b=some u->h'.get? b=some u):HOk P w H h':=fun a o e =>
  (x a o e).stay (fun b u _ q=>k b u q) (fun _ q=>q) fun _ _ q=>q
theorem HOk.laid (x:HOk P w H h) (k:∀ b u,h.get? b=some u->h'.get? b=some u) (hp:h.objs.size≤a) (new:ObjOk P w (upd H a o) h' a o):HOk P w (upd H a o) h':=fun b u e=>by
  have hn:=x.fresh hp
  by_cases hb:b=a
  . subst hb; rw [upd_same] at e; cases e; exact new
  . rw [upd_ne hb] at e
    exact (x b u e).stay (fun c v _ q=>k c v q) (fun c q=>by rw [upd_ne (ne_of_none q hn)]; exact q) fun c xs q=>by rw [upd_ne (ne_of_none q hn)]; exact q
end
def Rd (H:Hp) (a:Addr) (u:HO):Prop:=H a=some u∨∃ o,H a=some (.frz o u)
theorem Rd.of {H:Hp} {a:Addr} {u:HO} (h:H a=some u):Rd H a u:=.inl h
theorem Rd.ok {P:Program} {w:World} {H:Hp} {h:Heap} {a:Addr} {u:HO} (r:Rd H a u) (x:HOk P w H h):ObjOk P w H h a u:=by
  rcases r with r | ⟨o,r⟩
  . exact x a u r
  . obtain ⟨_,q⟩:=x a _ r
    exact q
def Mut:Option HO->Prop
  | some (.lst _)=>True
  | some (.dK _)=>True
  | some (.dT _)=>True
  | some (.set _ _)=>True
  | some (.ins _ _ _)=>True
  | some (.ext _)=>True
  | _=>False
section
variable {P:Program} {w:World} {H:Hp} {h h':Heap} {x e:Addr} {o':HO}
theorem HOk.write (ok:HOk P w H h) (mu:Mut (H x)) (he:e=x∨H e=some (.own x)) (k:∀ b u,b≠e->h.get? b=some u->h'.get? b=some u) (heo:∃ u,h'.get? e=some u)
    (new:ObjOk P w (upd H x o') h' x o'):HOk P w (upd H x o') h':=fun b u q=>by
  have nown:∀ c y,H c=some (.own y)->c≠x:=fun c y r z=>by subst z; rw [r] at mu; exact mu
  have ntup:∀ c xs,H c=some (.tup xs)->c≠x:=fun c xs r z=>by subst z; rw [r] at mu; exact mu
  by_cases hb:b=x
  . subst hb; rw [upd_same] at q; cases q; exact new
  . rw [upd_ne hb] at q
    by_cases hbe:b=e
    . have q':H b=some (.own x):=by
        rcases he with z | z
        . exact absurd (hbe.trans z) hb
        . rw [hbe]; exact z
      rw [q] at q'; cases q'
      obtain ⟨v,hv⟩:=heo
      exact ⟨v,by rw [hbe]; exact hv⟩
    . refine (ok b u q).stay (fun c v hc r=>k c v ?_ r) (fun c r=>by rw [upd_ne (nown c b r)]; exact r) fun c xs r=>by rw [upd_ne (ntup c xs r)]; exact r
      rcases hc with rfl | hc
      . exact hbe
      . rintro rfl
        rcases he with z | z
        . exact nown c b hc z
        . rw [hc] at z; cases z; exact hb rfl
end
structure Un (fs ex:List Addr) (H H':Hp) (h h':Heap):Prop where
  keep:∀ b o,h.get? b=some o->H b=none->b ∉ fs->b ∉ ex->h'.get? b=some o
  slot:∀ b o,h.get? b=some o->H b=none->b∈fs->b ∉ ex->∃ sl,h'.get? b=some { o with slots:=sl }
  free:∀ b o,h.get? b=some o->H b=none->b ∉ ex->H' b=none
  there:∀ b o,h.get? b=some o->b ∉ ex->∃ o',h'.get? b=some o'
  tups:∀ b xs,H b=some (.tup xs)->H' b=some (.tup xs)
  frzs:∀ b o u,H b=some (.frz o u)->H' b=some (.frz o u)
  tbls:∀ b ps,H b=some (.tbl ps)->∃ more,H' b=some (.tbl (ps++more))
section
variable {fs fs' ex ex':List Addr} {H H1 H2:Hp} {h h1 h2 h':Heap} {a x e:Addr} {o:HO}
theorem Un.any (u:Un fs ex H H1 h h1) {b:Addr} {ob:Obj} (q:h.get? b=some ob) (n:H b=none) (hx:b ∉ ex):∃ sl,h1.get? b=some { ob with slots:=sl }:=by
  by_cases hb:b∈fs
  . exact u.slot b ob q n hb hx
  . exact ⟨ob.slots,u.keep b ob q n hb hx⟩
theorem Un.trans (a:Un fs ex H H1 h h1) (b:Un fs ex H1 H2 h1 h2):Un fs ex H H2 h h2 where
  keep:=fun c ob q n hc hx=>b.keep c ob (a.keep c ob q n hc hx) (a.free c ob q n hx) hc hx
  slot:=fun c ob q n hc hx=>by
    obtain ⟨sl,e1⟩:=a.slot c ob q n hc hx
    obtain ⟨sl',e2⟩:=b.slot c _ e1 (a.free c ob q n hx) hc hx
    exact ⟨sl',e2⟩
  free:=fun c ob q n hx=>by
    obtain ⟨o',e1⟩:=a.there c ob q hx
    exact b.free c o' e1 (a.free c ob q n hx) hx
  there:=fun c ob q hx=>by
    obtain ⟨o',e1⟩:=a.there c ob q hx
    exact b.there c o' e1 hx
  tups:=fun c xs q=>b.tups c xs (a.tups c xs q)
  frzs:=fun c ob xs q=>b.frzs c ob xs (a.frzs c ob xs q)
  tbls:=fun c ps q=>by
    obtain ⟨m1,e1⟩:=a.tbls c ps q
    obtain ⟨m2,e2⟩:=b.tbls c _ e1
    exact ⟨m1++m2,by rw [e2,Array.append_assoc]⟩
theorem Un.kept (k:∀ b u,h.get? b=some u->h'.get? b=some u):Un fs ex H H h h' :=
  ⟨fun b ob q _ _ _=>k b ob q,fun b ob q _ _ _=>⟨ob.slots,k b ob q⟩,fun _ _ _ n _=>n,fun b ob q _=>⟨ob,k b ob q⟩,fun _ _ q=>q,fun _ _ _ q=>q,fun _ ps q=>⟨#[],by rw [q]; simp⟩⟩
theorem Un.refl:Un fs ex H H h h:=Un.kept fun _ _ q=>q
theorem Un.laid (k:∀ b u,h.get? b=some u->h'.get? b=some u) (hp:h.objs.size≤a) (hn:H a=none):Un fs ex H (upd H a o) h h' where
  keep:=fun b u q _ _ _=>k b u q
  slot:=fun b u q _ _ _=>⟨u.slots,k b u q⟩
  free:=fun b u q n _=>by rw [upd_ne (Nat.ne_of_lt (Nat.lt_of_lt_of_le (Heap.lt_size q) hp))]; exact n
  there:=fun b u q _=>⟨u,k b u q⟩
  tups:=fun b xs q=>by rw [upd_ne (ne_of_none q hn)]; exact q
  frzs:=fun b u xs q=>by rw [upd_ne (ne_of_none q hn)]; exact q
  tbls:=fun b ps q=>⟨#[],by rw [upd_ne (ne_of_none q hn),q]; simp⟩
theorem Un.write (mu:Mut (H x)) (he:e=x∨H e=some (.own x)) (k:∀ b u,b≠e->h.get? b=some u->h'.get? b=some u) (heo:∃ u,h'.get? e=some u):Un fs ex H (upd H x o) h h':=by
  have hx:∀ b,H b=none->b≠x:=fun b n z=>by subst z; rw [n] at mu; exact mu
  have hb:∀ b,H b=none->b≠e:=fun b n z=>by
    subst z
    rcases he with r | r
    . exact hx b n r
    . rw [n] at r; cases r
  have hm:∀ b u,H b=some u->¬ Mut (some u)->b≠x:=fun b u q nm z=>by subst z; rw [q] at mu; exact nm mu
  refine ⟨fun b u q n _ _=>k b u (hb b n) q,fun b u q n _ _=>⟨u.slots,k b u (hb b n) q⟩,fun b u q n _=>by rw [upd_ne (hx b n)]; exact n,fun b u q _=>?_,
    fun b xs q=>by rw [upd_ne (hm b _ q fun z=>z)]; exact q,fun b u xs q=>by rw [upd_ne (hm b _ q fun z=>z)]; exact q,fun b ps q=>⟨#[],by rw [upd_ne (hm b _ q fun z=>z),q]; simp⟩⟩
  by_cases hbe:b=e
  . subst hbe; exact heo
  . exact ⟨u,k b u hbe q⟩
theorem Un.mono (u:Un fs ex H H1 h h1) (hs:∀ b∈fs,b∈fs') (hx:∀ b∈ex,b∈ex'):Un fs' ex' H H1 h h1 :=
  ⟨fun b ob q n hb he=>u.keep b ob q n (fun z=>hb (hs b z)) fun z=>he (hx b z),fun _ _ q n _ he=>u.any q n fun z=>he (hx _ z),fun b ob q n he=>u.free b ob q n fun z=>he (hx b z),fun b ob q he=>u.there b ob q fun z=>he (hx b z),u.tups,u.frzs,u.tbls⟩
end
def trk (h:Heap) (H:Hp):List Addr:=(List.range h.objs.size).filter fun a=>(H a).isSome
def hidT (h:Heap) (H:Hp):Heap:=PySem.W.hideAll h (trk h H)
theorem hidT_size (h:Heap) (H:Hp):(hidT h H).objs.size=h.objs.size:=PySem.W.hideAll_size _ _
theorem hidT_get {h:Heap} {H:Hp} {b:Addr} {o:Obj} (e:h.get? b=some o) (n:H b=none):(hidT h H).get? b=some o :=
  PySem.W.hideAll_get _ e fun hm=>by
    have q:(H b).isSome=true:=(List.mem_filter.mp hm).2
    rw [n] at q; simp at q
theorem of_hidT {h:Heap} {H:Hp} {b:Addr} {o:Obj} (e:(hidT h H).get? b=some o):h.get? b=some o∧H b=none:=by
  have e':h.get? b=some o:=PySem.W.of_hideAll (trk h H) e
  refine ⟨e',?_⟩
  cases q:H b with
  | none=>rfl
  | some x =>
    have hm:b∈trk h H:=List.mem_filter.mpr ⟨List.mem_range.mpr (Heap.lt_size e'),by simp [q]⟩
    have z:(hidT h H).get? b=none:=PySem.W.hideAll_none (trk h H) hm
    rw [z] at e; cases e
def allNews (g h:Heap) (L:Addr):List (Addr × Obj):=(List.range h.objs.size).filterMap fun a=>if a=L∨(g.get? a).isSome=true then none else (h.get? a).map fun o=>(a,o)
def rest (g h:Heap) (L d:Addr):List (Addr × Obj):=(allNews g h L).filter fun p=>decide (p.1≠d)
end L2
namespace L2
open PySem PySem.Spec PyProof.Rows
structure Mod (K:PySem.W.Frag) (mg:Str->Option Value) (base:Heap):Prop where
  kin:K.In base
  glob:base.Ns mainGlobals mg
  blt:∃ mb,base.Ns builtinsNs mb∧∀ x:Str,x≠"__name__"->mb x=bootBuiltins x
  nolimit:base.NoLimit
structure Cx where
  prog:Program
  w:World
  K:PySem.W.Frag
  mg:Str->Option Value
  base:Heap
  A:Around
  N:List Str
  s₀:Shared
  H₀:Hp
  env:Env
  outer:List Env
  stack:List Env
  ex:List Addr
  fn:Str->Bool
  calm:Bool
  pn:List (Addr × Obj)
  xe:Value->Shared->Prop
def frs (l:List Env):List Addr:=l.filterMap (·.frame)
abbrev Cx.fs (X:Cx):List Addr:=frs X.outer
def Vis (sc:Scope) (x:Str):Prop:=sc.names.lookup x=some .local∨sc.names.lookup x=some .cell∨sc.names.lookup x=some .free
def Loc (sc:Scope) (x:Str):Prop:=sc.names.lookup x=some .local∨sc.names.lookup x=some .cell
def Look (env:Env) (h:Heap) (m:Str->Option Value) (x:Str) (u:Value):Prop :=
  (env.kindOf x=some .local∧m x=some u)∨((env.kindOf x=some .cell∨env.kindOf x=some .free)∧∃ c,env.cells.lookup x=some c∧h.IsCell c (some u))
structure Cx.Ok (X:Cx):Prop where
  mod:Mod X.K X.mg X.base
  kind:X.env.scope.kind=.function
  glob:X.env.globals=mainGlobals
  blt:X.env.builtins=builtinsNs
  above:X.s₀.heap.objs.size≤X.env.locals
  inj:∀ x y c,X.env.cells.lookup x=some c->X.env.cells.lookup y=some c->x=y
  has:∀ x,(X.env.kindOf x=some .cell∨X.env.kindOf x=some .free)->∃ c,X.env.cells.lookup x=some c
  cab:∀ x c,X.fn x=true->X.env.cells.lookup x=some c->X.s₀.heap.objs.size≤c
  hd:X.calm=true->X.A.handled=none
  frames:X.A.frames=some X.stack
  stk:X.stack=X.outer∨(X.stack=X.env::X.outer∧X.env.frame=some X.env.locals)
  exf:∀ b∈X.ex,b≠X.env.locals∧∀ x c,X.env.cells.lookup x=some c->c≠b
  bs:∀ b o,X.base.get? b=some o->X.s₀.heap.get? b=some o∧X.H₀ b=none
  bsz:X.base.objs.size≤X.s₀.heap.objs.size
  noex:∀ b o,X.base.get? b=some o->b ∉ X.ex
  exfs:∀ b∈X.ex,b ∉ X.fs
  funs:X.s₀.heap.FunFrames X.base X.outer
  frf:∀ b∈X.fs,X.H₀ b=none
structure Inv (X:Cx) (pins:List (Addr × Obj)) (σ:List (Option V)) (H:Hp) (s:Shared):Prop where
  ok:X.Ok
  os:s.os=X.s₀.os
  bare:AllBare s.gens
  base:Un X.fs X.ex X.H₀ H X.s₀.heap s.heap
  loc:∃ m,s.heap.Ns X.env.locals m∧∀ (i:Nat) (x:Str) (v:V),X.N[i]?=some x->σ[i]?=some (some v)->Vis X.env.scope x->∃ u,RelV v u∧Look X.env s.heap m x u
  cell:∀ x c,X.env.cells.lookup x=some c->∃ v,s.heap.IsCell c v
  free:H X.env.locals=none
  freeC:∀ x c,X.env.cells.lookup x=some c->H c=none
  pin:∀ p∈X.pn++pins,s.heap.get? p.1=some p.2∧H p.1=none∧p.1≠X.env.locals∧p.1 ∉ X.fs∧∀ v,p.2.data≠.cell v
  hok:HOk X.prog X.w H s.heap
  len : σ.length=X.N.length
section
variable {X:Cx} {pins:List (Addr × Obj)} {σ:List (Option V)} {H H':Hp} {s:Shared} {h':Heap}
theorem Cx.Ok.nofr (ok:X.Ok) {b:Addr} {o:Obj} (e:X.base.get? b=some o):b ∉ X.fs:=fun hb=>by
  have:=(ok.funs.mem hb).1
  rw [e] at this; cases this
theorem Inv.bs (I:Inv X pins σ H s):∀ b o,X.base.get? b=some o->s.heap.get? b=some o∧H b=none:=fun b o e =>
  ⟨I.base.keep b o (I.ok.bs b o e).1 (I.ok.bs b o e).2 (I.ok.nofr e) (I.ok.noex b o e),I.base.free b o (I.ok.bs b o e).1 (I.ok.bs b o e).2 (I.ok.noex b o e)⟩
theorem Inv.bk (I:Inv X pins σ H s):∀ b o,X.base.get? b=some o->s.heap.get? b=some o:=fun b o e=>(I.bs b o e).1
theorem Inv.mod (I:Inv X pins σ H s):Mod X.K X.mg X.base:=I.ok.mod
theorem Inv.kIn (I:Inv X pins σ H s):X.K.In s.heap:=I.ok.mod.kin.keeps I.bk
theorem Inv.nolimit (I:Inv X pins σ H s):s.heap.NoLimit:=I.ok.mod.nolimit.keeps I.bk
theorem Inv.fr (I:Inv X pins σ H s):∃ m,Fr X.base X.env.locals s.heap m :=
  let ⟨m,hn,_⟩:=I.loc
  ⟨m,hn,I.bk,Nat.le_trans I.ok.bsz I.ok.above⟩
theorem Inv.lt (I:Inv X pins σ H s):X.env.locals < s.heap.objs.size:=let ⟨_,hn,_⟩:=I.loc; hn.lt
theorem Inv.sz (I:Inv X pins σ H s):X.s₀.heap.objs.size≤s.heap.objs.size:=Nat.le_trans I.ok.above (Nat.le_of_lt I.lt)
theorem Inv.nofs (I:Inv X pins σ H s) {a:Addr} (h:s.heap.objs.size≤a):a ∉ X.fs:=fun hb=>by
  obtain ⟨_,o,ho,_⟩:=I.ok.funs.mem hb
  exact absurd (Nat.lt_of_lt_of_le (Heap.lt_size ho) (Nat.le_trans I.sz h)) (Nat.lt_irrefl _)
theorem Inv.cne (I:Inv X pins σ H s):∀ x c,X.env.cells.lookup x=some c->c≠X.env.locals:=fun x c e z=>by
  obtain ⟨v,o,ho,hd⟩:=I.cell x c e
  obtain ⟨m,⟨o',es,ep,ho',hd',_⟩,_⟩:=I.loc
  rw [z,ho'] at ho; cases ho; rw [hd'] at hd; cases hd
theorem Inv.funs (I:Inv X pins σ H s):s.heap.FunFrames X.base X.outer:=by
  have all:∀ (l:List Env),(∀ b∈frs l,b∈X.fs)->X.s₀.heap.FunFrames X.base l->s.heap.FunFrames X.base l:=by
    intro l
    induction l with
    | nil=>intro _ _; trivial
    | cons env r ih =>
      intro hs hl
      obtain ⟨hk,⟨L,o,hf,hn,ho,hd⟩,hr⟩:=hl
      have hL:L∈X.fs:=hs L (by unfold frs; rw [List.filterMap_cons,hf]; exact List.mem_cons_self)
      obtain ⟨sl,e⟩:=I.base.slot L o ho (I.ok.frf L hL) hL fun z=>I.ok.exfs L z hL
      exact ⟨hk,⟨L,_,hf,hn,e,hd⟩,ih (fun b hb=>hs b (by unfold frs; rw [List.filterMap_cons,hf]; exact List.mem_cons_of_mem _ hb)) hr⟩
  exact all X.outer (fun _ hb=>hb) I.ok.funs
theorem Inv.stack (I:Inv X pins σ H s):s.heap.FunFrames X.base X.stack:=by
  rcases I.ok.stk with e | ⟨e,hf⟩
  . rw [e]; exact I.funs
  . rw [e]
    obtain ⟨m,hn,_⟩:=I.loc
    refine .cons (by rw [I.ok.kind]; decide) hf hn ?_ I.funs
    exact Heap.get?_none_of_le (Nat.le_trans I.ok.bsz I.ok.above)
theorem Inv.stkSub (I:Inv X pins σ H s):∀ b∈frs X.stack,b∈X.env.locals::X.fs:=fun b hb=>by
  rcases I.ok.stk with e | ⟨e,hf⟩
  . rw [e] at hb; exact List.mem_cons_of_mem _ hb
  . rw [e] at hb
    unfold frs at hb
    rw [List.filterMap_cons,hf] at hb
    exact hb
theorem Inv.stkFree (I:Inv X pins σ H s):∀ b∈frs X.stack,H b=none:=fun b hb=>by
  rcases List.mem_cons.mp (I.stkSub b hb) with e | hb
  . rw [e]; exact I.free
  . obtain ⟨_,o,ho,_⟩:=I.ok.funs.mem hb
    exact I.base.free b o ho (I.ok.frf b hb) fun z=>I.ok.exfs b z hb
theorem Inv.step {g':Array GenState} {t':Nat} {d':Drawn} {ch:List Addr} (I:Inv X pins σ H s)
    (hch:∀ b∈ch,(b∈X.ex∨X.s₀.heap.objs.size≤b)∧b≠X.env.locals∧(∀ x c,X.env.cells.lookup x=some c->c≠b)∧∀ p∈X.pn++pins,p.1≠b)
    (keep:∀ b o,b≠X.env.locals->b ∉ X.fs->b ∉ ch->s.heap.get? b=some o->H b=none->h'.get? b=some o)
    (slot:∀ b o,b≠X.env.locals->b∈X.fs->b ∉ ch->s.heap.get? b=some o->H b=none->∃ sl,h'.get? b=some { o with slots:=sl }) (free:∀ b o,b ∉ ch->s.heap.get? b=some o->H b=none->H' b=none)
    (there:∀ b o,b ∉ ch->s.heap.get? b=some o->∃ o',h'.get? b=some o')
    (tups:∀ b xs,H b=some (.tup xs)->H' b=some (.tup xs)) (frzs:∀ b o u,H b=some (.frz o u)->H' b=some (.frz o u)) (tbls:∀ b ps,H b=some (.tbl ps)->∃ more,H' b=some (.tbl (ps++more)))
    (ns:∀ m,s.heap.Ns X.env.locals m->h'.Ns X.env.locals m) (hok:HOk X.prog X.w H' h') (hg:AllBare g') :
    Inv X pins σ H' { s with heap:=h',gens:=g',drawn:=d',toks:=t' }:=by
  have neL:∀ b o,X.s₀.heap.get? b=some o->b≠X.env.locals:=fun b o e=>Nat.ne_of_lt (Nat.lt_of_lt_of_le (Heap.lt_size e) I.ok.above)
  have neC:∀ b o,X.s₀.heap.get? b=some o->b ∉ X.ex->b ∉ ch:=fun b o e hx hb=>by
    rcases (hch b hb).1 with z | z
    . exact hx z
    . exact absurd (Nat.lt_of_lt_of_le (Heap.lt_size e) z) (Nat.lt_irrefl _)
  have cellK:∀ x c,X.env.cells.lookup x=some c->∀ v,s.heap.IsCell c v->h'.IsCell c v:=fun x c e v ⟨o,ho,hd⟩=>by
    have nch:c ∉ ch:=fun z=>(hch c z).2.2.1 x c e rfl
    by_cases hc:c∈X.fs
    . obtain ⟨sl,q⟩:=slot c o (I.cne x c e) hc nch ho (I.freeC x c e)
      exact ⟨_,q,hd⟩
    . exact ⟨o,keep c o (I.cne x c e) hc nch ho (I.freeC x c e),hd⟩
  refine ⟨I.ok,I.os,hg,⟨fun b o e n hb hx=>?_,fun b o e n hb hx=>?_,fun b o e n hx=>?_,fun b o e hx=>?_,fun b xs e=>tups b xs (I.base.tups b xs e),fun b o xs e=>frzs b o xs (I.base.frzs b o xs e),fun b ps e=>?_⟩,?_,fun x c e=>?_,?_,fun x c e=>?_,fun p hp=>?_,hok,I.len⟩
  . exact keep b o (neL b o e) hb (neC b o e hx) (I.base.keep b o e n hb hx) (I.base.free b o e n hx)
  . obtain ⟨sl,e1⟩:=I.base.slot b o e n hb hx
    obtain ⟨sl',e2⟩:=slot b _ (neL b o e) hb (neC b o e hx) e1 (I.base.free b o e n hx)
    exact ⟨sl',e2⟩
  . obtain ⟨o',e1⟩:=I.base.there b o e hx
    exact free b o' (neC b o e hx) e1 (I.base.free b o e n hx)
  . obtain ⟨o',e1⟩:=I.base.there b o e hx
    exact there b o' (neC b o e hx) e1
  . obtain ⟨m1,e1⟩:=I.base.tbls b ps e
    obtain ⟨m2,e2⟩:=tbls b _ e1
    exact ⟨m1++m2,by rw [e2,Array.append_assoc]⟩
  . obtain ⟨m,hn,hl⟩:=I.loc
    refine ⟨m,ns m hn,fun i x v e1 e2 e3=>?_⟩
    obtain ⟨u,r,l⟩:=hl i x v e1 e2 e3
    refine ⟨u,r,?_⟩
    rcases l with l | ⟨k,c,e,z⟩
    . exact .inl l
    . exact .inr ⟨k,c,e,cellK x c e _ z⟩
  . obtain ⟨v,z⟩:=I.cell x c e
    exact ⟨v,cellK x c e v z⟩
  . obtain ⟨m,⟨o,_,_,ho,_⟩,_⟩:=I.loc
    exact free _ o (fun z=>(hch _ z).2.1 rfl) ho I.free
  . obtain ⟨v,o,ho,hd⟩:=I.cell x c e
    exact free c o (fun z=>(hch c z).2.2.1 x c e rfl) ho (I.freeC x c e)
  . obtain ⟨e,n,ne,nf,d⟩:=I.pin p hp
    have nch:p.1 ∉ ch:=fun z=>(hch p.1 z).2.2.2 p hp rfl
    exact ⟨keep p.1 p.2 ne nf nch e n,free p.1 p.2 nch e n,ne,nf,d⟩
theorem Inv.un {t':Nat} (I:Inv X pins σ H s) (u:Un X.fs [] H H' s.heap h') (hok:HOk X.prog X.w H' h'):Inv X pins σ H' { s with heap:=h',toks:=t' }:=by
  obtain ⟨m,⟨o,es,ep,ho,r⟩,_⟩:=id I.loc
  obtain ⟨sl,hL⟩:=u.any ho I.free (by simp)
  exact I.step (g':=s.gens) (d':=s.drawn) (ch:=[]) (fun _ z=>nomatch z) (fun b o _ hb _ e n=>u.keep b o e n hb (by simp)) (fun b o _ hb _ e n=>u.slot b o e n hb (by simp)) (fun b o _ e n=>u.free b o e n (by simp)) (fun b o _ e=>u.there b o e (by simp)) u.tups u.frzs u.tbls (fun m' hm=>by
    obtain ⟨o',es',ep',ho',r'⟩:=hm
    rw [ho] at ho'; cases ho'
    exact ⟨_,es',ep',hL,r'⟩) hok I.bare
theorem Inv.call {g':Array GenState} {t':Nat} {d':Drawn} {ch:List Addr} (I:Inv X pins σ H s) (u:Un (frs X.stack) ch H H' s.heap h') (hok:HOk X.prog X.w H' h') (hg:AllBare g')
    (hch:∀ b∈ch,(b∈X.ex∨X.s₀.heap.objs.size≤b)∧b≠X.env.locals∧(∀ x c,X.env.cells.lookup x=some c->c≠b)∧∀ p∈X.pn++pins,p.1≠b) :
    Inv X pins σ H' { s with heap:=h',gens:=g',drawn:=d',toks:=t' }:=by
  obtain ⟨m,⟨o,es,ep,ho,r⟩,_⟩:=id I.loc
  obtain ⟨sl,hL⟩:=u.any ho I.free fun z=>(hch _ z).2.1 rfl
  exact I.step (ch:=ch) hch (fun b o hL hb hc e n=>u.keep b o e n (fun z=>(List.mem_cons.mp (I.stkSub b z)).elim hL hb) hc) (fun b o _ _ hc e n=>u.any e n hc) (fun b o hc e n=>u.free b o e n hc) (fun b o hc e=>u.there b o e hc) u.tups u.frzs u.tbls (fun m' hm=>by
    obtain ⟨o',es',ep',ho',r'⟩:=hm
    rw [ho] at ho'; cases ho'
    exact ⟨_,es',ep',hL,r'⟩) hok hg
theorem Inv.turned {t':Nat} {it:Addr} (I:Inv X pins σ H s) (k:∀ b o,b≠it->s.heap.get? b=some o->h'.get? b=some o) (hn:H it=none) (hL:it≠X.env.locals)
    (h1:it∈X.ex∨X.s₀.heap.objs.size≤it) (h2:∀ x c,X.env.cells.lookup x=some c->c≠it) (h3:∀ p∈X.pn++pins,p.1≠it):Inv X pins σ H { s with heap:=h',toks:=t' }:=by
  have nit:∀ b u,H b=some u->b≠it:=fun b u e z=>by rw [z,hn] at e; cases e
  refine I.step (g':=s.gens) (d':=s.drawn) (ch:=[it]) (fun b hb=>?_) (fun b o _ _ hc e _=>k b o (fun z=>hc (by simp [z])) e) (fun b o _ _ hc e _=>⟨o.slots,k b o (fun z=>hc (by simp [z])) e⟩) (fun _ _ _ _ n=>n)
    (fun b o hc e=>⟨o,k b o (fun z=>hc (by simp [z])) e⟩) (fun _ _ e=>e) (fun _ _ _ e=>e) (fun b ps e=>⟨#[],by rw [e]; simp⟩) (fun m hm=>?_) (fun b u e=>?_) I.bare
  . have e:b=it:=by simpa using hb
    subst e
    exact ⟨h1,hL,h2,h3⟩
  . obtain ⟨o,es,ep,ho,r⟩:=hm
    exact ⟨o,es,ep,k _ o (Ne.symm hL) ho,r⟩
  . refine (I.hok b u e).stay (fun c v hc q=>k c v ?_ q) (fun _ q=>q) fun _ _ q=>q
    rcases hc with z | z
    . rw [z]; exact nit b u e
    . exact nit c _ z
theorem Inv.tok (I:Inv X pins σ H s) (t:Nat):Inv X pins σ H { s with toks:=t }:=I.un (h':=s.heap) (t':=t) Un.refl I.hok
theorem Inv.kept {t':Nat} (I:Inv X pins σ H s) (k:∀ b u,s.heap.get? b=some u->h'.get? b=some u):Inv X pins σ H { s with heap:=h',toks:=t' }:=I.un (Un.kept k) (I.hok.kept k)
theorem Inv.laid {a:Addr} {o:HO} {t':Nat} (I:Inv X pins σ H s) (k:∀ b u,s.heap.get? b=some u->h'.get? b=some u) (hp:s.heap.objs.size≤a) (new:ObjOk X.prog X.w (upd H a o) h' a o) :
    Inv X pins σ (upd H a o) { s with heap:=h',toks:=t' }:=I.un (Un.laid k hp (I.hok.fresh hp)) (I.hok.laid k hp new)
theorem Inv.write {x e:Addr} {o:HO} {t':Nat} (I:Inv X pins σ H s) (mu:Mut (H x)) (he:e=x∨H e=some (.own x)) (k:∀ b u,b≠e->s.heap.get? b=some u->h'.get? b=some u) (heo:∃ u,h'.get? e=some u)
    (new:ObjOk X.prog X.w (upd H x o) h' x o):Inv X pins σ (upd H x o) { s with heap:=h',toks:=t' }:=I.un (Un.write mu he k heo) (I.hok.write mu he k heo new)
theorem Inv.pins_of {pins':List (Addr × Obj)} (I:Inv X pins σ H s) (h:∀ p∈pins',s.heap.get? p.1=some p.2∧H p.1=none∧p.1≠X.env.locals∧p.1 ∉ X.fs∧∀ v,p.2.data≠.cell v):Inv X pins' σ H s :=
  ⟨I.ok,I.os,I.bare,I.base,I.loc,I.cell,I.free,I.freeC,fun p hp=>(List.mem_append.mp hp).elim (fun z=>I.pin p (List.mem_append_left _ z)) (h p),I.hok,I.len⟩
theorem nodup_ix {N:List Str} (hN:N.Nodup) {i j:Nat} {x:Str} (a:N[i]?=some x) (b:N[j]?=some x):i=j:=by
  obtain ⟨h1,e1⟩:=List.getElem?_eq_some_iff.mp a
  obtain ⟨h2,e2⟩:=List.getElem?_eq_some_iff.mp b
  exact (List.getElem_inj hN).mp (e1.trans e2.symm)
theorem store_ok2 {M:Model} {A:Around} {E:Value->Shared->Prop} {i:Nat} {x:Str} {v:V} {u:Value} {Q:Unit->Shared->Prop} (I:Inv X pins σ H s) (hN:X.N.Nodup) (hi:X.N[i]?=some x) (hx:Loc X.env.scope x) (r:RelV v u)
    (h:∀ s',Inv X pins (σ.set i (some v)) H s'->(∃ a,Heap.SameBut a s.heap s'.heap∧(a=X.env.locals∨X.env.cells.lookup x=some a))->Q () s') (hf:X.fn x=true∨X.env.scope.names.lookup x=some .local:=by first | exact .inl rfl | exact .inr rfl | assumption):wpAny M A (storeName X.env x u) Q E s:=by
  obtain ⟨m,hn,hl⟩:=id I.loc
  have hcls:(X.env.scope.kind == .class || (X.env.scope.kind == .module && X.env.locals != X.env.globals))=false:=by rw [I.ok.kind]; rfl
  have hiσ:i < σ.length:=by rw [I.len]; exact (List.getElem?_eq_some_iff.mp hi).1
  have cne:=I.cne
  have tracked:∀ {a:Addr} {h':Heap},(∃ o,s.heap.get? a=some o∧H a=none)->Heap.SameBut a s.heap h'->HOk X.prog X.w H h':=fun {a h'} ha hs b ob e=>by
    obtain ⟨_,_,hfree⟩:=ha
    refine (I.hok b ob e).stay (fun c w' hc q=>(hs.2 c ?_).trans q) (fun _ q=>q) fun _ _ q=>q
    rintro rfl
    rcases hc with rfl | hc
    . rw [hfree] at e; cases e
    . rw [hfree] at hc; cases hc
  rcases hx with hk | hk
  . refine wpAny_storeName_local hk hn (fun h' hn' hs=>?_) hcls
    obtain ⟨oL,_,_,hoL,_⟩:=id hn
    refine h _ ⟨I.ok,I.os,I.bare,⟨fun b o e n hb hx=>?_,fun b o e n hb hx=>?_,I.base.free,fun b o e hx=>?_,I.base.tups,I.base.frzs,I.base.tbls⟩,⟨_,hn',fun j y v' e1 e2 e3=>?_⟩,fun y c e=>?_,I.free,I.freeC,fun p hp=>?_,tracked ⟨oL,hoL,I.free⟩ hs,by simpa using I.len⟩ ⟨_,hs,.inl rfl⟩
    . exact (hs.2 b (Nat.ne_of_lt (Nat.lt_of_lt_of_le (Heap.lt_size e) I.ok.above))).trans (I.base.keep b o e n hb hx)
    . obtain ⟨sl,e1⟩:=I.base.slot b o e n hb hx
      exact ⟨sl,(hs.2 b (Nat.ne_of_lt (Nat.lt_of_lt_of_le (Heap.lt_size e) I.ok.above))).trans e1⟩
    . obtain ⟨o',e1⟩:=I.base.there b o e hx
      exact ⟨o',(hs.2 b (Nat.ne_of_lt (Nat.lt_of_lt_of_le (Heap.lt_size e) I.ok.above))).trans e1⟩
    . by_cases hj:j=i
      . subst hj
        rw [hi] at e1; cases e1
        rw [List.getElem?_set_self hiσ] at e2
        cases e2
        exact ⟨u,r,.inl ⟨hk,by simp⟩⟩
      . rw [List.getElem?_set_ne (Ne.symm hj)] at e2
        obtain ⟨u',r',q⟩:=hl j y v' e1 e2 e3
        refine ⟨u',r',?_⟩
        rcases q with ⟨k,e⟩ | ⟨k,c,e,z⟩
        . refine .inl ⟨k,?_⟩
          have:y≠x:=fun e=>hj (nodup_ix hN e1 (e ▸ hi))
          simp [this,e]
        . exact .inr ⟨k,c,e,z.sameBut hs (cne y c e)⟩
    . obtain ⟨w',z⟩:=I.cell y c e
      exact ⟨w',z.sameBut hs (cne y c e)⟩
    . obtain ⟨e,n,ne,nf,d⟩:=I.pin p hp
      exact ⟨(hs.2 p.1 ne).trans e,n,ne,nf,d⟩
  . have hfn:X.fn x=true:=by
      rcases hf with z | z
      . exact z
      . rw [z] at hk; cases hk
    obtain ⟨c,hc⟩:=I.ok.has x (.inl hk)
    obtain ⟨w',z⟩:=I.cell x c hc
    refine wpAny_storeName_cell I.ok.kind hk hc z (fun h' hc' hs=>?_)
    obtain ⟨oc,hoc,hocd⟩:=id z
    refine h { s with heap:=h' } ⟨I.ok,I.os,I.bare,⟨fun b o e n hb hx=>?_,fun b o e n hb hx=>?_,I.base.free,fun b o e hx=>?_,I.base.tups,I.base.frzs,I.base.tbls⟩,⟨m,hn.sameBut hs (Ne.symm (cne x c hc)),fun j y v' e1 e2 e3=>?_⟩,fun y c' e=>?_,I.free,I.freeC,fun p hp=>?_,tracked ⟨oc,hoc,I.freeC x c hc⟩ hs,by simpa using I.len⟩ ⟨c,hs,.inr hc⟩
    . exact (hs.2 b (Nat.ne_of_lt (Nat.lt_of_lt_of_le (Heap.lt_size e) (I.ok.cab x c hfn hc)))).trans (I.base.keep b o e n hb hx)
    . obtain ⟨sl,e1⟩:=I.base.slot b o e n hb hx
      exact ⟨sl,(hs.2 b (Nat.ne_of_lt (Nat.lt_of_lt_of_le (Heap.lt_size e) (I.ok.cab x c hfn hc)))).trans e1⟩
    . obtain ⟨o',e1⟩:=I.base.there b o e hx
      exact ⟨o',(hs.2 b (Nat.ne_of_lt (Nat.lt_of_lt_of_le (Heap.lt_size e) (I.ok.cab x c hfn hc)))).trans e1⟩
    . by_cases hj:j=i
      . subst hj
        rw [hi] at e1; cases e1
        rw [List.getElem?_set_self hiσ] at e2
        cases e2
        exact ⟨u,r,.inr ⟨.inl hk,c,hc,hc'⟩⟩
      . rw [List.getElem?_set_ne (Ne.symm hj)] at e2
        obtain ⟨u',r',q⟩:=hl j y v' e1 e2 e3
        refine ⟨u',r',?_⟩
        rcases q with q | ⟨k,c',e,z'⟩
        . exact .inl q
        . refine .inr ⟨k,c',e,z'.sameBut hs ?_⟩
          rintro rfl
          exact hj (nodup_ix hN e1 (I.ok.inj _ _ _ e hc ▸ hi))
    . by_cases hcc:c'=c
      . subst hcc; exact ⟨_,hc'⟩
      . obtain ⟨w2,z2⟩:=I.cell y c' e
        exact ⟨w2,z2.sameBut hs hcc⟩
    . obtain ⟨e,n,ne,nf,d⟩:=I.pin p hp
      refine ⟨(hs.2 p.1 ?_).trans e,n,ne,nf,d⟩
      intro q
      rw [q,hoc] at e
      have q':oc=p.2:=Option.some.inj e
      exact d w' (by rw [← q']; exact hocd)
theorem store_ok {M:Model} {A:Around} {E:Value->Shared->Prop} {i:Nat} {x:Str} {v:V} {u:Value} {Q:Unit->Shared->Prop} (I:Inv X pins σ H s) (hN:X.N.Nodup) (hi:X.N[i]?=some x) (hx:Loc X.env.scope x) (r:RelV v u)
    (h:∀ s',Inv X pins (σ.set i (some v)) H s'->Q () s') (hf:X.fn x=true∨X.env.scope.names.lookup x=some .local:=by first | exact .inl rfl | exact .inr rfl | assumption):wpAny M A (storeName X.env x u) Q E s :=
  store_ok2 I hN hi hx r (fun s' I' _=>h s' I') hf
theorem Inv.call' {s':Shared} {ch:List Addr} (I:Inv X pins σ H s) (ho:s'.os=s.os) (u:Un (frs X.stack) ch H H' s.heap s'.heap) (hok:HOk X.prog X.w H' s'.heap) (hg:AllBare s'.gens)
    (hch:∀ b∈ch,(b∈X.ex∨X.s₀.heap.objs.size≤b)∧b≠X.env.locals∧(∀ x c,X.env.cells.lookup x=some c->c≠b)∧∀ p∈X.pn++pins,p.1≠b):Inv X pins σ H' s':=by
  obtain ⟨h',g',d',t',o'⟩:=s'
  have e:o'=s.os:=ho
  subst e
  exact I.call (g':=g') (t':=t') (d':=d') u hok hg hch
end
abbrev XK:=Value->Option Addr->Hp->Prop
abbrev St:=List (Option V)
abbrev VK:=V->Hp->Prop
abbrev TE:=St->Hp->VK->Prop
abbrev TT:=St->Hp->(Bool->Hp->Prop)->Prop
abbrev TA:=St->Hp->(List V->Hp->Prop)->Prop
structure Ends where
  nx:St->Hp->Prop
  rt:VK
  bk:St->Hp->Prop:=fun _ _=>False
  ct:St->Hp->Prop:=fun _ _=>False
abbrev TS:=Ends->St->Hp->Prop
def EP (X:Cx) (pins:List (Addr × Obj)) (σ:St) (Q:VK) (u:Value) (s':Shared):Prop:=∃ v H',Inv X pins σ H' s'∧RelV v u∧Q v H'
def TP (X:Cx) (pins:List (Addr × Obj)) (σ:St) (Q:Bool->Hp->Prop) (b:Bool) (s':Shared):Prop:=∃ H',Inv X pins σ H' s'∧Q b H'
def AP (X:Cx) (pins:List (Addr × Obj)) (σ:St) (Q:List V->Hp->Prop) (us:List Value) (s':Shared):Prop:=∃ vs H',Inv X pins σ H' s'∧Vals vs us∧Q vs H'
def SP (X:Cx) (pins:List (Addr × Obj)) (D:Ends) (f:Flow) (s':Shared):Prop :=
  match f with
  | .next=>∃ σ' H',Inv X pins σ' H' s'∧D.nx σ' H'
  | .brk=>∃ σ' H',Inv X pins σ' H' s'∧D.bk σ' H'
  | .cont=>∃ σ' H',Inv X pins σ' H' s'∧D.ct σ' H'
  | .ret u=>∃ v σ' H',Inv X pins σ' H' s'∧RelV v u∧D.rt v H'
def PE (X:Cx) (e:Expr) (t:TE):Prop :=
  ∀ (pins:List (Addr × Obj)) (s:Shared) (σ:St) (H:Hp) (Q:VK),Inv X pins σ H s->t σ H Q->wpAny (model X.prog X.w) X.A (eval e X.env) (EP X pins σ Q) X.xe s
def PT (X:Cx) (e:Expr) (t:TT):Prop :=
  ∀ (pins:List (Addr × Obj)) (s:Shared) (σ:St) (H:Hp) (Q:Bool->Hp->Prop),Inv X pins σ H s->t σ H Q->wpAny (model X.prog X.w) X.A (isTrue e X.env (eval e X.env)) (TP X pins σ Q) X.xe s
def PW (X:Cx) (e:Expr) (t:TT):Prop :=
  ∀ (whole:Sem Value) (pins:List (Addr × Obj)) (s:Shared) (σ:St) (H:Hp) (Q:Bool->Hp->Prop),Inv X pins σ H s->t σ H Q->wpAny (model X.prog X.w) X.A (isTrue e X.env whole) (TP X pins σ Q) X.xe s
theorem PW.pt {X:Cx} {e:Expr} {t:TT} (h:PW X e t):PT X e t:=h _
def PA (X:Cx) (es:List Expr) (t:TA):Prop :=
  ∀ (pos:Pos) (pins:List (Addr × Obj)) (s:Shared) (σ:St) (H:Hp) (Q:List V->Hp->Prop),Inv X pins σ H s->t σ H Q->wpAny (model X.prog X.w) X.A (spliced (backTo pos (starEach es X.env))) (AP X pins σ Q) X.xe s
def PS (X:Cx) (st:Stmt) (t:TS):Prop :=
  ∀ (pins:List (Addr × Obj)) (s:Shared) (σ:St) (H:Hp) (D:Ends),Inv X pins σ H s->t D σ H->wpAny (model X.prog X.w) X.A (exec st X.env) (SP X pins D) X.xe s
def PSs (X:Cx) (st:List Stmt) (t:TS):Prop :=
  ∀ (pins:List (Addr × Obj)) (s:Shared) (σ:St) (H:Hp) (D:Ends),Inv X pins σ H s->t D σ H->wpAny (model X.prog X.w) X.A (execs st X.env) (SP X pins D) X.xe s
theorem thn {α:Type} {t:Sem α} {Q Q' : α->Shared->Prop} {M:Model} {A:Around} {E:Value->Shared->Prop} {s:Shared} (h:wpAny M A t Q E s) (hQ:∀ a s,Q a s->Q' a s):wpAny M A t Q' E s:=wpAny_mono h hQ fun _ _ x=>x
end L2
namespace L2
open PySem PySem.Spec PyProof.Rows
section
variable {X:Cx}
def tVar (i:Nat):TE:=fun σ H Q=>∃ v,σ[i]?=some (some v)∧Q v H
def tC (v:V):TE:=fun _ H Q=>Q v H
theorem pe_var {i:Nat} {x:Str} {pos:Pos} (hN:X.N[i]?=some x) (hv:Vis X.env.scope x) (hd:(x == ("__debug__":Str))=false:=by decide) (hcd:(x == ("__classdict__":Str))=false:=by decide):PE X (.Name x pos) (tVar i):=by
  intro pins s σ H Q I h
  obtain ⟨v,e,h⟩:=h
  obtain ⟨m,hn,hl⟩:=I.loc
  obtain ⟨u,r,l⟩:=hl i x v hN e hv
  have fin:EP X pins σ Q u s:=⟨v,H,I,r,h⟩
  rcases l with ⟨hk,hm⟩ | ⟨hk,c,hc,hcell⟩
  . exact wpAny_Name (wpAny_loadName_local I.ok.kind hk hn hm fin) hd
  . rcases hk with hk | hk
    . exact wpAny_Name (wpAny_loadName_cell I.ok.kind hk hc hcell fin) hd
    . exact wpAny_Name (wpAny_loadName_free I.ok.kind hk hc hcell fin hcd) hd
theorem pe_int {i j pos}:PE X (.Constant (.int i) j pos) (tC (.int i)):=fun _ _ _ H _ I h=>wpAny_Constant_int ⟨.int i,H,I.tok _,⟨_,rfl⟩,h⟩
theorem pe_bl {b j pos}:PE X (.Constant (.bool b) j pos) (tC (.bl b)):=fun _ _ _ H _ I h=>Constant_bool ⟨.bl b,H,I,rfl,h⟩
theorem pe_non {j pos}:PE X (.Constant .none j pos) (tC .non):=fun _ _ _ H _ I h=>Constant_none ⟨.non,H,I,rfl,h⟩
theorem pe_str {x j pos}:PE X (.Constant (.str x) j pos) (tC (.str x)):=fun _ _ _ H _ I h=>Calls.Constant_str ⟨.str x,H,I.tok _,⟨_,rfl⟩,h⟩
def Gl (X:Cx) (x:Str):Prop:=X.env.kindOf x=some .globalImplicit
theorem ld_glob {E:Value->Shared->Prop} {pins:List (Addr × Obj)} {s:Shared} {σ:St} {H:Hp} {x:Str} {u:Value} {pos:Pos} {Q:Value->Shared->Prop} (I:Inv X pins σ H s) (hg:Gl X x) (hm:X.mg x=some u) (h:Q u s)
    (hd:(x == ("__debug__":Str))=false:=by decide):wpAny (model X.prog X.w) X.A (eval (.Name x pos) X.env) Q E s :=
  Calls.Name_function_global I.ok.kind hg (Calls.loadGlobal_global (by rw [I.ok.glob]; exact I.mod.glob.keeps I.bk) hm h) hd
theorem ld_blt {E:Value->Shared->Prop} {pins:List (Addr × Obj)} {s:Shared} {σ:St} {H:Hp} {x:Str} {u:Value} {pos:Pos} {Q:Value->Shared->Prop} (I:Inv X pins σ H s) (hg:Gl X x) (hm:X.mg x=none) (hv:bootBuiltins x=some u) (h:Q u s)
    (hn:x≠"__name__":=by decide) (hd:(x == ("__debug__":Str))=false:=by decide):wpAny (model X.prog X.w) X.A (eval (.Name x pos) X.env) Q E s:=by
  obtain ⟨mb,h1,h2⟩:=I.mod.blt
  exact Calls.Name_function_global I.ok.kind hg (Calls.loadGlobal_builtin (by rw [I.ok.glob]; exact I.mod.glob.keeps I.bk) hm (by rw [I.ok.blt]; exact h1.keeps I.bk) ((h2 x hn).trans hv) h) hd
theorem pe_bltn {x:Str} {v:V} {u:Value} {pos:Pos} (hg:Gl X x) (hm:X.mg x=none) (hv:bootBuiltins x=some u) (r:RelV v u) (hn:x≠"__name__":=by decide) (hd:(x == ("__debug__":Str))=false:=by decide):PE X (.Name x pos) (tC v) :=
  fun _ _ _ H _ I h=>ld_blt I hg hm hv ⟨v,H,I,r,h⟩ hn hd
variable {a b:Expr} {ta tb:TE} {pos:Pos}
def PC (X:Cx) (op:CmpOp) (a b:Expr) (t:TE):Prop :=
  ∀ (pins:List (Addr × Obj)) (s:Shared) (σ:St) (H:Hp) (Q:VK),Inv X pins σ H s->t σ H Q ->
    wpAny (model X.prog X.w) X.A (eval a X.env) (fun v s₁=>wpAny (model X.prog X.w) X.A (eval b X.env) (fun u s₂=>wpAny (model X.prog X.w) X.A (compareOp op v u) (EP X pins σ Q) X.xe s₂) X.xe s₁) X.xe s
def tB (t:TE):TT:=fun σ H Q=>t σ H fun x H1=>∃ c,x=.bl c∧Q c H1
theorem pt_cmp {op:CmpOp} {t:TE} (h:PC X op a b t) (h1:behindInMarks op b=false:=by first | exact nobehind _ (by decide) (by decide) | rfl):PT X (.Compare a [op] [b] pos) (tB t):=by
  intro pins s σ H Q I hw
  refine wpAny_isTrue_Compare1 (thn (h pins s σ H _ I hw) fun v s1 h1=>thn h1 fun u s2 h2=>thn h2 fun c s3 ⟨x,H1,I1,r1,q1⟩=>?_) h1
  obtain ⟨d,rfl,q⟩:=q1
  cases r1
  exact wpAny_truthy_bool ⟨H1,I1,q⟩
theorem pt_val {e:Expr} {t:TE} (h:PE X e t) (he:∀ whole,isTrue e X.env whole=(do let v ← whole; standAt e.pos; holding [v] (truthy v)):=by intro _; rfl):PT X e (tB t):=by
  intro pins s σ H Q I hw
  refine isTrue_plain (thn (h pins s σ H _ I hw) fun v s1 ⟨x,H1,I1,r1,q1⟩=>?_) (he _)
  obtain ⟨d,rfl,q⟩:=q1
  cases r1
  exact wpAny_truthy_bool ⟨H1,I1,q⟩
variable {tA tB':TT} {rest:List Expr}
def tAnd (t u:TT):TT:=fun σ H Q=>t σ H fun c H1=>if c=true then u σ H1 Q else Q false H1
def tOr (t u:TT):TT:=fun σ H Q=>t σ H fun c H1=>if c=true then Q true H1 else u σ H1 Q
def tNot (t:TT):TT:=fun σ H Q=>t σ H fun c H1=>Q (!c) H1
theorem pw_and1 (ha:PT X a tA):PW X (.BoolOp .And [a] pos) tA:=by
  intro wh pins s σ H Q I h
  refine isTrue_and (thn (ha pins s σ H Q I h) fun c s1 e=>?_)
  cases c with
  | true=>exact isTrue_and_nil e
  | false=>exact e
theorem pw_or1 (ha:PT X a tA):PW X (.BoolOp .Or [a] pos) tA:=by
  intro wh pins s σ H Q I h
  refine isTrue_or (thn (ha pins s σ H Q I h) fun c s1 e=>?_)
  cases c with
  | false=>exact isTrue_or_nil e
  | true=>exact e
theorem pw_and (ha:PT X a tA) (hb:PW X (.BoolOp .And (b::rest) pos) tB'):PW X (.BoolOp .And (a::b::rest) pos) (tAnd tA tB'):=by
  intro wh pins s σ H Q I h
  refine isTrue_and (thn (ha pins s σ H _ I h) fun c s1 ⟨H1,I1,q1⟩=>?_)
  cases c with
  | true=>exact hb wh pins s1 σ H1 Q I1 q1
  | false=>exact ⟨H1,I1,q1⟩
theorem pw_or (ha:PT X a tA) (hb:PW X (.BoolOp .Or (b::rest) pos) tB'):PW X (.BoolOp .Or (a::b::rest) pos) (tOr tA tB'):=by
  intro wh pins s σ H Q I h
  refine isTrue_or (thn (ha pins s σ H _ I h) fun c s1 ⟨H1,I1,q1⟩=>?_)
  cases c with
  | true=>exact ⟨H1,I1,q1⟩
  | false=>exact hb wh pins s1 σ H1 Q I1 q1
theorem pt_not (ha:PT X a tA):PT X (.UnaryOp .Not a pos) (tNot tA):=by
  intro pins s σ H Q I h
  exact isTrue_not (ha pins s σ H (fun c H1=>Q (!c) H1) I h)
def tAndV (ta tb:TE):TE:=fun σ H Q=>ta σ H fun x H1=>∃ c,x=.bl c∧if c=true then tb σ H1 Q else Q (.bl false) H1
def tNotV (ta:TE):TE:=fun σ H Q=>ta σ H fun x H1=>∃ c,x=.bl c∧Q (.bl (!c)) H1
theorem pe_one {op} {t:TE} (h:PE X a t):PE X (.BoolOp op [a] pos) t:=fun pins s σ H Q I hw=>BoolOp_one (h pins s σ H Q I hw)
theorem pe_and (ha:PE X a ta) (hb:PE X (.BoolOp .And (b::rest) pos) tb):PE X (.BoolOp .And (a::b::rest) pos) (tAndV ta tb):=by
  intro pins s σ H Q I h
  refine BoolOp_and (thn (ha pins s σ H _ I h) fun v s1 ⟨x,H1,I1,r1,q1⟩=>?_)
  obtain ⟨c,rfl,q1⟩:=q1
  cases r1
  refine wpAny_truthy_bool ?_
  cases c with
  | true=>exact hb pins s1 σ H1 Q I1 q1
  | false=>exact ⟨.bl false,H1,I1,rfl,q1⟩
theorem pe_not (ha:PE X a ta):PE X (.UnaryOp .Not a pos) (tNotV ta):=by
  intro pins s σ H Q I h
  refine UnaryOp_ (thn (ha pins s σ H _ I h) fun v s1 ⟨x,H1,I1,r1,q1⟩=>?_)
  obtain ⟨c,rfl,q1⟩:=q1
  cases r1
  exact not_of (wpAny_truthy_bool ⟨.bl (!c),H1,I1,rfl,q1⟩)
def tIf (t:TT) (ta tb:TE):TE:=fun σ H Q=>t σ H fun c H1=>if c=true then ta σ H1 Q else tb σ H1 Q
theorem pe_ifExp {c:Expr} (hc:PT X c tA) (ha:PE X a ta) (hb:PE X b tb):PE X (.IfExp c a b pos) (tIf tA ta tb):=by
  intro pins s σ H Q I h
  refine wpAny_IfExp (thn (hc pins s σ H _ I h) fun d s1 ⟨H1,I1,q1⟩=>?_)
  cases d with
  | true=>exact ha pins s1 σ H1 Q I1 q1
  | false=>exact hb pins s1 σ H1 Q I1 q1
end
end L2
namespace L2
open PySem PySem.Spec PyProof.Rows
def SqL (K:PySem.W.Frag) (H:Hp) (a:Addr) (xs:List V):Prop :=
  Rd H a (.lst xs) ∨
    ∃ (o:Obj) (its:Array Value) (n:Nat),K.lookup a=some o∧o.cls=.type "list"∧o.dict=none∧o.data=.seq its n∧its.size≤sizeLine∧Vals xs its.toList
def SqT (K:PySem.W.Frag) (H:Hp) (a:Addr) (xs:List V):Prop :=
  Rd H a (.tup xs) ∨
    ∃ (o:Obj) (its:Array Value) (n:Nat),K.lookup a=some o∧o.cls=.type "tuple"∧o.data=.seq its n∧its.size≤sizeLine∧Vals xs its.toList
def absV:Value->Option V
  | .none=>some .non
  | .bool b=>some (.bl b)
  | .int i _=>some (.int i)
  | .str x _=>some (.str x)
  | .bytes b _=>some (.byt b)
  | .float b _=>some (.flt b)
  | .ref a=>some (.ref a)
  | .type n=>some (.ty n)
  | _=>none
theorem RelV.abs {x:V} {u:Value} (r:RelV x u):absV u=some x:=by
  cases x with
  | non=>cases r; rfl
  | bl _=>cases r; rfl
  | int _=>obtain ⟨t,rfl⟩:=r; rfl
  | str _=>obtain ⟨t,rfl⟩:=r; rfl
  | byt _=>obtain ⟨t,rfl⟩:=r; rfl
  | flt _=>obtain ⟨t,rfl⟩:=r; rfl
  | ref _=>cases r; rfl
  | ty _=>cases r; rfl
theorem RelV.inj {x y:V} {u:Value} (r:RelV x u) (q:RelV y u):x=y:=Option.some.inj (r.abs.symm.trans q.abs)
theorem Vals.inj:∀ {xs ys:List V} {us:List Value},Vals xs us->Vals ys us->xs=ys
  | _,_,_,.nil,.nil=>rfl
  | _,_,_,.cons r t,.cons r' t'=>by rw [r.inj r',Vals.inj t t']
section
variable {X:Cx} {pins:List (Addr × Obj)} {σ:St} {H:Hp} {s:Shared} {a:Addr} {xs ys:List V}
theorem SqL.of {K:PySem.W.Frag} (h:H a=some (.lst xs)):SqL K H a xs:=.inl (.inl h)
theorem SqT.of {K:PySem.W.Frag} (h:H a=some (.tup xs)):SqT K H a xs:=.inl (.inl h)
theorem Inv.list (I:Inv X pins σ H s) (h:SqL X.K H a xs):∃ its:List Value,Vals xs its∧PlainL s.heap a its.toArray∧xs.length≤sizeLine:=by
  rcases h with h | ⟨o,its,n,hk,hc,hd,hs,hz,r⟩
  . obtain ⟨z,its,n,r,e⟩:=h.ok I.hok
    exact ⟨its,r,⟨_,n,e,rfl,rfl,rfl⟩,z⟩
  . refine ⟨its.toList,r,⟨o,n,I.kIn a o hk,hc,hd,by simpa using hs⟩,?_⟩
    have e:=r.length
    simp only [Array.length_toList] at e
    omega
theorem Inv.tuple (I:Inv X pins σ H s) (h:SqT X.K H a xs):∃ its:List Value,Vals xs its∧IsTup s.heap a its.toArray∧xs.length≤sizeLine:=by
  rcases h with h | ⟨o,its,n,hk,hc,hs,hz,r⟩
  . obtain ⟨z,its,r,p,_⟩:=h.ok I.hok
    exact ⟨its,r,p,z⟩
  . refine ⟨its.toList,r,⟨o,I.kIn a o hk,hc,n,by simpa using hs⟩,?_⟩
    have e:=r.length
    simp only [Array.length_toList] at e
    omega
theorem Inv.list_inj (I:Inv X pins σ H s) (h:SqL X.K H a xs) (h':SqL X.K H a ys):xs=ys:=by
  obtain ⟨its,r,⟨o,n,e,_,_,d⟩,_⟩:=I.list h
  obtain ⟨its',r',⟨o',n',e',_,_,d'⟩,_⟩:=I.list h'
  rw [e] at e'; cases e'
  rw [d] at d'
  injection d' with d1 _
  have:its=its':=by simpa using congrArg Array.toList d1
  subst this
  exact r.inj r'
theorem Inv.tuple_inj (I:Inv X pins σ H s) (h:SqT X.K H a xs) (h':SqT X.K H a ys):xs=ys:=by
  obtain ⟨its,r,⟨o,e,_,n,d⟩,_⟩:=I.tuple h
  obtain ⟨its',r',⟨o',e',_,n',d'⟩,_⟩:=I.tuple h'
  rw [e] at e'; cases e'
  rw [d] at d'
  injection d' with d1 _
  have:its=its':=by simpa using congrArg Array.toList d1
  subst this
  exact r.inj r'
end
abbrev Cx.wish (X:Cx) (E:Value->Shared->Prop):Cx:={ X with xe:=E }
abbrev Cx.nox (X:Cx):Cx:=X.wish fun _ _=>False
theorem Cx.Ok.wish {X:Cx} (ok:X.Ok) (E:Value->Shared->Prop):(X.wish E).Ok :=
  ⟨ok.mod,ok.kind,ok.glob,ok.blt,ok.above,ok.inj,ok.has,ok.cab,ok.hd,ok.frames,ok.stk,ok.exf,ok.bs,ok.bsz,ok.noex,ok.exfs,ok.funs,ok.frf⟩
theorem Cx.Ok.unwish {X:Cx} {E:Value->Shared->Prop} (ok:(X.wish E).Ok):X.Ok :=
  ⟨ok.mod,ok.kind,ok.glob,ok.blt,ok.above,ok.inj,ok.has,ok.cab,ok.hd,ok.frames,ok.stk,ok.exf,ok.bs,ok.bsz,ok.noex,ok.exfs,ok.funs,ok.frf⟩
section
variable {X:Cx} {pins:List (Addr × Obj)} {σ:St} {H:Hp} {s:Shared} {E:Value->Shared->Prop}
theorem Inv.wish (I:Inv X pins σ H s) (E:Value->Shared->Prop):Inv (X.wish E) pins σ H s:=⟨I.ok.wish E,I.os,I.bare,I.base,I.loc,I.cell,I.free,I.freeC,I.pin,I.hok,I.len⟩
theorem Inv.unwish (I:Inv (X.wish E) pins σ H s):Inv X pins σ H s:=⟨I.ok.unwish,I.os,I.bare,I.base,I.loc,I.cell,I.free,I.freeC,I.pin,I.hok,I.len⟩
theorem SP.unwish {D:Ends} {f:Flow} {s':Shared} (h:SP (X.wish E) pins D f s'):SP X pins D f s':=by
  cases f with
  | next=>obtain ⟨σ',H',I,q⟩:=h; exact ⟨σ',H',I.unwish,q⟩
  | brk=>obtain ⟨σ',H',I,q⟩:=h; exact ⟨σ',H',I.unwish,q⟩
  | cont=>obtain ⟨σ',H',I,q⟩:=h; exact ⟨σ',H',I.unwish,q⟩
  | ret u=>obtain ⟨v,σ',H',I,r,q⟩:=h; exact ⟨v,σ',H',I.unwish,r,q⟩
theorem PE.nox {e:Expr} {t:TE} (h:PE X.nox e t):PE X e t:=fun pins s σ H Q I hw =>
  wpAny_mono (h pins s σ H Q (I.wish _) hw) (fun _ _ ⟨v,H',I',r,q⟩=>⟨v,H',I'.unwish,r,q⟩) fun _ _ z=>False.elim z
theorem PT.nox {e:Expr} {t:TT} (h:PT X.nox e t):PT X e t:=fun pins s σ H Q I hw =>
  wpAny_mono (h pins s σ H Q (I.wish _) hw) (fun _ _ ⟨H',I',q⟩=>⟨H',I'.unwish,q⟩) fun _ _ z=>False.elim z
theorem PSs.nox {st:List Stmt} {t:TS} (h:PSs X.nox st t):PSs X st t:=fun pins s σ H D I hw =>
  wpAny_mono (h pins s σ H D (I.wish _) hw) (fun _ _ q=>q.unwish) fun _ _ z=>False.elim z
end
section
variable {X:Cx} {st:Stmt} {rest:List Stmt} {t u:TS} {e:Expr} {te:TE} {pos:Pos}
def tNext:TS:=fun D σ H=>D.nx σ H
def tSeq (t u:TS):TS:=fun D σ H=>t { D with nx:=u D } σ H
theorem pss_nil:PSs X [] tNext:=fun _ _ σ H _ I h=>wpAny_execs_nil ⟨σ,H,I,h⟩
theorem pss_cons (h1:PS X st t) (h2:PSs X rest u):PSs X (st::rest) (tSeq t u):=by
  intro pins s σ H D I h
  refine wpAny_execs_cons (thn (h1 pins s σ H { D with nx:=u D } I h) fun f s1 q=>?_)
  cases f with
  | next =>
    obtain ⟨σ',H',I',q⟩:=q
    exact h2 pins s1 σ' H' D I' q
  | ret v=>exact q
  | brk=>exact q
  | cont=>exact q
theorem pss_one (h1:PS X st t):PSs X [st] t:=by
  intro pins s σ H D I h
  refine wpAny_execs_cons (thn (h1 pins s σ H D I h) fun f s1 q=>?_)
  cases f with
  | next=>exact wpAny_execs_nil q
  | ret v=>exact q
  | brk=>exact q
  | cont=>exact q
def tBreak:TS:=fun D σ H=>D.bk σ H
theorem ps_break:PS X (.Break pos) tBreak:=fun _ _ σ H _ I h=>wpAny_Break ⟨σ,H,I,h⟩
theorem Inv.quiet {pins:List (Addr × Obj)} {σ:St} {H:Hp} {s:Shared} (I:Inv X pins σ H s):interactive X.env=false:=by simp [interactive,I.ok.kind]
def tDrop (te:TE):TS:=fun D σ H=>te σ H fun _ H1=>D.nx σ H1
theorem ps_expr (he:PE X e te) (hs:swapsWith e none pos.line X.env=pure false:=by rfl):PS X (.Expr e pos) (tDrop te):=by
  intro pins s σ H D I h
  exact wpAny_Expr_any (thn (he pins s σ H _ I h) fun v s1 ⟨x,H1,I1,r1,q1⟩=>⟨σ,H1,I1,q1⟩) I.quiet hs
def tRet (te:TE):TS:=fun D σ H=>te σ H D.rt
theorem ps_ret (he:PE X e te):PS X (.Return (some e) pos) (tRet te):=by
  intro pins s σ H D I h
  exact wpAny_Return_some (thn (he pins s σ H _ I h) fun v s1 ⟨x,H1,I1,r1,q1⟩=>⟨x,σ,H1,I1,r1,q1⟩)
def tIfS (c:TT) (t u:TS):TS:=fun D σ H=>c σ H fun b H1=>if b=true then t D σ H1 else u D σ H1
theorem ps_if {c:Expr} {a b:List Stmt} {tc:TT} (hc:PT X c tc) (ha:PSs X a t) (hb:PSs X b u):PS X (.If c a b pos) (tIfS tc t u):=by
  intro pins s σ H D I h
  refine wpAny_If (thn (hc pins s σ H _ I h) fun d s1 ⟨H1,I1,q1⟩=>?_)
  cases d with
  | true=>exact ha pins s1 σ H1 D I1 q1
  | false=>exact hb pins s1 σ H1 D I1 q1
end
abbrev TG:=V->St->Hp->(St->Hp->Prop)->Prop
abbrev TGs:=List V->St->Hp->(St->Hp->Prop)->Prop
def PG (X:Cx) (target:Expr) (t:TG):Prop :=
  ∀ (pins:List (Addr × Obj)) (s:Shared) (σ:St) (H:Hp) (v:V) (u:Value) (Q:St->Hp->Prop),Inv X pins σ H s->RelV v u->t v σ H Q ->
    wpAny (model X.prog X.w) X.A (assign target X.env u) (fun _ s'=>∃ σ' H',Inv X pins σ' H' s'∧Q σ' H') X.xe s
def PGs (X:Cx) (ts:List Expr) (t:TGs):Prop :=
  ∀ (pins:List (Addr × Obj)) (s:Shared) (σ:St) (H:Hp) (vs:List V) (us:List Value) (Q:St->Hp->Prop),Inv X pins σ H s->Vals vs us->t vs σ H Q ->
    wpAny (model X.prog X.w) X.A (assignInOrder ((assignEach ts X.env).map (·.2)) us) (fun _ s'=>∃ σ' H',Inv X pins σ' H' s'∧Q σ' H') X.xe s
abbrev TSet:=V->V->V->Hp->(Hp->Prop)->Prop
section
variable {X:Cx} {pos:Pos}
def gName (i:Nat):TG:=fun v σ H Q=>Q (σ.set i (some v)) H
theorem pg_name {i:Nat} {x:Str} (hN:X.N.Nodup) (hi:X.N[i]?=some x) (hx:Loc X.env.scope x) (hf:X.fn x=true∨X.env.scope.names.lookup x=some .local:=by first | exact .inl rfl | exact .inr rfl | assumption):PG X (.Name x pos) (gName i):=by
  intro pins s σ H v u Q I r h
  exact wpAny_assign_Name (store_ok I hN hi hx r (fun s' I'=>⟨_,H,I',h⟩) hf)
def gNil:TGs:=fun vs σ H Q=>vs=[]∧Q σ H
def gCons (t:TG) (u:TGs):TGs:=fun vs σ H Q=>∃ v r,vs=v::r∧t v σ H fun σ' H'=>u r σ' H' Q
theorem pgs_nil:PGs X [] gNil:=by
  intro pins s σ H vs us Q I r h
  obtain ⟨e,h⟩:=h
  subst e
  cases r
  exact assignInOrder_nil ⟨σ,H,I,h⟩
theorem pgs_cons {e:Expr} {es:List Expr} {t:TG} {u:TGs} (h1:PG X e t) (h2:PGs X es u)
    (hs:(assignEach (e::es) X.env).map (·.2)=assign e X.env::(assignEach es X.env).map (·.2):=by rfl):PGs X (e::es) (gCons t u):=by
  intro pins s σ H vs us Q I r h
  obtain ⟨v,vr,e1,h⟩:=h
  subst e1
  cases r with
  | cons r rr =>
    rw [hs]
    refine assignInOrder_cons (thn (h1 pins s σ H _ _ _ I r h) fun _ s1 ⟨σ1,H1,I1,q1⟩=>?_)
    exact h2 pins s1 σ1 H1 _ _ Q I1 rr q1
def gSub (to ti:TE) (t:TSet):TG:=fun v σ H Q=>to σ H fun o H1=>ti σ H1 fun i H2=>t o i v H2 fun H3=>Q σ H3
def tAsg (te:TE) (g:TG):TS:=fun D σ H=>te σ H fun x H1=>g x σ H1 D.nx
theorem ps_asg {tg e:Expr} {te:TE} {g:TG} (he:PE X e te) (hg:PG X tg g) (hs:swapsWithSole [tg] e pos.line X.env=pure false:=by rfl) (hw:swappedStores [tg] e X.env=pure none:=by rfl)
    (h1:(assignEach [tg] X.env).map (·.2)=[assign tg X.env]:=by rfl):PS X (.Assign [tg] e pos) (tAsg te g):=by
  intro pins s σ H D I h
  refine wpAny_Assign_stores (thn (he pins s σ H _ I h) fun v s1 ⟨x,H1,I1,r1,q1⟩=>?_) hs hw
  rw [h1]
  exact thn (hg pins s1 σ H1 x v _ I1 r1 q1) fun _ s2 q=>q
theorem ps_set {i:Nat} {x:Str} {e:Expr} {te:TE} {pos':Pos} (hN:X.N.Nodup) (hi:X.N[i]?=some x) (hx:Loc X.env.scope x) (he:PE X e te) (hs:swapsWith e (some (.Name x pos')) pos.line X.env=pure false:=by rfl) (hf:X.fn x=true∨X.env.scope.names.lookup x=some .local:=by first | exact .inl rfl | exact .inr rfl | assumption) :
    PS X (.Assign [.Name x pos'] e pos) (tAsg te (gName i)):=by
  intro pins s σ H D I h
  refine wpAny_Assign_Name (thn (he pins s σ H _ I h) fun v s1 ⟨y,H1,I1,r1,q1⟩=>?_) hs
  exact store_ok I1 hN hi hx r1 (fun s2 I2=>⟨_,H1,I2,q1⟩) hf
end
section
variable {X:Cx} {pos:Pos}
def tWhile (c:TT) (tb:TS):TS:=fun D σ H=>∃ W:Nat->St->Hp->Prop,(∃ m,W m σ H)∧∀ m σ H,W m σ H ->
  c σ H fun b H1=>if b=true then ∃ N:St->Hp->Prop,(∀ σ' H',N σ' H'->∃ m',m' < m∧W m' σ' H')∧tb { D with nx:=N,ct:=N,bk:=D.nx } σ H1 else D.nx σ H1
theorem ps_while {c:Expr} {body:List Stmt} {tc:TT} {tb:TS} (hp:PassesOwn (model X.prog X.w) X.A X.env X.xe) (hc:PT X c tc) (hb:PSs X body tb):PS X (.While c body [] pos) (tWhile tc tb):=by
  intro pins s σ H D I h
  obtain ⟨W,⟨m0,w0⟩,turn⟩:=h
  refine wpAny_While (codeAny_whileLoop (fun n s'=>∃ σ' H',Inv X pins σ' H' s'∧W n σ' H') ?_ m0 ⟨σ,H,I,w0⟩)
  rintro n s1 ⟨σ1,H1,I1,w1⟩
  refine wpAny_passesOwn hp (thn (hc pins s1 σ1 H1 _ I1 (turn n σ1 H1 w1)) fun b s2 ⟨H2,I2,q2⟩=>?_)
  cases b with
  | true =>
    obtain ⟨N,hN,q2⟩:=q2
    rw [if_pos rfl]
    refine wpAny_passesOwn hp (thn (hb pins s2 σ1 H2 _ I2 q2) fun f s3 q3=>?_)
    cases f with
    | next =>
      obtain ⟨σ3,H3,I3,n3⟩:=q3
      obtain ⟨m',hm,w3⟩:=hN σ3 H3 n3
      exact ⟨m',hm,σ3,H3,I3,w3⟩
    | cont =>
      obtain ⟨σ3,H3,I3,n3⟩:=q3
      obtain ⟨m',hm,w3⟩:=hN σ3 H3 n3
      exact ⟨m',hm,σ3,H3,I3,w3⟩
    | brk=>exact q3
    | ret v=>exact q3
  | false =>
    rw [if_neg Bool.false_ne_true]
    exact wpAny_execs_nil ⟨σ1,H2,I2,q2⟩
end
structure It where
  go:Nat->Hp->Prop
  yld:Nat->Hp->V->Hp->Prop
  stop:Nat->Hp->Prop
def FpOk (X:Cx) (pins:List (Addr × Obj)) (H:Hp) (b:Addr):Prop :=
  H b=none∧b≠X.env.locals∧b ∉ X.fs∧(b∈X.ex∨X.s₀.heap.objs.size≤b)∧(∀ x c,X.env.cells.lookup x=some c->c≠b)∧∀ p∈X.pn++pins,p.1≠b
theorem Inv.fpOk {X:Cx} {pins:List (Addr × Obj)} {σ:St} {H H':Hp} {s:Shared} {b:Addr} (I:Inv X pins σ H s) (hb:s.heap.objs.size≤b) (hn:H' b=none):FpOk X pins H' b:=by
  refine ⟨hn,Nat.ne_of_gt (Nat.lt_of_lt_of_le I.lt hb),I.nofs hb,.inr (Nat.le_trans I.sz hb),fun x c e z=>?_,fun p hp z=>?_⟩
  . obtain ⟨v,q⟩:=I.cell x c e
    exact absurd (Nat.lt_of_lt_of_le q.lt (by rw [z]; exact hb)) (Nat.lt_irrefl _)
  . exact absurd (Nat.lt_of_lt_of_le (Heap.lt_size (I.pin p hp).1) (by rw [z]; exact hb)) (Nat.lt_irrefl _)
structure Turn (P:Program) (w:World) (K:PySem.W.Frag) (tg:Expr) (J:It) (fp:List Addr) (it:Addr) (tn:Nat->Heap->Prop):Prop where
  mem:it∈fp
  obj:∀ i h,tn i h->∀ b∈fp,∃ o,h.get? b=some o∧∀ v,o.data≠.cell v
  keep:∀ i h h',tn i h->(∀ b∈fp,∀ o,h.get? b=some o->h'.get? b=some o)->tn i h'
  item:∀ (X:Cx),X.prog=P->X.w=w->X.K=K->X.calm=true->∀ (i:Nat) (pins:List (Addr × Obj)) (s:Shared) (σ:St) (H:Hp) (E:Value->Shared->Prop),Inv X pins σ H s->(∀ b∈fp,FpOk X pins H b)->tn i s.heap->J.go i H ->
    wpAny (model P w) X.A (pyNext (.ref it)) (fun r s1=>∃ u,r=some u ∧
      wpAny (model P w) X.A (letOwnedTupleGo tg (.ref it) u) (fun _ s2=>∃ x H',Inv X pins σ H' s2∧RelV x u∧J.yld i H x H'∧tn (i + 1) s2.heap∧∀ b∈fp,H' b=none) E s1) E s
  done:∀ (X:Cx),X.prog=P->X.w=w->X.K=K->X.calm=true->∀ (i:Nat) (pins:List (Addr × Obj)) (s:Shared) (σ:St) (H:Hp) (E:Value->Shared->Prop),Inv X pins σ H s->(∀ b∈fp,FpOk X pins H b)->tn i s.heap->J.stop i H ->
    wpAny (model P w) X.A (pyNext (.ref it)) (fun r s1=>r=none∧Inv X pins σ H s1) E s
  self:∀ (A:Around) (i:Nat) (s:Shared) (Q:Value->Shared->Prop) (E:Value->Shared->Prop),tn i s.heap->Q (.ref it) s->wpAny (model P w) A (pyIter (.ref it)) Q E s
abbrev TI:=St->Hp->(It->Hp->Prop)->Prop
def PIE (X:Cx) (pins:List (Addr × Obj)) (σ:St) (tg:Expr) (R:It->Hp->Prop) (itv:Value) (s2:Shared):Prop :=
  ∃ (it:Addr) (fp:List Addr) (tn:Nat->Heap->Prop) (J:It) (H':Hp),itv=.ref it∧Inv X pins σ H' s2∧Turn X.prog X.w X.K tg J fp it tn∧tn 0 s2.heap∧(∀ b∈fp,FpOk X pins H' b)∧R J H'
def PI (X:Cx) (tg iter:Expr) (wi:TI):Prop :=
  ∀ (pins:List (Addr × Obj)) (s:Shared) (σ:St) (H:Hp) (R:It->Hp->Prop),Inv X pins σ H s->wi σ H R ->
    wpAny (model X.prog X.w) X.A (eval iter X.env) (fun v s1=>wpAny (model X.prog X.w) X.A (pyIter v) (PIE X pins σ tg R) X.xe s1) X.xe s
theorem go_of {M:Model} {A:Around} {E:Value->Shared->Prop} {s:Shared} {tg:Expr} {it:Addr} {u:Value} {o:Obj} {n:String} {vs:Array Value} {Q:Unit->Shared->Prop} (ho:s.heap.get? it=some o) (hc:o.cls=.type n) (hd:o.data=.fields vs)
    (hn : ["enumerate","zip","dict_itemiterator","dict_reverseitemiterator","odict_iterator","itertools.zip_longest","itertools.pairwise"].contains n=false) (hQ:Q () s):wpAny M A (letOwnedTupleGo tg (.ref it) u) Q E s:=by
  unfold letOwnedTupleGo
  cases tg <;> first
    | exact wpAny_pure hQ
    | (cases u <;> first
        | exact wpAny_pure hQ
        | (refine wpAny_bind (wpAny_load ho ?_)
           rw [hc,hd]
           show wpAny M A (if (["enumerate","zip","dict_itemiterator","dict_reverseitemiterator","odict_iterator","itertools.zip_longest","itertools.pairwise"].contains n && vs[0]? == some (rawInt _))=true then _ else _) Q E s
           rw [if_neg (by intro h; rw [hn,Bool.false_and] at h; cases h)]
           exact wpAny_pure hQ))
def Itl (K:PySem.W.Frag) (a:Addr):It :=
  ⟨fun i H=>∃ xs x,SqL K H a xs∧xs[i]?=some x,fun i H x H'=>H'=H∧∀ xs,SqL K H a xs->xs[i]?=some x,fun i H=>∃ xs,SqL K H a xs∧xs.length≤i⟩
def Itt (K:PySem.W.Frag) (a:Addr):It :=
  ⟨fun i H=>∃ xs x,SqT K H a xs∧xs[i]?=some x,fun i H x H'=>H'=H∧∀ xs,SqT K H a xs->xs[i]?=some x,fun i H=>∃ xs,SqT K H a xs∧xs.length≤i⟩
def Itr (lo:Int) (n:Nat):It:=⟨fun i _=>i < n,fun i H x H'=>H'=H∧x=.int (lo + i),fun i _=>n≤i⟩
theorem turn_list {P:Program} {w:World} {K:PySem.W.Frag} {tg:Expr} (a it:Addr):Turn P w K tg (Itl K a) [it] it (fun i h=>h.IsListIter it a i) where
  mem:=by simp
  obj:=fun i h st b hb=>by
    have e:b=it:=by simpa using hb
    subst e
    obtain ⟨o,e,c,d⟩:=st
    exact ⟨o,e,fun v z=>by rw [d] at z; cases z⟩
  keep:=fun i h h' st k=>st.at fun o e=>k it (by simp) o e
  item:=by
    intro X hP hw hK hc i pins s σ H E I hf st hg
    subst hP hw hK
    obtain ⟨xs,x,hq,hx⟩:=hg
    obtain ⟨its,rv,p,hz⟩:=I.list hq
    obtain ⟨u,hu,ru⟩:=rv.get hx
    obtain ⟨f0,f1,f2,f3,f4,f5⟩:=hf it (by simp)
    refine wpAny_pyNext_list_item st p.isList (x:=u) (by simpa using hu) fun h' st' sb=>?_
    have I1:Inv X pins σ H { s with heap:=h' }:=I.turned (t':=s.toks) (fun b o hb e=>(sb.2 b hb).trans e) f0 f1 f3 f4 f5
    obtain ⟨o,e,c,d⟩:=id st'
    exact ⟨u,rfl,go_of (s:={ s with heap:=h' }) e c d (by decide) ⟨x,H,I1,ru,⟨rfl,fun ys hy=>by rw [I.list_inj hy hq]; exact hx⟩,st',fun b hb=>(hf b hb).1⟩⟩
  done:=by
    intro X hP hw hK hc i pins s σ H E I hf st hg
    subst hP hw hK
    obtain ⟨xs,hq,hx⟩:=hg
    obtain ⟨its,rv,p,hz⟩:=I.list hq
    obtain ⟨f0,f1,f2,f3,f4,f5⟩:=hf it (by simp)
    have hl:=rv.length
    exact wpAny_pyNext_list_end (I.ok.hd hc) st p.isList (by simp; omega) fun h' eb=>⟨rfl,I.turned (t':=s.toks) (fun b o hb e=>eb b o hb e) f0 f1 f3 f4 f5⟩
  self:=fun _ _ _ _ _ st h=>wpAny_pyIter_listiter st h
theorem turn_tuple {P:Program} {w:World} {K:PySem.W.Frag} {tg:Expr} (a it:Addr):Turn P w K tg (Itt K a) [it] it (fun i h=>h.IsTupleIter it a i) where
  mem:=by simp
  obj:=fun i h st b hb=>by
    have e:b=it:=by simpa using hb
    subst e
    obtain ⟨o,e,c,d⟩:=st
    exact ⟨o,e,fun v z=>by rw [d] at z; cases z⟩
  keep:=fun i h h' st k=>st.at fun o e=>k it (by simp) o e
  item:=by
    intro X hP hw hK hc i pins s σ H E I hf st hg
    subst hP hw hK
    obtain ⟨xs,x,hq,hx⟩:=hg
    obtain ⟨its,rv,p,hz⟩:=I.tuple hq
    obtain ⟨u,hu,ru⟩:=rv.get hx
    obtain ⟨f0,f1,f2,f3,f4,f5⟩:=hf it (by simp)
    refine wpAny_pyNext_tuple_item st (show s.heap.IsTuple a its.toArray from p) (x:=u) (by simpa using hu) fun h' st' sb=>?_
    have I1:Inv X pins σ H { s with heap:=h' }:=I.turned (t':=s.toks) (fun b o hb e=>(sb.2 b hb).trans e) f0 f1 f3 f4 f5
    obtain ⟨o,e,c,d⟩:=id st'
    exact ⟨u,rfl,go_of (s:={ s with heap:=h' }) e c d (by decide) ⟨x,H,I1,ru,⟨rfl,fun ys hy=>by rw [I.tuple_inj hy hq]; exact hx⟩,st',fun b hb=>(hf b hb).1⟩⟩
  done:=by
    intro X hP hw hK hc i pins s σ H E I hf st hg
    subst hP hw hK
    obtain ⟨xs,hq,hx⟩:=hg
    obtain ⟨its,rv,p,hz⟩:=I.tuple hq
    obtain ⟨f0,f1,f2,f3,f4,f5⟩:=hf it (by simp)
    have hl:=rv.length
    exact wpAny_pyNext_tuple_end (I.ok.hd hc) st (show s.heap.IsTuple a its.toArray from p) (by simp; omega) fun h' eb=>⟨rfl,I.turned (t':=s.toks) (fun b o hb e=>eb b o hb e) f0 f1 f3 f4 f5⟩
  self:=fun _ _ _ _ _ st h=>wpAny_pyIter_tupleiter st h
theorem turn_range {P:Program} {w:World} {K:PySem.W.Frag} {tg:Expr} (it:Addr) (lo:Int) (n:Nat):Turn P w K tg (Itr lo n) [it] it (fun i h=>IsRangeIter h it (lo + (i:Nat) * 1) ((n:Int) - (i:Nat)) 1) where
  mem:=by simp
  obj:=fun i h st b hb=>by
    have e:b=it:=by simpa using hb
    subst e
    exact ⟨_,st,fun v z=>by
      have z':Data.fields _=Data.cell v:=z
      cases z'⟩
  keep:=fun i h h' st k=>k it (by simp) _ st
  item:=by
    intro X hP hw hK hc i pins s σ H E I hf st hg
    subst hP hw hK
    obtain ⟨f0,f1,f2,f3,f4,f5⟩:=hf it (by simp)
    have W:=Walks.range (prog:=X.prog) (w:=X.w) (I.ok.hd hc) it lo 1 n
    refine W.item i s _ _ hg st fun v h' tk hv st' kk=>?_
    obtain ⟨t,rfl⟩:=hv
    have I1:Inv X pins σ H { s with heap:=h',toks:=tk }:=I.turned (fun b o hb e=>kk b o (by simpa using hb) e) f0 f1 f3 f4 f5
    refine ⟨_,rfl,go_of (s:={ s with heap:=h',toks:=tk }) (n:="range_iterator") st' rfl rfl (by decide) ⟨.int (lo + i),H,I1,⟨t,?_⟩,⟨rfl,rfl⟩,st',fun b hb=>(hf b hb).1⟩⟩
    rw [Int.mul_one]
  done:=by
    intro X hP hw hK hc i pins s σ H E I hf st hg
    subst hP hw hK
    obtain ⟨f0,f1,f2,f3,f4,f5⟩:=hf it (by simp)
    exact wpAny_pyNext_range_end (I.ok.hd hc) st (by have:n≤i:=hg; omega) fun h' eb=>⟨rfl,I.turned (t':=s.toks) (fun b o hb e=>eb b o hb e) f0 f1 f3 f4 f5⟩
  self:=fun _ _ _ _ _ st h=>wpAny_pyIter_rangeiter st h
end L2
namespace L2
open PySem PySem.Spec PyProof.Rows
section
variable {X:Cx} {tg:Expr}
def iList (K:PySem.W.Frag) (tl:TE):TI:=fun σ H R=>tl σ H fun x H1=>∃ a,x=.ref a∧(∃ xs,SqL K H1 a xs)∧R (Itl K a) H1
def iTup (K:PySem.W.Frag) (tl:TE):TI:=fun σ H R=>tl σ H fun x H1=>∃ a,x=.ref a∧(∃ xs,SqT K H1 a xs)∧R (Itt K a) H1
theorem pi_list {l:Expr} {tl:TE} (hl:PE X l tl):PI X tg l (iList X.K tl):=by
  intro pins s σ H R I h
  refine thn (hl pins s σ H _ I h) fun v s1 ⟨x,H1,I1,r1,q1⟩=>?_
  obtain ⟨a,e,⟨xs,hq⟩,q⟩:=q1
  subst e
  cases r1
  obtain ⟨its,rv,p,hz⟩:=I1.list hq
  refine wpAny_pyIter_list p.isList ?_
  refine ⟨s1.heap.objs.size,[s1.heap.objs.size],_,_,H1,rfl,I1.kept (t':=s1.toks) fun b o e=>Heap.get?_push_of_some _ e,turn_list a _,⟨_,Heap.get?_push_size _ rfl,rfl,rfl⟩,fun b hb=>?_,q⟩
  have e:b=s1.heap.objs.size:=by simpa using hb
  subst e
  exact I1.fpOk (Nat.le_refl _) (I1.hok.fresh (Nat.le_refl _))
theorem pi_tup {l:Expr} {tl:TE} (hl:PE X l tl):PI X tg l (iTup X.K tl):=by
  intro pins s σ H R I h
  refine thn (hl pins s σ H _ I h) fun v s1 ⟨x,H1,I1,r1,q1⟩=>?_
  obtain ⟨a,e,⟨xs,hq⟩,q⟩:=q1
  subst e
  cases r1
  obtain ⟨its,rv,p,hz⟩:=I1.tuple hq
  refine wpAny_pyIter_tuple (show s1.heap.IsTuple a its.toArray from p) ?_
  refine ⟨s1.heap.objs.size,[s1.heap.objs.size],_,_,H1,rfl,I1.kept (t':=s1.toks) fun b o e=>Heap.get?_push_of_some _ e,turn_tuple a _,⟨_,Heap.get?_push_size _ rfl,rfl,rfl⟩,fun b hb=>?_,q⟩
  have e:b=s1.heap.objs.size:=by simpa using hb
  subst e
  exact I1.fpOk (Nat.le_refl _) (I1.hok.fresh (Nat.le_refl _))
theorem range_it {pins:List (Addr × Obj)} {σ:St} {H:Hp} {s:Shared} {R:It->Hp->Prop} {E:Value->Shared->Prop} {lo hi:Int} {t u v:Tok} {tk:Nat} (I:Inv X pins σ H s) (h1 : -(2 ^ 62)≤lo) (h2:lo < 2 ^ 62) (h3 : -(2 ^ 62)≤hi) (h4:hi < 2 ^ 62)
    (q:R (Itr lo (hi - lo).toNat) H):wpAny (model X.prog X.w) X.A (pyIter (.ref s.heap.objs.size)) (PIE X pins σ tg R) E { s with heap:=s.heap.push { cls:=.type "range",data:=.fields #[.int lo t,.int hi u,.int 1 v] },toks:=tk }:=by
  refine wpAny_pyIter_range (IsRange.new ..) (small_one h1 h2 h3 h4) ?_
  have I1:Inv X pins σ H { s with heap:=s.heap.push { cls:=.type "range",data:=.fields #[.int lo t,.int hi u,.int 1 v] },toks:=tk }:=I.kept fun b o e=>Heap.get?_push_of_some _ e
  refine ⟨(s.heap.push { cls:=.type "range",data:=.fields #[.int lo t,.int hi u,.int 1 v] }).objs.size,[(s.heap.push { cls:=.type "range",data:=.fields #[.int lo t,.int hi u,.int 1 v] }).objs.size],_,_,H,rfl,
    I1.kept (t':=tk) fun b o e=>Heap.get?_push_of_some _ e,turn_range _ lo (hi - lo).toNat,?_,fun b hb=>?_,q⟩
  . have e1:lo + ((0:Nat):Int) * 1=lo:=by simp
    have e2:(((hi - lo).toNat:Nat):Int) - ((0:Nat):Int)=Builtin.Range.rangeSize lo hi 1:=by rw [rangeSize_one]; split <;> omega
    show IsRangeIter _ _ (lo + ((0:Nat):Int) * 1) ((((hi - lo).toNat:Nat):Int) - ((0:Nat):Int)) 1
    rw [e1,e2]
    exact Heap.get?_push_size _ rfl
  . have e:b=(s.heap.push { cls:=.type "range",data:=.fields #[.int lo t,.int hi u,.int 1 v] }).objs.size:=by simpa using hb
    subst e
    exact I1.fpOk (Nat.le_refl _) (I1.hok.fresh (Nat.le_refl _))
def iRng1 (ta:TA):TI:=fun σ H R=>ta σ H fun vs H1=>∃ j:Int,vs=[.int j]∧-(2 ^ 62)≤j∧j < 2 ^ 62∧R (Itr 0 j.toNat) H1
theorem pi_range1 {a:Expr} {ta:TA} {p pos:Pos} (hg:Gl X "range") (hm:X.mg "range" = none) (ha:PA X [a] ta) (hs:starEach [a] X.env=[(false,eval a X.env)]:=by rfl):PI X tg (.Call (.Name "range" p) [a] [] pos) (iRng1 ta):=by
  intro pins s σ H R I h
  refine Call_ (ld_blt I hg hm boot_range (PyProof.Rows.callWith_type1 (thn (ha pos pins s σ H _ I h) fun us s1 ⟨vs,H1,I1,r1,q1⟩=>?_) hs rfl))
  obtain ⟨j,e,q1,q2,q⟩:=q1
  subst e
  cases r1 with
  | cons r rr =>
    cases rr
    obtain ⟨t,rfl⟩:=r
    exact call_range_1 (range_it I1 (by omega) (by omega) q1 q2 (by simpa using q))
def tFor (wi:TI) (g:TG) (tb:TS):TS:=fun D σ H=>wi σ H fun J H1=>∃ W:Nat->Nat->St->Hp->Prop,(∃ m,W 0 m σ H1)∧∀ i m σ H,W i m σ H ->
  (J.stop i H∧D.nx σ H)∨(J.go i H∧∃ N:St->Hp->Prop,(∀ σ' H',N σ' H'->∃ m',m' < m∧W (i + 1) m' σ' H')∧∀ x H',J.yld i H x H'->g x σ H' fun σ2 H2=>tb { D with nx:=N,ct:=N,bk:=D.nx } σ2 H2)
def pinsAt (fp:List Addr) (h:Heap):List (Addr × Obj):=fp.filterMap fun b=>(h.get? b).map fun o=>(b,o)
theorem mem_pinsAt {fp:List Addr} {h:Heap} {b:Addr} {o:Obj} (hb:b∈fp) (e:h.get? b=some o):(b,o)∈pinsAt fp h:=List.mem_filterMap.mpr ⟨b,hb,by rw [e]; rfl⟩
theorem of_pinsAt {fp:List Addr} {h:Heap} {p:Addr × Obj} (hp:p∈pinsAt fp h):p.1∈fp∧h.get? p.1=some p.2:=by
  obtain ⟨b,hb,e⟩:=List.mem_filterMap.mp hp
  cases q:h.get? b with
  | none=>rw [q] at e; cases e
  | some o =>
    rw [q] at e
    have e':(b,o)=p:=Option.some.inj e
    subst e'
    exact ⟨hb,q⟩
theorem Inv.pinned {pins:List (Addr × Obj)} {σ:St} {H:Hp} {s:Shared} {fp:List Addr} (I:Inv X pins σ H s) (hf:∀ b∈fp,FpOk X pins H b) (ho:∀ b∈fp,∃ o,s.heap.get? b=some o∧∀ v,o.data≠.cell v):Inv X (pins++pinsAt fp s.heap) σ H s :=
  I.pins_of fun p hp=>(List.mem_append.mp hp).elim (fun z=>I.pin p (List.mem_append_right _ z)) fun z=>by
    obtain ⟨hb,e⟩:=of_pinsAt z
    obtain ⟨f0,f1,f2,_⟩:=hf p.1 hb
    obtain ⟨o,e',d⟩:=ho p.1 hb
    rw [e] at e'; cases e'
    exact ⟨e,f0,f1,f2,d⟩
theorem Inv.unpinned {pins pl:List (Addr × Obj)} {σ:St} {H:Hp} {s:Shared} (I:Inv X (pins++pl) σ H s):Inv X pins σ H s:=I.pins_of fun p hp=>I.pin p (List.mem_append_right _ (List.mem_append_left _ hp))
theorem ps_for {iter:Expr} {body:List Stmt} {wi:TI} {g:TG} {tb:TS} {pos:Pos} (hp:PassesOwn (model X.prog X.w) X.A X.env X.xe) (hc:X.calm=true) (hi:PI X tg iter wi) (hg:PG X tg g) (hb:PSs X body tb)
    (hs:∀ x,foldedSetIterable iter X.env x=pure x:=by intro _; rfl):PS X (.For tg iter body [] pos) (tFor wi g tb):=by
  intro pins s σ H D I h
  refine wpAny_For (thn (hi pins s σ H _ I h) fun v s1 h1=>thn h1 fun itv s2 h2=>?_) hs
  obtain ⟨it,fp,tn,J,H2,e,I2,T,st2,f2,W,⟨m0,w0⟩,turn⟩:=h2
  subst e
  have stat:∀ {H':Hp},(∀ b∈fp,H' b=none)->∀ b∈fp,FpOk X pins H' b:=fun hn b hb=>⟨hn b hb,(f2 b hb).2⟩
  refine codeAny_forLoop_any (fun n s'=>∃ i σ' H',Inv X pins σ' H' s'∧tn i s'.heap∧(∀ b∈fp,H' b=none)∧W i n σ' H') ?_ m0 ⟨0,σ,H2,I2,st2,fun b hb=>(f2 b hb).1,w0⟩
  rintro n s3 ⟨i,σ3,H3,I3,st3,fr3,w3⟩
  rcases turn i n σ3 H3 w3 with ⟨stop,qn⟩ | ⟨go,N,hN,step⟩
  . refine wpAny_passesOwn hp (thn (T.done X rfl rfl rfl hc i pins s3 σ3 H3 X.xe I3 (stat fr3) st3 stop) fun r s4 ⟨hr,I4⟩=>?_)
    subst hr
    exact wpAny_execs_nil ⟨σ3,H3,I4,qn⟩
  . refine wpAny_passesOwn hp (thn (T.item X rfl rfl rfl hc i pins s3 σ3 H3 X.xe I3 (stat fr3) st3 go) fun r s4 ⟨u,hr,h4⟩=>?_)
    subst hr
    refine wpAny_passesOwn hp (thn h4 fun _ s5 ⟨x,H5,I5,r5,y5,st5,fr5⟩=>?_)
    have I5':=I5.pinned (stat fr5) (T.obj _ _ st5)
    refine wpAny_passesOwn hp (thn (hg _ s5 σ3 H5 x u _ I5' r5 (step x H5 y5)) fun _ s6 ⟨σ6,H6,I6,q6⟩=>?_)
    refine wpAny_passesOwn hp (thn (hb _ s6 σ6 H6 _ I6 q6) fun f s7 q7=>?_)
    have again:∀ {σ7:St} {H7:Hp},Inv X (pins++pinsAt fp s5.heap) σ7 H7 s7->N σ7 H7->∃ m,m < n∧∃ i σ' H',Inv X pins σ' H' s7∧tn i s7.heap∧(∀ b∈fp,H' b=none)∧W i m σ' H':=fun {σ7 H7} I7 n7=>by
      obtain ⟨m',hm,w7⟩:=hN σ7 H7 n7
      refine ⟨m',hm,i + 1,σ7,H7,I7.unpinned,T.keep _ _ _ st5 fun b hb o e=>(I7.pin (b,o) (List.mem_append_right _ (List.mem_append_right _ (mem_pinsAt hb e)))).1,fun b hb=>?_,w7⟩
      obtain ⟨o,e,d⟩:=T.obj _ _ st5 b hb
      exact (I7.pin (b,o) (List.mem_append_right _ (List.mem_append_right _ (mem_pinsAt hb e)))).2.1
    cases f with
    | next=>obtain ⟨σ7,H7,I7,n7⟩:=q7; exact again I7 n7
    | cont=>obtain ⟨σ7,H7,I7,n7⟩:=q7; exact again I7 n7
    | brk=>obtain ⟨σ7,H7,I7,q7⟩:=q7; exact ⟨σ7,H7,I7.unpinned,q7⟩
    | ret v=>obtain ⟨x7,σ7,H7,I7,r7,q7⟩:=q7; exact ⟨x7,σ7,H7,I7.unpinned,r7,q7⟩
end
end L2
namespace L2
open PySem PySem.Spec PyProof.Rows
abbrev R2:=V->V->Hp->VK->Prop
def OpR (X:Cx) (f:Value->Value->Sem Value) (r:R2):Prop :=
  ∀ (pins:List (Addr × Obj)) (s:Shared) (σ:St) (H:Hp) (x y:V) (v u:Value) (Q:VK),Inv X pins σ H s->RelV x v->RelV y u->r x y H Q ->
    wpAny (model X.prog X.w) X.A (f v u) (EP X pins σ Q) X.xe s
def UnR (X:Cx) (f:Value->Sem Value) (r:V->Hp->VK->Prop):Prop :=
  ∀ (pins:List (Addr × Obj)) (s:Shared) (σ:St) (H:Hp) (x:V) (v:Value) (Q:VK),Inv X pins σ H s->RelV x v->r x H Q ->
    wpAny (model X.prog X.w) X.A (f v) (EP X pins σ Q) X.xe s
def CallR (X:Cx) (f:Value) (r:List V->Hp->VK->Prop):Prop :=
  ∀ (pins:List (Addr × Obj)) (s:Shared) (σ:St) (H:Hp) (xs:List V) (us:List Value) (Q:VK),Inv X pins σ H s->Vals xs us->r xs H Q ->
    wpAny (model X.prog X.w) X.A (call f us) (EP X pins σ Q) X.xe s
def tOp (r:R2) (ta tb:TE):TE:=fun σ H Q=>ta σ H fun x H1=>tb σ H1 fun y H2=>r x y H2 Q
def tUn (r:V->Hp->VK->Prop) (ta:TE):TE:=fun σ H Q=>ta σ H fun x H1=>r x H1 Q
def rI (C:Int->Int->Prop) (g:Int->Int->V):R2:=fun x y H Q=>∃ i j,x=.int i∧y=.int j∧C i j∧Q (g i j) H
def rI0 (g:Int->Int->V):R2:=fun x y H Q=>∃ i j,x=.int i∧y=.int j∧Q (g i j) H
def rU (g:Int->V):V->Hp->VK->Prop:=fun x H Q=>∃ i,x=.int i∧Q (g i) H
section
variable {X:Cx} {a b c:Expr} {ta tb tc:TE} {pos:Pos}
theorem binT (ha:PE X a ta) (hb:PE X b tb) {pins:List (Addr × Obj)} {s:Shared} {σ:St} {H:Hp} {R:V->V->Hp->Prop} (I:Inv X pins σ H s)
    (h:ta σ H fun x H1=>tb σ H1 fun y H2=>R x y H2) {Q:Value->Shared->Prop} {f:Value->Value->Sem Value}
    (hf:∀ v u s2 x y H2,Inv X pins σ H2 s2->RelV x v->RelV y u->R x y H2->wpAny (model X.prog X.w) X.A (f v u) Q X.xe s2) :
    wpAny (model X.prog X.w) X.A (eval a X.env) (fun v s₁=>wpAny (model X.prog X.w) X.A (eval b X.env) (fun u s₂=>wpAny (model X.prog X.w) X.A (f v u) Q X.xe s₂) X.xe s₁) X.xe s:=by
  refine thn (ha pins s σ H _ I h) fun v s1 ⟨x,H1,I1,r1,q1⟩=>?_
  refine thn (hb pins s1 σ H1 _ I1 q1) fun u s2 ⟨y,H2,I2,r2,q2⟩=>?_
  exact hf v u s2 x y H2 I2 r1 r2 q2
theorem pe_op {op:Operator} {r:R2} (ho:OpR X (binaryOp op) r) (ha:PE X a ta) (hb:PE X b tb):PE X (.BinOp a op b pos) (tOp r ta tb):=by
  intro pins s σ H Q I h
  exact wpAny_BinOp (binT ha hb I h fun v u s2 x y H2 I2 rx ry q=>ho pins s2 σ H2 x y v u Q I2 rx ry q)
theorem pe_un {op:UnaryOp} {r:V->Hp->VK->Prop} (ho:UnR X (unaryOp op) r) (ha:PE X a ta):PE X (.UnaryOp op a pos) (tUn r ta):=by
  intro pins s σ H Q I h
  exact UnaryOp_ (thn (ha pins s σ H _ I h) fun v s1 ⟨x,H1,I1,r1,q1⟩=>ho pins s1 σ H1 x v Q I1 r1 q1)
theorem opI {f:Value->Value->Sem Value} {C:Int->Int->Prop} {g:Int->Int->Int}
    (rule:∀ (i j:Int) (t u:Tok) (s:Shared) (Q:Value->Shared->Prop) (E:Value->Shared->Prop),C i j->Q (.int (g i j) s.toks) { s with toks:=s.toks + 1 }->wpAny (model X.prog X.w) X.A (f (.int i t) (.int j u)) Q E s) :
    OpR X f (rI C fun i j=>.int (g i j)):=by
  intro pins s σ H x y v u Q I rx ry h
  obtain ⟨i,j,rfl,rfl,hc,q⟩:=h
  obtain ⟨t,rfl⟩:=rx
  obtain ⟨t',rfl⟩:=ry
  exact rule i j t t' s _ _ hc ⟨.int (g i j),H,I.tok _,⟨_,rfl⟩,q⟩
theorem opI0 {f:Value->Value->Sem Value} {g:Int->Int->Int}
    (rule:∀ (i j:Int) (t u:Tok) (s:Shared) (Q:Value->Shared->Prop) (E:Value->Shared->Prop),Q (.int (g i j) s.toks) { s with toks:=s.toks + 1 }->wpAny (model X.prog X.w) X.A (f (.int i t) (.int j u)) Q E s) :
    OpR X f (rI0 fun i j=>.int (g i j)):=by
  intro pins s σ H x y v u Q I rx ry h
  obtain ⟨i,j,rfl,rfl,q⟩:=h
  obtain ⟨t,rfl⟩:=rx
  obtain ⟨t',rfl⟩:=ry
  exact rule i j t t' s _ _ ⟨.int (g i j),H,I.tok _,⟨_,rfl⟩,q⟩
theorem opB0 {f:Value->Value->Sem Value} {g:Int->Int->Bool}
    (rule:∀ (i j:Int) (t u:Tok) (s:Shared) (Q:Value->Shared->Prop) (E:Value->Shared->Prop),Q (.bool (g i j)) s->wpAny (model X.prog X.w) X.A (f (.int i t) (.int j u)) Q E s) :
    OpR X f (rI0 fun i j=>.bl (g i j)):=by
  intro pins s σ H x y v u Q I rx ry h
  obtain ⟨i,j,rfl,rfl,q⟩:=h
  obtain ⟨t,rfl⟩:=rx
  obtain ⟨t',rfl⟩:=ry
  exact rule i j t t' s _ _ ⟨.bl (g i j),H,I,rfl,q⟩
def CDiv (i j:Int):Prop:=0 < j∧j < 1073741824
def CPow (i j:Int):Prop:=0≤j∧j≤1000000∧i.natAbs < 2 ^ 64
def CMul (i j:Int):Prop:=(-(2 ^ 64) < i∧i < 2 ^ 64)∨(-(2 ^ 64) < j∧j < 2 ^ 64)
theorem CMul.ok {i j:Int} (h:CMul i j):IntMulOk i j:=by
  rcases h with ⟨h1,h2⟩ | ⟨h1,h2⟩
  . exact .of_left (intBits_le_64 h1 h2)
  . exact .of_right (intBits_le_64 h1 h2)
theorem op_add:OpR X (binaryOp .Add) (rI0 fun i j=>.int (i + j)):=opI0 fun _ _ _ _ _ _ _ q=>add_int q
theorem op_sub:OpR X (binaryOp .Sub) (rI0 fun i j=>.int (i - j)):=opI0 fun _ _ _ _ _ _ _ q=>sub_int q
theorem op_fdiv:OpR X (binaryOp .FloorDiv) (rI CDiv fun i j=>.int (i / j)):=opI fun i j _ _ _ _ _ hc q=>by
  have h1:(0:Int) < j:=hc.1
  have h2:j < 1073741824:=hc.2
  exact floordiv_int (by omega) (by rw [Int.fdiv_eq_ediv_of_nonneg i (by omega)]; exact q) (.inl (PyProof.noPylong_small (by omega)))
theorem op_mod:OpR X (binaryOp .Mod) (rI (fun _ j=>0 < j) fun i j=>.int (i % j)):=opI fun i j _ _ _ _ _ hc q=>by
  have h1:(0:Int) < j:=hc
  exact mod_int' (by omega) (by rw [Int.fmod_eq_emod_of_nonneg i (by omega)]; exact q)
theorem op_pow:OpR X (binaryOp .Pow) (rI CPow fun i j=>.int (i ^ j.toNat)):=opI fun _ _ _ _ _ _ _ hc q=>pow_int_small hc.1 hc.2.1 hc.2.2 q
theorem unI {f:Value->Sem Value} {g:Int->Int}
    (rule:∀ (i:Int) (t:Tok) (s:Shared) (Q:Value->Shared->Prop) (E:Value->Shared->Prop),Q (.int (g i) s.toks) { s with toks:=s.toks + 1 }->wpAny (model X.prog X.w) X.A (f (.int i t)) Q E s) :
    UnR X f (rU fun i=>.int (g i)):=by
  intro pins s σ H x v Q I rx h
  obtain ⟨i,rfl,q⟩:=h
  obtain ⟨t,rfl⟩:=rx
  exact rule i t s _ _ ⟨.int (g i),H,I.tok _,⟨_,rfl⟩,q⟩
theorem un_neg:UnR X (unaryOp .USub) (rU fun i=>.int (-i)):=unI fun _ _ _ _ _ q=>neg_int q
end
section
variable {X:Cx} {a b c:Expr} {ta tb tc:TE} {pos:Pos}
theorem fin_bl {pins:List (Addr × Obj)} {σ:St} {H:Hp} {s:Shared} {Q:VK} {k k':Bool} (I:Inv X pins σ H s) (q:Q (.bl k) H) (e:k=k'):EP X pins σ Q (.bool k') s:=by
  subst e
  exact ⟨.bl k,H,I,rfl,q⟩
theorem op_lt:OpR X (compareOp .Lt) (rI0 fun i j=>.bl (decide (i < j))):=opB0 fun _ _ _ _ _ _ _ q=>lt_int q
theorem op_gt:OpR X (compareOp .Gt) (rI0 fun i j=>.bl (decide (j < i))):=opB0 fun _ _ _ _ _ _ _ q=>gt_int q
theorem op_ge:OpR X (compareOp .GtE) (rI0 fun i j=>.bl (decide (j≤i))):=opB0 fun _ _ _ _ _ _ _ q=>ge_int q
theorem op_isN:OpR X (compareOp .Is) (fun x y H Q=>y=.non∧Q (.bl (decide (x=.non))) H):=by
  intro pins s σ H x y v u Q I rx ry h
  obtain ⟨rfl,q⟩:=h
  cases ry
  refine is_none_gen (fin_bl I q ?_)
  cases x <;> first
    | (cases rx; rfl)
    | (obtain ⟨t,rfl⟩:=rx; rfl)
theorem op_notN:OpR X (compareOp .IsNot) (fun x y H Q=>y=.non∧Q (.bl (!decide (x=.non))) H):=by
  intro pins s σ H x y v u Q I rx ry h
  obtain ⟨rfl,q⟩:=h
  cases ry
  refine isnot_none_gen (fin_bl I q ?_)
  cases x <;> first
    | (cases rx; rfl)
    | (obtain ⟨t,rfl⟩:=rx; rfl)
theorem OpR.or {f:Value->Value->Sem Value} {r r':R2} (h:OpR X f r) (h':OpR X f r'):OpR X f (fun x y H Q=>r x y H Q∨r' x y H Q):=by
  intro pins s σ H x y v u Q I rx ry q
  rcases q with q | q
  . exact h pins s σ H x y v u Q I rx ry q
  . exact h' pins s σ H x y v u Q I rx ry q
theorem nomark (b:Expr) {op:CmpOp} (h:op≠.In:=by decide) (h2:op≠.NotIn:=by decide):behindInMarks op b=false:=by
  have e1:(op == CmpOp.In)=false:=by cases op <;> first | rfl | exact absurd rfl h
  have e2:(op == CmpOp.NotIn)=false:=by cases op <;> first | rfl | exact absurd rfl h2
  cases b <;> simp [behindInMarks,e1,e2]
theorem pe_cmpR {op:CmpOp} {r:R2} (ho:OpR X (compareOp op) r) (ha:PE X a ta) (hb:PE X b tb) (hm:behindInMarks op b=false):PE X (.Compare a [op] [b] pos) (tOp r ta tb):=by
  intro pins s σ H Q I h
  exact wpAny_Compare1 (binT ha hb I h fun v u s2 x y H2 I2 rx ry q=>ho pins s2 σ H2 x y v u Q I2 rx ry q) hm
def tTest (t:TE):TT:=fun σ H Q=>t σ H fun x H'=>∃ k,x=.bl k∧Q k H'
theorem pt_cmpR {op:CmpOp} {r:R2} (ho:OpR X (compareOp op) r) (ha:PE X a ta) (hb:PE X b tb) (hm:behindInMarks op b=false):PT X (.Compare a [op] [b] pos) (tTest (tOp r ta tb)):=by
  intro pins s σ H Q I h
  refine wpAny_isTrue_Compare1 (thn (ha pins s σ H _ I h) fun v s1 ⟨x,H1,I1,r1,q1⟩=>thn (hb pins s1 σ H1 _ I1 q1) fun u s2 ⟨y,H2,I2,r2,q2⟩ =>
    thn (ho pins s2 σ H2 x y v u _ I2 r1 r2 q2) fun c s3 ⟨z,H3,I3,r3,k,e,q3⟩=>?_) hm
  subst e
  cases r3
  exact wpAny_truthy_bool ⟨H3,I3,q3⟩
theorem line63:(sizeLine:Nat) < 2 ^ 63:=by rw [sizeLine_eq]; decide
theorem op_add_str:OpR X (binaryOp .Add) (fun x y H Q=>∃ i j,x=.str i∧y=.str j∧i.length + j.length≤sizeLine∧Q (.str (i++j)) H):=by
  intro pins s σ H x y v u Q I rx ry h
  obtain ⟨i,j,rfl,rfl,hz,q⟩:=h
  obtain ⟨t,rfl⟩:=rx
  obtain ⟨t',rfl⟩:=ry
  exact add_str (fun t' tk=>⟨.str (i++j),H,I.tok _,⟨_,rfl⟩,q⟩) hz
theorem vals1 {x:V} {us:List Value} (r:Vals [x] us):∃ u,us=[u]∧RelV x u:=by
  cases r with
  | cons r1 r2=>cases r2; exact ⟨_,rfl,r1⟩
theorem vals2 {x y:V} {us:List Value} (r:Vals [x,y] us):∃ u w',us=[u,w']∧RelV x u∧RelV y w':=by
  cases r with
  | cons r1 r2 =>
    cases r2 with
    | cons r3 r4=>cases r4; exact ⟨_,_,rfl,r1,r3⟩
theorem call_max2 (hc:X.calm=true):CallR X (.builtin "max") (fun xs H Q=>∃ i j,xs=[.int i,.int j]∧Q (.int (if j > i then j else i)) H):=by
  intro pins s σ H xs us Q I r h
  obtain ⟨i,j,rfl,q⟩:=h
  obtain ⟨u,w',rfl,⟨t,rfl⟩,⟨t',rfl⟩⟩:=vals2 r
  refine max_two_ints (I.ok.hd hc) fun h' tk k=>⟨_,H,I.kept k,?_,q⟩
  by_cases hj:j > i
  . rw [if_pos hj,if_pos hj]; exact ⟨_,rfl⟩
  . rw [if_neg hj,if_neg hj]; exact ⟨_,rfl⟩
theorem call_int1:CallR X (.type "int") (fun xs H Q=>(∃ i,xs=[.int i]∧Q (.int i) H)∨∃ k,xs=[.bl k]∧Q (.int (if k then 1 else 0)) H):=by
  intro pins s σ H xs us Q I r h
  rcases h with ⟨i,rfl,q⟩ | ⟨k,rfl,q⟩
  . obtain ⟨u,rfl,t,rfl⟩:=vals1 r
    exact call_int_int ⟨.int i,H,I,⟨_,rfl⟩,q⟩
  . obtain ⟨u,rfl,r1⟩:=vals1 r
    cases r1
    exact call_int_bool ⟨.int (if k then 1 else 0),H,I.tok _,⟨_,rfl⟩,q⟩
end
end L2
namespace L2
open PySem PySem.Spec PyProof.Rows
structure ObjM (h:Heap) (x dx C:Addr) (mA:Str->Option Value):Prop where
  obj:h.get? x=some (PySem.W.instObj C dx)
  ns:h.Ns1 dx mA
  ne:dx≠x
theorem lookIn_ns {h:Heap} {dx:Addr} {mA:Str->Option Value} (n:h.Ns1 dx mA):∃ od,h.get? dx=some od∧∀ name,PySem.W.lookIn name od=some (mA name):=by
  obtain ⟨o,es,ep,ho,hd,hk,_,hm⟩:=n
  refine ⟨o,ho,fun name=>?_⟩
  have e:=hm name
  unfold nsFind findBy at e
  rw [← Array.find?_toList] at e
  unfold PySem.W.lookIn
  rw [hd]
  dsimp only
  split
  . rename_i y q
    rw [q] at e
    exact congrArg some e
  . rename_i q
    rw [q] at e
    have a:es.toList.any (·.refKey)=false:=by
      rw [List.any_eq_false]
      intro y hy
      obtain ⟨z,t,hkey⟩:=hk y (Array.mem_toList_iff.mp hy)
      simp [DictEntry.refKey,hkey]
    have a' : ¬ es.toList.any (·.refKey)=true:=by rw [a]; exact Bool.false_ne_true
    rw [if_neg a']
    exact congrArg some e
theorem ObjM.look {h:Heap} {x dx C:Addr} {mA:Str->Option Value} (I:ObjM h x dx C mA):∃ od,PySem.W.InstAt h x (PySem.W.instObj C dx) C (some od)∧∀ name,PySem.W.lookIn name od=some (mA name) :=
  let ⟨od,ho,hl⟩:=lookIn_ns I.ns
  ⟨od,⟨I.obj,rfl,rfl,ho⟩,hl⟩
section
variable {prog:Program} {w:World} {A:Around} {E:Value->Shared->Prop} {s:Shared} {K:PySem.W.Frag} {x dx C f:Addr} {mA:Str->Option Value} {name:Str} {v:Value}
end
theorem RelO.some_of {v:V} {o:Option Value} (r:RelO (some v) o):∃ u,o=some u∧RelV v u:=by
  cases o with
  | none=>exact (show False from r).elim
  | some u=>exact ⟨u,rfl,r⟩
theorem RelO.none_of {o:Option Value} (r:RelO none o):o=none:=by
  cases o with
  | none=>rfl
  | some u=>exact (show False from r).elim
section
variable {P:Program} {w:World} {H H':Hp} {h h':Heap} {a C dx:Addr} {fs fs':List (Str × V)}
theorem ins_get (hok:HOk P w H h) (e:H a=some (.ins C dx fs)):∃ mA,ObjM h a dx C mA∧(∀ f,RelO (fs.lookup f) (mA f))∧PySem.Within mA (fs.map (·.1))∧fs.length≤1000∧H dx=some (.own a):=by
  obtain ⟨d,z,ne,ob,mA,n,r,q⟩:=(show ObjOk P w H h a (.ins C dx fs) from hok a _ e)
  exact ⟨mA,⟨ob,n,ne⟩,r,q,z,d⟩
end
structure Cls (K:PySem.W.Frag) (C:Addr):Prop where
  pg:PySem.W.plainGet K C Str.empty=true
  hd:PySem.W.hasDictIn K C=true
  po:PySem.W.plainOver K C=true
  sa:PySem.W.findIn K (.ref C) "__setattr__" = some (some (.builtin "object.__setattr__"))
theorem Cls.get {K:PySem.W.Frag} {C:Addr} (c:Cls K C) (f:Str):PySem.W.plainGet K C f=true:=c.pg
structure Con (K:PySem.W.Frag) (C:Addr) (f:Str) (v:V) (u:Value):Prop where
  at_:PySem.W.findIn K (.ref C) f=some (some u)
  rel:RelV v u
  get:PySem.W.specialIn K u "__get__" = some none
  cp:PySem.W.copiedNames.contains f=false
structure Meth (K:PySem.W.Frag) (C:Addr) (m:Str) (f:Addr):Prop where
  at_:PySem.W.findIn K (.ref C) m=some (some (.ref f))
  fn:PySem.W.isFn K (.ref f)=true
  kp:PySem.W.keepIn K (.ref f)=true
section
variable {X:Cx} {pins:List (Addr × Obj)} {σ:St} {H:Hp} {s:Shared} {a C dx:Addr} {fs:List (Str × V)} {f:Str} {v:V} {A:Around} {E:Value->Shared->Prop}
end
section
variable {X:Cx} {o e value:Expr} {f:Str} {pos pos' tpos:Pos} {ta tv:TE}
end
section
variable {X:Cx} {pins:List (Addr × Obj)} {σ:St} {H:Hp} {s:Shared} {A:Around} {E:Value->Shared->Prop} {Q:Value->Shared->Prop} {c:Value} {b:Bool}
inductive TyOf (K:PySem.W.Frag) (H:Hp):V->Value->Prop where
  | non:TyOf K H .non (.type "NoneType")
  | bl (x:Bool):TyOf K H (.bl x) (.type "bool")
  | int (i:Int):TyOf K H (.int i) (.type "int")
  | str (x:Str):TyOf K H (.str x) (.type "str")
  | flt (x:UInt64):TyOf K H (.flt x) (.type "float")
  | lst {a:Addr} {xs:List V} (e:H a=some (.lst xs)):TyOf K H (.ref a) (.type "list")
  | frz {a:Addr} {o:Obj} {xs:List V} (e:H a=some (.frz o (.lst xs))):TyOf K H (.ref a) (.type "list")
  | tup {a:Addr} {xs:List V} (e:H a=some (.tup xs)):TyOf K H (.ref a) (.type "tuple")
  | dK {a:Addr} {kvs:List (Key × V)} (e:H a=some (.dK kvs)):TyOf K H (.ref a) (.type "dict")
  | dT {a:Addr} {kvs:List (List Key × V)} (e:H a=some (.dT kvs)):TyOf K H (.ref a) (.type "dict")
  | ins {a C dx:Addr} {fs:List (Str × V)} (e:H a=some (.ins C dx fs)) (cl:Cls K C) (ha:PySem.W.findIn K (.ref C) "__class__" = some (some (.builtin "object.__class__")))
      (hn:PySem.W.specialIn K (.builtin "object.__class__") "__get__" = some (some (.builtin "getset_descriptor.__get__"))) (htk:PySem.W.takesIn K (.builtin "object.__class__")=some true)
      (hm:PySem.W.mroIn K C (.type "object")=some true):TyOf K H (.ref a) (.ref C)
theorem isinst_ok {x:V} {u t:Value} (I:Inv X pins σ H s) (rx:RelV x u) (ty:TyOf X.K H x t) (e:PySem.W.kitOne X.K t c=some b) (h:∀ tk,Q (.bool b) { s with toks:=tk }) :
    wpAny (model X.prog X.w) A (call (.builtin "isinstance") [u,c]) Q E s:=by
  cases ty with
  | non=>cases (show u=Value.none from rx); exact PySem.W.kia_one PySem.W.kitx_none I.kIn True.intro e (fun z=>nomatch z) h
  | bl y=>cases (show u=Value.bool y from rx); exact PySem.W.kia_one PySem.W.kitx_bool I.kIn True.intro e (fun z=>nomatch z) h
  | int i=>obtain ⟨t,q⟩:=(show ∃ t,u=Value.int i t from rx); cases q; exact PySem.W.kia_one PySem.W.kitx_int I.kIn True.intro e (fun z=>nomatch z) h
  | str y=>obtain ⟨t,q⟩:=(show ∃ t,u=Value.str y t from rx); cases q; exact PySem.W.kia_one PySem.W.kitx_str I.kIn True.intro e (fun z=>nomatch z) h
  | flt y=>obtain ⟨t,q⟩:=(show ∃ t,u=Value.float y t from rx); cases q; exact PySem.W.kia_one PySem.W.kitx_float I.kIn True.intro e (fun z=>nomatch z) h
  | @lst a xs ea =>
    cases (show u=Value.ref a from rx)
    obtain ⟨_,_,n,_,h1⟩:=(show ObjOk X.prog X.w H s.heap a (.lst xs) from I.hok a _ ea)
    exact PySem.W.kia_one PySem.W.kitx_list I.kIn ⟨_,h1,rfl⟩ e (fun z=>nomatch z) h
  | @frz a ob xs ea =>
    cases (show u=Value.ref a from rx)
    obtain ⟨_,_,_,n,_,h1⟩:=(show ObjOk X.prog X.w H s.heap a (.frz ob (.lst xs)) from I.hok a _ ea)
    exact PySem.W.kia_one PySem.W.kitx_list I.kIn ⟨_,h1,rfl⟩ e (fun z=>nomatch z) h
  | @tup a xs ea =>
    cases (show u=Value.ref a from rx)
    obtain ⟨_,_,_,p⟩:=(show ObjOk X.prog X.w H s.heap a (.tup xs) from I.hok a _ ea)
    obtain ⟨⟨o,h1,h2,_⟩,_⟩:=p
    exact PySem.W.kia_one PySem.W.kitx_tuple I.kIn ⟨o,h1,h2⟩ e (fun z=>nomatch z) h
  | @dK a kvs ea =>
    cases (show u=Value.ref a from rx)
    obtain ⟨_,_,vs,_,p⟩:=(show ObjOk X.prog X.w H s.heap a (.dK kvs) from I.hok a _ ea)
    obtain ⟨o,es,ep,h1,h2,_⟩:=p
    exact PySem.W.kia_one PySem.W.kitx_dict I.kIn ⟨o,h1,h2.1⟩ e (fun z=>nomatch z) h
  | @dT a kvs ea =>
    cases (show u=Value.ref a from rx)
    obtain ⟨_,_,xs,_,o,es,ep,h1,h2,_⟩:=(show ObjOk X.prog X.w H s.heap a (.dT kvs) from I.hok a _ ea)
    exact PySem.W.kia_one PySem.W.kitx_dict I.kIn ⟨o,h1,h2.1⟩ e (fun z=>nomatch z) h
  | @ins a C dx fs ea cl ha hn htk hm =>
    cases (show u=Value.ref a from rx)
    obtain ⟨mA,O,_⟩:=ins_get I.hok ea
    obtain ⟨od,J,_⟩:=O.look
    exact PySem.W.kia_one (PySem.W.kitx_own (cl.get _) cl.hd ha hn htk hm) I.kIn J e (fun z=>nomatch z) h
end
end L2
namespace L2
open PySem PySem.Spec PyProof.Rows
structure Room (k:Nat) (A:Around):Prop where
  hd:A.handled=none
  dp:A.depth + 3 * k + 5 < recursionLimit
  un:A.units + 16 * k + 200 < cLine
theorem Room.mono {j k:Nat} {A:Around} (r:Room k A) (h:j≤k):Room j A:=⟨r.hd,by have:=r.dp; omega,by have:=r.un; omega⟩
theorem Room.deeper {k:Nat} {A:Around} (r:Room (k + 1) A) (env:Env):Room k (A.deeper env) :=
  ⟨r.hd,by have:=r.dp; show A.depth + 1 + 3 * k + 5 < _; omega,by have:=r.un; show A.units + 3 + 16 * k + 200 < _; omega⟩
theorem Room.in1 {k:Nat} {A:Around} (r:Room (k + 1) A):Room k A.in1 :=
  ⟨r.hd,by have:=r.dp; show A.depth + 3 * k + 5 < _; omega,by have:=r.un; show A.units + 1 + 16 * k + 200 < _; omega⟩
theorem make_depth {A:Around} {C:Addr} {us:List Value} {kw:List (Str × Value)}:(A.under (.builtin "type.__call__" ⟨.ref C::us,kw⟩)).depth=A.depth + 1:=by
  first | rfl | simp [Around.under,Code.weight,Code.isCreation,Code.isGuard,Code.isCaller,Code.frames,Code.isFrame,guardIds]
theorem make_units {A:Around} {C:Addr} {us:List Value} {kw:List (Str × Value)}:(A.under (.builtin "type.__call__" ⟨.ref C::us,kw⟩)).units=A.units + 1:=by
  first | rfl | simp [Around.under,Code.cUnits,Code.frames,Code.isFrame]
theorem Room.make {k:Nat} {A:Around} (r:Room (k + 1) A) (C:Addr) (us:List Value) (kw:List (Str × Value)):Room k (A.under (.builtin "type.__call__" ⟨.ref C::us,kw⟩)) :=
  ⟨r.hd,by have:=r.dp; rw [make_depth]; omega,by have:=r.un; rw [make_units]; omega⟩
theorem Room.depth {k:Nat} {A:Around} (r:Room k A):A.depth < recursionLimit:=by have:=r.dp; omega
theorem Room.units {k:Nat} {A:Around} (r:Room k A):A.units + 64 < cLine:=by have:=r.un; omega
def tNil:TA:=fun _ H Q=>Q [] H
def tCons (ta:TE) (tr:TA):TA:=fun σ H Q=>ta σ H fun x H1=>tr σ H1 fun xs H2=>Q (x::xs) H2
section
variable {X:Cx} {e:Expr} {es:List Expr} {te:TE} {t:TA} {pos:Pos}
theorem pa_nil:PA X [] tNil:=fun _ _ _ _ H Q I h=>Calls.spliced_nil ⟨[],H,I,.nil,h⟩
theorem pa_cons (ha:PE X e te) (hr:PA X es t) (hs:starEach (e::es) X.env=(false,eval e X.env)::starEach es X.env:=by rfl):PA X (e::es) (tCons te t):=by
  intro pos pins s σ H Q I h
  rw [hs]
  show wpAny _ _ (spliced ((false,eval e X.env)::backTo pos (starEach es X.env))) _ _ s
  refine Calls.spliced_cons (thn (ha pins s σ H _ I h) fun u s1 ⟨x,H1,I1,r1,q1⟩=>?_)
  exact thn (hr pos pins s1 σ H1 _ I1 q1) fun us s2 ⟨xs,H2,I2,r2,q2⟩=>⟨x::xs,H2,I2,.cons r1 r2,q2⟩
def tTup (t:TA):TE:=fun σ H Q=>t σ H fun xs H1=>xs.length≤sizeLine∧∀ p,H1 p=none->Q (.ref p) (upd H1 p (.tup xs))
def tLst (t:TA):TE:=fun σ H Q=>t σ H fun xs H1=>xs.length≤sizeLine∧∀ p,H1 p=none->Q (.ref p) (upd H1 p (.lst xs))
theorem pe_tup {x1} (h:PA X es t):PE X (.Tuple es x1 pos) (tTup t):=by
  intro pins s σ H Q I hq
  refine wpAny_Tuple_spliced (thn (h pos pins s σ H _ I hq) fun us s1 ⟨xs,H1,I1,r,z,q⟩=>⟨by rw [← r.length]; exact z,?_⟩)
  have hf:H1 s1.heap.objs.size=none:=I1.hok.fresh (Nat.le_refl _)
  refine ⟨.ref s1.heap.objs.size,upd H1 s1.heap.objs.size (.tup xs),I1.laid (t':=s1.toks) (fun b u e=>Heap.get?_push_of_some _ e) (Nat.le_refl _) ?_,rfl,q _ hf⟩
  exact ⟨z,us,r,⟨_,Heap.get?_push_size _ rfl,rfl,_,rfl⟩,_,Heap.get?_push_size _ rfl,rfl⟩
theorem pe_lst (h:PA X es t):PE X (.List es pos) (tLst t):=by
  intro pins s σ H Q I hq
  refine wpAny_List_spliced (thn (h pos pins s σ H _ I hq) fun us s1 ⟨xs,H1,I1,r,z,q⟩=>⟨by rw [← r.length]; exact z,?_⟩)
  have hf:H1 s1.heap.objs.size=none:=I1.hok.fresh (Nat.le_refl _)
  refine ⟨.ref s1.heap.objs.size,upd H1 s1.heap.objs.size (.lst xs),I1.laid (t':=s1.toks) (fun b u e=>Heap.get?_push_of_some _ e) (Nat.le_refl _) ?_,rfl,q _ hf⟩
  exact ⟨z,us,0,r,Heap.get?_push_size _ rfl⟩
end
abbrev Sp:=List V->Hp->VK->XK->Prop
abbrev CXT:=List Env->Hp->Shared->XK->Value->Shared->Prop
structure Env0 (P:Program) (w:World) (K:PySem.W.Frag) (mg:Str->Option Value) (base:Heap) (A:Around) (outer:List Env) (s:Shared) (H:Hp):Prop where
  frames:A.frames=some outer
  mod:Mod K mg base
  bs:∀ b o,base.get? b=some o->s.heap.get? b=some o∧H b=none
  bsz:base.objs.size≤s.heap.objs.size
  funs:s.heap.FunFrames base outer
  frf:∀ b∈frs outer,H b=none
  hok:HOk P w H s.heap
  bare:AllBare s.gens
def CE (outer:List Env) (P:Program) (w:World) (H:Hp) (s:Shared) (Q:VK) (u:Value) (s':Shared):Prop :=
  ∃ v H',s'.os=s.os∧AllBare s'.gens∧Un (frs outer) [] H H' s.heap s'.heap∧HOk P w H' s'.heap∧RelV v u∧Q v H'
def CR (CX:CXT) (outer:List Env) (P:Program) (w:World) (H:Hp) (s:Shared) (Q:VK) (E:XK) (r:Result) (s':Shared):Prop :=
  match r with
  | .ok (.ret u)=>CE outer P w H s Q u s'
  | .ok _=>False
  | .error e=>CX outer H s E e s'
structure FnOk (P:Program) (w:World) (K:PySem.W.Frag) (mg:Str->Option Value) (base:Heap) (CX:CXT) (k:Nat) (f:Addr) (fd:FuncData) (ps:List Str) (sp:Sp):Prop where
  len:∀ vs H Q E,sp vs H Q E->vs.length=ps.length
  run:∀ (A:Around) (outer:List Env) (s:Shared) (H:Hp) (args:Args) (us:List Value) (vs:List V) (Q:VK) (E:XK),Room k A->Env0 P w K mg base A outer s H->BindsTo s fd args (ps.zip us)->Vals vs us->sp vs H Q E ->
    codeAny (model P w) A (.call (.ref f) args) (CR CX outer P w H s Q E) s
theorem FnOk.mono {P:Program} {w:World} {K:PySem.W.Frag} {mg:Str->Option Value} {base:Heap} {CX:CXT} {j k:Nat} {f:Addr} {fd:FuncData} {ps:List Str} {sp:Sp} (F:FnOk P w K mg base CX j f fd ps sp) (h:j≤k) :
    FnOk P w K mg base CX k f fd ps sp:=⟨F.len,fun A outer s H args us vs Q E hr=>F.run A outer s H args us vs Q E (hr.mono h)⟩
theorem FnOk.imp {P:Program} {w:World} {K:PySem.W.Frag} {mg:Str->Option Value} {base:Heap} {CX:CXT} {k:Nat} {f:Addr} {fd:FuncData} {ps:List Str} {sp sp':Sp} (F:FnOk P w K mg base CX k f fd ps sp)
    (h:∀ vs H Q E,sp' vs H Q E->sp vs H Q E):FnOk P w K mg base CX k f fd ps sp' :=
  ⟨fun vs H Q E q=>F.len vs H Q E (h _ _ _ _ q),fun A outer s H args us vs Q E hr he hb hv hs=>F.run A outer s H args us vs Q E hr he hb hv (h _ _ _ _ hs)⟩
theorem Env0.make {P:Program} {w:World} {K:PySem.W.Frag} {mg:Str->Option Value} {base:Heap} {A:Around} {outer:List Env} {s:Shared} {H:Hp} (e:Env0 P w K mg base A outer s H) (C:Addr) (us:List Value) (kw:List (Str × Value)) :
    Env0 P w K mg base (A.under (.builtin "type.__call__" ⟨.ref C::us,kw⟩)) outer s H:=⟨by first | exact e.frames | (simpa [Around.under,Code.envs,Code.isFrame,pushEnvs] using e.frames),e.mod,e.bs,e.bsz,e.funs,e.frf,e.hok,e.bare⟩
theorem Env0.in1 {P:Program} {w:World} {K:PySem.W.Frag} {mg:Str->Option Value} {base:Heap} {A:Around} {outer:List Env} {s:Shared} {H:Hp} (e:Env0 P w K mg base A outer s H) :
    Env0 P w K mg base A.in1 outer s H:=⟨e.frames,e.mod,e.bs,e.bsz,e.funs,e.frf,e.hok,e.bare⟩
section
variable {X:Cx} {pins:List (Addr × Obj)} {σ:St} {H:Hp} {s s':Shared}
theorem Inv.env0 (I:Inv X pins σ H s):Env0 X.prog X.w X.K X.mg X.base X.A X.stack s H :=
  ⟨I.ok.frames,I.ok.mod,I.bs,Nat.le_trans I.ok.bsz I.sz,I.stack,I.stkFree,I.hok,I.bare⟩
theorem Inv.after {Q:VK} {u:Value} (I:Inv X pins σ H s) (h:CE X.stack X.prog X.w H s Q u s'):EP X pins σ Q u s':=by
  obtain ⟨v,H',os,bare,un,hok,r,q⟩:=h
  obtain ⟨hh,g,d,t,os'⟩:=s'
  obtain rfl:os'=s.os:=os
  exact ⟨v,H',I.call (h':=hh) (g':=g) (d':=d) (t':=t) (ch:=[]) un hok bare (fun b z=>absurd z (by simp)),r,q⟩
end
def tCall (sp:Sp) (dvs:List V) (E:XK) (t:TA):TE:=fun σ H Q=>t σ H fun vs H1=>sp (vs++dvs) H1 Q E
def Binds (K:PySem.W.Frag) (fd:FuncData) (ps:List Str) (ds:List Value):Prop :=
  ∀ (s:Shared) (us:List Value),K.In s.heap->(us++ds).length=ps.length->BindsTo s fd ⟨us,[]⟩ (ps.zip (us++ds))
theorem Binds.all {K:PySem.W.Frag} {fd:FuncData} {ps:List Str} (h:∀ us:List Value,us.length=ps.length->bindArgs fd ⟨us,[]⟩=pure (ps.zip us)):Binds K fd ps []:=fun s us _ hl=>by
  rw [List.append_nil] at hl ⊢
  exact .of_eq (h us hl)
def Passes (CX:CXT) (X:Cx) (E:XK):Prop:=∀ (pins:List (Addr × Obj)) (σ:St) (H:Hp) (s:Shared) (e:Value) (s':Shared),Inv X pins σ H s->CX X.stack H s E e s'->X.xe e s'
section
variable {X:Cx} {CX:CXT} {k:Nat} {f C:Addr} {fd:FuncData} {ps:List Str} {sp:Sp} {dvs:List V} {ds:List Value} {E:XK} {x m:Str} {p pos apos:Pos} {e o:Expr} {es:List Expr} {ta:TE} {t:TA}
theorem run_fn {pins:List (Addr × Obj)} {σ:St} {H:Hp} {s:Shared} {Q:VK} {us:List Value} {vs:List V} (F:FnOk X.prog X.w X.K X.mg X.base CX k f fd ps sp) (hr:Room k X.A) (hb:Binds X.K fd ps ds) (hd:Vals dvs ds) (hx:Passes CX X E)
    (I:Inv X pins σ H s) (r:Vals vs us) (h:sp (vs++dvs) H Q E):wpAny (model X.prog X.w) X.A (call (.ref f) us) (EP X pins σ Q) X.xe s:=by
  have r2:Vals (vs++dvs) (us++ds):=r.append hd
  have hl:(us++ds).length=ps.length:=by rw [← r2.length]; exact F.len _ _ _ _ h
  refine wpAny_call (codeAny_mono (F.run X.A X.stack s H ⟨us,[]⟩ (us++ds) (vs++dvs) Q E hr I.env0 (hb s us I.kIn hl) r2 h) fun r s' hq=>?_)
  cases r with
  | error e=>exact hx pins σ H s e s' I hq
  | ok fl =>
    cases fl with
    | ret u=>exact I.after hq
    | next=>exact False.elim hq
    | brk=>exact False.elim hq
    | cont=>exact False.elim hq
theorem pe_call (F:FnOk X.prog X.w X.K X.mg X.base CX k f fd ps sp) (hr:Room k X.A) (hg:Gl X x) (hm:X.mg x=some (.ref f)) (hk:PySem.W.keepIn X.K (.ref f)=true) (hb:Binds X.K fd ps ds) (hd:Vals dvs ds) (hx:Passes CX X E)
    (ha:PA X (e::es) t) (hdb:(x == ("__debug__":Str))=false:=by decide) (he:starEach (e::es) X.env=(false,eval e X.env)::starEach es X.env:=by rfl) (hpl:(backTo pos (starEach es X.env)).any (·.1)=false:=by rfl) :
    PE X (.Call (.Name x p) (e::es) [] pos) (tCall sp dvs E t):=by
  intro pins s σ H Q I h
  refine wpAny_Call_Name_kw (ld_glob I hg hm ?_ hdb)
  refine PySem.W.callWith_K (h₀:=X.base) I.ok.mod.kin hk (thn (ha pos pins s σ H _ I h) fun us s1 ⟨vs,H1,I1,r,q⟩=>⟨I1.kIn,?_⟩) he hpl
  exact run_fn F hr hb hd hx I1 r q
structure Mk (K:PySem.W.Frag) (C f:Addr):Prop where
  makes:PySem.W.makesIn K C=true
  init:PySem.W.findIn K (.ref C) "__init__" = some (some (.ref f))
  fn:PySem.W.isFn K (.ref f)=true
  kp:PySem.W.keepIn K (.ref C)=true
end
section
variable {X:Cx} {CX:CXT} {k:Nat} {f C:Addr} {fd:FuncData} {ps ks:List Str} {sp:Sp} {E:XK} {x m:Str} {p pos apos kpos:Pos} {e o:Expr} {es:List Expr} {kws:List Keyword} {te ta:TE} {t tk:TA} {nm:Option Str}
structure KBinds (K:PySem.W.Frag) (fd:FuncData) (ps ks:List Str) (g:List Value->List Value->List Value) (gV:List V->List V->List V):Prop where
  to:∀ (s:Shared) (us ws:List Value),K.In s.heap->(g us ws).length=ps.length->BindsTo s fd ⟨us,ks.zip ws⟩ (ps.zip (g us ws))
  rel:∀ {vs:List V} {us:List Value} {zs:List V} {ws:List Value},Vals vs us->Vals zs ws->Vals (gV vs zs) (g us ws)
variable {g:List Value->List Value->List Value} {gV:List V->List V->List V}
end
structure FnScope (N P:List Str) (sc:Scope):Prop where
  kind:sc.kind=.function
  co:sc.isCoroutine=false
  gen:sc.isGenerator=false
  nd:N.Nodup
  pre:N.take P.length=P
  par:∀ x∈P,sc.names.lookup x=some .local∨sc.names.lookup x=some .cell
  nofree:∀ y∈sc.names,y.2≠.free
theorem bindL_out {kindOf:Str->Option NameKind} {x:Str}:∀ {binds:List (Str × Value)} {m:Str->Option Value},(∀ v,(x,v) ∉ binds)->bindL kindOf binds m x=m x
  | [],_,_=>rfl
  | (n,v)::r,m,h=>by
    unfold bindL
    rw [bindL_out fun w hw=>h w (List.mem_cons_of_mem _ hw)]
    split
    . have:x≠n:=by rintro rfl; exact h v List.mem_cons_self
      simp [this]
    . rfl
theorem bindC_out {kindOf:Str->Option NameKind} {x:Str}:∀ {binds:List (Str × Value)} {m:Str->Option Value},(∀ v,(x,v) ∉ binds)->bindC kindOf binds m x=m x
  | [],_,_=>rfl
  | (n,v)::r,m,h=>by
    unfold bindC
    rw [bindC_out fun w hw=>h w (List.mem_cons_of_mem _ hw)]
    split
    . rfl
    . have:x≠n:=by rintro rfl; exact h v List.mem_cons_self
      simp [this]
theorem bindL_get {kindOf:Str->Option NameKind} {x:Str} {v:Value}:∀ {P:List Str} {vs:List Value} {i:Nat} {m:Str->Option Value},P.Nodup->P[i]?=some x->vs[i]?=some v->kindOf x=some .local ->
    bindL kindOf (P.zip vs) m x=some v
  | [],_,_,_,_,h,_,_=>by simp at h
  | _::_,[],_,_,_,_,h,_=>by simp at h
  | p::P,w::vs,0,m,nd,h1,h2,hk=>by
    simp at h1 h2; subst h1; subst h2
    show bindL kindOf ((p,w)::P.zip vs) m p=_
    unfold bindL
    rw [bindL_out fun v hv=>(List.nodup_cons.mp nd).1 (List.of_mem_zip hv).1,if_pos hk]
    simp
  | p::P,w::vs,i + 1,m,nd,h1,h2,hk=>by
    show bindL kindOf ((p,w)::P.zip vs) m x=_
    unfold bindL
    exact bindL_get (i:=i) (List.nodup_cons.mp nd).2 (by simpa using h1) (by simpa using h2) hk
theorem bindC_get {kindOf:Str->Option NameKind} {x:Str} {v:Value}:∀ {P:List Str} {vs:List Value} {i:Nat} {m:Str->Option Value},P.Nodup->P[i]?=some x->vs[i]?=some v->kindOf x≠some .local ->
    bindC kindOf (P.zip vs) m x=some v
  | [],_,_,_,_,h,_,_=>by simp at h
  | _::_,[],_,_,_,_,h,_=>by simp at h
  | p::P,w::vs,0,m,nd,h1,h2,hk=>by
    simp at h1 h2; subst h1; subst h2
    show bindC kindOf ((p,w)::P.zip vs) m p=_
    unfold bindC
    rw [bindC_out fun v hv=>(List.nodup_cons.mp nd).1 (List.of_mem_zip hv).1,if_neg hk]
    simp
  | p::P,w::vs,i + 1,m,nd,h1,h2,hk=>by
    show bindC kindOf ((p,w)::P.zip vs) m x=_
    unfold bindC
    exact bindC_get (i:=i) (List.nodup_cons.mp nd).2 (by simpa using h1) (by simpa using h2) hk
def start (N:List Str) (vs:List V):St:=vs.map some++List.replicate (N.length - vs.length) none
def cxOf (CX:CXT) (P:Program) (w:World) (K:PySem.W.Frag) (mg:Str->Option Value) (base:Heap) (N:List Str) (qual:Str) (scope:Scope) (f:Addr) (cd:Value) (A:Around) (outer:List Env) (s:Shared) (H:Hp) (E:XK):Cx where
  prog:=P
  w:=w
  K:=K
  mg:=mg
  base:=base
  A:=A.deeper (envOfC qual scope s.heap.objs.size f cd)
  N:=N
  s₀:=s
  H₀:=H
  env:=envOfC qual scope s.heap.objs.size f cd
  outer:=outer
  stack:=envOfC qual scope s.heap.objs.size f cd::outer
  ex:=[]
  calm:=true
  fn:=fun _=>true
  pn:=[]
  xe:=fun e s'=>wpAny (model P w) (A.deeper (envOfC qual scope s.heap.objs.size f cd)) (leaving (envOfC qual scope s.heap.objs.size f cd) e) (fun _ s''=>CX outer H s E e s'') (fun e' s''=>CX outer H s E e' s'') s'
theorem cell_has {sc:Scope} {n:Nat} {x:Str} (h:sc.names.lookup x=some .cell):∃ c,(cellsFrom n sc.names []).lookup x=some c:=by
  have q:=PySem.W.cellsFrom_some sc.names n [] (.inl h)
  exact Option.isSome_iff_exists.mp q
theorem inv_start {CX:CXT} {P:Program} {w:World} {K:PySem.W.Frag} {mg:Str->Option Value} {base:Heap} {N ps:List Str} {qual:Str} {scope:Scope} {f:Addr} {cd:Value} {A:Around} {outer:List Env} {s s1:Shared} {H:Hp} {E:XK} {us:List Value} {vs:List V}
    (S:FnScope N ps scope) (hd:A.handled=none) (e0:Env0 P w K mg base A outer s H) (hl:vs.length=ps.length) (r:Vals vs us)
    (x:InCallC s s.heap.objs.size (bindL (envOfC qual scope s.heap.objs.size f cd).kindOf (ps.zip us) fun _=>none) (cellsFrom (s.heap.objs.size + 1) scope.names []) (bindC (envOfC qual scope s.heap.objs.size f cd).kindOf (ps.zip us) fun _=>none) s1) :
    Inv (cxOf CX P w K mg base N qual scope f cd A outer s H E) [] (start N vs) H s1:=by
  have hpl:ps.length≤N.length:=by have:=congrArg List.length S.pre; rw [List.length_take] at this; omega
  obtain ⟨h1,tk,rfl,hk⟩:=x.done
  have noA:∀ b:Addr,b ∉ (cxOf CX P w K mg base N qual scope f cd A outer s H E).ex:=fun b z=>absurd (show b∈([]:List Addr) from z) (by simp)
  refine ⟨⟨e0.mod,S.kind,rfl,rfl,Nat.le_refl _,fun y z c h1 h2=>?_,fun y hy=>?_,fun y c _ h=>?_,fun _=>hd,Around.frames_deeper e0.frames,.inr ⟨rfl,rfl⟩,fun b z=>absurd z (noA b),e0.bs,e0.bsz,fun b _ _=>noA b,fun b z=>absurd z (noA b),e0.funs,e0.frf⟩,
    rfl,e0.bare,Un.kept hk,⟨_,x.toInCall.ns,fun i y v h1 h2 h3=>?_⟩,fun y c h=>⟨_,x.cell y c h⟩,e0.hok.fresh (Nat.le_refl _),fun y c h=>?_,fun p hp=>absurd (show p∈([]:List (Addr × Obj)) from hp) (by simp),e0.hok.kept hk,?_⟩
  . exact name_of_addr x.apart (PySem.mem_of_lookup h1) (PySem.mem_of_lookup h2)
  . have hy:scope.names.lookup y=some .cell∨scope.names.lookup y=some .free:=hy
    rcases hy with hy | hy
    . exact cell_has hy
    . exact absurd rfl (S.nofree _ (PySem.mem_of_lookup hy))
  . exact Nat.le_of_lt (x.above y c (PySem.mem_of_lookup h))
  . have hi:i < vs.length:=by
      unfold start at h2
      by_cases hi:i < vs.length
      . exact hi
      . rw [List.getElem?_append_right (by simpa using hi)] at h2
        rw [List.getElem?_replicate] at h2
        split at h2 <;> cases h2
    have ha:vs[i]?=some v:=by
      unfold start at h2
      rw [List.getElem?_append_left (by simpa using hi),List.getElem?_map] at h2
      cases e:vs[i]? with
      | none=>rw [e] at h2; cases h2
      | some a=>rw [e] at h2; cases h2; rfl
    obtain ⟨u,hu,rv⟩:=r.get ha
    have hp:ps[i]?=some y:=by
      rw [← S.pre,List.getElem?_take_of_lt (by omega)]; exact h1
    have ndP:ps.Nodup:=by rw [← S.pre]; exact S.nd.sublist (List.take_sublist _ _)
    refine ⟨u,rv,?_⟩
    rcases S.par y (List.mem_of_getElem? hp) with k | k
    . exact .inl ⟨k,bindL_get ndP hp hu k⟩
    . obtain ⟨c,e⟩:=cell_has (n:=s.heap.objs.size + 1) k
      refine .inr ⟨.inl k,c,e,?_⟩
      have q:=x.cell y c e
      rw [bindC_get ndP hp hu (by show scope.names.lookup y≠_; rw [k]; decide)] at q
      exact q
  . exact e0.hok.fresh (Nat.le_of_lt (x.above y c (PySem.mem_of_lookup h)))
  . unfold start
    show _=N.length
    rw [List.length_append,List.length_map,List.length_replicate]
    omega
theorem fn_of {CX:CXT} {P:Program} {w:World} {K:PySem.W.Frag} {mg:Str->Option Value} {base:Heap} {k:Nat} {f:Addr} {name qual:Str} {params:Arguments} {body:List Stmt} {scope:Scope} {dV kV doc pm cdv ct oc:Value} {an od:Option Addr}
    {osl:Array (Option Value)} {N ps:List Str} {sp:Sp} (lk:K.lookup f=some ⟨oc,od,.func (PySem.W.fnOf name qual params body scope dV kV doc pm an cdv ct),osl⟩) (hcd:PySem.W.codeIn K cdv qual=true) (S:FnScope N ps scope)
    (len:∀ vs H Q E,sp vs H Q E->vs.length=ps.length)
    (hbody:∀ (A:Around) (outer:List Env) (s:Shared) (H:Hp) (vs:List V) (Q:VK) (E:XK),Room k (A.deeper (envOfC qual scope s.heap.objs.size f cdv))->sp vs H Q E ->
      ∃ t,PSs (cxOf CX P w K mg base N qual scope f cdv A outer s H E) body t∧t { nx:=fun _ H'=>Q .non H',rt:=Q } (start N vs) H) :
    FnOk P w K mg base CX (k + 1) f (PySem.W.fnOf name qual params body scope dV kV doc pm an cdv ct) ps sp:=by
  refine ⟨len,fun A outer s H args us vs Q E hr e0 hb r hsp=>?_⟩
  have hl:=len _ _ _ _ hsp
  have KX:K.In s.heap:=e0.mod.kin.keeps fun b o e=>(e0.bs b o e).1
  have lim:s.heap.NoLimit:=e0.mod.nolimit.keeps fun b o e=>(e0.bs b o e).1
  have hkind:∀ y∈ps.zip us,scope.names.lookup y.1=some .local∨(scope.names.lookup y.1=some .cell∧((cellsFrom (s.heap.objs.size + 1) scope.names []).lookup y.1).isSome=true):=fun ⟨n,v⟩ hy=>by
    rcases S.par n (List.of_mem_zip hy).1 with q | q
    . exact .inl q
    . exact .inr ⟨q,PySem.W.cellsFrom_some _ _ _ (.inl q)⟩
  refine codeAny_call_function hr.depth (KX _ _ lk) rfl S.co S.gen rfl (PySem.W.codeRec_of KX hcd) (hb _ _ _ _ ?_)
  refine wpAny_newFunctionEnv_cells S.kind hkind fun env he s1 x=>?_
  subst he
  refine ⟨lim.keeps x.toInCall.keep,codeAny_func ?_⟩
  obtain ⟨t,ht,hq⟩:=hbody A outer s H vs Q E (hr.deeper _) hsp
  have I:Inv (cxOf CX P w K mg base N qual scope f cdv A outer s H E) [] (start N vs) H s1:=inv_start S hr.hd e0 hl r x
  refine wpAny_mono (ht [] s1 (start N vs) H _ I hq) (fun fl s' hs=>?_) fun e s' hs=>hs
  have fin:∀ {σ':St} {H':Hp} {v:V} {u:Value},Inv (cxOf CX P w K mg base N qual scope f cdv A outer s H E) [] σ' H' s'->RelV v u->Q v H'->CE outer P w H s Q u s' :=
    fun {σ' H' v u} J rv q=>⟨v,H',J.os,J.bare,J.base,J.hok,rv,q⟩
  cases fl with
  | ret u =>
    obtain ⟨v,σ',H',J,rv,q⟩:=hs
    exact fin J rv q
  | next =>
    obtain ⟨σ',H',J,q⟩:=hs
    exact fin (v:=V.non) (u:=Value.none) J rfl q
  | brk =>
    obtain ⟨_,_,_,q⟩:=hs
    exact False.elim q
  | cont =>
    obtain ⟨_,_,_,q⟩:=hs
    exact False.elim q
end L2
namespace L2
open PySem PySem.Spec PyProof.Rows
section
variable {X:Cx} {x:Str} {p pos:Pos} {e:Expr} {es:List Expr} {t:TA} {id T:String} {r:List V->Hp->VK->Prop}
def tCB (r:List V->Hp->VK->Prop) (t:TA):TE:=fun σ H Q=>t σ H fun vs H1=>r vs H1 Q
theorem pe_callB (hc:CallR X (.builtin id) r) (hg:Gl X x) (hm:X.mg x=none) (hv:bootBuiltins x=some (.builtin id)) (ha:PA X (e::es) t) (hn:x≠"__name__":=by decide) (hdb:(x == ("__debug__":Str))=false:=by decide)
    (he:starEach (e::es) X.env=(false,eval e X.env)::starEach es X.env:=by rfl) (hpl:(backTo pos (starEach es X.env)).any (·.1)=false:=by rfl):PE X (.Call (.Name x p) (e::es) [] pos) (tCB r t):=by
  intro pins s σ H Q I h
  refine wpAny_Call_Name_kw (ld_blt I hg hm hv ?_ hn hdb)
  exact PyProof.Rows.callWith_builtin1 (thn (ha pos pins s σ H _ I h) fun us s1 ⟨vs,H1,I1,r1,q1⟩=>hc pins s1 σ H1 vs us Q I1 r1 q1) he hpl
theorem pe_callTy (hc:CallR X (.type T) r) (hg:Gl X x) (hm:X.mg x=none) (hv:bootBuiltins x=some (.type T)) (ha:PA X (e::es) t) (hn:x≠"__name__":=by decide) (hdb:(x == ("__debug__":Str))=false:=by decide)
    (he:starEach (e::es) X.env=(false,eval e X.env)::starEach es X.env:=by rfl) (hpl:(backTo pos (starEach es X.env)).any (·.1)=false:=by rfl):PE X (.Call (.Name x p) (e::es) [] pos) (tCB r t):=by
  intro pins s σ H Q I h
  refine wpAny_Call_Name_kw (ld_blt I hg hm hv ?_ hn hdb)
  exact PyProof.Rows.callWith_type1 (thn (ha pos pins s σ H _ I h) fun us s1 ⟨vs,H1,I1,r1,q1⟩=>hc pins s1 σ H1 vs us Q I1 r1 q1) he hpl
end
end L2
namespace HT
open PySem PyProof.Rows
theorem rcLt_int (A:Around) (s:Shared) (a:Int) (t:Tok) (c:Int) (u:Tok) (prog:Program) (w:World) (E:Value->Shared->Prop) (Q:Value->Shared->Prop) (h:Q (.bool (decide (a < c))) s) :
    wpAny (model prog w) A (richCompare .Lt (.int a t) (.int c u)) Q E s :=
  (PyProof.Rows.lt_int h:wpAny (model prog w) A (compareOp .Lt (.int a t) (.int c u)) Q E s)
section
open PySem.SeqAt
open PySem.AutoSeq1 (wpAny_loadPart')
open PySem.MeetsSeq PySem.MeetsSeq2 PySem.MeetsSeq3
end
section
variable {prog:Program} {w:World} {A:Around} {E:Value->Shared->Prop} {s:Shared}
theorem cat_tup {t b:Addr} {vs ws:List Value} {Q:Value->Shared->Prop} (ht:IsTup s.heap t vs.toArray) (hb:IsTup s.heap b ws.toArray) (hv:vs≠[])
    (h1:ws=[]->Q (.ref t) s) (h2:ws≠[]->Q (.ref s.heap.objs.size) { s with heap:=s.heap.push { cls:=.type "tuple",data:=.seq (vs++ws).toArray } })
    (hsz:vs.length + ws.length≤sizeLine):wpAny (model prog w) A (binaryOp .Add (.ref t) (.ref b)) Q E s:=by
  obtain ⟨⟨cls,dd,data,sl⟩,ho,hc,n,hd⟩:=id ht
  obtain ⟨⟨cls2,dd2,data2,sl2⟩,ho2,hc2,n2,hd2⟩:=id hb
  simp only at hc hd hc2 hd2
  subst hc hd hc2 hd2
  have e:vs.toArray++ws.toArray=(vs++ws).toArray:=by simp
  by_cases hw:ws=[]
  . exact concat_meets ⟨_,ho,rfl⟩ ⟨_,ho2,rfl⟩ noFill_tuple_add seq_tuple_add PySem.F.slot_tuple_add PySem.F.entry_tuple_add (PySem.F.args_tuple_add_2 _ _)
      (tuple_addW1 t b vs.toArray ws.toArray n n2 dd dd2 sl sl2 (by simpa using hv) (by simp [hw])) ⟨ho,ho2,h1 hw⟩
  . refine concat_meets ⟨_,ho,rfl⟩ ⟨_,ho2,rfl⟩ noFill_tuple_add seq_tuple_add PySem.F.slot_tuple_add PySem.F.entry_tuple_add (PySem.F.args_tuple_add_2 _ _)
      (tuple_addW2 t b vs.toArray ws.toArray n n2 dd dd2 sl sl2 (by simpa using hv) (by simpa using hw) (by rw [List.size_toArray,List.size_toArray]; exact hsz)) ⟨ho,ho2,?_⟩
    rw [e]
    exact h2 hw
def sIx (n d:Nat):Option Int->Nat
  | none=>d
  | some v=>if v < 0 then (v + (n:Int)).toNat else min v.toNat n
theorem sIx_none (n d:Nat):sIx n d none=d:=rfl
theorem sIx_nat (n d k:Nat):sIx n d (some (k:Int))=min k n:=by
  show (if (k:Int) < 0 then ((k:Int) + (n:Int)).toNat else min (k:Int).toNat n)=min k n
  rw [if_neg (by omega),Int.toNat_natCast]
theorem sIx_le (n d:Nat) (hd:d≤n) (o:Option Int):sIx n d o≤n:=by
  cases o with
  | none=>exact hd
  | some v =>
    show (if v < 0 then (v + (n:Int)).toNat else min v.toNat n)≤n
    by_cases hv:v < 0
    . rw [if_pos hv]; omega
    . rw [if_neg hv]; exact Nat.min_le_right _ _
theorem clip_eq (v:Int) (n d:Nat):(if v < 0 then max (v + (n:Int)) 0 else min v (n:Int))=((sIx n d (some v):Nat):Int):=by
  show (if v < 0 then max (v + (n:Int)) 0 else min v (n:Int))=(((if v < 0 then (v + (n:Int)).toNat else min v.toNat n):Nat):Int)
  by_cases hv:v < 0
  . simp only [if_pos hv]; omega
  . simp only [if_neg hv]; omega
theorem adjust_gen (lo hi:Option Int) (n:Nat):Builtin.Slice.sliceAdjust lo hi 1 (n:Int)=(((sIx n 0 lo:Nat):Int),((sIx n n hi:Nat):Int)):=by
  have h1 : ¬ ((1:Int) < 0):=by omega
  unfold Builtin.Slice.sliceAdjust
  simp only [h1,if_false]
  refine Prod.ext ?_ ?_
  . cases lo with
    | none=>rfl
    | some v=>exact clip_eq v n 0
  . cases hi with
    | none=>rfl
    | some v=>exact clip_eq v n n
theorem places_gen (i j:Nat):Builtin.Slice.slicePlaces (i:Int) (j:Int) 1=j - i:=by
  unfold Builtin.Slice.slicePlaces
  have h1:(1:Int) > 0:=by omega
  simp only [h1,if_true,Int.ediv_one]
  split <;> omega
theorem slicePart_ {v:Value} {o:Option Int} {Q:Option Int->Shared->Prop} (p:IsPart v o) (h:Q o s):wpAny (model prog w) A (Builtin.Slice.slicePartIndex v) Q E s:=by
  cases p with
  | none=>exact slicePart_none h
  | int i t=>exact slicePart_int h
theorem sliceApplied_gen {sl:Addr} {vl vu:Value} {lo hi:Option Int} {n:Nat} {Q:Int × Int × Nat->Shared->Prop} (hs:s.heap.IsSliceOf sl vl vu .none) (pl:IsPart vl lo) (pu:IsPart vu hi)
    (h:Q (((sIx n 0 lo:Nat):Int),1,sIx n n hi - sIx n 0 lo) s):wpAny (model prog w) A (Builtin.Slice.sliceApplied (.ref sl) (pure (n:Int))) Q E s:=by
  obtain ⟨os,hos,hcs,hds⟩:=id hs
  unfold Builtin.Slice.sliceApplied Builtin.Slice.sliceFields
  refine wpAny_bind (wpAny_bind (wpAny_field hos hds (x:=vl) rfl (wpAny_bind (wpAny_field hos hds (x:=vu) rfl (wpAny_bind (wpAny_field hos hds (x:=.none) rfl (wpAny_pure ?_)))))))
  refine wpAny_bind (slicePart_none ?_)
  show wpAny _ _ (if ((1:Int) == 0)=true then _ else _) _ _ s
  rw [if_neg (by decide)]
  refine wpAny_bind (slicePart_ pl (wpAny_bind (slicePart_ pu (wpAny_bind (wpAny_pure ?_)))))
  show wpAny _ _ (match Builtin.Slice.sliceAdjust lo hi 1 (n:Int) with | (lo,hi)=>pure (lo,(1:Int),Builtin.Slice.slicePlaces lo hi 1)) _ _ s
  rw [adjust_gen lo hi n]
  show wpAny _ _ (pure (((sIx n 0 lo:Nat):Int),(1:Int),Builtin.Slice.slicePlaces ((sIx n 0 lo:Nat):Int) ((sIx n n hi:Nat):Int) 1)) _ _ s
  rw [places_gen]
  exact wpAny_pure h
theorem pick_gen (xs:Array Value) (i k:Nat):((List.range k).filterMap fun (m:Nat)=>xs[((i:Int) + (m:Int) * 1).toNat]?).toArray=((xs.toList.drop i).take k).toArray:=by
  have e:(fun (m:Nat)=>xs[((i:Int) + (m:Int) * 1).toNat]?)=fun m=>xs[i + m]?:=by
    funext m
    have:((i:Int) + (m:Int) * 1).toNat=i + m:=by omega
    rw [this]
  rw [e]
  have:=pick_run xs i k
  rw [List.filterMap_map] at this
  have e2:((fun x=>xs[x]?) ∘ fun x=>i + x)=fun m=>xs[i + m]?:=rfl
  rw [e2] at this
  rw [this]
theorem getItem_tuple_cut {t sl:Addr} {items:Array Value} {vl vu:Value} {lo hi:Option Int} {Q:Value->Shared->Prop} (ht:IsTup s.heap t items) (hs:s.heap.IsSliceOf sl vl vu .none) (pl:IsPart vl lo) (pu:IsPart vu hi)
    (hw : ¬ (sIx items.size 0 lo=0∧sIx items.size items.size hi=items.size))
    (h:Q (.ref s.heap.objs.size) { s with heap:=s.heap.push { cls:=.type "tuple",data:=.seq ((items.toList.drop (sIx items.size 0 lo)).take (sIx items.size items.size hi - sIx items.size 0 lo)).toArray } })
    (hsz:items.size≤sizeLine):wpAny (model prog w) A (getItem (.ref t) (.ref sl)) Q E s:=by
  have htake:sizeOk (.seq ((items.toList.drop (sIx items.size 0 lo)).take (sIx items.size items.size hi - sIx items.size 0 lo)).toArray):=by
    show ((items.toList.drop (sIx items.size 0 lo)).take (sIx items.size items.size hi - sIx items.size 0 lo)).toArray.size≤sizeLine
    rw [List.size_toArray,List.length_take,List.length_drop,Array.length_toList]
    omega
  have hj:sIx items.size items.size hi≤items.size:=sIx_le _ _ (Nat.le_refl _) hi
  obtain ⟨os,hos,hcs,hds⟩:=id hs
  have hTs:s.TypeIs (.ref sl) "slice":=⟨os,hos,hcs⟩
  unfold getItem
  try with_reducible refine wpAny_holding ?_
  first | refine wpAny_bind (wpAny_pure ?_) | skip
  refine wpAny_bind (wpAny_sequenceKey ht.typeIs (by decide) ?_)
  refine wpAny_bind (wpAny_callSpecial?_slot (name:=Str.ofString "__getitem__") ht.typeIs PyProof.Rows.slot_tuple_getitem
    (wpAny_call_entry PyProof.Rows.slot_tuple_getitem ht.typeIs entry_tuple_getitem ?_ (args_tuple_getitem _ _)))
  show wpAny _ _ (Builtin.Tuple.tupleItemsOf (.ref t) >>= _) _ _ s
  refine wpAny_bind (tupleItemsOf_ ht ?_)
  refine wpAny_bind (wpAny_typeOf hTs ?_)
  rw [if_pos (by decide)]
  refine wpAny_bind (sliceApplied_gen hs pl pu ?_)
  have hno : ¬ ((((sIx items.size 0 lo:Nat):Int) == 0 && (1:Int) == 1 && (sIx items.size items.size hi - sIx items.size 0 lo) == items.size)=true):=by
    intro q
    rw [Bool.and_eq_true,Bool.and_eq_true] at q
    have q1:((sIx items.size 0 lo:Nat):Int)=0:=eq_of_beq q.1.1
    have q2:sIx items.size items.size hi - sIx items.size 0 lo=items.size:=eq_of_beq q.2
    exact hw ⟨by omega,by omega⟩
  show wpAny _ _ (if (((sIx items.size 0 lo:Nat):Int) == 0 && (1:Int) == 1 && (sIx items.size items.size hi - sIx items.size 0 lo) == items.size)=true then _ else _) _ _ s
  rw [if_neg hno,pick_gen]
  first
    | exact wpAny_bind (m:=Builtin.Tuple.tupleExact _) (wpAny_newObj_type (wpAny_pure ⟨_,rfl,wpAny_pure h⟩) htake)
    | exact wpAny_bind (m:=Builtin.Tuple.tupleExact _) (wpAny_newObj_type (wpAny_bind (wpAny_pure (wpAny_pure ⟨_,rfl,wpAny_pure h⟩))) htake)
    | exact wpAny_bind (wpAny_bind (m:=Builtin.Tuple.tupleExact _) (wpAny_newObj_type (wpAny_pure (wpAny_pure ⟨_,rfl,wpAny_pure h⟩)) htake))
    | exact wpAny_bind (wpAny_bind (m:=Builtin.Tuple.tupleExact _) (wpAny_newObj_type (wpAny_pure ⟨_,rfl,wpAny_pure h⟩) htake))
end
end HT
namespace L2
open PySem PySem.Spec PyProof.Rows
abbrev TO:=St->Hp->(Option Int->Hp->Prop)->Prop
def PO (X:Cx) (e:Option Expr) (t:TO):Prop :=
  ∀ (pins:List (Addr × Obj)) (s:Shared) (σ:St) (H:Hp) (Q:Option Int->Hp->Prop),Inv X pins σ H s->t σ H Q ->
    wpAny (model X.prog X.w) X.A (evalPart e X.env) (fun u s'=>∃ o H',Inv X pins σ H' s'∧IsPart u o∧Q o H') X.xe s
def tNoPart:TO:=fun _ H Q=>Q none H
def tPart (t:TE):TO:=fun σ H Q=>t σ H fun x H1=>∃ i,x=.int i∧Q (some i) H1
section
variable {X:Cx} {e:Expr} {te:TE} {lo hi:Option Expr} {tl th:TO} {pos p2:Pos}
theorem po_none:PO X none tNoPart:=by
  intro pins s σ H Q I h
  rw [evalPart_none]
  exact wpAny_pure ⟨none,H,I,.none,h⟩
theorem po_some (h:PE X e te):PO X (some e) (tPart te):=by
  intro pins s σ H Q I hw
  rw [evalPart_some]
  refine thn (h pins s σ H _ I hw) fun u s1 ⟨x,H1,I1,r1,q1⟩=>?_
  obtain ⟨i,rfl,q⟩:=q1
  obtain ⟨t,rfl⟩:=r1
  exact ⟨some i,H1,I1,.int i t,q⟩
def SlR (X:Cx) (r:V->Option Int->Option Int->Hp->VK->Prop):Prop :=
  ∀ (pins:List (Addr × Obj)) (s:Shared) (σ:St) (H:Hp) (x:V) (v vl vu:Value) (lo hi:Option Int) (sl:Addr) (Q:VK),Inv X pins σ H s->RelV x v->s.heap.IsSliceOf sl vl vu .none->IsPart vl lo->IsPart vu hi->r x lo hi H Q ->
    ∃ T id,typeLookup (.type T) "__getitem__" = pure (some (.builtin id))∧s.TypeIs v T∧wpAny (model X.prog X.w) X.A (getItem v (.ref sl)) (EP X pins σ Q) X.xe s
theorem SlR.or {r r':V->Option Int->Option Int->Hp->VK->Prop} (h:SlR X r) (h':SlR X r'):SlR X (fun x lo hi H Q=>r x lo hi H Q∨r' x lo hi H Q):=by
  intro pins s σ H x v vl vu lo hi sl Q I rx hs pl pu q
  rcases q with q | q
  . exact h pins s σ H x v vl vu lo hi sl Q I rx hs pl pu q
  . exact h' pins s σ H x v vl vu lo hi sl Q I rx hs pl pu q
def tSl (r:V->Option Int->Option Int->Hp->VK->Prop) (te:TE) (tl th:TO):TE:=fun σ H Q=>te σ H fun x H1=>tl σ H1 fun l H2=>th σ H2 fun u H3=>r x l u H3 Q
theorem pe_slice {r:V->Option Int->Option Int->Hp->VK->Prop} (hr:SlR X r) (he:PE X e te) (hl:PO X lo tl) (hu:PO X hi th):PE X (.Subscript e (.Slice lo hi none p2) pos) (tSl r te tl th):=by
  intro pins s σ H Q I h
  refine Subscript_ (thn (he pins s σ H _ I h) fun v s1 ⟨x,H1,I1,r1,q1⟩=>?_)
  refine wpAny_Slice (thn (hl pins s1 σ H1 _ I1 q1) fun vl s2 ⟨l,H2,I2,pl,q2⟩=>thn (hu pins s2 σ H2 _ I2 q2) fun vu s3 ⟨u,H3,I3,pu,q3⟩=>?_)
  rw [evalPart_none]
  refine wpAny_pure ?_
  have I4:Inv X pins σ H3 { s3 with heap:=s3.heap.push { cls:=.type "slice",data:=.fields #[vl,vu,.none] } }:=I3.kept (t':=s3.toks) fun b ob q=>Heap.get?_push_of_some _ q
  obtain ⟨T,id,hT,ht,hg⟩:=hr pins { s3 with heap:=s3.heap.push { cls:=.type "slice",data:=.fields #[vl,vu,.none] } } σ H3 x v vl vu l u s3.heap.objs.size Q I4 r1 (Heap.IsSliceOf.new ..) pl pu q3
  show wpAny (model X.prog X.w) X.A (subscriptTail e (.Slice lo hi none p2) v (.ref s3.heap.objs.size)) (EP X pins σ Q) X.xe { s3 with heap:=s3.heap.push { cls:=.type "slice",data:=.fields #[vl,vu,.none] } }
  exact tail_any (ops:=[.ref s3.heap.objs.size,v]) ht hT hg (by with_unfolding_all rfl)
def cutV (xs:List V) (lo hi:Option Int):List V:=(xs.drop (HT.sIx xs.length 0 lo)).take (HT.sIx xs.length xs.length hi - HT.sIx xs.length 0 lo)
theorem cutV_length (xs:List V) (lo hi:Option Int):(cutV xs lo hi).length≤xs.length:=by
  unfold cutV
  rw [List.length_take,List.length_drop]
  omega
def rSlT (K:PySem.W.Frag):V->Option Int->Option Int->Hp->VK->Prop:=fun x lo hi H Q=>∃ a xs,x=.ref a∧SqT K H a xs ∧
  ¬ (HT.sIx xs.length 0 lo=0∧HT.sIx xs.length xs.length hi=xs.length)∧∀ p,H p=none->Q (.ref p) (upd H p (.tup (cutV xs lo hi)))
theorem sl_tup:SlR X (rSlT X.K):=by
  intro pins s σ H x v vl vu lo hi sl Q I rx hs pl pu h
  obtain ⟨a,xs,rfl,hx,hw,q⟩:=h
  cases rx
  obtain ⟨its,r,ht,hz⟩:=I.tuple hx
  have hlen:its.toArray.size=xs.length:=by rw [List.size_toArray]; exact r.length.symm
  refine ⟨"tuple",_,PyProof.Rows.slot_tuple_getitem.lookup,ht.typeIs,?_⟩
  refine HT.getItem_tuple_cut ht hs pl pu (by rw [hlen]; exact hw) ?_ (by rw [hlen]; exact hz)
  rw [hlen]
  refine ⟨.ref s.heap.objs.size,_,I.laid (t':=s.toks) (o:=.tup (cutV xs lo hi)) (fun b ob q=>Heap.get?_push_of_some _ q) (Nat.le_refl _) ?_,rfl,q _ (I.hok.fresh (Nat.le_refl _))⟩
  exact ⟨Nat.le_trans (cutV_length xs lo hi) hz,_,(r.drop (HT.sIx xs.length 0 lo)).take (HT.sIx xs.length xs.length hi - HT.sIx xs.length 0 lo),IsTup.new _ _,_,Heap.get?_push_size _ rfl,rfl⟩
def rCatT (K:PySem.W.Frag):R2:=fun x y H Q=>∃ a b xs ys,x=.ref a∧y=.ref b∧SqT K H a xs∧SqT K H b ys∧xs≠[]∧xs.length + ys.length≤sizeLine ∧
  (ys=[]->Q (.ref a) H)∧(ys≠[]->∀ p,H p=none->Q (.ref p) (upd H p (.tup (xs++ys))))
theorem Vals.nil_iff {xs:List V} {us:List Value} (r:Vals xs us):us=[]↔xs=[]:=by
  cases r with
  | nil=>simp
  | cons _ _=>simp
theorem op_catT:OpR X (binaryOp .Add) (rCatT X.K):=by
  intro pins s σ H x y v u Q I rx ry h
  obtain ⟨a,b,xs,ys,rfl,rfl,ha,hb,hx,hz,q1,q2⟩:=h
  cases rx
  cases ry
  obtain ⟨its,r1,p1,_⟩:=I.tuple ha
  obtain ⟨its2,r2,p2,_⟩:=I.tuple hb
  refine HT.cat_tup p1 p2 (fun z=>hx (r1.nil_iff.mp z)) (fun z=>⟨.ref a,H,I,rfl,q1 (r2.nil_iff.mp z)⟩) (fun z=>?_) (by rw [← r1.length,← r2.length]; exact hz)
  refine ⟨.ref s.heap.objs.size,_,I.laid (t':=s.toks) (o:=.tup (xs++ys)) (fun b ob q=>Heap.get?_push_of_some _ q) (Nat.le_refl _) ?_,rfl,q2 (fun w=>z (r2.nil_iff.mpr w)) _ (I.hok.fresh (Nat.le_refl _))⟩
  exact ⟨by rw [List.length_append]; exact hz,_,r1.append r2,IsTup.new _ _,_,Heap.get?_push_size _ rfl,rfl⟩
end
end L2
namespace L2
open PySem PySem.Spec PyProof.Rows
def ixN (n:Nat) (i:Int):Option Nat:=if 0≤i then (if i < n then some i.toNat else none) else if -(n:Int)≤i then some (i + n).toNat else none
def atI {α:Type} (xs:List α) (i:Int):Option α:=(ixN xs.length i).bind fun j=>xs[j]?
theorem ixN_seq {n:Nat} {i:Int} {j:Nat} (h:ixN n i=some j):seqIndex? i n=some j∧j < n∧-(n:Int)≤i∧i < n:=by
  unfold ixN at h
  by_cases h0 : 0≤i
  . rw [if_pos h0] at h
    by_cases h1:i < n
    . rw [if_pos h1] at h
      have e:i.toNat=j:=Option.some.inj h
      exact ⟨by rw [seqIndex_of h0 h1,e],by omega,by omega,h1⟩
    . rw [if_neg h1] at h; cases h
  . rw [if_neg h0] at h
    by_cases h1 : -(n:Int)≤i
    . rw [if_pos h1] at h
      have e:(i + n).toNat=j:=Option.some.inj h
      exact ⟨by rw [seqIndex_neg (by omega) h1,e],by omega,h1,by omega⟩
    . rw [if_neg h1] at h; cases h
theorem atI_get {α:Type} {xs:List α} {i:Int} {v : α} (h:atI xs i=some v):∃ j,seqIndex? i xs.length=some j∧xs[j]?=some v∧j < xs.length∧-(xs.length:Int)≤i∧i < xs.length:=by
  unfold atI at h
  cases e:ixN xs.length i with
  | none=>rw [e] at h; cases h
  | some j =>
    rw [e] at h
    obtain ⟨h1,h2,h3,h4⟩:=ixN_seq e
    exact ⟨j,h1,h,h2,h3,h4⟩
theorem atI_nat {α:Type} {xs:List α} {j:Nat} {v : α} (h:xs[j]?=some v):atI xs (j:Int)=some v:=by
  have hj:j < xs.length:=(List.getElem?_eq_some_iff.mp h).1
  have e:ixN xs.length (j:Int)=some j:=by
    unfold ixN
    rw [if_pos (by omega),if_pos (by omega)]; simp
  unfold atI; rw [e]; exact h
theorem atI_last {α:Type} (xs:List α) (v : α):atI (xs++[v]) (-1)=some v:=by
  have hl:(xs++[v]).length=xs.length + 1:=by simp
  have e:ixN (xs++[v]).length (-1)=some xs.length:=by
    unfold ixN
    rw [hl,if_neg (by decide),if_pos (by omega)]
    congr 1
    omega
  unfold atI
  rw [e]
  show (xs++[v])[xs.length]?=some v
  simp
def PlainIx (b:Expr):Prop:=∀ o i,subscripted b false o i=operate [o,i] (getItem o i)
def IxR (X:Cx) (r:R2):Prop :=
  ∀ (value slice:Expr) (pins:List (Addr × Obj)) (s:Shared) (σ:St) (H:Hp) (x y:V) (v u:Value) (Q:VK),Inv X pins σ H s->RelV x v->RelV y u->r x y H Q ->
    subscripted slice false v u=operate [v,u] (getItem v u)->wpAny (model X.prog X.w) X.A (subscriptTail value slice v u) (EP X pins σ Q) X.xe s
def MtR (X:Cx) (id:String) (r:V->List V->Hp->VK->Prop):Prop :=
  ∀ (pins:List (Addr × Obj)) (s:Shared) (σ:St) (H:Hp) (x:V) (xs:List V) (v:Value) (us:List Value) (Q:VK),Inv X pins σ H s->RelV x v->Vals xs us->r x xs H Q ->
    wpAny (model X.prog X.w) X.A (call (.builtin id) (v::us)) (EP X pins σ Q) X.xe s
section
variable {X:Cx} {a b:Expr} {ta tb:TE} {pos:Pos}
theorem IxR.or {r r':R2} (h:IxR X r) (h':IxR X r'):IxR X (fun x y H Q=>r x y H Q∨r' x y H Q):=by
  intro value slice pins s σ H x y v u Q I rx ry q hs
  rcases q with q | q
  . exact h value slice pins s σ H x y v u Q I rx ry q hs
  . exact h' value slice pins s σ H x y v u Q I rx ry q hs
theorem MtR.or {id:String} {r r':V->List V->Hp->VK->Prop} (h:MtR X id r) (h':MtR X id r'):MtR X id (fun x xs H Q=>r x xs H Q∨r' x xs H Q):=by
  intro pins s σ H x xs v us Q I rx rs q
  rcases q with q | q
  . exact h pins s σ H x xs v us Q I rx rs q
  . exact h' pins s σ H x xs v us Q I rx rs q
theorem pe_ix {r:R2} (hr:IxR X r) (ha:PE X a ta) (hb:PE X b tb) (hs:PlainIx b):PE X (.Subscript a b pos) (tOp r ta tb):=by
  intro pins s σ H Q I h
  exact Subscript_ (binT ha hb I h fun v u s2 x y H2 I2 rx ry q=>hr a b pins s2 σ H2 x y v u Q I2 rx ry q (hs _ _))
def rIxL (K:PySem.W.Frag):R2:=fun x y H Q=>∃ p xs i v,x=.ref p∧y=.int i∧SqL K H p xs∧atI xs i=some v∧Q v H
def rIxT (K:PySem.W.Frag):R2:=fun x y H Q=>∃ p xs i v,x=.ref p∧y=.int i∧SqT K H p xs∧atI xs i=some v∧Q v H
def rIxS:R2:=fun x y H Q=>∃ z i c,x=.str z∧y=.int i∧z.length≤sizeLine∧atI z.cps.toList i=some c∧Q (.str ⟨#[c]⟩) H
theorem ix_list:IxR X (rIxL X.K):=by
  intro value slice pins s σ H x y v u Q I rx ry h hs
  obtain ⟨p,xs,i,z,rfl,rfl,hq,he,q⟩:=h
  cases rx
  obtain ⟨t,rfl⟩:=ry
  obtain ⟨its,r,pl,hz⟩:=I.list hq
  obtain ⟨j,h1,h2,h3,h4,h5⟩:=atI_get he
  obtain ⟨w,ew,rw'⟩:=r.get h2
  have hl:=r.length
  have hn:=line63
  have fin:EP X pins σ Q w s:=⟨z,H,I,rw',q⟩
  by_cases h0 : 0≤i
  . have hj:i.toNat=j:=by
      rw [seqIndex_of h0 h5] at h1
      exact Option.some.inj h1
    exact item_listR pl.isList h0 (by omega) (by rw [hj]; simpa using ew) fin hs
  . have hj:(i + (its.toArray.size:Int)).toNat=j:=by
      rw [seqIndex_neg (by omega) h4] at h1
      rw [List.size_toArray,← hl]
      exact Option.some.inj h1
    exact subscriptTail_builtinR (x:=w) pl.isList.typeIs slot_list_getitem.lookup
      (wpAny_getItem_list_neg (Q:=fun r s'=>r=w∧EP X pins σ Q r s') pl.isList (by omega) (by rw [List.size_toArray] <;> omega) (by omega) (by rw [hj]; simpa using ew) ⟨rfl,fin⟩) hs
theorem ix_tup:IxR X (rIxT X.K):=by
  intro value slice pins s σ H x y v u Q I rx ry h hs
  obtain ⟨p,xs,i,z,rfl,rfl,hq,he,q⟩:=h
  cases rx
  obtain ⟨t,rfl⟩:=ry
  obtain ⟨its,r,pl,hz⟩:=I.tuple hq
  obtain ⟨j,h1,h2,h3,h4,h5⟩:=atI_get he
  obtain ⟨w,ew,rw'⟩:=r.get h2
  have hl:=r.length
  have hn:=line63
  have fin:EP X pins σ Q w s:=⟨z,H,I,rw',q⟩
  exact subscriptTail_builtinR (x:=w) pl.typeIs slot_tuple_getitem.lookup
    (getItem_tuple (j:=j) (Q:=fun r s'=>r=w∧EP X pins σ Q r s') pl (by omega) (by omega) (by rw [List.size_toArray,← hl]; exact h1) (by simpa using ew) ⟨rfl,fin⟩) hs
theorem ix_str:IxR X rIxS:=by
  intro value slice pins s σ H x y v u Q I rx ry h hs
  obtain ⟨z,i,c,rfl,rfl,hz,he,q⟩:=h
  obtain ⟨t,rfl⟩:=rx
  obtain ⟨t',rfl⟩:=ry
  obtain ⟨j,h1,h2,h3,h4,h5⟩:=atI_get he
  have hl:z.cps.toList.length=z.length:=by simp [Str.length]
  rw [hl] at h1 h4 h5
  have hn:=line63
  exact tail_any (typeIs_str s z t) slot_str_getitem.lookup (getItem_str (c:=c) (by
    have e1:decide (i < -(2 ^ 63:Int))=false:=decide_eq_false (by omega)
    have e2:decide (i ≥ 2 ^ 63)=false:=decide_eq_false (by omega)
    rw [e1,e2,Bool.or_false]) (by rw [h1]; simpa using h2) ⟨.str ⟨#[c]⟩,H,I.tok _,⟨_,rfl⟩,q⟩) hs
def rIx (K:PySem.W.Frag):R2:=fun x y H Q=>rIxL K x y H Q∨rIxT K x y H Q∨rIxS x y H Q
theorem ix_seq:IxR X (rIx X.K):=ix_list.or (ix_tup.or ix_str)
theorem Inv.lst {pins:List (Addr × Obj)} {σ:St} {H:Hp} {s:Shared} {p:Addr} {xs:List V} (I:Inv X pins σ H s) (h:H p=some (.lst xs)) :
    ∃ (its:List Value) (n:Nat),Vals xs its∧s.heap.get? p=some { cls:=.type "list",data:=.seq its.toArray n }∧xs.length≤sizeLine:=by
  obtain ⟨z,its,n,r,e⟩:=I.hok p _ h
  exact ⟨its,n,r,e,z⟩
theorem slice_bounds (lo hi:Option Int) (n:Nat):(sliceBounds lo hi none n).1=((HT.sIx n 0 lo:Nat):Int)∧(sliceBounds lo hi none n).2.1=((HT.sIx n n hi:Nat):Int)∧(sliceBounds lo hi none n).2.2=1:=by
  refine ⟨?_,?_,rfl⟩
  . cases lo with
    | none=>simp [sliceBounds,HT.sIx]
    | some i =>
      simp only [sliceBounds,HT.sIx,Option.getD_none,show (1:Int) > 0 by decide,if_true]
      by_cases h:i < 0
      . simp only [h,if_true] <;> omega
      . simp only [h,if_false] <;> omega
  . cases hi with
    | none=>simp [sliceBounds,HT.sIx]
    | some i =>
      simp only [sliceBounds,HT.sIx,Option.getD_none,show (1:Int) > 0 by decide,if_true]
      by_cases h:i < 0
      . simp only [h,if_true] <;> omega
      . simp only [h,if_false] <;> omega
theorem slicePick_cut (its:List Value) (lo hi:Option Int):slicePick its.toArray lo hi none=((its.drop (HT.sIx its.length 0 lo)).take (HT.sIx its.length its.length hi - HT.sIx its.length 0 lo)).toArray:=by
  obtain ⟨h1,h2,h3⟩:=slice_bounds lo hi its.toArray.size
  unfold slicePick
  rw [h1,h2,h3]
  simp only [sliceRange_one,pick_run,List.size_toArray] <;> rfl
def rSlL (K:PySem.W.Frag):V->Option Int->Option Int->Hp->VK->Prop:=fun x lo hi H Q=>∃ a xs,x=.ref a∧SqL K H a xs∧∀ p,H p=none->Q (.ref p) (upd H p (.lst (cutV xs lo hi)))
theorem sl_list:SlR X (rSlL X.K):=by
  intro pins s σ H x v vl vu lo hi sl Q I rx hs pl pu h
  obtain ⟨a,xs,rfl,hx,q⟩:=h
  cases rx
  obtain ⟨its,r,ht,hz⟩:=I.list hx
  have hlen:=r.length
  refine ⟨"list",_,slot_list_getitem.lookup,ht.isList.typeIs,?_⟩
  refine wpAny_getItem_list_slice ht.isList hs pl pu .none (by simp) ?_ (by rw [List.size_toArray] <;> omega)
  rw [slicePick_cut,← hlen]
  refine ⟨.ref s.heap.objs.size,_,I.laid (t':=s.toks) (o:=.lst (cutV xs lo hi)) (fun b ob q=>Heap.get?_push_of_some _ q) (Nat.le_refl _) ?_,rfl,q _ (I.hok.fresh (Nat.le_refl _))⟩
  exact ⟨Nat.le_trans (cutV_length xs lo hi) hz,_,0,(r.drop (HT.sIx xs.length 0 lo)).take (HT.sIx xs.length xs.length hi - HT.sIx xs.length 0 lo),Heap.get?_push_size _ rfl⟩
def flatV:V->Bool
  | .non=>true
  | .bl _=>true
  | .int _=>true
  | .str _=>true
  | _=>false
def eqV:V->V->Bool
  | .non,.non=>true
  | .bl a,.bl b=>a == b
  | .bl a,.int b=>(if a then 1 else 0) == b
  | .int a,.bl b=>a == (if b then 1 else 0)
  | .int a,.int b=>a == b
  | .str a,.str b=>a == b
  | _,_=>false
theorem eqAt_V {A:Around} {s:Shared} {y x:V} {u v:Value} (ry:RelV y u) (rx:RelV x v) (fy:flatV y=true) (fx:flatV x=true):SeqAt.EqAt A s u v (eqV y x):=by
  cases y with
  | non =>
    cases ry
    cases x with
    | non=>cases rx; exact SeqAt.EqAt.same _
    | bl b=>cases rx; exact SeqAt.EqAt.none_bool b
    | int b=>obtain ⟨t,rfl⟩:=rx; exact SeqAt.EqAt.none_int b t
    | str b=>obtain ⟨t,rfl⟩:=rx; exact SeqAt.EqAt.none_str b t
    | _=>exact absurd (show false=true from fx) Bool.false_ne_true
  | bl a =>
    cases ry
    cases x with
    | non=>cases rx; exact SeqAt.EqAt.bool_none a
    | bl b=>cases rx; exact SeqAt.EqAt.bool_bool a b
    | int b=>obtain ⟨t,rfl⟩:=rx; exact SeqAt.EqAt.bool_int a b t
    | str b=>obtain ⟨t,rfl⟩:=rx; exact SeqAt.EqAt.bool_str a b t
    | _=>exact absurd (show false=true from fx) Bool.false_ne_true
  | int a =>
    obtain ⟨t',rfl⟩:=ry
    cases x with
    | non=>cases rx; exact SeqAt.EqAt.int_none a t'
    | bl b=>cases rx; exact SeqAt.EqAt.int_bool a t' b
    | int b=>obtain ⟨t,rfl⟩:=rx; exact SeqAt.EqAt.int_int a t' b t
    | str b=>obtain ⟨t,rfl⟩:=rx; exact SeqAt.EqAt.int_str a t' b t
    | _=>exact absurd (show false=true from fx) Bool.false_ne_true
  | str a =>
    obtain ⟨t',rfl⟩:=ry
    cases x with
    | non=>cases rx; exact SeqAt.EqAt.str_none a t'
    | bl b=>cases rx; exact SeqAt.EqAt.str_bool a t' b
    | int b=>obtain ⟨t,rfl⟩:=rx; exact SeqAt.EqAt.str_int a t' b t
    | str b=>obtain ⟨t,rfl⟩:=rx; exact SeqAt.EqAt.str_str a t' b t
    | _=>exact absurd (show false=true from fx) Bool.false_ne_true
  | _=>exact absurd (show false=true from fy) Bool.false_ne_true
def eqU (x:V) (u:Value):Bool:=match u with
  | .none=>eqV .non x
  | .bool b=>eqV (.bl b) x
  | .int i _=>eqV (.int i) x
  | .str z _=>eqV (.str z) x
  | _=>false
theorem eqU_of {x y:V} {u:Value} (r:RelV y u) (f:flatV y=true):eqU x u=eqV y x:=by
  cases y with
  | non=>cases r; rfl
  | bl b=>cases r; rfl
  | int i=>obtain ⟨t,rfl⟩:=r; rfl
  | str z=>obtain ⟨t,rfl⟩:=r; rfl
  | _=>exact absurd (show false=true from f) Bool.false_ne_true
theorem any_eqU {x:V}:∀ {xs:List V} {us:List Value},Vals xs us->xs.all flatV=true->us.any (eqU x)=xs.any fun y=>eqV y x
  | _,_,.nil,_=>rfl
  | y::xs,u::us,.cons r t,f=>by
    rw [List.all_cons,Bool.and_eq_true] at f
    rw [List.any_cons,List.any_cons,eqU_of r f.1,any_eqU t f.2]
theorem mem_eqAt {A:Around} {s:Shared} {x:V} {v:Value} (rx:RelV x v) (fx:flatV x=true):∀ {xs:List V} {us:List Value},Vals xs us->xs.all flatV=true->∀ u∈us,SeqAt.EqAt A s u v (eqU x u)
  | _,_,.nil,_=>fun u hu=>by cases hu
  | y::xs,u::us,.cons r t,f=>fun u' hu=>by
    rw [List.all_cons,Bool.and_eq_true] at f
    rcases List.mem_cons.mp hu with rfl | hu
    . rw [eqU_of r f.1]; exact eqAt_V r rx f.1 fx
    . exact mem_eqAt rx fx t f.2 u' hu
def inV (x:V) (xs:List V):Bool:=xs.any fun y=>eqV y x
def rIn (K:PySem.W.Frag) (neg:Bool):R2:=fun x y H Q=>∃ p xs,y=.ref p∧(SqL K H p xs∨SqT K H p xs)∧flatV x=true∧xs.all flatV=true∧Q (.bl (if neg then !inV x xs else inV x xs)) H
theorem op_in_seq:OpR X (compareOp .In) (rIn X.K false):=by
  intro pins s σ H x y v u Q I rx ry h
  obtain ⟨p,xs,rfl,hq,fx,fs,q⟩:=h
  cases ry
  rcases hq with hq | hq
  . obtain ⟨its,r,pl,hz⟩:=I.list hq
    refine SeqAt.in_listAt (eqU x) pl.isList (fun w hw=>mem_eqAt rx fx r fs w (by simpa using hw)) ⟨.bl _,H,I,rfl,?_⟩
    rw [show its.toArray.any (eqU x)=its.any (eqU x) by simp,any_eqU r fs]
    exact q
  . obtain ⟨its,r,pl,hz⟩:=I.tuple hq
    refine SeqAt.in_tupleAt (eqU x) pl (fun w hw=>mem_eqAt rx fx r fs w (by simpa using hw)) ⟨.bl _,H,I,rfl,?_⟩
    rw [show its.toArray.any (eqU x)=its.any (eqU x) by simp,any_eqU r fs]
    exact q
theorem op_notIn_seq:OpR X (compareOp .NotIn) (rIn X.K true):=by
  intro pins s σ H x y v u Q I rx ry h
  obtain ⟨p,xs,rfl,hq,fx,fs,q⟩:=h
  cases ry
  rcases hq with hq | hq
  . obtain ⟨its,r,pl,hz⟩:=I.list hq
    refine SeqAt.notIn_listAt (eqU x) pl.isList (fun w hw=>mem_eqAt rx fx r fs w (by simpa using hw)) ⟨.bl _,H,I,rfl,?_⟩
    rw [show its.toArray.any (eqU x)=its.any (eqU x) by simp,any_eqU r fs]
    exact q
  . obtain ⟨its,r,pl,hz⟩:=I.tuple hq
    refine SeqAt.notIn_tupleAt (eqU x) pl (fun w hw=>mem_eqAt rx fx r fs w (by simpa using hw)) ⟨.bl _,H,I,rfl,?_⟩
    rw [show its.toArray.any (eqU x)=its.any (eqU x) by simp,any_eqU r fs]
    exact q
theorem call_len_seq:CallR X (.builtin "len") (fun xs H Q=>∃ p ys,xs=[.ref p]∧(SqL X.K H p ys∨SqT X.K H p ys)∧Q (.int ys.length) H):=by
  intro pins s σ H xs us Q I r h
  obtain ⟨p,ys,rfl,hq,q⟩:=h
  obtain ⟨u,rfl,rx⟩:=vals1 r
  cases rx
  have hn:=line63
  rcases hq with hq | hq
  . obtain ⟨its,r',pl,hz⟩:=I.list hq
    have hlen:=r'.length
    exact Calls.call_len_list pl.isList (by simp only [List.size_toArray] <;> omega) ⟨.int ys.length,H,I.tok _,⟨s.toks + 1,by rw [List.size_toArray,hlen]⟩,q⟩
  . obtain ⟨its,r',pl,hz⟩:=I.tuple hq
    have hlen:=r'.length
    exact len_tuple pl (by simp only [List.size_toArray] <;> omega) ⟨.int ys.length,H,I.tok _,⟨s.toks + 1,by rw [List.size_toArray,hlen]⟩,q⟩
theorem call_len_str:CallR X (.builtin "len") (fun xs H Q=>∃ z,xs=[.str z]∧z.length≤sizeLine∧Q (.int z.length) H):=by
  intro pins s σ H xs us Q I r h
  obtain ⟨z,rfl,hz,q⟩:=h
  obtain ⟨u,rfl,t,rfl⟩:=vals1 r
  have hn:=line63
  exact len_str (by omega) ⟨.int z.length,H,I.tok _,⟨_,rfl⟩,q⟩
theorem CallR.or {f:Value} {r r':List V->Hp->VK->Prop} (h:CallR X f r) (h':CallR X f r'):CallR X f (fun xs H Q=>r xs H Q∨r' xs H Q):=by
  intro pins s σ H xs us Q I rs q
  rcases q with q | q
  . exact h pins s σ H xs us Q I rs q
  . exact h' pins s σ H xs us Q I rs q
theorem call_list_of:CallR X (.type "list") (fun xs H Q=>∃ p ys,xs=[.ref p]∧(SqL X.K H p ys∨SqT X.K H p ys)∧∀ l,H l=none->Q (.ref l) (upd H l (.lst ys))):=by
  intro pins s σ H xs us Q I r h
  obtain ⟨p,ys,rfl,hq,q⟩:=h
  obtain ⟨u,rfl,rx⟩:=vals1 r
  cases rx
  have fin:∀ (its:List Value),Vals ys its->ys.length≤sizeLine->∀ (h':Heap) (c':Nat),(∀ b o',s.heap.get? b=some o'->h'.get? b=some o') ->
      h'.get? s.heap.objs.size=some { cls:=.type "list",dict:=none,data:=.seq its.toArray c',slots:=#[] }->EP X pins σ Q (.ref s.heap.objs.size) { s with heap:=h' }:=fun its r' hz h' c' kp e =>
    ⟨.ref s.heap.objs.size,_,I.laid (t':=s.toks) kp (Nat.le_refl _) (show ObjOk X.prog X.w _ h' _ (.lst ys) from ⟨hz,its,c',r',e⟩),rfl,q _ (I.hok.fresh (Nat.le_refl _))⟩
  rcases hq with hq | hq
  . obtain ⟨its,r',pl,hz⟩:=I.list hq
    have hlen:=r'.length
    obtain ⟨o,ho,hc,n,hd⟩:=pl.isList
    exact call_list_seq p (.inl rfl) ho hc hd (fun h' c' kp e=>fin its r' hz h' c' kp e) (by simp only [List.size_toArray] <;> omega)
  . obtain ⟨its,r',pl,hz⟩:=I.tuple hq
    have hlen:=r'.length
    obtain ⟨o,ho,hc,n,hd⟩:=pl
    exact call_list_seq p (.inr rfl) ho hc hd (fun h' c' kp e=>fin its r' hz h' c' kp e) (by simp only [List.size_toArray] <;> omega)
theorem call_tuple_of:CallR X (.type "tuple") (fun xs H Q=>∃ p ys,xs=[.ref p]∧((SqL X.K H p ys∧∀ l,H l=none->Q (.ref l) (upd H l (.tup ys)))∨(SqT X.K H p ys∧Q (.ref p) H))):=by
  intro pins s σ H xs us Q I r h
  obtain ⟨p,ys,rfl,h⟩:=h
  obtain ⟨u,rfl,rx⟩:=vals1 r
  cases rx
  rcases h with ⟨hq,q⟩ | ⟨hq,q⟩
  . obtain ⟨its,r',pl,hz⟩:=I.list hq
    have hlen:=r'.length
    refine call_tuple_list pl.isList (fun h' kp=>?_) (by simp only [List.size_toArray] <;> omega)
    have I1:Inv X pins σ H { s with heap:=h' }:=I.kept (t':=s.toks) kp
    have I2:Inv X pins σ (upd H h'.objs.size (.tup ys)) { s with heap:=h'.push { cls:=.type "tuple",data:=.seq its.toArray } } :=
      I1.laid (t':=s.toks) (fun b o e=>Heap.get?_push_of_some _ e) (Nat.le_refl _) (show ObjOk X.prog X.w _ _ _ (.tup ys) from ⟨hz,its,r',IsTup.new _ _,_,Heap.get?_push_size _ rfl,rfl⟩)
    exact ⟨.ref h'.objs.size,_,I2,rfl,q _ (I1.hok.fresh (Nat.le_refl _))⟩
  . obtain ⟨its,r',pl,hz⟩:=I.tuple hq
    exact call_tuple_same pl ⟨.ref p,H,I,rfl,q⟩
def tyV (K:PySem.W.Frag) (T:String) (x:V) (H:Hp):Prop:=match x with
  | .str _=>T = "str"
  | .int _=>T = "int"
  | .ref p=>(T = "list"∧∃ xs,SqL K H p xs)∨(T = "tuple"∧∃ o,K.lookup p=some o∧o.cls=.type "tuple"∧o.dict=none) ∨
      (T = "dict"∧((∃ kvs,H p=some (.dK kvs))∨∃ kvs,H p=some (.dT kvs)))∨(T = "set"∧∃ S n,H p=some (.set S n))
  | _=>False
theorem tyV_is {pins:List (Addr × Obj)} {σ:St} {H:Hp} {s:Shared} {T:String} {x:V} {v:Value} (I:Inv X pins σ H s) (r:RelV x v) (ty:tyV X.K T x H) :
    s.TypeIs v T∧∀ a,v=.ref a->∃ ob,s.heap.get? a=some ob∧ob.dict=none:=by
  cases x with
  | str z =>
    obtain ⟨t,rfl⟩:=r
    cases (show T = "str" from ty)
    exact ⟨typeIs_str s z t,fun _ e=>nomatch e⟩
  | int i =>
    obtain ⟨t,rfl⟩:=r
    cases (show T = "int" from ty)
    exact ⟨typeIs_int s i t,fun _ e=>nomatch e⟩
  | ref p =>
    cases r
    rcases ty with ⟨rfl,xs,hq⟩ | ⟨rfl,o,hk,hc,hd⟩ | ⟨rfl,hk⟩ | ⟨rfl,S,n,hk⟩
    . obtain ⟨its,_,pl,_⟩:=I.list hq
      refine ⟨pl.isList.typeIs,fun a e=>?_⟩
      cases e
      obtain ⟨o,n,e,c,hd,_⟩:=pl
      exact ⟨o,e,hd⟩
    . refine ⟨⟨o,I.kIn p o hk,hc⟩,fun a e=>?_⟩
      cases e
      exact ⟨o,I.kIn _ o hk,hd⟩
    . have z:∃ o,s.heap.get? p=some o∧o.ExactDict:=by
        rcases hk with ⟨kvs,hk⟩ | ⟨kvs,hk⟩
        . obtain ⟨_,_,_,_,o,_,_,e,ex,_⟩:=I.hok p _ hk
          exact ⟨o,e,ex⟩
        . obtain ⟨_,_,_,_,o,_,_,e,ex,_⟩:=I.hok p _ hk
          exact ⟨o,e,ex⟩
      obtain ⟨o,e,ex⟩:=z
      refine ⟨⟨o,e,ex.1⟩,fun a e2=>?_⟩
      cases e2
      exact ⟨o,e,ex.2.1⟩
    . obtain ⟨o,_,_,_,e,ex,_⟩:=I.hok p _ hk
      refine ⟨⟨o,e,ex.1⟩,fun a e2=>?_⟩
      cases e2
      exact ⟨o,e,ex.2.1⟩
  | _=>exact False.elim ty
def tBM0 (K:PySem.W.Frag) (T:String) (r:V->List V->Hp->VK->Prop) (to:TE):TE:=fun σ H Q=>to σ H fun x H1=>tyV K T x H1∧r x [] H1 Q
def tBM (K:PySem.W.Frag) (T:String) (r:V->List V->Hp->VK->Prop) (to:TE) (t:TA):TE:=fun σ H Q=>to σ H fun x H1=>tyV K T x H1∧t σ H1 fun xs H2=>r x xs H2 Q
variable {o e:Expr} {es:List Expr} {to:TE} {t:TA} {name:Str} {apos cpos:Pos} {T id:String} {r:V->List V->Hp->VK->Prop}
theorem pe_bm0 (pa:PlainAttrs T) (slot:Slot T name id) (hty:typeOf (.builtin id)=pure (.type "method_descriptor")) (hm:MtR X id r) (ho:PE X o to)
    (hbase:attributeBase o name X.env (eval o X.env)=eval o X.env:=by rfl) (hline:(apos.endLine == cpos.line)=true:=by rfl):PE X (.Call (.Attribute o name apos) [] [] cpos) (tBM0 X.K T r to):=by
  intro pins s σ H Q I h
  refine wpAny_Call_method0_late hbase hline (thn (ho pins s σ H _ I h) fun v s1 ⟨x,H1,I1,r1,ty,q1⟩=>?_)
  obtain ⟨h1,h2⟩:=tyV_is I1 r1 ty
  exact ⟨T,id,pa,slot,hty,h1,h2,Calls.callWith_builtin rfl (PySem.evalArgs_none (hm pins s1 σ H1 x [] v [] Q I1 r1 .nil q1))⟩
theorem pe_bm (pa:PlainAttrs T) (slot:Slot T name id) (hty:typeOf (.builtin id)=pure (.type "method_descriptor")) (hm:MtR X id r) (ho:PE X o to) (ha:PA X (e::es) t)
    (hbase:attributeBase o name X.env (eval o X.env)=eval o X.env:=by rfl)
    (hfew:((backTo cpos (starEach (e::es) X.env)).all (fun x=>!x.1) && (backToKw cpos (keywordEach [] X.env)).all (fun x=>x.1.isSome)
      && decide ((e::es).length + ([]:List Keyword).length + (if ([]:List Keyword).isEmpty then 0 else 1) < 30))=true:=by rfl)
    (hline:(apos.endLine == cpos.line)=true:=by rfl) (hs:starEach (e::es) X.env=(false,eval e X.env)::starEach es X.env:=by rfl) (hplain:(backTo cpos (starEach es X.env)).any (·.1)=false:=by rfl) :
    PE X (.Call (.Attribute o name apos) (e::es) [] cpos) (tBM X.K T r to t):=by
  intro pins s σ H Q I h
  refine wpAny_Call_method_late hbase hfew hline rfl (thn (ho pins s σ H _ I h) fun v s1 ⟨x,H1,I1,r1,ty,q1⟩=>?_)
  obtain ⟨h1,h2⟩:=tyV_is I1 r1 ty
  refine ⟨T,id,pa,slot,hty,h1,h2,?_⟩
  have hA:=ha cpos pins s1 σ H1 _ I1 q1
  rw [hs] at hA ⊢
  refine Calls.callWith_builtin (by show (false || (backTo cpos (starEach es X.env)).any (·.1))=false; rw [hplain] <;> rfl) (Calls.evalArgs_plain ?_)
  exact thn hA fun us s2 ⟨vs,H2,I2,r2,q2⟩=>hm pins s2 σ H2 x vs v us Q I2 r1 r2 q2
end
end L2
namespace L2
open PySem PySem.Spec PyProof.Rows
def MtM (X:Cx) (id:String) (r:V->List V->Hp->VK->Prop):Prop :=
  ∀ (pins:List (Addr × Obj)) (s:Shared) (σ:St) (H:Hp) (x:V) (xs:List V) (v:Value) (us:List Value) (Q:VK),Inv X pins σ H s->RelV x v->Vals xs us->r x xs H Q ->
    wpAny (model X.prog X.w) X.A (call (.builtin id) (v::us)) (EP X pins σ Q) X.xe s
theorem Vals.one:∀ {x:V} {us:List Value},Vals [x] us->∃ u,us=[u]∧RelV x u
  | _,_,.cons r .nil=>⟨_,rfl,r⟩
theorem Vals.two:∀ {x y:V} {us:List Value},Vals [x,y] us->∃ u v,us=[u,v]∧RelV x u∧RelV y v
  | _,_,_,.cons r (.cons q .nil)=>⟨_,_,rfl,r,q⟩
theorem Vals.zero:∀ {us:List Value},Vals [] us->us=[]
  | _,.nil=>rfl
theorem Vals.dropLast {xs:List V} {us:List Value} (h:Vals xs us):Vals xs.dropLast us.dropLast:=by
  induction h with
  | nil=>exact .nil
  | cons r t ih =>
    cases t with
    | nil=>exact .nil
    | cons q t'=>exact .cons r ih
theorem Vals.eraseIdx:∀ {xs:List V} {us:List Value} (i:Nat),Vals xs us->Vals (xs.eraseIdx i) (us.eraseIdx i)
  | _,_,_,.nil=>.nil
  | _,_,0,.cons _ t=>t
  | _,_,i + 1,.cons r t=>.cons r (Vals.eraseIdx i t)
theorem Vals.reverse {xs:List V} {us:List Value} (h:Vals xs us):Vals xs.reverse us.reverse:=by
  induction h with
  | nil=>exact .nil
  | cons r t ih=>rw [List.reverse_cons,List.reverse_cons]; exact Vals.append ih (.cons r .nil)
theorem Vals.rep {xs:List V} {us:List Value} (h:Vals xs us):∀ k:Nat,Vals (List.replicate k xs).flatten (List.replicate k us).flatten
  | 0=>.nil
  | k + 1=>by
    rw [List.replicate_succ,List.replicate_succ,List.flatten_cons,List.flatten_cons]
    exact Vals.append h (Vals.rep h k)
theorem len_erase {α:Type}:∀ (l:List α) (i:Nat),(l.eraseIdx i).length≤l.length
  | [],_=>Nat.le_refl _
  | _::_,0=>Nat.le_succ _
  | _::r,i + 1=>Nat.succ_le_succ (len_erase r i)
theorem foldl_rep (its:List Value):∀ (k:Nat) (acc:List Value),
    List.foldl (fun x1 x2=>x1++x2) acc.toArray (List.replicate k its.toArray)=(acc++(List.replicate k its).flatten).toArray
  | 0,acc=>by simp
  | k + 1,acc=>by
    have e:acc.toArray++its.toArray=(acc++its).toArray:=by simp
    have e2:(acc++its)++(List.replicate k its).flatten=acc++(List.replicate (k + 1) its).flatten:=by
      rw [List.replicate_succ,List.flatten_cons,List.append_assoc]
    rw [← e2,← foldl_rep its k (acc++its),← e,List.replicate_succ,List.foldl_cons]
section
variable {X:Cx} {pins:List (Addr × Obj)} {σ:St} {H:Hp} {s:Shared} {l b:Addr} {xs ys zs:List V}
theorem Inv.lset {its its':List Value} {n:Nat} {f:Array Value->Array Value} {t':Nat} (I:Inv X pins σ H s) (hH:H l=some (.lst xs))
    (e:s.heap.get? l=some { cls:=.type "list",data:=.seq its.toArray n }) (hf:f its.toArray=its'.toArray) (hv:Vals ys its') (hz:ys.length≤sizeLine) :
    Inv X pins σ (upd H l (.lst ys)) { s with heap:=s.heap.update l (Obj.mapSeq f),toks:=t' }:=by
  have q:=PySem.IsL.update e f
  rw [hf] at q
  refine I.write (x:=l) (e:=l) (by rw [hH]; exact trivial) (.inl rfl) (fun b' u hb hu=>(Heap.get?_update_other s.heap (Obj.mapSeq f) (Ne.symm hb)).trans hu) ⟨_,q⟩ ?_
  exact ⟨hz,its',_,hv,q⟩
theorem Inv.lnew {its:List Value} {t':Nat} (I:Inv X pins σ H s) (hv:Vals ys its) (hz:ys.length≤sizeLine) :
    Inv X pins σ (upd H s.heap.objs.size (.lst ys)) { s with heap:=s.heap.push { cls:=.type "list",data:=.seq its.toArray },toks:=t' } :=
  I.laid (fun _ _ q=>Heap.get?_push_of_some _ q) (Nat.le_refl _) ⟨hz,its,0,hv,Heap.get?_push_size _ rfl⟩
theorem Inv.fresh (I:Inv X pins σ H s):H s.heap.objs.size=none:=I.hok.fresh (Nat.le_refl _)
theorem Inv.lstM (I:Inv X pins σ H s) (hH:H l=some (.lst xs)):xs.length≤sizeLine∧∃ (its:List Value) (n:Nat),Vals xs its∧xs.length=its.length∧s.heap.get? l=some { cls:=.type "list",data:=.seq its.toArray n }:=by
  obtain ⟨z,its,n,r,e⟩:=I.hok l _ hH
  exact ⟨z,its,n,r,r.length,e⟩
theorem notLongL {n:Nat} (h:n≤sizeLine):Builtin.List.listTooLong n=false:=by
  unfold Builtin.List.listTooLong
  exact decide_eq_false (by omega)
end
section
variable {X:Cx}
def rAppend:V->List V->Hp->VK->Prop:=fun x vs H Q=>∃ l xs y,x=.ref l∧vs=[y]∧H l=some (.lst xs)∧xs.length < sizeLine∧Q .non (upd H l (.lst (xs++[y])))
theorem mt_append:MtM X "list.append" rAppend:=by
  intro pins s σ H x vs v us Q I rx rv h
  obtain ⟨l,xs,y,rfl,rfl,hH,hz,q⟩:=h
  cases rx
  obtain ⟨u,rfl,ru⟩:=rv.one
  obtain ⟨z,its,n,r,hl,e⟩:=I.lstM hH
  refine call_meets F.slot_list_append ⟨_,e,rfl⟩ F.entry_list_append (F.args_list_append_2 _ _) (PySem.list_append l its.toArray n u (by rw [List.size_toArray]; omega)) ⟨e,?_⟩
  refine ⟨.non,_,I.lset (its':=its++[u]) hH e (by simp) (r.append (.cons ru .nil)) ?_,rfl,q⟩
  rw [List.length_append,List.length_singleton]
  omega
def rPopAt:V->List V->Hp->VK->Prop:=fun x vs H Q=>∃ l xs i k y,x=.ref l∧vs=[.int i]∧H l=some (.lst xs)∧-(2 ^ 63)≤i∧i < 2 ^ 63∧seqIndex? i xs.length=some k∧xs[k]?=some y∧Q y (upd H l (.lst (xs.eraseIdx k)))
theorem mt_popAt:MtM X "list.pop" rPopAt:=by
  intro pins s σ H x vs v us Q I rx rv h
  obtain ⟨l,xs,i,k,y,rfl,rfl,hH,h1,h2,hk,hy,q⟩:=h
  cases rx
  obtain ⟨u,rfl,ru⟩:=rv.one
  obtain ⟨t,rfl⟩:=ru
  obtain ⟨z,its,n,r,hl,e⟩:=I.lstM hH
  obtain ⟨w,hw,rw'⟩:=r.get hy
  refine call_meets F.slot_list_pop ⟨_,e,rfl⟩ F.entry_list_pop (F.args_list_pop_2 _ _)
    (MeetsSeq.list_pop_at l its.toArray n i t k w (fitsIndex_both h1 h2) (by rw [List.size_toArray,← hl]; exact hk) (by rw [← Array.getElem?_toList]; exact hw) (by rw [List.size_toArray]; omega)) ⟨e,?_⟩
  refine ⟨y,_,I.lset (its':=its.eraseIdx k) hH e ?_ (r.eraseIdx k) ?_,rw',q⟩
  . show its.toArray.eraseIdxIfInBounds k=(its.eraseIdx k).toArray
    rw [List.eraseIdxIfInBounds_toArray]
  . have:=len_erase xs k
    omega
def rReverse:V->List V->Hp->VK->Prop:=fun x vs H Q=>∃ l xs,x=.ref l∧vs=[]∧H l=some (.lst xs)∧Q .non (upd H l (.lst xs.reverse))
theorem mt_reverse:MtM X "list.reverse" rReverse:=by
  intro pins s σ H x vs v us Q I rx rv h
  obtain ⟨l,xs,rfl,rfl,hH,q⟩:=h
  cases rx
  have hus:=rv.zero
  subst hus
  obtain ⟨z,its,n,r,hl,e⟩:=I.lstM hH
  refine call_meets F.slot_list_reverse ⟨_,e,rfl⟩ F.entry_list_reverse (F.args_list_reverse_1 _) (AutoSeq1.list_reverse_list_0 l its.toArray n (by rw [List.size_toArray]; omega)) ⟨e,?_⟩
  refine ⟨.non,_,I.lset (its':=its.reverse) hH e (by simp) r.reverse ?_,rfl,q⟩
  rw [List.length_reverse]
  omega
def rRep:R2:=fun x y H Q=>∃ l k xs,x=.ref l∧y=.int k∧H l=some (.lst xs)∧-(2 ^ 63)≤k∧k < 2 ^ 63∧xs.length * k.toNat≤sizeLine ∧
  ∀ p,H p=none->Q (.ref p) (upd H p (.lst (List.replicate k.toNat xs).flatten))
theorem len_rep {α:Type} (xs:List α) (k:Nat):(List.replicate k xs).flatten.length=k * xs.length:=by
  induction k with
  | zero=>simp
  | succ k ih=>rw [List.replicate_succ,List.flatten_cons,List.length_append,ih,Nat.succ_mul,Nat.add_comm]
theorem op_rep:OpR X (binaryOp .Mult) rRep:=by
  intro pins s σ H x y v u Q I rx ry h
  obtain ⟨l,k,xs,rfl,rfl,hH,h1,h2,hz,q⟩:=h
  cases rx
  obtain ⟨t,rfl⟩:=ry
  obtain ⟨z,its,n,r,hl,e⟩:=I.lstM hH
  have hlen:its.toArray.size * k.toNat≤sizeLine:=by rw [List.size_toArray,← hl]; exact hz
  have hcap : ¬ its.toArray.size * k.toNat > (2 ^ 63 - 1) / 8:=by
    have:(sizeLine:Nat)≤(2 ^ 63 - 1) / 8:=by decide
    omega
  have hfit : ¬ (!Builtin.List.listFitsIndex k)=true:=by
    rw [fitsIndex_both h1 h2]
    exact Bool.false_ne_true
  have hlong : ¬ Builtin.List.listTooLong (its.toArray.size * k.toNat)=true:=by
    rw [notLongL hlen]
    exact Bool.false_ne_true
  have hnew:List.foldl (fun x1 x2=>x1++x2) #[] (List.replicate (if its.toArray.isEmpty=true then 0 else k.toNat) its.toArray)=(List.replicate k.toNat its).flatten.toArray:=by
    have f0:∀ m:Nat,List.foldl (fun x1 x2=>x1++x2) #[] (List.replicate m its.toArray)=(List.replicate m its).flatten.toArray:=fun m=>by
      have:=foldl_rep its m []
      rw [List.nil_append] at this
      exact this
    rw [f0]
    cases its with
    | nil=>simp
    | cons a r'=>rw [if_neg (by simp)]
  refine wpAny_binaryOp_repeat_ref (T:="list") (U:="int") (by decide) ⟨_,e,rfl⟩ (fun s'=>typeIs_int s' k t) noFill_list_mul F.fills_int_mul F.slot_int_rmul repeat_list F.slot_int_index.lookup
    (call_meets F.slot_int_rmul (typeIs_int s k t) F.entry_int_rmul (F.args_int_rmul_2 _ _) (int___rmul___int_list k t l its.toArray n)
      ⟨e,rfl,⟨_,e,rfl⟩,call_meets F.slot_list_mul ⟨_,e,rfl⟩ F.entry_list_mul (F.args_list_mul_2 _ _) (AutoListH.list___mul___list_int_3 l its.toArray n k t hfit hcap hlong) ⟨e,?_⟩⟩)
  rw [hnew]
  exact ⟨.ref _,_,I.lnew (t':=s.toks) (r.rep k.toNat) (by rw [len_rep,Nat.mul_comm]; exact hz),rfl,q _ I.fresh⟩
end
section
variable {prog:Program} {w:World} {A:Around} {E:Value->Shared->Prop} {s:Shared}
set_option maxRecDepth 100000 in
end
section
variable {X:Cx}
end
end L2
namespace Att
open PySem PySem.W PySem.Calls PyProof.Rows
theorem ints_of_wellAll {P:Params} {h:Heap}:∀ (ns:List Int) (vs:List Value),WellAll P h vs (ns.map WData.int)->IntsAre vs ns:=by
  intro ns
  induction ns with
  | nil =>
    intro vs w
    rw [List.map_nil] at w
    cases w
    exact .nil
  | cons n ns ih =>
    intro vs w
    rw [List.map_cons] at w
    cases w with
    | cons a b =>
      cases a
      exact .cons _ _ (ih _ b)
theorem script_of {l:OpenLaw} {n:Nat} (hn:l.most=some n) {P:Params} {h:Heap} {args:List WData} {vals:List Value}
    (hpre:l.row.toRowW.claim.pre args=true) (hwl:WellAll P h vals args) :
    ∃ a vs ns,vals=[Value.ref a]∧args=[WData.list (ns.map WData.int)]∧h.get? a=some { cls:=.type "list",data:=.seq vs.toArray }∧IntsAre vs ns∧ns.length≤n:=by
  have hsh:WShape.hasAll [] args [.list .int]=true:=(pre_splitW hpre).1
  have hc:l.pre.holds [] { args:=args }=true:=(pre_splitW hpre).2
  obtain ⟨d,r,rfl,h1,h2⟩:=hasAllW_cons hsh
  obtain rfl:=hasAllW_nil h2
  obtain ⟨xs,rfl,h3⟩:=hasW_list h1
  obtain ⟨ns,rfl⟩:=items_int h3
  have hlen:ns.length≤n:=by
    unfold OpenLaw.pre at hc
    have h4:(WTm.not (.lt (.lit (.int (n:Int))) (.len (.arg 0)))).holds [] { args:=[.list (ns.map .int)] }=true:=by
      have h4:=(holds_andW hc).1
      rw [hn] at h4
      exact h4
    have h5:=condW_of h4 (w_not (w_lt w_lit (w_len_list (w_arg rfl))))
    rw [List.length_map] at h5
    refine Nat.le_of_not_lt fun q=>?_
    have q':(n:Int) < ((ns.length:Nat):Int):=by omega
    first
      | (rw [decide_eq_true q'] at h5; exact absurd h5 (by decide))
      | (simp at h5; omega)
  cases hwl with
  | cons w1 w2 =>
    cases w2
    cases w1 with
    | list ho hall=>exact ⟨_,_,ns,rfl,rfl,ho,ints_of_wellAll ns _ hall,hlen⟩
theorem post_true (l:OpenLaw) (args:List WData):l.row.toRowW.claim.post args (.bool true) args=true :=
  postW_of (r:=l.row.toRowW) (X:=(true == true))
    (show WShape.has [] (.bool true) .bool=true by first | rfl | decide | simp [WShape.has,WShape.arms,WShape.armsAll])
    (show (WTm.eq .res (.lit (.bool true))).value [] { args:=args,res:=some (.bool true),after:=args }=some (.bool (true == true)) from w_eq_bool (w_res rfl) w_lit) rfl
section
variable {prog:Program} {w:World} {A:Around} {E:Value->Shared->Prop} {s:Shared} {K:Frag}
end
end Att
namespace L2
open PySem PySem.Spec PyProof.Rows
theorem vals_ints:∀ {vs:List Value} {ns:List Int},IntsAre vs ns->Vals (ns.map V.int) vs
  | _,_,.nil=>.nil
  | _,_,.cons n t h=>.cons ⟨t,rfl⟩ (vals_ints h)
def Only (H:Hp):Prop:=∀ b,H b=none∨∃ o xs,H b=some (.frz o (.lst xs))
theorem law_call {P:Program} {w:World} {K:PySem.W.Frag} {mg mb:Str->Option Value} {CX:CXT} {k:Nat} {fa a:Addr} {fd:FuncData} {x:Str} {sp:Sp} {s₁:Shared} {vs:List Value} {ns:List Int}
    (KX:K.In s₁.heap) (hns:s₁.heap.Ns mainGlobals mg) (hb:s₁.heap.Ns builtinsNs mb) (hbb:∀ x:Str,x≠"__name__"->mb x=bootBuiltins x) (hlim:s₁.heap.NoLimit) (hg:s₁.gens=#[])
    (ha:s₁.heap.get? a=some { cls:=.type "list",data:=.seq vs.toArray }) (hi:IntsAre vs ns) (hl:ns.length≤sizeLine) (hr:Room k callerA)
    (F:∀ base:Heap,K.In base->base.Ns mainGlobals mg->FnOk P w K mg base CX k fa fd [x] sp) (hbind:∀ (s:Shared) (u:Value),BindsTo s fd ⟨[u],[]⟩ [(x,u)])
    (hsp:∀ H:Hp,Only H->SqL K H a (ns.map V.int)->sp [.ref a] H (fun v _=>v=.bl true) fun _ _ _=>False)
    (hCX:∀ H e s',CX [] H s₁ (fun _ _ _=>False) e s'->False) :
    codeAny (model P w) callerA (.call (.ref fa) ⟨[.ref a],[]⟩) (fun r s'=>r=.ok (.ret (.bool true))∧OldK s₁.heap s'.heap∧s'.os=s₁.os∧AllBare s'.gens) s₁:=by
  have rv:=vals_ints hi
  have lenV:=hi.length
  have core:∀ H:Hp,Only H->SqL K H a (ns.map V.int)->HOk P w H s₁.heap->(∀ b,H b≠none->b=a)->(H a≠none->K.lookup a=none) ->
      codeAny (model P w) callerA (.call (.ref fa) ⟨[.ref a],[]⟩) (fun r s'=>r=.ok (.ret (.bool true))∧OldK s₁.heap s'.heap∧s'.os=s₁.os∧AllBare s'.gens) s₁:=by
    intro H hO hS hok hA hK
    have base_of:∀ {b:Addr} {o:Obj},s₁.heap.get? b=some o->H b=none->(hidT s₁.heap H).get? b=some o:=fun e n=>hidT_get e n
    have noA:∀ {b:Addr} {o:Obj} {es:Array DictEntry} {ep:Nat},s₁.heap.get? b=some o->o.data=.dict es ep->H b=none:=fun {b o es ep} e d=>by
      cases q:H b with
      | none=>rfl
      | some u =>
        have e':b=a:=hA b (by rw [q]; simp)
        subst e'
        rw [ha] at e; cases e
        have d':Data.seq vs.toArray _=Data.dict es ep:=d
        cases d'
    have nsK:∀ {b:Addr} {m:Str->Option Value},s₁.heap.Ns b m->(hidT s₁.heap H).Ns b m:=fun {b m} ⟨o,es,ep,e,d,r⟩=>⟨o,es,ep,base_of e (noA e d),d,r⟩
    have hKb:K.In (hidT s₁.heap H):=fun b o e=>base_of (KX b o e) (by
      cases q:H b with
      | none=>rfl
      | some u =>
        have e':b=a:=hA b (by rw [q]; simp)
        subst e'
        rw [hK (by rw [q]; simp)] at e; cases e)
    have hM:Mod K mg (hidT s₁.heap H):=⟨hKb,nsK hns,⟨mb,nsK hb,hbb⟩,let ⟨mc,h1,h2⟩:=hlim; ⟨mc,nsK h1,h2⟩⟩
    have e0:Env0 P w K mg (hidT s₁.heap H) callerA [] s₁ H:=⟨rfl,hM,fun b o e=>of_hidT e,Nat.le_of_eq (hidT_size _ _),trivial,fun b hb=>absurd (show b∈([]:List Addr) from hb) (by simp),hok,.of_eq hg⟩
    refine codeAny_mono ((F _ hKb (nsK hns)).run callerA [] s₁ H ⟨[.ref a],[]⟩ [.ref a] [.ref a] _ _ hr e0 (hbind s₁ (.ref a)) (.cons rfl .nil) (hsp H hO hS)) fun r s' h=>?_
    cases r with
    | error e=>exact (hCX H e s' h).elim
    | ok fl =>
      cases fl with
      | next=>exact False.elim h
      | brk=>exact False.elim h
      | cont=>exact False.elim h
      | ret u =>
        obtain ⟨v,H',os,bare,un,hok',r',q⟩:=h
        have q':v=.bl true:=q
        subst q'
        obtain rfl:u=Value.bool true:=r'
        refine ⟨rfl,OldK.of_keep fun b o e=>?_,os,bare⟩
        cases q:H b with
        | none=>exact un.keep b o e q (by intro z; exact absurd (show b∈([]:List Addr) from z) (by simp)) (by simp)
        | some u =>
          rcases hO b with z | ⟨ob,xs,z⟩
          . rw [q] at z; cases z
          . have z2:=un.frzs b ob _ z
            obtain ⟨e1,_⟩:=hok b _ z
            obtain ⟨e2,_⟩:=hok' b _ z2
            rw [e] at e1; cases e1
            exact e2
  cases hk:K.lookup a with
  | some o =>
    have e:=KX a o hk
    rw [ha] at e
    cases e
    refine core (fun _=>none) (fun _=>.inl rfl) (.inr ⟨_,vs.toArray,_,hk,rfl,rfl,rfl,by rw [List.size_toArray,lenV]; exact hl,by simpa using rv⟩) (fun b u z=>by have z':(none:Option HO)=some u:=z; cases z') (fun b z=>absurd rfl z) fun z=>absurd rfl z
  | none =>
    refine core (fun b=>if b=a then some (.frz { cls:=.type "list",data:=.seq vs.toArray } (.lst (ns.map V.int))) else none) (fun b=>?_) (.inl (.inr ⟨{ cls:=.type "list",data:=.seq vs.toArray },if_pos rfl⟩)) (fun b u z=>?_) (fun b z=>?_) fun _=>hk
    . by_cases hb:b=a
      . exact .inr ⟨_,_,if_pos hb⟩
      . exact .inl (if_neg hb)
    . by_cases hb:b=a
      . have z':=(if_pos hb).symm.trans z
        cases z'
        subst hb
        exact ⟨ha,by rw [List.length_map]; exact hl,vs,_,rv,ha⟩
      . have z':=(if_neg hb).symm.trans z
        cases z'
    . by_cases hb:b=a
      . exact hb
      . exact absurd (if_neg hb) z
end L2
namespace L2
open PySem PySem.Spec PyProof.Rows
abbrev KOf {K:PySem.W.Frag} {h:Heap} (_:K.In h):PySem.W.Frag:=K
end L2
namespace L2
open PySem PySem.Spec PyProof.Rows
def defArgs (s:Stmt):Arguments:=match s with
  | .FunctionDef _ a _ _ _ _ _ _ _ _=>a
  | _=>{ posonlyargs:=[],args:=[],vararg:=none,kwonlyargs:=[],kw_defaults:=[],kwarg:=none,defaults:=[] }
def defBody (s:Stmt):List Stmt:=match s with
  | .FunctionDef _ _ b _ _ _ _ _ _ _=>b
  | _=>[]
def defScope (s:Stmt):Scope:=match s with
  | .FunctionDef _ _ _ _ _ _ sc _ _ _=>sc
  | _=>{ kind:=.function,names:=[],isGenerator:=false,isCoroutine:=false }
abbrev CX0:CXT:=fun _ _ _ _ _ _=>False
abbrev E0:XK:=fun _ _ _=>False
theorem pass0 {X:Cx}:Passes CX0 X E0:=fun _ _ _ _ _ _ _ h=>h.elim
structure Fun (K:PySem.W.Frag) (x qual:Str) (st:Stmt) (f:Addr) (fd:FuncData):Prop where
  ex:∃ (oc:Value) (od:Option Addr) (kV doc pm:Value) (an:Option Addr) (cdv ct:Value) (osl:Array (Option Value)),
    fd=PySem.W.fnOf x qual (defArgs st) (defBody st) (defScope st) .none kV doc pm an cdv ct∧K.lookup f=some ⟨oc,od,.func fd,osl⟩∧PySem.W.codeIn K cdv qual=true
  kp:PySem.W.keepIn K (.ref f)=true
section
variable {P:Program} {w:World} {K:PySem.W.Frag} {mg:Str->Option Value} {base:Heap}
theorem Fun.ok {x qual:Str} {st:Stmt} {f:Addr} {fd:FuncData} {N ps:List Str} {k:Nat} {sp:Sp} (F:Fun K x qual st f fd) (S:FnScope N ps (defScope st)) (len:∀ vs H Q E,sp vs H Q E->vs.length=ps.length)
    (hbody:∀ (cdv:Value) (A:Around) (outer:List Env) (s:Shared) (H:Hp) (vs:List V) (Q:VK) (E:XK),Room k (A.deeper (envOfC qual (defScope st) s.heap.objs.size f cdv))->sp vs H Q E ->
      ∃ t,PSs (cxOf CX0 P w K mg base N qual (defScope st) f cdv A outer s H E).nox (defBody st) t∧t { nx:=fun _ H'=>Q .non H',rt:=Q } (start N vs) H):FnOk P w K mg base CX0 (k + 1) f fd ps sp:=by
  obtain ⟨oc,od,kV,doc,pm,an,cdv,ct,osl,rfl,lk,hcd⟩:=F.ex
  refine fn_of lk hcd S len fun A outer s H vs Q E hr hsp=>?_
  obtain ⟨t,h,q⟩:=hbody cdv A outer s H vs Q E hr hsp
  exact ⟨t,h.nox,q⟩
theorem Fun.binds {x qual:Str} {st:Stmt} {f:Addr} {fd:FuncData} {ps:List Str} (F:Fun K x qual st f fd)
    (h:∀ (kV doc pm:Value) (an:Option Addr) (cdv ct:Value) (us:List Value),us.length=ps.length->bindArgs (PySem.W.fnOf x qual (defArgs st) (defBody st) (defScope st) .none kV doc pm an cdv ct) ⟨us,[]⟩=pure (ps.zip us)):Binds K fd ps []:=by
  obtain ⟨oc,od,kV,doc,pm,an,cdv,ct,osl,rfl,lk,hcd⟩:=F.ex
  exact .all (h kV doc pm an cdv ct)
theorem fun_mk {x qual:Str} {st:Stmt} {f:Addr} {oc:Value} {od an:Option Addr} {osl:Array (Option Value)} {kV doc pm cdv ct:Value} (l:K.lookup f=some ⟨oc,od,.func (PySem.W.fnOf x qual (defArgs st) (defBody st) (defScope st) .none kV doc pm an cdv ct),osl⟩)
    (c:PySem.W.codeIn K cdv qual=true) (k:PySem.W.keepIn K (.ref f)=true):Fun K x qual st f (PySem.W.fnOf x qual (defArgs st) (defBody st) (defScope st) .none kV doc pm an cdv ct):=⟨⟨oc,od,kV,doc,pm,an,cdv,ct,osl,rfl,l,c⟩,k⟩
end
section
variable {X:Cx}
theorem pv (i:Nat) {x:Str} {pos:Pos} (hN:X.N[i]?=some x:=by rfl) (hv:Vis X.env.scope x:=by first | exact Or.inl rfl | exact Or.inr (Or.inl rfl) | exact Or.inr (Or.inr rfl)) (hd:(x == ("__debug__":Str))=false:=by decide)
    (hcd:(x == ("__classdict__":Str))=false:=by decide):PE X (.Name x pos) (tVar i):=pe_var hN hv hd hcd
end
def Same (H H':Hp):Prop:=∀ b o,H b=some o->H' b=some o
theorem Same.refl (H:Hp):Same H H:=fun _ _ h=>h
theorem Same.trans {H H1 H2:Hp} (a:Same H H1) (b:Same H1 H2):Same H H2:=fun c o h=>b c o (a c o h)
theorem Same.free {H H':Hp} (e:Same H H') {l:Addr} (h:H' l=Option.none):H l=Option.none:=by
  cases q:H l with
  | none=>rfl
  | some o =>
    rw [e l o q] at h
    cases h
theorem Same.seq {K:PySem.W.Frag} {H H':Hp} {a:Addr} {xs:List V} (e:Same H H') (h:SqL K H a xs):SqL K H' a xs:=by
  rcases h with (h | ⟨o,h⟩) | h
  . exact .inl (.inl (e _ _ h))
  . exact .inl (.inr ⟨o,e _ _ h⟩)
  . exact .inr h
end L2
set_option Elab.async false
set_option linter.all false
set_option maxRecDepth 100000
namespace L2
open PySem PySem.Spec PyProof.Rows
theorem Inv.track {X:Cx} {pins:List (Addr × Obj)} {σ:St} {H:Hp} {s:Shared} {D:Addr} {o:HO} (I:Inv X pins σ H s) (hn:H D=none) (hD:X.s₀.heap.objs.size≤D) (hL:D≠X.env.locals)
    (hc:∀ x c,X.env.cells.lookup x=some c->c≠D) (hp:∀ p∈X.pn++pins,p.1≠D) (new:ObjOk X.prog X.w (upd H D o) s.heap D o):Inv X pins σ (upd H D o) s:=by
  have ne:∀ b u,H b=some u->b≠D:=fun b u e=>ne_of_none e hn
  refine ⟨I.ok,I.os,I.bare,⟨I.base.keep,I.base.slot,fun b ob e n hx=>?_,I.base.there,fun b xs e=>?_,fun b ob u e=>?_,fun b ps e=>?_⟩,I.loc,I.cell,?_,fun x c e=>?_,fun p q=>?_,fun b u e=>?_,I.len⟩
  . have:b≠D:=Nat.ne_of_lt (Nat.lt_of_lt_of_le (Heap.lt_size e) hD)
    rw [upd_ne this]; exact I.base.free b ob e n hx
  . have z:=I.base.tups b xs e
    rw [upd_ne (ne _ _ z)]; exact z
  . have z:=I.base.frzs b ob u e
    rw [upd_ne (ne _ _ z)]; exact z
  . obtain ⟨more,z⟩:=I.base.tbls b ps e
    exact ⟨more,by rw [upd_ne (ne _ _ z)]; exact z⟩
  . rw [upd_ne (Ne.symm hL)]; exact I.free
  . rw [upd_ne (hc x c e)]; exact I.freeC x c e
  . obtain ⟨h1,h2,h3⟩:=I.pin p q
    exact ⟨h1,by rw [upd_ne (hp p q)]; exact h2,h3⟩
  . by_cases hb:b=D
    . subst hb; rw [upd_same] at e; cases e; exact new
    . rw [upd_ne hb] at e
      exact (I.hok b u e).stay (fun _ _ _ q=>q) (fun c q=>by rw [upd_ne (ne _ _ q)]; exact q) fun c xs q=>by rw [upd_ne (ne _ _ q)]; exact q
def cloOf (cells:List (Str × Addr)):List (Str × NameKind)->List (Str × Addr)->List (Str × Addr)
  | [],acc=>acc
  | (n,k)::r,acc=>cloOf cells r (if (k == NameKind.free)=true then (n,(cells.lookup n).getD 0)::acc else acc)
theorem clo_run {env:Env}:∀ (names:List (Str × NameKind)) (acc:List (Str × Addr)),(∀ y∈names,y.2=.free->∃ c,env.cells.lookup y.1=some c) ->
    (forIn names acc fun (x:Str × NameKind) (r:List (Str × Addr))=>(if (x.2 == NameKind.free)=true then do
        let c ← cellOf env x.1
        pure (ForInStep.yield ((x.1,c)::r)) else pure (ForInStep.yield r):Sem (ForInStep (List (Str × Addr)))))=pure (cloOf env.cells names acc)
  | [],acc,_=>rfl
  | (n,k)::r,acc,h=>by
    have ih:=fun acc'=>clo_run (env:=env) r acc' fun y hy=>h y (List.mem_cons_of_mem _ hy)
    rw [List.forIn_cons]
    by_cases hk:k=.free
    . subst hk
      obtain ⟨c,hc⟩:=h (n,.free) List.mem_cons_self rfl
      have hc':env.cells.lookup n=some c:=hc
      have e:cellOf env n=pure c:=by
        unfold cellOf
        rw [hc']
      show (if (NameKind.free == NameKind.free)=true then _ else _) >>= _=_
      rw [if_pos (by decide),e]
      simp only [pure_bind]
      rw [ih]
      simp only [cloOf,hc',Option.getD_some]
      rfl
    . have hb:(k == NameKind.free)=false:=by simpa using hk
      show (if (k == NameKind.free)=true then _ else _) >>= _=_
      rw [hb,if_neg Bool.false_ne_true]
      simp only [pure_bind]
      rw [ih]
      simp only [cloOf,hb,Bool.false_eq_true,if_false]
theorem clo_eq {scope:Scope} {env:Env} (h:∀ y∈scope.names,y.2=.free->∃ c,env.cells.lookup y.1=some c):closureFor scope env=pure (cloOf env.cells scope.names []):=by
  unfold closureFor
  have e:=clo_run (env:=env) scope.names [] h
  simp only [bind_pure]
  exact e
theorem clo_sub {cells:List (Str × Addr)}:∀ (names:List (Str × NameKind)) (acc:List (Str × Addr)),(∀ y∈names,y.2=.free->∃ c,cells.lookup y.1=some c)->(∀ y c,acc.lookup y=some c->cells.lookup y=some c) ->
    ∀ y c,(cloOf cells names acc).lookup y=some c->cells.lookup y=some c
  | [],_,_,ha=>ha
  | (n,k)::r,acc,h,ha=>by
    refine clo_sub r _ (fun y hy=>h y (List.mem_cons_of_mem _ hy)) fun y c e=>?_
    by_cases hk:(k == NameKind.free)=true
    . rw [if_pos hk] at e
      obtain ⟨c',hc⟩:=h (n,k) List.mem_cons_self (by simpa using hk)
      have hc':cells.lookup n=some c':=hc
      rw [hc',Option.getD_some] at e
      rw [List.lookup_cons] at e
      by_cases hy:(y == n)=true
      . rw [hy] at e
        have:y=n:=by simpa using hy
        subst this
        rw [hc']; exact e
      . have hy':(y == n)=false:=by simpa using hy
        rw [hy'] at e
        exact ha y c e
    . rw [if_neg hk] at e
      exact ha y c e
theorem clo_has {cells:List (Str × Addr)}:∀ (names:List (Str × NameKind)) (acc:List (Str × Addr)) (y:Str),((y,NameKind.free)∈names∨∃ c,acc.lookup y=some c)->∃ c,(cloOf cells names acc).lookup y=some c
  | [],acc,y,h=>by
    rcases h with h | h
    . cases h
    . exact h
  | (n,k)::r,acc,y,h=>by
    refine clo_has r _ y ?_
    rcases h with h | ⟨c,h⟩
    . rcases List.mem_cons.mp h with e | h
      . cases e
        refine .inr ⟨(cells.lookup n).getD 0,?_⟩
        rw [if_pos (by decide),List.lookup_cons]
        simp
      . exact .inl h
    . refine .inr ?_
      split
      . rw [List.lookup_cons]
        cases y == n with
        | true=>exact ⟨_,rfl⟩
        | false=>exact ⟨c,h⟩
      . exact ⟨c,h⟩
theorem relabel_lookup (env : Env) : ∀ (names : List (Str × NameKind)) (y : Str),
    (names.map fun (n,k)=>if (k == NameKind.free && env.scope.kind == .function && env.kindOf n == some .cell) then (n,NameKind.cell) else (n,k)).lookup y
      = (names.lookup y).map fun k=>if (k == NameKind.free && env.scope.kind == .function && env.kindOf y == some .cell)=true then NameKind.cell else k
  | [],_=>rfl
  | (n,k)::r,y=>by
    have ih := relabel_lookup env r y
    show List.lookup y ((if (k == NameKind.free && env.scope.kind == .function && env.kindOf n == some .cell)=true then (n,NameKind.cell) else (n,k))::_)=_
    by_cases hy:(y == n)=true
    . have:y=n:=by simpa using hy
      subst this
      by_cases hc:(k == NameKind.free && env.scope.kind == .function && env.kindOf y == some .cell)=true
      . rw [if_pos hc]; simp only [List.lookup_cons,hy,Option.map_some,hc,if_true]
      . rw [if_neg hc]; simp only [List.lookup_cons,hy,Option.map_some,hc]; simp
    . have hy':(y == n)=false:=by simpa using hy
      by_cases hc:(k == NameKind.free && env.scope.kind == .function && env.kindOf n == some .cell)=true
      . rw [if_pos hc]; simp only [List.lookup_cons,hy']; exact ih
      . rw [if_neg hc]; simp only [List.lookup_cons,hy']; exact ih
def cxComp (X:Cx) (scope:Scope) (N':List Str) (s₂:Shared) (H₂:Hp) (C:Addr) (fp:List Addr):Cx :=
  { X with N:=N',s₀:=s₂,H₀:=H₂,env:=compEnvC scope (cloOf X.env.cells scope.names []) C X.env,outer:=X.stack,ex:=fp,fn:=fun _=>false,pn:=[],xe:=fun _ _=>False }
def compNs (x:Str) (fr:List (Str × Nat)):List Str:=x::fr.map (·.1)
def compRest (σ:St) (fr:List (Str × Nat)):St:=fr.map fun p=>σ.getD p.2 none
structure Blk (X:Cx) (scope:Scope) (x:Str) (fr:List (Str × Nat)):Prop where
  nocell:(scope.names.all fun y=>y.2 != .cell)=true
  kind:scope.kind=.function
  names:(scope.names.all fun y=>y.2 != .local || scope.names.lookup y.1 == some .local)=true
  here:scope.names.lookup x=some .local
  free:(scope.names.all fun y=>y.2 != .free || X.env.scope.names.lookup y.1 == some .cell)=true
  seen:(fr.all fun p=>scope.names.lookup p.1 == some .free && X.N[p.2]? == some p.1)=true
  nd:(compNs x fr).Nodup
section
variable {X:Cx} {scope:Scope} {x:Str} {fr:List (Str × Nat)} {pins:List (Addr × Obj)} {σ:St} {H:Hp} {s:Shared}
theorem Blk.cell (B:Blk X scope x fr):∀ y∈scope.names,y.2≠.cell:=fun y hy=>by
  have:=List.all_eq_true.mp B.nocell y hy
  simpa using this
theorem Blk.loc (B:Blk X scope x fr):∀ y∈scope.names,y.2=.local->scope.names.lookup y.1=some .local:=fun y hy e=>by
  have:=List.all_eq_true.mp B.names y hy
  rw [e] at this
  simpa using this
theorem Blk.frees (B:Blk X scope x fr):∀ y∈scope.names,y.2=.free->X.env.kindOf y.1=some .cell:=fun y hy e=>by
  have:=List.all_eq_true.mp B.free y hy
  rw [e] at this
  have h:X.env.scope.names.lookup y.1=some .cell:=by simpa using this
  exact h
theorem Blk.clos (B:Blk X scope x fr) (ok:X.Ok):∀ y∈scope.names,y.2=.free->∃ c,X.env.cells.lookup y.1=some c:=fun y hy e=>ok.has y.1 (.inl (B.frees y hy e))
theorem Blk.sub (B:Blk X scope x fr) (ok:X.Ok):∀ y c,(cloOf X.env.cells scope.names []).lookup y=some c->X.env.cells.lookup y=some c :=
  clo_sub scope.names [] (B.clos ok) fun y c e=>by simp at e
theorem Blk.kinds (B : Blk X scope x fr) {y : Str} (h : (relabel scope X.env).names.lookup y = some .cell ∨ (relabel scope X.env).names.lookup y = some .free) : (y, NameKind.free) ∈ scope.names := by
  have e : (relabel scope X.env).names.lookup y = _ := relabel_lookup X.env scope.names y
  rw [e] at h
  cases q:scope.names.lookup y with
  | none=>rw [q] at h; simp at h
  | some k =>
    have hm:=PySem.mem_of_lookup q
    rw [q] at h
    have hk:k=.free:=by
      by_cases hk:k=.free
      . exact hk
      . have hb:(k == NameKind.free)=false:=by simpa using hk
        have hc:k≠.cell:=B.cell _ hm
        rw [Option.map_some,hb,Bool.false_and,Bool.false_and,if_neg Bool.false_ne_true] at h
        rcases h with h | h
        . exact absurd (Option.some.inj h) hc
        . exact Option.some.inj h
    subst hk
    exact hm
theorem Blk.sees (B : Blk X scope x fr) (hk : X.env.scope.kind = .function) {y : Str} (h : scope.names.lookup y = some .free) : (relabel scope X.env).names.lookup y = some .cell := by
  have e : (relabel scope X.env).names.lookup y = _ := relabel_lookup X.env scope.names y
  rw [e,h]
  have h2:X.env.kindOf y=some .cell:=B.frees _ (PySem.mem_of_lookup h) rfl
  simp [hk,h2]
theorem inv_comp (I:Inv X pins σ H s) (B:Blk X scope x fr) {C:Addr} {fp:List Addr} {h₁:Heap} {tk:Nat} {o:Option V} (hC:s.heap.objs.size≤C) (hfp:∀ b∈fp,FpOk X pins H b) (hlt:∀ b∈fp,b < s.heap.objs.size)
    (old:∀ b ob,s.heap.get? b=some ob->h₁.get? b=some ob) (hns:h₁.Ns C fun _=>none):Inv (cxComp X scope (compNs x fr) s H C fp) [] (none::compRest σ fr) H { s with heap:=h₁,toks:=tk }:=by
  have neC:∀ b,b < s.heap.objs.size->b≠C:=fun b hb=>Nat.ne_of_lt (Nat.lt_of_lt_of_le hb hC)
  have cl:∀ y c,X.env.cells.lookup y=some c->c < s.heap.objs.size:=fun y c e=>by
    obtain ⟨v,o,ho,_⟩:=I.cell y c e
    exact Heap.lt_size ho
  refine ⟨⟨I.ok.mod,B.kind,I.ok.glob,I.ok.blt,hC,fun y z c h1 h2=>I.ok.inj y z c (B.sub I.ok _ _ h1) (B.sub I.ok _ _ h2),fun y hy=>clo_has _ _ _ (.inl (B.kinds hy)),fun y c h _=>(Bool.false_ne_true h).elim,I.ok.hd,I.ok.frames,.inl rfl,
    fun b hb=>⟨neC b (hlt b hb),fun y c e=>(hfp b hb).2.2.2.2.1 y c (B.sub I.ok _ _ e)⟩,I.bs,Nat.le_trans I.ok.bsz I.sz,fun b ob e hb=>?_,fun b hb hs=>?_,I.stack,I.stkFree⟩,
    rfl,I.bare,Un.kept old,⟨_,hns,fun i y v h1 h2 h3=>?_⟩,fun y c e=>?_,I.hok.fresh hC,fun y c e=>I.freeC y c (B.sub I.ok _ _ e),fun p hp=>?_,I.hok.kept old,?_⟩
  . rcases (hfp b hb).2.2.2.1 with z | z
    . exact I.ok.noex b ob e z
    . have h1:b < X.base.objs.size:=Heap.lt_size e
      have h2:=I.ok.bsz
      exact absurd (Nat.lt_of_lt_of_le h1 h2) (Nat.not_lt.mpr z)
  . have z:=I.stkSub b hs
    rcases List.mem_cons.mp z with z | z
    . exact (hfp b hb).2.1 z
    . exact (hfp b hb).2.2.1 z
  . cases i with
    | zero=>simp at h2
    | succ i =>
      have h1':(fr.map (·.1))[i]?=some y:=by
        have z:(x::fr.map (·.1))[i + 1]?=some y:=h1
        rw [List.getElem?_cons_succ] at z
        exact z
      have h2':(compRest σ fr)[i]?=some (some v):=by simpa using h2
      rw [List.getElem?_map] at h1'
      unfold compRest at h2'
      rw [List.getElem?_map] at h2'
      cases e:fr[i]? with
      | none=>rw [e] at h1'; cases h1'
      | some p =>
        rw [e] at h1' h2'
        have e1:p.1=y:=by simpa using h1'
        have e2 : σ.getD p.2 none=some v:=by simpa using h2'
        have hs:=List.all_eq_true.mp B.seen p (List.mem_of_getElem? e)
        rw [Bool.and_eq_true] at hs
        have hs1:scope.names.lookup p.1=some .free:=by simpa using hs.1
        have hs2:X.N[p.2]?=some p.1:=by simpa using hs.2
        rw [e1] at hs1 hs2
        have hk:X.env.kindOf y=some .cell:=B.frees _ (PySem.mem_of_lookup hs1) rfl
        have e3 : σ[p.2]?=some (some v):=by
          rw [List.getD_eq_getElem?_getD] at e2
          cases q : σ[p.2]? with
          | none=>rw [q] at e2; simp at e2
          | some z=>rw [q] at e2; simp at e2; rw [e2]
        obtain ⟨m,hn,hl⟩:=I.loc
        obtain ⟨u,r,l⟩:=hl p.2 y v hs2 e3 (.inr (.inl hk))
        refine ⟨u,r,.inr ⟨.inl (B.sees I.ok.kind hs1),?_⟩⟩
        rcases l with ⟨z,_⟩ | ⟨_,c,ec,z⟩
        . rw [hk] at z; cases z
        . obtain ⟨c',hc'⟩:=clo_has (cells:=X.env.cells) scope.names [] y (.inl (PySem.mem_of_lookup hs1))
          have:=B.sub I.ok _ _ hc'
          rw [ec] at this
          cases this
          obtain ⟨ob,ho,hd⟩:=z
          exact ⟨c,hc',ob,old _ _ ho,hd⟩
  . obtain ⟨v,ob,ho,hd⟩:=I.cell y c (B.sub I.ok _ _ e)
    exact ⟨v,ob,old _ _ ho,hd⟩
  . exact absurd (show p∈([]:List (Addr × Obj)) from hp) (by simp)
  . show _=(compNs x fr).length
    simp [compNs,compRest]
end
end L2
set_option Elab.async false
set_option linter.all false
set_option maxRecDepth 100000
namespace L2
open PySem PySem.Spec PyProof.Rows
def PIf (X:Cx) (ifs:List Expr) (t:TT):Prop :=
  ∀ (pins:List (Addr × Obj)) (s:Shared) (σ:St) (H:Hp) (Q:Bool->Hp->Prop),Inv X pins σ H s->t σ H Q ->
    wpAny (model X.prog X.w) X.A (forIn ifs true fun c r=>if r=true then do let ok ← isTrue c X.env (eval c X.env); pure (ForInStep.yield ok) else pure (ForInStep.yield r)) (TP X pins σ Q) X.xe s
def tYes:TT:=fun _ H Q=>Q true H
theorem pif_nil {X:Cx}:PIf X [] tYes:=fun _ _ _ H _ I h=>wpAny_tests_nil ⟨H,I,h⟩
theorem pif_one {X:Cx} {c:Expr} {t:TT} (h:PT X c t):PIf X [c] t:=fun pins s σ H Q I hw=>wpAny_tests_one (h pins s σ H Q I hw)
def tLC (fr:List (Str × Nat)) (wi:TI) (tc:TT) (te:TE):TE:=fun σ H Q=>wi σ H fun J H1=>∃ W:Nat->Nat->List V->Hp->Prop,(∃ m,W 0 m [] H1)∧∀ i m ys H2,W i m ys H2->ys.length < sizeLine ∧
  ((J.stop i H2∧∀ D,H2 D=none->Q (.ref D) (upd H2 D (.lst ys))) ∨
    (J.go i H2∧∀ v H3,J.yld i H2 v H3->tc (some v::compRest σ fr) H3 fun b H4 =>
      if b=true then te (some v::compRest σ fr) H4 fun y H5=>∃ m',m' < m∧W (i + 1) m' (ys++[y]) H5 else ∃ m',m' < m∧W (i + 1) m' ys H4))
section
variable {X:Cx}
theorem anyE {α:Type} {M:Model} {A:Around} {t:Sem α} {Q : α->Shared->Prop} {E:Value->Shared->Prop} {s:Shared} (h:wpAny M A t Q (fun _ _=>False) s):wpAny M A t Q E s:=wpAny_mono h (fun _ _ x=>x) fun _ _ x=>x.elim
theorem comp_loop {prog:Program} {w:World} {A:Around} {R:Result->Shared->Prop} {s:Shared} {elt target iter:Expr} {ifs:List Expr} {scope:Scope} {pos:Pos} {it acc:Value} {env:Env} (J:Nat->Shared->Prop)
    (turn:∀ n s,J n s->wpAny (model prog w) A (pyNext it) (fun r s₁=>match r with
      | none=>R (.ok .next) s₁
      | some v=>wpAny (model prog w) A (letOwnedTupleGo target it v) (fun _ s₂=>wpAny (model prog w) A (assign target env v) (fun _ s₃ =>
          wpAny (model prog w) A (forIn ifs true fun c r=>if r=true then do let ok ← isTrue c env (eval c env); pure (ForInStep.yield ok) else pure (ForInStep.yield r)) (fun ok s₄ =>
            if ok=true then wpAny (model prog w) A (eval elt env) (fun y s₅ =>
              wpAny (model prog w) A (call (.builtin "list.append") [acc,y]) (fun _ s₆=>∃ m,m < n∧J m s₆) (fun _ _=>False) s₅) (fun _ _=>False) s₄
            else ∃ m,m < n∧J m s₄) (fun _ _=>False) s₃) (fun _ _=>False) s₂) (fun _ _=>False) s₁) (fun _ _=>False) s)
    (n:Nat) (h:J n s):codeAny (model prog w) A (.compLoop (.ListComp elt [⟨target,iter,ifs,0⟩] scope pos) 0 it acc env) R s:=by
  refine codeAny_loop rfl J (fun k s' hJ=>?_) n h
  show wpAny (model prog w) A ((compTurn (.ListComp elt [⟨target,iter,ifs,0⟩] scope pos) 0 it acc env).onRaise (fun x=>do noteFrame x env; theTreesLotGoes x)) _ _ s'
  refine wpAny_noted ?_
  rw [compTurn_list]
  refine wpAny_bind (wpAny_standAt (wpAny_bind (wpAny_mono (turn k s' hJ) (fun r s₁ h₁=>?_) fun _ _ z=>z.elim)))
  cases r with
  | none=>exact wpAny_pure h₁
  | some v =>
    refine wpAny_bind (wpAny_mono h₁ (fun _ s₂ h₂=>wpAny_bind (wpAny_mono h₂ (fun _ s₃ h₃=>wpAny_bind (wpAny_mono h₃ (fun ok s₄ h₄=>?_) fun _ _ z=>z.elim)) fun _ _ z=>z.elim)) fun _ _ z=>z.elim)
    cases ok with
    | false=>exact wpAny_pure ⟨rfl,h₄⟩
    | true =>
      exact wpAny_bind (wpAny_bind (wpAny_mono h₄ (fun y s₅ h₅=>wpAny_bind (wpAny_mono h₅ (fun _ s₆ h₆=>wpAny_pure (wpAny_pure ⟨rfl,h₆⟩)) fun _ _ z=>z.elim)) fun _ _ z=>z.elim))
theorem pe_lc {elt iter:Expr} {x:Str} {px:Pos} {ifs:List Expr} {scope:Scope} {pos:Pos} {fr:List (Str × Nat)} {wi:TI} {tc:TT} {te:TE} (hc:X.calm=true) (B:Blk X scope x fr)
    (hi:PI X (.Name x px) iter wi) (ht:∀ s₂ H₂ C fp,PIf (cxComp X scope (compNs x fr) s₂ H₂ C fp) ifs tc) (he:∀ s₂ H₂ C fp,PE (cxComp X scope (compNs x fr) s₂ H₂ C fp) elt te)
    (hs:∀ v,foldedSetIterable iter X.env v=pure v:=by intro _; rfl):PE X (.ListComp elt [⟨.Name x px,iter,ifs,0⟩] scope pos) (tLC fr wi tc te):=by
  intro pins s σ H Q I h
  rw [eval_ListComp]
  have hclos:=clo_eq (scope:=scope) (env:=X.env) (B.clos I.ok)
  refine wpAny_comprehension_free (use:=none) rfl hs hclos B.kind B.loc (thn (hi pins s σ H _ I h) fun v s1 h1=>thn h1 fun itv s2 h2=>?_)
  obtain ⟨it,fp,tn,J,H2,rfl,I2,T,st2,f2,W,⟨m0,w0⟩,turn⟩:=h2
  refine wpAny_newObj_type (wpAny_newFunctionEnv B.cell (by intro y hy; simp at hy) (fun h₁ hns hsb=>?_) B.kind)
  dsimp only at hns hsb ⊢
  generalize hG:s2.heap.push { cls:=.type "list",dict:=none,data:=.seq ([]:List Value).toArray }=G at hns hsb ⊢
  have hC:G.objs.size=s2.heap.objs.size + 1:=by rw [← hG,Heap.size_push]
  have hDC:s2.heap.objs.size≠G.objs.size:=by omega
  have old:∀ b ob,s2.heap.get? b=some ob->h₁.get? b=some ob:=fun b ob e=>by
    have hb:=Heap.lt_size e
    refine hsb.extBut b ob (Nat.ne_of_lt (by rw [hC]; exact Nat.lt_succ_of_lt hb)) (Heap.get?_push_of_some _ ?_)
    rw [← hG]
    exact Heap.get?_push_of_some _ e
  have hacc:h₁.get? s2.heap.objs.size=some { cls:=.type "list",data:=.seq ([]:List Value).toArray 0 }:=by
    refine hsb.extBut _ _ hDC (Heap.get?_push_of_some _ ?_)
    rw [← hG]
    exact Heap.get?_push_size _ rfl
  have hlt:∀ b∈fp,b < s2.heap.objs.size:=fun b hb=>by
    obtain ⟨o,e,_⟩:=T.obj 0 _ st2 b hb
    exact Heap.lt_size e
  have I4:=inv_comp (tk:=s2.toks + ([]:List (Str × Value)).length) (o:=none) I2 B (show s2.heap.objs.size≤G.objs.size by omega) f2 hlt old hns
  have tn4:tn 0 h₁:=T.keep 0 _ _ st2 fun b _ o e=>old b o e
  have Dfs:s2.heap.objs.size ∉ frs X.stack:=fun z=>by
    obtain ⟨_,o,ho,_⟩:=I2.stack.mem z
    exact absurd (Heap.lt_size ho) (Nat.lt_irrefl _)
  have Dcl:∀ y c,X.env.cells.lookup y=some c->c≠s2.heap.objs.size:=fun y c e=>by
    obtain ⟨v,o,ho,_⟩:=I2.cell y c e
    exact Nat.ne_of_lt (Heap.lt_size ho)
  have DL:s2.heap.objs.size≠X.env.locals:=Nat.ne_of_gt I2.lt
  have Dfp:s2.heap.objs.size ∉ fp:=fun z=>absurd (hlt _ z) (Nat.lt_irrefl _)
  have loop:∀ s₃:Shared,s₃={ s2 with heap:=h₁,toks:=s2.toks + ([]:List (Str × Value)).length } ->
      codeAny (model X.prog X.w) X.A (.compLoop (.ListComp elt [⟨.Name x px,iter,ifs,0⟩] scope pos) 0 (.ref it) (.ref s2.heap.objs.size) (compEnvC scope (cloOf X.env.cells scope.names []) G.objs.size X.env))
        (compPost (model X.prog X.w) X.A X.xe none (EP X pins σ Q) (.ref s2.heap.objs.size) G.objs.size) s₃:=by
    rintro s₃ rfl
    refine comp_loop
      (fun n s'=>∃ i o H' ys its k,Inv (cxComp X scope (compNs x fr) s2 H2 G.objs.size fp) [] (o::compRest σ fr) H' s'∧tn i s'.heap∧(∀ b∈fp,H' b=none)∧H' s2.heap.objs.size=none ∧
        s'.heap.get? s2.heap.objs.size=some { cls:=.type "list",data:=.seq (its:List Value).toArray k }∧Vals ys its∧W i n ys H') ?_ m0
      ⟨0,none,H2,[],[],0,I4,tn4,fun b hb=>(f2 b hb).1,I2.hok.fresh (Nat.le_refl _),hacc,.nil,w0⟩
    rintro n s5 ⟨i,o,H5,ys,its,k,I5,st5,fr5,D5,hD5,r5,w5⟩
    have fok:∀ {H':Hp},(∀ b∈fp,H' b=none)->∀ b∈fp,FpOk (cxComp X scope (compNs x fr) s2 H2 G.objs.size fp) [] H' b:=fun hn b hb =>
      ⟨hn b hb,(I5.ok.exf b hb).1,I5.ok.exfs b hb,.inl hb,(I5.ok.exf b hb).2,fun p hp=>absurd (show p∈([]:List (Addr × Obj)) from hp) (by simp)⟩
    have dok:∀ {H':Hp},H' s2.heap.objs.size=none->FpOk (cxComp X scope (compNs x fr) s2 H2 G.objs.size fp) [] H' s2.heap.objs.size:=fun hn =>
      ⟨hn,hDC,Dfs,.inr (Nat.le_refl _),fun y c e=>Dcl y c (B.sub I2.ok _ _ e),fun p hp=>absurd (show p∈([]:List (Addr × Obj)) from hp) (by simp)⟩
    obtain ⟨hz,alt⟩:=turn i n ys H5 w5
    have hzl:its.length≤sizeLine:=by rw [← r5.length]; exact Nat.le_of_lt hz
    rcases alt with ⟨stop,fin⟩ | ⟨go,step⟩
    . refine thn (T.done (cxComp X scope (compNs x fr) s2 H2 G.objs.size fp) rfl rfl rfl hc i (pinsAt [s2.heap.objs.size] s5.heap) s5 (o::compRest σ fr) H5 _ ?_ (fun b hb=>?_) st5 stop) fun r s6 ⟨hr,I6⟩=>?_
      . exact (Inv.pinned I5 (fp:=[s2.heap.objs.size]) (fun b hb=>by rw [List.mem_singleton.mp hb]; exact dok D5) fun b hb=>by
          rw [List.mem_singleton.mp hb]
          exact ⟨_,hD5,fun v z=>by cases z⟩)
      . obtain ⟨f0,f1,f2',f3,f4,f5⟩:=fok fr5 b hb
        refine ⟨f0,f1,f2',f3,f4,fun p hp=>?_⟩
        have hp':p∈pinsAt [s2.heap.objs.size] s5.heap:=(List.mem_append.mp hp).elim (fun z=>absurd (show p∈([]:List (Addr × Obj)) from z) (by simp)) id
        have:=(of_pinsAt hp').1
        rw [List.mem_singleton.mp this]
        exact fun e=>Dfp (by rw [e]; exact hb)
      . subst hr
        have hD6:=(I6.pin (s2.heap.objs.size,{ cls:=.type "list",data:=.seq its.toArray k }) (List.mem_append_right _ (mem_pinsAt (by simp) hD5))).1
        obtain ⟨m6,hn6,_⟩:=I6.loc
        refine ⟨m6,hn6,fun h' hs'=>?_⟩
        have hCn:s2.heap.get? G.objs.size=none:=by
          cases e:s2.heap.get? G.objs.size with
          | none=>rfl
          | some ob=>exact absurd (Heap.lt_size e) (by rw [hC]; exact Nat.not_lt.mpr (Nat.le_succ _))
        have neC:∀ b ob,s2.heap.get? b=some ob->b≠G.objs.size:=fun b ob e z=>by rw [z,hCn] at e; cases e
        have u6:Un (frs X.stack) fp H2 H5 s2.heap s6.heap:=I6.base
        have u7:Un (frs X.stack) fp H2 H5 s2.heap h':=⟨fun b ob e n hb hx=>hs'.extBut b ob (neC b ob e) (u6.keep b ob e n hb hx),fun b ob e n hb hx=>by
            obtain ⟨sl,q⟩:=u6.slot b ob e n hb hx
            exact ⟨sl,hs'.extBut b _ (neC b ob e) q⟩,u6.free,fun b ob e hx=>by
            obtain ⟨o',q⟩:=u6.there b ob e hx
            exact ⟨o',hs'.extBut b _ (neC b ob e) q⟩,u6.tups,u6.frzs,u6.tbls⟩
        have hC5:H5 G.objs.size=none:=I6.free
        have hok7:HOk X.prog X.w H5 h':=fun b ob e=>(I6.hok b ob e).stay (fun c u hc q=>hs'.extBut c u (by
            rintro rfl
            rcases hc with rfl | hc
            . rw [hC5] at e; cases e
            . rw [hC5] at hc; cases hc) q) (fun _ q=>q) fun _ _ q=>q
        have I7:Inv X pins σ H5 { s6 with heap:=h' }:=I2.call' (s':={ s6 with heap:=h' }) (I6.os) u7 hok7 I6.bare fun b hb=>⟨(f2 b hb).2.2.2.1,(f2 b hb).2.1,(f2 b hb).2.2.2.2.1,(f2 b hb).2.2.2.2.2⟩
        refine ⟨.ref s2.heap.objs.size,upd H5 s2.heap.objs.size (.lst ys),I7.track D5 I2.sz DL Dcl (fun p hp z=>?_) ?_,rfl,fin _ D5⟩
        . obtain ⟨e,_⟩:=I2.pin p hp
          rw [z] at e
          exact absurd (Heap.lt_size e) (Nat.lt_irrefl _)
        . exact ⟨Nat.le_of_lt hz,its,k,r5,hs'.extBut _ _ hDC hD6⟩
    . refine anyE (thn (T.item (cxComp X scope (compNs x fr) s2 H2 G.objs.size fp) rfl rfl rfl hc i (pinsAt [s2.heap.objs.size] s5.heap) s5 (o::compRest σ fr) H5 _ ?_ (fun b hb=>?_) st5 go) fun r s6 ⟨u,hr,h6⟩=>?_)
      . exact (Inv.pinned I5 (fp:=[s2.heap.objs.size]) (fun b hb=>by rw [List.mem_singleton.mp hb]; exact dok D5) fun b hb=>by
          rw [List.mem_singleton.mp hb]
          exact ⟨_,hD5,fun v z=>by cases z⟩)
      . obtain ⟨f0,f1,f2',f3,f4,f5⟩:=fok fr5 b hb
        refine ⟨f0,f1,f2',f3,f4,fun p hp=>?_⟩
        have hp':p∈pinsAt [s2.heap.objs.size] s5.heap:=(List.mem_append.mp hp).elim (fun z=>absurd (show p∈([]:List (Addr × Obj)) from z) (by simp)) id
        have:=(of_pinsAt hp').1
        rw [List.mem_singleton.mp this]
        exact fun e=>Dfp (by rw [e]; exact hb)
      . subst hr
        refine thn h6 fun _ s7 ⟨v,H7,I7,rv,y7,st7,fr7⟩=>?_
        have p7:=I7.pin (s2.heap.objs.size,{ cls:=.type "list",data:=.seq its.toArray k }) (List.mem_append_right _ (mem_pinsAt (by simp) hD5))
        have hD7:s7.heap.get? s2.heap.objs.size=some { cls:=.type "list",data:=.seq its.toArray k }:=p7.1
        have D7:H7 s2.heap.objs.size=none:=p7.2.1
        have I7u:Inv (cxComp X scope (compNs x fr) s2 H2 G.objs.size fp) [] (o::compRest σ fr) H7 s7:=Inv.unpinned (pins:=[]) I7
        have I8:=Inv.pinned I7u (fp:=s2.heap.objs.size::fp) (fun b hb=>by
            rcases List.mem_cons.mp hb with e | hb
            . rw [e]; exact dok D7
            . exact fok fr7 b hb) fun b hb=>by
            rcases List.mem_cons.mp hb with e | hb
            . rw [e]; exact ⟨_,hD7,fun v z=>by cases z⟩
            . exact T.obj _ _ st7 b hb
        have hl : Loc (cxComp X scope (compNs x fr) s2 H2 G.objs.size fp).env.scope x := .inl (lookup_relabel_local B.here)
        have pk:∀ {σ':St} {H':Hp} {s':Shared},Inv (cxComp X scope (compNs x fr) s2 H2 G.objs.size fp) ([]++pinsAt (s2.heap.objs.size::fp) s7.heap) σ' H' s' ->
            tn (i + 1) s'.heap∧(∀ b∈fp,H' b=none)∧H' s2.heap.objs.size=none∧s'.heap.get? s2.heap.objs.size=some { cls:=.type "list",data:=.seq its.toArray k }:=fun {σ' H' s'} I'=>by
          have pD:=I'.pin (s2.heap.objs.size,{ cls:=.type "list",data:=.seq its.toArray k }) (List.mem_append_right _ (List.mem_append_right _ (mem_pinsAt (by simp) hD7)))
          refine ⟨T.keep _ _ _ st7 fun b hb ob e=>(I'.pin (b,ob) (List.mem_append_right _ (List.mem_append_right _ (mem_pinsAt (List.mem_cons_of_mem _ hb) e)))).1,fun b hb=>?_,pD.2.1,pD.1⟩
          obtain ⟨ob,e,_⟩:=T.obj _ _ st7 b hb
          exact (I'.pin (b,ob) (List.mem_append_right _ (List.mem_append_right _ (mem_pinsAt (List.mem_cons_of_mem _ hb) e)))).2.1
        refine anyE (thn (pg_name (X := cxComp X scope (compNs x fr) s2 H2 G.objs.size fp) (i := 0) B.nd rfl hl (.inr (lookup_relabel_local B.here)) _ s7 _ H7 v u (fun σ' H' => σ' = some v :: compRest σ fr ∧ H' = H7) I8 rv ⟨rfl, rfl⟩) fun _ s8 ⟨σ8, H8, I9, e1, e2⟩ => ?_)
        subst e1 e2
        refine anyE (thn (ht s2 H2 G.objs.size fp _ s8 _ H8 _ I9 (step v H8 y7)) fun ok s9 ⟨H9,I10,q10⟩=>?_)
        cases ok with
        | false =>
          rw [if_neg Bool.false_ne_true] at q10
          rw [if_neg Bool.false_ne_true]
          obtain ⟨m',hm,w'⟩:=q10
          obtain ⟨k1,k2,k3,k4⟩:=pk I10
          exact ⟨m',hm,i + 1,some v,H9,ys,its,k,Inv.unpinned (pins:=[]) I10,k1,k2,k3,k4,r5,w'⟩
        | true =>
          rw [if_pos rfl] at q10
          rw [if_pos rfl]
          refine anyE (thn (he s2 H2 G.objs.size fp _ s9 _ H9 _ I10 q10) fun y' s10 ⟨y,H10,I11,ry,m',hm,w'⟩=>?_)
          obtain ⟨k1,k2,k3,k4⟩:=pk I11
          refine append_at k4 (fun h' hs' hD'=>?_) (by rw [List.size_toArray]; exact hzl)
          have I12:Inv (cxComp X scope (compNs x fr) s2 H2 G.objs.size fp) [] (some v::compRest σ fr) H10 { s10 with heap:=h' } :=
            (Inv.unpinned (pins:=[]) I11).turned (t':=s10.toks) (it:=s2.heap.objs.size) (fun b ob hb e=>(hs'.2 b hb).trans e) k3 hDC (.inr (Nat.le_refl _)) (fun z c e=>Dcl z c (B.sub I2.ok _ _ e)) fun p hp=>absurd (show p∈([]:List (Addr × Obj)) from hp) (by simp)
          refine ⟨m',hm,i + 1,some v,H10,ys++[y],its++[y'],k + 1,I12,T.keep _ _ _ k1 fun b hb ob e=>(hs'.2 b fun z=>Dfp (by rw [← z]; exact hb)).trans e,k2,k3,?_,r5.append (.cons ry .nil),w'⟩
          rw [hD']
          simp
  exact codeAny_compStart_list (loop _ rfl) (T.self _ 0 _ _ _ tn4 (loop _ rfl))
end
end L2
set_option Elab.async false
set_option linter.all false
set_option maxRecDepth 100000
namespace L2
open PySem PySem.Spec PyProof.Rows
def tyN (H:Hp):V->String
  | .non=>"NoneType"
  | .bl _=>"bool"
  | .int _=>"int"
  | .str _=>"str"
  | .ref a=>match H a with
    | some (.lst _)=>"list"
    | some (.tup _)=>"tuple"
    | some (.dK _)=>"dict"
    | some (.frz _ (.lst _))=>"list"
    | _=>"?"
  | _=>"?"
def tyIs (T n:String):Bool:=T == n || (T == "bool" && n == "int")
def tyKnown:List String:=["NoneType","bool","int","str","list","tuple","dict"]
def tyAsked:List String:=["bool","int","str","list","tuple","dict"]
theorem kit_known (K:PySem.W.Frag):∀ T∈tyKnown,∀ n∈tyAsked,PySem.W.kitOne K (.type T) (.type n)=some (tyIs T n):=by
  intro T hT n hn
  simp only [tyKnown,tyAsked,List.mem_cons,List.not_mem_nil,or_false] at hT hn
  rcases hT with rfl | rfl | rfl | rfl | rfl | rfl | rfl <;> rcases hn with rfl | rfl | rfl | rfl | rfl | rfl <;> kernel_rfl
theorem tyN_of {K:PySem.W.Frag} {H:Hp} {x:V} (h:tyN H x∈tyKnown):TyOf K H x (.type (tyN H x)):=by
  have no : ¬ ("?"∈tyKnown):=by decide
  cases x with
  | non=>exact .non
  | bl b=>exact .bl b
  | int i=>exact .int i
  | str z=>exact .str z
  | ref a =>
    unfold tyN at h ⊢
    dsimp only at h ⊢
    cases e:H a with
    | none=>rw [e] at h; exact absurd h no
    | some o =>
      rw [e] at h
      cases o with
      | lst xs=>exact .lst e
      | tup xs=>exact .tup e
      | dK kvs=>exact .dK e
      | frz ob u =>
        cases u with
        | lst xs=>exact .frz e
        | _=>exact absurd h no
      | _=>exact absurd h no
  | _=>exact absurd h no
def rIsi (xs:List V) (H:Hp) (Q:VK):Prop:=∃ x n,xs=[x,.ty n]∧tyN H x∈tyKnown∧n∈tyAsked∧Q (.bl (tyIs (tyN H x) n)) H
section
variable {X:Cx}
theorem call_isi:CallR X (.builtin "isinstance") rIsi:=by
  intro pins s σ H xs us Q I r h
  obtain ⟨x,n,rfl,h1,h2,q⟩:=h
  obtain ⟨u,v,rfl,ru,rv⟩:=vals2 r
  cases rv
  exact isinst_ok I ru (tyN_of h1) (kit_known X.K _ h1 _ h2) fun tk=>⟨.bl _,H,I.tok tk,rfl,q⟩
end
end L2
set_option Elab.async false
set_option linter.all false
set_option maxRecDepth 100000
namespace L2
open PySem PySem.Spec PyProof.Rows
section
variable {X:Cx}
theorem boolsAre_of {bs:List Bool}:∀ {us:List Value},Vals (bs.map V.bl) us->LSm.BoolsAre us bs:=by
  induction bs with
  | nil=>intro us r; rw [List.map_nil] at r; cases r; exact .nil
  | cons b bs ih =>
    intro us r
    rw [List.map_cons] at r
    cases r with
    | cons r1 r2 =>
      cases r1
      exact .cons b (ih r2)
def rAll (K:PySem.W.Frag) (xs:List V) (H:Hp) (Q:VK):Prop:=∃ (p:Addr) (bs:List Bool),xs=[.ref p]∧SqL K H p (bs.map V.bl)∧Q (.bl (bs.all id)) H
theorem call_all (hc:X.calm=true):CallR X (.builtin "all") (rAll X.K):=by
  intro pins s σ H xs us Q I r h
  obtain ⟨p,bs,rfl,hq,q⟩:=h
  obtain ⟨u,rfl,rx⟩:=vals1 r
  cases rx
  obtain ⟨its,r',pl,hz⟩:=I.list hq
  have hb:=boolsAre_of r'
  have hl:=pl.isList
  have hlt:p < s.heap.objs.size:=by obtain ⟨_,e,_⟩:=hl; exact Heap.lt_size e
  refine call_all_walk (wpAny_pyIter_list hl ?_)
  refine ⟨s.heap.objs.size,[s.heap.objs.size,p],[s.heap.objs.size],its.toArray.size,_,_,fun i=>(bs[i]?).getD true,rfl,Walks.list (A:=X.A.in1) (I.ok.hd hc) _ p (Nat.ne_of_lt hlt) its.toArray,
    ⟨⟨_,Heap.get?_push_size _ rfl,rfl,rfl⟩,hl.push _⟩,fun i v s' Q' E' hP hQ=>?_,fun h' tk hk=>?_⟩
  . obtain ⟨b,e,rfl⟩:=hb.get i v (by simpa using hP)
    simp only [e,Option.getD_some] at hQ
    exact wpAny_truthy_bool hQ
  . have e:((List.range its.toArray.size).all fun i=>(bs[i]?).getD true)=bs.all id:=by
      rw [List.size_toArray,hb.length]; exact LSm.range_all bs
    rw [e]
    exact ⟨.bl (bs.all id),H,I.kept (t':=tk) (LSm.kept_iter hk),rfl,q⟩
def rCount (K:PySem.W.Frag):V->List V->Hp->VK->Prop:=fun x vs H Q=>∃ p xs y,x=.ref p∧vs=[y]∧SqL K H p xs∧flatV y=true∧xs.all flatV=true∧Q (.int ((xs.countP fun z=>eqV z y:Nat):Int)) H
theorem countP_eqU {x:V}:∀ {xs:List V} {us:List Value},Vals xs us->xs.all flatV=true->us.countP (eqU x)=xs.countP fun y=>eqV y x
  | _,_,.nil,_=>rfl
  | y::xs,u::us,.cons r t,f=>by
    rw [List.all_cons,Bool.and_eq_true] at f
    rw [List.countP_cons,List.countP_cons,eqU_of r f.1,countP_eqU t f.2]
theorem mt_count:MtR X "list.count" (rCount X.K):=by
  intro pins s σ H x vs v us Q I rx rv h
  obtain ⟨p,xs,y,rfl,rfl,hq,fy,fs,q⟩:=h
  cases rx
  obtain ⟨u,rfl,ru⟩:=rv.one
  obtain ⟨its,r,pl,hz⟩:=I.list hq
  obtain ⟨⟨oc,od,odt,osl⟩,n,e,c,d,hd⟩:=pl
  cases c; cases d; cases hd
  refine call_meets F.slot_list_count ⟨_,e,rfl⟩ F.entry_list_count (F.args_list_count_2 _ _) (SeqAt.list_countAt p its.toArray n none osl u (eqU y)) ⟨e,fun w hw=>mem_eqAt ru fy r fs w (by simpa using hw),?_⟩
  refine ⟨.int _,H,I.tok _,⟨_,rfl⟩,?_⟩
  have e2:its.toArray.toList.countP (eqU y)=xs.countP fun z=>eqV z y:=by
    rw [← countP_eqU r fs]
  rw [e2]
  exact q
mutual
inductive DataV (K:PySem.W.Frag) (H:Hp):V->PyData->Prop
  | non:DataV K H .non .none
  | bl (b:Bool):DataV K H (.bl b) (.bool b)
  | int (i:Int):DataV K H (.int i) (.int i)
  | str (x:Str):DataV K H (.str x) (.str x)
  | lst {a:Addr} {xs:List V} {ds:List PyData}:SqL K H a xs->DataVs K H xs ds->DataV K H (.ref a) (.list ds)
  | tup {a:Addr} {xs:List V} {ds:List PyData}:SqT K H a xs->DataVs K H xs ds->DataV K H (.ref a) (.tuple ds)
inductive DataVs (K:PySem.W.Frag) (H:Hp):List V->List PyData->Prop
  | nil:DataVs K H [] []
  | cons {x:V} {xs:List V} {d:PyData} {ds:List PyData}:DataV K H x d->DataVs K H xs ds->DataVs K H (x::xs) (d::ds)
end
mutual
theorem DataV.reads {pins:List (Addr × Obj)} {s:Shared} {σ:St} {H:Hp} (I:Inv X pins σ H s):∀ {x:V} {d:PyData},DataV X.K H x d->∀ {u:Value},RelV x u->∃ as,Reads s.heap u d as
  | _,_,.non,_,r=>by cases r; exact ⟨_,.none⟩
  | _,_,.bl b,_,r=>by cases r; exact ⟨_,.bool b⟩
  | _,_,.int i,_,r=>by obtain ⟨t,rfl⟩:=r; exact ⟨_,.int i t⟩
  | _,_,.str z,_,r=>by obtain ⟨t,rfl⟩:=r; exact ⟨_,.str z t⟩
  | _,_,.lst hq hd,_,r=>by
    cases r
    obtain ⟨its,rv,pl,_⟩:=I.list hq
    obtain ⟨as,ha⟩:=DataVs.reads I hd rv
    obtain ⟨o,n,e,c,_,d⟩:=pl
    exact ⟨_,.list e c d ha⟩
  | _,_,.tup hq hd,_,r=>by
    cases r
    obtain ⟨its,rv,pl,_⟩:=I.tuple hq
    obtain ⟨as,ha⟩:=DataVs.reads I hd rv
    obtain ⟨o,e,c,n,d⟩:=pl
    exact ⟨_,.tuple e c d ha⟩
theorem DataVs.reads {pins:List (Addr × Obj)} {s:Shared} {σ:St} {H:Hp} (I:Inv X pins σ H s):∀ {xs:List V} {ds:List PyData},DataVs X.K H xs ds->∀ {us:List Value},Vals xs us->∃ as,ReadsAll s.heap us ds as
  | _,_,.nil,_,r=>by cases r; exact ⟨_,.nil⟩
  | _,_,.cons h t,_,r=>by
    cases r with
    | cons r1 r2 =>
      obtain ⟨as,ha⟩:=DataV.reads I h r1
      obtain ⟨bs,hb⟩:=DataVs.reads I t r2
      exact ⟨_,.cons ha hb⟩
end
def rEqD (K:PySem.W.Frag):R2:=fun x y H Q=>∃ da db,DataV K H x da∧DataV K H y db∧SeqAt.shaped da=true∧SeqAt.shaped db=true∧Q (.bl (PyData.eqv da db)) H
def rNeD (K:PySem.W.Frag):R2:=fun x y H Q=>∃ da db,DataV K H x da∧DataV K H y db∧SeqAt.shaped da=true∧SeqAt.shaped db=true∧Q (.bl (!PyData.eqv da db)) H
theorem op_eqD (hu:X.A.units + 64 < cLine):OpR X (compareOp .Eq) (rEqD X.K):=by
  intro pins s σ H x y v u Q I rx ry h
  obtain ⟨da,db,ha,hb,sa,sb,q⟩:=h
  obtain ⟨as,ra⟩:=ha.reads I rx
  obtain ⟨bs,rb⟩:=hb.reads I ry
  exact eq_dataH ra rb sa sb hu ⟨.bl _,H,I,rfl,q⟩
theorem op_neD (hu:X.A.units + 64 < cLine):OpR X (compareOp .NotEq) (rNeD X.K):=by
  intro pins s σ H x y v u Q I rx ry h
  obtain ⟨da,db,ha,hb,sa,sb,q⟩:=h
  obtain ⟨as,ra⟩:=ha.reads I rx
  obtain ⟨bs,rb⟩:=hb.reads I ry
  exact ne_dataH ra rb sa sb hu ⟨.bl _,H,I,rfl,q⟩
theorem op_mulB:OpR X (binaryOp .Mult) (rI IntMulOk fun i j=>.int (i * j)):=opI fun _ _ _ _ _ _ _ hc q=>mul_int q hc
def rLen (K:PySem.W.Frag) (xs:List V) (H:Hp) (Q:VK):Prop:=(∃ p ys,xs=[.ref p]∧(SqL K H p ys∨SqT K H p ys)∧Q (.int ys.length) H)∨(∃ z,xs=[.str z]∧z.length≤sizeLine∧Q (.int z.length) H)
theorem call_lenU:CallR X (.builtin "len") (rLen X.K):=call_len_seq.or call_len_str
end
end L2
set_option Elab.async false
set_option linter.all false
set_option maxRecDepth 100000
namespace L2
open PySem PySem.Spec PyProof.Rows
section
variable {σ:St} {H:Hp} {Q:VK} {D:Ends}
variable {K:PySem.W.Frag}
end
structure Top (K:PySem.W.Frag) (mg:Str->Option Value) (x:Str) (st:Stmt):Prop where
  ex:∃ (f:Addr) (fd:FuncData),Fun K x x st f fd∧mg x=some (.ref f)
structure Def (P:Program) (w:World) (K:PySem.W.Frag) (mg:Str->Option Value) (base:Heap) (CX:CXT) (k:Nat) (x:Str) (ps:List Str) (sp:Sp):Prop where
  ex:∃ (f:Addr) (fd:FuncData),FnOk P w K mg base CX k f fd ps sp∧mg x=some (.ref f)∧PySem.W.keepIn K (.ref f)=true∧Binds K fd ps []
section
variable {P:Program} {w:World} {K:PySem.W.Frag} {mg:Str->Option Value} {base:Heap}
theorem Top.mk' {x:Str} {st:Stmt} {h:Heap} {f:Addr} {oc:Value} {od an:Option Addr} {osl:Array (Option Value)} {kV doc pm cdv ct:Value} (X:K.In h) (G:h.Ns mainGlobals mg) (a:PySem.W.nsIn K mainGlobals x=some (some (.ref f)))
    (l:K.lookup f=some ⟨oc,od,.func (PySem.W.fnOf x x (defArgs st) (defBody st) (defScope st) .none kV doc pm an cdv ct),osl⟩) (c:PySem.W.codeIn K cdv x=true) (k:PySem.W.keepIn K (.ref f)=true):Top K mg x st :=
  ⟨⟨f,_,fun_mk l c k,PySem.W.mg_of X G a⟩⟩
theorem Top.def {x:Str} {st:Stmt} {N ps:List Str} {k:Nat} {sp:Sp} (T:Top K mg x st) (S:FnScope N ps (defScope st)) (len:∀ vs H Q E,sp vs H Q E->vs.length=ps.length)
    (hb:∀ (kV doc pm:Value) (an:Option Addr) (cdv ct:Value) (us:List Value),us.length=ps.length->bindArgs (PySem.W.fnOf x x (defArgs st) (defBody st) (defScope st) .none kV doc pm an cdv ct) ⟨us,[]⟩=pure (ps.zip us))
    (hbody:∀ (f:Addr) (cdv:Value) (A:Around) (outer:List Env) (s:Shared) (H:Hp) (vs:List V) (Q:VK) (E:XK),Room k (A.deeper (envOfC x (defScope st) s.heap.objs.size f cdv))->sp vs H Q E ->
      ∃ t,PSs (cxOf CX0 P w K mg base N x (defScope st) f cdv A outer s H E).nox (defBody st) t∧t { nx:=fun _ H'=>Q .non H',rt:=Q } (start N vs) H):Def P w K mg base CX0 (k + 1) x ps sp:=by
  obtain ⟨f,fd,F,m⟩:=T.ex
  exact ⟨⟨f,fd,F.ok S len (hbody f),m,F.kp,F.binds hb⟩⟩
theorem pe_def {X:Cx} {k:Nat} {x:Str} {ps:List Str} {sp:Sp} {p pos:Pos} {e:Expr} {es:List Expr} {t:TA} (D:Def X.prog X.w X.K X.mg X.base CX0 k x ps sp) (hr:Room k X.A) (ha:PA X (e::es) t) (hg:Gl X x:=by rfl)
    (hdb:(x == ("__debug__":Str))=false:=by decide) (he:starEach (e::es) X.env=(false,eval e X.env)::starEach es X.env:=by rfl) (hpl:(backTo pos (starEach es X.env)).any (·.1)=false:=by rfl) :
    PE X (.Call (.Name x p) (e::es) [] pos) (tCall sp [] E0 t):=by
  obtain ⟨f,fd,F,m,kp,b⟩:=D.ex
  exact pe_call F hr hg m kp b .nil pass0 ha hdb he hpl
end
open PySem.W in
theorem bits_weight:∀ (ns:List Int) (n:Int),n∈ns->Builtin.Int.intBits n≤WData.weightAll (ns.map WData.int)
  | m::r,n,h=>by
    rw [List.map_cons]
    have e:WData.weightAll (WData.int m::r.map WData.int)=WData.weight (.int m) + 1 + WData.weightAll (r.map WData.int):=by simp only [WData.weightAll]
    rw [e]
    rcases List.mem_cons.mp h with rfl | h
    . have:Builtin.Int.intBits n=WData.weight (.int n):=by simp only [WData.weight,Builtin.Int.intBits]
      omega
    . have:=bits_weight r n h
      omega
open PySem.W in
theorem bits_script {ns:List Int} (h:WData.layableAll [WData.list (ns.map WData.int)]=true):∀ n∈ns,Builtin.Int.intBits n≤1048576:=fun n hn=>by
  have h1:(WData.list (ns.map WData.int)).layable=true:=PySem.W.layableW_arg h _ (by simp)
  have h2:=(PySem.W.layableW_iff.mp h1).2.2
  have h3:WData.weight (.list (ns.map WData.int))=WData.weightAll (ns.map WData.int):=by simp only [WData.weight]
  have h4:=bits_weight ns n hn
  have h5:(2:Nat) ^ 20=1048576:=by decide
  omega
open PySem.W PySem.Calls in
theorem attachB {l:OpenLaw} {n:Nat} {q:Program} {loose:List Str} {XP:(Str->Option Value)->Heap->Prop} {YP:World->Heap->Prop} {d:DefRec}
    (hn:l.most=some n) (hdf:d.params.defaults=[])
    (call:∀ (w:World) (s₀ s₁:Shared) (mg mb:Str->Option Value) (fa a:Addr) (vs:List Value) (ns:List Int),
      Ground q loose [] XP w s₀ mg mb s₁.heap->YP w s₁.heap->mg d.name=some (.ref fa) ->
      s₁.heap.get? a=some { cls:=.type "list",data:=.seq vs.toArray }->IntsAre vs ns->ns.length≤n->(∀ k∈ns,Builtin.Int.intBits k≤1048576)->s₁.gens=#[] ->
      codeAny (model l.prog w) callerA (.call (.ref fa) ⟨[.ref a],[]⟩) (fun r s'=>r=.ok (.ret (.bool true))∧OldK s₁.heap s'.heap∧s'.os=s₁.os∧AllBare s'.gens) s₁) :
    WalkO q loose XP YP l.row.toRowW d [] (fun f vs=>PySem.call f vs):=by
  intro w s₀ s₁ mg mb G Y fa o pm cd doc dV kV ho hd hcd hD hmg hg args vals as' hpre hlay hrd hwl hlo
  obtain rfl:dV=.none:=Dflts.none hD hdf
  obtain ⟨a,vs,ns,rfl,rfl,hobj,hints,hlen⟩:=Att.script_of hn hpre hwl
  refine enter_call (codeAny_mono (call w s₀ s₁ mg mb fa a vs ns G Y hmg hobj hints hlen (bits_script hlay) hg) fun r s' hq=>?_)
  obtain ⟨rfl,h2,h3,h4⟩:=hq
  exact ⟨.inl ⟨.bool true,.bool true,[],rfl,fun _=>rfl,.bool true,Att.post_true l _,fun _=>⟨List.Pairwise.nil,fun _ hm=>(nomatch hm)⟩⟩,h2,h3,h4⟩
def spLaw (K:PySem.W.Frag):Sp:=fun vs H Q _=>∃ (a:Addr) (ns:List Int),vs=[.ref a]∧SqL K H a (ns.map V.int)∧ns.length≤63∧(∀ k∈ns,Builtin.Int.intBits k≤1048576)∧∀ H',Q (.bl true) H'
theorem walk_law {l:PySem.W.OpenLaw} {k:Nat} {q:Program} {loose:List Str} {XP:(Str->Option Value)->Heap->Prop} {YP:World->Heap->Prop} {d:DefRec} {K:Params->PySem.W.Frag} {x:Str} {st:Stmt}
    (hn:l.most=some 63) (hdf:d.params.defaults=[]) (hr:Room k callerA) (hY:∀ (w:World) (h:Heap),YP w h->(K w.params).In h)
    (hb:∀ (kV doc pm:Value) (an:Option Addr) (cdv ct u:Value),bindArgs (PySem.W.fnOf d.name d.name (defArgs st) (defBody st) (defScope st) .none kV doc pm an cdv ct) ⟨[u],[]⟩=pure [(x,u)])
    (F:∀ (w:World) (mg:Str->Option Value) (h:Heap),(K w.params).In h->h.Ns mainGlobals mg->Top (K w.params) mg d.name st ∧
      ∀ (f:Addr) (fd:FuncData),Fun (K w.params) d.name d.name st f fd->∀ base:Heap,(K w.params).In base->base.Ns mainGlobals mg->FnOk l.prog w (K w.params) mg base CX0 k f fd [x] (spLaw (K w.params))) :
    PySem.W.WalkO q loose XP YP l.row.toRowW d [] (fun f vs=>PySem.call f vs):=by
  refine attachB hn hdf fun w s₀ s₁ mg mb fa a vs ns G Y hmg hobj hints hlen hbits hg=>?_
  have KX:=hY w _ Y
  obtain ⟨T,FF⟩:=F w mg _ KX G.T.g
  obtain ⟨f,fd,Ff,m⟩:=T.ex
  have e:=m.symm.trans hmg
  cases e
  have hbd:∀ (s:Shared) (u:Value),BindsTo s fd ⟨[u],[]⟩ [(x,u)]:=by
    obtain ⟨oc,od,kV,doc,pm,an,cdv,ct,osl,rfl,lk,hcd⟩:=Ff.ex
    exact fun s u=>.of_eq (hb kV doc pm an cdv ct u)
  exact law_call KX G.T.g G.T.b G.T.builtins G.T.nolimit hg hobj hints (Nat.le_trans hlen (by decide)) hr (FF _ fd Ff) hbd (fun H hO hS=>⟨a,ns,rfl,hS,hlen,hbits,fun _=>rfl⟩) fun H e s' h=>h
end L2
set_option Elab.async false
set_option linter.all false
set_option maxRecDepth 100000
namespace L2
open PySem PySem.Spec PyProof.Rows
section
variable {σ:St} {H:Hp} {Q:VK} {K:PySem.W.Frag} {fr:List (Str × Nat)}
instance:Inhabited V:=⟨.non⟩
end
section
variable {σ:St} {H:Hp} {Q:VK} {K:PySem.W.Frag} {i j:Int}
end
section
variable {σ:St} {H:Hp} {K:PySem.W.Frag}
end
theorem same_upd {H:Hp} {p:Addr} {o:HO} (h:H p=none):Same H (upd H p o):=fun b u e=>by rw [upd_ne (ne_of_none e h)]; exact e
theorem pe_ty {X:Cx} {x:Str} {n:String} {pos:Pos} (hm:X.mg x=none) (hv:bootBuiltins x=some (.type n)) (hg:Gl X x:=by rfl) (hn:x≠"__name__":=by decide) (hd:(x == ("__debug__":Str))=false:=by decide):PE X (.Name x pos) (tC (.ty n)) :=
  pe_bltn hg hm hv (show RelV (.ty n) (.type n) from rfl) hn hd
end L2
set_option Elab.async false
set_option linter.all false
set_option maxRecDepth 100000
namespace L2
open PySem PySem.Spec PyProof.Rows
section
variable {X:Cx}
theorem ps_setLC {elt iter:Expr} {x y:Str} {px py:Pos} {ifs:List Expr} {scope:Scope} {pos spos:Pos} {fr:List (Str × Nat)} {wi:TI} {tc:TT} {te:TE} {i0:Nat} (hc:X.calm=true) (hN:X.N.Nodup) (hi0:X.N[i0]?=some y) (hx0:Loc X.env.scope y) (B:Blk X scope x fr)
    (hi:PI X (.Name x px) iter wi) (ht:∀ s₂ H₂ C fp,PIf (cxComp X scope (compNs x fr) s₂ H₂ C fp) ifs tc) (he:∀ s₂ H₂ C fp,PE (cxComp X scope (compNs x fr) s₂ H₂ C fp) elt te)
    (hsw:swapsWith (.ListComp elt [⟨.Name x px,iter,ifs,0⟩] scope pos) (some (.Name y py)) spos.line X.env=pure true:=by rfl)
    (hf0:X.fn y=true∨X.env.scope.names.lookup y=some .local:=by first | exact .inl rfl | exact .inr rfl | assumption)
    (hs:∀ v,foldedSetIterable iter X.env v=pure v:=by intro _; rfl):PS X (.Assign [.Name y py] (.ListComp elt [⟨.Name x px,iter,ifs,0⟩] scope pos) spos) (tAsg (tLC fr wi tc te) (gName i0)):=by
  intro pins s σ H D0 I h
  rw [exec_Assign_Name_used _ _ _ _ hsw]
  refine wpAny_bind (wpAny_standAt (wpAny_bind ?_))
  have hclos:=clo_eq (scope:=scope) (env:=X.env) (B.clos I.ok)
  show wpAny _ X.A (do let _ ← comprehension (.ListComp elt [⟨.Name x px,iter,ifs,0⟩] scope pos) scope X.env _ (newList []) false (eval iter X.env) (some (assign (.Name y py) X.env))) _ _ s
  refine wpAny_bind (wpAny_mono (wpAny_comprehension_free (use:=some (assign (.Name y py) X.env)) (Q:=fun _ s'=>SP X pins D0 .next s') rfl hs hclos B.kind B.loc
    (thn (hi pins s σ H _ I h) fun v s1 h1=>thn h1 fun itv s2 h2=>?_)) (fun _ s' hq=>wpAny_pure (wpAny_pure hq)) fun _ _ e=>e)
  obtain ⟨it,fp,tn,J,H2,rfl,I2,T,st2,f2,W,⟨m0,w0⟩,turn⟩:=h2
  refine wpAny_newObj_type (wpAny_newFunctionEnv B.cell (by intro y hy; simp at hy) (fun h₁ hns hsb=>?_) B.kind)
  dsimp only at hns hsb ⊢
  generalize hG:s2.heap.push { cls:=.type "list",dict:=none,data:=.seq ([]:List Value).toArray }=G at hns hsb ⊢
  have hC:G.objs.size=s2.heap.objs.size + 1:=by rw [← hG,Heap.size_push]
  have hDC:s2.heap.objs.size≠G.objs.size:=by omega
  have old:∀ b ob,s2.heap.get? b=some ob->h₁.get? b=some ob:=fun b ob e=>by
    have hb:=Heap.lt_size e
    refine hsb.extBut b ob (Nat.ne_of_lt (by rw [hC]; exact Nat.lt_succ_of_lt hb)) (Heap.get?_push_of_some _ ?_)
    rw [← hG]
    exact Heap.get?_push_of_some _ e
  have hacc:h₁.get? s2.heap.objs.size=some { cls:=.type "list",data:=.seq ([]:List Value).toArray 0 }:=by
    refine hsb.extBut _ _ hDC (Heap.get?_push_of_some _ ?_)
    rw [← hG]
    exact Heap.get?_push_size _ rfl
  have hlt:∀ b∈fp,b < s2.heap.objs.size:=fun b hb=>by
    obtain ⟨o,e,_⟩:=T.obj 0 _ st2 b hb
    exact Heap.lt_size e
  have I4:=inv_comp (tk:=s2.toks + ([]:List (Str × Value)).length) (o:=none) I2 B (show s2.heap.objs.size≤G.objs.size by omega) f2 hlt old hns
  have tn4:tn 0 h₁:=T.keep 0 _ _ st2 fun b _ o e=>old b o e
  have Dfs:s2.heap.objs.size ∉ frs X.stack:=fun z=>by
    obtain ⟨_,o,ho,_⟩:=I2.stack.mem z
    exact absurd (Heap.lt_size ho) (Nat.lt_irrefl _)
  have Dcl:∀ y c,X.env.cells.lookup y=some c->c≠s2.heap.objs.size:=fun y c e=>by
    obtain ⟨v,o,ho,_⟩:=I2.cell y c e
    exact Nat.ne_of_lt (Heap.lt_size ho)
  have DL:s2.heap.objs.size≠X.env.locals:=Nat.ne_of_gt I2.lt
  have Dfp:s2.heap.objs.size ∉ fp:=fun z=>absurd (hlt _ z) (Nat.lt_irrefl _)
  have loop:∀ s₃:Shared,s₃={ s2 with heap:=h₁,toks:=s2.toks + ([]:List (Str × Value)).length } ->
      codeAny (model X.prog X.w) X.A (.compLoop (.ListComp elt [⟨.Name x px,iter,ifs,0⟩] scope pos) 0 (.ref it) (.ref s2.heap.objs.size) (compEnvC scope (cloOf X.env.cells scope.names []) G.objs.size X.env))
        (compPost (model X.prog X.w) X.A X.xe (some (assign (.Name y py) X.env)) (fun _ s'=>SP X pins D0 .next s') (.ref s2.heap.objs.size) G.objs.size) s₃:=by
    rintro s₃ rfl
    refine comp_loop
      (fun n s'=>∃ i o H' ys its k,Inv (cxComp X scope (compNs x fr) s2 H2 G.objs.size fp) [] (o::compRest σ fr) H' s'∧tn i s'.heap∧(∀ b∈fp,H' b=none)∧H' s2.heap.objs.size=none ∧
        s'.heap.get? s2.heap.objs.size=some { cls:=.type "list",data:=.seq (its:List Value).toArray k }∧Vals ys its∧W i n ys H') ?_ m0
      ⟨0,none,H2,[],[],0,I4,tn4,fun b hb=>(f2 b hb).1,I2.hok.fresh (Nat.le_refl _),hacc,.nil,w0⟩
    rintro n s5 ⟨i,o,H5,ys,its,k,I5,st5,fr5,D5,hD5,r5,w5⟩
    have fok:∀ {H':Hp},(∀ b∈fp,H' b=none)->∀ b∈fp,FpOk (cxComp X scope (compNs x fr) s2 H2 G.objs.size fp) [] H' b:=fun hn b hb =>
      ⟨hn b hb,(I5.ok.exf b hb).1,I5.ok.exfs b hb,.inl hb,(I5.ok.exf b hb).2,fun p hp=>absurd (show p∈([]:List (Addr × Obj)) from hp) (by simp)⟩
    have dok:∀ {H':Hp},H' s2.heap.objs.size=none->FpOk (cxComp X scope (compNs x fr) s2 H2 G.objs.size fp) [] H' s2.heap.objs.size:=fun hn =>
      ⟨hn,hDC,Dfs,.inr (Nat.le_refl _),fun y c e=>Dcl y c (B.sub I2.ok _ _ e),fun p hp=>absurd (show p∈([]:List (Addr × Obj)) from hp) (by simp)⟩
    obtain ⟨hz,alt⟩:=turn i n ys H5 w5
    have hzl:its.length≤sizeLine:=by rw [← r5.length]; exact Nat.le_of_lt hz
    rcases alt with ⟨stop,fin⟩ | ⟨go,step⟩
    . refine thn (T.done (cxComp X scope (compNs x fr) s2 H2 G.objs.size fp) rfl rfl rfl hc i (pinsAt [s2.heap.objs.size] s5.heap) s5 (o::compRest σ fr) H5 _ ?_ (fun b hb=>?_) st5 stop) fun r s6 ⟨hr,I6⟩=>?_
      . exact (Inv.pinned I5 (fp:=[s2.heap.objs.size]) (fun b hb=>by rw [List.mem_singleton.mp hb]; exact dok D5) fun b hb=>by
          rw [List.mem_singleton.mp hb]
          exact ⟨_,hD5,fun v z=>by cases z⟩)
      . obtain ⟨f0,f1,f2',f3,f4,f5⟩:=fok fr5 b hb
        refine ⟨f0,f1,f2',f3,f4,fun p hp=>?_⟩
        have hp':p∈pinsAt [s2.heap.objs.size] s5.heap:=(List.mem_append.mp hp).elim (fun z=>absurd (show p∈([]:List (Addr × Obj)) from z) (by simp)) id
        have:=(of_pinsAt hp').1
        rw [List.mem_singleton.mp this]
        exact fun e=>Dfp (by rw [e]; exact hb)
      . subst hr
        have hD6:=(I6.pin (s2.heap.objs.size,{ cls:=.type "list",data:=.seq its.toArray k }) (List.mem_append_right _ (mem_pinsAt (by simp) hD5))).1
        obtain ⟨m6,hn6,_⟩:=I6.loc
        have u6:Un (frs X.stack) fp H2 H5 s2.heap s6.heap:=I6.base
        have hC5:H5 G.objs.size=none:=I6.free
        have hCD:G.objs.size≠s2.heap.objs.size:=fun z=>hDC z.symm
        have I7:Inv X pins σ H5 s6:=I2.call' (s':=s6) (I6.os) u6 I6.hok I6.bare fun b hb=>⟨(f2 b hb).2.2.2.1,(f2 b hb).2.1,(f2 b hb).2.2.2.2.1,(f2 b hb).2.2.2.2.2⟩
        have pD:∀ p∈X.pn++pins,p.1≠s2.heap.objs.size:=fun p hp z=>by
          obtain ⟨e,_⟩:=I2.pin p hp
          rw [z] at e
          exact absurd (Heap.lt_size e) (Nat.lt_irrefl _)
        have I8:Inv X pins σ (upd H5 s2.heap.objs.size (.lst ys)) s6:=I7.track D5 I2.sz DL Dcl pD ⟨Nat.le_of_lt hz,its,k,r5,hD6⟩
        have hlt:s2.heap.objs.size < G.objs.size:=by rw [hC]; exact Nat.lt_succ_self _
        have hCu:upd H5 s2.heap.objs.size (.lst ys) G.objs.size=none:=by rw [upd_ne hCD]; exact hC5
        obtain ⟨g0,g1,g2,g3,g4,g5⟩:=I2.fpOk (H':=upd H5 s2.heap.objs.size (.lst ys)) (Nat.le_of_lt hlt) hCu
        obtain ⟨oC,esC,epC,hoC,restC⟩:=id hn6
        have I9:=Inv.pinned I8 (fp:=[G.objs.size]) (fun b hb=>by
          rw [List.mem_singleton.mp hb]
          exact ⟨g0,g1,g2,g3,g4,g5⟩) fun b hb=>by
          rw [List.mem_singleton.mp hb]
          refine ⟨oC,hoC,fun v z=>?_⟩
          have dd:=restC
          simp [z] at dd
        refine thn (pg_name (X:=X) (i:=i0) hN hi0 hx0 hf0 _ s6 σ _ (.ref s2.heap.objs.size) (.ref s2.heap.objs.size) (fun σ' H'=>σ'=σ.set i0 (some (.ref s2.heap.objs.size))∧H'=upd H5 s2.heap.objs.size (.lst ys)) I9 rfl ⟨rfl,rfl⟩) fun _ s8 ⟨σ8,H8,I10,e1,e2⟩=>?_
        subst e1 e2
        have hC8:=(I10.pin (G.objs.size,oC) (List.mem_append_right _ (List.mem_append_right _ (mem_pinsAt (by simp) hoC)))).1
        refine ⟨m6,⟨oC,esC,epC,hC8,restC⟩,fun h' hs'=>?_⟩
        exact ⟨_,_,(Inv.unpinned (pins:=pins) I10).turned (t':=s8.toks) (it:=G.objs.size) (fun b ob hb e=>hs'.extBut b ob hb e) g0 g1 g3 g4 g5,fin _ D5⟩
    . refine anyE (thn (T.item (cxComp X scope (compNs x fr) s2 H2 G.objs.size fp) rfl rfl rfl hc i (pinsAt [s2.heap.objs.size] s5.heap) s5 (o::compRest σ fr) H5 _ ?_ (fun b hb=>?_) st5 go) fun r s6 ⟨u,hr,h6⟩=>?_)
      . exact (Inv.pinned I5 (fp:=[s2.heap.objs.size]) (fun b hb=>by rw [List.mem_singleton.mp hb]; exact dok D5) fun b hb=>by
          rw [List.mem_singleton.mp hb]
          exact ⟨_,hD5,fun v z=>by cases z⟩)
      . obtain ⟨f0,f1,f2',f3,f4,f5⟩:=fok fr5 b hb
        refine ⟨f0,f1,f2',f3,f4,fun p hp=>?_⟩
        have hp':p∈pinsAt [s2.heap.objs.size] s5.heap:=(List.mem_append.mp hp).elim (fun z=>absurd (show p∈([]:List (Addr × Obj)) from z) (by simp)) id
        have:=(of_pinsAt hp').1
        rw [List.mem_singleton.mp this]
        exact fun e=>Dfp (by rw [e]; exact hb)
      . subst hr
        refine thn h6 fun _ s7 ⟨v,H7,I7,rv,y7,st7,fr7⟩=>?_
        have p7:=I7.pin (s2.heap.objs.size,{ cls:=.type "list",data:=.seq its.toArray k }) (List.mem_append_right _ (mem_pinsAt (by simp) hD5))
        have hD7:s7.heap.get? s2.heap.objs.size=some { cls:=.type "list",data:=.seq its.toArray k }:=p7.1
        have D7:H7 s2.heap.objs.size=none:=p7.2.1
        have I7u:Inv (cxComp X scope (compNs x fr) s2 H2 G.objs.size fp) [] (o::compRest σ fr) H7 s7:=Inv.unpinned (pins:=[]) I7
        have I8:=Inv.pinned I7u (fp:=s2.heap.objs.size::fp) (fun b hb=>by
            rcases List.mem_cons.mp hb with e | hb
            . rw [e]; exact dok D7
            . exact fok fr7 b hb) fun b hb=>by
            rcases List.mem_cons.mp hb with e | hb
            . rw [e]; exact ⟨_,hD7,fun v z=>by cases z⟩
            . exact T.obj _ _ st7 b hb
        have hl : Loc (cxComp X scope (compNs x fr) s2 H2 G.objs.size fp).env.scope x := .inl (lookup_relabel_local B.here)
        have pk:∀ {σ':St} {H':Hp} {s':Shared},Inv (cxComp X scope (compNs x fr) s2 H2 G.objs.size fp) ([]++pinsAt (s2.heap.objs.size::fp) s7.heap) σ' H' s' ->
            tn (i + 1) s'.heap∧(∀ b∈fp,H' b=none)∧H' s2.heap.objs.size=none∧s'.heap.get? s2.heap.objs.size=some { cls:=.type "list",data:=.seq its.toArray k }:=fun {σ' H' s'} I'=>by
          have pD:=I'.pin (s2.heap.objs.size,{ cls:=.type "list",data:=.seq its.toArray k }) (List.mem_append_right _ (List.mem_append_right _ (mem_pinsAt (by simp) hD7)))
          refine ⟨T.keep _ _ _ st7 fun b hb ob e=>(I'.pin (b,ob) (List.mem_append_right _ (List.mem_append_right _ (mem_pinsAt (List.mem_cons_of_mem _ hb) e)))).1,fun b hb=>?_,pD.2.1,pD.1⟩
          obtain ⟨ob,e,_⟩:=T.obj _ _ st7 b hb
          exact (I'.pin (b,ob) (List.mem_append_right _ (List.mem_append_right _ (mem_pinsAt (List.mem_cons_of_mem _ hb) e)))).2.1
        refine anyE (thn (pg_name (X := cxComp X scope (compNs x fr) s2 H2 G.objs.size fp) (i := 0) B.nd rfl hl (.inr (lookup_relabel_local B.here)) _ s7 _ H7 v u (fun σ' H' => σ' = some v :: compRest σ fr ∧ H' = H7) I8 rv ⟨rfl, rfl⟩) fun _ s8 ⟨σ8, H8, I9, e1, e2⟩ => ?_)
        subst e1 e2
        refine anyE (thn (ht s2 H2 G.objs.size fp _ s8 _ H8 _ I9 (step v H8 y7)) fun ok s9 ⟨H9,I10,q10⟩=>?_)
        cases ok with
        | false =>
          rw [if_neg Bool.false_ne_true] at q10
          rw [if_neg Bool.false_ne_true]
          obtain ⟨m',hm,w'⟩:=q10
          obtain ⟨k1,k2,k3,k4⟩:=pk I10
          exact ⟨m',hm,i + 1,some v,H9,ys,its,k,Inv.unpinned (pins:=[]) I10,k1,k2,k3,k4,r5,w'⟩
        | true =>
          rw [if_pos rfl] at q10
          rw [if_pos rfl]
          refine anyE (thn (he s2 H2 G.objs.size fp _ s9 _ H9 _ I10 q10) fun y' s10 ⟨y,H10,I11,ry,m',hm,w'⟩=>?_)
          obtain ⟨k1,k2,k3,k4⟩:=pk I11
          refine append_at k4 (fun h' hs' hD'=>?_) (by rw [List.size_toArray]; exact hzl)
          have I12:Inv (cxComp X scope (compNs x fr) s2 H2 G.objs.size fp) [] (some v::compRest σ fr) H10 { s10 with heap:=h' } :=
            (Inv.unpinned (pins:=[]) I11).turned (t':=s10.toks) (it:=s2.heap.objs.size) (fun b ob hb e=>(hs'.2 b hb).trans e) k3 hDC (.inr (Nat.le_refl _)) (fun z c e=>Dcl z c (B.sub I2.ok _ _ e)) fun p hp=>absurd (show p∈([]:List (Addr × Obj)) from hp) (by simp)
          refine ⟨m',hm,i + 1,some v,H10,ys++[y],its++[y'],k + 1,I12,T.keep _ _ _ k1 fun b hb ob e=>(hs'.2 b fun z=>Dfp (by rw [← z]; exact hb)).trans e,k2,k3,?_,r5.append (.cons ry .nil),w'⟩
          rw [hD']
          simp
  exact codeAny_compStart_list (loop _ rfl) (T.self _ 0 _ _ _ tn4 (loop _ rfl))
end
end L2
set_option Elab.async false
set_option linter.all false
set_option maxRecDepth 100000
namespace L2
open PySem PySem.Spec PyProof.Rows
section
variable {P:Program} {w:World} {B:Around} {R:Result->Shared->Prop} {E:Value->Shared->Prop} {t:Shared} {i₀:Addr} {fp wr:List Addr} {n:Nat} {p:Nat->Value->Prop} {st:Nat->Shared->Prop}
end
section
variable {P:Program} {w:World} {A:Around} {E:Value->Shared->Prop} {s:Shared}
end
section
variable {X:Cx}
theorem lay_list {pins:List (Addr × Obj)} {s:Shared} {σ:St} {H:Hp} {Q:VK} {ys:List V} (I:Inv X pins σ H s) (hz:ys.length≤sizeLine) (q:∀ l,H l=none->Q (.ref l) (upd H l (.lst ys)))
    {l:Addr} (hl:s.heap.objs.size≤l) {h':Heap} {k c:Nat} {acc:Array Value} (kp:∀ b o,s.heap.get? b=some o->h'.get? b=some o) (ho:h'.get? l=some { cls:=.type "list",dict:=none,data:=.seq acc c,slots:=#[] }) (rv:Vals ys acc.toList) :
    EP X pins σ Q (.ref l) { s with heap:=h',toks:=k } :=
  ⟨.ref l,_,I.laid kp hl (show ObjOk X.prog X.w _ h' _ (.lst ys) from ⟨hz,acc.toList,c,rv,by simpa using ho⟩),rfl,q _ (I.hok.fresh hl)⟩
def insV (xs:List V) (i:Int) (y:V):List V:=xs.take (if i < 0 then (i + (xs.length:Int)).toNat else min i.toNat xs.length)++y::xs.drop (if i < 0 then (i + (xs.length:Int)).toNat else min i.toNat xs.length)
def rInsert:V->List V->Hp->VK->Prop:=fun x vs H Q=>∃ l xs i y,x=.ref l∧vs=[.int i,y]∧H l=some (.lst xs)∧xs.length < sizeLine∧-(2 ^ 63)≤i∧i < 2 ^ 63∧Q .non (upd H l (.lst (insV xs i y)))
theorem mt_insert:MtM X "list.insert" rInsert:=by
  intro pins s σ H x vs v us Q I rx rv h
  obtain ⟨l,xs,i,y,rfl,rfl,hH,hz,h1,h2,q⟩:=h
  cases rx
  cases rv with
  | cons ri rv =>
    cases rv with
    | cons ry rv =>
      cases rv
      obtain ⟨t,rfl⟩:=ri
      obtain ⟨z,its,n,r,hl,e⟩:=I.lstM hH
      refine call_meets F.slot_list_insert ⟨_,e,rfl⟩ F.entry_list_insert (F.args_list_insert_3 _ _ _) (AutoSeq1.list_insert_list_int_val_1 l its.toArray n i t _ (by rw [fitsIndex_both h1 h2]; decide) (by rw [List.size_toArray]; omega)) ⟨e,?_⟩
      refine ⟨.non,_,I.lset (its':=its.take (if i < 0 then (i + (xs.length:Int)).toNat else min i.toNat xs.length)++_::its.drop (if i < 0 then (i + (xs.length:Int)).toNat else min i.toNat xs.length)) hH e ?_ (r.take _ |>.append (.cons ry (r.drop _))) ?_,rfl,q⟩
      . dsimp only
        rw [List.size_toArray,← hl]
        apply Array.ext'
        simp
        rw [List.take_of_length_le (by rw [List.length_drop]; omega)]
      . simp only [insV,List.length_append,List.length_cons,List.length_take,List.length_drop]
        omega
end
end L2
set_option Elab.async false
set_option linter.all false
set_option maxRecDepth 100000
namespace L2
open PySem PySem.Spec PyProof.Rows
section
variable {prog:Program} {w:World} {A:Around} {E:Value->Shared->Prop} {s:Shared}
theorem pull_list {it t:Addr} {items:Array Value} (hne:t≠it):∀ (n i:Nat) (s:Shared) (Q:List Value->Shared->Prop),s.heap.IsListIter it t i->s.heap.IsList t items->i + n≤items.size ->
    (∀ h':Heap,h'.IsListIter it t (i + n)->Heap.SameBut it s.heap h'->Q ((items.toList.drop i).take n) { s with heap:=h' })->wpAny (model prog w) A (draw (.ref it) n) Q E s
  | 0,i,s,Q,hit,_,_,hQ=>by
    show wpAny _ _ (pure []) Q E s
    exact wpAny_pure (by simpa using hQ s.heap hit (Heap.SameBut.refl ..))
  | n + 1,i,s,Q,hit,ht,hle,hQ=>by
    have hlt:i < items.size:=by omega
    show wpAny _ _ (pyNext (.ref it) >>= _) Q E s
    refine wpAny_bind (wpAny_pyNext_list_item hit ht (x:=items[i]) (by simp [hlt]) fun h1 hit1 hs1=>?_)
    refine wpAny_bind (wpAny_holding (pull_list hne n (i + 1) _ _ hit1 (ht.extBut hs1.extBut hne) (by omega) fun h2 hit2 hs2=>wpAny_pure ?_))
    have hd:items.toList.drop i=items[i]::items.toList.drop (i + 1):=by simp [List.drop_eq_getElem_cons,hlt]
    have:=hQ h2 (by rw [show i + (n + 1)=i + 1 + n by omega]; exact hit2) (hs1.trans hs2)
    rw [hd,List.take_succ_cons] at this
    exact this
theorem unpackItems_lst {t:Addr} {items:Array Value} {Q:List Value->Shared->Prop} (hh:A.handled=none) (ht:s.heap.IsList t items)
    (hQ:∀ h',Heap.ExtBut s.heap.objs.size s.heap h'->Q items.toList { s with heap:=h' }):wpAny (model prog w) A (unpackItems (.ref t) items.size none) Q E s:=by
  have hlt:t≠s.heap.objs.size:=by obtain ⟨o,ho,_⟩:=ht; exact Nat.ne_of_lt (Heap.lt_size ho)
  unfold unpackItems
  refine wpAny_bind ?_
  . unfold notIterableAtAll
    refine wpAny_bind (wpAny_specialOf ht.typeIs slot_list_iter.lookup ?_)
    refine wpAny_pure ?_
    simp only [Bool.false_eq_true,if_false]
    refine wpAny_bind (wpAny_holding (wpAny_pyIter_list ht ?_))
    refine wpAny_bind (wpAny_holding (pull_list hlt items.size 0 _ _ ⟨_,Heap.get?_push_size _ rfl,rfl,rfl⟩ (ht.push _) (by omega) fun h1 hit1 hs1=>?_))
    have hall:List.take items.size (List.drop 0 items.toList)=items.toList:=by
      rw [List.drop_zero]; exact List.take_of_length_le (by simp)
    rw [hall]
    rw [if_neg (by simp)]
    have ht1:h1.IsList t items:=(ht.push _).extBut hs1.extBut hlt
    refine wpAny_bind (wpAny_holding (wpAny_pyNext_list_end hh hit1 ht1 (by simp) fun h2 he2=>?_))
    simp only [Option.isSome_none,Bool.false_eq_true,if_false]
    refine wpAny_pure (hQ h2 fun b o hb e=>he2 b o hb (hs1.extBut b o hb (Heap.get?_push_of_some _ e)))
theorem assign_Tuple_lst {env:Env} {elts:List Expr} {x1} {pos:Pos} {t:Addr} {items:Array Value} {Q:Unit->Shared->Prop} (hh:A.handled=none) (ht:s.heap.IsList t items)
    (hn:(assignEach elts env).length=items.size) (hstar:(assignEach elts env).findIdx? (·.1)=none)
    (h:∀ h',Heap.ExtBut s.heap.objs.size s.heap h'->wpAny (model prog w) A (assignInOrder ((assignEach elts env).map (·.2)) items.toList) Q E { s with heap:=h' }) :
    wpAny (model prog w) A (assign (.Tuple elts x1 pos) env (.ref t)) Q E s:=by
  rw [assign_Tuple]
  refine wpAny_bind (wpAny_standAt ?_)
  unfold unpack
  rw [hn,hstar]
  exact wpAny_bind (wpAny_holding (unpackItems_lst hh ht h))
end
variable {X:Cx}
def gTupL (K:PySem.W.Frag) (n:Nat) (t:TGs):TG:=fun v σ H Q=>∃ a xs,v=.ref a∧(SqT K H a xs∨SqL K H a xs)∧xs.length=n∧t xs σ H Q
theorem pg_tupL {es:List Expr} {k:Nat} {pos:Pos} {t:TGs} {n:Nat} (hc:X.calm=true) (h:PGs X es t)
    (hn:(assignEach es X.env).length=n:=by rfl) (hst:(assignEach es X.env).findIdx? (·.1)=none:=by rfl):PG X (.Tuple es k pos) (gTupL X.K n t):=by
  intro pins s σ H v u Q I r hw
  obtain ⟨a,xs,e1,hq,hl,hw⟩:=hw
  subst e1
  cases r
  rcases hq with hq | hq
  . obtain ⟨its,rv,ht,hz⟩:=I.tuple hq
    refine assign_Tuple_tuple (I.ok.hd hc) ht (by simp [hn,← hl,rv.length]) hst fun h' hx=>?_
    have I1:Inv X pins σ H { s with heap:=h' }:=I.kept (t':=s.toks) fun b o e=>hx b o (Nat.ne_of_lt (Heap.lt_size e)) e
    exact h pins _ σ H xs _ Q I1 (by simpa using rv) hw
  . obtain ⟨its,rv,ht,hz⟩:=I.list hq
    refine assign_Tuple_lst (I.ok.hd hc) ht.isList (by simp [hn,← hl,rv.length]) hst fun h' hx=>?_
    have I1:Inv X pins σ H { s with heap:=h' }:=I.kept (t':=s.toks) fun b o e=>hx b o (Nat.ne_of_lt (Heap.lt_size e)) e
    exact h pins _ σ H xs _ Q I1 (by simpa using rv) hw
end L2
set_option Elab.async false
set_option linter.all false
set_option maxRecDepth 100000
namespace L2
open PySem PySem.Spec PyProof.Rows
structure Flown (P:Program) (w:World) (outer:List Env) (H:Hp) (s:Shared) (E:XK) (ea t:Addr) (cls:Value) (B:Heap) (H':Hp) (s':Shared):Prop where
  os:s'.os=s.os
  bare:AllBare s'.gens
  fly:Heap.FlyingW B outer ea cls (.ref t) s'.heap
  keep:∀ b o,s.heap.get? b=some o->H b=none->b ∉ frs outer->B.get? b=some o
  there:∀ b o,s.heap.get? b=some o->b ∉ frs outer->∃ o',B.get? b=some o'
  slot:∀ b o,s.heap.get? b=some o->b∈frs outer->H b=none->∃ sl,s'.heap.get? b=some { o with slots:=sl }
  free:∀ b o,s.heap.get? b=some o->H b=none->H' b=none
  tups:∀ b xs,H b=some (.tup xs)->H' b=some (.tup xs)
  frzs:∀ b o u,H b=some (.frz o u)->H' b=some (.frz o u)
  tbls:∀ b ps,H b=some (.tbl ps)->∃ more,H' b=some (.tbl (ps++more))
  hok:HOk P w H' B
  wish:E cls none H'
section
variable {X:Cx}
theorem ObjOk.is {P:Program} {w:World} {H:Hp} {h:Heap} {a:Addr} {o:HO} (x:ObjOk P w H h a o):∃ u,h.get? a=some u:=by
  induction o with
  | lst xs=>obtain ⟨z,its,n,r,e⟩:=x; exact ⟨_,e⟩
  | tup xs=>first | (obtain ⟨z,its,r,ob,e,c⟩:=x; exact ⟨_,e⟩) | (obtain ⟨z,its,r,⟨ob,e,c⟩,_⟩:=x; exact ⟨_,e⟩)
  | dK kvs=>obtain ⟨z,y,vs,r,ob,es,ep,e,c⟩:=x; exact ⟨_,e⟩
  | dT kvs=>obtain ⟨z,y,xs,r,ob,es,ep,e,c⟩:=x; exact ⟨_,e⟩
  | set S n=>obtain ⟨ob,es,ep,t,e,c⟩:=x; exact ⟨_,e⟩
  | ins C dx fs=>obtain ⟨_,_,_,e,_⟩:=x; exact ⟨_,e⟩
  | own _=>exact x
  | xd fs=>obtain ⟨_,⟨_,_,_,e,_⟩,_⟩:=x; exact ⟨_,e⟩
  | rng lo hi=>obtain ⟨_,_,_,e⟩:=x; exact ⟨_,e⟩
  | frz ob u=>obtain ⟨e,_⟩:=x; exact ⟨_,e⟩
  | tbl ps=>exact ⟨_,x⟩
  | met f y=>exact ⟨_,x⟩
  | ext φ=>obtain ⟨_,e,_⟩:=x; exact e
theorem ObjOk.tupAt {P:Program} {w:World} {H:Hp} {h:Heap} {a:Addr} {xs:List V} (x:ObjOk P w H h a (.tup xs)):xs.length≤sizeLine∧∃ its:List Value,Vals xs its∧IsTup h a its.toArray:=by
  first | exact x | (obtain ⟨z,its,r,p,_⟩:=x; exact ⟨z,its,r,p⟩)
theorem ObjOk.newTup {P:Program} {w:World} {H:Hp} {h:Heap} {xs:List V} {its:List Value} (hz:xs.length≤sizeLine) (r:Vals xs its):ObjOk P w H (h.push { cls:=.type "tuple",data:=.seq its.toArray }) h.objs.size (.tup xs):=by
  first | exact ⟨hz,its,r,⟨_,Heap.get?_push_size _ rfl,rfl,_,rfl⟩⟩ | exact ⟨hz,its,r,⟨_,Heap.get?_push_size _ rfl,rfl,_,rfl⟩,_,Heap.get?_push_size _ rfl,rfl⟩
end
def Cx.mkd (X:Cx) (e:Addr):Cx:={ X with A:=X.A.mark (some (.ref e)),calm:=false,xe:=fun _ _=>False }
def Cx.inX (X:Cx) (e:Addr) (oe:Obj):Cx:={ X with A:=X.A.mark (some (.ref e)),calm:=false,pn:=(e,oe)::X.pn,xe:=fun _ _=>False }
section
variable {X:Cx} {pins:List (Addr × Obj)} {σ:St} {H:Hp} {s:Shared} {e:Addr} {oe:Obj}
theorem Cx.Ok.mkd (ok:X.Ok):(X.mkd e).Ok:=⟨ok.mod,ok.kind,ok.glob,ok.blt,ok.above,ok.inj,ok.has,ok.cab,fun h=>absurd (show false=true from h) Bool.false_ne_true,ok.frames,ok.stk,ok.exf,ok.bs,ok.bsz,ok.noex,ok.exfs,ok.funs,ok.frf⟩
theorem Inv.mkd (I:Inv X pins σ H s):Inv (X.mkd e) pins σ H s:=⟨I.ok.mkd,I.os,I.bare,I.base,I.loc,I.cell,I.free,I.freeC,I.pin,I.hok,I.len⟩
theorem Cx.Ok.inX (ok:X.Ok):(X.inX e oe).Ok:=⟨ok.mod,ok.kind,ok.glob,ok.blt,ok.above,ok.inj,ok.has,ok.cab,fun h=>absurd (show false=true from h) Bool.false_ne_true,ok.frames,ok.stk,ok.exf,ok.bs,ok.bsz,ok.noex,ok.exfs,ok.funs,ok.frf⟩
theorem Inv.inX (I:Inv X pins σ H s) (h1:s.heap.get? e=some oe) (h2:H e=none) (h3:e≠X.env.locals) (h4:e ∉ X.fs) (h5:∀ v,oe.data≠.cell v):Inv (X.inX e oe) pins σ H s :=
  ⟨I.ok.inX,I.os,I.bare,I.base,I.loc,I.cell,I.free,I.freeC,fun p hp=>by
    rcases List.mem_cons.mp (show p∈(e,oe)::(X.pn++pins) from hp) with rfl | hp
    . exact ⟨h1,h2,h3,h4,h5⟩
    . exact I.pin p hp,I.hok,I.len⟩
def Ends.drop (D:Ends) (i:Nat):Ends:={ nx:=fun σ H=>D.nx (σ.set i none) H,rt:=D.rt,bk:=fun σ H=>D.bk (σ.set i none) H,ct:=fun σ H=>D.ct (σ.set i none) H }
end
end L2
set_option Elab.async false
set_option linter.all false
set_option maxRecDepth 100000
namespace L2
open PySem PySem.Spec PyProof.Rows PySem.W Builtin Builtin.ObjectAttr Builtin.Getset_descriptor
section
variable {prog:Program} {w:World} {A:Around} {E:Value->Shared->Prop} {K:PySem.W.Frag} {a D:Addr} {o:Obj} {h:Heap} {g:Array GenState} {d:Drawn} {t:Nat} {os:OsState}
structure ExcK (K:PySem.W.Frag) (D:Addr):Prop where
  ga:findIn K (.ref D) "__getattribute__" = some (some (.builtin "BaseException.__getattribute__"))
  gn:findIn K (.ref D) "__getattr__" = some none
  ca:findIn K (.ref D) "__class__" = some (some (.builtin "object.__class__"))
  sub:subIn K (.ref D) (.type "BaseException")=some true
  mro:mroIn K D (.type "object")=some true
  gs:specialIn K (.builtin "object.__class__") "__get__" = some (some (.builtin "getset_descriptor.__get__"))
  tk:takesIn K (.builtin "object.__class__")=some true
  cls:(clsIn K D).isSome=true
end
section
variable {X:Cx} {e:Addr} {oe:Obj} {D:Addr}
end
end L2
set_option Elab.async false
set_option linter.all false
set_option maxRecDepth 100000
namespace Mir
open PySem L2
class Zc where
  e:Addr
instance (priority:=10) zc0:Zc:=⟨0⟩
variable [Zc]
noncomputable def cIf {α:Type} (c:Prop) (a b : α) : α:=@ite α c (Classical.propDecidable c) a b
theorem cIf_pos {α:Type} {c:Prop} {a b : α} (h:c):cIf c a b=a:=by unfold cIf; rw [if_pos h]
theorem cIf_neg {α:Type} {c:Prop} {a b : α} (h : ¬ c):cIf c a b=b:=by unfold cIf; rw [if_neg h]
theorem cIf_true {α:Type} {a b : α}:cIf True a b=a:=cIf_pos trivial
theorem cIf_eq {α:Type} {c:Prop} {a:Option α} {x : α} (h:cIf c a none=some x):c∧a=some x:=by
  by_cases hc:c
  . rw [cIf_pos hc] at h; exact ⟨hc,h⟩
  . rw [cIf_neg hc] at h; cases h
abbrev D:=PyData
def KeyD:Key->D->Prop
  | .inl i,c=>c=.int i
  | .inr x,c=>c=.str x
mutual
inductive Rep (H:Hp):V->D->Prop
  | non:Rep H .non .none
  | bl (b:Bool):Rep H (.bl b) (.bool b)
  | int (i:Int):Rep H (.int i) (.int i)
  | str (x:Str):Rep H (.str x) (.str x)
  | lst {a:Addr} {xs:List V} {ds:List D}:Rd H a (.lst xs)->Reps H xs ds->Rep H (.ref a) (.list ds)
  | tup {a:Addr} {xs:List V} {ds:List D}:H a=some (.tup xs)->Reps H xs ds->Rep H (.ref a) (.tuple ds)
  | dct {a:Addr} {kvs:List (Key × V)} {es:List (D × D)}:Rd H a (.dK kvs)->RepKs H kvs es->Rep H (.ref a) (.dict es)
inductive Reps (H:Hp):List V->List D->Prop
  | nil:Reps H [] []
  | cons {x:V} {xs:List V} {d:D} {ds:List D}:Rep H x d->Reps H xs ds->Reps H (x::xs) (d::ds)
inductive RepKs (H:Hp):List (Key × V)->List (D × D)->Prop
  | nil:RepKs H [] []
  | cons {k:Key} {x:V} {kvs:List (Key × V)} {c d:D} {es:List (D × D)}:KeyD k c->Rep H x d->RepKs H kvs es->RepKs H ((k,x)::kvs) ((c,d)::es)
end
theorem rd_same {H H':Hp} (e:Same H H') {a:Addr} {u:HO} (h:Rd H a u):Rd H' a u:=by
  rcases h with h | ⟨o,h⟩
  . exact .inl (e _ _ h)
  . exact .inr ⟨o,e _ _ h⟩
mutual
theorem Rep.mono {H H':Hp} (e:Same H H'):∀ {v:V} {d:D},Rep H v d->Rep H' v d
  | _,_,.non=>.non
  | _,_,.bl b=>.bl b
  | _,_,.int i=>.int i
  | _,_,.str x=>.str x
  | _,_,.lst h r=>.lst (rd_same e h) (Reps.mono e r)
  | _,_,.tup h r=>.tup (e _ _ h) (Reps.mono e r)
  | _,_,.dct h r=>.dct (rd_same e h) (RepKs.mono e r)
theorem Reps.mono {H H':Hp} (e:Same H H'):∀ {v:List V} {d:List D},Reps H v d->Reps H' v d
  | _,_,.nil=>.nil
  | _,_,.cons a b=>.cons (Rep.mono e a) (Reps.mono e b)
theorem RepKs.mono {H H':Hp} (e:Same H H'):∀ {v:List (Key × V)} {d:List (D × D)},RepKs H v d->RepKs H' v d
  | _,_,.nil=>.nil
  | _,_,.cons k a b=>.cons k (Rep.mono e a) (RepKs.mono e b)
end
theorem Reps.length {H:Hp}:∀ {v:List V} {d:List D},Reps H v d->v.length=d.length
  | _,_,.nil=>rfl
  | _,_,.cons _ b=>by simp [Reps.length b]
theorem Reps.get {H:Hp}:∀ {v:List V} {d:List D} (i:Nat),Reps H v d->∀ c,d[i]?=some c->∃ x,v[i]?=some x∧Rep H x c
  | _,_,_,.nil,c,e=>by simp at e
  | _,_,0,.cons a _,c,e=>by simp at e; subst e; exact ⟨_,rfl,a⟩
  | _,_,i + 1,.cons _ b,c,e=>by
    obtain ⟨x,h1,h2⟩:=Reps.get i b c (by simpa using e)
    exact ⟨x,by simpa using h1,h2⟩
theorem Reps.append {H:Hp}:∀ {v w:List V} {d c:List D},Reps H v d->Reps H w c->Reps H (v++w) (d++c)
  | _,_,_,_,.nil,r=>r
  | _,_,_,_,.cons a b,r=>.cons a (Reps.append b r)
theorem Reps.take {H:Hp}:∀ {v:List V} {d:List D} (n:Nat),Reps H v d->Reps H (v.take n) (d.take n)
  | _,_,0,_=>.nil
  | _,_,_ + 1,.nil=>.nil
  | _,_,n + 1,.cons a b=>.cons a (Reps.take n b)
theorem Reps.drop {H:Hp}:∀ {v:List V} {d:List D} (n:Nat),Reps H v d->Reps H (v.drop n) (d.drop n)
  | _,_,0,r=>r
  | _,_,_ + 1,.nil=>.nil
  | _,_,n + 1,.cons _ b=>Reps.drop n b
theorem Reps.set {H:Hp} {x:V} {c:D} (r:Rep H x c):∀ {v:List V} {d:List D} (i:Nat),Reps H v d->Reps H (v.set i x) (d.set i c)
  | _,_,_,.nil=>.nil
  | _,_,0,.cons _ b=>.cons r b
  | _,_,i + 1,.cons a b=>.cons a (Reps.set r i b)
theorem Reps.eraseIdx {H:Hp}:∀ {v:List V} {d:List D} (i:Nat),Reps H v d->Reps H (v.eraseIdx i) (d.eraseIdx i)
  | _,_,_,.nil=>.nil
  | _,_,0,.cons _ b=>b
  | _,_,i + 1,.cons a b=>.cons a (Reps.eraseIdx i b)
theorem Reps.dropLast {H:Hp} {v:List V} {d:List D} (r:Reps H v d):Reps H v.dropLast d.dropLast:=by
  rw [List.dropLast_eq_take,List.dropLast_eq_take,r.length]; exact r.take _
theorem Reps.reverse {H:Hp}:∀ {v:List V} {d:List D},Reps H v d->Reps H v.reverse d.reverse
  | _,_,.nil=>.nil
  | _,_,.cons a b=>by rw [List.reverse_cons,List.reverse_cons]; exact (Reps.reverse b).append (.cons a .nil)
inductive Sl where
  | no | fz (d:D) | own (d:D) | io (d:D) | ro (d:D) | ex
def Sl.isOwn:Sl->Bool
  | .own _=>true
  | .io _=>true
  | _=>false
def Sl.isRef:Sl->Bool
  | .own _=>true
  | .io _=>true
  | .ro _=>true
  | _=>false
theorem Sl.ref_of {s:Sl} (h:s.isOwn=true):s.isRef=true:=by cases s <;> first | rfl | cases h
abbrev Rho:=List Sl
inductive Kd where
  | fz | new | at (i:Nat) | ro
abbrev RV:=D × Kd
inductive Own (B H:Hp) (p:Addr):D->Prop
  | lst {xs:List V} {ds:List D}:H p=some (.lst xs)->Reps B xs ds->Own B H p (.list ds)
  | dct {kvs:List (Key × V)} {es:List (D × D)}:H p=some (.dK kvs)->RepKs B kvs es->Own B H p (.dict es)
theorem Own.there {B H:Hp} {p:Addr} {d:D} (h:Own B H p d):∃ o,H p=some o:=by cases h with
  | lst h _=>exact ⟨_,h⟩
  | dct h _=>exact ⟨_,h⟩
theorem Own.ne_none {B H:Hp} {p:Addr} {d:D} (h:Own B H p d):H p≠none:=by
  obtain ⟨o,e⟩:=h.there; rw [e]; simp
theorem Own.mono {B H B' H':Hp} {p:Addr} {d:D} (h:Own B H p d) (e:Same B B') (k:∀ o,H p=some o->H' p=some o):Own B' H' p d:=by cases h with
  | lst h r=>exact .lst (k _ h) (r.mono e)
  | dct h r=>exact .dct (k _ h) (r.mono e)
theorem Own.notup {B H:Hp} {p:Addr} {d:D} (h:Own B H p d) (xs:List V):H p≠some (.tup xs):=by cases h with
  | lst h _=>rw [h]; simp
  | dct h _=>rw [h]; simp
theorem Own.rep {B H:Hp} {p:Addr} {d:D} (h:Own B H p d) (e:Same B H):Rep H (.ref p) d:=by cases h with
  | lst h r=>exact .lst (.inl h) (r.mono e)
  | dct h r=>exact .dct (.inl h) (r.mono e)
theorem Own.frozen {B H B':Hp} {p:Addr} {d:D} (h:Own B H p d) (e:Same B B') (k:∀ o,H p=some o->B' p=some o):Rep B' (.ref p) d:=by cases h with
  | lst h r=>exact .lst (.inl (k _ h)) (r.mono e)
  | dct h r=>exact .dct (.inl (k _ h)) (r.mono e)
structure Fr where
  B:Hp
  H:Hp
  io:List (Nat × Addr)
  Z:Addr->Prop
def SlotOk (B H:Hp) (σ:St) (i:Nat):Sl->Prop
  | .no=>True
  | .ex=>True
  | .fz d=>∃ v,σ[i]?=some (some v)∧Rep B v d
  | .own d=>∃ p,σ[i]?=some (some (.ref p))∧B p=none∧Own B H p d
  | .io d=>∃ p,σ[i]?=some (some (.ref p))∧B p=none∧Own B H p d
  | .ro d=>∃ p,σ[i]?=some (some (.ref p))∧Own B H p d
structure Rel (F:Fr) (B H:Hp) (σ:St) (ρ:Rho):Prop where
  sub:Same B H
  sB:Same F.B B
  sH:∀ q o,F.H q=some o->(∀ x∈F.io,x.2≠q)->H q=some o
  nB:∀ q,F.H q≠none->F.B q=none->B q=none
  len : ρ.length=σ.length
  slot:∀ (i:Nat) (s:Sl),ρ[i]?=some s->SlotOk B H σ i s
  dist:∀ (i j:Nat) (s t:Sl) (p:Addr),ρ[i]?=some s->s.isOwn=true->ρ[j]?=some t->t.isRef=true->σ[i]?=some (some (.ref p))->σ[j]?=some (some (.ref p))->i=j
  ownN:∀ (i:Nat) (d:D) (p:Addr),ρ[i]?=some (.own d)->σ[i]?=some (some (.ref p))->F.H p=none
  fx:∀ x∈F.io,σ[x.1]?=some (some (.ref x.2))∧∃ d,ρ[x.1]?=some (.io d)
  ioN:∀ (i:Nat) (d:D),ρ[i]?=some (.io d)->∃ p,(i,p)∈F.io
  tupB:∀ q xs,H q=some (.tup xs)->B q=some (.tup xs)
  exv:∀ i:Nat,ρ[i]?=some .ex->σ[i]?=some (some (.ref Zc.e))
  nz:∀ q o u,H q=some (.frz o u)->F.Z q
structure Ext (σ:St) (ρ:Rho) (B H:Hp) (ρ':Rho) (B' H':Hp):Prop where
  sB:Same B B'
  keep:∀ q o,H q=some o->(∀ (i:Nat) (s:Sl),ρ[i]?=some s->s.isOwn=true->σ[i]?≠some (some (.ref q)))->H' q=some o∧(B q=none->B' q=none)
  own:∀ (i:Nat) (s':Sl),ρ'[i]?=some s'->s'.isOwn=true->∃ s,ρ[i]?=some s∧s.isOwn=true
  ref:∀ (i:Nat) (s':Sl),ρ'[i]?=some s'->s'.isRef=true->∃ s,ρ[i]?=some s∧s.isRef=true
  live:∀ q,H' q=none->H q=none
theorem Ext.refl (σ:St) (ρ:Rho) (B H:Hp):Ext σ ρ B H ρ B H:=⟨Same.refl _,fun _ _ h _=>⟨h,id⟩,fun _ s h e=>⟨s,h,e⟩,fun _ s h e=>⟨s,h,e⟩,fun _ h=>h⟩
theorem Ext.trans {σ:St} {ρ ρ1 ρ2:Rho} {B H B1 H1 B2 H2:Hp} (a:Ext σ ρ B H ρ1 B1 H1) (b:Ext σ ρ1 B1 H1 ρ2 B2 H2):Ext σ ρ B H ρ2 B2 H2:=by
  refine ⟨a.sB.trans b.sB,fun q o h n=>?_,fun i s h e=>?_,fun i s h e=>?_,fun q h=>a.live q (b.live q h)⟩
  . obtain ⟨h1,h2⟩:=a.keep q o h n
    obtain ⟨h3,h4⟩:=b.keep q o h1 fun i s e1 e2=>by
      obtain ⟨s',e3,e4⟩:=a.own i s e1 e2
      exact n i s' e3 e4
    exact ⟨h3,fun z=>h4 (h2 z)⟩
  . obtain ⟨s1,h1,e1⟩:=b.own i s h e
    exact a.own i s1 h1 e1
  . obtain ⟨s1,h1,e1⟩:=b.ref i s h e
    exact a.ref i s1 h1 e1
def slD:Sl->D
  | .own d=>d
  | .io d=>d
  | .ro d=>d
  | .fz d=>d
  | .no=>.none
  | .ex=>.none
def Val (F:Fr) (B H:Hp) (σ:St) (ρ:Rho) (v:V) (r:RV):Prop:=match r.2 with
  | .fz=>Rep B v r.1
  | .new=>∃ p,v=.ref p∧B p=none∧F.H p=none∧Own B H p r.1∧∀ (i:Nat) (s:Sl),ρ[i]?=some s->s.isRef=true->σ[i]?≠some (some (.ref p))
  | .at i=>∃ s,ρ[i]?=some s∧s.isOwn=true∧slD s=r.1∧σ[i]?=some (some v)
  | .ro=>∃ p,v=.ref p∧Own B H p r.1∧∀ (i:Nat) (s:Sl),ρ[i]?=some s->s.isOwn=true->σ[i]?≠some (some (.ref p))
def View (B H:Hp) (v:V) (d:D):Prop:=Rep B v d∨∃ p,v=.ref p∧Own B H p d
theorem View.rep {B H:Hp} {v:V} {d:D} (h:View B H v d) (e:Same B H):Rep H v d:=by
  rcases h with h | ⟨p,rfl,h⟩
  . exact h.mono e
  . exact h.rep e
theorem View.list {B H:Hp} {v:V} {ds:List D} (h:View B H v (.list ds)) (e:Same B H):∃ p xs,v=.ref p∧Rd H p (.lst xs)∧Reps B xs ds:=by
  rcases h with h | ⟨p,rfl,h⟩
  . cases h with
    | lst h r=>exact ⟨_,_,rfl,rd_same e h,r⟩
  . cases h with
    | lst h r=>exact ⟨_,_,rfl,.inl h,r⟩
theorem View.tuple {B H:Hp} {v:V} {ds:List D} (h:View B H v (.tuple ds)) (e:Same B H):∃ p xs,v=.ref p∧H p=some (.tup xs)∧Reps B xs ds:=by
  rcases h with h | ⟨p,rfl,h⟩
  . cases h with
    | tup h r=>exact ⟨_,_,rfl,e _ _ h,r⟩
  . cases h
theorem View.dict {B H:Hp} {v:V} {es:List (D × D)} (h:View B H v (.dict es)) (e:Same B H):∃ p kvs,v=.ref p∧Rd H p (.dK kvs)∧RepKs B kvs es:=by
  rcases h with h | ⟨p,rfl,h⟩
  . cases h with
    | dct h r=>exact ⟨_,_,rfl,rd_same e h,r⟩
  . cases h with
    | dct h r=>exact ⟨_,_,rfl,.inl h,r⟩
theorem View.int {B H:Hp} {v:V} {i:Int} (h:View B H v (.int i)):v=.int i:=by
  rcases h with h | ⟨p,rfl,h⟩
  . cases h; rfl
  . cases h
theorem View.bool {B H:Hp} {v:V} {b:Bool} (h:View B H v (.bool b)):v=.bl b:=by
  rcases h with h | ⟨p,rfl,h⟩
  . cases h; rfl
  . cases h
theorem View.str {B H:Hp} {v:V} {x:Str} (h:View B H v (.str x)):v=.str x:=by
  rcases h with h | ⟨p,rfl,h⟩
  . cases h; rfl
  . cases h
theorem View.none {B H:Hp} {v:V} (h:View B H v .none):v=.non:=by
  rcases h with h | ⟨p,rfl,h⟩
  . cases h; rfl
  . cases h
section
variable {F:Fr} {B H B' H':Hp} {σ:St} {ρ ρ':Rho} {v:V} {r:RV}
theorem Rel.ownAt (R:Rel F B H σ ρ) {i:Nat} {s:Sl} (h : ρ[i]?=some s) (e:s.isOwn=true):∃ p,σ[i]?=some (some (.ref p))∧B p=Option.none∧Own B H p (slD s):=by
  have:=R.slot i s h
  cases s with
  | own d=>exact this
  | io d=>exact this
  | _=>cases e
theorem Val.view (R:Rel F B H σ ρ) (h:Val F B H σ ρ v r):View B H v r.1:=by
  obtain ⟨d,k⟩:=r
  cases k with
  | fz=>exact .inl h
  | new=>obtain ⟨p,rfl,_,_,o,_⟩:=h; exact .inr ⟨p,rfl,o⟩
  | «at» i =>
    obtain ⟨s,h1,h2,h3,h4⟩:=h
    obtain ⟨p,e1,e2,e3⟩:=R.ownAt h1 h2
    rw [h4] at e1
    cases e1
    exact .inr ⟨p,rfl,h3 ▸ e3⟩
  | ro=>obtain ⟨p,rfl,o,_⟩:=h; exact .inr ⟨p,rfl,o⟩
theorem Rel.freezeNew (R:Rel F B H σ ρ) {d:D} (h:Val F B H σ ρ v (d,.new)):∃ B',Rel F B' H σ ρ∧Rep B' v d∧Same B B'∧∀ q,v≠.ref q->B' q=B q:=by
  obtain ⟨p,rfl,hB,hF,o,nn⟩:=h
  obtain ⟨ob,hp⟩:=o.there
  have e:Same B (upd B p ob):=same_upd hB
  have ne:∀ (i:Nat) (s:Sl) (q:Addr),ρ[i]?=some s->s.isRef=true->σ[i]?=some (some (.ref q))->q≠p:=fun i s q h1 h2 h3 z=>nn i s h1 h2 (z ▸ h3)
  refine ⟨upd B p ob,⟨?_,R.sB.trans e,R.sH,?_,R.len,?_,R.dist,R.ownN,R.fx,R.ioN,(fun q xs h=>e _ _ (R.tupB q xs h)),R.exv,R.nz⟩,?_,e,fun q hq=>upd_ne fun z=>hq (z ▸ rfl)⟩
  . intro q u hq
    by_cases z:q=p
    . subst z; rw [upd_same] at hq; cases hq; exact hp
    . rw [upd_ne z] at hq; exact R.sub q u hq
  . intro q h1 h2
    have z:q≠p:=fun z=>h1 (z ▸ hF)
    rw [upd_ne z]; exact R.nB q h1 h2
  . intro i s hs
    have q:=R.slot i s hs
    cases s with
    | no=>trivial
    | ex=>trivial
    | fz d=>obtain ⟨x,h1,h2⟩:=q; exact ⟨x,h1,h2.mono e⟩
    | own d=>obtain ⟨q,h1,h2,h3⟩:=q; exact ⟨q,h1,by rw [upd_ne (ne i _ q hs rfl h1)]; exact h2,h3.mono e fun _ z=>z⟩
    | io d=>obtain ⟨q,h1,h2,h3⟩:=q; exact ⟨q,h1,by rw [upd_ne (ne i _ q hs rfl h1)]; exact h2,h3.mono e fun _ z=>z⟩
    | ro d=>obtain ⟨q,h1,h3⟩:=q; exact ⟨q,h1,h3.mono e fun _ z=>z⟩
  . exact o.frozen e fun u h=>by rw [upd_same,← h,hp]
theorem get_set {i j:Nat} {s t:Sl} (h:(ρ.set i s)[j]?=some t):(j=i∧t=s∧i < ρ.length)∨(j≠i∧ρ[j]?=some t):=by
  by_cases z:j=i
  . subst z
    have hl:j < ρ.length:=by
      have:=List.getElem?_eq_some_iff.mp h
      obtain ⟨hh,_⟩:=this
      simpa using hh
    rw [List.getElem?_set_self hl] at h
    exact .inl ⟨rfl,(Option.some.inj h).symm,hl⟩
  . rw [List.getElem?_set_ne (fun e=>z e.symm)] at h
    exact .inr ⟨z,h⟩
theorem ex_set {ρ:Rho} {i j:Nat} {s:Sl} (hs:s≠.ex) (h:(ρ.set i s)[j]?=some .ex) : ρ[j]?=some .ex∧j≠i:=by
  rcases get_set h with ⟨_,z,_⟩ | ⟨hj,h⟩
  . exact absurd z.symm hs
  . exact ⟨h,hj⟩
theorem Rel.freezeAt (R:Rel F B H σ ρ) {i:Nat} {d:D} (hi : ρ[i]?=some (.own d)) (hv : σ[i]?=some (some v)):∃ B',Rel F B' H σ (ρ.set i (.fz d))∧Rep B' v d∧Ext σ ρ B H (ρ.set i (.fz d)) B' H:=by
  obtain ⟨p,h1,hB,o⟩:=R.slot i _ hi
  rw [hv] at h1
  cases h1
  have hF:=R.ownN i d p hi hv
  obtain ⟨ob,hp⟩:=o.there
  have e:Same B (upd B p ob):=same_upd hB
  have rp:Rep (upd B p ob) (.ref p) d:=o.frozen e fun u h=>by rw [upd_same,← h,hp]
  have ne:∀ (j:Nat) (s:Sl) (q:Addr),j≠i->ρ[j]?=some s->s.isRef=true->σ[j]?=some (some (.ref q))->q≠p:=fun j s q hj h1 h2 h3 z=>hj (R.dist i j _ s p hi rfl h1 h2 hv (z ▸ h3)).symm
  refine ⟨upd B p ob,⟨?_,R.sB.trans e,R.sH,?_,by rw [List.length_set]; exact R.len,?_,?_,?_,?_,?_,(fun q xs h=>e _ _ (R.tupB q xs h)),(fun j h=>R.exv j (ex_set (by simp) h).1),R.nz⟩,rp,⟨e,?_,?_,?_,fun _ h=>h⟩⟩
  . intro q u hq
    by_cases z:q=p
    . subst z; rw [upd_same] at hq; cases hq; exact hp
    . rw [upd_ne z] at hq; exact R.sub q u hq
  . intro q h1 h2
    have z:q≠p:=fun z=>h1 (z ▸ hF)
    rw [upd_ne z]; exact R.nB q h1 h2
  . intro j s hs
    rcases get_set hs with ⟨rfl,rfl,_⟩ | ⟨hj,hs⟩
    . exact ⟨_,hv,rp⟩
    . have q:=R.slot j s hs
      cases s with
      | no=>trivial
      | ex=>trivial
      | fz d=>obtain ⟨x,h1,h2⟩:=q; exact ⟨x,h1,h2.mono e⟩
      | own d=>obtain ⟨q,h1,h2,h3⟩:=q; exact ⟨q,h1,by rw [upd_ne (ne j _ q hj hs rfl h1)]; exact h2,h3.mono e fun _ z=>z⟩
      | io d=>obtain ⟨q,h1,h2,h3⟩:=q; exact ⟨q,h1,by rw [upd_ne (ne j _ q hj hs rfl h1)]; exact h2,h3.mono e fun _ z=>z⟩
      | ro d=>obtain ⟨q,h1,h3⟩:=q; exact ⟨q,h1,h3.mono e fun _ z=>z⟩
  . intro a b s t q h1 h2 h3 h4 h5 h6
    rcases get_set h1 with ⟨rfl,rfl,_⟩ | ⟨ha,h1⟩
    . cases h2
    . rcases get_set h3 with ⟨rfl,rfl,_⟩ | ⟨hb,h3⟩
      . cases h4
      . exact R.dist a b s t q h1 h2 h3 h4 h5 h6
  . intro j c q h1 h2
    rcases get_set h1 with ⟨rfl,h,_⟩ | ⟨_,h1⟩
    . cases h
    . exact R.ownN j c q h1 h2
  . intro x hx
    obtain ⟨h1,c,h2⟩:=R.fx x hx
    refine ⟨h1,c,?_⟩
    by_cases z:i=x.1
    . subst z; rw [hi] at h2; cases h2
    . rw [List.getElem?_set_ne z]; exact h2
  . intro j c h1
    rcases get_set h1 with ⟨rfl,h,_⟩ | ⟨_,h1⟩
    . cases h
    . exact R.ioN j c h1
  . intro q u hq hn
    refine ⟨hq,fun z=>?_⟩
    rw [upd_ne (show q≠p from fun y=>hn i _ hi rfl (by rw [y]; exact hv))]; exact z
  . intro j s h1 h2
    rcases get_set h1 with ⟨rfl,rfl,_⟩ | ⟨_,h1⟩
    . cases h2
    . exact ⟨s,h1,h2⟩
  . intro j s h1 h2
    rcases get_set h1 with ⟨rfl,rfl,_⟩ | ⟨_,h1⟩
    . cases h2
    . exact ⟨s,h1,h2⟩
theorem Rel.free (R:Rel F B H σ ρ) {p:Addr} (hp:H p=none):B p=none∧F.H p=none∧∀ (i:Nat) (s:Sl),ρ[i]?=some s->s.isRef=true->σ[i]?≠some (some (.ref p)):=by
  have hB:B p=none:=R.sub.free hp
  have nn:∀ (i:Nat) (s:Sl),ρ[i]?=some s->s.isRef=true->σ[i]?≠some (some (.ref p)):=fun i s h1 h2 h3=>by
    have q:=R.slot i s h1
    cases s with
    | own d=>obtain ⟨q,e1,_,e3⟩:=q; rw [h3] at e1; cases e1; exact e3.ne_none hp
    | io d=>obtain ⟨q,e1,_,e3⟩:=q; rw [h3] at e1; cases e1; exact e3.ne_none hp
    | ro d=>obtain ⟨q,e1,e3⟩:=q; rw [h3] at e1; cases e1; exact e3.ne_none hp
    | no=>cases h2
    | ex=>cases h2
    | fz d=>cases h2
  refine ⟨hB,?_,nn⟩
  cases q:F.H p with
  | none=>rfl
  | some u =>
    by_cases z:∃ x∈F.io,x.2=p
    . obtain ⟨x,hx,rfl⟩:=z
      obtain ⟨h1,d,h2⟩:=R.fx x hx
      exact absurd h1 (nn _ _ h2 rfl)
    . have:=R.sH p u q fun x hx y=>z ⟨x,hx,y⟩
      rw [hp] at this; cases this
theorem Rel.grow (R:Rel F B H σ ρ) (eB:Same B B') (eH:Same H H') (sub:Same B' H') (nb:∀ q,H q≠none->B q=none->B' q=none) (tB:∀ q xs,H' q=some (.tup xs)->B' q=some (.tup xs)) (nf:∀ q o u,H' q=some (.frz o u)->H q≠none):Rel F B' H' σ ρ:=by
  have lv:∀ q,F.H q≠none->H q≠none:=fun q h z=>h (R.free z).2.1
  refine ⟨sub,R.sB.trans eB,fun q u h1 h2=>eH _ _ (R.sH q u h1 h2),fun q h1 h2=>nb q (lv q h1) (R.nB q h1 h2),R.len,fun i s hs=>?_,R.dist,R.ownN,R.fx,R.ioN,tB,R.exv,fun q o u h=>by
    cases y:H q with
    | none=>exact absurd y (nf q o u h)
    | some x =>
      have:=eH q x y
      rw [h] at this
      cases this
      exact R.nz q o u y⟩
  have q:=R.slot i s hs
  cases s with
  | no=>trivial
  | ex=>trivial
  | fz d=>obtain ⟨x,h1,h2⟩:=q; exact ⟨x,h1,h2.mono eB⟩
  | own d=>obtain ⟨q,h1,h2,h3⟩:=q; exact ⟨q,h1,nb q h3.ne_none h2,h3.mono eB fun _ z=>eH _ _ z⟩
  | io d=>obtain ⟨q,h1,h2,h3⟩:=q; exact ⟨q,h1,nb q h3.ne_none h2,h3.mono eB fun _ z=>eH _ _ z⟩
  | ro d=>obtain ⟨q,h1,h3⟩:=q; exact ⟨q,h1,h3.mono eB fun _ z=>eH _ _ z⟩
theorem Ext.grow (eB:Same B B') (eH:Same H H') (nb:∀ q,H q≠none->B q=none->B' q=none):Ext σ ρ B H ρ B' H' :=
  ⟨eB,fun q u h _=>⟨eH _ _ h,fun z=>nb q (by rw [h]; simp) z⟩,fun _ s h z=>⟨s,h,z⟩,fun _ s h z=>⟨s,h,z⟩,fun q h=>eH.free h⟩
theorem Rel.lay (R:Rel F B H σ ρ) {p:Addr} {o:HO} (hp:H p=none) (no:(∀ xs,o≠.tup xs)∧∀ a u,o≠.frz a u):Rel F B (upd H p o) σ ρ∧Ext σ ρ B H ρ B (upd H p o):=by
  have e:Same H (upd H p o):=same_upd hp
  refine ⟨R.grow (Same.refl _) e (R.sub.trans e) (fun _ _ z=>z) (fun q xs h=>?_) (fun q a u h y=>?_),Ext.grow (Same.refl _) e fun _ _ z=>z⟩
  . by_cases z:q=p
    . subst z; rw [upd_same] at h; cases h; exact absurd rfl (no.1 xs)
    . rw [upd_ne z] at h; exact R.tupB q xs h
  . by_cases z:q=p
    . subst z; rw [upd_same] at h; cases h; exact no.2 _ _ rfl
    . rw [upd_ne z,y] at h; cases h
theorem Rel.layT (R:Rel F B H σ ρ) {p:Addr} {xs:List V} (hp:H p=none):Rel F (upd B p (.tup xs)) (upd H p (.tup xs)) σ ρ∧Ext σ ρ B H ρ (upd B p (.tup xs)) (upd H p (.tup xs))∧Same B (upd B p (.tup xs)):=by
  have hB:=(R.free hp).1
  have eH:Same H (upd H p (.tup xs)):=same_upd hp
  have eB:Same B (upd B p (.tup xs)):=same_upd hB
  have nb:∀ q,H q≠none->B q=none->upd B p (.tup xs) q=none:=fun q h z=>by rw [upd_ne (show q≠p from fun y=>h (by rw [y]; exact hp))]; exact z
  refine ⟨R.grow eB eH (fun q u h=>?_) nb (fun q ys h=>?_) (fun q a u h y=>?_),Ext.grow eB eH nb,eB⟩
  . by_cases z:q=p
    . subst z; rw [upd_same] at h ⊢; exact h
    . rw [upd_ne z] at h ⊢; exact R.sub q u h
  . by_cases z:q=p
    . subst z; rw [upd_same] at h ⊢; exact h
    . rw [upd_ne z] at h ⊢; exact R.tupB q ys h
  . by_cases z:q=p
    . subst z; rw [upd_same] at h; cases h
    . rw [upd_ne z,y] at h; cases h
end
end Mir
set_option Elab.async false
set_option linter.all false
set_option maxRecDepth 100000
namespace Mir
open PySem L2
variable [Zc]
abbrev PM:=Rho->Option (RV × Rho)
def ME (t:TE) (m:PM):Prop :=
  ∀ (F:Fr) (B H:Hp) (σ:St) (ρ:Rho) (r:RV) (ρ':Rho) (Q:VK),Rel F B H σ ρ->m ρ=some (r,ρ') ->
    (∀ v B' H',Ext σ ρ B H ρ' B' H'->Rel F B' H' σ ρ'->Val F B' H' σ ρ' v r->(∀ p,r.2=.new->v=.ref p->H p=none)->Q v H')->t σ H Q
def MT (t:TT) (m:Rho->Option (Bool × Rho)):Prop :=
  ∀ (F:Fr) (B H:Hp) (σ:St) (ρ:Rho) (b:Bool) (ρ':Rho) (Q:Bool->Hp->Prop),Rel F B H σ ρ->m ρ=some (b,ρ') ->
    (∀ B' H',Ext σ ρ B H ρ' B' H'->Rel F B' H' σ ρ'->Q b H')->t σ H Q
def Vl (F:Fr) (B H:Hp) (σ:St) (ρ:Rho):List V->List RV->Prop
  | [],[]=>True
  | v::vs,r::rs=>(Val F B H σ ρ v r∧r.2≠.new)∧Vl F B H σ ρ vs rs
  | _,_=>False
def MA (t:TA) (m:Rho->Option (List RV × Rho)):Prop :=
  ∀ (F:Fr) (B H:Hp) (σ:St) (ρ:Rho) (rs:List RV) (ρ':Rho) (Q:List V->Hp->Prop),Rel F B H σ ρ->m ρ=some (rs,ρ') ->
    (∀ vs B' H',Ext σ ρ B H ρ' B' H'->Rel F B' H' σ ρ'->Vl F B' H' σ ρ' vs rs->Q vs H')->t σ H Q
def sv (m:PM):PM:=fun ρ=>match m ρ with
  | some ((d,.new),ρ')=>some ((d,.fz),ρ')
  | x=>x
theorem sv_kind {m:PM} {ρ ρ':Rho} {r:RV} (h:sv m ρ=some (r,ρ')):r.2≠.new:=by
  unfold sv at h
  split at h
  . cases h; simp
  . rename_i hx
    intro e
    obtain ⟨d,k⟩:=r
    cases (show k=.new from e)
    exact hx d ρ' h
theorem ME.sv {t:TE} {m:PM} (h:ME t m):ME t (sv m):=by
  intro F B H σ ρ r ρ' Q R e q
  unfold Mir.sv at e
  split at e
  . rename_i d ρ1 e1
    cases e
    refine h F B H σ ρ _ _ Q R e1 fun v B' H' E R' V' N=>?_
    obtain ⟨B2,R2,rp,s2,k2⟩:=R'.freezeNew V'
    refine q v B2 H' ⟨E.sB.trans s2,fun q o h1 h2=>?_,E.own,E.ref,E.live⟩ R2 rp (fun _ z=>by cases z)
    obtain ⟨h3,h4⟩:=E.keep q o h1 h2
    refine ⟨h3,fun z=>?_⟩
    rw [k2 q fun y=>by
      have:=N q rfl y
      rw [h1] at this; cases this]
    exact h4 z
  . exact h F B H σ ρ r ρ' Q R e q
def refr (ρ:Rho) (r:RV):Option RV:=match r.2 with
  | .at i=>match ρ[i]? with
    | some (.own d)=>some (d,.at i)
    | some (.io d)=>some (d,.at i)
    | some (.fz d)=>some (d,.fz)
    | _=>none
  | _=>some r
section
variable {F:Fr} {B H B' H':Hp} {σ:St} {ρ ρ':Rho} {v:V} {r r':RV}
theorem Val.next (E:Ext σ ρ B H ρ' B' H') (R':Rel F B' H' σ ρ') (h:Val F B H σ ρ v r) (nn:r.2≠.new) (e:refr ρ' r=some r'):Val F B' H' σ ρ' v r'∧r'.2≠.new:=by
  obtain ⟨d,k⟩:=r
  cases k with
  | fz=>cases e; exact ⟨Rep.mono E.sB h,nn⟩
  | new=>exact absurd rfl nn
  | «at» i =>
    obtain ⟨s,h1,h2,h3,h4⟩:=h
    have e':(match ρ'[i]? with
      | some (.own d)=>some (d,Kd.at i)
      | some (.io d)=>some (d,Kd.at i)
      | some (.fz d)=>some (d,Kd.fz)
      | _=>none)=some r':=e
    cases q : ρ'[i]? with
    | none=>rw [q] at e'; cases e'
    | some s' =>
      rw [q] at e'
      cases s' with
      | own c=>cases e'; exact ⟨⟨_,q,rfl,rfl,h4⟩,by simp⟩
      | io c=>cases e'; exact ⟨⟨_,q,rfl,rfl,h4⟩,by simp⟩
      | fz c =>
        cases e'
        obtain ⟨x,y1,y2⟩:=R'.slot i _ q
        rw [h4] at y1; cases y1
        exact ⟨y2,by simp⟩
      | no=>cases e'
      | ex=>cases e'
      | ro c=>cases e'
  | ro =>
    cases e
    obtain ⟨p,rfl,o,n⟩:=h
    obtain ⟨ob,hp⟩:=o.there
    refine ⟨⟨p,rfl,o.mono E.sB fun u hu=>(E.keep p u hu n).1,fun i s h1 h2=>?_⟩,nn⟩
    obtain ⟨s0,h3,h4⟩:=E.own i s h1 h2
    exact n i s0 h3 h4
end
def ResOk (B H:Hp) (res:D × Bool) (k:VK->Prop):Prop:=match res with
  | (d,false)=>∃ v,Rep B v d∧∀ Q:VK,Q v H->k Q
  | (.list ds,true)=>∃ vs,Reps B vs ds∧∀ Q:VK,(∀ p,H p=none->Q (.ref p) (upd H p (.lst vs)))->k Q
  | (.tuple ds,true)=>∃ vs,Reps B vs ds∧∀ Q:VK,(∀ p,H p=none->Q (.ref p) (upd H p (.tup vs)))->k Q
  | (.dict es,true)=>∃ kvs,RepKs B kvs es∧∀ Q:VK,(∀ p,H p=none->Q (.ref p) (upd H p (.dK kvs)))->k Q
  | _=>False
def resK:D × Bool->RV
  | (d,false)=>(d,.fz)
  | (.tuple ds,true)=>(.tuple ds,.fz)
  | (d,true)=>(d,.new)
theorem res_end {F:Fr} {B H:Hp} {σ:St} {ρ:Rho} {res:D × Bool} {k:VK->Prop} {Q:VK} (R:Rel F B H σ ρ) (h:ResOk B H res k)
    (q:∀ v B' H',Ext σ ρ B H ρ B' H'->Rel F B' H' σ ρ->Val F B' H' σ ρ v (resK res)->(∀ p,(resK res).2=.new->v=.ref p->H p=none)->Q v H'):k Q:=by
  obtain ⟨d,b⟩:=res
  cases b with
  | false =>
    obtain ⟨v,rp,hk⟩:=h
    exact hk Q (q v B H (Ext.refl _ _ _ _) R rp fun p z=>by cases z)
  | true =>
    cases d with
    | list ds =>
      obtain ⟨vs,rp,hk⟩:=h
      refine hk Q fun p hp=>?_
      obtain ⟨R',E⟩:=R.lay (o:=.lst vs) hp ⟨(fun _ z=>by cases z),fun _ _ z=>by cases z⟩
      obtain ⟨hB,hF,nn⟩:=R.free hp
      exact q _ B _ E R' ⟨p,rfl,hB,hF,.lst upd_same rp,nn⟩ fun q _ z=>by cases z; exact hp
    | dict es =>
      obtain ⟨kvs,rp,hk⟩:=h
      refine hk Q fun p hp=>?_
      obtain ⟨R',E⟩:=R.lay (o:=.dK kvs) hp ⟨(fun _ z=>by cases z),fun _ _ z=>by cases z⟩
      obtain ⟨hB,hF,nn⟩:=R.free hp
      exact q _ B _ E R' ⟨p,rfl,hB,hF,.dct upd_same rp,nn⟩ fun q _ z=>by cases z; exact hp
    | tuple ds =>
      obtain ⟨vs,rp,hk⟩:=h
      refine hk Q fun p hp=>?_
      obtain ⟨R',E,e⟩:=R.layT (xs:=vs) hp
      exact q _ _ _ E R' (show Rep _ _ _ from .tup upd_same (rp.mono e)) fun q z=>by cases z
    | none=>exact h.elim
    | bool _=>exact h.elim
    | int _=>exact h.elim
    | str _=>exact h.elim
def mC (d:D):PM:=fun ρ=>some ((d,.fz),ρ)
theorem me_c {v:V} {d:D} (h:∀ B,Rep B v d):ME (tC v) (mC d):=by
  intro F B H σ ρ r ρ' Q R e q
  cases e
  exact q v B H (Ext.refl _ _ _ _) R (h B) fun p z=>by cases z
theorem me_int {i:Int}:ME (tC (.int i)) (mC (.int i)):=me_c fun _=>.int i
theorem me_bl {b:Bool}:ME (tC (.bl b)) (mC (.bool b)):=me_c fun _=>.bl b
theorem me_non:ME (tC .non) (mC .none):=me_c fun _=>.non
theorem me_str {x:Str}:ME (tC (.str x)) (mC (.str x)):=me_c fun _=>.str x
def mVar (i:Nat):PM:=fun ρ=>match ρ[i]? with
  | some (.fz d)=>some ((d,.fz),ρ)
  | some (.own d)=>some ((d,.at i),ρ)
  | some (.io d)=>some ((d,.at i),ρ)
  | some (.ro d)=>some ((d,.ro),ρ)
  | _=>none
theorem me_var {i:Nat}:ME (tVar i) (mVar i):=by
  intro F B H σ ρ r ρ' Q R e q
  unfold mVar at e
  cases hs : ρ[i]? with
  | none=>rw [hs] at e; cases e
  | some s =>
    rw [hs] at e
    have sl:=R.slot i s hs
    cases s with
    | no=>cases e
    | ex=>cases e
    | fz d =>
      cases e
      obtain ⟨v,h1,h2⟩:=sl
      exact ⟨v,h1,q v B H (Ext.refl _ _ _ _) R h2 fun p z=>by cases z⟩
    | own d =>
      cases e
      obtain ⟨p,h1,h2,h3⟩:=sl
      exact ⟨_,h1,q _ B H (Ext.refl _ _ _ _) R ⟨_,hs,rfl,rfl,h1⟩ fun p z=>by cases z⟩
    | io d =>
      cases e
      obtain ⟨p,h1,h2,h3⟩:=sl
      exact ⟨_,h1,q _ B H (Ext.refl _ _ _ _) R ⟨_,hs,rfl,rfl,h1⟩ fun p z=>by cases z⟩
    | ro d =>
      cases e
      obtain ⟨p,h1,h3⟩:=sl
      refine ⟨_,h1,q _ B H (Ext.refl _ _ _ _) R ⟨p,rfl,h3,fun j s h4 h5 h6=>?_⟩ fun p z=>by cases z⟩
      have:=R.dist j i s _ p h4 h5 hs rfl h6 h1
      subst this
      rw [hs] at h4; cases h4; cases h5
def OpJ (r:R2) (g:D->D->Option (D × Bool)):Prop :=
  ∀ (B H:Hp) (x y:V) (c d:D) (res:D × Bool),Same B H->View B H x c->View B H y d->g c d=some res->ResOk B H res fun Q=>r x y H Q
def mOp (g:D->D->Option (D × Bool)) (a b:PM):PM:=fun ρ=>(sv a ρ).bind fun x=>(sv b x.2).bind fun y=>(refr y.2 x.1).bind fun r=>(g r.1 y.1.1).map fun res=>(resK res,y.2)
theorem me_op {r:R2} {g:D->D->Option (D × Bool)} {ta tb:TE} {a b:PM} (J:OpJ r g) (ha:ME ta a) (hb:ME tb b):ME (tOp r ta tb) (mOp g a b):=by
  intro F B H σ ρ r0 ρ' Q R e q
  obtain ⟨x,e1,e⟩:=Option.bind_eq_some_iff.mp e
  obtain ⟨y,e2,e⟩:=Option.bind_eq_some_iff.mp e
  obtain ⟨r',e3,e⟩:=Option.bind_eq_some_iff.mp e
  obtain ⟨res,e4,e⟩:=Option.map_eq_some_iff.mp e
  cases e
  refine ha.sv F B H σ ρ x.1 x.2 _ R e1 fun v B1 H1 E1 R1 V1 N1=>?_
  refine hb.sv F B1 H1 σ x.2 y.1 y.2 _ R1 e2 fun u B2 H2 E2 R2 V2 N2=>?_
  obtain ⟨V3,n3⟩:=V1.next E2 R2 (sv_kind e1) e3
  refine res_end R2 (J B2 H2 v u r'.1 y.1.1 res R2.sub (V3.view R2) (V2.view R2) e4) fun w B3 H3 E3 R3 V4 N4=>?_
  refine q w B3 H3 (E1.trans (E2.trans E3)) R3 V4 fun p z1 z2=>?_
  exact E1.live p (E2.live p (N4 p z1 z2))
end Mir
set_option Elab.async false
set_option linter.all false
set_option maxRecDepth 100000
namespace Mir
open PySem L2
variable [Zc]
theorem Ext.fresh {σ:St} {ρ ρ':Rho} {B H B' H':Hp} (E:Ext σ ρ B H ρ' B' H') {p:Addr} (h:H' p=none):H p=none:=E.live p h
def UnJ (r:V->Hp->VK->Prop) (g:D->Option (D × Bool)):Prop:=∀ (B H:Hp) (x:V) (c:D) (res:D × Bool),Same B H->View B H x c->g c=some res->ResOk B H res fun Q=>r x H Q
def mUn (g:D->Option (D × Bool)) (a:PM):PM:=fun ρ=>(sv a ρ).bind fun x=>(g x.1.1).map fun res=>(resK res,x.2)
theorem me_un {r:V->Hp->VK->Prop} {g:D->Option (D × Bool)} {ta:TE} {a:PM} (J:UnJ r g) (ha:ME ta a):ME (tUn r ta) (mUn g a):=by
  intro F B H σ ρ r0 ρ' Q R e q
  obtain ⟨x,e1,e⟩:=Option.bind_eq_some_iff.mp e
  obtain ⟨res,e4,e⟩:=Option.map_eq_some_iff.mp e
  cases e
  refine ha.sv F B H σ ρ x.1 x.2 _ R e1 fun v B1 H1 E1 R1 V1 N1=>?_
  exact res_end R1 (J B1 H1 v x.1.1 res R1.sub (V1.view R1) e4) fun w B3 H3 E3 R3 V4 N4=>q w B3 H3 (E1.trans E3) R3 V4 fun p z1 z2=>E1.live p (N4 p z1 z2)
def asB:RV × Rho->Option (Bool × Rho)
  | ((.bool b,_),ρ)=>some (b,ρ)
  | _=>none
theorem asB_eq {x:RV × Rho} {b:Bool} {ρ:Rho} (h:asB x=some (b,ρ)):x.1.1=.bool b∧x.2=ρ:=by
  obtain ⟨⟨d,k⟩,ρ0⟩:=x
  cases d with
  | bool c=>cases h; exact ⟨rfl,rfl⟩
  | _=>cases h
def mTest (a:PM):Rho->Option (Bool × Rho):=fun ρ=>(sv a ρ).bind asB
theorem mt_test {ta:TE} {a:PM} (ha:ME ta a):MT (tTest ta) (mTest a):=by
  intro F B H σ ρ b ρ' Q R e q
  obtain ⟨x,e1,e⟩:=Option.bind_eq_some_iff.mp e
  obtain ⟨h1,h2⟩:=asB_eq e
  refine ha.sv F B H σ ρ x.1 x.2 _ R e1 fun v B1 H1 E1 R1 V1 N1=>?_
  have:=V1.view R1
  rw [h1] at this
  rw [h2] at E1 R1
  exact ⟨b,this.bool,q B1 H1 E1 R1⟩
theorem mt_tB {ta:TE} {a:PM} (ha:ME ta a):MT (tB ta) (mTest a):=mt_test ha
def mAnd (a b:Rho->Option (Bool × Rho)):Rho->Option (Bool × Rho):=fun ρ=>(a ρ).bind fun x=>if x.1=true then b x.2 else some (false,x.2)
def mOr (a b:Rho->Option (Bool × Rho)):Rho->Option (Bool × Rho):=fun ρ=>(a ρ).bind fun x=>if x.1=true then some (true,x.2) else b x.2
def mNot (a:Rho->Option (Bool × Rho)):Rho->Option (Bool × Rho):=fun ρ=>(a ρ).map fun x=>(!x.1,x.2)
section
variable {ta tb:TT} {a b:Rho->Option (Bool × Rho)}
theorem mt_and (ha:MT ta a) (hb:MT tb b):MT (tAnd ta tb) (mAnd a b):=by
  intro F B H σ ρ c ρ' Q R e q
  obtain ⟨x,e1,e⟩:=Option.bind_eq_some_iff.mp e
  refine ha F B H σ ρ x.1 x.2 _ R e1 fun B1 H1 E1 R1=>?_
  by_cases h:x.1=true
  . rw [if_pos h] at e ⊢
    exact hb F B1 H1 σ x.2 c ρ' Q R1 e fun B2 H2 E2 R2=>q B2 H2 (E1.trans E2) R2
  . rw [if_neg h] at e ⊢
    cases e
    exact q B1 H1 E1 R1
theorem mt_or (ha:MT ta a) (hb:MT tb b):MT (tOr ta tb) (mOr a b):=by
  intro F B H σ ρ c ρ' Q R e q
  obtain ⟨x,e1,e⟩:=Option.bind_eq_some_iff.mp e
  refine ha F B H σ ρ x.1 x.2 _ R e1 fun B1 H1 E1 R1=>?_
  by_cases h:x.1=true
  . rw [if_pos h] at e ⊢
    cases e
    exact q B1 H1 E1 R1
  . rw [if_neg h] at e ⊢
    exact hb F B1 H1 σ x.2 c ρ' Q R1 e fun B2 H2 E2 R2=>q B2 H2 (E1.trans E2) R2
theorem mt_not (ha:MT ta a):MT (tNot ta) (mNot a):=by
  intro F B H σ ρ c ρ' Q R e q
  obtain ⟨x,e1,e⟩:=Option.map_eq_some_iff.mp e
  cases e
  exact ha F B H σ ρ x.1 x.2 _ R e1 fun B1 H1 E1 R1=>q B1 H1 E1 R1
end
section
variable {ta tb:TE} {a b:PM}
def mAndV (a b:PM):PM:=fun ρ=>(mTest a ρ).bind fun x=>if x.1=true then b x.2 else some ((.bool false,.fz),x.2)
def mOrV (a b:PM):PM:=fun ρ=>(mTest a ρ).bind fun x=>if x.1=true then some ((.bool true,.fz),x.2) else b x.2
def mNotV (a:PM):PM:=fun ρ=>(mTest a ρ).map fun x=>((.bool !x.1,.fz),x.2)
theorem me_andV (ha:ME ta a) (hb:ME tb b):ME (tAndV ta tb) (mAndV a b):=by
  intro F B H σ ρ c ρ' Q R e q
  obtain ⟨x,e1,e⟩:=Option.bind_eq_some_iff.mp e
  refine mt_test ha F B H σ ρ x.1 x.2 (fun c H1=>if c=true then tb σ H1 Q else Q (.bl false) H1) R e1 fun B1 H1 E1 R1=>?_
  by_cases h:x.1=true
  . rw [if_pos h] at e ⊢
    exact hb F B1 H1 σ x.2 c ρ' Q R1 e fun v B2 H2 E2 R2 V2 N2=>q v B2 H2 (E1.trans E2) R2 V2 fun p z1 z2=>E1.live p (N2 p z1 z2)
  . rw [if_neg h] at e ⊢
    cases e
    exact q _ B1 H1 E1 R1 (.bl false) fun p z=>by cases z
theorem me_notV (ha:ME ta a):ME (tNotV ta) (mNotV a):=by
  intro F B H σ ρ c ρ' Q R e q
  obtain ⟨x,e1,e⟩:=Option.map_eq_some_iff.mp e
  cases e
  exact mt_test ha F B H σ ρ x.1 x.2 (fun c H1=>Q (.bl !c) H1) R e1 fun B1 H1 E1 R1=>q _ B1 H1 E1 R1 (.bl _) fun p z=>by cases z
def mIfE (c:Rho->Option (Bool × Rho)) (a b:PM):PM:=fun ρ=>(c ρ).bind fun x=>if x.1=true then a x.2 else b x.2
theorem me_ifE {tc:TT} {c:Rho->Option (Bool × Rho)} (hc:MT tc c) (ha:ME ta a) (hb:ME tb b):ME (tIf tc ta tb) (mIfE c a b):=by
  intro F B H σ ρ r ρ' Q R e q
  obtain ⟨x,e1,e⟩:=Option.bind_eq_some_iff.mp e
  refine hc F B H σ ρ x.1 x.2 _ R e1 fun B1 H1 E1 R1=>?_
  by_cases h:x.1=true
  . rw [if_pos h] at e ⊢
    exact ha F B1 H1 σ x.2 r ρ' Q R1 e fun v B2 H2 E2 R2 V2 N2=>q v B2 H2 (E1.trans E2) R2 V2 fun p z1 z2=>E1.live p (N2 p z1 z2)
  . rw [if_neg h] at e ⊢
    exact hb F B1 H1 σ x.2 r ρ' Q R1 e fun v B2 H2 E2 R2 V2 N2=>q v B2 H2 (E1.trans E2) R2 V2 fun p z1 z2=>E1.live p (N2 p z1 z2)
end
def mNil:Rho->Option (List RV × Rho):=fun ρ=>some ([],ρ)
def mCons (a:PM) (m:Rho->Option (List RV × Rho)):Rho->Option (List RV × Rho):=fun ρ=>(sv a ρ).bind fun x=>(m x.2).bind fun y=>(refr y.2 x.1).map fun r=>(r::y.1,y.2)
theorem ma_nil:MA tNil mNil:=by
  intro F B H σ ρ rs ρ' Q R e q
  cases e
  exact q [] B H (Ext.refl _ _ _ _) R trivial
theorem ma_cons {ta:TE} {tr:TA} {a:PM} {m:Rho->Option (List RV × Rho)} (ha:ME ta a) (hr:MA tr m):MA (tCons ta tr) (mCons a m):=by
  intro F B H σ ρ rs ρ' Q R e q
  obtain ⟨x,e1,e⟩:=Option.bind_eq_some_iff.mp e
  obtain ⟨y,e2,e⟩:=Option.bind_eq_some_iff.mp e
  obtain ⟨r,e3,e⟩:=Option.map_eq_some_iff.mp e
  cases e
  refine ha.sv F B H σ ρ x.1 x.2 _ R e1 fun v B1 H1 E1 R1 V1 N1=>?_
  refine hr F B1 H1 σ x.2 y.1 y.2 _ R1 e2 fun vs B2 H2 E2 R2 V2=>?_
  exact q (v::vs) B2 H2 (E1.trans E2) R2 ⟨V1.next E2 R2 (sv_kind e1) e3,V2⟩
def WVal (B:Hp) (σ:St) (v:V) (r:RV):Prop:=match r.2 with
  | .fz=>Rep B v r.1
  | .at i=>σ[i]?=some (some v)
  | _=>True
def WVl (B:Hp) (σ:St):List V->List RV->Prop
  | [],[]=>True
  | v::vs,r::rs=>WVal B σ v r∧WVl B σ vs rs
  | _,_=>False
theorem Vl.weak {F:Fr} {B H:Hp} {σ:St} {ρ:Rho}:∀ {vs:List V} {rs:List RV},Vl F B H σ ρ vs rs->WVl B σ vs rs
  | [],[],_=>trivial
  | v::vs,r::rs,⟨⟨h,n⟩,t⟩=>by
    refine ⟨?_,Vl.weak t⟩
    obtain ⟨d,k⟩:=r
    cases k with
    | fz=>exact h
    | «at» i=>obtain ⟨_,_,_,_,e⟩:=h; exact e
    | new=>trivial
    | ro=>trivial
theorem WVl.mono {B B':Hp} {σ:St} (e:Same B B'):∀ {vs:List V} {rs:List RV},WVl B σ vs rs->WVl B' σ vs rs
  | [],[],_=>trivial
  | v::vs,r::rs,⟨h,t⟩=>by
    refine ⟨?_,WVl.mono e t⟩
    obtain ⟨d,k⟩:=r
    cases k with
    | fz=>exact Rep.mono e h
    | «at» i=>exact h
    | new=>trivial
    | ro=>trivial
def fzOne (r:RV) (ρ:Rho):Option (D × Rho):=match r.2 with
  | .fz=>some (r.1,ρ)
  | .at i=>match ρ[i]? with
    | some (.own d)=>some (d,ρ.set i (.fz d))
    | some (.fz d)=>some (d,ρ)
    | _=>none
  | _=>none
def fzAll:List RV->Rho->Option (List D × Rho)
  | [],ρ=>some ([],ρ)
  | r::rs,ρ=>(fzOne r ρ).bind fun x=>(fzAll rs x.2).map fun y=>(x.1::y.1,y.2)
section
variable {F:Fr} {B H:Hp} {σ:St} {ρ ρ':Rho}
theorem Rel.frz (R:Rel F B H σ ρ) {v:V} {r:RV} {d:D} (w:WVal B σ v r) (e:fzOne r ρ=some (d,ρ')):∃ B',Rel F B' H σ ρ'∧Rep B' v d∧Ext σ ρ B H ρ' B' H:=by
  obtain ⟨c,k⟩:=r
  cases k with
  | fz=>cases e; exact ⟨B,R,w,Ext.refl _ _ _ _⟩
  | new=>cases e
  | ro=>cases e
  | «at» i =>
    have e':(match ρ[i]? with
      | some (.own d)=>some (d,ρ.set i (.fz d))
      | some (.fz d)=>some (d,ρ)
      | _=>none)=some (d,ρ'):=e
    cases q : ρ[i]? with
    | none=>rw [q] at e'; cases e'
    | some s =>
      rw [q] at e'
      cases s with
      | own c=>cases e'; exact R.freezeAt q w
      | fz c =>
        cases e'
        obtain ⟨x,h1,h2⟩:=R.slot i _ q
        have w' : σ[i]?=some (some v):=w
        rw [w'] at h1; cases h1
        exact ⟨B,R,h2,Ext.refl _ _ _ _⟩
      | no=>cases e'
      | ex=>cases e'
      | io c=>cases e'
      | ro c=>cases e'
theorem Rel.frzL:∀ {rs:List RV} {vs:List V} {ds:List D} {B:Hp} {ρ ρ':Rho},Rel F B H σ ρ->WVl B σ vs rs->fzAll rs ρ=some (ds,ρ')->∃ B',Rel F B' H σ ρ'∧Reps B' vs ds∧Ext σ ρ B H ρ' B' H
  | [],[],ds,B,ρ,ρ',R,_,e=>by cases e; exact ⟨B,R,.nil,Ext.refl _ _ _ _⟩
  | r::rs,v::vs,ds,B,ρ,ρ',R,⟨w,ws⟩,e=>by
    obtain ⟨x,e1,e⟩:=Option.bind_eq_some_iff.mp e
    obtain ⟨y,e2,e⟩:=Option.map_eq_some_iff.mp e
    cases e
    obtain ⟨B1,R1,rp,E1⟩:=R.frz w e1
    obtain ⟨B2,R2,rps,E2⟩:=Rel.frzL R1 (ws.mono E1.sB) e2
    exact ⟨B2,R2,.cons (rp.mono E2.sB) rps,E1.trans E2⟩
  | [],_::_,_,_,_,_,_,h,_=>h.elim
  | _::_,[],_,_,_,_,_,h,_=>h.elim
end
noncomputable def mTup (m:Rho->Option (List RV × Rho)):PM:=fun ρ=>(m ρ).bind fun x=>(fzAll x.1 x.2).bind fun y=>cIf (y.1.length≤sizeLine) (some ((.tuple y.1,.fz),y.2)) none
noncomputable def mLst (m:Rho->Option (List RV × Rho)):PM:=fun ρ=>(m ρ).bind fun x=>(fzAll x.1 x.2).bind fun y=>cIf (y.1.length≤sizeLine) (some ((.list y.1,.new),y.2)) none
theorem me_tup {t:TA} {m:Rho->Option (List RV × Rho)} (h:MA t m):ME (tTup t) (mTup m):=by
  intro F B H σ ρ r ρ' Q R e q
  obtain ⟨x,e1,e⟩:=Option.bind_eq_some_iff.mp e
  obtain ⟨y,e2,e⟩:=Option.bind_eq_some_iff.mp e
  obtain ⟨hz,e⟩:=cIf_eq e
  . cases e
    refine h F B H σ ρ x.1 x.2 _ R e1 fun vs B1 H1 E1 R1 V1=>?_
    obtain ⟨B2,R2,rp,E2⟩:=Rel.frzL R1 V1.weak e2
    refine ⟨by rw [rp.length]; exact hz,fun p hp=>?_⟩
    have:=res_end (res:=(.tuple y.1,true)) (k:=fun Q=>∀ p,H1 p=none->Q (.ref p) (upd H1 p (.tup vs))) (Q:=Q) R2 ⟨vs,rp,fun Q h=>h⟩ fun v B' H' E R' V' N=>q v B' H' (E1.trans (E2.trans E)) R' V' fun p z=>by cases z
    exact this p hp
theorem me_lst {t:TA} {m:Rho->Option (List RV × Rho)} (h:MA t m):ME (tLst t) (mLst m):=by
  intro F B H σ ρ r ρ' Q R e q
  obtain ⟨x,e1,e⟩:=Option.bind_eq_some_iff.mp e
  obtain ⟨y,e2,e⟩:=Option.bind_eq_some_iff.mp e
  obtain ⟨hz,e⟩:=cIf_eq e
  . cases e
    refine h F B H σ ρ x.1 x.2 _ R e1 fun vs B1 H1 E1 R1 V1=>?_
    obtain ⟨B2,R2,rp,E2⟩:=Rel.frzL R1 V1.weak e2
    refine ⟨by rw [rp.length]; exact hz,fun p hp=>?_⟩
    have:=res_end (res:=(.list y.1,true)) (k:=fun Q=>∀ p,H1 p=none->Q (.ref p) (upd H1 p (.lst vs))) (Q:=Q) R2 ⟨vs,rp,fun Q h=>h⟩ fun v B' H' E R' V' N=>q v B' H' (E1.trans (E2.trans E)) R' V' fun p z1 z2=>E1.live p (N p z1 z2)
    exact this p hp
def Views (B H:Hp):List V->List D->Prop
  | [],[]=>True
  | v::vs,d::ds=>View B H v d∧Views B H vs ds
  | _,_=>False
theorem Vl.views {F:Fr} {B H:Hp} {σ:St} {ρ:Rho} (R:Rel F B H σ ρ):∀ {vs:List V} {rs:List RV},Vl F B H σ ρ vs rs->Views B H vs (rs.map (·.1))
  | [],[],_=>trivial
  | v::vs,r::rs,⟨⟨h,n⟩,t⟩=>⟨h.view R,Vl.views R t⟩
def CallJ (r:List V->Hp->VK->Prop) (g:List D->Option (D × Bool)):Prop:=∀ (B H:Hp) (vs:List V) (ds:List D) (res:D × Bool),Same B H->Views B H vs ds->g ds=some res->ResOk B H res fun Q=>r vs H Q
def mCB (g:List D->Option (D × Bool)) (m:Rho->Option (List RV × Rho)):PM:=fun ρ=>(m ρ).bind fun x=>(g (x.1.map (·.1))).map fun res=>(resK res,x.2)
theorem me_cb {r:List V->Hp->VK->Prop} {g:List D->Option (D × Bool)} {t:TA} {m:Rho->Option (List RV × Rho)} (J:CallJ r g) (h:MA t m):ME (tCB r t) (mCB g m):=by
  intro F B H σ ρ r0 ρ' Q R e q
  obtain ⟨x,e1,e⟩:=Option.bind_eq_some_iff.mp e
  obtain ⟨res,e4,e⟩:=Option.map_eq_some_iff.mp e
  cases e
  refine h F B H σ ρ x.1 x.2 _ R e1 fun vs B1 H1 E1 R1 V1=>?_
  exact res_end R1 (J B1 H1 vs _ res R1.sub (V1.views R1) e4) fun w B3 H3 E3 R3 V4 N4=>q w B3 H3 (E1.trans E3) R3 V4 fun p z1 z2=>E1.live p (N4 p z1 z2)
def mNoPart:Rho->Option (Option Int × Rho):=fun ρ=>some (none,ρ)
def asI:RV × Rho->Option (Int × Rho)
  | ((.int i,_),ρ)=>some (i,ρ)
  | _=>none
theorem asI_eq {x:RV × Rho} {b:Int} {ρ:Rho} (h:asI x=some (b,ρ)):x.1.1=.int b∧x.2=ρ:=by
  obtain ⟨⟨d,k⟩,ρ0⟩:=x
  cases d with
  | int c=>cases h; exact ⟨rfl,rfl⟩
  | _=>cases h
def mPart (a:PM):Rho->Option (Option Int × Rho):=fun ρ=>((sv a ρ).bind asI).map fun x=>(some x.1,x.2)
def MO (t:TO) (m:Rho->Option (Option Int × Rho)):Prop :=
  ∀ (F:Fr) (B H:Hp) (σ:St) (ρ:Rho) (b:Option Int) (ρ':Rho) (Q:Option Int->Hp->Prop),Rel F B H σ ρ->m ρ=some (b,ρ') ->
    (∀ B' H',Ext σ ρ B H ρ' B' H'->Rel F B' H' σ ρ'->Q b H')->t σ H Q
theorem mo_none:MO tNoPart mNoPart:=by
  intro F B H σ ρ b ρ' Q R e q
  cases e
  exact q B H (Ext.refl _ _ _ _) R
theorem mo_some {ta:TE} {a:PM} (ha:ME ta a):MO (tPart ta) (mPart a):=by
  intro F B H σ ρ b ρ' Q R e q
  obtain ⟨y,e1,e⟩:=Option.map_eq_some_iff.mp e
  obtain ⟨x,e2,e3⟩:=Option.bind_eq_some_iff.mp e1
  cases e
  obtain ⟨h1,h2⟩:=asI_eq (b:=y.1) (ρ:=y.2) e3
  refine ha.sv F B H σ ρ x.1 x.2 _ R e2 fun v B1 H1 E1 R1 V1 N1=>?_
  have:=V1.view R1
  rw [h1] at this
  rw [h2] at E1 R1
  exact ⟨y.1,this.int,q B1 H1 E1 R1⟩
def SlJ (r:V->Option Int->Option Int->Hp->VK->Prop) (g:D->Option Int->Option Int->Option (D × Bool)):Prop :=
  ∀ (B H:Hp) (x:V) (c:D) (l u:Option Int) (res:D × Bool),Same B H->View B H x c->g c l u=some res->ResOk B H res fun Q=>r x l u H Q
def mSl (g:D->Option Int->Option Int->Option (D × Bool)) (a:PM) (l u:Rho->Option (Option Int × Rho)):PM:=fun ρ=>(sv a ρ).bind fun x=>(l x.2).bind fun y=>(u y.2).bind fun z=>(refr z.2 x.1).bind fun r=>(g r.1 y.1 z.1).map fun res=>(resK res,z.2)
theorem me_sl {r:V->Option Int->Option Int->Hp->VK->Prop} {g:D->Option Int->Option Int->Option (D × Bool)} {ta:TE} {tl tu:TO} {a:PM} {l u:Rho->Option (Option Int × Rho)} (J:SlJ r g) (ha:ME ta a) (hl:MO tl l) (hu:MO tu u):ME (tSl r ta tl tu) (mSl g a l u):=by
  intro F B H σ ρ r0 ρ' Q R e q
  obtain ⟨x,e1,e⟩:=Option.bind_eq_some_iff.mp e
  obtain ⟨y,e2,e⟩:=Option.bind_eq_some_iff.mp e
  obtain ⟨z,e3,e⟩:=Option.bind_eq_some_iff.mp e
  obtain ⟨r',e4,e⟩:=Option.bind_eq_some_iff.mp e
  obtain ⟨res,e5,e⟩:=Option.map_eq_some_iff.mp e
  cases e
  refine ha.sv F B H σ ρ x.1 x.2 _ R e1 fun v B1 H1 E1 R1 V1 N1=>?_
  refine hl F B1 H1 σ x.2 y.1 y.2 _ R1 e2 fun B2 H2 E2 R2=>?_
  refine hu F B2 H2 σ y.2 z.1 z.2 _ R2 e3 fun B3 H3 E3 R3=>?_
  obtain ⟨V3,n3⟩:=V1.next (E2.trans E3) R3 (sv_kind e1) e4
  exact res_end R3 (J B3 H3 v r'.1 y.1 z.1 res R3.sub (V3.view R3) e5) fun w B4 H4 E4 R4 V4 N4=>q w B4 H4 ((E1.trans (E2.trans E3)).trans E4) R4 V4 fun p z1 z2=>(E1.trans (E2.trans E3)).live p (N4 p z1 z2)
end Mir
set_option Elab.async false
set_option linter.all false
set_option maxRecDepth 100000
namespace Mir
open PySem L2
variable [Zc]
mutual
def pureD:D->Bool
  | .none=>true
  | .bool _=>true
  | .int _=>true
  | .str _=>true
  | .list _=>false
  | .tuple ds=>pureDs ds
  | .dict _=>false
def pureDs:List D->Bool
  | []=>true
  | d::ds=>pureD d && pureDs ds
end
mutual
theorem Rep.ofPure {B B':Hp} (k:∀ q xs,B q=some (.tup xs)->B' q=some (.tup xs)):∀ {v:V} {d:D},Rep B v d->pureD d=true->Rep B' v d
  | _,_,.non,_=>.non
  | _,_,.bl b,_=>.bl b
  | _,_,.int i,_=>.int i
  | _,_,.str x,_=>.str x
  | _,_,.lst _ _,h=>by simp [pureD] at h
  | _,_,.dct _ _,h=>by simp [pureD] at h
  | _,_,.tup h r,e=>.tup (k _ _ h) (Reps.ofPure k r (by simpa [pureD] using e))
theorem Reps.ofPure {B B':Hp} (k:∀ q xs,B q=some (.tup xs)->B' q=some (.tup xs)):∀ {v:List V} {d:List D},Reps B v d->pureDs d=true->Reps B' v d
  | _,_,.nil,_=>.nil
  | _,_,.cons a b,e=>by
    simp only [pureDs,Bool.and_eq_true] at e
    exact .cons (Rep.ofPure k a e.1) (Reps.ofPure k b e.2)
end
theorem RepKs.ofPure {B B':Hp} (k:∀ q xs,B q=some (.tup xs)->B' q=some (.tup xs)):∀ {v:List (Key × V)} {d:List (D × D)},RepKs B v d->pureDs (d.map (·.2))=true->RepKs B' v d
  | _,_,.nil,_=>.nil
  | _,_,.cons c a b,e=>by
    simp only [List.map_cons,pureDs,Bool.and_eq_true] at e
    exact .cons c (Rep.ofPure k a e.1) (RepKs.ofPure k b e.2)
def pureR (d:D) (o:Bool):Bool:=match o,d with
  | true,.list ds=>pureDs ds
  | true,.dict es=>pureDs (es.map (·.2))
  | true,_=>false
  | false,d=>pureD d
structure Post (B H:Hp) (v:V) (B' H':Hp) (d:D) (o:Bool):Prop where
  eH:Same H H'
  eB:Same B B'
  sub:Same B' H'
  nb:∀ q,H q≠none->B q=none->B' q=none
  tB:∀ q xs,H' q=some (.tup xs)->B' q=some (.tup xs)
  nz:∀ q o u,H' q=some (.frz o u)->H q≠none
  val:if o=true then ∃ p,v=.ref p∧H p=none∧B' p=none∧Own B' H' p d else Rep B' v d
def spM (f:List D->Option (D × Bool)):Sp:=fun vs H Q _=>∃ B ds d o,Same B H∧(∀ q xs,H q=some (.tup xs)->B q=some (.tup xs))∧Reps B vs ds∧f ds=some (d,o)∧∀ v B' H',Post B H v B' H' d o->Q v H'
def kO (d:D) (o:Bool):RV:=(d,if o=true then .new else .fz)
def mCall (f:List D->Option (D × Bool)) (m:Rho->Option (List RV × Rho)):PM:=fun ρ=>(m ρ).bind fun x=>(f (x.1.map (·.1))).bind fun w =>
  if pureR w.1 w.2=true then some (kO w.1 w.2,x.2) else (fzAll x.1 x.2).map fun y=>(kO w.1 w.2,y.2)
theorem Views.reps {B H:Hp} (e:Same B H):∀ {vs:List V} {ds:List D},Views B H vs ds->Reps H vs ds
  | [],[],_=>.nil
  | v::vs,d::ds,⟨h,t⟩=>.cons (h.rep e) (Views.reps e t)
theorem fzAll_eq:∀ {rs:List RV} {ρ ρ':Rho} {ds:List D},(∀ r∈rs,∀ i,r.2=.at i->∃ s,ρ[i]?=some s∧slD s=r.1)->fzAll rs ρ=some (ds,ρ')->ds=rs.map (·.1)
  | [],_,_,_,_,e=>by cases e; rfl
  | r::rs,ρ,ρ',ds,h,e=>by
    obtain ⟨x,e1,e⟩:=Option.bind_eq_some_iff.mp e
    obtain ⟨y,e2,e⟩:=Option.map_eq_some_iff.mp e
    cases e
    have hx:x.1=r.1∧∀ (i:Nat) (s:Sl),ρ[i]?=some s->∃ s',x.2[i]?=some s'∧slD s'=slD s:=by
      obtain ⟨d,k⟩:=r
      cases k with
      | fz=>cases e1; exact ⟨rfl,fun i s h=>⟨s,h,rfl⟩⟩
      | new=>cases e1
      | ro=>cases e1
      | «at» i =>
        obtain ⟨s,h1,h2⟩:=h (d,.at i) (by simp) i rfl
        have e':(match ρ[i]? with
          | some (.own d)=>some (d,ρ.set i (.fz d))
          | some (.fz d)=>some (d,ρ)
          | _=>none)=some x:=e1
        rw [h1] at e'
        cases s with
        | own c =>
          cases e'
          refine ⟨h2,fun j t hj=>?_⟩
          by_cases z:j=i
          . subst z
            rw [h1] at hj; cases hj
            obtain ⟨hl,_⟩:=List.getElem?_eq_some_iff.mp h1
            exact ⟨.fz c,by rw [List.getElem?_set_self hl],rfl⟩
          . exact ⟨t,by rw [List.getElem?_set_ne (fun e=>z e.symm)]; exact hj,rfl⟩
        | fz c=>cases e'; exact ⟨h2,fun i s h=>⟨s,h,rfl⟩⟩
        | no=>cases e'
        | ex=>cases e'
        | io c=>cases e'
        | ro c=>cases e'
    rw [List.map_cons,hx.1,fzAll_eq (ρ:=x.2) (fun r hr i hi=>?_) e2]
    obtain ⟨s,h1,h2⟩:=h r (List.mem_cons_of_mem _ hr) i hi
    obtain ⟨s',h3,h4⟩:=hx.2 i s h1
    exact ⟨s',h3,h4.trans h2⟩
theorem Vl.at {F:Fr} {B H:Hp} {σ:St} {ρ:Rho}:∀ {vs:List V} {rs:List RV},Vl F B H σ ρ vs rs->∀ r∈rs,∀ i,r.2=.at i->∃ s,ρ[i]?=some s∧slD s=r.1
  | [],[],_,r',hr,i,hi=>by cases hr
  | v::vs,r::rs,⟨⟨h,_⟩,t⟩,r',hr,i,hi=>by
    rcases List.mem_cons.mp hr with rfl | hr
    . obtain ⟨d,k⟩:=r'
      cases (show k=.at i from hi)
      obtain ⟨s,h1,_,h2,_⟩:=h
      exact ⟨s,h1,h2⟩
    . exact Vl.at t r' hr i hi
theorem me_call {f:List D->Option (D × Bool)} {E:XK} {t:TA} {m:Rho->Option (List RV × Rho)} (h:MA t m):ME (tCall (spM f) [] E t) (mCall f m):=by
  intro F B H σ ρ r0 ρ' Q R e q
  obtain ⟨x,e1,e⟩:=Option.bind_eq_some_iff.mp e
  obtain ⟨w,e2,e⟩:=Option.bind_eq_some_iff.mp e
  refine h F B H σ ρ x.1 x.2 _ R e1 fun vs B1 H1 E1 R1 V1=>?_
  rw [List.append_nil]
  by_cases hp:pureR w.1 w.2=true
  . rw [if_pos hp] at e
    cases e
    refine ⟨H1,_,w.1,w.2,Same.refl _,fun _ _ z=>z,(V1.views R1).reps R1.sub,e2,fun v B' H' P=>?_⟩
    let B2:Hp:=fun q=>if H1 q=none then B' q else B1 q
    have old:∀ q,H1 q≠none->B2 q=B1 q:=fun q z=>if_neg z
    have new:∀ q,H1 q=none->B2 q=B' q:=fun q z=>if_pos z
    have eB:Same B1 B2:=fun q o z=>by rw [old q (by rw [R1.sub q o z]; simp)]; exact z
    have sub:Same B2 H':=fun q o z=>by
      by_cases y:H1 q=none
      . rw [new q y] at z; exact P.sub q o z
      . rw [old q y] at z; exact P.eH q o (R1.sub q o z)
    have nb:∀ q,H1 q≠none->B1 q=none->B2 q=none:=fun q y z=>by rw [old q y]; exact z
    have tB:∀ q xs,H' q=some (.tup xs)->B2 q=some (.tup xs):=fun q xs z=>by
      cases y:H1 q with
      | none=>rw [new q y]; exact P.tB q xs z
      | some o =>
        have:=P.eH q o y
        rw [z] at this
        cases this
        rw [old q (by rw [y]; simp)]; exact R1.tupB q xs y
    have kt:∀ q xs,B' q=some (.tup xs)->B2 q=some (.tup xs):=fun q xs z=>tB q xs (P.sub q _ z)
    have R2:=R1.grow eB P.eH sub nb tB P.nz
    have E2:Ext σ x.2 B1 H1 x.2 B2 H':=Ext.grow eB P.eH nb
    obtain ⟨d,o⟩:=w
    cases o with
    | false =>
      have pv:Rep B' v d:=P.val
      exact q v B2 H' (E1.trans E2) R2 (show Rep B2 v d from pv.ofPure kt hp) fun p z=>by cases z
    | true =>
      obtain ⟨p,rfl,h1,h2,h3⟩:∃ p,v=.ref p∧H1 p=none∧B' p=none∧Own B' H' p d:=P.val
      have fr:=R1.free h1
      refine q _ B2 H' (E1.trans E2) R2 ⟨p,rfl,by rw [new p h1]; exact h2,fr.2.1,?_,fr.2.2⟩ fun p' _ z=>by cases z; exact E1.live p h1
      cases h3 with
      | lst h r=>exact .lst h (r.ofPure kt hp)
      | dct h r=>exact .dct h (r.ofPure kt hp)
  . rw [if_neg hp] at e
    obtain ⟨y,e3,e⟩:=Option.map_eq_some_iff.mp e
    cases e
    obtain ⟨B2,R2,rp,E2⟩:=Rel.frzL R1 V1.weak e3
    have hd:=fzAll_eq V1.at e3
    rw [hd] at rp
    refine ⟨B2,_,w.1,w.2,R2.sub,R2.tupB,rp,e2,fun v B' H' P=>?_⟩
    have R3:=R2.grow P.eB P.eH P.sub P.nb P.tB P.nz
    have E3:Ext σ y.2 B2 H1 y.2 B' H':=Ext.grow P.eB P.eH P.nb
    obtain ⟨d,o⟩:=w
    cases o with
    | false =>
      have pv:Rep B' v d:=P.val
      exact q v B' H' (E1.trans (E2.trans E3)) R3 pv fun p z=>by cases z
    | true =>
      obtain ⟨p,rfl,h1,h2,h3⟩:∃ p,v=.ref p∧H1 p=none∧B' p=none∧Own B' H' p d:=P.val
      have fr:=R2.free h1
      exact q _ B' H' (E1.trans (E2.trans E3)) R3 ⟨p,rfl,h2,fr.2.1,h3,fr.2.2⟩ fun p' _ z=>by cases z; exact E1.live p h1
def YldOk (B H:Hp) (x:V) (H':Hp) (d:D):Prop:=(H'=H∧Rep B x d)∨∃ p xs cs,d=.tuple cs∧x=.ref p∧H p=none∧H'=upd H p (.tup xs)∧Reps B xs cs
def ItOk (G B:Hp) (J:It) (ds:List D):Prop:=∀ H,Same G H->J.stop ds.length H∧∀ (i:Nat) (d:D),ds[i]?=some d->J.go i H∧∀ x H',J.yld i H x H'->YldOk B H x H' d
theorem ItOk.mono {G B B':Hp} {J:It} {ds:List D} (h:ItOk G B J ds) (e:Same B B'):ItOk G B' J ds:=fun H s=>⟨(h H s).1,fun i d hd=>⟨((h H s).2 i d hd).1,fun x H' y=>by
  rcases ((h H s).2 i d hd).2 x H' y with ⟨h1,h2⟩ | ⟨p,xs,cs,h1,h2,h3,h4,h5⟩
  . exact .inl ⟨h1,h2.mono e⟩
  . exact .inr ⟨p,xs,cs,h1,h2,h3,h4,h5.mono e⟩⟩⟩
def MI (t:TI) (m:Rho->Option (List D × Rho)):Prop :=
  ∀ (F:Fr) (B H:Hp) (σ:St) (ρ:Rho) (ds:List D) (ρ':Rho) (Q:It->Hp->Prop),Rel F B H σ ρ->m ρ=some (ds,ρ') ->
    (∀ J B' H',Ext σ ρ B H ρ' B' H'->Rel F B' H' σ ρ'->ItOk H' B' J ds->Q J H')->t σ H Q
def MF (t:TI) (m:Rho->Option (List D × Rho)):Prop :=
  ∀ (F:Fr) (B H:Hp) (σ:St) (ρ:Rho) (ds:List D) (ρ':Rho) (Q:It->Hp->Prop),Rel F B H σ ρ->m ρ=some (ds,ρ') ->
    (∀ J B' H',Ext σ ρ B H ρ' B' H'->Rel F B' H' σ ρ'->ItOk B' B' J ds->Q J H')->t σ H Q
theorem rd_sq {K:PySem.W.Frag} {H:Hp} {p:Addr} {xs:List V} (h:Rd H p (.lst xs)):SqL K H p xs:=.inl h
theorem itl_ok {K:PySem.W.Frag} {G B:Hp} {p:Addr} {xs:List V} {ds:List D} (h:Rd G p (.lst xs)) (r:Reps B xs ds):ItOk G B (Itl K p) ds:=fun H s=>by
  have h':SqL K H p xs:=rd_sq (rd_same s h)
  refine ⟨⟨xs,h',by rw [r.length]; exact Nat.le_refl _⟩,fun i d hd=>?_⟩
  obtain ⟨x,h1,h2⟩:=r.get i d hd
  refine ⟨⟨xs,x,h',h1⟩,fun y H' hy=>.inl ⟨hy.1,?_⟩⟩
  have:=hy.2 xs h'
  rw [h1] at this
  cases this
  exact h2
theorem itt_ok {K:PySem.W.Frag} {G B:Hp} {p:Addr} {xs:List V} {ds:List D} (h:G p=some (.tup xs)) (r:Reps B xs ds):ItOk G B (Itt K p) ds:=fun H s=>by
  have h':SqT K H p xs:=.inl (.inl (s _ _ h))
  refine ⟨⟨xs,h',by rw [r.length]; exact Nat.le_refl _⟩,fun i d hd=>?_⟩
  obtain ⟨x,h1,h2⟩:=r.get i d hd
  refine ⟨⟨xs,x,h',h1⟩,fun y H' hy=>.inl ⟨hy.1,?_⟩⟩
  have:=hy.2 xs h'
  rw [h1] at this
  cases this
  exact h2
def asL:D->Option (List D)
  | .list ds=>some ds
  | _=>none
def asT:D->Option (List D)
  | .tuple ds=>some ds
  | _=>none
theorem asL_eq {d:D} {ds:List D} (h:asL d=some ds):d=.list ds:=by cases d <;> first | cases h; rfl | cases h
theorem asT_eq {d:D} {ds:List D} (h:asT d=some ds):d=.tuple ds:=by cases d <;> first | cases h; rfl | cases h
def mItL (a:PM):Rho->Option (List D × Rho):=fun ρ=>(sv a ρ).bind fun x=>(asL x.1.1).map fun ds=>(ds,x.2)
def mItT (a:PM):Rho->Option (List D × Rho):=fun ρ=>(sv a ρ).bind fun x=>(asT x.1.1).map fun ds=>(ds,x.2)
def mFoL (a:PM):Rho->Option (List D × Rho):=fun ρ=>(sv a ρ).bind fun x=>(fzOne x.1 x.2).bind fun y=>(asL y.1).map fun ds=>(ds,y.2)
section
variable {K:PySem.W.Frag} {ta:TE} {a:PM}
theorem mi_tup (ha:ME ta a):MI (iTup K ta) (mItT a):=by
  intro F B H σ ρ ds ρ' Q R e q
  obtain ⟨x,e1,e⟩:=Option.bind_eq_some_iff.mp e
  obtain ⟨ds',e2,e⟩:=Option.map_eq_some_iff.mp e
  cases e
  refine ha.sv F B H σ ρ x.1 x.2 _ R e1 fun v B1 H1 E1 R1 V1 N1=>?_
  have w:=V1.view R1
  rw [asT_eq e2] at w
  obtain ⟨p,xs,rfl,h1,h2⟩:=w.tuple R1.sub
  exact ⟨p,rfl,⟨xs,.inl (.inl h1)⟩,q _ B1 H1 E1 R1 (itt_ok h1 h2)⟩
theorem mf_list (ha:ME ta a):MF (iList K ta) (mFoL a):=by
  intro F B H σ ρ ds ρ' Q R e q
  obtain ⟨x,e1,e⟩:=Option.bind_eq_some_iff.mp e
  obtain ⟨y,e3,e⟩:=Option.bind_eq_some_iff.mp e
  obtain ⟨ds',e2,e⟩:=Option.map_eq_some_iff.mp e
  cases e
  refine ha.sv F B H σ ρ x.1 x.2 _ R e1 fun v B1 H1 E1 R1 V1 N1=>?_
  have w:WVal B1 σ v x.1:=(Vl.weak (F:=F) (H:=H1) (ρ:=x.2) (vs:=[v]) (rs:=[x.1]) ⟨⟨V1,sv_kind e1⟩,trivial⟩).1
  obtain ⟨B2,R2,rp,E2⟩:=R1.frz w e3
  rw [asL_eq e2] at rp
  cases rp with
  | lst h r=>exact ⟨_,rfl,⟨_,rd_sq (rd_same R2.sub h)⟩,q _ B2 H1 (E1.trans E2) R2 (itl_ok h r)⟩
end
def rngD (lo:Int) (n:Nat):List D:=(List.range n).map fun (k:Nat)=>PyData.int (lo + (k:Int))
theorem itr_ok {G B:Hp} {lo:Int} {n:Nat}:ItOk G B (Itr lo n) (rngD lo n):=fun H _=>by
  refine ⟨by simp [rngD,Itr],fun i d hd=>?_⟩
  rw [rngD,List.getElem?_map] at hd
  obtain ⟨k,h1,h2⟩:=Option.map_eq_some_iff.mp hd
  have hk:=List.getElem?_eq_some_iff.mp h1
  obtain ⟨hl,hk⟩:=hk
  rw [List.getElem_range] at hk
  rw [List.length_range] at hl
  subst hk
  refine ⟨hl,fun x H' hy=>.inl ⟨hy.1,?_⟩⟩
  rw [hy.2,← h2]
  exact .int _
noncomputable def rg1:List RV × Rho->Option (List D × Rho)
  | ([(.int j,_)],ρ)=>cIf (-(2 ^ 62)≤j∧j < 2 ^ 62) (some (rngD 0 j.toNat,ρ)) none
  | _=>none
noncomputable def rg2:List RV × Rho->Option (List D × Rho)
  | ([(.int i,_),(.int j,_)],ρ)=>cIf (-(2 ^ 62)≤i∧i < 2 ^ 62∧-(2 ^ 62)≤j∧j < 2 ^ 62) (some (rngD i (j - i).toNat,ρ)) none
  | _=>none
noncomputable def mRg1 (m:Rho->Option (List RV × Rho)):Rho->Option (List D × Rho):=fun ρ=>(m ρ).bind rg1
noncomputable def mRg2 (m:Rho->Option (List RV × Rho)):Rho->Option (List D × Rho):=fun ρ=>(m ρ).bind rg2
section
variable {ta:TA} {m:Rho->Option (List RV × Rho)}
theorem rng1_gen (h:MA ta m) (F:Fr) (B H:Hp) (σ:St) (ρ:Rho) (ds:List D) (ρ':Rho) (Q:It->Hp->Prop) (R:Rel F B H σ ρ) (e:mRg1 m ρ=some (ds,ρ'))
    (q:∀ J B' H',Ext σ ρ B H ρ' B' H'->Rel F B' H' σ ρ'->(∀ G,ItOk G B' J ds)->Q J H'):iRng1 ta σ H Q:=by
  obtain ⟨x,e1,e⟩:=Option.bind_eq_some_iff.mp e
  refine h F B H σ ρ x.1 x.2 _ R e1 fun vs B1 H1 E1 R1 V1=>?_
  obtain ⟨rs,ρ2⟩:=x
  unfold rg1 at e
  split at e
  . rename_i j k ρ3 heq
    cases heq
    obtain ⟨hj,e⟩:=cIf_eq e
    . cases e
      match vs,V1 with
      | [v],⟨⟨h1,_⟩,_⟩ =>
        have:v=.int j:=(h1.view R1).int
        subst this
        exact ⟨j,rfl,hj.1,hj.2,q _ B1 H1 E1 R1 fun G=>itr_ok⟩
  . cases e
theorem mi_rng1 (h:MA ta m):MI (iRng1 ta) (mRg1 m):=fun F B H σ ρ ds ρ' Q R e q=>rng1_gen h F B H σ ρ ds ρ' Q R e fun J B' H' E R' I=>q J B' H' E R' (I _)
theorem mf_rng1 (h:MA ta m):MF (iRng1 ta) (mRg1 m):=fun F B H σ ρ ds ρ' Q R e q=>rng1_gen h F B H σ ρ ds ρ' Q R e fun J B' H' E R' I=>q J B' H' E R' (I _)
end
end Mir
set_option Elab.async false
set_option linter.all false
set_option maxRecDepth 100000
namespace Mir
open PySem L2
variable [Zc]
def one1:List RV × Rho->Option (RV × Rho)
  | ([r],ρ)=>some (r,ρ)
  | _=>none
theorem one1_eq {x:List RV × Rho} {y:RV × Rho} (h:one1 x=some y):x=([y.1],y.2):=by
  obtain ⟨rs,ρ⟩:=x
  unfold one1 at h
  split at h
  . rename_i heq; cases heq; cases h; rfl
  . cases h
section
variable {K:PySem.W.Frag} {ta:TA} {m:Rho->Option (List RV × Rho)}
end
def demote (ρ:Rho) (i:Nat):Sl:=match ρ[i]? with
  | some (.own d)=>.ro d
  | some (.io d)=>.ro d
  | some .ex=>.no
  | some s=>s
  | none=>.no
def asF:RV->Option D
  | (d,.fz)=>some d
  | _=>none
theorem asF_eq {r:RV} {d:D} (h:asF r=some d):r=(d,.fz):=by
  obtain ⟨c,k⟩:=r
  cases k with
  | fz=>cases h; rfl
  | _=>cases h
def compL (c:Rho->Option (Bool × Rho)) (e:PM) (ρn:Rho):List D->Option (List D)
  | []=>some []
  | d::ds=>(c (.fz d::ρn)).bind fun b=>if b.1=true then (sv e (.fz d::ρn)).bind fun y=>(asF y.1).bind fun z=>(compL c e ρn ds).map (z::·) else compL c e ρn ds
noncomputable def mLC (fr:List (Str × Nat)) (it:Rho->Option (List D × Rho)) (c:Rho->Option (Bool × Rho)) (e:PM):PM:=fun ρ=>(it ρ).bind fun x=>(compL c e (fr.map fun p=>demote x.2 p.2) x.1).bind fun ys=>cIf (ys.length < sizeLine) (some ((.list ys,.new),x.2)) none
def mYes:Rho->Option (Bool × Rho):=fun ρ=>some (true,ρ)
theorem mt_yes:MT tYes mYes:=by
  intro F B H σ ρ b ρ' Q R e q
  cases e
  exact q B H (Ext.refl _ _ _ _) R
def F0 (H:Hp):Fr:=⟨fun _=>none,fun _=>none,[],fun q=>H q≠none⟩
theorem demote_ex {ρ:Rho} {i:Nat}:demote ρ i≠.ex:=by
  unfold demote
  cases h : ρ[i]? with
  | none=>simp
  | some s=>cases s <;> simp
theorem demote_own {ρ:Rho} {i:Nat}:(demote ρ i).isOwn=false:=by
  unfold demote
  cases h : ρ[i]? with
  | none=>rfl
  | some s=>cases s <;> rfl
theorem Rel.inner {F:Fr} {B H:Hp} {σ:St} {ρ:Rho} (R:Rel F B H σ ρ) (fr:List (Str × Nat)) {v:V} {d:D} (h:Rep B v d):Rel (F0 H) B H (some v::compRest σ fr) (.fz d::fr.map fun p=>demote ρ p.2):=by
  have nown:∀ (i:Nat) (s:Sl),(Sl.fz d::fr.map fun p=>demote ρ p.2)[i]?=some s->s.isOwn=true->False:=fun i s h1 h2=>by
    cases i with
    | zero=>cases h1; cases h2
    | succ i =>
      have h1':(fr.map fun p=>demote ρ p.2)[i]?=some s:=by simpa using h1
      rw [List.getElem?_map] at h1'
      obtain ⟨p,_,e⟩:=Option.map_eq_some_iff.mp h1'
      rw [← e,demote_own] at h2
      cases h2
  have nex:∀ i:Nat,(Sl.fz d::fr.map fun p=>demote ρ p.2)[i]?=some Sl.ex->False:=fun i h1=>by
    cases i with
    | zero=>cases h1
    | succ i =>
      have h1':(fr.map fun p=>demote ρ p.2)[i]?=some Sl.ex:=by simpa using h1
      rw [List.getElem?_map] at h1'
      obtain ⟨p,_,e⟩:=Option.map_eq_some_iff.mp h1'
      exact absurd e demote_ex
  refine ⟨R.sub,(fun _ _ z=>by cases z),(fun _ _ z=>by cases z),fun _ z _=>absurd rfl z,by simp [compRest],fun i s hs=>?_,fun i j s t p h1 h2=>(nown i s h1 h2).elim,fun i d p h1=>(nown i _ h1 rfl).elim,(fun x hx=>by cases hx),fun i d h1=>(nown i _ h1 rfl).elim,R.tupB,(fun i h1=>(nex i h1).elim),fun q o u h z=>by rw [z] at h; cases h⟩
  cases i with
  | zero=>cases hs; exact ⟨v,rfl,h⟩
  | succ i =>
    have hs':(fr.map fun p=>demote ρ p.2)[i]?=some s:=by simpa using hs
    rw [List.getElem?_map] at hs'
    obtain ⟨p,hp,e⟩:=Option.map_eq_some_iff.mp hs'
    have hσ:∀ x,σ[p.2]?=some (some x)->(some v::compRest σ fr)[i + 1]?=some (some x):=fun x hx=>by
      rw [List.getElem?_cons_succ]
      unfold compRest
      rw [List.getElem?_map,hp,Option.map_some,List.getD_eq_getElem?_getD,hx]
      rfl
    unfold demote at e
    cases q : ρ[p.2]? with
    | none=>rw [q] at e; subst e; trivial
    | some s0 =>
      rw [q] at e
      have sl:=R.slot p.2 s0 q
      cases s0 with
      | no=>subst e; trivial
      | ex=>subst e; trivial
      | fz c=>subst e; obtain ⟨x,h1,h2⟩:=sl; exact ⟨x,hσ _ h1,h2⟩
      | own c=>subst e; obtain ⟨x,h1,_,h2⟩:=sl; exact ⟨x,hσ _ h1,h2⟩
      | io c=>subst e; obtain ⟨x,h1,_,h2⟩:=sl; exact ⟨x,hσ _ h1,h2⟩
      | ro c=>subst e; obtain ⟨x,h1,h2⟩:=sl; exact ⟨x,hσ _ h1,h2⟩
theorem inner_ext {ρ ρ':Rho} {σ:St} {B H B' H':Hp} (nown:∀ (i:Nat) (s:Sl),ρ[i]?=some s->s.isOwn=true->False) (E:Ext σ ρ B H ρ' B' H'):Same H H'∧∀ q,H q≠none->B q=none->B' q=none:=by
  have k:∀ q o,H q=some o->H' q=some o∧(B q=none->B' q=none):=fun q o h=>E.keep q o h fun i s h1 h2=>(nown i s h1 h2).elim
  refine ⟨fun q o h=>(k q o h).1,fun q h z=>?_⟩
  cases e:H q with
  | none=>exact absurd e h
  | some o=>exact (k q o e).2 z
theorem inner_nown {fr:List (Str × Nat)} {ρ:Rho} {d:D} (i:Nat) (s:Sl) (h1:(Sl.fz d::fr.map fun p=>demote ρ p.2)[i]?=some s) (h2:s.isOwn=true):False:=by
  cases i with
  | zero=>cases h1; cases h2
  | succ i =>
    have h1':(fr.map fun p=>demote ρ p.2)[i]?=some s:=by simpa using h1
    rw [List.getElem?_map] at h1'
    obtain ⟨p,_,e⟩:=Option.map_eq_some_iff.mp h1'
    rw [← e,demote_own] at h2
    cases h2
theorem me_lc {fr:List (Str × Nat)} {wi:TI} {tc:TT} {te:TE} {it:Rho->Option (List D × Rho)} {c:Rho->Option (Bool × Rho)} {e:PM} (hi:MI wi it) (hc:MT tc c) (he:ME te e):ME (tLC fr wi tc te) (mLC fr it c e):=by
  intro F B H σ ρ r0 ρ' Q R e0 q
  obtain ⟨x,e1,e0⟩:=Option.bind_eq_some_iff.mp e0
  obtain ⟨out,e2,e0⟩:=Option.bind_eq_some_iff.mp e0
  obtain ⟨hz,e0⟩:=cIf_eq e0
  cases e0
  refine hi F B H σ ρ x.1 x.2 _ R e1 fun J B1 H1 E1 R1 I1=>?_
  obtain ⟨ds,ρ1⟩:=x
  refine ⟨fun i m ys H2=>m=ds.length - i∧i≤ds.length∧∃ B2 done rest,Same B1 B2∧Same H1 H2∧(∀ q,H1 q≠none->B1 q=none->B2 q=none)∧Rel F B2 H2 σ ρ1∧Reps B2 ys done∧compL c e (fr.map fun p=>demote ρ1 p.2) (ds.drop i)=some rest∧done++rest=out,
    ⟨ds.length,rfl,Nat.zero_le _,B1,[],out,Same.refl _,Same.refl _,fun _ _ z=>z,R1,.nil,e2,rfl⟩,?_⟩
  rintro i m ys H2 ⟨rfl,hil,B2,done,rest,eB,eH,nb,R2,rp,hcl,hdr⟩
  have hlen:ys.length≤out.length:=by rw [← hdr,List.length_append,rp.length]; omega
  refine ⟨by omega,?_⟩
  by_cases hlt:i < ds.length
  . refine .inr ?_
    obtain ⟨go,yl⟩:=(I1 H2 eH).2 i ds[i] (List.getElem?_eq_getElem hlt)
    refine ⟨go,fun v H3 hy=>?_⟩
    rw [List.drop_eq_getElem_cons hlt] at hcl
    obtain ⟨b,c1,c2⟩:=Option.bind_eq_some_iff.mp (show (c (.fz ds[i]::fr.map fun p=>demote ρ1 p.2)).bind _=some rest from hcl)
    have had:∃ B3,Same B2 B3∧Same H2 H3∧(∀ q,H2 q≠none->B2 q=none->B3 q=none)∧Rel F B3 H3 σ ρ1∧Rep B3 v ds[i]:=by
      rcases yl v H3 hy with ⟨rfl,h2⟩ | ⟨p,xs,cs,h1,rfl,h3,rfl,h5⟩
      . exact ⟨B2,Same.refl _,Same.refl _,fun _ _ z=>z,R2,h2.mono eB⟩
      . obtain ⟨R3,E3,e3⟩:=R2.layT (xs:=xs) h3
        refine ⟨_,e3,same_upd h3,fun q h z=>?_,R3,?_⟩
        . rw [upd_ne (show q≠p from fun y=>h (by rw [y]; exact h3))]; exact z
        . rw [h1]; exact .tup upd_same (h5.mono (eB.trans e3))
    obtain ⟨B3,eB3,eH3,nb3,R3,rv⟩:=had
    have Ri:=R3.inner fr rv
    refine hc (F0 H3) B3 H3 _ _ b.1 b.2 _ Ri c1 fun B4 H4 E4 R4=>?_
    obtain ⟨eH4,nb4⟩:=inner_ext inner_nown E4
    have R4o:Rel F B4 H4 σ ρ1:=R3.grow E4.sB eH4 R4.sub nb4 R4.tupB R4.nz
    have nbA:∀ q,H1 q≠none->B1 q=none->B4 q=none:=fun q h z=>by
      have h2:H2 q≠none:=fun y=>h (eH.free y)
      have h3:H3 q≠none:=fun y=>h2 (eH3.free y)
      exact nb4 q h3 (nb3 q h2 (nb q h z))
    cases hb:b.1 with
    | false =>
      rw [hb,if_neg Bool.false_ne_true] at c2
      rw [if_neg Bool.false_ne_true]
      exact ⟨ds.length - (i + 1),by omega,rfl,hlt,B4,done,rest,eB.trans (eB3.trans E4.sB),eH.trans (eH3.trans eH4),nbA,R4o,rp.mono (eB3.trans E4.sB),c2,hdr⟩
    | true =>
      rw [hb,if_pos rfl] at c2
      rw [if_pos rfl]
      obtain ⟨y,c3,c2⟩:=Option.bind_eq_some_iff.mp c2
      obtain ⟨z,c4,c2⟩:=Option.bind_eq_some_iff.mp c2
      obtain ⟨rest',c5,c6⟩:=Option.map_eq_some_iff.mp c2
      subst c6
      have Ri4:=R4o.inner fr (rv.mono E4.sB)
      refine he.sv (F0 H4) B4 H4 _ _ y.1 y.2 _ Ri4 c3 fun u B5 H5 E5 R5 V5 N5=>?_
      obtain ⟨eH5,nb5⟩:=inner_ext inner_nown E5
      have R5o:Rel F B5 H5 σ ρ1:=R4o.grow E5.sB eH5 R5.sub nb5 R5.tupB R5.nz
      rw [asF_eq c4] at V5
      refine ⟨ds.length - (i + 1),by omega,rfl,hlt,B5,done++[z],rest',eB.trans (eB3.trans (E4.sB.trans E5.sB)),eH.trans (eH3.trans (eH4.trans eH5)),fun q h w=>?_,R5o,(rp.mono (eB3.trans (E4.sB.trans E5.sB))).append (.cons V5 .nil),c5,by rw [List.append_assoc]; exact hdr⟩
      have h2:H2 q≠none:=fun y=>h (eH.free y)
      have h3:H3 q≠none:=fun y=>h2 (eH3.free y)
      have h4:H4 q≠none:=fun y=>h3 (eH4.free y)
      exact nb5 q h4 (nbA q h w)
  . have hi':i=ds.length:=by omega
    subst hi'
    refine .inl ⟨(I1 H2 eH).1,fun p hp=>?_⟩
    rw [List.drop_length] at hcl
    cases hcl
    rw [List.append_nil] at hdr
    subst hdr
    have E2:Ext σ ρ1 B1 H1 ρ1 B2 H2:=Ext.grow eB eH nb
    have:=res_end (res:=(.list done,true)) (k:=fun Q=>∀ p,H2 p=none->Q (.ref p) (upd H2 p (.lst ys))) (Q:=Q) R2 ⟨ys,rp,fun Q h=>h⟩ fun v B' H' E R' V' N=>q v B' H' ((E1.trans E2).trans E) R' V' fun p z1 z2=>(E1.trans E2).live p (N p z1 z2)
    exact this p hp
end Mir
set_option Elab.async false
set_option linter.all false
set_option maxRecDepth 100000
namespace Mir
open PySem L2
variable [Zc]
def Sl.put:Sl->D->Sl
  | .own _,d=>.own d
  | .io _,d=>.io d
  | s,_=>s
section
variable {F:Fr} {B H:Hp} {σ:St} {ρ ρ':Rho} {v:V}
theorem SlotOk.at {B H:Hp} {σ σ':St} {i:Nat} {s:Sl} (e : σ'[i]?=σ[i]?) (h:SlotOk B H σ i s):SlotOk B H σ' i s:=by
  unfold SlotOk at h ⊢
  rw [e]; exact h
theorem Rel.write (R:Rel F B H σ ρ) {i:Nat} {s:Sl} {p:Addr} {o:HO} {d:D} (hi : ρ[i]?=some s) (hs:s.isOwn=true) (hv : σ[i]?=some (some (.ref p))) (no:(∀ xs,o≠.tup xs)∧∀ a u,o≠.frz a u) (ow:Own B (upd H p o) p d) :
    Rel F B (upd H p o) σ (ρ.set i (s.put d))∧Ext σ ρ B H (ρ.set i (s.put d)) B (upd H p o):=by
  obtain ⟨p',e1,hB,o0⟩:=R.ownAt hi hs
  rw [hv] at e1
  cases e1
  have hl:i < ρ.length:=(List.getElem?_eq_some_iff.mp hi).1
  have pO:(s.put d).isOwn=true∧slD (s.put d)=d:=by cases s <;> first | exact ⟨rfl,rfl⟩ | cases hs
  have ne:∀ (j:Nat) (t:Sl) (q:Addr),j≠i->ρ[j]?=some t->t.isRef=true->σ[j]?=some (some (.ref q))->q≠p:=fun j t q hj h1 h2 h3 z=>hj (R.dist i j s t p hi hs h1 h2 hv (z ▸ h3)).symm
  have nio:∀ (j:Nat) (t:Sl),(ρ.set i (s.put d))[j]?=some t->∃ t0,ρ[j]?=some t0∧t.isOwn=t0.isOwn∧t.isRef=t0.isRef∧(∀ c,t=.own c->∃ c0,t0=.own c0)∧∀ c,t=.io c->∃ c0,t0=.io c0:=fun j t h=>by
    rcases get_set h with ⟨rfl,rfl,_⟩ | ⟨_,h⟩
    . refine ⟨s,hi,?_⟩
      cases s with
      | own c=>exact ⟨rfl,rfl,fun _ _=>⟨_,rfl⟩,fun _ z=>by cases z⟩
      | io c=>exact ⟨rfl,rfl,(fun _ z=>by cases z),fun _ _=>⟨_,rfl⟩⟩
      | _=>cases hs
    . exact ⟨t,h,rfl,rfl,fun c z=>⟨c,z⟩,fun c z=>⟨c,z⟩⟩
  have hF:F.H p=none∨∃ x∈F.io,x.2=p:=by
    cases s with
    | own c=>exact .inl (R.ownN i c p hi hv)
    | io c =>
      obtain ⟨p',hp⟩:=R.ioN i c hi
      obtain ⟨h1,_⟩:=R.fx _ hp
      have h1' : σ[i]?=some (some (.ref p')):=h1
      rw [hv] at h1'
      cases h1'
      exact .inr ⟨_,hp,rfl⟩
    | _=>cases hs
  have nput:s.put d≠.ex:=by
    cases s with
    | own c=>simp [Sl.put]
    | io c=>simp [Sl.put]
    | _=>cases hs
  refine ⟨⟨?_,R.sB,?_,R.nB,by rw [List.length_set]; exact R.len,?_,?_,?_,?_,?_,?_,(fun j h=>R.exv j (ex_set nput h).1),fun q a u h=>by
    by_cases z:q=p
    . subst z; rw [upd_same] at h; cases h; exact absurd rfl (no.2 _ _)
    . rw [upd_ne z] at h; exact R.nz q a u h⟩,⟨Same.refl _,?_,?_,?_,?_⟩⟩
  . intro q u hq
    rw [upd_ne (show q≠p from fun z=>by rw [z,hB] at hq; cases hq)]; exact R.sub q u hq
  . intro q u h1 h2
    have z:q≠p:=fun z=>by
      rcases hF with h | ⟨x,hx,h⟩
      . rw [z,h] at h1; cases h1
      . exact h2 x hx (h.trans z.symm)
    rw [upd_ne z]; exact R.sH q u h1 h2
  . intro j t ht
    rcases get_set ht with ⟨rfl,rfl,_⟩ | ⟨hj,ht⟩
    . cases s with
      | own c=>exact ⟨p,hv,hB,ow⟩
      | io c=>exact ⟨p,hv,hB,ow⟩
      | _=>cases hs
    . have q:=R.slot j t ht
      have k:∀ q,q≠p->∀ u,H q=some u->upd H p o q=some u:=fun q z u h=>by rw [upd_ne z]; exact h
      cases t with
      | no=>trivial
      | ex=>trivial
      | fz c=>exact q
      | own c=>obtain ⟨q,h1,h2,h3⟩:=q; exact ⟨q,h1,h2,h3.mono (Same.refl _) (k q (ne j _ q hj ht rfl h1))⟩
      | io c=>obtain ⟨q,h1,h2,h3⟩:=q; exact ⟨q,h1,h2,h3.mono (Same.refl _) (k q (ne j _ q hj ht rfl h1))⟩
      | ro c=>obtain ⟨q,h1,h3⟩:=q; exact ⟨q,h1,h3.mono (Same.refl _) (k q (ne j _ q hj ht rfl h1))⟩
  . intro a b t u q h1 h2 h3 h4 h5 h6
    obtain ⟨t0,h1',e1,_,_,_⟩:=nio a t h1
    obtain ⟨u0,h3',_,e3,_,_⟩:=nio b u h3
    exact R.dist a b t0 u0 q h1' (e1 ▸ h2) h3' (e3 ▸ h4) h5 h6
  . intro j c q h1 h2
    obtain ⟨t0,h1',_,_,e1,_⟩:=nio j _ h1
    obtain ⟨c0,rfl⟩:=e1 c rfl
    exact R.ownN j c0 q h1' h2
  . intro x hx
    obtain ⟨h1,c,h2⟩:=R.fx x hx
    refine ⟨h1,?_⟩
    by_cases z:i=x.1
    . subst z
      rw [hi] at h2
      cases h2
      exact ⟨d,by rw [List.getElem?_set_self hl]; rfl⟩
    . exact ⟨c,by rw [List.getElem?_set_ne z]; exact h2⟩
  . intro j c h1
    obtain ⟨t0,h1',_,_,_,e1⟩:=nio j _ h1
    obtain ⟨c0,rfl⟩:=e1 c rfl
    exact R.ioN j c0 h1'
  . intro q xs h
    by_cases z:q=p
    . subst z; rw [upd_same] at h; cases h; exact absurd rfl (no.1 xs)
    . rw [upd_ne z] at h; exact R.tupB q xs h
  . intro q u h n
    refine ⟨?_,id⟩
    rw [upd_ne (show q≠p from fun z=>n i s hi hs (by rw [z]; exact hv))]; exact h
  . intro j t h1 h2
    obtain ⟨t0,h1',e1,_,_,_⟩:=nio j t h1
    exact ⟨t0,h1',e1 ▸ h2⟩
  . intro j t h1 h2
    obtain ⟨t0,h1',_,e1,_,_⟩:=nio j t h1
    exact ⟨t0,h1',e1 ▸ h2⟩
  . intro q h
    by_cases z:q=p
    . subst z; rw [upd_same] at h; cases h
    . rw [upd_ne z] at h; exact h
end
def ownL:Option Sl->Option (List D)
  | some (.own (.list ds))=>some ds
  | some (.io (.list ds))=>some ds
  | _=>none
theorem ownL_eq {s:Option Sl} {ds:List D} (h:ownL s=some ds):∃ t,s=some t∧t.isOwn=true∧slD t=.list ds:=by
  unfold ownL at h
  split at h
  . cases h; exact ⟨_,rfl,rfl,rfl⟩
  . cases h; exact ⟨_,rfl,rfl,rfl⟩
  . cases h
def putAt (ρ:Rho) (i:Nat) (d:D):Rho:=match ρ[i]? with
  | some s=>ρ.set i (s.put d)
  | none=>ρ
def MutJ (r:V->List V->Hp->VK->Prop) (f:List D->List D->Option (List D × D)):Prop :=
  ∀ (B H:Hp) (p:Addr) (xs:List V) (ds:List D) (vs:List V) (as:List D) (w:List D × D),H p=some (.lst xs)->Reps B xs ds->Same B H->Reps B vs as->f ds as=some w ->
    ∃ xs' v,Reps B xs' w.1∧Rep B v w.2∧∀ Q:VK,Q v (upd H p (.lst xs'))->r (.ref p) vs H Q
def mMut (i:Nat) (f:List D->List D->Option (List D × D)) (m:Rho->Option (List RV × Rho)):PM:=fun ρ=>(ownL ρ[i]?).bind fun _=>(m ρ).bind fun x=>(fzAll x.1 x.2).bind fun y=>(ownL y.2[i]?).bind fun ds=>(f ds y.1).map fun w=>((w.2,.fz),putAt y.2 i (.list w.1))
theorem Own.list {B H:Hp} {p:Addr} {ds:List D} (h:Own B H p (.list ds)):∃ xs,H p=some (.lst xs)∧Reps B xs ds:=by
  cases h with
  | lst h r=>exact ⟨_,h,r⟩
theorem me_mut {K:PySem.W.Frag} {i:Nat} {r:V->List V->Hp->VK->Prop} {f:List D->List D->Option (List D × D)} {t:TA} {m:Rho->Option (List RV × Rho)} (J:MutJ r f) (h:MA t m):ME (tBM K "list" r (tVar i) t) (mMut i f m):=by
  intro F B H σ ρ r0 ρ' Q R e q
  obtain ⟨ds0,e0,e⟩:=Option.bind_eq_some_iff.mp e
  obtain ⟨x,e1,e⟩:=Option.bind_eq_some_iff.mp e
  obtain ⟨y,e2,e⟩:=Option.bind_eq_some_iff.mp e
  obtain ⟨ds,e3,e⟩:=Option.bind_eq_some_iff.mp e
  obtain ⟨w,e4,e⟩:=Option.map_eq_some_iff.mp e
  cases e
  obtain ⟨s0,hs0,ho0,hd0⟩:=ownL_eq e0
  obtain ⟨p,hv,hB,ow⟩:=R.ownAt hs0 ho0
  rw [hd0] at ow
  obtain ⟨xs0,hp0,_⟩:=ow.list
  refine ⟨_,hv,.inl ⟨rfl,xs0,SqL.of hp0⟩,?_⟩
  refine h F B H σ ρ x.1 x.2 _ R e1 fun vs B1 H1 E1 R1 V1=>?_
  obtain ⟨B2,R2,rp,E2⟩:=Rel.frzL R1 V1.weak e2
  obtain ⟨s,hs,ho,hd⟩:=ownL_eq e3
  obtain ⟨p',hv',hB',ow'⟩:=R2.ownAt hs ho
  rw [hv] at hv'
  cases hv'
  rw [hd] at ow'
  obtain ⟨xs,hp,rx⟩:=ow'.list
  obtain ⟨xs',u,rx',ru,hr⟩:=J B2 H1 p xs ds vs y.1 w hp rx R2.sub rp e4
  obtain ⟨R3,E3⟩:=R2.write (o:=.lst xs') (d:=.list w.1) hs ho hv ⟨(fun _ z=>by cases z),fun _ _ z=>by cases z⟩ (.lst upd_same rx')
  have ep:putAt y.2 i (.list w.1)=y.2.set i (s.put (.list w.1)):=by unfold putAt; rw [hs]
  rw [ep] at q
  exact hr Q (q u B2 _ (E1.trans (E2.trans E3)) R3 ru fun p z=>by cases z)
def mMut0 (i:Nat) (f:List D->List D->Option (List D × D)):PM:=fun ρ=>(ownL ρ[i]?).bind fun ds=>(f ds []).map fun w=>((w.2,.fz),putAt ρ i (.list w.1))
theorem me_mut0 {K:PySem.W.Frag} {i:Nat} {r:V->List V->Hp->VK->Prop} {f:List D->List D->Option (List D × D)} (J:MutJ r f):ME (tBM0 K "list" r (tVar i)) (mMut0 i f):=by
  intro F B H σ ρ r0 ρ' Q R e q
  obtain ⟨ds,e0,e⟩:=Option.bind_eq_some_iff.mp e
  obtain ⟨w,e4,e⟩:=Option.map_eq_some_iff.mp e
  cases e
  obtain ⟨s,hs,ho,hd⟩:=ownL_eq e0
  obtain ⟨p,hv,hB,ow⟩:=R.ownAt hs ho
  rw [hd] at ow
  obtain ⟨xs,hp,rx⟩:=ow.list
  refine ⟨_,hv,.inl ⟨rfl,xs,SqL.of hp⟩,?_⟩
  obtain ⟨xs',u,rx',ru,hr⟩:=J B H p xs ds [] [] w hp rx R.sub .nil e4
  obtain ⟨R3,E3⟩:=R.write (o:=.lst xs') (d:=.list w.1) hs ho hv ⟨(fun _ z=>by cases z),fun _ _ z=>by cases z⟩ (.lst upd_same rx')
  have ep:putAt ρ i (.list w.1)=ρ.set i (s.put (.list w.1)):=by unfold putAt; rw [hs]
  rw [ep] at q
  exact hr Q (q u B _ E3 R3 ru fun p z=>by cases z)
def MtJ (K:PySem.W.Frag) (T:String) (r:V->List V->Hp->VK->Prop) (g:D->List D->Option (D × Bool)):Prop :=
  (∀ (B H:Hp) (x:V) (c:D) (ds:List D) (res:D × Bool),Same B H->View B H x c->g c ds=some res->tyV K T x H) ∧
  ∀ (B H:Hp) (x:V) (c:D) (vs:List V) (ds:List D) (res:D × Bool),Same B H->View B H x c->Views B H vs ds->g c ds=some res->ResOk B H res fun Q=>r x vs H Q
def mBM (g:D->List D->Option (D × Bool)) (a:PM) (m:Rho->Option (List RV × Rho)):PM:=fun ρ=>(sv a ρ).bind fun x=>(m x.2).bind fun y=>(refr y.2 x.1).bind fun r=>(g x.1.1 (y.1.map (·.1))).bind fun _=>(g r.1 (y.1.map (·.1))).map fun res=>(resK res,y.2)
theorem me_bm {K:PySem.W.Frag} {T:String} {r:V->List V->Hp->VK->Prop} {g:D->List D->Option (D × Bool)} {ta:TE} {a:PM} {t:TA} {m:Rho->Option (List RV × Rho)} (J:MtJ K T r g) (ha:ME ta a) (h:MA t m):ME (tBM K T r ta t) (mBM g a m):=by
  intro F B H σ ρ r0 ρ' Q R e q
  obtain ⟨x,e1,e⟩:=Option.bind_eq_some_iff.mp e
  obtain ⟨y,e2,e⟩:=Option.bind_eq_some_iff.mp e
  obtain ⟨r',e3,e⟩:=Option.bind_eq_some_iff.mp e
  obtain ⟨res0,e5,e⟩:=Option.bind_eq_some_iff.mp e
  obtain ⟨res,e4,e⟩:=Option.map_eq_some_iff.mp e
  cases e
  refine ha.sv F B H σ ρ x.1 x.2 _ R e1 fun v B1 H1 E1 R1 V1 N1=>?_
  refine ⟨J.1 B1 H1 v x.1.1 _ res0 R1.sub (V1.view R1) e5,?_⟩
  refine h F B1 H1 σ x.2 y.1 y.2 _ R1 e2 fun vs B2 H2 E2 R2 V2=>?_
  obtain ⟨V3,n3⟩:=V1.next E2 R2 (sv_kind e1) e3
  exact res_end R2 (J.2 B2 H2 v r'.1 vs _ res R2.sub (V3.view R2) (V2.views R2) e4) fun w B3 H3 E3 R3 V4 N4=>q w B3 H3 ((E1.trans E2).trans E3) R3 V4 fun p z1 z2=>(E1.trans E2).live p (N4 p z1 z2)
end Mir
set_option Elab.async false
set_option linter.all false
set_option maxRecDepth 100000
namespace Mir
open PySem L2
variable [Zc]
inductive Out where
  | nx (ρ:Rho) | rt (r:RV) (ρ:Rho) | bk (ρ:Rho) | ct (ρ:Rho)
abbrev SM:=Rho->Option Out
def OutOk (F:Fr) (D:Ends):Out->Prop
  | .nx ρ=>∀ B H σ,Rel F B H σ ρ->D.nx σ H
  | .rt r ρ=>∀ v B H σ,Rel F B H σ ρ->Val F B H σ ρ v r->D.rt v H
  | .bk ρ=>∀ B H σ,Rel F B H σ ρ->D.bk σ H
  | .ct ρ=>∀ B H σ,Rel F B H σ ρ->D.ct σ H
def MS (t:TS) (m:SM):Prop:=∀ (F:Fr) (B H:Hp) (σ:St) (ρ:Rho) (o:Out) (D:Ends),Rel F B H σ ρ->m ρ=some o->OutOk F D o->t D σ H
def mSeq (a b:SM):SM:=fun ρ=>(a ρ).bind fun o=>match o with
  | .nx ρ'=>b ρ'
  | o=>some o
theorem ms_seq {t u:TS} {a b:SM} (ha:MS t a) (hb:MS u b):MS (tSeq t u) (mSeq a b):=by
  intro F B H σ ρ o D R e q
  obtain ⟨x,e1,e⟩:=Option.bind_eq_some_iff.mp e
  refine ha F B H σ ρ x _ R e1 ?_
  cases x with
  | nx ρ'=>exact fun B' H' σ' R'=>hb F B' H' σ' ρ' o D R' e q
  | rt r ρ'=>cases e; exact q
  | bk ρ'=>cases e; exact q
  | ct ρ'=>cases e; exact q
def mPass:SM:=fun ρ=>some (.nx ρ)
theorem ms_next:MS tNext mPass:=by
  intro F B H σ ρ o D R e q
  cases e; exact q B H σ R
def mBrk:SM:=fun ρ=>some (.bk ρ)
theorem ms_break:MS tBreak mBrk:=by
  intro F B H σ ρ o D R e q
  cases e; exact q B H σ R
def mRet (a:PM):SM:=fun ρ=>(a ρ).map fun x=>.rt x.1 x.2
theorem ms_ret {t:TE} {a:PM} (ha:ME t a):MS (tRet t) (mRet a):=by
  intro F B H σ ρ o D R e q
  obtain ⟨x,e1,e⟩:=Option.map_eq_some_iff.mp e
  cases e
  exact ha F B H σ ρ x.1 x.2 _ R e1 fun v B' H' E R' V' N=>q v B' H' σ R' V'
def mRetN:SM:=fun ρ=>some (.rt (.none,.fz) ρ)
def mDrop (a:PM):SM:=fun ρ=>(a ρ).map fun x=>.nx x.2
theorem ms_drop {t:TE} {a:PM} (ha:ME t a):MS (tDrop t) (mDrop a):=by
  intro F B H σ ρ o D R e q
  obtain ⟨x,e1,e⟩:=Option.map_eq_some_iff.mp e
  cases e
  exact ha F B H σ ρ x.1 x.2 _ R e1 fun v B' H' E R' V' N=>q B' H' σ R'
def mIfS (c:Rho->Option (Bool × Rho)) (a b:SM):SM:=fun ρ=>(c ρ).bind fun x=>if x.1=true then a x.2 else b x.2
theorem ms_if {tc:TT} {t u:TS} {c:Rho->Option (Bool × Rho)} {a b:SM} (hc:MT tc c) (ha:MS t a) (hb:MS u b):MS (tIfS tc t u) (mIfS c a b):=by
  intro F B H σ ρ o D R e q
  obtain ⟨x,e1,e⟩:=Option.bind_eq_some_iff.mp e
  refine hc F B H σ ρ x.1 x.2 _ R e1 fun B' H' E R'=>?_
  by_cases h:x.1=true
  . rw [if_pos h] at e ⊢; exact ha F B' H' σ x.2 o D R' e q
  . rw [if_neg h] at e ⊢; exact hb F B' H' σ x.2 o D R' e q
def setSl (ρ:Rho) (i:Nat) (s:Sl):Option Rho:=match ρ[i]? with
  | none=>none
  | some (.io _)=>none
  | some _=>some (ρ.set i s)
theorem setSl_eq {ρ ρ':Rho} {i:Nat} {s:Sl} (h:setSl ρ i s=some ρ') : ρ'=ρ.set i s∧∃ s0,ρ[i]?=some s0∧∀ d,s0≠.io d:=by
  unfold setSl at h
  cases q : ρ[i]? with
  | none=>rw [q] at h; cases h
  | some s0 =>
    rw [q] at h
    cases s0 with
    | io d=>cases h
    | no=>cases h; exact ⟨rfl,_,rfl,fun _ z=>by cases z⟩
    | ex=>cases h; exact ⟨rfl,_,rfl,fun _ z=>by cases z⟩
    | fz _=>cases h; exact ⟨rfl,_,rfl,fun _ z=>by cases z⟩
    | own _=>cases h; exact ⟨rfl,_,rfl,fun _ z=>by cases z⟩
    | ro _=>cases h; exact ⟨rfl,_,rfl,fun _ z=>by cases z⟩
section
variable {F:Fr} {B H:Hp} {σ:St} {ρ ρ':Rho} {v:V}
theorem Rel.assignFz (R:Rel F B H σ ρ) {i:Nat} {d:D} (rp:Rep B v d) (h:setSl ρ i (.fz d)=some ρ'):Rel F B H (σ.set i (some v)) ρ':=by
  obtain ⟨rfl,s0,h0,nio⟩:=setSl_eq h
  have hl:i < ρ.length:=(List.getElem?_eq_some_iff.mp h0).1
  have hls:i < σ.length:=R.len ▸ hl
  have so:∀ j,j≠i->(σ.set i (some v))[j]?=σ[j]?:=fun j hj=>List.getElem?_set_ne fun e=>hj e.symm
  refine ⟨R.sub,R.sB,R.sH,R.nB,by rw [List.length_set,List.length_set]; exact R.len,?_,?_,?_,?_,?_,R.tupB,(fun j h=>by obtain ⟨h1,h2⟩:=ex_set (by simp) h; rw [so j h2]; exact R.exv j h1),R.nz⟩
  . intro j s hs
    rcases get_set hs with ⟨rfl,rfl,_⟩ | ⟨hj,hs⟩
    . exact ⟨v,List.getElem?_set_self hls,rp⟩
    . exact (R.slot j s hs).at (so j hj)
  . intro a b s t p h1 h2 h3 h4 h5 h6
    rcases get_set h1 with ⟨rfl,rfl,_⟩ | ⟨ha,h1⟩
    . cases h2
    . rcases get_set h3 with ⟨rfl,rfl,_⟩ | ⟨hb,h3⟩
      . cases h4
      . rw [so a ha] at h5; rw [so b hb] at h6; exact R.dist a b s t p h1 h2 h3 h4 h5 h6
  . intro j c p h1 h2
    rcases get_set h1 with ⟨rfl,e,_⟩ | ⟨hj,h1⟩
    . cases e
    . rw [so j hj] at h2; exact R.ownN j c p h1 h2
  . intro x hx
    obtain ⟨h1,c,h2⟩:=R.fx x hx
    have z:x.1≠i:=fun z=>by rw [z,h0] at h2; cases h2; exact nio _ rfl
    exact ⟨by rw [so _ z]; exact h1,c,by rw [List.getElem?_set_ne fun e=>z e.symm]; exact h2⟩
  . intro j c h1
    rcases get_set h1 with ⟨rfl,e,_⟩ | ⟨hj,h1⟩
    . cases e
    . exact R.ioN j c h1
theorem Rel.assignOwn (R:Rel F B H σ ρ) {i:Nat} {d:D} (vl:Val F B H σ ρ v (d,.new)) (h:setSl ρ i (.own d)=some ρ'):Rel F B H (σ.set i (some v)) ρ':=by
  obtain ⟨rfl,s0,h0,nio⟩:=setSl_eq h
  obtain ⟨p,rfl,hB,hF,ow,nn⟩:=vl
  have hl:i < ρ.length:=(List.getElem?_eq_some_iff.mp h0).1
  have hls:i < σ.length:=R.len ▸ hl
  have so:∀ j,j≠i->(σ.set i (some (.ref p)))[j]?=σ[j]?:=fun j hj=>List.getElem?_set_ne fun e=>hj e.symm
  have si:(σ.set i (some (.ref p)))[i]?=some (some (.ref p)):=List.getElem?_set_self hls
  refine ⟨R.sub,R.sB,R.sH,R.nB,by rw [List.length_set,List.length_set]; exact R.len,?_,?_,?_,?_,?_,R.tupB,(fun j h=>by obtain ⟨h1,h2⟩:=ex_set (by simp) h; rw [so j h2]; exact R.exv j h1),R.nz⟩
  . intro j s hs
    rcases get_set hs with ⟨rfl,rfl,_⟩ | ⟨hj,hs⟩
    . exact ⟨p,si,hB,ow⟩
    . exact (R.slot j s hs).at (so j hj)
  . intro a b s t q h1 h2 h3 h4 h5 h6
    rcases get_set h1 with ⟨rfl,rfl,_⟩ | ⟨ha,h1'⟩
    . rcases get_set h3 with ⟨rfl,rfl,_⟩ | ⟨hb,h3⟩
      . rfl
      . rw [si] at h5
        cases h5
        rw [so b hb] at h6
        exact absurd h6 (nn b t h3 h4)
    . rcases get_set h3 with ⟨rfl,rfl,_⟩ | ⟨hb,h3⟩
      . rw [si] at h6
        cases h6
        rw [so a ha] at h5
        exact absurd h5 (nn a s h1' (Sl.ref_of h2))
      . rw [so a ha] at h5; rw [so b hb] at h6; exact R.dist a b s t q h1' h2 h3 h4 h5 h6
  . intro j c q h1 h2
    rcases get_set h1 with ⟨rfl,e,_⟩ | ⟨hj,h1⟩
    . rw [si] at h2; cases h2; exact hF
    . rw [so j hj] at h2; exact R.ownN j c q h1 h2
  . intro x hx
    obtain ⟨h1,c,h2⟩:=R.fx x hx
    have z:x.1≠i:=fun z=>by rw [z,h0] at h2; cases h2; exact nio _ rfl
    exact ⟨by rw [so _ z]; exact h1,c,by rw [List.getElem?_set_ne fun e=>z e.symm]; exact h2⟩
  . intro j c h1
    rcases get_set h1 with ⟨rfl,e,_⟩ | ⟨hj,h1⟩
    . cases e
    . exact R.ioN j c h1
end
def sto (i:Nat) (x:RV × Rho):Option Rho:=match x.1.2 with
  | .fz=>setSl x.2 i (.fz x.1.1)
  | .new=>setSl x.2 i (.own x.1.1)
  | .at j=>if j=i then some x.2 else (fzOne x.1 x.2).bind fun y=>setSl y.2 i (.fz y.1)
  | .ro=>none
def mAsg (i:Nat) (a:PM):SM:=fun ρ=>(a ρ).bind fun x=>(sto i x).map .nx
theorem ms_asg {i:Nat} {t:TE} {a:PM} (ha:ME t a):MS (tAsg t (gName i)) (mAsg i a):=by
  intro F B H σ ρ o D R e q
  obtain ⟨x,e1,e⟩:=Option.bind_eq_some_iff.mp e
  obtain ⟨ρ2,e2,e⟩:=Option.map_eq_some_iff.mp e
  cases e
  refine ha F B H σ ρ x.1 x.2 _ R e1 fun v B1 H1 E1 R1 V1 N1=>?_
  show D.nx (σ.set i (some v)) H1
  obtain ⟨⟨d,k⟩,ρ1⟩:=x
  cases k with
  | fz=>exact q B1 H1 _ (R1.assignFz V1 e2)
  | new=>exact q B1 H1 _ (R1.assignOwn V1 e2)
  | ro=>cases e2
  | «at» j =>
    have e2':(if j=i then some ρ1 else (fzOne (d,.at j) ρ1).bind fun y=>setSl y.2 i (.fz y.1))=some ρ2:=e2
    obtain ⟨s,h1,h2,h3,h4⟩:=V1
    have h4' : σ[j]?=some (some v):=h4
    by_cases z:j=i
    . rw [if_pos z] at e2'
      cases e2'
      subst z
      have : σ.set j (some v)=σ:=by
        apply List.ext_getElem?
        intro k
        by_cases hk:k=j
        . subst hk
          obtain ⟨hl,_⟩:=List.getElem?_eq_some_iff.mp h4'
          rw [List.getElem?_set_self hl,h4']
        . rw [List.getElem?_set_ne fun e=>hk e.symm]
      rw [this]
      exact q B1 H1 _ R1
    . rw [if_neg z] at e2'
      obtain ⟨y,e3,e4⟩:=Option.bind_eq_some_iff.mp e2'
      obtain ⟨B2,R2,rp,E2⟩:=R1.frz (v:=v) (r:=(d,.at j)) (show WVal B1 σ v (d,.at j) from h4') e3
      exact q B2 H1 _ (R2.assignFz rp e4)
def mAug (i:Nat) (f:Int->Int->Int) (a:PM):SM:=fun ρ=>match ρ[i]? with
  | some (.fz (.int x))=>((sv a ρ).bind asI).bind fun y=>(setSl y.2 i (.fz (.int (f x y.1)))).map .nx
  | _=>none
def MG (g:TG) (mg:D->Rho->Option Rho):Prop:=∀ (F:Fr) (B H:Hp) (σ:St) (ρ:Rho) (v:V) (d:D) (ρ':Rho) (Q:St->Hp->Prop),Rel F B H σ ρ->Rep B v d->mg d ρ=some ρ'->(∀ B' H' σ',Rel F B' H' σ' ρ'->Same B B'->Q σ' H')->g v σ H Q
def MGs (g:TGs) (mg:List D->Rho->Option Rho):Prop:=∀ (F:Fr) (B H:Hp) (σ:St) (ρ:Rho) (vs:List V) (ds:List D) (ρ':Rho) (Q:St->Hp->Prop),Rel F B H σ ρ->Reps B vs ds->mg ds ρ=some ρ'->(∀ B' H' σ',Rel F B' H' σ' ρ'->Same B B'->Q σ' H')->g vs σ H Q
def mgN (i:Nat):D->Rho->Option Rho:=fun d ρ=>setSl ρ i (.fz d)
theorem mg_name {i:Nat}:MG (gName i) (mgN i):=fun F B H σ ρ v d ρ' Q R rp e q=>q B H _ (R.assignFz rp e) (Same.refl _)
def mgsNil:List D->Rho->Option Rho:=fun ds ρ=>match ds with
  | []=>some ρ
  | _=>none
def mgsCons (g:D->Rho->Option Rho) (gs:List D->Rho->Option Rho):List D->Rho->Option Rho:=fun ds ρ=>match ds with
  | d::ds=>(g d ρ).bind fun ρ1=>gs ds ρ1
  | _=>none
theorem mgs_nil:MGs gNil mgsNil:=fun F B H σ ρ vs ds ρ' Q R rp e q=>by
  cases rp with
  | nil=>cases e; exact ⟨rfl,q B H σ R (Same.refl _)⟩
  | cons _ _=>cases e
theorem mgs_cons {g:TG} {gs:TGs} {m:D->Rho->Option Rho} {ms:List D->Rho->Option Rho} (h:MG g m) (hs:MGs gs ms):MGs (gCons g gs) (mgsCons m ms):=fun F B H σ ρ vs ds ρ' Q R rp e q=>by
  cases rp with
  | nil=>cases e
  | cons r rs =>
    obtain ⟨ρ1,e1,e2⟩:=Option.bind_eq_some_iff.mp e
    exact ⟨_,_,rfl,h F B H σ ρ _ _ ρ1 _ R r e1 fun B1 H1 σ1 R1 s1=>hs F B1 H1 σ1 ρ1 _ _ ρ' Q R1 (rs.mono s1) e2 fun B2 H2 σ2 R2 s2=>q B2 H2 σ2 R2 (s1.trans s2)⟩
def mgT (n:Nat) (ms:List D->Rho->Option Rho):D->Rho->Option Rho:=fun d ρ=>(asT d).bind fun ds=>if ds.length=n then ms ds ρ else none
def mAsgG (a:PM) (g:D->Rho->Option Rho):SM:=fun ρ=>(sv a ρ).bind fun x=>(fzOne x.1 x.2).bind fun y=>(g y.1 y.2).map .nx
theorem ms_asgG {t:TE} {tg:TG} {a:PM} {g:D->Rho->Option Rho} (ha:ME t a) (hg:MG tg g):MS (tAsg t tg) (mAsgG a g):=by
  intro F B H σ ρ o D R e q
  obtain ⟨x,e1,e⟩:=Option.bind_eq_some_iff.mp e
  obtain ⟨y,e2,e⟩:=Option.bind_eq_some_iff.mp e
  obtain ⟨ρ2,e3,e⟩:=Option.map_eq_some_iff.mp e
  cases e
  refine ha.sv F B H σ ρ x.1 x.2 _ R e1 fun v B1 H1 E1 R1 V1 N1=>?_
  have w:WVal B1 σ v x.1:=(Vl.weak (F:=F) (H:=H1) (ρ:=x.2) (vs:=[v]) (rs:=[x.1]) ⟨⟨V1,sv_kind e1⟩,trivial⟩).1
  obtain ⟨B2,R2,rp,E2⟩:=R1.frz w e2
  exact hg F B2 H1 σ y.2 v y.1 ρ2 _ R2 rp e3 fun B' H' σ' R' _=>q B' H' σ' R'
def mgSub (i:Nat) (a:PM):D->Rho->Option Rho:=fun d ρ=>(ownL ρ[i]?).bind fun _=>((sv a ρ).bind asI).bind fun y=>(ownL y.2[i]?).bind fun ds=>(ixN ds.length y.1).map fun j=>putAt y.2 i (.list (ds.set j d))
def mWhile (c:Rho->Option (Bool × Rho)) (b:SM):Nat->SM
  | 0=>fun _=>none
  | n + 1=>fun ρ=>(c ρ).bind fun x=>if x.1=true then (b x.2).bind fun o=>match o with
      | .nx ρ'=>mWhile c b n ρ'
      | .ct ρ'=>mWhile c b n ρ'
      | .bk ρ'=>some (.nx ρ')
      | .rt r ρ'=>some (.rt r ρ')
    else some (.nx x.2)
theorem ms_while {tc:TT} {tb:TS} {c:Rho->Option (Bool × Rho)} {b:SM} {n:Nat} (hc:MT tc c) (hb:MS tb b):MS (tWhile tc tb) (mWhile c b n):=by
  intro F B H σ ρ o D R e q
  refine ⟨fun m σ H=>∃ B ρ,Rel F B H σ ρ∧mWhile c b m ρ=some o,⟨n,B,ρ,R,e⟩,?_⟩
  rintro m σ1 H1 ⟨B1,ρ1,R1,e1⟩
  cases m with
  | zero=>cases e1
  | succ m =>
    obtain ⟨x,e2,e3⟩:=Option.bind_eq_some_iff.mp (show (c ρ1).bind _=some o from e1)
    refine hc F B1 H1 σ1 ρ1 x.1 x.2 _ R1 e2 fun B2 H2 E2 R2=>?_
    by_cases h:x.1=true
    . rw [if_pos h] at e3 ⊢
      obtain ⟨w,e4,e5⟩:=Option.bind_eq_some_iff.mp e3
      refine ⟨fun σ' H'=>∃ B' ρ',Rel F B' H' σ' ρ'∧mWhile c b m ρ'=some o,fun σ' H' h'=>⟨m,Nat.lt_succ_self _,h'⟩,?_⟩
      refine hb F B2 H2 σ1 x.2 w _ R2 e4 ?_
      cases w with
      | nx ρ'=>exact fun B' H' σ' R'=>⟨B',ρ',R',e5⟩
      | ct ρ'=>exact fun B' H' σ' R'=>⟨B',ρ',R',e5⟩
      | bk ρ'=>cases e5; exact q
      | rt r ρ'=>cases e5; exact q
    . rw [if_neg h] at e3 ⊢
      cases e3
      exact q B2 H2 σ1 R2
def forL (g:D->Rho->Option Rho) (b:SM):List D->SM
  | []=>fun ρ=>some (.nx ρ)
  | d::ds=>fun ρ=>(g d ρ).bind fun ρ1=>(b ρ1).bind fun o=>match o with
      | .nx ρ'=>forL g b ds ρ'
      | .ct ρ'=>forL g b ds ρ'
      | .bk ρ'=>some (.nx ρ')
      | .rt r ρ'=>some (.rt r ρ')
def mFor (it:Rho->Option (List D × Rho)) (g:D->Rho->Option Rho) (b:SM):SM:=fun ρ=>(it ρ).bind fun x=>forL g b x.1 x.2
section
variable {F:Fr} {B B1 H H1:Hp} {σ σ1:St} {ρ ρ1:Rho}
theorem Rel.up (R1:Rel F B1 H1 σ1 ρ1) (R:Rel ⟨B1,F.H,F.io,F.Z⟩ B H σ ρ):Rel F B H σ ρ :=
  ⟨R.sub,R1.sB.trans R.sB,R.sH,fun q h z=>R.nB q h (R1.nB q h z),R.len,R.slot,R.dist,R.ownN,R.fx,R.ioN,R.tupB,R.exv,R.nz⟩
theorem Rel.down (R1:Rel F B1 H1 σ1 ρ1):Rel ⟨B1,F.H,F.io,F.Z⟩ B1 H1 σ1 ρ1 :=
  ⟨R1.sub,Same.refl _,R1.sH,fun q h z=>z,R1.len,R1.slot,R1.dist,R1.ownN,R1.fx,R1.ioN,R1.tupB,R1.exv,R1.nz⟩
end
theorem OutOk.down {F:Fr} {B1 H1:Hp} {σ1:St} {ρ1:Rho} (R1:Rel F B1 H1 σ1 ρ1) {D:Ends} {o:Out} (h:OutOk F D o):OutOk ⟨B1,F.H,F.io,F.Z⟩ D o:=by
  cases o with
  | nx ρ=>exact fun B H σ R=>h B H σ (R1.up R)
  | bk ρ=>exact fun B H σ R=>h B H σ (R1.up R)
  | ct ρ=>exact fun B H σ R=>h B H σ (R1.up R)
  | rt r ρ=>exact fun v B H σ R V=>h v B H σ (R1.up R) V
theorem ms_for {ti:TI} {tg:TG} {tb:TS} {it:Rho->Option (List D × Rho)} {g:D->Rho->Option Rho} {b:SM} (hi:MF ti it) (hg:MG tg g) (hb:MS tb b):MS (tFor ti tg tb) (mFor it g b):=by
  intro F B H σ ρ o D R e q
  obtain ⟨x,e1,e⟩:=Option.bind_eq_some_iff.mp e
  refine hi F B H σ ρ x.1 x.2 _ R e1 fun J B1 H1 E1 R1 I1=>?_
  obtain ⟨ds,ρ1⟩:=x
  have q':=q.down R1
  refine ⟨fun i m σ H=>m=ds.length - i∧i≤ds.length∧∃ B ρ,Rel ⟨B1,F.H,F.io,F.Z⟩ B H σ ρ∧forL g b (ds.drop i) ρ=some o,⟨ds.length,rfl,Nat.zero_le _,B1,ρ1,R1.down,e⟩,?_⟩
  rintro i m σ2 H2 ⟨rfl,hil,B2,ρ2,R2,e2⟩
  have sH:Same B1 H2:=R2.sB.trans R2.sub
  by_cases hlt:i < ds.length
  . refine .inr ?_
    obtain ⟨go,yl⟩:=(I1 H2 sH).2 i ds[i] (List.getElem?_eq_getElem hlt)
    rw [List.drop_eq_getElem_cons hlt] at e2
    obtain ⟨ρ3,e3,e4⟩:=Option.bind_eq_some_iff.mp (show (g ds[i] ρ2).bind _=some o from e2)
    obtain ⟨w,e5,e6⟩:=Option.bind_eq_some_iff.mp e4
    refine ⟨go,fun σ' H'=>∃ B' ρ',Rel ⟨B1,F.H,F.io,F.Z⟩ B' H' σ' ρ'∧forL g b (ds.drop (i + 1)) ρ'=some o,fun σ' H' h'=>⟨ds.length - (i + 1),by omega,rfl,hlt,h'⟩,fun y H3 hy=>?_⟩
    have had:∃ B3,Rel ⟨B1,F.H,F.io,F.Z⟩ B3 H3 σ2 ρ2∧Rep B3 y ds[i]:=by
      rcases yl y H3 hy with ⟨rfl,h2⟩ | ⟨p,xs,cs,h1,rfl,h3,rfl,h5⟩
      . exact ⟨B2,R2,h2.mono R2.sB⟩
      . obtain ⟨R3,E3,e3⟩:=R2.layT (xs:=xs) h3
        exact ⟨_,R3,by rw [h1]; exact .tup upd_same (h5.mono (R2.sB.trans e3))⟩
    obtain ⟨B3,R3,rp⟩:=had
    refine hg _ B3 H3 σ2 ρ2 y ds[i] ρ3 _ R3 rp e3 fun B4 H4 σ4 R4 _=>?_
    refine hb _ B4 H4 σ4 ρ3 w _ R4 e5 ?_
    cases w with
    | nx ρ'=>exact fun B' H' σ' R'=>⟨B',ρ',R',e6⟩
    | ct ρ'=>exact fun B' H' σ' R'=>⟨B',ρ',R',e6⟩
    | bk ρ'=>cases e6; exact q'
    | rt r ρ'=>cases e6; exact q'
  . have hi':i=ds.length:=by omega
    subst hi'
    rw [List.drop_length] at e2
    cases e2
    exact .inl ⟨(I1 H2 sH).1,q' B2 H2 σ2 R2⟩
def retD:Out->Option (D × Bool)
  | .rt (d,.fz) _=>some (d,false)
  | .rt (d,.new) _=>some (d,true)
  | .rt (_,.at i) ρ=>match ρ[i]? with
    | some (.own d)=>some (d,true)
    | _=>none
  | .nx _=>some (.none,false)
  | _=>none
def fnM (n k:Nat) (b:SM) (ds:List D):Option (D × Bool):=if ds.length=n then (b (ds.map .fz++List.replicate k .no)).bind retD else none
theorem fn_run {n k:Nat} {b:SM} {t:TS} {N:List Str} {vs:List V} {H:Hp} {Q:VK} {E:XK} (hb:MS t b) (hN:N.length=n + k) (h:spM (fnM n k b) vs H Q E):t { nx:=fun _ H'=>Q .non H',rt:=Q } (L2.start N vs) H:=by
  obtain ⟨B,ds,d,o,sub,tB,rp,e,q⟩:=h
  unfold fnM at e
  split at e
  case isFalse=>cases e
  rename_i hl
  obtain ⟨w,e1,e2⟩:=Option.bind_eq_some_iff.mp e
  have hvl:vs.length=n:=rp.length.trans hl
  have own0:∀ (i:Nat) (s:Sl),(ds.map Sl.fz++List.replicate k .no)[i]?=some s->s.isRef=true->False:=fun i s h1 h2=>by
    have:=List.mem_of_getElem? h1
    rcases List.mem_append.mp this with h | h
    . obtain ⟨c,_,rfl⟩:=List.mem_map.mp h; cases h2
    . rw [List.eq_of_mem_replicate h] at h2; cases h2
  have ex0:∀ i:Nat,(ds.map Sl.fz++List.replicate k .no)[i]?=some Sl.ex->False:=fun i h1=>by
    have:=List.mem_of_getElem? h1
    rcases List.mem_append.mp this with h | h
    . obtain ⟨c,_,z⟩:=List.mem_map.mp h; cases z
    . have:=List.eq_of_mem_replicate h; cases this
  have R:Rel ⟨B,H,[],fun q=>H q≠none⟩ B H (L2.start N vs) (ds.map .fz++List.replicate k .no):=by
    refine ⟨sub,Same.refl _,fun _ _ z _=>z,fun _ _ z=>z,?_,fun i s hs=>?_,fun i j s t p h1 h2=>(own0 i s h1 (Sl.ref_of h2)).elim,fun i c p h1=>(own0 i _ h1 rfl).elim,(fun x hx=>by cases hx),fun i c h1=>(own0 i _ h1 rfl).elim,tB,(fun i h1=>(ex0 i h1).elim),fun q o u h z=>by rw [z] at h; cases h⟩
    . simp [L2.start,hl,hvl,hN]
    . by_cases hi:i < n
      . rw [List.getElem?_append_left (by simpa [hl] using hi),List.getElem?_map] at hs
        obtain ⟨c,h1,rfl⟩:=Option.map_eq_some_iff.mp hs
        obtain ⟨x,h2,h3⟩:=rp.get i c h1
        refine ⟨x,?_,h3⟩
        unfold L2.start
        rw [List.getElem?_append_left (by simpa [hvl] using hi),List.getElem?_map,h2]
        rfl
      . rw [List.getElem?_append_right (by simpa [hl] using Nat.le_of_not_lt hi)] at hs
        have:=List.eq_of_mem_replicate (List.mem_of_getElem? hs)
        subst this
        trivial
  refine hb _ B H _ _ w _ R e1 ?_
  have post:∀ {B' H':Hp} {σ':St} {ρ':Rho},Rel ⟨B,H,[],fun q=>H q≠none⟩ B' H' σ' ρ'->Same H H'∧Same B B'∧Same B' H'∧(∀ q,H q≠none->B q=none->B' q=none)∧(∀ q xs,H' q=some (.tup xs)->B' q=some (.tup xs))∧∀ q o u,H' q=some (.frz o u)->H q≠none:=fun R' =>
    ⟨fun q u z=>R'.sH q u z (fun x hx=>by cases hx),R'.sB,R'.sub,R'.nB,R'.tupB,R'.nz⟩
  cases w with
  | nx ρ' =>
    cases e2
    intro B' H' σ' R'
    obtain ⟨p1,p2,p3,p4,p5,p6⟩:=post R'
    exact q _ B' H' ⟨p1,p2,p3,p4,p5,p6,.non⟩
  | bk ρ'=>cases e2
  | ct ρ'=>cases e2
  | rt r ρ' =>
    intro v B' H' σ' R' V'
    obtain ⟨p1,p2,p3,p4,p5,p6⟩:=post R'
    obtain ⟨c,kd⟩:=r
    cases kd with
    | fz=>cases e2; exact q v B' H' ⟨p1,p2,p3,p4,p5,p6,V'⟩
    | new =>
      cases e2
      obtain ⟨p,rfl,h1,h2,h3,_⟩:=V'
      exact q _ B' H' ⟨p1,p2,p3,p4,p5,p6,⟨p,rfl,h2,h1,h3⟩⟩
    | ro=>cases e2
    | «at» i =>
      obtain ⟨s,h1,h2,h3,h4⟩:=V'
      have e2':(match ρ'[i]? with
        | some (.own d)=>some (d,true)
        | _=>none)=some (d,o):=e2
      rw [h1] at e2'
      cases s with
      | own c' =>
        cases e2'
        obtain ⟨p,g1,g2,g3⟩:=R'.slot i _ h1
        have h4' : σ'[i]?=some (some v):=h4
        rw [h4'] at g1
        cases g1
        exact q _ B' H' ⟨p1,p2,p3,p4,p5,p6,⟨p,rfl,R'.ownN i _ p h1 h4',g2,g3⟩⟩
      | _=>cases e2'
theorem spM_len {n k:Nat} {b:SM} {vs:List V} {H:Hp} {Q:VK} {E:XK} (h:spM (fnM n k b) vs H Q E):vs.length=n:=by
  obtain ⟨B,ds,d,o,sub,tB,rp,e,q⟩:=h
  unfold fnM at e
  split at e
  . rename_i hl; exact rp.length.trans hl
  . cases e
end Mir
set_option Elab.async false
set_option linter.all false
set_option maxRecDepth 100000
namespace Mir
open PySem L2 PySem.Spec PyProof.Rows
variable [Zc]
section
variable {X:Cx}
def rCatR:R2:=fun x y H Q=>∃ l b xs zs,x=.ref l∧y=.ref b∧Rd H l (.lst xs)∧Rd H b (.lst zs)∧xs.length + zs.length≤sizeLine∧∀ p,H p=none->Q (.ref p) (upd H p (.lst (xs++zs)))
theorem op_catR:OpR X (binaryOp .Add) rCatR:=by
  intro pins s σ H x y v u Q I rx ry h
  obtain ⟨l,b,xs,zs,rfl,rfl,hH,hB,hz,q⟩:=h
  cases rx
  cases ry
  obtain ⟨z,its,n,r,e⟩:=hH.ok I.hok
  obtain ⟨z2,its2,n2,r2,e2⟩:=hB.ok I.hok
  have hl:=r.length
  have hl2:=r2.length
  refine PySem.P.add_list e e2 ?_ (by rw [List.size_toArray,List.size_toArray]; omega)
  have ea:its.toArray++its2.toArray=(its++its2).toArray:=by simp
  rw [ea]
  exact ⟨.ref _,_,I.lnew (t':=s.toks) (r.append r2) (by rw [List.length_append]; omega),rfl,q _ I.fresh⟩
def rPlusM (K:PySem.W.Frag):R2:=fun x y H Q=>rI0 (fun i j=>.int (i + j)) x y H Q∨rCatR x y H Q∨(∃ i j,x=.str i∧y=.str j∧i.length + j.length≤sizeLine∧Q (.str (i++j)) H)∨rCatT K x y H Q
theorem op_addM:OpR X (binaryOp .Add) (rPlusM X.K):=op_add.or (op_catR.or (op_add_str.or op_catT))
end
theorem res_int {B H:Hp} {i:Int} {k:VK->Prop} (h:∀ Q:VK,Q (.int i) H->k Q):ResOk B H (.int i,false) k:=⟨_,.int i,h⟩
theorem res_bool {B H:Hp} {i:Bool} {k:VK->Prop} (h:∀ Q:VK,Q (.bl i) H->k Q):ResOk B H (.bool i,false) k:=⟨_,.bl i,h⟩
theorem res_str {B H:Hp} {i:Str} {k:VK->Prop} (h:∀ Q:VK,Q (.str i) H->k Q):ResOk B H (.str i,false) k:=⟨_,.str i,h⟩
noncomputable def gAdd:D->D->Option (D × Bool)
  | .int i,.int j=>some (.int (i + j),false)
  | .list a,.list b=>cIf (a.length + b.length≤sizeLine) (some (.list (a++b),true)) none
  | .str a,.str b=>cIf (a.length + b.length≤sizeLine) (some (.str (a++b),false)) none
  | .tuple (c::a),.tuple b=>cIf ((c::a).length + b.length≤sizeLine∧b≠[]) (some (.tuple ((c::a)++b),true)) none
  | _,_=>none
theorem J_add {K:PySem.W.Frag}:OpJ (rPlusM K) gAdd:=by
  intro B H x y c d res s hx hy e
  unfold gAdd at e
  split at e
  . cases e
    have h1:=hx.int; have h2:=hy.int; subst h1 h2
    exact res_int fun Q q=>.inl ⟨_,_,rfl,rfl,q⟩
  . obtain ⟨hz,e⟩:=cIf_eq e
    . cases e
      obtain ⟨p,xs,rfl,r1,rp1⟩:=hx.list s
      obtain ⟨p2,ys,rfl,r2,rp2⟩:=hy.list s
      exact ⟨xs++ys,rp1.append rp2,fun Q q=>.inr (.inl ⟨_,_,_,_,rfl,rfl,r1,r2,by rw [rp1.length,rp2.length]; exact hz,q⟩)⟩
  . obtain ⟨hz,e⟩:=cIf_eq e
    . cases e
      have h1:=hx.str; have h2:=hy.str; subst h1 h2
      exact res_str fun Q q=>.inr (.inr (.inl ⟨_,_,rfl,rfl,hz,q⟩))
  . obtain ⟨hz,e⟩:=cIf_eq e
    . cases e
      obtain ⟨p,xs,rfl,r1,rp1⟩:=hx.tuple s
      obtain ⟨p2,ys,rfl,r2,rp2⟩:=hy.tuple s
      have hne:xs≠[]:=by intro z; subst z; cases rp1
      have hne2:ys≠[]:=by intro z; subst z; cases rp2; exact hz.2 rfl
      refine ⟨xs++ys,rp1.append rp2,fun Q q=>.inr (.inr (.inr ⟨_,_,xs,ys,rfl,rfl,.inl (.inl r1),.inl (.inl r2),?_⟩))⟩
      exact ⟨hne,by rw [rp1.length,rp2.length]; exact hz.1,fun z=>absurd z hne2,fun _=>q⟩
  . cases e
noncomputable def gI (C:Int->Int->Prop) (f:Int->Int->Int):D->D->Option (D × Bool)
  | .int i,.int j=>cIf (C i j) (some (.int (f i j),false)) none
  | _,_=>none
theorem J_I {C:Int->Int->Prop} {f:Int->Int->Int}:OpJ (rI C fun i j=>.int (f i j)) (gI C f):=by
  intro B H x y c d res s hx hy e
  unfold gI at e
  split at e
  . obtain ⟨hc,e⟩:=cIf_eq e
    . cases e
      have h1:=hx.int; have h2:=hy.int; subst h1 h2
      exact res_int fun Q q=>⟨_,_,rfl,rfl,hc,q⟩
  . cases e
def gI0 (f:Int->Int->Int):D->D->Option (D × Bool)
  | .int i,.int j=>some (.int (f i j),false)
  | _,_=>none
theorem J_I0 {f:Int->Int->Int}:OpJ (rI0 fun i j=>.int (f i j)) (gI0 f):=by
  intro B H x y c d res s hx hy e
  unfold gI0 at e
  split at e
  . cases e
    have h1:=hx.int; have h2:=hy.int; subst h1 h2
    exact res_int fun Q q=>⟨_,_,rfl,rfl,q⟩
  . cases e
def gB0 (f:Int->Int->Bool):D->D->Option (D × Bool)
  | .int i,.int j=>some (.bool (f i j),false)
  | _,_=>none
theorem J_B0 {f:Int->Int->Bool}:OpJ (rI0 fun i j=>.bl (f i j)) (gB0 f):=by
  intro B H x y c d res s hx hy e
  unfold gB0 at e
  split at e
  . cases e
    have h1:=hx.int; have h2:=hy.int; subst h1 h2
    exact res_bool fun Q q=>⟨_,_,rfl,rfl,q⟩
  . cases e
abbrev gSub:=gI0 fun i j=>i - j
abbrev gLt:=gB0 fun i j=>decide (i < j)
abbrev gGt:=gB0 fun i j=>decide (j < i)
abbrev gGe:=gB0 fun i j=>decide (j≤i)
noncomputable abbrev gDiv:=gI CDiv fun i j=>i / j
noncomputable abbrev gMod:=gI (fun _ j=>0 < j) fun i j=>i % j
noncomputable abbrev gPow:=gI CPow fun i j=>i ^ j.toNat
section
variable {X:Cx}
def rTimesM:R2:=fun x y H Q=>rI IntMulOk (fun i j=>.int (i * j)) x y H Q∨rRep x y H Q
theorem op_mulM:OpR X (binaryOp .Mult) rTimesM:=op_mulB.or op_rep
end
noncomputable def gMul:D->D->Option (D × Bool)
  | .int i,.int j=>cIf (IntMulOk i j) (some (.int (i * j),false)) none
  | _,_=>none
theorem J_mul:OpJ rTimesM gMul:=by
  intro B H x y c d res s hx hy e
  unfold gMul at e
  split at e
  . obtain ⟨hc,e⟩:=cIf_eq e
    . cases e
      have h1:=hx.int; have h2:=hy.int; subst h1 h2
      exact res_int fun Q q=>.inl ⟨_,_,rfl,rfl,hc,q⟩
  . cases e
mutual
theorem Rep.data {K:PySem.W.Frag} {H:Hp}:∀ {v:V} {d:D},Rep H v d->d.canLay0=true->DataV K H v d
  | _,_,.non,_=>.non
  | _,_,.bl b,_=>.bl b
  | _,_,.int i,_=>.int i
  | _,_,.str x,_=>.str x
  | _,_,.lst h r,e=>.lst (rd_sq h) (Reps.data r (by simpa [PyData.canLay0] using e))
  | _,_,.tup h r,e=>.tup (.inl (.inl h)) (Reps.data r (by simpa [PyData.canLay0] using e))
  | _,_,.dct _ _,e=>by simp [PyData.canLay0] at e
theorem Reps.data {K:PySem.W.Frag} {H:Hp}:∀ {v:List V} {d:List D},Reps H v d->PyData.canLayAll0 d=true->DataVs K H v d
  | _,_,.nil,_=>.nil
  | _,_,.cons a b,e=>by
    simp only [PyData.canLayAll0,Bool.and_eq_true] at e
    exact .cons (Rep.data a e.1) (Reps.data b e.2)
end
def gEq:D->D->Option (D × Bool):=fun c d=>if SeqAt.shaped c=true∧SeqAt.shaped d=true then some (.bool (PyData.eqv c d),false) else none
def gNe:D->D->Option (D × Bool):=fun c d=>if SeqAt.shaped c=true∧SeqAt.shaped d=true then some (.bool (!PyData.eqv c d),false) else none
theorem J_eq {K:PySem.W.Frag}:OpJ (rEqD K) gEq:=by
  intro B H x y c d res s hx hy e
  unfold gEq at e
  split at e
  . rename_i h
    cases e
    exact res_bool fun Q q=>⟨_,_,(hx.rep s).data (SeqAt.canLay_of_shaped h.1),(hy.rep s).data (SeqAt.canLay_of_shaped h.2),h.1,h.2,q⟩
  . cases e
theorem J_ne {K:PySem.W.Frag}:OpJ (rNeD K) gNe:=by
  intro B H x y c d res s hx hy e
  unfold gNe at e
  split at e
  . rename_i h
    cases e
    exact res_bool fun Q q=>⟨_,_,(hx.rep s).data (SeqAt.canLay_of_shaped h.1),(hy.rep s).data (SeqAt.canLay_of_shaped h.2),h.1,h.2,q⟩
  . cases e
def isNone:D->Bool
  | .none=>true
  | _=>false
theorem Rep.isNone {H:Hp} {v:V} {d:D} (h:Rep H v d):decide (v=.non)=Mir.isNone d:=by cases h <;> rfl
def gIs:D->D->Option (D × Bool)
  | c,.none=>some (.bool (isNone c),false)
  | _,_=>none
def gIsNot:D->D->Option (D × Bool)
  | c,.none=>some (.bool (!isNone c),false)
  | _,_=>none
theorem J_is:OpJ (fun x y H Q=>y=.non∧Q (.bl (decide (x=.non))) H) gIs:=by
  intro B H x y c d res s hx hy e
  unfold gIs at e
  split at e
  . cases e
    exact res_bool fun Q q=>⟨hy.none,by rw [(hx.rep s).isNone]; exact q⟩
  . cases e
theorem J_isNot:OpJ (fun x y H Q=>y=.non∧Q (.bl (!decide (x=.non))) H) gIsNot:=by
  intro B H x y c d res s hx hy e
  unfold gIsNot at e
  split at e
  . cases e
    exact res_bool fun Q q=>⟨hy.none,by rw [(hx.rep s).isNone]; exact q⟩
  . cases e
def gNeg:D->Option (D × Bool)
  | .int i=>some (.int (-i),false)
  | _=>none
theorem J_neg:UnJ (rU fun i=>.int (-i)) gNeg:=by
  intro B H x c res s hx e
  unfold gNeg at e
  split at e
  . cases e
    have h1:=hx.int; subst h1
    exact res_int fun Q q=>⟨_,rfl,q⟩
  . cases e
def gIx:D->D->Option (D × Bool)
  | .list ds,.int i=>(atI ds i).map fun d=>(d,false)
  | .tuple ds,.int i=>(atI ds i).map fun d=>(d,false)
  | _,_=>none
theorem Reps.atI {H:Hp} {vs:List V} {ds:List D} (r:Reps H vs ds) {i:Int} {d:D} (h:L2.atI ds i=some d):∃ v,L2.atI vs i=some v∧Rep H v d:=by
  unfold L2.atI at h ⊢
  rw [r.length]
  obtain ⟨j,h1,h2⟩:=Option.bind_eq_some_iff.mp h
  obtain ⟨v,h3,h4⟩:=r.get j d h2
  exact ⟨v,by rw [h1]; exact h3,h4⟩
theorem J_ix {K:PySem.W.Frag}:OpJ (rIx K) gIx:=by
  intro B H x y c d res s hx hy e
  unfold gIx at e
  split at e
  . obtain ⟨w,h1,h2⟩:=Option.map_eq_some_iff.mp e
    cases h2
    obtain ⟨p,xs,rfl,r1,rp1⟩:=hx.list s
    have h2:=hy.int; subst h2
    obtain ⟨v,h3,h4⟩:=rp1.atI h1
    exact ⟨v,h4,fun Q q=>.inl ⟨_,_,_,_,rfl,rfl,rd_sq r1,h3,q⟩⟩
  . obtain ⟨w,h1,h2⟩:=Option.map_eq_some_iff.mp e
    cases h2
    obtain ⟨p,xs,rfl,r1,rp1⟩:=hx.tuple s
    have h2:=hy.int; subst h2
    obtain ⟨v,h3,h4⟩:=rp1.atI h1
    exact ⟨v,h4,fun Q q=>.inr (.inl ⟨_,_,_,_,rfl,rfl,.inl (.inl r1),h3,q⟩)⟩
  . cases e
def cutD (ds:List D) (lo hi:Option Int):List D:=(ds.drop (HT.sIx ds.length 0 lo)).take (HT.sIx ds.length ds.length hi - HT.sIx ds.length 0 lo)
theorem Reps.cut {H:Hp} {vs:List V} {ds:List D} (r:Reps H vs ds) (lo hi:Option Int):Reps H (cutV vs lo hi) (cutD ds lo hi):=by
  unfold cutV cutD
  rw [r.length]
  exact (r.drop _).take _
def gSl:D->Option Int->Option Int->Option (D × Bool)
  | .list ds,lo,hi=>some (.list (cutD ds lo hi),true)
  | _,_,_=>none
theorem J_sl {K:PySem.W.Frag}:SlJ (rSlL K) gSl:=by
  intro B H x c l u res s hx e
  unfold gSl at e
  split at e
  . cases e
    obtain ⟨p,xs,rfl,r1,rp1⟩:=hx.list s
    exact ⟨_,rp1.cut _ _,fun Q q=>⟨_,_,rfl,rd_sq r1,q⟩⟩
  . cases e
noncomputable def gLen:List D->Option (D × Bool)
  | [.list ds]=>some (.int ds.length,false)
  | [.tuple ds]=>some (.int ds.length,false)
  | [.str x]=>cIf (x.length≤sizeLine) (some (.int x.length,false)) none
  | _=>none
theorem views1 {B H:Hp} {vs:List V} {d:D} (h:Views B H vs [d]):∃ v,vs=[v]∧View B H v d:=by
  match vs,h with
  | [v],⟨h,_⟩=>exact ⟨v,rfl,h⟩
theorem views2 {B H:Hp} {vs:List V} {c d:D} (h:Views B H vs [c,d]):∃ v w,vs=[v,w]∧View B H v c∧View B H w d:=by
  match vs,h with
  | [v,w],⟨h,g,_⟩=>exact ⟨v,w,rfl,h,g⟩
theorem J_len {K:PySem.W.Frag}:CallJ (rLen K) gLen:=by
  intro B H vs ds res s h e
  unfold gLen at e
  split at e
  . cases e
    obtain ⟨v,rfl,hh⟩:=views1 h
    obtain ⟨p,xs,rfl,r1,rp1⟩:=hh.list s
    exact res_int fun Q q=>.inl ⟨_,_,rfl,.inl (rd_sq r1),by rw [rp1.length]; exact q⟩
  . cases e
    obtain ⟨v,rfl,hh⟩:=views1 h
    obtain ⟨p,xs,rfl,r1,rp1⟩:=hh.tuple s
    exact res_int fun Q q=>.inl ⟨_,_,rfl,.inr (.inl (.inl r1)),by rw [rp1.length]; exact q⟩
  . obtain ⟨hz,e⟩:=cIf_eq e
    . cases e
      obtain ⟨v,rfl,hh⟩:=views1 h
      have:=hh.str; subst this
      exact res_int fun Q q=>.inr ⟨_,rfl,hz,q⟩
  . cases e
def gMax:List D->Option (D × Bool)
  | [.int i,.int j]=>some (.int (if j > i then j else i),false)
  | _=>none
def gMin:List D->Option (D × Bool)
  | [.int i,.int j]=>some (.int (if j < i then j else i),false)
  | _=>none
def gAbs:List D->Option (D × Bool)
  | [.int i]=>some (.int (if i < 0 then -i else i),false)
  | _=>none
def gInt:List D->Option (D × Bool)
  | [.int i]=>some (.int i,false)
  | [.bool b]=>some (.int (if b then 1 else 0),false)
  | _=>none
theorem J_max:CallJ (fun xs H Q=>∃ i j,xs=[.int i,.int j]∧Q (.int (if j > i then j else i)) H) gMax:=by
  intro B H vs ds res s h e
  unfold gMax at e
  split at e
  . cases e
    obtain ⟨v,w,rfl,h1,h2⟩:=views2 h
    have:=h1.int; subst this
    have:=h2.int; subst this
    exact res_int fun Q q=>⟨_,_,rfl,q⟩
  . cases e
theorem J_int:CallJ (fun xs H Q=>(∃ i,xs=[.int i]∧Q (.int i) H)∨∃ k,xs=[.bl k]∧Q (.int (if k then 1 else 0)) H) gInt:=by
  intro B H vs ds res s h e
  unfold gInt at e
  split at e
  . cases e
    obtain ⟨v,rfl,h1⟩:=views1 h
    have:=h1.int; subst this
    exact res_int fun Q q=>.inl ⟨_,rfl,q⟩
  . cases e
    obtain ⟨v,rfl,h1⟩:=views1 h
    have:=h1.bool; subst this
    exact res_int fun Q q=>.inr ⟨_,rfl,q⟩
  . cases e
def boolsOf:List D->Option (List Bool)
  | []=>some []
  | .bool i::ds=>(boolsOf ds).map (i::·)
  | _=>none
theorem Reps.bools {H:Hp}:∀ {vs:List V} {ds:List D} {ns:List Bool},Reps H vs ds->boolsOf ds=some ns->vs=ns.map V.bl
  | _,_,_,.nil,e=>by cases e; rfl
  | _,_,_,.cons (d:=d) a b,e=>by
    cases d with
    | bool i =>
      obtain ⟨ms,h1,h2⟩:=Option.map_eq_some_iff.mp (show (boolsOf _).map _=some _ from e)
      cases h2
      cases a
      rw [List.map_cons,Reps.bools b h1]
    | _=>cases e
def gAll:List D->Option (D × Bool)
  | [.list ds]=>(boolsOf ds).map fun ns=>(.bool (ns.all id),false)
  | _=>none
theorem J_all {K:PySem.W.Frag}:CallJ (rAll K) gAll:=by
  intro B H vs ds res s h e
  unfold gAll at e
  split at e
  . obtain ⟨ns,h1,h2⟩:=Option.map_eq_some_iff.mp e
    cases h2
    obtain ⟨v,rfl,hh⟩:=views1 h
    obtain ⟨p,xs,rfl,r1,rp1⟩:=hh.list s
    have:=rp1.bools h1; subst this
    exact res_bool fun Q q=>⟨_,_,rfl,rd_sq r1,q⟩
  . cases e
def gList:List D->Option (D × Bool)
  | [.list ds]=>some (.list ds,true)
  | [.tuple ds]=>some (.list ds,true)
  | _=>none
theorem J_list {K:PySem.W.Frag}:CallJ (fun xs H Q=>∃ p ys,xs=[.ref p]∧(SqL K H p ys∨SqT K H p ys)∧∀ l,H l=none->Q (.ref l) (upd H l (.lst ys))) gList:=by
  intro B H vs ds res s h e
  unfold gList at e
  split at e
  . cases e
    obtain ⟨v,rfl,hh⟩:=views1 h
    obtain ⟨p,xs,rfl,r1,rp1⟩:=hh.list s
    exact ⟨xs,rp1,fun Q q=>⟨_,_,rfl,.inl (rd_sq r1),q⟩⟩
  . cases e
    obtain ⟨v,rfl,hh⟩:=views1 h
    obtain ⟨p,xs,rfl,r1,rp1⟩:=hh.tuple s
    exact ⟨xs,rp1,fun Q q=>⟨_,_,rfl,.inr (.inl (.inl r1)),q⟩⟩
  . cases e
def tyD:D->String
  | .none=>"NoneType"
  | .bool _=>"bool"
  | .int _=>"int"
  | .str _=>"str"
  | .list _=>"list"
  | .tuple _=>"tuple"
  | .dict _=>"?"
theorem Rep.ty {H:Hp} {v:V} {d:D} (h:Rep H v d) (hd:tyD d≠"?"):tyN H v=tyD d:=by
  cases h with
  | non=>rfl
  | bl _=>rfl
  | int _=>rfl
  | str _=>rfl
  | lst h _ =>
    rcases h with h | ⟨o,h⟩
    . unfold tyN; simp only [h]; rfl
    . unfold tyN; simp only [h]; rfl
  | tup h _=>unfold tyN; simp only [h]; rfl
  | dct _ _=>exact absurd rfl hd
def gIsi (n:String):D->Option (D × Bool):=fun d=>if tyD d≠"?"∧n∈tyAsked then some (.bool (tyIs (tyD d) n),false) else none
def mIsi (n:String) (a:PM):PM:=mUn (gIsi n) a
theorem me_isi {n:String} {ta:TE} {a:PM} (ha:ME ta a):ME (tCB rIsi (tCons ta (tCons (tC (.ty n)) tNil))) (mIsi n a):=by
  intro F B H σ ρ r0 ρ' Q R e q
  obtain ⟨x,e1,e⟩:=Option.bind_eq_some_iff.mp e
  obtain ⟨res,e4,e⟩:=Option.map_eq_some_iff.mp e
  cases e
  refine ha.sv F B H σ ρ x.1 x.2 _ R e1 fun v B1 H1 E1 R1 V1 N1=>?_
  unfold gIsi at e4
  split at e4
  . rename_i hd
    cases e4
    have rp:=(V1.view R1).rep R1.sub
    have ht:=rp.ty hd.1
    have hk:tyD x.1.1∈tyKnown:=by
      have h2:=hd.1
      revert h2
      cases x.1.1 with
      | none=>intro _; show "NoneType"∈tyKnown; decide
      | bool _=>intro _; show "bool"∈tyKnown; decide
      | int _=>intro _; show "int"∈tyKnown; decide
      | str _=>intro _; show "str"∈tyKnown; decide
      | list _=>intro _; show "list"∈tyKnown; decide
      | tuple _=>intro _; show "tuple"∈tyKnown; decide
      | dict _=>intro h2; exact absurd rfl h2
    exact ⟨v,n,rfl,by rw [ht]; exact hk,hd.2,by rw [ht]; exact q _ B1 H1 E1 R1 (.bl _) fun p z=>by cases z⟩
  . cases e4
def flatD:D->Bool
  | .none=>true
  | .bool _=>true
  | .int _=>true
  | .str _=>true
  | _=>false
theorem Rep.flat {H:Hp} {v:V} {d:D} (h:Rep H v d) (e:flatD d=true):flatV v=true:=by cases h <;> first | rfl | cases e
theorem Reps.flatAll {H:Hp}:∀ {v:List V} {d:List D},Reps H v d->d.all flatD=true->v.all flatV=true
  | _,_,.nil,_=>rfl
  | _,_,.cons a b,e=>by
    simp only [List.all_cons,Bool.and_eq_true] at e ⊢
    exact ⟨a.flat e.1,Reps.flatAll b e.2⟩
theorem Rep.eqv {H:Hp} {v w:V} {c d:D} (h:Rep H v c) (g:Rep H w d) (e:flatD c=true) (e':flatD d=true):eqV v w=PyData.eqv c d:=by
  cases h <;> first | (cases e; done) | (cases g <;> first | (cases e'; done) | (simp [eqV,PyData.eqv]))
def gCount:D->List D->Option (D × Bool)
  | .list ds,[d]=>if flatD d=true∧ds.all flatD=true then some (.int ((ds.countP fun c=>PyData.eqv c d:Nat):Int),false) else none
  | _,_=>none
theorem Reps.countP {H:Hp} {w:V} {d:D} (g:Rep H w d) (e':flatD d=true):∀ {vs:List V} {ds:List D},Reps H vs ds->ds.all flatD=true->vs.countP (fun z=>eqV z w)=ds.countP fun c=>PyData.eqv c d
  | _,_,.nil,_=>rfl
  | _,_,.cons a b,e=>by
    simp only [List.all_cons,Bool.and_eq_true] at e
    rw [List.countP_cons,List.countP_cons,Reps.countP g e' b e.2,a.eqv g e.1 e']
theorem J_count {K:PySem.W.Frag}:MtJ K "list" (rCount K) gCount:=by
  constructor
  . intro B H x c ds res s hx e
    unfold gCount at e
    split at e
    . obtain ⟨p,xs,rfl,r1,rp1⟩:=hx.list s
      exact .inl ⟨rfl,xs,rd_sq r1⟩
    . cases e
  . intro B H x c vs ds res s hx hv e
    unfold gCount at e
    split at e
    . split at e
      . rename_i hf
        cases e
        obtain ⟨p,xs,rfl,r1,rp1⟩:=hx.list s
        obtain ⟨w,rfl,hw⟩:=views1 hv
        have rw':=hw.rep s
        have rp:=rp1.mono s
        exact res_int fun Q q=>⟨_,_,_,rfl,rfl,rd_sq r1,rw'.flat hf.1,rp.flatAll hf.2,by rw [rp.countP rw' hf.1 hf.2]; exact q⟩
      . cases e
    . cases e
noncomputable def fAppend:List D->List D->Option (List D × D):=fun ds as=>match as with
  | [d]=>cIf (ds.length < sizeLine) (some (ds++[d],.none)) none
  | _=>none
theorem J_append:MutJ rAppend fAppend:=by
  intro B H p xs ds vs as w hp rx s rv e
  unfold fAppend at e
  split at e
  . obtain ⟨hz,e⟩:=cIf_eq e
    . cases e
      cases rv with
      | cons a b =>
        cases b
        exact ⟨_,_,rx.append (.cons a .nil),.non,fun Q q=>⟨_,_,_,rfl,rfl,hp,by rw [rx.length]; exact hz,q⟩⟩
  . cases e
def fPop:List D->List D->Option (List D × D):=fun ds as=>match as with
  | []=>(ds[ds.length - 1]?).map fun d=>(ds.dropLast,d)
  | _=>none
noncomputable def fPopAt:List D->List D->Option (List D × D):=fun ds as=>match as with
  | [.int i]=>cIf (-(2 ^ 63)≤i∧i < 2 ^ 63) ((seqIndex? i ds.length).bind fun k=>(ds[k]?).map fun d=>(ds.eraseIdx k,d)) none
  | _=>none
theorem J_popAt:MutJ rPopAt fPopAt:=by
  intro B H p xs ds vs as w hp rx s rv e
  unfold fPopAt at e
  split at e
  . obtain ⟨hz,e⟩:=cIf_eq e
    . obtain ⟨k,h0,e⟩:=Option.bind_eq_some_iff.mp e
      obtain ⟨d,h1,h2⟩:=Option.map_eq_some_iff.mp e
      cases h2
      cases rv with
      | cons a b =>
        cases b
        cases a
        obtain ⟨v,h3,h4⟩:=rx.get _ d h1
        exact ⟨_,v,rx.eraseIdx k,h4,fun Q q=>⟨_,_,_,_,_,rfl,rfl,hp,hz.1,hz.2,by rw [rx.length]; exact h0,h3,q⟩⟩
  . cases e
def fClear:List D->List D->Option (List D × D):=fun ds as=>match as with
  | []=>some ([],.none)
  | _=>none
def fReverse:List D->List D->Option (List D × D):=fun ds as=>match as with
  | []=>some (ds.reverse,.none)
  | _=>none
theorem J_reverse:MutJ rReverse fReverse:=by
  intro B H p xs ds vs as w hp rx s rv e
  unfold fReverse at e
  split at e
  . cases e
    cases rv
    exact ⟨_,_,rx.reverse,.non,fun Q q=>⟨_,_,rfl,rfl,hp,q⟩⟩
  . cases e
end Mir
set_option Elab.async false
set_option linter.all false
set_option maxRecDepth 100000
namespace Mir
open PySem L2 PySem.Spec PyProof.Rows
variable [Zc]
section
variable {X:Cx} {K:PySem.W.Frag}
theorem op_addK (h:X.K=K):OpR X (binaryOp .Add) (rPlusM K):=h ▸ op_addM
theorem op_eqK (h:X.K=K) (hu:X.A.units + 64 < cLine):OpR X (compareOp .Eq) (rEqD K):=h ▸ op_eqD hu
theorem op_neK (h:X.K=K) (hu:X.A.units + 64 < cLine):OpR X (compareOp .NotEq) (rNeD K):=h ▸ op_neD hu
theorem ix_seqK (h:X.K=K):IxR X (rIx K):=h ▸ ix_seq
theorem sl_listK (h:X.K=K):SlR X (rSlL K):=h ▸ sl_list
theorem call_lenK (h:X.K=K):CallR X (.builtin "len") (rLen K):=h ▸ call_lenU
theorem call_allK (h:X.K=K) (hc:X.calm=true):CallR X (.builtin "all") (rAll K):=h ▸ call_all hc
theorem call_listK (h:X.K=K):CallR X (.type "list") (fun xs H Q=>∃ p ys,xs=[.ref p]∧(SqL K H p ys∨SqT K H p ys)∧∀ l,H l=none->Q (.ref l) (upd H l (.lst ys))):=h ▸ call_list_of
theorem mt_countK (h:X.K=K):MtR X "list.count" (rCount K):=h ▸ mt_count
variable {tg l o e:Expr} {es:List Expr} {tl to:TE} {t:TA} {name:Str} {apos cpos:Pos} {T id:String} {r:V->List V->Hp->VK->Prop}
theorem pi_listK (h:X.K=K) (hl:PE X l tl):PI X tg l (iList K tl):=h ▸ pi_list hl
theorem pi_tupK (h:X.K=K) (hl:PE X l tl):PI X tg l (iTup K tl):=h ▸ pi_tup hl
theorem pe_bm0K (h:X.K=K) (pa:PlainAttrs T) (slot:Slot T name id) (hty:typeOf (.builtin id)=pure (.type "method_descriptor")) (hm:MtR X id r) (ho:PE X o to)
    (hbase:attributeBase o name X.env (eval o X.env)=eval o X.env:=by rfl) (hline:(apos.endLine == cpos.line)=true:=by rfl):PE X (.Call (.Attribute o name apos) [] [] cpos) (tBM0 K T r to):=h ▸ pe_bm0 pa slot hty hm ho hbase hline
theorem pe_bmK (h:X.K=K) (pa:PlainAttrs T) (slot:Slot T name id) (hty:typeOf (.builtin id)=pure (.type "method_descriptor")) (hm:MtR X id r) (ho:PE X o to) (ha:PA X (e::es) t)
    (hbase:attributeBase o name X.env (eval o X.env)=eval o X.env:=by rfl)
    (hfew:((backTo cpos (starEach (e::es) X.env)).all (fun x=>!x.1) && (backToKw cpos (keywordEach [] X.env)).all (fun x=>x.1.isSome)
      && decide ((e::es).length + ([]:List Keyword).length + (if ([]:List Keyword).isEmpty then 0 else 1) < 30))=true:=by rfl)
    (hline:(apos.endLine == cpos.line)=true:=by rfl) (hs:starEach (e::es) X.env=(false,eval e X.env)::starEach es X.env:=by rfl) (hplain:(backTo cpos (starEach es X.env)).any (·.1)=false:=by rfl) :
    PE X (.Call (.Attribute o name apos) (e::es) [] cpos) (tBM K T r to t):=h ▸ pe_bm pa slot hty hm ho ha hbase hfew hline hs hplain
end
def noLists (K:PySem.W.Frag):Bool:=K.all fun p=>match p.2.cls with
  | .type n=>n != "list"
  | _=>true
theorem mem_look {α:Type}:∀ {l:List (Addr × α)} {a:Addr} {o : α},l.lookup a=some o->(a,o)∈l
  | (b,c)::l,a,o,h=>by
    rw [List.lookup_cons] at h
    by_cases z:a=b
    . subst z
      rw [beq_self_eq_true] at h
      cases h
      exact List.mem_cons_self
    . rw [beq_eq_false_iff_ne.mpr z] at h
      exact List.mem_cons_of_mem _ (mem_look h)
theorem sq_rd {K:PySem.W.Frag} (h:noLists K=true) {H:Hp} {a:Addr} {xs:List V} (s:SqL K H a xs):Rd H a (.lst xs):=by
  rcases s with s | ⟨o,its,n,hk,hc,_⟩
  . exact s
  . have:=List.all_eq_true.mp h _ (mem_look hk)
    dsimp only at this
    rw [hc] at this
    simp at this
theorem reps_ints {H:Hp}:∀ ns:List Int,Reps H (ns.map V.int) (ns.map PyData.int)
  | []=>.nil
  | n::ns=>.cons (.int n) (reps_ints ns)
theorem law_sp {K:PySem.W.Frag} (h:noLists K=true) {f:List D->Option (D × Bool)} (T:∀ ns:List Int,ns.length≤63->(∀ k∈ns,Builtin.Int.intBits k≤1048576)->f [.list (ns.map .int)]=some (.bool true,false))
    (vs:List V) (H:Hp) (Q:VK) (E:XK) (s:spLaw K vs H Q E):spM f vs H Q E:=by
  obtain ⟨a,ns,rfl,hS,hl,hb,q⟩:=s
  refine ⟨H,_,_,_,Same.refl _,fun _ _ z=>z,.cons (.lst (sq_rd h hS) (reps_ints ns)) .nil,T ns hl hb,fun v B' H' P=>?_⟩
  have pv:Rep B' v (.bool true):=P.val
  cases pv
  exact q _
end Mir
set_option Elab.async false
set_option linter.all false
set_option maxRecDepth 100000
namespace Mir
open PySem L2
variable [Zc]
abbrev dI (l:List Int):D:=.list (l.map .int)
theorem beqI (i j:Int):(i == j)=decide (i=j):=by by_cases h:i=j <;> simp [h]
theorem gEq_int (i j:Int):gEq (.int i) (.int j)=some (.bool (decide (i=j)),false):=by
  unfold gEq
  rw [if_pos ⟨rfl,rfl⟩]
  simp only [PyData.eqv,beqI]
theorem gNe_int (i j:Int):gNe (.int i) (.int j)=some (.bool (!decide (i=j)),false):=by
  unfold gNe
  rw [if_pos ⟨rfl,rfl⟩]
  simp only [PyData.eqv,beqI]
theorem gEq_bool (i j:Bool):gEq (.bool i) (.bool j)=some (.bool (i == j),false):=by
  unfold gEq
  rw [if_pos ⟨rfl,rfl⟩]
  simp only [PyData.eqv]
theorem gNe_bool (i j:Bool):gNe (.bool i) (.bool j)=some (.bool (!(i == j)),false):=by
  unfold gNe
  rw [if_pos ⟨rfl,rfl⟩]
  simp only [PyData.eqv]
theorem canLay_ints:∀ l:List Int,PyData.canLayAll0 (l.map .int)=true
  | []=>rfl
  | _::l=>by simp only [List.map_cons,PyData.canLayAll0,PyData.canLay0,canLay_ints l,Bool.and_self]
theorem depth_ints (l:List Int):(dI l).depth≤2:=by
  have h:∀ l:List Int,PyData.depthAll (l.map .int)≤1:=by
    intro l
    induction l with
    | nil=>simp [PyData.depthAll]
    | cons a l ih=>simp only [List.map_cons,PyData.depthAll,PyData.depth]; omega
  have:=h l
  simp only [dI,PyData.depth]
  omega
theorem shaped_ints (l:List Int):SeqAt.shaped (dI l)=true:=by
  unfold SeqAt.shaped
  have h:=depth_ints l
  rw [decide_eq_true (by omega),Bool.and_true]
  simp only [dI,PyData.canLay0,canLay_ints]
theorem eqvAll_ints:∀ a b:List Int,PyData.eqvAll (a.map .int) (b.map .int)=decide (a=b)
  | [],[]=>by simp [PyData.eqvAll]
  | [],_::_=>by simp [PyData.eqvAll]
  | _::_,[]=>by simp [PyData.eqvAll]
  | x::a,y::b=>by
    simp only [List.map_cons,PyData.eqvAll,PyData.eqv,eqvAll_ints a b]
    by_cases h:x=y <;> by_cases g:a=b <;> simp [h,g]
theorem eqv_ints (a b:List Int):PyData.eqv (dI a) (dI b)=decide (a=b):=by simp only [dI,PyData.eqv,eqvAll_ints]
theorem gEq_ints (a b:List Int):gEq (dI a) (dI b)=some (.bool (decide (a=b)),false):=by
  unfold gEq
  rw [if_pos ⟨shaped_ints a,shaped_ints b⟩,eqv_ints]
theorem gNe_ints (a b:List Int):gNe (dI a) (dI b)=some (.bool (!decide (a=b)),false):=by
  unfold gNe
  rw [if_pos ⟨shaped_ints a,shaped_ints b⟩,eqv_ints]
theorem isi_int_int (i:Int):gIsi "int" (.int i)=some (.bool true,false):=by simp [gIsi,tyD,tyAsked,tyIs]
theorem isi_int_bool (i:Int):gIsi "bool" (.int i)=some (.bool false,false):=by simp [gIsi,tyD,tyAsked,tyIs]
theorem isi_list_list (i:List D):gIsi "list" (.list i)=some (.bool true,false):=by simp [gIsi,tyD,tyAsked,tyIs]
theorem isi_tuple_tuple (i:List D):gIsi "tuple" (.tuple i)=some (.bool true,false):=by simp [gIsi,tyD,tyAsked,tyIs]
theorem atI_nat {α:Type} (xs:List α) (i:Nat):atI xs (i:Int)=xs[i]?:=by
  unfold atI ixN
  rw [if_pos (by omega)]
  split
  . simp
  . rename_i h
    rw [Option.bind_none,List.getElem?_eq_none (by omega)]
theorem atI_last {α:Type} (xs:List α):atI xs (-1)=xs.getLast?:=by
  unfold atI ixN
  rw [if_neg (by omega)]
  cases xs with
  | nil=>simp
  | cons a l =>
    rw [if_pos (by simp only [List.length_cons]; omega),Option.bind_some,List.getLast?_eq_getElem?]
    congr 1
    simp only [List.length_cons]; omega
theorem atI_map {α β:Type} (f : α->β) (xs:List α) (i:Int):atI (xs.map f) i=(atI xs i).map f:=by
  simp only [atI,List.length_map,List.getElem?_map]
  cases ixN xs.length i with
  | none=>rfl
  | some j=>simp only [Option.bind_some]
theorem while_go {c:Rho->Option (Bool × Rho)} {b:SM} {n:Nat} {ρ ρ1 ρ2:Rho} {o:Option Out} (h1:c ρ=some (true,ρ1)) (h2:b ρ1=some (.nx ρ2)) (h3:mWhile c b n ρ2=o):mWhile c b (n + 1) ρ=o:=by
  unfold mWhile
  simp only [h1,h2,Option.bind_some,if_true,h3]
theorem while_end {c:Rho->Option (Bool × Rho)} {b:SM} {n:Nat} {ρ ρ1:Rho} (h1:c ρ=some (false,ρ1)):mWhile c b (n + 1) ρ=some (.nx ρ1):=by
  unfold mWhile
  simp only [h1,Option.bind_some,Bool.false_eq_true,if_false]
theorem pureR_int (i:Int):pureR (.int i) false=true:=rfl
theorem pureR_bool (i:Bool):pureR (.bool i) false=true:=rfl
theorem pureR_str (i:Str):pureR (.str i) false=true:=rfl
theorem pureR_none:pureR .none false=true:=rfl
theorem pureR_list (l:List D):pureR (.list l) false=false:=rfl
theorem pureR_tup (l:List D):pureR (.tuple l) false=pureDs l:=by simp only [pureR,pureD]
theorem pureR_new (l:List D):pureR (.list l) true=pureDs l:=rfl
theorem pureDs_nil:pureDs []=true:=by simp only [pureDs]
theorem pureDs_int (i:Int) (l:List D):pureDs (.int i::l)=pureDs l:=by simp only [pureDs,pureD,Bool.true_and]
theorem pureDs_bool (i:Bool) (l:List D):pureDs (.bool i::l)=pureDs l:=by simp only [pureDs,pureD,Bool.true_and]
theorem pureDs_list (i l:List D):pureDs (.list i::l)=false:=by simp only [pureDs,pureD,Bool.false_and]
theorem pureDs_ints:∀ l:List Int,pureDs (l.map .int)=true
  | []=>pureDs_nil
  | i::l=>by rw [List.map_cons,pureDs_int,pureDs_ints l]
theorem resK_f (d:D):resK (d,false)=(d,.fz):=rfl
theorem resK_l (l:List D):resK (.list l,true)=(.list l,.new):=rfl
theorem resK_t (l:List D):resK (.tuple l,true)=(.tuple l,.fz):=rfl
theorem kO_f (d:D):kO d false=(d,.fz):=rfl
theorem kO_t (d:D):kO d true=(d,.new):=rfl
theorem seq_nx {a b:SM} {ρ ρ1:Rho} {o:Option Out} (h1:a ρ=some (.nx ρ1)) (h2:b ρ1=o):mSeq a b ρ=o:=by
  unfold mSeq; simp only [h1,Option.bind_some,h2]
theorem seq_rt {a b:SM} {ρ ρ1:Rho} {r:RV} (h1:a ρ=some (.rt r ρ1)):mSeq a b ρ=some (.rt r ρ1):=by
  unfold mSeq; simp only [h1,Option.bind_some]
theorem fn_of {n k:Nat} {b:SM} {ds:List D} {o:Out} {w:D × Bool} (h0:ds.length=n) (h1:b (ds.map .fz++List.replicate k .no)=some o) (h2:retD o=some w):fnM n k b ds=some w:=by
  unfold fnM; rw [if_pos h0,h1,Option.bind_some,h2]
theorem call_pure {f:List D->Option (D × Bool)} {m:Rho->Option (List RV × Rho)} {ρ ρ1:Rho} {rs:List RV} {d:D} {o:Bool} (h1:m ρ=some (rs,ρ1)) (h2:f (rs.map (·.1))=some (d,o)) (h3:pureR d o=true):mCall f m ρ=some (kO d o,ρ1):=by
  unfold mCall; rw [h1,Option.bind_some]; dsimp only; rw [h2,Option.bind_some,if_pos h3]
theorem ret_eq {a:PM} {ρ ρ1:Rho} {r:RV} (h:a ρ=some (r,ρ1)):mRet a ρ=some (.rt r ρ1):=by
  unfold mRet; rw [h,Option.map_some]
theorem for_eq {it:Rho->Option (List D × Rho)} {g:D->Rho->Option Rho} {b:SM} {ρ ρ1:Rho} {ds:List D} {o:Option Out} (h1:it ρ=some (ds,ρ1)) (h2:forL g b ds ρ1=o):mFor it g b ρ=o:=by
  unfold mFor; rw [h1,Option.bind_some]; exact h2
theorem rg1_eq {m:Rho->Option (List RV × Rho)} {ρ ρ1:Rho} {j:Int} {k:Kd} (h1:m ρ=some ([(.int j,k)],ρ1)) (h2 : -(2 ^ 62)≤j∧j < 2 ^ 62):mRg1 m ρ=some (rngD 0 j.toNat,ρ1):=by
  unfold mRg1; rw [h1,Option.bind_some]; show cIf _ _ _=_; rw [cIf_pos h2]
end Mir
set_option Elab.async false
set_option linter.all false
set_option maxRecDepth 100000
namespace Mir
open PySem L2
variable [Zc]
def SF (s:Sl):Prop:=s=.no∨∃ d,s=.fz d
theorem SF.fz (d:D):SF (.fz d):=.inr ⟨d,rfl⟩
theorem SF.no:SF .no:=.inl rfl
theorem ixN_nat {n k:Nat} (h:k < n):ixN n (k:Int)=some k:=by
  unfold ixN
  rw [if_pos (by omega),if_pos (by omega),Int.toNat_natCast]
theorem sz_le {n:Nat} (h:n≤100000):n≤sizeLine:=Nat.le_trans h (by decide)
theorem sz_lt {n:Nat} (h:n≤100000):n < sizeLine:=Nat.lt_of_le_of_lt h (by decide)
end Mir
set_option Elab.async false
set_option linter.all false
set_option maxRecDepth 100000
namespace Mir
open PySem L2 PySem.Spec PyProof.Rows
variable [Zc]
end Mir
set_option Elab.async false
set_option linter.all false
set_option maxRecDepth 100000
namespace Mir
open PySem L2
variable [Zc]
def insD (ds:List D) (i:Int) (y:D):List D:=ds.take (if i < 0 then (i + (ds.length:Int)).toNat else min i.toNat ds.length)++y::ds.drop (if i < 0 then (i + (ds.length:Int)).toNat else min i.toNat ds.length)
noncomputable def fInsert:List D->List D->Option (List D × D):=fun ds as=>match as with
  | [.int i,y]=>cIf (-(2 ^ 63)≤i∧i < 2 ^ 63∧ds.length < sizeLine) (some (insD ds i y,.none)) none
  | _=>none
theorem J_insert:MutJ rInsert fInsert:=by
  intro B H p xs ds vs as w hp rx s rv e
  unfold fInsert at e
  split at e
  . obtain ⟨hz,e⟩:=cIf_eq e
    cases e
    cases rv with
    | cons a b =>
      cases b with
      | cons a' b' =>
        cases b'
        cases a
        refine ⟨_,_,?_,.non,fun Q q=>⟨_,_,_,_,rfl,rfl,hp,by rw [rx.length]; exact hz.2.2,hz.1,hz.2.1,q⟩⟩
        unfold insV insD
        rw [rx.length]
        exact (rx.take _).append (.cons a' (rx.drop _))
  . cases e
def inD (x:D) (ds:List D):Bool:=ds.any fun d=>PyData.eqv d x
theorem Reps.inV {H:Hp} {v:V} {c:D} (g:Rep H v c) (e:flatD c=true):∀ {vs:List V} {ds:List D},Reps H vs ds->ds.all flatD=true->inV v vs=inD c ds
  | _,_,.nil,_=>rfl
  | _,_,.cons a b,h=>by
    simp only [List.all_cons,Bool.and_eq_true] at h
    have:=Reps.inV g e b h.2
    unfold L2.inV inD at this ⊢
    rw [List.any_cons,List.any_cons,this,a.eqv g h.1 e]
def gIn:D->D->Option (D × Bool)
  | x,.list ds=>if flatD x=true∧ds.all flatD=true then some (.bool (inD x ds),false) else none
  | _,_=>none
def gNotIn:D->D->Option (D × Bool)
  | x,.list ds=>if flatD x=true∧ds.all flatD=true then some (.bool (!inD x ds),false) else none
  | _,_=>none
theorem J_in {K:PySem.W.Frag}:OpJ (rIn K false) gIn:=by
  intro B H x y c d res s hx hy e
  unfold gIn at e
  split at e
  . split at e
    . rename_i hf
      cases e
      obtain ⟨p,xs,rfl,r1,rp1⟩:=hy.list s
      have rx:=hx.rep s
      have rp:=rp1.mono s
      refine res_bool fun Q q=>⟨_,_,rfl,.inl (rd_sq r1),rx.flat hf.1,rp.flatAll hf.2,?_⟩
      rw [Reps.inV rx hf.1 rp hf.2]
      exact q
    . cases e
  . cases e
theorem J_notIn {K:PySem.W.Frag}:OpJ (rIn K true) gNotIn:=by
  intro B H x y c d res s hx hy e
  unfold gNotIn at e
  split at e
  . split at e
    . rename_i hf
      cases e
      obtain ⟨p,xs,rfl,r1,rp1⟩:=hy.list s
      have rx:=hx.rep s
      have rp:=rp1.mono s
      refine res_bool fun Q q=>⟨_,_,rfl,.inl (rd_sq r1),rx.flat hf.1,rp.flatAll hf.2,?_⟩
      rw [Reps.inV rx hf.1 rp hf.2]
      exact q
    . cases e
  . cases e
section
variable {X:Cx} {K:PySem.W.Frag}
theorem op_inK (h:X.K=K):OpR X (compareOp .In) (rIn K false):=h ▸ op_in_seq
theorem op_notInK (h:X.K=K):OpR X (compareOp .NotIn) (rIn K true):=h ▸ op_notIn_seq
end
end Mir
set_option Elab.async false
set_option linter.all false
set_option maxRecDepth 100000
namespace Mir
open PySem L2
variable [Zc]
section
variable {a b:PM} {ρ ρ1 ρ2 ρ3:Rho} {x y d:D} {r:RV} {res:D × Bool}
theorem sv_new (h:a ρ=some ((d,.new),ρ1)):sv a ρ=some ((d,.fz),ρ1):=by unfold sv; rw [h]
theorem sv_fz (h:a ρ=some ((d,.fz),ρ1)):sv a ρ=some ((d,.fz),ρ1):=by unfold sv; rw [h]
theorem sv_at {i:Nat} (h:a ρ=some ((d,.at i),ρ1)):sv a ρ=some ((d,.at i),ρ1):=by unfold sv; rw [h]
theorem op_ev {g:D->D->Option (D × Bool)} (h1:sv a ρ=some ((x,.fz),ρ1)) (h2:sv b ρ1=some (r,ρ2)) (h3:g x r.1=some res):mOp g a b ρ=some (resK res,ρ2):=by
  unfold mOp; rw [h1,Option.bind_some]; dsimp only; rw [h2,Option.bind_some]; dsimp only [refr,Option.bind_some]; rw [h3,Option.map_some]
theorem op_at {g:D->D->Option (D × Bool)} {i:Nat} (h1:sv a ρ=some ((x,.at i),ρ1)) (h2:sv b ρ1=some (r,ρ2)) (h4 : ρ2[i]?=some (.own y)) (h3:g y r.1=some res):mOp g a b ρ=some (resK res,ρ2):=by
  unfold mOp; rw [h1,Option.bind_some]; dsimp only; rw [h2,Option.bind_some]; dsimp only [refr]; rw [h4]; dsimp only [Option.bind_some]; rw [h3,Option.map_some]
theorem cons_fz {m:Rho->Option (List RV × Rho)} {rs:List RV} (h1:sv a ρ=some ((x,.fz),ρ1)) (h2:m ρ1=some (rs,ρ2)):mCons a m ρ=some ((x,.fz)::rs,ρ2):=by
  unfold mCons; rw [h1,Option.bind_some]; dsimp only; rw [h2,Option.bind_some]; rfl
theorem cons_at {m:Rho->Option (List RV × Rho)} {rs:List RV} {i:Nat} (h1:sv a ρ=some ((x,.at i),ρ1)) (h2:m ρ1=some (rs,ρ2)) (h4 : ρ2[i]?=some (.own y)):mCons a m ρ=some ((y,.at i)::rs,ρ2):=by
  unfold mCons; rw [h1,Option.bind_some]; dsimp only; rw [h2,Option.bind_some]; dsimp only [refr]; rw [h4]; rfl
theorem nil_ev:mNil ρ=some ([],ρ):=rfl
theorem var_fz {i:Nat} (h : ρ[i]?=some (.fz d)):mVar i ρ=some ((d,.fz),ρ):=by unfold mVar; rw [h]
theorem var_own {i:Nat} (h : ρ[i]?=some (.own d)):mVar i ρ=some ((d,.at i),ρ):=by unfold mVar; rw [h]
theorem cb_ev {g:List D->Option (D × Bool)} {m:Rho->Option (List RV × Rho)} {rs:List RV} (h1:m ρ=some (rs,ρ1)) (h2:g (rs.map (·.1))=some res):mCB g m ρ=some (resK res,ρ1):=by
  unfold mCB; rw [h1,Option.bind_some]; dsimp only; rw [h2,Option.map_some]
theorem asg_fz {i:Nat} (h1:a ρ=some ((d,.fz),ρ1)) (h2:setSl ρ1 i (.fz d)=some ρ2):mAsg i a ρ=some (.nx ρ2):=by
  unfold mAsg; rw [h1,Option.bind_some]; dsimp only [sto]; rw [h2,Option.map_some]
theorem asg_new {i:Nat} (h1:a ρ=some ((d,.new),ρ1)) (h2:setSl ρ1 i (.own d)=some ρ2):mAsg i a ρ=some (.nx ρ2):=by
  unfold mAsg; rw [h1,Option.bind_some]; dsimp only [sto]; rw [h2,Option.map_some]
theorem if_t {c:Rho->Option (Bool × Rho)} {s t:SM} {o:Option Out} (h1:c ρ=some (true,ρ1)) (h2:s ρ1=o):mIfS c s t ρ=o:=by
  unfold mIfS; rw [h1,Option.bind_some]; dsimp only; rw [if_pos rfl,h2]
theorem if_f {c:Rho->Option (Bool × Rho)} {s t:SM} {o:Option Out} (h1:c ρ=some (false,ρ1)) (h2:t ρ1=o):mIfS c s t ρ=o:=by
  unfold mIfS; rw [h1,Option.bind_some]; dsimp only; rw [if_neg Bool.false_ne_true,h2]
theorem test_ev {k:Kd} {v:Bool} (h:a ρ=some ((.bool v,.fz),ρ1)):mTest a ρ=some (v,ρ1):=by
  unfold mTest; rw [sv_fz h]; rfl
theorem not_ev {c:Rho->Option (Bool × Rho)} {v:Bool} (h:c ρ=some (v,ρ1)):mNot c ρ=some (!v,ρ1):=by unfold mNot; rw [h]; rfl
theorem and_t {c e:Rho->Option (Bool × Rho)} {o:Option (Bool × Rho)} (h:c ρ=some (true,ρ1)) (h2:e ρ1=o):mAnd c e ρ=o:=by unfold mAnd; rw [h]; simpa using h2
theorem and_f {c e:Rho->Option (Bool × Rho)} (h:c ρ=some (false,ρ1)):mAnd c e ρ=some (false,ρ1):=by unfold mAnd; rw [h]; rfl
theorem or_t {c e:Rho->Option (Bool × Rho)} (h:c ρ=some (true,ρ1)):mOr c e ρ=some (true,ρ1):=by unfold mOr; rw [h]; rfl
theorem or_f {c e:Rho->Option (Bool × Rho)} {o:Option (Bool × Rho)} (h:c ρ=some (false,ρ1)) (h2:e ρ1=o):mOr c e ρ=o:=by unfold mOr; rw [h]; simpa using h2
theorem gAdd_list (a b:List D) (h:a.length + b.length≤100000):gAdd (.list a) (.list b)=some (.list (a++b),true):=by
  show cIf _ _ _=_; rw [cIf_pos (sz_le h)]
theorem lst_ev {m:Rho->Option (List RV × Rho)} {rs:List RV} {ds:List D} (h1:m ρ=some (rs,ρ1)) (h2:fzAll rs ρ1=some (ds,ρ2)) (h3:ds.length≤100000):mLst m ρ=some ((.list ds,.new),ρ2):=by
  unfold mLst; rw [h1,Option.bind_some]; dsimp only; rw [h2,Option.bind_some]; dsimp only; rw [cIf_pos (sz_le h3)]
theorem tup_ev {m:Rho->Option (List RV × Rho)} {rs:List RV} {ds:List D} (h1:m ρ=some (rs,ρ1)) (h2:fzAll rs ρ1=some (ds,ρ2)) (h3:ds.length≤100000):mTup m ρ=some ((.tuple ds,.fz),ρ2):=by
  unfold mTup; rw [h1,Option.bind_some]; dsimp only; rw [h2,Option.bind_some]; dsimp only; rw [cIf_pos (sz_le h3)]
theorem lc_ev {fr:List (Str × Nat)} {it:Rho->Option (List D × Rho)} {c:Rho->Option (Bool × Rho)} {e:PM} {ds ys:List D} (h1:it ρ=some (ds,ρ1)) (h2:compL c e (fr.map fun p=>demote ρ1 p.2) ds=some ys) (h3:ys.length≤100000) :
    mLC fr it c e ρ=some ((.list ys,.new),ρ1):=by
  unfold mLC; rw [h1,Option.bind_some]; dsimp only; rw [h2,Option.bind_some,cIf_pos (sz_lt h3)]
theorem fol_ev {d:List D} (h1:sv a ρ=some ((.list d,.fz),ρ1)):mFoL a ρ=some (d,ρ1):=by
  unfold mFoL; rw [h1]; rfl
theorem drop_ev (h:a ρ=some (r,ρ1)):mDrop a ρ=some (.nx ρ1):=by unfold mDrop; rw [h]; rfl
end
theorem compL_map {e:PM} {ρn:Rho} {α:Type} {f : α->D} {g : α->D}:∀ l:List α,(∀ x∈l,∃ ρ,sv e (.fz (f x)::ρn)=some ((g x,.fz),ρ))->compL mYes e ρn (l.map f)=some (l.map g)
  | [],_=>rfl
  | x::l,h=>by
    obtain ⟨ρ,h1⟩:=h x List.mem_cons_self
    have h2:=compL_map l fun y hy=>h y (List.mem_cons_of_mem _ hy)
    rw [List.map_cons,List.map_cons]
    unfold compL
    simp only [mYes,h1,h2,asF,Option.bind_some,Option.map_some,if_true]
theorem rngD_map (n:Nat):rngD 0 n=(List.range n).map fun k:Nat=>PyData.int (k:Int):=by
  unfold rngD
  congr 1
  funext k
  rw [Int.zero_add]
theorem mulOk {i j:Int} (h:(-(2 ^ 64) < i∧i < 2 ^ 64)∨(-(2 ^ 64) < j∧j < 2 ^ 64)):IntMulOk i j:=CMul.ok h
def IE (m:PM) (ρ:Rho) (v:Int):Prop:=m ρ=some ((.int v,.fz),ρ)
def BE (m:PM) (ρ:Rho) (v:Bool):Prop:=m ρ=some ((.bool v,.fz),ρ)
section
variable {a b:PM} {ρ:Rho} {i j:Int} {u v:Bool}
theorem op_i {g:D->D->Option (D × Bool)} {k:Int} (h1:IE a ρ i) (h2:IE b ρ j) (h3:g (.int i) (.int j)=some (.int k,false)):IE (mOp g a b) ρ k:=op_ev (sv_fz h1) (sv_fz h2) h3
theorem op_b {g:D->D->Option (D × Bool)} {k:Bool} (h1:IE a ρ i) (h2:IE b ρ j) (h3:g (.int i) (.int j)=some (.bool k,false)):BE (mOp g a b) ρ k:=op_ev (sv_fz h1) (sv_fz h2) h3
theorem ie_c:IE (mC (.int i)) ρ i:=rfl
theorem ie_var {k:Nat} (h : ρ[k]?=some (.fz (.int i))):IE (mVar k) ρ i:=var_fz h
theorem ie_add (h1:IE a ρ i) (h2:IE b ρ j):IE (mOp gAdd a b) ρ (i + j):=op_i h1 h2 rfl
theorem ie_sub (h1:IE a ρ i) (h2:IE b ρ j):IE (mOp gSub a b) ρ (i - j):=op_i h1 h2 rfl
theorem gI_ev {C:Int->Int->Prop} {f:Int->Int->Int} (h:C i j):gI C f (.int i) (.int j)=some (.int (f i j),false):=by show cIf _ _ _=_; rw [cIf_pos h]
theorem ie_mul (h1:IE a ρ i) (h2:IE b ρ j) (h:IntMulOk i j):IE (mOp gMul a b) ρ (i * j):=op_i h1 h2 (by show cIf _ _ _=_; rw [cIf_pos h])
theorem ie_div (h1:IE a ρ i) (h2:IE b ρ j) (h:CDiv i j):IE (mOp gDiv a b) ρ (i / j):=op_i h1 h2 (gI_ev h)
theorem ie_mod (h1:IE a ρ i) (h2:IE b ρ j) (h : 0 < j):IE (mOp gMod a b) ρ (i % j):=op_i h1 h2 (gI_ev (C:=fun _ j=>0 < j) h)
theorem ie_pow (h1:IE a ρ i) (h2:IE b ρ j) (h:CPow i j):IE (mOp gPow a b) ρ (i ^ j.toNat):=op_i h1 h2 (gI_ev h)
theorem ie_neg (h1:IE a ρ i):IE (mUn gNeg a) ρ (-i):=by unfold IE mUn; rw [sv_fz h1]; rfl
theorem be_eq (h1:IE a ρ i) (h2:IE b ρ j):BE (mOp gEq a b) ρ (decide (i=j)):=op_b h1 h2 (gEq_int i j)
theorem be_ne (h1:IE a ρ i) (h2:IE b ρ j):BE (mOp gNe a b) ρ (!decide (i=j)):=op_b h1 h2 (gNe_int i j)
theorem be_lt (h1:IE a ρ i) (h2:IE b ρ j):BE (mOp gLt a b) ρ (decide (i < j)):=op_b h1 h2 rfl
theorem be_gt (h1:IE a ρ i) (h2:IE b ρ j):BE (mOp gGt a b) ρ (decide (j < i)):=op_b h1 h2 rfl
theorem be_ge (h1:IE a ρ i) (h2:IE b ρ j):BE (mOp gGe a b) ρ (decide (j≤i)):=op_b h1 h2 rfl
theorem BE.t (h:BE a ρ v):mTest a ρ=some (v,ρ):=test_ev (k:=.fz) h
theorem BE.is (h:BE a ρ u) (e:u=v):BE a ρ v:=e ▸ h
theorem IE.is (h:IE a ρ i) (e:i=j):IE a ρ j:=e ▸ h
theorem ie_call {f:List D->Option (D × Bool)} {m:Rho->Option (List RV × Rho)} {rs:List RV} (h1:m ρ=some (rs,ρ)) (h2:f (rs.map (·.1))=some (.int i,false)):IE (mCall f m) ρ i:=call_pure h1 h2 rfl
theorem be_call {f:List D->Option (D × Bool)} {m:Rho->Option (List RV × Rho)} {rs:List RV} (h1:m ρ=some (rs,ρ)) (h2:f (rs.map (·.1))=some (.bool v,false)):BE (mCall f m) ρ v:=call_pure h1 h2 rfl
theorem IE.cons {m:Rho->Option (List RV × Rho)} {rs:List RV} (h:IE a ρ i) (h2:m ρ=some (rs,ρ)):mCons a m ρ=some ((.int i,.fz)::rs,ρ):=cons_fz (sv_fz h) h2
theorem be_and (h1:BE a ρ u) (h2:u=true->BE b ρ v) (h3:u=false->v=false):BE (mAndV a b) ρ v:=by
  unfold BE mAndV
  rw [h1.t]
  cases u with
  | true=>exact h2 rfl
  | false=>rw [h3 rfl]; rfl
theorem be_not (h1:BE a ρ u):BE (mNotV a) ρ (!u):=by unfold BE mNotV; rw [h1.t]; rfl
end
section
variable {a b:PM} {ρ:Rho} {i j:Int} {u v:Bool}
theorem asgI {k:Nat} {ρ':Rho} (h:IE a ρ i) (h2:setSl ρ k (.fz (.int i))=some ρ'):mAsg k a ρ=some (.nx ρ'):=asg_fz h h2
theorem tstB (h:BE a ρ u) (e:u=v):mTest a ρ=some (v,ρ):=e ▸ h.t
theorem consI {m:Rho->Option (List RV × Rho)} {rs:List RV} (h:IE a ρ i) (h2:m ρ=some (rs,ρ)):mCons a m ρ=some ((.int i,.fz)::rs,ρ):=cons_fz (sv_fz h) h2
theorem tEq (h1:IE a ρ i) (h2:IE b ρ j) (h:i=j):mTest (mOp gEq a b) ρ=some (true,ρ):=tstB (be_eq h1 h2) (decide_eq_true h)
theorem tNe (h1:IE a ρ i) (h2:IE b ρ j) (h:i≠j):mTest (mOp gEq a b) ρ=some (false,ρ):=tstB (be_eq h1 h2) (decide_eq_false h)
end
theorem seq_bk {a b:SM} {ρ ρ1:Rho} (h1:a ρ=some (.bk ρ1)):mSeq a b ρ=some (.bk ρ1):=by
  unfold mSeq; simp only [h1,Option.bind_some]
theorem ifE_t {c:Rho->Option (Bool × Rho)} {a b:PM} {ρ ρ1:Rho} {o:Option (RV × Rho)} (h1:c ρ=some (true,ρ1)) (h2:a ρ1=o):mIfE c a b ρ=o:=by unfold mIfE; rw [h1]; simpa using h2
theorem ifE_f {c:Rho->Option (Bool × Rho)} {a b:PM} {ρ ρ1:Rho} {o:Option (RV × Rho)} (h1:c ρ=some (false,ρ1)) (h2:b ρ1=o):mIfE c a b ρ=o:=by unfold mIfE; rw [h1]; simpa using h2
theorem isi_ev {n:String} {a:PM} {ρ ρ1:Rho} {d:D} {k:Kd} {v:Bool} (h1:sv a ρ=some ((d,k),ρ1)) (h2:gIsi n d=some (.bool v,false)):mIsi n a ρ=some ((.bool v,.fz),ρ1):=by
  unfold mIsi mUn; rw [h1,Option.bind_some]; dsimp only; rw [h2]; rfl
theorem atI_zero {α:Type} (x : α) (l:List α):atI (x::l) 0=some x:=atI_nat (x::l) 0
theorem forL_cons {g:D->Rho->Option Rho} {b:SM} {d:D} {ds:List D} {ρ ρ1 ρ2:Rho} {o:Option Out} (h1:g d ρ=some ρ1) (h2:b ρ1=some (.nx ρ2)) (h3:forL g b ds ρ2=o):forL g b (d::ds) ρ=o:=by
  show ((g d ρ).bind _)=_
  rw [h1,Option.bind_some,h2]
  exact h3
theorem forL_rt {g:D->Rho->Option Rho} {b:SM} {d:D} {ds:List D} {ρ ρ1 ρ2:Rho} {r:RV} (h1:g d ρ=some ρ1) (h2:b ρ1=some (.rt r ρ2)):forL g b (d::ds) ρ=some (.rt r ρ2):=by
  show ((g d ρ).bind _)=_
  rw [h1,Option.bind_some,h2]
  rfl
end Mir
set_option Elab.async false
set_option linter.all false
set_option maxRecDepth 100000
namespace Mir
open PySem L2
variable [Zc]
def asS:D->Option (List D)
  | .list ds=>some ds
  | .tuple ds=>some ds
  | _=>none
def mgU (n:Nat) (ms:List D->Rho->Option Rho):D->Rho->Option Rho:=fun d ρ=>(asS d).bind fun ds=>if ds.length=n then ms ds ρ else none
theorem mg_tupL {K:PySem.W.Frag} {n:Nat} {gs:TGs} {ms:List D->Rho->Option Rho} (h:MGs gs ms):MG (gTupL K n gs) (mgU n ms):=fun F B H σ ρ v d ρ' Q R rp e q=>by
  obtain ⟨ds,e1,e2⟩:=Option.bind_eq_some_iff.mp e
  cases rp with
  | tup hp rs =>
    cases e1
    split at e2
    . rename_i hn
      exact ⟨_,_,rfl,.inl (.inl (.inl (R.sub _ _ hp))),by rw [rs.length]; exact hn,h F B H σ ρ _ _ ρ' Q R rs e2 q⟩
    . cases e2
  | lst hp rs =>
    cases e1
    split at e2
    . rename_i hn
      exact ⟨_,_,rfl,.inr (rd_sq (rd_same R.sub hp)),by rw [rs.length]; exact hn,h F B H σ ρ _ _ ρ' Q R rs e2 q⟩
    . cases e2
  | _=>cases e1
end Mir
set_option Elab.async false
set_option linter.all false
set_option maxRecDepth 100000
namespace L2
open PySem PySem.Spec PyProof.Rows
variable {X:Cx}
end L2
namespace Mir
open PySem L2
variable [Zc]
end Mir
set_option Elab.async false
set_option linter.all false
set_option maxRecDepth 100000
namespace Mir
open PySem L2
inductive OutE where
  | ok (o:Out) | er (c:Str) (ρ:Rho)
section
variable [Zc]
end
end Mir
namespace L2
open PySem PySem.Spec PyProof.Rows
end L2
set_option Elab.async false
set_option linter.all false
set_option maxRecDepth 100000
namespace L2
open PySem PySem.Spec PyProof.Rows
end L2
set_option Elab.async false
set_option linter.all false
set_option maxRecDepth 100000
namespace L2
open PySem PySem.Spec PyProof.Rows
theorem Vals.picks {xs:List V} {us:List Value} (r:Vals xs us):∀ is:List Nat,Vals (is.filterMap (xs[·]?)) (is.filterMap (us[·]?))
  | []=>.nil
  | i::is=>by
    cases h:xs[i]? with
    | none=>rw [List.filterMap_cons_none h,List.filterMap_cons_none (r.none_of h)]; exact r.picks is
    | some x =>
      obtain ⟨u,h1,h2⟩:=r.get h
      rw [List.filterMap_cons_some h,List.filterMap_cons_some h1]
      exact .cons h2 (r.picks is)
section
variable {X:Cx} {e:Expr} {te:TE} {est:Expr} {lo hi:Option Expr} {tl th tk:TO} {pos p2:Pos}
end
end L2
namespace Mir
open PySem L2
variable [Zc]
theorem Reps.picks {H:Hp} {vs:List V} {ds:List D} (r:Reps H vs ds):∀ is:List Nat,Reps H (is.filterMap (vs[·]?)) (is.filterMap (ds[·]?))
  | []=>.nil
  | i::is=>by
    cases h:ds[i]? with
    | none =>
      have h':vs[i]?=none:=by
        rw [List.getElem?_eq_none_iff] at h ⊢
        rw [r.length]; exact h
      rw [List.filterMap_cons_none h,List.filterMap_cons_none h']; exact r.picks is
    | some x =>
      obtain ⟨u,h1,h2⟩:=r.get i x h
      rw [List.filterMap_cons_some h,List.filterMap_cons_some h1]
      exact .cons h2 (r.picks is)
end Mir
set_option Elab.async false
set_option linter.all false
set_option maxRecDepth 100000
namespace Mir
open PySem L2
section
variable [Zc]
def LF (B:Hp):Prop:=∀ q o,B q=some o->∃ xs,o=.tup xs
structure FrP (F:Fr):Prop where
  lf:LF F.B
  io:F.io=[]
  zh:∀ q,F.Z q->F.H q≠none
def MSP (t:TS) (m:SM):Prop:=∀ (F:Fr) (B H:Hp) (σ:St) (ρ:Rho) (o:Out) (D:Ends),FrP F->Rel F B H σ ρ->m ρ=some o->OutOk F D o->t D σ H
theorem MS.p {t:TS} {m:SM} (h:MS t m):MSP t m:=fun F B H σ ρ o D _ R e q=>h F B H σ ρ o D R e q
def tups (H:Hp):Hp:=fun q=>match H q with
  | some (.tup xs)=>some (.tup xs)
  | _=>none
theorem Reps.put {B B':Hp} (k:∀ q xs,B q=some (.tup xs)->B' q=some (.tup xs)) {x:V} {c c':D} (hr:Rep B' x c'):∀ {vs:List V} {ds:List D} (j:Nat),Reps B vs ds->vs[j]?=some x->ds[j]?=some c->pureDs (ds.set j .none)=true->Reps B' vs (ds.set j c')
  | _,_,_,.nil,h,_,_=>by simp at h
  | _,_,0,.cons a b,h1,h2,e=>by
    simp only [List.getElem?_cons_zero,Option.some.injEq] at h1
    subst h1
    simp only [List.set_cons_zero,pureDs,Bool.and_eq_true] at e
    exact .cons hr (b.ofPure k e.2)
  | _,_,j + 1,.cons a b,h1,h2,e=>by
    simp only [List.set_cons_succ,pureDs,Bool.and_eq_true] at e
    exact .cons (a.ofPure k e.1) (Reps.put k hr j b (by simpa using h1) (by simpa using h2) e.2)
end
end Mir
set_option Elab.async false
set_option linter.all false
set_option maxRecDepth 100000
namespace Mir
open PySem L2
section
variable [Zc]
structure PostI (B H:Hp) (p:Addr) (v:V) (B' H':Hp) (d:D) (o:Bool) (d1:D):Prop where
  eH:∀ q u,q≠p->H q=some u->H' q=some u
  eB:Same B B'
  sub:Same B' H'
  nb:∀ q,H q≠none->B q=none->B' q=none
  tB:∀ q xs,H' q=some (.tup xs)->B' q=some (.tup xs)
  nz:∀ q o u,H' q=some (.frz o u)->H q≠none
  own:Own B' H' p d1
  val:if o=true then ∃ p,v=.ref p∧H p=none∧B' p=none∧Own B' H' p d else Rep B' v d
def spI (f:List D->Option ((D × Bool) × D)):Sp:=fun vs H Q _=>∃ B p us d0 ds r d1,vs=.ref p::us∧Same B H∧(∀ q xs,H q=some (.tup xs)->B q=some (.tup xs))∧B p=none∧Own B H p d0∧Reps B us ds∧f (d0::ds)=some (r,d1)∧∀ v B' H',PostI B H p v B' H' r.1 r.2 d1->Q v H'
def outRho:Out->Rho
  | .nx ρ=>ρ
  | .rt _ ρ=>ρ
  | .bk ρ=>ρ
  | .ct ρ=>ρ
def io0:Rho->Option D
  | .io d::_=>some d
  | _=>none
theorem io0_eq {ρ:Rho} {d:D} (h:io0 ρ=some d) : ρ[0]?=some (Sl.io d):=by
  unfold io0 at h
  split at h
  . cases h; rfl
  . cases h
def fnI (n k:Nat) (b:SM):List D->Option ((D × Bool) × D)
  | []=>none
  | d0::ds=>if ds.length + 1=n then (b (.io d0::ds.map .fz++List.replicate k .no)).bind fun o=>(retD o).bind fun r=>(io0 (outRho o)).map fun d=>(r,d) else none
theorem fn_runI {n k:Nat} {b:SM} {t:TS} {N:List Str} {vs:List V} {H:Hp} {Q:VK} {E:XK} (hb:MS t b) (hN:N.length=n + k) (h:spI (fnI n k b) vs H Q E):t { nx:=fun _ H'=>Q .non H',rt:=Q } (L2.start N vs) H:=by
  obtain ⟨B,p,us,d0,ds,r0,d1,rfl,sub,tB,hB,ow,rp,e,q⟩:=h
  simp only [fnI] at e
  split at e
  case isFalse=>cases e
  rename_i hl
  obtain ⟨w,e1,e2⟩:=Option.bind_eq_some_iff.mp e
  obtain ⟨r,e2,e3⟩:=Option.bind_eq_some_iff.mp e2
  obtain ⟨d,e3,e4⟩:=Option.map_eq_some_iff.mp e3
  cases e4
  have hvl:us.length + 1=n:=by rw [rp.length]; exact hl
  have own0:∀ (i:Nat) (s:Sl),(Sl.io d0::ds.map Sl.fz++List.replicate k .no)[i]?=some s->s.isRef=true->i=0∧s=.io d0:=fun i s h1 h2=>by
    cases i with
    | zero=>rw [List.cons_append,List.getElem?_cons_zero] at h1; cases h1; exact ⟨rfl,rfl⟩
    | succ i =>
      rw [List.cons_append,List.getElem?_cons_succ] at h1
      have:=List.mem_of_getElem? h1
      rcases List.mem_append.mp this with h | h
      . obtain ⟨c,_,rfl⟩:=List.mem_map.mp h; cases h2
      . rw [List.eq_of_mem_replicate h] at h2; cases h2
  have ex0:∀ i:Nat,(Sl.io d0::ds.map Sl.fz++List.replicate k .no)[i]?=some Sl.ex->False:=fun i h1=>by
    cases i with
    | zero=>rw [List.cons_append,List.getElem?_cons_zero] at h1; cases h1
    | succ i =>
      rw [List.cons_append,List.getElem?_cons_succ] at h1
      have:=List.mem_of_getElem? h1
      rcases List.mem_append.mp this with h | h
      . obtain ⟨c,_,z⟩:=List.mem_map.mp h; cases z
      . have:=List.eq_of_mem_replicate h; cases this
  have st0:(L2.start N (.ref p::us))[0]?=some (some (.ref p)):=by
    unfold L2.start
    rw [List.map_cons,List.cons_append,List.getElem?_cons_zero]
  have R:Rel ⟨B,H,[(0,p)],fun q=>H q≠none⟩ B H (L2.start N (.ref p::us)) (.io d0::ds.map .fz++List.replicate k .no):=by
    refine ⟨sub,Same.refl _,fun _ _ z _=>z,fun _ _ z=>z,?_,fun i s hs=>?_,fun i j s t p h1 h2 h3 h4 _ _=>(own0 i s h1 (Sl.ref_of h2)).1.trans (own0 j t h3 h4).1.symm,(fun i c p h1=>by have:=(own0 i _ h1 rfl).2; cases this),(fun x hx=>?_),(fun i c h1=>?_),tB,(fun i h1=>(ex0 i h1).elim),fun q o u h z=>by rw [z] at h; cases h⟩
    . simp [L2.start,hl,hvl,hN]; omega
    . cases i with
      | zero =>
        rw [List.cons_append,List.getElem?_cons_zero] at hs
        cases hs
        exact ⟨p,st0,hB,ow⟩
      | succ i =>
        rw [List.cons_append,List.getElem?_cons_succ] at hs
        by_cases hi:i < ds.length
        . rw [List.getElem?_append_left (by simpa using hi),List.getElem?_map] at hs
          obtain ⟨c,h1,rfl⟩:=Option.map_eq_some_iff.mp hs
          obtain ⟨x,h2,h3⟩:=rp.get i c h1
          refine ⟨x,?_,h3⟩
          unfold L2.start
          rw [List.map_cons,List.cons_append,List.getElem?_cons_succ,List.getElem?_append_left (by rw [List.length_map,rp.length]; exact hi),List.getElem?_map,h2]
          rfl
        . rw [List.getElem?_append_right (by simpa using Nat.le_of_not_lt hi)] at hs
          have:=List.eq_of_mem_replicate (List.mem_of_getElem? hs)
          subst this
          trivial
    . simp only [List.mem_cons,List.not_mem_nil,or_false] at hx
      subst hx
      exact ⟨st0,d0,rfl⟩
    . obtain ⟨rfl,_⟩:=own0 i _ h1 rfl
      exact ⟨p,by simp⟩
  refine hb _ B H _ _ w _ R e1 ?_
  have post:∀ {B' H':Hp} {σ':St} {ρ':Rho},outRho w=ρ'->Rel ⟨B,H,[(0,p)],fun q=>H q≠none⟩ B' H' σ' ρ'->(∀ q u,q≠p->H q=some u->H' q=some u)∧Same B B'∧Same B' H'∧(∀ q,H q≠none->B q=none->B' q=none)∧(∀ q xs,H' q=some (.tup xs)->B' q=some (.tup xs))∧(∀ q o u,H' q=some (.frz o u)->H q≠none)∧Own B' H' p d1:=fun {B' H' σ' ρ'} hw R'=>by
    refine ⟨fun q u n z=>R'.sH q u z (fun x hx=>?_),R'.sB,R'.sub,R'.nB,R'.tupB,R'.nz,?_⟩
    . simp only [List.mem_cons,List.not_mem_nil,or_false] at hx
      subst hx
      exact fun z=>n z.symm
    . rw [hw] at e3
      have h0:=io0_eq e3
      obtain ⟨p',g1,g2,g3⟩:=R'.slot 0 _ h0
      obtain ⟨g4,_⟩:=R'.fx (0,p) (by simp)
      rw [g4] at g1
      cases g1
      exact g3
  cases w with
  | nx ρ' =>
    cases e2
    intro B' H' σ' R'
    obtain ⟨p1,p2,p3,p4,p5,p6,p7⟩:=post rfl R'
    exact q _ B' H' ⟨p1,p2,p3,p4,p5,p6,p7,.non⟩
  | bk ρ'=>cases e2
  | ct ρ'=>cases e2
  | rt r' ρ' =>
    intro v B' H' σ' R' V'
    obtain ⟨p1,p2,p3,p4,p5,p6,p7⟩:=post rfl R'
    obtain ⟨c,kd⟩:=r'
    cases kd with
    | fz=>cases e2; exact q v B' H' ⟨p1,p2,p3,p4,p5,p6,p7,V'⟩
    | new =>
      cases e2
      obtain ⟨p,rfl,h1,h2,h3,_⟩:=V'
      exact q _ B' H' ⟨p1,p2,p3,p4,p5,p6,p7,⟨p,rfl,h2,h1,h3⟩⟩
    | ro=>cases e2
    | «at» i =>
      obtain ⟨s,h1,h2,h3,h4⟩:=V'
      have e2':(match ρ'[i]? with
        | some (.own d)=>some (d,true)
        | _=>none)=some r0:=e2
      rw [h1] at e2'
      cases s with
      | own c' =>
        cases e2'
        obtain ⟨p,g1,g2,g3⟩:=R'.slot i _ h1
        have h4' : σ'[i]?=some (some v):=h4
        rw [h4'] at g1
        cases g1
        exact q _ B' H' ⟨p1,p2,p3,p4,p5,p6,p7,⟨p,rfl,R'.ownN i _ p h1 h4',g2,g3⟩⟩
      | _=>cases e2'
theorem spI_len {n k:Nat} {b:SM} {vs:List V} {H:Hp} {Q:VK} {E:XK} (h:spI (fnI n k b) vs H Q E):vs.length=n:=by
  obtain ⟨B,p,us,d0,ds,r0,d1,rfl,sub,tB,hB,ow,rp,e,q⟩:=h
  simp only [fnI] at e
  split at e
  . rename_i hl; rw [List.length_cons,rp.length]; exact hl
  . cases e
def ownAt (ρ:Rho) (i:Nat):Option Sl:=match ρ[i]? with
  | some s=>if s.isOwn=true then some s else none
  | none=>none
theorem ownAt_eq {ρ:Rho} {i:Nat} {s:Sl} (h:ownAt ρ i=some s) : ρ[i]?=some s∧s.isOwn=true:=by
  unfold ownAt at h
  split at h
  . rename_i s' h0
    split at h
    . rename_i h1; cases h; exact ⟨h0,h1⟩
    . cases h
  . cases h
def mCallI (i:Nat) (f:List D->Option ((D × Bool) × D)) (m:Rho->Option (List RV × Rho)):PM:=fun ρ=>(ownAt ρ i).bind fun _=>(m ρ).bind fun x=>(fzAll x.1 x.2).bind fun y=>(ownAt y.2 i).bind fun s=>(f (slD s::y.1)).map fun w=>(kO w.1.1 w.1.2,y.2.set i (s.put w.2))
theorem Own.notfrz {B H:Hp} {p:Addr} {d:D} (h:Own B H p d) (a:Obj) (u:HO):H p≠some (.frz a u):=by cases h with
  | lst h _=>rw [h]; simp
  | dct h _=>rw [h]; simp
theorem me_callI {f:List D->Option ((D × Bool) × D)} {E:XK} {i:Nat} {t:TA} {m:Rho->Option (List RV × Rho)} (h:MA t m):ME (tCall (spI f) [] E (tCons (tVar i) t)) (mCallI i f m):=by
  intro F B H σ ρ r0 ρ' Q R e q
  obtain ⟨s0,e0,e⟩:=Option.bind_eq_some_iff.mp e
  obtain ⟨x,e1,e⟩:=Option.bind_eq_some_iff.mp e
  obtain ⟨y,e2,e⟩:=Option.bind_eq_some_iff.mp e
  obtain ⟨s,e4,e⟩:=Option.bind_eq_some_iff.mp e
  obtain ⟨w,e3,e⟩:=Option.map_eq_some_iff.mp e
  cases e
  obtain ⟨hs0,ho0⟩:=ownAt_eq e0
  obtain ⟨hs,ho⟩:=ownAt_eq e4
  obtain ⟨p,hv,_,_⟩:=R.ownAt hs0 ho0
  refine ⟨_,hv,?_⟩
  refine h F B H σ ρ x.1 x.2 _ R e1 fun vs B1 H1 E1 R1 V1=>?_
  show spI f (V.ref p::vs++[]) H1 Q E
  rw [List.append_nil]
  obtain ⟨B2,R2,rp,E2⟩:=Rel.frzL R1 V1.weak e2
  obtain ⟨p',hv',hB,ow⟩:=R2.ownAt hs ho
  rw [hv] at hv'
  cases hv'
  obtain ⟨oo,hoo⟩:=ow.there
  obtain ⟨r,d1⟩:=w
  refine ⟨B2,p,vs,slD s,y.1,r,d1,rfl,R2.sub,R2.tupB,hB,ow,rp,e3,fun v B' H' P=>?_⟩
  obtain ⟨o1,ho1⟩:=P.own.there
  have hB':B' p=none:=P.nb p (by rw [hoo]; simp) hB
  have eH:Same H1 (upd H' p oo):=fun c u hc=>by
    by_cases z:c=p
    . subst z; rw [hoo] at hc; cases hc; exact upd_same
    . rw [upd_ne z]; exact P.eH c u z hc
  have sub:Same B' (upd H' p oo):=fun c u hc=>by
    rw [upd_ne (fun z=>by rw [z,hB'] at hc; cases hc)]; exact P.sub c u hc
  have tB:∀ c xs,upd H' p oo c=some (.tup xs)->B' c=some (.tup xs):=fun c xs hc=>by
    by_cases z:c=p
    . subst z; rw [upd_same] at hc; cases hc; exact absurd hoo (ow.notup xs)
    . rw [upd_ne z] at hc; exact P.tB c xs hc
  have nz:∀ c a u,upd H' p oo c=some (.frz a u)->H1 c≠none:=fun c a u hc=>by
    by_cases z:c=p
    . subst z; rw [hoo]; simp
    . rw [upd_ne z] at hc; exact P.nz c a u hc
  have R3:=R2.grow P.eB eH sub P.nb tB nz
  have E3:Ext σ y.2 B2 H1 y.2 B' (upd H' p oo):=Ext.grow P.eB eH P.nb
  have back:upd (upd H' p oo) p o1=H':=by
    funext c
    by_cases z:c=p
    . subst z; rw [upd_same,ho1]
    . rw [upd_ne z,upd_ne z]
  obtain ⟨R4,E4⟩:=R3.write (o:=o1) (d:=d1) hs ho hv ⟨(fun xs z=>by rw [z] at ho1; exact P.own.notup xs ho1),fun a u z=>by rw [z] at ho1; exact P.own.notfrz a u ho1⟩ (by rw [back]; exact P.own)
  rw [back] at R4 E4
  have EE:=E1.trans (E2.trans (E3.trans E4))
  obtain ⟨d,o⟩:=r
  cases o with
  | false =>
    have pv:Rep B' v d:=P.val
    exact q v B' H' EE R4 pv fun p z=>by cases z
  | true =>
    obtain ⟨p2,rfl,h1,h2,h3⟩:∃ p,v=.ref p∧H1 p=none∧B' p=none∧Own B' H' p d:=P.val
    have fr:=R2.free h1
    refine q _ B' H' EE R4 ⟨p2,rfl,h2,fr.2.1,h3,fun j t h4 h5 h6=>?_⟩ fun p' _ z=>by cases z; exact E1.live p2 h1
    rcases get_set h4 with ⟨rfl,_,_⟩ | ⟨_,h4⟩
    . rw [hv] at h6
      cases h6
      rw [h1] at hoo; cases hoo
    . exact fr.2.2 j t h4 h5 h6
theorem callI_ev {f:List D->Option ((D × Bool) × D)} {m:Rho->Option (List RV × Rho)} {i:Nat} {s s':Sl} {rs:List RV} {ds:List D} {d d0 d1:D} {o:Bool} {ρ ρ1 ρ2:Rho} (h0:ownAt ρ i=some s') (h1:m ρ=some (rs,ρ1)) (h2:fzAll rs ρ1=some (ds,ρ2)) (h3:ownAt ρ2 i=some s) (h4:f (slD s::ds)=some ((d,o),d1)):mCallI i f m ρ=some (kO d o,ρ2.set i (s.put d1)):=by
  unfold mCallI
  rw [h0,Option.bind_some,h1,Option.bind_some]; dsimp only
  rw [h2,Option.bind_some]; dsimp only
  rw [h3,Option.bind_some,h4]; rfl
theorem var_io {d:D} {ρ:Rho} {i:Nat} (h : ρ[i]?=some (.io d)):mVar i ρ=some ((d,.at i),ρ):=by unfold mVar; rw [h]
theorem fnI_of {n k:Nat} {b:SM} {d0 d1:D} {ds:List D} {o:Out} {r:D × Bool} (hl:ds.length + 1=n) (h:b (.io d0::ds.map .fz++List.replicate k .no)=some o) (hr:retD o=some r) (h0:io0 (outRho o)=some d1):fnI n k b (d0::ds)=some (r,d1):=by
  simp only [fnI]; rw [if_pos hl,h,Option.bind_some,hr,Option.bind_some,h0]; rfl
theorem op_ro {a b:PM} {ρ ρ1 ρ2:Rho} {x:D} {r:RV} {res:D × Bool} {g:D->D->Option (D × Bool)} (h1:sv a ρ=some ((x,.ro),ρ1)) (h2:sv b ρ1=some (r,ρ2)) (h3:g x r.1=some res):mOp g a b ρ=some (resK res,ρ2):=by
  unfold mOp; rw [h1,Option.bind_some]; dsimp only; rw [h2,Option.bind_some]; dsimp only [refr,Option.bind_some]; rw [h3,Option.map_some]
end
end Mir
set_option Elab.async false
set_option linter.all false
set_option maxRecDepth 100000
namespace Mir
open PySem L2
section
variable [Zc]
def Two (H0 B' H':Hp) (v:V) (c:D × D):Prop:=∃ a p q,v=.ref a∧H' a=some (.tup [.ref p,.ref q])∧p≠q∧H0 p=none∧H0 q=none∧B' p=none∧B' q=none∧Own B' H' p c.1∧Own B' H' q c.2
structure PostD (B H:Hp) (v:V) (B' H':Hp) (c:D × D):Prop where
  eH:Same H H'
  eB:Same B B'
  sub:Same B' H'
  nb:∀ q,H q≠none->B q=none->B' q=none
  tB:∀ q xs,H' q=some (.tup xs)->B' q=some (.tup xs)
  nz:∀ q o u,H' q=some (.frz o u)->H q≠none
  val:Two H B' H' v c
def spD (f:List D->Option (D × D)):Sp:=fun vs H Q _=>∃ B ds c,Same B H∧(∀ q xs,H q=some (.tup xs)->B q=some (.tup xs))∧Reps B vs ds∧f ds=some c∧∀ v B' H',PostD B H v B' H' c->Q v H'
def OkD (F:Fr) (E:Ends) (c:D × D):Prop:=∀ v B' H' σ' ρ',Rel F B' H' σ' ρ'->Two F.H B' H' v c->E.rt v H'
def MD (t:TS) (m:Rho->Option (D × D)):Prop:=∀ (F:Fr) (B H:Hp) (σ:St) (ρ:Rho) (c:D × D) (E:Ends),Rel F B H σ ρ->m ρ=some c->OkD F E c->t E σ H
def mdSeq (a:SM) (b:Rho->Option (D × D)):Rho->Option (D × D):=fun ρ=>(a ρ).bind fun o=>match o with
  | .nx ρ'=>b ρ'
  | _=>none
theorem md_seq {t u:TS} {a:SM} {b:Rho->Option (D × D)} (ha:MS t a) (hb:MD u b):MD (tSeq t u) (mdSeq a b):=by
  intro F B H σ ρ c E R e q
  obtain ⟨x,e1,e⟩:=Option.bind_eq_some_iff.mp e
  cases x with
  | nx ρ'=>exact ha F B H σ ρ _ { E with nx:=u E } R e1 fun B' H' σ' R'=>hb F B' H' σ' ρ' c E R' e q
  | rt r ρ'=>cases e
  | bk ρ'=>cases e
  | ct ρ'=>cases e
def mdRet (i j:Nat):Rho->Option (D × D):=fun ρ=>match ρ[i]?,ρ[j]? with
  | some (.own c1),some (.own c2)=>if i=j then none else some (c1,c2)
  | _,_=>none
theorem md_ret {i j:Nat}:MD (tRet (tTup (tCons (tVar i) (tCons (tVar j) tNil)))) (mdRet i j):=by
  intro F B H σ ρ c E R e q
  unfold mdRet at e
  split at e
  case h_2=>cases e
  rename_i c1 c2 hi hj
  split at e
  . cases e
  rename_i hij
  cases e
  obtain ⟨p,vi,bi,oi⟩:=R.slot i _ hi
  obtain ⟨r,vj,bj,oj⟩:=R.slot j _ hj
  have hne:p≠r:=fun z=>hij (R.dist i j _ _ p hi rfl hj rfl vi (z ▸ vj))
  refine ⟨_,vi,_,vj,(by simp only [List.length_cons,List.length_nil,sizeLine]; omega),fun a ha=>?_⟩
  obtain ⟨R',_,eB⟩:=R.layT (xs:=[.ref p,.ref r]) ha
  have pa:p≠a:=fun z=>oi.ne_none (z ▸ ha)
  have ra:r≠a:=fun z=>oj.ne_none (z ▸ ha)
  refine q _ _ _ σ ρ R' ⟨a,p,r,rfl,upd_same,hne,R.ownN i _ p hi vi,R.ownN j _ r hj vj,by rw [upd_ne pa]; exact bi,by rw [upd_ne ra]; exact bj,oi.mono eB fun o h=>by rw [upd_ne pa]; exact h,oj.mono eB fun o h=>by rw [upd_ne ra]; exact h⟩
def mdCall (f:List D->Option (D × D)) (m:Rho->Option (List RV × Rho)):Rho->Option (D × D):=fun ρ=>(m ρ).bind fun x=>(fzAll x.1 x.2).bind fun y=>f y.1
theorem md_call {f:List D->Option (D × D)} {X:XK} {t:TA} {m:Rho->Option (List RV × Rho)} (h:MA t m):MD (tRet (tCall (spD f) [] X t)) (mdCall f m):=by
  intro F B H σ ρ c E R e q
  obtain ⟨x,e1,e⟩:=Option.bind_eq_some_iff.mp e
  obtain ⟨y,e2,e3⟩:=Option.bind_eq_some_iff.mp e
  refine h F B H σ ρ x.1 x.2 _ R e1 fun vs B1 H1 E1 R1 V1=>?_
  show spD f (vs++[]) H1 E.rt X
  rw [List.append_nil]
  obtain ⟨B2,R2,rp,E2⟩:=Rel.frzL R1 V1.weak e2
  refine ⟨B2,y.1,c,R2.sub,R2.tupB,rp,e3,fun v B' H' P=>?_⟩
  have R3:=R2.grow P.eB P.eH P.sub P.nb P.tB P.nz
  obtain ⟨a,p,r,rfl,ha,hne,hp,hr,bp,br,op,or⟩:=P.val
  exact q _ B' H' σ _ R3 ⟨a,p,r,rfl,ha,hne,(R2.free hp).2.1,(R2.free hr).2.1,bp,br,op,or⟩
def mdIf (c:Rho->Option (Bool × Rho)) (a b:Rho->Option (D × D)):Rho->Option (D × D):=fun ρ=>(c ρ).bind fun x=>if x.1=true then a x.2 else b x.2
theorem md_if {tc:TT} {t u:TS} {c:Rho->Option (Bool × Rho)} {a b:Rho->Option (D × D)} (hc:MT tc c) (ha:MD t a) (hb:MD u b):MD (tSeq (tIfS tc t tNext) u) (mdIf c a b):=by
  intro F B H σ ρ w E R e q
  obtain ⟨x,e1,e⟩:=Option.bind_eq_some_iff.mp e
  refine hc F B H σ ρ x.1 x.2 _ R e1 fun B' H' _ R'=>?_
  cases hb':x.1 with
  | true =>
    rw [hb',if_pos rfl] at e
    rw [if_pos rfl]
    exact ha F B' H' σ x.2 w { E with nx:=u E } R' e q
  | false =>
    rw [hb',if_neg Bool.false_ne_true] at e
    rw [if_neg Bool.false_ne_true]
    exact hb F B' H' σ x.2 w E R' e q
def fnD (n k:Nat) (b:Rho->Option (D × D)) (ds:List D):Option (D × D):=if ds.length=n then b (ds.map .fz++List.replicate k .no) else none
theorem fn_runD {n k:Nat} {b:Rho->Option (D × D)} {t:TS} {N:List Str} {vs:List V} {H:Hp} {Q:VK} {E:XK} (hb:MD t b) (hN:N.length=n + k) (h:spD (fnD n k b) vs H Q E):t { nx:=fun _ H'=>Q .non H',rt:=Q } (L2.start N vs) H:=by
  obtain ⟨B,ds,c,sub,tB,rp,e,q⟩:=h
  unfold fnD at e
  split at e
  case isFalse=>cases e
  rename_i hl
  have hvl:vs.length=n:=rp.length.trans hl
  have own0:∀ (i:Nat) (s:Sl),(ds.map Sl.fz++List.replicate k .no)[i]?=some s->s.isRef=true->False:=fun i s h1 h2=>by
    have:=List.mem_of_getElem? h1
    rcases List.mem_append.mp this with h | h
    . obtain ⟨c,_,rfl⟩:=List.mem_map.mp h; cases h2
    . rw [List.eq_of_mem_replicate h] at h2; cases h2
  have ex0:∀ i:Nat,(ds.map Sl.fz++List.replicate k .no)[i]?=some Sl.ex->False:=fun i h1=>by
    have:=List.mem_of_getElem? h1
    rcases List.mem_append.mp this with h | h
    . obtain ⟨c,_,z⟩:=List.mem_map.mp h; cases z
    . have:=List.eq_of_mem_replicate h; cases this
  have R:Rel ⟨B,H,[],fun q=>H q≠none⟩ B H (L2.start N vs) (ds.map .fz++List.replicate k .no):=by
    refine ⟨sub,Same.refl _,fun _ _ z _=>z,fun _ _ z=>z,?_,fun i s hs=>?_,fun i j s t p h1 h2=>(own0 i s h1 (Sl.ref_of h2)).elim,fun i c p h1=>(own0 i _ h1 rfl).elim,(fun x hx=>by cases hx),fun i c h1=>(own0 i _ h1 rfl).elim,tB,(fun i h1=>(ex0 i h1).elim),fun q o u h z=>by rw [z] at h; cases h⟩
    . simp [L2.start,hl,hvl,hN]
    . by_cases hi:i < n
      . rw [List.getElem?_append_left (by simpa [hl] using hi),List.getElem?_map] at hs
        obtain ⟨c,h1,rfl⟩:=Option.map_eq_some_iff.mp hs
        obtain ⟨x,h2,h3⟩:=rp.get i c h1
        refine ⟨x,?_,h3⟩
        unfold L2.start
        rw [List.getElem?_append_left (by simpa [hvl] using hi),List.getElem?_map,h2]
        rfl
      . rw [List.getElem?_append_right (by simpa [hl] using Nat.le_of_not_lt hi)] at hs
        have:=List.eq_of_mem_replicate (List.mem_of_getElem? hs)
        subst this
        trivial
  refine hb _ B H _ _ c _ R e fun v B' H' σ' ρ' R' T=>?_
  exact q v B' H' ⟨fun q u z=>R'.sH q u z (fun x hx=>by cases hx),R'.sB,R'.sub,R'.nB,R'.tupB,R'.nz,T⟩
theorem spD_len {n k:Nat} {b:Rho->Option (D × D)} {vs:List V} {H:Hp} {Q:VK} {E:XK} (h:spD (fnD n k b) vs H Q E):vs.length=n:=by
  obtain ⟨B,ds,c,sub,tB,rp,e,q⟩:=h
  unfold fnD at e
  split at e
  . rename_i hl; exact rp.length.trans hl
  . cases e
end
end Mir
set_option Elab.async false
set_option linter.all false
set_option maxRecDepth 100000
namespace L2
open PySem PySem.Spec PyProof.Rows
section
variable {X:Cx} {pins:List (Addr × Obj)} {σ:St} {H:Hp} {s:Shared} {h':Heap}
theorem Inv.turnedL {t':Nat} {fp:List Addr} (I:Inv X pins σ H s) (k:∀ b o,b ∉ fp->s.heap.get? b=some o->h'.get? b=some o) (f:∀ b∈fp,FpOk X pins H b):Inv X pins σ H { s with heap:=h',toks:=t' }:=by
  have nit:∀ b u,H b=some u->b ∉ fp:=fun b u e z=>by rw [(f b z).1] at e; cases e
  have hL:X.env.locals ∉ fp:=fun z=>(f _ z).2.1 rfl
  refine I.step (g':=s.gens) (d':=s.drawn) (ch:=fp) (fun b hb=>?_) (fun b o _ _ hc e _=>k b o hc e) (fun b o _ _ hc e _=>⟨o.slots,k b o hc e⟩) (fun _ _ _ _ n=>n)
    (fun b o hc e=>⟨o,k b o hc e⟩) (fun _ _ e=>e) (fun _ _ _ e=>e) (fun b ps e=>⟨#[],by rw [e]; simp⟩) (fun m hm=>?_) (fun b u e=>?_) I.bare
  . obtain ⟨_,f1,_,f3,f4,f5⟩:=f b hb
    exact ⟨f3,f1,f4,f5⟩
  . obtain ⟨o,es,ep,ho,r⟩:=hm
    exact ⟨o,es,ep,k _ o hL ho,r⟩
  . refine (I.hok b u e).stay (fun c v hc q=>k c v ?_ q) (fun _ q=>q) fun _ _ q=>q
    rcases hc with z | z
    . rw [z]; exact nit b u e
    . exact nit c _ z
end
section
variable {X:Cx}
end
end L2
set_option Elab.async false
set_option linter.all false
set_option maxRecDepth 100000
namespace L2
open PySem PySem.Spec PyProof.Rows
section
variable {prog:Program} {w:World} {A:Around} {E:Value->Shared->Prop} {s:Shared}
def TupIt (l:Addr) (it:Addr) (items:Array Value) (n:Nat) (h:Heap):Prop:=h.IsTupleIter it l n∧h.IsTuple l items
theorem TupIt.keep {l it:Addr} {items:Array Value} (n:Nat) (h h':Heap) (x:TupIt l it items n h) (a:∀ o,h.get? it=some o->h'.get? it=some o) (b:∀ o,h.get? l=some o->h'.get? l=some o):TupIt l it items n h' :=
  ⟨x.1.at a,by obtain ⟨o,e,r⟩:=x.2; exact ⟨o,b _ e,r⟩⟩
end
end L2
set_option Elab.async false
set_option linter.all false
set_option maxRecDepth 100000
namespace L2
open PySem PySem.Spec PyProof.Rows
section
variable {prog:Program} {w:World} {A:Around} {E:Value->Shared->Prop} {s:Shared}
end
section
variable {X:Cx}
end
def compNs2 (x y:Str) (fr:List (Str × Nat)):List Str:=x::y::fr.map (·.1)
structure Blk2 (X:Cx) (scope:Scope) (x y:Str) (fr:List (Str × Nat)):Prop where
  b:Blk X scope x fr
  here2:scope.names.lookup y=some .local
  nd2:(compNs2 x y fr).Nodup
section
variable {X:Cx} {scope:Scope} {x y:Str} {fr:List (Str × Nat)} {pins:List (Addr × Obj)} {σ:St} {H:Hp} {s:Shared}
end
section
variable {X:Cx}
end
end L2
set_option Elab.async false
set_option linter.all false
set_option maxRecDepth 100000
namespace L2
open PySem PySem.Spec PyProof.Rows
abbrev XE:=St->Value->Hp->Prop
abbrev TX:=XE->TS
abbrev TEX:=XE->TE
def XP (X:Cx) (pins:List (Addr × Obj)) (E:XE) (ev:Value) (s':Shared):Prop :=
  ∃ (ea t:Addr) (cls:Value) (B:Heap) (H':Hp) (s1:Shared) (H1:Hp) (σ1:St),ev=.ref ea∧Inv X pins σ1 H1 s1∧Flown X.prog X.w X.stack H1 s1 (fun cls _ H'=>E σ1 cls H') ea t cls B H' s'
section
variable {X:Cx} {st:Stmt} {rest:List Stmt} {t:TX} {u:TX} {pos:Pos}
end
section
variable {X:Cx}
end
end L2
set_option Elab.async false
set_option linter.all false
set_option maxRecDepth 100000
namespace Mir
open PySem L2
section
variable [Zc]
abbrev XM:=Rho->Option ((RV × Rho) ⊕ (Str × Rho))
variable {cl:Str->Value}
def mOk (m:XM):PM:=fun ρ=>match m ρ with
  | some (.inl x)=>some x
  | _=>none
structure MEX (cl:Str->Value) (t:TEX) (m:XM):Prop where
  ok:∀ E,ME (t E) (mOk m)
  er:∀ (F:Fr) (B H:Hp) (σ:St) (ρ:Rho) (c:Str) (ρ':Rho) (Q:VK) (E:XE),Rel F B H σ ρ->m ρ=some (.inr (c,ρ'))->(∀ B' H',Rel F B' H' σ ρ'->E σ (cl c) H')->t E σ H Q
end
end Mir
set_option Elab.async false
set_option linter.all false
set_option maxRecDepth 100000
namespace Mir
open PySem L2
section
variable [Zc]
structure PostJ (B H:Hp) (p p2:Addr) (v:V) (B' H':Hp) (d:D) (o:Bool) (d1 d2:D):Prop where
  eH:∀ q u,q≠p->q≠p2->H q=some u->H' q=some u
  eB:Same B B'
  sub:Same B' H'
  nb:∀ q,H q≠none->B q=none->B' q=none
  tB:∀ q xs,H' q=some (.tup xs)->B' q=some (.tup xs)
  nz:∀ q o u,H' q=some (.frz o u)->H q≠none
  own:Own B' H' p d1
  own2:Own B' H' p2 d2
  val:if o=true then ∃ p,v=.ref p∧H p=none∧B' p=none∧Own B' H' p d else Rep B' v d
def spJ (f:List D->Option ((D × Bool) × D × D)):Sp:=fun vs H Q _=>∃ B p p2 us d0 e0 ds r d1 d2,vs=.ref p::.ref p2::us∧p≠p2∧Same B H∧(∀ q xs,H q=some (.tup xs)->B q=some (.tup xs))∧B p=none∧B p2=none∧Own B H p d0∧Own B H p2 e0∧Reps B us ds∧f (d0::e0::ds)=some (r,d1,d2)∧∀ v B' H',PostJ B H p p2 v B' H' r.1 r.2 d1 d2->Q v H'
def io2:Rho->Option (D × D)
  | .io d::.io e::_=>some (d,e)
  | _=>none
theorem io2_eq {ρ:Rho} {d:D × D} (h:io2 ρ=some d) : ρ[0]?=some (Sl.io d.1)∧ρ[1]?=some (Sl.io d.2):=by
  unfold io2 at h
  split at h
  . cases h; exact ⟨rfl,rfl⟩
  . cases h
def fnJ (n k:Nat) (b:SM):List D->Option ((D × Bool) × D × D)
  | d0::e0::ds=>if ds.length + 2=n then (b (.io d0::.io e0::ds.map .fz++List.replicate k .no)).bind fun o=>(retD o).bind fun r=>(io2 (outRho o)).map fun d=>(r,d) else none
  | _=>none
theorem fn_runJ {n k:Nat} {b:SM} {t:TS} {N:List Str} {vs:List V} {H:Hp} {Q:VK} {E:XK} (hb:MS t b) (hN:N.length=n + k) (h:spJ (fnJ n k b) vs H Q E):t { nx:=fun _ H'=>Q .non H',rt:=Q } (L2.start N vs) H:=by
  obtain ⟨B,p,p2,us,d0,e0,ds,r0,d1,d2,rfl,hpp,sub,tB,hB,hB2,ow,ow2,rp,e,q⟩:=h
  simp only [fnJ] at e
  split at e
  case isFalse=>cases e
  rename_i hl
  obtain ⟨w,e1,e2⟩:=Option.bind_eq_some_iff.mp e
  obtain ⟨r,e2,e3⟩:=Option.bind_eq_some_iff.mp e2
  obtain ⟨d,e3,e4⟩:=Option.map_eq_some_iff.mp e3
  cases e4
  have hvl:us.length + 2=n:=by rw [rp.length]; exact hl
  have own0:∀ (i:Nat) (s:Sl),(Sl.io d0::Sl.io e0::ds.map Sl.fz++List.replicate k .no)[i]?=some s->s.isRef=true->(i=0∧s=.io d0)∨(i=1∧s=.io e0):=fun i s h1 h2=>by
    cases i with
    | zero=>rw [List.cons_append,List.getElem?_cons_zero] at h1; cases h1; exact .inl ⟨rfl,rfl⟩
    | succ i =>
      cases i with
      | zero=>rw [List.cons_append,List.getElem?_cons_succ,List.cons_append,List.getElem?_cons_zero] at h1; cases h1; exact .inr ⟨rfl,rfl⟩
      | succ i =>
        rw [List.cons_append,List.getElem?_cons_succ,List.cons_append,List.getElem?_cons_succ] at h1
        have:=List.mem_of_getElem? h1
        rcases List.mem_append.mp this with h | h
        . obtain ⟨c,_,rfl⟩:=List.mem_map.mp h; cases h2
        . rw [List.eq_of_mem_replicate h] at h2; cases h2
  have ex0:∀ i:Nat,(Sl.io d0::Sl.io e0::ds.map Sl.fz++List.replicate k .no)[i]?=some Sl.ex->False:=fun i h1=>by
    cases i with
    | zero=>rw [List.cons_append,List.getElem?_cons_zero] at h1; cases h1
    | succ i =>
      cases i with
      | zero=>rw [List.cons_append,List.getElem?_cons_succ,List.cons_append,List.getElem?_cons_zero] at h1; cases h1
      | succ i =>
        rw [List.cons_append,List.getElem?_cons_succ,List.cons_append,List.getElem?_cons_succ] at h1
        have:=List.mem_of_getElem? h1
        rcases List.mem_append.mp this with h | h
        . obtain ⟨c,_,z⟩:=List.mem_map.mp h; cases z
        . have:=List.eq_of_mem_replicate h; cases this
  have st0:(L2.start N (.ref p::.ref p2::us))[0]?=some (some (.ref p)):=by
    unfold L2.start
    rw [List.map_cons,List.cons_append,List.getElem?_cons_zero]
  have st1:(L2.start N (.ref p::.ref p2::us))[1]?=some (some (.ref p2)):=by
    unfold L2.start
    rw [List.map_cons,List.cons_append,List.getElem?_cons_succ,List.map_cons,List.cons_append,List.getElem?_cons_zero]
  have R:Rel ⟨B,H,[(0,p),(1,p2)],fun q=>H q≠none⟩ B H (L2.start N (.ref p::.ref p2::us)) (.io d0::.io e0::ds.map .fz++List.replicate k .no):=by
    refine ⟨sub,Same.refl _,fun _ _ z _=>z,fun _ _ z=>z,?_,fun i s hs=>?_,fun i j s t p' h1 h2 h3 h4 h5 h6=>?_,(fun i c p h1=>by rcases own0 i _ h1 rfl with ⟨_,z⟩ | ⟨_,z⟩ <;> cases z),(fun x hx=>?_),(fun i c h1=>?_),tB,(fun i h1=>(ex0 i h1).elim),fun q o u h z=>by rw [z] at h; cases h⟩
    . simp [L2.start,hl,hvl,hN]; omega
    . cases i with
      | zero =>
        rw [List.cons_append,List.getElem?_cons_zero] at hs
        cases hs
        exact ⟨p,st0,hB,ow⟩
      | succ i =>
        cases i with
        | zero =>
          rw [List.cons_append,List.getElem?_cons_succ,List.cons_append,List.getElem?_cons_zero] at hs
          cases hs
          exact ⟨p2,st1,hB2,ow2⟩
        | succ i =>
          rw [List.cons_append,List.getElem?_cons_succ,List.cons_append,List.getElem?_cons_succ] at hs
          by_cases hi:i < ds.length
          . rw [List.getElem?_append_left (by simpa using hi),List.getElem?_map] at hs
            obtain ⟨c,h1,rfl⟩:=Option.map_eq_some_iff.mp hs
            obtain ⟨x,h2,h3⟩:=rp.get i c h1
            refine ⟨x,?_,h3⟩
            unfold L2.start
            rw [List.map_cons,List.cons_append,List.getElem?_cons_succ,List.map_cons,List.cons_append,List.getElem?_cons_succ,List.getElem?_append_left (by rw [List.length_map,rp.length]; exact hi),List.getElem?_map,h2]
            rfl
          . rw [List.getElem?_append_right (by simpa using Nat.le_of_not_lt hi)] at hs
            have:=List.eq_of_mem_replicate (List.mem_of_getElem? hs)
            subst this
            trivial
    . rcases own0 i s h1 (Sl.ref_of h2) with ⟨rfl,_⟩ | ⟨rfl,_⟩ <;> rcases own0 j t h3 h4 with ⟨rfl,_⟩ | ⟨rfl,_⟩
      . rfl
      . rw [st0] at h5; rw [st1] at h6; cases h5; cases h6; exact absurd rfl hpp
      . rw [st1] at h5; rw [st0] at h6; cases h5; cases h6; exact absurd rfl hpp
      . rfl
    . simp only [List.mem_cons,List.not_mem_nil,or_false] at hx
      rcases hx with rfl | rfl
      . exact ⟨st0,d0,rfl⟩
      . exact ⟨st1,e0,rfl⟩
    . rcases own0 i _ h1 rfl with ⟨rfl,_⟩ | ⟨rfl,_⟩
      . exact ⟨p,by simp⟩
      . exact ⟨p2,by simp⟩
  refine hb _ B H _ _ w _ R e1 ?_
  have post:∀ {B' H':Hp} {σ':St} {ρ':Rho},outRho w=ρ'->Rel ⟨B,H,[(0,p),(1,p2)],fun q=>H q≠none⟩ B' H' σ' ρ'->(∀ q u,q≠p->q≠p2->H q=some u->H' q=some u)∧Same B B'∧Same B' H'∧(∀ q,H q≠none->B q=none->B' q=none)∧(∀ q xs,H' q=some (.tup xs)->B' q=some (.tup xs))∧(∀ q o u,H' q=some (.frz o u)->H q≠none)∧Own B' H' p d1∧Own B' H' p2 d2:=fun {B' H' σ' ρ'} hw R'=>by
    rw [hw] at e3
    have h0:=io2_eq e3
    refine ⟨fun q u n n2 z=>R'.sH q u z (fun x hx=>?_),R'.sB,R'.sub,R'.nB,R'.tupB,R'.nz,?_,?_⟩
    . simp only [List.mem_cons,List.not_mem_nil,or_false] at hx
      rcases hx with rfl | rfl
      . exact fun z=>n z.symm
      . exact fun z=>n2 z.symm
    . obtain ⟨p',g1,g2,g3⟩:=R'.slot 0 _ h0.1
      obtain ⟨g4,_⟩:=R'.fx (0,p) (by simp)
      rw [g4] at g1
      cases g1
      exact g3
    . obtain ⟨p',g1,g2,g3⟩:=R'.slot 1 _ h0.2
      obtain ⟨g4,_⟩:=R'.fx (1,p2) (by simp)
      rw [g4] at g1
      cases g1
      exact g3
  cases w with
  | nx ρ' =>
    cases e2
    intro B' H' σ' R'
    obtain ⟨p1,p2,p3,p4,p5,p6,p7,p8⟩:=post rfl R'
    exact q _ B' H' ⟨p1,p2,p3,p4,p5,p6,p7,p8,.non⟩
  | bk ρ'=>cases e2
  | ct ρ'=>cases e2
  | rt r' ρ' =>
    intro v B' H' σ' R' V'
    obtain ⟨p1,p2,p3,p4,p5,p6,p7,p8⟩:=post rfl R'
    obtain ⟨c,kd⟩:=r'
    cases kd with
    | fz=>cases e2; exact q v B' H' ⟨p1,p2,p3,p4,p5,p6,p7,p8,V'⟩
    | new =>
      cases e2
      obtain ⟨p,rfl,h1,h2,h3,_⟩:=V'
      exact q _ B' H' ⟨p1,p2,p3,p4,p5,p6,p7,p8,⟨p,rfl,h2,h1,h3⟩⟩
    | ro=>cases e2
    | «at» i =>
      obtain ⟨s,h1,h2,h3,h4⟩:=V'
      have e2':(match ρ'[i]? with
        | some (.own d)=>some (d,true)
        | _=>none)=some r0:=e2
      rw [h1] at e2'
      cases s with
      | own c' =>
        cases e2'
        obtain ⟨p,g1,g2,g3⟩:=R'.slot i _ h1
        have h4' : σ'[i]?=some (some v):=h4
        rw [h4'] at g1
        cases g1
        exact q _ B' H' ⟨p1,p2,p3,p4,p5,p6,p7,p8,⟨p,rfl,R'.ownN i _ p h1 h4',g2,g3⟩⟩
      | _=>cases e2'
theorem spJ_len {n k:Nat} {b:SM} {vs:List V} {H:Hp} {Q:VK} {E:XK} (h:spJ (fnJ n k b) vs H Q E):vs.length=n:=by
  obtain ⟨B,p,p2,us,d0,e0,ds,r0,d1,d2,rfl,hpp,sub,tB,hB,hB2,ow,ow2,rp,e,q⟩:=h
  simp only [fnJ] at e
  split at e
  . rename_i hl; rw [List.length_cons,List.length_cons,rp.length]; exact hl
  . cases e
def mCallJ (i j:Nat) (f:List D->Option ((D × Bool) × D × D)) (m:Rho->Option (List RV × Rho)):PM:=fun ρ=>if i=j then none else (ownAt ρ i).bind fun _=>(ownAt ρ j).bind fun _=>(m ρ).bind fun x=>(fzAll x.1 x.2).bind fun y=>(ownAt y.2 i).bind fun s=>(ownAt y.2 j).bind fun s2=>(f (slD s::slD s2::y.1)).map fun w=>(kO w.1.1 w.1.2,(y.2.set i (s.put w.2.1)).set j (s2.put w.2.2))
theorem me_callJ {f:List D->Option ((D × Bool) × D × D)} {E:XK} {i j:Nat} {t:TA} {m:Rho->Option (List RV × Rho)} (h:MA t m):ME (tCall (spJ f) [] E (tCons (tVar i) (tCons (tVar j) t))) (mCallJ i j f m):=by
  intro F B H σ ρ r0 ρ' Q R e q
  unfold mCallJ at e
  split at e
  case isTrue=>cases e
  rename_i hij
  obtain ⟨s0,e0,e⟩:=Option.bind_eq_some_iff.mp e
  obtain ⟨t0,e0',e⟩:=Option.bind_eq_some_iff.mp e
  obtain ⟨x,e1,e⟩:=Option.bind_eq_some_iff.mp e
  obtain ⟨y,e2,e⟩:=Option.bind_eq_some_iff.mp e
  obtain ⟨s,e4,e⟩:=Option.bind_eq_some_iff.mp e
  obtain ⟨s2,e5,e⟩:=Option.bind_eq_some_iff.mp e
  obtain ⟨w,e3,e⟩:=Option.map_eq_some_iff.mp e
  cases e
  obtain ⟨hs0,ho0⟩:=ownAt_eq e0
  obtain ⟨ht0,hp0⟩:=ownAt_eq e0'
  obtain ⟨hs,ho⟩:=ownAt_eq e4
  obtain ⟨hs2,ho2⟩:=ownAt_eq e5
  obtain ⟨p,hv,_,_⟩:=R.ownAt hs0 ho0
  obtain ⟨p2,hv2,_,_⟩:=R.ownAt ht0 hp0
  have hpp:p≠p2:=fun z=>hij (R.dist i j s0 t0 p hs0 ho0 ht0 (Sl.ref_of hp0) hv (z ▸ hv2))
  refine ⟨_,hv,_,hv2,?_⟩
  refine h F B H σ ρ x.1 x.2 _ R e1 fun vs B1 H1 E1 R1 V1=>?_
  show spJ f (V.ref p::V.ref p2::vs++[]) H1 Q E
  rw [List.append_nil]
  obtain ⟨B2,R2,rp,E2⟩:=Rel.frzL R1 V1.weak e2
  obtain ⟨p',hv',hB,ow⟩:=R2.ownAt hs ho
  rw [hv] at hv'
  cases hv'
  obtain ⟨p2',hv2',hB2,ow2⟩:=R2.ownAt hs2 ho2
  rw [hv2] at hv2'
  cases hv2'
  obtain ⟨oo,hoo⟩:=ow.there
  obtain ⟨oo2,hoo2⟩:=ow2.there
  obtain ⟨r,d1,d2⟩:=w
  refine ⟨B2,p,p2,vs,slD s,slD s2,y.1,r,d1,d2,rfl,hpp,R2.sub,R2.tupB,hB,hB2,ow,ow2,rp,e3,fun v B' H' P=>?_⟩
  obtain ⟨o1,ho1⟩:=P.own.there
  obtain ⟨o2,ho2'⟩:=P.own2.there
  have hB':B' p=none:=P.nb p (by rw [hoo]; simp) hB
  have hB2':B' p2=none:=P.nb p2 (by rw [hoo2]; simp) hB2
  let G:Hp:=upd (upd H' p oo) p2 oo2
  have Gp:G p=some oo:=by show upd (upd H' p oo) p2 oo2 p=_; rw [upd_ne hpp]; exact upd_same
  have Gp2:G p2=some oo2:=upd_same
  have Go:∀ c,c≠p->c≠p2->G c=H' c:=fun c z z2=>by show upd (upd H' p oo) p2 oo2 c=_; rw [upd_ne z2,upd_ne z]
  have eH:Same H1 G:=fun c u hc=>by
    by_cases z:c=p
    . subst z; rw [hoo] at hc; cases hc; exact Gp
    . by_cases z2:c=p2
      . subst z2; rw [hoo2] at hc; cases hc; exact Gp2
      . rw [Go c z z2]; exact P.eH c u z z2 hc
  have sub:Same B' G:=fun c u hc=>by
    rw [Go c (fun z=>by rw [z,hB'] at hc; cases hc) (fun z=>by rw [z,hB2'] at hc; cases hc)]; exact P.sub c u hc
  have tB:∀ c xs,G c=some (.tup xs)->B' c=some (.tup xs):=fun c xs hc=>by
    by_cases z:c=p
    . subst z; rw [Gp] at hc; cases hc; exact absurd hoo (ow.notup xs)
    . by_cases z2:c=p2
      . subst z2; rw [Gp2] at hc; cases hc; exact absurd hoo2 (ow2.notup xs)
      . rw [Go c z z2] at hc; exact P.tB c xs hc
  have nz:∀ c a u,G c=some (.frz a u)->H1 c≠none:=fun c a u hc=>by
    by_cases z:c=p
    . subst z; rw [hoo]; simp
    . by_cases z2:c=p2
      . subst z2; rw [hoo2]; simp
      . rw [Go c z z2] at hc; exact P.nz c a u hc
  have R3:=R2.grow P.eB eH sub P.nb tB nz
  have E3:Ext σ y.2 B2 H1 y.2 B' G:=Ext.grow P.eB eH P.nb
  have G1p:upd G p o1 p=some o1:=upd_same
  obtain ⟨R4,E4⟩:=R3.write (o:=o1) (d:=d1) hs ho hv ⟨(fun xs z=>by rw [z] at ho1; exact P.own.notup xs ho1),fun a u z=>by rw [z] at ho1; exact P.own.notfrz a u ho1⟩ (P.own.mono (Same.refl _) fun u hu=>by rw [ho1] at hu; cases hu; exact upd_same)
  have hs2':(y.2.set i (s.put d1))[j]?=some s2:=by rw [List.getElem?_set_ne hij]; exact hs2
  have back:upd (upd G p o1) p2 o2=H':=by
    funext c
    by_cases z2:c=p2
    . subst z2; rw [upd_same,ho2']
    . rw [upd_ne z2]
      by_cases z:c=p
      . subst z; rw [upd_same,ho1]
      . rw [upd_ne z,Go c z z2]
  obtain ⟨R5,E5⟩:=R4.write (o:=o2) (d:=d2) hs2' ho2 hv2 ⟨(fun xs z=>by rw [z] at ho2'; exact P.own2.notup xs ho2'),fun a u z=>by rw [z] at ho2'; exact P.own2.notfrz a u ho2'⟩ (P.own2.mono (Same.refl _) fun u hu=>by rw [ho2'] at hu; cases hu; exact upd_same)
  rw [back] at R5 E5
  have EE:=E1.trans (E2.trans (E3.trans (E4.trans E5)))
  obtain ⟨d,o⟩:=r
  cases o with
  | false =>
    have pv:Rep B' v d:=P.val
    exact q v B' H' EE R5 pv fun p z=>by cases z
  | true =>
    obtain ⟨p3,rfl,h1,h2,h3⟩:∃ p,v=.ref p∧H1 p=none∧B' p=none∧Own B' H' p d:=P.val
    have fr:=R2.free h1
    refine q _ B' H' EE R5 ⟨p3,rfl,h2,fr.2.1,h3,fun j' t h4 h5 h6=>?_⟩ fun p' _ z=>by cases z; exact E1.live p3 h1
    rcases get_set h4 with ⟨rfl,_,_⟩ | ⟨_,h4⟩
    . rw [hv2] at h6
      cases h6
      rw [h1] at hoo2; cases hoo2
    . rcases get_set h4 with ⟨rfl,_,_⟩ | ⟨_,h4⟩
      . rw [hv] at h6
        cases h6
        rw [h1] at hoo; cases hoo
      . exact fr.2.2 j' t h4 h5 h6
end
end Mir
set_option Elab.async false
set_option linter.all false
set_option maxRecDepth 100000
namespace L2
open PySem PySem.Spec PyProof.Rows
end L2
namespace Mir
open PySem L2
section
variable [Zc]
end
end Mir
set_option Elab.async false
set_option linter.all false
set_option maxRecDepth 100000
namespace Mir
open PySem L2
section
variable [Zc]
end
end Mir
set_option Elab.async false
set_option linter.all false
set_option maxRecDepth 100000
namespace Mir
open PySem L2
section
variable [Zc]
def Ag (N:List Nat) (σ σ':St):Prop:=σ'.length=σ.length∧∀ n,n ∉ N->σ'[n]?=σ[n]?
theorem Ag.refl (N:List Nat) (σ:St):Ag N σ σ:=⟨rfl,fun _ _=>rfl⟩
theorem Ag.trans {N:List Nat} {σ σ1 σ2:St} (a:Ag N σ σ1) (b:Ag N σ1 σ2):Ag N σ σ2:=⟨b.1.trans a.1,fun n h=>(b.2 n h).trans (a.2 n h)⟩
theorem Ag.set {N:List Nat} {σ:St} {i:Nat} (h:i∈N) (v:Option V):Ag N σ (σ.set i v):=⟨List.length_set,fun n hn=>List.getElem?_set_ne (fun e:i=n=>hn (by rw [← e]; exact h))⟩
def OutOkK (N:List Nat) (σ0:St) (F:Fr) (D:Ends):Out->Prop
  | .nx ρ=>∀ B H σ,Rel F B H σ ρ->Ag N σ0 σ->D.nx σ H
  | .rt r ρ=>∀ v B H σ,Rel F B H σ ρ->Val F B H σ ρ v r->D.rt v H
  | .bk ρ=>∀ B H σ,Rel F B H σ ρ->Ag N σ0 σ->D.bk σ H
  | .ct ρ=>∀ B H σ,Rel F B H σ ρ->Ag N σ0 σ->D.ct σ H
theorem OutOkK.step {N:List Nat} {σ σ1:St} {F:Fr} {D:Ends} {o:Out} (h:OutOkK N σ F D o) (a:Ag N σ σ1):OutOkK N σ1 F D o:=by
  cases o with
  | nx ρ=>exact fun B H σ' R b=>h B H σ' R (a.trans b)
  | bk ρ=>exact fun B H σ' R b=>h B H σ' R (a.trans b)
  | ct ρ=>exact fun B H σ' R b=>h B H σ' R (a.trans b)
  | rt r ρ=>exact h
theorem OutOkK.down {N:List Nat} {σ:St} {F:Fr} {B1 H1:Hp} {σ1:St} {ρ1:Rho} (R1:Rel F B1 H1 σ1 ρ1) {D:Ends} {o:Out} (h:OutOkK N σ F D o):OutOkK N σ ⟨B1,F.H,F.io,F.Z⟩ D o:=by
  cases o with
  | nx ρ=>exact fun B H σ R a=>h B H σ (R1.up R) a
  | bk ρ=>exact fun B H σ R a=>h B H σ (R1.up R) a
  | ct ρ=>exact fun B H σ R a=>h B H σ (R1.up R) a
  | rt r ρ=>exact fun v B H σ R V=>h v B H σ (R1.up R) V
variable {N:List Nat}
theorem Rel.poke {F:Fr} {B H:Hp} {σ:St} {ρ:Rho} {p:Addr} {xs:List V} (R:Rel F B H σ ρ) (hB:B p=none) (hF:F.H p=none) (hH:H p=some (.lst xs)) (hn:∀ (n:Nat) (s:Sl),ρ[n]?=some s->s.isRef=true->σ[n]?≠some (some (.ref p))) (ys:List V):Rel F B (upd H p (.lst ys)) σ ρ:=by
  refine ⟨fun q o h=>?_,R.sB,fun q o h hx=>?_,R.nB,R.len,fun n s hs=>?_,R.dist,R.ownN,R.fx,R.ioN,fun q zs h=>?_,R.exv,fun q o u h=>?_⟩
  . rw [upd_ne (fun z=>by rw [z,hB] at h; cases h)]; exact R.sub q o h
  . rw [upd_ne (fun z=>by rw [z,hF] at h; cases h)]; exact R.sH q o h hx
  . have ok:=R.slot n s hs
    have ne:s.isRef=true->∀ q,σ[n]?=some (some (.ref q))->∀ o,H q=some o->upd H p (.lst ys) q=some o:=fun hr q hq o ho=>by
      rw [upd_ne (fun z=>hn n s hs hr (by rw [hq,z]))]; exact ho
    cases s with
    | no=>trivial
    | ex=>trivial
    | fz d=>exact ok
    | own d=>obtain ⟨q,h1,h2,h3⟩:=ok; exact ⟨q,h1,h2,h3.mono (Same.refl _) (ne rfl q h1)⟩
    | io d=>obtain ⟨q,h1,h2,h3⟩:=ok; exact ⟨q,h1,h2,h3.mono (Same.refl _) (ne rfl q h1)⟩
    | ro d=>obtain ⟨q,h1,h3⟩:=ok; exact ⟨q,h1,h3.mono (Same.refl _) (ne rfl q h1)⟩
  . by_cases z:q=p
    . subst z; rw [upd_same] at h; cases h
    . rw [upd_ne z] at h; exact R.tupB q zs h
  . by_cases z:q=p
    . subst z; rw [upd_same] at h; cases h
    . rw [upd_ne z] at h; exact R.nz q o u h
structure Dead (F:Fr) (B H:Hp) (σ:St) (ρ:Rho) (i:Nat) (ps:List Addr) (b:Nat):Prop where
  here:∃ a,σ[i]?=some (some (.ref a))∧H a=some (.tup (ps.map .ref))
  lst:∀ p∈ps,∃ xs,H p=some (.lst xs)∧xs.length≤b
  out:∀ p∈ps,B p=none∧F.H p=none
  free:∀ p∈ps,∀ (n:Nat) (s:Sl),ρ[n]?=some s->s.isRef=true->σ[n]?≠some (some (.ref p))
theorem Dead.poke {F:Fr} {B H:Hp} {σ:St} {ρ:Rho} {i:Nat} {ps:List Addr} {p:Addr} {b:Nat} (d:Dead F B H σ ρ i ps b) (hp:p∈ps) (ys:List V) (b2:Nat) (hb:b≤b2) (hy:ys.length≤b2):Dead F B (upd H p (.lst ys)) σ ρ i ps b2:=by
  obtain ⟨xs,hx,_⟩:=d.lst p hp
  refine ⟨?_,fun q hq=>?_,d.out,d.free⟩
  . obtain ⟨a,h1,h2⟩:=d.here
    exact ⟨a,h1,by rw [upd_ne (fun z=>by rw [z,hx] at h2; cases h2)]; exact h2⟩
  . by_cases z:q=p
    . subst z; exact ⟨ys,upd_same,hy⟩
    . rw [upd_ne z]; obtain ⟨zs,h1,h2⟩:=d.lst q hq; exact ⟨zs,h1,Nat.le_trans h2 hb⟩
structure Sv (N:List Nat) (i:Nat) (F:Fr) (Bs:Hp) (σs:St) (ρs:Rho) (ps:List Addr) (b:Nat) (B:Hp) (σ:St):Prop where
  slot:∀ (n:Nat) (d:D),n≠i->ρs[n]?=some (.fz d)->∃ v,σs[n]?=some (some v)∧Rep Bs v d
  sBs:Same F.B Bs
  nBs:∀ q,F.H q≠none->F.B q=none->Bs q=none
  sB:Same Bs B
  ag:Ag N σs σ
  ni:i ∉ N
  here:∃ a,σs[i]?=some (some (.ref a))∧B a=some (.tup (ps.map .ref))
  out:∀ p∈ps,Bs p=none∧F.H p=none
  lst:∀ p∈ps,∃ xs,B p=some (.lst xs)∧xs.length≤b
  len : ρs.length=σs.length
  io:F.io=[]
theorem Sv.go {N:List Nat} {i:Nat} {F:Fr} {Bs B B':Hp} {σs σ σ':St} {ρs:Rho} {ps:List Addr} {b:Nat} (s:Sv N i F Bs σs ρs ps b B σ) (e:Same B B') (a:Ag N σ σ'):Sv N i F Bs σs ρs ps b B' σ':=by
  refine ⟨s.slot,s.sBs,s.nBs,s.sB.trans e,s.ag.trans a,s.ni,?_,s.out,fun p hp=>?_,s.len,s.io⟩
  . obtain ⟨c,h1,h2⟩:=s.here; exact ⟨c,h1,e _ _ h2⟩
  . obtain ⟨xs,h1,h2⟩:=s.lst p hp; exact ⟨xs,e _ _ h1,h2⟩
end
end Mir
set_option Elab.async false
set_option linter.all false
set_option maxRecDepth 100000
namespace Mir
open PySem L2
def notSeq:D->Bool
  | .list _=>false
  | .tuple _=>false
  | _=>true
mutual
inductive Nw (G B:Hp):V->D->Prop
  | lst {p:Addr} {xs:List V} {ds:List D}:G p=none->B p=some (.lst xs)->xs.length=ds.length->Nw G B (.ref p) (.list ds)
  | tup {a:Addr} {xs:List V} {ds:List D}:B a=some (.tup xs)->Nws G B xs ds->Nw G B (.ref a) (.tuple ds)
  | oth {v:V} {d:D}:notSeq d=true->Nw G B v d
inductive Nws (G B:Hp):List V->List D->Prop
  | nil:Nws G B [] []
  | cons {v:V} {vs:List V} {d:D} {ds:List D}:Nw G B v d->Nws G B vs ds->Nws G B (v::vs) (d::ds)
end
mutual
theorem Nw.mono {G B B':Hp} (e:Same B B'):∀ {v:V} {d:D},Nw G B v d->Nw G B' v d
  | _,_,.lst a b c=>.lst a (e _ _ b) c
  | _,_,.tup a b=>.tup (e _ _ a) (Nws.mono e b)
  | _,_,.oth a=>.oth a
theorem Nws.mono {G B B':Hp} (e:Same B B'):∀ {v:List V} {d:List D},Nws G B v d->Nws G B' v d
  | _,_,.nil=>.nil
  | _,_,.cons a b=>.cons (Nw.mono e a) (Nws.mono e b)
end
mutual
theorem Nw.pure {G B:Hp}:∀ {v:V} {d:D},Rep B v d->pureD d=true->Nw G B v d
  | _,_,.non,_=>.oth rfl
  | _,_,.bl b,_=>.oth rfl
  | _,_,.int i,_=>.oth rfl
  | _,_,.str x,_=>.oth rfl
  | _,_,.lst _ _,h=>by simp [pureD] at h
  | _,_,.dct _ _,h=>by simp [pureD] at h
  | _,_,.tup h r,e=>.tup h (Nws.pure r (by simpa [pureD] using e))
theorem Nws.pure {G B:Hp}:∀ {v:List V} {d:List D},Reps B v d->pureDs d=true->Nws G B v d
  | _,_,.nil,_=>.nil
  | _,_,.cons a b,e=>by
    simp only [pureDs,Bool.and_eq_true] at e
    exact .cons (Nw.pure a e.1) (Nws.pure b e.2)
end
theorem Nw.own {G B0 B H:Hp} {p:Addr} {d:D} (hG:G p=none) (o:Own B0 H p d) (r:Rep B (.ref p) d) (s:Same B H):Nw G B (.ref p) d:=by
  cases o with
  | dct h _=>exact .oth rfl
  | lst h _ =>
    cases r with
    | lst hr rr =>
      rcases hr with e | ⟨u,e⟩
      . exact .lst hG e rr.length
      . have:=s _ _ e
        rw [h] at this
        cases this
section
variable [Zc]
def MEW (t:TE) (m:PM):Prop:=∀ (F:Fr) (B H:Hp) (σ:St) (ρ:Rho) (r:RV) (ρ':Rho) (Q:VK),Rel F B H σ ρ->m ρ=some (r,ρ') ->
    (∀ v B' H',Ext σ ρ B H ρ' B' H'->Rel F B' H' σ ρ'->Val F B' H' σ ρ' v r->(∀ p,r.2=.new->v=.ref p->H p=none)->(r.2=.fz->Nw F.H B' v r.1)->Q v H')->t σ H Q
theorem MEW.sv {t:TE} {m:PM} (h:MEW t m):MEW t (sv m):=by
  intro F B H σ ρ r ρ' Q R e q
  unfold Mir.sv at e
  split at e
  . rename_i d ρ1 e1
    cases e
    refine h F B H σ ρ _ _ Q R e1 fun v B' H' E R' V' N W=>?_
    obtain ⟨B2,R2,rp,s2,k2⟩:=R'.freezeNew V'
    obtain ⟨p,rfl,hB,hF,o,nn⟩:=V'
    refine q _ B2 H' ⟨E.sB.trans s2,fun q o h1 h2=>?_,E.own,E.ref,E.live⟩ R2 rp (fun _ z=>by cases z) (fun _=>Nw.own hF o rp R2.sub)
    obtain ⟨h3,h4⟩:=E.keep q o h1 h2
    refine ⟨h3,fun z=>?_⟩
    by_cases y:q=p
    . subst y
      exact absurd (N q rfl rfl) (by rw [h1]; simp)
    . rw [k2 q (fun z=>y (by cases z; rfl))]; exact h4 z
  . rename_i hx
    exact h F B H σ ρ r ρ' Q R e q
def NwL (G B:Hp):List V->List RV->Prop
  | [],[]=>True
  | v::vs,r::rs=>(r.2=.fz->Nw G B v r.1)∧NwL G B vs rs
  | _,_=>False
theorem NwL.mono {G B B':Hp} (e:Same B B'):∀ {vs:List V} {rs:List RV},NwL G B vs rs->NwL G B' vs rs
  | [],[],_=>trivial
  | _::_,_::_,⟨a,b⟩=>⟨fun z=>(a z).mono e,NwL.mono e b⟩
  | [],_::_,h=>h.elim
  | _::_,[],h=>h.elim
def nr (m:SM):SM:=fun ρ=>(m ρ).bind fun o=>match o with
  | .rt _ _=>none
  | o=>some o
end
end Mir
set_option Elab.async false
set_option linter.all false
set_option maxRecDepth 100000
namespace Mir
open PySem L2
mutual
inductive NwB (G Bs B:Hp) (b:Nat):V->D->Prop
  | lst {p:Addr} {xs:List V} {ds:List D}:G p=none->Bs p=none->B p=some (.lst xs)->xs.length≤b->NwB G Bs B b (.ref p) (.list ds)
  | tup {a:Addr} {xs:List V} {ds:List D}:B a=some (.tup xs)->NwBs G Bs B b xs ds->NwB G Bs B b (.ref a) (.tuple ds)
  | oth {v:V} {d:D}:notSeq d=true->NwB G Bs B b v d
inductive NwBs (G Bs B:Hp) (b:Nat):List V->List D->Prop
  | nil:NwBs G Bs B b [] []
  | cons {v:V} {vs:List V} {d:D} {ds:List D}:NwB G Bs B b v d->NwBs G Bs B b vs ds->NwBs G Bs B b (v::vs) (d::ds)
end
mutual
theorem NwB.mono {G Bs B B':Hp} {b:Nat} (e:Same B B'):∀ {v:V} {d:D},NwB G Bs B b v d->NwB G Bs B' b v d
  | _,_,.lst a b c d=>.lst a b (e _ _ c) d
  | _,_,.tup a b=>.tup (e _ _ a) (NwBs.mono e b)
  | _,_,.oth a=>.oth a
theorem NwBs.mono {G Bs B B':Hp} {b:Nat} (e:Same B B'):∀ {v:List V} {d:List D},NwBs G Bs B b v d->NwBs G Bs B' b v d
  | _,_,.nil=>.nil
  | _,_,.cons a b=>.cons (NwB.mono e a) (NwBs.mono e b)
end
mutual
def shortT:D->Bool
  | .list ds=>decide (ds.length≤90000)
  | .tuple ds=>shortTs ds
  | .none=>true
  | .bool _=>true
  | .int _=>true
  | .str _=>true
  | .dict _=>true
def shortTs:List D->Bool
  | []=>true
  | d::ds=>shortT d && shortTs ds
end
mutual
theorem NwB.of {G G' Bs B:Hp} (k:∀ p,G p=none->G' p=none∧Bs p=none):∀ {v:V} {d:D},Nw G B v d->shortT d=true->NwB G' Bs B 90000 v d
  | _,_,.lst a b c,h=>.lst (k _ a).1 (k _ a).2 b (by rw [c]; simpa [shortT] using h)
  | _,_,.tup a b,h=>.tup a (NwBs.of k b (by simpa [shortT] using h))
  | _,_,.oth a,_=>.oth a
theorem NwBs.of {G G' Bs B:Hp} (k:∀ p,G p=none->G' p=none∧Bs p=none):∀ {v:List V} {d:List D},Nws G B v d->shortTs d=true->NwBs G' Bs B 90000 v d
  | _,_,.nil,_=>.nil
  | _,_,.cons a b,h=>by
    simp only [shortTs,Bool.and_eq_true] at h
    exact .cons (NwB.of k a h.1) (NwBs.of k b h.2)
end
mutual
inductive Dd (G B H:Hp) (b:Nat):V->D->Prop
  | lst {p:Addr} {xs:List V} {ds:List D}:G p=none->B p=none->H p=some (.lst xs)->xs.length≤b->Dd G B H b (.ref p) (.list ds)
  | tup {a:Addr} {xs:List V} {ds:List D}:H a=some (.tup xs)->Dds G B H b xs ds->Dd G B H b (.ref a) (.tuple ds)
  | oth {v:V} {d:D}:notSeq d=true->Dd G B H b v d
inductive Dds (G B H:Hp) (b:Nat):List V->List D->Prop
  | nil:Dds G B H b [] []
  | cons {v:V} {vs:List V} {d:D} {ds:List D}:Dd G B H b v d->Dds G B H b vs ds->Dds G B H b (v::vs) (d::ds)
end
mutual
theorem Dd.of {G Bs B B5 H:Hp} {b:Nat} (s:Same B H) (k:∀ p xs,B p=some (.lst xs)->Bs p=none->B5 p=none):∀ {v:V} {d:D},NwB G Bs B b v d->Dd G B5 H b v d
  | _,_,.lst a b c d=>.lst a (k _ _ c b) (s _ _ c) d
  | _,_,.tup a b=>.tup (s _ _ a) (Dds.of s k b)
  | _,_,.oth a=>.oth a
theorem Dds.of {G Bs B B5 H:Hp} {b:Nat} (s:Same B H) (k:∀ p xs,B p=some (.lst xs)->Bs p=none->B5 p=none):∀ {v:List V} {d:List D},NwBs G Bs B b v d->Dds G B5 H b v d
  | _,_,.nil=>.nil
  | _,_,.cons a b=>.cons (Dd.of s k a) (Dds.of s k b)
end
mutual
theorem Dd.poke {G B H:Hp} {b b2:Nat} {p:Addr} {ys:List V} (hp:∃ xs,H p=some (.lst xs)) (hb:b≤b2) (hy:ys.length≤b2):∀ {v:V} {d:D},Dd G B H b v d->Dd G B (upd H p (.lst ys)) b2 v d
  | _,_,.lst (p:=q) h1 h2 h3 h4=>by
    by_cases z:q=p
    . subst z; exact .lst h1 h2 upd_same hy
    . exact .lst h1 h2 (by rw [upd_ne z]; exact h3) (Nat.le_trans h4 hb)
  | _,_,.tup (a:=q) h1 h2=>by
    refine .tup ?_ (Dds.poke hp hb hy h2)
    rw [upd_ne (fun z=>by obtain ⟨xs,hx⟩:=hp; rw [z,hx] at h1; cases h1)]; exact h1
  | _,_,.oth a=>.oth a
theorem Dds.poke {G B H:Hp} {b b2:Nat} {p:Addr} {ys:List V} (hp:∃ xs,H p=some (.lst xs)) (hb:b≤b2) (hy:ys.length≤b2):∀ {v:List V} {d:List D},Dds G B H b v d->Dds G B (upd H p (.lst ys)) b2 v d
  | _,_,.nil=>.nil
  | _,_,.cons a c=>.cons (Dd.poke hp hb hy a) (Dds.poke hp hb hy c)
end
theorem Dds.get {G B H:Hp} {b:Nat}:∀ {vs:List V} {ds:List D} (j:Nat) {d:D},Dds G B H b vs ds->ds[j]?=some d->∃ v,vs[j]?=some v∧Dd G B H b v d
  | _,_,_,_,.nil,e=>by simp at e
  | _,_,0,_,.cons a _,e=>by simp at e; subst e; exact ⟨_,rfl,a⟩
  | _,_,j + 1,_,.cons _ c,e=>by
    obtain ⟨v,h1,h2⟩:=Dds.get j c (by simpa using e)
    exact ⟨v,by simpa using h1,h2⟩
section
variable [Zc]
structure Sg (N:List Nat) (i:Nat) (F:Fr) (Bs:Hp) (σs:St) (ρs:Rho) (v:V) (d:D) (b:Nat) (B:Hp) (σ:St):Prop where
  slot:∀ (n:Nat) (d:D),n≠i->ρs[n]?=some (.fz d)->∃ v,σs[n]?=some (some v)∧Rep Bs v d
  sBs:Same F.B Bs
  nBs:∀ q,F.H q≠none->F.B q=none->Bs q=none
  sB:Same Bs B
  ag:Ag N σs σ
  ni:i ∉ N
  here : σs[i]?=some (some v)
  nw:NwB F.H Bs B b v d
  len : ρs.length=σs.length
  io:F.io=[]
theorem Sg.go {N:List Nat} {i:Nat} {F:Fr} {Bs B B':Hp} {σs σ σ':St} {ρs:Rho} {v:V} {d:D} {b:Nat} (s:Sg N i F Bs σs ρs v d b B σ) (e:Same B B') (a:Ag N σ σ'):Sg N i F Bs σs ρs v d b B' σ' :=
  ⟨s.slot,s.sBs,s.nBs,s.sB.trans e,s.ag.trans a,s.ni,s.here,s.nw.mono e,s.len,s.io⟩
variable {N:List Nat}
end
end Mir
namespace L2
open PySem PySem.Spec PyProof.Rows
end L2
set_option Elab.async false
set_option linter.all false
set_option maxRecDepth 100000
namespace L2
open PySem PySem.Spec PyProof.Rows
def Ite (K:PySem.W.Frag) (a:Addr):It :=
  ⟨fun i H=>∃ xs x,SqL K H a xs∧xs[i]?=some x,
   fun i H v H'=>∃ p x,v=.ref p∧H p=none∧H'=upd H p (.tup [.int i,x])∧∀ xs,SqL K H a xs->xs[i]?=some x,
   fun i H=>∃ xs,SqL K H a xs∧xs.length≤i⟩
theorem turn_enum {P:Program} {w:World} {K:PySem.W.Frag} {elts:List Expr} {cx} {pos:Pos} {e it l:Addr} (hei:e≠it) :
    Turn P w K (.Tuple elts cx pos) (Ite K l) [e,it] e (fun i h=>(∃ old,IsEnum h e it ((i:Nat):Int) old)∧h.IsListIter it l i) where
  mem:=by simp
  obj:=fun i h st b hb=>by
    obtain ⟨⟨old,he⟩,⟨o1,g1,c1,d1⟩⟩:=st
    simp only [List.mem_cons,List.not_mem_nil,or_false] at hb
    rcases hb with rfl | rfl
    . exact ⟨_,he,fun v e=>by cases e⟩
    . exact ⟨_,g1,fun v e=>by rw [d1] at e; cases e⟩
  keep:=fun i h h' st k=>by
    obtain ⟨⟨old,he⟩,h1⟩:=st
    exact ⟨⟨old,k e (by simp) _ he⟩,h1.at fun o x=>k it (by simp) o x⟩
  item:=by
    intro X hP hw hK hc i pins s σ H E I hf st hg
    subst hP hw hK
    obtain ⟨⟨old,he⟩,h1⟩:=st
    obtain ⟨xs,x,q1,hx⟩:=hg
    obtain ⟨us,r1,p1,_⟩:=I.list q1
    obtain ⟨u,hu,ru⟩:=r1.get hx
    have lt:∀ b∈[e,it],b < s.heap.objs.size:=fun b hb=>by
      obtain ⟨o1,g1,_,_⟩:=id h1
      simp only [List.mem_cons,List.not_mem_nil,or_false] at hb
      rcases hb with rfl | rfl
      . exact Heap.lt_size he
      . exact Heap.lt_size g1
    refine wpAny_pyNext_enum_item he h1 p1.isList (x:=u) (by simpa using hu) hei fun h' heo h1' hT hsz hk=>?_
    refine ⟨_,rfl,wpAny_letOwnedTupleGo_enum (s:={ s with heap:=h',toks:=s.toks + 1 }) heo fun h3 he3 sb=>?_⟩
    have hfr:H s.heap.objs.size=none:=I.hok.fresh (Nat.le_refl _)
    have up:∀ b o,b≠e->h'.get? b=some o->h3.get? b=some o:=fun b o hb x=>(sb.2 b hb).trans x
    have IA:Inv X pins σ (upd H s.heap.objs.size (.tup [.int i,x])) { s with heap:=s.heap.push { cls:=.type "tuple",data:=.seq #[.int i s.toks,u] },toks:=s.toks + 1 } :=
      I.laid (fun b o e=>Heap.get?_push_of_some _ e) (Nat.le_refl _) (ObjOk.newTup (its:=[.int i s.toks,u]) (by simp only [List.length_cons,List.length_nil,sizeLine]; omega) (.cons ⟨_,rfl⟩ (.cons ru .nil)))
    have IB:Inv X pins σ (upd H s.heap.objs.size (.tup [.int i,x])) { s with heap:=h3,toks:=s.toks + 1 }:=by
      refine Inv.turnedL (s:={ s with heap:=s.heap.push { cls:=.type "tuple",data:=.seq #[.int i s.toks,u] },toks:=s.toks + 1 }) (h':=h3) (t':=s.toks + 1) (fp:=[e,it]) IA (fun b o hb g=>?_) (fun b hb=>?_)
      . simp only [List.mem_cons,List.not_mem_nil,or_false,not_or] at hb
        obtain ⟨b1,b2⟩:=hb
        refine up b o b1 ?_
        by_cases eb:b=s.heap.objs.size
        . subst eb
          have e':(s.heap.push { cls:=.type "tuple",data:=.seq #[.int i s.toks,u] }).get? s.heap.objs.size=some { cls:=.type "tuple",data:=.seq #[.int i s.toks,u] }:=Heap.get?_push_size _ rfl
          rw [e'] at g
          cases g
          exact hT
        . have e0:(s.heap.push { cls:=.type "tuple",data:=.seq #[.int i s.toks,u] }).get? b=s.heap.get? b:=Heap.get?_push_ne _ _ _ eb
          exact hk b o b1 b2 (e0 ▸ g)
      . obtain ⟨f0,f1⟩:=hf b hb
        exact ⟨by rw [upd_ne (fun e=>absurd (lt b hb) (by rw [e]; exact Nat.lt_irrefl _))]; exact f0,f1⟩
    have ec:((i + 1:Nat):Int)=(i:Int) + 1:=by push_cast; rfl
    refine ⟨.ref s.heap.objs.size,_,IB,rfl,⟨_,x,rfl,hfr,rfl,fun xs' h=>by rw [I.list_inj h q1]; exact hx⟩,⟨⟨u,ec ▸ he3⟩,h1'.at fun o x=>up it o (Ne.symm hei) x⟩,fun b hb=>?_⟩
    rw [upd_ne (fun e=>absurd (lt b hb) (by rw [e]; exact Nat.lt_irrefl _))]
    exact (hf b hb).1
  done:=by
    intro X hP hw hK hc i pins s σ H E I hf st hg
    subst hP hw hK
    obtain ⟨⟨old,he⟩,h1⟩:=st
    obtain ⟨xs,q1,hl⟩:=hg
    obtain ⟨us,r1,p1,_⟩:=I.list q1
    have l1:=r1.length
    refine wpAny_pyNext_enum_end (I.ok.hd hc) he h1 p1.isList (by simp; omega) fun h' hk=>⟨rfl,?_⟩
    refine Inv.turnedL (t':=s.toks) (fp:=[e,it]) I (fun b o hb g=>?_) hf
    simp only [List.mem_cons,List.not_mem_nil,or_false,not_or] at hb
    exact hk b o hb.2 g
  self:=fun _ _ _ _ _ st h=>by obtain ⟨⟨old,he⟩,_⟩:=st; exact wpAny_pyIter_enum he h
def iEnum (K:PySem.W.Frag) (ta:TA):TI:=fun σ H R=>ta σ H fun vs H1=>∃ a xs,vs=[.ref a]∧SqL K H1 a xs∧R (Ite K a) H1
section
variable {X:Cx}
theorem pi_enum {elts:List Expr} {cx} {tp:Pos} {a:Expr} {ta:TA} {p pos:Pos} (hg:Gl X "enumerate") (hm:X.mg "enumerate" = none) (ha:PA X [a] ta) (hs:starEach [a] X.env=[(false,eval a X.env)]:=by rfl) :
    PI X (.Tuple elts cx tp) (.Call (.Name "enumerate" p) [a] [] pos) (iEnum X.K ta):=by
  intro pins s σ H R I h
  refine Call_ (ld_blt I hg hm boot_enumerate (PyProof.Rows.callWith_type1 (thn (ha pos pins s σ H _ I h) fun us s1 ⟨vs,H1,I1,r1,q1⟩=>?_) (by rw [hs]; rfl) (by rfl)))
  obtain ⟨l1,xs,e,g1,q⟩:=q1
  subst e
  cases r1 with
  | cons r rr =>
    cases rr
    cases r
    obtain ⟨us,rv1,p1,_⟩:=I1.list g1
    have k1:l1 < s1.heap.objs.size:=by obtain ⟨o,_,e,_⟩:=id p1; exact Heap.lt_size e
    refine call_enumerate_list p1.isList fun h' he h1 hsz hk=>?_
    refine wpAny_pyIter_enum he ?_
    refine ⟨s1.heap.objs.size + 1,[s1.heap.objs.size + 1,s1.heap.objs.size],_,_,H1,rfl,I1.kept (t':=s1.toks) hk,turn_enum (Nat.succ_ne_self _),⟨⟨_,he⟩,h1⟩,fun b hb=>?_,q⟩
    have hb':s1.heap.objs.size≤b:=by
      simp only [List.mem_cons,List.not_mem_nil,or_false] at hb
      rcases hb with rfl | rfl
      . exact Nat.le_add_right _ _
      . exact Nat.le_refl _
    exact I1.fpOk hb' (I1.hok.fresh hb')
end
end L2
set_option Elab.async false
set_option linter.all false
set_option maxRecDepth 100000
namespace Mir
open PySem L2
section
variable [Zc]
def enumD (as:List D):List D:=as.mapIdx fun i a=>PyData.tuple [.int i,a]
theorem enumD_get {as:List D} {i:Nat} {d:D} (h:(enumD as)[i]?=some d):∃ a,d=.tuple [.int i,a]∧as[i]?=some a:=by
  unfold enumD at h
  rw [List.getElem?_mapIdx] at h
  obtain ⟨a,h1,h2⟩:=Option.map_eq_some_iff.mp h
  exact ⟨a,h2.symm,h1⟩
theorem ite_ok {K:PySem.W.Frag} {G B:Hp} {p:Addr} {xs:List V} {as:List D} (h1:Rd G p (.lst xs)) (r1:Reps B xs as):ItOk G B (Ite K p) (enumD as):=fun H s=>by
  have g1:SqL K H p xs:=rd_sq (rd_same s h1)
  refine ⟨⟨xs,g1,by rw [r1.length]; simp [enumD]⟩,fun i d hd=>?_⟩
  obtain ⟨a,rfl,ha⟩:=enumD_get hd
  obtain ⟨x,x1,x2⟩:=r1.get i a ha
  refine ⟨⟨xs,x,g1,x1⟩,fun v H' hy=>?_⟩
  obtain ⟨p',x',rfl,hp,rfl,e1⟩:=hy
  have e1':=e1 xs g1
  rw [x1] at e1'
  cases e1'
  exact .inr ⟨p',[.int i,x],[.int i,a],rfl,rfl,hp,rfl,.cons (.int _) (.cons x2 .nil)⟩
def mFoE (m:Rho->Option (List RV × Rho)):Rho->Option (List D × Rho):=fun ρ=>((m ρ).bind one1).bind fun x=>(fzOne x.1 x.2).bind fun y=>(asL y.1).map fun ds=>(enumD ds,y.2)
section
variable {K:PySem.W.Frag} {ta:TA} {m:Rho->Option (List RV × Rho)}
theorem mf_enum (h:MA ta m):MF (iEnum K ta) (mFoE m):=by
  intro F B H σ ρ ds ρ' Q R e q
  obtain ⟨x,e0,e⟩:=Option.bind_eq_some_iff.mp e
  obtain ⟨x0,e1,e3⟩:=Option.bind_eq_some_iff.mp e0
  obtain ⟨y,e4,e⟩:=Option.bind_eq_some_iff.mp e
  obtain ⟨ds',e2,e⟩:=Option.map_eq_some_iff.mp e
  cases e
  rw [one1_eq e3] at e1
  refine h F B H σ ρ _ _ _ R e1 fun vs B1 H1 E1 R1 V1=>?_
  match vs,V1 with
  | [v],V1 =>
    obtain ⟨B2,R2,rp,E2⟩:=R1.frz V1.weak.1 e4
    rw [asL_eq e2] at rp
    cases rp with
    | lst h r=>exact ⟨_,_,rfl,rd_sq (rd_same R2.sub h),q _ B2 H1 (E1.trans E2) R2 (ite_ok h r)⟩
end
end
end Mir
set_option Elab.async false
set_option linter.all false
set_option maxRecDepth 100000
namespace Mir
open PySem L2
section
variable [Zc]
abbrev Tau:=List (Nat × D)
def NwT (τ:Tau) (F:Fr) (B:Hp) (σ:St):Prop:=∀ x∈τ,∃ v,σ[x.1]?=some (some v)∧Rep B v x.2∧Nw F.H B v x.2
theorem NwT.mono {τ:Tau} {F:Fr} {B B':Hp} {σ:St} (h:NwT τ F B σ) (e:Same B B'):NwT τ F B' σ:=fun x hx=>by
  obtain ⟨v,h1,h2,h3⟩:=h x hx
  exact ⟨v,h1,h2.mono e,h3.mono e⟩
theorem NwT.nil {F:Fr} {B:Hp} {σ:St}:NwT [] F B σ:=fun x hx=>by cases hx
def MEWT (t:TE) (m:Tau->PM):Prop:=∀ (F:Fr) (B H:Hp) (σ:St) (ρ:Rho) (τ:Tau) (r:RV) (ρ':Rho) (Q:VK),Rel F B H σ ρ->NwT τ F B σ->m τ ρ=some (r,ρ') ->
    (∀ v B' H',Ext σ ρ B H ρ' B' H'->Rel F B' H' σ ρ'->Val F B' H' σ ρ' v r->(∀ p,r.2=.new->v=.ref p->H p=none)->(r.2=.fz->Nw F.H B' v r.1)->Q v H')->t σ H Q
theorem Nws.get {G B:Hp}:∀ {vs:List V} {ds:List D} (j:Nat) {d:D} {v:V},Nws G B vs ds->ds[j]?=some d->vs[j]?=some v->Nw G B v d
  | _,_,_,_,_,.nil,e,_=>by simp at e
  | _,_,0,_,_,.cons a _,e,e'=>by simp at e e'; subst e e'; exact a
  | _,_,j + 1,_,_,.cons _ c,e,e'=>Nws.get j c (by simpa using e) (by simpa using e')
mutual
theorem Nw.older {G G' B:Hp} (k:∀ p,G p=none->G' p=none):∀ {v:V} {d:D},Nw G B v d->Nw G' B v d
  | _,_,.lst a b c=>.lst (k _ a) b c
  | _,_,.tup a b=>.tup a (Nws.older k b)
  | _,_,.oth a=>.oth a
theorem Nws.older {G G' B:Hp} (k:∀ p,G p=none->G' p=none):∀ {v:List V} {d:List D},Nws G B v d->Nws G' B v d
  | _,_,.nil=>.nil
  | _,_,.cons a b=>.cons (Nw.older k a) (Nws.older k b)
end
theorem MEWT.sv {t:TE} {m:Tau->PM} (h:MEWT t m):MEWT t (fun τ=>sv (m τ)):=by
  intro F B H σ ρ τ r ρ' Q R T e q
  unfold Mir.sv at e
  dsimp only at e
  split at e
  . rename_i d ρ1 e1
    cases e
    refine h F B H σ ρ τ _ _ Q R T e1 fun v B' H' E R' V' N W=>?_
    obtain ⟨B2,R2,rp,s2,k2⟩:=R'.freezeNew V'
    obtain ⟨p,rfl,hB,hF,o,nn⟩:=V'
    refine q _ B2 H' ⟨E.sB.trans s2,fun q o h1 h2=>?_,E.own,E.ref,E.live⟩ R2 rp (fun _ z=>by cases z) (fun _=>Nw.own hF o rp R2.sub)
    obtain ⟨h3,h4⟩:=E.keep q o h1 h2
    refine ⟨h3,fun z=>?_⟩
    by_cases y:q=p
    . subst y
      exact absurd (N q rfl rfl) (by rw [h1]; simp)
    . rw [k2 q (fun z=>y (by cases z; rfl))]; exact h4 z
  . rename_i hx
    exact h F B H σ ρ τ r ρ' Q R T e q
end
end Mir
set_option Elab.async false
set_option linter.all false
set_option maxRecDepth 100000
namespace Mir
open PySem L2
section
variable [Zc]
variable {N:List Nat}
end
end Mir
set_option Elab.async false
set_option linter.all false
set_option maxRecDepth 100000
namespace Mir
open PySem L2
section
variable [Zc]
variable {N:List Nat}
end
end Mir
set_option Elab.async false
set_option linter.all false
set_option maxRecDepth 100000
namespace Mir
open PySem L2
section
variable [Zc]
def mUnp (j k:Nat) (f:List D->Option (D × D)) (m:Rho->Option (List RV × Rho)):SM:=fun ρ=>(m ρ).bind fun x=>(fzAll x.1 x.2).bind fun y=>(f y.1).bind fun w=>(setSl y.2 j (.own w.1)).bind fun ρ3=>(setSl ρ3 k (.own w.2)).map .nx
theorem ms_unp {K:PySem.W.Frag} {f:List D->Option (D × D)} {X:XK} {j k:Nat} {ta:TA} {m:Rho->Option (List RV × Rho)} (h:MA ta m) :
    MS (tAsg (tCall (spD f) [] X ta) (gTupL K 2 (gCons (gName j) (gCons (gName k) gNil)))) (mUnp j k f m):=by
  intro F B H σ ρ o E R e q
  obtain ⟨x,e1,e⟩:=Option.bind_eq_some_iff.mp e
  obtain ⟨y,e2,e⟩:=Option.bind_eq_some_iff.mp e
  obtain ⟨w,e3,e⟩:=Option.bind_eq_some_iff.mp e
  obtain ⟨ρ3,e4,e⟩:=Option.bind_eq_some_iff.mp e
  obtain ⟨ρ4,e5,e⟩:=Option.map_eq_some_iff.mp e
  cases e
  refine h F B H σ ρ x.1 x.2 _ R e1 fun vs B1 H1 E1 R1 V1=>?_
  rw [List.append_nil]
  obtain ⟨B2,R2,rp,E2⟩:=Rel.frzL R1 V1.weak e2
  refine ⟨B2,y.1,w,R2.sub,R2.tupB,rp,e3,fun v B' H' P=>?_⟩
  obtain ⟨a,p,r,rfl,ha,hpr,hp0,hr0,hBp,hBr,op,or⟩:=P.val
  have R3:=R2.grow P.eB P.eH P.sub P.nb P.tB P.nz
  obtain ⟨_,fp,np⟩:=R2.free hp0
  obtain ⟨_,fr,nr⟩:=R2.free hr0
  refine ⟨a,[.ref p,.ref r],rfl,.inl (.inl (.inl ha)),rfl,_,_,rfl,_,_,rfl,rfl,?_⟩
  have Rj:=R3.assignOwn (v:=.ref p) ⟨p,rfl,hBp,fp,op,np⟩ e4
  have Rk:=Rj.assignOwn (v:=.ref r) ⟨r,rfl,hBr,fr,or,fun n s hs hr z=>?_⟩ e5
  . exact q _ _ _ Rk
  . obtain ⟨rfl,s0,h0,nio⟩:=setSl_eq e4
    rcases get_set hs with ⟨rfl,rfl,_⟩ | ⟨hn,hs⟩
    . rw [List.getElem?_set_self (by have:=(List.getElem?_eq_some_iff.mp h0).1; rw [R3.len] at this; exact this)] at z
      cases z
      exact hpr rfl
    . rw [List.getElem?_set_ne hn.symm] at z
      exact nr n s hs hr z
end
end Mir
set_option Elab.async false
set_option linter.all false
set_option maxRecDepth 100000
namespace Mir
open PySem L2
mutual
def keepD:D->Bool
  | .list ds=>pureDs ds
  | .tuple ds=>keepDs ds
  | .none=>true
  | .bool _=>true
  | .int _=>true
  | .str _=>true
  | .dict _=>false
def keepDs:List D->Bool
  | []=>true
  | d::ds=>keepD d && keepDs ds
end
mutual
theorem Rep.keep {Hm B B':Hp} (kt:∀ q xs,B q=some (.tup xs)->B' q=some (.tup xs)) (kl:∀ p xs,Hm p=none->B p=some (.lst xs)->B' p=some (.lst xs)):∀ {v:V} {d:D},Nw Hm B v d->Rep B v d->keepD d=true->Rep B' v d
  | _,_,.lst hp hb _,.lst hr rs,h=>by
    rcases hr with e | ⟨u,e⟩
    . rw [hb] at e
      cases e
      exact .lst (.inl (kl _ _ hp hb)) (Reps.ofPure kt rs (by simpa [keepD] using h))
    . rw [hb] at e; cases e
  | _,_,.tup ha hs,.tup hb rs,h=>by
    rw [ha] at hb
    cases hb
    exact .tup (kt _ _ ha) (Reps.keep kt kl hs rs (by simpa [keepD] using h))
  | _,_,.oth z,r,h=>by
    cases r with
    | non=>exact .non
    | bl b=>exact .bl b
    | int i=>exact .int i
    | str x=>exact .str x
    | lst _ _=>cases z
    | tup _ _=>cases z
    | dct _ _=>simp [keepD] at h
theorem Reps.keep {Hm B B':Hp} (kt:∀ q xs,B q=some (.tup xs)->B' q=some (.tup xs)) (kl:∀ p xs,Hm p=none->B p=some (.lst xs)->B' p=some (.lst xs)):∀ {v:List V} {d:List D},Nws Hm B v d->Reps B v d->keepDs d=true->Reps B' v d
  | _,_,.nil,.nil,_=>.nil
  | _,_,.cons a b,.cons c e,h=>by
    simp only [keepDs,Bool.and_eq_true] at h
    exact .cons (Rep.keep kt kl a c h.1) (Reps.keep kt kl b e h.2)
end
mutual
theorem NwB.base {G Bs Bs' B B':Hp} {b:Nat} (e:Same B B') (k:∀ p xs,B p=some (.lst xs)->Bs p=none->Bs' p=none):∀ {v:V} {d:D},NwB G Bs B b v d->NwB G Bs' B' b v d
  | _,_,.lst a b c d=>.lst a (k _ _ c b) (e _ _ c) d
  | _,_,.tup a b=>.tup (e _ _ a) (NwBs.base e k b)
  | _,_,.oth a=>.oth a
theorem NwBs.base {G Bs Bs' B B':Hp} {b:Nat} (e:Same B B') (k:∀ p xs,B p=some (.lst xs)->Bs p=none->Bs' p=none):∀ {v:List V} {d:List D},NwBs G Bs B b v d->NwBs G Bs' B' b v d
  | _,_,.nil=>.nil
  | _,_,.cons a b=>.cons (NwB.base e k a) (NwBs.base e k b)
end
section
variable [Zc]
theorem Rel.back {F:Fr} {B H B' H':Hp} {σ:St} {ρ ρ':Rho} (R:Rel F B H σ ρ) (hio:F.io=[]) (R':Rel ⟨B,H,[],F.Z⟩ B' H' σ ρ') (h:∀ (n:Nat) (s:Sl),ρ'[n]?=some s->s.isRef=true->False):Rel F B' H' σ ρ' :=
  ⟨R'.sub,R.sB.trans R'.sB,fun q o z _=>R'.sH q o (R.sH q o z (fun x hx=>by rw [hio] at hx; cases hx)) (fun x hx=>by cases hx),
   fun q h1 h2=>R'.nB q (by
     cases z:F.H q with
     | none=>exact absurd z h1
     | some o=>show H q≠none; rw [R.sH q o z (fun x hx=>by rw [hio] at hx; cases hx)]; simp) (R.nB q h1 h2),
   R'.len,R'.slot,fun i j s t p h1 h2=>(h i s h1 (Sl.ref_of h2)).elim,fun i d p h1=>(h i _ h1 rfl).elim,fun x hx=>(by rw [hio] at hx; cases hx),fun i d h1=>(h i _ h1 rfl).elim,R'.tupB,R'.exv,R'.nz⟩
variable {N:List Nat}
end
end Mir
set_option Elab.async false
set_option linter.all false
set_option maxRecDepth 100000
namespace Mir
open PySem L2
inductive Pk (G B:Hp):Hp->Hp->Prop
  | refl {H:Hp}:Pk G B H H
  | step {H H':Hp} {p:Addr} {xs ys:List V}:H p=some (.lst xs)->G p=none->B p=none->Pk G B (upd H p (.lst ys)) H'->Pk G B H H'
theorem Dds.len {G B H:Hp} {b:Nat}:∀ {vs:List V} {ds:List D},Dds G B H b vs ds->vs.length=ds.length
  | _,_,.nil=>rfl
  | _,_,.cons _ t=>by rw [List.length_cons,List.length_cons,Dds.len t]
section
variable [Zc]
theorem Rel.pk {F:Fr} {B:Hp} {σ:St} {ρ:Rho} (nr:∀ (n:Nat) (s:Sl),ρ[n]?=some s->s.isRef=false) {H H':Hp} (pk:Pk F.H B H H') (R:Rel F B H σ ρ):Rel F B H' σ ρ:=by
  induction pk with
  | refl=>exact R
  | step h1 h2 h3 _ ih=>exact ih (R.poke h3 h2 h1 (fun n s z1 z2=>by rw [nr n s z1] at z2; cases z2) _)
variable {N:List Nat}
end
end Mir
set_option Elab.async false
set_option linter.all false
set_option maxRecDepth 100000
namespace L2
open PySem PySem.W PySem.Calls PySem.Spec PyProof.Rows
section
variable {α β:Type}
def GoodT (n:Nat) (R : α->Prop):KasT α->Prop
  | .ret a=>R a
  | .ask i j k=>i < n∧j < n∧∀ b,GoodT n R (k b)
theorem GoodT.bind {n:Nat} {R : β->Prop} {f : α->KasT β}:∀ {t:KasT α},GoodT n (fun a=>GoodT n R (f a)) t->GoodT n R (t.bind f)
  | .ret _,h=>h
  | .ask _ _ k,h=>⟨h.1,h.2.1,fun b=>GoodT.bind (t:=k b) (h.2.2 b)⟩
theorem GoodT.mono {n:Nat} {R S : α->Prop} (hs:∀ a,R a->S a):∀ {t:KasT α},GoodT n R t->GoodT n S t
  | .ret a,h=>hs a h
  | .ask _ _ k,h=>⟨h.1,h.2.1,fun b=>GoodT.mono hs (t:=k b) (h.2.2 b)⟩
end
def PmA (n:Nat) (p:Array Nat):Prop:=p.Perm (List.range n).toArray
theorem PmA.lt {n:Nat} {p:Array Nat} (h:PmA n p) (hn : 0 < n) (k:Nat):p.getD k 0 < n:=by
  by_cases hk:k < p.size
  . have e:p.getD k 0=p[k]:=by simp [Array.getD,hk]
    rw [e]
    have hm:p[k]∈p.toList:=by simp
    have:=(Array.perm_iff_toList_perm.mp h).mem_iff.mp hm
    simpa using this
  . have e:p.getD k 0=0:=by simp [Array.getD,hk]
    rw [e]; exact hn
def PairAt (h:Heap) (v:Value) (p:Int × Int):Prop:=∃ a o n t u,v=.ref a∧h.get? a=some o∧o.cls=.type "tuple"∧o.data=.seq #[.int p.1 t,.int p.2 u] n
inductive PairsAt (h:Heap):List Value->List (Int × Int)->Prop
  | nil:PairsAt h [] []
  | cons {v p vs ps}:PairAt h v p->PairsAt h vs ps->PairsAt h (v::vs) (p::ps)
theorem PairsAt.len {h:Heap} {vs:List Value} {ps:List (Int × Int)} (a:PairsAt h vs ps):vs.length=ps.length:=by
  induction a with
  | nil=>rfl
  | cons _ _ ih=>rw [List.length_cons,List.length_cons,ih]
theorem PairsAt.get {h:Heap} {vs:List Value} {ps:List (Int × Int)} (a:PairsAt h vs ps):∀ i,i < vs.length->PairAt h (vs.getD i Value.none) (ps.getD i (0,0)):=by
  induction a with
  | nil=>intro i hi; simp at hi
  | cons b _ ih =>
    intro i hi
    cases i with
    | zero=>exact b
    | succ i=>simpa using ih i (by simpa using hi)
theorem PairsAt.keep {h h':Heap} {vs:List Value} {ps:List (Int × Int)} (k:∀ b o,o.cls=.type "tuple"->h.get? b=some o->h'.get? b=some o) (a:PairsAt h vs ps):PairsAt h' vs ps:=by
  induction a with
  | nil=>exact .nil
  | cons b _ ih=>obtain ⟨a,o,n,t,u,h1,h2,h3,h4⟩:=b; exact .cons ⟨a,o,n,t,u,h1,k _ _ h3 h2,h3,h4⟩ ih
theorem PairsAt.tups {h:Heap} {vs:List Value} {ps:List (Int × Int)} (a:PairsAt h vs ps):∃ fs,KatTups h vs fs∧fs.length=ps.length∧∀ v∈fs,∃ i t,v=.int i t:=by
  induction a with
  | nil=>exact ⟨[],KatTups.nil,rfl,fun v hv=>by cases hv⟩
  | cons b _ ih =>
    obtain ⟨fs,h1,h2,h3⟩:=ih
    obtain ⟨a,o,n,t,u,rfl,ho,hc,hd⟩:=b
    refine ⟨_::fs,KatTups.cons ho hc hd (by rfl) h1,by rw [List.length_cons,List.length_cons,h2],fun v hv=>?_⟩
    rcases List.mem_cons.mp hv with rfl | hv
    . exact ⟨_,_,rfl⟩
    . exact h3 v hv
section
variable {prog:Program} {w:World} {A:Around} {E:Value->Shared->Prop} {s:Shared}
end
def PairV (H:Hp) (y:V) (p:Int × Int):Prop:=∃ a,y=.ref a∧H a=some (.tup [.int p.1,.int p.2])
inductive PairVs (H:Hp):List V->List (Int × Int)->Prop
  | nil:PairVs H [] []
  | cons {v p vs ps}:PairV H v p->PairVs H vs ps->PairVs H (v::vs) (p::ps)
theorem Vals.getD:∀ {ys:List V} {us:List Value},Vals ys us->∀ i,RelV (ys.getD i .non) (us.getD i Value.none)
  | _,_,.nil,i=>by simp [RelV]
  | _,_,.cons r t,i=>by
    cases i with
    | zero=>exact r
    | succ i=>exact Vals.getD t i
theorem Vals.pick {ys:List V} {us:List Value} (h:Vals ys us):∀ l:List Nat,Vals (l.map fun i=>ys.getD i .non) (l.map fun i=>us.getD i Value.none)
  | []=>.nil
  | i::l=>.cons (h.getD i) (h.pick l)
section
variable {X:Cx}
end
end L2
namespace Mir
open PySem L2
section
variable [Zc]
def pairsOf:List D->Option (List (Int × Int))
  | []=>some []
  | .tuple [.int a,.int b]::ds=>(pairsOf ds).map ((a,b)::·)
  | _=>none
theorem Reps.getD {B:Hp}:∀ {vs:List V} {ds:List D},Reps B vs ds->∀ i,Rep B (vs.getD i .non) (ds.getD i .none)
  | _,_,.nil,i=>by simp; exact .non
  | _,_,.cons r t,i=>by
    cases i with
    | zero=>exact r
    | succ i=>exact Reps.getD t i
theorem Reps.pick {B:Hp} {vs:List V} {ds:List D} (h:Reps B vs ds):∀ l:List Nat,Reps B (l.map fun i=>vs.getD i .non) (l.map fun i=>ds.getD i .none)
  | []=>.nil
  | i::l=>.cons (h.getD i) (h.pick l)
def pD (p:Int × Int):D:=.tuple [.int p.1,.int p.2]
end
end Mir
set_option Elab.async false
set_option linter.all false
set_option maxRecDepth 100000
namespace L2
open PySem PySem.Spec PyProof.Rows
section
variable {κ:Type} [DecidableEq κ]
def valV (kvs:List (κ × V)) (k : κ):Option V:=(kvs.find? fun kv=>decide (kv.1=k)).map (·.2)
def putK (kvs:List (κ × V)) (k : κ) (v:V):List (κ × V) :=
  if (kvs.any fun kv=>decide (kv.1=k))=true then kvs.map (fun kv=>if kv.1=k then (kv.1,v) else kv) else kvs++[(k,v)]
def dropK (kvs:List (κ × V)) (k : κ):List (κ × V):=kvs.filter fun kv=>decide (kv.1≠k)
theorem valV_pos {p : κ × V} {r:List (κ × V)} {k : κ} (e:p.1=k):valV (p::r) k=some p.2:=by simp [valV,List.find?_cons,e]
theorem valV_neg {p : κ × V} {r:List (κ × V)} {k : κ} (e : ¬ p.1=k):valV (p::r) k=valV r k:=by simp [valV,List.find?_cons,e]
theorem valV_any (k : κ):∀ kvs:List (κ × V),(kvs.any fun kv=>decide (kv.1=k))=(valV kvs k).isSome
  | []=>rfl
  | p::r=>by
    rw [List.any_cons]
    by_cases e:p.1=k
    . simp only [valV_pos e,decide_eq_true e,Bool.true_or,Option.isSome_some]
    . rw [valV_neg e,decide_eq_false e,Bool.false_or]; exact valV_any k r
theorem length_putK (kvs:List (κ × V)) (k : κ) (v:V):(putK kvs k v).length≤kvs.length + 1:=by
  unfold putK
  split
  . rw [List.length_map]; omega
  . rw [List.length_append,List.length_cons,List.length_nil]; omega
theorem putK_new {kvs:List (κ × V)} {k : κ} (v:V) (h:valV kvs k=none):putK kvs k v=kvs++[(k,v)]:=by
  unfold putK
  rw [valV_any,h]
  exact if_neg (by decide)
theorem RelO.isSome_eq {o:Option V} {u:Option Value} (r:RelO o u):o.isSome=u.isSome:=by
  cases o with
  | none=>cases u with
    | none=>rfl
    | some _=>exact (show False from r).elim
  | some _=>cases u with
    | none=>exact (show False from r).elim
    | some _=>rfl
theorem RelO.getD {o:Option V} {u:Option Value} {d:V} {d':Value} (r:RelO o u) (rd:RelV d d'):RelV (o.getD d) (u.getD d'):=by
  cases o with
  | none=>cases u with
    | none=>exact rd
    | some _=>exact (show False from r).elim
  | some _=>cases u with
    | none=>exact (show False from r).elim
    | some _=>exact r
theorem KV.val {kvs:List (κ × V)} {vs:List (κ × Value)} (r:KV kvs vs) (k : κ):RelO (valV kvs k) (valueAt vs k):=by
  unfold KV at r
  induction r with
  | nil=>exact True.intro
  | @cons p q ps qs h t ih =>
    obtain ⟨h1,h2⟩:=h
    by_cases e:p.1=k
    . have e':q.1=k:=h1.symm.trans e
      have b:valueAt (q::qs) k=some q.2:=by simp [valueAt,List.find?_cons,e']
      rw [valV_pos e,b]; exact h2
    . have e' : ¬ q.1=k:=fun z=>e (h1.trans z)
      have b:valueAt (q::qs) k=valueAt qs k:=by simp [valueAt,List.find?_cons,e']
      rw [valV_neg e,b]; exact ih
theorem KV.any {kvs:List (κ × V)} {vs:List (κ × Value)} (r:KV kvs vs) (k : κ):(kvs.any fun kv=>decide (kv.1=k))=vs.any fun kv=>decide (kv.1=k):=by
  unfold KV at r
  induction r with
  | nil=>rfl
  | cons h t ih=>rw [List.any_cons,List.any_cons,ih,h.1]
theorem KV.repl {kvs:List (κ × V)} {vs:List (κ × Value)} (r:KV kvs vs) (k : κ) {y:V} {u:Value} (ry:RelV y u) :
    KV (kvs.map fun kv=>if kv.1=k then (kv.1,y) else kv) (vs.map fun kv=>if kv.1=k then (kv.1,u) else kv):=by
  unfold KV at r ⊢
  induction r with
  | nil=>exact .nil
  | @cons p q ps qs h t ih =>
    rw [List.map_cons,List.map_cons]
    refine .cons ?_ ih
    obtain ⟨h1,h2⟩:=h
    by_cases e:p.1=k
    . rw [if_pos e,if_pos (h1.symm.trans e)]; exact ⟨h1,ry⟩
    . rw [if_neg e,if_neg (fun z=>e (h1.trans z))]; exact ⟨h1,h2⟩
theorem KV.put {kvs:List (κ × V)} {vs:List (κ × Value)} (r:KV kvs vs) (k : κ) {y:V} {u:Value} (ry:RelV y u):KV (putK kvs k y) (stored vs k u):=by
  unfold putK stored
  rw [r.any k]
  by_cases e:(vs.any fun kv=>decide (kv.1=k))=true
  . rw [if_pos e,if_pos e]; exact r.repl k ry
  . rw [if_neg e,if_neg e]; exact Paired.snoc r ⟨rfl,ry⟩
theorem KV.drop {kvs:List (κ × V)} {vs:List (κ × Value)} (r:KV kvs vs) (k : κ):KV (dropK kvs k) (without vs k):=by
  unfold KV at r ⊢
  unfold dropK without
  induction r with
  | nil=>exact .nil
  | @cons p q ps qs h t ih =>
    obtain ⟨h1,h2⟩:=h
    rw [List.filter_cons,List.filter_cons]
    by_cases e:p.1=k
    . have a : ¬ decide (p.1≠k)=true:=by simp [e]
      have b : ¬ decide (q.1≠k)=true:=by simp [h1.symm.trans e]
      rw [if_neg a,if_neg b]; exact ih
    . have e' : ¬ q.1=k:=fun z=>e (h1.trans z)
      have a:decide (p.1≠k)=true:=by simp [e]
      have b:decide (q.1≠k)=true:=by simp [e']
      rw [if_pos a,if_pos b]; exact .cons ⟨h1,h2⟩ ih
theorem KV.keys {kvs:List (κ × V)} {vs:List (κ × Value)} (r:KV kvs vs):kvs.map (·.1)=vs.map (·.1):=by
  unfold KV at r
  induction r with
  | nil=>rfl
  | cons h t ih=>rw [List.map_cons,List.map_cons,ih,h.1]
theorem KV.length {kvs:List (κ × V)} {vs:List (κ × Value)} (r:KV kvs vs):kvs.length=vs.length:=Paired.length r
end
theorem kV_is {P:Program} {w:World} {k:Key} {u:Value} (r:RelV (kV k) u):(mixKind P w).is k u=true:=by
  cases k with
  | inl i=>obtain ⟨t,e⟩:=(show ∃ t,u=Value.int i t from r); subst e; exact mixKind_int P w i t
  | inr x=>obtain ⟨t,e⟩:=(show ∃ t,u=Value.str x t from r); subst e; exact mixKind_str P w x t
theorem items_are {P:Program} {w:World}:∀ {ks:List Key} {us:List Value},Vals (ks.map kV) us->ItemsAre (mixKind P w) ks us
  | [],_,r=>by rw [List.map_nil] at r; cases r; exact .nil
  | k::ks,_,r=>by
    rw [List.map_cons] at r
    cases r with
    | cons h t=>exact .cons (kV_is h) (items_are t)
abbrev KT (H:Hp):List (List Key × V)->List (List Key × Addr × Value)->Prop:=Paired fun p q=>p.1=q.1∧H q.2.1=some (.tup (p.1.map kV))∧RelV p.2 q.2.2
theorem KT.val {H:Hp} {kvs:List (List Key × V)} {xs:List (List Key × Addr × Value)} (r:KT H kvs xs) (k:List Key):RelO (valV kvs k) ((atKey xs k).map (·.2)):=by
  induction r with
  | nil=>exact True.intro
  | @cons p q ps qs h t ih =>
    obtain ⟨h1,_,h2⟩:=h
    by_cases e:p.1=k
    . have e':q.1=k:=h1.symm.trans e
      have b:atKey (q::qs) k=some q.2:=by simp [atKey,List.find?_cons,e']
      rw [valV_pos e,b]; exact h2
    . have e' : ¬ q.1=k:=fun z=>e (h1.trans z)
      have b:atKey (q::qs) k=atKey qs k:=by simp [atKey,List.find?_cons,e']
      rw [valV_neg e,b]; exact ih
theorem KT.repl {H:Hp} {kvs:List (List Key × V)} {xs:List (List Key × Addr × Value)} (r:KT H kvs xs) (k:List Key) {y:V} {u:Value} (ry:RelV y u) :
    KT H (kvs.map fun kv=>if kv.1=k then (kv.1,y) else kv) (xs.map (putAt k u)):=by
  induction r with
  | nil=>exact .nil
  | @cons p q ps qs h t ih =>
    rw [List.map_cons,List.map_cons]
    refine .cons ?_ ih
    obtain ⟨h1,h2,h3⟩:=h
    unfold putAt
    by_cases e:p.1=k
    . rw [if_pos e,if_pos (h1.symm.trans e)]; exact ⟨h1,h2,ry⟩
    . rw [if_neg e,if_neg (fun z=>e (h1.trans z))]; exact ⟨h1,h2,h3⟩
theorem KT.put {H:Hp} {kvs:List (List Key × V)} {xs:List (List Key × Addr × Value)} (r:KT H kvs xs) (k:List Key) {b:Addr} {y:V} {u:Value} (hb:H b=some (.tup (k.map kV))) (ry:RelV y u) :
    KT H (putK kvs k y) (storedH xs k b u):=by
  have e:(kvs.any fun kv=>decide (kv.1=k))=(atKey xs k).isSome:=by
    rw [valV_any,(r.val k).isSome_eq,Option.isSome_map]
  unfold putK storedH
  rw [e]
  by_cases q:(atKey xs k).isSome=true
  . rw [if_pos q,if_pos q]; exact r.repl k ry
  . rw [if_neg q,if_neg q]; exact Paired.snoc r ⟨rfl,hb,ry⟩
theorem KT.keeps {H H':Hp} {kvs:List (List Key × V)} {xs:List (List Key × Addr × Value)} (r:KT H kvs xs) (ht:∀ b ys,H b=some (.tup ys)->H' b=some (.tup ys)):KT H' kvs xs :=
  Paired.mapP r fun _ _ z=>⟨z.1,ht _ _ z.2.1,z.2.2⟩
section
variable {P:Program} {w:World} {H:Hp} {h:Heap} {a:Addr}
theorem rd_of {u:HO} (ok:HOk P w H h) (e:Rd H a u):ObjOk P w H h a u:=e.ok ok
theorem dk_rd {kvs:List (Key × V)} (ok:HOk P w H h) (e:Rd H a (.dK kvs)):kvs.length≤sizeLine∧(a == sysModules)=false∧∃ vs,KV kvs vs∧h.DictOf (mixKind P w) a vs :=
  show ObjOk P w H h a (.dK kvs) from rd_of ok e
theorem dk_of {kvs:List (Key × V)} (ok:HOk P w H h) (e:H a=some (.dK kvs)):kvs.length≤sizeLine∧(a == sysModules)=false∧∃ vs,KV kvs vs∧h.DictOf (mixKind P w) a vs:=dk_rd ok (.inl e)
theorem key_of {ks:List Key} (ok:HOk P w H h) (e:H a=some (.tup (ks.map kV))):(tupleKind (mixKind P w)).is h ks a:=by
  obtain ⟨_,its,r,o,h1,h2,n,h3⟩:=ObjOk.tupAt (P:=P) (w:=w) (H:=H) (ok a _ e)
  exact ⟨o,its.toArray,n,h1,h2,h3,by simpa using items_are r⟩
theorem dt_rd {kvs:List (List Key × V)} (ok:HOk P w H h) (e:Rd H a (.dT kvs)):kvs.length≤sizeLine∧(a == sysModules)=false ∧
    ∃ xs,KT H kvs xs∧h.DictOfH (tupleKind (mixKind P w)) a xs:=by
  obtain ⟨z,y,xs,r,o,es,ep,h1,h2,h3,h4,h5⟩:=(show ObjOk P w H h a (.dT kvs) from rd_of ok e)
  refine ⟨z,y,xs,r,o,es,ep,h1,h2,h3,h4,fun x hx=>?_,h5⟩
  have all:∀ {l:List (List Key × V)} {m:List (List Key × Addr × Value)},KT H l m->∀ x∈m,(tupleKind (mixKind P w)).is h x.1 x.2.1:=by
    intro l m q
    induction q with
    | nil=>intro x hx; exact nomatch hx
    | @cons p q ps qs hq t ih =>
      intro x hx
      rcases List.mem_cons.mp hx with e | hx
      . subst e
        exact key_of ok (by rw [← hq.1]; exact hq.2.1)
      . exact ih x hx
  exact all r x hx
theorem dt_of {kvs:List (List Key × V)} (ok:HOk P w H h) (e:H a=some (.dT kvs)):kvs.length≤sizeLine∧(a == sysModules)=false ∧
    ∃ xs,KT H kvs xs∧h.DictOfH (tupleKind (mixKind P w)) a xs:=dt_rd ok (.inl e)
end
def DGet (H:Hp) (a:Addr) (y:V) (r:Option V):Prop :=
  (∃ kvs k,Rd H a (.dK kvs)∧y=kV k∧r=valV kvs k)∨∃ kvs k b,Rd H a (.dT kvs)∧y=.ref b∧H b=some (.tup (k.map kV))∧r=valV kvs k
def DPut (H:Hp) (a:Addr) (y v:V) (H':Hp):Prop :=
  (∃ kvs k,H a=some (.dK kvs)∧y=kV k∧kvs.length < sizeLine∧H'=upd H a (.dK (putK kvs k v))) ∨
  ∃ kvs k b,H a=some (.dT kvs)∧y=.ref b∧H b=some (.tup (k.map kV))∧kvs.length < sizeLine∧H'=upd H a (.dT (putK kvs k v))
theorem DGet.k {H:Hp} {a:Addr} {kvs:List (Key × V)} {k:Key} (e:H a=some (.dK kvs)):DGet H a (kV k) (valV kvs k):=.inl ⟨kvs,k,.inl e,rfl,rfl⟩
theorem DGet.t {H:Hp} {a b:Addr} {kvs:List (List Key × V)} {k:List Key} (e:H a=some (.dT kvs)) (eb:H b=some (.tup (k.map kV))):DGet H a (.ref b) (valV kvs k):=.inr ⟨kvs,k,b,.inl e,rfl,eb,rfl⟩
theorem DPut.k {H:Hp} {a:Addr} {kvs:List (Key × V)} {k:Key} {v:V} (e:H a=some (.dK kvs)) (hl:kvs.length < sizeLine):DPut H a (kV k) v (upd H a (.dK (putK kvs k v))):=.inl ⟨kvs,k,e,rfl,hl,rfl⟩
theorem DPut.t {H:Hp} {a b:Addr} {kvs:List (List Key × V)} {k:List Key} {v:V} (e:H a=some (.dT kvs)) (eb:H b=some (.tup (k.map kV))) (hl:kvs.length < sizeLine) :
    DPut H a (.ref b) v (upd H a (.dT (putK kvs k v))):=.inr ⟨kvs,k,b,e,rfl,eb,hl,rfl⟩
section
variable {X:Cx} {pins:List (Addr × Obj)} {σ:St} {H:Hp} {s:Shared} {a:Addr} {y v:V} {u r:Value} {o:Option V} {A:Around} {E:Value->Shared->Prop}
theorem Inv.big (I:Inv X pins σ H s):sysModules < s.heap.objs.size:=by
  have h:mainGlobals < s.heap.objs.size:=(I.mod.glob.keeps I.bk).lt
  exact Nat.lt_trans (by decide) h
theorem d_getItem {Q:Value->Shared->Prop} (hu:A.units + 1 < cLine) (I:Inv X pins σ H s) (g:DGet H a y (some v)) (ry:RelV y u) (h:∀ w' s',Inv X pins σ H s'->RelV v w'->Q w' s') :
    wpAny (model X.prog X.w) A (getItem (.ref a) u) Q E s:=by
  rcases g with ⟨kvs,k,e,ey,l⟩ | ⟨kvs,k,b,e,ey,eb,l⟩
  . subst ey
    obtain ⟨z,hd,vs,rel,dd⟩:=dk_rd I.hok e
    obtain ⟨w',hw,rw'⟩:=RelO.some_of (v:=v) (o:=valueAt vs k) (by rw [l]; exact rel.val k)
    exact wpAny_getItem_of (kV_is ry) dd.mapOf hw (h w' _ (I.tok _) rw')
  . subst ey
    cases (show u=Value.ref b from ry)
    obtain ⟨z,hd,xs,rel,dd⟩:=dt_rd I.hok e
    obtain ⟨w',hw,rw'⟩:=RelO.some_of (v:=v) (o:=(atKey xs k).map (·.2)) (by rw [l]; exact rel.val k)
    obtain ⟨p,hp,hp2⟩:=Option.map_eq_some_iff.mp hw
    refine wpAny_getItem_heap (tupleKind_room_in1 hu) (key_of I.hok eb) dd hp ?_
    rw [hp2]
    exact h w' _ (I.tok _) rw'
theorem d_notIn {Q:Value->Shared->Prop} (hu:A.units + 1 < cLine) (I:Inv X pins σ H s) (g:DGet H a y o) (ry:RelV y u) (h:∀ s',Inv X pins σ H s'->Q (.bool (!o.isSome)) s') :
    wpAny (model X.prog X.w) A (compareOp .NotIn u (.ref a)) Q E s:=by
  rcases g with ⟨kvs,k,e,ey,l⟩ | ⟨kvs,k,b,e,ey,eb,l⟩
  . subst ey
    obtain ⟨z,hd,vs,rel,dd⟩:=dk_rd I.hok e
    refine wpAny_notIn_of (kV_is ry) hd dd.mapOf ?_
    rw [← (rel.val k).isSome_eq,← l]
    exact h _ (I.tok _)
  . subst ey
    cases (show u=Value.ref b from ry)
    obtain ⟨z,hd,xs,rel,dd⟩:=dt_rd I.hok e
    refine wpAny_notIn_heap (tupleKind_room_in1 hu) (key_of I.hok eb) hd dd ?_
    have q:=(rel.val k).isSome_eq
    rw [Option.isSome_map] at q
    rw [← q,← l]
    exact h _ (I.tok _)
theorem d_write {h':Heap} {t':Nat} {ob:HO} (I:Inv X pins σ H s) (mu:Mut (H a)) (hs:Heap.SameBut a s.heap h') (he:∃ q,h'.get? a=some q) (new:ObjOk X.prog X.w (upd H a ob) h' a ob) :
    Inv X pins σ (upd H a ob) { s with heap:=h',toks:=t' } :=
  I.write (x:=a) (e:=a) mu (.inl rfl) (fun b q hb z=>(hs.2 b hb).trans z) he new
theorem dk_new {P:Program} {w:World} {H':Hp} {h':Heap} {kvs:List (Key × V)} {vs:List (Key × Value)} (z:kvs.length≤sizeLine) (hd:(a == sysModules)=false) (rel:KV kvs vs) (dd:h'.DictOf (mixKind P w) a vs) :
    ObjOk P w H' h' a (.dK kvs):=⟨z,hd,vs,rel,dd⟩
theorem d_setItem {H':Hp} {Q:Unit->Shared->Prop} (hu:A.units + 1 < cLine) (I:Inv X pins σ H s) (g:DPut H a y v H') (ry:RelV y u) (rv:RelV v r) (h:∀ s',Inv X pins σ H' s'->Q () s') :
    wpAny (model X.prog X.w) A (setItem (.ref a) u r) Q E s:=by
  rcases g with ⟨kvs,k,e,ey,l,eH⟩ | ⟨kvs,k,b,e,ey,eb,l,eH⟩
  . subst ey eH
    obtain ⟨z,hd,vs,rel,dd⟩:=dk_of I.hok e
    have hz:vs.length≤sizeLine:=by rw [← rel.length]; exact z
    have hl:(putK kvs k v).length≤sizeLine:=by have:=length_putK kvs k v; omega
    refine wpAny_setItem_pairs (hsz:=hz) (kV_is ry) dd fun h' dd' hs=>h _ ?_
    have he:∃ q,h'.get? a=some q:=let ⟨q,_,_,hq,_⟩:=dd'; ⟨q,hq⟩
    exact d_write I (by rw [e]; exact True.intro) hs he (dk_new hl hd (rel.put k rv) dd')
  . subst ey eH
    cases (show u=Value.ref b from ry)
    obtain ⟨z,hd,xs,rel,dd⟩:=dt_of I.hok e
    have hz:xs.length≤sizeLine:=by rw [← Paired.length rel]; exact z
    have hl:(putK kvs k v).length≤sizeLine:=by have:=length_putK kvs k v; omega
    refine wpAny_setItem_heap (hsz:=hz) (tupleKind_room_in1 hu) (key_of I.hok eb) dd fun h' dd' hs=>h _ ?_
    obtain ⟨q,es,ep,hq,h2,h3,h4,_,h5⟩:=dd'
    refine d_write I (by rw [e]; exact True.intro) hs ⟨q,hq⟩ ⟨hl,hd,_,(rel.put k eb rv).keeps fun c ys ec=>?_,q,es,ep,hq,h2,h3,h4,h5⟩
    rw [upd_ne (ne_of ec e (fun z=>nomatch z))]
    exact ec
end
section
variable {X:Cx} {pins:List (Addr × Obj)} {σ:St} {H:Hp} {s:Shared} {a:Addr} {kvs:List (Key × V)} {k:Key} {u:Value} {A:Around} {E:Value->Shared->Prop}
theorem d_len {Q:Value->Shared->Prop} (I:Inv X pins σ H s) (e:Rd H a (.dK kvs)) (h:∀ t s',Inv X pins σ H s'->Q (.int kvs.length t) s'):wpAny (model X.prog X.w) A (call (.builtin "len") [.ref a]) Q E s:=by
  obtain ⟨z,hd,vs,rel,dd⟩:=dk_rd I.hok e
  refine call_len_dict hd dd (by rw [← rel.length]; rw [sizeLine_eq] at z; omega) ?_
  rw [← rel.length]
  exact h _ _ (I.tok _)
end
def NoSl (i:Expr):Prop:=∀ ov iv,subscripted i false ov iv=operate [ov,iv] (getItem ov iv)
theorem subD_of {prog:Program} {w:World} {A:Around} {E:Value->Shared->Prop} {s:Shared} {env:Env} {value slice:Expr} {pos:Pos} {T id:String} {Q:Value->Shared->Prop}
    (hl:typeLookup (.type T) "__getitem__" = pure (some (.builtin id))) (hs:NoSl slice)
    (h:wpAny (model prog w) A (eval value env) (fun o s₁=>wpAny (model prog w) A (eval slice env) (fun i s₂=>s₂.TypeIs o T∧wpAny (model prog w) A (getItem o i) Q E s₂) E s₁) E s) :
    wpAny (model prog w) A (eval (.Subscript value slice pos) env) Q E s:=by
  refine Subscript_ (wpAny_mono h (fun o s₁ h₁=>wpAny_mono h₁ (fun i s₂ h₂=>?_) fun _ _ x=>x) fun _ _ x=>x)
  obtain ⟨hT,h₂⟩:=h₂
  unfold subscriptTail
  refine wpAny_bind ?_
  rw [getitemInPython_of_ne hT.not_modules]
  refine wpAny_bind (wpAny_specialOf hT hl ?_)
  have fin:wpAny (model prog w) A (subscripted slice false o i) (fun r s₃=>wpAny (model prog w) A (letTemporaryGo value o r >>= fun _=>pure r) Q E s₃) E s₂:=by
    rw [hs o i]
    exact wpAny_operating (wpAny_mono h₂ (fun r s₃ h₃=>wpAny_bind (wpAny_letTemporaryGo (wpAny_pure h₃))) fun _ _ x=>x)
  first
    | exact wpAny_pure (wpAny_bind fin)
    | exact wpAny_bind (wpAny_pure (wpAny_bind fin))
    | exact wpAny_bind fin
theorem dict_typeIs {X:Cx} {pins:List (Addr × Obj)} {σ:St} {H:Hp} {s:Shared} {a:Addr} {y:V} {o:Option V} (I:Inv X pins σ H s) (g:DGet H a y o):s.TypeIs (.ref a) "dict":=by
  rcases g with ⟨kvs,k,e,_,_⟩ | ⟨kvs,k,b,e,_,_,_⟩
  . obtain ⟨_,_,vs,_,dd⟩:=dk_rd I.hok e
    exact dd.typeIs
  . obtain ⟨_,_,xs,_,dd⟩:=dt_rd I.hok e
    exact dd.typeIs
def tDGet (td ty:TE):TE:=fun σ H Q=>td σ H fun x H1=>ty σ H1 fun y H2=>∃ a v,x=.ref a∧DGet H2 a y (some v)∧Q v H2
def tDNotIn (ty td:TE):TE:=fun σ H Q=>ty σ H fun y H1=>td σ H1 fun x H2=>∃ a o,x=.ref a∧DGet H2 a y o∧Q (.bl (!o.isSome)) H2
def sDPut (td ty tv:TE):TS:=fun D σ H=>tv σ H fun v H1=>td σ H1 fun x H2=>ty σ H2 fun y H3=>∃ a H4,x=.ref a∧DPut H3 a y v H4∧D.nx σ H4
section
variable {X:Cx} {o i e value:Expr} {pos pos' tpos:Pos} {td ty tv:TE}
theorem pe_dget (hu:X.A.units + 1 < cLine) (ho:PE X o td) (hi:PE X i ty) (hs:NoSl i):PE X (.Subscript o i pos) (tDGet td ty):=by
  intro pins s σ H Q I h
  refine subD_of PySem.F.slot_dict_getitem.lookup hs (thn (ho pins s σ H _ I h) fun u s1 ⟨x,H1,I1,rx,q1⟩=>thn (hi pins s1 σ H1 _ I1 q1) fun iv s2 ⟨y,H2,I2,ry,a,v,ex,g,q2⟩=>?_)
  subst ex
  obtain rfl:u=Value.ref a:=rx
  exact ⟨dict_typeIs I2 g,d_getItem hu I2 g ry fun w' s3 I3 rw'=>⟨v,H2,I3,rw',q2⟩⟩
theorem pc_dnotin (hu:X.A.units + 1 < cLine) (hi:PE X i ty) (ho:PE X o td):PC X .NotIn i o (tDNotIn ty td):=by
  intro pins s σ H Q I h
  refine thn (hi pins s σ H _ I h) fun iv s1 ⟨y,H1,I1,ry,q1⟩=>thn (ho pins s1 σ H1 _ I1 q1) fun u s2 ⟨x,H2,I2,rx,a,ov,ex,g,q2⟩=>?_
  subst ex
  obtain rfl:u=Value.ref a:=rx
  exact d_notIn hu I2 g ry fun s3 I3=>⟨.bl (!ov.isSome),H2,I3,rfl,q2⟩
theorem ps_dput (hu:X.A.units + 1 < cLine) (ho:PE X o td) (hi:PE X i ty) (hv:PE X value tv) (hs:swapsWith value (some (.Subscript o i pos')) pos.line X.env=pure false) :
    PS X (.Assign [.Subscript o i pos'] value pos) (sDPut td ty tv):=by
  intro pins s σ H D I h
  refine wpAny_Assign_Subscript (thn (hv pins s σ H _ I h) fun r s1 ⟨v,H1,I1,rv,q1⟩=>thn (ho pins s1 σ H1 _ I1 q1) fun u s2 ⟨x,H2,I2,rx,q2⟩=>thn (hi pins s2 σ H2 _ I2 q2) fun iv s3 ⟨y,H3,I3,ry,a,H4,ex,g,q3⟩=>?_) hs
  subst ex
  obtain rfl:u=Value.ref a:=rx
  exact d_setItem hu I3 g ry rv fun s4 I4=>⟨σ,H4,I4,q3⟩
end
theorem dk_empty {P:Program} {w:World} {H:Hp} (h:Heap) (hb:sysModules < h.objs.size):ObjOk P w H (h.push { cls:=.type "dict",data:=.dict #[] }) h.objs.size (.dK []) :=
  ⟨Nat.zero_le _,beq_eq_false_iff_ne.mpr (Ne.symm (Nat.ne_of_lt hb)),[],.nil,Heap.DictOf.new h⟩
def tDNewK:TE:=fun _ H Q=>∀ p,H p=none->Q (.ref p) (upd H p (.dK []))
section
variable {X:Cx} {pos:Pos}
theorem pe_dnewK:PE X (.Dict [] [] pos) tDNewK:=fun pins s σ H Q I h =>
  wpAny_Dict_empty ⟨.ref s.heap.objs.size,_,I.laid (a:=s.heap.objs.size) (o:=.dK []) (t':=s.toks) (fun _ _ q=>Heap.get?_push_of_some _ q) (Nat.le_refl _) (dk_empty s.heap I.big),rfl,h _ (I.hok.fresh (Nat.le_refl _))⟩
end
structure M1 (X:Cx) (o:Expr) (m:Str) (apos:Pos) (e:Expr) (cpos:Pos):Prop where
  base:attributeBase o m X.env (eval o X.env)=eval o X.env
  few:((backTo cpos (starEach [e] X.env)).all (fun x=>!x.1) && (backToKw cpos (keywordEach [] X.env)).all (fun x=>x.1.isSome)
    && decide (([e]:List Expr).length + ([]:List Keyword).length + (if ([]:List Keyword).isEmpty then 0 else 1) < 30))=true
  line:(apos.endLine == cpos.line)=true
  trees:backTo cpos (starEach [e] X.env)=[(false,eval e X.env)]
structure M2 (X:Cx) (o:Expr) (m:Str) (apos:Pos) (e f:Expr) (cpos:Pos):Prop where
  base:attributeBase o m X.env (eval o X.env)=eval o X.env
  few:((backTo cpos (starEach [e,f] X.env)).all (fun x=>!x.1) && (backToKw cpos (keywordEach [] X.env)).all (fun x=>x.1.isSome)
    && decide (([e,f]:List Expr).length + ([]:List Keyword).length + (if ([]:List Keyword).isEmpty then 0 else 1) < 30))=true
  line:(apos.endLine == cpos.line)=true
  trees:backTo cpos (starEach [e,f] X.env)=[(false,eval e X.env),(false,eval f X.env)]
section
variable {X:Cx} {pins:List (Addr × Obj)} {σ:St} {H:Hp} {s:Shared} {a:Addr} {y d:V} {u r:Value} {o:Option V} {A:Around} {E:Value->Shared->Prop}
end
section
variable {X:Cx} {o e f:Expr} {apos cpos:Pos} {td ty tx:TE}
end
section
variable {X:Cx} {pins:List (Addr × Obj)} {σ:St} {H:Hp} {s:Shared} {a:Addr} {kvs:List (Key × V)} {A:Around} {E:Value->Shared->Prop}
theorem d_copyOf {Q:Value->Shared->Prop} (I:Inv X pins σ H s) (e:Rd H a (.dK kvs)) (h:∀ p s',H p=none->Inv X pins σ (upd H p (.dK kvs)) s'->Q (.ref p) s'):wpAny (model X.prog X.w) A (call (.type "dict") [.ref a]) Q E s:=by
  obtain ⟨z,hd,vs,rel,dd⟩:=dk_rd I.hok e
  refine kt_call_dict hd dd (by rw [← rel.length]; exact z) fun h' dd' hs=>?_
  refine h _ _ (I.hok.fresh (Nat.le_refl _)) (I.laid (a:=s.heap.objs.size) (o:=.dK kvs) (t':=s.toks) (fun b q hq=>?_) (Nat.le_refl _) (dk_new z (beq_eq_false_iff_ne.mpr (Ne.symm (Nat.ne_of_lt I.big))) rel dd'))
  exact (hs.2 b (Nat.ne_of_lt (Heap.lt_size hq))).trans (Heap.get?_push_of_some _ hq)
end
section
variable {X:Cx} {pins:List (Addr × Obj)} {σ:St} {H:Hp} {s:Shared} {a:Addr} {y:V} {u:Value} {A:Around} {E:Value->Shared->Prop}
end
end L2
set_option Elab.async false
set_option linter.all false
set_option maxRecDepth 100000
namespace L2
open PySem PySem.Spec PyProof.Rows
section
variable {X:Cx}
theorem ints_vals:∀ {ns:List Int} {us:List Value},Vals (ns.map V.int) us->IntsAre us ns
  | [],us,h=>by cases h; first | exact .nil | trivial
  | n::ns,us,h=>by
    cases h with
    | cons r t =>
      obtain ⟨tk,rfl⟩:=r
      exact .cons _ _ (ints_vals t)
end
end L2
set_option Elab.async false
set_option linter.all false
set_option maxRecDepth 100000
namespace Mir
open PySem L2
variable [Zc]
def mDct0:PM:=fun ρ=>some ((.dict [],.new),ρ)
theorem me_dct0:ME tDNewK mDct0:=by
  intro F B H σ ρ r ρ' Q R e q
  cases e
  exact res_end (res:=(.dict [],true)) (k:=fun Q=>∀ p,H p=none->Q (.ref p) (upd H p (.dK []))) (Q:=Q) R ⟨[],.nil,fun Q h=>h⟩ fun v B' H' E R' V' N=>q v B' H' E R' V' N
def ownD:Option Sl->Option (List (D × D))
  | some (.own (.dict es))=>some es
  | some (.io (.dict es))=>some es
  | _=>none
theorem ownD_eq {s:Option Sl} {es:List (D × D)} (h:ownD s=some es):∃ t,s=some t∧t.isOwn=true∧slD t=.dict es:=by
  unfold ownD at h
  split at h
  . cases h; exact ⟨_,rfl,rfl,rfl⟩
  . cases h; exact ⟨_,rfl,rfl,rfl⟩
  . cases h
theorem Own.dict {B H:Hp} {p:Addr} {es:List (D × D)} (h:Own B H p (.dict es)):∃ kvs,H p=some (.dK kvs)∧RepKs B kvs es:=by
  cases h with
  | dct h r=>exact ⟨_,h,r⟩
theorem RepKs.snoc {B:Hp} {k:Key} {c:D} {x:V} {d:D} (hk:KeyD k c) (hx:Rep B x d):∀ {kvs:List (Key × V)} {es:List (D × D)},RepKs B kvs es->RepKs B (kvs++[(k,x)]) (es++[(c,d)])
  | _,_,.nil=>.cons hk hx .nil
  | _,_,.cons h1 h2 r=>.cons h1 h2 (RepKs.snoc hk hx r)
theorem RepKs.length {B:Hp}:∀ {kvs:List (Key × V)} {es:List (D × D)},RepKs B kvs es->kvs.length=es.length
  | _,_,.nil=>rfl
  | _,_,.cons _ _ r=>by rw [List.length_cons,List.length_cons,RepKs.length r]
theorem putK_new {kvs:List (Key × V)} {k:Key} {v:V} (h:valV kvs k=none):putK kvs k v=kvs++[(k,v)]:=by
  unfold putK
  rw [if_neg]
  intro z
  rw [List.any_eq_true] at z
  obtain ⟨p,hp,e⟩:=z
  have e':=of_decide_eq_true e
  unfold valV at h
  rw [Option.map_eq_none_iff,List.find?_eq_none] at h
  exact h p hp (by simpa using e')
def intsD:List (D × D)->Option (List Int)
  | []=>some []
  | (_,.int i)::r=>(intsD r).map (i::·)
  | _=>none
theorem ints_vals {B:Hp}:∀ {kvs:List (Key × V)} {es:List (D × D)} {ns:List Int},RepKs B kvs es->intsD es=some ns->kvs.map (·.2)=ns.map V.int
  | _,_,_,.nil,h=>by cases h; rfl
  | _,_,ns,.cons (d:=d) hk hx r,h=>by
    cases d with
    | int i =>
      obtain ⟨ms,h1,h2⟩:=Option.map_eq_some_iff.mp (show (intsD _).map (i::·)=some ns from h)
      subst h2
      cases hx
      rw [List.map_cons,List.map_cons,ints_vals r h1]
    | _=>cases h
theorem Rel.fresh {F:Fr} {B H:Hp} {σ:St} {ρ:Rho} {p:Addr} {o:HO} (R:Rel F B H σ ρ) (hp:H p=none) (n1:∀ xs,o≠.tup xs) (n2:∀ a u,o≠.frz a u):Rel F B (upd H p o) σ ρ∧Ext σ ρ B H ρ B (upd H p o):=by
  refine ⟨R.grow (fun _ _ z=>z) (same_upd hp) (fun q u z=>same_upd hp q u (R.sub q u z)) (fun _ _ z=>z) (fun q xs z=>?_) fun q a u z y=>?_,Ext.grow (fun _ _ z=>z) (same_upd hp) fun _ _ z=>z⟩
  . by_cases w:q=p
    . subst w; rw [upd_same] at z; cases z; exact absurd rfl (n1 xs)
    . rw [upd_ne w] at z; exact R.tupB q xs z
  . by_cases w:q=p
    . subst w; rw [upd_same] at z; cases z; exact absurd rfl (n2 a u)
    . rw [upd_ne w,y] at z; cases z
end Mir
set_option Elab.async false
set_option linter.all false
set_option maxRecDepth 100000
namespace L2
open PySem PySem.Spec PyProof.Rows
section
variable {X:Cx}
def rLenR:List V->Hp->VK->Prop:=fun xs H Q=>∃ a kvs,xs=[V.ref a]∧Rd H a (.dK kvs)∧Q (.int kvs.length) H
theorem call_lenR:CallR X (.builtin "len") rLenR:=by
  intro pins s σ H xs us Q I r h
  obtain ⟨a,kvs,rfl,ha,q⟩:=h
  cases r with
  | cons r1 r =>
    cases r
    obtain rfl:=r1
    exact d_len I ha fun t s' I'=>⟨.int kvs.length,H,I',⟨t,rfl⟩,q⟩
def rDictC:List V->Hp->VK->Prop:=fun xs H Q=>∃ a kvs,xs=[V.ref a]∧Rd H a (.dK kvs)∧∀ p,H p=none->Q (.ref p) (upd H p (.dK kvs))
theorem call_dictC:CallR X (.type "dict") rDictC:=by
  intro pins s σ H xs us Q I r h
  obtain ⟨a,kvs,rfl,ha,q⟩:=h
  cases r with
  | cons r1 r =>
    cases r
    obtain rfl:=r1
    exact d_copyOf I ha fun p s' hp I'=>⟨.ref p,_,I',rfl,q p hp⟩
def rListK:List V->Hp->VK->Prop:=fun xs H Q=>∃ a kvs,xs=[V.ref a]∧Rd H a (.dK kvs)∧∀ p,H p=none->Q (.ref p) (upd H p (.lst (kvs.map fun q=>kV q.1)))
theorem is_kV {P:Program} {w:World} {k:Key} {u:Value} (h:(mixKind P w).is k u=true):RelV (kV k) u:=by
  rw [mixKind_is] at h
  rcases keyIs_shape h with ⟨i,t,rfl,rfl⟩ | ⟨x,t,rfl,rfl⟩
  . exact ⟨t,rfl⟩
  . exact ⟨t,rfl⟩
theorem keys_vals {P:Program} {w:World}:∀ {kvs:List (Key × V)} {vs:List (Key × Value)} (us:List Value),KV kvs vs->us.length=vs.length->(∀ (j:Nat) (v:Value),us[j]?=some v->∃ k x,vs[j]?=some (k,x)∧(mixKind P w).is k v=true)->Vals (kvs.map fun q=>kV q.1) us
  | _,_,[],.nil,_,_=>.nil
  | _,_,u::us,.cons (a:=a) (b:=b) h t,hl,hv=>by
    obtain ⟨k,x,e1,e2⟩:=hv 0 u rfl
    have e3:b=(k,x):=by simpa using e1
    subst e3
    have e4:a.1=k:=h.1
    refine .cons ?_ (keys_vals us t (by simpa using hl) fun j v e=>hv (j + 1) v (by simpa using e))
    show RelV (kV a.1) u
    rw [e4]
    exact is_kV e2
theorem call_listK2 (hc:X.calm=true):CallR X (.type "list") rListK:=by
  intro pins s σ H xs us Q I r h
  obtain ⟨a,kvs,rfl,ha,q⟩:=h
  cases r with
  | cons r1 r =>
    cases r
    obtain rfl:=r1
    obtain ⟨z,hd,vs,rel,dd⟩:=dk_rd I.hok ha
    obtain ⟨ep,hat⟩:=dd.dictAt
    refine PySem.W.kdl_call (PySem.W.kdl_dict (knd:=mixKind X.prog X.w) (kvs:=vs) (ep:=ep) hd) (I.ok.hd hc) hat (by rw [← rel.length]; exact z) fun h' tk acc' c' hk hD hacc=>?_
    have kv:Vals (kvs.map fun q=>kV q.1) acc'.toList:=keys_vals acc'.toList rel (by rw [Array.length_toList]; exact hacc.1) fun j u e=>hacc.2 j u (by rw [← Array.getElem?_toList]; exact e)
    refine ⟨.ref s.heap.objs.size,_,I.laid (a:=s.heap.objs.size) (o:=.lst (kvs.map fun q=>kV q.1)) (t':=tk) hk (Nat.le_refl _) ⟨by rw [List.length_map]; exact z,acc'.toList,c',kv,?_⟩,rfl,q _ (I.hok.fresh (Nat.le_refl _))⟩
    rw [hD,Array.toArray_toList]
end
end L2
namespace Mir
open PySem L2
variable [Zc]
def keyOf:D->Option Key
  | .int i=>some (.inl i)
  | .str x=>some (.inr x)
  | _=>none
theorem KeyD.of {k:Key} {c:D} (h:KeyD k c):keyOf c=some k:=by
  cases k with
  | inl i=>obtain rfl:=(show c=.int i from h); rfl
  | inr x=>obtain rfl:=(show c=.str x from h); rfl
theorem keyOf_D {k:Key} {c:D} (h:keyOf c=some k):KeyD k c:=by
  unfold keyOf at h
  split at h
  . cases h; exact rfl
  . cases h; exact rfl
  . cases h
def lookK:List (D × D)->Key->Option D
  | [],_=>none
  | (c,d)::r,k=>if keyOf c=some k then some d else lookK r k
theorem look_valK {B:Hp} {k:Key}:∀ {kvs:List (Key × V)} {es:List (D × D)},RepKs B kvs es->(∀ d,lookK es k=some d->∃ u,valV kvs k=some u∧Rep B u d)∧(lookK es k=none->valV kvs k=none)
  | _,_,.nil=>⟨fun d h=>(by cases h),fun _=>rfl⟩
  | _,_,.cons (k:=k') (x:=x) (c:=c) (d:=d) (kvs:=kvs) (es:=es) hk hx r=>by
    have ih:=look_valK (k:=k) r
    by_cases e:k'=k
    . subst e
      have hl:lookK ((c,d)::es) k'=some d:=if_pos hk.of
      refine ⟨fun d' h=>?_,fun h=>?_⟩
      . rw [hl] at h; cases h
        exact ⟨x,valV_pos rfl,hx⟩
      . rw [hl] at h; cases h
    . have hv:valV ((k',x)::kvs) k=valV kvs k:=valV_neg e
      have hl:lookK ((c,d)::es) k=lookK es k:=if_neg fun z=>e (by rw [hk.of] at z; exact Option.some.inj z)
      rw [hv,hl]
      exact ih
theorem View.key {B H:Hp} {y:V} {d:D} {k:Key} (h:View B H y d) (e:keyOf d=some k):y=kV k:=by
  unfold keyOf at e
  split at e
  . cases e
    rcases h with h | ⟨p,_,h⟩
    . cases h; rfl
    . cases h
  . cases e
    rcases h with h | ⟨p,_,h⟩
    . cases h; rfl
    . cases h
  . cases e
def rDGet:R2:=fun x y H Q=>∃ a v,x=.ref a∧DGet H a y (some v)∧Q v H
def rDNotIn:R2:=fun y x H Q=>∃ a o,x=.ref a∧DGet H a y o∧Q (.bl (!o.isSome)) H
def gIxD:D->D->Option (D × Bool)
  | .dict es,c=>(keyOf c).bind fun k=>(lookK es k).map fun d=>(d,false)
  | _,_=>none
theorem J_ixD:OpJ rDGet gIxD:=by
  intro B H x y c d res s hx hy e
  unfold gIxD at e
  split at e
  . obtain ⟨k,h1,e⟩:=Option.bind_eq_some_iff.mp e
    obtain ⟨v,h2,e⟩:=Option.map_eq_some_iff.mp e
    cases e
    obtain rfl:=hy.key h1
    obtain ⟨a,kvs,rfl,r1,rk⟩:=hx.dict s
    obtain ⟨u,h3,h4⟩:=(look_valK rk).1 v h2
    exact ⟨u,h4,fun Q q=>⟨a,u,rfl,.inl ⟨kvs,k,r1,rfl,h3.symm⟩,q⟩⟩
  . cases e
def gNotInD:D->D->Option (D × Bool)
  | c,.dict es=>(keyOf c).map fun k=>(.bool (!(lookK es k).isSome),false)
  | _,_=>none
theorem look_is {B:Hp} {k:Key} {kvs:List (Key × V)} {es:List (D × D)} (r:RepKs B kvs es):(valV kvs k).isSome=(lookK es k).isSome:=by
  cases h:lookK es k with
  | none=>rw [(look_valK r).2 h]; rfl
  | some d=>obtain ⟨u,h1,_⟩:=(look_valK r).1 d h; rw [h1]; rfl
theorem J_notInD:OpJ rDNotIn gNotInD:=by
  intro B H y x c d res s hy hx e
  unfold gNotInD at e
  split at e
  . obtain ⟨k,h1,e⟩:=Option.map_eq_some_iff.mp e
    cases e
    obtain rfl:=hy.key h1
    obtain ⟨a,kvs,rfl,r1,rk⟩:=hx.dict s
    exact ⟨.bl _,.bl _,fun Q q=>⟨a,_,rfl,.inl ⟨kvs,k,r1,rfl,rfl⟩,by rw [look_is rk]; exact q⟩⟩
  . cases e
def gLenR:List D->Option (D × Bool)
  | [.dict es]=>some (.int es.length,false)
  | _=>none
theorem J_lenR:CallJ rLenR gLenR:=by
  intro B H vs ds res s h e
  unfold gLenR at e
  split at e
  . cases e
    obtain ⟨v,rfl,hh⟩:=views1 h
    obtain ⟨a,kvs,rfl,r1,rk⟩:=hh.dict s
    exact res_int fun Q q=>⟨a,kvs,rfl,r1,by rw [rk.length]; exact q⟩
  . cases e
def gDictC:List D->Option (D × Bool)
  | [.dict es]=>some (.dict es,true)
  | _=>none
theorem J_dictC:CallJ rDictC gDictC:=by
  intro B H vs ds res s h e
  unfold gDictC at e
  split at e
  . cases e
    obtain ⟨v,rfl,hh⟩:=views1 h
    obtain ⟨a,kvs,rfl,r1,rk⟩:=hh.dict s
    exact ⟨kvs,rk,fun Q q=>⟨a,kvs,rfl,r1,q⟩⟩
  . cases e
def gListK:List D->Option (D × Bool)
  | [.dict es]=>some (.list (es.map (·.1)),true)
  | _=>none
theorem keys_rep {B:Hp}:∀ {kvs:List (Key × V)} {es:List (D × D)},RepKs B kvs es->Reps B (kvs.map fun q=>kV q.1) (es.map (·.1))
  | _,_,.nil=>.nil
  | _,_,.cons (k:=k) (c:=c) hk hx r=>by
    refine .cons ?_ (keys_rep r)
    cases k with
    | inl i=>obtain rfl:=(show c=.int i from hk); exact .int i
    | inr x=>obtain rfl:=(show c=.str x from hk); exact .str x
theorem J_listK:CallJ rListK gListK:=by
  intro B H vs ds res s h e
  unfold gListK at e
  split at e
  . cases e
    obtain ⟨v,rfl,hh⟩:=views1 h
    obtain ⟨a,kvs,rfl,r1,rk⟩:=hh.dict s
    exact ⟨_,keys_rep rk,fun Q q=>⟨a,kvs,rfl,r1,q⟩⟩
  . cases e
def putD (es:List (D × D)) (c d:D) (k:Key):List (D × D):=if (lookK es k).isSome then es.map fun p=>if keyOf p.1=some k then (p.1,d) else p else es++[(c,d)]
theorem any_val (k:Key):∀ kvs:List (Key × V),(kvs.any fun kv=>decide (kv.1=k))=(valV kvs k).isSome
  | []=>rfl
  | p::l=>by
    rw [List.any_cons,any_val k l]
    by_cases h:p.1=k
    . rw [valV_pos h,decide_eq_true h]; rfl
    . rw [valV_neg h,decide_eq_false h]; rfl
theorem RepKs.map {B:Hp} {k:Key} {d:D} {v:V} (hv:Rep B v d):∀ {kvs:List (Key × V)} {es:List (D × D)},RepKs B kvs es->RepKs B (kvs.map fun p=>if p.1=k then (p.1,v) else p) (es.map fun p=>if keyOf p.1=some k then (p.1,d) else p)
  | _,_,.nil=>.nil
  | _,_,.cons (k:=k') h1 h2 t=>by
    rw [List.map_cons,List.map_cons]
    by_cases e:k'=k
    . subst e
      rw [if_pos rfl,if_pos h1.of]
      exact .cons h1 hv (RepKs.map hv t)
    . rw [if_neg e,if_neg fun z=>e (by rw [h1.of] at z; exact Option.some.inj z)]
      exact .cons h1 h2 (RepKs.map hv t)
theorem RepKs.put {B:Hp} {k:Key} {c d:D} {v:V} (hk:KeyD k c) (hv:Rep B v d) {kvs:List (Key × V)} {es:List (D × D)} (r:RepKs B kvs es):RepKs B (putK kvs k v) (putD es c d k):=by
  unfold putK putD
  rw [any_val,look_is r]
  split
  . exact RepKs.map hv r
  . exact RepKs.snoc hk hv r
noncomputable def mPutD (i:Nat) (a b:PM):SM:=fun ρ=>(sv a ρ).bind fun x=>(fzOne x.1 x.2).bind fun y=>(ownD y.2[i]?).bind fun _=>(sv b y.2).bind fun z=>(keyOf z.1.1).bind fun k=>(ownD z.2[i]?).bind fun es=>cIf (es.length < 100000) (some (.nx (Mir.putAt z.2 i (.dict (putD es z.1.1 y.1 k))))) none
theorem ms_putD {i:Nat} {ty tv:TE} {a b:PM} (ha:ME tv a) (hb:ME ty b):MS (sDPut (tVar i) ty tv) (mPutD i a b):=by
  intro F B H σ ρ o D R e q
  obtain ⟨x,e1,e⟩:=Option.bind_eq_some_iff.mp e
  obtain ⟨y,e2,e⟩:=Option.bind_eq_some_iff.mp e
  obtain ⟨es0,e3,e⟩:=Option.bind_eq_some_iff.mp e
  obtain ⟨z,e4,e⟩:=Option.bind_eq_some_iff.mp e
  obtain ⟨k,e5,e⟩:=Option.bind_eq_some_iff.mp e
  obtain ⟨es,e6,e⟩:=Option.bind_eq_some_iff.mp e
  obtain ⟨hz,e⟩:=cIf_eq e
  cases e
  refine ha.sv F B H σ ρ x.1 x.2 _ R e1 fun v B1 H1 E1 R1 V1 N1=>?_
  have w:WVal B1 σ v x.1:=(Vl.weak (F:=F) (H:=H1) (ρ:=x.2) (vs:=[v]) (rs:=[x.1]) ⟨⟨V1,sv_kind e1⟩,trivial⟩).1
  obtain ⟨B2,R2,rp,E2⟩:=R1.frz w e2
  obtain ⟨s0,hs0,ho0,hd0⟩:=ownD_eq e3
  obtain ⟨p,hv,hB,ow⟩:=R2.ownAt hs0 ho0
  refine ⟨_,hv,?_⟩
  refine hb.sv F B2 H1 σ y.2 z.1 z.2 _ R2 e4 fun u B3 H3 E3 R3 V3 N3=>?_
  obtain rfl:=(V3.view R3).key e5
  obtain ⟨s,hs,ho,hd⟩:=ownD_eq e6
  obtain ⟨p',hv',hB',ow'⟩:=R3.ownAt hs ho
  rw [hv] at hv'
  cases hv'
  rw [hd] at ow'
  obtain ⟨kvs,hp,rk⟩:=ow'.dict
  obtain ⟨R4,E4⟩:=R3.write (o:=.dK (putK kvs k v)) (d:=.dict (putD es z.1.1 y.1 k)) hs ho hv ⟨(fun _ z=>by cases z),fun _ _ z=>by cases z⟩ (.dct upd_same (RepKs.put (keyOf_D e5) (rp.mono E3.sB) rk))
  have ep:Mir.putAt z.2 i (.dict (putD es z.1.1 y.1 k))=z.2.set i (s.put (.dict (putD es z.1.1 y.1 k))):=by unfold Mir.putAt; rw [hs]
  rw [ep] at q
  exact ⟨p,_,rfl,.inl ⟨kvs,k,hp,rfl,by rw [rk.length,sizeLine_eq]; omega,rfl⟩,q B3 _ σ R4⟩
end Mir
set_option Elab.async false
set_option linter.all false
set_option maxRecDepth 100000
namespace L2
open PySem PySem.Spec PyProof.Rows
section
variable {X:Cx} {pins:List (Addr × Obj)} {σ:St} {H:Hp} {s:Shared} {a:Addr} {kvs:List (Key × V)}
theorem Inv.view {u u':HO} (I:Inv X pins σ H s) (e:H a=some u) (nt:∀ xs,u≠.tup xs) (no:∀ x,u≠.own x) (nz:∀ o v,X.H₀ a≠some (.frz o v)) (nb:∀ ps,u≠.tbl ps) (new:ObjOk X.prog X.w (upd H a u') s.heap a u'):Inv X pins σ (upd H a u') s:=by
  have nn:∀ b,H b=none->b≠a:=fun b z y=>by rw [y,e] at z; cases z
  refine ⟨I.ok,I.os,I.bare,⟨I.base.keep,I.base.slot,fun b o q n hx=>?_,I.base.there,fun b xs q=>?_,fun b o v q=>?_,fun b ps q=>?_⟩,I.loc,I.cell,?_,fun x c hc=>?_,fun p hp=>?_,fun b v q=>?_,I.len⟩
  . have:=I.base.free b o q n hx
    rw [upd_ne (nn b this)]; exact this
  . have z:=I.base.tups b xs q
    rw [upd_ne (fun y=>by rw [y,e] at z; exact nt xs (Option.some.inj z))]; exact z
  . have z:=I.base.frzs b o v q
    rw [upd_ne (fun y=>nz o v (by rw [← y]; exact q))]; exact z
  . obtain ⟨m,z⟩:=I.base.tbls b ps q
    exact ⟨m,by rw [upd_ne (fun y=>by rw [y,e] at z; exact nb _ (Option.some.inj z))]; exact z⟩
  . rw [upd_ne (nn _ I.free)]; exact I.free
  . have z:=I.freeC x c hc
    rw [upd_ne (nn _ z)]; exact z
  . obtain ⟨a1,a2,a3,a4,a5⟩:=I.pin p hp
    exact ⟨a1,by rw [upd_ne (nn _ a2)]; exact a2,a3,a4,a5⟩
  . by_cases z:b=a
    . subst z
      rw [upd_same] at q
      cases q
      exact new
    . rw [upd_ne z] at q
      refine (I.hok b v q).stay (fun _ _ _ r=>r) (fun c r=>?_) fun c xs r=>?_
      . rw [upd_ne (fun y=>by rw [y,e] at r; exact no b (Option.some.inj r))]; exact r
      . rw [upd_ne (fun y=>by rw [y,e] at r; exact nt xs (Option.some.inj r))]; exact r
theorem Inv.noFrz (I:Inv X pins σ H s) (e:H a=some (.dK kvs)):∀ o v,X.H₀ a≠some (.frz o v):=fun o v z=>by
  have:=I.base.frzs a o v z
  rw [e] at this
  cases this
theorem Inv.frzD (I:Inv X pins σ H s) (e:H a=some (.dK kvs)):∃ o,Inv X pins σ (upd H a (.frz o (.dK kvs))) s:=by
  obtain ⟨z,hd,vs,rel,dd⟩:=dk_of I.hok e
  obtain ⟨o,es,ep,ho,r⟩:=id dd
  exact ⟨o,I.view e (fun _ z=>by cases z) (fun _ z=>by cases z) (I.noFrz e) (fun _ z=>by cases z) ⟨ho,z,hd,vs,rel,dd⟩⟩
theorem Inv.unfrzD {o:Obj} (I:Inv X pins σ H s) (e:H a=some (.frz o (.dK kvs))) (nz:∀ o v,X.H₀ a≠some (.frz o v)):Inv X pins σ (upd H a (.dK kvs)) s:=by
  obtain ⟨_,z,hd,vs,rel,dd⟩:=I.hok a _ e
  exact I.view e (fun _ z=>by cases z) (fun _ z=>by cases z) nz (fun _ z=>by cases z) ⟨z,hd,vs,rel,dd⟩
def unfz (a:Addr) (o:Obj) (kvs:List (Key × V)) (D:Ends):Ends where
  nx:=fun σ H=>H a=some (.frz o (.dK kvs))∧D.nx σ (upd H a (.dK kvs))
  rt:=fun v H=>H a=some (.frz o (.dK kvs))∧D.rt v (upd H a (.dK kvs))
  bk:=fun σ H=>H a=some (.frz o (.dK kvs))∧D.bk σ (upd H a (.dK kvs))
  ct:=fun σ H=>H a=some (.frz o (.dK kvs))∧D.ct σ (upd H a (.dK kvs))
def tFrzS (t:TS):TS:=fun D σ H=>∃ a kvs,H a=some (.dK kvs)∧∀ o,t (unfz a o kvs D) σ (upd H a (.frz o (.dK kvs)))
theorem ps_frz {st:Stmt} {t:TS} (h:PS X st t):PS X st (tFrzS t):=by
  intro pins s σ H D I hw
  obtain ⟨a,kvs,e,q⟩:=hw
  obtain ⟨o,I1⟩:=I.frzD e
  have nz:=I.noFrz e
  refine wpAny_mono (h pins s σ _ _ I1 (q o)) (fun f s1 z=>?_) fun _ _ z=>z
  cases f with
  | next=>obtain ⟨σ',H',I',e',z⟩:=z; exact ⟨σ',_,I'.unfrzD e' nz,z⟩
  | brk=>obtain ⟨σ',H',I',e',z⟩:=z; exact ⟨σ',_,I'.unfrzD e' nz,z⟩
  | cont=>obtain ⟨σ',H',I',e',z⟩:=z; exact ⟨σ',_,I'.unfrzD e' nz,z⟩
  | ret u=>obtain ⟨v,σ',H',I',r,e',z⟩:=z; exact ⟨v,σ',_,I'.unfrzD e' nz,r,z⟩
def tFrzE (t:TE):TE:=fun σ H Q=>∃ a kvs,H a=some (.dK kvs)∧∀ o,t σ (upd H a (.frz o (.dK kvs))) fun v H'=>H' a=some (.frz o (.dK kvs))∧Q v (upd H' a (.dK kvs))
theorem pe_frz {ex:Expr} {t:TE} (h:PE X ex t):PE X ex (tFrzE t):=by
  intro pins s σ H Q I hw
  obtain ⟨a,kvs,e,q⟩:=hw
  obtain ⟨o,I1⟩:=I.frzD e
  have nz:=I.noFrz e
  refine wpAny_mono (h pins s σ _ _ I1 (q o)) (fun u s1 z=>?_) fun _ _ z=>z
  obtain ⟨v,H',I',r,e',z⟩:=z
  exact ⟨v,_,I'.unfrzD e' nz,r,z⟩
def ItD (a:Addr) (o:Obj) (kvs:List (Key × V)):It where
  go:=fun i H=>H a=some (.frz o (.dK kvs))∧i < kvs.length
  yld:=fun i H x H'=>H'=H∧∃ k v,kvs[i]?=some (k,v)∧x=kV k
  stop:=fun i H=>H a=some (.frz o (.dK kvs))∧kvs.length≤i
theorem kv_at {kvs:List (Key × V)} {vs:List (Key × Value)} (r:KV kvs vs) (i:Nat) {k:Key} {x:Value} (h:vs[i]?=some (k,x)):∃ v,kvs[i]?=some (k,v):=by
  induction r generalizing i with
  | nil=>simp at h
  | cons h1 t ih =>
    cases i with
    | zero =>
      rename_i p q l l'
      have e:q=(k,x):=by simpa using h
      subst e
      exact ⟨p.2,by show some p=_; exact congrArg some (Prod.ext h1.1 rfl)⟩
    | succ i=>simpa using ih i (by simpa using h)
theorem turn_dict {P:Program} {w:World} {K:PySem.W.Frag} {tg:Expr} {a it:Addr} {o:Obj} {kvs:List (Key × V)} {vs:List (Key × Value)} {ep:Nat} {h₁:Heap} (rel:KV kvs vs) (ho:h₁.get? a=some o) (hat:h₁.DictAt (mixKind P w) a vs ep) :
    Turn P w K tg (ItD a o kvs) [it] it (fun i h=>h.IsKeyIter it a i vs.length ep) where
  mem:=by simp
  obj:=fun i h st b hb=>by
    have e:b=it:=by simpa using hb
    subst e
    obtain ⟨o,e,c,d⟩:=st
    exact ⟨o,e,fun v z=>by rw [d] at z; cases z⟩
  keep:=fun i h h' st k=>st.at fun o e=>k it (by simp) o e
  item:=by
    intro X hP hw hK hc i pins s σ H E I hf st hg
    subst hP hw hK
    obtain ⟨hH,hi⟩:=hg
    obtain ⟨hg,_⟩:=I.hok a _ hH
    have hd:s.heap.DictAt (mixKind X.prog X.w) a vs ep:=hat.at' fun o' e=>by rw [ho] at e; cases e; exact hg
    obtain ⟨f0,f1,f2,f3,f4,f5⟩:=hf it (by simp)
    have hl:=rel.length
    obtain ⟨⟨k,x⟩,hx⟩:∃ p,vs[i]?=some p:=⟨vs[i]'(by omega),by simp⟩
    refine wpAny_pyNext_dict_item st hd hx fun key h' hkey st' sb=>?_
    have I1:Inv X pins σ H { s with heap:=h' }:=I.turned (t':=s.toks) (fun b o hb e=>(sb.2 b hb).trans e) f0 f1 f3 f4 f5
    obtain ⟨oi,e,c,d⟩:=id st'
    obtain ⟨v,hv⟩:=kv_at rel i hx
    exact ⟨key,rfl,go_of (s:={ s with heap:=h' }) e c d (by decide) ⟨kV k,H,I1,is_kV hkey,⟨rfl,k,v,hv,rfl⟩,st',fun b hb=>(hf b hb).1⟩⟩
  done:=by
    intro X hP hw hK hc i pins s σ H E I hf st hg
    subst hP hw hK
    obtain ⟨hH,hi⟩:=hg
    obtain ⟨hg,_⟩:=I.hok a _ hH
    have hd:s.heap.DictAt (mixKind X.prog X.w) a vs ep:=hat.at' fun o' e=>by rw [ho] at e; cases e; exact hg
    obtain ⟨f0,f1,f2,f3,f4,f5⟩:=hf it (by simp)
    have hl:=rel.length
    exact wpAny_pyNext_dict_end (I.ok.hd hc) st hd (by simp; omega) fun h' eb=>⟨rfl,I.turned (t':=s.toks) (fun b o hb e=>eb b o hb e) f0 f1 f3 f4 f5⟩
  self:=fun A i s Q E st q=>wpAny_pyIter_keyiter st q
def iDct (tl:TE):TI:=fun σ H R=>tl σ H fun x H1=>∃ a o kvs,x=.ref a∧H1 a=some (.frz o (.dK kvs))∧R (ItD a o kvs) H1
theorem pi_dict {tg l:Expr} {tl:TE} (hl:PE X l tl):PI X tg l (iDct tl):=by
  intro pins s σ H R I h
  refine thn (hl pins s σ H _ I h) fun v s1 ⟨x,H1,I1,r1,q1⟩=>?_
  obtain ⟨a,o,kvs,e,hH,q⟩:=q1
  subst e
  cases r1
  obtain ⟨ho,z,hd,vs,rel,dd⟩:=I1.hok a _ hH
  obtain ⟨ep,hat⟩:=dd.dictAt
  refine wpAny_pyIter_dict hd hat ?_
  refine ⟨s1.heap.objs.size,[s1.heap.objs.size],_,_,H1,rfl,I1.kept (t':=s1.toks) fun b o e=>Heap.get?_push_of_some _ e,turn_dict rel ho hat,⟨_,Heap.get?_push_size _ rfl,rfl,rfl⟩,fun b hb=>?_,q⟩
  have e:b=s1.heap.objs.size:=by simpa using hb
  subst e
  exact I1.fpOk (Nat.le_refl _) (I1.hok.fresh (Nat.le_refl _))
end
end L2
set_option Elab.async false
set_option linter.all false
set_option maxRecDepth 100000
namespace Mir
open PySem L2
variable [Zc]
mutual
theorem Rep.map {B B':Hp} (hL:∀ p xs,Rd B p (.lst xs)->Rd B' p (.lst xs)) (hT:∀ p xs,B p=some (.tup xs)->B' p=some (.tup xs)) (hD:∀ p kvs,Rd B p (.dK kvs)->Rd B' p (.dK kvs)):∀ {v:V} {d:D},Rep B v d->Rep B' v d
  | _,_,.non=>.non
  | _,_,.bl b=>.bl b
  | _,_,.int i=>.int i
  | _,_,.str x=>.str x
  | _,_,.lst h r=>.lst (hL _ _ h) (Reps.map hL hT hD r)
  | _,_,.tup h r=>.tup (hT _ _ h) (Reps.map hL hT hD r)
  | _,_,.dct h r=>.dct (hD _ _ h) (RepKs.map' hL hT hD r)
theorem Reps.map {B B':Hp} (hL:∀ p xs,Rd B p (.lst xs)->Rd B' p (.lst xs)) (hT:∀ p xs,B p=some (.tup xs)->B' p=some (.tup xs)) (hD:∀ p kvs,Rd B p (.dK kvs)->Rd B' p (.dK kvs)):∀ {vs:List V} {ds:List D},Reps B vs ds->Reps B' vs ds
  | _,_,.nil=>.nil
  | _,_,.cons h r=>.cons (Rep.map hL hT hD h) (Reps.map hL hT hD r)
theorem RepKs.map' {B B':Hp} (hL:∀ p xs,Rd B p (.lst xs)->Rd B' p (.lst xs)) (hT:∀ p xs,B p=some (.tup xs)->B' p=some (.tup xs)) (hD:∀ p kvs,Rd B p (.dK kvs)->Rd B' p (.dK kvs)):∀ {kvs:List (Key × V)} {es:List (D × D)},RepKs B kvs es->RepKs B' kvs es
  | _,_,.nil=>.nil
  | _,_,.cons hk h r=>.cons hk (Rep.map hL hT hD h) (RepKs.map' hL hT hD r)
end
section
variable {B:Hp} {a:Addr} {o:Obj} {kvs:List (Key × V)}
theorem hide_L (hB:B a=some (.dK kvs)):∀ p xs,Rd B p (.lst xs)->Rd (upd B a (.frz o (.dK kvs))) p (.lst xs):=fun p xs h=>by
  by_cases z:p=a
  . subst z
    rcases h with h | ⟨o',h⟩ <;> (rw [hB] at h; cases h)
  . rcases h with h | ⟨o',h⟩
    . exact .inl (by rw [upd_ne z]; exact h)
    . exact .inr ⟨o',by rw [upd_ne z]; exact h⟩
theorem hide_T (hB:B a=some (.dK kvs)):∀ p xs,B p=some (.tup xs)->upd B a (.frz o (.dK kvs)) p=some (.tup xs):=fun p xs h=>by
  rw [upd_ne (fun z=>by rw [z,hB] at h; cases h)]; exact h
theorem hide_D (hB:B a=some (.dK kvs)):∀ p kvs',Rd B p (.dK kvs')->Rd (upd B a (.frz o (.dK kvs))) p (.dK kvs'):=fun p xs h=>by
  by_cases z:p=a
  . subst z
    rcases h with h | ⟨o',h⟩
    . rw [hB] at h; cases h
      exact .inr ⟨o,upd_same⟩
    . rw [hB] at h; cases h
  . rcases h with h | ⟨o',h⟩
    . exact .inl (by rw [upd_ne z]; exact h)
    . exact .inr ⟨o',by rw [upd_ne z]; exact h⟩
theorem show_L (hB:B a=some (.frz o (.dK kvs))):∀ p xs,Rd B p (.lst xs)->Rd (upd B a (.dK kvs)) p (.lst xs):=fun p xs h=>by
  by_cases z:p=a
  . subst z
    rcases h with h | ⟨o',h⟩ <;> (rw [hB] at h; cases h)
  . rcases h with h | ⟨o',h⟩
    . exact .inl (by rw [upd_ne z]; exact h)
    . exact .inr ⟨o',by rw [upd_ne z]; exact h⟩
theorem show_T (hB:B a=some (.frz o (.dK kvs))):∀ p xs,B p=some (.tup xs)->upd B a (.dK kvs) p=some (.tup xs):=fun p xs h=>by
  rw [upd_ne (fun z=>by rw [z,hB] at h; cases h)]; exact h
theorem show_D (hB:B a=some (.frz o (.dK kvs))):∀ p kvs',Rd B p (.dK kvs')->Rd (upd B a (.dK kvs)) p (.dK kvs'):=fun p xs h=>by
  by_cases z:p=a
  . subst z
    rcases h with h | ⟨o',h⟩
    . rw [hB] at h; cases h
    . rw [hB] at h; cases h
      exact .inl upd_same
  . rcases h with h | ⟨o',h⟩
    . exact .inl (by rw [upd_ne z]; exact h)
    . exact .inr ⟨o',by rw [upd_ne z]; exact h⟩
end
def noRo (ρ:Rho):Bool:=ρ.all fun s=>match s with
  | .ro _=>false
  | _=>true
theorem noRo_at {ρ:Rho} (h:noRo ρ=true) {i:Nat} {d:D} (z : ρ[i]?=some (.ro d)):False:=by
  have:=(List.all_eq_true.mp h) _ (List.mem_of_getElem? z)
  cases this
def Fr.hide (F:Fr) (a:Addr) (u:HO):Fr:=⟨fun q=>if q=a then (F.B a).map fun _=>u else F.B q,fun q=>if q=a then (F.H a).map fun _=>u else F.H q,F.io,fun q=>F.Z q∨q=a⟩
section
variable {F:Fr} {B H:Hp} {σ:St} {ρ:Rho} {a:Addr} {o:Obj} {kvs:List (Key × V)}
theorem Own.ne {p:Addr} {u:HO} (hp:B p=none) (hB:B a=some u):p≠a:=fun z=>by rw [z,hB] at hp; cases hp
theorem Rel.hide (R:Rel F B H σ ρ) (hB:B a=some (.dK kvs)) (nr:noRo ρ=true):Rel (F.hide a (.frz o (.dK kvs))) (upd B a (.frz o (.dK kvs))) (upd H a (.frz o (.dK kvs))) σ ρ:=by
  have own:∀ {p:Addr} {d:D},B p=none->Own B H p d->Own (upd B a (.frz o (.dK kvs))) (upd H a (.frz o (.dK kvs))) p d:=fun {p d} hp h=>by
    have z:=Own.ne hp hB
    cases h with
    | lst h r=>exact .lst (by rw [upd_ne z]; exact h) (Reps.map (hide_L hB) (hide_T hB) (hide_D hB) r)
    | dct h r=>exact .dct (by rw [upd_ne z]; exact h) (RepKs.map' (hide_L hB) (hide_T hB) (hide_D hB) r)
  refine ⟨fun q u h=>?_,fun q u h=>?_,fun q u h n=>?_,fun q h1 h2=>?_,R.len,fun i s hs=>?_,R.dist,fun i d p h1 h2=>?_,R.fx,R.ioN,fun q xs h=>?_,R.exv,fun q o' u h=>?_⟩
  . by_cases z:q=a
    . subst z; rw [upd_same] at h ⊢; exact h
    . rw [upd_ne z] at h ⊢; exact R.sub q u h
  . by_cases z:q=a
    . subst z
      have e:(∃ x,F.B q=some x)∧HO.frz o (HO.dK kvs)=u:=by simpa [Fr.hide] using h
      rw [upd_same,e.2]
    . rw [upd_ne z]; exact R.sB q u (by simpa [Fr.hide,z] using h)
  . by_cases z:q=a
    . subst z
      have e:(∃ x,F.H q=some x)∧HO.frz o (HO.dK kvs)=u:=by simpa [Fr.hide] using h
      rw [upd_same,e.2]
    . rw [upd_ne z]; exact R.sH q u (by simpa [Fr.hide,z] using h) n
  . by_cases z:q=a
    . subst z
      have g1:F.H q≠none:=fun y=>h1 (by simp [Fr.hide,y])
      have g2:F.B q=none:=by simpa [Fr.hide] using h2
      have:=R.nB q g1 g2
      rw [hB] at this; cases this
    . rw [upd_ne z]; exact R.nB q (by simpa [Fr.hide,z] using h1) (by simpa [Fr.hide,z] using h2)
  . have:=R.slot i s hs
    cases s with
    | no=>trivial
    | ex=>trivial
    | fz d=>obtain ⟨v,h1,h2⟩:=this; exact ⟨v,h1,Rep.map (hide_L hB) (hide_T hB) (hide_D hB) h2⟩
    | own d=>obtain ⟨p,h1,h2,h3⟩:=this; exact ⟨p,h1,by rw [upd_ne (Own.ne h2 hB)]; exact h2,own h2 h3⟩
    | io d=>obtain ⟨p,h1,h2,h3⟩:=this; exact ⟨p,h1,by rw [upd_ne (Own.ne h2 hB)]; exact h2,own h2 h3⟩
    | ro d=>exact (noRo_at nr hs).elim
  . have h3:=R.ownN i d p h1 h2
    obtain ⟨p',g1,g2,_⟩:=R.slot i _ h1
    rw [h2] at g1; cases g1
    have z:=Own.ne g2 hB
    show (if p=a then _ else F.H p)=none
    rw [if_neg z]; exact h3
  . have z:q≠a:=fun z=>by rw [z,upd_same] at h; cases h
    rw [upd_ne z] at h ⊢; exact R.tupB q xs h
  . by_cases z:q=a
    . exact .inr z
    . rw [upd_ne z] at h; exact .inl (R.nz q o' u h)
theorem Rel.show (R0:∃ B0 H0 σ0 ρ0,Rel F B0 H0 σ0 ρ0∧B0 a=some (.dK kvs)) (R:Rel (F.hide a (.frz o (.dK kvs))) B H σ ρ) (hB:B a=some (.frz o (.dK kvs))) (nr:noRo ρ=true):Rel F (upd B a (.dK kvs)) (upd H a (.dK kvs)) σ ρ:=by
  obtain ⟨B0,H0,σ0,ρ0,R0,hB0⟩:=R0
  have own:∀ {p:Addr} {d:D},B p=none->Own B H p d->Own (upd B a (.dK kvs)) (upd H a (.dK kvs)) p d:=fun {p d} hp h=>by
    have z:=Own.ne hp hB
    cases h with
    | lst h r=>exact .lst (by rw [upd_ne z]; exact h) (Reps.map (show_L hB) (show_T hB) (show_D hB) r)
    | dct h r=>exact .dct (by rw [upd_ne z]; exact h) (RepKs.map' (show_L hB) (show_T hB) (show_D hB) r)
  refine ⟨fun q u h=>?_,fun q u h=>?_,fun q u h n=>?_,fun q h1 h2=>?_,R.len,fun i s hs=>?_,R.dist,fun i d p h1 h2=>?_,R.fx,R.ioN,fun q xs h=>?_,R.exv,fun q o' u h=>?_⟩
  . by_cases z:q=a
    . subst z; rw [upd_same] at h ⊢; exact h
    . rw [upd_ne z] at h ⊢; exact R.sub q u h
  . by_cases z:q=a
    . subst z
      have:=R0.sB q u h
      rw [hB0] at this
      rw [upd_same]; exact this
    . rw [upd_ne z]; exact R.sB q u (by simpa [Fr.hide,z] using h)
  . by_cases z:q=a
    . subst z
      have:=R0.sH q u h n
      rw [R0.sub q _ hB0] at this
      rw [upd_same]; exact this
    . rw [upd_ne z]; exact R.sH q u (by simpa [Fr.hide,z] using h) n
  . by_cases z:q=a
    . subst z
      have:=R0.nB q h1 h2
      rw [hB0] at this; cases this
    . rw [upd_ne z]; exact R.nB q (by simpa [Fr.hide,z] using h1) (by simpa [Fr.hide,z] using h2)
  . have:=R.slot i s hs
    cases s with
    | no=>trivial
    | ex=>trivial
    | fz d=>obtain ⟨v,h1,h2⟩:=this; exact ⟨v,h1,Rep.map (show_L hB) (show_T hB) (show_D hB) h2⟩
    | own d=>obtain ⟨p,h1,h2,h3⟩:=this; exact ⟨p,h1,by rw [upd_ne (Own.ne h2 hB)]; exact h2,own h2 h3⟩
    | io d=>obtain ⟨p,h1,h2,h3⟩:=this; exact ⟨p,h1,by rw [upd_ne (Own.ne h2 hB)]; exact h2,own h2 h3⟩
    | ro d=>exact (noRo_at nr hs).elim
  . have h3:=R.ownN i d p h1 h2
    obtain ⟨p',g1,g2,_⟩:=R.slot i _ h1
    rw [h2] at g1; cases g1
    have z:=Own.ne g2 hB
    have:(if p=a then (F.H a).map fun _=>HO.frz o (.dK kvs) else F.H p)=none:=h3
    rw [if_neg z] at this; exact this
  . have z:q≠a:=fun z=>by rw [z,upd_same] at h; cases h
    rw [upd_ne z] at h ⊢; exact R.tupB q xs h
  . have z:q≠a:=fun z=>by rw [z,upd_same] at h; cases h
    rw [upd_ne z] at h
    rcases R.nz q o' u h with w | w
    . exact w
    . exact absurd w z
end
theorem itd_ok {G B:Hp} {a:Addr} {o:Obj} {kvs:List (Key × V)} {es:List (D × D)} (h:G a=some (.frz o (.dK kvs))) (r:RepKs B kvs es):ItOk G B (ItD a o kvs) (es.map (·.1)):=fun H s=>by
  have h':=s _ _ h
  have hl:=r.length
  refine ⟨⟨h',by rw [List.length_map]; omega⟩,fun i d hd=>?_⟩
  have hi:i < es.length:=by have:=(List.getElem?_eq_some_iff.mp hd).1; rwa [List.length_map] at this
  refine ⟨⟨h',by omega⟩,fun x H' hy=>?_⟩
  obtain ⟨rfl,k,v,hk,rfl⟩:=hy
  refine .inl ⟨rfl,?_⟩
  have kr:=keys_rep r
  obtain ⟨w,h1,h2⟩:=kr.get i d hd
  have e:(kvs.map fun q=>kV q.1)[i]?=some (kV k):=by rw [List.getElem?_map,hk]; rfl
  rw [e] at h1
  cases h1
  exact h2
theorem for_at {tg:TG} {tb:TS} {g:D->Rho->Option Rho} {b:SM} (hg:MG tg g) (hb:MS tb b) {F:Fr} {B1 H1:Hp} {σ:St} {ρ1:Rho} {J:It} {ds:List D} {o:Out} {D:Ends} (R1:Rel F B1 H1 σ ρ1) (I1:ItOk B1 B1 J ds) (e:forL g b ds ρ1=some o) (q:OutOk F D o) :
    ∃ W:Nat->Nat->St->Hp->Prop,(∃ m,W 0 m σ H1)∧∀ i m σ H,W i m σ H->(J.stop i H∧D.nx σ H)∨(J.go i H∧∃ N:St->Hp->Prop,(∀ σ' H',N σ' H'->∃ m',m' < m∧W (i + 1) m' σ' H')∧∀ x H',J.yld i H x H'->tg x σ H' fun σ2 H2=>tb { D with nx:=N,ct:=N,bk:=D.nx } σ2 H2):=by
  have q':=q.down R1
  refine ⟨fun i m σ H=>m=ds.length - i∧i≤ds.length∧∃ B ρ,Rel ⟨B1,F.H,F.io,F.Z⟩ B H σ ρ∧forL g b (ds.drop i) ρ=some o,⟨ds.length,rfl,Nat.zero_le _,B1,ρ1,R1.down,e⟩,?_⟩
  rintro i m σ2 H2 ⟨rfl,hil,B2,ρ2,R2,e2⟩
  have sH:Same B1 H2:=R2.sB.trans R2.sub
  by_cases hlt:i < ds.length
  . refine .inr ?_
    obtain ⟨go,yl⟩:=(I1 H2 sH).2 i ds[i] (List.getElem?_eq_getElem hlt)
    rw [List.drop_eq_getElem_cons hlt] at e2
    obtain ⟨ρ3,e3,e4⟩:=Option.bind_eq_some_iff.mp (show (g ds[i] ρ2).bind _=some o from e2)
    obtain ⟨w,e5,e6⟩:=Option.bind_eq_some_iff.mp e4
    refine ⟨go,fun σ' H'=>∃ B' ρ',Rel ⟨B1,F.H,F.io,F.Z⟩ B' H' σ' ρ'∧forL g b (ds.drop (i + 1)) ρ'=some o,fun σ' H' h'=>⟨ds.length - (i + 1),by omega,rfl,hlt,h'⟩,fun y H3 hy=>?_⟩
    have had:∃ B3,Rel ⟨B1,F.H,F.io,F.Z⟩ B3 H3 σ2 ρ2∧Rep B3 y ds[i]:=by
      rcases yl y H3 hy with ⟨rfl,h2⟩ | ⟨p,xs,cs,h1,rfl,h3,rfl,h5⟩
      . exact ⟨B2,R2,h2.mono R2.sB⟩
      . obtain ⟨R3,E3,e3⟩:=R2.layT (xs:=xs) h3
        exact ⟨_,R3,by rw [h1]; exact .tup upd_same (h5.mono (R2.sB.trans e3))⟩
    obtain ⟨B3,R3,rp⟩:=had
    refine hg _ B3 H3 σ2 ρ2 y ds[i] ρ3 _ R3 rp e3 fun B4 H4 σ4 R4 _=>?_
    refine hb _ B4 H4 σ4 ρ3 w _ R4 e5 ?_
    cases w with
    | nx ρ'=>exact fun B' H' σ' R'=>⟨B',ρ',R',e6⟩
    | ct ρ'=>exact fun B' H' σ' R'=>⟨B',ρ',R',e6⟩
    | bk ρ'=>cases e6; exact q'
    | rt r ρ'=>cases e6; exact q'
  . have hi':i=ds.length:=by omega
    subst hi'
    rw [List.drop_length] at e2
    cases e2
    exact .inl ⟨(I1 H2 sH).1,q' B2 H2 σ2 R2⟩
def outR:Out->Rho
  | .nx ρ=>ρ
  | .rt _ ρ=>ρ
  | .bk ρ=>ρ
  | .ct ρ=>ρ
def asDfz:RV->Option (List (D × D))
  | (.dict es,.fz)=>some es
  | _=>none
theorem asDfz_eq {r:RV} {es:List (D × D)} (h:asDfz r=some es):r=(.dict es,.fz):=by
  unfold asDfz at h
  split at h
  . cases h; rfl
  . cases h
def mForD (dv:PM) (g:D->Rho->Option Rho) (b:SM):SM:=fun ρ=>(dv ρ).bind fun x=>(asDfz x.1).bind fun es=>if noRo ρ=true then (forL g b (es.map (·.1)) x.2).bind fun o=>if noRo (outR o)=true then some o else none else none
def Calm (tl:TE) (dv:PM):Prop:=∀ (F:Fr) (B H:Hp) (σ:St) (ρ:Rho) (r:RV) (ρ':Rho),Rel F B H σ ρ->dv ρ=some (r,ρ')->ρ'=ρ∧∃ v,Rep B v r.1∧(∀ Q:VK,Q v H->tl σ H Q)∧∀ a o kvs,B a=some (.dK kvs)->∀ Q:VK,Q v (upd H a (.frz o (.dK kvs)))->tl σ (upd H a (.frz o (.dK kvs))) Q
def mVarF (i:Nat):PM:=fun ρ=>match ρ[i]? with
  | some (.fz d)=>some ((d,.fz),ρ)
  | _=>none
theorem calm_var {i:Nat}:Calm (tVar i) (mVarF i):=by
  intro F B H σ ρ r ρ' R e
  unfold mVarF at e
  split at e
  . rename_i d h
    cases e
    obtain ⟨v,h1,h2⟩:=R.slot i _ h
    exact ⟨rfl,v,h2,fun Q q=>⟨v,h1,q⟩,fun a o kvs _ Q q=>⟨v,h1,q⟩⟩
  . cases e
def mIxF (dv:PM) (j:Nat):PM:=fun ρ=>(dv ρ).bind fun x=>match x.1.1 with
  | .tuple ds=>(ds[j]?).map fun d=>((d,.fz),x.2)
  | _=>none
theorem calm_ix {K:PySem.W.Frag} {tl:TE} {dv:PM} {j:Nat} (h:Calm tl dv):Calm (tOp (rIx K) tl (tC (.int (j:Int)))) (mIxF dv j):=by
  intro F B H σ ρ r ρ' R e
  obtain ⟨x,e1,e⟩:=Option.bind_eq_some_iff.mp e
  obtain ⟨⟨c,k⟩,ρ1⟩:=x
  cases c with
  | tuple ds =>
    obtain ⟨d,e2,e⟩:=Option.map_eq_some_iff.mp (show (ds[j]?).map _=some (r,ρ') from e)
    cases e
    obtain ⟨rfl,v,rv,h1,h2⟩:=h F B H σ ρ _ _ R e1
    refine ⟨rfl,?_⟩
    cases rv with
    | @tup p xs _ hp rp =>
      obtain ⟨w,g1,g2⟩:=rp.get j d e2
      have at1:atI xs (j:Int)=some w:=by
        have hl:j < xs.length:=(List.getElem?_eq_some_iff.mp g1).1
        unfold atI
        have:ixN xs.length (j:Int)=some j:=ixN_nat hl
        rw [this]; exact g1
      refine ⟨w,g2,fun Q q=>h1 _ (.inr (.inl ⟨p,xs,(j:Int),w,rfl,rfl,.inl (.inl (R.sub _ _ hp)),at1,q⟩)),fun a o kvs ha Q q=>h2 a o kvs ha _ (.inr (.inl ⟨p,xs,(j:Int),w,rfl,rfl,.inl (.inl ?_),at1,q⟩))⟩
      rw [upd_ne (fun z=>by rw [z,ha] at hp; cases hp)]
      exact R.sub _ _ hp
  | _=>cases e
theorem Own.show {B H:Hp} {a p:Addr} {o:Obj} {kvs:List (Key × V)} {d:D} (hB:B a=some (.frz o (.dK kvs))) (z:p≠a) (h:Own B H p d):Own (upd B a (.dK kvs)) (upd H a (.dK kvs)) p d:=by
  cases h with
  | lst h r=>exact .lst (by rw [upd_ne z]; exact h) (Reps.map (show_L hB) (show_T hB) (show_D hB) r)
  | dct h r=>exact .dct (by rw [upd_ne z]; exact h) (RepKs.map' (show_L hB) (show_T hB) (show_D hB) r)
theorem val_show {F:Fr} {B H:Hp} {σ:St} {ρ:Rho} {a:Addr} {o:Obj} {kvs:List (Key × V)} {v:V} {r:RV} (hB:B a=some (.frz o (.dK kvs))) (hH:H a=some (.frz o (.dK kvs))) (V:Val (F.hide a (.frz o (.dK kvs))) B H σ ρ v r):Val F (upd B a (.dK kvs)) (upd H a (.dK kvs)) σ ρ v r:=by
  obtain ⟨c,k⟩:=r
  cases k with
  | fz=>exact Rep.map (show_L hB) (show_T hB) (show_D hB) V
  | new =>
    obtain ⟨p,rfl,h1,h2,h3,h4⟩:=V
    have z:=Own.ne h1 hB
    refine ⟨p,rfl,by rw [upd_ne z]; exact h1,?_,Own.show hB z h3,h4⟩
    have:(if p=a then (F.H a).map fun _=>HO.frz o (.dK kvs) else F.H p)=none:=h2
    rw [if_neg z] at this; exact this
  | «at» i=>exact V
  | ro =>
    obtain ⟨p,rfl,h1,h2⟩:=V
    have z:p≠a:=fun z=>by
      subst z
      cases h1 with
      | lst h _=>rw [hH] at h; cases h
      | dct h _=>rw [hH] at h; cases h
    exact ⟨p,rfl,Own.show hB z h1,h2⟩
theorem out_show {F:Fr} {B0 H0:Hp} {σ0:St} {ρ0:Rho} {a:Addr} {ob:Obj} {kvs:List (Key × V)} (R0:Rel F B0 H0 σ0 ρ0) (hB:B0 a=some (.dK kvs)) {o:Out} {D:Ends} (nr:noRo (outR o)=true) (q:OutOk F D o):OutOk ⟨upd B0 a (.frz ob (.dK kvs)),(F.hide a (.frz ob (.dK kvs))).H,F.io,(F.hide a (.frz ob (.dK kvs))).Z⟩ (unfz a ob kvs D) o:=by
  have up:∀ {B H σ ρ},Rel ⟨upd B0 a (.frz ob (.dK kvs)),(F.hide a (.frz ob (.dK kvs))).H,F.io,(F.hide a (.frz ob (.dK kvs))).Z⟩ B H σ ρ->Rel (F.hide a (.frz ob (.dK kvs))) B H σ ρ∧B a=some (.frz ob (.dK kvs)):=fun {B H σ ρ} R=>by
    refine ⟨⟨R.sub,fun q u h=>R.sB q u ?_,R.sH,fun q h z=>R.nB q h ?_,R.len,R.slot,R.dist,R.ownN,R.fx,R.ioN,R.tupB,R.exv,R.nz⟩,R.sB a _ upd_same⟩
    . show upd B0 a _ q=some u
      by_cases w:q=a
      . subst w
        have e:(∃ x,F.B q=some x)∧HO.frz ob (HO.dK kvs)=u:=by simpa [Fr.hide] using h
        rw [upd_same,e.2]
      . rw [upd_ne w]; exact R0.sB q u (by simpa [Fr.hide,w] using h)
    . show upd B0 a _ q=none
      by_cases w:q=a
      . subst w
        have g1:F.H q≠none:=fun y=>h (by simp [Fr.hide,y])
        have g2:F.B q=none:=by simpa [Fr.hide] using z
        have:=R0.nB q g1 g2
        rw [hB] at this; cases this
      . rw [upd_ne w]; exact R0.nB q (by simpa [Fr.hide,w] using h) (by simpa [Fr.hide,w] using z)
  cases o with
  | nx ρ=>exact fun B H σ R=>⟨R.sub a _ (up R).2,q _ _ _ (Rel.show ⟨_,_,_,_,R0,hB⟩ (up R).1 (up R).2 nr)⟩
  | bk ρ=>exact fun B H σ R=>⟨R.sub a _ (up R).2,q _ _ _ (Rel.show ⟨_,_,_,_,R0,hB⟩ (up R).1 (up R).2 nr)⟩
  | ct ρ=>exact fun B H σ R=>⟨R.sub a _ (up R).2,q _ _ _ (Rel.show ⟨_,_,_,_,R0,hB⟩ (up R).1 (up R).2 nr)⟩
  | rt r ρ=>exact fun v B H σ R V=>⟨R.sub a _ (up R).2,q _ _ _ _ (Rel.show ⟨_,_,_,_,R0,hB⟩ (up R).1 (up R).2 nr) (val_show (up R).2 (R.sub a _ (up R).2) V)⟩
def tFrzS2 (t:TS):TS:=fun D σ H=>tFrzS t D σ H∨t D σ H
theorem _root_.L2.ps_frz2 {X:Cx} {st:Stmt} {t:TS} (h:PS X st t):PS X st (tFrzS2 t):=by
  intro pins s σ H D I hw
  rcases hw with hw | hw
  . exact ps_frz h pins s σ H D I hw
  . exact h pins s σ H D I hw
theorem ms_forD {tl:TE} {tg:TG} {tb:TS} {dv:PM} {g:D->Rho->Option Rho} {b:SM} (hc:Calm tl dv) (hg:MG tg g) (hb:MS tb b):MS (tFrzS2 (tFor (iDct tl) tg tb)) (mForD dv g b):=by
  intro F B H σ ρ o D R e q
  obtain ⟨x,e1,e⟩:=Option.bind_eq_some_iff.mp e
  obtain ⟨es,e2,e⟩:=Option.bind_eq_some_iff.mp e
  split at e
  rotate_left
  . cases e
  rename_i nr
  obtain ⟨o',e3,e⟩:=Option.bind_eq_some_iff.mp e
  split at e
  rotate_left
  . cases e
  rename_i nr2
  cases e
  obtain ⟨r,ρ1⟩:=x
  obtain ⟨rfl,v,rv,h1,h2⟩:=hc F B H σ ρ r ρ1 R e1
  obtain rfl:=asDfz_eq e2
  cases rv with
  | @dct a kvs _ hd rk =>
    rcases hd with hd | ⟨ob,hd⟩
    . refine .inl ⟨a,kvs,R.sub a _ hd,fun ob=>?_⟩
      have R':=R.hide (o:=ob) hd nr
      refine h2 a ob kvs hd _ ⟨a,ob,kvs,rfl,upd_same,?_⟩
      exact for_at hg hb R'.down (itd_ok upd_same (RepKs.map' (hide_L hd) (hide_T hd) (hide_D hd) rk)) e3 (out_show R hd nr2 q)
    . exact .inr (h1 _ ⟨a,ob,kvs,rfl,R.sub a _ hd,for_at hg hb R (itd_ok hd rk) e3 q⟩)
end Mir
set_option Elab.async false
set_option linter.all false
set_option maxRecDepth 100000
namespace Mir
open PySem L2
variable [Zc]
theorem lc_at {fr:List (Str × Nat)} {tc:TT} {te:TE} {c:Rho->Option (Bool × Rho)} {e:PM} (hc:MT tc c) (he:ME te e) {F:Fr} {B1 H1:Hp} {σ:St} {ρ1:Rho} {J:It} {ds out:List D} {Q:VK} (R1:Rel F B1 H1 σ ρ1) (I1:ItOk H1 B1 J ds) (e2:compL c e (fr.map fun p=>demote ρ1 p.2) ds=some out) (hz:out.length < sizeLine)
    (q:∀ v B' H',Ext σ ρ1 B1 H1 ρ1 B' H'->Rel F B' H' σ ρ1->Val F B' H' σ ρ1 v (.list out,.new)->(∀ p,Kd.new=Kd.new->v=.ref p->H1 p=none)->Q v H') :
    ∃ W:Nat->Nat->List V->Hp->Prop,(∃ m,W 0 m [] H1)∧∀ i m ys H2,W i m ys H2->ys.length < sizeLine ∧
  ((J.stop i H2∧∀ D,H2 D=none->Q (.ref D) (upd H2 D (.lst ys))) ∨
    (J.go i H2∧∀ v H3,J.yld i H2 v H3->tc (some v::compRest σ fr) H3 fun b H4 =>
      if b=true then te (some v::compRest σ fr) H4 fun y H5=>∃ m',m' < m∧W (i + 1) m' (ys++[y]) H5 else ∃ m',m' < m∧W (i + 1) m' ys H4)):=by
  refine ⟨fun i m ys H2=>m=ds.length - i∧i≤ds.length∧∃ B2 done rest,Same B1 B2∧Same H1 H2∧(∀ q,H1 q≠none->B1 q=none->B2 q=none)∧Rel F B2 H2 σ ρ1∧Reps B2 ys done∧compL c e (fr.map fun p=>demote ρ1 p.2) (ds.drop i)=some rest∧done++rest=out,
    ⟨ds.length,rfl,Nat.zero_le _,B1,[],out,Same.refl _,Same.refl _,fun _ _ z=>z,R1,.nil,e2,rfl⟩,?_⟩
  rintro i m ys H2 ⟨rfl,hil,B2,done,rest,eB,eH,nb,R2,rp,hcl,hdr⟩
  have hlen:ys.length≤out.length:=by rw [← hdr,List.length_append,rp.length]; omega
  refine ⟨by omega,?_⟩
  by_cases hlt:i < ds.length
  . refine .inr ?_
    obtain ⟨go,yl⟩:=(I1 H2 eH).2 i ds[i] (List.getElem?_eq_getElem hlt)
    refine ⟨go,fun v H3 hy=>?_⟩
    rw [List.drop_eq_getElem_cons hlt] at hcl
    obtain ⟨b,c1,c2⟩:=Option.bind_eq_some_iff.mp (show (c (.fz ds[i]::fr.map fun p=>demote ρ1 p.2)).bind _=some rest from hcl)
    have had:∃ B3,Same B2 B3∧Same H2 H3∧(∀ q,H2 q≠none->B2 q=none->B3 q=none)∧Rel F B3 H3 σ ρ1∧Rep B3 v ds[i]:=by
      rcases yl v H3 hy with ⟨rfl,h2⟩ | ⟨p,xs,cs,h1,rfl,h3,rfl,h5⟩
      . exact ⟨B2,Same.refl _,Same.refl _,fun _ _ z=>z,R2,h2.mono eB⟩
      . obtain ⟨R3,E3,e3⟩:=R2.layT (xs:=xs) h3
        refine ⟨_,e3,same_upd h3,fun q h z=>?_,R3,?_⟩
        . rw [upd_ne (show q≠p from fun y=>h (by rw [y]; exact h3))]; exact z
        . rw [h1]; exact .tup upd_same (h5.mono (eB.trans e3))
    obtain ⟨B3,eB3,eH3,nb3,R3,rv⟩:=had
    have Ri:=R3.inner fr rv
    refine hc (F0 H3) B3 H3 _ _ b.1 b.2 _ Ri c1 fun B4 H4 E4 R4=>?_
    obtain ⟨eH4,nb4⟩:=inner_ext inner_nown E4
    have R4o:Rel F B4 H4 σ ρ1:=R3.grow E4.sB eH4 R4.sub nb4 R4.tupB R4.nz
    have nbA:∀ q,H1 q≠none->B1 q=none->B4 q=none:=fun q h z=>by
      have h2:H2 q≠none:=fun y=>h (eH.free y)
      have h3:H3 q≠none:=fun y=>h2 (eH3.free y)
      exact nb4 q h3 (nb3 q h2 (nb q h z))
    cases hb:b.1 with
    | false =>
      rw [hb,if_neg Bool.false_ne_true] at c2
      rw [if_neg Bool.false_ne_true]
      exact ⟨ds.length - (i + 1),by omega,rfl,hlt,B4,done,rest,eB.trans (eB3.trans E4.sB),eH.trans (eH3.trans eH4),nbA,R4o,rp.mono (eB3.trans E4.sB),c2,hdr⟩
    | true =>
      rw [hb,if_pos rfl] at c2
      rw [if_pos rfl]
      obtain ⟨y,c3,c2⟩:=Option.bind_eq_some_iff.mp c2
      obtain ⟨z,c4,c2⟩:=Option.bind_eq_some_iff.mp c2
      obtain ⟨rest',c5,c6⟩:=Option.map_eq_some_iff.mp c2
      subst c6
      have Ri4:=R4o.inner fr (rv.mono E4.sB)
      refine he.sv (F0 H4) B4 H4 _ _ y.1 y.2 _ Ri4 c3 fun u B5 H5 E5 R5 V5 N5=>?_
      obtain ⟨eH5,nb5⟩:=inner_ext inner_nown E5
      have R5o:Rel F B5 H5 σ ρ1:=R4o.grow E5.sB eH5 R5.sub nb5 R5.tupB R5.nz
      rw [asF_eq c4] at V5
      refine ⟨ds.length - (i + 1),by omega,rfl,hlt,B5,done++[z],rest',eB.trans (eB3.trans (E4.sB.trans E5.sB)),eH.trans (eH3.trans (eH4.trans eH5)),fun q h w=>?_,R5o,(rp.mono (eB3.trans (E4.sB.trans E5.sB))).append (.cons V5 .nil),c5,by rw [List.append_assoc]; exact hdr⟩
      have h2:H2 q≠none:=fun y=>h (eH.free y)
      have h3:H3 q≠none:=fun y=>h2 (eH3.free y)
      have h4:H4 q≠none:=fun y=>h3 (eH4.free y)
      exact nb5 q h4 (nbA q h w)
  . have hi':i=ds.length:=by omega
    subst hi'
    refine .inl ⟨(I1 H2 eH).1,fun p hp=>?_⟩
    rw [List.drop_length] at hcl
    cases hcl
    rw [List.append_nil] at hdr
    subst hdr
    have E2:Ext σ ρ1 B1 H1 ρ1 B2 H2:=Ext.grow eB eH nb
    have:=res_end (res:=(.list done,true)) (k:=fun Q=>∀ p,H2 p=none->Q (.ref p) (upd H2 p (.lst ys))) (Q:=Q) R2 ⟨ys,rp,fun Q h=>h⟩ fun v B' H' E R' V' N=>q v B' H' (E2.trans E) R' V' fun p z1 z2=>E2.live p (N p z1 z2)
    exact this p hp
noncomputable def mLCD (fr:List (Str × Nat)) (dv:PM) (c:Rho->Option (Bool × Rho)) (e:PM):PM:=fun ρ=>(dv ρ).bind fun x=>(asDfz x.1).bind fun es=>if noRo ρ=true then (compL c e (fr.map fun p=>demote ρ p.2) (es.map (·.1))).bind fun out=>cIf (out.length < sizeLine) (some ((.list out,.new),ρ)) none else none
def tFrzE2 (t:TE):TE:=fun σ H Q=>tFrzE t σ H Q∨t σ H Q
theorem _root_.L2.pe_frz2 {X:Cx} {ex:Expr} {t:TE} (h:PE X ex t):PE X ex (tFrzE2 t):=by
  intro pins s σ H Q I hw
  rcases hw with hw | hw
  . exact pe_frz h pins s σ H Q I hw
  . exact h pins s σ H Q I hw
theorem me_lcD {fr:List (Str × Nat)} {tl:TE} {tc:TT} {te:TE} {dv:PM} {c:Rho->Option (Bool × Rho)} {e:PM} (hd:Calm tl dv) (hc:MT tc c) (he:ME te e):ME (tFrzE2 (tLC fr (iDct tl) tc te)) (mLCD fr dv c e):=by
  intro F B H σ ρ r0 ρ' Q R e0 q
  obtain ⟨x,e1,e0⟩:=Option.bind_eq_some_iff.mp e0
  obtain ⟨es,e2,e0⟩:=Option.bind_eq_some_iff.mp e0
  split at e0
  rotate_left
  . cases e0
  rename_i nr
  obtain ⟨out,e3,e0⟩:=Option.bind_eq_some_iff.mp e0
  obtain ⟨hz,e0⟩:=cIf_eq e0
  cases e0
  obtain ⟨r,ρ1⟩:=x
  obtain ⟨_,v,rv,h1,h2⟩:=hd F B H σ ρ r ρ1 R e1
  obtain rfl:=asDfz_eq e2
  cases rv with
  | @dct a kvs _ hdd rk =>
    rcases hdd with hdd | ⟨ob,hdd⟩
    . refine .inl ⟨a,kvs,R.sub a _ hdd,fun ob=>?_⟩
      have R':=R.hide (o:=ob) hdd nr
      refine h2 a ob kvs hdd _ ⟨a,ob,kvs,rfl,upd_same,?_⟩
      refine lc_at (Q:=fun v H'=>H' a=some (.frz ob (.dK kvs))∧Q v (upd H' a (.dK kvs))) hc he R' (itd_ok upd_same (RepKs.map' (hide_L hdd) (hide_T hdd) (hide_D hdd) rk)) e3 hz fun w B' H' E' RR V' N'=>?_
      have hB':B' a=some (.frz ob (.dK kvs)):=E'.sB a _ upd_same
      have hH':=RR.sub a _ hB'
      refine ⟨hH',q w _ _ ?_ (Rel.show ⟨_,_,_,_,R,hdd⟩ RR hB' nr) (val_show hB' hH' V') fun p z1 z2=>?_⟩
      . refine ⟨fun p u h=>?_,fun p u h n=>?_,E'.own,E'.ref,fun p h=>?_⟩
        . by_cases z:p=a
          . subst z; rw [upd_same,← hdd]; exact h
          . rw [upd_ne z]; exact E'.sB p u (by rw [upd_ne z]; exact h)
        . by_cases z:p=a
          . subst z
            rw [R.sub p _ hdd] at h
            exact ⟨by rw [upd_same]; exact h,fun y=>by rw [hdd] at y; cases y⟩
          . obtain ⟨k1,k2⟩:=E'.keep p u (by rw [upd_ne z]; exact h) n
            exact ⟨by rw [upd_ne z]; exact k1,fun y=>by rw [upd_ne z]; exact k2 (by rw [upd_ne z]; exact y)⟩
        . have z:p≠a:=fun z=>by rw [z,upd_same] at h; cases h
          rw [upd_ne z] at h
          have:=E'.live p h
          rw [upd_ne z] at this; exact this
      . have:=N' p rfl z2
        have z:p≠a:=fun z=>by rw [z,upd_same] at this; cases this
        rw [upd_ne z] at this; exact this
    . exact .inr (h1 _ ⟨a,ob,kvs,rfl,R.sub a _ hdd,lc_at hc he R (itd_ok (R.sub a _ hdd) rk) e3 hz q⟩)
end Mir
set_option Elab.async false
set_option linter.all false
set_option maxRecDepth 100000
namespace L2
open PySem PySem.Spec PyProof.Rows
section
variable {X:Cx} {K:PySem.W.Frag}
def rTupL (K:PySem.W.Frag):List V->Hp->VK->Prop:=fun xs H Q=>∃ p ys,xs=[V.ref p]∧((SqL K H p ys∧∀ l,H l=none->Q (.ref l) (upd H l (.tup ys)))∨(SqT K H p ys∧Q (.ref p) H))
theorem call_tupleK (h:X.K=K):CallR X (.type "tuple") (rTupL K):=h ▸ call_tuple_of
def rRemS:V->List V->Hp->VK->Prop:=fun x vs H Q=>∃ (l:Addr) (zs:List Str) (z:Str) (j:Nat),x=.ref l∧vs=[.str z]∧H l=some (.lst (zs.map V.str))∧zs[j]?=some z∧(∀ m,m < j->zs[m]?≠some z)∧Q .non (upd H l (.lst ((zs.eraseIdx j).map V.str)))
theorem Vals.erase:∀ {xs:List V} {us:List Value} (j:Nat),Vals xs us->Vals (xs.eraseIdx j) (us.eraseIdx j)
  | _,_,_,.nil=>.nil
  | _,_,0,.cons _ t=>t
  | _,_,j + 1,.cons h t=>.cons h (Vals.erase j t)
theorem map_er {α β:Type} (f : α->β):∀ (l:List α) (j:Nat),(l.eraseIdx j).map f=(l.map f).eraseIdx j
  | [],_=>rfl
  | _::_,0=>rfl
  | a::l,j + 1=>by
    show f a::(l.eraseIdx j).map f=f a::(l.map f).eraseIdx j
    rw [map_er f l j]
def eqS (z:Str):Value->Bool
  | .str a _=>a == z
  | _=>false
theorem str_at:∀ {zs:List Str} {us:List Value},Vals (zs.map V.str) us->∀ (i:Nat) (u:Value),us[i]?=some u->∃ a t,zs[i]?=some a∧u=.str a t
  | [],us,h,i,u,e=>by cases h; simp at e
  | a::zs,us,h,i,u,e=>by
    cases h with
    | cons h1 t =>
      cases i with
      | zero =>
        obtain ⟨tk,rfl⟩:=h1
        have:u=.str a tk:=by simpa using e.symm
        exact ⟨a,tk,rfl,this⟩
      | succ i=>simpa using str_at t i u (by simpa using e)
theorem mt_remS:MtM X "list.remove" rRemS:=by
  intro pins s σ H x vs v us Q I rx rv h
  obtain ⟨l,zs,z,j,rfl,rfl,hH,hj,hno,q⟩:=h
  cases rx
  obtain ⟨u,rfl,ru⟩:=rv.one
  obtain ⟨tk,rfl⟩:=ru
  obtain ⟨hz,its,n,r,hl,e⟩:=I.lstM hH
  have hlen:its.length=zs.length:=by rw [← r.length,List.length_map]
  have hjz:j < zs.length:=(List.getElem?_eq_some_iff.mp hj).1
  refine call_meets F.slot_list_remove ⟨_,e,rfl⟩ F.entry_list_remove (F.args_list_remove_2 _ _) (PySem.MeetsSeq.list_remove l its.toArray n (.str z tk) (eqS z) (fun y hy=>?_) j (by rw [List.size_toArray]; omega) ?_ (fun m hm hmj=>?_) (by rw [List.size_toArray,hlen]; rwa [List.length_map] at hz)) ⟨e,?_⟩
  . obtain ⟨i,hi,rfl⟩:=List.getElem_of_mem (show y∈its by simpa using hy)
    obtain ⟨a,t,_,ha⟩:=str_at r i its[i] (List.getElem?_eq_getElem hi)
    rw [ha]
    exact eqGives_str a z t tk
  . have hji:j < its.length:=by omega
    obtain ⟨a,t,h1,ha⟩:=str_at r j its[j] (List.getElem?_eq_getElem hji)
    show eqS z (its.toArray[j]'(by simpa using hji))=true
    have:its.toArray[j]'(by simpa using hji)=its[j]:=by simp
    rw [this,ha]
    rw [hj] at h1
    cases h1
    simp [eqS]
  . have hmi:m < its.length:=by simpa using hm
    obtain ⟨a,t,h1,ha⟩:=str_at r m its[m] (List.getElem?_eq_getElem hmi)
    have:its.toArray[m]'hm=its[m]:=by simp
    rw [this,ha]
    have ne:a≠z:=fun w=>hno m hmj (by rw [h1,w])
    simp [eqS,ne]
  . refine ⟨.non,_,I.lset (its':=its.eraseIdx j) hH e (by simp) ?_ ?_,rfl,q⟩
    . have:=Vals.erase j r
      rwa [← map_er] at this
    . rw [List.length_map]
      have:=List.length_eraseIdx_le zs j
      rw [List.length_map] at hz
      omega
end
end L2
namespace Mir
open PySem L2
variable [Zc]
def strsD:List D->Option (List Str)
  | []=>some []
  | .str z::r=>(strsD r).map (z::·)
  | _=>none
def posS:List Str->Str->Option Nat
  | [],_=>none
  | a::l,z=>if a=z then some 0 else (posS l z).map (· + 1)
theorem posS_eq {z:Str}:∀ {zs:List Str} {j:Nat},posS zs z=some j->zs[j]?=some z∧∀ m,m < j->zs[m]?≠some z
  | [],j,h=>by cases h
  | a::l,j,h=>by
    by_cases e:a=z
    . have:posS (a::l) z=some 0:=if_pos e
      rw [this] at h; cases h
      exact ⟨by rw [e]; rfl,fun m hm=>by omega⟩
    . have:posS (a::l) z=(posS l z).map (· + 1):=if_neg e
      rw [this] at h
      obtain ⟨i,h1,rfl⟩:=Option.map_eq_some_iff.mp h
      obtain ⟨g1,g2⟩:=posS_eq h1
      refine ⟨g1,fun m hm=>?_⟩
      cases m with
      | zero=>exact fun w=>e (by simpa using w)
      | succ m=>exact g2 m (by omega)
theorem strs_rep {B:Hp}:∀ {xs:List V} {ds:List D} {zs:List Str},Reps B xs ds->strsD ds=some zs->xs=zs.map V.str
  | _,_,_,.nil,h=>by cases h; rfl
  | _,_,zs,.cons (d:=d) hx r,h=>by
    cases d with
    | str z =>
      obtain ⟨ms,h1,h2⟩:=Option.map_eq_some_iff.mp (show (strsD _).map (z::·)=some zs from h)
      subst h2
      cases hx
      rw [List.map_cons,strs_rep r h1]
    | _=>cases h
def fRemove (ds:List D):List D->Option (List D × D)
  | [.str z]=>(strsD ds).bind fun zs=>(posS zs z).map fun j=>(ds.eraseIdx j,.none)
  | _=>none
theorem J_remove:MutJ rRemS fRemove:=by
  intro B H p xs ds vs as w hp rx s rv e
  unfold fRemove at e
  split at e
  . rename_i z
    obtain ⟨zs,e1,e⟩:=Option.bind_eq_some_iff.mp e
    obtain ⟨j,e2,e⟩:=Option.map_eq_some_iff.mp e
    cases e
    cases rv with
    | cons a b =>
      cases b
      cases a
      obtain rfl:=strs_rep rx e1
      obtain ⟨g1,g2⟩:=posS_eq e2
      refine ⟨(zs.eraseIdx j).map V.str,.non,?_,.non,fun Q q=>⟨p,zs,z,j,rfl,rfl,hp,g1,g2,q⟩⟩
      have:=Reps.eraseIdx j rx
      rwa [← map_er] at this
  . cases e
def gTuple:List D->Option (D × Bool)
  | [.list ds]=>some (.tuple ds,true)
  | [.tuple ds]=>some (.tuple ds,false)
  | _=>none
theorem J_tuple {K:PySem.W.Frag}:CallJ (rTupL K) gTuple:=by
  intro B H vs ds res s h e
  unfold gTuple at e
  split at e
  . cases e
    obtain ⟨v,rfl,hh⟩:=views1 h
    obtain ⟨p,xs,rfl,r1,rp1⟩:=hh.list s
    exact ⟨xs,rp1,fun Q q=>⟨p,xs,rfl,.inl ⟨rd_sq r1,q⟩⟩⟩
  . cases e
    obtain ⟨v,rfl,hh⟩:=views1 h
    rcases hh with hh | ⟨p,rfl,hh⟩
    . cases hh with
      | @tup p xs _ h1 h2=>exact ⟨.ref p,.tup h1 h2,fun Q q=>⟨p,xs,rfl,.inr ⟨.inl (.inl (s _ _ h1)),q⟩⟩⟩
    . cases hh
  . cases e
noncomputable def gIxS:D->D->Option (D × Bool)
  | .str z,.int i=>cIf (z.length≤sizeLine) ((atI z.cps.toList i).map fun c=>(.str ⟨#[c]⟩,false)) none
  | c,d=>gIx c d
theorem J_ixS {K:PySem.W.Frag}:OpJ (rIx K) gIxS:=by
  intro B H x y c d res s hx hy e
  unfold gIxS at e
  split at e
  . obtain ⟨hz,e⟩:=cIf_eq e
    obtain ⟨w,h1,h2⟩:=Option.map_eq_some_iff.mp e
    cases h2
    rcases hx with hx | ⟨p,_,hx⟩
    . cases hx
      rcases hy with hy | ⟨p,_,hy⟩
      . cases hy
        exact ⟨.str ⟨#[w]⟩,.str _,fun Q q=>.inr (.inr ⟨_,_,w,rfl,rfl,hz,h1,q⟩)⟩
      . cases hy
    . cases hx
  . exact J_ix B H x y _ _ res s hx hy e
end Mir
set_option Elab.async false
set_option linter.all false
set_option maxRecDepth 100000
namespace L2
open PySem PySem.Spec PyProof.Rows
section
variable {X:Cx}
end
end L2
set_option Elab.async false
set_option linter.all false
set_option maxRecDepth 100000
namespace Mir
open PySem L2
variable [Zc]
theorem KeyD.rep {B:Hp} {k:Key} {c:D} (h:KeyD k c):Rep B (kV k) c:=by
  cases k with
  | inl i=>obtain rfl:=(show c=.int i from h); exact .int i
  | inr x=>obtain rfl:=(show c=.str x from h); exact .str x
end Mir
set_option Elab.async false
set_option linter.all false
set_option maxRecDepth 100000
set_option maxHeartbeats 1000000
namespace L2
open PySem PySem.Spec PyProof.Rows
def pairLt (a:Int) (x:Str) (c:Int) (y:Str):Bool:=if a=c then (if x=y then false else decide (x.cps.toList < y.cps.toList)) else decide (a < c)
section
open PySem.SeqAt
open PySem.AutoSeq1 (wpAny_loadPart')
open PySem.MeetsSeq PySem.MeetsSeq2 PySem.MeetsSeq3
theorem tuple_lt_is (l b:Addr) (n n2:Nat) (dd dd2:Option Addr) (sl sl2:Array (Option Value)) (a c:Int) (x y:Str) (t t2 u u2:Tok) :
    Meets (Builtin.«tuple.__lt__» ⟨[.ref l,.ref b],[]⟩)
      (fun _ R s=>s.heap.get? l=some { cls:=.type "tuple",dict:=dd,data:=.seq #[.int a t,.str x u] n,slots:=sl }∧s.heap.get? b=some { cls:=.type "tuple",dict:=dd2,data:=.seq #[.int c t2,.str y u2] n2,slots:=sl2 } ∧
        R (.ok (.ret (.bool (pairLt a x c y)))) s) :=
  .of_wp fun prog w A R s h=>by
    obtain ⟨hp,g,d,tk,os⟩:=s
    obtain ⟨hl,hb,h⟩:=h
    have f2:=AutoSeq1.sub_tuple_tuple
    wp_walk using wpAny_loadPart' hl,wpAny_loadPart' hb,wpAny_forIn_list _ (fun rest b s'=>b.1=none∧s'=⟨hp,g,d,tk,os⟩ ∧
      ((rest=[(.int a t,.int c t2),(.str x u,.str y u2)])∨(rest=[(.str x u,.str y u2)]∧a=c)∨(rest=[]∧a=c∧x=y))) _
    case turn =>
      rintro ⟨p,q⟩ rest b s' ⟨hb',rfl,hz⟩
      rcases hz with hz | ⟨hz,e0⟩ | ⟨hz,_,_⟩
      . cases hz
        refine wpAny_bind ((EqAt.int_int a t c t2) prog w _ _ ?_)
        cases hac:(a == c) with
        | true =>
          have e:a=c:=by simpa using hac
          wp_walk
          exact ⟨rfl,rfl,.inr (.inl ⟨rfl,e⟩)⟩
        | false =>
          have e:a≠c:=by simpa using hac
          have hri:=HT.rcLt_int A.in1 ⟨hp,g,d,tk,os⟩ a t c t2 prog w
          have hR:R (.ok (.ret (.bool (decide (a < c))))) ⟨hp,g,d,tk,os⟩:=by
            unfold pairLt at h
            rwa [if_neg e] at h
          wp_walk using hri
          exact ⟨_,rfl,by simpa using hR⟩
      . cases hz
        refine wpAny_bind ((EqAt.str_str x u y u2) prog w _ _ ?_)
        cases hxy:(x == y) with
        | true =>
          have e:x=y:=by simpa using hxy
          wp_walk
          exact ⟨rfl,rfl,.inr (.inr ⟨rfl,e0,e⟩)⟩
        | false =>
          have e:x≠y:=by simpa using hxy
          have hri:∀ (E:Value->Shared->Prop) (Q:Value->Shared->Prop),Q (.bool (decide (x.cps.toList < y.cps.toList))) ⟨hp,g,d,tk,os⟩->wpAny (model prog w) A.in1 (richCompare .Lt (.str x u) (.str y u2)) Q E ⟨hp,g,d,tk,os⟩:=fun E Q hq=>(PyProof.Rows.lt_str hq:wpAny (model prog w) A.in1 (compareOp .Lt (.str x u) (.str y u2)) Q E ⟨hp,g,d,tk,os⟩)
          have hR:R (.ok (.ret (.bool (decide (x.cps.toList < y.cps.toList))))) ⟨hp,g,d,tk,os⟩:=by
            unfold pairLt at h
            rwa [if_pos e0,if_neg e] at h
          wp_walk using hri
          exact ⟨_,rfl,by simpa using hR⟩
      . cases hz
    case fin =>
      rintro ⟨b1,b2⟩ s' ⟨hb',rfl,hz⟩
      simp only at hb'
      subst hb'
      rcases hz with hz | ⟨hz,_⟩ | ⟨_,e1,e2⟩
      . cases hz
      . cases hz
      . have hR:R (.ok (.ret (.bool false))) ⟨hp,g,d,tk,os⟩:=by
          unfold pairLt at h
          rwa [if_pos e1,if_pos e2] at h
        wp_walk
        exact ⟨_,rfl,by simpa [Builtin.Tuple.tupleCompareSizes] using hR⟩
    case h=>exact ⟨rfl,rfl,.inl rfl⟩
end
section
variable {prog:Program} {w:World} {A:Around} {E:Value->Shared->Prop} {s:Shared}
theorem lt_pairs {l b:Addr} {a c:Int} {x y:Str} {t t2 u u2:Tok} {Q:Value->Shared->Prop} (hl:IsTup s.heap l #[.int a t,.str x u]) (hb:IsTup s.heap b #[.int c t2,.str y u2]) (hu:A.units < cLine) (h:Q (.bool (pairLt a x c y)) s) :
    wpAny (model prog w) A (compareOp .Lt (.ref l) (.ref b)) Q E s:=by
  obtain ⟨⟨cls,dd,data,sl⟩,ho,hc,n,hd⟩:=id hl
  obtain ⟨⟨cls2,dd2,data2,sl2⟩,ho2,hc2,n2,hd2⟩:=id hb
  simp only at hc hd hc2 hd2
  subst hc hd hc2 hd2
  exact richCompare_meets_room (op:=.Lt) ⟨_,ho,rfl⟩ ⟨_,ho2,rfl⟩ PySem.F.slot_tuple_lt PySem.F.entry_tuple_lt (PySem.F.args_tuple_lt_2 _ _) (tuple_lt_is l b n n2 dd dd2 sl sl2 a c x y t t2 u u2)
    ⟨ho,ho2,show Value.bool (pairLt a x c y)≠Value.notImplemented∧Q (.bool (pairLt a x c y)) s from ⟨(fun x=>nomatch x),h⟩⟩ hu
end
section
variable {X:Cx} {K:PySem.W.Frag}
def rLtP (K:PySem.W.Frag):R2:=fun x y H Q=>∃ a b i z j v,x=.ref a∧y=.ref b∧SqT K H a [.int i,.str z]∧SqT K H b [.int j,.str v]∧Q (.bl (pairLt i z j v)) H
theorem op_ltP (h:X.K=K) (hu:X.A.units < cLine):OpR X (compareOp .Lt) (rLtP K):=by
  subst h
  intro pins s σ H x y v u Q I rx ry h
  obtain ⟨a,b,i,z,j,w,rfl,rfl,ha,hb,q⟩:=h
  cases rx
  cases ry
  obtain ⟨its,r1,p1,_⟩:=I.tuple ha
  obtain ⟨its2,r2,p2,_⟩:=I.tuple hb
  cases r1 with
  | cons e1 r1 =>
    cases r1 with
    | cons e2 r1 =>
      cases r1
      cases r2 with
      | cons f1 r2 =>
        cases r2 with
        | cons f2 r2 =>
          cases r2
          obtain ⟨t1,rfl⟩:=e1
          obtain ⟨t2,rfl⟩:=e2
          obtain ⟨t3,rfl⟩:=f1
          obtain ⟨t4,rfl⟩:=f2
          exact lt_pairs p1 p2 hu ⟨.bl _,H,I,rfl,q⟩
end
end L2
namespace Mir
open PySem L2
variable [Zc]
def gLtP:D->D->Option (D × Bool)
  | .tuple [.int i,.str z],.tuple [.int j,.str w]=>some (.bool (pairLt i z j w),false)
  | _,_=>none
theorem J_ltP {K:PySem.W.Frag}:OpJ (rLtP K) gLtP:=by
  intro B H x y c d res s hx hy e
  unfold gLtP at e
  split at e
  . cases e
    obtain ⟨p,xs,rfl,h1,r1⟩:=hx.tuple s
    obtain ⟨q,ys,rfl,h2,r2⟩:=hy.tuple s
    cases r1 with
    | cons a1 r1 =>
      cases r1 with
      | cons a2 r1 =>
        cases r1
        cases r2 with
        | cons b1 r2 =>
          cases r2 with
          | cons b2 r2 =>
            cases r2
            cases a1; cases a2; cases b1; cases b2
            exact ⟨.bl _,.bl _,fun Q q'=>⟨p,q,_,_,_,_,rfl,rfl,.inl (.inl h1),.inl (.inl h2),q'⟩⟩
  . cases e
def gInT:D->D->Option (D × Bool)
  | x,.tuple ds=>if flatD x=true∧ds.all flatD=true then some (.bool (inD x ds),false) else none
  | x,y=>gIn x y
def gNotInT:D->D->Option (D × Bool)
  | x,.tuple ds=>if flatD x=true∧ds.all flatD=true then some (.bool (!inD x ds),false) else none
  | x,y=>gNotIn x y
theorem J_inT {K:PySem.W.Frag}:OpJ (rIn K false) gInT:=by
  intro B H x y c d res s hx hy e
  unfold gInT at e
  split at e
  . split at e
    . rename_i hf
      cases e
      obtain ⟨p,xs,rfl,r1,rp1⟩:=hy.tuple s
      have rx:=hx.rep s
      have rp:=rp1.mono s
      refine res_bool fun Q q=>⟨_,_,rfl,.inr (.inl (.inl r1)),rx.flat hf.1,rp.flatAll hf.2,?_⟩
      rw [Reps.inV rx hf.1 rp hf.2]
      exact q
    . cases e
  . exact J_in B H x y _ _ res s hx hy e
theorem J_notInT {K:PySem.W.Frag}:OpJ (rIn K true) gNotInT:=by
  intro B H x y c d res s hx hy e
  unfold gNotInT at e
  split at e
  . split at e
    . rename_i hf
      cases e
      obtain ⟨p,xs,rfl,r1,rp1⟩:=hy.tuple s
      have rx:=hx.rep s
      have rp:=rp1.mono s
      refine res_bool fun Q q=>⟨_,_,rfl,.inr (.inl (.inl r1)),rx.flat hf.1,rp.flatAll hf.2,?_⟩
      rw [Reps.inV rx hf.1 rp hf.2]
      exact q
    . cases e
  . exact J_notIn B H x y _ _ res s hx hy e
end Mir
set_option Elab.async false
set_option linter.all false
set_option maxRecDepth 100000
namespace Mir
open PySem L2
variable [Zc]
theorem callI_core {f:List D->Option ((D × Bool) × D)} {E:XK} {F:Fr} {B2 H1:Hp} {σ:St} {ρ2:Rho} {i:Nat} {s:Sl} {p:Addr} {vs:List V} {as:List D} {d d1:D} {Q:VK} (R2:Rel F B2 H1 σ ρ2) (hs : ρ2[i]?=some s) (ho:s.isOwn=true) (hv : σ[i]?=some (some (.ref p))) (rp:Reps B2 vs as) (e3:f (slD s::as)=some ((d,false),d1))
    (q:∀ v B' H',Ext σ ρ2 B2 H1 (ρ2.set i (s.put d1)) B' H'->Rel F B' H' σ (ρ2.set i (s.put d1))->Rep B' v d->Q v H'):spI f (.ref p::vs) H1 Q E:=by
  obtain ⟨p',hv',hB,ow⟩:=R2.ownAt hs ho
  rw [hv] at hv'
  cases hv'
  obtain ⟨oo,hoo⟩:=ow.there
  refine ⟨B2,p,vs,slD s,as,(d,false),d1,rfl,R2.sub,R2.tupB,hB,ow,rp,e3,fun v B' H' P=>?_⟩
  obtain ⟨o1,ho1⟩:=P.own.there
  have hB':B' p=none:=P.nb p (by rw [hoo]; simp) hB
  have eH:Same H1 (upd H' p oo):=fun c u hc=>by
    by_cases z:c=p
    . subst z; rw [hoo] at hc; cases hc; exact upd_same
    . rw [upd_ne z]; exact P.eH c u z hc
  have sub:Same B' (upd H' p oo):=fun c u hc=>by
    rw [upd_ne (fun z=>by rw [z,hB'] at hc; cases hc)]; exact P.sub c u hc
  have tB:∀ c xs,upd H' p oo c=some (.tup xs)->B' c=some (.tup xs):=fun c xs hc=>by
    by_cases z:c=p
    . subst z; rw [upd_same] at hc; cases hc; exact absurd hoo (ow.notup xs)
    . rw [upd_ne z] at hc; exact P.tB c xs hc
  have nz:∀ c a u,upd H' p oo c=some (.frz a u)->H1 c≠none:=fun c a u hc=>by
    by_cases z:c=p
    . subst z; rw [hoo]; simp
    . rw [upd_ne z] at hc; exact P.nz c a u hc
  have R3:=R2.grow P.eB eH sub P.nb tB nz
  have E3:Ext σ ρ2 B2 H1 ρ2 B' (upd H' p oo):=Ext.grow P.eB eH P.nb
  have back:upd (upd H' p oo) p o1=H':=by
    funext c
    by_cases z:c=p
    . subst z; rw [upd_same,ho1]
    . rw [upd_ne z,upd_ne z]
  obtain ⟨R4,E4⟩:=R3.write (o:=o1) (d:=d1) hs ho hv ⟨(fun xs z=>by rw [z] at ho1; exact P.own.notup xs ho1),fun a u z=>by rw [z] at ho1; exact P.own.notfrz a u ho1⟩ (by rw [back]; exact P.own)
  rw [back] at R4 E4
  exact q v B' H' (E3.trans E4) R4 P.val
def asFs:List RV->Option (List D)
  | []=>some []
  | (d,.fz)::r=>(asFs r).map (d::·)
  | _=>none
theorem vl_fz {F:Fr} {B H:Hp} {σ:St} {ρ:Rho}:∀ {vs:List V} {rs:List RV} {ds:List D},Vl F B H σ ρ vs rs->asFs rs=some ds->Reps B vs ds
  | [],[],_,_,h=>by cases h; exact .nil
  | v::vs,(d,k)::rs,ds,V,h=>by
    obtain ⟨⟨h1,_⟩,h2⟩:=V
    cases k with
    | fz =>
      obtain ⟨ds',e1,rfl⟩:=Option.map_eq_some_iff.mp (show (asFs rs).map (d::·)=some ds from h)
      exact .cons h1 (vl_fz h2 e1)
    | _=>cases h
  | [],_::_,_,V,_=>V.elim
  | _::_,[],_,V,_=>V.elim
def goI (f:List D->Option ((D × Bool) × D)) (m:Rho->Option (List RV × Rho)) (fr:List (Str × Nat)) (ρ:Rho) (i:Nat) (s:Sl):List D->D->Option (List D × D)
  | [],d0=>some ([],d0)
  | d::ds,d0=>(m (.fz d::fr.map fun p=>demote (ρ.set i (s.put d0)) p.2)).bind fun x=>(asFs x.1).bind fun as=>(f (d0::as)).bind fun w=>if w.1.2=false then (goI f m fr ρ i s ds w.2).map fun z=>(w.1.1::z.1,z.2) else none
noncomputable def mLCI (fr:List (Str × Nat)) (i j:Nat) (it:Rho->Option (List D × Rho)) (f:List D->Option ((D × Bool) × D)) (m:Rho->Option (List RV × Rho)):PM:=fun ρ=>(it ρ).bind fun x=>(ownAt x.2 i).bind fun s=>(goI f m fr x.2 i s x.1 (slD s)).bind fun w=>cIf (w.1.length < sizeLine) (some ((.list w.1,.new),x.2.set i (s.put w.2))) none
theorem put_put (s:Sl) (d e:D):(s.put d).put e=s.put e:=by cases s <;> rfl
theorem put_own {s:Sl} (h:s.isOwn=true) (d:D):(s.put d).isOwn=true∧slD (s.put d)=d:=by cases s <;> first | exact ⟨rfl,rfl⟩ | cases h
theorem put_self {s:Sl} (h:s.isOwn=true):s.put (slD s)=s:=by cases s <;> first | rfl | cases h
theorem me_lcI {fr:List (Str × Nat)} {i j:Nat} {wi:TI} {it:Rho->Option (List D × Rho)} {f:List D->Option ((D × Bool) × D)} {E:XK} {t:TA} {m:Rho->Option (List RV × Rho)} (hj:(fr.map (·.2))[j]?=some i) (hi:MF wi it) (h:MA t m) :
    ME (tLC fr wi tYes (tCall (spI f) [] E (tCons (tVar (j + 1)) t))) (mLCI fr i j it f m):=by
  intro F B H σ ρ r0 ρ' Q R e0 q
  obtain ⟨x,e1,e0⟩:=Option.bind_eq_some_iff.mp e0
  obtain ⟨s,e2,e0⟩:=Option.bind_eq_some_iff.mp e0
  obtain ⟨w,e3,e0⟩:=Option.bind_eq_some_iff.mp e0
  obtain ⟨hz,e0⟩:=cIf_eq e0
  cases e0
  refine hi F B H σ ρ x.1 x.2 _ R e1 fun J B1 H1 E1 R1 I1=>?_
  obtain ⟨ds,ρ1⟩:=x
  obtain ⟨hs,ho⟩:=ownAt_eq e2
  obtain ⟨p,hv,_,_⟩:=R1.ownAt hs ho
  have hil:i < ρ1.length:=(List.getElem?_eq_some_iff.mp hs).1
  have hin:∀ v:V,(some v::compRest σ fr)[j + 1]?=some (some (.ref p)):=fun v=>by
    have:(fr[j]?).map (·.2)=some i:=by rw [← List.getElem?_map]; exact hj
    obtain ⟨q,h1,h2⟩:=Option.map_eq_some_iff.mp this
    have hl:i < σ.length:=(List.getElem?_eq_some_iff.mp hv).1
    rw [List.getElem?_cons_succ]
    unfold compRest
    rw [List.getElem?_map,h1,Option.map_some,h2]
    have : σ.getD i none=some (.ref p):=by
      rw [List.getD_eq_getElem?_getD,hv]; rfl
    rw [this]
  have self0 : ρ1.set i (s.put (slD s))=ρ1:=by
    rw [put_self ho]
    obtain ⟨hlt,he⟩:=List.getElem?_eq_some_iff.mp hs
    rw [← he]; exact List.set_getElem_self hlt
  refine ⟨fun n m' ys H2=>m'=ds.length - n∧n≤ds.length∧∃ B2 dc done rest,Same B1 B2∧Ext σ ρ1 B1 H1 (ρ1.set i (s.put dc)) B2 H2∧Rel F B2 H2 σ (ρ1.set i (s.put dc))∧Reps B2 ys done∧goI f m fr ρ1 i s (ds.drop n) dc=some (rest,w.2)∧done++rest=w.1,
    ⟨ds.length,rfl,Nat.zero_le _,B1,slD s,[],w.1,Same.refl _,by rw [self0]; exact Ext.refl _ _ _ _,by rw [self0]; exact R1,.nil,e3,rfl⟩,?_⟩
  rintro n m' ys H2 ⟨rfl,hnl,B2,dc,done,rest,eB,EE,R2,rp,hgo,hdr⟩
  have hlen:ys.length≤w.1.length:=by rw [← hdr,List.length_append,rp.length]; omega
  refine ⟨by omega,?_⟩
  have sH:Same B1 H2:=eB.trans R2.sub
  by_cases hlt:n < ds.length
  . refine .inr ?_
    obtain ⟨go,yl⟩:=(I1 H2 sH).2 n ds[n] (List.getElem?_eq_getElem hlt)
    refine ⟨go,fun v H3 hy=>?_⟩
    rw [List.drop_eq_getElem_cons hlt] at hgo
    obtain ⟨y,c1,c2⟩:=Option.bind_eq_some_iff.mp (show (m (.fz ds[n]::fr.map fun p=>demote (ρ1.set i (s.put dc)) p.2)).bind _=some (rest,w.2) from hgo)
    obtain ⟨as,c3,c2⟩:=Option.bind_eq_some_iff.mp c2
    obtain ⟨g,c4,c2⟩:=Option.bind_eq_some_iff.mp c2
    split at c2
    rotate_left
    . cases c2
    rename_i hg0
    obtain ⟨z,c5,c6⟩:=Option.map_eq_some_iff.mp c2
    have had:∃ B3,Same B2 B3∧Ext σ (ρ1.set i (s.put dc)) B2 H2 (ρ1.set i (s.put dc)) B3 H3∧Rel F B3 H3 σ (ρ1.set i (s.put dc))∧Rep B3 v ds[n]:=by
      rcases yl v H3 hy with ⟨rfl,h2⟩ | ⟨p,xs,cs,h1,rfl,h3,rfl,h5⟩
      . exact ⟨B2,Same.refl _,Ext.refl _ _ _ _,R2,h2.mono eB⟩
      . obtain ⟨R3,E3,e3⟩:=R2.layT (xs:=xs) h3
        exact ⟨_,e3,E3,R3,by rw [h1]; exact .tup upd_same (h5.mono (eB.trans e3))⟩
    obtain ⟨B3,eB3,E3,R3,rv⟩:=had
    unfold tYes
    dsimp only
    rw [if_pos rfl]
    have Ri:=R3.inner fr rv
    refine ⟨_,hin v,?_⟩
    refine h (F0 H3) B3 H3 _ _ y.1 y.2 _ Ri c1 fun us B4 H4 E4 R4 V4=>?_
    obtain ⟨eH4,nb4⟩:=inner_ext inner_nown E4
    have R4o:Rel F B4 H4 σ (ρ1.set i (s.put dc)):=R3.grow E4.sB eH4 R4.sub nb4 R4.tupB R4.nz
    have E4o:Ext σ (ρ1.set i (s.put dc)) B3 H3 (ρ1.set i (s.put dc)) B4 H4:=Ext.grow E4.sB eH4 nb4
    have hs':(ρ1.set i (s.put dc))[i]?=some (s.put dc):=List.getElem?_set_self hil
    obtain ⟨po,ps⟩:=put_own ho dc
    obtain ⟨⟨gd,gb⟩,g1⟩:=g
    have hg0':gb=false:=hg0
    subst hg0'
    show spI f (V.ref p::us++[]) H4 _ E
    rw [List.append_nil]
    refine callI_core R4o hs' po hv (vl_fz V4 c3) (by rw [ps]; exact c4) fun u B5 H5 E5 R5 ru=>?_
    rw [put_put,List.set_set] at E5 R5
    have EA:=((EE.trans E3).trans E4o).trans E5
    have sB5:Same B1 B5:=EA.sB
    have e6:gd::z.1=rest:=(Prod.mk.inj c6).1
    have e7:z.2=w.2:=(Prod.mk.inj c6).2
    refine ⟨ds.length - (n + 1),by omega,rfl,hlt,B5,g1,done++[gd],z.1,sB5,EA,R5,?_,by rw [c5,← e7],by rw [← hdr,← e6,List.append_assoc]; rfl⟩
    exact (rp.mono (eB3.trans (E4.sB.trans E5.sB))).append (.cons ru .nil)
  . have hn':n=ds.length:=by omega
    subst hn'
    refine .inl ⟨(I1 H2 sH).1,fun D hD=>?_⟩
    rw [List.drop_length] at hgo
    have hgo':rest=[]∧dc=w.2:=by
      have:=(Option.some.inj (show some (([]:List PyData),dc)=some (rest,w.2) from hgo))
      exact ⟨(congrArg Prod.fst this).symm,congrArg Prod.snd this⟩
    obtain ⟨rfl,rfl⟩:=hgo'
    rw [List.append_nil] at hdr
    rw [hdr] at rp
    have:=res_end (res:=(.list w.1,true)) (k:=fun Q=>∀ p,H2 p=none->Q (.ref p) (upd H2 p (.lst ys))) (Q:=Q) R2 ⟨ys,rp,fun Q h=>h⟩ fun v B' H' E' R' V' N=>q v B' H' ((E1.trans EE).trans E') R' V' fun p z1 z2=>(E1.trans EE).live p (N p z1 z2)
    exact this D hD
end Mir
set_option Elab.async false
set_option linter.all false
set_option maxRecDepth 100000
namespace L2
open PySem PySem.Spec PyProof.Rows
section
variable {X:Cx} {o e:Expr} {es:List Expr} {to:TE} {t:TA} {name:Str} {apos cpos:Pos} {id:String} {r:V->List V->Hp->VK->Prop}
def tBMT (r:V->List V->Hp->VK->Prop) (to:TE) (t:TA):TE:=fun σ H Q=>to σ H fun x H1=>(∃ p xs,x=.ref p∧H1 p=some (.tup xs))∧t σ H1 fun xs H2=>r x xs H2 Q
theorem tup_is {pins:List (Addr × Obj)} {σ:St} {H:Hp} {s:Shared} {p:Addr} {xs:List V} (I:Inv X pins σ H s) (h:H p=some (.tup xs)):s.TypeIs (.ref p) "tuple"∧∀ a,Value.ref p=.ref a->∃ ob,s.heap.get? a=some ob∧ob.dict=none:=by
  obtain ⟨z,its,rv,⟨ob,e1,e2,_⟩,ob2,e3,e4⟩:=I.hok p _ h
  refine ⟨⟨ob,e1,e2⟩,fun a ea=>?_⟩
  cases ea
  exact ⟨ob2,e3,e4⟩
theorem pe_bmT (pa:PlainAttrs "tuple") (slot:Slot "tuple" name id) (hty:typeOf (.builtin id)=pure (.type "method_descriptor")) (hm:MtR X id r) (ho:PE X o to) (ha:PA X (e::es) t)
    (hbase:attributeBase o name X.env (eval o X.env)=eval o X.env:=by rfl)
    (hfew:((backTo cpos (starEach (e::es) X.env)).all (fun x=>!x.1) && (backToKw cpos (keywordEach [] X.env)).all (fun x=>x.1.isSome)
      && decide ((e::es).length + ([]:List Keyword).length + (if ([]:List Keyword).isEmpty then 0 else 1) < 30))=true:=by rfl)
    (hline:(apos.endLine == cpos.line)=true:=by rfl) (hs:starEach (e::es) X.env=(false,eval e X.env)::starEach es X.env:=by rfl) (hplain:(backTo cpos (starEach es X.env)).any (·.1)=false:=by rfl) :
    PE X (.Call (.Attribute o name apos) (e::es) [] cpos) (tBMT r to t):=by
  intro pins s σ H Q I h
  refine wpAny_Call_method_late hbase hfew hline rfl (thn (ho pins s σ H _ I h) fun v s1 ⟨x,H1,I1,r1,⟨p,xs,ex,hp⟩,q1⟩=>?_)
  subst ex
  cases r1
  obtain ⟨h1,h2⟩:=tup_is I1 hp
  refine ⟨"tuple",id,pa,slot,hty,h1,h2,?_⟩
  have hA:=ha cpos pins s1 σ H1 _ I1 q1
  rw [hs] at hA ⊢
  exact Calls.callWith_builtin (by show (false || (backTo cpos (starEach es X.env)).any (·.1))=false; rw [hplain] <;> rfl) (Calls.evalArgs_plain (thn hA fun us s2 ⟨vs,H2,I2,r2,q2⟩=>hm pins s2 σ H2 (.ref p) vs (.ref p) us Q I2 rfl r2 q2))
end
def rCountT:V->List V->Hp->VK->Prop:=fun x vs H Q=>∃ p xs y,x=.ref p∧vs=[y]∧H p=some (.tup xs)∧flatV y=true∧xs.all flatV=true∧Q (.int ((xs.countP fun z=>eqV z y:Nat):Int)) H
section
variable {X:Cx}
theorem mt_countT:MtR X "tuple.count" rCountT:=by
  intro pins s σ H x vs v us Q I rx rv h
  obtain ⟨p,xs,y,rfl,rfl,hq,fy,fs,q⟩:=h
  cases rx
  obtain ⟨u,rfl,ru⟩:=rv.one
  obtain ⟨z,its,r,⟨⟨oc,od,odt,osl⟩,e1,c,n,d⟩,_⟩:=I.hok p _ hq
  cases c; cases d
  refine call_meets F.slot_tuple_count ⟨_,e1,rfl⟩ F.entry_tuple_count (F.args_tuple_count_2 _ _) (SeqAt.tuple_countAt p its.toArray n od osl u (eqU y)) ⟨e1,fun w hw=>mem_eqAt ru fy r fs w (by simpa using hw),?_⟩
  refine ⟨.int _,H,I.tok _,⟨_,rfl⟩,?_⟩
  have e2:its.toArray.toList.countP (eqU y)=xs.countP fun z=>eqV z y:=by
    rw [← countP_eqU r fs]
  rw [e2]
  exact q
end
end L2
namespace Mir
open PySem L2
variable [Zc]
def gCountT:D->List D->Option (D × Bool)
  | .tuple ds,[d]=>if flatD d=true∧ds.all flatD=true then some (.int ((ds.countP fun c=>PyData.eqv c d:Nat):Int),false) else none
  | _,_=>none
theorem gCountT_eq {c:D} {ds:List D} {res:D × Bool} (e:gCountT c ds=some res):∃ cs d,c=.tuple cs∧ds=[d]∧flatD d=true∧cs.all flatD=true∧res=(.int ((cs.countP fun c=>PyData.eqv c d:Nat):Int),false):=by
  unfold gCountT at e
  split at e
  . split at e
    . rename_i hf
      cases e
      exact ⟨_,_,rfl,rfl,hf.1,hf.2,rfl⟩
    . cases e
  . cases e
theorem me_countT {ta:TE} {a:PM} {t:TA} {m:Rho->Option (List RV × Rho)} (ha:ME ta a) (h:MA t m):ME (tBMT rCountT ta t) (mBM gCountT a m):=by
  intro F B H σ ρ r0 ρ' Q R e q
  obtain ⟨x,e1,e⟩:=Option.bind_eq_some_iff.mp e
  obtain ⟨y,e2,e⟩:=Option.bind_eq_some_iff.mp e
  obtain ⟨r',e3,e⟩:=Option.bind_eq_some_iff.mp e
  obtain ⟨res0,e5,e⟩:=Option.bind_eq_some_iff.mp e
  obtain ⟨res,e4,e⟩:=Option.map_eq_some_iff.mp e
  cases e
  refine ha.sv F B H σ ρ x.1 x.2 _ R e1 fun v B1 H1 E1 R1 V1 N1=>?_
  obtain ⟨cs,d,hc,hd,f1,f2,hr⟩:=gCountT_eq e5
  have vw:=V1.view R1
  rw [hc] at vw
  obtain ⟨p,xs,rfl,hp,rp⟩:=vw.tuple R1.sub
  refine ⟨⟨p,xs,rfl,hp⟩,?_⟩
  refine h F B1 H1 σ x.2 y.1 y.2 _ R1 e2 fun vs B2 H2 E2 R2 V2=>?_
  obtain ⟨V3,n3⟩:=V1.next E2 R2 (sv_kind e1) e3
  obtain ⟨cs',d',hc',hd',f1',f2',hr'⟩:=gCountT_eq e4
  have vw':=V3.view R2
  rw [hc'] at vw'
  obtain ⟨p',xs',ep,hp',rp'⟩:=vw'.tuple R2.sub
  cases ep
  have vv:=V2.views R2
  rw [hd'] at vv
  obtain ⟨w,rfl,hw⟩:=views1 vv
  have rw':=hw.rep R2.sub
  have rpm:=rp'.mono R2.sub
  refine ⟨p,xs',w,rfl,rfl,hp',rw'.flat f1',rpm.flatAll f2',?_⟩
  rw [rpm.countP rw' f1' f2']
  subst hr'
  exact q _ B2 H2 (E1.trans E2) R2 (.int _) fun p z=>by cases z
end Mir
set_option Elab.async false
set_option linter.all false
set_option maxRecDepth 100000
namespace Mir
open PySem L2
variable [Zc]
theorem _root_.L2.sl_tupK {X:Cx} {K:PySem.W.Frag} (h:X.K=K):SlR X (rSlT K):=h ▸ sl_tup
def gSlT:D->Option Int->Option Int->Option (D × Bool)
  | .tuple ds,lo,hi=>if HT.sIx ds.length 0 lo=0∧HT.sIx ds.length ds.length hi=ds.length then none else some (.tuple (cutD ds lo hi),true)
  | _,_,_=>none
theorem J_slT {K:PySem.W.Frag}:SlJ (rSlT K) gSlT:=by
  intro B H x c l u res s hx e
  unfold gSlT at e
  split at e
  . split at e
    . cases e
    . rename_i hw
      cases e
      obtain ⟨p,xs,rfl,h1,r1⟩:=hx.tuple s
      refine ⟨_,r1.cut _ _,fun Q q=>⟨p,xs,rfl,.inl (.inl h1),?_,q⟩⟩
      rw [r1.length]; exact hw
  . cases e
end Mir
set_option Elab.async false
set_option linter.all false
set_option maxRecDepth 100000
namespace L2
open PySem PySem.W PySem.Calls PySem.Spec PyProof.Rows
def leS (x y:Str):Bool:=decide (¬ y.cps.toList < x.cps.toList)
def sortS (zs:List Str):List Str:=zs.mergeSort leS
theorem leS_trans (a b c:Str) (h1:leS a b=true) (h2:leS b c=true):leS a c=true:=by
  unfold leS at *
  rw [decide_eq_true_eq] at *
  exact fun h=>by
    rcases PyProof.Rows.strKind.negTrans c.cps.toList b.cps.toList a.cps.toList (by simpa using h) with h | h
    . exact h2 (by simpa using h)
    . exact h1 (by simpa using h)
theorem leS_total (a b:Str):(leS a b || leS b a)=true:=by
  unfold leS
  rw [Bool.or_eq_true,decide_eq_true_eq,decide_eq_true_eq]
  by_cases h:b.cps.toList < a.cps.toList
  . exact Or.inr fun z=>List.lt_irrefl _ (List.lt_trans h z)
  . exact Or.inl h
theorem leS_anti (a b:Str) (h1:leS a b=true) (h2:leS b a=true):a=b:=by
  unfold leS at *
  rw [decide_eq_true_eq] at *
  have e:a.cps.toList=b.cps.toList:=List.le_antisymm (List.not_lt.mp h1) (List.not_lt.mp h2)
  cases a; cases b
  exact congrArg Str.mk (Array.toList_inj.mp e)
theorem sortS_perm (zs:List Str):(sortS zs).Perm zs:=List.mergeSort_perm zs leS
theorem sortS_len (zs:List Str):(sortS zs).length=zs.length:=(sortS_perm zs).length_eq
theorem sortS_rise (zs:List Str):(sortS zs).Pairwise (fun a b=>leS a b=true):=List.pairwise_mergeSort leS_trans leS_total zs
theorem sortS_eq {ys zs:List Str} (hp:ys.Perm zs) (hs:ys.Pairwise (fun a b=>leS a b=true)):ys=sortS zs:=List.Perm.eq_of_pairwise (fun a b _ _=>leS_anti a b) hs (sortS_rise zs) (hp.trans (sortS_perm zs).symm)
theorem sortS_iff {ys zs:List Str}:sortS ys=sortS zs↔ys.Perm zs:=⟨fun e=>(sortS_perm ys).symm.trans (by rw [e]; exact sortS_perm zs),fun h=>sortS_eq ((sortS_perm ys).trans h) (sortS_rise ys)⟩
def strV:Value->Str
  | .str x _=>x
  | _=>⟨#[]⟩
def isStrV (v:Value):Prop:=∃ z t,v=.str z t
theorem mapM_first_strs:∀ {vs:List Value},(∀ v∈vs,isStrV v)->vs.mapM firstOfTuple'=pure (vs.map fun _=>none)
  | [],_=>by simp
  | v::vs,h=>by
    obtain ⟨z,t,rfl⟩:=h v List.mem_cons_self
    rw [List.mapM_cons,show firstOfTuple' (.str z t)=pure none from rfl,mapM_first_strs fun v hv=>h v (List.mem_cons_of_mem _ hv)]; simp
theorem mapM_typeOf_strs:∀ {vs:List Value},(∀ v∈vs,isStrV v)->vs.mapM typeOf=pure (vs.map fun _=>Value.type "str")
  | [],_=>by simp
  | v::vs,h=>by
    obtain ⟨z,t,rfl⟩:=h v List.mem_cons_self
    rw [List.mapM_cons,mapM_typeOf_strs fun v hv=>h v (List.mem_cons_of_mem _ hv)]
    show (pure (Value.type "str") >>= fun b=>pure _ >>= fun bs=>pure (b::bs))=_
    simp
theorem keyKind_strs {v₁ v₂:Value} {vs:List Value} (hI:∀ v∈v₁::v₂::vs,isStrV v):keyKind' (v₁::v₂::vs).toArray=pure oneType':=by
  rw [keyKind'_eq,List.mapM_toArray,mapM_first_strs hI]
  simp only [map_pure,pure_bind]
  rw [if_neg (by simp),if_neg (by simp)]
  rw [oneTypeOnly'_eq,List.mapM_toArray,mapM_typeOf_strs hI]
  simp only [map_pure,pure_bind]
  have hall:((List.map (fun _=>Value.type "str") (v₁::v₂::vs)).toArray.all fun x=>x == Value.type "str")=true:=by
    simp only [List.all_toArray,List.all_map,List.all_eq_true]
    intro _ _
    rfl
  have h0:(List.map (fun _=>Value.type "str") (v₁::v₂::vs)).toArray[0]?=some (Value.type "str"):=by simp
  rw [h0]
  simp only [pure_bind,hall,if_true,Option.isSome_some]
theorem strs_are {zs:List Str} {us:List Value} (h:Vals (zs.map V.str) us):us.map strV=zs∧∀ v∈us,isStrV v:=by
  induction zs generalizing us with
  | nil=>cases h; exact ⟨rfl,fun v hv=>by cases hv⟩
  | cons z zs ih =>
    cases h with
    | cons r rr =>
      obtain ⟨h1,h2⟩:=ih rr
      obtain ⟨t,rfl⟩:=r
      refine ⟨by rw [List.map_cons,h1]; rfl,fun v hv=>?_⟩
      rcases List.mem_cons.mp hv with rfl | hv
      . exact ⟨_,_,rfl⟩
      . exact h2 v hv
theorem vals_strs:∀ {us:List Value},(∀ v∈us,isStrV v)->Vals ((us.map strV).map V.str) us
  | [],_=>.nil
  | v::us,h=>by
    obtain ⟨z,t,rfl⟩:=h v List.mem_cons_self
    exact .cons ⟨t,rfl⟩ (vals_strs fun v hv=>h v (List.mem_cons_of_mem _ hv))
theorem sorted_out_strs {vs:List Value} {zs:List Str} (hv:Vals (zs.map V.str) vs) {xs:Array Keyed} (hp:xs.Perm (pairsOf vs)) (hs:SortedToK strKind xs (pairsOf vs).size):Vals ((sortS zs).map V.str) (xs.map (·.2)).toList:=by
  obtain ⟨e,hi⟩:=strs_are hv
  have hp':xs.toList.Perm (vs.zip vs):=by
    have:=Array.perm_iff_toList_perm.mp hp
    rwa [pairsOf_toList] at this
  have hm:(xs.map (·.2)).toList.Perm vs:=by
    rw [Array.toList_map]
    have:=hp'.map (·.2)
    rwa [List.map_snd_zip (Nat.le_refl _)] at this
  have hi':∀ v∈(xs.map (·.2)).toList,isStrV v:=fun v h=>hi v (hm.mem_iff.mp h)
  have key:∀ q∈xs.toList,q.1=q.2:=fun q hq=>by
    have:=hp'.mem_iff.mp hq
    obtain ⟨i,hi,e⟩:=List.getElem_of_mem this
    rw [← e,List.getElem_zip]
  have es:(xs.map (·.2)).toList.map strV=sortS zs:=by
    refine sortS_eq ?_ ?_
    . rw [← e]; exact hm.map _
    . rw [List.pairwise_map,List.pairwise_iff_getElem]
      intro i j hi1 hj1 hij
      have hi2:i < xs.size:=by simpa using hi1
      have hj2:j < xs.size:=by simpa using hj1
      have h1:=hs i j (Nat.le_of_lt hij) (by rw [← hp.size_eq]; exact hj2)
      have kk:∀ k (hk:k < xs.size),KK strKind xs k=(strV (xs[k]).2).cps.toList:=fun k hk=>by
        unfold KK
        rw [Array.getElem?_eq_getElem hk]
        have hmem:xs[k]∈xs.toList:=by simp
        obtain ⟨z,t,ez⟩:=hi' (xs[k]).2 (by rw [Array.toList_map]; exact List.mem_map_of_mem hmem)
        show (strKind.keyOf (xs[k]).1).getD _=_
        rw [key _ hmem,ez]; rfl
      rw [kk i hi2,kk j hj2] at h1
      unfold leS
      simp only [Array.toList_map,List.getElem_map,Array.getElem_toList]
      have h3:strKind.blt (strV (xs[j]).2).cps.toList (strV (xs[i]).2).cps.toList=false:=h1
      simpa using h3
  rw [← es]
  exact vals_strs hi'
def rSortedS (K:PySem.W.Frag):List V->Hp->VK->Prop:=fun xs H Q=>∃ (p:Addr) (zs:List Str),xs=[V.ref p]∧SqL K H p (zs.map V.str)∧zs.length < 64∧∀ l,H l=none->Q (.ref l) (upd H l (.lst ((sortS zs).map V.str)))
section
variable {X:Cx}
theorem call_sortedS:CallR X (.builtin "sorted") (rSortedS X.K):=by
  intro pins s σ H xs us Q I r h
  obtain ⟨p,zs,rfl,hq,hz,q⟩:=h
  cases r with
  | cons rx rr =>
    cases rr
    cases rx
    obtain ⟨its,r',pl,hz'⟩:=I.list hq
    obtain ⟨e,hi⟩:=strs_are r'
    have hl:its.length=zs.length:=by rw [← r'.length,List.length_map]
    refine sortedK strKind_oneLt pl.isList (fun q hq=>?_) (fun v₁ v₂ rest e=>?_) (by omega) fun st' hp hs=>?_
    . rw [pairsOf_toList] at hq
      obtain ⟨i,hi',e⟩:=List.getElem_of_mem hq
      rw [List.getElem_zip] at e
      obtain ⟨z,t,ez⟩:=hi (its[i]'(by rw [List.length_zip] at hi'; omega)) (List.getElem_mem _)
      exact ⟨z.cps.toList,by rw [← e,ez]⟩
    . subst e
      exact keyKind_strs hi
    . obtain ⟨c,hat⟩:=sortedAll_at s.heap its ((arrOf st').map (·.2))
      exact lay_list (k:=s.toks) (acc:=(arrOf st').map (·.2)) I (by rw [List.length_map,sortS_len]; simp only [sizeLine]; omega) q (Nat.le_succ _) (fun b o e=>sortedAll_old e) hat (sorted_out_strs r' hp hs)
theorem call_sortedSK {K:PySem.W.Frag} (h:X.K=K):CallR X (.builtin "sorted") (rSortedS K):=h ▸ call_sortedS
end
end L2
namespace Mir
open PySem L2
variable [Zc]
noncomputable def gSortedS:List D->Option (D × Bool)
  | [.list ds]=>(strsD ds).bind fun zs=>cIf (zs.length < 64) (some (.list ((sortS zs).map .str),true)) none
  | _=>none
theorem rep_strs {B:Hp}:∀ zs:List Str,Reps B (zs.map V.str) (zs.map PyData.str)
  | []=>.nil
  | z::zs=>.cons (.str z) (rep_strs zs)
theorem J_sortedS {K:PySem.W.Frag}:CallJ (rSortedS K) gSortedS:=by
  intro B H vs ds res s h e
  unfold gSortedS at e
  split at e
  . obtain ⟨zs,e1,e⟩:=Option.bind_eq_some_iff.mp e
    obtain ⟨hz,e⟩:=cIf_eq e
    cases e
    obtain ⟨v,rfl,hh⟩:=views1 h
    obtain ⟨p,xs,rfl,r1,rp1⟩:=hh.list s
    have hx:=strs_rep rp1 e1
    subst hx
    exact ⟨_,rep_strs _,fun Q q=>⟨p,zs,rfl,rd_sq r1,hz,q⟩⟩
  . cases e
theorem strsD_map:∀ zs:List Str,strsD (zs.map PyData.str)=some zs
  | []=>rfl
  | z::zs=>by
    show (strsD (zs.map PyData.str)).map (z::·)=_
    rw [strsD_map zs]; rfl
end Mir
set_option Elab.async false
set_option linter.all false
set_option maxRecDepth 100000
namespace L2
open PySem PySem.W PySem.Calls PySem.Spec PyProof.Rows
open PySem.AutoSeq1 (wpAny_loadPart')
section
variable {prog:Program} {w:World} {A:Around} {s:Shared}
def EqP (prog:Program) (w:World) (A:Around) (s:Shared) (y x:Value):Prop:=∀ (E:Value->Shared->Prop) (Q:Bool->Shared->Prop),Q true s->wpAny (model prog w) A (eqBool y x) Q E s
theorem range_forIn {n:Nat} {β:Type} {c : β} {f:Nat->β->Sem (ForInStep β)}:(forIn ([0:n]:Std.Legacy.Range) c f:Sem β)=forIn (List.range' 0 n) c f:=by
  rw [Std.Legacy.Range.forIn_eq_forIn_range']
  have hsz:([0:n]:Std.Legacy.Range).size=n:=by simp [Std.Legacy.Range.size]
  show forIn (List.range' 0 ([0:n]:Std.Legacy.Range).size 1) c f=_
  rw [hsz]
variable {K:Type} [DecidableEq K] {knd:PySem.KeyKind prog w K}
theorem pairs_at {es:List DictEntry} {kvs:List (K × Value)} (h:Pairs knd es kvs):∀ (i:Nat) (e:DictEntry),es[i]?=some e->∃ kv,kvs[i]?=some kv∧knd.is kv.1 e.key=true∧e.val=kv.2:=by
  induction h with
  | nil=>intro i e h; simp at h
  | @cons e' kv es kvs h1 h2 _ ih =>
    intro i e h
    cases i with
    | zero=>cases (show some e'=some e by simpa using h); exact ⟨kv,rfl,h1,h2⟩
    | succ i=>simpa using ih i e (by simpa using h)
theorem find_at {β:Type}:∀ {kvs:List (K × β)} {x:Nat} {u:K × β} {k:K},(kvs.map (·.1)).Nodup->kvs[x]?=some u->u.1=k->kvs.findIdx? (fun kv=>decide (kv.1=k))=some x
  | [],_,_,_,_,h,_=>by simp at h
  | a::kvs,0,u,k,_,h,e=>by
    have:a=u:=by simpa using h
    rw [List.findIdx?_cons,this,e]; simp
  | a::kvs,x + 1,u,k,hn,h,e=>by
    have hn':=List.nodup_cons.mp (show (a.1::kvs.map (·.1)).Nodup from hn)
    have h':kvs[x]?=some u:=by simpa using h
    have ne : ¬ a.1=k:=fun z=>hn'.1 (by rw [z,← e]; exact List.mem_map_of_mem (List.mem_of_getElem? h'))
    rw [List.findIdx?_cons,decide_eq_false ne,find_at hn'.2 h' e]; rfl
theorem dict_eqP {E:Value->Shared->Prop} {l b:Addr} {kvs kws:List (K × Value)} (hl:s.heap.DictOf knd l kvs) (hb:s.heap.DictOf knd b kws) (hls:(l == sysModules)=false) (hbs:(b == sysModules)=false) (hk:kvs.map (·.1)=kws.map (·.1))
    (he:∀ (j:Nat) (v u:K × Value),kvs[j]?=some v->kws[j]?=some u->EqP prog w A s v.2 u.2):wpAny (model prog w) A (Builtin.«dict.__eq__» ⟨[.ref l,.ref b],[]⟩) (fun fin s'=>fin=.done (.ret (.bool true))∧s'=s) E s:=by
  obtain ⟨o,es,ep,ho,hx,hd,hks,hp,hn⟩:=hl
  obtain ⟨o2,es2,ep2,ho2,hx2,hd2,hks2,hp2,hn2⟩:=hb
  have hlen:kvs.length=kws.length:=by simpa using congrArg List.length hk
  have e1:es.size=kvs.length:=by rw [← hp.length]; simp
  have e2:es2.size=kws.length:=by rw [← hp2.length]; simp
  have t1:s.TypeIs (.ref l) "dict":=⟨o,ho,hx.1⟩
  have t2:s.TypeIs (.ref b) "dict":=⟨o2,ho2,hx2.1⟩
  show wpAny _ _ (Builtin.Dict.dictSlotArgs "__eq__" ⟨[.ref l,.ref b],[]⟩ >>= _) _ _ _
  refine wpAny_bind ?_
  unfold Builtin.Dict.dictSlotArgs
  refine wpAny_bind (wpAny_notOrdered_dict t1 ?_)
  show wpAny _ _ (pure (Value.ref l,Value.ref b)) _ _ s
  refine wpAny_pure ?_
  dsimp only
  refine wpAny_bind (wpAny_isInstance t2 (b:=true) (by rw [isSubtype_type]; kernel_rfl) ?_)
  show wpAny _ _ (Builtin.Dict.samePairs _ l b >>= _) _ _ s
  refine wpAny_bind ?_
  unfold Builtin.Dict.samePairs
  have sh:∀ (d:Addr) (Q:Unit->Shared->Prop),(d == sysModules)=false->Q () s->wpAny (model prog w) A (Builtin.Dict.showsAll d) Q E s:=fun d Q h q=>by
    unfold Builtin.Dict.showsAll
    rw [if_neg (by rw [h]; exact Bool.false_ne_true)]
    exact wpAny_pure q
  refine wpAny_bind (sh l _ hls ?_)
  refine wpAny_bind (sh b _ hbs ?_)
  refine wpAny_bind (wpAny_dictEntries ho hd ?_)
  refine wpAny_bind (wpAny_dictEntries ho2 hd2 ?_)
  dsimp only
  rw [if_neg (by rw [e1,e2,hlen]; simp)]
  refine wpAny_bind (wpAny_dictEpoch ho hd ?_)
  refine wpAny_bind ?_
  rw [range_forIn]
  refine wpAny_forIn_list _ (fun rest c s'=>s'=s∧c=(none,())∧∃ i,rest=List.range' i (es.size - i)∧i≤es.size) _ ?_ ?_ _ _ ⟨rfl,rfl,0,by simp,Nat.zero_le _⟩
  . rintro x rest c s' ⟨rfl,rfl,i,hr,hi⟩
    have hi2:i < es.size:=by
      rcases Nat.lt_or_ge i es.size with h | h
      . exact h
      . rw [show es.size - i=0 by omega] at hr; cases hr
    rw [show es.size - i=(es.size - (i + 1)) + 1 by omega,List.range'_succ] at hr
    injection hr with hx1 hr1
    subst hx1
    refine wpAny_bind (wpAny_dictEntries ho hd ?_)
    rw [Array.getElem?_eq_getElem hi2]
    dsimp only
    obtain ⟨kv,hkv,is1,ev⟩:=pairs_at hp x es[x] (by rw [Array.getElem?_toList]; exact Array.getElem?_eq_getElem hi2)
    obtain ⟨k',is2,eh⟩:=hks es[x] (Array.getElem_mem hi2)
    have ek:k'=kv.1:=knd.inj _ _ _ is2 is1
    have hx3:x < es2.size:=by omega
    obtain ⟨kw,hkw,is3,ev2⟩:=pairs_at hp2 x es2[x] (by rw [Array.getElem?_toList]; exact Array.getElem?_eq_getElem hx3)
    have ekk:kw.1=kv.1:=by
      have h1:(kvs.map (·.1))[x]?=some kv.1:=by rw [List.getElem?_map,hkv]; rfl
      have h2:(kws.map (·.1))[x]?=some kw.1:=by rw [List.getElem?_map,hkw]; rfl
      rw [hk,h2] at h1
      exact Option.some.inj h1
    have hf:es2.findIdx? (fun e=>knd.is kv.1 e.key)=some x:=by
      have h:=(hp2.findIdx kv.1).trans (find_at hn2 hkw ekk)
      rw [← h]; obtain ⟨l⟩:=es2; simp
    refine wpAny_bind (wpAny_holding ?_)
    rw [eh,ek]
    refine wpAny_bind (wpAny_dictFind_of is1 ho2 hd2 hks2 ?_)
    rw [hf]
    dsimp only
    refine wpAny_bind (wpAny_dictEntries ho2 hd2 ?_)
    rw [Array.getElem?_eq_getElem hx3]
    dsimp only
    refine wpAny_holding ?_
    rw [ev,ev2]
    refine he x kv kw hkv hkw _ _ ?_
    rw [if_neg (by simp)]
    refine wpAny_bind (wpAny_dictEpoch ho hd ?_)
    rw [if_neg (by simp)]
    exact wpAny_pure ⟨rfl,rfl,x + 1,by rw [hr1],hi2⟩
  . rintro c s' ⟨rfl,rfl,_⟩
    exact wpAny_pure (wpAny_pure ⟨rfl,rfl⟩)
theorem rc_dictP {E:Value->Shared->Prop} {l b:Addr} {kvs kws:List (K × Value)} (hu:A.units < cLine) (hl:s.heap.DictOf knd l kvs) (hb:s.heap.DictOf knd b kws) (hls:(l == sysModules)=false) (hbs:(b == sysModules)=false) (hk:kvs.map (·.1)=kws.map (·.1))
    (he:∀ (j:Nat) (v u:K × Value),kvs[j]?=some v->kws[j]?=some u->EqP prog w A.in1 s v.2 u.2) {Q:Value->Shared->Prop} (q:Q (.bool true) s):wpAny (model prog w) A (richCompare .Eq (.ref l) (.ref b)) Q E s:=by
  obtain ⟨o,es,ep,ho,hx,_⟩:=id hl
  obtain ⟨o2,es2,ep2,ho2,hx2,_⟩:=id hb
  refine wpAny_richCompare_same_room (op:=.Eq) (T:="dict") ⟨o,ho,hx.1⟩ ⟨o2,ho2,hx2.1⟩ PySem.F.slot_dict_eq ?_ hu
  refine wpAny_call_entry PySem.F.slot_dict_eq ⟨o,ho,hx.1⟩ PySem.F.entry_dict_eq ?_ (PySem.F.args_dict_eq_2 _ _)
  refine wpAny_mono (dict_eqP hl hb hls hbs hk he) (fun fin s' h=>?_) fun _ _ e=>e
  obtain ⟨rfl,rfl⟩:=h
  exact ⟨_,rfl,⟨(fun x=>nomatch x),q⟩⟩
theorem eqP_dict {l b:Addr} {kvs kws:List (K × Value)} (hu:A.units < cLine) (hl:s.heap.DictOf knd l kvs) (hb:s.heap.DictOf knd b kws) (hls:(l == sysModules)=false) (hbs:(b == sysModules)=false) (hk:kvs.map (·.1)=kws.map (·.1))
    (he:∀ (j:Nat) (v u:K × Value),kvs[j]?=some v->kws[j]?=some u->EqP prog w A.in1 s v.2 u.2):EqP prog w A s (.ref l) (.ref b):=by
  intro E Q q
  unfold eqBool
  refine wpAny_holding ?_
  refine wpAny_ite_split (fun _=>?_) (fun _=>?_)
  . exact wpAny_bind (wpAny_rule (wpAny_pure q))
  . exact wpAny_bind (rc_dictP hu hl hb hls hbs hk he (wpAny_truthy_bool q))
theorem tuple2_neP {E:Value->Shared->Prop} {l b:Addr} {x1 x2 y1 y2:Value} {n n2:Nat} {dd dd2:Option Addr} {sl sl2:Array (Option Value)} (hl:s.heap.get? l=some { cls:=.type "tuple",dict:=dd,data:=.seq #[x1,x2] n,slots:=sl }) (hb:s.heap.get? b=some { cls:=.type "tuple",dict:=dd2,data:=.seq #[y1,y2] n2,slots:=sl2 })
    (h1:EqP prog w A s x1 y1) (h2:EqP prog w A s x2 y2):wpAny (model prog w) A (Builtin.«tuple.__ne__» ⟨[.ref l,.ref b],[]⟩) (fun fin s'=>fin=.done (.ret (.bool false))∧s'=s) E s:=by
  obtain ⟨hp,g,d,tk,os⟩:=s
  have f2:=PySem.AutoSeq1.sub_tuple_tuple
  wp_walk using wpAny_loadPart' hl,wpAny_loadPart' hb,wpAny_forIn_list _ (fun rest b s'=>b.1=none∧s'=⟨hp,g,d,tk,os⟩∧∀ p∈rest,EqP prog w A ⟨hp,g,d,tk,os⟩ p.1 p.2) _
  case turn =>
    rintro ⟨y,x⟩ rest b s' ⟨hb',rfl,hz⟩
    refine wpAny_bind (hz (y,x) List.mem_cons_self _ _ ?_)
    wp_walk
    exact ⟨rfl,rfl,fun p hp=>hz p (List.mem_cons_of_mem _ hp)⟩
  case fin =>
    rintro ⟨b1,b2⟩ s' ⟨hb',rfl,_⟩
    simp only at hb'
    subst hb'
    wp_walk
    exact ⟨rfl,rfl⟩
  case h =>
    refine ⟨rfl,rfl,fun p hp=>?_⟩
    have:p=(x1,y1)∨p=(x2,y2):=by simpa using hp
    rcases this with rfl | rfl
    . exact h1
    . exact h2
end
def LikeS (K:PySem.W.Frag) (H:Hp) (x y:V):Prop:=∃ d,DataV K H x d∧DataV K H y d∧SeqAt.shaped d=true
def LikeV (K:PySem.W.Frag) (H:Hp) (x y:V):Prop:=LikeS K H x y∨∃ (p q:Addr) (kvs kws:List (Key × V)),x=.ref p∧y=.ref q∧Rd H p (.dK kvs)∧Rd H q (.dK kws)∧kvs.map (·.1)=kws.map (·.1)∧∀ (j:Nat) (a b:Key × V),kvs[j]?=some a->kws[j]?=some b->LikeS K H a.2 b.2
def Like2 (K:PySem.W.Frag) (H:Hp) (x y:V):Prop:=∃ (a b:Addr) (x1 x2 y1 y2:V),x=.ref a∧y=.ref b∧SqT K H a [x1,x2]∧SqT K H b [y1,y2]∧LikeV K H x1 y1∧LikeV K H x2 y2
def rNeP (K:PySem.W.Frag):R2:=fun x y H Q=>Like2 K H x y∧Q (.bl false) H
section
variable {X:Cx} {A:Around}
theorem LikeS.eqP {pins:List (Addr × Obj)} {s:Shared} {σ:St} {H:Hp} (I:Inv X pins σ H s) {x y:V} {v u:Value} (rx:RelV x v) (ry:RelV y u) (h:LikeS X.K H x y) (hu:A.units + 64 < cLine):EqP X.prog X.w A s v u:=by
  obtain ⟨d,ha,hb,sd⟩:=h
  obtain ⟨as,ra⟩:=ha.reads I rx
  obtain ⟨bs,rb⟩:=hb.reads I ry
  intro E Q q
  refine SeqAt.eqAt_reads d d A s v u as bs ra rb (SeqAt.canLay_of_shaped sd) (SeqAt.canLay_of_shaped sd) (SeqAt.room_of_shaped sd hu) X.prog X.w E Q ?_
  rw [SeqAt.eqv_refl d (SeqAt.canLay_of_shaped sd)]
  exact q
theorem kvp_at {κ:Type}:∀ {kvs:List (κ × V)} {vs:List (κ × Value)},KV kvs vs->∀ (j:Nat) (b : κ × Value),vs[j]?=some b->∃ a,kvs[j]?=some a∧a.1=b.1∧RelV a.2 b.2
  | [],[],_,j,b,e=>by simp at e
  | a::kvs,c::vs,h,0,b,e=>by
    cases h with
    | cons h1 h2=>cases (show some c=some b by simpa using e); exact ⟨a,rfl,h1.1,h1.2⟩
  | a::kvs,c::vs,h,j + 1,b,e=>by
    cases h with
    | cons h1 h2=>simpa using kvp_at h2 j b (by simpa using e)
theorem kv_keys {κ:Type}:∀ {kvs:List (κ × V)} {vs:List (κ × Value)},KV kvs vs->vs.map (·.1)=kvs.map (·.1)
  | [],[],_=>rfl
  | a::kvs,c::vs,h=>by
    cases h with
    | cons h1 h2=>rw [List.map_cons,List.map_cons,kv_keys h2,h1.1]
theorem LikeV.eqP {pins:List (Addr × Obj)} {s:Shared} {σ:St} {H:Hp} (I:Inv X pins σ H s) {x y:V} {v u:Value} (rx:RelV x v) (ry:RelV y u) (h:LikeV X.K H x y) (hu:A.units + 65 < cLine):EqP X.prog X.w A s v u:=by
  rcases h with h | ⟨p,q,kvs,kws,rfl,rfl,h1,h2,hk,he⟩
  . exact h.eqP I rx ry (by omega)
  . cases rx
    cases ry
    obtain ⟨_,y1,vs,r1,d1⟩:=(show ObjOk X.prog X.w H s.heap p (.dK kvs) from h1.ok I.hok)
    obtain ⟨_,y2,ws,r2,d2⟩:=(show ObjOk X.prog X.w H s.heap q (.dK kws) from h2.ok I.hok)
    refine eqP_dict (by omega) d1 d2 y1 y2 (by rw [kv_keys r1,kv_keys r2,hk]) fun j a b ha hb=>?_
    obtain ⟨c,hc,_,rc⟩:=kvp_at r1 j a ha
    obtain ⟨d,hd,_,rd⟩:=kvp_at r2 j b hb
    exact (he j c d hc hd).eqP I rc rd (by show A.units + 1 + 64 < cLine; omega)
theorem op_neP (hu:X.A.units + 100 < cLine):OpR X (compareOp .NotEq) (rNeP X.K):=by
  intro pins s σ H x y v u Q I rx ry h
  obtain ⟨⟨a,b,x1,x2,y1,y2,rfl,rfl,s1,s2,l1,l2⟩,q⟩:=h
  cases rx
  cases ry
  obtain ⟨its,rv,pl,_⟩:=I.tuple s1
  obtain ⟨its2,rv2,pl2,_⟩:=I.tuple s2
  obtain ⟨u1,u2,rfl,ru1,ru2⟩:=rv.two
  obtain ⟨w1,w2,rfl,rw1,rw2⟩:=rv2.two
  obtain ⟨⟨c,dd,dt,sl⟩,e,hc,n,hd⟩:=pl
  obtain ⟨⟨c2,dd2,dt2,sl2⟩,e2,hc2,n2,hd2⟩:=pl2
  simp only at hc hd hc2 hd2
  subst hc hd hc2 hd2
  show wpAny _ _ (richCompare .NotEq (.ref a) (.ref b)) _ _ _
  refine wpAny_richCompare_same_room (op:=.NotEq) (T:="tuple") ⟨_,e,rfl⟩ ⟨_,e2,rfl⟩ PySem.F.slot_tuple_ne ?_ (by omega)
  refine wpAny_call_entry PySem.F.slot_tuple_ne ⟨_,e,rfl⟩ PySem.F.entry_tuple_ne ?_ (PySem.F.args_tuple_ne_2 _ _)
  refine wpAny_mono (tuple2_neP (A:=X.A.in1) e e2 (l1.eqP I ru1 rw1 (by show X.A.units + 1 + 65 < cLine; omega)) (l2.eqP I ru2 rw2 (by show X.A.units + 1 + 65 < cLine; omega))) (fun fin s' h=>?_) fun _ _ e=>e
  obtain ⟨rfl,rfl⟩:=h
  exact ⟨_,rfl,(fun x=>nomatch x),.bl false,H,I,rfl,q⟩
theorem op_nePK {K:PySem.W.Frag} (h:X.K=K) {k:Nat} (hr:Room k X.A):OpR X (compareOp .NotEq) (rNeP K):=h ▸ op_neP (by have:=hr.un; omega)
end
end L2
namespace Mir
open PySem L2
variable [Zc]
def dictish:D->Prop
  | .dict es=>∀ e∈es,SeqAt.shaped e.2=true
  | d=>SeqAt.shaped d=true
def pileish:D->Prop
  | .tuple [c,d]=>dictish c∧dictish d
  | _=>False
noncomputable def gNeP:D->D->Option (D × Bool):=fun c d=>cIf (c=d∧pileish c) (some (.bool false,false)) none
theorem keyD_inj {k k':Key} {c:D} (h:KeyD k c) (h':KeyD k' c):k=k':=by
  cases k <;> cases k' <;> (unfold KeyD at h h'; rw [h] at h'; first | cases h'; rfl | cases h')
theorem repKs_like {K:PySem.W.Frag} {H:Hp}:∀ {kvs kws:List (Key × V)} {es:List (D × D)},RepKs H kvs es->RepKs H kws es->(∀ e∈es,SeqAt.shaped e.2=true)->kvs.map (·.1)=kws.map (·.1)∧∀ (j:Nat) (a b:Key × V),kvs[j]?=some a->kws[j]?=some b->LikeS K H a.2 b.2
  | _,_,_,.nil,.nil,_=>⟨rfl,fun j a b h=>by simp at h⟩
  | _,_,_,.cons k1 r1 t1,.cons k2 r2 t2,h=>by
    obtain ⟨h1,h2⟩:=repKs_like (K:=K) t1 t2 fun e he=>h e (List.mem_cons_of_mem _ he)
    refine ⟨by rw [List.map_cons,List.map_cons,h1,keyD_inj k1 k2],fun j a b ha hb=>?_⟩
    cases j with
    | zero =>
      cases (Option.some.inj (show some _=some a by simpa using ha))
      cases (Option.some.inj (show some _=some b by simpa using hb))
      have:=h _ List.mem_cons_self
      exact ⟨_,r1.data (SeqAt.canLay_of_shaped this),r2.data (SeqAt.canLay_of_shaped this),this⟩
    | succ j=>exact h2 j a b (by simpa using ha) (by simpa using hb)
theorem rep_like {K:PySem.W.Frag} {H:Hp} {x y:V} {d:D} (hx:Rep H x d) (hy:Rep H y d) (h:dictish d):LikeV K H x y:=by
  cases hx with
  | dct r1 k1 =>
    cases hy with
    | dct r2 k2 =>
      obtain ⟨h1,h2⟩:=repKs_like (K:=K) k1 k2 h
      exact .inr ⟨_,_,_,_,rfl,rfl,r1,r2,h1,h2⟩
  | non=>exact .inl ⟨_,.non,hy.data (SeqAt.canLay_of_shaped h),h⟩
  | bl b=>exact .inl ⟨_,.bl b,hy.data (SeqAt.canLay_of_shaped h),h⟩
  | int i=>exact .inl ⟨_,.int i,hy.data (SeqAt.canLay_of_shaped h),h⟩
  | str z=>exact .inl ⟨_,.str z,hy.data (SeqAt.canLay_of_shaped h),h⟩
  | lst r1 k1=>exact .inl ⟨_,Rep.data (.lst r1 k1) (SeqAt.canLay_of_shaped h),hy.data (SeqAt.canLay_of_shaped h),h⟩
  | tup r1 k1=>exact .inl ⟨_,Rep.data (.tup r1 k1) (SeqAt.canLay_of_shaped h),hy.data (SeqAt.canLay_of_shaped h),h⟩
theorem pile_like {K:PySem.W.Frag} {H:Hp} {x y:V} {d:D} (hx:Rep H x d) (hy:Rep H y d) (h:pileish d):Like2 K H x y:=by
  unfold pileish at h
  split at h
  . cases hx with
    | tup r1 k1 =>
      cases hy with
      | tup r2 k2 =>
        cases k1 with
        | cons a1 t1 =>
          cases t1 with
          | cons a2 t1 =>
            cases t1
            cases k2 with
            | cons b1 t2 =>
              cases t2 with
              | cons b2 t2 =>
                cases t2
                exact ⟨_,_,_,_,_,_,rfl,rfl,.inl (.inl r1),.inl (.inl r2),rep_like a1 b1 h.1,rep_like a2 b2 h.2⟩
  . cases h
theorem J_neP {K:PySem.W.Frag}:OpJ (rNeP K) gNeP:=by
  intro B H x y c d res s hx hy e
  unfold gNeP at e
  obtain ⟨⟨hc,hp⟩,e2⟩:=cIf_eq e
  cases e2
  subst hc
  exact res_bool fun Q q=>⟨pile_like (hx.rep s) (hy.rep s) hp,q⟩
end Mir
set_option Elab.async false
set_option linter.all false
set_option maxRecDepth 100000
namespace L2
open PySem PySem.W PySem.Calls PySem.Spec PyProof.Rows
open PySem.AutoSeq1 (wpAny_loadPart')
theorem tuple_addW0 (l b:Addr) (items items2:Array Value) (n n2:Nat) (dd dd2:Option Addr) (sl sl2:Array (Option Value)) (hc0:items.isEmpty=true) :
    Meets (Builtin.«tuple.__add__» ⟨[.ref l,.ref b],[]⟩) (fun _ R s=>s.heap.get? l=some { cls:=.type "tuple",dict:=dd,data:=.seq items n,slots:=sl }∧s.heap.get? b=some { cls:=.type "tuple",dict:=dd2,data:=.seq items2 n2,slots:=sl2 }∧R (.ok (.ret (Value.ref b))) s) :=
  .of_wp fun prog w A R s h=>by
    obtain ⟨hp,g,d,tk,os⟩:=s; obtain ⟨hl,hb,h⟩:=h
    have f2:=PySem.AutoSeq1.sub_tuple_tuple
    wp_walk using wpAny_loadPart' hl,wpAny_loadPart' hb
    exact ⟨_,rfl,h⟩
section
variable {prog:Program} {w:World} {A:Around} {E:Value->Shared->Prop} {s:Shared}
theorem cat_tup0 {t b:Addr} {ws:List Value} {Q:Value->Shared->Prop} (ht:IsTup s.heap t ([]:List Value).toArray) (hb:IsTup s.heap b ws.toArray) (h1:Q (.ref b) s):wpAny (model prog w) A (binaryOp .Add (.ref t) (.ref b)) Q E s:=by
  obtain ⟨⟨cls,dd,data,sl⟩,ho,hc,n,hd⟩:=id ht
  obtain ⟨⟨cls2,dd2,data2,sl2⟩,ho2,hc2,n2,hd2⟩:=id hb
  simp only at hc hd hc2 hd2
  subst hc hd hc2 hd2
  exact concat_meets ⟨_,ho,rfl⟩ ⟨_,ho2,rfl⟩ noFill_tuple_add seq_tuple_add PySem.F.slot_tuple_add PySem.F.entry_tuple_add (PySem.F.args_tuple_add_2 _ _)
      (tuple_addW0 t b _ ws.toArray n n2 dd dd2 sl sl2 rfl) ⟨ho,ho2,h1⟩
end
def rCat0 (K:PySem.W.Frag):R2:=fun x y H Q=>∃ a b ys,x=.ref a∧y=.ref b∧SqT K H a []∧SqT K H b ys∧Q (.ref b) H
section
variable {X:Cx}
theorem op_cat0:OpR X (binaryOp .Add) (rCat0 X.K):=by
  intro pins s σ H x y v u Q I rx ry h
  obtain ⟨a,b,ys,rfl,rfl,ha,hb,q⟩:=h
  cases rx
  cases ry
  obtain ⟨its,r1,p1,_⟩:=I.tuple ha
  obtain ⟨its2,r2,p2,_⟩:=I.tuple hb
  cases r1
  exact cat_tup0 p1 p2 ⟨.ref b,H,I,rfl,q⟩
def rPlusT (K:PySem.W.Frag):R2:=fun x y H Q=>Mir.rPlusM K x y H Q∨rCat0 K x y H Q
theorem op_addTK {K:PySem.W.Frag} (h:X.K=K):OpR X (binaryOp .Add) (rPlusT K):=h ▸ Mir.op_addM.or op_cat0
end
end L2
namespace Mir
open PySem L2
variable [Zc]
noncomputable def gAddT:D->D->Option (D × Bool)
  | .tuple [],.tuple b=>some (.tuple b,false)
  | x,y=>gAdd x y
theorem J_addT {K:PySem.W.Frag}:OpJ (rPlusT K) gAddT:=by
  intro B H x y c d res s hx hy e
  unfold gAddT at e
  split at e
  . rename_i b
    cases e
    obtain ⟨p,xs,rfl,r1,rp1⟩:=hx.tuple s
    cases rp1
    have hy':Rep B y (.tuple b):=by
      rcases hy with h | ⟨p,rfl,h⟩
      . exact h
      . cases h
    refine ⟨y,hy',fun Q q=>.inr ?_⟩
    cases hy' with
    | tup h r =>
      exact ⟨_,_,_,rfl,rfl,.inl (.inl r1),.inl (.inl (s _ _ h)),q⟩
  . have:=J_add (K:=K) B H x y c d res s hx hy e
    obtain ⟨r0,o⟩:=res
    cases o with
    | false=>obtain ⟨v,h1,h2⟩:=this; exact ⟨v,h1,fun Q q=>.inl (h2 Q q)⟩
    | true =>
      cases r0 with
      | list ds=>obtain ⟨v,h1,h2⟩:=this; exact ⟨v,h1,fun Q q=>.inl (h2 Q q)⟩
      | tuple ds=>obtain ⟨v,h1,h2⟩:=this; exact ⟨v,h1,fun Q q=>.inl (h2 Q q)⟩
      | dict ds=>obtain ⟨v,h1,h2⟩:=this; exact ⟨v,h1,fun Q q=>.inl (h2 Q q)⟩
      | _=>exact this
theorem gAddT_tup (a b:List D) (h:a.length + b.length≤100000) (hb:b≠[]):∃ o,gAddT (.tuple a) (.tuple b)=some (.tuple (a++b),o):=by
  cases a with
  | nil=>exact ⟨false,rfl⟩
  | cons c a=>exact ⟨true,by show cIf _ _ _=_; rw [cIf_pos ⟨sz_le h,hb⟩]⟩
end Mir
set_option Elab.async false
set_option linter.all false
namespace Pile
open PySem
structure Row where
  key:Int
  above:Option Str
  mark:Bool
  below:List Str
section
variable {α:Type} [DecidableEq α]
theorem nodup_le:∀ (l k:List α),l.Nodup->(∀ x∈l,x∈k)->l.length≤k.length
  | [],_,_,_=>Nat.zero_le _
  | a::l,k,h,hs=>by
    have ha:=hs a List.mem_cons_self
    have hn:=List.nodup_cons.mp h
    have:=nodup_le l (k.erase a) hn.2 fun x hx=>(List.mem_erase_of_ne (fun e=>hn.1 (by rw [← e]; exact hx))).mpr (hs x (List.mem_cons_of_mem _ hx))
    rw [List.length_erase_of_mem ha] at this
    have : 0 < k.length:=List.length_pos_of_mem ha
    rw [List.length_cons]
    omega
theorem count_nodup {l:List α}:(∀ x∈l,l.count x=1)->l.Nodup:=fun h=>by
  rw [List.nodup_iff_count]
  intro a
  by_cases ha:a∈l
  . rw [h a ha]; exact Nat.le_refl _
  . rw [List.count_eq_zero.mpr ha]; exact Nat.zero_le _
theorem count_one {l:List α} {a : α} (h:l.Nodup) (ha:a∈l):l.count a=1:=by
  have h1:=(List.nodup_iff_count.mp h) a
  have h2:=List.count_pos_iff.mpr ha
  omega
theorem perm_of_mem:∀ {l k:List α},l.Nodup->k.Nodup->(∀ x,x∈l↔x∈k)->l.Perm k:=fun {l k} h1 h2 h=>by
  rw [List.perm_iff_count]
  intro a
  by_cases ha:a∈l
  . rw [count_one h1 ha,count_one h2 ((h a).mp ha)]
  . rw [List.count_eq_zero.mpr ha,List.count_eq_zero.mpr fun z=>ha ((h a).mpr z)]
end
variable (keys:List Str) (row:Str->Row)
def climb:Nat->Option Str->Option Str
  | 0,x=>x
  | _ + 1,none=>none
  | k + 1,some n=>if n∈keys then climb k (row n).above else some n
def reach:Nat->Str->Bool
  | 0,_=>false
  | k + 1,n=>if n∈keys then (match (row n).above with
    | none=>true
    | some a=>reach k a) else false
theorem climb_none:∀ k,climb keys row k none=none
  | 0=>rfl
  | _ + 1=>rfl
theorem reach_climb:∀ k n,reach keys row k n=true↔climb keys row k (some n)=none
  | 0,n=>by simp [reach,climb]
  | k + 1,n=>by
    unfold reach climb
    by_cases h:n∈keys
    . rw [if_pos h,if_pos h]
      cases e:(row n).above with
      | none=>simp [climb_none]
      | some a=>exact reach_climb k a
    . rw [if_neg h,if_neg h]; simp
theorem climb_up:∀ k x,climb keys row k x=none->climb keys row (k + 1) x=none
  | 0,x,h=>by
    have:x=none:=h
    rw [this]; rfl
  | k + 1,none,_=>rfl
  | k + 1,some n,h=>by
    unfold climb at h ⊢
    by_cases hn:n∈keys
    . rw [if_pos hn] at h ⊢
      exact climb_up k _ h
    . rw [if_neg hn] at h; cases h
theorem way_of:∀ k n,climb keys row (k + 1) (some n)=none->climb keys row k (some n)≠none->∃ l:List Str,l.length=k + 1∧l.Nodup∧(∀ m∈l,m∈keys)∧∀ m∈l,climb keys row (k + 1) (some m)=none
  | 0,n,h,_=>by
    refine ⟨[n],rfl,by simp,fun m hm=>?_,fun m hm=>by rw [List.mem_singleton.mp hm]; exact h⟩
    rw [List.mem_singleton.mp hm]
    unfold climb at h
    by_cases hn:n∈keys
    . exact hn
    . rw [if_neg hn] at h; cases h
  | k + 1,n,h,h2=>by
    have hn:n∈keys:=by
      unfold climb at h
      by_cases hn:n∈keys
      . exact hn
      . rw [if_neg hn] at h; cases h
    have h':=h
    unfold climb at h'
    rw [if_pos hn] at h'
    have h2':=h2
    unfold climb at h2'
    rw [if_pos hn] at h2'
    cases e:(row n).above with
    | none=>rw [e,climb_none] at h2'; exact absurd rfl h2'
    | some a =>
      rw [e] at h' h2'
      obtain ⟨l,l1,l2,l3,l4⟩:=way_of k a h' h2'
      refine ⟨n::l,by rw [List.length_cons,l1],List.nodup_cons.mpr ⟨fun z=>h2 (l4 n z),l2⟩,fun m hm=>?_,fun m hm=>?_⟩
      . rcases List.mem_cons.mp hm with rfl | hm
        . exact hn
        . exact l3 m hm
      . rcases List.mem_cons.mp hm with rfl | hm
        . exact h
        . exact climb_up keys row _ _ (l4 m hm)
theorem comes_reaches (n:Str):climb keys row keys.length (some n)=none↔reach keys row (keys.length + 1) n=true:=by
  rw [reach_climb]
  refine ⟨climb_up keys row _ _,fun h=>?_⟩
  cases e:climb keys row keys.length (some n) with
  | none=>rfl
  | some x =>
    obtain ⟨l,l1,l2,l3,_⟩:=way_of keys row keys.length n h (by rw [e]; simp)
    have:=nodup_le l keys l2 l3
    omega
variable (lt:Int->Str->Int->Str->Bool)
structure FormP (tops:List Str):Prop where
  tops:tops.Perm (keys.filter fun n=>(row n).above.isNone)
  mark:∀ n∈keys,(row n).above=none->(row n).mark=false
  up:∀ n∈keys,∀ a,(row n).above=some a->a∈keys∧(row a).below.count n=1∧lt (row n).key n (row a).key a=false
  down:∀ n∈keys,∀ (i:Nat) (l:Str),(row n).below[i]?=some l->l∈keys∧(row l).above=some n∧(i:Int) - (if (row l).mark then 1 else 0)≤((row l).below.length:Int)
  come:∀ n∈keys,climb keys row keys.length (some n)=none
structure FormL (tops:List Str):Prop where
  top1:∀ n∈tops,tops.count n=1∧n∈keys∧(row n).above=none
  top2:∀ n∈keys,(row n).above=none->n∈tops
  mark:∀ n∈keys,(row n).above=none->(row n).mark=false
  up:∀ n∈keys,∀ a,(row n).above=some a->a∈keys∧n∈(row a).below∧lt (row n).key n (row a).key a=false
  down:∀ n∈keys,∀ (i:Nat) (l:Str),(row n).below[i]?=some l->l∈keys∧l ∉ (row n).below.take i∧(row l).above=some n∧(i:Int) - (if (row l).mark then 1 else 0)≤((row l).below.length:Int)
  come:∀ n∈keys,reach keys row (keys.length + 1) n=true
theorem nodup_take {l:List Str} (h:∀ (i:Nat) (x:Str),l[i]?=some x->x ∉ l.take i):l.Nodup:=by
  rw [List.Nodup,List.pairwise_iff_getElem]
  intro i j hi hj hij e
  refine h j l[j] (List.getElem?_eq_getElem hj) ?_
  rw [← e]
  rw [List.mem_take_iff_getElem]
  exact ⟨i,by omega,rfl⟩
theorem take_nodup {l:List Str} (h:l.Nodup) {i:Nat} {x:Str} (hx:l[i]?=some x):x ∉ l.take i:=by
  intro z
  obtain ⟨hi,rfl⟩:=List.getElem?_eq_some_iff.mp hx
  rw [List.mem_take_iff_getElem] at z
  obtain ⟨j,hj,e⟩:=z
  rw [List.Nodup,List.pairwise_iff_getElem] at h
  exact h j i (by omega) hi (by omega) e
theorem form_iff (nd:keys.Nodup) (tops:List Str):FormP keys row lt tops↔FormL keys row lt tops:=by
  constructor
  . intro h
    have below:∀ n∈keys,(row n).below.Nodup:=fun n hn=>count_nodup fun x hx=>by
      obtain ⟨i,hi,rfl⟩:=List.getElem_of_mem hx
      obtain ⟨h1,h2,_⟩:=h.down n hn i _ (List.getElem?_eq_getElem hi)
      exact (h.up _ h1 n h2).2.1
    have tn:tops.Nodup:=h.tops.nodup_iff.mpr (nd.filter _)
    have tm:∀ n,n∈tops↔n∈keys∧(row n).above=none:=fun n=>by
      rw [h.tops.mem_iff,List.mem_filter,Option.isNone_iff_eq_none]
    refine ⟨fun n hn=>⟨count_one tn hn,((tm n).mp hn).1,((tm n).mp hn).2⟩,fun n hn e=>(tm n).mpr ⟨hn,e⟩,h.mark,fun n hn a ha=>?_,fun n hn i l hl=>?_,fun n hn=>(comes_reaches keys row n).mp (h.come n hn)⟩
    . obtain ⟨h1,h2,h3⟩:=h.up n hn a ha
      exact ⟨h1,List.count_pos_iff.mp (by omega),h3⟩
    . obtain ⟨h1,h2,h3⟩:=h.down n hn i l hl
      exact ⟨h1,take_nodup (below n hn) hl,h2,h3⟩
  . intro h
    have below:∀ n∈keys,(row n).below.Nodup:=fun n hn=>nodup_take fun i x hx=>(h.down n hn i x hx).2.1
    have tn:tops.Nodup:=count_nodup fun n hn=>(h.top1 n hn).1
    refine ⟨perm_of_mem tn (nd.filter _) fun n=>?_,h.mark,fun n hn a ha=>?_,fun n hn i l hl=>?_,fun n hn=>(comes_reaches keys row n).mpr (h.come n hn)⟩
    . rw [List.mem_filter,Option.isNone_iff_eq_none]
      exact ⟨fun z=>⟨(h.top1 n z).2.1,(h.top1 n z).2.2⟩,fun z=>h.top2 n z.1 z.2⟩
    . obtain ⟨h1,h2,h3⟩:=h.up n hn a ha
      exact ⟨h1,count_one (below a h1) h2,h3⟩
    . obtain ⟨h1,_,h2,h3⟩:=h.down n hn i l hl
      exact ⟨h1,h2,h3⟩
end Pile
set_option maxHeartbeats 4000000
set_option Elab.async false
set_option linter.all false
set_option maxRecDepth 100000
namespace K71
open PySem L2 Mir
noncomputable def lb1_law_like:SM :=
    (mSeq (mAsg 5 (mOp gIx (mVar 0) (mOp gMod (mOp gAdd (mVar 2) (mVar 3)) (mCB gLen (mCons (mVar 0) mNil)))))
    (mSeq (mAsg 6 (mOp gIx (mVar 0) (mOp gMod (mOp gAdd (mVar 2) (mVar 4)) (mCB gLen (mCons (mVar 0) mNil)))))
    (mIfS (mTest (mOp gEq (mCB gLen (mCons (mOp gIx (mOp gIxD (mVar 1) (mVar 5)) (mC (.int 3))) mNil)) (mCB gLen (mCons (mOp gIx (mOp gIxD (mVar 1) (mVar 6)) (mC (.int 3))) mNil))))
    (mRet (mLst (mCons (mVar 5) (mCons (mVar 6) mNil))))
    mPass)))
noncomputable def lb2_law_like:SM :=
    (mFor (mRg1 (mCons (mVar 3) mNil)) (mgN 4)
    lb1_law_like)
noncomputable def b_law_like:SM :=
    (mSeq (mFor (mRg1 (mCons (mCB gLen (mCons (mVar 0) mNil)) mNil)) (mgN 3)
    lb2_law_like)
    (mRet (mLst mNil)))
noncomputable def m_law_like:List D->Option (D × Bool):=fnM 3 4 b_law_like
noncomputable def ct1_law_cut:Rho->Option (Bool × Rho) :=
    (mTest (mOp gNe (mVar 0) (mVar 1)))
noncomputable def ce1_law_cut:PM :=
    (mVar 0)
noncomputable def wc1_law_cut:Rho->Option (Bool × Rho) :=
    (mTest (mVar 4))
noncomputable def wb1_law_cut:SM :=
    (mSeq (mAsgG (mOp gIxD (mVar 1) (mVar 2)) (mgU 4 (mgsCons (mgN 5) (mgsCons (mgN 6) (mgsCons (mgN 7) (mgsCons (mgN 8) mgsNil))))))
    (mSeq (mPutD 1 (mTup (mCons (mVar 5) (mCons (mC .none) (mCons (mC (.bool false)) (mCons (mVar 8) mNil))))) (mVar 2))
    (mSeq (mDrop (mMut 0 fAppend (mCons (mVar 2) mNil)))
    (mSeq (mDrop (mMut 3 fAppend (mCons (mTup (mCons (mC (.str "cut")) (mCons (mVar 2) mNil))) mNil)))
    (mSeq (mAsgG (mOp gIxD (mVar 1) (mVar 6)) (mgU 4 (mgsCons (mgN 5) (mgsCons (mgN 9) (mgsCons (mgN 10) (mgsCons (mgN 8) mgsNil))))))
    (mSeq (mAsg 8 (mCB gTuple (mCons (mLC [("_law_name",2)] (mItT (mVar 8)) ct1_law_cut ce1_law_cut) mNil)))
    (mSeq (mPutD 1 (mTup (mCons (mVar 5) (mCons (mVar 9) (mCons (mOp gIsNot (mVar 9) (mC .none)) (mCons (mVar 8) mNil))))) (mVar 6))
    (mSeq (mAsg 4 (mVar 10))
    (mAsg 2 (mVar 6))))))))))
noncomputable def b_law_cut:SM :=
    (mSeq (mAsg 3 (mLst mNil))
    (mSeq (mAsg 4 (mOp gIsNot (mOp gIx (mOp gIxD (mVar 1) (mVar 2)) (mC (.int 1))) (mC .none)))
    (mSeq (mWhile wc1_law_cut
    wb1_law_cut 1000000)
    (mRet (mVar 3)))))
noncomputable def m_law_cut:List D->Option ((D × Bool) × D × D):=fnJ 3 8 b_law_cut
noncomputable def b_law_before:SM :=
    (mRet (mOp gLtP (mTup (mCons (mOp gIx (mOp gIxD (mVar 0) (mVar 1)) (mC (.int 0))) (mCons (mVar 1) mNil))) (mTup (mCons (mOp gIx (mOp gIxD (mVar 0) (mVar 2)) (mC (.int 0))) (mCons (mVar 2) mNil)))))
noncomputable def m_law_before:List D->Option (D × Bool):=fnM 3 0 b_law_before
noncomputable def b_law_hung:SM :=
    (mSeq (mAsgG (mOp gIxD (mVar 1) (mVar 2)) (mgU 4 (mgsCons (mgN 4) (mgsCons (mgN 5) (mgsCons (mgN 6) (mgsCons (mgN 7) mgsNil))))))
    (mSeq (mPutD 1 (mTup (mCons (mVar 4) (mCons (mVar 3) (mCons (mC (.bool false)) (mCons (mVar 7) mNil))))) (mVar 2))
    (mSeq (mAsgG (mOp gIxD (mVar 1) (mVar 3)) (mgU 4 (mgsCons (mgN 4) (mgsCons (mgN 5) (mgsCons (mgN 6) (mgsCons (mgN 7) mgsNil))))))
    (mSeq (mPutD 1 (mTup (mCons (mVar 4) (mCons (mVar 5) (mCons (mVar 6) (mCons (mOp gAddT (mVar 7) (mTup (mCons (mVar 2) mNil))) mNil))))) (mVar 3))
    (mDrop (mMut 0 fRemove (mCons (mVar 2) mNil)))))))
noncomputable def m_law_hung:List D->Option ((D × Bool) × D × D):=fnJ 4 4 b_law_hung
noncomputable def b_law_name_by:SM :=
    (mSeq (mAsg 1 (mC (.str "abcdefghijklmnopqrstuvwxyz")))
    (mSeq (mAsg 2 (mOp gAdd (mOp gIxS (mVar 1) (mOp gMod (mOp gDiv (mVar 0) (mC (.int 52))) (mC (.int 26)))) (mOp gIxS (mVar 1) (mOp gMod (mOp gDiv (mVar 0) (mC (.int 2))) (mC (.int 26))))))
    (mSeq (mIfS (mTest (mOp gEq (mOp gMod (mVar 0) (mC (.int 2))) (mC (.int 1))))
    (mAsg 2 (mOp gAdd (mVar 2) (mOp gIx (mLst (mCons (mC (.str "a")) (mCons (mC (.str "zz")) (mCons (mC (.str "aaa")) (mCons (mC (.str "zzzz")) (mCons (mC (.str "bbbbb")) (mCons (mC (.str "zzzzzz")) mNil))))))) (mOp gMod (mOp gDiv (mVar 0) (mC (.int 2))) (mC (.int 6))))))
    mPass)
    (mRet (mVar 2)))))
noncomputable def m_law_name_by:List D->Option (D × Bool):=fnM 1 2 b_law_name_by
noncomputable def b_law_key_by:SM :=
    (mSeq (mIfS (mTest (mOp gEq (mOp gMod (mVar 0) (mC (.int 3))) (mC (.int 0))))
    (mRet (mOp gSub (mOp gMod (mOp gDiv (mVar 0) (mC (.int 3))) (mC (.int 5))) (mC (.int 2))))
    mPass)
    (mSeq (mIfS (mTest (mOp gEq (mOp gMod (mVar 0) (mC (.int 3))) (mC (.int 1))))
    (mRet (mOp gSub (mOp gMod (mOp gDiv (mVar 0) (mC (.int 3))) (mC (.int 61))) (mC (.int 30))))
    mPass)
    (mRet (mOp gSub (mOp gMod (mOp gDiv (mVar 0) (mC (.int 3))) (mOp gAdd (mOp gMul (mC (.int 2)) (mOp gPow (mC (.int 10)) (mC (.int 59)))) (mC (.int 1)))) (mOp gPow (mC (.int 10)) (mC (.int 59)))))))
noncomputable def m_law_key_by:List D->Option (D × Bool):=fnM 1 0 b_law_key_by
noncomputable def lb1_law_built:SM :=
    (mSeq (mAsg 6 (mOp gDiv (mVar 5) (mC (.int 5))))
    (mSeq (mAsg 7 (mCall m_law_like (mCons (mVar 2) (mCons (mVar 3) (mCons (mOp gMod (mVar 6) (mC (.int 97))) mNil)))))
    (mSeq (mAsg 8 (mCB gListK (mCons (mVar 3) mNil)))
    (mIfS (mAnd (mTest (mOp gEq (mOp gMod (mVar 5) (mC (.int 5))) (mC (.int 4)))) (mTest (mOp gGt (mCB gLen (mCons (mVar 8) mNil)) (mC (.int 0)))))
    (mDrop (mCallJ 2 3 m_law_cut (mCons (mOp gIx (mVar 8) (mOp gMod (mVar 6) (mCB gLen (mCons (mVar 8) mNil)))) mNil)))
    (mIfS (mAnd (mTest (mOp gGt (mOp gMod (mVar 5) (mC (.int 5))) (mC (.int 0)))) (mTest (mOp gNe (mVar 7) (mLst mNil))))
    (mSeq (mIfS (mTest (mCall m_law_before (mCons (mVar 3) (mCons (mOp gIx (mVar 7) (mC (.int 0))) (mCons (mOp gIx (mVar 7) (mC (.int 1))) mNil)))))
    (mDrop (mMut0 7 fReverse))
    mPass)
    (mDrop (mCallJ 2 3 m_law_hung (mCons (mOp gIx (mVar 7) (mC (.int 0))) (mCons (mOp gIx (mVar 7) (mC (.int 1))) mNil)))))
    (mSeq (mAsg 9 (mCall m_law_name_by (mCons (mOp gAdd (mVar 1) (mVar 4)) mNil)))
    (mSeq (mPutD 3 (mTup (mCons (mCall m_law_key_by (mCons (mVar 6) mNil)) (mCons (mC .none) (mCons (mC (.bool false)) (mCons (mTup mNil) mNil))))) (mVar 9))
    (mDrop (mMut 2 fAppend (mCons (mVar 9) mNil))))))))))
noncomputable def b_law_built:SM :=
    (mSeq (mAsg 2 (mLst mNil))
    (mSeq (mAsg 3 mDct0)
    (mSeq (mFor (mFoE (mCons (mVar 0) mNil)) (mgU 2 (mgsCons (mgN 4) (mgsCons (mgN 5) mgsNil)))
    lb1_law_built)
    (mRet (mTup (mCons (mVar 2) (mCons (mVar 3) mNil)))))))
noncomputable def m_law_built:List D->Option (D × Bool):=fnM 2 8 b_law_built
noncomputable def db_law_built:Rho->Option (D × D) :=
    (mdSeq (mAsg 2 (mLst mNil))
    (mdSeq (mAsg 3 mDct0)
    (mdSeq (mFor (mFoE (mCons (mVar 0) mNil)) (mgU 2 (mgsCons (mgN 4) (mgsCons (mgN 5) mgsNil)))
    lb1_law_built)
    (mdRet 2 3))))
noncomputable def d_law_built:List D->Option (D × D):=fnD 2 8 db_law_built
noncomputable def b_law_grown (self:List D->Option ((D × Bool) × D)):SM :=
    (mSeq (mAsg 5 (mCall m_law_name_by (mCons (mCB gLenR (mCons (mVar 0) mNil)) mNil)))
    (mSeq (mPutD 0 (mTup (mCons (mVar 4) (mCons (mVar 2) (mCons (mVar 3) (mCons (mTup mNil) mNil))))) (mVar 5))
    (mSeq (mAsg 6 (mLCI [("_law_held",0),("_law_name",5),("_law_key",4)] 0 0 (mRg1 (mCons (mVar 1) mNil)) self (mCons (mCB gMax (mCons (mC (.int 0)) (mCons (mOp gSub (mVar 0) (mC (.int 1))) mNil))) (mCons (mVar 2) (mCons (mOp gGt (mVar 0) (mC (.int 0))) (mCons (mOp gAdd (mVar 3) (mC (.int 1))) mNil))))))
    (mSeq (mPutD 0 (mTup (mCons (mVar 4) (mCons (mVar 2) (mCons (mVar 3) (mCons (mCB gTuple (mCons (mVar 6) mNil)) mNil))))) (mVar 5))
    (mRet (mVar 5))))))
noncomputable def m_law_grown:Nat->List D->Option ((D × Bool) × D)
  | 0=>fun _=>none
  | n + 1=>fnI 5 2 (b_law_grown (m_law_grown n))
noncomputable def lb1_law_begun:SM :=
    (mSeq (mAsg 4 (mCall m_law_name_by (mCons (mCB gLenR (mCons (mVar 1) mNil)) mNil)))
    (mSeq (mPutD 1 (mTup (mCons (mCall m_law_key_by (mCons (mVar 3) mNil)) (mCons (mC .none) (mCons (mC (.bool false)) (mCons (mTup mNil) mNil))))) (mVar 4))
    (mDrop (mMut 2 fAppend (mCons (mVar 4) mNil)))))
noncomputable def b_law_begun:SM :=
    (mSeq (mIfS (mOr (mTest (mOp gEq (mVar 0) (mLst mNil))) (mTest (mOp gNe (mOp gMod (mOp gIx (mVar 0) (mC (.int 0))) (mC (.int 7))) (mC (.int 6)))))
    (mRet (mCall m_law_built (mCons (mVar 0) (mCons (mC (.int 0)) mNil))))
    mPass)
    (mSeq (mAsg 1 mDct0)
    (mSeq (mAsg 2 (mLst (mCons (mCallI 1 (m_law_grown 12) (mCons (mOp gMod (mOp gDiv (mOp gIx (mVar 0) (mC (.int 0))) (mC (.int 7))) (mC (.int 10))) (mCons (mC .none) (mCons (mC (.bool false)) (mCons (mCall m_law_key_by (mCons (mOp gDiv (mOp gIx (mVar 0) (mC (.int 0))) (mC (.int 70))) mNil)) mNil))))) mNil)))
    (mSeq (mFor (mFoL (mSl gSl (mVar 0) (mPart (mC (.int 1))) (mPart (mC (.int 12))))) (mgN 3)
    lb1_law_begun)
    (mRet (mTup (mCons (mVar 2) (mCons (mVar 1) mNil))))))))
noncomputable def m_law_begun:List D->Option (D × Bool):=fnM 1 4 b_law_begun
noncomputable def db_law_begun:Rho->Option (D × D) :=
    (mdIf (mOr (mTest (mOp gEq (mVar 0) (mLst mNil))) (mTest (mOp gNe (mOp gMod (mOp gIx (mVar 0) (mC (.int 0))) (mC (.int 7))) (mC (.int 6))))) (mdCall d_law_built (mCons (mVar 0) (mCons (mC (.int 0)) mNil)))
    (mdSeq (mAsg 1 mDct0)
    (mdSeq (mAsg 2 (mLst (mCons (mCallI 1 (m_law_grown 12) (mCons (mOp gMod (mOp gDiv (mOp gIx (mVar 0) (mC (.int 0))) (mC (.int 7))) (mC (.int 10))) (mCons (mC .none) (mCons (mC (.bool false)) (mCons (mCall m_law_key_by (mCons (mOp gDiv (mOp gIx (mVar 0) (mC (.int 0))) (mC (.int 70))) mNil)) mNil))))) mNil)))
    (mdSeq (mFor (mFoL (mSl gSl (mVar 0) (mPart (mC (.int 1))) (mPart (mC (.int 12))))) (mgN 3)
    lb1_law_begun)
    (mdRet 2 1)))))
noncomputable def d_law_begun:List D->Option (D × D):=fnD 1 4 db_law_begun
noncomputable def b_law_cell_at:SM :=
    (mSeq (mIfS (mTest (mOp gLt (mVar 1) (mCB gLen (mCons (mVar 0) mNil))))
    (mRet (mOp gIx (mVar 0) (mVar 1)))
    mPass)
    (mRet (mC (.int 0))))
noncomputable def m_law_cell_at:List D->Option (D × Bool):=fnM 2 0 b_law_cell_at
noncomputable def lb1_law_reaches:SM :=
    (mSeq (mIfS (mTest (mOp gNotInD (mVar 1) (mVar 0)))
    (mRet (mC (.bool false)))
    mPass)
    (mSeq (mIfS (mTest (mOp gIs (mOp gIx (mOp gIxD (mVar 0) (mVar 1)) (mC (.int 1))) (mC .none)))
    (mRet (mC (.bool true)))
    mPass)
    (mAsg 1 (mOp gIx (mOp gIxD (mVar 0) (mVar 1)) (mC (.int 1))))))
noncomputable def b_law_reaches:SM :=
    (mSeq (mFor (mRg1 (mCons (mOp gAdd (mCB gLenR (mCons (mVar 0) mNil)) (mC (.int 1))) mNil)) (mgN 2)
    lb1_law_reaches)
    (mRet (mC (.bool false))))
noncomputable def m_law_reaches:List D->Option (D × Bool):=fnM 2 1 b_law_reaches
noncomputable def lb1_law_name_right:SM :=
    (mSeq (mIfS (mOr (mTest (mOp gNotInD (mOp gIx (mVar 5) (mVar 6)) (mVar 0))) (mOr (mTest (mOp gInT (mOp gIx (mVar 5) (mVar 6)) (mSl gSlT (mVar 5) mNoPart (mPart (mVar 6))))) (mTest (mOp gNe (mOp gIx (mOp gIxD (mVar 0) (mOp gIx (mVar 5) (mVar 6))) (mC (.int 1))) (mVar 1)))))
    (mRet (mC (.bool false)))
    mPass)
    (mIfS (mTest (mOp gLt (mCB gLen (mCons (mOp gIx (mOp gIxD (mVar 0) (mOp gIx (mVar 5) (mVar 6))) (mC (.int 3))) mNil)) (mOp gSub (mVar 6) (mCB gInt (mCons (mOp gIx (mOp gIxD (mVar 0) (mOp gIx (mVar 5) (mVar 6))) (mC (.int 2))) mNil)))))
    (mRet (mC (.bool false)))
    mPass))
noncomputable def b_law_name_right:SM :=
    (mSeq (mAsgG (mOp gIxD (mVar 0) (mVar 1)) (mgU 4 (mgsCons (mgN 2) (mgsCons (mgN 3) (mgsCons (mgN 4) (mgsCons (mgN 5) mgsNil))))))
    (mSeq (mIfS (mAnd (mTest (mOp gIs (mVar 3) (mC .none))) (mTest (mVar 4)))
    (mRet (mC (.bool false)))
    mPass)
    (mSeq (mIfS (mTest (mOp gIsNot (mVar 3) (mC .none)))
    (mIfS (mOr (mTest (mOp gNotInD (mVar 3) (mVar 0))) (mOr (mTest (mOp gNotInT (mVar 1) (mOp gIx (mOp gIxD (mVar 0) (mVar 3)) (mC (.int 3))))) (mTest (mOp gLtP (mTup (mCons (mVar 2) (mCons (mVar 1) mNil))) (mTup (mCons (mOp gIx (mOp gIxD (mVar 0) (mVar 3)) (mC (.int 0))) (mCons (mVar 3) mNil)))))))
    (mRet (mC (.bool false)))
    mPass)
    mPass)
    (mSeq (mFor (mRg1 (mCons (mCB gLen (mCons (mVar 5) mNil)) mNil)) (mgN 6)
    lb1_law_name_right)
    (mRet (mC (.bool true)))))))
noncomputable def m_law_name_right:List D->Option (D × Bool):=fnM 2 5 b_law_name_right
noncomputable def lb1_law_in_form:SM :=
    (mSeq (mIfS (mAnd (mTest (mOp gIs (mOp gIx (mOp gIxD (mVar 1) (mVar 2)) (mC (.int 1))) (mC .none))) (mTest (mOp gNotInT (mVar 2) (mVar 0))))
    (mRet (mC (.bool false)))
    mPass)
    (mIfS (mOr (mNot (mTest (mCall m_law_reaches (mCons (mVar 1) (mCons (mVar 2) mNil))))) (mNot (mTest (mCall m_law_name_right (mCons (mVar 1) (mCons (mVar 2) mNil))))))
    (mRet (mC (.bool false)))
    mPass))
noncomputable def lb2_law_in_form:SM :=
    (mIfS (mOr (mTest (mOp gNe (mBM gCount (mVar 0) (mCons (mVar 2) mNil)) (mC (.int 1)))) (mOr (mTest (mOp gNotInD (mVar 2) (mVar 1))) (mTest (mOp gIsNot (mOp gIx (mOp gIxD (mVar 1) (mVar 2)) (mC (.int 1))) (mC .none)))))
    (mRet (mC (.bool false)))
    mPass)
noncomputable def b_law_in_form:SM :=
    (mSeq (mFor (mFoL (mVar 0)) (mgN 2)
    lb2_law_in_form)
    (mSeq (mForD (mVarF 1) (mgN 2)
    lb1_law_in_form)
    (mRet (mC (.bool true)))))
noncomputable def m_law_in_form:List D->Option (D × Bool):=fnM 2 1 b_law_in_form
noncomputable def b_hangs_well:SM :=
    (mSeq (mAsg 3 (mOp gIx (mOp gIx (mOp gIxD (mVar 0) (mVar 1)) (mC (.int 3))) (mVar 2)))
    (mSeq (mIfS (mOr (mTest (mOp gNotInD (mVar 3) (mVar 0))) (mTest (mOp gNe (mOp gIx (mOp gIxD (mVar 0) (mVar 3)) (mC (.int 1))) (mVar 1))))
    (mRet (mC (.bool false)))
    mPass)
    (mSeq (mAsg 4 (mIfE (mTest (mOp gIx (mOp gIxD (mVar 0) (mVar 3)) (mC (.int 2)))) (mOp gSub (mVar 2) (mC (.int 1))) (mVar 2)))
    (mRet (mOp gGe (mCB gLen (mCons (mOp gIx (mOp gIxD (mVar 0) (mVar 3)) (mC (.int 3))) mNil)) (mVar 4))))))
noncomputable def m_hangs_well:List D->Option (D × Bool):=fnM 3 2 b_hangs_well
noncomputable def b_standing:SM :=
    (mRet (mTup (mCons (mOp gIx (mOp gIxD (mVar 0) (mVar 1)) (mC (.int 0))) (mCons (mVar 1) mNil))))
noncomputable def m_standing:List D->Option (D × Bool):=fnM 2 0 b_standing
noncomputable def ce1_ties_in_form:PM :=
    (mCall m_hangs_well (mCons (mVar 1) (mCons (mVar 2) (mCons (mVar 0) mNil))))
noncomputable def b_ties_in_form:SM :=
    (mSeq (mAsg 2 (mOp gIx (mOp gIxD (mVar 0) (mVar 1)) (mC (.int 1))))
    (mSeq (mIfS (mTest (mOp gIs (mVar 2) (mC .none)))
    (mIfS (mTest (mOp gIx (mOp gIxD (mVar 0) (mVar 1)) (mC (.int 2))))
    (mRet (mC (.bool false)))
    mPass)
    (mIfS (mOr (mTest (mOp gNotInD (mVar 2) (mVar 0))) (mOr (mTest (mOp gNe (mBM gCountT (mOp gIx (mOp gIxD (mVar 0) (mVar 2)) (mC (.int 3))) (mCons (mVar 1) mNil)) (mC (.int 1)))) (mTest (mOp gLtP (mCall m_standing (mCons (mVar 0) (mCons (mVar 1) mNil))) (mCall m_standing (mCons (mVar 0) (mCons (mVar 2) mNil)))))))
    (mRet (mC (.bool false)))
    mPass))
    (mRet (mCB gAll (mCons (mLC [("held",0),("name",1)] (mRg1 (mCons (mCB gLen (mCons (mOp gIx (mOp gIxD (mVar 0) (mVar 1)) (mC (.int 3))) mNil)) mNil)) mYes ce1_ties_in_form) mNil)))))
noncomputable def m_ties_in_form:List D->Option (D × Bool):=fnM 2 1 b_ties_in_form
noncomputable def lb1_comes_to_top:SM :=
    (mSeq (mIfS (mOr (mTest (mOp gIs (mVar 2) (mC .none))) (mTest (mOp gNotInD (mVar 2) (mVar 0))))
    mBrk
    mPass)
    (mAsg 2 (mOp gIx (mOp gIxD (mVar 0) (mVar 2)) (mC (.int 1)))))
noncomputable def b_comes_to_top:SM :=
    (mSeq (mAsg 2 (mVar 1))
    (mSeq (mFor (mRg1 (mCons (mCB gLenR (mCons (mVar 0) mNil)) mNil)) (mgN 3)
    lb1_comes_to_top)
    (mRet (mOp gIs (mVar 2) (mC .none)))))
noncomputable def m_comes_to_top:List D->Option (D × Bool):=fnM 2 2 b_comes_to_top
noncomputable def ce1_pile_in_form:PM :=
    (mAndV (mCall m_ties_in_form (mCons (mVar 1) (mCons (mVar 0) mNil))) (mCall m_comes_to_top (mCons (mVar 1) (mCons (mVar 0) mNil))))
noncomputable def ct1_pile_in_form:Rho->Option (Bool × Rho) :=
    (mTest (mOp gIs (mOp gIx (mOp gIxD (mVar 1) (mVar 0)) (mC (.int 1))) (mC .none)))
noncomputable def ce2_pile_in_form:PM :=
    (mVar 0)
noncomputable def b_pile_in_form:SM :=
    (mSeq (mAsg 1 (mOp gIx (mVar 0) (mC (.int 0))))
    (mSeq (mAsg 2 (mOp gIx (mVar 0) (mC (.int 1))))
    (mSeq (mIfS (mTest (mOp gNe (mCB gSortedS (mCons (mVar 1) mNil)) (mCB gSortedS (mCons (mLCD [("held",2)] (mVarF 2) ct1_pile_in_form ce2_pile_in_form) mNil))))
    (mRet (mC (.bool false)))
    mPass)
    (mRet (mCB gAll (mCons (mLCD [("held",2)] (mVarF 2) mYes ce1_pile_in_form) mNil))))))
noncomputable def m_pile_in_form:List D->Option (D × Bool):=fnM 1 2 b_pile_in_form
noncomputable def ct1_pile_credit:Rho->Option (Bool × Rho) :=
    (mTest (mOp gIx (mOp gIxD (mOp gIx (mVar 1) (mC (.int 1))) (mVar 0)) (mC (.int 2))))
noncomputable def ce1_pile_credit:PM :=
    (mVar 0)
noncomputable def b_pile_credit:SM :=
    (mSeq (mAsg 1 (mLCD [("pile",0)] (mIxF (mVarF 0) 1) ct1_pile_credit ce1_pile_credit))
    (mRet (mOp gAdd (mCB gLen (mCons (mOp gIx (mVar 0) (mC (.int 0))) mNil)) (mOp gMul (mC (.int 2)) (mCB gLen (mCons (mVar 1) mNil))))))
noncomputable def m_pile_credit:List D->Option (D × Bool):=fnM 1 1 b_pile_credit
noncomputable def b_law_entry_spoiled:SM :=
    (mSeq (mAsgG (mOp gIxD (mVar 0) (mVar 1)) (mgU 4 (mgsCons (mgN 4) (mgsCons (mgN 5) (mgsCons (mgN 6) (mgsCons (mgN 7) mgsNil))))))
    (mSeq (mAsg 7 (mCB gList (mCons (mVar 7) mNil)))
    (mSeq (mIfS (mTest (mOp gEq (mVar 2) (mC (.int 0))))
    (mAsg 4 (mOp gIx (mLst (mCons (mUn gNeg (mVar 4)) (mCons (mOp gDiv (mVar 4) (mC (.int 2))) (mCons (mOp gAdd (mUn gNeg (mOp gPow (mC (.int 10)) (mC (.int 60)))) (mC (.int 1))) (mCons (mOp gSub (mOp gPow (mC (.int 10)) (mC (.int 60))) (mC (.int 1))) mNil))))) (mOp gMod (mOp gAdd (mCB gLen (mCons (mVar 3) mNil)) (mVar 4)) (mC (.int 4)))))
    mPass)
    (mSeq (mIfS (mTest (mOp gEq (mVar 2) (mC (.int 1))))
    (mAsg 5 (mVar 3))
    mPass)
    (mSeq (mIfS (mTest (mOp gEq (mVar 2) (mC (.int 2))))
    (mAsg 6 (mNotV (mVar 6)))
    mPass)
    (mSeq (mIfS (mAnd (mTest (mOp gEq (mVar 2) (mC (.int 3)))) (mTest (mOp gGt (mCB gLen (mCons (mVar 7) mNil)) (mC (.int 1)))))
    (mAsg 7 (mOp gAdd (mOp gAdd (mLst (mCons (mOp gIx (mVar 7) (mUn gNeg (mC (.int 1)))) mNil)) (mSl gSl (mVar 7) (mPart (mC (.int 1))) (mPart (mUn gNeg (mC (.int 1)))))) (mLst (mCons (mOp gIx (mVar 7) (mC (.int 0))) mNil))))
    mPass)
    (mSeq (mIfS (mTest (mOp gEq (mVar 2) (mC (.int 4))))
    (mAsg 7 (mSl gSl (mVar 7) (mPart (mC (.int 1))) mNoPart))
    mPass)
    (mSeq (mIfS (mTest (mOp gEq (mVar 2) (mC (.int 5))))
    (mAsg 7 (mOp gAdd (mOp gAdd (mVar 7) (mSl gSl (mVar 7) mNoPart (mPart (mC (.int 1))))) (mLst (mCons (mVar 3) mNil))))
    mPass)
    (mSeq (mIfS (mTest (mOp gEq (mVar 2) (mC (.int 6))))
    (mSeq (mAsg 5 (mVar 1))
    (mDrop (mMut 7 fAppend (mCons (mVar 1) mNil))))
    mPass)
    (mSeq (mIfS (mTest (mOp gEq (mVar 2) (mC (.int 7))))
    (mAsg 5 (mC .none))
    mPass)
    (mPutD 0 (mTup (mCons (mVar 4) (mCons (mVar 5) (mCons (mVar 6) (mCons (mCB gTuple (mCons (mVar 7) mNil)) mNil))))) (mVar 1))))))))))))
noncomputable def m_law_entry_spoiled:List D->Option ((D × Bool) × D):=fnI 4 4 b_law_entry_spoiled
noncomputable def b_law_spoiled:SM :=
    (mSeq (mAsg 3 (mCB gListK (mCons (mVar 1) mNil)))
    (mSeq (mAsg 4 (mOp gMod (mVar 2) (mC (.int 10))))
    (mIfS (mTest (mOp gEq (mVar 3) (mLst mNil)))
    (mDrop (mMut 0 fAppend (mCons (mC (.str "aa")) mNil)))
    (mIfS (mTest (mOp gEq (mVar 4) (mC (.int 8))))
    (mDrop (mMut 0 fInsert (mCons (mOp gMod (mOp gDiv (mVar 2) (mC (.int 10))) (mOp gAdd (mCB gLen (mCons (mVar 0) mNil)) (mC (.int 1)))) (mCons (mOp gIx (mOp gAdd (mVar 3) (mLst (mCons (mC (.str "qq")) mNil))) (mOp gMod (mOp gDiv (mVar 2) (mC (.int 70))) (mOp gAdd (mCB gLen (mCons (mVar 3) mNil)) (mC (.int 1))))) mNil))))
    (mIfS (mTest (mOp gEq (mVar 4) (mC (.int 9))))
    (mDrop (mMut 0 fPopAt (mCons (mOp gMod (mOp gDiv (mVar 2) (mC (.int 10))) (mCB gLen (mCons (mVar 0) mNil))) mNil)))
    (mSeq (mAsg 5 (mOp gIx (mOp gAdd (mVar 3) (mLst (mCons (mC (.str "qq")) mNil))) (mOp gMod (mOp gDiv (mVar 2) (mC (.int 700))) (mOp gAdd (mCB gLen (mCons (mVar 3) mNil)) (mC (.int 1))))))
    (mDrop (mCallI 1 m_law_entry_spoiled (mCons (mOp gIx (mVar 3) (mOp gMod (mOp gDiv (mVar 2) (mC (.int 10))) (mCB gLen (mCons (mVar 3) mNil)))) (mCons (mVar 4) (mCons (mVar 5) mNil)))))))))))
noncomputable def m_law_spoiled:List D->Option ((D × Bool) × D × D):=fnJ 3 3 b_law_spoiled
noncomputable def ct1_law:Rho->Option (Bool × Rho) :=
    (mTest (mOp gIx (mOp gIxD (mVar 1) (mVar 0)) (mC (.int 2))))
noncomputable def ce1_law:PM :=
    (mVar 0)
noncomputable def b_law:SM :=
    (mSeq (mUnp 1 2 d_law_begun (mCons (mSl gSl (mVar 0) (mPart (mC (.int 3))) (mPart (mC (.int 63)))) mNil))
    (mSeq (mAsg 3 (mCall m_law_cell_at (mCons (mVar 0) (mCons (mC (.int 0)) mNil))))
    (mSeq (mIfS (mTest (mOp gGt (mOp gMod (mVar 3) (mC (.int 4))) (mC (.int 0))))
    (mDrop (mCallJ 1 2 m_law_spoiled (mCons (mCall m_law_cell_at (mCons (mVar 0) (mCons (mC (.int 1)) mNil))) mNil)))
    mPass)
    (mSeq (mIfS (mAnd (mTest (mOp gGt (mOp gMod (mVar 3) (mC (.int 8))) (mC (.int 4)))) (mTest (mOp gGt (mCB gLen (mCons (mVar 1) mNil)) (mC (.int 0)))))
    (mDrop (mCallJ 1 2 m_law_spoiled (mCons (mCall m_law_cell_at (mCons (mVar 0) (mCons (mC (.int 2)) mNil))) mNil)))
    mPass)
    (mSeq (mAsg 4 (mCall m_law_in_form (mCons (mVar 1) (mCons (mVar 2) mNil))))
    (mSeq (mAsg 5 (mTup (mCons (mCB gList (mCons (mVar 1) mNil)) (mCons (mCB gDictC (mCons (mVar 2) mNil)) mNil))))
    (mSeq (mAsg 6 (mCall m_pile_in_form (mCons (mVar 5) mNil)))
    (mSeq (mIfS (mOr (mNot (mTest (mIsi "bool" (mVar 6)))) (mOr (mTest (mOp gNe (mVar 6) (mVar 4))) (mTest (mOp gNeP (mVar 5) (mTup (mCons (mVar 1) (mCons (mVar 2) mNil)))))))
    (mRet (mC (.bool false)))
    mPass)
    (mSeq (mIfS (mNot (mTest (mVar 4)))
    (mRet (mC (.bool true)))
    mPass)
    (mSeq (mAsg 7 (mCall m_pile_credit (mCons (mVar 5) mNil)))
    (mSeq (mAsg 8 (mCB gLen (mCons (mLCD [("_law_held",2)] (mVarF 2) ct1_law ce1_law) mNil)))
    (mRet (mAndV (mIsi "int" (mVar 7)) (mAndV (mNotV (mIsi "bool" (mVar 7))) (mOp gEq (mVar 7) (mOp gAdd (mCB gLen (mCons (mVar 1) mNil)) (mOp gMul (mC (.int 2)) (mVar 8))))))))))))))))))
noncomputable def m_law:List D->Option (D × Bool):=fnM 1 8 b_law
end K71
set_option Elab.async false
set_option linter.all false
set_option maxRecDepth 100000
namespace K71
open PySem L2 Mir
local macro_rules | `(tactic| walk_at "mir") => `(tactic| simp only [*, fnM, mSeq, mIfS, mTest, mOp, sv, mVar, mC, mCB, mCons, mNil, refr, gB0, gI0, gI, gAdd, gMul, gNeg, gIx, atI_map, gSl, gLen, gMax, gMin, gAbs, gInt, gIs, gIsNot, resK_f, resK_l, resK_t, asB, asI, mUn, mIsi, gEq_int, gNe_int, gEq_ints, gNe_ints, gEq_bool, gNe_bool, isi_int_int, isi_int_bool, isi_list_list, isi_tuple_tuple, isNone,
  mAnd,mOr,mNot,mAndV,mOrV,mNotV,mIfE,mTup,mLst,fzAll,fzOne,mAsg,sto,setSl,mRet,mRetN,mDrop,mPass,mAug,retD,mCall,pureR_int,pureR_bool,pureR_str,pureR_none,pureR_list,pureR_tup,pureR_new,pureDs_nil,pureDs_int,pureDs_bool,pureDs_list,pureDs_ints,kO_f,kO_t,mRg1,mRg2,rg1,rg2,mItL,mFoL,asL,asT,mFor,mgN,mgT,mgU,asS,mgsCons,mgsNil,mAsgG,mgSub,ownL,Mir.putAt,Sl.put,mMut,mMut0,fAppend,fPop,fClear,
  List.length_cons,List.length_nil,List.map_cons,List.map_nil,List.cons_append,List.nil_append,List.replicate,List.getElem?_cons_zero,List.getElem?_cons_succ,List.getElem?_nil,List.set_cons_zero,List.set_cons_succ,
  Option.bind_some,Option.bind_none,Option.map_some,Option.map_none,if_true,if_false,cIf_true,Bool.false_eq_true,reduceIte,decide_true,decide_false,Bool.not_true,Bool.not_false,ite_true,ite_false,Nat.reduceAdd,Nat.reduceEqDiff,Bool.and_true,Bool.true_and,Bool.and_false,Bool.not_eq_true,not_true_eq_false,not_false_eq_true,Int.reduceLT,Int.reduceLE,Int.reduceEq,Nat.reduceLeDiff])
local macro_rules | `(tactic| walk_at "st") => `(tactic| (apply seq_nx; · (walk_at "mir"; try exact rfl)))
theorem op_ro {a b:PM} {ρ ρ1 ρ2:Rho} {x:D} {r:RV} {res:D × Bool} {g:D->D->Option (D × Bool)} (h1:sv a ρ=some ((x,.ro),ρ1)) (h2:sv b ρ1=some (r,ρ2)) (h3:g x r.1=some res):mOp g a b ρ=some (resK res,ρ2):=by
  unfold mOp; rw [h1,Option.bind_some]; dsimp only; rw [h2,Option.bind_some]; dsimp only [refr,Option.bind_some]; rw [h3,Option.map_some]
theorem gIx_list (l:List D) (k:Int) (d:D) (h:L2.atI l k=some d):gIx (.list l) (.int k)=some (d,false):=by
  show (L2.atI l k).map _=_
  rw [h]; rfl
def NIo (s:Sl):Prop:=∀ d,s≠.io d
theorem NIo.no:NIo .no:=fun d h=>by cases h
theorem NIo.fz (x:D):NIo (.fz x):=fun d h=>by cases h
theorem NIo.own (x:D):NIo (.own x):=fun d h=>by cases h
theorem set_nio {ρ:Rho} {i:Nat} {s:Sl} (q:Sl) (h : ρ[i]?=some s) (hs:NIo s):setSl ρ i q=some (ρ.set i q):=by
  unfold setSl
  rw [h]
  cases s <;> first | rfl | exact absurd rfl (hs _)
theorem mgN_nio {ρ:Rho} {i:Nat} {s:Sl} {d:D} (h : ρ[i]?=some s) (hs:NIo s):mgN i d ρ=some (ρ.set i (.fz d)):=set_nio _ h hs
def LT:Str:="abcdefghijklmnopqrstuvwxyz"
def letter (j:Nat):Str:=⟨#[LT.cps.toList.getD j 97]⟩
theorem LT_at:∀ j:Nat,j < 26->atI LT.cps.toList (j:Int)=some (LT.cps.toList.getD j 97):=by decide
theorem letter_ix (j:Nat) (h:j < 26):gIxS (.str LT) (.int (j:Int))=some (.str (letter j),false):=by
  show cIf (LT.length≤sizeLine) _ none=_
  rw [cIf_pos (by rw [sizeLine_eq]; decide),LT_at j h]; rfl
def sfx (j:Nat):Str:=(["a","zz","aaa","zzzz","bbbbb","zzzzzz"]:List Str).getD j ""
def nameS (k:Nat):Str:=if k % 2=1 then letter (k / 52 % 26)++letter (k / 2 % 26)++sfx (k / 2 % 6) else letter (k / 52 % 26)++letter (k / 2 % 26)
theorem nameS_ne:∀ i:Nat,i < 130->∀ j:Nat,j < i->nameS i≠nameS j:=by decide +kernel
theorem key_str (m:Str):keyOf (.str m)=some (.inr m):=rfl
def aboveD:Option Str->D
  | none=>.none
  | some a=>.str a
def rowD (r:Pile.Row):D:=.tuple [.int r.key,aboveD r.above,.bool r.mark,.tuple (r.below.map .str)]
def heldL (keys:List Str) (row:Str->Pile.Row):List (D × D):=keys.map fun n=>(PyData.str n,rowD (row n))
theorem held_look (row:Str->Pile.Row) (n:Str):∀ keys:List Str,lookK (heldL keys row) (.inr n)=if n∈keys then some (rowD (row n)) else none
  | []=>rfl
  | m::keys=>by
    show (if keyOf (.str m)=some (.inr n) then some (rowD (row m)) else lookK (heldL keys row) (.inr n))=_
    by_cases e:m=n
    . subst e
      rw [if_pos (key_str m),if_pos List.mem_cons_self]
    . have e1 : ¬ keyOf (.str m)=some (.inr n):=fun z=>e (Sum.inr.inj (Option.some.inj z))
      rw [if_neg e1,held_look row n keys]
      by_cases h:n∈keys
      . rw [if_pos h,if_pos (List.mem_cons_of_mem _ h)]
      . rw [if_neg h,if_neg fun z=>by
          rcases List.mem_cons.mp z with z | z
          . exact e z.symm
          . exact h z]
def rowSet (row:Str->Pile.Row) (n:Str) (r:Pile.Row):Str->Pile.Row:=fun m=>if m=n then r else row m
theorem held_put_old (keys:List Str) (row:Str->Pile.Row) (n:Str) (r:Pile.Row) (h:n∈keys):putD (heldL keys row) (.str n) (rowD r) (.inr n)=heldL keys (rowSet row n r):=by
  unfold putD
  rw [held_look,if_pos h]
  show (heldL keys row).map _=_
  unfold heldL
  rw [List.map_map]
  refine List.map_congr_left fun m _=>?_
  show (if keyOf (.str m)=some (.inr n) then (PyData.str m,rowD r) else (PyData.str m,rowD (row m)))=(PyData.str m,rowD (rowSet row n r m))
  unfold rowSet
  by_cases e:m=n
  . subst e
    rw [if_pos (key_str m),if_pos rfl]
  . have e1 : ¬ keyOf (.str m)=some (.inr n):=fun z=>e (Sum.inr.inj (Option.some.inj z))
    rw [if_neg e1,if_neg e]
theorem held_put_new (keys:List Str) (row:Str->Pile.Row) (n:Str) (r:Pile.Row) (h:n ∉ keys):putD (heldL keys row) (.str n) (rowD r) (.inr n)=heldL (keys++[n]) (rowSet row n r):=by
  unfold putD
  rw [held_look,if_neg h]
  show heldL keys row++[(.str n,rowD r)]=_
  unfold heldL
  rw [List.map_append]
  congr 1
  . refine List.map_congr_left fun m hm=>?_
    show _=(PyData.str m,rowD (rowSet row n r m))
    unfold rowSet
    rw [if_neg fun z=>h (by rw [← z]; exact hm)]
  . show [(PyData.str n,rowD r)]=[(PyData.str n,rowD (rowSet row n r n))]
    unfold rowSet
    rw [if_pos rfl]
theorem held_len (keys:List Str) (row:Str->Pile.Row):(heldL keys row).length=keys.length:=by unfold heldL; rw [List.length_map]
theorem held_keys (keys:List Str) (row:Str->Pile.Row):(heldL keys row).map (·.1)=keys.map .str:=by unfold heldL; rw [List.map_map]; rfl
theorem held_ix (keys:List Str) (row:Str->Pile.Row) (n:Str) (h:n∈keys):gIxD (.dict (heldL keys row)) (.str n)=some (rowD (row n),false):=by
  show (lookK (heldL keys row) (.inr n)).map _=_
  rw [held_look,if_pos h]; rfl
theorem letter_len (j:Nat):(letter j).length=1:=rfl
theorem sfx_len:∀ j:Nat,j < 6->(sfx j).length≤6:=by decide
theorem add_str (a b:Str) (h:a.length + b.length≤1000):gAdd (.str a) (.str b)=some (.str (a++b),false):=by
  show cIf (a.length + b.length≤sizeLine) _ none=_
  rw [cIf_pos (by rw [sizeLine_eq]; omega)]
theorem two_len (i j:Nat):(letter i++letter j).length=2:=rfl
theorem name_is (k:Nat):m_law_name_by [.int (k:Int)]=some (.str (nameS k),false):=by
  have hk:∀ {ρ:Rho},ρ[0]?=some (.fz (.int (k:Int)))->∀ (a b:Nat),0 < a->a < 1000->0 < b->IE (mOp gMod (mOp gDiv (mVar 0) (mC (.int (a:Int)))) (mC (.int (b:Int)))) ρ ((k / a % b:Nat):Int):=fun {ρ} h a b ha ha2 hb=>by
    have:=ie_mod (ie_div (ie_var h) (ie_c (i:=(a:Int))) ⟨by omega,by omega⟩) (ie_c (i:=(b:Int))) (by omega)
    rwa [show ((k:Int) / (a:Int) % (b:Int))=((k / a % b:Nat):Int) by rw [Int.natCast_emod,Int.natCast_ediv]] at this
  have l1:∀ {ρ:Rho},ρ[0]?=some (.fz (.int (k:Int)))->ρ[1]?=some (.fz (.str LT))->mOp gIxS (mVar 1) (mOp gMod (mOp gDiv (mVar 0) (mC (.int 52))) (mC (.int 26))) ρ=some ((.str (letter (k / 52 % 26)),.fz),ρ):=fun {ρ} h0 h1=>op_ev (r:=(.int ((k / 52 % 26:Nat):Int),.fz)) (res:=(.str (letter (k / 52 % 26)),false)) (sv_fz (var_fz h1)) (sv_fz (hk h0 52 26 (by omega) (by omega) (by omega))) (letter_ix _ (by omega))
  have l2:∀ {ρ:Rho},ρ[0]?=some (.fz (.int (k:Int)))->ρ[1]?=some (.fz (.str LT))->mOp gIxS (mVar 1) (mOp gMod (mOp gDiv (mVar 0) (mC (.int 2))) (mC (.int 26))) ρ=some ((.str (letter (k / 2 % 26)),.fz),ρ):=fun {ρ} h0 h1=>op_ev (r:=(.int ((k / 2 % 26:Nat):Int),.fz)) (res:=(.str (letter (k / 2 % 26)),false)) (sv_fz (var_fz h1)) (sv_fz (hk h0 2 26 (by omega) (by omega) (by omega))) (letter_ix _ (by omega))
  have em:∀ {ρ:Rho},ρ[0]?=some (.fz (.int (k:Int)))->IE (mOp gMod (mVar 0) (mC (.int 2))) ρ ((k:Int) % 2):=fun {ρ} h=>ie_mod (ie_var h) ie_c (by decide)
  have two:=add_str (letter (k / 52 % 26)) (letter (k / 2 % 26)) (by rw [letter_len,letter_len]; omega)
  have hd:∀ (u:SM) (o:Option Out),u [.fz (.int (k:Int)),.fz (.str LT),.fz (.str (letter (k / 52 % 26)++letter (k / 2 % 26)))]=o->mSeq (mAsg 1 (mC (.str "abcdefghijklmnopqrstuvwxyz"))) (mSeq (mAsg 2 (mOp gAdd (mOp gIxS (mVar 1) (mOp gMod (mOp gDiv (mVar 0) (mC (.int 52))) (mC (.int 26)))) (mOp gIxS (mVar 1) (mOp gMod (mOp gDiv (mVar 0) (mC (.int 2))) (mC (.int 26)))))) u) [.fz (.int (k:Int)),.no,.no]=o:=fun u o h=>by
    refine seq_nx (ρ1:=[.fz (.int (k:Int)),.fz (.str LT),.no]) (asg_fz rfl rfl) ?_
    exact seq_nx (ρ1:=[.fz (.int (k:Int)),.fz (.str LT),.fz (.str (letter (k / 52 % 26)++letter (k / 2 % 26)))]) (asg_fz (op_ev (r:=(.str (letter (k / 2 % 26)),.fz)) (res:=(.str (letter (k / 52 % 26)++letter (k / 2 % 26)),false)) (sv_fz (l1 rfl rfl)) (sv_fz (l2 rfl rfl)) two) rfl) h
  by_cases odd:k % 2=1
  . have en:nameS k=letter (k / 52 % 26)++letter (k / 2 % 26)++sfx (k / 2 % 6):=if_pos odd
    rw [en]
    refine fn_of (o:=.rt (.str (letter (k / 52 % 26)++letter (k / 2 % 26)++sfx (k / 2 % 6)),.fz) [.fz (.int (k:Int)),.fz (.str LT),.fz (.str (letter (k / 52 % 26)++letter (k / 2 % 26)++sfx (k / 2 % 6)))]) rfl (hd _ _ ?_) rfl
    have six:∀ j:Nat,j < 6->gIx (.list [.str "a",.str "zz",.str "aaa",.str "zzzz",.str "bbbbb",.str "zzzzzz"]) (.int (j:Int))=some (.str (sfx j),false):=fun j hj=>by
      have:j=0∨j=1∨j=2∨j=3∨j=4∨j=5:=by omega
      rcases this with rfl | rfl | rfl | rfl | rfl | rfl <;> rfl
    refine seq_nx (ρ1:=[.fz (.int (k:Int)),.fz (.str LT),.fz (.str (letter (k / 52 % 26)++letter (k / 2 % 26)++sfx (k / 2 % 6)))]) (if_t (tEq (em rfl) ie_c (by omega)) (asg_fz (op_ev (r:=(.str (sfx (k / 2 % 6)),.fz)) (res:=(.str (letter (k / 52 % 26)++letter (k / 2 % 26)++sfx (k / 2 % 6)),false)) (sv_fz (var_fz rfl)) (sv_fz (op_ev (r:=(.int ((k / 2 % 6:Nat):Int),.fz)) (res:=(.str (sfx (k / 2 % 6)),false)) (sv_new (lst_ev (rs:=[(.str "a",.fz),(.str "zz",.fz),(.str "aaa",.fz),(.str "zzzz",.fz),(.str "bbbbb",.fz),(.str "zzzzzz",.fz)]) rfl rfl (by simp))) (sv_fz (hk rfl 2 6 (by omega) (by omega) (by omega))) (six _ (by omega)))) (add_str _ _ (by have:=sfx_len (k / 2 % 6) (by omega); rw [two_len]; omega))) rfl)) (ret_eq (var_fz rfl))
  . have en:nameS k=letter (k / 52 % 26)++letter (k / 2 % 26):=if_neg odd
    rw [en]
    exact fn_of (o:=.rt (.str (letter (k / 52 % 26)++letter (k / 2 % 26)),.fz) [.fz (.int (k:Int)),.fz (.str LT),.fz (.str (letter (k / 52 % 26)++letter (k / 2 % 26)))]) rfl (hd _ _ (seq_nx (ρ1:=[.fz (.int (k:Int)),.fz (.str LT),.fz (.str (letter (k / 52 % 26)++letter (k / 2 % 26)))]) (if_f (tNe (em rfl) ie_c (by omega)) rfl) (ret_eq (var_fz rfl)))) rfl
theorem key_is (c:Int):∃ v:Int,m_law_key_by [.int c]=some (.int v,false):=by
  have em:∀ {ρ:Rho},IE (mOp gMod (mVar 0) (mC (.int 3))) (.fz (.int c)::ρ) (c % 3):=fun {ρ}=>ie_mod (ie_var rfl) ie_c (by decide)
  have ed:∀ {ρ:Rho},IE (mOp gDiv (mVar 0) (mC (.int 3))) (.fz (.int c)::ρ) (c / 3):=fun {ρ}=>ie_div (ie_var rfl) ie_c ⟨by decide,by decide⟩
  by_cases h0:c % 3=0
  . exact ⟨c / 3 % 5 - 2,fn_of (o:=.rt (.int (c / 3 % 5 - 2),.fz) [.fz (.int c)]) rfl (seq_rt (if_t (tEq em ie_c h0) (ret_eq (ie_sub (ie_mod ed ie_c (by decide)) ie_c)))) rfl⟩
  . by_cases h1:c % 3=1
    . exact ⟨c / 3 % 61 - 30,fn_of (o:=.rt (.int (c / 3 % 61 - 30),.fz) [.fz (.int c)]) rfl (seq_nx (ρ1:=[.fz (.int c)]) (if_f (tNe em ie_c h0) rfl) (seq_rt (if_t (tEq em ie_c h1) (ret_eq (ie_sub (ie_mod ed ie_c (by decide)) ie_c))))) rfl⟩
    . have ep:∀ {ρ:Rho},IE (mOp gPow (mC (.int 10)) (mC (.int 59))) ρ ((10:Int) ^ (59:Int).toNat):=fun {ρ}=>ie_pow ie_c ie_c ⟨by decide,by decide,by decide⟩
      have e2:IE (mOp gMul (mC (.int 2)) (mOp gPow (mC (.int 10)) (mC (.int 59)))) [.fz (.int c)] (2 * (10:Int) ^ (59:Int).toNat):=ie_mul ie_c ep (IntMulOk.of_left (by decide))
      exact ⟨_,fn_of (o:=.rt (.int (c / 3 % (2 * (10:Int) ^ (59:Int).toNat + 1) - (10:Int) ^ (59:Int).toNat),.fz) [.fz (.int c)]) rfl (seq_nx (ρ1:=[.fz (.int c)]) (if_f (tNe em ie_c h0) rfl) (seq_nx (ρ1:=[.fz (.int c)]) (if_f (tNe em ie_c h1) rfl) (ret_eq (ie_sub (ie_mod ed (ie_add e2 ie_c) (by decide)) ep)))) rfl⟩
theorem row_at {keys:List Str} {row:Str->Pile.Row} {n:Str} (h:n∈keys) {a b:PM} {ρ:Rho} (ha:sv a ρ=some ((.dict (heldL keys row),.fz),ρ)) (hb:b ρ=some ((.str n,.fz),ρ)):mOp gIxD a b ρ=some ((rowD (row n),.fz),ρ):=op_ev (r:=(.str n,.fz)) (res:=(rowD (row n),false)) ha (sv_fz hb) (held_ix keys row n h)
theorem row_key {r:Pile.Row} {a:PM} {ρ:Rho} (h:a ρ=some ((rowD r,.fz),ρ)):IE (mOp gIx a (mC (.int 0))) ρ r.key:=op_ev (r:=(.int 0,.fz)) (res:=(.int r.key,false)) (sv_fz h) (sv_fz rfl) rfl
theorem row_above {r:Pile.Row} {a:PM} {ρ:Rho} (h:a ρ=some ((rowD r,.fz),ρ)):mOp gIx a (mC (.int 1)) ρ=some ((aboveD r.above,.fz),ρ):=op_ev (r:=(.int 1,.fz)) (res:=(aboveD r.above,false)) (sv_fz h) (sv_fz rfl) rfl
theorem row_mark {r:Pile.Row} {a:PM} {ρ:Rho} (h:a ρ=some ((rowD r,.fz),ρ)):mOp gIx a (mC (.int 2)) ρ=some ((.bool r.mark,.fz),ρ):=op_ev (r:=(.int 2,.fz)) (res:=(.bool r.mark,false)) (sv_fz h) (sv_fz rfl) rfl
theorem row_below {r:Pile.Row} {a:PM} {ρ:Rho} (h:a ρ=some ((rowD r,.fz),ρ)):mOp gIx a (mC (.int 3)) ρ=some ((.tuple (r.below.map .str),.fz),ρ):=op_ev (r:=(.int 3,.fz)) (res:=(.tuple (r.below.map .str),false)) (sv_fz h) (sv_fz rfl) rfl
theorem before_is (keys:List Str) (row:Str->Pile.Row) (x y:Str) (hx:x∈keys) (hy:y∈keys):m_law_before [.dict (heldL keys row),.str x,.str y]=some (.bool (pairLt (row x).key x (row y).key y),false):=by
  generalize hH:PyData.dict (heldL keys row)=X
  have rx:mOp gIxD (mVar 0) (mVar 1) [.fz X,.fz (.str x),.fz (.str y)]=some ((rowD (row x),.fz),[.fz X,.fz (.str x),.fz (.str y)]):=row_at hx (by rw [hH]; exact sv_fz (var_fz rfl)) (var_fz rfl)
  have ry:mOp gIxD (mVar 0) (mVar 2) [.fz X,.fz (.str x),.fz (.str y)]=some ((rowD (row y),.fz),[.fz X,.fz (.str x),.fz (.str y)]):=row_at hy (by rw [hH]; exact sv_fz (var_fz rfl)) (var_fz rfl)
  have tx:=tup_ev (rs:=[(.int (row x).key,.fz),(.str x,.fz)]) (consI (row_key rx) (cons_fz (sv_fz (var_fz (i:=1) rfl)) nil_ev)) rfl (by simp)
  have ty:=tup_ev (rs:=[(.int (row y).key,.fz),(.str y,.fz)]) (consI (row_key ry) (cons_fz (sv_fz (var_fz (i:=2) rfl)) nil_ev)) rfl (by simp)
  exact fn_of (o:=.rt (.bool (pairLt (row x).key x (row y).key y),.fz) [.fz X,.fz (.str x),.fz (.str y)]) rfl (ret_eq (op_ev (r:=(.tuple [.int (row y).key,.str y],.fz)) (res:=(.bool (pairLt (row x).key x (row y).key y),false)) (sv_fz tx) (sv_fz ty) rfl)) rfl
def Is (ρ:Rho) (i:Nat) (d:D):Prop:=ρ[i]?=some (.fz d)∨ρ[i]?=some (.own d)∨ρ[i]?=some (.io d)
theorem var_io {ρ:Rho} {i:Nat} {d:D} (h : ρ[i]?=some (.io d)):mVar i ρ=some ((d,.at i),ρ):=by unfold mVar; rw [h]
theorem op_io {a b:PM} {ρ ρ1 ρ2:Rho} {x y:D} {r:RV} {res:D × Bool} {g:D->D->Option (D × Bool)} {i:Nat} (h1:sv a ρ=some ((x,.at i),ρ1)) (h2:sv b ρ1=some (r,ρ2)) (h4 : ρ2[i]?=some (.io y)) (h3:g y r.1=some res):mOp g a b ρ=some (resK res,ρ2):=by
  unfold mOp; rw [h1,Option.bind_some]; dsimp only; rw [h2,Option.bind_some]; simp only [refr,h4,Option.bind_some,h3,Option.map_some]
theorem op_is {g:D->D->Option (D × Bool)} {b:PM} {ρ:Rho} {i:Nat} {x:D} {r:RV} {res:D × Bool} (h:Is ρ i x) (h2:sv b ρ=some (r,ρ)) (h3:g x r.1=some res):mOp g (mVar i) b ρ=some (resK res,ρ):=by
  rcases h with h | h | h
  . exact op_ev (sv_fz (var_fz h)) h2 h3
  . exact op_at (sv_at (var_own h)) h2 h h3
  . exact op_io (sv_at (var_io h)) h2 h h3
theorem cons_is {m:Rho->Option (List RV × Rho)} {ρ:Rho} {i:Nat} {x:D} {rs:List RV} (h:Is ρ i x) (h2:m ρ=some (rs,ρ)):∃ k,mCons (mVar i) m ρ=some ((x,k)::rs,ρ):=by
  rcases h with h | h | h
  . exact ⟨_,cons_fz (sv_fz (var_fz h)) h2⟩
  . exact ⟨_,cons_at (sv_at (var_own h)) h2 h⟩
  . refine ⟨.at i,?_⟩
    unfold mCons
    rw [sv_at (var_io h),Option.bind_some]; dsimp only
    rw [h2,Option.bind_some]; simp only [refr,h,Option.map_some]
theorem cb_is {g:List D->Option (D × Bool)} {ρ:Rho} {i:Nat} {x:D} {res:D × Bool} (h:Is ρ i x) (h2:g [x]=some res):mCB g (mCons (mVar i) mNil) ρ=some (resK res,ρ):=by
  obtain ⟨k,e⟩:=cons_is h nil_ev
  exact cb_ev e h2
theorem len_is {ρ:Rho} {i:Nat} {l:List D} (h:Is ρ i (.list l)):IE (mCB gLen (mCons (mVar i) mNil)) ρ (l.length:Int):=cb_is (res:=(.int (l.length:Int),false)) h rfl
theorem lenR_is {ρ:Rho} {i:Nat} {keys:List Str} {row:Str->Pile.Row} (h:Is ρ i (.dict (heldL keys row))):IE (mCB gLenR (mCons (mVar i) mNil)) ρ (keys.length:Int):=cb_is (res:=(.int (keys.length:Int),false)) h (by show some (PyData.int ((heldL keys row).length:Int),false)=_; rw [held_len])
theorem row_is {ρ:Rho} {i:Nat} {keys:List Str} {row:Str->Pile.Row} {n:Str} {b:PM} (h:Is ρ i (.dict (heldL keys row))) (hn:n∈keys) (hb:b ρ=some ((.str n,.fz),ρ)):mOp gIxD (mVar i) b ρ=some ((rowD (row n),.fz),ρ):=op_is (r:=(.str n,.fz)) (res:=(rowD (row n),false)) h (sv_fz hb) (held_ix keys row n hn)
theorem asgG_ev {a:PM} {g:D->Rho->Option Rho} {ρ ρ1 ρ2:Rho} {d:D} (h:a ρ=some ((d,.fz),ρ1)) (hg:g d ρ1=some ρ2):mAsgG a g ρ=some (.nx ρ2):=by
  unfold mAsgG; rw [sv_fz h,Option.bind_some]; dsimp only [fzOne,Option.bind_some]; rw [hg]; rfl
def kput (keys:List Str) (n:Str):List Str:=if n∈keys then keys else keys++[n]
theorem kput_in {keys:List Str} {n:Str} (h:n∈keys):kput keys n=keys:=if_pos h
theorem kput_out {keys:List Str} {n:Str} (h:n ∉ keys):kput keys n=keys++[n]:=if_neg h
theorem held_put (keys:List Str) (row:Str->Pile.Row) (n:Str) (r:Pile.Row):putD (heldL keys row) (.str n) (rowD r) (.inr n)=heldL (kput keys n) (rowSet row n r):=by
  by_cases h:n∈keys
  . rw [kput_in h,held_put_old _ _ _ _ h]
  . rw [kput_out h,held_put_new _ _ _ _ h]
theorem putD_ev {i:Nat} {a b:PM} {ρ:Rho} {keys:List Str} {row:Str->Pile.Row} {n:Str} {r:Pile.Row} {s:Sl} (ha:a ρ=some ((rowD r,.fz),ρ)) (hb:b ρ=some ((.str n,.fz),ρ)) (h : ρ[i]?=some s) (hs:s=.own (.dict (heldL keys row))∨s=.io (.dict (heldL keys row))) (hl:keys.length≤1000):mPutD i a b ρ=some (.nx (ρ.set i (s.put (.dict (heldL (kput keys n) (rowSet row n r)))))):=by
  have hl':(heldL keys row).length < 100000:=by rw [held_len]; omega
  have ho:ownD (some s)=some (heldL keys row):=by rcases hs with rfl | rfl <;> rfl
  unfold mPutD
  rw [sv_fz ha,Option.bind_some]; dsimp only [fzOne,Option.bind_some]
  rw [h,ho,Option.bind_some,sv_fz hb,Option.bind_some]; dsimp only [keyOf,Option.bind_some]
  rw [h,ho,Option.bind_some,cIf_pos hl',held_put]
  unfold Mir.putAt
  rw [h]
theorem mut_ev {i:Nat} {f:List D->List D->Option (List D × D)} {m:Rho->Option (List RV × Rho)} {ρ ρ1 ρ2 ρ3:Rho} {rs:List RV} {as ds0 ds:List D} {w:List D × D} (h0:ownL ρ[i]?=some ds0) (h1:m ρ=some (rs,ρ1)) (h2:fzAll rs ρ1=some (as,ρ2)) (h3:ownL ρ2[i]?=some ds) (h4:f ds as=some w) (h5:Mir.putAt ρ2 i (.list w.1)=ρ3):mMut i f m ρ=some ((w.2,.fz),ρ3):=by
  unfold mMut
  rw [h0,Option.bind_some,h1,Option.bind_some]; dsimp only
  rw [h2,Option.bind_some]; dsimp only
  rw [h3,Option.bind_some,h4,Option.map_some,h5]
theorem app_ok {ds:List D} (d:D) (h:ds.length≤100000):fAppend ds [d]=some (ds++[d],.none):=by
  show cIf _ _ _=_; rw [cIf_pos (sz_lt h)]
theorem callJ_ev {i j:Nat} {f:List D->Option ((D × Bool) × D × D)} {m:Rho->Option (List RV × Rho)} {ρ ρ1 ρ2 ρ3:Rho} {rs:List RV} {ds:List D} {s t s0 t0:Sl} {d d1 d2 dS dT:D} {o:Bool} {r:RV} (hij:i≠j) (a:ownAt ρ i=some s0) (b:ownAt ρ j=some t0) (h1:m ρ=some (rs,ρ1)) (h2:fzAll rs ρ1=some (ds,ρ2)) (h3:ownAt ρ2 i=some s) (h4:ownAt ρ2 j=some t) (h5:f (dS::dT::ds)=some ((d,o),d1,d2)) (h6:(ρ2.set i (s.put d1)).set j (t.put d2)=ρ3) (e1:slD s=dS:=by rfl) (e2:slD t=dT:=by rfl) (h7:kO d o=r:=by rfl):mCallJ i j f m ρ=some (r,ρ3):=by
  subst e1 e2 h7
  unfold mCallJ
  rw [if_neg hij,a,Option.bind_some,b,Option.bind_some,h1,Option.bind_some]; dsimp only
  rw [h2,Option.bind_some]; dsimp only
  rw [h3,Option.bind_some,h4,Option.bind_some,h5,Option.map_some,h6]
theorem fnJ_of {n k:Nat} {b:SM} {d0 e0:D} {ds:List D} {o:Out} {r:D × Bool} {d:D × D} (h0:ds.length + 2=n) (h1:b (.io d0::.io e0::ds.map .fz++List.replicate k .no)=some o) (h2:retD o=some r) (h3:io2 (outRho o)=some d):fnJ n k b (d0::e0::ds)=some (r,d):=by
  show (if ds.length + 2=n then _ else _)=_
  rw [if_pos h0,h1,Option.bind_some,h2,Option.bind_some,h3,Option.map_some]
abbrev TD (tops:List Str):D:=.list (tops.map .str)
abbrev HD (keys:List Str) (row:Str->Pile.Row):D:=.dict (heldL keys row)
theorem pos_is {z:Str}:∀ {zs:List Str},z∈zs->∃ j,posS zs z=some j∧zs.eraseIdx j=zs.erase z
  | [],h=>by cases h
  | a::zs,h=>by
    unfold posS
    by_cases e:a=z
    . subst e
      exact ⟨0,if_pos rfl,by simp⟩
    . obtain ⟨j,h1,h2⟩:=pos_is (zs:=zs) ((List.mem_cons.mp h).resolve_left fun q=>e q.symm)
      refine ⟨j + 1,?_,?_⟩
      . rw [if_neg e,h1]; rfl
      . rw [List.eraseIdx_cons_succ,h2,List.erase_cons_tail (by simpa using e)]
theorem rem_ok {z:Str} {zs:List Str} (h:z∈zs):fRemove (zs.map .str) [.str z]=some ((zs.erase z).map .str,.none):=by
  obtain ⟨j,h1,h2⟩:=pos_is h
  show (strsD (zs.map .str)).bind _=_
  rw [strsD_map,Option.bind_some,h1,Option.map_some,← h2,map_er]
def hungRow (row:Str->Pile.Row) (name on:Str):Str->Pile.Row :=
  rowSet (rowSet row name ⟨(row name).key,some on,false,(row name).below⟩) on ⟨((rowSet row name ⟨(row name).key,some on,false,(row name).below⟩) on).key,((rowSet row name ⟨(row name).key,some on,false,(row name).below⟩) on).above,((rowSet row name ⟨(row name).key,some on,false,(row name).below⟩) on).mark,((rowSet row name ⟨(row name).key,some on,false,(row name).below⟩) on).below++[name]⟩
theorem hung_is {tops keys:List Str} {row:Str->Pile.Row} {name on:Str} (hn:name∈keys) (ho:on∈keys) (ht:name∈tops) (hk:keys.length≤1000) (hb:∀ n∈keys,(row n).below.length≤1000):m_law_hung [TD tops,HD keys row,.str name,.str on]=some ((.none,false),TD (tops.erase name),HD keys (hungRow row name on)):=by
  have e1:rowD (row name)=.tuple [.int (row name).key,aboveD (row name).above,.bool (row name).mark,.tuple ((row name).below.map .str)]:=rfl
  let row1:=rowSet row name ⟨(row name).key,some on,false,(row name).below⟩
  have hb1:(row1 on).below.length≤1000:=by
    show (rowSet row name ⟨(row name).key,some on,false,(row name).below⟩ on).below.length≤1000
    unfold rowSet
    split
    . exact hb name hn
    . exact hb on ho
  refine fnJ_of (o:=.nx [.io (TD (tops.erase name)),.io (HD keys (hungRow row name on)),.fz (.str name),.fz (.str on),.fz (.int (row1 on).key),.fz (aboveD (row1 on).above),.fz (.bool (row1 on).mark),.fz (.tuple ((row1 on).below.map .str))]) rfl ?_ rfl rfl
  refine seq_nx (ρ1:=[.io (TD tops),.io (HD keys row),.fz (.str name),.fz (.str on),.fz (.int (row name).key),.fz (aboveD (row name).above),.fz (.bool (row name).mark),.fz (.tuple ((row name).below.map .str))]) (asgG_ev (row_is (.inr (.inr rfl)) hn (var_fz rfl)) rfl) ?_
  refine seq_nx (ρ1:=[.io (TD tops),.io (HD keys row1),.fz (.str name),.fz (.str on),.fz (.int (row name).key),.fz (aboveD (row name).above),.fz (.bool (row name).mark),.fz (.tuple ((row name).below.map .str))]) ((putD_ev (i:=1) (r:=⟨(row name).key,some on,false,(row name).below⟩) (tup_ev (rs:=[(.int (row name).key,.fz),(.str on,.fz),(.bool false,.fz),(.tuple ((row name).below.map .str),.fz)]) rfl rfl (by simp)) (var_fz rfl) rfl (.inr rfl) hk).trans (by rw [kput_in hn]; rfl)) ?_
  refine seq_nx (ρ1:=[.io (TD tops),.io (HD keys row1),.fz (.str name),.fz (.str on),.fz (.int (row1 on).key),.fz (aboveD (row1 on).above),.fz (.bool (row1 on).mark),.fz (.tuple ((row1 on).below.map .str))]) (asgG_ev (row_is (.inr (.inr rfl)) ho (var_fz rfl)) rfl) ?_
  refine seq_nx (ρ1:=[.io (TD tops),.io (HD keys (hungRow row name on)),.fz (.str name),.fz (.str on),.fz (.int (row1 on).key),.fz (aboveD (row1 on).above),.fz (.bool (row1 on).mark),.fz (.tuple ((row1 on).below.map .str))]) ?_ ?_
  . have ea:∃ k,sv (mOp gAddT (mVar 7) (mTup (mCons (mVar 2) mNil))) [.io (TD tops),.io (HD keys row1),.fz (.str name),.fz (.str on),.fz (.int (row1 on).key),.fz (aboveD (row1 on).above),.fz (.bool (row1 on).mark),.fz (.tuple ((row1 on).below.map .str))]=some ((.tuple (((row1 on).below++[name]).map .str),.fz),k)∧k=[.io (TD tops),.io (HD keys row1),.fz (.str name),.fz (.str on),.fz (.int (row1 on).key),.fz (aboveD (row1 on).above),.fz (.bool (row1 on).mark),.fz (.tuple ((row1 on).below.map .str))]:=by
      obtain ⟨o,ho⟩:=gAddT_tup ((row1 on).below.map .str) [.str name] (by simp; omega) (by simp)
      refine ⟨_,?_,rfl⟩
      have h:=op_ev (a:=mVar 7) (b:=mTup (mCons (mVar 2) mNil)) (r:=(.tuple [.str name],.fz)) (res:=(.tuple (((row1 on).below++[name]).map .str),o)) (ρ:=[.io (TD tops),.io (HD keys row1),.fz (.str name),.fz (.str on),.fz (.int (row1 on).key),.fz (aboveD (row1 on).above),.fz (.bool (row1 on).mark),.fz (.tuple ((row1 on).below.map .str))]) (g:=gAddT) (sv_fz (var_fz rfl)) (sv_fz (tup_ev (rs:=[(.str name,.fz)]) rfl rfl (by simp))) (by rw [ho,List.map_append]; rfl)
      cases o
      . exact sv_fz h
      . exact sv_fz h
    obtain ⟨_,ea,rfl⟩:=ea
    exact (putD_ev (i:=1) (r:=⟨(row1 on).key,(row1 on).above,(row1 on).mark,(row1 on).below++[name]⟩) (tup_ev (rs:=[(.int (row1 on).key,.fz),(aboveD (row1 on).above,.fz),(.bool (row1 on).mark,.fz),(.tuple (((row1 on).below++[name]).map .str),.fz)]) (cons_fz (sv_fz (var_fz rfl)) (cons_fz (sv_fz (var_fz rfl)) (cons_fz (sv_fz (var_fz rfl)) (cons_fz ea nil_ev)))) rfl (by simp)) (var_fz rfl) rfl (.inr rfl) hk).trans (by rw [kput_in ho]; rfl)
  . exact drop_ev (mut_ev (rs:=[(.str name,.fz)]) rfl rfl rfl rfl (rem_ok ht) rfl)
theorem strOk_shaped {x:Str} (h:PyData.strOk x=true):SeqAt.shaped (.str x)=true:=by
  unfold SeqAt.shaped
  rw [decide_eq_true (by simp [PyData.depth]),Bool.and_true]
  simp only [PyData.canLay0,h]
theorem gNe_str {x y:Str} (hx:PyData.strOk x=true) (hy:PyData.strOk y=true):gNe (.str x) (.str y)=some (.bool (!decide (x=y)),false):=by
  unfold gNe
  rw [if_pos ⟨strOk_shaped hx,strOk_shaped hy⟩]
  simp only [PyData.eqv]
  by_cases e:x=y
  . subst e; simp
  . simp [e]
theorem gNe_above {a:Option Str} {y:Str} (ha:∀ z,a=some z->PyData.strOk z=true) (hy:PyData.strOk y=true):gNe (aboveD a) (.str y)=some (.bool (!decide (a=some y)),false):=by
  cases a with
  | none =>
    show gNe .none (.str y)=_
    unfold gNe
    rw [if_pos ⟨rfl,strOk_shaped hy⟩]
    simp [PyData.eqv]
  | some z =>
    show gNe (.str z) (.str y)=_
    rw [gNe_str (ha z rfl) hy]
    simp
theorem compL_filter {c:Rho->Option (Bool × Rho)} {e:PM} {ρn:Rho} {p:Str->Bool}:∀ l:List Str,(∀ x∈l,∃ ρ,c (.fz (.str x)::ρn)=some (p x,ρ))->(∀ x∈l,∃ ρ,sv e (.fz (.str x)::ρn)=some ((.str x,.fz),ρ))->compL c e ρn (l.map .str)=some ((l.filter p).map .str)
  | [],_,_=>rfl
  | x::l,h,h2=>by
    have ih:=compL_filter l (fun y hy=>h y (List.mem_cons_of_mem _ hy)) fun y hy=>h2 y (List.mem_cons_of_mem _ hy)
    obtain ⟨ρ,e1⟩:=h x List.mem_cons_self
    obtain ⟨ρ2,e2⟩:=h2 x List.mem_cons_self
    show (c (.fz (.str x)::ρn)).bind _=_
    rw [e1,Option.bind_some]; dsimp only
    cases hp:p x with
    | false=>rw [if_neg (by simp),ih,List.filter_cons_of_neg (by simp [hp])]
    | true=>rw [if_pos rfl,e2,Option.bind_some]; dsimp only [asF,Option.bind_some]; rw [ih,List.filter_cons_of_pos (by simp [hp])]; rfl
theorem strOk_append {x y:Str} (hx:PyData.strOk x=true) (hy:PyData.strOk y=true):PyData.strOk (x++y)=true:=by
  unfold PyData.strOk at *
  show (x.cps++y.cps).all _=true
  rw [Array.all_append,hx,hy]; rfl
theorem letter_ok:∀ j:Nat,j < 26->PyData.strOk (letter j)=true:=by decide +kernel
theorem sfx_ok:∀ j:Nat,j < 6->PyData.strOk (sfx j)=true:=by decide +kernel
theorem nameS_ok (k:Nat):PyData.strOk (nameS k)=true:=by
  unfold nameS
  have h1:=letter_ok (k / 52 % 26) (by omega)
  have h2:=letter_ok (k / 2 % 26) (by omega)
  split
  . exact strOk_append (strOk_append h1 h2) (sfx_ok _ (by omega))
  . exact strOk_append h1 h2
structure Bt (c:Nat) (tops keys:List Str) (row:Str->Pile.Row):Prop where
  nd:keys.Nodup
  nm:∀ n∈keys,∃ i,i < c∧n=nameS i
  tn:tops.Nodup
  tk:∀ t∈tops,t∈keys∧(row t).above=none
  ne:keys≠[]->tops≠[]
  mkd:∀ n∈keys,(row n).mark=true->(row n).above≠none
  ab:∀ n∈keys,∀ a,(row n).above=some a->a∈keys
  bl:∀ n∈keys,(row n).below.length≤c∧∀ b∈(row n).below,b∈keys
theorem Bt.kl {c:Nat} {tops keys:List Str} {row:Str->Pile.Row} (h:Bt c tops keys row):keys.length≤c:=by
  have:=Pile.nodup_le keys ((List.range c).map nameS) h.nd fun x hx=>by
    obtain ⟨i,hi,rfl⟩:=h.nm x hx
    exact List.mem_map_of_mem (List.mem_range.mpr hi)
  simpa using this
theorem Bt.tl {c:Nat} {tops keys:List Str} {row:Str->Pile.Row} (h:Bt c tops keys row):tops.length≤c:=Nat.le_trans (Pile.nodup_le tops keys h.tn fun x hx=>(h.tk x hx).1) h.kl
theorem Bt.ok {c:Nat} {tops keys:List Str} {row:Str->Pile.Row} (h:Bt c tops keys row) {n:Str} (hn:n∈keys):PyData.strOk n=true:=by
  obtain ⟨i,_,rfl⟩:=h.nm n hn
  exact nameS_ok i
theorem rowSet_at (row:Str->Pile.Row) (n:Str) (r:Pile.Row):rowSet row n r n=r:=if_pos rfl
theorem rowSet_ne (row:Str->Pile.Row) {n m:Str} (r:Pile.Row) (h:m≠n):rowSet row n r m=row m:=if_neg h
def cut1 (row:Str->Pile.Row) (name:Str):Str->Pile.Row:=rowSet row name ⟨(row name).key,none,false,(row name).below⟩
def cut2 (row:Str->Pile.Row) (name a:Str):Str->Pile.Row:=rowSet (cut1 row name) a ⟨(cut1 row name a).key,(cut1 row name a).above,(cut1 row name a).above.isSome,(cut1 row name a).below.filter fun x=>!decide (x=name)⟩
def hang (keys:List Str) (row:Str->Pile.Row):Nat:=keys.countP fun n=>(row n).above.isSome
theorem cut1_above (row:Str->Pile.Row) (name n:Str):(cut1 row name n).above=if n=name then none else (row n).above:=by
  unfold cut1 rowSet
  split <;> rfl
theorem cut2_above (row:Str->Pile.Row) (name a n:Str):(cut2 row name a n).above=if n=name then none else (row n).above:=by
  rw [← cut1_above]
  unfold cut2
  by_cases e:n=a
  . subst e; rw [rowSet_at]
  . rw [rowSet_ne _ _ e]
theorem cut2_below {row:Str->Pile.Row} {name a n:Str}:(cut2 row name a n).below.length≤(row n).below.length∧∀ b∈(cut2 row name a n).below,b∈(row n).below:=by
  have h1:(cut1 row name n).below=(row n).below:=by
    unfold cut1 rowSet
    split
    . rename_i e; rw [e]
    . rfl
  unfold cut2
  by_cases e:n=a
  . subst e
    rw [rowSet_at]
    show (List.filter _ (cut1 row name n).below).length≤_∧∀ b∈List.filter _ (cut1 row name n).below,_
    rw [h1]
    exact ⟨List.length_filter_le _ _,fun b hb=>(List.mem_filter.mp hb).1⟩
  . rw [rowSet_ne _ _ e,h1]
    exact ⟨Nat.le_refl _,fun b hb=>hb⟩
theorem cut2_mark {row:Str->Pile.Row} {name a n:Str}:(cut2 row name a n).mark=true->(cut2 row name a n).above.isSome=true∨(n≠name∧(row n).mark=true):=by
  intro h
  by_cases e:n=a
  . subst e
    left
    unfold cut2 at h ⊢
    rw [rowSet_at] at h ⊢
    exact h
  . unfold cut2 at h ⊢
    rw [rowSet_ne _ _ e] at h ⊢
    unfold cut1 at h ⊢
    by_cases e2:n=name
    . subst e2; rw [rowSet_at] at h; cases h
    . rw [rowSet_ne _ _ e2] at h
      exact Or.inr ⟨e2,h⟩
theorem Bt.cut {c:Nat} {tops keys:List Str} {row:Str->Pile.Row} (h:Bt c tops keys row) {name a:Str} (hn:name∈keys) (ha:(row name).above=some a):Bt c (tops++[name]) keys (cut2 row name a):=by
  have hnt:name ∉ tops:=fun z=>by rw [(h.tk name z).2] at ha; cases ha
  refine ⟨h.nd,h.nm,?_,fun t ht=>?_,fun _=>by simp,fun n hk hm=>?_,fun n hk b hb=>?_,fun n hk=>?_⟩
  . rw [List.nodup_append]
    refine ⟨h.tn,by simp,fun x hx y hy=>?_⟩
    rw [List.mem_singleton.mp hy]
    exact fun e=>hnt (by rw [← e]; exact hx)
  . rw [cut2_above]
    rcases List.mem_append.mp ht with ht | ht
    . refine ⟨(h.tk t ht).1,?_⟩
      split
      . rfl
      . exact (h.tk t ht).2
    . rw [List.mem_singleton.mp ht]
      exact ⟨hn,if_pos rfl⟩
  . rcases cut2_mark hm with e | ⟨e1,e2⟩
    . exact fun z=>by rw [z] at e; cases e
    . rw [cut2_above,if_neg e1]
      exact h.mkd n hk e2
  . rw [cut2_above] at hb
    split at hb
    . cases hb
    . exact h.ab n hk b hb
  . exact ⟨Nat.le_trans cut2_below.1 (h.bl n hk).1,fun b hb=>(h.bl n hk).2 b (cut2_below.2 b hb)⟩
theorem hang_cut {keys:List Str} {row:Str->Pile.Row} {name a:Str} (hn:name∈keys) (ha:(row name).above=some a):hang keys (cut2 row name a) < hang keys row:=by
  unfold hang
  have key:∀ l:List Str,(l.countP fun n=>(cut2 row name a n).above.isSome)≤(l.countP fun n=>(row n).above.isSome)∧(name∈l->(l.countP fun n=>(cut2 row name a n).above.isSome) < (l.countP fun n=>(row n).above.isSome)):=by
    intro l
    induction l with
    | nil=>exact ⟨Nat.le_refl _,fun h=>by cases h⟩
    | cons x l ih =>
      rw [List.countP_cons,List.countP_cons,cut2_above]
      by_cases e:x=name
      . subst e
        rw [if_pos rfl,ha]
        exact ⟨by simp; omega,fun _=>by simp; omega⟩
      . rw [if_neg e]
        exact ⟨by omega,fun h=>by have:=ih.2 ((List.mem_cons.mp h).resolve_left fun q=>e q.symm); omega⟩
  exact (key keys).2 hn
theorem isnot_above (f:Option Str):gIsNot (aboveD f) .none=some (.bool f.isSome,false):=by cases f <;> rfl
theorem is_above (f:Option Str):gIs (aboveD f) .none=some (.bool f.isNone,false):=by cases f <;> rfl
theorem map_snoc (l:List Str) (x:Str):l.map PyData.str++[.str x]=(l++[x]).map .str:=by rw [List.map_append]; rfl
theorem itt_ev {a:PM} {ρ ρ1:Rho} {l:List D} {k:Kd} (h1:sv a ρ=some ((.tuple l,k),ρ1)):mItT a ρ=some (l,ρ1):=by
  unfold mItT; rw [h1]; rfl
theorem cut_body {c:Nat} (hc:c≤200) {tops keys:List Str} {row:Str->Pile.Row} {name a:Str} (h:Bt c tops keys row) (hn:name∈keys) (ha:(row name).above=some a) {sts:List D} (hs:sts.length≤1000) {s5 s6 s7 s8 s9 s10:Sl} (n5:NIo s5) (n6:NIo s6) (n7:NIo s7) (n8:NIo s8) (n9:NIo s9) (n10:NIo s10) :
    wb1_law_cut [.io (TD tops),.io (HD keys row),.fz (.str name),.own (.list sts),.fz (.bool true),s5,s6,s7,s8,s9,s10]=some (.nx [.io (TD (tops++[name])),.io (HD keys (cut2 row name a)),.fz (.str a),.own (.list (sts++[.tuple [.str "cut",.str name]])),.fz (.bool (cut1 row name a).mark),.fz (.int (cut1 row name a).key),.fz (.str a),.fz (.bool (row name).mark),.fz (.tuple (((cut1 row name a).below.filter fun x=>!decide (x=name)).map .str)),.fz (aboveD (cut1 row name a).above),.fz (.bool (cut1 row name a).mark)]):=by
  have hka:=h.ab name hn a ha
  have kl:=h.kl
  have tl:=h.tl
  have okn:=h.ok hn
  refine seq_nx (ρ1:=[.io (TD tops),.io (HD keys row),.fz (.str name),.own (.list sts),.fz (.bool true),.fz (.int (row name).key),.fz (.str a),.fz (.bool (row name).mark),.fz (.tuple ((row name).below.map .str)),s9,s10]) (asgG_ev (row_is (.inr (.inr rfl)) hn (var_fz rfl)) ?_) ?_
  . show (mgN 5 (.int (row name).key) _).bind (fun ρ1=>(mgN 6 (aboveD (row name).above) ρ1).bind fun ρ2=>(mgN 7 (.bool (row name).mark) ρ2).bind fun ρ3=>(mgN 8 (.tuple ((row name).below.map .str)) ρ3).bind fun ρ4=>some ρ4)=_
    rw [mgN_nio (s:=s5) rfl n5,Option.bind_some,mgN_nio (s:=s6) rfl n6,Option.bind_some,mgN_nio (s:=s7) rfl n7,Option.bind_some,mgN_nio (s:=s8) rfl n8,Option.bind_some,ha]
    rfl
  refine seq_nx (ρ1:=[.io (TD tops),.io (HD keys (cut1 row name)),.fz (.str name),.own (.list sts),.fz (.bool true),.fz (.int (row name).key),.fz (.str a),.fz (.bool (row name).mark),.fz (.tuple ((row name).below.map .str)),s9,s10]) ((putD_ev (i:=1) (r:=⟨(row name).key,none,false,(row name).below⟩) (tup_ev (rs:=[(.int (row name).key,.fz),(.none,.fz),(.bool false,.fz),(.tuple ((row name).below.map .str),.fz)]) rfl rfl (by simp)) (var_fz rfl) rfl (.inr rfl) (by omega)).trans (by rw [kput_in hn]; rfl)) ?_
  refine seq_nx (ρ1:=[.io (TD (tops++[name])),.io (HD keys (cut1 row name)),.fz (.str name),.own (.list sts),.fz (.bool true),.fz (.int (row name).key),.fz (.str a),.fz (.bool (row name).mark),.fz (.tuple ((row name).below.map .str)),s9,s10]) (drop_ev (mut_ev (rs:=[(.str name,.fz)]) rfl rfl rfl rfl (app_ok _ (by rw [List.length_map]; omega)) (by rw [map_snoc]; rfl))) ?_
  refine seq_nx (ρ1:=[.io (TD (tops++[name])),.io (HD keys (cut1 row name)),.fz (.str name),.own (.list (sts++[.tuple [.str "cut",.str name]])),.fz (.bool true),.fz (.int (row name).key),.fz (.str a),.fz (.bool (row name).mark),.fz (.tuple ((row name).below.map .str)),s9,s10]) (drop_ev (mut_ev (rs:=[(.tuple [.str "cut",.str name],.fz)]) rfl (cons_fz (sv_fz (tup_ev (rs:=[(.str "cut",.fz),(.str name,.fz)]) rfl rfl (by simp))) nil_ev) rfl rfl (app_ok _ (by omega)) rfl)) ?_
  refine seq_nx (ρ1:=[.io (TD (tops++[name])),.io (HD keys (cut1 row name)),.fz (.str name),.own (.list (sts++[.tuple [.str "cut",.str name]])),.fz (.bool true),.fz (.int (cut1 row name a).key),.fz (.str a),.fz (.bool (row name).mark),.fz (.tuple ((cut1 row name a).below.map .str)),.fz (aboveD (cut1 row name a).above),.fz (.bool (cut1 row name a).mark)]) (asgG_ev (row_is (.inr (.inr rfl)) hka (var_fz rfl)) ?_) ?_
  . show (some ([.io (TD (tops++[name])),.io (HD keys (cut1 row name)),.fz (.str name),.own (.list (sts++[.tuple [.str "cut",.str name]])),.fz (.bool true),.fz (.int (cut1 row name a).key),.fz (.str a),.fz (.bool (row name).mark),.fz (.tuple ((row name).below.map .str)),s9,s10]:Rho)).bind (fun ρ1=>(mgN 9 (aboveD (cut1 row name a).above) ρ1).bind fun ρ2=>(mgN 10 (.bool (cut1 row name a).mark) ρ2).bind fun ρ3=>(mgN 8 (.tuple ((cut1 row name a).below.map .str)) ρ3).bind fun ρ4=>some ρ4)=_
    rw [Option.bind_some,mgN_nio (s:=s9) rfl n9,Option.bind_some,mgN_nio (s:=s10) rfl n10,Option.bind_some]
    rfl
  have bk:∀ b∈(cut1 row name a).below,b∈keys:=fun b hb=>by
    have e:(cut1 row name a).below=(row a).below:=by
      unfold cut1 rowSet
      split
      . rename_i e; rw [e]
      . rfl
    rw [e] at hb
    exact (h.bl a hka).2 b hb
  have bl:(cut1 row name a).below.length≤1000:=by
    have e:(cut1 row name a).below=(row a).below:=by
      unfold cut1 rowSet
      split
      . rename_i e; rw [e]
      . rfl
    rw [e]
    have:=(h.bl a hka).1
    omega
  refine seq_nx (ρ1:=[.io (TD (tops++[name])),.io (HD keys (cut1 row name)),.fz (.str name),.own (.list (sts++[.tuple [.str "cut",.str name]])),.fz (.bool true),.fz (.int (cut1 row name a).key),.fz (.str a),.fz (.bool (row name).mark),.fz (.tuple (((cut1 row name a).below.filter fun x=>!decide (x=name)).map .str)),.fz (aboveD (cut1 row name a).above),.fz (.bool (cut1 row name a).mark)]) (asg_fz (cb_ev (rs:=[(.list (((cut1 row name a).below.filter fun x=>!decide (x=name)).map .str),.fz)]) (res:=(.tuple (((cut1 row name a).below.filter fun x=>!decide (x=name)).map .str),true)) (cons_fz (sv_new (lc_ev (itt_ev (sv_fz (var_fz rfl))) (compL_filter (p:=fun x=>!decide (x=name)) _ (fun x hx=>⟨_,test_ev (k:=.fz) (op_ev (r:=(.str name,.fz)) (res:=(.bool (!decide (x=name)),false)) (sv_fz (var_fz rfl)) (sv_fz (var_fz rfl)) (gNe_str (h.ok (bk x hx)) okn))⟩) fun x hx=>⟨_,sv_fz (var_fz rfl)⟩) (by rw [List.length_map]; exact Nat.le_trans (List.length_filter_le _ _) (by omega)))) nil_ev) rfl) rfl) ?_
  refine seq_nx (ρ1:=[.io (TD (tops++[name])),.io (HD keys (cut2 row name a)),.fz (.str name),.own (.list (sts++[.tuple [.str "cut",.str name]])),.fz (.bool true),.fz (.int (cut1 row name a).key),.fz (.str a),.fz (.bool (row name).mark),.fz (.tuple (((cut1 row name a).below.filter fun x=>!decide (x=name)).map .str)),.fz (aboveD (cut1 row name a).above),.fz (.bool (cut1 row name a).mark)]) ((putD_ev (i:=1) (r:=⟨(cut1 row name a).key,(cut1 row name a).above,(cut1 row name a).above.isSome,(cut1 row name a).below.filter fun x=>!decide (x=name)⟩) (tup_ev (rs:=[(.int (cut1 row name a).key,.fz),(aboveD (cut1 row name a).above,.fz),(.bool (cut1 row name a).above.isSome,.fz),(.tuple (((cut1 row name a).below.filter fun x=>!decide (x=name)).map .str),.fz)]) (cons_fz (sv_fz (var_fz rfl)) (cons_fz (sv_fz (var_fz rfl)) (cons_fz (sv_fz (op_ev (r:=(.none,.fz)) (res:=(.bool (cut1 row name a).above.isSome,false)) (sv_fz (var_fz rfl)) (sv_fz rfl) (isnot_above _))) (cons_fz (sv_fz (var_fz rfl)) nil_ev)))) rfl (by simp)) (var_fz rfl) rfl (.inr rfl) (by omega)).trans (by rw [kput_in hka]; rfl)) ?_
  exact seq_nx (ρ1:=[.io (TD (tops++[name])),.io (HD keys (cut2 row name a)),.fz (.str name),.own (.list (sts++[.tuple [.str "cut",.str name]])),.fz (.bool (cut1 row name a).mark),.fz (.int (cut1 row name a).key),.fz (.str a),.fz (.bool (row name).mark),.fz (.tuple (((cut1 row name a).below.filter fun x=>!decide (x=name)).map .str)),.fz (aboveD (cut1 row name a).above),.fz (.bool (cut1 row name a).mark)]) (asg_fz (var_fz rfl) rfl) (asg_fz (var_fz rfl) rfl)
theorem cut_loop {c:Nat} (hc:c≤200) {keys:List Str}:∀ (m:Nat) (tops:List Str) (row:Str->Pile.Row) (name:Str) (going:Bool) (sts:List D) (s5 s6 s7 s8 s9 s10:Sl) (fuel:Nat),NIo s5->NIo s6->NIo s7->NIo s8->NIo s9->NIo s10->hang keys row≤m->Bt c tops keys row->name∈keys->(going=true->(row name).above≠none)->sts.length + m≤1000->m < fuel ->
    ∃ tops' row' n' sts' tl,mWhile wc1_law_cut wb1_law_cut fuel [.io (TD tops),.io (HD keys row),.fz (.str name),.own (.list sts),.fz (.bool going),s5,s6,s7,s8,s9,s10]=some (.nx (.io (TD tops')::.io (HD keys row')::.fz n'::.own (.list sts')::tl))∧Bt c tops' keys row':=by
  intro m
  induction m with
  | zero =>
    intro tops row name going sts s5 s6 s7 s8 s9 s10 fuel n5 n6 n7 n8 n9 n10 hm h hn hg hs hf
    obtain ⟨fuel,rfl⟩:∃ k,fuel=k + 1:=⟨fuel - 1,by omega⟩
    cases going with
    | false=>exact ⟨tops,row,_,sts,_,while_end (test_ev (k:=.fz) (var_fz rfl)),h⟩
    | true =>
      cases e:(row name).above with
      | none=>exact absurd e (hg rfl)
      | some a=>have:=hang_cut hn e; omega
  | succ m ih =>
    intro tops row name going sts s5 s6 s7 s8 s9 s10 fuel n5 n6 n7 n8 n9 n10 hm h hn hg hs hf
    obtain ⟨fuel,rfl⟩:∃ k,fuel=k + 1:=⟨fuel - 1,by omega⟩
    cases going with
    | false=>exact ⟨tops,row,_,sts,_,while_end (test_ev (k:=.fz) (var_fz rfl)),h⟩
    | true =>
      cases e:(row name).above with
      | none=>exact absurd e (hg rfl)
      | some a =>
        have hka:=h.ab name hn a e
        obtain ⟨tops',row',n',sts',tl,h1,h2⟩:=ih (tops++[name]) (cut2 row name a) a (cut1 row name a).mark (sts++[.tuple [.str "cut",.str name]]) (.fz (.int (cut1 row name a).key)) (.fz (.str a)) (.fz (.bool (row name).mark)) (.fz (.tuple (((cut1 row name a).below.filter fun x=>!decide (x=name)).map .str))) (.fz (aboveD (cut1 row name a).above)) (.fz (.bool (cut1 row name a).mark)) fuel (NIo.fz _) (NIo.fz _) (NIo.fz _) (NIo.fz _) (NIo.fz _) (NIo.fz _) (by have:=hang_cut hn e; omega) (h.cut hn e) hka (fun z=>by
          rw [cut2_above]
          unfold cut1 at z
          by_cases e2:a=name
          . rw [e2,rowSet_at] at z; cases z
          . rw [rowSet_ne _ _ e2] at z
            rw [if_neg e2]
            exact h.mkd a hka z) (by rw [List.length_append,List.length_singleton]; omega) (by omega)
        exact ⟨tops',row',n',sts',tl,while_go (test_ev (k:=.fz) (var_fz rfl)) (cut_body hc h hn e (by omega) n5 n6 n7 n8 n9 n10) h1,h2⟩
theorem cut_is {c:Nat} (hc:c≤200) {tops keys:List Str} {row:Str->Pile.Row} (h:Bt c tops keys row) {name:Str} (hn:name∈keys):∃ tops' row' sts,m_law_cut [TD tops,HD keys row,.str name]=some ((.list sts,true),TD tops',HD keys row')∧Bt c tops' keys row':=by
  have hh:hang keys row≤200:=Nat.le_trans (List.countP_le_length) (Nat.le_trans h.kl hc)
  obtain ⟨tops',row',n',sts',tl,h1,h2⟩:=cut_loop hc 200 tops row name (row name).above.isSome [] .no .no .no .no .no .no 1000000 NIo.no NIo.no NIo.no NIo.no NIo.no NIo.no hh h hn (fun z e=>by rw [e] at z; cases z) (by simp) (by omega)
  refine ⟨tops',row',sts',?_,h2⟩
  refine fnJ_of (o:=.rt (.list sts',.at 3) (.io (TD tops')::.io (HD keys row')::.fz n'::.own (.list sts')::tl)) rfl ?_ rfl rfl
  refine seq_nx (ρ1:=[.io (TD tops),.io (HD keys row),.fz (.str name),.own (.list []),.no,.no,.no,.no,.no,.no,.no]) (asg_new (lst_ev (rs:=[]) rfl rfl (by simp)) rfl) ?_
  refine seq_nx (ρ1:=[.io (TD tops),.io (HD keys row),.fz (.str name),.own (.list []),.fz (.bool (row name).above.isSome),.no,.no,.no,.no,.no,.no]) (asg_fz (op_ev (r:=(.none,.fz)) (res:=(.bool (row name).above.isSome,false)) (sv_fz (row_above (row_is (.inr (.inr rfl)) hn (var_fz rfl)))) (sv_fz rfl) (isnot_above _)) rfl) ?_
  exact seq_nx h1 (ret_eq (var_own rfl))
theorem mod_nat (c:Int) (n:Nat) (h : 0 < n):∃ a:Nat,c % (n:Int)=(a:Int)∧a < n:=by
  have h1:=Int.emod_nonneg c (show (n:Int)≠0 by omega)
  have h2:=Int.emod_lt_of_pos c (show (0:Int) < (n:Int) by omega)
  exact ⟨(c % (n:Int)).toNat,by omega,by omega⟩
theorem mod_ne (c:Int) {n k j:Nat} (hk:k < n) (hj:j < k):(c + (k:Int)) % (n:Int)≠(c + (j:Int)) % (n:Int):=fun e=>by
  have h:=Int.emod_eq_emod_iff_emod_sub_eq_zero.mp e
  rw [show c + (k:Int) - (c + (j:Int))=(k:Int) - (j:Int) by omega,Int.emod_eq_of_lt (by omega) (by omega)] at h
  omega
theorem rg1_is {a:PM} {ρ:Rho} {n:Nat} (h:IE a ρ (n:Int)) (hn:n≤100000):mRg1 (mCons a mNil) ρ=some ((List.range n).map (fun k:Nat=>PyData.int (k:Int)),ρ):=by
  rw [rg1_eq (j:=(n:Int)) (k:=.fz) (consI h nil_ev) ⟨by omega,by omega⟩,Int.toNat_natCast,rngD_map]
theorem forL_or {g:D->Rho->Option Rho} {b:SM} {α:Type} {f : α->D} (I:Rho->Prop) (R:RV->Prop):∀ (l:List α) (ρ:Rho),I ρ->(∀ x∈l,∀ ρ,I ρ->∃ ρ1 o,g (f x) ρ=some ρ1∧b ρ1=some o∧((∃ ρ2,o=.nx ρ2∧I ρ2)∨∃ r ρ2,o=.rt r ρ2∧R r))->∃ o,forL g b (l.map f) ρ=some o∧((∃ ρ2,o=.nx ρ2∧I ρ2)∨∃ r ρ2,o=.rt r ρ2∧R r)
  | [],ρ,h,_=>⟨_,rfl,.inl ⟨ρ,rfl,h⟩⟩
  | x::l,ρ,h,hb=>by
    obtain ⟨ρ1,o,h1,h2,h3⟩:=hb x List.mem_cons_self ρ h
    rcases h3 with ⟨ρ2,rfl,i2⟩ | ⟨r,ρ2,rfl,i2⟩
    . obtain ⟨o,e1,e2⟩:=forL_or I R l ρ2 i2 fun y hy=>hb y (List.mem_cons_of_mem _ hy)
      exact ⟨o,forL_cons h1 h2 e1,e2⟩
    . exact ⟨_,forL_rt h1 h2,.inr ⟨r,ρ2,rfl,i2⟩⟩
theorem forL_chk {g:D->Rho->Option Rho} {b:SM} {α:Type} {f : α->D} {r:RV} (I:Rho->Prop) (p : α->Bool):∀ (l:List α) (ρ:Rho),I ρ->(∀ x∈l,∀ ρ,I ρ->∃ ρ1 ρ2,g (f x) ρ=some ρ1∧b ρ1=some (if p x=true then .nx ρ2 else .rt r ρ2)∧I ρ2)->∃ ρ2,forL g b (l.map f) ρ=some (if l.all p=true then .nx ρ2 else .rt r ρ2)∧I ρ2
  | [],ρ,h,_=>⟨ρ,rfl,h⟩
  | x::l,ρ,h,hb=>by
    obtain ⟨ρ1,ρ2,h1,h2,h3⟩:=hb x List.mem_cons_self ρ h
    rw [List.all_cons]
    cases e:p x with
    | true =>
      rw [e,if_pos rfl] at h2
      obtain ⟨ρ3,e1,e2⟩:=forL_chk I p l ρ2 h3 fun y hy=>hb y (List.mem_cons_of_mem _ hy)
      exact ⟨ρ3,by rw [Bool.true_and]; exact forL_cons h1 h2 e1,e2⟩
    | false =>
      rw [e,if_neg (by simp)] at h2
      exact ⟨ρ2,by rw [Bool.false_and,if_neg (by simp)]; exact forL_rt h1 h2,h3⟩
theorem ix_is {tops:List Str} {i:Nat} {t:Str} (h:tops[i]?=some t):gIx (TD tops) (.int (i:Int))=some (.str t,false):=gIx_list _ _ _ (by rw [Mir.atI_nat,List.getElem?_map,h]; rfl)
def Two2 (tops:List Str) (r:RV):Prop:=∃ a b,(∃ i j:Nat,i≠j∧tops[i]?=some a∧tops[j]?=some b)∧r=(.list [.str a,.str b],.new)
theorem belowlen {r:Pile.Row} {a:PM} {ρ:Rho} (h:a ρ=some ((rowD r,.fz),ρ)):IE (mCB gLen (mCons (mOp gIx a (mC (.int 3))) mNil)) ρ (r.below.length:Int):=cb_ev (rs:=[(.tuple (r.below.map .str),.fz)]) (res:=(.int (r.below.length:Int),false)) (cons_fz (sv_fz (row_below h)) nil_ev) (by show some (PyData.int ((r.below.map PyData.str).length:Int),false)=_; rw [List.length_map])
theorem like_body {tops keys:List Str} {row:Str->Pile.Row} (hk:∀ t∈tops,t∈keys) (st:Int) {k j:Nat} (hkn:k < tops.length) (hj:j < k) {s5 s6:Sl} (n5:NIo s5) (n6:NIo s6) :
    ∃ o,lb1_law_like [.fz (TD tops),.fz (HD keys row),.fz (.int st),.fz (.int (k:Int)),.fz (.int (j:Int)),s5,s6]=some o∧((∃ x y,o=.nx [.fz (TD tops),.fz (HD keys row),.fz (.int st),.fz (.int (k:Int)),.fz (.int (j:Int)),.fz x,.fz y])∨∃ r ρ2,o=.rt r ρ2∧Two2 tops r):=by
  obtain ⟨i,e1,hi⟩:=mod_nat (st + (k:Int)) tops.length (by omega)
  obtain ⟨i',e2,hi'⟩:=mod_nat (st + (j:Int)) tops.length (by omega)
  have ne:i≠i':=fun z=>mod_ne st hkn hj (by rw [e1,e2,z])
  have g1:tops[i]?=some tops[i]:=List.getElem?_eq_getElem hi
  have g2:tops[i']?=some tops[i']:=List.getElem?_eq_getElem hi'
  have m1:=hk _ (List.getElem_mem hi)
  have m2:=hk _ (List.getElem_mem hi')
  generalize tops[i]=a at g1 m1
  generalize tops[i']=b at g2 m2
  have ln:∀ {ρ:Rho},ρ[0]?=some (.fz (TD tops))->IE (mCB gLen (mCons (mVar 0) mNil)) ρ (tops.length:Int):=fun {ρ} h=>by
    have:=len_is (i:=0) (l:=tops.map .str) (.inl h)
    rwa [List.length_map] at this
  have v1:∀ {ρ:Rho},ρ[0]?=some (.fz (TD tops))->ρ[2]?=some (.fz (.int st))->ρ[3]?=some (.fz (.int (k:Int)))->mOp gIx (mVar 0) (mOp gMod (mOp gAdd (mVar 2) (mVar 3)) (mCB gLen (mCons (mVar 0) mNil))) ρ=some ((.str a,.fz),ρ):=fun {ρ} h0 h2 h3=>op_ev (r:=(.int (i:Int),.fz)) (res:=(.str a,false)) (sv_fz (var_fz h0)) (sv_fz ((ie_mod (ie_add (ie_var h2) (ie_var h3)) (ln h0) (by omega)).is e1)) (ix_is g1)
  have v2:∀ {ρ:Rho},ρ[0]?=some (.fz (TD tops))->ρ[2]?=some (.fz (.int st))->ρ[4]?=some (.fz (.int (j:Int)))->mOp gIx (mVar 0) (mOp gMod (mOp gAdd (mVar 2) (mVar 4)) (mCB gLen (mCons (mVar 0) mNil))) ρ=some ((.str b,.fz),ρ):=fun {ρ} h0 h2 h3=>op_ev (r:=(.int (i':Int),.fz)) (res:=(.str b,false)) (sv_fz (var_fz h0)) (sv_fz ((ie_mod (ie_add (ie_var h2) (ie_var h3)) (ln h0) (by omega)).is e2)) (ix_is g2)
  have go:∀ o,mIfS (mTest (mOp gEq (mCB gLen (mCons (mOp gIx (mOp gIxD (mVar 1) (mVar 5)) (mC (.int 3))) mNil)) (mCB gLen (mCons (mOp gIx (mOp gIxD (mVar 1) (mVar 6)) (mC (.int 3))) mNil)))) (mRet (mLst (mCons (mVar 5) (mCons (mVar 6) mNil)))) mPass [.fz (TD tops),.fz (HD keys row),.fz (.int st),.fz (.int (k:Int)),.fz (.int (j:Int)),.fz (.str a),.fz (.str b)]=some o->lb1_law_like [.fz (TD tops),.fz (HD keys row),.fz (.int st),.fz (.int (k:Int)),.fz (.int (j:Int)),s5,s6]=some o:=fun o h=>by
    refine seq_nx (ρ1:=[.fz (TD tops),.fz (HD keys row),.fz (.int st),.fz (.int (k:Int)),.fz (.int (j:Int)),.fz (.str a),s6]) (asg_fz (v1 rfl rfl rfl) (set_nio (s:=s5) _ rfl n5)) ?_
    exact seq_nx (ρ1:=[.fz (TD tops),.fz (HD keys row),.fz (.int st),.fz (.int (k:Int)),.fz (.int (j:Int)),.fz (.str a),.fz (.str b)]) (asg_fz (v2 rfl rfl rfl) (set_nio (s:=s6) _ rfl n6)) h
  have l1:=belowlen (row_is (i:=1) (ρ:=[.fz (TD tops),.fz (HD keys row),.fz (.int st),.fz (.int (k:Int)),.fz (.int (j:Int)),.fz (.str a),.fz (.str b)]) (b:=mVar 5) (.inl rfl) m1 (var_fz rfl))
  have l2:=belowlen (row_is (i:=1) (ρ:=[.fz (TD tops),.fz (HD keys row),.fz (.int st),.fz (.int (k:Int)),.fz (.int (j:Int)),.fz (.str a),.fz (.str b)]) (b:=mVar 6) (.inl rfl) m2 (var_fz rfl))
  by_cases e:((row a).below.length:Int)=((row b).below.length:Int)
  . exact ⟨_,go _ (if_t (tEq l1 l2 e) (ret_eq (lst_ev (rs:=[(.str a,.fz),(.str b,.fz)]) rfl rfl (by simp)))),.inr ⟨_,_,rfl,a,b,⟨i,i',ne,g1,g2⟩,rfl⟩⟩
  . exact ⟨_,go _ (if_f (tNe l1 l2 e) rfl),.inl ⟨_,_,rfl⟩⟩
theorem like_is {tops keys:List Str} {row:Str->Pile.Row} (hk:∀ t∈tops,t∈keys) (hl:tops.length≤1000) (st:Int):∃ L:List Str,m_law_like [TD tops,HD keys row,.int st]=some (TD L,true)∧(L=[]∨∃ (a b:Str) (i j:Nat),L=[a,b]∧i≠j∧tops[i]?=some a∧tops[j]?=some b):=by
  have ln:IE (mCB gLen (mCons (mVar 0) mNil)) [.fz (TD tops),.fz (HD keys row),.fz (.int st),.no,.no,.no,.no] (tops.length:Int):=by
    have:=len_is (i:=0) (l:=tops.map .str) (ρ:=[.fz (TD tops),.fz (HD keys row),.fz (.int st),.no,.no,.no,.no]) (.inl rfl)
    rwa [List.length_map] at this
  obtain ⟨o,h1,h2⟩:=forL_or (g:=mgN 3) (b:=lb2_law_like) (f:=fun k:Nat=>PyData.int (k:Int)) (fun ρ=>∃ s3 s4 s5 s6,NIo s3∧NIo s4∧NIo s5∧NIo s6∧ρ=[.fz (TD tops),.fz (HD keys row),.fz (.int st),s3,s4,s5,s6]) (Two2 tops) (List.range tops.length) [.fz (TD tops),.fz (HD keys row),.fz (.int st),.no,.no,.no,.no] ⟨_,_,_,_,NIo.no,NIo.no,NIo.no,NIo.no,rfl⟩ (fun k hkm ρ hρ=>by
    obtain ⟨s3,s4,s5,s6,n3,n4,n5,n6,rfl⟩:=hρ
    have hkn:=List.mem_range.mp hkm
    obtain ⟨o,g1,g2⟩:=forL_or (g:=mgN 4) (b:=lb1_law_like) (f:=fun k:Nat=>PyData.int (k:Int)) (fun ρ=>∃ s4 s5 s6,NIo s4∧NIo s5∧NIo s6∧ρ=[.fz (TD tops),.fz (HD keys row),.fz (.int st),.fz (.int (k:Int)),s4,s5,s6]) (Two2 tops) (List.range k) [.fz (TD tops),.fz (HD keys row),.fz (.int st),.fz (.int (k:Int)),s4,s5,s6] ⟨_,_,_,n4,n5,n6,rfl⟩ (fun j hjm ρ hρ=>by
      obtain ⟨s4,s5,s6,n4,n5,n6,rfl⟩:=hρ
      obtain ⟨o,f1,f2⟩:=like_body (row:=row) hk st hkn (List.mem_range.mp hjm) n5 n6
      refine ⟨_,o,mgN_nio (s:=s4) rfl n4,f1,?_⟩
      rcases f2 with ⟨x,y,rfl⟩ | f2
      . exact .inl ⟨_,rfl,_,_,_,NIo.fz _,NIo.fz _,NIo.fz _,rfl⟩
      . exact .inr f2)
    refine ⟨_,o,mgN_nio (s:=s3) rfl n3,for_eq (rg1_is (ie_var rfl) (by omega)) g1,?_⟩
    rcases g2 with ⟨ρ2,rfl,s4,s5,s6,n4,n5,n6,rfl⟩ | g2
    . exact .inl ⟨_,rfl,_,_,_,_,NIo.fz _,n4,n5,n6,rfl⟩
    . exact .inr g2)
  rcases h2 with ⟨ρ2,rfl,_⟩ | ⟨r,ρ2,rfl,a,b,⟨i,j,ne,g1,g2⟩,rfl⟩
  . exact ⟨[],fn_of (o:=.rt (.list [],.new) ρ2) rfl (seq_nx (for_eq (rg1_is ln (by omega)) h1) (ret_eq (lst_ev (rs:=[]) rfl rfl (by simp)))) rfl,.inl rfl⟩
  . exact ⟨[a,b],fn_of rfl (seq_rt (for_eq (rg1_is ln (by omega)) h1)) rfl,.inr ⟨a,b,i,j,rfl,ne,g1,g2⟩⟩
theorem Bt.more {c d:Nat} {tops keys:List Str} {row:Str->Pile.Row} (h:Bt c tops keys row) (hd:c≤d):Bt d tops keys row :=
  ⟨h.nd,fun n hn=>by obtain ⟨i,hi,e⟩:=h.nm n hn; exact ⟨i,by omega,e⟩,h.tn,h.tk,h.ne,h.mkd,h.ab,fun n hn=>⟨by have:=(h.bl n hn).1; omega,(h.bl n hn).2⟩⟩
theorem hungRow_on {row:Str->Pile.Row} {name on:Str} (ne:on≠name):hungRow row name on on=⟨(row on).key,(row on).above,(row on).mark,(row on).below++[name]⟩:=by
  unfold hungRow
  rw [rowSet_at,rowSet_ne _ _ ne]
theorem hungRow_name {row:Str->Pile.Row} {name on:Str} (ne:on≠name):hungRow row name on name=⟨(row name).key,some on,false,(row name).below⟩:=by
  unfold hungRow
  rw [rowSet_ne _ _ (fun z=>ne z.symm),rowSet_at]
theorem hungRow_ne {row:Str->Pile.Row} {name on n:Str} (h1:n≠on) (h2:n≠name):hungRow row name on n=row n:=by
  unfold hungRow
  rw [rowSet_ne _ _ h1,rowSet_ne _ _ h2]
theorem Bt.hung {c:Nat} {tops keys:List Str} {row:Str->Pile.Row} (h:Bt c tops keys row) {name on:Str} (hn:name∈tops) (ho:on∈tops) (ne:on≠name):Bt (c + 1) (tops.erase name) keys (hungRow row name on):=by
  have hk:=(h.tk name hn).1
  have ok:=(h.tk on ho).1
  refine ⟨h.nd,(h.more (Nat.le_succ c)).nm,h.tn.erase _,fun t ht=>?_,fun _ z=>?_,fun n hnk hm=>?_,fun n hnk a ha=>?_,fun n hnk=>?_⟩
  . obtain ⟨h1,h2⟩:=(List.Nodup.mem_erase_iff h.tn).mp ht
    refine ⟨(h.tk t h2).1,?_⟩
    by_cases e:t=on
    . subst e; rw [hungRow_on ne]; exact (h.tk t h2).2
    . rw [hungRow_ne e h1]; exact (h.tk t h2).2
  . have:on∈tops.erase name:=(List.Nodup.mem_erase_iff h.tn).mpr ⟨ne,ho⟩
    rw [z] at this; cases this
  . by_cases e:n=on
    . subst e; rw [hungRow_on ne] at hm ⊢; exact h.mkd n hnk hm
    . by_cases e2:n=name
      . subst e2; rw [hungRow_name ne] at hm; cases hm
      . rw [hungRow_ne e e2] at hm ⊢; exact h.mkd n hnk hm
  . by_cases e:n=on
    . subst e; rw [hungRow_on ne] at ha; exact h.ab n hnk a ha
    . by_cases e2:n=name
      . subst e2; rw [hungRow_name ne] at ha; cases ha; exact ok
      . rw [hungRow_ne e e2] at ha; exact h.ab n hnk a ha
  . by_cases e:n=on
    . subst e
      rw [hungRow_on ne]
      refine ⟨?_,fun b hb=>?_⟩
      . show ((row n).below++[name]).length≤c + 1
        rw [List.length_append,List.length_singleton]
        have:=(h.bl n hnk).1
        omega
      . rcases List.mem_append.mp (show b∈(row n).below++[name] from hb) with hb | hb
        . exact (h.bl n hnk).2 b hb
        . rw [List.mem_singleton.mp hb]; exact hk
    . by_cases e2:n=name
      . subst e2; rw [hungRow_name ne]; exact ⟨Nat.le_succ_of_le (h.bl n hnk).1,(h.bl n hnk).2⟩
      . rw [hungRow_ne e e2]; exact ⟨by have:=(h.bl n hnk).1; omega,(h.bl n hnk).2⟩
theorem Bt.new {c:Nat} (hc:c < 130) {tops keys:List Str} {row:Str->Pile.Row} (h:Bt c tops keys row) (v:Int):nameS c ∉ keys∧Bt (c + 1) (tops++[nameS c]) (keys++[nameS c]) (rowSet row (nameS c) ⟨v,none,false,[]⟩):=by
  have hn:nameS c ∉ keys:=fun z=>by
    obtain ⟨i,hi,e⟩:=h.nm _ z
    exact nameS_ne c hc i hi e
  refine ⟨hn,?_,fun n hnk=>?_,?_,fun t ht=>?_,fun _=>by simp,fun n hnk hm=>?_,fun n hnk a ha=>?_,fun n hnk=>?_⟩
  . rw [List.nodup_append]
    exact ⟨h.nd,by simp,fun x hx y hy=>by rw [List.mem_singleton.mp hy]; exact fun e=>hn (by rw [← e]; exact hx)⟩
  . rcases List.mem_append.mp hnk with hx | hx
    . obtain ⟨i,hi,e⟩:=h.nm n hx; exact ⟨i,by omega,e⟩
    . exact ⟨c,by omega,List.mem_singleton.mp hx⟩
  . rw [List.nodup_append]
    exact ⟨h.tn,by simp,fun x hx y hy=>by rw [List.mem_singleton.mp hy]; exact fun e=>hn (by rw [← e]; exact (h.tk x hx).1)⟩
  . rcases List.mem_append.mp ht with hx | hx
    . refine ⟨List.mem_append_left _ (h.tk t hx).1,?_⟩
      rw [rowSet_ne _ _ (fun z=>hn (by rw [← z]; exact (h.tk t hx).1))]
      exact (h.tk t hx).2
    . rw [List.mem_singleton.mp hx,rowSet_at]
      exact ⟨by simp,rfl⟩
  . by_cases e:n=nameS c
    . subst e; rw [rowSet_at] at hm; cases hm
    . rw [rowSet_ne _ _ e] at hm ⊢
      exact h.mkd n ((List.mem_append.mp hnk).resolve_right fun z=>e (List.mem_singleton.mp z)) hm
  . by_cases e:n=nameS c
    . subst e; rw [rowSet_at] at ha; cases ha
    . rw [rowSet_ne _ _ e] at ha
      exact List.mem_append_left _ (h.ab n ((List.mem_append.mp hnk).resolve_right fun z=>e (List.mem_singleton.mp z)) a ha)
  . by_cases e:n=nameS c
    . subst e; rw [rowSet_at]; exact ⟨Nat.zero_le _,fun b hb=>by cases hb⟩
    . rw [rowSet_ne _ _ e]
      have h1:=h.bl n ((List.mem_append.mp hnk).resolve_right fun z=>e (List.mem_singleton.mp z))
      exact ⟨by have:=h1.1; omega,fun b hb=>List.mem_append_left _ (h1.2 b hb)⟩
theorem shaped_strs {l:List Str} (h:∀ x∈l,PyData.strOk x=true):PyData.canLayAll0 (l.map .str)=true∧PyData.depthAll (l.map .str)≤1:=by
  induction l with
  | nil=>exact ⟨rfl,by simp [PyData.depthAll]⟩
  | cons x l ih =>
    obtain ⟨h1,h2⟩:=ih fun y hy=>h y (List.mem_cons_of_mem _ hy)
    refine ⟨?_,?_⟩
    . simp only [List.map_cons,PyData.canLayAll0,PyData.canLay0,h x List.mem_cons_self,h1,Bool.and_true]
    . simp only [List.map_cons,PyData.depthAll,PyData.depth]
      omega
theorem shaped_TD {l:List Str} (h:∀ x∈l,PyData.strOk x=true):SeqAt.shaped (TD l)=true:=by
  obtain ⟨h1,h2⟩:=shaped_strs h
  unfold SeqAt.shaped
  rw [decide_eq_true (by simp only [PyData.depth]; omega),Bool.and_true]
  simp only [PyData.canLay0,h1]
theorem gNe_TD0 {l:List Str} (h:∀ x∈l,PyData.strOk x=true):gNe (TD l) (.list [])=some (.bool (!l.isEmpty),false):=by
  unfold gNe
  rw [if_pos ⟨shaped_TD h,shaped_TD (l:=[]) fun x hx=>by cases hx⟩]
  cases l with
  | nil=>rfl
  | cons x l=>simp [PyData.eqv,PyData.eqvAll]
theorem gEq_TD0 {l:List Str} (h:∀ x∈l,PyData.strOk x=true):gEq (TD l) (.list [])=some (.bool l.isEmpty,false):=by
  unfold gEq
  rw [if_pos ⟨shaped_TD h,shaped_TD (l:=[]) fun x hx=>by cases hx⟩]
  cases l with
  | nil=>rfl
  | cons x l=>simp [PyData.eqv,PyData.eqvAll]
theorem pure_strs:∀ l:List Str,pureDs (l.map .str)=true
  | []=>rfl
  | x::l=>by
    show (pureD (.str x) && pureDs (l.map .str))=true
    rw [pure_strs l]; rfl
theorem mut0_ev {i:Nat} {f:List D->List D->Option (List D × D)} {ρ ρ1:Rho} {ds:List D} {w:List D × D} (h0:ownL ρ[i]?=some ds) (h4:f ds []=some w) (h5:Mir.putAt ρ i (.list w.1)=ρ1):mMut0 i f ρ=some ((w.2,.fz),ρ1):=by
  unfold mMut0; rw [h0,Option.bind_some,h4,Option.map_some,h5]
theorem listK_is {ρ:Rho} {i:Nat} {keys:List Str} {row:Str->Pile.Row} (h:Is ρ i (HD keys row)):mCB gListK (mCons (mVar i) mNil) ρ=some ((TD keys,.new),ρ):=cb_is (res:=(TD keys,true)) h (by show some (PyData.list ((heldL keys row).map (·.1)),true)=_; rw [held_keys])
theorem tlen_is {ρ:Rho} {i:Nat} {l:List Str} (h:Is ρ i (TD l)):IE (mCB gLen (mCons (mVar i) mNil)) ρ (l.length:Int):=by
  have:=len_is h
  rwa [List.length_map] at this
theorem pick_is {ρ:Rho} {i:Nat} {l:List Str} (h:Is ρ i (TD l)) (hl : 0 < l.length) {a:PM} {v:Int} (ha:IE a ρ v):∃ n∈l,mOp gIx (mVar i) (mOp gMod a (mCB gLen (mCons (mVar i) mNil))) ρ=some ((.str n,.fz),ρ):=by
  obtain ⟨k,e,hk⟩:=mod_nat v l.length hl
  exact ⟨l[k],List.getElem_mem hk,op_is (r:=(.int (k:Int),.fz)) (res:=(.str l[k],false)) h (sv_fz ((ie_mod ha (tlen_is h) (by omega)).is e)) (ix_is (List.getElem?_eq_getElem hk))⟩
abbrev bst (cs:D) (T H:D) (k cell:Int) (s6 s7 s8 s9:Sl):Rho:=[.fz cs,.fz (.int 0),.own T,.own H,.fz (.int k),.fz (.int cell),s6,s7,s8,s9]
theorem built_body {c:Nat} (hc:c < 100) {tops keys:List Str} {row:Str->Pile.Row} (h:Bt c tops keys row) (cs:D) (cell:Int) {s6 s7 s8 s9:Sl} (n6:NIo s6) (n7:NIo s7) (n8:NIo s8) (n9:NIo s9) :
    ∃ tops' keys' row' t6 t7 t8 t9,lb1_law_built (bst cs (TD tops) (HD keys row) (c:Int) cell s6 s7 s8 s9)=some (.nx (bst cs (TD tops') (HD keys' row') (c:Int) cell t6 t7 t8 t9))∧Bt (c + 1) tops' keys' row'∧NIo t6∧NIo t7∧NIo t8∧NIo t9:=by
  have kl:=h.kl
  have tl:=h.tl
  obtain ⟨L,hL,hL2⟩:=like_is (row:=row) (fun t ht=>(h.tk t ht).1) (by omega) (cell / 5 % 97)
  have okL:∀ x∈L,PyData.strOk x=true:=fun x hx=>by
    rcases hL2 with rfl | ⟨a,b,i,j,rfl,_,g1,g2⟩
    . cases hx
    . have:x=a∨x=b:=by simpa using hx
      rcases this with rfl | rfl
      . exact h.ok (h.tk x (List.mem_of_getElem? g1)).1
      . exact h.ok (h.tk x (List.mem_of_getElem? g2)).1
  have hd:∀ o,mIfS (mAnd (mTest (mOp gEq (mOp gMod (mVar 5) (mC (.int 5))) (mC (.int 4)))) (mTest (mOp gGt (mCB gLen (mCons (mVar 8) mNil)) (mC (.int 0)))))
      (mDrop (mCallJ 2 3 m_law_cut (mCons (mOp gIx (mVar 8) (mOp gMod (mVar 6) (mCB gLen (mCons (mVar 8) mNil)))) mNil)))
      (mIfS (mAnd (mTest (mOp gGt (mOp gMod (mVar 5) (mC (.int 5))) (mC (.int 0)))) (mTest (mOp gNe (mVar 7) (mLst mNil))))
      (mSeq (mIfS (mTest (mCall m_law_before (mCons (mVar 3) (mCons (mOp gIx (mVar 7) (mC (.int 0))) (mCons (mOp gIx (mVar 7) (mC (.int 1))) mNil)))))
      (mDrop (mMut0 7 fReverse))
      mPass)
      (mDrop (mCallJ 2 3 m_law_hung (mCons (mOp gIx (mVar 7) (mC (.int 0))) (mCons (mOp gIx (mVar 7) (mC (.int 1))) mNil)))))
      (mSeq (mAsg 9 (mCall m_law_name_by (mCons (mOp gAdd (mVar 1) (mVar 4)) mNil)))
      (mSeq (mPutD 3 (mTup (mCons (mCall m_law_key_by (mCons (mVar 6) mNil)) (mCons (mC .none) (mCons (mC (.bool false)) (mCons (mTup mNil) mNil))))) (mVar 9))
      (mDrop (mMut 2 fAppend (mCons (mVar 9) mNil)))))) (bst cs (TD tops) (HD keys row) (c:Int) cell (.fz (.int (cell / 5))) (.own (TD L)) (.own (TD keys)) s9)=some o->lb1_law_built (bst cs (TD tops) (HD keys row) (c:Int) cell s6 s7 s8 s9)=some o:=fun o ho=>by
    refine seq_nx (ρ1:=bst cs (TD tops) (HD keys row) (c:Int) cell (.fz (.int (cell / 5))) s7 s8 s9) (asg_fz (ie_div (ie_var rfl) ie_c ⟨by decide,by decide⟩) (set_nio (s:=s6) _ rfl n6)) ?_
    refine seq_nx (ρ1:=bst cs (TD tops) (HD keys row) (c:Int) cell (.fz (.int (cell / 5))) (.own (TD L)) s8 s9) (asg_new (call_pure (rs:=[(TD tops,.at 2),(HD keys row,.at 3),(.int (cell / 5 % 97),.fz)]) (cons_at (sv_at (var_own rfl)) (cons_at (sv_at (var_own rfl)) (consI (ie_mod (ie_var rfl) ie_c (by decide)) nil_ev) rfl) rfl) hL (pure_strs L)) (set_nio (s:=s7) _ rfl n7)) ?_
    exact seq_nx (ρ1:=bst cs (TD tops) (HD keys row) (c:Int) cell (.fz (.int (cell / 5))) (.own (TD L)) (.own (TD keys)) s9) (asg_new (listK_is (.inr (.inl rfl))) (set_nio (s:=s8) _ rfl n8)) ho
  have em:IE (mOp gMod (mVar 5) (mC (.int 5))) (bst cs (TD tops) (HD keys row) (c:Int) cell (.fz (.int (cell / 5))) (.own (TD L)) (.own (TD keys)) s9) (cell % 5):=ie_mod (ie_var rfl) ie_c (by decide)
  have el:IE (mCB gLen (mCons (mVar 8) mNil)) (bst cs (TD tops) (HD keys row) (c:Int) cell (.fz (.int (cell / 5))) (.own (TD L)) (.own (TD keys)) s9) (keys.length:Int):=tlen_is (.inr (.inl rfl))
  by_cases c1:cell % 5=4∧0 < keys.length
  . obtain ⟨n,hn,en⟩:=pick_is (ρ:=bst cs (TD tops) (HD keys row) (c:Int) cell (.fz (.int (cell / 5))) (.own (TD L)) (.own (TD keys)) s9) (i:=8) (l:=keys) (.inr (.inl rfl)) c1.2 (a:=mVar 6) (ie_var rfl)
    obtain ⟨tops',row',sts,h1,h2⟩:=cut_is (by omega:c≤200) h hn
    refine ⟨tops',keys,row',_,_,_,_,hd _ (if_t (and_t (tEq em ie_c c1.1) (tstB (be_gt el ie_c) (decide_eq_true (by omega)))) (drop_ev (callJ_ev (r:=(.list sts,.new)) (ρ3:=bst cs (TD tops') (HD keys row') (c:Int) cell (.fz (.int (cell / 5))) (.own (TD L)) (.own (TD keys)) s9) (by decide) rfl rfl (cons_fz (sv_fz en) nil_ev) rfl rfl rfl h1 rfl))),h2.more (Nat.le_succ c),NIo.fz _,NIo.own _,NIo.own _,n9⟩
  . have t1:mAnd (mTest (mOp gEq (mOp gMod (mVar 5) (mC (.int 5))) (mC (.int 4)))) (mTest (mOp gGt (mCB gLen (mCons (mVar 8) mNil)) (mC (.int 0)))) (bst cs (TD tops) (HD keys row) (c:Int) cell (.fz (.int (cell / 5))) (.own (TD L)) (.own (TD keys)) s9)=some (false,bst cs (TD tops) (HD keys row) (c:Int) cell (.fz (.int (cell / 5))) (.own (TD L)) (.own (TD keys)) s9):=by
      by_cases e:cell % 5=4
      . exact and_t (tEq em ie_c e) (tstB (be_gt el ie_c) (decide_eq_false (by omega)))
      . exact and_f (tNe em ie_c e)
    have enw:mOp gNe (mVar 7) (mLst mNil) (bst cs (TD tops) (HD keys row) (c:Int) cell (.fz (.int (cell / 5))) (.own (TD L)) (.own (TD keys)) s9)=some ((.bool (!L.isEmpty),.fz),bst cs (TD tops) (HD keys row) (c:Int) cell (.fz (.int (cell / 5))) (.own (TD L)) (.own (TD keys)) s9):=op_is (r:=(.list [],.fz)) (res:=(.bool (!L.isEmpty),false)) (.inr (.inl rfl)) (sv_new (lst_ev (rs:=[]) rfl rfl (by simp))) (gNe_TD0 okL)
    by_cases c2 : 0 < cell % 5∧L≠[]
    . obtain ⟨a,b,i,j,rfl,ne,g1,g2⟩:=hL2.resolve_left c2.2
      have ma:=List.mem_of_getElem? g1
      have mb:=List.mem_of_getElem? g2
      have ka:=(h.tk a ma).1
      have kb:=(h.tk b mb).1
      have nab:a≠b:=fun e=>by
        subst e
        obtain ⟨hi,e1⟩:=List.getElem?_eq_some_iff.mp g1
        obtain ⟨hj,e2⟩:=List.getElem?_eq_some_iff.mp g2
        have pw:=List.pairwise_iff_getElem.mp h.tn
        rcases Nat.lt_or_gt_of_ne ne with q | q
        . exact pw i j hi hj q (e1.trans e2.symm)
        . exact pw j i hj hi q (e2.trans e1.symm)
      have fin:∀ x y:Str,x∈tops->y∈tops->y≠x->mDrop (mCallJ 2 3 m_law_hung (mCons (mOp gIx (mVar 7) (mC (.int 0))) (mCons (mOp gIx (mVar 7) (mC (.int 1))) mNil))) (bst cs (TD tops) (HD keys row) (c:Int) cell (.fz (.int (cell / 5))) (.own (TD [x,y])) (.own (TD keys)) s9)=some (.nx (bst cs (TD (tops.erase x)) (HD keys (hungRow row x y)) (c:Int) cell (.fz (.int (cell / 5))) (.own (TD [x,y])) (.own (TD keys)) s9)):=fun x y hx hy hne=>by
        have i0:mOp gIx (mVar 7) (mC (.int 0)) (bst cs (TD tops) (HD keys row) (c:Int) cell (.fz (.int (cell / 5))) (.own (TD [x,y])) (.own (TD keys)) s9)=some ((.str x,.fz),bst cs (TD tops) (HD keys row) (c:Int) cell (.fz (.int (cell / 5))) (.own (TD [x,y])) (.own (TD keys)) s9):=op_is (r:=(.int 0,.fz)) (res:=(.str x,false)) (.inr (.inl rfl)) (sv_fz rfl) rfl
        have i1:mOp gIx (mVar 7) (mC (.int 1)) (bst cs (TD tops) (HD keys row) (c:Int) cell (.fz (.int (cell / 5))) (.own (TD [x,y])) (.own (TD keys)) s9)=some ((.str y,.fz),bst cs (TD tops) (HD keys row) (c:Int) cell (.fz (.int (cell / 5))) (.own (TD [x,y])) (.own (TD keys)) s9):=op_is (r:=(.int 1,.fz)) (res:=(.str y,false)) (.inr (.inl rfl)) (sv_fz rfl) rfl
        exact drop_ev (callJ_ev (r:=(.none,.fz)) (by decide) rfl rfl (cons_fz (sv_fz i0) (cons_fz (sv_fz i1) nil_ev)) rfl rfl rfl (hung_is (h.tk x hx).1 (h.tk y hy).1 hx (by omega) fun n hn=>by have:=(h.bl n hn).1; omega) rfl)
      have i0:mOp gIx (mVar 7) (mC (.int 0)) (bst cs (TD tops) (HD keys row) (c:Int) cell (.fz (.int (cell / 5))) (.own (TD [a,b])) (.own (TD keys)) s9)=some ((.str a,.fz),bst cs (TD tops) (HD keys row) (c:Int) cell (.fz (.int (cell / 5))) (.own (TD [a,b])) (.own (TD keys)) s9):=op_is (r:=(.int 0,.fz)) (res:=(.str a,false)) (.inr (.inl rfl)) (sv_fz rfl) rfl
      have i1:mOp gIx (mVar 7) (mC (.int 1)) (bst cs (TD tops) (HD keys row) (c:Int) cell (.fz (.int (cell / 5))) (.own (TD [a,b])) (.own (TD keys)) s9)=some ((.str b,.fz),bst cs (TD tops) (HD keys row) (c:Int) cell (.fz (.int (cell / 5))) (.own (TD [a,b])) (.own (TD keys)) s9):=op_is (r:=(.int 1,.fz)) (res:=(.str b,false)) (.inr (.inl rfl)) (sv_fz rfl) rfl
      have tb:mTest (mCall m_law_before (mCons (mVar 3) (mCons (mOp gIx (mVar 7) (mC (.int 0))) (mCons (mOp gIx (mVar 7) (mC (.int 1))) mNil)))) (bst cs (TD tops) (HD keys row) (c:Int) cell (.fz (.int (cell / 5))) (.own (TD [a,b])) (.own (TD keys)) s9)=some (pairLt (row a).key a (row b).key b,bst cs (TD tops) (HD keys row) (c:Int) cell (.fz (.int (cell / 5))) (.own (TD [a,b])) (.own (TD keys)) s9):=(be_call (rs:=[(HD keys row,.at 3),(.str a,.fz),(.str b,.fz)]) (cons_at (sv_at (var_own rfl)) (cons_fz (sv_fz i0) (cons_fz (sv_fz i1) nil_ev)) rfl) (before_is keys row a b ka kb)).t
      have t2:mAnd (mTest (mOp gGt (mOp gMod (mVar 5) (mC (.int 5))) (mC (.int 0)))) (mTest (mOp gNe (mVar 7) (mLst mNil))) (bst cs (TD tops) (HD keys row) (c:Int) cell (.fz (.int (cell / 5))) (.own (TD [a,b])) (.own (TD keys)) s9)=some (true,bst cs (TD tops) (HD keys row) (c:Int) cell (.fz (.int (cell / 5))) (.own (TD [a,b])) (.own (TD keys)) s9):=and_t (tstB (be_gt em ie_c) (decide_eq_true c2.1)) (test_ev (k:=.fz) enw)
      cases eb:pairLt (row a).key a (row b).key b with
      | true =>
        rw [eb] at tb
        exact ⟨tops.erase b,keys,hungRow row b a,_,_,_,_,hd _ (if_f t1 (if_t t2 (seq_nx (ρ1:=bst cs (TD tops) (HD keys row) (c:Int) cell (.fz (.int (cell / 5))) (.own (TD [b,a])) (.own (TD keys)) s9) (if_t tb (drop_ev (mut0_ev rfl rfl rfl))) (fin b a mb ma nab)))),h.hung mb ma nab,NIo.fz _,NIo.own _,NIo.own _,n9⟩
      | false =>
        rw [eb] at tb
        exact ⟨tops.erase a,keys,hungRow row a b,_,_,_,_,hd _ (if_f t1 (if_t t2 (seq_nx (ρ1:=bst cs (TD tops) (HD keys row) (c:Int) cell (.fz (.int (cell / 5))) (.own (TD [a,b])) (.own (TD keys)) s9) (if_f tb rfl) (fin a b ma mb fun z=>nab z.symm)))),h.hung ma mb (fun z=>nab z.symm),NIo.fz _,NIo.own _,NIo.own _,n9⟩
    . have t2:mAnd (mTest (mOp gGt (mOp gMod (mVar 5) (mC (.int 5))) (mC (.int 0)))) (mTest (mOp gNe (mVar 7) (mLst mNil))) (bst cs (TD tops) (HD keys row) (c:Int) cell (.fz (.int (cell / 5))) (.own (TD L)) (.own (TD keys)) s9)=some (false,bst cs (TD tops) (HD keys row) (c:Int) cell (.fz (.int (cell / 5))) (.own (TD L)) (.own (TD keys)) s9):=by
        by_cases e : 0 < cell % 5
        . have:L=[]:=Classical.byContradiction fun z=>c2 ⟨e,z⟩
          subst this
          exact and_t (tstB (be_gt em ie_c) (decide_eq_true e)) (test_ev (k:=.fz) enw)
        . exact and_f (tstB (be_gt em ie_c) (decide_eq_false e))
      obtain ⟨v,hv⟩:=key_is (cell / 5)
      obtain ⟨hnk,hB⟩:=h.new (by omega:c < 130) v
      have ea:IE (mOp gAdd (mVar 1) (mVar 4)) (bst cs (TD tops) (HD keys row) (c:Int) cell (.fz (.int (cell / 5))) (.own (TD L)) (.own (TD keys)) s9) (c:Int):=(ie_add (ie_var rfl) (ie_var rfl)).is (by omega)
      refine ⟨_,_,_,_,_,_,_,hd _ (if_f t1 (if_f t2 ?_)),hB,NIo.fz (.int (cell / 5)),NIo.own (TD L),NIo.own (TD keys),NIo.fz (.str (nameS c))⟩
      refine seq_nx (ρ1:=bst cs (TD tops) (HD keys row) (c:Int) cell (.fz (.int (cell / 5))) (.own (TD L)) (.own (TD keys)) (.fz (.str (nameS c)))) (asg_fz (call_pure (rs:=[(.int (c:Int),.fz)]) (consI ea nil_ev) (name_is c) rfl) (set_nio (s:=s9) _ rfl n9)) ?_
      refine seq_nx (ρ1:=bst cs (TD tops) (HD (keys++[nameS c]) (rowSet row (nameS c) ⟨v,none,false,[]⟩)) (c:Int) cell (.fz (.int (cell / 5))) (.own (TD L)) (.own (TD keys)) (.fz (.str (nameS c)))) ((putD_ev (i:=3) (r:=⟨v,none,false,[]⟩) (tup_ev (rs:=[(.int v,.fz),(.none,.fz),(.bool false,.fz),(.tuple [],.fz)]) (consI (ie_call (rs:=[(.int (cell / 5),.fz)]) rfl hv) (cons_fz (sv_fz rfl) (cons_fz (sv_fz rfl) (cons_fz (sv_fz (tup_ev (rs:=[]) rfl rfl (by simp))) nil_ev)))) rfl (by simp)) (var_fz rfl) rfl (.inl rfl) (by omega)).trans (by rw [kput_out hnk]; rfl)) ?_
      exact drop_ev (mut_ev (rs:=[(.str (nameS c),.fz)]) rfl rfl rfl rfl (app_ok _ (by rw [List.length_map]; omega)) (by rw [map_snoc]; rfl))
theorem enum_map (cs:List Int):enumD (cs.map .int)=(cs.zipIdx).map fun p:Int × Nat=>PyData.tuple [.int (p.2:Int),.int p.1]:=by
  unfold enumD
  refine List.ext_getElem? fun i=>?_
  rw [List.getElem?_mapIdx,List.getElem?_map,List.getElem?_map,List.getElem?_zipIdx]
  cases cs[i]? <;> simp
theorem built_loop (csD:D):∀ (cs:List Int) (c:Nat) (tops keys:List Str) (row:Str->Pile.Row) (s4 s5 s6 s7 s8 s9:Sl),NIo s4->NIo s5->NIo s6->NIo s7->NIo s8->NIo s9->c + cs.length≤100->Bt c tops keys row ->
    ∃ tops' keys' row' tl,forL (mgU 2 (mgsCons (mgN 4) (mgsCons (mgN 5) mgsNil))) lb1_law_built ((cs.zipIdx c).map fun p:Int × Nat=>PyData.tuple [.int (p.2:Int),.int p.1]) [.fz csD,.fz (.int 0),.own (TD tops),.own (HD keys row),s4,s5,s6,s7,s8,s9]=some (.nx (.fz csD::.fz (.int 0)::.own (TD tops')::.own (HD keys' row')::tl))∧Bt (c + cs.length) tops' keys' row':=by
  intro cs
  induction cs with
  | nil=>intro c tops keys row s4 s5 s6 s7 s8 s9 _ _ _ _ _ _ _ h; exact ⟨tops,keys,row,_,rfl,h⟩
  | cons x cs ih =>
    intro c tops keys row s4 s5 s6 s7 s8 s9 n4 n5 n6 n7 n8 n9 hl h
    rw [List.length_cons] at hl ⊢
    obtain ⟨tops1,keys1,row1,t6,t7,t8,t9,h1,h2,m6,m7,m8,m9⟩:=built_body (by omega:c < 100) h csD x n6 n7 n8 n9
    obtain ⟨tops',keys',row',tl,h3,h4⟩:=ih (c + 1) tops1 keys1 row1 (.fz (.int (c:Int))) (.fz (.int x)) t6 t7 t8 t9 (NIo.fz _) (NIo.fz _) m6 m7 m8 m9 (by omega) h2
    refine ⟨tops',keys',row',tl,?_,by rw [show c + (cs.length + 1)=c + 1 + cs.length by omega]; exact h4⟩
    rw [List.zipIdx_cons,List.map_cons]
    refine forL_cons (ρ1:=bst csD (TD tops) (HD keys row) (c:Int) x s6 s7 s8 s9) ?_ h1 h3
    show (mgN 4 (.int (c:Int)) _).bind (fun ρ1=>(mgN 5 (.int x) ρ1).bind fun ρ2=>some ρ2)=_
    rw [mgN_nio (s:=s4) rfl n4,Option.bind_some,mgN_nio (s:=s5) rfl n5,Option.bind_some]
    rfl
theorem Bt.zero (row:Str->Pile.Row):Bt 0 [] [] row:=⟨by simp,(fun n hn=>by cases hn),by simp,(fun n hn=>by cases hn),fun z=>absurd rfl z,(fun n hn=>by cases hn),(fun n hn=>by cases hn),fun n hn=>by cases hn⟩
theorem fnD_of {n k:Nat} {b:Rho->Option (D × D)} {ds:List D} {w:D × D} (h0:ds.length=n) (h1:b (ds.map .fz++List.replicate k .no)=some w):fnD n k b ds=some w:=by unfold fnD; rw [if_pos h0,h1]
theorem mdseq_nx {a:SM} {b:Rho->Option (D × D)} {ρ ρ1:Rho} {o:Option (D × D)} (h1:a ρ=some (.nx ρ1)) (h2:b ρ1=o):mdSeq a b ρ=o:=by unfold mdSeq; rw [h1,Option.bind_some]; exact h2
theorem built_is (cs:List Int) (hl:cs.length≤60):∃ tops keys row,d_law_built [.list (cs.map .int),.int 0]=some (TD tops,HD keys row)∧Bt 60 tops keys row:=by
  obtain ⟨tops,keys,row,tl,h1,h2⟩:=built_loop (.list (cs.map .int)) cs 0 [] [] (fun _=>⟨0,none,false,[]⟩) .no .no .no .no .no .no NIo.no NIo.no NIo.no NIo.no NIo.no NIo.no (by omega) (Bt.zero _)
  refine ⟨tops,keys,row,?_,h2.more (by omega)⟩
  refine fnD_of rfl ?_
  refine mdseq_nx (ρ1:=[.fz (.list (cs.map .int)),.fz (.int 0),.own (TD []),.no,.no,.no,.no,.no,.no,.no]) (asg_new (lst_ev (rs:=[]) rfl rfl (by simp)) rfl) ?_
  refine mdseq_nx (ρ1:=[.fz (.list (cs.map .int)),.fz (.int 0),.own (TD []),.own (HD [] fun _=>⟨0,none,false,[]⟩),.no,.no,.no,.no,.no,.no]) (asg_new rfl rfl) ?_
  rw [← enum_map] at h1
  exact mdseq_nx (for_eq (ds:=enumD (cs.map .int)) rfl h1) rfl
theorem str_len (x y:Str):(x++y).length=x.length + y.length:=by
  show (x.cps++y.cps).size=_
  rw [Array.size_append]; rfl
theorem nameS_len (k:Nat):(nameS k).length≤100:=by
  unfold nameS
  have:=sfx_len (k / 2 % 6) (by omega)
  split
  . rw [str_len,str_len,letter_len,letter_len]; omega
  . rw [str_len,letter_len,letter_len]; omega
structure Gw (t:Nat) (keys:List Str) (row:Str->Pile.Row):Prop where
  nd:keys.Nodup
  ok:∀ n∈keys,PyData.strOk n=true
  ln:∀ n∈keys,n.length≤100
  aok:∀ n∈keys,∀ a,(row n).above=some a->PyData.strOk a=true
  bok:∀ n∈keys,(row n).below.length≤100∧∀ b∈(row n).below,PyData.strOk b=true
  nt:(keys.filter fun n=>(row n).above.isNone).length≤t
theorem kput_nodup {keys:List Str} (h:keys.Nodup) (n:Str):(kput keys n).Nodup:=by
  unfold kput
  split
  . exact h
  . rename_i hn
    rw [List.nodup_append]
    exact ⟨h,by simp,fun x hx y hy=>by rw [List.mem_singleton.mp hy]; exact fun e=>hn (by rw [← e]; exact hx)⟩
theorem kput_mem {keys:List Str} {n m:Str}:m∈kput keys n↔m∈keys∨m=n:=by
  unfold kput
  split
  . rename_i h; exact ⟨.inl,fun z=>z.elim id fun e=>by rw [e]; exact h⟩
  . rw [List.mem_append,List.mem_singleton]
theorem kput_len (keys:List Str) (n:Str):(kput keys n).length≤keys.length + 1:=by
  unfold kput
  split
  . omega
  . rw [List.length_append,List.length_singleton]; omega
theorem filt_set (row:Str->Pile.Row) (n:Str) (r:Pile.Row):∀ keys:List Str,keys.Nodup->(keys.filter fun m=>(rowSet row n r m).above.isNone).length≤(keys.filter fun m=>(row m).above.isNone).length + (if r.above.isNone then 1 else 0)
  | [],_=>Nat.zero_le _
  | x::keys,h=>by
    have hn:=List.nodup_cons.mp h
    by_cases e:x=n
    . subst e
      have:(keys.filter fun m=>(rowSet row x r m).above.isNone)=keys.filter fun m=>(row m).above.isNone:=List.filter_congr fun m hm=>by rw [rowSet_ne _ _ fun z=>hn.1 (by rw [← z]; exact hm)]
      rw [List.filter_cons,List.filter_cons,rowSet_at,this]
      split <;> split <;> (try simp only [List.length_cons]) <;> omega
    . have ih:=filt_set row n r keys hn.2
      rw [List.filter_cons,List.filter_cons,rowSet_ne _ _ e]
      split <;> (try simp only [List.length_cons]) <;> omega
theorem Gw.put {t:Nat} {keys:List Str} {row:Str->Pile.Row} (h:Gw t keys row) {n:Str} {r:Pile.Row} (hn:PyData.strOk n=true) (hln:n.length≤100) (ha:∀ a,r.above=some a->PyData.strOk a=true) (hb:r.below.length≤100∧∀ b∈r.below,PyData.strOk b=true):Gw (t + if r.above.isNone then 1 else 0) (kput keys n) (rowSet row n r):=by
  refine ⟨kput_nodup h.nd n,fun m hm=>?_,fun m hm=>?_,fun m hm a e=>?_,fun m hm=>?_,?_⟩
  . rcases kput_mem.mp hm with hm | rfl
    . exact h.ok m hm
    . exact hn
  . rcases kput_mem.mp hm with hm | rfl
    . exact h.ln m hm
    . exact hln
  . by_cases q:m=n
    . subst q; rw [rowSet_at] at e; exact ha a e
    . rw [rowSet_ne _ _ q] at e; exact h.aok m ((kput_mem.mp hm).resolve_right q) a e
  . by_cases q:m=n
    . subst q; rw [rowSet_at]; exact hb
    . rw [rowSet_ne _ _ q]; exact h.bok m ((kput_mem.mp hm).resolve_right q)
  . by_cases q:n∈keys
    . rw [kput_in q]
      have:=filt_set row n r keys h.nd
      have:=h.nt
      omega
    . rw [kput_out q,List.filter_append,List.length_append]
      have e:(keys.filter fun m=>(rowSet row n r m).above.isNone)=keys.filter fun m=>(row m).above.isNone:=List.filter_congr fun m hm=>by rw [rowSet_ne _ _ fun z=>q (by rw [← z]; exact hm)]
      rw [e]
      have:=h.nt
      rw [List.filter_cons,rowSet_at]
      split <;> simp only [List.filter_nil,List.length_cons,List.length_nil] <;> omega
def aOk (a:Option Str):Prop:=∀ z,a=some z->PyData.strOk z=true
def Grows (f:List D->Option ((D × Bool) × D)) (many:Nat):Prop:=∀ (t:Nat) (keys:List Str) (row:Str->Pile.Row) (above:Option Str) (mark:Bool) (key:Int),Gw t keys row->aOk above->keys.length + 2 ^ many≤900 ->
  ∃ (name:Str) (keys':List Str) (row':Str->Pile.Row),f [HD keys row,.int (many:Int),aboveD above,.bool mark,.int key]=some ((.str name,false),HD keys' row')∧Gw (t + if above.isNone then 2 else 0) keys' row'∧keys'.length≤keys.length + 2 ^ many∧PyData.strOk name=true∧∀ n∈keys,n∈keys'
theorem go_loop {f:List D->Option ((D × Bool) × D)} {M:Nat} (hf:∀ k,k + 1 < M∨(k=0∧0 < M)->Grows f k) {many above mark key s6:Sl} {name:Str} (hn:PyData.strOk name=true) (k0:Int) (base:Nat) (hm:key=.fz (.int k0)):∀ (m q t:Nat) (keys:List Str) (row:Str->Pile.Row),q + m=M->Gw t keys row->keys.length≤base + 2 ^ q->base + 2 ^ M≤900->∀ d0:D,
    ∃ (names keys':List Str) (row':Str->Pile.Row),goI f (mCons (mCB gMax (mCons (mC (.int 0)) (mCons (mOp gSub (mVar 0) (mC (.int 1))) mNil))) (mCons (mVar 2) (mCons (mOp gGt (mVar 0) (mC (.int 0))) (mCons (mOp gAdd (mVar 3) (mC (.int 1))) mNil)))) [("_law_held",0),("_law_name",5),("_law_key",4)] [.io d0,many,above,mark,key,.fz (.str name),s6] 0 (.io d0) ((List.range' q m).map fun k:Nat=>PyData.int (k:Int)) (HD keys row)=some (names.map .str,HD keys' row')∧Gw t keys' row'∧keys'.length≤base + 2 ^ M∧names.length=m∧(∀ x∈names,PyData.strOk x=true)∧∀ n∈keys,n∈keys':=by
  subst hm
  intro m
  induction m with
  | zero =>
    intro q t keys row hq hg hl hb d0
    refine ⟨[],keys,row,rfl,hg,?_,rfl,(fun x hx=>by cases hx),fun n hn=>hn⟩
    rw [show q=M by omega] at hl
    exact hl
  | succ m ih =>
    intro q t keys row hq hg hl hb d0
    have p1 : 2 ^ (q - 1)≤2 ^ q:=Nat.pow_le_pow_right (by omega) (by omega)
    have p2 : 2 ^ q + 2 ^ q≤2 ^ M:=by
      have : 2 ^ (q + 1)≤2 ^ M:=Nat.pow_le_pow_right (by omega) (by omega)
      rw [Nat.pow_succ] at this; omega
    obtain ⟨nm, keys1, row1, e1, g1, l1, o1, s1⟩ := hf (q - 1) (by by_cases z : q = 0
                                                                   . right; omega
                                                                   . left; omega) t keys row (some name) (decide (0 < (q:Int))) (k0 + 1) hg (fun z hz=>by cases hz; exact hn) (by omega)
    obtain ⟨names,keys',row',e2,g2,l2,l3,o2,s2⟩:=ih (q + 1) t keys1 row1 (by omega) g1 (by rw [Nat.pow_succ]; omega) hb d0
    refine ⟨nm::names,keys',row',?_,g2,l2,by rw [List.length_cons,l3],fun x hx=>?_,fun n hn=>s2 n (s1 n hn)⟩
    . rw [List.range'_succ,List.map_cons]
      unfold goI
      have hmx:max (0:Int) ((q:Int) - 1)=((q - 1:Nat):Int):=by omega
      have ev:mCons (mCB gMax (mCons (mC (.int 0)) (mCons (mOp gSub (mVar 0) (mC (.int 1))) mNil))) (mCons (mVar 2) (mCons (mOp gGt (mVar 0) (mC (.int 0))) (mCons (mOp gAdd (mVar 3) (mC (.int 1))) mNil))) [.fz (.int (q:Int)),.ro (HD keys row),.fz (.str name),.fz (.int k0)]=some ([(.int ((q - 1:Nat):Int),.fz),(.str name,.fz),(.bool (decide (0 < (q:Int))),.fz),(.int (k0 + 1),.fz)],[.fz (.int (q:Int)),.ro (HD keys row),.fz (.str name),.fz (.int k0)]):=by
        refine cons_fz (sv_fz (cb_ev (rs:=[(.int 0,.fz),(.int ((q:Int) - 1),.fz)]) (res:=(.int ((q - 1:Nat):Int),false)) (consI ie_c (consI (ie_sub (ie_var rfl) ie_c) nil_ev)) ?_)) (cons_fz (sv_fz (var_fz rfl)) (cons_fz (sv_fz (be_gt (ie_var rfl) ie_c)) (consI (ie_add (ie_var rfl) ie_c) nil_ev)))
        show some (PyData.int (if (0:Int) < (q:Int) - 1 then (q:Int) - 1 else 0),false)=_
        rw [show (if (0:Int) < (q:Int) - 1 then (q:Int) - 1 else 0)=((q - 1:Nat):Int) by split <;> omega]
      show (mCons _ _ [.fz (.int (q:Int)),.ro (HD keys row),.fz (.str name),.fz (.int k0)]).bind _=_
      rw [ev,Option.bind_some]
      dsimp only [asFs,Option.bind_some,Option.map_some]
      show (f (HD keys row::[.int ((q - 1:Nat):Int),.str name,.bool (decide (0 < (q:Int))),.int (k0 + 1)])).bind _=_
      rw [show f [HD keys row,.int ((q - 1:Nat):Int),.str name,.bool (decide (0 < (q:Int))),.int (k0 + 1)]=some ((.str nm,false),HD keys1 row1) from e1,Option.bind_some]
      dsimp only
      rw [if_pos rfl,e2]; rfl
    . rcases List.mem_cons.mp hx with rfl | hx
      . exact o1
      . exact o2 x hx
theorem grown_is:∀ n many:Nat,many < n->many≤9->Grows (m_law_grown n) many:=by
  intro n
  induction n with
  | zero=>intro many h; omega
  | succ n ih =>
    intro many hmn h9 t keys row above mark key hg ha hl
    have hp : 0 < 2 ^ many:=Nat.pow_pos (by omega)
    have okn:=nameS_ok keys.length
    have g1:=hg.put (n:=nameS keys.length) (r:=⟨key,above,mark,[]⟩) okn (nameS_len _) ha ⟨by simp,fun b hb=>by cases hb⟩
    have l1:=kput_len keys (nameS keys.length)
    obtain ⟨names,keys',row',e2,g2,l2,l3,o2,s2⟩:=go_loop (f:=m_law_grown n) (M:=many) (fun k hk=>ih k (by omega) (by omega)) (many:=.fz (.int (many:Int))) (above:=.fz (aboveD above)) (mark:=.fz (.bool mark)) (s6:=.no) okn key keys.length rfl many 0 _ _ _ (by omega) g1 (by simpa using l1) hl (HD (kput keys (nameS keys.length)) (rowSet row (nameS keys.length) ⟨key,above,mark,[]⟩))
    have hin:nameS keys.length∈keys':=s2 _ (kput_mem.mpr (.inr rfl))
    have g3:=g2.put (n:=nameS keys.length) (r:=⟨key,above,mark,names⟩) okn (nameS_len _) ha ⟨by show names.length≤100; omega,o2⟩
    rw [kput_in hin] at g3
    refine ⟨nameS keys.length,keys',rowSet row' (nameS keys.length) ⟨key,above,mark,names⟩,?_,?_,l2,okn,fun m hm=>s2 m (kput_mem.mpr (.inl hm))⟩
    . refine fnI_of (o:=.rt (.str (nameS keys.length),.fz) [.io (HD keys' (rowSet row' (nameS keys.length) ⟨key,above,mark,names⟩)),.fz (.int (many:Int)),.fz (aboveD above),.fz (.bool mark),.fz (.int key),.fz (.str (nameS keys.length)),.own (TD names)]) rfl ?_ rfl rfl
      refine seq_nx (ρ1:=[.io (HD keys row),.fz (.int (many:Int)),.fz (aboveD above),.fz (.bool mark),.fz (.int key),.fz (.str (nameS keys.length)),.no]) (asg_fz (call_pure (rs:=[(.int (keys.length:Int),.fz)]) (consI (lenR_is (.inr (.inr rfl))) nil_ev) (name_is keys.length) rfl) rfl) ?_
      refine seq_nx (ρ1:=[.io (HD (kput keys (nameS keys.length)) (rowSet row (nameS keys.length) ⟨key,above,mark,[]⟩)),.fz (.int (many:Int)),.fz (aboveD above),.fz (.bool mark),.fz (.int key),.fz (.str (nameS keys.length)),.no]) (putD_ev (i:=0) (r:=⟨key,above,mark,[]⟩) (tup_ev (rs:=[(.int key,.fz),(aboveD above,.fz),(.bool mark,.fz),(.tuple [],.fz)]) (cons_fz (sv_fz (var_fz rfl)) (cons_fz (sv_fz (var_fz rfl)) (cons_fz (sv_fz (var_fz rfl)) (cons_fz (sv_fz (tup_ev (rs:=[]) rfl rfl (by simp))) nil_ev)))) rfl (by simp)) (var_fz rfl) rfl (.inr rfl) (by omega)) ?_
      refine seq_nx (ρ1:=[.io (HD keys' row'),.fz (.int (many:Int)),.fz (aboveD above),.fz (.bool mark),.fz (.int key),.fz (.str (nameS keys.length)),.own (TD names)]) (asg_new (ρ1:=[.io (HD keys' row'),.fz (.int (many:Int)),.fz (aboveD above),.fz (.bool mark),.fz (.int key),.fz (.str (nameS keys.length)),.no]) ?_ rfl) ?_
      . unfold mLCI
        rw [rg1_is (n:=many) (ie_var rfl) (by omega),Option.bind_some]
        dsimp only
        rw [show ownAt [Sl.io (HD (kput keys (nameS keys.length)) (rowSet row (nameS keys.length) ⟨key,above,mark,[]⟩)),.fz (.int (many:Int)),.fz (aboveD above),.fz (.bool mark),.fz (.int key),.fz (.str (nameS keys.length)),.no] 0=some (.io (HD (kput keys (nameS keys.length)) (rowSet row (nameS keys.length) ⟨key,above,mark,[]⟩))) from rfl,Option.bind_some]
        rw [List.range_eq_range']
        show (goI _ _ _ _ _ _ _ (HD (kput keys (nameS keys.length)) (rowSet row (nameS keys.length) ⟨key,above,mark,[]⟩))).bind _=_
        rw [e2,Option.bind_some]
        rw [cIf_pos (sz_lt (by rw [List.length_map]; omega))]; rfl
      . exact seq_nx (ρ1:=[.io (HD keys' (rowSet row' (nameS keys.length) ⟨key,above,mark,names⟩)),.fz (.int (many:Int)),.fz (aboveD above),.fz (.bool mark),.fz (.int key),.fz (.str (nameS keys.length)),.own (TD names)]) ((putD_ev (i:=0) (r:=⟨key,above,mark,names⟩) (tup_ev (rs:=[(.int key,.fz),(aboveD above,.fz),(.bool mark,.fz),(.tuple (names.map .str),.fz)]) (cons_fz (sv_fz (var_fz rfl)) (cons_fz (sv_fz (var_fz rfl)) (cons_fz (sv_fz (var_fz rfl)) (cons_fz (sv_fz (cb_is (i:=6) (x:=TD names) (res:=(.tuple (names.map .str),true)) (.inr (.inl rfl)) rfl)) nil_ev)))) rfl (by simp)) (var_fz rfl) rfl (.inr rfl) (by omega)).trans (by rw [kput_in hin]; rfl)) (ret_eq (var_fz rfl))
    . have e:t + (if above.isNone=true then 1 else 0) + (if above.isNone=true then 1 else 0)=t + if above.isNone=true then 2 else 0:=by split <;> omega
      rw [← e]; exact g3
theorem cut_ints (ns:List Int) (lo hi:Nat):∃ cs:List Int,cutD (ns.map .int) (some (lo:Int)) (some (hi:Int))=cs.map .int∧cs.length≤hi - lo∧∀ c∈cs,c∈ns:=by
  unfold cutD
  refine ⟨(ns.drop (HT.sIx (ns.map PyData.int).length 0 (some (lo:Int)))).take (HT.sIx (ns.map PyData.int).length (ns.map PyData.int).length (some (hi:Int)) - HT.sIx (ns.map PyData.int).length 0 (some (lo:Int))),by rw [List.map_take,List.map_drop],?_,fun c hc=>List.mem_of_mem_drop (List.mem_of_mem_take hc)⟩
  rw [List.length_take,List.length_drop]
  simp only [HT.sIx,List.length_map]
  rw [if_neg (by omega),if_neg (by omega)]
  omega
structure Pw (c:Nat) (tops keys:List Str) (row:Str->Pile.Row):Prop where
  nd:keys.Nodup
  ok:∀ n∈keys,PyData.strOk n=true
  ln:∀ n∈keys,n.length≤100
  aok:∀ n∈keys,∀ a,(row n).above=some a->PyData.strOk a=true
  bok:∀ n∈keys,(row n).below.length≤100 + 3 * c∧∀ b∈(row n).below,PyData.strOk b=true
  nt:(keys.filter fun n=>(row n).above.isNone).length≤60 + c
  tok:∀ t∈tops,PyData.strOk t=true
  tl:tops.length≤60 + c
  kl:keys.length≤950
theorem Bt.pw {tops keys:List Str} {row:Str->Pile.Row} (h:Bt 60 tops keys row):Pw 0 tops keys row :=
  ⟨h.nd,fun n hn=>h.ok hn,(fun n hn=>by obtain ⟨i,_,rfl⟩:=h.nm n hn; exact nameS_len i),fun n hn a ha=>h.ok (h.ab n hn a ha),fun n hn=>⟨by have:=(h.bl n hn).1; omega,fun b hb=>h.ok ((h.bl n hn).2 b hb)⟩,Nat.le_trans (List.length_filter_le _ _) h.kl,fun t ht=>h.ok (h.tk t ht).1,h.tl,by have:=h.kl; omega⟩
theorem begun_loop (cs0:D):∀ (cs:List Int) (t:Nat) (tops keys:List Str) (row:Str->Pile.Row) (s3 s4:Sl),NIo s3->NIo s4->Gw t keys row->(∀ x∈tops,PyData.strOk x=true)->keys.length + cs.length≤950->tops.length + cs.length≤60->tops≠[] ->
    ∃ (tops' keys':List Str) (row':Str->Pile.Row) (tl:Rho),forL (mgN 3) lb1_law_begun (cs.map .int) [.fz cs0,.own (HD keys row),.own (TD tops),s3,s4]=some (.nx (.fz cs0::.own (HD keys' row')::.own (TD tops')::tl))∧Gw (t + cs.length) keys' row'∧(∀ x∈tops',PyData.strOk x=true)∧keys'.length≤950∧tops'.length≤60∧tops'≠[]:=by
  intro cs
  induction cs with
  | nil=>intro t tops keys row s3 s4 _ _ hg ht hk htl hne; exact ⟨tops,keys,row,_,rfl,hg,ht,by simpa using hk,by simpa using htl,hne⟩
  | cons c cs ih =>
    intro t tops keys row s3 s4 n3 n4 hg ht hk htl hne
    rw [List.length_cons] at hk htl
    obtain ⟨v,hv⟩:=key_is c
    have okn:=nameS_ok keys.length
    have g1:=hg.put (n:=nameS keys.length) (r:=⟨v,none,false,[]⟩) okn (nameS_len _) (fun a ha=>by cases ha) ⟨by simp,fun b hb=>by cases hb⟩
    have l1:=kput_len keys (nameS keys.length)
    obtain ⟨tops',keys',row',tl,h1,h2,h3,h4,h5,h6⟩:=ih (t + 1) (tops++[nameS keys.length]) (kput keys (nameS keys.length)) (rowSet row (nameS keys.length) ⟨v,none,false,[]⟩) (.fz (.int c)) (.fz (.str (nameS keys.length))) (NIo.fz _) (NIo.fz _) g1 (fun x hx=>by
      rcases List.mem_append.mp hx with hx | hx
      . exact ht x hx
      . rw [List.mem_singleton.mp hx]; exact okn) (by omega) (by rw [List.length_append,List.length_singleton]; omega) (by simp)
    refine ⟨tops',keys',row',tl,?_,by rw [List.length_cons,show t + (cs.length + 1)=t + 1 + cs.length by omega]; exact h2,h3,h4,h5,h6⟩
    rw [List.map_cons]
    refine forL_cons (ρ1:=[.fz cs0,.own (HD keys row),.own (TD tops),.fz (.int c),s4]) (mgN_nio (s:=s3) rfl n3) ?_ h1
    refine seq_nx (ρ1:=[.fz cs0,.own (HD keys row),.own (TD tops),.fz (.int c),.fz (.str (nameS keys.length))]) (asg_fz (call_pure (rs:=[(.int (keys.length:Int),.fz)]) (consI (lenR_is (.inr (.inl rfl))) nil_ev) (name_is keys.length) rfl) (set_nio (s:=s4) _ rfl n4)) ?_
    refine seq_nx (ρ1:=[.fz cs0,.own (HD (kput keys (nameS keys.length)) (rowSet row (nameS keys.length) ⟨v,none,false,[]⟩)),.own (TD tops),.fz (.int c),.fz (.str (nameS keys.length))]) (putD_ev (i:=1) (r:=⟨v,none,false,[]⟩) (tup_ev (rs:=[(.int v,.fz),(.none,.fz),(.bool false,.fz),(.tuple [],.fz)]) (consI (ie_call (rs:=[(.int c,.fz)]) rfl hv) (cons_fz (sv_fz rfl) (cons_fz (sv_fz rfl) (cons_fz (sv_fz (tup_ev (rs:=[]) rfl rfl (by simp))) nil_ev)))) rfl (by simp)) (var_fz rfl) rfl (.inl rfl) (by omega)) ?_
    exact drop_ev (mut_ev (rs:=[(.str (nameS keys.length),.fz)]) rfl rfl rfl rfl (app_ok _ (by rw [List.length_map]; omega)) (by rw [map_snoc]; rfl))
theorem begun_is (cs:List Int) (hl:cs.length≤60):∃ (tops keys:List Str) (row:Str->Pile.Row),d_law_begun [.list (cs.map .int)]=some (TD tops,HD keys row)∧Pw 0 tops keys row∧(keys≠[]->tops≠[]):=by
  have eq0:mOp gEq (mVar 0) (mLst mNil) [.fz (.list (cs.map .int)),.no,.no,.no,.no]=some ((.bool (decide (cs=[])),.fz),[.fz (.list (cs.map .int)),.no,.no,.no,.no]):=op_ev (r:=(.list [],.fz)) (res:=(.bool (decide (cs=[])),false)) (sv_fz (var_fz rfl)) (sv_new (lst_ev (rs:=[]) rfl rfl (by simp))) (gEq_ints cs [])
  have bt:∀ h:mOr (mTest (mOp gEq (mVar 0) (mLst mNil))) (mTest (mOp gNe (mOp gMod (mOp gIx (mVar 0) (mC (.int 0))) (mC (.int 7))) (mC (.int 6)))) [.fz (.list (cs.map .int)),.no,.no,.no,.no]=some (true,[.fz (.list (cs.map .int)),.no,.no,.no,.no]),∃ (tops keys:List Str) (row:Str->Pile.Row),d_law_begun [.list (cs.map .int)]=some (TD tops,HD keys row)∧Pw 0 tops keys row∧(keys≠[]->tops≠[]):=fun h=>by
    obtain ⟨tops,keys,row,h1,h2⟩:=built_is cs hl
    refine ⟨tops,keys,row,fnD_of rfl ?_,h2.pw,h2.ne⟩
    show mdIf _ _ _ [.fz (.list (cs.map .int)),.no,.no,.no,.no]=_
    unfold mdIf
    rw [h,Option.bind_some]; dsimp only
    rw [if_pos rfl]
    show (d_law_built [.list (cs.map .int),.int 0])=_
    exact h1
  cases cs with
  | nil=>exact bt (or_t (test_ev (k:=.fz) eq0))
  | cons c cs =>
    have i0:IE (mOp gIx (mVar 0) (mC (.int 0))) [.fz (.list ((c::cs).map .int)),.no,.no,.no,.no] c:=op_ev (r:=(.int 0,.fz)) (res:=(.int c,false)) (sv_fz (var_fz rfl)) (sv_fz rfl) (gIx_list _ _ _ (Mir.atI_zero _ _))
    have ne0:mTest (mOp gEq (mVar 0) (mLst mNil)) [.fz (.list ((c::cs).map .int)),.no,.no,.no,.no]=some (false,[.fz (.list ((c::cs).map .int)),.no,.no,.no,.no]):=test_ev (k:=.fz) (by rw [eq0]; rfl)
    by_cases h6:c % 7=6
    . obtain ⟨v,hv⟩:=key_is (c / 70)
      obtain ⟨m,em,hm⟩:∃ m:Nat,c / 7 % 10=(m:Int)∧m < 10:=mod_nat (c / 7) 10 (by omega)
      have gw0:Gw 0 [] (fun _=>(⟨0,none,false,[]⟩:Pile.Row)):=⟨by simp,(fun n hn=>by cases hn),(fun n hn=>by cases hn),(fun n hn=>by cases hn),(fun n hn=>by cases hn),by simp⟩
      have p9 : 2 ^ m≤2 ^ 9:=Nat.pow_le_pow_right (by omega) (by omega)
      obtain ⟨nm,keys1,row1,e1,g1,l1,o1,s1⟩:=grown_is 12 m (by omega) (by omega) 0 [] _ none false v gw0 (fun z hz=>by cases hz) (by simp; omega)
      obtain ⟨ds,e2,l2,_⟩:=cut_ints (c::cs) 1 12
      obtain ⟨tops',keys',row',tl,h1,h2,h3,h4,h5,h6'⟩:=begun_loop (.list ((c::cs).map .int)) ds 2 [nm] keys1 row1 .no .no NIo.no NIo.no g1 (fun x hx=>by rw [List.mem_singleton.mp hx]; exact o1) (by simp at l1; omega) (by simp; omega) (by simp)
      refine ⟨tops',keys',row',fnD_of rfl ?_,⟨h2.nd,h2.ok,h2.ln,h2.aok,fun n hn=>⟨by have:=(h2.bok n hn).1; omega,(h2.bok n hn).2⟩,Nat.le_trans h2.nt (by omega),h3,h5,h4⟩,fun _=>h6'⟩
      show mdIf _ _ _ [.fz (.list ((c::cs).map .int)),.no,.no,.no,.no]=_
      unfold mdIf
      rw [or_f ne0 (tstB (be_ne (ie_mod i0 ie_c (by decide)) ie_c) (by rw [h6])),Option.bind_some]; dsimp only
      rw [if_neg (by simp)]
      refine mdseq_nx (ρ1:=[.fz (.list ((c::cs).map .int)),.own (HD [] fun _=>⟨0,none,false,[]⟩),.no,.no,.no]) (asg_new rfl rfl) ?_
      have i1:IE (mOp gIx (mVar 0) (mC (.int 0))) [.fz (.list ((c::cs).map .int)),.own (HD [] fun _=>⟨0,none,false,[]⟩),.no,.no,.no] c:=op_ev (r:=(.int 0,.fz)) (res:=(.int c,false)) (sv_fz (var_fz rfl)) (sv_fz rfl) (gIx_list _ _ _ (Mir.atI_zero _ _))
      refine mdseq_nx (ρ1:=[.fz (.list ((c::cs).map .int)),.own (HD keys1 row1),.own (TD [nm]),.no,.no]) (asg_new (lst_ev (rs:=[(.str nm,.fz)]) (ρ1:=[.fz (.list ((c::cs).map .int)),.own (HD keys1 row1),.no,.no,.no]) (ρ2:=[.fz (.list ((c::cs).map .int)),.own (HD keys1 row1),.no,.no,.no]) (ds:=[.str nm]) (cons_fz (ρ1:=[.fz (.list ((c::cs).map .int)),.own (HD keys1 row1),.no,.no,.no]) (sv_fz (callI_ev (d0:=.none) (i:=1) (f:=m_law_grown 12) (d:=.str nm) (o:=false) (d1:=HD keys1 row1) (s:=.own (HD [] fun _=>⟨0,none,false,[]⟩)) (s':=.own (HD [] fun _=>⟨0,none,false,[]⟩)) (ds:=[.int (m:Int),.none,.bool false,.int v]) (ρ2:=[.fz (.list ((c::cs).map .int)),.own (HD [] fun _=>⟨0,none,false,[]⟩),.no,.no,.no]) (rs:=[(.int (m:Int),.fz),(.none,.fz),(.bool false,.fz),(.int v,.fz)]) rfl (consI ((ie_mod (ie_div i1 ie_c ⟨by decide,by decide⟩) ie_c (by decide)).is em) (cons_fz (sv_fz rfl) (cons_fz (sv_fz rfl) (consI (ie_call (rs:=[(.int (c / 70),.fz)]) (consI (ie_div i1 ie_c ⟨by decide,by decide⟩) nil_ev) hv) nil_ev)))) rfl rfl e1)) nil_ev) rfl (by simp)) rfl) ?_
      exact mdseq_nx (for_eq (ds:=ds.map .int) (ρ1:=[.fz (.list ((c::cs).map .int)),.own (HD keys1 row1),.own (TD [nm]),.no,.no]) (fol_ev (sv_new (show mSl gSl (mVar 0) (mPart (mC (.int 1))) (mPart (mC (.int 12))) [.fz (.list ((c::cs).map .int)),.own (HD keys1 row1),.own (TD [nm]),.no,.no]=some ((.list (ds.map .int),.new),_) from by rw [← e2]; rfl))) h1) rfl
    . exact bt (or_f ne0 (tstB (be_ne (ie_mod i0 ie_c (by decide)) ie_c) (by rw [decide_eq_false h6]; rfl)))
theorem ix_last (ds:List D) (d:D):gIx (.list (ds++[d])) (.int (-1))=some (d,false):=by
  show (L2.atI (ds++[d]) (-1)).map (fun d=>(d,false))=_
  rw [Mir.atI_last]; simp
theorem sl_is {ρ:Rho} {i:Nat} {ds:List D} {l u:Rho->Option (Option Int × Rho)} {lo hi:Option Int} (h:Is ρ i (.list ds)) (h1:l ρ=some (lo,ρ)) (h2:u ρ=some (hi,ρ)):mSl gSl (mVar i) l u ρ=some ((.list (cutD ds lo hi),.new),ρ):=by
  rcases h with h | h | h
  . unfold mSl; rw [sv_fz (var_fz h),Option.bind_some]; dsimp only; rw [h1,Option.bind_some]; dsimp only; rw [h2,Option.bind_some]; rfl
  . unfold mSl; rw [sv_at (var_own h),Option.bind_some]; dsimp only; rw [h1,Option.bind_some]; dsimp only; rw [h2,Option.bind_some]; simp only [refr,h,Option.bind_some]; rfl
  . unfold mSl; rw [sv_at (var_io h),Option.bind_some]; dsimp only; rw [h1,Option.bind_some]; dsimp only; rw [h2,Option.bind_some]; simp only [refr,h,Option.bind_some]; rfl
theorem cut_strs (l:List Str) (lo hi:Option Int):∃ m:List Str,cutD (l.map .str) lo hi=m.map .str∧m.length≤l.length∧∀ x∈m,x∈l:=by
  unfold cutD
  exact ⟨(l.drop (HT.sIx (l.map PyData.str).length 0 lo)).take (HT.sIx (l.map PyData.str).length (l.map PyData.str).length hi - HT.sIx (l.map PyData.str).length 0 lo),by rw [List.map_take,List.map_drop],by rw [List.length_take,List.length_drop]; omega,fun c hc=>List.mem_of_mem_drop (List.mem_of_mem_take hc)⟩
abbrev est (H:D) (name:Str) (way:Int) (other:Str) (key:Int) (ab:Option Str) (mk:Bool) (bl:List Str):Rho:=[.io H,.fz (.str name),.fz (.int way),.fz (.str other),.fz (.int key),.fz (aboveD ab),.fz (.bool mk),.own (TD bl)]
structure Prt (other name:Str) (ab0:Option Str) (bl0:List Str) (ab:Option Str) (bl:List Str) (k:Nat):Prop where
  ab:ab=ab0∨ab=some other∨ab=some name∨ab=none
  len:bl.length≤bl0.length + k
  mem:∀ x∈bl,x∈bl0∨x=other∨x=name
theorem entry_is {c:Nat} (hc:c≤3) {tops keys:List Str} {row:Str->Pile.Row} (h:Pw c tops keys row) {name other:Str} (hn:name∈keys) (ho:PyData.strOk other=true) (hol:other.length≤1000) (way:Int) :
    ∃ r:Pile.Row,m_law_entry_spoiled [HD keys row,.str name,.int way,.str other]=some ((.none,false),HD keys (rowSet row name r))∧(r.above=(row name).above∨r.above=some other∨r.above=some name∨r.above=none)∧r.below.length≤(row name).below.length + 3∧∀ x∈r.below,x∈(row name).below∨x=other∨x=name:=by
  have hbl:=(h.bok name hn).1
  have hkl:=h.kl
  generalize eK:(row name).key=K0
  generalize eA:(row name).above=A0 at *
  generalize eM:(row name).mark=M0
  generalize eB:(row name).below=B0 at *
  have er:row name=⟨K0,A0,M0,B0⟩:=by rw [← eK,← eA,← eM,← eB]
  have sW:∀ (key:Int) (ab:Option Str) (mk:Bool) (bl:List Str),IE (mVar 2) (est (HD keys row) name way other key ab mk bl) way:=fun _ _ _ _=>ie_var rfl
  have s0:∀ (ab:Option Str) (mk:Bool) (bl:List Str),∃ key',mIfS (mTest (mOp gEq (mVar 2) (mC (.int 0)))) (mAsg 4 (mOp gIx (mLst (mCons (mUn gNeg (mVar 4)) (mCons (mOp gDiv (mVar 4) (mC (.int 2))) (mCons (mOp gAdd (mUn gNeg (mOp gPow (mC (.int 10)) (mC (.int 60)))) (mC (.int 1))) (mCons (mOp gSub (mOp gPow (mC (.int 10)) (mC (.int 60))) (mC (.int 1))) mNil))))) (mOp gMod (mOp gAdd (mCB gLen (mCons (mVar 3) mNil)) (mVar 4)) (mC (.int 4))))) mPass (est (HD keys row) name way other K0 ab mk bl)=some (.nx (est (HD keys row) name way other key' ab mk bl)):=fun ab mk bl=>by
    by_cases e:way=0
    . obtain ⟨j,ej,hj⟩:∃ j:Nat,((other.length:Int) + K0) % 4=(j:Int)∧j < 4:=mod_nat _ 4 (by omega)
      have ep:IE (mOp gPow (mC (.int 10)) (mC (.int 60))) (est (HD keys row) name way other K0 ab mk bl) ((10:Int) ^ (60:Int).toNat):=ie_pow ie_c ie_c ⟨by decide,by decide,by decide⟩
      have el:IE (mCB gLen (mCons (mVar 3) mNil)) (est (HD keys row) name way other K0 ab mk bl) (other.length:Int):=cb_ev (rs:=[(.str other,.fz)]) (res:=(.int (other.length:Int),false)) (cons_fz (sv_fz (var_fz rfl)) nil_ev) (by show cIf _ _ _=_; rw [cIf_pos (sz_le (by omega))])
      have ex:∃ key',gIx (.list [.int (-K0),.int (K0 / 2),.int (-((10:Int) ^ (60:Int).toNat) + 1),.int ((10:Int) ^ (60:Int).toNat - 1)]) (.int (j:Int))=some (.int key',false):=by
        generalize (10:Int) ^ (60:Int).toNat=P
        have:j=0∨j=1∨j=2∨j=3:=by omega
        rcases this with rfl | rfl | rfl | rfl
        . exact ⟨-K0,rfl⟩
        . exact ⟨K0 / 2,rfl⟩
        . exact ⟨-P + 1,rfl⟩
        . exact ⟨P - 1,rfl⟩
      obtain ⟨key',ex⟩:=ex
      refine ⟨key',if_t (tEq (sW _ _ _ _) ie_c e) (asg_fz (op_ev (r:=(.int (j:Int),.fz)) (res:=(.int key',false)) (sv_new (lst_ev (rs:=[(.int (-K0),.fz),(.int (K0 / 2),.fz),(.int (-((10:Int) ^ (60:Int).toNat) + 1),.fz),(.int ((10:Int) ^ (60:Int).toNat - 1),.fz)]) (consI (ie_neg (ie_var rfl)) (consI (ie_div (ie_var rfl) ie_c ⟨by decide,by decide⟩) (consI (ie_add (ie_neg ep) ie_c) (consI (ie_sub ep ie_c) nil_ev)))) rfl (by simp))) (sv_fz ((ie_mod (ie_add el (ie_var rfl)) ie_c (by decide)).is ej)) ex) rfl)⟩
    . exact ⟨K0,if_f (tNe (sW _ _ _ _) ie_c e) rfl⟩
  have s1:∀ (key:Int) (mk:Bool) (bl:List Str),∃ ab',mIfS (mTest (mOp gEq (mVar 2) (mC (.int 1)))) (mAsg 5 (mVar 3)) mPass (est (HD keys row) name way other key A0 mk bl)=some (.nx (est (HD keys row) name way other key ab' mk bl))∧(ab'=A0∨ab'=some other):=fun key mk bl=>by
    by_cases e:way=1
    . exact ⟨some other,if_t (tEq (sW _ _ _ _) ie_c e) (asg_fz (var_fz rfl) rfl),.inr rfl⟩
    . exact ⟨A0,if_f (tNe (sW _ _ _ _) ie_c e) rfl,.inl rfl⟩
  have s2:∀ (key:Int) (ab:Option Str) (bl:List Str),∃ mk',mIfS (mTest (mOp gEq (mVar 2) (mC (.int 2)))) (mAsg 6 (mNotV (mVar 6))) mPass (est (HD keys row) name way other key ab M0 bl)=some (.nx (est (HD keys row) name way other key ab mk' bl)):=fun key ab bl=>by
    by_cases e:way=2
    . exact ⟨!M0,if_t (tEq (sW _ _ _ _) ie_c e) (asg_fz (be_not (var_fz rfl)) rfl)⟩
    . exact ⟨M0,if_f (tNe (sW _ _ _ _) ie_c e) rfl⟩
  have s3:∀ (key:Int) (ab:Option Str) (mk:Bool),∃ bl',mIfS (mAnd (mTest (mOp gEq (mVar 2) (mC (.int 3)))) (mTest (mOp gGt (mCB gLen (mCons (mVar 7) mNil)) (mC (.int 1))))) (mAsg 7 (mOp gAdd (mOp gAdd (mLst (mCons (mOp gIx (mVar 7) (mUn gNeg (mC (.int 1)))) mNil)) (mSl gSl (mVar 7) (mPart (mC (.int 1))) (mPart (mUn gNeg (mC (.int 1)))))) (mLst (mCons (mOp gIx (mVar 7) (mC (.int 0))) mNil)))) mPass (est (HD keys row) name way other key ab mk B0)=some (.nx (est (HD keys row) name way other key ab mk bl'))∧(way≠3->bl'=B0)∧bl'.length≤B0.length + 2∧∀ x∈bl',x∈B0:=fun key ab mk=>by
    have el:IE (mCB gLen (mCons (mVar 7) mNil)) (est (HD keys row) name way other key ab mk B0) (B0.length:Int):=tlen_is (.inr (.inl rfl))
    by_cases e:way=3
    . by_cases e2 : 1 < B0.length
      . obtain ⟨m,em,hm,hmm⟩:=cut_strs B0 (some 1) (some (-1))
        obtain ⟨y,ys,rfl⟩:∃ y ys,B0=y::ys:=by cases B0 with | nil=>simp at e2 | cons y ys=>exact ⟨y,ys,rfl⟩
        obtain ⟨bs,l0,hB⟩:∃ bs l0,y::ys=bs++[l0]:=⟨(y::ys).dropLast,(y::ys).getLast (by simp),(List.dropLast_concat_getLast (by simp)).symm⟩
        have lm:l0∈y::ys:=by rw [hB]; simp
        refine ⟨([l0]++m)++[y],if_t (and_t (tEq (sW _ _ _ _) ie_c e) (tstB (be_gt el ie_c) (decide_eq_true (by omega)))) (asg_new (d:=TD (([l0]++m)++[y])) (ρ1:=est (HD keys row) name way other key ab mk (y::ys)) ?_ rfl),fun z=>absurd e z,by simp at hm ⊢; omega,fun x hx=>?_⟩
        . have i1:mOp gIx (mVar 7) (mUn gNeg (mC (.int 1))) (est (HD keys row) name way other key ab mk (y::ys))=some ((.str l0,.fz),est (HD keys row) name way other key ab mk (y::ys)):=op_is (r:=(.int (-1),.fz)) (res:=(.str l0,false)) (.inr (.inl rfl)) (sv_fz (ie_neg ie_c)) (by
            show gIx (TD (y::ys)) (.int (-1))=_
            rw [hB]
            show gIx (.list ((bs++[l0]).map .str)) (.int (-1))=_
            rw [List.map_append]
            exact ix_last _ _)
          have i2:mOp gIx (mVar 7) (mC (.int 0)) (est (HD keys row) name way other key ab mk (y::ys))=some ((.str y,.fz),est (HD keys row) name way other key ab mk (y::ys)):=op_is (r:=(.int 0,.fz)) (res:=(.str y,false)) (.inr (.inl rfl)) (sv_fz rfl) (gIx_list _ _ _ (Mir.atI_zero _ _))
          have i3:=sl_is (ρ:=est (HD keys row) name way other key ab mk (y::ys)) (i:=7) (l:=mPart (mC (.int 1))) (u:=mPart (mUn gNeg (mC (.int 1)))) (lo:=some 1) (hi:=some (-1)) (.inr (.inl rfl)) rfl rfl
          rw [em] at i3
          refine op_ev (r:=(TD [y],.fz)) (res:=(TD (([l0]++m)++[y]),true)) (sv_new (op_ev (r:=(TD m,.fz)) (res:=(TD ([l0]++m),true)) (sv_new (lst_ev (rs:=[(.str l0,.fz)]) (cons_fz (sv_fz i1) nil_ev) rfl (by simp))) (sv_new i3) ?_)) (sv_new (lst_ev (rs:=[(.str y,.fz)]) (cons_fz (sv_fz i2) nil_ev) rfl (by simp))) ?_
          . rw [gAdd_list _ _ (by simp; omega)]; simp
          . rw [gAdd_list _ _ (by simp; omega)]; simp
        . rcases List.mem_append.mp hx with hx | hx
          . rcases List.mem_append.mp hx with hx | hx
            . rw [List.mem_singleton.mp hx]; exact lm
            . exact hmm x hx
          . rw [List.mem_singleton.mp hx]; exact List.mem_cons_self
      . exact ⟨B0,if_f (and_t (tEq (sW _ _ _ _) ie_c e) (tstB (be_gt el ie_c) (decide_eq_false (by omega)))) rfl,fun _=>rfl,by omega,fun x hx=>hx⟩
    . exact ⟨B0,if_f (and_f (tNe (sW _ _ _ _) ie_c e)) rfl,fun _=>rfl,by omega,fun x hx=>hx⟩
  have s4:∀ (key:Int) (ab:Option Str) (mk:Bool) (bl:List Str),∃ bl',mIfS (mTest (mOp gEq (mVar 2) (mC (.int 4)))) (mAsg 7 (mSl gSl (mVar 7) (mPart (mC (.int 1))) mNoPart)) mPass (est (HD keys row) name way other key ab mk bl)=some (.nx (est (HD keys row) name way other key ab mk bl'))∧bl'.length≤bl.length∧∀ x∈bl',x∈bl:=fun key ab mk bl=>by
    by_cases e:way=4
    . obtain ⟨m,em,hm,hmm⟩:=cut_strs bl (some 1) none
      have i3:=sl_is (ρ:=est (HD keys row) name way other key ab mk bl) (i:=7) (l:=mPart (mC (.int 1))) (u:=mNoPart) (lo:=some 1) (hi:=none) (.inr (.inl rfl)) rfl rfl
      rw [em] at i3
      exact ⟨m,if_t (tEq (sW _ _ _ _) ie_c e) (asg_new i3 rfl),hm,hmm⟩
    . exact ⟨bl,if_f (tNe (sW _ _ _ _) ie_c e) rfl,Nat.le_refl _,fun x hx=>hx⟩
  have s5:∀ (key:Int) (ab:Option Str) (mk:Bool) (bl:List Str),bl.length≤1000->way≠3∨True->∃ bl',mIfS (mTest (mOp gEq (mVar 2) (mC (.int 5)))) (mAsg 7 (mOp gAdd (mOp gAdd (mVar 7) (mSl gSl (mVar 7) mNoPart (mPart (mC (.int 1))))) (mLst (mCons (mVar 3) mNil)))) mPass (est (HD keys row) name way other key ab mk bl)=some (.nx (est (HD keys row) name way other key ab mk bl'))∧(way≠5->bl'=bl)∧bl'.length≤bl.length + 2∧∀ x∈bl',x∈bl∨x=other:=fun key ab mk bl hl _=>by
    by_cases e:way=5
    . have cx:∃ m:List Str,cutD (bl.map .str) none (some 1)=m.map .str∧m.length≤1∧∀ x∈m,x∈bl:=by
        unfold cutD
        refine ⟨(bl.drop (HT.sIx (bl.map PyData.str).length 0 none)).take (HT.sIx (bl.map PyData.str).length (bl.map PyData.str).length (some 1) - HT.sIx (bl.map PyData.str).length 0 none),by rw [List.map_take,List.map_drop],?_,fun c hc=>List.mem_of_mem_drop (List.mem_of_mem_take hc)⟩
        rw [List.length_take]
        simp only [HT.sIx]
        rw [if_neg (by omega)]
        simp
        omega
      obtain ⟨m,em,hm,hmm⟩:=cx
      have i3:=sl_is (ρ:=est (HD keys row) name way other key ab mk bl) (i:=7) (l:=mNoPart) (u:=mPart (mC (.int 1))) (lo:=none) (hi:=some 1) (.inr (.inl rfl)) rfl rfl
      rw [em] at i3
      refine ⟨(bl++m)++[other],if_t (tEq (sW _ _ _ _) ie_c e) (asg_new (d:=TD ((bl++m)++[other])) (ρ1:=est (HD keys row) name way other key ab mk bl) ?_ rfl),fun z=>absurd e z,by simp; omega,fun x hx=>?_⟩
      . refine op_ev (r:=(TD [other],.fz)) (res:=(TD ((bl++m)++[other]),true)) (sv_new (op_is (i:=7) (x:=TD bl) (r:=(TD m,.fz)) (res:=(TD (bl++m),true)) (.inr (.inl rfl)) (sv_new i3) ?_)) (sv_new (lst_ev (rs:=[(.str other,.fz)]) rfl rfl (by simp))) ?_
        . rw [gAdd_list _ _ (by simp; omega)]; simp
        . rw [gAdd_list _ _ (by simp; omega)]; simp
      . rcases List.mem_append.mp hx with hx | hx
        . rcases List.mem_append.mp hx with hx | hx
          . exact .inl hx
          . exact .inl (hmm x hx)
        . exact .inr (List.mem_singleton.mp hx)
    . exact ⟨bl,if_f (tNe (sW _ _ _ _) ie_c e) rfl,fun _=>rfl,by omega,fun x hx=>.inl hx⟩
  have s6:∀ (key:Int) (ab:Option Str) (mk:Bool) (bl:List Str),bl.length≤1000->∃ ab' bl',mIfS (mTest (mOp gEq (mVar 2) (mC (.int 6)))) (mSeq (mAsg 5 (mVar 1)) (mDrop (mMut 7 fAppend (mCons (mVar 1) mNil)))) mPass (est (HD keys row) name way other key ab mk bl)=some (.nx (est (HD keys row) name way other key ab' mk bl'))∧(ab'=ab∨ab'=some name)∧(way≠6->bl'=bl)∧bl'.length≤bl.length + 1∧∀ x∈bl',x∈bl∨x=name:=fun key ab mk bl hl=>by
    by_cases e:way=6
    . refine ⟨some name,bl++[name],if_t (tEq (sW _ _ _ _) ie_c e) (seq_nx (ρ1:=est (HD keys row) name way other key (some name) mk bl) (asg_fz (var_fz rfl) rfl) (drop_ev (mut_ev (rs:=[(.str name,.fz)]) rfl rfl rfl rfl (app_ok _ (by rw [List.length_map]; omega)) (by rw [map_snoc]; rfl)))),.inr rfl,fun z=>absurd e z,by simp,fun x hx=>?_⟩
      rcases List.mem_append.mp hx with hx | hx
      . exact .inl hx
      . exact .inr (List.mem_singleton.mp hx)
    . exact ⟨ab,bl,if_f (tNe (sW _ _ _ _) ie_c e) rfl,.inl rfl,fun _=>rfl,by omega,fun x hx=>.inl hx⟩
  have s7:∀ (key:Int) (ab:Option Str) (mk:Bool) (bl:List Str),∃ ab',mIfS (mTest (mOp gEq (mVar 2) (mC (.int 7)))) (mAsg 5 (mC .none)) mPass (est (HD keys row) name way other key ab mk bl)=some (.nx (est (HD keys row) name way other key ab' mk bl))∧(ab'=ab∨ab'=none):=fun key ab mk bl=>by
    by_cases e:way=7
    . exact ⟨none,if_t (tEq (sW _ _ _ _) ie_c e) (asg_fz rfl rfl),.inr rfl⟩
    . exact ⟨ab,if_f (tNe (sW _ _ _ _) ie_c e) rfl,.inl rfl⟩
  obtain ⟨key1,f0⟩:=s0 A0 M0 B0
  obtain ⟨ab1,f1,a1⟩:=s1 key1 M0 B0
  obtain ⟨mk1,f2⟩:=s2 key1 ab1 B0
  obtain ⟨bl3,f3,q3,l3,m3⟩:=s3 key1 ab1 mk1
  obtain ⟨bl4,f4,l4,m4⟩:=s4 key1 ab1 mk1 bl3
  obtain ⟨bl5,f5,q5,l5,m5⟩:=s5 key1 ab1 mk1 bl4 (by omega) (.inr trivial)
  obtain ⟨ab6,bl6,f6,a6,q6,l6,m6⟩:=s6 key1 ab1 mk1 bl5 (by omega)
  obtain ⟨ab7,f7,a7⟩:=s7 key1 ab6 mk1 bl6
  refine ⟨⟨key1,ab7,mk1,bl6⟩,?_,?_,?_,fun x hx=>?_⟩
  . refine fnI_of (o:=.nx (est (HD keys (rowSet row name ⟨key1,ab7,mk1,bl6⟩)) name way other key1 ab7 mk1 bl6)) rfl ?_ rfl rfl
    refine seq_nx (ρ1:=[.io (HD keys row),.fz (.str name),.fz (.int way),.fz (.str other),.fz (.int K0),.fz (aboveD A0),.fz (.bool M0),.fz (.tuple (B0.map .str))]) (asgG_ev (row_is (.inr (.inr rfl)) hn (var_fz rfl)) (by rw [er]; rfl)) ?_
    refine seq_nx (ρ1:=est (HD keys row) name way other K0 A0 M0 B0) (asg_new (cb_ev (rs:=[(.tuple (B0.map .str),.fz)]) (res:=(TD B0,true)) (cons_fz (sv_fz (var_fz rfl)) nil_ev) rfl) rfl) ?_
    refine seq_nx f0 (seq_nx f1 (seq_nx f2 (seq_nx f3 (seq_nx f4 (seq_nx f5 (seq_nx f6 (seq_nx f7 ?_)))))))
    exact (putD_ev (i:=0) (r:=⟨key1,ab7,mk1,bl6⟩) (tup_ev (rs:=[(.int key1,.fz),(aboveD ab7,.fz),(.bool mk1,.fz),(.tuple (bl6.map .str),.fz)]) (cons_fz (sv_fz (var_fz rfl)) (cons_fz (sv_fz (var_fz rfl)) (cons_fz (sv_fz (var_fz rfl)) (cons_fz (sv_fz (cb_is (i:=7) (x:=TD bl6) (res:=(.tuple (bl6.map .str),true)) (.inr (.inl rfl)) rfl)) nil_ev)))) rfl (by simp)) (var_fz rfl) rfl (.inr rfl) (by omega)).trans (by rw [kput_in hn]; rfl)
  . show ab7=A0∨ab7=some other∨ab7=some name∨ab7=none
    rcases a7 with rfl | rfl
    . rcases a6 with rfl | rfl
      . rcases a1 with rfl | rfl
        . exact .inl rfl
        . exact .inr (.inl rfl)
      . exact .inr (.inr (.inl rfl))
    . exact .inr (.inr (.inr rfl))
  . show bl6.length≤B0.length + 3
    by_cases w5:way=5
    . rw [q6 (by omega)]
      have:bl3.length≤B0.length:=by rw [q3 (by omega)]; exact Nat.le_refl _
      omega
    . have:=q5 w5
      rw [this] at l6
      omega
  . rcases m6 x hx with hx | rfl
    . rcases m5 x hx with hx | rfl
      . exact .inl (m3 x (m4 x hx))
      . exact .inr (.inl rfl)
    . exact .inr (.inr rfl)
def QQ:Str:="qq"
def AA:Str:="aa"
theorem ins_strs (tops:List Str) (i:Nat) (x:Str):∃ tops':List Str,insD (tops.map .str) (i:Int) (.str x)=tops'.map .str∧tops'.length=tops.length + 1∧∀ y∈tops',y∈tops∨y=x:=by
  unfold insD
  refine ⟨tops.take (min i tops.length)++x::tops.drop (min i tops.length),?_,?_,fun y hy=>?_⟩
  . rw [if_neg (by omega),Int.toNat_natCast,List.length_map,List.map_append,List.map_take,List.map_cons,List.map_drop]
  . rw [List.length_append,List.length_cons,List.length_take,List.length_drop]; omega
  . rcases List.mem_append.mp hy with hy | hy
    . exact .inl (List.mem_of_mem_take hy)
    . rcases List.mem_cons.mp hy with rfl | hy
      . exact .inr rfl
      . exact .inl (List.mem_of_mem_drop hy)
theorem popAt_ok (tops:List Str) (i:Nat) (hi:i < tops.length) (hl:tops.length≤1000):∃ d,fPopAt (tops.map .str) [.int (i:Int)]=some ((tops.eraseIdx i).map .str,d):=by
  refine ⟨.str tops[i],?_⟩
  show cIf _ _ _=_
  rw [cIf_pos ⟨by omega,by omega⟩]
  have:seqIndex? (i:Int) (tops.map PyData.str).length=some i:=by
    unfold seqIndex?
    rw [List.length_map]
    simp
    rw [if_neg (by omega)]
    omega
  rw [this,Option.bind_some,List.getElem?_map,List.getElem?_eq_getElem hi]
  show some ((tops.map PyData.str).eraseIdx i,PyData.str tops[i])=_
  rw [map_er]
theorem plus_qq {ρ:Rho} {i:Nat} {keys:List Str} (h:Is ρ i (TD keys)) (hl:keys.length≤1000):mOp gAdd (mVar i) (mLst (mCons (mC (.str "qq")) mNil)) ρ=some ((TD (keys++[QQ]),.new),ρ):=op_is (r:=(.list [.str "qq"],.fz)) (res:=(TD (keys++[QQ]),true)) h (sv_new (lst_ev (rs:=[(.str "qq",.fz)]) rfl rfl (by simp))) (by rw [gAdd_list _ _ (by simp; omega),map_snoc]; rfl)
theorem pick_qq {ρ:Rho} {i:Nat} {keys:List Str} (h:Is ρ i (TD keys)) (hl:keys.length≤1000) {a:PM} {v:Int} (ha:IE a ρ v):∃ n∈keys++[QQ],mOp gIx (mOp gAdd (mVar i) (mLst (mCons (mC (.str "qq")) mNil))) (mOp gMod a (mOp gAdd (mCB gLen (mCons (mVar i) mNil)) (mC (.int 1)))) ρ=some ((.str n,.fz),ρ):=by
  obtain ⟨k,e,hk⟩:=mod_nat v (keys++[QQ]).length (by simp)
  exact ⟨(keys++[QQ])[k],List.getElem_mem hk,op_ev (r:=(.int (k:Int),.fz)) (res:=(.str (keys++[QQ])[k],false)) (sv_new (plus_qq h hl)) (sv_fz ((ie_mod ha ((ie_add (tlen_is h) ie_c).is (j:=((keys++[QQ]).length:Int)) (by simp)) (by simp)).is e)) (ix_is (List.getElem?_eq_getElem hk))⟩
theorem Pw.more {c:Nat} {tops keys:List Str} {row:Str->Pile.Row} (h:Pw c tops keys row) {tops':List Str} (h1:tops'.length≤tops.length + 1) (h2:∀ t∈tops',PyData.strOk t=true):Pw (c + 1) tops' keys row :=
  ⟨h.nd,h.ok,h.ln,h.aok,fun n hn=>⟨by have:=(h.bok n hn).1; omega,(h.bok n hn).2⟩,by have:=h.nt; omega,h2,by have:=h.tl; omega,h.kl⟩
theorem spoiled_is {c:Nat} (hc:c≤3) {tops keys:List Str} {row:Str->Pile.Row} (h:Pw c tops keys row) (hne:keys≠[]->tops≠[]) (cell:Int):∃ (tops':List Str) (row':Str->Pile.Row),m_law_spoiled [TD tops,HD keys row,.int cell]=some ((.none,false),TD tops',HD keys row')∧Pw (c + 1) tops' keys row':=by
  have hkl:=h.kl
  have htl:=h.tl
  let ρ:Rho:=[.io (TD tops),.io (HD keys row),.fz (.int cell),.own (TD keys),.fz (.int (cell % 10)),.no]
  have em:∀ {s:Sl},IE (mVar 4) [.io (TD tops),.io (HD keys row),.fz (.int cell),.own (TD keys),.fz (.int (cell % 10)),s] (cell % 10):=fun {s}=>ie_var rfl
  have hd:∀ (u:SM) (o:Option Out),u ρ=o->mSeq (mAsg 3 (mCB gListK (mCons (mVar 1) mNil))) (mSeq (mAsg 4 (mOp gMod (mVar 2) (mC (.int 10)))) u) [.io (TD tops),.io (HD keys row),.fz (.int cell),.no,.no,.no]=o:=fun u o ho=>by
    refine seq_nx (ρ1:=[.io (TD tops),.io (HD keys row),.fz (.int cell),.own (TD keys),.no,.no]) (asg_new (listK_is (.inr (.inr rfl))) rfl) ?_
    exact seq_nx (ρ1:=ρ) (asg_fz (ie_mod (ie_var rfl) ie_c (by decide)) rfl) ho
  have e0:mOp gEq (mVar 3) (mLst mNil) ρ=some ((.bool keys.isEmpty,.fz),ρ):=op_is (r:=(.list [],.fz)) (res:=(.bool keys.isEmpty,false)) (.inr (.inl rfl)) (sv_new (lst_ev (rs:=[]) rfl rfl (by simp))) (gEq_TD0 h.ok)
  have oq:∀ n∈keys++[QQ],PyData.strOk n=true∧n.length≤1000:=fun n hn=>by
    rcases List.mem_append.mp hn with hn | hn
    . exact ⟨h.ok n hn,Nat.le_trans (h.ln n hn) (by omega)⟩
    . rw [List.mem_singleton.mp hn]; exact ⟨by decide +kernel,by decide⟩
  by_cases k0:keys=[]
  . refine ⟨tops++[AA],row,fnJ_of (o:=.nx [.io (TD (tops++[AA])),.io (HD keys row),.fz (.int cell),.own (TD keys),.fz (.int (cell % 10)),.no]) rfl (hd _ _ (if_t (test_ev (k:=.fz) (by rw [e0,k0]; rfl)) (drop_ev (mut_ev (rs:=[(.str "aa",.fz)]) rfl rfl rfl rfl (app_ok _ (by rw [List.length_map]; omega)) (by rw [map_snoc]; rfl))))) rfl rfl,h.more (by simp) fun t ht=>?_⟩
    rcases List.mem_append.mp ht with ht | ht
    . exact h.tok t ht
    . rw [List.mem_singleton.mp ht]; decide +kernel
  . have t0:mTest (mOp gEq (mVar 3) (mLst mNil)) ρ=some (false,ρ):=test_ev (k:=.fz) (by rw [e0,show keys.isEmpty=false by simpa using k0])
    have kpos : 0 < keys.length:=List.length_pos_iff.mpr k0
    have tpos : 0 < tops.length:=List.length_pos_iff.mpr (hne k0)
    by_cases w8:cell % 10=8
    . obtain ⟨i,ei,hi⟩:=mod_nat (cell / 10) (tops.length + 1) (by omega)
      obtain ⟨n,hn,en⟩:=pick_qq (ρ:=ρ) (i:=3) (keys:=keys) (.inr (.inl rfl)) (by omega) (a:=mOp gDiv (mVar 2) (mC (.int 70))) (ie_div (ie_var rfl) ie_c ⟨by decide,by decide⟩)
      obtain ⟨tops',e1,e2,e3⟩:=ins_strs tops i n
      have ea:IE (mOp gMod (mOp gDiv (mVar 2) (mC (.int 10))) (mOp gAdd (mCB gLen (mCons (mVar 0) mNil)) (mC (.int 1)))) ρ (i:Int):=(ie_mod (ie_div (ie_var rfl) ie_c ⟨by decide,by decide⟩) (ie_add (tlen_is (i:=0) (l:=tops) (.inr (.inr rfl))) ie_c) (by omega)).is (by rw [← ei]; rfl)
      refine ⟨tops',row,fnJ_of (o:=.nx [.io (TD tops'),.io (HD keys row),.fz (.int cell),.own (TD keys),.fz (.int (cell % 10)),.no]) rfl (hd _ _ (if_f t0 (if_t (tEq em ie_c w8) (drop_ev (mut_ev (rs:=[(.int (i:Int),.fz),(.str n,.fz)]) (w:=(tops'.map .str,.none)) rfl (consI ea (cons_fz (sv_fz en) nil_ev)) rfl rfl ?_ rfl))))) rfl rfl,h.more (by omega) fun t ht=>?_⟩
      . show cIf _ _ _=_
        rw [cIf_pos ⟨by omega,by omega,sz_lt (by rw [List.length_map]; omega)⟩,e1]
      . rcases e3 t ht with ht | rfl
        . exact h.tok t ht
        . exact (oq t hn).1
    . by_cases w9:cell % 10=9
      . obtain ⟨i,ei,hi⟩:=mod_nat (cell / 10) tops.length tpos
        obtain ⟨d,e1⟩:=popAt_ok tops i hi (by omega)
        have ea:IE (mOp gMod (mOp gDiv (mVar 2) (mC (.int 10))) (mCB gLen (mCons (mVar 0) mNil))) ρ (i:Int):=(ie_mod (ie_div (ie_var rfl) ie_c ⟨by decide,by decide⟩) (tlen_is (i:=0) (l:=tops) (.inr (.inr rfl))) (by omega)).is ei
        exact ⟨tops.eraseIdx i,row,fnJ_of (o:=.nx [.io (TD (tops.eraseIdx i)),.io (HD keys row),.fz (.int cell),.own (TD keys),.fz (.int (cell % 10)),.no]) rfl (hd _ _ (if_f t0 (if_f (tNe em ie_c w8) (if_t (tEq em ie_c w9) (drop_ev (mut_ev (rs:=[(.int (i:Int),.fz)]) rfl (consI ea nil_ev) rfl rfl e1 rfl)))))) rfl rfl,h.more (by have:=List.length_eraseIdx_le tops i; omega) fun t ht=>h.tok t (List.mem_of_mem_eraseIdx ht)⟩
      . obtain ⟨n,hn,en⟩:=pick_qq (ρ:=ρ) (i:=3) (keys:=keys) (.inr (.inl rfl)) (by omega) (a:=mOp gDiv (mVar 2) (mC (.int 700))) (ie_div (ie_var rfl) ie_c ⟨by decide,by decide⟩)
        obtain ⟨nm,hnm,enm⟩:=pick_is (ρ:=[.io (TD tops),.io (HD keys row),.fz (.int cell),.own (TD keys),.fz (.int (cell % 10)),.fz (.str n)]) (i:=3) (l:=keys) (.inr (.inl rfl)) kpos (a:=mOp gDiv (mVar 2) (mC (.int 10))) (ie_div (ie_var rfl) ie_c ⟨by decide,by decide⟩)
        obtain ⟨r,er,ra,rl,rm⟩:=entry_is hc h hnm (oq n hn).1 (oq n hn).2 (cell % 10)
        refine ⟨tops,rowSet row nm r,fnJ_of (o:=.nx [.io (TD tops),.io (HD keys (rowSet row nm r)),.fz (.int cell),.own (TD keys),.fz (.int (cell % 10)),.fz (.str n)]) rfl (hd _ _ (if_f t0 (if_f (tNe em ie_c w8) (if_f (tNe em ie_c w9) (seq_nx (ρ1:=[.io (TD tops),.io (HD keys row),.fz (.int cell),.own (TD keys),.fz (.int (cell % 10)),.fz (.str n)]) (asg_fz en rfl) (drop_ev (callI_ev (d0:=.none) (i:=1) (f:=m_law_entry_spoiled) (d:=.none) (o:=false) (d1:=HD keys (rowSet row nm r)) (s:=.io (HD keys row)) (s':=.io (HD keys row)) (ds:=[.str nm,.int (cell % 10),.str n]) (rs:=[(.str nm,.fz),(.int (cell % 10),.fz),(.str n,.fz)]) rfl (cons_fz (sv_fz enm) (consI em (cons_fz (sv_fz (var_fz rfl)) nil_ev))) rfl rfl er))))))) rfl rfl,h.nd,h.ok,h.ln,fun m hm a ha=>?_,fun m hm=>?_,?_,h.tok,by omega,h.kl⟩
        . by_cases e:m=nm
          . subst e
            rw [rowSet_at] at ha
            rcases ra with q | q | q | q
            . exact h.aok m hm a (by rw [← q]; exact ha)
            . rw [q] at ha; cases ha; exact (oq _ hn).1
            . rw [q] at ha; cases ha; exact h.ok _ hm
            . rw [q] at ha; cases ha
          . rw [rowSet_ne _ _ e] at ha; exact h.aok m hm a ha
        . have hb:=h.bok m hm
          by_cases e:m=nm
          . subst e
            rw [rowSet_at]
            refine ⟨by omega,fun b hb'=>?_⟩
            rcases rm b hb' with q | rfl | rfl
            . exact hb.2 b q
            . exact (oq _ hn).1
            . exact h.ok _ hm
          . rw [rowSet_ne _ _ e]; exact ⟨by omega,hb.2⟩
        . have f:=filt_set row nm r keys h.nd
          have:=h.nt
          split at f <;> omega
theorem eqv_str (x y:Str):PyData.eqv (.str x) (.str y)=decide (x=y):=by
  simp only [PyData.eqv]
  by_cases e:x=y
  . subst e; simp
  . simp [e]
theorem flat_strs (l:List Str):(l.map PyData.str).all flatD=true:=by
  rw [List.all_eq_true]
  intro d hd
  obtain ⟨x,_,rfl⟩:=List.mem_map.mp hd
  rfl
theorem inD_strs (x:Str) (l:List Str):inD (.str x) (l.map .str)=decide (x∈l):=by
  unfold inD
  rw [List.any_map]
  induction l with
  | nil=>simp
  | cons y l ih =>
    rw [List.any_cons,ih]
    show (PyData.eqv (.str y) (.str x) || _)=_
    rw [eqv_str]
    by_cases e:y=x
    . subst e; simp
    . have e2 : ¬ x=y:=fun z=>e z.symm
      simp [e,e2]
theorem count_strs (x:Str) (l:List Str):(l.map PyData.str).countP (fun c=>PyData.eqv c (.str x))=l.count x:=by
  rw [List.countP_map,List.count]
  refine List.countP_congr fun y _=>?_
  show PyData.eqv (.str y) (.str x)=true↔(y == x)=true
  rw [eqv_str]; simp
theorem notInT_tup (x:Str) (l:List Str):gNotInT (.str x) (.tuple (l.map .str))=some (.bool (!decide (x∈l)),false):=by
  show (if flatD (.str x)=true∧(l.map PyData.str).all flatD=true then _ else none)=_
  rw [if_pos ⟨rfl,flat_strs l⟩,inD_strs]
theorem inT_tup (x:Str) (l:List Str):gInT (.str x) (.tuple (l.map .str))=some (.bool (decide (x∈l)),false):=by
  show (if flatD (.str x)=true∧(l.map PyData.str).all flatD=true then _ else none)=_
  rw [if_pos ⟨rfl,flat_strs l⟩,inD_strs]
theorem notInT_lst (x:Str) (l:List Str):gNotInT (.str x) (TD l)=some (.bool (!decide (x∈l)),false):=by
  show (if flatD (.str x)=true∧(l.map PyData.str).all flatD=true then _ else none)=_
  rw [if_pos ⟨rfl,flat_strs l⟩,inD_strs]
theorem count_lst (x:Str) (l:List Str):gCount (TD l) [.str x]=some (.int (l.count x:Int),false):=by
  show (if flatD (.str x)=true∧(l.map PyData.str).all flatD=true then _ else none)=_
  rw [if_pos ⟨rfl,flat_strs l⟩,count_strs]
theorem count_tup (x:Str) (l:List Str):gCountT (.tuple (l.map .str)) [.str x]=some (.int (l.count x:Int),false):=by
  show (if flatD (.str x)=true∧(l.map PyData.str).all flatD=true then _ else none)=_
  rw [if_pos ⟨rfl,flat_strs l⟩,count_strs]
theorem eqvAll_strs:∀ a b:List Str,PyData.eqvAll (a.map .str) (b.map .str)=decide (a=b)
  | [],[]=>by simp [PyData.eqvAll]
  | [],_::_=>by simp [PyData.eqvAll]
  | _::_,[]=>by simp [PyData.eqvAll]
  | x::a,y::b=>by
    simp only [List.map_cons,PyData.eqvAll]
    rw [eqv_str,eqvAll_strs a b,Bool.eq_iff_iff]
    simp
theorem gNe_TD {a b:List Str} (ha:∀ x∈a,PyData.strOk x=true) (hb:∀ x∈b,PyData.strOk x=true):gNe (TD a) (TD b)=some (.bool (!decide (a=b)),false):=by
  unfold gNe
  rw [if_pos ⟨shaped_TD ha,shaped_TD hb⟩]
  show some (PyData.bool (!PyData.eqvAll (a.map .str) (b.map .str)),false)=_
  rw [eqvAll_strs]
theorem held_notin (keys:List Str) (row:Str->Pile.Row) (n:Str):gNotInD (.str n) (HD keys row)=some (.bool (!decide (n∈keys)),false):=by
  show some (PyData.bool (!(lookK (heldL keys row) (.inr n)).isSome),false)=_
  rw [held_look]
  by_cases h:n∈keys
  . rw [if_pos h,decide_eq_true h]; rfl
  . rw [if_neg h,decide_eq_false h]; rfl
theorem bools_map:∀ l:List Bool,boolsOf (l.map .bool)=some l
  | []=>rfl
  | b::l=>by
    show (boolsOf (l.map .bool)).map (b::·)=_
    rw [bools_map l]; rfl
theorem gAll_bools {α:Type} (l:List α) (p : α->Bool):gAll [.list (l.map fun x=>PyData.bool (p x))]=some (.bool (l.all p),false):=by
  show (boolsOf (l.map fun x=>PyData.bool (p x))).map _=_
  rw [show (l.map fun x=>PyData.bool (p x))=(l.map p).map .bool by rw [List.map_map]; rfl,bools_map]
  show some (PyData.bool ((l.map p).all id),false)=_
  rw [List.all_map]; rfl
theorem forL_bk {g:D->Rho->Option Rho} {b:SM} {d:D} {ds:List D} {ρ ρ1 ρ2:Rho} (h1:g d ρ=some ρ1) (h2:b ρ1=some (.bk ρ2)):forL g b (d::ds) ρ=some (.nx ρ2):=by
  show (g d ρ).bind _=_
  rw [h1,Option.bind_some,h2]; rfl
variable {keys:List Str} {row:Str->Pile.Row}
theorem reach_loop:∀ (l:List Nat) (n:Str) (s2:Sl),NIo s2->∃ o,forL (mgN 2) lb1_law_reaches (l.map fun k:Nat=>PyData.int (k:Int)) [.fz (HD keys row),.fz (.str n),s2]=some o∧((∃ ρ2,o=.nx ρ2∧Pile.reach keys row l.length n=false)∨∃ ρ2,o=.rt (.bool (Pile.reach keys row l.length n),.fz) ρ2)
  | [],n,s2,_=>⟨_,rfl,.inl ⟨_,rfl,rfl⟩⟩
  | k::l,n,s2,n2=>by
    rw [List.map_cons,List.length_cons]
    have ei:mOp gNotInD (mVar 1) (mVar 0) [.fz (HD keys row),.fz (.str n),.fz (.int (k:Int))]=some ((.bool (!decide (n∈keys)),.fz),[.fz (HD keys row),.fz (.str n),.fz (.int (k:Int))]):=op_ev (r:=(HD keys row,.fz)) (res:=(.bool (!decide (n∈keys)),false)) (sv_fz (var_fz rfl)) (sv_fz (var_fz rfl)) (held_notin keys row n)
    have hg:mgN 2 (.int (k:Int)) [.fz (HD keys row),.fz (.str n),s2]=some [.fz (HD keys row),.fz (.str n),.fz (.int (k:Int))]:=mgN_nio (s:=s2) rfl n2
    by_cases h:n∈keys
    . have ra:=row_above (row_is (i:=0) (ρ:=[.fz (HD keys row),.fz (.str n),.fz (.int (k:Int))]) (b:=mVar 1) (.inl rfl) h (var_fz rfl))
      have t1:mTest (mOp gNotInD (mVar 1) (mVar 0)) [.fz (HD keys row),.fz (.str n),.fz (.int (k:Int))]=some (false,[.fz (HD keys row),.fz (.str n),.fz (.int (k:Int))]):=test_ev (k:=.fz) (by rw [ei,decide_eq_true h]; rfl)
      have t2:mTest (mOp gIs (mOp gIx (mOp gIxD (mVar 0) (mVar 1)) (mC (.int 1))) (mC .none)) [.fz (HD keys row),.fz (.str n),.fz (.int (k:Int))]=some ((row n).above.isNone,[.fz (HD keys row),.fz (.str n),.fz (.int (k:Int))]):=test_ev (k:=.fz) (op_ev (r:=(.none,.fz)) (res:=(.bool (row n).above.isNone,false)) (sv_fz ra) (sv_fz rfl) (is_above _))
      have er:Pile.reach keys row (l.length + 1) n=match (row n).above with | none=>true | some a=>Pile.reach keys row l.length a:=by
        show (if n∈keys then _ else _)=_
        refine (if_pos h).trans ?_
        cases (row n).above <;> rfl
      rw [er]
      cases e:(row n).above with
      | none =>
        rw [e] at t2
        exact ⟨_,forL_rt hg (seq_nx (if_f t1 rfl) (seq_rt (if_t t2 (ret_eq rfl)))),.inr ⟨_,rfl⟩⟩
      | some a =>
        rw [e] at t2 ra
        obtain ⟨o,h1,h2⟩:=reach_loop l a (.fz (.int (k:Int))) (NIo.fz _)
        exact ⟨o,forL_cons hg (seq_nx (if_f t1 rfl) (seq_nx (if_f t2 rfl) (asg_fz ra rfl))) h1,h2⟩
    . have t1:mTest (mOp gNotInD (mVar 1) (mVar 0)) [.fz (HD keys row),.fz (.str n),.fz (.int (k:Int))]=some (true,[.fz (HD keys row),.fz (.str n),.fz (.int (k:Int))]):=test_ev (k:=.fz) (by rw [ei,decide_eq_false h]; rfl)
      have er:Pile.reach keys row (l.length + 1) n=false:=by show (if n∈keys then _ else _)=_; rw [if_neg h]
      rw [er]
      exact ⟨_,forL_rt hg (seq_rt (if_t t1 (ret_eq rfl))),.inr ⟨_,rfl⟩⟩
theorem reaches_is (hk:keys.length≤1000) (n:Str):m_law_reaches [HD keys row,.str n]=some (.bool (Pile.reach keys row (keys.length + 1) n),false):=by
  obtain ⟨o,h1,h2⟩:=reach_loop (keys:=keys) (row:=row) (List.range (keys.length + 1)) n .no NIo.no
  rw [List.length_range] at h2
  have hr:mRg1 (mCons (mOp gAdd (mCB gLenR (mCons (mVar 0) mNil)) (mC (.int 1))) mNil) [.fz (HD keys row),.fz (.str n),.no]=some ((List.range (keys.length + 1)).map (fun k:Nat=>PyData.int (k:Int)),[.fz (HD keys row),.fz (.str n),.no]):=rg1_is ((ie_add (lenR_is (.inl rfl)) ie_c).is (by omega)) (by omega)
  rcases h2 with ⟨ρ2,rfl,e⟩ | ⟨ρ2,rfl⟩
  . rw [e]
    exact fn_of rfl (seq_nx (for_eq hr h1) (ret_eq rfl)) rfl
  . exact fn_of rfl (seq_rt (for_eq hr h1)) rfl
theorem comes_loop (nm:D):∀ (l:List Nat) (x:Option Str) (s3:Sl),NIo s3->∃ s3',forL (mgN 3) lb1_comes_to_top (l.map fun k:Nat=>PyData.int (k:Int)) [.fz (HD keys row),.fz nm,.fz (aboveD x),s3]=some (.nx [.fz (HD keys row),.fz nm,.fz (aboveD (Pile.climb keys row l.length x)),s3'])
  | [],x,s3,_=>⟨s3,rfl⟩
  | k::l,x,s3,n3=>by
    rw [List.map_cons,List.length_cons]
    have hg:mgN 3 (.int (k:Int)) [.fz (HD keys row),.fz nm,.fz (aboveD x),s3]=some [.fz (HD keys row),.fz nm,.fz (aboveD x),.fz (.int (k:Int))]:=mgN_nio (s:=s3) rfl n3
    have t1:mTest (mOp gIs (mVar 2) (mC .none)) [.fz (HD keys row),.fz nm,.fz (aboveD x),.fz (.int (k:Int))]=some (x.isNone,[.fz (HD keys row),.fz nm,.fz (aboveD x),.fz (.int (k:Int))]):=test_ev (k:=.fz) (op_ev (r:=(.none,.fz)) (res:=(.bool x.isNone,false)) (sv_fz (var_fz rfl)) (sv_fz rfl) (is_above _))
    cases x with
    | none=>exact ⟨_,forL_bk hg (seq_bk (if_t (or_t t1) rfl))⟩
    | some n =>
      have ei:mOp gNotInD (mVar 2) (mVar 0) [.fz (HD keys row),.fz nm,.fz (.str n),.fz (.int (k:Int))]=some ((.bool (!decide (n∈keys)),.fz),[.fz (HD keys row),.fz nm,.fz (.str n),.fz (.int (k:Int))]):=op_ev (r:=(HD keys row,.fz)) (res:=(.bool (!decide (n∈keys)),false)) (sv_fz (var_fz rfl)) (sv_fz (var_fz rfl)) (held_notin keys row n)
      by_cases h:n∈keys
      . have er:Pile.climb keys row (l.length + 1) (some n)=Pile.climb keys row l.length (row n).above:=by show (if n∈keys then _ else _)=_; rw [if_pos h]
        rw [er]
        have ra:=row_above (row_is (i:=0) (ρ:=[.fz (HD keys row),.fz nm,.fz (.str n),.fz (.int (k:Int))]) (b:=mVar 2) (.inl rfl) h (var_fz rfl))
        obtain ⟨s3',h1⟩:=comes_loop nm l (row n).above (.fz (.int (k:Int))) (NIo.fz _)
        exact ⟨s3',forL_cons hg (seq_nx (if_f (or_f t1 (tstB (u:=!decide (n∈keys)) ei (by rw [decide_eq_true h]; rfl))) rfl) (asg_fz ra rfl)) h1⟩
      . have er:Pile.climb keys row (l.length + 1) (some n)=some n:=by show (if n∈keys then _ else _)=_; rw [if_neg h]
        rw [er]
        exact ⟨_,forL_bk hg (seq_bk (if_t (or_f t1 (tstB (u:=!decide (n∈keys)) ei (by rw [decide_eq_false h]; rfl))) rfl))⟩
theorem comes_is (hk:keys.length≤1000) (n:Str):m_comes_to_top [HD keys row,.str n]=some (.bool (Pile.climb keys row keys.length (some n)).isNone,false):=by
  obtain ⟨s3',h1⟩:=comes_loop (keys:=keys) (row:=row) (.str n) (List.range keys.length) (some n) .no NIo.no
  rw [List.length_range] at h1
  refine fn_of (o:=.rt (.bool (Pile.climb keys row keys.length (some n)).isNone,.fz) [.fz (HD keys row),.fz (.str n),.fz (aboveD (Pile.climb keys row keys.length (some n))),s3']) rfl ?_ rfl
  refine seq_nx (ρ1:=[.fz (HD keys row),.fz (.str n),.fz (.str n),.no]) (asg_fz (var_fz rfl) rfl) ?_
  exact seq_nx (for_eq (rg1_is (lenR_is (.inl rfl)) (by omega)) h1) (ret_eq (op_ev (r:=(.none,.fz)) (res:=(.bool (Pile.climb keys row keys.length (some n)).isNone,false)) (sv_fz (var_fz rfl)) (sv_fz rfl) (is_above _)))
variable {keys:List Str} {row:Str->Pile.Row} {tops:List Str} {c:Nat}
theorem gIx_tup {l:List Str} {i:Nat} {x:Str} (h:l[i]?=some x):gIx (.tuple (l.map .str)) (.int (i:Int))=some (.str x,false):=by
  show (L2.atI (l.map PyData.str) (i:Int)).map _=_
  rw [Mir.atI_nat,List.getElem?_map,h]; rfl
def hw (keys:List Str) (row:Str->Pile.Row) (n:Str) (i:Nat) (l:Str):Bool:=decide (l∈keys) && (decide ((row l).above=some n) && decide ((i:Int) - (if (row l).mark then 1 else 0)≤((row l).below.length:Int)))
theorem hangs_is (P:Pw c tops keys row) {n:Str} (hn:n∈keys) {i:Nat} {l:Str} (hl:(row n).below[i]?=some l):m_hangs_well [HD keys row,.str n,.int (i:Int)]=some (.bool (hw keys row n i l),false):=by
  have e1:mOp gIx (mOp gIx (mOp gIxD (mVar 0) (mVar 1)) (mC (.int 3))) (mVar 2) [.fz (HD keys row),.fz (.str n),.fz (.int (i:Int)),.no,.no]=some ((.str l,.fz),[.fz (HD keys row),.fz (.str n),.fz (.int (i:Int)),.no,.no]):=op_ev (r:=(.int (i:Int),.fz)) (res:=(.str l,false)) (sv_fz (row_below (row_is (.inl rfl) hn (var_fz rfl)))) (sv_fz (var_fz rfl)) (gIx_tup hl)
  have hd:∀ (u:SM) (o:Out) (b:Bool),u [.fz (HD keys row),.fz (.str n),.fz (.int (i:Int)),.fz (.str l),.no]=some o->retD o=some (.bool b,false)->b=hw keys row n i l->fnM 3 2 (mSeq (mAsg 3 (mOp gIx (mOp gIx (mOp gIxD (mVar 0) (mVar 1)) (mC (.int 3))) (mVar 2))) u) [HD keys row,.str n,.int (i:Int)]=some (.bool (hw keys row n i l),false):=fun u o b ho hr hb=>hb ▸ fn_of rfl (seq_nx (asg_fz e1 rfl) ho) hr
  have t1:BE (mOp gNotInD (mVar 3) (mVar 0)) [.fz (HD keys row),.fz (.str n),.fz (.int (i:Int)),.fz (.str l),.no] (!decide (l∈keys)):=op_ev (r:=(HD keys row,.fz)) (res:=(.bool (!decide (l∈keys)),false)) (sv_fz (var_fz rfl)) (sv_fz (var_fz rfl)) (held_notin keys row l)
  unfold m_hangs_well b_hangs_well
  by_cases k:l∈keys
  . have rl:∀ {s:Sl},mOp gIxD (mVar 0) (mVar 3) [.fz (HD keys row),.fz (.str n),.fz (.int (i:Int)),.fz (.str l),s]=some ((rowD (row l),.fz),[.fz (HD keys row),.fz (.str n),.fz (.int (i:Int)),.fz (.str l),s]):=fun {s}=>row_is (.inl rfl) k (var_fz rfl)
    have t2:BE (mOp gNe (mOp gIx (mOp gIxD (mVar 0) (mVar 3)) (mC (.int 1))) (mVar 1)) [.fz (HD keys row),.fz (.str n),.fz (.int (i:Int)),.fz (.str l),.no] (!decide ((row l).above=some n)):=op_ev (r:=(.str n,.fz)) (res:=(.bool (!decide ((row l).above=some n)),false)) (sv_fz (row_above rl)) (sv_fz (var_fz rfl)) (gNe_above (P.aok l k) (P.ok n hn))
    by_cases a:(row l).above=some n
    . have tf:=or_f (tstB t1 (by rw [decide_eq_true k]; rfl)) (tstB t2 (v:=false) (by rw [decide_eq_true a]; rfl))
      have tm:=test_ev (k:=.fz) (row_mark (rl (s:=.no)))
      have e4:IE (mIfE (mTest (mOp gIx (mOp gIxD (mVar 0) (mVar 3)) (mC (.int 2)))) (mOp gSub (mVar 2) (mC (.int 1))) (mVar 2)) [.fz (HD keys row),.fz (.str n),.fz (.int (i:Int)),.fz (.str l),.no] ((i:Int) - (if (row l).mark then 1 else 0)):=by
        cases q:(row l).mark with
        | true=>rw [q] at tm; exact ifE_t tm (ie_sub (ie_var rfl) ie_c)
        | false=>rw [q] at tm; exact ifE_f tm ((ie_var rfl:IE (mVar 2) _ (i:Int)).is (by simp))
      exact hd _ _ _ (seq_nx (if_f tf rfl) (seq_nx (asgI e4 rfl) (ret_eq (be_ge (belowlen rl) (ie_var rfl))))) rfl (by unfold hw; rw [decide_eq_true k,decide_eq_true a,Bool.true_and,Bool.true_and])
    . exact hd _ _ false (seq_rt (if_t (or_f (tstB t1 (by rw [decide_eq_true k]; rfl)) (tstB t2 (v:=true) (by rw [decide_eq_false a]; rfl))) (ret_eq rfl))) rfl (by unfold hw; rw [decide_eq_false a,Bool.false_and,Bool.and_false])
  . exact hd _ _ false (seq_rt (if_t (or_t (tstB t1 (v:=true) (by rw [decide_eq_false k]; rfl))) (ret_eq rfl))) rfl (by unfold hw; rw [decide_eq_false k,Bool.false_and])
theorem standing_is {n:Str} (hn:n∈keys):m_standing [HD keys row,.str n]=some (.tuple [.int (row n).key,.str n],false) :=
  fn_of (o:=.rt (.tuple [.int (row n).key,.str n],.fz) [.fz (HD keys row),.fz (.str n)]) rfl (ret_eq (tup_ev (rs:=[(.int (row n).key,.fz),(.str n,.fz)]) (consI (row_key (row_is (.inl rfl) hn (var_fz rfl))) (cons_fz (sv_fz (var_fz rfl)) nil_ev)) rfl (by simp))) rfl
def upP (keys:List Str) (row:Str->Pile.Row) (n:Str):Bool:=match (row n).above with
  | none=>!(row n).mark
  | some a=>decide (a∈keys) && (decide ((row a).below.count n=1) && !pairLt (row n).key n (row a).key a)
def dnP (keys:List Str) (row:Str->Pile.Row) (n:Str):Bool:=(List.range (row n).below.length).all fun i=>hw keys row n i ((row n).below.getD i ⟨#[]⟩)
theorem ties_is (hc:c≤3) (P:Pw c tops keys row) {n:Str} (hn:n∈keys):m_ties_in_form [HD keys row,.str n]=some (.bool (upP keys row n && dnP keys row n),false):=by
  have hb:=(P.bok n hn).1
  have all:∀ (ab:D),mRet (mCB gAll (mCons (mLC [("held",0),("name",1)] (mRg1 (mCons (mCB gLen (mCons (mOp gIx (mOp gIxD (mVar 0) (mVar 1)) (mC (.int 3))) mNil)) mNil)) mYes ce1_ties_in_form) mNil)) [.fz (HD keys row),.fz (.str n),.fz ab]=some (.rt (.bool (dnP keys row n),.fz) [.fz (HD keys row),.fz (.str n),.fz ab]):=fun ab =>
    ret_eq (cb_ev (rs:=[(.list ((List.range (row n).below.length).map fun i=>PyData.bool (hw keys row n i ((row n).below.getD i ⟨#[]⟩))),.fz)]) (res:=(.bool (dnP keys row n),false)) (cons_fz (sv_new (lc_ev (rg1_is (belowlen (row_is (.inl rfl) hn (var_fz rfl))) (by omega)) (compL_map (f:=fun k:Nat=>PyData.int (k:Int)) (g:=fun i=>PyData.bool (hw keys row n i ((row n).below.getD i ⟨#[]⟩))) _ fun i hi=>by
      have hi':=List.mem_range.mp hi
      have e:(row n).below[i]?=some ((row n).below.getD i ⟨#[]⟩):=by rw [List.getD_eq_getElem?_getD,List.getElem?_eq_getElem hi']; rfl
      exact ⟨_,sv_fz (be_call (rs:=[(HD keys row,.fz),(.str n,.fz),(.int (i:Int),.fz)]) rfl (hangs_is P hn e))⟩) (by rw [List.length_map,List.length_range]; omega))) nil_ev) (gAll_bools _ _))
  have r0:=row_is (i:=0) (keys:=keys) (row:=row) (ρ:=[.fz (HD keys row),.fz (.str n),.no]) (b:=mVar 1) (.inl rfl) hn (var_fz rfl)
  have r1:∀ ab:D,mOp gIxD (mVar 0) (mVar 1) [.fz (HD keys row),.fz (.str n),.fz ab]=some ((rowD (row n),.fz),[.fz (HD keys row),.fz (.str n),.fz ab]):=fun ab=>row_is (.inl rfl) hn (var_fz rfl)
  have a0:=row_above r0
  have hd:∀ (u:SM) (o:Out) (b:Bool),u [.fz (HD keys row),.fz (.str n),.fz (aboveD (row n).above)]=some o->retD o=some (.bool b,false)->b=(upP keys row n && dnP keys row n)->fnM 2 1 (mSeq (mAsg 2 (mOp gIx (mOp gIxD (mVar 0) (mVar 1)) (mC (.int 1)))) u) [HD keys row,.str n]=some (.bool (upP keys row n && dnP keys row n),false):=fun u o b ho hr hb=>hb ▸ fn_of rfl (seq_nx (asg_fz a0 rfl) ho) hr
  have ti:BE (mOp gIs (mVar 2) (mC .none)) [.fz (HD keys row),.fz (.str n),.fz (aboveD (row n).above)] (row n).above.isNone:=op_ev (r:=(.none,.fz)) (res:=(.bool (row n).above.isNone,false)) (sv_fz (var_fz rfl)) (sv_fz rfl) (is_above _)
  unfold m_ties_in_form b_ties_in_form
  cases ea:(row n).above with
  | none =>
    rw [ea] at hd ti
    have tm:=test_ev (k:=.fz) (row_mark (r1 (aboveD none)))
    cases em:(row n).mark with
    | true=>rw [em] at tm; exact hd _ _ false (seq_rt (if_t (tstB ti rfl) (if_t tm (ret_eq rfl)))) rfl (by unfold upP; rw [ea,em]; rfl)
    | false=>rw [em] at tm; exact hd _ _ (dnP keys row n) (seq_nx (if_t (tstB ti rfl) (if_f tm rfl)) (all _)) rfl (by unfold upP; rw [ea,em]; rfl)
  | some a =>
    rw [ea] at hd ti
    have t1:BE (mOp gNotInD (mVar 2) (mVar 0)) [.fz (HD keys row),.fz (.str n),.fz (aboveD (some a))] (!decide (a∈keys)):=op_ev (r:=(HD keys row,.fz)) (res:=(.bool (!decide (a∈keys)),false)) (sv_fz (var_fz rfl)) (sv_fz (var_fz rfl)) (held_notin keys row a)
    by_cases k:a∈keys
    . have ra:mOp gIxD (mVar 0) (mVar 2) [.fz (HD keys row),.fz (.str n),.fz (aboveD (some a))]=some ((rowD (row a),.fz),[.fz (HD keys row),.fz (.str n),.fz (aboveD (some a))]):=row_is (.inl rfl) k (var_fz rfl)
      have ct:IE (mBM gCountT (mOp gIx (mOp gIxD (mVar 0) (mVar 2)) (mC (.int 3))) (mCons (mVar 1) mNil)) [.fz (HD keys row),.fz (.str n),.fz (aboveD (some a))] ((row a).below.count n:Int):=by
        unfold IE mBM
        rw [sv_fz (row_below ra),Option.bind_some]; dsimp only
        rw [show mCons (mVar 1) mNil [.fz (HD keys row),.fz (.str n),.fz (aboveD (some a))]=some ([(.str n,.fz)],[.fz (HD keys row),.fz (.str n),.fz (aboveD (some a))]) from rfl,Option.bind_some]
        show (gCountT (.tuple ((row a).below.map .str)) [.str n]).bind (fun _=>(gCountT (.tuple ((row a).below.map .str)) [.str n]).map _)=_
        rw [count_tup]; rfl
      have t3:BE (mOp gLtP (mCall m_standing (mCons (mVar 0) (mCons (mVar 1) mNil))) (mCall m_standing (mCons (mVar 0) (mCons (mVar 2) mNil)))) [.fz (HD keys row),.fz (.str n),.fz (aboveD (some a))] (pairLt (row n).key n (row a).key a):=op_ev (r:=(.tuple [.int (row a).key,.str a],.fz)) (res:=(.bool (pairLt (row n).key n (row a).key a),false)) (sv_fz (call_pure (rs:=[(HD keys row,.fz),(.str n,.fz)]) rfl (standing_is hn) rfl)) (sv_fz (call_pure (rs:=[(HD keys row,.fz),(.str a,.fz)]) rfl (standing_is k) rfl)) rfl
      by_cases q:(row a).below.count n=1
      . have t2:=tstB (v:=false) (be_ne ct (ie_c (i:=1))) (by rw [q]; rfl)
        cases ep:pairLt (row n).key n (row a).key a with
        | true=>exact hd _ _ false (seq_rt (if_f (tstB ti rfl) (if_t (or_f (tstB t1 (by rw [decide_eq_true k]; rfl)) (or_f t2 (tstB t3 ep))) (ret_eq rfl)))) rfl (by unfold upP; rw [ea]; simp [ep])
        | false=>exact hd _ _ (dnP keys row n) (seq_nx (if_f (tstB ti rfl) (if_f (or_f (tstB t1 (by rw [decide_eq_true k]; rfl)) (or_f t2 (tstB t3 ep))) rfl)) (all _)) rfl (by unfold upP; rw [ea]; simp [ep,k,q])
      . have t2:=tstB (v:=true) (be_ne ct (ie_c (i:=1))) (by rw [decide_eq_false (by omega)]; rfl)
        exact hd _ _ false (seq_rt (if_f (tstB ti rfl) (if_t (or_f (tstB t1 (by rw [decide_eq_true k]; rfl)) (or_t t2)) (ret_eq rfl)))) rfl (by unfold upP; rw [ea]; simp [q])
    . exact hd _ _ false (seq_rt (if_f (tstB ti rfl) (if_t (or_t (tstB t1 (by rw [decide_eq_false k]; rfl))) (ret_eq rfl)))) rfl (by unfold upP; rw [ea]; simp [k])
variable {keys:List Str} {row:Str->Pile.Row} {tops:List Str} {c:Nat}
theorem lcd_ev {fr:List (Str × Nat)} {dv:PM} {cc:Rho->Option (Bool × Rho)} {e:PM} {ρ:Rho} {ys:List D} (h1:dv ρ=some ((HD keys row,.fz),ρ)) (hr:noRo ρ=true) (h2:compL cc e (fr.map fun p=>demote ρ p.2) (keys.map .str)=some ys) (h3:ys.length≤100000):mLCD fr dv cc e ρ=some ((.list ys,.new),ρ):=by
  unfold mLCD
  rw [h1,Option.bind_some]
  dsimp only [asDfz,Option.bind_some]
  rw [if_pos hr,held_keys,h2,Option.bind_some,cIf_pos (sz_lt h3)]
def topsP (keys:List Str) (row:Str->Pile.Row):List Str:=keys.filter fun n=>(row n).above.isNone
def formP (tops keys:List Str) (row:Str->Pile.Row):Bool:=decide (sortS tops=sortS (topsP keys row)) && keys.all fun n=>(upP keys row n && dnP keys row n) && (Pile.climb keys row keys.length (some n)).isNone
theorem sorted_is {l:List Str} (h:l.length < 64) {a:PM} {ρ:Rho} (ha:sv a ρ=some ((TD l,.fz),ρ)):mCB gSortedS (mCons a mNil) ρ=some ((TD (sortS l),.new),ρ):=cb_ev (rs:=[(TD l,.fz)]) (res:=(TD (sortS l),true)) (cons_fz ha nil_ev) (by
  show (strsD (l.map .str)).bind _=_
  rw [strsD_map,Option.bind_some,cIf_pos h])
theorem form_is (hc:c≤3) (P:Pw c tops keys row):m_pile_in_form [.tuple [TD tops,HD keys row]]=some (.bool (formP tops keys row),false):=by
  have hkl:=P.kl
  have htl:=P.tl
  have hnt:(topsP keys row).length≤60 + c:=P.nt
  generalize hρ:([.fz (.tuple [TD tops,HD keys row]),.fz (TD tops),.fz (HD keys row)]:Rho)=ρ
  have g1 : ρ[1]?=some (.fz (TD tops)):=by rw [← hρ]; rfl
  have g2 : ρ[2]?=some (.fz (HD keys row)):=by rw [← hρ]; rfl
  have nr:noRo ρ=true:=by rw [← hρ]; rfl
  have vf:mVarF 2 ρ=some ((HD keys row,.fz),ρ):=by unfold mVarF; rw [g2]
  have dm:([("held",2)]:List (Str × Nat)).map (fun p=>demote ρ p.2)=[.fz (HD keys row)]:=by rw [← hρ]; rfl
  have f1:mLCD [("held",2)] (mVarF 2) ct1_pile_in_form ce2_pile_in_form ρ=some ((TD (topsP keys row),.new),ρ):=by
    refine lcd_ev vf nr ?_ (by rw [List.length_map]; omega)
    rw [dm]
    exact compL_filter (p:=fun n=>(row n).above.isNone) keys (fun n hn=>⟨_,test_ev (k:=.fz) (op_ev (r:=(.none,.fz)) (res:=(.bool (row n).above.isNone,false)) (sv_fz (row_above (row_is (i:=1) (.inl rfl) hn (var_fz rfl)))) (sv_fz rfl) (is_above _))⟩) fun n hn=>⟨_,sv_fz (var_fz rfl)⟩
  have t1:BE (mOp gNe (mCB gSortedS (mCons (mVar 1) mNil)) (mCB gSortedS (mCons (mLCD [("held",2)] (mVarF 2) ct1_pile_in_form ce2_pile_in_form) mNil))) ρ (!decide (sortS tops=sortS (topsP keys row))) :=
    op_ev (r:=(TD (sortS (topsP keys row)),.fz)) (res:=(.bool (!decide (sortS tops=sortS (topsP keys row))),false)) (sv_new (sorted_is (by omega) (sv_fz (var_fz g1)))) (sv_new (sorted_is (by omega) (sv_new f1))) (gNe_TD (fun x hx=>P.tok x ((sortS_perm tops).mem_iff.mp hx)) fun x hx=>P.ok x (List.mem_filter.mp ((sortS_perm (topsP keys row)).mem_iff.mp hx)).1)
  have f2:mCB gAll (mCons (mLCD [("held",2)] (mVarF 2) mYes ce1_pile_in_form) mNil) ρ=some ((.bool (keys.all fun n=>(upP keys row n && dnP keys row n) && (Pile.climb keys row keys.length (some n)).isNone),.fz),ρ):=by
    refine cb_ev (rs:=[(.list (keys.map fun n=>PyData.bool ((upP keys row n && dnP keys row n) && (Pile.climb keys row keys.length (some n)).isNone)),.fz)]) (res:=(.bool (keys.all fun n=>(upP keys row n && dnP keys row n) && (Pile.climb keys row keys.length (some n)).isNone),false)) (cons_fz (sv_new (lcd_ev vf nr ?_ (by rw [List.length_map]; omega))) nil_ev) (gAll_bools _ _)
    rw [dm]
    refine compL_map (f:=fun n:Str=>PyData.str n) (g:=fun n=>PyData.bool ((upP keys row n && dnP keys row n) && (Pile.climb keys row keys.length (some n)).isNone)) keys fun n hn=>⟨[.fz (.str n),.fz (HD keys row)],sv_fz ?_⟩
    exact be_and (be_call (rs:=[(HD keys row,.fz),(.str n,.fz)]) rfl (ties_is hc P hn)) (fun z=>by rw [z,Bool.true_and]; exact be_call (rs:=[(HD keys row,.fz),(.str n,.fz)]) rfl (comes_is (by omega) n)) (fun z=>by rw [z,Bool.false_and])
  have hd:∀ (u:SM) (o:Out) (b:Bool),u ρ=some o->retD o=some (.bool b,false)->b=formP tops keys row->fnM 1 2 (mSeq (mAsg 1 (mOp gIx (mVar 0) (mC (.int 0)))) (mSeq (mAsg 2 (mOp gIx (mVar 0) (mC (.int 1)))) u)) [.tuple [TD tops,HD keys row]]=some (.bool (formP tops keys row),false):=fun u o b ho hr hb=>by
    subst hb
    refine fn_of rfl (seq_nx (ρ1:=[.fz (.tuple [TD tops,HD keys row]),.fz (TD tops),.no]) (asg_fz (op_ev (r:=(.int 0,.fz)) (res:=(TD tops,false)) (sv_fz (var_fz rfl)) (sv_fz rfl) rfl) rfl) (seq_nx (ρ1:=ρ) ?_ ho)) hr
    rw [← hρ]
    exact asg_fz (op_ev (r:=(.int 1,.fz)) (res:=(HD keys row,false)) (sv_fz (var_fz rfl)) (sv_fz rfl) rfl) rfl
  unfold m_pile_in_form b_pile_in_form
  by_cases e:sortS tops=sortS (topsP keys row)
  . exact hd _ _ _ (seq_nx (if_f (tstB t1 (by rw [decide_eq_true e]; rfl)) rfl) (ret_eq f2)) rfl (by unfold formP; rw [decide_eq_true e,Bool.true_and])
  . exact hd _ _ false (seq_rt (if_t (tstB t1 (by rw [decide_eq_false e]; rfl)) (ret_eq rfl))) rfl (by unfold formP; rw [decide_eq_false e,Bool.false_and])
theorem credit_is (P:Pw c tops keys row):m_pile_credit [.tuple [TD tops,HD keys row]]=some (.int ((tops.length:Int) + 2 * ((keys.filter fun n=>(row n).mark).length:Int)),false):=by
  have hkl:=P.kl
  have fl:(keys.filter fun n=>(row n).mark).length≤1000:=Nat.le_trans (List.length_filter_le _ _) (by omega)
  have f1:mLCD [("pile",0)] (mIxF (mVarF 0) 1) ct1_pile_credit ce1_pile_credit [.fz (.tuple [TD tops,HD keys row]),.no]=some ((TD (keys.filter fun n=>(row n).mark),.new),[.fz (.tuple [TD tops,HD keys row]),.no]):=by
    refine lcd_ev rfl rfl ?_ (by rw [List.length_map]; omega)
    refine compL_filter (p:=fun n=>(row n).mark) keys (fun n hn=>⟨_,test_ev (k:=.fz) (row_mark (row_at hn (sv_fz (op_ev (r:=(.int 1,.fz)) (res:=(HD keys row,false)) (sv_fz (var_fz rfl)) (sv_fz rfl) rfl)) (var_fz rfl)))⟩) fun n hn=>⟨_,sv_fz (var_fz rfl)⟩
  have l0:IE (mCB gLen (mCons (mOp gIx (mVar 0) (mC (.int 0))) mNil)) [.fz (.tuple [TD tops,HD keys row]),.own (TD (keys.filter fun n=>(row n).mark))] (tops.length:Int):=cb_ev (rs:=[(TD tops,.fz)]) (res:=(.int (tops.length:Int),false)) (cons_fz (sv_fz (op_ev (r:=(.int 0,.fz)) (res:=(TD tops,false)) (sv_fz (var_fz rfl)) (sv_fz rfl) rfl)) nil_ev) (by show some (PyData.int ((tops.map PyData.str).length:Int),false)=_; rw [List.length_map])
  have l1:IE (mCB gLen (mCons (mVar 1) mNil)) [.fz (.tuple [TD tops,HD keys row]),.own (TD (keys.filter fun n=>(row n).mark))] ((keys.filter fun n=>(row n).mark).length:Int):=tlen_is (.inr (.inl rfl))
  exact fn_of (o:=.rt (.int ((tops.length:Int) + 2 * ((keys.filter fun n=>(row n).mark).length:Int)),.fz) [.fz (.tuple [TD tops,HD keys row]),.own (TD (keys.filter fun n=>(row n).mark))]) rfl (seq_nx (asg_new f1 rfl) (ret_eq (ie_add l0 (ie_mul ie_c l1 (mulOk (.inl ⟨by omega,by omega⟩)))))) rfl
def cell (ns:List Int) (k:Nat):Int:=ns.getD k 0
theorem cell_at (ns:List Int) (k:Nat):m_law_cell_at [.list (ns.map .int),.int k]=some (.int (cell ns k),false):=by
  unfold m_law_cell_at b_law_cell_at cell
  by_cases h:k < ns.length
  . have c:(k:Int) < ((ns.map PyData.int).length:Int):=by simp only [List.length_map]; omega
    have e:L2.atI ns (k:Int)=some ns[k]:=by rw [Mir.atI_nat,List.getElem?_eq_getElem h]
    rw [List.getD_eq_getElem?_getD,List.getElem?_eq_getElem h,Option.getD_some]
    walk_at "mir"
  . have c : ¬ (k:Int) < ((ns.map PyData.int).length:Int):=by simp only [List.length_map]; omega
    rw [List.getD_eq_getElem?_getD,List.getElem?_eq_none (by omega),Option.getD_none]
    walk_at "mir"
variable {keys:List Str} {row:Str->Pile.Row} {tops:List Str} {c:Nat}
def upL (keys:List Str) (row:Str->Pile.Row) (n:Str):Bool:=match (row n).above with
  | none=>!(row n).mark
  | some a=>decide (a∈keys) && (decide (n∈(row a).below) && !pairLt (row n).key n (row a).key a)
def hl (keys:List Str) (row:Str->Pile.Row) (n:Str) (i:Nat) (l:Str):Bool:=(decide (l∈keys) && (!decide (l∈(row n).below.take i) && decide ((row l).above=some n))) && decide ((i:Int) - (if (row l).mark then 1 else 0)≤((row l).below.length:Int))
def dnL (keys:List Str) (row:Str->Pile.Row) (n:Str):Bool:=(List.range (row n).below.length).all fun i=>hl keys row n i ((row n).below.getD i ⟨#[]⟩)
theorem cut_to (l:List Str) (k:Nat):cutD (l.map .str) none (some (k:Int))=(l.take k).map .str:=by
  unfold cutD
  rw [HT.sIx_none,HT.sIx_nat,List.drop_zero,Nat.sub_zero,← List.map_take,List.length_map]
  congr 1
  by_cases h:k≤l.length
  . rw [Nat.min_eq_left h]
  . rw [Nat.min_eq_right (by omega),List.take_of_length_le (Nat.le_refl _),List.take_of_length_le (by omega)]
abbrev rst (keys:List Str) (row:Str->Pile.Row) (n:Str) (s:Sl):Rho:=[.fz (HD keys row),.fz (.str n),.fz (.int (row n).key),.fz (aboveD (row n).above),.fz (.bool (row n).mark),.fz (.tuple ((row n).below.map .str)),s]
theorem right_body (P:Pw c tops keys row) {n:Str} (hn:n∈keys) {i:Nat} {l:Str} (hlt:(row n).below[i]?=some l):lb1_law_name_right (rst keys row n (.fz (.int (i:Int))))=some (if hl keys row n i l=true then .nx (rst keys row n (.fz (.int (i:Int)))) else .rt (.bool false,.fz) (rst keys row n (.fz (.int (i:Int))))):=by
  have hi:i < (row n).below.length:=(List.getElem?_eq_some_iff.mp hlt).1
  generalize hρ:rst keys row n (.fz (.int (i:Int)))=ρ
  have g0 : ρ[0]?=some (.fz (HD keys row)):=by rw [← hρ]; rfl
  have g1 : ρ[1]?=some (.fz (.str n)):=by rw [← hρ]; rfl
  have g5 : ρ[5]?=some (.fz (.tuple ((row n).below.map .str))):=by rw [← hρ]; rfl
  have g6 : ρ[6]?=some (.fz (.int (i:Int))):=by rw [← hρ]; rfl
  have e1:mOp gIx (mVar 5) (mVar 6) ρ=some ((.str l,.fz),ρ):=op_ev (r:=(.int (i:Int),.fz)) (res:=(.str l,false)) (sv_fz (var_fz g5)) (sv_fz (var_fz g6)) (gIx_tup hlt)
  have t1:BE (mOp gNotInD (mOp gIx (mVar 5) (mVar 6)) (mVar 0)) ρ (!decide (l∈keys)):=op_ev (r:=(HD keys row,.fz)) (res:=(.bool (!decide (l∈keys)),false)) (sv_fz e1) (sv_fz (var_fz g0)) (held_notin keys row l)
  have sl:mSl gSlT (mVar 5) mNoPart (mPart (mVar 6)) ρ=some ((.tuple (((row n).below.take i).map .str),.fz),ρ):=by
    unfold mSl
    rw [sv_fz (var_fz g5),Option.bind_some]; dsimp only
    rw [show mNoPart ρ=some (none,ρ) from rfl,Option.bind_some]; dsimp only
    rw [show mPart (mVar 6) ρ=some (some (i:Int),ρ) by unfold mPart; rw [sv_fz (var_fz g6)]; rfl,Option.bind_some]
    show (gSlT (.tuple ((row n).below.map .str)) none (some (i:Int))).map _=_
    have:gSlT (.tuple ((row n).below.map .str)) none (some (i:Int))=some (.tuple (((row n).below.take i).map .str),true):=by
      show (if _ then none else some (PyData.tuple (cutD _ _ _),true))=_
      rw [if_neg (fun z=>by
        have z2:=z.2
        rw [HT.sIx_nat,List.length_map] at z2
        omega),cut_to]
    rw [this]; rfl
  have t2:BE (mOp gInT (mOp gIx (mVar 5) (mVar 6)) (mSl gSlT (mVar 5) mNoPart (mPart (mVar 6)))) ρ (decide (l∈(row n).below.take i)):=op_ev (r:=(.tuple (((row n).below.take i).map .str),.fz)) (res:=(.bool (decide (l∈(row n).below.take i)),false)) (sv_fz e1) (sv_fz sl) (inT_tup l _)
  by_cases k:l∈keys
  . have rl:mOp gIxD (mVar 0) (mOp gIx (mVar 5) (mVar 6)) ρ=some ((rowD (row l),.fz),ρ):=row_is (.inl g0) k e1
    have t3:BE (mOp gNe (mOp gIx (mOp gIxD (mVar 0) (mOp gIx (mVar 5) (mVar 6))) (mC (.int 1))) (mVar 1)) ρ (!decide ((row l).above=some n)):=op_ev (r:=(.str n,.fz)) (res:=(.bool (!decide ((row l).above=some n)),false)) (sv_fz (row_above rl)) (sv_fz (var_fz g1)) (gNe_above (P.aok l k) (P.ok n hn))
    by_cases q:l∈(row n).below.take i
    . have eh:hl keys row n i l=false:=by unfold hl; simp [q]
      rw [eh,if_neg (by simp)]
      exact seq_rt (if_t (or_f (tstB t1 (by rw [decide_eq_true k]; rfl)) (or_t (tstB t2 (decide_eq_true q)))) (ret_eq rfl))
    . by_cases a:(row l).above=some n
      . have tf:=or_f (tstB t1 (v:=false) (by rw [decide_eq_true k]; rfl)) (or_f (tstB t2 (decide_eq_false q)) (tstB t3 (v:=false) (by rw [decide_eq_true a]; rfl)))
        have ei:IE (mCB gInt (mCons (mOp gIx (mOp gIxD (mVar 0) (mOp gIx (mVar 5) (mVar 6))) (mC (.int 2))) mNil)) ρ (if (row l).mark then 1 else 0):=cb_ev (rs:=[(.bool (row l).mark,.fz)]) (res:=(.int (if (row l).mark then 1 else 0),false)) (cons_fz (sv_fz (row_mark rl)) nil_ev) rfl
        have t4:=be_lt (belowlen rl) (ie_sub (ie_var g6) ei)
        have eh:hl keys row n i l=decide ((i:Int) - (if (row l).mark then 1 else 0)≤((row l).below.length:Int)):=by unfold hl; simp [k,q,a]
        rw [eh]
        by_cases w:(i:Int) - (if (row l).mark then 1 else 0)≤((row l).below.length:Int)
        . rw [if_pos (decide_eq_true w)]
          exact seq_nx (if_f tf rfl) (if_f (tstB t4 (decide_eq_false (by omega))) rfl)
        . rw [if_neg (by simpa using w)]
          exact seq_nx (if_f tf rfl) (if_t (tstB t4 (decide_eq_true (by omega))) (ret_eq rfl))
      . have eh:hl keys row n i l=false:=by unfold hl; simp [a]
        rw [eh,if_neg (by simp)]
        exact seq_rt (if_t (or_f (tstB t1 (by rw [decide_eq_true k]; rfl)) (or_f (tstB t2 (decide_eq_false q)) (tstB t3 (by rw [decide_eq_false a]; rfl)))) (ret_eq rfl))
  . have eh:hl keys row n i l=false:=by unfold hl; simp [k]
    rw [eh,if_neg (by simp)]
    exact seq_rt (if_t (or_t (tstB t1 (by rw [decide_eq_false k]; rfl))) (ret_eq rfl))
theorem right_is (hc:c≤3) (P:Pw c tops keys row) {n:Str} (hn:n∈keys):m_law_name_right [HD keys row,.str n]=some (.bool (upL keys row n && dnL keys row n),false):=by
  have hb:=(P.bok n hn).1
  obtain ⟨ρ2,h1,h2⟩:=forL_chk (g:=mgN 6) (b:=lb1_law_name_right) (f:=fun k:Nat=>PyData.int (k:Int)) (r:=(.bool false,.fz)) (fun ρ=>∃ s,NIo s∧ρ=rst keys row n s) (fun i=>hl keys row n i ((row n).below.getD i ⟨#[]⟩)) (List.range (row n).below.length) (rst keys row n .no) ⟨_,NIo.no,rfl⟩ (fun i hi ρ hρ=>by
    obtain ⟨s,ns,rfl⟩:=hρ
    have hi':=List.mem_range.mp hi
    have e:(row n).below[i]?=some ((row n).below.getD i ⟨#[]⟩):=by rw [List.getD_eq_getElem?_getD,List.getElem?_eq_getElem hi']; rfl
    exact ⟨_,_,mgN_nio (s:=s) rfl ns,right_body P hn e,_,NIo.fz _,rfl⟩)
  have hf:mFor (mRg1 (mCons (mCB gLen (mCons (mVar 5) mNil)) mNil)) (mgN 6) lb1_law_name_right (rst keys row n .no)=some (if dnL keys row n=true then .nx ρ2 else .rt (.bool false,.fz) ρ2):=for_eq (rg1_is (cb_ev (rs:=[(.tuple ((row n).below.map .str),.fz)]) (res:=(.int ((row n).below.length:Int),false)) (cons_fz (sv_fz (var_fz rfl)) nil_ev) (by show some (PyData.int (((row n).below.map PyData.str).length:Int),false)=_; rw [List.length_map])) (by omega)) h1
  have tl:∃ o,mSeq (mFor (mRg1 (mCons (mCB gLen (mCons (mVar 5) mNil)) mNil)) (mgN 6) lb1_law_name_right) (mRet (mC (.bool true))) (rst keys row n .no)=some o∧retD o=some (.bool (dnL keys row n),false):=by
    cases e:dnL keys row n with
    | true=>rw [e,if_pos rfl] at hf; exact ⟨_,seq_nx hf (ret_eq rfl),rfl⟩
    | false=>rw [e,if_neg (by simp)] at hf; exact ⟨_,seq_rt hf,rfl⟩
  obtain ⟨o2,tl1,tl2⟩:=tl
  have hd:∀ (u:SM) (o:Out) (b:Bool),u (rst keys row n .no)=some o->retD o=some (.bool b,false)->b=(upL keys row n && dnL keys row n)->fnM 2 5 (mSeq (mAsgG (mOp gIxD (mVar 0) (mVar 1)) (mgU 4 (mgsCons (mgN 2) (mgsCons (mgN 3) (mgsCons (mgN 4) (mgsCons (mgN 5) mgsNil)))))) u) [HD keys row,.str n]=some (.bool (upL keys row n && dnL keys row n),false):=fun u o b ho hr hb=>hb ▸ fn_of rfl (seq_nx (asgG_ev (row_is (i:=0) (ρ:=[.fz (HD keys row),.fz (.str n),.no,.no,.no,.no,.no]) (.inl rfl) hn (var_fz rfl)) rfl) ho) hr
  have ti:BE (mOp gIs (mVar 3) (mC .none)) (rst keys row n .no) (row n).above.isNone:=op_ev (r:=(.none,.fz)) (res:=(.bool (row n).above.isNone,false)) (sv_fz (var_fz rfl)) (sv_fz rfl) (is_above _)
  have tj:BE (mOp gIsNot (mVar 3) (mC .none)) (rst keys row n .no) (row n).above.isSome:=op_ev (r:=(.none,.fz)) (res:=(.bool (row n).above.isSome,false)) (sv_fz (var_fz rfl)) (sv_fz rfl) (isnot_above _)
  have tm:mTest (mVar 4) (rst keys row n .no)=some ((row n).mark,rst keys row n .no):=test_ev (k:=.fz) (var_fz rfl)
  unfold m_law_name_right b_law_name_right
  cases ea:(row n).above with
  | none =>
    cases em:(row n).mark with
    | true=>exact hd _ _ false (seq_rt (if_t (and_t (tstB ti (by rw [ea]; rfl)) (by rw [tm,em])) (ret_eq rfl))) rfl (by unfold upL; rw [ea,em]; rfl)
    | false=>exact hd _ _ (dnL keys row n) (seq_nx (if_f (and_t (tstB ti (by rw [ea]; rfl)) (by rw [tm,em])) rfl) (seq_nx (if_f (tstB tj (by rw [ea]; rfl)) rfl) tl1)) tl2 (by unfold upL; rw [ea,em]; rfl)
  | some a =>
    have fst:∀ (u:SM) (o:Option Out),u (rst keys row n .no)=o->mSeq (mIfS (mAnd (mTest (mOp gIs (mVar 3) (mC .none))) (mTest (mVar 4))) (mRet (mC (.bool false))) mPass) u (rst keys row n .no)=o:=fun u o ho=>seq_nx (if_f (and_f (tstB ti (by rw [ea]; rfl))) rfl) ho
    have g3:(rst keys row n .no)[3]?=some (.fz (.str a)):=by show some (Sl.fz (aboveD (row n).above))=_; rw [ea]; rfl
    have t1:BE (mOp gNotInD (mVar 3) (mVar 0)) (rst keys row n .no) (!decide (a∈keys)):=op_ev (r:=(HD keys row,.fz)) (res:=(.bool (!decide (a∈keys)),false)) (sv_fz (var_fz g3)) (sv_fz (var_fz rfl)) (held_notin keys row a)
    by_cases k:a∈keys
    . have ra:mOp gIxD (mVar 0) (mVar 3) (rst keys row n .no)=some ((rowD (row a),.fz),rst keys row n .no):=row_is (.inl rfl) k (var_fz g3)
      have t2:BE (mOp gNotInT (mVar 1) (mOp gIx (mOp gIxD (mVar 0) (mVar 3)) (mC (.int 3)))) (rst keys row n .no) (!decide (n∈(row a).below)):=op_ev (r:=(.tuple ((row a).below.map .str),.fz)) (res:=(.bool (!decide (n∈(row a).below)),false)) (sv_fz (var_fz rfl)) (sv_fz (row_below ra)) (notInT_tup n _)
      have t3:BE (mOp gLtP (mTup (mCons (mVar 2) (mCons (mVar 1) mNil))) (mTup (mCons (mOp gIx (mOp gIxD (mVar 0) (mVar 3)) (mC (.int 0))) (mCons (mVar 3) mNil)))) (rst keys row n .no) (pairLt (row n).key n (row a).key a):=op_ev (r:=(.tuple [.int (row a).key,.str a],.fz)) (res:=(.bool (pairLt (row n).key n (row a).key a),false)) (sv_fz (tup_ev (rs:=[(.int (row n).key,.fz),(.str n,.fz)]) rfl rfl (by simp))) (sv_fz (tup_ev (rs:=[(.int (row a).key,.fz),(.str a,.fz)]) (consI (row_key ra) (cons_fz (sv_fz (var_fz g3)) nil_ev)) rfl (by simp))) rfl
      by_cases q:n∈(row a).below
      . cases ep:pairLt (row n).key n (row a).key a with
        | true=>exact hd _ _ false (fst _ _ (seq_rt (if_t (tstB tj (by rw [ea]; rfl)) (if_t (or_f (tstB t1 (by rw [decide_eq_true k]; rfl)) (or_f (tstB t2 (by rw [decide_eq_true q]; rfl)) (tstB t3 ep))) (ret_eq rfl))))) rfl (by unfold upL; rw [ea]; simp [ep])
        | false=>exact hd _ _ (dnL keys row n) (fst _ _ (seq_nx (if_t (tstB tj (by rw [ea]; rfl)) (if_f (or_f (tstB t1 (by rw [decide_eq_true k]; rfl)) (or_f (tstB t2 (by rw [decide_eq_true q]; rfl)) (tstB t3 ep))) rfl)) tl1)) tl2 (by unfold upL; rw [ea]; simp [ep,k,q])
      . exact hd _ _ false (fst _ _ (seq_rt (if_t (tstB tj (by rw [ea]; rfl)) (if_t (or_f (tstB t1 (by rw [decide_eq_true k]; rfl)) (or_t (tstB t2 (by rw [decide_eq_false q]; rfl)))) (ret_eq rfl))))) rfl (by unfold upL; rw [ea]; simp [q])
    . exact hd _ _ false (fst _ _ (seq_rt (if_t (tstB tj (by rw [ea]; rfl)) (if_t (or_t (tstB t1 (by rw [decide_eq_false k]; rfl))) (ret_eq rfl))))) rfl (by unfold upL; rw [ea]; simp [k])
variable {keys:List Str} {row:Str->Pile.Row} {tops:List Str} {c:Nat}
theorem forD_ev {dv:PM} {g:D->Rho->Option Rho} {b:SM} {ρ:Rho} {o:Out} (h1:dv ρ=some ((HD keys row,.fz),ρ)) (hr:noRo ρ=true) (h2:forL g b (keys.map .str) ρ=some o) (h3:noRo (outR o)=true):mForD dv g b ρ=some o:=by
  unfold mForD
  rw [h1,Option.bind_some]
  dsimp only [asDfz,Option.bind_some]
  rw [if_pos hr,held_keys,h2,Option.bind_some,if_pos h3]
def topL (tops keys:List Str) (row:Str->Pile.Row) (n:Str):Bool:=decide (tops.count n=1) && (decide (n∈keys) && (row n).above.isNone)
def keyL (tops keys:List Str) (row:Str->Pile.Row) (n:Str):Bool:=(!(row n).above.isNone || decide (n∈tops)) && (Pile.reach keys row (keys.length + 1) n && (upL keys row n && dnL keys row n))
def formL (tops keys:List Str) (row:Str->Pile.Row):Bool:=tops.all (topL tops keys row) && keys.all (keyL tops keys row)
def NF (s:Sl):Prop:=s=.no∨∃ d,s=.fz d
theorem NF.nio {s:Sl} (h:NF s):NIo s:=by rcases h with rfl | ⟨d,rfl⟩; exact NIo.no; exact NIo.fz d
theorem NF.ro {s:Sl} (h:NF s) (a b:D):noRo [.fz a,.fz b,s]=true:=by rcases h with rfl | ⟨d,rfl⟩ <;> rfl
abbrev fst3 (tops keys:List Str) (row:Str->Pile.Row) (s:Sl):Rho:=[.fz (TD tops),.fz (HD keys row),s]
theorem top_body {n:Str}:lb2_law_in_form (fst3 tops keys row (.fz (.str n)))=some (if topL tops keys row n=true then .nx (fst3 tops keys row (.fz (.str n))) else .rt (.bool false,.fz) (fst3 tops keys row (.fz (.str n)))):=by
  have ct:IE (mBM gCount (mVar 0) (mCons (mVar 2) mNil)) (fst3 tops keys row (.fz (.str n))) (tops.count n:Int):=by
    unfold IE mBM
    rw [sv_fz (var_fz (i:=0) (d:=TD tops) rfl),Option.bind_some]; dsimp only
    rw [show mCons (mVar 2) mNil (fst3 tops keys row (.fz (.str n)))=some ([(.str n,.fz)],fst3 tops keys row (.fz (.str n))) from rfl,Option.bind_some]
    show (gCount (TD tops) [.str n]).bind (fun _=>(gCount (TD tops) [.str n]).map _)=_
    rw [count_lst]; rfl
  have t1:=be_ne ct (ie_c (i:=1))
  have t2:BE (mOp gNotInD (mVar 2) (mVar 1)) (fst3 tops keys row (.fz (.str n))) (!decide (n∈keys)):=op_ev (r:=(HD keys row,.fz)) (res:=(.bool (!decide (n∈keys)),false)) (sv_fz (var_fz rfl)) (sv_fz (var_fz rfl)) (held_notin keys row n)
  unfold topL
  by_cases q:tops.count n=1
  . have f1:=tstB t1 (v:=false) (by rw [q]; rfl)
    by_cases k:n∈keys
    . have f2:=tstB t2 (v:=false) (by rw [decide_eq_true k]; rfl)
      have t3:BE (mOp gIsNot (mOp gIx (mOp gIxD (mVar 1) (mVar 2)) (mC (.int 1))) (mC .none)) (fst3 tops keys row (.fz (.str n))) (row n).above.isSome:=op_ev (r:=(.none,.fz)) (res:=(.bool (row n).above.isSome,false)) (sv_fz (row_above (row_is (.inl rfl) k (var_fz rfl)))) (sv_fz rfl) (isnot_above _)
      rw [decide_eq_true q,decide_eq_true k,Bool.true_and,Bool.true_and]
      cases ea:(row n).above with
      | none=>exact if_f (or_f f1 (or_f f2 (tstB t3 (by rw [ea]; rfl)))) rfl
      | some a=>exact if_t (or_f f1 (or_f f2 (tstB t3 (by rw [ea]; rfl)))) (ret_eq rfl)
    . rw [decide_eq_false k,Bool.false_and,Bool.and_false,if_neg (by simp)]
      exact if_t (or_f f1 (or_t (tstB t2 (by rw [decide_eq_false k]; rfl)))) (ret_eq rfl)
  . rw [decide_eq_false q,Bool.false_and,if_neg (by simp)]
    exact if_t (or_t (tstB t1 (by rw [decide_eq_false (by omega)]; rfl))) (ret_eq rfl)
theorem key_body (hc:c≤3) (P:Pw c tops keys row) {n:Str} (hn:n∈keys):lb1_law_in_form (fst3 tops keys row (.fz (.str n)))=some (if keyL tops keys row n=true then .nx (fst3 tops keys row (.fz (.str n))) else .rt (.bool false,.fz) (fst3 tops keys row (.fz (.str n)))):=by
  have hkl:=P.kl
  have ti:BE (mOp gIs (mOp gIx (mOp gIxD (mVar 1) (mVar 2)) (mC (.int 1))) (mC .none)) (fst3 tops keys row (.fz (.str n))) (row n).above.isNone:=op_ev (r:=(.none,.fz)) (res:=(.bool (row n).above.isNone,false)) (sv_fz (row_above (row_is (.inl rfl) hn (var_fz rfl)))) (sv_fz rfl) (is_above _)
  have tn:BE (mOp gNotInT (mVar 2) (mVar 0)) (fst3 tops keys row (.fz (.str n))) (!decide (n∈tops)):=op_ev (r:=(TD tops,.fz)) (res:=(.bool (!decide (n∈tops)),false)) (sv_fz (var_fz rfl)) (sv_fz (var_fz rfl)) (notInT_lst n tops)
  have tr:BE (mCall m_law_reaches (mCons (mVar 1) (mCons (mVar 2) mNil))) (fst3 tops keys row (.fz (.str n))) (Pile.reach keys row (keys.length + 1) n):=be_call (rs:=[(HD keys row,.fz),(.str n,.fz)]) rfl (reaches_is (by omega) n)
  have tg:BE (mCall m_law_name_right (mCons (mVar 1) (mCons (mVar 2) mNil))) (fst3 tops keys row (.fz (.str n))) (upL keys row n && dnL keys row n):=be_call (rs:=[(HD keys row,.fz),(.str n,.fz)]) rfl (right_is hc P hn)
  unfold keyL
  generalize Pile.reach keys row (keys.length + 1) n=R at *
  generalize (upL keys row n && dnL keys row n)=G at *
  have rest:(!(row n).above.isNone || decide (n∈tops))=true->lb1_law_in_form (fst3 tops keys row (.fz (.str n)))=some (if (R && G)=true then .nx (fst3 tops keys row (.fz (.str n))) else .rt (.bool false,.fz) (fst3 tops keys row (.fz (.str n)))):=fun z=>by
    have f1:mAnd (mTest (mOp gIs (mOp gIx (mOp gIxD (mVar 1) (mVar 2)) (mC (.int 1))) (mC .none))) (mTest (mOp gNotInT (mVar 2) (mVar 0))) (fst3 tops keys row (.fz (.str n)))=some (false,fst3 tops keys row (.fz (.str n))):=by
      cases e:(row n).above.isNone with
      | false=>exact and_f (tstB ti e)
      | true =>
        rw [e] at z
        exact and_t (tstB ti e) (tstB tn (by have : decide (n ∈ tops) = true := by simpa using z
                                             rw [this]; rfl))
    cases eR:R with
    | false=>exact seq_nx (if_f f1 rfl) (if_t (or_t (not_ev (tstB tr eR))) (ret_eq rfl))
    | true =>
      cases eG:G with
      | false=>exact seq_nx (if_f f1 rfl) (if_t (or_f (not_ev (tstB tr eR)) (not_ev (tstB tg eG))) (ret_eq rfl))
      | true=>exact seq_nx (if_f f1 rfl) (if_f (or_f (not_ev (tstB tr eR)) (not_ev (tstB tg eG))) rfl)
  cases z:(!(row n).above.isNone || decide (n∈tops)) with
  | true=>rw [Bool.true_and]; exact rest z
  | false =>
    rw [Bool.or_eq_false_iff] at z
    rw [Bool.false_and,if_neg (by simp)]
    exact seq_rt (if_t (and_t (tstB ti (by simpa using z.1)) (tstB tn (by rw [z.2]; rfl))) (ret_eq rfl))
theorem inform_is (hc:c≤3) (P:Pw c tops keys row):m_law_in_form [TD tops,HD keys row]=some (.bool (formL tops keys row),false):=by
  obtain ⟨ρ2,h1,s2,n2,rfl⟩:=forL_chk (g:=mgN 2) (b:=lb2_law_in_form) (f:=fun n:Str=>PyData.str n) (r:=(.bool false,.fz)) (fun ρ=>∃ s,NF s∧ρ=fst3 tops keys row s) (topL tops keys row) tops (fst3 tops keys row .no) ⟨_,.inl rfl,rfl⟩ (fun n hn ρ hρ=>by
    obtain ⟨s,ns,rfl⟩:=hρ
    exact ⟨_,_,mgN_nio (s:=s) rfl ns.nio,top_body,_,.inr ⟨_,rfl⟩,rfl⟩)
  obtain ⟨ρ3,h3,s3,n3,rfl⟩:=forL_chk (g:=mgN 2) (b:=lb1_law_in_form) (f:=fun n:Str=>PyData.str n) (r:=(.bool false,.fz)) (fun ρ=>∃ s,NF s∧ρ=fst3 tops keys row s) (keyL tops keys row) keys (fst3 tops keys row s2) ⟨_,n2,rfl⟩ (fun n hn ρ hρ=>by
    obtain ⟨s,ns,rfl⟩:=hρ
    exact ⟨_,_,mgN_nio (s:=s) rfl ns.nio,key_body hc P hn,_,.inr ⟨_,rfl⟩,rfl⟩)
  have hf:mFor (mFoL (mVar 0)) (mgN 2) lb2_law_in_form (fst3 tops keys row .no)=some (if tops.all (topL tops keys row)=true then .nx (fst3 tops keys row s2) else .rt (.bool false,.fz) (fst3 tops keys row s2)):=for_eq (fol_ev (sv_fz (var_fz rfl))) h1
  have hg:mForD (mVarF 1) (mgN 2) lb1_law_in_form (fst3 tops keys row s2)=some (if keys.all (keyL tops keys row)=true then .nx (fst3 tops keys row s3) else .rt (.bool false,.fz) (fst3 tops keys row s3)):=forD_ev rfl (n2.ro _ _) h3 (by split <;> exact n3.ro _ _)
  unfold formL
  cases e1:tops.all (topL tops keys row) with
  | false=>rw [e1,if_neg (by simp)] at hf; exact fn_of rfl (seq_rt hf) rfl
  | true =>
    rw [e1,if_pos rfl] at hf
    cases e2:keys.all (keyL tops keys row) with
    | false=>rw [e2,if_neg (by simp)] at hg; exact fn_of rfl (seq_nx hf (seq_rt hg)) rfl
    | true=>rw [e2,if_pos rfl] at hg; exact fn_of rfl (seq_nx hf (seq_nx hg (ret_eq rfl))) rfl
theorem formP_iff:formP tops keys row=true↔Pile.FormP keys row pairLt tops:=by
  unfold formP
  rw [Bool.and_eq_true,decide_eq_true_eq,sortS_iff,List.all_eq_true]
  have dn:∀ n,dnP keys row n=true↔∀ (i:Nat) (l:Str),(row n).below[i]?=some l->l∈keys∧(row l).above=some n∧(i:Int) - (if (row l).mark then 1 else 0)≤((row l).below.length:Int):=fun n=>by
    unfold dnP
    rw [List.all_eq_true]
    constructor
    . intro h i l hl
      obtain ⟨hi,e⟩:=List.getElem?_eq_some_iff.mp hl
      have:=h i (List.mem_range.mpr hi)
      rw [List.getD_eq_getElem?_getD,hl] at this
      unfold hw at this
      simpa using this
    . intro h i hi
      have hi':=List.mem_range.mp hi
      have:=h i _ (List.getElem?_eq_getElem hi')
      rw [List.getD_eq_getElem?_getD,List.getElem?_eq_getElem hi']
      unfold hw
      simpa using this
  constructor
  . rintro ⟨h1,h2⟩
    have h3:∀ n∈keys,upP keys row n=true∧dnP keys row n=true∧(Pile.climb keys row keys.length (some n)).isNone=true:=fun n hn=>by
      have:=h2 n hn
      simpa [and_assoc] using this
    refine ⟨h1,fun n hn e=>?_,fun n hn a e=>?_,fun n hn=>(dn n).mp (h3 n hn).2.1,fun n hn=>by simpa using (h3 n hn).2.2⟩
    . have:=(h3 n hn).1
      unfold upP at this
      rw [e] at this
      simpa using this
    . have:=(h3 n hn).1
      unfold upP at this
      rw [e] at this
      simpa using this
  . intro F
    refine ⟨F.tops,fun n hn=>?_⟩
    have hu:upP keys row n=true:=by
      unfold upP
      cases e:(row n).above with
      | none=>simpa using F.mark n hn e
      | some a=>simpa using F.up n hn a e
    rw [hu,(dn n).mpr (F.down n hn),F.come n hn]; rfl
theorem formL_iff:formL tops keys row=true↔Pile.FormL keys row pairLt tops:=by
  unfold formL
  rw [Bool.and_eq_true,List.all_eq_true,List.all_eq_true]
  have dn:∀ n,dnL keys row n=true↔∀ (i:Nat) (l:Str),(row n).below[i]?=some l->l∈keys∧l ∉ (row n).below.take i∧(row l).above=some n∧(i:Int) - (if (row l).mark then 1 else 0)≤((row l).below.length:Int):=fun n=>by
    unfold dnL
    rw [List.all_eq_true]
    constructor
    . intro h i l hll
      obtain ⟨hi,e⟩:=List.getElem?_eq_some_iff.mp hll
      have:=h i (List.mem_range.mpr hi)
      rw [List.getD_eq_getElem?_getD,hll] at this
      unfold hl at this
      simpa [and_assoc] using this
    . intro h i hi
      have hi':=List.mem_range.mp hi
      have:=h i _ (List.getElem?_eq_getElem hi')
      rw [List.getD_eq_getElem?_getD,List.getElem?_eq_getElem hi']
      unfold hl
      simpa [and_assoc] using this
  constructor
  . rintro ⟨h1,h2⟩
    have h3:∀ n∈keys,((row n).above=none->n∈tops)∧Pile.reach keys row (keys.length + 1) n=true∧upL keys row n=true∧dnL keys row n=true:=fun n hn=>by
      have:=h2 n hn
      unfold keyL at this
      rw [Bool.and_eq_true,Bool.and_eq_true,Bool.and_eq_true] at this
      refine ⟨fun e=>?_,this.2⟩
      have t:=this.1
      rw [e] at t
      simpa using t
    refine ⟨fun n hn=>?_,fun n hn e=>(h3 n hn).1 e,fun n hn e=>?_,fun n hn a e=>?_,fun n hn=>(dn n).mp (h3 n hn).2.2.2,fun n hn=>(h3 n hn).2.1⟩
    . have:=h1 n hn
      unfold topL at this
      simpa using this
    . have:=(h3 n hn).2.2.1
      unfold upL at this
      rw [e] at this
      simpa using this
    . have:=(h3 n hn).2.2.1
      unfold upL at this
      rw [e] at this
      simpa using this
  . intro F
    refine ⟨fun n hn=>?_,fun n hn=>?_⟩
    . unfold topL
      simpa using F.top1 n hn
    . have hu:upL keys row n=true:=by
        unfold upL
        cases e:(row n).above with
        | none=>simpa using F.mark n hn e
        | some a=>simpa using F.up n hn a e
      unfold keyL
      rw [hu,(dn n).mpr (F.down n hn),F.come n hn]
      have ht:=F.top2 n hn
      cases e:(row n).above with
      | none=>simp [ht e]
      | some a=>simp
theorem forms (nd:keys.Nodup):formP tops keys row=formL tops keys row:=by
  rw [Bool.eq_iff_iff,formP_iff,formL_iff]
  exact Pile.form_iff keys row pairLt nd tops
theorem shaped_row {r:Pile.Row} (ha:∀ a,r.above=some a->PyData.strOk a=true) (hb:∀ b∈r.below,PyData.strOk b=true):SeqAt.shaped (rowD r)=true:=by
  obtain ⟨h1,h2⟩:=shaped_strs hb
  have a1:PyData.canLay0 (aboveD r.above)=true∧PyData.depth (aboveD r.above)≤1:=by
    cases e:r.above with
    | none=>exact ⟨rfl,by simp [aboveD,PyData.depth]⟩
    | some a=>exact ⟨by simp only [aboveD,PyData.canLay0]; exact ha a e,by simp [aboveD,PyData.depth]⟩
  unfold SeqAt.shaped rowD
  rw [decide_eq_true (by simp only [PyData.depth,PyData.depthAll]; omega),Bool.and_true]
  simp only [PyData.canLay0,PyData.canLayAll0,a1.1,h1,Bool.and_true]
theorem tail_is {c:Nat} (hc:c≤3) {tops keys:List Str} {row:Str->Pile.Row} (P:Pw c tops keys row) (X W:D):∃ ρ,(mSeq (mAsg 4 (mCall m_law_in_form (mCons (mVar 1) (mCons (mVar 2) mNil))))
    (mSeq (mAsg 5 (mTup (mCons (mCB gList (mCons (mVar 1) mNil)) (mCons (mCB gDictC (mCons (mVar 2) mNil)) mNil))))
    (mSeq (mAsg 6 (mCall m_pile_in_form (mCons (mVar 5) mNil)))
    (mSeq (mIfS (mOr (mNot (mTest (mIsi "bool" (mVar 6)))) (mOr (mTest (mOp gNe (mVar 6) (mVar 4))) (mTest (mOp gNeP (mVar 5) (mTup (mCons (mVar 1) (mCons (mVar 2) mNil)))))))
    (mRet (mC (.bool false)))
    mPass)
    (mSeq (mIfS (mNot (mTest (mVar 4)))
    (mRet (mC (.bool true)))
    mPass)
    (mSeq (mAsg 7 (mCall m_pile_credit (mCons (mVar 5) mNil)))
    (mSeq (mAsg 8 (mCB gLen (mCons (mLCD [("_law_held",2)] (mVarF 2) ct1_law ce1_law) mNil)))
    (mRet (mAndV (mIsi "int" (mVar 7)) (mAndV (mNotV (mIsi "bool" (mVar 7))) (mOp gEq (mVar 7) (mOp gAdd (mCB gLen (mCons (mVar 1) mNil)) (mOp gMul (mC (.int 2)) (mVar 8)))))))))))))) [.fz X,.own (TD tops),.own (HD keys row),.fz W,.no,.no,.no,.no,.no]=some (.rt (.bool true,.fz) ρ):=by
  have hkl:=P.kl
  have htl:=P.tl
  have e1:=inform_is hc P
  have e2:=form_is hc P
  rw [forms P.nd] at e2
  generalize formL tops keys row=F at e1 e2
  let pd:D:=.tuple [TD tops,HD keys row]
  have s1:mAsg 4 (mCall m_law_in_form (mCons (mVar 1) (mCons (mVar 2) mNil))) [.fz X,.own (TD tops),.own (HD keys row),.fz W,.no,.no,.no,.no,.no]=some (.nx [.fz X,.own (TD tops),.own (HD keys row),.fz W,.fz (.bool F),.no,.no,.no,.no]):=asg_fz (call_pure (rs:=[(TD tops,.at 1),(HD keys row,.at 2)]) (cons_at (sv_at (var_own rfl)) (cons_at (sv_at (var_own rfl)) nil_ev rfl) rfl) e1 rfl) rfl
  have s2:mAsg 5 (mTup (mCons (mCB gList (mCons (mVar 1) mNil)) (mCons (mCB gDictC (mCons (mVar 2) mNil)) mNil))) [.fz X,.own (TD tops),.own (HD keys row),.fz W,.fz (.bool F),.no,.no,.no,.no]=some (.nx [.fz X,.own (TD tops),.own (HD keys row),.fz W,.fz (.bool F),.fz pd,.no,.no,.no]):=asg_fz (tup_ev (rs:=[(TD tops,.fz),(HD keys row,.fz)]) (cons_fz (sv_new (cb_is (i:=1) (x:=TD tops) (res:=(TD tops,true)) (.inr (.inl rfl)) rfl)) (cons_fz (sv_new (cb_is (i:=2) (x:=HD keys row) (res:=(HD keys row,true)) (.inr (.inl rfl)) rfl)) nil_ev)) rfl (by simp)) rfl
  have s3:mAsg 6 (mCall m_pile_in_form (mCons (mVar 5) mNil)) [.fz X,.own (TD tops),.own (HD keys row),.fz W,.fz (.bool F),.fz pd,.no,.no,.no]=some (.nx [.fz X,.own (TD tops),.own (HD keys row),.fz W,.fz (.bool F),.fz pd,.fz (.bool F),.no,.no]):=asg_fz (call_pure (rs:=[(pd,.fz)]) rfl e2 rfl) rfl
  have pl:pileish pd:=by
    refine ⟨shaped_TD P.tok,fun e he=>?_⟩
    obtain ⟨n,hn,rfl⟩:=List.mem_map.mp he
    exact shaped_row (P.aok n hn) (P.bok n hn).2
  have t1:mNot (mTest (mIsi "bool" (mVar 6))) [.fz X,.own (TD tops),.own (HD keys row),.fz W,.fz (.bool F),.fz pd,.fz (.bool F),.no,.no]=some (false,[.fz X,.own (TD tops),.own (HD keys row),.fz W,.fz (.bool F),.fz pd,.fz (.bool F),.no,.no]):=not_ev (v:=true) (test_ev (k:=.fz) (isi_ev (sv_fz (var_fz rfl)) (by simp [gIsi,tyD,tyAsked,tyIs])))
  have t2:mTest (mOp gNe (mVar 6) (mVar 4)) [.fz X,.own (TD tops),.own (HD keys row),.fz W,.fz (.bool F),.fz pd,.fz (.bool F),.no,.no]=some (false,[.fz X,.own (TD tops),.own (HD keys row),.fz W,.fz (.bool F),.fz pd,.fz (.bool F),.no,.no]):=test_ev (k:=.fz) (op_ev (r:=(.bool F,.fz)) (res:=(.bool false,false)) (sv_fz (var_fz rfl)) (sv_fz (var_fz rfl)) (by rw [gNe_bool]; simp))
  have tt:mTup (mCons (mVar 1) (mCons (mVar 2) mNil)) [.fz X,.own (TD tops),.own (HD keys row),.fz W,.fz (.bool F),.fz pd,.fz (.bool F),.no,.no]=some ((pd,.fz),[.fz X,.fz (TD tops),.fz (HD keys row),.fz W,.fz (.bool F),.fz pd,.fz (.bool F),.no,.no]):=tup_ev (rs:=[(TD tops,.at 1),(HD keys row,.at 2)]) (cons_at (sv_at (var_own rfl)) (cons_at (sv_at (var_own rfl)) nil_ev rfl) rfl) rfl (by simp)
  have t3:mTest (mOp gNeP (mVar 5) (mTup (mCons (mVar 1) (mCons (mVar 2) mNil)))) [.fz X,.own (TD tops),.own (HD keys row),.fz W,.fz (.bool F),.fz pd,.fz (.bool F),.no,.no]=some (false,[.fz X,.fz (TD tops),.fz (HD keys row),.fz W,.fz (.bool F),.fz pd,.fz (.bool F),.no,.no]):=test_ev (k:=.fz) (op_ev (r:=(pd,.fz)) (res:=(.bool false,false)) (sv_fz (var_fz rfl)) (sv_fz tt) (by show cIf _ _ _=_; rw [cIf_pos ⟨rfl,pl⟩]))
  have s4:=if_f (s:=mRet (mC (.bool false))) (t:=mPass) (or_f t1 (or_f t2 t3)) rfl
  cases F with
  | false=>exact ⟨_,seq_nx s1 (seq_nx s2 (seq_nx s3 (seq_nx s4 (seq_rt (if_t (not_ev (v:=false) (test_ev (k:=.fz) (var_fz rfl))) (ret_eq rfl))))))⟩
  | true =>
    have s5:mIfS (mNot (mTest (mVar 4))) (mRet (mC (.bool true))) mPass [.fz X,.fz (TD tops),.fz (HD keys row),.fz W,.fz (.bool true),.fz pd,.fz (.bool true),.no,.no]=some (.nx [.fz X,.fz (TD tops),.fz (HD keys row),.fz W,.fz (.bool true),.fz pd,.fz (.bool true),.no,.no]):=if_f (not_ev (v:=true) (test_ev (k:=.fz) (var_fz rfl))) rfl
    have fl:(keys.filter fun n=>(row n).mark).length≤1000:=Nat.le_trans (List.length_filter_le _ _) (by omega)
    generalize hm:(keys.filter fun n=>(row n).mark)=M at fl
    have e3:=credit_is P
    rw [hm] at e3
    have s6:mAsg 7 (mCall m_pile_credit (mCons (mVar 5) mNil)) [.fz X,.fz (TD tops),.fz (HD keys row),.fz W,.fz (.bool true),.fz pd,.fz (.bool true),.no,.no]=some (.nx [.fz X,.fz (TD tops),.fz (HD keys row),.fz W,.fz (.bool true),.fz pd,.fz (.bool true),.fz (.int ((tops.length:Int) + 2 * (M.length:Int))),.no]):=asg_fz (call_pure (rs:=[(pd,.fz)]) rfl e3 rfl) rfl
    have f1:mLCD [("_law_held",2)] (mVarF 2) ct1_law ce1_law [.fz X,.fz (TD tops),.fz (HD keys row),.fz W,.fz (.bool true),.fz pd,.fz (.bool true),.fz (.int ((tops.length:Int) + 2 * (M.length:Int))),.no]=some ((TD M,.new),[.fz X,.fz (TD tops),.fz (HD keys row),.fz W,.fz (.bool true),.fz pd,.fz (.bool true),.fz (.int ((tops.length:Int) + 2 * (M.length:Int))),.no]):=by
      refine lcd_ev rfl rfl ?_ (by rw [List.length_map]; omega)
      rw [← hm]
      exact compL_filter (p:=fun n=>(row n).mark) keys (fun n hn=>⟨_,test_ev (k:=.fz) (row_mark (row_is (i:=1) (.inl rfl) hn (var_fz rfl)))⟩) fun n hn=>⟨_,sv_fz (var_fz rfl)⟩
    have s7:mAsg 8 (mCB gLen (mCons (mLCD [("_law_held",2)] (mVarF 2) ct1_law ce1_law) mNil)) [.fz X,.fz (TD tops),.fz (HD keys row),.fz W,.fz (.bool true),.fz pd,.fz (.bool true),.fz (.int ((tops.length:Int) + 2 * (M.length:Int))),.no]=some (.nx [.fz X,.fz (TD tops),.fz (HD keys row),.fz W,.fz (.bool true),.fz pd,.fz (.bool true),.fz (.int ((tops.length:Int) + 2 * (M.length:Int))),.fz (.int (M.length:Int))]):=asg_fz (cb_ev (rs:=[(TD M,.fz)]) (res:=(.int (M.length:Int),false)) (cons_fz (sv_new f1) nil_ev) (by show some (PyData.int ((M.map PyData.str).length:Int),false)=_; rw [List.length_map])) rfl
    refine ⟨[.fz X,.fz (TD tops),.fz (HD keys row),.fz W,.fz (.bool true),.fz pd,.fz (.bool true),.fz (.int ((tops.length:Int) + 2 * (M.length:Int))),.fz (.int (M.length:Int))],seq_nx s1 (seq_nx s2 (seq_nx s3 (seq_nx s4 (seq_nx s5 (seq_nx s6 (seq_nx s7 (ret_eq ?_)))))))⟩
    refine be_and (u:=true) (v:=true) (isi_ev (sv_fz (var_fz rfl)) (by simp [gIsi,tyD,tyAsked,tyIs])) (fun _=>?_) (fun z=>by cases z)
    refine be_and (u:=true) (v:=true) (be_not (u:=false) (isi_ev (sv_fz (var_fz rfl)) (by simp [gIsi,tyD,tyAsked,tyIs]))) (fun _=>?_) (fun z=>by cases z)
    exact (be_eq (ie_var rfl) (ie_add (tlen_is (i:=1) (l:=tops) (.inl rfl)) (ie_mul ie_c (ie_var rfl) (mulOk (.inl ⟨by omega,by omega⟩))))).is (decide_eq_true rfl)
theorem law_true (ns:List Int) (hl:ns.length≤63) (hb:∀ k∈ns,Builtin.Int.intBits k≤1048576):m_law [.list (ns.map .int)]=some (.bool true,false):=by
  obtain ⟨cs,e0,l0,_⟩:=cut_ints ns 3 63
  obtain ⟨tops,keys,row,h1,P,hne⟩:=begun_is cs (by omega)
  have c0:=cell_at ns 0
  have c1:=cell_at ns 1
  have c2:=cell_at ns 2
  generalize hX:(PyData.list (ns.map .int):D)=X at *
  generalize cell ns 0=w at c0
  generalize cell ns 1=u1 at c1
  generalize cell ns 2=u2 at c2
  have sl:mSl gSl (mVar 0) (mPart (mC (.int 3))) (mPart (mC (.int 63))) [.fz X,.no,.no,.no,.no,.no,.no,.no,.no]=some ((.list (cs.map .int),.new),[.fz X,.no,.no,.no,.no,.no,.no,.no,.no]):=by rw [← e0,← hX]; rfl
  have s0:mUnp 1 2 d_law_begun (mCons (mSl gSl (mVar 0) (mPart (mC (.int 3))) (mPart (mC (.int 63)))) mNil) [.fz X,.no,.no,.no,.no,.no,.no,.no,.no]=some (.nx [.fz X,.own (TD tops),.own (HD keys row),.no,.no,.no,.no,.no,.no]):=by
    unfold mUnp
    rw [cons_fz (sv_new sl) nil_ev,Option.bind_some]
    show (d_law_begun [.list (cs.map .int)]).bind _=_
    rw [h1]; rfl
  have s1:mAsg 3 (mCall m_law_cell_at (mCons (mVar 0) (mCons (mC (.int 0)) mNil))) [.fz X,.own (TD tops),.own (HD keys row),.no,.no,.no,.no,.no,.no]=some (.nx [.fz X,.own (TD tops),.own (HD keys row),.fz (.int w),.no,.no,.no,.no,.no]):=asg_fz (call_pure (rs:=[(X,.fz),(.int 0,.fz)]) rfl c0 rfl) rfl
  have sp:∀ (u:Int) (k:Int) (tops keys:List Str) (row:Str->Pile.Row) (tops':List Str) (row':Str->Pile.Row),m_law_cell_at [X,.int k]=some (.int u,false)->m_law_spoiled [TD tops,HD keys row,.int u]=some ((.none,false),TD tops',HD keys row')->mDrop (mCallJ 1 2 m_law_spoiled (mCons (mCall m_law_cell_at (mCons (mVar 0) (mCons (mC (.int k)) mNil))) mNil)) [.fz X,.own (TD tops),.own (HD keys row),.fz (.int w),.no,.no,.no,.no,.no]=some (.nx [.fz X,.own (TD tops'),.own (HD keys row'),.fz (.int w),.no,.no,.no,.no,.no]):=fun u k tops keys row tops' row' hu hs=>drop_ev (callJ_ev (r:=(.none,.fz)) (by decide) rfl rfl (consI (ie_call (rs:=[(X,.fz),(.int k,.fz)]) rfl hu) nil_ev) rfl rfl rfl hs rfl)
  have st2:∃ (tops1:List Str) (row1:Str->Pile.Row),mIfS (mTest (mOp gGt (mOp gMod (mVar 3) (mC (.int 4))) (mC (.int 0)))) (mDrop (mCallJ 1 2 m_law_spoiled (mCons (mCall m_law_cell_at (mCons (mVar 0) (mCons (mC (.int 1)) mNil))) mNil))) mPass [.fz X,.own (TD tops),.own (HD keys row),.fz (.int w),.no,.no,.no,.no,.no]=some (.nx [.fz X,.own (TD tops1),.own (HD keys row1),.fz (.int w),.no,.no,.no,.no,.no])∧Pw 1 tops1 keys row1:=by
    have em:IE (mOp gMod (mVar 3) (mC (.int 4))) [.fz X,.own (TD tops),.own (HD keys row),.fz (.int w),.no,.no,.no,.no,.no] (w % 4):=ie_mod (ie_var rfl) ie_c (by decide)
    by_cases q : 0 < w % 4
    . obtain ⟨tops1,row1,h2,P1⟩:=spoiled_is (by omega) P hne u1
      exact ⟨tops1,row1,if_t (tstB (be_gt em ie_c) (decide_eq_true q)) (sp u1 1 tops keys row tops1 row1 c1 h2),P1⟩
    . exact ⟨tops,row,if_f (tstB (be_gt em ie_c) (decide_eq_false q)) rfl,P.more (by omega) P.tok⟩
  obtain ⟨tops1,row1,s2,P1⟩:=st2
  have st3:∃ (tops2:List Str) (row2:Str->Pile.Row),mIfS (mAnd (mTest (mOp gGt (mOp gMod (mVar 3) (mC (.int 8))) (mC (.int 4)))) (mTest (mOp gGt (mCB gLen (mCons (mVar 1) mNil)) (mC (.int 0))))) (mDrop (mCallJ 1 2 m_law_spoiled (mCons (mCall m_law_cell_at (mCons (mVar 0) (mCons (mC (.int 2)) mNil))) mNil))) mPass [.fz X,.own (TD tops1),.own (HD keys row1),.fz (.int w),.no,.no,.no,.no,.no]=some (.nx [.fz X,.own (TD tops2),.own (HD keys row2),.fz (.int w),.no,.no,.no,.no,.no])∧Pw 2 tops2 keys row2:=by
    have em:IE (mOp gMod (mVar 3) (mC (.int 8))) [.fz X,.own (TD tops1),.own (HD keys row1),.fz (.int w),.no,.no,.no,.no,.no] (w % 8):=ie_mod (ie_var rfl) ie_c (by decide)
    have el:IE (mCB gLen (mCons (mVar 1) mNil)) [.fz X,.own (TD tops1),.own (HD keys row1),.fz (.int w),.no,.no,.no,.no,.no] (tops1.length:Int):=tlen_is (.inr (.inl rfl))
    by_cases q : 4 < w % 8
    . by_cases q2 : 0 < tops1.length
      . obtain ⟨tops2,row2,h2,P2⟩:=spoiled_is (by omega) P1 (fun _=>List.length_pos_iff.mp q2) u2
        exact ⟨tops2,row2,if_t (and_t (tstB (be_gt em ie_c) (decide_eq_true q)) (tstB (be_gt el ie_c) (decide_eq_true (by omega)))) (sp u2 2 tops1 keys row1 tops2 row2 c2 h2),P2⟩
      . exact ⟨tops1,row1,if_f (and_t (tstB (be_gt em ie_c) (decide_eq_true q)) (tstB (be_gt el ie_c) (decide_eq_false (by omega)))) rfl,P1.more (by omega) P1.tok⟩
    . exact ⟨tops1,row1,if_f (and_f (tstB (be_gt em ie_c) (decide_eq_false q))) rfl,P1.more (by omega) P1.tok⟩
  obtain ⟨tops2,row2,s3,P2⟩:=st3
  obtain ⟨ρ,ht⟩:=tail_is (by omega : 2≤3) P2 X (.int w)
  exact fn_of rfl (seq_nx s0 (seq_nx s1 (seq_nx s2 (seq_nx s3 ht)))) rfl
end K71
set_option maxHeartbeats 4000000
set_option Elab.async false
set_option linter.all false
set_option maxRecDepth 100000
def PySem.W.Fast.tw7421837317962822564:Nat:=0
def PySem.W.Fast.tw7541102294361088932:Nat:=0
def PySem.W.Fast.tw17107849653578138203:Nat:=0
def PySem.W.Fast.tw6064440607689918875:Nat:=0
def PySem.W.Fast.tw1379537813306314433:Nat:=0
def PySem.W.Fast.tw7157858635194607059:Nat:=0
def PySem.W.Fast.tw8995350497069347209:Nat:=0
namespace K71
open PySem L2 Mir
def top (i:Nat):Stmt:=PySem.Challenge.pw_creditworks_k71_piles_in_form.main.body.getD i (.Pass ⟨0,0,0,0⟩)
abbrev s_law_like:Stmt:=top 14
theorem sc_law_like:FnScope ["_law_tops","_law_held","_law_start","_law_k","_law_j","_law_one","_law_other"] ["_law_tops","_law_held","_law_start"] (defScope s_law_like):=⟨rfl,rfl,rfl,by decide +kernel,rfl,by decide +kernel,by decide +kernel⟩
abbrev s_law_cut:Stmt:=top 12
theorem sc_law_cut:FnScope ["_law_tops","_law_held","_law_name","_law_steps","_law_going","_law_key","_law_above","_law_mark","_law_below","_law_further","_law_marked"] ["_law_tops","_law_held","_law_name"] (defScope s_law_cut):=⟨rfl,rfl,rfl,by decide +kernel,rfl,by decide +kernel,by decide +kernel⟩
abbrev s_law_before:Stmt:=top 13
theorem sc_law_before:FnScope ["_law_held","_law_one","_law_other"] ["_law_held","_law_one","_law_other"] (defScope s_law_before):=⟨rfl,rfl,rfl,by decide +kernel,rfl,by decide +kernel,by decide +kernel⟩
abbrev s_law_hung:Stmt:=top 11
theorem sc_law_hung:FnScope ["_law_tops","_law_held","_law_name","_law_on","_law_key","_law_above","_law_mark","_law_below"] ["_law_tops","_law_held","_law_name","_law_on"] (defScope s_law_hung):=⟨rfl,rfl,rfl,by decide +kernel,rfl,by decide +kernel,by decide +kernel⟩
abbrev s_law_name_by:Stmt:=top 9
theorem sc_law_name_by:FnScope ["_law_k","_law_letters","_law_name"] ["_law_k"] (defScope s_law_name_by):=⟨rfl,rfl,rfl,by decide +kernel,rfl,by decide +kernel,by decide +kernel⟩
abbrev s_law_key_by:Stmt:=top 10
theorem sc_law_key_by:FnScope ["_law_number"] ["_law_number"] (defScope s_law_key_by):=⟨rfl,rfl,rfl,by decide +kernel,rfl,by decide +kernel,by decide +kernel⟩
abbrev s_law_built:Stmt:=top 15
theorem sc_law_built:FnScope ["_law_cells","_law_first","_law_tops","_law_held","_law_k","_law_cell","_law_number","_law_like_here","_law_names","_law_name"] ["_law_cells","_law_first"] (defScope s_law_built):=⟨rfl,rfl,rfl,by decide +kernel,rfl,by decide +kernel,by decide +kernel⟩
abbrev s_law_grown:Stmt:=top 16
theorem sc_law_grown:FnScope ["_law_held","_law_many","_law_above","_law_mark","_law_key","_law_name","_law_below"] ["_law_held","_law_many","_law_above","_law_mark","_law_key"] (defScope s_law_grown):=⟨rfl,rfl,rfl,by decide +kernel,rfl,by decide +kernel,by decide +kernel⟩
abbrev s_law_begun:Stmt:=top 17
theorem sc_law_begun:FnScope ["_law_cells","_law_held","_law_tops","_law_cell","_law_name"] ["_law_cells"] (defScope s_law_begun):=⟨rfl,rfl,rfl,by decide +kernel,rfl,by decide +kernel,by decide +kernel⟩
abbrev s_law_cell_at:Stmt:=top 8
theorem sc_law_cell_at:FnScope ["_law_script","_law_k"] ["_law_script","_law_k"] (defScope s_law_cell_at):=⟨rfl,rfl,rfl,by decide +kernel,rfl,by decide +kernel,by decide +kernel⟩
abbrev s_law_reaches:Stmt:=top 20
theorem sc_law_reaches:FnScope ["_law_held","_law_name","_law_k"] ["_law_held","_law_name"] (defScope s_law_reaches):=⟨rfl,rfl,rfl,by decide +kernel,rfl,by decide +kernel,by decide +kernel⟩
abbrev s_law_name_right:Stmt:=top 21
theorem sc_law_name_right:FnScope ["_law_held","_law_name","_law_key","_law_above","_law_mark","_law_below","_law_k"] ["_law_held","_law_name"] (defScope s_law_name_right):=⟨rfl,rfl,rfl,by decide +kernel,rfl,by decide +kernel,by decide +kernel⟩
abbrev s_law_in_form:Stmt:=top 22
theorem sc_law_in_form:FnScope ["_law_tops","_law_held","_law_name"] ["_law_tops","_law_held"] (defScope s_law_in_form):=⟨rfl,rfl,rfl,by decide +kernel,rfl,by decide +kernel,by decide +kernel⟩
abbrev s_hangs_well:Stmt:=top 4
theorem sc_hangs_well:FnScope ["held","name","place","lower","wanted"] ["held","name","place"] (defScope s_hangs_well):=⟨rfl,rfl,rfl,by decide +kernel,rfl,by decide +kernel,by decide +kernel⟩
abbrev s_standing:Stmt:=top 1
theorem sc_standing:FnScope ["held","name"] ["held","name"] (defScope s_standing):=⟨rfl,rfl,rfl,by decide +kernel,rfl,by decide +kernel,by decide +kernel⟩
abbrev s_ties_in_form:Stmt:=top 3
theorem sc_ties_in_form:FnScope ["held","name","above"] ["held","name"] (defScope s_ties_in_form):=⟨rfl,rfl,rfl,by decide +kernel,rfl,by decide +kernel,by decide +kernel⟩
abbrev s_comes_to_top:Stmt:=top 5
theorem sc_comes_to_top:FnScope ["held","name","at","look"] ["held","name"] (defScope s_comes_to_top):=⟨rfl,rfl,rfl,by decide +kernel,rfl,by decide +kernel,by decide +kernel⟩
abbrev s_pile_in_form:Stmt:=top 2
theorem sc_pile_in_form:FnScope ["pile","tops","held"] ["pile"] (defScope s_pile_in_form):=⟨rfl,rfl,rfl,by decide +kernel,rfl,by decide +kernel,by decide +kernel⟩
abbrev s_pile_credit:Stmt:=top 6
theorem sc_pile_credit:FnScope ["pile","marked"] ["pile"] (defScope s_pile_credit):=⟨rfl,rfl,rfl,by decide +kernel,rfl,by decide +kernel,by decide +kernel⟩
abbrev s_law_entry_spoiled:Stmt:=top 18
theorem sc_law_entry_spoiled:FnScope ["_law_held","_law_name","_law_way","_law_other","_law_key","_law_above","_law_mark","_law_below"] ["_law_held","_law_name","_law_way","_law_other"] (defScope s_law_entry_spoiled):=⟨rfl,rfl,rfl,by decide +kernel,rfl,by decide +kernel,by decide +kernel⟩
abbrev s_law_spoiled:Stmt:=top 19
theorem sc_law_spoiled:FnScope ["_law_tops","_law_held","_law_cell","_law_names","_law_way","_law_other"] ["_law_tops","_law_held","_law_cell"] (defScope s_law_spoiled):=⟨rfl,rfl,rfl,by decide +kernel,rfl,by decide +kernel,by decide +kernel⟩
abbrev s_law:Stmt:=top 23
theorem sc_law:FnScope ["_law_script","_law_tops","_law_held","_law_way","_law_due","_law_pile","_law_found","_law_credit","_law_marked"] ["_law_script"] (defScope s_law):=⟨rfl,rfl,rfl,by decide +kernel,rfl,by decide +kernel,by decide +kernel⟩
section
variable {P:Program} {w:World} {K:PySem.W.Frag} {mg:Str->Option Value} {base:Heap}
def NoGl (mg:Str->Option Value):Prop:=∀ x∈(["all","bool","dict","enumerate","int","isinstance","len","list","max","range","sorted","tuple"]:List Str),mg x=none
theorem ok_law_like (Z:NoGl mg) (T:Top K mg "_law_like" s_law_like) :Def P w K mg base CX0 1 "_law_like" ["_law_tops","_law_held","_law_start"] (spM m_law_like):=by
  have z_len:mg "len" = none:=Z _ (by decide +kernel)
  have z_range:mg "range" = none:=Z _ (by decide +kernel)
  refine T.def sc_law_like (fun vs H Q E h=>spM_len h) (fun _ _ _ _ _ _ us hl=>match us,hl with | [_,_,_],_=>rfl) fun f cdv A outer s H vs Q E hr h=>?_
  have hu:=hr.units
  exact ⟨_,(pss_cons (ps_for PassesOwn.never rfl (pi_range1 rfl z_range (pa_cons (pe_callB (call_lenK (K:=K) rfl) rfl z_len PySem.boot_len (pa_cons (pv 0) pa_nil)) pa_nil)) (pg_name (i:=3) sc_law_like.nd rfl (by first | exact Or.inl rfl | exact Or.inr rfl))
      (pss_one (ps_for PassesOwn.never rfl (pi_range1 rfl z_range (pa_cons (pv 3) pa_nil)) (pg_name (i:=4) sc_law_like.nd rfl (by first | exact Or.inl rfl | exact Or.inr rfl))
      (pss_cons (ps_set (i:=5) sc_law_like.nd rfl (by first | exact Or.inl rfl | exact Or.inr rfl) (pe_ix (ix_seqK (K:=K) rfl) (pv 0) (pe_op op_mod (pe_op (op_addK (K:=K) rfl) (pv 2) (pv 3)) (pe_callB (call_lenK (K:=K) rfl) rfl z_len PySem.boot_len (pa_cons (pv 0) pa_nil))) (fun _ _=>rfl)))
      (pss_cons (ps_set (i:=6) sc_law_like.nd rfl (by first | exact Or.inl rfl | exact Or.inr rfl) (pe_ix (ix_seqK (K:=K) rfl) (pv 0) (pe_op op_mod (pe_op (op_addK (K:=K) rfl) (pv 2) (pv 4)) (pe_callB (call_lenK (K:=K) rfl) rfl z_len PySem.boot_len (pa_cons (pv 0) pa_nil))) (fun _ _=>rfl)))
      (pss_one (ps_if (pt_cmpR (op_eqK (K:=K) rfl hu) (pe_callB (call_lenK (K:=K) rfl) rfl z_len PySem.boot_len (pa_cons (pe_ix (ix_seqK (K:=K) rfl) (pe_dget (Nat.lt_of_le_of_lt (Nat.add_le_add_left (by decide) _) hu) (pv 1) (pv 5) (fun _ _=>rfl)) pe_int (fun _ _=>rfl)) pa_nil)) (pe_callB (call_lenK (K:=K) rfl) rfl z_len PySem.boot_len (pa_cons (pe_ix (ix_seqK (K:=K) rfl) (pe_dget (Nat.lt_of_le_of_lt (Nat.add_le_add_left (by decide) _) hu) (pv 1) (pv 6) (fun _ _=>rfl)) pe_int (fun _ _=>rfl)) pa_nil)) (nomark _))
      (pss_one (ps_ret (pe_lst (pa_cons (pv 5) (pa_cons (pv 6) pa_nil)))))
      pss_nil)))))))
      (pss_one (ps_ret (pe_lst pa_nil)))),
      fn_run (n:=3) (k:=4) (ms_seq (ms_for (mf_rng1 (ma_cons (me_cb J_len (ma_cons me_var ma_nil)) ma_nil)) mg_name
      (ms_for (mf_rng1 (ma_cons me_var ma_nil)) mg_name
      (ms_seq (ms_asg (me_op J_ix me_var (me_op J_I (me_op J_add me_var me_var) (me_cb J_len (ma_cons me_var ma_nil)))))
      (ms_seq (ms_asg (me_op J_ix me_var (me_op J_I (me_op J_add me_var me_var) (me_cb J_len (ma_cons me_var ma_nil)))))
      (ms_if (mt_test (me_op J_eq (me_cb J_len (ma_cons (me_op J_ix (me_op J_ixD me_var me_var) me_int) ma_nil)) (me_cb J_len (ma_cons (me_op J_ix (me_op J_ixD me_var me_var) me_int) ma_nil))))
      (ms_ret (me_lst (ma_cons me_var (ma_cons me_var ma_nil))))
      ms_next)))))
      (ms_ret (me_lst ma_nil))) rfl h⟩
theorem ok_law_cut (Z:NoGl mg) (T:Top K mg "_law_cut" s_law_cut) :Def P w K mg base CX0 1 "_law_cut" ["_law_tops","_law_held","_law_name"] (spJ m_law_cut):=by
  have z_tuple:mg "tuple" = none:=Z _ (by decide +kernel)
  refine T.def sc_law_cut (fun vs H Q E h=>spJ_len h) (fun _ _ _ _ _ _ us hl=>match us,hl with | [_,_,_],_=>rfl) fun f cdv A outer s H vs Q E hr h=>?_
  have hu:=hr.units
  exact ⟨_,(pss_cons (ps_set (i:=3) sc_law_cut.nd rfl (by first | exact Or.inl rfl | exact Or.inr rfl) (pe_lst pa_nil))
      (pss_cons (ps_set (i:=4) sc_law_cut.nd rfl (by first | exact Or.inl rfl | exact Or.inr rfl) (pe_cmpR op_notN (pe_ix (ix_seqK (K:=K) rfl) (pe_dget (Nat.lt_of_le_of_lt (Nat.add_le_add_left (by decide) _) hu) (pv 1) (pv 2) (fun _ _=>rfl)) pe_int (fun _ _=>rfl)) pe_non (nomark _)))
      (pss_cons (ps_while PassesOwn.never (pt_val (pv 4))
      (pss_cons (ps_asg (pe_dget (Nat.lt_of_le_of_lt (Nat.add_le_add_left (by decide) _) hu) (pv 1) (pv 2) (fun _ _=>rfl)) (pg_tupL rfl (pgs_cons (pg_name (i:=5) sc_law_cut.nd rfl (by first | exact Or.inl rfl | exact Or.inr rfl)) (pgs_cons (pg_name (i:=6) sc_law_cut.nd rfl (by first | exact Or.inl rfl | exact Or.inr rfl)) (pgs_cons (pg_name (i:=7) sc_law_cut.nd rfl (by first | exact Or.inl rfl | exact Or.inr rfl)) (pgs_cons (pg_name (i:=8) sc_law_cut.nd rfl (by first | exact Or.inl rfl | exact Or.inr rfl)) pgs_nil))))))
      (pss_cons (ps_dput (Nat.lt_of_le_of_lt (Nat.add_le_add_left (by decide) _) hu) (pv 1) (pv 2) (pe_tup (pa_cons (pv 5) (pa_cons pe_non (pa_cons pe_bl (pa_cons (pv 8) pa_nil))))) rfl)
      (pss_cons (ps_expr (pe_bmK (K:=K) rfl PySem.F.plainAttrs_list PySem.F.slot_list_append PySem.F.type_list_append mt_append (pv 0) (pa_cons (pv 2) pa_nil)))
      (pss_cons (ps_expr (pe_bmK (K:=K) rfl PySem.F.plainAttrs_list PySem.F.slot_list_append PySem.F.type_list_append mt_append (pv 3) (pa_cons (pe_tup (pa_cons pe_str (pa_cons (pv 2) pa_nil))) pa_nil)))
      (pss_cons (ps_asg (pe_dget (Nat.lt_of_le_of_lt (Nat.add_le_add_left (by decide) _) hu) (pv 1) (pv 6) (fun _ _=>rfl)) (pg_tupL rfl (pgs_cons (pg_name (i:=5) sc_law_cut.nd rfl (by first | exact Or.inl rfl | exact Or.inr rfl)) (pgs_cons (pg_name (i:=9) sc_law_cut.nd rfl (by first | exact Or.inl rfl | exact Or.inr rfl)) (pgs_cons (pg_name (i:=10) sc_law_cut.nd rfl (by first | exact Or.inl rfl | exact Or.inr rfl)) (pgs_cons (pg_name (i:=8) sc_law_cut.nd rfl (by first | exact Or.inl rfl | exact Or.inr rfl)) pgs_nil))))))
      (pss_cons (ps_set (i:=8) sc_law_cut.nd rfl (by first | exact Or.inl rfl | exact Or.inr rfl) (pe_callTy (call_tupleK (K:=K) rfl) rfl z_tuple PyProof.Rows.boot_tuple (pa_cons (pe_lc (fr:=[("_law_name",2)]) rfl ⟨rfl,rfl,rfl,rfl,rfl,rfl,by decide +kernel⟩ (pi_tupK (K:=K) rfl (pv 8)) (fun _ _ _ _=>(pif_one (pt_cmpR (op_neK (K:=K) rfl hu) (pv 0) (pv 1) (nomark _)))) (fun _ _ _ _=>(pv 0))) pa_nil)))
      (pss_cons (ps_dput (Nat.lt_of_le_of_lt (Nat.add_le_add_left (by decide) _) hu) (pv 1) (pv 6) (pe_tup (pa_cons (pv 5) (pa_cons (pv 9) (pa_cons (pe_cmpR op_notN (pv 9) pe_non (nomark _)) (pa_cons (pv 8) pa_nil))))) rfl)
      (pss_cons (ps_set (i:=4) sc_law_cut.nd rfl (by first | exact Or.inl rfl | exact Or.inr rfl) (pv 10))
      (pss_one (ps_set (i:=2) sc_law_cut.nd rfl (by first | exact Or.inl rfl | exact Or.inr rfl) (pv 6))))))))))))
      (pss_one (ps_ret (pv 3)))))),
      fn_runJ (n:=3) (k:=8) (ms_seq (ms_asg (me_lst ma_nil))
      (ms_seq (ms_asg (me_op J_isNot (me_op J_ix (me_op J_ixD me_var me_var) me_int) me_non))
      (ms_seq (ms_while (mt_tB me_var)
      (ms_seq (ms_asgG (me_op J_ixD me_var me_var) (mg_tupL (mgs_cons mg_name (mgs_cons mg_name (mgs_cons mg_name (mgs_cons mg_name mgs_nil))))))
      (ms_seq (ms_putD (i:=1) (me_tup (ma_cons me_var (ma_cons me_non (ma_cons me_bl (ma_cons me_var ma_nil))))) me_var)
      (ms_seq (ms_drop (me_mut J_append (ma_cons me_var ma_nil)))
      (ms_seq (ms_drop (me_mut J_append (ma_cons (me_tup (ma_cons me_str (ma_cons me_var ma_nil))) ma_nil)))
      (ms_seq (ms_asgG (me_op J_ixD me_var me_var) (mg_tupL (mgs_cons mg_name (mgs_cons mg_name (mgs_cons mg_name (mgs_cons mg_name mgs_nil))))))
      (ms_seq (ms_asg (me_cb J_tuple (ma_cons (me_lc (mi_tup me_var) (mt_test (me_op J_ne me_var me_var)) me_var) ma_nil)))
      (ms_seq (ms_putD (i:=1) (me_tup (ma_cons me_var (ma_cons me_var (ma_cons (me_op J_isNot me_var me_non) (ma_cons me_var ma_nil))))) me_var)
      (ms_seq (ms_asg me_var)
      (ms_asg me_var))))))))))
      (ms_ret me_var)))) rfl h⟩
theorem ok_law_before (Z:NoGl mg) (T:Top K mg "_law_before" s_law_before) :Def P w K mg base CX0 1 "_law_before" ["_law_held","_law_one","_law_other"] (spM m_law_before):=by
  refine T.def sc_law_before (fun vs H Q E h=>spM_len h) (fun _ _ _ _ _ _ us hl=>match us,hl with | [_,_,_],_=>rfl) fun f cdv A outer s H vs Q E hr h=>?_
  have hu:=hr.units
  exact ⟨_,(pss_one (ps_ret (pe_cmpR (op_ltP (K:=K) rfl (Nat.lt_of_le_of_lt (Nat.le_add_right _ _) hu)) (pe_tup (pa_cons (pe_ix (ix_seqK (K:=K) rfl) (pe_dget (Nat.lt_of_le_of_lt (Nat.add_le_add_left (by decide) _) hu) (pv 0) (pv 1) (fun _ _=>rfl)) pe_int (fun _ _=>rfl)) (pa_cons (pv 1) pa_nil))) (pe_tup (pa_cons (pe_ix (ix_seqK (K:=K) rfl) (pe_dget (Nat.lt_of_le_of_lt (Nat.add_le_add_left (by decide) _) hu) (pv 0) (pv 2) (fun _ _=>rfl)) pe_int (fun _ _=>rfl)) (pa_cons (pv 2) pa_nil))) (nomark _)))),
      fn_run (n:=3) (k:=0) (ms_ret (me_op J_ltP (me_tup (ma_cons (me_op J_ix (me_op J_ixD me_var me_var) me_int) (ma_cons me_var ma_nil))) (me_tup (ma_cons (me_op J_ix (me_op J_ixD me_var me_var) me_int) (ma_cons me_var ma_nil))))) rfl h⟩
theorem ok_law_hung (Z:NoGl mg) (T:Top K mg "_law_hung" s_law_hung) :Def P w K mg base CX0 1 "_law_hung" ["_law_tops","_law_held","_law_name","_law_on"] (spJ m_law_hung):=by
  refine T.def sc_law_hung (fun vs H Q E h=>spJ_len h) (fun _ _ _ _ _ _ us hl=>match us,hl with | [_,_,_,_],_=>rfl) fun f cdv A outer s H vs Q E hr h=>?_
  have hu:=hr.units
  exact ⟨_,(pss_cons (ps_asg (pe_dget (Nat.lt_of_le_of_lt (Nat.add_le_add_left (by decide) _) hu) (pv 1) (pv 2) (fun _ _=>rfl)) (pg_tupL rfl (pgs_cons (pg_name (i:=4) sc_law_hung.nd rfl (by first | exact Or.inl rfl | exact Or.inr rfl)) (pgs_cons (pg_name (i:=5) sc_law_hung.nd rfl (by first | exact Or.inl rfl | exact Or.inr rfl)) (pgs_cons (pg_name (i:=6) sc_law_hung.nd rfl (by first | exact Or.inl rfl | exact Or.inr rfl)) (pgs_cons (pg_name (i:=7) sc_law_hung.nd rfl (by first | exact Or.inl rfl | exact Or.inr rfl)) pgs_nil))))))
      (pss_cons (ps_dput (Nat.lt_of_le_of_lt (Nat.add_le_add_left (by decide) _) hu) (pv 1) (pv 2) (pe_tup (pa_cons (pv 4) (pa_cons (pv 3) (pa_cons pe_bl (pa_cons (pv 7) pa_nil))))) rfl)
      (pss_cons (ps_asg (pe_dget (Nat.lt_of_le_of_lt (Nat.add_le_add_left (by decide) _) hu) (pv 1) (pv 3) (fun _ _=>rfl)) (pg_tupL rfl (pgs_cons (pg_name (i:=4) sc_law_hung.nd rfl (by first | exact Or.inl rfl | exact Or.inr rfl)) (pgs_cons (pg_name (i:=5) sc_law_hung.nd rfl (by first | exact Or.inl rfl | exact Or.inr rfl)) (pgs_cons (pg_name (i:=6) sc_law_hung.nd rfl (by first | exact Or.inl rfl | exact Or.inr rfl)) (pgs_cons (pg_name (i:=7) sc_law_hung.nd rfl (by first | exact Or.inl rfl | exact Or.inr rfl)) pgs_nil))))))
      (pss_cons (ps_dput (Nat.lt_of_le_of_lt (Nat.add_le_add_left (by decide) _) hu) (pv 1) (pv 3) (pe_tup (pa_cons (pv 4) (pa_cons (pv 5) (pa_cons (pv 6) (pa_cons (pe_op (op_addTK (K:=K) rfl) (pv 7) (pe_tup (pa_cons (pv 2) pa_nil))) pa_nil))))) rfl)
      (pss_one (ps_expr (pe_bmK (K:=K) rfl PySem.F.plainAttrs_list PySem.F.slot_list_remove PySem.F.type_list_remove mt_remS (pv 0) (pa_cons (pv 2) pa_nil)))))))),
      fn_runJ (n:=4) (k:=4) (ms_seq (ms_asgG (me_op J_ixD me_var me_var) (mg_tupL (mgs_cons mg_name (mgs_cons mg_name (mgs_cons mg_name (mgs_cons mg_name mgs_nil))))))
      (ms_seq (ms_putD (i:=1) (me_tup (ma_cons me_var (ma_cons me_var (ma_cons me_bl (ma_cons me_var ma_nil))))) me_var)
      (ms_seq (ms_asgG (me_op J_ixD me_var me_var) (mg_tupL (mgs_cons mg_name (mgs_cons mg_name (mgs_cons mg_name (mgs_cons mg_name mgs_nil))))))
      (ms_seq (ms_putD (i:=1) (me_tup (ma_cons me_var (ma_cons me_var (ma_cons me_var (ma_cons (me_op J_addT me_var (me_tup (ma_cons me_var ma_nil))) ma_nil))))) me_var)
      (ms_drop (me_mut J_remove (ma_cons me_var ma_nil))))))) rfl h⟩
theorem ok_law_name_by (Z:NoGl mg) (T:Top K mg "_law_name_by" s_law_name_by) :Def P w K mg base CX0 1 "_law_name_by" ["_law_k"] (spM m_law_name_by):=by
  refine T.def sc_law_name_by (fun vs H Q E h=>spM_len h) (fun _ _ _ _ _ _ us hl=>match us,hl with | [_],_=>rfl) fun f cdv A outer s H vs Q E hr h=>?_
  have hu:=hr.units
  exact ⟨_,(pss_cons (ps_set (i:=1) sc_law_name_by.nd rfl (by first | exact Or.inl rfl | exact Or.inr rfl) pe_str)
      (pss_cons (ps_set (i:=2) sc_law_name_by.nd rfl (by first | exact Or.inl rfl | exact Or.inr rfl) (pe_op (op_addK (K:=K) rfl) (pe_ix (ix_seqK (K:=K) rfl) (pv 1) (pe_op op_mod (pe_op op_fdiv (pv 0) pe_int) pe_int) (fun _ _=>rfl)) (pe_ix (ix_seqK (K:=K) rfl) (pv 1) (pe_op op_mod (pe_op op_fdiv (pv 0) pe_int) pe_int) (fun _ _=>rfl))))
      (pss_cons (ps_if (pt_cmpR (op_eqK (K:=K) rfl hu) (pe_op op_mod (pv 0) pe_int) pe_int (nomark _))
      (pss_one (ps_set (i:=2) sc_law_name_by.nd rfl (by first | exact Or.inl rfl | exact Or.inr rfl) (pe_op (op_addK (K:=K) rfl) (pv 2) (pe_ix (ix_seqK (K:=K) rfl) (pe_lst (pa_cons pe_str (pa_cons pe_str (pa_cons pe_str (pa_cons pe_str (pa_cons pe_str (pa_cons pe_str pa_nil))))))) (pe_op op_mod (pe_op op_fdiv (pv 0) pe_int) pe_int) (fun _ _=>rfl)))))
      pss_nil)
      (pss_one (ps_ret (pv 2)))))),
      fn_run (n:=1) (k:=2) (ms_seq (ms_asg me_str)
      (ms_seq (ms_asg (me_op J_add (me_op J_ixS me_var (me_op J_I (me_op J_I me_var me_int) me_int)) (me_op J_ixS me_var (me_op J_I (me_op J_I me_var me_int) me_int))))
      (ms_seq (ms_if (mt_test (me_op J_eq (me_op J_I me_var me_int) me_int))
      (ms_asg (me_op J_add me_var (me_op J_ix (me_lst (ma_cons me_str (ma_cons me_str (ma_cons me_str (ma_cons me_str (ma_cons me_str (ma_cons me_str ma_nil))))))) (me_op J_I (me_op J_I me_var me_int) me_int))))
      ms_next)
      (ms_ret me_var)))) rfl h⟩
theorem ok_law_key_by (Z:NoGl mg) (T:Top K mg "_law_key_by" s_law_key_by) :Def P w K mg base CX0 1 "_law_key_by" ["_law_number"] (spM m_law_key_by):=by
  refine T.def sc_law_key_by (fun vs H Q E h=>spM_len h) (fun _ _ _ _ _ _ us hl=>match us,hl with | [_],_=>rfl) fun f cdv A outer s H vs Q E hr h=>?_
  have hu:=hr.units
  exact ⟨_,(pss_cons (ps_if (pt_cmpR (op_eqK (K:=K) rfl hu) (pe_op op_mod (pv 0) pe_int) pe_int (nomark _))
      (pss_one (ps_ret (pe_op op_sub (pe_op op_mod (pe_op op_fdiv (pv 0) pe_int) pe_int) pe_int)))
      pss_nil)
      (pss_cons (ps_if (pt_cmpR (op_eqK (K:=K) rfl hu) (pe_op op_mod (pv 0) pe_int) pe_int (nomark _))
      (pss_one (ps_ret (pe_op op_sub (pe_op op_mod (pe_op op_fdiv (pv 0) pe_int) pe_int) pe_int)))
      pss_nil)
      (pss_one (ps_ret (pe_op op_sub (pe_op op_mod (pe_op op_fdiv (pv 0) pe_int) (pe_op (op_addK (K:=K) rfl) (pe_op op_mulM pe_int (pe_op op_pow pe_int pe_int)) pe_int)) (pe_op op_pow pe_int pe_int)))))),
      fn_run (n:=1) (k:=0) (ms_seq (ms_if (mt_test (me_op J_eq (me_op J_I me_var me_int) me_int))
      (ms_ret (me_op J_I0 (me_op J_I (me_op J_I me_var me_int) me_int) me_int))
      ms_next)
      (ms_seq (ms_if (mt_test (me_op J_eq (me_op J_I me_var me_int) me_int))
      (ms_ret (me_op J_I0 (me_op J_I (me_op J_I me_var me_int) me_int) me_int))
      ms_next)
      (ms_ret (me_op J_I0 (me_op J_I (me_op J_I me_var me_int) (me_op J_add (me_op J_mul me_int (me_op J_I me_int me_int)) me_int)) (me_op J_I me_int me_int))))) rfl h⟩
theorem ok_law_built (Z:NoGl mg) (T:Top K mg "_law_built" s_law_built) (D_law_cut:Def P w K mg base CX0 1 "_law_cut" ["_law_tops","_law_held","_law_name"] (spJ m_law_cut)) (D_law_hung:Def P w K mg base CX0 1 "_law_hung" ["_law_tops","_law_held","_law_name","_law_on"] (spJ m_law_hung)) (D_law_before:Def P w K mg base CX0 1 "_law_before" ["_law_held","_law_one","_law_other"] (spM m_law_before)) (D_law_key_by:Def P w K mg base CX0 1 "_law_key_by" ["_law_number"] (spM m_law_key_by)) (D_law_name_by:Def P w K mg base CX0 1 "_law_name_by" ["_law_k"] (spM m_law_name_by)) (D_law_like:Def P w K mg base CX0 1 "_law_like" ["_law_tops","_law_held","_law_start"] (spM m_law_like)):Def P w K mg base CX0 2 "_law_built" ["_law_cells","_law_first"] (spM m_law_built):=by
  have z_enumerate:mg "enumerate" = none:=Z _ (by decide +kernel)
  have z_len:mg "len" = none:=Z _ (by decide +kernel)
  have z_list:mg "list" = none:=Z _ (by decide +kernel)
  refine T.def sc_law_built (fun vs H Q E h=>spM_len h) (fun _ _ _ _ _ _ us hl=>match us,hl with | [_,_],_=>rfl) fun f cdv A outer s H vs Q E hr h=>?_
  have hu:=hr.units
  exact ⟨_,(pss_cons (ps_set (i:=2) sc_law_built.nd rfl (by first | exact Or.inl rfl | exact Or.inr rfl) (pe_lst pa_nil))
      (pss_cons (ps_set (i:=3) sc_law_built.nd rfl (by first | exact Or.inl rfl | exact Or.inr rfl) pe_dnewK)
      (pss_cons (ps_for PassesOwn.never rfl (pi_enum rfl z_enumerate (pa_cons (pv 0) pa_nil)) (pg_tupL rfl (pgs_cons (pg_name (i:=4) sc_law_built.nd rfl (by first | exact Or.inl rfl | exact Or.inr rfl)) (pgs_cons (pg_name (i:=5) sc_law_built.nd rfl (by first | exact Or.inl rfl | exact Or.inr rfl)) pgs_nil)))
      (pss_cons (ps_set (i:=6) sc_law_built.nd rfl (by first | exact Or.inl rfl | exact Or.inr rfl) (pe_op op_fdiv (pv 5) pe_int))
      (pss_cons (ps_set (i:=7) sc_law_built.nd rfl (by first | exact Or.inl rfl | exact Or.inr rfl) (pe_def D_law_like (hr.mono (by omega)) (pa_cons (pv 2) (pa_cons (pv 3) (pa_cons (pe_op op_mod (pv 6) pe_int) pa_nil)))))
      (pss_cons (ps_set (i:=8) sc_law_built.nd rfl (by first | exact Or.inl rfl | exact Or.inr rfl) (pe_callTy (call_listK2 rfl) rfl z_list PyProof.Rows.boot_list (pa_cons (pv 3) pa_nil)))
      (pss_one (ps_if (PW.pt (pw_and (pt_cmpR (op_eqK (K:=K) rfl hu) (pe_op op_mod (pv 5) pe_int) pe_int (nomark _)) (pw_and1 (pt_cmpR op_gt (pe_callB (call_lenK (K:=K) rfl) rfl z_len PySem.boot_len (pa_cons (pv 8) pa_nil)) pe_int (nomark _)))))
      (pss_one (ps_expr (pe_def D_law_cut (hr.mono (by omega)) (pa_cons (pv 2) (pa_cons (pv 3) (pa_cons (pe_ix (ix_seqK (K:=K) rfl) (pv 8) (pe_op op_mod (pv 6) (pe_callB (call_lenK (K:=K) rfl) rfl z_len PySem.boot_len (pa_cons (pv 8) pa_nil))) (fun _ _=>rfl)) pa_nil))))))
      (pss_one (ps_if (PW.pt (pw_and (pt_cmpR op_gt (pe_op op_mod (pv 5) pe_int) pe_int (nomark _)) (pw_and1 (pt_cmpR (op_neK (K:=K) rfl hu) (pv 7) (pe_lst pa_nil) (nomark _)))))
      (pss_cons (ps_if (pt_val (pe_def D_law_before (hr.mono (by omega)) (pa_cons (pv 3) (pa_cons (pe_ix (ix_seqK (K:=K) rfl) (pv 7) pe_int (fun _ _=>rfl)) (pa_cons (pe_ix (ix_seqK (K:=K) rfl) (pv 7) pe_int (fun _ _=>rfl)) pa_nil)))))
      (pss_one (ps_expr (pe_bm0K (K:=K) rfl PySem.F.plainAttrs_list PySem.F.slot_list_reverse PySem.F.type_list_reverse mt_reverse (pv 7))))
      pss_nil)
      (pss_one (ps_expr (pe_def D_law_hung (hr.mono (by omega)) (pa_cons (pv 2) (pa_cons (pv 3) (pa_cons (pe_ix (ix_seqK (K:=K) rfl) (pv 7) pe_int (fun _ _=>rfl)) (pa_cons (pe_ix (ix_seqK (K:=K) rfl) (pv 7) pe_int (fun _ _=>rfl)) pa_nil))))))))
      (pss_cons (ps_set (i:=9) sc_law_built.nd rfl (by first | exact Or.inl rfl | exact Or.inr rfl) (pe_def D_law_name_by (hr.mono (by omega)) (pa_cons (pe_op (op_addK (K:=K) rfl) (pv 1) (pv 4)) pa_nil)))
      (pss_cons (ps_dput (Nat.lt_of_le_of_lt (Nat.add_le_add_left (by decide) _) hu) (pv 3) (pv 9) (pe_tup (pa_cons (pe_def D_law_key_by (hr.mono (by omega)) (pa_cons (pv 6) pa_nil)) (pa_cons pe_non (pa_cons pe_bl (pa_cons (pe_tup pa_nil) pa_nil))))) rfl)
      (pss_one (ps_expr (pe_bmK (K:=K) rfl PySem.F.plainAttrs_list PySem.F.slot_list_append PySem.F.type_list_append mt_append (pv 2) (pa_cons (pv 9) pa_nil))))))))))))))
      (pss_one (ps_ret (pe_tup (pa_cons (pv 2) (pa_cons (pv 3) pa_nil)))))))),
      fn_run (n:=2) (k:=8) (ms_seq (ms_asg (me_lst ma_nil))
      (ms_seq (ms_asg me_dct0)
      (ms_seq (ms_for (mf_enum (ma_cons me_var ma_nil)) (mg_tupL (mgs_cons mg_name (mgs_cons mg_name mgs_nil)))
      (ms_seq (ms_asg (me_op J_I me_var me_int))
      (ms_seq (ms_asg (me_call (ma_cons me_var (ma_cons me_var (ma_cons (me_op J_I me_var me_int) ma_nil)))))
      (ms_seq (ms_asg (me_cb J_listK (ma_cons me_var ma_nil)))
      (ms_if (mt_and (mt_test (me_op J_eq (me_op J_I me_var me_int) me_int)) (mt_test (me_op J_B0 (me_cb J_len (ma_cons me_var ma_nil)) me_int)))
      (ms_drop (me_callJ (i:=2) (j:=3) (ma_cons (me_op J_ix me_var (me_op J_I me_var (me_cb J_len (ma_cons me_var ma_nil)))) ma_nil)))
      (ms_if (mt_and (mt_test (me_op J_B0 (me_op J_I me_var me_int) me_int)) (mt_test (me_op J_ne me_var (me_lst ma_nil))))
      (ms_seq (ms_if (mt_tB (me_call (ma_cons me_var (ma_cons (me_op J_ix me_var me_int) (ma_cons (me_op J_ix me_var me_int) ma_nil)))))
      (ms_drop (me_mut0 J_reverse))
      ms_next)
      (ms_drop (me_callJ (i:=2) (j:=3) (ma_cons (me_op J_ix me_var me_int) (ma_cons (me_op J_ix me_var me_int) ma_nil)))))
      (ms_seq (ms_asg (me_call (ma_cons (me_op J_add me_var me_var) ma_nil)))
      (ms_seq (ms_putD (i:=3) (me_tup (ma_cons (me_call (ma_cons me_var ma_nil)) (ma_cons me_non (ma_cons me_bl (ma_cons (me_tup ma_nil) ma_nil))))) me_var)
      (ms_drop (me_mut J_append (ma_cons me_var ma_nil)))))))))))
      (ms_ret (me_tup (ma_cons me_var (ma_cons me_var ma_nil))))))) rfl h⟩
theorem okd_law_built (Z:NoGl mg) (T:Top K mg "_law_built" s_law_built) (D_law_cut:Def P w K mg base CX0 1 "_law_cut" ["_law_tops","_law_held","_law_name"] (spJ m_law_cut)) (D_law_hung:Def P w K mg base CX0 1 "_law_hung" ["_law_tops","_law_held","_law_name","_law_on"] (spJ m_law_hung)) (D_law_before:Def P w K mg base CX0 1 "_law_before" ["_law_held","_law_one","_law_other"] (spM m_law_before)) (D_law_key_by:Def P w K mg base CX0 1 "_law_key_by" ["_law_number"] (spM m_law_key_by)) (D_law_name_by:Def P w K mg base CX0 1 "_law_name_by" ["_law_k"] (spM m_law_name_by)) (D_law_like:Def P w K mg base CX0 1 "_law_like" ["_law_tops","_law_held","_law_start"] (spM m_law_like)):Def P w K mg base CX0 2 "_law_built" ["_law_cells","_law_first"] (spD d_law_built):=by
  have z_enumerate:mg "enumerate" = none:=Z _ (by decide +kernel)
  have z_len:mg "len" = none:=Z _ (by decide +kernel)
  have z_list:mg "list" = none:=Z _ (by decide +kernel)
  refine T.def sc_law_built (fun vs H Q E h=>spD_len h) (fun _ _ _ _ _ _ us hl=>match us,hl with | [_,_],_=>rfl) fun f cdv A outer s H vs Q E hr h=>?_
  have hu:=hr.units
  exact ⟨_,(pss_cons (ps_set (i:=2) sc_law_built.nd rfl (by first | exact Or.inl rfl | exact Or.inr rfl) (pe_lst pa_nil))
      (pss_cons (ps_set (i:=3) sc_law_built.nd rfl (by first | exact Or.inl rfl | exact Or.inr rfl) pe_dnewK)
      (pss_cons (ps_for PassesOwn.never rfl (pi_enum rfl z_enumerate (pa_cons (pv 0) pa_nil)) (pg_tupL rfl (pgs_cons (pg_name (i:=4) sc_law_built.nd rfl (by first | exact Or.inl rfl | exact Or.inr rfl)) (pgs_cons (pg_name (i:=5) sc_law_built.nd rfl (by first | exact Or.inl rfl | exact Or.inr rfl)) pgs_nil)))
      (pss_cons (ps_set (i:=6) sc_law_built.nd rfl (by first | exact Or.inl rfl | exact Or.inr rfl) (pe_op op_fdiv (pv 5) pe_int))
      (pss_cons (ps_set (i:=7) sc_law_built.nd rfl (by first | exact Or.inl rfl | exact Or.inr rfl) (pe_def D_law_like (hr.mono (by omega)) (pa_cons (pv 2) (pa_cons (pv 3) (pa_cons (pe_op op_mod (pv 6) pe_int) pa_nil)))))
      (pss_cons (ps_set (i:=8) sc_law_built.nd rfl (by first | exact Or.inl rfl | exact Or.inr rfl) (pe_callTy (call_listK2 rfl) rfl z_list PyProof.Rows.boot_list (pa_cons (pv 3) pa_nil)))
      (pss_one (ps_if (PW.pt (pw_and (pt_cmpR (op_eqK (K:=K) rfl hu) (pe_op op_mod (pv 5) pe_int) pe_int (nomark _)) (pw_and1 (pt_cmpR op_gt (pe_callB (call_lenK (K:=K) rfl) rfl z_len PySem.boot_len (pa_cons (pv 8) pa_nil)) pe_int (nomark _)))))
      (pss_one (ps_expr (pe_def D_law_cut (hr.mono (by omega)) (pa_cons (pv 2) (pa_cons (pv 3) (pa_cons (pe_ix (ix_seqK (K:=K) rfl) (pv 8) (pe_op op_mod (pv 6) (pe_callB (call_lenK (K:=K) rfl) rfl z_len PySem.boot_len (pa_cons (pv 8) pa_nil))) (fun _ _=>rfl)) pa_nil))))))
      (pss_one (ps_if (PW.pt (pw_and (pt_cmpR op_gt (pe_op op_mod (pv 5) pe_int) pe_int (nomark _)) (pw_and1 (pt_cmpR (op_neK (K:=K) rfl hu) (pv 7) (pe_lst pa_nil) (nomark _)))))
      (pss_cons (ps_if (pt_val (pe_def D_law_before (hr.mono (by omega)) (pa_cons (pv 3) (pa_cons (pe_ix (ix_seqK (K:=K) rfl) (pv 7) pe_int (fun _ _=>rfl)) (pa_cons (pe_ix (ix_seqK (K:=K) rfl) (pv 7) pe_int (fun _ _=>rfl)) pa_nil)))))
      (pss_one (ps_expr (pe_bm0K (K:=K) rfl PySem.F.plainAttrs_list PySem.F.slot_list_reverse PySem.F.type_list_reverse mt_reverse (pv 7))))
      pss_nil)
      (pss_one (ps_expr (pe_def D_law_hung (hr.mono (by omega)) (pa_cons (pv 2) (pa_cons (pv 3) (pa_cons (pe_ix (ix_seqK (K:=K) rfl) (pv 7) pe_int (fun _ _=>rfl)) (pa_cons (pe_ix (ix_seqK (K:=K) rfl) (pv 7) pe_int (fun _ _=>rfl)) pa_nil))))))))
      (pss_cons (ps_set (i:=9) sc_law_built.nd rfl (by first | exact Or.inl rfl | exact Or.inr rfl) (pe_def D_law_name_by (hr.mono (by omega)) (pa_cons (pe_op (op_addK (K:=K) rfl) (pv 1) (pv 4)) pa_nil)))
      (pss_cons (ps_dput (Nat.lt_of_le_of_lt (Nat.add_le_add_left (by decide) _) hu) (pv 3) (pv 9) (pe_tup (pa_cons (pe_def D_law_key_by (hr.mono (by omega)) (pa_cons (pv 6) pa_nil)) (pa_cons pe_non (pa_cons pe_bl (pa_cons (pe_tup pa_nil) pa_nil))))) rfl)
      (pss_one (ps_expr (pe_bmK (K:=K) rfl PySem.F.plainAttrs_list PySem.F.slot_list_append PySem.F.type_list_append mt_append (pv 2) (pa_cons (pv 9) pa_nil))))))))))))))
      (pss_one (ps_ret (pe_tup (pa_cons (pv 2) (pa_cons (pv 3) pa_nil)))))))),
      fn_runD (n:=2) (k:=8) (md_seq (ms_asg (me_lst ma_nil))
      (md_seq (ms_asg me_dct0)
      (md_seq (ms_for (mf_enum (ma_cons me_var ma_nil)) (mg_tupL (mgs_cons mg_name (mgs_cons mg_name mgs_nil)))
      (ms_seq (ms_asg (me_op J_I me_var me_int))
      (ms_seq (ms_asg (me_call (ma_cons me_var (ma_cons me_var (ma_cons (me_op J_I me_var me_int) ma_nil)))))
      (ms_seq (ms_asg (me_cb J_listK (ma_cons me_var ma_nil)))
      (ms_if (mt_and (mt_test (me_op J_eq (me_op J_I me_var me_int) me_int)) (mt_test (me_op J_B0 (me_cb J_len (ma_cons me_var ma_nil)) me_int)))
      (ms_drop (me_callJ (i:=2) (j:=3) (ma_cons (me_op J_ix me_var (me_op J_I me_var (me_cb J_len (ma_cons me_var ma_nil)))) ma_nil)))
      (ms_if (mt_and (mt_test (me_op J_B0 (me_op J_I me_var me_int) me_int)) (mt_test (me_op J_ne me_var (me_lst ma_nil))))
      (ms_seq (ms_if (mt_tB (me_call (ma_cons me_var (ma_cons (me_op J_ix me_var me_int) (ma_cons (me_op J_ix me_var me_int) ma_nil)))))
      (ms_drop (me_mut0 J_reverse))
      ms_next)
      (ms_drop (me_callJ (i:=2) (j:=3) (ma_cons (me_op J_ix me_var me_int) (ma_cons (me_op J_ix me_var me_int) ma_nil)))))
      (ms_seq (ms_asg (me_call (ma_cons (me_op J_add me_var me_var) ma_nil)))
      (ms_seq (ms_putD (i:=3) (me_tup (ma_cons (me_call (ma_cons me_var ma_nil)) (ma_cons me_non (ma_cons me_bl (ma_cons (me_tup ma_nil) ma_nil))))) me_var)
      (ms_drop (me_mut J_append (ma_cons me_var ma_nil)))))))))))
      (md_ret (i:=2) (j:=3))))) rfl h⟩
theorem ok_law_grown (Z:NoGl mg) (T:Top K mg "_law_grown" s_law_grown) (D_law_name_by:Def P w K mg base CX0 1 "_law_name_by" ["_law_k"] (spM m_law_name_by)):∀ n,Def P w K mg base CX0 (2 + n) "_law_grown" ["_law_held","_law_many","_law_above","_law_mark","_law_key"] (spI (m_law_grown n))
  | 0=>T.def sc_law_grown (fun vs H Q E h=>by obtain ⟨_,_,_,_,_,_,_,_,_,_,_,_,_,e,_⟩:=h; cases e) (fun _ _ _ _ _ _ us hl=>match us,hl with | [_,_,_,_,_],_=>rfl) fun f cdv A outer s H vs Q E hr h=>by obtain ⟨_,_,_,_,_,_,_,_,_,_,_,_,_,e,_⟩:=h; cases e
  | n + 1=>by
    have D_law_grown:=ok_law_grown Z T D_law_name_by n
    have z_tuple:mg "tuple" = none:=Z _ (by decide +kernel)
    have z_range:mg "range" = none:=Z _ (by decide +kernel)
    have z_max:mg "max" = none:=Z _ (by decide +kernel)
    have z_len:mg "len" = none:=Z _ (by decide +kernel)
    refine T.def sc_law_grown (fun vs H Q E h=>spI_len h) (fun _ _ _ _ _ _ us hl=>match us,hl with | [_,_,_,_,_],_=>rfl) fun f cdv A outer s H vs Q E hr h=>?_
    have hu:=hr.units
    exact ⟨_,(pss_cons (ps_set (i:=5) sc_law_grown.nd rfl (by first | exact Or.inl rfl | exact Or.inr rfl) (pe_def D_law_name_by (hr.mono (by first | omega | (show _≤_ + n; omega))) (pa_cons (pe_callB call_lenR rfl z_len PySem.boot_len (pa_cons (pv 0) pa_nil)) pa_nil)))
      (pss_cons (ps_dput (Nat.lt_of_le_of_lt (Nat.add_le_add_left (by decide) _) hu) (pv 0) (pv 5) (pe_tup (pa_cons (pv 4) (pa_cons (pv 2) (pa_cons (pv 3) (pa_cons (pe_tup pa_nil) pa_nil))))) rfl)
      (pss_cons (ps_setLC (i0:=6) (fr:=[("_law_held",0),("_law_name",5),("_law_key",4)]) rfl sc_law_grown.nd rfl (by first | exact Or.inl rfl | exact Or.inr rfl) ⟨rfl,rfl,rfl,rfl,rfl,rfl,by decide +kernel⟩ (pi_range1 rfl z_range (pa_cons (pv 1) pa_nil)) (fun _ _ _ _=>pif_nil) (fun _ _ _ _=>(pe_def D_law_grown (hr.mono (Nat.le_refl _)) (pa_cons (pv 1) (pa_cons (pe_callB (call_max2 rfl) rfl z_max PyProof.Rows.boot_max (pa_cons pe_int (pa_cons (pe_op op_sub (pv 0) pe_int) pa_nil))) (pa_cons (pv 2) (pa_cons (pe_cmpR op_gt (pv 0) pe_int (nomark _)) (pa_cons (pe_op (op_addK (K:=K) rfl) (pv 3) pe_int) pa_nil))))))))
      (pss_cons (ps_dput (Nat.lt_of_le_of_lt (Nat.add_le_add_left (by decide) _) hu) (pv 0) (pv 5) (pe_tup (pa_cons (pv 4) (pa_cons (pv 2) (pa_cons (pv 3) (pa_cons (pe_callTy (call_tupleK (K:=K) rfl) rfl z_tuple PyProof.Rows.boot_tuple (pa_cons (pv 6) pa_nil)) pa_nil))))) rfl)
      (pss_one (ps_ret (pv 5))))))),
      fn_runI (n:=5) (k:=2) (ms_seq (ms_asg (me_call (ma_cons (me_cb J_lenR (ma_cons me_var ma_nil)) ma_nil)))
      (ms_seq (ms_putD (i:=0) (me_tup (ma_cons me_var (ma_cons me_var (ma_cons me_var (ma_cons (me_tup ma_nil) ma_nil))))) me_var)
      (ms_seq (ms_asg (me_lcI (i:=0) (j:=0) rfl (mf_rng1 (ma_cons me_var ma_nil)) (ma_cons (me_cb J_max (ma_cons me_int (ma_cons (me_op J_I0 me_var me_int) ma_nil))) (ma_cons me_var (ma_cons (me_op J_B0 me_var me_int) (ma_cons (me_op J_add me_var me_int) ma_nil))))))
      (ms_seq (ms_putD (i:=0) (me_tup (ma_cons me_var (ma_cons me_var (ma_cons me_var (ma_cons (me_cb J_tuple (ma_cons me_var ma_nil)) ma_nil))))) me_var)
      (ms_ret me_var))))) rfl h⟩
theorem ok_law_begun (Z:NoGl mg) (T:Top K mg "_law_begun" s_law_begun) (D_law_key_by:Def P w K mg base CX0 1 "_law_key_by" ["_law_number"] (spM m_law_key_by)) (D_law_name_by:Def P w K mg base CX0 1 "_law_name_by" ["_law_k"] (spM m_law_name_by)) (D_law_grown:Def P w K mg base CX0 14 "_law_grown" ["_law_held","_law_many","_law_above","_law_mark","_law_key"] (spI (m_law_grown 12))) (D_law_built:Def P w K mg base CX0 2 "_law_built" ["_law_cells","_law_first"] (spM m_law_built)):Def P w K mg base CX0 15 "_law_begun" ["_law_cells"] (spM m_law_begun):=by
  have z_len:mg "len" = none:=Z _ (by decide +kernel)
  refine T.def sc_law_begun (fun vs H Q E h=>spM_len h) (fun _ _ _ _ _ _ us hl=>match us,hl with | [_],_=>rfl) fun f cdv A outer s H vs Q E hr h=>?_
  have hu:=hr.units
  exact ⟨_,(pss_cons (ps_if (PW.pt (pw_or (pt_cmpR (op_eqK (K:=K) rfl hu) (pv 0) (pe_lst pa_nil) (nomark _)) (pw_or1 (pt_cmpR (op_neK (K:=K) rfl hu) (pe_op op_mod (pe_ix (ix_seqK (K:=K) rfl) (pv 0) pe_int (fun _ _=>rfl)) pe_int) pe_int (nomark _)))))
      (pss_one (ps_ret (pe_def D_law_built (hr.mono (by omega)) (pa_cons (pv 0) (pa_cons pe_int pa_nil)))))
      pss_nil)
      (pss_cons (ps_set (i:=1) sc_law_begun.nd rfl (by first | exact Or.inl rfl | exact Or.inr rfl) pe_dnewK)
      (pss_cons (ps_set (i:=2) sc_law_begun.nd rfl (by first | exact Or.inl rfl | exact Or.inr rfl) (pe_lst (pa_cons (pe_def D_law_grown (hr.mono (by omega)) (pa_cons (pv 1) (pa_cons (pe_op op_mod (pe_op op_fdiv (pe_ix (ix_seqK (K:=K) rfl) (pv 0) pe_int (fun _ _=>rfl)) pe_int) pe_int) (pa_cons pe_non (pa_cons pe_bl (pa_cons (pe_def D_law_key_by (hr.mono (by omega)) (pa_cons (pe_op op_fdiv (pe_ix (ix_seqK (K:=K) rfl) (pv 0) pe_int (fun _ _=>rfl)) pe_int) pa_nil)) pa_nil)))))) pa_nil)))
      (pss_cons (ps_for PassesOwn.never rfl (pi_listK (K:=K) rfl (pe_slice (sl_listK (K:=K) rfl) (pv 0) (po_some pe_int) (po_some pe_int))) (pg_name (i:=3) sc_law_begun.nd rfl (by first | exact Or.inl rfl | exact Or.inr rfl))
      (pss_cons (ps_set (i:=4) sc_law_begun.nd rfl (by first | exact Or.inl rfl | exact Or.inr rfl) (pe_def D_law_name_by (hr.mono (by omega)) (pa_cons (pe_callB call_lenR rfl z_len PySem.boot_len (pa_cons (pv 1) pa_nil)) pa_nil)))
      (pss_cons (ps_dput (Nat.lt_of_le_of_lt (Nat.add_le_add_left (by decide) _) hu) (pv 1) (pv 4) (pe_tup (pa_cons (pe_def D_law_key_by (hr.mono (by omega)) (pa_cons (pv 3) pa_nil)) (pa_cons pe_non (pa_cons pe_bl (pa_cons (pe_tup pa_nil) pa_nil))))) rfl)
      (pss_one (ps_expr (pe_bmK (K:=K) rfl PySem.F.plainAttrs_list PySem.F.slot_list_append PySem.F.type_list_append mt_append (pv 2) (pa_cons (pv 4) pa_nil)))))))
      (pss_one (ps_ret (pe_tup (pa_cons (pv 2) (pa_cons (pv 1) pa_nil))))))))),
      fn_run (n:=1) (k:=4) (ms_seq (ms_if (mt_or (mt_test (me_op J_eq me_var (me_lst ma_nil))) (mt_test (me_op J_ne (me_op J_I (me_op J_ix me_var me_int) me_int) me_int)))
      (ms_ret (me_call (ma_cons me_var (ma_cons me_int ma_nil))))
      ms_next)
      (ms_seq (ms_asg me_dct0)
      (ms_seq (ms_asg (me_lst (ma_cons (me_callI (i:=1) (ma_cons (me_op J_I (me_op J_I (me_op J_ix me_var me_int) me_int) me_int) (ma_cons me_non (ma_cons me_bl (ma_cons (me_call (ma_cons (me_op J_I (me_op J_ix me_var me_int) me_int) ma_nil)) ma_nil))))) ma_nil)))
      (ms_seq (ms_for (mf_list (me_sl J_sl me_var (mo_some me_int) (mo_some me_int))) mg_name
      (ms_seq (ms_asg (me_call (ma_cons (me_cb J_lenR (ma_cons me_var ma_nil)) ma_nil)))
      (ms_seq (ms_putD (i:=1) (me_tup (ma_cons (me_call (ma_cons me_var ma_nil)) (ma_cons me_non (ma_cons me_bl (ma_cons (me_tup ma_nil) ma_nil))))) me_var)
      (ms_drop (me_mut J_append (ma_cons me_var ma_nil))))))
      (ms_ret (me_tup (ma_cons me_var (ma_cons me_var ma_nil)))))))) rfl h⟩
theorem okd_law_begun (Z:NoGl mg) (T:Top K mg "_law_begun" s_law_begun) (D_law_key_by:Def P w K mg base CX0 1 "_law_key_by" ["_law_number"] (spM m_law_key_by)) (D_law_name_by:Def P w K mg base CX0 1 "_law_name_by" ["_law_k"] (spM m_law_name_by)) (D_law_grown:Def P w K mg base CX0 14 "_law_grown" ["_law_held","_law_many","_law_above","_law_mark","_law_key"] (spI (m_law_grown 12))) (DD_law_built:Def P w K mg base CX0 2 "_law_built" ["_law_cells","_law_first"] (spD d_law_built)):Def P w K mg base CX0 15 "_law_begun" ["_law_cells"] (spD d_law_begun):=by
  have z_len:mg "len" = none:=Z _ (by decide +kernel)
  refine T.def sc_law_begun (fun vs H Q E h=>spD_len h) (fun _ _ _ _ _ _ us hl=>match us,hl with | [_],_=>rfl) fun f cdv A outer s H vs Q E hr h=>?_
  have hu:=hr.units
  exact ⟨_,(pss_cons (ps_if (PW.pt (pw_or (pt_cmpR (op_eqK (K:=K) rfl hu) (pv 0) (pe_lst pa_nil) (nomark _)) (pw_or1 (pt_cmpR (op_neK (K:=K) rfl hu) (pe_op op_mod (pe_ix (ix_seqK (K:=K) rfl) (pv 0) pe_int (fun _ _=>rfl)) pe_int) pe_int (nomark _))))) (pss_one (ps_ret (pe_def DD_law_built (hr.mono (by omega)) (pa_cons (pv 0) (pa_cons pe_int pa_nil))))) pss_nil)
      (pss_cons (ps_set (i:=1) sc_law_begun.nd rfl (by first | exact Or.inl rfl | exact Or.inr rfl) pe_dnewK)
      (pss_cons (ps_set (i:=2) sc_law_begun.nd rfl (by first | exact Or.inl rfl | exact Or.inr rfl) (pe_lst (pa_cons (pe_def D_law_grown (hr.mono (by omega)) (pa_cons (pv 1) (pa_cons (pe_op op_mod (pe_op op_fdiv (pe_ix (ix_seqK (K:=K) rfl) (pv 0) pe_int (fun _ _=>rfl)) pe_int) pe_int) (pa_cons pe_non (pa_cons pe_bl (pa_cons (pe_def D_law_key_by (hr.mono (by omega)) (pa_cons (pe_op op_fdiv (pe_ix (ix_seqK (K:=K) rfl) (pv 0) pe_int (fun _ _=>rfl)) pe_int) pa_nil)) pa_nil)))))) pa_nil)))
      (pss_cons (ps_for PassesOwn.never rfl (pi_listK (K:=K) rfl (pe_slice (sl_listK (K:=K) rfl) (pv 0) (po_some pe_int) (po_some pe_int))) (pg_name (i:=3) sc_law_begun.nd rfl (by first | exact Or.inl rfl | exact Or.inr rfl))
      (pss_cons (ps_set (i:=4) sc_law_begun.nd rfl (by first | exact Or.inl rfl | exact Or.inr rfl) (pe_def D_law_name_by (hr.mono (by omega)) (pa_cons (pe_callB call_lenR rfl z_len PySem.boot_len (pa_cons (pv 1) pa_nil)) pa_nil)))
      (pss_cons (ps_dput (Nat.lt_of_le_of_lt (Nat.add_le_add_left (by decide) _) hu) (pv 1) (pv 4) (pe_tup (pa_cons (pe_def D_law_key_by (hr.mono (by omega)) (pa_cons (pv 3) pa_nil)) (pa_cons pe_non (pa_cons pe_bl (pa_cons (pe_tup pa_nil) pa_nil))))) rfl)
      (pss_one (ps_expr (pe_bmK (K:=K) rfl PySem.F.plainAttrs_list PySem.F.slot_list_append PySem.F.type_list_append mt_append (pv 2) (pa_cons (pv 4) pa_nil)))))))
      (pss_one (ps_ret (pe_tup (pa_cons (pv 2) (pa_cons (pv 1) pa_nil))))))))),
      fn_runD (n:=1) (k:=4) (md_if (mt_or (mt_test (me_op J_eq me_var (me_lst ma_nil))) (mt_test (me_op J_ne (me_op J_I (me_op J_ix me_var me_int) me_int) me_int))) (md_call (ma_cons me_var (ma_cons me_int ma_nil)))
      (md_seq (ms_asg me_dct0)
      (md_seq (ms_asg (me_lst (ma_cons (me_callI (i:=1) (ma_cons (me_op J_I (me_op J_I (me_op J_ix me_var me_int) me_int) me_int) (ma_cons me_non (ma_cons me_bl (ma_cons (me_call (ma_cons (me_op J_I (me_op J_ix me_var me_int) me_int) ma_nil)) ma_nil))))) ma_nil)))
      (md_seq (ms_for (mf_list (me_sl J_sl me_var (mo_some me_int) (mo_some me_int))) mg_name
      (ms_seq (ms_asg (me_call (ma_cons (me_cb J_lenR (ma_cons me_var ma_nil)) ma_nil)))
      (ms_seq (ms_putD (i:=1) (me_tup (ma_cons (me_call (ma_cons me_var ma_nil)) (ma_cons me_non (ma_cons me_bl (ma_cons (me_tup ma_nil) ma_nil))))) me_var)
      (ms_drop (me_mut J_append (ma_cons me_var ma_nil))))))
      (md_ret (i:=2) (j:=1)))))) rfl h⟩
theorem ok_law_cell_at (Z:NoGl mg) (T:Top K mg "_law_cell_at" s_law_cell_at) :Def P w K mg base CX0 1 "_law_cell_at" ["_law_script","_law_k"] (spM m_law_cell_at):=by
  have z_len:mg "len" = none:=Z _ (by decide +kernel)
  refine T.def sc_law_cell_at (fun vs H Q E h=>spM_len h) (fun _ _ _ _ _ _ us hl=>match us,hl with | [_,_],_=>rfl) fun f cdv A outer s H vs Q E hr h=>?_
  have hu:=hr.units
  exact ⟨_,(pss_cons (ps_if (pt_cmpR op_lt (pv 1) (pe_callB (call_lenK (K:=K) rfl) rfl z_len PySem.boot_len (pa_cons (pv 0) pa_nil)) (nomark _))
      (pss_one (ps_ret (pe_ix (ix_seqK (K:=K) rfl) (pv 0) (pv 1) (fun _ _=>rfl))))
      pss_nil)
      (pss_one (ps_ret pe_int))),
      fn_run (n:=2) (k:=0) (ms_seq (ms_if (mt_test (me_op J_B0 me_var (me_cb J_len (ma_cons me_var ma_nil))))
      (ms_ret (me_op J_ix me_var me_var))
      ms_next)
      (ms_ret me_int)) rfl h⟩
theorem ok_law_reaches (Z:NoGl mg) (T:Top K mg "_law_reaches" s_law_reaches) :Def P w K mg base CX0 1 "_law_reaches" ["_law_held","_law_name"] (spM m_law_reaches):=by
  have z_len:mg "len" = none:=Z _ (by decide +kernel)
  have z_range:mg "range" = none:=Z _ (by decide +kernel)
  refine T.def sc_law_reaches (fun vs H Q E h=>spM_len h) (fun _ _ _ _ _ _ us hl=>match us,hl with | [_,_],_=>rfl) fun f cdv A outer s H vs Q E hr h=>?_
  have hu:=hr.units
  exact ⟨_,(pss_cons (ps_for PassesOwn.never rfl (pi_range1 rfl z_range (pa_cons (pe_op (op_addK (K:=K) rfl) (pe_callB call_lenR rfl z_len PySem.boot_len (pa_cons (pv 0) pa_nil)) pe_int) pa_nil)) (pg_name (i:=2) sc_law_reaches.nd rfl (by first | exact Or.inl rfl | exact Or.inr rfl))
      (pss_cons (ps_if (pt_cmp (pc_dnotin (Nat.lt_of_le_of_lt (Nat.add_le_add_left (by decide) _) hu) (pv 1) (pv 0)))
      (pss_one (ps_ret pe_bl))
      pss_nil)
      (pss_cons (ps_if (pt_cmpR op_isN (pe_ix (ix_seqK (K:=K) rfl) (pe_dget (Nat.lt_of_le_of_lt (Nat.add_le_add_left (by decide) _) hu) (pv 0) (pv 1) (fun _ _=>rfl)) pe_int (fun _ _=>rfl)) pe_non (nomark _))
      (pss_one (ps_ret pe_bl))
      pss_nil)
      (pss_one (ps_set (i:=1) sc_law_reaches.nd rfl (by first | exact Or.inl rfl | exact Or.inr rfl) (pe_ix (ix_seqK (K:=K) rfl) (pe_dget (Nat.lt_of_le_of_lt (Nat.add_le_add_left (by decide) _) hu) (pv 0) (pv 1) (fun _ _=>rfl)) pe_int (fun _ _=>rfl)))))))
      (pss_one (ps_ret pe_bl))),
      fn_run (n:=2) (k:=1) (ms_seq (ms_for (mf_rng1 (ma_cons (me_op J_add (me_cb J_lenR (ma_cons me_var ma_nil)) me_int) ma_nil)) mg_name
      (ms_seq (ms_if (mt_test (me_op J_notInD me_var me_var))
      (ms_ret me_bl)
      ms_next)
      (ms_seq (ms_if (mt_test (me_op J_is (me_op J_ix (me_op J_ixD me_var me_var) me_int) me_non))
      (ms_ret me_bl)
      ms_next)
      (ms_asg (me_op J_ix (me_op J_ixD me_var me_var) me_int)))))
      (ms_ret me_bl)) rfl h⟩
theorem ok_law_name_right (Z:NoGl mg) (T:Top K mg "_law_name_right" s_law_name_right) :Def P w K mg base CX0 1 "_law_name_right" ["_law_held","_law_name"] (spM m_law_name_right):=by
  have z_len:mg "len" = none:=Z _ (by decide +kernel)
  have z_range:mg "range" = none:=Z _ (by decide +kernel)
  have z_int:mg "int" = none:=Z _ (by decide +kernel)
  refine T.def sc_law_name_right (fun vs H Q E h=>spM_len h) (fun _ _ _ _ _ _ us hl=>match us,hl with | [_,_],_=>rfl) fun f cdv A outer s H vs Q E hr h=>?_
  have hu:=hr.units
  exact ⟨_,(pss_cons (ps_asg (pe_dget (Nat.lt_of_le_of_lt (Nat.add_le_add_left (by decide) _) hu) (pv 0) (pv 1) (fun _ _=>rfl)) (pg_tupL rfl (pgs_cons (pg_name (i:=2) sc_law_name_right.nd rfl (by first | exact Or.inl rfl | exact Or.inr rfl)) (pgs_cons (pg_name (i:=3) sc_law_name_right.nd rfl (by first | exact Or.inl rfl | exact Or.inr rfl)) (pgs_cons (pg_name (i:=4) sc_law_name_right.nd rfl (by first | exact Or.inl rfl | exact Or.inr rfl)) (pgs_cons (pg_name (i:=5) sc_law_name_right.nd rfl (by first | exact Or.inl rfl | exact Or.inr rfl)) pgs_nil))))))
      (pss_cons (ps_if (PW.pt (pw_and (pt_cmpR op_isN (pv 3) pe_non (nomark _)) (pw_and1 (pt_val (pv 4)))))
      (pss_one (ps_ret pe_bl))
      pss_nil)
      (pss_cons (ps_if (pt_cmpR op_notN (pv 3) pe_non (nomark _))
      (pss_one (ps_if (PW.pt (pw_or (pt_cmp (pc_dnotin (Nat.lt_of_le_of_lt (Nat.add_le_add_left (by decide) _) hu) (pv 3) (pv 0))) (pw_or (pt_cmpR (op_notInK (K:=K) rfl) (pv 1) (pe_ix (ix_seqK (K:=K) rfl) (pe_dget (Nat.lt_of_le_of_lt (Nat.add_le_add_left (by decide) _) hu) (pv 0) (pv 3) (fun _ _=>rfl)) pe_int (fun _ _=>rfl)) rfl) (pw_or1 (pt_cmpR (op_ltP (K:=K) rfl (Nat.lt_of_le_of_lt (Nat.le_add_right _ _) hu)) (pe_tup (pa_cons (pv 2) (pa_cons (pv 1) pa_nil))) (pe_tup (pa_cons (pe_ix (ix_seqK (K:=K) rfl) (pe_dget (Nat.lt_of_le_of_lt (Nat.add_le_add_left (by decide) _) hu) (pv 0) (pv 3) (fun _ _=>rfl)) pe_int (fun _ _=>rfl)) (pa_cons (pv 3) pa_nil))) (nomark _))))))
      (pss_one (ps_ret pe_bl))
      pss_nil))
      pss_nil)
      (pss_cons (ps_for PassesOwn.never rfl (pi_range1 rfl z_range (pa_cons (pe_callB (call_lenK (K:=K) rfl) rfl z_len PySem.boot_len (pa_cons (pv 5) pa_nil)) pa_nil)) (pg_name (i:=6) sc_law_name_right.nd rfl (by first | exact Or.inl rfl | exact Or.inr rfl))
      (pss_cons (ps_if (PW.pt (pw_or (pt_cmp (pc_dnotin (Nat.lt_of_le_of_lt (Nat.add_le_add_left (by decide) _) hu) (pe_ix (ix_seqK (K:=K) rfl) (pv 5) (pv 6) (fun _ _=>rfl)) (pv 0))) (pw_or (pt_cmpR (op_inK (K:=K) rfl) (pe_ix (ix_seqK (K:=K) rfl) (pv 5) (pv 6) (fun _ _=>rfl)) (pe_slice (sl_tupK (K:=K) rfl) (pv 5) po_none (po_some (pv 6))) rfl) (pw_or1 (pt_cmpR (op_neK (K:=K) rfl hu) (pe_ix (ix_seqK (K:=K) rfl) (pe_dget (Nat.lt_of_le_of_lt (Nat.add_le_add_left (by decide) _) hu) (pv 0) (pe_ix (ix_seqK (K:=K) rfl) (pv 5) (pv 6) (fun _ _=>rfl)) (fun _ _=>rfl)) pe_int (fun _ _=>rfl)) (pv 1) (nomark _))))))
      (pss_one (ps_ret pe_bl))
      pss_nil)
      (pss_one (ps_if (pt_cmpR op_lt (pe_callB (call_lenK (K:=K) rfl) rfl z_len PySem.boot_len (pa_cons (pe_ix (ix_seqK (K:=K) rfl) (pe_dget (Nat.lt_of_le_of_lt (Nat.add_le_add_left (by decide) _) hu) (pv 0) (pe_ix (ix_seqK (K:=K) rfl) (pv 5) (pv 6) (fun _ _=>rfl)) (fun _ _=>rfl)) pe_int (fun _ _=>rfl)) pa_nil)) (pe_op op_sub (pv 6) (pe_callTy call_int1 rfl z_int PyProof.Rows.boot_int (pa_cons (pe_ix (ix_seqK (K:=K) rfl) (pe_dget (Nat.lt_of_le_of_lt (Nat.add_le_add_left (by decide) _) hu) (pv 0) (pe_ix (ix_seqK (K:=K) rfl) (pv 5) (pv 6) (fun _ _=>rfl)) (fun _ _=>rfl)) pe_int (fun _ _=>rfl)) pa_nil))) (nomark _))
      (pss_one (ps_ret pe_bl))
      pss_nil))))
      (pss_one (ps_ret pe_bl)))))),
      fn_run (n:=2) (k:=5) (ms_seq (ms_asgG (me_op J_ixD me_var me_var) (mg_tupL (mgs_cons mg_name (mgs_cons mg_name (mgs_cons mg_name (mgs_cons mg_name mgs_nil))))))
      (ms_seq (ms_if (mt_and (mt_test (me_op J_is me_var me_non)) (mt_tB me_var))
      (ms_ret me_bl)
      ms_next)
      (ms_seq (ms_if (mt_test (me_op J_isNot me_var me_non))
      (ms_if (mt_or (mt_test (me_op J_notInD me_var me_var)) (mt_or (mt_test (me_op J_notInT me_var (me_op J_ix (me_op J_ixD me_var me_var) me_int))) (mt_test (me_op J_ltP (me_tup (ma_cons me_var (ma_cons me_var ma_nil))) (me_tup (ma_cons (me_op J_ix (me_op J_ixD me_var me_var) me_int) (ma_cons me_var ma_nil)))))))
      (ms_ret me_bl)
      ms_next)
      ms_next)
      (ms_seq (ms_for (mf_rng1 (ma_cons (me_cb J_len (ma_cons me_var ma_nil)) ma_nil)) mg_name
      (ms_seq (ms_if (mt_or (mt_test (me_op J_notInD (me_op J_ix me_var me_var) me_var)) (mt_or (mt_test (me_op J_inT (me_op J_ix me_var me_var) (me_sl J_slT me_var mo_none (mo_some me_var)))) (mt_test (me_op J_ne (me_op J_ix (me_op J_ixD me_var (me_op J_ix me_var me_var)) me_int) me_var))))
      (ms_ret me_bl)
      ms_next)
      (ms_if (mt_test (me_op J_B0 (me_cb J_len (ma_cons (me_op J_ix (me_op J_ixD me_var (me_op J_ix me_var me_var)) me_int) ma_nil)) (me_op J_I0 me_var (me_cb J_int (ma_cons (me_op J_ix (me_op J_ixD me_var (me_op J_ix me_var me_var)) me_int) ma_nil)))))
      (ms_ret me_bl)
      ms_next)))
      (ms_ret me_bl))))) rfl h⟩
theorem ok_law_in_form (Z:NoGl mg) (T:Top K mg "_law_in_form" s_law_in_form) (D_law_name_right:Def P w K mg base CX0 1 "_law_name_right" ["_law_held","_law_name"] (spM m_law_name_right)) (D_law_reaches:Def P w K mg base CX0 1 "_law_reaches" ["_law_held","_law_name"] (spM m_law_reaches)):Def P w K mg base CX0 2 "_law_in_form" ["_law_tops","_law_held"] (spM m_law_in_form):=by
  refine T.def sc_law_in_form (fun vs H Q E h=>spM_len h) (fun _ _ _ _ _ _ us hl=>match us,hl with | [_,_],_=>rfl) fun f cdv A outer s H vs Q E hr h=>?_
  have hu:=hr.units
  exact ⟨_,(pss_cons (ps_for PassesOwn.never rfl (pi_listK (K:=K) rfl (pv 0)) (pg_name (i:=2) sc_law_in_form.nd rfl (by first | exact Or.inl rfl | exact Or.inr rfl))
      (pss_one (ps_if (PW.pt (pw_or (pt_cmpR (op_neK (K:=K) rfl hu) (pe_bmK (K:=K) rfl PySem.F.plainAttrs_list PySem.F.slot_list_count PySem.F.type_list_count (mt_countK (K:=K) rfl) (pv 0) (pa_cons (pv 2) pa_nil)) pe_int (nomark _)) (pw_or (pt_cmp (pc_dnotin (Nat.lt_of_le_of_lt (Nat.add_le_add_left (by decide) _) hu) (pv 2) (pv 1))) (pw_or1 (pt_cmpR op_notN (pe_ix (ix_seqK (K:=K) rfl) (pe_dget (Nat.lt_of_le_of_lt (Nat.add_le_add_left (by decide) _) hu) (pv 1) (pv 2) (fun _ _=>rfl)) pe_int (fun _ _=>rfl)) pe_non (nomark _))))))
      (pss_one (ps_ret pe_bl))
      pss_nil)))
      (pss_cons (ps_frz2 (ps_for PassesOwn.never rfl (pi_dict (pv 1)) (pg_name (i:=2) sc_law_in_form.nd rfl (by first | exact Or.inl rfl | exact Or.inr rfl))
      (pss_cons (ps_if (PW.pt (pw_and (pt_cmpR op_isN (pe_ix (ix_seqK (K:=K) rfl) (pe_dget (Nat.lt_of_le_of_lt (Nat.add_le_add_left (by decide) _) hu) (pv 1) (pv 2) (fun _ _=>rfl)) pe_int (fun _ _=>rfl)) pe_non (nomark _)) (pw_and1 (pt_cmpR (op_notInK (K:=K) rfl) (pv 2) (pv 0) rfl))))
      (pss_one (ps_ret pe_bl))
      pss_nil)
      (pss_one (ps_if (PW.pt (pw_or (pt_not (pt_val (pe_def D_law_reaches (hr.mono (by omega)) (pa_cons (pv 1) (pa_cons (pv 2) pa_nil))))) (pw_or1 (pt_not (pt_val (pe_def D_law_name_right (hr.mono (by omega)) (pa_cons (pv 1) (pa_cons (pv 2) pa_nil))))))))
      (pss_one (ps_ret pe_bl))
      pss_nil)))))
      (pss_one (ps_ret pe_bl)))),
      fn_run (n:=2) (k:=1) (ms_seq (ms_for (mf_list me_var) mg_name
      (ms_if (mt_or (mt_test (me_op J_ne (me_bm J_count me_var (ma_cons me_var ma_nil)) me_int)) (mt_or (mt_test (me_op J_notInD me_var me_var)) (mt_test (me_op J_isNot (me_op J_ix (me_op J_ixD me_var me_var) me_int) me_non))))
      (ms_ret me_bl)
      ms_next))
      (ms_seq (ms_forD calm_var mg_name
      (ms_seq (ms_if (mt_and (mt_test (me_op J_is (me_op J_ix (me_op J_ixD me_var me_var) me_int) me_non)) (mt_test (me_op J_notInT me_var me_var)))
      (ms_ret me_bl)
      ms_next)
      (ms_if (mt_or (mt_not (mt_tB (me_call (ma_cons me_var (ma_cons me_var ma_nil))))) (mt_not (mt_tB (me_call (ma_cons me_var (ma_cons me_var ma_nil))))))
      (ms_ret me_bl)
      ms_next)))
      (ms_ret me_bl))) rfl h⟩
theorem ok_hangs_well (Z:NoGl mg) (T:Top K mg "hangs_well" s_hangs_well) :Def P w K mg base CX0 1 "hangs_well" ["held","name","place"] (spM m_hangs_well):=by
  have z_len:mg "len" = none:=Z _ (by decide +kernel)
  refine T.def sc_hangs_well (fun vs H Q E h=>spM_len h) (fun _ _ _ _ _ _ us hl=>match us,hl with | [_,_,_],_=>rfl) fun f cdv A outer s H vs Q E hr h=>?_
  have hu:=hr.units
  exact ⟨_,(pss_cons (ps_set (i:=3) sc_hangs_well.nd rfl (by first | exact Or.inl rfl | exact Or.inr rfl) (pe_ix (ix_seqK (K:=K) rfl) (pe_ix (ix_seqK (K:=K) rfl) (pe_dget (Nat.lt_of_le_of_lt (Nat.add_le_add_left (by decide) _) hu) (pv 0) (pv 1) (fun _ _=>rfl)) pe_int (fun _ _=>rfl)) (pv 2) (fun _ _=>rfl)))
      (pss_cons (ps_if (PW.pt (pw_or (pt_cmp (pc_dnotin (Nat.lt_of_le_of_lt (Nat.add_le_add_left (by decide) _) hu) (pv 3) (pv 0))) (pw_or1 (pt_cmpR (op_neK (K:=K) rfl hu) (pe_ix (ix_seqK (K:=K) rfl) (pe_dget (Nat.lt_of_le_of_lt (Nat.add_le_add_left (by decide) _) hu) (pv 0) (pv 3) (fun _ _=>rfl)) pe_int (fun _ _=>rfl)) (pv 1) (nomark _)))))
      (pss_one (ps_ret pe_bl))
      pss_nil)
      (pss_cons (ps_set (i:=4) sc_hangs_well.nd rfl (by first | exact Or.inl rfl | exact Or.inr rfl) (pe_ifExp (pt_val (pe_ix (ix_seqK (K:=K) rfl) (pe_dget (Nat.lt_of_le_of_lt (Nat.add_le_add_left (by decide) _) hu) (pv 0) (pv 3) (fun _ _=>rfl)) pe_int (fun _ _=>rfl))) (pe_op op_sub (pv 2) pe_int) (pv 2)))
      (pss_one (ps_ret (pe_cmpR op_ge (pe_callB (call_lenK (K:=K) rfl) rfl z_len PySem.boot_len (pa_cons (pe_ix (ix_seqK (K:=K) rfl) (pe_dget (Nat.lt_of_le_of_lt (Nat.add_le_add_left (by decide) _) hu) (pv 0) (pv 3) (fun _ _=>rfl)) pe_int (fun _ _=>rfl)) pa_nil)) (pv 4) (nomark _))))))),
      fn_run (n:=3) (k:=2) (ms_seq (ms_asg (me_op J_ix (me_op J_ix (me_op J_ixD me_var me_var) me_int) me_var))
      (ms_seq (ms_if (mt_or (mt_test (me_op J_notInD me_var me_var)) (mt_test (me_op J_ne (me_op J_ix (me_op J_ixD me_var me_var) me_int) me_var)))
      (ms_ret me_bl)
      ms_next)
      (ms_seq (ms_asg (me_ifE (mt_tB (me_op J_ix (me_op J_ixD me_var me_var) me_int)) (me_op J_I0 me_var me_int) me_var))
      (ms_ret (me_op J_B0 (me_cb J_len (ma_cons (me_op J_ix (me_op J_ixD me_var me_var) me_int) ma_nil)) me_var))))) rfl h⟩
theorem ok_standing (Z:NoGl mg) (T:Top K mg "standing" s_standing) :Def P w K mg base CX0 1 "standing" ["held","name"] (spM m_standing):=by
  refine T.def sc_standing (fun vs H Q E h=>spM_len h) (fun _ _ _ _ _ _ us hl=>match us,hl with | [_,_],_=>rfl) fun f cdv A outer s H vs Q E hr h=>?_
  have hu:=hr.units
  exact ⟨_,(pss_one (ps_ret (pe_tup (pa_cons (pe_ix (ix_seqK (K:=K) rfl) (pe_dget (Nat.lt_of_le_of_lt (Nat.add_le_add_left (by decide) _) hu) (pv 0) (pv 1) (fun _ _=>rfl)) pe_int (fun _ _=>rfl)) (pa_cons (pv 1) pa_nil))))),
      fn_run (n:=2) (k:=0) (ms_ret (me_tup (ma_cons (me_op J_ix (me_op J_ixD me_var me_var) me_int) (ma_cons me_var ma_nil)))) rfl h⟩
theorem ok_ties_in_form (Z:NoGl mg) (T:Top K mg "ties_in_form" s_ties_in_form) (D_hangs_well:Def P w K mg base CX0 1 "hangs_well" ["held","name","place"] (spM m_hangs_well)) (D_standing:Def P w K mg base CX0 1 "standing" ["held","name"] (spM m_standing)):Def P w K mg base CX0 2 "ties_in_form" ["held","name"] (spM m_ties_in_form):=by
  have z_len:mg "len" = none:=Z _ (by decide +kernel)
  have z_range:mg "range" = none:=Z _ (by decide +kernel)
  have z_all:mg "all" = none:=Z _ (by decide +kernel)
  refine T.def sc_ties_in_form (fun vs H Q E h=>spM_len h) (fun _ _ _ _ _ _ us hl=>match us,hl with | [_,_],_=>rfl) fun f cdv A outer s H vs Q E hr h=>?_
  have hu:=hr.units
  exact ⟨_,(pss_cons (ps_set (i:=2) sc_ties_in_form.nd rfl (by first | exact Or.inl rfl | exact Or.inr rfl) (pe_ix (ix_seqK (K:=K) rfl) (pe_dget (Nat.lt_of_le_of_lt (Nat.add_le_add_left (by decide) _) hu) (pv 0) (pv 1) (fun _ _=>rfl)) pe_int (fun _ _=>rfl)))
      (pss_cons (ps_if (pt_cmpR op_isN (pv 2) pe_non (nomark _))
      (pss_one (ps_if (pt_val (pe_ix (ix_seqK (K:=K) rfl) (pe_dget (Nat.lt_of_le_of_lt (Nat.add_le_add_left (by decide) _) hu) (pv 0) (pv 1) (fun _ _=>rfl)) pe_int (fun _ _=>rfl)))
      (pss_one (ps_ret pe_bl))
      pss_nil))
      (pss_one (ps_if (PW.pt (pw_or (pt_cmp (pc_dnotin (Nat.lt_of_le_of_lt (Nat.add_le_add_left (by decide) _) hu) (pv 2) (pv 0))) (pw_or (pt_cmpR (op_neK (K:=K) rfl hu) (pe_bmT PySem.F.plainAttrs_tuple PySem.F.slot_tuple_count PySem.F.type_tuple_count mt_countT (pe_ix (ix_seqK (K:=K) rfl) (pe_dget (Nat.lt_of_le_of_lt (Nat.add_le_add_left (by decide) _) hu) (pv 0) (pv 2) (fun _ _=>rfl)) pe_int (fun _ _=>rfl)) (pa_cons (pv 1) pa_nil)) pe_int (nomark _)) (pw_or1 (pt_cmpR (op_ltP (K:=K) rfl (Nat.lt_of_le_of_lt (Nat.le_add_right _ _) hu)) (pe_def D_standing (hr.mono (by omega)) (pa_cons (pv 0) (pa_cons (pv 1) pa_nil))) (pe_def D_standing (hr.mono (by omega)) (pa_cons (pv 0) (pa_cons (pv 2) pa_nil))) (nomark _))))))
      (pss_one (ps_ret pe_bl))
      pss_nil)))
      (pss_one (ps_ret (pe_callB (call_allK (K:=K) rfl rfl) rfl z_all PyProof.Rows.boot_all (pa_cons (pe_lc (fr:=[("held",0),("name",1)]) rfl ⟨rfl,rfl,rfl,rfl,rfl,rfl,by decide +kernel⟩ (pi_range1 rfl z_range (pa_cons (pe_callB (call_lenK (K:=K) rfl) rfl z_len PySem.boot_len (pa_cons (pe_ix (ix_seqK (K:=K) rfl) (pe_dget (Nat.lt_of_le_of_lt (Nat.add_le_add_left (by decide) _) hu) (pv 0) (pv 1) (fun _ _=>rfl)) pe_int (fun _ _=>rfl)) pa_nil)) pa_nil)) (fun _ _ _ _=>pif_nil) (fun _ _ _ _=>(pe_def D_hangs_well (hr.mono (by omega)) (pa_cons (pv 1) (pa_cons (pv 2) (pa_cons (pv 0) pa_nil)))))) pa_nil)))))),
      fn_run (n:=2) (k:=1) (ms_seq (ms_asg (me_op J_ix (me_op J_ixD me_var me_var) me_int))
      (ms_seq (ms_if (mt_test (me_op J_is me_var me_non))
      (ms_if (mt_tB (me_op J_ix (me_op J_ixD me_var me_var) me_int))
      (ms_ret me_bl)
      ms_next)
      (ms_if (mt_or (mt_test (me_op J_notInD me_var me_var)) (mt_or (mt_test (me_op J_ne (me_countT (me_op J_ix (me_op J_ixD me_var me_var) me_int) (ma_cons me_var ma_nil)) me_int)) (mt_test (me_op J_ltP (me_call (ma_cons me_var (ma_cons me_var ma_nil))) (me_call (ma_cons me_var (ma_cons me_var ma_nil)))))))
      (ms_ret me_bl)
      ms_next))
      (ms_ret (me_cb J_all (ma_cons (me_lc (mi_rng1 (ma_cons (me_cb J_len (ma_cons (me_op J_ix (me_op J_ixD me_var me_var) me_int) ma_nil)) ma_nil)) mt_yes (me_call (ma_cons me_var (ma_cons me_var (ma_cons me_var ma_nil))))) ma_nil))))) rfl h⟩
theorem ok_comes_to_top (Z:NoGl mg) (T:Top K mg "comes_to_top" s_comes_to_top) :Def P w K mg base CX0 1 "comes_to_top" ["held","name"] (spM m_comes_to_top):=by
  have z_len:mg "len" = none:=Z _ (by decide +kernel)
  have z_range:mg "range" = none:=Z _ (by decide +kernel)
  refine T.def sc_comes_to_top (fun vs H Q E h=>spM_len h) (fun _ _ _ _ _ _ us hl=>match us,hl with | [_,_],_=>rfl) fun f cdv A outer s H vs Q E hr h=>?_
  have hu:=hr.units
  exact ⟨_,(pss_cons (ps_set (i:=2) sc_comes_to_top.nd rfl (by first | exact Or.inl rfl | exact Or.inr rfl) (pv 1))
      (pss_cons (ps_for PassesOwn.never rfl (pi_range1 rfl z_range (pa_cons (pe_callB call_lenR rfl z_len PySem.boot_len (pa_cons (pv 0) pa_nil)) pa_nil)) (pg_name (i:=3) sc_comes_to_top.nd rfl (by first | exact Or.inl rfl | exact Or.inr rfl))
      (pss_cons (ps_if (PW.pt (pw_or (pt_cmpR op_isN (pv 2) pe_non (nomark _)) (pw_or1 (pt_cmp (pc_dnotin (Nat.lt_of_le_of_lt (Nat.add_le_add_left (by decide) _) hu) (pv 2) (pv 0))))))
      (pss_one ps_break)
      pss_nil)
      (pss_one (ps_set (i:=2) sc_comes_to_top.nd rfl (by first | exact Or.inl rfl | exact Or.inr rfl) (pe_ix (ix_seqK (K:=K) rfl) (pe_dget (Nat.lt_of_le_of_lt (Nat.add_le_add_left (by decide) _) hu) (pv 0) (pv 2) (fun _ _=>rfl)) pe_int (fun _ _=>rfl))))))
      (pss_one (ps_ret (pe_cmpR op_isN (pv 2) pe_non (nomark _)))))),
      fn_run (n:=2) (k:=2) (ms_seq (ms_asg me_var)
      (ms_seq (ms_for (mf_rng1 (ma_cons (me_cb J_lenR (ma_cons me_var ma_nil)) ma_nil)) mg_name
      (ms_seq (ms_if (mt_or (mt_test (me_op J_is me_var me_non)) (mt_test (me_op J_notInD me_var me_var)))
      ms_break
      ms_next)
      (ms_asg (me_op J_ix (me_op J_ixD me_var me_var) me_int))))
      (ms_ret (me_op J_is me_var me_non)))) rfl h⟩
theorem ok_pile_in_form (Z:NoGl mg) (T:Top K mg "pile_in_form" s_pile_in_form) (D_comes_to_top:Def P w K mg base CX0 1 "comes_to_top" ["held","name"] (spM m_comes_to_top)) (D_ties_in_form:Def P w K mg base CX0 2 "ties_in_form" ["held","name"] (spM m_ties_in_form)):Def P w K mg base CX0 3 "pile_in_form" ["pile"] (spM m_pile_in_form):=by
  have z_all:mg "all" = none:=Z _ (by decide +kernel)
  have z_sorted:mg "sorted" = none:=Z _ (by decide +kernel)
  refine T.def sc_pile_in_form (fun vs H Q E h=>spM_len h) (fun _ _ _ _ _ _ us hl=>match us,hl with | [_],_=>rfl) fun f cdv A outer s H vs Q E hr h=>?_
  have hu:=hr.units
  exact ⟨_,(pss_cons (ps_set (i:=1) sc_pile_in_form.nd rfl (by first | exact Or.inl rfl | exact Or.inr rfl) (pe_ix (ix_seqK (K:=K) rfl) (pv 0) pe_int (fun _ _=>rfl)))
      (pss_cons (ps_set (i:=2) sc_pile_in_form.nd rfl (by first | exact Or.inl rfl | exact Or.inr rfl) (pe_ix (ix_seqK (K:=K) rfl) (pv 0) pe_int (fun _ _=>rfl)))
      (pss_cons (ps_if (pt_cmpR (op_neK (K:=K) rfl hu) (pe_callB (call_sortedSK (K:=K) rfl) rfl z_sorted PyProof.Rows.boot_sorted (pa_cons (pv 1) pa_nil)) (pe_callB (call_sortedSK (K:=K) rfl) rfl z_sorted PyProof.Rows.boot_sorted (pa_cons (pe_frz2 (pe_lc (fr:=[("held",2)]) rfl ⟨rfl,rfl,rfl,rfl,rfl,rfl,by decide +kernel⟩ (pi_dict (pv 2)) (fun _ _ _ _=>(pif_one (pt_cmpR op_isN (pe_ix (ix_seqK (K:=K) rfl) (pe_dget (Nat.lt_of_le_of_lt (Nat.add_le_add_left (by decide) _) hu) (pv 1) (pv 0) (fun _ _=>rfl)) pe_int (fun _ _=>rfl)) pe_non (nomark _)))) (fun _ _ _ _=>(pv 0)))) pa_nil)) (nomark _))
      (pss_one (ps_ret pe_bl))
      pss_nil)
      (pss_one (ps_ret (pe_callB (call_allK (K:=K) rfl rfl) rfl z_all PyProof.Rows.boot_all (pa_cons (pe_frz2 (pe_lc (fr:=[("held",2)]) rfl ⟨rfl,rfl,rfl,rfl,rfl,rfl,by decide +kernel⟩ (pi_dict (pv 2)) (fun _ _ _ _=>pif_nil) (fun _ _ _ _=>(pe_and (pe_def D_ties_in_form (hr.mono (by omega)) (pa_cons (pv 1) (pa_cons (pv 0) pa_nil))) (pe_one (pe_def D_comes_to_top (hr.mono (by omega)) (pa_cons (pv 1) (pa_cons (pv 0) pa_nil)))))))) pa_nil))))))),
      fn_run (n:=1) (k:=2) (ms_seq (ms_asg (me_op J_ix me_var me_int))
      (ms_seq (ms_asg (me_op J_ix me_var me_int))
      (ms_seq (ms_if (mt_test (me_op J_ne (me_cb J_sortedS (ma_cons me_var ma_nil)) (me_cb J_sortedS (ma_cons (me_lcD calm_var (mt_test (me_op J_is (me_op J_ix (me_op J_ixD me_var me_var) me_int) me_non)) me_var) ma_nil))))
      (ms_ret me_bl)
      ms_next)
      (ms_ret (me_cb J_all (ma_cons (me_lcD calm_var mt_yes (me_andV (me_call (ma_cons me_var (ma_cons me_var ma_nil))) (me_call (ma_cons me_var (ma_cons me_var ma_nil))))) ma_nil)))))) rfl h⟩
theorem ok_pile_credit (Z:NoGl mg) (T:Top K mg "pile_credit" s_pile_credit) :Def P w K mg base CX0 1 "pile_credit" ["pile"] (spM m_pile_credit):=by
  have z_len:mg "len" = none:=Z _ (by decide +kernel)
  refine T.def sc_pile_credit (fun vs H Q E h=>spM_len h) (fun _ _ _ _ _ _ us hl=>match us,hl with | [_],_=>rfl) fun f cdv A outer s H vs Q E hr h=>?_
  have hu:=hr.units
  exact ⟨_,(pss_cons (ps_frz2 (ps_setLC (i0:=1) (fr:=[("pile",0)]) rfl sc_pile_credit.nd rfl (by first | exact Or.inl rfl | exact Or.inr rfl) ⟨rfl,rfl,rfl,rfl,rfl,rfl,by decide +kernel⟩ (pi_dict (pe_ix (ix_seqK (K:=K) rfl) (pv 0) pe_int (fun _ _=>rfl))) (fun _ _ _ _=>(pif_one (pt_val (pe_ix (ix_seqK (K:=K) rfl) (pe_dget (Nat.lt_of_le_of_lt (Nat.add_le_add_left (by decide) _) hu) (pe_ix (ix_seqK (K:=K) rfl) (pv 1) pe_int (fun _ _=>rfl)) (pv 0) (fun _ _=>rfl)) pe_int (fun _ _=>rfl))))) (fun _ _ _ _=>(pv 0))))
      (pss_one (ps_ret (pe_op (op_addK (K:=K) rfl) (pe_callB (call_lenK (K:=K) rfl) rfl z_len PySem.boot_len (pa_cons (pe_ix (ix_seqK (K:=K) rfl) (pv 0) pe_int (fun _ _=>rfl)) pa_nil)) (pe_op op_mulM pe_int (pe_callB (call_lenK (K:=K) rfl) rfl z_len PySem.boot_len (pa_cons (pv 1) pa_nil))))))),
      fn_run (n:=1) (k:=1) (ms_seq (ms_asg (me_lcD (calm_ix (j:=1) calm_var) (mt_tB (me_op J_ix (me_op J_ixD (me_op J_ix me_var me_int) me_var) me_int)) me_var))
      (ms_ret (me_op J_add (me_cb J_len (ma_cons (me_op J_ix me_var me_int) ma_nil)) (me_op J_mul me_int (me_cb J_len (ma_cons me_var ma_nil)))))) rfl h⟩
theorem ok_law_entry_spoiled (Z:NoGl mg) (T:Top K mg "_law_entry_spoiled" s_law_entry_spoiled) :Def P w K mg base CX0 1 "_law_entry_spoiled" ["_law_held","_law_name","_law_way","_law_other"] (spI m_law_entry_spoiled):=by
  have z_tuple:mg "tuple" = none:=Z _ (by decide +kernel)
  have z_len:mg "len" = none:=Z _ (by decide +kernel)
  have z_list:mg "list" = none:=Z _ (by decide +kernel)
  refine T.def sc_law_entry_spoiled (fun vs H Q E h=>spI_len h) (fun _ _ _ _ _ _ us hl=>match us,hl with | [_,_,_,_],_=>rfl) fun f cdv A outer s H vs Q E hr h=>?_
  have hu:=hr.units
  exact ⟨_,(pss_cons (ps_asg (pe_dget (Nat.lt_of_le_of_lt (Nat.add_le_add_left (by decide) _) hu) (pv 0) (pv 1) (fun _ _=>rfl)) (pg_tupL rfl (pgs_cons (pg_name (i:=4) sc_law_entry_spoiled.nd rfl (by first | exact Or.inl rfl | exact Or.inr rfl)) (pgs_cons (pg_name (i:=5) sc_law_entry_spoiled.nd rfl (by first | exact Or.inl rfl | exact Or.inr rfl)) (pgs_cons (pg_name (i:=6) sc_law_entry_spoiled.nd rfl (by first | exact Or.inl rfl | exact Or.inr rfl)) (pgs_cons (pg_name (i:=7) sc_law_entry_spoiled.nd rfl (by first | exact Or.inl rfl | exact Or.inr rfl)) pgs_nil))))))
      (pss_cons (ps_set (i:=7) sc_law_entry_spoiled.nd rfl (by first | exact Or.inl rfl | exact Or.inr rfl) (pe_callTy (call_listK (K:=K) rfl) rfl z_list PyProof.Rows.boot_list (pa_cons (pv 7) pa_nil)))
      (pss_cons (ps_if (pt_cmpR (op_eqK (K:=K) rfl hu) (pv 2) pe_int (nomark _))
      (pss_one (ps_set (i:=4) sc_law_entry_spoiled.nd rfl (by first | exact Or.inl rfl | exact Or.inr rfl) (pe_ix (ix_seqK (K:=K) rfl) (pe_lst (pa_cons (pe_un un_neg (pv 4)) (pa_cons (pe_op op_fdiv (pv 4) pe_int) (pa_cons (pe_op (op_addK (K:=K) rfl) (pe_un un_neg (pe_op op_pow pe_int pe_int)) pe_int) (pa_cons (pe_op op_sub (pe_op op_pow pe_int pe_int) pe_int) pa_nil))))) (pe_op op_mod (pe_op (op_addK (K:=K) rfl) (pe_callB (call_lenK (K:=K) rfl) rfl z_len PySem.boot_len (pa_cons (pv 3) pa_nil)) (pv 4)) pe_int) (fun _ _=>rfl))))
      pss_nil)
      (pss_cons (ps_if (pt_cmpR (op_eqK (K:=K) rfl hu) (pv 2) pe_int (nomark _))
      (pss_one (ps_set (i:=5) sc_law_entry_spoiled.nd rfl (by first | exact Or.inl rfl | exact Or.inr rfl) (pv 3)))
      pss_nil)
      (pss_cons (ps_if (pt_cmpR (op_eqK (K:=K) rfl hu) (pv 2) pe_int (nomark _))
      (pss_one (ps_set (i:=6) sc_law_entry_spoiled.nd rfl (by first | exact Or.inl rfl | exact Or.inr rfl) (pe_not (pv 6))))
      pss_nil)
      (pss_cons (ps_if (PW.pt (pw_and (pt_cmpR (op_eqK (K:=K) rfl hu) (pv 2) pe_int (nomark _)) (pw_and1 (pt_cmpR op_gt (pe_callB (call_lenK (K:=K) rfl) rfl z_len PySem.boot_len (pa_cons (pv 7) pa_nil)) pe_int (nomark _)))))
      (pss_one (ps_set (i:=7) sc_law_entry_spoiled.nd rfl (by first | exact Or.inl rfl | exact Or.inr rfl) (pe_op (op_addK (K:=K) rfl) (pe_op (op_addK (K:=K) rfl) (pe_lst (pa_cons (pe_ix (ix_seqK (K:=K) rfl) (pv 7) (pe_un un_neg pe_int) (fun _ _=>rfl)) pa_nil)) (pe_slice (sl_listK (K:=K) rfl) (pv 7) (po_some pe_int) (po_some (pe_un un_neg pe_int)))) (pe_lst (pa_cons (pe_ix (ix_seqK (K:=K) rfl) (pv 7) pe_int (fun _ _=>rfl)) pa_nil)))))
      pss_nil)
      (pss_cons (ps_if (pt_cmpR (op_eqK (K:=K) rfl hu) (pv 2) pe_int (nomark _))
      (pss_one (ps_set (i:=7) sc_law_entry_spoiled.nd rfl (by first | exact Or.inl rfl | exact Or.inr rfl) (pe_slice (sl_listK (K:=K) rfl) (pv 7) (po_some pe_int) po_none)))
      pss_nil)
      (pss_cons (ps_if (pt_cmpR (op_eqK (K:=K) rfl hu) (pv 2) pe_int (nomark _))
      (pss_one (ps_set (i:=7) sc_law_entry_spoiled.nd rfl (by first | exact Or.inl rfl | exact Or.inr rfl) (pe_op (op_addK (K:=K) rfl) (pe_op (op_addK (K:=K) rfl) (pv 7) (pe_slice (sl_listK (K:=K) rfl) (pv 7) po_none (po_some pe_int))) (pe_lst (pa_cons (pv 3) pa_nil)))))
      pss_nil)
      (pss_cons (ps_if (pt_cmpR (op_eqK (K:=K) rfl hu) (pv 2) pe_int (nomark _))
      (pss_cons (ps_set (i:=5) sc_law_entry_spoiled.nd rfl (by first | exact Or.inl rfl | exact Or.inr rfl) (pv 1))
      (pss_one (ps_expr (pe_bmK (K:=K) rfl PySem.F.plainAttrs_list PySem.F.slot_list_append PySem.F.type_list_append mt_append (pv 7) (pa_cons (pv 1) pa_nil)))))
      pss_nil)
      (pss_cons (ps_if (pt_cmpR (op_eqK (K:=K) rfl hu) (pv 2) pe_int (nomark _))
      (pss_one (ps_set (i:=5) sc_law_entry_spoiled.nd rfl (by first | exact Or.inl rfl | exact Or.inr rfl) pe_non))
      pss_nil)
      (pss_one (ps_dput (Nat.lt_of_le_of_lt (Nat.add_le_add_left (by decide) _) hu) (pv 0) (pv 1) (pe_tup (pa_cons (pv 4) (pa_cons (pv 5) (pa_cons (pv 6) (pa_cons (pe_callTy (call_tupleK (K:=K) rfl) rfl z_tuple PyProof.Rows.boot_tuple (pa_cons (pv 7) pa_nil)) pa_nil))))) rfl)))))))))))),
      fn_runI (n:=4) (k:=4) (ms_seq (ms_asgG (me_op J_ixD me_var me_var) (mg_tupL (mgs_cons mg_name (mgs_cons mg_name (mgs_cons mg_name (mgs_cons mg_name mgs_nil))))))
      (ms_seq (ms_asg (me_cb J_list (ma_cons me_var ma_nil)))
      (ms_seq (ms_if (mt_test (me_op J_eq me_var me_int))
      (ms_asg (me_op J_ix (me_lst (ma_cons (me_un J_neg me_var) (ma_cons (me_op J_I me_var me_int) (ma_cons (me_op J_add (me_un J_neg (me_op J_I me_int me_int)) me_int) (ma_cons (me_op J_I0 (me_op J_I me_int me_int) me_int) ma_nil))))) (me_op J_I (me_op J_add (me_cb J_len (ma_cons me_var ma_nil)) me_var) me_int)))
      ms_next)
      (ms_seq (ms_if (mt_test (me_op J_eq me_var me_int))
      (ms_asg me_var)
      ms_next)
      (ms_seq (ms_if (mt_test (me_op J_eq me_var me_int))
      (ms_asg (me_notV me_var))
      ms_next)
      (ms_seq (ms_if (mt_and (mt_test (me_op J_eq me_var me_int)) (mt_test (me_op J_B0 (me_cb J_len (ma_cons me_var ma_nil)) me_int)))
      (ms_asg (me_op J_add (me_op J_add (me_lst (ma_cons (me_op J_ix me_var (me_un J_neg me_int)) ma_nil)) (me_sl J_sl me_var (mo_some me_int) (mo_some (me_un J_neg me_int)))) (me_lst (ma_cons (me_op J_ix me_var me_int) ma_nil))))
      ms_next)
      (ms_seq (ms_if (mt_test (me_op J_eq me_var me_int))
      (ms_asg (me_sl J_sl me_var (mo_some me_int) mo_none))
      ms_next)
      (ms_seq (ms_if (mt_test (me_op J_eq me_var me_int))
      (ms_asg (me_op J_add (me_op J_add me_var (me_sl J_sl me_var mo_none (mo_some me_int))) (me_lst (ma_cons me_var ma_nil))))
      ms_next)
      (ms_seq (ms_if (mt_test (me_op J_eq me_var me_int))
      (ms_seq (ms_asg me_var)
      (ms_drop (me_mut J_append (ma_cons me_var ma_nil))))
      ms_next)
      (ms_seq (ms_if (mt_test (me_op J_eq me_var me_int))
      (ms_asg me_non)
      ms_next)
      (ms_putD (i:=0) (me_tup (ma_cons me_var (ma_cons me_var (ma_cons me_var (ma_cons (me_cb J_tuple (ma_cons me_var ma_nil)) ma_nil))))) me_var))))))))))) rfl h⟩
theorem ok_law_spoiled (Z:NoGl mg) (T:Top K mg "_law_spoiled" s_law_spoiled) (D_law_entry_spoiled:Def P w K mg base CX0 1 "_law_entry_spoiled" ["_law_held","_law_name","_law_way","_law_other"] (spI m_law_entry_spoiled)):Def P w K mg base CX0 2 "_law_spoiled" ["_law_tops","_law_held","_law_cell"] (spJ m_law_spoiled):=by
  have z_len:mg "len" = none:=Z _ (by decide +kernel)
  have z_list:mg "list" = none:=Z _ (by decide +kernel)
  refine T.def sc_law_spoiled (fun vs H Q E h=>spJ_len h) (fun _ _ _ _ _ _ us hl=>match us,hl with | [_,_,_],_=>rfl) fun f cdv A outer s H vs Q E hr h=>?_
  have hu:=hr.units
  exact ⟨_,(pss_cons (ps_set (i:=3) sc_law_spoiled.nd rfl (by first | exact Or.inl rfl | exact Or.inr rfl) (pe_callTy (call_listK2 rfl) rfl z_list PyProof.Rows.boot_list (pa_cons (pv 1) pa_nil)))
      (pss_cons (ps_set (i:=4) sc_law_spoiled.nd rfl (by first | exact Or.inl rfl | exact Or.inr rfl) (pe_op op_mod (pv 2) pe_int))
      (pss_one (ps_if (pt_cmpR (op_eqK (K:=K) rfl hu) (pv 3) (pe_lst pa_nil) (nomark _))
      (pss_one (ps_expr (pe_bmK (K:=K) rfl PySem.F.plainAttrs_list PySem.F.slot_list_append PySem.F.type_list_append mt_append (pv 0) (pa_cons pe_str pa_nil))))
      (pss_one (ps_if (pt_cmpR (op_eqK (K:=K) rfl hu) (pv 4) pe_int (nomark _))
      (pss_one (ps_expr (pe_bmK (K:=K) rfl PySem.F.plainAttrs_list PySem.F.slot_list_insert PySem.F.type_list_insert mt_insert (pv 0) (pa_cons (pe_op op_mod (pe_op op_fdiv (pv 2) pe_int) (pe_op (op_addK (K:=K) rfl) (pe_callB (call_lenK (K:=K) rfl) rfl z_len PySem.boot_len (pa_cons (pv 0) pa_nil)) pe_int)) (pa_cons (pe_ix (ix_seqK (K:=K) rfl) (pe_op (op_addK (K:=K) rfl) (pv 3) (pe_lst (pa_cons pe_str pa_nil))) (pe_op op_mod (pe_op op_fdiv (pv 2) pe_int) (pe_op (op_addK (K:=K) rfl) (pe_callB (call_lenK (K:=K) rfl) rfl z_len PySem.boot_len (pa_cons (pv 3) pa_nil)) pe_int)) (fun _ _=>rfl)) pa_nil)))))
      (pss_one (ps_if (pt_cmpR (op_eqK (K:=K) rfl hu) (pv 4) pe_int (nomark _))
      (pss_one (ps_expr (pe_bmK (K:=K) rfl PySem.F.plainAttrs_list PySem.F.slot_list_pop PySem.F.type_list_pop mt_popAt (pv 0) (pa_cons (pe_op op_mod (pe_op op_fdiv (pv 2) pe_int) (pe_callB (call_lenK (K:=K) rfl) rfl z_len PySem.boot_len (pa_cons (pv 0) pa_nil))) pa_nil))))
      (pss_cons (ps_set (i:=5) sc_law_spoiled.nd rfl (by first | exact Or.inl rfl | exact Or.inr rfl) (pe_ix (ix_seqK (K:=K) rfl) (pe_op (op_addK (K:=K) rfl) (pv 3) (pe_lst (pa_cons pe_str pa_nil))) (pe_op op_mod (pe_op op_fdiv (pv 2) pe_int) (pe_op (op_addK (K:=K) rfl) (pe_callB (call_lenK (K:=K) rfl) rfl z_len PySem.boot_len (pa_cons (pv 3) pa_nil)) pe_int)) (fun _ _=>rfl)))
      (pss_one (ps_expr (pe_def D_law_entry_spoiled (hr.mono (by omega)) (pa_cons (pv 1) (pa_cons (pe_ix (ix_seqK (K:=K) rfl) (pv 3) (pe_op op_mod (pe_op op_fdiv (pv 2) pe_int) (pe_callB (call_lenK (K:=K) rfl) rfl z_len PySem.boot_len (pa_cons (pv 3) pa_nil))) (fun _ _=>rfl)) (pa_cons (pv 4) (pa_cons (pv 5) pa_nil)))))))))))))))),
      fn_runJ (n:=3) (k:=3) (ms_seq (ms_asg (me_cb J_listK (ma_cons me_var ma_nil)))
      (ms_seq (ms_asg (me_op J_I me_var me_int))
      (ms_if (mt_test (me_op J_eq me_var (me_lst ma_nil)))
      (ms_drop (me_mut J_append (ma_cons me_str ma_nil)))
      (ms_if (mt_test (me_op J_eq me_var me_int))
      (ms_drop (me_mut J_insert (ma_cons (me_op J_I (me_op J_I me_var me_int) (me_op J_add (me_cb J_len (ma_cons me_var ma_nil)) me_int)) (ma_cons (me_op J_ix (me_op J_add me_var (me_lst (ma_cons me_str ma_nil))) (me_op J_I (me_op J_I me_var me_int) (me_op J_add (me_cb J_len (ma_cons me_var ma_nil)) me_int))) ma_nil))))
      (ms_if (mt_test (me_op J_eq me_var me_int))
      (ms_drop (me_mut J_popAt (ma_cons (me_op J_I (me_op J_I me_var me_int) (me_cb J_len (ma_cons me_var ma_nil))) ma_nil)))
      (ms_seq (ms_asg (me_op J_ix (me_op J_add me_var (me_lst (ma_cons me_str ma_nil))) (me_op J_I (me_op J_I me_var me_int) (me_op J_add (me_cb J_len (ma_cons me_var ma_nil)) me_int))))
      (ms_drop (me_callI (i:=1) (ma_cons (me_op J_ix me_var (me_op J_I (me_op J_I me_var me_int) (me_cb J_len (ma_cons me_var ma_nil)))) (ma_cons me_var (ma_cons me_var ma_nil))))))))))) rfl h⟩
theorem ok_law {f:Addr} {fd:FuncData} (NL:noLists K=true) (Z:NoGl mg) (F:Fun K "law" "law" s_law f fd) (D_pile_credit:Def P w K mg base CX0 1 "pile_credit" ["pile"] (spM m_pile_credit)) (D_pile_in_form:Def P w K mg base CX0 3 "pile_in_form" ["pile"] (spM m_pile_in_form)) (D_law_in_form:Def P w K mg base CX0 2 "_law_in_form" ["_law_tops","_law_held"] (spM m_law_in_form)) (D_law_spoiled:Def P w K mg base CX0 2 "_law_spoiled" ["_law_tops","_law_held","_law_cell"] (spJ m_law_spoiled)) (D_law_cell_at:Def P w K mg base CX0 1 "_law_cell_at" ["_law_script","_law_k"] (spM m_law_cell_at)) (DD_law_begun:Def P w K mg base CX0 15 "_law_begun" ["_law_cells"] (spD d_law_begun)):FnOk P w K mg base CX0 16 f fd ["_law_script"] (spLaw K):=by
  have z_len:mg "len" = none:=Z _ (by decide +kernel)
  have z_bool:mg "bool" = none:=Z _ (by decide +kernel)
  have z_isinstance:mg "isinstance" = none:=Z _ (by decide +kernel)
  have z_int:mg "int" = none:=Z _ (by decide +kernel)
  have z_dict:mg "dict" = none:=Z _ (by decide +kernel)
  have z_list:mg "list" = none:=Z _ (by decide +kernel)
  refine FnOk.imp (sp:=spM m_law) ?_ (law_sp NL law_true)
  refine F.ok sc_law (fun vs H Q E h=>spM_len h) fun cdv A outer s H vs Q E hr h=>?_
  have hu:=hr.units
  exact ⟨_,(pss_cons (ps_asg (pe_def DD_law_begun (hr.mono (by omega)) (pa_cons (pe_slice (sl_listK (K:=K) rfl) (pv 0) (po_some pe_int) (po_some pe_int)) pa_nil)) (pg_tupL rfl (pgs_cons (pg_name (i:=1) sc_law.nd rfl (by first | exact Or.inl rfl | exact Or.inr rfl)) (pgs_cons (pg_name (i:=2) sc_law.nd rfl (by first | exact Or.inl rfl | exact Or.inr rfl)) pgs_nil))))
      (pss_cons (ps_set (i:=3) sc_law.nd rfl (by first | exact Or.inl rfl | exact Or.inr rfl) (pe_def D_law_cell_at (hr.mono (by omega)) (pa_cons (pv 0) (pa_cons pe_int pa_nil))))
      (pss_cons (ps_if (pt_cmpR op_gt (pe_op op_mod (pv 3) pe_int) pe_int (nomark _))
      (pss_one (ps_expr (pe_def D_law_spoiled (hr.mono (by omega)) (pa_cons (pv 1) (pa_cons (pv 2) (pa_cons (pe_def D_law_cell_at (hr.mono (by omega)) (pa_cons (pv 0) (pa_cons pe_int pa_nil))) pa_nil))))))
      pss_nil)
      (pss_cons (ps_if (PW.pt (pw_and (pt_cmpR op_gt (pe_op op_mod (pv 3) pe_int) pe_int (nomark _)) (pw_and1 (pt_cmpR op_gt (pe_callB (call_lenK (K:=K) rfl) rfl z_len PySem.boot_len (pa_cons (pv 1) pa_nil)) pe_int (nomark _)))))
      (pss_one (ps_expr (pe_def D_law_spoiled (hr.mono (by omega)) (pa_cons (pv 1) (pa_cons (pv 2) (pa_cons (pe_def D_law_cell_at (hr.mono (by omega)) (pa_cons (pv 0) (pa_cons pe_int pa_nil))) pa_nil))))))
      pss_nil)
      (pss_cons (ps_set (i:=4) sc_law.nd rfl (by first | exact Or.inl rfl | exact Or.inr rfl) (pe_def D_law_in_form (hr.mono (by omega)) (pa_cons (pv 1) (pa_cons (pv 2) pa_nil))))
      (pss_cons (ps_set (i:=5) sc_law.nd rfl (by first | exact Or.inl rfl | exact Or.inr rfl) (pe_tup (pa_cons (pe_callTy (call_listK (K:=K) rfl) rfl z_list PyProof.Rows.boot_list (pa_cons (pv 1) pa_nil)) (pa_cons (pe_callTy call_dictC rfl z_dict PyProof.Rows.boot_dict (pa_cons (pv 2) pa_nil)) pa_nil))))
      (pss_cons (ps_set (i:=6) sc_law.nd rfl (by first | exact Or.inl rfl | exact Or.inr rfl) (pe_def D_pile_in_form (hr.mono (by omega)) (pa_cons (pv 5) pa_nil)))
      (pss_cons (ps_if (PW.pt (pw_or (pt_not (pt_val (pe_callB call_isi rfl z_isinstance PyProof.Rows.boot_isinstance (pa_cons (pv 6) (pa_cons (pe_ty z_bool PyProof.Rows.boot_bool) pa_nil))))) (pw_or (pt_cmpR (op_neK (K:=K) rfl hu) (pv 6) (pv 4) (nomark _)) (pw_or1 (pt_cmpR (op_nePK (K:=K) rfl hr) (pv 5) (pe_tup (pa_cons (pv 1) (pa_cons (pv 2) pa_nil))) (nomark _))))))
      (pss_one (ps_ret pe_bl))
      pss_nil)
      (pss_cons (ps_if (pt_not (pt_val (pv 4)))
      (pss_one (ps_ret pe_bl))
      pss_nil)
      (pss_cons (ps_set (i:=7) sc_law.nd rfl (by first | exact Or.inl rfl | exact Or.inr rfl) (pe_def D_pile_credit (hr.mono (by omega)) (pa_cons (pv 5) pa_nil)))
      (pss_cons (ps_set (i:=8) sc_law.nd rfl (by first | exact Or.inl rfl | exact Or.inr rfl) (pe_callB (call_lenK (K:=K) rfl) rfl z_len PySem.boot_len (pa_cons (pe_frz2 (pe_lc (fr:=[("_law_held",2)]) rfl ⟨rfl,rfl,rfl,rfl,rfl,rfl,by decide +kernel⟩ (pi_dict (pv 2)) (fun _ _ _ _=>(pif_one (pt_val (pe_ix (ix_seqK (K:=K) rfl) (pe_dget (Nat.lt_of_le_of_lt (Nat.add_le_add_left (by decide) _) hu) (pv 1) (pv 0) (fun _ _=>rfl)) pe_int (fun _ _=>rfl))))) (fun _ _ _ _=>(pv 0)))) pa_nil)))
      (pss_one (ps_ret (pe_and (pe_callB call_isi rfl z_isinstance PyProof.Rows.boot_isinstance (pa_cons (pv 7) (pa_cons (pe_ty z_int PyProof.Rows.boot_int) pa_nil))) (pe_and (pe_not (pe_callB call_isi rfl z_isinstance PyProof.Rows.boot_isinstance (pa_cons (pv 7) (pa_cons (pe_ty z_bool PyProof.Rows.boot_bool) pa_nil)))) (pe_one (pe_cmpR (op_eqK (K:=K) rfl hu) (pv 7) (pe_op (op_addK (K:=K) rfl) (pe_callB (call_lenK (K:=K) rfl) rfl z_len PySem.boot_len (pa_cons (pv 1) pa_nil)) (pe_op op_mulM pe_int (pv 8))) (nomark _)))))))))))))))))),
      fn_run (n:=1) (k:=8) (ms_seq (ms_unp (ma_cons (me_sl J_sl me_var (mo_some me_int) (mo_some me_int)) ma_nil))
      (ms_seq (ms_asg (me_call (ma_cons me_var (ma_cons me_int ma_nil))))
      (ms_seq (ms_if (mt_test (me_op J_B0 (me_op J_I me_var me_int) me_int))
      (ms_drop (me_callJ (i:=1) (j:=2) (ma_cons (me_call (ma_cons me_var (ma_cons me_int ma_nil))) ma_nil)))
      ms_next)
      (ms_seq (ms_if (mt_and (mt_test (me_op J_B0 (me_op J_I me_var me_int) me_int)) (mt_test (me_op J_B0 (me_cb J_len (ma_cons me_var ma_nil)) me_int)))
      (ms_drop (me_callJ (i:=1) (j:=2) (ma_cons (me_call (ma_cons me_var (ma_cons me_int ma_nil))) ma_nil)))
      ms_next)
      (ms_seq (ms_asg (me_call (ma_cons me_var (ma_cons me_var ma_nil))))
      (ms_seq (ms_asg (me_tup (ma_cons (me_cb J_list (ma_cons me_var ma_nil)) (ma_cons (me_cb J_dictC (ma_cons me_var ma_nil)) ma_nil))))
      (ms_seq (ms_asg (me_call (ma_cons me_var ma_nil)))
      (ms_seq (ms_if (mt_or (mt_not (mt_tB (me_isi me_var))) (mt_or (mt_test (me_op J_ne me_var me_var)) (mt_test (me_op J_neP me_var (me_tup (ma_cons me_var (ma_cons me_var ma_nil)))))))
      (ms_ret me_bl)
      ms_next)
      (ms_seq (ms_if (mt_not (mt_tB me_var))
      (ms_ret me_bl)
      ms_next)
      (ms_seq (ms_asg (me_call (ma_cons me_var ma_nil)))
      (ms_seq (ms_asg (me_cb J_len (ma_cons (me_lcD calm_var (mt_tB (me_op J_ix (me_op J_ixD me_var me_var) me_int)) me_var) ma_nil)))
      (ms_ret (me_andV (me_isi me_var) (me_andV (me_notV (me_isi me_var)) (me_op J_eq me_var (me_op J_add (me_cb J_len (ma_cons me_var ma_nil)) (me_op J_mul me_int me_var))))))))))))))))) rfl h⟩
end
end K71
open PySem PySem.W PyProof.Rows
set_option maxRecDepth 100000 in
set_option maxHeartbeats 0 in
theorem PySem.Challenge.cw_creditworks_k71_piles_in_form_holds : PySem.Challenge.rw_creditworks_k71_piles_in_form.Holds := by
  w_on; o_law; k_head; (case hw=>w_witness2)
  k_fill
  refine L2.walk_law (l:=PySem.Challenge.rw_creditworks_k71_piles_in_form) (k:=16) (x:="_law_script") (st:=K71.s_law) rfl rfl ⟨rfl,by decide,by decide⟩ (fun w h Y=>PySem.W.kIn_of Y) (fun _ _ _ _ _ _ _=>rfl) ?F
  case F =>
    intro w mg h KX G
    have T_law_like:L2.Top (L2.KOf KX) mg "_law_like" K71.s_law_like:=by
      dsimp only [L2.KOf]
      refine' L2.Top.mk' KX G ?a ?l ?c ?k
      (case a=>k_is); (case l=>k_is); (case c=>k_is); (case k=>k_is)
    have T_law_cut:L2.Top (L2.KOf KX) mg "_law_cut" K71.s_law_cut:=by
      dsimp only [L2.KOf]
      refine' L2.Top.mk' KX G ?a ?l ?c ?k
      (case a=>k_is); (case l=>k_is); (case c=>k_is); (case k=>k_is)
    have T_law_before:L2.Top (L2.KOf KX) mg "_law_before" K71.s_law_before:=by
      dsimp only [L2.KOf]
      refine' L2.Top.mk' KX G ?a ?l ?c ?k
      (case a=>k_is); (case l=>k_is); (case c=>k_is); (case k=>k_is)
    have T_law_hung:L2.Top (L2.KOf KX) mg "_law_hung" K71.s_law_hung:=by
      dsimp only [L2.KOf]
      refine' L2.Top.mk' KX G ?a ?l ?c ?k
      (case a=>k_is); (case l=>k_is); (case c=>k_is); (case k=>k_is)
    have T_law_name_by:L2.Top (L2.KOf KX) mg "_law_name_by" K71.s_law_name_by:=by
      dsimp only [L2.KOf]
      refine' L2.Top.mk' KX G ?a ?l ?c ?k
      (case a=>k_is); (case l=>k_is); (case c=>k_is); (case k=>k_is)
    have T_law_key_by:L2.Top (L2.KOf KX) mg "_law_key_by" K71.s_law_key_by:=by
      dsimp only [L2.KOf]
      refine' L2.Top.mk' KX G ?a ?l ?c ?k
      (case a=>k_is); (case l=>k_is); (case c=>k_is); (case k=>k_is)
    have T_law_built:L2.Top (L2.KOf KX) mg "_law_built" K71.s_law_built:=by
      dsimp only [L2.KOf]
      refine' L2.Top.mk' KX G ?a ?l ?c ?k
      (case a=>k_is); (case l=>k_is); (case c=>k_is); (case k=>k_is)
    have T_law_grown:L2.Top (L2.KOf KX) mg "_law_grown" K71.s_law_grown:=by
      dsimp only [L2.KOf]
      refine' L2.Top.mk' KX G ?a ?l ?c ?k
      (case a=>k_is); (case l=>k_is); (case c=>k_is); (case k=>k_is)
    have T_law_begun:L2.Top (L2.KOf KX) mg "_law_begun" K71.s_law_begun:=by
      dsimp only [L2.KOf]
      refine' L2.Top.mk' KX G ?a ?l ?c ?k
      (case a=>k_is); (case l=>k_is); (case c=>k_is); (case k=>k_is)
    have T_law_cell_at:L2.Top (L2.KOf KX) mg "_law_cell_at" K71.s_law_cell_at:=by
      dsimp only [L2.KOf]
      refine' L2.Top.mk' KX G ?a ?l ?c ?k
      (case a=>k_is); (case l=>k_is); (case c=>k_is); (case k=>k_is)
    have T_law_reaches:L2.Top (L2.KOf KX) mg "_law_reaches" K71.s_law_reaches:=by
      dsimp only [L2.KOf]
      refine' L2.Top.mk' KX G ?a ?l ?c ?k
      (case a=>k_is); (case l=>k_is); (case c=>k_is); (case k=>k_is)
    have T_law_name_right:L2.Top (L2.KOf KX) mg "_law_name_right" K71.s_law_name_right:=by
      dsimp only [L2.KOf]
      refine' L2.Top.mk' KX G ?a ?l ?c ?k
      (case a=>k_is); (case l=>k_is); (case c=>k_is); (case k=>k_is)
    have T_law_in_form:L2.Top (L2.KOf KX) mg "_law_in_form" K71.s_law_in_form:=by
      dsimp only [L2.KOf]
      refine' L2.Top.mk' KX G ?a ?l ?c ?k
      (case a=>k_is); (case l=>k_is); (case c=>k_is); (case k=>k_is)
    have T_hangs_well:L2.Top (L2.KOf KX) mg "hangs_well" K71.s_hangs_well:=by
      dsimp only [L2.KOf]
      refine' L2.Top.mk' KX G ?a ?l ?c ?k
      (case a=>k_is); (case l=>k_is); (case c=>k_is); (case k=>k_is)
    have T_standing:L2.Top (L2.KOf KX) mg "standing" K71.s_standing:=by
      dsimp only [L2.KOf]
      refine' L2.Top.mk' KX G ?a ?l ?c ?k
      (case a=>k_is); (case l=>k_is); (case c=>k_is); (case k=>k_is)
    have T_ties_in_form:L2.Top (L2.KOf KX) mg "ties_in_form" K71.s_ties_in_form:=by
      dsimp only [L2.KOf]
      refine' L2.Top.mk' KX G ?a ?l ?c ?k
      (case a=>k_is); (case l=>k_is); (case c=>k_is); (case k=>k_is)
    have T_comes_to_top:L2.Top (L2.KOf KX) mg "comes_to_top" K71.s_comes_to_top:=by
      dsimp only [L2.KOf]
      refine' L2.Top.mk' KX G ?a ?l ?c ?k
      (case a=>k_is); (case l=>k_is); (case c=>k_is); (case k=>k_is)
    have T_pile_in_form:L2.Top (L2.KOf KX) mg "pile_in_form" K71.s_pile_in_form:=by
      dsimp only [L2.KOf]
      refine' L2.Top.mk' KX G ?a ?l ?c ?k
      (case a=>k_is); (case l=>k_is); (case c=>k_is); (case k=>k_is)
    have T_pile_credit:L2.Top (L2.KOf KX) mg "pile_credit" K71.s_pile_credit:=by
      dsimp only [L2.KOf]
      refine' L2.Top.mk' KX G ?a ?l ?c ?k
      (case a=>k_is); (case l=>k_is); (case c=>k_is); (case k=>k_is)
    have T_law_entry_spoiled:L2.Top (L2.KOf KX) mg "_law_entry_spoiled" K71.s_law_entry_spoiled:=by
      dsimp only [L2.KOf]
      refine' L2.Top.mk' KX G ?a ?l ?c ?k
      (case a=>k_is); (case l=>k_is); (case c=>k_is); (case k=>k_is)
    have T_law_spoiled:L2.Top (L2.KOf KX) mg "_law_spoiled" K71.s_law_spoiled:=by
      dsimp only [L2.KOf]
      refine' L2.Top.mk' KX G ?a ?l ?c ?k
      (case a=>k_is); (case l=>k_is); (case c=>k_is); (case k=>k_is)
    have T_law:L2.Top (L2.KOf KX) mg "law" K71.s_law:=by
      dsimp only [L2.KOf]
      refine' L2.Top.mk' KX G ?a ?l ?c ?k
      (case a=>k_is); (case l=>k_is); (case c=>k_is); (case k=>k_is)
    have z_all:mg "all" = none:=by
      refine' PySem.W.mg_none_of KX G ?z
      (case z=>k_is)
    have z_bool:mg "bool" = none:=by
      refine' PySem.W.mg_none_of KX G ?z
      (case z=>k_is)
    have z_dict:mg "dict" = none:=by
      refine' PySem.W.mg_none_of KX G ?z
      (case z=>k_is)
    have z_enumerate:mg "enumerate" = none:=by
      refine' PySem.W.mg_none_of KX G ?z
      (case z=>k_is)
    have z_int:mg "int" = none:=by
      refine' PySem.W.mg_none_of KX G ?z
      (case z=>k_is)
    have z_isinstance:mg "isinstance" = none:=by
      refine' PySem.W.mg_none_of KX G ?z
      (case z=>k_is)
    have z_len:mg "len" = none:=by
      refine' PySem.W.mg_none_of KX G ?z
      (case z=>k_is)
    have z_list:mg "list" = none:=by
      refine' PySem.W.mg_none_of KX G ?z
      (case z=>k_is)
    have z_max:mg "max" = none:=by
      refine' PySem.W.mg_none_of KX G ?z
      (case z=>k_is)
    have z_range:mg "range" = none:=by
      refine' PySem.W.mg_none_of KX G ?z
      (case z=>k_is)
    have z_sorted:mg "sorted" = none:=by
      refine' PySem.W.mg_none_of KX G ?z
      (case z=>k_is)
    have z_tuple:mg "tuple" = none:=by
      refine' PySem.W.mg_none_of KX G ?z
      (case z=>k_is)
    have Z:K71.NoGl mg:=by
      intro x hx
      simp only [List.mem_cons,List.not_mem_nil,or_false] at hx
      rcases hx with rfl | rfl | rfl | rfl | rfl | rfl | rfl | rfl | rfl | rfl | rfl | rfl <;> assumption
    have NL:Mir.noLists (L2.KOf KX)=true:=by
      dsimp only [L2.KOf]
      first | rfl | kernel_rfl | k_is
    refine ⟨T_law,fun f fd Ff base kb gb=>?_⟩
    have D_law_like:=K71.ok_law_like (P:=PySem.Challenge.rw_creditworks_k71_piles_in_form.prog) (w:=w) (base:=base) Z T_law_like
    have D_law_cut:=K71.ok_law_cut (P:=PySem.Challenge.rw_creditworks_k71_piles_in_form.prog) (w:=w) (base:=base) Z T_law_cut
    have D_law_before:=K71.ok_law_before (P:=PySem.Challenge.rw_creditworks_k71_piles_in_form.prog) (w:=w) (base:=base) Z T_law_before
    have D_law_hung:=K71.ok_law_hung (P:=PySem.Challenge.rw_creditworks_k71_piles_in_form.prog) (w:=w) (base:=base) Z T_law_hung
    have D_law_name_by:=K71.ok_law_name_by (P:=PySem.Challenge.rw_creditworks_k71_piles_in_form.prog) (w:=w) (base:=base) Z T_law_name_by
    have D_law_key_by:=K71.ok_law_key_by (P:=PySem.Challenge.rw_creditworks_k71_piles_in_form.prog) (w:=w) (base:=base) Z T_law_key_by
    have D_law_built:=K71.ok_law_built (P:=PySem.Challenge.rw_creditworks_k71_piles_in_form.prog) (w:=w) (base:=base) Z T_law_built D_law_cut D_law_hung D_law_before D_law_key_by D_law_name_by D_law_like
    have DD_law_built:=K71.okd_law_built (P:=PySem.Challenge.rw_creditworks_k71_piles_in_form.prog) (w:=w) (base:=base) Z T_law_built D_law_cut D_law_hung D_law_before D_law_key_by D_law_name_by D_law_like
    have D_law_grown:=K71.ok_law_grown (P:=PySem.Challenge.rw_creditworks_k71_piles_in_form.prog) (w:=w) (base:=base) Z T_law_grown D_law_name_by 12
    have D_law_begun:=K71.ok_law_begun (P:=PySem.Challenge.rw_creditworks_k71_piles_in_form.prog) (w:=w) (base:=base) Z T_law_begun D_law_key_by D_law_name_by D_law_grown D_law_built
    have DD_law_begun:=K71.okd_law_begun (P:=PySem.Challenge.rw_creditworks_k71_piles_in_form.prog) (w:=w) (base:=base) Z T_law_begun D_law_key_by D_law_name_by D_law_grown DD_law_built
    have D_law_cell_at:=K71.ok_law_cell_at (P:=PySem.Challenge.rw_creditworks_k71_piles_in_form.prog) (w:=w) (base:=base) Z T_law_cell_at
    have D_law_reaches:=K71.ok_law_reaches (P:=PySem.Challenge.rw_creditworks_k71_piles_in_form.prog) (w:=w) (base:=base) Z T_law_reaches
    have D_law_name_right:=K71.ok_law_name_right (P:=PySem.Challenge.rw_creditworks_k71_piles_in_form.prog) (w:=w) (base:=base) Z T_law_name_right
    have D_law_in_form:=K71.ok_law_in_form (P:=PySem.Challenge.rw_creditworks_k71_piles_in_form.prog) (w:=w) (base:=base) Z T_law_in_form D_law_name_right D_law_reaches
    have D_hangs_well:=K71.ok_hangs_well (P:=PySem.Challenge.rw_creditworks_k71_piles_in_form.prog) (w:=w) (base:=base) Z T_hangs_well
    have D_standing:=K71.ok_standing (P:=PySem.Challenge.rw_creditworks_k71_piles_in_form.prog) (w:=w) (base:=base) Z T_standing
    have D_ties_in_form:=K71.ok_ties_in_form (P:=PySem.Challenge.rw_creditworks_k71_piles_in_form.prog) (w:=w) (base:=base) Z T_ties_in_form D_hangs_well D_standing
    have D_comes_to_top:=K71.ok_comes_to_top (P:=PySem.Challenge.rw_creditworks_k71_piles_in_form.prog) (w:=w) (base:=base) Z T_comes_to_top
    have D_pile_in_form:=K71.ok_pile_in_form (P:=PySem.Challenge.rw_creditworks_k71_piles_in_form.prog) (w:=w) (base:=base) Z T_pile_in_form D_comes_to_top D_ties_in_form
    have D_pile_credit:=K71.ok_pile_credit (P:=PySem.Challenge.rw_creditworks_k71_piles_in_form.prog) (w:=w) (base:=base) Z T_pile_credit
    have D_law_entry_spoiled:=K71.ok_law_entry_spoiled (P:=PySem.Challenge.rw_creditworks_k71_piles_in_form.prog) (w:=w) (base:=base) Z T_law_entry_spoiled
    have D_law_spoiled:=K71.ok_law_spoiled (P:=PySem.Challenge.rw_creditworks_k71_piles_in_form.prog) (w:=w) (base:=base) Z T_law_spoiled D_law_entry_spoiled
    exact K71.ok_law NL Z Ff D_pile_credit D_pile_in_form D_law_in_form D_law_spoiled D_law_cell_at DD_law_begun
