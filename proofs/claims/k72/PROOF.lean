import PyProof.Rows.All
import Wide.All
import OpenK.AllK
import Wide.FinOn
import Lean
import PyProof.EqAt
import PyProof.EqKinds
import PyProof.TupleCall
import KE.KTryMore
import PyProof.ZipIter
import KE.KSortTup
import PyProof.Rows.SortRunsK
import PySem.Challenge.RW_creditworks_k72_most_below

set_option Elab.async false
set_option linter.all false
set_option maxRecDepth 100000
namespace L2
open PySem PySem.Spec PyProof.Rows
abbrev Key := Sum Int Str
def keyIs : Key → Value → Bool
  | .inl k, v => Value.isInt k v
  | .inr x, v => Value.isStrOf x v
def keyH (w : World) : Key → Int
  | .inl k => hashInt k
  | .inr x => hashStr w x
theorem keyIs_shape : ∀ {k : Key} {v : Value}, keyIs k v = true → (∃ i t, k = Sum.inl i ∧ v = Value.int i t) ∨ (∃ x t, k = Sum.inr x ∧ v = Value.str x t)
  | .inl i, v, h => by
    obtain ⟨t, e⟩ := Value.isInt_shape (k := i) (v := v) h
    exact .inl ⟨i, t, rfl, e⟩
  | .inr x, v, h => by
    obtain ⟨t, e⟩ := Value.isStrOf_shape (x := x) (v := v) h
    exact .inr ⟨x, t, rfl, e⟩
theorem key_ll (a b : Int) : decide ((Sum.inl a : Key) = Sum.inl b) = (a == b) := by
  by_cases e : a = b
  · subst e; simp
  · have h : ¬ (Sum.inl a : Key) = Sum.inl b := fun q => e (Sum.inl.inj q)
    rw [decide_eq_false h]
    exact (beq_eq_false_iff_ne.mpr e).symm
theorem key_rr (a b : Str) : decide ((Sum.inr a : Key) = Sum.inr b) = decide (a = b) := by
  by_cases e : a = b
  · subst e; simp
  · have h : ¬ (Sum.inr a : Key) = Sum.inr b := fun q => e (Sum.inr.inj q)
    rw [decide_eq_false h, decide_eq_false e]
theorem key_lr (a : Int) (b : Str) : decide ((Sum.inl a : Key) = Sum.inr b) = false := decide_eq_false (fun q => nomatch q)
theorem key_rl (a : Str) (b : Int) : decide ((Sum.inr a : Key) = Sum.inl b) = false := decide_eq_false (fun q => nomatch q)
def mixKind (prog : Program) (w : World) : PySem.KeyKind prog w Key where
  is := keyIs
  hash := keyH w
  inj := fun v a b ha hb => by
    rcases keyIs_shape ha with ⟨i, t, rfl, rfl⟩ | ⟨x, t, rfl, rfl⟩
    · rcases keyIs_shape hb with ⟨j, u, rfl, e⟩ | ⟨y, u, rfl, e⟩
      · injection e with e1 _; rw [e1]
      · exact nomatch e
    · rcases keyIs_shape hb with ⟨j, u, rfl, e⟩ | ⟨y, u, rfl, e⟩
      · exact nomatch e
      · injection e with e1 _; rw [e1]
  byValue := fun k v h => by
    rcases keyIs_shape h with ⟨i, t, rfl, rfl⟩ | ⟨x, t, rfl, rfl⟩ <;> rfl
  pyHash := fun hv h => by
    rcases keyIs_shape hv with ⟨i, t, rfl, rfl⟩ | ⟨x, t, rfl, rfl⟩
    · exact wpAny_pyHash_int h
    · exact wpAny_pyHash_str h
  eqBool := fun hu hv h => by
    rcases keyIs_shape hu with ⟨i, t, rfl, rfl⟩ | ⟨x, t, rfl, rfl⟩
    · rcases keyIs_shape hv with ⟨j, u, rfl, rfl⟩ | ⟨y, u, rfl, rfl⟩
      · rw [key_ll] at h; exact wpAny_eqBool_int h
      · rw [key_lr] at h; exact SeqAt.EqAt.int_str i t y u _ _ _ _ h
    · rcases keyIs_shape hv with ⟨j, u, rfl, rfl⟩ | ⟨y, u, rfl, rfl⟩
      · rw [key_rl] at h; exact SeqAt.EqAt.str_int x t j u _ _ _ _ h
      · rw [key_rr] at h; exact wpAny_eqBool_str h
  «strs» := fun k x t v h => by
    rcases keyIs_shape h with ⟨i, u, rfl, e⟩ | ⟨y, u, rfl, e⟩
    · exact nomatch e
    · injection e with e1 _
      subst e1
      cases v <;> rfl
end L2
namespace L2
open PySem PySem.Spec PyProof.Rows
inductive V where
  | non | bl (b : Bool) | int (i : Int) | str (x : Str) | byt (b : Array UInt8) | flt (b : UInt64) | ref (a : Addr) | ty (n : String)
  deriving DecidableEq
def RelV : V → Value → Prop
  | .non, u => u = Value.none
  | .bl b, u => u = Value.bool b
  | .int i, u => ∃ t, u = Value.int i t
  | .str x, u => ∃ t, u = Value.str x t
  | .byt b, u => ∃ t, u = Value.bytes b t
  | .flt b, u => ∃ t, u = Value.float b t
  | .ref a, u => u = Value.ref a
  | .ty n, u => u = Value.type n
abbrev Vals : List V → List Value → Prop := Paired RelV
theorem Vals.length {xs : List V} {us : List Value} (r : Vals xs us) : xs.length = us.length := Paired.length r
theorem Vals.get : ∀ {xs : List V} {us : List Value} {i : Nat} {x : V}, Vals xs us → xs[i]? = some x → ∃ u, us[i]? = some u ∧ RelV x u
  | _, _, _, _, .nil, e => by simp at e
  | _, _, 0, _, .cons r _, e => by simp at e; subst e; exact ⟨_, rfl, r⟩
  | _, _, i + 1, x, .cons _ t, e => by
    obtain ⟨u, h1, h2⟩ := Vals.get (i := i) (x := x) t (by simpa using e)
    exact ⟨u, by simpa using h1, h2⟩
theorem Vals.set {x : V} {u : Value} (r : RelV x u) : ∀ {xs : List V} {us : List Value} (i : Nat), Vals xs us → Vals (xs.set i x) (us.set i u)
  | _, _, _, .nil => .nil
  | _, _, 0, .cons _ t => .cons r t
  | _, _, i + 1, .cons q t => .cons q (Vals.set r i t)
theorem Vals.append : ∀ {xs ys : List V} {us ws : List Value}, Vals xs us → Vals ys ws → Vals (xs ++ ys) (us ++ ws)
  | _, _, _, _, .nil, s => s
  | _, _, _, _, .cons r t, s => .cons r (Vals.append t s)
theorem Vals.take : ∀ {xs : List V} {us : List Value} (n : Nat), Vals xs us → Vals (xs.take n) (us.take n)
  | _, _, 0, _ => .nil
  | _, _, _ + 1, .nil => .nil
  | _, _, n + 1, .cons r t => .cons r (Vals.take n t)
theorem Vals.drop : ∀ {xs : List V} {us : List Value} (n : Nat), Vals xs us → Vals (xs.drop n) (us.drop n)
  | _, _, 0, r => r
  | _, _, _ + 1, .nil => .nil
  | _, _, n + 1, .cons _ t => Vals.drop n t
theorem Vals.none_of : ∀ {xs : List V} {us : List Value} {i : Nat}, Vals xs us → xs[i]? = none → us[i]? = none := fun {xs us i} r e => by
  have h1 := r.length
  have h2 : xs.length ≤ i := List.getElem?_eq_none_iff.mp e
  exact List.getElem?_eq_none_iff.mpr (by omega)
def RelO : Option V → Option Value → Prop
  | some v, some u => RelV v u
  | none, none => True
  | _, _ => False
def KV {κ : Type} : List (κ × V) → List (κ × Value) → Prop := Paired fun (p : κ × V) (q : κ × Value) => p.1 = q.1 ∧ RelV p.2 q.2
def kV : Key → V
  | .inl i => .int i
  | .inr x => .str x
inductive HO where
  | lst (xs : List V)
  | tup (xs : List V)
  | dK (kvs : List (Key × V)) | dT (kvs : List (List Key × V))
  | set (S : Int → Bool) (n : Nat)
  | ins (C dx : Addr) (fs : List (Str × V))
  | own (x : Addr)
  | xd (fs : List (Str × V))
  | met (f x : Addr)
  | rng (lo hi : Int)
  | frz (o : Obj) (u : HO)
  | tbl (ps : Array Value)
  | ext (φ : Heap → Prop)
abbrev Hp := Addr → Option HO
def upd (H : Hp) (a : Addr) (o : HO) : Hp := fun b => if b = a then some o else H b
theorem upd_same {H : Hp} {a : Addr} {o : HO} : upd H a o a = some o := by unfold upd; rw [if_pos rfl]
theorem upd_ne {H : Hp} {a b : Addr} {o : HO} (h : b ≠ a) : upd H a o b = H b := by unfold upd; rw [if_neg h]
theorem ne_of_none {H : Hp} {a b : Addr} {o : HO} (h : H a = some o) (h' : H b = none) : a ≠ b := by
  intro e; subst e; rw [h] at h'; cases h'
section
variable (P : Program) (w : World)
def ObjOk (H : Hp) (h : Heap) (a : Addr) : HO → Prop
  | .lst xs => xs.length ≤ sizeLine ∧ ∃ (its : List Value) (n : Nat), Vals xs its ∧ h.get? a = some { cls := .type "list", data := .seq its.toArray n }
  | .tup xs => xs.length ≤ sizeLine ∧ ∃ its : List Value, Vals xs its ∧ IsTup h a its.toArray
  | .dK kvs => kvs.length ≤ sizeLine ∧ (a == sysModules) = false ∧ ∃ vs, KV kvs vs ∧ h.DictOf (mixKind P w) a vs
  | .dT kvs => kvs.length ≤ sizeLine ∧ (a == sysModules) = false ∧ ∃ xs : List (List Key × Addr × Value),
      Paired (fun (p : List Key × V) (q : List Key × Addr × Value) => p.1 = q.1 ∧ H q.2.1 = some (.tup (p.1.map kV)) ∧ RelV p.2 q.2.2) kvs xs ∧
      ∃ o es ep, h.get? a = some o ∧ o.ExactDict ∧ o.data = .dict es ep ∧ es.toList = xs.map (entryOfKey (tupleKind (mixKind P w))) ∧ (xs.map (·.1)).Nodup
  | .set S n => h.SetOf (intKind P w) a S n
  | .ins C dx fs => H dx = some (.own a) ∧ fs.length ≤ 1000 ∧ dx ≠ a ∧ h.get? a = some (PySem.W.instObj C dx) ∧
      ∃ mA, h.Ns1 dx mA ∧ (∀ f, RelO (fs.lookup f) (mA f)) ∧ PySem.Within mA (fs.map (·.1))
  | .own _ => ∃ o, h.get? a = some o
  | .xd fs => ∃ mA, h.Ns1 a mA ∧ ∀ f, RelO (fs.lookup f) (mA f)
  | .rng lo hi => ∃ t u v, h.get? a = some { cls := .type "range", data := .fields #[.int lo t, .int hi u, .int 1 v] }
  | .frz o u => h.get? a = some o ∧ ObjOk H h a u
  | .tbl ps => h.get? a = some { cls := .none, data := .fields ps }
  | .met f x => h.get? a = some (PySem.W.methodObj (.ref f) (.ref x))
  | .ext φ => φ h ∧ (∃ o, h.get? a = some o) ∧ ∀ h1 h2 : Heap, φ h1 → (∀ o, h1.get? a = some o → h2.get? a = some o) → φ h2
def HOk (H : Hp) (h : Heap) : Prop := ∀ a o, H a = some o → ObjOk P w H h a o
end
section
variable {P : Program} {w : World} {H H' : Hp} {h h' : Heap} {a : Addr} {o : HO}
theorem ObjOk.lt (x : ObjOk P w H h a o) : a < h.objs.size := by
  cases o with
  | lst xs => obtain ⟨_, _, _, _, e⟩ := x; exact Heap.lt_size e
  | tup xs => obtain ⟨_, _, _, p⟩ := x; exact p.lt
  | dK kvs => obtain ⟨_, _, _, _, o, _, _, e, _⟩ := x; exact Heap.lt_size e
  | dT kvs => obtain ⟨_, _, _, _, o, _, _, e, _⟩ := x; exact Heap.lt_size e
  | set S n => obtain ⟨o, _, _, _, e, _⟩ := x; exact Heap.lt_size e
  | ins C dx fs => obtain ⟨_, _, _, e, _⟩ := x; exact Heap.lt_size e
  | own y => obtain ⟨_, e⟩ := x; exact Heap.lt_size e
  | xd fs => obtain ⟨_, ⟨_, _, _, e, _⟩, _⟩ := x; exact Heap.lt_size e
  | rng lo hi => obtain ⟨_, _, _, e⟩ := x; exact Heap.lt_size e
  | frz ob u => obtain ⟨e, _⟩ := x; exact Heap.lt_size e
  | tbl ps => exact Heap.lt_size (show h.get? a = some _ from x)
  | met f y => exact Heap.lt_size (show h.get? a = some _ from x)
  | ext φ => obtain ⟨_, ⟨_, e⟩, _⟩ := x; exact Heap.lt_size e
theorem Paired.mapP {α β : Type} {F G : α → β → Prop} : ∀ {l₁ : List α} {l₂ : List β}, Paired F l₁ l₂ → (∀ a b, F a b → G a b) → Paired G l₁ l₂
  | _, _, .nil, _ => .nil
  | _, _, .cons r t, f => .cons (f _ _ r) (Paired.mapP t f)
theorem ObjOk.stay (x : ObjOk P w H h a o) (k : ∀ b u, (b = a ∨ H b = some (.own a)) → h.get? b = some u → h'.get? b = some u)
    (ho : ∀ b, H b = some (.own a) → H' b = some (.own a)) (ht : ∀ b xs, H b = some (.tup xs) → H' b = some (.tup xs)) : ObjOk P w H' h' a o := by
  induction o with
  | lst xs => obtain ⟨z, its, n, r, e⟩ := x; exact ⟨z, its, n, r, k _ _ (.inl rfl) e⟩
  | tup xs => obtain ⟨z, its, r, ob, e, c⟩ := x; exact ⟨z, its, r, ob, k _ _ (.inl rfl) e, c⟩
  | dK kvs => obtain ⟨z, y, vs, r, ob, es, ep, e, c⟩ := x; exact ⟨z, y, vs, r, ob, es, ep, k _ _ (.inl rfl) e, c⟩
  | dT kvs =>
    obtain ⟨z, y, xs, r, ob, es, ep, e, c⟩ := x
    exact ⟨z, y, xs, Paired.mapP r fun p q z => ⟨z.1, ht _ _ z.2.1, z.2.2⟩, ob, es, ep, k _ _ (.inl rfl) e, c⟩
  | set S n => obtain ⟨ob, es, ep, t, e, c⟩ := x; exact ⟨ob, es, ep, t, k _ _ (.inl rfl) e, c⟩
  | ins C dx fs =>
    obtain ⟨d, z, ne, e, mA, ⟨od, es, ep, e2, c⟩, r⟩ := x
    exact ⟨ho _ d, z, ne, k _ _ (.inl rfl) e, mA, ⟨od, es, ep, k _ _ (.inr d) e2, c⟩, r⟩
  | own y => obtain ⟨ob, e⟩ := x; exact ⟨ob, k _ _ (.inl rfl) e⟩
  | xd fs => obtain ⟨mA, ⟨od, es, ep, e, c⟩, r⟩ := x; exact ⟨mA, ⟨od, es, ep, k _ _ (.inl rfl) e, c⟩, r⟩
  | rng lo hi => obtain ⟨t, u, v, e⟩ := x; exact ⟨t, u, v, k _ _ (.inl rfl) e⟩
  | frz ob u ih => obtain ⟨e, q⟩ := x; exact ⟨k _ _ (.inl rfl) e, ih q⟩
  | tbl ps =>
    have e : h.get? a = some { cls := .none, data := .fields ps } := x
    show h'.get? a = some { cls := .none, data := .fields ps }
    exact k a _ (.inl rfl) e
  | met f y =>
    have e : h.get? a = some (PySem.W.methodObj (.ref f) (.ref y)) := x
    show h'.get? a = some (PySem.W.methodObj (.ref f) (.ref y))
    exact k a _ (.inl rfl) e
  | ext φ => obtain ⟨p, ⟨o, e⟩, st⟩ := x; exact ⟨st _ _ p fun o q => k _ _ (.inl rfl) q, ⟨o, k _ _ (.inl rfl) e⟩, st⟩
theorem HOk.lt (x : HOk P w H h) (e : H a = some o) : a < h.objs.size := (x a o e).lt
theorem HOk.fresh (x : HOk P w H h) (e : h.objs.size ≤ a) : H a = none := by
  cases q : H a with
  | none => rfl
  | some u => exact absurd (Nat.lt_of_lt_of_le (x.lt q) e) (Nat.lt_irrefl _)
theorem HOk.kept (x : HOk P w H h) (k : ∀ b u, h.get? b = some u → h'.get? b = some u) : HOk P w H h' := fun a o e =>
  (x a o e).stay (fun b u _ q => k b u q) (fun _ q => q) fun _ _ q => q
theorem HOk.laid (x : HOk P w H h) (k : ∀ b u, h.get? b = some u → h'.get? b = some u) (hp : h.objs.size ≤ a) (new : ObjOk P w (upd H a o) h' a o) : HOk P w (upd H a o) h' := fun b u e => by
  have hn := x.fresh hp
  by_cases hb : b = a
  · subst hb; rw [upd_same] at e; cases e; exact new
  · rw [upd_ne hb] at e
    exact (x b u e).stay (fun c v _ q => k c v q) (fun c q => by rw [upd_ne (ne_of_none q hn)]; exact q) fun c xs q => by rw [upd_ne (ne_of_none q hn)]; exact q
end
def Rd (H : Hp) (a : Addr) (u : HO) : Prop := H a = some u ∨ ∃ o, H a = some (.frz o u)
theorem Rd.of {H : Hp} {a : Addr} {u : HO} (h : H a = some u) : Rd H a u := .inl h
theorem Rd.ok {P : Program} {w : World} {H : Hp} {h : Heap} {a : Addr} {u : HO} (r : Rd H a u) (x : HOk P w H h) : ObjOk P w H h a u := by
  rcases r with r | ⟨o, r⟩
  · exact x a u r
  · obtain ⟨_, q⟩ := x a _ r
    exact q
def Mut : Option HO → Prop
  | some (.lst _) => True
  | some (.dK _) => True
  | some (.dT _) => True
  | some (.set _ _) => True
  | some (.ins _ _ _) => True
  | some (.ext _) => True
  | _ => False
section
variable {P : Program} {w : World} {H : Hp} {h h' : Heap} {x e : Addr} {o' : HO}
theorem HOk.write (ok : HOk P w H h) (mu : Mut (H x)) (he : e = x ∨ H e = some (.own x)) (k : ∀ b u, b ≠ e → h.get? b = some u → h'.get? b = some u) (heo : ∃ u, h'.get? e = some u)
    (new : ObjOk P w (upd H x o') h' x o') : HOk P w (upd H x o') h' := fun b u q => by
  have nown : ∀ c y, H c = some (.own y) → c ≠ x := fun c y r z => by subst z; rw [r] at mu; exact mu
  have ntup : ∀ c xs, H c = some (.tup xs) → c ≠ x := fun c xs r z => by subst z; rw [r] at mu; exact mu
  by_cases hb : b = x
  · subst hb; rw [upd_same] at q; cases q; exact new
  · rw [upd_ne hb] at q
    by_cases hbe : b = e
    · have q' : H b = some (.own x) := by
        rcases he with z | z
        · exact absurd (hbe.trans z) hb
        · rw [hbe]; exact z
      rw [q] at q'; cases q'
      obtain ⟨v, hv⟩ := heo
      exact ⟨v, by rw [hbe]; exact hv⟩
    · refine (ok b u q).stay (fun c v hc r => k c v ?_ r) (fun c r => by rw [upd_ne (nown c b r)]; exact r) fun c xs r => by rw [upd_ne (ntup c xs r)]; exact r
      rcases hc with rfl | hc
      · exact hbe
      · rintro rfl
        rcases he with z | z
        · exact nown c b hc z
        · rw [hc] at z; cases z; exact hb rfl
end
structure Un (fs ex : List Addr) (H H' : Hp) (h h' : Heap) : Prop where
  keep : ∀ b o, h.get? b = some o → H b = none → b ∉ fs → b ∉ ex → h'.get? b = some o
  slot : ∀ b o, h.get? b = some o → H b = none → b ∈ fs → b ∉ ex → ∃ sl, h'.get? b = some { o with slots := sl }
  free : ∀ b o, h.get? b = some o → H b = none → b ∉ ex → H' b = none
  there : ∀ b o, h.get? b = some o → b ∉ ex → ∃ o', h'.get? b = some o'
  tups : ∀ b xs, H b = some (.tup xs) → H' b = some (.tup xs)
  frzs : ∀ b o u, H b = some (.frz o u) → H' b = some (.frz o u)
  tbls : ∀ b ps, H b = some (.tbl ps) → ∃ more, H' b = some (.tbl (ps ++ more))
section
variable {fs fs' ex ex' : List Addr} {H H1 H2 : Hp} {h h1 h2 h' : Heap} {a x e : Addr} {o : HO}
theorem Un.any (u : Un fs ex H H1 h h1) {b : Addr} {ob : Obj} (q : h.get? b = some ob) (n : H b = none) (hx : b ∉ ex) : ∃ sl, h1.get? b = some { ob with slots := sl } := by
  by_cases hb : b ∈ fs
  · exact u.slot b ob q n hb hx
  · exact ⟨ob.slots, u.keep b ob q n hb hx⟩
theorem Un.trans (a : Un fs ex H H1 h h1) (b : Un fs ex H1 H2 h1 h2) : Un fs ex H H2 h h2 where
  keep := fun c ob q n hc hx => b.keep c ob (a.keep c ob q n hc hx) (a.free c ob q n hx) hc hx
  slot := fun c ob q n hc hx => by
    obtain ⟨sl, e1⟩ := a.slot c ob q n hc hx
    obtain ⟨sl', e2⟩ := b.slot c _ e1 (a.free c ob q n hx) hc hx
    exact ⟨sl', e2⟩
  free := fun c ob q n hx => by
    obtain ⟨o', e1⟩ := a.there c ob q hx
    exact b.free c o' e1 (a.free c ob q n hx) hx
  there := fun c ob q hx => by
    obtain ⟨o', e1⟩ := a.there c ob q hx
    exact b.there c o' e1 hx
  tups := fun c xs q => b.tups c xs (a.tups c xs q)
  frzs := fun c ob xs q => b.frzs c ob xs (a.frzs c ob xs q)
  tbls := fun c ps q => by
    obtain ⟨m1, e1⟩ := a.tbls c ps q
    obtain ⟨m2, e2⟩ := b.tbls c _ e1
    exact ⟨m1 ++ m2, by rw [e2, Array.append_assoc]⟩
theorem Un.kept (k : ∀ b u, h.get? b = some u → h'.get? b = some u) : Un fs ex H H h h' :=
  ⟨fun b ob q _ _ _ => k b ob q, fun b ob q _ _ _ => ⟨ob.slots, k b ob q⟩, fun _ _ _ n _ => n, fun b ob q _ => ⟨ob, k b ob q⟩, fun _ _ q => q, fun _ _ _ q => q, fun _ ps q => ⟨#[], by rw [q]; simp⟩⟩
theorem Un.refl : Un fs ex H H h h := Un.kept fun _ _ q => q
theorem Un.laid (k : ∀ b u, h.get? b = some u → h'.get? b = some u) (hp : h.objs.size ≤ a) (hn : H a = none) : Un fs ex H (upd H a o) h h' where
  keep := fun b u q _ _ _ => k b u q
  slot := fun b u q _ _ _ => ⟨u.slots, k b u q⟩
  free := fun b u q n _ => by rw [upd_ne (Nat.ne_of_lt (Nat.lt_of_lt_of_le (Heap.lt_size q) hp))]; exact n
  there := fun b u q _ => ⟨u, k b u q⟩
  tups := fun b xs q => by rw [upd_ne (ne_of_none q hn)]; exact q
  frzs := fun b u xs q => by rw [upd_ne (ne_of_none q hn)]; exact q
  tbls := fun b ps q => ⟨#[], by rw [upd_ne (ne_of_none q hn), q]; simp⟩
theorem Un.write (mu : Mut (H x)) (he : e = x ∨ H e = some (.own x)) (k : ∀ b u, b ≠ e → h.get? b = some u → h'.get? b = some u) (heo : ∃ u, h'.get? e = some u) : Un fs ex H (upd H x o) h h' := by
  have hx : ∀ b, H b = none → b ≠ x := fun b n z => by subst z; rw [n] at mu; exact mu
  have hb : ∀ b, H b = none → b ≠ e := fun b n z => by
    subst z
    rcases he with r | r
    · exact hx b n r
    · rw [n] at r; cases r
  have hm : ∀ b u, H b = some u → ¬ Mut (some u) → b ≠ x := fun b u q nm z => by subst z; rw [q] at mu; exact nm mu
  refine ⟨fun b u q n _ _ => k b u (hb b n) q, fun b u q n _ _ => ⟨u.slots, k b u (hb b n) q⟩, fun b u q n _ => by rw [upd_ne (hx b n)]; exact n, fun b u q _ => ?_,
    fun b xs q => by rw [upd_ne (hm b _ q fun z => z)]; exact q, fun b u xs q => by rw [upd_ne (hm b _ q fun z => z)]; exact q, fun b ps q => ⟨#[], by rw [upd_ne (hm b _ q fun z => z), q]; simp⟩⟩
  by_cases hbe : b = e
  · subst hbe; exact heo
  · exact ⟨u, k b u hbe q⟩
theorem Un.mono (u : Un fs ex H H1 h h1) (hs : ∀ b ∈ fs, b ∈ fs') (hx : ∀ b ∈ ex, b ∈ ex') : Un fs' ex' H H1 h h1 :=
  ⟨fun b ob q n hb he => u.keep b ob q n (fun z => hb (hs b z)) fun z => he (hx b z), fun _ _ q n _ he => u.any q n fun z => he (hx _ z), fun b ob q n he => u.free b ob q n fun z => he (hx b z), fun b ob q he => u.there b ob q fun z => he (hx b z), u.tups, u.frzs, u.tbls⟩
end
def trk (h : Heap) (H : Hp) : List Addr := (List.range h.objs.size).filter fun a => (H a).isSome
def hidT (h : Heap) (H : Hp) : Heap := PySem.W.hideAll h (trk h H)
theorem hidT_size (h : Heap) (H : Hp) : (hidT h H).objs.size = h.objs.size := PySem.W.hideAll_size _ _
theorem hidT_get {h : Heap} {H : Hp} {b : Addr} {o : Obj} (e : h.get? b = some o) (n : H b = none) : (hidT h H).get? b = some o :=
  PySem.W.hideAll_get _ e fun hm => by
    have q : (H b).isSome = true := (List.mem_filter.mp hm).2
    rw [n] at q; simp at q
theorem of_hidT {h : Heap} {H : Hp} {b : Addr} {o : Obj} (e : (hidT h H).get? b = some o) : h.get? b = some o ∧ H b = none := by
  have e' : h.get? b = some o := PySem.W.of_hideAll (trk h H) e
  refine ⟨e', ?_⟩
  cases q : H b with
  | none => rfl
  | some x =>
    have hm : b ∈ trk h H := List.mem_filter.mpr ⟨List.mem_range.mpr (Heap.lt_size e'), by simp [q]⟩
    have z : (hidT h H).get? b = none := PySem.W.hideAll_none (trk h H) hm
    rw [z] at e; cases e
def allNews (g h : Heap) (L : Addr) : List (Addr × Obj) := (List.range h.objs.size).filterMap fun a => if a = L ∨ (g.get? a).isSome = true then none else (h.get? a).map fun o => (a, o)
def rest (g h : Heap) (L d : Addr) : List (Addr × Obj) := (allNews g h L).filter fun p => decide (p.1 ≠ d)
end L2
namespace L2
open PySem PySem.Spec PyProof.Rows
structure Mod (K : PySem.W.Frag) (mg : Str → Option Value) (base : Heap) : Prop where
  kin : K.In base
  glob : base.Ns mainGlobals mg
  blt : ∃ mb, base.Ns builtinsNs mb ∧ ∀ x : Str, x ≠ "__name__" → mb x = bootBuiltins x
  nolimit : base.NoLimit
structure Cx where
  prog : Program
  w : World
  K : PySem.W.Frag
  mg : Str → Option Value
  base : Heap
  A : Around
  N : List Str
  s₀ : Shared
  H₀ : Hp
  env : Env
  outer : List Env
  stack : List Env
  ex : List Addr
  fn : Str → Bool
  calm : Bool
  pn : List (Addr × Obj)
  xe : Value → Shared → Prop
def frs (l : List Env) : List Addr := l.filterMap (·.frame)
abbrev Cx.fs (X : Cx) : List Addr := frs X.outer
def Vis (sc : Scope) (x : Str) : Prop := sc.names.lookup x = some .local ∨ sc.names.lookup x = some .cell ∨ sc.names.lookup x = some .free
def Loc (sc : Scope) (x : Str) : Prop := sc.names.lookup x = some .local ∨ sc.names.lookup x = some .cell
def Look (env : Env) (h : Heap) (m : Str → Option Value) (x : Str) (u : Value) : Prop :=
  (env.kindOf x = some .local ∧ m x = some u) ∨ ((env.kindOf x = some .cell ∨ env.kindOf x = some .free) ∧ ∃ c, env.cells.lookup x = some c ∧ h.IsCell c (some u))
structure Cx.Ok (X : Cx) : Prop where
  mod : Mod X.K X.mg X.base
  kind : X.env.scope.kind = .function
  glob : X.env.globals = mainGlobals
  blt : X.env.builtins = builtinsNs
  above : X.s₀.heap.objs.size ≤ X.env.locals
  inj : ∀ x y c, X.env.cells.lookup x = some c → X.env.cells.lookup y = some c → x = y
  has : ∀ x, (X.env.kindOf x = some .cell ∨ X.env.kindOf x = some .free) → ∃ c, X.env.cells.lookup x = some c
  cab : ∀ x c, X.fn x = true → X.env.cells.lookup x = some c → X.s₀.heap.objs.size ≤ c
  hd : X.calm = true → X.A.handled = none
  frames : X.A.frames = some X.stack
  stk : X.stack = X.outer ∨ (X.stack = X.env :: X.outer ∧ X.env.frame = some X.env.locals)
  exf : ∀ b ∈ X.ex, b ≠ X.env.locals ∧ ∀ x c, X.env.cells.lookup x = some c → c ≠ b
  bs : ∀ b o, X.base.get? b = some o → X.s₀.heap.get? b = some o ∧ X.H₀ b = none
  bsz : X.base.objs.size ≤ X.s₀.heap.objs.size
  noex : ∀ b o, X.base.get? b = some o → b ∉ X.ex
  exfs : ∀ b ∈ X.ex, b ∉ X.fs
  funs : X.s₀.heap.FunFrames X.base X.outer
  frf : ∀ b ∈ X.fs, X.H₀ b = none
structure Inv (X : Cx) (pins : List (Addr × Obj)) (σ : List (Option V)) (H : Hp) (s : Shared) : Prop where
  ok : X.Ok
  os : s.os = X.s₀.os
  bare : AllBare s.gens
  base : Un X.fs X.ex X.H₀ H X.s₀.heap s.heap
  loc : ∃ m, s.heap.Ns X.env.locals m ∧ ∀ (i : Nat) (x : Str) (v : V), X.N[i]? = some x → σ[i]? = some (some v) → Vis X.env.scope x → ∃ u, RelV v u ∧ Look X.env s.heap m x u
  cell : ∀ x c, X.env.cells.lookup x = some c → ∃ v, s.heap.IsCell c v
  free : H X.env.locals = none
  freeC : ∀ x c, X.env.cells.lookup x = some c → H c = none
  pin : ∀ p ∈ X.pn ++ pins, s.heap.get? p.1 = some p.2 ∧ H p.1 = none ∧ p.1 ≠ X.env.locals ∧ p.1 ∉ X.fs ∧ ∀ v, p.2.data ≠ .cell v
  hok : HOk X.prog X.w H s.heap
  len : σ.length = X.N.length
section
variable {X : Cx} {pins : List (Addr × Obj)} {σ : List (Option V)} {H H' : Hp} {s : Shared} {h' : Heap}
theorem Cx.Ok.nofr (ok : X.Ok) {b : Addr} {o : Obj} (e : X.base.get? b = some o) : b ∉ X.fs := fun hb => by
  have := (ok.funs.mem hb).1
  rw [e] at this; cases this
theorem Inv.bs (I : Inv X pins σ H s) : ∀ b o, X.base.get? b = some o → s.heap.get? b = some o ∧ H b = none := fun b o e =>
  ⟨I.base.keep b o (I.ok.bs b o e).1 (I.ok.bs b o e).2 (I.ok.nofr e) (I.ok.noex b o e), I.base.free b o (I.ok.bs b o e).1 (I.ok.bs b o e).2 (I.ok.noex b o e)⟩
theorem Inv.bk (I : Inv X pins σ H s) : ∀ b o, X.base.get? b = some o → s.heap.get? b = some o := fun b o e => (I.bs b o e).1
theorem Inv.mod (I : Inv X pins σ H s) : Mod X.K X.mg X.base := I.ok.mod
theorem Inv.kIn (I : Inv X pins σ H s) : X.K.In s.heap := I.ok.mod.kin.keeps I.bk
theorem Inv.nolimit (I : Inv X pins σ H s) : s.heap.NoLimit := I.ok.mod.nolimit.keeps I.bk
theorem Inv.fr (I : Inv X pins σ H s) : ∃ m, Fr X.base X.env.locals s.heap m :=
  let ⟨m, hn, _⟩ := I.loc
  ⟨m, hn, I.bk, Nat.le_trans I.ok.bsz I.ok.above⟩
theorem Inv.lt (I : Inv X pins σ H s) : X.env.locals < s.heap.objs.size := let ⟨_, hn, _⟩ := I.loc; hn.lt
theorem Inv.sz (I : Inv X pins σ H s) : X.s₀.heap.objs.size ≤ s.heap.objs.size := Nat.le_trans I.ok.above (Nat.le_of_lt I.lt)
theorem Inv.nofs (I : Inv X pins σ H s) {a : Addr} (h : s.heap.objs.size ≤ a) : a ∉ X.fs := fun hb => by
  obtain ⟨_, o, ho, _⟩ := I.ok.funs.mem hb
  exact absurd (Nat.lt_of_lt_of_le (Heap.lt_size ho) (Nat.le_trans I.sz h)) (Nat.lt_irrefl _)
theorem Inv.cne (I : Inv X pins σ H s) : ∀ x c, X.env.cells.lookup x = some c → c ≠ X.env.locals := fun x c e z => by
  obtain ⟨v, o, ho, hd⟩ := I.cell x c e
  obtain ⟨m, ⟨o', es, ep, ho', hd', _⟩, _⟩ := I.loc
  rw [z, ho'] at ho; cases ho; rw [hd'] at hd; cases hd
theorem Inv.funs (I : Inv X pins σ H s) : s.heap.FunFrames X.base X.outer := by
  have all : ∀ (l : List Env), (∀ b ∈ frs l, b ∈ X.fs) → X.s₀.heap.FunFrames X.base l → s.heap.FunFrames X.base l := by
    intro l
    induction l with
    | nil => intro _ _; trivial
    | cons env r ih =>
      intro hs hl
      obtain ⟨hk, ⟨L, o, hf, hn, ho, hd⟩, hr⟩ := hl
      have hL : L ∈ X.fs := hs L (by unfold frs; rw [List.filterMap_cons, hf]; exact List.mem_cons_self)
      obtain ⟨sl, e⟩ := I.base.slot L o ho (I.ok.frf L hL) hL fun z => I.ok.exfs L z hL
      exact ⟨hk, ⟨L, _, hf, hn, e, hd⟩, ih (fun b hb => hs b (by unfold frs; rw [List.filterMap_cons, hf]; exact List.mem_cons_of_mem _ hb)) hr⟩
  exact all X.outer (fun _ hb => hb) I.ok.funs
theorem Inv.stack (I : Inv X pins σ H s) : s.heap.FunFrames X.base X.stack := by
  rcases I.ok.stk with e | ⟨e, hf⟩
  · rw [e]; exact I.funs
  · rw [e]
    obtain ⟨m, hn, _⟩ := I.loc
    refine .cons (by rw [I.ok.kind]; decide) hf hn ?_ I.funs
    exact Heap.get?_none_of_le (Nat.le_trans I.ok.bsz I.ok.above)
theorem Inv.stkSub (I : Inv X pins σ H s) : ∀ b ∈ frs X.stack, b ∈ X.env.locals :: X.fs := fun b hb => by
  rcases I.ok.stk with e | ⟨e, hf⟩
  · rw [e] at hb; exact List.mem_cons_of_mem _ hb
  · rw [e] at hb
    unfold frs at hb
    rw [List.filterMap_cons, hf] at hb
    exact hb
theorem Inv.stkFree (I : Inv X pins σ H s) : ∀ b ∈ frs X.stack, H b = none := fun b hb => by
  rcases List.mem_cons.mp (I.stkSub b hb) with e | hb
  · rw [e]; exact I.free
  · obtain ⟨_, o, ho, _⟩ := I.ok.funs.mem hb
    exact I.base.free b o ho (I.ok.frf b hb) fun z => I.ok.exfs b z hb
theorem Inv.step {g' : Array GenState} {t' : Nat} {d' : Drawn} {ch : List Addr} (I : Inv X pins σ H s)
    (hch : ∀ b ∈ ch, (b ∈ X.ex ∨ X.s₀.heap.objs.size ≤ b) ∧ b ≠ X.env.locals ∧ (∀ x c, X.env.cells.lookup x = some c → c ≠ b) ∧ ∀ p ∈ X.pn ++ pins, p.1 ≠ b)
    (keep : ∀ b o, b ≠ X.env.locals → b ∉ X.fs → b ∉ ch → s.heap.get? b = some o → H b = none → h'.get? b = some o)
    (slot : ∀ b o, b ≠ X.env.locals → b ∈ X.fs → b ∉ ch → s.heap.get? b = some o → H b = none → ∃ sl, h'.get? b = some { o with slots := sl }) (free : ∀ b o, b ∉ ch → s.heap.get? b = some o → H b = none → H' b = none)
    (there : ∀ b o, b ∉ ch → s.heap.get? b = some o → ∃ o', h'.get? b = some o')
    (tups : ∀ b xs, H b = some (.tup xs) → H' b = some (.tup xs)) (frzs : ∀ b o u, H b = some (.frz o u) → H' b = some (.frz o u)) (tbls : ∀ b ps, H b = some (.tbl ps) → ∃ more, H' b = some (.tbl (ps ++ more)))
    (ns : ∀ m, s.heap.Ns X.env.locals m → h'.Ns X.env.locals m) (hok : HOk X.prog X.w H' h') (hg : AllBare g') :
    Inv X pins σ H' { s with heap := h', gens := g', drawn := d', toks := t' } := by
  have neL : ∀ b o, X.s₀.heap.get? b = some o → b ≠ X.env.locals := fun b o e => Nat.ne_of_lt (Nat.lt_of_lt_of_le (Heap.lt_size e) I.ok.above)
  have neC : ∀ b o, X.s₀.heap.get? b = some o → b ∉ X.ex → b ∉ ch := fun b o e hx hb => by
    rcases (hch b hb).1 with z | z
    · exact hx z
    · exact absurd (Nat.lt_of_lt_of_le (Heap.lt_size e) z) (Nat.lt_irrefl _)
  have cellK : ∀ x c, X.env.cells.lookup x = some c → ∀ v, s.heap.IsCell c v → h'.IsCell c v := fun x c e v ⟨o, ho, hd⟩ => by
    have nch : c ∉ ch := fun z => (hch c z).2.2.1 x c e rfl
    by_cases hc : c ∈ X.fs
    · obtain ⟨sl, q⟩ := slot c o (I.cne x c e) hc nch ho (I.freeC x c e)
      exact ⟨_, q, hd⟩
    · exact ⟨o, keep c o (I.cne x c e) hc nch ho (I.freeC x c e), hd⟩
  refine ⟨I.ok, I.os, hg, ⟨fun b o e n hb hx => ?_, fun b o e n hb hx => ?_, fun b o e n hx => ?_, fun b o e hx => ?_, fun b xs e => tups b xs (I.base.tups b xs e), fun b o xs e => frzs b o xs (I.base.frzs b o xs e), fun b ps e => ?_⟩, ?_, fun x c e => ?_, ?_, fun x c e => ?_, fun p hp => ?_, hok, I.len⟩
  · exact keep b o (neL b o e) hb (neC b o e hx) (I.base.keep b o e n hb hx) (I.base.free b o e n hx)
  · obtain ⟨sl, e1⟩ := I.base.slot b o e n hb hx
    obtain ⟨sl', e2⟩ := slot b _ (neL b o e) hb (neC b o e hx) e1 (I.base.free b o e n hx)
    exact ⟨sl', e2⟩
  · obtain ⟨o', e1⟩ := I.base.there b o e hx
    exact free b o' (neC b o e hx) e1 (I.base.free b o e n hx)
  · obtain ⟨o', e1⟩ := I.base.there b o e hx
    exact there b o' (neC b o e hx) e1
  · obtain ⟨m1, e1⟩ := I.base.tbls b ps e
    obtain ⟨m2, e2⟩ := tbls b _ e1
    exact ⟨m1 ++ m2, by rw [e2, Array.append_assoc]⟩
  · obtain ⟨m, hn, hl⟩ := I.loc
    refine ⟨m, ns m hn, fun i x v e1 e2 e3 => ?_⟩
    obtain ⟨u, r, l⟩ := hl i x v e1 e2 e3
    refine ⟨u, r, ?_⟩
    rcases l with l | ⟨k, c, e, z⟩
    · exact .inl l
    · exact .inr ⟨k, c, e, cellK x c e _ z⟩
  · obtain ⟨v, z⟩ := I.cell x c e
    exact ⟨v, cellK x c e v z⟩
  · obtain ⟨m, ⟨o, _, _, ho, _⟩, _⟩ := I.loc
    exact free _ o (fun z => (hch _ z).2.1 rfl) ho I.free
  · obtain ⟨v, o, ho, hd⟩ := I.cell x c e
    exact free c o (fun z => (hch c z).2.2.1 x c e rfl) ho (I.freeC x c e)
  · obtain ⟨e, n, ne, nf, d⟩ := I.pin p hp
    have nch : p.1 ∉ ch := fun z => (hch p.1 z).2.2.2 p hp rfl
    exact ⟨keep p.1 p.2 ne nf nch e n, free p.1 p.2 nch e n, ne, nf, d⟩
theorem Inv.un {t' : Nat} (I : Inv X pins σ H s) (u : Un X.fs [] H H' s.heap h') (hok : HOk X.prog X.w H' h') : Inv X pins σ H' { s with heap := h', toks := t' } := by
  obtain ⟨m, ⟨o, es, ep, ho, r⟩, _⟩ := id I.loc
  obtain ⟨sl, hL⟩ := u.any ho I.free (by simp)
  exact I.step (g' := s.gens) (d' := s.drawn) (ch := []) (fun _ z => nomatch z) (fun b o _ hb _ e n => u.keep b o e n hb (by simp)) (fun b o _ hb _ e n => u.slot b o e n hb (by simp)) (fun b o _ e n => u.free b o e n (by simp)) (fun b o _ e => u.there b o e (by simp)) u.tups u.frzs u.tbls (fun m' hm => by
    obtain ⟨o', es', ep', ho', r'⟩ := hm
    rw [ho] at ho'; cases ho'
    exact ⟨_, es', ep', hL, r'⟩) hok I.bare
theorem Inv.call {g' : Array GenState} {t' : Nat} {d' : Drawn} {ch : List Addr} (I : Inv X pins σ H s) (u : Un (frs X.stack) ch H H' s.heap h') (hok : HOk X.prog X.w H' h') (hg : AllBare g')
    (hch : ∀ b ∈ ch, (b ∈ X.ex ∨ X.s₀.heap.objs.size ≤ b) ∧ b ≠ X.env.locals ∧ (∀ x c, X.env.cells.lookup x = some c → c ≠ b) ∧ ∀ p ∈ X.pn ++ pins, p.1 ≠ b) :
    Inv X pins σ H' { s with heap := h', gens := g', drawn := d', toks := t' } := by
  obtain ⟨m, ⟨o, es, ep, ho, r⟩, _⟩ := id I.loc
  obtain ⟨sl, hL⟩ := u.any ho I.free fun z => (hch _ z).2.1 rfl
  exact I.step (ch := ch) hch (fun b o hL hb hc e n => u.keep b o e n (fun z => (List.mem_cons.mp (I.stkSub b z)).elim hL hb) hc) (fun b o _ _ hc e n => u.any e n hc) (fun b o hc e n => u.free b o e n hc) (fun b o hc e => u.there b o e hc) u.tups u.frzs u.tbls (fun m' hm => by
    obtain ⟨o', es', ep', ho', r'⟩ := hm
    rw [ho] at ho'; cases ho'
    exact ⟨_, es', ep', hL, r'⟩) hok hg
theorem Inv.turned {t' : Nat} {it : Addr} (I : Inv X pins σ H s) (k : ∀ b o, b ≠ it → s.heap.get? b = some o → h'.get? b = some o) (hn : H it = none) (hL : it ≠ X.env.locals)
    (h1 : it ∈ X.ex ∨ X.s₀.heap.objs.size ≤ it) (h2 : ∀ x c, X.env.cells.lookup x = some c → c ≠ it) (h3 : ∀ p ∈ X.pn ++ pins, p.1 ≠ it) : Inv X pins σ H { s with heap := h', toks := t' } := by
  have nit : ∀ b u, H b = some u → b ≠ it := fun b u e z => by rw [z, hn] at e; cases e
  refine I.step (g' := s.gens) (d' := s.drawn) (ch := [it]) (fun b hb => ?_) (fun b o _ _ hc e _ => k b o (fun z => hc (by simp [z])) e) (fun b o _ _ hc e _ => ⟨o.slots, k b o (fun z => hc (by simp [z])) e⟩) (fun _ _ _ _ n => n)
    (fun b o hc e => ⟨o, k b o (fun z => hc (by simp [z])) e⟩) (fun _ _ e => e) (fun _ _ _ e => e) (fun b ps e => ⟨#[], by rw [e]; simp⟩) (fun m hm => ?_) (fun b u e => ?_) I.bare
  · have e : b = it := by simpa using hb
    subst e
    exact ⟨h1, hL, h2, h3⟩
  · obtain ⟨o, es, ep, ho, r⟩ := hm
    exact ⟨o, es, ep, k _ o (Ne.symm hL) ho, r⟩
  · refine (I.hok b u e).stay (fun c v hc q => k c v ?_ q) (fun _ q => q) fun _ _ q => q
    rcases hc with z | z
    · rw [z]; exact nit b u e
    · exact nit c _ z
theorem Inv.tok (I : Inv X pins σ H s) (t : Nat) : Inv X pins σ H { s with toks := t } := I.un (h' := s.heap) (t' := t) Un.refl I.hok
theorem Inv.kept {t' : Nat} (I : Inv X pins σ H s) (k : ∀ b u, s.heap.get? b = some u → h'.get? b = some u) : Inv X pins σ H { s with heap := h', toks := t' } := I.un (Un.kept k) (I.hok.kept k)
theorem Inv.laid {a : Addr} {o : HO} {t' : Nat} (I : Inv X pins σ H s) (k : ∀ b u, s.heap.get? b = some u → h'.get? b = some u) (hp : s.heap.objs.size ≤ a) (new : ObjOk X.prog X.w (upd H a o) h' a o) :
    Inv X pins σ (upd H a o) { s with heap := h', toks := t' } := I.un (Un.laid k hp (I.hok.fresh hp)) (I.hok.laid k hp new)
theorem Inv.write {x e : Addr} {o : HO} {t' : Nat} (I : Inv X pins σ H s) (mu : Mut (H x)) (he : e = x ∨ H e = some (.own x)) (k : ∀ b u, b ≠ e → s.heap.get? b = some u → h'.get? b = some u) (heo : ∃ u, h'.get? e = some u)
    (new : ObjOk X.prog X.w (upd H x o) h' x o) : Inv X pins σ (upd H x o) { s with heap := h', toks := t' } := I.un (Un.write mu he k heo) (I.hok.write mu he k heo new)
theorem Inv.weak {σ' : List (Option V)} (I : Inv X pins σ H s) (hl : σ'.length = σ.length) (w : ∀ (i : Nat) v, σ'[i]? = some (some v) → σ[i]? = some (some v)) : Inv X pins σ' H s :=
  ⟨I.ok, I.os, I.bare, I.base, let ⟨m, hn, hl'⟩ := I.loc; ⟨m, hn, fun i x v e1 e2 e3 => hl' i x v e1 (w i v e2) e3⟩, I.cell, I.free, I.freeC, I.pin, I.hok, hl.trans I.len⟩
theorem Inv.pins_of {pins' : List (Addr × Obj)} (I : Inv X pins σ H s) (h : ∀ p ∈ pins', s.heap.get? p.1 = some p.2 ∧ H p.1 = none ∧ p.1 ≠ X.env.locals ∧ p.1 ∉ X.fs ∧ ∀ v, p.2.data ≠ .cell v) : Inv X pins' σ H s :=
  ⟨I.ok, I.os, I.bare, I.base, I.loc, I.cell, I.free, I.freeC, fun p hp => (List.mem_append.mp hp).elim (fun z => I.pin p (List.mem_append_left _ z)) (h p), I.hok, I.len⟩
theorem nodup_ix {N : List Str} (hN : N.Nodup) {i j : Nat} {x : Str} (a : N[i]? = some x) (b : N[j]? = some x) : i = j := by
  obtain ⟨h1, e1⟩ := List.getElem?_eq_some_iff.mp a
  obtain ⟨h2, e2⟩ := List.getElem?_eq_some_iff.mp b
  exact (List.getElem_inj hN).mp (e1.trans e2.symm)
theorem store_ok2 {M : Model} {A : Around} {E : Value → Shared → Prop} {i : Nat} {x : Str} {v : V} {u : Value} {Q : Unit → Shared → Prop} (I : Inv X pins σ H s) (hN : X.N.Nodup) (hi : X.N[i]? = some x) (hx : Loc X.env.scope x) (r : RelV v u)
    (h : ∀ s', Inv X pins (σ.set i (some v)) H s' → (∃ a, Heap.SameBut a s.heap s'.heap ∧ (a = X.env.locals ∨ X.env.cells.lookup x = some a)) → Q () s') (hf : X.fn x = true ∨ X.env.scope.names.lookup x = some .local := by first | exact .inl rfl | exact .inr rfl | assumption) : wpAny M A (storeName X.env x u) Q E s := by
  obtain ⟨m, hn, hl⟩ := id I.loc
  have hcls : (X.env.scope.kind == .class || (X.env.scope.kind == .module && X.env.locals != X.env.globals)) = false := by rw [I.ok.kind]; rfl
  have hiσ : i < σ.length := by rw [I.len]; exact (List.getElem?_eq_some_iff.mp hi).1
  have cne := I.cne
  have tracked : ∀ {a : Addr} {h' : Heap}, (∃ o, s.heap.get? a = some o ∧ H a = none) → Heap.SameBut a s.heap h' → HOk X.prog X.w H h' := fun {a h'} ha hs b ob e => by
    obtain ⟨_, _, hfree⟩ := ha
    refine (I.hok b ob e).stay (fun c w' hc q => (hs.2 c ?_).trans q) (fun _ q => q) fun _ _ q => q
    rintro rfl
    rcases hc with rfl | hc
    · rw [hfree] at e; cases e
    · rw [hfree] at hc; cases hc
  rcases hx with hk | hk
  · refine wpAny_storeName_local hk hn (fun h' hn' hs => ?_) hcls
    obtain ⟨oL, _, _, hoL, _⟩ := id hn
    refine h _ ⟨I.ok, I.os, I.bare, ⟨fun b o e n hb hx => ?_, fun b o e n hb hx => ?_, I.base.free, fun b o e hx => ?_, I.base.tups, I.base.frzs, I.base.tbls⟩, ⟨_, hn', fun j y v' e1 e2 e3 => ?_⟩, fun y c e => ?_, I.free, I.freeC, fun p hp => ?_, tracked ⟨oL, hoL, I.free⟩ hs, by simpa using I.len⟩ ⟨_, hs, .inl rfl⟩
    · exact (hs.2 b (Nat.ne_of_lt (Nat.lt_of_lt_of_le (Heap.lt_size e) I.ok.above))).trans (I.base.keep b o e n hb hx)
    · obtain ⟨sl, e1⟩ := I.base.slot b o e n hb hx
      exact ⟨sl, (hs.2 b (Nat.ne_of_lt (Nat.lt_of_lt_of_le (Heap.lt_size e) I.ok.above))).trans e1⟩
    · obtain ⟨o', e1⟩ := I.base.there b o e hx
      exact ⟨o', (hs.2 b (Nat.ne_of_lt (Nat.lt_of_lt_of_le (Heap.lt_size e) I.ok.above))).trans e1⟩
    · by_cases hj : j = i
      · subst hj
        rw [hi] at e1; cases e1
        rw [List.getElem?_set_self hiσ] at e2
        cases e2
        exact ⟨u, r, .inl ⟨hk, by simp⟩⟩
      · rw [List.getElem?_set_ne (Ne.symm hj)] at e2
        obtain ⟨u', r', q⟩ := hl j y v' e1 e2 e3
        refine ⟨u', r', ?_⟩
        rcases q with ⟨k, e⟩ | ⟨k, c, e, z⟩
        · refine .inl ⟨k, ?_⟩
          have : y ≠ x := fun e => hj (nodup_ix hN e1 (e ▸ hi))
          simp [this, e]
        · exact .inr ⟨k, c, e, z.sameBut hs (cne y c e)⟩
    · obtain ⟨w', z⟩ := I.cell y c e
      exact ⟨w', z.sameBut hs (cne y c e)⟩
    · obtain ⟨e, n, ne, nf, d⟩ := I.pin p hp
      exact ⟨(hs.2 p.1 ne).trans e, n, ne, nf, d⟩
  · have hfn : X.fn x = true := by
      rcases hf with z | z
      · exact z
      · rw [z] at hk; cases hk
    obtain ⟨c, hc⟩ := I.ok.has x (.inl hk)
    obtain ⟨w', z⟩ := I.cell x c hc
    refine wpAny_storeName_cell I.ok.kind hk hc z (fun h' hc' hs => ?_)
    obtain ⟨oc, hoc, hocd⟩ := id z
    refine h { s with heap := h' } ⟨I.ok, I.os, I.bare, ⟨fun b o e n hb hx => ?_, fun b o e n hb hx => ?_, I.base.free, fun b o e hx => ?_, I.base.tups, I.base.frzs, I.base.tbls⟩, ⟨m, hn.sameBut hs (Ne.symm (cne x c hc)), fun j y v' e1 e2 e3 => ?_⟩, fun y c' e => ?_, I.free, I.freeC, fun p hp => ?_, tracked ⟨oc, hoc, I.freeC x c hc⟩ hs, by simpa using I.len⟩ ⟨c, hs, .inr hc⟩
    · exact (hs.2 b (Nat.ne_of_lt (Nat.lt_of_lt_of_le (Heap.lt_size e) (I.ok.cab x c hfn hc)))).trans (I.base.keep b o e n hb hx)
    · obtain ⟨sl, e1⟩ := I.base.slot b o e n hb hx
      exact ⟨sl, (hs.2 b (Nat.ne_of_lt (Nat.lt_of_lt_of_le (Heap.lt_size e) (I.ok.cab x c hfn hc)))).trans e1⟩
    · obtain ⟨o', e1⟩ := I.base.there b o e hx
      exact ⟨o', (hs.2 b (Nat.ne_of_lt (Nat.lt_of_lt_of_le (Heap.lt_size e) (I.ok.cab x c hfn hc)))).trans e1⟩
    · by_cases hj : j = i
      · subst hj
        rw [hi] at e1; cases e1
        rw [List.getElem?_set_self hiσ] at e2
        cases e2
        exact ⟨u, r, .inr ⟨.inl hk, c, hc, hc'⟩⟩
      · rw [List.getElem?_set_ne (Ne.symm hj)] at e2
        obtain ⟨u', r', q⟩ := hl j y v' e1 e2 e3
        refine ⟨u', r', ?_⟩
        rcases q with q | ⟨k, c', e, z'⟩
        · exact .inl q
        · refine .inr ⟨k, c', e, z'.sameBut hs ?_⟩
          rintro rfl
          exact hj (nodup_ix hN e1 (I.ok.inj _ _ _ e hc ▸ hi))
    · by_cases hcc : c' = c
      · subst hcc; exact ⟨_, hc'⟩
      · obtain ⟨w2, z2⟩ := I.cell y c' e
        exact ⟨w2, z2.sameBut hs hcc⟩
    · obtain ⟨e, n, ne, nf, d⟩ := I.pin p hp
      refine ⟨(hs.2 p.1 ?_).trans e, n, ne, nf, d⟩
      intro q
      rw [q, hoc] at e
      have q' : oc = p.2 := Option.some.inj e
      exact d w' (by rw [← q']; exact hocd)
theorem store_ok {M : Model} {A : Around} {E : Value → Shared → Prop} {i : Nat} {x : Str} {v : V} {u : Value} {Q : Unit → Shared → Prop} (I : Inv X pins σ H s) (hN : X.N.Nodup) (hi : X.N[i]? = some x) (hx : Loc X.env.scope x) (r : RelV v u)
    (h : ∀ s', Inv X pins (σ.set i (some v)) H s' → Q () s') (hf : X.fn x = true ∨ X.env.scope.names.lookup x = some .local := by first | exact .inl rfl | exact .inr rfl | assumption) : wpAny M A (storeName X.env x u) Q E s :=
  store_ok2 I hN hi hx r (fun s' I' _ => h s' I') hf
theorem Inv.call' {s' : Shared} {ch : List Addr} (I : Inv X pins σ H s) (ho : s'.os = s.os) (u : Un (frs X.stack) ch H H' s.heap s'.heap) (hok : HOk X.prog X.w H' s'.heap) (hg : AllBare s'.gens)
    (hch : ∀ b ∈ ch, (b ∈ X.ex ∨ X.s₀.heap.objs.size ≤ b) ∧ b ≠ X.env.locals ∧ (∀ x c, X.env.cells.lookup x = some c → c ≠ b) ∧ ∀ p ∈ X.pn ++ pins, p.1 ≠ b) : Inv X pins σ H' s' := by
  obtain ⟨h', g', d', t', o'⟩ := s'
  have e : o' = s.os := ho
  subst e
  exact I.call (g' := g') (t' := t') (d' := d') u hok hg hch
end
abbrev XK := Value → Option Addr → Hp → Prop
abbrev St := List (Option V)
abbrev VK := V → Hp → Prop
abbrev TE := St → Hp → VK → Prop
abbrev TT := St → Hp → (Bool → Hp → Prop) → Prop
abbrev TA := St → Hp → (List V → Hp → Prop) → Prop
structure Ends where
  nx : St → Hp → Prop
  rt : VK
  bk : St → Hp → Prop := fun _ _ => False
  ct : St → Hp → Prop := fun _ _ => False
abbrev TS := Ends → St → Hp → Prop
def EP (X : Cx) (pins : List (Addr × Obj)) (σ : St) (Q : VK) (u : Value) (s' : Shared) : Prop := ∃ v H', Inv X pins σ H' s' ∧ RelV v u ∧ Q v H'
def TP (X : Cx) (pins : List (Addr × Obj)) (σ : St) (Q : Bool → Hp → Prop) (b : Bool) (s' : Shared) : Prop := ∃ H', Inv X pins σ H' s' ∧ Q b H'
def AP (X : Cx) (pins : List (Addr × Obj)) (σ : St) (Q : List V → Hp → Prop) (us : List Value) (s' : Shared) : Prop := ∃ vs H', Inv X pins σ H' s' ∧ Vals vs us ∧ Q vs H'
def SP (X : Cx) (pins : List (Addr × Obj)) (D : Ends) (f : Flow) (s' : Shared) : Prop :=
  match f with
  | .next => ∃ σ' H', Inv X pins σ' H' s' ∧ D.nx σ' H'
  | .brk => ∃ σ' H', Inv X pins σ' H' s' ∧ D.bk σ' H'
  | .cont => ∃ σ' H', Inv X pins σ' H' s' ∧ D.ct σ' H'
  | .ret u => ∃ v σ' H', Inv X pins σ' H' s' ∧ RelV v u ∧ D.rt v H'
def PE (X : Cx) (e : Expr) (t : TE) : Prop :=
  ∀ (pins : List (Addr × Obj)) (s : Shared) (σ : St) (H : Hp) (Q : VK), Inv X pins σ H s → t σ H Q → wpAny (model X.prog X.w) X.A (eval e X.env) (EP X pins σ Q) X.xe s
def PT (X : Cx) (e : Expr) (t : TT) : Prop :=
  ∀ (pins : List (Addr × Obj)) (s : Shared) (σ : St) (H : Hp) (Q : Bool → Hp → Prop), Inv X pins σ H s → t σ H Q → wpAny (model X.prog X.w) X.A (isTrue e X.env (eval e X.env)) (TP X pins σ Q) X.xe s
def PW (X : Cx) (e : Expr) (t : TT) : Prop :=
  ∀ (whole : Sem Value) (pins : List (Addr × Obj)) (s : Shared) (σ : St) (H : Hp) (Q : Bool → Hp → Prop), Inv X pins σ H s → t σ H Q → wpAny (model X.prog X.w) X.A (isTrue e X.env whole) (TP X pins σ Q) X.xe s
theorem PW.pt {X : Cx} {e : Expr} {t : TT} (h : PW X e t) : PT X e t := h _
def PA (X : Cx) (es : List Expr) (t : TA) : Prop :=
  ∀ (pos : Pos) (pins : List (Addr × Obj)) (s : Shared) (σ : St) (H : Hp) (Q : List V → Hp → Prop), Inv X pins σ H s → t σ H Q → wpAny (model X.prog X.w) X.A (spliced (backTo pos (starEach es X.env))) (AP X pins σ Q) X.xe s
def PS (X : Cx) (st : Stmt) (t : TS) : Prop :=
  ∀ (pins : List (Addr × Obj)) (s : Shared) (σ : St) (H : Hp) (D : Ends), Inv X pins σ H s → t D σ H → wpAny (model X.prog X.w) X.A (exec st X.env) (SP X pins D) X.xe s
def PSs (X : Cx) (st : List Stmt) (t : TS) : Prop :=
  ∀ (pins : List (Addr × Obj)) (s : Shared) (σ : St) (H : Hp) (D : Ends), Inv X pins σ H s → t D σ H → wpAny (model X.prog X.w) X.A (execs st X.env) (SP X pins D) X.xe s
theorem thn {α : Type} {t : Sem α} {Q Q' : α → Shared → Prop} {M : Model} {A : Around} {E : Value → Shared → Prop} {s : Shared} (h : wpAny M A t Q E s) (hQ : ∀ a s, Q a s → Q' a s) : wpAny M A t Q' E s := wpAny_mono h hQ fun _ _ x => x
end L2
namespace L2
open PySem PySem.Spec PyProof.Rows
section
variable {X : Cx}
def tVar (i : Nat) : TE := fun σ H Q => ∃ v, σ[i]? = some (some v) ∧ Q v H
def tC (v : V) : TE := fun _ H Q => Q v H
theorem pe_var {i : Nat} {x : Str} {pos : Pos} (hN : X.N[i]? = some x) (hv : Vis X.env.scope x) (hd : (x == ("__debug__" : Str)) = false := by decide) (hcd : (x == ("__classdict__" : Str)) = false := by decide) : PE X (.Name x pos) (tVar i) := by
  intro pins s σ H Q I h
  obtain ⟨v, e, h⟩ := h
  obtain ⟨m, hn, hl⟩ := I.loc
  obtain ⟨u, r, l⟩ := hl i x v hN e hv
  have fin : EP X pins σ Q u s := ⟨v, H, I, r, h⟩
  rcases l with ⟨hk, hm⟩ | ⟨hk, c, hc, hcell⟩
  · exact wpAny_Name (wpAny_loadName_local I.ok.kind hk hn hm fin) hd
  · rcases hk with hk | hk
    · exact wpAny_Name (wpAny_loadName_cell I.ok.kind hk hc hcell fin) hd
    · exact wpAny_Name (wpAny_loadName_free I.ok.kind hk hc hcell fin hcd) hd
theorem pe_int {i j pos} : PE X (.Constant (.int i) j pos) (tC (.int i)) := fun _ _ _ H _ I h => wpAny_Constant_int ⟨.int i, H, I.tok _, ⟨_, rfl⟩, h⟩
theorem pe_bl {b j pos} : PE X (.Constant (.bool b) j pos) (tC (.bl b)) := fun _ _ _ H _ I h => Constant_bool ⟨.bl b, H, I, rfl, h⟩
def Gl (X : Cx) (x : Str) : Prop := X.env.kindOf x = some .globalImplicit
theorem ld_glob {E : Value → Shared → Prop} {pins : List (Addr × Obj)} {s : Shared} {σ : St} {H : Hp} {x : Str} {u : Value} {pos : Pos} {Q : Value → Shared → Prop} (I : Inv X pins σ H s) (hg : Gl X x) (hm : X.mg x = some u) (h : Q u s)
    (hd : (x == ("__debug__" : Str)) = false := by decide) : wpAny (model X.prog X.w) X.A (eval (.Name x pos) X.env) Q E s :=
  Calls.Name_function_global I.ok.kind hg (Calls.loadGlobal_global (by rw [I.ok.glob]; exact I.mod.glob.keeps I.bk) hm h) hd
theorem ld_blt {E : Value → Shared → Prop} {pins : List (Addr × Obj)} {s : Shared} {σ : St} {H : Hp} {x : Str} {u : Value} {pos : Pos} {Q : Value → Shared → Prop} (I : Inv X pins σ H s) (hg : Gl X x) (hm : X.mg x = none) (hv : bootBuiltins x = some u) (h : Q u s)
    (hn : x ≠ "__name__" := by decide) (hd : (x == ("__debug__" : Str)) = false := by decide) : wpAny (model X.prog X.w) X.A (eval (.Name x pos) X.env) Q E s := by
  obtain ⟨mb, h1, h2⟩ := I.mod.blt
  exact Calls.Name_function_global I.ok.kind hg (Calls.loadGlobal_builtin (by rw [I.ok.glob]; exact I.mod.glob.keeps I.bk) hm (by rw [I.ok.blt]; exact h1.keeps I.bk) ((h2 x hn).trans hv) h) hd
theorem pe_bltn {x : Str} {v : V} {u : Value} {pos : Pos} (hg : Gl X x) (hm : X.mg x = none) (hv : bootBuiltins x = some u) (r : RelV v u) (hn : x ≠ "__name__" := by decide) (hd : (x == ("__debug__" : Str)) = false := by decide) : PE X (.Name x pos) (tC v) :=
  fun _ _ _ H _ I h => ld_blt I hg hm hv ⟨v, H, I, r, h⟩ hn hd
variable {a b : Expr} {ta tb : TE} {pos : Pos}
def tB (t : TE) : TT := fun σ H Q => t σ H fun x H1 => ∃ c, x = .bl c ∧ Q c H1
theorem pt_val {e : Expr} {t : TE} (h : PE X e t) (he : ∀ whole, isTrue e X.env whole = (do let v ← whole; standAt e.pos; holding [v] (truthy v)) := by intro _; rfl) : PT X e (tB t) := by
  intro pins s σ H Q I hw
  refine isTrue_plain (thn (h pins s σ H _ I hw) fun v s1 ⟨x, H1, I1, r1, q1⟩ => ?_) (he _)
  obtain ⟨d, rfl, q⟩ := q1
  cases r1
  exact wpAny_truthy_bool ⟨H1, I1, q⟩
variable {tA tB' : TT} {rest : List Expr}
def tAnd (t u : TT) : TT := fun σ H Q => t σ H fun c H1 => if c = true then u σ H1 Q else Q false H1
def tOr (t u : TT) : TT := fun σ H Q => t σ H fun c H1 => if c = true then Q true H1 else u σ H1 Q
def tNot (t : TT) : TT := fun σ H Q => t σ H fun c H1 => Q (!c) H1
theorem pw_and1 (ha : PT X a tA) : PW X (.BoolOp .And [a] pos) tA := by
  intro wh pins s σ H Q I h
  refine isTrue_and (thn (ha pins s σ H Q I h) fun c s1 e => ?_)
  cases c with
  | true => exact isTrue_and_nil e
  | false => exact e
theorem pw_or1 (ha : PT X a tA) : PW X (.BoolOp .Or [a] pos) tA := by
  intro wh pins s σ H Q I h
  refine isTrue_or (thn (ha pins s σ H Q I h) fun c s1 e => ?_)
  cases c with
  | false => exact isTrue_or_nil e
  | true => exact e
theorem pw_and (ha : PT X a tA) (hb : PW X (.BoolOp .And (b :: rest) pos) tB') : PW X (.BoolOp .And (a :: b :: rest) pos) (tAnd tA tB') := by
  intro wh pins s σ H Q I h
  refine isTrue_and (thn (ha pins s σ H _ I h) fun c s1 ⟨H1, I1, q1⟩ => ?_)
  cases c with
  | true => exact hb wh pins s1 σ H1 Q I1 q1
  | false => exact ⟨H1, I1, q1⟩
theorem pw_or (ha : PT X a tA) (hb : PW X (.BoolOp .Or (b :: rest) pos) tB') : PW X (.BoolOp .Or (a :: b :: rest) pos) (tOr tA tB') := by
  intro wh pins s σ H Q I h
  refine isTrue_or (thn (ha pins s σ H _ I h) fun c s1 ⟨H1, I1, q1⟩ => ?_)
  cases c with
  | true => exact ⟨H1, I1, q1⟩
  | false => exact hb wh pins s1 σ H1 Q I1 q1
theorem pt_not (ha : PT X a tA) : PT X (.UnaryOp .Not a pos) (tNot tA) := by
  intro pins s σ H Q I h
  exact isTrue_not (ha pins s σ H (fun c H1 => Q (!c) H1) I h)
def tNotV (ta : TE) : TE := fun σ H Q => ta σ H fun x H1 => ∃ c, x = .bl c ∧ Q (.bl (!c)) H1
theorem pe_not (ha : PE X a ta) : PE X (.UnaryOp .Not a pos) (tNotV ta) := by
  intro pins s σ H Q I h
  refine UnaryOp_ (thn (ha pins s σ H _ I h) fun v s1 ⟨x, H1, I1, r1, q1⟩ => ?_)
  obtain ⟨c, rfl, q1⟩ := q1
  cases r1
  exact not_of (wpAny_truthy_bool ⟨.bl (!c), H1, I1, rfl, q1⟩)
end
end L2
namespace L2
open PySem PySem.Spec PyProof.Rows
def SqL (K : PySem.W.Frag) (H : Hp) (a : Addr) (xs : List V) : Prop :=
  Rd H a (.lst xs) ∨
    ∃ (o : Obj) (its : Array Value) (n : Nat), K.lookup a = some o ∧ o.cls = .type "list" ∧ o.dict = none ∧ o.data = .seq its n ∧ its.size ≤ sizeLine ∧ Vals xs its.toList
def SqT (K : PySem.W.Frag) (H : Hp) (a : Addr) (xs : List V) : Prop :=
  Rd H a (.tup xs) ∨
    ∃ (o : Obj) (its : Array Value) (n : Nat), K.lookup a = some o ∧ o.cls = .type "tuple" ∧ o.data = .seq its n ∧ its.size ≤ sizeLine ∧ Vals xs its.toList
def absV : Value → Option V
  | .none => some .non
  | .bool b => some (.bl b)
  | .int i _ => some (.int i)
  | .str x _ => some (.str x)
  | .bytes b _ => some (.byt b)
  | .float b _ => some (.flt b)
  | .ref a => some (.ref a)
  | .type n => some (.ty n)
  | _ => none
theorem RelV.abs {x : V} {u : Value} (r : RelV x u) : absV u = some x := by
  cases x with
  | non => cases r; rfl
  | bl _ => cases r; rfl
  | int _ => obtain ⟨t, rfl⟩ := r; rfl
  | str _ => obtain ⟨t, rfl⟩ := r; rfl
  | byt _ => obtain ⟨t, rfl⟩ := r; rfl
  | flt _ => obtain ⟨t, rfl⟩ := r; rfl
  | ref _ => cases r; rfl
  | ty _ => cases r; rfl
theorem RelV.inj {x y : V} {u : Value} (r : RelV x u) (q : RelV y u) : x = y := Option.some.inj (r.abs.symm.trans q.abs)
theorem Vals.inj : ∀ {xs ys : List V} {us : List Value}, Vals xs us → Vals ys us → xs = ys
  | _, _, _, .nil, .nil => rfl
  | _, _, _, .cons r t, .cons r' t' => by rw [r.inj r', Vals.inj t t']
section
variable {X : Cx} {pins : List (Addr × Obj)} {σ : St} {H : Hp} {s : Shared} {a : Addr} {xs ys : List V}
theorem SqL.of {K : PySem.W.Frag} (h : H a = some (.lst xs)) : SqL K H a xs := .inl (.inl h)
theorem SqT.of {K : PySem.W.Frag} (h : H a = some (.tup xs)) : SqT K H a xs := .inl (.inl h)
theorem Inv.list (I : Inv X pins σ H s) (h : SqL X.K H a xs) : ∃ its : List Value, Vals xs its ∧ PlainL s.heap a its.toArray ∧ xs.length ≤ sizeLine := by
  rcases h with h | ⟨o, its, n, hk, hc, hd, hs, hz, r⟩
  · obtain ⟨z, its, n, r, e⟩ := h.ok I.hok
    exact ⟨its, r, ⟨_, n, e, rfl, rfl, rfl⟩, z⟩
  · refine ⟨its.toList, r, ⟨o, n, I.kIn a o hk, hc, hd, by simpa using hs⟩, ?_⟩
    have e := r.length
    simp only [Array.length_toList] at e
    omega
theorem Inv.tuple (I : Inv X pins σ H s) (h : SqT X.K H a xs) : ∃ its : List Value, Vals xs its ∧ IsTup s.heap a its.toArray ∧ xs.length ≤ sizeLine := by
  rcases h with h | ⟨o, its, n, hk, hc, hs, hz, r⟩
  · obtain ⟨z, its, r, p⟩ := h.ok I.hok
    exact ⟨its, r, p, z⟩
  · refine ⟨its.toList, r, ⟨o, I.kIn a o hk, hc, n, by simpa using hs⟩, ?_⟩
    have e := r.length
    simp only [Array.length_toList] at e
    omega
theorem Inv.list_inj (I : Inv X pins σ H s) (h : SqL X.K H a xs) (h' : SqL X.K H a ys) : xs = ys := by
  obtain ⟨its, r, ⟨o, n, e, _, _, d⟩, _⟩ := I.list h
  obtain ⟨its', r', ⟨o', n', e', _, _, d'⟩, _⟩ := I.list h'
  rw [e] at e'; cases e'
  rw [d] at d'
  injection d' with d1 _
  have : its = its' := by simpa using congrArg Array.toList d1
  subst this
  exact r.inj r'
end
abbrev Cx.wish (X : Cx) (E : Value → Shared → Prop) : Cx := { X with xe := E }
abbrev Cx.nox (X : Cx) : Cx := X.wish fun _ _ => False
theorem Cx.Ok.wish {X : Cx} (ok : X.Ok) (E : Value → Shared → Prop) : (X.wish E).Ok :=
  ⟨ok.mod, ok.kind, ok.glob, ok.blt, ok.above, ok.inj, ok.has, ok.cab, ok.hd, ok.frames, ok.stk, ok.exf, ok.bs, ok.bsz, ok.noex, ok.exfs, ok.funs, ok.frf⟩
theorem Cx.Ok.unwish {X : Cx} {E : Value → Shared → Prop} (ok : (X.wish E).Ok) : X.Ok :=
  ⟨ok.mod, ok.kind, ok.glob, ok.blt, ok.above, ok.inj, ok.has, ok.cab, ok.hd, ok.frames, ok.stk, ok.exf, ok.bs, ok.bsz, ok.noex, ok.exfs, ok.funs, ok.frf⟩
section
variable {X : Cx} {pins : List (Addr × Obj)} {σ : St} {H : Hp} {s : Shared} {E : Value → Shared → Prop}
theorem Inv.wish (I : Inv X pins σ H s) (E : Value → Shared → Prop) : Inv (X.wish E) pins σ H s := ⟨I.ok.wish E, I.os, I.bare, I.base, I.loc, I.cell, I.free, I.freeC, I.pin, I.hok, I.len⟩
theorem Inv.unwish (I : Inv (X.wish E) pins σ H s) : Inv X pins σ H s := ⟨I.ok.unwish, I.os, I.bare, I.base, I.loc, I.cell, I.free, I.freeC, I.pin, I.hok, I.len⟩
theorem SP.unwish {D : Ends} {f : Flow} {s' : Shared} (h : SP (X.wish E) pins D f s') : SP X pins D f s' := by
  cases f with
  | next => obtain ⟨σ', H', I, q⟩ := h; exact ⟨σ', H', I.unwish, q⟩
  | brk => obtain ⟨σ', H', I, q⟩ := h; exact ⟨σ', H', I.unwish, q⟩
  | cont => obtain ⟨σ', H', I, q⟩ := h; exact ⟨σ', H', I.unwish, q⟩
  | ret u => obtain ⟨v, σ', H', I, r, q⟩ := h; exact ⟨v, σ', H', I.unwish, r, q⟩
theorem PE.nox {e : Expr} {t : TE} (h : PE X.nox e t) : PE X e t := fun pins s σ H Q I hw =>
  wpAny_mono (h pins s σ H Q (I.wish _) hw) (fun _ _ ⟨v, H', I', r, q⟩ => ⟨v, H', I'.unwish, r, q⟩) fun _ _ z => False.elim z
theorem PT.nox {e : Expr} {t : TT} (h : PT X.nox e t) : PT X e t := fun pins s σ H Q I hw =>
  wpAny_mono (h pins s σ H Q (I.wish _) hw) (fun _ _ ⟨H', I', q⟩ => ⟨H', I'.unwish, q⟩) fun _ _ z => False.elim z
theorem PSs.nox {st : List Stmt} {t : TS} (h : PSs X.nox st t) : PSs X st t := fun pins s σ H D I hw =>
  wpAny_mono (h pins s σ H D (I.wish _) hw) (fun _ _ q => q.unwish) fun _ _ z => False.elim z
end
section
variable {X : Cx} {st : Stmt} {rest : List Stmt} {t u : TS} {e : Expr} {te : TE} {pos : Pos}
def tNext : TS := fun D σ H => D.nx σ H
def tSeq (t u : TS) : TS := fun D σ H => t { D with nx := u D } σ H
theorem pss_nil : PSs X [] tNext := fun _ _ σ H _ I h => wpAny_execs_nil ⟨σ, H, I, h⟩
theorem pss_cons (h1 : PS X st t) (h2 : PSs X rest u) : PSs X (st :: rest) (tSeq t u) := by
  intro pins s σ H D I h
  refine wpAny_execs_cons (thn (h1 pins s σ H { D with nx := u D } I h) fun f s1 q => ?_)
  cases f with
  | next =>
    obtain ⟨σ', H', I', q⟩ := q
    exact h2 pins s1 σ' H' D I' q
  | ret v => exact q
  | brk => exact q
  | cont => exact q
theorem pss_one (h1 : PS X st t) : PSs X [st] t := by
  intro pins s σ H D I h
  refine wpAny_execs_cons (thn (h1 pins s σ H D I h) fun f s1 q => ?_)
  cases f with
  | next => exact wpAny_execs_nil q
  | ret v => exact q
  | brk => exact q
  | cont => exact q
theorem Inv.quiet {pins : List (Addr × Obj)} {σ : St} {H : Hp} {s : Shared} (I : Inv X pins σ H s) : interactive X.env = false := by simp [interactive, I.ok.kind]
def tDrop (te : TE) : TS := fun D σ H => te σ H fun _ H1 => D.nx σ H1
theorem ps_expr (he : PE X e te) (hs : swapsWith e none pos.line X.env = pure false := by rfl) : PS X (.Expr e pos) (tDrop te) := by
  intro pins s σ H D I h
  exact wpAny_Expr_any (thn (he pins s σ H _ I h) fun v s1 ⟨x, H1, I1, r1, q1⟩ => ⟨σ, H1, I1, q1⟩) I.quiet hs
def tRet (te : TE) : TS := fun D σ H => te σ H D.rt
theorem ps_ret (he : PE X e te) : PS X (.Return (some e) pos) (tRet te) := by
  intro pins s σ H D I h
  exact wpAny_Return_some (thn (he pins s σ H _ I h) fun v s1 ⟨x, H1, I1, r1, q1⟩ => ⟨x, σ, H1, I1, r1, q1⟩)
def tIfS (c : TT) (t u : TS) : TS := fun D σ H => c σ H fun b H1 => if b = true then t D σ H1 else u D σ H1
theorem ps_if {c : Expr} {a b : List Stmt} {tc : TT} (hc : PT X c tc) (ha : PSs X a t) (hb : PSs X b u) : PS X (.If c a b pos) (tIfS tc t u) := by
  intro pins s σ H D I h
  refine wpAny_If (thn (hc pins s σ H _ I h) fun d s1 ⟨H1, I1, q1⟩ => ?_)
  cases d with
  | true => exact ha pins s1 σ H1 D I1 q1
  | false => exact hb pins s1 σ H1 D I1 q1
end
abbrev TG := V → St → Hp → (St → Hp → Prop) → Prop
abbrev TGs := List V → St → Hp → (St → Hp → Prop) → Prop
def PG (X : Cx) (target : Expr) (t : TG) : Prop :=
  ∀ (pins : List (Addr × Obj)) (s : Shared) (σ : St) (H : Hp) (v : V) (u : Value) (Q : St → Hp → Prop), Inv X pins σ H s → RelV v u → t v σ H Q →
    wpAny (model X.prog X.w) X.A (assign target X.env u) (fun _ s' => ∃ σ' H', Inv X pins σ' H' s' ∧ Q σ' H') X.xe s
def PGs (X : Cx) (ts : List Expr) (t : TGs) : Prop :=
  ∀ (pins : List (Addr × Obj)) (s : Shared) (σ : St) (H : Hp) (vs : List V) (us : List Value) (Q : St → Hp → Prop), Inv X pins σ H s → Vals vs us → t vs σ H Q →
    wpAny (model X.prog X.w) X.A (assignInOrder ((assignEach ts X.env).map (·.2)) us) (fun _ s' => ∃ σ' H', Inv X pins σ' H' s' ∧ Q σ' H') X.xe s
abbrev TSet := V → V → V → Hp → (Hp → Prop) → Prop
abbrev TIp := V → V → Hp → VK → Prop
def PIp (X : Cx) (op : Operator) (t : TIp) : Prop :=
  ∀ (pins : List (Addr × Obj)) (s : Shared) (σ : St) (H : Hp) (x y : V) (v u : Value) (Q : VK), Inv X pins σ H s → RelV x v → RelV y u → t x y H Q →
    wpAny (model X.prog X.w) X.A (inplaceOp op v u) (EP X pins σ Q) X.xe s
section
variable {X : Cx} {pos : Pos}
def gName (i : Nat) : TG := fun v σ H Q => Q (σ.set i (some v)) H
theorem pg_name {i : Nat} {x : Str} (hN : X.N.Nodup) (hi : X.N[i]? = some x) (hx : Loc X.env.scope x) (hf : X.fn x = true ∨ X.env.scope.names.lookup x = some .local := by first | exact .inl rfl | exact .inr rfl | assumption) : PG X (.Name x pos) (gName i) := by
  intro pins s σ H v u Q I r h
  exact wpAny_assign_Name (store_ok I hN hi hx r (fun s' I' => ⟨_, H, I', h⟩) hf)
def gNil : TGs := fun vs σ H Q => vs = [] ∧ Q σ H
def gCons (t : TG) (u : TGs) : TGs := fun vs σ H Q => ∃ v r, vs = v :: r ∧ t v σ H fun σ' H' => u r σ' H' Q
theorem pgs_nil : PGs X [] gNil := by
  intro pins s σ H vs us Q I r h
  obtain ⟨e, h⟩ := h
  subst e
  cases r
  exact assignInOrder_nil ⟨σ, H, I, h⟩
theorem pgs_cons {e : Expr} {es : List Expr} {t : TG} {u : TGs} (h1 : PG X e t) (h2 : PGs X es u)
    (hs : (assignEach (e :: es) X.env).map (·.2) = assign e X.env :: (assignEach es X.env).map (·.2) := by rfl) : PGs X (e :: es) (gCons t u) := by
  intro pins s σ H vs us Q I r h
  obtain ⟨v, vr, e1, h⟩ := h
  subst e1
  cases r with
  | cons r rr =>
    rw [hs]
    refine assignInOrder_cons (thn (h1 pins s σ H _ _ _ I r h) fun _ s1 ⟨σ1, H1, I1, q1⟩ => ?_)
    exact h2 pins s1 σ1 H1 _ _ Q I1 rr q1
def gTup (K : PySem.W.Frag) (n : Nat) (t : TGs) : TG := fun v σ H Q => ∃ a xs, v = .ref a ∧ SqT K H a xs ∧ xs.length = n ∧ t xs σ H Q
theorem pg_tup {es : List Expr} {k : Nat} {t : TGs} {n : Nat} (hc : X.calm = true) (h : PGs X es t)
    (hn : (assignEach es X.env).length = n := by rfl) (hst : (assignEach es X.env).findIdx? (·.1) = none := by rfl) : PG X (.Tuple es k pos) (gTup X.K n t) := by
  intro pins s σ H v u Q I r hw
  obtain ⟨a, xs, e1, hq, hl, hw⟩ := hw
  subst e1
  cases r
  obtain ⟨its, rv, ht, hz⟩ := I.tuple hq
  refine assign_Tuple_tuple (I.ok.hd hc) ht (by simp [hn, ← hl, rv.length]) hst fun h' hx => ?_
  have I1 : Inv X pins σ H { s with heap := h' } := I.kept (t' := s.toks) fun b o e => hx b o (Nat.ne_of_lt (Heap.lt_size e)) e
  exact h pins _ σ H xs _ Q I1 (by simpa using rv) hw
def gSub (to ti : TE) (t : TSet) : TG := fun v σ H Q => to σ H fun o H1 => ti σ H1 fun i H2 => t o i v H2 fun H3 => Q σ H3
def tAsg (te : TE) (g : TG) : TS := fun D σ H => te σ H fun x H1 => g x σ H1 D.nx
theorem ps_set {i : Nat} {x : Str} {e : Expr} {te : TE} {pos' : Pos} (hN : X.N.Nodup) (hi : X.N[i]? = some x) (hx : Loc X.env.scope x) (he : PE X e te) (hs : swapsWith e (some (.Name x pos')) pos.line X.env = pure false := by rfl) (hf : X.fn x = true ∨ X.env.scope.names.lookup x = some .local := by first | exact .inl rfl | exact .inr rfl | assumption) :
    PS X (.Assign [.Name x pos'] e pos) (tAsg te (gName i)) := by
  intro pins s σ H D I h
  refine wpAny_Assign_Name (thn (he pins s σ H _ I h) fun v s1 ⟨y, H1, I1, r1, q1⟩ => ?_) hs
  exact store_ok I1 hN hi hx r1 (fun s2 I2 => ⟨_, H1, I2, q1⟩) hf
def tPar (i j : Nat) (ta : TA) : TS := fun D σ H => ta σ H fun vs H1 => ∃ v w, vs = [v, w] ∧ D.nx ((σ.set i (some v)).set j (some w)) H1
theorem ps_par {i j : Nat} {x y : Str} {a b : Expr} {ta : TA} {px py pt : Pos} {kt k2 pt2} (hc : X.calm = true) (hN : X.N.Nodup) (hi : X.N[i]? = some x) (hj : X.N[j]? = some y) (hij : i ≠ j)
    (hx : X.env.scope.names.lookup x = some .local) (hy : X.env.scope.names.lookup y = some .local) (ha : PA X [a, b] ta)
    (hw : swappedStores [.Tuple [.Name x px, .Name y py] kt pt] (.Tuple [a, b] k2 pt2) X.env = pure (some [x, y]))
    (hs : swapsWithSole [.Tuple [.Name x px, .Name y py] kt pt] (.Tuple [a, b] k2 pt2) pos.line X.env = pure false := by rfl) :
    PS X (.Assign [.Tuple [.Name x px, .Name y py] kt pt] (.Tuple [a, b] k2 pt2) pos) (tPar i j ta) := by
  intro pins s σ H D I h
  rw [exec_Assign_arm]
  refine wpAny_bind (wpAny_standAt ?_)
  rw [hs]
  refine wpAny_bind (wpAny_pure ?_)
  rw [if_neg (by decide)]
  refine wpAny_bind (Tuple_ (thn (ha _ pins s σ H _ I h) fun us s1 ⟨vs, H1, I1, r1, q1⟩ => ?_))
  obtain ⟨v, w, e1, q1⟩ := q1
  subst e1
  obtain ⟨u1, u2, rfl, rv, rw'⟩ : ∃ u1 u2, us = [u1, u2] ∧ RelV v u1 ∧ RelV w u2 := by
    cases r1 with
    | cons p q =>
      cases q with
      | cons p' q' =>
        cases q'
        exact ⟨_, _, rfl, p, p'⟩
  refine wpAny_newObj_type ?_ (by show 2 ≤ sizeLine; decide)
  have I2 : Inv X pins σ H1 { s1 with heap := s1.heap.push { cls := .type "tuple", data := .seq [u1, u2].toArray } } := I1.kept (t' := s1.toks) fun b o e => Heap.get?_push_of_some _ e
  rw [hw]
  refine wpAny_bind (wpAny_pure ?_)
  show wpAny (model X.prog X.w) X.A (do rule "assign.swapped-stores"; let items ← unpackItems (.ref s1.heap.objs.size) 2 none; assignInOrder [fun v => bindName X.env y v, fun v => bindName X.env x v] items.reverse; pure Flow.next) _ _ _
  refine wpAny_bind (wpAny_rule (wpAny_bind (unpackItems_tuple (items := #[u1, u2]) (I.ok.hd hc) (IsTup.new s1.heap _) fun h' hx' => ?_)))
  have I3 := I2.kept (h' := h') (t' := s1.toks) fun b o e => hx' b o (Nat.ne_of_lt (Heap.lt_size e)) e
  show wpAny _ _ (assignInOrder [fun v => bindName X.env y v, fun v => bindName X.env x v] [u2, u1] >>= fun _ => pure Flow.next) _ _ _
  refine wpAny_bind (assignInOrder_cons (wpAny_bindName (store_ok I3 hN hj (.inl hy) rw' (fun s2 I4 => ?_) (.inr hy))))
  refine assignInOrder_cons (wpAny_bindName (store_ok I4 hN hi (.inl hx) rv (fun s3 I5 => assignInOrder_nil (wpAny_pure ?_)) (.inr hx)))
  rw [List.set_comm _ _ (Ne.symm hij)] at I5
  exact ⟨_, H1, I5, q1⟩
def tAug (i : Nat) (te : TE) (ti : TIp) : TS := fun D σ H => ∃ x, σ[i]? = some (some x) ∧ te σ H fun y H1 => ti x y H1 fun z H2 => D.nx (σ.set i (some z)) H2
theorem ps_aug {i : Nat} {x : Str} {e : Expr} {te : TE} {op : Operator} {ti : TIp} {pos' : Pos} (hN : X.N.Nodup) (hi : X.N[i]? = some x) (hx : Loc X.env.scope x) (he : PE X e te) (ho : PIp X op ti) (hf : X.fn x = true ∨ X.env.scope.names.lookup x = some .local := by first | exact .inl rfl | exact .inr rfl | assumption) :
    PS X (.AugAssign (.Name x pos') op e pos) (tAug i te ti) := by
  intro pins s σ H D I h
  obtain ⟨v, e1, h⟩ := h
  obtain ⟨m, hn, hl⟩ := I.loc
  have vis : Vis X.env.scope x := by rcases hx with k | k; exact .inl k; exact .inr (.inl k)
  obtain ⟨u, r, l⟩ := hl i x v hi e1 vis
  refine wpAny_AugAssign_Name ?_
  have go : wpAny (model X.prog X.w) X.A (eval e X.env) (fun w s₂ => wpAny (model X.prog X.w) X.A (inplaceOp op u w) (fun r s₃ => wpAny (model X.prog X.w) X.A (storeName X.env x r) (fun _ => SP X pins D .next) X.xe s₃) X.xe s₂) X.xe s := by
    refine thn (he pins s σ H _ I h) fun w s1 ⟨y, H1, I1, r1, q1⟩ => ?_
    refine thn (ho pins s1 σ H1 v y u w _ I1 r r1 q1) fun z s2 ⟨zv, H2, I2, r2, q2⟩ => ?_
    exact store_ok I2 hN hi hx r2 (fun s3 I3 => ⟨_, H2, I3, q2⟩) hf
  rcases l with ⟨hk, hm⟩ | ⟨hk, c, hc, hcell⟩
  · exact wpAny_loadName_local I.ok.kind hk hn hm go
  · rcases hk with hk | hk
    · exact wpAny_loadName_cell I.ok.kind hk hc hcell go
    · rcases hx with k | k
      · have : X.env.scope.names.lookup x = some .free := hk
        rw [k] at this; cases this
      · have : X.env.scope.names.lookup x = some .free := hk
        rw [k] at this; cases this
def ipI (f : Int → Int → Int) : TIp := fun x y H Q => ∃ i j, x = .int i ∧ y = .int j ∧ Q (.int (f i j)) H
theorem ip_add : PIp X .Add (ipI fun i j => i + j) := by
  intro pins s σ H x y v u Q I r1 r2 h
  obtain ⟨i, j, e1, e2, q⟩ := h
  subst e1; subst e2
  obtain ⟨t, rfl⟩ := r1
  obtain ⟨t', rfl⟩ := r2
  exact iadd_int ⟨.int _, H, I.tok _, ⟨_, rfl⟩, q⟩
end
section
variable {X : Cx} {pos : Pos}
def tWhile (c : TT) (tb : TS) : TS := fun D σ H => ∃ W : Nat → St → Hp → Prop, (∃ m, W m σ H) ∧ ∀ m σ H, W m σ H →
  c σ H fun b H1 => if b = true then ∃ N : St → Hp → Prop, (∀ σ' H', N σ' H' → ∃ m', m' < m ∧ W m' σ' H') ∧ tb { D with nx := N, ct := N, bk := D.nx } σ H1 else D.nx σ H1
theorem ps_while {c : Expr} {body : List Stmt} {tc : TT} {tb : TS} (hp : PassesOwn (model X.prog X.w) X.A X.env X.xe) (hc : PT X c tc) (hb : PSs X body tb) : PS X (.While c body [] pos) (tWhile tc tb) := by
  intro pins s σ H D I h
  obtain ⟨W, ⟨m0, w0⟩, turn⟩ := h
  refine wpAny_While (codeAny_whileLoop (fun n s' => ∃ σ' H', Inv X pins σ' H' s' ∧ W n σ' H') ?_ m0 ⟨σ, H, I, w0⟩)
  rintro n s1 ⟨σ1, H1, I1, w1⟩
  refine wpAny_passesOwn hp (thn (hc pins s1 σ1 H1 _ I1 (turn n σ1 H1 w1)) fun b s2 ⟨H2, I2, q2⟩ => ?_)
  cases b with
  | true =>
    obtain ⟨N, hN, q2⟩ := q2
    rw [if_pos rfl]
    refine wpAny_passesOwn hp (thn (hb pins s2 σ1 H2 _ I2 q2) fun f s3 q3 => ?_)
    cases f with
    | next =>
      obtain ⟨σ3, H3, I3, n3⟩ := q3
      obtain ⟨m', hm, w3⟩ := hN σ3 H3 n3
      exact ⟨m', hm, σ3, H3, I3, w3⟩
    | cont =>
      obtain ⟨σ3, H3, I3, n3⟩ := q3
      obtain ⟨m', hm, w3⟩ := hN σ3 H3 n3
      exact ⟨m', hm, σ3, H3, I3, w3⟩
    | brk => exact q3
    | ret v => exact q3
  | false =>
    rw [if_neg Bool.false_ne_true]
    exact wpAny_execs_nil ⟨σ1, H2, I2, q2⟩
end
structure It where
  go : Nat → Hp → Prop
  yld : Nat → Hp → V → Hp → Prop
  stop : Nat → Hp → Prop
def FpOk (X : Cx) (pins : List (Addr × Obj)) (H : Hp) (b : Addr) : Prop :=
  H b = none ∧ b ≠ X.env.locals ∧ b ∉ X.fs ∧ (b ∈ X.ex ∨ X.s₀.heap.objs.size ≤ b) ∧ (∀ x c, X.env.cells.lookup x = some c → c ≠ b) ∧ ∀ p ∈ X.pn ++ pins, p.1 ≠ b
theorem Inv.fpOk {X : Cx} {pins : List (Addr × Obj)} {σ : St} {H H' : Hp} {s : Shared} {b : Addr} (I : Inv X pins σ H s) (hb : s.heap.objs.size ≤ b) (hn : H' b = none) : FpOk X pins H' b := by
  refine ⟨hn, Nat.ne_of_gt (Nat.lt_of_lt_of_le I.lt hb), I.nofs hb, .inr (Nat.le_trans I.sz hb), fun x c e z => ?_, fun p hp z => ?_⟩
  · obtain ⟨v, q⟩ := I.cell x c e
    exact absurd (Nat.lt_of_lt_of_le q.lt (by rw [z]; exact hb)) (Nat.lt_irrefl _)
  · exact absurd (Nat.lt_of_lt_of_le (Heap.lt_size (I.pin p hp).1) (by rw [z]; exact hb)) (Nat.lt_irrefl _)
structure Turn (P : Program) (w : World) (K : PySem.W.Frag) (tg : Expr) (J : It) (fp : List Addr) (it : Addr) (tn : Nat → Heap → Prop) : Prop where
  mem : it ∈ fp
  obj : ∀ i h, tn i h → ∀ b ∈ fp, ∃ o, h.get? b = some o ∧ ∀ v, o.data ≠ .cell v
  keep : ∀ i h h', tn i h → (∀ b ∈ fp, ∀ o, h.get? b = some o → h'.get? b = some o) → tn i h'
  item : ∀ (X : Cx), X.prog = P → X.w = w → X.K = K → X.calm = true → ∀ (i : Nat) (pins : List (Addr × Obj)) (s : Shared) (σ : St) (H : Hp) (E : Value → Shared → Prop), Inv X pins σ H s → (∀ b ∈ fp, FpOk X pins H b) → tn i s.heap → J.go i H →
    wpAny (model P w) X.A (pyNext (.ref it)) (fun r s1 => ∃ u, r = some u ∧
      wpAny (model P w) X.A (letOwnedTupleGo tg (.ref it) u) (fun _ s2 => ∃ x H', Inv X pins σ H' s2 ∧ RelV x u ∧ J.yld i H x H' ∧ tn (i + 1) s2.heap ∧ ∀ b ∈ fp, H' b = none) E s1) E s
  done : ∀ (X : Cx), X.prog = P → X.w = w → X.K = K → X.calm = true → ∀ (i : Nat) (pins : List (Addr × Obj)) (s : Shared) (σ : St) (H : Hp) (E : Value → Shared → Prop), Inv X pins σ H s → (∀ b ∈ fp, FpOk X pins H b) → tn i s.heap → J.stop i H →
    wpAny (model P w) X.A (pyNext (.ref it)) (fun r s1 => r = none ∧ Inv X pins σ H s1) E s
  self : ∀ (A : Around) (i : Nat) (s : Shared) (Q : Value → Shared → Prop) (E : Value → Shared → Prop), tn i s.heap → Q (.ref it) s → wpAny (model P w) A (pyIter (.ref it)) Q E s
abbrev TI := St → Hp → (It → Hp → Prop) → Prop
def PIE (X : Cx) (pins : List (Addr × Obj)) (σ : St) (tg : Expr) (R : It → Hp → Prop) (itv : Value) (s2 : Shared) : Prop :=
  ∃ (it : Addr) (fp : List Addr) (tn : Nat → Heap → Prop) (J : It) (H' : Hp), itv = .ref it ∧ Inv X pins σ H' s2 ∧ Turn X.prog X.w X.K tg J fp it tn ∧ tn 0 s2.heap ∧ (∀ b ∈ fp, FpOk X pins H' b) ∧ R J H'
def PI (X : Cx) (tg iter : Expr) (wi : TI) : Prop :=
  ∀ (pins : List (Addr × Obj)) (s : Shared) (σ : St) (H : Hp) (R : It → Hp → Prop), Inv X pins σ H s → wi σ H R →
    wpAny (model X.prog X.w) X.A (eval iter X.env) (fun v s1 => wpAny (model X.prog X.w) X.A (pyIter v) (PIE X pins σ tg R) X.xe s1) X.xe s
theorem go_of {M : Model} {A : Around} {E : Value → Shared → Prop} {s : Shared} {tg : Expr} {it : Addr} {u : Value} {o : Obj} {n : String} {vs : Array Value} {Q : Unit → Shared → Prop} (ho : s.heap.get? it = some o) (hc : o.cls = .type n) (hd : o.data = .fields vs)
    (hn : ["enumerate", "zip", "dict_itemiterator", "dict_reverseitemiterator", "odict_iterator", "itertools.zip_longest", "itertools.pairwise"].contains n = false) (hQ : Q () s) : wpAny M A (letOwnedTupleGo tg (.ref it) u) Q E s := by
  unfold letOwnedTupleGo
  cases tg <;> first
    | exact wpAny_pure hQ
    | (cases u <;> first
        | exact wpAny_pure hQ
        | (refine wpAny_bind (wpAny_load ho ?_)
           rw [hc, hd]
           show wpAny M A (if (["enumerate", "zip", "dict_itemiterator", "dict_reverseitemiterator", "odict_iterator", "itertools.zip_longest", "itertools.pairwise"].contains n && vs[0]? == some (rawInt _)) = true then _ else _) Q E s
           rw [if_neg (by intro h; rw [hn, Bool.false_and] at h; cases h)]
           exact wpAny_pure hQ))
def Itl (K : PySem.W.Frag) (a : Addr) : It :=
  ⟨fun i H => ∃ xs x, SqL K H a xs ∧ xs[i]? = some x, fun i H x H' => H' = H ∧ ∀ xs, SqL K H a xs → xs[i]? = some x, fun i H => ∃ xs, SqL K H a xs ∧ xs.length ≤ i⟩
def Itr (lo : Int) (n : Nat) : It := ⟨fun i _ => i < n, fun i H x H' => H' = H ∧ x = .int (lo + i), fun i _ => n ≤ i⟩
theorem turn_list {P : Program} {w : World} {K : PySem.W.Frag} {tg : Expr} (a it : Addr) : Turn P w K tg (Itl K a) [it] it (fun i h => h.IsListIter it a i) where
  mem := by simp
  obj := fun i h st b hb => by
    have e : b = it := by simpa using hb
    subst e
    obtain ⟨o, e, c, d⟩ := st
    exact ⟨o, e, fun v z => by rw [d] at z; cases z⟩
  keep := fun i h h' st k => st.at fun o e => k it (by simp) o e
  item := by
    intro X hP hw hK hc i pins s σ H E I hf st hg
    subst hP hw hK
    obtain ⟨xs, x, hq, hx⟩ := hg
    obtain ⟨its, rv, p, hz⟩ := I.list hq
    obtain ⟨u, hu, ru⟩ := rv.get hx
    obtain ⟨f0, f1, f2, f3, f4, f5⟩ := hf it (by simp)
    refine wpAny_pyNext_list_item st p.isList (x := u) (by simpa using hu) fun h' st' sb => ?_
    have I1 : Inv X pins σ H { s with heap := h' } := I.turned (t' := s.toks) (fun b o hb e => (sb.2 b hb).trans e) f0 f1 f3 f4 f5
    obtain ⟨o, e, c, d⟩ := id st'
    exact ⟨u, rfl, go_of (s := { s with heap := h' }) e c d (by decide) ⟨x, H, I1, ru, ⟨rfl, fun ys hy => by rw [I.list_inj hy hq]; exact hx⟩, st', fun b hb => (hf b hb).1⟩⟩
  done := by
    intro X hP hw hK hc i pins s σ H E I hf st hg
    subst hP hw hK
    obtain ⟨xs, hq, hx⟩ := hg
    obtain ⟨its, rv, p, hz⟩ := I.list hq
    obtain ⟨f0, f1, f2, f3, f4, f5⟩ := hf it (by simp)
    have hl := rv.length
    exact wpAny_pyNext_list_end (I.ok.hd hc) st p.isList (by simp; omega) fun h' eb => ⟨rfl, I.turned (t' := s.toks) (fun b o hb e => eb b o hb e) f0 f1 f3 f4 f5⟩
  self := fun _ _ _ _ _ st h => wpAny_pyIter_listiter st h
theorem turn_range {P : Program} {w : World} {K : PySem.W.Frag} {tg : Expr} (it : Addr) (lo : Int) (n : Nat) : Turn P w K tg (Itr lo n) [it] it (fun i h => IsRangeIter h it (lo + (i : Nat) * 1) ((n : Int) - (i : Nat)) 1) where
  mem := by simp
  obj := fun i h st b hb => by
    have e : b = it := by simpa using hb
    subst e
    exact ⟨_, st, fun v z => by
      have z' : Data.fields _ = Data.cell v := z
      cases z'⟩
  keep := fun i h h' st k => k it (by simp) _ st
  item := by
    intro X hP hw hK hc i pins s σ H E I hf st hg
    subst hP hw hK
    obtain ⟨f0, f1, f2, f3, f4, f5⟩ := hf it (by simp)
    have W := Walks.range (prog := X.prog) (w := X.w) (I.ok.hd hc) it lo 1 n
    refine W.item i s _ _ hg st fun v h' tk hv st' kk => ?_
    obtain ⟨t, rfl⟩ := hv
    have I1 : Inv X pins σ H { s with heap := h', toks := tk } := I.turned (fun b o hb e => kk b o (by simpa using hb) e) f0 f1 f3 f4 f5
    refine ⟨_, rfl, go_of (s := { s with heap := h', toks := tk }) (n := "range_iterator") st' rfl rfl (by decide) ⟨.int (lo + i), H, I1, ⟨t, ?_⟩, ⟨rfl, rfl⟩, st', fun b hb => (hf b hb).1⟩⟩
    rw [Int.mul_one]
  done := by
    intro X hP hw hK hc i pins s σ H E I hf st hg
    subst hP hw hK
    obtain ⟨f0, f1, f2, f3, f4, f5⟩ := hf it (by simp)
    exact wpAny_pyNext_range_end (I.ok.hd hc) st (by have : n ≤ i := hg; omega) fun h' eb => ⟨rfl, I.turned (t' := s.toks) (fun b o hb e => eb b o hb e) f0 f1 f3 f4 f5⟩
  self := fun _ _ _ _ _ st h => wpAny_pyIter_rangeiter st h
end L2
namespace L2
open PySem PySem.Spec PyProof.Rows
section
variable {X : Cx} {tg : Expr}
def iList (K : PySem.W.Frag) (tl : TE) : TI := fun σ H R => tl σ H fun x H1 => ∃ a, x = .ref a ∧ (∃ xs, SqL K H1 a xs) ∧ R (Itl K a) H1
theorem pi_list {l : Expr} {tl : TE} (hl : PE X l tl) : PI X tg l (iList X.K tl) := by
  intro pins s σ H R I h
  refine thn (hl pins s σ H _ I h) fun v s1 ⟨x, H1, I1, r1, q1⟩ => ?_
  obtain ⟨a, e, ⟨xs, hq⟩, q⟩ := q1
  subst e
  cases r1
  obtain ⟨its, rv, p, hz⟩ := I1.list hq
  refine wpAny_pyIter_list p.isList ?_
  refine ⟨s1.heap.objs.size, [s1.heap.objs.size], _, _, H1, rfl, I1.kept (t' := s1.toks) fun b o e => Heap.get?_push_of_some _ e, turn_list a _, ⟨_, Heap.get?_push_size _ rfl, rfl, rfl⟩, fun b hb => ?_, q⟩
  have e : b = s1.heap.objs.size := by simpa using hb
  subst e
  exact I1.fpOk (Nat.le_refl _) (I1.hok.fresh (Nat.le_refl _))
theorem range_it {pins : List (Addr × Obj)} {σ : St} {H : Hp} {s : Shared} {R : It → Hp → Prop} {E : Value → Shared → Prop} {lo hi : Int} {t u v : Tok} {tk : Nat} (I : Inv X pins σ H s) (h1 : -(2 ^ 62) ≤ lo) (h2 : lo < 2 ^ 62) (h3 : -(2 ^ 62) ≤ hi) (h4 : hi < 2 ^ 62)
    (q : R (Itr lo (hi - lo).toNat) H) : wpAny (model X.prog X.w) X.A (pyIter (.ref s.heap.objs.size)) (PIE X pins σ tg R) E { s with heap := s.heap.push { cls := .type "range", data := .fields #[.int lo t, .int hi u, .int 1 v] }, toks := tk } := by
  refine wpAny_pyIter_range (IsRange.new ..) (small_one h1 h2 h3 h4) ?_
  have I1 : Inv X pins σ H { s with heap := s.heap.push { cls := .type "range", data := .fields #[.int lo t, .int hi u, .int 1 v] }, toks := tk } := I.kept fun b o e => Heap.get?_push_of_some _ e
  refine ⟨(s.heap.push { cls := .type "range", data := .fields #[.int lo t, .int hi u, .int 1 v] }).objs.size, [(s.heap.push { cls := .type "range", data := .fields #[.int lo t, .int hi u, .int 1 v] }).objs.size], _, _, H, rfl,
    I1.kept (t' := tk) fun b o e => Heap.get?_push_of_some _ e, turn_range _ lo (hi - lo).toNat, ?_, fun b hb => ?_, q⟩
  · have e1 : lo + ((0 : Nat) : Int) * 1 = lo := by simp
    have e2 : (((hi - lo).toNat : Nat) : Int) - ((0 : Nat) : Int) = Builtin.Range.rangeSize lo hi 1 := by rw [rangeSize_one]; split <;> omega
    show IsRangeIter _ _ (lo + ((0 : Nat) : Int) * 1) ((((hi - lo).toNat : Nat) : Int) - ((0 : Nat) : Int)) 1
    rw [e1, e2]
    exact Heap.get?_push_size _ rfl
  · have e : b = (s.heap.push { cls := .type "range", data := .fields #[.int lo t, .int hi u, .int 1 v] }).objs.size := by simpa using hb
    subst e
    exact I1.fpOk (Nat.le_refl _) (I1.hok.fresh (Nat.le_refl _))
def iRng2 (ta : TA) : TI := fun σ H R => ta σ H fun vs H1 => ∃ i j : Int, vs = [.int i, .int j] ∧ (-(2 ^ 62) ≤ i ∧ i < 2 ^ 62 ∧ -(2 ^ 62) ≤ j ∧ j < 2 ^ 62) ∧ R (Itr i (j - i).toNat) H1
theorem pi_range2 {a b : Expr} {ta : TA} {p pos : Pos} (hg : Gl X "range") (hm : X.mg "range" = none) (ha : PA X [a, b] ta) (hs : starEach [a, b] X.env = [(false, eval a X.env), (false, eval b X.env)] := by rfl) (hs2 : starEach [b] X.env = [(false, eval b X.env)] := by rfl) :
    PI X tg (.Call (.Name "range" p) [a, b] [] pos) (iRng2 ta) := by
  intro pins s σ H R I h
  refine Call_ (ld_blt I hg hm boot_range (PyProof.Rows.callWith_type1 (thn (ha pos pins s σ H _ I h) fun us s1 ⟨vs, H1, I1, r1, q1⟩ => ?_) (by rw [hs, hs2]) (by rw [hs2]; rfl)))
  obtain ⟨i, j, e, ⟨q1, q2, q3, q4⟩, q⟩ := q1
  subst e
  cases r1 with
  | cons r rr =>
    cases rr with
    | cons r' rr =>
      cases rr
      obtain ⟨t, rfl⟩ := r
      obtain ⟨t', rfl⟩ := r'
      exact call_range_2 (range_it I1 q1 q2 q3 q4 q)
def tFor (wi : TI) (g : TG) (tb : TS) : TS := fun D σ H => wi σ H fun J H1 => ∃ W : Nat → Nat → St → Hp → Prop, (∃ m, W 0 m σ H1) ∧ ∀ i m σ H, W i m σ H →
  (J.stop i H ∧ D.nx σ H) ∨ (J.go i H ∧ ∃ N : St → Hp → Prop, (∀ σ' H', N σ' H' → ∃ m', m' < m ∧ W (i + 1) m' σ' H') ∧ ∀ x H', J.yld i H x H' → g x σ H' fun σ2 H2 => tb { D with nx := N, ct := N, bk := D.nx } σ2 H2)
def pinsAt (fp : List Addr) (h : Heap) : List (Addr × Obj) := fp.filterMap fun b => (h.get? b).map fun o => (b, o)
theorem mem_pinsAt {fp : List Addr} {h : Heap} {b : Addr} {o : Obj} (hb : b ∈ fp) (e : h.get? b = some o) : (b, o) ∈ pinsAt fp h := List.mem_filterMap.mpr ⟨b, hb, by rw [e]; rfl⟩
theorem of_pinsAt {fp : List Addr} {h : Heap} {p : Addr × Obj} (hp : p ∈ pinsAt fp h) : p.1 ∈ fp ∧ h.get? p.1 = some p.2 := by
  obtain ⟨b, hb, e⟩ := List.mem_filterMap.mp hp
  cases q : h.get? b with
  | none => rw [q] at e; cases e
  | some o =>
    rw [q] at e
    have e' : (b, o) = p := Option.some.inj e
    subst e'
    exact ⟨hb, q⟩
theorem Inv.pinned {pins : List (Addr × Obj)} {σ : St} {H : Hp} {s : Shared} {fp : List Addr} (I : Inv X pins σ H s) (hf : ∀ b ∈ fp, FpOk X pins H b) (ho : ∀ b ∈ fp, ∃ o, s.heap.get? b = some o ∧ ∀ v, o.data ≠ .cell v) : Inv X (pins ++ pinsAt fp s.heap) σ H s :=
  I.pins_of fun p hp => (List.mem_append.mp hp).elim (fun z => I.pin p (List.mem_append_right _ z)) fun z => by
    obtain ⟨hb, e⟩ := of_pinsAt z
    obtain ⟨f0, f1, f2, _⟩ := hf p.1 hb
    obtain ⟨o, e', d⟩ := ho p.1 hb
    rw [e] at e'; cases e'
    exact ⟨e, f0, f1, f2, d⟩
theorem Inv.unpinned {pins pl : List (Addr × Obj)} {σ : St} {H : Hp} {s : Shared} (I : Inv X (pins ++ pl) σ H s) : Inv X pins σ H s := I.pins_of fun p hp => I.pin p (List.mem_append_right _ (List.mem_append_left _ hp))
theorem ps_for {iter : Expr} {body : List Stmt} {wi : TI} {g : TG} {tb : TS} {pos : Pos} (hp : PassesOwn (model X.prog X.w) X.A X.env X.xe) (hc : X.calm = true) (hi : PI X tg iter wi) (hg : PG X tg g) (hb : PSs X body tb)
    (hs : ∀ x, foldedSetIterable iter X.env x = pure x := by intro _; rfl) : PS X (.For tg iter body [] pos) (tFor wi g tb) := by
  intro pins s σ H D I h
  refine wpAny_For (thn (hi pins s σ H _ I h) fun v s1 h1 => thn h1 fun itv s2 h2 => ?_) hs
  obtain ⟨it, fp, tn, J, H2, e, I2, T, st2, f2, W, ⟨m0, w0⟩, turn⟩ := h2
  subst e
  have stat : ∀ {H' : Hp}, (∀ b ∈ fp, H' b = none) → ∀ b ∈ fp, FpOk X pins H' b := fun hn b hb => ⟨hn b hb, (f2 b hb).2⟩
  refine codeAny_forLoop_any (fun n s' => ∃ i σ' H', Inv X pins σ' H' s' ∧ tn i s'.heap ∧ (∀ b ∈ fp, H' b = none) ∧ W i n σ' H') ?_ m0 ⟨0, σ, H2, I2, st2, fun b hb => (f2 b hb).1, w0⟩
  rintro n s3 ⟨i, σ3, H3, I3, st3, fr3, w3⟩
  rcases turn i n σ3 H3 w3 with ⟨stop, qn⟩ | ⟨go, N, hN, step⟩
  · refine wpAny_passesOwn hp (thn (T.done X rfl rfl rfl hc i pins s3 σ3 H3 X.xe I3 (stat fr3) st3 stop) fun r s4 ⟨hr, I4⟩ => ?_)
    subst hr
    exact wpAny_execs_nil ⟨σ3, H3, I4, qn⟩
  · refine wpAny_passesOwn hp (thn (T.item X rfl rfl rfl hc i pins s3 σ3 H3 X.xe I3 (stat fr3) st3 go) fun r s4 ⟨u, hr, h4⟩ => ?_)
    subst hr
    refine wpAny_passesOwn hp (thn h4 fun _ s5 ⟨x, H5, I5, r5, y5, st5, fr5⟩ => ?_)
    have I5' := I5.pinned (stat fr5) (T.obj _ _ st5)
    refine wpAny_passesOwn hp (thn (hg _ s5 σ3 H5 x u _ I5' r5 (step x H5 y5)) fun _ s6 ⟨σ6, H6, I6, q6⟩ => ?_)
    refine wpAny_passesOwn hp (thn (hb _ s6 σ6 H6 _ I6 q6) fun f s7 q7 => ?_)
    have again : ∀ {σ7 : St} {H7 : Hp}, Inv X (pins ++ pinsAt fp s5.heap) σ7 H7 s7 → N σ7 H7 → ∃ m, m < n ∧ ∃ i σ' H', Inv X pins σ' H' s7 ∧ tn i s7.heap ∧ (∀ b ∈ fp, H' b = none) ∧ W i m σ' H' := fun {σ7 H7} I7 n7 => by
      obtain ⟨m', hm, w7⟩ := hN σ7 H7 n7
      refine ⟨m', hm, i + 1, σ7, H7, I7.unpinned, T.keep _ _ _ st5 fun b hb o e => (I7.pin (b, o) (List.mem_append_right _ (List.mem_append_right _ (mem_pinsAt hb e)))).1, fun b hb => ?_, w7⟩
      obtain ⟨o, e, d⟩ := T.obj _ _ st5 b hb
      exact (I7.pin (b, o) (List.mem_append_right _ (List.mem_append_right _ (mem_pinsAt hb e)))).2.1
    cases f with
    | next => obtain ⟨σ7, H7, I7, n7⟩ := q7; exact again I7 n7
    | cont => obtain ⟨σ7, H7, I7, n7⟩ := q7; exact again I7 n7
    | brk => obtain ⟨σ7, H7, I7, q7⟩ := q7; exact ⟨σ7, H7, I7.unpinned, q7⟩
    | ret v => obtain ⟨x7, σ7, H7, I7, r7, q7⟩ := q7; exact ⟨x7, σ7, H7, I7.unpinned, r7, q7⟩
end
end L2
namespace L2
open PySem PySem.Spec PyProof.Rows
abbrev R2 := V → V → Hp → VK → Prop
def OpR (X : Cx) (f : Value → Value → Sem Value) (r : R2) : Prop :=
  ∀ (pins : List (Addr × Obj)) (s : Shared) (σ : St) (H : Hp) (x y : V) (v u : Value) (Q : VK), Inv X pins σ H s → RelV x v → RelV y u → r x y H Q →
    wpAny (model X.prog X.w) X.A (f v u) (EP X pins σ Q) X.xe s
def CallR (X : Cx) (f : Value) (r : List V → Hp → VK → Prop) : Prop :=
  ∀ (pins : List (Addr × Obj)) (s : Shared) (σ : St) (H : Hp) (xs : List V) (us : List Value) (Q : VK), Inv X pins σ H s → Vals xs us → r xs H Q →
    wpAny (model X.prog X.w) X.A (call f us) (EP X pins σ Q) X.xe s
def tOp (r : R2) (ta tb : TE) : TE := fun σ H Q => ta σ H fun x H1 => tb σ H1 fun y H2 => r x y H2 Q
def rI (C : Int → Int → Prop) (g : Int → Int → V) : R2 := fun x y H Q => ∃ i j, x = .int i ∧ y = .int j ∧ C i j ∧ Q (g i j) H
def rI0 (g : Int → Int → V) : R2 := fun x y H Q => ∃ i j, x = .int i ∧ y = .int j ∧ Q (g i j) H
section
variable {X : Cx} {a b c : Expr} {ta tb tc : TE} {pos : Pos}
theorem binT (ha : PE X a ta) (hb : PE X b tb) {pins : List (Addr × Obj)} {s : Shared} {σ : St} {H : Hp} {R : V → V → Hp → Prop} (I : Inv X pins σ H s)
    (h : ta σ H fun x H1 => tb σ H1 fun y H2 => R x y H2) {Q : Value → Shared → Prop} {f : Value → Value → Sem Value}
    (hf : ∀ v u s2 x y H2, Inv X pins σ H2 s2 → RelV x v → RelV y u → R x y H2 → wpAny (model X.prog X.w) X.A (f v u) Q X.xe s2) :
    wpAny (model X.prog X.w) X.A (eval a X.env) (fun v s₁ => wpAny (model X.prog X.w) X.A (eval b X.env) (fun u s₂ => wpAny (model X.prog X.w) X.A (f v u) Q X.xe s₂) X.xe s₁) X.xe s := by
  refine thn (ha pins s σ H _ I h) fun v s1 ⟨x, H1, I1, r1, q1⟩ => ?_
  refine thn (hb pins s1 σ H1 _ I1 q1) fun u s2 ⟨y, H2, I2, r2, q2⟩ => ?_
  exact hf v u s2 x y H2 I2 r1 r2 q2
theorem pe_op {op : Operator} {r : R2} (ho : OpR X (binaryOp op) r) (ha : PE X a ta) (hb : PE X b tb) : PE X (.BinOp a op b pos) (tOp r ta tb) := by
  intro pins s σ H Q I h
  exact wpAny_BinOp (binT ha hb I h fun v u s2 x y H2 I2 rx ry q => ho pins s2 σ H2 x y v u Q I2 rx ry q)
theorem opI {f : Value → Value → Sem Value} {C : Int → Int → Prop} {g : Int → Int → Int}
    (rule : ∀ (i j : Int) (t u : Tok) (s : Shared) (Q : Value → Shared → Prop) (E : Value → Shared → Prop), C i j → Q (.int (g i j) s.toks) { s with toks := s.toks + 1 } → wpAny (model X.prog X.w) X.A (f (.int i t) (.int j u)) Q E s) :
    OpR X f (rI C fun i j => .int (g i j)) := by
  intro pins s σ H x y v u Q I rx ry h
  obtain ⟨i, j, rfl, rfl, hc, q⟩ := h
  obtain ⟨t, rfl⟩ := rx
  obtain ⟨t', rfl⟩ := ry
  exact rule i j t t' s _ _ hc ⟨.int (g i j), H, I.tok _, ⟨_, rfl⟩, q⟩
theorem opI0 {f : Value → Value → Sem Value} {g : Int → Int → Int}
    (rule : ∀ (i j : Int) (t u : Tok) (s : Shared) (Q : Value → Shared → Prop) (E : Value → Shared → Prop), Q (.int (g i j) s.toks) { s with toks := s.toks + 1 } → wpAny (model X.prog X.w) X.A (f (.int i t) (.int j u)) Q E s) :
    OpR X f (rI0 fun i j => .int (g i j)) := by
  intro pins s σ H x y v u Q I rx ry h
  obtain ⟨i, j, rfl, rfl, q⟩ := h
  obtain ⟨t, rfl⟩ := rx
  obtain ⟨t', rfl⟩ := ry
  exact rule i j t t' s _ _ ⟨.int (g i j), H, I.tok _, ⟨_, rfl⟩, q⟩
theorem opB0 {f : Value → Value → Sem Value} {g : Int → Int → Bool}
    (rule : ∀ (i j : Int) (t u : Tok) (s : Shared) (Q : Value → Shared → Prop) (E : Value → Shared → Prop), Q (.bool (g i j)) s → wpAny (model X.prog X.w) X.A (f (.int i t) (.int j u)) Q E s) :
    OpR X f (rI0 fun i j => .bl (g i j)) := by
  intro pins s σ H x y v u Q I rx ry h
  obtain ⟨i, j, rfl, rfl, q⟩ := h
  obtain ⟨t, rfl⟩ := rx
  obtain ⟨t', rfl⟩ := ry
  exact rule i j t t' s _ _ ⟨.bl (g i j), H, I, rfl, q⟩
def CDiv (i j : Int) : Prop := 0 < j ∧ j < 1073741824
def CPow (i j : Int) : Prop := 0 ≤ j ∧ j ≤ 1000000 ∧ i.natAbs < 2 ^ 64
def CMul (i j : Int) : Prop := (-(2 ^ 64) < i ∧ i < 2 ^ 64) ∨ (-(2 ^ 64) < j ∧ j < 2 ^ 64)
theorem CMul.ok {i j : Int} (h : CMul i j) : IntMulOk i j := by
  rcases h with ⟨h1, h2⟩ | ⟨h1, h2⟩
  · exact .of_left (intBits_le_64 h1 h2)
  · exact .of_right (intBits_le_64 h1 h2)
theorem op_add : OpR X (binaryOp .Add) (rI0 fun i j => .int (i + j)) := opI0 fun _ _ _ _ _ _ _ q => add_int q
theorem op_sub : OpR X (binaryOp .Sub) (rI0 fun i j => .int (i - j)) := opI0 fun _ _ _ _ _ _ _ q => sub_int q
theorem op_fdiv : OpR X (binaryOp .FloorDiv) (rI CDiv fun i j => .int (i / j)) := opI fun i j _ _ _ _ _ hc q => by
  have h1 : (0 : Int) < j := hc.1
  have h2 : j < 1073741824 := hc.2
  exact floordiv_int (by omega) (by rw [Int.fdiv_eq_ediv_of_nonneg i (by omega)]; exact q) (.inl (PyProof.noPylong_small (by omega)))
theorem op_mod : OpR X (binaryOp .Mod) (rI (fun _ j => 0 < j) fun i j => .int (i % j)) := opI fun i j _ _ _ _ _ hc q => by
  have h1 : (0 : Int) < j := hc
  exact mod_int' (by omega) (by rw [Int.fmod_eq_emod_of_nonneg i (by omega)]; exact q)
theorem op_pow : OpR X (binaryOp .Pow) (rI CPow fun i j => .int (i ^ j.toNat)) := opI fun _ _ _ _ _ _ _ hc q => pow_int_small hc.1 hc.2.1 hc.2.2 q
end
section
variable {X : Cx} {a b c : Expr} {ta tb tc : TE} {pos : Pos}
theorem op_lt : OpR X (compareOp .Lt) (rI0 fun i j => .bl (decide (i < j))) := opB0 fun _ _ _ _ _ _ _ q => lt_int q
theorem op_le : OpR X (compareOp .LtE) (rI0 fun i j => .bl (decide (i ≤ j))) := opB0 fun _ _ _ _ _ _ _ q => le_int q
theorem op_gt : OpR X (compareOp .Gt) (rI0 fun i j => .bl (decide (j < i))) := opB0 fun _ _ _ _ _ _ _ q => gt_int q
theorem OpR.or {f : Value → Value → Sem Value} {r r' : R2} (h : OpR X f r) (h' : OpR X f r') : OpR X f (fun x y H Q => r x y H Q ∨ r' x y H Q) := by
  intro pins s σ H x y v u Q I rx ry q
  rcases q with q | q
  · exact h pins s σ H x y v u Q I rx ry q
  · exact h' pins s σ H x y v u Q I rx ry q
theorem nomark (b : Expr) {op : CmpOp} (h : op ≠ .In := by decide) (h2 : op ≠ .NotIn := by decide) : behindInMarks op b = false := by
  have e1 : (op == CmpOp.In) = false := by cases op <;> first | rfl | exact absurd rfl h
  have e2 : (op == CmpOp.NotIn) = false := by cases op <;> first | rfl | exact absurd rfl h2
  cases b <;> simp [behindInMarks, e1, e2]
theorem pe_cmpR {op : CmpOp} {r : R2} (ho : OpR X (compareOp op) r) (ha : PE X a ta) (hb : PE X b tb) (hm : behindInMarks op b = false) : PE X (.Compare a [op] [b] pos) (tOp r ta tb) := by
  intro pins s σ H Q I h
  exact wpAny_Compare1 (binT ha hb I h fun v u s2 x y H2 I2 rx ry q => ho pins s2 σ H2 x y v u Q I2 rx ry q) hm
def tTest (t : TE) : TT := fun σ H Q => t σ H fun x H' => ∃ k, x = .bl k ∧ Q k H'
theorem pt_cmpR {op : CmpOp} {r : R2} (ho : OpR X (compareOp op) r) (ha : PE X a ta) (hb : PE X b tb) (hm : behindInMarks op b = false) : PT X (.Compare a [op] [b] pos) (tTest (tOp r ta tb)) := by
  intro pins s σ H Q I h
  refine wpAny_isTrue_Compare1 (thn (ha pins s σ H _ I h) fun v s1 ⟨x, H1, I1, r1, q1⟩ => thn (hb pins s1 σ H1 _ I1 q1) fun u s2 ⟨y, H2, I2, r2, q2⟩ =>
    thn (ho pins s2 σ H2 x y v u _ I2 r1 r2 q2) fun c s3 ⟨z, H3, I3, r3, k, e, q3⟩ => ?_) hm
  subst e
  cases r3
  exact wpAny_truthy_bool ⟨H3, I3, q3⟩
theorem line63 : (sizeLine : Nat) < 2 ^ 63 := by rw [sizeLine_eq]; decide
theorem op_add_str : OpR X (binaryOp .Add) (fun x y H Q => ∃ i j, x = .str i ∧ y = .str j ∧ i.length + j.length ≤ sizeLine ∧ Q (.str (i ++ j)) H) := by
  intro pins s σ H x y v u Q I rx ry h
  obtain ⟨i, j, rfl, rfl, hz, q⟩ := h
  obtain ⟨t, rfl⟩ := rx
  obtain ⟨t', rfl⟩ := ry
  exact add_str (fun t' tk => ⟨.str (i ++ j), H, I.tok _, ⟨_, rfl⟩, q⟩) hz
theorem vals1 {x : V} {us : List Value} (r : Vals [x] us) : ∃ u, us = [u] ∧ RelV x u := by
  cases r with
  | cons r1 r2 => cases r2; exact ⟨_, rfl, r1⟩
theorem vals2 {x y : V} {us : List Value} (r : Vals [x, y] us) : ∃ u w', us = [u, w'] ∧ RelV x u ∧ RelV y w' := by
  cases r with
  | cons r1 r2 =>
    cases r2 with
    | cons r3 r4 => cases r4; exact ⟨_, _, rfl, r1, r3⟩
theorem call_max2 (hc : X.calm = true) : CallR X (.builtin "max") (fun xs H Q => ∃ i j, xs = [.int i, .int j] ∧ Q (.int (if j > i then j else i)) H) := by
  intro pins s σ H xs us Q I r h
  obtain ⟨i, j, rfl, q⟩ := h
  obtain ⟨u, w', rfl, ⟨t, rfl⟩, ⟨t', rfl⟩⟩ := vals2 r
  refine max_two_ints (I.ok.hd hc) fun h' tk k => ⟨_, H, I.kept k, ?_, q⟩
  by_cases hj : j > i
  · rw [if_pos hj, if_pos hj]; exact ⟨_, rfl⟩
  · rw [if_neg hj, if_neg hj]; exact ⟨_, rfl⟩
end
end L2
namespace L2
open PySem PySem.Spec PyProof.Rows
structure ObjM (h : Heap) (x dx C : Addr) (mA : Str → Option Value) : Prop where
  obj : h.get? x = some (PySem.W.instObj C dx)
  ns : h.Ns1 dx mA
  ne : dx ≠ x
theorem lookIn_ns {h : Heap} {dx : Addr} {mA : Str → Option Value} (n : h.Ns1 dx mA) : ∃ od, h.get? dx = some od ∧ ∀ name, PySem.W.lookIn name od = some (mA name) := by
  obtain ⟨o, es, ep, ho, hd, hk, _, hm⟩ := n
  refine ⟨o, ho, fun name => ?_⟩
  have e := hm name
  unfold nsFind findBy at e
  rw [← Array.find?_toList] at e
  unfold PySem.W.lookIn
  rw [hd]
  dsimp only
  split
  · rename_i y q
    rw [q] at e
    exact congrArg some e
  · rename_i q
    rw [q] at e
    have a : es.toList.any (·.refKey) = false := by
      rw [List.any_eq_false]
      intro y hy
      obtain ⟨z, t, hkey⟩ := hk y (Array.mem_toList_iff.mp hy)
      simp [DictEntry.refKey, hkey]
    have a' : ¬ es.toList.any (·.refKey) = true := by rw [a]; exact Bool.false_ne_true
    rw [if_neg a']
    exact congrArg some e
theorem ObjM.look {h : Heap} {x dx C : Addr} {mA : Str → Option Value} (I : ObjM h x dx C mA) : ∃ od, PySem.W.InstAt h x (PySem.W.instObj C dx) C (some od) ∧ ∀ name, PySem.W.lookIn name od = some (mA name) :=
  let ⟨od, ho, hl⟩ := lookIn_ns I.ns
  ⟨od, ⟨I.obj, rfl, rfl, ho⟩, hl⟩
section
variable {prog : Program} {w : World} {A : Around} {E : Value → Shared → Prop} {s : Shared} {K : PySem.W.Frag} {x dx C f : Addr} {mA : Str → Option Value} {name : Str} {v : Value}
end
theorem RelO.none_of {o : Option Value} (r : RelO none o) : o = none := by
  cases o with
  | none => rfl
  | some u => exact (show False from r).elim
section
variable {P : Program} {w : World} {H H' : Hp} {h h' : Heap} {a C dx : Addr} {fs fs' : List (Str × V)}
theorem ins_get (hok : HOk P w H h) (e : H a = some (.ins C dx fs)) : ∃ mA, ObjM h a dx C mA ∧ (∀ f, RelO (fs.lookup f) (mA f)) ∧ PySem.Within mA (fs.map (·.1)) ∧ fs.length ≤ 1000 ∧ H dx = some (.own a) := by
  obtain ⟨d, z, ne, ob, mA, n, r, q⟩ := (show ObjOk P w H h a (.ins C dx fs) from hok a _ e)
  exact ⟨mA, ⟨ob, n, ne⟩, r, q, z, d⟩
end
structure Cls (K : PySem.W.Frag) (C : Addr) : Prop where
  pg : PySem.W.plainGet K C Str.empty = true
  hd : PySem.W.hasDictIn K C = true
  po : PySem.W.plainOver K C = true
  sa : PySem.W.findIn K (.ref C) "__setattr__" = some (some (.builtin "object.__setattr__"))
theorem Cls.get {K : PySem.W.Frag} {C : Addr} (c : Cls K C) (f : Str) : PySem.W.plainGet K C f = true := c.pg
structure Con (K : PySem.W.Frag) (C : Addr) (f : Str) (v : V) (u : Value) : Prop where
  at_ : PySem.W.findIn K (.ref C) f = some (some u)
  rel : RelV v u
  get : PySem.W.specialIn K u "__get__" = some none
  cp : PySem.W.copiedNames.contains f = false
structure Meth (K : PySem.W.Frag) (C : Addr) (m : Str) (f : Addr) : Prop where
  at_ : PySem.W.findIn K (.ref C) m = some (some (.ref f))
  fn : PySem.W.isFn K (.ref f) = true
  kp : PySem.W.keepIn K (.ref f) = true
section
variable {X : Cx} {pins : List (Addr × Obj)} {σ : St} {H : Hp} {s : Shared} {a C dx : Addr} {fs : List (Str × V)} {f : Str} {v : V} {A : Around} {E : Value → Shared → Prop}
end
section
variable {X : Cx} {o e value : Expr} {f : Str} {pos pos' tpos : Pos} {ta tv : TE}
end
section
variable {X : Cx} {pins : List (Addr × Obj)} {σ : St} {H : Hp} {s : Shared} {A : Around} {E : Value → Shared → Prop} {Q : Value → Shared → Prop} {c : Value} {b : Bool}
inductive TyOf (K : PySem.W.Frag) (H : Hp) : V → Value → Prop where
  | non : TyOf K H .non (.type "NoneType")
  | bl (x : Bool) : TyOf K H (.bl x) (.type "bool")
  | int (i : Int) : TyOf K H (.int i) (.type "int")
  | str (x : Str) : TyOf K H (.str x) (.type "str")
  | flt (x : UInt64) : TyOf K H (.flt x) (.type "float")
  | lst {a : Addr} {xs : List V} (e : H a = some (.lst xs)) : TyOf K H (.ref a) (.type "list")
  | frz {a : Addr} {o : Obj} {xs : List V} (e : H a = some (.frz o (.lst xs))) : TyOf K H (.ref a) (.type "list")
  | tup {a : Addr} {xs : List V} (e : H a = some (.tup xs)) : TyOf K H (.ref a) (.type "tuple")
  | dK {a : Addr} {kvs : List (Key × V)} (e : H a = some (.dK kvs)) : TyOf K H (.ref a) (.type "dict")
  | dT {a : Addr} {kvs : List (List Key × V)} (e : H a = some (.dT kvs)) : TyOf K H (.ref a) (.type "dict")
  | ins {a C dx : Addr} {fs : List (Str × V)} (e : H a = some (.ins C dx fs)) (cl : Cls K C) (ha : PySem.W.findIn K (.ref C) "__class__" = some (some (.builtin "object.__class__")))
      (hn : PySem.W.specialIn K (.builtin "object.__class__") "__get__" = some (some (.builtin "getset_descriptor.__get__"))) (htk : PySem.W.takesIn K (.builtin "object.__class__") = some true)
      (hm : PySem.W.mroIn K C (.type "object") = some true) : TyOf K H (.ref a) (.ref C)
theorem isinst_ok {x : V} {u t : Value} (I : Inv X pins σ H s) (rx : RelV x u) (ty : TyOf X.K H x t) (e : PySem.W.kitOne X.K t c = some b) (h : ∀ tk, Q (.bool b) { s with toks := tk }) :
    wpAny (model X.prog X.w) A (call (.builtin "isinstance") [u, c]) Q E s := by
  cases ty with
  | non => cases (show u = Value.none from rx); exact PySem.W.kia_one PySem.W.kitx_none I.kIn True.intro e (fun z => nomatch z) h
  | bl y => cases (show u = Value.bool y from rx); exact PySem.W.kia_one PySem.W.kitx_bool I.kIn True.intro e (fun z => nomatch z) h
  | int i => obtain ⟨t, q⟩ := (show ∃ t, u = Value.int i t from rx); cases q; exact PySem.W.kia_one PySem.W.kitx_int I.kIn True.intro e (fun z => nomatch z) h
  | str y => obtain ⟨t, q⟩ := (show ∃ t, u = Value.str y t from rx); cases q; exact PySem.W.kia_one PySem.W.kitx_str I.kIn True.intro e (fun z => nomatch z) h
  | flt y => obtain ⟨t, q⟩ := (show ∃ t, u = Value.float y t from rx); cases q; exact PySem.W.kia_one PySem.W.kitx_float I.kIn True.intro e (fun z => nomatch z) h
  | @lst a xs ea =>
    cases (show u = Value.ref a from rx)
    obtain ⟨_, _, n, _, h1⟩ := (show ObjOk X.prog X.w H s.heap a (.lst xs) from I.hok a _ ea)
    exact PySem.W.kia_one PySem.W.kitx_list I.kIn ⟨_, h1, rfl⟩ e (fun z => nomatch z) h
  | @frz a ob xs ea =>
    cases (show u = Value.ref a from rx)
    obtain ⟨_, _, _, n, _, h1⟩ := (show ObjOk X.prog X.w H s.heap a (.frz ob (.lst xs)) from I.hok a _ ea)
    exact PySem.W.kia_one PySem.W.kitx_list I.kIn ⟨_, h1, rfl⟩ e (fun z => nomatch z) h
  | @tup a xs ea =>
    cases (show u = Value.ref a from rx)
    obtain ⟨_, _, _, p⟩ := (show ObjOk X.prog X.w H s.heap a (.tup xs) from I.hok a _ ea)
    obtain ⟨o, h1, h2, _⟩ := p
    exact PySem.W.kia_one PySem.W.kitx_tuple I.kIn ⟨o, h1, h2⟩ e (fun z => nomatch z) h
  | @dK a kvs ea =>
    cases (show u = Value.ref a from rx)
    obtain ⟨_, _, vs, _, p⟩ := (show ObjOk X.prog X.w H s.heap a (.dK kvs) from I.hok a _ ea)
    obtain ⟨o, es, ep, h1, h2, _⟩ := p
    exact PySem.W.kia_one PySem.W.kitx_dict I.kIn ⟨o, h1, h2.1⟩ e (fun z => nomatch z) h
  | @dT a kvs ea =>
    cases (show u = Value.ref a from rx)
    obtain ⟨_, _, xs, _, o, es, ep, h1, h2, _⟩ := (show ObjOk X.prog X.w H s.heap a (.dT kvs) from I.hok a _ ea)
    exact PySem.W.kia_one PySem.W.kitx_dict I.kIn ⟨o, h1, h2.1⟩ e (fun z => nomatch z) h
  | @ins a C dx fs ea cl ha hn htk hm =>
    cases (show u = Value.ref a from rx)
    obtain ⟨mA, O, _⟩ := ins_get I.hok ea
    obtain ⟨od, J, _⟩ := O.look
    exact PySem.W.kia_one (PySem.W.kitx_own (cl.get _) cl.hd ha hn htk hm) I.kIn J e (fun z => nomatch z) h
end
end L2
namespace L2
open PySem PySem.Spec PyProof.Rows
structure Room (k : Nat) (A : Around) : Prop where
  hd : A.handled = none
  dp : A.depth + 3 * k + 5 < recursionLimit
  un : A.units + 16 * k + 200 < cLine
theorem Room.mono {j k : Nat} {A : Around} (r : Room k A) (h : j ≤ k) : Room j A := ⟨r.hd, by have := r.dp; omega, by have := r.un; omega⟩
theorem Room.deeper {k : Nat} {A : Around} (r : Room (k + 1) A) (env : Env) : Room k (A.deeper env) :=
  ⟨r.hd, by have := r.dp; show A.depth + 1 + 3 * k + 5 < _; omega, by have := r.un; show A.units + 3 + 16 * k + 200 < _; omega⟩
theorem Room.in1 {k : Nat} {A : Around} (r : Room (k + 1) A) : Room k A.in1 :=
  ⟨r.hd, by have := r.dp; show A.depth + 3 * k + 5 < _; omega, by have := r.un; show A.units + 1 + 16 * k + 200 < _; omega⟩
theorem make_depth {A : Around} {C : Addr} {us : List Value} {kw : List (Str × Value)} : (A.under (.builtin "type.__call__" ⟨.ref C :: us, kw⟩)).depth = A.depth + 1 := by
  first | rfl | simp [Around.under, Code.weight, Code.isCreation, Code.isGuard, Code.isCaller, Code.frames, Code.isFrame, guardIds]
theorem make_units {A : Around} {C : Addr} {us : List Value} {kw : List (Str × Value)} : (A.under (.builtin "type.__call__" ⟨.ref C :: us, kw⟩)).units = A.units + 1 := by
  first | rfl | simp [Around.under, Code.cUnits, Code.frames, Code.isFrame]
theorem Room.make {k : Nat} {A : Around} (r : Room (k + 1) A) (C : Addr) (us : List Value) (kw : List (Str × Value)) : Room k (A.under (.builtin "type.__call__" ⟨.ref C :: us, kw⟩)) :=
  ⟨r.hd, by have := r.dp; rw [make_depth]; omega, by have := r.un; rw [make_units]; omega⟩
theorem Room.depth {k : Nat} {A : Around} (r : Room k A) : A.depth < recursionLimit := by have := r.dp; omega
theorem Room.units {k : Nat} {A : Around} (r : Room k A) : A.units + 64 < cLine := by have := r.un; omega
def tNil : TA := fun _ H Q => Q [] H
def tCons (ta : TE) (tr : TA) : TA := fun σ H Q => ta σ H fun x H1 => tr σ H1 fun xs H2 => Q (x :: xs) H2
section
variable {X : Cx} {e : Expr} {es : List Expr} {te : TE} {t : TA} {pos : Pos}
theorem pa_nil : PA X [] tNil := fun _ _ _ _ H Q I h => Calls.spliced_nil ⟨[], H, I, .nil, h⟩
theorem pa_cons (ha : PE X e te) (hr : PA X es t) (hs : starEach (e :: es) X.env = (false, eval e X.env) :: starEach es X.env := by rfl) : PA X (e :: es) (tCons te t) := by
  intro pos pins s σ H Q I h
  rw [hs]
  show wpAny _ _ (spliced ((false, eval e X.env) :: backTo pos (starEach es X.env))) _ _ s
  refine Calls.spliced_cons (thn (ha pins s σ H _ I h) fun u s1 ⟨x, H1, I1, r1, q1⟩ => ?_)
  exact thn (hr pos pins s1 σ H1 _ I1 q1) fun us s2 ⟨xs, H2, I2, r2, q2⟩ => ⟨x :: xs, H2, I2, .cons r1 r2, q2⟩
def tTup (t : TA) : TE := fun σ H Q => t σ H fun xs H1 => xs.length ≤ sizeLine ∧ ∀ p, H1 p = none → Q (.ref p) (upd H1 p (.tup xs))
def tLst (t : TA) : TE := fun σ H Q => t σ H fun xs H1 => xs.length ≤ sizeLine ∧ ∀ p, H1 p = none → Q (.ref p) (upd H1 p (.lst xs))
theorem pe_tup {x1} (h : PA X es t) : PE X (.Tuple es x1 pos) (tTup t) := by
  intro pins s σ H Q I hq
  refine wpAny_Tuple_spliced (thn (h pos pins s σ H _ I hq) fun us s1 ⟨xs, H1, I1, r, z, q⟩ => ⟨by rw [← r.length]; exact z, ?_⟩)
  have hf : H1 s1.heap.objs.size = none := I1.hok.fresh (Nat.le_refl _)
  refine ⟨.ref s1.heap.objs.size, upd H1 s1.heap.objs.size (.tup xs), I1.laid (t' := s1.toks) (fun b u e => Heap.get?_push_of_some _ e) (Nat.le_refl _) ?_, rfl, q _ hf⟩
  exact ⟨z, us, r, ⟨_, Heap.get?_push_size _ rfl, rfl, _, rfl⟩⟩
theorem pe_lst (h : PA X es t) : PE X (.List es pos) (tLst t) := by
  intro pins s σ H Q I hq
  refine wpAny_List_spliced (thn (h pos pins s σ H _ I hq) fun us s1 ⟨xs, H1, I1, r, z, q⟩ => ⟨by rw [← r.length]; exact z, ?_⟩)
  have hf : H1 s1.heap.objs.size = none := I1.hok.fresh (Nat.le_refl _)
  refine ⟨.ref s1.heap.objs.size, upd H1 s1.heap.objs.size (.lst xs), I1.laid (t' := s1.toks) (fun b u e => Heap.get?_push_of_some _ e) (Nat.le_refl _) ?_, rfl, q _ hf⟩
  exact ⟨z, us, 0, r, Heap.get?_push_size _ rfl⟩
end
abbrev Sp := List V → Hp → VK → XK → Prop
abbrev CXT := List Env → Hp → Shared → XK → Value → Shared → Prop
structure Env0 (P : Program) (w : World) (K : PySem.W.Frag) (mg : Str → Option Value) (base : Heap) (A : Around) (outer : List Env) (s : Shared) (H : Hp) : Prop where
  frames : A.frames = some outer
  mod : Mod K mg base
  bs : ∀ b o, base.get? b = some o → s.heap.get? b = some o ∧ H b = none
  bsz : base.objs.size ≤ s.heap.objs.size
  funs : s.heap.FunFrames base outer
  frf : ∀ b ∈ frs outer, H b = none
  hok : HOk P w H s.heap
  bare : AllBare s.gens
def CE (outer : List Env) (P : Program) (w : World) (H : Hp) (s : Shared) (Q : VK) (u : Value) (s' : Shared) : Prop :=
  ∃ v H', s'.os = s.os ∧ AllBare s'.gens ∧ Un (frs outer) [] H H' s.heap s'.heap ∧ HOk P w H' s'.heap ∧ RelV v u ∧ Q v H'
def CR (CX : CXT) (outer : List Env) (P : Program) (w : World) (H : Hp) (s : Shared) (Q : VK) (E : XK) (r : Result) (s' : Shared) : Prop :=
  match r with
  | .ok (.ret u) => CE outer P w H s Q u s'
  | .ok _ => False
  | .error e => CX outer H s E e s'
structure FnOk (P : Program) (w : World) (K : PySem.W.Frag) (mg : Str → Option Value) (base : Heap) (CX : CXT) (k : Nat) (f : Addr) (fd : FuncData) (ps : List Str) (sp : Sp) : Prop where
  len : ∀ vs H Q E, sp vs H Q E → vs.length = ps.length
  run : ∀ (A : Around) (outer : List Env) (s : Shared) (H : Hp) (args : Args) (us : List Value) (vs : List V) (Q : VK) (E : XK), Room k A → Env0 P w K mg base A outer s H → BindsTo s fd args (ps.zip us) → Vals vs us → sp vs H Q E →
    codeAny (model P w) A (.call (.ref f) args) (CR CX outer P w H s Q E) s
theorem FnOk.mono {P : Program} {w : World} {K : PySem.W.Frag} {mg : Str → Option Value} {base : Heap} {CX : CXT} {j k : Nat} {f : Addr} {fd : FuncData} {ps : List Str} {sp : Sp} (F : FnOk P w K mg base CX j f fd ps sp) (h : j ≤ k) :
    FnOk P w K mg base CX k f fd ps sp := ⟨F.len, fun A outer s H args us vs Q E hr => F.run A outer s H args us vs Q E (hr.mono h)⟩
theorem FnOk.imp {P : Program} {w : World} {K : PySem.W.Frag} {mg : Str → Option Value} {base : Heap} {CX : CXT} {k : Nat} {f : Addr} {fd : FuncData} {ps : List Str} {sp sp' : Sp} (F : FnOk P w K mg base CX k f fd ps sp)
    (h : ∀ vs H Q E, sp' vs H Q E → sp vs H Q E) : FnOk P w K mg base CX k f fd ps sp' :=
  ⟨fun vs H Q E q => F.len vs H Q E (h _ _ _ _ q), fun A outer s H args us vs Q E hr he hb hv hs => F.run A outer s H args us vs Q E hr he hb hv (h _ _ _ _ hs)⟩
theorem Env0.make {P : Program} {w : World} {K : PySem.W.Frag} {mg : Str → Option Value} {base : Heap} {A : Around} {outer : List Env} {s : Shared} {H : Hp} (e : Env0 P w K mg base A outer s H) (C : Addr) (us : List Value) (kw : List (Str × Value)) :
    Env0 P w K mg base (A.under (.builtin "type.__call__" ⟨.ref C :: us, kw⟩)) outer s H := ⟨by first | exact e.frames | (simpa [Around.under, Code.envs, Code.isFrame, pushEnvs] using e.frames), e.mod, e.bs, e.bsz, e.funs, e.frf, e.hok, e.bare⟩
theorem Env0.in1 {P : Program} {w : World} {K : PySem.W.Frag} {mg : Str → Option Value} {base : Heap} {A : Around} {outer : List Env} {s : Shared} {H : Hp} (e : Env0 P w K mg base A outer s H) :
    Env0 P w K mg base A.in1 outer s H := ⟨e.frames, e.mod, e.bs, e.bsz, e.funs, e.frf, e.hok, e.bare⟩
section
variable {X : Cx} {pins : List (Addr × Obj)} {σ : St} {H : Hp} {s s' : Shared}
theorem Inv.env0 (I : Inv X pins σ H s) : Env0 X.prog X.w X.K X.mg X.base X.A X.stack s H :=
  ⟨I.ok.frames, I.ok.mod, I.bs, Nat.le_trans I.ok.bsz I.sz, I.stack, I.stkFree, I.hok, I.bare⟩
theorem Inv.after {Q : VK} {u : Value} (I : Inv X pins σ H s) (h : CE X.stack X.prog X.w H s Q u s') : EP X pins σ Q u s' := by
  obtain ⟨v, H', os, bare, un, hok, r, q⟩ := h
  obtain ⟨hh, g, d, t, os'⟩ := s'
  obtain rfl : os' = s.os := os
  exact ⟨v, H', I.call (h' := hh) (g' := g) (d' := d) (t' := t) (ch := []) un hok bare (fun b z => absurd z (by simp)), r, q⟩
end
def tCall (sp : Sp) (dvs : List V) (E : XK) (t : TA) : TE := fun σ H Q => t σ H fun vs H1 => sp (vs ++ dvs) H1 Q E
def Binds (K : PySem.W.Frag) (fd : FuncData) (ps : List Str) (ds : List Value) : Prop :=
  ∀ (s : Shared) (us : List Value), K.In s.heap → (us ++ ds).length = ps.length → BindsTo s fd ⟨us, []⟩ (ps.zip (us ++ ds))
theorem Binds.all {K : PySem.W.Frag} {fd : FuncData} {ps : List Str} (h : ∀ us : List Value, us.length = ps.length → bindArgs fd ⟨us, []⟩ = pure (ps.zip us)) : Binds K fd ps [] := fun s us _ hl => by
  rw [List.append_nil] at hl ⊢
  exact .of_eq (h us hl)
def Passes (CX : CXT) (X : Cx) (E : XK) : Prop := ∀ (pins : List (Addr × Obj)) (σ : St) (H : Hp) (s : Shared) (e : Value) (s' : Shared), Inv X pins σ H s → CX X.stack H s E e s' → X.xe e s'
section
variable {X : Cx} {CX : CXT} {k : Nat} {f C : Addr} {fd : FuncData} {ps : List Str} {sp : Sp} {dvs : List V} {ds : List Value} {E : XK} {x m : Str} {p pos apos : Pos} {e o : Expr} {es : List Expr} {ta : TE} {t : TA}
theorem run_fn {pins : List (Addr × Obj)} {σ : St} {H : Hp} {s : Shared} {Q : VK} {us : List Value} {vs : List V} (F : FnOk X.prog X.w X.K X.mg X.base CX k f fd ps sp) (hr : Room k X.A) (hb : Binds X.K fd ps ds) (hd : Vals dvs ds) (hx : Passes CX X E)
    (I : Inv X pins σ H s) (r : Vals vs us) (h : sp (vs ++ dvs) H Q E) : wpAny (model X.prog X.w) X.A (call (.ref f) us) (EP X pins σ Q) X.xe s := by
  have r2 : Vals (vs ++ dvs) (us ++ ds) := r.append hd
  have hl : (us ++ ds).length = ps.length := by rw [← r2.length]; exact F.len _ _ _ _ h
  refine wpAny_call (codeAny_mono (F.run X.A X.stack s H ⟨us, []⟩ (us ++ ds) (vs ++ dvs) Q E hr I.env0 (hb s us I.kIn hl) r2 h) fun r s' hq => ?_)
  cases r with
  | error e => exact hx pins σ H s e s' I hq
  | ok fl =>
    cases fl with
    | ret u => exact I.after hq
    | next => exact False.elim hq
    | brk => exact False.elim hq
    | cont => exact False.elim hq
theorem pe_call (F : FnOk X.prog X.w X.K X.mg X.base CX k f fd ps sp) (hr : Room k X.A) (hg : Gl X x) (hm : X.mg x = some (.ref f)) (hk : PySem.W.keepIn X.K (.ref f) = true) (hb : Binds X.K fd ps ds) (hd : Vals dvs ds) (hx : Passes CX X E)
    (ha : PA X (e :: es) t) (hdb : (x == ("__debug__" : Str)) = false := by decide) (he : starEach (e :: es) X.env = (false, eval e X.env) :: starEach es X.env := by rfl) (hpl : (backTo pos (starEach es X.env)).any (·.1) = false := by rfl) :
    PE X (.Call (.Name x p) (e :: es) [] pos) (tCall sp dvs E t) := by
  intro pins s σ H Q I h
  refine wpAny_Call_Name_kw (ld_glob I hg hm ?_ hdb)
  refine PySem.W.callWith_K (h₀ := X.base) I.ok.mod.kin hk (thn (ha pos pins s σ H _ I h) fun us s1 ⟨vs, H1, I1, r, q⟩ => ⟨I1.kIn, ?_⟩) he hpl
  exact run_fn F hr hb hd hx I1 r q
structure Mk (K : PySem.W.Frag) (C f : Addr) : Prop where
  makes : PySem.W.makesIn K C = true
  init : PySem.W.findIn K (.ref C) "__init__" = some (some (.ref f))
  fn : PySem.W.isFn K (.ref f) = true
  kp : PySem.W.keepIn K (.ref C) = true
end
section
variable {X : Cx} {CX : CXT} {k : Nat} {f C : Addr} {fd : FuncData} {ps ks : List Str} {sp : Sp} {E : XK} {x m : Str} {p pos apos kpos : Pos} {e o : Expr} {es : List Expr} {kws : List Keyword} {te ta : TE} {t tk : TA} {nm : Option Str}
structure KBinds (K : PySem.W.Frag) (fd : FuncData) (ps ks : List Str) (g : List Value → List Value → List Value) (gV : List V → List V → List V) : Prop where
  to : ∀ (s : Shared) (us ws : List Value), K.In s.heap → (g us ws).length = ps.length → BindsTo s fd ⟨us, ks.zip ws⟩ (ps.zip (g us ws))
  rel : ∀ {vs : List V} {us : List Value} {zs : List V} {ws : List Value}, Vals vs us → Vals zs ws → Vals (gV vs zs) (g us ws)
variable {g : List Value → List Value → List Value} {gV : List V → List V → List V}
end
structure FnScope (N P : List Str) (sc : Scope) : Prop where
  kind : sc.kind = .function
  co : sc.isCoroutine = false
  gen : sc.isGenerator = false
  nd : N.Nodup
  pre : N.take P.length = P
  par : ∀ x ∈ P, sc.names.lookup x = some .local ∨ sc.names.lookup x = some .cell
  nofree : ∀ y ∈ sc.names, y.2 ≠ .free
theorem bindL_out {kindOf : Str → Option NameKind} {x : Str} : ∀ {binds : List (Str × Value)} {m : Str → Option Value}, (∀ v, (x, v) ∉ binds) → bindL kindOf binds m x = m x
  | [], _, _ => rfl
  | (n, v) :: r, m, h => by
    unfold bindL
    rw [bindL_out fun w hw => h w (List.mem_cons_of_mem _ hw)]
    split
    · have : x ≠ n := by rintro rfl; exact h v List.mem_cons_self
      simp [this]
    · rfl
theorem bindC_out {kindOf : Str → Option NameKind} {x : Str} : ∀ {binds : List (Str × Value)} {m : Str → Option Value}, (∀ v, (x, v) ∉ binds) → bindC kindOf binds m x = m x
  | [], _, _ => rfl
  | (n, v) :: r, m, h => by
    unfold bindC
    rw [bindC_out fun w hw => h w (List.mem_cons_of_mem _ hw)]
    split
    · rfl
    · have : x ≠ n := by rintro rfl; exact h v List.mem_cons_self
      simp [this]
theorem bindL_get {kindOf : Str → Option NameKind} {x : Str} {v : Value} : ∀ {P : List Str} {vs : List Value} {i : Nat} {m : Str → Option Value}, P.Nodup → P[i]? = some x → vs[i]? = some v → kindOf x = some .local →
    bindL kindOf (P.zip vs) m x = some v
  | [], _, _, _, _, h, _, _ => by simp at h
  | _ :: _, [], _, _, _, _, h, _ => by simp at h
  | p :: P, w :: vs, 0, m, nd, h1, h2, hk => by
    simp at h1 h2; subst h1; subst h2
    show bindL kindOf ((p, w) :: P.zip vs) m p = _
    unfold bindL
    rw [bindL_out fun v hv => (List.nodup_cons.mp nd).1 (List.of_mem_zip hv).1, if_pos hk]
    simp
  | p :: P, w :: vs, i + 1, m, nd, h1, h2, hk => by
    show bindL kindOf ((p, w) :: P.zip vs) m x = _
    unfold bindL
    exact bindL_get (i := i) (List.nodup_cons.mp nd).2 (by simpa using h1) (by simpa using h2) hk
theorem bindC_get {kindOf : Str → Option NameKind} {x : Str} {v : Value} : ∀ {P : List Str} {vs : List Value} {i : Nat} {m : Str → Option Value}, P.Nodup → P[i]? = some x → vs[i]? = some v → kindOf x ≠ some .local →
    bindC kindOf (P.zip vs) m x = some v
  | [], _, _, _, _, h, _, _ => by simp at h
  | _ :: _, [], _, _, _, _, h, _ => by simp at h
  | p :: P, w :: vs, 0, m, nd, h1, h2, hk => by
    simp at h1 h2; subst h1; subst h2
    show bindC kindOf ((p, w) :: P.zip vs) m p = _
    unfold bindC
    rw [bindC_out fun v hv => (List.nodup_cons.mp nd).1 (List.of_mem_zip hv).1, if_neg hk]
    simp
  | p :: P, w :: vs, i + 1, m, nd, h1, h2, hk => by
    show bindC kindOf ((p, w) :: P.zip vs) m x = _
    unfold bindC
    exact bindC_get (i := i) (List.nodup_cons.mp nd).2 (by simpa using h1) (by simpa using h2) hk
def start (N : List Str) (vs : List V) : St := vs.map some ++ List.replicate (N.length - vs.length) none
def cxOf (CX : CXT) (P : Program) (w : World) (K : PySem.W.Frag) (mg : Str → Option Value) (base : Heap) (N : List Str) (qual : Str) (scope : Scope) (f : Addr) (cd : Value) (A : Around) (outer : List Env) (s : Shared) (H : Hp) (E : XK) : Cx where
  prog := P
  w := w
  K := K
  mg := mg
  base := base
  A := A.deeper (envOfC qual scope s.heap.objs.size f cd)
  N := N
  s₀ := s
  H₀ := H
  env := envOfC qual scope s.heap.objs.size f cd
  outer := outer
  stack := envOfC qual scope s.heap.objs.size f cd :: outer
  ex := []
  calm := true
  fn := fun _ => true
  pn := []
  xe := fun e s' => wpAny (model P w) (A.deeper (envOfC qual scope s.heap.objs.size f cd)) (leaving (envOfC qual scope s.heap.objs.size f cd) e) (fun _ s'' => CX outer H s E e s'') (fun e' s'' => CX outer H s E e' s'') s'
theorem cell_has {sc : Scope} {n : Nat} {x : Str} (h : sc.names.lookup x = some .cell) : ∃ c, (cellsFrom n sc.names []).lookup x = some c := by
  have q := PySem.W.cellsFrom_some sc.names n [] (.inl h)
  exact Option.isSome_iff_exists.mp q
theorem inv_start {CX : CXT} {P : Program} {w : World} {K : PySem.W.Frag} {mg : Str → Option Value} {base : Heap} {N ps : List Str} {qual : Str} {scope : Scope} {f : Addr} {cd : Value} {A : Around} {outer : List Env} {s s1 : Shared} {H : Hp} {E : XK} {us : List Value} {vs : List V}
    (S : FnScope N ps scope) (hd : A.handled = none) (e0 : Env0 P w K mg base A outer s H) (hl : vs.length = ps.length) (r : Vals vs us)
    (x : InCallC s s.heap.objs.size (bindL (envOfC qual scope s.heap.objs.size f cd).kindOf (ps.zip us) fun _ => none) (cellsFrom (s.heap.objs.size + 1) scope.names []) (bindC (envOfC qual scope s.heap.objs.size f cd).kindOf (ps.zip us) fun _ => none) s1) :
    Inv (cxOf CX P w K mg base N qual scope f cd A outer s H E) [] (start N vs) H s1 := by
  have hpl : ps.length ≤ N.length := by have := congrArg List.length S.pre; rw [List.length_take] at this; omega
  obtain ⟨h1, tk, rfl, hk⟩ := x.done
  have noA : ∀ b : Addr, b ∉ (cxOf CX P w K mg base N qual scope f cd A outer s H E).ex := fun b z => absurd (show b ∈ ([] : List Addr) from z) (by simp)
  refine ⟨⟨e0.mod, S.kind, rfl, rfl, Nat.le_refl _, fun y z c h1 h2 => ?_, fun y hy => ?_, fun y c _ h => ?_, fun _ => hd, Around.frames_deeper e0.frames, .inr ⟨rfl, rfl⟩, fun b z => absurd z (noA b), e0.bs, e0.bsz, fun b _ _ => noA b, fun b z => absurd z (noA b), e0.funs, e0.frf⟩,
    rfl, e0.bare, Un.kept hk, ⟨_, x.toInCall.ns, fun i y v h1 h2 h3 => ?_⟩, fun y c h => ⟨_, x.cell y c h⟩, e0.hok.fresh (Nat.le_refl _), fun y c h => ?_, fun p hp => absurd (show p ∈ ([] : List (Addr × Obj)) from hp) (by simp), e0.hok.kept hk, ?_⟩
  · exact name_of_addr x.apart (PySem.mem_of_lookup h1) (PySem.mem_of_lookup h2)
  · have hy : scope.names.lookup y = some .cell ∨ scope.names.lookup y = some .free := hy
    rcases hy with hy | hy
    · exact cell_has hy
    · exact absurd rfl (S.nofree _ (PySem.mem_of_lookup hy))
  · exact Nat.le_of_lt (x.above y c (PySem.mem_of_lookup h))
  · have hi : i < vs.length := by
      unfold start at h2
      by_cases hi : i < vs.length
      · exact hi
      · rw [List.getElem?_append_right (by simpa using hi)] at h2
        rw [List.getElem?_replicate] at h2
        split at h2 <;> cases h2
    have ha : vs[i]? = some v := by
      unfold start at h2
      rw [List.getElem?_append_left (by simpa using hi), List.getElem?_map] at h2
      cases e : vs[i]? with
      | none => rw [e] at h2; cases h2
      | some a => rw [e] at h2; cases h2; rfl
    obtain ⟨u, hu, rv⟩ := r.get ha
    have hp : ps[i]? = some y := by
      rw [← S.pre, List.getElem?_take_of_lt (by omega)]; exact h1
    have ndP : ps.Nodup := by rw [← S.pre]; exact S.nd.sublist (List.take_sublist _ _)
    refine ⟨u, rv, ?_⟩
    rcases S.par y (List.mem_of_getElem? hp) with k | k
    · exact .inl ⟨k, bindL_get ndP hp hu k⟩
    · obtain ⟨c, e⟩ := cell_has (n := s.heap.objs.size + 1) k
      refine .inr ⟨.inl k, c, e, ?_⟩
      have q := x.cell y c e
      rw [bindC_get ndP hp hu (by show scope.names.lookup y ≠ _; rw [k]; decide)] at q
      exact q
  · exact e0.hok.fresh (Nat.le_of_lt (x.above y c (PySem.mem_of_lookup h)))
  · unfold start
    show _ = N.length
    rw [List.length_append, List.length_map, List.length_replicate]
    omega
theorem fn_of {CX : CXT} {P : Program} {w : World} {K : PySem.W.Frag} {mg : Str → Option Value} {base : Heap} {k : Nat} {f : Addr} {name qual : Str} {params : Arguments} {body : List Stmt} {scope : Scope} {dV kV doc pm cdv ct oc : Value} {an od : Option Addr}
    {osl : Array (Option Value)} {N ps : List Str} {sp : Sp} (lk : K.lookup f = some ⟨oc, od, .func (PySem.W.fnOf name qual params body scope dV kV doc pm an cdv ct), osl⟩) (hcd : PySem.W.codeIn K cdv qual = true) (S : FnScope N ps scope)
    (len : ∀ vs H Q E, sp vs H Q E → vs.length = ps.length)
    (hbody : ∀ (A : Around) (outer : List Env) (s : Shared) (H : Hp) (vs : List V) (Q : VK) (E : XK), Room k (A.deeper (envOfC qual scope s.heap.objs.size f cdv)) → sp vs H Q E →
      ∃ t, PSs (cxOf CX P w K mg base N qual scope f cdv A outer s H E) body t ∧ t { nx := fun _ H' => Q .non H', rt := Q } (start N vs) H) :
    FnOk P w K mg base CX (k + 1) f (PySem.W.fnOf name qual params body scope dV kV doc pm an cdv ct) ps sp := by
  refine ⟨len, fun A outer s H args us vs Q E hr e0 hb r hsp => ?_⟩
  have hl := len _ _ _ _ hsp
  have KX : K.In s.heap := e0.mod.kin.keeps fun b o e => (e0.bs b o e).1
  have lim : s.heap.NoLimit := e0.mod.nolimit.keeps fun b o e => (e0.bs b o e).1
  have hkind : ∀ y ∈ ps.zip us, scope.names.lookup y.1 = some .local ∨ (scope.names.lookup y.1 = some .cell ∧ ((cellsFrom (s.heap.objs.size + 1) scope.names []).lookup y.1).isSome = true) := fun ⟨n, v⟩ hy => by
    rcases S.par n (List.of_mem_zip hy).1 with q | q
    · exact .inl q
    · exact .inr ⟨q, PySem.W.cellsFrom_some _ _ _ (.inl q)⟩
  refine codeAny_call_function hr.depth (KX _ _ lk) rfl S.co S.gen rfl (PySem.W.codeRec_of KX hcd) (hb _ _ _ _ ?_)
  refine wpAny_newFunctionEnv_cells S.kind hkind fun env he s1 x => ?_
  subst he
  refine ⟨lim.keeps x.toInCall.keep, codeAny_func ?_⟩
  obtain ⟨t, ht, hq⟩ := hbody A outer s H vs Q E (hr.deeper _) hsp
  have I : Inv (cxOf CX P w K mg base N qual scope f cdv A outer s H E) [] (start N vs) H s1 := inv_start S hr.hd e0 hl r x
  refine wpAny_mono (ht [] s1 (start N vs) H _ I hq) (fun fl s' hs => ?_) fun e s' hs => hs
  have fin : ∀ {σ' : St} {H' : Hp} {v : V} {u : Value}, Inv (cxOf CX P w K mg base N qual scope f cdv A outer s H E) [] σ' H' s' → RelV v u → Q v H' → CE outer P w H s Q u s' :=
    fun {σ' H' v u} J rv q => ⟨v, H', J.os, J.bare, J.base, J.hok, rv, q⟩
  cases fl with
  | ret u =>
    obtain ⟨v, σ', H', J, rv, q⟩ := hs
    exact fin J rv q
  | next =>
    obtain ⟨σ', H', J, q⟩ := hs
    exact fin (v := V.non) (u := Value.none) J rfl q
  | brk =>
    obtain ⟨_, _, _, q⟩ := hs
    exact False.elim q
  | cont =>
    obtain ⟨_, _, _, q⟩ := hs
    exact False.elim q
end L2
namespace L2
open PySem PySem.Spec PyProof.Rows
section
variable {X : Cx} {x : Str} {p pos : Pos} {e : Expr} {es : List Expr} {t : TA} {id T : String} {r : List V → Hp → VK → Prop}
def tCB (r : List V → Hp → VK → Prop) (t : TA) : TE := fun σ H Q => t σ H fun vs H1 => r vs H1 Q
theorem pe_callB (hc : CallR X (.builtin id) r) (hg : Gl X x) (hm : X.mg x = none) (hv : bootBuiltins x = some (.builtin id)) (ha : PA X (e :: es) t) (hn : x ≠ "__name__" := by decide) (hdb : (x == ("__debug__" : Str)) = false := by decide)
    (he : starEach (e :: es) X.env = (false, eval e X.env) :: starEach es X.env := by rfl) (hpl : (backTo pos (starEach es X.env)).any (·.1) = false := by rfl) : PE X (.Call (.Name x p) (e :: es) [] pos) (tCB r t) := by
  intro pins s σ H Q I h
  refine wpAny_Call_Name_kw (ld_blt I hg hm hv ?_ hn hdb)
  exact PyProof.Rows.callWith_builtin1 (thn (ha pos pins s σ H _ I h) fun us s1 ⟨vs, H1, I1, r1, q1⟩ => hc pins s1 σ H1 vs us Q I1 r1 q1) he hpl
end
end L2
namespace HT
open PySem PyProof.Rows
section
open PySem.SeqAt
open PySem.AutoSeq1 (wpAny_loadPart')
open PySem.MeetsSeq PySem.MeetsSeq2 PySem.MeetsSeq3
end
section
variable {prog : Program} {w : World} {A : Around} {E : Value → Shared → Prop} {s : Shared}
theorem cat_tup {t b : Addr} {vs ws : List Value} {Q : Value → Shared → Prop} (ht : IsTup s.heap t vs.toArray) (hb : IsTup s.heap b ws.toArray) (hv : vs ≠ [])
    (h1 : ws = [] → Q (.ref t) s) (h2 : ws ≠ [] → Q (.ref s.heap.objs.size) { s with heap := s.heap.push { cls := .type "tuple", data := .seq (vs ++ ws).toArray } })
    (hsz : vs.length + ws.length ≤ sizeLine) : wpAny (model prog w) A (binaryOp .Add (.ref t) (.ref b)) Q E s := by
  obtain ⟨⟨cls, dd, data, sl⟩, ho, hc, n, hd⟩ := id ht
  obtain ⟨⟨cls2, dd2, data2, sl2⟩, ho2, hc2, n2, hd2⟩ := id hb
  simp only at hc hd hc2 hd2
  subst hc hd hc2 hd2
  have e : vs.toArray ++ ws.toArray = (vs ++ ws).toArray := by simp
  by_cases hw : ws = []
  · exact concat_meets ⟨_, ho, rfl⟩ ⟨_, ho2, rfl⟩ noFill_tuple_add seq_tuple_add PySem.F.slot_tuple_add PySem.F.entry_tuple_add (PySem.F.args_tuple_add_2 _ _)
      (tuple_addW1 t b vs.toArray ws.toArray n n2 dd dd2 sl sl2 (by simpa using hv) (by simp [hw])) ⟨ho, ho2, h1 hw⟩
  · refine concat_meets ⟨_, ho, rfl⟩ ⟨_, ho2, rfl⟩ noFill_tuple_add seq_tuple_add PySem.F.slot_tuple_add PySem.F.entry_tuple_add (PySem.F.args_tuple_add_2 _ _)
      (tuple_addW2 t b vs.toArray ws.toArray n n2 dd dd2 sl sl2 (by simpa using hv) (by simpa using hw) (by rw [List.size_toArray, List.size_toArray]; exact hsz)) ⟨ho, ho2, ?_⟩
    rw [e]
    exact h2 hw
def sIx (n d : Nat) : Option Int → Nat
  | none => d
  | some v => if v < 0 then (v + (n : Int)).toNat else min v.toNat n
theorem sIx_none (n d : Nat) : sIx n d none = d := rfl
theorem sIx_nat (n d k : Nat) : sIx n d (some (k : Int)) = min k n := by
  show (if (k : Int) < 0 then ((k : Int) + (n : Int)).toNat else min (k : Int).toNat n) = min k n
  rw [if_neg (by omega), Int.toNat_natCast]
end
end HT
namespace L2
open PySem PySem.Spec PyProof.Rows
abbrev TO := St → Hp → (Option Int → Hp → Prop) → Prop
def PO (X : Cx) (e : Option Expr) (t : TO) : Prop :=
  ∀ (pins : List (Addr × Obj)) (s : Shared) (σ : St) (H : Hp) (Q : Option Int → Hp → Prop), Inv X pins σ H s → t σ H Q →
    wpAny (model X.prog X.w) X.A (evalPart e X.env) (fun u s' => ∃ o H', Inv X pins σ H' s' ∧ IsPart u o ∧ Q o H') X.xe s
def tNoPart : TO := fun _ H Q => Q none H
def tPart (t : TE) : TO := fun σ H Q => t σ H fun x H1 => ∃ i, x = .int i ∧ Q (some i) H1
section
variable {X : Cx} {e : Expr} {te : TE} {lo hi : Option Expr} {tl th : TO} {pos p2 : Pos}
theorem po_none : PO X none tNoPart := by
  intro pins s σ H Q I h
  rw [evalPart_none]
  exact wpAny_pure ⟨none, H, I, .none, h⟩
theorem po_some (h : PE X e te) : PO X (some e) (tPart te) := by
  intro pins s σ H Q I hw
  rw [evalPart_some]
  refine thn (h pins s σ H _ I hw) fun u s1 ⟨x, H1, I1, r1, q1⟩ => ?_
  obtain ⟨i, rfl, q⟩ := q1
  obtain ⟨t, rfl⟩ := r1
  exact ⟨some i, H1, I1, .int i t, q⟩
def SlR (X : Cx) (r : V → Option Int → Option Int → Hp → VK → Prop) : Prop :=
  ∀ (pins : List (Addr × Obj)) (s : Shared) (σ : St) (H : Hp) (x : V) (v vl vu : Value) (lo hi : Option Int) (sl : Addr) (Q : VK), Inv X pins σ H s → RelV x v → s.heap.IsSliceOf sl vl vu .none → IsPart vl lo → IsPart vu hi → r x lo hi H Q →
    ∃ T id, typeLookup (.type T) "__getitem__" = pure (some (.builtin id)) ∧ s.TypeIs v T ∧ wpAny (model X.prog X.w) X.A (getItem v (.ref sl)) (EP X pins σ Q) X.xe s
theorem SlR.or {r r' : V → Option Int → Option Int → Hp → VK → Prop} (h : SlR X r) (h' : SlR X r') : SlR X (fun x lo hi H Q => r x lo hi H Q ∨ r' x lo hi H Q) := by
  intro pins s σ H x v vl vu lo hi sl Q I rx hs pl pu q
  rcases q with q | q
  · exact h pins s σ H x v vl vu lo hi sl Q I rx hs pl pu q
  · exact h' pins s σ H x v vl vu lo hi sl Q I rx hs pl pu q
def tSl (r : V → Option Int → Option Int → Hp → VK → Prop) (te : TE) (tl th : TO) : TE := fun σ H Q => te σ H fun x H1 => tl σ H1 fun l H2 => th σ H2 fun u H3 => r x l u H3 Q
theorem pe_slice {r : V → Option Int → Option Int → Hp → VK → Prop} (hr : SlR X r) (he : PE X e te) (hl : PO X lo tl) (hu : PO X hi th) : PE X (.Subscript e (.Slice lo hi none p2) pos) (tSl r te tl th) := by
  intro pins s σ H Q I h
  refine Subscript_ (thn (he pins s σ H _ I h) fun v s1 ⟨x, H1, I1, r1, q1⟩ => ?_)
  refine wpAny_Slice (thn (hl pins s1 σ H1 _ I1 q1) fun vl s2 ⟨l, H2, I2, pl, q2⟩ => thn (hu pins s2 σ H2 _ I2 q2) fun vu s3 ⟨u, H3, I3, pu, q3⟩ => ?_)
  rw [evalPart_none]
  refine wpAny_pure ?_
  have I4 : Inv X pins σ H3 { s3 with heap := s3.heap.push { cls := .type "slice", data := .fields #[vl, vu, .none] } } := I3.kept (t' := s3.toks) fun b ob q => Heap.get?_push_of_some _ q
  obtain ⟨T, id, hT, ht, hg⟩ := hr pins { s3 with heap := s3.heap.push { cls := .type "slice", data := .fields #[vl, vu, .none] } } σ H3 x v vl vu l u s3.heap.objs.size Q I4 r1 (Heap.IsSliceOf.new ..) pl pu q3
  show wpAny (model X.prog X.w) X.A (subscriptTail e (.Slice lo hi none p2) v (.ref s3.heap.objs.size)) (EP X pins σ Q) X.xe { s3 with heap := s3.heap.push { cls := .type "slice", data := .fields #[vl, vu, .none] } }
  exact tail_any (ops := [.ref s3.heap.objs.size, v]) ht hT hg (by with_unfolding_all rfl)
def cutV (xs : List V) (lo hi : Option Int) : List V := (xs.drop (HT.sIx xs.length 0 lo)).take (HT.sIx xs.length xs.length hi - HT.sIx xs.length 0 lo)
theorem cutV_length (xs : List V) (lo hi : Option Int) : (cutV xs lo hi).length ≤ xs.length := by
  unfold cutV
  rw [List.length_take, List.length_drop]
  omega
def rCatT (K : PySem.W.Frag) : R2 := fun x y H Q => ∃ a b xs ys, x = .ref a ∧ y = .ref b ∧ SqT K H a xs ∧ SqT K H b ys ∧ xs ≠ [] ∧ xs.length + ys.length ≤ sizeLine ∧
  (ys = [] → Q (.ref a) H) ∧ (ys ≠ [] → ∀ p, H p = none → Q (.ref p) (upd H p (.tup (xs ++ ys))))
theorem Vals.nil_iff {xs : List V} {us : List Value} (r : Vals xs us) : us = [] ↔ xs = [] := by
  cases r with
  | nil => simp
  | cons _ _ => simp
theorem op_catT : OpR X (binaryOp .Add) (rCatT X.K) := by
  intro pins s σ H x y v u Q I rx ry h
  obtain ⟨a, b, xs, ys, rfl, rfl, ha, hb, hx, hz, q1, q2⟩ := h
  cases rx
  cases ry
  obtain ⟨its, r1, p1, _⟩ := I.tuple ha
  obtain ⟨its2, r2, p2, _⟩ := I.tuple hb
  refine HT.cat_tup p1 p2 (fun z => hx (r1.nil_iff.mp z)) (fun z => ⟨.ref a, H, I, rfl, q1 (r2.nil_iff.mp z)⟩) (fun z => ?_) (by rw [← r1.length, ← r2.length]; exact hz)
  refine ⟨.ref s.heap.objs.size, _, I.laid (t' := s.toks) (o := .tup (xs ++ ys)) (fun b ob q => Heap.get?_push_of_some _ q) (Nat.le_refl _) ?_, rfl, q2 (fun w => z (r2.nil_iff.mpr w)) _ (I.hok.fresh (Nat.le_refl _))⟩
  exact ⟨by rw [List.length_append]; exact hz, _, r1.append r2, IsTup.new _ _⟩
end
end L2
namespace L2
open PySem PySem.Spec PyProof.Rows
def ixN (n : Nat) (i : Int) : Option Nat := if 0 ≤ i then (if i < n then some i.toNat else none) else if -(n : Int) ≤ i then some (i + n).toNat else none
def atI {α : Type} (xs : List α) (i : Int) : Option α := (ixN xs.length i).bind fun j => xs[j]?
theorem ixN_seq {n : Nat} {i : Int} {j : Nat} (h : ixN n i = some j) : seqIndex? i n = some j ∧ j < n ∧ -(n : Int) ≤ i ∧ i < n := by
  unfold ixN at h
  by_cases h0 : 0 ≤ i
  · rw [if_pos h0] at h
    by_cases h1 : i < n
    · rw [if_pos h1] at h
      have e : i.toNat = j := Option.some.inj h
      exact ⟨by rw [seqIndex_of h0 h1, e], by omega, by omega, h1⟩
    · rw [if_neg h1] at h; cases h
  · rw [if_neg h0] at h
    by_cases h1 : -(n : Int) ≤ i
    · rw [if_pos h1] at h
      have e : (i + n).toNat = j := Option.some.inj h
      exact ⟨by rw [seqIndex_neg (by omega) h1, e], by omega, h1, by omega⟩
    · rw [if_neg h1] at h; cases h
theorem atI_get {α : Type} {xs : List α} {i : Int} {v : α} (h : atI xs i = some v) : ∃ j, seqIndex? i xs.length = some j ∧ xs[j]? = some v ∧ j < xs.length ∧ -(xs.length : Int) ≤ i ∧ i < xs.length := by
  unfold atI at h
  cases e : ixN xs.length i with
  | none => rw [e] at h; cases h
  | some j =>
    rw [e] at h
    obtain ⟨h1, h2, h3, h4⟩ := ixN_seq e
    exact ⟨j, h1, h, h2, h3, h4⟩
theorem atI_nat {α : Type} {xs : List α} {j : Nat} {v : α} (h : xs[j]? = some v) : atI xs (j : Int) = some v := by
  have hj : j < xs.length := (List.getElem?_eq_some_iff.mp h).1
  have e : ixN xs.length (j : Int) = some j := by
    unfold ixN
    rw [if_pos (by omega), if_pos (by omega)]; simp
  unfold atI; rw [e]; exact h
theorem atI_last {α : Type} (xs : List α) (v : α) : atI (xs ++ [v]) (-1) = some v := by
  have hl : (xs ++ [v]).length = xs.length + 1 := by simp
  have e : ixN (xs ++ [v]).length (-1) = some xs.length := by
    unfold ixN
    rw [hl, if_neg (by decide), if_pos (by omega)]
    congr 1
    omega
  unfold atI
  rw [e]
  show (xs ++ [v])[xs.length]? = some v
  simp
def PlainIx (b : Expr) : Prop := ∀ o i, subscripted b false o i = operate [o, i] (getItem o i)
def IxR (X : Cx) (r : R2) : Prop :=
  ∀ (value slice : Expr) (pins : List (Addr × Obj)) (s : Shared) (σ : St) (H : Hp) (x y : V) (v u : Value) (Q : VK), Inv X pins σ H s → RelV x v → RelV y u → r x y H Q →
    subscripted slice false v u = operate [v, u] (getItem v u) → wpAny (model X.prog X.w) X.A (subscriptTail value slice v u) (EP X pins σ Q) X.xe s
def MtR (X : Cx) (id : String) (r : V → List V → Hp → VK → Prop) : Prop :=
  ∀ (pins : List (Addr × Obj)) (s : Shared) (σ : St) (H : Hp) (x : V) (xs : List V) (v : Value) (us : List Value) (Q : VK), Inv X pins σ H s → RelV x v → Vals xs us → r x xs H Q →
    wpAny (model X.prog X.w) X.A (call (.builtin id) (v :: us)) (EP X pins σ Q) X.xe s
section
variable {X : Cx} {a b : Expr} {ta tb : TE} {pos : Pos}
theorem IxR.or {r r' : R2} (h : IxR X r) (h' : IxR X r') : IxR X (fun x y H Q => r x y H Q ∨ r' x y H Q) := by
  intro value slice pins s σ H x y v u Q I rx ry q hs
  rcases q with q | q
  · exact h value slice pins s σ H x y v u Q I rx ry q hs
  · exact h' value slice pins s σ H x y v u Q I rx ry q hs
theorem MtR.or {id : String} {r r' : V → List V → Hp → VK → Prop} (h : MtR X id r) (h' : MtR X id r') : MtR X id (fun x xs H Q => r x xs H Q ∨ r' x xs H Q) := by
  intro pins s σ H x xs v us Q I rx rs q
  rcases q with q | q
  · exact h pins s σ H x xs v us Q I rx rs q
  · exact h' pins s σ H x xs v us Q I rx rs q
theorem pe_ix {r : R2} (hr : IxR X r) (ha : PE X a ta) (hb : PE X b tb) (hs : PlainIx b) : PE X (.Subscript a b pos) (tOp r ta tb) := by
  intro pins s σ H Q I h
  exact Subscript_ (binT ha hb I h fun v u s2 x y H2 I2 rx ry q => hr a b pins s2 σ H2 x y v u Q I2 rx ry q (hs _ _))
def rIxL (K : PySem.W.Frag) : R2 := fun x y H Q => ∃ p xs i v, x = .ref p ∧ y = .int i ∧ SqL K H p xs ∧ atI xs i = some v ∧ Q v H
def rIxT (K : PySem.W.Frag) : R2 := fun x y H Q => ∃ p xs i v, x = .ref p ∧ y = .int i ∧ SqT K H p xs ∧ atI xs i = some v ∧ Q v H
def rIxS : R2 := fun x y H Q => ∃ z i c, x = .str z ∧ y = .int i ∧ z.length ≤ sizeLine ∧ atI z.cps.toList i = some c ∧ Q (.str ⟨#[c]⟩) H
theorem ix_list : IxR X (rIxL X.K) := by
  intro value slice pins s σ H x y v u Q I rx ry h hs
  obtain ⟨p, xs, i, z, rfl, rfl, hq, he, q⟩ := h
  cases rx
  obtain ⟨t, rfl⟩ := ry
  obtain ⟨its, r, pl, hz⟩ := I.list hq
  obtain ⟨j, h1, h2, h3, h4, h5⟩ := atI_get he
  obtain ⟨w, ew, rw'⟩ := r.get h2
  have hl := r.length
  have hn := line63
  have fin : EP X pins σ Q w s := ⟨z, H, I, rw', q⟩
  by_cases h0 : 0 ≤ i
  · have hj : i.toNat = j := by
      rw [seqIndex_of h0 h5] at h1
      exact Option.some.inj h1
    exact item_listR pl.isList h0 (by omega) (by rw [hj]; simpa using ew) fin hs
  · have hj : (i + (its.toArray.size : Int)).toNat = j := by
      rw [seqIndex_neg (by omega) h4] at h1
      rw [List.size_toArray, ← hl]
      exact Option.some.inj h1
    exact subscriptTail_builtinR (x := w) pl.isList.typeIs slot_list_getitem.lookup
      (wpAny_getItem_list_neg (Q := fun r s' => r = w ∧ EP X pins σ Q r s') pl.isList (by omega) (by rw [List.size_toArray] <;> omega) (by omega) (by rw [hj]; simpa using ew) ⟨rfl, fin⟩) hs
theorem ix_tup : IxR X (rIxT X.K) := by
  intro value slice pins s σ H x y v u Q I rx ry h hs
  obtain ⟨p, xs, i, z, rfl, rfl, hq, he, q⟩ := h
  cases rx
  obtain ⟨t, rfl⟩ := ry
  obtain ⟨its, r, pl, hz⟩ := I.tuple hq
  obtain ⟨j, h1, h2, h3, h4, h5⟩ := atI_get he
  obtain ⟨w, ew, rw'⟩ := r.get h2
  have hl := r.length
  have hn := line63
  have fin : EP X pins σ Q w s := ⟨z, H, I, rw', q⟩
  exact subscriptTail_builtinR (x := w) pl.typeIs slot_tuple_getitem.lookup
    (getItem_tuple (j := j) (Q := fun r s' => r = w ∧ EP X pins σ Q r s') pl (by omega) (by omega) (by rw [List.size_toArray, ← hl]; exact h1) (by simpa using ew) ⟨rfl, fin⟩) hs
theorem ix_str : IxR X rIxS := by
  intro value slice pins s σ H x y v u Q I rx ry h hs
  obtain ⟨z, i, c, rfl, rfl, hz, he, q⟩ := h
  obtain ⟨t, rfl⟩ := rx
  obtain ⟨t', rfl⟩ := ry
  obtain ⟨j, h1, h2, h3, h4, h5⟩ := atI_get he
  have hl : z.cps.toList.length = z.length := by simp [Str.length]
  rw [hl] at h1 h4 h5
  have hn := line63
  exact tail_any (typeIs_str s z t) slot_str_getitem.lookup (getItem_str (c := c) (by
    have e1 : decide (i < -(2 ^ 63 : Int)) = false := decide_eq_false (by omega)
    have e2 : decide (i ≥ 2 ^ 63) = false := decide_eq_false (by omega)
    rw [e1, e2, Bool.or_false]) (by rw [h1]; simpa using h2) ⟨.str ⟨#[c]⟩, H, I.tok _, ⟨_, rfl⟩, q⟩) hs
def rIx (K : PySem.W.Frag) : R2 := fun x y H Q => rIxL K x y H Q ∨ rIxT K x y H Q ∨ rIxS x y H Q
theorem ix_seq : IxR X (rIx X.K) := ix_list.or (ix_tup.or ix_str)
theorem Inv.lst {pins : List (Addr × Obj)} {σ : St} {H : Hp} {s : Shared} {p : Addr} {xs : List V} (I : Inv X pins σ H s) (h : H p = some (.lst xs)) :
    ∃ (its : List Value) (n : Nat), Vals xs its ∧ s.heap.get? p = some { cls := .type "list", data := .seq its.toArray n } ∧ xs.length ≤ sizeLine := by
  obtain ⟨z, its, n, r, e⟩ := I.hok p _ h
  exact ⟨its, n, r, e, z⟩
theorem slice_bounds (lo hi : Option Int) (n : Nat) : (sliceBounds lo hi none n).1 = ((HT.sIx n 0 lo : Nat) : Int) ∧ (sliceBounds lo hi none n).2.1 = ((HT.sIx n n hi : Nat) : Int) ∧ (sliceBounds lo hi none n).2.2 = 1 := by
  refine ⟨?_, ?_, rfl⟩
  · cases lo with
    | none => simp [sliceBounds, HT.sIx]
    | some i =>
      simp only [sliceBounds, HT.sIx, Option.getD_none, show (1 : Int) > 0 by decide, if_true]
      by_cases h : i < 0
      · simp only [h, if_true] <;> omega
      · simp only [h, if_false] <;> omega
  · cases hi with
    | none => simp [sliceBounds, HT.sIx]
    | some i =>
      simp only [sliceBounds, HT.sIx, Option.getD_none, show (1 : Int) > 0 by decide, if_true]
      by_cases h : i < 0
      · simp only [h, if_true] <;> omega
      · simp only [h, if_false] <;> omega
theorem slicePick_cut (its : List Value) (lo hi : Option Int) : slicePick its.toArray lo hi none = ((its.drop (HT.sIx its.length 0 lo)).take (HT.sIx its.length its.length hi - HT.sIx its.length 0 lo)).toArray := by
  obtain ⟨h1, h2, h3⟩ := slice_bounds lo hi its.toArray.size
  unfold slicePick
  rw [h1, h2, h3]
  simp only [sliceRange_one, pick_run, List.size_toArray] <;> rfl
def rSlL (K : PySem.W.Frag) : V → Option Int → Option Int → Hp → VK → Prop := fun x lo hi H Q => ∃ a xs, x = .ref a ∧ SqL K H a xs ∧ ∀ p, H p = none → Q (.ref p) (upd H p (.lst (cutV xs lo hi)))
theorem sl_list : SlR X (rSlL X.K) := by
  intro pins s σ H x v vl vu lo hi sl Q I rx hs pl pu h
  obtain ⟨a, xs, rfl, hx, q⟩ := h
  cases rx
  obtain ⟨its, r, ht, hz⟩ := I.list hx
  have hlen := r.length
  refine ⟨"list", _, slot_list_getitem.lookup, ht.isList.typeIs, ?_⟩
  refine wpAny_getItem_list_slice ht.isList hs pl pu .none (by simp) ?_ (by rw [List.size_toArray] <;> omega)
  rw [slicePick_cut, ← hlen]
  refine ⟨.ref s.heap.objs.size, _, I.laid (t' := s.toks) (o := .lst (cutV xs lo hi)) (fun b ob q => Heap.get?_push_of_some _ q) (Nat.le_refl _) ?_, rfl, q _ (I.hok.fresh (Nat.le_refl _))⟩
  exact ⟨Nat.le_trans (cutV_length xs lo hi) hz, _, 0, (r.drop (HT.sIx xs.length 0 lo)).take (HT.sIx xs.length xs.length hi - HT.sIx xs.length 0 lo), Heap.get?_push_size _ rfl⟩
def flatV : V → Bool
  | .non => true
  | .bl _ => true
  | .int _ => true
  | .str _ => true
  | _ => false
def eqV : V → V → Bool
  | .non, .non => true
  | .bl a, .bl b => a == b
  | .bl a, .int b => (if a then 1 else 0) == b
  | .int a, .bl b => a == (if b then 1 else 0)
  | .int a, .int b => a == b
  | .str a, .str b => a == b
  | _, _ => false
def inV (x : V) (xs : List V) : Bool := xs.any fun y => eqV y x
theorem CallR.or {f : Value} {r r' : List V → Hp → VK → Prop} (h : CallR X f r) (h' : CallR X f r') : CallR X f (fun xs H Q => r xs H Q ∨ r' xs H Q) := by
  intro pins s σ H xs us Q I rs q
  rcases q with q | q
  · exact h pins s σ H xs us Q I rs q
  · exact h' pins s σ H xs us Q I rs q
def tyV (K : PySem.W.Frag) (T : String) (x : V) (H : Hp) : Prop := match x with
  | .str _ => T = "str"
  | .int _ => T = "int"
  | .ref p => (T = "list" ∧ ∃ xs, SqL K H p xs) ∨ (T = "tuple" ∧ ∃ o, K.lookup p = some o ∧ o.cls = .type "tuple" ∧ o.dict = none) ∨
      (T = "dict" ∧ ((∃ kvs, H p = some (.dK kvs)) ∨ ∃ kvs, H p = some (.dT kvs))) ∨ (T = "set" ∧ ∃ S n, H p = some (.set S n))
  | _ => False
theorem tyV_is {pins : List (Addr × Obj)} {σ : St} {H : Hp} {s : Shared} {T : String} {x : V} {v : Value} (I : Inv X pins σ H s) (r : RelV x v) (ty : tyV X.K T x H) :
    s.TypeIs v T ∧ ∀ a, v = .ref a → ∃ ob, s.heap.get? a = some ob ∧ ob.dict = none := by
  cases x with
  | str z =>
    obtain ⟨t, rfl⟩ := r
    cases (show T = "str" from ty)
    exact ⟨typeIs_str s z t, fun _ e => nomatch e⟩
  | int i =>
    obtain ⟨t, rfl⟩ := r
    cases (show T = "int" from ty)
    exact ⟨typeIs_int s i t, fun _ e => nomatch e⟩
  | ref p =>
    cases r
    rcases ty with ⟨rfl, xs, hq⟩ | ⟨rfl, o, hk, hc, hd⟩ | ⟨rfl, hk⟩ | ⟨rfl, S, n, hk⟩
    · obtain ⟨its, _, pl, _⟩ := I.list hq
      refine ⟨pl.isList.typeIs, fun a e => ?_⟩
      cases e
      obtain ⟨o, n, e, c, hd, _⟩ := pl
      exact ⟨o, e, hd⟩
    · refine ⟨⟨o, I.kIn p o hk, hc⟩, fun a e => ?_⟩
      cases e
      exact ⟨o, I.kIn _ o hk, hd⟩
    · have z : ∃ o, s.heap.get? p = some o ∧ o.ExactDict := by
        rcases hk with ⟨kvs, hk⟩ | ⟨kvs, hk⟩
        · obtain ⟨_, _, _, _, o, _, _, e, ex, _⟩ := I.hok p _ hk
          exact ⟨o, e, ex⟩
        · obtain ⟨_, _, _, _, o, _, _, e, ex, _⟩ := I.hok p _ hk
          exact ⟨o, e, ex⟩
      obtain ⟨o, e, ex⟩ := z
      refine ⟨⟨o, e, ex.1⟩, fun a e2 => ?_⟩
      cases e2
      exact ⟨o, e, ex.2.1⟩
    · obtain ⟨o, _, _, _, e, ex, _⟩ := I.hok p _ hk
      refine ⟨⟨o, e, ex.1⟩, fun a e2 => ?_⟩
      cases e2
      exact ⟨o, e, ex.2.1⟩
  | _ => exact False.elim ty
def tBM (K : PySem.W.Frag) (T : String) (r : V → List V → Hp → VK → Prop) (to : TE) (t : TA) : TE := fun σ H Q => to σ H fun x H1 => tyV K T x H1 ∧ t σ H1 fun xs H2 => r x xs H2 Q
variable {o e : Expr} {es : List Expr} {to : TE} {t : TA} {name : Str} {apos cpos : Pos} {T id : String} {r : V → List V → Hp → VK → Prop}
theorem pe_bm (pa : PlainAttrs T) (slot : Slot T name id) (hty : typeOf (.builtin id) = pure (.type "method_descriptor")) (hm : MtR X id r) (ho : PE X o to) (ha : PA X (e :: es) t)
    (hbase : attributeBase o name X.env (eval o X.env) = eval o X.env := by rfl)
    (hfew : ((backTo cpos (starEach (e :: es) X.env)).all (fun x => !x.1) && (backToKw cpos (keywordEach [] X.env)).all (fun x => x.1.isSome)
      && decide ((e :: es).length + ([] : List Keyword).length + (if ([] : List Keyword).isEmpty then 0 else 1) < 30)) = true := by rfl)
    (hline : (apos.endLine == cpos.line) = true := by rfl) (hs : starEach (e :: es) X.env = (false, eval e X.env) :: starEach es X.env := by rfl) (hplain : (backTo cpos (starEach es X.env)).any (·.1) = false := by rfl) :
    PE X (.Call (.Attribute o name apos) (e :: es) [] cpos) (tBM X.K T r to t) := by
  intro pins s σ H Q I h
  refine wpAny_Call_method_late hbase hfew hline rfl (thn (ho pins s σ H _ I h) fun v s1 ⟨x, H1, I1, r1, ty, q1⟩ => ?_)
  obtain ⟨h1, h2⟩ := tyV_is I1 r1 ty
  refine ⟨T, id, pa, slot, hty, h1, h2, ?_⟩
  have hA := ha cpos pins s1 σ H1 _ I1 q1
  rw [hs] at hA ⊢
  refine Calls.callWith_builtin (by show (false || (backTo cpos (starEach es X.env)).any (·.1)) = false; rw [hplain] <;> rfl) (Calls.evalArgs_plain ?_)
  exact thn hA fun us s2 ⟨vs, H2, I2, r2, q2⟩ => hm pins s2 σ H2 x vs v us Q I2 r1 r2 q2
end
end L2
namespace L2
open PySem PySem.Spec PyProof.Rows
def MtM (X : Cx) (id : String) (r : V → List V → Hp → VK → Prop) : Prop :=
  ∀ (pins : List (Addr × Obj)) (s : Shared) (σ : St) (H : Hp) (x : V) (xs : List V) (v : Value) (us : List Value) (Q : VK), Inv X pins σ H s → RelV x v → Vals xs us → r x xs H Q →
    wpAny (model X.prog X.w) X.A (call (.builtin id) (v :: us)) (EP X pins σ Q) X.xe s
theorem Vals.one : ∀ {x : V} {us : List Value}, Vals [x] us → ∃ u, us = [u] ∧ RelV x u
  | _, _, .cons r .nil => ⟨_, rfl, r⟩
theorem Vals.two : ∀ {x y : V} {us : List Value}, Vals [x, y] us → ∃ u v, us = [u, v] ∧ RelV x u ∧ RelV y v
  | _, _, _, .cons r (.cons q .nil) => ⟨_, _, rfl, r, q⟩
theorem Vals.zero : ∀ {us : List Value}, Vals [] us → us = []
  | _, .nil => rfl
theorem Vals.dropLast {xs : List V} {us : List Value} (h : Vals xs us) : Vals xs.dropLast us.dropLast := by
  induction h with
  | nil => exact .nil
  | cons r t ih =>
    cases t with
    | nil => exact .nil
    | cons q t' => exact .cons r ih
theorem Vals.eraseIdx : ∀ {xs : List V} {us : List Value} (i : Nat), Vals xs us → Vals (xs.eraseIdx i) (us.eraseIdx i)
  | _, _, _, .nil => .nil
  | _, _, 0, .cons _ t => t
  | _, _, i + 1, .cons r t => .cons r (Vals.eraseIdx i t)
theorem Vals.reverse {xs : List V} {us : List Value} (h : Vals xs us) : Vals xs.reverse us.reverse := by
  induction h with
  | nil => exact .nil
  | cons r t ih => rw [List.reverse_cons, List.reverse_cons]; exact Vals.append ih (.cons r .nil)
theorem Vals.rep {xs : List V} {us : List Value} (h : Vals xs us) : ∀ k : Nat, Vals (List.replicate k xs).flatten (List.replicate k us).flatten
  | 0 => .nil
  | k + 1 => by
    rw [List.replicate_succ, List.replicate_succ, List.flatten_cons, List.flatten_cons]
    exact Vals.append h (Vals.rep h k)
section
variable {X : Cx} {pins : List (Addr × Obj)} {σ : St} {H : Hp} {s : Shared} {l b : Addr} {xs ys zs : List V}
theorem Inv.lset {its its' : List Value} {n : Nat} {f : Array Value → Array Value} {t' : Nat} (I : Inv X pins σ H s) (hH : H l = some (.lst xs))
    (e : s.heap.get? l = some { cls := .type "list", data := .seq its.toArray n }) (hf : f its.toArray = its'.toArray) (hv : Vals ys its') (hz : ys.length ≤ sizeLine) :
    Inv X pins σ (upd H l (.lst ys)) { s with heap := s.heap.update l (Obj.mapSeq f), toks := t' } := by
  have q := PySem.IsL.update e f
  rw [hf] at q
  refine I.write (x := l) (e := l) (by rw [hH]; exact trivial) (.inl rfl) (fun b' u hb hu => (Heap.get?_update_other s.heap (Obj.mapSeq f) (Ne.symm hb)).trans hu) ⟨_, q⟩ ?_
  exact ⟨hz, its', _, hv, q⟩
theorem Inv.lnew {its : List Value} {t' : Nat} (I : Inv X pins σ H s) (hv : Vals ys its) (hz : ys.length ≤ sizeLine) :
    Inv X pins σ (upd H s.heap.objs.size (.lst ys)) { s with heap := s.heap.push { cls := .type "list", data := .seq its.toArray }, toks := t' } :=
  I.laid (fun _ _ q => Heap.get?_push_of_some _ q) (Nat.le_refl _) ⟨hz, its, 0, hv, Heap.get?_push_size _ rfl⟩
theorem Inv.fresh (I : Inv X pins σ H s) : H s.heap.objs.size = none := I.hok.fresh (Nat.le_refl _)
theorem Inv.lstM (I : Inv X pins σ H s) (hH : H l = some (.lst xs)) : xs.length ≤ sizeLine ∧ ∃ (its : List Value) (n : Nat), Vals xs its ∧ xs.length = its.length ∧ s.heap.get? l = some { cls := .type "list", data := .seq its.toArray n } := by
  obtain ⟨z, its, n, r, e⟩ := I.hok l _ hH
  exact ⟨z, its, n, r, r.length, e⟩
end
section
variable {X : Cx}
def rAppend : V → List V → Hp → VK → Prop := fun x vs H Q => ∃ l xs y, x = .ref l ∧ vs = [y] ∧ H l = some (.lst xs) ∧ xs.length < sizeLine ∧ Q .non (upd H l (.lst (xs ++ [y])))
theorem mt_append : MtM X "list.append" rAppend := by
  intro pins s σ H x vs v us Q I rx rv h
  obtain ⟨l, xs, y, rfl, rfl, hH, hz, q⟩ := h
  cases rx
  obtain ⟨u, rfl, ru⟩ := rv.one
  obtain ⟨z, its, n, r, hl, e⟩ := I.lstM hH
  refine call_meets F.slot_list_append ⟨_, e, rfl⟩ F.entry_list_append (F.args_list_append_2 _ _) (PySem.list_append l its.toArray n u (by rw [List.size_toArray]; omega)) ⟨e, ?_⟩
  refine ⟨.non, _, I.lset (its' := its ++ [u]) hH e (by simp) (r.append (.cons ru .nil)) ?_, rfl, q⟩
  rw [List.length_append, List.length_singleton]
  omega
end
section
variable {prog : Program} {w : World} {A : Around} {E : Value → Shared → Prop} {s : Shared}
set_option maxRecDepth 100000 in
end
section
variable {X : Cx}
end
end L2
namespace Att
open PySem PySem.W PySem.Calls PyProof.Rows
theorem ints_of_wellAll {P : Params} {h : Heap} : ∀ (ns : List Int) (vs : List Value), WellAll P h vs (ns.map WData.int) → IntsAre vs ns := by
  intro ns
  induction ns with
  | nil =>
    intro vs w
    rw [List.map_nil] at w
    cases w
    exact .nil
  | cons n ns ih =>
    intro vs w
    rw [List.map_cons] at w
    cases w with
    | cons a b =>
      cases a
      exact .cons _ _ (ih _ b)
theorem script_of {l : OpenLaw} {n : Nat} (hn : l.most = some n) {P : Params} {h : Heap} {args : List WData} {vals : List Value}
    (hpre : l.row.toRowW.claim.pre args = true) (hwl : WellAll P h vals args) :
    ∃ a vs ns, vals = [Value.ref a] ∧ args = [WData.list (ns.map WData.int)] ∧ h.get? a = some { cls := .type "list", data := .seq vs.toArray } ∧ IntsAre vs ns ∧ ns.length ≤ n := by
  have hsh : WShape.hasAll [] args [.list .int] = true := (pre_splitW hpre).1
  have hc : l.pre.holds [] { args := args } = true := (pre_splitW hpre).2
  obtain ⟨d, r, rfl, h1, h2⟩ := hasAllW_cons hsh
  obtain rfl := hasAllW_nil h2
  obtain ⟨xs, rfl, h3⟩ := hasW_list h1
  obtain ⟨ns, rfl⟩ := items_int h3
  have hlen : ns.length ≤ n := by
    unfold OpenLaw.pre at hc
    have h4 : (WTm.not (.lt (.lit (.int (n : Int))) (.len (.arg 0)))).holds [] { args := [.list (ns.map .int)] } = true := by
      have h4 := (holds_andW hc).1
      rw [hn] at h4
      exact h4
    have h5 := condW_of h4 (w_not (w_lt w_lit (w_len_list (w_arg rfl))))
    rw [List.length_map] at h5
    refine Nat.le_of_not_lt fun q => ?_
    have q' : (n : Int) < ((ns.length : Nat) : Int) := by omega
    first
      | (rw [decide_eq_true q'] at h5; exact absurd h5 (by decide))
      | (simp at h5; omega)
  cases hwl with
  | cons w1 w2 =>
    cases w2
    cases w1 with
    | list ho hall => exact ⟨_, _, ns, rfl, rfl, ho, ints_of_wellAll ns _ hall, hlen⟩
theorem post_true (l : OpenLaw) (args : List WData) : l.row.toRowW.claim.post args (.bool true) args = true :=
  postW_of (r := l.row.toRowW) (X := (true == true))
    (show WShape.has [] (.bool true) .bool = true by first | rfl | decide | simp [WShape.has, WShape.arms, WShape.armsAll])
    (show (WTm.eq .res (.lit (.bool true))).value [] { args := args, res := some (.bool true), after := args } = some (.bool (true == true)) from w_eq_bool (w_res rfl) w_lit) rfl
section
variable {prog : Program} {w : World} {A : Around} {E : Value → Shared → Prop} {s : Shared} {K : Frag}
end
end Att
namespace L2
open PySem PySem.Spec PyProof.Rows
theorem vals_ints : ∀ {vs : List Value} {ns : List Int}, IntsAre vs ns → Vals (ns.map V.int) vs
  | _, _, .nil => .nil
  | _, _, .cons n t h => .cons ⟨t, rfl⟩ (vals_ints h)
def Only (H : Hp) : Prop := ∀ b, H b = none ∨ ∃ o xs, H b = some (.frz o (.lst xs))
theorem law_call {P : Program} {w : World} {K : PySem.W.Frag} {mg mb : Str → Option Value} {CX : CXT} {k : Nat} {fa a : Addr} {fd : FuncData} {x : Str} {sp : Sp} {s₁ : Shared} {vs : List Value} {ns : List Int}
    (KX : K.In s₁.heap) (hns : s₁.heap.Ns mainGlobals mg) (hb : s₁.heap.Ns builtinsNs mb) (hbb : ∀ x : Str, x ≠ "__name__" → mb x = bootBuiltins x) (hlim : s₁.heap.NoLimit) (hg : s₁.gens = #[])
    (ha : s₁.heap.get? a = some { cls := .type "list", data := .seq vs.toArray }) (hi : IntsAre vs ns) (hl : ns.length ≤ sizeLine) (hr : Room k callerA)
    (F : ∀ base : Heap, K.In base → base.Ns mainGlobals mg → FnOk P w K mg base CX k fa fd [x] sp) (hbind : ∀ (s : Shared) (u : Value), BindsTo s fd ⟨[u], []⟩ [(x, u)])
    (hsp : ∀ H : Hp, Only H → SqL K H a (ns.map V.int) → sp [.ref a] H (fun v _ => v = .bl true) fun _ _ _ => False)
    (hCX : ∀ H e s', CX [] H s₁ (fun _ _ _ => False) e s' → False) :
    codeAny (model P w) callerA (.call (.ref fa) ⟨[.ref a], []⟩) (fun r s' => r = .ok (.ret (.bool true)) ∧ OldK s₁.heap s'.heap ∧ s'.os = s₁.os ∧ AllBare s'.gens) s₁ := by
  have rv := vals_ints hi
  have lenV := hi.length
  have core : ∀ H : Hp, Only H → SqL K H a (ns.map V.int) → HOk P w H s₁.heap → (∀ b, H b ≠ none → b = a) → (H a ≠ none → K.lookup a = none) →
      codeAny (model P w) callerA (.call (.ref fa) ⟨[.ref a], []⟩) (fun r s' => r = .ok (.ret (.bool true)) ∧ OldK s₁.heap s'.heap ∧ s'.os = s₁.os ∧ AllBare s'.gens) s₁ := by
    intro H hO hS hok hA hK
    have base_of : ∀ {b : Addr} {o : Obj}, s₁.heap.get? b = some o → H b = none → (hidT s₁.heap H).get? b = some o := fun e n => hidT_get e n
    have noA : ∀ {b : Addr} {o : Obj} {es : Array DictEntry} {ep : Nat}, s₁.heap.get? b = some o → o.data = .dict es ep → H b = none := fun {b o es ep} e d => by
      cases q : H b with
      | none => rfl
      | some u =>
        have e' : b = a := hA b (by rw [q]; simp)
        subst e'
        rw [ha] at e; cases e
        have d' : Data.seq vs.toArray _ = Data.dict es ep := d
        cases d'
    have nsK : ∀ {b : Addr} {m : Str → Option Value}, s₁.heap.Ns b m → (hidT s₁.heap H).Ns b m := fun {b m} ⟨o, es, ep, e, d, r⟩ => ⟨o, es, ep, base_of e (noA e d), d, r⟩
    have hKb : K.In (hidT s₁.heap H) := fun b o e => base_of (KX b o e) (by
      cases q : H b with
      | none => rfl
      | some u =>
        have e' : b = a := hA b (by rw [q]; simp)
        subst e'
        rw [hK (by rw [q]; simp)] at e; cases e)
    have hM : Mod K mg (hidT s₁.heap H) := ⟨hKb, nsK hns, ⟨mb, nsK hb, hbb⟩, let ⟨mc, h1, h2⟩ := hlim; ⟨mc, nsK h1, h2⟩⟩
    have e0 : Env0 P w K mg (hidT s₁.heap H) callerA [] s₁ H := ⟨rfl, hM, fun b o e => of_hidT e, Nat.le_of_eq (hidT_size _ _), trivial, fun b hb => absurd (show b ∈ ([] : List Addr) from hb) (by simp), hok, .of_eq hg⟩
    refine codeAny_mono ((F _ hKb (nsK hns)).run callerA [] s₁ H ⟨[.ref a], []⟩ [.ref a] [.ref a] _ _ hr e0 (hbind s₁ (.ref a)) (.cons rfl .nil) (hsp H hO hS)) fun r s' h => ?_
    cases r with
    | error e => exact (hCX H e s' h).elim
    | ok fl =>
      cases fl with
      | next => exact False.elim h
      | brk => exact False.elim h
      | cont => exact False.elim h
      | ret u =>
        obtain ⟨v, H', os, bare, un, hok', r', q⟩ := h
        have q' : v = .bl true := q
        subst q'
        obtain rfl : u = Value.bool true := r'
        refine ⟨rfl, OldK.of_keep fun b o e => ?_, os, bare⟩
        cases q : H b with
        | none => exact un.keep b o e q (by intro z; exact absurd (show b ∈ ([] : List Addr) from z) (by simp)) (by simp)
        | some u =>
          rcases hO b with z | ⟨ob, xs, z⟩
          · rw [q] at z; cases z
          · have z2 := un.frzs b ob _ z
            obtain ⟨e1, _⟩ := hok b _ z
            obtain ⟨e2, _⟩ := hok' b _ z2
            rw [e] at e1; cases e1
            exact e2
  cases hk : K.lookup a with
  | some o =>
    have e := KX a o hk
    rw [ha] at e
    cases e
    refine core (fun _ => none) (fun _ => .inl rfl) (.inr ⟨_, vs.toArray, _, hk, rfl, rfl, rfl, by rw [List.size_toArray, lenV]; exact hl, by simpa using rv⟩) (fun b u z => by have z' : (none : Option HO) = some u := z; cases z') (fun b z => absurd rfl z) fun z => absurd rfl z
  | none =>
    refine core (fun b => if b = a then some (.frz { cls := .type "list", data := .seq vs.toArray } (.lst (ns.map V.int))) else none) (fun b => ?_) (.inl (.inr ⟨{ cls := .type "list", data := .seq vs.toArray }, if_pos rfl⟩)) (fun b u z => ?_) (fun b z => ?_) fun _ => hk
    · by_cases hb : b = a
      · exact .inr ⟨_, _, if_pos hb⟩
      · exact .inl (if_neg hb)
    · by_cases hb : b = a
      · have z' := (if_pos hb).symm.trans z
        cases z'
        subst hb
        exact ⟨ha, by rw [List.length_map]; exact hl, vs, _, rv, ha⟩
      · have z' := (if_neg hb).symm.trans z
        cases z'
    · by_cases hb : b = a
      · exact hb
      · exact absurd (if_neg hb) z
end L2
namespace L2
open PySem PySem.Spec PyProof.Rows
abbrev KOf {K : PySem.W.Frag} {h : Heap} (_ : K.In h) : PySem.W.Frag := K
end L2
namespace L2
open PySem PySem.Spec PyProof.Rows
def defArgs (s : Stmt) : Arguments := match s with
  | .FunctionDef _ a _ _ _ _ _ _ _ _ => a
  | _ => { posonlyargs := [], args := [], vararg := none, kwonlyargs := [], kw_defaults := [], kwarg := none, defaults := [] }
def defBody (s : Stmt) : List Stmt := match s with
  | .FunctionDef _ _ b _ _ _ _ _ _ _ => b
  | _ => []
def defScope (s : Stmt) : Scope := match s with
  | .FunctionDef _ _ _ _ _ _ sc _ _ _ => sc
  | _ => { kind := .function, names := [], isGenerator := false, isCoroutine := false }
abbrev CX0 : CXT := fun _ _ _ _ _ _ => False
abbrev E0 : XK := fun _ _ _ => False
theorem pass0 {X : Cx} : Passes CX0 X E0 := fun _ _ _ _ _ _ _ h => h.elim
structure Fun (K : PySem.W.Frag) (x qual : Str) (st : Stmt) (f : Addr) (fd : FuncData) : Prop where
  ex : ∃ (oc : Value) (od : Option Addr) (kV doc pm : Value) (an : Option Addr) (cdv ct : Value) (osl : Array (Option Value)),
    fd = PySem.W.fnOf x qual (defArgs st) (defBody st) (defScope st) .none kV doc pm an cdv ct ∧ K.lookup f = some ⟨oc, od, .func fd, osl⟩ ∧ PySem.W.codeIn K cdv qual = true
  kp : PySem.W.keepIn K (.ref f) = true
section
variable {P : Program} {w : World} {K : PySem.W.Frag} {mg : Str → Option Value} {base : Heap}
theorem Fun.ok {x qual : Str} {st : Stmt} {f : Addr} {fd : FuncData} {N ps : List Str} {k : Nat} {sp : Sp} (F : Fun K x qual st f fd) (S : FnScope N ps (defScope st)) (len : ∀ vs H Q E, sp vs H Q E → vs.length = ps.length)
    (hbody : ∀ (cdv : Value) (A : Around) (outer : List Env) (s : Shared) (H : Hp) (vs : List V) (Q : VK) (E : XK), Room k (A.deeper (envOfC qual (defScope st) s.heap.objs.size f cdv)) → sp vs H Q E →
      ∃ t, PSs (cxOf CX0 P w K mg base N qual (defScope st) f cdv A outer s H E).nox (defBody st) t ∧ t { nx := fun _ H' => Q .non H', rt := Q } (start N vs) H) : FnOk P w K mg base CX0 (k + 1) f fd ps sp := by
  obtain ⟨oc, od, kV, doc, pm, an, cdv, ct, osl, rfl, lk, hcd⟩ := F.ex
  refine fn_of lk hcd S len fun A outer s H vs Q E hr hsp => ?_
  obtain ⟨t, h, q⟩ := hbody cdv A outer s H vs Q E hr hsp
  exact ⟨t, h.nox, q⟩
theorem Fun.binds {x qual : Str} {st : Stmt} {f : Addr} {fd : FuncData} {ps : List Str} (F : Fun K x qual st f fd)
    (h : ∀ (kV doc pm : Value) (an : Option Addr) (cdv ct : Value) (us : List Value), us.length = ps.length → bindArgs (PySem.W.fnOf x qual (defArgs st) (defBody st) (defScope st) .none kV doc pm an cdv ct) ⟨us, []⟩ = pure (ps.zip us)) : Binds K fd ps [] := by
  obtain ⟨oc, od, kV, doc, pm, an, cdv, ct, osl, rfl, lk, hcd⟩ := F.ex
  exact .all (h kV doc pm an cdv ct)
theorem fun_mk {x qual : Str} {st : Stmt} {f : Addr} {oc : Value} {od an : Option Addr} {osl : Array (Option Value)} {kV doc pm cdv ct : Value} (l : K.lookup f = some ⟨oc, od, .func (PySem.W.fnOf x qual (defArgs st) (defBody st) (defScope st) .none kV doc pm an cdv ct), osl⟩)
    (c : PySem.W.codeIn K cdv qual = true) (k : PySem.W.keepIn K (.ref f) = true) : Fun K x qual st f (PySem.W.fnOf x qual (defArgs st) (defBody st) (defScope st) .none kV doc pm an cdv ct) := ⟨⟨oc, od, kV, doc, pm, an, cdv, ct, osl, rfl, l, c⟩, k⟩
end
section
variable {X : Cx}
theorem pv (i : Nat) {x : Str} {pos : Pos} (hN : X.N[i]? = some x := by rfl) (hv : Vis X.env.scope x := by first | exact Or.inl rfl | exact Or.inr (Or.inl rfl) | exact Or.inr (Or.inr rfl)) (hd : (x == ("__debug__" : Str)) = false := by decide)
    (hcd : (x == ("__classdict__" : Str)) = false := by decide) : PE X (.Name x pos) (tVar i) := pe_var hN hv hd hcd
end
def Same (H H' : Hp) : Prop := ∀ b o, H b = some o → H' b = some o
theorem Same.refl (H : Hp) : Same H H := fun _ _ h => h
theorem Same.trans {H H1 H2 : Hp} (a : Same H H1) (b : Same H1 H2) : Same H H2 := fun c o h => b c o (a c o h)
theorem Same.free {H H' : Hp} (e : Same H H') {l : Addr} (h : H' l = Option.none) : H l = Option.none := by
  cases q : H l with
  | none => rfl
  | some o =>
    rw [e l o q] at h
    cases h
theorem Same.seq {K : PySem.W.Frag} {H H' : Hp} {a : Addr} {xs : List V} (e : Same H H') (h : SqL K H a xs) : SqL K H' a xs := by
  rcases h with (h | ⟨o, h⟩) | h
  · exact .inl (.inl (e _ _ h))
  · exact .inl (.inr ⟨o, e _ _ h⟩)
  · exact .inr h
end L2
set_option Elab.async false
set_option linter.all false
set_option maxRecDepth 100000
namespace L2
open PySem PySem.Spec PyProof.Rows
theorem Inv.track {X : Cx} {pins : List (Addr × Obj)} {σ : St} {H : Hp} {s : Shared} {D : Addr} {o : HO} (I : Inv X pins σ H s) (hn : H D = none) (hD : X.s₀.heap.objs.size ≤ D) (hL : D ≠ X.env.locals)
    (hc : ∀ x c, X.env.cells.lookup x = some c → c ≠ D) (hp : ∀ p ∈ X.pn ++ pins, p.1 ≠ D) (new : ObjOk X.prog X.w (upd H D o) s.heap D o) : Inv X pins σ (upd H D o) s := by
  have ne : ∀ b u, H b = some u → b ≠ D := fun b u e => ne_of_none e hn
  refine ⟨I.ok, I.os, I.bare, ⟨I.base.keep, I.base.slot, fun b ob e n hx => ?_, I.base.there, fun b xs e => ?_, fun b ob u e => ?_, fun b ps e => ?_⟩, I.loc, I.cell, ?_, fun x c e => ?_, fun p q => ?_, fun b u e => ?_, I.len⟩
  · have : b ≠ D := Nat.ne_of_lt (Nat.lt_of_lt_of_le (Heap.lt_size e) hD)
    rw [upd_ne this]; exact I.base.free b ob e n hx
  · have z := I.base.tups b xs e
    rw [upd_ne (ne _ _ z)]; exact z
  · have z := I.base.frzs b ob u e
    rw [upd_ne (ne _ _ z)]; exact z
  · obtain ⟨more, z⟩ := I.base.tbls b ps e
    exact ⟨more, by rw [upd_ne (ne _ _ z)]; exact z⟩
  · rw [upd_ne (Ne.symm hL)]; exact I.free
  · rw [upd_ne (hc x c e)]; exact I.freeC x c e
  · obtain ⟨h1, h2, h3⟩ := I.pin p q
    exact ⟨h1, by rw [upd_ne (hp p q)]; exact h2, h3⟩
  · by_cases hb : b = D
    · subst hb; rw [upd_same] at e; cases e; exact new
    · rw [upd_ne hb] at e
      exact (I.hok b u e).stay (fun _ _ _ q => q) (fun c q => by rw [upd_ne (ne _ _ q)]; exact q) fun c xs q => by rw [upd_ne (ne _ _ q)]; exact q
def cloOf (cells : List (Str × Addr)) : List (Str × NameKind) → List (Str × Addr) → List (Str × Addr)
  | [], acc => acc
  | (n, k) :: r, acc => cloOf cells r (if (k == NameKind.free) = true then (n, (cells.lookup n).getD 0) :: acc else acc)
theorem clo_run {env : Env} : ∀ (names : List (Str × NameKind)) (acc : List (Str × Addr)), (∀ y ∈ names, y.2 = .free → ∃ c, env.cells.lookup y.1 = some c) →
    (forIn names acc fun (x : Str × NameKind) (r : List (Str × Addr)) => (if (x.2 == NameKind.free) = true then do
        let c ← cellOf env x.1
        pure (ForInStep.yield ((x.1, c) :: r)) else pure (ForInStep.yield r) : Sem (ForInStep (List (Str × Addr))))) = pure (cloOf env.cells names acc)
  | [], acc, _ => rfl
  | (n, k) :: r, acc, h => by
    have ih := fun acc' => clo_run (env := env) r acc' fun y hy => h y (List.mem_cons_of_mem _ hy)
    rw [List.forIn_cons]
    by_cases hk : k = .free
    · subst hk
      obtain ⟨c, hc⟩ := h (n, .free) List.mem_cons_self rfl
      have hc' : env.cells.lookup n = some c := hc
      have e : cellOf env n = pure c := by
        unfold cellOf
        rw [hc']
      show (if (NameKind.free == NameKind.free) = true then _ else _) >>= _ = _
      rw [if_pos (by decide), e]
      simp only [pure_bind]
      rw [ih]
      simp only [cloOf, hc', Option.getD_some]
      rfl
    · have hb : (k == NameKind.free) = false := by simpa using hk
      show (if (k == NameKind.free) = true then _ else _) >>= _ = _
      rw [hb, if_neg Bool.false_ne_true]
      simp only [pure_bind]
      rw [ih]
      simp only [cloOf, hb, Bool.false_eq_true, if_false]
theorem clo_eq {scope : Scope} {env : Env} (h : ∀ y ∈ scope.names, y.2 = .free → ∃ c, env.cells.lookup y.1 = some c) : closureFor scope env = pure (cloOf env.cells scope.names []) := by
  unfold closureFor
  have e := clo_run (env := env) scope.names [] h
  simp only [bind_pure]
  exact e
theorem clo_sub {cells : List (Str × Addr)} : ∀ (names : List (Str × NameKind)) (acc : List (Str × Addr)), (∀ y ∈ names, y.2 = .free → ∃ c, cells.lookup y.1 = some c) → (∀ y c, acc.lookup y = some c → cells.lookup y = some c) →
    ∀ y c, (cloOf cells names acc).lookup y = some c → cells.lookup y = some c
  | [], _, _, ha => ha
  | (n, k) :: r, acc, h, ha => by
    refine clo_sub r _ (fun y hy => h y (List.mem_cons_of_mem _ hy)) fun y c e => ?_
    by_cases hk : (k == NameKind.free) = true
    · rw [if_pos hk] at e
      obtain ⟨c', hc⟩ := h (n, k) List.mem_cons_self (by simpa using hk)
      have hc' : cells.lookup n = some c' := hc
      rw [hc', Option.getD_some] at e
      rw [List.lookup_cons] at e
      by_cases hy : (y == n) = true
      · rw [hy] at e
        have : y = n := by simpa using hy
        subst this
        rw [hc']; exact e
      · have hy' : (y == n) = false := by simpa using hy
        rw [hy'] at e
        exact ha y c e
    · rw [if_neg hk] at e
      exact ha y c e
theorem clo_has {cells : List (Str × Addr)} : ∀ (names : List (Str × NameKind)) (acc : List (Str × Addr)) (y : Str), ((y, NameKind.free) ∈ names ∨ ∃ c, acc.lookup y = some c) → ∃ c, (cloOf cells names acc).lookup y = some c
  | [], acc, y, h => by
    rcases h with h | h
    · cases h
    · exact h
  | (n, k) :: r, acc, y, h => by
    refine clo_has r _ y ?_
    rcases h with h | ⟨c, h⟩
    · rcases List.mem_cons.mp h with e | h
      · cases e
        refine .inr ⟨(cells.lookup n).getD 0, ?_⟩
        rw [if_pos (by decide), List.lookup_cons]
        simp
      · exact .inl h
    · refine .inr ?_
      split
      · rw [List.lookup_cons]
        cases y == n with
        | true => exact ⟨_, rfl⟩
        | false => exact ⟨c, h⟩
      · exact ⟨c, h⟩
theorem relabel_lookup (env : Env) : ∀ (names : List (Str × NameKind)) (y : Str),
    (names.map fun (n, k) => if (k == NameKind.free && env.scope.kind == .function && env.kindOf n == some .cell) then (n, NameKind.cell) else (n, k)).lookup y
      = (names.lookup y).map fun k => if (k == NameKind.free && env.scope.kind == .function && env.kindOf y == some .cell) = true then NameKind.cell else k
  | [], _ => rfl
  | (n, k) :: r, y => by
    have ih := relabel_lookup env r y
    show List.lookup y ((if (k == NameKind.free && env.scope.kind == .function && env.kindOf n == some .cell) = true then (n, NameKind.cell) else (n, k)) :: _) = _
    by_cases hy : (y == n) = true
    · have : y = n := by simpa using hy
      subst this
      by_cases hc : (k == NameKind.free && env.scope.kind == .function && env.kindOf y == some .cell) = true
      · rw [if_pos hc]; simp only [List.lookup_cons, hy, Option.map_some, hc, if_true]
      · rw [if_neg hc]; simp only [List.lookup_cons, hy, Option.map_some, hc]; simp
    · have hy' : (y == n) = false := by simpa using hy
      by_cases hc : (k == NameKind.free && env.scope.kind == .function && env.kindOf n == some .cell) = true
      · rw [if_pos hc]; simp only [List.lookup_cons, hy']; exact ih
      · rw [if_neg hc]; simp only [List.lookup_cons, hy']; exact ih
def cxComp (X : Cx) (scope : Scope) (N' : List Str) (s₂ : Shared) (H₂ : Hp) (C : Addr) (fp : List Addr) : Cx :=
  { X with N := N', s₀ := s₂, H₀ := H₂, env := compEnvC scope (cloOf X.env.cells scope.names []) C X.env, outer := X.stack, ex := fp, fn := fun _ => false, pn := [], xe := fun _ _ => False }
def compNs (x : Str) (fr : List (Str × Nat)) : List Str := x :: fr.map (·.1)
def compRest (σ : St) (fr : List (Str × Nat)) : St := fr.map fun p => σ.getD p.2 none
structure Blk (X : Cx) (scope : Scope) (x : Str) (fr : List (Str × Nat)) : Prop where
  nocell : (scope.names.all fun y => y.2 != .cell) = true
  kind : scope.kind = .function
  names : (scope.names.all fun y => y.2 != .local || scope.names.lookup y.1 == some .local) = true
  here : scope.names.lookup x = some .local
  free : (scope.names.all fun y => y.2 != .free || X.env.scope.names.lookup y.1 == some .cell) = true
  seen : (fr.all fun p => scope.names.lookup p.1 == some .free && X.N[p.2]? == some p.1) = true
  nd : (compNs x fr).Nodup
section
variable {X : Cx} {scope : Scope} {x : Str} {fr : List (Str × Nat)} {pins : List (Addr × Obj)} {σ : St} {H : Hp} {s : Shared}
theorem Blk.cell (B : Blk X scope x fr) : ∀ y ∈ scope.names, y.2 ≠ .cell := fun y hy => by
  have := List.all_eq_true.mp B.nocell y hy
  simpa using this
theorem Blk.loc (B : Blk X scope x fr) : ∀ y ∈ scope.names, y.2 = .local → scope.names.lookup y.1 = some .local := fun y hy e => by
  have := List.all_eq_true.mp B.names y hy
  rw [e] at this
  simpa using this
theorem Blk.frees (B : Blk X scope x fr) : ∀ y ∈ scope.names, y.2 = .free → X.env.kindOf y.1 = some .cell := fun y hy e => by
  have := List.all_eq_true.mp B.free y hy
  rw [e] at this
  have h : X.env.scope.names.lookup y.1 = some .cell := by simpa using this
  exact h
theorem Blk.clos (B : Blk X scope x fr) (ok : X.Ok) : ∀ y ∈ scope.names, y.2 = .free → ∃ c, X.env.cells.lookup y.1 = some c := fun y hy e => ok.has y.1 (.inl (B.frees y hy e))
theorem Blk.sub (B : Blk X scope x fr) (ok : X.Ok) : ∀ y c, (cloOf X.env.cells scope.names []).lookup y = some c → X.env.cells.lookup y = some c :=
  clo_sub scope.names [] (B.clos ok) fun y c e => by simp at e
theorem Blk.kinds (B : Blk X scope x fr) {y : Str} (h : (relabel scope X.env).names.lookup y = some .cell ∨ (relabel scope X.env).names.lookup y = some .free) : (y, NameKind.free) ∈ scope.names := by
  have e : (relabel scope X.env).names.lookup y = _ := relabel_lookup X.env scope.names y
  rw [e] at h
  cases q : scope.names.lookup y with
  | none => rw [q] at h; simp at h
  | some k =>
    have hm := PySem.mem_of_lookup q
    rw [q] at h
    have hk : k = .free := by
      by_cases hk : k = .free
      · exact hk
      · have hb : (k == NameKind.free) = false := by simpa using hk
        have hc : k ≠ .cell := B.cell _ hm
        rw [Option.map_some, hb, Bool.false_and, Bool.false_and, if_neg Bool.false_ne_true] at h
        rcases h with h | h
        · exact absurd (Option.some.inj h) hc
        · exact Option.some.inj h
    subst hk
    exact hm
theorem Blk.sees (B : Blk X scope x fr) (hk : X.env.scope.kind = .function) {y : Str} (h : scope.names.lookup y = some .free) : (relabel scope X.env).names.lookup y = some .cell := by
  have e : (relabel scope X.env).names.lookup y = _ := relabel_lookup X.env scope.names y
  rw [e, h]
  have h2 : X.env.kindOf y = some .cell := B.frees _ (PySem.mem_of_lookup h) rfl
  simp [hk, h2]
theorem inv_comp (I : Inv X pins σ H s) (B : Blk X scope x fr) {C : Addr} {fp : List Addr} {h₁ : Heap} {tk : Nat} {o : Option V} (hC : s.heap.objs.size ≤ C) (hfp : ∀ b ∈ fp, FpOk X pins H b) (hlt : ∀ b ∈ fp, b < s.heap.objs.size)
    (old : ∀ b ob, s.heap.get? b = some ob → h₁.get? b = some ob) (hns : h₁.Ns C fun _ => none) : Inv (cxComp X scope (compNs x fr) s H C fp) [] (none :: compRest σ fr) H { s with heap := h₁, toks := tk } := by
  have neC : ∀ b, b < s.heap.objs.size → b ≠ C := fun b hb => Nat.ne_of_lt (Nat.lt_of_lt_of_le hb hC)
  have cl : ∀ y c, X.env.cells.lookup y = some c → c < s.heap.objs.size := fun y c e => by
    obtain ⟨v, o, ho, _⟩ := I.cell y c e
    exact Heap.lt_size ho
  refine ⟨⟨I.ok.mod, B.kind, I.ok.glob, I.ok.blt, hC, fun y z c h1 h2 => I.ok.inj y z c (B.sub I.ok _ _ h1) (B.sub I.ok _ _ h2), fun y hy => clo_has _ _ _ (.inl (B.kinds hy)), fun y c h _ => (Bool.false_ne_true h).elim, I.ok.hd, I.ok.frames, .inl rfl,
    fun b hb => ⟨neC b (hlt b hb), fun y c e => (hfp b hb).2.2.2.2.1 y c (B.sub I.ok _ _ e)⟩, I.bs, Nat.le_trans I.ok.bsz I.sz, fun b ob e hb => ?_, fun b hb hs => ?_, I.stack, I.stkFree⟩,
    rfl, I.bare, Un.kept old, ⟨_, hns, fun i y v h1 h2 h3 => ?_⟩, fun y c e => ?_, I.hok.fresh hC, fun y c e => I.freeC y c (B.sub I.ok _ _ e), fun p hp => ?_, I.hok.kept old, ?_⟩
  · rcases (hfp b hb).2.2.2.1 with z | z
    · exact I.ok.noex b ob e z
    · have h1 : b < X.base.objs.size := Heap.lt_size e
      have h2 := I.ok.bsz
      exact absurd (Nat.lt_of_lt_of_le h1 h2) (Nat.not_lt.mpr z)
  · have z := I.stkSub b hs
    rcases List.mem_cons.mp z with z | z
    · exact (hfp b hb).2.1 z
    · exact (hfp b hb).2.2.1 z
  · cases i with
    | zero => simp at h2
    | succ i =>
      have h1' : (fr.map (·.1))[i]? = some y := by
        have z : (x :: fr.map (·.1))[i + 1]? = some y := h1
        rw [List.getElem?_cons_succ] at z
        exact z
      have h2' : (compRest σ fr)[i]? = some (some v) := by simpa using h2
      rw [List.getElem?_map] at h1'
      unfold compRest at h2'
      rw [List.getElem?_map] at h2'
      cases e : fr[i]? with
      | none => rw [e] at h1'; cases h1'
      | some p =>
        rw [e] at h1' h2'
        have e1 : p.1 = y := by simpa using h1'
        have e2 : σ.getD p.2 none = some v := by simpa using h2'
        have hs := List.all_eq_true.mp B.seen p (List.mem_of_getElem? e)
        rw [Bool.and_eq_true] at hs
        have hs1 : scope.names.lookup p.1 = some .free := by simpa using hs.1
        have hs2 : X.N[p.2]? = some p.1 := by simpa using hs.2
        rw [e1] at hs1 hs2
        have hk : X.env.kindOf y = some .cell := B.frees _ (PySem.mem_of_lookup hs1) rfl
        have e3 : σ[p.2]? = some (some v) := by
          rw [List.getD_eq_getElem?_getD] at e2
          cases q : σ[p.2]? with
          | none => rw [q] at e2; simp at e2
          | some z => rw [q] at e2; simp at e2; rw [e2]
        obtain ⟨m, hn, hl⟩ := I.loc
        obtain ⟨u, r, l⟩ := hl p.2 y v hs2 e3 (.inr (.inl hk))
        refine ⟨u, r, .inr ⟨.inl (B.sees I.ok.kind hs1), ?_⟩⟩
        rcases l with ⟨z, _⟩ | ⟨_, c, ec, z⟩
        · rw [hk] at z; cases z
        · obtain ⟨c', hc'⟩ := clo_has (cells := X.env.cells) scope.names [] y (.inl (PySem.mem_of_lookup hs1))
          have := B.sub I.ok _ _ hc'
          rw [ec] at this
          cases this
          obtain ⟨ob, ho, hd⟩ := z
          exact ⟨c, hc', ob, old _ _ ho, hd⟩
  · obtain ⟨v, ob, ho, hd⟩ := I.cell y c (B.sub I.ok _ _ e)
    exact ⟨v, ob, old _ _ ho, hd⟩
  · exact absurd (show p ∈ ([] : List (Addr × Obj)) from hp) (by simp)
  · show _ = (compNs x fr).length
    simp [compNs, compRest]
end
end L2
set_option Elab.async false
set_option linter.all false
set_option maxRecDepth 100000
namespace L2
open PySem PySem.Spec PyProof.Rows
def PIf (X : Cx) (ifs : List Expr) (t : TT) : Prop :=
  ∀ (pins : List (Addr × Obj)) (s : Shared) (σ : St) (H : Hp) (Q : Bool → Hp → Prop), Inv X pins σ H s → t σ H Q →
    wpAny (model X.prog X.w) X.A (forIn ifs true fun c r => if r = true then do let ok ← isTrue c X.env (eval c X.env); pure (ForInStep.yield ok) else pure (ForInStep.yield r)) (TP X pins σ Q) X.xe s
def tYes : TT := fun _ H Q => Q true H
theorem pif_nil {X : Cx} : PIf X [] tYes := fun _ _ _ H _ I h => wpAny_tests_nil ⟨H, I, h⟩
def tLC (fr : List (Str × Nat)) (wi : TI) (tc : TT) (te : TE) : TE := fun σ H Q => wi σ H fun J H1 => ∃ W : Nat → Nat → List V → Hp → Prop, (∃ m, W 0 m [] H1) ∧ ∀ i m ys H2, W i m ys H2 → ys.length < sizeLine ∧
  ((J.stop i H2 ∧ ∀ D, H2 D = none → Q (.ref D) (upd H2 D (.lst ys))) ∨
    (J.go i H2 ∧ ∀ v H3, J.yld i H2 v H3 → tc (some v :: compRest σ fr) H3 fun b H4 =>
      if b = true then te (some v :: compRest σ fr) H4 fun y H5 => ∃ m', m' < m ∧ W (i + 1) m' (ys ++ [y]) H5 else ∃ m', m' < m ∧ W (i + 1) m' ys H4))
section
variable {X : Cx}
theorem anyE {α : Type} {M : Model} {A : Around} {t : Sem α} {Q : α → Shared → Prop} {E : Value → Shared → Prop} {s : Shared} (h : wpAny M A t Q (fun _ _ => False) s) : wpAny M A t Q E s := wpAny_mono h (fun _ _ x => x) fun _ _ x => x.elim
theorem comp_loop {prog : Program} {w : World} {A : Around} {R : Result → Shared → Prop} {s : Shared} {elt target iter : Expr} {ifs : List Expr} {scope : Scope} {pos : Pos} {it acc : Value} {env : Env} (J : Nat → Shared → Prop)
    (turn : ∀ n s, J n s → wpAny (model prog w) A (pyNext it) (fun r s₁ => match r with
      | none => R (.ok .next) s₁
      | some v => wpAny (model prog w) A (letOwnedTupleGo target it v) (fun _ s₂ => wpAny (model prog w) A (assign target env v) (fun _ s₃ =>
          wpAny (model prog w) A (forIn ifs true fun c r => if r = true then do let ok ← isTrue c env (eval c env); pure (ForInStep.yield ok) else pure (ForInStep.yield r)) (fun ok s₄ =>
            if ok = true then wpAny (model prog w) A (eval elt env) (fun y s₅ =>
              wpAny (model prog w) A (call (.builtin "list.append") [acc, y]) (fun _ s₆ => ∃ m, m < n ∧ J m s₆) (fun _ _ => False) s₅) (fun _ _ => False) s₄
            else ∃ m, m < n ∧ J m s₄) (fun _ _ => False) s₃) (fun _ _ => False) s₂) (fun _ _ => False) s₁) (fun _ _ => False) s)
    (n : Nat) (h : J n s) : codeAny (model prog w) A (.compLoop (.ListComp elt [⟨target, iter, ifs, 0⟩] scope pos) 0 it acc env) R s := by
  refine codeAny_loop rfl J (fun k s' hJ => ?_) n h
  show wpAny (model prog w) A ((compTurn (.ListComp elt [⟨target, iter, ifs, 0⟩] scope pos) 0 it acc env).onRaise (fun x => do noteFrame x env; theTreesLotGoes x)) _ _ s'
  refine wpAny_noted ?_
  rw [compTurn_list]
  refine wpAny_bind (wpAny_standAt (wpAny_bind (wpAny_mono (turn k s' hJ) (fun r s₁ h₁ => ?_) fun _ _ z => z.elim)))
  cases r with
  | none => exact wpAny_pure h₁
  | some v =>
    refine wpAny_bind (wpAny_mono h₁ (fun _ s₂ h₂ => wpAny_bind (wpAny_mono h₂ (fun _ s₃ h₃ => wpAny_bind (wpAny_mono h₃ (fun ok s₄ h₄ => ?_) fun _ _ z => z.elim)) fun _ _ z => z.elim)) fun _ _ z => z.elim)
    cases ok with
    | false => exact wpAny_pure ⟨rfl, h₄⟩
    | true =>
      exact wpAny_bind (wpAny_bind (wpAny_mono h₄ (fun y s₅ h₅ => wpAny_bind (wpAny_mono h₅ (fun _ s₆ h₆ => wpAny_pure (wpAny_pure ⟨rfl, h₆⟩)) fun _ _ z => z.elim)) fun _ _ z => z.elim))
theorem pe_lc {elt iter : Expr} {x : Str} {px : Pos} {ifs : List Expr} {scope : Scope} {pos : Pos} {fr : List (Str × Nat)} {wi : TI} {tc : TT} {te : TE} (hc : X.calm = true) (B : Blk X scope x fr)
    (hi : PI X (.Name x px) iter wi) (ht : ∀ s₂ H₂ C fp, PIf (cxComp X scope (compNs x fr) s₂ H₂ C fp) ifs tc) (he : ∀ s₂ H₂ C fp, PE (cxComp X scope (compNs x fr) s₂ H₂ C fp) elt te)
    (hs : ∀ v, foldedSetIterable iter X.env v = pure v := by intro _; rfl) : PE X (.ListComp elt [⟨.Name x px, iter, ifs, 0⟩] scope pos) (tLC fr wi tc te) := by
  intro pins s σ H Q I h
  rw [eval_ListComp]
  have hclos := clo_eq (scope := scope) (env := X.env) (B.clos I.ok)
  refine wpAny_comprehension_free (use := none) rfl hs hclos B.kind B.loc (thn (hi pins s σ H _ I h) fun v s1 h1 => thn h1 fun itv s2 h2 => ?_)
  obtain ⟨it, fp, tn, J, H2, rfl, I2, T, st2, f2, W, ⟨m0, w0⟩, turn⟩ := h2
  refine wpAny_newObj_type (wpAny_newFunctionEnv B.cell (by intro y hy; simp at hy) (fun h₁ hns hsb => ?_) B.kind)
  dsimp only at hns hsb ⊢
  generalize hG : s2.heap.push { cls := .type "list", dict := none, data := .seq ([] : List Value).toArray } = G at hns hsb ⊢
  have hC : G.objs.size = s2.heap.objs.size + 1 := by rw [← hG, Heap.size_push]
  have hDC : s2.heap.objs.size ≠ G.objs.size := by omega
  have old : ∀ b ob, s2.heap.get? b = some ob → h₁.get? b = some ob := fun b ob e => by
    have hb := Heap.lt_size e
    refine hsb.extBut b ob (Nat.ne_of_lt (by rw [hC]; exact Nat.lt_succ_of_lt hb)) (Heap.get?_push_of_some _ ?_)
    rw [← hG]
    exact Heap.get?_push_of_some _ e
  have hacc : h₁.get? s2.heap.objs.size = some { cls := .type "list", data := .seq ([] : List Value).toArray 0 } := by
    refine hsb.extBut _ _ hDC (Heap.get?_push_of_some _ ?_)
    rw [← hG]
    exact Heap.get?_push_size _ rfl
  have hlt : ∀ b ∈ fp, b < s2.heap.objs.size := fun b hb => by
    obtain ⟨o, e, _⟩ := T.obj 0 _ st2 b hb
    exact Heap.lt_size e
  have I4 := inv_comp (tk := s2.toks + ([] : List (Str × Value)).length) (o := none) I2 B (show s2.heap.objs.size ≤ G.objs.size by omega) f2 hlt old hns
  have tn4 : tn 0 h₁ := T.keep 0 _ _ st2 fun b _ o e => old b o e
  have Dfs : s2.heap.objs.size ∉ frs X.stack := fun z => by
    obtain ⟨_, o, ho, _⟩ := I2.stack.mem z
    exact absurd (Heap.lt_size ho) (Nat.lt_irrefl _)
  have Dcl : ∀ y c, X.env.cells.lookup y = some c → c ≠ s2.heap.objs.size := fun y c e => by
    obtain ⟨v, o, ho, _⟩ := I2.cell y c e
    exact Nat.ne_of_lt (Heap.lt_size ho)
  have DL : s2.heap.objs.size ≠ X.env.locals := Nat.ne_of_gt I2.lt
  have Dfp : s2.heap.objs.size ∉ fp := fun z => absurd (hlt _ z) (Nat.lt_irrefl _)
  have loop : ∀ s₃ : Shared, s₃ = { s2 with heap := h₁, toks := s2.toks + ([] : List (Str × Value)).length } →
      codeAny (model X.prog X.w) X.A (.compLoop (.ListComp elt [⟨.Name x px, iter, ifs, 0⟩] scope pos) 0 (.ref it) (.ref s2.heap.objs.size) (compEnvC scope (cloOf X.env.cells scope.names []) G.objs.size X.env))
        (compPost (model X.prog X.w) X.A X.xe none (EP X pins σ Q) (.ref s2.heap.objs.size) G.objs.size) s₃ := by
    rintro s₃ rfl
    refine comp_loop
      (fun n s' => ∃ i o H' ys its k, Inv (cxComp X scope (compNs x fr) s2 H2 G.objs.size fp) [] (o :: compRest σ fr) H' s' ∧ tn i s'.heap ∧ (∀ b ∈ fp, H' b = none) ∧ H' s2.heap.objs.size = none ∧
        s'.heap.get? s2.heap.objs.size = some { cls := .type "list", data := .seq (its : List Value).toArray k } ∧ Vals ys its ∧ W i n ys H') ?_ m0
      ⟨0, none, H2, [], [], 0, I4, tn4, fun b hb => (f2 b hb).1, I2.hok.fresh (Nat.le_refl _), hacc, .nil, w0⟩
    rintro n s5 ⟨i, o, H5, ys, its, k, I5, st5, fr5, D5, hD5, r5, w5⟩
    have fok : ∀ {H' : Hp}, (∀ b ∈ fp, H' b = none) → ∀ b ∈ fp, FpOk (cxComp X scope (compNs x fr) s2 H2 G.objs.size fp) [] H' b := fun hn b hb =>
      ⟨hn b hb, (I5.ok.exf b hb).1, I5.ok.exfs b hb, .inl hb, (I5.ok.exf b hb).2, fun p hp => absurd (show p ∈ ([] : List (Addr × Obj)) from hp) (by simp)⟩
    have dok : ∀ {H' : Hp}, H' s2.heap.objs.size = none → FpOk (cxComp X scope (compNs x fr) s2 H2 G.objs.size fp) [] H' s2.heap.objs.size := fun hn =>
      ⟨hn, hDC, Dfs, .inr (Nat.le_refl _), fun y c e => Dcl y c (B.sub I2.ok _ _ e), fun p hp => absurd (show p ∈ ([] : List (Addr × Obj)) from hp) (by simp)⟩
    obtain ⟨hz, alt⟩ := turn i n ys H5 w5
    have hzl : its.length ≤ sizeLine := by rw [← r5.length]; exact Nat.le_of_lt hz
    rcases alt with ⟨stop, fin⟩ | ⟨go, step⟩
    · refine thn (T.done (cxComp X scope (compNs x fr) s2 H2 G.objs.size fp) rfl rfl rfl hc i (pinsAt [s2.heap.objs.size] s5.heap) s5 (o :: compRest σ fr) H5 _ ?_ (fun b hb => ?_) st5 stop) fun r s6 ⟨hr, I6⟩ => ?_
      · exact (Inv.pinned I5 (fp := [s2.heap.objs.size]) (fun b hb => by rw [List.mem_singleton.mp hb]; exact dok D5) fun b hb => by
          rw [List.mem_singleton.mp hb]
          exact ⟨_, hD5, fun v z => by cases z⟩)
      · obtain ⟨f0, f1, f2', f3, f4, f5⟩ := fok fr5 b hb
        refine ⟨f0, f1, f2', f3, f4, fun p hp => ?_⟩
        have hp' : p ∈ pinsAt [s2.heap.objs.size] s5.heap := (List.mem_append.mp hp).elim (fun z => absurd (show p ∈ ([] : List (Addr × Obj)) from z) (by simp)) id
        have := (of_pinsAt hp').1
        rw [List.mem_singleton.mp this]
        exact fun e => Dfp (by rw [e]; exact hb)
      · subst hr
        have hD6 := (I6.pin (s2.heap.objs.size, { cls := .type "list", data := .seq its.toArray k }) (List.mem_append_right _ (mem_pinsAt (by simp) hD5))).1
        obtain ⟨m6, hn6, _⟩ := I6.loc
        refine ⟨m6, hn6, fun h' hs' => ?_⟩
        have hCn : s2.heap.get? G.objs.size = none := by
          cases e : s2.heap.get? G.objs.size with
          | none => rfl
          | some ob => exact absurd (Heap.lt_size e) (by rw [hC]; exact Nat.not_lt.mpr (Nat.le_succ _))
        have neC : ∀ b ob, s2.heap.get? b = some ob → b ≠ G.objs.size := fun b ob e z => by rw [z, hCn] at e; cases e
        have u6 : Un (frs X.stack) fp H2 H5 s2.heap s6.heap := I6.base
        have u7 : Un (frs X.stack) fp H2 H5 s2.heap h' := ⟨fun b ob e n hb hx => hs'.extBut b ob (neC b ob e) (u6.keep b ob e n hb hx), fun b ob e n hb hx => by
            obtain ⟨sl, q⟩ := u6.slot b ob e n hb hx
            exact ⟨sl, hs'.extBut b _ (neC b ob e) q⟩, u6.free, fun b ob e hx => by
            obtain ⟨o', q⟩ := u6.there b ob e hx
            exact ⟨o', hs'.extBut b _ (neC b ob e) q⟩, u6.tups, u6.frzs, u6.tbls⟩
        have hC5 : H5 G.objs.size = none := I6.free
        have hok7 : HOk X.prog X.w H5 h' := fun b ob e => (I6.hok b ob e).stay (fun c u hc q => hs'.extBut c u (by
            rintro rfl
            rcases hc with rfl | hc
            · rw [hC5] at e; cases e
            · rw [hC5] at hc; cases hc) q) (fun _ q => q) fun _ _ q => q
        have I7 : Inv X pins σ H5 { s6 with heap := h' } := I2.call' (s' := { s6 with heap := h' }) (I6.os) u7 hok7 I6.bare fun b hb => ⟨(f2 b hb).2.2.2.1, (f2 b hb).2.1, (f2 b hb).2.2.2.2.1, (f2 b hb).2.2.2.2.2⟩
        refine ⟨.ref s2.heap.objs.size, upd H5 s2.heap.objs.size (.lst ys), I7.track D5 I2.sz DL Dcl (fun p hp z => ?_) ?_, rfl, fin _ D5⟩
        · obtain ⟨e, _⟩ := I2.pin p hp
          rw [z] at e
          exact absurd (Heap.lt_size e) (Nat.lt_irrefl _)
        · exact ⟨Nat.le_of_lt hz, its, k, r5, hs'.extBut _ _ hDC hD6⟩
    · refine anyE (thn (T.item (cxComp X scope (compNs x fr) s2 H2 G.objs.size fp) rfl rfl rfl hc i (pinsAt [s2.heap.objs.size] s5.heap) s5 (o :: compRest σ fr) H5 _ ?_ (fun b hb => ?_) st5 go) fun r s6 ⟨u, hr, h6⟩ => ?_)
      · exact (Inv.pinned I5 (fp := [s2.heap.objs.size]) (fun b hb => by rw [List.mem_singleton.mp hb]; exact dok D5) fun b hb => by
          rw [List.mem_singleton.mp hb]
          exact ⟨_, hD5, fun v z => by cases z⟩)
      · obtain ⟨f0, f1, f2', f3, f4, f5⟩ := fok fr5 b hb
        refine ⟨f0, f1, f2', f3, f4, fun p hp => ?_⟩
        have hp' : p ∈ pinsAt [s2.heap.objs.size] s5.heap := (List.mem_append.mp hp).elim (fun z => absurd (show p ∈ ([] : List (Addr × Obj)) from z) (by simp)) id
        have := (of_pinsAt hp').1
        rw [List.mem_singleton.mp this]
        exact fun e => Dfp (by rw [e]; exact hb)
      · subst hr
        refine thn h6 fun _ s7 ⟨v, H7, I7, rv, y7, st7, fr7⟩ => ?_
        have p7 := I7.pin (s2.heap.objs.size, { cls := .type "list", data := .seq its.toArray k }) (List.mem_append_right _ (mem_pinsAt (by simp) hD5))
        have hD7 : s7.heap.get? s2.heap.objs.size = some { cls := .type "list", data := .seq its.toArray k } := p7.1
        have D7 : H7 s2.heap.objs.size = none := p7.2.1
        have I7u : Inv (cxComp X scope (compNs x fr) s2 H2 G.objs.size fp) [] (o :: compRest σ fr) H7 s7 := Inv.unpinned (pins := []) I7
        have I8 := Inv.pinned I7u (fp := s2.heap.objs.size :: fp) (fun b hb => by
            rcases List.mem_cons.mp hb with e | hb
            · rw [e]; exact dok D7
            · exact fok fr7 b hb) fun b hb => by
            rcases List.mem_cons.mp hb with e | hb
            · rw [e]; exact ⟨_, hD7, fun v z => by cases z⟩
            · exact T.obj _ _ st7 b hb
        have hl : Loc (cxComp X scope (compNs x fr) s2 H2 G.objs.size fp).env.scope x := .inl (lookup_relabel_local B.here)
        have pk : ∀ {σ' : St} {H' : Hp} {s' : Shared}, Inv (cxComp X scope (compNs x fr) s2 H2 G.objs.size fp) ([] ++ pinsAt (s2.heap.objs.size :: fp) s7.heap) σ' H' s' →
            tn (i + 1) s'.heap ∧ (∀ b ∈ fp, H' b = none) ∧ H' s2.heap.objs.size = none ∧ s'.heap.get? s2.heap.objs.size = some { cls := .type "list", data := .seq its.toArray k } := fun {σ' H' s'} I' => by
          have pD := I'.pin (s2.heap.objs.size, { cls := .type "list", data := .seq its.toArray k }) (List.mem_append_right _ (List.mem_append_right _ (mem_pinsAt (by simp) hD7)))
          refine ⟨T.keep _ _ _ st7 fun b hb ob e => (I'.pin (b, ob) (List.mem_append_right _ (List.mem_append_right _ (mem_pinsAt (List.mem_cons_of_mem _ hb) e)))).1, fun b hb => ?_, pD.2.1, pD.1⟩
          obtain ⟨ob, e, _⟩ := T.obj _ _ st7 b hb
          exact (I'.pin (b, ob) (List.mem_append_right _ (List.mem_append_right _ (mem_pinsAt (List.mem_cons_of_mem _ hb) e)))).2.1
        refine anyE (thn (pg_name (X := cxComp X scope (compNs x fr) s2 H2 G.objs.size fp) (i := 0) B.nd rfl hl (.inr (lookup_relabel_local B.here)) _ s7 _ H7 v u (fun σ' H' => σ' = some v :: compRest σ fr ∧ H' = H7) I8 rv ⟨rfl, rfl⟩) fun _ s8 ⟨σ8, H8, I9, e1, e2⟩ => ?_)
        subst e1 e2
        refine anyE (thn (ht s2 H2 G.objs.size fp _ s8 _ H8 _ I9 (step v H8 y7)) fun ok s9 ⟨H9, I10, q10⟩ => ?_)
        cases ok with
        | false =>
          rw [if_neg Bool.false_ne_true] at q10
          rw [if_neg Bool.false_ne_true]
          obtain ⟨m', hm, w'⟩ := q10
          obtain ⟨k1, k2, k3, k4⟩ := pk I10
          exact ⟨m', hm, i + 1, some v, H9, ys, its, k, Inv.unpinned (pins := []) I10, k1, k2, k3, k4, r5, w'⟩
        | true =>
          rw [if_pos rfl] at q10
          rw [if_pos rfl]
          refine anyE (thn (he s2 H2 G.objs.size fp _ s9 _ H9 _ I10 q10) fun y' s10 ⟨y, H10, I11, ry, m', hm, w'⟩ => ?_)
          obtain ⟨k1, k2, k3, k4⟩ := pk I11
          refine append_at k4 (fun h' hs' hD' => ?_) (by rw [List.size_toArray]; exact hzl)
          have I12 : Inv (cxComp X scope (compNs x fr) s2 H2 G.objs.size fp) [] (some v :: compRest σ fr) H10 { s10 with heap := h' } :=
            (Inv.unpinned (pins := []) I11).turned (t' := s10.toks) (it := s2.heap.objs.size) (fun b ob hb e => (hs'.2 b hb).trans e) k3 hDC (.inr (Nat.le_refl _)) (fun z c e => Dcl z c (B.sub I2.ok _ _ e)) fun p hp => absurd (show p ∈ ([] : List (Addr × Obj)) from hp) (by simp)
          refine ⟨m', hm, i + 1, some v, H10, ys ++ [y], its ++ [y'], k + 1, I12, T.keep _ _ _ k1 fun b hb ob e => (hs'.2 b fun z => Dfp (by rw [← z]; exact hb)).trans e, k2, k3, ?_, r5.append (.cons ry .nil), w'⟩
          rw [hD']
          simp
  exact codeAny_compStart_list (loop _ rfl) (T.self _ 0 _ _ _ tn4 (loop _ rfl))
end
end L2
set_option Elab.async false
set_option linter.all false
set_option maxRecDepth 100000
namespace L2
open PySem PySem.Spec PyProof.Rows
def tyN (H : Hp) : V → String
  | .non => "NoneType"
  | .bl _ => "bool"
  | .int _ => "int"
  | .str _ => "str"
  | .ref a => match H a with
    | some (.lst _) => "list"
    | some (.tup _) => "tuple"
    | some (.dK _) => "dict"
    | some (.frz _ (.lst _)) => "list"
    | _ => "?"
  | _ => "?"
def tyIs (T n : String) : Bool := T == n || (T == "bool" && n == "int")
def tyKnown : List String := ["NoneType", "bool", "int", "str", "list", "tuple", "dict"]
def tyAsked : List String := ["bool", "int", "str", "list", "tuple", "dict"]
theorem kit_known (K : PySem.W.Frag) : ∀ T ∈ tyKnown, ∀ n ∈ tyAsked, PySem.W.kitOne K (.type T) (.type n) = some (tyIs T n) := by
  intro T hT n hn
  simp only [tyKnown, tyAsked, List.mem_cons, List.not_mem_nil, or_false] at hT hn
  rcases hT with rfl | rfl | rfl | rfl | rfl | rfl | rfl <;> rcases hn with rfl | rfl | rfl | rfl | rfl | rfl <;> kernel_rfl
theorem tyN_of {K : PySem.W.Frag} {H : Hp} {x : V} (h : tyN H x ∈ tyKnown) : TyOf K H x (.type (tyN H x)) := by
  have no : ¬ ("?" ∈ tyKnown) := by decide
  cases x with
  | non => exact .non
  | bl b => exact .bl b
  | int i => exact .int i
  | str z => exact .str z
  | ref a =>
    unfold tyN at h ⊢
    dsimp only at h ⊢
    cases e : H a with
    | none => rw [e] at h; exact absurd h no
    | some o =>
      rw [e] at h
      cases o with
      | lst xs => exact .lst e
      | tup xs => exact .tup e
      | dK kvs => exact .dK e
      | frz ob u =>
        cases u with
        | lst xs => exact .frz e
        | _ => exact absurd h no
      | _ => exact absurd h no
  | _ => exact absurd h no
def rIsi (xs : List V) (H : Hp) (Q : VK) : Prop := ∃ x n, xs = [x, .ty n] ∧ tyN H x ∈ tyKnown ∧ n ∈ tyAsked ∧ Q (.bl (tyIs (tyN H x) n)) H
section
variable {X : Cx}
theorem call_isi : CallR X (.builtin "isinstance") rIsi := by
  intro pins s σ H xs us Q I r h
  obtain ⟨x, n, rfl, h1, h2, q⟩ := h
  obtain ⟨u, v, rfl, ru, rv⟩ := vals2 r
  cases rv
  exact isinst_ok I ru (tyN_of h1) (kit_known X.K _ h1 _ h2) fun tk => ⟨.bl _, H, I.tok tk, rfl, q⟩
end
end L2
set_option Elab.async false
set_option linter.all false
set_option maxRecDepth 100000
namespace L2
open PySem PySem.Spec PyProof.Rows
section
variable {X : Cx}
theorem boolsAre_of {bs : List Bool} : ∀ {us : List Value}, Vals (bs.map V.bl) us → LSm.BoolsAre us bs := by
  induction bs with
  | nil => intro us r; rw [List.map_nil] at r; cases r; exact .nil
  | cons b bs ih =>
    intro us r
    rw [List.map_cons] at r
    cases r with
    | cons r1 r2 =>
      cases r1
      exact .cons b (ih r2)
def rAny (K : PySem.W.Frag) (xs : List V) (H : Hp) (Q : VK) : Prop := ∃ (p : Addr) (bs : List Bool), xs = [.ref p] ∧ SqL K H p (bs.map V.bl) ∧ Q (.bl (bs.any id)) H
theorem call_any (hc : X.calm = true) : CallR X (.builtin "any") (rAny X.K) := by
  intro pins s σ H xs us Q I r h
  obtain ⟨p, bs, rfl, hq, q⟩ := h
  obtain ⟨u, rfl, rx⟩ := vals1 r
  cases rx
  obtain ⟨its, r', pl, hz⟩ := I.list hq
  have hb := boolsAre_of r'
  have hl := pl.isList
  have hlt : p < s.heap.objs.size := by obtain ⟨_, e, _⟩ := hl; exact Heap.lt_size e
  refine call_any_walk (wpAny_pyIter_list hl ?_)
  refine ⟨s.heap.objs.size, [s.heap.objs.size, p], [s.heap.objs.size], its.toArray.size, _, _, fun i => (bs[i]?).getD false, rfl, Walks.list (A := X.A.in1) (I.ok.hd hc) _ p (Nat.ne_of_lt hlt) its.toArray,
    ⟨⟨_, Heap.get?_push_size _ rfl, rfl, rfl⟩, hl.push _⟩, fun i v s' Q' E' hP hQ => ?_, fun h' tk hk => ?_⟩
  · obtain ⟨b, e, rfl⟩ := hb.get i v (by simpa using hP)
    simp only [e, Option.getD_some] at hQ
    exact wpAny_truthy_bool hQ
  · have e : ((List.range its.toArray.size).any fun i => (bs[i]?).getD false) = bs.any id := by
      rw [List.size_toArray, hb.length]; exact LSm.range_any bs
    rw [e]
    exact ⟨.bl (bs.any id), H, I.kept (t' := tk) (LSm.kept_iter hk), rfl, q⟩
mutual
inductive DataV (K : PySem.W.Frag) (H : Hp) : V → PyData → Prop
  | non : DataV K H .non .none
  | bl (b : Bool) : DataV K H (.bl b) (.bool b)
  | int (i : Int) : DataV K H (.int i) (.int i)
  | str (x : Str) : DataV K H (.str x) (.str x)
  | lst {a : Addr} {xs : List V} {ds : List PyData} : SqL K H a xs → DataVs K H xs ds → DataV K H (.ref a) (.list ds)
  | tup {a : Addr} {xs : List V} {ds : List PyData} : SqT K H a xs → DataVs K H xs ds → DataV K H (.ref a) (.tuple ds)
inductive DataVs (K : PySem.W.Frag) (H : Hp) : List V → List PyData → Prop
  | nil : DataVs K H [] []
  | cons {x : V} {xs : List V} {d : PyData} {ds : List PyData} : DataV K H x d → DataVs K H xs ds → DataVs K H (x :: xs) (d :: ds)
end
mutual
theorem DataV.reads {pins : List (Addr × Obj)} {s : Shared} {σ : St} {H : Hp} (I : Inv X pins σ H s) : ∀ {x : V} {d : PyData}, DataV X.K H x d → ∀ {u : Value}, RelV x u → ∃ as, Reads s.heap u d as
  | _, _, .non, _, r => by cases r; exact ⟨_, .none⟩
  | _, _, .bl b, _, r => by cases r; exact ⟨_, .bool b⟩
  | _, _, .int i, _, r => by obtain ⟨t, rfl⟩ := r; exact ⟨_, .int i t⟩
  | _, _, .str z, _, r => by obtain ⟨t, rfl⟩ := r; exact ⟨_, .str z t⟩
  | _, _, .lst hq hd, _, r => by
    cases r
    obtain ⟨its, rv, pl, _⟩ := I.list hq
    obtain ⟨as, ha⟩ := DataVs.reads I hd rv
    obtain ⟨o, n, e, c, _, d⟩ := pl
    exact ⟨_, .list e c d ha⟩
  | _, _, .tup hq hd, _, r => by
    cases r
    obtain ⟨its, rv, pl, _⟩ := I.tuple hq
    obtain ⟨as, ha⟩ := DataVs.reads I hd rv
    obtain ⟨o, e, c, n, d⟩ := pl
    exact ⟨_, .tuple e c d ha⟩
theorem DataVs.reads {pins : List (Addr × Obj)} {s : Shared} {σ : St} {H : Hp} (I : Inv X pins σ H s) : ∀ {xs : List V} {ds : List PyData}, DataVs X.K H xs ds → ∀ {us : List Value}, Vals xs us → ∃ as, ReadsAll s.heap us ds as
  | _, _, .nil, _, r => by cases r; exact ⟨_, .nil⟩
  | _, _, .cons h t, _, r => by
    cases r with
    | cons r1 r2 =>
      obtain ⟨as, ha⟩ := DataV.reads I h r1
      obtain ⟨bs, hb⟩ := DataVs.reads I t r2
      exact ⟨_, .cons ha hb⟩
end
def rEqD (K : PySem.W.Frag) : R2 := fun x y H Q => ∃ da db, DataV K H x da ∧ DataV K H y db ∧ SeqAt.shaped da = true ∧ SeqAt.shaped db = true ∧ Q (.bl (PyData.eqv da db)) H
theorem op_eqD (hu : X.A.units + 64 < cLine) : OpR X (compareOp .Eq) (rEqD X.K) := by
  intro pins s σ H x y v u Q I rx ry h
  obtain ⟨da, db, ha, hb, sa, sb, q⟩ := h
  obtain ⟨as, ra⟩ := ha.reads I rx
  obtain ⟨bs, rb⟩ := hb.reads I ry
  exact eq_dataH ra rb sa sb hu ⟨.bl _, H, I, rfl, q⟩
end
end L2
set_option Elab.async false
set_option linter.all false
set_option maxRecDepth 100000
namespace L2
open PySem PySem.Spec PyProof.Rows
section
variable {σ : St} {H : Hp} {Q : VK} {D : Ends}
variable {K : PySem.W.Frag}
end
structure Top (K : PySem.W.Frag) (mg : Str → Option Value) (x : Str) (st : Stmt) : Prop where
  ex : ∃ (f : Addr) (fd : FuncData), Fun K x x st f fd ∧ mg x = some (.ref f)
structure Def (P : Program) (w : World) (K : PySem.W.Frag) (mg : Str → Option Value) (base : Heap) (CX : CXT) (k : Nat) (x : Str) (ps : List Str) (sp : Sp) : Prop where
  ex : ∃ (f : Addr) (fd : FuncData), FnOk P w K mg base CX k f fd ps sp ∧ mg x = some (.ref f) ∧ PySem.W.keepIn K (.ref f) = true ∧ Binds K fd ps []
section
variable {P : Program} {w : World} {K : PySem.W.Frag} {mg : Str → Option Value} {base : Heap}
theorem Top.mk' {x : Str} {st : Stmt} {h : Heap} {f : Addr} {oc : Value} {od an : Option Addr} {osl : Array (Option Value)} {kV doc pm cdv ct : Value} (X : K.In h) (G : h.Ns mainGlobals mg) (a : PySem.W.nsIn K mainGlobals x = some (some (.ref f)))
    (l : K.lookup f = some ⟨oc, od, .func (PySem.W.fnOf x x (defArgs st) (defBody st) (defScope st) .none kV doc pm an cdv ct), osl⟩) (c : PySem.W.codeIn K cdv x = true) (k : PySem.W.keepIn K (.ref f) = true) : Top K mg x st :=
  ⟨⟨f, _, fun_mk l c k, PySem.W.mg_of X G a⟩⟩
theorem Top.def {x : Str} {st : Stmt} {N ps : List Str} {k : Nat} {sp : Sp} (T : Top K mg x st) (S : FnScope N ps (defScope st)) (len : ∀ vs H Q E, sp vs H Q E → vs.length = ps.length)
    (hb : ∀ (kV doc pm : Value) (an : Option Addr) (cdv ct : Value) (us : List Value), us.length = ps.length → bindArgs (PySem.W.fnOf x x (defArgs st) (defBody st) (defScope st) .none kV doc pm an cdv ct) ⟨us, []⟩ = pure (ps.zip us))
    (hbody : ∀ (f : Addr) (cdv : Value) (A : Around) (outer : List Env) (s : Shared) (H : Hp) (vs : List V) (Q : VK) (E : XK), Room k (A.deeper (envOfC x (defScope st) s.heap.objs.size f cdv)) → sp vs H Q E →
      ∃ t, PSs (cxOf CX0 P w K mg base N x (defScope st) f cdv A outer s H E).nox (defBody st) t ∧ t { nx := fun _ H' => Q .non H', rt := Q } (start N vs) H) : Def P w K mg base CX0 (k + 1) x ps sp := by
  obtain ⟨f, fd, F, m⟩ := T.ex
  exact ⟨⟨f, fd, F.ok S len (hbody f), m, F.kp, F.binds hb⟩⟩
theorem pe_def {X : Cx} {k : Nat} {x : Str} {ps : List Str} {sp : Sp} {p pos : Pos} {e : Expr} {es : List Expr} {t : TA} (D : Def X.prog X.w X.K X.mg X.base CX0 k x ps sp) (hr : Room k X.A) (ha : PA X (e :: es) t) (hg : Gl X x := by rfl)
    (hdb : (x == ("__debug__" : Str)) = false := by decide) (he : starEach (e :: es) X.env = (false, eval e X.env) :: starEach es X.env := by rfl) (hpl : (backTo pos (starEach es X.env)).any (·.1) = false := by rfl) :
    PE X (.Call (.Name x p) (e :: es) [] pos) (tCall sp [] E0 t) := by
  obtain ⟨f, fd, F, m, kp, b⟩ := D.ex
  exact pe_call F hr hg m kp b .nil pass0 ha hdb he hpl
end
open PySem.W in
theorem bits_weight : ∀ (ns : List Int) (n : Int), n ∈ ns → Builtin.Int.intBits n ≤ WData.weightAll (ns.map WData.int)
  | m :: r, n, h => by
    rw [List.map_cons]
    have e : WData.weightAll (WData.int m :: r.map WData.int) = WData.weight (.int m) + 1 + WData.weightAll (r.map WData.int) := by simp only [WData.weightAll]
    rw [e]
    rcases List.mem_cons.mp h with rfl | h
    · have : Builtin.Int.intBits n = WData.weight (.int n) := by simp only [WData.weight, Builtin.Int.intBits]
      omega
    · have := bits_weight r n h
      omega
open PySem.W in
theorem bits_script {ns : List Int} (h : WData.layableAll [WData.list (ns.map WData.int)] = true) : ∀ n ∈ ns, Builtin.Int.intBits n ≤ 1048576 := fun n hn => by
  have h1 : (WData.list (ns.map WData.int)).layable = true := PySem.W.layableW_arg h _ (by simp)
  have h2 := (PySem.W.layableW_iff.mp h1).2.2
  have h3 : WData.weight (.list (ns.map WData.int)) = WData.weightAll (ns.map WData.int) := by simp only [WData.weight]
  have h4 := bits_weight ns n hn
  have h5 : (2 : Nat) ^ 20 = 1048576 := by decide
  omega
open PySem.W PySem.Calls in
theorem attachB {l : OpenLaw} {n : Nat} {q : Program} {loose : List Str} {XP : (Str → Option Value) → Heap → Prop} {YP : World → Heap → Prop} {d : DefRec}
    (hn : l.most = some n) (hdf : d.params.defaults = [])
    (call : ∀ (w : World) (s₀ s₁ : Shared) (mg mb : Str → Option Value) (fa a : Addr) (vs : List Value) (ns : List Int),
      Ground q loose [] XP w s₀ mg mb s₁.heap → YP w s₁.heap → mg d.name = some (.ref fa) →
      s₁.heap.get? a = some { cls := .type "list", data := .seq vs.toArray } → IntsAre vs ns → ns.length ≤ n → (∀ k ∈ ns, Builtin.Int.intBits k ≤ 1048576) → s₁.gens = #[] →
      codeAny (model l.prog w) callerA (.call (.ref fa) ⟨[.ref a], []⟩) (fun r s' => r = .ok (.ret (.bool true)) ∧ OldK s₁.heap s'.heap ∧ s'.os = s₁.os ∧ AllBare s'.gens) s₁) :
    WalkO q loose XP YP l.row.toRowW d [] (fun f vs => PySem.call f vs) := by
  intro w s₀ s₁ mg mb G Y fa o pm cd doc dV kV ho hd hcd hD hmg hg args vals as' hpre hlay hrd hwl hlo
  obtain rfl : dV = .none := Dflts.none hD hdf
  obtain ⟨a, vs, ns, rfl, rfl, hobj, hints, hlen⟩ := Att.script_of hn hpre hwl
  refine enter_call (codeAny_mono (call w s₀ s₁ mg mb fa a vs ns G Y hmg hobj hints hlen (bits_script hlay) hg) fun r s' hq => ?_)
  obtain ⟨rfl, h2, h3, h4⟩ := hq
  exact ⟨.inl ⟨.bool true, .bool true, [], rfl, fun _ => rfl, .bool true, Att.post_true l _, fun _ => ⟨List.Pairwise.nil, fun _ hm => (nomatch hm)⟩⟩, h2, h3, h4⟩
def spLaw (K : PySem.W.Frag) : Sp := fun vs H Q _ => ∃ (a : Addr) (ns : List Int), vs = [.ref a] ∧ SqL K H a (ns.map V.int) ∧ ns.length ≤ 63 ∧ (∀ k ∈ ns, Builtin.Int.intBits k ≤ 1048576) ∧ ∀ H', Q (.bl true) H'
theorem walk_law {l : PySem.W.OpenLaw} {k : Nat} {q : Program} {loose : List Str} {XP : (Str → Option Value) → Heap → Prop} {YP : World → Heap → Prop} {d : DefRec} {K : Params → PySem.W.Frag} {x : Str} {st : Stmt}
    (hn : l.most = some 63) (hdf : d.params.defaults = []) (hr : Room k callerA) (hY : ∀ (w : World) (h : Heap), YP w h → (K w.params).In h)
    (hb : ∀ (kV doc pm : Value) (an : Option Addr) (cdv ct u : Value), bindArgs (PySem.W.fnOf d.name d.name (defArgs st) (defBody st) (defScope st) .none kV doc pm an cdv ct) ⟨[u], []⟩ = pure [(x, u)])
    (F : ∀ (w : World) (mg : Str → Option Value) (h : Heap), (K w.params).In h → h.Ns mainGlobals mg → Top (K w.params) mg d.name st ∧
      ∀ (f : Addr) (fd : FuncData), Fun (K w.params) d.name d.name st f fd → ∀ base : Heap, (K w.params).In base → base.Ns mainGlobals mg → FnOk l.prog w (K w.params) mg base CX0 k f fd [x] (spLaw (K w.params))) :
    PySem.W.WalkO q loose XP YP l.row.toRowW d [] (fun f vs => PySem.call f vs) := by
  refine attachB hn hdf fun w s₀ s₁ mg mb fa a vs ns G Y hmg hobj hints hlen hbits hg => ?_
  have KX := hY w _ Y
  obtain ⟨T, FF⟩ := F w mg _ KX G.T.g
  obtain ⟨f, fd, Ff, m⟩ := T.ex
  have e := m.symm.trans hmg
  cases e
  have hbd : ∀ (s : Shared) (u : Value), BindsTo s fd ⟨[u], []⟩ [(x, u)] := by
    obtain ⟨oc, od, kV, doc, pm, an, cdv, ct, osl, rfl, lk, hcd⟩ := Ff.ex
    exact fun s u => .of_eq (hb kV doc pm an cdv ct u)
  exact law_call KX G.T.g G.T.b G.T.builtins G.T.nolimit hg hobj hints (Nat.le_trans hlen (by decide)) hr (FF _ fd Ff) hbd (fun H hO hS => ⟨a, ns, rfl, hS, hlen, hbits, fun _ => rfl⟩) fun H e s' h => h
end L2
set_option Elab.async false
set_option linter.all false
set_option maxRecDepth 100000
namespace L2
open PySem PySem.Spec PyProof.Rows
section
variable {σ : St} {H : Hp} {Q : VK} {K : PySem.W.Frag} {fr : List (Str × Nat)}
instance : Inhabited V := ⟨.non⟩
end
section
variable {σ : St} {H : Hp} {Q : VK} {K : PySem.W.Frag} {i j : Int}
end
section
variable {σ : St} {H : Hp} {K : PySem.W.Frag}
end
theorem same_upd {H : Hp} {p : Addr} {o : HO} (h : H p = none) : Same H (upd H p o) := fun b u e => by rw [upd_ne (ne_of_none e h)]; exact e
theorem pe_ty {X : Cx} {x : Str} {n : String} {pos : Pos} (hm : X.mg x = none) (hv : bootBuiltins x = some (.type n)) (hg : Gl X x := by rfl) (hn : x ≠ "__name__" := by decide) (hd : (x == ("__debug__" : Str)) = false := by decide) : PE X (.Name x pos) (tC (.ty n)) :=
  pe_bltn hg hm hv (show RelV (.ty n) (.type n) from rfl) hn hd
end L2
set_option Elab.async false
set_option linter.all false
set_option maxRecDepth 100000
namespace L2
open PySem PySem.Spec PyProof.Rows
section
variable {X : Cx}
end
end L2
set_option Elab.async false
set_option linter.all false
set_option maxRecDepth 100000
namespace L2
open PySem PySem.Spec PyProof.Rows
section
variable {P : Program} {w : World} {B : Around} {R : Result → Shared → Prop} {E : Value → Shared → Prop} {t : Shared} {i₀ : Addr} {fp wr : List Addr} {n : Nat} {p : Nat → Value → Prop} {st : Nat → Shared → Prop}
end
section
variable {P : Program} {w : World} {A : Around} {E : Value → Shared → Prop} {s : Shared}
end
section
variable {X : Cx}
theorem lay_list {pins : List (Addr × Obj)} {s : Shared} {σ : St} {H : Hp} {Q : VK} {ys : List V} (I : Inv X pins σ H s) (hz : ys.length ≤ sizeLine) (q : ∀ l, H l = none → Q (.ref l) (upd H l (.lst ys)))
    {l : Addr} (hl : s.heap.objs.size ≤ l) {h' : Heap} {k c : Nat} {acc : Array Value} (kp : ∀ b o, s.heap.get? b = some o → h'.get? b = some o) (ho : h'.get? l = some { cls := .type "list", dict := none, data := .seq acc c, slots := #[] }) (rv : Vals ys acc.toList) :
    EP X pins σ Q (.ref l) { s with heap := h', toks := k } :=
  ⟨.ref l, _, I.laid kp hl (show ObjOk X.prog X.w _ h' _ (.lst ys) from ⟨hz, acc.toList, c, rv, by simpa using ho⟩), rfl, q _ (I.hok.fresh hl)⟩
end
end L2
set_option Elab.async false
set_option linter.all false
set_option maxRecDepth 100000
namespace L2
open PySem PySem.Spec PyProof.Rows
section
variable {prog : Program} {w : World} {A : Around} {E : Value → Shared → Prop} {s : Shared}
end
variable {X : Cx}
end L2
set_option Elab.async false
set_option linter.all false
set_option maxRecDepth 100000
namespace L2
open PySem PySem.Spec PyProof.Rows
structure Flown (P : Program) (w : World) (outer : List Env) (H : Hp) (s : Shared) (E : XK) (ea t : Addr) (cls : Value) (B : Heap) (H' : Hp) (s' : Shared) : Prop where
  os : s'.os = s.os
  bare : AllBare s'.gens
  fly : Heap.FlyingW B outer ea cls (.ref t) s'.heap
  keep : ∀ b o, s.heap.get? b = some o → H b = none → b ∉ frs outer → B.get? b = some o
  there : ∀ b o, s.heap.get? b = some o → b ∉ frs outer → ∃ o', B.get? b = some o'
  slot : ∀ b o, s.heap.get? b = some o → b ∈ frs outer → H b = none → ∃ sl, s'.heap.get? b = some { o with slots := sl }
  free : ∀ b o, s.heap.get? b = some o → H b = none → H' b = none
  tups : ∀ b xs, H b = some (.tup xs) → H' b = some (.tup xs)
  frzs : ∀ b o u, H b = some (.frz o u) → H' b = some (.frz o u)
  tbls : ∀ b ps, H b = some (.tbl ps) → ∃ more, H' b = some (.tbl (ps ++ more))
  hok : HOk P w H' B
  wish : E cls none H'
section
variable {X : Cx}
theorem ObjOk.is {P : Program} {w : World} {H : Hp} {h : Heap} {a : Addr} {o : HO} (x : ObjOk P w H h a o) : ∃ u, h.get? a = some u := by
  induction o with
  | lst xs => obtain ⟨z, its, n, r, e⟩ := x; exact ⟨_, e⟩
  | tup xs => first | (obtain ⟨z, its, r, ob, e, c⟩ := x; exact ⟨_, e⟩) | (obtain ⟨z, its, r, ⟨ob, e, c⟩, _⟩ := x; exact ⟨_, e⟩)
  | dK kvs => obtain ⟨z, y, vs, r, ob, es, ep, e, c⟩ := x; exact ⟨_, e⟩
  | dT kvs => obtain ⟨z, y, xs, r, ob, es, ep, e, c⟩ := x; exact ⟨_, e⟩
  | set S n => obtain ⟨ob, es, ep, t, e, c⟩ := x; exact ⟨_, e⟩
  | ins C dx fs => obtain ⟨_, _, _, e, _⟩ := x; exact ⟨_, e⟩
  | own _ => exact x
  | xd fs => obtain ⟨_, ⟨_, _, _, e, _⟩, _⟩ := x; exact ⟨_, e⟩
  | rng lo hi => obtain ⟨_, _, _, e⟩ := x; exact ⟨_, e⟩
  | frz ob u => obtain ⟨e, _⟩ := x; exact ⟨_, e⟩
  | tbl ps => exact ⟨_, x⟩
  | met f y => exact ⟨_, x⟩
  | ext φ => obtain ⟨_, e, _⟩ := x; exact e
theorem ObjOk.newTup {P : Program} {w : World} {H : Hp} {h : Heap} {xs : List V} {its : List Value} (hz : xs.length ≤ sizeLine) (r : Vals xs its) : ObjOk P w H (h.push { cls := .type "tuple", data := .seq its.toArray }) h.objs.size (.tup xs) := by
  first | exact ⟨hz, its, r, ⟨_, Heap.get?_push_size _ rfl, rfl, _, rfl⟩⟩ | exact ⟨hz, its, r, ⟨_, Heap.get?_push_size _ rfl, rfl, _, rfl⟩, _, Heap.get?_push_size _ rfl, rfl⟩
end
def Cx.mkd (X : Cx) (e : Addr) : Cx := { X with A := X.A.mark (some (.ref e)), calm := false, xe := fun _ _ => False }
def Cx.inX (X : Cx) (e : Addr) (oe : Obj) : Cx := { X with A := X.A.mark (some (.ref e)), calm := false, pn := (e, oe) :: X.pn, xe := fun _ _ => False }
section
variable {X : Cx} {pins : List (Addr × Obj)} {σ : St} {H : Hp} {s : Shared} {e : Addr} {oe : Obj}
theorem Cx.Ok.mkd (ok : X.Ok) : (X.mkd e).Ok := ⟨ok.mod, ok.kind, ok.glob, ok.blt, ok.above, ok.inj, ok.has, ok.cab, fun h => absurd (show false = true from h) Bool.false_ne_true, ok.frames, ok.stk, ok.exf, ok.bs, ok.bsz, ok.noex, ok.exfs, ok.funs, ok.frf⟩
theorem Inv.mkd (I : Inv X pins σ H s) : Inv (X.mkd e) pins σ H s := ⟨I.ok.mkd, I.os, I.bare, I.base, I.loc, I.cell, I.free, I.freeC, I.pin, I.hok, I.len⟩
theorem Cx.Ok.inX (ok : X.Ok) : (X.inX e oe).Ok := ⟨ok.mod, ok.kind, ok.glob, ok.blt, ok.above, ok.inj, ok.has, ok.cab, fun h => absurd (show false = true from h) Bool.false_ne_true, ok.frames, ok.stk, ok.exf, ok.bs, ok.bsz, ok.noex, ok.exfs, ok.funs, ok.frf⟩
theorem Inv.inX (I : Inv X pins σ H s) (h1 : s.heap.get? e = some oe) (h2 : H e = none) (h3 : e ≠ X.env.locals) (h4 : e ∉ X.fs) (h5 : ∀ v, oe.data ≠ .cell v) : Inv (X.inX e oe) pins σ H s :=
  ⟨I.ok.inX, I.os, I.bare, I.base, I.loc, I.cell, I.free, I.freeC, fun p hp => by
    rcases List.mem_cons.mp (show p ∈ (e, oe) :: (X.pn ++ pins) from hp) with rfl | hp
    · exact ⟨h1, h2, h3, h4, h5⟩
    · exact I.pin p hp, I.hok, I.len⟩
def Ends.drop (D : Ends) (i : Nat) : Ends := { nx := fun σ H => D.nx (σ.set i none) H, rt := D.rt, bk := fun σ H => D.bk (σ.set i none) H, ct := fun σ H => D.ct (σ.set i none) H }
end
end L2
set_option Elab.async false
set_option linter.all false
set_option maxRecDepth 100000
namespace L2
open PySem PySem.Spec PyProof.Rows PySem.W Builtin Builtin.ObjectAttr Builtin.Getset_descriptor
section
variable {prog : Program} {w : World} {A : Around} {E : Value → Shared → Prop} {K : PySem.W.Frag} {a D : Addr} {o : Obj} {h : Heap} {g : Array GenState} {d : Drawn} {t : Nat} {os : OsState}
structure ExcK (K : PySem.W.Frag) (D : Addr) : Prop where
  ga : findIn K (.ref D) "__getattribute__" = some (some (.builtin "BaseException.__getattribute__"))
  gn : findIn K (.ref D) "__getattr__" = some none
  ca : findIn K (.ref D) "__class__" = some (some (.builtin "object.__class__"))
  sub : subIn K (.ref D) (.type "BaseException") = some true
  mro : mroIn K D (.type "object") = some true
  gs : specialIn K (.builtin "object.__class__") "__get__" = some (some (.builtin "getset_descriptor.__get__"))
  tk : takesIn K (.builtin "object.__class__") = some true
  cls : (clsIn K D).isSome = true
end
section
variable {X : Cx} {e : Addr} {oe : Obj} {D : Addr}
end
end L2
set_option Elab.async false
set_option linter.all false
set_option maxRecDepth 100000
namespace Mir
open PySem L2
class Zc where
  e : Addr
instance (priority := 10) zc0 : Zc := ⟨0⟩
variable [Zc]
noncomputable def cIf {α : Type} (c : Prop) (a b : α) : α := @ite α c (Classical.propDecidable c) a b
theorem cIf_pos {α : Type} {c : Prop} {a b : α} (h : c) : cIf c a b = a := by unfold cIf; rw [if_pos h]
theorem cIf_neg {α : Type} {c : Prop} {a b : α} (h : ¬ c) : cIf c a b = b := by unfold cIf; rw [if_neg h]
theorem cIf_true {α : Type} {a b : α} : cIf True a b = a := cIf_pos trivial
theorem cIf_eq {α : Type} {c : Prop} {a : Option α} {x : α} (h : cIf c a none = some x) : c ∧ a = some x := by
  by_cases hc : c
  · rw [cIf_pos hc] at h; exact ⟨hc, h⟩
  · rw [cIf_neg hc] at h; cases h
abbrev D := PyData
def KeyD : Key → D → Prop
  | .inl i, c => c = .int i
  | .inr x, c => c = .str x
mutual
inductive Rep (H : Hp) : V → D → Prop
  | non : Rep H .non .none
  | bl (b : Bool) : Rep H (.bl b) (.bool b)
  | int (i : Int) : Rep H (.int i) (.int i)
  | str (x : Str) : Rep H (.str x) (.str x)
  | lst {a : Addr} {xs : List V} {ds : List D} : Rd H a (.lst xs) → Reps H xs ds → Rep H (.ref a) (.list ds)
  | tup {a : Addr} {xs : List V} {ds : List D} : H a = some (.tup xs) → Reps H xs ds → Rep H (.ref a) (.tuple ds)
  | dct {a : Addr} {kvs : List (Key × V)} {es : List (D × D)} : Rd H a (.dK kvs) → RepKs H kvs es → Rep H (.ref a) (.dict es)
inductive Reps (H : Hp) : List V → List D → Prop
  | nil : Reps H [] []
  | cons {x : V} {xs : List V} {d : D} {ds : List D} : Rep H x d → Reps H xs ds → Reps H (x :: xs) (d :: ds)
inductive RepKs (H : Hp) : List (Key × V) → List (D × D) → Prop
  | nil : RepKs H [] []
  | cons {k : Key} {x : V} {kvs : List (Key × V)} {c d : D} {es : List (D × D)} : KeyD k c → Rep H x d → RepKs H kvs es → RepKs H ((k, x) :: kvs) ((c, d) :: es)
end
theorem rd_same {H H' : Hp} (e : Same H H') {a : Addr} {u : HO} (h : Rd H a u) : Rd H' a u := by
  rcases h with h | ⟨o, h⟩
  · exact .inl (e _ _ h)
  · exact .inr ⟨o, e _ _ h⟩
mutual
theorem Rep.mono {H H' : Hp} (e : Same H H') : ∀ {v : V} {d : D}, Rep H v d → Rep H' v d
  | _, _, .non => .non
  | _, _, .bl b => .bl b
  | _, _, .int i => .int i
  | _, _, .str x => .str x
  | _, _, .lst h r => .lst (rd_same e h) (Reps.mono e r)
  | _, _, .tup h r => .tup (e _ _ h) (Reps.mono e r)
  | _, _, .dct h r => .dct (rd_same e h) (RepKs.mono e r)
theorem Reps.mono {H H' : Hp} (e : Same H H') : ∀ {v : List V} {d : List D}, Reps H v d → Reps H' v d
  | _, _, .nil => .nil
  | _, _, .cons a b => .cons (Rep.mono e a) (Reps.mono e b)
theorem RepKs.mono {H H' : Hp} (e : Same H H') : ∀ {v : List (Key × V)} {d : List (D × D)}, RepKs H v d → RepKs H' v d
  | _, _, .nil => .nil
  | _, _, .cons k a b => .cons k (Rep.mono e a) (RepKs.mono e b)
end
theorem Reps.length {H : Hp} : ∀ {v : List V} {d : List D}, Reps H v d → v.length = d.length
  | _, _, .nil => rfl
  | _, _, .cons _ b => by simp [Reps.length b]
theorem Reps.get {H : Hp} : ∀ {v : List V} {d : List D} (i : Nat), Reps H v d → ∀ c, d[i]? = some c → ∃ x, v[i]? = some x ∧ Rep H x c
  | _, _, _, .nil, c, e => by simp at e
  | _, _, 0, .cons a _, c, e => by simp at e; subst e; exact ⟨_, rfl, a⟩
  | _, _, i + 1, .cons _ b, c, e => by
    obtain ⟨x, h1, h2⟩ := Reps.get i b c (by simpa using e)
    exact ⟨x, by simpa using h1, h2⟩
theorem Reps.append {H : Hp} : ∀ {v w : List V} {d c : List D}, Reps H v d → Reps H w c → Reps H (v ++ w) (d ++ c)
  | _, _, _, _, .nil, r => r
  | _, _, _, _, .cons a b, r => .cons a (Reps.append b r)
theorem Reps.take {H : Hp} : ∀ {v : List V} {d : List D} (n : Nat), Reps H v d → Reps H (v.take n) (d.take n)
  | _, _, 0, _ => .nil
  | _, _, _ + 1, .nil => .nil
  | _, _, n + 1, .cons a b => .cons a (Reps.take n b)
theorem Reps.drop {H : Hp} : ∀ {v : List V} {d : List D} (n : Nat), Reps H v d → Reps H (v.drop n) (d.drop n)
  | _, _, 0, r => r
  | _, _, _ + 1, .nil => .nil
  | _, _, n + 1, .cons _ b => Reps.drop n b
theorem Reps.set {H : Hp} {x : V} {c : D} (r : Rep H x c) : ∀ {v : List V} {d : List D} (i : Nat), Reps H v d → Reps H (v.set i x) (d.set i c)
  | _, _, _, .nil => .nil
  | _, _, 0, .cons _ b => .cons r b
  | _, _, i + 1, .cons a b => .cons a (Reps.set r i b)
theorem Reps.eraseIdx {H : Hp} : ∀ {v : List V} {d : List D} (i : Nat), Reps H v d → Reps H (v.eraseIdx i) (d.eraseIdx i)
  | _, _, _, .nil => .nil
  | _, _, 0, .cons _ b => b
  | _, _, i + 1, .cons a b => .cons a (Reps.eraseIdx i b)
theorem Reps.dropLast {H : Hp} {v : List V} {d : List D} (r : Reps H v d) : Reps H v.dropLast d.dropLast := by
  rw [List.dropLast_eq_take, List.dropLast_eq_take, r.length]; exact r.take _
theorem Reps.reverse {H : Hp} : ∀ {v : List V} {d : List D}, Reps H v d → Reps H v.reverse d.reverse
  | _, _, .nil => .nil
  | _, _, .cons a b => by rw [List.reverse_cons, List.reverse_cons]; exact (Reps.reverse b).append (.cons a .nil)
theorem Reps.flat {H : Hp} {v : List V} {d : List D} (r : Reps H v d) : ∀ k, Reps H (List.replicate k v).flatten (List.replicate k d).flatten
  | 0 => .nil
  | k + 1 => by
    rw [List.replicate_succ, List.replicate_succ, List.flatten_cons, List.flatten_cons]; exact r.append (Reps.flat r k)
inductive Sl where
  | no | fz (d : D) | own (d : D) | io (d : D) | ro (d : D) | ex
def Sl.isOwn : Sl → Bool
  | .own _ => true
  | .io _ => true
  | _ => false
def Sl.isRef : Sl → Bool
  | .own _ => true
  | .io _ => true
  | .ro _ => true
  | _ => false
theorem Sl.ref_of {s : Sl} (h : s.isOwn = true) : s.isRef = true := by cases s <;> first | rfl | cases h
abbrev Rho := List Sl
inductive Kd where
  | fz | new | at (i : Nat) | ro
abbrev RV := D × Kd
inductive Own (B H : Hp) (p : Addr) : D → Prop
  | lst {xs : List V} {ds : List D} : H p = some (.lst xs) → Reps B xs ds → Own B H p (.list ds)
  | dct {kvs : List (Key × V)} {es : List (D × D)} : H p = some (.dK kvs) → RepKs B kvs es → Own B H p (.dict es)
theorem Own.there {B H : Hp} {p : Addr} {d : D} (h : Own B H p d) : ∃ o, H p = some o := by cases h with
  | lst h _ => exact ⟨_, h⟩
  | dct h _ => exact ⟨_, h⟩
theorem Own.ne_none {B H : Hp} {p : Addr} {d : D} (h : Own B H p d) : H p ≠ none := by
  obtain ⟨o, e⟩ := h.there; rw [e]; simp
theorem Own.mono {B H B' H' : Hp} {p : Addr} {d : D} (h : Own B H p d) (e : Same B B') (k : ∀ o, H p = some o → H' p = some o) : Own B' H' p d := by cases h with
  | lst h r => exact .lst (k _ h) (r.mono e)
  | dct h r => exact .dct (k _ h) (r.mono e)
theorem Own.rep {B H : Hp} {p : Addr} {d : D} (h : Own B H p d) (e : Same B H) : Rep H (.ref p) d := by cases h with
  | lst h r => exact .lst (.inl h) (r.mono e)
  | dct h r => exact .dct (.inl h) (r.mono e)
theorem Own.frozen {B H B' : Hp} {p : Addr} {d : D} (h : Own B H p d) (e : Same B B') (k : ∀ o, H p = some o → B' p = some o) : Rep B' (.ref p) d := by cases h with
  | lst h r => exact .lst (.inl (k _ h)) (r.mono e)
  | dct h r => exact .dct (.inl (k _ h)) (r.mono e)
structure Fr where
  B : Hp
  H : Hp
  io : List (Nat × Addr)
  Z : Addr → Prop
def SlotOk (B H : Hp) (σ : St) (i : Nat) : Sl → Prop
  | .no => True
  | .ex => True
  | .fz d => ∃ v, σ[i]? = some (some v) ∧ Rep B v d
  | .own d => ∃ p, σ[i]? = some (some (.ref p)) ∧ B p = none ∧ Own B H p d
  | .io d => ∃ p, σ[i]? = some (some (.ref p)) ∧ B p = none ∧ Own B H p d
  | .ro d => ∃ p, σ[i]? = some (some (.ref p)) ∧ Own B H p d
structure Rel (F : Fr) (B H : Hp) (σ : St) (ρ : Rho) : Prop where
  sub : Same B H
  sB : Same F.B B
  sH : ∀ q o, F.H q = some o → (∀ x ∈ F.io, x.2 ≠ q) → H q = some o
  nB : ∀ q, F.H q ≠ none → F.B q = none → B q = none
  len : ρ.length = σ.length
  slot : ∀ (i : Nat) (s : Sl), ρ[i]? = some s → SlotOk B H σ i s
  dist : ∀ (i j : Nat) (s t : Sl) (p : Addr), ρ[i]? = some s → s.isOwn = true → ρ[j]? = some t → t.isRef = true → σ[i]? = some (some (.ref p)) → σ[j]? = some (some (.ref p)) → i = j
  ownN : ∀ (i : Nat) (d : D) (p : Addr), ρ[i]? = some (.own d) → σ[i]? = some (some (.ref p)) → F.H p = none
  fx : ∀ x ∈ F.io, σ[x.1]? = some (some (.ref x.2)) ∧ ∃ d, ρ[x.1]? = some (.io d)
  ioN : ∀ (i : Nat) (d : D), ρ[i]? = some (.io d) → ∃ p, (i, p) ∈ F.io
  tupB : ∀ q xs, H q = some (.tup xs) → B q = some (.tup xs)
  exv : ∀ i : Nat, ρ[i]? = some .ex → σ[i]? = some (some (.ref Zc.e))
  nz : ∀ q o u, H q = some (.frz o u) → F.Z q
structure Ext (σ : St) (ρ : Rho) (B H : Hp) (ρ' : Rho) (B' H' : Hp) : Prop where
  sB : Same B B'
  keep : ∀ q o, H q = some o → (∀ (i : Nat) (s : Sl), ρ[i]? = some s → s.isOwn = true → σ[i]? ≠ some (some (.ref q))) → H' q = some o ∧ (B q = none → B' q = none)
  own : ∀ (i : Nat) (s' : Sl), ρ'[i]? = some s' → s'.isOwn = true → ∃ s, ρ[i]? = some s ∧ s.isOwn = true
  ref : ∀ (i : Nat) (s' : Sl), ρ'[i]? = some s' → s'.isRef = true → ∃ s, ρ[i]? = some s ∧ s.isRef = true
  live : ∀ q, H' q = none → H q = none
theorem Ext.refl (σ : St) (ρ : Rho) (B H : Hp) : Ext σ ρ B H ρ B H := ⟨Same.refl _, fun _ _ h _ => ⟨h, id⟩, fun _ s h e => ⟨s, h, e⟩, fun _ s h e => ⟨s, h, e⟩, fun _ h => h⟩
theorem Ext.trans {σ : St} {ρ ρ1 ρ2 : Rho} {B H B1 H1 B2 H2 : Hp} (a : Ext σ ρ B H ρ1 B1 H1) (b : Ext σ ρ1 B1 H1 ρ2 B2 H2) : Ext σ ρ B H ρ2 B2 H2 := by
  refine ⟨a.sB.trans b.sB, fun q o h n => ?_, fun i s h e => ?_, fun i s h e => ?_, fun q h => a.live q (b.live q h)⟩
  · obtain ⟨h1, h2⟩ := a.keep q o h n
    obtain ⟨h3, h4⟩ := b.keep q o h1 fun i s e1 e2 => by
      obtain ⟨s', e3, e4⟩ := a.own i s e1 e2
      exact n i s' e3 e4
    exact ⟨h3, fun z => h4 (h2 z)⟩
  · obtain ⟨s1, h1, e1⟩ := b.own i s h e
    exact a.own i s1 h1 e1
  · obtain ⟨s1, h1, e1⟩ := b.ref i s h e
    exact a.ref i s1 h1 e1
def slD : Sl → D
  | .own d => d
  | .io d => d
  | .ro d => d
  | .fz d => d
  | .no => .none
  | .ex => .none
def Val (F : Fr) (B H : Hp) (σ : St) (ρ : Rho) (v : V) (r : RV) : Prop := match r.2 with
  | .fz => Rep B v r.1
  | .new => ∃ p, v = .ref p ∧ B p = none ∧ F.H p = none ∧ Own B H p r.1 ∧ ∀ (i : Nat) (s : Sl), ρ[i]? = some s → s.isRef = true → σ[i]? ≠ some (some (.ref p))
  | .at i => ∃ s, ρ[i]? = some s ∧ s.isOwn = true ∧ slD s = r.1 ∧ σ[i]? = some (some v)
  | .ro => ∃ p, v = .ref p ∧ Own B H p r.1 ∧ ∀ (i : Nat) (s : Sl), ρ[i]? = some s → s.isOwn = true → σ[i]? ≠ some (some (.ref p))
def View (B H : Hp) (v : V) (d : D) : Prop := Rep B v d ∨ ∃ p, v = .ref p ∧ Own B H p d
theorem View.rep {B H : Hp} {v : V} {d : D} (h : View B H v d) (e : Same B H) : Rep H v d := by
  rcases h with h | ⟨p, rfl, h⟩
  · exact h.mono e
  · exact h.rep e
theorem View.list {B H : Hp} {v : V} {ds : List D} (h : View B H v (.list ds)) (e : Same B H) : ∃ p xs, v = .ref p ∧ Rd H p (.lst xs) ∧ Reps B xs ds := by
  rcases h with h | ⟨p, rfl, h⟩
  · cases h with
    | lst h r => exact ⟨_, _, rfl, rd_same e h, r⟩
  · cases h with
    | lst h r => exact ⟨_, _, rfl, .inl h, r⟩
theorem View.tuple {B H : Hp} {v : V} {ds : List D} (h : View B H v (.tuple ds)) (e : Same B H) : ∃ p xs, v = .ref p ∧ H p = some (.tup xs) ∧ Reps B xs ds := by
  rcases h with h | ⟨p, rfl, h⟩
  · cases h with
    | tup h r => exact ⟨_, _, rfl, e _ _ h, r⟩
  · cases h
theorem View.dict {B H : Hp} {v : V} {es : List (D × D)} (h : View B H v (.dict es)) (e : Same B H) : ∃ p kvs, v = .ref p ∧ Rd H p (.dK kvs) ∧ RepKs B kvs es := by
  rcases h with h | ⟨p, rfl, h⟩
  · cases h with
    | dct h r => exact ⟨_, _, rfl, rd_same e h, r⟩
  · cases h with
    | dct h r => exact ⟨_, _, rfl, .inl h, r⟩
theorem View.int {B H : Hp} {v : V} {i : Int} (h : View B H v (.int i)) : v = .int i := by
  rcases h with h | ⟨p, rfl, h⟩
  · cases h; rfl
  · cases h
theorem View.bool {B H : Hp} {v : V} {b : Bool} (h : View B H v (.bool b)) : v = .bl b := by
  rcases h with h | ⟨p, rfl, h⟩
  · cases h; rfl
  · cases h
theorem View.str {B H : Hp} {v : V} {x : Str} (h : View B H v (.str x)) : v = .str x := by
  rcases h with h | ⟨p, rfl, h⟩
  · cases h; rfl
  · cases h
theorem View.none {B H : Hp} {v : V} (h : View B H v .none) : v = .non := by
  rcases h with h | ⟨p, rfl, h⟩
  · cases h; rfl
  · cases h
section
variable {F : Fr} {B H B' H' : Hp} {σ : St} {ρ ρ' : Rho} {v : V} {r : RV}
theorem Rel.ownAt (R : Rel F B H σ ρ) {i : Nat} {s : Sl} (h : ρ[i]? = some s) (e : s.isOwn = true) : ∃ p, σ[i]? = some (some (.ref p)) ∧ B p = Option.none ∧ Own B H p (slD s) := by
  have := R.slot i s h
  cases s with
  | own d => exact this
  | io d => exact this
  | _ => cases e
theorem Val.view (R : Rel F B H σ ρ) (h : Val F B H σ ρ v r) : View B H v r.1 := by
  obtain ⟨d, k⟩ := r
  cases k with
  | fz => exact .inl h
  | new => obtain ⟨p, rfl, _, _, o, _⟩ := h; exact .inr ⟨p, rfl, o⟩
  | «at» i =>
    obtain ⟨s, h1, h2, h3, h4⟩ := h
    obtain ⟨p, e1, e2, e3⟩ := R.ownAt h1 h2
    rw [h4] at e1
    cases e1
    exact .inr ⟨p, rfl, h3 ▸ e3⟩
  | ro => obtain ⟨p, rfl, o, _⟩ := h; exact .inr ⟨p, rfl, o⟩
theorem Rel.freezeNew (R : Rel F B H σ ρ) {d : D} (h : Val F B H σ ρ v (d, .new)) : ∃ B', Rel F B' H σ ρ ∧ Rep B' v d ∧ Same B B' ∧ ∀ q, v ≠ .ref q → B' q = B q := by
  obtain ⟨p, rfl, hB, hF, o, nn⟩ := h
  obtain ⟨ob, hp⟩ := o.there
  have e : Same B (upd B p ob) := same_upd hB
  have ne : ∀ (i : Nat) (s : Sl) (q : Addr), ρ[i]? = some s → s.isRef = true → σ[i]? = some (some (.ref q)) → q ≠ p := fun i s q h1 h2 h3 z => nn i s h1 h2 (z ▸ h3)
  refine ⟨upd B p ob, ⟨?_, R.sB.trans e, R.sH, ?_, R.len, ?_, R.dist, R.ownN, R.fx, R.ioN, (fun q xs h => e _ _ (R.tupB q xs h)), R.exv, R.nz⟩, ?_, e, fun q hq => upd_ne fun z => hq (z ▸ rfl)⟩
  · intro q u hq
    by_cases z : q = p
    · subst z; rw [upd_same] at hq; cases hq; exact hp
    · rw [upd_ne z] at hq; exact R.sub q u hq
  · intro q h1 h2
    have z : q ≠ p := fun z => h1 (z ▸ hF)
    rw [upd_ne z]; exact R.nB q h1 h2
  · intro i s hs
    have q := R.slot i s hs
    cases s with
    | no => trivial
    | ex => trivial
    | fz d => obtain ⟨x, h1, h2⟩ := q; exact ⟨x, h1, h2.mono e⟩
    | own d => obtain ⟨q, h1, h2, h3⟩ := q; exact ⟨q, h1, by rw [upd_ne (ne i _ q hs rfl h1)]; exact h2, h3.mono e fun _ z => z⟩
    | io d => obtain ⟨q, h1, h2, h3⟩ := q; exact ⟨q, h1, by rw [upd_ne (ne i _ q hs rfl h1)]; exact h2, h3.mono e fun _ z => z⟩
    | ro d => obtain ⟨q, h1, h3⟩ := q; exact ⟨q, h1, h3.mono e fun _ z => z⟩
  · exact o.frozen e fun u h => by rw [upd_same, ← h, hp]
theorem get_set {i j : Nat} {s t : Sl} (h : (ρ.set i s)[j]? = some t) : (j = i ∧ t = s ∧ i < ρ.length) ∨ (j ≠ i ∧ ρ[j]? = some t) := by
  by_cases z : j = i
  · subst z
    have hl : j < ρ.length := by
      have := List.getElem?_eq_some_iff.mp h
      obtain ⟨hh, _⟩ := this
      simpa using hh
    rw [List.getElem?_set_self hl] at h
    exact .inl ⟨rfl, (Option.some.inj h).symm, hl⟩
  · rw [List.getElem?_set_ne (fun e => z e.symm)] at h
    exact .inr ⟨z, h⟩
theorem ex_set {ρ : Rho} {i j : Nat} {s : Sl} (hs : s ≠ .ex) (h : (ρ.set i s)[j]? = some .ex) : ρ[j]? = some .ex ∧ j ≠ i := by
  rcases get_set h with ⟨_, z, _⟩ | ⟨hj, h⟩
  · exact absurd z.symm hs
  · exact ⟨h, hj⟩
theorem Rel.freezeAt (R : Rel F B H σ ρ) {i : Nat} {d : D} (hi : ρ[i]? = some (.own d)) (hv : σ[i]? = some (some v)) : ∃ B', Rel F B' H σ (ρ.set i (.fz d)) ∧ Rep B' v d ∧ Ext σ ρ B H (ρ.set i (.fz d)) B' H := by
  obtain ⟨p, h1, hB, o⟩ := R.slot i _ hi
  rw [hv] at h1
  cases h1
  have hF := R.ownN i d p hi hv
  obtain ⟨ob, hp⟩ := o.there
  have e : Same B (upd B p ob) := same_upd hB
  have rp : Rep (upd B p ob) (.ref p) d := o.frozen e fun u h => by rw [upd_same, ← h, hp]
  have ne : ∀ (j : Nat) (s : Sl) (q : Addr), j ≠ i → ρ[j]? = some s → s.isRef = true → σ[j]? = some (some (.ref q)) → q ≠ p := fun j s q hj h1 h2 h3 z => hj (R.dist i j _ s p hi rfl h1 h2 hv (z ▸ h3)).symm
  refine ⟨upd B p ob, ⟨?_, R.sB.trans e, R.sH, ?_, by rw [List.length_set]; exact R.len, ?_, ?_, ?_, ?_, ?_, (fun q xs h => e _ _ (R.tupB q xs h)), (fun j h => R.exv j (ex_set (by simp) h).1), R.nz⟩, rp, ⟨e, ?_, ?_, ?_, fun _ h => h⟩⟩
  · intro q u hq
    by_cases z : q = p
    · subst z; rw [upd_same] at hq; cases hq; exact hp
    · rw [upd_ne z] at hq; exact R.sub q u hq
  · intro q h1 h2
    have z : q ≠ p := fun z => h1 (z ▸ hF)
    rw [upd_ne z]; exact R.nB q h1 h2
  · intro j s hs
    rcases get_set hs with ⟨rfl, rfl, _⟩ | ⟨hj, hs⟩
    · exact ⟨_, hv, rp⟩
    · have q := R.slot j s hs
      cases s with
      | no => trivial
      | ex => trivial
      | fz d => obtain ⟨x, h1, h2⟩ := q; exact ⟨x, h1, h2.mono e⟩
      | own d => obtain ⟨q, h1, h2, h3⟩ := q; exact ⟨q, h1, by rw [upd_ne (ne j _ q hj hs rfl h1)]; exact h2, h3.mono e fun _ z => z⟩
      | io d => obtain ⟨q, h1, h2, h3⟩ := q; exact ⟨q, h1, by rw [upd_ne (ne j _ q hj hs rfl h1)]; exact h2, h3.mono e fun _ z => z⟩
      | ro d => obtain ⟨q, h1, h3⟩ := q; exact ⟨q, h1, h3.mono e fun _ z => z⟩
  · intro a b s t q h1 h2 h3 h4 h5 h6
    rcases get_set h1 with ⟨rfl, rfl, _⟩ | ⟨ha, h1⟩
    · cases h2
    · rcases get_set h3 with ⟨rfl, rfl, _⟩ | ⟨hb, h3⟩
      · cases h4
      · exact R.dist a b s t q h1 h2 h3 h4 h5 h6
  · intro j c q h1 h2
    rcases get_set h1 with ⟨rfl, h, _⟩ | ⟨_, h1⟩
    · cases h
    · exact R.ownN j c q h1 h2
  · intro x hx
    obtain ⟨h1, c, h2⟩ := R.fx x hx
    refine ⟨h1, c, ?_⟩
    by_cases z : i = x.1
    · subst z; rw [hi] at h2; cases h2
    · rw [List.getElem?_set_ne z]; exact h2
  · intro j c h1
    rcases get_set h1 with ⟨rfl, h, _⟩ | ⟨_, h1⟩
    · cases h
    · exact R.ioN j c h1
  · intro q u hq hn
    refine ⟨hq, fun z => ?_⟩
    rw [upd_ne (show q ≠ p from fun y => hn i _ hi rfl (by rw [y]; exact hv))]; exact z
  · intro j s h1 h2
    rcases get_set h1 with ⟨rfl, rfl, _⟩ | ⟨_, h1⟩
    · cases h2
    · exact ⟨s, h1, h2⟩
  · intro j s h1 h2
    rcases get_set h1 with ⟨rfl, rfl, _⟩ | ⟨_, h1⟩
    · cases h2
    · exact ⟨s, h1, h2⟩
theorem Rel.free (R : Rel F B H σ ρ) {p : Addr} (hp : H p = none) : B p = none ∧ F.H p = none ∧ ∀ (i : Nat) (s : Sl), ρ[i]? = some s → s.isRef = true → σ[i]? ≠ some (some (.ref p)) := by
  have hB : B p = none := R.sub.free hp
  have nn : ∀ (i : Nat) (s : Sl), ρ[i]? = some s → s.isRef = true → σ[i]? ≠ some (some (.ref p)) := fun i s h1 h2 h3 => by
    have q := R.slot i s h1
    cases s with
    | own d => obtain ⟨q, e1, _, e3⟩ := q; rw [h3] at e1; cases e1; exact e3.ne_none hp
    | io d => obtain ⟨q, e1, _, e3⟩ := q; rw [h3] at e1; cases e1; exact e3.ne_none hp
    | ro d => obtain ⟨q, e1, e3⟩ := q; rw [h3] at e1; cases e1; exact e3.ne_none hp
    | no => cases h2
    | ex => cases h2
    | fz d => cases h2
  refine ⟨hB, ?_, nn⟩
  cases q : F.H p with
  | none => rfl
  | some u =>
    by_cases z : ∃ x ∈ F.io, x.2 = p
    · obtain ⟨x, hx, rfl⟩ := z
      obtain ⟨h1, d, h2⟩ := R.fx x hx
      exact absurd h1 (nn _ _ h2 rfl)
    · have := R.sH p u q fun x hx y => z ⟨x, hx, y⟩
      rw [hp] at this; cases this
theorem Rel.grow (R : Rel F B H σ ρ) (eB : Same B B') (eH : Same H H') (sub : Same B' H') (nb : ∀ q, H q ≠ none → B q = none → B' q = none) (tB : ∀ q xs, H' q = some (.tup xs) → B' q = some (.tup xs)) (nf : ∀ q o u, H' q = some (.frz o u) → H q ≠ none) : Rel F B' H' σ ρ := by
  have lv : ∀ q, F.H q ≠ none → H q ≠ none := fun q h z => h (R.free z).2.1
  refine ⟨sub, R.sB.trans eB, fun q u h1 h2 => eH _ _ (R.sH q u h1 h2), fun q h1 h2 => nb q (lv q h1) (R.nB q h1 h2), R.len, fun i s hs => ?_, R.dist, R.ownN, R.fx, R.ioN, tB, R.exv, fun q o u h => by
    cases y : H q with
    | none => exact absurd y (nf q o u h)
    | some x =>
      have := eH q x y
      rw [h] at this
      cases this
      exact R.nz q o u y⟩
  have q := R.slot i s hs
  cases s with
  | no => trivial
  | ex => trivial
  | fz d => obtain ⟨x, h1, h2⟩ := q; exact ⟨x, h1, h2.mono eB⟩
  | own d => obtain ⟨q, h1, h2, h3⟩ := q; exact ⟨q, h1, nb q h3.ne_none h2, h3.mono eB fun _ z => eH _ _ z⟩
  | io d => obtain ⟨q, h1, h2, h3⟩ := q; exact ⟨q, h1, nb q h3.ne_none h2, h3.mono eB fun _ z => eH _ _ z⟩
  | ro d => obtain ⟨q, h1, h3⟩ := q; exact ⟨q, h1, h3.mono eB fun _ z => eH _ _ z⟩
theorem Ext.grow (eB : Same B B') (eH : Same H H') (nb : ∀ q, H q ≠ none → B q = none → B' q = none) : Ext σ ρ B H ρ B' H' :=
  ⟨eB, fun q u h _ => ⟨eH _ _ h, fun z => nb q (by rw [h]; simp) z⟩, fun _ s h z => ⟨s, h, z⟩, fun _ s h z => ⟨s, h, z⟩, fun q h => eH.free h⟩
theorem Rel.lay (R : Rel F B H σ ρ) {p : Addr} {o : HO} (hp : H p = none) (no : (∀ xs, o ≠ .tup xs) ∧ ∀ a u, o ≠ .frz a u) : Rel F B (upd H p o) σ ρ ∧ Ext σ ρ B H ρ B (upd H p o) := by
  have e : Same H (upd H p o) := same_upd hp
  refine ⟨R.grow (Same.refl _) e (R.sub.trans e) (fun _ _ z => z) (fun q xs h => ?_) (fun q a u h y => ?_), Ext.grow (Same.refl _) e fun _ _ z => z⟩
  · by_cases z : q = p
    · subst z; rw [upd_same] at h; cases h; exact absurd rfl (no.1 xs)
    · rw [upd_ne z] at h; exact R.tupB q xs h
  · by_cases z : q = p
    · subst z; rw [upd_same] at h; cases h; exact no.2 _ _ rfl
    · rw [upd_ne z, y] at h; cases h
theorem Rel.layT (R : Rel F B H σ ρ) {p : Addr} {xs : List V} (hp : H p = none) : Rel F (upd B p (.tup xs)) (upd H p (.tup xs)) σ ρ ∧ Ext σ ρ B H ρ (upd B p (.tup xs)) (upd H p (.tup xs)) ∧ Same B (upd B p (.tup xs)) := by
  have hB := (R.free hp).1
  have eH : Same H (upd H p (.tup xs)) := same_upd hp
  have eB : Same B (upd B p (.tup xs)) := same_upd hB
  have nb : ∀ q, H q ≠ none → B q = none → upd B p (.tup xs) q = none := fun q h z => by rw [upd_ne (show q ≠ p from fun y => h (by rw [y]; exact hp))]; exact z
  refine ⟨R.grow eB eH (fun q u h => ?_) nb (fun q ys h => ?_) (fun q a u h y => ?_), Ext.grow eB eH nb, eB⟩
  · by_cases z : q = p
    · subst z; rw [upd_same] at h ⊢; exact h
    · rw [upd_ne z] at h ⊢; exact R.sub q u h
  · by_cases z : q = p
    · subst z; rw [upd_same] at h ⊢; exact h
    · rw [upd_ne z] at h ⊢; exact R.tupB q ys h
  · by_cases z : q = p
    · subst z; rw [upd_same] at h; cases h
    · rw [upd_ne z, y] at h; cases h
end
end Mir
set_option Elab.async false
set_option linter.all false
set_option maxRecDepth 100000
namespace Mir
open PySem L2
variable [Zc]
abbrev PM := Rho → Option (RV × Rho)
def ME (t : TE) (m : PM) : Prop :=
  ∀ (F : Fr) (B H : Hp) (σ : St) (ρ : Rho) (r : RV) (ρ' : Rho) (Q : VK), Rel F B H σ ρ → m ρ = some (r, ρ') →
    (∀ v B' H', Ext σ ρ B H ρ' B' H' → Rel F B' H' σ ρ' → Val F B' H' σ ρ' v r → (∀ p, r.2 = .new → v = .ref p → H p = none) → Q v H') → t σ H Q
def MT (t : TT) (m : Rho → Option (Bool × Rho)) : Prop :=
  ∀ (F : Fr) (B H : Hp) (σ : St) (ρ : Rho) (b : Bool) (ρ' : Rho) (Q : Bool → Hp → Prop), Rel F B H σ ρ → m ρ = some (b, ρ') →
    (∀ B' H', Ext σ ρ B H ρ' B' H' → Rel F B' H' σ ρ' → Q b H') → t σ H Q
def Vl (F : Fr) (B H : Hp) (σ : St) (ρ : Rho) : List V → List RV → Prop
  | [], [] => True
  | v :: vs, r :: rs => (Val F B H σ ρ v r ∧ r.2 ≠ .new) ∧ Vl F B H σ ρ vs rs
  | _, _ => False
def MA (t : TA) (m : Rho → Option (List RV × Rho)) : Prop :=
  ∀ (F : Fr) (B H : Hp) (σ : St) (ρ : Rho) (rs : List RV) (ρ' : Rho) (Q : List V → Hp → Prop), Rel F B H σ ρ → m ρ = some (rs, ρ') →
    (∀ vs B' H', Ext σ ρ B H ρ' B' H' → Rel F B' H' σ ρ' → Vl F B' H' σ ρ' vs rs → Q vs H') → t σ H Q
def sv (m : PM) : PM := fun ρ => match m ρ with
  | some ((d, .new), ρ') => some ((d, .fz), ρ')
  | x => x
theorem sv_kind {m : PM} {ρ ρ' : Rho} {r : RV} (h : sv m ρ = some (r, ρ')) : r.2 ≠ .new := by
  unfold sv at h
  split at h
  · cases h; simp
  · rename_i hx
    intro e
    obtain ⟨d, k⟩ := r
    cases (show k = .new from e)
    exact hx d ρ' h
theorem ME.sv {t : TE} {m : PM} (h : ME t m) : ME t (sv m) := by
  intro F B H σ ρ r ρ' Q R e q
  unfold Mir.sv at e
  split at e
  · rename_i d ρ1 e1
    cases e
    refine h F B H σ ρ _ _ Q R e1 fun v B' H' E R' V' N => ?_
    obtain ⟨B2, R2, rp, s2, k2⟩ := R'.freezeNew V'
    refine q v B2 H' ⟨E.sB.trans s2, fun q o h1 h2 => ?_, E.own, E.ref, E.live⟩ R2 rp (fun _ z => by cases z)
    obtain ⟨h3, h4⟩ := E.keep q o h1 h2
    refine ⟨h3, fun z => ?_⟩
    rw [k2 q fun y => by
      have := N q rfl y
      rw [h1] at this; cases this]
    exact h4 z
  · exact h F B H σ ρ r ρ' Q R e q
def refr (ρ : Rho) (r : RV) : Option RV := match r.2 with
  | .at i => match ρ[i]? with
    | some (.own d) => some (d, .at i)
    | some (.io d) => some (d, .at i)
    | some (.fz d) => some (d, .fz)
    | _ => none
  | _ => some r
section
variable {F : Fr} {B H B' H' : Hp} {σ : St} {ρ ρ' : Rho} {v : V} {r r' : RV}
theorem Val.next (E : Ext σ ρ B H ρ' B' H') (R' : Rel F B' H' σ ρ') (h : Val F B H σ ρ v r) (nn : r.2 ≠ .new) (e : refr ρ' r = some r') : Val F B' H' σ ρ' v r' ∧ r'.2 ≠ .new := by
  obtain ⟨d, k⟩ := r
  cases k with
  | fz => cases e; exact ⟨Rep.mono E.sB h, nn⟩
  | new => exact absurd rfl nn
  | «at» i =>
    obtain ⟨s, h1, h2, h3, h4⟩ := h
    have e' : (match ρ'[i]? with
      | some (.own d) => some (d, Kd.at i)
      | some (.io d) => some (d, Kd.at i)
      | some (.fz d) => some (d, Kd.fz)
      | _ => none) = some r' := e
    cases q : ρ'[i]? with
    | none => rw [q] at e'; cases e'
    | some s' =>
      rw [q] at e'
      cases s' with
      | own c => cases e'; exact ⟨⟨_, q, rfl, rfl, h4⟩, by simp⟩
      | io c => cases e'; exact ⟨⟨_, q, rfl, rfl, h4⟩, by simp⟩
      | fz c =>
        cases e'
        obtain ⟨x, y1, y2⟩ := R'.slot i _ q
        rw [h4] at y1; cases y1
        exact ⟨y2, by simp⟩
      | no => cases e'
      | ex => cases e'
      | ro c => cases e'
  | ro =>
    cases e
    obtain ⟨p, rfl, o, n⟩ := h
    obtain ⟨ob, hp⟩ := o.there
    refine ⟨⟨p, rfl, o.mono E.sB fun u hu => (E.keep p u hu n).1, fun i s h1 h2 => ?_⟩, nn⟩
    obtain ⟨s0, h3, h4⟩ := E.own i s h1 h2
    exact n i s0 h3 h4
end
def ResOk (B H : Hp) (res : D × Bool) (k : VK → Prop) : Prop := match res with
  | (d, false) => ∃ v, Rep B v d ∧ ∀ Q : VK, Q v H → k Q
  | (.list ds, true) => ∃ vs, Reps B vs ds ∧ ∀ Q : VK, (∀ p, H p = none → Q (.ref p) (upd H p (.lst vs))) → k Q
  | (.tuple ds, true) => ∃ vs, Reps B vs ds ∧ ∀ Q : VK, (∀ p, H p = none → Q (.ref p) (upd H p (.tup vs))) → k Q
  | (.dict es, true) => ∃ kvs, RepKs B kvs es ∧ ∀ Q : VK, (∀ p, H p = none → Q (.ref p) (upd H p (.dK kvs))) → k Q
  | _ => False
def resK : D × Bool → RV
  | (d, false) => (d, .fz)
  | (.tuple ds, true) => (.tuple ds, .fz)
  | (d, true) => (d, .new)
theorem res_end {F : Fr} {B H : Hp} {σ : St} {ρ : Rho} {res : D × Bool} {k : VK → Prop} {Q : VK} (R : Rel F B H σ ρ) (h : ResOk B H res k)
    (q : ∀ v B' H', Ext σ ρ B H ρ B' H' → Rel F B' H' σ ρ → Val F B' H' σ ρ v (resK res) → (∀ p, (resK res).2 = .new → v = .ref p → H p = none) → Q v H') : k Q := by
  obtain ⟨d, b⟩ := res
  cases b with
  | false =>
    obtain ⟨v, rp, hk⟩ := h
    exact hk Q (q v B H (Ext.refl _ _ _ _) R rp fun p z => by cases z)
  | true =>
    cases d with
    | list ds =>
      obtain ⟨vs, rp, hk⟩ := h
      refine hk Q fun p hp => ?_
      obtain ⟨R', E⟩ := R.lay (o := .lst vs) hp ⟨(fun _ z => by cases z), fun _ _ z => by cases z⟩
      obtain ⟨hB, hF, nn⟩ := R.free hp
      exact q _ B _ E R' ⟨p, rfl, hB, hF, .lst upd_same rp, nn⟩ fun q _ z => by cases z; exact hp
    | dict es =>
      obtain ⟨kvs, rp, hk⟩ := h
      refine hk Q fun p hp => ?_
      obtain ⟨R', E⟩ := R.lay (o := .dK kvs) hp ⟨(fun _ z => by cases z), fun _ _ z => by cases z⟩
      obtain ⟨hB, hF, nn⟩ := R.free hp
      exact q _ B _ E R' ⟨p, rfl, hB, hF, .dct upd_same rp, nn⟩ fun q _ z => by cases z; exact hp
    | tuple ds =>
      obtain ⟨vs, rp, hk⟩ := h
      refine hk Q fun p hp => ?_
      obtain ⟨R', E, e⟩ := R.layT (xs := vs) hp
      exact q _ _ _ E R' (show Rep _ _ _ from .tup upd_same (rp.mono e)) fun q z => by cases z
    | none => exact h.elim
    | bool _ => exact h.elim
    | int _ => exact h.elim
    | str _ => exact h.elim
def mC (d : D) : PM := fun ρ => some ((d, .fz), ρ)
theorem me_c {v : V} {d : D} (h : ∀ B, Rep B v d) : ME (tC v) (mC d) := by
  intro F B H σ ρ r ρ' Q R e q
  cases e
  exact q v B H (Ext.refl _ _ _ _) R (h B) fun p z => by cases z
theorem me_int {i : Int} : ME (tC (.int i)) (mC (.int i)) := me_c fun _ => .int i
theorem me_bl {b : Bool} : ME (tC (.bl b)) (mC (.bool b)) := me_c fun _ => .bl b
def mVar (i : Nat) : PM := fun ρ => match ρ[i]? with
  | some (.fz d) => some ((d, .fz), ρ)
  | some (.own d) => some ((d, .at i), ρ)
  | some (.io d) => some ((d, .at i), ρ)
  | some (.ro d) => some ((d, .ro), ρ)
  | _ => none
theorem me_var {i : Nat} : ME (tVar i) (mVar i) := by
  intro F B H σ ρ r ρ' Q R e q
  unfold mVar at e
  cases hs : ρ[i]? with
  | none => rw [hs] at e; cases e
  | some s =>
    rw [hs] at e
    have sl := R.slot i s hs
    cases s with
    | no => cases e
    | ex => cases e
    | fz d =>
      cases e
      obtain ⟨v, h1, h2⟩ := sl
      exact ⟨v, h1, q v B H (Ext.refl _ _ _ _) R h2 fun p z => by cases z⟩
    | own d =>
      cases e
      obtain ⟨p, h1, h2, h3⟩ := sl
      exact ⟨_, h1, q _ B H (Ext.refl _ _ _ _) R ⟨_, hs, rfl, rfl, h1⟩ fun p z => by cases z⟩
    | io d =>
      cases e
      obtain ⟨p, h1, h2, h3⟩ := sl
      exact ⟨_, h1, q _ B H (Ext.refl _ _ _ _) R ⟨_, hs, rfl, rfl, h1⟩ fun p z => by cases z⟩
    | ro d =>
      cases e
      obtain ⟨p, h1, h3⟩ := sl
      refine ⟨_, h1, q _ B H (Ext.refl _ _ _ _) R ⟨p, rfl, h3, fun j s h4 h5 h6 => ?_⟩ fun p z => by cases z⟩
      have := R.dist j i s _ p h4 h5 hs rfl h6 h1
      subst this
      rw [hs] at h4; cases h4; cases h5
def OpJ (r : R2) (g : D → D → Option (D × Bool)) : Prop :=
  ∀ (B H : Hp) (x y : V) (c d : D) (res : D × Bool), Same B H → View B H x c → View B H y d → g c d = some res → ResOk B H res fun Q => r x y H Q
def mOp (g : D → D → Option (D × Bool)) (a b : PM) : PM := fun ρ => (sv a ρ).bind fun x => (sv b x.2).bind fun y => (refr y.2 x.1).bind fun r => (g r.1 y.1.1).map fun res => (resK res, y.2)
theorem me_op {r : R2} {g : D → D → Option (D × Bool)} {ta tb : TE} {a b : PM} (J : OpJ r g) (ha : ME ta a) (hb : ME tb b) : ME (tOp r ta tb) (mOp g a b) := by
  intro F B H σ ρ r0 ρ' Q R e q
  obtain ⟨x, e1, e⟩ := Option.bind_eq_some_iff.mp e
  obtain ⟨y, e2, e⟩ := Option.bind_eq_some_iff.mp e
  obtain ⟨r', e3, e⟩ := Option.bind_eq_some_iff.mp e
  obtain ⟨res, e4, e⟩ := Option.map_eq_some_iff.mp e
  cases e
  refine ha.sv F B H σ ρ x.1 x.2 _ R e1 fun v B1 H1 E1 R1 V1 N1 => ?_
  refine hb.sv F B1 H1 σ x.2 y.1 y.2 _ R1 e2 fun u B2 H2 E2 R2 V2 N2 => ?_
  obtain ⟨V3, n3⟩ := V1.next E2 R2 (sv_kind e1) e3
  refine res_end R2 (J B2 H2 v u r'.1 y.1.1 res R2.sub (V3.view R2) (V2.view R2) e4) fun w B3 H3 E3 R3 V4 N4 => ?_
  refine q w B3 H3 (E1.trans (E2.trans E3)) R3 V4 fun p z1 z2 => ?_
  exact E1.live p (E2.live p (N4 p z1 z2))
end Mir
set_option Elab.async false
set_option linter.all false
set_option maxRecDepth 100000
namespace Mir
open PySem L2
variable [Zc]
theorem Ext.fresh {σ : St} {ρ ρ' : Rho} {B H B' H' : Hp} (E : Ext σ ρ B H ρ' B' H') {p : Addr} (h : H' p = none) : H p = none := E.live p h
def mUn (g : D → Option (D × Bool)) (a : PM) : PM := fun ρ => (sv a ρ).bind fun x => (g x.1.1).map fun res => (resK res, x.2)
def asB : RV × Rho → Option (Bool × Rho)
  | ((.bool b, _), ρ) => some (b, ρ)
  | _ => none
theorem asB_eq {x : RV × Rho} {b : Bool} {ρ : Rho} (h : asB x = some (b, ρ)) : x.1.1 = .bool b ∧ x.2 = ρ := by
  obtain ⟨⟨d, k⟩, ρ0⟩ := x
  cases d with
  | bool c => cases h; exact ⟨rfl, rfl⟩
  | _ => cases h
def mTest (a : PM) : Rho → Option (Bool × Rho) := fun ρ => (sv a ρ).bind asB
theorem mt_test {ta : TE} {a : PM} (ha : ME ta a) : MT (tTest ta) (mTest a) := by
  intro F B H σ ρ b ρ' Q R e q
  obtain ⟨x, e1, e⟩ := Option.bind_eq_some_iff.mp e
  obtain ⟨h1, h2⟩ := asB_eq e
  refine ha.sv F B H σ ρ x.1 x.2 _ R e1 fun v B1 H1 E1 R1 V1 N1 => ?_
  have := V1.view R1
  rw [h1] at this
  rw [h2] at E1 R1
  exact ⟨b, this.bool, q B1 H1 E1 R1⟩
theorem mt_tB {ta : TE} {a : PM} (ha : ME ta a) : MT (tB ta) (mTest a) := mt_test ha
def mAnd (a b : Rho → Option (Bool × Rho)) : Rho → Option (Bool × Rho) := fun ρ => (a ρ).bind fun x => if x.1 = true then b x.2 else some (false, x.2)
def mOr (a b : Rho → Option (Bool × Rho)) : Rho → Option (Bool × Rho) := fun ρ => (a ρ).bind fun x => if x.1 = true then some (true, x.2) else b x.2
def mNot (a : Rho → Option (Bool × Rho)) : Rho → Option (Bool × Rho) := fun ρ => (a ρ).map fun x => (!x.1, x.2)
section
variable {ta tb : TT} {a b : Rho → Option (Bool × Rho)}
theorem mt_and (ha : MT ta a) (hb : MT tb b) : MT (tAnd ta tb) (mAnd a b) := by
  intro F B H σ ρ c ρ' Q R e q
  obtain ⟨x, e1, e⟩ := Option.bind_eq_some_iff.mp e
  refine ha F B H σ ρ x.1 x.2 _ R e1 fun B1 H1 E1 R1 => ?_
  by_cases h : x.1 = true
  · rw [if_pos h] at e ⊢
    exact hb F B1 H1 σ x.2 c ρ' Q R1 e fun B2 H2 E2 R2 => q B2 H2 (E1.trans E2) R2
  · rw [if_neg h] at e ⊢
    cases e
    exact q B1 H1 E1 R1
theorem mt_or (ha : MT ta a) (hb : MT tb b) : MT (tOr ta tb) (mOr a b) := by
  intro F B H σ ρ c ρ' Q R e q
  obtain ⟨x, e1, e⟩ := Option.bind_eq_some_iff.mp e
  refine ha F B H σ ρ x.1 x.2 _ R e1 fun B1 H1 E1 R1 => ?_
  by_cases h : x.1 = true
  · rw [if_pos h] at e ⊢
    cases e
    exact q B1 H1 E1 R1
  · rw [if_neg h] at e ⊢
    exact hb F B1 H1 σ x.2 c ρ' Q R1 e fun B2 H2 E2 R2 => q B2 H2 (E1.trans E2) R2
theorem mt_not (ha : MT ta a) : MT (tNot ta) (mNot a) := by
  intro F B H σ ρ c ρ' Q R e q
  obtain ⟨x, e1, e⟩ := Option.map_eq_some_iff.mp e
  cases e
  exact ha F B H σ ρ x.1 x.2 _ R e1 fun B1 H1 E1 R1 => q B1 H1 E1 R1
end
section
variable {ta tb : TE} {a b : PM}
def mAndV (a b : PM) : PM := fun ρ => (mTest a ρ).bind fun x => if x.1 = true then b x.2 else some ((.bool false, .fz), x.2)
def mOrV (a b : PM) : PM := fun ρ => (mTest a ρ).bind fun x => if x.1 = true then some ((.bool true, .fz), x.2) else b x.2
def mNotV (a : PM) : PM := fun ρ => (mTest a ρ).map fun x => ((.bool !x.1, .fz), x.2)
theorem me_notV (ha : ME ta a) : ME (tNotV ta) (mNotV a) := by
  intro F B H σ ρ c ρ' Q R e q
  obtain ⟨x, e1, e⟩ := Option.map_eq_some_iff.mp e
  cases e
  exact mt_test ha F B H σ ρ x.1 x.2 (fun c H1 => Q (.bl !c) H1) R e1 fun B1 H1 E1 R1 => q _ B1 H1 E1 R1 (.bl _) fun p z => by cases z
def mIfE (c : Rho → Option (Bool × Rho)) (a b : PM) : PM := fun ρ => (c ρ).bind fun x => if x.1 = true then a x.2 else b x.2
end
def mNil : Rho → Option (List RV × Rho) := fun ρ => some ([], ρ)
def mCons (a : PM) (m : Rho → Option (List RV × Rho)) : Rho → Option (List RV × Rho) := fun ρ => (sv a ρ).bind fun x => (m x.2).bind fun y => (refr y.2 x.1).map fun r => (r :: y.1, y.2)
theorem ma_nil : MA tNil mNil := by
  intro F B H σ ρ rs ρ' Q R e q
  cases e
  exact q [] B H (Ext.refl _ _ _ _) R trivial
theorem ma_cons {ta : TE} {tr : TA} {a : PM} {m : Rho → Option (List RV × Rho)} (ha : ME ta a) (hr : MA tr m) : MA (tCons ta tr) (mCons a m) := by
  intro F B H σ ρ rs ρ' Q R e q
  obtain ⟨x, e1, e⟩ := Option.bind_eq_some_iff.mp e
  obtain ⟨y, e2, e⟩ := Option.bind_eq_some_iff.mp e
  obtain ⟨r, e3, e⟩ := Option.map_eq_some_iff.mp e
  cases e
  refine ha.sv F B H σ ρ x.1 x.2 _ R e1 fun v B1 H1 E1 R1 V1 N1 => ?_
  refine hr F B1 H1 σ x.2 y.1 y.2 _ R1 e2 fun vs B2 H2 E2 R2 V2 => ?_
  exact q (v :: vs) B2 H2 (E1.trans E2) R2 ⟨V1.next E2 R2 (sv_kind e1) e3, V2⟩
def WVal (B : Hp) (σ : St) (v : V) (r : RV) : Prop := match r.2 with
  | .fz => Rep B v r.1
  | .at i => σ[i]? = some (some v)
  | _ => True
def WVl (B : Hp) (σ : St) : List V → List RV → Prop
  | [], [] => True
  | v :: vs, r :: rs => WVal B σ v r ∧ WVl B σ vs rs
  | _, _ => False
theorem Vl.weak {F : Fr} {B H : Hp} {σ : St} {ρ : Rho} : ∀ {vs : List V} {rs : List RV}, Vl F B H σ ρ vs rs → WVl B σ vs rs
  | [], [], _ => trivial
  | v :: vs, r :: rs, ⟨⟨h, n⟩, t⟩ => by
    refine ⟨?_, Vl.weak t⟩
    obtain ⟨d, k⟩ := r
    cases k with
    | fz => exact h
    | «at» i => obtain ⟨_, _, _, _, e⟩ := h; exact e
    | new => trivial
    | ro => trivial
theorem WVl.mono {B B' : Hp} {σ : St} (e : Same B B') : ∀ {vs : List V} {rs : List RV}, WVl B σ vs rs → WVl B' σ vs rs
  | [], [], _ => trivial
  | v :: vs, r :: rs, ⟨h, t⟩ => by
    refine ⟨?_, WVl.mono e t⟩
    obtain ⟨d, k⟩ := r
    cases k with
    | fz => exact Rep.mono e h
    | «at» i => exact h
    | new => trivial
    | ro => trivial
def fzOne (r : RV) (ρ : Rho) : Option (D × Rho) := match r.2 with
  | .fz => some (r.1, ρ)
  | .at i => match ρ[i]? with
    | some (.own d) => some (d, ρ.set i (.fz d))
    | some (.fz d) => some (d, ρ)
    | _ => none
  | _ => none
def fzAll : List RV → Rho → Option (List D × Rho)
  | [], ρ => some ([], ρ)
  | r :: rs, ρ => (fzOne r ρ).bind fun x => (fzAll rs x.2).map fun y => (x.1 :: y.1, y.2)
section
variable {F : Fr} {B H : Hp} {σ : St} {ρ ρ' : Rho}
theorem Rel.frz (R : Rel F B H σ ρ) {v : V} {r : RV} {d : D} (w : WVal B σ v r) (e : fzOne r ρ = some (d, ρ')) : ∃ B', Rel F B' H σ ρ' ∧ Rep B' v d ∧ Ext σ ρ B H ρ' B' H := by
  obtain ⟨c, k⟩ := r
  cases k with
  | fz => cases e; exact ⟨B, R, w, Ext.refl _ _ _ _⟩
  | new => cases e
  | ro => cases e
  | «at» i =>
    have e' : (match ρ[i]? with
      | some (.own d) => some (d, ρ.set i (.fz d))
      | some (.fz d) => some (d, ρ)
      | _ => none) = some (d, ρ') := e
    cases q : ρ[i]? with
    | none => rw [q] at e'; cases e'
    | some s =>
      rw [q] at e'
      cases s with
      | own c => cases e'; exact R.freezeAt q w
      | fz c =>
        cases e'
        obtain ⟨x, h1, h2⟩ := R.slot i _ q
        have w' : σ[i]? = some (some v) := w
        rw [w'] at h1; cases h1
        exact ⟨B, R, h2, Ext.refl _ _ _ _⟩
      | no => cases e'
      | ex => cases e'
      | io c => cases e'
      | ro c => cases e'
theorem Rel.frzL : ∀ {rs : List RV} {vs : List V} {ds : List D} {B : Hp} {ρ ρ' : Rho}, Rel F B H σ ρ → WVl B σ vs rs → fzAll rs ρ = some (ds, ρ') → ∃ B', Rel F B' H σ ρ' ∧ Reps B' vs ds ∧ Ext σ ρ B H ρ' B' H
  | [], [], ds, B, ρ, ρ', R, _, e => by cases e; exact ⟨B, R, .nil, Ext.refl _ _ _ _⟩
  | r :: rs, v :: vs, ds, B, ρ, ρ', R, ⟨w, ws⟩, e => by
    obtain ⟨x, e1, e⟩ := Option.bind_eq_some_iff.mp e
    obtain ⟨y, e2, e⟩ := Option.map_eq_some_iff.mp e
    cases e
    obtain ⟨B1, R1, rp, E1⟩ := R.frz w e1
    obtain ⟨B2, R2, rps, E2⟩ := Rel.frzL R1 (ws.mono E1.sB) e2
    exact ⟨B2, R2, .cons (rp.mono E2.sB) rps, E1.trans E2⟩
  | [], _ :: _, _, _, _, _, _, h, _ => h.elim
  | _ :: _, [], _, _, _, _, _, h, _ => h.elim
end
noncomputable def mTup (m : Rho → Option (List RV × Rho)) : PM := fun ρ => (m ρ).bind fun x => (fzAll x.1 x.2).bind fun y => cIf (y.1.length ≤ sizeLine) (some ((.tuple y.1, .fz), y.2)) none
noncomputable def mLst (m : Rho → Option (List RV × Rho)) : PM := fun ρ => (m ρ).bind fun x => (fzAll x.1 x.2).bind fun y => cIf (y.1.length ≤ sizeLine) (some ((.list y.1, .new), y.2)) none
theorem me_tup {t : TA} {m : Rho → Option (List RV × Rho)} (h : MA t m) : ME (tTup t) (mTup m) := by
  intro F B H σ ρ r ρ' Q R e q
  obtain ⟨x, e1, e⟩ := Option.bind_eq_some_iff.mp e
  obtain ⟨y, e2, e⟩ := Option.bind_eq_some_iff.mp e
  obtain ⟨hz, e⟩ := cIf_eq e
  · cases e
    refine h F B H σ ρ x.1 x.2 _ R e1 fun vs B1 H1 E1 R1 V1 => ?_
    obtain ⟨B2, R2, rp, E2⟩ := Rel.frzL R1 V1.weak e2
    refine ⟨by rw [rp.length]; exact hz, fun p hp => ?_⟩
    have := res_end (res := (.tuple y.1, true)) (k := fun Q => ∀ p, H1 p = none → Q (.ref p) (upd H1 p (.tup vs))) (Q := Q) R2 ⟨vs, rp, fun Q h => h⟩ fun v B' H' E R' V' N => q v B' H' (E1.trans (E2.trans E)) R' V' fun p z => by cases z
    exact this p hp
theorem me_lst {t : TA} {m : Rho → Option (List RV × Rho)} (h : MA t m) : ME (tLst t) (mLst m) := by
  intro F B H σ ρ r ρ' Q R e q
  obtain ⟨x, e1, e⟩ := Option.bind_eq_some_iff.mp e
  obtain ⟨y, e2, e⟩ := Option.bind_eq_some_iff.mp e
  obtain ⟨hz, e⟩ := cIf_eq e
  · cases e
    refine h F B H σ ρ x.1 x.2 _ R e1 fun vs B1 H1 E1 R1 V1 => ?_
    obtain ⟨B2, R2, rp, E2⟩ := Rel.frzL R1 V1.weak e2
    refine ⟨by rw [rp.length]; exact hz, fun p hp => ?_⟩
    have := res_end (res := (.list y.1, true)) (k := fun Q => ∀ p, H1 p = none → Q (.ref p) (upd H1 p (.lst vs))) (Q := Q) R2 ⟨vs, rp, fun Q h => h⟩ fun v B' H' E R' V' N => q v B' H' (E1.trans (E2.trans E)) R' V' fun p z1 z2 => E1.live p (N p z1 z2)
    exact this p hp
def Views (B H : Hp) : List V → List D → Prop
  | [], [] => True
  | v :: vs, d :: ds => View B H v d ∧ Views B H vs ds
  | _, _ => False
theorem Vl.views {F : Fr} {B H : Hp} {σ : St} {ρ : Rho} (R : Rel F B H σ ρ) : ∀ {vs : List V} {rs : List RV}, Vl F B H σ ρ vs rs → Views B H vs (rs.map (·.1))
  | [], [], _ => trivial
  | v :: vs, r :: rs, ⟨⟨h, n⟩, t⟩ => ⟨h.view R, Vl.views R t⟩
def CallJ (r : List V → Hp → VK → Prop) (g : List D → Option (D × Bool)) : Prop := ∀ (B H : Hp) (vs : List V) (ds : List D) (res : D × Bool), Same B H → Views B H vs ds → g ds = some res → ResOk B H res fun Q => r vs H Q
def mCB (g : List D → Option (D × Bool)) (m : Rho → Option (List RV × Rho)) : PM := fun ρ => (m ρ).bind fun x => (g (x.1.map (·.1))).map fun res => (resK res, x.2)
theorem me_cb {r : List V → Hp → VK → Prop} {g : List D → Option (D × Bool)} {t : TA} {m : Rho → Option (List RV × Rho)} (J : CallJ r g) (h : MA t m) : ME (tCB r t) (mCB g m) := by
  intro F B H σ ρ r0 ρ' Q R e q
  obtain ⟨x, e1, e⟩ := Option.bind_eq_some_iff.mp e
  obtain ⟨res, e4, e⟩ := Option.map_eq_some_iff.mp e
  cases e
  refine h F B H σ ρ x.1 x.2 _ R e1 fun vs B1 H1 E1 R1 V1 => ?_
  exact res_end R1 (J B1 H1 vs _ res R1.sub (V1.views R1) e4) fun w B3 H3 E3 R3 V4 N4 => q w B3 H3 (E1.trans E3) R3 V4 fun p z1 z2 => E1.live p (N4 p z1 z2)
def mNoPart : Rho → Option (Option Int × Rho) := fun ρ => some (none, ρ)
def asI : RV × Rho → Option (Int × Rho)
  | ((.int i, _), ρ) => some (i, ρ)
  | _ => none
theorem asI_eq {x : RV × Rho} {b : Int} {ρ : Rho} (h : asI x = some (b, ρ)) : x.1.1 = .int b ∧ x.2 = ρ := by
  obtain ⟨⟨d, k⟩, ρ0⟩ := x
  cases d with
  | int c => cases h; exact ⟨rfl, rfl⟩
  | _ => cases h
def mPart (a : PM) : Rho → Option (Option Int × Rho) := fun ρ => ((sv a ρ).bind asI).map fun x => (some x.1, x.2)
def MO (t : TO) (m : Rho → Option (Option Int × Rho)) : Prop :=
  ∀ (F : Fr) (B H : Hp) (σ : St) (ρ : Rho) (b : Option Int) (ρ' : Rho) (Q : Option Int → Hp → Prop), Rel F B H σ ρ → m ρ = some (b, ρ') →
    (∀ B' H', Ext σ ρ B H ρ' B' H' → Rel F B' H' σ ρ' → Q b H') → t σ H Q
theorem mo_none : MO tNoPart mNoPart := by
  intro F B H σ ρ b ρ' Q R e q
  cases e
  exact q B H (Ext.refl _ _ _ _) R
theorem mo_some {ta : TE} {a : PM} (ha : ME ta a) : MO (tPart ta) (mPart a) := by
  intro F B H σ ρ b ρ' Q R e q
  obtain ⟨y, e1, e⟩ := Option.map_eq_some_iff.mp e
  obtain ⟨x, e2, e3⟩ := Option.bind_eq_some_iff.mp e1
  cases e
  obtain ⟨h1, h2⟩ := asI_eq (b := y.1) (ρ := y.2) e3
  refine ha.sv F B H σ ρ x.1 x.2 _ R e2 fun v B1 H1 E1 R1 V1 N1 => ?_
  have := V1.view R1
  rw [h1] at this
  rw [h2] at E1 R1
  exact ⟨y.1, this.int, q B1 H1 E1 R1⟩
def SlJ (r : V → Option Int → Option Int → Hp → VK → Prop) (g : D → Option Int → Option Int → Option (D × Bool)) : Prop :=
  ∀ (B H : Hp) (x : V) (c : D) (l u : Option Int) (res : D × Bool), Same B H → View B H x c → g c l u = some res → ResOk B H res fun Q => r x l u H Q
def mSl (g : D → Option Int → Option Int → Option (D × Bool)) (a : PM) (l u : Rho → Option (Option Int × Rho)) : PM := fun ρ => (sv a ρ).bind fun x => (l x.2).bind fun y => (u y.2).bind fun z => (refr z.2 x.1).bind fun r => (g r.1 y.1 z.1).map fun res => (resK res, z.2)
theorem me_sl {r : V → Option Int → Option Int → Hp → VK → Prop} {g : D → Option Int → Option Int → Option (D × Bool)} {ta : TE} {tl tu : TO} {a : PM} {l u : Rho → Option (Option Int × Rho)} (J : SlJ r g) (ha : ME ta a) (hl : MO tl l) (hu : MO tu u) : ME (tSl r ta tl tu) (mSl g a l u) := by
  intro F B H σ ρ r0 ρ' Q R e q
  obtain ⟨x, e1, e⟩ := Option.bind_eq_some_iff.mp e
  obtain ⟨y, e2, e⟩ := Option.bind_eq_some_iff.mp e
  obtain ⟨z, e3, e⟩ := Option.bind_eq_some_iff.mp e
  obtain ⟨r', e4, e⟩ := Option.bind_eq_some_iff.mp e
  obtain ⟨res, e5, e⟩ := Option.map_eq_some_iff.mp e
  cases e
  refine ha.sv F B H σ ρ x.1 x.2 _ R e1 fun v B1 H1 E1 R1 V1 N1 => ?_
  refine hl F B1 H1 σ x.2 y.1 y.2 _ R1 e2 fun B2 H2 E2 R2 => ?_
  refine hu F B2 H2 σ y.2 z.1 z.2 _ R2 e3 fun B3 H3 E3 R3 => ?_
  obtain ⟨V3, n3⟩ := V1.next (E2.trans E3) R3 (sv_kind e1) e4
  exact res_end R3 (J B3 H3 v r'.1 y.1 z.1 res R3.sub (V3.view R3) e5) fun w B4 H4 E4 R4 V4 N4 => q w B4 H4 ((E1.trans (E2.trans E3)).trans E4) R4 V4 fun p z1 z2 => (E1.trans (E2.trans E3)).live p (N4 p z1 z2)
end Mir
set_option Elab.async false
set_option linter.all false
set_option maxRecDepth 100000
namespace Mir
open PySem L2
variable [Zc]
mutual
def pureD : D → Bool
  | .none => true
  | .bool _ => true
  | .int _ => true
  | .str _ => true
  | .list _ => false
  | .tuple ds => pureDs ds
  | .dict _ => false
def pureDs : List D → Bool
  | [] => true
  | d :: ds => pureD d && pureDs ds
end
mutual
theorem Rep.ofPure {B B' : Hp} (k : ∀ q xs, B q = some (.tup xs) → B' q = some (.tup xs)) : ∀ {v : V} {d : D}, Rep B v d → pureD d = true → Rep B' v d
  | _, _, .non, _ => .non
  | _, _, .bl b, _ => .bl b
  | _, _, .int i, _ => .int i
  | _, _, .str x, _ => .str x
  | _, _, .lst _ _, h => by simp [pureD] at h
  | _, _, .dct _ _, h => by simp [pureD] at h
  | _, _, .tup h r, e => .tup (k _ _ h) (Reps.ofPure k r (by simpa [pureD] using e))
theorem Reps.ofPure {B B' : Hp} (k : ∀ q xs, B q = some (.tup xs) → B' q = some (.tup xs)) : ∀ {v : List V} {d : List D}, Reps B v d → pureDs d = true → Reps B' v d
  | _, _, .nil, _ => .nil
  | _, _, .cons a b, e => by
    simp only [pureDs, Bool.and_eq_true] at e
    exact .cons (Rep.ofPure k a e.1) (Reps.ofPure k b e.2)
end
theorem RepKs.ofPure {B B' : Hp} (k : ∀ q xs, B q = some (.tup xs) → B' q = some (.tup xs)) : ∀ {v : List (Key × V)} {d : List (D × D)}, RepKs B v d → pureDs (d.map (·.2)) = true → RepKs B' v d
  | _, _, .nil, _ => .nil
  | _, _, .cons c a b, e => by
    simp only [List.map_cons, pureDs, Bool.and_eq_true] at e
    exact .cons c (Rep.ofPure k a e.1) (RepKs.ofPure k b e.2)
def pureR (d : D) (o : Bool) : Bool := match o, d with
  | true, .list ds => pureDs ds
  | true, .dict es => pureDs (es.map (·.2))
  | true, _ => false
  | false, d => pureD d
structure Post (B H : Hp) (v : V) (B' H' : Hp) (d : D) (o : Bool) : Prop where
  eH : Same H H'
  eB : Same B B'
  sub : Same B' H'
  nb : ∀ q, H q ≠ none → B q = none → B' q = none
  tB : ∀ q xs, H' q = some (.tup xs) → B' q = some (.tup xs)
  nz : ∀ q o u, H' q = some (.frz o u) → H q ≠ none
  val : if o = true then ∃ p, v = .ref p ∧ H p = none ∧ B' p = none ∧ Own B' H' p d else Rep B' v d
def spM (f : List D → Option (D × Bool)) : Sp := fun vs H Q _ => ∃ B ds d o, Same B H ∧ (∀ q xs, H q = some (.tup xs) → B q = some (.tup xs)) ∧ Reps B vs ds ∧ f ds = some (d, o) ∧ ∀ v B' H', Post B H v B' H' d o → Q v H'
def kO (d : D) (o : Bool) : RV := (d, if o = true then .new else .fz)
def mCall (f : List D → Option (D × Bool)) (m : Rho → Option (List RV × Rho)) : PM := fun ρ => (m ρ).bind fun x => (f (x.1.map (·.1))).bind fun w =>
  if pureR w.1 w.2 = true then some (kO w.1 w.2, x.2) else (fzAll x.1 x.2).map fun y => (kO w.1 w.2, y.2)
theorem Views.reps {B H : Hp} (e : Same B H) : ∀ {vs : List V} {ds : List D}, Views B H vs ds → Reps H vs ds
  | [], [], _ => .nil
  | v :: vs, d :: ds, ⟨h, t⟩ => .cons (h.rep e) (Views.reps e t)
theorem fzAll_eq : ∀ {rs : List RV} {ρ ρ' : Rho} {ds : List D}, (∀ r ∈ rs, ∀ i, r.2 = .at i → ∃ s, ρ[i]? = some s ∧ slD s = r.1) → fzAll rs ρ = some (ds, ρ') → ds = rs.map (·.1)
  | [], _, _, _, _, e => by cases e; rfl
  | r :: rs, ρ, ρ', ds, h, e => by
    obtain ⟨x, e1, e⟩ := Option.bind_eq_some_iff.mp e
    obtain ⟨y, e2, e⟩ := Option.map_eq_some_iff.mp e
    cases e
    have hx : x.1 = r.1 ∧ ∀ (i : Nat) (s : Sl), ρ[i]? = some s → ∃ s', x.2[i]? = some s' ∧ slD s' = slD s := by
      obtain ⟨d, k⟩ := r
      cases k with
      | fz => cases e1; exact ⟨rfl, fun i s h => ⟨s, h, rfl⟩⟩
      | new => cases e1
      | ro => cases e1
      | «at» i =>
        obtain ⟨s, h1, h2⟩ := h (d, .at i) (by simp) i rfl
        have e' : (match ρ[i]? with
          | some (.own d) => some (d, ρ.set i (.fz d))
          | some (.fz d) => some (d, ρ)
          | _ => none) = some x := e1
        rw [h1] at e'
        cases s with
        | own c =>
          cases e'
          refine ⟨h2, fun j t hj => ?_⟩
          by_cases z : j = i
          · subst z
            rw [h1] at hj; cases hj
            obtain ⟨hl, _⟩ := List.getElem?_eq_some_iff.mp h1
            exact ⟨.fz c, by rw [List.getElem?_set_self hl], rfl⟩
          · exact ⟨t, by rw [List.getElem?_set_ne (fun e => z e.symm)]; exact hj, rfl⟩
        | fz c => cases e'; exact ⟨h2, fun i s h => ⟨s, h, rfl⟩⟩
        | no => cases e'
        | ex => cases e'
        | io c => cases e'
        | ro c => cases e'
    rw [List.map_cons, hx.1, fzAll_eq (ρ := x.2) (fun r hr i hi => ?_) e2]
    obtain ⟨s, h1, h2⟩ := h r (List.mem_cons_of_mem _ hr) i hi
    obtain ⟨s', h3, h4⟩ := hx.2 i s h1
    exact ⟨s', h3, h4.trans h2⟩
theorem Vl.at {F : Fr} {B H : Hp} {σ : St} {ρ : Rho} : ∀ {vs : List V} {rs : List RV}, Vl F B H σ ρ vs rs → ∀ r ∈ rs, ∀ i, r.2 = .at i → ∃ s, ρ[i]? = some s ∧ slD s = r.1
  | [], [], _, r', hr, i, hi => by cases hr
  | v :: vs, r :: rs, ⟨⟨h, _⟩, t⟩, r', hr, i, hi => by
    rcases List.mem_cons.mp hr with rfl | hr
    · obtain ⟨d, k⟩ := r'
      cases (show k = .at i from hi)
      obtain ⟨s, h1, _, h2, _⟩ := h
      exact ⟨s, h1, h2⟩
    · exact Vl.at t r' hr i hi
theorem me_call {f : List D → Option (D × Bool)} {E : XK} {t : TA} {m : Rho → Option (List RV × Rho)} (h : MA t m) : ME (tCall (spM f) [] E t) (mCall f m) := by
  intro F B H σ ρ r0 ρ' Q R e q
  obtain ⟨x, e1, e⟩ := Option.bind_eq_some_iff.mp e
  obtain ⟨w, e2, e⟩ := Option.bind_eq_some_iff.mp e
  refine h F B H σ ρ x.1 x.2 _ R e1 fun vs B1 H1 E1 R1 V1 => ?_
  rw [List.append_nil]
  by_cases hp : pureR w.1 w.2 = true
  · rw [if_pos hp] at e
    cases e
    refine ⟨H1, _, w.1, w.2, Same.refl _, fun _ _ z => z, (V1.views R1).reps R1.sub, e2, fun v B' H' P => ?_⟩
    let B2 : Hp := fun q => if H1 q = none then B' q else B1 q
    have old : ∀ q, H1 q ≠ none → B2 q = B1 q := fun q z => if_neg z
    have new : ∀ q, H1 q = none → B2 q = B' q := fun q z => if_pos z
    have eB : Same B1 B2 := fun q o z => by rw [old q (by rw [R1.sub q o z]; simp)]; exact z
    have sub : Same B2 H' := fun q o z => by
      by_cases y : H1 q = none
      · rw [new q y] at z; exact P.sub q o z
      · rw [old q y] at z; exact P.eH q o (R1.sub q o z)
    have nb : ∀ q, H1 q ≠ none → B1 q = none → B2 q = none := fun q y z => by rw [old q y]; exact z
    have tB : ∀ q xs, H' q = some (.tup xs) → B2 q = some (.tup xs) := fun q xs z => by
      cases y : H1 q with
      | none => rw [new q y]; exact P.tB q xs z
      | some o =>
        have := P.eH q o y
        rw [z] at this
        cases this
        rw [old q (by rw [y]; simp)]; exact R1.tupB q xs y
    have kt : ∀ q xs, B' q = some (.tup xs) → B2 q = some (.tup xs) := fun q xs z => tB q xs (P.sub q _ z)
    have R2 := R1.grow eB P.eH sub nb tB P.nz
    have E2 : Ext σ x.2 B1 H1 x.2 B2 H' := Ext.grow eB P.eH nb
    obtain ⟨d, o⟩ := w
    cases o with
    | false =>
      have pv : Rep B' v d := P.val
      exact q v B2 H' (E1.trans E2) R2 (show Rep B2 v d from pv.ofPure kt hp) fun p z => by cases z
    | true =>
      obtain ⟨p, rfl, h1, h2, h3⟩ : ∃ p, v = .ref p ∧ H1 p = none ∧ B' p = none ∧ Own B' H' p d := P.val
      have fr := R1.free h1
      refine q _ B2 H' (E1.trans E2) R2 ⟨p, rfl, by rw [new p h1]; exact h2, fr.2.1, ?_, fr.2.2⟩ fun p' _ z => by cases z; exact E1.live p h1
      cases h3 with
      | lst h r => exact .lst h (r.ofPure kt hp)
      | dct h r => exact .dct h (r.ofPure kt hp)
  · rw [if_neg hp] at e
    obtain ⟨y, e3, e⟩ := Option.map_eq_some_iff.mp e
    cases e
    obtain ⟨B2, R2, rp, E2⟩ := Rel.frzL R1 V1.weak e3
    have hd := fzAll_eq V1.at e3
    rw [hd] at rp
    refine ⟨B2, _, w.1, w.2, R2.sub, R2.tupB, rp, e2, fun v B' H' P => ?_⟩
    have R3 := R2.grow P.eB P.eH P.sub P.nb P.tB P.nz
    have E3 : Ext σ y.2 B2 H1 y.2 B' H' := Ext.grow P.eB P.eH P.nb
    obtain ⟨d, o⟩ := w
    cases o with
    | false =>
      have pv : Rep B' v d := P.val
      exact q v B' H' (E1.trans (E2.trans E3)) R3 pv fun p z => by cases z
    | true =>
      obtain ⟨p, rfl, h1, h2, h3⟩ : ∃ p, v = .ref p ∧ H1 p = none ∧ B' p = none ∧ Own B' H' p d := P.val
      have fr := R2.free h1
      exact q _ B' H' (E1.trans (E2.trans E3)) R3 ⟨p, rfl, h2, fr.2.1, h3, fr.2.2⟩ fun p' _ z => by cases z; exact E1.live p h1
def YldOk (B H : Hp) (x : V) (H' : Hp) (d : D) : Prop := (H' = H ∧ Rep B x d) ∨ ∃ p xs cs, d = .tuple cs ∧ x = .ref p ∧ H p = none ∧ H' = upd H p (.tup xs) ∧ Reps B xs cs
def ItOk (G B : Hp) (J : It) (ds : List D) : Prop := ∀ H, Same G H → J.stop ds.length H ∧ ∀ (i : Nat) (d : D), ds[i]? = some d → J.go i H ∧ ∀ x H', J.yld i H x H' → YldOk B H x H' d
theorem ItOk.mono {G B B' : Hp} {J : It} {ds : List D} (h : ItOk G B J ds) (e : Same B B') : ItOk G B' J ds := fun H s => ⟨(h H s).1, fun i d hd => ⟨((h H s).2 i d hd).1, fun x H' y => by
  rcases ((h H s).2 i d hd).2 x H' y with ⟨h1, h2⟩ | ⟨p, xs, cs, h1, h2, h3, h4, h5⟩
  · exact .inl ⟨h1, h2.mono e⟩
  · exact .inr ⟨p, xs, cs, h1, h2, h3, h4, h5.mono e⟩⟩⟩
def MI (t : TI) (m : Rho → Option (List D × Rho)) : Prop :=
  ∀ (F : Fr) (B H : Hp) (σ : St) (ρ : Rho) (ds : List D) (ρ' : Rho) (Q : It → Hp → Prop), Rel F B H σ ρ → m ρ = some (ds, ρ') →
    (∀ J B' H', Ext σ ρ B H ρ' B' H' → Rel F B' H' σ ρ' → ItOk H' B' J ds → Q J H') → t σ H Q
def MF (t : TI) (m : Rho → Option (List D × Rho)) : Prop :=
  ∀ (F : Fr) (B H : Hp) (σ : St) (ρ : Rho) (ds : List D) (ρ' : Rho) (Q : It → Hp → Prop), Rel F B H σ ρ → m ρ = some (ds, ρ') →
    (∀ J B' H', Ext σ ρ B H ρ' B' H' → Rel F B' H' σ ρ' → ItOk B' B' J ds → Q J H') → t σ H Q
theorem rd_sq {K : PySem.W.Frag} {H : Hp} {p : Addr} {xs : List V} (h : Rd H p (.lst xs)) : SqL K H p xs := .inl h
theorem itl_ok {K : PySem.W.Frag} {G B : Hp} {p : Addr} {xs : List V} {ds : List D} (h : Rd G p (.lst xs)) (r : Reps B xs ds) : ItOk G B (Itl K p) ds := fun H s => by
  have h' : SqL K H p xs := rd_sq (rd_same s h)
  refine ⟨⟨xs, h', by rw [r.length]; exact Nat.le_refl _⟩, fun i d hd => ?_⟩
  obtain ⟨x, h1, h2⟩ := r.get i d hd
  refine ⟨⟨xs, x, h', h1⟩, fun y H' hy => .inl ⟨hy.1, ?_⟩⟩
  have := hy.2 xs h'
  rw [h1] at this
  cases this
  exact h2
def asL : D → Option (List D)
  | .list ds => some ds
  | _ => none
def asT : D → Option (List D)
  | .tuple ds => some ds
  | _ => none
theorem asL_eq {d : D} {ds : List D} (h : asL d = some ds) : d = .list ds := by cases d <;> first | cases h; rfl | cases h
def mItL (a : PM) : Rho → Option (List D × Rho) := fun ρ => (sv a ρ).bind fun x => (asL x.1.1).map fun ds => (ds, x.2)
def mFoL (a : PM) : Rho → Option (List D × Rho) := fun ρ => (sv a ρ).bind fun x => (fzOne x.1 x.2).bind fun y => (asL y.1).map fun ds => (ds, y.2)
section
variable {K : PySem.W.Frag} {ta : TE} {a : PM}
theorem mi_list (ha : ME ta a) : MI (iList K ta) (mItL a) := by
  intro F B H σ ρ ds ρ' Q R e q
  obtain ⟨x, e1, e⟩ := Option.bind_eq_some_iff.mp e
  obtain ⟨ds', e2, e⟩ := Option.map_eq_some_iff.mp e
  cases e
  refine ha.sv F B H σ ρ x.1 x.2 _ R e1 fun v B1 H1 E1 R1 V1 N1 => ?_
  have w := V1.view R1
  rw [asL_eq e2] at w
  obtain ⟨p, xs, rfl, h1, h2⟩ := w.list R1.sub
  exact ⟨p, rfl, ⟨xs, rd_sq h1⟩, q _ B1 H1 E1 R1 (itl_ok h1 h2)⟩
theorem mf_list (ha : ME ta a) : MF (iList K ta) (mFoL a) := by
  intro F B H σ ρ ds ρ' Q R e q
  obtain ⟨x, e1, e⟩ := Option.bind_eq_some_iff.mp e
  obtain ⟨y, e3, e⟩ := Option.bind_eq_some_iff.mp e
  obtain ⟨ds', e2, e⟩ := Option.map_eq_some_iff.mp e
  cases e
  refine ha.sv F B H σ ρ x.1 x.2 _ R e1 fun v B1 H1 E1 R1 V1 N1 => ?_
  have w : WVal B1 σ v x.1 := (Vl.weak (F := F) (H := H1) (ρ := x.2) (vs := [v]) (rs := [x.1]) ⟨⟨V1, sv_kind e1⟩, trivial⟩).1
  obtain ⟨B2, R2, rp, E2⟩ := R1.frz w e3
  rw [asL_eq e2] at rp
  cases rp with
  | lst h r => exact ⟨_, rfl, ⟨_, rd_sq (rd_same R2.sub h)⟩, q _ B2 H1 (E1.trans E2) R2 (itl_ok h r)⟩
end
def rngD (lo : Int) (n : Nat) : List D := (List.range n).map fun (k : Nat) => PyData.int (lo + (k : Int))
theorem itr_ok {G B : Hp} {lo : Int} {n : Nat} : ItOk G B (Itr lo n) (rngD lo n) := fun H _ => by
  refine ⟨by simp [rngD, Itr], fun i d hd => ?_⟩
  rw [rngD, List.getElem?_map] at hd
  obtain ⟨k, h1, h2⟩ := Option.map_eq_some_iff.mp hd
  have hk := List.getElem?_eq_some_iff.mp h1
  obtain ⟨hl, hk⟩ := hk
  rw [List.getElem_range] at hk
  rw [List.length_range] at hl
  subst hk
  refine ⟨hl, fun x H' hy => .inl ⟨hy.1, ?_⟩⟩
  rw [hy.2, ← h2]
  exact .int _
noncomputable def rg1 : List RV × Rho → Option (List D × Rho)
  | ([(.int j, _)], ρ) => cIf (-(2 ^ 62) ≤ j ∧ j < 2 ^ 62) (some (rngD 0 j.toNat, ρ)) none
  | _ => none
noncomputable def rg2 : List RV × Rho → Option (List D × Rho)
  | ([(.int i, _), (.int j, _)], ρ) => cIf (-(2 ^ 62) ≤ i ∧ i < 2 ^ 62 ∧ -(2 ^ 62) ≤ j ∧ j < 2 ^ 62) (some (rngD i (j - i).toNat, ρ)) none
  | _ => none
noncomputable def mRg1 (m : Rho → Option (List RV × Rho)) : Rho → Option (List D × Rho) := fun ρ => (m ρ).bind rg1
noncomputable def mRg2 (m : Rho → Option (List RV × Rho)) : Rho → Option (List D × Rho) := fun ρ => (m ρ).bind rg2
section
variable {ta : TA} {m : Rho → Option (List RV × Rho)}
theorem rng2_gen (h : MA ta m) (F : Fr) (B H : Hp) (σ : St) (ρ : Rho) (ds : List D) (ρ' : Rho) (Q : It → Hp → Prop) (R : Rel F B H σ ρ) (e : mRg2 m ρ = some (ds, ρ'))
    (q : ∀ J B' H', Ext σ ρ B H ρ' B' H' → Rel F B' H' σ ρ' → (∀ G, ItOk G B' J ds) → Q J H') : iRng2 ta σ H Q := by
  obtain ⟨x, e1, e⟩ := Option.bind_eq_some_iff.mp e
  refine h F B H σ ρ x.1 x.2 _ R e1 fun vs B1 H1 E1 R1 V1 => ?_
  obtain ⟨rs, ρ2⟩ := x
  unfold rg2 at e
  split at e
  · rename_i i k j k' ρ3 heq
    cases heq
    obtain ⟨hj, e⟩ := cIf_eq e
    · cases e
      match vs, V1 with
      | [v, w], ⟨⟨h1, _⟩, ⟨h2, _⟩, _⟩ =>
        have : v = .int i := (h1.view R1).int
        subst this
        have : w = .int j := (h2.view R1).int
        subst this
        exact ⟨i, j, rfl, hj, q _ B1 H1 E1 R1 fun G => itr_ok⟩
  · cases e
theorem mf_rng2 (h : MA ta m) : MF (iRng2 ta) (mRg2 m) := fun F B H σ ρ ds ρ' Q R e q => rng2_gen h F B H σ ρ ds ρ' Q R e fun J B' H' E R' I => q J B' H' E R' (I _)
end
end Mir
set_option Elab.async false
set_option linter.all false
set_option maxRecDepth 100000
namespace Mir
open PySem L2
variable [Zc]
section
variable {K : PySem.W.Frag} {ta : TA} {m : Rho → Option (List RV × Rho)}
end
def demote (ρ : Rho) (i : Nat) : Sl := match ρ[i]? with
  | some (.own d) => .ro d
  | some (.io d) => .ro d
  | some .ex => .no
  | some s => s
  | none => .no
def asF : RV → Option D
  | (d, .fz) => some d
  | _ => none
theorem asF_eq {r : RV} {d : D} (h : asF r = some d) : r = (d, .fz) := by
  obtain ⟨c, k⟩ := r
  cases k with
  | fz => cases h; rfl
  | _ => cases h
def compL (c : Rho → Option (Bool × Rho)) (e : PM) (ρn : Rho) : List D → Option (List D)
  | [] => some []
  | d :: ds => (c (.fz d :: ρn)).bind fun b => if b.1 = true then (sv e (.fz d :: ρn)).bind fun y => (asF y.1).bind fun z => (compL c e ρn ds).map (z :: ·) else compL c e ρn ds
noncomputable def mLC (fr : List (Str × Nat)) (it : Rho → Option (List D × Rho)) (c : Rho → Option (Bool × Rho)) (e : PM) : PM := fun ρ => (it ρ).bind fun x => (compL c e (fr.map fun p => demote x.2 p.2) x.1).bind fun ys => cIf (ys.length < sizeLine) (some ((.list ys, .new), x.2)) none
def mYes : Rho → Option (Bool × Rho) := fun ρ => some (true, ρ)
theorem mt_yes : MT tYes mYes := by
  intro F B H σ ρ b ρ' Q R e q
  cases e
  exact q B H (Ext.refl _ _ _ _) R
def F0 (H : Hp) : Fr := ⟨fun _ => none, fun _ => none, [], fun q => H q ≠ none⟩
theorem demote_ex {ρ : Rho} {i : Nat} : demote ρ i ≠ .ex := by
  unfold demote
  cases h : ρ[i]? with
  | none => simp
  | some s => cases s <;> simp
theorem demote_own {ρ : Rho} {i : Nat} : (demote ρ i).isOwn = false := by
  unfold demote
  cases h : ρ[i]? with
  | none => rfl
  | some s => cases s <;> rfl
theorem Rel.inner {F : Fr} {B H : Hp} {σ : St} {ρ : Rho} (R : Rel F B H σ ρ) (fr : List (Str × Nat)) {v : V} {d : D} (h : Rep B v d) : Rel (F0 H) B H (some v :: compRest σ fr) (.fz d :: fr.map fun p => demote ρ p.2) := by
  have nown : ∀ (i : Nat) (s : Sl), (Sl.fz d :: fr.map fun p => demote ρ p.2)[i]? = some s → s.isOwn = true → False := fun i s h1 h2 => by
    cases i with
    | zero => cases h1; cases h2
    | succ i =>
      have h1' : (fr.map fun p => demote ρ p.2)[i]? = some s := by simpa using h1
      rw [List.getElem?_map] at h1'
      obtain ⟨p, _, e⟩ := Option.map_eq_some_iff.mp h1'
      rw [← e, demote_own] at h2
      cases h2
  have nex : ∀ i : Nat, (Sl.fz d :: fr.map fun p => demote ρ p.2)[i]? = some Sl.ex → False := fun i h1 => by
    cases i with
    | zero => cases h1
    | succ i =>
      have h1' : (fr.map fun p => demote ρ p.2)[i]? = some Sl.ex := by simpa using h1
      rw [List.getElem?_map] at h1'
      obtain ⟨p, _, e⟩ := Option.map_eq_some_iff.mp h1'
      exact absurd e demote_ex
  refine ⟨R.sub, (fun _ _ z => by cases z), (fun _ _ z => by cases z), fun _ z _ => absurd rfl z, by simp [compRest], fun i s hs => ?_, fun i j s t p h1 h2 => (nown i s h1 h2).elim, fun i d p h1 => (nown i _ h1 rfl).elim, (fun x hx => by cases hx), fun i d h1 => (nown i _ h1 rfl).elim, R.tupB, (fun i h1 => (nex i h1).elim), fun q o u h z => by rw [z] at h; cases h⟩
  cases i with
  | zero => cases hs; exact ⟨v, rfl, h⟩
  | succ i =>
    have hs' : (fr.map fun p => demote ρ p.2)[i]? = some s := by simpa using hs
    rw [List.getElem?_map] at hs'
    obtain ⟨p, hp, e⟩ := Option.map_eq_some_iff.mp hs'
    have hσ : ∀ x, σ[p.2]? = some (some x) → (some v :: compRest σ fr)[i + 1]? = some (some x) := fun x hx => by
      rw [List.getElem?_cons_succ]
      unfold compRest
      rw [List.getElem?_map, hp, Option.map_some, List.getD_eq_getElem?_getD, hx]
      rfl
    unfold demote at e
    cases q : ρ[p.2]? with
    | none => rw [q] at e; subst e; trivial
    | some s0 =>
      rw [q] at e
      have sl := R.slot p.2 s0 q
      cases s0 with
      | no => subst e; trivial
      | ex => subst e; trivial
      | fz c => subst e; obtain ⟨x, h1, h2⟩ := sl; exact ⟨x, hσ _ h1, h2⟩
      | own c => subst e; obtain ⟨x, h1, _, h2⟩ := sl; exact ⟨x, hσ _ h1, h2⟩
      | io c => subst e; obtain ⟨x, h1, _, h2⟩ := sl; exact ⟨x, hσ _ h1, h2⟩
      | ro c => subst e; obtain ⟨x, h1, h2⟩ := sl; exact ⟨x, hσ _ h1, h2⟩
theorem inner_ext {ρ ρ' : Rho} {σ : St} {B H B' H' : Hp} (nown : ∀ (i : Nat) (s : Sl), ρ[i]? = some s → s.isOwn = true → False) (E : Ext σ ρ B H ρ' B' H') : Same H H' ∧ ∀ q, H q ≠ none → B q = none → B' q = none := by
  have k : ∀ q o, H q = some o → H' q = some o ∧ (B q = none → B' q = none) := fun q o h => E.keep q o h fun i s h1 h2 => (nown i s h1 h2).elim
  refine ⟨fun q o h => (k q o h).1, fun q h z => ?_⟩
  cases e : H q with
  | none => exact absurd e h
  | some o => exact (k q o e).2 z
theorem inner_nown {fr : List (Str × Nat)} {ρ : Rho} {d : D} (i : Nat) (s : Sl) (h1 : (Sl.fz d :: fr.map fun p => demote ρ p.2)[i]? = some s) (h2 : s.isOwn = true) : False := by
  cases i with
  | zero => cases h1; cases h2
  | succ i =>
    have h1' : (fr.map fun p => demote ρ p.2)[i]? = some s := by simpa using h1
    rw [List.getElem?_map] at h1'
    obtain ⟨p, _, e⟩ := Option.map_eq_some_iff.mp h1'
    rw [← e, demote_own] at h2
    cases h2
theorem me_lc {fr : List (Str × Nat)} {wi : TI} {tc : TT} {te : TE} {it : Rho → Option (List D × Rho)} {c : Rho → Option (Bool × Rho)} {e : PM} (hi : MI wi it) (hc : MT tc c) (he : ME te e) : ME (tLC fr wi tc te) (mLC fr it c e) := by
  intro F B H σ ρ r0 ρ' Q R e0 q
  obtain ⟨x, e1, e0⟩ := Option.bind_eq_some_iff.mp e0
  obtain ⟨out, e2, e0⟩ := Option.bind_eq_some_iff.mp e0
  obtain ⟨hz, e0⟩ := cIf_eq e0
  cases e0
  refine hi F B H σ ρ x.1 x.2 _ R e1 fun J B1 H1 E1 R1 I1 => ?_
  obtain ⟨ds, ρ1⟩ := x
  refine ⟨fun i m ys H2 => m = ds.length - i ∧ i ≤ ds.length ∧ ∃ B2 done rest, Same B1 B2 ∧ Same H1 H2 ∧ (∀ q, H1 q ≠ none → B1 q = none → B2 q = none) ∧ Rel F B2 H2 σ ρ1 ∧ Reps B2 ys done ∧ compL c e (fr.map fun p => demote ρ1 p.2) (ds.drop i) = some rest ∧ done ++ rest = out,
    ⟨ds.length, rfl, Nat.zero_le _, B1, [], out, Same.refl _, Same.refl _, fun _ _ z => z, R1, .nil, e2, rfl⟩, ?_⟩
  rintro i m ys H2 ⟨rfl, hil, B2, done, rest, eB, eH, nb, R2, rp, hcl, hdr⟩
  have hlen : ys.length ≤ out.length := by rw [← hdr, List.length_append, rp.length]; omega
  refine ⟨by omega, ?_⟩
  by_cases hlt : i < ds.length
  · refine .inr ?_
    obtain ⟨go, yl⟩ := (I1 H2 eH).2 i ds[i] (List.getElem?_eq_getElem hlt)
    refine ⟨go, fun v H3 hy => ?_⟩
    rw [List.drop_eq_getElem_cons hlt] at hcl
    obtain ⟨b, c1, c2⟩ := Option.bind_eq_some_iff.mp (show (c (.fz ds[i] :: fr.map fun p => demote ρ1 p.2)).bind _ = some rest from hcl)
    have had : ∃ B3, Same B2 B3 ∧ Same H2 H3 ∧ (∀ q, H2 q ≠ none → B2 q = none → B3 q = none) ∧ Rel F B3 H3 σ ρ1 ∧ Rep B3 v ds[i] := by
      rcases yl v H3 hy with ⟨rfl, h2⟩ | ⟨p, xs, cs, h1, rfl, h3, rfl, h5⟩
      · exact ⟨B2, Same.refl _, Same.refl _, fun _ _ z => z, R2, h2.mono eB⟩
      · obtain ⟨R3, E3, e3⟩ := R2.layT (xs := xs) h3
        refine ⟨_, e3, same_upd h3, fun q h z => ?_, R3, ?_⟩
        · rw [upd_ne (show q ≠ p from fun y => h (by rw [y]; exact h3))]; exact z
        · rw [h1]; exact .tup upd_same (h5.mono (eB.trans e3))
    obtain ⟨B3, eB3, eH3, nb3, R3, rv⟩ := had
    have Ri := R3.inner fr rv
    refine hc (F0 H3) B3 H3 _ _ b.1 b.2 _ Ri c1 fun B4 H4 E4 R4 => ?_
    obtain ⟨eH4, nb4⟩ := inner_ext inner_nown E4
    have R4o : Rel F B4 H4 σ ρ1 := R3.grow E4.sB eH4 R4.sub nb4 R4.tupB R4.nz
    have nbA : ∀ q, H1 q ≠ none → B1 q = none → B4 q = none := fun q h z => by
      have h2 : H2 q ≠ none := fun y => h (eH.free y)
      have h3 : H3 q ≠ none := fun y => h2 (eH3.free y)
      exact nb4 q h3 (nb3 q h2 (nb q h z))
    cases hb : b.1 with
    | false =>
      rw [hb, if_neg Bool.false_ne_true] at c2
      rw [if_neg Bool.false_ne_true]
      exact ⟨ds.length - (i + 1), by omega, rfl, hlt, B4, done, rest, eB.trans (eB3.trans E4.sB), eH.trans (eH3.trans eH4), nbA, R4o, rp.mono (eB3.trans E4.sB), c2, hdr⟩
    | true =>
      rw [hb, if_pos rfl] at c2
      rw [if_pos rfl]
      obtain ⟨y, c3, c2⟩ := Option.bind_eq_some_iff.mp c2
      obtain ⟨z, c4, c2⟩ := Option.bind_eq_some_iff.mp c2
      obtain ⟨rest', c5, c6⟩ := Option.map_eq_some_iff.mp c2
      subst c6
      have Ri4 := R4o.inner fr (rv.mono E4.sB)
      refine he.sv (F0 H4) B4 H4 _ _ y.1 y.2 _ Ri4 c3 fun u B5 H5 E5 R5 V5 N5 => ?_
      obtain ⟨eH5, nb5⟩ := inner_ext inner_nown E5
      have R5o : Rel F B5 H5 σ ρ1 := R4o.grow E5.sB eH5 R5.sub nb5 R5.tupB R5.nz
      rw [asF_eq c4] at V5
      refine ⟨ds.length - (i + 1), by omega, rfl, hlt, B5, done ++ [z], rest', eB.trans (eB3.trans (E4.sB.trans E5.sB)), eH.trans (eH3.trans (eH4.trans eH5)), fun q h w => ?_, R5o, (rp.mono (eB3.trans (E4.sB.trans E5.sB))).append (.cons V5 .nil), c5, by rw [List.append_assoc]; exact hdr⟩
      have h2 : H2 q ≠ none := fun y => h (eH.free y)
      have h3 : H3 q ≠ none := fun y => h2 (eH3.free y)
      have h4 : H4 q ≠ none := fun y => h3 (eH4.free y)
      exact nb5 q h4 (nbA q h w)
  · have hi' : i = ds.length := by omega
    subst hi'
    refine .inl ⟨(I1 H2 eH).1, fun p hp => ?_⟩
    rw [List.drop_length] at hcl
    cases hcl
    rw [List.append_nil] at hdr
    subst hdr
    have E2 : Ext σ ρ1 B1 H1 ρ1 B2 H2 := Ext.grow eB eH nb
    have := res_end (res := (.list done, true)) (k := fun Q => ∀ p, H2 p = none → Q (.ref p) (upd H2 p (.lst ys))) (Q := Q) R2 ⟨ys, rp, fun Q h => h⟩ fun v B' H' E R' V' N => q v B' H' ((E1.trans E2).trans E) R' V' fun p z1 z2 => (E1.trans E2).live p (N p z1 z2)
    exact this p hp
end Mir
set_option Elab.async false
set_option linter.all false
set_option maxRecDepth 100000
namespace Mir
open PySem L2
variable [Zc]
def Sl.put : Sl → D → Sl
  | .own _, d => .own d
  | .io _, d => .io d
  | s, _ => s
section
variable {F : Fr} {B H : Hp} {σ : St} {ρ ρ' : Rho} {v : V}
theorem SlotOk.at {B H : Hp} {σ σ' : St} {i : Nat} {s : Sl} (e : σ'[i]? = σ[i]?) (h : SlotOk B H σ i s) : SlotOk B H σ' i s := by
  unfold SlotOk at h ⊢
  rw [e]; exact h
theorem Rel.write (R : Rel F B H σ ρ) {i : Nat} {s : Sl} {p : Addr} {o : HO} {d : D} (hi : ρ[i]? = some s) (hs : s.isOwn = true) (hv : σ[i]? = some (some (.ref p))) (no : (∀ xs, o ≠ .tup xs) ∧ ∀ a u, o ≠ .frz a u) (ow : Own B (upd H p o) p d) :
    Rel F B (upd H p o) σ (ρ.set i (s.put d)) ∧ Ext σ ρ B H (ρ.set i (s.put d)) B (upd H p o) := by
  obtain ⟨p', e1, hB, o0⟩ := R.ownAt hi hs
  rw [hv] at e1
  cases e1
  have hl : i < ρ.length := (List.getElem?_eq_some_iff.mp hi).1
  have pO : (s.put d).isOwn = true ∧ slD (s.put d) = d := by cases s <;> first | exact ⟨rfl, rfl⟩ | cases hs
  have ne : ∀ (j : Nat) (t : Sl) (q : Addr), j ≠ i → ρ[j]? = some t → t.isRef = true → σ[j]? = some (some (.ref q)) → q ≠ p := fun j t q hj h1 h2 h3 z => hj (R.dist i j s t p hi hs h1 h2 hv (z ▸ h3)).symm
  have nio : ∀ (j : Nat) (t : Sl), (ρ.set i (s.put d))[j]? = some t → ∃ t0, ρ[j]? = some t0 ∧ t.isOwn = t0.isOwn ∧ t.isRef = t0.isRef ∧ (∀ c, t = .own c → ∃ c0, t0 = .own c0) ∧ ∀ c, t = .io c → ∃ c0, t0 = .io c0 := fun j t h => by
    rcases get_set h with ⟨rfl, rfl, _⟩ | ⟨_, h⟩
    · refine ⟨s, hi, ?_⟩
      cases s with
      | own c => exact ⟨rfl, rfl, fun _ _ => ⟨_, rfl⟩, fun _ z => by cases z⟩
      | io c => exact ⟨rfl, rfl, (fun _ z => by cases z), fun _ _ => ⟨_, rfl⟩⟩
      | _ => cases hs
    · exact ⟨t, h, rfl, rfl, fun c z => ⟨c, z⟩, fun c z => ⟨c, z⟩⟩
  have hF : F.H p = none ∨ ∃ x ∈ F.io, x.2 = p := by
    cases s with
    | own c => exact .inl (R.ownN i c p hi hv)
    | io c =>
      obtain ⟨p', hp⟩ := R.ioN i c hi
      obtain ⟨h1, _⟩ := R.fx _ hp
      have h1' : σ[i]? = some (some (.ref p')) := h1
      rw [hv] at h1'
      cases h1'
      exact .inr ⟨_, hp, rfl⟩
    | _ => cases hs
  have nput : s.put d ≠ .ex := by
    cases s with
    | own c => simp [Sl.put]
    | io c => simp [Sl.put]
    | _ => cases hs
  refine ⟨⟨?_, R.sB, ?_, R.nB, by rw [List.length_set]; exact R.len, ?_, ?_, ?_, ?_, ?_, ?_, (fun j h => R.exv j (ex_set nput h).1), fun q a u h => by
    by_cases z : q = p
    · subst z; rw [upd_same] at h; cases h; exact absurd rfl (no.2 _ _)
    · rw [upd_ne z] at h; exact R.nz q a u h⟩, ⟨Same.refl _, ?_, ?_, ?_, ?_⟩⟩
  · intro q u hq
    rw [upd_ne (show q ≠ p from fun z => by rw [z, hB] at hq; cases hq)]; exact R.sub q u hq
  · intro q u h1 h2
    have z : q ≠ p := fun z => by
      rcases hF with h | ⟨x, hx, h⟩
      · rw [z, h] at h1; cases h1
      · exact h2 x hx (h.trans z.symm)
    rw [upd_ne z]; exact R.sH q u h1 h2
  · intro j t ht
    rcases get_set ht with ⟨rfl, rfl, _⟩ | ⟨hj, ht⟩
    · cases s with
      | own c => exact ⟨p, hv, hB, ow⟩
      | io c => exact ⟨p, hv, hB, ow⟩
      | _ => cases hs
    · have q := R.slot j t ht
      have k : ∀ q, q ≠ p → ∀ u, H q = some u → upd H p o q = some u := fun q z u h => by rw [upd_ne z]; exact h
      cases t with
      | no => trivial
      | ex => trivial
      | fz c => exact q
      | own c => obtain ⟨q, h1, h2, h3⟩ := q; exact ⟨q, h1, h2, h3.mono (Same.refl _) (k q (ne j _ q hj ht rfl h1))⟩
      | io c => obtain ⟨q, h1, h2, h3⟩ := q; exact ⟨q, h1, h2, h3.mono (Same.refl _) (k q (ne j _ q hj ht rfl h1))⟩
      | ro c => obtain ⟨q, h1, h3⟩ := q; exact ⟨q, h1, h3.mono (Same.refl _) (k q (ne j _ q hj ht rfl h1))⟩
  · intro a b t u q h1 h2 h3 h4 h5 h6
    obtain ⟨t0, h1', e1, _, _, _⟩ := nio a t h1
    obtain ⟨u0, h3', _, e3, _, _⟩ := nio b u h3
    exact R.dist a b t0 u0 q h1' (e1 ▸ h2) h3' (e3 ▸ h4) h5 h6
  · intro j c q h1 h2
    obtain ⟨t0, h1', _, _, e1, _⟩ := nio j _ h1
    obtain ⟨c0, rfl⟩ := e1 c rfl
    exact R.ownN j c0 q h1' h2
  · intro x hx
    obtain ⟨h1, c, h2⟩ := R.fx x hx
    refine ⟨h1, ?_⟩
    by_cases z : i = x.1
    · subst z
      rw [hi] at h2
      cases h2
      exact ⟨d, by rw [List.getElem?_set_self hl]; rfl⟩
    · exact ⟨c, by rw [List.getElem?_set_ne z]; exact h2⟩
  · intro j c h1
    obtain ⟨t0, h1', _, _, _, e1⟩ := nio j _ h1
    obtain ⟨c0, rfl⟩ := e1 c rfl
    exact R.ioN j c0 h1'
  · intro q xs h
    by_cases z : q = p
    · subst z; rw [upd_same] at h; cases h; exact absurd rfl (no.1 xs)
    · rw [upd_ne z] at h; exact R.tupB q xs h
  · intro q u h n
    refine ⟨?_, id⟩
    rw [upd_ne (show q ≠ p from fun z => n i s hi hs (by rw [z]; exact hv))]; exact h
  · intro j t h1 h2
    obtain ⟨t0, h1', e1, _, _, _⟩ := nio j t h1
    exact ⟨t0, h1', e1 ▸ h2⟩
  · intro j t h1 h2
    obtain ⟨t0, h1', _, e1, _, _⟩ := nio j t h1
    exact ⟨t0, h1', e1 ▸ h2⟩
  · intro q h
    by_cases z : q = p
    · subst z; rw [upd_same] at h; cases h
    · rw [upd_ne z] at h; exact h
end
def ownL : Option Sl → Option (List D)
  | some (.own (.list ds)) => some ds
  | some (.io (.list ds)) => some ds
  | _ => none
theorem ownL_eq {s : Option Sl} {ds : List D} (h : ownL s = some ds) : ∃ t, s = some t ∧ t.isOwn = true ∧ slD t = .list ds := by
  unfold ownL at h
  split at h
  · cases h; exact ⟨_, rfl, rfl, rfl⟩
  · cases h; exact ⟨_, rfl, rfl, rfl⟩
  · cases h
def putAt (ρ : Rho) (i : Nat) (d : D) : Rho := match ρ[i]? with
  | some s => ρ.set i (s.put d)
  | none => ρ
def MutJ (r : V → List V → Hp → VK → Prop) (f : List D → List D → Option (List D × D)) : Prop :=
  ∀ (B H : Hp) (p : Addr) (xs : List V) (ds : List D) (vs : List V) (as : List D) (w : List D × D), H p = some (.lst xs) → Reps B xs ds → Same B H → Reps B vs as → f ds as = some w →
    ∃ xs' v, Reps B xs' w.1 ∧ Rep B v w.2 ∧ ∀ Q : VK, Q v (upd H p (.lst xs')) → r (.ref p) vs H Q
def mMut (i : Nat) (f : List D → List D → Option (List D × D)) (m : Rho → Option (List RV × Rho)) : PM := fun ρ => (ownL ρ[i]?).bind fun _ => (m ρ).bind fun x => (fzAll x.1 x.2).bind fun y => (ownL y.2[i]?).bind fun ds => (f ds y.1).map fun w => ((w.2, .fz), putAt y.2 i (.list w.1))
theorem Own.list {B H : Hp} {p : Addr} {ds : List D} (h : Own B H p (.list ds)) : ∃ xs, H p = some (.lst xs) ∧ Reps B xs ds := by
  cases h with
  | lst h r => exact ⟨_, h, r⟩
theorem me_mut {K : PySem.W.Frag} {i : Nat} {r : V → List V → Hp → VK → Prop} {f : List D → List D → Option (List D × D)} {t : TA} {m : Rho → Option (List RV × Rho)} (J : MutJ r f) (h : MA t m) : ME (tBM K "list" r (tVar i) t) (mMut i f m) := by
  intro F B H σ ρ r0 ρ' Q R e q
  obtain ⟨ds0, e0, e⟩ := Option.bind_eq_some_iff.mp e
  obtain ⟨x, e1, e⟩ := Option.bind_eq_some_iff.mp e
  obtain ⟨y, e2, e⟩ := Option.bind_eq_some_iff.mp e
  obtain ⟨ds, e3, e⟩ := Option.bind_eq_some_iff.mp e
  obtain ⟨w, e4, e⟩ := Option.map_eq_some_iff.mp e
  cases e
  obtain ⟨s0, hs0, ho0, hd0⟩ := ownL_eq e0
  obtain ⟨p, hv, hB, ow⟩ := R.ownAt hs0 ho0
  rw [hd0] at ow
  obtain ⟨xs0, hp0, _⟩ := ow.list
  refine ⟨_, hv, .inl ⟨rfl, xs0, SqL.of hp0⟩, ?_⟩
  refine h F B H σ ρ x.1 x.2 _ R e1 fun vs B1 H1 E1 R1 V1 => ?_
  obtain ⟨B2, R2, rp, E2⟩ := Rel.frzL R1 V1.weak e2
  obtain ⟨s, hs, ho, hd⟩ := ownL_eq e3
  obtain ⟨p', hv', hB', ow'⟩ := R2.ownAt hs ho
  rw [hv] at hv'
  cases hv'
  rw [hd] at ow'
  obtain ⟨xs, hp, rx⟩ := ow'.list
  obtain ⟨xs', u, rx', ru, hr⟩ := J B2 H1 p xs ds vs y.1 w hp rx R2.sub rp e4
  obtain ⟨R3, E3⟩ := R2.write (o := .lst xs') (d := .list w.1) hs ho hv ⟨(fun _ z => by cases z), fun _ _ z => by cases z⟩ (.lst upd_same rx')
  have ep : putAt y.2 i (.list w.1) = y.2.set i (s.put (.list w.1)) := by unfold putAt; rw [hs]
  rw [ep] at q
  exact hr Q (q u B2 _ (E1.trans (E2.trans E3)) R3 ru fun p z => by cases z)
def mMut0 (i : Nat) (f : List D → List D → Option (List D × D)) : PM := fun ρ => (ownL ρ[i]?).bind fun ds => (f ds []).map fun w => ((w.2, .fz), putAt ρ i (.list w.1))
end Mir
set_option Elab.async false
set_option linter.all false
set_option maxRecDepth 100000
namespace Mir
open PySem L2
variable [Zc]
inductive Out where
  | nx (ρ : Rho) | rt (r : RV) (ρ : Rho) | bk (ρ : Rho) | ct (ρ : Rho)
abbrev SM := Rho → Option Out
def OutOk (F : Fr) (D : Ends) : Out → Prop
  | .nx ρ => ∀ B H σ, Rel F B H σ ρ → D.nx σ H
  | .rt r ρ => ∀ v B H σ, Rel F B H σ ρ → Val F B H σ ρ v r → D.rt v H
  | .bk ρ => ∀ B H σ, Rel F B H σ ρ → D.bk σ H
  | .ct ρ => ∀ B H σ, Rel F B H σ ρ → D.ct σ H
def MS (t : TS) (m : SM) : Prop := ∀ (F : Fr) (B H : Hp) (σ : St) (ρ : Rho) (o : Out) (D : Ends), Rel F B H σ ρ → m ρ = some o → OutOk F D o → t D σ H
def mSeq (a b : SM) : SM := fun ρ => (a ρ).bind fun o => match o with
  | .nx ρ' => b ρ'
  | o => some o
theorem ms_seq {t u : TS} {a b : SM} (ha : MS t a) (hb : MS u b) : MS (tSeq t u) (mSeq a b) := by
  intro F B H σ ρ o D R e q
  obtain ⟨x, e1, e⟩ := Option.bind_eq_some_iff.mp e
  refine ha F B H σ ρ x _ R e1 ?_
  cases x with
  | nx ρ' => exact fun B' H' σ' R' => hb F B' H' σ' ρ' o D R' e q
  | rt r ρ' => cases e; exact q
  | bk ρ' => cases e; exact q
  | ct ρ' => cases e; exact q
def mPass : SM := fun ρ => some (.nx ρ)
theorem ms_next : MS tNext mPass := by
  intro F B H σ ρ o D R e q
  cases e; exact q B H σ R
def mRet (a : PM) : SM := fun ρ => (a ρ).map fun x => .rt x.1 x.2
theorem ms_ret {t : TE} {a : PM} (ha : ME t a) : MS (tRet t) (mRet a) := by
  intro F B H σ ρ o D R e q
  obtain ⟨x, e1, e⟩ := Option.map_eq_some_iff.mp e
  cases e
  exact ha F B H σ ρ x.1 x.2 _ R e1 fun v B' H' E R' V' N => q v B' H' σ R' V'
def mRetN : SM := fun ρ => some (.rt (.none, .fz) ρ)
def mDrop (a : PM) : SM := fun ρ => (a ρ).map fun x => .nx x.2
theorem ms_drop {t : TE} {a : PM} (ha : ME t a) : MS (tDrop t) (mDrop a) := by
  intro F B H σ ρ o D R e q
  obtain ⟨x, e1, e⟩ := Option.map_eq_some_iff.mp e
  cases e
  exact ha F B H σ ρ x.1 x.2 _ R e1 fun v B' H' E R' V' N => q B' H' σ R'
def mIfS (c : Rho → Option (Bool × Rho)) (a b : SM) : SM := fun ρ => (c ρ).bind fun x => if x.1 = true then a x.2 else b x.2
theorem ms_if {tc : TT} {t u : TS} {c : Rho → Option (Bool × Rho)} {a b : SM} (hc : MT tc c) (ha : MS t a) (hb : MS u b) : MS (tIfS tc t u) (mIfS c a b) := by
  intro F B H σ ρ o D R e q
  obtain ⟨x, e1, e⟩ := Option.bind_eq_some_iff.mp e
  refine hc F B H σ ρ x.1 x.2 _ R e1 fun B' H' E R' => ?_
  by_cases h : x.1 = true
  · rw [if_pos h] at e ⊢; exact ha F B' H' σ x.2 o D R' e q
  · rw [if_neg h] at e ⊢; exact hb F B' H' σ x.2 o D R' e q
def setSl (ρ : Rho) (i : Nat) (s : Sl) : Option Rho := match ρ[i]? with
  | none => none
  | some (.io _) => none
  | some _ => some (ρ.set i s)
theorem setSl_eq {ρ ρ' : Rho} {i : Nat} {s : Sl} (h : setSl ρ i s = some ρ') : ρ' = ρ.set i s ∧ ∃ s0, ρ[i]? = some s0 ∧ ∀ d, s0 ≠ .io d := by
  unfold setSl at h
  cases q : ρ[i]? with
  | none => rw [q] at h; cases h
  | some s0 =>
    rw [q] at h
    cases s0 with
    | io d => cases h
    | no => cases h; exact ⟨rfl, _, rfl, fun _ z => by cases z⟩
    | ex => cases h; exact ⟨rfl, _, rfl, fun _ z => by cases z⟩
    | fz _ => cases h; exact ⟨rfl, _, rfl, fun _ z => by cases z⟩
    | own _ => cases h; exact ⟨rfl, _, rfl, fun _ z => by cases z⟩
    | ro _ => cases h; exact ⟨rfl, _, rfl, fun _ z => by cases z⟩
section
variable {F : Fr} {B H : Hp} {σ : St} {ρ ρ' : Rho} {v : V}
theorem Rel.assignFz (R : Rel F B H σ ρ) {i : Nat} {d : D} (rp : Rep B v d) (h : setSl ρ i (.fz d) = some ρ') : Rel F B H (σ.set i (some v)) ρ' := by
  obtain ⟨rfl, s0, h0, nio⟩ := setSl_eq h
  have hl : i < ρ.length := (List.getElem?_eq_some_iff.mp h0).1
  have hls : i < σ.length := R.len ▸ hl
  have so : ∀ j, j ≠ i → (σ.set i (some v))[j]? = σ[j]? := fun j hj => List.getElem?_set_ne fun e => hj e.symm
  refine ⟨R.sub, R.sB, R.sH, R.nB, by rw [List.length_set, List.length_set]; exact R.len, ?_, ?_, ?_, ?_, ?_, R.tupB, (fun j h => by obtain ⟨h1, h2⟩ := ex_set (by simp) h; rw [so j h2]; exact R.exv j h1), R.nz⟩
  · intro j s hs
    rcases get_set hs with ⟨rfl, rfl, _⟩ | ⟨hj, hs⟩
    · exact ⟨v, List.getElem?_set_self hls, rp⟩
    · exact (R.slot j s hs).at (so j hj)
  · intro a b s t p h1 h2 h3 h4 h5 h6
    rcases get_set h1 with ⟨rfl, rfl, _⟩ | ⟨ha, h1⟩
    · cases h2
    · rcases get_set h3 with ⟨rfl, rfl, _⟩ | ⟨hb, h3⟩
      · cases h4
      · rw [so a ha] at h5; rw [so b hb] at h6; exact R.dist a b s t p h1 h2 h3 h4 h5 h6
  · intro j c p h1 h2
    rcases get_set h1 with ⟨rfl, e, _⟩ | ⟨hj, h1⟩
    · cases e
    · rw [so j hj] at h2; exact R.ownN j c p h1 h2
  · intro x hx
    obtain ⟨h1, c, h2⟩ := R.fx x hx
    have z : x.1 ≠ i := fun z => by rw [z, h0] at h2; cases h2; exact nio _ rfl
    exact ⟨by rw [so _ z]; exact h1, c, by rw [List.getElem?_set_ne fun e => z e.symm]; exact h2⟩
  · intro j c h1
    rcases get_set h1 with ⟨rfl, e, _⟩ | ⟨hj, h1⟩
    · cases e
    · exact R.ioN j c h1
theorem Rel.assignOwn (R : Rel F B H σ ρ) {i : Nat} {d : D} (vl : Val F B H σ ρ v (d, .new)) (h : setSl ρ i (.own d) = some ρ') : Rel F B H (σ.set i (some v)) ρ' := by
  obtain ⟨rfl, s0, h0, nio⟩ := setSl_eq h
  obtain ⟨p, rfl, hB, hF, ow, nn⟩ := vl
  have hl : i < ρ.length := (List.getElem?_eq_some_iff.mp h0).1
  have hls : i < σ.length := R.len ▸ hl
  have so : ∀ j, j ≠ i → (σ.set i (some (.ref p)))[j]? = σ[j]? := fun j hj => List.getElem?_set_ne fun e => hj e.symm
  have si : (σ.set i (some (.ref p)))[i]? = some (some (.ref p)) := List.getElem?_set_self hls
  refine ⟨R.sub, R.sB, R.sH, R.nB, by rw [List.length_set, List.length_set]; exact R.len, ?_, ?_, ?_, ?_, ?_, R.tupB, (fun j h => by obtain ⟨h1, h2⟩ := ex_set (by simp) h; rw [so j h2]; exact R.exv j h1), R.nz⟩
  · intro j s hs
    rcases get_set hs with ⟨rfl, rfl, _⟩ | ⟨hj, hs⟩
    · exact ⟨p, si, hB, ow⟩
    · exact (R.slot j s hs).at (so j hj)
  · intro a b s t q h1 h2 h3 h4 h5 h6
    rcases get_set h1 with ⟨rfl, rfl, _⟩ | ⟨ha, h1'⟩
    · rcases get_set h3 with ⟨rfl, rfl, _⟩ | ⟨hb, h3⟩
      · rfl
      · rw [si] at h5
        cases h5
        rw [so b hb] at h6
        exact absurd h6 (nn b t h3 h4)
    · rcases get_set h3 with ⟨rfl, rfl, _⟩ | ⟨hb, h3⟩
      · rw [si] at h6
        cases h6
        rw [so a ha] at h5
        exact absurd h5 (nn a s h1' (Sl.ref_of h2))
      · rw [so a ha] at h5; rw [so b hb] at h6; exact R.dist a b s t q h1' h2 h3 h4 h5 h6
  · intro j c q h1 h2
    rcases get_set h1 with ⟨rfl, e, _⟩ | ⟨hj, h1⟩
    · rw [si] at h2; cases h2; exact hF
    · rw [so j hj] at h2; exact R.ownN j c q h1 h2
  · intro x hx
    obtain ⟨h1, c, h2⟩ := R.fx x hx
    have z : x.1 ≠ i := fun z => by rw [z, h0] at h2; cases h2; exact nio _ rfl
    exact ⟨by rw [so _ z]; exact h1, c, by rw [List.getElem?_set_ne fun e => z e.symm]; exact h2⟩
  · intro j c h1
    rcases get_set h1 with ⟨rfl, e, _⟩ | ⟨hj, h1⟩
    · cases e
    · exact R.ioN j c h1
end
def sto (i : Nat) (x : RV × Rho) : Option Rho := match x.1.2 with
  | .fz => setSl x.2 i (.fz x.1.1)
  | .new => setSl x.2 i (.own x.1.1)
  | .at j => if j = i then some x.2 else (fzOne x.1 x.2).bind fun y => setSl y.2 i (.fz y.1)
  | .ro => none
def mAsg (i : Nat) (a : PM) : SM := fun ρ => (a ρ).bind fun x => (sto i x).map .nx
theorem ms_asg {i : Nat} {t : TE} {a : PM} (ha : ME t a) : MS (tAsg t (gName i)) (mAsg i a) := by
  intro F B H σ ρ o D R e q
  obtain ⟨x, e1, e⟩ := Option.bind_eq_some_iff.mp e
  obtain ⟨ρ2, e2, e⟩ := Option.map_eq_some_iff.mp e
  cases e
  refine ha F B H σ ρ x.1 x.2 _ R e1 fun v B1 H1 E1 R1 V1 N1 => ?_
  show D.nx (σ.set i (some v)) H1
  obtain ⟨⟨d, k⟩, ρ1⟩ := x
  cases k with
  | fz => exact q B1 H1 _ (R1.assignFz V1 e2)
  | new => exact q B1 H1 _ (R1.assignOwn V1 e2)
  | ro => cases e2
  | «at» j =>
    have e2' : (if j = i then some ρ1 else (fzOne (d, .at j) ρ1).bind fun y => setSl y.2 i (.fz y.1)) = some ρ2 := e2
    obtain ⟨s, h1, h2, h3, h4⟩ := V1
    have h4' : σ[j]? = some (some v) := h4
    by_cases z : j = i
    · rw [if_pos z] at e2'
      cases e2'
      subst z
      have : σ.set j (some v) = σ := by
        apply List.ext_getElem?
        intro k
        by_cases hk : k = j
        · subst hk
          obtain ⟨hl, _⟩ := List.getElem?_eq_some_iff.mp h4'
          rw [List.getElem?_set_self hl, h4']
        · rw [List.getElem?_set_ne fun e => hk e.symm]
      rw [this]
      exact q B1 H1 _ R1
    · rw [if_neg z] at e2'
      obtain ⟨y, e3, e4⟩ := Option.bind_eq_some_iff.mp e2'
      obtain ⟨B2, R2, rp, E2⟩ := R1.frz (v := v) (r := (d, .at j)) (show WVal B1 σ v (d, .at j) from h4') e3
      exact q B2 H1 _ (R2.assignFz rp e4)
def mAug (i : Nat) (f : Int → Int → Int) (a : PM) : SM := fun ρ => match ρ[i]? with
  | some (.fz (.int x)) => ((sv a ρ).bind asI).bind fun y => (setSl y.2 i (.fz (.int (f x y.1)))).map .nx
  | _ => none
theorem ms_aug {i : Nat} {f : Int → Int → Int} {t : TE} {a : PM} (ha : ME t a) : MS (tAug i t (ipI f)) (mAug i f a) := by
  intro F B H σ ρ o D R e q
  unfold mAug at e
  split at e
  · rename_i x hx
    obtain ⟨y, e0, e⟩ := Option.bind_eq_some_iff.mp e
    obtain ⟨z, e1, e2⟩ := Option.bind_eq_some_iff.mp e0
    obtain ⟨ρ2, e3, e⟩ := Option.map_eq_some_iff.mp e
    cases e
    obtain ⟨w, h1, h2⟩ := R.slot i _ hx
    cases h2
    refine ⟨_, h1, ?_⟩
    refine ha.sv F B H σ ρ z.1 z.2 _ R e1 fun v B1 H1 E1 R1 V1 N1 => ?_
    obtain ⟨g1, g2⟩ := asI_eq (b := y.1) (ρ := y.2) e2
    have vv := V1.view R1
    rw [g1] at vv
    rw [g2] at R1
    exact ⟨x, y.1, rfl, vv.int, q B1 H1 _ (R1.assignFz (.int _) e3)⟩
  · cases e
def MG (g : TG) (mg : D → Rho → Option Rho) : Prop := ∀ (F : Fr) (B H : Hp) (σ : St) (ρ : Rho) (v : V) (d : D) (ρ' : Rho) (Q : St → Hp → Prop), Rel F B H σ ρ → Rep B v d → mg d ρ = some ρ' → (∀ B' H' σ', Rel F B' H' σ' ρ' → Same B B' → Q σ' H') → g v σ H Q
def mgN (i : Nat) : D → Rho → Option Rho := fun d ρ => setSl ρ i (.fz d)
theorem mg_name {i : Nat} : MG (gName i) (mgN i) := fun F B H σ ρ v d ρ' Q R rp e q => q B H _ (R.assignFz rp e) (Same.refl _)
def mgsNil : List D → Rho → Option Rho := fun ds ρ => match ds with
  | [] => some ρ
  | _ => none
def mgsCons (g : D → Rho → Option Rho) (gs : List D → Rho → Option Rho) : List D → Rho → Option Rho := fun ds ρ => match ds with
  | d :: ds => (g d ρ).bind fun ρ1 => gs ds ρ1
  | _ => none
def mgT (n : Nat) (ms : List D → Rho → Option Rho) : D → Rho → Option Rho := fun d ρ => (asT d).bind fun ds => if ds.length = n then ms ds ρ else none
def mAsgG (a : PM) (g : D → Rho → Option Rho) : SM := fun ρ => (sv a ρ).bind fun x => (fzOne x.1 x.2).bind fun y => (g y.1 y.2).map .nx
def mgSub (i : Nat) (a : PM) : D → Rho → Option Rho := fun d ρ => (ownL ρ[i]?).bind fun _ => ((sv a ρ).bind asI).bind fun y => (ownL y.2[i]?).bind fun ds => (ixN ds.length y.1).map fun j => putAt y.2 i (.list (ds.set j d))
def mWhile (c : Rho → Option (Bool × Rho)) (b : SM) : Nat → SM
  | 0 => fun _ => none
  | n + 1 => fun ρ => (c ρ).bind fun x => if x.1 = true then (b x.2).bind fun o => match o with
      | .nx ρ' => mWhile c b n ρ'
      | .ct ρ' => mWhile c b n ρ'
      | .bk ρ' => some (.nx ρ')
      | .rt r ρ' => some (.rt r ρ')
    else some (.nx x.2)
theorem ms_while {tc : TT} {tb : TS} {c : Rho → Option (Bool × Rho)} {b : SM} {n : Nat} (hc : MT tc c) (hb : MS tb b) : MS (tWhile tc tb) (mWhile c b n) := by
  intro F B H σ ρ o D R e q
  refine ⟨fun m σ H => ∃ B ρ, Rel F B H σ ρ ∧ mWhile c b m ρ = some o, ⟨n, B, ρ, R, e⟩, ?_⟩
  rintro m σ1 H1 ⟨B1, ρ1, R1, e1⟩
  cases m with
  | zero => cases e1
  | succ m =>
    obtain ⟨x, e2, e3⟩ := Option.bind_eq_some_iff.mp (show (c ρ1).bind _ = some o from e1)
    refine hc F B1 H1 σ1 ρ1 x.1 x.2 _ R1 e2 fun B2 H2 E2 R2 => ?_
    by_cases h : x.1 = true
    · rw [if_pos h] at e3 ⊢
      obtain ⟨w, e4, e5⟩ := Option.bind_eq_some_iff.mp e3
      refine ⟨fun σ' H' => ∃ B' ρ', Rel F B' H' σ' ρ' ∧ mWhile c b m ρ' = some o, fun σ' H' h' => ⟨m, Nat.lt_succ_self _, h'⟩, ?_⟩
      refine hb F B2 H2 σ1 x.2 w _ R2 e4 ?_
      cases w with
      | nx ρ' => exact fun B' H' σ' R' => ⟨B', ρ', R', e5⟩
      | ct ρ' => exact fun B' H' σ' R' => ⟨B', ρ', R', e5⟩
      | bk ρ' => cases e5; exact q
      | rt r ρ' => cases e5; exact q
    · rw [if_neg h] at e3 ⊢
      cases e3
      exact q B2 H2 σ1 R2
def forL (g : D → Rho → Option Rho) (b : SM) : List D → SM
  | [] => fun ρ => some (.nx ρ)
  | d :: ds => fun ρ => (g d ρ).bind fun ρ1 => (b ρ1).bind fun o => match o with
      | .nx ρ' => forL g b ds ρ'
      | .ct ρ' => forL g b ds ρ'
      | .bk ρ' => some (.nx ρ')
      | .rt r ρ' => some (.rt r ρ')
def mFor (it : Rho → Option (List D × Rho)) (g : D → Rho → Option Rho) (b : SM) : SM := fun ρ => (it ρ).bind fun x => forL g b x.1 x.2
section
variable {F : Fr} {B B1 H H1 : Hp} {σ σ1 : St} {ρ ρ1 : Rho}
theorem Rel.up (R1 : Rel F B1 H1 σ1 ρ1) (R : Rel ⟨B1, F.H, F.io, F.Z⟩ B H σ ρ) : Rel F B H σ ρ :=
  ⟨R.sub, R1.sB.trans R.sB, R.sH, fun q h z => R.nB q h (R1.nB q h z), R.len, R.slot, R.dist, R.ownN, R.fx, R.ioN, R.tupB, R.exv, R.nz⟩
theorem Rel.down (R1 : Rel F B1 H1 σ1 ρ1) : Rel ⟨B1, F.H, F.io, F.Z⟩ B1 H1 σ1 ρ1 :=
  ⟨R1.sub, Same.refl _, R1.sH, fun q h z => z, R1.len, R1.slot, R1.dist, R1.ownN, R1.fx, R1.ioN, R1.tupB, R1.exv, R1.nz⟩
end
theorem OutOk.down {F : Fr} {B1 H1 : Hp} {σ1 : St} {ρ1 : Rho} (R1 : Rel F B1 H1 σ1 ρ1) {D : Ends} {o : Out} (h : OutOk F D o) : OutOk ⟨B1, F.H, F.io, F.Z⟩ D o := by
  cases o with
  | nx ρ => exact fun B H σ R => h B H σ (R1.up R)
  | bk ρ => exact fun B H σ R => h B H σ (R1.up R)
  | ct ρ => exact fun B H σ R => h B H σ (R1.up R)
  | rt r ρ => exact fun v B H σ R V => h v B H σ (R1.up R) V
theorem ms_for {ti : TI} {tg : TG} {tb : TS} {it : Rho → Option (List D × Rho)} {g : D → Rho → Option Rho} {b : SM} (hi : MF ti it) (hg : MG tg g) (hb : MS tb b) : MS (tFor ti tg tb) (mFor it g b) := by
  intro F B H σ ρ o D R e q
  obtain ⟨x, e1, e⟩ := Option.bind_eq_some_iff.mp e
  refine hi F B H σ ρ x.1 x.2 _ R e1 fun J B1 H1 E1 R1 I1 => ?_
  obtain ⟨ds, ρ1⟩ := x
  have q' := q.down R1
  refine ⟨fun i m σ H => m = ds.length - i ∧ i ≤ ds.length ∧ ∃ B ρ, Rel ⟨B1, F.H, F.io, F.Z⟩ B H σ ρ ∧ forL g b (ds.drop i) ρ = some o, ⟨ds.length, rfl, Nat.zero_le _, B1, ρ1, R1.down, e⟩, ?_⟩
  rintro i m σ2 H2 ⟨rfl, hil, B2, ρ2, R2, e2⟩
  have sH : Same B1 H2 := R2.sB.trans R2.sub
  by_cases hlt : i < ds.length
  · refine .inr ?_
    obtain ⟨go, yl⟩ := (I1 H2 sH).2 i ds[i] (List.getElem?_eq_getElem hlt)
    rw [List.drop_eq_getElem_cons hlt] at e2
    obtain ⟨ρ3, e3, e4⟩ := Option.bind_eq_some_iff.mp (show (g ds[i] ρ2).bind _ = some o from e2)
    obtain ⟨w, e5, e6⟩ := Option.bind_eq_some_iff.mp e4
    refine ⟨go, fun σ' H' => ∃ B' ρ', Rel ⟨B1, F.H, F.io, F.Z⟩ B' H' σ' ρ' ∧ forL g b (ds.drop (i + 1)) ρ' = some o, fun σ' H' h' => ⟨ds.length - (i + 1), by omega, rfl, hlt, h'⟩, fun y H3 hy => ?_⟩
    have had : ∃ B3, Rel ⟨B1, F.H, F.io, F.Z⟩ B3 H3 σ2 ρ2 ∧ Rep B3 y ds[i] := by
      rcases yl y H3 hy with ⟨rfl, h2⟩ | ⟨p, xs, cs, h1, rfl, h3, rfl, h5⟩
      · exact ⟨B2, R2, h2.mono R2.sB⟩
      · obtain ⟨R3, E3, e3⟩ := R2.layT (xs := xs) h3
        exact ⟨_, R3, by rw [h1]; exact .tup upd_same (h5.mono (R2.sB.trans e3))⟩
    obtain ⟨B3, R3, rp⟩ := had
    refine hg _ B3 H3 σ2 ρ2 y ds[i] ρ3 _ R3 rp e3 fun B4 H4 σ4 R4 _ => ?_
    refine hb _ B4 H4 σ4 ρ3 w _ R4 e5 ?_
    cases w with
    | nx ρ' => exact fun B' H' σ' R' => ⟨B', ρ', R', e6⟩
    | ct ρ' => exact fun B' H' σ' R' => ⟨B', ρ', R', e6⟩
    | bk ρ' => cases e6; exact q'
    | rt r ρ' => cases e6; exact q'
  · have hi' : i = ds.length := by omega
    subst hi'
    rw [List.drop_length] at e2
    cases e2
    exact .inl ⟨(I1 H2 sH).1, q' B2 H2 σ2 R2⟩
def retD : Out → Option (D × Bool)
  | .rt (d, .fz) _ => some (d, false)
  | .rt (d, .new) _ => some (d, true)
  | .rt (_, .at i) ρ => match ρ[i]? with
    | some (.own d) => some (d, true)
    | _ => none
  | .nx _ => some (.none, false)
  | _ => none
def fnM (n k : Nat) (b : SM) (ds : List D) : Option (D × Bool) := if ds.length = n then (b (ds.map .fz ++ List.replicate k .no)).bind retD else none
theorem fn_run {n k : Nat} {b : SM} {t : TS} {N : List Str} {vs : List V} {H : Hp} {Q : VK} {E : XK} (hb : MS t b) (hN : N.length = n + k) (h : spM (fnM n k b) vs H Q E) : t { nx := fun _ H' => Q .non H', rt := Q } (L2.start N vs) H := by
  obtain ⟨B, ds, d, o, sub, tB, rp, e, q⟩ := h
  unfold fnM at e
  split at e
  case isFalse => cases e
  rename_i hl
  obtain ⟨w, e1, e2⟩ := Option.bind_eq_some_iff.mp e
  have hvl : vs.length = n := rp.length.trans hl
  have own0 : ∀ (i : Nat) (s : Sl), (ds.map Sl.fz ++ List.replicate k .no)[i]? = some s → s.isRef = true → False := fun i s h1 h2 => by
    have := List.mem_of_getElem? h1
    rcases List.mem_append.mp this with h | h
    · obtain ⟨c, _, rfl⟩ := List.mem_map.mp h; cases h2
    · rw [List.eq_of_mem_replicate h] at h2; cases h2
  have ex0 : ∀ i : Nat, (ds.map Sl.fz ++ List.replicate k .no)[i]? = some Sl.ex → False := fun i h1 => by
    have := List.mem_of_getElem? h1
    rcases List.mem_append.mp this with h | h
    · obtain ⟨c, _, z⟩ := List.mem_map.mp h; cases z
    · have := List.eq_of_mem_replicate h; cases this
  have R : Rel ⟨B, H, [], fun q => H q ≠ none⟩ B H (L2.start N vs) (ds.map .fz ++ List.replicate k .no) := by
    refine ⟨sub, Same.refl _, fun _ _ z _ => z, fun _ _ z => z, ?_, fun i s hs => ?_, fun i j s t p h1 h2 => (own0 i s h1 (Sl.ref_of h2)).elim, fun i c p h1 => (own0 i _ h1 rfl).elim, (fun x hx => by cases hx), fun i c h1 => (own0 i _ h1 rfl).elim, tB, (fun i h1 => (ex0 i h1).elim), fun q o u h z => by rw [z] at h; cases h⟩
    · simp [L2.start, hl, hvl, hN]
    · by_cases hi : i < n
      · rw [List.getElem?_append_left (by simpa [hl] using hi), List.getElem?_map] at hs
        obtain ⟨c, h1, rfl⟩ := Option.map_eq_some_iff.mp hs
        obtain ⟨x, h2, h3⟩ := rp.get i c h1
        refine ⟨x, ?_, h3⟩
        unfold L2.start
        rw [List.getElem?_append_left (by simpa [hvl] using hi), List.getElem?_map, h2]
        rfl
      · rw [List.getElem?_append_right (by simpa [hl] using Nat.le_of_not_lt hi)] at hs
        have := List.eq_of_mem_replicate (List.mem_of_getElem? hs)
        subst this
        trivial
  refine hb _ B H _ _ w _ R e1 ?_
  have post : ∀ {B' H' : Hp} {σ' : St} {ρ' : Rho}, Rel ⟨B, H, [], fun q => H q ≠ none⟩ B' H' σ' ρ' → Same H H' ∧ Same B B' ∧ Same B' H' ∧ (∀ q, H q ≠ none → B q = none → B' q = none) ∧ (∀ q xs, H' q = some (.tup xs) → B' q = some (.tup xs)) ∧ ∀ q o u, H' q = some (.frz o u) → H q ≠ none := fun R' =>
    ⟨fun q u z => R'.sH q u z (fun x hx => by cases hx), R'.sB, R'.sub, R'.nB, R'.tupB, R'.nz⟩
  cases w with
  | nx ρ' =>
    cases e2
    intro B' H' σ' R'
    obtain ⟨p1, p2, p3, p4, p5, p6⟩ := post R'
    exact q _ B' H' ⟨p1, p2, p3, p4, p5, p6, .non⟩
  | bk ρ' => cases e2
  | ct ρ' => cases e2
  | rt r ρ' =>
    intro v B' H' σ' R' V'
    obtain ⟨p1, p2, p3, p4, p5, p6⟩ := post R'
    obtain ⟨c, kd⟩ := r
    cases kd with
    | fz => cases e2; exact q v B' H' ⟨p1, p2, p3, p4, p5, p6, V'⟩
    | new =>
      cases e2
      obtain ⟨p, rfl, h1, h2, h3, _⟩ := V'
      exact q _ B' H' ⟨p1, p2, p3, p4, p5, p6, ⟨p, rfl, h2, h1, h3⟩⟩
    | ro => cases e2
    | «at» i =>
      obtain ⟨s, h1, h2, h3, h4⟩ := V'
      have e2' : (match ρ'[i]? with
        | some (.own d) => some (d, true)
        | _ => none) = some (d, o) := e2
      rw [h1] at e2'
      cases s with
      | own c' =>
        cases e2'
        obtain ⟨p, g1, g2, g3⟩ := R'.slot i _ h1
        have h4' : σ'[i]? = some (some v) := h4
        rw [h4'] at g1
        cases g1
        exact q _ B' H' ⟨p1, p2, p3, p4, p5, p6, ⟨p, rfl, R'.ownN i _ p h1 h4', g2, g3⟩⟩
      | _ => cases e2'
theorem spM_len {n k : Nat} {b : SM} {vs : List V} {H : Hp} {Q : VK} {E : XK} (h : spM (fnM n k b) vs H Q E) : vs.length = n := by
  obtain ⟨B, ds, d, o, sub, tB, rp, e, q⟩ := h
  unfold fnM at e
  split at e
  · rename_i hl; exact rp.length.trans hl
  · cases e
end Mir
set_option Elab.async false
set_option linter.all false
set_option maxRecDepth 100000
namespace Mir
open PySem L2 PySem.Spec PyProof.Rows
variable [Zc]
section
variable {X : Cx}
def rCatR : R2 := fun x y H Q => ∃ l b xs zs, x = .ref l ∧ y = .ref b ∧ Rd H l (.lst xs) ∧ Rd H b (.lst zs) ∧ xs.length + zs.length ≤ sizeLine ∧ ∀ p, H p = none → Q (.ref p) (upd H p (.lst (xs ++ zs)))
theorem op_catR : OpR X (binaryOp .Add) rCatR := by
  intro pins s σ H x y v u Q I rx ry h
  obtain ⟨l, b, xs, zs, rfl, rfl, hH, hB, hz, q⟩ := h
  cases rx
  cases ry
  obtain ⟨z, its, n, r, e⟩ := hH.ok I.hok
  obtain ⟨z2, its2, n2, r2, e2⟩ := hB.ok I.hok
  have hl := r.length
  have hl2 := r2.length
  refine PySem.P.add_list e e2 ?_ (by rw [List.size_toArray, List.size_toArray]; omega)
  have ea : its.toArray ++ its2.toArray = (its ++ its2).toArray := by simp
  rw [ea]
  exact ⟨.ref _, _, I.lnew (t' := s.toks) (r.append r2) (by rw [List.length_append]; omega), rfl, q _ I.fresh⟩
def rPlusM (K : PySem.W.Frag) : R2 := fun x y H Q => rI0 (fun i j => .int (i + j)) x y H Q ∨ rCatR x y H Q ∨ (∃ i j, x = .str i ∧ y = .str j ∧ i.length + j.length ≤ sizeLine ∧ Q (.str (i ++ j)) H) ∨ rCatT K x y H Q
theorem op_addM : OpR X (binaryOp .Add) (rPlusM X.K) := op_add.or (op_catR.or (op_add_str.or op_catT))
end
theorem res_int {B H : Hp} {i : Int} {k : VK → Prop} (h : ∀ Q : VK, Q (.int i) H → k Q) : ResOk B H (.int i, false) k := ⟨_, .int i, h⟩
theorem res_bool {B H : Hp} {i : Bool} {k : VK → Prop} (h : ∀ Q : VK, Q (.bl i) H → k Q) : ResOk B H (.bool i, false) k := ⟨_, .bl i, h⟩
theorem res_str {B H : Hp} {i : Str} {k : VK → Prop} (h : ∀ Q : VK, Q (.str i) H → k Q) : ResOk B H (.str i, false) k := ⟨_, .str i, h⟩
noncomputable def gAdd : D → D → Option (D × Bool)
  | .int i, .int j => some (.int (i + j), false)
  | .list a, .list b => cIf (a.length + b.length ≤ sizeLine) (some (.list (a ++ b), true)) none
  | .str a, .str b => cIf (a.length + b.length ≤ sizeLine) (some (.str (a ++ b), false)) none
  | .tuple (c :: a), .tuple b => cIf ((c :: a).length + b.length ≤ sizeLine ∧ b ≠ []) (some (.tuple ((c :: a) ++ b), true)) none
  | _, _ => none
theorem J_add {K : PySem.W.Frag} : OpJ (rPlusM K) gAdd := by
  intro B H x y c d res s hx hy e
  unfold gAdd at e
  split at e
  · cases e
    have h1 := hx.int; have h2 := hy.int; subst h1 h2
    exact res_int fun Q q => .inl ⟨_, _, rfl, rfl, q⟩
  · obtain ⟨hz, e⟩ := cIf_eq e
    · cases e
      obtain ⟨p, xs, rfl, r1, rp1⟩ := hx.list s
      obtain ⟨p2, ys, rfl, r2, rp2⟩ := hy.list s
      exact ⟨xs ++ ys, rp1.append rp2, fun Q q => .inr (.inl ⟨_, _, _, _, rfl, rfl, r1, r2, by rw [rp1.length, rp2.length]; exact hz, q⟩)⟩
  · obtain ⟨hz, e⟩ := cIf_eq e
    · cases e
      have h1 := hx.str; have h2 := hy.str; subst h1 h2
      exact res_str fun Q q => .inr (.inr (.inl ⟨_, _, rfl, rfl, hz, q⟩))
  · obtain ⟨hz, e⟩ := cIf_eq e
    · cases e
      obtain ⟨p, xs, rfl, r1, rp1⟩ := hx.tuple s
      obtain ⟨p2, ys, rfl, r2, rp2⟩ := hy.tuple s
      have hne : xs ≠ [] := by intro z; subst z; cases rp1
      have hne2 : ys ≠ [] := by intro z; subst z; cases rp2; exact hz.2 rfl
      refine ⟨xs ++ ys, rp1.append rp2, fun Q q => .inr (.inr (.inr ⟨_, _, xs, ys, rfl, rfl, .inl (.inl r1), .inl (.inl r2), ?_⟩))⟩
      exact ⟨hne, by rw [rp1.length, rp2.length]; exact hz.1, fun z => absurd z hne2, fun _ => q⟩
  · cases e
noncomputable def gI (C : Int → Int → Prop) (f : Int → Int → Int) : D → D → Option (D × Bool)
  | .int i, .int j => cIf (C i j) (some (.int (f i j), false)) none
  | _, _ => none
theorem J_I {C : Int → Int → Prop} {f : Int → Int → Int} : OpJ (rI C fun i j => .int (f i j)) (gI C f) := by
  intro B H x y c d res s hx hy e
  unfold gI at e
  split at e
  · obtain ⟨hc, e⟩ := cIf_eq e
    · cases e
      have h1 := hx.int; have h2 := hy.int; subst h1 h2
      exact res_int fun Q q => ⟨_, _, rfl, rfl, hc, q⟩
  · cases e
def gI0 (f : Int → Int → Int) : D → D → Option (D × Bool)
  | .int i, .int j => some (.int (f i j), false)
  | _, _ => none
theorem J_I0 {f : Int → Int → Int} : OpJ (rI0 fun i j => .int (f i j)) (gI0 f) := by
  intro B H x y c d res s hx hy e
  unfold gI0 at e
  split at e
  · cases e
    have h1 := hx.int; have h2 := hy.int; subst h1 h2
    exact res_int fun Q q => ⟨_, _, rfl, rfl, q⟩
  · cases e
def gB0 (f : Int → Int → Bool) : D → D → Option (D × Bool)
  | .int i, .int j => some (.bool (f i j), false)
  | _, _ => none
theorem J_B0 {f : Int → Int → Bool} : OpJ (rI0 fun i j => .bl (f i j)) (gB0 f) := by
  intro B H x y c d res s hx hy e
  unfold gB0 at e
  split at e
  · cases e
    have h1 := hx.int; have h2 := hy.int; subst h1 h2
    exact res_bool fun Q q => ⟨_, _, rfl, rfl, q⟩
  · cases e
abbrev gSub := gI0 fun i j => i - j
abbrev gLt := gB0 fun i j => decide (i < j)
abbrev gLe := gB0 fun i j => decide (i ≤ j)
abbrev gGt := gB0 fun i j => decide (j < i)
noncomputable abbrev gDiv := gI CDiv fun i j => i / j
noncomputable abbrev gMod := gI (fun _ j => 0 < j) fun i j => i % j
noncomputable abbrev gPow := gI CPow fun i j => i ^ j.toNat
section
variable {X : Cx}
end
noncomputable def gMul : D → D → Option (D × Bool)
  | .int i, .int j => cIf (IntMulOk i j) (some (.int (i * j), false)) none
  | _, _ => none
mutual
theorem Rep.data {K : PySem.W.Frag} {H : Hp} : ∀ {v : V} {d : D}, Rep H v d → d.canLay0 = true → DataV K H v d
  | _, _, .non, _ => .non
  | _, _, .bl b, _ => .bl b
  | _, _, .int i, _ => .int i
  | _, _, .str x, _ => .str x
  | _, _, .lst h r, e => .lst (rd_sq h) (Reps.data r (by simpa [PyData.canLay0] using e))
  | _, _, .tup h r, e => .tup (.inl (.inl h)) (Reps.data r (by simpa [PyData.canLay0] using e))
  | _, _, .dct _ _, e => by simp [PyData.canLay0] at e
theorem Reps.data {K : PySem.W.Frag} {H : Hp} : ∀ {v : List V} {d : List D}, Reps H v d → PyData.canLayAll0 d = true → DataVs K H v d
  | _, _, .nil, _ => .nil
  | _, _, .cons a b, e => by
    simp only [PyData.canLayAll0, Bool.and_eq_true] at e
    exact .cons (Rep.data a e.1) (Reps.data b e.2)
end
def gEq : D → D → Option (D × Bool) := fun c d => if SeqAt.shaped c = true ∧ SeqAt.shaped d = true then some (.bool (PyData.eqv c d), false) else none
def gNe : D → D → Option (D × Bool) := fun c d => if SeqAt.shaped c = true ∧ SeqAt.shaped d = true then some (.bool (!PyData.eqv c d), false) else none
theorem J_eq {K : PySem.W.Frag} : OpJ (rEqD K) gEq := by
  intro B H x y c d res s hx hy e
  unfold gEq at e
  split at e
  · rename_i h
    cases e
    exact res_bool fun Q q => ⟨_, _, (hx.rep s).data (SeqAt.canLay_of_shaped h.1), (hy.rep s).data (SeqAt.canLay_of_shaped h.2), h.1, h.2, q⟩
  · cases e
def isNone : D → Bool
  | .none => true
  | _ => false
theorem Rep.isNone {H : Hp} {v : V} {d : D} (h : Rep H v d) : decide (v = .non) = Mir.isNone d := by cases h <;> rfl
def gIs : D → D → Option (D × Bool)
  | c, .none => some (.bool (isNone c), false)
  | _, _ => none
def gIsNot : D → D → Option (D × Bool)
  | c, .none => some (.bool (!isNone c), false)
  | _, _ => none
def gNeg : D → Option (D × Bool)
  | .int i => some (.int (-i), false)
  | _ => none
def gIx : D → D → Option (D × Bool)
  | .list ds, .int i => (atI ds i).map fun d => (d, false)
  | .tuple ds, .int i => (atI ds i).map fun d => (d, false)
  | _, _ => none
theorem Reps.atI {H : Hp} {vs : List V} {ds : List D} (r : Reps H vs ds) {i : Int} {d : D} (h : L2.atI ds i = some d) : ∃ v, L2.atI vs i = some v ∧ Rep H v d := by
  unfold L2.atI at h ⊢
  rw [r.length]
  obtain ⟨j, h1, h2⟩ := Option.bind_eq_some_iff.mp h
  obtain ⟨v, h3, h4⟩ := r.get j d h2
  exact ⟨v, by rw [h1]; exact h3, h4⟩
theorem J_ix {K : PySem.W.Frag} : OpJ (rIx K) gIx := by
  intro B H x y c d res s hx hy e
  unfold gIx at e
  split at e
  · obtain ⟨w, h1, h2⟩ := Option.map_eq_some_iff.mp e
    cases h2
    obtain ⟨p, xs, rfl, r1, rp1⟩ := hx.list s
    have h2 := hy.int; subst h2
    obtain ⟨v, h3, h4⟩ := rp1.atI h1
    exact ⟨v, h4, fun Q q => .inl ⟨_, _, _, _, rfl, rfl, rd_sq r1, h3, q⟩⟩
  · obtain ⟨w, h1, h2⟩ := Option.map_eq_some_iff.mp e
    cases h2
    obtain ⟨p, xs, rfl, r1, rp1⟩ := hx.tuple s
    have h2 := hy.int; subst h2
    obtain ⟨v, h3, h4⟩ := rp1.atI h1
    exact ⟨v, h4, fun Q q => .inr (.inl ⟨_, _, _, _, rfl, rfl, .inl (.inl r1), h3, q⟩)⟩
  · cases e
def cutD (ds : List D) (lo hi : Option Int) : List D := (ds.drop (HT.sIx ds.length 0 lo)).take (HT.sIx ds.length ds.length hi - HT.sIx ds.length 0 lo)
theorem Reps.cut {H : Hp} {vs : List V} {ds : List D} (r : Reps H vs ds) (lo hi : Option Int) : Reps H (cutV vs lo hi) (cutD ds lo hi) := by
  unfold cutV cutD
  rw [r.length]
  exact (r.drop _).take _
def gSl : D → Option Int → Option Int → Option (D × Bool)
  | .list ds, lo, hi => some (.list (cutD ds lo hi), true)
  | _, _, _ => none
theorem J_sl {K : PySem.W.Frag} : SlJ (rSlL K) gSl := by
  intro B H x c l u res s hx e
  unfold gSl at e
  split at e
  · cases e
    obtain ⟨p, xs, rfl, r1, rp1⟩ := hx.list s
    exact ⟨_, rp1.cut _ _, fun Q q => ⟨_, _, rfl, rd_sq r1, q⟩⟩
  · cases e
noncomputable def gLen : List D → Option (D × Bool)
  | [.list ds] => some (.int ds.length, false)
  | [.tuple ds] => some (.int ds.length, false)
  | [.str x] => cIf (x.length ≤ sizeLine) (some (.int x.length, false)) none
  | _ => none
theorem views1 {B H : Hp} {vs : List V} {d : D} (h : Views B H vs [d]) : ∃ v, vs = [v] ∧ View B H v d := by
  match vs, h with
  | [v], ⟨h, _⟩ => exact ⟨v, rfl, h⟩
theorem views2 {B H : Hp} {vs : List V} {c d : D} (h : Views B H vs [c, d]) : ∃ v w, vs = [v, w] ∧ View B H v c ∧ View B H w d := by
  match vs, h with
  | [v, w], ⟨h, g, _⟩ => exact ⟨v, w, rfl, h, g⟩
def gMax : List D → Option (D × Bool)
  | [.int i, .int j] => some (.int (if j > i then j else i), false)
  | _ => none
def gMin : List D → Option (D × Bool)
  | [.int i, .int j] => some (.int (if j < i then j else i), false)
  | _ => none
def gAbs : List D → Option (D × Bool)
  | [.int i] => some (.int (if i < 0 then -i else i), false)
  | _ => none
def gInt : List D → Option (D × Bool)
  | [.int i] => some (.int i, false)
  | [.bool b] => some (.int (if b then 1 else 0), false)
  | _ => none
theorem J_max : CallJ (fun xs H Q => ∃ i j, xs = [.int i, .int j] ∧ Q (.int (if j > i then j else i)) H) gMax := by
  intro B H vs ds res s h e
  unfold gMax at e
  split at e
  · cases e
    obtain ⟨v, w, rfl, h1, h2⟩ := views2 h
    have := h1.int; subst this
    have := h2.int; subst this
    exact res_int fun Q q => ⟨_, _, rfl, q⟩
  · cases e
def boolsOf : List D → Option (List Bool)
  | [] => some []
  | .bool i :: ds => (boolsOf ds).map (i :: ·)
  | _ => none
theorem Reps.bools {H : Hp} : ∀ {vs : List V} {ds : List D} {ns : List Bool}, Reps H vs ds → boolsOf ds = some ns → vs = ns.map V.bl
  | _, _, _, .nil, e => by cases e; rfl
  | _, _, _, .cons (d := d) a b, e => by
    cases d with
    | bool i =>
      obtain ⟨ms, h1, h2⟩ := Option.map_eq_some_iff.mp (show (boolsOf _).map _ = some _ from e)
      cases h2
      cases a
      rw [List.map_cons, Reps.bools b h1]
    | _ => cases e
def gAny : List D → Option (D × Bool)
  | [.list ds] => (boolsOf ds).map fun ns => (.bool (ns.any id), false)
  | _ => none
theorem J_any {K : PySem.W.Frag} : CallJ (rAny K) gAny := by
  intro B H vs ds res s h e
  unfold gAny at e
  split at e
  · obtain ⟨ns, h1, h2⟩ := Option.map_eq_some_iff.mp e
    cases h2
    obtain ⟨v, rfl, hh⟩ := views1 h
    obtain ⟨p, xs, rfl, r1, rp1⟩ := hh.list s
    have := rp1.bools h1; subst this
    exact res_bool fun Q q => ⟨_, _, rfl, rd_sq r1, q⟩
  · cases e
def tyD : D → String
  | .none => "NoneType"
  | .bool _ => "bool"
  | .int _ => "int"
  | .str _ => "str"
  | .list _ => "list"
  | .tuple _ => "tuple"
  | .dict _ => "?"
theorem Rep.ty {H : Hp} {v : V} {d : D} (h : Rep H v d) (hd : tyD d ≠ "?") : tyN H v = tyD d := by
  cases h with
  | non => rfl
  | bl _ => rfl
  | int _ => rfl
  | str _ => rfl
  | lst h _ =>
    rcases h with h | ⟨o, h⟩
    · unfold tyN; simp only [h]; rfl
    · unfold tyN; simp only [h]; rfl
  | tup h _ => unfold tyN; simp only [h]; rfl
  | dct _ _ => exact absurd rfl hd
def gIsi (n : String) : D → Option (D × Bool) := fun d => if tyD d ≠ "?" ∧ n ∈ tyAsked then some (.bool (tyIs (tyD d) n), false) else none
def mIsi (n : String) (a : PM) : PM := mUn (gIsi n) a
theorem me_isi {n : String} {ta : TE} {a : PM} (ha : ME ta a) : ME (tCB rIsi (tCons ta (tCons (tC (.ty n)) tNil))) (mIsi n a) := by
  intro F B H σ ρ r0 ρ' Q R e q
  obtain ⟨x, e1, e⟩ := Option.bind_eq_some_iff.mp e
  obtain ⟨res, e4, e⟩ := Option.map_eq_some_iff.mp e
  cases e
  refine ha.sv F B H σ ρ x.1 x.2 _ R e1 fun v B1 H1 E1 R1 V1 N1 => ?_
  unfold gIsi at e4
  split at e4
  · rename_i hd
    cases e4
    have rp := (V1.view R1).rep R1.sub
    have ht := rp.ty hd.1
    have hk : tyD x.1.1 ∈ tyKnown := by
      have h2 := hd.1
      revert h2
      cases x.1.1 with
      | none => intro _; show "NoneType" ∈ tyKnown; decide
      | bool _ => intro _; show "bool" ∈ tyKnown; decide
      | int _ => intro _; show "int" ∈ tyKnown; decide
      | str _ => intro _; show "str" ∈ tyKnown; decide
      | list _ => intro _; show "list" ∈ tyKnown; decide
      | tuple _ => intro _; show "tuple" ∈ tyKnown; decide
      | dict _ => intro h2; exact absurd rfl h2
    exact ⟨v, n, rfl, by rw [ht]; exact hk, hd.2, by rw [ht]; exact q _ B1 H1 E1 R1 (.bl _) fun p z => by cases z⟩
  · cases e4
def flatD : D → Bool
  | .none => true
  | .bool _ => true
  | .int _ => true
  | .str _ => true
  | _ => false
theorem Rep.flat {H : Hp} {v : V} {d : D} (h : Rep H v d) (e : flatD d = true) : flatV v = true := by cases h <;> first | rfl | cases e
theorem Rep.eqv {H : Hp} {v w : V} {c d : D} (h : Rep H v c) (g : Rep H w d) (e : flatD c = true) (e' : flatD d = true) : eqV v w = PyData.eqv c d := by
  cases h <;> first | (cases e; done) | (cases g <;> first | (cases e'; done) | (simp [eqV, PyData.eqv]))
noncomputable def fAppend : List D → List D → Option (List D × D) := fun ds as => match as with
  | [d] => cIf (ds.length < sizeLine) (some (ds ++ [d], .none)) none
  | _ => none
theorem J_append : MutJ rAppend fAppend := by
  intro B H p xs ds vs as w hp rx s rv e
  unfold fAppend at e
  split at e
  · obtain ⟨hz, e⟩ := cIf_eq e
    · cases e
      cases rv with
      | cons a b =>
        cases b
        exact ⟨_, _, rx.append (.cons a .nil), .non, fun Q q => ⟨_, _, _, rfl, rfl, hp, by rw [rx.length]; exact hz, q⟩⟩
  · cases e
def fPop : List D → List D → Option (List D × D) := fun ds as => match as with
  | [] => (ds[ds.length - 1]?).map fun d => (ds.dropLast, d)
  | _ => none
def fClear : List D → List D → Option (List D × D) := fun ds as => match as with
  | [] => some ([], .none)
  | _ => none
end Mir
set_option Elab.async false
set_option linter.all false
set_option maxRecDepth 100000
namespace Mir
open PySem L2 PySem.Spec PyProof.Rows
variable [Zc]
section
variable {X : Cx} {K : PySem.W.Frag}
theorem op_addK (h : X.K = K) : OpR X (binaryOp .Add) (rPlusM K) := h ▸ op_addM
theorem op_eqK (h : X.K = K) (hu : X.A.units + 64 < cLine) : OpR X (compareOp .Eq) (rEqD K) := h ▸ op_eqD hu
theorem ix_seqK (h : X.K = K) : IxR X (rIx K) := h ▸ ix_seq
theorem sl_listK (h : X.K = K) : SlR X (rSlL K) := h ▸ sl_list
theorem call_anyK (h : X.K = K) (hc : X.calm = true) : CallR X (.builtin "any") (rAny K) := h ▸ call_any hc
variable {tg l o e : Expr} {es : List Expr} {tl to : TE} {t : TA} {name : Str} {apos cpos : Pos} {T id : String} {r : V → List V → Hp → VK → Prop}
theorem pi_listK (h : X.K = K) (hl : PE X l tl) : PI X tg l (iList K tl) := h ▸ pi_list hl
theorem pe_bmK (h : X.K = K) (pa : PlainAttrs T) (slot : Slot T name id) (hty : typeOf (.builtin id) = pure (.type "method_descriptor")) (hm : MtR X id r) (ho : PE X o to) (ha : PA X (e :: es) t)
    (hbase : attributeBase o name X.env (eval o X.env) = eval o X.env := by rfl)
    (hfew : ((backTo cpos (starEach (e :: es) X.env)).all (fun x => !x.1) && (backToKw cpos (keywordEach [] X.env)).all (fun x => x.1.isSome)
      && decide ((e :: es).length + ([] : List Keyword).length + (if ([] : List Keyword).isEmpty then 0 else 1) < 30)) = true := by rfl)
    (hline : (apos.endLine == cpos.line) = true := by rfl) (hs : starEach (e :: es) X.env = (false, eval e X.env) :: starEach es X.env := by rfl) (hplain : (backTo cpos (starEach es X.env)).any (·.1) = false := by rfl) :
    PE X (.Call (.Attribute o name apos) (e :: es) [] cpos) (tBM K T r to t) := h ▸ pe_bm pa slot hty hm ho ha hbase hfew hline hs hplain
end
def noLists (K : PySem.W.Frag) : Bool := K.all fun p => match p.2.cls with
  | .type n => n != "list"
  | _ => true
theorem mem_look {α : Type} : ∀ {l : List (Addr × α)} {a : Addr} {o : α}, l.lookup a = some o → (a, o) ∈ l
  | (b, c) :: l, a, o, h => by
    rw [List.lookup_cons] at h
    by_cases z : a = b
    · subst z
      rw [beq_self_eq_true] at h
      cases h
      exact List.mem_cons_self
    · rw [beq_eq_false_iff_ne.mpr z] at h
      exact List.mem_cons_of_mem _ (mem_look h)
theorem sq_rd {K : PySem.W.Frag} (h : noLists K = true) {H : Hp} {a : Addr} {xs : List V} (s : SqL K H a xs) : Rd H a (.lst xs) := by
  rcases s with s | ⟨o, its, n, hk, hc, _⟩
  · exact s
  · have := List.all_eq_true.mp h _ (mem_look hk)
    dsimp only at this
    rw [hc] at this
    simp at this
theorem reps_ints {H : Hp} : ∀ ns : List Int, Reps H (ns.map V.int) (ns.map PyData.int)
  | [] => .nil
  | n :: ns => .cons (.int n) (reps_ints ns)
theorem law_sp {K : PySem.W.Frag} (h : noLists K = true) {f : List D → Option (D × Bool)} (T : ∀ ns : List Int, ns.length ≤ 63 → (∀ k ∈ ns, Builtin.Int.intBits k ≤ 1048576) → f [.list (ns.map .int)] = some (.bool true, false))
    (vs : List V) (H : Hp) (Q : VK) (E : XK) (s : spLaw K vs H Q E) : spM f vs H Q E := by
  obtain ⟨a, ns, rfl, hS, hl, hb, q⟩ := s
  refine ⟨H, _, _, _, Same.refl _, fun _ _ z => z, .cons (.lst (sq_rd h hS) (reps_ints ns)) .nil, T ns hl hb, fun v B' H' P => ?_⟩
  have pv : Rep B' v (.bool true) := P.val
  cases pv
  exact q _
end Mir
set_option Elab.async false
set_option linter.all false
set_option maxRecDepth 100000
namespace Mir
open PySem L2
variable [Zc]
abbrev dI (l : List Int) : D := .list (l.map .int)
theorem beqI (i j : Int) : (i == j) = decide (i = j) := by by_cases h : i = j <;> simp [h]
theorem gEq_int (i j : Int) : gEq (.int i) (.int j) = some (.bool (decide (i = j)), false) := by
  unfold gEq
  rw [if_pos ⟨rfl, rfl⟩]
  simp only [PyData.eqv, beqI]
theorem gNe_int (i j : Int) : gNe (.int i) (.int j) = some (.bool (!decide (i = j)), false) := by
  unfold gNe
  rw [if_pos ⟨rfl, rfl⟩]
  simp only [PyData.eqv, beqI]
theorem gEq_bool (i j : Bool) : gEq (.bool i) (.bool j) = some (.bool (i == j), false) := by
  unfold gEq
  rw [if_pos ⟨rfl, rfl⟩]
  simp only [PyData.eqv]
theorem gNe_bool (i j : Bool) : gNe (.bool i) (.bool j) = some (.bool (!(i == j)), false) := by
  unfold gNe
  rw [if_pos ⟨rfl, rfl⟩]
  simp only [PyData.eqv]
theorem canLay_ints : ∀ l : List Int, PyData.canLayAll0 (l.map .int) = true
  | [] => rfl
  | _ :: l => by simp only [List.map_cons, PyData.canLayAll0, PyData.canLay0, canLay_ints l, Bool.and_self]
theorem depth_ints (l : List Int) : (dI l).depth ≤ 2 := by
  have h : ∀ l : List Int, PyData.depthAll (l.map .int) ≤ 1 := by
    intro l
    induction l with
    | nil => simp [PyData.depthAll]
    | cons a l ih => simp only [List.map_cons, PyData.depthAll, PyData.depth]; omega
  have := h l
  simp only [dI, PyData.depth]
  omega
theorem shaped_ints (l : List Int) : SeqAt.shaped (dI l) = true := by
  unfold SeqAt.shaped
  have h := depth_ints l
  rw [decide_eq_true (by omega), Bool.and_true]
  simp only [dI, PyData.canLay0, canLay_ints]
theorem eqvAll_ints : ∀ a b : List Int, PyData.eqvAll (a.map .int) (b.map .int) = decide (a = b)
  | [], [] => by simp [PyData.eqvAll]
  | [], _ :: _ => by simp [PyData.eqvAll]
  | _ :: _, [] => by simp [PyData.eqvAll]
  | x :: a, y :: b => by
    simp only [List.map_cons, PyData.eqvAll, PyData.eqv, eqvAll_ints a b]
    by_cases h : x = y <;> by_cases g : a = b <;> simp [h, g]
theorem eqv_ints (a b : List Int) : PyData.eqv (dI a) (dI b) = decide (a = b) := by simp only [dI, PyData.eqv, eqvAll_ints]
theorem gEq_ints (a b : List Int) : gEq (dI a) (dI b) = some (.bool (decide (a = b)), false) := by
  unfold gEq
  rw [if_pos ⟨shaped_ints a, shaped_ints b⟩, eqv_ints]
theorem gNe_ints (a b : List Int) : gNe (dI a) (dI b) = some (.bool (!decide (a = b)), false) := by
  unfold gNe
  rw [if_pos ⟨shaped_ints a, shaped_ints b⟩, eqv_ints]
theorem isi_int_int (i : Int) : gIsi "int" (.int i) = some (.bool true, false) := by simp [gIsi, tyD, tyAsked, tyIs]
theorem isi_int_bool (i : Int) : gIsi "bool" (.int i) = some (.bool false, false) := by simp [gIsi, tyD, tyAsked, tyIs]
theorem isi_list_list (i : List D) : gIsi "list" (.list i) = some (.bool true, false) := by simp [gIsi, tyD, tyAsked, tyIs]
theorem isi_tuple_tuple (i : List D) : gIsi "tuple" (.tuple i) = some (.bool true, false) := by simp [gIsi, tyD, tyAsked, tyIs]
theorem atI_nat {α : Type} (xs : List α) (i : Nat) : atI xs (i : Int) = xs[i]? := by
  unfold atI ixN
  rw [if_pos (by omega)]
  split
  · simp
  · rename_i h
    rw [Option.bind_none, List.getElem?_eq_none (by omega)]
theorem atI_last {α : Type} (xs : List α) : atI xs (-1) = xs.getLast? := by
  unfold atI ixN
  rw [if_neg (by omega)]
  cases xs with
  | nil => simp
  | cons a l =>
    rw [if_pos (by simp only [List.length_cons]; omega), Option.bind_some, List.getLast?_eq_getElem?]
    congr 1
    simp only [List.length_cons]; omega
theorem cutD_ints (l : List Int) (a b : Option Int) : cutD (l.map .int) a b = ((l.drop (HT.sIx l.length 0 a)).take (HT.sIx l.length l.length b - HT.sIx l.length 0 a)).map .int := by
  simp only [cutD, List.length_map, List.map_take, List.map_drop]
theorem atI_map {α β : Type} (f : α → β) (xs : List α) (i : Int) : atI (xs.map f) i = (atI xs i).map f := by
  simp only [atI, List.length_map, List.getElem?_map]
  cases ixN xs.length i with
  | none => rfl
  | some j => simp only [Option.bind_some]
theorem while_go {c : Rho → Option (Bool × Rho)} {b : SM} {n : Nat} {ρ ρ1 ρ2 : Rho} {o : Option Out} (h1 : c ρ = some (true, ρ1)) (h2 : b ρ1 = some (.nx ρ2)) (h3 : mWhile c b n ρ2 = o) : mWhile c b (n + 1) ρ = o := by
  unfold mWhile
  simp only [h1, h2, Option.bind_some, if_true, h3]
theorem while_end {c : Rho → Option (Bool × Rho)} {b : SM} {n : Nat} {ρ ρ1 : Rho} (h1 : c ρ = some (false, ρ1)) : mWhile c b (n + 1) ρ = some (.nx ρ1) := by
  unfold mWhile
  simp only [h1, Option.bind_some, Bool.false_eq_true, if_false]
theorem pureR_int (i : Int) : pureR (.int i) false = true := rfl
theorem pureR_bool (i : Bool) : pureR (.bool i) false = true := rfl
theorem pureR_str (i : Str) : pureR (.str i) false = true := rfl
theorem pureR_none : pureR .none false = true := rfl
theorem pureR_list (l : List D) : pureR (.list l) false = false := rfl
theorem pureR_tup (l : List D) : pureR (.tuple l) false = pureDs l := by simp only [pureR, pureD]
theorem pureR_new (l : List D) : pureR (.list l) true = pureDs l := rfl
theorem pureDs_nil : pureDs [] = true := by simp only [pureDs]
theorem pureDs_int (i : Int) (l : List D) : pureDs (.int i :: l) = pureDs l := by simp only [pureDs, pureD, Bool.true_and]
theorem pureDs_bool (i : Bool) (l : List D) : pureDs (.bool i :: l) = pureDs l := by simp only [pureDs, pureD, Bool.true_and]
theorem pureDs_list (i l : List D) : pureDs (.list i :: l) = false := by simp only [pureDs, pureD, Bool.false_and]
theorem pureDs_ints : ∀ l : List Int, pureDs (l.map .int) = true
  | [] => pureDs_nil
  | i :: l => by rw [List.map_cons, pureDs_int, pureDs_ints l]
theorem resK_f (d : D) : resK (d, false) = (d, .fz) := rfl
theorem resK_l (l : List D) : resK (.list l, true) = (.list l, .new) := rfl
theorem resK_t (l : List D) : resK (.tuple l, true) = (.tuple l, .fz) := rfl
theorem kO_f (d : D) : kO d false = (d, .fz) := rfl
theorem kO_t (d : D) : kO d true = (d, .new) := rfl
theorem seq_nx {a b : SM} {ρ ρ1 : Rho} {o : Option Out} (h1 : a ρ = some (.nx ρ1)) (h2 : b ρ1 = o) : mSeq a b ρ = o := by
  unfold mSeq; simp only [h1, Option.bind_some, h2]
theorem seq_rt {a b : SM} {ρ ρ1 : Rho} {r : RV} (h1 : a ρ = some (.rt r ρ1)) : mSeq a b ρ = some (.rt r ρ1) := by
  unfold mSeq; simp only [h1, Option.bind_some]
theorem fn_of {n k : Nat} {b : SM} {ds : List D} {o : Out} {w : D × Bool} (h0 : ds.length = n) (h1 : b (ds.map .fz ++ List.replicate k .no) = some o) (h2 : retD o = some w) : fnM n k b ds = some w := by
  unfold fnM; rw [if_pos h0, h1, Option.bind_some, h2]
theorem call_pure {f : List D → Option (D × Bool)} {m : Rho → Option (List RV × Rho)} {ρ ρ1 : Rho} {rs : List RV} {d : D} {o : Bool} (h1 : m ρ = some (rs, ρ1)) (h2 : f (rs.map (·.1)) = some (d, o)) (h3 : pureR d o = true) : mCall f m ρ = some (kO d o, ρ1) := by
  unfold mCall; rw [h1, Option.bind_some]; dsimp only; rw [h2, Option.bind_some, if_pos h3]
theorem ret_eq {a : PM} {ρ ρ1 : Rho} {r : RV} (h : a ρ = some (r, ρ1)) : mRet a ρ = some (.rt r ρ1) := by
  unfold mRet; rw [h, Option.map_some]
theorem for_eq {it : Rho → Option (List D × Rho)} {g : D → Rho → Option Rho} {b : SM} {ρ ρ1 : Rho} {ds : List D} {o : Option Out} (h1 : it ρ = some (ds, ρ1)) (h2 : forL g b ds ρ1 = o) : mFor it g b ρ = o := by
  unfold mFor; rw [h1, Option.bind_some]; exact h2
end Mir
set_option Elab.async false
set_option linter.all false
set_option maxRecDepth 100000
namespace Mir
open PySem L2
variable [Zc]
def SF (s : Sl) : Prop := s = .no ∨ ∃ d, s = .fz d
theorem SF.fz (d : D) : SF (.fz d) := .inr ⟨d, rfl⟩
theorem SF.no : SF .no := .inl rfl
theorem sz_le {n : Nat} (h : n ≤ 100000) : n ≤ sizeLine := Nat.le_trans h (by decide)
theorem sz_lt {n : Nat} (h : n ≤ 100000) : n < sizeLine := Nat.lt_of_le_of_lt h (by decide)
end Mir
set_option Elab.async false
set_option linter.all false
set_option maxRecDepth 100000
namespace Mir
open PySem L2 PySem.Spec PyProof.Rows
variable [Zc]
def mPar (i j : Nat) (m : Rho → Option (List RV × Rho)) : SM := fun ρ => (m ρ).bind fun x => (fzAll x.1 x.2).bind fun y => match y.1 with
  | [c, d] => (setSl y.2 i (.fz c)).bind fun ρ1 => (setSl ρ1 j (.fz d)).map .nx
  | _ => none
theorem ms_par {i j : Nat} {t : TA} {m : Rho → Option (List RV × Rho)} (h : MA t m) : MS (tPar i j t) (mPar i j m) := by
  intro F B H σ ρ o D R e q
  obtain ⟨x, e1, e⟩ := Option.bind_eq_some_iff.mp e
  obtain ⟨y, e2, e⟩ := Option.bind_eq_some_iff.mp e
  split at e
  case h_2 => cases e
  rename_i c d hy
  obtain ⟨ρ1, e3, e⟩ := Option.bind_eq_some_iff.mp e
  obtain ⟨ρ2, e4, e⟩ := Option.map_eq_some_iff.mp e
  cases e
  refine h F B H σ ρ x.1 x.2 _ R e1 fun vs B1 H1 E1 R1 V1 => ?_
  obtain ⟨B2, R2, rp, E2⟩ := Rel.frzL R1 V1.weak e2
  rw [hy] at rp
  cases rp with
  | cons r1 rs =>
    cases rs with
    | cons r2 rs =>
      cases rs
      exact ⟨_, _, rfl, q _ _ _ ((R2.assignFz r1 e3).assignFz r2 e4)⟩
theorem cutD_to (l : List Int) (k : Nat) : cutD (l.map .int) none (some (k : Int)) = (l.take k).map .int := by
  rw [cutD_ints, HT.sIx_none, HT.sIx_nat, List.drop_zero, Nat.sub_zero]
  congr 1
  by_cases h : k ≤ l.length
  · rw [Nat.min_eq_left h]
  · rw [Nat.min_eq_right (by omega), List.take_of_length_le (by omega), List.take_of_length_le (by omega)]
end Mir
set_option Elab.async false
set_option linter.all false
set_option maxRecDepth 100000
namespace Mir
open PySem L2
variable [Zc]
def inD (x : D) (ds : List D) : Bool := ds.any fun d => PyData.eqv d x
theorem Reps.inV {H : Hp} {v : V} {c : D} (g : Rep H v c) (e : flatD c = true) : ∀ {vs : List V} {ds : List D}, Reps H vs ds → ds.all flatD = true → inV v vs = inD c ds
  | _, _, .nil, _ => rfl
  | _, _, .cons a b, h => by
    simp only [List.all_cons, Bool.and_eq_true] at h
    have := Reps.inV g e b h.2
    unfold L2.inV inD at this ⊢
    rw [List.any_cons, List.any_cons, this, a.eqv g h.1 e]
section
variable {X : Cx} {K : PySem.W.Frag}
end
end Mir
set_option Elab.async false
set_option linter.all false
set_option maxRecDepth 100000
namespace Mir
open PySem L2
variable [Zc]
section
variable {a b : PM} {ρ ρ1 ρ2 ρ3 : Rho} {x y d : D} {r : RV} {res : D × Bool}
theorem sv_new (h : a ρ = some ((d, .new), ρ1)) : sv a ρ = some ((d, .fz), ρ1) := by unfold sv; rw [h]
theorem sv_fz (h : a ρ = some ((d, .fz), ρ1)) : sv a ρ = some ((d, .fz), ρ1) := by unfold sv; rw [h]
theorem sv_at {i : Nat} (h : a ρ = some ((d, .at i), ρ1)) : sv a ρ = some ((d, .at i), ρ1) := by unfold sv; rw [h]
theorem op_ev {g : D → D → Option (D × Bool)} (h1 : sv a ρ = some ((x, .fz), ρ1)) (h2 : sv b ρ1 = some (r, ρ2)) (h3 : g x r.1 = some res) : mOp g a b ρ = some (resK res, ρ2) := by
  unfold mOp; rw [h1, Option.bind_some]; dsimp only; rw [h2, Option.bind_some]; dsimp only [refr, Option.bind_some]; rw [h3, Option.map_some]
theorem cons_fz {m : Rho → Option (List RV × Rho)} {rs : List RV} (h1 : sv a ρ = some ((x, .fz), ρ1)) (h2 : m ρ1 = some (rs, ρ2)) : mCons a m ρ = some ((x, .fz) :: rs, ρ2) := by
  unfold mCons; rw [h1, Option.bind_some]; dsimp only; rw [h2, Option.bind_some]; rfl
theorem cons_at {m : Rho → Option (List RV × Rho)} {rs : List RV} {i : Nat} (h1 : sv a ρ = some ((x, .at i), ρ1)) (h2 : m ρ1 = some (rs, ρ2)) (h4 : ρ2[i]? = some (.own y)) : mCons a m ρ = some ((y, .at i) :: rs, ρ2) := by
  unfold mCons; rw [h1, Option.bind_some]; dsimp only; rw [h2, Option.bind_some]; dsimp only [refr]; rw [h4]; rfl
theorem nil_ev : mNil ρ = some ([], ρ) := rfl
theorem var_fz {i : Nat} (h : ρ[i]? = some (.fz d)) : mVar i ρ = some ((d, .fz), ρ) := by unfold mVar; rw [h]
theorem var_own {i : Nat} (h : ρ[i]? = some (.own d)) : mVar i ρ = some ((d, .at i), ρ) := by unfold mVar; rw [h]
theorem cb_ev {g : List D → Option (D × Bool)} {m : Rho → Option (List RV × Rho)} {rs : List RV} (h1 : m ρ = some (rs, ρ1)) (h2 : g (rs.map (·.1)) = some res) : mCB g m ρ = some (resK res, ρ1) := by
  unfold mCB; rw [h1, Option.bind_some]; dsimp only; rw [h2, Option.map_some]
theorem asg_fz {i : Nat} (h1 : a ρ = some ((d, .fz), ρ1)) (h2 : setSl ρ1 i (.fz d) = some ρ2) : mAsg i a ρ = some (.nx ρ2) := by
  unfold mAsg; rw [h1, Option.bind_some]; dsimp only [sto]; rw [h2, Option.map_some]
theorem asg_new {i : Nat} (h1 : a ρ = some ((d, .new), ρ1)) (h2 : setSl ρ1 i (.own d) = some ρ2) : mAsg i a ρ = some (.nx ρ2) := by
  unfold mAsg; rw [h1, Option.bind_some]; dsimp only [sto]; rw [h2, Option.map_some]
theorem if_t {c : Rho → Option (Bool × Rho)} {s t : SM} {o : Option Out} (h1 : c ρ = some (true, ρ1)) (h2 : s ρ1 = o) : mIfS c s t ρ = o := by
  unfold mIfS; rw [h1, Option.bind_some]; dsimp only; rw [if_pos rfl, h2]
theorem if_f {c : Rho → Option (Bool × Rho)} {s t : SM} {o : Option Out} (h1 : c ρ = some (false, ρ1)) (h2 : t ρ1 = o) : mIfS c s t ρ = o := by
  unfold mIfS; rw [h1, Option.bind_some]; dsimp only; rw [if_neg Bool.false_ne_true, h2]
theorem test_ev {k : Kd} {v : Bool} (h : a ρ = some ((.bool v, .fz), ρ1)) : mTest a ρ = some (v, ρ1) := by
  unfold mTest; rw [sv_fz h]; rfl
theorem not_ev {c : Rho → Option (Bool × Rho)} {v : Bool} (h : c ρ = some (v, ρ1)) : mNot c ρ = some (!v, ρ1) := by unfold mNot; rw [h]; rfl
theorem and_t {c e : Rho → Option (Bool × Rho)} {o : Option (Bool × Rho)} (h : c ρ = some (true, ρ1)) (h2 : e ρ1 = o) : mAnd c e ρ = o := by unfold mAnd; rw [h]; simpa using h2
theorem and_f {c e : Rho → Option (Bool × Rho)} (h : c ρ = some (false, ρ1)) : mAnd c e ρ = some (false, ρ1) := by unfold mAnd; rw [h]; rfl
theorem or_f {c e : Rho → Option (Bool × Rho)} {o : Option (Bool × Rho)} (h : c ρ = some (false, ρ1)) (h2 : e ρ1 = o) : mOr c e ρ = o := by unfold mOr; rw [h]; simpa using h2
theorem gAdd_list (a b : List D) (h : a.length + b.length ≤ 100000) : gAdd (.list a) (.list b) = some (.list (a ++ b), true) := by
  show cIf _ _ _ = _; rw [cIf_pos (sz_le h)]
theorem lst_ev {m : Rho → Option (List RV × Rho)} {rs : List RV} {ds : List D} (h1 : m ρ = some (rs, ρ1)) (h2 : fzAll rs ρ1 = some (ds, ρ2)) (h3 : ds.length ≤ 100000) : mLst m ρ = some ((.list ds, .new), ρ2) := by
  unfold mLst; rw [h1, Option.bind_some]; dsimp only; rw [h2, Option.bind_some]; dsimp only; rw [cIf_pos (sz_le h3)]
theorem tup_ev {m : Rho → Option (List RV × Rho)} {rs : List RV} {ds : List D} (h1 : m ρ = some (rs, ρ1)) (h2 : fzAll rs ρ1 = some (ds, ρ2)) (h3 : ds.length ≤ 100000) : mTup m ρ = some ((.tuple ds, .fz), ρ2) := by
  unfold mTup; rw [h1, Option.bind_some]; dsimp only; rw [h2, Option.bind_some]; dsimp only; rw [cIf_pos (sz_le h3)]
theorem lc_ev {fr : List (Str × Nat)} {it : Rho → Option (List D × Rho)} {c : Rho → Option (Bool × Rho)} {e : PM} {ds ys : List D} (h1 : it ρ = some (ds, ρ1)) (h2 : compL c e (fr.map fun p => demote ρ1 p.2) ds = some ys) (h3 : ys.length ≤ 100000) :
    mLC fr it c e ρ = some ((.list ys, .new), ρ1) := by
  unfold mLC; rw [h1, Option.bind_some]; dsimp only; rw [h2, Option.bind_some, cIf_pos (sz_lt h3)]
theorem itl_ev {d : List D} {k : Kd} (h1 : sv a ρ = some ((.list d, k), ρ1)) : mItL a ρ = some (d, ρ1) := by
  unfold mItL; rw [h1]; rfl
theorem drop_ev (h : a ρ = some (r, ρ1)) : mDrop a ρ = some (.nx ρ1) := by unfold mDrop; rw [h]; rfl
end
def IE (m : PM) (ρ : Rho) (v : Int) : Prop := m ρ = some ((.int v, .fz), ρ)
def BE (m : PM) (ρ : Rho) (v : Bool) : Prop := m ρ = some ((.bool v, .fz), ρ)
section
variable {a b : PM} {ρ : Rho} {i j : Int} {u v : Bool}
theorem op_i {g : D → D → Option (D × Bool)} {k : Int} (h1 : IE a ρ i) (h2 : IE b ρ j) (h3 : g (.int i) (.int j) = some (.int k, false)) : IE (mOp g a b) ρ k := op_ev (sv_fz h1) (sv_fz h2) h3
theorem op_b {g : D → D → Option (D × Bool)} {k : Bool} (h1 : IE a ρ i) (h2 : IE b ρ j) (h3 : g (.int i) (.int j) = some (.bool k, false)) : BE (mOp g a b) ρ k := op_ev (sv_fz h1) (sv_fz h2) h3
theorem ie_c : IE (mC (.int i)) ρ i := rfl
theorem ie_var {k : Nat} (h : ρ[k]? = some (.fz (.int i))) : IE (mVar k) ρ i := var_fz h
theorem ie_add (h1 : IE a ρ i) (h2 : IE b ρ j) : IE (mOp gAdd a b) ρ (i + j) := op_i h1 h2 rfl
theorem ie_sub (h1 : IE a ρ i) (h2 : IE b ρ j) : IE (mOp gSub a b) ρ (i - j) := op_i h1 h2 rfl
theorem gI_ev {C : Int → Int → Prop} {f : Int → Int → Int} (h : C i j) : gI C f (.int i) (.int j) = some (.int (f i j), false) := by show cIf _ _ _ = _; rw [cIf_pos h]
theorem ie_div (h1 : IE a ρ i) (h2 : IE b ρ j) (h : CDiv i j) : IE (mOp gDiv a b) ρ (i / j) := op_i h1 h2 (gI_ev h)
theorem ie_mod (h1 : IE a ρ i) (h2 : IE b ρ j) (h : 0 < j) : IE (mOp gMod a b) ρ (i % j) := op_i h1 h2 (gI_ev (C := fun _ j => 0 < j) h)
theorem ie_pow (h1 : IE a ρ i) (h2 : IE b ρ j) (h : CPow i j) : IE (mOp gPow a b) ρ (i ^ j.toNat) := op_i h1 h2 (gI_ev h)
theorem be_eq (h1 : IE a ρ i) (h2 : IE b ρ j) : BE (mOp gEq a b) ρ (decide (i = j)) := op_b h1 h2 (gEq_int i j)
theorem be_lt (h1 : IE a ρ i) (h2 : IE b ρ j) : BE (mOp gLt a b) ρ (decide (i < j)) := op_b h1 h2 rfl
theorem be_le (h1 : IE a ρ i) (h2 : IE b ρ j) : BE (mOp gLe a b) ρ (decide (i ≤ j)) := op_b h1 h2 rfl
theorem be_gt (h1 : IE a ρ i) (h2 : IE b ρ j) : BE (mOp gGt a b) ρ (decide (j < i)) := op_b h1 h2 rfl
theorem BE.t (h : BE a ρ v) : mTest a ρ = some (v, ρ) := test_ev (k := .fz) h
theorem BE.is (h : BE a ρ u) (e : u = v) : BE a ρ v := e ▸ h
theorem IE.is (h : IE a ρ i) (e : i = j) : IE a ρ j := e ▸ h
theorem ie_call {f : List D → Option (D × Bool)} {m : Rho → Option (List RV × Rho)} {rs : List RV} (h1 : m ρ = some (rs, ρ)) (h2 : f (rs.map (·.1)) = some (.int i, false)) : IE (mCall f m) ρ i := call_pure h1 h2 rfl
theorem IE.cons {m : Rho → Option (List RV × Rho)} {rs : List RV} (h : IE a ρ i) (h2 : m ρ = some (rs, ρ)) : mCons a m ρ = some ((.int i, .fz) :: rs, ρ) := cons_fz (sv_fz h) h2
theorem be_not (h1 : BE a ρ u) : BE (mNotV a) ρ (!u) := by unfold BE mNotV; rw [h1.t]; rfl
end
section
variable {a b : PM} {ρ : Rho} {i j : Int} {u v : Bool}
theorem asgI {k : Nat} {ρ' : Rho} (h : IE a ρ i) (h2 : setSl ρ k (.fz (.int i)) = some ρ') : mAsg k a ρ = some (.nx ρ') := asg_fz h h2
theorem tstB (h : BE a ρ u) (e : u = v) : mTest a ρ = some (v, ρ) := e ▸ h.t
theorem consI {m : Rho → Option (List RV × Rho)} {rs : List RV} (h : IE a ρ i) (h2 : m ρ = some (rs, ρ)) : mCons a m ρ = some ((.int i, .fz) :: rs, ρ) := cons_fz (sv_fz h) h2
theorem tEq (h1 : IE a ρ i) (h2 : IE b ρ j) (h : i = j) : mTest (mOp gEq a b) ρ = some (true, ρ) := tstB (be_eq h1 h2) (decide_eq_true h)
theorem tNe (h1 : IE a ρ i) (h2 : IE b ρ j) (h : i ≠ j) : mTest (mOp gEq a b) ρ = some (false, ρ) := tstB (be_eq h1 h2) (decide_eq_false h)
end
theorem isi_ev {n : String} {a : PM} {ρ ρ1 : Rho} {d : D} {k : Kd} {v : Bool} (h1 : sv a ρ = some ((d, k), ρ1)) (h2 : gIsi n d = some (.bool v, false)) : mIsi n a ρ = some ((.bool v, .fz), ρ1) := by
  unfold mIsi mUn; rw [h1, Option.bind_some]; dsimp only; rw [h2]; rfl
theorem forL_cons {g : D → Rho → Option Rho} {b : SM} {d : D} {ds : List D} {ρ ρ1 ρ2 : Rho} {o : Option Out} (h1 : g d ρ = some ρ1) (h2 : b ρ1 = some (.nx ρ2)) (h3 : forL g b ds ρ2 = o) : forL g b (d :: ds) ρ = o := by
  show ((g d ρ).bind _) = _
  rw [h1, Option.bind_some, h2]
  exact h3
end Mir
set_option Elab.async false
set_option linter.all false
set_option maxRecDepth 100000
namespace Mir
open PySem L2
variable [Zc]
def asS : D → Option (List D)
  | .list ds => some ds
  | .tuple ds => some ds
  | _ => none
def mgU (n : Nat) (ms : List D → Rho → Option Rho) : D → Rho → Option Rho := fun d ρ => (asS d).bind fun ds => if ds.length = n then ms ds ρ else none
end Mir
set_option Elab.async false
set_option linter.all false
set_option maxRecDepth 100000
namespace L2
open PySem PySem.Spec PyProof.Rows
variable {X : Cx}
end L2
namespace Mir
open PySem L2
variable [Zc]
end Mir
set_option Elab.async false
set_option linter.all false
set_option maxRecDepth 100000
namespace Mir
open PySem L2
inductive OutE where
  | ok (o : Out) | er (c : Str) (ρ : Rho)
section
variable [Zc]
end
end Mir
namespace L2
open PySem PySem.Spec PyProof.Rows
end L2
set_option Elab.async false
set_option linter.all false
set_option maxRecDepth 100000
namespace L2
open PySem PySem.Spec PyProof.Rows
end L2
set_option Elab.async false
set_option linter.all false
set_option maxRecDepth 100000
namespace L2
open PySem PySem.Spec PyProof.Rows
theorem Vals.picks {xs : List V} {us : List Value} (r : Vals xs us) : ∀ is : List Nat, Vals (is.filterMap (xs[·]?)) (is.filterMap (us[·]?))
  | [] => .nil
  | i :: is => by
    cases h : xs[i]? with
    | none => rw [List.filterMap_cons_none h, List.filterMap_cons_none (r.none_of h)]; exact r.picks is
    | some x =>
      obtain ⟨u, h1, h2⟩ := r.get h
      rw [List.filterMap_cons_some h, List.filterMap_cons_some h1]
      exact .cons h2 (r.picks is)
section
variable {X : Cx} {e : Expr} {te : TE} {est : Expr} {lo hi : Option Expr} {tl th tk : TO} {pos p2 : Pos}
end
end L2
namespace Mir
open PySem L2
variable [Zc]
theorem Reps.picks {H : Hp} {vs : List V} {ds : List D} (r : Reps H vs ds) : ∀ is : List Nat, Reps H (is.filterMap (vs[·]?)) (is.filterMap (ds[·]?))
  | [] => .nil
  | i :: is => by
    cases h : ds[i]? with
    | none =>
      have h' : vs[i]? = none := by
        rw [List.getElem?_eq_none_iff] at h ⊢
        rw [r.length]; exact h
      rw [List.filterMap_cons_none h, List.filterMap_cons_none h']; exact r.picks is
    | some x =>
      obtain ⟨u, h1, h2⟩ := r.get i x h
      rw [List.filterMap_cons_some h, List.filterMap_cons_some h1]
      exact .cons h2 (r.picks is)
end Mir
set_option Elab.async false
set_option linter.all false
set_option maxRecDepth 100000
namespace Mir
open PySem L2
section
variable [Zc]
def LF (B : Hp) : Prop := ∀ q o, B q = some o → ∃ xs, o = .tup xs
structure FrP (F : Fr) : Prop where
  lf : LF F.B
  io : F.io = []
  zh : ∀ q, F.Z q → F.H q ≠ none
def MSP (t : TS) (m : SM) : Prop := ∀ (F : Fr) (B H : Hp) (σ : St) (ρ : Rho) (o : Out) (D : Ends), FrP F → Rel F B H σ ρ → m ρ = some o → OutOk F D o → t D σ H
theorem MS.p {t : TS} {m : SM} (h : MS t m) : MSP t m := fun F B H σ ρ o D _ R e q => h F B H σ ρ o D R e q
def tups (H : Hp) : Hp := fun q => match H q with
  | some (.tup xs) => some (.tup xs)
  | _ => none
theorem Reps.put {B B' : Hp} (k : ∀ q xs, B q = some (.tup xs) → B' q = some (.tup xs)) {x : V} {c c' : D} (hr : Rep B' x c') : ∀ {vs : List V} {ds : List D} (j : Nat), Reps B vs ds → vs[j]? = some x → ds[j]? = some c → pureDs (ds.set j .none) = true → Reps B' vs (ds.set j c')
  | _, _, _, .nil, h, _, _ => by simp at h
  | _, _, 0, .cons a b, h1, h2, e => by
    simp only [List.getElem?_cons_zero, Option.some.injEq] at h1
    subst h1
    simp only [List.set_cons_zero, pureDs, Bool.and_eq_true] at e
    exact .cons hr (b.ofPure k e.2)
  | _, _, j + 1, .cons a b, h1, h2, e => by
    simp only [List.set_cons_succ, pureDs, Bool.and_eq_true] at e
    exact .cons (a.ofPure k e.1) (Reps.put k hr j b (by simpa using h1) (by simpa using h2) e.2)
end
end Mir
set_option Elab.async false
set_option linter.all false
set_option maxRecDepth 100000
namespace Mir
open PySem L2
section
variable [Zc]
structure PostI (B H : Hp) (p : Addr) (v : V) (B' H' : Hp) (d : D) (o : Bool) (d1 : D) : Prop where
  eH : ∀ q u, q ≠ p → H q = some u → H' q = some u
  eB : Same B B'
  sub : Same B' H'
  nb : ∀ q, H q ≠ none → B q = none → B' q = none
  tB : ∀ q xs, H' q = some (.tup xs) → B' q = some (.tup xs)
  nz : ∀ q o u, H' q = some (.frz o u) → H q ≠ none
  own : Own B' H' p d1
  val : if o = true then ∃ p, v = .ref p ∧ H p = none ∧ B' p = none ∧ Own B' H' p d else Rep B' v d
def ownAt (ρ : Rho) (i : Nat) : Option Sl := match ρ[i]? with
  | some s => if s.isOwn = true then some s else none
  | none => none
theorem op_ro {a b : PM} {ρ ρ1 ρ2 : Rho} {x : D} {r : RV} {res : D × Bool} {g : D → D → Option (D × Bool)} (h1 : sv a ρ = some ((x, .ro), ρ1)) (h2 : sv b ρ1 = some (r, ρ2)) (h3 : g x r.1 = some res) : mOp g a b ρ = some (resK res, ρ2) := by
  unfold mOp; rw [h1, Option.bind_some]; dsimp only; rw [h2, Option.bind_some]; dsimp only [refr, Option.bind_some]; rw [h3, Option.map_some]
end
end Mir
set_option Elab.async false
set_option linter.all false
set_option maxRecDepth 100000
namespace Mir
open PySem L2
section
variable [Zc]
def Two (H0 B' H' : Hp) (v : V) (c : D × D) : Prop := ∃ a p q, v = .ref a ∧ H' a = some (.tup [.ref p, .ref q]) ∧ p ≠ q ∧ H0 p = none ∧ H0 q = none ∧ B' p = none ∧ B' q = none ∧ Own B' H' p c.1 ∧ Own B' H' q c.2
structure PostD (B H : Hp) (v : V) (B' H' : Hp) (c : D × D) : Prop where
  eH : Same H H'
  eB : Same B B'
  sub : Same B' H'
  nb : ∀ q, H q ≠ none → B q = none → B' q = none
  tB : ∀ q xs, H' q = some (.tup xs) → B' q = some (.tup xs)
  nz : ∀ q o u, H' q = some (.frz o u) → H q ≠ none
  val : Two H B' H' v c
end
end Mir
set_option Elab.async false
set_option linter.all false
set_option maxRecDepth 100000
namespace L2
open PySem PySem.Spec PyProof.Rows
section
variable {X : Cx} {pins : List (Addr × Obj)} {σ : St} {H : Hp} {s : Shared} {h' : Heap}
theorem Inv.turnedL {t' : Nat} {fp : List Addr} (I : Inv X pins σ H s) (k : ∀ b o, b ∉ fp → s.heap.get? b = some o → h'.get? b = some o) (f : ∀ b ∈ fp, FpOk X pins H b) : Inv X pins σ H { s with heap := h', toks := t' } := by
  have nit : ∀ b u, H b = some u → b ∉ fp := fun b u e z => by rw [(f b z).1] at e; cases e
  have hL : X.env.locals ∉ fp := fun z => (f _ z).2.1 rfl
  refine I.step (g' := s.gens) (d' := s.drawn) (ch := fp) (fun b hb => ?_) (fun b o _ _ hc e _ => k b o hc e) (fun b o _ _ hc e _ => ⟨o.slots, k b o hc e⟩) (fun _ _ _ _ n => n)
    (fun b o hc e => ⟨o, k b o hc e⟩) (fun _ _ e => e) (fun _ _ _ e => e) (fun b ps e => ⟨#[], by rw [e]; simp⟩) (fun m hm => ?_) (fun b u e => ?_) I.bare
  · obtain ⟨_, f1, _, f3, f4, f5⟩ := f b hb
    exact ⟨f3, f1, f4, f5⟩
  · obtain ⟨o, es, ep, ho, r⟩ := hm
    exact ⟨o, es, ep, k _ o hL ho, r⟩
  · refine (I.hok b u e).stay (fun c v hc q => k c v ?_ q) (fun _ q => q) fun _ _ q => q
    rcases hc with z | z
    · rw [z]; exact nit b u e
    · exact nit c _ z
end
def Itz (K : PySem.W.Frag) (a b : Addr) : It :=
  ⟨fun i H => ∃ xs ys x y, SqL K H a xs ∧ SqL K H b ys ∧ xs[i]? = some x ∧ ys[i]? = some y,
   fun i H v H' => ∃ p x y, v = .ref p ∧ H p = none ∧ H' = upd H p (.tup [x, y]) ∧ (∀ xs, SqL K H a xs → xs[i]? = some x) ∧ ∀ ys, SqL K H b ys → ys[i]? = some y,
   fun i H => ∃ xs ys, SqL K H a xs ∧ SqL K H b ys ∧ (xs.length ≤ i ∨ ys.length ≤ i)⟩
theorem turn_zip {P : Program} {w : World} {K : PySem.W.Frag} {elts : List Expr} {cx} {pos : Pos} {z TI TO i1 i2 l1 l2 : Addr} (D : ZipApart z TI TO i1 i2 l1 l2) :
    Turn P w K (.Tuple elts cx pos) (Itz K l1 l2) [z, TI, TO, i1, i2] z (fun i h => IsZip h z TI TO .none ∧ IsPair h TI (.ref i1) (.ref i2) ∧ (∃ a b, IsPair h TO a b) ∧ h.IsListIter i1 l1 i ∧ h.IsListIter i2 l2 i) where
  mem := by simp
  obj := fun i h st b hb => by
    obtain ⟨hz, hTI, ⟨a, c, hTO⟩, ⟨o1, g1, c1, d1⟩, ⟨o2, g2, c2, d2⟩⟩ := st
    simp only [List.mem_cons, List.not_mem_nil, or_false] at hb
    rcases hb with rfl | rfl | rfl | rfl | rfl
    · exact ⟨_, hz, fun v e => by cases e⟩
    · exact ⟨_, hTI, fun v e => by cases e⟩
    · exact ⟨_, hTO, fun v e => by cases e⟩
    · exact ⟨_, g1, fun v e => by rw [d1] at e; cases e⟩
    · exact ⟨_, g2, fun v e => by rw [d2] at e; cases e⟩
  keep := fun i h h' st k => by
    obtain ⟨hz, hTI, ⟨a, c, hTO⟩, h1, h2⟩ := st
    exact ⟨k z (by simp) _ hz, k TI (by simp) _ hTI, ⟨a, c, k TO (by simp) _ hTO⟩, h1.at fun o e => k i1 (by simp) o e, h2.at fun o e => k i2 (by simp) o e⟩
  item := by
    intro X hP hw hK hc i pins s σ H E I hf st hg
    subst hP hw hK
    obtain ⟨hz, hTI, ⟨a, c, hTO⟩, h1, h2⟩ := st
    obtain ⟨xs, ys, x, y, q1, q2, hx, hy⟩ := hg
    obtain ⟨us, r1, p1, _⟩ := I.list q1
    obtain ⟨vs, r2, p2, _⟩ := I.list q2
    obtain ⟨u, hu, ru⟩ := r1.get hx
    obtain ⟨v, hv, rv⟩ := r2.get hy
    have lt : ∀ b ∈ [z, TI, TO, i1, i2], b < s.heap.objs.size := fun b hb => by
      obtain ⟨o1, g1, _, _⟩ := id h1
      obtain ⟨o2, g2, _, _⟩ := id h2
      simp only [List.mem_cons, List.not_mem_nil, or_false] at hb
      rcases hb with rfl | rfl | rfl | rfl | rfl
      · exact Heap.lt_size hz
      · exact Heap.lt_size hTI
      · exact Heap.lt_size hTO
      · exact Heap.lt_size g1
      · exact Heap.lt_size g2
    refine wpAny_pyNext_zip_item D hz hTI hTO h1 h2 p1.isList p2.isList (x := u) (y := v) (by simpa using hu) (by simpa using hv) fun h' hz' hTO' h1' h2' hT hsz hk => ?_
    refine ⟨_, rfl, wpAny_letOwnedTupleGo_zip (s := { s with heap := h' }) hz' fun h3 hz3 sb => ?_⟩
    have hfr : H s.heap.objs.size = none := I.hok.fresh (Nat.le_refl _)
    have up : ∀ b o, b ≠ z → h'.get? b = some o → h3.get? b = some o := fun b o hb e => (sb.2 b hb).trans e
    have IA : Inv X pins σ (upd H s.heap.objs.size (.tup [x, y])) { s with heap := s.heap.push { cls := .type "tuple", data := .seq #[u, v] }, toks := s.toks } :=
      I.laid (fun b o e => Heap.get?_push_of_some _ e) (Nat.le_refl _) (ObjOk.newTup (its := [u, v]) (by simp only [List.length_cons, List.length_nil, sizeLine]; omega) (.cons ru (.cons rv .nil)))
    have IB : Inv X pins σ (upd H s.heap.objs.size (.tup [x, y])) { s with heap := h3 } := by
      refine Inv.turnedL (s := { s with heap := s.heap.push { cls := .type "tuple", data := .seq #[u, v] }, toks := s.toks }) (h' := h3) (t' := s.toks) (fp := [z, TI, TO, i1, i2]) IA (fun b o hb e => ?_) (fun b hb => ?_)
      · simp only [List.mem_cons, List.not_mem_nil, or_false, not_or] at hb
        obtain ⟨b1, b2, b3, b4, b5⟩ := hb
        refine up b o b1 ?_
        by_cases eb : b = s.heap.objs.size
        · subst eb
          have e' : (s.heap.push { cls := .type "tuple", data := .seq #[u, v] }).get? s.heap.objs.size = some { cls := .type "tuple", data := .seq #[u, v] } := Heap.get?_push_size _ rfl
          rw [e'] at e
          cases e
          exact hT
        · have e0 : (s.heap.push { cls := .type "tuple", data := .seq #[u, v] }).get? b = s.heap.get? b := Heap.get?_push_ne _ _ _ eb
          have e1 : s.heap.get? b = some o := e0 ▸ e
          exact hk b o b1 b3 b4 b5 e1
      · obtain ⟨f0, f1⟩ := hf b hb
        exact ⟨by rw [upd_ne (fun e => absurd (lt b hb) (by rw [e]; exact Nat.lt_irrefl _))]; exact f0, f1⟩
    refine ⟨.ref s.heap.objs.size, _, IB, rfl, ⟨_, x, y, rfl, hfr, rfl, fun xs' h => by rw [I.list_inj h q1]; exact hx, fun ys' h => by rw [I.list_inj h q2]; exact hy⟩, ⟨hz3, up _ _ D.TIz (hk TI _ D.TIz D.TITO D.TIi1 D.TIi2 hTI), ⟨_, _, up _ _ D.TOz hTO'⟩, h1'.at fun o e => up i1 o D.i1z e, h2'.at fun o e => up i2 o D.i2z e⟩, fun b hb => ?_⟩
    rw [upd_ne (fun e => absurd (lt b hb) (by rw [e]; exact Nat.lt_irrefl _))]
    exact (hf b hb).1
  done := by
    intro X hP hw hK hc i pins s σ H E I hf st hg
    subst hP hw hK
    obtain ⟨hz, hTI, ⟨a, c, hTO⟩, h1, h2⟩ := st
    obtain ⟨xs, ys, q1, q2, he⟩ := hg
    obtain ⟨us, r1, p1, _⟩ := I.list q1
    obtain ⟨vs, r2, p2, _⟩ := I.list q2
    have l1 := r1.length
    have l2 := r2.length
    refine wpAny_pyNext_zip_end (I.ok.hd hc) D hz hTI hTO h1 h2 p1.isList p2.isList (he.imp (fun h => by simp; omega) (fun h => by simp; omega)) fun h' hk => ⟨rfl, ?_⟩
    refine Inv.turnedL (t' := s.toks) (fp := [z, TI, TO, i1, i2]) I (fun b o hb e => ?_) hf
    simp only [List.mem_cons, List.not_mem_nil, or_false, not_or] at hb
    exact hk b o hb.1 hb.2.2.1 hb.2.2.2.1 hb.2.2.2.2 e
  self := fun _ _ _ _ _ st h => wpAny_pyIter_zip st.1 h
theorem zipApart_of {n l1 l2 : Nat} (h1 : l1 < n) (h2 : l2 < n) : ZipApart (n + 4) (n + 2) (n + 3) n (n + 1) l1 l2 := by
  constructor <;> (intro z; have z' : @Eq Nat _ _ := z; omega)
def iZip (K : PySem.W.Frag) (ta : TA) : TI := fun σ H R => ta σ H fun vs H1 => ∃ a b xs ys, vs = [.ref a, .ref b] ∧ SqL K H1 a xs ∧ SqL K H1 b ys ∧ R (Itz K a b) H1
section
variable {X : Cx}
theorem pi_zip {elts : List Expr} {cx} {tp : Pos} {a b : Expr} {ta : TA} {p pos : Pos} (hg : Gl X "zip") (hm : X.mg "zip" = none) (ha : PA X [a, b] ta) (hs : starEach [a, b] X.env = [(false, eval a X.env), (false, eval b X.env)] := by rfl) (hs2 : starEach [b] X.env = [(false, eval b X.env)] := by rfl) :
    PI X (.Tuple elts cx tp) (.Call (.Name "zip" p) [a, b] [] pos) (iZip X.K ta) := by
  intro pins s σ H R I h
  refine Call_ (ld_blt I hg hm boot_zip (PyProof.Rows.callWith_type1 (thn (ha pos pins s σ H _ I h) fun us s1 ⟨vs, H1, I1, r1, q1⟩ => ?_) (by rw [hs, hs2]) (by rw [hs2]; rfl)))
  obtain ⟨l1, l2, xs, ys, e, g1, g2, q⟩ := q1
  subst e
  cases r1 with
  | cons r rr =>
    cases rr with
    | cons r' rr =>
      cases rr
      cases r
      cases r'
      obtain ⟨us, rv1, p1, _⟩ := I1.list g1
      obtain ⟨vs, rv2, p2, _⟩ := I1.list g2
      have k1 : l1 < s1.heap.objs.size := by obtain ⟨o, _, e, _⟩ := id p1; exact Heap.lt_size e
      have k2 : l2 < s1.heap.objs.size := by obtain ⟨o, _, e, _⟩ := id p2; exact Heap.lt_size e
      refine call_zip_2 p1.isList p2.isList fun h' hz hTI hTO h1 h2 hsz hk => ?_
      refine wpAny_pyIter_zip hz ?_
      have D : ZipApart (s1.heap.objs.size + 4) (s1.heap.objs.size + 2) (s1.heap.objs.size + 3) s1.heap.objs.size (s1.heap.objs.size + 1) l1 l2 := zipApart_of k1 k2
      refine ⟨s1.heap.objs.size + 4, [s1.heap.objs.size + 4, s1.heap.objs.size + 2, s1.heap.objs.size + 3, s1.heap.objs.size, s1.heap.objs.size + 1], _, _, H1, rfl, I1.kept (t' := s1.toks) hk, turn_zip D, ⟨hz, hTI, ⟨_, _, hTO⟩, h1, h2⟩, fun b hb => ?_, q⟩
      have hb' : s1.heap.objs.size ≤ b := by
        simp only [List.mem_cons, List.not_mem_nil, or_false] at hb
        rcases hb with rfl | rfl | rfl | rfl | rfl
        · exact Nat.le_add_right _ _
        · exact Nat.le_add_right _ _
        · exact Nat.le_add_right _ _
        · exact Nat.le_refl _
        · exact Nat.le_add_right _ _
      exact I1.fpOk hb' (I1.hok.fresh hb')
end
end L2
set_option Elab.async false
set_option linter.all false
set_option maxRecDepth 100000
namespace L2
open PySem PySem.Spec PyProof.Rows
section
variable {prog : Program} {w : World} {A : Around} {E : Value → Shared → Prop} {s : Shared}
def TupIt (l : Addr) (it : Addr) (items : Array Value) (n : Nat) (h : Heap) : Prop := h.IsTupleIter it l n ∧ h.IsTuple l items
theorem TupIt.keep {l it : Addr} {items : Array Value} (n : Nat) (h h' : Heap) (x : TupIt l it items n h) (a : ∀ o, h.get? it = some o → h'.get? it = some o) (b : ∀ o, h.get? l = some o → h'.get? l = some o) : TupIt l it items n h' :=
  ⟨x.1.at a, by obtain ⟨o, e, r⟩ := x.2; exact ⟨o, b _ e, r⟩⟩
end
end L2
set_option Elab.async false
set_option linter.all false
set_option maxRecDepth 100000
namespace L2
open PySem PySem.Spec PyProof.Rows
section
variable {prog : Program} {w : World} {A : Around} {E : Value → Shared → Prop} {s : Shared}
end
section
variable {X : Cx}
end
def compNs2 (x y : Str) (fr : List (Str × Nat)) : List Str := x :: y :: fr.map (·.1)
structure Blk2 (X : Cx) (scope : Scope) (x y : Str) (fr : List (Str × Nat)) : Prop where
  b : Blk X scope x fr
  here2 : scope.names.lookup y = some .local
  nd2 : (compNs2 x y fr).Nodup
section
variable {X : Cx} {scope : Scope} {x y : Str} {fr : List (Str × Nat)} {pins : List (Addr × Obj)} {σ : St} {H : Hp} {s : Shared}
theorem inv_comp2 (I : Inv X pins σ H s) (B2 : Blk2 X scope x y fr) {C : Addr} {fp : List Addr} {h₁ : Heap} {tk : Nat} (hC : s.heap.objs.size ≤ C) (hfp : ∀ b ∈ fp, FpOk X pins H b) (hlt : ∀ b ∈ fp, b < s.heap.objs.size)
    (old : ∀ b ob, s.heap.get? b = some ob → h₁.get? b = some ob) (hns : h₁.Ns C fun _ => none) : Inv (cxComp X scope (compNs2 x y fr) s H C fp) [] (none :: none :: compRest σ fr) H { s with heap := h₁, toks := tk } := by
  have I0 := inv_comp (tk := tk) (o := none) I B2.b hC hfp hlt old hns
  obtain ⟨ok, os, bare, base, loc, cell, free, freeC, pin, hok, len⟩ := I0
  refine ⟨⟨ok.mod, ok.kind, ok.glob, ok.blt, ok.above, ok.inj, ok.has, ok.cab, ok.hd, ok.frames, ok.stk, ok.exf, ok.bs, ok.bsz, ok.noex, ok.exfs, ok.funs, ok.frf⟩, os, bare, base, ?_, cell, free, freeC, pin, hok, ?_⟩
  · obtain ⟨m, hn, hl⟩ := loc
    refine ⟨m, hn, fun i z v h1 h2 h3 => ?_⟩
    cases i with
    | zero => simp at h2
    | succ i =>
      cases i with
      | zero => simp at h2
      | succ i =>
        refine hl (i + 1) z v ?_ ?_ h3
        · have e : (x :: y :: fr.map (·.1))[i + 1 + 1]? = some z := h1
          rw [List.getElem?_cons_succ, List.getElem?_cons_succ] at e
          show (x :: fr.map (·.1))[i + 1]? = some z
          rw [List.getElem?_cons_succ]
          exact e
        · have e : (none :: none :: compRest σ fr)[i + 1 + 1]? = some (some v) := h2
          rw [List.getElem?_cons_succ, List.getElem?_cons_succ] at e
          rw [List.getElem?_cons_succ]
          exact e
  · show _ = (compNs2 x y fr).length
    simp [compNs2, compRest]
def tLC2 (K : PySem.W.Frag) (fr : List (Str × Nat)) (wi : TI) (tc : TT) (te : TE) : TE := fun σ H Q => wi σ H fun J H1 => ∃ W : Nat → Nat → List V → Hp → Prop, (∃ m, W 0 m [] H1) ∧ ∀ i m ys H2, W i m ys H2 → ys.length < sizeLine ∧
  ((J.stop i H2 ∧ ∀ D, H2 D = none → Q (.ref D) (upd H2 D (.lst ys))) ∨
    (J.go i H2 ∧ ∀ v H3, J.yld i H2 v H3 → ∃ p v1 v2, v = .ref p ∧ SqT K H3 p [v1, v2] ∧ tc (some v1 :: some v2 :: compRest σ fr) H3 fun b H4 =>
      if b = true then te (some v1 :: some v2 :: compRest σ fr) H4 fun y H5 => ∃ m', m' < m ∧ W (i + 1) m' (ys ++ [y]) H5 else ∃ m', m' < m ∧ W (i + 1) m' ys H4))
end
section
variable {X : Cx}
theorem pe_lc2 {elt iter : Expr} {x y : Str} {px py tp : Pos} {kx : Nat} {ifs : List Expr} {scope : Scope} {pos : Pos} {fr : List (Str × Nat)} {wi : TI} {tc : TT} {te : TE} (hc : X.calm = true) (B2 : Blk2 X scope x y fr)
    (hi : PI X (.Tuple [.Name x px, .Name y py] kx tp) iter wi) (ht : ∀ s₂ H₂ C fp, PIf (cxComp X scope (compNs2 x y fr) s₂ H₂ C fp) ifs tc) (he : ∀ s₂ H₂ C fp, PE (cxComp X scope (compNs2 x y fr) s₂ H₂ C fp) elt te)
    (hs : ∀ v, foldedSetIterable iter X.env v = pure v := by intro _; rfl) : PE X (.ListComp elt [⟨.Tuple [.Name x px, .Name y py] kx tp, iter, ifs, 0⟩] scope pos) (tLC2 X.K fr wi tc te) := by
  intro pins s σ H Q I h
  have B := B2.b
  rw [eval_ListComp]
  have hclos := clo_eq (scope := scope) (env := X.env) (B.clos I.ok)
  refine wpAny_comprehension_free (use := none) rfl hs hclos B.kind B.loc (thn (hi pins s σ H _ I h) fun v s1 h1 => thn h1 fun itv s2 h2 => ?_)
  obtain ⟨it, fp, tn, J, H2, rfl, I2, T, st2, f2, W, ⟨m0, w0⟩, turn⟩ := h2
  refine wpAny_newObj_type (wpAny_newFunctionEnv B.cell (by intro y hy; simp at hy) (fun h₁ hns hsb => ?_) B.kind)
  dsimp only at hns hsb ⊢
  generalize hG : s2.heap.push { cls := .type "list", dict := none, data := .seq ([] : List Value).toArray } = G at hns hsb ⊢
  have hC : G.objs.size = s2.heap.objs.size + 1 := by rw [← hG, Heap.size_push]
  have hDC : s2.heap.objs.size ≠ G.objs.size := by omega
  have old : ∀ b ob, s2.heap.get? b = some ob → h₁.get? b = some ob := fun b ob e => by
    have hb := Heap.lt_size e
    refine hsb.extBut b ob (Nat.ne_of_lt (by rw [hC]; exact Nat.lt_succ_of_lt hb)) (Heap.get?_push_of_some _ ?_)
    rw [← hG]
    exact Heap.get?_push_of_some _ e
  have hacc : h₁.get? s2.heap.objs.size = some { cls := .type "list", data := .seq ([] : List Value).toArray 0 } := by
    refine hsb.extBut _ _ hDC (Heap.get?_push_of_some _ ?_)
    rw [← hG]
    exact Heap.get?_push_size _ rfl
  have hlt : ∀ b ∈ fp, b < s2.heap.objs.size := fun b hb => by
    obtain ⟨o, e, _⟩ := T.obj 0 _ st2 b hb
    exact Heap.lt_size e
  have I4 := inv_comp2 (tk := s2.toks + ([] : List (Str × Value)).length) I2 B2 (show s2.heap.objs.size ≤ G.objs.size by omega) f2 hlt old hns
  have tn4 : tn 0 h₁ := T.keep 0 _ _ st2 fun b _ o e => old b o e
  have Dfs : s2.heap.objs.size ∉ frs X.stack := fun z => by
    obtain ⟨_, o, ho, _⟩ := I2.stack.mem z
    exact absurd (Heap.lt_size ho) (Nat.lt_irrefl _)
  have Dcl : ∀ y c, X.env.cells.lookup y = some c → c ≠ s2.heap.objs.size := fun y c e => by
    obtain ⟨v, o, ho, _⟩ := I2.cell y c e
    exact Nat.ne_of_lt (Heap.lt_size ho)
  have DL : s2.heap.objs.size ≠ X.env.locals := Nat.ne_of_gt I2.lt
  have Dfp : s2.heap.objs.size ∉ fp := fun z => absurd (hlt _ z) (Nat.lt_irrefl _)
  have loop : ∀ s₃ : Shared, s₃ = { s2 with heap := h₁, toks := s2.toks + ([] : List (Str × Value)).length } →
      codeAny (model X.prog X.w) X.A (.compLoop (.ListComp elt [⟨.Tuple [.Name x px, .Name y py] kx tp, iter, ifs, 0⟩] scope pos) 0 (.ref it) (.ref s2.heap.objs.size) (compEnvC scope (cloOf X.env.cells scope.names []) G.objs.size X.env))
        (compPost (model X.prog X.w) X.A X.xe none (EP X pins σ Q) (.ref s2.heap.objs.size) G.objs.size) s₃ := by
    rintro s₃ rfl
    refine comp_loop
      (fun n s' => ∃ i o1 o2 H' ys its k, Inv (cxComp X scope (compNs2 x y fr) s2 H2 G.objs.size fp) [] (o1 :: o2 :: compRest σ fr) H' s' ∧ tn i s'.heap ∧ (∀ b ∈ fp, H' b = none) ∧ H' s2.heap.objs.size = none ∧
        s'.heap.get? s2.heap.objs.size = some { cls := .type "list", data := .seq (its : List Value).toArray k } ∧ Vals ys its ∧ W i n ys H') ?_ m0
      ⟨0, none, none, H2, [], [], 0, I4, tn4, fun b hb => (f2 b hb).1, I2.hok.fresh (Nat.le_refl _), hacc, .nil, w0⟩
    rintro n s5 ⟨i, o1, o2, H5, ys, its, k, I5, st5, fr5, D5, hD5, r5, w5⟩
    have fok : ∀ {H' : Hp}, (∀ b ∈ fp, H' b = none) → ∀ b ∈ fp, FpOk (cxComp X scope (compNs2 x y fr) s2 H2 G.objs.size fp) [] H' b := fun hn b hb =>
      ⟨hn b hb, (I5.ok.exf b hb).1, I5.ok.exfs b hb, .inl hb, (I5.ok.exf b hb).2, fun p hp => absurd (show p ∈ ([] : List (Addr × Obj)) from hp) (by simp)⟩
    have dok : ∀ {H' : Hp}, H' s2.heap.objs.size = none → FpOk (cxComp X scope (compNs2 x y fr) s2 H2 G.objs.size fp) [] H' s2.heap.objs.size := fun hn =>
      ⟨hn, hDC, Dfs, .inr (Nat.le_refl _), fun y c e => Dcl y c (B.sub I2.ok _ _ e), fun p hp => absurd (show p ∈ ([] : List (Addr × Obj)) from hp) (by simp)⟩
    obtain ⟨hz, alt⟩ := turn i n ys H5 w5
    have hzl : its.length ≤ sizeLine := by rw [← r5.length]; exact Nat.le_of_lt hz
    rcases alt with ⟨stop, fin⟩ | ⟨go, step⟩
    · refine thn (T.done (cxComp X scope (compNs2 x y fr) s2 H2 G.objs.size fp) rfl rfl rfl hc i (pinsAt [s2.heap.objs.size] s5.heap) s5 (o1 :: o2 :: compRest σ fr) H5 _ ?_ (fun b hb => ?_) st5 stop) fun r s6 ⟨hr, I6⟩ => ?_
      · exact (Inv.pinned I5 (fp := [s2.heap.objs.size]) (fun b hb => by rw [List.mem_singleton.mp hb]; exact dok D5) fun b hb => by
          rw [List.mem_singleton.mp hb]
          exact ⟨_, hD5, fun v z => by cases z⟩)
      · obtain ⟨f0, f1, f2', f3, f4, f5⟩ := fok fr5 b hb
        refine ⟨f0, f1, f2', f3, f4, fun p hp => ?_⟩
        have hp' : p ∈ pinsAt [s2.heap.objs.size] s5.heap := (List.mem_append.mp hp).elim (fun z => absurd (show p ∈ ([] : List (Addr × Obj)) from z) (by simp)) id
        have := (of_pinsAt hp').1
        rw [List.mem_singleton.mp this]
        exact fun e => Dfp (by rw [e]; exact hb)
      · subst hr
        have hD6 := (I6.pin (s2.heap.objs.size, { cls := .type "list", data := .seq its.toArray k }) (List.mem_append_right _ (mem_pinsAt (by simp) hD5))).1
        obtain ⟨m6, hn6, _⟩ := I6.loc
        refine ⟨m6, hn6, fun h' hs' => ?_⟩
        have hCn : s2.heap.get? G.objs.size = none := by
          cases e : s2.heap.get? G.objs.size with
          | none => rfl
          | some ob => exact absurd (Heap.lt_size e) (by rw [hC]; exact Nat.not_lt.mpr (Nat.le_succ _))
        have neC : ∀ b ob, s2.heap.get? b = some ob → b ≠ G.objs.size := fun b ob e z => by rw [z, hCn] at e; cases e
        have u6 : Un (frs X.stack) fp H2 H5 s2.heap s6.heap := I6.base
        have u7 : Un (frs X.stack) fp H2 H5 s2.heap h' := ⟨fun b ob e n hb hx => hs'.extBut b ob (neC b ob e) (u6.keep b ob e n hb hx), fun b ob e n hb hx => by
            obtain ⟨sl, q⟩ := u6.slot b ob e n hb hx
            exact ⟨sl, hs'.extBut b _ (neC b ob e) q⟩, u6.free, fun b ob e hx => by
            obtain ⟨o', q⟩ := u6.there b ob e hx
            exact ⟨o', hs'.extBut b _ (neC b ob e) q⟩, u6.tups, u6.frzs, u6.tbls⟩
        have hC5 : H5 G.objs.size = none := I6.free
        have hok7 : HOk X.prog X.w H5 h' := fun b ob e => (I6.hok b ob e).stay (fun c u hc q => hs'.extBut c u (by
            rintro rfl
            rcases hc with rfl | hc
            · rw [hC5] at e; cases e
            · rw [hC5] at hc; cases hc) q) (fun _ q => q) fun _ _ q => q
        have I7 : Inv X pins σ H5 { s6 with heap := h' } := I2.call' (s' := { s6 with heap := h' }) (I6.os) u7 hok7 I6.bare fun b hb => ⟨(f2 b hb).2.2.2.1, (f2 b hb).2.1, (f2 b hb).2.2.2.2.1, (f2 b hb).2.2.2.2.2⟩
        refine ⟨.ref s2.heap.objs.size, upd H5 s2.heap.objs.size (.lst ys), I7.track D5 I2.sz DL Dcl (fun p hp z => ?_) ?_, rfl, fin _ D5⟩
        · obtain ⟨e, _⟩ := I2.pin p hp
          rw [z] at e
          exact absurd (Heap.lt_size e) (Nat.lt_irrefl _)
        · exact ⟨Nat.le_of_lt hz, its, k, r5, hs'.extBut _ _ hDC hD6⟩
    · refine anyE (thn (T.item (cxComp X scope (compNs2 x y fr) s2 H2 G.objs.size fp) rfl rfl rfl hc i (pinsAt [s2.heap.objs.size] s5.heap) s5 (o1 :: o2 :: compRest σ fr) H5 _ ?_ (fun b hb => ?_) st5 go) fun r s6 ⟨u, hr, h6⟩ => ?_)
      · exact (Inv.pinned I5 (fp := [s2.heap.objs.size]) (fun b hb => by rw [List.mem_singleton.mp hb]; exact dok D5) fun b hb => by
          rw [List.mem_singleton.mp hb]
          exact ⟨_, hD5, fun v z => by cases z⟩)
      · obtain ⟨f0, f1, f2', f3, f4, f5⟩ := fok fr5 b hb
        refine ⟨f0, f1, f2', f3, f4, fun p hp => ?_⟩
        have hp' : p ∈ pinsAt [s2.heap.objs.size] s5.heap := (List.mem_append.mp hp).elim (fun z => absurd (show p ∈ ([] : List (Addr × Obj)) from z) (by simp)) id
        have := (of_pinsAt hp').1
        rw [List.mem_singleton.mp this]
        exact fun e => Dfp (by rw [e]; exact hb)
      · subst hr
        refine thn h6 fun _ s7 ⟨v, H7, I7, rv, y7, st7, fr7⟩ => ?_
        have p7 := I7.pin (s2.heap.objs.size, { cls := .type "list", data := .seq its.toArray k }) (List.mem_append_right _ (mem_pinsAt (by simp) hD5))
        have hD7 : s7.heap.get? s2.heap.objs.size = some { cls := .type "list", data := .seq its.toArray k } := p7.1
        have D7 : H7 s2.heap.objs.size = none := p7.2.1
        have I7u : Inv (cxComp X scope (compNs2 x y fr) s2 H2 G.objs.size fp) [] (o1 :: o2 :: compRest σ fr) H7 s7 := Inv.unpinned (pins := []) I7
        have I8 := Inv.pinned I7u (fp := s2.heap.objs.size :: fp) (fun b hb => by
            rcases List.mem_cons.mp hb with e | hb
            · rw [e]; exact dok D7
            · exact fok fr7 b hb) fun b hb => by
            rcases List.mem_cons.mp hb with e | hb
            · rw [e]; exact ⟨_, hD7, fun v z => by cases z⟩
            · exact T.obj _ _ st7 b hb
        have hl : Loc (cxComp X scope (compNs2 x y fr) s2 H2 G.objs.size fp).env.scope x := .inl (lookup_relabel_local B.here)
        have hl2 : Loc (cxComp X scope (compNs2 x y fr) s2 H2 G.objs.size fp).env.scope y := .inl (lookup_relabel_local B2.here2)
        have pk : ∀ {σ' : St} {H' : Hp} {s' : Shared}, Inv (cxComp X scope (compNs2 x y fr) s2 H2 G.objs.size fp) ([] ++ pinsAt (s2.heap.objs.size :: fp) s7.heap) σ' H' s' →
            tn (i + 1) s'.heap ∧ (∀ b ∈ fp, H' b = none) ∧ H' s2.heap.objs.size = none ∧ s'.heap.get? s2.heap.objs.size = some { cls := .type "list", data := .seq its.toArray k } := fun {σ' H' s'} I' => by
          have pD := I'.pin (s2.heap.objs.size, { cls := .type "list", data := .seq its.toArray k }) (List.mem_append_right _ (List.mem_append_right _ (mem_pinsAt (by simp) hD7)))
          refine ⟨T.keep _ _ _ st7 fun b hb ob e => (I'.pin (b, ob) (List.mem_append_right _ (List.mem_append_right _ (mem_pinsAt (List.mem_cons_of_mem _ hb) e)))).1, fun b hb => ?_, pD.2.1, pD.1⟩
          obtain ⟨ob, e, _⟩ := T.obj _ _ st7 b hb
          exact (I'.pin (b, ob) (List.mem_append_right _ (List.mem_append_right _ (mem_pinsAt (List.mem_cons_of_mem _ hb) e)))).2.1
        obtain ⟨p0, v1, v2, rfl, sq, stp⟩ := step v H7 y7
        have pgt : PG (cxComp X scope (compNs2 x y fr) s2 H2 G.objs.size fp) (.Tuple [.Name x px, .Name y py] kx tp) (gTup X.K 2 (gCons (gName 0) (gCons (gName 1) gNil))) :=
          pg_tup (X := cxComp X scope (compNs2 x y fr) s2 H2 G.objs.size fp) hc (pgs_cons (pg_name (i := 0) B2.nd2 rfl hl (.inr (lookup_relabel_local B.here))) (pgs_cons (pg_name (i := 1) B2.nd2 rfl hl2 (.inr (lookup_relabel_local B2.here2))) pgs_nil))
        refine anyE (thn (pgt _ s7 _ H7 (.ref p0) u (fun σ' H' => σ' = some v1 :: some v2 :: compRest σ fr ∧ H' = H7) I8 rv ⟨p0, [v1, v2], rfl, sq, rfl, v1, [v2], rfl, v2, [], rfl, rfl, rfl, rfl⟩) fun _ s8 ⟨σ8, H8, I9, e1, e2⟩ => ?_)
        subst e1 e2
        refine anyE (thn (ht s2 H2 G.objs.size fp _ s8 _ H8 _ I9 stp) fun ok s9 ⟨H9, I10, q10⟩ => ?_)
        cases ok with
        | false =>
          rw [if_neg Bool.false_ne_true] at q10
          rw [if_neg Bool.false_ne_true]
          obtain ⟨m', hm, w'⟩ := q10
          obtain ⟨k1, k2, k3, k4⟩ := pk I10
          exact ⟨m', hm, i + 1, some v1, some v2, H9, ys, its, k, Inv.unpinned (pins := []) I10, k1, k2, k3, k4, r5, w'⟩
        | true =>
          rw [if_pos rfl] at q10
          rw [if_pos rfl]
          refine anyE (thn (he s2 H2 G.objs.size fp _ s9 _ H9 _ I10 q10) fun y' s10 ⟨yv, H10, I11, ry, m', hm, w'⟩ => ?_)
          obtain ⟨k1, k2, k3, k4⟩ := pk I11
          refine append_at k4 (fun h' hs' hD' => ?_) (by rw [List.size_toArray]; exact hzl)
          have I12 : Inv (cxComp X scope (compNs2 x y fr) s2 H2 G.objs.size fp) [] (some v1 :: some v2 :: compRest σ fr) H10 { s10 with heap := h' } :=
            (Inv.unpinned (pins := []) I11).turned (t' := s10.toks) (it := s2.heap.objs.size) (fun b ob hb e => (hs'.2 b hb).trans e) k3 hDC (.inr (Nat.le_refl _)) (fun z c e => Dcl z c (B.sub I2.ok _ _ e)) fun p hp => absurd (show p ∈ ([] : List (Addr × Obj)) from hp) (by simp)
          refine ⟨m', hm, i + 1, some v1, some v2, H10, ys ++ [yv], its ++ [y'], k + 1, I12, T.keep _ _ _ k1 fun b hb ob e => (hs'.2 b fun z => Dfp (by rw [← z]; exact hb)).trans e, k2, k3, ?_, r5.append (.cons ry .nil), w'⟩
          rw [hD']
          simp
  exact codeAny_compStart_list (loop _ rfl) (T.self _ 0 _ _ _ tn4 (loop _ rfl))
end
end L2
set_option Elab.async false
set_option linter.all false
set_option maxRecDepth 100000
namespace L2
open PySem PySem.Spec PyProof.Rows
abbrev XE := St → Value → Hp → Prop
abbrev TX := XE → TS
abbrev TEX := XE → TE
def XP (X : Cx) (pins : List (Addr × Obj)) (E : XE) (ev : Value) (s' : Shared) : Prop :=
  ∃ (ea t : Addr) (cls : Value) (B : Heap) (H' : Hp) (s1 : Shared) (H1 : Hp) (σ1 : St), ev = .ref ea ∧ Inv X pins σ1 H1 s1 ∧ Flown X.prog X.w X.stack H1 s1 (fun cls _ H' => E σ1 cls H') ea t cls B H' s'
section
variable {X : Cx} {st : Stmt} {rest : List Stmt} {t : TX} {u : TX} {pos : Pos}
end
section
variable {X : Cx}
end
end L2
set_option Elab.async false
set_option linter.all false
set_option maxRecDepth 100000
namespace Mir
open PySem L2
section
variable [Zc]
def zipD (as bs : List D) : List D := List.zipWith (fun a b => PyData.tuple [a, b]) as bs
theorem zipD_get {as bs : List D} {i : Nat} {d : D} (h : (zipD as bs)[i]? = some d) : ∃ a b, d = .tuple [a, b] ∧ as[i]? = some a ∧ bs[i]? = some b := by
  unfold zipD at h
  rw [List.getElem?_zipWith] at h
  cases ha : as[i]? with
  | none => rw [ha] at h; simp at h
  | some a =>
    cases hb : bs[i]? with
    | none => rw [ha, hb] at h; simp at h
    | some b =>
      rw [ha, hb] at h
      simp at h
      exact ⟨a, b, h.symm, rfl, rfl⟩
theorem zipD_len {as bs : List D} : as.length ≤ (zipD as bs).length ∨ bs.length ≤ (zipD as bs).length := by
  unfold zipD
  rw [List.length_zipWith]
  omega
theorem itz_ok {K : PySem.W.Frag} {G B : Hp} {p q : Addr} {xs ys : List V} {as bs : List D} (h1 : Rd G p (.lst xs)) (h2 : Rd G q (.lst ys)) (r1 : Reps B xs as) (r2 : Reps B ys bs) : ItOk G B (Itz K p q) (zipD as bs) := fun H s => by
  have g1 : SqL K H p xs := rd_sq (rd_same s h1)
  have g2 : SqL K H q ys := rd_sq (rd_same s h2)
  refine ⟨⟨xs, ys, g1, g2, by rw [r1.length, r2.length]; exact zipD_len⟩, fun i d hd => ?_⟩
  obtain ⟨a, b, rfl, ha, hb⟩ := zipD_get hd
  obtain ⟨x, x1, x2⟩ := r1.get i a ha
  obtain ⟨y, y1, y2⟩ := r2.get i b hb
  refine ⟨⟨xs, ys, x, y, g1, g2, x1, y1⟩, fun v H' hy => ?_⟩
  obtain ⟨p', x', y', rfl, hp, rfl, e1, e2⟩ := hy
  have e1' := e1 xs g1
  have e2' := e2 ys g2
  rw [x1] at e1'
  rw [y1] at e2'
  cases e1'
  cases e2'
  exact .inr ⟨p', [x, y], [a, b], rfl, rfl, hp, rfl, .cons x2 (.cons y2 .nil)⟩
def zp (f : D → Option (List D)) : List RV × Rho → Option (List D × Rho)
  | ([r1, r2], ρ) => (f r1.1).bind fun as => (f r2.1).map fun bs => (zipD as bs, ρ)
  | _ => none
theorem zp_eq {f : D → Option (List D)} {x : List RV × Rho} {ds : List D} {ρ : Rho} (h : zp f x = some (ds, ρ)) : ∃ r1 r2 as bs, x = ([r1, r2], ρ) ∧ f r1.1 = some as ∧ f r2.1 = some bs ∧ ds = zipD as bs := by
  obtain ⟨rs, ρ1⟩ := x
  unfold zp at h
  split at h
  · rename_i r1 r2 ρ2 heq
    cases heq
    obtain ⟨as, e1, h⟩ := Option.bind_eq_some_iff.mp h
    obtain ⟨bs, e2, h⟩ := Option.map_eq_some_iff.mp h
    cases h
    exact ⟨r1, r2, as, bs, rfl, e1, e2, rfl⟩
  · cases h
def mItZ (m : Rho → Option (List RV × Rho)) : Rho → Option (List D × Rho) := fun ρ => (m ρ).bind (zp asL)
theorem mi_zip {K : PySem.W.Frag} {ta : TA} {m : Rho → Option (List RV × Rho)} (h : MA ta m) : MI (iZip K ta) (mItZ m) := by
  intro F B H σ ρ ds ρ' Q R e q
  obtain ⟨x, e1, e⟩ := Option.bind_eq_some_iff.mp e
  obtain ⟨r1, r2, as, bs, rfl, f1, f2, rfl⟩ := zp_eq e
  refine h F B H σ ρ _ _ _ R e1 fun vs B1 H1 E1 R1 V1 => ?_
  match vs, V1 with
  | [v, w], ⟨⟨h1, _⟩, ⟨h2, _⟩, _⟩ =>
    have w1 := h1.view R1
    have w2 := h2.view R1
    rw [asL_eq f1] at w1
    rw [asL_eq f2] at w2
    obtain ⟨p, xs, rfl, g1, k1⟩ := w1.list R1.sub
    obtain ⟨p', ys, rfl, g2, k2⟩ := w2.list R1.sub
    exact ⟨p, p', xs, ys, rfl, rd_sq g1, rd_sq g2, q _ B1 H1 E1 R1 (itz_ok g1 g2 k1 k2)⟩
def as2 : D → Option (D × D)
  | .tuple [a, b] => some (a, b)
  | _ => none
theorem as2_eq {d : D} {p : D × D} (h : as2 d = some p) : d = .tuple [p.1, p.2] := by
  unfold as2 at h
  split at h
  · cases h; rfl
  · cases h
def compL2 (c : Rho → Option (Bool × Rho)) (e : PM) (ρn : Rho) : List D → Option (List D)
  | [] => some []
  | d :: ds => (as2 d).bind fun p => (c (.fz p.1 :: .fz p.2 :: ρn)).bind fun b => if b.1 = true then (sv e (.fz p.1 :: .fz p.2 :: ρn)).bind fun y => (asF y.1).bind fun z => (compL2 c e ρn ds).map (z :: ·) else compL2 c e ρn ds
noncomputable def mLC2 (fr : List (Str × Nat)) (it : Rho → Option (List D × Rho)) (c : Rho → Option (Bool × Rho)) (e : PM) : PM := fun ρ => (it ρ).bind fun x => (compL2 c e (fr.map fun p => demote x.2 p.2) x.1).bind fun ys => cIf (ys.length < sizeLine) (some ((.list ys, .new), x.2)) none
theorem inner2_nown {fr : List (Str × Nat)} {ρ : Rho} {d d' : D} (i : Nat) (s : Sl) (h1 : (Sl.fz d :: Sl.fz d' :: fr.map fun p => demote ρ p.2)[i]? = some s) (h2 : s.isOwn = true) : False := by
  cases i with
  | zero => cases h1; cases h2
  | succ i => exact inner_nown (d := d') (ρ := ρ) (fr := fr) i s (by rw [List.getElem?_cons_succ] at h1; exact h1) h2
theorem Rel.inner2 {F : Fr} {B H : Hp} {σ : St} {ρ : Rho} (R : Rel F B H σ ρ) (fr : List (Str × Nat)) {v v' : V} {d d' : D} (h : Rep B v d) (h' : Rep B v' d') : Rel (F0 H) B H (some v :: some v' :: compRest σ fr) (.fz d :: .fz d' :: fr.map fun p => demote ρ p.2) := by
  obtain ⟨r1, r2, r3, r4, r5, r6, r7, r8, r9, r10, r11, r12, r13⟩ := R.inner fr h'
  refine ⟨r1, r2, r3, r4, by simpa using r5, fun i s hs => ?_, fun i j s t p h1 h2 => (inner2_nown i s h1 h2).elim, fun i d p h1 => (inner2_nown i _ h1 rfl).elim, (fun x hx => by cases hx), fun i d h1 => (inner2_nown i _ h1 rfl).elim, r11, (fun i h1 => ?_), r13⟩
  · cases i with
    | zero => cases hs; exact ⟨v, rfl, h⟩
    | succ i =>
      rw [List.getElem?_cons_succ] at hs
      have q := r6 i s hs
      cases s with
      | no => trivial
      | ex => trivial
      | fz c => obtain ⟨x, g1, g2⟩ := q; exact ⟨x, by rw [List.getElem?_cons_succ]; exact g1, g2⟩
      | own c => obtain ⟨x, g1, g2⟩ := q; exact ⟨x, by rw [List.getElem?_cons_succ]; exact g1, g2⟩
      | io c => obtain ⟨x, g1, g2⟩ := q; exact ⟨x, by rw [List.getElem?_cons_succ]; exact g1, g2⟩
      | ro c => obtain ⟨x, g1, g2⟩ := q; exact ⟨x, by rw [List.getElem?_cons_succ]; exact g1, g2⟩
  · cases i with
    | zero => cases h1
    | succ i =>
      rw [List.getElem?_cons_succ] at h1 ⊢
      exact r12 i h1
theorem me_lc2 {K : PySem.W.Frag} {fr : List (Str × Nat)} {wi : TI} {tc : TT} {te : TE} {it : Rho → Option (List D × Rho)} {c : Rho → Option (Bool × Rho)} {e : PM} (hi : MI wi it) (hc : MT tc c) (he : ME te e) : ME (tLC2 K fr wi tc te) (mLC2 fr it c e) := by
  intro F B H σ ρ r0 ρ' Q R e0 q
  obtain ⟨x, e1, e0⟩ := Option.bind_eq_some_iff.mp e0
  obtain ⟨out, e2, e0⟩ := Option.bind_eq_some_iff.mp e0
  obtain ⟨hz, e0⟩ := cIf_eq e0
  cases e0
  refine hi F B H σ ρ x.1 x.2 _ R e1 fun J B1 H1 E1 R1 I1 => ?_
  obtain ⟨ds, ρ1⟩ := x
  refine ⟨fun i m ys H2 => m = ds.length - i ∧ i ≤ ds.length ∧ ∃ B2 done rest, Same B1 B2 ∧ Same H1 H2 ∧ (∀ q, H1 q ≠ none → B1 q = none → B2 q = none) ∧ Rel F B2 H2 σ ρ1 ∧ Reps B2 ys done ∧ compL2 c e (fr.map fun p => demote ρ1 p.2) (ds.drop i) = some rest ∧ done ++ rest = out,
    ⟨ds.length, rfl, Nat.zero_le _, B1, [], out, Same.refl _, Same.refl _, fun _ _ z => z, R1, .nil, e2, rfl⟩, ?_⟩
  rintro i m ys H2 ⟨rfl, hil, B2, done, rest, eB, eH, nb, R2, rp, hcl, hdr⟩
  have hlen : ys.length ≤ out.length := by rw [← hdr, List.length_append, rp.length]; omega
  refine ⟨by omega, ?_⟩
  by_cases hlt : i < ds.length
  · refine .inr ?_
    obtain ⟨go, yl⟩ := (I1 H2 eH).2 i ds[i] (List.getElem?_eq_getElem hlt)
    refine ⟨go, fun v H3 hy => ?_⟩
    rw [List.drop_eq_getElem_cons hlt] at hcl
    obtain ⟨pr, c0, hcl⟩ := Option.bind_eq_some_iff.mp (show (as2 ds[i]).bind _ = some rest from hcl)
    obtain ⟨b, c1, c2⟩ := Option.bind_eq_some_iff.mp hcl
    have hdi := as2_eq c0
    have had : ∃ B3, Same B2 B3 ∧ Same H2 H3 ∧ (∀ q, H2 q ≠ none → B2 q = none → B3 q = none) ∧ Rel F B3 H3 σ ρ1 ∧ Rep B3 v ds[i] := by
      rcases yl v H3 hy with ⟨rfl, h2⟩ | ⟨p, xs, cs, h1, rfl, h3, rfl, h5⟩
      · exact ⟨B2, Same.refl _, Same.refl _, fun _ _ z => z, R2, h2.mono eB⟩
      · obtain ⟨R3, E3, e3⟩ := R2.layT (xs := xs) h3
        refine ⟨_, e3, same_upd h3, fun q h z => ?_, R3, ?_⟩
        · rw [upd_ne (show q ≠ p from fun y => h (by rw [y]; exact h3))]; exact z
        · rw [h1]; exact .tup upd_same (h5.mono (eB.trans e3))
    obtain ⟨B3, eB3, eH3, nb3, R3, rv⟩ := had
    have rv' : Rep B3 v (.tuple [pr.1, pr.2]) := by rw [← hdi]; exact rv
    obtain ⟨p0, v1, v2, rfl, hp0, rv1, rv2⟩ : ∃ p0 v1 v2, v = .ref p0 ∧ B3 p0 = some (.tup [v1, v2]) ∧ Rep B3 v1 pr.1 ∧ Rep B3 v2 pr.2 := by
      cases rv' with
      | tup h r =>
        cases r with
        | cons a r =>
          cases r with
          | cons b r =>
            cases r
            exact ⟨_, _, _, rfl, h, a, b⟩
    refine ⟨p0, v1, v2, rfl, .inl (.inl (R3.sub _ _ hp0)), ?_⟩
    have Ri := R3.inner2 fr rv1 rv2
    refine hc (F0 H3) B3 H3 _ _ b.1 b.2 _ Ri c1 fun B4 H4 E4 R4 => ?_
    obtain ⟨eH4, nb4⟩ := inner_ext inner2_nown E4
    have R4o : Rel F B4 H4 σ ρ1 := R3.grow E4.sB eH4 R4.sub nb4 R4.tupB R4.nz
    have nbA : ∀ q, H1 q ≠ none → B1 q = none → B4 q = none := fun q h z => by
      have h2 : H2 q ≠ none := fun y => h (eH.free y)
      have h3 : H3 q ≠ none := fun y => h2 (eH3.free y)
      exact nb4 q h3 (nb3 q h2 (nb q h z))
    cases hb : b.1 with
    | false =>
      rw [hb, if_neg Bool.false_ne_true] at c2
      rw [if_neg Bool.false_ne_true]
      exact ⟨ds.length - (i + 1), by omega, rfl, hlt, B4, done, rest, eB.trans (eB3.trans E4.sB), eH.trans (eH3.trans eH4), nbA, R4o, rp.mono (eB3.trans E4.sB), c2, hdr⟩
    | true =>
      rw [hb, if_pos rfl] at c2
      rw [if_pos rfl]
      obtain ⟨y, c3, c2⟩ := Option.bind_eq_some_iff.mp c2
      obtain ⟨z, c4, c2⟩ := Option.bind_eq_some_iff.mp c2
      obtain ⟨rest', c5, c6⟩ := Option.map_eq_some_iff.mp c2
      subst c6
      have Ri4 := R4o.inner2 fr (rv1.mono E4.sB) (rv2.mono E4.sB)
      refine he.sv (F0 H4) B4 H4 _ _ y.1 y.2 _ Ri4 c3 fun u B5 H5 E5 R5 V5 N5 => ?_
      obtain ⟨eH5, nb5⟩ := inner_ext inner2_nown E5
      have R5o : Rel F B5 H5 σ ρ1 := R4o.grow E5.sB eH5 R5.sub nb5 R5.tupB R5.nz
      rw [asF_eq c4] at V5
      refine ⟨ds.length - (i + 1), by omega, rfl, hlt, B5, done ++ [z], rest', eB.trans (eB3.trans (E4.sB.trans E5.sB)), eH.trans (eH3.trans (eH4.trans eH5)), fun q h w => ?_, R5o, (rp.mono (eB3.trans (E4.sB.trans E5.sB))).append (.cons V5 .nil), c5, by rw [List.append_assoc]; exact hdr⟩
      have h2 : H2 q ≠ none := fun y => h (eH.free y)
      have h3 : H3 q ≠ none := fun y => h2 (eH3.free y)
      have h4 : H4 q ≠ none := fun y => h3 (eH4.free y)
      exact nb5 q h4 (nbA q h w)
  · have hi' : i = ds.length := by omega
    subst hi'
    refine .inl ⟨(I1 H2 eH).1, fun p hp => ?_⟩
    rw [List.drop_length] at hcl
    cases hcl
    rw [List.append_nil] at hdr
    subst hdr
    have E2 : Ext σ ρ1 B1 H1 ρ1 B2 H2 := Ext.grow eB eH nb
    have := res_end (res := (.list done, true)) (k := fun Q => ∀ p, H2 p = none → Q (.ref p) (upd H2 p (.lst ys))) (Q := Q) R2 ⟨ys, rp, fun Q h => h⟩ fun v B' H' E R' V' N => q v B' H' ((E1.trans E2).trans E) R' V' fun p z1 z2 => (E1.trans E2).live p (N p z1 z2)
    exact this p hp
abbrev XM := Rho → Option ((RV × Rho) ⊕ (Str × Rho))
variable {cl : Str → Value}
def mOk (m : XM) : PM := fun ρ => match m ρ with
  | some (.inl x) => some x
  | _ => none
structure MEX (cl : Str → Value) (t : TEX) (m : XM) : Prop where
  ok : ∀ E, ME (t E) (mOk m)
  er : ∀ (F : Fr) (B H : Hp) (σ : St) (ρ : Rho) (c : Str) (ρ' : Rho) (Q : VK) (E : XE), Rel F B H σ ρ → m ρ = some (.inr (c, ρ')) → (∀ B' H', Rel F B' H' σ ρ' → E σ (cl c) H') → t E σ H Q
end
end Mir
set_option Elab.async false
set_option linter.all false
set_option maxRecDepth 100000
namespace L2
open PySem PySem.W PySem.Calls PySem.Spec PyProof.Rows
section
variable {α β : Type}
def GoodT (n : Nat) (R : α → Prop) : KasT α → Prop
  | .ret a => R a
  | .ask i j k => i < n ∧ j < n ∧ ∀ b, GoodT n R (k b)
theorem GoodT.bind {n : Nat} {R : β → Prop} {f : α → KasT β} : ∀ {t : KasT α}, GoodT n (fun a => GoodT n R (f a)) t → GoodT n R (t.bind f)
  | .ret _, h => h
  | .ask _ _ k, h => ⟨h.1, h.2.1, fun b => GoodT.bind (t := k b) (h.2.2 b)⟩
theorem GoodT.mono {n : Nat} {R S : α → Prop} (hs : ∀ a, R a → S a) : ∀ {t : KasT α}, GoodT n R t → GoodT n S t
  | .ret a, h => hs a h
  | .ask _ _ k, h => ⟨h.1, h.2.1, fun b => GoodT.mono hs (t := k b) (h.2.2 b)⟩
end
def PmA (n : Nat) (p : Array Nat) : Prop := p.Perm (List.range n).toArray
theorem PmA.lt {n : Nat} {p : Array Nat} (h : PmA n p) (hn : 0 < n) (k : Nat) : p.getD k 0 < n := by
  by_cases hk : k < p.size
  · have e : p.getD k 0 = p[k] := by simp [Array.getD, hk]
    rw [e]
    have hm : p[k] ∈ p.toList := by simp
    have := (Array.perm_iff_toList_perm.mp h).mem_iff.mp hm
    simpa using this
  · have e : p.getD k 0 = 0 := by simp [Array.getD, hk]
    rw [e]; exact hn
def ltP (a b : Int × Int) : Bool := if a.1 = b.1 then (if a.2 = b.2 then false else decide (a.2 < b.2)) else decide (a.1 < b.1)
def PairAt (h : Heap) (v : Value) (p : Int × Int) : Prop := ∃ a o n t u, v = .ref a ∧ h.get? a = some o ∧ o.cls = .type "tuple" ∧ o.data = .seq #[.int p.1 t, .int p.2 u] n
inductive PairsAt (h : Heap) : List Value → List (Int × Int) → Prop
  | nil : PairsAt h [] []
  | cons {v p vs ps} : PairAt h v p → PairsAt h vs ps → PairsAt h (v :: vs) (p :: ps)
theorem PairsAt.len {h : Heap} {vs : List Value} {ps : List (Int × Int)} (a : PairsAt h vs ps) : vs.length = ps.length := by
  induction a with
  | nil => rfl
  | cons _ _ ih => rw [List.length_cons, List.length_cons, ih]
theorem PairsAt.get {h : Heap} {vs : List Value} {ps : List (Int × Int)} (a : PairsAt h vs ps) : ∀ i, i < vs.length → PairAt h (vs.getD i Value.none) (ps.getD i (0, 0)) := by
  induction a with
  | nil => intro i hi; simp at hi
  | cons b _ ih =>
    intro i hi
    cases i with
    | zero => exact b
    | succ i => simpa using ih i (by simpa using hi)
theorem PairsAt.keep {h h' : Heap} {vs : List Value} {ps : List (Int × Int)} (k : ∀ b o, o.cls = .type "tuple" → h.get? b = some o → h'.get? b = some o) (a : PairsAt h vs ps) : PairsAt h' vs ps := by
  induction a with
  | nil => exact .nil
  | cons b _ ih => obtain ⟨a, o, n, t, u, h1, h2, h3, h4⟩ := b; exact .cons ⟨a, o, n, t, u, h1, k _ _ h3 h2, h3, h4⟩ ih
theorem PairsAt.tups {h : Heap} {vs : List Value} {ps : List (Int × Int)} (a : PairsAt h vs ps) : ∃ fs, KatTups h vs fs ∧ fs.length = ps.length ∧ ∀ v ∈ fs, ∃ i t, v = .int i t := by
  induction a with
  | nil => exact ⟨[], KatTups.nil, rfl, fun v hv => by cases hv⟩
  | cons b _ ih =>
    obtain ⟨fs, h1, h2, h3⟩ := ih
    obtain ⟨a, o, n, t, u, rfl, ho, hc, hd⟩ := b
    refine ⟨_ :: fs, KatTups.cons ho hc hd (by rfl) h1, by rw [List.length_cons, List.length_cons, h2], fun v hv => ?_⟩
    rcases List.mem_cons.mp hv with rfl | hv
    · exact ⟨_, _, rfl⟩
    · exact h3 v hv
section
variable {prog : Program} {w : World} {A : Around} {E : Value → Shared → Prop} {s : Shared}
theorem pair_lt {x y : Value} {p q : Int × Int} {C : Bool → Shared → Prop} (hx : PairAt s.heap x p) (hy : PairAt s.heap y q) (h : C (ltP p q) s) : wpAny (model prog w) A (keyLt' (tuples' true) x y) C E s := by
  obtain ⟨a, o, n, t, u, rfl, h1, h2, h3⟩ := hx
  obtain ⟨a', o', n', t', u', rfl, h1', h2', h3'⟩ := hy
  refine kat_lt h1 h3 h1' h3' ?_
  show KatLex prog w A true _ C [(.int p.1 t, .int q.1 t'), (.int p.2 u, .int q.2 u')] 0 s
  unfold ltP at h
  refine kat_cons (wpAny_eqBool_int ?_)
  by_cases e : p.1 = q.1
  · rw [if_pos e] at h
    rw [show (p.1 == q.1) = true from by simpa using e]
    refine kat_yes (kat_cons (wpAny_eqBool_int ?_))
    by_cases e2 : p.2 = q.2
    · rw [if_pos e2] at h
      rw [show (p.2 == q.2) = true from by simpa using e2]
      exact kat_yes (kat_nil h)
    · rw [if_neg e2] at h
      rw [show (p.2 == q.2) = false from by simpa using e2]
      exact kat_no (kat_one _ _ (lt_int h))
  · rw [if_neg e] at h
    rw [show (p.1 == q.1) = false from by simpa using e]
    exact kat_no (oneLt_int h)
end
def PairV (H : Hp) (y : V) (p : Int × Int) : Prop := ∃ a, y = .ref a ∧ H a = some (.tup [.int p.1, .int p.2])
inductive PairVs (H : Hp) : List V → List (Int × Int) → Prop
  | nil : PairVs H [] []
  | cons {v p vs ps} : PairV H v p → PairVs H vs ps → PairVs H (v :: vs) (p :: ps)
theorem Vals.getD : ∀ {ys : List V} {us : List Value}, Vals ys us → ∀ i, RelV (ys.getD i .non) (us.getD i Value.none)
  | _, _, .nil, i => by simp [RelV]
  | _, _, .cons r t, i => by
    cases i with
    | zero => exact r
    | succ i => exact Vals.getD t i
theorem Vals.pick {ys : List V} {us : List Value} (h : Vals ys us) : ∀ l : List Nat, Vals (l.map fun i => ys.getD i .non) (l.map fun i => us.getD i Value.none)
  | [] => .nil
  | i :: l => .cons (h.getD i) (h.pick l)
section
variable {X : Cx}
end
end L2
namespace Mir
open PySem L2
section
variable [Zc]
def pairsOf : List D → Option (List (Int × Int))
  | [] => some []
  | .tuple [.int a, .int b] :: ds => (pairsOf ds).map ((a, b) :: ·)
  | _ => none
theorem Reps.pairs {B H : Hp} (s : Same B H) : ∀ {vs : List V} {ds : List D} {ps : List (Int × Int)}, Reps B vs ds → pairsOf ds = some ps → PairVs H vs ps
  | _, _, _, .nil, e => by cases e; exact .nil
  | _, _, _, .cons (ds := ds) r t, e => by
    unfold pairsOf at e
    split at e
    · rename_i h; cases h
    · rename_i h
      cases h
      obtain ⟨qs, e1, rfl⟩ := Option.map_eq_some_iff.mp e
      refine .cons ?_ (Reps.pairs s t e1)
      cases r with
      | tup ha rr =>
        cases rr with
        | cons r1 rr =>
          cases rr with
          | cons r2 rr =>
            cases rr
            cases r1
            cases r2
            exact ⟨_, rfl, s _ _ ha⟩
    · cases e
theorem Reps.getD {B : Hp} : ∀ {vs : List V} {ds : List D}, Reps B vs ds → ∀ i, Rep B (vs.getD i .non) (ds.getD i .none)
  | _, _, .nil, i => by simp; exact .non
  | _, _, .cons r t, i => by
    cases i with
    | zero => exact r
    | succ i => exact Reps.getD t i
theorem Reps.pick {B : Hp} {vs : List V} {ds : List D} (h : Reps B vs ds) : ∀ l : List Nat, Reps B (l.map fun i => vs.getD i .non) (l.map fun i => ds.getD i .none)
  | [] => .nil
  | i :: l => .cons (h.getD i) (h.pick l)
def pD (p : Int × Int) : D := .tuple [.int p.1, .int p.2]
theorem pairsOf_map : ∀ ps : List (Int × Int), pairsOf (ps.map pD) = some ps
  | [] => rfl
  | p :: ps => by
    show (pairsOf (ps.map pD)).map ((p.1, p.2) :: ·) = _
    rw [pairsOf_map ps]; rfl
end
end Mir
set_option Elab.async false
set_option linter.all false
set_option maxRecDepth 100000
namespace L2
open PySem PySem.W PySem.Calls PySem.Spec PyProof.Rows
def gallop' : Bool → Keyed → Array Keyed → Nat → Nat → Nat → StateT SortSt Sem (Option Nat) := sortPriv% PySem.Builtin.gallop
def setMinGallop' : Nat → StateT SortSt Sem Unit := sortPriv% PySem.Builtin.setMinGallop
def mergeLo' : Array Keyed → Array Keyed → StateT SortSt Sem (Array Keyed) := sortPriv% PySem.Builtin.mergeLo
def mergeHi' : Array Keyed → Array Keyed → StateT SortSt Sem (Array Keyed) := sortPriv% PySem.Builtin.mergeHi
def beyond' (left : Bool) (key : Keyed) (arr : Array Keyed) (base : Nat) (i : Nat) : StateT SortSt Sem (Option Bool) := do
  let x ← elem' arr (base + i)
  if left then lt' x key else return (← lt' key x).map (!·)
theorem gallop'_eq (left : Bool) (key : Keyed) (arr : Array Keyed) (base n hint : Nat) : gallop' left key arr base n hint = (do
  let mut lastofs := 0
  let mut ofs := 1
  let mut lo := 0
  let mut hi := 0
  let some right ← beyond' left key arr base hint | return none
  if right then
    let maxofs := n - hint
    for _ in [0:n] do
      if ofs ≥ maxofs then break
      let some more ← beyond' left key arr base (hint + ofs) | return none
      if !more then break
      lastofs := ofs
      ofs := 2 * ofs + 1
    lo := hint + lastofs + 1
    hi := hint + min ofs maxofs
  else
    let maxofs := hint + 1
    for _ in [0:n] do
      if ofs ≥ maxofs then break
      let some found ← beyond' left key arr base (hint - ofs) | return none
      if found then break
      lastofs := ofs
      ofs := 2 * ofs + 1
    lo := hint + 1 - min ofs maxofs
    hi := hint - lastofs
  for _ in [0:n] do
    if lo ≥ hi then break
    let m := lo + (hi - lo) / 2
    let some more ← beyond' left key arr base m | return none
    if more then lo := m + 1 else hi := m
  return some hi) := rfl
section
variable {prog : Program} {w : World} {A : Around} {E : Value → Shared → Prop} {s : Shared}
structure Cmp (prog : Program) (w : World) (A : Around) (E : Value → Shared → Prop) (s : Shared) (κ : SortKind) (S : Keyed → Prop) (lt : Keyed → Keyed → Bool) : Prop where
  ask : ∀ x y, S x → S y → ∀ Q : Bool → Shared → Prop, Q (lt x y) s → wpAny (model prog w) A (keyLt' κ x.1 y.1) Q (fun _ _ => False) s
  irr : ∀ x, lt x x = false
  asy : ∀ x y, lt x y = true → lt y x = false
  neg : ∀ x y z, lt x y = true → lt x z = true ∨ lt z y = true
variable {κ : SortKind} {S : Keyed → Prop} {lt : Keyed → Keyed → Bool}
theorem wpS_lt (C : Cmp prog w A E s κ S lt) {st : SortSt} (hk : kindOf st = κ) {x y : Keyed} (hx : S x) (hy : S y) {Q : Option Bool → SortSt → Prop} (h : Q (some (lt x y)) st) : wpS (model prog w) A E s (lt' x y) Q st := by
  rw [lt'_eq]
  refine wpS_bind (wpS_get ?_)
  rw [hk]
  refine wpS_bind (wpS_lift (wpAny_attempt (wpAny_mono (C.ask x y hx hy (fun b s' => s' = s ∧ b = lt x y) ⟨rfl, rfl⟩) (fun b s' hb => ?_) fun _ _ f => f.elim)))
  obtain ⟨rfl, rfl⟩ := hb
  exact ⟨rfl, wpS_pure h⟩
theorem wpS_elem {st : SortSt} {arr : Array Keyed} {i : Nat} {x : Keyed} (hi : arr[i]? = some x) {Q : Keyed → SortSt → Prop} (h : Q x st) : wpS (model prog w) A E s (elem' arr i) Q st := by
  rw [elem'_eq, hi]; exact wpS_pure h
def bey (lt : Keyed → Keyed → Bool) (left : Bool) (key x : Keyed) : Bool := if left then lt x key else !lt key x
theorem wpS_beyond (C : Cmp prog w A E s κ S lt) {st : SortSt} (hk : kindOf st = κ) {left : Bool} {key : Keyed} {arr : Array Keyed} {base i : Nat} {x : Keyed} (hi : arr[base + i]? = some x) (hx : S x) (hy : S key) {Q : Option Bool → SortSt → Prop} (h : Q (some (bey lt left key x)) st) : wpS (model prog w) A E s (beyond' left key arr base i) Q st := by
  unfold beyond'
  refine wpS_bind (wpS_elem hi ?_)
  unfold bey at h
  cases left with
  | true => exact wpS_lt C hk hx hy h
  | false => exact wpS_bind (wpS_lt C hk hy hx (wpS_pure h))
theorem wpS_gallop (C : Cmp prog w A E s κ S lt) {st : SortSt} (hk : kindOf st = κ) {left : Bool} {key : Keyed} {arr : Array Keyed} {base n hint : Nat} (f : Nat → Keyed) (hf : ∀ i, i < n → arr[base + i]? = some (f i) ∧ S (f i)) (hy : S key) (hh : hint < n) (mono : ∀ i j, i ≤ j → j < n → bey lt left key (f j) = true → bey lt left key (f i) = true)
    {Q : Option Nat → SortSt → Prop} (h : ∀ k, k ≤ n → (∀ i, i < k → bey lt left key (f i) = true) → (∀ i, k ≤ i → i < n → bey lt left key (f i) = false) → Q (some k) st) : wpS (model prog w) A E s (gallop' left key arr base n hint) Q st := by
  have fin : ∀ lo hi : Nat, lo ≤ hi → hi ≤ n → (∀ i, i < lo → bey lt left key (f i) = true) → (∀ i, hi ≤ i → i < n → bey lt left key (f i) = false) → wpS (model prog w) A E s (do
      let mut lo := lo
      let mut hi := hi
      for _ in [0:n] do
        if lo ≥ hi then break
        let m := lo + (hi - lo) / 2
        let some more ← beyond' left key arr base m | return none
        if more then lo := m + 1 else hi := m
      return some hi) Q st := fun lo hi h1 h2 h3 h4 => by
    refine wpS_bind (wpS_forRange (fun i c st' => st' = st ∧ c.1 = none ∧ c.2.1 ≤ c.2.2 ∧ c.2.2 ≤ n ∧ c.2.2 - c.2.1 ≤ n - i ∧ (∀ i, i < c.2.1 → bey lt left key (f i) = true) ∧ (∀ i, c.2.2 ≤ i → i < n → bey lt left key (f i) = false)) ?_ ?_ ⟨rfl, rfl, h1, h2, by show hi - lo ≤ n - 0; omega, h3, h4⟩)
    · rintro i ⟨r, l, u⟩ st' _ hin ⟨rfl, rfl, g1, g2, g3, g4, g5⟩
      dsimp only at g1 g2 g3 g4 g5 ⊢
      by_cases e : l ≥ u
      · rw [if_pos e]
        have : l = u := by omega
        subst this
        exact wpS_pure (wpS_pure (h l g2 g4 g5))
      · rw [if_neg e]
        have hm : l + (u - l) / 2 < n := by omega
        obtain ⟨q1, q2⟩ := hf (l + (u - l) / 2) hm
        refine wpS_bind (wpS_beyond C hk q1 q2 hy ?_)
        dsimp only
        cases eb : bey lt left key (f (l + (u - l) / 2)) with
        | true =>
          rw [if_pos rfl]
          exact wpS_pure ⟨rfl, rfl, by show l + (u - l) / 2 + 1 ≤ u; omega, g2, by show u - (l + (u - l) / 2 + 1) ≤ n - (i + 1); omega, fun k hk' => mono k (l + (u - l) / 2) (by have hk2 : k < l + (u - l) / 2 + 1 := hk'; omega) hm eb, g5⟩
        | false =>
          rw [if_neg (by simp)]
          refine wpS_pure ⟨rfl, rfl, by show l ≤ l + (u - l) / 2; omega, by show l + (u - l) / 2 ≤ n; omega, by show l + (u - l) / 2 - l ≤ n - (i + 1); omega, g4, fun k hk1 hk2 => ?_⟩
          cases ek : bey lt left key (f k) with
          | false => rfl
          | true => rw [mono (l + (u - l) / 2) k hk1 hk2 ek] at eb; cases eb
    · rintro ⟨r, l, u⟩ st' ⟨rfl, rfl, g1, g2, g3, g4, g5⟩
      dsimp only at g1 g2 g3 g4 g5 ⊢
      have : l = u := by simp at g3; omega
      subst this
      exact wpS_pure (h l g2 g4 g5)
  rw [gallop'_eq]
  obtain ⟨q1, q2⟩ := hf hint hh
  refine wpS_bind (wpS_beyond C hk q1 q2 hy ?_)
  dsimp only
  cases eb : bey lt left key (f hint) with
  | true =>
    rw [if_pos rfl]
    refine wpS_bind (wpS_mono (wpS_forRange (fun i c st' => st' = st ∧ c.1 = none ∧ c.2.1 < c.2.2 ∧ i < c.2.2 ∧ hint + c.2.1 < n ∧ bey lt left key (f (hint + c.2.1)) = true) (Q := fun c st' => st' = st ∧ c.1 = none ∧ c.2.1 < c.2.2 ∧ hint + c.2.1 < n ∧ bey lt left key (f (hint + c.2.1)) = true ∧ (c.2.2 < n - hint → bey lt left key (f (hint + c.2.2)) = false)) ?_ ?_ ?_) ?_)
    rotate_left 2
    · exact ⟨rfl, rfl, by decide, by decide, hh, eb⟩
    rotate_left 1
    · rintro i ⟨r, l, u⟩ st' _ hin ⟨rfl, rfl, g1, g2, g3, g4⟩
      dsimp only at g1 g2 g3 g4 ⊢
      by_cases e : u ≥ n - hint
      · rw [if_pos e]
        exact wpS_pure ⟨rfl, rfl, g1, g3, g4, fun z => absurd z (by show ¬ u < n - hint; omega)⟩
      · rw [if_neg e]
        obtain ⟨q1, q2⟩ := hf (hint + u) (by omega)
        refine wpS_bind (wpS_beyond C hk q1 q2 hy ?_)
        dsimp only
        cases ec : bey lt left key (f (hint + u)) with
        | true =>
          rw [if_neg (by simp)]
          exact wpS_pure ⟨rfl, rfl, by show u < 2 * u + 1; omega, by show i + 1 < 2 * u + 1; omega, by show hint + u < n; omega, ec⟩
        | false =>
          rw [if_pos (by simp)]
          exact wpS_pure ⟨rfl, rfl, g1, g3, g4, fun _ => ec⟩
    · rintro ⟨r, l, u⟩ st' ⟨rfl, rfl, g1, g2, g3, g4⟩
      exact ⟨rfl, rfl, g1, g3, g4, fun z => by exfalso; simp at g2; dsimp only at z; omega⟩
    · rintro ⟨r, l, u⟩ st' ⟨rfl, rfl, g1, g3, g4, g5⟩
      dsimp only at g1 g3 g4 g5 ⊢
      refine fin (hint + l + 1) (hint + min u (n - hint)) (by omega) (by omega) (fun i hi => mono i (hint + l) (by omega) g3 g4) fun i hi1 hi2 => ?_
      have hu : u < n - hint := by omega
      cases ei : bey lt left key (f i) with
      | false => rfl
      | true => have := mono (hint + u) i (by omega) hi2 ei; rw [g5 hu] at this; cases this
  | false =>
    rw [if_neg (by simp)]
    refine wpS_bind (wpS_mono (wpS_forRange (fun i c st' => st' = st ∧ c.1 = none ∧ c.2.1 < c.2.2 ∧ i < c.2.2 ∧ c.2.1 ≤ hint ∧ bey lt left key (f (hint - c.2.1)) = false) (Q := fun c st' => st' = st ∧ c.1 = none ∧ c.2.1 < c.2.2 ∧ c.2.1 ≤ hint ∧ bey lt left key (f (hint - c.2.1)) = false ∧ (c.2.2 < hint + 1 → bey lt left key (f (hint - c.2.2)) = true)) ?_ ?_ ?_) ?_)
    rotate_left 2
    · exact ⟨rfl, rfl, by decide, by decide, Nat.zero_le _, eb⟩
    rotate_left 1
    · rintro i ⟨r, l, u⟩ st' _ hin ⟨rfl, rfl, g1, g2, g3, g4⟩
      dsimp only at g1 g2 g3 g4 ⊢
      by_cases e : u ≥ hint + 1
      · rw [if_pos e]
        exact wpS_pure ⟨rfl, rfl, g1, g3, g4, fun z => absurd z (by show ¬ u < hint + 1; omega)⟩
      · rw [if_neg e]
        obtain ⟨q1, q2⟩ := hf (hint - u) (by omega)
        refine wpS_bind (wpS_beyond C hk q1 q2 hy ?_)
        dsimp only
        cases ec : bey lt left key (f (hint - u)) with
        | true =>
          rw [if_pos rfl]
          exact wpS_pure ⟨rfl, rfl, g1, g3, g4, fun _ => ec⟩
        | false =>
          rw [if_neg (by simp)]
          exact wpS_pure ⟨rfl, rfl, by show u < 2 * u + 1; omega, by show i + 1 < 2 * u + 1; omega, by show u ≤ hint; omega, ec⟩
    · rintro ⟨r, l, u⟩ st' ⟨rfl, rfl, g1, g2, g3, g4⟩
      exact ⟨rfl, rfl, g1, g3, g4, fun z => by exfalso; simp at g2; dsimp only at z; omega⟩
    · rintro ⟨r, l, u⟩ st' ⟨rfl, rfl, g1, g3, g4, g5⟩
      dsimp only at g1 g3 g4 g5 ⊢
      refine fin (hint + 1 - min u (hint + 1)) (hint - l) (by omega) (by omega) (fun i hi => mono i (hint - u) (by omega) (by omega) (g5 (by omega))) fun i hi1 hi2 => ?_
      cases ei : bey lt left key (f i) with
      | false => rfl
      | true => have := mono (hint - l) i (by omega) hi2 ei; rw [g4] at this; cases this
end
end L2
set_option Elab.async false
set_option linter.all false
set_option maxRecDepth 100000
namespace L2
open PySem PySem.W PySem.Calls PySem.Spec PyProof.Rows
theorem mergeLo'_eq (a b : Array Keyed) : mergeLo' a b = (do
  rule "list.sort.merge-lo"
  let total := a.size + b.size
  let done (out : Array Keyed) (ia ib : Nat) := out ++ a.extract ia a.size ++ b.extract ib b.size
  let lastOfA (out : Array Keyed) (ia ib : Nat) := out ++ b.extract ib b.size ++ a.extract ia a.size
  let mut out : Array Keyed := #[← elem' b 0]
  let mut ia := 0
  let mut ib := 1
  if ib == b.size then return done out ia ib
  if ia + 1 == a.size then return lastOfA out ia ib
  let mut minGallop := gallopOf (← get)
  for _ in [0:total] do
    let mut acount := 0
    let mut bcount := 0
    for _ in [0:total] do
      let some bWins ← lt' (← elem' b ib) (← elem' a ia) | return done out ia ib
      if bWins then
        out := out.push (← elem' b ib); ib := ib + 1; bcount := bcount + 1; acount := 0
        if ib == b.size then return done out ia ib
        if bcount ≥ minGallop then break
      else
        out := out.push (← elem' a ia); ia := ia + 1; acount := acount + 1; bcount := 0
        if ia + 1 == a.size then return lastOfA out ia ib
        if acount ≥ minGallop then break
    rule "list.sort.gallop"
    minGallop := minGallop + 1
    for _ in [0:total] do
      if minGallop > 1 then minGallop := minGallop - 1
      setMinGallop' minGallop
      let some k ← gallop' false (← elem' b ib) a ia (a.size - ia) 0 | return done out ia ib
      acount := k
      if k > 0 then
        out := out ++ a.extract ia (ia + k); ia := ia + k
        if ia + 1 == a.size then return lastOfA out ia ib
        if ia == a.size then return done out ia ib
      out := out.push (← elem' b ib); ib := ib + 1
      if ib == b.size then return done out ia ib
      let some k ← gallop' true (← elem' a ia) b ib (b.size - ib) 0 | return done out ia ib
      bcount := k
      if k > 0 then
        out := out ++ b.extract ib (ib + k); ib := ib + k
        if ib == b.size then return done out ia ib
      out := out.push (← elem' a ia); ia := ia + 1
      if ia + 1 == a.size then return lastOfA out ia ib
      if acount < 7 && bcount < 7 then break
    minGallop := minGallop + 1
    setMinGallop' minGallop
  unsupported "internal:list.sort.merge-bound") := rfl
theorem mergeHi'_eq (a b : Array Keyed) : mergeHi' a b = (do
  rule "list.sort.merge-hi"
  let total := a.size + b.size
  let done (out : Array Keyed) (na nb : Nat) := a.extract 0 na ++ b.extract 0 nb ++ out.reverse
  let firstOfB (out : Array Keyed) (na nb : Nat) := b.extract 0 nb ++ a.extract 0 na ++ out.reverse
  let mut na := a.size - 1
  let mut nb := b.size
  let mut out : Array Keyed := #[← elem' a na]
  if na == 0 then return done out na nb
  if nb == 1 then return firstOfB out na nb
  let mut minGallop := gallopOf (← get)
  for _ in [0:total] do
    let mut acount := 0
    let mut bcount := 0
    for _ in [0:total] do
      let some aWins ← lt' (← elem' b (nb - 1)) (← elem' a (na - 1)) | return done out na nb
      if aWins then
        na := na - 1; out := out.push (← elem' a na); acount := acount + 1; bcount := 0
        if na == 0 then return done out na nb
        if acount ≥ minGallop then break
      else
        nb := nb - 1; out := out.push (← elem' b nb); bcount := bcount + 1; acount := 0
        if nb == 1 then return firstOfB out na nb
        if bcount ≥ minGallop then break
    rule "list.sort.gallop"
    minGallop := minGallop + 1
    for _ in [0:total] do
      if minGallop > 1 then minGallop := minGallop - 1
      setMinGallop' minGallop
      let some at_ ← gallop' false (← elem' b (nb - 1)) a 0 na (na - 1) | return done out na nb
      let k := na - at_
      acount := k
      if k > 0 then
        out := out ++ (a.extract at_ na).reverse; na := at_
        if na == 0 then return done out na nb
      nb := nb - 1; out := out.push (← elem' b nb)
      if nb == 1 then return firstOfB out na nb
      let some at_ ← gallop' true (← elem' a (na - 1)) b 0 nb (nb - 1) | return done out na nb
      let k := nb - at_
      bcount := k
      if k > 0 then
        out := out ++ (b.extract at_ nb).reverse; nb := at_
        if nb == 1 then return firstOfB out na nb
        if nb == 0 then return done out na nb
      na := na - 1; out := out.push (← elem' a na)
      if na == 0 then return done out na nb
      if acount < 7 && bcount < 7 then break
    minGallop := minGallop + 1
    setMinGallop' minGallop
  unsupported "internal:list.sort.merge-bound") := rfl
def SG (st st' : SortSt) : Prop := kindOf st' = kindOf st ∧ arrOf st' = arrOf st ∧ pendingOf st' = pendingOf st ∧ failedOf st' = failedOf st
theorem SG.refl (st : SortSt) : SG st st := ⟨rfl, rfl, rfl, rfl⟩
section
variable (lt : Keyed → Keyed → Bool)
def leK (x y : Keyed) : Prop := lt y x = false
structure MI (a b : Array Keyed) (out : Array Keyed) (ia ib : Nat) : Prop where
  perm : (out.toList ++ (a.toList.drop ia ++ b.toList.drop ib)).Perm (a.toList ++ b.toList)
  srt : out.toList.Pairwise (leK lt)
  low : ∀ x ∈ out.toList, ∀ y ∈ a.toList.drop ia ++ b.toList.drop ib, leK lt x y
end
variable {lt : Keyed → Keyed → Bool} {a b out : Array Keyed} {ia ib : Nat}
theorem drop_at {l : List Keyed} {i : Nat} {x : Keyed} (h : l[i]? = some x) : l.drop i = x :: l.drop (i + 1) := by
  obtain ⟨hi, e⟩ := List.getElem?_eq_some_iff.mp h
  rw [← e]; exact List.drop_eq_getElem_cons hi
theorem MI.pushA (h : MI lt a b out ia ib) {x : Keyed} (hx : a.toList[ia]? = some x) (hl : ∀ y ∈ a.toList.drop (ia + 1) ++ b.toList.drop ib, leK lt x y) : MI lt a b (out.push x) (ia + 1) ib := by
  have e := drop_at hx
  refine ⟨?_, ?_, fun z hz y hy => ?_⟩
  · have := h.perm
    rw [e] at this
    rw [Array.toList_push]
    simpa using this
  · rw [Array.toList_push, List.pairwise_append]
    refine ⟨h.srt, by simp, fun z hz y hy => ?_⟩
    rw [List.mem_singleton.mp hy]
    exact h.low z hz x (by rw [e]; simp)
  · rw [Array.toList_push] at hz
    rcases List.mem_append.mp hz with hz | hz
    · refine h.low z hz y ?_
      rw [e]
      rcases List.mem_append.mp hy with hy | hy
      · simp [hy]
      · simp [hy]
    · rw [List.mem_singleton.mp hz]; exact hl y hy
theorem MI.pushB (h : MI lt a b out ia ib) {x : Keyed} (hx : b.toList[ib]? = some x) (hl : ∀ y ∈ a.toList.drop ia ++ b.toList.drop (ib + 1), leK lt x y) : MI lt a b (out.push x) ia (ib + 1) := by
  have e := drop_at hx
  refine ⟨?_, ?_, fun z hz y hy => ?_⟩
  · have := h.perm
    rw [e] at this
    rw [Array.toList_push]
    refine List.Perm.trans ?_ this
    rw [List.append_assoc]
    refine List.Perm.append_left _ ?_
    simpa using (List.perm_middle (l₁ := a.toList.drop ia) (l₂ := b.toList.drop (ib + 1)) (a := x)).symm
  · rw [Array.toList_push, List.pairwise_append]
    refine ⟨h.srt, by simp, fun z hz y hy => ?_⟩
    rw [List.mem_singleton.mp hy]
    exact h.low z hz x (by rw [e]; simp)
  · rw [Array.toList_push] at hz
    rcases List.mem_append.mp hz with hz | hz
    · refine h.low z hz y ?_
      rw [e]
      rcases List.mem_append.mp hy with hy | hy
      · simp [hy]
      · simp [hy]
    · rw [List.mem_singleton.mp hz]; exact hl y hy
structure Ord (lt : Keyed → Keyed → Bool) : Prop where
  irr : ∀ x, lt x x = false
  asy : ∀ x y, lt x y = true → lt y x = false
  neg : ∀ x y z, lt x y = true → lt x z = true ∨ lt z y = true
theorem Ord.trans (O : Ord lt) {x y z : Keyed} (h1 : leK lt x y) (h2 : leK lt y z) : leK lt x z := by
  unfold leK at *
  cases e : lt z x with
  | false => rfl
  | true =>
    rcases O.neg z x y e with q | q
    · rw [h2] at q; cases q
    · rw [h1] at q; cases q
theorem Ord.le_of (O : Ord lt) {x y : Keyed} (h : lt x y = true) : leK lt x y := O.asy x y h
theorem Ord.le_refl (O : Ord lt) (x : Keyed) : leK lt x x := O.irr x
theorem head_le (O : Ord lt) {l : List Keyed} (hs : l.Pairwise (leK lt)) {i : Nat} {x : Keyed} (hx : l[i]? = some x) : ∀ y ∈ l.drop i, leK lt x y := fun y hy => by
  have := hs.sublist (List.drop_sublist i l)
  rw [drop_at hx] at this hy
  rcases List.mem_cons.mp hy with rfl | hy
  · exact O.le_refl _
  · exact (List.pairwise_cons.mp this).1 y hy
theorem MI.takeA (O : Ord lt) (ha : a.toList.Pairwise (leK lt)) (hb : b.toList.Pairwise (leK lt)) (h : MI lt a b out ia ib) {x y : Keyed} (hx : a.toList[ia]? = some x) (hy : b.toList[ib]? = some y) (hl : leK lt x y) : MI lt a b (out.push x) (ia + 1) ib := h.pushA hx fun z hz => by
  rcases List.mem_append.mp hz with hz | hz
  · exact head_le O ha hx z (by rw [drop_at hx]; exact List.mem_cons_of_mem _ hz)
  · exact O.trans hl (head_le O hb hy z hz)
theorem MI.takeB (O : Ord lt) (ha : a.toList.Pairwise (leK lt)) (hb : b.toList.Pairwise (leK lt)) (h : MI lt a b out ia ib) {x y : Keyed} (hx : a.toList[ia]? = some x) (hy : b.toList[ib]? = some y) (hl : leK lt y x) : MI lt a b (out.push y) ia (ib + 1) := h.pushB hy fun z hz => by
  rcases List.mem_append.mp hz with hz | hz
  · exact O.trans hl (head_le O ha hx z hz)
  · exact head_le O hb hy z (by rw [drop_at hy]; exact List.mem_cons_of_mem _ hz)
theorem ext_succ (c : Array Keyed) (i k : Nat) {x : Keyed} (h : c.toList[i + k]? = some x) : c.extract i (i + (k + 1)) = (c.extract i (i + k)).push x := by
  apply Array.toList_inj.mp
  rw [Array.toList_push, Array.toList_extract, Array.toList_extract]
  have e1 : i + (k + 1) - i = k + 1 := by omega
  have e2 : i + k - i = k := by omega
  rw [List.extract_eq_drop_take, List.extract_eq_drop_take, e1, e2, List.take_add_one]
  rw [List.getElem?_drop, h]; rfl
theorem MI.takesA (O : Ord lt) (ha : a.toList.Pairwise (leK lt)) (hb : b.toList.Pairwise (leK lt)) (h : MI lt a b out ia ib) {y : Keyed} (hy : b.toList[ib]? = some y) : ∀ k : Nat, ia + k ≤ a.size → (∀ i x, i < k → a.toList[ia + i]? = some x → leK lt x y) → MI lt a b (out ++ a.extract ia (ia + k)) (ia + k) ib
  | 0, _, _ => by
    have : a.extract ia (ia + 0) = #[] := by simp; omega
    rw [this, Array.append_empty]; exact h
  | k + 1, hk, hl => by
    have ih := MI.takesA O ha hb h hy k (by omega) fun i x hi => hl i x (by omega)
    have hx : a.toList[ia + k]? = some a[ia + k] := by rw [Array.getElem?_toList]; exact Array.getElem?_eq_getElem (by omega)
    rw [ext_succ a ia k hx, Array.append_push]
    exact ih.takeA O ha hb hx hy (hl k _ (by omega) hx)
theorem MI.takesB (O : Ord lt) (ha : a.toList.Pairwise (leK lt)) (hb : b.toList.Pairwise (leK lt)) (h : MI lt a b out ia ib) {x : Keyed} (hx : a.toList[ia]? = some x) : ∀ k : Nat, ib + k ≤ b.size → (∀ i y, i < k → b.toList[ib + i]? = some y → leK lt y x) → MI lt a b (out ++ b.extract ib (ib + k)) ia (ib + k)
  | 0, _, _ => by
    have : b.extract ib (ib + 0) = #[] := by simp; omega
    rw [this, Array.append_empty]; exact h
  | k + 1, hk, hl => by
    have ih := MI.takesB O ha hb h hx k (by omega) fun i x hi => hl i x (by omega)
    have hy : b.toList[ib + k]? = some b[ib + k] := by rw [Array.getElem?_toList]; exact Array.getElem?_eq_getElem (by omega)
    rw [ext_succ b ib k hy, Array.append_push]
    exact ih.takeB O ha hb hx hy (hl k _ (by omega) hy)
structure Mgd (lt : Keyed → Keyed → Bool) (a b out : Array Keyed) : Prop where
  perm : out.toList.Perm (a.toList ++ b.toList)
  srt : out.toList.Pairwise (leK lt)
theorem ext_to (c : Array Keyed) (i : Nat) : (c.extract i c.size).toList = c.toList.drop i := by
  rw [Array.toList_extract, List.extract_eq_drop_take]
  exact List.take_of_length_le (by simp)
theorem MI.done (O : Ord lt) (ha : a.toList.Pairwise (leK lt)) (hb : b.toList.Pairwise (leK lt)) (h : MI lt a b out ia ib) (he : a.size ≤ ia ∨ b.size ≤ ib) : Mgd lt a b (out ++ a.extract ia a.size ++ b.extract ib b.size) := by
  have e : (out ++ a.extract ia a.size ++ b.extract ib b.size).toList = out.toList ++ (a.toList.drop ia ++ b.toList.drop ib) := by
    rw [Array.toList_append, Array.toList_append, ext_to, ext_to, List.append_assoc]
  refine ⟨by rw [e]; exact h.perm, ?_⟩
  rw [e, List.pairwise_append]
  refine ⟨h.srt, ?_, h.low⟩
  rcases he with he | he
  · rw [List.drop_of_length_le (by simpa using he), List.nil_append]; exact hb.sublist (List.drop_sublist _ _)
  · rw [List.drop_of_length_le (l := b.toList) (by simpa using he), List.append_nil]; exact ha.sublist (List.drop_sublist _ _)
theorem MI.last (O : Ord lt) (ha : a.toList.Pairwise (leK lt)) (hb : b.toList.Pairwise (leK lt)) (h : MI lt a b out ia ib) {z : Keyed} (hz : a.toList.drop ia = [z]) (hl : ∀ y ∈ b.toList, leK lt y z) : Mgd lt a b (out ++ b.extract ib b.size ++ a.extract ia a.size) := by
  have e : (out ++ b.extract ib b.size ++ a.extract ia a.size).toList = out.toList ++ (b.toList.drop ib ++ a.toList.drop ia) := by
    rw [Array.toList_append, Array.toList_append, ext_to, ext_to, List.append_assoc]
  refine ⟨by rw [e]; exact (List.Perm.append_left _ List.perm_append_comm).trans h.perm, ?_⟩
  rw [e, List.pairwise_append]
  refine ⟨h.srt, ?_, fun x hx y hy => h.low x hx y (List.perm_append_comm.mem_iff.mp hy)⟩
  rw [hz, List.pairwise_append]
  exact ⟨hb.sublist (List.drop_sublist _ _), by simp, fun x hx y hy => by rw [List.mem_singleton.mp hy]; exact hl x (List.mem_of_mem_drop hx)⟩
end L2
set_option Elab.async false
set_option linter.all false
set_option maxRecDepth 100000
namespace L2
open PySem PySem.W PySem.Calls PySem.Spec PyProof.Rows
section
variable {prog : Program} {w : World} {A : Around} {E : Value → Shared → Prop} {s : Shared} {κ : SortKind} {S : Keyed → Prop} {lt : Keyed → Keyed → Bool}
theorem Cmp.ord (C : Cmp prog w A E s κ S lt) : Ord lt := ⟨C.irr, C.asy, C.neg⟩
theorem wpS_rule {st : SortSt} {x : String} {Q : Unit → SortSt → Prop} (h : Q () st) : wpS (model prog w) A E s (liftM (rule x) : StateT SortSt Sem Unit) Q st := wpS_lift (wpAny_rule ⟨rfl, h⟩)
theorem wpS_setG {st : SortSt} {g : Nat} {Q : Unit → SortSt → Prop} (h : Q () (SortSt.mk' (kindOf st) (arrOf st) (pendingOf st) g (failedOf st))) : wpS (model prog w) A E s (setMinGallop' g) Q st := wpS_modify h
theorem at_list {c : Array Keyed} {i : Nat} (h : i < c.size) : c.toList[i]? = some c[i] := by rw [Array.getElem?_toList]; exact Array.getElem?_eq_getElem h
theorem le_at {c : Array Keyed} (hs : c.toList.Pairwise (leK lt)) {i j : Nat} (hij : i ≤ j) (hj : j < c.size) (O : Ord lt) : leK lt (c[i]'(by omega)) c[j] := by
  rcases Nat.lt_or_eq_of_le hij with h | h
  · have := List.pairwise_iff_getElem.mp hs i j (by simp; omega) (by simp; omega) h
    simpa using this
  · subst h; exact O.le_refl _
theorem bey_f {key x : Keyed} : bey lt false key x = !lt key x := rfl
theorem bey_t {key x : Keyed} : bey lt true key x = lt x key := rfl
theorem bey_ft {key x : Keyed} (h : bey lt false key x = true) : leK lt x key := by
  unfold leK
  cases e : lt key x with
  | false => rfl
  | true => rw [bey_f, e] at h; cases h
theorem bey_fo {key x : Keyed} (h : leK lt x key) : bey lt false key x = true := by
  unfold leK at h
  rw [bey_f, h]; rfl
theorem bey_ff {key x : Keyed} (h : bey lt false key x = false) : lt key x = true := by
  cases e : lt key x with
  | true => rfl
  | false => rw [bey_f, e] at h; cases h
structure LI (lt : Keyed → Keyed → Bool) (a b : Array Keyed) (st : SortSt) (n : Nat) (out : Array Keyed) (ia ib : Nat) (st' : SortSt) : Prop where
  sg : SG st st'
  mi : MI lt a b out ia ib
  ha : ia + 1 < a.size
  hb : ib < b.size
  far : n < ia + ib
theorem wpS_mergeLo (C : Cmp prog w A E s κ S lt) {a b : Array Keyed} {st : SortSt} (hk : kindOf st = κ) (ha : a.toList.Pairwise (leK lt)) (hb : b.toList.Pairwise (leK lt)) (sa : ∀ x ∈ a.toList, S x) (sb : ∀ x ∈ b.toList, S x)
    (ha0 : 0 < a.size) (hb0 : 0 < b.size) (h0 : ∀ x ∈ a.toList, leK lt b[0] x) (hl : ∀ y ∈ b.toList, leK lt y a[a.size - 1])
    {Q : Array Keyed → SortSt → Prop} (h : ∀ out st', SG st st' → Mgd lt a b out → Q out st') : wpS (model prog w) A E s (mergeLo' a b) Q st := by
  have O := C.ord
  have sA : ∀ i (hi : i < a.size), S a[i] := fun i hi => sa _ (by simp)
  have sB : ∀ i (hi : i < b.size), S b[i] := fun i hi => sb _ (by simp)
  have gA : ∀ i, i < a.size → ∃ x, a[i]? = some x ∧ a.toList[i]? = some x ∧ S x := fun i hi => ⟨a[i], Array.getElem?_eq_getElem hi, at_list hi, sA i hi⟩
  have gB : ∀ i, i < b.size → ∃ x, b[i]? = some x ∧ b.toList[i]? = some x ∧ S x := fun i hi => ⟨b[i], Array.getElem?_eq_getElem hi, at_list hi, sB i hi⟩
  have last1 : ∀ (out : Array Keyed) (ia ib : Nat), MI lt a b out ia ib → ia + 1 = a.size → Mgd lt a b (out ++ b.extract ib b.size ++ a.extract ia a.size) := fun out ia ib m e => by
    have hz : a.toList.drop ia = [a[a.size - 1]] := by
      rw [drop_at (at_list (by omega : ia < a.size)), List.drop_of_length_le (by simp; omega)]
      simp [show a.size - 1 = ia by omega]
    exact m.last O ha hb hz hl
  have mi0 : MI lt a b #[b[0]] 0 1 := by
    have e := drop_at (at_list hb0)
    rw [List.drop_zero] at e
    refine ⟨?_, by simp, fun x hx y hy => ?_⟩
    · show ([b[0]] ++ (a.toList.drop 0 ++ b.toList.drop 1)).Perm _
      rw [List.drop_zero, e]
      simpa using (List.perm_middle (l₁ := a.toList) (l₂ := b.toList.drop 1) (a := b[0])).symm
    · have : x = b[0] := by simpa using hx
      subst this
      rcases List.mem_append.mp hy with hy | hy
      · exact h0 y (by simpa using hy)
      · exact head_le O hb (at_list hb0) y (by rw [List.drop_zero, e]; exact List.mem_cons_of_mem _ hy)
  rw [mergeLo'_eq]
  refine wpS_bind (wpS_rule ?_)
  refine wpS_bind (wpS_elem (Array.getElem?_eq_getElem hb0) ?_)
  try dsimp only
  by_cases e1 : (1 == b.size) = true
  · rw [if_pos e1]
    have e1' : 1 = b.size := by simpa using e1
    exact wpS_pure (h _ _ (SG.refl st) (mi0.done O ha hb (.inr (by omega))))
  · rw [if_neg e1]
    have e1' : 1 ≠ b.size := by simpa using e1
    by_cases e2 : (0 + 1 == a.size) = true
    · rw [if_pos e2]
      have e2' : 1 = a.size := by simpa using e2
      exact wpS_pure (h _ _ (SG.refl st) (last1 _ 0 1 mi0 (by omega)))
    · rw [if_neg e2]
      have e2' : 1 ≠ a.size := by simpa using e2
      refine wpS_bind (wpS_get ?_)
      refine wpS_bind (wpS_mono (wpS_forRange (fun i c st' => c.1 = none ∧ LI lt a b st i c.2.1 c.2.2.1 c.2.2.2.1 st') (Q := fun c st' => ∃ r, c.1 = some r ∧ SG st st' ∧ Mgd lt a b r) ?_ ?_ ?_) ?_)
      rotate_left 2
      · exact ⟨rfl, SG.refl st, mi0, by show 0 + 1 < a.size; omega, by show 1 < b.size; omega, by show 0 < 0 + 1; omega⟩
      · rintro ⟨r, c⟩ st' ⟨x, e, g, m⟩
        dsimp only at e
        subst e
        exact wpS_pure (h _ _ g m)
      rotate_left 1
      · rintro ⟨r, out, ia, ib, mg⟩ st' ⟨_, L⟩
        have h1 : ia + 1 < a.size := L.ha
        have h2 : ib < b.size := L.hb
        have h3 : max 0 (a.size + b.size) < ia + ib := L.far
        exfalso; omega
      rintro i ⟨r, out, ia, ib, mg⟩ st1 _ hi ⟨er, L⟩
      dsimp only at er L ⊢
      subst er
      refine wpS_bind (wpS_mono (wpS_forRange (fun j c st' => c.1 = none ∧ LI lt a b st (i + j) c.2.1 c.2.2.1 c.2.2.2.1 st') (Q := fun c st' => (c.1 = none ∧ LI lt a b st (i + 1) c.2.1 c.2.2.1 c.2.2.2.1 st') ∨ ∃ r, c.1 = some r ∧ SG st st' ∧ Mgd lt a b r) ?_ ?_ ?_) ?_)
      rotate_left 2
      · exact ⟨rfl, L⟩
      rotate_left 1
      · rintro j ⟨r, out, ia, ib, ac, bc⟩ st1 _ hj ⟨er, L⟩
        dsimp only at er L ⊢
        subst er
        obtain ⟨x, x1, x2, x3⟩ := gA ia (by have := L.ha; omega)
        obtain ⟨y, y1, y2, y3⟩ := gB ib L.hb
        refine wpS_bind (wpS_elem y1 (wpS_bind (wpS_elem x1 (wpS_bind (wpS_lt C (L.sg.1.trans hk) y3 x3 ?_)))))
        dsimp only
        cases ew : lt y x with
        | true =>
          rw [if_pos rfl]
          refine wpS_bind (wpS_elem y1 ?_)
          have m := L.mi.takeB O ha hb x2 y2 (O.le_of ew)
          try dsimp only
          by_cases q : (ib + 1 == b.size) = true
          · rw [if_pos q]
            have q3 : ib + 1 = b.size := by simpa using q
            exact wpS_pure (.inr ⟨_, rfl, L.sg, m.done O ha hb (.inr (by omega))⟩)
          · rw [if_neg q]
            have q' : ib + 1 ≠ b.size := by simpa using q
            have hb1 := L.hb
            have hf := L.far
            have L1 : LI lt a b st (i + (j + 1)) (out.push y) ia (ib + 1) st1 := ⟨L.sg, m, L.ha, by omega, by omega⟩
            split
            · exact wpS_pure (.inl ⟨rfl, L1.sg, L1.mi, L1.ha, L1.hb, by show i + 1 < ia + (ib + 1); omega⟩)
            · exact wpS_pure ⟨rfl, L1⟩
        | false =>
          rw [if_neg (by simp)]
          refine wpS_bind (wpS_elem x1 ?_)
          have m := L.mi.takeA O ha hb x2 y2 ew
          try dsimp only
          by_cases q : (ia + 1 + 1 == a.size) = true
          · rw [if_pos q]
            exact wpS_pure (.inr ⟨_, rfl, L.sg, last1 _ _ _ m (by simpa using q)⟩)
          · rw [if_neg q]
            have q' : ia + 1 + 1 ≠ a.size := by simpa using q
            have ha1 := L.ha
            have hf := L.far
            have L1 : LI lt a b st (i + (j + 1)) (out.push x) (ia + 1) ib st1 := ⟨L.sg, m, by omega, L.hb, by omega⟩
            split
            · exact wpS_pure (.inl ⟨rfl, L1.sg, L1.mi, L1.ha, L1.hb, by show i + 1 < ia + 1 + ib; omega⟩)
            · exact wpS_pure ⟨rfl, L1⟩
      · rintro ⟨r, out, ia, ib, ac, bc⟩ st' ⟨_, L⟩
        have h1 : ia + 1 < a.size := L.ha
        have h2 : ib < b.size := L.hb
        have h3 : i + max 0 (a.size + b.size) < ia + ib := L.far
        exfalso; omega
      rintro ⟨r, out, ia, ib, ac, bc⟩ st1 hp
      dsimp only at hp ⊢
      rcases hp with ⟨er, L⟩ | ⟨x, er, g, m⟩
      rotate_left 1
      · subst er
        exact wpS_pure ⟨_, rfl, g, m⟩
      subst er
      dsimp only
      refine wpS_bind (wpS_rule ?_)
      refine wpS_bind (wpS_mono (wpS_forRange (fun j c st' => c.1 = none ∧ LI lt a b st (i + 1 + j) c.2.1 c.2.2.1 c.2.2.2.1 st') (Q := fun c st' => (c.1 = none ∧ LI lt a b st (i + 1) c.2.1 c.2.2.1 c.2.2.2.1 st') ∨ ∃ r, c.1 = some r ∧ SG st st' ∧ Mgd lt a b r) ?_ ?_ ?_) ?_)
      rotate_left 2
      · exact ⟨rfl, L⟩
      · rintro ⟨r, out, ia, ib, mg, ac, bc⟩ st1 hp
        dsimp only at hp ⊢
        rcases hp with ⟨er, L⟩ | ⟨x, er, g, m⟩
        · subst er
          dsimp only
          refine wpS_bind (wpS_setG ?_)
          exact wpS_pure ⟨rfl, ⟨L.sg.1, L.sg.2.1, L.sg.2.2.1, L.sg.2.2.2⟩, L.mi, L.ha, L.hb, L.far⟩
        · subst er
          exact wpS_pure ⟨_, rfl, g, m⟩
      rotate_left 1
      · rintro ⟨r, out, ia, ib, mg, ac, bc⟩ st' ⟨_, L⟩
        have h1 : ia + 1 < a.size := L.ha
        have h2 : ib < b.size := L.hb
        have h3 : i + 1 + max 0 (a.size + b.size) < ia + ib := L.far
        exfalso; omega
      rintro j ⟨r, out, ia, ib, mg, ac, bc⟩ st1 _ hj ⟨er, L⟩
      dsimp only at er L ⊢
      subst er
      obtain ⟨y, y1, y2, y3⟩ := gB ib L.hb
      have hA := L.ha
      have hB := L.hb
      have hF := L.far
      by_cases q0 : mg > 1
      all_goals
        first | rw [if_pos q0] | rw [if_neg q0]
        refine wpS_bind (wpS_setG ?_)
        refine wpS_bind (wpS_elem y1 ?_)
        refine wpS_bind (wpS_gallop C (left := false) (key := y) (arr := a) (base := ia) (n := a.size - ia) (hint := 0) (by exact L.sg.1.trans hk) (fun i => (a[ia + i]?).getD y) (fun i hi => by
          rw [Array.getElem?_eq_getElem (by omega : ia + i < a.size)]
          exact ⟨rfl, sA _ (by omega)⟩) y3 (by omega) (fun i j hij hj hbj => by
          rw [Array.getElem?_eq_getElem (by omega : ia + j < a.size), Option.getD_some] at hbj
          rw [Array.getElem?_eq_getElem (by omega : ia + i < a.size), Option.getD_some]
          exact bey_fo (O.trans (le_at ha (by omega) (by omega) O) (bey_ft hbj))) ?_)
        intro k hk1 hk2 hk3
        dsimp only
        have m1 := L.mi.takesA O ha hb y2 k (by omega) (fun i x hi hx => by
          have := hk2 i hi
          rw [← Array.getElem?_toList, hx] at this
          exact bey_ft this)
        have hgt : ∀ x, a.toList[ia + k]? = some x → lt y x = true := fun x hx => by
          have hlt : ia + k < a.size := by
            obtain ⟨z, _⟩ := List.getElem?_eq_some_iff.mp hx
            simpa using z
          have := hk3 k (Nat.le_refl _) (by omega)
          rw [← Array.getElem?_toList, hx] at this
          exact bey_ff this
        by_cases k0 : k > 0
        · rw [if_pos k0]
          by_cases q1 : (ia + k + 1 == a.size) = true
          · rw [if_pos q1]
            exact wpS_pure (.inr ⟨_, rfl, ⟨L.sg.1, L.sg.2.1, L.sg.2.2.1, L.sg.2.2.2⟩, last1 _ _ _ m1 (by simpa using q1)⟩)
          · rw [if_neg q1]
            by_cases q2 : (ia + k == a.size) = true
            · rw [if_pos q2]
              have q3 : ia + k = a.size := by simpa using q2
              exact wpS_pure (.inr ⟨_, rfl, ⟨L.sg.1, L.sg.2.1, L.sg.2.2.1, L.sg.2.2.2⟩, m1.done O ha hb (.inl (by omega))⟩)
            · rw [if_neg q2]
              have q1' : ia + k + 1 ≠ a.size := by simpa using q1
              have q2' : ia + k ≠ a.size := by simpa using q2
              have hA' : ia + k + 1 < a.size := by omega
              have hle : ia ≤ ia + k := by omega
              generalize out ++ a.extract ia (ia + k) = out' at m1 ⊢
              generalize ia + k = ia' at m1 hgt hA' hle ⊢
              obtain ⟨x, x1, x2, x3⟩ := gA ia' (by omega)
              have ew := hgt x x2
              have m2 := m1.takeB O ha hb x2 y2 (O.le_of ew)
              refine wpS_bind (wpS_elem y1 ?_)
              try dsimp only
              by_cases p1 : (ib + 1 == b.size) = true
              · rw [if_pos p1]
                have p2 : ib + 1 = b.size := by simpa using p1
                exact wpS_pure (.inr ⟨_, rfl, ⟨L.sg.1, L.sg.2.1, L.sg.2.2.1, L.sg.2.2.2⟩, m2.done O ha hb (.inr (by omega))⟩)
              · rw [if_neg p1]
                have p2 : ib + 1 ≠ b.size := by simpa using p1
                refine wpS_bind (wpS_elem x1 ?_)
                refine wpS_bind (wpS_gallop C (left := true) (key := x) (arr := b) (base := ib + 1) (n := b.size - (ib + 1)) (hint := 0) (by exact L.sg.1.trans hk) (fun i => (b[ib + 1 + i]?).getD y) (fun i hi => by
                  rw [Array.getElem?_eq_getElem (by omega : ib + 1 + i < b.size)]
                  exact ⟨rfl, sB _ (by omega)⟩) x3 (by omega) (fun i j hij hj hbj => by
                  rw [Array.getElem?_eq_getElem (by omega : ib + 1 + j < b.size), Option.getD_some, bey_t] at hbj
                  rw [Array.getElem?_eq_getElem (by omega : ib + 1 + i < b.size), Option.getD_some, bey_t]
                  rcases O.neg _ _ b[ib + 1 + i] hbj with z | z
                  · have := le_at hb (by omega : ib + 1 + i ≤ ib + 1 + j) (by omega) O
                    unfold leK at this
                    rw [this] at z; cases z
                  · exact z) ?_)
                intro n2 hn1 hn2 hn3
                dsimp only
                have m3 := m2.takesB O ha hb x2 n2 (by omega) (fun i z hi hz => by
                  have := hn2 i hi
                  rw [← Array.getElem?_toList, hz, Option.getD_some, bey_t] at this
                  exact O.le_of this)
                have hge : ∀ z, b.toList[ib + 1 + n2]? = some z → leK lt x z := fun z hz => by
                  have hlt : ib + 1 + n2 < b.size := by
                    obtain ⟨z', _⟩ := List.getElem?_eq_some_iff.mp hz
                    simpa using z'
                  have := hn3 n2 (Nat.le_refl _) (by omega)
                  rw [← Array.getElem?_toList, hz, Option.getD_some, bey_t] at this
                  exact this
                by_cases c0 : n2 > 0
                all_goals
                  first | rw [if_pos c0] | rw [if_neg c0]
                · by_cases c1 : (ib + 1 + n2 == b.size) = true
                  · rw [if_pos c1]
                    have c2 : ib + 1 + n2 = b.size := by simpa using c1
                    exact wpS_pure (.inr ⟨_, rfl, ⟨L.sg.1, L.sg.2.1, L.sg.2.2.1, L.sg.2.2.2⟩, m3.done O ha hb (.inr (by omega))⟩)
                  · rw [if_neg c1]
                    have c2 : ib + 1 + n2 ≠ b.size := by simpa using c1
                    obtain ⟨z, z1, z2, z3⟩ := gB (ib + 1 + n2) (by omega)
                    have m4 := m3.takeA O ha hb x2 z2 (hge z z2)
                    refine wpS_bind (wpS_elem x1 ?_)
                    try dsimp only
                    by_cases d1 : (ia' + 1 + 1 == a.size) = true
                    · rw [if_pos d1]
                      exact wpS_pure (.inr ⟨_, rfl, ⟨L.sg.1, L.sg.2.1, L.sg.2.2.1, L.sg.2.2.2⟩, last1 _ _ _ m4 (by simpa using d1)⟩)
                    · rw [if_neg d1]
                      have d2 : ia' + 1 + 1 ≠ a.size := by simpa using d1
                      by_cases f1 : (decide (k < 7) && decide (n2 < 7)) = true
                      · rw [if_pos f1]
                        exact wpS_pure (.inl ⟨rfl, ⟨L.sg.1, L.sg.2.1, L.sg.2.2.1, L.sg.2.2.2⟩, m4, by show ia' + 1 + 1 < a.size; omega, by show ib + 1 + n2 < b.size; omega, by show i + 1 < ia' + 1 + (ib + 1 + n2); omega⟩)
                      · rw [if_neg f1]
                        exact wpS_pure ⟨rfl, ⟨L.sg.1, L.sg.2.1, L.sg.2.2.1, L.sg.2.2.2⟩, m4, by show ia' + 1 + 1 < a.size; omega, by show ib + 1 + n2 < b.size; omega, by show i + 1 + (j + 1) < ia' + 1 + (ib + 1 + n2); omega⟩
                · have c2 : n2 = 0 := by omega
                  subst c2
                  obtain ⟨z, z1, z2, z3⟩ := gB (ib + 1) (by omega)
                  have m4 := m2.takeA O ha hb x2 z2 (hge z z2)
                  refine wpS_bind (wpS_elem x1 ?_)
                  try dsimp only
                  by_cases d1 : (ia' + 1 + 1 == a.size) = true
                  · rw [if_pos d1]
                    exact wpS_pure (.inr ⟨_, rfl, ⟨L.sg.1, L.sg.2.1, L.sg.2.2.1, L.sg.2.2.2⟩, last1 _ _ _ m4 (by simpa using d1)⟩)
                  · rw [if_neg d1]
                    have d2 : ia' + 1 + 1 ≠ a.size := by simpa using d1
                    by_cases f1 : (decide (k < 7) && decide (0 < 7)) = true
                    · rw [if_pos f1]
                      exact wpS_pure (.inl ⟨rfl, ⟨L.sg.1, L.sg.2.1, L.sg.2.2.1, L.sg.2.2.2⟩, m4, by show ia' + 1 + 1 < a.size; omega, by show ib + 1 < b.size; omega, by show i + 1 < ia' + 1 + (ib + 1); omega⟩)
                    · rw [if_neg f1]
                      exact wpS_pure ⟨rfl, ⟨L.sg.1, L.sg.2.1, L.sg.2.2.1, L.sg.2.2.2⟩, m4, by show ia' + 1 + 1 < a.size; omega, by show ib + 1 < b.size; omega, by show i + 1 + (j + 1) < ia' + 1 + (ib + 1); omega⟩
        · rw [if_neg k0]
          have k1 : k = 0 := by omega
          subst k1
          have hA' : ia + 1 < a.size := hA
          have hle : ia ≤ ia := Nat.le_refl _
          have m1 := L.mi
          obtain ⟨x, x1, x2, x3⟩ := gA ia (by omega)
          have ew := hgt x x2
          have m2 := m1.takeB O ha hb x2 y2 (O.le_of ew)
          refine wpS_bind (wpS_elem y1 ?_)
          try dsimp only
          by_cases p1 : (ib + 1 == b.size) = true
          · rw [if_pos p1]
            have p2 : ib + 1 = b.size := by simpa using p1
            exact wpS_pure (.inr ⟨_, rfl, ⟨L.sg.1, L.sg.2.1, L.sg.2.2.1, L.sg.2.2.2⟩, m2.done O ha hb (.inr (by omega))⟩)
          · rw [if_neg p1]
            have p2 : ib + 1 ≠ b.size := by simpa using p1
            refine wpS_bind (wpS_elem x1 ?_)
            refine wpS_bind (wpS_gallop C (left := true) (key := x) (arr := b) (base := ib + 1) (n := b.size - (ib + 1)) (hint := 0) (by exact L.sg.1.trans hk) (fun i => (b[ib + 1 + i]?).getD y) (fun i hi => by
              rw [Array.getElem?_eq_getElem (by omega : ib + 1 + i < b.size)]
              exact ⟨rfl, sB _ (by omega)⟩) x3 (by omega) (fun i j hij hj hbj => by
              rw [Array.getElem?_eq_getElem (by omega : ib + 1 + j < b.size), Option.getD_some, bey_t] at hbj
              rw [Array.getElem?_eq_getElem (by omega : ib + 1 + i < b.size), Option.getD_some, bey_t]
              rcases O.neg _ _ b[ib + 1 + i] hbj with z | z
              · have := le_at hb (by omega : ib + 1 + i ≤ ib + 1 + j) (by omega) O
                unfold leK at this
                rw [this] at z; cases z
              · exact z) ?_)
            intro n2 hn1 hn2 hn3
            dsimp only
            have m3 := m2.takesB O ha hb x2 n2 (by omega) (fun i z hi hz => by
              have := hn2 i hi
              rw [← Array.getElem?_toList, hz, Option.getD_some, bey_t] at this
              exact O.le_of this)
            have hge : ∀ z, b.toList[ib + 1 + n2]? = some z → leK lt x z := fun z hz => by
              have hlt : ib + 1 + n2 < b.size := by
                obtain ⟨z', _⟩ := List.getElem?_eq_some_iff.mp hz
                simpa using z'
              have := hn3 n2 (Nat.le_refl _) (by omega)
              rw [← Array.getElem?_toList, hz, Option.getD_some, bey_t] at this
              exact this
            by_cases c0 : n2 > 0
            all_goals
              first | rw [if_pos c0] | rw [if_neg c0]
            · by_cases c1 : (ib + 1 + n2 == b.size) = true
              · rw [if_pos c1]
                have c2 : ib + 1 + n2 = b.size := by simpa using c1
                exact wpS_pure (.inr ⟨_, rfl, ⟨L.sg.1, L.sg.2.1, L.sg.2.2.1, L.sg.2.2.2⟩, m3.done O ha hb (.inr (by omega))⟩)
              · rw [if_neg c1]
                have c2 : ib + 1 + n2 ≠ b.size := by simpa using c1
                obtain ⟨z, z1, z2, z3⟩ := gB (ib + 1 + n2) (by omega)
                have m4 := m3.takeA O ha hb x2 z2 (hge z z2)
                refine wpS_bind (wpS_elem x1 ?_)
                try dsimp only
                by_cases d1 : (ia + 1 + 1 == a.size) = true
                · rw [if_pos d1]
                  exact wpS_pure (.inr ⟨_, rfl, ⟨L.sg.1, L.sg.2.1, L.sg.2.2.1, L.sg.2.2.2⟩, last1 _ _ _ m4 (by simpa using d1)⟩)
                · rw [if_neg d1]
                  have d2 : ia + 1 + 1 ≠ a.size := by simpa using d1
                  by_cases f1 : (decide (0 < 7) && decide (n2 < 7)) = true
                  · rw [if_pos f1]
                    exact wpS_pure (.inl ⟨rfl, ⟨L.sg.1, L.sg.2.1, L.sg.2.2.1, L.sg.2.2.2⟩, m4, by show ia + 1 + 1 < a.size; omega, by show ib + 1 + n2 < b.size; omega, by show i + 1 < ia + 1 + (ib + 1 + n2); omega⟩)
                  · rw [if_neg f1]
                    exact wpS_pure ⟨rfl, ⟨L.sg.1, L.sg.2.1, L.sg.2.2.1, L.sg.2.2.2⟩, m4, by show ia + 1 + 1 < a.size; omega, by show ib + 1 + n2 < b.size; omega, by show i + 1 + (j + 1) < ia + 1 + (ib + 1 + n2); omega⟩
            · have c2 : n2 = 0 := by omega
              subst c2
              obtain ⟨z, z1, z2, z3⟩ := gB (ib + 1) (by omega)
              have m4 := m2.takeA O ha hb x2 z2 (hge z z2)
              refine wpS_bind (wpS_elem x1 ?_)
              try dsimp only
              by_cases d1 : (ia + 1 + 1 == a.size) = true
              · rw [if_pos d1]
                exact wpS_pure (.inr ⟨_, rfl, ⟨L.sg.1, L.sg.2.1, L.sg.2.2.1, L.sg.2.2.2⟩, last1 _ _ _ m4 (by simpa using d1)⟩)
              · rw [if_neg d1]
                have d2 : ia + 1 + 1 ≠ a.size := by simpa using d1
                by_cases f1 : (decide (0 < 7) && decide (0 < 7)) = true
                · rw [if_pos f1]
                  exact wpS_pure (.inl ⟨rfl, ⟨L.sg.1, L.sg.2.1, L.sg.2.2.1, L.sg.2.2.2⟩, m4, by show ia + 1 + 1 < a.size; omega, by show ib + 1 < b.size; omega, by show i + 1 < ia + 1 + (ib + 1); omega⟩)
                · rw [if_neg f1]
                  exact wpS_pure ⟨rfl, ⟨L.sg.1, L.sg.2.1, L.sg.2.2.1, L.sg.2.2.2⟩, m4, by show ia + 1 + 1 < a.size; omega, by show ib + 1 < b.size; omega, by show i + 1 + (j + 1) < ia + 1 + (ib + 1); omega⟩
end
end L2
set_option Elab.async false
set_option linter.all false
set_option maxRecDepth 100000
namespace L2
open PySem PySem.W PySem.Calls PySem.Spec PyProof.Rows
structure MH (lt : Keyed → Keyed → Bool) (a b out : Array Keyed) (na nb : Nat) : Prop where
  perm : ((a.toList.take na ++ b.toList.take nb) ++ out.toList.reverse).Perm (a.toList ++ b.toList)
  srt : out.toList.reverse.Pairwise (leK lt)
  top : ∀ y ∈ a.toList.take na ++ b.toList.take nb, ∀ x ∈ out.toList, leK lt y x
variable {lt : Keyed → Keyed → Bool} {a b out : Array Keyed} {na nb : Nat}
theorem take_at {l : List Keyed} {i : Nat} {x : Keyed} (h : l[i]? = some x) : l.take (i + 1) = l.take i ++ [x] := by
  rw [List.take_add_one, h]; rfl
theorem MH.pushA (h : MH lt a b out (na + 1) nb) {x : Keyed} (hx : a.toList[na]? = some x) (hl : ∀ y ∈ a.toList.take na ++ b.toList.take nb, leK lt y x) : MH lt a b (out.push x) na nb := by
  have e := take_at hx
  refine ⟨?_, ?_, fun y hy z hz => ?_⟩
  · refine List.Perm.trans ?_ h.perm
    rw [e, Array.toList_push, List.reverse_append, List.reverse_singleton, ← List.append_assoc]
    refine List.Perm.append_right _ ?_
    rw [List.append_assoc, List.append_assoc]
    exact List.Perm.append_left _ List.perm_append_comm
  · rw [Array.toList_push, List.reverse_append, List.reverse_singleton, List.singleton_append, List.pairwise_cons]
    exact ⟨fun z hz => h.top x (by rw [e]; simp) z (List.mem_reverse.mp hz), h.srt⟩
  · rw [Array.toList_push] at hz
    rcases List.mem_append.mp hz with hz | hz
    · refine h.top y ?_ z hz
      rw [e]
      rcases List.mem_append.mp hy with hy | hy
      · simp [hy]
      · simp [hy]
    · rw [List.mem_singleton.mp hz]; exact hl y hy
theorem MH.pushB (h : MH lt a b out na (nb + 1)) {x : Keyed} (hx : b.toList[nb]? = some x) (hl : ∀ y ∈ a.toList.take na ++ b.toList.take nb, leK lt y x) : MH lt a b (out.push x) na nb := by
  have e := take_at hx
  refine ⟨?_, ?_, fun y hy z hz => ?_⟩
  · refine List.Perm.trans ?_ h.perm
    rw [e, Array.toList_push, List.reverse_append, List.reverse_singleton, ← List.append_assoc]
    refine List.Perm.append_right _ ?_
    rw [List.append_assoc]
  · rw [Array.toList_push, List.reverse_append, List.reverse_singleton, List.singleton_append, List.pairwise_cons]
    exact ⟨fun z hz => h.top x (by rw [e]; simp) z (List.mem_reverse.mp hz), h.srt⟩
  · rw [Array.toList_push] at hz
    rcases List.mem_append.mp hz with hz | hz
    · refine h.top y ?_ z hz
      rw [e]
      rcases List.mem_append.mp hy with hy | hy
      · simp [hy]
      · simp [hy]
    · rw [List.mem_singleton.mp hz]; exact hl y hy
theorem tail_le (O : Ord lt) {l : List Keyed} (hs : l.Pairwise (leK lt)) {i : Nat} {x : Keyed} (hx : l[i]? = some x) : ∀ y ∈ l.take (i + 1), leK lt y x := fun y hy => by
  have hs' := hs.sublist (List.take_sublist (i + 1) l)
  rw [take_at hx] at hs' hy
  rcases List.mem_append.mp hy with hy | hy
  · exact (List.pairwise_append.mp hs').2.2 y hy x (by simp)
  · rw [List.mem_singleton.mp hy]; exact O.le_refl _
theorem take_sub {l : List Keyed} {i j : Nat} (h : i ≤ j) {y : Keyed} (hy : y ∈ l.take i) : y ∈ l.take j := by
  have : l.take i = (l.take j).take i := by rw [List.take_take, Nat.min_eq_left h]
  rw [this] at hy
  exact List.mem_of_mem_take hy
theorem MH.takeA (O : Ord lt) (ha : a.toList.Pairwise (leK lt)) (hb : b.toList.Pairwise (leK lt)) (h : MH lt a b out (na + 1) nb) {x : Keyed} (hx : a.toList[na]? = some x) (hl : ∀ y ∈ b.toList.take nb, leK lt y x) : MH lt a b (out.push x) na nb := h.pushA hx fun z hz => by
  rcases List.mem_append.mp hz with hz | hz
  · exact tail_le O ha hx z (take_sub (Nat.le_succ _) hz)
  · exact hl z hz
theorem MH.takeB (O : Ord lt) (ha : a.toList.Pairwise (leK lt)) (hb : b.toList.Pairwise (leK lt)) (h : MH lt a b out na (nb + 1)) {x : Keyed} (hx : b.toList[nb]? = some x) (hl : ∀ y ∈ a.toList.take na, leK lt y x) : MH lt a b (out.push x) na nb := h.pushB hx fun z hz => by
  rcases List.mem_append.mp hz with hz | hz
  · exact hl z hz
  · exact tail_le O hb hx z (take_sub (Nat.le_succ _) hz)
theorem rev_succ (c : Array Keyed) (i k : Nat) {x : Keyed} (o : Array Keyed) (h : c.toList[i + k]? = some x) : o ++ (c.extract i (i + (k + 1))).reverse = o.push x ++ (c.extract i (i + k)).reverse := by
  rw [ext_succ c i k h]
  apply Array.toList_inj.mp
  simp
theorem MH.takesA (O : Ord lt) (ha : a.toList.Pairwise (leK lt)) (hb : b.toList.Pairwise (leK lt)) : ∀ (k : Nat) (out : Array Keyed), MH lt a b out (na + k) nb → na + k ≤ a.size → (∀ i x, i < k → a.toList[na + i]? = some x → ∀ y ∈ b.toList.take nb, leK lt y x) → MH lt a b (out ++ (a.extract na (na + k)).reverse) na nb
  | 0, out, h, _, _ => by
    have : (a.extract na (na + 0)).reverse = #[] := by simp; omega
    rw [this, Array.append_empty]; exact h
  | k + 1, out, h, hk, hl => by
    have hx : a.toList[na + k]? = some a[na + k] := at_list (by omega)
    rw [rev_succ a na k out hx]
    exact MH.takesA O ha hb k _ (MH.takeA O ha hb h hx (hl k _ (by omega) hx)) (by omega) fun i x hi => hl i x (by omega)
theorem MH.takesB (O : Ord lt) (ha : a.toList.Pairwise (leK lt)) (hb : b.toList.Pairwise (leK lt)) : ∀ (k : Nat) (out : Array Keyed), MH lt a b out na (nb + k) → nb + k ≤ b.size → (∀ i x, i < k → b.toList[nb + i]? = some x → ∀ y ∈ a.toList.take na, leK lt y x) → MH lt a b (out ++ (b.extract nb (nb + k)).reverse) na nb
  | 0, out, h, _, _ => by
    have : (b.extract nb (nb + 0)).reverse = #[] := by simp; omega
    rw [this, Array.append_empty]; exact h
  | k + 1, out, h, hk, hl => by
    have hx : b.toList[nb + k]? = some b[nb + k] := at_list (by omega)
    rw [rev_succ b nb k out hx]
    exact MH.takesB O ha hb k _ (MH.takeB O ha hb h hx (hl k _ (by omega) hx)) (by omega) fun i x hi => hl i x (by omega)
theorem ext_from (c : Array Keyed) (i : Nat) : (c.extract 0 i).toList = c.toList.take i := by
  rw [Array.toList_extract, List.extract_eq_drop_take]; simp
theorem MH.done (O : Ord lt) (ha : a.toList.Pairwise (leK lt)) (hb : b.toList.Pairwise (leK lt)) (h : MH lt a b out na nb) (he : na = 0 ∨ nb = 0) : Mgd lt a b (a.extract 0 na ++ b.extract 0 nb ++ out.reverse) := by
  have e : (a.extract 0 na ++ b.extract 0 nb ++ out.reverse).toList = (a.toList.take na ++ b.toList.take nb) ++ out.toList.reverse := by
    rw [Array.toList_append, Array.toList_append, ext_from, ext_from, Array.toList_reverse]
  refine ⟨by rw [e]; exact h.perm, ?_⟩
  rw [e, List.pairwise_append]
  refine ⟨?_, h.srt, fun x hx y hy => h.top x hx y (List.mem_reverse.mp hy)⟩
  rcases he with rfl | rfl
  · rw [List.take_zero, List.nil_append]; exact hb.sublist (List.take_sublist _ _)
  · rw [List.take_zero, List.append_nil]; exact ha.sublist (List.take_sublist _ _)
theorem MH.first (O : Ord lt) (ha : a.toList.Pairwise (leK lt)) (hb : b.toList.Pairwise (leK lt)) (h : MH lt a b out na nb) {z : Keyed} (hz : b.toList.take nb = [z]) (hl : ∀ y ∈ a.toList, leK lt z y) : Mgd lt a b (b.extract 0 nb ++ a.extract 0 na ++ out.reverse) := by
  have e : (b.extract 0 nb ++ a.extract 0 na ++ out.reverse).toList = (b.toList.take nb ++ a.toList.take na) ++ out.toList.reverse := by
    rw [Array.toList_append, Array.toList_append, ext_from, ext_from, Array.toList_reverse]
  refine ⟨by rw [e]; exact (List.Perm.append_right _ List.perm_append_comm).trans h.perm, ?_⟩
  rw [e, List.pairwise_append]
  refine ⟨?_, h.srt, fun x hx y hy => h.top x (List.perm_append_comm.mem_iff.mp hx) y (List.mem_reverse.mp hy)⟩
  rw [hz, List.singleton_append, List.pairwise_cons]
  exact ⟨fun y hy => hl y (List.mem_of_mem_take hy), ha.sublist (List.take_sublist _ _)⟩
structure HI (lt : Keyed → Keyed → Bool) (a b : Array Keyed) (st : SortSt) (n : Nat) (out : Array Keyed) (na nb : Nat) (st' : SortSt) : Prop where
  sg : SG st st'
  mi : MH lt a b out na nb
  ha : 0 < na
  hb : 1 < nb
  ha2 : na ≤ a.size
  hb2 : nb ≤ b.size
  far : n + na + nb < a.size + b.size
section
variable {prog : Program} {w : World} {A : Around} {E : Value → Shared → Prop} {s : Shared} {κ : SortKind} {S : Keyed → Prop}
theorem wpS_mergeHi (C : Cmp prog w A E s κ S lt) {a b : Array Keyed} {st : SortSt} (hk : kindOf st = κ) (ha : a.toList.Pairwise (leK lt)) (hb : b.toList.Pairwise (leK lt)) (sa : ∀ x ∈ a.toList, S x) (sb : ∀ x ∈ b.toList, S x)
    (ha0 : 0 < a.size) (hb0 : 0 < b.size) (h0 : ∀ x ∈ a.toList, leK lt b[0] x) (hl : ∀ y ∈ b.toList, leK lt y a[a.size - 1])
    {Q : Array Keyed → SortSt → Prop} (h : ∀ out st', SG st st' → Mgd lt a b out → Q out st') : wpS (model prog w) A E s (mergeHi' a b) Q st := by
  have O := C.ord
  have sA : ∀ i (hi : i < a.size), S a[i] := fun i hi => sa _ (by simp)
  have sB : ∀ i (hi : i < b.size), S b[i] := fun i hi => sb _ (by simp)
  have gA : ∀ i, i < a.size → ∃ x, a[i]? = some x ∧ a.toList[i]? = some x ∧ S x := fun i hi => ⟨a[i], Array.getElem?_eq_getElem hi, at_list hi, sA i hi⟩
  have gB : ∀ i, i < b.size → ∃ x, b[i]? = some x ∧ b.toList[i]? = some x ∧ S x := fun i hi => ⟨b[i], Array.getElem?_eq_getElem hi, at_list hi, sB i hi⟩
  have first1 : ∀ (out : Array Keyed) (na nb : Nat), MH lt a b out na nb → nb = 1 → Mgd lt a b (b.extract 0 nb ++ a.extract 0 na ++ out.reverse) := fun out na nb m e => by
    subst e
    have hz : b.toList.take 1 = [b[0]] := by
      have := take_at (at_list hb0)
      simpa using this
    exact m.first O ha hb hz h0
  obtain ⟨z, z1, z2, z3⟩ := gA (a.size - 1) (by omega)
  have zl : z = a[a.size - 1] := by
    have := at_list (c := a) (i := a.size - 1) (by omega)
    rw [z2] at this; exact Option.some.inj this
  have mi0 : MH lt a b #[z] (a.size - 1) b.size := by
    have e := take_at z2
    rw [show a.size - 1 + 1 = a.size by omega] at e
    have ea : a.toList = a.toList.take (a.size - 1) ++ [z] := (List.take_of_length_le (by simp)).symm.trans e
    refine ⟨?_, by simp, fun y hy x hx => ?_⟩
    · show ((a.toList.take (a.size - 1) ++ b.toList.take b.size) ++ [z]).Perm _
      have eb : b.toList.take b.size = b.toList := List.take_of_length_le (by simp)
      rw [eb]
      have : (a.toList.take (a.size - 1) ++ b.toList ++ [z]).Perm (a.toList.take (a.size - 1) ++ [z] ++ b.toList) := by
        rw [List.append_assoc, List.append_assoc]
        exact List.Perm.append_left _ List.perm_append_comm
      rwa [← ea] at this
    · have : x = z := by simpa using hx
      subst this
      rcases List.mem_append.mp hy with hy | hy
      · exact tail_le O ha z2 y (take_sub (by omega) hy)
      · rw [zl]; exact hl y (List.mem_of_mem_take hy)
  rw [mergeHi'_eq]
  refine wpS_bind (wpS_rule ?_)
  refine wpS_bind (wpS_elem z1 ?_)
  try dsimp only
  by_cases e1 : (a.size - 1 == 0) = true
  · rw [if_pos e1]
    exact wpS_pure (h _ _ (SG.refl st) (mi0.done O ha hb (.inl (by simpa using e1))))
  · rw [if_neg e1]
    have e1' : a.size - 1 ≠ 0 := by simpa using e1
    by_cases e2 : (b.size == 1) = true
    · rw [if_pos e2]
      exact wpS_pure (h _ _ (SG.refl st) (first1 _ _ _ mi0 (by simpa using e2)))
    · rw [if_neg e2]
      have e2' : b.size ≠ 1 := by simpa using e2
      refine wpS_bind (wpS_get ?_)
      refine wpS_bind (wpS_mono (wpS_forRange (fun i c st' => c.1 = none ∧ HI lt a b st i c.2.2.2.1 c.2.1 c.2.2.1 st') (Q := fun c st' => ∃ r, c.1 = some r ∧ SG st st' ∧ Mgd lt a b r) ?_ ?_ ?_) ?_)
      rotate_left 2
      · exact ⟨rfl, SG.refl st, mi0, by show 0 < a.size - 1; omega, by show 1 < b.size; omega, by show a.size - 1 ≤ a.size; omega, Nat.le_refl _, by show 0 + (a.size - 1) + b.size < a.size + b.size; omega⟩
      · rintro ⟨r, c⟩ st' ⟨x, e, g, m⟩
        dsimp only at e
        subst e
        exact wpS_pure (h _ _ g m)
      rotate_left 1
      · rintro ⟨r, na, nb, out, mg⟩ st' ⟨_, L⟩
        have h3 : max 0 (a.size + b.size) + na + nb < a.size + b.size := L.far
        exfalso; omega
      rintro i ⟨r, na, nb, out, mg⟩ st1 _ hi ⟨er, L⟩
      dsimp only at er L ⊢
      subst er
      refine wpS_bind (wpS_mono (wpS_forRange (fun j c st' => c.1 = none ∧ HI lt a b st (i + j) c.2.2.2.1 c.2.1 c.2.2.1 st') (Q := fun c st' => (c.1 = none ∧ HI lt a b st (i + 1) c.2.2.2.1 c.2.1 c.2.2.1 st') ∨ ∃ r, c.1 = some r ∧ SG st st' ∧ Mgd lt a b r) ?_ ?_ ?_) ?_)
      rotate_left 2
      · exact ⟨rfl, L⟩
      rotate_left 1
      · rintro j ⟨r, na, nb, out, ac, bc⟩ st1 _ hj ⟨er, L⟩
        dsimp only at er L ⊢
        subst er
        have hA := L.ha
        have hB := L.hb
        have hA2 := L.ha2
        have hB2 := L.hb2
        have hF := L.far
        obtain ⟨na, rfl⟩ : ∃ k, na = k + 1 := ⟨na - 1, by omega⟩
        obtain ⟨nb, rfl⟩ : ∃ k, nb = k + 1 := ⟨nb - 1, by omega⟩
        rw [Nat.add_sub_cancel, Nat.add_sub_cancel]
        obtain ⟨x, x1, x2, x3⟩ := gA na (by omega)
        obtain ⟨y, y1, y2, y3⟩ := gB nb (by omega)
        refine wpS_bind (wpS_elem y1 (wpS_bind (wpS_elem x1 (wpS_bind (wpS_lt C (L.sg.1.trans hk) y3 x3 ?_)))))
        dsimp only
        cases ew : lt y x with
        | true =>
          rw [if_pos rfl]
          refine wpS_bind (wpS_elem x1 ?_)
          have m := L.mi.takeA O ha hb x2 fun z hz => O.trans (tail_le O hb y2 z hz) (O.le_of ew)
          try dsimp only
          by_cases q : (na == 0) = true
          · rw [if_pos q]
            exact wpS_pure (.inr ⟨_, rfl, L.sg, m.done O ha hb (.inl (by simpa using q))⟩)
          · rw [if_neg q]
            have q' : na ≠ 0 := by simpa using q
            split
            · exact wpS_pure (.inl ⟨rfl, L.sg, m, by show 0 < na; omega, L.hb, by show na ≤ a.size; omega, L.hb2, by show i + 1 + na + (nb + 1) < a.size + b.size; omega⟩)
            · exact wpS_pure ⟨rfl, L.sg, m, by show 0 < na; omega, L.hb, by show na ≤ a.size; omega, L.hb2, by show i + (j + 1) + na + (nb + 1) < a.size + b.size; omega⟩
        | false =>
          rw [if_neg (by simp)]
          refine wpS_bind (wpS_elem y1 ?_)
          have m := L.mi.takeB O ha hb y2 fun z hz => O.trans (tail_le O ha x2 z hz) ew
          try dsimp only
          by_cases q : (nb == 1) = true
          · rw [if_pos q]
            exact wpS_pure (.inr ⟨_, rfl, L.sg, first1 _ _ _ m (by simpa using q)⟩)
          · rw [if_neg q]
            have q' : nb ≠ 1 := by simpa using q
            split
            · exact wpS_pure (.inl ⟨rfl, L.sg, m, L.ha, by show 1 < nb; omega, L.ha2, by show nb ≤ b.size; omega, by show i + 1 + (na + 1) + nb < a.size + b.size; omega⟩)
            · exact wpS_pure ⟨rfl, L.sg, m, L.ha, by show 1 < nb; omega, L.ha2, by show nb ≤ b.size; omega, by show i + (j + 1) + (na + 1) + nb < a.size + b.size; omega⟩
      · rintro ⟨r, na, nb, out, ac, bc⟩ st' ⟨_, L⟩
        have h3 : i + max 0 (a.size + b.size) + na + nb < a.size + b.size := L.far
        exfalso; omega
      rintro ⟨r, na, nb, out, ac, bc⟩ st1 hp
      dsimp only at hp ⊢
      rcases hp with ⟨er, L⟩ | ⟨x, er, g, m⟩
      rotate_left 1
      · subst er
        exact wpS_pure ⟨_, rfl, g, m⟩
      subst er
      dsimp only
      refine wpS_bind (wpS_rule ?_)
      refine wpS_bind (wpS_mono (wpS_forRange (fun j c st' => c.1 = none ∧ HI lt a b st (i + 1 + j) c.2.2.2.1 c.2.1 c.2.2.1 st') (Q := fun c st' => (c.1 = none ∧ HI lt a b st (i + 1) c.2.2.2.1 c.2.1 c.2.2.1 st') ∨ ∃ r, c.1 = some r ∧ SG st st' ∧ Mgd lt a b r) ?_ ?_ ?_) ?_)
      rotate_left 2
      · exact ⟨rfl, L⟩
      · rintro ⟨r, na, nb, out, mg, ac, bc⟩ st1 hp
        dsimp only at hp ⊢
        rcases hp with ⟨er, L⟩ | ⟨x, er, g, m⟩
        · subst er
          dsimp only
          refine wpS_bind (wpS_setG ?_)
          exact wpS_pure ⟨rfl, ⟨L.sg.1, L.sg.2.1, L.sg.2.2.1, L.sg.2.2.2⟩, L.mi, L.ha, L.hb, L.ha2, L.hb2, L.far⟩
        · subst er
          exact wpS_pure ⟨_, rfl, g, m⟩
      rotate_left 1
      · rintro ⟨r, na, nb, out, mg, ac, bc⟩ st' ⟨_, L⟩
        have h3 : i + 1 + max 0 (a.size + b.size) + na + nb < a.size + b.size := L.far
        exfalso; omega
      rintro j ⟨r, na, nb, out, mg, ac, bc⟩ st1 _ hj ⟨er, L⟩
      dsimp only at er L ⊢
      subst er
      have hA := L.ha
      have hB := L.hb
      have hA2 := L.ha2
      have hB2 := L.hb2
      have hF := L.far
      obtain ⟨y, y1, y2, y3⟩ := gB (nb - 1) (by omega)
      by_cases q0 : mg > 1
      all_goals
        first | rw [if_pos q0] | rw [if_neg q0]
        refine wpS_bind (wpS_setG ?_)
        refine wpS_bind (wpS_elem y1 ?_)
        refine wpS_bind (wpS_gallop C (left := false) (key := y) (arr := a) (base := 0) (n := na) (hint := na - 1) (by exact L.sg.1.trans hk) (fun i => (a[0 + i]?).getD y) (fun i hi => by
          rw [Array.getElem?_eq_getElem (by omega : 0 + i < a.size)]
          exact ⟨rfl, sA _ (by omega)⟩) y3 (by omega) (fun i j hij hj hbj => by
          rw [Array.getElem?_eq_getElem (by omega : 0 + j < a.size), Option.getD_some] at hbj
          rw [Array.getElem?_eq_getElem (by omega : 0 + i < a.size), Option.getD_some]
          exact bey_fo (O.trans (le_at ha (by omega) (by omega) O) (bey_ft hbj))) ?_)
        intro k hk1 hk2 hk3
        dsimp only
        obtain ⟨e, rfl⟩ : ∃ e, na = k + e := ⟨na - k, by omega⟩
        rw [Nat.add_sub_cancel_left]
        have m1 := MH.takesA (na := k) (nb := nb) O ha hb e _ L.mi (by omega) (fun i x hi hx y' hy' => by
          have := hk3 (k + i) (by omega) (by omega)
          rw [Nat.zero_add, ← Array.getElem?_toList, hx, Option.getD_some] at this
          refine O.trans (tail_le O hb y2 y' ?_) (O.le_of (bey_ff this))
          rw [show nb - 1 + 1 = nb by omega]; exact hy')
        have hle : ∀ y' ∈ a.toList.take k, leK lt y' y := fun y' hy' => by
          obtain ⟨i, hi, e'⟩ := List.mem_take_iff_getElem.mp hy'
          have hi2 : i < k := by omega
          have hi3 : i < a.size := by omega
          have := hk2 i hi2
          rw [Nat.zero_add, Array.getElem?_eq_getElem hi3, Option.getD_some] at this
          rw [← e']
          have := bey_ft this
          simpa using this
        by_cases k0 : e > 0
        · rw [if_pos k0]
          by_cases q1 : (k == 0) = true
          · rw [if_pos q1]
            exact wpS_pure (.inr ⟨_, rfl, ⟨L.sg.1, L.sg.2.1, L.sg.2.2.1, L.sg.2.2.2⟩, m1.done O ha hb (.inl (by simpa using q1))⟩)
          · rw [if_neg q1]
            have q1' : k ≠ 0 := by simpa using q1
            generalize out ++ (a.extract k (k + e)).reverse = out' at m1 ⊢
            obtain ⟨nb1, rfl⟩ : ∃ k, nb = k + 1 := ⟨nb - 1, by omega⟩
            rw [Nat.add_sub_cancel] at y1 y2 ⊢
            have m2 := m1.takeB O ha hb y2 hle
            refine wpS_bind (wpS_elem y1 ?_)
            try dsimp only
            by_cases p1 : (nb1 == 1) = true
            · rw [if_pos p1]
              exact wpS_pure (.inr ⟨_, rfl, ⟨L.sg.1, L.sg.2.1, L.sg.2.2.1, L.sg.2.2.2⟩, first1 _ _ _ m2 (by simpa using p1)⟩)
            · rw [if_neg p1]
              have p2 : nb1 ≠ 1 := by simpa using p1
              obtain ⟨x, x1, x2, x3⟩ := gA (k - 1) (by omega)
              refine wpS_bind (wpS_elem x1 ?_)
              refine wpS_bind (wpS_gallop C (left := true) (key := x) (arr := b) (base := 0) (n := nb1) (hint := nb1 - 1) (by exact L.sg.1.trans hk) (fun i => (b[0 + i]?).getD y) (fun i hi => by
                rw [Array.getElem?_eq_getElem (by omega : 0 + i < b.size)]
                exact ⟨rfl, sB _ (by omega)⟩) x3 (by omega) (fun i j hij hj hbj => by
                rw [Array.getElem?_eq_getElem (by omega : 0 + j < b.size), Option.getD_some, bey_t] at hbj
                rw [Array.getElem?_eq_getElem (by omega : 0 + i < b.size), Option.getD_some, bey_t]
                rcases O.neg _ _ b[0 + i] hbj with z | z
                · have := le_at hb (by omega : 0 + i ≤ 0 + j) (by omega) O
                  unfold leK at this
                  rw [this] at z; cases z
                · exact z) ?_)
              intro n2 hn1 hn2 hn3
              dsimp only
              obtain ⟨d, rfl⟩ : ∃ d, nb1 = n2 + d := ⟨nb1 - n2, by omega⟩
              rw [Nat.add_sub_cancel_left]
              obtain ⟨na1, rfl⟩ : ∃ v, k = v + 1 := ⟨k - 1, by omega⟩
              rw [Nat.add_sub_cancel] at x1 x2 ⊢
              have m3 := MH.takesB (na := na1 + 1) (nb := n2) O ha hb d _ m2 (by omega) (fun i z hi hz y' hy' => by
                have := hn3 (n2 + i) (by omega) (by omega)
                rw [Nat.zero_add, ← Array.getElem?_toList, hz, Option.getD_some, bey_t] at this
                exact O.trans (tail_le O ha x2 y' hy') this)
              have hlt : ∀ y' ∈ b.toList.take n2, leK lt y' x := fun y' hy' => by
                obtain ⟨i, hi, e⟩ := List.mem_take_iff_getElem.mp hy'
                have hi2 : i < n2 := by omega
                have hi3 : i < b.size := by omega
                have := hn2 i hi2
                rw [Nat.zero_add, Array.getElem?_eq_getElem hi3, Option.getD_some, bey_t] at this
                rw [← e]
                exact O.le_of (by simpa using this)
              by_cases c0 : d > 0
              · rw [if_pos c0]
                by_cases c1 : (n2 == 1) = true
                · rw [if_pos c1]
                  exact wpS_pure (.inr ⟨_, rfl, ⟨L.sg.1, L.sg.2.1, L.sg.2.2.1, L.sg.2.2.2⟩, first1 _ _ _ m3 (by simpa using c1)⟩)
                · rw [if_neg c1]
                  have c1' : n2 ≠ 1 := by simpa using c1
                  by_cases c2 : (n2 == 0) = true
                  · rw [if_pos c2]
                    exact wpS_pure (.inr ⟨_, rfl, ⟨L.sg.1, L.sg.2.1, L.sg.2.2.1, L.sg.2.2.2⟩, m3.done O ha hb (.inr (by simpa using c2))⟩)
                  · rw [if_neg c2]
                    have c2' : n2 ≠ 0 := by simpa using c2
                    have m4 := m3.takeA O ha hb x2 hlt
                    refine wpS_bind (wpS_elem x1 ?_)
                    try dsimp only
                    by_cases d1 : (na1 == 0) = true
                    · rw [if_pos d1]
                      exact wpS_pure (.inr ⟨_, rfl, ⟨L.sg.1, L.sg.2.1, L.sg.2.2.1, L.sg.2.2.2⟩, m4.done O ha hb (.inl (by simpa using d1))⟩)
                    · rw [if_neg d1]
                      have d1' : na1 ≠ 0 := by simpa using d1
                      by_cases f1 : (decide (e < 7) && decide (d < 7)) = true
                      · rw [if_pos f1]
                        exact wpS_pure (.inl ⟨rfl, ⟨L.sg.1, L.sg.2.1, L.sg.2.2.1, L.sg.2.2.2⟩, m4, by show 0 < na1; omega, by show 1 < n2; omega, by show na1 ≤ a.size; omega, by show n2 ≤ b.size; omega, by show i + 1 + na1 + n2 < a.size + b.size; omega⟩)
                      · rw [if_neg f1]
                        exact wpS_pure ⟨rfl, ⟨L.sg.1, L.sg.2.1, L.sg.2.2.1, L.sg.2.2.2⟩, m4, by show 0 < na1; omega, by show 1 < n2; omega, by show na1 ≤ a.size; omega, by show n2 ≤ b.size; omega, by show i + 1 + (j + 1) + na1 + n2 < a.size + b.size; omega⟩
              · rw [if_neg c0]
                have c3 : d = 0 := by omega
                subst c3
                rw [Nat.add_zero] at m2 p2 ⊢
                have m4 := m2.takeA O ha hb x2 hlt
                refine wpS_bind (wpS_elem x1 ?_)
                try dsimp only
                by_cases d1 : (na1 == 0) = true
                · rw [if_pos d1]
                  exact wpS_pure (.inr ⟨_, rfl, ⟨L.sg.1, L.sg.2.1, L.sg.2.2.1, L.sg.2.2.2⟩, m4.done O ha hb (.inl (by simpa using d1))⟩)
                · rw [if_neg d1]
                  have d1' : na1 ≠ 0 := by simpa using d1
                  by_cases f1 : (decide (e < 7) && decide (0 < 7)) = true
                  · rw [if_pos f1]
                    exact wpS_pure (.inl ⟨rfl, ⟨L.sg.1, L.sg.2.1, L.sg.2.2.1, L.sg.2.2.2⟩, m4, by show 0 < na1; omega, by show 1 < n2; omega, by show na1 ≤ a.size; omega, by show n2 ≤ b.size; omega, by show i + 1 + na1 + n2 < a.size + b.size; omega⟩)
                  · rw [if_neg f1]
                    exact wpS_pure ⟨rfl, ⟨L.sg.1, L.sg.2.1, L.sg.2.2.1, L.sg.2.2.2⟩, m4, by show 0 < na1; omega, by show 1 < n2; omega, by show na1 ≤ a.size; omega, by show n2 ≤ b.size; omega, by show i + 1 + (j + 1) + na1 + n2 < a.size + b.size; omega⟩
        · rw [if_neg k0]
          have k1 : e = 0 := by omega
          subst k1
          have q1' : k ≠ 0 := by omega
          have m1 := L.mi
          rw [Nat.add_zero] at m1 ⊢
          obtain ⟨nb1, rfl⟩ : ∃ k, nb = k + 1 := ⟨nb - 1, by omega⟩
          rw [Nat.add_sub_cancel] at y1 y2 ⊢
          have m2 := m1.takeB O ha hb y2 hle
          refine wpS_bind (wpS_elem y1 ?_)
          try dsimp only
          by_cases p1 : (nb1 == 1) = true
          · rw [if_pos p1]
            exact wpS_pure (.inr ⟨_, rfl, ⟨L.sg.1, L.sg.2.1, L.sg.2.2.1, L.sg.2.2.2⟩, first1 _ _ _ m2 (by simpa using p1)⟩)
          · rw [if_neg p1]
            have p2 : nb1 ≠ 1 := by simpa using p1
            obtain ⟨x, x1, x2, x3⟩ := gA (k - 1) (by omega)
            refine wpS_bind (wpS_elem x1 ?_)
            refine wpS_bind (wpS_gallop C (left := true) (key := x) (arr := b) (base := 0) (n := nb1) (hint := nb1 - 1) (by exact L.sg.1.trans hk) (fun i => (b[0 + i]?).getD y) (fun i hi => by
              rw [Array.getElem?_eq_getElem (by omega : 0 + i < b.size)]
              exact ⟨rfl, sB _ (by omega)⟩) x3 (by omega) (fun i j hij hj hbj => by
              rw [Array.getElem?_eq_getElem (by omega : 0 + j < b.size), Option.getD_some, bey_t] at hbj
              rw [Array.getElem?_eq_getElem (by omega : 0 + i < b.size), Option.getD_some, bey_t]
              rcases O.neg _ _ b[0 + i] hbj with z | z
              · have := le_at hb (by omega : 0 + i ≤ 0 + j) (by omega) O
                unfold leK at this
                rw [this] at z; cases z
              · exact z) ?_)
            intro n2 hn1 hn2 hn3
            dsimp only
            obtain ⟨d, rfl⟩ : ∃ d, nb1 = n2 + d := ⟨nb1 - n2, by omega⟩
            rw [Nat.add_sub_cancel_left]
            obtain ⟨na1, rfl⟩ : ∃ v, k = v + 1 := ⟨k - 1, by omega⟩
            rw [Nat.add_sub_cancel] at x1 x2 ⊢
            have m3 := MH.takesB (na := na1 + 1) (nb := n2) O ha hb d _ m2 (by omega) (fun i z hi hz y' hy' => by
              have := hn3 (n2 + i) (by omega) (by omega)
              rw [Nat.zero_add, ← Array.getElem?_toList, hz, Option.getD_some, bey_t] at this
              exact O.trans (tail_le O ha x2 y' hy') this)
            have hlt : ∀ y' ∈ b.toList.take n2, leK lt y' x := fun y' hy' => by
              obtain ⟨i, hi, e⟩ := List.mem_take_iff_getElem.mp hy'
              have hi2 : i < n2 := by omega
              have hi3 : i < b.size := by omega
              have := hn2 i hi2
              rw [Nat.zero_add, Array.getElem?_eq_getElem hi3, Option.getD_some, bey_t] at this
              rw [← e]
              exact O.le_of (by simpa using this)
            by_cases c0 : d > 0
            · rw [if_pos c0]
              by_cases c1 : (n2 == 1) = true
              · rw [if_pos c1]
                exact wpS_pure (.inr ⟨_, rfl, ⟨L.sg.1, L.sg.2.1, L.sg.2.2.1, L.sg.2.2.2⟩, first1 _ _ _ m3 (by simpa using c1)⟩)
              · rw [if_neg c1]
                have c1' : n2 ≠ 1 := by simpa using c1
                by_cases c2 : (n2 == 0) = true
                · rw [if_pos c2]
                  exact wpS_pure (.inr ⟨_, rfl, ⟨L.sg.1, L.sg.2.1, L.sg.2.2.1, L.sg.2.2.2⟩, m3.done O ha hb (.inr (by simpa using c2))⟩)
                · rw [if_neg c2]
                  have c2' : n2 ≠ 0 := by simpa using c2
                  have m4 := m3.takeA O ha hb x2 hlt
                  refine wpS_bind (wpS_elem x1 ?_)
                  try dsimp only
                  by_cases d1 : (na1 == 0) = true
                  · rw [if_pos d1]
                    exact wpS_pure (.inr ⟨_, rfl, ⟨L.sg.1, L.sg.2.1, L.sg.2.2.1, L.sg.2.2.2⟩, m4.done O ha hb (.inl (by simpa using d1))⟩)
                  · rw [if_neg d1]
                    have d1' : na1 ≠ 0 := by simpa using d1
                    by_cases f1 : (decide (0 < 7) && decide (d < 7)) = true
                    · rw [if_pos f1]
                      exact wpS_pure (.inl ⟨rfl, ⟨L.sg.1, L.sg.2.1, L.sg.2.2.1, L.sg.2.2.2⟩, m4, by show 0 < na1; omega, by show 1 < n2; omega, by show na1 ≤ a.size; omega, by show n2 ≤ b.size; omega, by show i + 1 + na1 + n2 < a.size + b.size; omega⟩)
                    · rw [if_neg f1]
                      exact wpS_pure ⟨rfl, ⟨L.sg.1, L.sg.2.1, L.sg.2.2.1, L.sg.2.2.2⟩, m4, by show 0 < na1; omega, by show 1 < n2; omega, by show na1 ≤ a.size; omega, by show n2 ≤ b.size; omega, by show i + 1 + (j + 1) + na1 + n2 < a.size + b.size; omega⟩
            · rw [if_neg c0]
              have c3 : d = 0 := by omega
              subst c3
              rw [Nat.add_zero] at m2 p2 ⊢
              have m4 := m2.takeA O ha hb x2 hlt
              refine wpS_bind (wpS_elem x1 ?_)
              try dsimp only
              by_cases d1 : (na1 == 0) = true
              · rw [if_pos d1]
                exact wpS_pure (.inr ⟨_, rfl, ⟨L.sg.1, L.sg.2.1, L.sg.2.2.1, L.sg.2.2.2⟩, m4.done O ha hb (.inl (by simpa using d1))⟩)
              · rw [if_neg d1]
                have d1' : na1 ≠ 0 := by simpa using d1
                by_cases f1 : (decide (0 < 7) && decide (0 < 7)) = true
                · rw [if_pos f1]
                  exact wpS_pure (.inl ⟨rfl, ⟨L.sg.1, L.sg.2.1, L.sg.2.2.1, L.sg.2.2.2⟩, m4, by show 0 < na1; omega, by show 1 < n2; omega, by show na1 ≤ a.size; omega, by show n2 ≤ b.size; omega, by show i + 1 + na1 + n2 < a.size + b.size; omega⟩)
                · rw [if_neg f1]
                  exact wpS_pure ⟨rfl, ⟨L.sg.1, L.sg.2.1, L.sg.2.2.1, L.sg.2.2.2⟩, m4, by show 0 < na1; omega, by show 1 < n2; omega, by show na1 ≤ a.size; omega, by show n2 ≤ b.size; omega, by show i + 1 + (j + 1) + na1 + n2 < a.size + b.size; omega⟩
end
end L2
set_option Elab.async false
set_option linter.all false
set_option maxRecDepth 100000
namespace L2
open PySem PySem.W PySem.Calls PySem.Spec PyProof.Rows
theorem mergeAt'_eq (i : Nat) : mergeAt' i = (do
  let s ← get
  let (some (sa, na, power), some (sb, nb, _)) := ((pendingOf s)[i]?, (pendingOf s)[i + 1]?) | unsupported "internal:list.sort.pending"
  set (SortSt.mk' (kindOf s) (arrOf s) (((pendingOf s).setIfInBounds i (sa, na + nb, power)).eraseIdxIfInBounds (i + 1)) (gallopOf s) (failedOf s))
  let some k ← gallop' false (← elem' (arrOf s) sb) (arrOf s) sa na 0 | return false
  let (sa, na) := (sa + k, na - k)
  if na == 0 then return true
  let some nb ← gallop' true (← elem' (arrOf s) (sa + na - 1)) (arrOf s) sb nb (nb - 1) | return false
  if nb == 0 then return true
  let x := (arrOf s).extract sa sb
  let y := (arrOf s).extract sb (sb + nb)
  let merged ← if na ≤ nb then mergeLo' x y else mergeHi' x y
  modify fun s => setArr s (merged.toList.zipIdx.foldl (fun a (p, j) => a.setIfInBounds (sa + j) p) (arrOf s))
  return (failedOf (← get)).isNone) := rfl
theorem fold_set (c : Array Keyed) : ∀ (l : List Keyed) (c : Array Keyed) (o j : Nat), o + j + l.length ≤ c.size → ((l.zipIdx j).foldl (fun (a : Array Keyed) (p : Keyed × Nat) => a.setIfInBounds (o + p.2) p.1) c).toList = c.toList.take (o + j) ++ l ++ c.toList.drop (o + j + l.length)
  | [], c, o, j, _ => by simp
  | x :: l, c, o, j, h => by
    rw [List.length_cons] at h ⊢
    rw [List.zipIdx_cons, List.foldl_cons, fold_set c l _ o (j + 1) (by rw [Array.size_setIfInBounds]; omega)]
    rw [Array.toList_setIfInBounds]
    have hlt : o + j < c.toList.length := by simp; omega
    rw [show o + (j + 1) = o + j + 1 by omega, List.take_set, List.drop_set_of_lt (by omega)]
    rw [List.take_add_one, List.getElem?_eq_getElem hlt]
    simp only [Option.toList_some]
    rw [List.set_append_right _ _ (by simp; omega)]
    rw [show o + j - (c.toList.take (o + j)).length = 0 by simp; omega]
    simp only [List.set_cons_zero, List.append_assoc, List.singleton_append, List.cons_append]
    rw [show o + j + 1 + l.length = o + j + (l.length + 1) by omega]
    simp
section
variable {prog : Program} {w : World} {A : Around} {E : Value → Shared → Prop} {s : Shared} {κ : SortKind} {S : Keyed → Prop} {lt : Keyed → Keyed → Bool}
theorem wpS_set {st st' : SortSt} {Q : PUnit → SortSt → Prop} (h : Q ⟨⟩ st') : wpS (model prog w) A E s (set st' : StateT SortSt Sem PUnit) Q st := by
  unfold wpS; rw [StateT.run_set]; exact wpAny_pure ⟨rfl, h⟩
theorem join_runs (O : Ord lt) {l : List Keyed} {n1 : Nat} (h1 : (l.take n1).Pairwise (leK lt)) (h2 : (l.drop n1).Pairwise (leK lt)) (h3 : ∀ x ∈ l.take n1, ∀ y ∈ l.drop n1, leK lt x y) : l.Pairwise (leK lt) := by
  rw [← List.take_append_drop n1 l, List.pairwise_append]
  exact ⟨h1, h2, h3⟩
theorem wpS_mergeAt (C : Cmp prog w A E s κ S lt) {st : SortSt} (hk : kindOf st = κ) (hfd : failedOf st = none) {n1 n2 p1 p2 : Nat} (hp : pendingOf st = #[(0, n1, p1), (n1, n2, p2)]) (hn1 : 0 < n1) (hn2 : 0 < n2) (hsz : (arrOf st).size = n1 + n2) (hS : ∀ x ∈ (arrOf st).toList, S x)
    (r1 : ((arrOf st).toList.take n1).Pairwise (leK lt)) (r2 : ((arrOf st).toList.drop n1).Pairwise (leK lt))
    {Q : Bool → SortSt → Prop} (h : ∀ st', failedOf st' = none → pendingOf st' = #[(0, n1 + n2, p1)] → (arrOf st').toList.Perm (arrOf st).toList → (arrOf st').toList.Pairwise (leK lt) → Q true st') : wpS (model prog w) A E s (mergeAt' 0) Q st := by
  have O := C.ord
  rw [mergeAt'_eq]
  refine wpS_bind (wpS_get ?_)
  rw [hp]
  generalize hc : arrOf st = c at *
  have gC : ∀ i (hi : i < c.size), S c[i] := fun i hi => hS _ (by simp)
  have b1 : ∀ i j (hij : i ≤ j) (hj : j < n1), leK lt (c[i]'(by omega)) (c[j]'(by omega)) := fun i j hij hj => by
    rcases Nat.lt_or_eq_of_le hij with q | q
    · have := List.pairwise_iff_getElem.mp r1 i j (by simp; omega) (by simp; omega) q
      simpa using this
    · subst q; exact O.le_refl _
  have b2 : ∀ i j (hi : n1 ≤ i) (hij : i ≤ j) (hj : j < c.size), leK lt (c[i]'(by omega)) c[j] := fun i j hi hij hj => by
    rcases Nat.lt_or_eq_of_le hij with q | q
    · have := List.pairwise_iff_getElem.mp r2 (i - n1) (j - n1) (by simp; omega) (by simp; omega) (by omega)
      simpa [show n1 + (i - n1) = i by omega, show n1 + (j - n1) = j by omega] using this
    · subst q; exact O.le_refl _
  have mT : ∀ x ∈ c.toList.take n1, ∃ i, ∃ hi : i < n1, x = c[i]'(by omega) := fun x hx => by
    obtain ⟨i, hi, e⟩ := List.mem_take_iff_getElem.mp hx
    exact ⟨i, by omega, by rw [← e]; simp⟩
  have mD : ∀ x ∈ c.toList.drop n1, ∃ i, ∃ hi : i < c.size, n1 ≤ i ∧ x = c[i] := fun x hx => by
    obtain ⟨i, hi, e⟩ := List.mem_drop_iff_getElem.mp hx
    have hi' : n1 + i < c.size := by simp at hi; omega
    exact ⟨n1 + i, hi', by omega, by rw [← e]; simp⟩
  have pe : (#[(0, n1, p1), (n1, n2, p2)].setIfInBounds 0 (0, n1 + n2, p1)).eraseIdxIfInBounds (0 + 1) = #[(0, n1 + n2, p1)] := by
    apply Array.toList_inj.mp; simp
  refine wpS_bind (wpS_set ?_)
  rw [pe]
  refine wpS_bind (wpS_elem (Array.getElem?_eq_getElem (by omega : n1 < c.size)) ?_)
  refine wpS_bind (wpS_gallop C (left := false) (key := c[n1]) (arr := c) (base := 0) (n := n1) (hint := 0) (by exact hk) (fun i => (c[0 + i]?).getD c[n1]) (fun i hi => by
    rw [Array.getElem?_eq_getElem (by omega : 0 + i < c.size)]
    exact ⟨rfl, gC _ (by omega)⟩) (gC _ (by omega)) hn1 (fun i j hij hj hbj => by
    rw [Array.getElem?_eq_getElem (by omega : 0 + j < c.size), Option.getD_some] at hbj
    rw [Array.getElem?_eq_getElem (by omega : 0 + i < c.size), Option.getD_some]
    exact bey_fo (O.trans (b1 _ _ (by omega) (by omega)) (bey_ft hbj))) ?_)
  intro k hk1 hk2 hk3
  dsimp only
  have lo : ∀ i (hi : i < k), leK lt (c[i]'(by omega)) c[n1] := fun i hi => by
    have := hk2 i hi
    rw [Nat.zero_add, Array.getElem?_eq_getElem (by omega : i < c.size), Option.getD_some] at this
    exact bey_ft this
  have up : ∀ i (hi : k ≤ i) (hi2 : i < n1), leK lt c[n1] (c[i]'(by omega)) := fun i hi hi2 => by
    have := hk3 i hi hi2
    rw [Nat.zero_add, Array.getElem?_eq_getElem (by omega : i < c.size), Option.getD_some] at this
    exact O.le_of (bey_ff this)
  by_cases e1 : (n1 - k == 0) = true
  · rw [if_pos e1]
    have e1' : n1 - k = 0 := by simpa using e1
    refine wpS_pure (h _ hfd rfl (List.Perm.refl _) (join_runs O r1 r2 fun x hx y hy => ?_))
    obtain ⟨i, hi, rfl⟩ := mT x hx
    obtain ⟨j, hj, hj2, rfl⟩ := mD y hy
    exact O.trans (lo i (by omega)) (b2 _ _ (Nat.le_refl _) hj2 hj)
  · rw [if_neg e1]
    have e1' : n1 - k ≠ 0 := by simpa using e1
    rw [show 0 + k + (n1 - k) - 1 = n1 - 1 by omega]
    refine wpS_bind (wpS_elem (Array.getElem?_eq_getElem (by omega : n1 - 1 < c.size)) ?_)
    refine wpS_bind (wpS_gallop C (left := true) (key := c[n1 - 1]) (arr := c) (base := n1) (n := n2) (hint := n2 - 1) (by exact hk) (fun i => (c[n1 + i]?).getD c[n1]) (fun i hi => by
      rw [Array.getElem?_eq_getElem (by omega : n1 + i < c.size)]
      exact ⟨rfl, gC _ (by omega)⟩) (gC _ (by omega)) (by omega) (fun i j hij hj hbj => by
      rw [Array.getElem?_eq_getElem (by omega : n1 + j < c.size), Option.getD_some, bey_t] at hbj
      rw [Array.getElem?_eq_getElem (by omega : n1 + i < c.size), Option.getD_some, bey_t]
      rcases O.neg _ _ c[n1 + i] hbj with z | z
      · have := b2 (n1 + i) (n1 + j) (by omega) (by omega) (by omega)
        unfold leK at this
        rw [this] at z; cases z
      · exact z) ?_)
    intro m hm1 hm2 hm3
    dsimp only
    have lo2 : ∀ i (hi : i < m), leK lt (c[n1 + i]'(by omega)) c[n1 - 1] := fun i hi => by
      have := hm2 i hi
      rw [Array.getElem?_eq_getElem (by omega : n1 + i < c.size), Option.getD_some, bey_t] at this
      exact O.le_of this
    have up2 : ∀ i (hi : m ≤ i) (hi2 : i < n2), leK lt c[n1 - 1] (c[n1 + i]'(by omega)) := fun i hi hi2 => by
      have := hm3 i hi hi2
      rw [Array.getElem?_eq_getElem (by omega : n1 + i < c.size), Option.getD_some, bey_t] at this
      exact this
    by_cases e2 : (m == 0) = true
    · rw [if_pos e2]
      have e2' : m = 0 := by simpa using e2
      refine wpS_pure (h _ hfd rfl (List.Perm.refl _) (join_runs O r1 r2 fun x hx y hy => ?_))
      obtain ⟨i, hi, rfl⟩ := mT x hx
      obtain ⟨j, hj, hj2, rfl⟩ := mD y hy
      have := up2 (j - n1) (by omega) (by omega)
      rw [show c[n1 + (j - n1)]'(by omega) = c[j] by simp [show n1 + (j - n1) = j by omega]] at this
      exact O.trans (b1 i (n1 - 1) (by omega) (by omega)) this
    · rw [if_neg e2]
      have e2' : m ≠ 0 := by simpa using e2
      have ex : (c.extract (0 + k) n1).toList = (c.toList.take n1).drop k := by
        rw [Nat.zero_add, Array.toList_extract, List.extract_eq_drop_take, List.drop_take]
      have ey : (c.extract n1 (n1 + m)).toList = (c.toList.drop n1).take m := by
        rw [Array.toList_extract, List.extract_eq_drop_take, Nat.add_sub_cancel_left]
      have sx : (c.extract (0 + k) n1).size = n1 - k := by rw [Array.size_extract]; omega
      have sy : (c.extract n1 (n1 + m)).size = m := by rw [Array.size_extract]; omega
      have xs : (c.extract (0 + k) n1).toList.Pairwise (leK lt) := by rw [ex]; exact r1.sublist (List.drop_sublist _ _)
      have ys : (c.extract n1 (n1 + m)).toList.Pairwise (leK lt) := by rw [ey]; exact r2.sublist (List.take_sublist _ _)
      have xm : ∀ u ∈ (c.extract (0 + k) n1).toList, ∃ i, ∃ hi : i < n1, k ≤ i ∧ u = c[i]'(by omega) := fun u hu => by
        rw [ex] at hu
        obtain ⟨i, hi, e⟩ := List.mem_drop_iff_getElem.mp hu
        have hi' : k + i < n1 := by simp at hi; omega
        exact ⟨k + i, hi', by omega, by rw [← e]; simp⟩
      have ym : ∀ u ∈ (c.extract n1 (n1 + m)).toList, ∃ i, ∃ hi : i < m, u = c[n1 + i]'(by omega) := fun u hu => by
        rw [ey] at hu
        obtain ⟨i, hi, e⟩ := List.mem_take_iff_getElem.mp hu
        exact ⟨i, by omega, by rw [← e]; simp⟩
      have xS : ∀ u ∈ (c.extract (0 + k) n1).toList, S u := fun u hu => by obtain ⟨i, hi, _, rfl⟩ := xm u hu; exact gC _ (by omega)
      have yS : ∀ u ∈ (c.extract n1 (n1 + m)).toList, S u := fun u hu => by obtain ⟨i, hi, rfl⟩ := ym u hu; exact gC _ (by omega)
      have y0 : (c.extract n1 (n1 + m))[0]'(by omega) = c[n1] := by simp
      have xl : (c.extract (0 + k) n1)[(c.extract (0 + k) n1).size - 1]'(by omega) = c[n1 - 1] := by
        have e : 0 + k + ((c.extract (0 + k) n1).size - 1) = n1 - 1 := by rw [sx]; omega
        rw [Array.getElem_extract]
        simp only [e]
      have H0 : ∀ u ∈ (c.extract (0 + k) n1).toList, leK lt ((c.extract n1 (n1 + m))[0]'(by omega)) u := fun u hu => by
        rw [y0]; obtain ⟨i, hi, hi2, rfl⟩ := xm u hu; exact up i hi2 hi
      have HL : ∀ v ∈ (c.extract n1 (n1 + m)).toList, leK lt v ((c.extract (0 + k) n1)[(c.extract (0 + k) n1).size - 1]'(by omega)) := fun v hv => by
        rw [xl]; obtain ⟨i, hi, rfl⟩ := ym v hv; exact lo2 i hi
      by_cases q : n1 - k ≤ m
      all_goals
        first | rw [if_pos q] | rw [if_neg q]
        first
          | refine wpS_bind (wpS_mergeLo C (by exact hk) xs ys xS yS (by omega) (by omega) H0 HL fun mg st2 g M => ?_)
          | refine wpS_bind (wpS_mergeHi C (by exact hk) xs ys xS yS (by omega) (by omega) H0 HL fun mg st2 g M => ?_)
        refine wpS_bind (wpS_modify ?_)
        refine wpS_bind (wpS_get ?_)
        have ga : arrOf st2 = c := g.2.1
        have gf : failedOf st2 = none := g.2.2.2.trans hfd
        have gp : pendingOf st2 = #[(0, n1 + n2, p1)] := g.2.2.1
        have ml : mg.toList.length = (n1 - k) + m := by rw [M.perm.length_eq, List.length_append]; simp only [Array.length_toList, sx, sy]
        have fs := fold_set c mg.toList c (0 + k) 0 (by omega)
        rw [Nat.add_zero, ml, Nat.zero_add] at fs
        have fs' : (List.foldl (fun (a : Array Keyed) (x : Keyed × Nat) => a.setIfInBounds (0 + k + x.2) x.1) c mg.toList.zipIdx).toList = c.toList.take k ++ mg.toList ++ c.toList.drop (k + (n1 - k + m)) := by rw [Nat.zero_add]; exact fs
        have key : failedOf (setArr st2 (List.foldl (fun a x => match x with | (p, j) => a.setIfInBounds (0 + k + j) p) (arrOf st2) mg.toList.zipIdx)) = none := gf
        rw [key]
        refine wpS_pure (h _ gf gp ?_ ?_)
        · show (List.foldl (fun (a : Array Keyed) (x : Keyed × Nat) => a.setIfInBounds (0 + k + x.2) x.1) (arrOf st2) mg.toList.zipIdx).toList.Perm c.toList
          rw [ga]
          rw [show (List.foldl (fun (a : Array Keyed) (x : Keyed × Nat) => a.setIfInBounds (0 + k + x.2) x.1) c mg.toList.zipIdx).toList = c.toList.take k ++ mg.toList ++ c.toList.drop (n1 + m) from by rw [fs', show k + (n1 - k + m) = n1 + m by omega]]
          have p1 : (c.toList.take k ++ mg.toList ++ c.toList.drop (n1 + m)).Perm (c.toList.take k ++ ((c.toList.take n1).drop k ++ (c.toList.drop n1).take m) ++ c.toList.drop (n1 + m)) := by
            refine List.Perm.append_right _ (List.Perm.append_left _ ?_)
            rw [← ex, ← ey]; exact M.perm
          have p2 : c.toList.take k ++ ((c.toList.take n1).drop k ++ (c.toList.drop n1).take m) ++ c.toList.drop (n1 + m) = c.toList := by
            have t1 : c.toList.take k ++ (c.toList.take n1).drop k = c.toList.take n1 := by
              have := List.take_append_drop k (c.toList.take n1)
              rwa [List.take_take, Nat.min_eq_left (by omega)] at this
            have t2 : (c.toList.drop n1).take m ++ c.toList.drop (n1 + m) = c.toList.drop n1 := by
              have := List.take_append_drop m (c.toList.drop n1)
              rwa [List.drop_drop] at this
            rw [← List.append_assoc, t1, List.append_assoc, t2, List.take_append_drop]
          rw [p2] at p1
          exact p1
        · show (List.foldl (fun (a : Array Keyed) (x : Keyed × Nat) => a.setIfInBounds (0 + k + x.2) x.1) (arrOf st2) mg.toList.zipIdx).toList.Pairwise (leK lt)
          rw [ga, fs', show k + (n1 - k + m) = n1 + m by omega]
          have mm : ∀ u ∈ mg.toList, (∃ i, ∃ hi : i < n1, k ≤ i ∧ u = c[i]'(by omega)) ∨ ∃ i, ∃ hi : i < m, u = c[n1 + i]'(by omega) := fun u hu => by
            rcases List.mem_append.mp (M.perm.mem_iff.mp hu) with q | q
            · exact .inl (xm u q)
            · exact .inr (ym u q)
          have tk : ∀ u ∈ c.toList.take k, ∃ i, ∃ hi : i < k, u = c[i]'(by omega) := fun u hu => by
            obtain ⟨i, hi, e⟩ := List.mem_take_iff_getElem.mp hu
            exact ⟨i, by omega, by rw [← e]; simp⟩
          have dr : ∀ u ∈ c.toList.drop (n1 + m), ∃ i, ∃ hi : i < n2, m ≤ i ∧ u = c[n1 + i]'(by omega) := fun u hu => by
            obtain ⟨i, hi, e⟩ := List.mem_drop_iff_getElem.mp hu
            have hi' : n1 + m + i < c.size := by simp at hi; omega
            exact ⟨m + i, by omega, by omega, by rw [← e]; simp [Nat.add_assoc]⟩
          rw [List.append_assoc, List.pairwise_append, List.pairwise_append]
          refine ⟨?_, ⟨M.srt, ?_, fun x hx y hy => ?_⟩, fun x hx y hy => ?_⟩
          · have : c.toList.take k = (c.toList.take n1).take k := by rw [List.take_take, Nat.min_eq_left (by omega)]
            rw [this]; exact r1.sublist (List.take_sublist _ _)
          · have : c.toList.drop (n1 + m) = (c.toList.drop n1).drop m := by rw [List.drop_drop]
            rw [this]; exact r2.sublist (List.drop_sublist _ _)
          · obtain ⟨j, hj, hj2, rfl⟩ := dr y hy
            rcases mm x hx with ⟨i, hi, hi2, rfl⟩ | ⟨i, hi, rfl⟩
            · exact O.trans (b1 i (n1 - 1) (by omega) (by omega)) (up2 j hj2 hj)
            · exact b2 _ _ (by omega) (by omega) (by omega)
          · obtain ⟨i, hi, rfl⟩ := tk x hx
            rcases List.mem_append.mp hy with hy | hy
            · rcases mm y hy with ⟨j, hj, hj2, rfl⟩ | ⟨j, hj, rfl⟩
              · exact b1 i j (by omega) hj
              · exact O.trans (lo i hi) (b2 _ _ (Nat.le_refl _) (by omega) (by omega))
            · obtain ⟨j, hj, hj2, rfl⟩ := dr y hy
              exact O.trans (lo i hi) (b2 _ _ (Nat.le_refl _) (by omega) (by omega))
end
end L2
set_option Elab.async false
set_option linter.all false
set_option maxRecDepth 100000
namespace L2
open PySem PySem.W PySem.Calls PySem.Spec PyProof.Rows
def itA (xs : Array Keyed) (i : Nat) : Keyed := (xs[i]?).getD (Value.none, Value.none)
structure Bs (st0 st : SortSt) (lo : Nat) : Prop where
  kd : kindOf st = kindOf st0
  pd : pendingOf st = pendingOf st0
  fd : failedOf st = failedOf st0
  pm : (arrOf st).Perm (arrOf st0)
  ft : ∀ i, i < lo → (arrOf st)[i]? = (arrOf st0)[i]?
theorem Bs.refl (st : SortSt) (lo : Nat) : Bs st st lo := ⟨rfl, rfl, rfl, Array.Perm.refl _, fun _ _ => rfl⟩
theorem Bs.size {st0 st : SortSt} {lo : Nat} (h : Bs st0 st lo) : (arrOf st).size = (arrOf st0).size := h.pm.size_eq
theorem Bs.set {st0 st : SortSt} {lo : Nat} (h : Bs st0 st lo) {xs : Array Keyed} (hp : xs.Perm (arrOf st)) (hf : ∀ i, i < lo → xs[i]? = (arrOf st)[i]?) : Bs st0 (setArr st xs) lo := ⟨h.kd, h.pd, h.fd, hp.trans h.pm, fun i hi => (hf i hi).trans (h.ft i hi)⟩
def AscA (lt : Keyed → Keyed → Bool) (xs : Array Keyed) (lo n : Nat) : Prop := ∀ i j, i ≤ j → j < n → leK lt (itA xs (lo + i)) (itA xs (lo + j))
def DscA (lt : Keyed → Keyed → Bool) (xs : Array Keyed) (lo n : Nat) : Prop := ∀ i j, i ≤ j → j < n → leK lt (itA xs (lo + j)) (itA xs (lo + i))
section
variable {prog : Program} {w : World} {A : Around} {E : Value → Shared → Prop} {s : Shared} {κ : SortKind} {S : Keyed → Prop} {lt : Keyed → Keyed → Bool}
theorem Bs.get {st0 st : SortSt} {lo : Nat} (h : Bs st0 st lo) (hS : ∀ x ∈ (arrOf st0).toList, S x) {i : Nat} (hi : i < (arrOf st0).size) : (arrOf st)[i]? = some (itA (arrOf st) i) ∧ S (itA (arrOf st) i) := by
  have hi' : i < (arrOf st).size := by rw [h.size]; exact hi
  have e : (arrOf st)[i]? = some (arrOf st)[i] := Array.getElem?_eq_getElem hi'
  unfold itA
  rw [e, Option.getD_some]
  refine ⟨rfl, hS _ ?_⟩
  have := Array.perm_iff_toList_perm.mp h.pm
  exact this.mem_iff.mp (by simp)
theorem wpS_at (C : Cmp prog w A E s κ S lt) {st0 st : SortSt} {lo : Nat} (hk : kindOf st0 = κ) (hS : ∀ x ∈ (arrOf st0).toList, S x) (h : Bs st0 st lo) {i j : Nat} (hi : i < (arrOf st0).size) (hj : j < (arrOf st0).size) {Q : Option Bool → SortSt → Prop} (q : Q (some (lt (itA (arrOf st) i) (itA (arrOf st) j))) st) : wpS (model prog w) A E s (ltAt' i j) Q st := by
  rw [ltAt'_eq]
  refine wpS_bind (wpS_get ?_)
  obtain ⟨e1, s1⟩ := h.get hS hi
  obtain ⟨e2, s2⟩ := h.get hS hj
  exact wpS_bind (wpS_elem e1 (wpS_bind (wpS_elem e2 (wpS_lt C (h.kd.trans hk) s1 s2 q))))
theorem wpS_binS (C : Cmp prog w A E s κ S lt) {st0 st : SortSt} {lo n ok : Nat} (hk : kindOf st0 = κ) (hS : ∀ x ∈ (arrOf st0).toList, S x) (hn : lo + n ≤ (arrOf st0).size) (h1 : 1 ≤ ok) (hok : ok ≤ n) (hB : Bs st0 st lo) (hs : AscA lt (arrOf st) lo ok)
    {Q : Bool → SortSt → Prop} (h : ∀ st', Bs st0 st' lo → AscA lt (arrOf st') lo n → Q true st') : wpS (model prog w) A E s (binarySort' lo n ok) Q st := by
  have O := C.ord
  rw [binarySort'_eq]
  refine wpS_bind (wpS_mono (wpS_forRange (fun k c st' => c = (none, ()) ∧ Bs st0 st' lo ∧ AscA lt (arrOf st') lo (min k n)) (Q := fun c st' => c = (none, ()) ∧ Bs st0 st' lo ∧ AscA lt (arrOf st') lo n) ?_ ?_ ?_) ?_)
  rotate_left 2
  · refine ⟨rfl, hB, ?_⟩
    rw [show min (max ok 1) n = ok by omega]; exact hs
  · rintro c st' ⟨rfl, hB', hs'⟩
    exact wpS_pure (h st' hB' hs')
  rotate_left 1
  · rintro c st' ⟨rfl, hB', hs'⟩
    rw [show min (max (max ok 1) n) n = n by omega] at hs'
    exact ⟨rfl, hB', hs'⟩
  rintro k c st1 hk1 hk2 ⟨rfl, hB1, hs1⟩
  rw [show min k n = k by omega] at hs1
  dsimp only
  have hsz := hB1.size
  refine wpS_bind (wpS_mono (wpS_forRange (fun i c st' => st' = st1 ∧ c.1 = none ∧ c.2.1 ≤ c.2.2 ∧ c.2.2 ≤ k ∧ c.2.2 - c.2.1 ≤ k - i ∧ (∀ i, i < c.2.1 → leK lt (itA (arrOf st1) (lo + i)) (itA (arrOf st1) (lo + k))) ∧ (∀ i, c.2.2 ≤ i → i < k → leK lt (itA (arrOf st1) (lo + k)) (itA (arrOf st1) (lo + i)))) (Q := fun c st' => st' = st1 ∧ c.1 = none ∧ c.2.1 ≤ k ∧ (∀ i, i < c.2.1 → leK lt (itA (arrOf st1) (lo + i)) (itA (arrOf st1) (lo + k))) ∧ (∀ i, c.2.1 ≤ i → i < k → leK lt (itA (arrOf st1) (lo + k)) (itA (arrOf st1) (lo + i)))) ?_ ?_ ?_) ?_)
  rotate_left 2
  · exact ⟨rfl, rfl, Nat.zero_le _, Nat.le_refl _, by show k - 0 ≤ k - 0; omega, fun i hi => absurd hi (Nat.not_lt_zero _), fun i hi hi2 => absurd hi (by show ¬ k ≤ i; omega)⟩
  · rintro ⟨r, l, u⟩ st' ⟨rfl, er, g1, g2, g3⟩
    dsimp only at er g1 g2 g3
    subst er
    dsimp only
    rw [moveDown'_eq]
    refine wpS_bind (wpS_modify ?_)
    have hd : lo + k - (lo + l) = k - l := by omega
    have hat := fun i => getElem?_bubble (xs := arrOf st') (src := lo + k) (by omega) (k - l) (by omega) i
    have e0 : lo + k - (k - l) = lo + l := by omega
    refine wpS_pure ⟨rfl, hB1.set (bubble_perm _ _ _) (fun i hi => ?_), ?_⟩
    · rw [hd, hat i, e0, if_neg (by omega), if_neg (by omega)]
    · rw [show min (k + 1) n = k + 1 by omega]
      intro i j hij hj
      show leK lt (itA (bubble (arrOf st') (lo + k) (lo + k - (lo + l))) (lo + i)) (itA (bubble (arrOf st') (lo + k) (lo + k - (lo + l))) (lo + j))
      have at1 : ∀ i, i ≤ k → itA (bubble (arrOf st') (lo + k) (lo + k - (lo + l))) (lo + i) = if i = l then itA (arrOf st') (lo + k) else if l < i then itA (arrOf st') (lo + (i - 1)) else itA (arrOf st') (lo + i) := fun i hi => by
        unfold itA
        rw [hd, hat (lo + i), e0]
        by_cases q1 : i = l
        · rw [if_pos (by omega), if_pos q1]
        · rw [if_neg (by omega), if_neg q1]
          by_cases q2 : l < i
          · rw [if_pos (by omega), if_pos q2, show lo + i - 1 = lo + (i - 1) by omega]
          · rw [if_neg (by omega), if_neg q2]
      rw [at1 i (by omega), at1 j (by omega)]
      by_cases i1 : i = l
      · rw [if_pos i1]
        by_cases j1 : j = l
        · rw [if_pos j1]; exact O.le_refl _
        · rw [if_neg j1, if_pos (by omega)]; exact g3 (j - 1) (by omega) (by omega)
      · rw [if_neg i1]
        by_cases i2 : l < i
        · rw [if_pos i2, if_neg (by omega), if_pos (by omega)]; exact hs1 (i - 1) (j - 1) (by omega) (by omega)
        · rw [if_neg i2]
          by_cases j1 : j = l
          · rw [if_pos j1]; exact g2 i (by omega)
          · rw [if_neg j1]
            by_cases j2 : l < j
            · rw [if_pos j2]; exact hs1 i (j - 1) (by omega) (by omega)
            · rw [if_neg j2]; exact hs1 i j hij (by omega)
  rotate_left 1
  · rintro ⟨r, l, u⟩ st' ⟨rfl, er, g1, g2, g3, g4, g5⟩
    dsimp only at er g1 g2 g3 g4 g5
    have : l = u := by simp at g3; omega
    subst this
    exact ⟨rfl, er, g2, g4, g5⟩
  rintro i ⟨r, l, u⟩ st' _ hi ⟨rfl, er, g1, g2, g3, g4, g5⟩
  dsimp only at er g1 g2 g3 g4 g5 ⊢
  subst er
  by_cases e : l ≥ u
  · rw [if_pos e]
    have : l = u := by omega
    subst this
    exact wpS_pure ⟨rfl, rfl, g2, g4, g5⟩
  · rw [if_neg e]
    refine wpS_bind (wpS_at C hk hS hB1 (by omega) (by omega) ?_)
    dsimp only
    cases ew : lt (itA (arrOf st') (lo + k)) (itA (arrOf st') (lo + (l + u) / 2)) with
    | true =>
      rw [if_pos rfl]
      exact wpS_pure ⟨rfl, rfl, by show l ≤ (l + u) / 2; omega, by show (l + u) / 2 ≤ k; omega, by show (l + u) / 2 - l ≤ k - (i + 1); omega, g4, fun j hj1 hj2 => O.trans (O.le_of ew) (hs1 ((l + u) / 2) j hj1 hj2)⟩
    | false =>
      rw [if_neg (by simp)]
      exact wpS_pure ⟨rfl, rfl, by show (l + u) / 2 + 1 ≤ u; omega, g2, by show u - ((l + u) / 2 + 1) ≤ k - (i + 1); omega, fun j hj => O.trans (hs1 j ((l + u) / 2) (by have hj' : j < (l + u) / 2 + 1 := hj; omega) (by omega)) ew, g5⟩
end
end L2
set_option Elab.async false
set_option linter.all false
set_option maxRecDepth 100000
namespace L2
open PySem PySem.W PySem.Calls PySem.Spec PyProof.Rows
section
variable {prog : Program} {w : World} {A : Around} {E : Value → Shared → Prop} {s : Shared} {κ : SortKind} {S : Keyed → Prop} {lt : Keyed → Keyed → Bool}
theorem it_mirror {xs : Array Keyed} {i j : Nat} (hj : j ≤ xs.size) (k : Nat) : itA (mirror xs i j ((j - i) / 2)) k = if i ≤ k ∧ k < j then itA xs (i + j - 1 - k) else itA xs k := by
  unfold itA
  rw [getElem?_mirror_all hj k]
  split <;> rfl
theorem Bs.mirror {st0 st : SortSt} {lo : Nat} (h : Bs st0 st lo) {i j : Nat} (hi : lo ≤ i) (hj : j ≤ (arrOf st).size) : Bs st0 (setArr st (mirror (arrOf st) i j ((j - i) / 2))) lo := h.set (mirror_perm _ _ _ _) fun k hk => by
  rw [getElem?_mirror_all hj k, if_neg (by omega)]
theorem wpS_asc (C : Cmp prog w A E s κ S lt) {st0 st : SortSt} {lo nrem a : Nat} (hk : kindOf st0 = κ) (hS : ∀ x ∈ (arrOf st0).toList, S x) (hn : lo + nrem ≤ (arrOf st0).size) (ha : 1 ≤ a) (han : a ≤ nrem) (hB : Bs st0 st lo) (hs : AscA lt (arrOf st) lo a)
    {Q : Option (Option Nat) × Nat → SortSt → Prop} (h : ∀ n, a ≤ n → n ≤ nrem → AscA lt (arrOf st) lo n → (n = nrem ∨ lt (itA (arrOf st) (lo + n)) (itA (arrOf st) (lo + n - 1)) = true) → Q (none, n) st) : wpS (model prog w) A E s (forIn [a:nrem] ((none, a) : Option (Option Nat) × Nat) fun _ __s => do
        let __x ← ltAt' (lo + __s.snd) (lo + __s.snd - 1)
        match __x with
        | some smaller => if smaller = true then pure (ForInStep.done (none, __s.snd)) else pure (ForInStep.yield (none, __s.snd + 1))
        | _ => pure (ForInStep.done (some none, __s.snd))) Q st := by
  have O := C.ord
  refine wpS_forRange (fun x c st' => st' = st ∧ c = (none, x) ∧ AscA lt (arrOf st) lo x) ?_ ?_ ⟨rfl, rfl, hs⟩
  · rintro x c st' hax hxn ⟨rfl, rfl, hs'⟩
    dsimp only
    refine wpS_bind (wpS_at C hk hS hB (by omega) (by omega) ?_)
    dsimp only
    cases ew : lt (itA (arrOf st') (lo + x)) (itA (arrOf st') (lo + x - 1)) with
    | true =>
      rw [if_pos rfl]
      exact wpS_pure (h x hax (by omega) hs' (.inr ew))
    | false =>
      rw [if_neg (by simp)]
      refine wpS_pure ⟨rfl, rfl, fun i j hij hj => ?_⟩
      by_cases hjx : j < x
      · exact hs' i j hij hjx
      · have hj' : j = x := by omega
        subst hj'
        by_cases hi' : i = j
        · subst hi'; exact O.le_refl _
        · have e2 : leK lt (itA (arrOf st') (lo + (j - 1))) (itA (arrOf st') (lo + j)) := by
            rw [show lo + (j - 1) = lo + j - 1 by omega]; exact ew
          exact O.trans (hs' i (j - 1) (by omega) (by omega)) e2
  · rintro c st' ⟨rfl, rfl, hs'⟩
    rw [show max a nrem = nrem by omega] at hs' ⊢
    exact h nrem han (Nat.le_refl _) hs' (.inl rfl)
theorem rev_asc (O : Ord lt) {xs : Array Keyed} {lo n : Nat} (hn : lo + n ≤ xs.size) (h : DscA lt xs lo n) : AscA lt (mirror xs lo (lo + n) ((lo + n - lo) / 2)) lo n := fun i j hij hj => by
  rw [it_mirror hn, it_mirror hn, if_pos (by omega), if_pos (by omega)]
  rw [show lo + (lo + n) - 1 - (lo + i) = lo + (n - 1 - i) by omega, show lo + (lo + n) - 1 - (lo + j) = lo + (n - 1 - j) by omega]
  exact h (n - 1 - j) (n - 1 - i) (by omega) (by omega)
def Alk (lt : Keyed → Keyed → Bool) (xs : Array Keyed) (lo u v : Nat) : Prop := ∀ i j, u ≤ i → i < v → u ≤ j → j < v → leK lt (itA xs (lo + i)) (itA xs (lo + j))
theorem rev_alike (O : Ord lt) {xs : Array Keyed} {lo u v n : Nat} (huv : u < v) (hv : v ≤ n) (hn : lo + n ≤ xs.size) (hq : Alk lt xs lo u v) (h : DscA lt xs lo n) : DscA lt (mirror xs (lo + u) (lo + v) ((lo + v - (lo + u)) / 2)) lo n := fun i j hij hj => by
  have e : ∀ k, u ≤ k → k < v → ∃ k', u ≤ k' ∧ k' < v ∧ itA (mirror xs (lo + u) (lo + v) ((lo + v - (lo + u)) / 2)) (lo + k) = itA xs (lo + k') := fun k h1 h2 => ⟨u + v - 1 - k, by omega, by omega, by
    rw [it_mirror (by omega), if_pos (by omega), show lo + u + (lo + v) - 1 - (lo + k) = lo + (u + v - 1 - k) by omega]⟩
  have e' : ∀ k, ¬ (u ≤ k ∧ k < v) → itA (mirror xs (lo + u) (lo + v) ((lo + v - (lo + u)) / 2)) (lo + k) = itA xs (lo + k) := fun k hk => by
    rw [it_mirror (by omega), if_neg (by omega)]
  by_cases hi : u ≤ i ∧ i < v
  · obtain ⟨i', a1, a2, a3⟩ := e i hi.1 hi.2
    by_cases hj' : u ≤ j ∧ j < v
    · obtain ⟨j', b1, b2, b3⟩ := e j hj'.1 hj'.2
      rw [a3, b3]; exact hq j' i' b1 b2 a1 a2
    · rw [a3, e' j hj']; exact h i' j (by omega) hj
  · by_cases hj' : u ≤ j ∧ j < v
    · obtain ⟨j', b1, b2, b3⟩ := e j hj'.1 hj'.2
      rw [e' i hi, b3]; exact h i j' (by omega) (by omega)
    · rw [e' i hi, e' j hj']; exact h i j hij hj
end
end L2
set_option Elab.async false
set_option linter.all false
set_option maxRecDepth 100000
namespace L2
open PySem PySem.W PySem.Calls PySem.Spec PyProof.Rows
section
variable {prog : Program} {w : World} {A : Around} {E : Value → Shared → Prop} {s : Shared} {κ : SortKind} {S : Keyed → Prop} {lt : Keyed → Keyed → Bool}
theorem wpS_rev {st : SortSt} {i j : Nat} {Q : Unit → SortSt → Prop} (h : Q () (setArr st (mirror (arrOf st) i j ((j - i) / 2)))) : wpS (model prog w) A E s (reverseSlice' i j) Q st := by
  rw [reverseSlice'_eq]; exact wpS_modify h
theorem wpS_count (C : Cmp prog w A E s κ S lt) {st0 st : SortSt} {lo nrem : Nat} (hk : kindOf st0 = κ) (hS : ∀ x ∈ (arrOf st0).toList, S x) (hn : lo + nrem ≤ (arrOf st0).size) (h1 : 1 ≤ nrem) (hB : Bs st0 st lo)
    {Q : Option Nat → SortSt → Prop} (h : ∀ m st', Bs st0 st' lo → 1 ≤ m → m ≤ nrem → AscA lt (arrOf st') lo m → Q (some m) st') : wpS (model prog w) A E s (countRun' lo nrem) Q st := by
  have O := C.ord
  have asc1 : AscA lt (arrOf st) lo 1 := fun i j hij hj => by
    rw [show i = j by omega]; exact O.le_refl _
  rw [countRun'_eq]
  refine wpS_bind (wpS_asc C hk hS hn (Nat.le_refl 1) h1 hB asc1 fun n hn1 hn2 hsn hor => ?_)
  dsimp only
  by_cases hnn : n = nrem
  · rw [if_pos (by simpa using hnn)]
    exact wpS_pure (h n st hB hn1 hn2 hsn)
  · rw [if_neg (by simpa using hnn)]
    have hlt := hor.resolve_left hnn
    have hsz := hB.size
    have two : ∀ st2 : SortSt, Bs st0 st2 lo → DscA lt (arrOf st2) lo (n + 1) → Bs st0 st2 lo ∧ DscA lt (arrOf st2) lo (n + 1) := fun _ a b => ⟨a, b⟩
    have start : n > 1 → lt (itA (arrOf st) lo) (itA (arrOf st) (lo + n - 1)) = false → ∃ st2, st2 = setArr st (mirror (arrOf st) lo (lo + n) ((lo + n - lo) / 2)) ∧ Bs st0 st2 lo ∧ DscA lt (arrOf st2) lo (n + 1) := fun hgt hr => by
      have e0 : lo + n - 1 = lo + (n - 1) := by omega
      rw [e0] at hr hlt
      have al : ∀ i j, i < n → j < n → leK lt (itA (arrOf st) (lo + i)) (itA (arrOf st) (lo + j)) := fun i j hi hj => by
        have a1 := hsn i (n - 1) (by omega) (by omega)
        have a2 : leK lt (itA (arrOf st) (lo + (n - 1))) (itA (arrOf st) (lo + 0)) := hr
        exact O.trans (O.trans a1 a2) (hsn 0 j (by omega) hj)
      refine ⟨_, rfl, hB.mirror (Nat.le_refl _) (by omega), fun i j hij hj => ?_⟩
      show leK lt (itA (mirror (arrOf st) lo (lo + n) ((lo + n - lo) / 2)) (lo + j)) (itA (mirror (arrOf st) lo (lo + n) ((lo + n - lo) / 2)) (lo + i))
      rw [it_mirror (by omega), it_mirror (by omega)]
      by_cases hjn : j < n
      · rw [if_pos (by omega), if_pos (by omega), show lo + (lo + n) - 1 - (lo + j) = lo + (n - 1 - j) by omega, show lo + (lo + n) - 1 - (lo + i) = lo + (n - 1 - i) by omega]
        exact al _ _ (by omega) (by omega)
      · have hj' : j = n := by omega
        subst hj'
        rw [if_neg (by omega)]
        by_cases hij' : i = j
        · subst hij'; rw [if_neg (by omega)]; exact O.le_refl _
        · rw [if_pos (by omega), show lo + (lo + j) - 1 - (lo + i) = lo + (j - 1 - i) by omega]
          exact O.trans (O.le_of hlt) (al _ _ (by omega) (by omega))
    have start1 : ¬ n > 1 → ∃ st2, st2 = st ∧ Bs st0 st2 lo ∧ DscA lt (arrOf st2) lo (n + 1) := fun hgt => by
      have e : n = 1 := by omega
      subst e
      refine ⟨st, rfl, hB, fun i j hij hj => ?_⟩
      by_cases q : i = j
      · subst q; exact O.le_refl _
      · have hi : i = 0 := by omega
        have hj2 : j = 1 := by omega
        subst hi hj2
        exact O.le_of hlt
    by_cases hgt : n > 1
    · rw [if_pos hgt]
      refine wpS_bind (wpS_at C hk hS hB (by omega) (by omega) ?_)
      dsimp only
      cases hr : lt (itA (arrOf st) lo) (itA (arrOf st) (lo + n - 1)) with
      | true => rw [if_pos rfl]; exact wpS_pure (h n st hB hn1 hn2 hsn)
      | false =>
        rw [if_neg (by simp)]
        obtain ⟨st2, e2, hB2, hd2⟩ := start hgt hr
        refine wpS_bind (wpS_rev ?_)
        rw [← e2]
        refine wpS_bind (wpS_rule ?_)
        refine wpS_bind (wpS_mono (wpS_forRange (fun x c st' => ∃ neq, c = (none, x, neq) ∧ Bs st0 st' lo ∧ DscA lt (arrOf st') lo x ∧ neq + 1 ≤ x ∧ Alk lt (arrOf st') lo (x - (neq + 1)) x) (Q := fun c st' => ∃ m neq, c = (none, m, neq) ∧ n + 1 ≤ m ∧ m ≤ nrem ∧ Bs st0 st' lo ∧ DscA lt (arrOf st') lo m ∧ neq + 1 ≤ m ∧ Alk lt (arrOf st') lo (m - (neq + 1)) m) ?_ ?_ ?_) ?_)
        rotate_left 2
        · exact ⟨0, rfl, hB2, hd2, by omega, fun i j a1 a2 a3 a4 => by rw [show i = j by omega]; exact O.le_refl _⟩
        · rintro c st3 ⟨m, neq, rfl, hm1, hm2, hB3, hd3, hq3, hal⟩
          dsimp only
          have hsz3 := hB3.size
          have fin : ∀ st4 : SortSt, Bs st0 st4 lo → DscA lt (arrOf st4) lo m → wpS (model prog w) A E s (reverseSlice' lo (lo + m)) (fun _ st5 => Bs st0 st5 lo ∧ AscA lt (arrOf st5) lo m) st4 := fun st4 hB4 hd4 => by
            have hsz4 := hB4.size
            exact wpS_rev ⟨hB4.mirror (Nat.le_refl _) (by omega), rev_asc O (by omega) hd4⟩
          by_cases q : neq > 0
          · rw [if_pos q]
            have e : lo + m - (neq + 1) = lo + (m - (neq + 1)) := by omega
            rw [e]
            refine wpS_bind (wpS_rev ?_)
            refine wpS_bind (wpS_mono (fin _ (hB3.mirror (by omega) (by omega)) (rev_alike O (by omega) (Nat.le_refl _) (by omega) hal hd3)) fun _ st5 h5 => ?_)
            exact wpS_bind (wpS_asc C hk hS hn (by omega) hm2 h5.1 h5.2 fun n' a1 a2 a3 _ => wpS_pure (h n' st5 h5.1 (by omega) a2 a3))
          · rw [if_neg q]
            refine wpS_bind (wpS_mono (fin _ hB3 hd3) fun _ st5 h5 => ?_)
            exact wpS_bind (wpS_asc C hk hS hn (by omega) hm2 h5.1 h5.2 fun n' a1 a2 a3 _ => wpS_pure (h n' st5 h5.1 (by omega) a2 a3))
        rotate_left 1
        · rintro c st3 ⟨neq, rfl, hB3, hd3, hq3, hal⟩
          rw [show max (n + 1) nrem = nrem by omega] at hd3 hq3 hal ⊢
          exact ⟨nrem, neq, rfl, by omega, Nat.le_refl _, hB3, hd3, hq3, hal⟩
        rintro x c st3 hx1 hx2 ⟨neq, rfl, hB3, hd3, hq3, hal⟩
        dsimp only
        have hsz3 := hB3.size
        refine wpS_bind (wpS_at C hk hS hB3 (by omega) (by omega) ?_)
        dsimp only
        have ex : lo + x - 1 = lo + (x - 1) := by omega
        rw [ex]
        cases ew : lt (itA (arrOf st3) (lo + x)) (itA (arrOf st3) (lo + (x - 1))) with
        | true =>
          rw [if_pos rfl]
          have grow : ∀ xs : Array Keyed, DscA lt xs lo x → leK lt (itA xs (lo + x)) (itA xs (lo + (x - 1))) → DscA lt xs lo (x + 1) := fun xs hd hl i j hij hj => by
            by_cases hjx : j < x
            · exact hd i j hij hjx
            · have hj' : j = x := by omega
              subst hj'
              by_cases hi' : i = j
              · subst hi'; exact O.le_refl _
              · exact O.trans hl (hd i (j - 1) (by omega) (by omega))
          by_cases q : neq > 0
          · rw [if_pos q]
            have e : lo + x - (neq + 1) = lo + (x - (neq + 1)) := by omega
            rw [e]
            refine wpS_bind (wpS_rev ?_)
            refine wpS_pure ⟨0, rfl, hB3.mirror (by omega) (by omega), grow _ (rev_alike O (by omega) (Nat.le_refl _) (by omega) hal hd3) ?_, by omega, fun i j a1 a2 a3 a4 => by rw [show i = j by omega]; exact O.le_refl _⟩
            show leK lt (itA (mirror (arrOf st3) (lo + (x - (neq + 1))) (lo + x) ((lo + x - (lo + (x - (neq + 1)))) / 2)) (lo + x)) (itA (mirror (arrOf st3) (lo + (x - (neq + 1))) (lo + x) ((lo + x - (lo + (x - (neq + 1)))) / 2)) (lo + (x - 1)))
            rw [it_mirror (by omega), it_mirror (by omega), if_neg (by omega), if_pos (by omega), show lo + (x - (neq + 1)) + (lo + x) - 1 - (lo + (x - 1)) = lo + (x - (neq + 1)) by omega]
            exact O.trans (O.le_of ew) (hal (x - 1) (x - (neq + 1)) (by omega) (by omega) (by omega) (by omega))
          · rw [if_neg q]
            exact wpS_pure ⟨0, rfl, hB3, grow _ hd3 (O.le_of ew), by omega, fun i j a1 a2 a3 a4 => by rw [show i = j by omega]; exact O.le_refl _⟩
        | false =>
          rw [if_neg (by simp)]
          refine wpS_bind (wpS_at C hk hS hB3 (by omega) (by omega) ?_)
          dsimp only
          cases ev : lt (itA (arrOf st3) (lo + (x - 1))) (itA (arrOf st3) (lo + x)) with
          | true =>
            rw [if_pos rfl]
            exact wpS_pure ⟨x, neq, rfl, hx1, by omega, hB3, hd3, hq3, hal⟩
          | false =>
            rw [if_neg (by simp)]
            have up : leK lt (itA (arrOf st3) (lo + (x - 1))) (itA (arrOf st3) (lo + x)) := ew
            have dn : leK lt (itA (arrOf st3) (lo + x)) (itA (arrOf st3) (lo + (x - 1))) := ev
            refine wpS_pure ⟨neq + 1, rfl, hB3, fun i j hij hj => ?_, by omega, fun i j a1 a2 a3 a4 => ?_⟩
            · by_cases hjx : j < x
              · exact hd3 i j hij hjx
              · have hj' : j = x := by omega
                subst hj'
                by_cases hi' : i = j
                · subst hi'; exact O.le_refl _
                · exact O.trans dn (hd3 i (j - 1) (by omega) (by omega))
            · by_cases ix : i = x
              · rw [ix]
                by_cases jx : j = x
                · rw [jx]; exact O.le_refl _
                · exact O.trans dn (hal (x - 1) j (by omega) (by omega) (by omega) (by omega))
              · by_cases jx : j = x
                · rw [jx]; exact O.trans (hal i (x - 1) (by omega) (by omega) (by omega) (by omega)) up
                · exact hal i j (by omega) (by omega) (by omega) (by omega)
    · rw [if_neg hgt]
      obtain ⟨st2, e2, hB2, hd2⟩ := start1 hgt
      rw [← e2]
      refine wpS_bind (wpS_rule ?_)
      refine wpS_bind (wpS_mono (wpS_forRange (fun x c st' => ∃ neq, c = (none, x, neq) ∧ Bs st0 st' lo ∧ DscA lt (arrOf st') lo x ∧ neq + 1 ≤ x ∧ Alk lt (arrOf st') lo (x - (neq + 1)) x) (Q := fun c st' => ∃ m neq, c = (none, m, neq) ∧ n + 1 ≤ m ∧ m ≤ nrem ∧ Bs st0 st' lo ∧ DscA lt (arrOf st') lo m ∧ neq + 1 ≤ m ∧ Alk lt (arrOf st') lo (m - (neq + 1)) m) ?_ ?_ ?_) ?_)
      rotate_left 2
      · exact ⟨0, rfl, hB2, hd2, by omega, fun i j a1 a2 a3 a4 => by rw [show i = j by omega]; exact O.le_refl _⟩
      · rintro c st3 ⟨m, neq, rfl, hm1, hm2, hB3, hd3, hq3, hal⟩
        dsimp only
        have hsz3 := hB3.size
        have fin : ∀ st4 : SortSt, Bs st0 st4 lo → DscA lt (arrOf st4) lo m → wpS (model prog w) A E s (reverseSlice' lo (lo + m)) (fun _ st5 => Bs st0 st5 lo ∧ AscA lt (arrOf st5) lo m) st4 := fun st4 hB4 hd4 => by
          have hsz4 := hB4.size
          exact wpS_rev ⟨hB4.mirror (Nat.le_refl _) (by omega), rev_asc O (by omega) hd4⟩
        by_cases q : neq > 0
        · rw [if_pos q]
          have e : lo + m - (neq + 1) = lo + (m - (neq + 1)) := by omega
          rw [e]
          refine wpS_bind (wpS_rev ?_)
          refine wpS_bind (wpS_mono (fin _ (hB3.mirror (by omega) (by omega)) (rev_alike O (by omega) (Nat.le_refl _) (by omega) hal hd3)) fun _ st5 h5 => ?_)
          exact wpS_bind (wpS_asc C hk hS hn (by omega) hm2 h5.1 h5.2 fun n' a1 a2 a3 _ => wpS_pure (h n' st5 h5.1 (by omega) a2 a3))
        · rw [if_neg q]
          refine wpS_bind (wpS_mono (fin _ hB3 hd3) fun _ st5 h5 => ?_)
          exact wpS_bind (wpS_asc C hk hS hn (by omega) hm2 h5.1 h5.2 fun n' a1 a2 a3 _ => wpS_pure (h n' st5 h5.1 (by omega) a2 a3))
      rotate_left 1
      · rintro c st3 ⟨neq, rfl, hB3, hd3, hq3, hal⟩
        rw [show max (n + 1) nrem = nrem by omega] at hd3 hq3 hal ⊢
        exact ⟨nrem, neq, rfl, by omega, Nat.le_refl _, hB3, hd3, hq3, hal⟩
      rintro x c st3 hx1 hx2 ⟨neq, rfl, hB3, hd3, hq3, hal⟩
      dsimp only
      have hsz3 := hB3.size
      refine wpS_bind (wpS_at C hk hS hB3 (by omega) (by omega) ?_)
      dsimp only
      have ex : lo + x - 1 = lo + (x - 1) := by omega
      rw [ex]
      cases ew : lt (itA (arrOf st3) (lo + x)) (itA (arrOf st3) (lo + (x - 1))) with
      | true =>
        rw [if_pos rfl]
        have grow : ∀ xs : Array Keyed, DscA lt xs lo x → leK lt (itA xs (lo + x)) (itA xs (lo + (x - 1))) → DscA lt xs lo (x + 1) := fun xs hd hl i j hij hj => by
          by_cases hjx : j < x
          · exact hd i j hij hjx
          · have hj' : j = x := by omega
            subst hj'
            by_cases hi' : i = j
            · subst hi'; exact O.le_refl _
            · exact O.trans hl (hd i (j - 1) (by omega) (by omega))
        by_cases q : neq > 0
        · rw [if_pos q]
          have e : lo + x - (neq + 1) = lo + (x - (neq + 1)) := by omega
          rw [e]
          refine wpS_bind (wpS_rev ?_)
          refine wpS_pure ⟨0, rfl, hB3.mirror (by omega) (by omega), grow _ (rev_alike O (by omega) (Nat.le_refl _) (by omega) hal hd3) ?_, by omega, fun i j a1 a2 a3 a4 => by rw [show i = j by omega]; exact O.le_refl _⟩
          show leK lt (itA (mirror (arrOf st3) (lo + (x - (neq + 1))) (lo + x) ((lo + x - (lo + (x - (neq + 1)))) / 2)) (lo + x)) (itA (mirror (arrOf st3) (lo + (x - (neq + 1))) (lo + x) ((lo + x - (lo + (x - (neq + 1)))) / 2)) (lo + (x - 1)))
          rw [it_mirror (by omega), it_mirror (by omega), if_neg (by omega), if_pos (by omega), show lo + (x - (neq + 1)) + (lo + x) - 1 - (lo + (x - 1)) = lo + (x - (neq + 1)) by omega]
          exact O.trans (O.le_of ew) (hal (x - 1) (x - (neq + 1)) (by omega) (by omega) (by omega) (by omega))
        · rw [if_neg q]
          exact wpS_pure ⟨0, rfl, hB3, grow _ hd3 (O.le_of ew), by omega, fun i j a1 a2 a3 a4 => by rw [show i = j by omega]; exact O.le_refl _⟩
      | false =>
        rw [if_neg (by simp)]
        refine wpS_bind (wpS_at C hk hS hB3 (by omega) (by omega) ?_)
        dsimp only
        cases ev : lt (itA (arrOf st3) (lo + (x - 1))) (itA (arrOf st3) (lo + x)) with
        | true =>
          rw [if_pos rfl]
          exact wpS_pure ⟨x, neq, rfl, hx1, by omega, hB3, hd3, hq3, hal⟩
        | false =>
          rw [if_neg (by simp)]
          have up : leK lt (itA (arrOf st3) (lo + (x - 1))) (itA (arrOf st3) (lo + x)) := ew
          have dn : leK lt (itA (arrOf st3) (lo + x)) (itA (arrOf st3) (lo + (x - 1))) := ev
          refine wpS_pure ⟨neq + 1, rfl, hB3, fun i j hij hj => ?_, by omega, fun i j a1 a2 a3 a4 => ?_⟩
          · by_cases hjx : j < x
            · exact hd3 i j hij hjx
            · have hj' : j = x := by omega
              subst hj'
              by_cases hi' : i = j
              · subst hi'; exact O.le_refl _
              · exact O.trans dn (hd3 i (j - 1) (by omega) (by omega))
          · by_cases ix : i = x
            · rw [ix]
              by_cases jx : j = x
              · rw [jx]; exact O.le_refl _
              · exact O.trans dn (hal (x - 1) j (by omega) (by omega) (by omega) (by omega))
            · by_cases jx : j = x
              · rw [jx]; exact O.trans (hal i (x - 1) (by omega) (by omega) (by omega) (by omega)) up
              · exact hal i j (by omega) (by omega) (by omega) (by omega)
end
end L2
set_option Elab.async false
set_option linter.all false
set_option maxRecDepth 100000
namespace L2
open PySem PySem.W PySem.Calls PySem.Spec PyProof.Rows
section
variable {prog : Program} {w : World} {A : Around} {E : Value → Shared → Prop} {s : Shared} {κ : SortKind} {S : Keyed → Prop} {lt : Keyed → Keyed → Bool}
theorem it_at {xs : Array Keyed} {i : Nat} (h : i < xs.size) : itA xs i = xs[i] := by unfold itA; rw [Array.getElem?_eq_getElem h]; rfl
theorem asc_take {xs : Array Keyed} {n : Nat} (hn : n ≤ xs.size) (h : AscA lt xs 0 n) : (xs.toList.take n).Pairwise (leK lt) := by
  rw [List.pairwise_iff_getElem]
  intro i j hi hj hij
  have hi' : i < n := by simp at hi; omega
  have hj' : j < n := by simp at hj; omega
  have := h i j (by omega) hj'
  rw [Nat.zero_add, Nat.zero_add, it_at (by omega), it_at (by omega)] at this
  simpa using this
theorem asc_drop {xs : Array Keyed} {n m : Nat} (hn : n + m = xs.size) (h : AscA lt xs n m) : (xs.toList.drop n).Pairwise (leK lt) := by
  rw [List.pairwise_iff_getElem]
  intro i j hi hj hij
  have hi' : i < m := by simp at hi; omega
  have hj' : j < m := by simp at hj; omega
  have := h i j (by omega) hj'
  rw [it_at (by omega), it_at (by omega)] at this
  simpa using this
theorem minRun_ok {n : Nat} (h2 : 2 ≤ n) (h64 : n ≤ 64) : n ≤ 2 * minRun' n n 0 ∧ 1 ≤ minRun' n n 0 := by
  obtain ⟨f, hf⟩ : ∃ f, n = f + 1 := ⟨n - 1, by omega⟩
  by_cases h : n < 64
  · have : minRun' (f + 1) n 0 = n := by rw [minRun'_succ, if_pos h]; rfl
    rw [← hf] at this
    rw [this]; omega
  · have : n = 64 := by omega
    subst this
    have e : minRun' 64 64 0 = 32 := by rfl
    rw [e]; omega
structure RA (st st' : SortSt) : Prop where
  kd : kindOf st' = kindOf st
  fd : failedOf st' = none
  pm : (arrOf st').Perm (arrOf st)
def D9 (lt : Keyed → Keyed → Bool) (st : SortSt) (n : Nat) (c : Option Unit × Nat) (st' : SortSt) : Prop := c = (none, n) ∧ RA st st' ∧ ((pendingOf st' = #[(0, n, 0)] ∧ AscA lt (arrOf st') 0 n) ∨ ∃ n1 n2 pw, 0 < n1 ∧ 0 < n2 ∧ n1 + n2 = n ∧ pendingOf st' = #[(0, n1, pw), (n1, n2, 0)] ∧ AscA lt (arrOf st') 0 n1 ∧ AscA lt (arrOf st') n1 n2)
def I9 (lt : Keyed → Keyed → Bool) (st : SortSt) (n mr x : Nat) (c : Option Unit × Nat) (st' : SortSt) : Prop := (x = 0 ∧ c = (none, 0) ∧ st' = st) ∨ (x = 1 ∧ ∃ n1, c = (none, n1) ∧ 1 ≤ n1 ∧ n1 < n ∧ n ≤ n1 + mr ∧ RA st st' ∧ pendingOf st' = #[(0, n1, 0)] ∧ AscA lt (arrOf st') 0 n1) ∨ D9 lt st n c st'
theorem wpS_sortAll (C : Cmp prog w A E s κ S lt) {st : SortSt} (hk : kindOf st = κ) (hp : pendingOf st = #[]) (hf : failedOf st = none) (hS : ∀ x ∈ (arrOf st).toList, S x) (h2 : 2 ≤ (arrOf st).size) (h64 : (arrOf st).size ≤ 64)
    {Q : Unit → SortSt → Prop} (h : ∀ st', failedOf st' = none → (arrOf st').Perm (arrOf st) → (arrOf st').toList.Pairwise (leK lt) → Q () st') : wpS (model prog w) A E s sortRuns' Q st := by
  have O := C.ord
  rw [sortRuns'_eq]
  refine wpS_bind (wpS_get ?_)
  dsimp only
  obtain ⟨hm2, hm1⟩ := minRun_ok h2 h64
  generalize hn : (arrOf st).size = n at *
  generalize minRun' n n 0 = mr at hm1 hm2 ⊢
  have sub : ∀ {st' : SortSt}, (arrOf st').Perm (arrOf st) → ∀ x ∈ (arrOf st').toList, S x := fun {st'} p x hx => hS x ((Array.perm_iff_toList_perm.mp p).mem_iff.mp hx)
  refine wpS_bind (wpS_mono (wpS_forRange (I := fun x c st' => I9 lt st n mr x c st') (Q := fun c st' => D9 lt st n c st') ?step ?fin (.inl ⟨rfl, rfl, rfl⟩)) ?post)
  case fin =>
    rintro c st' (⟨hx, _, _⟩ | ⟨hx, _⟩ | hD)
    · omega
    · omega
    · exact hD
  case step =>
    rintro x c st' _ hx (⟨rfl, rfl, rfl⟩ | ⟨rfl, n1, rfl, hn1, hn1n, hn1m, R, hp1, ha1⟩ | D)
    · dsimp only
      rw [if_neg (by omega)]
      have first : ∀ (st3 : SortSt) (m : Nat), Bs st' st3 0 → 1 ≤ m → m ≤ n → (m = n ∨ mr ≤ m) → AscA lt (arrOf st3) 0 m → I9 lt st' n mr (0 + 1) (none, 0 + m) (setPending st3 ((pendingOf st3).push (0, m, 0))) := fun st3 m B a1 a2 a3 a4 => by
        have hpd : (pendingOf st3).push (0, m, 0) = #[(0, m, 0)] := by rw [B.pd, hp]; rfl
        have R : RA st' (setPending st3 ((pendingOf st3).push (0, m, 0))) := ⟨B.kd, B.fd.trans hf, B.pm⟩
        by_cases e : m = n
        · subst e; exact .inr (.inr ⟨by rw [Nat.zero_add], R, .inl ⟨hpd, a4⟩⟩)
        · exact .inr (.inl ⟨rfl, m, by rw [Nat.zero_add], a1, by omega, by omega, R, hpd, a4⟩)
      refine wpS_bind (wpS_count C (lo := 0) (nrem := n - 0) hk hS (by omega) (by omega) (Bs.refl st' 0) fun m st2 hB2 hm1' hm2' hs2 => ?_)
      dsimp only
      have hb : ∀ st3 : SortSt, Bs st' st3 0 → (pendingOf st3).back? = none := fun st3 B => by rw [B.pd, hp]; rfl
      by_cases hlt : m < mr
      · rw [if_pos hlt]
        refine wpS_bind (wpS_rule ?_)
        refine wpS_bind (wpS_binS C (lo := 0) (n := min (n - 0) mr) hk hS (by omega) hm1' (by omega) hB2 hs2 fun st3 hB3 hs3 => ?_)
        simp only [Bool.not_true, Bool.false_eq_true, if_false]
        refine wpS_bind (wpS_get ?_)
        rw [hb st3 hB3]
        dsimp only
        exact wpS_bind (wpS_modify (wpS_pure (first st3 (min (n - 0) mr) hB3 (by omega) (by omega) (by omega) hs3)))
      · rw [if_neg hlt]
        refine wpS_bind (wpS_get ?_)
        rw [hb st2 hB2]
        dsimp only
        exact wpS_bind (wpS_modify (wpS_pure (first st2 m hB2 hm1' (by omega) (.inr (by omega)) hs2)))
    · dsimp only
      rw [if_neg (by omega)]
      have hsz : (arrOf st').size = n := by rw [R.pm.size_eq, hn]
      refine wpS_bind (wpS_count C (lo := n1) (nrem := n - n1) (R.kd.trans hk) (sub R.pm) (by omega) (by omega) (Bs.refl st' n1) fun m st2 hB2 hm1' hm2' hs2 => ?_)
      dsimp only
      by_cases hlt : m < mr
      · rw [if_pos hlt]
        refine wpS_bind (wpS_rule ?_)
        refine wpS_bind (wpS_binS C (lo := n1) (n := min (n - n1) mr) (R.kd.trans hk) (sub R.pm) (by omega) hm1' (by omega) hB2 hs2 fun st3 hB3 hs3 => ?_)
        simp only [Bool.not_true, Bool.false_eq_true, if_false]
        rw [show min (n - n1) mr = n - n1 by omega] at hs3
        refine wpS_bind (wpS_get ?_)
        rw [show (pendingOf st3).back? = some (0, n1, 0) by rw [hB3.pd, hp1]; rfl]
        dsimp only
        refine wpS_bind (wpS_mono (wpS_forRange (I := fun _ c st'' => st'' = st3 ∧ c.1 = none) (Q := fun c st'' => st'' = st3 ∧ c.1 = none) ?_ (fun _ _ hh => hh) ⟨rfl, rfl⟩) ?_)
        · rintro y c' st'' _ _ ⟨rfl, hc⟩
          refine wpS_bind (wpS_get ?_)
          rw [if_neg (by rw [hB3.pd, hp1]; show ¬ 1 > 1; omega)]
          exact wpS_pure ⟨rfl, rfl⟩
        · rintro ⟨r', u'⟩ st'' ⟨rfl, hc⟩
          dsimp only at hc
          subst hc
          dsimp only
          refine wpS_bind (wpS_modify ?_)
          refine wpS_bind (wpS_modify ?_)
          refine wpS_pure (.inr (.inr ⟨?_, ⟨hB3.kd.trans R.kd, hB3.fd.trans R.fd, hB3.pm.trans R.pm⟩, .inr ⟨n1, n - n1, power' n (2 * 0 + n1) (2 * 0 + n1 + n1 + (min (n - n1) mr)) n, by omega, by omega, by omega, ?_, ?_, hs3⟩⟩))
          · rw [show n1 + (min (n - n1) mr) = n by omega]
          · show ((pendingOf st'').modify _ _).push _ = _
            rw [hB3.pd, hp1, show min (n - n1) mr = n - n1 by omega]
            apply Array.toList_inj.mp
            simp
          · intro i j hij hj
            have e : ∀ k, k < n1 → itA (arrOf st'') (0 + k) = itA (arrOf st') (0 + k) := fun k hk => by
              unfold itA; rw [hB3.ft (0 + k) (by omega)]
            show leK lt (itA (arrOf st'') (0 + i)) (itA (arrOf st'') (0 + j))
            rw [e i (by omega), e j hj]
            exact ha1 i j hij hj
      · rw [if_neg hlt]
        have em : m = n - n1 := by omega
        subst em
        refine wpS_bind (wpS_get ?_)
        rw [show (pendingOf st2).back? = some (0, n1, 0) by rw [hB2.pd, hp1]; rfl]
        dsimp only
        refine wpS_bind (wpS_mono (wpS_forRange (I := fun _ c st'' => st'' = st2 ∧ c.1 = none) (Q := fun c st'' => st'' = st2 ∧ c.1 = none) ?_ (fun _ _ hh => hh) ⟨rfl, rfl⟩) ?_)
        · rintro y c' st'' _ _ ⟨rfl, hc⟩
          refine wpS_bind (wpS_get ?_)
          rw [if_neg (by rw [hB2.pd, hp1]; show ¬ 1 > 1; omega)]
          exact wpS_pure ⟨rfl, rfl⟩
        · rintro ⟨r', u'⟩ st'' ⟨rfl, hc⟩
          dsimp only at hc
          subst hc
          dsimp only
          refine wpS_bind (wpS_modify ?_)
          refine wpS_bind (wpS_modify ?_)
          refine wpS_pure (.inr (.inr ⟨?_, ⟨hB2.kd.trans R.kd, hB2.fd.trans R.fd, hB2.pm.trans R.pm⟩, .inr ⟨n1, n - n1, power' n (2 * 0 + n1) (2 * 0 + n1 + n1 + (n - n1)) n, by omega, by omega, by omega, ?_, ?_, hs2⟩⟩))
          · rw [show n1 + (n - n1) = n by omega]
          · show ((pendingOf st'').modify _ _).push _ = _
            rw [hB2.pd, hp1, show n - n1 = n - n1 by omega]
            apply Array.toList_inj.mp
            simp
          · intro i j hij hj
            have e : ∀ k, k < n1 → itA (arrOf st'') (0 + k) = itA (arrOf st') (0 + k) := fun k hk => by
              unfold itA; rw [hB2.ft (0 + k) (by omega)]
            show leK lt (itA (arrOf st'') (0 + i)) (itA (arrOf st'') (0 + j))
            rw [e i (by omega), e j hj]
            exact ha1 i j hij hj
    · obtain ⟨e, D⟩ := D
      subst e
      dsimp only
      rw [if_pos (Nat.le_refl _)]
      exact wpS_pure ⟨rfl, D⟩
  case post =>
    rintro c st' ⟨rfl, R, D⟩
    dsimp only
    have hsz : (arrOf st').size = n := by rw [R.pm.size_eq, hn]
    have whole : ∀ st'' : SortSt, RA st st'' → AscA lt (arrOf st'') 0 n → (arrOf st'').toList.Pairwise (leK lt) := fun st'' R2 ha => by
      have hs2 : (arrOf st'').size = n := by rw [R2.pm.size_eq, hn]
      have := asc_take (by omega) ha
      rwa [List.take_of_length_le (by simp; omega)] at this
    refine wpS_bind (wpS_mono (wpS_forRange (I := fun x c st'' => c.1 = none ∧ ((x = 0 ∧ st'' = st') ∨ (failedOf st'' = none ∧ (arrOf st'').Perm (arrOf st) ∧ (pendingOf st'').size = 1 ∧ (arrOf st'').toList.Pairwise (leK lt)))) (Q := fun c st'' => c.1 = none ∧ failedOf st'' = none ∧ (arrOf st'').Perm (arrOf st) ∧ (arrOf st'').toList.Pairwise (leK lt)) ?_ ?_ ⟨rfl, .inl ⟨rfl, rfl⟩⟩) ?_)
    · rintro x ⟨r, u⟩ st'' _ _ ⟨hc, hh⟩
      dsimp only at hc
      subst hc
      refine wpS_bind (wpS_get ?_)
      rcases hh with ⟨rfl, rfl⟩ | ⟨q1, q2, q3, q4⟩
      · rcases D with ⟨hp1, ha⟩ | ⟨n1, n2, pw, hn1, hn2, hnn, hp2, ha1, ha2⟩
        · rw [if_pos (by rw [hp1]; exact Nat.le_refl 1)]
          exact wpS_pure ⟨rfl, R.fd, R.pm, whole _ R ha⟩
        · rw [if_neg (by rw [hp2]; show ¬ 2 ≤ 1; omega)]
          rw [hp2]
          refine wpS_bind (wpS_mergeAt C (R.kd.trans hk) R.fd hp2 hn1 hn2 (by omega) (sub R.pm) (asc_take (by omega) ha1) (asc_drop (by omega) ha2) fun st3 g1 g2 g3 g4 => ?_)
          simp only [Bool.not_true, Bool.false_eq_true, if_false]
          refine wpS_pure ⟨rfl, .inr ⟨g1, ?_, by rw [g2]; rfl, g4⟩⟩
          exact (Array.perm_iff_toList_perm.mpr g3).trans R.pm
      · rw [if_pos (by omega)]
        exact wpS_pure ⟨rfl, q1, q2, q4⟩
    · rintro ⟨r, u⟩ st'' ⟨hc, hh⟩
      rcases hh with ⟨hx, _⟩ | ⟨q1, q2, q3, q4⟩
      · omega
      · exact ⟨hc, q1, q2, q4⟩
    · rintro ⟨r, u⟩ st'' ⟨hc, q1, q2, q4⟩
      dsimp only at hc
      subst hc
      exact wpS_pure (h _ q1 q2 q4)
end
end L2
set_option Elab.async false
set_option linter.all false
set_option maxRecDepth 100000
namespace L2
open PySem PySem.W PySem.Calls PySem.Spec PyProof.Rows
theorem ltP_t {a b : Int × Int} : ltP a b = true ↔ a.1 < b.1 ∨ (a.1 = b.1 ∧ a.2 < b.2) := by
  unfold ltP
  by_cases h : a.1 = b.1
  · rw [if_pos h]
    by_cases h2 : a.2 = b.2
    · rw [if_pos h2]; simp; omega
    · rw [if_neg h2]; simp; omega
  · rw [if_neg h]; simp; omega
theorem ltP_f {a b : Int × Int} : ltP a b = false ↔ ¬ (a.1 < b.1 ∨ (a.1 = b.1 ∧ a.2 < b.2)) := by
  rw [← ltP_t]; simp
def leP (a b : Int × Int) : Bool := !ltP b a
theorem leP_t {a b : Int × Int} : leP a b = true ↔ a.1 < b.1 ∨ (a.1 = b.1 ∧ a.2 ≤ b.2) := by
  unfold leP
  rw [Bool.not_eq_true', ltP_f]; omega
def srtP (ps : List (Int × Int)) : List (Int × Int) := ps.mergeSort leP
theorem leP_trans (a b c : Int × Int) (h1 : leP a b = true) (h2 : leP b c = true) : leP a c = true := by
  rw [leP_t] at *; omega
theorem leP_total (a b : Int × Int) : (leP a b || leP b a) = true := by
  rw [Bool.or_eq_true, leP_t, leP_t]; omega
theorem leP_anti (a b : Int × Int) (h1 : leP a b = true) (h2 : leP b a = true) : a = b := by
  rw [leP_t] at *
  exact Prod.ext (by omega) (by omega)
theorem srtP_perm (ps : List (Int × Int)) : (srtP ps).Perm ps := List.mergeSort_perm ps leP
theorem srtP_len (ps : List (Int × Int)) : (srtP ps).length = ps.length := (srtP_perm ps).length_eq
theorem srtP_rise (ps : List (Int × Int)) : (srtP ps).Pairwise (fun a b => leP a b = true) := List.pairwise_mergeSort leP_trans leP_total ps
theorem srtP_eq {qs ps : List (Int × Int)} (hp : qs.Perm ps) (hs : qs.Pairwise (fun a b => leP a b = true)) : qs = srtP ps := List.Perm.eq_of_pairwise (fun a b _ _ => leP_anti a b) hs (srtP_rise ps) (hp.trans (srtP_perm ps).symm)
theorem PairAt.uniq {h : Heap} {v : Value} {p q : Int × Int} (a : PairAt h v p) (b : PairAt h v q) : p = q := by
  obtain ⟨x, o, n, t, u, rfl, h1, h2, h3⟩ := a
  obtain ⟨x', o', n', t', u', e, h1', h2', h3'⟩ := b
  cases e
  rw [h1] at h1'
  cases h1'
  rw [h3] at h3'
  have := (Data.seq.inj h3').1
  have e1 : (Value.int p.1 t) = .int q.1 t' ∧ (Value.int p.2 u) = .int q.2 u' := by simpa using this
  exact Prod.ext (Value.int.inj e1.1).1 (Value.int.inj e1.2).1
noncomputable def keyV (h : Heap) (v : Value) : Int × Int := Classical.epsilon (PairAt h v)
theorem keyV_at {h : Heap} {v : Value} {p : Int × Int} (a : PairAt h v p) : PairAt h v (keyV h v) ∧ keyV h v = p :=
  ⟨Classical.epsilon_spec ⟨p, a⟩, (Classical.epsilon_spec (p := PairAt h v) ⟨p, a⟩).uniq a⟩
theorem PairsAt.keys {h : Heap} {vs : List Value} {ps : List (Int × Int)} (a : PairsAt h vs ps) : vs.map (keyV h) = ps ∧ ∀ v ∈ vs, PairAt h v (keyV h v) := by
  induction a with
  | nil => exact ⟨rfl, fun v hv => by cases hv⟩
  | cons b _ ih =>
    refine ⟨by rw [List.map_cons, (keyV_at b).2, ih.1], fun v hv => ?_⟩
    rcases List.mem_cons.mp hv with rfl | hv
    · exact (keyV_at b).1
    · exact ih.2 v hv
theorem pairsAt_of {h : Heap} : ∀ {vs : List Value}, (∀ v ∈ vs, PairAt h v (keyV h v)) → PairsAt h vs (vs.map (keyV h))
  | [], _ => .nil
  | v :: vs, a => .cons (a v List.mem_cons_self) (pairsAt_of fun u hu => a u (List.mem_cons_of_mem _ hu))
section
variable {prog : Program} {w : World} {A : Around} {E : Value → Shared → Prop} {s : Shared}
theorem cmp_pairs (prog : Program) (w : World) (A : Around) (E : Value → Shared → Prop) (s : Shared) : Cmp prog w A E s (tuples' true) (fun x => PairAt s.heap x.1 (keyV s.heap x.1)) (fun x y => ltP (keyV s.heap x.1) (keyV s.heap y.1)) :=
  ⟨fun x y hx hy Q q => pair_lt hx hy q, fun x => by rw [ltP_f]; omega, fun x y h => by rw [ltP_t] at h; rw [ltP_f]; omega, fun x y z h => by rw [ltP_t] at h; rw [ltP_t, ltP_t]; omega⟩
theorem list_sort_q {a : Addr} {n : Nat} {vs : List Value} {ps : List (Int × Int)} {P : PySem.Fin → Shared → Prop} (ho : s.heap.get? a = some (seqObj "list" vs.toArray n)) (hp : PairsAt s.heap vs ps) (h64 : vs.length ≤ 64)
    (h : ∀ us : List Value, us.Perm vs → PairsAt s.heap us (srtP ps) → P (.done (.ret .none)) { s with heap := sortedHeap s.heap a vs us.toArray }) :
    wpAny (model prog w) A (Builtin.«list.sort» ⟨[.ref a], []⟩) P E s := by
  have hlen := hp.len
  have ha : a < s.heap.objs.size := Heap.lt_size ho
  obtain ⟨e1, ho1⟩ : ∃ e1, (s.heap.update a (Obj.mapSeq fun _ => (#[] : Array Value))).get? a = some (seqObj "list" #[] e1) := ⟨_, get?_update_seq ho fun _ => #[]⟩
  rw [list_sort_plain]
  refine wpAny_bind (listItems_at ho rfl ?_)
  refine wpAny_bind (listUpdate_at ho rfl ?_ (by rw [List.size_toArray, sizeLine_eq]; omega) (Nat.zero_le _))
  refine wpAny_bind (seqEpoch_at ho1 rfl ?_)
  refine wpAny_bind (wpAny_newTuple ?_ (by show vs.length ≤ _; rw [sizeLine_eq]; omega))
  refine wpAny_bind (wpAny_newList ?_ (Nat.zero_le _))
  refine wpAny_holding ?_
  have ho6 : (((s.heap.update a (Obj.mapSeq fun _ => (#[] : Array Value))).push (seqObj "tuple" vs.toArray 0)).push (seqObj "list" #[] 0)).get? a = some (seqObj "list" #[] e1) := Heap.get?_push_of_some _ (Heap.get?_push_of_some _ ho1)
  have kp : ∀ b o, o.cls = .type "tuple" → s.heap.get? b = some o → (((s.heap.update a (Obj.mapSeq fun _ => (#[] : Array Value))).push (seqObj "tuple" vs.toArray 0)).push (seqObj "list" #[] 0)).get? b = some o := fun b o hc hb => by
    have hne : b ≠ a := fun z => by
      subst z
      rw [ho] at hb
      have := Option.some.inj hb
      rw [← this] at hc
      exact absurd hc (by simp [seqObj])
    refine Heap.get?_push_of_some _ (Heap.get?_push_of_some _ ?_)
    rw [Heap.get?_update_ne _ _ _ _ hne]
    exact hb
  have hp6 := hp.keep kp
  show wpAny (model prog w) A _ P E { s with heap := ((s.heap.update a (Obj.mapSeq fun _ => (#[] : Array Value))).push (seqObj "tuple" vs.toArray 0)).push (seqObj "list" #[] 0) }
  dsimp only
  have hsz : vs.toArray.size = vs.length := by simp
  obtain ⟨kv, ka⟩ := hp.keys
  obtain ⟨kv6, ka6⟩ := hp6.keys
  by_cases h2 : vs.toArray.size < 2
  · rw [if_pos h2, if_pos h2]
    have ps1 : srtP ps = ps := (srtP_eq (List.Perm.refl _) (by
      match ps, hlen with
      | [], _ => exact .nil
      | [p], _ => simp
      | p :: q :: r, e => simp at e; omega)).symm
    refine wpAny_bind (wpAny_pure ?_)
    rw [StateT.run_pure]
    refine wpAny_bind (wpAny_pure ?_)
    dsimp only
    have ez : (arrOf (SortSt.mk' general' (vs.toArray.zip vs.toArray) #[] 7 none)).map (·.2) = vs.toArray := by
      apply Array.toList_inj.mp
      show ((vs.toArray.zip vs.toArray).map (·.2)).toList = vs
      simp
      exact (List.map_snd_zip (Nat.le_refl _))
    refine wpAny_bind (seqEpoch_at ho6 rfl ?_)
    refine wpAny_bind (listUpdate_at ho6 rfl ?_ (Nat.zero_le _) (by rw [ez, hsz, sizeLine_eq]; omega))
    simp only [bne_self_eq_false, Bool.false_eq_true, if_false]
    rw [ez]
    exact wpAny_pure (h vs (List.Perm.refl _) (by rw [ps1]; exact hp))
  · rw [if_neg h2, if_neg h2]
    obtain ⟨fs, ht, hfl, hfi⟩ := hp6.tups
    refine wpAny_bind (kat_kind (T := .type "int") (s := { s with heap := ((s.heap.update a (Obj.mapSeq fun _ => (#[] : Array Value))).push (seqObj "tuple" vs.toArray 0)).push (seqObj "list" #[] 0) }) ht (by omega) (fun v hv => by obtain ⟨i, t, rfl⟩ := hfi v hv; exact Looks.of_pure rfl) rfl ?_)
    have hT : (Value.type "int" != Value.type "tuple") = true := by rfl
    rw [hT]
    have zl : (vs.toArray.zip vs.toArray).toList = vs.zip vs := by simp
    have zs : (vs.toArray.zip vs.toArray).size = vs.length := by simp
    have zm : ∀ q ∈ vs.zip vs, q.1 = q.2 ∧ q.2 ∈ vs := fun q hq => by
      obtain ⟨i, hi, e⟩ := List.getElem_of_mem hq
      rw [List.getElem_zip] at e
      rw [← e]; exact ⟨rfl, List.getElem_mem _⟩
    refine wpAny_bind (wpAny_mono (wpS_sortAll (cmp_pairs prog w A E { s with heap := ((s.heap.update a (Obj.mapSeq fun _ => (#[] : Array Value))).push (seqObj "tuple" vs.toArray 0)).push (seqObj "list" #[] 0) }) (st := SortSt.mk' (tuples' true) (vs.toArray.zip vs.toArray) #[] 7 none) rfl rfl rfl (fun x hx => by
      rw [show (arrOf (SortSt.mk' (tuples' true) (vs.toArray.zip vs.toArray) #[] 7 none)).toList = vs.zip vs from zl] at hx
      obtain ⟨g1, g2⟩ := zm x hx
      rw [g1]; exact ka6 _ g2) (by show 2 ≤ (vs.toArray.zip vs.toArray).size; omega) (by show (vs.toArray.zip vs.toArray).size ≤ 64; omega)
      (Q := fun _ st' => failedOf st' = none ∧ (arrOf st').Perm (vs.toArray.zip vs.toArray) ∧ (arrOf st').toList.Pairwise (leK fun x y => ltP (keyV (((s.heap.update a (Obj.mapSeq fun _ => (#[] : Array Value))).push (seqObj "tuple" vs.toArray 0)).push (seqObj "list" #[] 0)) x.1) (keyV (((s.heap.update a (Obj.mapSeq fun _ => (#[] : Array Value))).push (seqObj "tuple" vs.toArray 0)).push (seqObj "list" #[] 0)) y.1))) fun st' a1 a2 a3 => ⟨a1, a2, a3⟩) ?_ fun _ _ e => e)
    rintro ⟨⟨⟩, st'⟩ s' ⟨rfl, hf, hpm, hsr⟩
    dsimp only
    have pl : (arrOf st').toList.Perm (vs.zip vs) := by
      have := Array.perm_iff_toList_perm.mp hpm
      rwa [zl] at this
    have um : ((arrOf st').toList.map (·.2)).Perm vs := by
      have := pl.map (·.2)
      rwa [List.map_snd_zip (Nat.le_refl _)] at this
    have eo : (arrOf st').map (·.2) = ((arrOf st').toList.map (·.2)).toArray := by
      apply Array.toList_inj.mp; simp
    have same : ∀ v ∈ vs, keyV (((s.heap.update a (Obj.mapSeq fun _ => (#[] : Array Value))).push (seqObj "tuple" vs.toArray 0)).push (seqObj "list" #[] 0)) v = keyV s.heap v := fun v hv => by
      obtain ⟨x, o, n', t, u, rfl, b1, b2, b3⟩ := ka v hv
      exact (keyV_at ⟨x, o, n', t, u, rfl, kp _ _ b2 b1, b2, b3⟩).2
    have hfin : PairsAt s.heap ((arrOf st').toList.map (·.2)) (srtP ps) := by
      have e : ((arrOf st').toList.map (·.2)).map (keyV s.heap) = srtP ps := by
        refine srtP_eq ?_ ?_
        · rw [← kv]; exact um.map _
        · rw [List.map_map, List.pairwise_map]
          refine hsr.imp_of_mem fun {x y} hx hy hxy => ?_
          obtain ⟨x1, x2⟩ := zm x (pl.mem_iff.mp hx)
          obtain ⟨y1, y2⟩ := zm y (pl.mem_iff.mp hy)
          unfold leK at hxy
          dsimp only at hxy
          rw [x1, y1, same _ x2, same _ y2] at hxy
          show (!ltP (keyV s.heap y.2) (keyV s.heap x.2)) = true
          rw [hxy]; rfl
      rw [← e]
      exact pairsAt_of fun v hv => ka v (um.mem_iff.mp hv)
    rw [eo]
    refine wpAny_bind (seqEpoch_at ho6 rfl ?_)
    refine wpAny_bind (listUpdate_at ho6 rfl ?_ (Nat.zero_le _) (by rw [List.size_toArray, um.length_eq, sizeLine_eq]; omega))
    rw [hf]
    simp only [bne_self_eq_false, Bool.false_eq_true, if_false]
    exact wpAny_pure (h _ um hfin)
theorem sorted_q {l : Addr} {vs : List Value} {ps : List (Int × Int)} {Q : Value → Shared → Prop} (hl : s.heap.IsList l vs.toArray) (hp : PairsAt s.heap vs ps) (h64 : vs.length ≤ 64)
    (h : ∀ us : List Value, us.Perm vs → PairsAt s.heap us (srtP ps) → Q (.ref (s.heap.objs.size + 1)) { s with heap := sortedAll s.heap vs us.toArray }) :
    wpAny (model prog w) A (call (.builtin "sorted") [.ref l]) Q E s := by
  refine Calls.call_function_entry kind_sorted plain_sorted entry_sorted (args_sorted1 _) ?_
  unfold Builtin.«sorted»
  refine wpAny_bind (m := checkCount "sorted" 1 1 _) (wpAny_pure ?_)
  refine wpAny_bind (collect_list hl ?_ (by rw [sizeLine_eq]; omega))
  refine wpAny_bind (wpAny_newList ?_ (by rw [sizeLine_eq]; omega))
  have hsz : ((s.heap.push (seqObj "list" #[] 0)).update s.heap.objs.size (Obj.mapSeq (· ++ vs.toArray))).objs.size = s.heap.objs.size + 1 := by
    rw [Heap.size_update, size_push']
  have hoL : (((s.heap.push (seqObj "list" #[] 0)).update s.heap.objs.size (Obj.mapSeq (· ++ vs.toArray))).push (seqObj "list" vs.toArray 0)).get? (s.heap.objs.size + 1) = some (seqObj "list" vs.toArray 0) := by
    rw [← hsz]; exact Heap.get?_push_size _ rfl
  have kp : ∀ b o, s.heap.get? b = some o → (((s.heap.push (seqObj "list" #[] 0)).update s.heap.objs.size (Obj.mapSeq (· ++ vs.toArray))).push (seqObj "list" vs.toArray 0)).get? b = some o := fun b o hb => by
    have hlt : b < s.heap.objs.size := Heap.lt_size hb
    refine Heap.get?_push_of_some _ ?_
    rw [Heap.get?_update_ne _ _ _ _ (Nat.ne_of_lt hlt)]
    exact Heap.get?_push_of_some _ hb
  have hp2 := hp.keep fun b o _ hb => kp b o hb
  show wpAny _ _ _ _ _ { s with heap := ((s.heap.push (seqObj "list" #[] 0)).update s.heap.objs.size (Obj.mapSeq (· ++ vs.toArray))).push (seqObj "list" vs.toArray 0) }
  rw [hsz]
  refine wpAny_bind (wpAny_holding (wpAny_call_entry slot_list_sort ⟨_, hoL, rfl⟩ entry_list_sort (list_sort_q (s := { s with heap := ((s.heap.push (seqObj "list" #[] 0)).update s.heap.objs.size (Obj.mapSeq (· ++ vs.toArray))).push (seqObj "list" vs.toArray 0) }) hoL hp2 h64 fun us um up => ⟨_, rfl, ?_⟩) (args_list_sort _)))
  refine wpAny_pure ⟨_, rfl, h us um ?_⟩
  obtain ⟨k1, k2⟩ := hp.keys
  have e : us.map (keyV s.heap) = srtP ps := by
    obtain ⟨k3, k4⟩ := up.keys
    rw [← k3]
    refine List.map_congr_left fun v hv => ?_
    obtain ⟨x, o, n', t, u, rfl, b1, b2, b3⟩ := k2 v (um.mem_iff.mp hv)
    exact (keyV_at ⟨x, o, n', t, u, rfl, b1, b2, b3⟩).2.trans (keyV_at ⟨x, o, n', t, u, rfl, kp _ _ b1, b2, b3⟩).2.symm
  rw [← e]
  exact pairsAt_of fun v hv => k2 v (um.mem_iff.mp hv)
end
theorem Vals.perm {vs us : List Value} (h : us.Perm vs) : ∀ {ys : List V}, Vals ys vs → ∃ ys', ys'.Perm ys ∧ Vals ys' us := by
  induction h with
  | nil => intro ys v; exact ⟨ys, List.Perm.refl _, v⟩
  | cons x _ ih =>
    intro ys v
    cases v with
    | cons r v =>
      obtain ⟨ys', h1, h2⟩ := ih v
      exact ⟨_, h1.cons _, .cons r h2⟩
  | swap x y l =>
    intro ys v
    cases v with
    | cons r1 v =>
      cases v with
      | cons r2 v => exact ⟨_, List.Perm.swap _ _ _, .cons r2 (.cons r1 v)⟩
  | trans _ _ ih1 ih2 =>
    intro ys v
    obtain ⟨ys2, a1, a2⟩ := ih2 v
    obtain ⟨ys1, b1, b2⟩ := ih1 a2
    exact ⟨ys1, b1.trans a1, b2⟩
def rSortedQ (K : PySem.W.Frag) : List V → Hp → VK → Prop := fun xs H Q => ∃ p ys ps, xs = [.ref p] ∧ SqL K H p ys ∧ PairVs H ys ps ∧ ps.length ≤ 64 ∧ ∀ ys', PairVs H ys' (srtP ps) → ∀ l, H l = none → Q (.ref l) (upd H l (.lst ys'))
theorem PairVs.mem {H : Hp} {ys : List V} {ps : List (Int × Int)} (h : PairVs H ys ps) : ∀ y ∈ ys, ∃ p, PairV H y p := by
  induction h with
  | nil => intro y hy; cases hy
  | cons b _ ih =>
    intro y hy
    rcases List.mem_cons.mp hy with rfl | hy
    · exact ⟨_, b⟩
    · exact ih y hy
theorem PairVs.len {H : Hp} {ys : List V} {ps : List (Int × Int)} (h : PairVs H ys ps) : ys.length = ps.length := by
  induction h with
  | nil => rfl
  | cons _ _ ih => rw [List.length_cons, List.length_cons, ih]
section
variable {X : Cx}
theorem pair_at {pins : List (Addr × Obj)} {s : Shared} {σ : St} {H : Hp} (I : Inv X pins σ H s) {y : V} {v : Value} {p : Int × Int} (h : PairV H y p) (r : RelV y v) : PairAt s.heap v p := by
  obtain ⟨a, rfl, ha⟩ := h
  obtain ⟨ts, rt, ⟨o, h1, h2, n, h3⟩, _⟩ := I.tuple (SqT.of (K := X.K) ha)
  cases r
  cases rt with
  | cons r1 rt =>
    cases rt with
    | cons r2 rt =>
      cases rt
      obtain ⟨t, rfl⟩ := r1
      obtain ⟨u, rfl⟩ := r2
      exact ⟨_, o, n, t, u, rfl, h1, h2, h3⟩
theorem pairs_at {pins : List (Addr × Obj)} {s : Shared} {σ : St} {H : Hp} (I : Inv X pins σ H s) : ∀ {ys : List V} {ps : List (Int × Int)}, PairVs H ys ps → ∀ {its : List Value}, Vals ys its → PairsAt s.heap its ps := by
  intro ys ps hp
  induction hp with
  | nil => intro its v; cases v; exact .nil
  | cons b _ ih =>
    intro its v
    cases v with
    | cons rv rvs => exact .cons (pair_at I b rv) (ih rvs)
theorem pairs_back {pins : List (Addr × Obj)} {s : Shared} {σ : St} {H : Hp} (I : Inv X pins σ H s) {us : List Value} {qs : List (Int × Int)} (h : PairsAt s.heap us qs) : ∀ {ys : List V}, Vals ys us → (∀ y ∈ ys, ∃ p, PairV H y p) → PairVs H ys qs := by
  induction h with
  | nil => intro ys v _; cases v; exact .nil
  | cons b _ ih =>
    intro ys v m
    cases v with
    | cons r v =>
      refine .cons ?_ (ih v fun y hy => m y (List.mem_cons_of_mem _ hy))
      obtain ⟨p, hp⟩ := m _ List.mem_cons_self
      have := (pair_at I hp r).uniq b
      rw [← this]; exact hp
theorem call_sortedQ : CallR X (.builtin "sorted") (rSortedQ X.K) := by
  intro pins s σ H xs us Q I r h
  obtain ⟨p, ys, ps, rfl, hq, hp, hz, q⟩ := h
  cases r with
  | cons rx rr =>
    cases rr
    cases rx
    obtain ⟨its, r', pl, hz'⟩ := I.list hq
    have hpa := pairs_at I hp r'
    have hl := hpa.len
    refine sorted_q pl.isList hpa (by omega) fun us um up => ?_
    obtain ⟨ys', y1, y2⟩ := Vals.perm um r'
    have hP := pairs_back I up y2 fun y hy => hp.mem y (y1.mem_iff.mp hy)
    obtain ⟨c, hat⟩ := sortedAll_at s.heap its us.toArray
    exact lay_list (k := s.toks) (acc := us.toArray) I (by rw [y1.length_eq]; exact hz') (q ys' hP) (Nat.le_succ _) (fun b o e => sortedAll_old e) hat (by simpa using y2)
theorem call_sortedQK {K : PySem.W.Frag} (h : X.K = K) : CallR X (.builtin "sorted") (rSortedQ K) := h ▸ call_sortedQ
end
end L2
namespace Mir
open PySem L2
variable [Zc]
noncomputable def gSortedQ : List D → Option (D × Bool)
  | [.list ds] => (pairsOf ds).bind fun ps => cIf (ps.length ≤ 64) (some (.list ((srtP ps).map pD), true)) none
  | _ => none
theorem reps_pairs {F : Fr} {B H : Hp} {σ : St} {ρ : Rho} (R : Rel F B H σ ρ) {ys : List V} {qs : List (Int × Int)} (h : PairVs H ys qs) : Reps B ys (qs.map pD) := by
  induction h with
  | nil => exact .nil
  | cons b _ ih =>
    obtain ⟨a, rfl, ha⟩ := b
    exact .cons (.tup (R.tupB _ _ ha) (.cons (.int _) (.cons (.int _) .nil))) ih
theorem me_sortedQ {K : PySem.W.Frag} {t : TA} {m : Rho → Option (List RV × Rho)} (h : MA t m) : ME (tCB (rSortedQ K) t) (mCB gSortedQ m) := by
  intro F B H σ ρ r0 ρ' Q R e q
  obtain ⟨x, e1, e⟩ := Option.bind_eq_some_iff.mp e
  obtain ⟨res, e4, e⟩ := Option.map_eq_some_iff.mp e
  cases e
  refine h F B H σ ρ x.1 x.2 _ R e1 fun vs B1 H1 E1 R1 V1 => ?_
  have hv := V1.views R1
  generalize x.1.map (·.1) = ds at e4 hv
  unfold gSortedQ at e4
  split at e4
  · obtain ⟨ps, h1, h2⟩ := Option.bind_eq_some_iff.mp e4
    obtain ⟨hz, e5⟩ := cIf_eq h2
    cases e5
    obtain ⟨v, rfl, hh⟩ := views1 hv
    obtain ⟨p, xs, rfl, r1, rp1⟩ := hh.list R1.sub
    refine ⟨p, xs, ps, rfl, rd_sq r1, rp1.pairs R1.sub h1, hz, fun ys' hy l hl => ?_⟩
    exact res_end (res := (.list ((srtP ps).map pD), true)) (k := fun Q => ∀ p, H1 p = none → Q (.ref p) (upd H1 p (.lst ys'))) (Q := Q) R1 ⟨ys', reps_pairs R1 hy, fun Q h => h⟩ (fun w B3 H3 E3 R3 V4 N4 => q w B3 H3 (E1.trans E3) R3 V4 fun p z1 z2 => E1.live p (N4 p z1 z2)) l hl
  · cases e4
end Mir
set_option maxHeartbeats 4000000
set_option Elab.async false
set_option linter.all false
set_option maxRecDepth 100000
namespace K72
open PySem L2 Mir
noncomputable def wc1_most_below : Rho → Option (Bool × Rho) :=
    (mTest (mOp gLe (mVar 3) (mVar 0)))
noncomputable def wb1_most_below : SM :=
    (mSeq (mAsg 4 (mOp gAdd (mVar 2) (mVar 3)))
    (mSeq (mAsg 2 (mVar 3))
    (mSeq (mAsg 3 (mVar 4))
    (mAug 1 (fun i j => i + j) (mC (.int 1))))))
noncomputable def b_most_below : SM :=
    (mSeq (mAsg 1 (mC (.int 0)))
    (mSeq (mAsg 2 (mC (.int 1)))
    (mSeq (mAsg 3 (mC (.int 2)))
    (mSeq (mWhile wc1_most_below
    wb1_most_below 1000000)
    (mRet (mVar 1))))))
noncomputable def m_most_below : List D → Option (D × Bool) := fnM 1 4 b_most_below
noncomputable def lb1_law_row_at : SM :=
    (mPar 1 2 (mCons (mVar 2) (mCons (mOp gAdd (mVar 1) (mVar 2)) mNil)))
noncomputable def b_law_row_at : SM :=
    (mSeq (mAsg 1 (mC (.int 1)))
    (mSeq (mAsg 2 (mC (.int 1)))
    (mSeq (mFor (mRg2 (mCons (mC (.int 1)) (mCons (mVar 0) mNil))) (mgN 3)
    lb1_law_row_at)
    (mRet (mVar 1)))))
noncomputable def m_law_row_at : List D → Option (D × Bool) := fnM 1 3 b_law_row_at
noncomputable def b_law_number : SM :=
    (mSeq (mIfS (mTest (mOp gEq (mOp gMod (mVar 0) (mC (.int 3))) (mC (.int 0))))
    (mRet (mOp gMod (mOp gDiv (mVar 0) (mC (.int 3))) (mC (.int 40))))
    mPass)
    (mSeq (mIfS (mTest (mOp gEq (mOp gMod (mVar 0) (mC (.int 3))) (mC (.int 1))))
    (mRet (mCB gMax (mCons (mC (.int 0)) (mCons (mOp gSub (mOp gAdd (mCall m_law_row_at (mCons (mOp gAdd (mC (.int 1)) (mOp gMod (mOp gDiv (mVar 0) (mC (.int 9))) (mC (.int 280)))) mNil)) (mOp gMod (mOp gDiv (mVar 0) (mC (.int 3))) (mC (.int 3)))) (mC (.int 1))) mNil))))
    mPass)
    (mRet (mOp gMod (mOp gDiv (mVar 0) (mC (.int 3))) (mOp gPow (mC (.int 10)) (mC (.int 60)))))))
noncomputable def m_law_number : List D → Option (D × Bool) := fnM 1 0 b_law_number
noncomputable def ce1_law : PM :=
    (mOp gGt (mOp gIx (mVar 0) (mC (.int 1))) (mOp gIx (mVar 1) (mC (.int 1))))
noncomputable def lb1_law : SM :=
    (mSeq (mAsg 4 (mCall m_most_below (mCons (mVar 3) mNil)))
    (mSeq (mIfS (mOr (mNot (mTest (mIsi "int" (mVar 4)))) (mOr (mTest (mIsi "bool" (mVar 4))) (mTest (mOp gLt (mVar 4) (mC (.int 0))))))
    (mRet (mC (.bool false)))
    mPass)
    (mSeq (mIfS (mTest (mOp gLe (mCall m_law_row_at (mCons (mOp gAdd (mVar 4) (mC (.int 3))) mNil)) (mVar 3)))
    (mRet (mC (.bool false)))
    mPass)
    (mSeq (mIfS (mAnd (mTest (mOp gGt (mVar 4) (mC (.int 0)))) (mTest (mOp gGt (mCall m_law_row_at (mCons (mOp gAdd (mVar 4) (mC (.int 2))) mNil)) (mVar 3))))
    (mRet (mC (.bool false)))
    mPass)
    (mDrop (mMut 2 fAppend (mCons (mTup (mCons (mVar 3) (mCons (mVar 4) mNil))) mNil)))))))
noncomputable def ce2_law : PM :=
    (mCall m_law_number (mCons (mVar 0) mNil))
noncomputable def b_law : SM :=
    (mSeq (mAsg 1 (mOp gAdd (mLst (mCons (mC (.int 0)) (mCons (mC (.int 1)) (mCons (mC (.int 2)) (mCons (mC (.int 3)) mNil))))) (mLC [] (mItL (mSl gSl (mVar 0) mNoPart (mPart (mC (.int 60))))) mYes ce2_law)))
    (mSeq (mAsg 2 (mLst mNil))
    (mSeq (mFor (mFoL (mVar 1)) (mgN 3)
    lb1_law)
    (mSeq (mAsg 2 (mCB gSortedQ (mCons (mVar 2) mNil)))
    (mRet (mNotV (mCB gAny (mCons (mLC2 [] (mItZ (mCons (mVar 2) (mCons (mSl gSl (mVar 2) (mPart (mC (.int 1))) mNoPart) mNil))) mYes ce1_law) mNil))))))))
noncomputable def m_law : List D → Option (D × Bool) := fnM 1 4 b_law
end K72
set_option Elab.async false
set_option linter.all false
set_option maxRecDepth 100000
namespace K72
open PySem L2 Mir
local macro_rules | `(tactic| walk_at "mir") => `(tactic| simp only [*, fnM, mSeq, mIfS, mTest, mOp, sv, mVar, mC, mCB, mCons, mNil, refr, gB0, gI0, gI, gAdd, gMul, gNeg, gIx, atI_map, gSl, gLen, gMax, gMin, gAbs, gInt, gIs, gIsNot, resK_f, resK_l, resK_t, asB, asI, mUn, mIsi, gEq_int, gNe_int, gEq_ints, gNe_ints, gEq_bool, gNe_bool, isi_int_int, isi_int_bool, isi_list_list, isi_tuple_tuple, isNone,
  mAnd, mOr, mNot, mAndV, mOrV, mNotV, mIfE, mTup, mLst, fzAll, fzOne, mAsg, sto, setSl, mRet, mRetN, mDrop, mPass, mAug, retD, mCall, pureR_int, pureR_bool, pureR_str, pureR_none, pureR_list, pureR_tup, pureR_new, pureDs_nil, pureDs_int, pureDs_bool, pureDs_list, pureDs_ints, kO_f, kO_t, mRg1, mRg2, rg1, rg2, mItL, mFoL, asL, asT, mFor, mgN, mgT, mgU, asS, mgsCons, mgsNil, mAsgG, mgSub, ownL, Mir.putAt, Sl.put, mMut, mMut0, fAppend, fPop, fClear,
  List.length_cons, List.length_nil, List.map_cons, List.map_nil, List.cons_append, List.nil_append, List.replicate, List.getElem?_cons_zero, List.getElem?_cons_succ, List.getElem?_nil, List.set_cons_zero, List.set_cons_succ,
  Option.bind_some, Option.bind_none, Option.map_some, Option.map_none, if_true, if_false, cIf_true, Bool.false_eq_true, reduceIte, decide_true, decide_false, Bool.not_true, Bool.not_false, ite_true, ite_false, Nat.reduceAdd, Nat.reduceEqDiff, Bool.and_true, Bool.true_and, Bool.and_false, Bool.not_eq_true, not_true_eq_false, not_false_eq_true, Int.reduceLT, Int.reduceLE, Int.reduceEq, Nat.reduceLeDiff])
local macro_rules | `(tactic| walk_at "st") => `(tactic| (apply seq_nx; · (walk_at "mir"; try exact rfl)))
theorem op_ro {a b : PM} {ρ ρ1 ρ2 : Rho} {x : D} {r : RV} {res : D × Bool} {g : D → D → Option (D × Bool)} (h1 : sv a ρ = some ((x, .ro), ρ1)) (h2 : sv b ρ1 = some (r, ρ2)) (h3 : g x r.1 = some res) : mOp g a b ρ = some (resK res, ρ2) := by
  unfold mOp; rw [h1, Option.bind_some]; dsimp only; rw [h2, Option.bind_some]; dsimp only [refr, Option.bind_some]; rw [h3, Option.map_some]
def NIo (s : Sl) : Prop := ∀ d, s ≠ .io d
theorem NIo.no : NIo .no := fun d h => by cases h
theorem NIo.fz (x : D) : NIo (.fz x) := fun d h => by cases h
theorem NIo.own (x : D) : NIo (.own x) := fun d h => by cases h
theorem set_nio {ρ : Rho} {i : Nat} {s : Sl} (q : Sl) (h : ρ[i]? = some s) (hs : NIo s) : setSl ρ i q = some (ρ.set i q) := by
  unfold setSl
  rw [h]
  cases s <;> first | rfl | exact absurd rfl (hs _)
theorem mgN_nio {ρ : Rho} {i : Nat} {s : Sl} {d : D} (h : ρ[i]? = some s) (hs : NIo s) : mgN i d ρ = some (ρ.set i (.fz d)) := set_nio _ h hs
def fb : Nat → Nat
  | 0 => 1
  | 1 => 1
  | n + 2 => fb n + fb (n + 1)
theorem fb_pos : ∀ n, 0 < fb n
  | 0 => by decide
  | 1 => by decide
  | n + 2 => by show 0 < fb n + fb (n + 1); have := fb_pos n; omega
theorem fb_step (n : Nat) : fb n ≤ fb (n + 1) := by
  cases n with
  | zero => decide
  | succ n => show fb (n + 1) ≤ fb n + fb (n + 1); omega
theorem fb_mono {m n : Nat} (h : m ≤ n) : fb m ≤ fb n := by
  induction n with
  | zero => rw [show m = 0 by omega]; exact Nat.le_refl _
  | succ n ih =>
    by_cases e : m = n + 1
    · rw [e]; exact Nat.le_refl _
    · exact Nat.le_trans (ih (by omega)) (fb_step n)
theorem fb_low : ∀ k, 2 ^ k ≤ fb (2 * k)
  | 0 => by decide
  | k + 1 => by
    have := fb_low k
    have s := fb_step (2 * k)
    rw [show 2 * (k + 1) = 2 * k + 2 by omega, Nat.pow_succ]
    show 2 ^ k * 2 ≤ fb (2 * k) + fb (2 * k + 1)
    omega
theorem fb_up : ∀ k, fb k ≤ 2 ^ k
  | 0 => by decide
  | 1 => by decide
  | k + 2 => by
    have h1 := fb_up k
    have h2 := fb_up (k + 1)
    show fb k + fb (k + 1) ≤ 2 ^ (k + 2)
    rw [Nat.pow_succ] at h2 ⊢
    rw [Nat.pow_succ]
    omega
def Gd (n d : Nat) : Prop := n < fb (d + 2) ∧ (0 < d → fb (d + 1) ≤ n)
theorem Gd.mono {m n d e : Nat} (h1 : Gd m d) (h2 : Gd n e) (h : m ≤ n) : d ≤ e := by
  rcases Nat.lt_or_ge e d with q | q
  · have a := h1.2 (by omega)
    have b := h2.1
    have c := fb_mono (show e + 2 ≤ d + 1 by omega)
    omega
  · exact q
theorem most_loop (n : Nat) (hn : n < 2 ^ 300) : ∀ (k m fuel : Nat) (s4 : Sl), NIo s4 → m + k = 600 → k < fuel → (0 < m → fb (m + 1) ≤ n) → ∃ d s4', Gd n d ∧ mWhile wc1_most_below wb1_most_below fuel [.fz (.int (n : Int)), .fz (.int (m : Int)), .fz (.int (fb (m + 1) : Int)), .fz (.int (fb (m + 2) : Int)), s4] = some (.nx [.fz (.int (n : Int)), .fz (.int (d : Int)), .fz (.int (fb (d + 1) : Int)), .fz (.int (fb (d + 2) : Int)), s4']) := by
  intro k
  induction k with
  | zero =>
    intro m fuel s4 n4 hm hf hg
    obtain ⟨fuel, rfl⟩ : ∃ f, fuel = f + 1 := ⟨fuel - 1, by omega⟩
    have hb : n < fb (m + 2) := by
      have h1 := fb_low 300
      have h2 := fb_mono (show 2 * 300 ≤ m + 2 by omega)
      omega
    exact ⟨m, s4, ⟨hb, hg⟩, while_end (tstB (be_le (ie_var rfl) (ie_var rfl)) (decide_eq_false (by omega)))⟩
  | succ k ih =>
    intro m fuel s4 n4 hm hf hg
    obtain ⟨fuel, rfl⟩ : ∃ f, fuel = f + 1 := ⟨fuel - 1, by omega⟩
    by_cases hb : n < fb (m + 2)
    · exact ⟨m, s4, ⟨hb, hg⟩, while_end (tstB (be_le (ie_var rfl) (ie_var rfl)) (decide_eq_false (by omega)))⟩
    · obtain ⟨d, s4', g, e⟩ := ih (m + 1) fuel (.fz (.int (fb (m + 3) : Int))) (NIo.fz _) (by omega) (by omega) (fun _ => by show fb (m + 2) ≤ n; omega)
      refine ⟨d, s4', g, while_go (tstB (be_le (ie_var rfl) (ie_var rfl)) (decide_eq_true (by omega))) ?_ e⟩
      have ef : ((fb (m + 1) : Int) + (fb (m + 2) : Int)) = (fb (m + 3) : Int) := by
        have : fb (m + 3) = fb (m + 1) + fb (m + 2) := rfl
        omega
      refine seq_nx (ρ1 := [.fz (.int (n : Int)), .fz (.int (m : Int)), .fz (.int (fb (m + 1) : Int)), .fz (.int (fb (m + 2) : Int)), .fz (.int (fb (m + 3) : Int))]) (asgI ((ie_add (ie_var rfl) (ie_var rfl)).is ef) (set_nio (s := s4) _ rfl n4)) ?_
      refine seq_nx (ρ1 := [.fz (.int (n : Int)), .fz (.int (m : Int)), .fz (.int (fb (m + 2) : Int)), .fz (.int (fb (m + 2) : Int)), .fz (.int (fb (m + 3) : Int))]) (asg_fz (var_fz rfl) rfl) ?_
      refine seq_nx (ρ1 := [.fz (.int (n : Int)), .fz (.int (m : Int)), .fz (.int (fb (m + 2) : Int)), .fz (.int (fb (m + 3) : Int)), .fz (.int (fb (m + 3) : Int))]) (asg_fz (var_fz rfl) rfl) ?_
      rfl
theorem most_is (n : Nat) (hn : n < 2 ^ 300) : ∃ d, Gd n d ∧ m_most_below [.int (n : Int)] = some (.int (d : Int), false) := by
  obtain ⟨d, s4', g, e⟩ := most_loop n hn 600 0 1000000 .no NIo.no rfl (by omega) (fun z => absurd z (Nat.lt_irrefl _))
  refine ⟨d, g, fn_of (o := .rt (.int (d : Int), .fz) [.fz (.int (n : Int)), .fz (.int (d : Int)), .fz (.int (fb (d + 1) : Int)), .fz (.int (fb (d + 2) : Int)), s4']) rfl ?_ rfl⟩
  refine seq_nx (ρ1 := [.fz (.int (n : Int)), .fz (.int 0), .no, .no, .no]) (asg_fz rfl rfl) ?_
  refine seq_nx (ρ1 := [.fz (.int (n : Int)), .fz (.int 0), .fz (.int 1), .no, .no]) (asg_fz rfl rfl) ?_
  refine seq_nx (ρ1 := [.fz (.int (n : Int)), .fz (.int 0), .fz (.int 1), .fz (.int 2), .no]) (asg_fz rfl rfl) ?_
  exact seq_nx e (ret_eq (var_fz rfl))
theorem row_loop (p : D) : ∀ (l : List D) (m : Nat) (s3 : Sl), NIo s3 → ∃ s3', forL (mgN 3) lb1_law_row_at l [.fz p, .fz (.int (fb m : Int)), .fz (.int (fb (m + 1) : Int)), s3] = some (.nx [.fz p, .fz (.int (fb (m + l.length) : Int)), .fz (.int (fb (m + l.length + 1) : Int)), s3'])
  | [], m, s3, _ => ⟨s3, rfl⟩
  | d :: l, m, s3, n3 => by
    obtain ⟨s3', e⟩ := row_loop p l (m + 1) (.fz d) (NIo.fz _)
    refine ⟨s3', forL_cons (mgN_nio (s := s3) rfl n3) (ρ2 := [.fz p, .fz (.int (fb (m + 1) : Int)), .fz (.int (fb (m + 2) : Int)), .fz d]) ?_ ?_⟩
    · have ef : ((fb m : Int) + (fb (m + 1) : Int)) = (fb (m + 2) : Int) := by
        have : fb (m + 2) = fb m + fb (m + 1) := rfl
        omega
      show mPar 1 2 _ _ = _
      unfold mPar
      rw [cons_fz (sv_fz (var_fz rfl)) (consI ((ie_add (ie_var rfl) (ie_var rfl)).is ef) nil_ev), Option.bind_some]
      rfl
    · rw [e, List.length_cons, show m + 1 + l.length = m + (l.length + 1) by omega]
theorem row_is (p : Nat) (hp : 1 ≤ p) (h2 : p ≤ 100000) : m_law_row_at [.int (p : Int)] = some (.int (fb (p - 1) : Int), false) := by
  obtain ⟨s3', e⟩ := row_loop (.int (p : Int)) (rngD 1 ((p : Int) - 1).toNat) 0 .no NIo.no
  have hl : (rngD 1 ((p : Int) - 1).toNat).length = p - 1 := by
    unfold rngD; simp
  rw [hl] at e
  simp only [Nat.zero_add] at e
  refine fn_of (o := .rt (.int (fb (p - 1) : Int), .fz) [.fz (.int (p : Int)), .fz (.int (fb (p - 1) : Int)), .fz (.int (fb (p - 1 + 1) : Int)), s3']) rfl ?_ rfl
  refine seq_nx (ρ1 := [.fz (.int (p : Int)), .fz (.int 1), .no, .no]) (asg_fz rfl rfl) ?_
  refine seq_nx (ρ1 := [.fz (.int (p : Int)), .fz (.int 1), .fz (.int 1), .no]) (asg_fz rfl rfl) ?_
  refine seq_nx (for_eq ?_ e) (ret_eq (var_fz rfl))
  unfold mRg2
  rw [consI ie_c (consI (ie_var rfl) nil_ev), Option.bind_some]
  show cIf _ _ _ = _
  rw [cIf_pos ⟨by decide, by decide, by omega, by omega⟩]; rfl
theorem number_is (c : Int) : ∃ k : Nat, k < 2 ^ 300 ∧ m_law_number [.int c] = some (.int (k : Int), false) := by
  have em : IE (mOp gMod (mVar 0) (mC (.int 3))) [.fz (.int c)] (c % 3) := ie_mod (ie_var rfl) ie_c (by decide)
  have ed : IE (mOp gDiv (mVar 0) (mC (.int 3))) [.fz (.int c)] (c / 3) := ie_div (ie_var rfl) ie_c ⟨by decide, by decide⟩
  have nn : ∀ (v m : Int), 0 < m → ∃ k : Nat, v % m = (k : Int) ∧ (k : Int) < m := fun v m hm => by
    have h1 := Int.emod_nonneg v (by omega : m ≠ 0)
    have h2 := Int.emod_lt_of_pos v hm
    exact ⟨(v % m).toNat, by omega, by omega⟩
  by_cases h0 : c % 3 = 0
  · obtain ⟨k, e, hk⟩ := nn (c / 3) 40 (by decide)
    refine ⟨k, Nat.lt_of_lt_of_le (by omega : k < 2 ^ 6) (Nat.pow_le_pow_right (by decide) (by decide)), fn_of (o := .rt (.int (k : Int), .fz) [.fz (.int c)]) rfl (seq_rt (if_t (tEq em ie_c h0) (ret_eq ((ie_mod ed ie_c (by decide)).is e)))) rfl⟩
  · by_cases h1 : c % 3 = 1
    · obtain ⟨p, ep, hp⟩ := nn (c / 9) 280 (by decide)
      obtain ⟨q, eq, hq⟩ := nn (c / 3) 3 (by decide)
      have e1 : IE (mOp gAdd (mC (.int 1)) (mOp gMod (mOp gDiv (mVar 0) (mC (.int 9))) (mC (.int 280)))) [.fz (.int c)] ((1 + p : Nat) : Int) := (ie_add ie_c ((ie_mod (ie_div (ie_var rfl) ie_c ⟨by decide, by decide⟩) ie_c (by decide)).is ep)).is (by omega)
      have e2 : IE (mCall m_law_row_at (mCons (mOp gAdd (mC (.int 1)) (mOp gMod (mOp gDiv (mVar 0) (mC (.int 9))) (mC (.int 280)))) mNil)) [.fz (.int c)] (fb (1 + p - 1) : Int) := ie_call (rs := [(.int ((1 + p : Nat) : Int), .fz)]) (consI e1 nil_ev) (row_is (1 + p) (by omega) (by omega))
      have hfb := fb_pos (1 + p - 1)
      have hfu : fb (1 + p - 1) ≤ 2 ^ 299 := Nat.le_trans (fb_up _) (Nat.pow_le_pow_right (by decide) (by omega))
      generalize fb (1 + p - 1) = R at e2 hfb hfu
      have e3 : IE (mCB gMax (mCons (mC (.int 0)) (mCons (mOp gSub (mOp gAdd (mCall m_law_row_at (mCons (mOp gAdd (mC (.int 1)) (mOp gMod (mOp gDiv (mVar 0) (mC (.int 9))) (mC (.int 280)))) mNil)) (mOp gMod (mOp gDiv (mVar 0) (mC (.int 3))) (mC (.int 3)))) (mC (.int 1))) mNil))) [.fz (.int c)] ((R + q - 1 : Nat) : Int) := cb_ev (rs := [(.int 0, .fz), (.int ((R : Int) + (q : Int) - 1), .fz)]) (res := (.int ((R + q - 1 : Nat) : Int), false)) (consI ie_c (consI (ie_sub (ie_add e2 ((ie_mod ed ie_c (by decide)).is eq)) ie_c) nil_ev)) (by
        show some (PyData.int (if (R : Int) + (q : Int) - 1 > 0 then (R : Int) + (q : Int) - 1 else 0), false) = _
        rw [show (if (R : Int) + (q : Int) - 1 > 0 then (R : Int) + (q : Int) - 1 else 0) = ((R + q - 1 : Nat) : Int) by split <;> omega])
      have hb : R + q - 1 < 2 ^ 300 := by
        have : (2 : Nat) ^ 300 = 2 ^ 299 * 2 := Nat.pow_succ ..
        have : 8 ≤ 2 ^ 299 := Nat.le_trans (by decide : 8 ≤ 2 ^ 3) (Nat.pow_le_pow_right (by decide) (by decide))
        omega
      exact ⟨R + q - 1, hb, fn_of (o := .rt (.int ((R + q - 1 : Nat) : Int), .fz) [.fz (.int c)]) rfl (seq_nx (ρ1 := [.fz (.int c)]) (if_f (tNe em ie_c h0) rfl) (seq_rt (if_t (tEq em ie_c h1) (ret_eq e3)))) rfl⟩
    · have ep : IE (mOp gPow (mC (.int 10)) (mC (.int 60))) [.fz (.int c)] ((10 : Int) ^ (60 : Int).toNat) := ie_pow ie_c ie_c ⟨by decide, by decide, by decide⟩
      obtain ⟨k, e, hk⟩ := nn (c / 3) ((10 : Int) ^ (60 : Int).toNat) (by decide)
      refine ⟨k, ?_, fn_of (o := .rt (.int (k : Int), .fz) [.fz (.int c)]) rfl (seq_nx (ρ1 := [.fz (.int c)]) (if_f (tNe em ie_c h0) rfl) (seq_nx (ρ1 := [.fz (.int c)]) (if_f (tNe em ie_c h1) rfl) (ret_eq ((ie_mod ed ep (by decide)).is e)))) rfl⟩
      have h10 : (10 : Int) ^ (60 : Int).toNat < ((2 ^ 300 : Nat) : Int) := by decide
      omega
theorem mut_ev {i : Nat} {f : List D → List D → Option (List D × D)} {m : Rho → Option (List RV × Rho)} {ρ ρ1 ρ2 ρ3 : Rho} {rs : List RV} {as ds0 ds : List D} {w : List D × D} (h0 : ownL ρ[i]? = some ds0) (h1 : m ρ = some (rs, ρ1)) (h2 : fzAll rs ρ1 = some (as, ρ2)) (h3 : ownL ρ2[i]? = some ds) (h4 : f ds as = some w) (h5 : Mir.putAt ρ2 i (.list w.1) = ρ3) : mMut i f m ρ = some ((w.2, .fz), ρ3) := by
  unfold mMut
  rw [h0, Option.bind_some, h1, Option.bind_some]; dsimp only
  rw [h2, Option.bind_some]; dsimp only
  rw [h3, Option.bind_some, h4, Option.map_some, h5]
theorem app_ok {ds : List D} (d : D) (h : ds.length ≤ 100000) : fAppend ds [d] = some (ds ++ [d], .none) := by
  show cIf _ _ _ = _; rw [cIf_pos (sz_lt h)]
theorem lc2_ev {fr : List (Str × Nat)} {it : Rho → Option (List D × Rho)} {c : Rho → Option (Bool × Rho)} {e : PM} {ds ys : List D} {ρ ρ1 : Rho} (h1 : it ρ = some (ds, ρ1)) (h2 : compL2 c e (fr.map fun p => demote ρ1 p.2) ds = some ys) (h3 : ys.length ≤ 100000) : mLC2 fr it c e ρ = some ((.list ys, .new), ρ1) := by
  unfold mLC2; rw [h1, Option.bind_some]; dsimp only; rw [h2, Option.bind_some, cIf_pos (sz_lt h3)]
theorem compL2_no {e : PM} {ρn : Rho} : ∀ ds : List D, (∀ d ∈ ds, ∃ a b ρ, d = .tuple [a, b] ∧ sv e (.fz a :: .fz b :: ρn) = some ((.bool false, .fz), ρ)) → compL2 mYes e ρn ds = some (ds.map fun _ => PyData.bool false)
  | [], _ => rfl
  | d :: ds, h => by
    obtain ⟨a, b, ρ, rfl, h1⟩ := h d List.mem_cons_self
    have ih := compL2_no ds fun x hx => h x (List.mem_cons_of_mem _ hx)
    rw [List.map_cons]
    unfold compL2
    show ((mYes (.fz a :: .fz b :: ρn)).bind fun c => if c.1 = true then (sv e (.fz a :: .fz b :: ρn)).bind fun y => (asF y.1).bind fun z => (compL2 mYes e ρn ds).map (z :: ·) else compL2 mYes e ρn ds) = _
    rw [h1, ih]
    rfl
theorem boolsOf_false : ∀ ds : List D, boolsOf (ds.map fun _ => PyData.bool false) = some (ds.map fun _ => false)
  | [] => rfl
  | d :: ds => by rw [List.map_cons]; unfold boolsOf; rw [boolsOf_false ds]; rfl
theorem gAny_false (ds : List D) : gAny [.list (ds.map fun _ => PyData.bool false)] = some (.bool false, false) := by
  show (boolsOf _).map _ = _
  rw [boolsOf_false, Option.map_some]
  have : (ds.map fun _ => false).any id = false := by simp
  rw [this]
def GP (p : Int × Int) : Prop := ∃ n d : Nat, p = ((n : Int), (d : Int)) ∧ Gd n d
theorem law_body (X N : D) (ps : List (Int × Int)) (hl : ps.length ≤ 1000) (n : Nat) (hn : n < 2 ^ 300) {s4 : Sl} (n4 : NIo s4) : ∃ d : Nat, Gd n d ∧ lb1_law [.fz X, .fz N, .own (.list (ps.map pD)), .fz (.int (n : Int)), s4] = some (.nx [.fz X, .fz N, .own (.list ((ps ++ [((n : Int), (d : Int))]).map pD)), .fz (.int (n : Int)), .fz (.int (d : Int))]) := by
  obtain ⟨d, g, e⟩ := most_is n hn
  have hd : d ≤ 1000 := by
    rcases Nat.lt_or_ge 1000 d with q | q
    · have h1 := g.2 (by omega)
      have h2 := fb_mono (show 2 * 300 ≤ d + 1 by omega)
      have h3 := fb_low 300
      exact absurd (Nat.le_trans h3 (Nat.le_trans h2 h1)) (Nat.not_le.mpr hn)
    · exact q
  refine ⟨d, g, ?_⟩
  refine seq_nx (ρ1 := [.fz X, .fz N, .own (.list (ps.map pD)), .fz (.int (n : Int)), .fz (.int (d : Int))]) (asg_fz (call_pure (rs := [(.int (n : Int), .fz)]) rfl e rfl) (set_nio (s := s4) _ rfl n4)) ?_
  have i1 : mTest (mIsi "int" (mVar 4)) [.fz X, .fz N, .own (.list (ps.map pD)), .fz (.int (n : Int)), .fz (.int (d : Int))] = some (true, [.fz X, .fz N, .own (.list (ps.map pD)), .fz (.int (n : Int)), .fz (.int (d : Int))]) := test_ev (k := .fz) (isi_ev (sv_fz (var_fz rfl)) (by simp [gIsi, tyD, tyAsked, tyIs]))
  have i2 : mTest (mIsi "bool" (mVar 4)) [.fz X, .fz N, .own (.list (ps.map pD)), .fz (.int (n : Int)), .fz (.int (d : Int))] = some (false, [.fz X, .fz N, .own (.list (ps.map pD)), .fz (.int (n : Int)), .fz (.int (d : Int))]) := test_ev (k := .fz) (isi_ev (sv_fz (var_fz rfl)) (by simp [gIsi, tyD, tyAsked, tyIs]))
  have r3 : IE (mCall m_law_row_at (mCons (mOp gAdd (mVar 4) (mC (.int 3))) mNil)) [.fz X, .fz N, .own (.list (ps.map pD)), .fz (.int (n : Int)), .fz (.int (d : Int))] (fb (d + 2) : Int) := ie_call (rs := [(.int ((d + 3 : Nat) : Int), .fz)]) (consI ((ie_add (ie_var rfl) ie_c).is (by omega)) nil_ev) (row_is (d + 3) (by omega) (by omega))
  have r2 : IE (mCall m_law_row_at (mCons (mOp gAdd (mVar 4) (mC (.int 2))) mNil)) [.fz X, .fz N, .own (.list (ps.map pD)), .fz (.int (n : Int)), .fz (.int (d : Int))] (fb (d + 1) : Int) := ie_call (rs := [(.int ((d + 2 : Nat) : Int), .fz)]) (consI ((ie_add (ie_var rfl) ie_c).is (by omega)) nil_ev) (row_is (d + 2) (by omega) (by omega))
  refine seq_nx (if_f (or_f (not_ev i1) (or_f i2 (tstB (be_lt (ie_var rfl) ie_c) (decide_eq_false (by omega))))) rfl) ?_
  have g1 := g.1
  refine seq_nx (if_f (tstB (be_le r3 (ie_var rfl)) (decide_eq_false (by omega))) rfl) ?_
  refine seq_nx (ρ1 := [.fz X, .fz N, .own (.list (ps.map pD)), .fz (.int (n : Int)), .fz (.int (d : Int))]) ?_ ?_
  · by_cases q : 0 < d
    · have g2 := g.2 q
      exact if_f (and_t (tstB (be_gt (ie_var rfl) ie_c) (decide_eq_true (by omega))) (tstB (be_gt r2 (ie_var rfl)) (decide_eq_false (by omega)))) rfl
    · exact if_f (and_f (tstB (be_gt (ie_var rfl) ie_c) (decide_eq_false (by omega)))) rfl
  · exact drop_ev (mut_ev (rs := [(.tuple [.int (n : Int), .int (d : Int)], .fz)]) rfl (cons_fz (sv_fz (tup_ev (rs := [(.int (n : Int), .fz), (.int (d : Int), .fz)]) rfl rfl (by simp))) nil_ev) rfl rfl (app_ok _ (by rw [List.length_map]; omega)) (by rw [List.map_append]; rfl))
theorem law_loop (X N : D) : ∀ (ks : List Nat) (ps : List (Int × Int)) (s3 s4 : Sl), NIo s3 → NIo s4 → ps.length + ks.length ≤ 1000 → (∀ k ∈ ks, k < 2 ^ 300) → (∀ p ∈ ps, GP p) → ∃ (qs : List (Int × Int)) (tl : Rho), (∀ p ∈ qs, GP p) ∧ qs.length = ps.length + ks.length ∧ forL (mgN 3) lb1_law (ks.map fun k : Nat => PyData.int (k : Int)) [.fz X, .fz N, .own (.list (ps.map pD)), s3, s4] = some (.nx (.fz X :: .fz N :: .own (.list (qs.map pD)) :: tl)) ∧ ∃ a b, tl = [a, b]
  | [], ps, s3, s4, _, _, _, _, hp => ⟨ps, [s3, s4], hp, rfl, rfl, _, _, rfl⟩
  | k :: ks, ps, s3, s4, n3, n4, hl, hk, hp => by
    rw [List.length_cons] at hl
    obtain ⟨d, g, e⟩ := law_body X N ps (by omega) k (hk k List.mem_cons_self) n4
    obtain ⟨qs, tl, q1, q2, q3, q4⟩ := law_loop X N ks (ps ++ [((k : Int), (d : Int))]) (.fz (.int (k : Int))) (.fz (.int (d : Int))) (NIo.fz _) (NIo.fz _) (by rw [List.length_append, List.length_singleton]; omega) (fun x hx => hk x (List.mem_cons_of_mem _ hx)) (fun p hp' => by
      rcases List.mem_append.mp hp' with q | q
      · exact hp p q
      · rw [List.mem_singleton.mp q]; exact ⟨k, d, rfl, g⟩)
    refine ⟨qs, tl, q1, by rw [q2, List.length_append, List.length_singleton, List.length_cons]; omega, ?_, q4⟩
    rw [List.map_cons]
    exact forL_cons (mgN_nio (s := s3) rfl n3) e q3
theorem numbers_is : ∀ cs : List Int, ∃ ks : List Nat, ks.length = cs.length ∧ (∀ k ∈ ks, k < 2 ^ 300) ∧ compL mYes ce2_law [] (cs.map .int) = some (ks.map fun k : Nat => PyData.int (k : Int))
  | [] => ⟨[], rfl, (fun k hk => by cases hk), rfl⟩
  | c :: cs => by
    obtain ⟨ks, h1, h2, h3⟩ := numbers_is cs
    obtain ⟨k, hk, e⟩ := number_is c
    refine ⟨k :: ks, by rw [List.length_cons, List.length_cons, h1], fun x hx => ?_, ?_⟩
    · rcases List.mem_cons.mp hx with rfl | hx
      · exact hk
      · exact h2 x hx
    · have e1 : sv ce2_law [.fz (.int c)] = some ((.int (k : Int), .fz), [.fz (.int c)]) := sv_fz (ie_call (rs := [(.int c, .fz)]) rfl e)
      show (mYes [.fz (.int c)]).bind _ = _
      show ((sv ce2_law [.fz (.int c)]).bind fun y => (asF y.1).bind fun z => (compL mYes ce2_law [] (cs.map .int)).map (z :: ·)) = _
      rw [e1, h3]; rfl
theorem law_true (ns : List Int) (hl : ns.length ≤ 63) (hb : ∀ k ∈ ns, Builtin.Int.intBits k ≤ 1048576) : m_law [.list (ns.map .int)] = some (.bool true, false) := by
  obtain ⟨ks, k1, k2, k3⟩ := numbers_is (ns.take 60)
  have kl : ks.length ≤ 60 := by rw [k1, List.length_take]; omega
  generalize hX : (PyData.list (ns.map .int) : D) = X
  have sl : mSl gSl (mVar 0) mNoPart (mPart (mC (.int 60))) [.fz X, .no, .no, .no, .no] = some ((.list ((ns.take 60).map .int), .new), [.fz X, .no, .no, .no, .no]) := by
    rw [← hX]
    have := cutD_to ns 60
    show some ((PyData.list (cutD (ns.map .int) none (some ((60 : Nat) : Int))), Kd.new), _) = _
    rw [this]
  let as : List Nat := [0, 1, 2, 3] ++ ks
  have al : as.length ≤ 64 := by show ([0, 1, 2, 3] ++ ks).length ≤ 64; simp; omega
  have a2 : ∀ k ∈ as, k < 2 ^ 300 := fun k hk => by
    rcases List.mem_append.mp hk with q | q
    · have h8 : (4 : Nat) ≤ 2 ^ 300 := Nat.le_trans (by decide : 4 ≤ 2 ^ 2) (Nat.pow_le_pow_right (by decide) (by decide))
      have : k < 4 := by
        have : k = 0 ∨ k = 1 ∨ k = 2 ∨ k = 3 := by simpa using q
        omega
      omega
    · exact k2 k q
  have s1 : mAsg 1 (mOp gAdd (mLst (mCons (mC (.int 0)) (mCons (mC (.int 1)) (mCons (mC (.int 2)) (mCons (mC (.int 3)) mNil))))) (mLC [] (mItL (mSl gSl (mVar 0) mNoPart (mPart (mC (.int 60))))) mYes ce2_law)) [.fz X, .no, .no, .no, .no] = some (.nx [.fz X, .own (.list (as.map fun k : Nat => PyData.int (k : Int))), .no, .no, .no]) := by
    refine asg_new (op_ev (r := (.list (ks.map fun k : Nat => PyData.int (k : Int)), .fz)) (res := (.list (as.map fun k : Nat => PyData.int (k : Int)), true)) (sv_new (lst_ev (rs := [(.int 0, .fz), (.int 1, .fz), (.int 2, .fz), (.int 3, .fz)]) rfl rfl (by simp))) (sv_new (lc_ev (itl_ev (sv_new sl)) k3 (by rw [List.length_map]; omega))) ?_) rfl
    rw [gAdd_list _ _ (by simp; omega)]
    rfl
  obtain ⟨qs, tl, q1, q2, q3, ta, tb, rfl⟩ := law_loop X (.list (as.map fun k : Nat => PyData.int (k : Int))) as [] .no .no NIo.no NIo.no (by simp; omega) a2 (fun p hp => by cases hp)
  have ql : qs.length ≤ 64 := by rw [q2]; simp; omega
  have hs : mCB gSortedQ (mCons (mVar 2) mNil) [.fz X, .fz (.list (as.map fun k : Nat => PyData.int (k : Int))), .own (.list (qs.map pD)), ta, tb] = some ((.list ((srtP qs).map pD), .new), [.fz X, .fz (.list (as.map fun k : Nat => PyData.int (k : Int))), .own (.list (qs.map pD)), ta, tb]) := cb_ev (rs := [(.list (qs.map pD), .at 2)]) (res := (.list ((srtP qs).map pD), true)) (cons_at (sv_at (var_own rfl)) nil_ev rfl) (by
    show (pairsOf (qs.map pD)).bind _ = _
    rw [pairsOf_map, Option.bind_some, cIf_pos ql])
  have cmpf : ∀ d ∈ zipD ((srtP qs).map pD) (((srtP qs).map pD).drop 1), ∃ a b ρ, d = .tuple [a, b] ∧ sv ce1_law (.fz a :: .fz b :: []) = some ((.bool false, .fz), ρ) := fun d hd => by
    obtain ⟨i, hi, e⟩ := List.getElem_of_mem hd
    obtain ⟨a, b, e1, e2, e3⟩ := zipD_get (List.getElem?_eq_some_iff.mpr ⟨hi, e⟩)
    rw [List.getElem?_drop] at e3
    rw [List.getElem?_map] at e2 e3
    obtain ⟨p, p1, p2⟩ := Option.map_eq_some_iff.mp e2
    obtain ⟨r, r1, r2⟩ := Option.map_eq_some_iff.mp e3
    subst p2 r2
    obtain ⟨hi1, ep⟩ := List.getElem?_eq_some_iff.mp p1
    obtain ⟨hi2, er⟩ := List.getElem?_eq_some_iff.mp r1
    have le := List.pairwise_iff_getElem.mp (srtP_rise qs) i (1 + i) hi1 hi2 (by omega)
    rw [ep, er, leP_t] at le
    obtain ⟨n1, d1, f1, g1⟩ := q1 p ((srtP_perm qs).mem_iff.mp (List.mem_of_getElem? p1))
    obtain ⟨n2, d2, f2, g2⟩ := q1 r ((srtP_perm qs).mem_iff.mp (List.mem_of_getElem? r1))
    subst f1 f2
    have hle : d1 ≤ d2 := g1.mono g2 (by simp only at le; omega)
    refine ⟨_, _, [.fz (pD ((n1 : Int), (d1 : Int))), .fz (pD ((n2 : Int), (d2 : Int)))], e1, sv_fz ?_⟩
    have x1 : IE (mOp gIx (mVar 0) (mC (.int 1))) [.fz (pD ((n1 : Int), (d1 : Int))), .fz (pD ((n2 : Int), (d2 : Int)))] (d1 : Int) := op_ev (r := (.int 1, .fz)) (res := (.int (d1 : Int), false)) (sv_fz (var_fz rfl)) (sv_fz rfl) rfl
    have x2 : IE (mOp gIx (mVar 1) (mC (.int 1))) [.fz (pD ((n1 : Int), (d1 : Int))), .fz (pD ((n2 : Int), (d2 : Int)))] (d2 : Int) := op_ev (r := (.int 1, .fz)) (res := (.int (d2 : Int), false)) (sv_fz (var_fz rfl)) (sv_fz rfl) rfl
    exact (be_gt x1 x2).is (decide_eq_false (by omega))
  generalize hL : (srtP qs).map pD = L at hs cmpf
  have Ll : L.length ≤ 64 := by rw [← hL, List.length_map, srtP_len]; exact ql
  have cutL : cutD L (some 1) none = L.drop 1 := by
    unfold cutD
    rw [HT.sIx_none]
    have : HT.sIx L.length 0 (some 1) = min 1 L.length := HT.sIx_nat L.length 0 1
    rw [this]
    by_cases e : L = []
    · subst e; rfl
    · have : 1 ≤ L.length := List.length_pos_iff.mpr e
      rw [Nat.min_eq_left this]
      exact List.take_of_length_le (by simp)
  refine fn_of (o := .rt (.bool true, .fz) [.fz X, .fz (.list (as.map fun k : Nat => PyData.int (k : Int))), .own (.list L), ta, tb]) rfl ?_ rfl
  refine seq_nx s1 (seq_nx (ρ1 := [.fz X, .own (.list (as.map fun k : Nat => PyData.int (k : Int))), .own (.list []), .no, .no]) (asg_new (lst_ev (rs := []) rfl rfl (by simp)) rfl) ?_)
  refine seq_nx (for_eq (ds := as.map fun k : Nat => PyData.int (k : Int)) (ρ1 := [.fz X, .fz (.list (as.map fun k : Nat => PyData.int (k : Int))), .own (.list []), .no, .no]) rfl q3) ?_
  refine seq_nx (ρ1 := [.fz X, .fz (.list (as.map fun k : Nat => PyData.int (k : Int))), .own (.list L), ta, tb]) (asg_new hs rfl) (ret_eq ?_)
  have hz : mItZ (mCons (mVar 2) (mCons (mSl gSl (mVar 2) (mPart (mC (.int 1))) mNoPart) mNil)) [.fz X, .fz (.list (as.map fun k : Nat => PyData.int (k : Int))), .own (.list L), ta, tb] = some (zipD L (L.drop 1), [.fz X, .fz (.list (as.map fun k : Nat => PyData.int (k : Int))), .own (.list L), ta, tb]) := by
    unfold mItZ
    have e2 : mSl gSl (mVar 2) (mPart (mC (.int 1))) mNoPart [.fz X, .fz (.list (as.map fun k : Nat => PyData.int (k : Int))), .own (.list L), ta, tb] = some ((.list (L.drop 1), .new), [.fz X, .fz (.list (as.map fun k : Nat => PyData.int (k : Int))), .own (.list L), ta, tb]) := by
      rw [← cutL]; rfl
    rw [cons_at (sv_at (var_own rfl)) (cons_fz (sv_new e2) nil_ev) rfl, Option.bind_some]
    rfl
  refine be_not (u := false) ?_
  exact cb_ev (rs := [(.list ((zipD L (L.drop 1)).map fun _ => PyData.bool false), .fz)]) (res := (.bool false, false)) (cons_fz (sv_new (lc2_ev hz (compL2_no _ cmpf) (by rw [List.length_map]; unfold zipD; rw [List.length_zipWith]; omega))) nil_ev) (gAny_false _)
end K72
set_option maxHeartbeats 4000000
set_option Elab.async false
set_option linter.all false
set_option maxRecDepth 100000
namespace K72
open PySem L2 Mir
def top (i : Nat) : Stmt := PySem.Challenge.pw_creditworks_k72_most_below.main.body.getD i (.Pass ⟨0, 0, 0, 0⟩)
abbrev s_most_below : Stmt := top 1
theorem sc_most_below : FnScope ["n", "most", "lesser", "greater", "total"] ["n"] (defScope s_most_below) := ⟨rfl, rfl, rfl, by decide +kernel, rfl, by decide +kernel, by decide +kernel⟩
abbrev s_law_row_at : Stmt := top 3
theorem sc_law_row_at : FnScope ["_law_place", "_law_one", "_law_other", "_law_k"] ["_law_place"] (defScope s_law_row_at) := ⟨rfl, rfl, rfl, by decide +kernel, rfl, by decide +kernel, by decide +kernel⟩
abbrev s_law_number : Stmt := top 4
theorem sc_law_number : FnScope ["_law_cell"] ["_law_cell"] (defScope s_law_number) := ⟨rfl, rfl, rfl, by decide +kernel, rfl, by decide +kernel, by decide +kernel⟩
abbrev s_law : Stmt := top 5
theorem sc_law : FnScope ["_law_script", "_law_numbers", "_law_told", "_law_number_here", "_law_found"] ["_law_script"] (defScope s_law) := ⟨rfl, rfl, rfl, by decide +kernel, rfl, by decide +kernel, by decide +kernel⟩
section
variable {P : Program} {w : World} {K : PySem.W.Frag} {mg : Str → Option Value} {base : Heap}
def NoGl (mg : Str → Option Value) : Prop := ∀ x ∈ (["any", "bool", "int", "isinstance", "max", "range", "sorted", "zip"] : List Str), mg x = none
theorem ok_most_below (Z : NoGl mg) (T : Top K mg "most_below" s_most_below)  : Def P w K mg base CX0 1 "most_below" ["n"] (spM m_most_below) := by
  refine T.def sc_most_below (fun vs H Q E h => spM_len h) (fun _ _ _ _ _ _ us hl => match us, hl with | [_], _ => rfl) fun f cdv A outer s H vs Q E hr h => ?_
  have hu := hr.units
  exact ⟨_, (pss_cons (ps_set (i := 1) sc_most_below.nd rfl (by first | exact Or.inl rfl | exact Or.inr rfl) pe_int)
      (pss_cons (ps_set (i := 2) sc_most_below.nd rfl (by first | exact Or.inl rfl | exact Or.inr rfl) pe_int)
      (pss_cons (ps_set (i := 3) sc_most_below.nd rfl (by first | exact Or.inl rfl | exact Or.inr rfl) pe_int)
      (pss_cons (ps_while PassesOwn.never (pt_cmpR op_le (pv 3) (pv 0) (nomark _))
      (pss_cons (ps_set (i := 4) sc_most_below.nd rfl (by first | exact Or.inl rfl | exact Or.inr rfl) (pe_op (op_addK (K := K) rfl) (pv 2) (pv 3)))
      (pss_cons (ps_set (i := 2) sc_most_below.nd rfl (by first | exact Or.inl rfl | exact Or.inr rfl) (pv 3))
      (pss_cons (ps_set (i := 3) sc_most_below.nd rfl (by first | exact Or.inl rfl | exact Or.inr rfl) (pv 4))
      (pss_one (ps_aug (i := 1) sc_most_below.nd rfl (by first | exact Or.inl rfl | exact Or.inr rfl) pe_int ip_add))))))
      (pss_one (ps_ret (pv 1))))))),
      fn_run (n := 1) (k := 4) (ms_seq (ms_asg me_int)
      (ms_seq (ms_asg me_int)
      (ms_seq (ms_asg me_int)
      (ms_seq (ms_while (mt_test (me_op J_B0 me_var me_var))
      (ms_seq (ms_asg (me_op J_add me_var me_var))
      (ms_seq (ms_asg me_var)
      (ms_seq (ms_asg me_var)
      (ms_aug me_int)))))
      (ms_ret me_var))))) rfl h⟩
theorem ok_law_row_at (Z : NoGl mg) (T : Top K mg "_law_row_at" s_law_row_at)  : Def P w K mg base CX0 1 "_law_row_at" ["_law_place"] (spM m_law_row_at) := by
  have z_range : mg "range" = none := Z _ (by decide +kernel)
  refine T.def sc_law_row_at (fun vs H Q E h => spM_len h) (fun _ _ _ _ _ _ us hl => match us, hl with | [_], _ => rfl) fun f cdv A outer s H vs Q E hr h => ?_
  have hu := hr.units
  exact ⟨_, (pss_cons (ps_set (i := 1) sc_law_row_at.nd rfl (by first | exact Or.inl rfl | exact Or.inr rfl) pe_int)
      (pss_cons (ps_set (i := 2) sc_law_row_at.nd rfl (by first | exact Or.inl rfl | exact Or.inr rfl) pe_int)
      (pss_cons (ps_for PassesOwn.never rfl (pi_range2 rfl z_range (pa_cons pe_int (pa_cons (pv 0) pa_nil))) (pg_name (i := 3) sc_law_row_at.nd rfl (by first | exact Or.inl rfl | exact Or.inr rfl))
      (pss_one (ps_par (i := 1) (j := 2) rfl sc_law_row_at.nd rfl rfl (by decide) rfl rfl (pa_cons (pv 2) (pa_cons (pe_op (op_addK (K := K) rfl) (pv 1) (pv 2)) pa_nil)) rfl)))
      (pss_one (ps_ret (pv 1)))))),
      fn_run (n := 1) (k := 3) (ms_seq (ms_asg me_int)
      (ms_seq (ms_asg me_int)
      (ms_seq (ms_for (mf_rng2 (ma_cons me_int (ma_cons me_var ma_nil))) mg_name
      (ms_par (ma_cons me_var (ma_cons (me_op J_add me_var me_var) ma_nil))))
      (ms_ret me_var)))) rfl h⟩
theorem ok_law_number (Z : NoGl mg) (T : Top K mg "_law_number" s_law_number) (D_law_row_at : Def P w K mg base CX0 1 "_law_row_at" ["_law_place"] (spM m_law_row_at)) : Def P w K mg base CX0 2 "_law_number" ["_law_cell"] (spM m_law_number) := by
  have z_max : mg "max" = none := Z _ (by decide +kernel)
  refine T.def sc_law_number (fun vs H Q E h => spM_len h) (fun _ _ _ _ _ _ us hl => match us, hl with | [_], _ => rfl) fun f cdv A outer s H vs Q E hr h => ?_
  have hu := hr.units
  exact ⟨_, (pss_cons (ps_if (pt_cmpR (op_eqK (K := K) rfl hu) (pe_op op_mod (pv 0) pe_int) pe_int (nomark _))
      (pss_one (ps_ret (pe_op op_mod (pe_op op_fdiv (pv 0) pe_int) pe_int)))
      pss_nil)
      (pss_cons (ps_if (pt_cmpR (op_eqK (K := K) rfl hu) (pe_op op_mod (pv 0) pe_int) pe_int (nomark _))
      (pss_one (ps_ret (pe_callB (call_max2 rfl) rfl z_max PyProof.Rows.boot_max (pa_cons pe_int (pa_cons (pe_op op_sub (pe_op (op_addK (K := K) rfl) (pe_def D_law_row_at (hr.mono (by omega)) (pa_cons (pe_op (op_addK (K := K) rfl) pe_int (pe_op op_mod (pe_op op_fdiv (pv 0) pe_int) pe_int)) pa_nil)) (pe_op op_mod (pe_op op_fdiv (pv 0) pe_int) pe_int)) pe_int) pa_nil)))))
      pss_nil)
      (pss_one (ps_ret (pe_op op_mod (pe_op op_fdiv (pv 0) pe_int) (pe_op op_pow pe_int pe_int)))))),
      fn_run (n := 1) (k := 0) (ms_seq (ms_if (mt_test (me_op J_eq (me_op J_I me_var me_int) me_int))
      (ms_ret (me_op J_I (me_op J_I me_var me_int) me_int))
      ms_next)
      (ms_seq (ms_if (mt_test (me_op J_eq (me_op J_I me_var me_int) me_int))
      (ms_ret (me_cb J_max (ma_cons me_int (ma_cons (me_op J_I0 (me_op J_add (me_call (ma_cons (me_op J_add me_int (me_op J_I (me_op J_I me_var me_int) me_int)) ma_nil)) (me_op J_I (me_op J_I me_var me_int) me_int)) me_int) ma_nil))))
      ms_next)
      (ms_ret (me_op J_I (me_op J_I me_var me_int) (me_op J_I me_int me_int))))) rfl h⟩
theorem ok_law {f : Addr} {fd : FuncData} (NL : noLists K = true) (Z : NoGl mg) (F : Fun K "law" "law" s_law f fd) (D_law_row_at : Def P w K mg base CX0 1 "_law_row_at" ["_law_place"] (spM m_law_row_at)) (D_most_below : Def P w K mg base CX0 1 "most_below" ["n"] (spM m_most_below)) (D_law_number : Def P w K mg base CX0 2 "_law_number" ["_law_cell"] (spM m_law_number)) : FnOk P w K mg base CX0 3 f fd ["_law_script"] (spLaw K) := by
  have z_zip : mg "zip" = none := Z _ (by decide +kernel)
  have z_any : mg "any" = none := Z _ (by decide +kernel)
  have z_sorted : mg "sorted" = none := Z _ (by decide +kernel)
  have z_bool : mg "bool" = none := Z _ (by decide +kernel)
  have z_isinstance : mg "isinstance" = none := Z _ (by decide +kernel)
  have z_int : mg "int" = none := Z _ (by decide +kernel)
  refine FnOk.imp (sp := spM m_law) ?_ (law_sp NL law_true)
  refine F.ok sc_law (fun vs H Q E h => spM_len h) fun cdv A outer s H vs Q E hr h => ?_
  have hu := hr.units
  exact ⟨_, (pss_cons (ps_set (i := 1) sc_law.nd rfl (by first | exact Or.inl rfl | exact Or.inr rfl) (pe_op (op_addK (K := K) rfl) (pe_lst (pa_cons pe_int (pa_cons pe_int (pa_cons pe_int (pa_cons pe_int pa_nil))))) (pe_lc (fr := []) rfl ⟨rfl, rfl, rfl, rfl, rfl, rfl, by decide +kernel⟩ (pi_listK (K := K) rfl (pe_slice (sl_listK (K := K) rfl) (pv 0) po_none (po_some pe_int))) (fun _ _ _ _ => pif_nil) (fun _ _ _ _ => (pe_def D_law_number (hr.mono (by omega)) (pa_cons (pv 0) pa_nil))))))
      (pss_cons (ps_set (i := 2) sc_law.nd rfl (by first | exact Or.inl rfl | exact Or.inr rfl) (pe_lst pa_nil))
      (pss_cons (ps_for PassesOwn.never rfl (pi_listK (K := K) rfl (pv 1)) (pg_name (i := 3) sc_law.nd rfl (by first | exact Or.inl rfl | exact Or.inr rfl))
      (pss_cons (ps_set (i := 4) sc_law.nd rfl (by first | exact Or.inl rfl | exact Or.inr rfl) (pe_def D_most_below (hr.mono (by omega)) (pa_cons (pv 3) pa_nil)))
      (pss_cons (ps_if (PW.pt (pw_or (pt_not (pt_val (pe_callB call_isi rfl z_isinstance PyProof.Rows.boot_isinstance (pa_cons (pv 4) (pa_cons (pe_ty z_int PyProof.Rows.boot_int) pa_nil))))) (pw_or (pt_val (pe_callB call_isi rfl z_isinstance PyProof.Rows.boot_isinstance (pa_cons (pv 4) (pa_cons (pe_ty z_bool PyProof.Rows.boot_bool) pa_nil)))) (pw_or1 (pt_cmpR op_lt (pv 4) pe_int (nomark _))))))
      (pss_one (ps_ret pe_bl))
      pss_nil)
      (pss_cons (ps_if (pt_cmpR op_le (pe_def D_law_row_at (hr.mono (by omega)) (pa_cons (pe_op (op_addK (K := K) rfl) (pv 4) pe_int) pa_nil)) (pv 3) (nomark _))
      (pss_one (ps_ret pe_bl))
      pss_nil)
      (pss_cons (ps_if (PW.pt (pw_and (pt_cmpR op_gt (pv 4) pe_int (nomark _)) (pw_and1 (pt_cmpR op_gt (pe_def D_law_row_at (hr.mono (by omega)) (pa_cons (pe_op (op_addK (K := K) rfl) (pv 4) pe_int) pa_nil)) (pv 3) (nomark _)))))
      (pss_one (ps_ret pe_bl))
      pss_nil)
      (pss_one (ps_expr (pe_bmK (K := K) rfl PySem.F.plainAttrs_list PySem.F.slot_list_append PySem.F.type_list_append mt_append (pv 2) (pa_cons (pe_tup (pa_cons (pv 3) (pa_cons (pv 4) pa_nil))) pa_nil)))))))))
      (pss_cons (ps_set (i := 2) sc_law.nd rfl (by first | exact Or.inl rfl | exact Or.inr rfl) (pe_callB (call_sortedQK (K := K) rfl) rfl z_sorted PyProof.Rows.boot_sorted (pa_cons (pv 2) pa_nil)))
      (pss_one (ps_ret (pe_not (pe_callB (call_anyK (K := K) rfl rfl) rfl z_any PyProof.Rows.boot_any (pa_cons (pe_lc2 (fr := []) rfl ⟨⟨rfl, rfl, rfl, rfl, rfl, rfl, by decide +kernel⟩, rfl, by decide +kernel⟩ (pi_zip rfl z_zip (pa_cons (pv 2) (pa_cons (pe_slice (sl_listK (K := K) rfl) (pv 2) (po_some pe_int) po_none) pa_nil))) (fun _ _ _ _ => pif_nil) (fun _ _ _ _ => (pe_cmpR op_gt (pe_ix (ix_seqK (K := K) rfl) (pv 0) pe_int (fun _ _ => rfl)) (pe_ix (ix_seqK (K := K) rfl) (pv 1) pe_int (fun _ _ => rfl)) (nomark _)))) pa_nil))))))))),
      fn_run (n := 1) (k := 4) (ms_seq (ms_asg (me_op J_add (me_lst (ma_cons me_int (ma_cons me_int (ma_cons me_int (ma_cons me_int ma_nil))))) (me_lc (mi_list (me_sl J_sl me_var mo_none (mo_some me_int))) mt_yes (me_call (ma_cons me_var ma_nil)))))
      (ms_seq (ms_asg (me_lst ma_nil))
      (ms_seq (ms_for (mf_list me_var) mg_name
      (ms_seq (ms_asg (me_call (ma_cons me_var ma_nil)))
      (ms_seq (ms_if (mt_or (mt_not (mt_tB (me_isi me_var))) (mt_or (mt_tB (me_isi me_var)) (mt_test (me_op J_B0 me_var me_int))))
      (ms_ret me_bl)
      ms_next)
      (ms_seq (ms_if (mt_test (me_op J_B0 (me_call (ma_cons (me_op J_add me_var me_int) ma_nil)) me_var))
      (ms_ret me_bl)
      ms_next)
      (ms_seq (ms_if (mt_and (mt_test (me_op J_B0 me_var me_int)) (mt_test (me_op J_B0 (me_call (ma_cons (me_op J_add me_var me_int) ma_nil)) me_var)))
      (ms_ret me_bl)
      ms_next)
      (ms_drop (me_mut J_append (ma_cons (me_tup (ma_cons me_var (ma_cons me_var ma_nil))) ma_nil))))))))
      (ms_seq (ms_asg (me_sortedQ (ma_cons me_var ma_nil)))
      (ms_ret (me_notV (me_cb J_any (ma_cons (me_lc2 (mi_zip (ma_cons me_var (ma_cons (me_sl J_sl me_var (mo_some me_int) mo_none) ma_nil))) mt_yes (me_op J_B0 (me_op J_ix me_var me_int) (me_op J_ix me_var me_int))) ma_nil)))))))) rfl h⟩
end
end K72
open PySem PySem.W PyProof.Rows
set_option maxRecDepth 100000 in
set_option maxHeartbeats 0 in
theorem PySem.Challenge.cw_creditworks_k72_most_below_holds : PySem.Challenge.rw_creditworks_k72_most_below.Holds := by
  w_on; o_law; k_head; (case hw => w_witness2)
  k_fill
  refine L2.walk_law (l := PySem.Challenge.rw_creditworks_k72_most_below) (k := 3) (x := "_law_script") (st := K72.s_law) rfl rfl ⟨rfl, by decide, by decide⟩ (fun w h Y => PySem.W.kIn_of Y) (fun _ _ _ _ _ _ _ => rfl) ?F
  case F =>
    intro w mg h KX G
    have T_most_below : L2.Top (L2.KOf KX) mg "most_below" K72.s_most_below := by
      dsimp only [L2.KOf]
      refine' L2.Top.mk' KX G ?a ?l ?c ?k
      (case a => k_is); (case l => k_is); (case c => k_is); (case k => k_is)
    have T_law_row_at : L2.Top (L2.KOf KX) mg "_law_row_at" K72.s_law_row_at := by
      dsimp only [L2.KOf]
      refine' L2.Top.mk' KX G ?a ?l ?c ?k
      (case a => k_is); (case l => k_is); (case c => k_is); (case k => k_is)
    have T_law_number : L2.Top (L2.KOf KX) mg "_law_number" K72.s_law_number := by
      dsimp only [L2.KOf]
      refine' L2.Top.mk' KX G ?a ?l ?c ?k
      (case a => k_is); (case l => k_is); (case c => k_is); (case k => k_is)
    have T_law : L2.Top (L2.KOf KX) mg "law" K72.s_law := by
      dsimp only [L2.KOf]
      refine' L2.Top.mk' KX G ?a ?l ?c ?k
      (case a => k_is); (case l => k_is); (case c => k_is); (case k => k_is)
    have z_any : mg "any" = none := by
      refine' PySem.W.mg_none_of KX G ?z
      (case z => k_is)
    have z_bool : mg "bool" = none := by
      refine' PySem.W.mg_none_of KX G ?z
      (case z => k_is)
    have z_int : mg "int" = none := by
      refine' PySem.W.mg_none_of KX G ?z
      (case z => k_is)
    have z_isinstance : mg "isinstance" = none := by
      refine' PySem.W.mg_none_of KX G ?z
      (case z => k_is)
    have z_max : mg "max" = none := by
      refine' PySem.W.mg_none_of KX G ?z
      (case z => k_is)
    have z_range : mg "range" = none := by
      refine' PySem.W.mg_none_of KX G ?z
      (case z => k_is)
    have z_sorted : mg "sorted" = none := by
      refine' PySem.W.mg_none_of KX G ?z
      (case z => k_is)
    have z_zip : mg "zip" = none := by
      refine' PySem.W.mg_none_of KX G ?z
      (case z => k_is)
    have Z : K72.NoGl mg := by
      intro x hx
      simp only [List.mem_cons, List.not_mem_nil, or_false] at hx
      rcases hx with rfl | rfl | rfl | rfl | rfl | rfl | rfl | rfl <;> assumption
    have NL : Mir.noLists (L2.KOf KX) = true := by
      dsimp only [L2.KOf]
      first | rfl | kernel_rfl | k_is
    refine ⟨T_law, fun f fd Ff base kb gb => ?_⟩
    have D_most_below := K72.ok_most_below (P := PySem.Challenge.rw_creditworks_k72_most_below.prog) (w := w) (base := base) Z T_most_below
    have D_law_row_at := K72.ok_law_row_at (P := PySem.Challenge.rw_creditworks_k72_most_below.prog) (w := w) (base := base) Z T_law_row_at
    have D_law_number := K72.ok_law_number (P := PySem.Challenge.rw_creditworks_k72_most_below.prog) (w := w) (base := base) Z T_law_number D_law_row_at
    exact K72.ok_law NL Z Ff D_law_row_at D_most_below D_law_number

