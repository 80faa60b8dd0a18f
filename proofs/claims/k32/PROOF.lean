import PyProof.Rows.All
import Wide.All
import OpenK.AllK
import Wide.FinOn
import Lean
import PyProof.EqAt
import PyProof.EqKinds
import PyProof.TupleCall
import KE.KTryMore
import PyProof.ZipIter
import PyProof.EnumMake
import PyProof.Rows.EnumRows
import PySem.Challenge.RW_creditworks_k32_double_deeds

set_option Elab.async false
set_option linter.all false
set_option maxRecDepth 100000
namespace L2
open PySem PySem.Spec PyProof.Rows
abbrev Key := Sum Int Str
def keyIs : Key → Value → Bool
  | .inl k, v => Value.isInt k v
  | .inr x, v => Value.isStrOf x v
def keyH (w : World) : Key → Int
  | .inl k => hashInt k
  | .inr x => hashStr w x
theorem keyIs_shape : ∀ {k : Key} {v : Value}, keyIs k v = true → (∃ i t, k = Sum.inl i ∧ v = Value.int i t) ∨ (∃ x t, k = Sum.inr x ∧ v = Value.str x t)
  | .inl i, v, h => by
    obtain ⟨t, e⟩ := Value.isInt_shape (k := i) (v := v) h
    exact .inl ⟨i, t, rfl, e⟩
  | .inr x, v, h => by
    obtain ⟨t, e⟩ := Value.isStrOf_shape (x := x) (v := v) h
    exact .inr ⟨x, t, rfl, e⟩
theorem key_ll (a b : Int) : decide ((Sum.inl a : Key) = Sum.inl b) = (a == b) := by
  by_cases e : a = b
  · subst e; simp
  · have h : ¬ (Sum.inl a : Key) = Sum.inl b := fun q => e (Sum.inl.inj q)
    rw [decide_eq_false h]
    exact (beq_eq_false_iff_ne.mpr e).symm
theorem key_rr (a b : Str) : decide ((Sum.inr a : Key) = Sum.inr b) = decide (a = b) := by
  by_cases e : a = b
  · subst e; simp
  · have h : ¬ (Sum.inr a : Key) = Sum.inr b := fun q => e (Sum.inr.inj q)
    rw [decide_eq_false h, decide_eq_false e]
theorem key_lr (a : Int) (b : Str) : decide ((Sum.inl a : Key) = Sum.inr b) = false := decide_eq_false (fun q => nomatch q)
theorem key_rl (a : Str) (b : Int) : decide ((Sum.inr a : Key) = Sum.inl b) = false := decide_eq_false (fun q => nomatch q)
def mixKind (prog : Program) (w : World) : PySem.KeyKind prog w Key where
  is := keyIs
  hash := keyH w
  inj := fun v a b ha hb => by
    rcases keyIs_shape ha with ⟨i, t, rfl, rfl⟩ | ⟨x, t, rfl, rfl⟩
    · rcases keyIs_shape hb with ⟨j, u, rfl, e⟩ | ⟨y, u, rfl, e⟩
      · injection e with e1 _; rw [e1]
      · exact nomatch e
    · rcases keyIs_shape hb with ⟨j, u, rfl, e⟩ | ⟨y, u, rfl, e⟩
      · exact nomatch e
      · injection e with e1 _; rw [e1]
  byValue := fun k v h => by
    rcases keyIs_shape h with ⟨i, t, rfl, rfl⟩ | ⟨x, t, rfl, rfl⟩ <;> rfl
  pyHash := fun hv h => by
    rcases keyIs_shape hv with ⟨i, t, rfl, rfl⟩ | ⟨x, t, rfl, rfl⟩
    · exact wpAny_pyHash_int h
    · exact wpAny_pyHash_str h
  eqBool := fun hu hv h => by
    rcases keyIs_shape hu with ⟨i, t, rfl, rfl⟩ | ⟨x, t, rfl, rfl⟩
    · rcases keyIs_shape hv with ⟨j, u, rfl, rfl⟩ | ⟨y, u, rfl, rfl⟩
      · rw [key_ll] at h; exact wpAny_eqBool_int h
      · rw [key_lr] at h; exact SeqAt.EqAt.int_str i t y u _ _ _ _ h
    · rcases keyIs_shape hv with ⟨j, u, rfl, rfl⟩ | ⟨y, u, rfl, rfl⟩
      · rw [key_rl] at h; exact SeqAt.EqAt.str_int x t j u _ _ _ _ h
      · rw [key_rr] at h; exact wpAny_eqBool_str h
  «strs» := fun k x t v h => by
    rcases keyIs_shape h with ⟨i, u, rfl, e⟩ | ⟨y, u, rfl, e⟩
    · exact nomatch e
    · injection e with e1 _
      subst e1
      cases v <;> rfl
end L2
namespace L2
open PySem PySem.Spec PyProof.Rows
inductive V where
  | non | bl (b : Bool) | int (i : Int) | str (x : Str) | byt (b : Array UInt8) | flt (b : UInt64) | ref (a : Addr) | ty (n : String)
  deriving DecidableEq
def RelV : V → Value → Prop
  | .non, u => u = Value.none
  | .bl b, u => u = Value.bool b
  | .int i, u => ∃ t, u = Value.int i t
  | .str x, u => ∃ t, u = Value.str x t
  | .byt b, u => ∃ t, u = Value.bytes b t
  | .flt b, u => ∃ t, u = Value.float b t
  | .ref a, u => u = Value.ref a
  | .ty n, u => u = Value.type n
abbrev Vals : List V → List Value → Prop := Paired RelV
theorem Vals.length {xs : List V} {us : List Value} (r : Vals xs us) : xs.length = us.length := Paired.length r
theorem Vals.get : ∀ {xs : List V} {us : List Value} {i : Nat} {x : V}, Vals xs us → xs[i]? = some x → ∃ u, us[i]? = some u ∧ RelV x u
  | _, _, _, _, .nil, e => by simp at e
  | _, _, 0, _, .cons r _, e => by simp at e; subst e; exact ⟨_, rfl, r⟩
  | _, _, i + 1, x, .cons _ t, e => by
    obtain ⟨u, h1, h2⟩ := Vals.get (i := i) (x := x) t (by simpa using e)
    exact ⟨u, by simpa using h1, h2⟩
theorem Vals.set {x : V} {u : Value} (r : RelV x u) : ∀ {xs : List V} {us : List Value} (i : Nat), Vals xs us → Vals (xs.set i x) (us.set i u)
  | _, _, _, .nil => .nil
  | _, _, 0, .cons _ t => .cons r t
  | _, _, i + 1, .cons q t => .cons q (Vals.set r i t)
theorem Vals.append : ∀ {xs ys : List V} {us ws : List Value}, Vals xs us → Vals ys ws → Vals (xs ++ ys) (us ++ ws)
  | _, _, _, _, .nil, s => s
  | _, _, _, _, .cons r t, s => .cons r (Vals.append t s)
theorem Vals.take : ∀ {xs : List V} {us : List Value} (n : Nat), Vals xs us → Vals (xs.take n) (us.take n)
  | _, _, 0, _ => .nil
  | _, _, _ + 1, .nil => .nil
  | _, _, n + 1, .cons r t => .cons r (Vals.take n t)
theorem Vals.drop : ∀ {xs : List V} {us : List Value} (n : Nat), Vals xs us → Vals (xs.drop n) (us.drop n)
  | _, _, 0, r => r
  | _, _, _ + 1, .nil => .nil
  | _, _, n + 1, .cons _ t => Vals.drop n t
theorem Vals.none_of : ∀ {xs : List V} {us : List Value} {i : Nat}, Vals xs us → xs[i]? = none → us[i]? = none := fun {xs us i} r e => by
  have h1 := r.length
  have h2 : xs.length ≤ i := List.getElem?_eq_none_iff.mp e
  exact List.getElem?_eq_none_iff.mpr (by omega)
def RelO : Option V → Option Value → Prop
  | some v, some u => RelV v u
  | none, none => True
  | _, _ => False
def KV {κ : Type} : List (κ × V) → List (κ × Value) → Prop := Paired fun (p : κ × V) (q : κ × Value) => p.1 = q.1 ∧ RelV p.2 q.2
def kV : Key → V
  | .inl i => .int i
  | .inr x => .str x
inductive HO where
  | lst (xs : List V)
  | tup (xs : List V)
  | dK (kvs : List (Key × V)) | dT (kvs : List (List Key × V))
  | set (S : Int → Bool) (n : Nat)
  | ins (C dx : Addr) (fs : List (Str × V))
  | own (x : Addr)
  | xd (fs : List (Str × V))
  | met (f x : Addr)
  | rng (lo hi : Int)
  | frz (o : Obj) (u : HO)
  | tbl (ps : Array Value)
  | ext (φ : Heap → Prop)
abbrev Hp := Addr → Option HO
def upd (H : Hp) (a : Addr) (o : HO) : Hp := fun b => if b = a then some o else H b
theorem upd_same {H : Hp} {a : Addr} {o : HO} : upd H a o a = some o := by unfold upd; rw [if_pos rfl]
theorem upd_ne {H : Hp} {a b : Addr} {o : HO} (h : b ≠ a) : upd H a o b = H b := by unfold upd; rw [if_neg h]
theorem ne_of_none {H : Hp} {a b : Addr} {o : HO} (h : H a = some o) (h' : H b = none) : a ≠ b := by
  intro e; subst e; rw [h] at h'; cases h'
section
variable (P : Program) (w : World)
def ObjOk (H : Hp) (h : Heap) (a : Addr) : HO → Prop
  | .lst xs => xs.length ≤ sizeLine ∧ ∃ (its : List Value) (n : Nat), Vals xs its ∧ h.get? a = some { cls := .type "list", data := .seq its.toArray n }
  | .tup xs => xs.length ≤ sizeLine ∧ ∃ its : List Value, Vals xs its ∧ IsTup h a its.toArray
  | .dK kvs => kvs.length ≤ sizeLine ∧ (a == sysModules) = false ∧ ∃ vs, KV kvs vs ∧ h.DictOf (mixKind P w) a vs
  | .dT kvs => kvs.length ≤ sizeLine ∧ (a == sysModules) = false ∧ ∃ xs : List (List Key × Addr × Value),
      Paired (fun (p : List Key × V) (q : List Key × Addr × Value) => p.1 = q.1 ∧ H q.2.1 = some (.tup (p.1.map kV)) ∧ RelV p.2 q.2.2) kvs xs ∧
      ∃ o es ep, h.get? a = some o ∧ o.ExactDict ∧ o.data = .dict es ep ∧ es.toList = xs.map (entryOfKey (tupleKind (mixKind P w))) ∧ (xs.map (·.1)).Nodup
  | .set S n => h.SetOf (intKind P w) a S n
  | .ins C dx fs => H dx = some (.own a) ∧ fs.length ≤ 1000 ∧ dx ≠ a ∧ h.get? a = some (PySem.W.instObj C dx) ∧
      ∃ mA, h.Ns1 dx mA ∧ (∀ f, RelO (fs.lookup f) (mA f)) ∧ PySem.Within mA (fs.map (·.1))
  | .own _ => ∃ o, h.get? a = some o
  | .xd fs => ∃ mA, h.Ns1 a mA ∧ ∀ f, RelO (fs.lookup f) (mA f)
  | .rng lo hi => ∃ t u v, h.get? a = some { cls := .type "range", data := .fields #[.int lo t, .int hi u, .int 1 v] }
  | .frz o u => h.get? a = some o ∧ ObjOk H h a u
  | .tbl ps => h.get? a = some { cls := .none, data := .fields ps }
  | .met f x => h.get? a = some (PySem.W.methodObj (.ref f) (.ref x))
  | .ext φ => φ h ∧ (∃ o, h.get? a = some o) ∧ ∀ h1 h2 : Heap, φ h1 → (∀ o, h1.get? a = some o → h2.get? a = some o) → φ h2
def HOk (H : Hp) (h : Heap) : Prop := ∀ a o, H a = some o → ObjOk P w H h a o
end
section
variable {P : Program} {w : World} {H H' : Hp} {h h' : Heap} {a : Addr} {o : HO}
theorem ObjOk.lt (x : ObjOk P w H h a o) : a < h.objs.size := by
  cases o with
  | lst xs => obtain ⟨_, _, _, _, e⟩ := x; exact Heap.lt_size e
  | tup xs => obtain ⟨_, _, _, p⟩ := x; exact p.lt
  | dK kvs => obtain ⟨_, _, _, _, o, _, _, e, _⟩ := x; exact Heap.lt_size e
  | dT kvs => obtain ⟨_, _, _, _, o, _, _, e, _⟩ := x; exact Heap.lt_size e
  | set S n => obtain ⟨o, _, _, _, e, _⟩ := x; exact Heap.lt_size e
  | ins C dx fs => obtain ⟨_, _, _, e, _⟩ := x; exact Heap.lt_size e
  | own y => obtain ⟨_, e⟩ := x; exact Heap.lt_size e
  | xd fs => obtain ⟨_, ⟨_, _, _, e, _⟩, _⟩ := x; exact Heap.lt_size e
  | rng lo hi => obtain ⟨_, _, _, e⟩ := x; exact Heap.lt_size e
  | frz ob u => obtain ⟨e, _⟩ := x; exact Heap.lt_size e
  | tbl ps => exact Heap.lt_size (show h.get? a = some _ from x)
  | met f y => exact Heap.lt_size (show h.get? a = some _ from x)
  | ext φ => obtain ⟨_, ⟨_, e⟩, _⟩ := x; exact Heap.lt_size e
theorem Paired.mapP {α β : Type} {F G : α → β → Prop} : ∀ {l₁ : List α} {l₂ : List β}, Paired F l₁ l₂ → (∀ a b, F a b → G a b) → Paired G l₁ l₂
  | _, _, .nil, _ => .nil
  | _, _, .cons r t, f => .cons (f _ _ r) (Paired.mapP t f)
theorem ObjOk.stay (x : ObjOk P w H h a o) (k : ∀ b u, (b = a ∨ H b = some (.own a)) → h.get? b = some u → h'.get? b = some u)
    (ho : ∀ b, H b = some (.own a) → H' b = some (.own a)) (ht : ∀ b xs, H b = some (.tup xs) → H' b = some (.tup xs)) : ObjOk P w H' h' a o := by
  induction o with
  | lst xs => obtain ⟨z, its, n, r, e⟩ := x; exact ⟨z, its, n, r, k _ _ (.inl rfl) e⟩
  | tup xs => obtain ⟨z, its, r, ob, e, c⟩ := x; exact ⟨z, its, r, ob, k _ _ (.inl rfl) e, c⟩
  | dK kvs => obtain ⟨z, y, vs, r, ob, es, ep, e, c⟩ := x; exact ⟨z, y, vs, r, ob, es, ep, k _ _ (.inl rfl) e, c⟩
  | dT kvs =>
    obtain ⟨z, y, xs, r, ob, es, ep, e, c⟩ := x
    exact ⟨z, y, xs, Paired.mapP r fun p q z => ⟨z.1, ht _ _ z.2.1, z.2.2⟩, ob, es, ep, k _ _ (.inl rfl) e, c⟩
  | set S n => obtain ⟨ob, es, ep, t, e, c⟩ := x; exact ⟨ob, es, ep, t, k _ _ (.inl rfl) e, c⟩
  | ins C dx fs =>
    obtain ⟨d, z, ne, e, mA, ⟨od, es, ep, e2, c⟩, r⟩ := x
    exact ⟨ho _ d, z, ne, k _ _ (.inl rfl) e, mA, ⟨od, es, ep, k _ _ (.inr d) e2, c⟩, r⟩
  | own y => obtain ⟨ob, e⟩ := x; exact ⟨ob, k _ _ (.inl rfl) e⟩
  | xd fs => obtain ⟨mA, ⟨od, es, ep, e, c⟩, r⟩ := x; exact ⟨mA, ⟨od, es, ep, k _ _ (.inl rfl) e, c⟩, r⟩
  | rng lo hi => obtain ⟨t, u, v, e⟩ := x; exact ⟨t, u, v, k _ _ (.inl rfl) e⟩
  | frz ob u ih => obtain ⟨e, q⟩ := x; exact ⟨k _ _ (.inl rfl) e, ih q⟩
  | tbl ps =>
    have e : h.get? a = some { cls := .none, data := .fields ps } := x
    show h'.get? a = some { cls := .none, data := .fields ps }
    exact k a _ (.inl rfl) e
  | met f y =>
    have e : h.get? a = some (PySem.W.methodObj (.ref f) (.ref y)) := x
    show h'.get? a = some (PySem.W.methodObj (.ref f) (.ref y))
    exact k a _ (.inl rfl) e
  | ext φ => obtain ⟨p, ⟨o, e⟩, st⟩ := x; exact ⟨st _ _ p fun o q => k _ _ (.inl rfl) q, ⟨o, k _ _ (.inl rfl) e⟩, st⟩
theorem HOk.lt (x : HOk P w H h) (e : H a = some o) : a < h.objs.size := (x a o e).lt
theorem HOk.fresh (x : HOk P w H h) (e : h.objs.size ≤ a) : H a = none := by
  cases q : H a with
  | none => rfl
  | some u => exact absurd (Nat.lt_of_lt_of_le (x.lt q) e) (Nat.lt_irrefl _)
theorem HOk.kept (x : HOk P w H h) (k : ∀ b u, h.get? b = some u → h'.get? b = some u) : HOk P w H h' := fun a o e =>
  (x a o e).stay (fun b u _ q => k b u q) (fun _ q => q) fun _ _ q => q
theorem HOk.laid (x : HOk P w H h) (k : ∀ b u, h.get? b = some u → h'.get? b = some u) (hp : h.objs.size ≤ a) (new : ObjOk P w (upd H a o) h' a o) : HOk P w (upd H a o) h' := fun b u e => by
  have hn := x.fresh hp
  by_cases hb : b = a
  · subst hb; rw [upd_same] at e; cases e; exact new
  · rw [upd_ne hb] at e
    exact (x b u e).stay (fun c v _ q => k c v q) (fun c q => by rw [upd_ne (ne_of_none q hn)]; exact q) fun c xs q => by rw [upd_ne (ne_of_none q hn)]; exact q
end
def Rd (H : Hp) (a : Addr) (u : HO) : Prop := H a = some u ∨ ∃ o, H a = some (.frz o u)
theorem Rd.of {H : Hp} {a : Addr} {u : HO} (h : H a = some u) : Rd H a u := .inl h
theorem Rd.ok {P : Program} {w : World} {H : Hp} {h : Heap} {a : Addr} {u : HO} (r : Rd H a u) (x : HOk P w H h) : ObjOk P w H h a u := by
  rcases r with r | ⟨o, r⟩
  · exact x a u r
  · obtain ⟨_, q⟩ := x a _ r
    exact q
def Mut : Option HO → Prop
  | some (.lst _) => True
  | some (.dK _) => True
  | some (.dT _) => True
  | some (.set _ _) => True
  | some (.ins _ _ _) => True
  | some (.ext _) => True
  | _ => False
section
variable {P : Program} {w : World} {H : Hp} {h h' : Heap} {x e : Addr} {o' : HO}
theorem HOk.write (ok : HOk P w H h) (mu : Mut (H x)) (he : e = x ∨ H e = some (.own x)) (k : ∀ b u, b ≠ e → h.get? b = some u → h'.get? b = some u) (heo : ∃ u, h'.get? e = some u)
    (new : ObjOk P w (upd H x o') h' x o') : HOk P w (upd H x o') h' := fun b u q => by
  have nown : ∀ c y, H c = some (.own y) → c ≠ x := fun c y r z => by subst z; rw [r] at mu; exact mu
  have ntup : ∀ c xs, H c = some (.tup xs) → c ≠ x := fun c xs r z => by subst z; rw [r] at mu; exact mu
  by_cases hb : b = x
  · subst hb; rw [upd_same] at q; cases q; exact new
  · rw [upd_ne hb] at q
    by_cases hbe : b = e
    · have q' : H b = some (.own x) := by
        rcases he with z | z
        · exact absurd (hbe.trans z) hb
        · rw [hbe]; exact z
      rw [q] at q'; cases q'
      obtain ⟨v, hv⟩ := heo
      exact ⟨v, by rw [hbe]; exact hv⟩
    · refine (ok b u q).stay (fun c v hc r => k c v ?_ r) (fun c r => by rw [upd_ne (nown c b r)]; exact r) fun c xs r => by rw [upd_ne (ntup c xs r)]; exact r
      rcases hc with rfl | hc
      · exact hbe
      · rintro rfl
        rcases he with z | z
        · exact nown c b hc z
        · rw [hc] at z; cases z; exact hb rfl
end
structure Un (fs ex : List Addr) (H H' : Hp) (h h' : Heap) : Prop where
  keep : ∀ b o, h.get? b = some o → H b = none → b ∉ fs → b ∉ ex → h'.get? b = some o
  slot : ∀ b o, h.get? b = some o → H b = none → b ∈ fs → b ∉ ex → ∃ sl, h'.get? b = some { o with slots := sl }
  free : ∀ b o, h.get? b = some o → H b = none → b ∉ ex → H' b = none
  there : ∀ b o, h.get? b = some o → b ∉ ex → ∃ o', h'.get? b = some o'
  tups : ∀ b xs, H b = some (.tup xs) → H' b = some (.tup xs)
  frzs : ∀ b o u, H b = some (.frz o u) → H' b = some (.frz o u)
  tbls : ∀ b ps, H b = some (.tbl ps) → ∃ more, H' b = some (.tbl (ps ++ more))
section
variable {fs fs' ex ex' : List Addr} {H H1 H2 : Hp} {h h1 h2 h' : Heap} {a x e : Addr} {o : HO}
theorem Un.any (u : Un fs ex H H1 h h1) {b : Addr} {ob : Obj} (q : h.get? b = some ob) (n : H b = none) (hx : b ∉ ex) : ∃ sl, h1.get? b = some { ob with slots := sl } := by
  by_cases hb : b ∈ fs
  · exact u.slot b ob q n hb hx
  · exact ⟨ob.slots, u.keep b ob q n hb hx⟩
theorem Un.trans (a : Un fs ex H H1 h h1) (b : Un fs ex H1 H2 h1 h2) : Un fs ex H H2 h h2 where
  keep := fun c ob q n hc hx => b.keep c ob (a.keep c ob q n hc hx) (a.free c ob q n hx) hc hx
  slot := fun c ob q n hc hx => by
    obtain ⟨sl, e1⟩ := a.slot c ob q n hc hx
    obtain ⟨sl', e2⟩ := b.slot c _ e1 (a.free c ob q n hx) hc hx
    exact ⟨sl', e2⟩
  free := fun c ob q n hx => by
    obtain ⟨o', e1⟩ := a.there c ob q hx
    exact b.free c o' e1 (a.free c ob q n hx) hx
  there := fun c ob q hx => by
    obtain ⟨o', e1⟩ := a.there c ob q hx
    exact b.there c o' e1 hx
  tups := fun c xs q => b.tups c xs (a.tups c xs q)
  frzs := fun c ob xs q => b.frzs c ob xs (a.frzs c ob xs q)
  tbls := fun c ps q => by
    obtain ⟨m1, e1⟩ := a.tbls c ps q
    obtain ⟨m2, e2⟩ := b.tbls c _ e1
    exact ⟨m1 ++ m2, by rw [e2, Array.append_assoc]⟩
theorem Un.kept (k : ∀ b u, h.get? b = some u → h'.get? b = some u) : Un fs ex H H h h' :=
  ⟨fun b ob q _ _ _ => k b ob q, fun b ob q _ _ _ => ⟨ob.slots, k b ob q⟩, fun _ _ _ n _ => n, fun b ob q _ => ⟨ob, k b ob q⟩, fun _ _ q => q, fun _ _ _ q => q, fun _ ps q => ⟨#[], by rw [q]; simp⟩⟩
theorem Un.refl : Un fs ex H H h h := Un.kept fun _ _ q => q
theorem Un.laid (k : ∀ b u, h.get? b = some u → h'.get? b = some u) (hp : h.objs.size ≤ a) (hn : H a = none) : Un fs ex H (upd H a o) h h' where
  keep := fun b u q _ _ _ => k b u q
  slot := fun b u q _ _ _ => ⟨u.slots, k b u q⟩
  free := fun b u q n _ => by rw [upd_ne (Nat.ne_of_lt (Nat.lt_of_lt_of_le (Heap.lt_size q) hp))]; exact n
  there := fun b u q _ => ⟨u, k b u q⟩
  tups := fun b xs q => by rw [upd_ne (ne_of_none q hn)]; exact q
  frzs := fun b u xs q => by rw [upd_ne (ne_of_none q hn)]; exact q
  tbls := fun b ps q => ⟨#[], by rw [upd_ne (ne_of_none q hn), q]; simp⟩
theorem Un.write (mu : Mut (H x)) (he : e = x ∨ H e = some (.own x)) (k : ∀ b u, b ≠ e → h.get? b = some u → h'.get? b = some u) (heo : ∃ u, h'.get? e = some u) : Un fs ex H (upd H x o) h h' := by
  have hx : ∀ b, H b = none → b ≠ x := fun b n z => by subst z; rw [n] at mu; exact mu
  have hb : ∀ b, H b = none → b ≠ e := fun b n z => by
    subst z
    rcases he with r | r
    · exact hx b n r
    · rw [n] at r; cases r
  have hm : ∀ b u, H b = some u → ¬ Mut (some u) → b ≠ x := fun b u q nm z => by subst z; rw [q] at mu; exact nm mu
  refine ⟨fun b u q n _ _ => k b u (hb b n) q, fun b u q n _ _ => ⟨u.slots, k b u (hb b n) q⟩, fun b u q n _ => by rw [upd_ne (hx b n)]; exact n, fun b u q _ => ?_,
    fun b xs q => by rw [upd_ne (hm b _ q fun z => z)]; exact q, fun b u xs q => by rw [upd_ne (hm b _ q fun z => z)]; exact q, fun b ps q => ⟨#[], by rw [upd_ne (hm b _ q fun z => z), q]; simp⟩⟩
  by_cases hbe : b = e
  · subst hbe; exact heo
  · exact ⟨u, k b u hbe q⟩
theorem Un.mono (u : Un fs ex H H1 h h1) (hs : ∀ b ∈ fs, b ∈ fs') (hx : ∀ b ∈ ex, b ∈ ex') : Un fs' ex' H H1 h h1 :=
  ⟨fun b ob q n hb he => u.keep b ob q n (fun z => hb (hs b z)) fun z => he (hx b z), fun _ _ q n _ he => u.any q n fun z => he (hx _ z), fun b ob q n he => u.free b ob q n fun z => he (hx b z), fun b ob q he => u.there b ob q fun z => he (hx b z), u.tups, u.frzs, u.tbls⟩
end
def trk (h : Heap) (H : Hp) : List Addr := (List.range h.objs.size).filter fun a => (H a).isSome
def hidT (h : Heap) (H : Hp) : Heap := PySem.W.hideAll h (trk h H)
theorem hidT_size (h : Heap) (H : Hp) : (hidT h H).objs.size = h.objs.size := PySem.W.hideAll_size _ _
theorem hidT_get {h : Heap} {H : Hp} {b : Addr} {o : Obj} (e : h.get? b = some o) (n : H b = none) : (hidT h H).get? b = some o :=
  PySem.W.hideAll_get _ e fun hm => by
    have q : (H b).isSome = true := (List.mem_filter.mp hm).2
    rw [n] at q; simp at q
theorem of_hidT {h : Heap} {H : Hp} {b : Addr} {o : Obj} (e : (hidT h H).get? b = some o) : h.get? b = some o ∧ H b = none := by
  have e' : h.get? b = some o := PySem.W.of_hideAll (trk h H) e
  refine ⟨e', ?_⟩
  cases q : H b with
  | none => rfl
  | some x =>
    have hm : b ∈ trk h H := List.mem_filter.mpr ⟨List.mem_range.mpr (Heap.lt_size e'), by simp [q]⟩
    have z : (hidT h H).get? b = none := PySem.W.hideAll_none (trk h H) hm
    rw [z] at e; cases e
def allNews (g h : Heap) (L : Addr) : List (Addr × Obj) := (List.range h.objs.size).filterMap fun a => if a = L ∨ (g.get? a).isSome = true then none else (h.get? a).map fun o => (a, o)
def rest (g h : Heap) (L d : Addr) : List (Addr × Obj) := (allNews g h L).filter fun p => decide (p.1 ≠ d)
end L2
namespace L2
open PySem PySem.Spec PyProof.Rows
structure Mod (K : PySem.W.Frag) (mg : Str → Option Value) (base : Heap) : Prop where
  kin : K.In base
  glob : base.Ns mainGlobals mg
  blt : ∃ mb, base.Ns builtinsNs mb ∧ ∀ x : Str, x ≠ "__name__" → mb x = bootBuiltins x
  nolimit : base.NoLimit
structure Cx where
  prog : Program
  w : World
  K : PySem.W.Frag
  mg : Str → Option Value
  base : Heap
  A : Around
  N : List Str
  s₀ : Shared
  H₀ : Hp
  env : Env
  outer : List Env
  stack : List Env
  ex : List Addr
  fn : Str → Bool
  calm : Bool
  pn : List (Addr × Obj)
  xe : Value → Shared → Prop
def frs (l : List Env) : List Addr := l.filterMap (·.frame)
abbrev Cx.fs (X : Cx) : List Addr := frs X.outer
def Vis (sc : Scope) (x : Str) : Prop := sc.names.lookup x = some .local ∨ sc.names.lookup x = some .cell ∨ sc.names.lookup x = some .free
def Loc (sc : Scope) (x : Str) : Prop := sc.names.lookup x = some .local ∨ sc.names.lookup x = some .cell
def Look (env : Env) (h : Heap) (m : Str → Option Value) (x : Str) (u : Value) : Prop :=
  (env.kindOf x = some .local ∧ m x = some u) ∨ ((env.kindOf x = some .cell ∨ env.kindOf x = some .free) ∧ ∃ c, env.cells.lookup x = some c ∧ h.IsCell c (some u))
structure Cx.Ok (X : Cx) : Prop where
  mod : Mod X.K X.mg X.base
  kind : X.env.scope.kind = .function
  glob : X.env.globals = mainGlobals
  blt : X.env.builtins = builtinsNs
  above : X.s₀.heap.objs.size ≤ X.env.locals
  inj : ∀ x y c, X.env.cells.lookup x = some c → X.env.cells.lookup y = some c → x = y
  has : ∀ x, (X.env.kindOf x = some .cell ∨ X.env.kindOf x = some .free) → ∃ c, X.env.cells.lookup x = some c
  cab : ∀ x c, X.fn x = true → X.env.cells.lookup x = some c → X.s₀.heap.objs.size ≤ c
  hd : X.calm = true → X.A.handled = none
  frames : X.A.frames = some X.stack
  stk : X.stack = X.outer ∨ (X.stack = X.env :: X.outer ∧ X.env.frame = some X.env.locals)
  exf : ∀ b ∈ X.ex, b ≠ X.env.locals ∧ ∀ x c, X.env.cells.lookup x = some c → c ≠ b
  bs : ∀ b o, X.base.get? b = some o → X.s₀.heap.get? b = some o ∧ X.H₀ b = none
  bsz : X.base.objs.size ≤ X.s₀.heap.objs.size
  noex : ∀ b o, X.base.get? b = some o → b ∉ X.ex
  exfs : ∀ b ∈ X.ex, b ∉ X.fs
  funs : X.s₀.heap.FunFrames X.base X.outer
  frf : ∀ b ∈ X.fs, X.H₀ b = none
structure Inv (X : Cx) (pins : List (Addr × Obj)) (σ : List (Option V)) (H : Hp) (s : Shared) : Prop where
  ok : X.Ok
  os : s.os = X.s₀.os
  bare : AllBare s.gens
  base : Un X.fs X.ex X.H₀ H X.s₀.heap s.heap
  loc : ∃ m, s.heap.Ns X.env.locals m ∧ ∀ (i : Nat) (x : Str) (v : V), X.N[i]? = some x → σ[i]? = some (some v) → Vis X.env.scope x → ∃ u, RelV v u ∧ Look X.env s.heap m x u
  cell : ∀ x c, X.env.cells.lookup x = some c → ∃ v, s.heap.IsCell c v
  free : H X.env.locals = none
  freeC : ∀ x c, X.env.cells.lookup x = some c → H c = none
  pin : ∀ p ∈ X.pn ++ pins, s.heap.get? p.1 = some p.2 ∧ H p.1 = none ∧ p.1 ≠ X.env.locals ∧ p.1 ∉ X.fs ∧ ∀ v, p.2.data ≠ .cell v
  hok : HOk X.prog X.w H s.heap
  len : σ.length = X.N.length
section
variable {X : Cx} {pins : List (Addr × Obj)} {σ : List (Option V)} {H H' : Hp} {s : Shared} {h' : Heap}
theorem Cx.Ok.nofr (ok : X.Ok) {b : Addr} {o : Obj} (e : X.base.get? b = some o) : b ∉ X.fs := fun hb => by
  have := (ok.funs.mem hb).1
  rw [e] at this; cases this
theorem Inv.bs (I : Inv X pins σ H s) : ∀ b o, X.base.get? b = some o → s.heap.get? b = some o ∧ H b = none := fun b o e =>
  ⟨I.base.keep b o (I.ok.bs b o e).1 (I.ok.bs b o e).2 (I.ok.nofr e) (I.ok.noex b o e), I.base.free b o (I.ok.bs b o e).1 (I.ok.bs b o e).2 (I.ok.noex b o e)⟩
theorem Inv.bk (I : Inv X pins σ H s) : ∀ b o, X.base.get? b = some o → s.heap.get? b = some o := fun b o e => (I.bs b o e).1
theorem Inv.mod (I : Inv X pins σ H s) : Mod X.K X.mg X.base := I.ok.mod
theorem Inv.kIn (I : Inv X pins σ H s) : X.K.In s.heap := I.ok.mod.kin.keeps I.bk
theorem Inv.nolimit (I : Inv X pins σ H s) : s.heap.NoLimit := I.ok.mod.nolimit.keeps I.bk
theorem Inv.fr (I : Inv X pins σ H s) : ∃ m, Fr X.base X.env.locals s.heap m :=
  let ⟨m, hn, _⟩ := I.loc
  ⟨m, hn, I.bk, Nat.le_trans I.ok.bsz I.ok.above⟩
theorem Inv.lt (I : Inv X pins σ H s) : X.env.locals < s.heap.objs.size := let ⟨_, hn, _⟩ := I.loc; hn.lt
theorem Inv.sz (I : Inv X pins σ H s) : X.s₀.heap.objs.size ≤ s.heap.objs.size := Nat.le_trans I.ok.above (Nat.le_of_lt I.lt)
theorem Inv.nofs (I : Inv X pins σ H s) {a : Addr} (h : s.heap.objs.size ≤ a) : a ∉ X.fs := fun hb => by
  obtain ⟨_, o, ho, _⟩ := I.ok.funs.mem hb
  exact absurd (Nat.lt_of_lt_of_le (Heap.lt_size ho) (Nat.le_trans I.sz h)) (Nat.lt_irrefl _)
theorem Inv.cne (I : Inv X pins σ H s) : ∀ x c, X.env.cells.lookup x = some c → c ≠ X.env.locals := fun x c e z => by
  obtain ⟨v, o, ho, hd⟩ := I.cell x c e
  obtain ⟨m, ⟨o', es, ep, ho', hd', _⟩, _⟩ := I.loc
  rw [z, ho'] at ho; cases ho; rw [hd'] at hd; cases hd
theorem Inv.funs (I : Inv X pins σ H s) : s.heap.FunFrames X.base X.outer := by
  have all : ∀ (l : List Env), (∀ b ∈ frs l, b ∈ X.fs) → X.s₀.heap.FunFrames X.base l → s.heap.FunFrames X.base l := by
    intro l
    induction l with
    | nil => intro _ _; trivial
    | cons env r ih =>
      intro hs hl
      obtain ⟨hk, ⟨L, o, hf, hn, ho, hd⟩, hr⟩ := hl
      have hL : L ∈ X.fs := hs L (by unfold frs; rw [List.filterMap_cons, hf]; exact List.mem_cons_self)
      obtain ⟨sl, e⟩ := I.base.slot L o ho (I.ok.frf L hL) hL fun z => I.ok.exfs L z hL
      exact ⟨hk, ⟨L, _, hf, hn, e, hd⟩, ih (fun b hb => hs b (by unfold frs; rw [List.filterMap_cons, hf]; exact List.mem_cons_of_mem _ hb)) hr⟩
  exact all X.outer (fun _ hb => hb) I.ok.funs
theorem Inv.stack (I : Inv X pins σ H s) : s.heap.FunFrames X.base X.stack := by
  rcases I.ok.stk with e | ⟨e, hf⟩
  · rw [e]; exact I.funs
  · rw [e]
    obtain ⟨m, hn, _⟩ := I.loc
    refine .cons (by rw [I.ok.kind]; decide) hf hn ?_ I.funs
    exact Heap.get?_none_of_le (Nat.le_trans I.ok.bsz I.ok.above)
theorem Inv.stkSub (I : Inv X pins σ H s) : ∀ b ∈ frs X.stack, b ∈ X.env.locals :: X.fs := fun b hb => by
  rcases I.ok.stk with e | ⟨e, hf⟩
  · rw [e] at hb; exact List.mem_cons_of_mem _ hb
  · rw [e] at hb
    unfold frs at hb
    rw [List.filterMap_cons, hf] at hb
    exact hb
theorem Inv.stkFree (I : Inv X pins σ H s) : ∀ b ∈ frs X.stack, H b = none := fun b hb => by
  rcases List.mem_cons.mp (I.stkSub b hb) with e | hb
  · rw [e]; exact I.free
  · obtain ⟨_, o, ho, _⟩ := I.ok.funs.mem hb
    exact I.base.free b o ho (I.ok.frf b hb) fun z => I.ok.exfs b z hb
theorem Inv.step {g' : Array GenState} {t' : Nat} {d' : Drawn} {ch : List Addr} (I : Inv X pins σ H s)
    (hch : ∀ b ∈ ch, (b ∈ X.ex ∨ X.s₀.heap.objs.size ≤ b) ∧ b ≠ X.env.locals ∧ (∀ x c, X.env.cells.lookup x = some c → c ≠ b) ∧ ∀ p ∈ X.pn ++ pins, p.1 ≠ b)
    (keep : ∀ b o, b ≠ X.env.locals → b ∉ X.fs → b ∉ ch → s.heap.get? b = some o → H b = none → h'.get? b = some o)
    (slot : ∀ b o, b ≠ X.env.locals → b ∈ X.fs → b ∉ ch → s.heap.get? b = some o → H b = none → ∃ sl, h'.get? b = some { o with slots := sl }) (free : ∀ b o, b ∉ ch → s.heap.get? b = some o → H b = none → H' b = none)
    (there : ∀ b o, b ∉ ch → s.heap.get? b = some o → ∃ o', h'.get? b = some o')
    (tups : ∀ b xs, H b = some (.tup xs) → H' b = some (.tup xs)) (frzs : ∀ b o u, H b = some (.frz o u) → H' b = some (.frz o u)) (tbls : ∀ b ps, H b = some (.tbl ps) → ∃ more, H' b = some (.tbl (ps ++ more)))
    (ns : ∀ m, s.heap.Ns X.env.locals m → h'.Ns X.env.locals m) (hok : HOk X.prog X.w H' h') (hg : AllBare g') :
    Inv X pins σ H' { s with heap := h', gens := g', drawn := d', toks := t' } := by
  have neL : ∀ b o, X.s₀.heap.get? b = some o → b ≠ X.env.locals := fun b o e => Nat.ne_of_lt (Nat.lt_of_lt_of_le (Heap.lt_size e) I.ok.above)
  have neC : ∀ b o, X.s₀.heap.get? b = some o → b ∉ X.ex → b ∉ ch := fun b o e hx hb => by
    rcases (hch b hb).1 with z | z
    · exact hx z
    · exact absurd (Nat.lt_of_lt_of_le (Heap.lt_size e) z) (Nat.lt_irrefl _)
  have cellK : ∀ x c, X.env.cells.lookup x = some c → ∀ v, s.heap.IsCell c v → h'.IsCell c v := fun x c e v ⟨o, ho, hd⟩ => by
    have nch : c ∉ ch := fun z => (hch c z).2.2.1 x c e rfl
    by_cases hc : c ∈ X.fs
    · obtain ⟨sl, q⟩ := slot c o (I.cne x c e) hc nch ho (I.freeC x c e)
      exact ⟨_, q, hd⟩
    · exact ⟨o, keep c o (I.cne x c e) hc nch ho (I.freeC x c e), hd⟩
  refine ⟨I.ok, I.os, hg, ⟨fun b o e n hb hx => ?_, fun b o e n hb hx => ?_, fun b o e n hx => ?_, fun b o e hx => ?_, fun b xs e => tups b xs (I.base.tups b xs e), fun b o xs e => frzs b o xs (I.base.frzs b o xs e), fun b ps e => ?_⟩, ?_, fun x c e => ?_, ?_, fun x c e => ?_, fun p hp => ?_, hok, I.len⟩
  · exact keep b o (neL b o e) hb (neC b o e hx) (I.base.keep b o e n hb hx) (I.base.free b o e n hx)
  · obtain ⟨sl, e1⟩ := I.base.slot b o e n hb hx
    obtain ⟨sl', e2⟩ := slot b _ (neL b o e) hb (neC b o e hx) e1 (I.base.free b o e n hx)
    exact ⟨sl', e2⟩
  · obtain ⟨o', e1⟩ := I.base.there b o e hx
    exact free b o' (neC b o e hx) e1 (I.base.free b o e n hx)
  · obtain ⟨o', e1⟩ := I.base.there b o e hx
    exact there b o' (neC b o e hx) e1
  · obtain ⟨m1, e1⟩ := I.base.tbls b ps e
    obtain ⟨m2, e2⟩ := tbls b _ e1
    exact ⟨m1 ++ m2, by rw [e2, Array.append_assoc]⟩
  · obtain ⟨m, hn, hl⟩ := I.loc
    refine ⟨m, ns m hn, fun i x v e1 e2 e3 => ?_⟩
    obtain ⟨u, r, l⟩ := hl i x v e1 e2 e3
    refine ⟨u, r, ?_⟩
    rcases l with l | ⟨k, c, e, z⟩
    · exact .inl l
    · exact .inr ⟨k, c, e, cellK x c e _ z⟩
  · obtain ⟨v, z⟩ := I.cell x c e
    exact ⟨v, cellK x c e v z⟩
  · obtain ⟨m, ⟨o, _, _, ho, _⟩, _⟩ := I.loc
    exact free _ o (fun z => (hch _ z).2.1 rfl) ho I.free
  · obtain ⟨v, o, ho, hd⟩ := I.cell x c e
    exact free c o (fun z => (hch c z).2.2.1 x c e rfl) ho (I.freeC x c e)
  · obtain ⟨e, n, ne, nf, d⟩ := I.pin p hp
    have nch : p.1 ∉ ch := fun z => (hch p.1 z).2.2.2 p hp rfl
    exact ⟨keep p.1 p.2 ne nf nch e n, free p.1 p.2 nch e n, ne, nf, d⟩
theorem Inv.un {t' : Nat} (I : Inv X pins σ H s) (u : Un X.fs [] H H' s.heap h') (hok : HOk X.prog X.w H' h') : Inv X pins σ H' { s with heap := h', toks := t' } := by
  obtain ⟨m, ⟨o, es, ep, ho, r⟩, _⟩ := id I.loc
  obtain ⟨sl, hL⟩ := u.any ho I.free (by simp)
  exact I.step (g' := s.gens) (d' := s.drawn) (ch := []) (fun _ z => nomatch z) (fun b o _ hb _ e n => u.keep b o e n hb (by simp)) (fun b o _ hb _ e n => u.slot b o e n hb (by simp)) (fun b o _ e n => u.free b o e n (by simp)) (fun b o _ e => u.there b o e (by simp)) u.tups u.frzs u.tbls (fun m' hm => by
    obtain ⟨o', es', ep', ho', r'⟩ := hm
    rw [ho] at ho'; cases ho'
    exact ⟨_, es', ep', hL, r'⟩) hok I.bare
theorem Inv.call {g' : Array GenState} {t' : Nat} {d' : Drawn} {ch : List Addr} (I : Inv X pins σ H s) (u : Un (frs X.stack) ch H H' s.heap h') (hok : HOk X.prog X.w H' h') (hg : AllBare g')
    (hch : ∀ b ∈ ch, (b ∈ X.ex ∨ X.s₀.heap.objs.size ≤ b) ∧ b ≠ X.env.locals ∧ (∀ x c, X.env.cells.lookup x = some c → c ≠ b) ∧ ∀ p ∈ X.pn ++ pins, p.1 ≠ b) :
    Inv X pins σ H' { s with heap := h', gens := g', drawn := d', toks := t' } := by
  obtain ⟨m, ⟨o, es, ep, ho, r⟩, _⟩ := id I.loc
  obtain ⟨sl, hL⟩ := u.any ho I.free fun z => (hch _ z).2.1 rfl
  exact I.step (ch := ch) hch (fun b o hL hb hc e n => u.keep b o e n (fun z => (List.mem_cons.mp (I.stkSub b z)).elim hL hb) hc) (fun b o _ _ hc e n => u.any e n hc) (fun b o hc e n => u.free b o e n hc) (fun b o hc e => u.there b o e hc) u.tups u.frzs u.tbls (fun m' hm => by
    obtain ⟨o', es', ep', ho', r'⟩ := hm
    rw [ho] at ho'; cases ho'
    exact ⟨_, es', ep', hL, r'⟩) hok hg
theorem Inv.turned {t' : Nat} {it : Addr} (I : Inv X pins σ H s) (k : ∀ b o, b ≠ it → s.heap.get? b = some o → h'.get? b = some o) (hn : H it = none) (hL : it ≠ X.env.locals)
    (h1 : it ∈ X.ex ∨ X.s₀.heap.objs.size ≤ it) (h2 : ∀ x c, X.env.cells.lookup x = some c → c ≠ it) (h3 : ∀ p ∈ X.pn ++ pins, p.1 ≠ it) : Inv X pins σ H { s with heap := h', toks := t' } := by
  have nit : ∀ b u, H b = some u → b ≠ it := fun b u e z => by rw [z, hn] at e; cases e
  refine I.step (g' := s.gens) (d' := s.drawn) (ch := [it]) (fun b hb => ?_) (fun b o _ _ hc e _ => k b o (fun z => hc (by simp [z])) e) (fun b o _ _ hc e _ => ⟨o.slots, k b o (fun z => hc (by simp [z])) e⟩) (fun _ _ _ _ n => n)
    (fun b o hc e => ⟨o, k b o (fun z => hc (by simp [z])) e⟩) (fun _ _ e => e) (fun _ _ _ e => e) (fun b ps e => ⟨#[], by rw [e]; simp⟩) (fun m hm => ?_) (fun b u e => ?_) I.bare
  · have e : b = it := by simpa using hb
    subst e
    exact ⟨h1, hL, h2, h3⟩
  · obtain ⟨o, es, ep, ho, r⟩ := hm
    exact ⟨o, es, ep, k _ o (Ne.symm hL) ho, r⟩
  · refine (I.hok b u e).stay (fun c v hc q => k c v ?_ q) (fun _ q => q) fun _ _ q => q
    rcases hc with z | z
    · rw [z]; exact nit b u e
    · exact nit c _ z
theorem Inv.tok (I : Inv X pins σ H s) (t : Nat) : Inv X pins σ H { s with toks := t } := I.un (h' := s.heap) (t' := t) Un.refl I.hok
theorem Inv.kept {t' : Nat} (I : Inv X pins σ H s) (k : ∀ b u, s.heap.get? b = some u → h'.get? b = some u) : Inv X pins σ H { s with heap := h', toks := t' } := I.un (Un.kept k) (I.hok.kept k)
theorem Inv.laid {a : Addr} {o : HO} {t' : Nat} (I : Inv X pins σ H s) (k : ∀ b u, s.heap.get? b = some u → h'.get? b = some u) (hp : s.heap.objs.size ≤ a) (new : ObjOk X.prog X.w (upd H a o) h' a o) :
    Inv X pins σ (upd H a o) { s with heap := h', toks := t' } := I.un (Un.laid k hp (I.hok.fresh hp)) (I.hok.laid k hp new)
theorem Inv.write {x e : Addr} {o : HO} {t' : Nat} (I : Inv X pins σ H s) (mu : Mut (H x)) (he : e = x ∨ H e = some (.own x)) (k : ∀ b u, b ≠ e → s.heap.get? b = some u → h'.get? b = some u) (heo : ∃ u, h'.get? e = some u)
    (new : ObjOk X.prog X.w (upd H x o) h' x o) : Inv X pins σ (upd H x o) { s with heap := h', toks := t' } := I.un (Un.write mu he k heo) (I.hok.write mu he k heo new)
theorem Inv.weak {σ' : List (Option V)} (I : Inv X pins σ H s) (hl : σ'.length = σ.length) (w : ∀ (i : Nat) v, σ'[i]? = some (some v) → σ[i]? = some (some v)) : Inv X pins σ' H s :=
  ⟨I.ok, I.os, I.bare, I.base, let ⟨m, hn, hl'⟩ := I.loc; ⟨m, hn, fun i x v e1 e2 e3 => hl' i x v e1 (w i v e2) e3⟩, I.cell, I.free, I.freeC, I.pin, I.hok, hl.trans I.len⟩
theorem Inv.pins_of {pins' : List (Addr × Obj)} (I : Inv X pins σ H s) (h : ∀ p ∈ pins', s.heap.get? p.1 = some p.2 ∧ H p.1 = none ∧ p.1 ≠ X.env.locals ∧ p.1 ∉ X.fs ∧ ∀ v, p.2.data ≠ .cell v) : Inv X pins' σ H s :=
  ⟨I.ok, I.os, I.bare, I.base, I.loc, I.cell, I.free, I.freeC, fun p hp => (List.mem_append.mp hp).elim (fun z => I.pin p (List.mem_append_left _ z)) (h p), I.hok, I.len⟩
theorem nodup_ix {N : List Str} (hN : N.Nodup) {i j : Nat} {x : Str} (a : N[i]? = some x) (b : N[j]? = some x) : i = j := by
  obtain ⟨h1, e1⟩ := List.getElem?_eq_some_iff.mp a
  obtain ⟨h2, e2⟩ := List.getElem?_eq_some_iff.mp b
  exact (List.getElem_inj hN).mp (e1.trans e2.symm)
theorem store_ok2 {M : Model} {A : Around} {E : Value → Shared → Prop} {i : Nat} {x : Str} {v : V} {u : Value} {Q : Unit → Shared → Prop} (I : Inv X pins σ H s) (hN : X.N.Nodup) (hi : X.N[i]? = some x) (hx : Loc X.env.scope x) (r : RelV v u)
    (h : ∀ s', Inv X pins (σ.set i (some v)) H s' → (∃ a, Heap.SameBut a s.heap s'.heap ∧ (a = X.env.locals ∨ X.env.cells.lookup x = some a)) → Q () s') (hf : X.fn x = true ∨ X.env.scope.names.lookup x = some .local := by first | exact .inl rfl | exact .inr rfl | assumption) : wpAny M A (storeName X.env x u) Q E s := by
  obtain ⟨m, hn, hl⟩ := id I.loc
  have hcls : (X.env.scope.kind == .class || (X.env.scope.kind == .module && X.env.locals != X.env.globals)) = false := by rw [I.ok.kind]; rfl
  have hiσ : i < σ.length := by rw [I.len]; exact (List.getElem?_eq_some_iff.mp hi).1
  have cne := I.cne
  have tracked : ∀ {a : Addr} {h' : Heap}, (∃ o, s.heap.get? a = some o ∧ H a = none) → Heap.SameBut a s.heap h' → HOk X.prog X.w H h' := fun {a h'} ha hs b ob e => by
    obtain ⟨_, _, hfree⟩ := ha
    refine (I.hok b ob e).stay (fun c w' hc q => (hs.2 c ?_).trans q) (fun _ q => q) fun _ _ q => q
    rintro rfl
    rcases hc with rfl | hc
    · rw [hfree] at e; cases e
    · rw [hfree] at hc; cases hc
  rcases hx with hk | hk
  · refine wpAny_storeName_local hk hn (fun h' hn' hs => ?_) hcls
    obtain ⟨oL, _, _, hoL, _⟩ := id hn
    refine h _ ⟨I.ok, I.os, I.bare, ⟨fun b o e n hb hx => ?_, fun b o e n hb hx => ?_, I.base.free, fun b o e hx => ?_, I.base.tups, I.base.frzs, I.base.tbls⟩, ⟨_, hn', fun j y v' e1 e2 e3 => ?_⟩, fun y c e => ?_, I.free, I.freeC, fun p hp => ?_, tracked ⟨oL, hoL, I.free⟩ hs, by simpa using I.len⟩ ⟨_, hs, .inl rfl⟩
    · exact (hs.2 b (Nat.ne_of_lt (Nat.lt_of_lt_of_le (Heap.lt_size e) I.ok.above))).trans (I.base.keep b o e n hb hx)
    · obtain ⟨sl, e1⟩ := I.base.slot b o e n hb hx
      exact ⟨sl, (hs.2 b (Nat.ne_of_lt (Nat.lt_of_lt_of_le (Heap.lt_size e) I.ok.above))).trans e1⟩
    · obtain ⟨o', e1⟩ := I.base.there b o e hx
      exact ⟨o', (hs.2 b (Nat.ne_of_lt (Nat.lt_of_lt_of_le (Heap.lt_size e) I.ok.above))).trans e1⟩
    · by_cases hj : j = i
      · subst hj
        rw [hi] at e1; cases e1
        rw [List.getElem?_set_self hiσ] at e2
        cases e2
        exact ⟨u, r, .inl ⟨hk, by simp⟩⟩
      · rw [List.getElem?_set_ne (Ne.symm hj)] at e2
        obtain ⟨u', r', q⟩ := hl j y v' e1 e2 e3
        refine ⟨u', r', ?_⟩
        rcases q with ⟨k, e⟩ | ⟨k, c, e, z⟩
        · refine .inl ⟨k, ?_⟩
          have : y ≠ x := fun e => hj (nodup_ix hN e1 (e ▸ hi))
          simp [this, e]
        · exact .inr ⟨k, c, e, z.sameBut hs (cne y c e)⟩
    · obtain ⟨w', z⟩ := I.cell y c e
      exact ⟨w', z.sameBut hs (cne y c e)⟩
    · obtain ⟨e, n, ne, nf, d⟩ := I.pin p hp
      exact ⟨(hs.2 p.1 ne).trans e, n, ne, nf, d⟩
  · have hfn : X.fn x = true := by
      rcases hf with z | z
      · exact z
      · rw [z] at hk; cases hk
    obtain ⟨c, hc⟩ := I.ok.has x (.inl hk)
    obtain ⟨w', z⟩ := I.cell x c hc
    refine wpAny_storeName_cell I.ok.kind hk hc z (fun h' hc' hs => ?_)
    obtain ⟨oc, hoc, hocd⟩ := id z
    refine h { s with heap := h' } ⟨I.ok, I.os, I.bare, ⟨fun b o e n hb hx => ?_, fun b o e n hb hx => ?_, I.base.free, fun b o e hx => ?_, I.base.tups, I.base.frzs, I.base.tbls⟩, ⟨m, hn.sameBut hs (Ne.symm (cne x c hc)), fun j y v' e1 e2 e3 => ?_⟩, fun y c' e => ?_, I.free, I.freeC, fun p hp => ?_, tracked ⟨oc, hoc, I.freeC x c hc⟩ hs, by simpa using I.len⟩ ⟨c, hs, .inr hc⟩
    · exact (hs.2 b (Nat.ne_of_lt (Nat.lt_of_lt_of_le (Heap.lt_size e) (I.ok.cab x c hfn hc)))).trans (I.base.keep b o e n hb hx)
    · obtain ⟨sl, e1⟩ := I.base.slot b o e n hb hx
      exact ⟨sl, (hs.2 b (Nat.ne_of_lt (Nat.lt_of_lt_of_le (Heap.lt_size e) (I.ok.cab x c hfn hc)))).trans e1⟩
    · obtain ⟨o', e1⟩ := I.base.there b o e hx
      exact ⟨o', (hs.2 b (Nat.ne_of_lt (Nat.lt_of_lt_of_le (Heap.lt_size e) (I.ok.cab x c hfn hc)))).trans e1⟩
    · by_cases hj : j = i
      · subst hj
        rw [hi] at e1; cases e1
        rw [List.getElem?_set_self hiσ] at e2
        cases e2
        exact ⟨u, r, .inr ⟨.inl hk, c, hc, hc'⟩⟩
      · rw [List.getElem?_set_ne (Ne.symm hj)] at e2
        obtain ⟨u', r', q⟩ := hl j y v' e1 e2 e3
        refine ⟨u', r', ?_⟩
        rcases q with q | ⟨k, c', e, z'⟩
        · exact .inl q
        · refine .inr ⟨k, c', e, z'.sameBut hs ?_⟩
          rintro rfl
          exact hj (nodup_ix hN e1 (I.ok.inj _ _ _ e hc ▸ hi))
    · by_cases hcc : c' = c
      · subst hcc; exact ⟨_, hc'⟩
      · obtain ⟨w2, z2⟩ := I.cell y c' e
        exact ⟨w2, z2.sameBut hs hcc⟩
    · obtain ⟨e, n, ne, nf, d⟩ := I.pin p hp
      refine ⟨(hs.2 p.1 ?_).trans e, n, ne, nf, d⟩
      intro q
      rw [q, hoc] at e
      have q' : oc = p.2 := Option.some.inj e
      exact d w' (by rw [← q']; exact hocd)
theorem store_ok {M : Model} {A : Around} {E : Value → Shared → Prop} {i : Nat} {x : Str} {v : V} {u : Value} {Q : Unit → Shared → Prop} (I : Inv X pins σ H s) (hN : X.N.Nodup) (hi : X.N[i]? = some x) (hx : Loc X.env.scope x) (r : RelV v u)
    (h : ∀ s', Inv X pins (σ.set i (some v)) H s' → Q () s') (hf : X.fn x = true ∨ X.env.scope.names.lookup x = some .local := by first | exact .inl rfl | exact .inr rfl | assumption) : wpAny M A (storeName X.env x u) Q E s :=
  store_ok2 I hN hi hx r (fun s' I' _ => h s' I') hf
theorem Inv.call' {s' : Shared} {ch : List Addr} (I : Inv X pins σ H s) (ho : s'.os = s.os) (u : Un (frs X.stack) ch H H' s.heap s'.heap) (hok : HOk X.prog X.w H' s'.heap) (hg : AllBare s'.gens)
    (hch : ∀ b ∈ ch, (b ∈ X.ex ∨ X.s₀.heap.objs.size ≤ b) ∧ b ≠ X.env.locals ∧ (∀ x c, X.env.cells.lookup x = some c → c ≠ b) ∧ ∀ p ∈ X.pn ++ pins, p.1 ≠ b) : Inv X pins σ H' s' := by
  obtain ⟨h', g', d', t', o'⟩ := s'
  have e : o' = s.os := ho
  subst e
  exact I.call (g' := g') (t' := t') (d' := d') u hok hg hch
end
abbrev XK := Value → Option Addr → Hp → Prop
abbrev St := List (Option V)
abbrev VK := V → Hp → Prop
abbrev TE := St → Hp → VK → Prop
abbrev TT := St → Hp → (Bool → Hp → Prop) → Prop
abbrev TA := St → Hp → (List V → Hp → Prop) → Prop
structure Ends where
  nx : St → Hp → Prop
  rt : VK
  bk : St → Hp → Prop := fun _ _ => False
  ct : St → Hp → Prop := fun _ _ => False
abbrev TS := Ends → St → Hp → Prop
def EP (X : Cx) (pins : List (Addr × Obj)) (σ : St) (Q : VK) (u : Value) (s' : Shared) : Prop := ∃ v H', Inv X pins σ H' s' ∧ RelV v u ∧ Q v H'
def TP (X : Cx) (pins : List (Addr × Obj)) (σ : St) (Q : Bool → Hp → Prop) (b : Bool) (s' : Shared) : Prop := ∃ H', Inv X pins σ H' s' ∧ Q b H'
def AP (X : Cx) (pins : List (Addr × Obj)) (σ : St) (Q : List V → Hp → Prop) (us : List Value) (s' : Shared) : Prop := ∃ vs H', Inv X pins σ H' s' ∧ Vals vs us ∧ Q vs H'
def SP (X : Cx) (pins : List (Addr × Obj)) (D : Ends) (f : Flow) (s' : Shared) : Prop :=
  match f with
  | .next => ∃ σ' H', Inv X pins σ' H' s' ∧ D.nx σ' H'
  | .brk => ∃ σ' H', Inv X pins σ' H' s' ∧ D.bk σ' H'
  | .cont => ∃ σ' H', Inv X pins σ' H' s' ∧ D.ct σ' H'
  | .ret u => ∃ v σ' H', Inv X pins σ' H' s' ∧ RelV v u ∧ D.rt v H'
def PE (X : Cx) (e : Expr) (t : TE) : Prop :=
  ∀ (pins : List (Addr × Obj)) (s : Shared) (σ : St) (H : Hp) (Q : VK), Inv X pins σ H s → t σ H Q → wpAny (model X.prog X.w) X.A (eval e X.env) (EP X pins σ Q) X.xe s
def PT (X : Cx) (e : Expr) (t : TT) : Prop :=
  ∀ (pins : List (Addr × Obj)) (s : Shared) (σ : St) (H : Hp) (Q : Bool → Hp → Prop), Inv X pins σ H s → t σ H Q → wpAny (model X.prog X.w) X.A (isTrue e X.env (eval e X.env)) (TP X pins σ Q) X.xe s
def PW (X : Cx) (e : Expr) (t : TT) : Prop :=
  ∀ (whole : Sem Value) (pins : List (Addr × Obj)) (s : Shared) (σ : St) (H : Hp) (Q : Bool → Hp → Prop), Inv X pins σ H s → t σ H Q → wpAny (model X.prog X.w) X.A (isTrue e X.env whole) (TP X pins σ Q) X.xe s
theorem PW.pt {X : Cx} {e : Expr} {t : TT} (h : PW X e t) : PT X e t := h _
def PA (X : Cx) (es : List Expr) (t : TA) : Prop :=
  ∀ (pos : Pos) (pins : List (Addr × Obj)) (s : Shared) (σ : St) (H : Hp) (Q : List V → Hp → Prop), Inv X pins σ H s → t σ H Q → wpAny (model X.prog X.w) X.A (spliced (backTo pos (starEach es X.env))) (AP X pins σ Q) X.xe s
def PS (X : Cx) (st : Stmt) (t : TS) : Prop :=
  ∀ (pins : List (Addr × Obj)) (s : Shared) (σ : St) (H : Hp) (D : Ends), Inv X pins σ H s → t D σ H → wpAny (model X.prog X.w) X.A (exec st X.env) (SP X pins D) X.xe s
def PSs (X : Cx) (st : List Stmt) (t : TS) : Prop :=
  ∀ (pins : List (Addr × Obj)) (s : Shared) (σ : St) (H : Hp) (D : Ends), Inv X pins σ H s → t D σ H → wpAny (model X.prog X.w) X.A (execs st X.env) (SP X pins D) X.xe s
theorem thn {α : Type} {t : Sem α} {Q Q' : α → Shared → Prop} {M : Model} {A : Around} {E : Value → Shared → Prop} {s : Shared} (h : wpAny M A t Q E s) (hQ : ∀ a s, Q a s → Q' a s) : wpAny M A t Q' E s := wpAny_mono h hQ fun _ _ x => x
end L2
namespace L2
open PySem PySem.Spec PyProof.Rows
section
variable {X : Cx}
def tVar (i : Nat) : TE := fun σ H Q => ∃ v, σ[i]? = some (some v) ∧ Q v H
def tC (v : V) : TE := fun _ H Q => Q v H
theorem pe_var {i : Nat} {x : Str} {pos : Pos} (hN : X.N[i]? = some x) (hv : Vis X.env.scope x) (hd : (x == ("__debug__" : Str)) = false := by decide) (hcd : (x == ("__classdict__" : Str)) = false := by decide) : PE X (.Name x pos) (tVar i) := by
  intro pins s σ H Q I h
  obtain ⟨v, e, h⟩ := h
  obtain ⟨m, hn, hl⟩ := I.loc
  obtain ⟨u, r, l⟩ := hl i x v hN e hv
  have fin : EP X pins σ Q u s := ⟨v, H, I, r, h⟩
  rcases l with ⟨hk, hm⟩ | ⟨hk, c, hc, hcell⟩
  · exact wpAny_Name (wpAny_loadName_local I.ok.kind hk hn hm fin) hd
  · rcases hk with hk | hk
    · exact wpAny_Name (wpAny_loadName_cell I.ok.kind hk hc hcell fin) hd
    · exact wpAny_Name (wpAny_loadName_free I.ok.kind hk hc hcell fin hcd) hd
theorem pe_int {i j pos} : PE X (.Constant (.int i) j pos) (tC (.int i)) := fun _ _ _ H _ I h => wpAny_Constant_int ⟨.int i, H, I.tok _, ⟨_, rfl⟩, h⟩
theorem pe_bl {b j pos} : PE X (.Constant (.bool b) j pos) (tC (.bl b)) := fun _ _ _ H _ I h => Constant_bool ⟨.bl b, H, I, rfl, h⟩
theorem pe_non {j pos} : PE X (.Constant .none j pos) (tC .non) := fun _ _ _ H _ I h => Constant_none ⟨.non, H, I, rfl, h⟩
theorem pe_str {x j pos} : PE X (.Constant (.str x) j pos) (tC (.str x)) := fun _ _ _ H _ I h => Calls.Constant_str ⟨.str x, H, I.tok _, ⟨_, rfl⟩, h⟩
def Gl (X : Cx) (x : Str) : Prop := X.env.kindOf x = some .globalImplicit
theorem ld_glob {E : Value → Shared → Prop} {pins : List (Addr × Obj)} {s : Shared} {σ : St} {H : Hp} {x : Str} {u : Value} {pos : Pos} {Q : Value → Shared → Prop} (I : Inv X pins σ H s) (hg : Gl X x) (hm : X.mg x = some u) (h : Q u s)
    (hd : (x == ("__debug__" : Str)) = false := by decide) : wpAny (model X.prog X.w) X.A (eval (.Name x pos) X.env) Q E s :=
  Calls.Name_function_global I.ok.kind hg (Calls.loadGlobal_global (by rw [I.ok.glob]; exact I.mod.glob.keeps I.bk) hm h) hd
theorem ld_blt {E : Value → Shared → Prop} {pins : List (Addr × Obj)} {s : Shared} {σ : St} {H : Hp} {x : Str} {u : Value} {pos : Pos} {Q : Value → Shared → Prop} (I : Inv X pins σ H s) (hg : Gl X x) (hm : X.mg x = none) (hv : bootBuiltins x = some u) (h : Q u s)
    (hn : x ≠ "__name__" := by decide) (hd : (x == ("__debug__" : Str)) = false := by decide) : wpAny (model X.prog X.w) X.A (eval (.Name x pos) X.env) Q E s := by
  obtain ⟨mb, h1, h2⟩ := I.mod.blt
  exact Calls.Name_function_global I.ok.kind hg (Calls.loadGlobal_builtin (by rw [I.ok.glob]; exact I.mod.glob.keeps I.bk) hm (by rw [I.ok.blt]; exact h1.keeps I.bk) ((h2 x hn).trans hv) h) hd
theorem pe_bltn {x : Str} {v : V} {u : Value} {pos : Pos} (hg : Gl X x) (hm : X.mg x = none) (hv : bootBuiltins x = some u) (r : RelV v u) (hn : x ≠ "__name__" := by decide) (hd : (x == ("__debug__" : Str)) = false := by decide) : PE X (.Name x pos) (tC v) :=
  fun _ _ _ H _ I h => ld_blt I hg hm hv ⟨v, H, I, r, h⟩ hn hd
variable {a b : Expr} {ta tb : TE} {pos : Pos}
def tB (t : TE) : TT := fun σ H Q => t σ H fun x H1 => ∃ c, x = .bl c ∧ Q c H1
theorem pt_val {e : Expr} {t : TE} (h : PE X e t) (he : ∀ whole, isTrue e X.env whole = (do let v ← whole; standAt e.pos; holding [v] (truthy v)) := by intro _; rfl) : PT X e (tB t) := by
  intro pins s σ H Q I hw
  refine isTrue_plain (thn (h pins s σ H _ I hw) fun v s1 ⟨x, H1, I1, r1, q1⟩ => ?_) (he _)
  obtain ⟨d, rfl, q⟩ := q1
  cases r1
  exact wpAny_truthy_bool ⟨H1, I1, q⟩
variable {tA tB' : TT} {rest : List Expr}
def tAnd (t u : TT) : TT := fun σ H Q => t σ H fun c H1 => if c = true then u σ H1 Q else Q false H1
def tOr (t u : TT) : TT := fun σ H Q => t σ H fun c H1 => if c = true then Q true H1 else u σ H1 Q
def tNot (t : TT) : TT := fun σ H Q => t σ H fun c H1 => Q (!c) H1
theorem pw_and1 (ha : PT X a tA) : PW X (.BoolOp .And [a] pos) tA := by
  intro wh pins s σ H Q I h
  refine isTrue_and (thn (ha pins s σ H Q I h) fun c s1 e => ?_)
  cases c with
  | true => exact isTrue_and_nil e
  | false => exact e
theorem pw_or1 (ha : PT X a tA) : PW X (.BoolOp .Or [a] pos) tA := by
  intro wh pins s σ H Q I h
  refine isTrue_or (thn (ha pins s σ H Q I h) fun c s1 e => ?_)
  cases c with
  | false => exact isTrue_or_nil e
  | true => exact e
theorem pw_and (ha : PT X a tA) (hb : PW X (.BoolOp .And (b :: rest) pos) tB') : PW X (.BoolOp .And (a :: b :: rest) pos) (tAnd tA tB') := by
  intro wh pins s σ H Q I h
  refine isTrue_and (thn (ha pins s σ H _ I h) fun c s1 ⟨H1, I1, q1⟩ => ?_)
  cases c with
  | true => exact hb wh pins s1 σ H1 Q I1 q1
  | false => exact ⟨H1, I1, q1⟩
theorem pw_or (ha : PT X a tA) (hb : PW X (.BoolOp .Or (b :: rest) pos) tB') : PW X (.BoolOp .Or (a :: b :: rest) pos) (tOr tA tB') := by
  intro wh pins s σ H Q I h
  refine isTrue_or (thn (ha pins s σ H _ I h) fun c s1 ⟨H1, I1, q1⟩ => ?_)
  cases c with
  | true => exact ⟨H1, I1, q1⟩
  | false => exact hb wh pins s1 σ H1 Q I1 q1
theorem pt_not (ha : PT X a tA) : PT X (.UnaryOp .Not a pos) (tNot tA) := by
  intro pins s σ H Q I h
  exact isTrue_not (ha pins s σ H (fun c H1 => Q (!c) H1) I h)
def tAndV (ta tb : TE) : TE := fun σ H Q => ta σ H fun x H1 => ∃ c, x = .bl c ∧ if c = true then tb σ H1 Q else Q (.bl false) H1
def tNotV (ta : TE) : TE := fun σ H Q => ta σ H fun x H1 => ∃ c, x = .bl c ∧ Q (.bl (!c)) H1
theorem pe_one {op} {t : TE} (h : PE X a t) : PE X (.BoolOp op [a] pos) t := fun pins s σ H Q I hw => BoolOp_one (h pins s σ H Q I hw)
theorem pe_and (ha : PE X a ta) (hb : PE X (.BoolOp .And (b :: rest) pos) tb) : PE X (.BoolOp .And (a :: b :: rest) pos) (tAndV ta tb) := by
  intro pins s σ H Q I h
  refine BoolOp_and (thn (ha pins s σ H _ I h) fun v s1 ⟨x, H1, I1, r1, q1⟩ => ?_)
  obtain ⟨c, rfl, q1⟩ := q1
  cases r1
  refine wpAny_truthy_bool ?_
  cases c with
  | true => exact hb pins s1 σ H1 Q I1 q1
  | false => exact ⟨.bl false, H1, I1, rfl, q1⟩
theorem pe_not (ha : PE X a ta) : PE X (.UnaryOp .Not a pos) (tNotV ta) := by
  intro pins s σ H Q I h
  refine UnaryOp_ (thn (ha pins s σ H _ I h) fun v s1 ⟨x, H1, I1, r1, q1⟩ => ?_)
  obtain ⟨c, rfl, q1⟩ := q1
  cases r1
  exact not_of (wpAny_truthy_bool ⟨.bl (!c), H1, I1, rfl, q1⟩)
end
end L2
namespace L2
open PySem PySem.Spec PyProof.Rows
def SqL (K : PySem.W.Frag) (H : Hp) (a : Addr) (xs : List V) : Prop :=
  Rd H a (.lst xs) ∨
    ∃ (o : Obj) (its : Array Value) (n : Nat), K.lookup a = some o ∧ o.cls = .type "list" ∧ o.dict = none ∧ o.data = .seq its n ∧ its.size ≤ sizeLine ∧ Vals xs its.toList
def SqT (K : PySem.W.Frag) (H : Hp) (a : Addr) (xs : List V) : Prop :=
  Rd H a (.tup xs) ∨
    ∃ (o : Obj) (its : Array Value) (n : Nat), K.lookup a = some o ∧ o.cls = .type "tuple" ∧ o.data = .seq its n ∧ its.size ≤ sizeLine ∧ Vals xs its.toList
def absV : Value → Option V
  | .none => some .non
  | .bool b => some (.bl b)
  | .int i _ => some (.int i)
  | .str x _ => some (.str x)
  | .bytes b _ => some (.byt b)
  | .float b _ => some (.flt b)
  | .ref a => some (.ref a)
  | .type n => some (.ty n)
  | _ => none
theorem RelV.abs {x : V} {u : Value} (r : RelV x u) : absV u = some x := by
  cases x with
  | non => cases r; rfl
  | bl _ => cases r; rfl
  | int _ => obtain ⟨t, rfl⟩ := r; rfl
  | str _ => obtain ⟨t, rfl⟩ := r; rfl
  | byt _ => obtain ⟨t, rfl⟩ := r; rfl
  | flt _ => obtain ⟨t, rfl⟩ := r; rfl
  | ref _ => cases r; rfl
  | ty _ => cases r; rfl
theorem RelV.inj {x y : V} {u : Value} (r : RelV x u) (q : RelV y u) : x = y := Option.some.inj (r.abs.symm.trans q.abs)
theorem Vals.inj : ∀ {xs ys : List V} {us : List Value}, Vals xs us → Vals ys us → xs = ys
  | _, _, _, .nil, .nil => rfl
  | _, _, _, .cons r t, .cons r' t' => by rw [r.inj r', Vals.inj t t']
section
variable {X : Cx} {pins : List (Addr × Obj)} {σ : St} {H : Hp} {s : Shared} {a : Addr} {xs ys : List V}
theorem SqL.of {K : PySem.W.Frag} (h : H a = some (.lst xs)) : SqL K H a xs := .inl (.inl h)
theorem SqT.of {K : PySem.W.Frag} (h : H a = some (.tup xs)) : SqT K H a xs := .inl (.inl h)
theorem Inv.list (I : Inv X pins σ H s) (h : SqL X.K H a xs) : ∃ its : List Value, Vals xs its ∧ PlainL s.heap a its.toArray ∧ xs.length ≤ sizeLine := by
  rcases h with h | ⟨o, its, n, hk, hc, hd, hs, hz, r⟩
  · obtain ⟨z, its, n, r, e⟩ := h.ok I.hok
    exact ⟨its, r, ⟨_, n, e, rfl, rfl, rfl⟩, z⟩
  · refine ⟨its.toList, r, ⟨o, n, I.kIn a o hk, hc, hd, by simpa using hs⟩, ?_⟩
    have e := r.length
    simp only [Array.length_toList] at e
    omega
theorem Inv.tuple (I : Inv X pins σ H s) (h : SqT X.K H a xs) : ∃ its : List Value, Vals xs its ∧ IsTup s.heap a its.toArray ∧ xs.length ≤ sizeLine := by
  rcases h with h | ⟨o, its, n, hk, hc, hs, hz, r⟩
  · obtain ⟨z, its, r, p⟩ := h.ok I.hok
    exact ⟨its, r, p, z⟩
  · refine ⟨its.toList, r, ⟨o, I.kIn a o hk, hc, n, by simpa using hs⟩, ?_⟩
    have e := r.length
    simp only [Array.length_toList] at e
    omega
theorem Inv.list_inj (I : Inv X pins σ H s) (h : SqL X.K H a xs) (h' : SqL X.K H a ys) : xs = ys := by
  obtain ⟨its, r, ⟨o, n, e, _, _, d⟩, _⟩ := I.list h
  obtain ⟨its', r', ⟨o', n', e', _, _, d'⟩, _⟩ := I.list h'
  rw [e] at e'; cases e'
  rw [d] at d'
  injection d' with d1 _
  have : its = its' := by simpa using congrArg Array.toList d1
  subst this
  exact r.inj r'
theorem Inv.tuple_inj (I : Inv X pins σ H s) (h : SqT X.K H a xs) (h' : SqT X.K H a ys) : xs = ys := by
  obtain ⟨its, r, ⟨o, e, _, n, d⟩, _⟩ := I.tuple h
  obtain ⟨its', r', ⟨o', e', _, n', d'⟩, _⟩ := I.tuple h'
  rw [e] at e'; cases e'
  rw [d] at d'
  injection d' with d1 _
  have : its = its' := by simpa using congrArg Array.toList d1
  subst this
  exact r.inj r'
end
abbrev Cx.wish (X : Cx) (E : Value → Shared → Prop) : Cx := { X with xe := E }
abbrev Cx.nox (X : Cx) : Cx := X.wish fun _ _ => False
theorem Cx.Ok.wish {X : Cx} (ok : X.Ok) (E : Value → Shared → Prop) : (X.wish E).Ok :=
  ⟨ok.mod, ok.kind, ok.glob, ok.blt, ok.above, ok.inj, ok.has, ok.cab, ok.hd, ok.frames, ok.stk, ok.exf, ok.bs, ok.bsz, ok.noex, ok.exfs, ok.funs, ok.frf⟩
theorem Cx.Ok.unwish {X : Cx} {E : Value → Shared → Prop} (ok : (X.wish E).Ok) : X.Ok :=
  ⟨ok.mod, ok.kind, ok.glob, ok.blt, ok.above, ok.inj, ok.has, ok.cab, ok.hd, ok.frames, ok.stk, ok.exf, ok.bs, ok.bsz, ok.noex, ok.exfs, ok.funs, ok.frf⟩
section
variable {X : Cx} {pins : List (Addr × Obj)} {σ : St} {H : Hp} {s : Shared} {E : Value → Shared → Prop}
theorem Inv.wish (I : Inv X pins σ H s) (E : Value → Shared → Prop) : Inv (X.wish E) pins σ H s := ⟨I.ok.wish E, I.os, I.bare, I.base, I.loc, I.cell, I.free, I.freeC, I.pin, I.hok, I.len⟩
theorem Inv.unwish (I : Inv (X.wish E) pins σ H s) : Inv X pins σ H s := ⟨I.ok.unwish, I.os, I.bare, I.base, I.loc, I.cell, I.free, I.freeC, I.pin, I.hok, I.len⟩
theorem SP.unwish {D : Ends} {f : Flow} {s' : Shared} (h : SP (X.wish E) pins D f s') : SP X pins D f s' := by
  cases f with
  | next => obtain ⟨σ', H', I, q⟩ := h; exact ⟨σ', H', I.unwish, q⟩
  | brk => obtain ⟨σ', H', I, q⟩ := h; exact ⟨σ', H', I.unwish, q⟩
  | cont => obtain ⟨σ', H', I, q⟩ := h; exact ⟨σ', H', I.unwish, q⟩
  | ret u => obtain ⟨v, σ', H', I, r, q⟩ := h; exact ⟨v, σ', H', I.unwish, r, q⟩
theorem PE.nox {e : Expr} {t : TE} (h : PE X.nox e t) : PE X e t := fun pins s σ H Q I hw =>
  wpAny_mono (h pins s σ H Q (I.wish _) hw) (fun _ _ ⟨v, H', I', r, q⟩ => ⟨v, H', I'.unwish, r, q⟩) fun _ _ z => False.elim z
theorem PT.nox {e : Expr} {t : TT} (h : PT X.nox e t) : PT X e t := fun pins s σ H Q I hw =>
  wpAny_mono (h pins s σ H Q (I.wish _) hw) (fun _ _ ⟨H', I', q⟩ => ⟨H', I'.unwish, q⟩) fun _ _ z => False.elim z
theorem PSs.nox {st : List Stmt} {t : TS} (h : PSs X.nox st t) : PSs X st t := fun pins s σ H D I hw =>
  wpAny_mono (h pins s σ H D (I.wish _) hw) (fun _ _ q => q.unwish) fun _ _ z => False.elim z
end
section
variable {X : Cx} {st : Stmt} {rest : List Stmt} {t u : TS} {e : Expr} {te : TE} {pos : Pos}
def tNext : TS := fun D σ H => D.nx σ H
def tSeq (t u : TS) : TS := fun D σ H => t { D with nx := u D } σ H
theorem pss_nil : PSs X [] tNext := fun _ _ σ H _ I h => wpAny_execs_nil ⟨σ, H, I, h⟩
theorem pss_cons (h1 : PS X st t) (h2 : PSs X rest u) : PSs X (st :: rest) (tSeq t u) := by
  intro pins s σ H D I h
  refine wpAny_execs_cons (thn (h1 pins s σ H { D with nx := u D } I h) fun f s1 q => ?_)
  cases f with
  | next =>
    obtain ⟨σ', H', I', q⟩ := q
    exact h2 pins s1 σ' H' D I' q
  | ret v => exact q
  | brk => exact q
  | cont => exact q
theorem pss_one (h1 : PS X st t) : PSs X [st] t := by
  intro pins s σ H D I h
  refine wpAny_execs_cons (thn (h1 pins s σ H D I h) fun f s1 q => ?_)
  cases f with
  | next => exact wpAny_execs_nil q
  | ret v => exact q
  | brk => exact q
  | cont => exact q
theorem Inv.quiet {pins : List (Addr × Obj)} {σ : St} {H : Hp} {s : Shared} (I : Inv X pins σ H s) : interactive X.env = false := by simp [interactive, I.ok.kind]
def tDrop (te : TE) : TS := fun D σ H => te σ H fun _ H1 => D.nx σ H1
theorem ps_expr (he : PE X e te) (hs : swapsWith e none pos.line X.env = pure false := by rfl) : PS X (.Expr e pos) (tDrop te) := by
  intro pins s σ H D I h
  exact wpAny_Expr_any (thn (he pins s σ H _ I h) fun v s1 ⟨x, H1, I1, r1, q1⟩ => ⟨σ, H1, I1, q1⟩) I.quiet hs
def tRet (te : TE) : TS := fun D σ H => te σ H D.rt
theorem ps_ret (he : PE X e te) : PS X (.Return (some e) pos) (tRet te) := by
  intro pins s σ H D I h
  exact wpAny_Return_some (thn (he pins s σ H _ I h) fun v s1 ⟨x, H1, I1, r1, q1⟩ => ⟨x, σ, H1, I1, r1, q1⟩)
def tIfS (c : TT) (t u : TS) : TS := fun D σ H => c σ H fun b H1 => if b = true then t D σ H1 else u D σ H1
theorem ps_if {c : Expr} {a b : List Stmt} {tc : TT} (hc : PT X c tc) (ha : PSs X a t) (hb : PSs X b u) : PS X (.If c a b pos) (tIfS tc t u) := by
  intro pins s σ H D I h
  refine wpAny_If (thn (hc pins s σ H _ I h) fun d s1 ⟨H1, I1, q1⟩ => ?_)
  cases d with
  | true => exact ha pins s1 σ H1 D I1 q1
  | false => exact hb pins s1 σ H1 D I1 q1
def tNever : TS := fun _ _ _ => False
theorem ps_never : PS X st tNever := fun _ _ _ _ _ _ h => h.elim
end
abbrev TG := V → St → Hp → (St → Hp → Prop) → Prop
abbrev TGs := List V → St → Hp → (St → Hp → Prop) → Prop
def PG (X : Cx) (target : Expr) (t : TG) : Prop :=
  ∀ (pins : List (Addr × Obj)) (s : Shared) (σ : St) (H : Hp) (v : V) (u : Value) (Q : St → Hp → Prop), Inv X pins σ H s → RelV v u → t v σ H Q →
    wpAny (model X.prog X.w) X.A (assign target X.env u) (fun _ s' => ∃ σ' H', Inv X pins σ' H' s' ∧ Q σ' H') X.xe s
def PGs (X : Cx) (ts : List Expr) (t : TGs) : Prop :=
  ∀ (pins : List (Addr × Obj)) (s : Shared) (σ : St) (H : Hp) (vs : List V) (us : List Value) (Q : St → Hp → Prop), Inv X pins σ H s → Vals vs us → t vs σ H Q →
    wpAny (model X.prog X.w) X.A (assignInOrder ((assignEach ts X.env).map (·.2)) us) (fun _ s' => ∃ σ' H', Inv X pins σ' H' s' ∧ Q σ' H') X.xe s
abbrev TSet := V → V → V → Hp → (Hp → Prop) → Prop
section
variable {X : Cx} {pos : Pos}
def gName (i : Nat) : TG := fun v σ H Q => Q (σ.set i (some v)) H
theorem pg_name {i : Nat} {x : Str} (hN : X.N.Nodup) (hi : X.N[i]? = some x) (hx : Loc X.env.scope x) (hf : X.fn x = true ∨ X.env.scope.names.lookup x = some .local := by first | exact .inl rfl | exact .inr rfl | assumption) : PG X (.Name x pos) (gName i) := by
  intro pins s σ H v u Q I r h
  exact wpAny_assign_Name (store_ok I hN hi hx r (fun s' I' => ⟨_, H, I', h⟩) hf)
def gNil : TGs := fun vs σ H Q => vs = [] ∧ Q σ H
def gCons (t : TG) (u : TGs) : TGs := fun vs σ H Q => ∃ v r, vs = v :: r ∧ t v σ H fun σ' H' => u r σ' H' Q
theorem pgs_nil : PGs X [] gNil := by
  intro pins s σ H vs us Q I r h
  obtain ⟨e, h⟩ := h
  subst e
  cases r
  exact assignInOrder_nil ⟨σ, H, I, h⟩
theorem pgs_cons {e : Expr} {es : List Expr} {t : TG} {u : TGs} (h1 : PG X e t) (h2 : PGs X es u)
    (hs : (assignEach (e :: es) X.env).map (·.2) = assign e X.env :: (assignEach es X.env).map (·.2) := by rfl) : PGs X (e :: es) (gCons t u) := by
  intro pins s σ H vs us Q I r h
  obtain ⟨v, vr, e1, h⟩ := h
  subst e1
  cases r with
  | cons r rr =>
    rw [hs]
    refine assignInOrder_cons (thn (h1 pins s σ H _ _ _ I r h) fun _ s1 ⟨σ1, H1, I1, q1⟩ => ?_)
    exact h2 pins s1 σ1 H1 _ _ Q I1 rr q1
def gTup (K : PySem.W.Frag) (n : Nat) (t : TGs) : TG := fun v σ H Q => ∃ a xs, v = .ref a ∧ SqT K H a xs ∧ xs.length = n ∧ t xs σ H Q
theorem pg_tup {es : List Expr} {k : Nat} {t : TGs} {n : Nat} (hc : X.calm = true) (h : PGs X es t)
    (hn : (assignEach es X.env).length = n := by rfl) (hst : (assignEach es X.env).findIdx? (·.1) = none := by rfl) : PG X (.Tuple es k pos) (gTup X.K n t) := by
  intro pins s σ H v u Q I r hw
  obtain ⟨a, xs, e1, hq, hl, hw⟩ := hw
  subst e1
  cases r
  obtain ⟨its, rv, ht, hz⟩ := I.tuple hq
  refine assign_Tuple_tuple (I.ok.hd hc) ht (by simp [hn, ← hl, rv.length]) hst fun h' hx => ?_
  have I1 : Inv X pins σ H { s with heap := h' } := I.kept (t' := s.toks) fun b o e => hx b o (Nat.ne_of_lt (Heap.lt_size e)) e
  exact h pins _ σ H xs _ Q I1 (by simpa using rv) hw
def gSub (to ti : TE) (t : TSet) : TG := fun v σ H Q => to σ H fun o H1 => ti σ H1 fun i H2 => t o i v H2 fun H3 => Q σ H3
def tAsg (te : TE) (g : TG) : TS := fun D σ H => te σ H fun x H1 => g x σ H1 D.nx
theorem ps_asg {tg e : Expr} {te : TE} {g : TG} (he : PE X e te) (hg : PG X tg g) (hs : swapsWithSole [tg] e pos.line X.env = pure false := by rfl) (hw : swappedStores [tg] e X.env = pure none := by rfl)
    (h1 : (assignEach [tg] X.env).map (·.2) = [assign tg X.env] := by rfl) : PS X (.Assign [tg] e pos) (tAsg te g) := by
  intro pins s σ H D I h
  refine wpAny_Assign_stores (thn (he pins s σ H _ I h) fun v s1 ⟨x, H1, I1, r1, q1⟩ => ?_) hs hw
  rw [h1]
  exact thn (hg pins s1 σ H1 x v _ I1 r1 q1) fun _ s2 q => q
theorem ps_set {i : Nat} {x : Str} {e : Expr} {te : TE} {pos' : Pos} (hN : X.N.Nodup) (hi : X.N[i]? = some x) (hx : Loc X.env.scope x) (he : PE X e te) (hs : swapsWith e (some (.Name x pos')) pos.line X.env = pure false := by rfl) (hf : X.fn x = true ∨ X.env.scope.names.lookup x = some .local := by first | exact .inl rfl | exact .inr rfl | assumption) :
    PS X (.Assign [.Name x pos'] e pos) (tAsg te (gName i)) := by
  intro pins s σ H D I h
  refine wpAny_Assign_Name (thn (he pins s σ H _ I h) fun v s1 ⟨y, H1, I1, r1, q1⟩ => ?_) hs
  exact store_ok I1 hN hi hx r1 (fun s2 I2 => ⟨_, H1, I2, q1⟩) hf
end
section
variable {X : Cx} {pos : Pos}
end
structure It where
  go : Nat → Hp → Prop
  yld : Nat → Hp → V → Hp → Prop
  stop : Nat → Hp → Prop
def FpOk (X : Cx) (pins : List (Addr × Obj)) (H : Hp) (b : Addr) : Prop :=
  H b = none ∧ b ≠ X.env.locals ∧ b ∉ X.fs ∧ (b ∈ X.ex ∨ X.s₀.heap.objs.size ≤ b) ∧ (∀ x c, X.env.cells.lookup x = some c → c ≠ b) ∧ ∀ p ∈ X.pn ++ pins, p.1 ≠ b
theorem Inv.fpOk {X : Cx} {pins : List (Addr × Obj)} {σ : St} {H H' : Hp} {s : Shared} {b : Addr} (I : Inv X pins σ H s) (hb : s.heap.objs.size ≤ b) (hn : H' b = none) : FpOk X pins H' b := by
  refine ⟨hn, Nat.ne_of_gt (Nat.lt_of_lt_of_le I.lt hb), I.nofs hb, .inr (Nat.le_trans I.sz hb), fun x c e z => ?_, fun p hp z => ?_⟩
  · obtain ⟨v, q⟩ := I.cell x c e
    exact absurd (Nat.lt_of_lt_of_le q.lt (by rw [z]; exact hb)) (Nat.lt_irrefl _)
  · exact absurd (Nat.lt_of_lt_of_le (Heap.lt_size (I.pin p hp).1) (by rw [z]; exact hb)) (Nat.lt_irrefl _)
structure Turn (P : Program) (w : World) (K : PySem.W.Frag) (tg : Expr) (J : It) (fp : List Addr) (it : Addr) (tn : Nat → Heap → Prop) : Prop where
  mem : it ∈ fp
  obj : ∀ i h, tn i h → ∀ b ∈ fp, ∃ o, h.get? b = some o ∧ ∀ v, o.data ≠ .cell v
  keep : ∀ i h h', tn i h → (∀ b ∈ fp, ∀ o, h.get? b = some o → h'.get? b = some o) → tn i h'
  item : ∀ (X : Cx), X.prog = P → X.w = w → X.K = K → X.calm = true → ∀ (i : Nat) (pins : List (Addr × Obj)) (s : Shared) (σ : St) (H : Hp) (E : Value → Shared → Prop), Inv X pins σ H s → (∀ b ∈ fp, FpOk X pins H b) → tn i s.heap → J.go i H →
    wpAny (model P w) X.A (pyNext (.ref it)) (fun r s1 => ∃ u, r = some u ∧
      wpAny (model P w) X.A (letOwnedTupleGo tg (.ref it) u) (fun _ s2 => ∃ x H', Inv X pins σ H' s2 ∧ RelV x u ∧ J.yld i H x H' ∧ tn (i + 1) s2.heap ∧ ∀ b ∈ fp, H' b = none) E s1) E s
  done : ∀ (X : Cx), X.prog = P → X.w = w → X.K = K → X.calm = true → ∀ (i : Nat) (pins : List (Addr × Obj)) (s : Shared) (σ : St) (H : Hp) (E : Value → Shared → Prop), Inv X pins σ H s → (∀ b ∈ fp, FpOk X pins H b) → tn i s.heap → J.stop i H →
    wpAny (model P w) X.A (pyNext (.ref it)) (fun r s1 => r = none ∧ Inv X pins σ H s1) E s
  self : ∀ (A : Around) (i : Nat) (s : Shared) (Q : Value → Shared → Prop) (E : Value → Shared → Prop), tn i s.heap → Q (.ref it) s → wpAny (model P w) A (pyIter (.ref it)) Q E s
abbrev TI := St → Hp → (It → Hp → Prop) → Prop
def PIE (X : Cx) (pins : List (Addr × Obj)) (σ : St) (tg : Expr) (R : It → Hp → Prop) (itv : Value) (s2 : Shared) : Prop :=
  ∃ (it : Addr) (fp : List Addr) (tn : Nat → Heap → Prop) (J : It) (H' : Hp), itv = .ref it ∧ Inv X pins σ H' s2 ∧ Turn X.prog X.w X.K tg J fp it tn ∧ tn 0 s2.heap ∧ (∀ b ∈ fp, FpOk X pins H' b) ∧ R J H'
def PI (X : Cx) (tg iter : Expr) (wi : TI) : Prop :=
  ∀ (pins : List (Addr × Obj)) (s : Shared) (σ : St) (H : Hp) (R : It → Hp → Prop), Inv X pins σ H s → wi σ H R →
    wpAny (model X.prog X.w) X.A (eval iter X.env) (fun v s1 => wpAny (model X.prog X.w) X.A (pyIter v) (PIE X pins σ tg R) X.xe s1) X.xe s
theorem go_of {M : Model} {A : Around} {E : Value → Shared → Prop} {s : Shared} {tg : Expr} {it : Addr} {u : Value} {o : Obj} {n : String} {vs : Array Value} {Q : Unit → Shared → Prop} (ho : s.heap.get? it = some o) (hc : o.cls = .type n) (hd : o.data = .fields vs)
    (hn : ["enumerate", "zip", "dict_itemiterator", "dict_reverseitemiterator", "odict_iterator", "itertools.zip_longest", "itertools.pairwise"].contains n = false) (hQ : Q () s) : wpAny M A (letOwnedTupleGo tg (.ref it) u) Q E s := by
  unfold letOwnedTupleGo
  cases tg <;> first
    | exact wpAny_pure hQ
    | (cases u <;> first
        | exact wpAny_pure hQ
        | (refine wpAny_bind (wpAny_load ho ?_)
           rw [hc, hd]
           show wpAny M A (if (["enumerate", "zip", "dict_itemiterator", "dict_reverseitemiterator", "odict_iterator", "itertools.zip_longest", "itertools.pairwise"].contains n && vs[0]? == some (rawInt _)) = true then _ else _) Q E s
           rw [if_neg (by intro h; rw [hn, Bool.false_and] at h; cases h)]
           exact wpAny_pure hQ))
def Itl (K : PySem.W.Frag) (a : Addr) : It :=
  ⟨fun i H => ∃ xs x, SqL K H a xs ∧ xs[i]? = some x, fun i H x H' => H' = H ∧ ∀ xs, SqL K H a xs → xs[i]? = some x, fun i H => ∃ xs, SqL K H a xs ∧ xs.length ≤ i⟩
def Itr (lo : Int) (n : Nat) : It := ⟨fun i _ => i < n, fun i H x H' => H' = H ∧ x = .int (lo + i), fun i _ => n ≤ i⟩
theorem turn_list {P : Program} {w : World} {K : PySem.W.Frag} {tg : Expr} (a it : Addr) : Turn P w K tg (Itl K a) [it] it (fun i h => h.IsListIter it a i) where
  mem := by simp
  obj := fun i h st b hb => by
    have e : b = it := by simpa using hb
    subst e
    obtain ⟨o, e, c, d⟩ := st
    exact ⟨o, e, fun v z => by rw [d] at z; cases z⟩
  keep := fun i h h' st k => st.at fun o e => k it (by simp) o e
  item := by
    intro X hP hw hK hc i pins s σ H E I hf st hg
    subst hP hw hK
    obtain ⟨xs, x, hq, hx⟩ := hg
    obtain ⟨its, rv, p, hz⟩ := I.list hq
    obtain ⟨u, hu, ru⟩ := rv.get hx
    obtain ⟨f0, f1, f2, f3, f4, f5⟩ := hf it (by simp)
    refine wpAny_pyNext_list_item st p.isList (x := u) (by simpa using hu) fun h' st' sb => ?_
    have I1 : Inv X pins σ H { s with heap := h' } := I.turned (t' := s.toks) (fun b o hb e => (sb.2 b hb).trans e) f0 f1 f3 f4 f5
    obtain ⟨o, e, c, d⟩ := id st'
    exact ⟨u, rfl, go_of (s := { s with heap := h' }) e c d (by decide) ⟨x, H, I1, ru, ⟨rfl, fun ys hy => by rw [I.list_inj hy hq]; exact hx⟩, st', fun b hb => (hf b hb).1⟩⟩
  done := by
    intro X hP hw hK hc i pins s σ H E I hf st hg
    subst hP hw hK
    obtain ⟨xs, hq, hx⟩ := hg
    obtain ⟨its, rv, p, hz⟩ := I.list hq
    obtain ⟨f0, f1, f2, f3, f4, f5⟩ := hf it (by simp)
    have hl := rv.length
    exact wpAny_pyNext_list_end (I.ok.hd hc) st p.isList (by simp; omega) fun h' eb => ⟨rfl, I.turned (t' := s.toks) (fun b o hb e => eb b o hb e) f0 f1 f3 f4 f5⟩
  self := fun _ _ _ _ _ st h => wpAny_pyIter_listiter st h
theorem turn_range {P : Program} {w : World} {K : PySem.W.Frag} {tg : Expr} (it : Addr) (lo : Int) (n : Nat) : Turn P w K tg (Itr lo n) [it] it (fun i h => IsRangeIter h it (lo + (i : Nat) * 1) ((n : Int) - (i : Nat)) 1) where
  mem := by simp
  obj := fun i h st b hb => by
    have e : b = it := by simpa using hb
    subst e
    exact ⟨_, st, fun v z => by
      have z' : Data.fields _ = Data.cell v := z
      cases z'⟩
  keep := fun i h h' st k => k it (by simp) _ st
  item := by
    intro X hP hw hK hc i pins s σ H E I hf st hg
    subst hP hw hK
    obtain ⟨f0, f1, f2, f3, f4, f5⟩ := hf it (by simp)
    have W := Walks.range (prog := X.prog) (w := X.w) (I.ok.hd hc) it lo 1 n
    refine W.item i s _ _ hg st fun v h' tk hv st' kk => ?_
    obtain ⟨t, rfl⟩ := hv
    have I1 : Inv X pins σ H { s with heap := h', toks := tk } := I.turned (fun b o hb e => kk b o (by simpa using hb) e) f0 f1 f3 f4 f5
    refine ⟨_, rfl, go_of (s := { s with heap := h', toks := tk }) (n := "range_iterator") st' rfl rfl (by decide) ⟨.int (lo + i), H, I1, ⟨t, ?_⟩, ⟨rfl, rfl⟩, st', fun b hb => (hf b hb).1⟩⟩
    rw [Int.mul_one]
  done := by
    intro X hP hw hK hc i pins s σ H E I hf st hg
    subst hP hw hK
    obtain ⟨f0, f1, f2, f3, f4, f5⟩ := hf it (by simp)
    exact wpAny_pyNext_range_end (I.ok.hd hc) st (by have : n ≤ i := hg; omega) fun h' eb => ⟨rfl, I.turned (t' := s.toks) (fun b o hb e => eb b o hb e) f0 f1 f3 f4 f5⟩
  self := fun _ _ _ _ _ st h => wpAny_pyIter_rangeiter st h
end L2
namespace L2
open PySem PySem.Spec PyProof.Rows
section
variable {X : Cx} {tg : Expr}
def iList (K : PySem.W.Frag) (tl : TE) : TI := fun σ H R => tl σ H fun x H1 => ∃ a, x = .ref a ∧ (∃ xs, SqL K H1 a xs) ∧ R (Itl K a) H1
theorem pi_list {l : Expr} {tl : TE} (hl : PE X l tl) : PI X tg l (iList X.K tl) := by
  intro pins s σ H R I h
  refine thn (hl pins s σ H _ I h) fun v s1 ⟨x, H1, I1, r1, q1⟩ => ?_
  obtain ⟨a, e, ⟨xs, hq⟩, q⟩ := q1
  subst e
  cases r1
  obtain ⟨its, rv, p, hz⟩ := I1.list hq
  refine wpAny_pyIter_list p.isList ?_
  refine ⟨s1.heap.objs.size, [s1.heap.objs.size], _, _, H1, rfl, I1.kept (t' := s1.toks) fun b o e => Heap.get?_push_of_some _ e, turn_list a _, ⟨_, Heap.get?_push_size _ rfl, rfl, rfl⟩, fun b hb => ?_, q⟩
  have e : b = s1.heap.objs.size := by simpa using hb
  subst e
  exact I1.fpOk (Nat.le_refl _) (I1.hok.fresh (Nat.le_refl _))
theorem range_it {pins : List (Addr × Obj)} {σ : St} {H : Hp} {s : Shared} {R : It → Hp → Prop} {E : Value → Shared → Prop} {lo hi : Int} {t u v : Tok} {tk : Nat} (I : Inv X pins σ H s) (h1 : -(2 ^ 62) ≤ lo) (h2 : lo < 2 ^ 62) (h3 : -(2 ^ 62) ≤ hi) (h4 : hi < 2 ^ 62)
    (q : R (Itr lo (hi - lo).toNat) H) : wpAny (model X.prog X.w) X.A (pyIter (.ref s.heap.objs.size)) (PIE X pins σ tg R) E { s with heap := s.heap.push { cls := .type "range", data := .fields #[.int lo t, .int hi u, .int 1 v] }, toks := tk } := by
  refine wpAny_pyIter_range (IsRange.new ..) (small_one h1 h2 h3 h4) ?_
  have I1 : Inv X pins σ H { s with heap := s.heap.push { cls := .type "range", data := .fields #[.int lo t, .int hi u, .int 1 v] }, toks := tk } := I.kept fun b o e => Heap.get?_push_of_some _ e
  refine ⟨(s.heap.push { cls := .type "range", data := .fields #[.int lo t, .int hi u, .int 1 v] }).objs.size, [(s.heap.push { cls := .type "range", data := .fields #[.int lo t, .int hi u, .int 1 v] }).objs.size], _, _, H, rfl,
    I1.kept (t' := tk) fun b o e => Heap.get?_push_of_some _ e, turn_range _ lo (hi - lo).toNat, ?_, fun b hb => ?_, q⟩
  · have e1 : lo + ((0 : Nat) : Int) * 1 = lo := by simp
    have e2 : (((hi - lo).toNat : Nat) : Int) - ((0 : Nat) : Int) = Builtin.Range.rangeSize lo hi 1 := by rw [rangeSize_one]; split <;> omega
    show IsRangeIter _ _ (lo + ((0 : Nat) : Int) * 1) ((((hi - lo).toNat : Nat) : Int) - ((0 : Nat) : Int)) 1
    rw [e1, e2]
    exact Heap.get?_push_size _ rfl
  · have e : b = (s.heap.push { cls := .type "range", data := .fields #[.int lo t, .int hi u, .int 1 v] }).objs.size := by simpa using hb
    subst e
    exact I1.fpOk (Nat.le_refl _) (I1.hok.fresh (Nat.le_refl _))
def iRng1 (ta : TA) : TI := fun σ H R => ta σ H fun vs H1 => ∃ j : Int, vs = [.int j] ∧ -(2 ^ 62) ≤ j ∧ j < 2 ^ 62 ∧ R (Itr 0 j.toNat) H1
theorem pi_range1 {a : Expr} {ta : TA} {p pos : Pos} (hg : Gl X "range") (hm : X.mg "range" = none) (ha : PA X [a] ta) (hs : starEach [a] X.env = [(false, eval a X.env)] := by rfl) : PI X tg (.Call (.Name "range" p) [a] [] pos) (iRng1 ta) := by
  intro pins s σ H R I h
  refine Call_ (ld_blt I hg hm boot_range (PyProof.Rows.callWith_type1 (thn (ha pos pins s σ H _ I h) fun us s1 ⟨vs, H1, I1, r1, q1⟩ => ?_) hs rfl))
  obtain ⟨j, e, q1, q2, q⟩ := q1
  subst e
  cases r1 with
  | cons r rr =>
    cases rr
    obtain ⟨t, rfl⟩ := r
    exact call_range_1 (range_it I1 (by omega) (by omega) q1 q2 (by simpa using q))
def tFor (wi : TI) (g : TG) (tb : TS) : TS := fun D σ H => wi σ H fun J H1 => ∃ W : Nat → Nat → St → Hp → Prop, (∃ m, W 0 m σ H1) ∧ ∀ i m σ H, W i m σ H →
  (J.stop i H ∧ D.nx σ H) ∨ (J.go i H ∧ ∃ N : St → Hp → Prop, (∀ σ' H', N σ' H' → ∃ m', m' < m ∧ W (i + 1) m' σ' H') ∧ ∀ x H', J.yld i H x H' → g x σ H' fun σ2 H2 => tb { D with nx := N, ct := N, bk := D.nx } σ2 H2)
def pinsAt (fp : List Addr) (h : Heap) : List (Addr × Obj) := fp.filterMap fun b => (h.get? b).map fun o => (b, o)
theorem mem_pinsAt {fp : List Addr} {h : Heap} {b : Addr} {o : Obj} (hb : b ∈ fp) (e : h.get? b = some o) : (b, o) ∈ pinsAt fp h := List.mem_filterMap.mpr ⟨b, hb, by rw [e]; rfl⟩
theorem of_pinsAt {fp : List Addr} {h : Heap} {p : Addr × Obj} (hp : p ∈ pinsAt fp h) : p.1 ∈ fp ∧ h.get? p.1 = some p.2 := by
  obtain ⟨b, hb, e⟩ := List.mem_filterMap.mp hp
  cases q : h.get? b with
  | none => rw [q] at e; cases e
  | some o =>
    rw [q] at e
    have e' : (b, o) = p := Option.some.inj e
    subst e'
    exact ⟨hb, q⟩
theorem Inv.pinned {pins : List (Addr × Obj)} {σ : St} {H : Hp} {s : Shared} {fp : List Addr} (I : Inv X pins σ H s) (hf : ∀ b ∈ fp, FpOk X pins H b) (ho : ∀ b ∈ fp, ∃ o, s.heap.get? b = some o ∧ ∀ v, o.data ≠ .cell v) : Inv X (pins ++ pinsAt fp s.heap) σ H s :=
  I.pins_of fun p hp => (List.mem_append.mp hp).elim (fun z => I.pin p (List.mem_append_right _ z)) fun z => by
    obtain ⟨hb, e⟩ := of_pinsAt z
    obtain ⟨f0, f1, f2, _⟩ := hf p.1 hb
    obtain ⟨o, e', d⟩ := ho p.1 hb
    rw [e] at e'; cases e'
    exact ⟨e, f0, f1, f2, d⟩
theorem Inv.unpinned {pins pl : List (Addr × Obj)} {σ : St} {H : Hp} {s : Shared} (I : Inv X (pins ++ pl) σ H s) : Inv X pins σ H s := I.pins_of fun p hp => I.pin p (List.mem_append_right _ (List.mem_append_left _ hp))
theorem ps_for {iter : Expr} {body : List Stmt} {wi : TI} {g : TG} {tb : TS} {pos : Pos} (hp : PassesOwn (model X.prog X.w) X.A X.env X.xe) (hc : X.calm = true) (hi : PI X tg iter wi) (hg : PG X tg g) (hb : PSs X body tb)
    (hs : ∀ x, foldedSetIterable iter X.env x = pure x := by intro _; rfl) : PS X (.For tg iter body [] pos) (tFor wi g tb) := by
  intro pins s σ H D I h
  refine wpAny_For (thn (hi pins s σ H _ I h) fun v s1 h1 => thn h1 fun itv s2 h2 => ?_) hs
  obtain ⟨it, fp, tn, J, H2, e, I2, T, st2, f2, W, ⟨m0, w0⟩, turn⟩ := h2
  subst e
  have stat : ∀ {H' : Hp}, (∀ b ∈ fp, H' b = none) → ∀ b ∈ fp, FpOk X pins H' b := fun hn b hb => ⟨hn b hb, (f2 b hb).2⟩
  refine codeAny_forLoop_any (fun n s' => ∃ i σ' H', Inv X pins σ' H' s' ∧ tn i s'.heap ∧ (∀ b ∈ fp, H' b = none) ∧ W i n σ' H') ?_ m0 ⟨0, σ, H2, I2, st2, fun b hb => (f2 b hb).1, w0⟩
  rintro n s3 ⟨i, σ3, H3, I3, st3, fr3, w3⟩
  rcases turn i n σ3 H3 w3 with ⟨stop, qn⟩ | ⟨go, N, hN, step⟩
  · refine wpAny_passesOwn hp (thn (T.done X rfl rfl rfl hc i pins s3 σ3 H3 X.xe I3 (stat fr3) st3 stop) fun r s4 ⟨hr, I4⟩ => ?_)
    subst hr
    exact wpAny_execs_nil ⟨σ3, H3, I4, qn⟩
  · refine wpAny_passesOwn hp (thn (T.item X rfl rfl rfl hc i pins s3 σ3 H3 X.xe I3 (stat fr3) st3 go) fun r s4 ⟨u, hr, h4⟩ => ?_)
    subst hr
    refine wpAny_passesOwn hp (thn h4 fun _ s5 ⟨x, H5, I5, r5, y5, st5, fr5⟩ => ?_)
    have I5' := I5.pinned (stat fr5) (T.obj _ _ st5)
    refine wpAny_passesOwn hp (thn (hg _ s5 σ3 H5 x u _ I5' r5 (step x H5 y5)) fun _ s6 ⟨σ6, H6, I6, q6⟩ => ?_)
    refine wpAny_passesOwn hp (thn (hb _ s6 σ6 H6 _ I6 q6) fun f s7 q7 => ?_)
    have again : ∀ {σ7 : St} {H7 : Hp}, Inv X (pins ++ pinsAt fp s5.heap) σ7 H7 s7 → N σ7 H7 → ∃ m, m < n ∧ ∃ i σ' H', Inv X pins σ' H' s7 ∧ tn i s7.heap ∧ (∀ b ∈ fp, H' b = none) ∧ W i m σ' H' := fun {σ7 H7} I7 n7 => by
      obtain ⟨m', hm, w7⟩ := hN σ7 H7 n7
      refine ⟨m', hm, i + 1, σ7, H7, I7.unpinned, T.keep _ _ _ st5 fun b hb o e => (I7.pin (b, o) (List.mem_append_right _ (List.mem_append_right _ (mem_pinsAt hb e)))).1, fun b hb => ?_, w7⟩
      obtain ⟨o, e, d⟩ := T.obj _ _ st5 b hb
      exact (I7.pin (b, o) (List.mem_append_right _ (List.mem_append_right _ (mem_pinsAt hb e)))).2.1
    cases f with
    | next => obtain ⟨σ7, H7, I7, n7⟩ := q7; exact again I7 n7
    | cont => obtain ⟨σ7, H7, I7, n7⟩ := q7; exact again I7 n7
    | brk => obtain ⟨σ7, H7, I7, q7⟩ := q7; exact ⟨σ7, H7, I7.unpinned, q7⟩
    | ret v => obtain ⟨x7, σ7, H7, I7, r7, q7⟩ := q7; exact ⟨x7, σ7, H7, I7.unpinned, r7, q7⟩
end
end L2
namespace L2
open PySem PySem.Spec PyProof.Rows
abbrev R2 := V → V → Hp → VK → Prop
def OpR (X : Cx) (f : Value → Value → Sem Value) (r : R2) : Prop :=
  ∀ (pins : List (Addr × Obj)) (s : Shared) (σ : St) (H : Hp) (x y : V) (v u : Value) (Q : VK), Inv X pins σ H s → RelV x v → RelV y u → r x y H Q →
    wpAny (model X.prog X.w) X.A (f v u) (EP X pins σ Q) X.xe s
def UnR (X : Cx) (f : Value → Sem Value) (r : V → Hp → VK → Prop) : Prop :=
  ∀ (pins : List (Addr × Obj)) (s : Shared) (σ : St) (H : Hp) (x : V) (v : Value) (Q : VK), Inv X pins σ H s → RelV x v → r x H Q →
    wpAny (model X.prog X.w) X.A (f v) (EP X pins σ Q) X.xe s
def CallR (X : Cx) (f : Value) (r : List V → Hp → VK → Prop) : Prop :=
  ∀ (pins : List (Addr × Obj)) (s : Shared) (σ : St) (H : Hp) (xs : List V) (us : List Value) (Q : VK), Inv X pins σ H s → Vals xs us → r xs H Q →
    wpAny (model X.prog X.w) X.A (call f us) (EP X pins σ Q) X.xe s
def tOp (r : R2) (ta tb : TE) : TE := fun σ H Q => ta σ H fun x H1 => tb σ H1 fun y H2 => r x y H2 Q
def tUn (r : V → Hp → VK → Prop) (ta : TE) : TE := fun σ H Q => ta σ H fun x H1 => r x H1 Q
def rI (C : Int → Int → Prop) (g : Int → Int → V) : R2 := fun x y H Q => ∃ i j, x = .int i ∧ y = .int j ∧ C i j ∧ Q (g i j) H
def rI0 (g : Int → Int → V) : R2 := fun x y H Q => ∃ i j, x = .int i ∧ y = .int j ∧ Q (g i j) H
def rU (g : Int → V) : V → Hp → VK → Prop := fun x H Q => ∃ i, x = .int i ∧ Q (g i) H
section
variable {X : Cx} {a b c : Expr} {ta tb tc : TE} {pos : Pos}
theorem binT (ha : PE X a ta) (hb : PE X b tb) {pins : List (Addr × Obj)} {s : Shared} {σ : St} {H : Hp} {R : V → V → Hp → Prop} (I : Inv X pins σ H s)
    (h : ta σ H fun x H1 => tb σ H1 fun y H2 => R x y H2) {Q : Value → Shared → Prop} {f : Value → Value → Sem Value}
    (hf : ∀ v u s2 x y H2, Inv X pins σ H2 s2 → RelV x v → RelV y u → R x y H2 → wpAny (model X.prog X.w) X.A (f v u) Q X.xe s2) :
    wpAny (model X.prog X.w) X.A (eval a X.env) (fun v s₁ => wpAny (model X.prog X.w) X.A (eval b X.env) (fun u s₂ => wpAny (model X.prog X.w) X.A (f v u) Q X.xe s₂) X.xe s₁) X.xe s := by
  refine thn (ha pins s σ H _ I h) fun v s1 ⟨x, H1, I1, r1, q1⟩ => ?_
  refine thn (hb pins s1 σ H1 _ I1 q1) fun u s2 ⟨y, H2, I2, r2, q2⟩ => ?_
  exact hf v u s2 x y H2 I2 r1 r2 q2
theorem pe_op {op : Operator} {r : R2} (ho : OpR X (binaryOp op) r) (ha : PE X a ta) (hb : PE X b tb) : PE X (.BinOp a op b pos) (tOp r ta tb) := by
  intro pins s σ H Q I h
  exact wpAny_BinOp (binT ha hb I h fun v u s2 x y H2 I2 rx ry q => ho pins s2 σ H2 x y v u Q I2 rx ry q)
theorem pe_un {op : UnaryOp} {r : V → Hp → VK → Prop} (ho : UnR X (unaryOp op) r) (ha : PE X a ta) : PE X (.UnaryOp op a pos) (tUn r ta) := by
  intro pins s σ H Q I h
  exact UnaryOp_ (thn (ha pins s σ H _ I h) fun v s1 ⟨x, H1, I1, r1, q1⟩ => ho pins s1 σ H1 x v Q I1 r1 q1)
theorem opI {f : Value → Value → Sem Value} {C : Int → Int → Prop} {g : Int → Int → Int}
    (rule : ∀ (i j : Int) (t u : Tok) (s : Shared) (Q : Value → Shared → Prop) (E : Value → Shared → Prop), C i j → Q (.int (g i j) s.toks) { s with toks := s.toks + 1 } → wpAny (model X.prog X.w) X.A (f (.int i t) (.int j u)) Q E s) :
    OpR X f (rI C fun i j => .int (g i j)) := by
  intro pins s σ H x y v u Q I rx ry h
  obtain ⟨i, j, rfl, rfl, hc, q⟩ := h
  obtain ⟨t, rfl⟩ := rx
  obtain ⟨t', rfl⟩ := ry
  exact rule i j t t' s _ _ hc ⟨.int (g i j), H, I.tok _, ⟨_, rfl⟩, q⟩
theorem opI0 {f : Value → Value → Sem Value} {g : Int → Int → Int}
    (rule : ∀ (i j : Int) (t u : Tok) (s : Shared) (Q : Value → Shared → Prop) (E : Value → Shared → Prop), Q (.int (g i j) s.toks) { s with toks := s.toks + 1 } → wpAny (model X.prog X.w) X.A (f (.int i t) (.int j u)) Q E s) :
    OpR X f (rI0 fun i j => .int (g i j)) := by
  intro pins s σ H x y v u Q I rx ry h
  obtain ⟨i, j, rfl, rfl, q⟩ := h
  obtain ⟨t, rfl⟩ := rx
  obtain ⟨t', rfl⟩ := ry
  exact rule i j t t' s _ _ ⟨.int (g i j), H, I.tok _, ⟨_, rfl⟩, q⟩
theorem opB0 {f : Value → Value → Sem Value} {g : Int → Int → Bool}
    (rule : ∀ (i j : Int) (t u : Tok) (s : Shared) (Q : Value → Shared → Prop) (E : Value → Shared → Prop), Q (.bool (g i j)) s → wpAny (model X.prog X.w) X.A (f (.int i t) (.int j u)) Q E s) :
    OpR X f (rI0 fun i j => .bl (g i j)) := by
  intro pins s σ H x y v u Q I rx ry h
  obtain ⟨i, j, rfl, rfl, q⟩ := h
  obtain ⟨t, rfl⟩ := rx
  obtain ⟨t', rfl⟩ := ry
  exact rule i j t t' s _ _ ⟨.bl (g i j), H, I, rfl, q⟩
def CDiv (i j : Int) : Prop := 0 < j ∧ j < 1073741824
def CPow (i j : Int) : Prop := 0 ≤ j ∧ j ≤ 1000000 ∧ i.natAbs < 2 ^ 64
def CMul (i j : Int) : Prop := (-(2 ^ 64) < i ∧ i < 2 ^ 64) ∨ (-(2 ^ 64) < j ∧ j < 2 ^ 64)
theorem CMul.ok {i j : Int} (h : CMul i j) : IntMulOk i j := by
  rcases h with ⟨h1, h2⟩ | ⟨h1, h2⟩
  · exact .of_left (intBits_le_64 h1 h2)
  · exact .of_right (intBits_le_64 h1 h2)
theorem op_add : OpR X (binaryOp .Add) (rI0 fun i j => .int (i + j)) := opI0 fun _ _ _ _ _ _ _ q => add_int q
theorem op_sub : OpR X (binaryOp .Sub) (rI0 fun i j => .int (i - j)) := opI0 fun _ _ _ _ _ _ _ q => sub_int q
theorem op_fdiv : OpR X (binaryOp .FloorDiv) (rI CDiv fun i j => .int (i / j)) := opI fun i j _ _ _ _ _ hc q => by
  have h1 : (0 : Int) < j := hc.1
  have h2 : j < 1073741824 := hc.2
  exact floordiv_int (by omega) (by rw [Int.fdiv_eq_ediv_of_nonneg i (by omega)]; exact q) (.inl (PyProof.noPylong_small (by omega)))
theorem op_mod : OpR X (binaryOp .Mod) (rI (fun _ j => 0 < j) fun i j => .int (i % j)) := opI fun i j _ _ _ _ _ hc q => by
  have h1 : (0 : Int) < j := hc
  exact mod_int' (by omega) (by rw [Int.fmod_eq_emod_of_nonneg i (by omega)]; exact q)
theorem op_pow : OpR X (binaryOp .Pow) (rI CPow fun i j => .int (i ^ j.toNat)) := opI fun _ _ _ _ _ _ _ hc q => pow_int_small hc.1 hc.2.1 hc.2.2 q
theorem unI {f : Value → Sem Value} {g : Int → Int}
    (rule : ∀ (i : Int) (t : Tok) (s : Shared) (Q : Value → Shared → Prop) (E : Value → Shared → Prop), Q (.int (g i) s.toks) { s with toks := s.toks + 1 } → wpAny (model X.prog X.w) X.A (f (.int i t)) Q E s) :
    UnR X f (rU fun i => .int (g i)) := by
  intro pins s σ H x v Q I rx h
  obtain ⟨i, rfl, q⟩ := h
  obtain ⟨t, rfl⟩ := rx
  exact rule i t s _ _ ⟨.int (g i), H, I.tok _, ⟨_, rfl⟩, q⟩
theorem un_neg : UnR X (unaryOp .USub) (rU fun i => .int (-i)) := unI fun _ _ _ _ _ q => neg_int q
end
section
variable {X : Cx} {a b c : Expr} {ta tb tc : TE} {pos : Pos}
theorem op_lt : OpR X (compareOp .Lt) (rI0 fun i j => .bl (decide (i < j))) := opB0 fun _ _ _ _ _ _ _ q => lt_int q
theorem op_le : OpR X (compareOp .LtE) (rI0 fun i j => .bl (decide (i ≤ j))) := opB0 fun _ _ _ _ _ _ _ q => le_int q
theorem op_gt : OpR X (compareOp .Gt) (rI0 fun i j => .bl (decide (j < i))) := opB0 fun _ _ _ _ _ _ _ q => gt_int q
theorem OpR.or {f : Value → Value → Sem Value} {r r' : R2} (h : OpR X f r) (h' : OpR X f r') : OpR X f (fun x y H Q => r x y H Q ∨ r' x y H Q) := by
  intro pins s σ H x y v u Q I rx ry q
  rcases q with q | q
  · exact h pins s σ H x y v u Q I rx ry q
  · exact h' pins s σ H x y v u Q I rx ry q
theorem nomark (b : Expr) {op : CmpOp} (h : op ≠ .In := by decide) (h2 : op ≠ .NotIn := by decide) : behindInMarks op b = false := by
  have e1 : (op == CmpOp.In) = false := by cases op <;> first | rfl | exact absurd rfl h
  have e2 : (op == CmpOp.NotIn) = false := by cases op <;> first | rfl | exact absurd rfl h2
  cases b <;> simp [behindInMarks, e1, e2]
theorem pe_cmpR {op : CmpOp} {r : R2} (ho : OpR X (compareOp op) r) (ha : PE X a ta) (hb : PE X b tb) (hm : behindInMarks op b = false) : PE X (.Compare a [op] [b] pos) (tOp r ta tb) := by
  intro pins s σ H Q I h
  exact wpAny_Compare1 (binT ha hb I h fun v u s2 x y H2 I2 rx ry q => ho pins s2 σ H2 x y v u Q I2 rx ry q) hm
def tTest (t : TE) : TT := fun σ H Q => t σ H fun x H' => ∃ k, x = .bl k ∧ Q k H'
theorem pt_cmpR {op : CmpOp} {r : R2} (ho : OpR X (compareOp op) r) (ha : PE X a ta) (hb : PE X b tb) (hm : behindInMarks op b = false) : PT X (.Compare a [op] [b] pos) (tTest (tOp r ta tb)) := by
  intro pins s σ H Q I h
  refine wpAny_isTrue_Compare1 (thn (ha pins s σ H _ I h) fun v s1 ⟨x, H1, I1, r1, q1⟩ => thn (hb pins s1 σ H1 _ I1 q1) fun u s2 ⟨y, H2, I2, r2, q2⟩ =>
    thn (ho pins s2 σ H2 x y v u _ I2 r1 r2 q2) fun c s3 ⟨z, H3, I3, r3, k, e, q3⟩ => ?_) hm
  subst e
  cases r3
  exact wpAny_truthy_bool ⟨H3, I3, q3⟩
theorem line63 : (sizeLine : Nat) < 2 ^ 63 := by rw [sizeLine_eq]; decide
theorem op_add_str : OpR X (binaryOp .Add) (fun x y H Q => ∃ i j, x = .str i ∧ y = .str j ∧ i.length + j.length ≤ sizeLine ∧ Q (.str (i ++ j)) H) := by
  intro pins s σ H x y v u Q I rx ry h
  obtain ⟨i, j, rfl, rfl, hz, q⟩ := h
  obtain ⟨t, rfl⟩ := rx
  obtain ⟨t', rfl⟩ := ry
  exact add_str (fun t' tk => ⟨.str (i ++ j), H, I.tok _, ⟨_, rfl⟩, q⟩) hz
theorem vals1 {x : V} {us : List Value} (r : Vals [x] us) : ∃ u, us = [u] ∧ RelV x u := by
  cases r with
  | cons r1 r2 => cases r2; exact ⟨_, rfl, r1⟩
theorem vals2 {x y : V} {us : List Value} (r : Vals [x, y] us) : ∃ u w', us = [u, w'] ∧ RelV x u ∧ RelV y w' := by
  cases r with
  | cons r1 r2 =>
    cases r2 with
    | cons r3 r4 => cases r4; exact ⟨_, _, rfl, r1, r3⟩
theorem call_abs : CallR X (.builtin "abs") (fun xs H Q => ∃ i, xs = [.int i] ∧ Q (.int (if i < 0 then -i else i)) H) := by
  intro pins s σ H xs us Q I r h
  obtain ⟨i, rfl, q⟩ := h
  obtain ⟨u, rfl, t, rfl⟩ := vals1 r
  exact call_abs_int fun u tk => ⟨.int (if i < 0 then -i else i), H, I.tok _, ⟨_, rfl⟩, q⟩
end
end L2
namespace L2
open PySem PySem.Spec PyProof.Rows
structure ObjM (h : Heap) (x dx C : Addr) (mA : Str → Option Value) : Prop where
  obj : h.get? x = some (PySem.W.instObj C dx)
  ns : h.Ns1 dx mA
  ne : dx ≠ x
theorem lookIn_ns {h : Heap} {dx : Addr} {mA : Str → Option Value} (n : h.Ns1 dx mA) : ∃ od, h.get? dx = some od ∧ ∀ name, PySem.W.lookIn name od = some (mA name) := by
  obtain ⟨o, es, ep, ho, hd, hk, _, hm⟩ := n
  refine ⟨o, ho, fun name => ?_⟩
  have e := hm name
  unfold nsFind findBy at e
  rw [← Array.find?_toList] at e
  unfold PySem.W.lookIn
  rw [hd]
  dsimp only
  split
  · rename_i y q
    rw [q] at e
    exact congrArg some e
  · rename_i q
    rw [q] at e
    have a : es.toList.any (·.refKey) = false := by
      rw [List.any_eq_false]
      intro y hy
      obtain ⟨z, t, hkey⟩ := hk y (Array.mem_toList_iff.mp hy)
      simp [DictEntry.refKey, hkey]
    have a' : ¬ es.toList.any (·.refKey) = true := by rw [a]; exact Bool.false_ne_true
    rw [if_neg a']
    exact congrArg some e
theorem ObjM.look {h : Heap} {x dx C : Addr} {mA : Str → Option Value} (I : ObjM h x dx C mA) : ∃ od, PySem.W.InstAt h x (PySem.W.instObj C dx) C (some od) ∧ ∀ name, PySem.W.lookIn name od = some (mA name) :=
  let ⟨od, ho, hl⟩ := lookIn_ns I.ns
  ⟨od, ⟨I.obj, rfl, rfl, ho⟩, hl⟩
section
variable {prog : Program} {w : World} {A : Around} {E : Value → Shared → Prop} {s : Shared} {K : PySem.W.Frag} {x dx C f : Addr} {mA : Str → Option Value} {name : Str} {v : Value}
end
theorem RelO.none_of {o : Option Value} (r : RelO none o) : o = none := by
  cases o with
  | none => rfl
  | some u => exact (show False from r).elim
section
variable {P : Program} {w : World} {H H' : Hp} {h h' : Heap} {a C dx : Addr} {fs fs' : List (Str × V)}
theorem ins_get (hok : HOk P w H h) (e : H a = some (.ins C dx fs)) : ∃ mA, ObjM h a dx C mA ∧ (∀ f, RelO (fs.lookup f) (mA f)) ∧ PySem.Within mA (fs.map (·.1)) ∧ fs.length ≤ 1000 ∧ H dx = some (.own a) := by
  obtain ⟨d, z, ne, ob, mA, n, r, q⟩ := (show ObjOk P w H h a (.ins C dx fs) from hok a _ e)
  exact ⟨mA, ⟨ob, n, ne⟩, r, q, z, d⟩
end
structure Cls (K : PySem.W.Frag) (C : Addr) : Prop where
  pg : PySem.W.plainGet K C Str.empty = true
  hd : PySem.W.hasDictIn K C = true
  po : PySem.W.plainOver K C = true
  sa : PySem.W.findIn K (.ref C) "__setattr__" = some (some (.builtin "object.__setattr__"))
theorem Cls.get {K : PySem.W.Frag} {C : Addr} (c : Cls K C) (f : Str) : PySem.W.plainGet K C f = true := c.pg
structure Con (K : PySem.W.Frag) (C : Addr) (f : Str) (v : V) (u : Value) : Prop where
  at_ : PySem.W.findIn K (.ref C) f = some (some u)
  rel : RelV v u
  get : PySem.W.specialIn K u "__get__" = some none
  cp : PySem.W.copiedNames.contains f = false
structure Meth (K : PySem.W.Frag) (C : Addr) (m : Str) (f : Addr) : Prop where
  at_ : PySem.W.findIn K (.ref C) m = some (some (.ref f))
  fn : PySem.W.isFn K (.ref f) = true
  kp : PySem.W.keepIn K (.ref f) = true
section
variable {X : Cx} {pins : List (Addr × Obj)} {σ : St} {H : Hp} {s : Shared} {a C dx : Addr} {fs : List (Str × V)} {f : Str} {v : V} {A : Around} {E : Value → Shared → Prop}
end
section
variable {X : Cx} {o e value : Expr} {f : Str} {pos pos' tpos : Pos} {ta tv : TE}
end
section
variable {X : Cx} {pins : List (Addr × Obj)} {σ : St} {H : Hp} {s : Shared} {A : Around} {E : Value → Shared → Prop} {Q : Value → Shared → Prop} {c : Value} {b : Bool}
inductive TyOf (K : PySem.W.Frag) (H : Hp) : V → Value → Prop where
  | non : TyOf K H .non (.type "NoneType")
  | bl (x : Bool) : TyOf K H (.bl x) (.type "bool")
  | int (i : Int) : TyOf K H (.int i) (.type "int")
  | str (x : Str) : TyOf K H (.str x) (.type "str")
  | flt (x : UInt64) : TyOf K H (.flt x) (.type "float")
  | lst {a : Addr} {xs : List V} (e : H a = some (.lst xs)) : TyOf K H (.ref a) (.type "list")
  | frz {a : Addr} {o : Obj} {xs : List V} (e : H a = some (.frz o (.lst xs))) : TyOf K H (.ref a) (.type "list")
  | tup {a : Addr} {xs : List V} (e : H a = some (.tup xs)) : TyOf K H (.ref a) (.type "tuple")
  | dK {a : Addr} {kvs : List (Key × V)} (e : H a = some (.dK kvs)) : TyOf K H (.ref a) (.type "dict")
  | dT {a : Addr} {kvs : List (List Key × V)} (e : H a = some (.dT kvs)) : TyOf K H (.ref a) (.type "dict")
  | ins {a C dx : Addr} {fs : List (Str × V)} (e : H a = some (.ins C dx fs)) (cl : Cls K C) (ha : PySem.W.findIn K (.ref C) "__class__" = some (some (.builtin "object.__class__")))
      (hn : PySem.W.specialIn K (.builtin "object.__class__") "__get__" = some (some (.builtin "getset_descriptor.__get__"))) (htk : PySem.W.takesIn K (.builtin "object.__class__") = some true)
      (hm : PySem.W.mroIn K C (.type "object") = some true) : TyOf K H (.ref a) (.ref C)
theorem isinst_ok {x : V} {u t : Value} (I : Inv X pins σ H s) (rx : RelV x u) (ty : TyOf X.K H x t) (e : PySem.W.kitOne X.K t c = some b) (h : ∀ tk, Q (.bool b) { s with toks := tk }) :
    wpAny (model X.prog X.w) A (call (.builtin "isinstance") [u, c]) Q E s := by
  cases ty with
  | non => cases (show u = Value.none from rx); exact PySem.W.kia_one PySem.W.kitx_none I.kIn True.intro e (fun z => nomatch z) h
  | bl y => cases (show u = Value.bool y from rx); exact PySem.W.kia_one PySem.W.kitx_bool I.kIn True.intro e (fun z => nomatch z) h
  | int i => obtain ⟨t, q⟩ := (show ∃ t, u = Value.int i t from rx); cases q; exact PySem.W.kia_one PySem.W.kitx_int I.kIn True.intro e (fun z => nomatch z) h
  | str y => obtain ⟨t, q⟩ := (show ∃ t, u = Value.str y t from rx); cases q; exact PySem.W.kia_one PySem.W.kitx_str I.kIn True.intro e (fun z => nomatch z) h
  | flt y => obtain ⟨t, q⟩ := (show ∃ t, u = Value.float y t from rx); cases q; exact PySem.W.kia_one PySem.W.kitx_float I.kIn True.intro e (fun z => nomatch z) h
  | @lst a xs ea =>
    cases (show u = Value.ref a from rx)
    obtain ⟨_, _, n, _, h1⟩ := (show ObjOk X.prog X.w H s.heap a (.lst xs) from I.hok a _ ea)
    exact PySem.W.kia_one PySem.W.kitx_list I.kIn ⟨_, h1, rfl⟩ e (fun z => nomatch z) h
  | @frz a ob xs ea =>
    cases (show u = Value.ref a from rx)
    obtain ⟨_, _, _, n, _, h1⟩ := (show ObjOk X.prog X.w H s.heap a (.frz ob (.lst xs)) from I.hok a _ ea)
    exact PySem.W.kia_one PySem.W.kitx_list I.kIn ⟨_, h1, rfl⟩ e (fun z => nomatch z) h
  | @tup a xs ea =>
    cases (show u = Value.ref a from rx)
    obtain ⟨_, _, _, p⟩ := (show ObjOk X.prog X.w H s.heap a (.tup xs) from I.hok a _ ea)
    obtain ⟨o, h1, h2, _⟩ := p
    exact PySem.W.kia_one PySem.W.kitx_tuple I.kIn ⟨o, h1, h2⟩ e (fun z => nomatch z) h
  | @dK a kvs ea =>
    cases (show u = Value.ref a from rx)
    obtain ⟨_, _, vs, _, p⟩ := (show ObjOk X.prog X.w H s.heap a (.dK kvs) from I.hok a _ ea)
    obtain ⟨o, es, ep, h1, h2, _⟩ := p
    exact PySem.W.kia_one PySem.W.kitx_dict I.kIn ⟨o, h1, h2.1⟩ e (fun z => nomatch z) h
  | @dT a kvs ea =>
    cases (show u = Value.ref a from rx)
    obtain ⟨_, _, xs, _, o, es, ep, h1, h2, _⟩ := (show ObjOk X.prog X.w H s.heap a (.dT kvs) from I.hok a _ ea)
    exact PySem.W.kia_one PySem.W.kitx_dict I.kIn ⟨o, h1, h2.1⟩ e (fun z => nomatch z) h
  | @ins a C dx fs ea cl ha hn htk hm =>
    cases (show u = Value.ref a from rx)
    obtain ⟨mA, O, _⟩ := ins_get I.hok ea
    obtain ⟨od, J, _⟩ := O.look
    exact PySem.W.kia_one (PySem.W.kitx_own (cl.get _) cl.hd ha hn htk hm) I.kIn J e (fun z => nomatch z) h
end
end L2
namespace L2
open PySem PySem.Spec PyProof.Rows
structure Room (k : Nat) (A : Around) : Prop where
  hd : A.handled = none
  dp : A.depth + 3 * k + 5 < recursionLimit
  un : A.units + 16 * k + 200 < cLine
theorem Room.mono {j k : Nat} {A : Around} (r : Room k A) (h : j ≤ k) : Room j A := ⟨r.hd, by have := r.dp; omega, by have := r.un; omega⟩
theorem Room.deeper {k : Nat} {A : Around} (r : Room (k + 1) A) (env : Env) : Room k (A.deeper env) :=
  ⟨r.hd, by have := r.dp; show A.depth + 1 + 3 * k + 5 < _; omega, by have := r.un; show A.units + 3 + 16 * k + 200 < _; omega⟩
theorem Room.in1 {k : Nat} {A : Around} (r : Room (k + 1) A) : Room k A.in1 :=
  ⟨r.hd, by have := r.dp; show A.depth + 3 * k + 5 < _; omega, by have := r.un; show A.units + 1 + 16 * k + 200 < _; omega⟩
theorem make_depth {A : Around} {C : Addr} {us : List Value} {kw : List (Str × Value)} : (A.under (.builtin "type.__call__" ⟨.ref C :: us, kw⟩)).depth = A.depth + 1 := by
  first | rfl | simp [Around.under, Code.weight, Code.isCreation, Code.isGuard, Code.isCaller, Code.frames, Code.isFrame, guardIds]
theorem make_units {A : Around} {C : Addr} {us : List Value} {kw : List (Str × Value)} : (A.under (.builtin "type.__call__" ⟨.ref C :: us, kw⟩)).units = A.units + 1 := by
  first | rfl | simp [Around.under, Code.cUnits, Code.frames, Code.isFrame]
theorem Room.make {k : Nat} {A : Around} (r : Room (k + 1) A) (C : Addr) (us : List Value) (kw : List (Str × Value)) : Room k (A.under (.builtin "type.__call__" ⟨.ref C :: us, kw⟩)) :=
  ⟨r.hd, by have := r.dp; rw [make_depth]; omega, by have := r.un; rw [make_units]; omega⟩
theorem Room.depth {k : Nat} {A : Around} (r : Room k A) : A.depth < recursionLimit := by have := r.dp; omega
theorem Room.units {k : Nat} {A : Around} (r : Room k A) : A.units + 64 < cLine := by have := r.un; omega
def tNil : TA := fun _ H Q => Q [] H
def tCons (ta : TE) (tr : TA) : TA := fun σ H Q => ta σ H fun x H1 => tr σ H1 fun xs H2 => Q (x :: xs) H2
section
variable {X : Cx} {e : Expr} {es : List Expr} {te : TE} {t : TA} {pos : Pos}
theorem pa_nil : PA X [] tNil := fun _ _ _ _ H Q I h => Calls.spliced_nil ⟨[], H, I, .nil, h⟩
theorem pa_cons (ha : PE X e te) (hr : PA X es t) (hs : starEach (e :: es) X.env = (false, eval e X.env) :: starEach es X.env := by rfl) : PA X (e :: es) (tCons te t) := by
  intro pos pins s σ H Q I h
  rw [hs]
  show wpAny _ _ (spliced ((false, eval e X.env) :: backTo pos (starEach es X.env))) _ _ s
  refine Calls.spliced_cons (thn (ha pins s σ H _ I h) fun u s1 ⟨x, H1, I1, r1, q1⟩ => ?_)
  exact thn (hr pos pins s1 σ H1 _ I1 q1) fun us s2 ⟨xs, H2, I2, r2, q2⟩ => ⟨x :: xs, H2, I2, .cons r1 r2, q2⟩
def tTup (t : TA) : TE := fun σ H Q => t σ H fun xs H1 => xs.length ≤ sizeLine ∧ ∀ p, H1 p = none → Q (.ref p) (upd H1 p (.tup xs))
def tLst (t : TA) : TE := fun σ H Q => t σ H fun xs H1 => xs.length ≤ sizeLine ∧ ∀ p, H1 p = none → Q (.ref p) (upd H1 p (.lst xs))
theorem pe_tup {x1} (h : PA X es t) : PE X (.Tuple es x1 pos) (tTup t) := by
  intro pins s σ H Q I hq
  refine wpAny_Tuple_spliced (thn (h pos pins s σ H _ I hq) fun us s1 ⟨xs, H1, I1, r, z, q⟩ => ⟨by rw [← r.length]; exact z, ?_⟩)
  have hf : H1 s1.heap.objs.size = none := I1.hok.fresh (Nat.le_refl _)
  refine ⟨.ref s1.heap.objs.size, upd H1 s1.heap.objs.size (.tup xs), I1.laid (t' := s1.toks) (fun b u e => Heap.get?_push_of_some _ e) (Nat.le_refl _) ?_, rfl, q _ hf⟩
  exact ⟨z, us, r, ⟨_, Heap.get?_push_size _ rfl, rfl, _, rfl⟩⟩
theorem pe_lst (h : PA X es t) : PE X (.List es pos) (tLst t) := by
  intro pins s σ H Q I hq
  refine wpAny_List_spliced (thn (h pos pins s σ H _ I hq) fun us s1 ⟨xs, H1, I1, r, z, q⟩ => ⟨by rw [← r.length]; exact z, ?_⟩)
  have hf : H1 s1.heap.objs.size = none := I1.hok.fresh (Nat.le_refl _)
  refine ⟨.ref s1.heap.objs.size, upd H1 s1.heap.objs.size (.lst xs), I1.laid (t' := s1.toks) (fun b u e => Heap.get?_push_of_some _ e) (Nat.le_refl _) ?_, rfl, q _ hf⟩
  exact ⟨z, us, 0, r, Heap.get?_push_size _ rfl⟩
end
abbrev Sp := List V → Hp → VK → XK → Prop
abbrev CXT := List Env → Hp → Shared → XK → Value → Shared → Prop
structure Env0 (P : Program) (w : World) (K : PySem.W.Frag) (mg : Str → Option Value) (base : Heap) (A : Around) (outer : List Env) (s : Shared) (H : Hp) : Prop where
  frames : A.frames = some outer
  mod : Mod K mg base
  bs : ∀ b o, base.get? b = some o → s.heap.get? b = some o ∧ H b = none
  bsz : base.objs.size ≤ s.heap.objs.size
  funs : s.heap.FunFrames base outer
  frf : ∀ b ∈ frs outer, H b = none
  hok : HOk P w H s.heap
  bare : AllBare s.gens
def CE (outer : List Env) (P : Program) (w : World) (H : Hp) (s : Shared) (Q : VK) (u : Value) (s' : Shared) : Prop :=
  ∃ v H', s'.os = s.os ∧ AllBare s'.gens ∧ Un (frs outer) [] H H' s.heap s'.heap ∧ HOk P w H' s'.heap ∧ RelV v u ∧ Q v H'
def CR (CX : CXT) (outer : List Env) (P : Program) (w : World) (H : Hp) (s : Shared) (Q : VK) (E : XK) (r : Result) (s' : Shared) : Prop :=
  match r with
  | .ok (.ret u) => CE outer P w H s Q u s'
  | .ok _ => False
  | .error e => CX outer H s E e s'
structure FnOk (P : Program) (w : World) (K : PySem.W.Frag) (mg : Str → Option Value) (base : Heap) (CX : CXT) (k : Nat) (f : Addr) (fd : FuncData) (ps : List Str) (sp : Sp) : Prop where
  len : ∀ vs H Q E, sp vs H Q E → vs.length = ps.length
  run : ∀ (A : Around) (outer : List Env) (s : Shared) (H : Hp) (args : Args) (us : List Value) (vs : List V) (Q : VK) (E : XK), Room k A → Env0 P w K mg base A outer s H → BindsTo s fd args (ps.zip us) → Vals vs us → sp vs H Q E →
    codeAny (model P w) A (.call (.ref f) args) (CR CX outer P w H s Q E) s
theorem FnOk.mono {P : Program} {w : World} {K : PySem.W.Frag} {mg : Str → Option Value} {base : Heap} {CX : CXT} {j k : Nat} {f : Addr} {fd : FuncData} {ps : List Str} {sp : Sp} (F : FnOk P w K mg base CX j f fd ps sp) (h : j ≤ k) :
    FnOk P w K mg base CX k f fd ps sp := ⟨F.len, fun A outer s H args us vs Q E hr => F.run A outer s H args us vs Q E (hr.mono h)⟩
theorem FnOk.imp {P : Program} {w : World} {K : PySem.W.Frag} {mg : Str → Option Value} {base : Heap} {CX : CXT} {k : Nat} {f : Addr} {fd : FuncData} {ps : List Str} {sp sp' : Sp} (F : FnOk P w K mg base CX k f fd ps sp)
    (h : ∀ vs H Q E, sp' vs H Q E → sp vs H Q E) : FnOk P w K mg base CX k f fd ps sp' :=
  ⟨fun vs H Q E q => F.len vs H Q E (h _ _ _ _ q), fun A outer s H args us vs Q E hr he hb hv hs => F.run A outer s H args us vs Q E hr he hb hv (h _ _ _ _ hs)⟩
theorem Env0.make {P : Program} {w : World} {K : PySem.W.Frag} {mg : Str → Option Value} {base : Heap} {A : Around} {outer : List Env} {s : Shared} {H : Hp} (e : Env0 P w K mg base A outer s H) (C : Addr) (us : List Value) (kw : List (Str × Value)) :
    Env0 P w K mg base (A.under (.builtin "type.__call__" ⟨.ref C :: us, kw⟩)) outer s H := ⟨by first | exact e.frames | (simpa [Around.under, Code.envs, Code.isFrame, pushEnvs] using e.frames), e.mod, e.bs, e.bsz, e.funs, e.frf, e.hok, e.bare⟩
theorem Env0.in1 {P : Program} {w : World} {K : PySem.W.Frag} {mg : Str → Option Value} {base : Heap} {A : Around} {outer : List Env} {s : Shared} {H : Hp} (e : Env0 P w K mg base A outer s H) :
    Env0 P w K mg base A.in1 outer s H := ⟨e.frames, e.mod, e.bs, e.bsz, e.funs, e.frf, e.hok, e.bare⟩
section
variable {X : Cx} {pins : List (Addr × Obj)} {σ : St} {H : Hp} {s s' : Shared}
theorem Inv.env0 (I : Inv X pins σ H s) : Env0 X.prog X.w X.K X.mg X.base X.A X.stack s H :=
  ⟨I.ok.frames, I.ok.mod, I.bs, Nat.le_trans I.ok.bsz I.sz, I.stack, I.stkFree, I.hok, I.bare⟩
theorem Inv.after {Q : VK} {u : Value} (I : Inv X pins σ H s) (h : CE X.stack X.prog X.w H s Q u s') : EP X pins σ Q u s' := by
  obtain ⟨v, H', os, bare, un, hok, r, q⟩ := h
  obtain ⟨hh, g, d, t, os'⟩ := s'
  obtain rfl : os' = s.os := os
  exact ⟨v, H', I.call (h' := hh) (g' := g) (d' := d) (t' := t) (ch := []) un hok bare (fun b z => absurd z (by simp)), r, q⟩
end
def tCall (sp : Sp) (dvs : List V) (E : XK) (t : TA) : TE := fun σ H Q => t σ H fun vs H1 => sp (vs ++ dvs) H1 Q E
def Binds (K : PySem.W.Frag) (fd : FuncData) (ps : List Str) (ds : List Value) : Prop :=
  ∀ (s : Shared) (us : List Value), K.In s.heap → (us ++ ds).length = ps.length → BindsTo s fd ⟨us, []⟩ (ps.zip (us ++ ds))
theorem Binds.all {K : PySem.W.Frag} {fd : FuncData} {ps : List Str} (h : ∀ us : List Value, us.length = ps.length → bindArgs fd ⟨us, []⟩ = pure (ps.zip us)) : Binds K fd ps [] := fun s us _ hl => by
  rw [List.append_nil] at hl ⊢
  exact .of_eq (h us hl)
def Passes (CX : CXT) (X : Cx) (E : XK) : Prop := ∀ (pins : List (Addr × Obj)) (σ : St) (H : Hp) (s : Shared) (e : Value) (s' : Shared), Inv X pins σ H s → CX X.stack H s E e s' → X.xe e s'
section
variable {X : Cx} {CX : CXT} {k : Nat} {f C : Addr} {fd : FuncData} {ps : List Str} {sp : Sp} {dvs : List V} {ds : List Value} {E : XK} {x m : Str} {p pos apos : Pos} {e o : Expr} {es : List Expr} {ta : TE} {t : TA}
theorem run_fn {pins : List (Addr × Obj)} {σ : St} {H : Hp} {s : Shared} {Q : VK} {us : List Value} {vs : List V} (F : FnOk X.prog X.w X.K X.mg X.base CX k f fd ps sp) (hr : Room k X.A) (hb : Binds X.K fd ps ds) (hd : Vals dvs ds) (hx : Passes CX X E)
    (I : Inv X pins σ H s) (r : Vals vs us) (h : sp (vs ++ dvs) H Q E) : wpAny (model X.prog X.w) X.A (call (.ref f) us) (EP X pins σ Q) X.xe s := by
  have r2 : Vals (vs ++ dvs) (us ++ ds) := r.append hd
  have hl : (us ++ ds).length = ps.length := by rw [← r2.length]; exact F.len _ _ _ _ h
  refine wpAny_call (codeAny_mono (F.run X.A X.stack s H ⟨us, []⟩ (us ++ ds) (vs ++ dvs) Q E hr I.env0 (hb s us I.kIn hl) r2 h) fun r s' hq => ?_)
  cases r with
  | error e => exact hx pins σ H s e s' I hq
  | ok fl =>
    cases fl with
    | ret u => exact I.after hq
    | next => exact False.elim hq
    | brk => exact False.elim hq
    | cont => exact False.elim hq
theorem pe_call (F : FnOk X.prog X.w X.K X.mg X.base CX k f fd ps sp) (hr : Room k X.A) (hg : Gl X x) (hm : X.mg x = some (.ref f)) (hk : PySem.W.keepIn X.K (.ref f) = true) (hb : Binds X.K fd ps ds) (hd : Vals dvs ds) (hx : Passes CX X E)
    (ha : PA X (e :: es) t) (hdb : (x == ("__debug__" : Str)) = false := by decide) (he : starEach (e :: es) X.env = (false, eval e X.env) :: starEach es X.env := by rfl) (hpl : (backTo pos (starEach es X.env)).any (·.1) = false := by rfl) :
    PE X (.Call (.Name x p) (e :: es) [] pos) (tCall sp dvs E t) := by
  intro pins s σ H Q I h
  refine wpAny_Call_Name_kw (ld_glob I hg hm ?_ hdb)
  refine PySem.W.callWith_K (h₀ := X.base) I.ok.mod.kin hk (thn (ha pos pins s σ H _ I h) fun us s1 ⟨vs, H1, I1, r, q⟩ => ⟨I1.kIn, ?_⟩) he hpl
  exact run_fn F hr hb hd hx I1 r q
structure Mk (K : PySem.W.Frag) (C f : Addr) : Prop where
  makes : PySem.W.makesIn K C = true
  init : PySem.W.findIn K (.ref C) "__init__" = some (some (.ref f))
  fn : PySem.W.isFn K (.ref f) = true
  kp : PySem.W.keepIn K (.ref C) = true
end
section
variable {X : Cx} {CX : CXT} {k : Nat} {f C : Addr} {fd : FuncData} {ps ks : List Str} {sp : Sp} {E : XK} {x m : Str} {p pos apos kpos : Pos} {e o : Expr} {es : List Expr} {kws : List Keyword} {te ta : TE} {t tk : TA} {nm : Option Str}
structure KBinds (K : PySem.W.Frag) (fd : FuncData) (ps ks : List Str) (g : List Value → List Value → List Value) (gV : List V → List V → List V) : Prop where
  to : ∀ (s : Shared) (us ws : List Value), K.In s.heap → (g us ws).length = ps.length → BindsTo s fd ⟨us, ks.zip ws⟩ (ps.zip (g us ws))
  rel : ∀ {vs : List V} {us : List Value} {zs : List V} {ws : List Value}, Vals vs us → Vals zs ws → Vals (gV vs zs) (g us ws)
variable {g : List Value → List Value → List Value} {gV : List V → List V → List V}
end
structure FnScope (N P : List Str) (sc : Scope) : Prop where
  kind : sc.kind = .function
  co : sc.isCoroutine = false
  gen : sc.isGenerator = false
  nd : N.Nodup
  pre : N.take P.length = P
  par : ∀ x ∈ P, sc.names.lookup x = some .local ∨ sc.names.lookup x = some .cell
  nofree : ∀ y ∈ sc.names, y.2 ≠ .free
theorem bindL_out {kindOf : Str → Option NameKind} {x : Str} : ∀ {binds : List (Str × Value)} {m : Str → Option Value}, (∀ v, (x, v) ∉ binds) → bindL kindOf binds m x = m x
  | [], _, _ => rfl
  | (n, v) :: r, m, h => by
    unfold bindL
    rw [bindL_out fun w hw => h w (List.mem_cons_of_mem _ hw)]
    split
    · have : x ≠ n := by rintro rfl; exact h v List.mem_cons_self
      simp [this]
    · rfl
theorem bindC_out {kindOf : Str → Option NameKind} {x : Str} : ∀ {binds : List (Str × Value)} {m : Str → Option Value}, (∀ v, (x, v) ∉ binds) → bindC kindOf binds m x = m x
  | [], _, _ => rfl
  | (n, v) :: r, m, h => by
    unfold bindC
    rw [bindC_out fun w hw => h w (List.mem_cons_of_mem _ hw)]
    split
    · rfl
    · have : x ≠ n := by rintro rfl; exact h v List.mem_cons_self
      simp [this]
theorem bindL_get {kindOf : Str → Option NameKind} {x : Str} {v : Value} : ∀ {P : List Str} {vs : List Value} {i : Nat} {m : Str → Option Value}, P.Nodup → P[i]? = some x → vs[i]? = some v → kindOf x = some .local →
    bindL kindOf (P.zip vs) m x = some v
  | [], _, _, _, _, h, _, _ => by simp at h
  | _ :: _, [], _, _, _, _, h, _ => by simp at h
  | p :: P, w :: vs, 0, m, nd, h1, h2, hk => by
    simp at h1 h2; subst h1; subst h2
    show bindL kindOf ((p, w) :: P.zip vs) m p = _
    unfold bindL
    rw [bindL_out fun v hv => (List.nodup_cons.mp nd).1 (List.of_mem_zip hv).1, if_pos hk]
    simp
  | p :: P, w :: vs, i + 1, m, nd, h1, h2, hk => by
    show bindL kindOf ((p, w) :: P.zip vs) m x = _
    unfold bindL
    exact bindL_get (i := i) (List.nodup_cons.mp nd).2 (by simpa using h1) (by simpa using h2) hk
theorem bindC_get {kindOf : Str → Option NameKind} {x : Str} {v : Value} : ∀ {P : List Str} {vs : List Value} {i : Nat} {m : Str → Option Value}, P.Nodup → P[i]? = some x → vs[i]? = some v → kindOf x ≠ some .local →
    bindC kindOf (P.zip vs) m x = some v
  | [], _, _, _, _, h, _, _ => by simp at h
  | _ :: _, [], _, _, _, _, h, _ => by simp at h
  | p :: P, w :: vs, 0, m, nd, h1, h2, hk => by
    simp at h1 h2; subst h1; subst h2
    show bindC kindOf ((p, w) :: P.zip vs) m p = _
    unfold bindC
    rw [bindC_out fun v hv => (List.nodup_cons.mp nd).1 (List.of_mem_zip hv).1, if_neg hk]
    simp
  | p :: P, w :: vs, i + 1, m, nd, h1, h2, hk => by
    show bindC kindOf ((p, w) :: P.zip vs) m x = _
    unfold bindC
    exact bindC_get (i := i) (List.nodup_cons.mp nd).2 (by simpa using h1) (by simpa using h2) hk
def start (N : List Str) (vs : List V) : St := vs.map some ++ List.replicate (N.length - vs.length) none
def cxOf (CX : CXT) (P : Program) (w : World) (K : PySem.W.Frag) (mg : Str → Option Value) (base : Heap) (N : List Str) (qual : Str) (scope : Scope) (f : Addr) (cd : Value) (A : Around) (outer : List Env) (s : Shared) (H : Hp) (E : XK) : Cx where
  prog := P
  w := w
  K := K
  mg := mg
  base := base
  A := A.deeper (envOfC qual scope s.heap.objs.size f cd)
  N := N
  s₀ := s
  H₀ := H
  env := envOfC qual scope s.heap.objs.size f cd
  outer := outer
  stack := envOfC qual scope s.heap.objs.size f cd :: outer
  ex := []
  calm := true
  fn := fun _ => true
  pn := []
  xe := fun e s' => wpAny (model P w) (A.deeper (envOfC qual scope s.heap.objs.size f cd)) (leaving (envOfC qual scope s.heap.objs.size f cd) e) (fun _ s'' => CX outer H s E e s'') (fun e' s'' => CX outer H s E e' s'') s'
theorem cell_has {sc : Scope} {n : Nat} {x : Str} (h : sc.names.lookup x = some .cell) : ∃ c, (cellsFrom n sc.names []).lookup x = some c := by
  have q := PySem.W.cellsFrom_some sc.names n [] (.inl h)
  exact Option.isSome_iff_exists.mp q
theorem inv_start {CX : CXT} {P : Program} {w : World} {K : PySem.W.Frag} {mg : Str → Option Value} {base : Heap} {N ps : List Str} {qual : Str} {scope : Scope} {f : Addr} {cd : Value} {A : Around} {outer : List Env} {s s1 : Shared} {H : Hp} {E : XK} {us : List Value} {vs : List V}
    (S : FnScope N ps scope) (hd : A.handled = none) (e0 : Env0 P w K mg base A outer s H) (hl : vs.length = ps.length) (r : Vals vs us)
    (x : InCallC s s.heap.objs.size (bindL (envOfC qual scope s.heap.objs.size f cd).kindOf (ps.zip us) fun _ => none) (cellsFrom (s.heap.objs.size + 1) scope.names []) (bindC (envOfC qual scope s.heap.objs.size f cd).kindOf (ps.zip us) fun _ => none) s1) :
    Inv (cxOf CX P w K mg base N qual scope f cd A outer s H E) [] (start N vs) H s1 := by
  have hpl : ps.length ≤ N.length := by have := congrArg List.length S.pre; rw [List.length_take] at this; omega
  obtain ⟨h1, tk, rfl, hk⟩ := x.done
  have noA : ∀ b : Addr, b ∉ (cxOf CX P w K mg base N qual scope f cd A outer s H E).ex := fun b z => absurd (show b ∈ ([] : List Addr) from z) (by simp)
  refine ⟨⟨e0.mod, S.kind, rfl, rfl, Nat.le_refl _, fun y z c h1 h2 => ?_, fun y hy => ?_, fun y c _ h => ?_, fun _ => hd, Around.frames_deeper e0.frames, .inr ⟨rfl, rfl⟩, fun b z => absurd z (noA b), e0.bs, e0.bsz, fun b _ _ => noA b, fun b z => absurd z (noA b), e0.funs, e0.frf⟩,
    rfl, e0.bare, Un.kept hk, ⟨_, x.toInCall.ns, fun i y v h1 h2 h3 => ?_⟩, fun y c h => ⟨_, x.cell y c h⟩, e0.hok.fresh (Nat.le_refl _), fun y c h => ?_, fun p hp => absurd (show p ∈ ([] : List (Addr × Obj)) from hp) (by simp), e0.hok.kept hk, ?_⟩
  · exact name_of_addr x.apart (PySem.mem_of_lookup h1) (PySem.mem_of_lookup h2)
  · have hy : scope.names.lookup y = some .cell ∨ scope.names.lookup y = some .free := hy
    rcases hy with hy | hy
    · exact cell_has hy
    · exact absurd rfl (S.nofree _ (PySem.mem_of_lookup hy))
  · exact Nat.le_of_lt (x.above y c (PySem.mem_of_lookup h))
  · have hi : i < vs.length := by
      unfold start at h2
      by_cases hi : i < vs.length
      · exact hi
      · rw [List.getElem?_append_right (by simpa using hi)] at h2
        rw [List.getElem?_replicate] at h2
        split at h2 <;> cases h2
    have ha : vs[i]? = some v := by
      unfold start at h2
      rw [List.getElem?_append_left (by simpa using hi), List.getElem?_map] at h2
      cases e : vs[i]? with
      | none => rw [e] at h2; cases h2
      | some a => rw [e] at h2; cases h2; rfl
    obtain ⟨u, hu, rv⟩ := r.get ha
    have hp : ps[i]? = some y := by
      rw [← S.pre, List.getElem?_take_of_lt (by omega)]; exact h1
    have ndP : ps.Nodup := by rw [← S.pre]; exact S.nd.sublist (List.take_sublist _ _)
    refine ⟨u, rv, ?_⟩
    rcases S.par y (List.mem_of_getElem? hp) with k | k
    · exact .inl ⟨k, bindL_get ndP hp hu k⟩
    · obtain ⟨c, e⟩ := cell_has (n := s.heap.objs.size + 1) k
      refine .inr ⟨.inl k, c, e, ?_⟩
      have q := x.cell y c e
      rw [bindC_get ndP hp hu (by show scope.names.lookup y ≠ _; rw [k]; decide)] at q
      exact q
  · exact e0.hok.fresh (Nat.le_of_lt (x.above y c (PySem.mem_of_lookup h)))
  · unfold start
    show _ = N.length
    rw [List.length_append, List.length_map, List.length_replicate]
    omega
theorem fn_of {CX : CXT} {P : Program} {w : World} {K : PySem.W.Frag} {mg : Str → Option Value} {base : Heap} {k : Nat} {f : Addr} {name qual : Str} {params : Arguments} {body : List Stmt} {scope : Scope} {dV kV doc pm cdv ct oc : Value} {an od : Option Addr}
    {osl : Array (Option Value)} {N ps : List Str} {sp : Sp} (lk : K.lookup f = some ⟨oc, od, .func (PySem.W.fnOf name qual params body scope dV kV doc pm an cdv ct), osl⟩) (hcd : PySem.W.codeIn K cdv qual = true) (S : FnScope N ps scope)
    (len : ∀ vs H Q E, sp vs H Q E → vs.length = ps.length)
    (hbody : ∀ (A : Around) (outer : List Env) (s : Shared) (H : Hp) (vs : List V) (Q : VK) (E : XK), Room k (A.deeper (envOfC qual scope s.heap.objs.size f cdv)) → sp vs H Q E →
      ∃ t, PSs (cxOf CX P w K mg base N qual scope f cdv A outer s H E) body t ∧ t { nx := fun _ H' => Q .non H', rt := Q } (start N vs) H) :
    FnOk P w K mg base CX (k + 1) f (PySem.W.fnOf name qual params body scope dV kV doc pm an cdv ct) ps sp := by
  refine ⟨len, fun A outer s H args us vs Q E hr e0 hb r hsp => ?_⟩
  have hl := len _ _ _ _ hsp
  have KX : K.In s.heap := e0.mod.kin.keeps fun b o e => (e0.bs b o e).1
  have lim : s.heap.NoLimit := e0.mod.nolimit.keeps fun b o e => (e0.bs b o e).1
  have hkind : ∀ y ∈ ps.zip us, scope.names.lookup y.1 = some .local ∨ (scope.names.lookup y.1 = some .cell ∧ ((cellsFrom (s.heap.objs.size + 1) scope.names []).lookup y.1).isSome = true) := fun ⟨n, v⟩ hy => by
    rcases S.par n (List.of_mem_zip hy).1 with q | q
    · exact .inl q
    · exact .inr ⟨q, PySem.W.cellsFrom_some _ _ _ (.inl q)⟩
  refine codeAny_call_function hr.depth (KX _ _ lk) rfl S.co S.gen rfl (PySem.W.codeRec_of KX hcd) (hb _ _ _ _ ?_)
  refine wpAny_newFunctionEnv_cells S.kind hkind fun env he s1 x => ?_
  subst he
  refine ⟨lim.keeps x.toInCall.keep, codeAny_func ?_⟩
  obtain ⟨t, ht, hq⟩ := hbody A outer s H vs Q E (hr.deeper _) hsp
  have I : Inv (cxOf CX P w K mg base N qual scope f cdv A outer s H E) [] (start N vs) H s1 := inv_start S hr.hd e0 hl r x
  refine wpAny_mono (ht [] s1 (start N vs) H _ I hq) (fun fl s' hs => ?_) fun e s' hs => hs
  have fin : ∀ {σ' : St} {H' : Hp} {v : V} {u : Value}, Inv (cxOf CX P w K mg base N qual scope f cdv A outer s H E) [] σ' H' s' → RelV v u → Q v H' → CE outer P w H s Q u s' :=
    fun {σ' H' v u} J rv q => ⟨v, H', J.os, J.bare, J.base, J.hok, rv, q⟩
  cases fl with
  | ret u =>
    obtain ⟨v, σ', H', J, rv, q⟩ := hs
    exact fin J rv q
  | next =>
    obtain ⟨σ', H', J, q⟩ := hs
    exact fin (v := V.non) (u := Value.none) J rfl q
  | brk =>
    obtain ⟨_, _, _, q⟩ := hs
    exact False.elim q
  | cont =>
    obtain ⟨_, _, _, q⟩ := hs
    exact False.elim q
end L2
namespace L2
open PySem PySem.Spec PyProof.Rows
section
variable {X : Cx} {x : Str} {p pos : Pos} {e : Expr} {es : List Expr} {t : TA} {id T : String} {r : List V → Hp → VK → Prop}
def tCB (r : List V → Hp → VK → Prop) (t : TA) : TE := fun σ H Q => t σ H fun vs H1 => r vs H1 Q
theorem pe_callB (hc : CallR X (.builtin id) r) (hg : Gl X x) (hm : X.mg x = none) (hv : bootBuiltins x = some (.builtin id)) (ha : PA X (e :: es) t) (hn : x ≠ "__name__" := by decide) (hdb : (x == ("__debug__" : Str)) = false := by decide)
    (he : starEach (e :: es) X.env = (false, eval e X.env) :: starEach es X.env := by rfl) (hpl : (backTo pos (starEach es X.env)).any (·.1) = false := by rfl) : PE X (.Call (.Name x p) (e :: es) [] pos) (tCB r t) := by
  intro pins s σ H Q I h
  refine wpAny_Call_Name_kw (ld_blt I hg hm hv ?_ hn hdb)
  exact PyProof.Rows.callWith_builtin1 (thn (ha pos pins s σ H _ I h) fun us s1 ⟨vs, H1, I1, r1, q1⟩ => hc pins s1 σ H1 vs us Q I1 r1 q1) he hpl
theorem pe_callTy (hc : CallR X (.type T) r) (hg : Gl X x) (hm : X.mg x = none) (hv : bootBuiltins x = some (.type T)) (ha : PA X (e :: es) t) (hn : x ≠ "__name__" := by decide) (hdb : (x == ("__debug__" : Str)) = false := by decide)
    (he : starEach (e :: es) X.env = (false, eval e X.env) :: starEach es X.env := by rfl) (hpl : (backTo pos (starEach es X.env)).any (·.1) = false := by rfl) : PE X (.Call (.Name x p) (e :: es) [] pos) (tCB r t) := by
  intro pins s σ H Q I h
  refine wpAny_Call_Name_kw (ld_blt I hg hm hv ?_ hn hdb)
  exact PyProof.Rows.callWith_type1 (thn (ha pos pins s σ H _ I h) fun us s1 ⟨vs, H1, I1, r1, q1⟩ => hc pins s1 σ H1 vs us Q I1 r1 q1) he hpl
end
end L2
namespace HT
open PySem PyProof.Rows
section
open PySem.SeqAt
open PySem.AutoSeq1 (wpAny_loadPart')
open PySem.MeetsSeq PySem.MeetsSeq2 PySem.MeetsSeq3
end
section
variable {prog : Program} {w : World} {A : Around} {E : Value → Shared → Prop} {s : Shared}
theorem cat_tup {t b : Addr} {vs ws : List Value} {Q : Value → Shared → Prop} (ht : IsTup s.heap t vs.toArray) (hb : IsTup s.heap b ws.toArray) (hv : vs ≠ [])
    (h1 : ws = [] → Q (.ref t) s) (h2 : ws ≠ [] → Q (.ref s.heap.objs.size) { s with heap := s.heap.push { cls := .type "tuple", data := .seq (vs ++ ws).toArray } })
    (hsz : vs.length + ws.length ≤ sizeLine) : wpAny (model prog w) A (binaryOp .Add (.ref t) (.ref b)) Q E s := by
  obtain ⟨⟨cls, dd, data, sl⟩, ho, hc, n, hd⟩ := id ht
  obtain ⟨⟨cls2, dd2, data2, sl2⟩, ho2, hc2, n2, hd2⟩ := id hb
  simp only at hc hd hc2 hd2
  subst hc hd hc2 hd2
  have e : vs.toArray ++ ws.toArray = (vs ++ ws).toArray := by simp
  by_cases hw : ws = []
  · exact concat_meets ⟨_, ho, rfl⟩ ⟨_, ho2, rfl⟩ noFill_tuple_add seq_tuple_add PySem.F.slot_tuple_add PySem.F.entry_tuple_add (PySem.F.args_tuple_add_2 _ _)
      (tuple_addW1 t b vs.toArray ws.toArray n n2 dd dd2 sl sl2 (by simpa using hv) (by simp [hw])) ⟨ho, ho2, h1 hw⟩
  · refine concat_meets ⟨_, ho, rfl⟩ ⟨_, ho2, rfl⟩ noFill_tuple_add seq_tuple_add PySem.F.slot_tuple_add PySem.F.entry_tuple_add (PySem.F.args_tuple_add_2 _ _)
      (tuple_addW2 t b vs.toArray ws.toArray n n2 dd dd2 sl sl2 (by simpa using hv) (by simpa using hw) (by rw [List.size_toArray, List.size_toArray]; exact hsz)) ⟨ho, ho2, ?_⟩
    rw [e]
    exact h2 hw
def sIx (n d : Nat) : Option Int → Nat
  | none => d
  | some v => if v < 0 then (v + (n : Int)).toNat else min v.toNat n
theorem sIx_none (n d : Nat) : sIx n d none = d := rfl
theorem sIx_nat (n d k : Nat) : sIx n d (some (k : Int)) = min k n := by
  show (if (k : Int) < 0 then ((k : Int) + (n : Int)).toNat else min (k : Int).toNat n) = min k n
  rw [if_neg (by omega), Int.toNat_natCast]
end
end HT
namespace L2
open PySem PySem.Spec PyProof.Rows
abbrev TO := St → Hp → (Option Int → Hp → Prop) → Prop
def PO (X : Cx) (e : Option Expr) (t : TO) : Prop :=
  ∀ (pins : List (Addr × Obj)) (s : Shared) (σ : St) (H : Hp) (Q : Option Int → Hp → Prop), Inv X pins σ H s → t σ H Q →
    wpAny (model X.prog X.w) X.A (evalPart e X.env) (fun u s' => ∃ o H', Inv X pins σ H' s' ∧ IsPart u o ∧ Q o H') X.xe s
def tNoPart : TO := fun _ H Q => Q none H
def tPart (t : TE) : TO := fun σ H Q => t σ H fun x H1 => ∃ i, x = .int i ∧ Q (some i) H1
section
variable {X : Cx} {e : Expr} {te : TE} {lo hi : Option Expr} {tl th : TO} {pos p2 : Pos}
theorem po_none : PO X none tNoPart := by
  intro pins s σ H Q I h
  rw [evalPart_none]
  exact wpAny_pure ⟨none, H, I, .none, h⟩
theorem po_some (h : PE X e te) : PO X (some e) (tPart te) := by
  intro pins s σ H Q I hw
  rw [evalPart_some]
  refine thn (h pins s σ H _ I hw) fun u s1 ⟨x, H1, I1, r1, q1⟩ => ?_
  obtain ⟨i, rfl, q⟩ := q1
  obtain ⟨t, rfl⟩ := r1
  exact ⟨some i, H1, I1, .int i t, q⟩
def SlR (X : Cx) (r : V → Option Int → Option Int → Hp → VK → Prop) : Prop :=
  ∀ (pins : List (Addr × Obj)) (s : Shared) (σ : St) (H : Hp) (x : V) (v vl vu : Value) (lo hi : Option Int) (sl : Addr) (Q : VK), Inv X pins σ H s → RelV x v → s.heap.IsSliceOf sl vl vu .none → IsPart vl lo → IsPart vu hi → r x lo hi H Q →
    ∃ T id, typeLookup (.type T) "__getitem__" = pure (some (.builtin id)) ∧ s.TypeIs v T ∧ wpAny (model X.prog X.w) X.A (getItem v (.ref sl)) (EP X pins σ Q) X.xe s
theorem SlR.or {r r' : V → Option Int → Option Int → Hp → VK → Prop} (h : SlR X r) (h' : SlR X r') : SlR X (fun x lo hi H Q => r x lo hi H Q ∨ r' x lo hi H Q) := by
  intro pins s σ H x v vl vu lo hi sl Q I rx hs pl pu q
  rcases q with q | q
  · exact h pins s σ H x v vl vu lo hi sl Q I rx hs pl pu q
  · exact h' pins s σ H x v vl vu lo hi sl Q I rx hs pl pu q
def tSl (r : V → Option Int → Option Int → Hp → VK → Prop) (te : TE) (tl th : TO) : TE := fun σ H Q => te σ H fun x H1 => tl σ H1 fun l H2 => th σ H2 fun u H3 => r x l u H3 Q
theorem pe_slice {r : V → Option Int → Option Int → Hp → VK → Prop} (hr : SlR X r) (he : PE X e te) (hl : PO X lo tl) (hu : PO X hi th) : PE X (.Subscript e (.Slice lo hi none p2) pos) (tSl r te tl th) := by
  intro pins s σ H Q I h
  refine Subscript_ (thn (he pins s σ H _ I h) fun v s1 ⟨x, H1, I1, r1, q1⟩ => ?_)
  refine wpAny_Slice (thn (hl pins s1 σ H1 _ I1 q1) fun vl s2 ⟨l, H2, I2, pl, q2⟩ => thn (hu pins s2 σ H2 _ I2 q2) fun vu s3 ⟨u, H3, I3, pu, q3⟩ => ?_)
  rw [evalPart_none]
  refine wpAny_pure ?_
  have I4 : Inv X pins σ H3 { s3 with heap := s3.heap.push { cls := .type "slice", data := .fields #[vl, vu, .none] } } := I3.kept (t' := s3.toks) fun b ob q => Heap.get?_push_of_some _ q
  obtain ⟨T, id, hT, ht, hg⟩ := hr pins { s3 with heap := s3.heap.push { cls := .type "slice", data := .fields #[vl, vu, .none] } } σ H3 x v vl vu l u s3.heap.objs.size Q I4 r1 (Heap.IsSliceOf.new ..) pl pu q3
  show wpAny (model X.prog X.w) X.A (subscriptTail e (.Slice lo hi none p2) v (.ref s3.heap.objs.size)) (EP X pins σ Q) X.xe { s3 with heap := s3.heap.push { cls := .type "slice", data := .fields #[vl, vu, .none] } }
  exact tail_any (ops := [.ref s3.heap.objs.size, v]) ht hT hg (by with_unfolding_all rfl)
def cutV (xs : List V) (lo hi : Option Int) : List V := (xs.drop (HT.sIx xs.length 0 lo)).take (HT.sIx xs.length xs.length hi - HT.sIx xs.length 0 lo)
theorem cutV_length (xs : List V) (lo hi : Option Int) : (cutV xs lo hi).length ≤ xs.length := by
  unfold cutV
  rw [List.length_take, List.length_drop]
  omega
def rCatT (K : PySem.W.Frag) : R2 := fun x y H Q => ∃ a b xs ys, x = .ref a ∧ y = .ref b ∧ SqT K H a xs ∧ SqT K H b ys ∧ xs ≠ [] ∧ xs.length + ys.length ≤ sizeLine ∧
  (ys = [] → Q (.ref a) H) ∧ (ys ≠ [] → ∀ p, H p = none → Q (.ref p) (upd H p (.tup (xs ++ ys))))
theorem Vals.nil_iff {xs : List V} {us : List Value} (r : Vals xs us) : us = [] ↔ xs = [] := by
  cases r with
  | nil => simp
  | cons _ _ => simp
theorem op_catT : OpR X (binaryOp .Add) (rCatT X.K) := by
  intro pins s σ H x y v u Q I rx ry h
  obtain ⟨a, b, xs, ys, rfl, rfl, ha, hb, hx, hz, q1, q2⟩ := h
  cases rx
  cases ry
  obtain ⟨its, r1, p1, _⟩ := I.tuple ha
  obtain ⟨its2, r2, p2, _⟩ := I.tuple hb
  refine HT.cat_tup p1 p2 (fun z => hx (r1.nil_iff.mp z)) (fun z => ⟨.ref a, H, I, rfl, q1 (r2.nil_iff.mp z)⟩) (fun z => ?_) (by rw [← r1.length, ← r2.length]; exact hz)
  refine ⟨.ref s.heap.objs.size, _, I.laid (t' := s.toks) (o := .tup (xs ++ ys)) (fun b ob q => Heap.get?_push_of_some _ q) (Nat.le_refl _) ?_, rfl, q2 (fun w => z (r2.nil_iff.mpr w)) _ (I.hok.fresh (Nat.le_refl _))⟩
  exact ⟨by rw [List.length_append]; exact hz, _, r1.append r2, IsTup.new _ _⟩
end
end L2
namespace L2
open PySem PySem.Spec PyProof.Rows
def ixN (n : Nat) (i : Int) : Option Nat := if 0 ≤ i then (if i < n then some i.toNat else none) else if -(n : Int) ≤ i then some (i + n).toNat else none
def atI {α : Type} (xs : List α) (i : Int) : Option α := (ixN xs.length i).bind fun j => xs[j]?
theorem ixN_seq {n : Nat} {i : Int} {j : Nat} (h : ixN n i = some j) : seqIndex? i n = some j ∧ j < n ∧ -(n : Int) ≤ i ∧ i < n := by
  unfold ixN at h
  by_cases h0 : 0 ≤ i
  · rw [if_pos h0] at h
    by_cases h1 : i < n
    · rw [if_pos h1] at h
      have e : i.toNat = j := Option.some.inj h
      exact ⟨by rw [seqIndex_of h0 h1, e], by omega, by omega, h1⟩
    · rw [if_neg h1] at h; cases h
  · rw [if_neg h0] at h
    by_cases h1 : -(n : Int) ≤ i
    · rw [if_pos h1] at h
      have e : (i + n).toNat = j := Option.some.inj h
      exact ⟨by rw [seqIndex_neg (by omega) h1, e], by omega, h1, by omega⟩
    · rw [if_neg h1] at h; cases h
theorem atI_get {α : Type} {xs : List α} {i : Int} {v : α} (h : atI xs i = some v) : ∃ j, seqIndex? i xs.length = some j ∧ xs[j]? = some v ∧ j < xs.length ∧ -(xs.length : Int) ≤ i ∧ i < xs.length := by
  unfold atI at h
  cases e : ixN xs.length i with
  | none => rw [e] at h; cases h
  | some j =>
    rw [e] at h
    obtain ⟨h1, h2, h3, h4⟩ := ixN_seq e
    exact ⟨j, h1, h, h2, h3, h4⟩
theorem atI_nat {α : Type} {xs : List α} {j : Nat} {v : α} (h : xs[j]? = some v) : atI xs (j : Int) = some v := by
  have hj : j < xs.length := (List.getElem?_eq_some_iff.mp h).1
  have e : ixN xs.length (j : Int) = some j := by
    unfold ixN
    rw [if_pos (by omega), if_pos (by omega)]; simp
  unfold atI; rw [e]; exact h
theorem atI_last {α : Type} (xs : List α) (v : α) : atI (xs ++ [v]) (-1) = some v := by
  have hl : (xs ++ [v]).length = xs.length + 1 := by simp
  have e : ixN (xs ++ [v]).length (-1) = some xs.length := by
    unfold ixN
    rw [hl, if_neg (by decide), if_pos (by omega)]
    congr 1
    omega
  unfold atI
  rw [e]
  show (xs ++ [v])[xs.length]? = some v
  simp
def PlainIx (b : Expr) : Prop := ∀ o i, subscripted b false o i = operate [o, i] (getItem o i)
def IxR (X : Cx) (r : R2) : Prop :=
  ∀ (value slice : Expr) (pins : List (Addr × Obj)) (s : Shared) (σ : St) (H : Hp) (x y : V) (v u : Value) (Q : VK), Inv X pins σ H s → RelV x v → RelV y u → r x y H Q →
    subscripted slice false v u = operate [v, u] (getItem v u) → wpAny (model X.prog X.w) X.A (subscriptTail value slice v u) (EP X pins σ Q) X.xe s
def MtR (X : Cx) (id : String) (r : V → List V → Hp → VK → Prop) : Prop :=
  ∀ (pins : List (Addr × Obj)) (s : Shared) (σ : St) (H : Hp) (x : V) (xs : List V) (v : Value) (us : List Value) (Q : VK), Inv X pins σ H s → RelV x v → Vals xs us → r x xs H Q →
    wpAny (model X.prog X.w) X.A (call (.builtin id) (v :: us)) (EP X pins σ Q) X.xe s
section
variable {X : Cx} {a b : Expr} {ta tb : TE} {pos : Pos}
theorem IxR.or {r r' : R2} (h : IxR X r) (h' : IxR X r') : IxR X (fun x y H Q => r x y H Q ∨ r' x y H Q) := by
  intro value slice pins s σ H x y v u Q I rx ry q hs
  rcases q with q | q
  · exact h value slice pins s σ H x y v u Q I rx ry q hs
  · exact h' value slice pins s σ H x y v u Q I rx ry q hs
theorem MtR.or {id : String} {r r' : V → List V → Hp → VK → Prop} (h : MtR X id r) (h' : MtR X id r') : MtR X id (fun x xs H Q => r x xs H Q ∨ r' x xs H Q) := by
  intro pins s σ H x xs v us Q I rx rs q
  rcases q with q | q
  · exact h pins s σ H x xs v us Q I rx rs q
  · exact h' pins s σ H x xs v us Q I rx rs q
theorem pe_ix {r : R2} (hr : IxR X r) (ha : PE X a ta) (hb : PE X b tb) (hs : PlainIx b) : PE X (.Subscript a b pos) (tOp r ta tb) := by
  intro pins s σ H Q I h
  exact Subscript_ (binT ha hb I h fun v u s2 x y H2 I2 rx ry q => hr a b pins s2 σ H2 x y v u Q I2 rx ry q (hs _ _))
def rIxL (K : PySem.W.Frag) : R2 := fun x y H Q => ∃ p xs i v, x = .ref p ∧ y = .int i ∧ SqL K H p xs ∧ atI xs i = some v ∧ Q v H
def rIxT (K : PySem.W.Frag) : R2 := fun x y H Q => ∃ p xs i v, x = .ref p ∧ y = .int i ∧ SqT K H p xs ∧ atI xs i = some v ∧ Q v H
def rIxS : R2 := fun x y H Q => ∃ z i c, x = .str z ∧ y = .int i ∧ z.length ≤ sizeLine ∧ atI z.cps.toList i = some c ∧ Q (.str ⟨#[c]⟩) H
theorem ix_list : IxR X (rIxL X.K) := by
  intro value slice pins s σ H x y v u Q I rx ry h hs
  obtain ⟨p, xs, i, z, rfl, rfl, hq, he, q⟩ := h
  cases rx
  obtain ⟨t, rfl⟩ := ry
  obtain ⟨its, r, pl, hz⟩ := I.list hq
  obtain ⟨j, h1, h2, h3, h4, h5⟩ := atI_get he
  obtain ⟨w, ew, rw'⟩ := r.get h2
  have hl := r.length
  have hn := line63
  have fin : EP X pins σ Q w s := ⟨z, H, I, rw', q⟩
  by_cases h0 : 0 ≤ i
  · have hj : i.toNat = j := by
      rw [seqIndex_of h0 h5] at h1
      exact Option.some.inj h1
    exact item_listR pl.isList h0 (by omega) (by rw [hj]; simpa using ew) fin hs
  · have hj : (i + (its.toArray.size : Int)).toNat = j := by
      rw [seqIndex_neg (by omega) h4] at h1
      rw [List.size_toArray, ← hl]
      exact Option.some.inj h1
    exact subscriptTail_builtinR (x := w) pl.isList.typeIs slot_list_getitem.lookup
      (wpAny_getItem_list_neg (Q := fun r s' => r = w ∧ EP X pins σ Q r s') pl.isList (by omega) (by rw [List.size_toArray] <;> omega) (by omega) (by rw [hj]; simpa using ew) ⟨rfl, fin⟩) hs
theorem ix_tup : IxR X (rIxT X.K) := by
  intro value slice pins s σ H x y v u Q I rx ry h hs
  obtain ⟨p, xs, i, z, rfl, rfl, hq, he, q⟩ := h
  cases rx
  obtain ⟨t, rfl⟩ := ry
  obtain ⟨its, r, pl, hz⟩ := I.tuple hq
  obtain ⟨j, h1, h2, h3, h4, h5⟩ := atI_get he
  obtain ⟨w, ew, rw'⟩ := r.get h2
  have hl := r.length
  have hn := line63
  have fin : EP X pins σ Q w s := ⟨z, H, I, rw', q⟩
  exact subscriptTail_builtinR (x := w) pl.typeIs slot_tuple_getitem.lookup
    (getItem_tuple (j := j) (Q := fun r s' => r = w ∧ EP X pins σ Q r s') pl (by omega) (by omega) (by rw [List.size_toArray, ← hl]; exact h1) (by simpa using ew) ⟨rfl, fin⟩) hs
theorem ix_str : IxR X rIxS := by
  intro value slice pins s σ H x y v u Q I rx ry h hs
  obtain ⟨z, i, c, rfl, rfl, hz, he, q⟩ := h
  obtain ⟨t, rfl⟩ := rx
  obtain ⟨t', rfl⟩ := ry
  obtain ⟨j, h1, h2, h3, h4, h5⟩ := atI_get he
  have hl : z.cps.toList.length = z.length := by simp [Str.length]
  rw [hl] at h1 h4 h5
  have hn := line63
  exact tail_any (typeIs_str s z t) slot_str_getitem.lookup (getItem_str (c := c) (by
    have e1 : decide (i < -(2 ^ 63 : Int)) = false := decide_eq_false (by omega)
    have e2 : decide (i ≥ 2 ^ 63) = false := decide_eq_false (by omega)
    rw [e1, e2, Bool.or_false]) (by rw [h1]; simpa using h2) ⟨.str ⟨#[c]⟩, H, I.tok _, ⟨_, rfl⟩, q⟩) hs
def rIx (K : PySem.W.Frag) : R2 := fun x y H Q => rIxL K x y H Q ∨ rIxT K x y H Q ∨ rIxS x y H Q
theorem ix_seq : IxR X (rIx X.K) := ix_list.or (ix_tup.or ix_str)
theorem Inv.lst {pins : List (Addr × Obj)} {σ : St} {H : Hp} {s : Shared} {p : Addr} {xs : List V} (I : Inv X pins σ H s) (h : H p = some (.lst xs)) :
    ∃ (its : List Value) (n : Nat), Vals xs its ∧ s.heap.get? p = some { cls := .type "list", data := .seq its.toArray n } ∧ xs.length ≤ sizeLine := by
  obtain ⟨z, its, n, r, e⟩ := I.hok p _ h
  exact ⟨its, n, r, e, z⟩
theorem slice_bounds (lo hi : Option Int) (n : Nat) : (sliceBounds lo hi none n).1 = ((HT.sIx n 0 lo : Nat) : Int) ∧ (sliceBounds lo hi none n).2.1 = ((HT.sIx n n hi : Nat) : Int) ∧ (sliceBounds lo hi none n).2.2 = 1 := by
  refine ⟨?_, ?_, rfl⟩
  · cases lo with
    | none => simp [sliceBounds, HT.sIx]
    | some i =>
      simp only [sliceBounds, HT.sIx, Option.getD_none, show (1 : Int) > 0 by decide, if_true]
      by_cases h : i < 0
      · simp only [h, if_true] <;> omega
      · simp only [h, if_false] <;> omega
  · cases hi with
    | none => simp [sliceBounds, HT.sIx]
    | some i =>
      simp only [sliceBounds, HT.sIx, Option.getD_none, show (1 : Int) > 0 by decide, if_true]
      by_cases h : i < 0
      · simp only [h, if_true] <;> omega
      · simp only [h, if_false] <;> omega
theorem slicePick_cut (its : List Value) (lo hi : Option Int) : slicePick its.toArray lo hi none = ((its.drop (HT.sIx its.length 0 lo)).take (HT.sIx its.length its.length hi - HT.sIx its.length 0 lo)).toArray := by
  obtain ⟨h1, h2, h3⟩ := slice_bounds lo hi its.toArray.size
  unfold slicePick
  rw [h1, h2, h3]
  simp only [sliceRange_one, pick_run, List.size_toArray] <;> rfl
def rSlL (K : PySem.W.Frag) : V → Option Int → Option Int → Hp → VK → Prop := fun x lo hi H Q => ∃ a xs, x = .ref a ∧ SqL K H a xs ∧ ∀ p, H p = none → Q (.ref p) (upd H p (.lst (cutV xs lo hi)))
theorem sl_list : SlR X (rSlL X.K) := by
  intro pins s σ H x v vl vu lo hi sl Q I rx hs pl pu h
  obtain ⟨a, xs, rfl, hx, q⟩ := h
  cases rx
  obtain ⟨its, r, ht, hz⟩ := I.list hx
  have hlen := r.length
  refine ⟨"list", _, slot_list_getitem.lookup, ht.isList.typeIs, ?_⟩
  refine wpAny_getItem_list_slice ht.isList hs pl pu .none (by simp) ?_ (by rw [List.size_toArray] <;> omega)
  rw [slicePick_cut, ← hlen]
  refine ⟨.ref s.heap.objs.size, _, I.laid (t' := s.toks) (o := .lst (cutV xs lo hi)) (fun b ob q => Heap.get?_push_of_some _ q) (Nat.le_refl _) ?_, rfl, q _ (I.hok.fresh (Nat.le_refl _))⟩
  exact ⟨Nat.le_trans (cutV_length xs lo hi) hz, _, 0, (r.drop (HT.sIx xs.length 0 lo)).take (HT.sIx xs.length xs.length hi - HT.sIx xs.length 0 lo), Heap.get?_push_size _ rfl⟩
def flatV : V → Bool
  | .non => true
  | .bl _ => true
  | .int _ => true
  | .str _ => true
  | _ => false
def eqV : V → V → Bool
  | .non, .non => true
  | .bl a, .bl b => a == b
  | .bl a, .int b => (if a then 1 else 0) == b
  | .int a, .bl b => a == (if b then 1 else 0)
  | .int a, .int b => a == b
  | .str a, .str b => a == b
  | _, _ => false
def inV (x : V) (xs : List V) : Bool := xs.any fun y => eqV y x
theorem call_len_seq : CallR X (.builtin "len") (fun xs H Q => ∃ p ys, xs = [.ref p] ∧ (SqL X.K H p ys ∨ SqT X.K H p ys) ∧ Q (.int ys.length) H) := by
  intro pins s σ H xs us Q I r h
  obtain ⟨p, ys, rfl, hq, q⟩ := h
  obtain ⟨u, rfl, rx⟩ := vals1 r
  cases rx
  have hn := line63
  rcases hq with hq | hq
  · obtain ⟨its, r', pl, hz⟩ := I.list hq
    have hlen := r'.length
    exact Calls.call_len_list pl.isList (by simp only [List.size_toArray] <;> omega) ⟨.int ys.length, H, I.tok _, ⟨s.toks + 1, by rw [List.size_toArray, hlen]⟩, q⟩
  · obtain ⟨its, r', pl, hz⟩ := I.tuple hq
    have hlen := r'.length
    exact len_tuple pl (by simp only [List.size_toArray] <;> omega) ⟨.int ys.length, H, I.tok _, ⟨s.toks + 1, by rw [List.size_toArray, hlen]⟩, q⟩
theorem call_len_str : CallR X (.builtin "len") (fun xs H Q => ∃ z, xs = [.str z] ∧ z.length ≤ sizeLine ∧ Q (.int z.length) H) := by
  intro pins s σ H xs us Q I r h
  obtain ⟨z, rfl, hz, q⟩ := h
  obtain ⟨u, rfl, t, rfl⟩ := vals1 r
  have hn := line63
  exact len_str (by omega) ⟨.int z.length, H, I.tok _, ⟨_, rfl⟩, q⟩
theorem CallR.or {f : Value} {r r' : List V → Hp → VK → Prop} (h : CallR X f r) (h' : CallR X f r') : CallR X f (fun xs H Q => r xs H Q ∨ r' xs H Q) := by
  intro pins s σ H xs us Q I rs q
  rcases q with q | q
  · exact h pins s σ H xs us Q I rs q
  · exact h' pins s σ H xs us Q I rs q
theorem call_list_of : CallR X (.type "list") (fun xs H Q => ∃ p ys, xs = [.ref p] ∧ (SqL X.K H p ys ∨ SqT X.K H p ys) ∧ ∀ l, H l = none → Q (.ref l) (upd H l (.lst ys))) := by
  intro pins s σ H xs us Q I r h
  obtain ⟨p, ys, rfl, hq, q⟩ := h
  obtain ⟨u, rfl, rx⟩ := vals1 r
  cases rx
  have fin : ∀ (its : List Value), Vals ys its → ys.length ≤ sizeLine → ∀ (h' : Heap) (c' : Nat), (∀ b o', s.heap.get? b = some o' → h'.get? b = some o') →
      h'.get? s.heap.objs.size = some { cls := .type "list", dict := none, data := .seq its.toArray c', slots := #[] } → EP X pins σ Q (.ref s.heap.objs.size) { s with heap := h' } := fun its r' hz h' c' kp e =>
    ⟨.ref s.heap.objs.size, _, I.laid (t' := s.toks) kp (Nat.le_refl _) (show ObjOk X.prog X.w _ h' _ (.lst ys) from ⟨hz, its, c', r', e⟩), rfl, q _ (I.hok.fresh (Nat.le_refl _))⟩
  rcases hq with hq | hq
  · obtain ⟨its, r', pl, hz⟩ := I.list hq
    have hlen := r'.length
    obtain ⟨o, ho, hc, n, hd⟩ := pl.isList
    exact call_list_seq p (.inl rfl) ho hc hd (fun h' c' kp e => fin its r' hz h' c' kp e) (by simp only [List.size_toArray] <;> omega)
  · obtain ⟨its, r', pl, hz⟩ := I.tuple hq
    have hlen := r'.length
    obtain ⟨o, ho, hc, n, hd⟩ := pl
    exact call_list_seq p (.inr rfl) ho hc hd (fun h' c' kp e => fin its r' hz h' c' kp e) (by simp only [List.size_toArray] <;> omega)
def tyV (K : PySem.W.Frag) (T : String) (x : V) (H : Hp) : Prop := match x with
  | .str _ => T = "str"
  | .int _ => T = "int"
  | .ref p => (T = "list" ∧ ∃ xs, SqL K H p xs) ∨ (T = "tuple" ∧ ∃ o, K.lookup p = some o ∧ o.cls = .type "tuple" ∧ o.dict = none) ∨
      (T = "dict" ∧ ((∃ kvs, H p = some (.dK kvs)) ∨ ∃ kvs, H p = some (.dT kvs))) ∨ (T = "set" ∧ ∃ S n, H p = some (.set S n))
  | _ => False
theorem tyV_is {pins : List (Addr × Obj)} {σ : St} {H : Hp} {s : Shared} {T : String} {x : V} {v : Value} (I : Inv X pins σ H s) (r : RelV x v) (ty : tyV X.K T x H) :
    s.TypeIs v T ∧ ∀ a, v = .ref a → ∃ ob, s.heap.get? a = some ob ∧ ob.dict = none := by
  cases x with
  | str z =>
    obtain ⟨t, rfl⟩ := r
    cases (show T = "str" from ty)
    exact ⟨typeIs_str s z t, fun _ e => nomatch e⟩
  | int i =>
    obtain ⟨t, rfl⟩ := r
    cases (show T = "int" from ty)
    exact ⟨typeIs_int s i t, fun _ e => nomatch e⟩
  | ref p =>
    cases r
    rcases ty with ⟨rfl, xs, hq⟩ | ⟨rfl, o, hk, hc, hd⟩ | ⟨rfl, hk⟩ | ⟨rfl, S, n, hk⟩
    · obtain ⟨its, _, pl, _⟩ := I.list hq
      refine ⟨pl.isList.typeIs, fun a e => ?_⟩
      cases e
      obtain ⟨o, n, e, c, hd, _⟩ := pl
      exact ⟨o, e, hd⟩
    · refine ⟨⟨o, I.kIn p o hk, hc⟩, fun a e => ?_⟩
      cases e
      exact ⟨o, I.kIn _ o hk, hd⟩
    · have z : ∃ o, s.heap.get? p = some o ∧ o.ExactDict := by
        rcases hk with ⟨kvs, hk⟩ | ⟨kvs, hk⟩
        · obtain ⟨_, _, _, _, o, _, _, e, ex, _⟩ := I.hok p _ hk
          exact ⟨o, e, ex⟩
        · obtain ⟨_, _, _, _, o, _, _, e, ex, _⟩ := I.hok p _ hk
          exact ⟨o, e, ex⟩
      obtain ⟨o, e, ex⟩ := z
      refine ⟨⟨o, e, ex.1⟩, fun a e2 => ?_⟩
      cases e2
      exact ⟨o, e, ex.2.1⟩
    · obtain ⟨o, _, _, _, e, ex, _⟩ := I.hok p _ hk
      refine ⟨⟨o, e, ex.1⟩, fun a e2 => ?_⟩
      cases e2
      exact ⟨o, e, ex.2.1⟩
  | _ => exact False.elim ty
def tBM0 (K : PySem.W.Frag) (T : String) (r : V → List V → Hp → VK → Prop) (to : TE) : TE := fun σ H Q => to σ H fun x H1 => tyV K T x H1 ∧ r x [] H1 Q
def tBM (K : PySem.W.Frag) (T : String) (r : V → List V → Hp → VK → Prop) (to : TE) (t : TA) : TE := fun σ H Q => to σ H fun x H1 => tyV K T x H1 ∧ t σ H1 fun xs H2 => r x xs H2 Q
variable {o e : Expr} {es : List Expr} {to : TE} {t : TA} {name : Str} {apos cpos : Pos} {T id : String} {r : V → List V → Hp → VK → Prop}
theorem pe_bm0 (pa : PlainAttrs T) (slot : Slot T name id) (hty : typeOf (.builtin id) = pure (.type "method_descriptor")) (hm : MtR X id r) (ho : PE X o to)
    (hbase : attributeBase o name X.env (eval o X.env) = eval o X.env := by rfl) (hline : (apos.endLine == cpos.line) = true := by rfl) : PE X (.Call (.Attribute o name apos) [] [] cpos) (tBM0 X.K T r to) := by
  intro pins s σ H Q I h
  refine wpAny_Call_method0_late hbase hline (thn (ho pins s σ H _ I h) fun v s1 ⟨x, H1, I1, r1, ty, q1⟩ => ?_)
  obtain ⟨h1, h2⟩ := tyV_is I1 r1 ty
  exact ⟨T, id, pa, slot, hty, h1, h2, Calls.callWith_builtin rfl (PySem.evalArgs_none (hm pins s1 σ H1 x [] v [] Q I1 r1 .nil q1))⟩
theorem pe_bm (pa : PlainAttrs T) (slot : Slot T name id) (hty : typeOf (.builtin id) = pure (.type "method_descriptor")) (hm : MtR X id r) (ho : PE X o to) (ha : PA X (e :: es) t)
    (hbase : attributeBase o name X.env (eval o X.env) = eval o X.env := by rfl)
    (hfew : ((backTo cpos (starEach (e :: es) X.env)).all (fun x => !x.1) && (backToKw cpos (keywordEach [] X.env)).all (fun x => x.1.isSome)
      && decide ((e :: es).length + ([] : List Keyword).length + (if ([] : List Keyword).isEmpty then 0 else 1) < 30)) = true := by rfl)
    (hline : (apos.endLine == cpos.line) = true := by rfl) (hs : starEach (e :: es) X.env = (false, eval e X.env) :: starEach es X.env := by rfl) (hplain : (backTo cpos (starEach es X.env)).any (·.1) = false := by rfl) :
    PE X (.Call (.Attribute o name apos) (e :: es) [] cpos) (tBM X.K T r to t) := by
  intro pins s σ H Q I h
  refine wpAny_Call_method_late hbase hfew hline rfl (thn (ho pins s σ H _ I h) fun v s1 ⟨x, H1, I1, r1, ty, q1⟩ => ?_)
  obtain ⟨h1, h2⟩ := tyV_is I1 r1 ty
  refine ⟨T, id, pa, slot, hty, h1, h2, ?_⟩
  have hA := ha cpos pins s1 σ H1 _ I1 q1
  rw [hs] at hA ⊢
  refine Calls.callWith_builtin (by show (false || (backTo cpos (starEach es X.env)).any (·.1)) = false; rw [hplain] <;> rfl) (Calls.evalArgs_plain ?_)
  exact thn hA fun us s2 ⟨vs, H2, I2, r2, q2⟩ => hm pins s2 σ H2 x vs v us Q I2 r1 r2 q2
end
end L2
namespace L2
open PySem PySem.Spec PyProof.Rows
def MtM (X : Cx) (id : String) (r : V → List V → Hp → VK → Prop) : Prop :=
  ∀ (pins : List (Addr × Obj)) (s : Shared) (σ : St) (H : Hp) (x : V) (xs : List V) (v : Value) (us : List Value) (Q : VK), Inv X pins σ H s → RelV x v → Vals xs us → r x xs H Q →
    wpAny (model X.prog X.w) X.A (call (.builtin id) (v :: us)) (EP X pins σ Q) X.xe s
theorem Vals.one : ∀ {x : V} {us : List Value}, Vals [x] us → ∃ u, us = [u] ∧ RelV x u
  | _, _, .cons r .nil => ⟨_, rfl, r⟩
theorem Vals.zero : ∀ {us : List Value}, Vals [] us → us = []
  | _, .nil => rfl
theorem Vals.dropLast {xs : List V} {us : List Value} (h : Vals xs us) : Vals xs.dropLast us.dropLast := by
  induction h with
  | nil => exact .nil
  | cons r t ih =>
    cases t with
    | nil => exact .nil
    | cons q t' => exact .cons r ih
theorem Vals.eraseIdx : ∀ {xs : List V} {us : List Value} (i : Nat), Vals xs us → Vals (xs.eraseIdx i) (us.eraseIdx i)
  | _, _, _, .nil => .nil
  | _, _, 0, .cons _ t => t
  | _, _, i + 1, .cons r t => .cons r (Vals.eraseIdx i t)
theorem Vals.reverse {xs : List V} {us : List Value} (h : Vals xs us) : Vals xs.reverse us.reverse := by
  induction h with
  | nil => exact .nil
  | cons r t ih => rw [List.reverse_cons, List.reverse_cons]; exact Vals.append ih (.cons r .nil)
theorem Vals.rep {xs : List V} {us : List Value} (h : Vals xs us) : ∀ k : Nat, Vals (List.replicate k xs).flatten (List.replicate k us).flatten
  | 0 => .nil
  | k + 1 => by
    rw [List.replicate_succ, List.replicate_succ, List.flatten_cons, List.flatten_cons]
    exact Vals.append h (Vals.rep h k)
theorem erase_last {α : Type} (l : List α) : l.eraseIdx (l.length - 1) = l.dropLast := by
  induction l with
  | nil => rfl
  | cons a r ih =>
    cases r with
    | nil => rfl
    | cons b r =>
      have e : (a :: b :: r).length - 1 = ((b :: r).length - 1) + 1 := by
        have h1 : (a :: b :: r).length = r.length + 2 := rfl
        have h2 : (b :: r).length = r.length + 1 := rfl
        omega
      rw [e, List.eraseIdx_cons_succ, ih]
      all_goals rfl
theorem foldl_rep (its : List Value) : ∀ (k : Nat) (acc : List Value),
    List.foldl (fun x1 x2 => x1 ++ x2) acc.toArray (List.replicate k its.toArray) = (acc ++ (List.replicate k its).flatten).toArray
  | 0, acc => by simp
  | k + 1, acc => by
    have e : acc.toArray ++ its.toArray = (acc ++ its).toArray := by simp
    have e2 : (acc ++ its) ++ (List.replicate k its).flatten = acc ++ (List.replicate (k + 1) its).flatten := by
      rw [List.replicate_succ, List.flatten_cons, List.append_assoc]
    rw [← e2, ← foldl_rep its k (acc ++ its), ← e, List.replicate_succ, List.foldl_cons]
section
variable {X : Cx} {pins : List (Addr × Obj)} {σ : St} {H : Hp} {s : Shared} {l b : Addr} {xs ys zs : List V}
theorem Inv.lset {its its' : List Value} {n : Nat} {f : Array Value → Array Value} {t' : Nat} (I : Inv X pins σ H s) (hH : H l = some (.lst xs))
    (e : s.heap.get? l = some { cls := .type "list", data := .seq its.toArray n }) (hf : f its.toArray = its'.toArray) (hv : Vals ys its') (hz : ys.length ≤ sizeLine) :
    Inv X pins σ (upd H l (.lst ys)) { s with heap := s.heap.update l (Obj.mapSeq f), toks := t' } := by
  have q := PySem.IsL.update e f
  rw [hf] at q
  refine I.write (x := l) (e := l) (by rw [hH]; exact trivial) (.inl rfl) (fun b' u hb hu => (Heap.get?_update_other s.heap (Obj.mapSeq f) (Ne.symm hb)).trans hu) ⟨_, q⟩ ?_
  exact ⟨hz, its', _, hv, q⟩
theorem Inv.lnew {its : List Value} {t' : Nat} (I : Inv X pins σ H s) (hv : Vals ys its) (hz : ys.length ≤ sizeLine) :
    Inv X pins σ (upd H s.heap.objs.size (.lst ys)) { s with heap := s.heap.push { cls := .type "list", data := .seq its.toArray }, toks := t' } :=
  I.laid (fun _ _ q => Heap.get?_push_of_some _ q) (Nat.le_refl _) ⟨hz, its, 0, hv, Heap.get?_push_size _ rfl⟩
theorem Inv.fresh (I : Inv X pins σ H s) : H s.heap.objs.size = none := I.hok.fresh (Nat.le_refl _)
theorem Inv.lstM (I : Inv X pins σ H s) (hH : H l = some (.lst xs)) : xs.length ≤ sizeLine ∧ ∃ (its : List Value) (n : Nat), Vals xs its ∧ xs.length = its.length ∧ s.heap.get? l = some { cls := .type "list", data := .seq its.toArray n } := by
  obtain ⟨z, its, n, r, e⟩ := I.hok l _ hH
  exact ⟨z, its, n, r, r.length, e⟩
theorem notLongL {n : Nat} (h : n ≤ sizeLine) : Builtin.List.listTooLong n = false := by
  unfold Builtin.List.listTooLong
  exact decide_eq_false (by omega)
end
section
variable {X : Cx}
def rAppend : V → List V → Hp → VK → Prop := fun x vs H Q => ∃ l xs y, x = .ref l ∧ vs = [y] ∧ H l = some (.lst xs) ∧ xs.length < sizeLine ∧ Q .non (upd H l (.lst (xs ++ [y])))
theorem mt_append : MtM X "list.append" rAppend := by
  intro pins s σ H x vs v us Q I rx rv h
  obtain ⟨l, xs, y, rfl, rfl, hH, hz, q⟩ := h
  cases rx
  obtain ⟨u, rfl, ru⟩ := rv.one
  obtain ⟨z, its, n, r, hl, e⟩ := I.lstM hH
  refine call_meets F.slot_list_append ⟨_, e, rfl⟩ F.entry_list_append (F.args_list_append_2 _ _) (PySem.list_append l its.toArray n u (by rw [List.size_toArray]; omega)) ⟨e, ?_⟩
  refine ⟨.non, _, I.lset (its' := its ++ [u]) hH e (by simp) (r.append (.cons ru .nil)) ?_, rfl, q⟩
  rw [List.length_append, List.length_singleton]
  omega
def rPop : V → List V → Hp → VK → Prop := fun x vs H Q => ∃ l xs y, x = .ref l ∧ vs = [] ∧ H l = some (.lst xs) ∧ xs[xs.length - 1]? = some y ∧ Q y (upd H l (.lst xs.dropLast))
theorem mt_pop : MtM X "list.pop" rPop := by
  intro pins s σ H x vs v us Q I rx rv h
  obtain ⟨l, xs, y, rfl, rfl, hH, hy, q⟩ := h
  cases rx
  have hus := rv.zero
  subst hus
  obtain ⟨z, its, n, r, hl, e⟩ := I.lstM hH
  obtain ⟨u, hu, ru⟩ := r.get hy
  have hy' : its.toArray[its.toArray.size - 1]? = some u := by
    show its.toArray[its.length - 1]? = some u
    rw [← Array.getElem?_toList, ← hl]
    exact hu
  refine call_meets F.slot_list_pop ⟨_, e, rfl⟩ F.entry_list_pop (F.args_list_pop_1 _) (MeetsSeq.list_pop_last l its.toArray n u hy' (by rw [List.size_toArray]; omega)) ⟨e, ?_⟩
  refine ⟨y, _, I.lset (its' := its.dropLast) hH e ?_ r.dropLast ?_, ru, q⟩
  · show its.toArray.eraseIdxIfInBounds (its.toArray.size - 1) = its.dropLast.toArray
    rw [List.size_toArray, List.eraseIdxIfInBounds_toArray, erase_last]
  · rw [List.length_dropLast]
    omega
def rReverse : V → List V → Hp → VK → Prop := fun x vs H Q => ∃ l xs, x = .ref l ∧ vs = [] ∧ H l = some (.lst xs) ∧ Q .non (upd H l (.lst xs.reverse))
theorem mt_reverse : MtM X "list.reverse" rReverse := by
  intro pins s σ H x vs v us Q I rx rv h
  obtain ⟨l, xs, rfl, rfl, hH, q⟩ := h
  cases rx
  have hus := rv.zero
  subst hus
  obtain ⟨z, its, n, r, hl, e⟩ := I.lstM hH
  refine call_meets F.slot_list_reverse ⟨_, e, rfl⟩ F.entry_list_reverse (F.args_list_reverse_1 _) (AutoSeq1.list_reverse_list_0 l its.toArray n (by rw [List.size_toArray]; omega)) ⟨e, ?_⟩
  refine ⟨.non, _, I.lset (its' := its.reverse) hH e (by simp) r.reverse ?_, rfl, q⟩
  rw [List.length_reverse]
  omega
def rClear : V → List V → Hp → VK → Prop := fun x vs H Q => ∃ l xs, x = .ref l ∧ vs = [] ∧ H l = some (.lst xs) ∧ Q .non (upd H l (.lst []))
theorem mt_clear : MtM X "list.clear" rClear := by
  intro pins s σ H x vs v us Q I rx rv h
  obtain ⟨l, xs, rfl, rfl, hH, q⟩ := h
  cases rx
  have hus := rv.zero
  subst hus
  obtain ⟨z, its, n, r, hl, e⟩ := I.lstM hH
  refine call_meets F.slot_list_clear ⟨_, e, rfl⟩ F.entry_list_clear (F.args_list_clear_1 _) (AutoSeq1.list_clear_list_0 l its.toArray n (by rw [List.size_toArray]; omega)) ⟨e, ?_⟩
  exact ⟨.non, _, I.lset (its' := []) (ys := []) hH e rfl .nil (Nat.zero_le _), rfl, q⟩
def rRep : R2 := fun x y H Q => ∃ l k xs, x = .ref l ∧ y = .int k ∧ H l = some (.lst xs) ∧ -(2 ^ 63) ≤ k ∧ k < 2 ^ 63 ∧ xs.length * k.toNat ≤ sizeLine ∧
  ∀ p, H p = none → Q (.ref p) (upd H p (.lst (List.replicate k.toNat xs).flatten))
theorem len_rep {α : Type} (xs : List α) (k : Nat) : (List.replicate k xs).flatten.length = k * xs.length := by
  induction k with
  | zero => simp
  | succ k ih => rw [List.replicate_succ, List.flatten_cons, List.length_append, ih, Nat.succ_mul, Nat.add_comm]
theorem op_rep : OpR X (binaryOp .Mult) rRep := by
  intro pins s σ H x y v u Q I rx ry h
  obtain ⟨l, k, xs, rfl, rfl, hH, h1, h2, hz, q⟩ := h
  cases rx
  obtain ⟨t, rfl⟩ := ry
  obtain ⟨z, its, n, r, hl, e⟩ := I.lstM hH
  have hlen : its.toArray.size * k.toNat ≤ sizeLine := by rw [List.size_toArray, ← hl]; exact hz
  have hcap : ¬ its.toArray.size * k.toNat > (2 ^ 63 - 1) / 8 := by
    have : (sizeLine : Nat) ≤ (2 ^ 63 - 1) / 8 := by decide
    omega
  have hfit : ¬ (!Builtin.List.listFitsIndex k) = true := by
    rw [fitsIndex_both h1 h2]
    exact Bool.false_ne_true
  have hlong : ¬ Builtin.List.listTooLong (its.toArray.size * k.toNat) = true := by
    rw [notLongL hlen]
    exact Bool.false_ne_true
  have hnew : List.foldl (fun x1 x2 => x1 ++ x2) #[] (List.replicate (if its.toArray.isEmpty = true then 0 else k.toNat) its.toArray) = (List.replicate k.toNat its).flatten.toArray := by
    have f0 : ∀ m : Nat, List.foldl (fun x1 x2 => x1 ++ x2) #[] (List.replicate m its.toArray) = (List.replicate m its).flatten.toArray := fun m => by
      have := foldl_rep its m []
      rw [List.nil_append] at this
      exact this
    rw [f0]
    cases its with
    | nil => simp
    | cons a r' => rw [if_neg (by simp)]
  refine wpAny_binaryOp_repeat_ref (T := "list") (U := "int") (by decide) ⟨_, e, rfl⟩ (fun s' => typeIs_int s' k t) noFill_list_mul F.fills_int_mul F.slot_int_rmul repeat_list F.slot_int_index.lookup
    (call_meets F.slot_int_rmul (typeIs_int s k t) F.entry_int_rmul (F.args_int_rmul_2 _ _) (int___rmul___int_list k t l its.toArray n)
      ⟨e, rfl, ⟨_, e, rfl⟩, call_meets F.slot_list_mul ⟨_, e, rfl⟩ F.entry_list_mul (F.args_list_mul_2 _ _) (AutoListH.list___mul___list_int_3 l its.toArray n k t hfit hcap hlong) ⟨e, ?_⟩⟩)
  rw [hnew]
  exact ⟨.ref _, _, I.lnew (t' := s.toks) (r.rep k.toNat) (by rw [len_rep, Nat.mul_comm]; exact hz), rfl, q _ I.fresh⟩
end
section
variable {prog : Program} {w : World} {A : Around} {E : Value → Shared → Prop} {s : Shared}
set_option maxRecDepth 100000 in
end
section
variable {X : Cx}
end
end L2
namespace Att
open PySem PySem.W PySem.Calls PyProof.Rows
theorem ints_of_wellAll {P : Params} {h : Heap} : ∀ (ns : List Int) (vs : List Value), WellAll P h vs (ns.map WData.int) → IntsAre vs ns := by
  intro ns
  induction ns with
  | nil =>
    intro vs w
    rw [List.map_nil] at w
    cases w
    exact .nil
  | cons n ns ih =>
    intro vs w
    rw [List.map_cons] at w
    cases w with
    | cons a b =>
      cases a
      exact .cons _ _ (ih _ b)
theorem script_of {l : OpenLaw} {n : Nat} (hn : l.most = some n) {P : Params} {h : Heap} {args : List WData} {vals : List Value}
    (hpre : l.row.toRowW.claim.pre args = true) (hwl : WellAll P h vals args) :
    ∃ a vs ns, vals = [Value.ref a] ∧ args = [WData.list (ns.map WData.int)] ∧ h.get? a = some { cls := .type "list", data := .seq vs.toArray } ∧ IntsAre vs ns ∧ ns.length ≤ n := by
  have hsh : WShape.hasAll [] args [.list .int] = true := (pre_splitW hpre).1
  have hc : l.pre.holds [] { args := args } = true := (pre_splitW hpre).2
  obtain ⟨d, r, rfl, h1, h2⟩ := hasAllW_cons hsh
  obtain rfl := hasAllW_nil h2
  obtain ⟨xs, rfl, h3⟩ := hasW_list h1
  obtain ⟨ns, rfl⟩ := items_int h3
  have hlen : ns.length ≤ n := by
    unfold OpenLaw.pre at hc
    have h4 : (WTm.not (.lt (.lit (.int (n : Int))) (.len (.arg 0)))).holds [] { args := [.list (ns.map .int)] } = true := by
      have h4 := (holds_andW hc).1
      rw [hn] at h4
      exact h4
    have h5 := condW_of h4 (w_not (w_lt w_lit (w_len_list (w_arg rfl))))
    rw [List.length_map] at h5
    refine Nat.le_of_not_lt fun q => ?_
    have q' : (n : Int) < ((ns.length : Nat) : Int) := by omega
    first
      | (rw [decide_eq_true q'] at h5; exact absurd h5 (by decide))
      | (simp at h5; omega)
  cases hwl with
  | cons w1 w2 =>
    cases w2
    cases w1 with
    | list ho hall => exact ⟨_, _, ns, rfl, rfl, ho, ints_of_wellAll ns _ hall, hlen⟩
theorem post_true (l : OpenLaw) (args : List WData) : l.row.toRowW.claim.post args (.bool true) args = true :=
  postW_of (r := l.row.toRowW) (X := (true == true))
    (show WShape.has [] (.bool true) .bool = true by first | rfl | decide | simp [WShape.has, WShape.arms, WShape.armsAll])
    (show (WTm.eq .res (.lit (.bool true))).value [] { args := args, res := some (.bool true), after := args } = some (.bool (true == true)) from w_eq_bool (w_res rfl) w_lit) rfl
section
variable {prog : Program} {w : World} {A : Around} {E : Value → Shared → Prop} {s : Shared} {K : Frag}
end
end Att
namespace L2
open PySem PySem.Spec PyProof.Rows
theorem vals_ints : ∀ {vs : List Value} {ns : List Int}, IntsAre vs ns → Vals (ns.map V.int) vs
  | _, _, .nil => .nil
  | _, _, .cons n t h => .cons ⟨t, rfl⟩ (vals_ints h)
def Only (H : Hp) : Prop := ∀ b, H b = none ∨ ∃ o xs, H b = some (.frz o (.lst xs))
theorem law_call {P : Program} {w : World} {K : PySem.W.Frag} {mg mb : Str → Option Value} {CX : CXT} {k : Nat} {fa a : Addr} {fd : FuncData} {x : Str} {sp : Sp} {s₁ : Shared} {vs : List Value} {ns : List Int}
    (KX : K.In s₁.heap) (hns : s₁.heap.Ns mainGlobals mg) (hb : s₁.heap.Ns builtinsNs mb) (hbb : ∀ x : Str, x ≠ "__name__" → mb x = bootBuiltins x) (hlim : s₁.heap.NoLimit) (hg : s₁.gens = #[])
    (ha : s₁.heap.get? a = some { cls := .type "list", data := .seq vs.toArray }) (hi : IntsAre vs ns) (hl : ns.length ≤ sizeLine) (hr : Room k callerA)
    (F : ∀ base : Heap, K.In base → base.Ns mainGlobals mg → FnOk P w K mg base CX k fa fd [x] sp) (hbind : ∀ (s : Shared) (u : Value), BindsTo s fd ⟨[u], []⟩ [(x, u)])
    (hsp : ∀ H : Hp, Only H → SqL K H a (ns.map V.int) → sp [.ref a] H (fun v _ => v = .bl true) fun _ _ _ => False)
    (hCX : ∀ H e s', CX [] H s₁ (fun _ _ _ => False) e s' → False) :
    codeAny (model P w) callerA (.call (.ref fa) ⟨[.ref a], []⟩) (fun r s' => r = .ok (.ret (.bool true)) ∧ OldK s₁.heap s'.heap ∧ s'.os = s₁.os ∧ AllBare s'.gens) s₁ := by
  have rv := vals_ints hi
  have lenV := hi.length
  have core : ∀ H : Hp, Only H → SqL K H a (ns.map V.int) → HOk P w H s₁.heap → (∀ b, H b ≠ none → b = a) → (H a ≠ none → K.lookup a = none) →
      codeAny (model P w) callerA (.call (.ref fa) ⟨[.ref a], []⟩) (fun r s' => r = .ok (.ret (.bool true)) ∧ OldK s₁.heap s'.heap ∧ s'.os = s₁.os ∧ AllBare s'.gens) s₁ := by
    intro H hO hS hok hA hK
    have base_of : ∀ {b : Addr} {o : Obj}, s₁.heap.get? b = some o → H b = none → (hidT s₁.heap H).get? b = some o := fun e n => hidT_get e n
    have noA : ∀ {b : Addr} {o : Obj} {es : Array DictEntry} {ep : Nat}, s₁.heap.get? b = some o → o.data = .dict es ep → H b = none := fun {b o es ep} e d => by
      cases q : H b with
      | none => rfl
      | some u =>
        have e' : b = a := hA b (by rw [q]; simp)
        subst e'
        rw [ha] at e; cases e
        have d' : Data.seq vs.toArray _ = Data.dict es ep := d
        cases d'
    have nsK : ∀ {b : Addr} {m : Str → Option Value}, s₁.heap.Ns b m → (hidT s₁.heap H).Ns b m := fun {b m} ⟨o, es, ep, e, d, r⟩ => ⟨o, es, ep, base_of e (noA e d), d, r⟩
    have hKb : K.In (hidT s₁.heap H) := fun b o e => base_of (KX b o e) (by
      cases q : H b with
      | none => rfl
      | some u =>
        have e' : b = a := hA b (by rw [q]; simp)
        subst e'
        rw [hK (by rw [q]; simp)] at e; cases e)
    have hM : Mod K mg (hidT s₁.heap H) := ⟨hKb, nsK hns, ⟨mb, nsK hb, hbb⟩, let ⟨mc, h1, h2⟩ := hlim; ⟨mc, nsK h1, h2⟩⟩
    have e0 : Env0 P w K mg (hidT s₁.heap H) callerA [] s₁ H := ⟨rfl, hM, fun b o e => of_hidT e, Nat.le_of_eq (hidT_size _ _), trivial, fun b hb => absurd (show b ∈ ([] : List Addr) from hb) (by simp), hok, .of_eq hg⟩
    refine codeAny_mono ((F _ hKb (nsK hns)).run callerA [] s₁ H ⟨[.ref a], []⟩ [.ref a] [.ref a] _ _ hr e0 (hbind s₁ (.ref a)) (.cons rfl .nil) (hsp H hO hS)) fun r s' h => ?_
    cases r with
    | error e => exact (hCX H e s' h).elim
    | ok fl =>
      cases fl with
      | next => exact False.elim h
      | brk => exact False.elim h
      | cont => exact False.elim h
      | ret u =>
        obtain ⟨v, H', os, bare, un, hok', r', q⟩ := h
        have q' : v = .bl true := q
        subst q'
        obtain rfl : u = Value.bool true := r'
        refine ⟨rfl, OldK.of_keep fun b o e => ?_, os, bare⟩
        cases q : H b with
        | none => exact un.keep b o e q (by intro z; exact absurd (show b ∈ ([] : List Addr) from z) (by simp)) (by simp)
        | some u =>
          rcases hO b with z | ⟨ob, xs, z⟩
          · rw [q] at z; cases z
          · have z2 := un.frzs b ob _ z
            obtain ⟨e1, _⟩ := hok b _ z
            obtain ⟨e2, _⟩ := hok' b _ z2
            rw [e] at e1; cases e1
            exact e2
  cases hk : K.lookup a with
  | some o =>
    have e := KX a o hk
    rw [ha] at e
    cases e
    refine core (fun _ => none) (fun _ => .inl rfl) (.inr ⟨_, vs.toArray, _, hk, rfl, rfl, rfl, by rw [List.size_toArray, lenV]; exact hl, by simpa using rv⟩) (fun b u z => by have z' : (none : Option HO) = some u := z; cases z') (fun b z => absurd rfl z) fun z => absurd rfl z
  | none =>
    refine core (fun b => if b = a then some (.frz { cls := .type "list", data := .seq vs.toArray } (.lst (ns.map V.int))) else none) (fun b => ?_) (.inl (.inr ⟨{ cls := .type "list", data := .seq vs.toArray }, if_pos rfl⟩)) (fun b u z => ?_) (fun b z => ?_) fun _ => hk
    · by_cases hb : b = a
      · exact .inr ⟨_, _, if_pos hb⟩
      · exact .inl (if_neg hb)
    · by_cases hb : b = a
      · have z' := (if_pos hb).symm.trans z
        cases z'
        subst hb
        exact ⟨ha, by rw [List.length_map]; exact hl, vs, _, rv, ha⟩
      · have z' := (if_neg hb).symm.trans z
        cases z'
    · by_cases hb : b = a
      · exact hb
      · exact absurd (if_neg hb) z
end L2
namespace L2
open PySem PySem.Spec PyProof.Rows
abbrev KOf {K : PySem.W.Frag} {h : Heap} (_ : K.In h) : PySem.W.Frag := K
end L2
namespace L2
open PySem PySem.Spec PyProof.Rows
def defArgs (s : Stmt) : Arguments := match s with
  | .FunctionDef _ a _ _ _ _ _ _ _ _ => a
  | _ => { posonlyargs := [], args := [], vararg := none, kwonlyargs := [], kw_defaults := [], kwarg := none, defaults := [] }
def defBody (s : Stmt) : List Stmt := match s with
  | .FunctionDef _ _ b _ _ _ _ _ _ _ => b
  | _ => []
def defScope (s : Stmt) : Scope := match s with
  | .FunctionDef _ _ _ _ _ _ sc _ _ _ => sc
  | _ => { kind := .function, names := [], isGenerator := false, isCoroutine := false }
abbrev CX0 : CXT := fun _ _ _ _ _ _ => False
abbrev E0 : XK := fun _ _ _ => False
theorem pass0 {X : Cx} : Passes CX0 X E0 := fun _ _ _ _ _ _ _ h => h.elim
structure Fun (K : PySem.W.Frag) (x qual : Str) (st : Stmt) (f : Addr) (fd : FuncData) : Prop where
  ex : ∃ (oc : Value) (od : Option Addr) (kV doc pm : Value) (an : Option Addr) (cdv ct : Value) (osl : Array (Option Value)),
    fd = PySem.W.fnOf x qual (defArgs st) (defBody st) (defScope st) .none kV doc pm an cdv ct ∧ K.lookup f = some ⟨oc, od, .func fd, osl⟩ ∧ PySem.W.codeIn K cdv qual = true
  kp : PySem.W.keepIn K (.ref f) = true
section
variable {P : Program} {w : World} {K : PySem.W.Frag} {mg : Str → Option Value} {base : Heap}
theorem Fun.ok {x qual : Str} {st : Stmt} {f : Addr} {fd : FuncData} {N ps : List Str} {k : Nat} {sp : Sp} (F : Fun K x qual st f fd) (S : FnScope N ps (defScope st)) (len : ∀ vs H Q E, sp vs H Q E → vs.length = ps.length)
    (hbody : ∀ (cdv : Value) (A : Around) (outer : List Env) (s : Shared) (H : Hp) (vs : List V) (Q : VK) (E : XK), Room k (A.deeper (envOfC qual (defScope st) s.heap.objs.size f cdv)) → sp vs H Q E →
      ∃ t, PSs (cxOf CX0 P w K mg base N qual (defScope st) f cdv A outer s H E).nox (defBody st) t ∧ t { nx := fun _ H' => Q .non H', rt := Q } (start N vs) H) : FnOk P w K mg base CX0 (k + 1) f fd ps sp := by
  obtain ⟨oc, od, kV, doc, pm, an, cdv, ct, osl, rfl, lk, hcd⟩ := F.ex
  refine fn_of lk hcd S len fun A outer s H vs Q E hr hsp => ?_
  obtain ⟨t, h, q⟩ := hbody cdv A outer s H vs Q E hr hsp
  exact ⟨t, h.nox, q⟩
theorem Fun.binds {x qual : Str} {st : Stmt} {f : Addr} {fd : FuncData} {ps : List Str} (F : Fun K x qual st f fd)
    (h : ∀ (kV doc pm : Value) (an : Option Addr) (cdv ct : Value) (us : List Value), us.length = ps.length → bindArgs (PySem.W.fnOf x qual (defArgs st) (defBody st) (defScope st) .none kV doc pm an cdv ct) ⟨us, []⟩ = pure (ps.zip us)) : Binds K fd ps [] := by
  obtain ⟨oc, od, kV, doc, pm, an, cdv, ct, osl, rfl, lk, hcd⟩ := F.ex
  exact .all (h kV doc pm an cdv ct)
theorem fun_mk {x qual : Str} {st : Stmt} {f : Addr} {oc : Value} {od an : Option Addr} {osl : Array (Option Value)} {kV doc pm cdv ct : Value} (l : K.lookup f = some ⟨oc, od, .func (PySem.W.fnOf x qual (defArgs st) (defBody st) (defScope st) .none kV doc pm an cdv ct), osl⟩)
    (c : PySem.W.codeIn K cdv qual = true) (k : PySem.W.keepIn K (.ref f) = true) : Fun K x qual st f (PySem.W.fnOf x qual (defArgs st) (defBody st) (defScope st) .none kV doc pm an cdv ct) := ⟨⟨oc, od, kV, doc, pm, an, cdv, ct, osl, rfl, l, c⟩, k⟩
end
section
variable {X : Cx}
theorem pv (i : Nat) {x : Str} {pos : Pos} (hN : X.N[i]? = some x := by rfl) (hv : Vis X.env.scope x := by first | exact Or.inl rfl | exact Or.inr (Or.inl rfl) | exact Or.inr (Or.inr rfl)) (hd : (x == ("__debug__" : Str)) = false := by decide)
    (hcd : (x == ("__classdict__" : Str)) = false := by decide) : PE X (.Name x pos) (tVar i) := pe_var hN hv hd hcd
end
def Same (H H' : Hp) : Prop := ∀ b o, H b = some o → H' b = some o
theorem Same.refl (H : Hp) : Same H H := fun _ _ h => h
theorem Same.trans {H H1 H2 : Hp} (a : Same H H1) (b : Same H1 H2) : Same H H2 := fun c o h => b c o (a c o h)
theorem Same.free {H H' : Hp} (e : Same H H') {l : Addr} (h : H' l = Option.none) : H l = Option.none := by
  cases q : H l with
  | none => rfl
  | some o =>
    rw [e l o q] at h
    cases h
theorem Same.seq {K : PySem.W.Frag} {H H' : Hp} {a : Addr} {xs : List V} (e : Same H H') (h : SqL K H a xs) : SqL K H' a xs := by
  rcases h with (h | ⟨o, h⟩) | h
  · exact .inl (.inl (e _ _ h))
  · exact .inl (.inr ⟨o, e _ _ h⟩)
  · exact .inr h
end L2
set_option Elab.async false
set_option linter.all false
set_option maxRecDepth 100000
namespace L2
open PySem PySem.Spec PyProof.Rows
theorem Inv.track {X : Cx} {pins : List (Addr × Obj)} {σ : St} {H : Hp} {s : Shared} {D : Addr} {o : HO} (I : Inv X pins σ H s) (hn : H D = none) (hD : X.s₀.heap.objs.size ≤ D) (hL : D ≠ X.env.locals)
    (hc : ∀ x c, X.env.cells.lookup x = some c → c ≠ D) (hp : ∀ p ∈ X.pn ++ pins, p.1 ≠ D) (new : ObjOk X.prog X.w (upd H D o) s.heap D o) : Inv X pins σ (upd H D o) s := by
  have ne : ∀ b u, H b = some u → b ≠ D := fun b u e => ne_of_none e hn
  refine ⟨I.ok, I.os, I.bare, ⟨I.base.keep, I.base.slot, fun b ob e n hx => ?_, I.base.there, fun b xs e => ?_, fun b ob u e => ?_, fun b ps e => ?_⟩, I.loc, I.cell, ?_, fun x c e => ?_, fun p q => ?_, fun b u e => ?_, I.len⟩
  · have : b ≠ D := Nat.ne_of_lt (Nat.lt_of_lt_of_le (Heap.lt_size e) hD)
    rw [upd_ne this]; exact I.base.free b ob e n hx
  · have z := I.base.tups b xs e
    rw [upd_ne (ne _ _ z)]; exact z
  · have z := I.base.frzs b ob u e
    rw [upd_ne (ne _ _ z)]; exact z
  · obtain ⟨more, z⟩ := I.base.tbls b ps e
    exact ⟨more, by rw [upd_ne (ne _ _ z)]; exact z⟩
  · rw [upd_ne (Ne.symm hL)]; exact I.free
  · rw [upd_ne (hc x c e)]; exact I.freeC x c e
  · obtain ⟨h1, h2, h3⟩ := I.pin p q
    exact ⟨h1, by rw [upd_ne (hp p q)]; exact h2, h3⟩
  · by_cases hb : b = D
    · subst hb; rw [upd_same] at e; cases e; exact new
    · rw [upd_ne hb] at e
      exact (I.hok b u e).stay (fun _ _ _ q => q) (fun c q => by rw [upd_ne (ne _ _ q)]; exact q) fun c xs q => by rw [upd_ne (ne _ _ q)]; exact q
def cloOf (cells : List (Str × Addr)) : List (Str × NameKind) → List (Str × Addr) → List (Str × Addr)
  | [], acc => acc
  | (n, k) :: r, acc => cloOf cells r (if (k == NameKind.free) = true then (n, (cells.lookup n).getD 0) :: acc else acc)
theorem clo_run {env : Env} : ∀ (names : List (Str × NameKind)) (acc : List (Str × Addr)), (∀ y ∈ names, y.2 = .free → ∃ c, env.cells.lookup y.1 = some c) →
    (forIn names acc fun (x : Str × NameKind) (r : List (Str × Addr)) => (if (x.2 == NameKind.free) = true then do
        let c ← cellOf env x.1
        pure (ForInStep.yield ((x.1, c) :: r)) else pure (ForInStep.yield r) : Sem (ForInStep (List (Str × Addr))))) = pure (cloOf env.cells names acc)
  | [], acc, _ => rfl
  | (n, k) :: r, acc, h => by
    have ih := fun acc' => clo_run (env := env) r acc' fun y hy => h y (List.mem_cons_of_mem _ hy)
    rw [List.forIn_cons]
    by_cases hk : k = .free
    · subst hk
      obtain ⟨c, hc⟩ := h (n, .free) List.mem_cons_self rfl
      have hc' : env.cells.lookup n = some c := hc
      have e : cellOf env n = pure c := by
        unfold cellOf
        rw [hc']
      show (if (NameKind.free == NameKind.free) = true then _ else _) >>= _ = _
      rw [if_pos (by decide), e]
      simp only [pure_bind]
      rw [ih]
      simp only [cloOf, hc', Option.getD_some]
      rfl
    · have hb : (k == NameKind.free) = false := by simpa using hk
      show (if (k == NameKind.free) = true then _ else _) >>= _ = _
      rw [hb, if_neg Bool.false_ne_true]
      simp only [pure_bind]
      rw [ih]
      simp only [cloOf, hb, Bool.false_eq_true, if_false]
theorem clo_eq {scope : Scope} {env : Env} (h : ∀ y ∈ scope.names, y.2 = .free → ∃ c, env.cells.lookup y.1 = some c) : closureFor scope env = pure (cloOf env.cells scope.names []) := by
  unfold closureFor
  have e := clo_run (env := env) scope.names [] h
  simp only [bind_pure]
  exact e
theorem clo_sub {cells : List (Str × Addr)} : ∀ (names : List (Str × NameKind)) (acc : List (Str × Addr)), (∀ y ∈ names, y.2 = .free → ∃ c, cells.lookup y.1 = some c) → (∀ y c, acc.lookup y = some c → cells.lookup y = some c) →
    ∀ y c, (cloOf cells names acc).lookup y = some c → cells.lookup y = some c
  | [], _, _, ha => ha
  | (n, k) :: r, acc, h, ha => by
    refine clo_sub r _ (fun y hy => h y (List.mem_cons_of_mem _ hy)) fun y c e => ?_
    by_cases hk : (k == NameKind.free) = true
    · rw [if_pos hk] at e
      obtain ⟨c', hc⟩ := h (n, k) List.mem_cons_self (by simpa using hk)
      have hc' : cells.lookup n = some c' := hc
      rw [hc', Option.getD_some] at e
      rw [List.lookup_cons] at e
      by_cases hy : (y == n) = true
      · rw [hy] at e
        have : y = n := by simpa using hy
        subst this
        rw [hc']; exact e
      · have hy' : (y == n) = false := by simpa using hy
        rw [hy'] at e
        exact ha y c e
    · rw [if_neg hk] at e
      exact ha y c e
theorem clo_has {cells : List (Str × Addr)} : ∀ (names : List (Str × NameKind)) (acc : List (Str × Addr)) (y : Str), ((y, NameKind.free) ∈ names ∨ ∃ c, acc.lookup y = some c) → ∃ c, (cloOf cells names acc).lookup y = some c
  | [], acc, y, h => by
    rcases h with h | h
    · cases h
    · exact h
  | (n, k) :: r, acc, y, h => by
    refine clo_has r _ y ?_
    rcases h with h | ⟨c, h⟩
    · rcases List.mem_cons.mp h with e | h
      · cases e
        refine .inr ⟨(cells.lookup n).getD 0, ?_⟩
        rw [if_pos (by decide), List.lookup_cons]
        simp
      · exact .inl h
    · refine .inr ?_
      split
      · rw [List.lookup_cons]
        cases y == n with
        | true => exact ⟨_, rfl⟩
        | false => exact ⟨c, h⟩
      · exact ⟨c, h⟩
theorem relabel_lookup (env : Env) : ∀ (names : List (Str × NameKind)) (y : Str),
    (names.map fun (n, k) => if (k == NameKind.free && env.scope.kind == .function && env.kindOf n == some .cell) then (n, NameKind.cell) else (n, k)).lookup y
      = (names.lookup y).map fun k => if (k == NameKind.free && env.scope.kind == .function && env.kindOf y == some .cell) = true then NameKind.cell else k
  | [], _ => rfl
  | (n, k) :: r, y => by
    have ih := relabel_lookup env r y
    show List.lookup y ((if (k == NameKind.free && env.scope.kind == .function && env.kindOf n == some .cell) = true then (n, NameKind.cell) else (n, k)) :: _) = _
    by_cases hy : (y == n) = true
    · have : y = n := by simpa using hy
      subst this
      by_cases hc : (k == NameKind.free && env.scope.kind == .function && env.kindOf y == some .cell) = true
      · rw [if_pos hc]; simp only [List.lookup_cons, hy, Option.map_some, hc, if_true]
      · rw [if_neg hc]; simp only [List.lookup_cons, hy, Option.map_some, hc]; simp
    · have hy' : (y == n) = false := by simpa using hy
      by_cases hc : (k == NameKind.free && env.scope.kind == .function && env.kindOf n == some .cell) = true
      · rw [if_pos hc]; simp only [List.lookup_cons, hy']; exact ih
      · rw [if_neg hc]; simp only [List.lookup_cons, hy']; exact ih
def cxComp (X : Cx) (scope : Scope) (N' : List Str) (s₂ : Shared) (H₂ : Hp) (C : Addr) (fp : List Addr) : Cx :=
  { X with N := N', s₀ := s₂, H₀ := H₂, env := compEnvC scope (cloOf X.env.cells scope.names []) C X.env, outer := X.stack, ex := fp, fn := fun _ => false, pn := [], xe := fun _ _ => False }
def compNs (x : Str) (fr : List (Str × Nat)) : List Str := x :: fr.map (·.1)
def compRest (σ : St) (fr : List (Str × Nat)) : St := fr.map fun p => σ.getD p.2 none
structure Blk (X : Cx) (scope : Scope) (x : Str) (fr : List (Str × Nat)) : Prop where
  nocell : (scope.names.all fun y => y.2 != .cell) = true
  kind : scope.kind = .function
  names : (scope.names.all fun y => y.2 != .local || scope.names.lookup y.1 == some .local) = true
  here : scope.names.lookup x = some .local
  free : (scope.names.all fun y => y.2 != .free || X.env.scope.names.lookup y.1 == some .cell) = true
  seen : (fr.all fun p => scope.names.lookup p.1 == some .free && X.N[p.2]? == some p.1) = true
  nd : (compNs x fr).Nodup
section
variable {X : Cx} {scope : Scope} {x : Str} {fr : List (Str × Nat)} {pins : List (Addr × Obj)} {σ : St} {H : Hp} {s : Shared}
theorem Blk.cell (B : Blk X scope x fr) : ∀ y ∈ scope.names, y.2 ≠ .cell := fun y hy => by
  have := List.all_eq_true.mp B.nocell y hy
  simpa using this
theorem Blk.loc (B : Blk X scope x fr) : ∀ y ∈ scope.names, y.2 = .local → scope.names.lookup y.1 = some .local := fun y hy e => by
  have := List.all_eq_true.mp B.names y hy
  rw [e] at this
  simpa using this
theorem Blk.frees (B : Blk X scope x fr) : ∀ y ∈ scope.names, y.2 = .free → X.env.kindOf y.1 = some .cell := fun y hy e => by
  have := List.all_eq_true.mp B.free y hy
  rw [e] at this
  have h : X.env.scope.names.lookup y.1 = some .cell := by simpa using this
  exact h
theorem Blk.clos (B : Blk X scope x fr) (ok : X.Ok) : ∀ y ∈ scope.names, y.2 = .free → ∃ c, X.env.cells.lookup y.1 = some c := fun y hy e => ok.has y.1 (.inl (B.frees y hy e))
theorem Blk.sub (B : Blk X scope x fr) (ok : X.Ok) : ∀ y c, (cloOf X.env.cells scope.names []).lookup y = some c → X.env.cells.lookup y = some c :=
  clo_sub scope.names [] (B.clos ok) fun y c e => by simp at e
theorem Blk.kinds (B : Blk X scope x fr) {y : Str} (h : (relabel scope X.env).names.lookup y = some .cell ∨ (relabel scope X.env).names.lookup y = some .free) : (y, NameKind.free) ∈ scope.names := by
  have e : (relabel scope X.env).names.lookup y = _ := relabel_lookup X.env scope.names y
  rw [e] at h
  cases q : scope.names.lookup y with
  | none => rw [q] at h; simp at h
  | some k =>
    have hm := PySem.mem_of_lookup q
    rw [q] at h
    have hk : k = .free := by
      by_cases hk : k = .free
      · exact hk
      · have hb : (k == NameKind.free) = false := by simpa using hk
        have hc : k ≠ .cell := B.cell _ hm
        rw [Option.map_some, hb, Bool.false_and, Bool.false_and, if_neg Bool.false_ne_true] at h
        rcases h with h | h
        · exact absurd (Option.some.inj h) hc
        · exact Option.some.inj h
    subst hk
    exact hm
theorem Blk.sees (B : Blk X scope x fr) (hk : X.env.scope.kind = .function) {y : Str} (h : scope.names.lookup y = some .free) : (relabel scope X.env).names.lookup y = some .cell := by
  have e : (relabel scope X.env).names.lookup y = _ := relabel_lookup X.env scope.names y
  rw [e, h]
  have h2 : X.env.kindOf y = some .cell := B.frees _ (PySem.mem_of_lookup h) rfl
  simp [hk, h2]
theorem inv_comp (I : Inv X pins σ H s) (B : Blk X scope x fr) {C : Addr} {fp : List Addr} {h₁ : Heap} {tk : Nat} {o : Option V} (hC : s.heap.objs.size ≤ C) (hfp : ∀ b ∈ fp, FpOk X pins H b) (hlt : ∀ b ∈ fp, b < s.heap.objs.size)
    (old : ∀ b ob, s.heap.get? b = some ob → h₁.get? b = some ob) (hns : h₁.Ns C fun _ => none) : Inv (cxComp X scope (compNs x fr) s H C fp) [] (none :: compRest σ fr) H { s with heap := h₁, toks := tk } := by
  have neC : ∀ b, b < s.heap.objs.size → b ≠ C := fun b hb => Nat.ne_of_lt (Nat.lt_of_lt_of_le hb hC)
  have cl : ∀ y c, X.env.cells.lookup y = some c → c < s.heap.objs.size := fun y c e => by
    obtain ⟨v, o, ho, _⟩ := I.cell y c e
    exact Heap.lt_size ho
  refine ⟨⟨I.ok.mod, B.kind, I.ok.glob, I.ok.blt, hC, fun y z c h1 h2 => I.ok.inj y z c (B.sub I.ok _ _ h1) (B.sub I.ok _ _ h2), fun y hy => clo_has _ _ _ (.inl (B.kinds hy)), fun y c h _ => (Bool.false_ne_true h).elim, I.ok.hd, I.ok.frames, .inl rfl,
    fun b hb => ⟨neC b (hlt b hb), fun y c e => (hfp b hb).2.2.2.2.1 y c (B.sub I.ok _ _ e)⟩, I.bs, Nat.le_trans I.ok.bsz I.sz, fun b ob e hb => ?_, fun b hb hs => ?_, I.stack, I.stkFree⟩,
    rfl, I.bare, Un.kept old, ⟨_, hns, fun i y v h1 h2 h3 => ?_⟩, fun y c e => ?_, I.hok.fresh hC, fun y c e => I.freeC y c (B.sub I.ok _ _ e), fun p hp => ?_, I.hok.kept old, ?_⟩
  · rcases (hfp b hb).2.2.2.1 with z | z
    · exact I.ok.noex b ob e z
    · have h1 : b < X.base.objs.size := Heap.lt_size e
      have h2 := I.ok.bsz
      exact absurd (Nat.lt_of_lt_of_le h1 h2) (Nat.not_lt.mpr z)
  · have z := I.stkSub b hs
    rcases List.mem_cons.mp z with z | z
    · exact (hfp b hb).2.1 z
    · exact (hfp b hb).2.2.1 z
  · cases i with
    | zero => simp at h2
    | succ i =>
      have h1' : (fr.map (·.1))[i]? = some y := by
        have z : (x :: fr.map (·.1))[i + 1]? = some y := h1
        rw [List.getElem?_cons_succ] at z
        exact z
      have h2' : (compRest σ fr)[i]? = some (some v) := by simpa using h2
      rw [List.getElem?_map] at h1'
      unfold compRest at h2'
      rw [List.getElem?_map] at h2'
      cases e : fr[i]? with
      | none => rw [e] at h1'; cases h1'
      | some p =>
        rw [e] at h1' h2'
        have e1 : p.1 = y := by simpa using h1'
        have e2 : σ.getD p.2 none = some v := by simpa using h2'
        have hs := List.all_eq_true.mp B.seen p (List.mem_of_getElem? e)
        rw [Bool.and_eq_true] at hs
        have hs1 : scope.names.lookup p.1 = some .free := by simpa using hs.1
        have hs2 : X.N[p.2]? = some p.1 := by simpa using hs.2
        rw [e1] at hs1 hs2
        have hk : X.env.kindOf y = some .cell := B.frees _ (PySem.mem_of_lookup hs1) rfl
        have e3 : σ[p.2]? = some (some v) := by
          rw [List.getD_eq_getElem?_getD] at e2
          cases q : σ[p.2]? with
          | none => rw [q] at e2; simp at e2
          | some z => rw [q] at e2; simp at e2; rw [e2]
        obtain ⟨m, hn, hl⟩ := I.loc
        obtain ⟨u, r, l⟩ := hl p.2 y v hs2 e3 (.inr (.inl hk))
        refine ⟨u, r, .inr ⟨.inl (B.sees I.ok.kind hs1), ?_⟩⟩
        rcases l with ⟨z, _⟩ | ⟨_, c, ec, z⟩
        · rw [hk] at z; cases z
        · obtain ⟨c', hc'⟩ := clo_has (cells := X.env.cells) scope.names [] y (.inl (PySem.mem_of_lookup hs1))
          have := B.sub I.ok _ _ hc'
          rw [ec] at this
          cases this
          obtain ⟨ob, ho, hd⟩ := z
          exact ⟨c, hc', ob, old _ _ ho, hd⟩
  · obtain ⟨v, ob, ho, hd⟩ := I.cell y c (B.sub I.ok _ _ e)
    exact ⟨v, ob, old _ _ ho, hd⟩
  · exact absurd (show p ∈ ([] : List (Addr × Obj)) from hp) (by simp)
  · show _ = (compNs x fr).length
    simp [compNs, compRest]
end
end L2
set_option Elab.async false
set_option linter.all false
set_option maxRecDepth 100000
namespace L2
open PySem PySem.Spec PyProof.Rows
def PIf (X : Cx) (ifs : List Expr) (t : TT) : Prop :=
  ∀ (pins : List (Addr × Obj)) (s : Shared) (σ : St) (H : Hp) (Q : Bool → Hp → Prop), Inv X pins σ H s → t σ H Q →
    wpAny (model X.prog X.w) X.A (forIn ifs true fun c r => if r = true then do let ok ← isTrue c X.env (eval c X.env); pure (ForInStep.yield ok) else pure (ForInStep.yield r)) (TP X pins σ Q) X.xe s
def tYes : TT := fun _ H Q => Q true H
theorem pif_nil {X : Cx} : PIf X [] tYes := fun _ _ _ H _ I h => wpAny_tests_nil ⟨H, I, h⟩
def tLC (fr : List (Str × Nat)) (wi : TI) (tc : TT) (te : TE) : TE := fun σ H Q => wi σ H fun J H1 => ∃ W : Nat → Nat → List V → Hp → Prop, (∃ m, W 0 m [] H1) ∧ ∀ i m ys H2, W i m ys H2 → ys.length < sizeLine ∧
  ((J.stop i H2 ∧ ∀ D, H2 D = none → Q (.ref D) (upd H2 D (.lst ys))) ∨
    (J.go i H2 ∧ ∀ v H3, J.yld i H2 v H3 → tc (some v :: compRest σ fr) H3 fun b H4 =>
      if b = true then te (some v :: compRest σ fr) H4 fun y H5 => ∃ m', m' < m ∧ W (i + 1) m' (ys ++ [y]) H5 else ∃ m', m' < m ∧ W (i + 1) m' ys H4))
section
variable {X : Cx}
theorem anyE {α : Type} {M : Model} {A : Around} {t : Sem α} {Q : α → Shared → Prop} {E : Value → Shared → Prop} {s : Shared} (h : wpAny M A t Q (fun _ _ => False) s) : wpAny M A t Q E s := wpAny_mono h (fun _ _ x => x) fun _ _ x => x.elim
theorem comp_loop {prog : Program} {w : World} {A : Around} {R : Result → Shared → Prop} {s : Shared} {elt target iter : Expr} {ifs : List Expr} {scope : Scope} {pos : Pos} {it acc : Value} {env : Env} (J : Nat → Shared → Prop)
    (turn : ∀ n s, J n s → wpAny (model prog w) A (pyNext it) (fun r s₁ => match r with
      | none => R (.ok .next) s₁
      | some v => wpAny (model prog w) A (letOwnedTupleGo target it v) (fun _ s₂ => wpAny (model prog w) A (assign target env v) (fun _ s₃ =>
          wpAny (model prog w) A (forIn ifs true fun c r => if r = true then do let ok ← isTrue c env (eval c env); pure (ForInStep.yield ok) else pure (ForInStep.yield r)) (fun ok s₄ =>
            if ok = true then wpAny (model prog w) A (eval elt env) (fun y s₅ =>
              wpAny (model prog w) A (call (.builtin "list.append") [acc, y]) (fun _ s₆ => ∃ m, m < n ∧ J m s₆) (fun _ _ => False) s₅) (fun _ _ => False) s₄
            else ∃ m, m < n ∧ J m s₄) (fun _ _ => False) s₃) (fun _ _ => False) s₂) (fun _ _ => False) s₁) (fun _ _ => False) s)
    (n : Nat) (h : J n s) : codeAny (model prog w) A (.compLoop (.ListComp elt [⟨target, iter, ifs, 0⟩] scope pos) 0 it acc env) R s := by
  refine codeAny_loop rfl J (fun k s' hJ => ?_) n h
  show wpAny (model prog w) A ((compTurn (.ListComp elt [⟨target, iter, ifs, 0⟩] scope pos) 0 it acc env).onRaise (fun x => do noteFrame x env; theTreesLotGoes x)) _ _ s'
  refine wpAny_noted ?_
  rw [compTurn_list]
  refine wpAny_bind (wpAny_standAt (wpAny_bind (wpAny_mono (turn k s' hJ) (fun r s₁ h₁ => ?_) fun _ _ z => z.elim)))
  cases r with
  | none => exact wpAny_pure h₁
  | some v =>
    refine wpAny_bind (wpAny_mono h₁ (fun _ s₂ h₂ => wpAny_bind (wpAny_mono h₂ (fun _ s₃ h₃ => wpAny_bind (wpAny_mono h₃ (fun ok s₄ h₄ => ?_) fun _ _ z => z.elim)) fun _ _ z => z.elim)) fun _ _ z => z.elim)
    cases ok with
    | false => exact wpAny_pure ⟨rfl, h₄⟩
    | true =>
      exact wpAny_bind (wpAny_bind (wpAny_mono h₄ (fun y s₅ h₅ => wpAny_bind (wpAny_mono h₅ (fun _ s₆ h₆ => wpAny_pure (wpAny_pure ⟨rfl, h₆⟩)) fun _ _ z => z.elim)) fun _ _ z => z.elim))
theorem pe_lc {elt iter : Expr} {x : Str} {px : Pos} {ifs : List Expr} {scope : Scope} {pos : Pos} {fr : List (Str × Nat)} {wi : TI} {tc : TT} {te : TE} (hc : X.calm = true) (B : Blk X scope x fr)
    (hi : PI X (.Name x px) iter wi) (ht : ∀ s₂ H₂ C fp, PIf (cxComp X scope (compNs x fr) s₂ H₂ C fp) ifs tc) (he : ∀ s₂ H₂ C fp, PE (cxComp X scope (compNs x fr) s₂ H₂ C fp) elt te)
    (hs : ∀ v, foldedSetIterable iter X.env v = pure v := by intro _; rfl) : PE X (.ListComp elt [⟨.Name x px, iter, ifs, 0⟩] scope pos) (tLC fr wi tc te) := by
  intro pins s σ H Q I h
  rw [eval_ListComp]
  have hclos := clo_eq (scope := scope) (env := X.env) (B.clos I.ok)
  refine wpAny_comprehension_free (use := none) rfl hs hclos B.kind B.loc (thn (hi pins s σ H _ I h) fun v s1 h1 => thn h1 fun itv s2 h2 => ?_)
  obtain ⟨it, fp, tn, J, H2, rfl, I2, T, st2, f2, W, ⟨m0, w0⟩, turn⟩ := h2
  refine wpAny_newObj_type (wpAny_newFunctionEnv B.cell (by intro y hy; simp at hy) (fun h₁ hns hsb => ?_) B.kind)
  dsimp only at hns hsb ⊢
  generalize hG : s2.heap.push { cls := .type "list", dict := none, data := .seq ([] : List Value).toArray } = G at hns hsb ⊢
  have hC : G.objs.size = s2.heap.objs.size + 1 := by rw [← hG, Heap.size_push]
  have hDC : s2.heap.objs.size ≠ G.objs.size := by omega
  have old : ∀ b ob, s2.heap.get? b = some ob → h₁.get? b = some ob := fun b ob e => by
    have hb := Heap.lt_size e
    refine hsb.extBut b ob (Nat.ne_of_lt (by rw [hC]; exact Nat.lt_succ_of_lt hb)) (Heap.get?_push_of_some _ ?_)
    rw [← hG]
    exact Heap.get?_push_of_some _ e
  have hacc : h₁.get? s2.heap.objs.size = some { cls := .type "list", data := .seq ([] : List Value).toArray 0 } := by
    refine hsb.extBut _ _ hDC (Heap.get?_push_of_some _ ?_)
    rw [← hG]
    exact Heap.get?_push_size _ rfl
  have hlt : ∀ b ∈ fp, b < s2.heap.objs.size := fun b hb => by
    obtain ⟨o, e, _⟩ := T.obj 0 _ st2 b hb
    exact Heap.lt_size e
  have I4 := inv_comp (tk := s2.toks + ([] : List (Str × Value)).length) (o := none) I2 B (show s2.heap.objs.size ≤ G.objs.size by omega) f2 hlt old hns
  have tn4 : tn 0 h₁ := T.keep 0 _ _ st2 fun b _ o e => old b o e
  have Dfs : s2.heap.objs.size ∉ frs X.stack := fun z => by
    obtain ⟨_, o, ho, _⟩ := I2.stack.mem z
    exact absurd (Heap.lt_size ho) (Nat.lt_irrefl _)
  have Dcl : ∀ y c, X.env.cells.lookup y = some c → c ≠ s2.heap.objs.size := fun y c e => by
    obtain ⟨v, o, ho, _⟩ := I2.cell y c e
    exact Nat.ne_of_lt (Heap.lt_size ho)
  have DL : s2.heap.objs.size ≠ X.env.locals := Nat.ne_of_gt I2.lt
  have Dfp : s2.heap.objs.size ∉ fp := fun z => absurd (hlt _ z) (Nat.lt_irrefl _)
  have loop : ∀ s₃ : Shared, s₃ = { s2 with heap := h₁, toks := s2.toks + ([] : List (Str × Value)).length } →
      codeAny (model X.prog X.w) X.A (.compLoop (.ListComp elt [⟨.Name x px, iter, ifs, 0⟩] scope pos) 0 (.ref it) (.ref s2.heap.objs.size) (compEnvC scope (cloOf X.env.cells scope.names []) G.objs.size X.env))
        (compPost (model X.prog X.w) X.A X.xe none (EP X pins σ Q) (.ref s2.heap.objs.size) G.objs.size) s₃ := by
    rintro s₃ rfl
    refine comp_loop
      (fun n s' => ∃ i o H' ys its k, Inv (cxComp X scope (compNs x fr) s2 H2 G.objs.size fp) [] (o :: compRest σ fr) H' s' ∧ tn i s'.heap ∧ (∀ b ∈ fp, H' b = none) ∧ H' s2.heap.objs.size = none ∧
        s'.heap.get? s2.heap.objs.size = some { cls := .type "list", data := .seq (its : List Value).toArray k } ∧ Vals ys its ∧ W i n ys H') ?_ m0
      ⟨0, none, H2, [], [], 0, I4, tn4, fun b hb => (f2 b hb).1, I2.hok.fresh (Nat.le_refl _), hacc, .nil, w0⟩
    rintro n s5 ⟨i, o, H5, ys, its, k, I5, st5, fr5, D5, hD5, r5, w5⟩
    have fok : ∀ {H' : Hp}, (∀ b ∈ fp, H' b = none) → ∀ b ∈ fp, FpOk (cxComp X scope (compNs x fr) s2 H2 G.objs.size fp) [] H' b := fun hn b hb =>
      ⟨hn b hb, (I5.ok.exf b hb).1, I5.ok.exfs b hb, .inl hb, (I5.ok.exf b hb).2, fun p hp => absurd (show p ∈ ([] : List (Addr × Obj)) from hp) (by simp)⟩
    have dok : ∀ {H' : Hp}, H' s2.heap.objs.size = none → FpOk (cxComp X scope (compNs x fr) s2 H2 G.objs.size fp) [] H' s2.heap.objs.size := fun hn =>
      ⟨hn, hDC, Dfs, .inr (Nat.le_refl _), fun y c e => Dcl y c (B.sub I2.ok _ _ e), fun p hp => absurd (show p ∈ ([] : List (Addr × Obj)) from hp) (by simp)⟩
    obtain ⟨hz, alt⟩ := turn i n ys H5 w5
    have hzl : its.length ≤ sizeLine := by rw [← r5.length]; exact Nat.le_of_lt hz
    rcases alt with ⟨stop, fin⟩ | ⟨go, step⟩
    · refine thn (T.done (cxComp X scope (compNs x fr) s2 H2 G.objs.size fp) rfl rfl rfl hc i (pinsAt [s2.heap.objs.size] s5.heap) s5 (o :: compRest σ fr) H5 _ ?_ (fun b hb => ?_) st5 stop) fun r s6 ⟨hr, I6⟩ => ?_
      · exact (Inv.pinned I5 (fp := [s2.heap.objs.size]) (fun b hb => by rw [List.mem_singleton.mp hb]; exact dok D5) fun b hb => by
          rw [List.mem_singleton.mp hb]
          exact ⟨_, hD5, fun v z => by cases z⟩)
      · obtain ⟨f0, f1, f2', f3, f4, f5⟩ := fok fr5 b hb
        refine ⟨f0, f1, f2', f3, f4, fun p hp => ?_⟩
        have hp' : p ∈ pinsAt [s2.heap.objs.size] s5.heap := (List.mem_append.mp hp).elim (fun z => absurd (show p ∈ ([] : List (Addr × Obj)) from z) (by simp)) id
        have := (of_pinsAt hp').1
        rw [List.mem_singleton.mp this]
        exact fun e => Dfp (by rw [e]; exact hb)
      · subst hr
        have hD6 := (I6.pin (s2.heap.objs.size, { cls := .type "list", data := .seq its.toArray k }) (List.mem_append_right _ (mem_pinsAt (by simp) hD5))).1
        obtain ⟨m6, hn6, _⟩ := I6.loc
        refine ⟨m6, hn6, fun h' hs' => ?_⟩
        have hCn : s2.heap.get? G.objs.size = none := by
          cases e : s2.heap.get? G.objs.size with
          | none => rfl
          | some ob => exact absurd (Heap.lt_size e) (by rw [hC]; exact Nat.not_lt.mpr (Nat.le_succ _))
        have neC : ∀ b ob, s2.heap.get? b = some ob → b ≠ G.objs.size := fun b ob e z => by rw [z, hCn] at e; cases e
        have u6 : Un (frs X.stack) fp H2 H5 s2.heap s6.heap := I6.base
        have u7 : Un (frs X.stack) fp H2 H5 s2.heap h' := ⟨fun b ob e n hb hx => hs'.extBut b ob (neC b ob e) (u6.keep b ob e n hb hx), fun b ob e n hb hx => by
            obtain ⟨sl, q⟩ := u6.slot b ob e n hb hx
            exact ⟨sl, hs'.extBut b _ (neC b ob e) q⟩, u6.free, fun b ob e hx => by
            obtain ⟨o', q⟩ := u6.there b ob e hx
            exact ⟨o', hs'.extBut b _ (neC b ob e) q⟩, u6.tups, u6.frzs, u6.tbls⟩
        have hC5 : H5 G.objs.size = none := I6.free
        have hok7 : HOk X.prog X.w H5 h' := fun b ob e => (I6.hok b ob e).stay (fun c u hc q => hs'.extBut c u (by
            rintro rfl
            rcases hc with rfl | hc
            · rw [hC5] at e; cases e
            · rw [hC5] at hc; cases hc) q) (fun _ q => q) fun _ _ q => q
        have I7 : Inv X pins σ H5 { s6 with heap := h' } := I2.call' (s' := { s6 with heap := h' }) (I6.os) u7 hok7 I6.bare fun b hb => ⟨(f2 b hb).2.2.2.1, (f2 b hb).2.1, (f2 b hb).2.2.2.2.1, (f2 b hb).2.2.2.2.2⟩
        refine ⟨.ref s2.heap.objs.size, upd H5 s2.heap.objs.size (.lst ys), I7.track D5 I2.sz DL Dcl (fun p hp z => ?_) ?_, rfl, fin _ D5⟩
        · obtain ⟨e, _⟩ := I2.pin p hp
          rw [z] at e
          exact absurd (Heap.lt_size e) (Nat.lt_irrefl _)
        · exact ⟨Nat.le_of_lt hz, its, k, r5, hs'.extBut _ _ hDC hD6⟩
    · refine anyE (thn (T.item (cxComp X scope (compNs x fr) s2 H2 G.objs.size fp) rfl rfl rfl hc i (pinsAt [s2.heap.objs.size] s5.heap) s5 (o :: compRest σ fr) H5 _ ?_ (fun b hb => ?_) st5 go) fun r s6 ⟨u, hr, h6⟩ => ?_)
      · exact (Inv.pinned I5 (fp := [s2.heap.objs.size]) (fun b hb => by rw [List.mem_singleton.mp hb]; exact dok D5) fun b hb => by
          rw [List.mem_singleton.mp hb]
          exact ⟨_, hD5, fun v z => by cases z⟩)
      · obtain ⟨f0, f1, f2', f3, f4, f5⟩ := fok fr5 b hb
        refine ⟨f0, f1, f2', f3, f4, fun p hp => ?_⟩
        have hp' : p ∈ pinsAt [s2.heap.objs.size] s5.heap := (List.mem_append.mp hp).elim (fun z => absurd (show p ∈ ([] : List (Addr × Obj)) from z) (by simp)) id
        have := (of_pinsAt hp').1
        rw [List.mem_singleton.mp this]
        exact fun e => Dfp (by rw [e]; exact hb)
      · subst hr
        refine thn h6 fun _ s7 ⟨v, H7, I7, rv, y7, st7, fr7⟩ => ?_
        have p7 := I7.pin (s2.heap.objs.size, { cls := .type "list", data := .seq its.toArray k }) (List.mem_append_right _ (mem_pinsAt (by simp) hD5))
        have hD7 : s7.heap.get? s2.heap.objs.size = some { cls := .type "list", data := .seq its.toArray k } := p7.1
        have D7 : H7 s2.heap.objs.size = none := p7.2.1
        have I7u : Inv (cxComp X scope (compNs x fr) s2 H2 G.objs.size fp) [] (o :: compRest σ fr) H7 s7 := Inv.unpinned (pins := []) I7
        have I8 := Inv.pinned I7u (fp := s2.heap.objs.size :: fp) (fun b hb => by
            rcases List.mem_cons.mp hb with e | hb
            · rw [e]; exact dok D7
            · exact fok fr7 b hb) fun b hb => by
            rcases List.mem_cons.mp hb with e | hb
            · rw [e]; exact ⟨_, hD7, fun v z => by cases z⟩
            · exact T.obj _ _ st7 b hb
        have hl : Loc (cxComp X scope (compNs x fr) s2 H2 G.objs.size fp).env.scope x := .inl (lookup_relabel_local B.here)
        have pk : ∀ {σ' : St} {H' : Hp} {s' : Shared}, Inv (cxComp X scope (compNs x fr) s2 H2 G.objs.size fp) ([] ++ pinsAt (s2.heap.objs.size :: fp) s7.heap) σ' H' s' →
            tn (i + 1) s'.heap ∧ (∀ b ∈ fp, H' b = none) ∧ H' s2.heap.objs.size = none ∧ s'.heap.get? s2.heap.objs.size = some { cls := .type "list", data := .seq its.toArray k } := fun {σ' H' s'} I' => by
          have pD := I'.pin (s2.heap.objs.size, { cls := .type "list", data := .seq its.toArray k }) (List.mem_append_right _ (List.mem_append_right _ (mem_pinsAt (by simp) hD7)))
          refine ⟨T.keep _ _ _ st7 fun b hb ob e => (I'.pin (b, ob) (List.mem_append_right _ (List.mem_append_right _ (mem_pinsAt (List.mem_cons_of_mem _ hb) e)))).1, fun b hb => ?_, pD.2.1, pD.1⟩
          obtain ⟨ob, e, _⟩ := T.obj _ _ st7 b hb
          exact (I'.pin (b, ob) (List.mem_append_right _ (List.mem_append_right _ (mem_pinsAt (List.mem_cons_of_mem _ hb) e)))).2.1
        refine anyE (thn (pg_name (X := cxComp X scope (compNs x fr) s2 H2 G.objs.size fp) (i := 0) B.nd rfl hl (.inr (lookup_relabel_local B.here)) _ s7 _ H7 v u (fun σ' H' => σ' = some v :: compRest σ fr ∧ H' = H7) I8 rv ⟨rfl, rfl⟩) fun _ s8 ⟨σ8, H8, I9, e1, e2⟩ => ?_)
        subst e1 e2
        refine anyE (thn (ht s2 H2 G.objs.size fp _ s8 _ H8 _ I9 (step v H8 y7)) fun ok s9 ⟨H9, I10, q10⟩ => ?_)
        cases ok with
        | false =>
          rw [if_neg Bool.false_ne_true] at q10
          rw [if_neg Bool.false_ne_true]
          obtain ⟨m', hm, w'⟩ := q10
          obtain ⟨k1, k2, k3, k4⟩ := pk I10
          exact ⟨m', hm, i + 1, some v, H9, ys, its, k, Inv.unpinned (pins := []) I10, k1, k2, k3, k4, r5, w'⟩
        | true =>
          rw [if_pos rfl] at q10
          rw [if_pos rfl]
          refine anyE (thn (he s2 H2 G.objs.size fp _ s9 _ H9 _ I10 q10) fun y' s10 ⟨y, H10, I11, ry, m', hm, w'⟩ => ?_)
          obtain ⟨k1, k2, k3, k4⟩ := pk I11
          refine append_at k4 (fun h' hs' hD' => ?_) (by rw [List.size_toArray]; exact hzl)
          have I12 : Inv (cxComp X scope (compNs x fr) s2 H2 G.objs.size fp) [] (some v :: compRest σ fr) H10 { s10 with heap := h' } :=
            (Inv.unpinned (pins := []) I11).turned (t' := s10.toks) (it := s2.heap.objs.size) (fun b ob hb e => (hs'.2 b hb).trans e) k3 hDC (.inr (Nat.le_refl _)) (fun z c e => Dcl z c (B.sub I2.ok _ _ e)) fun p hp => absurd (show p ∈ ([] : List (Addr × Obj)) from hp) (by simp)
          refine ⟨m', hm, i + 1, some v, H10, ys ++ [y], its ++ [y'], k + 1, I12, T.keep _ _ _ k1 fun b hb ob e => (hs'.2 b fun z => Dfp (by rw [← z]; exact hb)).trans e, k2, k3, ?_, r5.append (.cons ry .nil), w'⟩
          rw [hD']
          simp
  exact codeAny_compStart_list (loop _ rfl) (T.self _ 0 _ _ _ tn4 (loop _ rfl))
end
end L2
set_option Elab.async false
set_option linter.all false
set_option maxRecDepth 100000
namespace L2
open PySem PySem.Spec PyProof.Rows
def tyN (H : Hp) : V → String
  | .non => "NoneType"
  | .bl _ => "bool"
  | .int _ => "int"
  | .str _ => "str"
  | .ref a => match H a with
    | some (.lst _) => "list"
    | some (.tup _) => "tuple"
    | some (.dK _) => "dict"
    | some (.frz _ (.lst _)) => "list"
    | _ => "?"
  | _ => "?"
def tyIs (T n : String) : Bool := T == n || (T == "bool" && n == "int")
def tyKnown : List String := ["NoneType", "bool", "int", "str", "list", "tuple", "dict"]
def tyAsked : List String := ["bool", "int", "str", "list", "tuple", "dict"]
theorem kit_known (K : PySem.W.Frag) : ∀ T ∈ tyKnown, ∀ n ∈ tyAsked, PySem.W.kitOne K (.type T) (.type n) = some (tyIs T n) := by
  intro T hT n hn
  simp only [tyKnown, tyAsked, List.mem_cons, List.not_mem_nil, or_false] at hT hn
  rcases hT with rfl | rfl | rfl | rfl | rfl | rfl | rfl <;> rcases hn with rfl | rfl | rfl | rfl | rfl | rfl <;> kernel_rfl
theorem tyN_of {K : PySem.W.Frag} {H : Hp} {x : V} (h : tyN H x ∈ tyKnown) : TyOf K H x (.type (tyN H x)) := by
  have no : ¬ ("?" ∈ tyKnown) := by decide
  cases x with
  | non => exact .non
  | bl b => exact .bl b
  | int i => exact .int i
  | str z => exact .str z
  | ref a =>
    unfold tyN at h ⊢
    dsimp only at h ⊢
    cases e : H a with
    | none => rw [e] at h; exact absurd h no
    | some o =>
      rw [e] at h
      cases o with
      | lst xs => exact .lst e
      | tup xs => exact .tup e
      | dK kvs => exact .dK e
      | frz ob u =>
        cases u with
        | lst xs => exact .frz e
        | _ => exact absurd h no
      | _ => exact absurd h no
  | _ => exact absurd h no
def rIsi (xs : List V) (H : Hp) (Q : VK) : Prop := ∃ x n, xs = [x, .ty n] ∧ tyN H x ∈ tyKnown ∧ n ∈ tyAsked ∧ Q (.bl (tyIs (tyN H x) n)) H
section
variable {X : Cx}
theorem call_isi : CallR X (.builtin "isinstance") rIsi := by
  intro pins s σ H xs us Q I r h
  obtain ⟨x, n, rfl, h1, h2, q⟩ := h
  obtain ⟨u, v, rfl, ru, rv⟩ := vals2 r
  cases rv
  exact isinst_ok I ru (tyN_of h1) (kit_known X.K _ h1 _ h2) fun tk => ⟨.bl _, H, I.tok tk, rfl, q⟩
end
end L2
set_option Elab.async false
set_option linter.all false
set_option maxRecDepth 100000
namespace L2
open PySem PySem.Spec PyProof.Rows
section
variable {X : Cx}
theorem boolsAre_of {bs : List Bool} : ∀ {us : List Value}, Vals (bs.map V.bl) us → LSm.BoolsAre us bs := by
  induction bs with
  | nil => intro us r; rw [List.map_nil] at r; cases r; exact .nil
  | cons b bs ih =>
    intro us r
    rw [List.map_cons] at r
    cases r with
    | cons r1 r2 =>
      cases r1
      exact .cons b (ih r2)
def rAll (K : PySem.W.Frag) (xs : List V) (H : Hp) (Q : VK) : Prop := ∃ (p : Addr) (bs : List Bool), xs = [.ref p] ∧ SqL K H p (bs.map V.bl) ∧ Q (.bl (bs.all id)) H
theorem call_all (hc : X.calm = true) : CallR X (.builtin "all") (rAll X.K) := by
  intro pins s σ H xs us Q I r h
  obtain ⟨p, bs, rfl, hq, q⟩ := h
  obtain ⟨u, rfl, rx⟩ := vals1 r
  cases rx
  obtain ⟨its, r', pl, hz⟩ := I.list hq
  have hb := boolsAre_of r'
  have hl := pl.isList
  have hlt : p < s.heap.objs.size := by obtain ⟨_, e, _⟩ := hl; exact Heap.lt_size e
  refine call_all_walk (wpAny_pyIter_list hl ?_)
  refine ⟨s.heap.objs.size, [s.heap.objs.size, p], [s.heap.objs.size], its.toArray.size, _, _, fun i => (bs[i]?).getD true, rfl, Walks.list (A := X.A.in1) (I.ok.hd hc) _ p (Nat.ne_of_lt hlt) its.toArray,
    ⟨⟨_, Heap.get?_push_size _ rfl, rfl, rfl⟩, hl.push _⟩, fun i v s' Q' E' hP hQ => ?_, fun h' tk hk => ?_⟩
  · obtain ⟨b, e, rfl⟩ := hb.get i v (by simpa using hP)
    simp only [e, Option.getD_some] at hQ
    exact wpAny_truthy_bool hQ
  · have e : ((List.range its.toArray.size).all fun i => (bs[i]?).getD true) = bs.all id := by
      rw [List.size_toArray, hb.length]; exact LSm.range_all bs
    rw [e]
    exact ⟨.bl (bs.all id), H, I.kept (t' := tk) (LSm.kept_iter hk), rfl, q⟩
mutual
inductive DataV (K : PySem.W.Frag) (H : Hp) : V → PyData → Prop
  | non : DataV K H .non .none
  | bl (b : Bool) : DataV K H (.bl b) (.bool b)
  | int (i : Int) : DataV K H (.int i) (.int i)
  | str (x : Str) : DataV K H (.str x) (.str x)
  | lst {a : Addr} {xs : List V} {ds : List PyData} : SqL K H a xs → DataVs K H xs ds → DataV K H (.ref a) (.list ds)
  | tup {a : Addr} {xs : List V} {ds : List PyData} : SqT K H a xs → DataVs K H xs ds → DataV K H (.ref a) (.tuple ds)
inductive DataVs (K : PySem.W.Frag) (H : Hp) : List V → List PyData → Prop
  | nil : DataVs K H [] []
  | cons {x : V} {xs : List V} {d : PyData} {ds : List PyData} : DataV K H x d → DataVs K H xs ds → DataVs K H (x :: xs) (d :: ds)
end
mutual
theorem DataV.reads {pins : List (Addr × Obj)} {s : Shared} {σ : St} {H : Hp} (I : Inv X pins σ H s) : ∀ {x : V} {d : PyData}, DataV X.K H x d → ∀ {u : Value}, RelV x u → ∃ as, Reads s.heap u d as
  | _, _, .non, _, r => by cases r; exact ⟨_, .none⟩
  | _, _, .bl b, _, r => by cases r; exact ⟨_, .bool b⟩
  | _, _, .int i, _, r => by obtain ⟨t, rfl⟩ := r; exact ⟨_, .int i t⟩
  | _, _, .str z, _, r => by obtain ⟨t, rfl⟩ := r; exact ⟨_, .str z t⟩
  | _, _, .lst hq hd, _, r => by
    cases r
    obtain ⟨its, rv, pl, _⟩ := I.list hq
    obtain ⟨as, ha⟩ := DataVs.reads I hd rv
    obtain ⟨o, n, e, c, _, d⟩ := pl
    exact ⟨_, .list e c d ha⟩
  | _, _, .tup hq hd, _, r => by
    cases r
    obtain ⟨its, rv, pl, _⟩ := I.tuple hq
    obtain ⟨as, ha⟩ := DataVs.reads I hd rv
    obtain ⟨o, e, c, n, d⟩ := pl
    exact ⟨_, .tuple e c d ha⟩
theorem DataVs.reads {pins : List (Addr × Obj)} {s : Shared} {σ : St} {H : Hp} (I : Inv X pins σ H s) : ∀ {xs : List V} {ds : List PyData}, DataVs X.K H xs ds → ∀ {us : List Value}, Vals xs us → ∃ as, ReadsAll s.heap us ds as
  | _, _, .nil, _, r => by cases r; exact ⟨_, .nil⟩
  | _, _, .cons h t, _, r => by
    cases r with
    | cons r1 r2 =>
      obtain ⟨as, ha⟩ := DataV.reads I h r1
      obtain ⟨bs, hb⟩ := DataVs.reads I t r2
      exact ⟨_, .cons ha hb⟩
end
def rEqD (K : PySem.W.Frag) : R2 := fun x y H Q => ∃ da db, DataV K H x da ∧ DataV K H y db ∧ SeqAt.shaped da = true ∧ SeqAt.shaped db = true ∧ Q (.bl (PyData.eqv da db)) H
def rNeD (K : PySem.W.Frag) : R2 := fun x y H Q => ∃ da db, DataV K H x da ∧ DataV K H y db ∧ SeqAt.shaped da = true ∧ SeqAt.shaped db = true ∧ Q (.bl (!PyData.eqv da db)) H
theorem op_eqD (hu : X.A.units + 64 < cLine) : OpR X (compareOp .Eq) (rEqD X.K) := by
  intro pins s σ H x y v u Q I rx ry h
  obtain ⟨da, db, ha, hb, sa, sb, q⟩ := h
  obtain ⟨as, ra⟩ := ha.reads I rx
  obtain ⟨bs, rb⟩ := hb.reads I ry
  exact eq_dataH ra rb sa sb hu ⟨.bl _, H, I, rfl, q⟩
theorem op_neD (hu : X.A.units + 64 < cLine) : OpR X (compareOp .NotEq) (rNeD X.K) := by
  intro pins s σ H x y v u Q I rx ry h
  obtain ⟨da, db, ha, hb, sa, sb, q⟩ := h
  obtain ⟨as, ra⟩ := ha.reads I rx
  obtain ⟨bs, rb⟩ := hb.reads I ry
  exact ne_dataH ra rb sa sb hu ⟨.bl _, H, I, rfl, q⟩
theorem op_mulB : OpR X (binaryOp .Mult) (rI IntMulOk fun i j => .int (i * j)) := opI fun _ _ _ _ _ _ _ hc q => mul_int q hc
def rLen (K : PySem.W.Frag) (xs : List V) (H : Hp) (Q : VK) : Prop := (∃ p ys, xs = [.ref p] ∧ (SqL K H p ys ∨ SqT K H p ys) ∧ Q (.int ys.length) H) ∨ (∃ z, xs = [.str z] ∧ z.length ≤ sizeLine ∧ Q (.int z.length) H)
theorem call_lenU : CallR X (.builtin "len") (rLen X.K) := call_len_seq.or call_len_str
end
end L2
set_option Elab.async false
set_option linter.all false
set_option maxRecDepth 100000
namespace L2
open PySem PySem.Spec PyProof.Rows
section
variable {σ : St} {H : Hp} {Q : VK} {D : Ends}
variable {K : PySem.W.Frag}
end
structure Top (K : PySem.W.Frag) (mg : Str → Option Value) (x : Str) (st : Stmt) : Prop where
  ex : ∃ (f : Addr) (fd : FuncData), Fun K x x st f fd ∧ mg x = some (.ref f)
structure Def (P : Program) (w : World) (K : PySem.W.Frag) (mg : Str → Option Value) (base : Heap) (CX : CXT) (k : Nat) (x : Str) (ps : List Str) (sp : Sp) : Prop where
  ex : ∃ (f : Addr) (fd : FuncData), FnOk P w K mg base CX k f fd ps sp ∧ mg x = some (.ref f) ∧ PySem.W.keepIn K (.ref f) = true ∧ Binds K fd ps []
section
variable {P : Program} {w : World} {K : PySem.W.Frag} {mg : Str → Option Value} {base : Heap}
theorem Top.mk' {x : Str} {st : Stmt} {h : Heap} {f : Addr} {oc : Value} {od an : Option Addr} {osl : Array (Option Value)} {kV doc pm cdv ct : Value} (X : K.In h) (G : h.Ns mainGlobals mg) (a : PySem.W.nsIn K mainGlobals x = some (some (.ref f)))
    (l : K.lookup f = some ⟨oc, od, .func (PySem.W.fnOf x x (defArgs st) (defBody st) (defScope st) .none kV doc pm an cdv ct), osl⟩) (c : PySem.W.codeIn K cdv x = true) (k : PySem.W.keepIn K (.ref f) = true) : Top K mg x st :=
  ⟨⟨f, _, fun_mk l c k, PySem.W.mg_of X G a⟩⟩
theorem Top.def {x : Str} {st : Stmt} {N ps : List Str} {k : Nat} {sp : Sp} (T : Top K mg x st) (S : FnScope N ps (defScope st)) (len : ∀ vs H Q E, sp vs H Q E → vs.length = ps.length)
    (hb : ∀ (kV doc pm : Value) (an : Option Addr) (cdv ct : Value) (us : List Value), us.length = ps.length → bindArgs (PySem.W.fnOf x x (defArgs st) (defBody st) (defScope st) .none kV doc pm an cdv ct) ⟨us, []⟩ = pure (ps.zip us))
    (hbody : ∀ (f : Addr) (cdv : Value) (A : Around) (outer : List Env) (s : Shared) (H : Hp) (vs : List V) (Q : VK) (E : XK), Room k (A.deeper (envOfC x (defScope st) s.heap.objs.size f cdv)) → sp vs H Q E →
      ∃ t, PSs (cxOf CX0 P w K mg base N x (defScope st) f cdv A outer s H E).nox (defBody st) t ∧ t { nx := fun _ H' => Q .non H', rt := Q } (start N vs) H) : Def P w K mg base CX0 (k + 1) x ps sp := by
  obtain ⟨f, fd, F, m⟩ := T.ex
  exact ⟨⟨f, fd, F.ok S len (hbody f), m, F.kp, F.binds hb⟩⟩
theorem pe_def {X : Cx} {k : Nat} {x : Str} {ps : List Str} {sp : Sp} {p pos : Pos} {e : Expr} {es : List Expr} {t : TA} (D : Def X.prog X.w X.K X.mg X.base CX0 k x ps sp) (hr : Room k X.A) (ha : PA X (e :: es) t) (hg : Gl X x := by rfl)
    (hdb : (x == ("__debug__" : Str)) = false := by decide) (he : starEach (e :: es) X.env = (false, eval e X.env) :: starEach es X.env := by rfl) (hpl : (backTo pos (starEach es X.env)).any (·.1) = false := by rfl) :
    PE X (.Call (.Name x p) (e :: es) [] pos) (tCall sp [] E0 t) := by
  obtain ⟨f, fd, F, m, kp, b⟩ := D.ex
  exact pe_call F hr hg m kp b .nil pass0 ha hdb he hpl
end
open PySem.W in
theorem bits_weight : ∀ (ns : List Int) (n : Int), n ∈ ns → Builtin.Int.intBits n ≤ WData.weightAll (ns.map WData.int)
  | m :: r, n, h => by
    rw [List.map_cons]
    have e : WData.weightAll (WData.int m :: r.map WData.int) = WData.weight (.int m) + 1 + WData.weightAll (r.map WData.int) := by simp only [WData.weightAll]
    rw [e]
    rcases List.mem_cons.mp h with rfl | h
    · have : Builtin.Int.intBits n = WData.weight (.int n) := by simp only [WData.weight, Builtin.Int.intBits]
      omega
    · have := bits_weight r n h
      omega
open PySem.W in
theorem bits_script {ns : List Int} (h : WData.layableAll [WData.list (ns.map WData.int)] = true) : ∀ n ∈ ns, Builtin.Int.intBits n ≤ 1048576 := fun n hn => by
  have h1 : (WData.list (ns.map WData.int)).layable = true := PySem.W.layableW_arg h _ (by simp)
  have h2 := (PySem.W.layableW_iff.mp h1).2.2
  have h3 : WData.weight (.list (ns.map WData.int)) = WData.weightAll (ns.map WData.int) := by simp only [WData.weight]
  have h4 := bits_weight ns n hn
  have h5 : (2 : Nat) ^ 20 = 1048576 := by decide
  omega
open PySem.W PySem.Calls in
theorem attachB {l : OpenLaw} {n : Nat} {q : Program} {loose : List Str} {XP : (Str → Option Value) → Heap → Prop} {YP : World → Heap → Prop} {d : DefRec}
    (hn : l.most = some n) (hdf : d.params.defaults = [])
    (call : ∀ (w : World) (s₀ s₁ : Shared) (mg mb : Str → Option Value) (fa a : Addr) (vs : List Value) (ns : List Int),
      Ground q loose [] XP w s₀ mg mb s₁.heap → YP w s₁.heap → mg d.name = some (.ref fa) →
      s₁.heap.get? a = some { cls := .type "list", data := .seq vs.toArray } → IntsAre vs ns → ns.length ≤ n → (∀ k ∈ ns, Builtin.Int.intBits k ≤ 1048576) → s₁.gens = #[] →
      codeAny (model l.prog w) callerA (.call (.ref fa) ⟨[.ref a], []⟩) (fun r s' => r = .ok (.ret (.bool true)) ∧ OldK s₁.heap s'.heap ∧ s'.os = s₁.os ∧ AllBare s'.gens) s₁) :
    WalkO q loose XP YP l.row.toRowW d [] (fun f vs => PySem.call f vs) := by
  intro w s₀ s₁ mg mb G Y fa o pm cd doc dV kV ho hd hcd hD hmg hg args vals as' hpre hlay hrd hwl hlo
  obtain rfl : dV = .none := Dflts.none hD hdf
  obtain ⟨a, vs, ns, rfl, rfl, hobj, hints, hlen⟩ := Att.script_of hn hpre hwl
  refine enter_call (codeAny_mono (call w s₀ s₁ mg mb fa a vs ns G Y hmg hobj hints hlen (bits_script hlay) hg) fun r s' hq => ?_)
  obtain ⟨rfl, h2, h3, h4⟩ := hq
  exact ⟨.inl ⟨.bool true, .bool true, [], rfl, fun _ => rfl, .bool true, Att.post_true l _, fun _ => ⟨List.Pairwise.nil, fun _ hm => (nomatch hm)⟩⟩, h2, h3, h4⟩
def spLaw (K : PySem.W.Frag) : Sp := fun vs H Q _ => ∃ (a : Addr) (ns : List Int), vs = [.ref a] ∧ SqL K H a (ns.map V.int) ∧ ns.length ≤ 63 ∧ (∀ k ∈ ns, Builtin.Int.intBits k ≤ 1048576) ∧ ∀ H', Q (.bl true) H'
theorem walk_law {l : PySem.W.OpenLaw} {k : Nat} {q : Program} {loose : List Str} {XP : (Str → Option Value) → Heap → Prop} {YP : World → Heap → Prop} {d : DefRec} {K : Params → PySem.W.Frag} {x : Str} {st : Stmt}
    (hn : l.most = some 63) (hdf : d.params.defaults = []) (hr : Room k callerA) (hY : ∀ (w : World) (h : Heap), YP w h → (K w.params).In h)
    (hb : ∀ (kV doc pm : Value) (an : Option Addr) (cdv ct u : Value), bindArgs (PySem.W.fnOf d.name d.name (defArgs st) (defBody st) (defScope st) .none kV doc pm an cdv ct) ⟨[u], []⟩ = pure [(x, u)])
    (F : ∀ (w : World) (mg : Str → Option Value) (h : Heap), (K w.params).In h → h.Ns mainGlobals mg → Top (K w.params) mg d.name st ∧
      ∀ (f : Addr) (fd : FuncData), Fun (K w.params) d.name d.name st f fd → ∀ base : Heap, (K w.params).In base → base.Ns mainGlobals mg → FnOk l.prog w (K w.params) mg base CX0 k f fd [x] (spLaw (K w.params))) :
    PySem.W.WalkO q loose XP YP l.row.toRowW d [] (fun f vs => PySem.call f vs) := by
  refine attachB hn hdf fun w s₀ s₁ mg mb fa a vs ns G Y hmg hobj hints hlen hbits hg => ?_
  have KX := hY w _ Y
  obtain ⟨T, FF⟩ := F w mg _ KX G.T.g
  obtain ⟨f, fd, Ff, m⟩ := T.ex
  have e := m.symm.trans hmg
  cases e
  have hbd : ∀ (s : Shared) (u : Value), BindsTo s fd ⟨[u], []⟩ [(x, u)] := by
    obtain ⟨oc, od, kV, doc, pm, an, cdv, ct, osl, rfl, lk, hcd⟩ := Ff.ex
    exact fun s u => .of_eq (hb kV doc pm an cdv ct u)
  exact law_call KX G.T.g G.T.b G.T.builtins G.T.nolimit hg hobj hints (Nat.le_trans hlen (by decide)) hr (FF _ fd Ff) hbd (fun H hO hS => ⟨a, ns, rfl, hS, hlen, hbits, fun _ => rfl⟩) fun H e s' h => h
end L2
set_option Elab.async false
set_option linter.all false
set_option maxRecDepth 100000
namespace L2
open PySem PySem.Spec PyProof.Rows
section
variable {σ : St} {H : Hp} {Q : VK} {K : PySem.W.Frag} {fr : List (Str × Nat)}
instance : Inhabited V := ⟨.non⟩
end
section
variable {σ : St} {H : Hp} {Q : VK} {K : PySem.W.Frag} {i j : Int}
end
section
variable {σ : St} {H : Hp} {K : PySem.W.Frag}
end
theorem same_upd {H : Hp} {p : Addr} {o : HO} (h : H p = none) : Same H (upd H p o) := fun b u e => by rw [upd_ne (ne_of_none e h)]; exact e
theorem pe_ty {X : Cx} {x : Str} {n : String} {pos : Pos} (hm : X.mg x = none) (hv : bootBuiltins x = some (.type n)) (hg : Gl X x := by rfl) (hn : x ≠ "__name__" := by decide) (hd : (x == ("__debug__" : Str)) = false := by decide) : PE X (.Name x pos) (tC (.ty n)) :=
  pe_bltn hg hm hv (show RelV (.ty n) (.type n) from rfl) hn hd
end L2
set_option Elab.async false
set_option linter.all false
set_option maxRecDepth 100000
namespace L2
open PySem PySem.Spec PyProof.Rows
section
variable {X : Cx}
end
end L2
set_option Elab.async false
set_option linter.all false
set_option maxRecDepth 100000
namespace L2
open PySem PySem.Spec PyProof.Rows
theorem lri_nolen : typeLookup (.type "list_reverseiterator") "__len__" = pure none := by
  rw [typeLookup_type, builtinLookup_eq_fast]; kernel_rfl
theorem lri_hint : typeLookup (.type "list_reverseiterator") "__length_hint__" = pure (some (.builtin "list_reverseiterator.__length_hint__")) := by
  rw [typeLookup_type, builtinLookup_eq_fast]; kernel_rfl
section
variable {P : Program} {w : World} {B : Around} {R : Result → Shared → Prop} {E : Value → Shared → Prop} {t : Shared} {i₀ : Addr} {fp wr : List Addr} {n : Nat} {p : Nat → Value → Prop} {st : Nat → Shared → Prop}
abbrev GenSame : Array GenState → Array GenState → Prop := fun a b => b = a
def Hints (P : Program) (w : World) (B : Around) (i₀ : Addr) (st : Nat → Shared → Prop) : Prop :=
  ∀ (t₁ : Shared) (Q' : Bool → Shared → Prop) (E' : Value → Shared → Prop), st 0 t₁ → (∀ k, t₁.toks ≤ k → Q' false { t₁ with toks := k }) → wpAny (model P w) B (Builtin.List.listLengthHint (.ref i₀)) Q' E' t₁
theorem hints_rev (ty : ∀ j t, st j t → t.TypeIs (.ref i₀) "list_reverseiterator") : Hints P w B i₀ st := by
  intro t₁ Q' E' h q
  unfold Builtin.List.listLengthHint
  refine wpAny_bind (wpAny_specialOf (ty 0 _ h) lri_nolen ?_)
  show wpAny _ B (specialOf (Value.ref i₀) (Str.ofString "__length_hint__") >>= _) _ _ _
  refine wpAny_bind (wpAny_specialOf (ty 0 _ h) lri_hint ?_)
  generalize hid : ("list_reverseiterator.__length_hint__" : String) = idx
  wp_delta
  rw [show splitId idx = some ("list_reverseiterator", "__length_hint__") from by subst hid; decide +kernel]
  subst hid
  refine wpAny_bind (wpAny_isInstance (b := true) (ty 0 _ h) (by rw [isSubtype_type]; kernel_rfl) ?_)
  exact wpAny_pure (q _ (Nat.le_refl _))
theorem ext_it (W : WalksS P w B.in1 i₀ fp wr GenSame n p st) {T : String} (hT : T = "list_reverseiterator" ∨ T = "range_iterator") (ty : ∀ j t, st j t → t.TypeIs (.ref i₀) T) (hh : Hints P w B.in1 i₀ st) (l₀ : Addr) (res : Value) (c₀ : Nat)
    (h0 : st 0 t) (hl : l₀ ∉ fp) (hi : i₀ ∈ fp) (ho : t.heap.get? l₀ = some { cls := .type "list", data := .seq #[] c₀ })
    (hR : ∀ t' acc c, Moved (l₀ :: wr) GenSame t t' → t'.heap.get? l₀ = some { cls := .type "list", dict := none, data := .seq acc c, slots := #[] } → ItemsOf p acc n → R (.ok (.ret res)) t') (hn : n ≤ sizeLine) :
    wpAny (model P w) B.in1 (Builtin.List.listExtendWith (.ref l₀) (.ref i₀) res) (fun fin t' => match fin with | .done f => R (.ok f) t' | .again c' => c'.quiet = true ∧ codeAny (model P w) B c' R t') (fun e t' => R (.error e) t') t := by
  have hne : l₀ ≠ i₀ := fun e => hl (e ▸ hi)
  have e1 : Builtin.List.listSameRef (.ref l₀) (.ref i₀) = false := by simp [Builtin.List.listSameRef, hne]
  unfold Builtin.List.listExtendWith
  refine wpAny_bind (wpAny_typeOf (ty 0 _ h0) ?_)
  rcases hT with rfl | rfl
  all_goals
    rw [if_neg (by rw [e1]; decide)]
    refine wpAny_bind (W.self 0 _ _ _ h0 ?_)
    refine wpAny_bind (wpAny_holding (hh _ _ _ h0 fun k hk => ?_))
    rw [if_neg (by decide)]
    have h1 := W.frame 0 t t.heap k h0 hk fun b _ o e => e
    refine wpAny_pure ⟨plainId_quiet F.plain_extend_loop _, codeAny_extend_loopS W hn _ hl _ n 0 _ _ _ rfl (Nat.zero_le _) h1 ho (ItemsOf.nil p) fun t' acc c hm hs hacc => ?_⟩
    exact hR t' acc c ⟨hm.heap, hm.gens, hm.drawn, hm.os, Nat.le_trans hk hm.toks⟩ hs hacc
theorem init_it (W : WalksS P w B.in1 i₀ fp wr GenSame n p st) {T : String} (hT : T = "list_reverseiterator" ∨ T = "range_iterator") (ty : ∀ j t, st j t → t.TypeIs (.ref i₀) T) (hh : Hints P w B.in1 i₀ st) (l₀ : Addr)
    (h0 : st 0 t) (hl : l₀ ∉ fp) (hi : i₀ ∈ fp) (ho : t.heap.get? l₀ = some { cls := .type "list", data := .seq #[] })
    (hR : ∀ t' acc c, Moved (l₀ :: wr) GenSame t t' → t'.heap.get? l₀ = some { cls := .type "list", dict := none, data := .seq acc c, slots := #[] } → ItemsOf p acc n → R (.ok (.ret .none)) t') (hn : n ≤ sizeLine) :
    wpAny (model P w) B.in1 (Builtin.«list.__init__» ⟨[.ref l₀, .ref i₀], []⟩) (fun fin t' => match fin with | .done f => R (.ok f) t' | .again c' => c'.quiet = true ∧ codeAny (model P w) B c' R t') (fun e t' => R (.error e) t') t := by
  show wpAny _ B.in1 (do let old ← Builtin.List.listItems (.ref l₀); Builtin.List.listUpdate (.ref l₀) (fun _ => #[]); letGo old.toList.reverse; Builtin.List.listExtendWith (.ref l₀) (.ref i₀) .none) _ _ t
  refine wpAny_bind ?_
  unfold Builtin.List.listItems
  refine wpAny_bind (wpAny_seqItems ho rfl (wpAny_pure ?_))
  show wpAny _ B.in1 (updateSeq l₀ (fun _ => #[]) >>= fun _ => letGo (#[] : Array Value).toList.reverse >>= fun _ => Builtin.List.listExtendWith (.ref l₀) (.ref i₀) .none) _ _ t
  refine wpAny_bind (wpAny_updateSeq ho rfl ?_)
  have h2 := Heap.get?_update_self (Obj.mapSeq (fun _ => (#[] : Array Value))) ho rfl
  have oth : ∀ b o, b ≠ l₀ → t.heap.get? b = some o → (t.heap.update l₀ (Obj.mapSeq (fun _ => (#[] : Array Value)))).get? b = some o :=
    fun b o hb e => (Heap.get?_update_other _ _ (Ne.symm hb)).trans e
  refine wpAny_bind (wpAny_letGo ?_)
  refine ext_it W hT ty hh l₀ .none _ (W.frame 0 t _ t.toks h0 (Nat.le_refl _) fun b hb o e => oth b o (fun z => hl (z ▸ hb)) e) hl hi h2 (fun t' acc c hm hs hacc => ?_) hn
  exact hR t' acc c ⟨fun b o hb e => hm.heap b o hb (oth b o (fun z => hb (z ▸ List.mem_cons_self)) e), hm.gens, hm.drawn, hm.os, hm.toks⟩ hs hacc
theorem list_it {Q : Value → Shared → Prop} (W : WalksS P w B.in1.in1 i₀ fp wr GenSame n p st) {T : String} (hT : T = "list_reverseiterator" ∨ T = "range_iterator") (ty : ∀ j t, st j t → t.TypeIs (.ref i₀) T) (hh : Hints P w B.in1.in1 i₀ st)
    (h0 : st 0 t) (hfp : ∀ b ∈ fp, b < t.heap.objs.size) (hi : i₀ ∈ fp)
    (hQ : ∀ h' k acc c, (∀ b o, b ∉ wr → t.heap.get? b = some o → h'.get? b = some o) → h'.get? t.heap.objs.size = some { cls := .type "list", dict := none, data := .seq acc c, slots := #[] } → ItemsOf p acc n → Q (.ref t.heap.objs.size) { t with heap := h', toks := k }) (hn : n ≤ sizeLine) :
    wpAny (model P w) B (call (.type "list") [.ref i₀]) Q E t := by
  have hl : t.heap.objs.size ∉ fp := fun z => Nat.lt_irrefl _ (hfp _ z)
  refine callType_codes (Q₁ := fun v t₁ => v = .ref t.heap.objs.size ∧ t₁ = { t with heap := t.heap.push { cls := .type "list", data := .seq #[] } }) F.called_list (F.typeCall_list_1 _) F.entry_list_init (code_list_new _ ⟨rfl, rfl⟩) fun v t₁ h₁ => ?_
  obtain ⟨rfl, rfl⟩ := h₁
  have ho : (t.heap.push { cls := .type "list", data := .seq #[] }).get? t.heap.objs.size = some { cls := .type "list", data := .seq #[] } := Heap.get?_push_size _ rfl
  refine ⟨⟨_, ho, rfl⟩, F.args_list_init_2 _ _, init_it W hT ty hh _ (W.frame 0 t _ t.toks h0 (Nat.le_refl _) fun b _ o e => Heap.get?_push_of_some _ e) hl hi ho (fun t' acc c hm hs hacc => ?_) hn⟩
  have e1 : t'.gens = t.gens := hm.gens
  have e2 : t'.drawn = t.drawn := hm.drawn
  have e3 : t'.os = t.os := hm.os
  obtain ⟨h', g', d', k', os'⟩ := t'
  subst e1 e2 e3
  refine ⟨rfl, hQ h' k' acc c (fun b o hb e => hm.heap b o (fun z => ?_) (Heap.get?_push_of_some _ e)) hs hacc⟩
  rcases List.mem_cons.mp z with z | z
  · rw [z] at e; exact absurd (Heap.lt_size e) (Nat.lt_irrefl _)
  · exact hb z
end
section
variable {P : Program} {w : World} {A : Around} {E : Value → Shared → Prop} {s : Shared}
end
section
variable {X : Cx}
abbrev eCall (x : Str) (p : Pos) (es : List Expr) (pos : Pos) : Expr := .Call (.Name x p) es [] pos
theorem lay_list {pins : List (Addr × Obj)} {s : Shared} {σ : St} {H : Hp} {Q : VK} {ys : List V} (I : Inv X pins σ H s) (hz : ys.length ≤ sizeLine) (q : ∀ l, H l = none → Q (.ref l) (upd H l (.lst ys)))
    {l : Addr} (hl : s.heap.objs.size ≤ l) {h' : Heap} {k c : Nat} {acc : Array Value} (kp : ∀ b o, s.heap.get? b = some o → h'.get? b = some o) (ho : h'.get? l = some { cls := .type "list", dict := none, data := .seq acc c, slots := #[] }) (rv : Vals ys acc.toList) :
    EP X pins σ Q (.ref l) { s with heap := h', toks := k } :=
  ⟨.ref l, _, I.laid kp hl (show ObjOk X.prog X.w _ h' _ (.lst ys) from ⟨hz, acc.toList, c, rv, by simpa using ho⟩), rfl, q _ (I.hok.fresh hl)⟩
def rListRev (K : PySem.W.Frag) : List V → Hp → VK → Prop := fun xs H Q => ∃ p ys, xs = [.ref p] ∧ SqL K H p ys ∧ ∀ l, H l = none → Q (.ref l) (upd H l (.lst ys.reverse))
theorem vals_get : ∀ {ys : List V} {its : List Value}, ys.length = its.length → (∀ (j : Nat) (y : V) (v : Value), ys[j]? = some y → its[j]? = some v → RelV y v) → Vals ys its
  | [], [], _, _ => .nil
  | y :: ys, v :: its, hl, h => .cons (h 0 y v rfl rfl) (vals_get (by simpa using hl) fun j a b h1 h2 => h (j + 1) a b (by simpa using h1) (by simpa using h2))
  | [], _ :: _, hl, _ => by simp at hl
  | _ :: _, [], hl, _ => by simp at hl
theorem pe_listRev {a : Expr} {ta : TA} {p p' pos pos' : Pos} (hc : X.calm = true) (hg : Gl X "list") (hm : X.mg "list" = none) (hg' : Gl X "reversed") (hm' : X.mg "reversed" = none) (ha : PA X [a] ta)
    (hs : starEach [a] X.env = [(false, eval a X.env)] := by rfl) (hs' : starEach [eCall "reversed" p' [a] pos'] X.env = [(false, eval (eCall "reversed" p' [a] pos') X.env)] := by rfl) :
    PE X (eCall "list" p [eCall "reversed" p' [a] pos'] pos) (tCB (rListRev X.K) ta) := by
  intro pins s σ H Q I h
  have hn : X.A.handled = none := I.ok.hd hc
  refine wpAny_Call_Name_kw (ld_blt I hg hm boot_list ?_)
  refine PyProof.Rows.callWith_type1 ?_ hs' rfl
  rw [hs']
  refine Calls.spliced_cons ?_
  refine wpAny_Call_Name_kw (ld_blt I hg' hm' boot_reversed ?_)
  refine PyProof.Rows.callWith_type1 (thn (ha pos' pins s σ H _ I h) fun us s1 ⟨vs, H1, I1, r1, q1⟩ => ?_) hs rfl
  obtain ⟨l, ys, e, hq, q⟩ := q1
  subst e
  cases r1 with
  | cons r rr =>
    cases rr
    cases r
    obtain ⟨its, rv, pl, hz⟩ := I1.list hq
    have hlen : ys.length = its.toArray.size := by rw [List.size_toArray]; exact rv.length
    refine call_reversed_list pl.isList ?_
    refine Calls.spliced_nil ?_
    obtain ⟨ob, hob, _⟩ := pl.isList
    have hlt : l < s1.heap.objs.size := Heap.lt_size hob
    have W := (Walks.listRev (prog := X.prog) (w := X.w) (A := X.A.in1.in1) hn s1.heap.objs.size l (Nat.ne_of_lt hlt) its.toArray).toS
    refine list_it (B := X.A) (t := { s1 with heap := s1.heap.push (revObj l ((its.toArray.size : Int) - 1)) }) W (.inl rfl) (fun j t st => st.2.1.typeIs) (hints_rev fun j t st => st.2.1.typeIs)
      ⟨Nat.zero_le _, ⟨_, Heap.get?_push_size _ rfl, rfl, by simp [revObj]⟩, pl.isList.at fun o e => Heap.get?_push_of_some _ e⟩ (fun b hb => ?_) (by simp) (fun h' k acc c kp ho hacc => ?_) (by omega)
    · have : (s1.heap.push (revObj l ((its.toArray.size : Int) - 1))).objs.size = s1.heap.objs.size + 1 := Heap.size_push _ _
      show b < (s1.heap.push (revObj l ((its.toArray.size : Int) - 1))).objs.size
      rcases List.mem_cons.mp hb with e | hb
      · rw [e, Heap.size_push]; exact Nat.lt_succ_self _
      · rw [List.mem_singleton.mp hb, Heap.size_push]; exact Nat.lt_succ_of_lt hlt
    · refine lay_list I1 (by rw [List.length_reverse]; exact hz) q (show s1.heap.objs.size ≤ (s1.heap.push _).objs.size by rw [Heap.size_push]; exact Nat.le_succ _) (fun b o e => kp b o ?_ (Heap.get?_push_of_some _ e)) ho (vals_get ?_ fun j y v h1 h2 => ?_)
      · intro z
        have := List.mem_singleton.mp z
        rw [this] at e
        exact absurd (Heap.lt_size e) (Nat.lt_irrefl _)
      · rw [List.length_reverse, Array.length_toList (xs := acc), hacc.1, hlen]
      · have h2' : acc[j]? = some v := by rw [← Array.getElem?_toList]; exact h2
        have h3 := hacc.2 j v h2'
        have hj : j < ys.length := by
          have := (Array.getElem?_eq_some_iff.mp h2').1
          rw [hacc.1] at this; omega
        rw [List.getElem?_reverse hj] at h1
        rw [← hlen, ← Array.getElem?_toList] at h3
        obtain ⟨v', h4, h5⟩ := rv.get h1
        have h3' : its[ys.length - 1 - j]? = some v := by simpa using h3
        rw [h3'] at h4; cases h4
        exact h5
end
end L2
set_option Elab.async false
set_option linter.all false
set_option maxRecDepth 100000
namespace L2
open PySem PySem.Spec PyProof.Rows
section
variable {prog : Program} {w : World} {A : Around} {E : Value → Shared → Prop} {s : Shared}
theorem pull_list {it t : Addr} {items : Array Value} (hne : t ≠ it) : ∀ (n i : Nat) (s : Shared) (Q : List Value → Shared → Prop), s.heap.IsListIter it t i → s.heap.IsList t items → i + n ≤ items.size →
    (∀ h' : Heap, h'.IsListIter it t (i + n) → Heap.SameBut it s.heap h' → Q ((items.toList.drop i).take n) { s with heap := h' }) → wpAny (model prog w) A (draw (.ref it) n) Q E s
  | 0, i, s, Q, hit, _, _, hQ => by
    show wpAny _ _ (pure []) Q E s
    exact wpAny_pure (by simpa using hQ s.heap hit (Heap.SameBut.refl ..))
  | n + 1, i, s, Q, hit, ht, hle, hQ => by
    have hlt : i < items.size := by omega
    show wpAny _ _ (pyNext (.ref it) >>= _) Q E s
    refine wpAny_bind (wpAny_pyNext_list_item hit ht (x := items[i]) (by simp [hlt]) fun h1 hit1 hs1 => ?_)
    refine wpAny_bind (wpAny_holding (pull_list hne n (i + 1) _ _ hit1 (ht.extBut hs1.extBut hne) (by omega) fun h2 hit2 hs2 => wpAny_pure ?_))
    have hd : items.toList.drop i = items[i] :: items.toList.drop (i + 1) := by simp [List.drop_eq_getElem_cons, hlt]
    have := hQ h2 (by rw [show i + (n + 1) = i + 1 + n by omega]; exact hit2) (hs1.trans hs2)
    rw [hd, List.take_succ_cons] at this
    exact this
theorem unpackItems_lst {t : Addr} {items : Array Value} {Q : List Value → Shared → Prop} (hh : A.handled = none) (ht : s.heap.IsList t items)
    (hQ : ∀ h', Heap.ExtBut s.heap.objs.size s.heap h' → Q items.toList { s with heap := h' }) : wpAny (model prog w) A (unpackItems (.ref t) items.size none) Q E s := by
  have hlt : t ≠ s.heap.objs.size := by obtain ⟨o, ho, _⟩ := ht; exact Nat.ne_of_lt (Heap.lt_size ho)
  unfold unpackItems
  refine wpAny_bind ?_
  · unfold notIterableAtAll
    refine wpAny_bind (wpAny_specialOf ht.typeIs slot_list_iter.lookup ?_)
    refine wpAny_pure ?_
    simp only [Bool.false_eq_true, if_false]
    refine wpAny_bind (wpAny_holding (wpAny_pyIter_list ht ?_))
    refine wpAny_bind (wpAny_holding (pull_list hlt items.size 0 _ _ ⟨_, Heap.get?_push_size _ rfl, rfl, rfl⟩ (ht.push _) (by omega) fun h1 hit1 hs1 => ?_))
    have hall : List.take items.size (List.drop 0 items.toList) = items.toList := by
      rw [List.drop_zero]; exact List.take_of_length_le (by simp)
    rw [hall]
    rw [if_neg (by simp)]
    have ht1 : h1.IsList t items := (ht.push _).extBut hs1.extBut hlt
    refine wpAny_bind (wpAny_holding (wpAny_pyNext_list_end hh hit1 ht1 (by simp) fun h2 he2 => ?_))
    simp only [Option.isSome_none, Bool.false_eq_true, if_false]
    refine wpAny_pure (hQ h2 fun b o hb e => he2 b o hb (hs1.extBut b o hb (Heap.get?_push_of_some _ e)))
theorem assign_Tuple_lst {env : Env} {elts : List Expr} {x1} {pos : Pos} {t : Addr} {items : Array Value} {Q : Unit → Shared → Prop} (hh : A.handled = none) (ht : s.heap.IsList t items)
    (hn : (assignEach elts env).length = items.size) (hstar : (assignEach elts env).findIdx? (·.1) = none)
    (h : ∀ h', Heap.ExtBut s.heap.objs.size s.heap h' → wpAny (model prog w) A (assignInOrder ((assignEach elts env).map (·.2)) items.toList) Q E { s with heap := h' }) :
    wpAny (model prog w) A (assign (.Tuple elts x1 pos) env (.ref t)) Q E s := by
  rw [assign_Tuple]
  refine wpAny_bind (wpAny_standAt ?_)
  unfold unpack
  rw [hn, hstar]
  exact wpAny_bind (wpAny_holding (unpackItems_lst hh ht h))
end
variable {X : Cx}
def gTupL (K : PySem.W.Frag) (n : Nat) (t : TGs) : TG := fun v σ H Q => ∃ a xs, v = .ref a ∧ (SqT K H a xs ∨ SqL K H a xs) ∧ xs.length = n ∧ t xs σ H Q
theorem pg_tupL {es : List Expr} {k : Nat} {pos : Pos} {t : TGs} {n : Nat} (hc : X.calm = true) (h : PGs X es t)
    (hn : (assignEach es X.env).length = n := by rfl) (hst : (assignEach es X.env).findIdx? (·.1) = none := by rfl) : PG X (.Tuple es k pos) (gTupL X.K n t) := by
  intro pins s σ H v u Q I r hw
  obtain ⟨a, xs, e1, hq, hl, hw⟩ := hw
  subst e1
  cases r
  rcases hq with hq | hq
  · obtain ⟨its, rv, ht, hz⟩ := I.tuple hq
    refine assign_Tuple_tuple (I.ok.hd hc) ht (by simp [hn, ← hl, rv.length]) hst fun h' hx => ?_
    have I1 : Inv X pins σ H { s with heap := h' } := I.kept (t' := s.toks) fun b o e => hx b o (Nat.ne_of_lt (Heap.lt_size e)) e
    exact h pins _ σ H xs _ Q I1 (by simpa using rv) hw
  · obtain ⟨its, rv, ht, hz⟩ := I.list hq
    refine assign_Tuple_lst (I.ok.hd hc) ht.isList (by simp [hn, ← hl, rv.length]) hst fun h' hx => ?_
    have I1 : Inv X pins σ H { s with heap := h' } := I.kept (t' := s.toks) fun b o e => hx b o (Nat.ne_of_lt (Heap.lt_size e)) e
    exact h pins _ σ H xs _ Q I1 (by simpa using rv) hw
end L2
set_option Elab.async false
set_option linter.all false
set_option maxRecDepth 100000
namespace L2
open PySem PySem.Spec PyProof.Rows
structure Flown (P : Program) (w : World) (outer : List Env) (H : Hp) (s : Shared) (E : XK) (ea t : Addr) (cls : Value) (B : Heap) (H' : Hp) (s' : Shared) : Prop where
  os : s'.os = s.os
  bare : AllBare s'.gens
  fly : Heap.FlyingW B outer ea cls (.ref t) s'.heap
  keep : ∀ b o, s.heap.get? b = some o → H b = none → b ∉ frs outer → B.get? b = some o
  there : ∀ b o, s.heap.get? b = some o → b ∉ frs outer → ∃ o', B.get? b = some o'
  slot : ∀ b o, s.heap.get? b = some o → b ∈ frs outer → H b = none → ∃ sl, s'.heap.get? b = some { o with slots := sl }
  free : ∀ b o, s.heap.get? b = some o → H b = none → H' b = none
  tups : ∀ b xs, H b = some (.tup xs) → H' b = some (.tup xs)
  frzs : ∀ b o u, H b = some (.frz o u) → H' b = some (.frz o u)
  tbls : ∀ b ps, H b = some (.tbl ps) → ∃ more, H' b = some (.tbl (ps ++ more))
  hok : HOk P w H' B
  wish : E cls none H'
section
variable {X : Cx}
theorem ObjOk.is {P : Program} {w : World} {H : Hp} {h : Heap} {a : Addr} {o : HO} (x : ObjOk P w H h a o) : ∃ u, h.get? a = some u := by
  induction o with
  | lst xs => obtain ⟨z, its, n, r, e⟩ := x; exact ⟨_, e⟩
  | tup xs => obtain ⟨z, its, r, ob, e, c⟩ := x; exact ⟨_, e⟩
  | dK kvs => obtain ⟨z, y, vs, r, ob, es, ep, e, c⟩ := x; exact ⟨_, e⟩
  | dT kvs => obtain ⟨z, y, xs, r, ob, es, ep, e, c⟩ := x; exact ⟨_, e⟩
  | set S n => obtain ⟨ob, es, ep, t, e, c⟩ := x; exact ⟨_, e⟩
  | ins C dx fs => obtain ⟨_, _, _, e, _⟩ := x; exact ⟨_, e⟩
  | own _ => exact x
  | xd fs => obtain ⟨_, ⟨_, _, _, e, _⟩, _⟩ := x; exact ⟨_, e⟩
  | rng lo hi => obtain ⟨_, _, _, e⟩ := x; exact ⟨_, e⟩
  | frz ob u => obtain ⟨e, _⟩ := x; exact ⟨_, e⟩
  | tbl ps => exact ⟨_, x⟩
  | met f y => exact ⟨_, x⟩
  | ext φ => obtain ⟨_, e, _⟩ := x; exact e
end
def Cx.mkd (X : Cx) (e : Addr) : Cx := { X with A := X.A.mark (some (.ref e)), calm := false, xe := fun _ _ => False }
def Cx.inX (X : Cx) (e : Addr) (oe : Obj) : Cx := { X with A := X.A.mark (some (.ref e)), calm := false, pn := (e, oe) :: X.pn, xe := fun _ _ => False }
section
variable {X : Cx} {pins : List (Addr × Obj)} {σ : St} {H : Hp} {s : Shared} {e : Addr} {oe : Obj}
theorem Cx.Ok.mkd (ok : X.Ok) : (X.mkd e).Ok := ⟨ok.mod, ok.kind, ok.glob, ok.blt, ok.above, ok.inj, ok.has, ok.cab, fun h => absurd (show false = true from h) Bool.false_ne_true, ok.frames, ok.stk, ok.exf, ok.bs, ok.bsz, ok.noex, ok.exfs, ok.funs, ok.frf⟩
theorem Inv.mkd (I : Inv X pins σ H s) : Inv (X.mkd e) pins σ H s := ⟨I.ok.mkd, I.os, I.bare, I.base, I.loc, I.cell, I.free, I.freeC, I.pin, I.hok, I.len⟩
theorem Cx.Ok.inX (ok : X.Ok) : (X.inX e oe).Ok := ⟨ok.mod, ok.kind, ok.glob, ok.blt, ok.above, ok.inj, ok.has, ok.cab, fun h => absurd (show false = true from h) Bool.false_ne_true, ok.frames, ok.stk, ok.exf, ok.bs, ok.bsz, ok.noex, ok.exfs, ok.funs, ok.frf⟩
theorem Inv.inX (I : Inv X pins σ H s) (h1 : s.heap.get? e = some oe) (h2 : H e = none) (h3 : e ≠ X.env.locals) (h4 : e ∉ X.fs) (h5 : ∀ v, oe.data ≠ .cell v) : Inv (X.inX e oe) pins σ H s :=
  ⟨I.ok.inX, I.os, I.bare, I.base, I.loc, I.cell, I.free, I.freeC, fun p hp => by
    rcases List.mem_cons.mp (show p ∈ (e, oe) :: (X.pn ++ pins) from hp) with rfl | hp
    · exact ⟨h1, h2, h3, h4, h5⟩
    · exact I.pin p hp, I.hok, I.len⟩
def Ends.drop (D : Ends) (i : Nat) : Ends := { nx := fun σ H => D.nx (σ.set i none) H, rt := D.rt, bk := fun σ H => D.bk (σ.set i none) H, ct := fun σ H => D.ct (σ.set i none) H }
end
end L2
set_option Elab.async false
set_option linter.all false
set_option maxRecDepth 100000
namespace L2
open PySem PySem.Spec PyProof.Rows PySem.W Builtin Builtin.ObjectAttr Builtin.Getset_descriptor
section
variable {prog : Program} {w : World} {A : Around} {E : Value → Shared → Prop} {K : PySem.W.Frag} {a D : Addr} {o : Obj} {h : Heap} {g : Array GenState} {d : Drawn} {t : Nat} {os : OsState}
structure ExcK (K : PySem.W.Frag) (D : Addr) : Prop where
  ga : findIn K (.ref D) "__getattribute__" = some (some (.builtin "BaseException.__getattribute__"))
  gn : findIn K (.ref D) "__getattr__" = some none
  ca : findIn K (.ref D) "__class__" = some (some (.builtin "object.__class__"))
  sub : subIn K (.ref D) (.type "BaseException") = some true
  mro : mroIn K D (.type "object") = some true
  gs : specialIn K (.builtin "object.__class__") "__get__" = some (some (.builtin "getset_descriptor.__get__"))
  tk : takesIn K (.builtin "object.__class__") = some true
  cls : (clsIn K D).isSome = true
end
section
variable {X : Cx} {e : Addr} {oe : Obj} {D : Addr}
end
end L2
set_option Elab.async false
set_option linter.all false
set_option maxRecDepth 100000
namespace Mir
open PySem L2
class Zc where
  e : Addr
instance (priority := 10) zc0 : Zc := ⟨0⟩
variable [Zc]
noncomputable def cIf {α : Type} (c : Prop) (a b : α) : α := @ite α c (Classical.propDecidable c) a b
theorem cIf_pos {α : Type} {c : Prop} {a b : α} (h : c) : cIf c a b = a := by unfold cIf; rw [if_pos h]
theorem cIf_neg {α : Type} {c : Prop} {a b : α} (h : ¬ c) : cIf c a b = b := by unfold cIf; rw [if_neg h]
theorem cIf_true {α : Type} {a b : α} : cIf True a b = a := cIf_pos trivial
theorem cIf_eq {α : Type} {c : Prop} {a : Option α} {x : α} (h : cIf c a none = some x) : c ∧ a = some x := by
  by_cases hc : c
  · rw [cIf_pos hc] at h; exact ⟨hc, h⟩
  · rw [cIf_neg hc] at h; cases h
abbrev D := PyData
def KeyD : Key → D → Prop
  | .inl i, c => c = .int i
  | .inr x, c => c = .str x
mutual
inductive Rep (H : Hp) : V → D → Prop
  | non : Rep H .non .none
  | bl (b : Bool) : Rep H (.bl b) (.bool b)
  | int (i : Int) : Rep H (.int i) (.int i)
  | str (x : Str) : Rep H (.str x) (.str x)
  | lst {a : Addr} {xs : List V} {ds : List D} : Rd H a (.lst xs) → Reps H xs ds → Rep H (.ref a) (.list ds)
  | tup {a : Addr} {xs : List V} {ds : List D} : H a = some (.tup xs) → Reps H xs ds → Rep H (.ref a) (.tuple ds)
  | dct {a : Addr} {kvs : List (Key × V)} {es : List (D × D)} : Rd H a (.dK kvs) → RepKs H kvs es → Rep H (.ref a) (.dict es)
inductive Reps (H : Hp) : List V → List D → Prop
  | nil : Reps H [] []
  | cons {x : V} {xs : List V} {d : D} {ds : List D} : Rep H x d → Reps H xs ds → Reps H (x :: xs) (d :: ds)
inductive RepKs (H : Hp) : List (Key × V) → List (D × D) → Prop
  | nil : RepKs H [] []
  | cons {k : Key} {x : V} {kvs : List (Key × V)} {c d : D} {es : List (D × D)} : KeyD k c → Rep H x d → RepKs H kvs es → RepKs H ((k, x) :: kvs) ((c, d) :: es)
end
theorem rd_same {H H' : Hp} (e : Same H H') {a : Addr} {u : HO} (h : Rd H a u) : Rd H' a u := by
  rcases h with h | ⟨o, h⟩
  · exact .inl (e _ _ h)
  · exact .inr ⟨o, e _ _ h⟩
mutual
theorem Rep.mono {H H' : Hp} (e : Same H H') : ∀ {v : V} {d : D}, Rep H v d → Rep H' v d
  | _, _, .non => .non
  | _, _, .bl b => .bl b
  | _, _, .int i => .int i
  | _, _, .str x => .str x
  | _, _, .lst h r => .lst (rd_same e h) (Reps.mono e r)
  | _, _, .tup h r => .tup (e _ _ h) (Reps.mono e r)
  | _, _, .dct h r => .dct (rd_same e h) (RepKs.mono e r)
theorem Reps.mono {H H' : Hp} (e : Same H H') : ∀ {v : List V} {d : List D}, Reps H v d → Reps H' v d
  | _, _, .nil => .nil
  | _, _, .cons a b => .cons (Rep.mono e a) (Reps.mono e b)
theorem RepKs.mono {H H' : Hp} (e : Same H H') : ∀ {v : List (Key × V)} {d : List (D × D)}, RepKs H v d → RepKs H' v d
  | _, _, .nil => .nil
  | _, _, .cons k a b => .cons k (Rep.mono e a) (RepKs.mono e b)
end
theorem Reps.length {H : Hp} : ∀ {v : List V} {d : List D}, Reps H v d → v.length = d.length
  | _, _, .nil => rfl
  | _, _, .cons _ b => by simp [Reps.length b]
theorem Reps.get {H : Hp} : ∀ {v : List V} {d : List D} (i : Nat), Reps H v d → ∀ c, d[i]? = some c → ∃ x, v[i]? = some x ∧ Rep H x c
  | _, _, _, .nil, c, e => by simp at e
  | _, _, 0, .cons a _, c, e => by simp at e; subst e; exact ⟨_, rfl, a⟩
  | _, _, i + 1, .cons _ b, c, e => by
    obtain ⟨x, h1, h2⟩ := Reps.get i b c (by simpa using e)
    exact ⟨x, by simpa using h1, h2⟩
theorem Reps.append {H : Hp} : ∀ {v w : List V} {d c : List D}, Reps H v d → Reps H w c → Reps H (v ++ w) (d ++ c)
  | _, _, _, _, .nil, r => r
  | _, _, _, _, .cons a b, r => .cons a (Reps.append b r)
theorem Reps.take {H : Hp} : ∀ {v : List V} {d : List D} (n : Nat), Reps H v d → Reps H (v.take n) (d.take n)
  | _, _, 0, _ => .nil
  | _, _, _ + 1, .nil => .nil
  | _, _, n + 1, .cons a b => .cons a (Reps.take n b)
theorem Reps.drop {H : Hp} : ∀ {v : List V} {d : List D} (n : Nat), Reps H v d → Reps H (v.drop n) (d.drop n)
  | _, _, 0, r => r
  | _, _, _ + 1, .nil => .nil
  | _, _, n + 1, .cons _ b => Reps.drop n b
theorem Reps.set {H : Hp} {x : V} {c : D} (r : Rep H x c) : ∀ {v : List V} {d : List D} (i : Nat), Reps H v d → Reps H (v.set i x) (d.set i c)
  | _, _, _, .nil => .nil
  | _, _, 0, .cons _ b => .cons r b
  | _, _, i + 1, .cons a b => .cons a (Reps.set r i b)
theorem Reps.eraseIdx {H : Hp} : ∀ {v : List V} {d : List D} (i : Nat), Reps H v d → Reps H (v.eraseIdx i) (d.eraseIdx i)
  | _, _, _, .nil => .nil
  | _, _, 0, .cons _ b => b
  | _, _, i + 1, .cons a b => .cons a (Reps.eraseIdx i b)
theorem Reps.dropLast {H : Hp} {v : List V} {d : List D} (r : Reps H v d) : Reps H v.dropLast d.dropLast := by
  rw [List.dropLast_eq_take, List.dropLast_eq_take, r.length]; exact r.take _
theorem Reps.reverse {H : Hp} : ∀ {v : List V} {d : List D}, Reps H v d → Reps H v.reverse d.reverse
  | _, _, .nil => .nil
  | _, _, .cons a b => by rw [List.reverse_cons, List.reverse_cons]; exact (Reps.reverse b).append (.cons a .nil)
theorem Reps.flat {H : Hp} {v : List V} {d : List D} (r : Reps H v d) : ∀ k, Reps H (List.replicate k v).flatten (List.replicate k d).flatten
  | 0 => .nil
  | k + 1 => by
    rw [List.replicate_succ, List.replicate_succ, List.flatten_cons, List.flatten_cons]; exact r.append (Reps.flat r k)
inductive Sl where
  | no | fz (d : D) | own (d : D) | io (d : D) | ro (d : D) | ex
def Sl.isOwn : Sl → Bool
  | .own _ => true
  | .io _ => true
  | _ => false
def Sl.isRef : Sl → Bool
  | .own _ => true
  | .io _ => true
  | .ro _ => true
  | _ => false
theorem Sl.ref_of {s : Sl} (h : s.isOwn = true) : s.isRef = true := by cases s <;> first | rfl | cases h
abbrev Rho := List Sl
inductive Kd where
  | fz | new | at (i : Nat) | ro
abbrev RV := D × Kd
inductive Own (B H : Hp) (p : Addr) : D → Prop
  | lst {xs : List V} {ds : List D} : H p = some (.lst xs) → Reps B xs ds → Own B H p (.list ds)
  | dct {kvs : List (Key × V)} {es : List (D × D)} : H p = some (.dK kvs) → RepKs B kvs es → Own B H p (.dict es)
theorem Own.there {B H : Hp} {p : Addr} {d : D} (h : Own B H p d) : ∃ o, H p = some o := by cases h with
  | lst h _ => exact ⟨_, h⟩
  | dct h _ => exact ⟨_, h⟩
theorem Own.ne_none {B H : Hp} {p : Addr} {d : D} (h : Own B H p d) : H p ≠ none := by
  obtain ⟨o, e⟩ := h.there; rw [e]; simp
theorem Own.mono {B H B' H' : Hp} {p : Addr} {d : D} (h : Own B H p d) (e : Same B B') (k : ∀ o, H p = some o → H' p = some o) : Own B' H' p d := by cases h with
  | lst h r => exact .lst (k _ h) (r.mono e)
  | dct h r => exact .dct (k _ h) (r.mono e)
theorem Own.rep {B H : Hp} {p : Addr} {d : D} (h : Own B H p d) (e : Same B H) : Rep H (.ref p) d := by cases h with
  | lst h r => exact .lst (.inl h) (r.mono e)
  | dct h r => exact .dct (.inl h) (r.mono e)
theorem Own.frozen {B H B' : Hp} {p : Addr} {d : D} (h : Own B H p d) (e : Same B B') (k : ∀ o, H p = some o → B' p = some o) : Rep B' (.ref p) d := by cases h with
  | lst h r => exact .lst (.inl (k _ h)) (r.mono e)
  | dct h r => exact .dct (.inl (k _ h)) (r.mono e)
structure Fr where
  B : Hp
  H : Hp
  io : List (Nat × Addr)
  Z : Addr → Prop
def SlotOk (B H : Hp) (σ : St) (i : Nat) : Sl → Prop
  | .no => True
  | .ex => True
  | .fz d => ∃ v, σ[i]? = some (some v) ∧ Rep B v d
  | .own d => ∃ p, σ[i]? = some (some (.ref p)) ∧ B p = none ∧ Own B H p d
  | .io d => ∃ p, σ[i]? = some (some (.ref p)) ∧ B p = none ∧ Own B H p d
  | .ro d => ∃ p, σ[i]? = some (some (.ref p)) ∧ Own B H p d
structure Rel (F : Fr) (B H : Hp) (σ : St) (ρ : Rho) : Prop where
  sub : Same B H
  sB : Same F.B B
  sH : ∀ q o, F.H q = some o → (∀ x ∈ F.io, x.2 ≠ q) → H q = some o
  nB : ∀ q, F.H q ≠ none → F.B q = none → B q = none
  len : ρ.length = σ.length
  slot : ∀ (i : Nat) (s : Sl), ρ[i]? = some s → SlotOk B H σ i s
  dist : ∀ (i j : Nat) (s t : Sl) (p : Addr), ρ[i]? = some s → s.isOwn = true → ρ[j]? = some t → t.isRef = true → σ[i]? = some (some (.ref p)) → σ[j]? = some (some (.ref p)) → i = j
  ownN : ∀ (i : Nat) (d : D) (p : Addr), ρ[i]? = some (.own d) → σ[i]? = some (some (.ref p)) → F.H p = none
  fx : ∀ x ∈ F.io, σ[x.1]? = some (some (.ref x.2)) ∧ ∃ d, ρ[x.1]? = some (.io d)
  ioN : ∀ (i : Nat) (d : D), ρ[i]? = some (.io d) → ∃ p, (i, p) ∈ F.io
  tupB : ∀ q xs, H q = some (.tup xs) → B q = some (.tup xs)
  exv : ∀ i : Nat, ρ[i]? = some .ex → σ[i]? = some (some (.ref Zc.e))
  nz : ∀ q o u, H q = some (.frz o u) → F.Z q
structure Ext (σ : St) (ρ : Rho) (B H : Hp) (ρ' : Rho) (B' H' : Hp) : Prop where
  sB : Same B B'
  keep : ∀ q o, H q = some o → (∀ (i : Nat) (s : Sl), ρ[i]? = some s → s.isOwn = true → σ[i]? ≠ some (some (.ref q))) → H' q = some o ∧ (B q = none → B' q = none)
  own : ∀ (i : Nat) (s' : Sl), ρ'[i]? = some s' → s'.isOwn = true → ∃ s, ρ[i]? = some s ∧ s.isOwn = true
  ref : ∀ (i : Nat) (s' : Sl), ρ'[i]? = some s' → s'.isRef = true → ∃ s, ρ[i]? = some s ∧ s.isRef = true
  live : ∀ q, H' q = none → H q = none
theorem Ext.refl (σ : St) (ρ : Rho) (B H : Hp) : Ext σ ρ B H ρ B H := ⟨Same.refl _, fun _ _ h _ => ⟨h, id⟩, fun _ s h e => ⟨s, h, e⟩, fun _ s h e => ⟨s, h, e⟩, fun _ h => h⟩
theorem Ext.trans {σ : St} {ρ ρ1 ρ2 : Rho} {B H B1 H1 B2 H2 : Hp} (a : Ext σ ρ B H ρ1 B1 H1) (b : Ext σ ρ1 B1 H1 ρ2 B2 H2) : Ext σ ρ B H ρ2 B2 H2 := by
  refine ⟨a.sB.trans b.sB, fun q o h n => ?_, fun i s h e => ?_, fun i s h e => ?_, fun q h => a.live q (b.live q h)⟩
  · obtain ⟨h1, h2⟩ := a.keep q o h n
    obtain ⟨h3, h4⟩ := b.keep q o h1 fun i s e1 e2 => by
      obtain ⟨s', e3, e4⟩ := a.own i s e1 e2
      exact n i s' e3 e4
    exact ⟨h3, fun z => h4 (h2 z)⟩
  · obtain ⟨s1, h1, e1⟩ := b.own i s h e
    exact a.own i s1 h1 e1
  · obtain ⟨s1, h1, e1⟩ := b.ref i s h e
    exact a.ref i s1 h1 e1
def slD : Sl → D
  | .own d => d
  | .io d => d
  | .ro d => d
  | .fz d => d
  | .no => .none
  | .ex => .none
def Val (F : Fr) (B H : Hp) (σ : St) (ρ : Rho) (v : V) (r : RV) : Prop := match r.2 with
  | .fz => Rep B v r.1
  | .new => ∃ p, v = .ref p ∧ B p = none ∧ F.H p = none ∧ Own B H p r.1 ∧ ∀ (i : Nat) (s : Sl), ρ[i]? = some s → s.isRef = true → σ[i]? ≠ some (some (.ref p))
  | .at i => ∃ s, ρ[i]? = some s ∧ s.isOwn = true ∧ slD s = r.1 ∧ σ[i]? = some (some v)
  | .ro => ∃ p, v = .ref p ∧ Own B H p r.1 ∧ ∀ (i : Nat) (s : Sl), ρ[i]? = some s → s.isOwn = true → σ[i]? ≠ some (some (.ref p))
def View (B H : Hp) (v : V) (d : D) : Prop := Rep B v d ∨ ∃ p, v = .ref p ∧ Own B H p d
theorem View.rep {B H : Hp} {v : V} {d : D} (h : View B H v d) (e : Same B H) : Rep H v d := by
  rcases h with h | ⟨p, rfl, h⟩
  · exact h.mono e
  · exact h.rep e
theorem View.list {B H : Hp} {v : V} {ds : List D} (h : View B H v (.list ds)) (e : Same B H) : ∃ p xs, v = .ref p ∧ Rd H p (.lst xs) ∧ Reps B xs ds := by
  rcases h with h | ⟨p, rfl, h⟩
  · cases h with
    | lst h r => exact ⟨_, _, rfl, rd_same e h, r⟩
  · cases h with
    | lst h r => exact ⟨_, _, rfl, .inl h, r⟩
theorem View.tuple {B H : Hp} {v : V} {ds : List D} (h : View B H v (.tuple ds)) (e : Same B H) : ∃ p xs, v = .ref p ∧ H p = some (.tup xs) ∧ Reps B xs ds := by
  rcases h with h | ⟨p, rfl, h⟩
  · cases h with
    | tup h r => exact ⟨_, _, rfl, e _ _ h, r⟩
  · cases h
theorem View.dict {B H : Hp} {v : V} {es : List (D × D)} (h : View B H v (.dict es)) (e : Same B H) : ∃ p kvs, v = .ref p ∧ Rd H p (.dK kvs) ∧ RepKs B kvs es := by
  rcases h with h | ⟨p, rfl, h⟩
  · cases h with
    | dct h r => exact ⟨_, _, rfl, rd_same e h, r⟩
  · cases h with
    | dct h r => exact ⟨_, _, rfl, .inl h, r⟩
theorem View.int {B H : Hp} {v : V} {i : Int} (h : View B H v (.int i)) : v = .int i := by
  rcases h with h | ⟨p, rfl, h⟩
  · cases h; rfl
  · cases h
theorem View.bool {B H : Hp} {v : V} {b : Bool} (h : View B H v (.bool b)) : v = .bl b := by
  rcases h with h | ⟨p, rfl, h⟩
  · cases h; rfl
  · cases h
theorem View.str {B H : Hp} {v : V} {x : Str} (h : View B H v (.str x)) : v = .str x := by
  rcases h with h | ⟨p, rfl, h⟩
  · cases h; rfl
  · cases h
theorem View.none {B H : Hp} {v : V} (h : View B H v .none) : v = .non := by
  rcases h with h | ⟨p, rfl, h⟩
  · cases h; rfl
  · cases h
section
variable {F : Fr} {B H B' H' : Hp} {σ : St} {ρ ρ' : Rho} {v : V} {r : RV}
theorem Rel.ownAt (R : Rel F B H σ ρ) {i : Nat} {s : Sl} (h : ρ[i]? = some s) (e : s.isOwn = true) : ∃ p, σ[i]? = some (some (.ref p)) ∧ B p = Option.none ∧ Own B H p (slD s) := by
  have := R.slot i s h
  cases s with
  | own d => exact this
  | io d => exact this
  | _ => cases e
theorem Val.view (R : Rel F B H σ ρ) (h : Val F B H σ ρ v r) : View B H v r.1 := by
  obtain ⟨d, k⟩ := r
  cases k with
  | fz => exact .inl h
  | new => obtain ⟨p, rfl, _, _, o, _⟩ := h; exact .inr ⟨p, rfl, o⟩
  | «at» i =>
    obtain ⟨s, h1, h2, h3, h4⟩ := h
    obtain ⟨p, e1, e2, e3⟩ := R.ownAt h1 h2
    rw [h4] at e1
    cases e1
    exact .inr ⟨p, rfl, h3 ▸ e3⟩
  | ro => obtain ⟨p, rfl, o, _⟩ := h; exact .inr ⟨p, rfl, o⟩
theorem Rel.freezeNew (R : Rel F B H σ ρ) {d : D} (h : Val F B H σ ρ v (d, .new)) : ∃ B', Rel F B' H σ ρ ∧ Rep B' v d ∧ Same B B' ∧ ∀ q, v ≠ .ref q → B' q = B q := by
  obtain ⟨p, rfl, hB, hF, o, nn⟩ := h
  obtain ⟨ob, hp⟩ := o.there
  have e : Same B (upd B p ob) := same_upd hB
  have ne : ∀ (i : Nat) (s : Sl) (q : Addr), ρ[i]? = some s → s.isRef = true → σ[i]? = some (some (.ref q)) → q ≠ p := fun i s q h1 h2 h3 z => nn i s h1 h2 (z ▸ h3)
  refine ⟨upd B p ob, ⟨?_, R.sB.trans e, R.sH, ?_, R.len, ?_, R.dist, R.ownN, R.fx, R.ioN, (fun q xs h => e _ _ (R.tupB q xs h)), R.exv, R.nz⟩, ?_, e, fun q hq => upd_ne fun z => hq (z ▸ rfl)⟩
  · intro q u hq
    by_cases z : q = p
    · subst z; rw [upd_same] at hq; cases hq; exact hp
    · rw [upd_ne z] at hq; exact R.sub q u hq
  · intro q h1 h2
    have z : q ≠ p := fun z => h1 (z ▸ hF)
    rw [upd_ne z]; exact R.nB q h1 h2
  · intro i s hs
    have q := R.slot i s hs
    cases s with
    | no => trivial
    | ex => trivial
    | fz d => obtain ⟨x, h1, h2⟩ := q; exact ⟨x, h1, h2.mono e⟩
    | own d => obtain ⟨q, h1, h2, h3⟩ := q; exact ⟨q, h1, by rw [upd_ne (ne i _ q hs rfl h1)]; exact h2, h3.mono e fun _ z => z⟩
    | io d => obtain ⟨q, h1, h2, h3⟩ := q; exact ⟨q, h1, by rw [upd_ne (ne i _ q hs rfl h1)]; exact h2, h3.mono e fun _ z => z⟩
    | ro d => obtain ⟨q, h1, h3⟩ := q; exact ⟨q, h1, h3.mono e fun _ z => z⟩
  · exact o.frozen e fun u h => by rw [upd_same, ← h, hp]
theorem get_set {i j : Nat} {s t : Sl} (h : (ρ.set i s)[j]? = some t) : (j = i ∧ t = s ∧ i < ρ.length) ∨ (j ≠ i ∧ ρ[j]? = some t) := by
  by_cases z : j = i
  · subst z
    have hl : j < ρ.length := by
      have := List.getElem?_eq_some_iff.mp h
      obtain ⟨hh, _⟩ := this
      simpa using hh
    rw [List.getElem?_set_self hl] at h
    exact .inl ⟨rfl, (Option.some.inj h).symm, hl⟩
  · rw [List.getElem?_set_ne (fun e => z e.symm)] at h
    exact .inr ⟨z, h⟩
theorem ex_set {ρ : Rho} {i j : Nat} {s : Sl} (hs : s ≠ .ex) (h : (ρ.set i s)[j]? = some .ex) : ρ[j]? = some .ex ∧ j ≠ i := by
  rcases get_set h with ⟨_, z, _⟩ | ⟨hj, h⟩
  · exact absurd z.symm hs
  · exact ⟨h, hj⟩
theorem Rel.freezeAt (R : Rel F B H σ ρ) {i : Nat} {d : D} (hi : ρ[i]? = some (.own d)) (hv : σ[i]? = some (some v)) : ∃ B', Rel F B' H σ (ρ.set i (.fz d)) ∧ Rep B' v d ∧ Ext σ ρ B H (ρ.set i (.fz d)) B' H := by
  obtain ⟨p, h1, hB, o⟩ := R.slot i _ hi
  rw [hv] at h1
  cases h1
  have hF := R.ownN i d p hi hv
  obtain ⟨ob, hp⟩ := o.there
  have e : Same B (upd B p ob) := same_upd hB
  have rp : Rep (upd B p ob) (.ref p) d := o.frozen e fun u h => by rw [upd_same, ← h, hp]
  have ne : ∀ (j : Nat) (s : Sl) (q : Addr), j ≠ i → ρ[j]? = some s → s.isRef = true → σ[j]? = some (some (.ref q)) → q ≠ p := fun j s q hj h1 h2 h3 z => hj (R.dist i j _ s p hi rfl h1 h2 hv (z ▸ h3)).symm
  refine ⟨upd B p ob, ⟨?_, R.sB.trans e, R.sH, ?_, by rw [List.length_set]; exact R.len, ?_, ?_, ?_, ?_, ?_, (fun q xs h => e _ _ (R.tupB q xs h)), (fun j h => R.exv j (ex_set (by simp) h).1), R.nz⟩, rp, ⟨e, ?_, ?_, ?_, fun _ h => h⟩⟩
  · intro q u hq
    by_cases z : q = p
    · subst z; rw [upd_same] at hq; cases hq; exact hp
    · rw [upd_ne z] at hq; exact R.sub q u hq
  · intro q h1 h2
    have z : q ≠ p := fun z => h1 (z ▸ hF)
    rw [upd_ne z]; exact R.nB q h1 h2
  · intro j s hs
    rcases get_set hs with ⟨rfl, rfl, _⟩ | ⟨hj, hs⟩
    · exact ⟨_, hv, rp⟩
    · have q := R.slot j s hs
      cases s with
      | no => trivial
      | ex => trivial
      | fz d => obtain ⟨x, h1, h2⟩ := q; exact ⟨x, h1, h2.mono e⟩
      | own d => obtain ⟨q, h1, h2, h3⟩ := q; exact ⟨q, h1, by rw [upd_ne (ne j _ q hj hs rfl h1)]; exact h2, h3.mono e fun _ z => z⟩
      | io d => obtain ⟨q, h1, h2, h3⟩ := q; exact ⟨q, h1, by rw [upd_ne (ne j _ q hj hs rfl h1)]; exact h2, h3.mono e fun _ z => z⟩
      | ro d => obtain ⟨q, h1, h3⟩ := q; exact ⟨q, h1, h3.mono e fun _ z => z⟩
  · intro a b s t q h1 h2 h3 h4 h5 h6
    rcases get_set h1 with ⟨rfl, rfl, _⟩ | ⟨ha, h1⟩
    · cases h2
    · rcases get_set h3 with ⟨rfl, rfl, _⟩ | ⟨hb, h3⟩
      · cases h4
      · exact R.dist a b s t q h1 h2 h3 h4 h5 h6
  · intro j c q h1 h2
    rcases get_set h1 with ⟨rfl, h, _⟩ | ⟨_, h1⟩
    · cases h
    · exact R.ownN j c q h1 h2
  · intro x hx
    obtain ⟨h1, c, h2⟩ := R.fx x hx
    refine ⟨h1, c, ?_⟩
    by_cases z : i = x.1
    · subst z; rw [hi] at h2; cases h2
    · rw [List.getElem?_set_ne z]; exact h2
  · intro j c h1
    rcases get_set h1 with ⟨rfl, h, _⟩ | ⟨_, h1⟩
    · cases h
    · exact R.ioN j c h1
  · intro q u hq hn
    refine ⟨hq, fun z => ?_⟩
    rw [upd_ne (show q ≠ p from fun y => hn i _ hi rfl (by rw [y]; exact hv))]; exact z
  · intro j s h1 h2
    rcases get_set h1 with ⟨rfl, rfl, _⟩ | ⟨_, h1⟩
    · cases h2
    · exact ⟨s, h1, h2⟩
  · intro j s h1 h2
    rcases get_set h1 with ⟨rfl, rfl, _⟩ | ⟨_, h1⟩
    · cases h2
    · exact ⟨s, h1, h2⟩
theorem Rel.free (R : Rel F B H σ ρ) {p : Addr} (hp : H p = none) : B p = none ∧ F.H p = none ∧ ∀ (i : Nat) (s : Sl), ρ[i]? = some s → s.isRef = true → σ[i]? ≠ some (some (.ref p)) := by
  have hB : B p = none := R.sub.free hp
  have nn : ∀ (i : Nat) (s : Sl), ρ[i]? = some s → s.isRef = true → σ[i]? ≠ some (some (.ref p)) := fun i s h1 h2 h3 => by
    have q := R.slot i s h1
    cases s with
    | own d => obtain ⟨q, e1, _, e3⟩ := q; rw [h3] at e1; cases e1; exact e3.ne_none hp
    | io d => obtain ⟨q, e1, _, e3⟩ := q; rw [h3] at e1; cases e1; exact e3.ne_none hp
    | ro d => obtain ⟨q, e1, e3⟩ := q; rw [h3] at e1; cases e1; exact e3.ne_none hp
    | no => cases h2
    | ex => cases h2
    | fz d => cases h2
  refine ⟨hB, ?_, nn⟩
  cases q : F.H p with
  | none => rfl
  | some u =>
    by_cases z : ∃ x ∈ F.io, x.2 = p
    · obtain ⟨x, hx, rfl⟩ := z
      obtain ⟨h1, d, h2⟩ := R.fx x hx
      exact absurd h1 (nn _ _ h2 rfl)
    · have := R.sH p u q fun x hx y => z ⟨x, hx, y⟩
      rw [hp] at this; cases this
theorem Rel.grow (R : Rel F B H σ ρ) (eB : Same B B') (eH : Same H H') (sub : Same B' H') (nb : ∀ q, H q ≠ none → B q = none → B' q = none) (tB : ∀ q xs, H' q = some (.tup xs) → B' q = some (.tup xs)) (nf : ∀ q o u, H' q = some (.frz o u) → H q ≠ none) : Rel F B' H' σ ρ := by
  have lv : ∀ q, F.H q ≠ none → H q ≠ none := fun q h z => h (R.free z).2.1
  refine ⟨sub, R.sB.trans eB, fun q u h1 h2 => eH _ _ (R.sH q u h1 h2), fun q h1 h2 => nb q (lv q h1) (R.nB q h1 h2), R.len, fun i s hs => ?_, R.dist, R.ownN, R.fx, R.ioN, tB, R.exv, fun q o u h => by
    cases y : H q with
    | none => exact absurd y (nf q o u h)
    | some x =>
      have := eH q x y
      rw [h] at this
      cases this
      exact R.nz q o u y⟩
  have q := R.slot i s hs
  cases s with
  | no => trivial
  | ex => trivial
  | fz d => obtain ⟨x, h1, h2⟩ := q; exact ⟨x, h1, h2.mono eB⟩
  | own d => obtain ⟨q, h1, h2, h3⟩ := q; exact ⟨q, h1, nb q h3.ne_none h2, h3.mono eB fun _ z => eH _ _ z⟩
  | io d => obtain ⟨q, h1, h2, h3⟩ := q; exact ⟨q, h1, nb q h3.ne_none h2, h3.mono eB fun _ z => eH _ _ z⟩
  | ro d => obtain ⟨q, h1, h3⟩ := q; exact ⟨q, h1, h3.mono eB fun _ z => eH _ _ z⟩
theorem Ext.grow (eB : Same B B') (eH : Same H H') (nb : ∀ q, H q ≠ none → B q = none → B' q = none) : Ext σ ρ B H ρ B' H' :=
  ⟨eB, fun q u h _ => ⟨eH _ _ h, fun z => nb q (by rw [h]; simp) z⟩, fun _ s h z => ⟨s, h, z⟩, fun _ s h z => ⟨s, h, z⟩, fun q h => eH.free h⟩
theorem Rel.lay (R : Rel F B H σ ρ) {p : Addr} {o : HO} (hp : H p = none) (no : (∀ xs, o ≠ .tup xs) ∧ ∀ a u, o ≠ .frz a u) : Rel F B (upd H p o) σ ρ ∧ Ext σ ρ B H ρ B (upd H p o) := by
  have e : Same H (upd H p o) := same_upd hp
  refine ⟨R.grow (Same.refl _) e (R.sub.trans e) (fun _ _ z => z) (fun q xs h => ?_) (fun q a u h y => ?_), Ext.grow (Same.refl _) e fun _ _ z => z⟩
  · by_cases z : q = p
    · subst z; rw [upd_same] at h; cases h; exact absurd rfl (no.1 xs)
    · rw [upd_ne z] at h; exact R.tupB q xs h
  · by_cases z : q = p
    · subst z; rw [upd_same] at h; cases h; exact no.2 _ _ rfl
    · rw [upd_ne z, y] at h; cases h
theorem Rel.layT (R : Rel F B H σ ρ) {p : Addr} {xs : List V} (hp : H p = none) : Rel F (upd B p (.tup xs)) (upd H p (.tup xs)) σ ρ ∧ Ext σ ρ B H ρ (upd B p (.tup xs)) (upd H p (.tup xs)) ∧ Same B (upd B p (.tup xs)) := by
  have hB := (R.free hp).1
  have eH : Same H (upd H p (.tup xs)) := same_upd hp
  have eB : Same B (upd B p (.tup xs)) := same_upd hB
  have nb : ∀ q, H q ≠ none → B q = none → upd B p (.tup xs) q = none := fun q h z => by rw [upd_ne (show q ≠ p from fun y => h (by rw [y]; exact hp))]; exact z
  refine ⟨R.grow eB eH (fun q u h => ?_) nb (fun q ys h => ?_) (fun q a u h y => ?_), Ext.grow eB eH nb, eB⟩
  · by_cases z : q = p
    · subst z; rw [upd_same] at h ⊢; exact h
    · rw [upd_ne z] at h ⊢; exact R.sub q u h
  · by_cases z : q = p
    · subst z; rw [upd_same] at h ⊢; exact h
    · rw [upd_ne z] at h ⊢; exact R.tupB q ys h
  · by_cases z : q = p
    · subst z; rw [upd_same] at h; cases h
    · rw [upd_ne z, y] at h; cases h
end
end Mir
set_option Elab.async false
set_option linter.all false
set_option maxRecDepth 100000
namespace Mir
open PySem L2
variable [Zc]
abbrev PM := Rho → Option (RV × Rho)
def ME (t : TE) (m : PM) : Prop :=
  ∀ (F : Fr) (B H : Hp) (σ : St) (ρ : Rho) (r : RV) (ρ' : Rho) (Q : VK), Rel F B H σ ρ → m ρ = some (r, ρ') →
    (∀ v B' H', Ext σ ρ B H ρ' B' H' → Rel F B' H' σ ρ' → Val F B' H' σ ρ' v r → (∀ p, r.2 = .new → v = .ref p → H p = none) → Q v H') → t σ H Q
def MT (t : TT) (m : Rho → Option (Bool × Rho)) : Prop :=
  ∀ (F : Fr) (B H : Hp) (σ : St) (ρ : Rho) (b : Bool) (ρ' : Rho) (Q : Bool → Hp → Prop), Rel F B H σ ρ → m ρ = some (b, ρ') →
    (∀ B' H', Ext σ ρ B H ρ' B' H' → Rel F B' H' σ ρ' → Q b H') → t σ H Q
def Vl (F : Fr) (B H : Hp) (σ : St) (ρ : Rho) : List V → List RV → Prop
  | [], [] => True
  | v :: vs, r :: rs => (Val F B H σ ρ v r ∧ r.2 ≠ .new) ∧ Vl F B H σ ρ vs rs
  | _, _ => False
def MA (t : TA) (m : Rho → Option (List RV × Rho)) : Prop :=
  ∀ (F : Fr) (B H : Hp) (σ : St) (ρ : Rho) (rs : List RV) (ρ' : Rho) (Q : List V → Hp → Prop), Rel F B H σ ρ → m ρ = some (rs, ρ') →
    (∀ vs B' H', Ext σ ρ B H ρ' B' H' → Rel F B' H' σ ρ' → Vl F B' H' σ ρ' vs rs → Q vs H') → t σ H Q
def sv (m : PM) : PM := fun ρ => match m ρ with
  | some ((d, .new), ρ') => some ((d, .fz), ρ')
  | x => x
theorem sv_kind {m : PM} {ρ ρ' : Rho} {r : RV} (h : sv m ρ = some (r, ρ')) : r.2 ≠ .new := by
  unfold sv at h
  split at h
  · cases h; simp
  · rename_i hx
    intro e
    obtain ⟨d, k⟩ := r
    cases (show k = .new from e)
    exact hx d ρ' h
theorem ME.sv {t : TE} {m : PM} (h : ME t m) : ME t (sv m) := by
  intro F B H σ ρ r ρ' Q R e q
  unfold Mir.sv at e
  split at e
  · rename_i d ρ1 e1
    cases e
    refine h F B H σ ρ _ _ Q R e1 fun v B' H' E R' V' N => ?_
    obtain ⟨B2, R2, rp, s2, k2⟩ := R'.freezeNew V'
    refine q v B2 H' ⟨E.sB.trans s2, fun q o h1 h2 => ?_, E.own, E.ref, E.live⟩ R2 rp (fun _ z => by cases z)
    obtain ⟨h3, h4⟩ := E.keep q o h1 h2
    refine ⟨h3, fun z => ?_⟩
    rw [k2 q fun y => by
      have := N q rfl y
      rw [h1] at this; cases this]
    exact h4 z
  · exact h F B H σ ρ r ρ' Q R e q
def refr (ρ : Rho) (r : RV) : Option RV := match r.2 with
  | .at i => match ρ[i]? with
    | some (.own d) => some (d, .at i)
    | some (.io d) => some (d, .at i)
    | some (.fz d) => some (d, .fz)
    | _ => none
  | _ => some r
section
variable {F : Fr} {B H B' H' : Hp} {σ : St} {ρ ρ' : Rho} {v : V} {r r' : RV}
theorem Val.next (E : Ext σ ρ B H ρ' B' H') (R' : Rel F B' H' σ ρ') (h : Val F B H σ ρ v r) (nn : r.2 ≠ .new) (e : refr ρ' r = some r') : Val F B' H' σ ρ' v r' ∧ r'.2 ≠ .new := by
  obtain ⟨d, k⟩ := r
  cases k with
  | fz => cases e; exact ⟨Rep.mono E.sB h, nn⟩
  | new => exact absurd rfl nn
  | «at» i =>
    obtain ⟨s, h1, h2, h3, h4⟩ := h
    have e' : (match ρ'[i]? with
      | some (.own d) => some (d, Kd.at i)
      | some (.io d) => some (d, Kd.at i)
      | some (.fz d) => some (d, Kd.fz)
      | _ => none) = some r' := e
    cases q : ρ'[i]? with
    | none => rw [q] at e'; cases e'
    | some s' =>
      rw [q] at e'
      cases s' with
      | own c => cases e'; exact ⟨⟨_, q, rfl, rfl, h4⟩, by simp⟩
      | io c => cases e'; exact ⟨⟨_, q, rfl, rfl, h4⟩, by simp⟩
      | fz c =>
        cases e'
        obtain ⟨x, y1, y2⟩ := R'.slot i _ q
        rw [h4] at y1; cases y1
        exact ⟨y2, by simp⟩
      | no => cases e'
      | ex => cases e'
      | ro c => cases e'
  | ro =>
    cases e
    obtain ⟨p, rfl, o, n⟩ := h
    obtain ⟨ob, hp⟩ := o.there
    refine ⟨⟨p, rfl, o.mono E.sB fun u hu => (E.keep p u hu n).1, fun i s h1 h2 => ?_⟩, nn⟩
    obtain ⟨s0, h3, h4⟩ := E.own i s h1 h2
    exact n i s0 h3 h4
end
def ResOk (B H : Hp) (res : D × Bool) (k : VK → Prop) : Prop := match res with
  | (d, false) => ∃ v, Rep B v d ∧ ∀ Q : VK, Q v H → k Q
  | (.list ds, true) => ∃ vs, Reps B vs ds ∧ ∀ Q : VK, (∀ p, H p = none → Q (.ref p) (upd H p (.lst vs))) → k Q
  | (.tuple ds, true) => ∃ vs, Reps B vs ds ∧ ∀ Q : VK, (∀ p, H p = none → Q (.ref p) (upd H p (.tup vs))) → k Q
  | (.dict es, true) => ∃ kvs, RepKs B kvs es ∧ ∀ Q : VK, (∀ p, H p = none → Q (.ref p) (upd H p (.dK kvs))) → k Q
  | _ => False
def resK : D × Bool → RV
  | (d, false) => (d, .fz)
  | (.tuple ds, true) => (.tuple ds, .fz)
  | (d, true) => (d, .new)
theorem res_end {F : Fr} {B H : Hp} {σ : St} {ρ : Rho} {res : D × Bool} {k : VK → Prop} {Q : VK} (R : Rel F B H σ ρ) (h : ResOk B H res k)
    (q : ∀ v B' H', Ext σ ρ B H ρ B' H' → Rel F B' H' σ ρ → Val F B' H' σ ρ v (resK res) → (∀ p, (resK res).2 = .new → v = .ref p → H p = none) → Q v H') : k Q := by
  obtain ⟨d, b⟩ := res
  cases b with
  | false =>
    obtain ⟨v, rp, hk⟩ := h
    exact hk Q (q v B H (Ext.refl _ _ _ _) R rp fun p z => by cases z)
  | true =>
    cases d with
    | list ds =>
      obtain ⟨vs, rp, hk⟩ := h
      refine hk Q fun p hp => ?_
      obtain ⟨R', E⟩ := R.lay (o := .lst vs) hp ⟨(fun _ z => by cases z), fun _ _ z => by cases z⟩
      obtain ⟨hB, hF, nn⟩ := R.free hp
      exact q _ B _ E R' ⟨p, rfl, hB, hF, .lst upd_same rp, nn⟩ fun q _ z => by cases z; exact hp
    | dict es =>
      obtain ⟨kvs, rp, hk⟩ := h
      refine hk Q fun p hp => ?_
      obtain ⟨R', E⟩ := R.lay (o := .dK kvs) hp ⟨(fun _ z => by cases z), fun _ _ z => by cases z⟩
      obtain ⟨hB, hF, nn⟩ := R.free hp
      exact q _ B _ E R' ⟨p, rfl, hB, hF, .dct upd_same rp, nn⟩ fun q _ z => by cases z; exact hp
    | tuple ds =>
      obtain ⟨vs, rp, hk⟩ := h
      refine hk Q fun p hp => ?_
      obtain ⟨R', E, e⟩ := R.layT (xs := vs) hp
      exact q _ _ _ E R' (show Rep _ _ _ from .tup upd_same (rp.mono e)) fun q z => by cases z
    | none => exact h.elim
    | bool _ => exact h.elim
    | int _ => exact h.elim
    | str _ => exact h.elim
def mC (d : D) : PM := fun ρ => some ((d, .fz), ρ)
theorem me_c {v : V} {d : D} (h : ∀ B, Rep B v d) : ME (tC v) (mC d) := by
  intro F B H σ ρ r ρ' Q R e q
  cases e
  exact q v B H (Ext.refl _ _ _ _) R (h B) fun p z => by cases z
theorem me_int {i : Int} : ME (tC (.int i)) (mC (.int i)) := me_c fun _ => .int i
theorem me_bl {b : Bool} : ME (tC (.bl b)) (mC (.bool b)) := me_c fun _ => .bl b
theorem me_non : ME (tC .non) (mC .none) := me_c fun _ => .non
theorem me_str {x : Str} : ME (tC (.str x)) (mC (.str x)) := me_c fun _ => .str x
def mVar (i : Nat) : PM := fun ρ => match ρ[i]? with
  | some (.fz d) => some ((d, .fz), ρ)
  | some (.own d) => some ((d, .at i), ρ)
  | some (.io d) => some ((d, .at i), ρ)
  | some (.ro d) => some ((d, .ro), ρ)
  | _ => none
theorem me_var {i : Nat} : ME (tVar i) (mVar i) := by
  intro F B H σ ρ r ρ' Q R e q
  unfold mVar at e
  cases hs : ρ[i]? with
  | none => rw [hs] at e; cases e
  | some s =>
    rw [hs] at e
    have sl := R.slot i s hs
    cases s with
    | no => cases e
    | ex => cases e
    | fz d =>
      cases e
      obtain ⟨v, h1, h2⟩ := sl
      exact ⟨v, h1, q v B H (Ext.refl _ _ _ _) R h2 fun p z => by cases z⟩
    | own d =>
      cases e
      obtain ⟨p, h1, h2, h3⟩ := sl
      exact ⟨_, h1, q _ B H (Ext.refl _ _ _ _) R ⟨_, hs, rfl, rfl, h1⟩ fun p z => by cases z⟩
    | io d =>
      cases e
      obtain ⟨p, h1, h2, h3⟩ := sl
      exact ⟨_, h1, q _ B H (Ext.refl _ _ _ _) R ⟨_, hs, rfl, rfl, h1⟩ fun p z => by cases z⟩
    | ro d =>
      cases e
      obtain ⟨p, h1, h3⟩ := sl
      refine ⟨_, h1, q _ B H (Ext.refl _ _ _ _) R ⟨p, rfl, h3, fun j s h4 h5 h6 => ?_⟩ fun p z => by cases z⟩
      have := R.dist j i s _ p h4 h5 hs rfl h6 h1
      subst this
      rw [hs] at h4; cases h4; cases h5
def OpJ (r : R2) (g : D → D → Option (D × Bool)) : Prop :=
  ∀ (B H : Hp) (x y : V) (c d : D) (res : D × Bool), Same B H → View B H x c → View B H y d → g c d = some res → ResOk B H res fun Q => r x y H Q
def mOp (g : D → D → Option (D × Bool)) (a b : PM) : PM := fun ρ => (sv a ρ).bind fun x => (sv b x.2).bind fun y => (refr y.2 x.1).bind fun r => (g r.1 y.1.1).map fun res => (resK res, y.2)
theorem me_op {r : R2} {g : D → D → Option (D × Bool)} {ta tb : TE} {a b : PM} (J : OpJ r g) (ha : ME ta a) (hb : ME tb b) : ME (tOp r ta tb) (mOp g a b) := by
  intro F B H σ ρ r0 ρ' Q R e q
  obtain ⟨x, e1, e⟩ := Option.bind_eq_some_iff.mp e
  obtain ⟨y, e2, e⟩ := Option.bind_eq_some_iff.mp e
  obtain ⟨r', e3, e⟩ := Option.bind_eq_some_iff.mp e
  obtain ⟨res, e4, e⟩ := Option.map_eq_some_iff.mp e
  cases e
  refine ha.sv F B H σ ρ x.1 x.2 _ R e1 fun v B1 H1 E1 R1 V1 N1 => ?_
  refine hb.sv F B1 H1 σ x.2 y.1 y.2 _ R1 e2 fun u B2 H2 E2 R2 V2 N2 => ?_
  obtain ⟨V3, n3⟩ := V1.next E2 R2 (sv_kind e1) e3
  refine res_end R2 (J B2 H2 v u r'.1 y.1.1 res R2.sub (V3.view R2) (V2.view R2) e4) fun w B3 H3 E3 R3 V4 N4 => ?_
  refine q w B3 H3 (E1.trans (E2.trans E3)) R3 V4 fun p z1 z2 => ?_
  exact E1.live p (E2.live p (N4 p z1 z2))
end Mir
set_option Elab.async false
set_option linter.all false
set_option maxRecDepth 100000
namespace Mir
open PySem L2
variable [Zc]
theorem Ext.fresh {σ : St} {ρ ρ' : Rho} {B H B' H' : Hp} (E : Ext σ ρ B H ρ' B' H') {p : Addr} (h : H' p = none) : H p = none := E.live p h
def UnJ (r : V → Hp → VK → Prop) (g : D → Option (D × Bool)) : Prop := ∀ (B H : Hp) (x : V) (c : D) (res : D × Bool), Same B H → View B H x c → g c = some res → ResOk B H res fun Q => r x H Q
def mUn (g : D → Option (D × Bool)) (a : PM) : PM := fun ρ => (sv a ρ).bind fun x => (g x.1.1).map fun res => (resK res, x.2)
theorem me_un {r : V → Hp → VK → Prop} {g : D → Option (D × Bool)} {ta : TE} {a : PM} (J : UnJ r g) (ha : ME ta a) : ME (tUn r ta) (mUn g a) := by
  intro F B H σ ρ r0 ρ' Q R e q
  obtain ⟨x, e1, e⟩ := Option.bind_eq_some_iff.mp e
  obtain ⟨res, e4, e⟩ := Option.map_eq_some_iff.mp e
  cases e
  refine ha.sv F B H σ ρ x.1 x.2 _ R e1 fun v B1 H1 E1 R1 V1 N1 => ?_
  exact res_end R1 (J B1 H1 v x.1.1 res R1.sub (V1.view R1) e4) fun w B3 H3 E3 R3 V4 N4 => q w B3 H3 (E1.trans E3) R3 V4 fun p z1 z2 => E1.live p (N4 p z1 z2)
def asB : RV × Rho → Option (Bool × Rho)
  | ((.bool b, _), ρ) => some (b, ρ)
  | _ => none
theorem asB_eq {x : RV × Rho} {b : Bool} {ρ : Rho} (h : asB x = some (b, ρ)) : x.1.1 = .bool b ∧ x.2 = ρ := by
  obtain ⟨⟨d, k⟩, ρ0⟩ := x
  cases d with
  | bool c => cases h; exact ⟨rfl, rfl⟩
  | _ => cases h
def mTest (a : PM) : Rho → Option (Bool × Rho) := fun ρ => (sv a ρ).bind asB
theorem mt_test {ta : TE} {a : PM} (ha : ME ta a) : MT (tTest ta) (mTest a) := by
  intro F B H σ ρ b ρ' Q R e q
  obtain ⟨x, e1, e⟩ := Option.bind_eq_some_iff.mp e
  obtain ⟨h1, h2⟩ := asB_eq e
  refine ha.sv F B H σ ρ x.1 x.2 _ R e1 fun v B1 H1 E1 R1 V1 N1 => ?_
  have := V1.view R1
  rw [h1] at this
  rw [h2] at E1 R1
  exact ⟨b, this.bool, q B1 H1 E1 R1⟩
theorem mt_tB {ta : TE} {a : PM} (ha : ME ta a) : MT (tB ta) (mTest a) := mt_test ha
def mAnd (a b : Rho → Option (Bool × Rho)) : Rho → Option (Bool × Rho) := fun ρ => (a ρ).bind fun x => if x.1 = true then b x.2 else some (false, x.2)
def mOr (a b : Rho → Option (Bool × Rho)) : Rho → Option (Bool × Rho) := fun ρ => (a ρ).bind fun x => if x.1 = true then some (true, x.2) else b x.2
def mNot (a : Rho → Option (Bool × Rho)) : Rho → Option (Bool × Rho) := fun ρ => (a ρ).map fun x => (!x.1, x.2)
section
variable {ta tb : TT} {a b : Rho → Option (Bool × Rho)}
theorem mt_and (ha : MT ta a) (hb : MT tb b) : MT (tAnd ta tb) (mAnd a b) := by
  intro F B H σ ρ c ρ' Q R e q
  obtain ⟨x, e1, e⟩ := Option.bind_eq_some_iff.mp e
  refine ha F B H σ ρ x.1 x.2 _ R e1 fun B1 H1 E1 R1 => ?_
  by_cases h : x.1 = true
  · rw [if_pos h] at e ⊢
    exact hb F B1 H1 σ x.2 c ρ' Q R1 e fun B2 H2 E2 R2 => q B2 H2 (E1.trans E2) R2
  · rw [if_neg h] at e ⊢
    cases e
    exact q B1 H1 E1 R1
theorem mt_or (ha : MT ta a) (hb : MT tb b) : MT (tOr ta tb) (mOr a b) := by
  intro F B H σ ρ c ρ' Q R e q
  obtain ⟨x, e1, e⟩ := Option.bind_eq_some_iff.mp e
  refine ha F B H σ ρ x.1 x.2 _ R e1 fun B1 H1 E1 R1 => ?_
  by_cases h : x.1 = true
  · rw [if_pos h] at e ⊢
    cases e
    exact q B1 H1 E1 R1
  · rw [if_neg h] at e ⊢
    exact hb F B1 H1 σ x.2 c ρ' Q R1 e fun B2 H2 E2 R2 => q B2 H2 (E1.trans E2) R2
theorem mt_not (ha : MT ta a) : MT (tNot ta) (mNot a) := by
  intro F B H σ ρ c ρ' Q R e q
  obtain ⟨x, e1, e⟩ := Option.map_eq_some_iff.mp e
  cases e
  exact ha F B H σ ρ x.1 x.2 _ R e1 fun B1 H1 E1 R1 => q B1 H1 E1 R1
end
section
variable {ta tb : TE} {a b : PM}
def mAndV (a b : PM) : PM := fun ρ => (mTest a ρ).bind fun x => if x.1 = true then b x.2 else some ((.bool false, .fz), x.2)
def mOrV (a b : PM) : PM := fun ρ => (mTest a ρ).bind fun x => if x.1 = true then some ((.bool true, .fz), x.2) else b x.2
def mNotV (a : PM) : PM := fun ρ => (mTest a ρ).map fun x => ((.bool !x.1, .fz), x.2)
theorem me_andV (ha : ME ta a) (hb : ME tb b) : ME (tAndV ta tb) (mAndV a b) := by
  intro F B H σ ρ c ρ' Q R e q
  obtain ⟨x, e1, e⟩ := Option.bind_eq_some_iff.mp e
  refine mt_test ha F B H σ ρ x.1 x.2 (fun c H1 => if c = true then tb σ H1 Q else Q (.bl false) H1) R e1 fun B1 H1 E1 R1 => ?_
  by_cases h : x.1 = true
  · rw [if_pos h] at e ⊢
    exact hb F B1 H1 σ x.2 c ρ' Q R1 e fun v B2 H2 E2 R2 V2 N2 => q v B2 H2 (E1.trans E2) R2 V2 fun p z1 z2 => E1.live p (N2 p z1 z2)
  · rw [if_neg h] at e ⊢
    cases e
    exact q _ B1 H1 E1 R1 (.bl false) fun p z => by cases z
theorem me_notV (ha : ME ta a) : ME (tNotV ta) (mNotV a) := by
  intro F B H σ ρ c ρ' Q R e q
  obtain ⟨x, e1, e⟩ := Option.map_eq_some_iff.mp e
  cases e
  exact mt_test ha F B H σ ρ x.1 x.2 (fun c H1 => Q (.bl !c) H1) R e1 fun B1 H1 E1 R1 => q _ B1 H1 E1 R1 (.bl _) fun p z => by cases z
def mIfE (c : Rho → Option (Bool × Rho)) (a b : PM) : PM := fun ρ => (c ρ).bind fun x => if x.1 = true then a x.2 else b x.2
end
def mNil : Rho → Option (List RV × Rho) := fun ρ => some ([], ρ)
def mCons (a : PM) (m : Rho → Option (List RV × Rho)) : Rho → Option (List RV × Rho) := fun ρ => (sv a ρ).bind fun x => (m x.2).bind fun y => (refr y.2 x.1).map fun r => (r :: y.1, y.2)
theorem ma_nil : MA tNil mNil := by
  intro F B H σ ρ rs ρ' Q R e q
  cases e
  exact q [] B H (Ext.refl _ _ _ _) R trivial
theorem ma_cons {ta : TE} {tr : TA} {a : PM} {m : Rho → Option (List RV × Rho)} (ha : ME ta a) (hr : MA tr m) : MA (tCons ta tr) (mCons a m) := by
  intro F B H σ ρ rs ρ' Q R e q
  obtain ⟨x, e1, e⟩ := Option.bind_eq_some_iff.mp e
  obtain ⟨y, e2, e⟩ := Option.bind_eq_some_iff.mp e
  obtain ⟨r, e3, e⟩ := Option.map_eq_some_iff.mp e
  cases e
  refine ha.sv F B H σ ρ x.1 x.2 _ R e1 fun v B1 H1 E1 R1 V1 N1 => ?_
  refine hr F B1 H1 σ x.2 y.1 y.2 _ R1 e2 fun vs B2 H2 E2 R2 V2 => ?_
  exact q (v :: vs) B2 H2 (E1.trans E2) R2 ⟨V1.next E2 R2 (sv_kind e1) e3, V2⟩
def WVal (B : Hp) (σ : St) (v : V) (r : RV) : Prop := match r.2 with
  | .fz => Rep B v r.1
  | .at i => σ[i]? = some (some v)
  | _ => True
def WVl (B : Hp) (σ : St) : List V → List RV → Prop
  | [], [] => True
  | v :: vs, r :: rs => WVal B σ v r ∧ WVl B σ vs rs
  | _, _ => False
theorem Vl.weak {F : Fr} {B H : Hp} {σ : St} {ρ : Rho} : ∀ {vs : List V} {rs : List RV}, Vl F B H σ ρ vs rs → WVl B σ vs rs
  | [], [], _ => trivial
  | v :: vs, r :: rs, ⟨⟨h, n⟩, t⟩ => by
    refine ⟨?_, Vl.weak t⟩
    obtain ⟨d, k⟩ := r
    cases k with
    | fz => exact h
    | «at» i => obtain ⟨_, _, _, _, e⟩ := h; exact e
    | new => trivial
    | ro => trivial
theorem WVl.mono {B B' : Hp} {σ : St} (e : Same B B') : ∀ {vs : List V} {rs : List RV}, WVl B σ vs rs → WVl B' σ vs rs
  | [], [], _ => trivial
  | v :: vs, r :: rs, ⟨h, t⟩ => by
    refine ⟨?_, WVl.mono e t⟩
    obtain ⟨d, k⟩ := r
    cases k with
    | fz => exact Rep.mono e h
    | «at» i => exact h
    | new => trivial
    | ro => trivial
def fzOne (r : RV) (ρ : Rho) : Option (D × Rho) := match r.2 with
  | .fz => some (r.1, ρ)
  | .at i => match ρ[i]? with
    | some (.own d) => some (d, ρ.set i (.fz d))
    | some (.fz d) => some (d, ρ)
    | _ => none
  | _ => none
def fzAll : List RV → Rho → Option (List D × Rho)
  | [], ρ => some ([], ρ)
  | r :: rs, ρ => (fzOne r ρ).bind fun x => (fzAll rs x.2).map fun y => (x.1 :: y.1, y.2)
section
variable {F : Fr} {B H : Hp} {σ : St} {ρ ρ' : Rho}
theorem Rel.frz (R : Rel F B H σ ρ) {v : V} {r : RV} {d : D} (w : WVal B σ v r) (e : fzOne r ρ = some (d, ρ')) : ∃ B', Rel F B' H σ ρ' ∧ Rep B' v d ∧ Ext σ ρ B H ρ' B' H := by
  obtain ⟨c, k⟩ := r
  cases k with
  | fz => cases e; exact ⟨B, R, w, Ext.refl _ _ _ _⟩
  | new => cases e
  | ro => cases e
  | «at» i =>
    have e' : (match ρ[i]? with
      | some (.own d) => some (d, ρ.set i (.fz d))
      | some (.fz d) => some (d, ρ)
      | _ => none) = some (d, ρ') := e
    cases q : ρ[i]? with
    | none => rw [q] at e'; cases e'
    | some s =>
      rw [q] at e'
      cases s with
      | own c => cases e'; exact R.freezeAt q w
      | fz c =>
        cases e'
        obtain ⟨x, h1, h2⟩ := R.slot i _ q
        have w' : σ[i]? = some (some v) := w
        rw [w'] at h1; cases h1
        exact ⟨B, R, h2, Ext.refl _ _ _ _⟩
      | no => cases e'
      | ex => cases e'
      | io c => cases e'
      | ro c => cases e'
theorem Rel.frzL : ∀ {rs : List RV} {vs : List V} {ds : List D} {B : Hp} {ρ ρ' : Rho}, Rel F B H σ ρ → WVl B σ vs rs → fzAll rs ρ = some (ds, ρ') → ∃ B', Rel F B' H σ ρ' ∧ Reps B' vs ds ∧ Ext σ ρ B H ρ' B' H
  | [], [], ds, B, ρ, ρ', R, _, e => by cases e; exact ⟨B, R, .nil, Ext.refl _ _ _ _⟩
  | r :: rs, v :: vs, ds, B, ρ, ρ', R, ⟨w, ws⟩, e => by
    obtain ⟨x, e1, e⟩ := Option.bind_eq_some_iff.mp e
    obtain ⟨y, e2, e⟩ := Option.map_eq_some_iff.mp e
    cases e
    obtain ⟨B1, R1, rp, E1⟩ := R.frz w e1
    obtain ⟨B2, R2, rps, E2⟩ := Rel.frzL R1 (ws.mono E1.sB) e2
    exact ⟨B2, R2, .cons (rp.mono E2.sB) rps, E1.trans E2⟩
  | [], _ :: _, _, _, _, _, _, h, _ => h.elim
  | _ :: _, [], _, _, _, _, _, h, _ => h.elim
end
noncomputable def mTup (m : Rho → Option (List RV × Rho)) : PM := fun ρ => (m ρ).bind fun x => (fzAll x.1 x.2).bind fun y => cIf (y.1.length ≤ sizeLine) (some ((.tuple y.1, .fz), y.2)) none
noncomputable def mLst (m : Rho → Option (List RV × Rho)) : PM := fun ρ => (m ρ).bind fun x => (fzAll x.1 x.2).bind fun y => cIf (y.1.length ≤ sizeLine) (some ((.list y.1, .new), y.2)) none
theorem me_tup {t : TA} {m : Rho → Option (List RV × Rho)} (h : MA t m) : ME (tTup t) (mTup m) := by
  intro F B H σ ρ r ρ' Q R e q
  obtain ⟨x, e1, e⟩ := Option.bind_eq_some_iff.mp e
  obtain ⟨y, e2, e⟩ := Option.bind_eq_some_iff.mp e
  obtain ⟨hz, e⟩ := cIf_eq e
  · cases e
    refine h F B H σ ρ x.1 x.2 _ R e1 fun vs B1 H1 E1 R1 V1 => ?_
    obtain ⟨B2, R2, rp, E2⟩ := Rel.frzL R1 V1.weak e2
    refine ⟨by rw [rp.length]; exact hz, fun p hp => ?_⟩
    have := res_end (res := (.tuple y.1, true)) (k := fun Q => ∀ p, H1 p = none → Q (.ref p) (upd H1 p (.tup vs))) (Q := Q) R2 ⟨vs, rp, fun Q h => h⟩ fun v B' H' E R' V' N => q v B' H' (E1.trans (E2.trans E)) R' V' fun p z => by cases z
    exact this p hp
theorem me_lst {t : TA} {m : Rho → Option (List RV × Rho)} (h : MA t m) : ME (tLst t) (mLst m) := by
  intro F B H σ ρ r ρ' Q R e q
  obtain ⟨x, e1, e⟩ := Option.bind_eq_some_iff.mp e
  obtain ⟨y, e2, e⟩ := Option.bind_eq_some_iff.mp e
  obtain ⟨hz, e⟩ := cIf_eq e
  · cases e
    refine h F B H σ ρ x.1 x.2 _ R e1 fun vs B1 H1 E1 R1 V1 => ?_
    obtain ⟨B2, R2, rp, E2⟩ := Rel.frzL R1 V1.weak e2
    refine ⟨by rw [rp.length]; exact hz, fun p hp => ?_⟩
    have := res_end (res := (.list y.1, true)) (k := fun Q => ∀ p, H1 p = none → Q (.ref p) (upd H1 p (.lst vs))) (Q := Q) R2 ⟨vs, rp, fun Q h => h⟩ fun v B' H' E R' V' N => q v B' H' (E1.trans (E2.trans E)) R' V' fun p z1 z2 => E1.live p (N p z1 z2)
    exact this p hp
def Views (B H : Hp) : List V → List D → Prop
  | [], [] => True
  | v :: vs, d :: ds => View B H v d ∧ Views B H vs ds
  | _, _ => False
theorem Vl.views {F : Fr} {B H : Hp} {σ : St} {ρ : Rho} (R : Rel F B H σ ρ) : ∀ {vs : List V} {rs : List RV}, Vl F B H σ ρ vs rs → Views B H vs (rs.map (·.1))
  | [], [], _ => trivial
  | v :: vs, r :: rs, ⟨⟨h, n⟩, t⟩ => ⟨h.view R, Vl.views R t⟩
def CallJ (r : List V → Hp → VK → Prop) (g : List D → Option (D × Bool)) : Prop := ∀ (B H : Hp) (vs : List V) (ds : List D) (res : D × Bool), Same B H → Views B H vs ds → g ds = some res → ResOk B H res fun Q => r vs H Q
def mCB (g : List D → Option (D × Bool)) (m : Rho → Option (List RV × Rho)) : PM := fun ρ => (m ρ).bind fun x => (g (x.1.map (·.1))).map fun res => (resK res, x.2)
theorem me_cb {r : List V → Hp → VK → Prop} {g : List D → Option (D × Bool)} {t : TA} {m : Rho → Option (List RV × Rho)} (J : CallJ r g) (h : MA t m) : ME (tCB r t) (mCB g m) := by
  intro F B H σ ρ r0 ρ' Q R e q
  obtain ⟨x, e1, e⟩ := Option.bind_eq_some_iff.mp e
  obtain ⟨res, e4, e⟩ := Option.map_eq_some_iff.mp e
  cases e
  refine h F B H σ ρ x.1 x.2 _ R e1 fun vs B1 H1 E1 R1 V1 => ?_
  exact res_end R1 (J B1 H1 vs _ res R1.sub (V1.views R1) e4) fun w B3 H3 E3 R3 V4 N4 => q w B3 H3 (E1.trans E3) R3 V4 fun p z1 z2 => E1.live p (N4 p z1 z2)
def mNoPart : Rho → Option (Option Int × Rho) := fun ρ => some (none, ρ)
def asI : RV × Rho → Option (Int × Rho)
  | ((.int i, _), ρ) => some (i, ρ)
  | _ => none
theorem asI_eq {x : RV × Rho} {b : Int} {ρ : Rho} (h : asI x = some (b, ρ)) : x.1.1 = .int b ∧ x.2 = ρ := by
  obtain ⟨⟨d, k⟩, ρ0⟩ := x
  cases d with
  | int c => cases h; exact ⟨rfl, rfl⟩
  | _ => cases h
def mPart (a : PM) : Rho → Option (Option Int × Rho) := fun ρ => ((sv a ρ).bind asI).map fun x => (some x.1, x.2)
def MO (t : TO) (m : Rho → Option (Option Int × Rho)) : Prop :=
  ∀ (F : Fr) (B H : Hp) (σ : St) (ρ : Rho) (b : Option Int) (ρ' : Rho) (Q : Option Int → Hp → Prop), Rel F B H σ ρ → m ρ = some (b, ρ') →
    (∀ B' H', Ext σ ρ B H ρ' B' H' → Rel F B' H' σ ρ' → Q b H') → t σ H Q
theorem mo_none : MO tNoPart mNoPart := by
  intro F B H σ ρ b ρ' Q R e q
  cases e
  exact q B H (Ext.refl _ _ _ _) R
theorem mo_some {ta : TE} {a : PM} (ha : ME ta a) : MO (tPart ta) (mPart a) := by
  intro F B H σ ρ b ρ' Q R e q
  obtain ⟨y, e1, e⟩ := Option.map_eq_some_iff.mp e
  obtain ⟨x, e2, e3⟩ := Option.bind_eq_some_iff.mp e1
  cases e
  obtain ⟨h1, h2⟩ := asI_eq (b := y.1) (ρ := y.2) e3
  refine ha.sv F B H σ ρ x.1 x.2 _ R e2 fun v B1 H1 E1 R1 V1 N1 => ?_
  have := V1.view R1
  rw [h1] at this
  rw [h2] at E1 R1
  exact ⟨y.1, this.int, q B1 H1 E1 R1⟩
def SlJ (r : V → Option Int → Option Int → Hp → VK → Prop) (g : D → Option Int → Option Int → Option (D × Bool)) : Prop :=
  ∀ (B H : Hp) (x : V) (c : D) (l u : Option Int) (res : D × Bool), Same B H → View B H x c → g c l u = some res → ResOk B H res fun Q => r x l u H Q
def mSl (g : D → Option Int → Option Int → Option (D × Bool)) (a : PM) (l u : Rho → Option (Option Int × Rho)) : PM := fun ρ => (sv a ρ).bind fun x => (l x.2).bind fun y => (u y.2).bind fun z => (refr z.2 x.1).bind fun r => (g r.1 y.1 z.1).map fun res => (resK res, z.2)
theorem me_sl {r : V → Option Int → Option Int → Hp → VK → Prop} {g : D → Option Int → Option Int → Option (D × Bool)} {ta : TE} {tl tu : TO} {a : PM} {l u : Rho → Option (Option Int × Rho)} (J : SlJ r g) (ha : ME ta a) (hl : MO tl l) (hu : MO tu u) : ME (tSl r ta tl tu) (mSl g a l u) := by
  intro F B H σ ρ r0 ρ' Q R e q
  obtain ⟨x, e1, e⟩ := Option.bind_eq_some_iff.mp e
  obtain ⟨y, e2, e⟩ := Option.bind_eq_some_iff.mp e
  obtain ⟨z, e3, e⟩ := Option.bind_eq_some_iff.mp e
  obtain ⟨r', e4, e⟩ := Option.bind_eq_some_iff.mp e
  obtain ⟨res, e5, e⟩ := Option.map_eq_some_iff.mp e
  cases e
  refine ha.sv F B H σ ρ x.1 x.2 _ R e1 fun v B1 H1 E1 R1 V1 N1 => ?_
  refine hl F B1 H1 σ x.2 y.1 y.2 _ R1 e2 fun B2 H2 E2 R2 => ?_
  refine hu F B2 H2 σ y.2 z.1 z.2 _ R2 e3 fun B3 H3 E3 R3 => ?_
  obtain ⟨V3, n3⟩ := V1.next (E2.trans E3) R3 (sv_kind e1) e4
  exact res_end R3 (J B3 H3 v r'.1 y.1 z.1 res R3.sub (V3.view R3) e5) fun w B4 H4 E4 R4 V4 N4 => q w B4 H4 ((E1.trans (E2.trans E3)).trans E4) R4 V4 fun p z1 z2 => (E1.trans (E2.trans E3)).live p (N4 p z1 z2)
end Mir
set_option Elab.async false
set_option linter.all false
set_option maxRecDepth 100000
namespace Mir
open PySem L2
variable [Zc]
mutual
def pureD : D → Bool
  | .none => true
  | .bool _ => true
  | .int _ => true
  | .str _ => true
  | .list _ => false
  | .tuple ds => pureDs ds
  | .dict _ => false
def pureDs : List D → Bool
  | [] => true
  | d :: ds => pureD d && pureDs ds
end
mutual
theorem Rep.ofPure {B B' : Hp} (k : ∀ q xs, B q = some (.tup xs) → B' q = some (.tup xs)) : ∀ {v : V} {d : D}, Rep B v d → pureD d = true → Rep B' v d
  | _, _, .non, _ => .non
  | _, _, .bl b, _ => .bl b
  | _, _, .int i, _ => .int i
  | _, _, .str x, _ => .str x
  | _, _, .lst _ _, h => by simp [pureD] at h
  | _, _, .dct _ _, h => by simp [pureD] at h
  | _, _, .tup h r, e => .tup (k _ _ h) (Reps.ofPure k r (by simpa [pureD] using e))
theorem Reps.ofPure {B B' : Hp} (k : ∀ q xs, B q = some (.tup xs) → B' q = some (.tup xs)) : ∀ {v : List V} {d : List D}, Reps B v d → pureDs d = true → Reps B' v d
  | _, _, .nil, _ => .nil
  | _, _, .cons a b, e => by
    simp only [pureDs, Bool.and_eq_true] at e
    exact .cons (Rep.ofPure k a e.1) (Reps.ofPure k b e.2)
end
theorem RepKs.ofPure {B B' : Hp} (k : ∀ q xs, B q = some (.tup xs) → B' q = some (.tup xs)) : ∀ {v : List (Key × V)} {d : List (D × D)}, RepKs B v d → pureDs (d.map (·.2)) = true → RepKs B' v d
  | _, _, .nil, _ => .nil
  | _, _, .cons c a b, e => by
    simp only [List.map_cons, pureDs, Bool.and_eq_true] at e
    exact .cons c (Rep.ofPure k a e.1) (RepKs.ofPure k b e.2)
def pureR (d : D) (o : Bool) : Bool := match o, d with
  | true, .list ds => pureDs ds
  | true, .dict es => pureDs (es.map (·.2))
  | true, _ => false
  | false, d => pureD d
structure Post (B H : Hp) (v : V) (B' H' : Hp) (d : D) (o : Bool) : Prop where
  eH : Same H H'
  eB : Same B B'
  sub : Same B' H'
  nb : ∀ q, H q ≠ none → B q = none → B' q = none
  tB : ∀ q xs, H' q = some (.tup xs) → B' q = some (.tup xs)
  nz : ∀ q o u, H' q = some (.frz o u) → H q ≠ none
  val : if o = true then ∃ p, v = .ref p ∧ H p = none ∧ B' p = none ∧ Own B' H' p d else Rep B' v d
def spM (f : List D → Option (D × Bool)) : Sp := fun vs H Q _ => ∃ B ds d o, Same B H ∧ (∀ q xs, H q = some (.tup xs) → B q = some (.tup xs)) ∧ Reps B vs ds ∧ f ds = some (d, o) ∧ ∀ v B' H', Post B H v B' H' d o → Q v H'
def kO (d : D) (o : Bool) : RV := (d, if o = true then .new else .fz)
def mCall (f : List D → Option (D × Bool)) (m : Rho → Option (List RV × Rho)) : PM := fun ρ => (m ρ).bind fun x => (f (x.1.map (·.1))).bind fun w =>
  if pureR w.1 w.2 = true then some (kO w.1 w.2, x.2) else (fzAll x.1 x.2).map fun y => (kO w.1 w.2, y.2)
theorem Views.reps {B H : Hp} (e : Same B H) : ∀ {vs : List V} {ds : List D}, Views B H vs ds → Reps H vs ds
  | [], [], _ => .nil
  | v :: vs, d :: ds, ⟨h, t⟩ => .cons (h.rep e) (Views.reps e t)
theorem fzAll_eq : ∀ {rs : List RV} {ρ ρ' : Rho} {ds : List D}, (∀ r ∈ rs, ∀ i, r.2 = .at i → ∃ s, ρ[i]? = some s ∧ slD s = r.1) → fzAll rs ρ = some (ds, ρ') → ds = rs.map (·.1)
  | [], _, _, _, _, e => by cases e; rfl
  | r :: rs, ρ, ρ', ds, h, e => by
    obtain ⟨x, e1, e⟩ := Option.bind_eq_some_iff.mp e
    obtain ⟨y, e2, e⟩ := Option.map_eq_some_iff.mp e
    cases e
    have hx : x.1 = r.1 ∧ ∀ (i : Nat) (s : Sl), ρ[i]? = some s → ∃ s', x.2[i]? = some s' ∧ slD s' = slD s := by
      obtain ⟨d, k⟩ := r
      cases k with
      | fz => cases e1; exact ⟨rfl, fun i s h => ⟨s, h, rfl⟩⟩
      | new => cases e1
      | ro => cases e1
      | «at» i =>
        obtain ⟨s, h1, h2⟩ := h (d, .at i) (by simp) i rfl
        have e' : (match ρ[i]? with
          | some (.own d) => some (d, ρ.set i (.fz d))
          | some (.fz d) => some (d, ρ)
          | _ => none) = some x := e1
        rw [h1] at e'
        cases s with
        | own c =>
          cases e'
          refine ⟨h2, fun j t hj => ?_⟩
          by_cases z : j = i
          · subst z
            rw [h1] at hj; cases hj
            obtain ⟨hl, _⟩ := List.getElem?_eq_some_iff.mp h1
            exact ⟨.fz c, by rw [List.getElem?_set_self hl], rfl⟩
          · exact ⟨t, by rw [List.getElem?_set_ne (fun e => z e.symm)]; exact hj, rfl⟩
        | fz c => cases e'; exact ⟨h2, fun i s h => ⟨s, h, rfl⟩⟩
        | no => cases e'
        | ex => cases e'
        | io c => cases e'
        | ro c => cases e'
    rw [List.map_cons, hx.1, fzAll_eq (ρ := x.2) (fun r hr i hi => ?_) e2]
    obtain ⟨s, h1, h2⟩ := h r (List.mem_cons_of_mem _ hr) i hi
    obtain ⟨s', h3, h4⟩ := hx.2 i s h1
    exact ⟨s', h3, h4.trans h2⟩
theorem Vl.at {F : Fr} {B H : Hp} {σ : St} {ρ : Rho} : ∀ {vs : List V} {rs : List RV}, Vl F B H σ ρ vs rs → ∀ r ∈ rs, ∀ i, r.2 = .at i → ∃ s, ρ[i]? = some s ∧ slD s = r.1
  | [], [], _, r', hr, i, hi => by cases hr
  | v :: vs, r :: rs, ⟨⟨h, _⟩, t⟩, r', hr, i, hi => by
    rcases List.mem_cons.mp hr with rfl | hr
    · obtain ⟨d, k⟩ := r'
      cases (show k = .at i from hi)
      obtain ⟨s, h1, _, h2, _⟩ := h
      exact ⟨s, h1, h2⟩
    · exact Vl.at t r' hr i hi
theorem me_call {f : List D → Option (D × Bool)} {E : XK} {t : TA} {m : Rho → Option (List RV × Rho)} (h : MA t m) : ME (tCall (spM f) [] E t) (mCall f m) := by
  intro F B H σ ρ r0 ρ' Q R e q
  obtain ⟨x, e1, e⟩ := Option.bind_eq_some_iff.mp e
  obtain ⟨w, e2, e⟩ := Option.bind_eq_some_iff.mp e
  refine h F B H σ ρ x.1 x.2 _ R e1 fun vs B1 H1 E1 R1 V1 => ?_
  rw [List.append_nil]
  by_cases hp : pureR w.1 w.2 = true
  · rw [if_pos hp] at e
    cases e
    refine ⟨H1, _, w.1, w.2, Same.refl _, fun _ _ z => z, (V1.views R1).reps R1.sub, e2, fun v B' H' P => ?_⟩
    let B2 : Hp := fun q => if H1 q = none then B' q else B1 q
    have old : ∀ q, H1 q ≠ none → B2 q = B1 q := fun q z => if_neg z
    have new : ∀ q, H1 q = none → B2 q = B' q := fun q z => if_pos z
    have eB : Same B1 B2 := fun q o z => by rw [old q (by rw [R1.sub q o z]; simp)]; exact z
    have sub : Same B2 H' := fun q o z => by
      by_cases y : H1 q = none
      · rw [new q y] at z; exact P.sub q o z
      · rw [old q y] at z; exact P.eH q o (R1.sub q o z)
    have nb : ∀ q, H1 q ≠ none → B1 q = none → B2 q = none := fun q y z => by rw [old q y]; exact z
    have tB : ∀ q xs, H' q = some (.tup xs) → B2 q = some (.tup xs) := fun q xs z => by
      cases y : H1 q with
      | none => rw [new q y]; exact P.tB q xs z
      | some o =>
        have := P.eH q o y
        rw [z] at this
        cases this
        rw [old q (by rw [y]; simp)]; exact R1.tupB q xs y
    have kt : ∀ q xs, B' q = some (.tup xs) → B2 q = some (.tup xs) := fun q xs z => tB q xs (P.sub q _ z)
    have R2 := R1.grow eB P.eH sub nb tB P.nz
    have E2 : Ext σ x.2 B1 H1 x.2 B2 H' := Ext.grow eB P.eH nb
    obtain ⟨d, o⟩ := w
    cases o with
    | false =>
      have pv : Rep B' v d := P.val
      exact q v B2 H' (E1.trans E2) R2 (show Rep B2 v d from pv.ofPure kt hp) fun p z => by cases z
    | true =>
      obtain ⟨p, rfl, h1, h2, h3⟩ : ∃ p, v = .ref p ∧ H1 p = none ∧ B' p = none ∧ Own B' H' p d := P.val
      have fr := R1.free h1
      refine q _ B2 H' (E1.trans E2) R2 ⟨p, rfl, by rw [new p h1]; exact h2, fr.2.1, ?_, fr.2.2⟩ fun p' _ z => by cases z; exact E1.live p h1
      cases h3 with
      | lst h r => exact .lst h (r.ofPure kt hp)
      | dct h r => exact .dct h (r.ofPure kt hp)
  · rw [if_neg hp] at e
    obtain ⟨y, e3, e⟩ := Option.map_eq_some_iff.mp e
    cases e
    obtain ⟨B2, R2, rp, E2⟩ := Rel.frzL R1 V1.weak e3
    have hd := fzAll_eq V1.at e3
    rw [hd] at rp
    refine ⟨B2, _, w.1, w.2, R2.sub, R2.tupB, rp, e2, fun v B' H' P => ?_⟩
    have R3 := R2.grow P.eB P.eH P.sub P.nb P.tB P.nz
    have E3 : Ext σ y.2 B2 H1 y.2 B' H' := Ext.grow P.eB P.eH P.nb
    obtain ⟨d, o⟩ := w
    cases o with
    | false =>
      have pv : Rep B' v d := P.val
      exact q v B' H' (E1.trans (E2.trans E3)) R3 pv fun p z => by cases z
    | true =>
      obtain ⟨p, rfl, h1, h2, h3⟩ : ∃ p, v = .ref p ∧ H1 p = none ∧ B' p = none ∧ Own B' H' p d := P.val
      have fr := R2.free h1
      exact q _ B' H' (E1.trans (E2.trans E3)) R3 ⟨p, rfl, h2, fr.2.1, h3, fr.2.2⟩ fun p' _ z => by cases z; exact E1.live p h1
def YldOk (B H : Hp) (x : V) (H' : Hp) (d : D) : Prop := (H' = H ∧ Rep B x d) ∨ ∃ p xs cs, d = .tuple cs ∧ x = .ref p ∧ H p = none ∧ H' = upd H p (.tup xs) ∧ Reps B xs cs
def ItOk (G B : Hp) (J : It) (ds : List D) : Prop := ∀ H, Same G H → J.stop ds.length H ∧ ∀ (i : Nat) (d : D), ds[i]? = some d → J.go i H ∧ ∀ x H', J.yld i H x H' → YldOk B H x H' d
theorem ItOk.mono {G B B' : Hp} {J : It} {ds : List D} (h : ItOk G B J ds) (e : Same B B') : ItOk G B' J ds := fun H s => ⟨(h H s).1, fun i d hd => ⟨((h H s).2 i d hd).1, fun x H' y => by
  rcases ((h H s).2 i d hd).2 x H' y with ⟨h1, h2⟩ | ⟨p, xs, cs, h1, h2, h3, h4, h5⟩
  · exact .inl ⟨h1, h2.mono e⟩
  · exact .inr ⟨p, xs, cs, h1, h2, h3, h4, h5.mono e⟩⟩⟩
def MI (t : TI) (m : Rho → Option (List D × Rho)) : Prop :=
  ∀ (F : Fr) (B H : Hp) (σ : St) (ρ : Rho) (ds : List D) (ρ' : Rho) (Q : It → Hp → Prop), Rel F B H σ ρ → m ρ = some (ds, ρ') →
    (∀ J B' H', Ext σ ρ B H ρ' B' H' → Rel F B' H' σ ρ' → ItOk H' B' J ds → Q J H') → t σ H Q
def MF (t : TI) (m : Rho → Option (List D × Rho)) : Prop :=
  ∀ (F : Fr) (B H : Hp) (σ : St) (ρ : Rho) (ds : List D) (ρ' : Rho) (Q : It → Hp → Prop), Rel F B H σ ρ → m ρ = some (ds, ρ') →
    (∀ J B' H', Ext σ ρ B H ρ' B' H' → Rel F B' H' σ ρ' → ItOk B' B' J ds → Q J H') → t σ H Q
theorem rd_sq {K : PySem.W.Frag} {H : Hp} {p : Addr} {xs : List V} (h : Rd H p (.lst xs)) : SqL K H p xs := .inl h
theorem itl_ok {K : PySem.W.Frag} {G B : Hp} {p : Addr} {xs : List V} {ds : List D} (h : Rd G p (.lst xs)) (r : Reps B xs ds) : ItOk G B (Itl K p) ds := fun H s => by
  have h' : SqL K H p xs := rd_sq (rd_same s h)
  refine ⟨⟨xs, h', by rw [r.length]; exact Nat.le_refl _⟩, fun i d hd => ?_⟩
  obtain ⟨x, h1, h2⟩ := r.get i d hd
  refine ⟨⟨xs, x, h', h1⟩, fun y H' hy => .inl ⟨hy.1, ?_⟩⟩
  have := hy.2 xs h'
  rw [h1] at this
  cases this
  exact h2
def asL : D → Option (List D)
  | .list ds => some ds
  | _ => none
def asT : D → Option (List D)
  | .tuple ds => some ds
  | _ => none
theorem asL_eq {d : D} {ds : List D} (h : asL d = some ds) : d = .list ds := by cases d <;> first | cases h; rfl | cases h
theorem asT_eq {d : D} {ds : List D} (h : asT d = some ds) : d = .tuple ds := by cases d <;> first | cases h; rfl | cases h
def mItL (a : PM) : Rho → Option (List D × Rho) := fun ρ => (sv a ρ).bind fun x => (asL x.1.1).map fun ds => (ds, x.2)
def mFoL (a : PM) : Rho → Option (List D × Rho) := fun ρ => (sv a ρ).bind fun x => (fzOne x.1 x.2).bind fun y => (asL y.1).map fun ds => (ds, y.2)
section
variable {K : PySem.W.Frag} {ta : TE} {a : PM}
theorem mf_list (ha : ME ta a) : MF (iList K ta) (mFoL a) := by
  intro F B H σ ρ ds ρ' Q R e q
  obtain ⟨x, e1, e⟩ := Option.bind_eq_some_iff.mp e
  obtain ⟨y, e3, e⟩ := Option.bind_eq_some_iff.mp e
  obtain ⟨ds', e2, e⟩ := Option.map_eq_some_iff.mp e
  cases e
  refine ha.sv F B H σ ρ x.1 x.2 _ R e1 fun v B1 H1 E1 R1 V1 N1 => ?_
  have w : WVal B1 σ v x.1 := (Vl.weak (F := F) (H := H1) (ρ := x.2) (vs := [v]) (rs := [x.1]) ⟨⟨V1, sv_kind e1⟩, trivial⟩).1
  obtain ⟨B2, R2, rp, E2⟩ := R1.frz w e3
  rw [asL_eq e2] at rp
  cases rp with
  | lst h r => exact ⟨_, rfl, ⟨_, rd_sq (rd_same R2.sub h)⟩, q _ B2 H1 (E1.trans E2) R2 (itl_ok h r)⟩
end
def rngD (lo : Int) (n : Nat) : List D := (List.range n).map fun (k : Nat) => PyData.int (lo + (k : Int))
theorem itr_ok {G B : Hp} {lo : Int} {n : Nat} : ItOk G B (Itr lo n) (rngD lo n) := fun H _ => by
  refine ⟨by simp [rngD, Itr], fun i d hd => ?_⟩
  rw [rngD, List.getElem?_map] at hd
  obtain ⟨k, h1, h2⟩ := Option.map_eq_some_iff.mp hd
  have hk := List.getElem?_eq_some_iff.mp h1
  obtain ⟨hl, hk⟩ := hk
  rw [List.getElem_range] at hk
  rw [List.length_range] at hl
  subst hk
  refine ⟨hl, fun x H' hy => .inl ⟨hy.1, ?_⟩⟩
  rw [hy.2, ← h2]
  exact .int _
noncomputable def rg1 : List RV × Rho → Option (List D × Rho)
  | ([(.int j, _)], ρ) => cIf (-(2 ^ 62) ≤ j ∧ j < 2 ^ 62) (some (rngD 0 j.toNat, ρ)) none
  | _ => none
noncomputable def rg2 : List RV × Rho → Option (List D × Rho)
  | ([(.int i, _), (.int j, _)], ρ) => cIf (-(2 ^ 62) ≤ i ∧ i < 2 ^ 62 ∧ -(2 ^ 62) ≤ j ∧ j < 2 ^ 62) (some (rngD i (j - i).toNat, ρ)) none
  | _ => none
noncomputable def mRg1 (m : Rho → Option (List RV × Rho)) : Rho → Option (List D × Rho) := fun ρ => (m ρ).bind rg1
noncomputable def mRg2 (m : Rho → Option (List RV × Rho)) : Rho → Option (List D × Rho) := fun ρ => (m ρ).bind rg2
section
variable {ta : TA} {m : Rho → Option (List RV × Rho)}
theorem rng1_gen (h : MA ta m) (F : Fr) (B H : Hp) (σ : St) (ρ : Rho) (ds : List D) (ρ' : Rho) (Q : It → Hp → Prop) (R : Rel F B H σ ρ) (e : mRg1 m ρ = some (ds, ρ'))
    (q : ∀ J B' H', Ext σ ρ B H ρ' B' H' → Rel F B' H' σ ρ' → (∀ G, ItOk G B' J ds) → Q J H') : iRng1 ta σ H Q := by
  obtain ⟨x, e1, e⟩ := Option.bind_eq_some_iff.mp e
  refine h F B H σ ρ x.1 x.2 _ R e1 fun vs B1 H1 E1 R1 V1 => ?_
  obtain ⟨rs, ρ2⟩ := x
  unfold rg1 at e
  split at e
  · rename_i j k ρ3 heq
    cases heq
    obtain ⟨hj, e⟩ := cIf_eq e
    · cases e
      match vs, V1 with
      | [v], ⟨⟨h1, _⟩, _⟩ =>
        have : v = .int j := (h1.view R1).int
        subst this
        exact ⟨j, rfl, hj.1, hj.2, q _ B1 H1 E1 R1 fun G => itr_ok⟩
  · cases e
theorem mi_rng1 (h : MA ta m) : MI (iRng1 ta) (mRg1 m) := fun F B H σ ρ ds ρ' Q R e q => rng1_gen h F B H σ ρ ds ρ' Q R e fun J B' H' E R' I => q J B' H' E R' (I _)
end
end Mir
set_option Elab.async false
set_option linter.all false
set_option maxRecDepth 100000
namespace Mir
open PySem L2
variable [Zc]
section
variable {K : PySem.W.Frag} {ta : TA} {m : Rho → Option (List RV × Rho)}
end
def demote (ρ : Rho) (i : Nat) : Sl := match ρ[i]? with
  | some (.own d) => .ro d
  | some (.io d) => .ro d
  | some .ex => .no
  | some s => s
  | none => .no
def asF : RV → Option D
  | (d, .fz) => some d
  | _ => none
theorem asF_eq {r : RV} {d : D} (h : asF r = some d) : r = (d, .fz) := by
  obtain ⟨c, k⟩ := r
  cases k with
  | fz => cases h; rfl
  | _ => cases h
def compL (c : Rho → Option (Bool × Rho)) (e : PM) (ρn : Rho) : List D → Option (List D)
  | [] => some []
  | d :: ds => (c (.fz d :: ρn)).bind fun b => if b.1 = true then (sv e (.fz d :: ρn)).bind fun y => (asF y.1).bind fun z => (compL c e ρn ds).map (z :: ·) else compL c e ρn ds
noncomputable def mLC (fr : List (Str × Nat)) (it : Rho → Option (List D × Rho)) (c : Rho → Option (Bool × Rho)) (e : PM) : PM := fun ρ => (it ρ).bind fun x => (compL c e (fr.map fun p => demote x.2 p.2) x.1).bind fun ys => cIf (ys.length < sizeLine) (some ((.list ys, .new), x.2)) none
def mYes : Rho → Option (Bool × Rho) := fun ρ => some (true, ρ)
theorem mt_yes : MT tYes mYes := by
  intro F B H σ ρ b ρ' Q R e q
  cases e
  exact q B H (Ext.refl _ _ _ _) R
def F0 (H : Hp) : Fr := ⟨fun _ => none, fun _ => none, [], fun q => H q ≠ none⟩
theorem demote_ex {ρ : Rho} {i : Nat} : demote ρ i ≠ .ex := by
  unfold demote
  cases h : ρ[i]? with
  | none => simp
  | some s => cases s <;> simp
theorem demote_own {ρ : Rho} {i : Nat} : (demote ρ i).isOwn = false := by
  unfold demote
  cases h : ρ[i]? with
  | none => rfl
  | some s => cases s <;> rfl
theorem Rel.inner {F : Fr} {B H : Hp} {σ : St} {ρ : Rho} (R : Rel F B H σ ρ) (fr : List (Str × Nat)) {v : V} {d : D} (h : Rep B v d) : Rel (F0 H) B H (some v :: compRest σ fr) (.fz d :: fr.map fun p => demote ρ p.2) := by
  have nown : ∀ (i : Nat) (s : Sl), (Sl.fz d :: fr.map fun p => demote ρ p.2)[i]? = some s → s.isOwn = true → False := fun i s h1 h2 => by
    cases i with
    | zero => cases h1; cases h2
    | succ i =>
      have h1' : (fr.map fun p => demote ρ p.2)[i]? = some s := by simpa using h1
      rw [List.getElem?_map] at h1'
      obtain ⟨p, _, e⟩ := Option.map_eq_some_iff.mp h1'
      rw [← e, demote_own] at h2
      cases h2
  have nex : ∀ i : Nat, (Sl.fz d :: fr.map fun p => demote ρ p.2)[i]? = some Sl.ex → False := fun i h1 => by
    cases i with
    | zero => cases h1
    | succ i =>
      have h1' : (fr.map fun p => demote ρ p.2)[i]? = some Sl.ex := by simpa using h1
      rw [List.getElem?_map] at h1'
      obtain ⟨p, _, e⟩ := Option.map_eq_some_iff.mp h1'
      exact absurd e demote_ex
  refine ⟨R.sub, (fun _ _ z => by cases z), (fun _ _ z => by cases z), fun _ z _ => absurd rfl z, by simp [compRest], fun i s hs => ?_, fun i j s t p h1 h2 => (nown i s h1 h2).elim, fun i d p h1 => (nown i _ h1 rfl).elim, (fun x hx => by cases hx), fun i d h1 => (nown i _ h1 rfl).elim, R.tupB, (fun i h1 => (nex i h1).elim), fun q o u h z => by rw [z] at h; cases h⟩
  cases i with
  | zero => cases hs; exact ⟨v, rfl, h⟩
  | succ i =>
    have hs' : (fr.map fun p => demote ρ p.2)[i]? = some s := by simpa using hs
    rw [List.getElem?_map] at hs'
    obtain ⟨p, hp, e⟩ := Option.map_eq_some_iff.mp hs'
    have hσ : ∀ x, σ[p.2]? = some (some x) → (some v :: compRest σ fr)[i + 1]? = some (some x) := fun x hx => by
      rw [List.getElem?_cons_succ]
      unfold compRest
      rw [List.getElem?_map, hp, Option.map_some, List.getD_eq_getElem?_getD, hx]
      rfl
    unfold demote at e
    cases q : ρ[p.2]? with
    | none => rw [q] at e; subst e; trivial
    | some s0 =>
      rw [q] at e
      have sl := R.slot p.2 s0 q
      cases s0 with
      | no => subst e; trivial
      | ex => subst e; trivial
      | fz c => subst e; obtain ⟨x, h1, h2⟩ := sl; exact ⟨x, hσ _ h1, h2⟩
      | own c => subst e; obtain ⟨x, h1, _, h2⟩ := sl; exact ⟨x, hσ _ h1, h2⟩
      | io c => subst e; obtain ⟨x, h1, _, h2⟩ := sl; exact ⟨x, hσ _ h1, h2⟩
      | ro c => subst e; obtain ⟨x, h1, h2⟩ := sl; exact ⟨x, hσ _ h1, h2⟩
theorem inner_ext {ρ ρ' : Rho} {σ : St} {B H B' H' : Hp} (nown : ∀ (i : Nat) (s : Sl), ρ[i]? = some s → s.isOwn = true → False) (E : Ext σ ρ B H ρ' B' H') : Same H H' ∧ ∀ q, H q ≠ none → B q = none → B' q = none := by
  have k : ∀ q o, H q = some o → H' q = some o ∧ (B q = none → B' q = none) := fun q o h => E.keep q o h fun i s h1 h2 => (nown i s h1 h2).elim
  refine ⟨fun q o h => (k q o h).1, fun q h z => ?_⟩
  cases e : H q with
  | none => exact absurd e h
  | some o => exact (k q o e).2 z
theorem inner_nown {fr : List (Str × Nat)} {ρ : Rho} {d : D} (i : Nat) (s : Sl) (h1 : (Sl.fz d :: fr.map fun p => demote ρ p.2)[i]? = some s) (h2 : s.isOwn = true) : False := by
  cases i with
  | zero => cases h1; cases h2
  | succ i =>
    have h1' : (fr.map fun p => demote ρ p.2)[i]? = some s := by simpa using h1
    rw [List.getElem?_map] at h1'
    obtain ⟨p, _, e⟩ := Option.map_eq_some_iff.mp h1'
    rw [← e, demote_own] at h2
    cases h2
theorem me_lc {fr : List (Str × Nat)} {wi : TI} {tc : TT} {te : TE} {it : Rho → Option (List D × Rho)} {c : Rho → Option (Bool × Rho)} {e : PM} (hi : MI wi it) (hc : MT tc c) (he : ME te e) : ME (tLC fr wi tc te) (mLC fr it c e) := by
  intro F B H σ ρ r0 ρ' Q R e0 q
  obtain ⟨x, e1, e0⟩ := Option.bind_eq_some_iff.mp e0
  obtain ⟨out, e2, e0⟩ := Option.bind_eq_some_iff.mp e0
  obtain ⟨hz, e0⟩ := cIf_eq e0
  cases e0
  refine hi F B H σ ρ x.1 x.2 _ R e1 fun J B1 H1 E1 R1 I1 => ?_
  obtain ⟨ds, ρ1⟩ := x
  refine ⟨fun i m ys H2 => m = ds.length - i ∧ i ≤ ds.length ∧ ∃ B2 done rest, Same B1 B2 ∧ Same H1 H2 ∧ (∀ q, H1 q ≠ none → B1 q = none → B2 q = none) ∧ Rel F B2 H2 σ ρ1 ∧ Reps B2 ys done ∧ compL c e (fr.map fun p => demote ρ1 p.2) (ds.drop i) = some rest ∧ done ++ rest = out,
    ⟨ds.length, rfl, Nat.zero_le _, B1, [], out, Same.refl _, Same.refl _, fun _ _ z => z, R1, .nil, e2, rfl⟩, ?_⟩
  rintro i m ys H2 ⟨rfl, hil, B2, done, rest, eB, eH, nb, R2, rp, hcl, hdr⟩
  have hlen : ys.length ≤ out.length := by rw [← hdr, List.length_append, rp.length]; omega
  refine ⟨by omega, ?_⟩
  by_cases hlt : i < ds.length
  · refine .inr ?_
    obtain ⟨go, yl⟩ := (I1 H2 eH).2 i ds[i] (List.getElem?_eq_getElem hlt)
    refine ⟨go, fun v H3 hy => ?_⟩
    rw [List.drop_eq_getElem_cons hlt] at hcl
    obtain ⟨b, c1, c2⟩ := Option.bind_eq_some_iff.mp (show (c (.fz ds[i] :: fr.map fun p => demote ρ1 p.2)).bind _ = some rest from hcl)
    have had : ∃ B3, Same B2 B3 ∧ Same H2 H3 ∧ (∀ q, H2 q ≠ none → B2 q = none → B3 q = none) ∧ Rel F B3 H3 σ ρ1 ∧ Rep B3 v ds[i] := by
      rcases yl v H3 hy with ⟨rfl, h2⟩ | ⟨p, xs, cs, h1, rfl, h3, rfl, h5⟩
      · exact ⟨B2, Same.refl _, Same.refl _, fun _ _ z => z, R2, h2.mono eB⟩
      · obtain ⟨R3, E3, e3⟩ := R2.layT (xs := xs) h3
        refine ⟨_, e3, same_upd h3, fun q h z => ?_, R3, ?_⟩
        · rw [upd_ne (show q ≠ p from fun y => h (by rw [y]; exact h3))]; exact z
        · rw [h1]; exact .tup upd_same (h5.mono (eB.trans e3))
    obtain ⟨B3, eB3, eH3, nb3, R3, rv⟩ := had
    have Ri := R3.inner fr rv
    refine hc (F0 H3) B3 H3 _ _ b.1 b.2 _ Ri c1 fun B4 H4 E4 R4 => ?_
    obtain ⟨eH4, nb4⟩ := inner_ext inner_nown E4
    have R4o : Rel F B4 H4 σ ρ1 := R3.grow E4.sB eH4 R4.sub nb4 R4.tupB R4.nz
    have nbA : ∀ q, H1 q ≠ none → B1 q = none → B4 q = none := fun q h z => by
      have h2 : H2 q ≠ none := fun y => h (eH.free y)
      have h3 : H3 q ≠ none := fun y => h2 (eH3.free y)
      exact nb4 q h3 (nb3 q h2 (nb q h z))
    cases hb : b.1 with
    | false =>
      rw [hb, if_neg Bool.false_ne_true] at c2
      rw [if_neg Bool.false_ne_true]
      exact ⟨ds.length - (i + 1), by omega, rfl, hlt, B4, done, rest, eB.trans (eB3.trans E4.sB), eH.trans (eH3.trans eH4), nbA, R4o, rp.mono (eB3.trans E4.sB), c2, hdr⟩
    | true =>
      rw [hb, if_pos rfl] at c2
      rw [if_pos rfl]
      obtain ⟨y, c3, c2⟩ := Option.bind_eq_some_iff.mp c2
      obtain ⟨z, c4, c2⟩ := Option.bind_eq_some_iff.mp c2
      obtain ⟨rest', c5, c6⟩ := Option.map_eq_some_iff.mp c2
      subst c6
      have Ri4 := R4o.inner fr (rv.mono E4.sB)
      refine he.sv (F0 H4) B4 H4 _ _ y.1 y.2 _ Ri4 c3 fun u B5 H5 E5 R5 V5 N5 => ?_
      obtain ⟨eH5, nb5⟩ := inner_ext inner_nown E5
      have R5o : Rel F B5 H5 σ ρ1 := R4o.grow E5.sB eH5 R5.sub nb5 R5.tupB R5.nz
      rw [asF_eq c4] at V5
      refine ⟨ds.length - (i + 1), by omega, rfl, hlt, B5, done ++ [z], rest', eB.trans (eB3.trans (E4.sB.trans E5.sB)), eH.trans (eH3.trans (eH4.trans eH5)), fun q h w => ?_, R5o, (rp.mono (eB3.trans (E4.sB.trans E5.sB))).append (.cons V5 .nil), c5, by rw [List.append_assoc]; exact hdr⟩
      have h2 : H2 q ≠ none := fun y => h (eH.free y)
      have h3 : H3 q ≠ none := fun y => h2 (eH3.free y)
      have h4 : H4 q ≠ none := fun y => h3 (eH4.free y)
      exact nb5 q h4 (nbA q h w)
  · have hi' : i = ds.length := by omega
    subst hi'
    refine .inl ⟨(I1 H2 eH).1, fun p hp => ?_⟩
    rw [List.drop_length] at hcl
    cases hcl
    rw [List.append_nil] at hdr
    subst hdr
    have E2 : Ext σ ρ1 B1 H1 ρ1 B2 H2 := Ext.grow eB eH nb
    have := res_end (res := (.list done, true)) (k := fun Q => ∀ p, H2 p = none → Q (.ref p) (upd H2 p (.lst ys))) (Q := Q) R2 ⟨ys, rp, fun Q h => h⟩ fun v B' H' E R' V' N => q v B' H' ((E1.trans E2).trans E) R' V' fun p z1 z2 => (E1.trans E2).live p (N p z1 z2)
    exact this p hp
end Mir
set_option Elab.async false
set_option linter.all false
set_option maxRecDepth 100000
namespace Mir
open PySem L2
variable [Zc]
def Sl.put : Sl → D → Sl
  | .own _, d => .own d
  | .io _, d => .io d
  | s, _ => s
section
variable {F : Fr} {B H : Hp} {σ : St} {ρ ρ' : Rho} {v : V}
theorem SlotOk.at {B H : Hp} {σ σ' : St} {i : Nat} {s : Sl} (e : σ'[i]? = σ[i]?) (h : SlotOk B H σ i s) : SlotOk B H σ' i s := by
  unfold SlotOk at h ⊢
  rw [e]; exact h
theorem Rel.write (R : Rel F B H σ ρ) {i : Nat} {s : Sl} {p : Addr} {o : HO} {d : D} (hi : ρ[i]? = some s) (hs : s.isOwn = true) (hv : σ[i]? = some (some (.ref p))) (no : (∀ xs, o ≠ .tup xs) ∧ ∀ a u, o ≠ .frz a u) (ow : Own B (upd H p o) p d) :
    Rel F B (upd H p o) σ (ρ.set i (s.put d)) ∧ Ext σ ρ B H (ρ.set i (s.put d)) B (upd H p o) := by
  obtain ⟨p', e1, hB, o0⟩ := R.ownAt hi hs
  rw [hv] at e1
  cases e1
  have hl : i < ρ.length := (List.getElem?_eq_some_iff.mp hi).1
  have pO : (s.put d).isOwn = true ∧ slD (s.put d) = d := by cases s <;> first | exact ⟨rfl, rfl⟩ | cases hs
  have ne : ∀ (j : Nat) (t : Sl) (q : Addr), j ≠ i → ρ[j]? = some t → t.isRef = true → σ[j]? = some (some (.ref q)) → q ≠ p := fun j t q hj h1 h2 h3 z => hj (R.dist i j s t p hi hs h1 h2 hv (z ▸ h3)).symm
  have nio : ∀ (j : Nat) (t : Sl), (ρ.set i (s.put d))[j]? = some t → ∃ t0, ρ[j]? = some t0 ∧ t.isOwn = t0.isOwn ∧ t.isRef = t0.isRef ∧ (∀ c, t = .own c → ∃ c0, t0 = .own c0) ∧ ∀ c, t = .io c → ∃ c0, t0 = .io c0 := fun j t h => by
    rcases get_set h with ⟨rfl, rfl, _⟩ | ⟨_, h⟩
    · refine ⟨s, hi, ?_⟩
      cases s with
      | own c => exact ⟨rfl, rfl, fun _ _ => ⟨_, rfl⟩, fun _ z => by cases z⟩
      | io c => exact ⟨rfl, rfl, (fun _ z => by cases z), fun _ _ => ⟨_, rfl⟩⟩
      | _ => cases hs
    · exact ⟨t, h, rfl, rfl, fun c z => ⟨c, z⟩, fun c z => ⟨c, z⟩⟩
  have hF : F.H p = none ∨ ∃ x ∈ F.io, x.2 = p := by
    cases s with
    | own c => exact .inl (R.ownN i c p hi hv)
    | io c =>
      obtain ⟨p', hp⟩ := R.ioN i c hi
      obtain ⟨h1, _⟩ := R.fx _ hp
      have h1' : σ[i]? = some (some (.ref p')) := h1
      rw [hv] at h1'
      cases h1'
      exact .inr ⟨_, hp, rfl⟩
    | _ => cases hs
  have nput : s.put d ≠ .ex := by
    cases s with
    | own c => simp [Sl.put]
    | io c => simp [Sl.put]
    | _ => cases hs
  refine ⟨⟨?_, R.sB, ?_, R.nB, by rw [List.length_set]; exact R.len, ?_, ?_, ?_, ?_, ?_, ?_, (fun j h => R.exv j (ex_set nput h).1), fun q a u h => by
    by_cases z : q = p
    · subst z; rw [upd_same] at h; cases h; exact absurd rfl (no.2 _ _)
    · rw [upd_ne z] at h; exact R.nz q a u h⟩, ⟨Same.refl _, ?_, ?_, ?_, ?_⟩⟩
  · intro q u hq
    rw [upd_ne (show q ≠ p from fun z => by rw [z, hB] at hq; cases hq)]; exact R.sub q u hq
  · intro q u h1 h2
    have z : q ≠ p := fun z => by
      rcases hF with h | ⟨x, hx, h⟩
      · rw [z, h] at h1; cases h1
      · exact h2 x hx (h.trans z.symm)
    rw [upd_ne z]; exact R.sH q u h1 h2
  · intro j t ht
    rcases get_set ht with ⟨rfl, rfl, _⟩ | ⟨hj, ht⟩
    · cases s with
      | own c => exact ⟨p, hv, hB, ow⟩
      | io c => exact ⟨p, hv, hB, ow⟩
      | _ => cases hs
    · have q := R.slot j t ht
      have k : ∀ q, q ≠ p → ∀ u, H q = some u → upd H p o q = some u := fun q z u h => by rw [upd_ne z]; exact h
      cases t with
      | no => trivial
      | ex => trivial
      | fz c => exact q
      | own c => obtain ⟨q, h1, h2, h3⟩ := q; exact ⟨q, h1, h2, h3.mono (Same.refl _) (k q (ne j _ q hj ht rfl h1))⟩
      | io c => obtain ⟨q, h1, h2, h3⟩ := q; exact ⟨q, h1, h2, h3.mono (Same.refl _) (k q (ne j _ q hj ht rfl h1))⟩
      | ro c => obtain ⟨q, h1, h3⟩ := q; exact ⟨q, h1, h3.mono (Same.refl _) (k q (ne j _ q hj ht rfl h1))⟩
  · intro a b t u q h1 h2 h3 h4 h5 h6
    obtain ⟨t0, h1', e1, _, _, _⟩ := nio a t h1
    obtain ⟨u0, h3', _, e3, _, _⟩ := nio b u h3
    exact R.dist a b t0 u0 q h1' (e1 ▸ h2) h3' (e3 ▸ h4) h5 h6
  · intro j c q h1 h2
    obtain ⟨t0, h1', _, _, e1, _⟩ := nio j _ h1
    obtain ⟨c0, rfl⟩ := e1 c rfl
    exact R.ownN j c0 q h1' h2
  · intro x hx
    obtain ⟨h1, c, h2⟩ := R.fx x hx
    refine ⟨h1, ?_⟩
    by_cases z : i = x.1
    · subst z
      rw [hi] at h2
      cases h2
      exact ⟨d, by rw [List.getElem?_set_self hl]; rfl⟩
    · exact ⟨c, by rw [List.getElem?_set_ne z]; exact h2⟩
  · intro j c h1
    obtain ⟨t0, h1', _, _, _, e1⟩ := nio j _ h1
    obtain ⟨c0, rfl⟩ := e1 c rfl
    exact R.ioN j c0 h1'
  · intro q xs h
    by_cases z : q = p
    · subst z; rw [upd_same] at h; cases h; exact absurd rfl (no.1 xs)
    · rw [upd_ne z] at h; exact R.tupB q xs h
  · intro q u h n
    refine ⟨?_, id⟩
    rw [upd_ne (show q ≠ p from fun z => n i s hi hs (by rw [z]; exact hv))]; exact h
  · intro j t h1 h2
    obtain ⟨t0, h1', e1, _, _, _⟩ := nio j t h1
    exact ⟨t0, h1', e1 ▸ h2⟩
  · intro j t h1 h2
    obtain ⟨t0, h1', _, e1, _, _⟩ := nio j t h1
    exact ⟨t0, h1', e1 ▸ h2⟩
  · intro q h
    by_cases z : q = p
    · subst z; rw [upd_same] at h; cases h
    · rw [upd_ne z] at h; exact h
end
def ownL : Option Sl → Option (List D)
  | some (.own (.list ds)) => some ds
  | some (.io (.list ds)) => some ds
  | _ => none
theorem ownL_eq {s : Option Sl} {ds : List D} (h : ownL s = some ds) : ∃ t, s = some t ∧ t.isOwn = true ∧ slD t = .list ds := by
  unfold ownL at h
  split at h
  · cases h; exact ⟨_, rfl, rfl, rfl⟩
  · cases h; exact ⟨_, rfl, rfl, rfl⟩
  · cases h
def putAt (ρ : Rho) (i : Nat) (d : D) : Rho := match ρ[i]? with
  | some s => ρ.set i (s.put d)
  | none => ρ
def MutJ (r : V → List V → Hp → VK → Prop) (f : List D → List D → Option (List D × D)) : Prop :=
  ∀ (B H : Hp) (p : Addr) (xs : List V) (ds : List D) (vs : List V) (as : List D) (w : List D × D), H p = some (.lst xs) → Reps B xs ds → Same B H → Reps B vs as → f ds as = some w →
    ∃ xs' v, Reps B xs' w.1 ∧ Rep B v w.2 ∧ ∀ Q : VK, Q v (upd H p (.lst xs')) → r (.ref p) vs H Q
def mMut (i : Nat) (f : List D → List D → Option (List D × D)) (m : Rho → Option (List RV × Rho)) : PM := fun ρ => (ownL ρ[i]?).bind fun _ => (m ρ).bind fun x => (fzAll x.1 x.2).bind fun y => (ownL y.2[i]?).bind fun ds => (f ds y.1).map fun w => ((w.2, .fz), putAt y.2 i (.list w.1))
theorem Own.list {B H : Hp} {p : Addr} {ds : List D} (h : Own B H p (.list ds)) : ∃ xs, H p = some (.lst xs) ∧ Reps B xs ds := by
  cases h with
  | lst h r => exact ⟨_, h, r⟩
theorem me_mut {K : PySem.W.Frag} {i : Nat} {r : V → List V → Hp → VK → Prop} {f : List D → List D → Option (List D × D)} {t : TA} {m : Rho → Option (List RV × Rho)} (J : MutJ r f) (h : MA t m) : ME (tBM K "list" r (tVar i) t) (mMut i f m) := by
  intro F B H σ ρ r0 ρ' Q R e q
  obtain ⟨ds0, e0, e⟩ := Option.bind_eq_some_iff.mp e
  obtain ⟨x, e1, e⟩ := Option.bind_eq_some_iff.mp e
  obtain ⟨y, e2, e⟩ := Option.bind_eq_some_iff.mp e
  obtain ⟨ds, e3, e⟩ := Option.bind_eq_some_iff.mp e
  obtain ⟨w, e4, e⟩ := Option.map_eq_some_iff.mp e
  cases e
  obtain ⟨s0, hs0, ho0, hd0⟩ := ownL_eq e0
  obtain ⟨p, hv, hB, ow⟩ := R.ownAt hs0 ho0
  rw [hd0] at ow
  obtain ⟨xs0, hp0, _⟩ := ow.list
  refine ⟨_, hv, .inl ⟨rfl, xs0, SqL.of hp0⟩, ?_⟩
  refine h F B H σ ρ x.1 x.2 _ R e1 fun vs B1 H1 E1 R1 V1 => ?_
  obtain ⟨B2, R2, rp, E2⟩ := Rel.frzL R1 V1.weak e2
  obtain ⟨s, hs, ho, hd⟩ := ownL_eq e3
  obtain ⟨p', hv', hB', ow'⟩ := R2.ownAt hs ho
  rw [hv] at hv'
  cases hv'
  rw [hd] at ow'
  obtain ⟨xs, hp, rx⟩ := ow'.list
  obtain ⟨xs', u, rx', ru, hr⟩ := J B2 H1 p xs ds vs y.1 w hp rx R2.sub rp e4
  obtain ⟨R3, E3⟩ := R2.write (o := .lst xs') (d := .list w.1) hs ho hv ⟨(fun _ z => by cases z), fun _ _ z => by cases z⟩ (.lst upd_same rx')
  have ep : putAt y.2 i (.list w.1) = y.2.set i (s.put (.list w.1)) := by unfold putAt; rw [hs]
  rw [ep] at q
  exact hr Q (q u B2 _ (E1.trans (E2.trans E3)) R3 ru fun p z => by cases z)
def mMut0 (i : Nat) (f : List D → List D → Option (List D × D)) : PM := fun ρ => (ownL ρ[i]?).bind fun ds => (f ds []).map fun w => ((w.2, .fz), putAt ρ i (.list w.1))
theorem me_mut0 {K : PySem.W.Frag} {i : Nat} {r : V → List V → Hp → VK → Prop} {f : List D → List D → Option (List D × D)} (J : MutJ r f) : ME (tBM0 K "list" r (tVar i)) (mMut0 i f) := by
  intro F B H σ ρ r0 ρ' Q R e q
  obtain ⟨ds, e0, e⟩ := Option.bind_eq_some_iff.mp e
  obtain ⟨w, e4, e⟩ := Option.map_eq_some_iff.mp e
  cases e
  obtain ⟨s, hs, ho, hd⟩ := ownL_eq e0
  obtain ⟨p, hv, hB, ow⟩ := R.ownAt hs ho
  rw [hd] at ow
  obtain ⟨xs, hp, rx⟩ := ow.list
  refine ⟨_, hv, .inl ⟨rfl, xs, SqL.of hp⟩, ?_⟩
  obtain ⟨xs', u, rx', ru, hr⟩ := J B H p xs ds [] [] w hp rx R.sub .nil e4
  obtain ⟨R3, E3⟩ := R.write (o := .lst xs') (d := .list w.1) hs ho hv ⟨(fun _ z => by cases z), fun _ _ z => by cases z⟩ (.lst upd_same rx')
  have ep : putAt ρ i (.list w.1) = ρ.set i (s.put (.list w.1)) := by unfold putAt; rw [hs]
  rw [ep] at q
  exact hr Q (q u B _ E3 R3 ru fun p z => by cases z)
end Mir
set_option Elab.async false
set_option linter.all false
set_option maxRecDepth 100000
namespace Mir
open PySem L2
variable [Zc]
inductive Out where
  | nx (ρ : Rho) | rt (r : RV) (ρ : Rho) | bk (ρ : Rho) | ct (ρ : Rho)
abbrev SM := Rho → Option Out
def OutOk (F : Fr) (D : Ends) : Out → Prop
  | .nx ρ => ∀ B H σ, Rel F B H σ ρ → D.nx σ H
  | .rt r ρ => ∀ v B H σ, Rel F B H σ ρ → Val F B H σ ρ v r → D.rt v H
  | .bk ρ => ∀ B H σ, Rel F B H σ ρ → D.bk σ H
  | .ct ρ => ∀ B H σ, Rel F B H σ ρ → D.ct σ H
def MS (t : TS) (m : SM) : Prop := ∀ (F : Fr) (B H : Hp) (σ : St) (ρ : Rho) (o : Out) (D : Ends), Rel F B H σ ρ → m ρ = some o → OutOk F D o → t D σ H
def mSeq (a b : SM) : SM := fun ρ => (a ρ).bind fun o => match o with
  | .nx ρ' => b ρ'
  | o => some o
theorem ms_seq {t u : TS} {a b : SM} (ha : MS t a) (hb : MS u b) : MS (tSeq t u) (mSeq a b) := by
  intro F B H σ ρ o D R e q
  obtain ⟨x, e1, e⟩ := Option.bind_eq_some_iff.mp e
  refine ha F B H σ ρ x _ R e1 ?_
  cases x with
  | nx ρ' => exact fun B' H' σ' R' => hb F B' H' σ' ρ' o D R' e q
  | rt r ρ' => cases e; exact q
  | bk ρ' => cases e; exact q
  | ct ρ' => cases e; exact q
def mPass : SM := fun ρ => some (.nx ρ)
theorem ms_next : MS tNext mPass := by
  intro F B H σ ρ o D R e q
  cases e; exact q B H σ R
def mNever : SM := fun _ => none
def mRet (a : PM) : SM := fun ρ => (a ρ).map fun x => .rt x.1 x.2
theorem ms_ret {t : TE} {a : PM} (ha : ME t a) : MS (tRet t) (mRet a) := by
  intro F B H σ ρ o D R e q
  obtain ⟨x, e1, e⟩ := Option.map_eq_some_iff.mp e
  cases e
  exact ha F B H σ ρ x.1 x.2 _ R e1 fun v B' H' E R' V' N => q v B' H' σ R' V'
def mRetN : SM := fun ρ => some (.rt (.none, .fz) ρ)
def mDrop (a : PM) : SM := fun ρ => (a ρ).map fun x => .nx x.2
theorem ms_drop {t : TE} {a : PM} (ha : ME t a) : MS (tDrop t) (mDrop a) := by
  intro F B H σ ρ o D R e q
  obtain ⟨x, e1, e⟩ := Option.map_eq_some_iff.mp e
  cases e
  exact ha F B H σ ρ x.1 x.2 _ R e1 fun v B' H' E R' V' N => q B' H' σ R'
def mIfS (c : Rho → Option (Bool × Rho)) (a b : SM) : SM := fun ρ => (c ρ).bind fun x => if x.1 = true then a x.2 else b x.2
theorem ms_if {tc : TT} {t u : TS} {c : Rho → Option (Bool × Rho)} {a b : SM} (hc : MT tc c) (ha : MS t a) (hb : MS u b) : MS (tIfS tc t u) (mIfS c a b) := by
  intro F B H σ ρ o D R e q
  obtain ⟨x, e1, e⟩ := Option.bind_eq_some_iff.mp e
  refine hc F B H σ ρ x.1 x.2 _ R e1 fun B' H' E R' => ?_
  by_cases h : x.1 = true
  · rw [if_pos h] at e ⊢; exact ha F B' H' σ x.2 o D R' e q
  · rw [if_neg h] at e ⊢; exact hb F B' H' σ x.2 o D R' e q
def setSl (ρ : Rho) (i : Nat) (s : Sl) : Option Rho := match ρ[i]? with
  | none => none
  | some (.io _) => none
  | some _ => some (ρ.set i s)
theorem setSl_eq {ρ ρ' : Rho} {i : Nat} {s : Sl} (h : setSl ρ i s = some ρ') : ρ' = ρ.set i s ∧ ∃ s0, ρ[i]? = some s0 ∧ ∀ d, s0 ≠ .io d := by
  unfold setSl at h
  cases q : ρ[i]? with
  | none => rw [q] at h; cases h
  | some s0 =>
    rw [q] at h
    cases s0 with
    | io d => cases h
    | no => cases h; exact ⟨rfl, _, rfl, fun _ z => by cases z⟩
    | ex => cases h; exact ⟨rfl, _, rfl, fun _ z => by cases z⟩
    | fz _ => cases h; exact ⟨rfl, _, rfl, fun _ z => by cases z⟩
    | own _ => cases h; exact ⟨rfl, _, rfl, fun _ z => by cases z⟩
    | ro _ => cases h; exact ⟨rfl, _, rfl, fun _ z => by cases z⟩
section
variable {F : Fr} {B H : Hp} {σ : St} {ρ ρ' : Rho} {v : V}
theorem Rel.assignFz (R : Rel F B H σ ρ) {i : Nat} {d : D} (rp : Rep B v d) (h : setSl ρ i (.fz d) = some ρ') : Rel F B H (σ.set i (some v)) ρ' := by
  obtain ⟨rfl, s0, h0, nio⟩ := setSl_eq h
  have hl : i < ρ.length := (List.getElem?_eq_some_iff.mp h0).1
  have hls : i < σ.length := R.len ▸ hl
  have so : ∀ j, j ≠ i → (σ.set i (some v))[j]? = σ[j]? := fun j hj => List.getElem?_set_ne fun e => hj e.symm
  refine ⟨R.sub, R.sB, R.sH, R.nB, by rw [List.length_set, List.length_set]; exact R.len, ?_, ?_, ?_, ?_, ?_, R.tupB, (fun j h => by obtain ⟨h1, h2⟩ := ex_set (by simp) h; rw [so j h2]; exact R.exv j h1), R.nz⟩
  · intro j s hs
    rcases get_set hs with ⟨rfl, rfl, _⟩ | ⟨hj, hs⟩
    · exact ⟨v, List.getElem?_set_self hls, rp⟩
    · exact (R.slot j s hs).at (so j hj)
  · intro a b s t p h1 h2 h3 h4 h5 h6
    rcases get_set h1 with ⟨rfl, rfl, _⟩ | ⟨ha, h1⟩
    · cases h2
    · rcases get_set h3 with ⟨rfl, rfl, _⟩ | ⟨hb, h3⟩
      · cases h4
      · rw [so a ha] at h5; rw [so b hb] at h6; exact R.dist a b s t p h1 h2 h3 h4 h5 h6
  · intro j c p h1 h2
    rcases get_set h1 with ⟨rfl, e, _⟩ | ⟨hj, h1⟩
    · cases e
    · rw [so j hj] at h2; exact R.ownN j c p h1 h2
  · intro x hx
    obtain ⟨h1, c, h2⟩ := R.fx x hx
    have z : x.1 ≠ i := fun z => by rw [z, h0] at h2; cases h2; exact nio _ rfl
    exact ⟨by rw [so _ z]; exact h1, c, by rw [List.getElem?_set_ne fun e => z e.symm]; exact h2⟩
  · intro j c h1
    rcases get_set h1 with ⟨rfl, e, _⟩ | ⟨hj, h1⟩
    · cases e
    · exact R.ioN j c h1
theorem Rel.assignOwn (R : Rel F B H σ ρ) {i : Nat} {d : D} (vl : Val F B H σ ρ v (d, .new)) (h : setSl ρ i (.own d) = some ρ') : Rel F B H (σ.set i (some v)) ρ' := by
  obtain ⟨rfl, s0, h0, nio⟩ := setSl_eq h
  obtain ⟨p, rfl, hB, hF, ow, nn⟩ := vl
  have hl : i < ρ.length := (List.getElem?_eq_some_iff.mp h0).1
  have hls : i < σ.length := R.len ▸ hl
  have so : ∀ j, j ≠ i → (σ.set i (some (.ref p)))[j]? = σ[j]? := fun j hj => List.getElem?_set_ne fun e => hj e.symm
  have si : (σ.set i (some (.ref p)))[i]? = some (some (.ref p)) := List.getElem?_set_self hls
  refine ⟨R.sub, R.sB, R.sH, R.nB, by rw [List.length_set, List.length_set]; exact R.len, ?_, ?_, ?_, ?_, ?_, R.tupB, (fun j h => by obtain ⟨h1, h2⟩ := ex_set (by simp) h; rw [so j h2]; exact R.exv j h1), R.nz⟩
  · intro j s hs
    rcases get_set hs with ⟨rfl, rfl, _⟩ | ⟨hj, hs⟩
    · exact ⟨p, si, hB, ow⟩
    · exact (R.slot j s hs).at (so j hj)
  · intro a b s t q h1 h2 h3 h4 h5 h6
    rcases get_set h1 with ⟨rfl, rfl, _⟩ | ⟨ha, h1'⟩
    · rcases get_set h3 with ⟨rfl, rfl, _⟩ | ⟨hb, h3⟩
      · rfl
      · rw [si] at h5
        cases h5
        rw [so b hb] at h6
        exact absurd h6 (nn b t h3 h4)
    · rcases get_set h3 with ⟨rfl, rfl, _⟩ | ⟨hb, h3⟩
      · rw [si] at h6
        cases h6
        rw [so a ha] at h5
        exact absurd h5 (nn a s h1' (Sl.ref_of h2))
      · rw [so a ha] at h5; rw [so b hb] at h6; exact R.dist a b s t q h1' h2 h3 h4 h5 h6
  · intro j c q h1 h2
    rcases get_set h1 with ⟨rfl, e, _⟩ | ⟨hj, h1⟩
    · rw [si] at h2; cases h2; exact hF
    · rw [so j hj] at h2; exact R.ownN j c q h1 h2
  · intro x hx
    obtain ⟨h1, c, h2⟩ := R.fx x hx
    have z : x.1 ≠ i := fun z => by rw [z, h0] at h2; cases h2; exact nio _ rfl
    exact ⟨by rw [so _ z]; exact h1, c, by rw [List.getElem?_set_ne fun e => z e.symm]; exact h2⟩
  · intro j c h1
    rcases get_set h1 with ⟨rfl, e, _⟩ | ⟨hj, h1⟩
    · cases e
    · exact R.ioN j c h1
end
def sto (i : Nat) (x : RV × Rho) : Option Rho := match x.1.2 with
  | .fz => setSl x.2 i (.fz x.1.1)
  | .new => setSl x.2 i (.own x.1.1)
  | .at j => if j = i then some x.2 else (fzOne x.1 x.2).bind fun y => setSl y.2 i (.fz y.1)
  | .ro => none
def mAsg (i : Nat) (a : PM) : SM := fun ρ => (a ρ).bind fun x => (sto i x).map .nx
theorem ms_asg {i : Nat} {t : TE} {a : PM} (ha : ME t a) : MS (tAsg t (gName i)) (mAsg i a) := by
  intro F B H σ ρ o D R e q
  obtain ⟨x, e1, e⟩ := Option.bind_eq_some_iff.mp e
  obtain ⟨ρ2, e2, e⟩ := Option.map_eq_some_iff.mp e
  cases e
  refine ha F B H σ ρ x.1 x.2 _ R e1 fun v B1 H1 E1 R1 V1 N1 => ?_
  show D.nx (σ.set i (some v)) H1
  obtain ⟨⟨d, k⟩, ρ1⟩ := x
  cases k with
  | fz => exact q B1 H1 _ (R1.assignFz V1 e2)
  | new => exact q B1 H1 _ (R1.assignOwn V1 e2)
  | ro => cases e2
  | «at» j =>
    have e2' : (if j = i then some ρ1 else (fzOne (d, .at j) ρ1).bind fun y => setSl y.2 i (.fz y.1)) = some ρ2 := e2
    obtain ⟨s, h1, h2, h3, h4⟩ := V1
    have h4' : σ[j]? = some (some v) := h4
    by_cases z : j = i
    · rw [if_pos z] at e2'
      cases e2'
      subst z
      have : σ.set j (some v) = σ := by
        apply List.ext_getElem?
        intro k
        by_cases hk : k = j
        · subst hk
          obtain ⟨hl, _⟩ := List.getElem?_eq_some_iff.mp h4'
          rw [List.getElem?_set_self hl, h4']
        · rw [List.getElem?_set_ne fun e => hk e.symm]
      rw [this]
      exact q B1 H1 _ R1
    · rw [if_neg z] at e2'
      obtain ⟨y, e3, e4⟩ := Option.bind_eq_some_iff.mp e2'
      obtain ⟨B2, R2, rp, E2⟩ := R1.frz (v := v) (r := (d, .at j)) (show WVal B1 σ v (d, .at j) from h4') e3
      exact q B2 H1 _ (R2.assignFz rp e4)
def mAug (i : Nat) (f : Int → Int → Int) (a : PM) : SM := fun ρ => match ρ[i]? with
  | some (.fz (.int x)) => ((sv a ρ).bind asI).bind fun y => (setSl y.2 i (.fz (.int (f x y.1)))).map .nx
  | _ => none
def MG (g : TG) (mg : D → Rho → Option Rho) : Prop := ∀ (F : Fr) (B H : Hp) (σ : St) (ρ : Rho) (v : V) (d : D) (ρ' : Rho) (Q : St → Hp → Prop), Rel F B H σ ρ → Rep B v d → mg d ρ = some ρ' → (∀ B' H' σ', Rel F B' H' σ' ρ' → Same B B' → Q σ' H') → g v σ H Q
def MGs (g : TGs) (mg : List D → Rho → Option Rho) : Prop := ∀ (F : Fr) (B H : Hp) (σ : St) (ρ : Rho) (vs : List V) (ds : List D) (ρ' : Rho) (Q : St → Hp → Prop), Rel F B H σ ρ → Reps B vs ds → mg ds ρ = some ρ' → (∀ B' H' σ', Rel F B' H' σ' ρ' → Same B B' → Q σ' H') → g vs σ H Q
def mgN (i : Nat) : D → Rho → Option Rho := fun d ρ => setSl ρ i (.fz d)
theorem mg_name {i : Nat} : MG (gName i) (mgN i) := fun F B H σ ρ v d ρ' Q R rp e q => q B H _ (R.assignFz rp e) (Same.refl _)
def mgsNil : List D → Rho → Option Rho := fun ds ρ => match ds with
  | [] => some ρ
  | _ => none
def mgsCons (g : D → Rho → Option Rho) (gs : List D → Rho → Option Rho) : List D → Rho → Option Rho := fun ds ρ => match ds with
  | d :: ds => (g d ρ).bind fun ρ1 => gs ds ρ1
  | _ => none
theorem mgs_nil : MGs gNil mgsNil := fun F B H σ ρ vs ds ρ' Q R rp e q => by
  cases rp with
  | nil => cases e; exact ⟨rfl, q B H σ R (Same.refl _)⟩
  | cons _ _ => cases e
theorem mgs_cons {g : TG} {gs : TGs} {m : D → Rho → Option Rho} {ms : List D → Rho → Option Rho} (h : MG g m) (hs : MGs gs ms) : MGs (gCons g gs) (mgsCons m ms) := fun F B H σ ρ vs ds ρ' Q R rp e q => by
  cases rp with
  | nil => cases e
  | cons r rs =>
    obtain ⟨ρ1, e1, e2⟩ := Option.bind_eq_some_iff.mp e
    exact ⟨_, _, rfl, h F B H σ ρ _ _ ρ1 _ R r e1 fun B1 H1 σ1 R1 s1 => hs F B1 H1 σ1 ρ1 _ _ ρ' Q R1 (rs.mono s1) e2 fun B2 H2 σ2 R2 s2 => q B2 H2 σ2 R2 (s1.trans s2)⟩
def mgT (n : Nat) (ms : List D → Rho → Option Rho) : D → Rho → Option Rho := fun d ρ => (asT d).bind fun ds => if ds.length = n then ms ds ρ else none
def mAsgG (a : PM) (g : D → Rho → Option Rho) : SM := fun ρ => (sv a ρ).bind fun x => (fzOne x.1 x.2).bind fun y => (g y.1 y.2).map .nx
theorem ms_asgG {t : TE} {tg : TG} {a : PM} {g : D → Rho → Option Rho} (ha : ME t a) (hg : MG tg g) : MS (tAsg t tg) (mAsgG a g) := by
  intro F B H σ ρ o D R e q
  obtain ⟨x, e1, e⟩ := Option.bind_eq_some_iff.mp e
  obtain ⟨y, e2, e⟩ := Option.bind_eq_some_iff.mp e
  obtain ⟨ρ2, e3, e⟩ := Option.map_eq_some_iff.mp e
  cases e
  refine ha.sv F B H σ ρ x.1 x.2 _ R e1 fun v B1 H1 E1 R1 V1 N1 => ?_
  have w : WVal B1 σ v x.1 := (Vl.weak (F := F) (H := H1) (ρ := x.2) (vs := [v]) (rs := [x.1]) ⟨⟨V1, sv_kind e1⟩, trivial⟩).1
  obtain ⟨B2, R2, rp, E2⟩ := R1.frz w e2
  exact hg F B2 H1 σ y.2 v y.1 ρ2 _ R2 rp e3 fun B' H' σ' R' _ => q B' H' σ' R'
def mgSub (i : Nat) (a : PM) : D → Rho → Option Rho := fun d ρ => (ownL ρ[i]?).bind fun _ => ((sv a ρ).bind asI).bind fun y => (ownL y.2[i]?).bind fun ds => (ixN ds.length y.1).map fun j => putAt y.2 i (.list (ds.set j d))
def forL (g : D → Rho → Option Rho) (b : SM) : List D → SM
  | [] => fun ρ => some (.nx ρ)
  | d :: ds => fun ρ => (g d ρ).bind fun ρ1 => (b ρ1).bind fun o => match o with
      | .nx ρ' => forL g b ds ρ'
      | .ct ρ' => forL g b ds ρ'
      | .bk ρ' => some (.nx ρ')
      | .rt r ρ' => some (.rt r ρ')
def mFor (it : Rho → Option (List D × Rho)) (g : D → Rho → Option Rho) (b : SM) : SM := fun ρ => (it ρ).bind fun x => forL g b x.1 x.2
section
variable {F : Fr} {B B1 H H1 : Hp} {σ σ1 : St} {ρ ρ1 : Rho}
theorem Rel.up (R1 : Rel F B1 H1 σ1 ρ1) (R : Rel ⟨B1, F.H, F.io, F.Z⟩ B H σ ρ) : Rel F B H σ ρ :=
  ⟨R.sub, R1.sB.trans R.sB, R.sH, fun q h z => R.nB q h (R1.nB q h z), R.len, R.slot, R.dist, R.ownN, R.fx, R.ioN, R.tupB, R.exv, R.nz⟩
theorem Rel.down (R1 : Rel F B1 H1 σ1 ρ1) : Rel ⟨B1, F.H, F.io, F.Z⟩ B1 H1 σ1 ρ1 :=
  ⟨R1.sub, Same.refl _, R1.sH, fun q h z => z, R1.len, R1.slot, R1.dist, R1.ownN, R1.fx, R1.ioN, R1.tupB, R1.exv, R1.nz⟩
end
theorem OutOk.down {F : Fr} {B1 H1 : Hp} {σ1 : St} {ρ1 : Rho} (R1 : Rel F B1 H1 σ1 ρ1) {D : Ends} {o : Out} (h : OutOk F D o) : OutOk ⟨B1, F.H, F.io, F.Z⟩ D o := by
  cases o with
  | nx ρ => exact fun B H σ R => h B H σ (R1.up R)
  | bk ρ => exact fun B H σ R => h B H σ (R1.up R)
  | ct ρ => exact fun B H σ R => h B H σ (R1.up R)
  | rt r ρ => exact fun v B H σ R V => h v B H σ (R1.up R) V
theorem ms_for {ti : TI} {tg : TG} {tb : TS} {it : Rho → Option (List D × Rho)} {g : D → Rho → Option Rho} {b : SM} (hi : MF ti it) (hg : MG tg g) (hb : MS tb b) : MS (tFor ti tg tb) (mFor it g b) := by
  intro F B H σ ρ o D R e q
  obtain ⟨x, e1, e⟩ := Option.bind_eq_some_iff.mp e
  refine hi F B H σ ρ x.1 x.2 _ R e1 fun J B1 H1 E1 R1 I1 => ?_
  obtain ⟨ds, ρ1⟩ := x
  have q' := q.down R1
  refine ⟨fun i m σ H => m = ds.length - i ∧ i ≤ ds.length ∧ ∃ B ρ, Rel ⟨B1, F.H, F.io, F.Z⟩ B H σ ρ ∧ forL g b (ds.drop i) ρ = some o, ⟨ds.length, rfl, Nat.zero_le _, B1, ρ1, R1.down, e⟩, ?_⟩
  rintro i m σ2 H2 ⟨rfl, hil, B2, ρ2, R2, e2⟩
  have sH : Same B1 H2 := R2.sB.trans R2.sub
  by_cases hlt : i < ds.length
  · refine .inr ?_
    obtain ⟨go, yl⟩ := (I1 H2 sH).2 i ds[i] (List.getElem?_eq_getElem hlt)
    rw [List.drop_eq_getElem_cons hlt] at e2
    obtain ⟨ρ3, e3, e4⟩ := Option.bind_eq_some_iff.mp (show (g ds[i] ρ2).bind _ = some o from e2)
    obtain ⟨w, e5, e6⟩ := Option.bind_eq_some_iff.mp e4
    refine ⟨go, fun σ' H' => ∃ B' ρ', Rel ⟨B1, F.H, F.io, F.Z⟩ B' H' σ' ρ' ∧ forL g b (ds.drop (i + 1)) ρ' = some o, fun σ' H' h' => ⟨ds.length - (i + 1), by omega, rfl, hlt, h'⟩, fun y H3 hy => ?_⟩
    have had : ∃ B3, Rel ⟨B1, F.H, F.io, F.Z⟩ B3 H3 σ2 ρ2 ∧ Rep B3 y ds[i] := by
      rcases yl y H3 hy with ⟨rfl, h2⟩ | ⟨p, xs, cs, h1, rfl, h3, rfl, h5⟩
      · exact ⟨B2, R2, h2.mono R2.sB⟩
      · obtain ⟨R3, E3, e3⟩ := R2.layT (xs := xs) h3
        exact ⟨_, R3, by rw [h1]; exact .tup upd_same (h5.mono (R2.sB.trans e3))⟩
    obtain ⟨B3, R3, rp⟩ := had
    refine hg _ B3 H3 σ2 ρ2 y ds[i] ρ3 _ R3 rp e3 fun B4 H4 σ4 R4 _ => ?_
    refine hb _ B4 H4 σ4 ρ3 w _ R4 e5 ?_
    cases w with
    | nx ρ' => exact fun B' H' σ' R' => ⟨B', ρ', R', e6⟩
    | ct ρ' => exact fun B' H' σ' R' => ⟨B', ρ', R', e6⟩
    | bk ρ' => cases e6; exact q'
    | rt r ρ' => cases e6; exact q'
  · have hi' : i = ds.length := by omega
    subst hi'
    rw [List.drop_length] at e2
    cases e2
    exact .inl ⟨(I1 H2 sH).1, q' B2 H2 σ2 R2⟩
def retD : Out → Option (D × Bool)
  | .rt (d, .fz) _ => some (d, false)
  | .rt (d, .new) _ => some (d, true)
  | .rt (_, .at i) ρ => match ρ[i]? with
    | some (.own d) => some (d, true)
    | _ => none
  | .nx _ => some (.none, false)
  | _ => none
def fnM (n k : Nat) (b : SM) (ds : List D) : Option (D × Bool) := if ds.length = n then (b (ds.map .fz ++ List.replicate k .no)).bind retD else none
theorem fn_run {n k : Nat} {b : SM} {t : TS} {N : List Str} {vs : List V} {H : Hp} {Q : VK} {E : XK} (hb : MS t b) (hN : N.length = n + k) (h : spM (fnM n k b) vs H Q E) : t { nx := fun _ H' => Q .non H', rt := Q } (L2.start N vs) H := by
  obtain ⟨B, ds, d, o, sub, tB, rp, e, q⟩ := h
  unfold fnM at e
  split at e
  case isFalse => cases e
  rename_i hl
  obtain ⟨w, e1, e2⟩ := Option.bind_eq_some_iff.mp e
  have hvl : vs.length = n := rp.length.trans hl
  have own0 : ∀ (i : Nat) (s : Sl), (ds.map Sl.fz ++ List.replicate k .no)[i]? = some s → s.isRef = true → False := fun i s h1 h2 => by
    have := List.mem_of_getElem? h1
    rcases List.mem_append.mp this with h | h
    · obtain ⟨c, _, rfl⟩ := List.mem_map.mp h; cases h2
    · rw [List.eq_of_mem_replicate h] at h2; cases h2
  have ex0 : ∀ i : Nat, (ds.map Sl.fz ++ List.replicate k .no)[i]? = some Sl.ex → False := fun i h1 => by
    have := List.mem_of_getElem? h1
    rcases List.mem_append.mp this with h | h
    · obtain ⟨c, _, z⟩ := List.mem_map.mp h; cases z
    · have := List.eq_of_mem_replicate h; cases this
  have R : Rel ⟨B, H, [], fun q => H q ≠ none⟩ B H (L2.start N vs) (ds.map .fz ++ List.replicate k .no) := by
    refine ⟨sub, Same.refl _, fun _ _ z _ => z, fun _ _ z => z, ?_, fun i s hs => ?_, fun i j s t p h1 h2 => (own0 i s h1 (Sl.ref_of h2)).elim, fun i c p h1 => (own0 i _ h1 rfl).elim, (fun x hx => by cases hx), fun i c h1 => (own0 i _ h1 rfl).elim, tB, (fun i h1 => (ex0 i h1).elim), fun q o u h z => by rw [z] at h; cases h⟩
    · simp [L2.start, hl, hvl, hN]
    · by_cases hi : i < n
      · rw [List.getElem?_append_left (by simpa [hl] using hi), List.getElem?_map] at hs
        obtain ⟨c, h1, rfl⟩ := Option.map_eq_some_iff.mp hs
        obtain ⟨x, h2, h3⟩ := rp.get i c h1
        refine ⟨x, ?_, h3⟩
        unfold L2.start
        rw [List.getElem?_append_left (by simpa [hvl] using hi), List.getElem?_map, h2]
        rfl
      · rw [List.getElem?_append_right (by simpa [hl] using Nat.le_of_not_lt hi)] at hs
        have := List.eq_of_mem_replicate (List.mem_of_getElem? hs)
        subst this
        trivial
  refine hb _ B H _ _ w _ R e1 ?_
  have post : ∀ {B' H' : Hp} {σ' : St} {ρ' : Rho}, Rel ⟨B, H, [], fun q => H q ≠ none⟩ B' H' σ' ρ' → Same H H' ∧ Same B B' ∧ Same B' H' ∧ (∀ q, H q ≠ none → B q = none → B' q = none) ∧ (∀ q xs, H' q = some (.tup xs) → B' q = some (.tup xs)) ∧ ∀ q o u, H' q = some (.frz o u) → H q ≠ none := fun R' =>
    ⟨fun q u z => R'.sH q u z (fun x hx => by cases hx), R'.sB, R'.sub, R'.nB, R'.tupB, R'.nz⟩
  cases w with
  | nx ρ' =>
    cases e2
    intro B' H' σ' R'
    obtain ⟨p1, p2, p3, p4, p5, p6⟩ := post R'
    exact q _ B' H' ⟨p1, p2, p3, p4, p5, p6, .non⟩
  | bk ρ' => cases e2
  | ct ρ' => cases e2
  | rt r ρ' =>
    intro v B' H' σ' R' V'
    obtain ⟨p1, p2, p3, p4, p5, p6⟩ := post R'
    obtain ⟨c, kd⟩ := r
    cases kd with
    | fz => cases e2; exact q v B' H' ⟨p1, p2, p3, p4, p5, p6, V'⟩
    | new =>
      cases e2
      obtain ⟨p, rfl, h1, h2, h3, _⟩ := V'
      exact q _ B' H' ⟨p1, p2, p3, p4, p5, p6, ⟨p, rfl, h2, h1, h3⟩⟩
    | ro => cases e2
    | «at» i =>
      obtain ⟨s, h1, h2, h3, h4⟩ := V'
      have e2' : (match ρ'[i]? with
        | some (.own d) => some (d, true)
        | _ => none) = some (d, o) := e2
      rw [h1] at e2'
      cases s with
      | own c' =>
        cases e2'
        obtain ⟨p, g1, g2, g3⟩ := R'.slot i _ h1
        have h4' : σ'[i]? = some (some v) := h4
        rw [h4'] at g1
        cases g1
        exact q _ B' H' ⟨p1, p2, p3, p4, p5, p6, ⟨p, rfl, R'.ownN i _ p h1 h4', g2, g3⟩⟩
      | _ => cases e2'
theorem spM_len {n k : Nat} {b : SM} {vs : List V} {H : Hp} {Q : VK} {E : XK} (h : spM (fnM n k b) vs H Q E) : vs.length = n := by
  obtain ⟨B, ds, d, o, sub, tB, rp, e, q⟩ := h
  unfold fnM at e
  split at e
  · rename_i hl; exact rp.length.trans hl
  · cases e
end Mir
set_option Elab.async false
set_option linter.all false
set_option maxRecDepth 100000
namespace Mir
open PySem L2 PySem.Spec PyProof.Rows
variable [Zc]
section
variable {X : Cx}
def rCatR : R2 := fun x y H Q => ∃ l b xs zs, x = .ref l ∧ y = .ref b ∧ Rd H l (.lst xs) ∧ Rd H b (.lst zs) ∧ xs.length + zs.length ≤ sizeLine ∧ ∀ p, H p = none → Q (.ref p) (upd H p (.lst (xs ++ zs)))
theorem op_catR : OpR X (binaryOp .Add) rCatR := by
  intro pins s σ H x y v u Q I rx ry h
  obtain ⟨l, b, xs, zs, rfl, rfl, hH, hB, hz, q⟩ := h
  cases rx
  cases ry
  obtain ⟨z, its, n, r, e⟩ := hH.ok I.hok
  obtain ⟨z2, its2, n2, r2, e2⟩ := hB.ok I.hok
  have hl := r.length
  have hl2 := r2.length
  refine PySem.P.add_list e e2 ?_ (by rw [List.size_toArray, List.size_toArray]; omega)
  have ea : its.toArray ++ its2.toArray = (its ++ its2).toArray := by simp
  rw [ea]
  exact ⟨.ref _, _, I.lnew (t' := s.toks) (r.append r2) (by rw [List.length_append]; omega), rfl, q _ I.fresh⟩
def rPlusM (K : PySem.W.Frag) : R2 := fun x y H Q => rI0 (fun i j => .int (i + j)) x y H Q ∨ rCatR x y H Q ∨ (∃ i j, x = .str i ∧ y = .str j ∧ i.length + j.length ≤ sizeLine ∧ Q (.str (i ++ j)) H) ∨ rCatT K x y H Q
theorem op_addM : OpR X (binaryOp .Add) (rPlusM X.K) := op_add.or (op_catR.or (op_add_str.or op_catT))
end
theorem res_int {B H : Hp} {i : Int} {k : VK → Prop} (h : ∀ Q : VK, Q (.int i) H → k Q) : ResOk B H (.int i, false) k := ⟨_, .int i, h⟩
theorem res_bool {B H : Hp} {i : Bool} {k : VK → Prop} (h : ∀ Q : VK, Q (.bl i) H → k Q) : ResOk B H (.bool i, false) k := ⟨_, .bl i, h⟩
theorem res_str {B H : Hp} {i : Str} {k : VK → Prop} (h : ∀ Q : VK, Q (.str i) H → k Q) : ResOk B H (.str i, false) k := ⟨_, .str i, h⟩
noncomputable def gAdd : D → D → Option (D × Bool)
  | .int i, .int j => some (.int (i + j), false)
  | .list a, .list b => cIf (a.length + b.length ≤ sizeLine) (some (.list (a ++ b), true)) none
  | .str a, .str b => cIf (a.length + b.length ≤ sizeLine) (some (.str (a ++ b), false)) none
  | .tuple (c :: a), .tuple b => cIf ((c :: a).length + b.length ≤ sizeLine ∧ b ≠ []) (some (.tuple ((c :: a) ++ b), true)) none
  | _, _ => none
theorem J_add {K : PySem.W.Frag} : OpJ (rPlusM K) gAdd := by
  intro B H x y c d res s hx hy e
  unfold gAdd at e
  split at e
  · cases e
    have h1 := hx.int; have h2 := hy.int; subst h1 h2
    exact res_int fun Q q => .inl ⟨_, _, rfl, rfl, q⟩
  · obtain ⟨hz, e⟩ := cIf_eq e
    · cases e
      obtain ⟨p, xs, rfl, r1, rp1⟩ := hx.list s
      obtain ⟨p2, ys, rfl, r2, rp2⟩ := hy.list s
      exact ⟨xs ++ ys, rp1.append rp2, fun Q q => .inr (.inl ⟨_, _, _, _, rfl, rfl, r1, r2, by rw [rp1.length, rp2.length]; exact hz, q⟩)⟩
  · obtain ⟨hz, e⟩ := cIf_eq e
    · cases e
      have h1 := hx.str; have h2 := hy.str; subst h1 h2
      exact res_str fun Q q => .inr (.inr (.inl ⟨_, _, rfl, rfl, hz, q⟩))
  · obtain ⟨hz, e⟩ := cIf_eq e
    · cases e
      obtain ⟨p, xs, rfl, r1, rp1⟩ := hx.tuple s
      obtain ⟨p2, ys, rfl, r2, rp2⟩ := hy.tuple s
      have hne : xs ≠ [] := by intro z; subst z; cases rp1
      have hne2 : ys ≠ [] := by intro z; subst z; cases rp2; exact hz.2 rfl
      refine ⟨xs ++ ys, rp1.append rp2, fun Q q => .inr (.inr (.inr ⟨_, _, xs, ys, rfl, rfl, .inl (.inl r1), .inl (.inl r2), ?_⟩))⟩
      exact ⟨hne, by rw [rp1.length, rp2.length]; exact hz.1, fun z => absurd z hne2, fun _ => q⟩
  · cases e
noncomputable def gI (C : Int → Int → Prop) (f : Int → Int → Int) : D → D → Option (D × Bool)
  | .int i, .int j => cIf (C i j) (some (.int (f i j), false)) none
  | _, _ => none
theorem J_I {C : Int → Int → Prop} {f : Int → Int → Int} : OpJ (rI C fun i j => .int (f i j)) (gI C f) := by
  intro B H x y c d res s hx hy e
  unfold gI at e
  split at e
  · obtain ⟨hc, e⟩ := cIf_eq e
    · cases e
      have h1 := hx.int; have h2 := hy.int; subst h1 h2
      exact res_int fun Q q => ⟨_, _, rfl, rfl, hc, q⟩
  · cases e
def gI0 (f : Int → Int → Int) : D → D → Option (D × Bool)
  | .int i, .int j => some (.int (f i j), false)
  | _, _ => none
theorem J_I0 {f : Int → Int → Int} : OpJ (rI0 fun i j => .int (f i j)) (gI0 f) := by
  intro B H x y c d res s hx hy e
  unfold gI0 at e
  split at e
  · cases e
    have h1 := hx.int; have h2 := hy.int; subst h1 h2
    exact res_int fun Q q => ⟨_, _, rfl, rfl, q⟩
  · cases e
def gB0 (f : Int → Int → Bool) : D → D → Option (D × Bool)
  | .int i, .int j => some (.bool (f i j), false)
  | _, _ => none
theorem J_B0 {f : Int → Int → Bool} : OpJ (rI0 fun i j => .bl (f i j)) (gB0 f) := by
  intro B H x y c d res s hx hy e
  unfold gB0 at e
  split at e
  · cases e
    have h1 := hx.int; have h2 := hy.int; subst h1 h2
    exact res_bool fun Q q => ⟨_, _, rfl, rfl, q⟩
  · cases e
abbrev gSub := gI0 fun i j => i - j
abbrev gLt := gB0 fun i j => decide (i < j)
abbrev gLe := gB0 fun i j => decide (i ≤ j)
abbrev gGt := gB0 fun i j => decide (j < i)
noncomputable abbrev gDiv := gI CDiv fun i j => i / j
noncomputable abbrev gMod := gI (fun _ j => 0 < j) fun i j => i % j
noncomputable abbrev gPow := gI CPow fun i j => i ^ j.toNat
section
variable {X : Cx}
def rTimesM : R2 := fun x y H Q => rI IntMulOk (fun i j => .int (i * j)) x y H Q ∨ rRep x y H Q
theorem op_mulM : OpR X (binaryOp .Mult) rTimesM := op_mulB.or op_rep
end
noncomputable def gMul : D → D → Option (D × Bool)
  | .int i, .int j => cIf (IntMulOk i j) (some (.int (i * j), false)) none
  | _, _ => none
theorem J_mul : OpJ rTimesM gMul := by
  intro B H x y c d res s hx hy e
  unfold gMul at e
  split at e
  · obtain ⟨hc, e⟩ := cIf_eq e
    · cases e
      have h1 := hx.int; have h2 := hy.int; subst h1 h2
      exact res_int fun Q q => .inl ⟨_, _, rfl, rfl, hc, q⟩
  · cases e
mutual
theorem Rep.data {K : PySem.W.Frag} {H : Hp} : ∀ {v : V} {d : D}, Rep H v d → d.canLay0 = true → DataV K H v d
  | _, _, .non, _ => .non
  | _, _, .bl b, _ => .bl b
  | _, _, .int i, _ => .int i
  | _, _, .str x, _ => .str x
  | _, _, .lst h r, e => .lst (rd_sq h) (Reps.data r (by simpa [PyData.canLay0] using e))
  | _, _, .tup h r, e => .tup (.inl (.inl h)) (Reps.data r (by simpa [PyData.canLay0] using e))
  | _, _, .dct _ _, e => by simp [PyData.canLay0] at e
theorem Reps.data {K : PySem.W.Frag} {H : Hp} : ∀ {v : List V} {d : List D}, Reps H v d → PyData.canLayAll0 d = true → DataVs K H v d
  | _, _, .nil, _ => .nil
  | _, _, .cons a b, e => by
    simp only [PyData.canLayAll0, Bool.and_eq_true] at e
    exact .cons (Rep.data a e.1) (Reps.data b e.2)
end
def gEq : D → D → Option (D × Bool) := fun c d => if SeqAt.shaped c = true ∧ SeqAt.shaped d = true then some (.bool (PyData.eqv c d), false) else none
def gNe : D → D → Option (D × Bool) := fun c d => if SeqAt.shaped c = true ∧ SeqAt.shaped d = true then some (.bool (!PyData.eqv c d), false) else none
theorem J_eq {K : PySem.W.Frag} : OpJ (rEqD K) gEq := by
  intro B H x y c d res s hx hy e
  unfold gEq at e
  split at e
  · rename_i h
    cases e
    exact res_bool fun Q q => ⟨_, _, (hx.rep s).data (SeqAt.canLay_of_shaped h.1), (hy.rep s).data (SeqAt.canLay_of_shaped h.2), h.1, h.2, q⟩
  · cases e
theorem J_ne {K : PySem.W.Frag} : OpJ (rNeD K) gNe := by
  intro B H x y c d res s hx hy e
  unfold gNe at e
  split at e
  · rename_i h
    cases e
    exact res_bool fun Q q => ⟨_, _, (hx.rep s).data (SeqAt.canLay_of_shaped h.1), (hy.rep s).data (SeqAt.canLay_of_shaped h.2), h.1, h.2, q⟩
  · cases e
def isNone : D → Bool
  | .none => true
  | _ => false
theorem Rep.isNone {H : Hp} {v : V} {d : D} (h : Rep H v d) : decide (v = .non) = Mir.isNone d := by cases h <;> rfl
def gIs : D → D → Option (D × Bool)
  | c, .none => some (.bool (isNone c), false)
  | _, _ => none
def gIsNot : D → D → Option (D × Bool)
  | c, .none => some (.bool (!isNone c), false)
  | _, _ => none
def gNeg : D → Option (D × Bool)
  | .int i => some (.int (-i), false)
  | _ => none
theorem J_neg : UnJ (rU fun i => .int (-i)) gNeg := by
  intro B H x c res s hx e
  unfold gNeg at e
  split at e
  · cases e
    have h1 := hx.int; subst h1
    exact res_int fun Q q => ⟨_, rfl, q⟩
  · cases e
def gIx : D → D → Option (D × Bool)
  | .list ds, .int i => (atI ds i).map fun d => (d, false)
  | .tuple ds, .int i => (atI ds i).map fun d => (d, false)
  | _, _ => none
theorem Reps.atI {H : Hp} {vs : List V} {ds : List D} (r : Reps H vs ds) {i : Int} {d : D} (h : L2.atI ds i = some d) : ∃ v, L2.atI vs i = some v ∧ Rep H v d := by
  unfold L2.atI at h ⊢
  rw [r.length]
  obtain ⟨j, h1, h2⟩ := Option.bind_eq_some_iff.mp h
  obtain ⟨v, h3, h4⟩ := r.get j d h2
  exact ⟨v, by rw [h1]; exact h3, h4⟩
theorem J_ix {K : PySem.W.Frag} : OpJ (rIx K) gIx := by
  intro B H x y c d res s hx hy e
  unfold gIx at e
  split at e
  · obtain ⟨w, h1, h2⟩ := Option.map_eq_some_iff.mp e
    cases h2
    obtain ⟨p, xs, rfl, r1, rp1⟩ := hx.list s
    have h2 := hy.int; subst h2
    obtain ⟨v, h3, h4⟩ := rp1.atI h1
    exact ⟨v, h4, fun Q q => .inl ⟨_, _, _, _, rfl, rfl, rd_sq r1, h3, q⟩⟩
  · obtain ⟨w, h1, h2⟩ := Option.map_eq_some_iff.mp e
    cases h2
    obtain ⟨p, xs, rfl, r1, rp1⟩ := hx.tuple s
    have h2 := hy.int; subst h2
    obtain ⟨v, h3, h4⟩ := rp1.atI h1
    exact ⟨v, h4, fun Q q => .inr (.inl ⟨_, _, _, _, rfl, rfl, .inl (.inl r1), h3, q⟩)⟩
  · cases e
def cutD (ds : List D) (lo hi : Option Int) : List D := (ds.drop (HT.sIx ds.length 0 lo)).take (HT.sIx ds.length ds.length hi - HT.sIx ds.length 0 lo)
theorem Reps.cut {H : Hp} {vs : List V} {ds : List D} (r : Reps H vs ds) (lo hi : Option Int) : Reps H (cutV vs lo hi) (cutD ds lo hi) := by
  unfold cutV cutD
  rw [r.length]
  exact (r.drop _).take _
def gSl : D → Option Int → Option Int → Option (D × Bool)
  | .list ds, lo, hi => some (.list (cutD ds lo hi), true)
  | _, _, _ => none
theorem J_sl {K : PySem.W.Frag} : SlJ (rSlL K) gSl := by
  intro B H x c l u res s hx e
  unfold gSl at e
  split at e
  · cases e
    obtain ⟨p, xs, rfl, r1, rp1⟩ := hx.list s
    exact ⟨_, rp1.cut _ _, fun Q q => ⟨_, _, rfl, rd_sq r1, q⟩⟩
  · cases e
noncomputable def gLen : List D → Option (D × Bool)
  | [.list ds] => some (.int ds.length, false)
  | [.tuple ds] => some (.int ds.length, false)
  | [.str x] => cIf (x.length ≤ sizeLine) (some (.int x.length, false)) none
  | _ => none
theorem views1 {B H : Hp} {vs : List V} {d : D} (h : Views B H vs [d]) : ∃ v, vs = [v] ∧ View B H v d := by
  match vs, h with
  | [v], ⟨h, _⟩ => exact ⟨v, rfl, h⟩
theorem J_len {K : PySem.W.Frag} : CallJ (rLen K) gLen := by
  intro B H vs ds res s h e
  unfold gLen at e
  split at e
  · cases e
    obtain ⟨v, rfl, hh⟩ := views1 h
    obtain ⟨p, xs, rfl, r1, rp1⟩ := hh.list s
    exact res_int fun Q q => .inl ⟨_, _, rfl, .inl (rd_sq r1), by rw [rp1.length]; exact q⟩
  · cases e
    obtain ⟨v, rfl, hh⟩ := views1 h
    obtain ⟨p, xs, rfl, r1, rp1⟩ := hh.tuple s
    exact res_int fun Q q => .inl ⟨_, _, rfl, .inr (.inl (.inl r1)), by rw [rp1.length]; exact q⟩
  · obtain ⟨hz, e⟩ := cIf_eq e
    · cases e
      obtain ⟨v, rfl, hh⟩ := views1 h
      have := hh.str; subst this
      exact res_int fun Q q => .inr ⟨_, rfl, hz, q⟩
  · cases e
def gMax : List D → Option (D × Bool)
  | [.int i, .int j] => some (.int (if j > i then j else i), false)
  | _ => none
def gMin : List D → Option (D × Bool)
  | [.int i, .int j] => some (.int (if j < i then j else i), false)
  | _ => none
def gAbs : List D → Option (D × Bool)
  | [.int i] => some (.int (if i < 0 then -i else i), false)
  | _ => none
def gInt : List D → Option (D × Bool)
  | [.int i] => some (.int i, false)
  | [.bool b] => some (.int (if b then 1 else 0), false)
  | _ => none
theorem J_abs : CallJ (fun xs H Q => ∃ i, xs = [.int i] ∧ Q (.int (if i < 0 then -i else i)) H) gAbs := by
  intro B H vs ds res s h e
  unfold gAbs at e
  split at e
  · cases e
    obtain ⟨v, rfl, h1⟩ := views1 h
    have := h1.int; subst this
    exact res_int fun Q q => ⟨_, rfl, q⟩
  · cases e
def boolsOf : List D → Option (List Bool)
  | [] => some []
  | .bool i :: ds => (boolsOf ds).map (i :: ·)
  | _ => none
theorem Reps.bools {H : Hp} : ∀ {vs : List V} {ds : List D} {ns : List Bool}, Reps H vs ds → boolsOf ds = some ns → vs = ns.map V.bl
  | _, _, _, .nil, e => by cases e; rfl
  | _, _, _, .cons (d := d) a b, e => by
    cases d with
    | bool i =>
      obtain ⟨ms, h1, h2⟩ := Option.map_eq_some_iff.mp (show (boolsOf _).map _ = some _ from e)
      cases h2
      cases a
      rw [List.map_cons, Reps.bools b h1]
    | _ => cases e
def gAll : List D → Option (D × Bool)
  | [.list ds] => (boolsOf ds).map fun ns => (.bool (ns.all id), false)
  | _ => none
theorem J_all {K : PySem.W.Frag} : CallJ (rAll K) gAll := by
  intro B H vs ds res s h e
  unfold gAll at e
  split at e
  · obtain ⟨ns, h1, h2⟩ := Option.map_eq_some_iff.mp e
    cases h2
    obtain ⟨v, rfl, hh⟩ := views1 h
    obtain ⟨p, xs, rfl, r1, rp1⟩ := hh.list s
    have := rp1.bools h1; subst this
    exact res_bool fun Q q => ⟨_, _, rfl, rd_sq r1, q⟩
  · cases e
def gList : List D → Option (D × Bool)
  | [.list ds] => some (.list ds, true)
  | [.tuple ds] => some (.list ds, true)
  | _ => none
theorem J_list {K : PySem.W.Frag} : CallJ (fun xs H Q => ∃ p ys, xs = [.ref p] ∧ (SqL K H p ys ∨ SqT K H p ys) ∧ ∀ l, H l = none → Q (.ref l) (upd H l (.lst ys))) gList := by
  intro B H vs ds res s h e
  unfold gList at e
  split at e
  · cases e
    obtain ⟨v, rfl, hh⟩ := views1 h
    obtain ⟨p, xs, rfl, r1, rp1⟩ := hh.list s
    exact ⟨xs, rp1, fun Q q => ⟨_, _, rfl, .inl (rd_sq r1), q⟩⟩
  · cases e
    obtain ⟨v, rfl, hh⟩ := views1 h
    obtain ⟨p, xs, rfl, r1, rp1⟩ := hh.tuple s
    exact ⟨xs, rp1, fun Q q => ⟨_, _, rfl, .inr (.inl (.inl r1)), q⟩⟩
  · cases e
def tyD : D → String
  | .none => "NoneType"
  | .bool _ => "bool"
  | .int _ => "int"
  | .str _ => "str"
  | .list _ => "list"
  | .tuple _ => "tuple"
  | .dict _ => "?"
theorem Rep.ty {H : Hp} {v : V} {d : D} (h : Rep H v d) (hd : tyD d ≠ "?") : tyN H v = tyD d := by
  cases h with
  | non => rfl
  | bl _ => rfl
  | int _ => rfl
  | str _ => rfl
  | lst h _ =>
    rcases h with h | ⟨o, h⟩
    · unfold tyN; simp only [h]; rfl
    · unfold tyN; simp only [h]; rfl
  | tup h _ => unfold tyN; simp only [h]; rfl
  | dct _ _ => exact absurd rfl hd
def gIsi (n : String) : D → Option (D × Bool) := fun d => if tyD d ≠ "?" ∧ n ∈ tyAsked then some (.bool (tyIs (tyD d) n), false) else none
def mIsi (n : String) (a : PM) : PM := mUn (gIsi n) a
theorem me_isi {n : String} {ta : TE} {a : PM} (ha : ME ta a) : ME (tCB rIsi (tCons ta (tCons (tC (.ty n)) tNil))) (mIsi n a) := by
  intro F B H σ ρ r0 ρ' Q R e q
  obtain ⟨x, e1, e⟩ := Option.bind_eq_some_iff.mp e
  obtain ⟨res, e4, e⟩ := Option.map_eq_some_iff.mp e
  cases e
  refine ha.sv F B H σ ρ x.1 x.2 _ R e1 fun v B1 H1 E1 R1 V1 N1 => ?_
  unfold gIsi at e4
  split at e4
  · rename_i hd
    cases e4
    have rp := (V1.view R1).rep R1.sub
    have ht := rp.ty hd.1
    have hk : tyD x.1.1 ∈ tyKnown := by
      have h2 := hd.1
      revert h2
      cases x.1.1 with
      | none => intro _; show "NoneType" ∈ tyKnown; decide
      | bool _ => intro _; show "bool" ∈ tyKnown; decide
      | int _ => intro _; show "int" ∈ tyKnown; decide
      | str _ => intro _; show "str" ∈ tyKnown; decide
      | list _ => intro _; show "list" ∈ tyKnown; decide
      | tuple _ => intro _; show "tuple" ∈ tyKnown; decide
      | dict _ => intro h2; exact absurd rfl h2
    exact ⟨v, n, rfl, by rw [ht]; exact hk, hd.2, by rw [ht]; exact q _ B1 H1 E1 R1 (.bl _) fun p z => by cases z⟩
  · cases e4
def flatD : D → Bool
  | .none => true
  | .bool _ => true
  | .int _ => true
  | .str _ => true
  | _ => false
theorem Rep.flat {H : Hp} {v : V} {d : D} (h : Rep H v d) (e : flatD d = true) : flatV v = true := by cases h <;> first | rfl | cases e
theorem Rep.eqv {H : Hp} {v w : V} {c d : D} (h : Rep H v c) (g : Rep H w d) (e : flatD c = true) (e' : flatD d = true) : eqV v w = PyData.eqv c d := by
  cases h <;> first | (cases e; done) | (cases g <;> first | (cases e'; done) | (simp [eqV, PyData.eqv]))
noncomputable def fAppend : List D → List D → Option (List D × D) := fun ds as => match as with
  | [d] => cIf (ds.length < sizeLine) (some (ds ++ [d], .none)) none
  | _ => none
theorem J_append : MutJ rAppend fAppend := by
  intro B H p xs ds vs as w hp rx s rv e
  unfold fAppend at e
  split at e
  · obtain ⟨hz, e⟩ := cIf_eq e
    · cases e
      cases rv with
      | cons a b =>
        cases b
        exact ⟨_, _, rx.append (.cons a .nil), .non, fun Q q => ⟨_, _, _, rfl, rfl, hp, by rw [rx.length]; exact hz, q⟩⟩
  · cases e
def fPop : List D → List D → Option (List D × D) := fun ds as => match as with
  | [] => (ds[ds.length - 1]?).map fun d => (ds.dropLast, d)
  | _ => none
theorem J_pop : MutJ rPop fPop := by
  intro B H p xs ds vs as w hp rx s rv e
  unfold fPop at e
  split at e
  · obtain ⟨d, h1, h2⟩ := Option.map_eq_some_iff.mp e
    cases h2
    cases rv
    obtain ⟨v, h3, h4⟩ := rx.get _ d h1
    exact ⟨_, v, rx.dropLast, h4, fun Q q => ⟨_, _, _, rfl, rfl, hp, by rw [rx.length]; exact h3, q⟩⟩
  · cases e
def fClear : List D → List D → Option (List D × D) := fun ds as => match as with
  | [] => some ([], .none)
  | _ => none
def fReverse : List D → List D → Option (List D × D) := fun ds as => match as with
  | [] => some (ds.reverse, .none)
  | _ => none
theorem J_reverse : MutJ rReverse fReverse := by
  intro B H p xs ds vs as w hp rx s rv e
  unfold fReverse at e
  split at e
  · cases e
    cases rv
    exact ⟨_, _, rx.reverse, .non, fun Q q => ⟨_, _, rfl, rfl, hp, q⟩⟩
  · cases e
end Mir
set_option Elab.async false
set_option linter.all false
set_option maxRecDepth 100000
namespace Mir
open PySem L2 PySem.Spec PyProof.Rows
variable [Zc]
section
variable {X : Cx} {K : PySem.W.Frag}
theorem op_addK (h : X.K = K) : OpR X (binaryOp .Add) (rPlusM K) := h ▸ op_addM
theorem op_eqK (h : X.K = K) (hu : X.A.units + 64 < cLine) : OpR X (compareOp .Eq) (rEqD K) := h ▸ op_eqD hu
theorem op_neK (h : X.K = K) (hu : X.A.units + 64 < cLine) : OpR X (compareOp .NotEq) (rNeD K) := h ▸ op_neD hu
theorem ix_seqK (h : X.K = K) : IxR X (rIx K) := h ▸ ix_seq
theorem sl_listK (h : X.K = K) : SlR X (rSlL K) := h ▸ sl_list
theorem call_lenK (h : X.K = K) : CallR X (.builtin "len") (rLen K) := h ▸ call_lenU
theorem call_allK (h : X.K = K) (hc : X.calm = true) : CallR X (.builtin "all") (rAll K) := h ▸ call_all hc
theorem call_listK (h : X.K = K) : CallR X (.type "list") (fun xs H Q => ∃ p ys, xs = [.ref p] ∧ (SqL K H p ys ∨ SqT K H p ys) ∧ ∀ l, H l = none → Q (.ref l) (upd H l (.lst ys))) := h ▸ call_list_of
variable {tg l o e : Expr} {es : List Expr} {tl to : TE} {t : TA} {name : Str} {apos cpos : Pos} {T id : String} {r : V → List V → Hp → VK → Prop}
theorem pi_listK (h : X.K = K) (hl : PE X l tl) : PI X tg l (iList K tl) := h ▸ pi_list hl
theorem pe_bm0K (h : X.K = K) (pa : PlainAttrs T) (slot : Slot T name id) (hty : typeOf (.builtin id) = pure (.type "method_descriptor")) (hm : MtR X id r) (ho : PE X o to)
    (hbase : attributeBase o name X.env (eval o X.env) = eval o X.env := by rfl) (hline : (apos.endLine == cpos.line) = true := by rfl) : PE X (.Call (.Attribute o name apos) [] [] cpos) (tBM0 K T r to) := h ▸ pe_bm0 pa slot hty hm ho hbase hline
theorem pe_bmK (h : X.K = K) (pa : PlainAttrs T) (slot : Slot T name id) (hty : typeOf (.builtin id) = pure (.type "method_descriptor")) (hm : MtR X id r) (ho : PE X o to) (ha : PA X (e :: es) t)
    (hbase : attributeBase o name X.env (eval o X.env) = eval o X.env := by rfl)
    (hfew : ((backTo cpos (starEach (e :: es) X.env)).all (fun x => !x.1) && (backToKw cpos (keywordEach [] X.env)).all (fun x => x.1.isSome)
      && decide ((e :: es).length + ([] : List Keyword).length + (if ([] : List Keyword).isEmpty then 0 else 1) < 30)) = true := by rfl)
    (hline : (apos.endLine == cpos.line) = true := by rfl) (hs : starEach (e :: es) X.env = (false, eval e X.env) :: starEach es X.env := by rfl) (hplain : (backTo cpos (starEach es X.env)).any (·.1) = false := by rfl) :
    PE X (.Call (.Attribute o name apos) (e :: es) [] cpos) (tBM K T r to t) := h ▸ pe_bm pa slot hty hm ho ha hbase hfew hline hs hplain
end
noncomputable def repD : D → D → Option D
  | .list ds, .int k => cIf (-(2 ^ 63) ≤ k ∧ k < 2 ^ 63 ∧ ds.length * k.toNat ≤ sizeLine) (some (.list (List.replicate k.toNat ds).flatten)) none
  | _, _ => none
noncomputable def mRep (m : Rho → Option (List RV × Rho)) (b : PM) : PM := fun ρ => (mLst m ρ).bind fun x => (sv b x.2).bind fun y => (repD x.1.1 y.1.1).map fun d => ((d, .new), y.2)
theorem me_rep {t : TA} {tb : TE} {m : Rho → Option (List RV × Rho)} {b : PM} (h : MA t m) (hb : ME tb b) : ME (tOp rTimesM (tLst t) tb) (mRep m b) := by
  intro F B H σ ρ r0 ρ' Q R e q
  obtain ⟨x, e1, e⟩ := Option.bind_eq_some_iff.mp e
  obtain ⟨y, e2, e⟩ := Option.bind_eq_some_iff.mp e
  obtain ⟨d, e3, e⟩ := Option.map_eq_some_iff.mp e
  cases e
  have hk : x.1.2 = .new := by
    obtain ⟨z, _, e5⟩ := Option.bind_eq_some_iff.mp e1
    obtain ⟨w, _, e5⟩ := Option.bind_eq_some_iff.mp e5
    obtain ⟨_, e5⟩ := cIf_eq e5
    cases e5; rfl
  refine me_lst h F B H σ ρ x.1 x.2 _ R e1 fun v B1 H1 E1 R1 V1 N1 => ?_
  obtain ⟨⟨c, k⟩, ρ1⟩ := x
  cases (show k = .new from hk)
  obtain ⟨B2, R2, rp, s2, k2⟩ := R1.freezeNew V1
  obtain ⟨p, rfl, hB, hF, ow, nn⟩ := V1
  unfold repD at e3
  split at e3
  case h_2 => cases e3
  rename_i ds n hc hn
  obtain ⟨hz, e3⟩ := cIf_eq e3
  cases e3
  have hc' : c = .list ds := hc
  subst hc'
  obtain ⟨xs, hp, rx⟩ := ow.list
  have hp2 : B2 p = some (.lst xs) := by
    cases rp with
    | lst h r =>
      rcases h with h | ⟨o, h⟩
      · have := R2.sub _ _ h
        rw [hp] at this; cases this; exact h
      · have := R2.sub _ _ h
        rw [hp] at this; cases this
  refine hb.sv F B2 H1 σ ρ1 y.1 y.2 _ R2 e2 fun u B3 H3 E3 R3 V3 N3 => ?_
  have vv := V3.view R3
  rw [hn] at vv
  have h3 := R3.sub _ _ (E3.sB _ _ hp2)
  have E12 : Ext σ ρ B H ρ1 B2 H1 := ⟨E1.sB.trans s2, fun q o h1 h2 => by
    obtain ⟨h3, h4⟩ := E1.keep q o h1 h2
    refine ⟨h3, fun z => ?_⟩
    rw [k2 q fun y => by
      have := N1 q rfl y
      rw [h1] at this; cases this]
    exact h4 z, E1.own, E1.ref, E1.live⟩
  have rx3 : Reps B3 xs ds := rx.mono (s2.trans E3.sB)
  have := res_end (res := (.list (List.replicate n.toNat ds).flatten, true)) (k := fun Q => rTimesM (.ref p) u H3 Q) (Q := Q) R3
    ⟨_, rx3.flat n.toNat, fun Q h => .inr ⟨p, n, xs, rfl, vv.int, h3, hz.1, hz.2.1, by rw [rx3.length]; exact hz.2.2, h⟩⟩
    fun v B' H' E R' V' N => q v B' H' (E12.trans (E3.trans E)) R' V' fun p' z1 z2 => E12.live p' (E3.live p' (N p' z1 z2))
  exact this
def noLists (K : PySem.W.Frag) : Bool := K.all fun p => match p.2.cls with
  | .type n => n != "list"
  | _ => true
theorem mem_look {α : Type} : ∀ {l : List (Addr × α)} {a : Addr} {o : α}, l.lookup a = some o → (a, o) ∈ l
  | (b, c) :: l, a, o, h => by
    rw [List.lookup_cons] at h
    by_cases z : a = b
    · subst z
      rw [beq_self_eq_true] at h
      cases h
      exact List.mem_cons_self
    · rw [beq_eq_false_iff_ne.mpr z] at h
      exact List.mem_cons_of_mem _ (mem_look h)
theorem sq_rd {K : PySem.W.Frag} (h : noLists K = true) {H : Hp} {a : Addr} {xs : List V} (s : SqL K H a xs) : Rd H a (.lst xs) := by
  rcases s with s | ⟨o, its, n, hk, hc, _⟩
  · exact s
  · have := List.all_eq_true.mp h _ (mem_look hk)
    dsimp only at this
    rw [hc] at this
    simp at this
theorem reps_ints {H : Hp} : ∀ ns : List Int, Reps H (ns.map V.int) (ns.map PyData.int)
  | [] => .nil
  | n :: ns => .cons (.int n) (reps_ints ns)
theorem law_sp {K : PySem.W.Frag} (h : noLists K = true) {f : List D → Option (D × Bool)} (T : ∀ ns : List Int, ns.length ≤ 63 → (∀ k ∈ ns, Builtin.Int.intBits k ≤ 1048576) → f [.list (ns.map .int)] = some (.bool true, false))
    (vs : List V) (H : Hp) (Q : VK) (E : XK) (s : spLaw K vs H Q E) : spM f vs H Q E := by
  obtain ⟨a, ns, rfl, hS, hl, hb, q⟩ := s
  refine ⟨H, _, _, _, Same.refl _, fun _ _ z => z, .cons (.lst (sq_rd h hS) (reps_ints ns)) .nil, T ns hl hb, fun v B' H' P => ?_⟩
  have pv : Rep B' v (.bool true) := P.val
  cases pv
  exact q _
end Mir
set_option Elab.async false
set_option linter.all false
set_option maxRecDepth 100000
namespace Mir
open PySem L2
variable [Zc]
abbrev dI (l : List Int) : D := .list (l.map .int)
theorem beqI (i j : Int) : (i == j) = decide (i = j) := by by_cases h : i = j <;> simp [h]
theorem gEq_int (i j : Int) : gEq (.int i) (.int j) = some (.bool (decide (i = j)), false) := by
  unfold gEq
  rw [if_pos ⟨rfl, rfl⟩]
  simp only [PyData.eqv, beqI]
theorem gNe_int (i j : Int) : gNe (.int i) (.int j) = some (.bool (!decide (i = j)), false) := by
  unfold gNe
  rw [if_pos ⟨rfl, rfl⟩]
  simp only [PyData.eqv, beqI]
theorem gEq_bool (i j : Bool) : gEq (.bool i) (.bool j) = some (.bool (i == j), false) := by
  unfold gEq
  rw [if_pos ⟨rfl, rfl⟩]
  simp only [PyData.eqv]
theorem gNe_bool (i j : Bool) : gNe (.bool i) (.bool j) = some (.bool (!(i == j)), false) := by
  unfold gNe
  rw [if_pos ⟨rfl, rfl⟩]
  simp only [PyData.eqv]
theorem canLay_ints : ∀ l : List Int, PyData.canLayAll0 (l.map .int) = true
  | [] => rfl
  | _ :: l => by simp only [List.map_cons, PyData.canLayAll0, PyData.canLay0, canLay_ints l, Bool.and_self]
theorem depth_ints (l : List Int) : (dI l).depth ≤ 2 := by
  have h : ∀ l : List Int, PyData.depthAll (l.map .int) ≤ 1 := by
    intro l
    induction l with
    | nil => simp [PyData.depthAll]
    | cons a l ih => simp only [List.map_cons, PyData.depthAll, PyData.depth]; omega
  have := h l
  simp only [dI, PyData.depth]
  omega
theorem shaped_ints (l : List Int) : SeqAt.shaped (dI l) = true := by
  unfold SeqAt.shaped
  have h := depth_ints l
  rw [decide_eq_true (by omega), Bool.and_true]
  simp only [dI, PyData.canLay0, canLay_ints]
theorem eqvAll_ints : ∀ a b : List Int, PyData.eqvAll (a.map .int) (b.map .int) = decide (a = b)
  | [], [] => by simp [PyData.eqvAll]
  | [], _ :: _ => by simp [PyData.eqvAll]
  | _ :: _, [] => by simp [PyData.eqvAll]
  | x :: a, y :: b => by
    simp only [List.map_cons, PyData.eqvAll, PyData.eqv, eqvAll_ints a b]
    by_cases h : x = y <;> by_cases g : a = b <;> simp [h, g]
theorem eqv_ints (a b : List Int) : PyData.eqv (dI a) (dI b) = decide (a = b) := by simp only [dI, PyData.eqv, eqvAll_ints]
theorem gEq_ints (a b : List Int) : gEq (dI a) (dI b) = some (.bool (decide (a = b)), false) := by
  unfold gEq
  rw [if_pos ⟨shaped_ints a, shaped_ints b⟩, eqv_ints]
theorem gNe_ints (a b : List Int) : gNe (dI a) (dI b) = some (.bool (!decide (a = b)), false) := by
  unfold gNe
  rw [if_pos ⟨shaped_ints a, shaped_ints b⟩, eqv_ints]
theorem isi_int_int (i : Int) : gIsi "int" (.int i) = some (.bool true, false) := by simp [gIsi, tyD, tyAsked, tyIs]
theorem isi_int_bool (i : Int) : gIsi "bool" (.int i) = some (.bool false, false) := by simp [gIsi, tyD, tyAsked, tyIs]
theorem isi_list_list (i : List D) : gIsi "list" (.list i) = some (.bool true, false) := by simp [gIsi, tyD, tyAsked, tyIs]
theorem isi_tuple_tuple (i : List D) : gIsi "tuple" (.tuple i) = some (.bool true, false) := by simp [gIsi, tyD, tyAsked, tyIs]
theorem atI_nat {α : Type} (xs : List α) (i : Nat) : atI xs (i : Int) = xs[i]? := by
  unfold atI ixN
  rw [if_pos (by omega)]
  split
  · simp
  · rename_i h
    rw [Option.bind_none, List.getElem?_eq_none (by omega)]
theorem atI_last {α : Type} (xs : List α) : atI xs (-1) = xs.getLast? := by
  unfold atI ixN
  rw [if_neg (by omega)]
  cases xs with
  | nil => simp
  | cons a l =>
    rw [if_pos (by simp only [List.length_cons]; omega), Option.bind_some, List.getLast?_eq_getElem?]
    congr 1
    simp only [List.length_cons]; omega
theorem cutD_ints (l : List Int) (a b : Option Int) : cutD (l.map .int) a b = ((l.drop (HT.sIx l.length 0 a)).take (HT.sIx l.length l.length b - HT.sIx l.length 0 a)).map .int := by
  simp only [cutD, List.length_map, List.map_take, List.map_drop]
theorem atI_map {α β : Type} (f : α → β) (xs : List α) (i : Int) : atI (xs.map f) i = (atI xs i).map f := by
  simp only [atI, List.length_map, List.getElem?_map]
  cases ixN xs.length i with
  | none => rfl
  | some j => simp only [Option.bind_some]
theorem pureR_int (i : Int) : pureR (.int i) false = true := rfl
theorem pureR_bool (i : Bool) : pureR (.bool i) false = true := rfl
theorem pureR_str (i : Str) : pureR (.str i) false = true := rfl
theorem pureR_none : pureR .none false = true := rfl
theorem pureR_list (l : List D) : pureR (.list l) false = false := rfl
theorem pureR_tup (l : List D) : pureR (.tuple l) false = pureDs l := by simp only [pureR, pureD]
theorem pureR_new (l : List D) : pureR (.list l) true = pureDs l := rfl
theorem pureDs_nil : pureDs [] = true := by simp only [pureDs]
theorem pureDs_int (i : Int) (l : List D) : pureDs (.int i :: l) = pureDs l := by simp only [pureDs, pureD, Bool.true_and]
theorem pureDs_bool (i : Bool) (l : List D) : pureDs (.bool i :: l) = pureDs l := by simp only [pureDs, pureD, Bool.true_and]
theorem pureDs_list (i l : List D) : pureDs (.list i :: l) = false := by simp only [pureDs, pureD, Bool.false_and]
theorem pureDs_ints : ∀ l : List Int, pureDs (l.map .int) = true
  | [] => pureDs_nil
  | i :: l => by rw [List.map_cons, pureDs_int, pureDs_ints l]
theorem resK_f (d : D) : resK (d, false) = (d, .fz) := rfl
theorem resK_l (l : List D) : resK (.list l, true) = (.list l, .new) := rfl
theorem resK_t (l : List D) : resK (.tuple l, true) = (.tuple l, .fz) := rfl
theorem kO_f (d : D) : kO d false = (d, .fz) := rfl
theorem kO_t (d : D) : kO d true = (d, .new) := rfl
theorem seq_nx {a b : SM} {ρ ρ1 : Rho} {o : Option Out} (h1 : a ρ = some (.nx ρ1)) (h2 : b ρ1 = o) : mSeq a b ρ = o := by
  unfold mSeq; simp only [h1, Option.bind_some, h2]
theorem seq_rt {a b : SM} {ρ ρ1 : Rho} {r : RV} (h1 : a ρ = some (.rt r ρ1)) : mSeq a b ρ = some (.rt r ρ1) := by
  unfold mSeq; simp only [h1, Option.bind_some]
theorem fn_of {n k : Nat} {b : SM} {ds : List D} {o : Out} {w : D × Bool} (h0 : ds.length = n) (h1 : b (ds.map .fz ++ List.replicate k .no) = some o) (h2 : retD o = some w) : fnM n k b ds = some w := by
  unfold fnM; rw [if_pos h0, h1, Option.bind_some, h2]
theorem call_pure {f : List D → Option (D × Bool)} {m : Rho → Option (List RV × Rho)} {ρ ρ1 : Rho} {rs : List RV} {d : D} {o : Bool} (h1 : m ρ = some (rs, ρ1)) (h2 : f (rs.map (·.1)) = some (d, o)) (h3 : pureR d o = true) : mCall f m ρ = some (kO d o, ρ1) := by
  unfold mCall; rw [h1, Option.bind_some]; dsimp only; rw [h2, Option.bind_some, if_pos h3]
theorem ret_eq {a : PM} {ρ ρ1 : Rho} {r : RV} (h : a ρ = some (r, ρ1)) : mRet a ρ = some (.rt r ρ1) := by
  unfold mRet; rw [h, Option.map_some]
theorem for_eq {it : Rho → Option (List D × Rho)} {g : D → Rho → Option Rho} {b : SM} {ρ ρ1 : Rho} {ds : List D} {o : Option Out} (h1 : it ρ = some (ds, ρ1)) (h2 : forL g b ds ρ1 = o) : mFor it g b ρ = o := by
  unfold mFor; rw [h1, Option.bind_some]; exact h2
theorem rg1_eq {m : Rho → Option (List RV × Rho)} {ρ ρ1 : Rho} {j : Int} {k : Kd} (h1 : m ρ = some ([(.int j, k)], ρ1)) (h2 : -(2 ^ 62) ≤ j ∧ j < 2 ^ 62) : mRg1 m ρ = some (rngD 0 j.toNat, ρ1) := by
  unfold mRg1; rw [h1, Option.bind_some]; show cIf _ _ _ = _; rw [cIf_pos h2]
end Mir
set_option Elab.async false
set_option linter.all false
set_option maxRecDepth 100000
namespace Mir
open PySem L2
variable [Zc]
def SF (s : Sl) : Prop := s = .no ∨ ∃ d, s = .fz d
theorem SF.fz (d : D) : SF (.fz d) := .inr ⟨d, rfl⟩
theorem SF.no : SF .no := .inl rfl
theorem sz_le {n : Nat} (h : n ≤ 100000) : n ≤ sizeLine := Nat.le_trans h (by decide)
theorem sz_lt {n : Nat} (h : n ≤ 100000) : n < sizeLine := Nat.lt_of_le_of_lt h (by decide)
end Mir
set_option Elab.async false
set_option linter.all false
set_option maxRecDepth 100000
namespace Mir
open PySem L2 PySem.Spec PyProof.Rows
variable [Zc]
end Mir
set_option Elab.async false
set_option linter.all false
set_option maxRecDepth 100000
namespace Mir
open PySem L2
variable [Zc]
def gListRev : List D → Option (D × Bool)
  | [.list ds] => some (.list ds.reverse, true)
  | _ => none
theorem J_listRev {K : PySem.W.Frag} : CallJ (rListRev K) gListRev := by
  intro B H vs ds res s h e
  unfold gListRev at e
  split at e
  · cases e
    obtain ⟨v, rfl, hh⟩ := views1 h
    obtain ⟨p, xs, rfl, r1, rp1⟩ := hh.list s
    exact ⟨xs.reverse, rp1.reverse, fun Q q => ⟨_, _, rfl, rd_sq r1, q⟩⟩
  · cases e
def inD (x : D) (ds : List D) : Bool := ds.any fun d => PyData.eqv d x
theorem Reps.inV {H : Hp} {v : V} {c : D} (g : Rep H v c) (e : flatD c = true) : ∀ {vs : List V} {ds : List D}, Reps H vs ds → ds.all flatD = true → inV v vs = inD c ds
  | _, _, .nil, _ => rfl
  | _, _, .cons a b, h => by
    simp only [List.all_cons, Bool.and_eq_true] at h
    have := Reps.inV g e b h.2
    unfold L2.inV inD at this ⊢
    rw [List.any_cons, List.any_cons, this, a.eqv g h.1 e]
section
variable {X : Cx} {K : PySem.W.Frag}
theorem pe_listRevK {a : Expr} {ta : TA} {p p' pos pos' : Pos} (h : X.K = K) (hc : X.calm = true) (hg : Gl X "list") (hm : X.mg "list" = none) (hg' : Gl X "reversed") (hm' : X.mg "reversed" = none) (ha : PA X [a] ta)
    (hs : starEach [a] X.env = [(false, eval a X.env)] := by rfl) (hs' : starEach [eCall "reversed" p' [a] pos'] X.env = [(false, eval (eCall "reversed" p' [a] pos') X.env)] := by rfl) :
    PE X (eCall "list" p [eCall "reversed" p' [a] pos'] pos) (tCB (rListRev K) ta) := h ▸ pe_listRev hc hg hm hg' hm' ha hs hs'
end
end Mir
set_option Elab.async false
set_option linter.all false
set_option maxRecDepth 100000
namespace Mir
open PySem L2
variable [Zc]
section
variable {a b : PM} {ρ ρ1 ρ2 ρ3 : Rho} {x y d : D} {r : RV} {res : D × Bool}
theorem sv_new (h : a ρ = some ((d, .new), ρ1)) : sv a ρ = some ((d, .fz), ρ1) := by unfold sv; rw [h]
theorem sv_fz (h : a ρ = some ((d, .fz), ρ1)) : sv a ρ = some ((d, .fz), ρ1) := by unfold sv; rw [h]
theorem sv_at {i : Nat} (h : a ρ = some ((d, .at i), ρ1)) : sv a ρ = some ((d, .at i), ρ1) := by unfold sv; rw [h]
theorem op_ev {g : D → D → Option (D × Bool)} (h1 : sv a ρ = some ((x, .fz), ρ1)) (h2 : sv b ρ1 = some (r, ρ2)) (h3 : g x r.1 = some res) : mOp g a b ρ = some (resK res, ρ2) := by
  unfold mOp; rw [h1, Option.bind_some]; dsimp only; rw [h2, Option.bind_some]; dsimp only [refr, Option.bind_some]; rw [h3, Option.map_some]
theorem op_at {g : D → D → Option (D × Bool)} {i : Nat} (h1 : sv a ρ = some ((x, .at i), ρ1)) (h2 : sv b ρ1 = some (r, ρ2)) (h4 : ρ2[i]? = some (.own y)) (h3 : g y r.1 = some res) : mOp g a b ρ = some (resK res, ρ2) := by
  unfold mOp; rw [h1, Option.bind_some]; dsimp only; rw [h2, Option.bind_some]; dsimp only [refr]; rw [h4]; dsimp only [Option.bind_some]; rw [h3, Option.map_some]
theorem cons_fz {m : Rho → Option (List RV × Rho)} {rs : List RV} (h1 : sv a ρ = some ((x, .fz), ρ1)) (h2 : m ρ1 = some (rs, ρ2)) : mCons a m ρ = some ((x, .fz) :: rs, ρ2) := by
  unfold mCons; rw [h1, Option.bind_some]; dsimp only; rw [h2, Option.bind_some]; rfl
theorem cons_at {m : Rho → Option (List RV × Rho)} {rs : List RV} {i : Nat} (h1 : sv a ρ = some ((x, .at i), ρ1)) (h2 : m ρ1 = some (rs, ρ2)) (h4 : ρ2[i]? = some (.own y)) : mCons a m ρ = some ((y, .at i) :: rs, ρ2) := by
  unfold mCons; rw [h1, Option.bind_some]; dsimp only; rw [h2, Option.bind_some]; dsimp only [refr]; rw [h4]; rfl
theorem nil_ev : mNil ρ = some ([], ρ) := rfl
theorem var_fz {i : Nat} (h : ρ[i]? = some (.fz d)) : mVar i ρ = some ((d, .fz), ρ) := by unfold mVar; rw [h]
theorem var_own {i : Nat} (h : ρ[i]? = some (.own d)) : mVar i ρ = some ((d, .at i), ρ) := by unfold mVar; rw [h]
theorem cb_ev {g : List D → Option (D × Bool)} {m : Rho → Option (List RV × Rho)} {rs : List RV} (h1 : m ρ = some (rs, ρ1)) (h2 : g (rs.map (·.1)) = some res) : mCB g m ρ = some (resK res, ρ1) := by
  unfold mCB; rw [h1, Option.bind_some]; dsimp only; rw [h2, Option.map_some]
theorem asg_fz {i : Nat} (h1 : a ρ = some ((d, .fz), ρ1)) (h2 : setSl ρ1 i (.fz d) = some ρ2) : mAsg i a ρ = some (.nx ρ2) := by
  unfold mAsg; rw [h1, Option.bind_some]; dsimp only [sto]; rw [h2, Option.map_some]
theorem asg_new {i : Nat} (h1 : a ρ = some ((d, .new), ρ1)) (h2 : setSl ρ1 i (.own d) = some ρ2) : mAsg i a ρ = some (.nx ρ2) := by
  unfold mAsg; rw [h1, Option.bind_some]; dsimp only [sto]; rw [h2, Option.map_some]
theorem if_t {c : Rho → Option (Bool × Rho)} {s t : SM} {o : Option Out} (h1 : c ρ = some (true, ρ1)) (h2 : s ρ1 = o) : mIfS c s t ρ = o := by
  unfold mIfS; rw [h1, Option.bind_some]; dsimp only; rw [if_pos rfl, h2]
theorem if_f {c : Rho → Option (Bool × Rho)} {s t : SM} {o : Option Out} (h1 : c ρ = some (false, ρ1)) (h2 : t ρ1 = o) : mIfS c s t ρ = o := by
  unfold mIfS; rw [h1, Option.bind_some]; dsimp only; rw [if_neg Bool.false_ne_true, h2]
theorem test_ev {k : Kd} {v : Bool} (h : a ρ = some ((.bool v, .fz), ρ1)) : mTest a ρ = some (v, ρ1) := by
  unfold mTest; rw [sv_fz h]; rfl
theorem not_ev {c : Rho → Option (Bool × Rho)} {v : Bool} (h : c ρ = some (v, ρ1)) : mNot c ρ = some (!v, ρ1) := by unfold mNot; rw [h]; rfl
theorem and_t {c e : Rho → Option (Bool × Rho)} {o : Option (Bool × Rho)} (h : c ρ = some (true, ρ1)) (h2 : e ρ1 = o) : mAnd c e ρ = o := by unfold mAnd; rw [h]; simpa using h2
theorem and_f {c e : Rho → Option (Bool × Rho)} (h : c ρ = some (false, ρ1)) : mAnd c e ρ = some (false, ρ1) := by unfold mAnd; rw [h]; rfl
theorem or_f {c e : Rho → Option (Bool × Rho)} {o : Option (Bool × Rho)} (h : c ρ = some (false, ρ1)) (h2 : e ρ1 = o) : mOr c e ρ = o := by unfold mOr; rw [h]; simpa using h2
theorem gAdd_list (a b : List D) (h : a.length + b.length ≤ 100000) : gAdd (.list a) (.list b) = some (.list (a ++ b), true) := by
  show cIf _ _ _ = _; rw [cIf_pos (sz_le h)]
theorem gAdd_ints (a b : List Int) (h : a.length + b.length ≤ 100000) : gAdd (.list (a.map .int)) (.list (b.map .int)) = some (.list ((a ++ b).map .int), true) := by
  rw [gAdd_list _ _ (by rw [List.length_map, List.length_map]; exact h), List.map_append]
theorem lst_ev {m : Rho → Option (List RV × Rho)} {rs : List RV} {ds : List D} (h1 : m ρ = some (rs, ρ1)) (h2 : fzAll rs ρ1 = some (ds, ρ2)) (h3 : ds.length ≤ 100000) : mLst m ρ = some ((.list ds, .new), ρ2) := by
  unfold mLst; rw [h1, Option.bind_some]; dsimp only; rw [h2, Option.bind_some]; dsimp only; rw [cIf_pos (sz_le h3)]
theorem tup_ev {m : Rho → Option (List RV × Rho)} {rs : List RV} {ds : List D} (h1 : m ρ = some (rs, ρ1)) (h2 : fzAll rs ρ1 = some (ds, ρ2)) (h3 : ds.length ≤ 100000) : mTup m ρ = some ((.tuple ds, .fz), ρ2) := by
  unfold mTup; rw [h1, Option.bind_some]; dsimp only; rw [h2, Option.bind_some]; dsimp only; rw [cIf_pos (sz_le h3)]
theorem lc_ev {fr : List (Str × Nat)} {it : Rho → Option (List D × Rho)} {c : Rho → Option (Bool × Rho)} {e : PM} {ds ys : List D} (h1 : it ρ = some (ds, ρ1)) (h2 : compL c e (fr.map fun p => demote ρ1 p.2) ds = some ys) (h3 : ys.length ≤ 100000) :
    mLC fr it c e ρ = some ((.list ys, .new), ρ1) := by
  unfold mLC; rw [h1, Option.bind_some]; dsimp only; rw [h2, Option.bind_some, cIf_pos (sz_lt h3)]
theorem fol_ev {d : List D} (h1 : sv a ρ = some ((.list d, .fz), ρ1)) : mFoL a ρ = some (d, ρ1) := by
  unfold mFoL; rw [h1]; rfl
theorem drop_ev (h : a ρ = some (r, ρ1)) : mDrop a ρ = some (.nx ρ1) := by unfold mDrop; rw [h]; rfl
end
theorem compL_map {e : PM} {ρn : Rho} {α : Type} {f : α → D} {g : α → D} : ∀ l : List α, (∀ x ∈ l, ∃ ρ, sv e (.fz (f x) :: ρn) = some ((g x, .fz), ρ)) → compL mYes e ρn (l.map f) = some (l.map g)
  | [], _ => rfl
  | x :: l, h => by
    obtain ⟨ρ, h1⟩ := h x List.mem_cons_self
    have h2 := compL_map l fun y hy => h y (List.mem_cons_of_mem _ hy)
    rw [List.map_cons, List.map_cons]
    unfold compL
    simp only [mYes, h1, h2, asF, Option.bind_some, Option.map_some, if_true]
theorem rngD_map (n : Nat) : rngD 0 n = (List.range n).map fun k : Nat => PyData.int (k : Int) := by
  unfold rngD
  congr 1
  funext k
  rw [Int.zero_add]
def IE (m : PM) (ρ : Rho) (v : Int) : Prop := m ρ = some ((.int v, .fz), ρ)
def BE (m : PM) (ρ : Rho) (v : Bool) : Prop := m ρ = some ((.bool v, .fz), ρ)
section
variable {a b : PM} {ρ : Rho} {i j : Int} {u v : Bool}
theorem op_i {g : D → D → Option (D × Bool)} {k : Int} (h1 : IE a ρ i) (h2 : IE b ρ j) (h3 : g (.int i) (.int j) = some (.int k, false)) : IE (mOp g a b) ρ k := op_ev (sv_fz h1) (sv_fz h2) h3
theorem op_b {g : D → D → Option (D × Bool)} {k : Bool} (h1 : IE a ρ i) (h2 : IE b ρ j) (h3 : g (.int i) (.int j) = some (.bool k, false)) : BE (mOp g a b) ρ k := op_ev (sv_fz h1) (sv_fz h2) h3
theorem ie_c : IE (mC (.int i)) ρ i := rfl
theorem ie_var {k : Nat} (h : ρ[k]? = some (.fz (.int i))) : IE (mVar k) ρ i := var_fz h
theorem ie_add (h1 : IE a ρ i) (h2 : IE b ρ j) : IE (mOp gAdd a b) ρ (i + j) := op_i h1 h2 rfl
theorem ie_sub (h1 : IE a ρ i) (h2 : IE b ρ j) : IE (mOp gSub a b) ρ (i - j) := op_i h1 h2 rfl
theorem gI_ev {C : Int → Int → Prop} {f : Int → Int → Int} (h : C i j) : gI C f (.int i) (.int j) = some (.int (f i j), false) := by show cIf _ _ _ = _; rw [cIf_pos h]
theorem ie_mul (h1 : IE a ρ i) (h2 : IE b ρ j) (h : IntMulOk i j) : IE (mOp gMul a b) ρ (i * j) := op_i h1 h2 (by show cIf _ _ _ = _; rw [cIf_pos h])
theorem ie_div (h1 : IE a ρ i) (h2 : IE b ρ j) (h : CDiv i j) : IE (mOp gDiv a b) ρ (i / j) := op_i h1 h2 (gI_ev h)
theorem ie_mod (h1 : IE a ρ i) (h2 : IE b ρ j) (h : 0 < j) : IE (mOp gMod a b) ρ (i % j) := op_i h1 h2 (gI_ev (C := fun _ j => 0 < j) h)
theorem ie_pow (h1 : IE a ρ i) (h2 : IE b ρ j) (h : CPow i j) : IE (mOp gPow a b) ρ (i ^ j.toNat) := op_i h1 h2 (gI_ev h)
theorem ie_neg (h1 : IE a ρ i) : IE (mUn gNeg a) ρ (-i) := by unfold IE mUn; rw [sv_fz h1]; rfl
theorem be_eq (h1 : IE a ρ i) (h2 : IE b ρ j) : BE (mOp gEq a b) ρ (decide (i = j)) := op_b h1 h2 (gEq_int i j)
theorem be_ne (h1 : IE a ρ i) (h2 : IE b ρ j) : BE (mOp gNe a b) ρ (!decide (i = j)) := op_b h1 h2 (gNe_int i j)
theorem be_lt (h1 : IE a ρ i) (h2 : IE b ρ j) : BE (mOp gLt a b) ρ (decide (i < j)) := op_b h1 h2 rfl
theorem be_le (h1 : IE a ρ i) (h2 : IE b ρ j) : BE (mOp gLe a b) ρ (decide (i ≤ j)) := op_b h1 h2 rfl
theorem be_gt (h1 : IE a ρ i) (h2 : IE b ρ j) : BE (mOp gGt a b) ρ (decide (j < i)) := op_b h1 h2 rfl
theorem BE.t (h : BE a ρ v) : mTest a ρ = some (v, ρ) := test_ev (k := .fz) h
theorem BE.is (h : BE a ρ u) (e : u = v) : BE a ρ v := e ▸ h
theorem IE.is (h : IE a ρ i) (e : i = j) : IE a ρ j := e ▸ h
theorem ie_call {f : List D → Option (D × Bool)} {m : Rho → Option (List RV × Rho)} {rs : List RV} (h1 : m ρ = some (rs, ρ)) (h2 : f (rs.map (·.1)) = some (.int i, false)) : IE (mCall f m) ρ i := call_pure h1 h2 rfl
theorem be_call {f : List D → Option (D × Bool)} {m : Rho → Option (List RV × Rho)} {rs : List RV} (h1 : m ρ = some (rs, ρ)) (h2 : f (rs.map (·.1)) = some (.bool v, false)) : BE (mCall f m) ρ v := call_pure h1 h2 rfl
theorem IE.cons {m : Rho → Option (List RV × Rho)} {rs : List RV} (h : IE a ρ i) (h2 : m ρ = some (rs, ρ)) : mCons a m ρ = some ((.int i, .fz) :: rs, ρ) := cons_fz (sv_fz h) h2
theorem be_and (h1 : BE a ρ u) (h2 : u = true → BE b ρ v) (h3 : u = false → v = false) : BE (mAndV a b) ρ v := by
  unfold BE mAndV
  rw [h1.t]
  cases u with
  | true => exact h2 rfl
  | false => rw [h3 rfl]; rfl
theorem be_not (h1 : BE a ρ u) : BE (mNotV a) ρ (!u) := by unfold BE mNotV; rw [h1.t]; rfl
end
section
variable {a b : PM} {ρ : Rho} {i j : Int} {u v : Bool}
theorem asgI {k : Nat} {ρ' : Rho} (h : IE a ρ i) (h2 : setSl ρ k (.fz (.int i)) = some ρ') : mAsg k a ρ = some (.nx ρ') := asg_fz h h2
theorem tstB (h : BE a ρ u) (e : u = v) : mTest a ρ = some (v, ρ) := e ▸ h.t
theorem consI {m : Rho → Option (List RV × Rho)} {rs : List RV} (h : IE a ρ i) (h2 : m ρ = some (rs, ρ)) : mCons a m ρ = some ((.int i, .fz) :: rs, ρ) := cons_fz (sv_fz h) h2
theorem tEq (h1 : IE a ρ i) (h2 : IE b ρ j) (h : i = j) : mTest (mOp gEq a b) ρ = some (true, ρ) := tstB (be_eq h1 h2) (decide_eq_true h)
theorem tNe (h1 : IE a ρ i) (h2 : IE b ρ j) (h : i ≠ j) : mTest (mOp gEq a b) ρ = some (false, ρ) := tstB (be_eq h1 h2) (decide_eq_false h)
end
theorem append_ev {i : Nat} {m : Rho → Option (List RV × Rho)} {ρ ρ1 ρ2 : Rho} {r : RV} {d : D} {ds ds0 : List D} (h0 : ρ[i]? = some (.own (.list ds0))) (h1 : m ρ = some ([r], ρ1)) (h2 : fzOne r ρ1 = some (d, ρ2)) (h3 : ρ2[i]? = some (.own (.list ds))) (hz : ds.length ≤ 100000) :
    mMut i fAppend m ρ = some ((.none, .fz), ρ2.set i (.own (.list (ds ++ [d])))) := by
  unfold mMut
  simp only [h0, h1, h2, h3, ownL, fzAll, Option.bind_some, Option.map_some, fAppend, cIf_pos (sz_lt hz), Mir.putAt, Sl.put]
theorem isi_ev {n : String} {a : PM} {ρ ρ1 : Rho} {d : D} {k : Kd} {v : Bool} (h1 : sv a ρ = some ((d, k), ρ1)) (h2 : gIsi n d = some (.bool v, false)) : mIsi n a ρ = some ((.bool v, .fz), ρ1) := by
  unfold mIsi mUn; rw [h1, Option.bind_some]; dsimp only; rw [h2]; rfl
theorem app_ev {i : Nat} {m : Rho → Option (List RV × Rho)} {ρ ρ1 ρ2 ρ3 : Rho} {r : RV} (d : D) (ds : List D) {ds0 : List D} (h0 : ρ[i]? = some (.own (.list ds0))) (h1 : m ρ = some ([r], ρ1)) (h2 : fzOne r ρ1 = some (d, ρ2)) (h3 : ρ2[i]? = some (.own (.list ds))) (hz : ds.length ≤ 100000)
    (h5 : ρ2.set i (.own (.list (ds ++ [d]))) = ρ3) : mDrop (mMut i fAppend m) ρ = some (.nx ρ3) := h5 ▸ drop_ev (append_ev h0 h1 h2 h3 hz)
theorem forL_cons {g : D → Rho → Option Rho} {b : SM} {d : D} {ds : List D} {ρ ρ1 ρ2 : Rho} {o : Option Out} (h1 : g d ρ = some ρ1) (h2 : b ρ1 = some (.nx ρ2)) (h3 : forL g b ds ρ2 = o) : forL g b (d :: ds) ρ = o := by
  show ((g d ρ).bind _) = _
  rw [h1, Option.bind_some, h2]
  exact h3
theorem pop_ev {i : Nat} {ρ ρ1 : Rho} (d : D) (ds : List D) (h0 : ρ[i]? = some (.own (.list (ds ++ [d])))) (h5 : ρ.set i (.own (.list ds)) = ρ1) : mMut0 i fPop ρ = some ((d, .fz), ρ1) := by
  unfold mMut0
  rw [h0]
  have e : (ds ++ [d])[(ds ++ [d]).length - 1]? = some d := by simp
  simp only [ownL, Option.bind_some, fPop, e, Option.map_some, List.dropLast_concat, Mir.putAt, h0, Sl.put, h5]
theorem isL_ev (l : List D) {a : PM} {ρ ρ1 : Rho} {k : Kd} (h1 : sv a ρ = some ((.list l, k), ρ1)) : mTest (mIsi "list" a) ρ = some (true, ρ1) := test_ev (k := .fz) (isi_ev h1 (isi_list_list l))
end Mir
set_option Elab.async false
set_option linter.all false
set_option maxRecDepth 100000
namespace Mir
open PySem L2
variable [Zc]
def asS : D → Option (List D)
  | .list ds => some ds
  | .tuple ds => some ds
  | _ => none
def mgU (n : Nat) (ms : List D → Rho → Option Rho) : D → Rho → Option Rho := fun d ρ => (asS d).bind fun ds => if ds.length = n then ms ds ρ else none
theorem mg_tupL {K : PySem.W.Frag} {n : Nat} {gs : TGs} {ms : List D → Rho → Option Rho} (h : MGs gs ms) : MG (gTupL K n gs) (mgU n ms) := fun F B H σ ρ v d ρ' Q R rp e q => by
  obtain ⟨ds, e1, e2⟩ := Option.bind_eq_some_iff.mp e
  cases rp with
  | tup hp rs =>
    cases e1
    split at e2
    · rename_i hn
      exact ⟨_, _, rfl, .inl (.inl (.inl (R.sub _ _ hp))), by rw [rs.length]; exact hn, h F B H σ ρ _ _ ρ' Q R rs e2 q⟩
    · cases e2
  | lst hp rs =>
    cases e1
    split at e2
    · rename_i hn
      exact ⟨_, _, rfl, .inr (rd_sq (rd_same R.sub hp)), by rw [rs.length]; exact hn, h F B H σ ρ _ _ ρ' Q R rs e2 q⟩
    · cases e2
  | _ => cases e1
theorem asgG_fz {a : PM} {g : D → Rho → Option Rho} {ρ ρ1 ρ2 : Rho} {d : D} (h : a ρ = some ((d, .fz), ρ1)) (h2 : g d ρ1 = some ρ2) : mAsgG a g ρ = some (.nx ρ2) := by
  unfold mAsgG; rw [sv_fz h]; show ((g d ρ1).map Out.nx) = _; rw [h2]; rfl
end Mir
set_option Elab.async false
set_option linter.all false
set_option maxRecDepth 100000
namespace L2
open PySem PySem.Spec PyProof.Rows
variable {X : Cx}
end L2
namespace Mir
open PySem L2
variable [Zc]
theorem gLen_ints (l : List Int) : gLen [.list (l.map .int)] = some (.int (l.length : Int), false) := by show some (PyData.int ((l.map PyData.int).length : Int), false) = _; rw [List.length_map]
end Mir
set_option Elab.async false
set_option linter.all false
set_option maxRecDepth 100000
namespace Mir
open PySem L2
inductive OutE where
  | ok (o : Out) | er (c : Str) (ρ : Rho)
section
variable [Zc]
end
end Mir
namespace L2
open PySem PySem.Spec PyProof.Rows
end L2
set_option Elab.async false
set_option linter.all false
set_option maxRecDepth 100000
namespace L2
open PySem PySem.Spec PyProof.Rows
end L2
set_option Elab.async false
set_option linter.all false
set_option maxRecDepth 100000
namespace L2
open PySem PySem.Spec PyProof.Rows
theorem Vals.picks {xs : List V} {us : List Value} (r : Vals xs us) : ∀ is : List Nat, Vals (is.filterMap (xs[·]?)) (is.filterMap (us[·]?))
  | [] => .nil
  | i :: is => by
    cases h : xs[i]? with
    | none => rw [List.filterMap_cons_none h, List.filterMap_cons_none (r.none_of h)]; exact r.picks is
    | some x =>
      obtain ⟨u, h1, h2⟩ := r.get h
      rw [List.filterMap_cons_some h, List.filterMap_cons_some h1]
      exact .cons h2 (r.picks is)
section
variable {X : Cx} {e : Expr} {te : TE} {est : Expr} {lo hi : Option Expr} {tl th tk : TO} {pos p2 : Pos}
end
end L2
namespace Mir
open PySem L2
variable [Zc]
theorem Reps.picks {H : Hp} {vs : List V} {ds : List D} (r : Reps H vs ds) : ∀ is : List Nat, Reps H (is.filterMap (vs[·]?)) (is.filterMap (ds[·]?))
  | [] => .nil
  | i :: is => by
    cases h : ds[i]? with
    | none =>
      have h' : vs[i]? = none := by
        rw [List.getElem?_eq_none_iff] at h ⊢
        rw [r.length]; exact h
      rw [List.filterMap_cons_none h, List.filterMap_cons_none h']; exact r.picks is
    | some x =>
      obtain ⟨u, h1, h2⟩ := r.get i x h
      rw [List.filterMap_cons_some h, List.filterMap_cons_some h1]
      exact .cons h2 (r.picks is)
end Mir
set_option Elab.async false
set_option linter.all false
set_option maxRecDepth 100000
namespace Mir
open PySem L2
section
variable [Zc]
def LF (B : Hp) : Prop := ∀ q o, B q = some o → ∃ xs, o = .tup xs
structure FrP (F : Fr) : Prop where
  lf : LF F.B
  io : F.io = []
  zh : ∀ q, F.Z q → F.H q ≠ none
def MSP (t : TS) (m : SM) : Prop := ∀ (F : Fr) (B H : Hp) (σ : St) (ρ : Rho) (o : Out) (D : Ends), FrP F → Rel F B H σ ρ → m ρ = some o → OutOk F D o → t D σ H
theorem MS.p {t : TS} {m : SM} (h : MS t m) : MSP t m := fun F B H σ ρ o D _ R e q => h F B H σ ρ o D R e q
def tups (H : Hp) : Hp := fun q => match H q with
  | some (.tup xs) => some (.tup xs)
  | _ => none
theorem tups_some {H : Hp} {q : Addr} {o : HO} (h : tups H q = some o) : ∃ xs, o = .tup xs ∧ H q = some (.tup xs) := by
  unfold tups at h
  split at h
  · rename_i xs h0; cases h; exact ⟨xs, rfl, h0⟩
  · cases h
theorem tups_tup {H : Hp} {q : Addr} {xs : List V} (h : H q = some (.tup xs)) : tups H q = some (.tup xs) := by unfold tups; rw [h]
theorem Reps.put {B B' : Hp} (k : ∀ q xs, B q = some (.tup xs) → B' q = some (.tup xs)) {x : V} {c c' : D} (hr : Rep B' x c') : ∀ {vs : List V} {ds : List D} (j : Nat), Reps B vs ds → vs[j]? = some x → ds[j]? = some c → pureDs (ds.set j .none) = true → Reps B' vs (ds.set j c')
  | _, _, _, .nil, h, _, _ => by simp at h
  | _, _, 0, .cons a b, h1, h2, e => by
    simp only [List.getElem?_cons_zero, Option.some.injEq] at h1
    subst h1
    simp only [List.set_cons_zero, pureDs, Bool.and_eq_true] at e
    exact .cons hr (b.ofPure k e.2)
  | _, _, j + 1, .cons a b, h1, h2, e => by
    simp only [List.set_cons_succ, pureDs, Bool.and_eq_true] at e
    exact .cons (a.ofPure k e.1) (Reps.put k hr j b (by simpa using h1) (by simpa using h2) e.2)
theorem atI_nat' {α : Type} {xs : List α} {j : Nat} {x : α} (h : xs[j]? = some x) : L2.atI xs (j : Int) = some x := by
  rw [Mir.atI_nat]; exact h
end
end Mir
set_option Elab.async false
set_option linter.all false
set_option maxRecDepth 100000
namespace Mir
open PySem L2
section
variable [Zc]
structure PostI (B H : Hp) (p : Addr) (v : V) (B' H' : Hp) (d : D) (o : Bool) (d1 : D) : Prop where
  eH : ∀ q u, q ≠ p → H q = some u → H' q = some u
  eB : Same B B'
  sub : Same B' H'
  nb : ∀ q, H q ≠ none → B q = none → B' q = none
  tB : ∀ q xs, H' q = some (.tup xs) → B' q = some (.tup xs)
  nz : ∀ q o u, H' q = some (.frz o u) → H q ≠ none
  own : Own B' H' p d1
  val : if o = true then ∃ p, v = .ref p ∧ H p = none ∧ B' p = none ∧ Own B' H' p d else Rep B' v d
def ownAt (ρ : Rho) (i : Nat) : Option Sl := match ρ[i]? with
  | some s => if s.isOwn = true then some s else none
  | none => none
theorem op_io {a b : PM} {ρ ρ1 ρ2 : Rho} {x y : D} {r : RV} {res : D × Bool} {g : D → D → Option (D × Bool)} {i : Nat} (h1 : sv a ρ = some ((x, .at i), ρ1)) (h2 : sv b ρ1 = some (r, ρ2)) (h4 : ρ2[i]? = some (.io y)) (h3 : g y r.1 = some res) : mOp g a b ρ = some (resK res, ρ2) := by
  unfold mOp; rw [h1, Option.bind_some]; dsimp only; rw [h2, Option.bind_some]; dsimp only [refr]; rw [h4]; dsimp only [Option.bind_some]; rw [h3, Option.map_some]
theorem var_io {d : D} {ρ : Rho} {i : Nat} (h : ρ[i]? = some (.io d)) : mVar i ρ = some ((d, .at i), ρ) := by unfold mVar; rw [h]
theorem op_ro {a b : PM} {ρ ρ1 ρ2 : Rho} {x : D} {r : RV} {res : D × Bool} {g : D → D → Option (D × Bool)} (h1 : sv a ρ = some ((x, .ro), ρ1)) (h2 : sv b ρ1 = some (r, ρ2)) (h3 : g x r.1 = some res) : mOp g a b ρ = some (resK res, ρ2) := by
  unfold mOp; rw [h1, Option.bind_some]; dsimp only; rw [h2, Option.bind_some]; dsimp only [refr, Option.bind_some]; rw [h3, Option.map_some]
end
end Mir
set_option Elab.async false
set_option linter.all false
set_option maxRecDepth 100000
namespace Mir
open PySem L2
section
variable [Zc]
def Two (H0 B' H' : Hp) (v : V) (c : D × D) : Prop := ∃ a p q, v = .ref a ∧ H' a = some (.tup [.ref p, .ref q]) ∧ p ≠ q ∧ H0 p = none ∧ H0 q = none ∧ B' p = none ∧ B' q = none ∧ Own B' H' p c.1 ∧ Own B' H' q c.2
structure PostD (B H : Hp) (v : V) (B' H' : Hp) (c : D × D) : Prop where
  eH : Same H H'
  eB : Same B B'
  sub : Same B' H'
  nb : ∀ q, H q ≠ none → B q = none → B' q = none
  tB : ∀ q xs, H' q = some (.tup xs) → B' q = some (.tup xs)
  nz : ∀ q o u, H' q = some (.frz o u) → H q ≠ none
  val : Two H B' H' v c
end
end Mir
set_option Elab.async false
set_option linter.all false
set_option maxRecDepth 100000
namespace Mir
open PySem L2
section
variable [Zc]
def Ag (N : List Nat) (σ σ' : St) : Prop := σ'.length = σ.length ∧ ∀ n, n ∉ N → σ'[n]? = σ[n]?
theorem Ag.refl (N : List Nat) (σ : St) : Ag N σ σ := ⟨rfl, fun _ _ => rfl⟩
theorem Ag.trans {N : List Nat} {σ σ1 σ2 : St} (a : Ag N σ σ1) (b : Ag N σ1 σ2) : Ag N σ σ2 := ⟨b.1.trans a.1, fun n h => (b.2 n h).trans (a.2 n h)⟩
theorem Ag.set {N : List Nat} {σ : St} {i : Nat} (h : i ∈ N) (v : Option V) : Ag N σ (σ.set i v) := ⟨List.length_set, fun n hn => List.getElem?_set_ne (fun e : i = n => hn (by rw [← e]; exact h))⟩
def OutOkK (N : List Nat) (σ0 : St) (F : Fr) (D : Ends) : Out → Prop
  | .nx ρ => ∀ B H σ, Rel F B H σ ρ → Ag N σ0 σ → D.nx σ H
  | .rt r ρ => ∀ v B H σ, Rel F B H σ ρ → Val F B H σ ρ v r → D.rt v H
  | .bk ρ => ∀ B H σ, Rel F B H σ ρ → Ag N σ0 σ → D.bk σ H
  | .ct ρ => ∀ B H σ, Rel F B H σ ρ → Ag N σ0 σ → D.ct σ H
theorem OutOkK.step {N : List Nat} {σ σ1 : St} {F : Fr} {D : Ends} {o : Out} (h : OutOkK N σ F D o) (a : Ag N σ σ1) : OutOkK N σ1 F D o := by
  cases o with
  | nx ρ => exact fun B H σ' R b => h B H σ' R (a.trans b)
  | bk ρ => exact fun B H σ' R b => h B H σ' R (a.trans b)
  | ct ρ => exact fun B H σ' R b => h B H σ' R (a.trans b)
  | rt r ρ => exact h
theorem OutOkK.down {N : List Nat} {σ : St} {F : Fr} {B1 H1 : Hp} {σ1 : St} {ρ1 : Rho} (R1 : Rel F B1 H1 σ1 ρ1) {D : Ends} {o : Out} (h : OutOkK N σ F D o) : OutOkK N σ ⟨B1, F.H, F.io, F.Z⟩ D o := by
  cases o with
  | nx ρ => exact fun B H σ R a => h B H σ (R1.up R) a
  | bk ρ => exact fun B H σ R a => h B H σ (R1.up R) a
  | ct ρ => exact fun B H σ R a => h B H σ (R1.up R) a
  | rt r ρ => exact fun v B H σ R V => h v B H σ (R1.up R) V
def MSK (N : List Nat) (t : TS) (m : SM) : Prop := ∀ (F : Fr) (B H : Hp) (σ : St) (ρ : Rho) (o : Out) (D : Ends), Rel F B H σ ρ → m ρ = some o → OutOkK N σ F D o → t D σ H
variable {N : List Nat}
theorem mk_next : MSK N tNext mPass := by
  intro F B H σ ρ o D R e q
  cases e; exact q B H σ R (Ag.refl _ _)
theorem mk_ret {t : TE} {a : PM} (ha : ME t a) : MSK N (tRet t) (mRet a) := by
  intro F B H σ ρ o D R e q
  obtain ⟨x, e1, e⟩ := Option.map_eq_some_iff.mp e
  cases e
  exact ha F B H σ ρ x.1 x.2 _ R e1 fun v B' H' E R' V' N => q v B' H' σ R' V'
theorem mk_drop {t : TE} {a : PM} (ha : ME t a) : MSK N (tDrop t) (mDrop a) := by
  intro F B H σ ρ o D R e q
  obtain ⟨x, e1, e⟩ := Option.map_eq_some_iff.mp e
  cases e
  exact ha F B H σ ρ x.1 x.2 _ R e1 fun v B' H' E R' V' N => q B' H' σ R' (Ag.refl _ _)
theorem mk_if {tc : TT} {t u : TS} {c : Rho → Option (Bool × Rho)} {a b : SM} (hc : MT tc c) (ha : MSK N t a) (hb : MSK N u b) : MSK N (tIfS tc t u) (mIfS c a b) := by
  intro F B H σ ρ o D R e q
  obtain ⟨x, e1, e⟩ := Option.bind_eq_some_iff.mp e
  refine hc F B H σ ρ x.1 x.2 _ R e1 fun B' H' E R' => ?_
  by_cases h : x.1 = true
  · rw [if_pos h] at e ⊢; exact ha F B' H' σ x.2 o D R' e q
  · rw [if_neg h] at e ⊢; exact hb F B' H' σ x.2 o D R' e q
theorem mk_of {t : TS} {m : SM} (h : MS t m) (hn : ∀ ρ o, m ρ = some o → ∃ ρ', o = .nx ρ') (hk : ∀ (D : Ends) (σ : St) (H : Hp), t { D with nx := fun σ' H' => Ag N σ σ' → D.nx σ' H' } σ H → t D σ H) : MSK N t m := by
  intro F B H σ ρ o D R e q
  obtain ⟨ρ', rfl⟩ := hn ρ o e
  exact hk D σ H (h F B H σ ρ _ _ R e fun B' H' σ' R' a => q B' H' σ' R' a)
theorem imp_of {a p : Prop} (h : a) : (a → p) = p := propext ⟨fun f => f h, fun q _ => q⟩
theorem mk_asg {i : Nat} (hi : i ∈ N) {t : TE} {a : PM} (ha : ME t a) : MSK N (tAsg t (gName i)) (mAsg i a) := by
  refine mk_of (ms_asg ha) (fun ρ o e => ?_) (fun D σ H h => ?_)
  · obtain ⟨x, e1, e⟩ := Option.bind_eq_some_iff.mp e
    obtain ⟨ρ2, e2, e⟩ := Option.map_eq_some_iff.mp e
    exact ⟨ρ2, e.symm⟩
  · have h' : t σ H fun x H1 => Ag N σ (σ.set i (some x)) → D.nx (σ.set i (some x)) H1 := h
    have e : (fun (x : V) (H1 : Hp) => Ag N σ (σ.set i (some x)) → D.nx (σ.set i (some x)) H1) = fun x H1 => D.nx (σ.set i (some x)) H1 := funext fun x => funext fun H1 => imp_of (Ag.set hi _)
    rw [e] at h'
    exact h'
theorem Rel.poke {F : Fr} {B H : Hp} {σ : St} {ρ : Rho} {p : Addr} {xs : List V} (R : Rel F B H σ ρ) (hB : B p = none) (hF : F.H p = none) (hH : H p = some (.lst xs)) (hn : ∀ (n : Nat) (s : Sl), ρ[n]? = some s → s.isRef = true → σ[n]? ≠ some (some (.ref p))) (ys : List V) : Rel F B (upd H p (.lst ys)) σ ρ := by
  refine ⟨fun q o h => ?_, R.sB, fun q o h hx => ?_, R.nB, R.len, fun n s hs => ?_, R.dist, R.ownN, R.fx, R.ioN, fun q zs h => ?_, R.exv, fun q o u h => ?_⟩
  · rw [upd_ne (fun z => by rw [z, hB] at h; cases h)]; exact R.sub q o h
  · rw [upd_ne (fun z => by rw [z, hF] at h; cases h)]; exact R.sH q o h hx
  · have ok := R.slot n s hs
    have ne : s.isRef = true → ∀ q, σ[n]? = some (some (.ref q)) → ∀ o, H q = some o → upd H p (.lst ys) q = some o := fun hr q hq o ho => by
      rw [upd_ne (fun z => hn n s hs hr (by rw [hq, z]))]; exact ho
    cases s with
    | no => trivial
    | ex => trivial
    | fz d => exact ok
    | own d => obtain ⟨q, h1, h2, h3⟩ := ok; exact ⟨q, h1, h2, h3.mono (Same.refl _) (ne rfl q h1)⟩
    | io d => obtain ⟨q, h1, h2, h3⟩ := ok; exact ⟨q, h1, h2, h3.mono (Same.refl _) (ne rfl q h1)⟩
    | ro d => obtain ⟨q, h1, h3⟩ := ok; exact ⟨q, h1, h3.mono (Same.refl _) (ne rfl q h1)⟩
  · by_cases z : q = p
    · subst z; rw [upd_same] at h; cases h
    · rw [upd_ne z] at h; exact R.tupB q zs h
  · by_cases z : q = p
    · subst z; rw [upd_same] at h; cases h
    · rw [upd_ne z] at h; exact R.nz q o u h
structure Dead (F : Fr) (B H : Hp) (σ : St) (ρ : Rho) (i : Nat) (ps : List Addr) (b : Nat) : Prop where
  here : ∃ a, σ[i]? = some (some (.ref a)) ∧ H a = some (.tup (ps.map .ref))
  lst : ∀ p ∈ ps, ∃ xs, H p = some (.lst xs) ∧ xs.length ≤ b
  out : ∀ p ∈ ps, B p = none ∧ F.H p = none
  free : ∀ p ∈ ps, ∀ (n : Nat) (s : Sl), ρ[n]? = some s → s.isRef = true → σ[n]? ≠ some (some (.ref p))
theorem Dead.poke {F : Fr} {B H : Hp} {σ : St} {ρ : Rho} {i : Nat} {ps : List Addr} {p : Addr} {b : Nat} (d : Dead F B H σ ρ i ps b) (hp : p ∈ ps) (ys : List V) (b2 : Nat) (hb : b ≤ b2) (hy : ys.length ≤ b2) : Dead F B (upd H p (.lst ys)) σ ρ i ps b2 := by
  obtain ⟨xs, hx, _⟩ := d.lst p hp
  refine ⟨?_, fun q hq => ?_, d.out, d.free⟩
  · obtain ⟨a, h1, h2⟩ := d.here
    exact ⟨a, h1, by rw [upd_ne (fun z => by rw [z, hx] at h2; cases h2)]; exact h2⟩
  · by_cases z : q = p
    · subst z; exact ⟨ys, upd_same, hy⟩
    · rw [upd_ne z]; obtain ⟨zs, h1, h2⟩ := d.lst q hq; exact ⟨zs, h1, Nat.le_trans h2 hb⟩
structure Sv (N : List Nat) (i : Nat) (F : Fr) (Bs : Hp) (σs : St) (ρs : Rho) (ps : List Addr) (b : Nat) (B : Hp) (σ : St) : Prop where
  slot : ∀ (n : Nat) (d : D), n ≠ i → ρs[n]? = some (.fz d) → ∃ v, σs[n]? = some (some v) ∧ Rep Bs v d
  sBs : Same F.B Bs
  nBs : ∀ q, F.H q ≠ none → F.B q = none → Bs q = none
  sB : Same Bs B
  ag : Ag N σs σ
  ni : i ∉ N
  here : ∃ a, σs[i]? = some (some (.ref a)) ∧ B a = some (.tup (ps.map .ref))
  out : ∀ p ∈ ps, Bs p = none ∧ F.H p = none
  lst : ∀ p ∈ ps, ∃ xs, B p = some (.lst xs) ∧ xs.length ≤ b
  len : ρs.length = σs.length
  io : F.io = []
theorem Sv.go {N : List Nat} {i : Nat} {F : Fr} {Bs B B' : Hp} {σs σ σ' : St} {ρs : Rho} {ps : List Addr} {b : Nat} (s : Sv N i F Bs σs ρs ps b B σ) (e : Same B B') (a : Ag N σ σ') : Sv N i F Bs σs ρs ps b B' σ' := by
  refine ⟨s.slot, s.sBs, s.nBs, s.sB.trans e, s.ag.trans a, s.ni, ?_, s.out, fun p hp => ?_, s.len, s.io⟩
  · obtain ⟨c, h1, h2⟩ := s.here; exact ⟨c, h1, e _ _ h2⟩
  · obtain ⟨xs, h1, h2⟩ := s.lst p hp; exact ⟨xs, e _ _ h1, h2⟩
def bSeq (a : SM) (mb : Rho → SM) : Rho → SM := fun ρs ρ => (a ρ).bind fun o => match o with
  | .nx ρ' => mb ρs ρ'
  | .rt r ρ' => some (.rt r ρ')
  | _ => none
def keepSl (N : List Nat) (i n : Nat) (s : Sl) : Sl := if n ∈ N ∨ n = i then .no else match s with
  | .fz d => .fz d
  | _ => .no
def forget (N : List Nat) (i : Nat) (ρ : Rho) : Rho := ρ.mapIdx (keepSl N i)
theorem forget_get {N : List Nat} {i n : Nat} {ρ : Rho} {s : Sl} (h : (forget N i ρ)[n]? = some s) : s = .no ∨ ∃ d, s = .fz d ∧ n ∉ N ∧ n ≠ i ∧ ρ[n]? = some (.fz d) := by
  unfold forget at h
  rw [List.getElem?_mapIdx] at h
  obtain ⟨s0, h1, rfl⟩ := Option.map_eq_some_iff.mp h
  unfold keepSl
  by_cases c : n ∈ N ∨ n = i
  · rw [if_pos c]; exact .inl rfl
  · rw [if_neg c]
    cases s0 with
    | fz d => exact .inr ⟨d, rfl, fun z => c (.inl z), fun z => c (.inr z), h1⟩
    | _ => exact .inl rfl
def noIo : Sl → Bool
  | .io _ => false
  | _ => true
end
end Mir
set_option Elab.async false
set_option linter.all false
set_option maxRecDepth 100000
namespace L2
open PySem PySem.Spec PyProof.Rows
section
variable {X : Cx} {pins : List (Addr × Obj)} {σ : St} {H : Hp} {s : Shared} {h' : Heap}
theorem Inv.turnedL {t' : Nat} {fp : List Addr} (I : Inv X pins σ H s) (k : ∀ b o, b ∉ fp → s.heap.get? b = some o → h'.get? b = some o) (f : ∀ b ∈ fp, FpOk X pins H b) : Inv X pins σ H { s with heap := h', toks := t' } := by
  have nit : ∀ b u, H b = some u → b ∉ fp := fun b u e z => by rw [(f b z).1] at e; cases e
  have hL : X.env.locals ∉ fp := fun z => (f _ z).2.1 rfl
  refine I.step (g' := s.gens) (d' := s.drawn) (ch := fp) (fun b hb => ?_) (fun b o _ _ hc e _ => k b o hc e) (fun b o _ _ hc e _ => ⟨o.slots, k b o hc e⟩) (fun _ _ _ _ n => n)
    (fun b o hc e => ⟨o, k b o hc e⟩) (fun _ _ e => e) (fun _ _ _ e => e) (fun b ps e => ⟨#[], by rw [e]; simp⟩) (fun m hm => ?_) (fun b u e => ?_) I.bare
  · obtain ⟨_, f1, _, f3, f4, f5⟩ := f b hb
    exact ⟨f3, f1, f4, f5⟩
  · obtain ⟨o, es, ep, ho, r⟩ := hm
    exact ⟨o, es, ep, k _ o hL ho, r⟩
  · refine (I.hok b u e).stay (fun c v hc q => k c v ?_ q) (fun _ q => q) fun _ _ q => q
    rcases hc with z | z
    · rw [z]; exact nit b u e
    · exact nit c _ z
end
def Itz (K : PySem.W.Frag) (a b : Addr) : It :=
  ⟨fun i H => ∃ xs ys x y, SqL K H a xs ∧ SqL K H b ys ∧ xs[i]? = some x ∧ ys[i]? = some y,
   fun i H v H' => ∃ p x y, v = .ref p ∧ H p = none ∧ H' = upd H p (.tup [x, y]) ∧ (∀ xs, SqL K H a xs → xs[i]? = some x) ∧ ∀ ys, SqL K H b ys → ys[i]? = some y,
   fun i H => ∃ xs ys, SqL K H a xs ∧ SqL K H b ys ∧ (xs.length ≤ i ∨ ys.length ≤ i)⟩
theorem turn_zip {P : Program} {w : World} {K : PySem.W.Frag} {elts : List Expr} {cx} {pos : Pos} {z TI TO i1 i2 l1 l2 : Addr} (D : ZipApart z TI TO i1 i2 l1 l2) :
    Turn P w K (.Tuple elts cx pos) (Itz K l1 l2) [z, TI, TO, i1, i2] z (fun i h => IsZip h z TI TO .none ∧ IsPair h TI (.ref i1) (.ref i2) ∧ (∃ a b, IsPair h TO a b) ∧ h.IsListIter i1 l1 i ∧ h.IsListIter i2 l2 i) where
  mem := by simp
  obj := fun i h st b hb => by
    obtain ⟨hz, hTI, ⟨a, c, hTO⟩, ⟨o1, g1, c1, d1⟩, ⟨o2, g2, c2, d2⟩⟩ := st
    simp only [List.mem_cons, List.not_mem_nil, or_false] at hb
    rcases hb with rfl | rfl | rfl | rfl | rfl
    · exact ⟨_, hz, fun v e => by cases e⟩
    · exact ⟨_, hTI, fun v e => by cases e⟩
    · exact ⟨_, hTO, fun v e => by cases e⟩
    · exact ⟨_, g1, fun v e => by rw [d1] at e; cases e⟩
    · exact ⟨_, g2, fun v e => by rw [d2] at e; cases e⟩
  keep := fun i h h' st k => by
    obtain ⟨hz, hTI, ⟨a, c, hTO⟩, h1, h2⟩ := st
    exact ⟨k z (by simp) _ hz, k TI (by simp) _ hTI, ⟨a, c, k TO (by simp) _ hTO⟩, h1.at fun o e => k i1 (by simp) o e, h2.at fun o e => k i2 (by simp) o e⟩
  item := by
    intro X hP hw hK hc i pins s σ H E I hf st hg
    subst hP hw hK
    obtain ⟨hz, hTI, ⟨a, c, hTO⟩, h1, h2⟩ := st
    obtain ⟨xs, ys, x, y, q1, q2, hx, hy⟩ := hg
    obtain ⟨us, r1, p1, _⟩ := I.list q1
    obtain ⟨vs, r2, p2, _⟩ := I.list q2
    obtain ⟨u, hu, ru⟩ := r1.get hx
    obtain ⟨v, hv, rv⟩ := r2.get hy
    have lt : ∀ b ∈ [z, TI, TO, i1, i2], b < s.heap.objs.size := fun b hb => by
      obtain ⟨o1, g1, _, _⟩ := id h1
      obtain ⟨o2, g2, _, _⟩ := id h2
      simp only [List.mem_cons, List.not_mem_nil, or_false] at hb
      rcases hb with rfl | rfl | rfl | rfl | rfl
      · exact Heap.lt_size hz
      · exact Heap.lt_size hTI
      · exact Heap.lt_size hTO
      · exact Heap.lt_size g1
      · exact Heap.lt_size g2
    refine wpAny_pyNext_zip_item D hz hTI hTO h1 h2 p1.isList p2.isList (x := u) (y := v) (by simpa using hu) (by simpa using hv) fun h' hz' hTO' h1' h2' hT hsz hk => ?_
    refine ⟨_, rfl, wpAny_letOwnedTupleGo_zip (s := { s with heap := h' }) hz' fun h3 hz3 sb => ?_⟩
    have hfr : H s.heap.objs.size = none := I.hok.fresh (Nat.le_refl _)
    have up : ∀ b o, b ≠ z → h'.get? b = some o → h3.get? b = some o := fun b o hb e => (sb.2 b hb).trans e
    have IA : Inv X pins σ (upd H s.heap.objs.size (.tup [x, y])) { s with heap := s.heap.push { cls := .type "tuple", data := .seq #[u, v] }, toks := s.toks } :=
      I.laid (fun b o e => Heap.get?_push_of_some _ e) (Nat.le_refl _) ⟨by simp only [List.length_cons, List.length_nil, sizeLine]; omega, [u, v], .cons ru (.cons rv .nil), ⟨_, Heap.get?_push_size _ rfl, rfl, _, rfl⟩⟩
    have IB : Inv X pins σ (upd H s.heap.objs.size (.tup [x, y])) { s with heap := h3 } := by
      refine Inv.turnedL (s := { s with heap := s.heap.push { cls := .type "tuple", data := .seq #[u, v] }, toks := s.toks }) (h' := h3) (t' := s.toks) (fp := [z, TI, TO, i1, i2]) IA (fun b o hb e => ?_) (fun b hb => ?_)
      · simp only [List.mem_cons, List.not_mem_nil, or_false, not_or] at hb
        obtain ⟨b1, b2, b3, b4, b5⟩ := hb
        refine up b o b1 ?_
        by_cases eb : b = s.heap.objs.size
        · subst eb
          have e' : (s.heap.push { cls := .type "tuple", data := .seq #[u, v] }).get? s.heap.objs.size = some { cls := .type "tuple", data := .seq #[u, v] } := Heap.get?_push_size _ rfl
          rw [e'] at e
          cases e
          exact hT
        · have e0 : (s.heap.push { cls := .type "tuple", data := .seq #[u, v] }).get? b = s.heap.get? b := Heap.get?_push_ne _ _ _ eb
          have e1 : s.heap.get? b = some o := e0 ▸ e
          exact hk b o b1 b3 b4 b5 e1
      · obtain ⟨f0, f1⟩ := hf b hb
        exact ⟨by rw [upd_ne (fun e => absurd (lt b hb) (by rw [e]; exact Nat.lt_irrefl _))]; exact f0, f1⟩
    refine ⟨.ref s.heap.objs.size, _, IB, rfl, ⟨_, x, y, rfl, hfr, rfl, fun xs' h => by rw [I.list_inj h q1]; exact hx, fun ys' h => by rw [I.list_inj h q2]; exact hy⟩, ⟨hz3, up _ _ D.TIz (hk TI _ D.TIz D.TITO D.TIi1 D.TIi2 hTI), ⟨_, _, up _ _ D.TOz hTO'⟩, h1'.at fun o e => up i1 o D.i1z e, h2'.at fun o e => up i2 o D.i2z e⟩, fun b hb => ?_⟩
    rw [upd_ne (fun e => absurd (lt b hb) (by rw [e]; exact Nat.lt_irrefl _))]
    exact (hf b hb).1
  done := by
    intro X hP hw hK hc i pins s σ H E I hf st hg
    subst hP hw hK
    obtain ⟨hz, hTI, ⟨a, c, hTO⟩, h1, h2⟩ := st
    obtain ⟨xs, ys, q1, q2, he⟩ := hg
    obtain ⟨us, r1, p1, _⟩ := I.list q1
    obtain ⟨vs, r2, p2, _⟩ := I.list q2
    have l1 := r1.length
    have l2 := r2.length
    refine wpAny_pyNext_zip_end (I.ok.hd hc) D hz hTI hTO h1 h2 p1.isList p2.isList (he.imp (fun h => by simp; omega) (fun h => by simp; omega)) fun h' hk => ⟨rfl, ?_⟩
    refine Inv.turnedL (t' := s.toks) (fp := [z, TI, TO, i1, i2]) I (fun b o hb e => ?_) hf
    simp only [List.mem_cons, List.not_mem_nil, or_false, not_or] at hb
    exact hk b o hb.1 hb.2.2.1 hb.2.2.2.1 hb.2.2.2.2 e
  self := fun _ _ _ _ _ st h => wpAny_pyIter_zip st.1 h
theorem zipApart_of {n l1 l2 : Nat} (h1 : l1 < n) (h2 : l2 < n) : ZipApart (n + 4) (n + 2) (n + 3) n (n + 1) l1 l2 := by
  constructor <;> (intro z; have z' : @Eq Nat _ _ := z; omega)
def iZip (K : PySem.W.Frag) (ta : TA) : TI := fun σ H R => ta σ H fun vs H1 => ∃ a b xs ys, vs = [.ref a, .ref b] ∧ SqL K H1 a xs ∧ SqL K H1 b ys ∧ R (Itz K a b) H1
section
variable {X : Cx}
theorem pi_zip {elts : List Expr} {cx} {tp : Pos} {a b : Expr} {ta : TA} {p pos : Pos} (hg : Gl X "zip") (hm : X.mg "zip" = none) (ha : PA X [a, b] ta) (hs : starEach [a, b] X.env = [(false, eval a X.env), (false, eval b X.env)] := by rfl) (hs2 : starEach [b] X.env = [(false, eval b X.env)] := by rfl) :
    PI X (.Tuple elts cx tp) (.Call (.Name "zip" p) [a, b] [] pos) (iZip X.K ta) := by
  intro pins s σ H R I h
  refine Call_ (ld_blt I hg hm boot_zip (PyProof.Rows.callWith_type1 (thn (ha pos pins s σ H _ I h) fun us s1 ⟨vs, H1, I1, r1, q1⟩ => ?_) (by rw [hs, hs2]) (by rw [hs2]; rfl)))
  obtain ⟨l1, l2, xs, ys, e, g1, g2, q⟩ := q1
  subst e
  cases r1 with
  | cons r rr =>
    cases rr with
    | cons r' rr =>
      cases rr
      cases r
      cases r'
      obtain ⟨us, rv1, p1, _⟩ := I1.list g1
      obtain ⟨vs, rv2, p2, _⟩ := I1.list g2
      have k1 : l1 < s1.heap.objs.size := by obtain ⟨o, _, e, _⟩ := id p1; exact Heap.lt_size e
      have k2 : l2 < s1.heap.objs.size := by obtain ⟨o, _, e, _⟩ := id p2; exact Heap.lt_size e
      refine call_zip_2 p1.isList p2.isList fun h' hz hTI hTO h1 h2 hsz hk => ?_
      refine wpAny_pyIter_zip hz ?_
      have D : ZipApart (s1.heap.objs.size + 4) (s1.heap.objs.size + 2) (s1.heap.objs.size + 3) s1.heap.objs.size (s1.heap.objs.size + 1) l1 l2 := zipApart_of k1 k2
      refine ⟨s1.heap.objs.size + 4, [s1.heap.objs.size + 4, s1.heap.objs.size + 2, s1.heap.objs.size + 3, s1.heap.objs.size, s1.heap.objs.size + 1], _, _, H1, rfl, I1.kept (t' := s1.toks) hk, turn_zip D, ⟨hz, hTI, ⟨_, _, hTO⟩, h1, h2⟩, fun b hb => ?_, q⟩
      have hb' : s1.heap.objs.size ≤ b := by
        simp only [List.mem_cons, List.not_mem_nil, or_false] at hb
        rcases hb with rfl | rfl | rfl | rfl | rfl
        · exact Nat.le_add_right _ _
        · exact Nat.le_add_right _ _
        · exact Nat.le_add_right _ _
        · exact Nat.le_refl _
        · exact Nat.le_add_right _ _
      exact I1.fpOk hb' (I1.hok.fresh hb')
end
end L2
set_option Elab.async false
set_option linter.all false
set_option maxRecDepth 100000
namespace L2
open PySem PySem.Spec PyProof.Rows
section
variable {prog : Program} {w : World} {A : Around} {E : Value → Shared → Prop} {s : Shared}
theorem nextT_item {it t : Addr} {i : Nat} {items : Array Value} {x : Value} {Q : Value → Shared → Prop} (hit : s.heap.IsTupleIter it t i) (ht : s.heap.IsTuple t items) (hx : items[i]? = some x)
    (hQ : ∀ h', h'.IsTupleIter it t (i + 1) → Heap.SameBut it s.heap h' → Q x { s with heap := h' }) : wpAny (model prog w) A (Builtin.SmallTypes.nextOf (.ref it)) Q E s := by
  obtain ⟨o, ho, hc, hd⟩ := id hit
  obtain ⟨ol, hol, _, nl, hdl⟩ := ht
  unfold Builtin.SmallTypes.nextOf
  refine wpAny_bind (wpAny_callSpecial?_slot (name := Str.ofString "__next__") hit.typeIs F.slot_tuple_iterator_next (wpAny_call_entry F.slot_tuple_iterator_next hit.typeIs F.entry_tuple_iterator_next ?_ (F.args_tuple_iterator_next_1 _)))
  show wpAny _ _ (field (.ref it) 0 >>= _) _ _ s
  refine wpAny_bind (wpAny_field ho hd (x := .ref t) rfl ?_)
  show wpAny _ _ (if (Value.ref t == Value.none) = true then _ else _) _ _ s
  rw [if_neg (show ¬ ((Value.ref t == Value.none) = true) from Bool.false_ne_true)]
  show wpAny _ _ (field (.ref it) 1 >>= _) _ _ s
  refine wpAny_bind (wpAny_field ho hd (x := .int i 0) rfl ?_)
  show wpAny _ _ (seqItems? (.ref t) >>= _) _ _ s
  refine wpAny_bind (wpAny_seqItems hol hdl ?_)
  simp only [Int.toNat_natCast, hx]
  refine wpAny_bind (wpAny_setField ho hd (by simp) (wpAny_pure ⟨x, rfl, wpAny_pure (hQ _ ?_ (Heap.SameBut.update ..))⟩))
  exact ⟨_, Heap.get?_update_self _ ho (Obj.isFreed_of_fields (Obj.data_mapFields hd _)), (Obj.cls_mapFields ..).trans hc, by
    rw [Obj.data_mapFields hd]; simp [rawInt]⟩
theorem nextT_end {it t : Addr} {i : Nat} {items : Array Value} {Q : Value → Shared → Prop} (hh : A.handled = none) (hit : s.heap.IsTupleIter it t i) (ht : s.heap.IsTuple t items) (hx : items[i]? = none)
    (hE : ∀ h' e, Heap.ExtBut it s.heap h' → (∃ o, h'.get? e = some o ∧ o.cls = .type "StopIteration") → E (.ref e) { s with heap := h' }) : wpAny (model prog w) A (Builtin.SmallTypes.nextOf (.ref it)) Q E s := by
  obtain ⟨o, ho, hc, hd⟩ := id hit
  obtain ⟨ol, hol, _, nl, hdl⟩ := ht
  unfold Builtin.SmallTypes.nextOf
  refine wpAny_bind (wpAny_callSpecial?_slot (name := Str.ofString "__next__") hit.typeIs F.slot_tuple_iterator_next (wpAny_call_entry F.slot_tuple_iterator_next hit.typeIs F.entry_tuple_iterator_next ?_ (F.args_tuple_iterator_next_1 _)))
  show wpAny _ _ (field (.ref it) 0 >>= _) _ _ s
  refine wpAny_bind (wpAny_field ho hd (x := .ref t) rfl ?_)
  show wpAny _ _ (if (Value.ref t == Value.none) = true then _ else _) _ _ s
  rw [if_neg (show ¬ ((Value.ref t == Value.none) = true) from Bool.false_ne_true)]
  show wpAny _ _ (field (.ref it) 1 >>= _) _ _ s
  refine wpAny_bind (wpAny_field ho hd (x := .int i 0) rfl ?_)
  show wpAny _ _ (seqItems? (.ref t) >>= _) _ _ s
  refine wpAny_bind (wpAny_seqItems hol hdl ?_)
  simp only [Int.toNat_natCast, hx]
  refine wpAny_bind (wpAny_rule (wpAny_bind (wpAny_setField ho hd (by simp) ?_)))
  show wpAny _ _ (newExc (.type "StopIteration") [] >>= _) _ _ _
  refine wpAny_bind ?_
  simp only [newExc, newTuple]
  refine wpAny_bind (wpAny_newObj_type ?_ (by size_fits))
  refine wpAny_bind (m := firstArgMember _ _) (wpAny_of_eq (a := Value.none) (by first | rfl | (simp only [firstArgMember]; rfl)) ?_)
  refine wpAny_newObj_type ?_ (by size_fits)
  simp only [raiseNew]
  refine wpAny_bind (wpAny_handled ?_)
  first | rw [show A.in1.handled = none from hh] | rw [hh]
  refine wpAny_bind (wpAny_pure (wpAny_throw ?_))
  exact hE _ _ (((Heap.SameBut.update ..).extBut.push _).push _) ⟨_, Heap.get?_push_size _ rfl, rfl⟩
theorem zipN_item {z TI TO i1 i2 l1 l2 : Addr} {x y a b : Value} {Q : Value → Shared → Prop} {S1 S2 : Nat → Heap → Prop} {k : Nat} (D : ZipApart z TI TO i1 i2 l1 l2)
    (hz : IsZip s.heap z TI TO .none) (hTI : IsPair s.heap TI (.ref i1) (.ref i2)) (hTO : IsPair s.heap TO a b)
    (k1 : ∀ n (h h' : Heap), S1 n h → (∀ o, h.get? i1 = some o → h'.get? i1 = some o) → (∀ o, h.get? l1 = some o → h'.get? l1 = some o) → S1 n h')
    (k2 : ∀ n (h h' : Heap), S2 n h → (∀ o, h.get? i2 = some o → h'.get? i2 = some o) → (∀ o, h.get? l2 = some o → h'.get? l2 = some o) → S2 n h')
    (g1 : ∀ n (h : Heap), S1 n h → i1 < h.objs.size) (g2 : ∀ n (h : Heap), S2 n h → i2 < h.objs.size)
    (n1 : ∀ (s : Shared) (A : Around) (Q : Value → Shared → Prop) (E : Value → Shared → Prop), S1 k s.heap → (∀ h', S1 (k + 1) h' → Heap.SameBut i1 s.heap h' → Q x { s with heap := h' }) → wpAny (model prog w) A (Builtin.SmallTypes.nextOf (.ref i1)) Q E s)
    (n2 : ∀ (s : Shared) (A : Around) (Q : Value → Shared → Prop) (E : Value → Shared → Prop), S2 k s.heap → (∀ h', S2 (k + 1) h' → Heap.SameBut i2 s.heap h' → Q y { s with heap := h' }) → wpAny (model prog w) A (Builtin.SmallTypes.nextOf (.ref i2)) Q E s)
    (h1 : S1 k s.heap) (h2 : S2 k s.heap)
    (hQ : ∀ h', IsZip h' z TI TO (rawInt s.heap.objs.size) → IsPair h' TO x y → S1 (k + 1) h' → S2 (k + 1) h' → IsPair h' s.heap.objs.size x y → h'.objs.size = s.heap.objs.size + 1 →
      (∀ c o, c ≠ z → c ≠ TO → c ≠ i1 → c ≠ i2 → s.heap.get? c = some o → h'.get? c = some o) → Q (.ref s.heap.objs.size) { s with heap := h' }) :
    wpAny (model prog w) A (Builtin.«zip.__next__» ⟨[.ref z], []⟩) (fun fin s' => ∃ v, fin = .done (.ret v) ∧ Q v s') E s := by
  show wpAny _ _ (field (.ref z) 2 >>= _) _ _ _
  refine wpAny_bind (wpAny_field hz rfl (x := .bool false) rfl ?_)
  show wpAny _ _ (field (.ref z) 3 >>= _) _ _ _
  refine wpAny_bind (wpAny_field hz rfl (x := .ref TI) rfl ?_)
  refine wpAny_bind (wpAny_seqItems hTI rfl ?_)
  show wpAny _ _ (Builtin.SmallTypes.ownedTupleIsFree (.ref z) >>= _) _ _ _
  refine wpAny_bind ?_
  unfold Builtin.SmallTypes.ownedTupleIsFree
  refine wpAny_bind (wpAny_field hz rfl (x := .none) rfl (wpAny_pure ?_))
  simp only [if_true]
  refine wpAny_bind (wpAny_rule ?_)
  refine wpAny_bind (wpAny_field hz rfl (x := .ref TO) rfl ?_)
  refine wpAny_bind (wpAny_setField_rec hz (by simp) fun h₁ hz₁ hs₁ => ?_)
  replace hz₁ : IsZip h₁ z TI TO .ellipsis := hz₁
  refine wpAny_bind ?_
  simp only [List.zipIdx_cons, List.zipIdx_nil, List.forIn_cons, List.forIn_nil]
  refine wpAny_bind (wpAny_bind (wpAny_onRaise ?_))
  show wpAny _ _ (Builtin.SmallTypes.nextOf (.ref i1) >>= _) _ _ _
  have q1 : S1 k h₁ := k1 _ _ _ h1 (fun o e => hs₁.extBut _ _ D.i1z e) (fun o e => hs₁.extBut _ _ D.l1z e)
  have q2 : S2 k h₁ := k2 _ _ _ h2 (fun o e => hs₁.extBut _ _ D.i2z e) (fun o e => hs₁.extBut _ _ D.l2z e)
  refine wpAny_bind (n1 _ _ _ _ q1 fun h₂ h1₂ hs₂ => wpAny_pure ?_)
  have hTO₂ : IsPair h₂ TO a b := hs₂.extBut _ _ D.TOi1 (hs₁.extBut _ _ D.TOz hTO)
  refine wpAny_bind (wpAny_seqItems hTO₂ rfl ?_)
  refine wpAny_bind (wpAny_updateSeq_pair hTO₂ fun h₃ hTO₃ hs₃ => ?_)
  replace hTO₃ : IsPair h₃ TO x b := hTO₃
  refine wpAny_bind (wpAny_letGo (wpAny_pure ?_))
  refine wpAny_bind (wpAny_bind (wpAny_onRaise ?_))
  show wpAny _ _ (Builtin.SmallTypes.nextOf (.ref i2) >>= _) _ _ _
  have q2' : S2 k h₃ := k2 _ _ _ (k2 _ _ _ q2 (fun o e => hs₂.extBut _ _ D.i12.symm e) (fun o e => hs₂.extBut _ _ D.l2i1 e)) (fun o e => hs₃.extBut _ _ D.TOi2.symm e) (fun o e => hs₃.extBut _ _ D.l2TO e)
  refine wpAny_bind (n2 _ _ _ _ q2' fun h₄ h2₄ hs₄ => wpAny_pure ?_)
  have hTO₄ : IsPair h₄ TO x b := hs₄.extBut _ _ D.TOi2 hTO₃
  refine wpAny_bind (wpAny_seqItems hTO₄ rfl ?_)
  refine wpAny_bind (wpAny_updateSeq_pair hTO₄ fun h₅ hTO₅ hs₅ => ?_)
  replace hTO₅ : IsPair h₅ TO x y := hTO₅
  refine wpAny_bind (wpAny_letGo (wpAny_pure (wpAny_pure ?_)))
  refine wpAny_bind (wpAny_seqItems hTO₅ rfl ?_)
  refine wpAny_bind (wpAny_newTuple ?_)
  have hsz : h₅.objs.size = s.heap.objs.size := by rw [hs₅.1, hs₄.1, hs₃.1, hs₂.1, hs₁.1]
  have hz₅ : IsZip h₅ z TI TO .ellipsis := hs₅.extBut _ _ D.TOz.symm (hs₄.extBut _ _ D.i2z.symm (hs₃.extBut _ _ D.TOz.symm (hs₂.extBut _ _ D.i1z.symm hz₁)))
  have hk₅ : ∀ c o, c ≠ z → c ≠ TO → c ≠ i1 → c ≠ i2 → s.heap.get? c = some o → h₅.get? c = some o := fun c o c1 c2 c3 c4 e =>
    hs₅.extBut _ _ c2 (hs₄.extBut _ _ c4 (hs₃.extBut _ _ c2 (hs₂.extBut _ _ c3 (hs₁.extBut _ _ c1 e))))
  have h1₅ : S1 (k + 1) h₅ := k1 _ _ _ (k1 _ _ _ (k1 _ _ _ h1₂ (fun o e => hs₃.extBut _ _ D.TOi1.symm e) (fun o e => hs₃.extBut _ _ D.l1TO e)) (fun o e => hs₄.extBut _ _ D.i12 e) (fun o e => hs₄.extBut _ _ D.l1i2 e)) (fun o e => hs₅.extBut _ _ D.TOi1.symm e) (fun o e => hs₅.extBut _ _ D.l1TO e)
  have h2₅ : S2 (k + 1) h₅ := k2 _ _ _ h2₄ (fun o e => hs₅.extBut _ _ D.TOi2.symm e) (fun o e => hs₅.extBut _ _ D.l2TO e)
  have hzlt : z < h₅.objs.size := Heap.lt_size hz₅
  show wpAny _ _ (Builtin.SmallTypes.ownedTupleHandOut (.ref z) (.ref h₅.objs.size) >>= _) _ _ _
  refine wpAny_bind ?_
  unfold Builtin.SmallTypes.ownedTupleHandOut
  have hz₆ : IsZip (h₅.push { cls := .type "tuple", data := .seq #[x, y] }) z TI TO .ellipsis := Heap.get?_push_of_some _ hz₅
  refine wpAny_bind (wpAny_setField_rec hz₆ (by simp) fun h₇ hz₇ hs₇ => ?_)
  replace hz₇ : IsZip h₇ z TI TO (rawInt h₅.objs.size) := hz₇
  refine wpAny_setField_rec hz₇ (by simp) fun h₈ hz₈ hs₈ => ?_
  replace hz₈ : IsZip h₈ z TI TO (rawInt h₅.objs.size) := hz₈
  have up : ∀ c o, c ≠ z → h₅.get? c = some o → h₈.get? c = some o := fun c o c1 e => hs₈.extBut _ _ c1 (hs₇.extBut _ _ c1 (Heap.get?_push_of_some _ e))
  have hT₈ : IsPair h₈ h₅.objs.size x y := hs₈.extBut _ _ (Nat.ne_of_gt hzlt) (hs₇.extBut _ _ (Nat.ne_of_gt hzlt) (Heap.get?_push_size _ rfl))
  have hz8 : h₈.objs.size = h₅.objs.size + 1 := by rw [hs₈.1, hs₇.1, Heap.size_push]
  rw [hsz] at hz₈ hT₈ hz8
  refine wpAny_pure ⟨_, rfl, ?_⟩
  show Q (.ref h₅.objs.size) _
  rw [hsz]
  exact hQ h₈ hz₈ (up _ _ D.TOz hTO₅) (k1 _ _ _ h1₅ (fun o e => up _ o D.i1z e) (fun o e => up _ o D.l1z e)) (k2 _ _ _ h2₅ (fun o e => up _ o D.i2z e) (fun o e => up _ o D.l2z e)) hT₈ hz8 fun c o c1 c2 c3 c4 e => up c o c1 (hk₅ c o c1 c2 c3 c4 e)
theorem zipN_end {z TI TO i1 i2 l1 l2 : Addr} {a b : Value} {Q : Fin → Shared → Prop} {S1 S2 : Nat → Heap → Prop} {k : Nat} (D : ZipApart z TI TO i1 i2 l1 l2)
    (hz : IsZip s.heap z TI TO .none) (hTI : IsPair s.heap TI (.ref i1) (.ref i2)) (hTO : IsPair s.heap TO a b)
    (k1 : ∀ n (h h' : Heap), S1 n h → (∀ o, h.get? i1 = some o → h'.get? i1 = some o) → (∀ o, h.get? l1 = some o → h'.get? l1 = some o) → S1 n h')
    (k2 : ∀ n (h h' : Heap), S2 n h → (∀ o, h.get? i2 = some o → h'.get? i2 = some o) → (∀ o, h.get? l2 = some o → h'.get? l2 = some o) → S2 n h')
    (hend : (∀ (s : Shared) (Q : Value → Shared → Prop) (E : Value → Shared → Prop), S1 k s.heap → (∀ h' e, Heap.ExtBut i1 s.heap h' → (∃ o, h'.get? e = some o ∧ o.cls = .type "StopIteration") → E (.ref e) { s with heap := h' }) → wpAny (model prog w) A.in1 (Builtin.SmallTypes.nextOf (.ref i1)) Q E s) ∨
      ((∃ x, ∀ (s : Shared) (Q : Value → Shared → Prop) (E : Value → Shared → Prop), S1 k s.heap → (∀ h', S1 (k + 1) h' → Heap.SameBut i1 s.heap h' → Q x { s with heap := h' }) → wpAny (model prog w) A.in1 (Builtin.SmallTypes.nextOf (.ref i1)) Q E s) ∧
        ∀ (s : Shared) (Q : Value → Shared → Prop) (E : Value → Shared → Prop), S2 k s.heap → (∀ h' e, Heap.ExtBut i2 s.heap h' → (∃ o, h'.get? e = some o ∧ o.cls = .type "StopIteration") → E (.ref e) { s with heap := h' }) → wpAny (model prog w) A.in1 (Builtin.SmallTypes.nextOf (.ref i2)) Q E s))
    (h1 : S1 k s.heap) (h2 : S2 k s.heap)
    (hE : ∀ h' e, (∀ c o, c ≠ z → c ≠ TO → c ≠ i1 → c ≠ i2 → s.heap.get? c = some o → h'.get? c = some o) → (∃ o, h'.get? e = some o ∧ o.cls = .type "StopIteration") → E (.ref e) { s with heap := h' }) :
    wpAny (model prog w) A.in1 (Builtin.«zip.__next__» ⟨[.ref z], []⟩) Q E s := by
  show wpAny _ _ (field (.ref z) 2 >>= _) _ _ _
  refine wpAny_bind (wpAny_field hz rfl (x := .bool false) rfl ?_)
  show wpAny _ _ (field (.ref z) 3 >>= _) _ _ _
  refine wpAny_bind (wpAny_field hz rfl (x := .ref TI) rfl ?_)
  refine wpAny_bind (wpAny_seqItems hTI rfl ?_)
  show wpAny _ _ (Builtin.SmallTypes.ownedTupleIsFree (.ref z) >>= _) _ _ _
  refine wpAny_bind ?_
  unfold Builtin.SmallTypes.ownedTupleIsFree
  refine wpAny_bind (wpAny_field hz rfl (x := .none) rfl (wpAny_pure ?_))
  simp only [if_true]
  refine wpAny_bind (wpAny_rule ?_)
  refine wpAny_bind (wpAny_field hz rfl (x := .ref TO) rfl ?_)
  refine wpAny_bind (wpAny_setField_rec hz (by simp) fun h₁ hz₁ hs₁ => ?_)
  replace hz₁ : IsZip h₁ z TI TO .ellipsis := hz₁
  refine wpAny_bind ?_
  simp only [List.zipIdx_cons, List.zipIdx_nil, List.forIn_cons, List.forIn_nil]
  refine wpAny_bind (wpAny_bind (wpAny_onRaise ?_))
  show wpAny _ _ (Builtin.SmallTypes.nextOf (.ref i1) >>= _) _ _ _
  have q1 : S1 k h₁ := k1 _ _ _ h1 (fun o e => hs₁.extBut _ _ D.i1z e) (fun o e => hs₁.extBut _ _ D.l1z e)
  have q2 : S2 k h₁ := k2 _ _ _ h2 (fun o e => hs₁.extBut _ _ D.i2z e) (fun o e => hs₁.extBut _ _ D.l2z e)
  rcases hend with n1 | ⟨⟨x, n1⟩, n2⟩
  · refine wpAny_bind (n1 _ _ _ q1 fun h₂ e hs₂ he => ?_)
    obtain ⟨oe, hoe, hce⟩ := he
    have hz₂ : IsZip h₂ z TI TO .ellipsis := hs₂ _ _ D.i1z.symm hz₁
    have hez : e ≠ z := fun x => by subst x; rw [hz₂] at hoe; cases hoe; simp at hce
    refine wpAny_setField_rec hz₂ (by simp) fun h₃ _ hs₃ => hE h₃ e (fun c o c1 _ c3 _ x => hs₃.extBut _ _ c1 (hs₂ _ _ c3 (hs₁.extBut _ _ c1 x))) ⟨oe, hs₃.extBut _ _ hez hoe, hce⟩
  · refine wpAny_bind (n1 _ _ _ q1 fun h₂ h1₂ hs₂ => wpAny_pure ?_)
    have hTO₂ : IsPair h₂ TO a b := hs₂.extBut _ _ D.TOi1 (hs₁.extBut _ _ D.TOz hTO)
    refine wpAny_bind (wpAny_seqItems hTO₂ rfl ?_)
    refine wpAny_bind (wpAny_updateSeq_pair hTO₂ fun h₃ hTO₃ hs₃ => ?_)
    refine wpAny_bind (wpAny_letGo (wpAny_pure ?_))
    refine wpAny_bind (wpAny_bind (wpAny_onRaise ?_))
    show wpAny _ _ (Builtin.SmallTypes.nextOf (.ref i2) >>= _) _ _ _
    have q2' : S2 k h₃ := k2 _ _ _ (k2 _ _ _ q2 (fun o e => hs₂.extBut _ _ D.i12.symm e) (fun o e => hs₂.extBut _ _ D.l2i1 e)) (fun o e => hs₃.extBut _ _ D.TOi2.symm e) (fun o e => hs₃.extBut _ _ D.l2TO e)
    refine wpAny_bind (n2 _ _ _ q2' fun h₄ e hs₄ he => ?_)
    obtain ⟨oe, hoe, hce⟩ := he
    have hz₄ : IsZip h₄ z TI TO .ellipsis := hs₄ _ _ D.i2z.symm (hs₃.extBut _ _ D.TOz.symm (hs₂.extBut _ _ D.i1z.symm hz₁))
    have hez : e ≠ z := fun x => by subst x; rw [hz₄] at hoe; cases hoe; simp at hce
    refine wpAny_setField_rec hz₄ (by simp) fun h₅ _ hs₅ => hE h₅ e (fun c o c1 c2 c3 c4 x => hs₅.extBut _ _ c1 (hs₄ _ _ c4 (hs₃.extBut _ _ c2 (hs₂.extBut _ _ c3 (hs₁.extBut _ _ c1 x))))) ⟨oe, hs₅.extBut _ _ hez hoe, hce⟩
def TupIt (l : Addr) (it : Addr) (items : Array Value) (n : Nat) (h : Heap) : Prop := h.IsTupleIter it l n ∧ h.IsTuple l items
theorem TupIt.keep {l it : Addr} {items : Array Value} (n : Nat) (h h' : Heap) (x : TupIt l it items n h) (a : ∀ o, h.get? it = some o → h'.get? it = some o) (b : ∀ o, h.get? l = some o → h'.get? l = some o) : TupIt l it items n h' :=
  ⟨x.1.at a, by obtain ⟨o, e, r⟩ := x.2; exact ⟨o, b _ e, r⟩⟩
theorem zipT_next {z TI TO i1 i2 l1 l2 : Addr} {k : Nat} {xs ys : Array Value} {x y a b : Value} {Q : Option Value → Shared → Prop} (D : ZipApart z TI TO i1 i2 l1 l2)
    (hz : IsZip s.heap z TI TO .none) (hTI : IsPair s.heap TI (.ref i1) (.ref i2)) (hTO : IsPair s.heap TO a b)
    (h1 : s.heap.IsTupleIter i1 l1 k) (h2 : s.heap.IsTupleIter i2 l2 k) (hl1 : s.heap.IsTuple l1 xs) (hl2 : s.heap.IsTuple l2 ys) (hx : xs[k]? = some x) (hy : ys[k]? = some y)
    (hQ : ∀ h', IsZip h' z TI TO (rawInt s.heap.objs.size) → IsPair h' TO x y → h'.IsTupleIter i1 l1 (k + 1) → h'.IsTupleIter i2 l2 (k + 1) → IsPair h' s.heap.objs.size x y → h'.objs.size = s.heap.objs.size + 1 →
      (∀ c o, c ≠ z → c ≠ TO → c ≠ i1 → c ≠ i2 → s.heap.get? c = some o → h'.get? c = some o) → Q (some (.ref s.heap.objs.size)) { s with heap := h' }) :
    wpAny (model prog w) A (pyNext (.ref z)) Q E s := by
  have hT : s.TypeIs (.ref z) "zip" := ⟨_, hz, rfl⟩
  unfold pyNext
  refine wpAny_bind (wpAny_attempt (wpAny_callSpecial?_slot (name := Str.ofString "__next__") hT F.slot_zip_next
    (wpAny_call_entry F.slot_zip_next hT F.entry_zip_next
      (zipN_item (S1 := TupIt l1 i1 xs) (S2 := TupIt l2 i2 ys) D hz hTI hTO TupIt.keep TupIt.keep (fun n h x => by obtain ⟨_, e, _⟩ := x.1; exact Heap.lt_size e) (fun n h x => by obtain ⟨_, e, _⟩ := x.1; exact Heap.lt_size e)
        (fun s A Q E st q => nextT_item st.1 st.2 hx fun h' a1 a2 => q h' ⟨a1, st.2.extBut a2.extBut (?ne1 : l1 ≠ i1)⟩ a2) (fun s A Q E st q => nextT_item st.1 st.2 hy fun h' a1 a2 => q h' ⟨a1, st.2.extBut a2.extBut (?ne2 : l2 ≠ i2)⟩ a2) ⟨h1, hl1⟩ ⟨h2, hl2⟩
        fun h' a1 a2 a3 a4 a5 a6 a7 => wpAny_pure (hQ h' a1 a2 a3.1 a4.1 a5 a6 a7)) (F.args_zip_next_1 _))))
  exact D.l1i1
  exact D.l2i2
theorem zipT_end {z TI TO i1 i2 l1 l2 : Addr} {k : Nat} {xs ys : Array Value} {a b : Value} {Q : Option Value → Shared → Prop} (hh : A.handled = none) (D : ZipApart z TI TO i1 i2 l1 l2)
    (hz : IsZip s.heap z TI TO .none) (hTI : IsPair s.heap TI (.ref i1) (.ref i2)) (hTO : IsPair s.heap TO a b)
    (h1 : s.heap.IsTupleIter i1 l1 k) (h2 : s.heap.IsTupleIter i2 l2 k) (hl1 : s.heap.IsTuple l1 xs) (hl2 : s.heap.IsTuple l2 ys) (hend : xs[k]? = none ∨ ys[k]? = none)
    (hQ : ∀ h', (∀ c o, c ≠ z → c ≠ TO → c ≠ i1 → c ≠ i2 → s.heap.get? c = some o → h'.get? c = some o) → Q none { s with heap := h' }) : wpAny (model prog w) A (pyNext (.ref z)) Q E s := by
  have hT : s.TypeIs (.ref z) "zip" := ⟨_, hz, rfl⟩
  have hi : A.in1.handled = none := hh
  unfold pyNext
  refine wpAny_bind (wpAny_attempt (wpAny_callSpecial?_slot (name := Str.ofString "__next__") hT F.slot_zip_next
    (wpAny_call_entry F.slot_zip_next hT F.entry_zip_next (zipN_end (S1 := TupIt l1 i1 xs) (S2 := TupIt l2 i2 ys) D hz hTI hTO TupIt.keep TupIt.keep ?_ ⟨h1, hl1⟩ ⟨h2, hl2⟩ fun h' e hk he => ?_) (F.args_zip_next_1 _))))
  · cases hx : xs[k]? with
    | none => exact .inl fun s Q E st q => nextT_end hi st.1 st.2 hx q
    | some x =>
      have hy : ys[k]? = none := by rcases hend with h | h; rw [hx] at h; cases h; exact h
      exact .inr ⟨⟨x, fun s Q E st q => nextT_item st.1 st.2 hx fun h' a1 a2 => q h' ⟨a1, st.2.extBut a2.extBut D.l1i1⟩ a2⟩, fun s Q E st q => nextT_end hi st.1 st.2 hy q⟩
  · obtain ⟨o, ho, hc⟩ := he
    refine wpAny_bind (wpAny_isInstance (T := "StopIteration") (b := true) ⟨o, ho, hc⟩ isSubtype_stop ?_)
    exact wpAny_pure (hQ _ hk)
end
end L2
set_option Elab.async false
set_option linter.all false
set_option maxRecDepth 100000
namespace L2
open PySem PySem.Spec PyProof.Rows
abbrev zt1 (h : Heap) (l1 : Addr) : Heap := h.push { cls := .type "tuple_iterator", data := .fields #[.ref l1, .int 0 0] }
abbrev zt2 (h : Heap) (l1 l2 : Addr) : Heap := (zt1 h l1).push { cls := .type "tuple_iterator", data := .fields #[.ref l2, .int 0 0] }
abbrev zt3 (h : Heap) (l1 l2 : Addr) : Heap := (zt2 h l1 l2).push { cls := .type "tuple", data := .seq #[.ref h.objs.size, .ref (zt1 h l1).objs.size] }
abbrev zt4 (h : Heap) (l1 l2 : Addr) : Heap := (zt3 h l1 l2).push { cls := .type "tuple", data := .seq #[.none, .none] }
abbrev zt5 (h : Heap) (l1 l2 : Addr) : Heap := (zt4 h l1 l2).push { cls := .type "zip", data := .fields #[.none, .bool false, .bool false, .ref (zt2 h l1 l2).objs.size, .ref (zt3 h l1 l2).objs.size] }
theorem meets_zipT (l1 l2 : Addr) (xs ys : Array Value) :
    Meets (Builtin.«zip.__new__» ⟨[.type "zip", .ref l1, .ref l2], []⟩) (fun _ R s => s.heap.IsTuple l1 xs ∧ s.heap.IsTuple l2 ys ∧ R (.ok (.ret (.ref (zt4 s.heap l1 l2).objs.size))) { s with heap := zt5 s.heap l1 l2 }) :=
  .of_wp fun prog w A R s h => by
    obtain ⟨hp, g, d, tk, os⟩ := s; obtain ⟨hl1, hl2, h⟩ := h
    have hsub := sub_zip
    have hL1 : Heap.IsTuple (Shared.heap ⟨hp, g, d, tk, os⟩) l1 xs := hl1
    have hL2 : Heap.IsTuple (Shared.heap ⟨hp.push { cls := .type "tuple_iterator", data := .fields #[.ref l1, .int 0 0] }, g, d, tk, os⟩) l2 ys := Heap.IsTuple.push hl2 _
    wp_walk using wpAny_pyIter_tuple hL1, wpAny_pyIter_tuple hL2
    exact ⟨_, rfl, h⟩
section
variable {prog : Program} {w : World} {A : Around} {E : Value → Shared → Prop} {s : Shared}
theorem call_zipT {l1 l2 : Addr} {xs ys : Array Value} {Q : Value → Shared → Prop} (hl1 : s.heap.IsTuple l1 xs) (hl2 : s.heap.IsTuple l2 ys)
    (h : ∀ h', IsZip h' (s.heap.objs.size + 4) (s.heap.objs.size + 2) (s.heap.objs.size + 3) .none → IsPair h' (s.heap.objs.size + 2) (.ref s.heap.objs.size) (.ref (s.heap.objs.size + 1)) →
      IsPair h' (s.heap.objs.size + 3) .none .none → h'.IsTupleIter s.heap.objs.size l1 0 → h'.IsTupleIter (s.heap.objs.size + 1) l2 0 → h'.objs.size = s.heap.objs.size + 5 →
      (∀ c o, s.heap.get? c = some o → h'.get? c = some o) → Q (.ref (s.heap.objs.size + 4)) { s with heap := h' }) :
    wpAny (model prog w) A (call (.type "zip") [.ref l1, .ref l2]) Q E s := by
  refine callType_new F.called_zip (by decide) (F.typeCall_zip_2 _ _) (F.newCall_zip_2 _ _) (fun obj => F.args_object_init_3 obj _ _) F.entry_zip_new
    (meets_zipT l1 l2 xs ys) ⟨hl1, hl2, ?_⟩
  have z1 : (zt1 s.heap l1).objs.size = s.heap.objs.size + 1 := Heap.size_push ..
  have z2 : (zt2 s.heap l1 l2).objs.size = s.heap.objs.size + 2 := by rw [Heap.size_push, z1]
  have z3 : (zt3 s.heap l1 l2).objs.size = s.heap.objs.size + 3 := by rw [Heap.size_push, z2]
  have z4 : (zt4 s.heap l1 l2).objs.size = s.heap.objs.size + 4 := by rw [Heap.size_push, z3]
  have z5 : (zt5 s.heap l1 l2).objs.size = s.heap.objs.size + 5 := by rw [Heap.size_push, z4]
  have g5 : (zt5 s.heap l1 l2).get? (zt4 s.heap l1 l2).objs.size = some _ := Heap.get?_push_size _ rfl
  have g4 : (zt5 s.heap l1 l2).get? (zt3 s.heap l1 l2).objs.size = some _ := Heap.get?_push_of_some _ (Heap.get?_push_size _ rfl)
  have g3 : (zt5 s.heap l1 l2).get? (zt2 s.heap l1 l2).objs.size = some _ := Heap.get?_push_of_some _ (Heap.get?_push_of_some _ (Heap.get?_push_size _ rfl))
  have g2 : (zt5 s.heap l1 l2).get? (zt1 s.heap l1).objs.size = some _ := Heap.get?_push_of_some _ (Heap.get?_push_of_some _ (Heap.get?_push_of_some _ (Heap.get?_push_size _ rfl)))
  have g1 : (zt5 s.heap l1 l2).get? s.heap.objs.size = some _ := Heap.get?_push_of_some _ (Heap.get?_push_of_some _ (Heap.get?_push_of_some _ (Heap.get?_push_of_some _ (Heap.get?_push_size _ rfl))))
  show _ ∧ _
  rw [z2, z3, z4] at g5
  rw [z1, z2] at g3
  rw [z3] at g4
  rw [z1] at g2
  rw [z4]
  exact ⟨⟨_, g5, rfl⟩, h _ g5 g3 g4 ⟨_, g1, rfl, rfl⟩ ⟨_, g2, rfl, rfl⟩ z5 fun c o x =>
    Heap.get?_push_of_some _ (Heap.get?_push_of_some _ (Heap.get?_push_of_some _ (Heap.get?_push_of_some _ (Heap.get?_push_of_some _ x))))⟩
end
def ItzT (K : PySem.W.Frag) (a b : Addr) : It :=
  ⟨fun i H => ∃ xs ys x y, SqT K H a xs ∧ SqT K H b ys ∧ xs[i]? = some x ∧ ys[i]? = some y,
   fun i H v H' => ∃ p x y, v = .ref p ∧ H p = none ∧ H' = upd H p (.tup [x, y]) ∧ (∀ xs, SqT K H a xs → xs[i]? = some x) ∧ ∀ ys, SqT K H b ys → ys[i]? = some y,
   fun i H => ∃ xs ys, SqT K H a xs ∧ SqT K H b ys ∧ (xs.length ≤ i ∨ ys.length ≤ i)⟩
theorem turn_zipT {P : Program} {w : World} {K : PySem.W.Frag} {elts : List Expr} {cx} {pos : Pos} {z TI TO i1 i2 l1 l2 : Addr} (D : ZipApart z TI TO i1 i2 l1 l2) :
    Turn P w K (.Tuple elts cx pos) (ItzT K l1 l2) [z, TI, TO, i1, i2] z (fun i h => IsZip h z TI TO .none ∧ IsPair h TI (.ref i1) (.ref i2) ∧ (∃ a b, IsPair h TO a b) ∧ h.IsTupleIter i1 l1 i ∧ h.IsTupleIter i2 l2 i) where
  mem := by simp
  obj := fun i h st b hb => by
    obtain ⟨hz, hTI, ⟨a, c, hTO⟩, ⟨o1, g1, c1, d1⟩, ⟨o2, g2, c2, d2⟩⟩ := st
    simp only [List.mem_cons, List.not_mem_nil, or_false] at hb
    rcases hb with rfl | rfl | rfl | rfl | rfl
    · exact ⟨_, hz, fun v e => by cases e⟩
    · exact ⟨_, hTI, fun v e => by cases e⟩
    · exact ⟨_, hTO, fun v e => by cases e⟩
    · exact ⟨_, g1, fun v e => by rw [d1] at e; cases e⟩
    · exact ⟨_, g2, fun v e => by rw [d2] at e; cases e⟩
  keep := fun i h h' st k => by
    obtain ⟨hz, hTI, ⟨a, c, hTO⟩, h1, h2⟩ := st
    exact ⟨k z (by simp) _ hz, k TI (by simp) _ hTI, ⟨a, c, k TO (by simp) _ hTO⟩, h1.at fun o e => k i1 (by simp) o e, h2.at fun o e => k i2 (by simp) o e⟩
  item := by
    intro X hP hw hK hc i pins s σ H E I hf st hg
    subst hP hw hK
    obtain ⟨hz, hTI, ⟨a, c, hTO⟩, h1, h2⟩ := st
    obtain ⟨xs, ys, x, y, q1, q2, hx, hy⟩ := hg
    obtain ⟨us, r1, p1, _⟩ := I.tuple q1
    obtain ⟨vs, r2, p2, _⟩ := I.tuple q2
    obtain ⟨u, hu, ru⟩ := r1.get hx
    obtain ⟨v, hv, rv⟩ := r2.get hy
    have lt : ∀ b ∈ [z, TI, TO, i1, i2], b < s.heap.objs.size := fun b hb => by
      obtain ⟨o1, g1, _, _⟩ := id h1
      obtain ⟨o2, g2, _, _⟩ := id h2
      simp only [List.mem_cons, List.not_mem_nil, or_false] at hb
      rcases hb with rfl | rfl | rfl | rfl | rfl
      · exact Heap.lt_size hz
      · exact Heap.lt_size hTI
      · exact Heap.lt_size hTO
      · exact Heap.lt_size g1
      · exact Heap.lt_size g2
    refine zipT_next D hz hTI hTO h1 h2 (show s.heap.IsTuple l1 us.toArray from p1) (show s.heap.IsTuple l2 vs.toArray from p2) (x := u) (y := v) (by simpa using hu) (by simpa using hv) fun h' hz' hTO' h1' h2' hT hsz hk => ?_
    refine ⟨_, rfl, wpAny_letOwnedTupleGo_zip (s := { s with heap := h' }) hz' fun h3 hz3 sb => ?_⟩
    have hfr : H s.heap.objs.size = none := I.hok.fresh (Nat.le_refl _)
    have up : ∀ b o, b ≠ z → h'.get? b = some o → h3.get? b = some o := fun b o hb e => (sb.2 b hb).trans e
    have IA : Inv X pins σ (upd H s.heap.objs.size (.tup [x, y])) { s with heap := s.heap.push { cls := .type "tuple", data := .seq #[u, v] }, toks := s.toks } :=
      I.laid (fun b o e => Heap.get?_push_of_some _ e) (Nat.le_refl _) ⟨by simp only [List.length_cons, List.length_nil, sizeLine]; omega, [u, v], .cons ru (.cons rv .nil), ⟨_, Heap.get?_push_size _ rfl, rfl, _, rfl⟩⟩
    have IB : Inv X pins σ (upd H s.heap.objs.size (.tup [x, y])) { s with heap := h3 } := by
      refine Inv.turnedL (s := { s with heap := s.heap.push { cls := .type "tuple", data := .seq #[u, v] }, toks := s.toks }) (h' := h3) (t' := s.toks) (fp := [z, TI, TO, i1, i2]) IA (fun b o hb e => ?_) (fun b hb => ?_)
      · simp only [List.mem_cons, List.not_mem_nil, or_false, not_or] at hb
        obtain ⟨b1, b2, b3, b4, b5⟩ := hb
        refine up b o b1 ?_
        by_cases eb : b = s.heap.objs.size
        · subst eb
          have e' : (s.heap.push { cls := .type "tuple", data := .seq #[u, v] }).get? s.heap.objs.size = some { cls := .type "tuple", data := .seq #[u, v] } := Heap.get?_push_size _ rfl
          rw [e'] at e
          cases e
          exact hT
        · have e0 : (s.heap.push { cls := .type "tuple", data := .seq #[u, v] }).get? b = s.heap.get? b := Heap.get?_push_ne _ _ _ eb
          have e1 : s.heap.get? b = some o := e0 ▸ e
          exact hk b o b1 b3 b4 b5 e1
      · obtain ⟨f0, f1⟩ := hf b hb
        exact ⟨by rw [upd_ne (fun e => absurd (lt b hb) (by rw [e]; exact Nat.lt_irrefl _))]; exact f0, f1⟩
    refine ⟨.ref s.heap.objs.size, _, IB, rfl, ⟨_, x, y, rfl, hfr, rfl, fun xs' h => by rw [I.tuple_inj h q1]; exact hx, fun ys' h => by rw [I.tuple_inj h q2]; exact hy⟩, ⟨hz3, up _ _ D.TIz (hk TI _ D.TIz D.TITO D.TIi1 D.TIi2 hTI), ⟨_, _, up _ _ D.TOz hTO'⟩, h1'.at fun o e => up i1 o D.i1z e, h2'.at fun o e => up i2 o D.i2z e⟩, fun b hb => ?_⟩
    rw [upd_ne (fun e => absurd (lt b hb) (by rw [e]; exact Nat.lt_irrefl _))]
    exact (hf b hb).1
  done := by
    intro X hP hw hK hc i pins s σ H E I hf st hg
    subst hP hw hK
    obtain ⟨hz, hTI, ⟨a, c, hTO⟩, h1, h2⟩ := st
    obtain ⟨xs, ys, q1, q2, he⟩ := hg
    obtain ⟨us, r1, p1, _⟩ := I.tuple q1
    obtain ⟨vs, r2, p2, _⟩ := I.tuple q2
    have l1 := r1.length
    have l2 := r2.length
    refine zipT_end (I.ok.hd hc) D hz hTI hTO h1 h2 (show s.heap.IsTuple _ us.toArray from p1) (show s.heap.IsTuple _ vs.toArray from p2) (he.imp (fun h => by simp; omega) (fun h => by simp; omega)) fun h' hk => ⟨rfl, ?_⟩
    refine Inv.turnedL (t' := s.toks) (fp := [z, TI, TO, i1, i2]) I (fun b o hb e => ?_) hf
    simp only [List.mem_cons, List.not_mem_nil, or_false, not_or] at hb
    exact hk b o hb.1 hb.2.2.1 hb.2.2.2.1 hb.2.2.2.2 e
  self := fun _ _ _ _ _ st h => wpAny_pyIter_zip st.1 h
def iZipT (K : PySem.W.Frag) (ta : TA) : TI := fun σ H R => ta σ H fun vs H1 => ∃ a b xs ys, vs = [.ref a, .ref b] ∧ SqT K H1 a xs ∧ SqT K H1 b ys ∧ R (ItzT K a b) H1
section
variable {X : Cx}
theorem pi_zipT {elts : List Expr} {cx} {tp : Pos} {a b : Expr} {ta : TA} {p pos : Pos} (hg : Gl X "zip") (hm : X.mg "zip" = none) (ha : PA X [a, b] ta) (hs : starEach [a, b] X.env = [(false, eval a X.env), (false, eval b X.env)] := by rfl) (hs2 : starEach [b] X.env = [(false, eval b X.env)] := by rfl) :
    PI X (.Tuple elts cx tp) (.Call (.Name "zip" p) [a, b] [] pos) (iZipT X.K ta) := by
  intro pins s σ H R I h
  refine Call_ (ld_blt I hg hm boot_zip (PyProof.Rows.callWith_type1 (thn (ha pos pins s σ H _ I h) fun us s1 ⟨vs, H1, I1, r1, q1⟩ => ?_) (by rw [hs, hs2]) (by rw [hs2]; rfl)))
  obtain ⟨l1, l2, xs, ys, e, g1, g2, q⟩ := q1
  subst e
  cases r1 with
  | cons r rr =>
    cases rr with
    | cons r' rr =>
      cases rr
      cases r
      cases r'
      obtain ⟨us, rv1, p1, _⟩ := I1.tuple g1
      obtain ⟨vs, rv2, p2, _⟩ := I1.tuple g2
      have k1 : l1 < s1.heap.objs.size := by obtain ⟨o, e, _⟩ := id p1; exact Heap.lt_size e
      have k2 : l2 < s1.heap.objs.size := by obtain ⟨o, e, _⟩ := id p2; exact Heap.lt_size e
      refine call_zipT (show s1.heap.IsTuple l1 us.toArray from p1) (show s1.heap.IsTuple l2 vs.toArray from p2) fun h' hz hTI hTO h1 h2 hsz hk => ?_
      refine wpAny_pyIter_zip hz ?_
      have D : ZipApart (s1.heap.objs.size + 4) (s1.heap.objs.size + 2) (s1.heap.objs.size + 3) s1.heap.objs.size (s1.heap.objs.size + 1) l1 l2 := zipApart_of k1 k2
      refine ⟨s1.heap.objs.size + 4, [s1.heap.objs.size + 4, s1.heap.objs.size + 2, s1.heap.objs.size + 3, s1.heap.objs.size, s1.heap.objs.size + 1], _, _, H1, rfl, I1.kept (t' := s1.toks) hk, turn_zipT D, ⟨hz, hTI, ⟨_, _, hTO⟩, h1, h2⟩, fun b hb => ?_, q⟩
      have hb' : s1.heap.objs.size ≤ b := by
        simp only [List.mem_cons, List.not_mem_nil, or_false] at hb
        rcases hb with rfl | rfl | rfl | rfl | rfl
        · exact Nat.le_add_right _ _
        · exact Nat.le_add_right _ _
        · exact Nat.le_add_right _ _
        · exact Nat.le_refl _
        · exact Nat.le_add_right _ _
      exact I1.fpOk hb' (I1.hok.fresh hb')
end
def compNs2 (x y : Str) (fr : List (Str × Nat)) : List Str := x :: y :: fr.map (·.1)
structure Blk2 (X : Cx) (scope : Scope) (x y : Str) (fr : List (Str × Nat)) : Prop where
  b : Blk X scope x fr
  here2 : scope.names.lookup y = some .local
  nd2 : (compNs2 x y fr).Nodup
section
variable {X : Cx} {scope : Scope} {x y : Str} {fr : List (Str × Nat)} {pins : List (Addr × Obj)} {σ : St} {H : Hp} {s : Shared}
theorem inv_comp2 (I : Inv X pins σ H s) (B2 : Blk2 X scope x y fr) {C : Addr} {fp : List Addr} {h₁ : Heap} {tk : Nat} (hC : s.heap.objs.size ≤ C) (hfp : ∀ b ∈ fp, FpOk X pins H b) (hlt : ∀ b ∈ fp, b < s.heap.objs.size)
    (old : ∀ b ob, s.heap.get? b = some ob → h₁.get? b = some ob) (hns : h₁.Ns C fun _ => none) : Inv (cxComp X scope (compNs2 x y fr) s H C fp) [] (none :: none :: compRest σ fr) H { s with heap := h₁, toks := tk } := by
  have I0 := inv_comp (tk := tk) (o := none) I B2.b hC hfp hlt old hns
  obtain ⟨ok, os, bare, base, loc, cell, free, freeC, pin, hok, len⟩ := I0
  refine ⟨⟨ok.mod, ok.kind, ok.glob, ok.blt, ok.above, ok.inj, ok.has, ok.cab, ok.hd, ok.frames, ok.stk, ok.exf, ok.bs, ok.bsz, ok.noex, ok.exfs, ok.funs, ok.frf⟩, os, bare, base, ?_, cell, free, freeC, pin, hok, ?_⟩
  · obtain ⟨m, hn, hl⟩ := loc
    refine ⟨m, hn, fun i z v h1 h2 h3 => ?_⟩
    cases i with
    | zero => simp at h2
    | succ i =>
      cases i with
      | zero => simp at h2
      | succ i =>
        refine hl (i + 1) z v ?_ ?_ h3
        · have e : (x :: y :: fr.map (·.1))[i + 1 + 1]? = some z := h1
          rw [List.getElem?_cons_succ, List.getElem?_cons_succ] at e
          show (x :: fr.map (·.1))[i + 1]? = some z
          rw [List.getElem?_cons_succ]
          exact e
        · have e : (none :: none :: compRest σ fr)[i + 1 + 1]? = some (some v) := h2
          rw [List.getElem?_cons_succ, List.getElem?_cons_succ] at e
          rw [List.getElem?_cons_succ]
          exact e
  · show _ = (compNs2 x y fr).length
    simp [compNs2, compRest]
def tLC2 (K : PySem.W.Frag) (fr : List (Str × Nat)) (wi : TI) (tc : TT) (te : TE) : TE := fun σ H Q => wi σ H fun J H1 => ∃ W : Nat → Nat → List V → Hp → Prop, (∃ m, W 0 m [] H1) ∧ ∀ i m ys H2, W i m ys H2 → ys.length < sizeLine ∧
  ((J.stop i H2 ∧ ∀ D, H2 D = none → Q (.ref D) (upd H2 D (.lst ys))) ∨
    (J.go i H2 ∧ ∀ v H3, J.yld i H2 v H3 → ∃ p v1 v2, v = .ref p ∧ SqT K H3 p [v1, v2] ∧ tc (some v1 :: some v2 :: compRest σ fr) H3 fun b H4 =>
      if b = true then te (some v1 :: some v2 :: compRest σ fr) H4 fun y H5 => ∃ m', m' < m ∧ W (i + 1) m' (ys ++ [y]) H5 else ∃ m', m' < m ∧ W (i + 1) m' ys H4))
end
section
variable {X : Cx}
theorem pe_lc2 {elt iter : Expr} {x y : Str} {px py tp : Pos} {kx : Nat} {ifs : List Expr} {scope : Scope} {pos : Pos} {fr : List (Str × Nat)} {wi : TI} {tc : TT} {te : TE} (hc : X.calm = true) (B2 : Blk2 X scope x y fr)
    (hi : PI X (.Tuple [.Name x px, .Name y py] kx tp) iter wi) (ht : ∀ s₂ H₂ C fp, PIf (cxComp X scope (compNs2 x y fr) s₂ H₂ C fp) ifs tc) (he : ∀ s₂ H₂ C fp, PE (cxComp X scope (compNs2 x y fr) s₂ H₂ C fp) elt te)
    (hs : ∀ v, foldedSetIterable iter X.env v = pure v := by intro _; rfl) : PE X (.ListComp elt [⟨.Tuple [.Name x px, .Name y py] kx tp, iter, ifs, 0⟩] scope pos) (tLC2 X.K fr wi tc te) := by
  intro pins s σ H Q I h
  have B := B2.b
  rw [eval_ListComp]
  have hclos := clo_eq (scope := scope) (env := X.env) (B.clos I.ok)
  refine wpAny_comprehension_free (use := none) rfl hs hclos B.kind B.loc (thn (hi pins s σ H _ I h) fun v s1 h1 => thn h1 fun itv s2 h2 => ?_)
  obtain ⟨it, fp, tn, J, H2, rfl, I2, T, st2, f2, W, ⟨m0, w0⟩, turn⟩ := h2
  refine wpAny_newObj_type (wpAny_newFunctionEnv B.cell (by intro y hy; simp at hy) (fun h₁ hns hsb => ?_) B.kind)
  dsimp only at hns hsb ⊢
  generalize hG : s2.heap.push { cls := .type "list", dict := none, data := .seq ([] : List Value).toArray } = G at hns hsb ⊢
  have hC : G.objs.size = s2.heap.objs.size + 1 := by rw [← hG, Heap.size_push]
  have hDC : s2.heap.objs.size ≠ G.objs.size := by omega
  have old : ∀ b ob, s2.heap.get? b = some ob → h₁.get? b = some ob := fun b ob e => by
    have hb := Heap.lt_size e
    refine hsb.extBut b ob (Nat.ne_of_lt (by rw [hC]; exact Nat.lt_succ_of_lt hb)) (Heap.get?_push_of_some _ ?_)
    rw [← hG]
    exact Heap.get?_push_of_some _ e
  have hacc : h₁.get? s2.heap.objs.size = some { cls := .type "list", data := .seq ([] : List Value).toArray 0 } := by
    refine hsb.extBut _ _ hDC (Heap.get?_push_of_some _ ?_)
    rw [← hG]
    exact Heap.get?_push_size _ rfl
  have hlt : ∀ b ∈ fp, b < s2.heap.objs.size := fun b hb => by
    obtain ⟨o, e, _⟩ := T.obj 0 _ st2 b hb
    exact Heap.lt_size e
  have I4 := inv_comp2 (tk := s2.toks + ([] : List (Str × Value)).length) I2 B2 (show s2.heap.objs.size ≤ G.objs.size by omega) f2 hlt old hns
  have tn4 : tn 0 h₁ := T.keep 0 _ _ st2 fun b _ o e => old b o e
  have Dfs : s2.heap.objs.size ∉ frs X.stack := fun z => by
    obtain ⟨_, o, ho, _⟩ := I2.stack.mem z
    exact absurd (Heap.lt_size ho) (Nat.lt_irrefl _)
  have Dcl : ∀ y c, X.env.cells.lookup y = some c → c ≠ s2.heap.objs.size := fun y c e => by
    obtain ⟨v, o, ho, _⟩ := I2.cell y c e
    exact Nat.ne_of_lt (Heap.lt_size ho)
  have DL : s2.heap.objs.size ≠ X.env.locals := Nat.ne_of_gt I2.lt
  have Dfp : s2.heap.objs.size ∉ fp := fun z => absurd (hlt _ z) (Nat.lt_irrefl _)
  have loop : ∀ s₃ : Shared, s₃ = { s2 with heap := h₁, toks := s2.toks + ([] : List (Str × Value)).length } →
      codeAny (model X.prog X.w) X.A (.compLoop (.ListComp elt [⟨.Tuple [.Name x px, .Name y py] kx tp, iter, ifs, 0⟩] scope pos) 0 (.ref it) (.ref s2.heap.objs.size) (compEnvC scope (cloOf X.env.cells scope.names []) G.objs.size X.env))
        (compPost (model X.prog X.w) X.A X.xe none (EP X pins σ Q) (.ref s2.heap.objs.size) G.objs.size) s₃ := by
    rintro s₃ rfl
    refine comp_loop
      (fun n s' => ∃ i o1 o2 H' ys its k, Inv (cxComp X scope (compNs2 x y fr) s2 H2 G.objs.size fp) [] (o1 :: o2 :: compRest σ fr) H' s' ∧ tn i s'.heap ∧ (∀ b ∈ fp, H' b = none) ∧ H' s2.heap.objs.size = none ∧
        s'.heap.get? s2.heap.objs.size = some { cls := .type "list", data := .seq (its : List Value).toArray k } ∧ Vals ys its ∧ W i n ys H') ?_ m0
      ⟨0, none, none, H2, [], [], 0, I4, tn4, fun b hb => (f2 b hb).1, I2.hok.fresh (Nat.le_refl _), hacc, .nil, w0⟩
    rintro n s5 ⟨i, o1, o2, H5, ys, its, k, I5, st5, fr5, D5, hD5, r5, w5⟩
    have fok : ∀ {H' : Hp}, (∀ b ∈ fp, H' b = none) → ∀ b ∈ fp, FpOk (cxComp X scope (compNs2 x y fr) s2 H2 G.objs.size fp) [] H' b := fun hn b hb =>
      ⟨hn b hb, (I5.ok.exf b hb).1, I5.ok.exfs b hb, .inl hb, (I5.ok.exf b hb).2, fun p hp => absurd (show p ∈ ([] : List (Addr × Obj)) from hp) (by simp)⟩
    have dok : ∀ {H' : Hp}, H' s2.heap.objs.size = none → FpOk (cxComp X scope (compNs2 x y fr) s2 H2 G.objs.size fp) [] H' s2.heap.objs.size := fun hn =>
      ⟨hn, hDC, Dfs, .inr (Nat.le_refl _), fun y c e => Dcl y c (B.sub I2.ok _ _ e), fun p hp => absurd (show p ∈ ([] : List (Addr × Obj)) from hp) (by simp)⟩
    obtain ⟨hz, alt⟩ := turn i n ys H5 w5
    have hzl : its.length ≤ sizeLine := by rw [← r5.length]; exact Nat.le_of_lt hz
    rcases alt with ⟨stop, fin⟩ | ⟨go, step⟩
    · refine thn (T.done (cxComp X scope (compNs2 x y fr) s2 H2 G.objs.size fp) rfl rfl rfl hc i (pinsAt [s2.heap.objs.size] s5.heap) s5 (o1 :: o2 :: compRest σ fr) H5 _ ?_ (fun b hb => ?_) st5 stop) fun r s6 ⟨hr, I6⟩ => ?_
      · exact (Inv.pinned I5 (fp := [s2.heap.objs.size]) (fun b hb => by rw [List.mem_singleton.mp hb]; exact dok D5) fun b hb => by
          rw [List.mem_singleton.mp hb]
          exact ⟨_, hD5, fun v z => by cases z⟩)
      · obtain ⟨f0, f1, f2', f3, f4, f5⟩ := fok fr5 b hb
        refine ⟨f0, f1, f2', f3, f4, fun p hp => ?_⟩
        have hp' : p ∈ pinsAt [s2.heap.objs.size] s5.heap := (List.mem_append.mp hp).elim (fun z => absurd (show p ∈ ([] : List (Addr × Obj)) from z) (by simp)) id
        have := (of_pinsAt hp').1
        rw [List.mem_singleton.mp this]
        exact fun e => Dfp (by rw [e]; exact hb)
      · subst hr
        have hD6 := (I6.pin (s2.heap.objs.size, { cls := .type "list", data := .seq its.toArray k }) (List.mem_append_right _ (mem_pinsAt (by simp) hD5))).1
        obtain ⟨m6, hn6, _⟩ := I6.loc
        refine ⟨m6, hn6, fun h' hs' => ?_⟩
        have hCn : s2.heap.get? G.objs.size = none := by
          cases e : s2.heap.get? G.objs.size with
          | none => rfl
          | some ob => exact absurd (Heap.lt_size e) (by rw [hC]; exact Nat.not_lt.mpr (Nat.le_succ _))
        have neC : ∀ b ob, s2.heap.get? b = some ob → b ≠ G.objs.size := fun b ob e z => by rw [z, hCn] at e; cases e
        have u6 : Un (frs X.stack) fp H2 H5 s2.heap s6.heap := I6.base
        have u7 : Un (frs X.stack) fp H2 H5 s2.heap h' := ⟨fun b ob e n hb hx => hs'.extBut b ob (neC b ob e) (u6.keep b ob e n hb hx), fun b ob e n hb hx => by
            obtain ⟨sl, q⟩ := u6.slot b ob e n hb hx
            exact ⟨sl, hs'.extBut b _ (neC b ob e) q⟩, u6.free, fun b ob e hx => by
            obtain ⟨o', q⟩ := u6.there b ob e hx
            exact ⟨o', hs'.extBut b _ (neC b ob e) q⟩, u6.tups, u6.frzs, u6.tbls⟩
        have hC5 : H5 G.objs.size = none := I6.free
        have hok7 : HOk X.prog X.w H5 h' := fun b ob e => (I6.hok b ob e).stay (fun c u hc q => hs'.extBut c u (by
            rintro rfl
            rcases hc with rfl | hc
            · rw [hC5] at e; cases e
            · rw [hC5] at hc; cases hc) q) (fun _ q => q) fun _ _ q => q
        have I7 : Inv X pins σ H5 { s6 with heap := h' } := I2.call' (s' := { s6 with heap := h' }) (I6.os) u7 hok7 I6.bare fun b hb => ⟨(f2 b hb).2.2.2.1, (f2 b hb).2.1, (f2 b hb).2.2.2.2.1, (f2 b hb).2.2.2.2.2⟩
        refine ⟨.ref s2.heap.objs.size, upd H5 s2.heap.objs.size (.lst ys), I7.track D5 I2.sz DL Dcl (fun p hp z => ?_) ?_, rfl, fin _ D5⟩
        · obtain ⟨e, _⟩ := I2.pin p hp
          rw [z] at e
          exact absurd (Heap.lt_size e) (Nat.lt_irrefl _)
        · exact ⟨Nat.le_of_lt hz, its, k, r5, hs'.extBut _ _ hDC hD6⟩
    · refine anyE (thn (T.item (cxComp X scope (compNs2 x y fr) s2 H2 G.objs.size fp) rfl rfl rfl hc i (pinsAt [s2.heap.objs.size] s5.heap) s5 (o1 :: o2 :: compRest σ fr) H5 _ ?_ (fun b hb => ?_) st5 go) fun r s6 ⟨u, hr, h6⟩ => ?_)
      · exact (Inv.pinned I5 (fp := [s2.heap.objs.size]) (fun b hb => by rw [List.mem_singleton.mp hb]; exact dok D5) fun b hb => by
          rw [List.mem_singleton.mp hb]
          exact ⟨_, hD5, fun v z => by cases z⟩)
      · obtain ⟨f0, f1, f2', f3, f4, f5⟩ := fok fr5 b hb
        refine ⟨f0, f1, f2', f3, f4, fun p hp => ?_⟩
        have hp' : p ∈ pinsAt [s2.heap.objs.size] s5.heap := (List.mem_append.mp hp).elim (fun z => absurd (show p ∈ ([] : List (Addr × Obj)) from z) (by simp)) id
        have := (of_pinsAt hp').1
        rw [List.mem_singleton.mp this]
        exact fun e => Dfp (by rw [e]; exact hb)
      · subst hr
        refine thn h6 fun _ s7 ⟨v, H7, I7, rv, y7, st7, fr7⟩ => ?_
        have p7 := I7.pin (s2.heap.objs.size, { cls := .type "list", data := .seq its.toArray k }) (List.mem_append_right _ (mem_pinsAt (by simp) hD5))
        have hD7 : s7.heap.get? s2.heap.objs.size = some { cls := .type "list", data := .seq its.toArray k } := p7.1
        have D7 : H7 s2.heap.objs.size = none := p7.2.1
        have I7u : Inv (cxComp X scope (compNs2 x y fr) s2 H2 G.objs.size fp) [] (o1 :: o2 :: compRest σ fr) H7 s7 := Inv.unpinned (pins := []) I7
        have I8 := Inv.pinned I7u (fp := s2.heap.objs.size :: fp) (fun b hb => by
            rcases List.mem_cons.mp hb with e | hb
            · rw [e]; exact dok D7
            · exact fok fr7 b hb) fun b hb => by
            rcases List.mem_cons.mp hb with e | hb
            · rw [e]; exact ⟨_, hD7, fun v z => by cases z⟩
            · exact T.obj _ _ st7 b hb
        have hl : Loc (cxComp X scope (compNs2 x y fr) s2 H2 G.objs.size fp).env.scope x := .inl (lookup_relabel_local B.here)
        have hl2 : Loc (cxComp X scope (compNs2 x y fr) s2 H2 G.objs.size fp).env.scope y := .inl (lookup_relabel_local B2.here2)
        have pk : ∀ {σ' : St} {H' : Hp} {s' : Shared}, Inv (cxComp X scope (compNs2 x y fr) s2 H2 G.objs.size fp) ([] ++ pinsAt (s2.heap.objs.size :: fp) s7.heap) σ' H' s' →
            tn (i + 1) s'.heap ∧ (∀ b ∈ fp, H' b = none) ∧ H' s2.heap.objs.size = none ∧ s'.heap.get? s2.heap.objs.size = some { cls := .type "list", data := .seq its.toArray k } := fun {σ' H' s'} I' => by
          have pD := I'.pin (s2.heap.objs.size, { cls := .type "list", data := .seq its.toArray k }) (List.mem_append_right _ (List.mem_append_right _ (mem_pinsAt (by simp) hD7)))
          refine ⟨T.keep _ _ _ st7 fun b hb ob e => (I'.pin (b, ob) (List.mem_append_right _ (List.mem_append_right _ (mem_pinsAt (List.mem_cons_of_mem _ hb) e)))).1, fun b hb => ?_, pD.2.1, pD.1⟩
          obtain ⟨ob, e, _⟩ := T.obj _ _ st7 b hb
          exact (I'.pin (b, ob) (List.mem_append_right _ (List.mem_append_right _ (mem_pinsAt (List.mem_cons_of_mem _ hb) e)))).2.1
        obtain ⟨p0, v1, v2, rfl, sq, stp⟩ := step v H7 y7
        have pgt : PG (cxComp X scope (compNs2 x y fr) s2 H2 G.objs.size fp) (.Tuple [.Name x px, .Name y py] kx tp) (gTup X.K 2 (gCons (gName 0) (gCons (gName 1) gNil))) :=
          pg_tup (X := cxComp X scope (compNs2 x y fr) s2 H2 G.objs.size fp) hc (pgs_cons (pg_name (i := 0) B2.nd2 rfl hl (.inr (lookup_relabel_local B.here))) (pgs_cons (pg_name (i := 1) B2.nd2 rfl hl2 (.inr (lookup_relabel_local B2.here2))) pgs_nil))
        refine anyE (thn (pgt _ s7 _ H7 (.ref p0) u (fun σ' H' => σ' = some v1 :: some v2 :: compRest σ fr ∧ H' = H7) I8 rv ⟨p0, [v1, v2], rfl, sq, rfl, v1, [v2], rfl, v2, [], rfl, rfl, rfl, rfl⟩) fun _ s8 ⟨σ8, H8, I9, e1, e2⟩ => ?_)
        subst e1 e2
        refine anyE (thn (ht s2 H2 G.objs.size fp _ s8 _ H8 _ I9 stp) fun ok s9 ⟨H9, I10, q10⟩ => ?_)
        cases ok with
        | false =>
          rw [if_neg Bool.false_ne_true] at q10
          rw [if_neg Bool.false_ne_true]
          obtain ⟨m', hm, w'⟩ := q10
          obtain ⟨k1, k2, k3, k4⟩ := pk I10
          exact ⟨m', hm, i + 1, some v1, some v2, H9, ys, its, k, Inv.unpinned (pins := []) I10, k1, k2, k3, k4, r5, w'⟩
        | true =>
          rw [if_pos rfl] at q10
          rw [if_pos rfl]
          refine anyE (thn (he s2 H2 G.objs.size fp _ s9 _ H9 _ I10 q10) fun y' s10 ⟨yv, H10, I11, ry, m', hm, w'⟩ => ?_)
          obtain ⟨k1, k2, k3, k4⟩ := pk I11
          refine append_at k4 (fun h' hs' hD' => ?_) (by rw [List.size_toArray]; exact hzl)
          have I12 : Inv (cxComp X scope (compNs2 x y fr) s2 H2 G.objs.size fp) [] (some v1 :: some v2 :: compRest σ fr) H10 { s10 with heap := h' } :=
            (Inv.unpinned (pins := []) I11).turned (t' := s10.toks) (it := s2.heap.objs.size) (fun b ob hb e => (hs'.2 b hb).trans e) k3 hDC (.inr (Nat.le_refl _)) (fun z c e => Dcl z c (B.sub I2.ok _ _ e)) fun p hp => absurd (show p ∈ ([] : List (Addr × Obj)) from hp) (by simp)
          refine ⟨m', hm, i + 1, some v1, some v2, H10, ys ++ [yv], its ++ [y'], k + 1, I12, T.keep _ _ _ k1 fun b hb ob e => (hs'.2 b fun z => Dfp (by rw [← z]; exact hb)).trans e, k2, k3, ?_, r5.append (.cons ry .nil), w'⟩
          rw [hD']
          simp
  exact codeAny_compStart_list (loop _ rfl) (T.self _ 0 _ _ _ tn4 (loop _ rfl))
end
end L2
set_option Elab.async false
set_option linter.all false
set_option maxRecDepth 100000
namespace L2
open PySem PySem.Spec PyProof.Rows
abbrev XE := St → Value → Hp → Prop
abbrev TX := XE → TS
abbrev TEX := XE → TE
def XP (X : Cx) (pins : List (Addr × Obj)) (E : XE) (ev : Value) (s' : Shared) : Prop :=
  ∃ (ea t : Addr) (cls : Value) (B : Heap) (H' : Hp) (s1 : Shared) (H1 : Hp) (σ1 : St), ev = .ref ea ∧ Inv X pins σ1 H1 s1 ∧ Flown X.prog X.w X.stack H1 s1 (fun cls _ H' => E σ1 cls H') ea t cls B H' s'
section
variable {X : Cx} {st : Stmt} {rest : List Stmt} {t : TX} {u : TX} {pos : Pos}
end
section
variable {X : Cx}
end
end L2
set_option Elab.async false
set_option linter.all false
set_option maxRecDepth 100000
namespace Mir
open PySem L2
section
variable [Zc]
def zipD (as bs : List D) : List D := List.zipWith (fun a b => PyData.tuple [a, b]) as bs
theorem zipD_get {as bs : List D} {i : Nat} {d : D} (h : (zipD as bs)[i]? = some d) : ∃ a b, d = .tuple [a, b] ∧ as[i]? = some a ∧ bs[i]? = some b := by
  unfold zipD at h
  rw [List.getElem?_zipWith] at h
  cases ha : as[i]? with
  | none => rw [ha] at h; simp at h
  | some a =>
    cases hb : bs[i]? with
    | none => rw [ha, hb] at h; simp at h
    | some b =>
      rw [ha, hb] at h
      simp at h
      exact ⟨a, b, h.symm, rfl, rfl⟩
theorem zipD_len {as bs : List D} : as.length ≤ (zipD as bs).length ∨ bs.length ≤ (zipD as bs).length := by
  unfold zipD
  rw [List.length_zipWith]
  omega
theorem itz_ok {K : PySem.W.Frag} {G B : Hp} {p q : Addr} {xs ys : List V} {as bs : List D} (h1 : Rd G p (.lst xs)) (h2 : Rd G q (.lst ys)) (r1 : Reps B xs as) (r2 : Reps B ys bs) : ItOk G B (Itz K p q) (zipD as bs) := fun H s => by
  have g1 : SqL K H p xs := rd_sq (rd_same s h1)
  have g2 : SqL K H q ys := rd_sq (rd_same s h2)
  refine ⟨⟨xs, ys, g1, g2, by rw [r1.length, r2.length]; exact zipD_len⟩, fun i d hd => ?_⟩
  obtain ⟨a, b, rfl, ha, hb⟩ := zipD_get hd
  obtain ⟨x, x1, x2⟩ := r1.get i a ha
  obtain ⟨y, y1, y2⟩ := r2.get i b hb
  refine ⟨⟨xs, ys, x, y, g1, g2, x1, y1⟩, fun v H' hy => ?_⟩
  obtain ⟨p', x', y', rfl, hp, rfl, e1, e2⟩ := hy
  have e1' := e1 xs g1
  have e2' := e2 ys g2
  rw [x1] at e1'
  rw [y1] at e2'
  cases e1'
  cases e2'
  exact .inr ⟨p', [x, y], [a, b], rfl, rfl, hp, rfl, .cons x2 (.cons y2 .nil)⟩
theorem itzT_ok {K : PySem.W.Frag} {G B : Hp} {p q : Addr} {xs ys : List V} {as bs : List D} (h1 : G p = some (.tup xs)) (h2 : G q = some (.tup ys)) (r1 : Reps B xs as) (r2 : Reps B ys bs) : ItOk G B (ItzT K p q) (zipD as bs) := fun H s => by
  have g1 : SqT K H p xs := .inl (.inl (s _ _ h1))
  have g2 : SqT K H q ys := .inl (.inl (s _ _ h2))
  refine ⟨⟨xs, ys, g1, g2, by rw [r1.length, r2.length]; exact zipD_len⟩, fun i d hd => ?_⟩
  obtain ⟨a, b, rfl, ha, hb⟩ := zipD_get hd
  obtain ⟨x, x1, x2⟩ := r1.get i a ha
  obtain ⟨y, y1, y2⟩ := r2.get i b hb
  refine ⟨⟨xs, ys, x, y, g1, g2, x1, y1⟩, fun v H' hy => ?_⟩
  obtain ⟨p', x', y', rfl, hp, rfl, e1, e2⟩ := hy
  have e1' := e1 xs g1
  have e2' := e2 ys g2
  rw [x1] at e1'
  rw [y1] at e2'
  cases e1'
  cases e2'
  exact .inr ⟨p', [x, y], [a, b], rfl, rfl, hp, rfl, .cons x2 (.cons y2 .nil)⟩
def zp (f : D → Option (List D)) : List RV × Rho → Option (List D × Rho)
  | ([r1, r2], ρ) => (f r1.1).bind fun as => (f r2.1).map fun bs => (zipD as bs, ρ)
  | _ => none
theorem zp_eq {f : D → Option (List D)} {x : List RV × Rho} {ds : List D} {ρ : Rho} (h : zp f x = some (ds, ρ)) : ∃ r1 r2 as bs, x = ([r1, r2], ρ) ∧ f r1.1 = some as ∧ f r2.1 = some bs ∧ ds = zipD as bs := by
  obtain ⟨rs, ρ1⟩ := x
  unfold zp at h
  split at h
  · rename_i r1 r2 ρ2 heq
    cases heq
    obtain ⟨as, e1, h⟩ := Option.bind_eq_some_iff.mp h
    obtain ⟨bs, e2, h⟩ := Option.map_eq_some_iff.mp h
    cases h
    exact ⟨r1, r2, as, bs, rfl, e1, e2, rfl⟩
  · cases h
def mItZ (m : Rho → Option (List RV × Rho)) : Rho → Option (List D × Rho) := fun ρ => (m ρ).bind (zp asL)
def mItZT (m : Rho → Option (List RV × Rho)) : Rho → Option (List D × Rho) := fun ρ => (m ρ).bind (zp asT)
theorem mi_zip {K : PySem.W.Frag} {ta : TA} {m : Rho → Option (List RV × Rho)} (h : MA ta m) : MI (iZip K ta) (mItZ m) := by
  intro F B H σ ρ ds ρ' Q R e q
  obtain ⟨x, e1, e⟩ := Option.bind_eq_some_iff.mp e
  obtain ⟨r1, r2, as, bs, rfl, f1, f2, rfl⟩ := zp_eq e
  refine h F B H σ ρ _ _ _ R e1 fun vs B1 H1 E1 R1 V1 => ?_
  match vs, V1 with
  | [v, w], ⟨⟨h1, _⟩, ⟨h2, _⟩, _⟩ =>
    have w1 := h1.view R1
    have w2 := h2.view R1
    rw [asL_eq f1] at w1
    rw [asL_eq f2] at w2
    obtain ⟨p, xs, rfl, g1, k1⟩ := w1.list R1.sub
    obtain ⟨p', ys, rfl, g2, k2⟩ := w2.list R1.sub
    exact ⟨p, p', xs, ys, rfl, rd_sq g1, rd_sq g2, q _ B1 H1 E1 R1 (itz_ok g1 g2 k1 k2)⟩
theorem mi_zipT {K : PySem.W.Frag} {ta : TA} {m : Rho → Option (List RV × Rho)} (h : MA ta m) : MI (iZipT K ta) (mItZT m) := by
  intro F B H σ ρ ds ρ' Q R e q
  obtain ⟨x, e1, e⟩ := Option.bind_eq_some_iff.mp e
  obtain ⟨r1, r2, as, bs, rfl, f1, f2, rfl⟩ := zp_eq e
  refine h F B H σ ρ _ _ _ R e1 fun vs B1 H1 E1 R1 V1 => ?_
  match vs, V1 with
  | [v, w], ⟨⟨h1, _⟩, ⟨h2, _⟩, _⟩ =>
    have w1 := h1.view R1
    have w2 := h2.view R1
    rw [asT_eq f1] at w1
    rw [asT_eq f2] at w2
    obtain ⟨p, xs, rfl, g1, k1⟩ := w1.tuple R1.sub
    obtain ⟨p', ys, rfl, g2, k2⟩ := w2.tuple R1.sub
    exact ⟨p, p', xs, ys, rfl, .inl (.inl g1), .inl (.inl g2), q _ B1 H1 E1 R1 (itzT_ok g1 g2 k1 k2)⟩
def as2 : D → Option (D × D)
  | .tuple [a, b] => some (a, b)
  | _ => none
theorem as2_eq {d : D} {p : D × D} (h : as2 d = some p) : d = .tuple [p.1, p.2] := by
  unfold as2 at h
  split at h
  · cases h; rfl
  · cases h
def compL2 (c : Rho → Option (Bool × Rho)) (e : PM) (ρn : Rho) : List D → Option (List D)
  | [] => some []
  | d :: ds => (as2 d).bind fun p => (c (.fz p.1 :: .fz p.2 :: ρn)).bind fun b => if b.1 = true then (sv e (.fz p.1 :: .fz p.2 :: ρn)).bind fun y => (asF y.1).bind fun z => (compL2 c e ρn ds).map (z :: ·) else compL2 c e ρn ds
noncomputable def mLC2 (fr : List (Str × Nat)) (it : Rho → Option (List D × Rho)) (c : Rho → Option (Bool × Rho)) (e : PM) : PM := fun ρ => (it ρ).bind fun x => (compL2 c e (fr.map fun p => demote x.2 p.2) x.1).bind fun ys => cIf (ys.length < sizeLine) (some ((.list ys, .new), x.2)) none
theorem inner2_nown {fr : List (Str × Nat)} {ρ : Rho} {d d' : D} (i : Nat) (s : Sl) (h1 : (Sl.fz d :: Sl.fz d' :: fr.map fun p => demote ρ p.2)[i]? = some s) (h2 : s.isOwn = true) : False := by
  cases i with
  | zero => cases h1; cases h2
  | succ i => exact inner_nown (d := d') (ρ := ρ) (fr := fr) i s (by rw [List.getElem?_cons_succ] at h1; exact h1) h2
theorem Rel.inner2 {F : Fr} {B H : Hp} {σ : St} {ρ : Rho} (R : Rel F B H σ ρ) (fr : List (Str × Nat)) {v v' : V} {d d' : D} (h : Rep B v d) (h' : Rep B v' d') : Rel (F0 H) B H (some v :: some v' :: compRest σ fr) (.fz d :: .fz d' :: fr.map fun p => demote ρ p.2) := by
  obtain ⟨r1, r2, r3, r4, r5, r6, r7, r8, r9, r10, r11, r12, r13⟩ := R.inner fr h'
  refine ⟨r1, r2, r3, r4, by simpa using r5, fun i s hs => ?_, fun i j s t p h1 h2 => (inner2_nown i s h1 h2).elim, fun i d p h1 => (inner2_nown i _ h1 rfl).elim, (fun x hx => by cases hx), fun i d h1 => (inner2_nown i _ h1 rfl).elim, r11, (fun i h1 => ?_), r13⟩
  · cases i with
    | zero => cases hs; exact ⟨v, rfl, h⟩
    | succ i =>
      rw [List.getElem?_cons_succ] at hs
      have q := r6 i s hs
      cases s with
      | no => trivial
      | ex => trivial
      | fz c => obtain ⟨x, g1, g2⟩ := q; exact ⟨x, by rw [List.getElem?_cons_succ]; exact g1, g2⟩
      | own c => obtain ⟨x, g1, g2⟩ := q; exact ⟨x, by rw [List.getElem?_cons_succ]; exact g1, g2⟩
      | io c => obtain ⟨x, g1, g2⟩ := q; exact ⟨x, by rw [List.getElem?_cons_succ]; exact g1, g2⟩
      | ro c => obtain ⟨x, g1, g2⟩ := q; exact ⟨x, by rw [List.getElem?_cons_succ]; exact g1, g2⟩
  · cases i with
    | zero => cases h1
    | succ i =>
      rw [List.getElem?_cons_succ] at h1 ⊢
      exact r12 i h1
theorem me_lc2 {K : PySem.W.Frag} {fr : List (Str × Nat)} {wi : TI} {tc : TT} {te : TE} {it : Rho → Option (List D × Rho)} {c : Rho → Option (Bool × Rho)} {e : PM} (hi : MI wi it) (hc : MT tc c) (he : ME te e) : ME (tLC2 K fr wi tc te) (mLC2 fr it c e) := by
  intro F B H σ ρ r0 ρ' Q R e0 q
  obtain ⟨x, e1, e0⟩ := Option.bind_eq_some_iff.mp e0
  obtain ⟨out, e2, e0⟩ := Option.bind_eq_some_iff.mp e0
  obtain ⟨hz, e0⟩ := cIf_eq e0
  cases e0
  refine hi F B H σ ρ x.1 x.2 _ R e1 fun J B1 H1 E1 R1 I1 => ?_
  obtain ⟨ds, ρ1⟩ := x
  refine ⟨fun i m ys H2 => m = ds.length - i ∧ i ≤ ds.length ∧ ∃ B2 done rest, Same B1 B2 ∧ Same H1 H2 ∧ (∀ q, H1 q ≠ none → B1 q = none → B2 q = none) ∧ Rel F B2 H2 σ ρ1 ∧ Reps B2 ys done ∧ compL2 c e (fr.map fun p => demote ρ1 p.2) (ds.drop i) = some rest ∧ done ++ rest = out,
    ⟨ds.length, rfl, Nat.zero_le _, B1, [], out, Same.refl _, Same.refl _, fun _ _ z => z, R1, .nil, e2, rfl⟩, ?_⟩
  rintro i m ys H2 ⟨rfl, hil, B2, done, rest, eB, eH, nb, R2, rp, hcl, hdr⟩
  have hlen : ys.length ≤ out.length := by rw [← hdr, List.length_append, rp.length]; omega
  refine ⟨by omega, ?_⟩
  by_cases hlt : i < ds.length
  · refine .inr ?_
    obtain ⟨go, yl⟩ := (I1 H2 eH).2 i ds[i] (List.getElem?_eq_getElem hlt)
    refine ⟨go, fun v H3 hy => ?_⟩
    rw [List.drop_eq_getElem_cons hlt] at hcl
    obtain ⟨pr, c0, hcl⟩ := Option.bind_eq_some_iff.mp (show (as2 ds[i]).bind _ = some rest from hcl)
    obtain ⟨b, c1, c2⟩ := Option.bind_eq_some_iff.mp hcl
    have hdi := as2_eq c0
    have had : ∃ B3, Same B2 B3 ∧ Same H2 H3 ∧ (∀ q, H2 q ≠ none → B2 q = none → B3 q = none) ∧ Rel F B3 H3 σ ρ1 ∧ Rep B3 v ds[i] := by
      rcases yl v H3 hy with ⟨rfl, h2⟩ | ⟨p, xs, cs, h1, rfl, h3, rfl, h5⟩
      · exact ⟨B2, Same.refl _, Same.refl _, fun _ _ z => z, R2, h2.mono eB⟩
      · obtain ⟨R3, E3, e3⟩ := R2.layT (xs := xs) h3
        refine ⟨_, e3, same_upd h3, fun q h z => ?_, R3, ?_⟩
        · rw [upd_ne (show q ≠ p from fun y => h (by rw [y]; exact h3))]; exact z
        · rw [h1]; exact .tup upd_same (h5.mono (eB.trans e3))
    obtain ⟨B3, eB3, eH3, nb3, R3, rv⟩ := had
    have rv' : Rep B3 v (.tuple [pr.1, pr.2]) := by rw [← hdi]; exact rv
    obtain ⟨p0, v1, v2, rfl, hp0, rv1, rv2⟩ : ∃ p0 v1 v2, v = .ref p0 ∧ B3 p0 = some (.tup [v1, v2]) ∧ Rep B3 v1 pr.1 ∧ Rep B3 v2 pr.2 := by
      cases rv' with
      | tup h r =>
        cases r with
        | cons a r =>
          cases r with
          | cons b r =>
            cases r
            exact ⟨_, _, _, rfl, h, a, b⟩
    refine ⟨p0, v1, v2, rfl, .inl (.inl (R3.sub _ _ hp0)), ?_⟩
    have Ri := R3.inner2 fr rv1 rv2
    refine hc (F0 H3) B3 H3 _ _ b.1 b.2 _ Ri c1 fun B4 H4 E4 R4 => ?_
    obtain ⟨eH4, nb4⟩ := inner_ext inner2_nown E4
    have R4o : Rel F B4 H4 σ ρ1 := R3.grow E4.sB eH4 R4.sub nb4 R4.tupB R4.nz
    have nbA : ∀ q, H1 q ≠ none → B1 q = none → B4 q = none := fun q h z => by
      have h2 : H2 q ≠ none := fun y => h (eH.free y)
      have h3 : H3 q ≠ none := fun y => h2 (eH3.free y)
      exact nb4 q h3 (nb3 q h2 (nb q h z))
    cases hb : b.1 with
    | false =>
      rw [hb, if_neg Bool.false_ne_true] at c2
      rw [if_neg Bool.false_ne_true]
      exact ⟨ds.length - (i + 1), by omega, rfl, hlt, B4, done, rest, eB.trans (eB3.trans E4.sB), eH.trans (eH3.trans eH4), nbA, R4o, rp.mono (eB3.trans E4.sB), c2, hdr⟩
    | true =>
      rw [hb, if_pos rfl] at c2
      rw [if_pos rfl]
      obtain ⟨y, c3, c2⟩ := Option.bind_eq_some_iff.mp c2
      obtain ⟨z, c4, c2⟩ := Option.bind_eq_some_iff.mp c2
      obtain ⟨rest', c5, c6⟩ := Option.map_eq_some_iff.mp c2
      subst c6
      have Ri4 := R4o.inner2 fr (rv1.mono E4.sB) (rv2.mono E4.sB)
      refine he.sv (F0 H4) B4 H4 _ _ y.1 y.2 _ Ri4 c3 fun u B5 H5 E5 R5 V5 N5 => ?_
      obtain ⟨eH5, nb5⟩ := inner_ext inner2_nown E5
      have R5o : Rel F B5 H5 σ ρ1 := R4o.grow E5.sB eH5 R5.sub nb5 R5.tupB R5.nz
      rw [asF_eq c4] at V5
      refine ⟨ds.length - (i + 1), by omega, rfl, hlt, B5, done ++ [z], rest', eB.trans (eB3.trans (E4.sB.trans E5.sB)), eH.trans (eH3.trans (eH4.trans eH5)), fun q h w => ?_, R5o, (rp.mono (eB3.trans (E4.sB.trans E5.sB))).append (.cons V5 .nil), c5, by rw [List.append_assoc]; exact hdr⟩
      have h2 : H2 q ≠ none := fun y => h (eH.free y)
      have h3 : H3 q ≠ none := fun y => h2 (eH3.free y)
      have h4 : H4 q ≠ none := fun y => h3 (eH4.free y)
      exact nb5 q h4 (nbA q h w)
  · have hi' : i = ds.length := by omega
    subst hi'
    refine .inl ⟨(I1 H2 eH).1, fun p hp => ?_⟩
    rw [List.drop_length] at hcl
    cases hcl
    rw [List.append_nil] at hdr
    subst hdr
    have E2 : Ext σ ρ1 B1 H1 ρ1 B2 H2 := Ext.grow eB eH nb
    have := res_end (res := (.list done, true)) (k := fun Q => ∀ p, H2 p = none → Q (.ref p) (upd H2 p (.lst ys))) (Q := Q) R2 ⟨ys, rp, fun Q h => h⟩ fun v B' H' E R' V' N => q v B' H' ((E1.trans E2).trans E) R' V' fun p z1 z2 => (E1.trans E2).live p (N p z1 z2)
    exact this p hp
abbrev XM := Rho → Option ((RV × Rho) ⊕ (Str × Rho))
variable {cl : Str → Value}
def mOk (m : XM) : PM := fun ρ => match m ρ with
  | some (.inl x) => some x
  | _ => none
structure MEX (cl : Str → Value) (t : TEX) (m : XM) : Prop where
  ok : ∀ E, ME (t E) (mOk m)
  er : ∀ (F : Fr) (B H : Hp) (σ : St) (ρ : Rho) (c : Str) (ρ' : Rho) (Q : VK) (E : XE), Rel F B H σ ρ → m ρ = some (.inr (c, ρ')) → (∀ B' H', Rel F B' H' σ ρ' → E σ (cl c) H') → t E σ H Q
end
end Mir
set_option Elab.async false
set_option linter.all false
set_option maxRecDepth 100000
namespace Mir
open PySem L2
section
variable [Zc]
structure PostJ (B H : Hp) (p p2 : Addr) (v : V) (B' H' : Hp) (d : D) (o : Bool) (d1 d2 : D) : Prop where
  eH : ∀ q u, q ≠ p → q ≠ p2 → H q = some u → H' q = some u
  eB : Same B B'
  sub : Same B' H'
  nb : ∀ q, H q ≠ none → B q = none → B' q = none
  tB : ∀ q xs, H' q = some (.tup xs) → B' q = some (.tup xs)
  nz : ∀ q o u, H' q = some (.frz o u) → H q ≠ none
  own : Own B' H' p d1
  own2 : Own B' H' p2 d2
  val : if o = true then ∃ p, v = .ref p ∧ H p = none ∧ B' p = none ∧ Own B' H' p d else Rep B' v d
end
end Mir
set_option Elab.async false
set_option linter.all false
set_option maxRecDepth 100000
namespace L2
open PySem PySem.Spec PyProof.Rows
end L2
namespace Mir
open PySem L2
section
variable [Zc]
end
end Mir
set_option Elab.async false
set_option linter.all false
set_option maxRecDepth 100000
namespace Mir
open PySem L2
section
variable [Zc]
end
end Mir
set_option Elab.async false
set_option linter.all false
set_option maxRecDepth 100000
namespace Mir
open PySem L2
def notSeq : D → Bool
  | .list _ => false
  | .tuple _ => false
  | _ => true
mutual
inductive Nw (G B : Hp) : V → D → Prop
  | lst {p : Addr} {xs : List V} {ds : List D} : G p = none → B p = some (.lst xs) → xs.length = ds.length → Nw G B (.ref p) (.list ds)
  | tup {a : Addr} {xs : List V} {ds : List D} : B a = some (.tup xs) → Nws G B xs ds → Nw G B (.ref a) (.tuple ds)
  | oth {v : V} {d : D} : notSeq d = true → Nw G B v d
inductive Nws (G B : Hp) : List V → List D → Prop
  | nil : Nws G B [] []
  | cons {v : V} {vs : List V} {d : D} {ds : List D} : Nw G B v d → Nws G B vs ds → Nws G B (v :: vs) (d :: ds)
end
mutual
theorem Nw.mono {G B B' : Hp} (e : Same B B') : ∀ {v : V} {d : D}, Nw G B v d → Nw G B' v d
  | _, _, .lst a b c => .lst a (e _ _ b) c
  | _, _, .tup a b => .tup (e _ _ a) (Nws.mono e b)
  | _, _, .oth a => .oth a
theorem Nws.mono {G B B' : Hp} (e : Same B B') : ∀ {v : List V} {d : List D}, Nws G B v d → Nws G B' v d
  | _, _, .nil => .nil
  | _, _, .cons a b => .cons (Nw.mono e a) (Nws.mono e b)
end
mutual
theorem Nw.pure {G B : Hp} : ∀ {v : V} {d : D}, Rep B v d → pureD d = true → Nw G B v d
  | _, _, .non, _ => .oth rfl
  | _, _, .bl b, _ => .oth rfl
  | _, _, .int i, _ => .oth rfl
  | _, _, .str x, _ => .oth rfl
  | _, _, .lst _ _, h => by simp [pureD] at h
  | _, _, .dct _ _, h => by simp [pureD] at h
  | _, _, .tup h r, e => .tup h (Nws.pure r (by simpa [pureD] using e))
theorem Nws.pure {G B : Hp} : ∀ {v : List V} {d : List D}, Reps B v d → pureDs d = true → Nws G B v d
  | _, _, .nil, _ => .nil
  | _, _, .cons a b, e => by
    simp only [pureDs, Bool.and_eq_true] at e
    exact .cons (Nw.pure a e.1) (Nws.pure b e.2)
end
theorem Nw.own {G B0 B H : Hp} {p : Addr} {d : D} (hG : G p = none) (o : Own B0 H p d) (r : Rep B (.ref p) d) (s : Same B H) : Nw G B (.ref p) d := by
  cases o with
  | dct h _ => exact .oth rfl
  | lst h _ =>
    cases r with
    | lst hr rr =>
      rcases hr with e | ⟨u, e⟩
      · exact .lst hG e rr.length
      · have := s _ _ e
        rw [h] at this
        cases this
section
variable [Zc]
def MEW (t : TE) (m : PM) : Prop := ∀ (F : Fr) (B H : Hp) (σ : St) (ρ : Rho) (r : RV) (ρ' : Rho) (Q : VK), Rel F B H σ ρ → m ρ = some (r, ρ') →
    (∀ v B' H', Ext σ ρ B H ρ' B' H' → Rel F B' H' σ ρ' → Val F B' H' σ ρ' v r → (∀ p, r.2 = .new → v = .ref p → H p = none) → (r.2 = .fz → Nw F.H B' v r.1) → Q v H') → t σ H Q
theorem MEW.sv {t : TE} {m : PM} (h : MEW t m) : MEW t (sv m) := by
  intro F B H σ ρ r ρ' Q R e q
  unfold Mir.sv at e
  split at e
  · rename_i d ρ1 e1
    cases e
    refine h F B H σ ρ _ _ Q R e1 fun v B' H' E R' V' N W => ?_
    obtain ⟨B2, R2, rp, s2, k2⟩ := R'.freezeNew V'
    obtain ⟨p, rfl, hB, hF, o, nn⟩ := V'
    refine q _ B2 H' ⟨E.sB.trans s2, fun q o h1 h2 => ?_, E.own, E.ref, E.live⟩ R2 rp (fun _ z => by cases z) (fun _ => Nw.own hF o rp R2.sub)
    obtain ⟨h3, h4⟩ := E.keep q o h1 h2
    refine ⟨h3, fun z => ?_⟩
    by_cases y : q = p
    · subst y
      exact absurd (N q rfl rfl) (by rw [h1]; simp)
    · rw [k2 q (fun z => y (by cases z; rfl))]; exact h4 z
  · rename_i hx
    exact h F B H σ ρ r ρ' Q R e q
def leafN : RV → Bool
  | (_, .new) => true
  | (_, .at _) => true
  | (d, .fz) => pureD d
  | (_, .ro) => false
def mLeafN (a : PM) : PM := fun ρ => (a ρ).bind fun x => if leafN x.1 = true then some x else none
theorem mew_leaf {t : TE} {a : PM} (h : ME t a) : MEW t (mLeafN a) := by
  intro F B H σ ρ r ρ' Q R e q
  obtain ⟨x, e1, e⟩ := Option.bind_eq_some_iff.mp e
  split at e
  · rename_i hl
    cases e
    refine h F B H σ ρ r ρ' Q R e1 fun v B' H' E R' V' N => q v B' H' E R' V' N fun z => ?_
    obtain ⟨d, k⟩ := r
    cases z
    exact Nw.pure V' hl
  · cases e
def NwL (G B : Hp) : List V → List RV → Prop
  | [], [] => True
  | v :: vs, r :: rs => (r.2 = .fz → Nw G B v r.1) ∧ NwL G B vs rs
  | _, _ => False
theorem NwL.mono {G B B' : Hp} (e : Same B B') : ∀ {vs : List V} {rs : List RV}, NwL G B vs rs → NwL G B' vs rs
  | [], [], _ => trivial
  | _ :: _, _ :: _, ⟨a, b⟩ => ⟨fun z => (a z).mono e, NwL.mono e b⟩
  | [], _ :: _, h => h.elim
  | _ :: _, [], h => h.elim
def MAW (t : TA) (m : Rho → Option (List RV × Rho)) : Prop := ∀ (F : Fr) (B H : Hp) (σ : St) (ρ : Rho) (rs : List RV) (ρ' : Rho) (Q : List V → Hp → Prop), Rel F B H σ ρ → m ρ = some (rs, ρ') →
    (∀ vs B' H', Ext σ ρ B H ρ' B' H' → Rel F B' H' σ ρ' → Vl F B' H' σ ρ' vs rs → NwL F.H B' vs rs → Q vs H') → t σ H Q
theorem maw_nil : MAW tNil mNil := by
  intro F B H σ ρ rs ρ' Q R e q
  cases e
  exact q [] B H (Ext.refl _ _ _ _) R trivial trivial
def sameK : Kd → Kd → Bool
  | .fz, .fz => true
  | .at _, .at _ => true
  | _, _ => false
def mConsN (a : PM) (m : Rho → Option (List RV × Rho)) : Rho → Option (List RV × Rho) := fun ρ => (sv a ρ).bind fun x => (m x.2).bind fun y => (refr y.2 x.1).bind fun r => if sameK x.1.2 r.2 = true then some (r :: y.1, y.2) else none
theorem maw_cons {ta : TE} {tr : TA} {a : PM} {m : Rho → Option (List RV × Rho)} (ha : MEW ta a) (hr : MAW tr m) : MAW (tCons ta tr) (mConsN a m) := by
  intro F B H σ ρ rs ρ' Q R e q
  obtain ⟨x, e1, e⟩ := Option.bind_eq_some_iff.mp e
  obtain ⟨y, e2, e⟩ := Option.bind_eq_some_iff.mp e
  obtain ⟨r, e3, e⟩ := Option.bind_eq_some_iff.mp e
  split at e
  case isFalse => cases e
  rename_i hk
  cases e
  refine ha.sv F B H σ ρ x.1 x.2 _ R e1 fun v B1 H1 E1 R1 V1 N1 W1 => ?_
  refine hr F B1 H1 σ x.2 y.1 y.2 _ R1 e2 fun vs B2 H2 E2 R2 V2 W2 => ?_
  refine q (v :: vs) B2 H2 (E1.trans E2) R2 ⟨V1.next E2 R2 (sv_kind e1) e3, V2⟩ ⟨fun z => ?_, W2⟩
  obtain ⟨⟨d, k⟩, ρ1⟩ := x
  obtain ⟨d', k'⟩ := r
  cases z
  cases k with
  | fz => cases e3; exact (W1 rfl).mono E2.sB
  | new => cases hk
  | «at» i => cases hk
  | ro => cases hk
def fzOneN (r : RV) (ρ : Rho) : Option (D × Rho) := match r.2 with
  | .fz => some (r.1, ρ)
  | .at i => match ρ[i]? with
    | some (.own d) => some (d, ρ.set i (.fz d))
    | _ => none
  | _ => none
def fzAllN : List RV → Rho → Option (List D × Rho)
  | [], ρ => some ([], ρ)
  | r :: rs, ρ => (fzOneN r ρ).bind fun x => (fzAllN rs x.2).map fun y => (x.1 :: y.1, y.2)
theorem Rel.frzN {F : Fr} {B H : Hp} {σ : St} {ρ ρ' : Rho} (R : Rel F B H σ ρ) {v : V} {r : RV} {d : D} (w : WVal B σ v r) (n : r.2 = .fz → Nw F.H B v r.1) (e : fzOneN r ρ = some (d, ρ')) : ∃ B', Rel F B' H σ ρ' ∧ Rep B' v d ∧ Ext σ ρ B H ρ' B' H ∧ Nw F.H B' v d := by
  obtain ⟨c, k⟩ := r
  cases k with
  | fz => cases e; exact ⟨B, R, w, Ext.refl _ _ _ _, n rfl⟩
  | new => cases e
  | ro => cases e
  | «at» i =>
    have e' : (match ρ[i]? with
      | some (.own d) => some (d, ρ.set i (.fz d))
      | _ => none) = some (d, ρ') := e
    cases q : ρ[i]? with
    | none => rw [q] at e'; cases e'
    | some s =>
      rw [q] at e'
      cases s with
      | own c =>
        cases e'
        obtain ⟨B', R', rp, E'⟩ := R.freezeAt q w
        obtain ⟨p, h1, h2, h3⟩ := R.slot i _ q
        have w' : σ[i]? = some (some v) := w
        rw [w'] at h1
        cases h1
        exact ⟨B', R', rp, E', Nw.own (R.ownN i _ p q w') h3 rp R'.sub⟩
      | fz c => cases e'
      | no => cases e'
      | ex => cases e'
      | io c => cases e'
      | ro c => cases e'
theorem Rel.frzLN {F : Fr} {H : Hp} {σ : St} : ∀ {rs : List RV} {vs : List V} {ds : List D} {B : Hp} {ρ ρ' : Rho}, Rel F B H σ ρ → WVl B σ vs rs → NwL F.H B vs rs → fzAllN rs ρ = some (ds, ρ') → ∃ B', Rel F B' H σ ρ' ∧ Reps B' vs ds ∧ Ext σ ρ B H ρ' B' H ∧ Nws F.H B' vs ds
  | [], [], ds, B, ρ, ρ', R, _, _, e => by cases e; exact ⟨B, R, .nil, Ext.refl _ _ _ _, .nil⟩
  | r :: rs, v :: vs, ds, B, ρ, ρ', R, ⟨w, ws⟩, ⟨n, ns⟩, e => by
    obtain ⟨x, e1, e⟩ := Option.bind_eq_some_iff.mp e
    obtain ⟨y, e2, e⟩ := Option.map_eq_some_iff.mp e
    cases e
    obtain ⟨B1, R1, rp, E1, n1⟩ := R.frzN w n e1
    obtain ⟨B2, R2, rps, E2, n2⟩ := Rel.frzLN R1 (ws.mono E1.sB) (ns.mono E1.sB) e2
    exact ⟨B2, R2, .cons (rp.mono E2.sB) rps, E1.trans E2, .cons (n1.mono E2.sB) n2⟩
  | [], _ :: _, _, _, _, _, _, h, _, _ => h.elim
  | _ :: _, [], _, _, _, _, _, h, _, _ => h.elim
noncomputable def mTupN (m : Rho → Option (List RV × Rho)) : PM := fun ρ => (m ρ).bind fun x => (fzAllN x.1 x.2).bind fun y => cIf (y.1.length ≤ sizeLine) (some ((.tuple y.1, .fz), y.2)) none
theorem mew_tup {t : TA} {m : Rho → Option (List RV × Rho)} (h : MAW t m) : MEW (tTup t) (mTupN m) := by
  intro F B H σ ρ r ρ' Q R e q
  obtain ⟨x, e1, e⟩ := Option.bind_eq_some_iff.mp e
  obtain ⟨y, e2, e⟩ := Option.bind_eq_some_iff.mp e
  obtain ⟨hz, e⟩ := cIf_eq e
  cases e
  refine h F B H σ ρ x.1 x.2 _ R e1 fun vs B1 H1 E1 R1 V1 W1 => ?_
  obtain ⟨B2, R2, rp, E2, nw⟩ := Rel.frzLN R1 V1.weak W1 e2
  refine ⟨by rw [rp.length]; exact hz, fun p hp => ?_⟩
  obtain ⟨R3, E3, eB⟩ := R2.layT (xs := vs) hp
  exact q (.ref p) _ _ (E1.trans (E2.trans E3)) R3 (.tup upd_same (rp.mono eB)) (fun p z => by cases z) (fun _ => .tup upd_same (nw.mono eB))
def OutOkN (F : Fr) (D : Ends) : Out → Prop
  | .rt r ρ => ∀ v B H σ, Rel F B H σ ρ → Val F B H σ ρ v r → (r.2 = .fz → Nw F.H B v r.1) → D.rt v H
  | o => OutOk F D o
def MSN (t : TS) (m : SM) : Prop := ∀ (F : Fr) (B H : Hp) (σ : St) (ρ : Rho) (o : Out) (D : Ends), Rel F B H σ ρ → m ρ = some o → OutOkN F D o → t D σ H
def nr (m : SM) : SM := fun ρ => (m ρ).bind fun o => match o with
  | .rt _ _ => none
  | o => some o
theorem msn_nr {t : TS} {m : SM} (h : MS t m) : MSN t (nr m) := by
  intro F B H σ ρ o D R e q
  obtain ⟨x, e1, e⟩ := Option.bind_eq_some_iff.mp e
  cases x with
  | rt r ρ' => cases e
  | nx ρ' => cases e; exact h F B H σ ρ _ D R e1 q
  | bk ρ' => cases e; exact h F B H σ ρ _ D R e1 q
  | ct ρ' => cases e; exact h F B H σ ρ _ D R e1 q
theorem msn_seq {t u : TS} {a b : SM} (ha : MSN t a) (hb : MSN u b) : MSN (tSeq t u) (mSeq a b) := by
  intro F B H σ ρ o D R e q
  obtain ⟨x, e1, e⟩ := Option.bind_eq_some_iff.mp e
  refine ha F B H σ ρ x _ R e1 ?_
  cases x with
  | nx ρ' => exact fun B' H' σ' R' => hb F B' H' σ' ρ' o D R' e q
  | rt r ρ' => cases e; exact q
  | bk ρ' => cases e; exact q
  | ct ρ' => cases e; exact q
theorem msn_if {tc : TT} {t u : TS} {c : Rho → Option (Bool × Rho)} {a b : SM} (hc : MT tc c) (ha : MSN t a) (hb : MSN u b) : MSN (tIfS tc t u) (mIfS c a b) := by
  intro F B H σ ρ o D R e q
  obtain ⟨x, e1, e⟩ := Option.bind_eq_some_iff.mp e
  refine hc F B H σ ρ x.1 x.2 _ R e1 fun B' H' E R' => ?_
  by_cases h : x.1 = true
  · rw [if_pos h] at e ⊢; exact ha F B' H' σ x.2 o D R' e q
  · rw [if_neg h] at e ⊢; exact hb F B' H' σ x.2 o D R' e q
theorem msn_ret {t : TE} {a : PM} (ha : MEW t a) : MSN (tRet t) (mRet a) := by
  intro F B H σ ρ o D R e q
  obtain ⟨x, e1, e⟩ := Option.map_eq_some_iff.mp e
  cases e
  exact ha F B H σ ρ x.1 x.2 _ R e1 fun v B' H' E R' V' N W => q v B' H' σ R' V' W
theorem msn_next : MSN tNext mPass := by
  intro F B H σ ρ o D R e q
  cases e; exact q B H σ R
theorem msn_never : MSN tNever mNever := by
  intro F B H σ ρ o D R e q
  cases e
def spN (f : List D → Option (D × Bool)) : Sp := fun vs H Q _ => ∃ B ds d o, Same B H ∧ (∀ q xs, H q = some (.tup xs) → B q = some (.tup xs)) ∧ Reps B vs ds ∧ f ds = some (d, o) ∧ ∀ v B' H', Post B H v B' H' d o → (o = false → Nw H B' v d) → Q v H'
theorem spN_of {f : List D → Option (D × Bool)} {vs : List V} {H : Hp} {Q : VK} {E : XK} (h : spM f vs H Q E) : spN f vs H Q E := by
  obtain ⟨B, ds, d, o, h1, h2, h3, h4, h5⟩ := h
  exact ⟨B, ds, d, o, h1, h2, h3, h4, fun v B' H' P _ => h5 v B' H' P⟩
theorem fn_runN {n k : Nat} {b : SM} {t : TS} {N : List Str} {vs : List V} {H : Hp} {Q : VK} {E : XK} (hb : MSN t b) (hN : N.length = n + k) (h : spN (fnM n k b) vs H Q E) : t { nx := fun _ H' => Q .non H', rt := Q } (L2.start N vs) H := by
  obtain ⟨B, ds, d, o, sub, tB, rp, e, q⟩ := h
  unfold fnM at e
  split at e
  case isFalse => cases e
  rename_i hl
  obtain ⟨w, e1, e2⟩ := Option.bind_eq_some_iff.mp e
  have hvl : vs.length = n := rp.length.trans hl
  have own0 : ∀ (i : Nat) (s : Sl), (ds.map Sl.fz ++ List.replicate k .no)[i]? = some s → s.isRef = true → False := fun i s h1 h2 => by
    have := List.mem_of_getElem? h1
    rcases List.mem_append.mp this with h | h
    · obtain ⟨c, _, rfl⟩ := List.mem_map.mp h; cases h2
    · rw [List.eq_of_mem_replicate h] at h2; cases h2
  have ex0 : ∀ i : Nat, (ds.map Sl.fz ++ List.replicate k .no)[i]? = some Sl.ex → False := fun i h1 => by
    have := List.mem_of_getElem? h1
    rcases List.mem_append.mp this with h | h
    · obtain ⟨c, _, z⟩ := List.mem_map.mp h; cases z
    · have := List.eq_of_mem_replicate h; cases this
  have R : Rel ⟨B, H, [], fun q => H q ≠ none⟩ B H (L2.start N vs) (ds.map .fz ++ List.replicate k .no) := by
    refine ⟨sub, Same.refl _, fun _ _ z _ => z, fun _ _ z => z, ?_, fun i s hs => ?_, fun i j s t p h1 h2 => (own0 i s h1 (Sl.ref_of h2)).elim, fun i c p h1 => (own0 i _ h1 rfl).elim, (fun x hx => by cases hx), fun i c h1 => (own0 i _ h1 rfl).elim, tB, (fun i h1 => (ex0 i h1).elim), fun q o u h z => by rw [z] at h; cases h⟩
    · simp [L2.start, hl, hvl, hN]
    · by_cases hi : i < n
      · rw [List.getElem?_append_left (by simpa [hl] using hi), List.getElem?_map] at hs
        obtain ⟨c, h1, rfl⟩ := Option.map_eq_some_iff.mp hs
        obtain ⟨x, h2, h3⟩ := rp.get i c h1
        refine ⟨x, ?_, h3⟩
        unfold L2.start
        rw [List.getElem?_append_left (by simpa [hvl] using hi), List.getElem?_map, h2]
        rfl
      · rw [List.getElem?_append_right (by simpa [hl] using Nat.le_of_not_lt hi)] at hs
        have := List.eq_of_mem_replicate (List.mem_of_getElem? hs)
        subst this
        trivial
  refine hb _ B H _ _ w _ R e1 ?_
  have post : ∀ {B' H' : Hp} {σ' : St} {ρ' : Rho}, Rel ⟨B, H, [], fun q => H q ≠ none⟩ B' H' σ' ρ' → Same H H' ∧ Same B B' ∧ Same B' H' ∧ (∀ q, H q ≠ none → B q = none → B' q = none) ∧ (∀ q xs, H' q = some (.tup xs) → B' q = some (.tup xs)) ∧ ∀ q o u, H' q = some (.frz o u) → H q ≠ none := fun R' =>
    ⟨fun q u z => R'.sH q u z (fun x hx => by cases hx), R'.sB, R'.sub, R'.nB, R'.tupB, R'.nz⟩
  cases w with
  | nx ρ' =>
    cases e2
    intro B' H' σ' R'
    obtain ⟨p1, p2, p3, p4, p5, p6⟩ := post R'
    exact q _ B' H' ⟨p1, p2, p3, p4, p5, p6, .non⟩ (fun _ => .oth rfl)
  | bk ρ' => cases e2
  | ct ρ' => cases e2
  | rt r ρ' =>
    intro v B' H' σ' R' V' W'
    obtain ⟨p1, p2, p3, p4, p5, p6⟩ := post R'
    obtain ⟨c, kd⟩ := r
    cases kd with
    | fz => cases e2; exact q v B' H' ⟨p1, p2, p3, p4, p5, p6, V'⟩ (fun _ => W' rfl)
    | new =>
      cases e2
      obtain ⟨p, rfl, h1, h2, h3, _⟩ := V'
      exact q _ B' H' ⟨p1, p2, p3, p4, p5, p6, ⟨p, rfl, h2, h1, h3⟩⟩ (fun z => by cases z)
    | ro => cases e2
    | «at» i =>
      obtain ⟨s, h1, h2, h3, h4⟩ := V'
      have e2' : (match ρ'[i]? with
        | some (.own d) => some (d, true)
        | _ => none) = some (d, o) := e2
      rw [h1] at e2'
      cases s with
      | own c' =>
        cases e2'
        obtain ⟨p, g1, g2, g3⟩ := R'.slot i _ h1
        have h4' : σ'[i]? = some (some v) := h4
        rw [h4'] at g1
        cases g1
        exact q _ B' H' ⟨p1, p2, p3, p4, p5, p6, ⟨p, rfl, R'.ownN i _ p h1 h4', g2, g3⟩⟩ (fun z => by cases z)
      | _ => cases e2'
theorem spN_len {n k : Nat} {b : SM} {vs : List V} {H : Hp} {Q : VK} {E : XK} (h : spN (fnM n k b) vs H Q E) : vs.length = n := by
  obtain ⟨B, ds, d, o, sub, tB, rp, e, q⟩ := h
  unfold fnM at e
  split at e
  · rename_i hl; exact rp.length.trans hl
  · cases e
end
end Mir
set_option Elab.async false
set_option linter.all false
set_option maxRecDepth 100000
namespace Mir
open PySem L2
mutual
inductive NwB (G Bs B : Hp) (b : Nat) : V → D → Prop
  | lst {p : Addr} {xs : List V} {ds : List D} : G p = none → Bs p = none → B p = some (.lst xs) → xs.length ≤ b → NwB G Bs B b (.ref p) (.list ds)
  | tup {a : Addr} {xs : List V} {ds : List D} : B a = some (.tup xs) → NwBs G Bs B b xs ds → NwB G Bs B b (.ref a) (.tuple ds)
  | oth {v : V} {d : D} : notSeq d = true → NwB G Bs B b v d
inductive NwBs (G Bs B : Hp) (b : Nat) : List V → List D → Prop
  | nil : NwBs G Bs B b [] []
  | cons {v : V} {vs : List V} {d : D} {ds : List D} : NwB G Bs B b v d → NwBs G Bs B b vs ds → NwBs G Bs B b (v :: vs) (d :: ds)
end
mutual
theorem NwB.mono {G Bs B B' : Hp} {b : Nat} (e : Same B B') : ∀ {v : V} {d : D}, NwB G Bs B b v d → NwB G Bs B' b v d
  | _, _, .lst a b c d => .lst a b (e _ _ c) d
  | _, _, .tup a b => .tup (e _ _ a) (NwBs.mono e b)
  | _, _, .oth a => .oth a
theorem NwBs.mono {G Bs B B' : Hp} {b : Nat} (e : Same B B') : ∀ {v : List V} {d : List D}, NwBs G Bs B b v d → NwBs G Bs B' b v d
  | _, _, .nil => .nil
  | _, _, .cons a b => .cons (NwB.mono e a) (NwBs.mono e b)
end
mutual
def shortT : D → Bool
  | .list ds => decide (ds.length ≤ 90000)
  | .tuple ds => shortTs ds
  | .none => true
  | .bool _ => true
  | .int _ => true
  | .str _ => true
  | .dict _ => true
def shortTs : List D → Bool
  | [] => true
  | d :: ds => shortT d && shortTs ds
end
mutual
theorem NwB.of {G G' Bs B : Hp} (k : ∀ p, G p = none → G' p = none ∧ Bs p = none) : ∀ {v : V} {d : D}, Nw G B v d → shortT d = true → NwB G' Bs B 90000 v d
  | _, _, .lst a b c, h => .lst (k _ a).1 (k _ a).2 b (by rw [c]; simpa [shortT] using h)
  | _, _, .tup a b, h => .tup a (NwBs.of k b (by simpa [shortT] using h))
  | _, _, .oth a, _ => .oth a
theorem NwBs.of {G G' Bs B : Hp} (k : ∀ p, G p = none → G' p = none ∧ Bs p = none) : ∀ {v : List V} {d : List D}, Nws G B v d → shortTs d = true → NwBs G' Bs B 90000 v d
  | _, _, .nil, _ => .nil
  | _, _, .cons a b, h => by
    simp only [shortTs, Bool.and_eq_true] at h
    exact .cons (NwB.of k a h.1) (NwBs.of k b h.2)
end
mutual
inductive Dd (G B H : Hp) (b : Nat) : V → D → Prop
  | lst {p : Addr} {xs : List V} {ds : List D} : G p = none → B p = none → H p = some (.lst xs) → xs.length ≤ b → Dd G B H b (.ref p) (.list ds)
  | tup {a : Addr} {xs : List V} {ds : List D} : H a = some (.tup xs) → Dds G B H b xs ds → Dd G B H b (.ref a) (.tuple ds)
  | oth {v : V} {d : D} : notSeq d = true → Dd G B H b v d
inductive Dds (G B H : Hp) (b : Nat) : List V → List D → Prop
  | nil : Dds G B H b [] []
  | cons {v : V} {vs : List V} {d : D} {ds : List D} : Dd G B H b v d → Dds G B H b vs ds → Dds G B H b (v :: vs) (d :: ds)
end
mutual
theorem Dd.of {G Bs B B5 H : Hp} {b : Nat} (s : Same B H) (k : ∀ p xs, B p = some (.lst xs) → Bs p = none → B5 p = none) : ∀ {v : V} {d : D}, NwB G Bs B b v d → Dd G B5 H b v d
  | _, _, .lst a b c d => .lst a (k _ _ c b) (s _ _ c) d
  | _, _, .tup a b => .tup (s _ _ a) (Dds.of s k b)
  | _, _, .oth a => .oth a
theorem Dds.of {G Bs B B5 H : Hp} {b : Nat} (s : Same B H) (k : ∀ p xs, B p = some (.lst xs) → Bs p = none → B5 p = none) : ∀ {v : List V} {d : List D}, NwBs G Bs B b v d → Dds G B5 H b v d
  | _, _, .nil => .nil
  | _, _, .cons a b => .cons (Dd.of s k a) (Dds.of s k b)
end
mutual
theorem Dd.poke {G B H : Hp} {b b2 : Nat} {p : Addr} {ys : List V} (hp : ∃ xs, H p = some (.lst xs)) (hb : b ≤ b2) (hy : ys.length ≤ b2) : ∀ {v : V} {d : D}, Dd G B H b v d → Dd G B (upd H p (.lst ys)) b2 v d
  | _, _, .lst (p := q) h1 h2 h3 h4 => by
    by_cases z : q = p
    · subst z; exact .lst h1 h2 upd_same hy
    · exact .lst h1 h2 (by rw [upd_ne z]; exact h3) (Nat.le_trans h4 hb)
  | _, _, .tup (a := q) h1 h2 => by
    refine .tup ?_ (Dds.poke hp hb hy h2)
    rw [upd_ne (fun z => by obtain ⟨xs, hx⟩ := hp; rw [z, hx] at h1; cases h1)]; exact h1
  | _, _, .oth a => .oth a
theorem Dds.poke {G B H : Hp} {b b2 : Nat} {p : Addr} {ys : List V} (hp : ∃ xs, H p = some (.lst xs)) (hb : b ≤ b2) (hy : ys.length ≤ b2) : ∀ {v : List V} {d : List D}, Dds G B H b v d → Dds G B (upd H p (.lst ys)) b2 v d
  | _, _, .nil => .nil
  | _, _, .cons a c => .cons (Dd.poke hp hb hy a) (Dds.poke hp hb hy c)
end
theorem Dds.get {G B H : Hp} {b : Nat} : ∀ {vs : List V} {ds : List D} (j : Nat) {d : D}, Dds G B H b vs ds → ds[j]? = some d → ∃ v, vs[j]? = some v ∧ Dd G B H b v d
  | _, _, _, _, .nil, e => by simp at e
  | _, _, 0, _, .cons a _, e => by simp at e; subst e; exact ⟨_, rfl, a⟩
  | _, _, j + 1, _, .cons _ c, e => by
    obtain ⟨v, h1, h2⟩ := Dds.get j c (by simpa using e)
    exact ⟨v, by simpa using h1, h2⟩
def MP (i : Nat) (te : TE) (p : D → Option D) : Prop := ∀ (G B H : Hp) (b : Nat) (σ : St) (v : V) (d d' : D) (Q : VK), σ[i]? = some (some v) → Dd G B H b v d → p d = some d' → (∀ v', Dd G B H b v' d' → Q v' H) → te σ H Q
theorem mp_var {i : Nat} : MP i (tVar i) some := by
  intro G B H b σ v d d' Q h1 h2 h3 q
  cases h3
  exact ⟨v, h1, q v h2⟩
def pIx (p : D → Option D) (j : Nat) : D → Option D := fun d => (p d).bind fun c => match c with
  | .tuple ds => ds[j]?
  | _ => none
theorem mp_ix {K : PySem.W.Frag} {i j : Nat} {te : TE} {p : D → Option D} (h : MP i te p) : MP i (tOp (rIx K) te (tC (.int (j : Int)))) (pIx p j) := by
  intro G B H b σ v d d' Q h1 h2 h3 q
  obtain ⟨c, e1, e2⟩ := Option.bind_eq_some_iff.mp h3
  refine h G B H b σ v d c _ h1 h2 e1 fun v' hv => ?_
  split at e2
  · cases hv with
    | tup ha hs =>
      obtain ⟨x, g1, g2⟩ := hs.get j e2
      exact .inr (.inl ⟨_, _, (j : Int), x, rfl, rfl, .inl (.inl ha), atI_nat' g1, q x g2⟩)
    | oth z => cases z
  · cases e2
def isL : Option D → Bool
  | some (.list _) => true
  | _ => false
section
variable [Zc]
def MAg (i c : Nat) (ok : D → Bool) (t : TS) (m : SM) : Prop := ∀ (F : Fr) (B H : Hp) (σ : St) (ρ : Rho) (o : Out) (E : Ends) (v : V) (d : D) (b : Nat), b + c ≤ 100000 → Rel F B H σ ρ → σ[i]? = some (some v) → Dd F.H B H b v d → ok d = true → (∀ (n : Nat) (s : Sl), ρ[n]? = some s → s.isRef = false) → m ρ = some o → OutOk F E o → t E σ H
structure Sg (N : List Nat) (i : Nat) (F : Fr) (Bs : Hp) (σs : St) (ρs : Rho) (v : V) (d : D) (b : Nat) (B : Hp) (σ : St) : Prop where
  slot : ∀ (n : Nat) (d : D), n ≠ i → ρs[n]? = some (.fz d) → ∃ v, σs[n]? = some (some v) ∧ Rep Bs v d
  sBs : Same F.B Bs
  nBs : ∀ q, F.H q ≠ none → F.B q = none → Bs q = none
  sB : Same Bs B
  ag : Ag N σs σ
  ni : i ∉ N
  here : σs[i]? = some (some v)
  nw : NwB F.H Bs B b v d
  len : ρs.length = σs.length
  io : F.io = []
theorem Sg.go {N : List Nat} {i : Nat} {F : Fr} {Bs B B' : Hp} {σs σ σ' : St} {ρs : Rho} {v : V} {d : D} {b : Nat} (s : Sg N i F Bs σs ρs v d b B σ) (e : Same B B') (a : Ag N σ σ') : Sg N i F Bs σs ρs v d b B' σ' :=
  ⟨s.slot, s.sBs, s.nBs, s.sB.trans e, s.ag.trans a, s.ni, s.here, s.nw.mono e, s.len, s.io⟩
def MBg (N : List Nat) (i c : Nat) (ok : D → Bool) (t : TS) (mb : Rho → SM) : Prop := ∀ (F : Fr) (Bs : Hp) (σs : St) (ρs : Rho) (v : V) (d : D) (b : Nat) (B H : Hp) (σ : St) (ρ : Rho) (o : Out) (E : Ends), b + c ≤ 100000 → ok d = true → Sg N i F Bs σs ρs v d b B σ → Rel F B H σ ρ → mb ρs ρ = some o → OutOk F E o → t E σ H
variable {N : List Nat}
theorem mbg_seq {i c : Nat} {ok : D → Bool} {t u : TS} {a : SM} {mb : Rho → SM} (ha : MSK N t a) (hb : MBg N i c ok u mb) : MBg N i c ok (tSeq t u) (bSeq a mb) := by
  intro F Bs σs ρs v d b B H σ ρ o D hc hok sv R e q
  obtain ⟨x, e1, e⟩ := Option.bind_eq_some_iff.mp e
  refine ha ⟨B, F.H, F.io, F.Z⟩ B H σ ρ x _ R.down e1 ?_
  cases x with
  | nx ρ' => exact fun B' H' σ' R' a => hb F Bs σs ρs v d b B' H' σ' ρ' o D hc hok (sv.go R'.sB a) (R.up R') e q
  | rt r ρ' => cases e; exact q.down R
  | bk ρ' => cases e
  | ct ρ' => cases e
def mDeadN (i : Nat) (f : List D → Option (D × Bool)) (m : Rho → Option (List RV × Rho)) (ok : D → Bool) (mb : Rho → SM) : SM := fun ρ => (m ρ).bind fun x => (fzAll x.1 x.2).bind fun y => (f y.1).bind fun w => if w.2 = true then none else (setSl y.2 i (.fz w.1)).bind fun ρ2 => if y.2.all noIo = true ∧ shortT w.1 = true ∧ ok w.1 = true then mb y.2 ρ2 else none
theorem ms_deadN {f : List D → Option (D × Bool)} {X : XK} {i : Nat} {ok : D → Bool} (hi : i ∉ N) {ta : TA} {m : Rho → Option (List RV × Rho)} {u : TS} {mb : Rho → SM} (h : MA ta m) (hu : MBg N i 100 ok u mb) :
    MS (tSeq (tAsg (tCall (spN f) [] X ta) (gName i)) u) (mDeadN i f m ok mb) := by
  intro F B H σ ρ o E R e q
  obtain ⟨x, e1, e⟩ := Option.bind_eq_some_iff.mp e
  obtain ⟨y, e2, e⟩ := Option.bind_eq_some_iff.mp e
  obtain ⟨w, e3, e⟩ := Option.bind_eq_some_iff.mp e
  split at e
  case isTrue => cases e
  rename_i hw
  obtain ⟨ρ2, e4, e⟩ := Option.bind_eq_some_iff.mp e
  split at e
  case isFalse => cases e
  rename_i hok
  obtain ⟨hio, hs1, hs2⟩ := hok
  refine h F B H σ ρ x.1 x.2 _ R e1 fun vs B1 H1 E1 R1 V1 => ?_
  rw [List.append_nil]
  obtain ⟨B2, R2, rp, E2⟩ := Rel.frzL R1 V1.weak e2
  obtain ⟨d, ob⟩ := w
  have hob : ob = false := by cases ob with
    | false => rfl
    | true => exact absurd rfl hw
  subst hob
  refine ⟨B2, y.1, d, false, R2.sub, R2.tupB, rp, e3, fun v B' H' P nw => ?_⟩
  have R3 := R2.grow P.eB P.eH P.sub P.nb P.tB P.nz
  have rv : Rep B' v d := P.val
  have Rf := R3.assignFz rv e4
  have nwb : NwB F.H B2 B' 90000 v d := NwB.of (fun p hp => ⟨(R2.free hp).2.1, (R2.free hp).1⟩) (nw rfl) hs1
  obtain ⟨rfl, s0', hs0, hnio⟩ := setSl_eq e4
  have hil : i < σ.length := by
    have := (List.getElem?_eq_some_iff.mp hs0).1
    rw [R3.len] at this
    exact this
  refine hu F B2 (σ.set i (some v)) y.2 v d 90000 B' H' (σ.set i (some v)) _ o E (by decide) hs2 ?_ Rf e q
  refine ⟨fun n d hn hs => ?_, R2.sB, R2.nB, P.eB, Ag.refl _ _, hi, List.getElem?_set_self hil, nwb, by rw [List.length_set]; exact R3.len, ?_⟩
  · obtain ⟨x', h1, h2⟩ := R2.slot n _ hs
    exact ⟨x', by rw [List.getElem?_set_ne hn.symm]; exact h1, h2⟩
  · cases hF : F.io with
    | nil => rfl
    | cons z zs =>
      obtain ⟨_, d, h2⟩ := R3.fx z (by rw [hF]; exact List.mem_cons_self)
      have := (List.all_eq_true.mp hio) _ (List.mem_of_getElem? h2)
      cases this
end
end Mir
namespace L2
open PySem PySem.Spec PyProof.Rows
theorem Def.imp {P : Program} {w : World} {K : PySem.W.Frag} {mg : Str → Option Value} {base : Heap} {CX : CXT} {k : Nat} {x : Str} {ps : List Str} {sp sp' : Sp} (D : Def P w K mg base CX k x ps sp) (h : ∀ vs H Q E, sp' vs H Q E → sp vs H Q E) : Def P w K mg base CX k x ps sp' := by
  obtain ⟨f, fd, F, m, kp, b⟩ := D.ex
  exact ⟨⟨f, fd, FnOk.imp F h, m, kp, b⟩⟩
end L2
set_option Elab.async false
set_option linter.all false
set_option maxRecDepth 100000
namespace L2
open PySem PySem.Spec PyProof.Rows
section
variable {X : Cx}
end
end L2
set_option Elab.async false
set_option linter.all false
set_option maxRecDepth 100000
namespace Mir
open PySem L2
section
variable [Zc]
section
variable {K : PySem.W.Frag} {ta : TA} {m : Rho → Option (List RV × Rho)}
end
end
end Mir
set_option Elab.async false
set_option linter.all false
set_option maxRecDepth 100000
namespace Mir
open PySem L2
section
variable [Zc]
abbrev Tau := List (Nat × D)
def NwT (τ : Tau) (F : Fr) (B : Hp) (σ : St) : Prop := ∀ x ∈ τ, ∃ v, σ[x.1]? = some (some v) ∧ Rep B v x.2 ∧ Nw F.H B v x.2
theorem NwT.mono {τ : Tau} {F : Fr} {B B' : Hp} {σ : St} (h : NwT τ F B σ) (e : Same B B') : NwT τ F B' σ := fun x hx => by
  obtain ⟨v, h1, h2, h3⟩ := h x hx
  exact ⟨v, h1, h2.mono e, h3.mono e⟩
theorem NwT.nil {F : Fr} {B : Hp} {σ : St} : NwT [] F B σ := fun x hx => by cases hx
def MEWT (t : TE) (m : Tau → PM) : Prop := ∀ (F : Fr) (B H : Hp) (σ : St) (ρ : Rho) (τ : Tau) (r : RV) (ρ' : Rho) (Q : VK), Rel F B H σ ρ → NwT τ F B σ → m τ ρ = some (r, ρ') →
    (∀ v B' H', Ext σ ρ B H ρ' B' H' → Rel F B' H' σ ρ' → Val F B' H' σ ρ' v r → (∀ p, r.2 = .new → v = .ref p → H p = none) → (r.2 = .fz → Nw F.H B' v r.1) → Q v H') → t σ H Q
theorem mewt_of {t : TE} {m : PM} (h : MEW t m) : MEWT t (fun _ => m) := fun F B H σ ρ τ r ρ' Q R _ e q => h F B H σ ρ r ρ' Q R e q
def MPT (i : Nat) (te : TE) (p : D → Option D) : Prop := ∀ (G B H : Hp) (σ : St) (v : V) (d d' : D) (Q : VK), σ[i]? = some (some v) → Same B H → Rep B v d → Nw G B v d → p d = some d' → (∀ v', Rep B v' d' → Nw G B v' d' → Q v' H) → te σ H Q
theorem mpt_var {i : Nat} : MPT i (tVar i) some := by
  intro G B H σ v d d' Q h1 _ h2 h3 e q
  cases e
  exact ⟨v, h1, q v h2 h3⟩
theorem Nws.get {G B : Hp} : ∀ {vs : List V} {ds : List D} (j : Nat) {d : D} {v : V}, Nws G B vs ds → ds[j]? = some d → vs[j]? = some v → Nw G B v d
  | _, _, _, _, _, .nil, e, _ => by simp at e
  | _, _, 0, _, _, .cons a _, e, e' => by simp at e e'; subst e e'; exact a
  | _, _, j + 1, _, _, .cons _ c, e, e' => Nws.get j c (by simpa using e) (by simpa using e')
theorem mpt_ix {K : PySem.W.Frag} {i j : Nat} {te : TE} {p : D → Option D} (h : MPT i te p) : MPT i (tOp (rIx K) te (tC (.int (j : Int)))) (pIx p j) := by
  intro G B H σ v d d' Q h1 s h2 h3 e q
  obtain ⟨c, e1, e2⟩ := Option.bind_eq_some_iff.mp e
  refine h G B H σ v d c _ h1 s h2 h3 e1 fun v' hr hn => ?_
  split at e2
  · cases hn with
    | oth z => cases z
    | tup ha hs =>
      cases hr with
      | tup hb rs =>
        rw [ha] at hb
        cases hb
        obtain ⟨x, g1, g2⟩ := rs.get j _ e2
        exact .inr (.inl ⟨_, _, (j : Int), x, rfl, rfl, .inl (.inl (s _ _ ha)), atI_nat' g1, q x g2 (hs.get j e2 g1)⟩)
  · cases e2
def mPth (i : Nat) (p : D → Option D) : Tau → PM := fun τ ρ => (τ.lookup i).bind fun d => (p d).map fun d' => ((d', .fz), ρ)
theorem lookup_mem {τ : Tau} {i : Nat} {d : D} (h : τ.lookup i = some d) : (i, d) ∈ τ := by
  induction τ with
  | nil => cases h
  | cons x τ ih =>
    obtain ⟨j, c⟩ := x
    rw [List.lookup_cons] at h
    by_cases e : i = j
    · subst e; simp at h; subst h; exact List.mem_cons_self
    · rw [show (i == j) = false from by simpa using e] at h
      exact List.mem_cons_of_mem _ (ih h)
theorem mewt_path {i : Nat} {te : TE} {p : D → Option D} (h : MPT i te p) : MEWT te (mPth i p) := by
  intro F B H σ ρ τ r ρ' Q R T e q
  obtain ⟨d, e1, e⟩ := Option.bind_eq_some_iff.mp e
  obtain ⟨d', e2, e⟩ := Option.map_eq_some_iff.mp e
  cases e
  obtain ⟨v, h1, h2, h3⟩ := T _ (lookup_mem e1)
  exact h F.H B H σ v d d' _ h1 R.sub h2 h3 e2 fun v' g1 g2 => q v' B H (Ext.refl _ _ _ _) R g1 (fun p z => by cases z) (fun _ => g2)
mutual
theorem Nw.older {G G' B : Hp} (k : ∀ p, G p = none → G' p = none) : ∀ {v : V} {d : D}, Nw G B v d → Nw G' B v d
  | _, _, .lst a b c => .lst (k _ a) b c
  | _, _, .tup a b => .tup a (Nws.older k b)
  | _, _, .oth a => .oth a
theorem Nws.older {G G' B : Hp} (k : ∀ p, G p = none → G' p = none) : ∀ {v : List V} {d : List D}, Nws G B v d → Nws G' B v d
  | _, _, .nil => .nil
  | _, _, .cons a b => .cons (Nw.older k a) (Nws.older k b)
end
def mCallN (f : List D → Option (D × Bool)) (m : Rho → Option (List RV × Rho)) : PM := fun ρ => (m ρ).bind fun x => (fzAll x.1 x.2).bind fun y => (f y.1).bind fun w => if w.2 = true then none else some ((w.1, .fz), y.2)
theorem mew_call {f : List D → Option (D × Bool)} {X : XK} {ta : TA} {m : Rho → Option (List RV × Rho)} (h : MA ta m) : MEW (tCall (spN f) [] X ta) (mCallN f m) := by
  intro F B H σ ρ r ρ' Q R e q
  obtain ⟨x, e1, e⟩ := Option.bind_eq_some_iff.mp e
  obtain ⟨y, e2, e⟩ := Option.bind_eq_some_iff.mp e
  obtain ⟨w, e3, e⟩ := Option.bind_eq_some_iff.mp e
  split at e
  case isTrue => cases e
  rename_i hw
  cases e
  refine h F B H σ ρ x.1 x.2 _ R e1 fun vs B1 H1 E1 R1 V1 => ?_
  rw [List.append_nil]
  obtain ⟨B2, R2, rp, E2⟩ := Rel.frzL R1 V1.weak e2
  obtain ⟨d, ob⟩ := w
  have hob : ob = false := by cases ob with
    | false => rfl
    | true => exact absurd rfl hw
  subst hob
  refine ⟨B2, y.1, d, false, R2.sub, R2.tupB, rp, e3, fun v B' H' P nw => ?_⟩
  have R3 := R2.grow P.eB P.eH P.sub P.nb P.tB P.nz
  have E3 : Ext σ y.2 B2 H1 y.2 B' H' := Ext.grow P.eB P.eH P.nb
  have rv : Rep B' v d := P.val
  exact q v B' H' (E1.trans (E2.trans E3)) R3 rv (fun p z => by cases z) (fun _ => (nw rfl).older fun p hp => (R2.free hp).2.1)
theorem MEWT.sv {t : TE} {m : Tau → PM} (h : MEWT t m) : MEWT t (fun τ => sv (m τ)) := by
  intro F B H σ ρ τ r ρ' Q R T e q
  unfold Mir.sv at e
  dsimp only at e
  split at e
  · rename_i d ρ1 e1
    cases e
    refine h F B H σ ρ τ _ _ Q R T e1 fun v B' H' E R' V' N W => ?_
    obtain ⟨B2, R2, rp, s2, k2⟩ := R'.freezeNew V'
    obtain ⟨p, rfl, hB, hF, o, nn⟩ := V'
    refine q _ B2 H' ⟨E.sB.trans s2, fun q o h1 h2 => ?_, E.own, E.ref, E.live⟩ R2 rp (fun _ z => by cases z) (fun _ => Nw.own hF o rp R2.sub)
    obtain ⟨h3, h4⟩ := E.keep q o h1 h2
    refine ⟨h3, fun z => ?_⟩
    by_cases y : q = p
    · subst y
      exact absurd (N q rfl rfl) (by rw [h1]; simp)
    · rw [k2 q (fun z => y (by cases z; rfl))]; exact h4 z
  · rename_i hx
    exact h F B H σ ρ τ r ρ' Q R T e q
def MAWT (t : TA) (m : Tau → Rho → Option (List RV × Rho)) : Prop := ∀ (F : Fr) (B H : Hp) (σ : St) (ρ : Rho) (τ : Tau) (rs : List RV) (ρ' : Rho) (Q : List V → Hp → Prop), Rel F B H σ ρ → NwT τ F B σ → m τ ρ = some (rs, ρ') →
    (∀ vs B' H', Ext σ ρ B H ρ' B' H' → Rel F B' H' σ ρ' → Vl F B' H' σ ρ' vs rs → NwL F.H B' vs rs → Q vs H') → t σ H Q
def mNilT : Tau → Rho → Option (List RV × Rho) := fun _ => mNil
theorem mawt_nil : MAWT tNil mNilT := fun F B H σ ρ τ rs ρ' Q R _ e q => maw_nil F B H σ ρ rs ρ' Q R e q
def mConsT (a : Tau → PM) (m : Tau → Rho → Option (List RV × Rho)) : Tau → Rho → Option (List RV × Rho) := fun τ => mConsN (a τ) (m τ)
theorem mawt_cons {ta : TE} {tr : TA} {a : Tau → PM} {m : Tau → Rho → Option (List RV × Rho)} (ha : MEWT ta a) (hr : MAWT tr m) : MAWT (tCons ta tr) (mConsT a m) := by
  intro F B H σ ρ τ rs ρ' Q R T e q
  obtain ⟨x, e1, e⟩ := Option.bind_eq_some_iff.mp e
  obtain ⟨y, e2, e⟩ := Option.bind_eq_some_iff.mp e
  obtain ⟨r, e3, e⟩ := Option.bind_eq_some_iff.mp e
  split at e
  case isFalse => cases e
  rename_i hk
  cases e
  refine ha.sv F B H σ ρ τ x.1 x.2 _ R T e1 fun v B1 H1 E1 R1 V1 N1 W1 => ?_
  refine hr F B1 H1 σ x.2 τ y.1 y.2 _ R1 (T.mono E1.sB) e2 fun vs B2 H2 E2 R2 V2 W2 => ?_
  refine q (v :: vs) B2 H2 (E1.trans E2) R2 ⟨V1.next E2 R2 (sv_kind e1) e3, V2⟩ ⟨fun z => ?_, W2⟩
  obtain ⟨⟨d, k⟩, ρ1⟩ := x
  obtain ⟨d', k'⟩ := r
  cases z
  cases k with
  | fz => cases e3; exact (W1 rfl).mono E2.sB
  | new => cases hk
  | «at» i => cases hk
  | ro => cases hk
noncomputable def mTupT (m : Tau → Rho → Option (List RV × Rho)) : Tau → PM := fun τ => mTupN (m τ)
theorem mewt_tup {t : TA} {m : Tau → Rho → Option (List RV × Rho)} (h : MAWT t m) : MEWT (tTup t) (mTupT m) := by
  intro F B H σ ρ τ r ρ' Q R T e q
  obtain ⟨x, e1, e⟩ := Option.bind_eq_some_iff.mp e
  obtain ⟨y, e2, e⟩ := Option.bind_eq_some_iff.mp e
  obtain ⟨hz, e⟩ := cIf_eq e
  cases e
  refine h F B H σ ρ τ x.1 x.2 _ R T e1 fun vs B1 H1 E1 R1 V1 W1 => ?_
  obtain ⟨B2, R2, rp, E2, nw⟩ := Rel.frzLN R1 V1.weak W1 e2
  refine ⟨by rw [rp.length]; exact hz, fun p hp => ?_⟩
  obtain ⟨R3, E3, eB⟩ := R2.layT (xs := vs) hp
  exact q (.ref p) _ _ (E1.trans (E2.trans E3)) R3 (.tup upd_same (rp.mono eB)) (fun p z => by cases z) (fun _ => .tup upd_same (nw.mono eB))
def MSNT (t : TS) (m : Tau → SM) : Prop := ∀ (F : Fr) (B H : Hp) (σ : St) (ρ : Rho) (τ : Tau) (o : Out) (D : Ends), Rel F B H σ ρ → NwT τ F B σ → m τ ρ = some o → OutOkN F D o → t D σ H
theorem msn_ofT {t : TS} {m : Tau → SM} (h : MSNT t m) : MSN t (m []) := fun F B H σ ρ o D R e q => h F B H σ ρ [] o D R NwT.nil e q
def mRetT (a : Tau → PM) : Tau → SM := fun τ => mRet (a τ)
theorem msnt_ret {t : TE} {a : Tau → PM} (ha : MEWT t a) : MSNT (tRet t) (mRetT a) := by
  intro F B H σ ρ τ o D R T e q
  obtain ⟨x, e1, e⟩ := Option.map_eq_some_iff.mp e
  cases e
  exact ha F B H σ ρ τ x.1 x.2 _ R T e1 fun v B' H' E R' V' N W => q v B' H' σ R' V' W
def mSetN (i : Nat) (f : List D → Option (D × Bool)) (m : Rho → Option (List RV × Rho)) (u : Tau → SM) : Tau → SM := fun τ ρ => (mCallN f m ρ).bind fun x => (setSl x.2 i (.fz x.1.1)).bind fun ρ2 => u ((i, x.1.1) :: τ.filter (fun y => y.1 != i)) ρ2
theorem msnt_set {f : List D → Option (D × Bool)} {X : XK} {i : Nat} {ta : TA} {m : Rho → Option (List RV × Rho)} {u : TS} {mu : Tau → SM} (h : MA ta m) (hu : MSNT u mu) : MSNT (tSeq (tAsg (tCall (spN f) [] X ta) (gName i)) u) (mSetN i f m mu) := by
  intro F B H σ ρ τ o D R T e q
  obtain ⟨x, e1, e⟩ := Option.bind_eq_some_iff.mp e
  obtain ⟨ρ2, e2, e⟩ := Option.bind_eq_some_iff.mp e
  have hk : x.1.2 = .fz := by
    obtain ⟨_, _, z⟩ := Option.bind_eq_some_iff.mp e1
    obtain ⟨_, _, z⟩ := Option.bind_eq_some_iff.mp z
    obtain ⟨_, _, z⟩ := Option.bind_eq_some_iff.mp z
    split at z
    · cases z
    · cases z; rfl
  obtain ⟨⟨d, kd⟩, ρ1⟩ := x
  cases hk
  refine mew_call h F B H σ ρ _ _ _ R e1 fun v B' H' E R' V' N W => ?_
  have rv : Rep B' v d := V'
  have Rf := R'.assignFz rv e2
  obtain ⟨rfl, s0', hs0, hnio⟩ := setSl_eq e2
  have hil : i < σ.length := by
    have := (List.getElem?_eq_some_iff.mp hs0).1
    rw [R'.len] at this
    exact this
  refine hu F B' H' (σ.set i (some v)) _ _ o D Rf (fun y hy => ?_) e q
  rcases List.mem_cons.mp hy with rfl | hy
  · exact ⟨v, List.getElem?_set_self hil, rv, W rfl⟩
  · obtain ⟨h1, h2⟩ := List.mem_filter.mp hy
    obtain ⟨v', g1, g2, g3⟩ := T y h1
    have ne : y.1 ≠ i := by simpa using h2
    exact ⟨v', by rw [List.getElem?_set_ne ne.symm]; exact g1, g2.mono E.sB, g3.mono E.sB⟩
end
end Mir
set_option Elab.async false
set_option linter.all false
set_option maxRecDepth 100000
namespace Mir
open PySem L2
section
variable [Zc]
variable {N : List Nat}
def keepP (N : List Nat) (ρ : Rho) (n : Nat) (s : Sl) : Sl := if n ∈ N then (match ρ[n]? with
  | some (.fz d) => if pureD d = true then .fz d else s
  | _ => s) else s
def forgetP (N : List Nat) (i : Nat) (ρs ρ : Rho) : Rho := (forget N i ρs).mapIdx (keepP N ρ)
theorem forgetP_get {i n : Nat} {ρs ρ : Rho} {s : Sl} (h : (forgetP N i ρs ρ)[n]? = some s) : s = .no ∨ (∃ d, s = .fz d ∧ n ∉ N ∧ n ≠ i ∧ ρs[n]? = some (.fz d)) ∨ ∃ d, s = .fz d ∧ pureD d = true ∧ ρ[n]? = some (.fz d) := by
  unfold forgetP at h
  rw [List.getElem?_mapIdx] at h
  obtain ⟨s0, h1, rfl⟩ := Option.map_eq_some_iff.mp h
  unfold keepP
  by_cases c : n ∈ N
  · rw [if_pos c]
    split
    · rename_i d hd
      by_cases hp : pureD d = true
      · rw [if_pos hp]; exact .inr (.inr ⟨d, rfl, hp, hd⟩)
      · rw [if_neg hp]
        rcases forget_get h1 with z | z
        · exact .inl z
        · exact .inr (.inl z)
    · rcases forget_get h1 with z | z
      · exact .inl z
      · exact .inr (.inl z)
  · rw [if_neg c]
    rcases forget_get h1 with z | z
    · exact .inl z
    · exact .inr (.inl z)
theorem mbg_exitP {i c : Nat} {ok : D → Bool} {t : TS} {m : SM} (h : MAg i c ok t m) : MBg N i c ok t (fun ρs ρ => m (forgetP N i ρs ρ)) := by
  intro F Bs σs ρs v d b B H σ ρ o D hc hok sv R e q
  let B5 : Hp := fun x => (tups H x).or (Bs x)
  have b5t : ∀ x xs, H x = some (.tup xs) → B5 x = some (.tup xs) := fun x xs h => by
    show (tups H x).or (Bs x) = _
    rw [tups_tup h]; rfl
  have b5n : ∀ x, tups H x = none → B5 x = Bs x := fun x h => by
    show (tups H x).or (Bs x) = _
    rw [h]; rfl
  have b5 : ∀ x ob, B5 x = some ob → tups H x = some ob ∨ Bs x = some ob := fun x ob h => by
    cases ht : tups H x with
    | none => rw [b5n x ht] at h; exact .inr h
    | some t =>
      have : (tups H x).or (Bs x) = some ob := h
      rw [ht] at this
      exact .inl this
  have s5 : Same Bs B5 := fun x ob h => by
    cases ht : tups H x with
    | none => rw [b5n x ht]; exact h
    | some t =>
      obtain ⟨xs, rfl, h2⟩ := tups_some ht
      have := R.sub _ _ (sv.sB _ _ h)
      rw [h2] at this
      cases this
      exact b5t x xs h2
  have nt : ∀ x, (∀ xs, H x ≠ some (.tup xs)) → tups H x = none := fun x h => by
    cases ht : tups H x with
    | none => rfl
    | some t =>
      obtain ⟨xs, _, h2⟩ := tups_some ht
      exact absurd h2 (h xs)
  have noref : ∀ (n : Nat) (s : Sl), (forgetP N i ρs ρ)[n]? = some s → s.isRef = false := fun n s h1 => by
    rcases forgetP_get h1 with rfl | ⟨d, rfl, _⟩ | ⟨d, rfl, _⟩ <;> rfl
  have nref : ∀ (n : Nat) (s : Sl), (forgetP N i ρs ρ)[n]? = some s → s.isRef = true → False := fun n s h1 h2 => by rw [noref n s h1] at h2; cases h2
  refine h F B5 H σ _ o D v d b hc ?_ (by rw [sv.ag.2 i sv.ni]; exact sv.here) (Dd.of R.sub (fun p xs h1 h2 => by rw [b5n p (nt p fun zs hz => by rw [R.sub _ _ h1] at hz; cases hz)]; exact h2) sv.nw) hok noref e q
  refine ⟨fun x ob hb => ?_, sv.sBs.trans s5, R.sH, fun x h1 h2 => ?_, ?_, fun n s hs => ?_, fun n n' s t p h1 h2 => (nref n s h1 (Sl.ref_of h2)).elim, fun n d p h1 => (nref n _ h1 rfl).elim, (by rw [sv.io]; intro x hx; cases hx), fun n d h1 => (nref n _ h1 rfl).elim, b5t, fun n h1 => ?_, R.nz⟩
  · rcases b5 x ob hb with h | h
    · obtain ⟨xs, rfl, h2⟩ := tups_some h; exact h2
    · exact R.sub _ _ (sv.sB _ _ h)
  · have n4 := R.nB x h1 h2
    rw [b5n x (nt x fun xs hx => by rw [R.tupB x xs hx] at n4; cases n4)]
    exact sv.nBs x h1 h2
  · unfold forgetP forget
    rw [List.length_mapIdx, List.length_mapIdx, sv.len]; exact sv.ag.1.symm
  · rcases forgetP_get hs with rfl | ⟨d, rfl, c1, c2, c3⟩ | ⟨d, rfl, c1, c2⟩
    · trivial
    · obtain ⟨v, h1, h2⟩ := sv.slot n d c2 c3
      exact ⟨v, by rw [sv.ag.2 n c1]; exact h1, h2.mono s5⟩
    · obtain ⟨v, h1, h2⟩ := R.slot n _ c2
      exact ⟨v, h1, Rep.ofPure (fun q xs hq => b5t q xs (R.sub _ _ hq)) h2 c1⟩
  · rcases forgetP_get h1 with z | ⟨d, z, _⟩ | ⟨d, z, _⟩ <;> cases z
end
end Mir
set_option Elab.async false
set_option linter.all false
set_option maxRecDepth 100000
namespace Mir
open PySem L2
section
variable [Zc]
variable {N : List Nat}
end
end Mir
set_option Elab.async false
set_option linter.all false
set_option maxRecDepth 100000
namespace Mir
open PySem L2
section
variable [Zc]
end
end Mir
set_option Elab.async false
set_option linter.all false
set_option maxRecDepth 100000
namespace Mir
open PySem L2
mutual
def keepD : D → Bool
  | .list ds => pureDs ds
  | .tuple ds => keepDs ds
  | .none => true
  | .bool _ => true
  | .int _ => true
  | .str _ => true
  | .dict _ => false
def keepDs : List D → Bool
  | [] => true
  | d :: ds => keepD d && keepDs ds
end
mutual
theorem Rep.keep {Hm B B' : Hp} (kt : ∀ q xs, B q = some (.tup xs) → B' q = some (.tup xs)) (kl : ∀ p xs, Hm p = none → B p = some (.lst xs) → B' p = some (.lst xs)) : ∀ {v : V} {d : D}, Nw Hm B v d → Rep B v d → keepD d = true → Rep B' v d
  | _, _, .lst hp hb _, .lst hr rs, h => by
    rcases hr with e | ⟨u, e⟩
    · rw [hb] at e
      cases e
      exact .lst (.inl (kl _ _ hp hb)) (Reps.ofPure kt rs (by simpa [keepD] using h))
    · rw [hb] at e; cases e
  | _, _, .tup ha hs, .tup hb rs, h => by
    rw [ha] at hb
    cases hb
    exact .tup (kt _ _ ha) (Reps.keep kt kl hs rs (by simpa [keepD] using h))
  | _, _, .oth z, r, h => by
    cases r with
    | non => exact .non
    | bl b => exact .bl b
    | int i => exact .int i
    | str x => exact .str x
    | lst _ _ => cases z
    | tup _ _ => cases z
    | dct _ _ => simp [keepD] at h
theorem Reps.keep {Hm B B' : Hp} (kt : ∀ q xs, B q = some (.tup xs) → B' q = some (.tup xs)) (kl : ∀ p xs, Hm p = none → B p = some (.lst xs) → B' p = some (.lst xs)) : ∀ {v : List V} {d : List D}, Nws Hm B v d → Reps B v d → keepDs d = true → Reps B' v d
  | _, _, .nil, .nil, _ => .nil
  | _, _, .cons a b, .cons c e, h => by
    simp only [keepDs, Bool.and_eq_true] at h
    exact .cons (Rep.keep kt kl a c h.1) (Reps.keep kt kl b e h.2)
end
mutual
theorem NwB.base {G Bs Bs' B B' : Hp} {b : Nat} (e : Same B B') (k : ∀ p xs, B p = some (.lst xs) → Bs p = none → Bs' p = none) : ∀ {v : V} {d : D}, NwB G Bs B b v d → NwB G Bs' B' b v d
  | _, _, .lst a b c d => .lst a (k _ _ c b) (e _ _ c) d
  | _, _, .tup a b => .tup (e _ _ a) (NwBs.base e k b)
  | _, _, .oth a => .oth a
theorem NwBs.base {G Bs Bs' B B' : Hp} {b : Nat} (e : Same B B') (k : ∀ p xs, B p = some (.lst xs) → Bs p = none → Bs' p = none) : ∀ {v : List V} {d : List D}, NwBs G Bs B b v d → NwBs G Bs' B' b v d
  | _, _, .nil => .nil
  | _, _, .cons a b => .cons (NwB.base e k a) (NwBs.base e k b)
end
section
variable [Zc]
variable {N : List Nat}
end
end Mir
set_option Elab.async false
set_option linter.all false
set_option maxRecDepth 100000
namespace Mir
open PySem L2
inductive Pk (G B : Hp) : Hp → Hp → Prop
  | refl {H : Hp} : Pk G B H H
  | step {H H' : Hp} {p : Addr} {xs ys : List V} : H p = some (.lst xs) → G p = none → B p = none → Pk G B (upd H p (.lst ys)) H' → Pk G B H H'
theorem Dds.len {G B H : Hp} {b : Nat} : ∀ {vs : List V} {ds : List D}, Dds G B H b vs ds → vs.length = ds.length
  | _, _, .nil => rfl
  | _, _, .cons _ t => by rw [List.length_cons, List.length_cons, Dds.len t]
def MC (c : Nat) (ok : List D → Bool) (t : TS) : Prop := ∀ (G B H : Hp) (b : Nat) (σ : St) (vs : List V) (ds : List D) (E : Ends), b + c ≤ 100000 → (∀ (i : Nat) (v : V), vs[i]? = some v → σ[i]? = some (some v)) → Dds G B H b vs ds → ok ds = true → (∀ H', Pk G B H H' → E.rt (.bl true) H') → t E σ H
theorem mc_append {K : PySem.W.Frag} {i c : Nat} {ok : List D → Bool} {te : TE} {p : D → Option D} {w : V} (hp : MP i te p) (hm : ∀ ds, ok ds = true → ∃ d es, ds[i]? = some d ∧ p d = some (.list es)) {u : TS} (h : MC c ok u) : MC (c + 1) ok (tSeq (tDrop (tBM K "list" rAppend te (tCons (tC w) tNil))) u) := by
  intro G B H b σ vs ds E hb hσ dd hok q
  obtain ⟨d, es, h1, h2⟩ := hm ds hok
  obtain ⟨v, g1, g2⟩ := dd.get i h1
  refine hp G B H b σ v d (.list es) _ (hσ i v g1) g2 h2 fun v' hv' => ?_
  cases hv' with
  | oth z => cases z
  | lst k1 k2 k3 k4 =>
    refine ⟨.inl ⟨rfl, _, SqL.of k3⟩, ?_⟩
    refine ⟨_, _, w, rfl, rfl, k3, sz_lt (by omega), ?_⟩
    exact h G B _ (b + 1) σ vs ds E (by omega) hσ (dd.poke ⟨_, k3⟩ (Nat.le_succ _) (by rw [List.length_append, List.length_singleton]; omega)) hok fun H' pk => q H' (.step k3 k1 k2 pk)
theorem mc_clear {K : PySem.W.Frag} {i c : Nat} {ok : List D → Bool} {te : TE} {p : D → Option D} (hp : MP i te p) (hm : ∀ ds, ok ds = true → ∃ d es, ds[i]? = some d ∧ p d = some (.list es)) {u : TS} (h : MC c ok u) : MC c ok (tSeq (tDrop (tBM0 K "list" rClear te)) u) := by
  intro G B H b σ vs ds E hb hσ dd hok q
  obtain ⟨d, es, h1, h2⟩ := hm ds hok
  obtain ⟨v, g1, g2⟩ := dd.get i h1
  refine hp G B H b σ v d (.list es) _ (hσ i v g1) g2 h2 fun v' hv' => ?_
  cases hv' with
  | oth z => cases z
  | lst k1 k2 k3 k4 =>
    refine ⟨.inl ⟨rfl, _, SqL.of k3⟩, ?_⟩
    refine ⟨_, _, rfl, rfl, k3, ?_⟩
    exact h G B _ b σ vs ds E hb hσ (dd.poke ⟨_, k3⟩ (Nat.le_refl _) (by simp)) hok fun H' pk => q H' (.step k3 k1 k2 pk)
theorem mc_true {c : Nat} {ok : List D → Bool} : MC c ok (tRet (tC (.bl true))) := by
  intro G B H b σ vs ds E hb hσ dd hok q
  exact q H .refl
def spC (ok : List D → Bool) : Sp := fun vs H Q _ => ∃ G B b ds, b + 100 ≤ 100000 ∧ Dds G B H b vs ds ∧ ok ds = true ∧ ∀ H', Pk G B H H' → Q (.bl true) H'
theorem fn_runC {c n k : Nat} {ok : List D → Bool} {t : TS} {N : List Str} {vs : List V} {H : Hp} {Q : VK} {E : XK} (hc : c ≤ 100) (hb : MC c ok t) (h : spC ok vs H Q E) : t { nx := fun _ H' => Q .non H', rt := Q } (L2.start N vs) H := by
  obtain ⟨G, B, b, ds, h1, h2, h3, h4⟩ := h
  refine hb G B H b _ vs ds _ (by omega) (fun i v hi => ?_) h2 h3 h4
  unfold L2.start
  rw [List.getElem?_append_left (by rw [List.length_map]; exact (List.getElem?_eq_some_iff.mp hi).1), List.getElem?_map, hi]
  rfl
def okC (n : Nat) (ps : List (List D → Option D)) : List D → Bool := fun ds => decide (ds.length = n) && ps.all fun p => isL (p ds)
theorem spC_len {n : Nat} {ps : List (List D → Option D)} {vs : List V} {H : Hp} {Q : VK} {E : XK} (h : spC (okC n ps) vs H Q E) : vs.length = n := by
  obtain ⟨G, B, b, ds, h1, h2, h3, h4⟩ := h
  unfold okC at h3
  simp only [Bool.and_eq_true, decide_eq_true_eq] at h3
  rw [h2.len, h3.1]
def pAr (i : Nat) (p : D → Option D) : List D → Option D := fun ds => ds[i]?.bind p
theorem okC_mem {n : Nat} {ps : List (List D → Option D)} {i : Nat} {p : D → Option D} (hm : pAr i p ∈ ps) {ds : List D} (h : okC n ps ds = true) : ∃ d es, ds[i]? = some d ∧ p d = some (.list es) := by
  unfold okC at h
  simp only [Bool.and_eq_true] at h
  have := (List.all_eq_true.mp h.2) _ hm
  unfold isL at this
  split at this
  · rename_i es e
    obtain ⟨d, h1, h2⟩ := Option.bind_eq_some_iff.mp e
    exact ⟨d, es, h1, h2⟩
  · cases this
def okR (f : List D → Bool) (p1 p2 : D → Option D) : D → Bool := fun d => match p1 d, p2 d with
  | some a, some b => f [a, b]
  | _, _ => false
theorem okR_ex {f : List D → Bool} {p1 p2 : D → Option D} {d : D} (h : okR f p1 p2 d = true) : ∃ d1 d2, p1 d = some d1 ∧ p2 d = some d2 ∧ f [d1, d2] = true := by
  unfold okR at h
  split at h
  · rename_i a b h1 h2; exact ⟨a, b, h1, h2, h⟩
  · cases h
section
variable [Zc]
theorem Rel.pk {F : Fr} {B : Hp} {σ : St} {ρ : Rho} (nr : ∀ (n : Nat) (s : Sl), ρ[n]? = some s → s.isRef = false) {H H' : Hp} (pk : Pk F.H B H H') (R : Rel F B H σ ρ) : Rel F B H' σ ρ := by
  induction pk with
  | refl => exact R
  | step h1 h2 h3 _ ih => exact ih (R.poke h3 h2 h1 (fun n s z1 z2 => by rw [nr n s z1] at z2; cases z2) _)
theorem mag_retC {X : XK} {i c : Nat} {ok : D → Bool} {okc : List D → Bool} {te1 te2 : TE} {p1 p2 : D → Option D} (h1 : MP i te1 p1) (h2 : MP i te2 p2) (hc : 100 ≤ c) (hm : ∀ d, ok d = true → ∃ d1 d2, p1 d = some d1 ∧ p2 d = some d2 ∧ okc [d1, d2] = true) : MAg i c ok (tRet (tCall (spC okc) [] X (tCons te1 (tCons te2 tNil)))) (mRet (mC (.bool true))) := by
  intro F B H σ ρ o E v d b hb R hv dd hok nr e q
  obtain ⟨d1, d2, e1, e2, e3⟩ := hm d hok
  have e' : some (Out.rt (.bool true, .fz) ρ) = some o := e
  cases e'
  refine h1 F.H B H b σ v d d1 _ hv dd e1 fun v1 dd1 => ?_
  refine h2 F.H B H b σ v d d2 _ hv dd e2 fun v2 dd2 => ?_
  show spC okc ([v1, v2] ++ []) H E.rt X
  exact ⟨F.H, B, b, [d1, d2], by omega, .cons dd1 (.cons dd2 .nil), e3, fun H' pk => q (.bl true) B H' σ (R.pk nr pk) (.bl true)⟩
variable {N : List Nat}
def bAnd (a : PM) (mb : Rho → SM) : Rho → SM := fun ρs ρ => (mTest a ρ).bind fun x => if x.1 = true then mb ρs x.2 else some (.rt (.bool false, .fz) x.2)
theorem mbg_and {i c : Nat} {ok : D → Bool} {ta tb : TE} {a : PM} {mb : Rho → SM} (ha : ME ta a) (hb : MBg N i c ok (tRet tb) mb) : MBg N i c ok (tRet (tAndV ta tb)) (bAnd a mb) := by
  intro F Bs σs ρs v d b B H σ ρ o E hc hok sg R e q
  obtain ⟨x, e1, e⟩ := Option.bind_eq_some_iff.mp e
  refine mt_test ha ⟨B, F.H, F.io, F.Z⟩ B H σ ρ x.1 x.2 (fun c H1 => if c = true then tb σ H1 E.rt else E.rt (.bl false) H1) R.down e1 fun B1 H1 E1 R1 => ?_
  by_cases h : x.1 = true
  · rw [if_pos h] at e ⊢
    exact hb F Bs σs ρs v d b B1 H1 σ x.2 o E hc hok (sg.go R1.sB (Ag.refl _ _)) (R.up R1) e q
  · rw [if_neg h] at e ⊢
    cases e
    exact q (.bl false) B1 H1 σ (R.up R1) (.bl false)
theorem ms_ifs {tc : TT} {A B w : TS} {m : SM} (h : MS (tIfS tc (tSeq A w) (tSeq B w)) m) : MS (tSeq (tIfS tc A B) w) m := h
theorem ms_assoc {a b w : TS} {m : SM} (h : MS (tSeq a (tSeq b w)) m) : MS (tSeq (tSeq a b) w) m := h
end
end Mir
set_option maxHeartbeats 4000000
set_option Elab.async false
set_option linter.all false
set_option maxRecDepth 100000
namespace K32
open PySem L2 Mir
noncomputable def b_law_cell_at : SM :=
    (mSeq (mIfS (mTest (mOp gLt (mVar 1) (mCB gLen (mCons (mVar 0) mNil))))
    (mRet (mOp gIx (mVar 0) (mVar 1)))
    mPass)
    (mRet (mC (.int 0))))
noncomputable def m_law_cell_at : List D → Option (D × Bool) := fnM 2 0 b_law_cell_at
noncomputable def b_law_thing_by : SM :=
    (mSeq (mIfS (mTest (mOp gEq (mOp gMod (mVar 0) (mC (.int 6))) (mC (.int 0))))
    (mRet (mC .none))
    mPass)
    (mSeq (mIfS (mTest (mOp gEq (mOp gMod (mVar 0) (mC (.int 6))) (mC (.int 1))))
    (mRet (mOp gIx (mLst (mCons (mC (.str "")) (mCons (mC (.str " A1 ")) (mCons (mC (.str "b ~")) mNil)))) (mOp gMod (mOp gDiv (mVar 0) (mC (.int 6))) (mC (.int 3)))))
    mPass)
    (mSeq (mIfS (mTest (mOp gEq (mOp gMod (mVar 0) (mC (.int 6))) (mC (.int 2))))
    (mRet (mTup (mCons (mOp gMod (mOp gDiv (mVar 0) (mC (.int 6))) (mC (.int 100))) (mCons (mC (.str "t")) (mCons (mTup (mCons (mC .none) (mCons (mTup mNil) mNil))) mNil)))))
    mPass)
    (mSeq (mIfS (mTest (mOp gEq (mOp gMod (mVar 0) (mC (.int 6))) (mC (.int 3))))
    (mRet (mOp gSub (mOp gMod (mOp gDiv (mVar 0) (mC (.int 6))) (mC (.int 13))) (mC (.int 6))))
    mPass)
    (mSeq (mIfS (mTest (mOp gEq (mOp gMod (mVar 0) (mC (.int 6))) (mC (.int 4))))
    (mRet (mTup mNil))
    mPass)
    (mRet (mOp gAdd (mOp gSub (mOp gMod (mOp gDiv (mVar 0) (mC (.int 6))) (mOp gSub (mOp gMul (mC (.int 2)) (mOp gPow (mC (.int 10)) (mC (.int 60)))) (mC (.int 1)))) (mOp gPow (mC (.int 10)) (mC (.int 60)))) (mC (.int 1)))))))))
noncomputable def m_law_thing_by : List D → Option (D × Bool) := fnM 1 0 b_law_thing_by
noncomputable def ce1_law_things_by : PM :=
    (mCall m_law_thing_by (mCons (mOp gAdd (mOp gIx (mVar 1) (mOp gMod (mVar 0) (mCB gLen (mCons (mVar 1) mNil)))) (mOp gDiv (mVar 0) (mCB gLen (mCons (mVar 1) mNil)))) mNil))
noncomputable def b_law_things_by : SM :=
    (mSeq (mAsg 1 (mSl gSl (mVar 0) (mPart (mC (.int 2))) (mPart (mC (.int 82)))))
    (mSeq (mAsg 2 (mCall m_law_cell_at (mCons (mVar 0) (mCons (mC (.int 0)) mNil))))
    (mSeq (mAsg 3 (mCB gLen (mCons (mVar 1) mNil)))
    (mSeq (mIfS (mTest (mOp gEq (mOp gMod (mVar 2) (mC (.int 7))) (mC (.int 3))))
    (mSeq (mAsg 1 (mOp gAdd (mVar 1) (mLst (mCons (mC (.int 0)) mNil))))
    (mAsg 3 (mOp gAdd (mC (.int 81)) (mOp gMod (mOp gDiv (mVar 2) (mC (.int 7))) (mC (.int 209))))))
    mPass)
    (mRet (mLC [("_law_cells", 1)] (mRg1 (mCons (mVar 3) mNil)) mYes ce1_law_things_by))))))
noncomputable def m_law_things_by : List D → Option (D × Bool) := fnM 1 3 b_law_things_by
noncomputable def b_double_row : SM :=
    (mRet (mOp gAdd (mCB gListRev (mCons (mOp gIx (mVar 0) (mC (.int 0))) mNil)) (mOp gIx (mVar 0) (mC (.int 1)))))
noncomputable def m_double_row : List D → Option (D × Bool) := fnM 1 0 b_double_row
noncomputable def ce1_law_same (self : List D → Option (D × Bool)) : PM :=
    (mCall self (mCons (mVar 0) (mCons (mVar 1) mNil)))
noncomputable def b_law_same (self : List D → Option (D × Bool)) : SM :=
    (mSeq (mIfS (mOr (mTest (mIsi "bool" (mVar 0))) (mTest (mOp gNe (mIsi "tuple" (mVar 0)) (mIsi "tuple" (mVar 1)))))
    (mRet (mC (.bool false)))
    mPass)
    (mSeq (mIfS (mTest (mIsi "tuple" (mVar 1)))
    (mRet (mAndV (mOp gEq (mCB gLen (mCons (mVar 0) mNil)) (mCB gLen (mCons (mVar 1) mNil))) (mCB gAll (mCons (mLC2 [] (mItZT (mCons (mVar 0) (mCons (mVar 1) mNil))) mYes (ce1_law_same self)) mNil))))
    mPass)
    (mRet (mOp gEq (mVar 0) (mVar 1)))))
noncomputable def m_law_same : Nat → List D → Option (D × Bool)
  | 0 => fun _ => none
  | n + 1 => fnM 2 0 (b_law_same (m_law_same n))
noncomputable def ce1_law_is_list : PM :=
    (mCall (m_law_same 8) (mCons (mVar 0) (mCons (mVar 1) mNil)))
noncomputable def b_law_is_list : SM :=
    (mSeq (mIfS (mOr (mNot (mTest (mIsi "list" (mVar 0)))) (mTest (mOp gNe (mCB gLen (mCons (mVar 0) mNil)) (mCB gLen (mCons (mVar 1) mNil)))))
    (mRet (mC (.bool false)))
    mPass)
    (mRet (mCB gAll (mCons (mLC2 [] (mItZ (mCons (mVar 0) (mCons (mVar 1) mNil))) mYes ce1_law_is_list) mNil))))
noncomputable def m_law_is_list : List D → Option (D × Bool) := fnM 2 0 b_law_is_list
noncomputable def b_law_is_double : SM :=
    (mSeq (mIfS (mOr (mNot (mTest (mIsi "tuple" (mVar 0)))) (mTest (mOp gNe (mCB gLen (mCons (mVar 0) mNil)) (mC (.int 2)))))
    (mRet (mC (.bool false)))
    mPass)
    (mRet (mAndV (mCall m_law_is_list (mCons (mOp gIx (mVar 0) (mC (.int 0))) (mCons (mVar 1) mNil))) (mCall m_law_is_list (mCons (mOp gIx (mVar 0) (mC (.int 1))) (mCons (mVar 2) mNil))))))
noncomputable def m_law_is_double : List D → Option (D × Bool) := fnM 3 0 b_law_is_double
noncomputable def b_law_looked : SM :=
    (mSeq (mAsg 3 (mCall m_double_row (mCons (mVar 0) mNil)))
    (mSeq (mIfS (mNot (mTest (mCall m_law_is_list (mCons (mVar 3) (mCons (mOp gAdd (mCB gListRev (mCons (mVar 1) mNil)) (mVar 2)) mNil)))))
    (mRet (mC (.bool false)))
    mPass)
    (mSeq (mDrop (mMut 3 fAppend (mCons (mC (.str "z")) mNil)))
    (mSeq (mDrop (mMut0 3 fReverse))
    (mRet (mCall m_law_is_double (mCons (mVar 0) (mCons (mVar 1) (mCons (mVar 2) mNil)))))))))
noncomputable def m_law_looked : List D → Option (D × Bool) := fnM 3 1 b_law_looked
def m_law_altered : List D → Bool := okC 2 [(pAr 0 (pIx some 0)), (pAr 0 (pIx some 1)), (pAr 1 some)]
noncomputable def b_put_first : SM :=
    (mRet (mTupN (mConsN (mTupN (mConsN (mLeafN (mOp gAdd (mOp gIx (mVar 0) (mC (.int 0))) (mLst (mCons (mVar 1) mNil)))) (mConsN (mLeafN (mCB gList (mCons (mOp gIx (mVar 0) (mC (.int 1))) mNil))) mNil))) (mConsN (mLeafN (mLst (mCons (mC (.str "laid")) mNil))) mNil))))
noncomputable def m_put_first : List D → Option (D × Bool) := fnM 2 0 b_put_first
noncomputable def b_put_last : SM :=
    (mRet (mTupN (mConsN (mTupN (mConsN (mLeafN (mCB gList (mCons (mOp gIx (mVar 0) (mC (.int 0))) mNil))) (mConsN (mLeafN (mOp gAdd (mOp gIx (mVar 0) (mC (.int 1))) (mLst (mCons (mVar 1) mNil)))) mNil))) (mConsN (mLeafN (mLst (mCons (mC (.str "laid")) mNil))) mNil))))
noncomputable def m_put_last : List D → Option (D × Bool) := fnM 2 0 b_put_last
noncomputable def b_double_credit : SM :=
    (mRet (mCB gAbs (mCons (mOp gSub (mCB gLen (mCons (mOp gIx (mVar 0) (mC (.int 0))) mNil)) (mCB gLen (mCons (mOp gIx (mVar 0) (mC (.int 1))) mNil))) mNil)))
noncomputable def m_double_credit : List D → Option (D × Bool) := fnM 1 0 b_double_credit
noncomputable def b_law_whole : SM :=
    (mRet (mAndV (mIsi "int" (mVar 0)) (mNotV (mIsi "bool" (mVar 0)))))
noncomputable def m_law_whole : List D → Option (D × Bool) := fnM 1 0 b_law_whole
noncomputable def b_law_paid : SM :=
    (mSeq (mAsg 3 (mCall m_double_credit (mCons (mVar 0) mNil)))
    (mSeq (mAsg 4 (mCall m_double_credit (mCons (mVar 1) mNil)))
    (mSeq (mIfS (mOr (mNot (mTest (mCall m_law_whole (mCons (mVar 3) mNil)))) (mTest (mOp gNe (mVar 3) (mCB gAbs (mCons (mOp gSub (mCB gLen (mCons (mOp gIx (mVar 0) (mC (.int 0))) mNil)) (mCB gLen (mCons (mOp gIx (mVar 0) (mC (.int 1))) mNil))) mNil)))))
    (mRet (mC (.bool false)))
    mPass)
    (mSeq (mIfS (mOr (mNot (mTest (mCall m_law_whole (mCons (mVar 4) mNil)))) (mTest (mOp gNe (mVar 4) (mCB gAbs (mCons (mOp gSub (mCB gLen (mCons (mOp gIx (mVar 1) (mC (.int 0))) mNil)) (mCB gLen (mCons (mOp gIx (mVar 1) (mC (.int 1))) mNil))) mNil)))))
    (mRet (mC (.bool false)))
    mPass)
    (mRet (mOp gLe (mOp gAdd (mCB gLen (mCons (mVar 2) mNil)) (mVar 4)) (mOp gAdd (mVar 3) (mC (.int 2)))))))))
noncomputable def m_law_paid : List D → Option (D × Bool) := fnM 3 2 b_law_paid
noncomputable def rb1_law_put_right : Rho → SM :=
    (bSeq (mIfS (mOr (mNot (mTest (mIsi "tuple" (mVar 5)))) (mOr (mTest (mOp gNe (mCB gLen (mCons (mVar 5) mNil)) (mC (.int 2)))) (mNot (mTest (mCall m_law_is_list (mCons (mOp gIx (mVar 5) (mC (.int 1))) (mCons (mLst (mCons (mC (.str "laid")) mNil)) mNil)))))))
    (mRet (mC (.bool false)))
    mPass)
    (bSeq (mIfS (mOr (mNot (mTest (mCall m_law_is_double (mCons (mOp gIx (mVar 5) (mC (.int 0))) (mCons (mVar 3) (mCons (mVar 4) mNil)))))) (mNot (mTest (mCall m_law_paid (mCons (mVar 0) (mCons (mOp gIx (mVar 5) (mC (.int 0))) (mCons (mOp gIx (mVar 5) (mC (.int 1))) mNil)))))))
    (mRet (mC (.bool false)))
    mPass)
    (fun ps p => mRet (mC (.bool true)) (forgetP [] 5 ps p))))
noncomputable def b_law_put_right : SM :=
    (mSeq (mAsg 3 (mCB gList (mCons (mOp gIx (mVar 0) (mC (.int 0))) mNil)))
    (mSeq (mAsg 4 (mCB gList (mCons (mOp gIx (mVar 0) (mC (.int 1))) mNil)))
    (mIfS (mTest (mVar 2))
    (mDeadN 5 m_put_first (mCons (mVar 0) (mCons (mVar 1) mNil)) (okR m_law_altered (pIx some 0) (pIx some 1))
    (bSeq (mDrop (mMut 3 fAppend (mCons (mVar 1) mNil)))
    rb1_law_put_right))
    (mDeadN 5 m_put_last (mCons (mVar 0) (mCons (mVar 1) mNil)) (okR m_law_altered (pIx some 0) (pIx some 1))
    (bSeq (mDrop (mMut 4 fAppend (mCons (mVar 1) mNil)))
    rb1_law_put_right)))))
noncomputable def m_law_put_right : List D → Option (D × Bool) := fnM 3 3 b_law_put_right
noncomputable def b_law_due : SM :=
    (mSeq (mAsg 2 (mCB gList (mCons (mOp gIx (mVar 0) (mC (.int 0))) mNil)))
    (mSeq (mAsg 3 (mCB gList (mCons (mOp gIx (mVar 0) (mC (.int 1))) mNil)))
    (mSeq (mAsg 4 (mOp gAdd (mCB gListRev (mCons (mVar 2) mNil)) (mVar 3)))
    (mSeq (mAsg 5 (mOp gDiv (mOp gAdd (mCB gLen (mCons (mVar 4) mNil)) (mC (.int 1))) (mC (.int 2))))
    (mSeq (mAsg 6 (mOp gAdd (mRep (mCons (mC (.str "moved")) mNil) (mCB gLen (mCons (mVar 4) mNil))) (mLst (mCons (mC (.str "taken")) mNil))))
    (mSeq (mIfS (mAnd (mTest (mVar 1)) (mTest (mOp gEq (mVar 2) (mLst mNil))))
    (mRet (mTup (mCons (mCB gListRev (mCons (mSl gSl (mVar 4) (mPart (mC (.int 1))) (mPart (mVar 5))) mNil)) (mCons (mSl gSl (mVar 4) (mPart (mVar 5)) mNoPart) (mCons (mVar 6) mNil)))))
    mPass)
    (mSeq (mIfS (mAnd (mNot (mTest (mVar 1))) (mTest (mOp gEq (mVar 3) (mLst mNil))))
    (mRet (mTup (mCons (mCB gListRev (mCons (mSl gSl (mVar 4) mNoPart (mPart (mOp gSub (mCB gLen (mCons (mVar 4) mNil)) (mVar 5)))) mNil)) (mCons (mSl gSl (mVar 4) (mPart (mOp gSub (mCB gLen (mCons (mVar 4) mNil)) (mVar 5))) (mPart (mUn gNeg (mC (.int 1))))) (mCons (mVar 6) mNil)))))
    mPass)
    (mSeq (mIfS (mTest (mVar 1))
    (mRet (mTup (mCons (mSl gSl (mVar 2) mNoPart (mPart (mUn gNeg (mC (.int 1))))) (mCons (mVar 3) (mCons (mLst (mCons (mC (.str "taken")) mNil)) mNil)))))
    mPass)
    (mRet (mTup (mCons (mVar 2) (mCons (mSl gSl (mVar 3) mNoPart (mPart (mUn gNeg (mC (.int 1))))) (mCons (mLst (mCons (mC (.str "taken")) mNil)) mNil)))))))))))))
noncomputable def m_law_due : List D → Option (D × Bool) := fnM 2 5 b_law_due
noncomputable def b_take_near : SM :=
    (mSeq (mIfS (mTest (mOp gGt (mCB gLen (mCons (mVar 0) mNil)) (mC (.int 0))))
    (mRet (mTupN (mConsN (mLeafN (mOp gIx (mVar 0) (mUn gNeg (mC (.int 1))))) (mConsN (mTupN (mConsN (mLeafN (mSl gSl (mVar 0) mNoPart (mPart (mUn gNeg (mC (.int 1)))))) (mConsN (mLeafN (mCB gList (mCons (mVar 1) mNil))) mNil))) (mConsN (mLeafN (mLst (mCons (mC (.str "taken")) mNil))) mNil)))))
    mPass)
    (mSeq (mIfS (mTest (mOp gEq (mCB gLen (mCons (mVar 1) mNil)) (mC (.int 0))))
    mNever
    mPass)
    (mSeq (nr (mAsg 2 (mOp gDiv (mOp gAdd (mCB gLen (mCons (mVar 1) mNil)) (mC (.int 1))) (mC (.int 2)))))
    (mSeq (nr (mAsg 3 (mCB gListRev (mCons (mSl gSl (mVar 1) mNoPart (mPart (mVar 2))) mNil))))
    (mSeq (nr (mAsg 4 (mMut0 3 fPop)))
    (mRet (mTupN (mConsN (mLeafN (mVar 4)) (mConsN (mTupN (mConsN (mLeafN (mVar 3)) (mConsN (mLeafN (mSl gSl (mVar 1) (mPart (mVar 2)) mNoPart)) mNil))) (mConsN (mLeafN (mOp gAdd (mRep (mCons (mC (.str "moved")) mNil) (mCB gLen (mCons (mVar 1) mNil))) (mLst (mCons (mC (.str "taken")) mNil)))) mNil))))))))))
noncomputable def m_take_near : List D → Option (D × Bool) := fnM 2 3 b_take_near
noncomputable def b_take_first : SM :=
    ((mRetT (fun _ => mCallN m_take_near (mCons (mOp gIx (mVar 0) (mC (.int 0))) (mCons (mOp gIx (mVar 0) (mC (.int 1))) mNil)))) [])
noncomputable def m_take_first : List D → Option (D × Bool) := fnM 1 0 b_take_first
noncomputable def b_take_last : SM :=
    ((mSetN 1 m_take_near (mCons (mOp gIx (mVar 0) (mC (.int 1))) (mCons (mOp gIx (mVar 0) (mC (.int 0))) mNil))
    (mRetT (mTupT (mConsT (mPth 1 (pIx some 0)) (mConsT (mTupT (mConsT (mPth 1 (pIx (pIx some 1) 1)) (mConsT (mPth 1 (pIx (pIx some 1) 0)) mNilT))) (mConsT (mPth 1 (pIx some 2)) mNilT)))))) [])
noncomputable def m_take_last : List D → Option (D × Bool) := fnM 1 1 b_take_last
noncomputable def rb1_law_take_right : Rho → SM :=
    (bSeq (mIfS (mOr (mNot (mTest (mIsi "tuple" (mVar 6)))) (mOr (mTest (mOp gNe (mCB gLen (mCons (mVar 6) mNil)) (mC (.int 3)))) (mNot (mTest (mCall (m_law_same 8) (mCons (mOp gIx (mVar 6) (mC (.int 0))) (mCons (mVar 7) mNil)))))))
    (mRet (mC (.bool false)))
    mPass)
    (bSeq (mIfS (mOr (mNot (mTest (mCall m_law_is_double (mCons (mOp gIx (mVar 6) (mC (.int 1))) (mCons (mVar 3) (mCons (mVar 4) mNil)))))) (mNot (mTest (mCall m_law_is_list (mCons (mOp gIx (mVar 6) (mC (.int 2))) (mCons (mVar 5) mNil))))))
    (mRet (mC (.bool false)))
    mPass)
    (bAnd (mCall m_law_paid (mCons (mVar 0) (mCons (mOp gIx (mVar 6) (mC (.int 1))) (mCons (mOp gIx (mVar 6) (mC (.int 2))) mNil)))) (fun ps p => mRet (mC (.bool true)) (forgetP [7] 6 ps p)))))
noncomputable def b_law_take_right : SM :=
    (mSeq (mAsg 2 (mOp gAdd (mCB gListRev (mCons (mOp gIx (mVar 0) (mC (.int 0))) mNil)) (mOp gIx (mVar 0) (mC (.int 1)))))
    (mSeq (mAsgG (mCall m_law_due (mCons (mVar 0) (mCons (mVar 1) mNil))) (mgU 3 (mgsCons (mgN 3) (mgsCons (mgN 4) (mgsCons (mgN 5) mgsNil)))))
    (mIfS (mTest (mVar 1))
    (mDeadN 6 m_take_first (mCons (mVar 0) mNil) (okR m_law_altered (pIx some 1) (pIx some 2))
    (bSeq (mAsg 7 (mOp gIx (mVar 2) (mC (.int 0))))
    rb1_law_take_right))
    (mDeadN 6 m_take_last (mCons (mVar 0) mNil) (okR m_law_altered (pIx some 1) (pIx some 2))
    (bSeq (mAsg 7 (mOp gIx (mVar 2) (mUn gNeg (mC (.int 1)))))
    rb1_law_take_right)))))
noncomputable def m_law_take_right : List D → Option (D × Bool) := fnM 2 6 b_law_take_right
noncomputable def lb1_law : SM :=
    (mSeq (mIfS (mOr (mNot (mTest (mCall m_law_looked (mCons (mVar 5) (mCons (mSl gSl (mVar 1) mNoPart (mPart (mVar 3))) (mCons (mSl gSl (mVar 1) (mPart (mVar 3)) mNoPart) mNil)))))) (mNot (mTest (mCall m_law_put_right (mCons (mVar 5) (mCons (mVar 4) (mCons (mVar 6) mNil)))))))
    (mRet (mC (.bool false)))
    mPass)
    (mIfS (mAnd (mTest (mOp gNe (mVar 1) (mLst mNil))) (mNot (mTest (mCall m_law_take_right (mCons (mVar 5) (mCons (mVar 6) mNil))))))
    (mRet (mC (.bool false)))
    mPass))
noncomputable def b_law : SM :=
    (mSeq (mAsg 1 (mCall m_law_things_by (mCons (mVar 0) mNil)))
    (mSeq (mAsg 2 (mCall m_law_cell_at (mCons (mVar 0) (mCons (mC (.int 0)) mNil))))
    (mSeq (mAsg 3 (mOp gIx (mLst (mCons (mOp gMod (mOp gDiv (mVar 2) (mC (.int 6))) (mOp gAdd (mCB gLen (mCons (mVar 1) mNil)) (mC (.int 1)))) (mCons (mC (.int 0)) (mCons (mCB gLen (mCons (mVar 1) mNil)) mNil)))) (mOp gIx (mLst (mCons (mC (.int 0)) (mCons (mC (.int 0)) (mCons (mC (.int 0)) (mCons (mC (.int 0)) (mCons (mC (.int 1)) (mCons (mC (.int 2)) mNil))))))) (mOp gMod (mVar 2) (mC (.int 6))))))
    (mSeq (mAsg 4 (mCall m_law_thing_by (mCons (mCall m_law_cell_at (mCons (mVar 0) (mCons (mC (.int 1)) mNil))) mNil)))
    (mSeq (mAsg 5 (mTup (mCons (mSl gSl (mVar 1) mNoPart (mPart (mVar 3))) (mCons (mSl gSl (mVar 1) (mPart (mVar 3)) mNoPart) mNil))))
    (mSeq (mFor (mFoL (mLst (mCons (mC (.bool true)) (mCons (mC (.bool false)) (mCons (mC (.bool true)) (mCons (mC (.bool false)) mNil)))))) (mgN 6)
    lb1_law)
    (mRet (mCall m_law_looked (mCons (mVar 5) (mCons (mSl gSl (mVar 1) mNoPart (mPart (mVar 3))) (mCons (mSl gSl (mVar 1) (mPart (mVar 3)) mNoPart) mNil)))))))))))
noncomputable def m_law : List D → Option (D × Bool) := fnM 1 6 b_law
end K32
set_option Elab.async false
set_option linter.all false
set_option maxRecDepth 100000
namespace K32
open PySem L2 Mir
local macro_rules | `(tactic| walk_at "mir") => `(tactic| simp only [*, fnM, mSeq, mIfS, mTest, mOp, sv, mVar, mC, mCB, mCons, mNil, refr, gB0, gI0, gI, gAdd, gMul, gNeg, gIx, atI_map, gSl, gLen, gMax, gMin, gAbs, gInt, gIs, gIsNot, resK_f, resK_l, resK_t, asB, asI, mUn, mIsi, gEq_int, gNe_int, gEq_ints, gNe_ints, gEq_bool, gNe_bool, isi_int_int, isi_int_bool, isi_list_list, isi_tuple_tuple, isNone,
  mAnd, mOr, mNot, mAndV, mOrV, mNotV, mIfE, mTup, mLst, fzAll, fzOne, mAsg, sto, setSl, mRet, mRetN, mDrop, mPass, mAug, retD, mCall, pureR_int, pureR_bool, pureR_str, pureR_none, pureR_list, pureR_tup, pureR_new, pureDs_nil, pureDs_int, pureDs_bool, pureDs_list, pureDs_ints, kO_f, kO_t, mRg1, mRg2, rg1, rg2, mItL, mFoL, asL, asT, mFor, mgN, mgT, mgU, asS, mgsCons, mgsNil, mAsgG, mgSub, ownL, Mir.putAt, Sl.put, mMut, mMut0, fAppend, fPop, fClear,
  List.length_cons, List.length_nil, List.map_cons, List.map_nil, List.cons_append, List.nil_append, List.replicate, List.getElem?_cons_zero, List.getElem?_cons_succ, List.getElem?_nil, List.set_cons_zero, List.set_cons_succ,
  Option.bind_some, Option.bind_none, Option.map_some, Option.map_none, if_true, if_false, cIf_true, Bool.false_eq_true, reduceIte, decide_true, decide_false, Bool.not_true, Bool.not_false, ite_true, ite_false, Nat.reduceAdd, Nat.reduceEqDiff, Bool.and_true, Bool.true_and, Bool.and_false, Bool.not_eq_true, not_true_eq_false, not_false_eq_true, Int.reduceLT, Int.reduceLE, Int.reduceEq, Nat.reduceLeDiff])
local macro_rules | `(tactic| walk_at "st") => `(tactic| (apply seq_nx; · (walk_at "mir"; try exact rfl)))
def cell (ns : List Int) (k : Nat) : Int := ns.getD k 0
theorem cell_at (ns : List Int) (k : Nat) : m_law_cell_at [.list (ns.map .int), .int k] = some (.int (cell ns k), false) := by
  have ll := gLen_ints ns
  by_cases h : k < ns.length
  · have c : (k : Int) < (ns.length : Int) := Int.ofNat_lt.mpr h
    have g : gIx (.list (ns.map .int)) (.int (k : Int)) = some (.int (cell ns k), false) := by
      show (L2.atI (ns.map PyData.int) (k : Int)).map (fun d => (d, false)) = _
      unfold cell
      rw [Mir.atI_nat, List.getElem?_map, List.getElem?_eq_getElem h, List.getD_eq_getElem?_getD, List.getElem?_eq_getElem h]
      rfl
    generalize (k : Int) = kk at *
    generalize (ns.length : Int) = n at *
    generalize PyData.list (ns.map .int) = S at *
    exact fn_of (o := .rt (.int (cell ns k), .fz) [.fz S, .fz (.int kk)]) rfl (seq_rt (if_t (tstB (be_lt (ie_var rfl) (cb_ev (rs := [(S, .fz)]) (res := (.int n, false)) rfl ll)) (decide_eq_true c)) (ret_eq (op_ev (r := (.int kk, .fz)) (res := (.int (cell ns k), false)) (sv_fz (var_fz rfl)) (sv_fz (var_fz rfl)) g)))) rfl
  · have c : ¬ (k : Int) < (ns.length : Int) := fun z => h (Int.ofNat_lt.mp z)
    have e : cell ns k = 0 := by
      unfold cell
      rw [List.getD_eq_getElem?_getD, List.getElem?_eq_none (Nat.le_of_not_lt h)]
      rfl
    rw [e]
    generalize (k : Int) = kk at *
    generalize (ns.length : Int) = n at *
    generalize PyData.list (ns.map .int) = S at *
    exact fn_of (o := .rt (.int 0, .fz) [.fz S, .fz (.int kk)]) rfl (seq_nx (ρ1 := [.fz S, .fz (.int kk)]) (if_f (tstB (be_lt (ie_var rfl) (cb_ev (rs := [(S, .fz)]) (res := (.int n, false)) rfl ll)) (decide_eq_false c)) rfl) (ret_eq ie_c)) rfl
theorem whole (i : Int) : m_law_whole [.int i] = some (.bool true, false) :=
  fn_of (o := .rt (.bool true, .fz) [.fz (.int i)]) rfl (ret_eq (be_and (u := true) (isi_ev (sv_fz (var_fz rfl)) (isi_int_int i)) (fun _ => be_not (u := false) (isi_ev (sv_fz (var_fz rfl)) (isi_int_bool i))) (fun h => by cases h))) rfl
theorem op_ro {a b : PM} {ρ ρ1 ρ2 : Rho} {x : D} {r : RV} {res : D × Bool} {g : D → D → Option (D × Bool)} (h1 : sv a ρ = some ((x, .ro), ρ1)) (h2 : sv b ρ1 = some (r, ρ2)) (h3 : g x r.1 = some res) : mOp g a b ρ = some (resK res, ρ2) := by
  unfold mOp; rw [h1, Option.bind_some]; dsimp only; rw [h2, Option.bind_some]; dsimp only [refr, Option.bind_some]; rw [h3, Option.map_some]
theorem gIx_list (l : List D) (k : Int) (d : D) (h : L2.atI l k = some d) : gIx (.list l) (.int k) = some (d, false) := by
  show (L2.atI l k).map _ = _
  rw [h]; rfl
theorem call_fz {f : List D → Option (D × Bool)} {m : Rho → Option (List RV × Rho)} {ρ ρ1 : Rho} {rs : List RV} {d : D} {o : Bool} {ds : List D} (h1 : m ρ = some (rs, ρ1)) (h2 : f (rs.map (·.1)) = some (d, o)) (h3 : fzAll rs ρ1 = some (ds, ρ1)) : mCall f m ρ = some (kO d o, ρ1) := by
  unfold mCall; rw [h1, Option.bind_some]; dsimp only; rw [h2, Option.bind_some]
  split
  · rfl
  · rw [h3]; rfl
def NIo (s : Sl) : Prop := ∀ d, s ≠ .io d
theorem NIo.no : NIo .no := fun d h => by cases h
theorem NIo.fz (x : D) : NIo (.fz x) := fun d h => by cases h
theorem NIo.own (x : D) : NIo (.own x) := fun d h => by cases h
local macro_rules | `(tactic| walk_at "szo") => `(tactic| (try simp only [List.length_append, List.length_cons, List.length_nil, List.length_reverse, List.length_replicate, List.length_map]; omega))
theorem lc2_ev {fr : List (Str × Nat)} {it : Rho → Option (List D × Rho)} {c : Rho → Option (Bool × Rho)} {e : PM} {ds ys : List D} {ρ ρ1 : Rho} (h1 : it ρ = some (ds, ρ1)) (h2 : compL2 c e (fr.map fun p => demote ρ1 p.2) ds = some ys) (h3 : ys.length ≤ 100000) : mLC2 fr it c e ρ = some ((.list ys, .new), ρ1) := by
  unfold mLC2; rw [h1, Option.bind_some]; dsimp only; rw [h2, Option.bind_some, cIf_pos (sz_lt h3)]
theorem zipD_self (ds : List D) : zipD ds ds = ds.map fun d => PyData.tuple [d, d] := by
  unfold zipD
  induction ds with
  | nil => rfl
  | cons d ds ih => rw [List.zipWith_cons_cons, ih, List.map_cons]
theorem compL2_all {e : PM} {ρn : Rho} : ∀ ds : List D, (∀ d ∈ ds, ∃ ρ, sv e (.fz d :: .fz d :: ρn) = some ((.bool true, .fz), ρ)) → compL2 mYes e ρn (ds.map fun d => PyData.tuple [d, d]) = some (ds.map fun _ => PyData.bool true)
  | [], _ => rfl
  | d :: ds, h => by
    obtain ⟨ρ, h1⟩ := h d List.mem_cons_self
    have ih := compL2_all ds fun x hx => h x (List.mem_cons_of_mem _ hx)
    rw [List.map_cons, List.map_cons]
    unfold compL2
    show ((mYes (.fz d :: .fz d :: ρn)).bind fun b => if b.1 = true then (sv e (.fz d :: .fz d :: ρn)).bind fun y => (asF y.1).bind fun z => (compL2 mYes e ρn (ds.map fun d => PyData.tuple [d, d])).map (z :: ·) else compL2 mYes e ρn (ds.map fun d => PyData.tuple [d, d])) = _
    rw [h1, ih]
    rfl
theorem boolsOf_true : ∀ ds : List D, boolsOf (ds.map fun _ => PyData.bool true) = some (ds.map fun _ => true)
  | [] => rfl
  | d :: ds => by rw [List.map_cons]; unfold boolsOf; rw [boolsOf_true ds]; rfl
theorem gAll_true (ds : List D) : gAll [.list (ds.map fun _ => PyData.bool true)] = some (.bool true, false) := by
  show (boolsOf _).map _ = _
  rw [boolsOf_true, Option.map_some]
  have : (ds.map fun _ => true).all id = true := by simp
  rw [this]
theorem var_io {ρ : Rho} {i : Nat} {d : D} (h : ρ[i]? = some (.io d)) : mVar i ρ = some ((d, .at i), ρ) := by unfold mVar; rw [h]
theorem op_io {a b : PM} {ρ ρ1 ρ2 : Rho} {x y : D} {r : RV} {res : D × Bool} {g : D → D → Option (D × Bool)} {i : Nat} (h1 : sv a ρ = some ((x, .at i), ρ1)) (h2 : sv b ρ1 = some (r, ρ2)) (h4 : ρ2[i]? = some (.io y)) (h3 : g y r.1 = some res) : mOp g a b ρ = some (resK res, ρ2) := by
  unfold mOp; rw [h1, Option.bind_some]; dsimp only; rw [h2, Option.bind_some]; simp only [refr, h4, Option.bind_some, h3, Option.map_some]
inductive Thing : D → Prop
  | non : Thing .none
  | s0 : Thing (.str "")
  | s1 : Thing (.str " A1 ")
  | s2 : Thing (.str "b ~")
  | int (i : Int) : Thing (.int i)
  | unit : Thing (.tuple [])
  | tup (i : Int) : Thing (.tuple [.int i, .str "t", .tuple [.none, .tuple []]])
def Ths (l : List D) : Prop := ∀ d ∈ l, Thing d
theorem Ths.nil : Ths [] := fun d h => by cases h
theorem Ths.cons {d : D} {l : List D} (h : Thing d) (t : Ths l) : Ths (d :: l) := fun x hx => by
  rcases List.mem_cons.mp hx with rfl | hx
  · exact h
  · exact t x hx
theorem Ths.append {a b : List D} (h : Ths a) (t : Ths b) : Ths (a ++ b) := fun x hx => (List.mem_append.mp hx).elim (h x) (t x)
theorem Ths.head {d : D} {l : List D} (h : Ths (d :: l)) : Thing d := h d List.mem_cons_self
theorem Ths.tail {d : D} {l : List D} (h : Ths (d :: l)) : Ths l := fun x hx => h x (List.mem_cons_of_mem _ hx)
theorem Thing.lay {d : D} (h : Thing d) : d.canLay0 = true ∧ d.depth ≤ 8 := by
  cases h with
  | non => exact ⟨rfl, by simp [PyData.depth]⟩
  | s0 => exact ⟨by decide +kernel, by simp [PyData.depth]⟩
  | s1 => exact ⟨by decide +kernel, by simp [PyData.depth]⟩
  | s2 => exact ⟨by decide +kernel, by simp [PyData.depth]⟩
  | int i => exact ⟨rfl, by simp [PyData.depth]⟩
  | unit => exact ⟨rfl, by simp [PyData.depth, PyData.depthAll]⟩
  | tup i =>
    refine ⟨?_, by simp [PyData.depth, PyData.depthAll]⟩
    simp only [PyData.canLay0, PyData.canLayAll0, Bool.and_true, Bool.true_and]
    decide +kernel
theorem shaped_ths {l : List D} (h : Ths l) : SeqAt.shaped (.list l) = true := by
  have a : ∀ l : List D, Ths l → PyData.canLayAll0 l = true ∧ PyData.depthAll l ≤ 8 := by
    intro l
    induction l with
    | nil => intro _; exact ⟨rfl, by simp [PyData.depthAll]⟩
    | cons d l ih =>
      intro h
      obtain ⟨h1, h2⟩ := ih h.tail
      obtain ⟨h3, h4⟩ := h.head.lay
      refine ⟨by simp only [PyData.canLayAll0, h1, h3, Bool.and_self], ?_⟩
      simp only [PyData.depthAll]
      omega
  obtain ⟨h1, h2⟩ := a l h
  unfold SeqAt.shaped
  rw [decide_eq_true (by simp only [PyData.depth]; omega), Bool.and_true]
  simp only [PyData.canLay0, h1]
theorem eq_nil : gEq (.list []) (.list []) = some (.bool true, false) := by
  unfold gEq; rw [if_pos ⟨shaped_ths Ths.nil, shaped_ths Ths.nil⟩]; simp only [PyData.eqv, PyData.eqvAll]
theorem ne_nil : gNe (.list []) (.list []) = some (.bool false, false) := by
  unfold gNe; rw [if_pos ⟨shaped_ths Ths.nil, shaped_ths Ths.nil⟩]; simp only [PyData.eqv, PyData.eqvAll, Bool.not_true]
theorem isi_tuple_bool (l : List D) : gIsi "bool" (.tuple l) = some (.bool false, false) := by simp [gIsi, tyD, tyAsked, tyIs]
theorem same_flat (n : Nat) (d : D) (hb : gIsi "bool" d = some (.bool false, false)) (ht : gIsi "tuple" d = some (.bool false, false)) (he : gEq d d = some (.bool true, false)) : m_law_same (n + 1) [d, d] = some (.bool true, false) := by
  show fnM 2 0 (b_law_same (m_law_same n)) [d, d] = _
  refine fn_of (o := .rt (.bool true, .fz) [.fz d, .fz d]) rfl ?_ rfl
  refine seq_nx (ρ1 := [.fz d, .fz d]) (if_f (or_f (test_ev (k := .fz) (isi_ev (sv_fz (var_fz rfl)) hb)) (test_ev (k := .fz) (op_ev (r := (.bool false, .fz)) (res := (.bool false, false)) (sv_fz (isi_ev (sv_fz (var_fz rfl)) ht)) (sv_fz (isi_ev (sv_fz (var_fz rfl)) ht)) (gNe_bool false false)))) rfl) ?_
  refine seq_nx (ρ1 := [.fz d, .fz d]) (if_f (test_ev (k := .fz) (isi_ev (sv_fz (var_fz rfl)) ht)) rfl) ?_
  exact ret_eq (op_ev (r := (d, .fz)) (res := (.bool true, false)) (sv_fz (var_fz rfl)) (sv_fz (var_fz rfl)) he)
theorem same_tup (n : Nat) (ds : List D) (hz : ds.length ≤ 100000) (h : ∀ d ∈ ds, m_law_same n [d, d] = some (.bool true, false)) : m_law_same (n + 1) [.tuple ds, .tuple ds] = some (.bool true, false) := by
  show fnM 2 0 (b_law_same (m_law_same n)) [.tuple ds, .tuple ds] = _
  have ht := isi_tuple_tuple ds
  have hb := isi_tuple_bool ds
  refine fn_of (o := .rt (.bool true, .fz) [.fz (.tuple ds), .fz (.tuple ds)]) rfl ?_ rfl
  refine seq_nx (ρ1 := [.fz (.tuple ds), .fz (.tuple ds)]) (if_f (or_f (test_ev (k := .fz) (isi_ev (sv_fz (var_fz rfl)) hb)) (test_ev (k := .fz) (op_ev (r := (.bool true, .fz)) (res := (.bool false, false)) (sv_fz (isi_ev (sv_fz (var_fz rfl)) ht)) (sv_fz (isi_ev (sv_fz (var_fz rfl)) ht)) (gNe_bool true true)))) rfl) ?_
  refine seq_rt (if_t (test_ev (k := .fz) (isi_ev (sv_fz (var_fz rfl)) ht)) (ret_eq ?_))
  have ln : ∀ i : Nat, [Sl.fz (.tuple ds), Sl.fz (.tuple ds)][i]? = some (.fz (.tuple ds)) → IE (mCB gLen (mCons (mVar i) mNil)) [.fz (.tuple ds), .fz (.tuple ds)] (ds.length : Int) := fun i hi => cb_ev (rs := [(.tuple ds, .fz)]) (res := (.int (ds.length : Int), false)) (cons_fz (sv_fz (var_fz hi)) nil_ev) rfl
  refine be_and (u := true) (v := true) ((be_eq (ln 0 rfl) (ln 1 rfl)).is (decide_eq_true rfl)) (fun _ => ?_) (fun h => by cases h)
  refine cb_ev (rs := [(.list (ds.map fun _ => PyData.bool true), .fz)]) (res := (.bool true, false)) (cons_fz (sv_new (lc2_ev (ds := ds.map fun d => PyData.tuple [d, d]) ?_ (compL2_all ds fun d hd => ⟨_, sv_fz (be_call (rs := [(d, .fz), (d, .fz)]) rfl (h d hd))⟩) (by rw [List.length_map]; exact hz))) nil_ev) (gAll_true ds)
  show (some (zipD ds ds, [Sl.fz (.tuple ds), Sl.fz (.tuple ds)])) = _
  rw [zipD_self]
theorem gEq_str (x : Str) (h : PyData.strOk x = true) : gEq (.str x) (.str x) = some (.bool true, false) := by
  unfold gEq
  have s : SeqAt.shaped (.str x) = true := by
    unfold SeqAt.shaped
    rw [decide_eq_true (by simp [PyData.depth]), Bool.and_true]
    simp only [PyData.canLay0, h]
  rw [if_pos ⟨s, s⟩]
  simp only [PyData.eqv, beq_self_eq_true]
theorem isi_str_b (x : Str) : gIsi "bool" (.str x) = some (.bool false, false) := by simp [gIsi, tyD, tyAsked, tyIs]
theorem isi_str_t (x : Str) : gIsi "tuple" (.str x) = some (.bool false, false) := by simp [gIsi, tyD, tyAsked, tyIs]
theorem isi_non_b : gIsi "bool" .none = some (.bool false, false) := by simp [gIsi, tyD, tyAsked, tyIs]
theorem isi_non_t : gIsi "tuple" .none = some (.bool false, false) := by simp [gIsi, tyD, tyAsked, tyIs]
theorem isi_int_t (i : Int) : gIsi "tuple" (.int i) = some (.bool false, false) := by simp [gIsi, tyD, tyAsked, tyIs]
theorem gEq_non : gEq .none .none = some (.bool true, false) := by unfold gEq; rw [if_pos ⟨rfl, rfl⟩]; simp only [PyData.eqv]
theorem same_thing {d : D} (h : Thing d) (n : Nat) : m_law_same (n + 3) [d, d] = some (.bool true, false) := by
  have si : ∀ (n : Nat) (i : Int), m_law_same (n + 1) [.int i, .int i] = some (.bool true, false) := fun n i => same_flat n _ (isi_int_bool i) (isi_int_t i) ((gEq_int i i).trans (by rw [decide_eq_true rfl]))
  have sn : ∀ n : Nat, m_law_same (n + 1) [.none, .none] = some (.bool true, false) := fun n => same_flat n _ isi_non_b isi_non_t gEq_non
  have ss : ∀ (n : Nat) (x : Str), PyData.strOk x = true → m_law_same (n + 1) [.str x, .str x] = some (.bool true, false) := fun n x hx => same_flat n _ (isi_str_b x) (isi_str_t x) (gEq_str x hx)
  have su : ∀ n : Nat, m_law_same (n + 1) [.tuple [], .tuple []] = some (.bool true, false) := fun n => same_tup n [] (by simp) (fun d h => by cases h)
  cases h with
  | non => exact sn _
  | s0 => exact ss _ _ (by decide +kernel)
  | s1 => exact ss _ _ (by decide +kernel)
  | s2 => exact ss _ _ (by decide +kernel)
  | int i => exact si _ i
  | unit => exact su _
  | tup i =>
    refine same_tup (n + 2) _ (by simp) fun d hd => ?_
    simp only [List.mem_cons, List.not_mem_nil, or_false] at hd
    rcases hd with rfl | rfl | rfl
    · exact si _ i
    · exact ss _ _ (by decide +kernel)
    · refine same_tup (n + 1) _ (by simp) fun d hd => ?_
      simp only [List.mem_cons, List.not_mem_nil, or_false] at hd
      rcases hd with rfl | rfl
      · exact sn _
      · exact su _
theorem same_str (n : Nat) (x : Str) (hx : PyData.strOk x = true) : m_law_same (n + 1) [.str x, .str x] = some (.bool true, false) := same_flat n _ (isi_str_b x) (isi_str_t x) (gEq_str x hx)
def Sms (l : List D) : Prop := ∀ d ∈ l, m_law_same 8 [d, d] = some (.bool true, false)
theorem Ths.sm {l : List D} (h : Ths l) : Sms l := fun d hd => same_thing (h d hd) 5
theorem Sms.append {a b : List D} (h : Sms a) (t : Sms b) : Sms (a ++ b) := fun x hx => (List.mem_append.mp hx).elim (h x) (t x)
theorem Sms.rep (x : Str) (hx : PyData.strOk x = true) (n : Nat) : Sms (List.replicate n (.str x)) := fun d hd => by rw [List.eq_of_mem_replicate hd]; exact same_str 7 x hx
theorem Sms.one (x : Str) (hx : PyData.strOk x = true) : Sms [.str x] := fun d hd => by rw [List.mem_singleton.mp hd]; exact same_str 7 x hx
theorem is_listS {ds : List D} (h : Sms ds) (hz : ds.length ≤ 100000) : m_law_is_list [.list ds, .list ds] = some (.bool true, false) := by
  refine fn_of (o := .rt (.bool true, .fz) [.fz (.list ds), .fz (.list ds)]) rfl ?_ rfl
  have ln : ∀ i : Nat, [Sl.fz (.list ds), Sl.fz (.list ds)][i]? = some (.fz (.list ds)) → IE (mCB gLen (mCons (mVar i) mNil)) [.fz (.list ds), .fz (.list ds)] (ds.length : Int) := fun i hi => cb_ev (rs := [(.list ds, .fz)]) (res := (.int (ds.length : Int), false)) (cons_fz (sv_fz (var_fz hi)) nil_ev) rfl
  refine seq_nx (ρ1 := [.fz (.list ds), .fz (.list ds)]) (if_f (or_f (not_ev (isL_ev ds (sv_fz (var_fz rfl)))) (tstB (be_ne (ln 0 rfl) (ln 1 rfl)) (by rw [decide_eq_true rfl]; rfl))) rfl) ?_
  refine ret_eq (cb_ev (rs := [(.list (ds.map fun _ => PyData.bool true), .fz)]) (res := (.bool true, false)) (cons_fz (sv_new (lc2_ev (ds := ds.map fun d => PyData.tuple [d, d]) ?_ (compL2_all ds fun d hd => ⟨_, sv_fz (be_call (rs := [(d, .fz), (d, .fz)]) rfl (h d hd))⟩) (by rw [List.length_map]; exact hz))) nil_ev) (gAll_true ds))
  show (some (zipD ds ds, [Sl.fz (.list ds), Sl.fz (.list ds)])) = _
  rw [zipD_self]
theorem is_list {ds : List D} (h : Ths ds) (hz : ds.length ≤ 100000) : m_law_is_list [.list ds, .list ds] = some (.bool true, false) := is_listS h.sm hz
theorem thing_by (c : Int) : ∃ t, Thing t ∧ m_law_thing_by [.int c] = some (t, false) := by
  have em : ∀ {ρ : Rho}, IE (mOp gMod (mVar 0) (mC (.int 6))) (.fz (.int c) :: ρ) (c % 6) := fun {ρ} => ie_mod (ie_var rfl) ie_c (by decide)
  have ed : ∀ {ρ : Rho}, IE (mOp gDiv (mVar 0) (mC (.int 6))) (.fz (.int c) :: ρ) (c / 6) := fun {ρ} => ie_div (ie_var rfl) ie_c ⟨by decide, by decide⟩
  by_cases h0 : c % 6 = 0
  · exact ⟨_, .non, fn_of (o := .rt (.none, .fz) [.fz (.int c)]) rfl (seq_rt (if_t (tEq em ie_c h0) (ret_eq rfl))) rfl⟩
  by_cases h1 : c % 6 = 1
  · have q : c / 6 % 3 = 0 ∨ c / 6 % 3 = 1 ∨ c / 6 % 3 = 2 := by omega
    have ls : mLst (mCons (mC (.str "")) (mCons (mC (.str " A1 ")) (mCons (mC (.str "b ~")) mNil))) [.fz (.int c)] = some ((.list [.str "", .str " A1 ", .str "b ~"], .new), [.fz (.int c)]) := lst_ev rfl rfl (by simp)
    have ei : IE (mOp gMod (mOp gDiv (mVar 0) (mC (.int 6))) (mC (.int 3))) [.fz (.int c)] (c / 6 % 3) := ie_mod ed ie_c (by decide)
    have fin : ∀ t : D, gIx (.list [.str "", .str " A1 ", .str "b ~"]) (.int (c / 6 % 3)) = some (t, false) → m_law_thing_by [.int c] = some (t, false) := fun t ht =>
      fn_of (o := .rt (t, .fz) [.fz (.int c)]) rfl (seq_nx (ρ1 := [.fz (.int c)]) (if_f (tNe em ie_c h0) rfl) (seq_rt (if_t (tEq em ie_c h1) (ret_eq (op_ev (r := (.int (c / 6 % 3), .fz)) (res := (t, false)) (sv_new ls) (sv_fz ei) ht))))) rfl
    rcases q with q | q | q
    · exact ⟨_, .s0, fin _ (by rw [q]; rfl)⟩
    · exact ⟨_, .s1, fin _ (by rw [q]; rfl)⟩
    · exact ⟨_, .s2, fin _ (by rw [q]; rfl)⟩
  by_cases h2 : c % 6 = 2
  · refine ⟨_, .tup (c / 6 % 100), fn_of (o := .rt (.tuple [.int (c / 6 % 100), .str "t", .tuple [.none, .tuple []]], .fz) [.fz (.int c)]) rfl (seq_nx (ρ1 := [.fz (.int c)]) (if_f (tNe em ie_c h0) rfl) (seq_nx (ρ1 := [.fz (.int c)]) (if_f (tNe em ie_c h1) rfl) (seq_rt (if_t (tEq em ie_c h2) (ret_eq ?_))))) rfl⟩
    have t0 : mTup mNil [.fz (.int c)] = some ((.tuple [], .fz), [.fz (.int c)]) := tup_ev rfl rfl (by simp)
    have t1 : mTup (mCons (mC .none) (mCons (mTup mNil) mNil)) [.fz (.int c)] = some ((.tuple [.none, .tuple []], .fz), [.fz (.int c)]) := tup_ev (rs := [(.none, .fz), (.tuple [], .fz)]) (cons_fz (sv_fz rfl) (cons_fz (sv_fz t0) nil_ev)) rfl (by simp)
    exact tup_ev (rs := [(.int (c / 6 % 100), .fz), (.str "t", .fz), (.tuple [.none, .tuple []], .fz)]) (consI (ie_mod ed ie_c (by decide)) (cons_fz (sv_fz rfl) (cons_fz (sv_fz t1) nil_ev))) rfl (by simp)
  by_cases h3 : c % 6 = 3
  · exact ⟨_, .int (c / 6 % 13 - 6), fn_of (o := .rt (.int (c / 6 % 13 - 6), .fz) [.fz (.int c)]) rfl (seq_nx (ρ1 := [.fz (.int c)]) (if_f (tNe em ie_c h0) rfl) (seq_nx (ρ1 := [.fz (.int c)]) (if_f (tNe em ie_c h1) rfl) (seq_nx (ρ1 := [.fz (.int c)]) (if_f (tNe em ie_c h2) rfl) (seq_rt (if_t (tEq em ie_c h3) (ret_eq (ie_sub (ie_mod ed ie_c (by decide)) ie_c))))))) rfl⟩
  by_cases h4 : c % 6 = 4
  · have t0 : mTup mNil [.fz (.int c)] = some ((.tuple [], .fz), [.fz (.int c)]) := tup_ev rfl rfl (by simp)
    exact ⟨_, .unit, fn_of (o := .rt (.tuple [], .fz) [.fz (.int c)]) rfl (seq_nx (ρ1 := [.fz (.int c)]) (if_f (tNe em ie_c h0) rfl) (seq_nx (ρ1 := [.fz (.int c)]) (if_f (tNe em ie_c h1) rfl) (seq_nx (ρ1 := [.fz (.int c)]) (if_f (tNe em ie_c h2) rfl) (seq_nx (ρ1 := [.fz (.int c)]) (if_f (tNe em ie_c h3) rfl) (seq_rt (if_t (tEq em ie_c h4) (ret_eq t0))))))) rfl⟩
  · have ep : ∀ {ρ : Rho}, IE (mOp gPow (mC (.int 10)) (mC (.int 60))) ρ ((10 : Int) ^ (60 : Int).toNat) := fun {ρ} => ie_pow ie_c ie_c ⟨by decide, by decide, by decide⟩
    have e2 : IE (mOp gMul (mC (.int 2)) (mOp gPow (mC (.int 10)) (mC (.int 60)))) [.fz (.int c)] (2 * (10 : Int) ^ (60 : Int).toNat) := ie_mul ie_c ep (IntMulOk.of_left (by decide))
    exact ⟨_, .int _, fn_of (o := .rt (.int (c / 6 % (2 * (10 : Int) ^ (60 : Int).toNat - 1) - (10 : Int) ^ (60 : Int).toNat + 1), .fz) [.fz (.int c)]) rfl (seq_nx (ρ1 := [.fz (.int c)]) (if_f (tNe em ie_c h0) rfl) (seq_nx (ρ1 := [.fz (.int c)]) (if_f (tNe em ie_c h1) rfl) (seq_nx (ρ1 := [.fz (.int c)]) (if_f (tNe em ie_c h2) rfl) (seq_nx (ρ1 := [.fz (.int c)]) (if_f (tNe em ie_c h3) rfl) (seq_nx (ρ1 := [.fz (.int c)]) (if_f (tNe em ie_c h4) rfl) (ret_eq (ie_add (ie_sub (ie_mod ed (ie_sub e2 ie_c) (by decide +kernel)) ep) ie_c))))))) rfl⟩
theorem ix0 (a b : D) : gIx (.tuple [a, b]) (.int 0) = some (a, false) := rfl
theorem ix1 (a b : D) : gIx (.tuple [a, b]) (.int 1) = some (b, false) := rfl
theorem qlen {ρ : Rho} {i : Nat} {l : List D} (h : ρ[i]? = some (.own (.list l))) : IE (mCB gLen (mCons (mVar i) mNil)) ρ (l.length : Int) :=
  cb_ev (rs := [(.list l, .at i)]) (res := (.int (l.length : Int), false)) (cons_at (sv_at (var_own h)) nil_ev h) rfl
theorem mut0_ev {i : Nat} {f : List D → List D → Option (List D × D)} {ρ ρ1 : Rho} {ds : List D} {w : List D × D} (h0 : ownL ρ[i]? = some ds) (h4 : f ds [] = some w) (h5 : Mir.putAt ρ i (.list w.1) = ρ1) : mMut0 i f ρ = some ((w.2, .fz), ρ1) := by
  unfold mMut0; rw [h0, Option.bind_some, h4, Option.map_some, h5]
theorem lenfz {ρ : Rho} {a : PM} {l : List D} {k : Kd} (h : sv a ρ = some ((.list l, .fz), ρ)) : IE (mCB gLen (mCons a mNil)) ρ (l.length : Int) :=
  cb_ev (rs := [(.list l, .fz)]) (res := (.int (l.length : Int), false)) (cons_fz h nil_ev) rfl
theorem cut_last (ds : List D) (d : D) : cutD (ds ++ [d]) none (some (-1)) = ds := by
  unfold cutD
  have e : HT.sIx (ds ++ [d]).length (ds ++ [d]).length (some (-1)) = ds.length := by
    unfold HT.sIx
    simp
    omega
  rw [HT.sIx_none, e, List.drop_zero, Nat.sub_zero, List.take_append_of_le_length (Nat.le_refl _), List.take_length]
theorem ix_last (ds : List D) (d : D) : gIx (.list (ds ++ [d])) (.int (-1)) = some (d, false) := by
  show (L2.atI (ds ++ [d]) (-1)).map (fun d => (d, false)) = _
  rw [Mir.atI_last]; simp
theorem rep_one (d : D) (n : Nat) (h : n ≤ 90000) : repD (.list [d]) (.int (n : Int)) = some (.list (List.replicate n d)) := by
  show cIf _ _ _ = _
  rw [cIf_pos ⟨by omega, by omega, by rw [Int.toNat_natCast, List.length_singleton, Nat.one_mul]; exact sz_le (by omega)⟩, Int.toNat_natCast]
  congr 2
  induction n with
  | zero => rfl
  | succ n ih => rw [List.replicate_succ, List.flatten_cons, ih (by omega), List.replicate_succ]; rfl
theorem gs_cons {g : D → Rho → Option Rho} {gs : List D → Rho → Option Rho} {d : D} {ds : List D} {ρ ρ1 ρ2 : Rho} (h1 : g d ρ = some ρ1) (h2 : gs ds ρ1 = some ρ2) : mgsCons g gs (d :: ds) ρ = some ρ2 := by
  show (g d ρ).bind _ = _
  rw [h1]; exact h2
theorem gs_tup {n : Nat} {gs : List D → Rho → Option Rho} {ds : List D} {ρ ρ1 : Rho} (hl : ds.length = n) (h : gs ds ρ = some ρ1) : mgU n gs (.tuple ds) ρ = some ρ1 := by
  show (if ds.length = n then gs ds ρ else none) = _
  rw [if_pos hl]; exact h
theorem nr_ev {m : SM} {ρ ρ1 : Rho} (h : m ρ = some (.nx ρ1)) : nr m ρ = some (.nx ρ1) := by unfold nr; rw [h]; rfl
theorem leaf_new {a : PM} {ρ ρ1 : Rho} {d : D} (h : a ρ = some ((d, .new), ρ1)) : mLeafN a ρ = some ((d, .new), ρ1) := by unfold mLeafN; rw [h]; rfl
theorem leaf_at {a : PM} {ρ ρ1 : Rho} {d : D} {i : Nat} (h : a ρ = some ((d, .at i), ρ1)) : mLeafN a ρ = some ((d, .at i), ρ1) := by unfold mLeafN; rw [h]; rfl
theorem leaf_fz {a : PM} {ρ ρ1 : Rho} {d : D} (h : a ρ = some ((d, .fz), ρ1)) (hp : pureD d = true) : mLeafN a ρ = some ((d, .fz), ρ1) := by unfold mLeafN; rw [h, Option.bind_some]; exact if_pos hp
theorem consN_fz {a : PM} {m : Rho → Option (List RV × Rho)} {ρ ρ1 ρ2 : Rho} {x : D} {rs : List RV} (h1 : sv a ρ = some ((x, .fz), ρ1)) (h2 : m ρ1 = some (rs, ρ2)) : mConsN a m ρ = some ((x, .fz) :: rs, ρ2) := by
  unfold mConsN; rw [h1, Option.bind_some]; dsimp only; rw [h2, Option.bind_some]; rfl
theorem consN_at {a : PM} {m : Rho → Option (List RV × Rho)} {ρ ρ1 ρ2 : Rho} {x y : D} {i : Nat} {rs : List RV} (h1 : sv a ρ = some ((x, .at i), ρ1)) (h2 : m ρ1 = some (rs, ρ2)) (h4 : ρ2[i]? = some (.own y)) : mConsN a m ρ = some ((y, .at i) :: rs, ρ2) := by
  unfold mConsN; rw [h1, Option.bind_some]; dsimp only; rw [h2, Option.bind_some]; simp only [refr, h4, Option.bind_some, sameK, if_true]
theorem tupN_ev {m : Rho → Option (List RV × Rho)} {ρ ρ1 ρ2 : Rho} {rs : List RV} {ds : List D} (h1 : m ρ = some (rs, ρ1)) (h2 : fzAllN rs ρ1 = some (ds, ρ2)) (h3 : ds.length ≤ 100000) : mTupN m ρ = some ((.tuple ds, .fz), ρ2) := by
  unfold mTupN; rw [h1, Option.bind_some]; dsimp only; rw [h2, Option.bind_some]; dsimp only; rw [cIf_pos (sz_le h3)]
theorem thing_pure {t : D} (h : Thing t) : pureD t = true := by
  cases h <;> simp [pureD, pureDs]
theorem deadN_ev {i : Nat} {f : List D → Option (D × Bool)} {m : Rho → Option (List RV × Rho)} {ok : D → Bool} {mb : Rho → SM} {ρ ρ1 ρ2 ρ3 : Rho} {rs : List RV} {ds : List D} {d : D} {o : Option Out} (h1 : m ρ = some (rs, ρ1)) (h2 : fzAll rs ρ1 = some (ds, ρ2)) (h3 : f ds = some (d, false)) (h4 : setSl ρ2 i (.fz d) = some ρ3) (h5 : ρ2.all noIo = true) (h6 : shortT d = true) (h7 : ok d = true) (h8 : mb ρ2 ρ3 = o) : mDeadN i f m ok mb ρ = o := by
  unfold mDeadN
  rw [h1, Option.bind_some]; dsimp only
  rw [h2, Option.bind_some]; dsimp only
  rw [h3, Option.bind_some]; dsimp only
  rw [if_neg Bool.false_ne_true, h4, Option.bind_some, if_pos ⟨h5, h6, h7⟩, h8]
theorem bseq_nx {a : SM} {mb : Rho → SM} {ρs ρ ρ1 : Rho} {o : Option Out} (h1 : a ρ = some (.nx ρ1)) (h2 : mb ρs ρ1 = o) : bSeq a mb ρs ρ = o := by
  unfold bSeq; rw [h1, Option.bind_some]; exact h2
abbrev Qd (f b : List D) : D := .tuple [.list f, .list b]
def ab (i : Int) : Int := if i < 0 then -i else i
theorem drow_is (f b : List D) (hz : f.length + b.length ≤ 90000) : m_double_row [Qd f b] = some (.list (f.reverse ++ b), true) := by
  refine fn_of (o := .rt (.list (f.reverse ++ b), .new) [.fz (Qd f b)]) rfl (ret_eq ?_) rfl
  have e0 : mOp gIx (mVar 0) (mC (.int 0)) [.fz (Qd f b)] = some ((.list f, .fz), [.fz (Qd f b)]) := op_ev (r := (.int 0, .fz)) (res := (.list f, false)) (sv_fz (var_fz rfl)) (sv_fz rfl) (ix0 _ _)
  have e1 : mOp gIx (mVar 0) (mC (.int 1)) [.fz (Qd f b)] = some ((.list b, .fz), [.fz (Qd f b)]) := op_ev (r := (.int 1, .fz)) (res := (.list b, false)) (sv_fz (var_fz rfl)) (sv_fz rfl) (ix1 _ _)
  exact op_ev (r := (.list b, .fz)) (res := (.list (f.reverse ++ b), true)) (sv_new (cb_ev (rs := [(.list f, .fz)]) (res := (.list f.reverse, true)) (cons_fz (sv_fz e0) nil_ev) rfl)) (sv_fz e1) (gAdd_list _ _ (by rw [List.length_reverse]; omega))
theorem dcred_is (f b : List D) : m_double_credit [Qd f b] = some (.int (ab ((f.length : Int) - b.length)), false) := by
  refine fn_of (o := .rt (.int (ab ((f.length : Int) - b.length)), .fz) [.fz (Qd f b)]) rfl (ret_eq ?_) rfl
  have e0 : mOp gIx (mVar 0) (mC (.int 0)) [.fz (Qd f b)] = some ((.list f, .fz), [.fz (Qd f b)]) := op_ev (r := (.int 0, .fz)) (res := (.list f, false)) (sv_fz (var_fz rfl)) (sv_fz rfl) (ix0 _ _)
  have e1 : mOp gIx (mVar 0) (mC (.int 1)) [.fz (Qd f b)] = some ((.list b, .fz), [.fz (Qd f b)]) := op_ev (r := (.int 1, .fz)) (res := (.list b, false)) (sv_fz (var_fz rfl)) (sv_fz rfl) (ix1 _ _)
  exact cb_ev (rs := [(.int ((f.length : Int) - b.length), .fz)]) (res := (.int (ab ((f.length : Int) - b.length)), false)) (consI (ie_sub (lenfz (k := .fz) (sv_fz e0)) (lenfz (k := .fz) (sv_fz e1))) nil_ev) rfl
theorem neg1 {ρ : Rho} : mPart (mUn gNeg (mC (.int 1))) ρ = some (some (-1), ρ) := rfl
theorem cut_to (ds : List D) (k : Nat) (h : k ≤ ds.length) : cutD ds none (some (k : Int)) = ds.take k := by
  unfold cutD
  rw [HT.sIx_nat, HT.sIx_none, Nat.min_eq_left h, List.drop_zero, Nat.sub_zero]
theorem cut_from (ds : List D) (j : Nat) (h : j ≤ ds.length) : cutD ds (some (j : Int)) none = ds.drop j := by
  unfold cutD
  rw [HT.sIx_nat, HT.sIx_none, Nat.min_eq_left h, List.take_of_length_le (by rw [List.length_drop]; omega)]
theorem ab_sym (a b : Int) : ab (a - b) = ab (b - a) := by unfold ab; split <;> split <;> omega
def Lay (l : List D) : Prop := ∀ d ∈ l, d.canLay0 = true ∧ d.depth ≤ 8
theorem Ths.lay {l : List D} (h : Ths l) : Lay l := fun d hd => (h d hd).lay
theorem shaped_lay {l : List D} (h : Lay l) : SeqAt.shaped (.list l) = true := by
  have a : ∀ l : List D, Lay l → PyData.canLayAll0 l = true ∧ PyData.depthAll l ≤ 8 := by
    intro l
    induction l with
    | nil => intro _; exact ⟨rfl, by simp [PyData.depthAll]⟩
    | cons d l ih =>
      intro h
      obtain ⟨h1, h2⟩ := ih fun x hx => h x (List.mem_cons_of_mem _ hx)
      obtain ⟨h3, h4⟩ := h d List.mem_cons_self
      refine ⟨by simp only [PyData.canLayAll0, h1, h3, Bool.and_self], ?_⟩
      simp only [PyData.depthAll]
      omega
  obtain ⟨h1, h2⟩ := a l h
  unfold SeqAt.shaped
  rw [decide_eq_true (by simp only [PyData.depth]; omega), Bool.and_true]
  simp only [PyData.canLay0, h1]
theorem eq_lay {l : List D} (h : Lay l) (hne : l ≠ []) : gEq (.list l) (.list []) = some (.bool false, false) := by
  cases l with
  | nil => exact absurd rfl hne
  | cons d l => unfold gEq; rw [if_pos ⟨shaped_lay h, shaped_ths Ths.nil⟩]; simp only [PyData.eqv, PyData.eqvAll]
theorem ne_lay {l : List D} (h : Lay l) (hne : l ≠ []) : gNe (.list l) (.list []) = some (.bool true, false) := by
  cases l with
  | nil => exact absurd rfl hne
  | cons d l => unfold gNe; rw [if_pos ⟨shaped_lay h, shaped_ths Ths.nil⟩]; simp only [PyData.eqv, PyData.eqvAll, Bool.not_false]
theorem shortT_put (a b st : List D) (h1 : a.length ≤ 90000) (h3 : b.length ≤ 90000) (h2 : st.length ≤ 90000) : shortT (.tuple [.tuple [.list a, .list b], .list st]) = true := by simp [shortT, shortTs, h1, h2, h3]
theorem shortT_take (t : D) (ht : Thing t) (a b st : List D) (h1 : a.length ≤ 90000) (h3 : b.length ≤ 90000) (h2 : st.length ≤ 90000) : shortT (.tuple [t, .tuple [.list a, .list b], .list st]) = true := by
  cases ht <;> simp [shortT, shortTs, h1, h2, h3]
noncomputable def tb (c : Int) : D := Classical.choose (thing_by c)
theorem tb_ok (c : Int) : Thing (tb c) ∧ m_law_thing_by [.int c] = some (tb c, false) := Classical.choose_spec (thing_by c)
theorem things_comp (C : List Int) (m : Nat) (hC : C.length ≤ 100) (hm : 0 < C.length ∨ m = 0) : ∃ P : List D, Ths P ∧ P.length = m ∧ compL mYes ce1_law_things_by [.ro (.list (C.map .int))] (rngD 0 m) = some P := by
  obtain ⟨g, hg⟩ : ∃ g : Nat → D, g = fun k : Nat => tb (C.getD (k % C.length) 0 + ((k : Int) / (C.length : Int))) := ⟨_, rfl⟩
  refine ⟨(List.range m).map g, fun d hd => ?_, by simp, ?_⟩
  · obtain ⟨k, _, rfl⟩ := List.mem_map.mp hd
    rw [hg]; exact (tb_ok _).1
  rw [rngD_map]
  refine compL_map (List.range m) fun k hk => ⟨[.fz (.int (k : Int)), .ro (.list (C.map .int))], sv_fz ?_⟩
  have hk' : k < m := List.mem_range.mp hk
  have cl : 0 < C.length := by omega
  have kl : k % C.length < C.length := Nat.mod_lt _ cl
  have ln : IE (mCB gLen (mCons (mVar 1) mNil)) [.fz (.int (k : Int)), .ro (.list (C.map .int))] (C.length : Int) := by
    have ar : mCons (mVar 1) mNil [.fz (.int (k : Int)), .ro (.list (C.map .int))] = some ([(.list (C.map .int), .ro)], [.fz (.int (k : Int)), .ro (.list (C.map .int))]) := rfl
    exact cb_ev (rs := [(.list (C.map .int), .ro)]) (res := (.int (C.length : Int), false)) ar (gLen_ints C)
  have ix : IE (mOp gIx (mVar 1) (mOp gMod (mVar 0) (mCB gLen (mCons (mVar 1) mNil)))) [.fz (.int (k : Int)), .ro (.list (C.map .int))] (C.getD (k % C.length) 0) := by
    have sr : sv (mVar 1) [.fz (.int (k : Int)), .ro (.list (C.map .int))] = some ((.list (C.map .int), .ro), [.fz (.int (k : Int)), .ro (.list (C.map .int))]) := rfl
    refine op_ro (x := .list (C.map .int)) (r := (.int ((k % C.length : Nat) : Int), .fz)) (res := (.int (C.getD (k % C.length) 0), false)) sr (sv_fz ((ie_mod (ie_var (k := 0) (i := (k : Int)) rfl) ln (by omega)).is (by first | exact (Int.natCast_mod _ _).symm | exact (Int.natCast_emod _ _).symm | simp))) ?_
    refine gIx_list _ _ _ ?_
    rw [Mir.atI_nat, List.getElem?_map, List.getElem?_eq_getElem kl, List.getD_eq_getElem?_getD, List.getElem?_eq_getElem kl]; rfl
  have := (tb_ok (C.getD (k % C.length) 0 + ((k : Int) / (C.length : Int)))).2
  rw [hg]
  exact call_fz (rs := [(.int (C.getD (k % C.length) 0 + ((k : Int) / (C.length : Int))), .fz)]) (consI (ie_add ix (ie_div (ie_var (k := 0) (i := (k : Int)) rfl) ln ⟨by omega, by omega⟩)) nil_ev) this rfl
theorem things_by (ns : List Int) (hl : ns.length ≤ 63) : ∃ P : List D, Ths P ∧ P.length ≤ 300 ∧ m_law_things_by [.list (ns.map .int)] = some (.list P, true) := by
  have c0 := cell_at ns 0
  obtain ⟨cs, hcs, hcl⟩ : ∃ cs : List Int, cutD (ns.map .int) (some 2) (some 82) = cs.map .int ∧ cs.length ≤ ns.length := by
    refine ⟨_, cutD_ints ns (some 2) (some 82), ?_⟩
    rw [List.length_take, List.length_drop]; omega
  have sl : mSl gSl (mVar 0) (mPart (mC (.int 2))) (mPart (mC (.int 82))) [.fz (.list (ns.map .int)), .no, .no, .no] = some ((.list (cs.map .int), .new), [.fz (.list (ns.map .int)), .no, .no, .no]) := by
    show some ((PyData.list (cutD (ns.map .int) (some 2) (some 82)), Kd.new), _) = _
    rw [hcs]
  generalize cell ns 0 = c at c0
  generalize hX : PyData.list (ns.map .int) = X at *
  have hd : ∀ (k : SM) (o : Option Out), k [.fz X, .own (.list (cs.map .int)), .fz (.int c), .fz (.int (cs.length : Int))] = o → mSeq (mAsg 1 (mSl gSl (mVar 0) (mPart (mC (.int 2))) (mPart (mC (.int 82))))) (mSeq (mAsg 2 (mCall m_law_cell_at (mCons (mVar 0) (mCons (mC (.int 0)) mNil)))) (mSeq (mAsg 3 (mCB gLen (mCons (mVar 1) mNil))) k)) [.fz X, .no, .no, .no] = o := fun k o hk => by
    refine seq_nx (ρ1 := [.fz X, .own (.list (cs.map .int)), .no, .no]) (asg_new sl rfl) ?_
    refine seq_nx (ρ1 := [.fz X, .own (.list (cs.map .int)), .fz (.int c), .no]) (asgI (ie_call (rs := [(X, .fz), (.int ((0 : Nat) : Int), .fz)]) rfl c0) rfl) ?_
    exact seq_nx (ρ1 := [.fz X, .own (.list (cs.map .int)), .fz (.int c), .fz (.int (cs.length : Int))]) (asgI ((qlen (i := 1) rfl).is (by rw [List.length_map])) rfl) hk
  have fin : ∀ (C : List Int) (m : Nat), C.length ≤ 100 → (0 < C.length ∨ m = 0) → m ≤ 300 → ∃ P : List D, Ths P ∧ P.length = m ∧ mRet (mLC [("_law_cells", 1)] (mRg1 (mCons (mVar 3) mNil)) mYes ce1_law_things_by) [.fz X, .own (.list (C.map .int)), .fz (.int c), .fz (.int (m : Int))] = some (.rt (.list P, .new) [.fz X, .own (.list (C.map .int)), .fz (.int c), .fz (.int (m : Int))]) := fun C m hC h0 h1 => by
    obtain ⟨P, p1, p2, p3⟩ := things_comp C m hC h0
    exact ⟨P, p1, p2, ret_eq (lc_ev (ds := rngD 0 m) (rg1_eq (j := (m : Int)) (k := .fz) (consI (ie_var rfl) nil_ev) ⟨by omega, by omega⟩) p3 (by omega))⟩
  have em : IE (mOp gMod (mVar 2) (mC (.int 7))) [.fz X, .own (.list (cs.map .int)), .fz (.int c), .fz (.int (cs.length : Int))] (c % 7) := ie_mod (ie_var rfl) ie_c (by decide)
  by_cases h3 : c % 7 = 3
  · have q1 : 0 ≤ c / 7 % 209 ∧ c / 7 % 209 < 209 := by omega
    obtain ⟨m, hm⟩ : ∃ m : Nat, (m : Int) = 81 + c / 7 % 209 := ⟨(81 + c / 7 % 209).toNat, by omega⟩
    obtain ⟨P, p1, p2, p3⟩ := fin (cs ++ [0]) m (by simp; omega) (.inl (by simp)) (by omega)
    have ga : gAdd (.list (cs.map .int)) (.list [.int 0]) = some (.list ((cs ++ [0]).map PyData.int), true) := gAdd_ints cs [0] (by simp; omega)
    generalize (cs ++ [0]).map PyData.int = CC at *
    refine ⟨P, p1, by omega, fn_of (o := .rt (.list P, .new) [.fz X, .own (.list CC), .fz (.int c), .fz (.int (m : Int))]) rfl (hd _ _ (seq_nx (ρ1 := [.fz X, .own (.list CC), .fz (.int c), .fz (.int (m : Int))]) (if_t (tEq em ie_c h3) ?_) p3)) rfl⟩
    refine seq_nx (ρ1 := [.fz X, .own (.list CC), .fz (.int c), .fz (.int (cs.length : Int))]) (asg_new (op_at (i := 1) (g := gAdd) (r := (.list [.int 0], .fz)) (res := (.list CC, true)) (sv_at (var_own rfl)) (sv_new (lst_ev (rs := [(.int 0, .fz)]) rfl rfl (by simp))) rfl ga) rfl) ?_
    exact asgI ((ie_add ie_c (ie_mod (ie_div (ie_var rfl) ie_c ⟨by decide, by decide⟩) ie_c (by decide))).is hm.symm) rfl
  · obtain ⟨P, p1, p2, p3⟩ := fin cs cs.length (by omega) (by omega) (by omega)
    exact ⟨P, p1, by omega, fn_of (o := .rt (.list P, .new) [.fz X, .own (.list (cs.map .int)), .fz (.int c), .fz (.int (cs.length : Int))]) rfl (hd _ _ (seq_nx (ρ1 := [.fz X, .own (.list (cs.map .int)), .fz (.int c), .fz (.int (cs.length : Int))]) (if_f (tNe em ie_c h3) rfl) p3)) rfl⟩
theorem callN_ev {f : List D → Option (D × Bool)} {m : Rho → Option (List RV × Rho)} {ρ ρ1 ρ2 : Rho} {rs : List RV} {ds : List D} {d : D} (h1 : m ρ = some (rs, ρ1)) (h2 : fzAll rs ρ1 = some (ds, ρ2)) (h3 : f ds = some (d, false)) : mCallN f m ρ = some ((d, .fz), ρ2) := by
  unfold mCallN; rw [h1, Option.bind_some]; dsimp only; rw [h2, Option.bind_some]; dsimp only; rw [h3, Option.bind_some]; rfl
theorem setN_ev {i : Nat} {f : List D → Option (D × Bool)} {m : Rho → Option (List RV × Rho)} {u : Tau → SM} {τ : Tau} {ρ ρ1 ρ2 ρ3 : Rho} {rs : List RV} {ds : List D} {d : D} {o : Option Out} (h1 : m ρ = some (rs, ρ1)) (h2 : fzAll rs ρ1 = some (ds, ρ2)) (h3 : f ds = some (d, false)) (h4 : setSl ρ2 i (.fz d) = some ρ3) (h5 : u ((i, d) :: τ.filter (fun y => y.1 != i)) ρ3 = o) : mSetN i f m u τ ρ = o := by
  unfold mSetN; rw [callN_ev h1 h2 h3, Option.bind_some]; dsimp only; rw [h4, Option.bind_some]; exact h5
theorem pth_ev {i : Nat} {p : D → Option D} {τ : Tau} {ρ : Rho} {d d' : D} (h1 : τ.lookup i = some d) (h2 : p d = some d') : mPth i p τ ρ = some ((d', .fz), ρ) := by
  unfold mPth; rw [h1, Option.bind_some, h2]; rfl
theorem is_double {f b : List D} (hf : Ths f) (hb : Ths b) (hz : f.length + b.length ≤ 90000) : m_law_is_double [Qd f b, .list f, .list b] = some (.bool true, false) := by
  have i1 := is_list hf (by omega)
  have i2 := is_list hb (by omega)
  generalize hR : Qd f b = R
  have isT : gIsi "tuple" R = some (.bool true, false) := by rw [← hR]; exact isi_tuple_tuple _
  have lT : gLen [R] = some (.int 2, false) := by rw [← hR]; rfl
  have e0 : mOp gIx (mVar 0) (mC (.int 0)) [.fz R, .fz (.list f), .fz (.list b)] = some ((.list f, .fz), [.fz R, .fz (.list f), .fz (.list b)]) := op_ev (r := (.int 0, .fz)) (res := (.list f, false)) (sv_fz (var_fz rfl)) (sv_fz rfl) (by rw [← hR]; exact ix0 _ _)
  have e1 : mOp gIx (mVar 0) (mC (.int 1)) [.fz R, .fz (.list f), .fz (.list b)] = some ((.list b, .fz), [.fz R, .fz (.list f), .fz (.list b)]) := op_ev (r := (.int 1, .fz)) (res := (.list b, false)) (sv_fz (var_fz rfl)) (sv_fz rfl) (by rw [← hR]; exact ix1 _ _)
  refine fn_of (o := .rt (.bool true, .fz) [.fz R, .fz (.list f), .fz (.list b)]) rfl ?_ rfl
  refine seq_nx (ρ1 := [.fz R, .fz (.list f), .fz (.list b)]) (if_f (or_f (not_ev (v := true) (test_ev (k := .fz) (isi_ev (sv_fz (var_fz rfl)) isT))) (tstB (be_ne (cb_ev (rs := [(R, .fz)]) (res := (.int 2, false)) (cons_fz (sv_fz (var_fz rfl)) nil_ev) lT) ie_c) rfl)) rfl) ?_
  exact ret_eq (be_and (u := true) (v := true) (be_call (rs := [(.list f, .fz), (.list f, .fz)]) (cons_fz (sv_fz e0) (cons_fz (sv_fz (var_fz rfl)) nil_ev)) i1) (fun _ => be_call (rs := [(.list b, .fz), (.list b, .fz)]) (cons_fz (sv_fz e1) (cons_fz (sv_fz (var_fz rfl)) nil_ev)) i2) (fun h => by cases h))
theorem pfirstN (f b : List D) (t : D) (hz : f.length + b.length ≤ 90000) : m_put_first [Qd f b, t] = some (.tuple [Qd (f ++ [t]) b, .list [.str "laid"]], false) := by
  generalize hR : Qd f b = R
  refine fn_of (o := .rt (.tuple [Qd (f ++ [t]) b, .list [.str "laid"]], .fz) [.fz R, .fz t]) rfl (ret_eq ?_) rfl
  have e0 : mOp gIx (mVar 0) (mC (.int 0)) [.fz R, .fz t] = some ((.list f, .fz), [.fz R, .fz t]) := op_ev (r := (.int 0, .fz)) (res := (.list f, false)) (sv_fz (var_fz rfl)) (sv_fz rfl) (by rw [← hR]; exact ix0 _ _)
  have e1 : mOp gIx (mVar 0) (mC (.int 1)) [.fz R, .fz t] = some ((.list b, .fz), [.fz R, .fz t]) := op_ev (r := (.int 1, .fz)) (res := (.list b, false)) (sv_fz (var_fz rfl)) (sv_fz rfl) (by rw [← hR]; exact ix1 _ _)
  have l1 : mLst (mCons (mVar 1) mNil) [.fz R, .fz t] = some ((.list [t], .new), [.fz R, .fz t]) := lst_ev (rs := [(t, .fz)]) (cons_fz (sv_fz (var_fz rfl)) nil_ev) rfl (by simp)
  have l2 : mLst (mCons (mC (.str "laid")) mNil) [.fz R, .fz t] = some ((.list [.str "laid"], .new), [.fz R, .fz t]) := lst_ev (rs := [(.str "laid", .fz)]) rfl rfl (by simp)
  have a1 : mCB gList (mCons (mOp gIx (mVar 0) (mC (.int 1))) mNil) [.fz R, .fz t] = some ((.list b, .new), [.fz R, .fz t]) := cb_ev (rs := [(.list b, .fz)]) (res := (.list b, true)) (cons_fz (sv_fz e1) nil_ev) rfl
  have a2 : mOp gAdd (mOp gIx (mVar 0) (mC (.int 0))) (mLst (mCons (mVar 1) mNil)) [.fz R, .fz t] = some ((.list (f ++ [t]), .new), [.fz R, .fz t]) := op_ev (r := (.list [t], .fz)) (res := (.list (f ++ [t]), true)) (sv_fz e0) (sv_new l1) (gAdd_list _ _ (by walk_at "szo"))
  have tq := tupN_ev (rs := [(.list (f ++ [t]), .fz), (.list b, .fz)]) (consN_fz (sv_new (leaf_new a2)) (consN_fz (sv_new (leaf_new a1)) nil_ev)) rfl (by simp)
  exact tupN_ev (rs := [(Qd (f ++ [t]) b, .fz), (.list [.str "laid"], .fz)]) (consN_fz (sv_fz tq) (consN_fz (sv_new (leaf_new l2)) nil_ev)) rfl (by simp)
theorem plastN (f b : List D) (t : D) (hz : f.length + b.length ≤ 90000) : m_put_last [Qd f b, t] = some (.tuple [Qd f (b ++ [t]), .list [.str "laid"]], false) := by
  generalize hR : Qd f b = R
  refine fn_of (o := .rt (.tuple [Qd f (b ++ [t]), .list [.str "laid"]], .fz) [.fz R, .fz t]) rfl (ret_eq ?_) rfl
  have e0 : mOp gIx (mVar 0) (mC (.int 0)) [.fz R, .fz t] = some ((.list f, .fz), [.fz R, .fz t]) := op_ev (r := (.int 0, .fz)) (res := (.list f, false)) (sv_fz (var_fz rfl)) (sv_fz rfl) (by rw [← hR]; exact ix0 _ _)
  have e1 : mOp gIx (mVar 0) (mC (.int 1)) [.fz R, .fz t] = some ((.list b, .fz), [.fz R, .fz t]) := op_ev (r := (.int 1, .fz)) (res := (.list b, false)) (sv_fz (var_fz rfl)) (sv_fz rfl) (by rw [← hR]; exact ix1 _ _)
  have l1 : mLst (mCons (mVar 1) mNil) [.fz R, .fz t] = some ((.list [t], .new), [.fz R, .fz t]) := lst_ev (rs := [(t, .fz)]) (cons_fz (sv_fz (var_fz rfl)) nil_ev) rfl (by simp)
  have l2 : mLst (mCons (mC (.str "laid")) mNil) [.fz R, .fz t] = some ((.list [.str "laid"], .new), [.fz R, .fz t]) := lst_ev (rs := [(.str "laid", .fz)]) rfl rfl (by simp)
  have a1 : mCB gList (mCons (mOp gIx (mVar 0) (mC (.int 0))) mNil) [.fz R, .fz t] = some ((.list f, .new), [.fz R, .fz t]) := cb_ev (rs := [(.list f, .fz)]) (res := (.list f, true)) (cons_fz (sv_fz e0) nil_ev) rfl
  have a2 : mOp gAdd (mOp gIx (mVar 0) (mC (.int 1))) (mLst (mCons (mVar 1) mNil)) [.fz R, .fz t] = some ((.list (b ++ [t]), .new), [.fz R, .fz t]) := op_ev (r := (.list [t], .fz)) (res := (.list (b ++ [t]), true)) (sv_fz e1) (sv_new l1) (gAdd_list _ _ (by walk_at "szo"))
  have tq := tupN_ev (rs := [(.list f, .fz), (.list (b ++ [t]), .fz)]) (consN_fz (sv_new (leaf_new a1)) (consN_fz (sv_new (leaf_new a2)) nil_ev)) rfl (by simp)
  exact tupN_ev (rs := [(Qd f (b ++ [t]), .fz), (.list [.str "laid"], .fz)]) (consN_fz (sv_fz tq) (consN_fz (sv_new (leaf_new l2)) nil_ev)) rfl (by simp)
abbrev mvd (n : Nat) : List D := List.replicate n (.str "moved") ++ [.str "taken"]
theorem near_f (fs far : List D) (t : D) (ht : Thing t) (hz : fs.length ≤ 80000) : m_take_near [.list (fs ++ [t]), .list far] = some (.tuple [t, Qd fs far, .list [.str "taken"]], false) := by
  have cl := cut_last fs t
  have xl := ix_last fs t
  have hl : 0 < (fs ++ [t]).length := by simp
  generalize fs ++ [t] = F at *
  have el : mOp gIx (mVar 0) (mUn gNeg (mC (.int 1))) [.fz (.list F), .fz (.list far), .no, .no, .no] = some ((t, .fz), [.fz (.list F), .fz (.list far), .no, .no, .no]) := op_ev (r := (.int (-1), .fz)) (res := (t, false)) (sv_fz (var_fz rfl)) (sv_fz (ie_neg ie_c)) xl
  have sl : mSl gSl (mVar 0) mNoPart (mPart (mUn gNeg (mC (.int 1)))) [.fz (.list F), .fz (.list far), .no, .no, .no] = some ((.list fs, .new), [.fz (.list F), .fz (.list far), .no, .no, .no]) := by
    show some ((PyData.list (cutD F none (some (-1))), Kd.new), _) = _
    rw [cl]
  have l2 : mLst (mCons (mC (.str "taken")) mNil) [.fz (.list F), .fz (.list far), .no, .no, .no] = some ((.list [.str "taken"], .new), [.fz (.list F), .fz (.list far), .no, .no, .no]) := lst_ev (rs := [(.str "taken", .fz)]) rfl rfl (by simp)
  have a1 : mCB gList (mCons (mVar 1) mNil) [.fz (.list F), .fz (.list far), .no, .no, .no] = some ((.list far, .new), [.fz (.list F), .fz (.list far), .no, .no, .no]) := cb_ev (rs := [(.list far, .fz)]) (res := (.list far, true)) (cons_fz (sv_fz (var_fz rfl)) nil_ev) rfl
  have tq := tupN_ev (rs := [(.list fs, .fz), (.list far, .fz)]) (consN_fz (sv_new (leaf_new sl)) (consN_fz (sv_new (leaf_new a1)) nil_ev)) rfl (by simp)
  refine fn_of (o := .rt (.tuple [t, Qd fs far, .list [.str "taken"]], .fz) [.fz (.list F), .fz (.list far), .no, .no, .no]) rfl (seq_rt (if_t (tstB (be_gt (lenfz (k := .fz) (l := F) (sv_fz (var_fz rfl))) ie_c) (decide_eq_true (by omega))) (ret_eq ?_))) rfl
  exact tupN_ev (rs := [(t, .fz), (Qd fs far, .fz), (.list [.str "taken"], .fz)]) (consN_fz (sv_fz (leaf_fz el (thing_pure ht))) (consN_fz (sv_fz tq) (consN_fz (sv_new (leaf_new l2)) nil_ev))) rfl (by simp)
theorem near_e (t : D) (p : List D) (ht : Thing t) (hz : p.length ≤ 80000) : m_take_near [.list [], .list (t :: p)] = some (.tuple [t, Qd (p.take ((p.length + 2) / 2 - 1)).reverse (p.drop ((p.length + 2) / 2 - 1)), .list (mvd (p.length + 1))], false) := by
  obtain ⟨h, hh⟩ : ∃ h, (p.length + 2) / 2 = h + 1 := ⟨(p.length + 2) / 2 - 1, by omega⟩
  rw [hh, Nat.add_sub_cancel]
  have hle : h ≤ p.length := by omega
  have ct := cut_to (t :: p) (h + 1) (by simp; omega)
  have cf := cut_from (t :: p) (h + 1) (by simp; omega)
  rw [List.take_succ_cons] at ct
  rw [List.drop_succ_cons] at cf
  have ln : (t :: p).length = p.length + 1 := List.length_cons
  generalize t :: p = F at *
  have lf : ∀ {s2 s3 s4 : Sl}, IE (mCB gLen (mCons (mVar 1) mNil)) [.fz (.list []), .fz (.list F), s2, s3, s4] ((p.length + 1 : Nat) : Int) := fun {s2 s3 s4} => (lenfz (k := .fz) (l := F) (sv_fz (var_fz rfl))).is (by rw [ln])
  have s1 : mSl gSl (mVar 1) mNoPart (mPart (mVar 2)) [.fz (.list []), .fz (.list F), .fz (.int ((h + 1 : Nat) : Int)), .no, .no] = some ((.list (t :: p.take h), .new), [.fz (.list []), .fz (.list F), .fz (.int ((h + 1 : Nat) : Int)), .no, .no]) := by
    show some ((PyData.list (cutD F none (some ((h + 1 : Nat) : Int))), Kd.new), _) = _
    rw [ct]
  have s2 : mSl gSl (mVar 1) (mPart (mVar 2)) mNoPart [.fz (.list []), .fz (.list F), .fz (.int ((h + 1 : Nat) : Int)), .own (.list (p.take h).reverse), .fz t] = some ((.list (p.drop h), .new), [.fz (.list []), .fz (.list F), .fz (.int ((h + 1 : Nat) : Int)), .own (.list (p.take h).reverse), .fz t]) := by
    show some ((PyData.list (cutD F (some ((h + 1 : Nat) : Int)) none), Kd.new), _) = _
    rw [cf]
  have rp : mRep (mCons (mC (.str "moved")) mNil) (mCB gLen (mCons (mVar 1) mNil)) [.fz (.list []), .fz (.list F), .fz (.int ((h + 1 : Nat) : Int)), .fz (.list (p.take h).reverse), .fz t] = some ((.list (List.replicate (p.length + 1) (.str "moved")), .new), [.fz (.list []), .fz (.list F), .fz (.int ((h + 1 : Nat) : Int)), .fz (.list (p.take h).reverse), .fz t]) := by
    unfold mRep
    rw [lst_ev (rs := [(.str "moved", .fz)]) (ds := [.str "moved"]) rfl rfl (by simp), Option.bind_some]
    dsimp only
    rw [sv_fz lf, Option.bind_some]
    dsimp only
    rw [rep_one _ _ (by omega)]; rfl
  have st : mOp gAdd (mRep (mCons (mC (.str "moved")) mNil) (mCB gLen (mCons (mVar 1) mNil))) (mLst (mCons (mC (.str "taken")) mNil)) [.fz (.list []), .fz (.list F), .fz (.int ((h + 1 : Nat) : Int)), .fz (.list (p.take h).reverse), .fz t] = some ((.list (mvd (p.length + 1)), .new), [.fz (.list []), .fz (.list F), .fz (.int ((h + 1 : Nat) : Int)), .fz (.list (p.take h).reverse), .fz t]) := op_ev (g := gAdd) (r := (.list [.str "taken"], .fz)) (res := (.list (mvd (p.length + 1)), true)) (sv_new rp) (sv_new (lst_ev (rs := [(.str "taken", .fz)]) rfl rfl (by simp))) (gAdd_list _ _ (by walk_at "szo"))
  refine fn_of (o := .rt (.tuple [t, Qd (p.take h).reverse (p.drop h), .list (mvd (p.length + 1))], .fz) [.fz (.list []), .fz (.list F), .fz (.int ((h + 1 : Nat) : Int)), .fz (.list (p.take h).reverse), .fz t]) rfl ?_ rfl
  refine seq_nx (ρ1 := [.fz (.list []), .fz (.list F), .no, .no, .no]) (if_f (tstB (be_gt (lenfz (k := .fz) (l := []) (sv_fz (var_fz rfl))) ie_c) rfl) rfl) ?_
  refine seq_nx (ρ1 := [.fz (.list []), .fz (.list F), .no, .no, .no]) (if_f (tNe lf ie_c (by omega)) rfl) ?_
  refine seq_nx (ρ1 := [.fz (.list []), .fz (.list F), .fz (.int ((h + 1 : Nat) : Int)), .no, .no]) (nr_ev (asgI ((ie_div (ie_add lf ie_c) ie_c ⟨by decide, by decide⟩).is (by omega)) rfl)) ?_
  refine seq_nx (ρ1 := [.fz (.list []), .fz (.list F), .fz (.int ((h + 1 : Nat) : Int)), .own (.list ((p.take h).reverse ++ [t])), .no]) (nr_ev (asg_new (cb_ev (rs := [(.list (t :: p.take h), .fz)]) (res := (.list ((p.take h).reverse ++ [t]), true)) (cons_fz (sv_new s1) nil_ev) (by show some (PyData.list (t :: p.take h).reverse, true) = _; rw [List.reverse_cons])) rfl)) ?_
  have pp := pop_ev (i := 3) (ρ := [.fz (.list []), .fz (.list F), .fz (.int ((h + 1 : Nat) : Int)), .own (.list ((p.take h).reverse ++ [t])), .no]) t (p.take h).reverse rfl rfl
  refine seq_nx (ρ1 := [.fz (.list []), .fz (.list F), .fz (.int ((h + 1 : Nat) : Int)), .own (.list (p.take h).reverse), .fz t]) (nr_ev (asg_fz pp rfl)) ?_
  have tq : mTupN (mConsN (mLeafN (mVar 3)) (mConsN (mLeafN (mSl gSl (mVar 1) (mPart (mVar 2)) mNoPart)) mNil)) [.fz (.list []), .fz (.list F), .fz (.int ((h + 1 : Nat) : Int)), .own (.list (p.take h).reverse), .fz t] = some ((Qd (p.take h).reverse (p.drop h), .fz), [.fz (.list []), .fz (.list F), .fz (.int ((h + 1 : Nat) : Int)), .fz (.list (p.take h).reverse), .fz t]) := tupN_ev (rs := [(.list (p.take h).reverse, .at 3), (.list (p.drop h), .fz)]) (consN_at (sv_at (leaf_at (var_own rfl))) (consN_fz (sv_new (leaf_new s2)) nil_ev) rfl) rfl (by simp)
  exact ret_eq (tupN_ev (rs := [(t, .fz), (Qd (p.take h).reverse (p.drop h), .fz), (.list (mvd (p.length + 1)), .fz)]) (consN_fz (sv_fz (leaf_fz (var_fz rfl) (thing_pure ht))) (consN_fz (sv_fz tq) (consN_fz (sv_new (leaf_new st)) nil_ev))) rfl (by simp))
theorem first_by {l r : List D} {T : D} (h : m_take_near [.list l, .list r] = some (T, false)) : m_take_first [Qd l r] = some (T, false) := by
  generalize hR : Qd l r = R
  have e0 : mOp gIx (mVar 0) (mC (.int 0)) [.fz R] = some ((.list l, .fz), [.fz R]) := op_ev (r := (.int 0, .fz)) (res := (.list l, false)) (sv_fz (var_fz rfl)) (sv_fz rfl) (by rw [← hR]; exact ix0 _ _)
  have e1 : mOp gIx (mVar 0) (mC (.int 1)) [.fz R] = some ((.list r, .fz), [.fz R]) := op_ev (r := (.int 1, .fz)) (res := (.list r, false)) (sv_fz (var_fz rfl)) (sv_fz rfl) (by rw [← hR]; exact ix1 _ _)
  exact fn_of (o := .rt (T, .fz) [.fz R]) rfl (ret_eq (callN_ev (rs := [(.list l, .fz), (.list r, .fz)]) (cons_fz (sv_fz e0) (cons_fz (sv_fz e1) nil_ev)) rfl h)) rfl
theorem last_by {l r a b st : List D} {t : D} (h : m_take_near [.list r, .list l] = some (.tuple [t, Qd a b, .list st], false)) : m_take_last [Qd l r] = some (.tuple [t, Qd b a, .list st], false) := by
  generalize hR : Qd l r = R
  have e0 : mOp gIx (mVar 0) (mC (.int 0)) [.fz R, .no] = some ((.list l, .fz), [.fz R, .no]) := op_ev (r := (.int 0, .fz)) (res := (.list l, false)) (sv_fz (var_fz rfl)) (sv_fz rfl) (by rw [← hR]; exact ix0 _ _)
  have e1 : mOp gIx (mVar 0) (mC (.int 1)) [.fz R, .no] = some ((.list r, .fz), [.fz R, .no]) := op_ev (r := (.int 1, .fz)) (res := (.list r, false)) (sv_fz (var_fz rfl)) (sv_fz rfl) (by rw [← hR]; exact ix1 _ _)
  generalize hT : PyData.tuple [t, Qd a b, .list st] = T at h
  have p0 : mPth 1 (pIx some 0) [(1, T)] [.fz R, .fz T] = some ((t, .fz), [.fz R, .fz T]) := pth_ev rfl (by rw [← hT]; rfl)
  have p1 : mPth 1 (pIx (pIx some 1) 1) [(1, T)] [.fz R, .fz T] = some ((.list b, .fz), [.fz R, .fz T]) := pth_ev rfl (by rw [← hT]; rfl)
  have p2 : mPth 1 (pIx (pIx some 1) 0) [(1, T)] [.fz R, .fz T] = some ((.list a, .fz), [.fz R, .fz T]) := pth_ev rfl (by rw [← hT]; rfl)
  have p3 : mPth 1 (pIx some 2) [(1, T)] [.fz R, .fz T] = some ((.list st, .fz), [.fz R, .fz T]) := pth_ev rfl (by rw [← hT]; rfl)
  refine fn_of (o := .rt (.tuple [t, Qd b a, .list st], .fz) [.fz R, .fz T]) rfl ?_ rfl
  refine setN_ev (rs := [(.list r, .fz), (.list l, .fz)]) (ds := [.list r, .list l]) (ρ2 := [.fz R, .no]) (ρ3 := [.fz R, .fz T]) (cons_fz (sv_fz e1) (cons_fz (sv_fz e0) nil_ev)) rfl h rfl ?_
  have tq := tupN_ev (rs := [(.list b, .fz), (.list a, .fz)]) (consN_fz (sv_fz p1) (consN_fz (sv_fz p2) nil_ev)) rfl (by simp)
  exact ret_eq (tupN_ev (rs := [(t, .fz), (Qd b a, .fz), (.list st, .fz)]) (consN_fz (sv_fz p0) (consN_fz (sv_fz tq) (consN_fz (sv_fz p3) nil_ev))) rfl (by simp))
theorem abcb {ρ : Rho} {i : Nat} {l r : List D} (h : ρ[i]? = some (.fz (Qd l r))) : IE (mCB gAbs (mCons (mOp gSub (mCB gLen (mCons (mOp gIx (mVar i) (mC (.int 0))) mNil)) (mCB gLen (mCons (mOp gIx (mVar i) (mC (.int 1))) mNil))) mNil)) ρ (ab ((l.length : Int) - r.length)) := by
  have e0 : mOp gIx (mVar i) (mC (.int 0)) ρ = some ((.list l, .fz), ρ) := op_ev (r := (.int 0, .fz)) (res := (.list l, false)) (sv_fz (var_fz h)) (sv_fz rfl) (ix0 _ _)
  have e1 : mOp gIx (mVar i) (mC (.int 1)) ρ = some ((.list r, .fz), ρ) := op_ev (r := (.int 1, .fz)) (res := (.list r, false)) (sv_fz (var_fz h)) (sv_fz rfl) (ix1 _ _)
  exact cb_ev (rs := [(.int ((l.length : Int) - r.length), .fz)]) (res := (.int (ab ((l.length : Int) - r.length)), false)) (consI (ie_sub (lenfz (k := .fz) (sv_fz e0)) (lenfz (k := .fz) (sv_fz e1))) nil_ev) rfl
theorem paid_is {l r l' r' st : List D} (h : (st.length : Int) + ab ((l'.length : Int) - r'.length) ≤ ab ((l.length : Int) - r.length) + 2) : m_law_paid [Qd l r, Qd l' r', .list st] = some (.bool true, false) := by
  have c0 := dcred_is l r
  have c1 := dcred_is l' r'
  have a0 : ∀ {ρ : Rho}, ρ[0]? = some (.fz (Qd l r)) → IE (mCB gAbs (mCons (mOp gSub (mCB gLen (mCons (mOp gIx (mVar 0) (mC (.int 0))) mNil)) (mCB gLen (mCons (mOp gIx (mVar 0) (mC (.int 1))) mNil))) mNil)) ρ (ab ((l.length : Int) - r.length)) := fun {ρ} h => abcb h
  have a1 : ∀ {ρ : Rho}, ρ[1]? = some (.fz (Qd l' r')) → IE (mCB gAbs (mCons (mOp gSub (mCB gLen (mCons (mOp gIx (mVar 1) (mC (.int 0))) mNil)) (mCB gLen (mCons (mOp gIx (mVar 1) (mC (.int 1))) mNil))) mNil)) ρ (ab ((l'.length : Int) - r'.length)) := fun {ρ} h => abcb h
  generalize Qd l r = X at *
  generalize Qd l' r' = Y at *
  generalize ab ((l.length : Int) - r.length) = u at *
  generalize ab ((l'.length : Int) - r'.length) = v at *
  have wh : ∀ i : Int, m_law_whole [.int i] = some (.bool true, false) := fun i => rfl
  refine fn_of (o := .rt (.bool true, .fz) [.fz X, .fz Y, .fz (.list st), .fz (.int u), .fz (.int v)]) rfl ?_ rfl
  refine seq_nx (ρ1 := [.fz X, .fz Y, .fz (.list st), .fz (.int u), .no]) (asgI (ie_call (rs := [(X, .fz)]) rfl c0) rfl) ?_
  refine seq_nx (ρ1 := [.fz X, .fz Y, .fz (.list st), .fz (.int u), .fz (.int v)]) (asgI (ie_call (rs := [(Y, .fz)]) rfl c1) rfl) ?_
  refine seq_nx (ρ1 := [.fz X, .fz Y, .fz (.list st), .fz (.int u), .fz (.int v)]) (if_f (or_f (not_ev (v := true) (be_call (rs := [(.int u, .fz)]) rfl (wh _)).t) (tstB (be_ne (ie_var rfl) (a0 rfl)) (by rw [decide_eq_true rfl]; rfl))) rfl) ?_
  refine seq_nx (ρ1 := [.fz X, .fz Y, .fz (.list st), .fz (.int u), .fz (.int v)]) (if_f (or_f (not_ev (v := true) (be_call (rs := [(.int v, .fz)]) rfl (wh _)).t) (tstB (be_ne (ie_var rfl) (a1 rfl)) (by rw [decide_eq_true rfl]; rfl))) rfl) ?_
  exact ret_eq ((be_le (ie_add (lenfz (k := .fz) (l := st) (sv_fz (var_fz rfl))) (ie_var rfl)) (ie_add (ie_var rfl) ie_c)).is (decide_eq_true h))
theorem mvd_sm (n : Nat) : Sms (mvd n) := (Sms.rep "moved" (by decide +kernel) n).append (Sms.one "taken" (by decide +kernel))
abbrev d7 (R : D) (b : Bool) (l r row : List D) (h : Nat) (st : List D) : Rho := [.fz R, .fz (.bool b), .own (.list l), .own (.list r), .own (.list row), .fz (.int (h : Int)), .own (.list st)]
theorem due_head {l r : List D} (b : Bool) (hz : l.length + r.length ≤ 80000) (R : D) (hR : Qd l r = R) (k : SM) (o : Option Out) (hk : k (d7 R b l r (l.reverse ++ r) ((l.length + r.length + 1) / 2) (mvd (l.length + r.length))) = o) :
    mSeq (mAsg 2 (mCB gList (mCons (mOp gIx (mVar 0) (mC (.int 0))) mNil))) (mSeq (mAsg 3 (mCB gList (mCons (mOp gIx (mVar 0) (mC (.int 1))) mNil))) (mSeq (mAsg 4 (mOp gAdd (mCB gListRev (mCons (mVar 2) mNil)) (mVar 3))) (mSeq (mAsg 5 (mOp gDiv (mOp gAdd (mCB gLen (mCons (mVar 4) mNil)) (mC (.int 1))) (mC (.int 2)))) (mSeq (mAsg 6 (mOp gAdd (mRep (mCons (mC (.str "moved")) mNil) (mCB gLen (mCons (mVar 4) mNil))) (mLst (mCons (mC (.str "taken")) mNil)))) k)))) [.fz R, .fz (.bool b), .no, .no, .no, .no, .no] = o := by
  have e0 : ∀ {ρ : Rho}, ρ[0]? = some (.fz R) → mOp gIx (mVar 0) (mC (.int 0)) ρ = some ((.list l, .fz), ρ) := fun {ρ} h => op_ev (r := (.int 0, .fz)) (res := (.list l, false)) (sv_fz (var_fz h)) (sv_fz rfl) (by rw [← hR]; exact ix0 _ _)
  have e1 : ∀ {ρ : Rho}, ρ[0]? = some (.fz R) → mOp gIx (mVar 0) (mC (.int 1)) ρ = some ((.list r, .fz), ρ) := fun {ρ} h => op_ev (r := (.int 1, .fz)) (res := (.list r, false)) (sv_fz (var_fz h)) (sv_fz rfl) (by rw [← hR]; exact ix1 _ _)
  have ga : gAdd (.list l.reverse) (.list r) = some (.list (l.reverse ++ r), true) := gAdd_list _ _ (by walk_at "szo")
  have hl : (l.reverse ++ r).length = l.length + r.length := by simp
  generalize l.reverse ++ r = row at *
  have gr : gListRev [.list l] = some (.list l.reverse, true) := rfl
  generalize l.reverse = l2 at *
  refine seq_nx (ρ1 := [.fz R, .fz (.bool b), .own (.list l), .no, .no, .no, .no]) (asg_new (cb_ev (rs := [(.list l, .fz)]) (res := (.list l, true)) (cons_fz (sv_fz (e0 rfl)) nil_ev) rfl) rfl) ?_
  refine seq_nx (ρ1 := [.fz R, .fz (.bool b), .own (.list l), .own (.list r), .no, .no, .no]) (asg_new (cb_ev (rs := [(.list r, .fz)]) (res := (.list r, true)) (cons_fz (sv_fz (e1 rfl)) nil_ev) rfl) rfl) ?_
  refine seq_nx (ρ1 := [.fz R, .fz (.bool b), .own (.list l), .own (.list r), .own (.list row), .no, .no]) (asg_new (op_ev (g := gAdd) (r := (.list r, .at 3)) (res := (.list row, true)) (sv_new (cb_ev (rs := [(.list l, .at 2)]) (res := (.list l2, true)) (cons_at (sv_at (var_own rfl)) nil_ev rfl) gr)) (sv_at (var_own rfl)) ga) rfl) ?_
  refine seq_nx (ρ1 := [.fz R, .fz (.bool b), .own (.list l), .own (.list r), .own (.list row), .fz (.int (((l.length + r.length + 1) / 2 : Nat) : Int)), .no]) (asgI ((ie_div (ie_add (qlen (i := 4) rfl) ie_c) ie_c ⟨by decide, by decide⟩).is (by rw [hl]; omega)) rfl) ?_
  have rp : mRep (mCons (mC (.str "moved")) mNil) (mCB gLen (mCons (mVar 4) mNil)) [.fz R, .fz (.bool b), .own (.list l), .own (.list r), .own (.list row), .fz (.int (((l.length + r.length + 1) / 2 : Nat) : Int)), .no] = some ((.list (List.replicate (l.length + r.length) (.str "moved")), .new), [.fz R, .fz (.bool b), .own (.list l), .own (.list r), .own (.list row), .fz (.int (((l.length + r.length + 1) / 2 : Nat) : Int)), .no]) := by
    unfold mRep
    rw [lst_ev (rs := [(.str "moved", .fz)]) (ds := [.str "moved"]) rfl rfl (by simp), Option.bind_some]
    dsimp only
    rw [sv_fz (IE.is (qlen (i := 4) rfl) (j := ((l.length + r.length : Nat) : Int)) (by rw [hl])), Option.bind_some]
    dsimp only
    rw [rep_one _ _ (by omega)]; rfl
  exact seq_nx (ρ1 := d7 R b l r row ((l.length + r.length + 1) / 2) (mvd (l.length + r.length))) (asg_new (op_ev (g := gAdd) (r := (.list [.str "taken"], .fz)) (res := (.list (mvd (l.length + r.length)), true)) (sv_new rp) (sv_new (lst_ev (rs := [(.str "taken", .fz)]) rfl rfl (by simp))) (gAdd_list _ _ (by walk_at "szo"))) rfl) hk
theorem tl {g : D → D → Option (D × Bool)} {l : List D} {v : Bool} {ρ : Rho} {i : Nat} (h0 : ρ[i]? = some (.own (.list l))) (h : g (.list l) (.list []) = some (.bool v, false)) : mTest (mOp g (mVar i) (mLst mNil)) ρ = some (v, ρ) := test_ev (k := .fz) (op_at (i := i) (r := (.list [], .fz)) (res := (.bool v, false)) (sv_at (var_own h0)) (sv_new (lst_ev rfl rfl (by simp))) h0 h)
theorem due_A (t : D) (p : List D) (hz : p.length ≤ 70000) : m_law_due [Qd [] (t :: p), .bool true] = some (.tuple [.list (p.take ((p.length + 2) / 2 - 1)).reverse, .list (p.drop ((p.length + 2) / 2 - 1)), .list (mvd (p.length + 1))], false) := by
  obtain ⟨h, hh⟩ : ∃ h, (p.length + 2) / 2 = h + 1 := ⟨(p.length + 2) / 2 - 1, by omega⟩
  rw [hh, Nat.add_sub_cancel]
  have cm : cutD (t :: p) (some 1) (some ((h + 1 : Nat) : Int)) = p.take h := by
    unfold cutD
    rw [show (1 : Int) = ((1 : Nat) : Int) from rfl, HT.sIx_nat, HT.sIx_nat, List.length_cons, Nat.min_eq_left (by omega), Nat.min_eq_left (by omega)]
    simp
  have cf := cut_from (t :: p) (h + 1) (by simp; omega)
  rw [List.drop_succ_cons] at cf
  generalize hR : Qd [] (t :: p) = R
  have e1 : ([] : List D).length + (t :: p).length = p.length + 1 := by simp
  refine fn_of (o := .rt (.tuple [.list (p.take h).reverse, .list (p.drop h), .list (mvd (p.length + 1))], .fz) [.fz R, .fz (.bool true), .own (.list []), .own (.list (t :: p)), .own (.list (t :: p)), .fz (.int ((h + 1 : Nat) : Int)), .fz (.list (mvd (p.length + 1)))]) rfl (due_head true (by simp; omega) R hR _ _ ?_) rfl
  rw [e1, show p.length + 1 + 1 = p.length + 2 from rfl, hh]
  refine seq_rt (if_t (and_t (test_ev (k := .fz) (var_fz rfl)) (tl rfl eq_nil)) (ret_eq ?_))
  have s1 : mSl gSl (mVar 4) (mPart (mC (.int 1))) (mPart (mVar 5)) (d7 R true [] (t :: p) (t :: p) (h + 1) (mvd (p.length + 1))) = some ((.list (p.take h), .new), d7 R true [] (t :: p) (t :: p) (h + 1) (mvd (p.length + 1))) := by
    show some ((PyData.list (cutD (t :: p) (some 1) (some ((h + 1 : Nat) : Int))), Kd.new), _) = _
    rw [cm]
  have s2 : mSl gSl (mVar 4) (mPart (mVar 5)) mNoPart (d7 R true [] (t :: p) (t :: p) (h + 1) (mvd (p.length + 1))) = some ((.list (p.drop h), .new), d7 R true [] (t :: p) (t :: p) (h + 1) (mvd (p.length + 1))) := by
    show some ((PyData.list (cutD (t :: p) (some ((h + 1 : Nat) : Int)) none), Kd.new), _) = _
    rw [cf]
  exact tup_ev (rs := [(.list (p.take h).reverse, .fz), (.list (p.drop h), .fz), (.list (mvd (p.length + 1)), .at 6)]) (cons_fz (sv_new (cb_ev (rs := [(.list (p.take h), .fz)]) (res := (.list (p.take h).reverse, true)) (cons_fz (sv_new s1) nil_ev) rfl)) (cons_fz (sv_new s2) (cons_at (sv_at (var_own rfl)) nil_ev rfl))) rfl (by simp)
theorem due_B (t : D) (p : List D) (hz : p.length ≤ 70000) : m_law_due [Qd (t :: p) [], .bool false] = some (.tuple [.list (p.drop ((p.length + 2) / 2 - 1)), .list (p.take ((p.length + 2) / 2 - 1)).reverse, .list (mvd (p.length + 1))], false) := by
  obtain ⟨h, hh⟩ : ∃ h, (p.length + 2) / 2 = h + 1 := ⟨(p.length + 2) / 2 - 1, by omega⟩
  rw [hh, Nat.add_sub_cancel]
  have hle : h ≤ p.length := by omega
  have c1 : cutD (p.reverse ++ [t]) none (some ((p.length - h : Nat) : Int)) = (p.drop h).reverse := by
    rw [cut_to _ _ (by simp; omega), List.take_append_of_le_length (by simp), List.take_reverse, Nat.sub_sub_self hle]
  have c2 : cutD (p.reverse ++ [t]) (some ((p.length - h : Nat) : Int)) (some (-1)) = (p.take h).reverse := by
    unfold cutD
    have e : HT.sIx (p.reverse ++ [t]).length (p.reverse ++ [t]).length (some (-1)) = p.length := by
      unfold HT.sIx
      simp
      omega
    rw [e, HT.sIx_nat, Nat.min_eq_left (by simp; omega), List.drop_append_of_le_length (by simp), List.take_append_of_le_length (by simp), List.take_of_length_le (by simp), List.drop_reverse, Nat.sub_sub_self hle]
  generalize hR : Qd (t :: p) [] = R
  have e1 : (t :: p).length + ([] : List D).length = p.length + 1 := by simp
  have e2 : (t :: p).reverse ++ [] = p.reverse ++ [t] := by simp
  have ln : (p.reverse ++ [t]).length = p.length + 1 := by simp
  refine fn_of (o := .rt (.tuple [.list (p.drop h), .list (p.take h).reverse, .list (mvd (p.length + 1))], .fz) [.fz R, .fz (.bool false), .own (.list (t :: p)), .own (.list []), .own (.list (p.reverse ++ [t])), .fz (.int ((h + 1 : Nat) : Int)), .fz (.list (mvd (p.length + 1)))]) rfl (due_head false (by simp; omega) R hR _ _ ?_) rfl
  rw [e1, e2, show p.length + 1 + 1 = p.length + 2 from rfl, hh]
  generalize p.reverse ++ [t] = row at *
  have df : IE (mOp gSub (mCB gLen (mCons (mVar 4) mNil)) (mVar 5)) (d7 R false (t :: p) [] row (h + 1) (mvd (p.length + 1))) ((p.length - h : Nat) : Int) := (ie_sub (qlen (i := 4) rfl) (ie_var rfl)).is (by rw [ln]; omega)
  refine seq_nx (if_f (and_f (test_ev (k := .fz) (var_fz rfl))) rfl) ?_
  refine seq_rt (if_t (and_t (not_ev (v := false) (test_ev (k := .fz) (var_fz rfl))) (tl rfl eq_nil)) (ret_eq ?_))
  have mp : mPart (mOp gSub (mCB gLen (mCons (mVar 4) mNil)) (mVar 5)) (d7 R false (t :: p) [] row (h + 1) (mvd (p.length + 1))) = some (some ((p.length - h : Nat) : Int), d7 R false (t :: p) [] row (h + 1) (mvd (p.length + 1))) := by
    unfold mPart; rw [sv_fz df]; rfl
  have s1 : mSl gSl (mVar 4) mNoPart (mPart (mOp gSub (mCB gLen (mCons (mVar 4) mNil)) (mVar 5))) (d7 R false (t :: p) [] row (h + 1) (mvd (p.length + 1))) = some ((.list (p.drop h).reverse, .new), d7 R false (t :: p) [] row (h + 1) (mvd (p.length + 1))) := by
    unfold mSl
    rw [sv_at (show mVar 4 (d7 R false (t :: p) [] row (h + 1) (mvd (p.length + 1))) = some ((.list row, .at 4), _) from var_own rfl), Option.bind_some]
    dsimp only [mNoPart, Option.bind_some]
    rw [mp, Option.bind_some]
    show some ((PyData.list (cutD row none (some ((p.length - h : Nat) : Int))), Kd.new), _) = _
    rw [c1]
  have s2 : mSl gSl (mVar 4) (mPart (mOp gSub (mCB gLen (mCons (mVar 4) mNil)) (mVar 5))) (mPart (mUn gNeg (mC (.int 1)))) (d7 R false (t :: p) [] row (h + 1) (mvd (p.length + 1))) = some ((.list (p.take h).reverse, .new), d7 R false (t :: p) [] row (h + 1) (mvd (p.length + 1))) := by
    unfold mSl
    rw [sv_at (show mVar 4 (d7 R false (t :: p) [] row (h + 1) (mvd (p.length + 1))) = some ((.list row, .at 4), _) from var_own rfl), Option.bind_some]
    dsimp only
    rw [mp, Option.bind_some]
    dsimp only
    rw [neg1, Option.bind_some]
    show some ((PyData.list (cutD row (some ((p.length - h : Nat) : Int)) (some (-1))), Kd.new), _) = _
    rw [c2]
  exact tup_ev (rs := [(.list (p.drop h), .fz), (.list (p.take h).reverse, .fz), (.list (mvd (p.length + 1)), .at 6)]) (cons_fz (sv_new (cb_ev (rs := [(.list (p.drop h).reverse, .fz)]) (res := (.list (p.drop h), true)) (cons_fz (sv_new s1) nil_ev) (by show some (PyData.list (p.drop h).reverse.reverse, true) = _; rw [List.reverse_reverse]))) (cons_fz (sv_new s2) (cons_at (sv_at (var_own rfl)) nil_ev rfl))) rfl (by simp)
theorem due_C (fs r : List D) (t : D) (hf : Ths (fs ++ [t])) (hz : fs.length + r.length ≤ 70000) : m_law_due [Qd (fs ++ [t]) r, .bool true] = some (.tuple [.list fs, .list r, .list [.str "taken"]], false) := by
  have cl := cut_last fs t
  have en := eq_lay hf.lay (by simp)
  have ln : (fs ++ [t]).length = fs.length + 1 := by simp
  generalize hR : Qd (fs ++ [t]) r = R
  generalize fs ++ [t] = l at *
  refine fn_of (o := .rt (.tuple [.list fs, .list r, .list [.str "taken"]], .fz) [.fz R, .fz (.bool true), .own (.list l), .fz (.list r), .own (.list (l.reverse ++ r)), .fz (.int (((l.length + r.length + 1) / 2 : Nat) : Int)), .own (.list (mvd (l.length + r.length)))]) rfl (due_head true (by omega) R hR _ _ ?_) rfl
  generalize l.reverse ++ r = row
  generalize (l.length + r.length + 1) / 2 = h
  generalize mvd (l.length + r.length) = st
  refine seq_nx (if_f (and_t (test_ev (k := .fz) (var_fz rfl)) (tl rfl en)) rfl) ?_
  refine seq_nx (if_f (and_f (not_ev (v := true) (test_ev (k := .fz) (var_fz rfl)))) rfl) ?_
  refine seq_rt (if_t (test_ev (k := .fz) (var_fz rfl)) (ret_eq ?_))
  have s1 : mSl gSl (mVar 2) mNoPart (mPart (mUn gNeg (mC (.int 1)))) (d7 R true l r row h st) = some ((.list fs, .new), d7 R true l r row h st) := by
    show some ((PyData.list (cutD l none (some (-1))), Kd.new), _) = _
    rw [cl]
  exact tup_ev (rs := [(.list fs, .fz), (.list r, .at 3), (.list [.str "taken"], .fz)]) (cons_fz (sv_new s1) (cons_at (sv_at (var_own rfl)) (cons_fz (sv_new (lst_ev (rs := [(.str "taken", .fz)]) rfl rfl (by simp))) nil_ev) rfl)) rfl (by simp)
theorem due_D (l rs : List D) (t : D) (hf : Ths (rs ++ [t])) (hz : l.length + rs.length ≤ 70000) : m_law_due [Qd l (rs ++ [t]), .bool false] = some (.tuple [.list l, .list rs, .list [.str "taken"]], false) := by
  have cl := cut_last rs t
  have en := eq_lay hf.lay (by simp)
  have ln : (rs ++ [t]).length = rs.length + 1 := by simp
  generalize hR : Qd l (rs ++ [t]) = R
  generalize rs ++ [t] = r at *
  refine fn_of (o := .rt (.tuple [.list l, .list rs, .list [.str "taken"]], .fz) [.fz R, .fz (.bool false), .fz (.list l), .own (.list r), .own (.list (l.reverse ++ r)), .fz (.int (((l.length + r.length + 1) / 2 : Nat) : Int)), .own (.list (mvd (l.length + r.length)))]) rfl (due_head false (by omega) R hR _ _ ?_) rfl
  generalize l.reverse ++ r = row
  generalize (l.length + r.length + 1) / 2 = h
  generalize mvd (l.length + r.length) = st
  refine seq_nx (if_f (and_f (test_ev (k := .fz) (var_fz rfl))) rfl) ?_
  refine seq_nx (if_f (and_t (not_ev (v := false) (test_ev (k := .fz) (var_fz rfl))) (tl rfl en)) rfl) ?_
  refine seq_nx (if_f (test_ev (k := .fz) (var_fz rfl)) rfl) ?_
  have s1 : mSl gSl (mVar 3) mNoPart (mPart (mUn gNeg (mC (.int 1)))) (d7 R false l r row h st) = some ((.list rs, .new), d7 R false l r row h st) := by
    show some ((PyData.list (cutD r none (some (-1))), Kd.new), _) = _
    rw [cl]
  exact ret_eq (tup_ev (rs := [(.list l, .at 2), (.list rs, .fz), (.list [.str "taken"], .fz)]) (cons_at (sv_at (var_own rfl)) (cons_fz (sv_new s1) (cons_fz (sv_new (lst_ev (rs := [(.str "taken", .fz)]) rfl rfl (by simp))) nil_ev)) rfl) rfl (by simp))
theorem put_right {l r : List D} {t : D} (hl : Ths l) (hr : Ths r) (ht : Thing t) (hz : l.length + r.length ≤ 60000) (b : Bool) : m_law_put_right [Qd l r, t, .bool b] = some (.bool true, false) := by
  have rest : ∀ (l' r' : List D) (T : D), PyData.tuple [Qd l' r', .list [.str "laid"]] = T → Ths l' → Ths r' → l'.length + r'.length ≤ 70000 → (1 : Int) + ab ((l'.length : Int) - r'.length) ≤ ab ((l.length : Int) - r.length) + 2 → ∀ ps : Rho, ∃ ρ', rb1_law_put_right ps [.fz (Qd l r), .fz t, .fz (.bool b), .own (.list l'), .own (.list r'), .fz T] = some (.rt (.bool true, .fz) ρ') := fun l' r' T hT hl' hr' hz' hp ps => by
    have iq := is_double (f := l') (b := r') hl' hr' (by omega)
    have il := is_listS (Sms.one "laid" (by decide +kernel)) (by simp)
    have pd := paid_is (l := l) (r := r) (l' := l') (r' := r') (st := [.str "laid"]) (by simpa using hp)
    generalize Qd l r = R at *
    generalize hV : Qd l' r' = V at *
    have t0 : mOp gIx (mVar 5) (mC (.int 0)) [.fz R, .fz t, .fz (.bool b), .own (.list l'), .own (.list r'), .fz T] = some ((V, .fz), [.fz R, .fz t, .fz (.bool b), .own (.list l'), .own (.list r'), .fz T]) := op_ev (r := (.int 0, .fz)) (res := (V, false)) (sv_fz (var_fz rfl)) (sv_fz rfl) (by rw [← hT]; rfl)
    have t1 : mOp gIx (mVar 5) (mC (.int 1)) [.fz R, .fz t, .fz (.bool b), .own (.list l'), .own (.list r'), .fz T] = some ((.list [.str "laid"], .fz), [.fz R, .fz t, .fz (.bool b), .own (.list l'), .own (.list r'), .fz T]) := op_ev (r := (.int 1, .fz)) (res := (.list [.str "laid"], false)) (sv_fz (var_fz rfl)) (sv_fz rfl) (by rw [← hT]; rfl)
    have isT : gIsi "tuple" T = some (.bool true, false) := by rw [← hT]; exact isi_tuple_tuple _
    have lT : gLen [T] = some (.int 2, false) := by rw [← hT]; rfl
    have l2 : mLst (mCons (mC (.str "laid")) mNil) [.fz R, .fz t, .fz (.bool b), .own (.list l'), .own (.list r'), .fz T] = some ((.list [.str "laid"], .new), [.fz R, .fz t, .fz (.bool b), .own (.list l'), .own (.list r'), .fz T]) := lst_ev (rs := [(.str "laid", .fz)]) rfl rfl (by simp)
    refine ⟨_, bseq_nx (ρ1 := [.fz R, .fz t, .fz (.bool b), .own (.list l'), .own (.list r'), .fz T]) (if_f (or_f (not_ev (v := true) (test_ev (k := .fz) (isi_ev (sv_fz (var_fz rfl)) isT))) (or_f (tstB (be_ne (cb_ev (rs := [(T, .fz)]) (res := (.int 2, false)) (cons_fz (sv_fz (var_fz rfl)) nil_ev) lT) ie_c) rfl) (not_ev (v := true) (be_call (rs := [(.list [.str "laid"], .fz), (.list [.str "laid"], .fz)]) (cons_fz (sv_fz t1) (cons_fz (sv_new l2) nil_ev)) il).t))) rfl) (bseq_nx (ρ1 := [.fz R, .fz t, .fz (.bool b), .own (.list l'), .own (.list r'), .fz T]) (if_f (or_f (not_ev (v := true) (test_ev (k := .fz) (call_pure (rs := [(V, .fz), (.list l', .at 3), (.list r', .at 4)]) (cons_fz (sv_fz t0) rfl) iq rfl))) (not_ev (v := true) (be_call (rs := [(R, .fz), (V, .fz), (.list [.str "laid"], .fz)]) (cons_fz (sv_fz (var_fz rfl)) (cons_fz (sv_fz t0) (cons_fz (sv_fz t1) nil_ev))) pd).t)) rfl) rfl)⟩
  have hlt : Ths (l ++ [t]) := hl.append (Ths.cons ht Ths.nil)
  have hrt : Ths (r ++ [t]) := hr.append (Ths.cons ht Ths.nil)
  have pf := pfirstN l r t (by omega)
  have pl := plastN l r t (by omega)
  have sh1 := shortT_put (l ++ [t]) r [.str "laid"] (by walk_at "szo") (by omega) (by simp)
  have sh2 := shortT_put l (r ++ [t]) [.str "laid"] (by omega) (by walk_at "szo") (by simp)
  have hp1 : (1 : Int) + ab (((l ++ [t]).length : Int) - r.length) ≤ ab ((l.length : Int) - r.length) + 2 := by rw [List.length_append, List.length_singleton]; unfold ab; split <;> split <;> omega
  have hp2 : (1 : Int) + ab ((l.length : Int) - (r ++ [t]).length) ≤ ab ((l.length : Int) - r.length) + 2 := by rw [List.length_append, List.length_singleton]; unfold ab; split <;> split <;> omega
  have e0 : ∀ {ρ : Rho}, ρ[0]? = some (.fz (Qd l r)) → mOp gIx (mVar 0) (mC (.int 0)) ρ = some ((.list l, .fz), ρ) := fun {ρ} h => op_ev (r := (.int 0, .fz)) (res := (.list l, false)) (sv_fz (var_fz h)) (sv_fz rfl) (ix0 _ _)
  have e1 : ∀ {ρ : Rho}, ρ[0]? = some (.fz (Qd l r)) → mOp gIx (mVar 0) (mC (.int 1)) ρ = some ((.list r, .fz), ρ) := fun {ρ} h => op_ev (r := (.int 1, .fz)) (res := (.list r, false)) (sv_fz (var_fz h)) (sv_fz rfl) (ix1 _ _)
  have body : ∃ ρ', b_law_put_right [.fz (Qd l r), .fz t, .fz (.bool b), .no, .no, .no] = some (.rt (.bool true, .fz) ρ') := by
    have hd : ∀ (k : SM) (o : Option Out), k [.fz (Qd l r), .fz t, .fz (.bool b), .own (.list l), .own (.list r), .no] = o → mSeq (mAsg 3 (mCB gList (mCons (mOp gIx (mVar 0) (mC (.int 0))) mNil))) (mSeq (mAsg 4 (mCB gList (mCons (mOp gIx (mVar 0) (mC (.int 1))) mNil))) k) [.fz (Qd l r), .fz t, .fz (.bool b), .no, .no, .no] = o := fun k o hk =>
      seq_nx (ρ1 := [.fz (Qd l r), .fz t, .fz (.bool b), .own (.list l), .no, .no]) (asg_new (cb_ev (rs := [(.list l, .fz)]) (res := (.list l, true)) (cons_fz (sv_fz (e0 rfl)) nil_ev) rfl) rfl) (seq_nx (ρ1 := [.fz (Qd l r), .fz t, .fz (.bool b), .own (.list l), .own (.list r), .no]) (asg_new (cb_ev (rs := [(.list r, .fz)]) (res := (.list r, true)) (cons_fz (sv_fz (e1 rfl)) nil_ev) rfl) rfl) hk)
    cases b with
    | true =>
      obtain ⟨ρ', rs⟩ := rest (l ++ [t]) r _ rfl hlt hr (by walk_at "szo") hp1 [.fz (Qd l r), .fz t, .fz (.bool true), .own (.list l), .own (.list r), .no]
      exact ⟨ρ', hd _ _ (if_t (test_ev (k := .fz) (var_fz rfl)) (deadN_ev (rs := [(Qd l r, .fz), (t, .fz)]) (ds := [Qd l r, t]) (ρ2 := [.fz (Qd l r), .fz t, .fz (.bool true), .own (.list l), .own (.list r), .no]) (ρ3 := [.fz (Qd l r), .fz t, .fz (.bool true), .own (.list l), .own (.list r), .fz (.tuple [Qd (l ++ [t]) r, .list [.str "laid"]])]) rfl rfl pf rfl rfl sh1 rfl (bseq_nx (app_ev t l rfl (cons_fz (sv_fz (var_fz rfl)) nil_ev) rfl rfl (by omega) rfl) rs)))⟩
    | false =>
      obtain ⟨ρ', rs⟩ := rest l (r ++ [t]) _ rfl hl hrt (by walk_at "szo") hp2 [.fz (Qd l r), .fz t, .fz (.bool false), .own (.list l), .own (.list r), .no]
      exact ⟨ρ', hd _ _ (if_f (test_ev (k := .fz) (var_fz rfl)) (deadN_ev (rs := [(Qd l r, .fz), (t, .fz)]) (ds := [Qd l r, t]) (ρ2 := [.fz (Qd l r), .fz t, .fz (.bool false), .own (.list l), .own (.list r), .no]) (ρ3 := [.fz (Qd l r), .fz t, .fz (.bool false), .own (.list l), .own (.list r), .fz (.tuple [Qd l (r ++ [t]), .list [.str "laid"]])]) rfl rfl pl rfl rfl sh2 rfl (bseq_nx (app_ev t r rfl (cons_fz (sv_fz (var_fz rfl)) nil_ev) rfl rfl (by omega) rfl) rs)))⟩
  obtain ⟨ρ', body⟩ := body
  exact fn_of (o := .rt (.bool true, .fz) ρ') rfl body rfl
theorem take_right {l r l' r' st : List D} {t : D} (b : Bool) (ht : Thing t) (hl' : Ths l') (hr' : Ths r') (hs : Sms st) (hz : l.length + r.length ≤ 60000) (hz' : l'.length + r'.length ≤ 60000) (hst : st.length ≤ 70000) (hp : (st.length : Int) + ab ((l'.length : Int) - r'.length) ≤ ab ((l.length : Int) - r.length) + 2)
    (du : m_law_due [Qd l r, .bool b] = some (.tuple [.list l', .list r', .list st], false)) (tk : (if b = true then m_take_first else m_take_last) [Qd l r] = some (.tuple [t, Qd l' r', .list st], false)) (hx : gIx (.list (l.reverse ++ r)) (.int (if b = true then 0 else -1)) = some (t, false)) : m_law_take_right [Qd l r, .bool b] = some (.bool true, false) := by
  have iq := is_double (f := l') (b := r') hl' hr' (by omega)
  have il := is_listS hs (by omega)
  have sm := same_thing ht 5
  have pd := paid_is (l := l) (r := r) (l' := l') (r' := r') (st := st) hp
  have sh := shortT_take t ht l' r' st (by omega) (by omega) (by omega)
  have ga : gAdd (.list l.reverse) (.list r) = some (.list (l.reverse ++ r), true) := gAdd_list _ _ (by walk_at "szo")
  have gr : gListRev [.list l] = some (.list l.reverse, true) := rfl
  have e0 : ∀ {ρ : Rho}, ρ[0]? = some (.fz (Qd l r)) → mOp gIx (mVar 0) (mC (.int 0)) ρ = some ((.list l, .fz), ρ) := fun {ρ} h => op_ev (r := (.int 0, .fz)) (res := (.list l, false)) (sv_fz (var_fz h)) (sv_fz rfl) (ix0 _ _)
  have e1 : ∀ {ρ : Rho}, ρ[0]? = some (.fz (Qd l r)) → mOp gIx (mVar 0) (mC (.int 1)) ρ = some ((.list r, .fz), ρ) := fun {ρ} h => op_ev (r := (.int 1, .fz)) (res := (.list r, false)) (sv_fz (var_fz h)) (sv_fz rfl) (ix1 _ _)
  generalize l.reverse ++ r = row at *
  generalize l.reverse = l2 at *
  generalize Qd l r = R at *
  have okT : okR m_law_altered (pIx some 1) (pIx some 2) (.tuple [t, Qd l' r', .list st]) = true := rfl
  generalize hV : Qd l' r' = V at *
  generalize hT : PyData.tuple [t, V, .list st] = T at *
  have t0 : ∀ {ρ : Rho}, ρ[6]? = some (.fz T) → mOp gIx (mVar 6) (mC (.int 0)) ρ = some ((t, .fz), ρ) := fun {ρ} h0 => op_ev (r := (.int 0, .fz)) (res := (t, false)) (sv_fz (var_fz h0)) (sv_fz rfl) (by rw [← hT]; rfl)
  have t1 : ∀ {ρ : Rho}, ρ[6]? = some (.fz T) → mOp gIx (mVar 6) (mC (.int 1)) ρ = some ((V, .fz), ρ) := fun {ρ} h0 => op_ev (r := (.int 1, .fz)) (res := (V, false)) (sv_fz (var_fz h0)) (sv_fz rfl) (by rw [← hT]; rfl)
  have t2 : ∀ {ρ : Rho}, ρ[6]? = some (.fz T) → mOp gIx (mVar 6) (mC (.int 2)) ρ = some ((.list st, .fz), ρ) := fun {ρ} h0 => op_ev (r := (.int 2, .fz)) (res := (.list st, false)) (sv_fz (var_fz h0)) (sv_fz rfl) (by rw [← hT]; rfl)
  have shT : shortT T = true := by rw [← hT, ← hV]; exact sh
  have isT : gIsi "tuple" T = some (.bool true, false) := by rw [← hT]; exact isi_tuple_tuple _
  have lT : gLen [T] = some (.int 3, false) := by rw [← hT]; rfl
  have rest : ∀ ps : Rho, ∃ ρ', rb1_law_take_right ps [.fz R, .fz (.bool b), .own (.list row), .fz (.list l'), .fz (.list r'), .fz (.list st), .fz T, .fz t] = some (.rt (.bool true, .fz) ρ') := fun ps => by
    refine ⟨forgetP [7] 6 ps [.fz R, .fz (.bool b), .own (.list row), .fz (.list l'), .fz (.list r'), .fz (.list st), .fz T, .fz t], bseq_nx (ρ1 := [.fz R, .fz (.bool b), .own (.list row), .fz (.list l'), .fz (.list r'), .fz (.list st), .fz T, .fz t]) (if_f (or_f (not_ev (v := true) (test_ev (k := .fz) (isi_ev (sv_fz (var_fz rfl)) isT))) (or_f (tstB (be_ne (cb_ev (rs := [(T, .fz)]) (res := (.int 3, false)) (cons_fz (sv_fz (var_fz rfl)) nil_ev) lT) ie_c) rfl) (not_ev (v := true) (be_call (rs := [(t, .fz), (t, .fz)]) (cons_fz (sv_fz (t0 rfl)) (cons_fz (sv_fz (var_fz rfl)) nil_ev)) sm).t))) rfl) (bseq_nx (ρ1 := [.fz R, .fz (.bool b), .own (.list row), .fz (.list l'), .fz (.list r'), .fz (.list st), .fz T, .fz t]) (if_f (or_f (not_ev (v := true) (be_call (rs := [(V, .fz), (.list l', .fz), (.list r', .fz)]) (cons_fz (sv_fz (t1 rfl)) (cons_fz (sv_fz (var_fz rfl)) (cons_fz (sv_fz (var_fz rfl)) nil_ev))) iq).t) (not_ev (v := true) (be_call (rs := [(.list st, .fz), (.list st, .fz)]) (cons_fz (sv_fz (t2 rfl)) (cons_fz (sv_fz (var_fz rfl)) nil_ev)) il).t)) rfl) ?_)⟩
    have pc : mTest (mCall m_law_paid (mCons (mVar 0) (mCons (mOp gIx (mVar 6) (mC (.int 1))) (mCons (mOp gIx (mVar 6) (mC (.int 2))) mNil)))) [.fz R, .fz (.bool b), .own (.list row), .fz (.list l'), .fz (.list r'), .fz (.list st), .fz T, .fz t] = some (true, [.fz R, .fz (.bool b), .own (.list row), .fz (.list l'), .fz (.list r'), .fz (.list st), .fz T, .fz t]) := (be_call (rs := [(R, .fz), (V, .fz), (.list st, .fz)]) (cons_fz (sv_fz (var_fz rfl)) (cons_fz (sv_fz (t1 rfl)) (cons_fz (sv_fz (t2 rfl)) nil_ev))) pd).t
    unfold bAnd
    rw [pc]
    rfl
  have body : ∃ ρ', b_law_take_right [.fz R, .fz (.bool b), .no, .no, .no, .no, .no, .no] = some (.rt (.bool true, .fz) ρ') := by
    have hd : ∀ (k : SM) (o : Option Out), k [.fz R, .fz (.bool b), .own (.list row), .fz (.list l'), .fz (.list r'), .fz (.list st), .no, .no] = o → mSeq (mAsg 2 (mOp gAdd (mCB gListRev (mCons (mOp gIx (mVar 0) (mC (.int 0))) mNil)) (mOp gIx (mVar 0) (mC (.int 1))))) (mSeq (mAsgG (mCall m_law_due (mCons (mVar 0) (mCons (mVar 1) mNil))) (mgU 3 (mgsCons (mgN 3) (mgsCons (mgN 4) (mgsCons (mgN 5) mgsNil))))) k) [.fz R, .fz (.bool b), .no, .no, .no, .no, .no, .no] = o := fun k o hk =>
      seq_nx (ρ1 := [.fz R, .fz (.bool b), .own (.list row), .no, .no, .no, .no, .no]) (asg_new (op_ev (g := gAdd) (r := (.list r, .fz)) (res := (.list row, true)) (sv_new (cb_ev (rs := [(.list l, .fz)]) (res := (.list l2, true)) (cons_fz (sv_fz (e0 rfl)) nil_ev) gr)) (sv_fz (e1 rfl)) ga) rfl) (seq_nx (ρ1 := [.fz R, .fz (.bool b), .own (.list row), .fz (.list l'), .fz (.list r'), .fz (.list st), .no, .no]) (asgG_fz (call_fz (rs := [(R, .fz), (.bool b, .fz)]) rfl du rfl) (gs_tup rfl (gs_cons rfl (gs_cons rfl (gs_cons rfl rfl))))) hk)
    obtain ⟨ρ', rs⟩ := rest [.fz R, .fz (.bool b), .own (.list row), .fz (.list l'), .fz (.list r'), .fz (.list st), .no, .no]
    refine ⟨ρ', hd _ _ ?_⟩
    cases b with
    | true =>
      exact if_t (test_ev (k := .fz) (var_fz rfl)) (deadN_ev (rs := [(R, .fz)]) (ds := [R]) (ρ2 := [.fz R, .fz (.bool true), .own (.list row), .fz (.list l'), .fz (.list r'), .fz (.list st), .no, .no]) (ρ3 := [.fz R, .fz (.bool true), .own (.list row), .fz (.list l'), .fz (.list r'), .fz (.list st), .fz T, .no]) rfl rfl tk rfl rfl shT okT (bseq_nx (asg_fz (op_at (i := 2) (r := (.int 0, .fz)) (res := (t, false)) (sv_at (var_own rfl)) (sv_fz rfl) rfl hx) rfl) rs))
    | false =>
      exact if_f (test_ev (k := .fz) (var_fz rfl)) (deadN_ev (rs := [(R, .fz)]) (ds := [R]) (ρ2 := [.fz R, .fz (.bool false), .own (.list row), .fz (.list l'), .fz (.list r'), .fz (.list st), .no, .no]) (ρ3 := [.fz R, .fz (.bool false), .own (.list row), .fz (.list l'), .fz (.list r'), .fz (.list st), .fz T, .no]) rfl rfl tk rfl rfl shT okT (bseq_nx (asg_fz (op_at (i := 2) (r := (.int (-1), .fz)) (res := (t, false)) (sv_at (var_own rfl)) (sv_fz (ie_neg ie_c)) rfl hx) rfl) rs))
  obtain ⟨ρ', body⟩ := body
  exact fn_of (o := .rt (.bool true, .fz) ρ') rfl body rfl
theorem looked {f b : List D} (hf : Ths f) (hb : Ths b) (hz : f.length + b.length ≤ 80000) : m_law_looked [Qd f b, .list f, .list b] = some (.bool true, false) := by
  have iq := is_double hf hb (by omega)
  have qr := drow_is f b (by omega)
  have hr : Ths (f.reverse ++ b) := Ths.append (fun d hd => hf d (List.mem_reverse.mp hd)) hb
  have il := is_list hr (by walk_at "szo")
  generalize hR : Qd f b = R at qr iq
  have ga : gAdd (.list f.reverse) (.list b) = some (.list (f.reverse ++ b), true) := gAdd_list _ _ (by walk_at "szo")
  have hl : (f.reverse ++ b).length ≤ 80000 := by walk_at "szo"
  have gr : gListRev [.list f] = some (.list f.reverse, true) := rfl
  generalize f.reverse ++ b = P at *
  generalize f.reverse = f' at *
  have ad : mOp gAdd (mCB gListRev (mCons (mVar 1) mNil)) (mVar 2) [.fz R, .fz (.list f), .fz (.list b), .own (.list P)] = some ((.list P, .new), [.fz R, .fz (.list f), .fz (.list b), .own (.list P)]) := op_ev (r := (.list b, .fz)) (res := (.list P, true)) (sv_new (cb_ev (rs := [(.list f, .fz)]) (res := (.list f', true)) (cons_fz (sv_fz (var_fz rfl)) nil_ev) gr)) (sv_fz (var_fz rfl)) ga
  refine fn_of (o := .rt (.bool true, .fz) [.fz R, .fz (.list f), .fz (.list b), .own (.list (P ++ [PyData.str "z"]).reverse)]) rfl ?_ rfl
  refine seq_nx (ρ1 := [.fz R, .fz (.list f), .fz (.list b), .own (.list P)]) (asg_new (call_fz (rs := [(R, .fz)]) (cons_fz (sv_fz (var_fz rfl)) nil_ev) qr rfl) rfl) ?_
  have ca : mCons (mVar 3) (mCons (mOp gAdd (mCB gListRev (mCons (mVar 1) mNil)) (mVar 2)) mNil) [.fz R, .fz (.list f), .fz (.list b), .own (.list P)] = some ([(.list P, .at 3), (.list P, .fz)], [.fz R, .fz (.list f), .fz (.list b), .own (.list P)]) := cons_at (sv_at (var_own rfl)) (cons_fz (sv_new ad) nil_ev) rfl
  refine seq_nx (ρ1 := [.fz R, .fz (.list f), .fz (.list b), .own (.list P)]) (if_f (not_ev (v := true) (test_ev (k := .fz) (call_pure (rs := [(.list P, .at 3), (.list P, .fz)]) ca il rfl))) rfl) ?_
  refine seq_nx (ρ1 := [.fz R, .fz (.list f), .fz (.list b), .own (.list (P ++ [PyData.str "z"]))]) (app_ev (.str "z") P rfl (cons_fz (sv_fz rfl) nil_ev) rfl rfl (by omega) rfl) ?_
  refine seq_nx (ρ1 := [.fz R, .fz (.list f), .fz (.list b), .own (.list (P ++ [PyData.str "z"]).reverse)]) (drop_ev (mut0_ev (w := ((P ++ [PyData.str "z"]).reverse, .none)) rfl rfl rfl)) ?_
  exact ret_eq (be_call (rs := [(R, .fz), (.list f, .fz), (.list b, .fz)]) rfl iq)
theorem ix_head (u : D) (p : List D) : gIx (.list (u :: p)) (.int 0) = some (u, false) := by
  show (L2.atI (u :: p) ((0 : Nat) : Int)).map (fun d => (d, false)) = _
  rw [Mir.atI_nat]; rfl
theorem take_all {l r : List D} (hl : Ths l) (hr : Ths r) (hz : l.length + r.length ≤ 50000) (hne : l ++ r ≠ []) (b : Bool) : m_law_take_right [Qd l r, .bool b] = some (.bool true, false) := by
  have hp1 : ∀ (x y : List D), (([PyData.str "taken"] : List D).length : Int) + ab ((x.length : Int) - y.length) ≤ ab (((x.length + 1 : Nat) : Int) - y.length) + 2 := fun x y => by
    rw [List.length_singleton]; unfold ab; split <;> split <;> omega
  have st1 : Sms [PyData.str "taken"] := Sms.one "taken" (by decide +kernel)
  cases b with
  | true =>
    rcases List.eq_nil_or_concat l with e | ⟨fs, u, e⟩
    · subst e
      cases r with
      | nil => exact absurd rfl hne
      | cons u p =>
        simp only [List.length_nil, List.length_cons, Nat.zero_add] at hz
        refine take_right true hr.head (fun d hd => hr.tail d (List.mem_of_mem_take (List.mem_reverse.mp hd))) (fun d hd => hr.tail d (List.mem_of_mem_drop hd)) (mvd_sm _) (by simp; omega) (by simp; omega) (by simp; omega) ?_ (due_A u p (by omega)) (first_by (near_e u p hr.head (by omega))) (ix_head u p)
        simp only [List.length_append, List.length_replicate, List.length_singleton, List.length_reverse, List.length_take, List.length_drop, List.length_nil, List.length_cons]
        unfold ab; split <;> split <;> omega
    · have e' : l = fs ++ [u] := by simpa using e
      subst e'
      simp only [List.length_append, List.length_singleton] at hz
      have hu : Thing u := hl u (by simp)
      refine take_right true hu (fun d hd => hl d (List.mem_append_left _ hd)) hr st1 (by simp; omega) (by omega) (by simp) (by rw [List.length_append, List.length_singleton]; exact hp1 fs r) (due_C fs r u hl (by omega)) (first_by (near_f fs r u hu (by omega))) ?_
      rw [List.reverse_append]; exact ix_head u (fs.reverse ++ r)
  | false =>
    rcases List.eq_nil_or_concat r with e | ⟨rs, u, e⟩
    · subst e
      cases l with
      | nil => exact absurd rfl hne
      | cons u p =>
        simp only [List.length_nil, List.length_cons, Nat.add_zero] at hz
        refine take_right false hl.head (fun d hd => hl.tail d (List.mem_of_mem_drop hd)) (fun d hd => hl.tail d (List.mem_of_mem_take (List.mem_reverse.mp hd))) (mvd_sm _) (by simp; omega) (by simp; omega) (by simp; omega) ?_ (due_B u p (by omega)) (last_by (near_e u p hl.head (by omega))) ?_
        · simp only [List.length_append, List.length_replicate, List.length_singleton, List.length_reverse, List.length_take, List.length_drop, List.length_nil, List.length_cons]
          unfold ab; split <;> split <;> omega
        · rw [List.append_nil, List.reverse_cons]; exact ix_last _ _
    · have e' : r = rs ++ [u] := by simpa using e
      subst e'
      simp only [List.length_append, List.length_singleton] at hz
      have hu : Thing u := hr u (by simp)
      refine take_right false hu hl (fun d hd => hr d (List.mem_append_left _ hd)) st1 (by simp; omega) (by omega) (by simp) ?_ (due_D l rs u hr (by omega)) (last_by (near_f rs l u hu (by omega))) ?_
      · rw [ab_sym, ab_sym (l.length : Int), List.length_append, List.length_singleton]; exact hp1 rs l
      · rw [← List.append_assoc]; exact ix_last _ _
theorem law_true (ns : List Int) (hl : ns.length ≤ 63) (hb : ∀ k ∈ ns, Builtin.Int.intBits k ≤ 1048576) : m_law [.list (ns.map .int)] = some (.bool true, false) := by
  obtain ⟨P, hP, hPl, tbi⟩ := things_by ns hl
  obtain ⟨t, ht, tt⟩ := thing_by (cell ns 1)
  have c0 := cell_at ns 0
  have c1 := cell_at ns 1
  obtain ⟨q, hq⟩ : ∃ q : Int, cell ns 0 = q := ⟨_, rfl⟩
  rw [hq] at c0
  have n1 := Int.emod_nonneg (q / 6) (show (P.length : Int) + 1 ≠ 0 by omega)
  have n2 := Int.emod_lt_of_pos (q / 6) (show (0 : Int) < (P.length : Int) + 1 by omega)
  obtain ⟨c, hcl, hc⟩ : ∃ c : Nat, c ≤ P.length ∧ ∃ j : Int, gIx (.list [.int 0, .int 0, .int 0, .int 0, .int 1, .int 2]) (.int (q % 6)) = some (.int j, false) ∧ gIx (.list [.int (q / 6 % ((P.length : Int) + 1)), .int 0, .int (P.length : Int)]) (.int j) = some (.int (c : Int), false) := by
    have : q % 6 = 0 ∨ q % 6 = 1 ∨ q % 6 = 2 ∨ q % 6 = 3 ∨ q % 6 = 4 ∨ q % 6 = 5 := by omega
    obtain ⟨a, ha⟩ : ∃ a : Nat, q / 6 % ((P.length : Int) + 1) = (a : Int) := ⟨_, (Int.toNat_of_nonneg n1).symm⟩
    rcases this with e | e | e | e | e | e
    · exact ⟨a, by omega, 0, by rw [e]; rfl, by rw [ha]; rfl⟩
    · exact ⟨a, by omega, 0, by rw [e]; rfl, by rw [ha]; rfl⟩
    · exact ⟨a, by omega, 0, by rw [e]; rfl, by rw [ha]; rfl⟩
    · exact ⟨a, by omega, 0, by rw [e]; rfl, by rw [ha]; rfl⟩
    · exact ⟨0, by omega, 1, by rw [e]; rfl, rfl⟩
    · exact ⟨P.length, by omega, 2, by rw [e]; rfl, rfl⟩
  obtain ⟨j, hj1, hj2⟩ := hc
  have hF : Ths (P.take c) := fun d hd => hP d (List.mem_of_mem_take hd)
  have hB : Ths (P.drop c) := fun d hd => hP d (List.mem_of_mem_drop hd)
  have hlen : (P.take c).length + (P.drop c).length = P.length := by rw [List.length_take, List.length_drop]; omega
  have ct := cut_to P c hcl
  have cf := cut_from P c hcl
  have hnil : P ≠ [] → P.take c ++ P.drop c ≠ [] := fun h => by rw [List.take_append_drop]; exact h
  generalize P.take c = F at *
  generalize P.drop c = B at *
  have lk := looked hF hB (by omega)
  have pr := fun b => put_right hF hB ht (by omega) b
  have tr : P ≠ [] → ∀ b, m_law_take_right [Qd F B, .bool b] = some (.bool true, false) := fun hne b => take_all hF hB (by omega) (hnil hne) b
  generalize hQ : Qd F B = Q at lk pr tr
  generalize hX : PyData.list (ns.map .int) = X at *
  have s1 : ∀ {s4 s5 s6 : Sl}, mSl gSl (mVar 1) mNoPart (mPart (mVar 3)) [.fz X, .own (.list P), .fz (.int q), .fz (.int (c : Int)), s4, s5, s6] = some ((.list F, .new), [.fz X, .own (.list P), .fz (.int q), .fz (.int (c : Int)), s4, s5, s6]) := fun {s4 s5 s6} => by
    show some ((PyData.list (cutD P none (some (c : Int))), Kd.new), _) = _
    rw [ct]
  have s2 : ∀ {s4 s5 s6 : Sl}, mSl gSl (mVar 1) (mPart (mVar 3)) mNoPart [.fz X, .own (.list P), .fz (.int q), .fz (.int (c : Int)), s4, s5, s6] = some ((.list B, .new), [.fz X, .own (.list P), .fz (.int q), .fz (.int (c : Int)), s4, s5, s6]) := fun {s4 s5 s6} => by
    show some ((PyData.list (cutD P (some (c : Int)) none), Kd.new), _) = _
    rw [cf]
  have lkc : ∀ {s6 : Sl}, BE (mCall m_law_looked (mCons (mVar 5) (mCons (mSl gSl (mVar 1) mNoPart (mPart (mVar 3))) (mCons (mSl gSl (mVar 1) (mPart (mVar 3)) mNoPart) mNil)))) [.fz X, .own (.list P), .fz (.int q), .fz (.int (c : Int)), .fz t, .fz Q, s6] true := fun {s6} => be_call (rs := [(Q, .fz), (.list F, .fz), (.list B, .fz)]) (cons_fz (sv_fz (var_fz rfl)) (cons_fz (sv_new s1) (cons_fz (sv_new s2) nil_ev))) lk
  have one : ∀ b : Bool, lb1_law [.fz X, .own (.list P), .fz (.int q), .fz (.int (c : Int)), .fz t, .fz Q, .fz (.bool b)] = some (.nx [.fz X, .own (.list P), .fz (.int q), .fz (.int (c : Int)), .fz t, .fz Q, .fz (.bool b)]) := fun b => by
    refine seq_nx (ρ1 := [.fz X, .own (.list P), .fz (.int q), .fz (.int (c : Int)), .fz t, .fz Q, .fz (.bool b)]) (if_f (or_f (not_ev (v := true) lkc.t) (not_ev (v := true) (be_call (rs := [(Q, .fz), (t, .fz), (.bool b, .fz)]) rfl (pr b)).t)) rfl) ?_
    by_cases hne : P = []
    · subst hne
      exact if_f (and_f (tl rfl ne_nil)) rfl
    · exact if_f (and_t (tl rfl (ne_lay hP.lay hne)) (not_ev (v := true) (be_call (rs := [(Q, .fz), (.bool b, .fz)]) rfl (tr hne b)).t)) rfl
  refine fn_of (o := .rt (.bool true, .fz) [.fz X, .own (.list P), .fz (.int q), .fz (.int (c : Int)), .fz t, .fz Q, .fz (.bool false)]) rfl ?_ rfl
  refine seq_nx (ρ1 := [.fz X, .own (.list P), .no, .no, .no, .no, .no]) (asg_new (call_fz (rs := [(X, .fz)]) (cons_fz (sv_fz (var_fz rfl)) nil_ev) tbi rfl) rfl) ?_
  refine seq_nx (ρ1 := [.fz X, .own (.list P), .fz (.int q), .no, .no, .no, .no]) (asgI (ie_call (rs := [(X, .fz), (.int ((0 : Nat) : Int), .fz)]) rfl c0) rfl) ?_
  have L1 : IE (mCB gLen (mCons (mVar 1) mNil)) [.fz X, .own (.list P), .fz (.int q), .no, .no, .no, .no] (P.length : Int) := qlen (i := 1) rfl
  have la : mLst (mCons (mOp gMod (mOp gDiv (mVar 2) (mC (.int 6))) (mOp gAdd (mCB gLen (mCons (mVar 1) mNil)) (mC (.int 1)))) (mCons (mC (.int 0)) (mCons (mCB gLen (mCons (mVar 1) mNil)) mNil))) [.fz X, .own (.list P), .fz (.int q), .no, .no, .no, .no] = some ((.list [.int (q / 6 % ((P.length : Int) + 1)), .int 0, .int (P.length : Int)], .new), [.fz X, .own (.list P), .fz (.int q), .no, .no, .no, .no]) := lst_ev (rs := [(.int (q / 6 % ((P.length : Int) + 1)), .fz), (.int 0, .fz), (.int (P.length : Int), .fz)]) (consI (ie_mod (ie_div (ie_var rfl) ie_c ⟨by decide, by decide⟩) (ie_add L1 ie_c) (by omega)) (consI ie_c (consI L1 nil_ev))) rfl (by simp)
  have lb : mLst (mCons (mC (.int 0)) (mCons (mC (.int 0)) (mCons (mC (.int 0)) (mCons (mC (.int 0)) (mCons (mC (.int 1)) (mCons (mC (.int 2)) mNil)))))) [.fz X, .own (.list P), .fz (.int q), .no, .no, .no, .no] = some ((.list [.int 0, .int 0, .int 0, .int 0, .int 1, .int 2], .new), [.fz X, .own (.list P), .fz (.int q), .no, .no, .no, .no]) := lst_ev (rs := [(.int 0, .fz), (.int 0, .fz), (.int 0, .fz), (.int 0, .fz), (.int 1, .fz), (.int 2, .fz)]) rfl rfl (by simp)
  refine seq_nx (ρ1 := [.fz X, .own (.list P), .fz (.int q), .fz (.int (c : Int)), .no, .no, .no]) (asgI (op_ev (r := (.int j, .fz)) (res := (.int (c : Int), false)) (sv_new la) (sv_fz (op_ev (r := (.int (q % 6), .fz)) (res := (.int j, false)) (sv_new lb) (sv_fz (ie_mod (ie_var rfl) ie_c (by decide))) hj1)) hj2) rfl) ?_
  refine seq_nx (ρ1 := [.fz X, .own (.list P), .fz (.int q), .fz (.int (c : Int)), .fz t, .no, .no]) (asg_fz (call_fz (rs := [(.int (cell ns 1), .fz)]) (consI (ie_call (rs := [(X, .fz), (.int ((1 : Nat) : Int), .fz)]) rfl c1) nil_ev) tt rfl) rfl) ?_
  refine seq_nx (ρ1 := [.fz X, .own (.list P), .fz (.int q), .fz (.int (c : Int)), .fz t, .fz Q, .no]) (asg_fz (tup_ev (rs := [(.list F, .fz), (.list B, .fz)]) (cons_fz (sv_new s1) (cons_fz (sv_new s2) nil_ev)) rfl (by simp)) (by rw [← hQ]; rfl)) ?_
  refine seq_nx (ρ1 := [.fz X, .own (.list P), .fz (.int q), .fz (.int (c : Int)), .fz t, .fz Q, .fz (.bool false)]) (for_eq (ρ1 := [.fz X, .own (.list P), .fz (.int q), .fz (.int (c : Int)), .fz t, .fz Q, .no]) (fol_ev (d := [.bool true, .bool false, .bool true, .bool false]) (sv_new (lst_ev (rs := [(.bool true, .fz), (.bool false, .fz), (.bool true, .fz), (.bool false, .fz)]) rfl rfl (by simp)))) ?_) (ret_eq lkc)
  exact forL_cons (d := .bool true) rfl (one true) (forL_cons (d := .bool false) rfl (one false) (forL_cons (d := .bool true) rfl (one true) (forL_cons (d := .bool false) rfl (one false) rfl)))
end K32
set_option maxHeartbeats 4000000
set_option Elab.async false
set_option linter.all false
set_option maxRecDepth 100000
namespace K32
open PySem L2 Mir
def top (i : Nat) : Stmt := PySem.Challenge.pw_creditworks_k32_double_deeds.main.body.getD i (.Pass ⟨0, 0, 0, 0⟩)
abbrev s_law_cell_at : Stmt := top 12
theorem sc_law_cell_at : FnScope ["_law_script", "_law_k"] ["_law_script", "_law_k"] (defScope s_law_cell_at) := ⟨rfl, rfl, rfl, by decide +kernel, rfl, by decide +kernel, by decide +kernel⟩
abbrev s_law_thing_by : Stmt := top 14
theorem sc_law_thing_by : FnScope ["_law_cell"] ["_law_cell"] (defScope s_law_thing_by) := ⟨rfl, rfl, rfl, by decide +kernel, rfl, by decide +kernel, by decide +kernel⟩
abbrev s_law_things_by : Stmt := top 24
theorem sc_law_things_by : FnScope ["_law_script", "_law_cells", "_law_turn", "_law_many"] ["_law_script"] (defScope s_law_things_by) := ⟨rfl, rfl, rfl, by decide +kernel, rfl, by decide +kernel, by decide +kernel⟩
abbrev s_double_row : Stmt := top 9
theorem sc_double_row : FnScope ["double"] ["double"] (defScope s_double_row) := ⟨rfl, rfl, rfl, by decide +kernel, rfl, by decide +kernel, by decide +kernel⟩
abbrev s_law_same : Stmt := top 13
theorem sc_law_same : FnScope ["_law_found", "_law_due_here"] ["_law_found", "_law_due_here"] (defScope s_law_same) := ⟨rfl, rfl, rfl, by decide +kernel, rfl, by decide +kernel, by decide +kernel⟩
abbrev s_law_is_list : Stmt := top 15
theorem sc_law_is_list : FnScope ["_law_found", "_law_due_here"] ["_law_found", "_law_due_here"] (defScope s_law_is_list) := ⟨rfl, rfl, rfl, by decide +kernel, rfl, by decide +kernel, by decide +kernel⟩
abbrev s_law_is_double : Stmt := top 17
theorem sc_law_is_double : FnScope ["_law_found", "_law_left", "_law_right"] ["_law_found", "_law_left", "_law_right"] (defScope s_law_is_double) := ⟨rfl, rfl, rfl, by decide +kernel, rfl, by decide +kernel, by decide +kernel⟩
abbrev s_law_looked : Stmt := top 23
theorem sc_law_looked : FnScope ["_law_double", "_law_left", "_law_right", "_law_row"] ["_law_double", "_law_left", "_law_right"] (defScope s_law_looked) := ⟨rfl, rfl, rfl, by decide +kernel, rfl, by decide +kernel, by decide +kernel⟩
abbrev s_law_altered : Stmt := top 19
theorem sc_law_altered : FnScope ["_law_found", "_law_steps"] ["_law_found", "_law_steps"] (defScope s_law_altered) := ⟨rfl, rfl, rfl, by decide +kernel, rfl, by decide +kernel, by decide +kernel⟩
abbrev s_put_first : Stmt := top 4
theorem sc_put_first : FnScope ["double", "thing"] ["double", "thing"] (defScope s_put_first) := ⟨rfl, rfl, rfl, by decide +kernel, rfl, by decide +kernel, by decide +kernel⟩
abbrev s_put_last : Stmt := top 5
theorem sc_put_last : FnScope ["double", "thing"] ["double", "thing"] (defScope s_put_last) := ⟨rfl, rfl, rfl, by decide +kernel, rfl, by decide +kernel, by decide +kernel⟩
abbrev s_double_credit : Stmt := top 10
theorem sc_double_credit : FnScope ["double"] ["double"] (defScope s_double_credit) := ⟨rfl, rfl, rfl, by decide +kernel, rfl, by decide +kernel, by decide +kernel⟩
abbrev s_law_whole : Stmt := top 16
theorem sc_law_whole : FnScope ["_law_found"] ["_law_found"] (defScope s_law_whole) := ⟨rfl, rfl, rfl, by decide +kernel, rfl, by decide +kernel, by decide +kernel⟩
abbrev s_law_paid : Stmt := top 18
theorem sc_law_paid : FnScope ["_law_double", "_law_found", "_law_steps", "_law_ahead", "_law_behind"] ["_law_double", "_law_found", "_law_steps"] (defScope s_law_paid) := ⟨rfl, rfl, rfl, by decide +kernel, rfl, by decide +kernel, by decide +kernel⟩
abbrev s_law_put_right : Stmt := top 20
theorem sc_law_put_right : FnScope ["_law_double", "_law_thing", "_law_first", "_law_left", "_law_right", "_law_found"] ["_law_double", "_law_thing", "_law_first"] (defScope s_law_put_right) := ⟨rfl, rfl, rfl, by decide +kernel, rfl, by decide +kernel, by decide +kernel⟩
abbrev s_law_due : Stmt := top 21
theorem sc_law_due : FnScope ["_law_double", "_law_first", "_law_left", "_law_right", "_law_row", "_law_half", "_law_steps"] ["_law_double", "_law_first"] (defScope s_law_due) := ⟨rfl, rfl, rfl, by decide +kernel, rfl, by decide +kernel, by decide +kernel⟩
abbrev s_take_near : Stmt := top 8
theorem sc_take_near : FnScope ["near", "far", "half", "laid", "thing"] ["near", "far"] (defScope s_take_near) := ⟨rfl, rfl, rfl, by decide +kernel, rfl, by decide +kernel, by decide +kernel⟩
abbrev s_take_first : Stmt := top 6
theorem sc_take_first : FnScope ["double"] ["double"] (defScope s_take_first) := ⟨rfl, rfl, rfl, by decide +kernel, rfl, by decide +kernel, by decide +kernel⟩
abbrev s_take_last : Stmt := top 7
theorem sc_take_last : FnScope ["double", "taken"] ["double"] (defScope s_take_last) := ⟨rfl, rfl, rfl, by decide +kernel, rfl, by decide +kernel, by decide +kernel⟩
abbrev s_law_take_right : Stmt := top 22
theorem sc_law_take_right : FnScope ["_law_double", "_law_first", "_law_row", "_law_left", "_law_right", "_law_steps", "_law_found", "_law_thing"] ["_law_double", "_law_first"] (defScope s_law_take_right) := ⟨rfl, rfl, rfl, by decide +kernel, rfl, by decide +kernel, by decide +kernel⟩
abbrev s_law : Stmt := top 25
theorem sc_law : FnScope ["_law_script", "_law_things", "_law_turn", "_law_cut", "_law_thing", "_law_double", "_law_first"] ["_law_script"] (defScope s_law) := ⟨rfl, rfl, rfl, by decide +kernel, rfl, by decide +kernel, by decide +kernel⟩
section
variable {P : Program} {w : World} {K : PySem.W.Frag} {mg : Str → Option Value} {base : Heap}
def NoGl (mg : Str → Option Value) : Prop := ∀ x ∈ (["abs", "all", "bool", "int", "isinstance", "len", "list", "range", "reversed", "tuple", "zip"] : List Str), mg x = none
theorem ok_law_cell_at (Z : NoGl mg) (T : Top K mg "_law_cell_at" s_law_cell_at)  : Def P w K mg base CX0 1 "_law_cell_at" ["_law_script", "_law_k"] (spM m_law_cell_at) := by
  have z_len : mg "len" = none := Z _ (by decide +kernel)
  refine T.def sc_law_cell_at (fun vs H Q E h => spM_len h) (fun _ _ _ _ _ _ us hl => match us, hl with | [_, _], _ => rfl) fun f cdv A outer s H vs Q E hr h => ?_
  have hu := hr.units
  exact ⟨_, (pss_cons (ps_if (pt_cmpR op_lt (pv 1) (pe_callB (call_lenK (K := K) rfl) rfl z_len PySem.boot_len (pa_cons (pv 0) pa_nil)) (nomark _))
      (pss_one (ps_ret (pe_ix (ix_seqK (K := K) rfl) (pv 0) (pv 1) (fun _ _ => rfl))))
      pss_nil)
      (pss_one (ps_ret pe_int))),
      fn_run (n := 2) (k := 0) (ms_seq (ms_if (mt_test (me_op J_B0 me_var (me_cb J_len (ma_cons me_var ma_nil))))
      (ms_ret (me_op J_ix me_var me_var))
      ms_next)
      (ms_ret me_int)) rfl h⟩
theorem ok_law_thing_by (Z : NoGl mg) (T : Top K mg "_law_thing_by" s_law_thing_by)  : Def P w K mg base CX0 1 "_law_thing_by" ["_law_cell"] (spM m_law_thing_by) := by
  refine T.def sc_law_thing_by (fun vs H Q E h => spM_len h) (fun _ _ _ _ _ _ us hl => match us, hl with | [_], _ => rfl) fun f cdv A outer s H vs Q E hr h => ?_
  have hu := hr.units
  exact ⟨_, (pss_cons (ps_if (pt_cmpR (op_eqK (K := K) rfl hu) (pe_op op_mod (pv 0) pe_int) pe_int (nomark _))
      (pss_one (ps_ret pe_non))
      pss_nil)
      (pss_cons (ps_if (pt_cmpR (op_eqK (K := K) rfl hu) (pe_op op_mod (pv 0) pe_int) pe_int (nomark _))
      (pss_one (ps_ret (pe_ix (ix_seqK (K := K) rfl) (pe_lst (pa_cons pe_str (pa_cons pe_str (pa_cons pe_str pa_nil)))) (pe_op op_mod (pe_op op_fdiv (pv 0) pe_int) pe_int) (fun _ _ => rfl))))
      pss_nil)
      (pss_cons (ps_if (pt_cmpR (op_eqK (K := K) rfl hu) (pe_op op_mod (pv 0) pe_int) pe_int (nomark _))
      (pss_one (ps_ret (pe_tup (pa_cons (pe_op op_mod (pe_op op_fdiv (pv 0) pe_int) pe_int) (pa_cons pe_str (pa_cons (pe_tup (pa_cons pe_non (pa_cons (pe_tup pa_nil) pa_nil))) pa_nil))))))
      pss_nil)
      (pss_cons (ps_if (pt_cmpR (op_eqK (K := K) rfl hu) (pe_op op_mod (pv 0) pe_int) pe_int (nomark _))
      (pss_one (ps_ret (pe_op op_sub (pe_op op_mod (pe_op op_fdiv (pv 0) pe_int) pe_int) pe_int)))
      pss_nil)
      (pss_cons (ps_if (pt_cmpR (op_eqK (K := K) rfl hu) (pe_op op_mod (pv 0) pe_int) pe_int (nomark _))
      (pss_one (ps_ret (pe_tup pa_nil)))
      pss_nil)
      (pss_one (ps_ret (pe_op (op_addK (K := K) rfl) (pe_op op_sub (pe_op op_mod (pe_op op_fdiv (pv 0) pe_int) (pe_op op_sub (pe_op op_mulM pe_int (pe_op op_pow pe_int pe_int)) pe_int)) (pe_op op_pow pe_int pe_int)) pe_int)))))))),
      fn_run (n := 1) (k := 0) (ms_seq (ms_if (mt_test (me_op J_eq (me_op J_I me_var me_int) me_int))
      (ms_ret me_non)
      ms_next)
      (ms_seq (ms_if (mt_test (me_op J_eq (me_op J_I me_var me_int) me_int))
      (ms_ret (me_op J_ix (me_lst (ma_cons me_str (ma_cons me_str (ma_cons me_str ma_nil)))) (me_op J_I (me_op J_I me_var me_int) me_int)))
      ms_next)
      (ms_seq (ms_if (mt_test (me_op J_eq (me_op J_I me_var me_int) me_int))
      (ms_ret (me_tup (ma_cons (me_op J_I (me_op J_I me_var me_int) me_int) (ma_cons me_str (ma_cons (me_tup (ma_cons me_non (ma_cons (me_tup ma_nil) ma_nil))) ma_nil)))))
      ms_next)
      (ms_seq (ms_if (mt_test (me_op J_eq (me_op J_I me_var me_int) me_int))
      (ms_ret (me_op J_I0 (me_op J_I (me_op J_I me_var me_int) me_int) me_int))
      ms_next)
      (ms_seq (ms_if (mt_test (me_op J_eq (me_op J_I me_var me_int) me_int))
      (ms_ret (me_tup ma_nil))
      ms_next)
      (ms_ret (me_op J_add (me_op J_I0 (me_op J_I (me_op J_I me_var me_int) (me_op J_I0 (me_op J_mul me_int (me_op J_I me_int me_int)) me_int)) (me_op J_I me_int me_int)) me_int))))))) rfl h⟩
theorem ok_law_things_by (Z : NoGl mg) (T : Top K mg "_law_things_by" s_law_things_by) (D_law_thing_by : Def P w K mg base CX0 1 "_law_thing_by" ["_law_cell"] (spM m_law_thing_by)) (D_law_cell_at : Def P w K mg base CX0 1 "_law_cell_at" ["_law_script", "_law_k"] (spM m_law_cell_at)) : Def P w K mg base CX0 2 "_law_things_by" ["_law_script"] (spM m_law_things_by) := by
  have z_range : mg "range" = none := Z _ (by decide +kernel)
  have z_len : mg "len" = none := Z _ (by decide +kernel)
  refine T.def sc_law_things_by (fun vs H Q E h => spM_len h) (fun _ _ _ _ _ _ us hl => match us, hl with | [_], _ => rfl) fun f cdv A outer s H vs Q E hr h => ?_
  have hu := hr.units
  exact ⟨_, (pss_cons (ps_set (i := 1) sc_law_things_by.nd rfl (by first | exact Or.inl rfl | exact Or.inr rfl) (pe_slice (sl_listK (K := K) rfl) (pv 0) (po_some pe_int) (po_some pe_int)))
      (pss_cons (ps_set (i := 2) sc_law_things_by.nd rfl (by first | exact Or.inl rfl | exact Or.inr rfl) (pe_def D_law_cell_at (hr.mono (by omega)) (pa_cons (pv 0) (pa_cons pe_int pa_nil))))
      (pss_cons (ps_set (i := 3) sc_law_things_by.nd rfl (by first | exact Or.inl rfl | exact Or.inr rfl) (pe_callB (call_lenK (K := K) rfl) rfl z_len PySem.boot_len (pa_cons (pv 1) pa_nil)))
      (pss_cons (ps_if (pt_cmpR (op_eqK (K := K) rfl hu) (pe_op op_mod (pv 2) pe_int) pe_int (nomark _))
      (pss_cons (ps_set (i := 1) sc_law_things_by.nd rfl (by first | exact Or.inl rfl | exact Or.inr rfl) (pe_op (op_addK (K := K) rfl) (pv 1) (pe_lst (pa_cons pe_int pa_nil))))
      (pss_one (ps_set (i := 3) sc_law_things_by.nd rfl (by first | exact Or.inl rfl | exact Or.inr rfl) (pe_op (op_addK (K := K) rfl) pe_int (pe_op op_mod (pe_op op_fdiv (pv 2) pe_int) pe_int)))))
      pss_nil)
      (pss_one (ps_ret (pe_lc (fr := [("_law_cells", 1)]) rfl ⟨rfl, rfl, rfl, rfl, rfl, rfl, by decide +kernel⟩ (pi_range1 rfl z_range (pa_cons (pv 3) pa_nil)) (fun _ _ _ _ => pif_nil) (fun _ _ _ _ => (pe_def D_law_thing_by (hr.mono (by omega)) (pa_cons (pe_op (op_addK (K := K) rfl) (pe_ix (ix_seqK (K := K) rfl) (pv 1) (pe_op op_mod (pv 0) (pe_callB (call_lenK (K := K) rfl) rfl z_len PySem.boot_len (pa_cons (pv 1) pa_nil))) (fun _ _ => rfl)) (pe_op op_fdiv (pv 0) (pe_callB (call_lenK (K := K) rfl) rfl z_len PySem.boot_len (pa_cons (pv 1) pa_nil)))) pa_nil)))))))))),
      fn_run (n := 1) (k := 3) (ms_seq (ms_asg (me_sl J_sl me_var (mo_some me_int) (mo_some me_int)))
      (ms_seq (ms_asg (me_call (ma_cons me_var (ma_cons me_int ma_nil))))
      (ms_seq (ms_asg (me_cb J_len (ma_cons me_var ma_nil)))
      (ms_seq (ms_if (mt_test (me_op J_eq (me_op J_I me_var me_int) me_int))
      (ms_seq (ms_asg (me_op J_add me_var (me_lst (ma_cons me_int ma_nil))))
      (ms_asg (me_op J_add me_int (me_op J_I (me_op J_I me_var me_int) me_int))))
      ms_next)
      (ms_ret (me_lc (mi_rng1 (ma_cons me_var ma_nil)) mt_yes (me_call (ma_cons (me_op J_add (me_op J_ix me_var (me_op J_I me_var (me_cb J_len (ma_cons me_var ma_nil)))) (me_op J_I me_var (me_cb J_len (ma_cons me_var ma_nil)))) ma_nil)))))))) rfl h⟩
theorem ok_double_row (Z : NoGl mg) (T : Top K mg "double_row" s_double_row)  : Def P w K mg base CX0 1 "double_row" ["double"] (spM m_double_row) := by
  have z_list : mg "list" = none := Z _ (by decide +kernel)
  have z_reversed : mg "reversed" = none := Z _ (by decide +kernel)
  refine T.def sc_double_row (fun vs H Q E h => spM_len h) (fun _ _ _ _ _ _ us hl => match us, hl with | [_], _ => rfl) fun f cdv A outer s H vs Q E hr h => ?_
  have hu := hr.units
  exact ⟨_, (pss_one (ps_ret (pe_op (op_addK (K := K) rfl) (pe_listRevK (K := K) rfl rfl rfl z_list rfl z_reversed (pa_cons (pe_ix (ix_seqK (K := K) rfl) (pv 0) pe_int (fun _ _ => rfl)) pa_nil)) (pe_ix (ix_seqK (K := K) rfl) (pv 0) pe_int (fun _ _ => rfl))))),
      fn_run (n := 1) (k := 0) (ms_ret (me_op J_add (me_cb J_listRev (ma_cons (me_op J_ix me_var me_int) ma_nil)) (me_op J_ix me_var me_int))) rfl h⟩
theorem ok_law_same (Z : NoGl mg) (T : Top K mg "_law_same" s_law_same)  : ∀ n, Def P w K mg base CX0 (1 + n) "_law_same" ["_law_found", "_law_due_here"] (spM (m_law_same n))
  | 0 => T.def sc_law_same (fun vs H Q E h => by obtain ⟨_, _, _, _, _, _, _, e, _⟩ := h; cases e) (fun _ _ _ _ _ _ us hl => match us, hl with | [_, _], _ => rfl) fun f cdv A outer s H vs Q E hr h => by obtain ⟨_, _, _, _, _, _, _, e, _⟩ := h; cases e
  | n + 1 => by
    have D_law_same := ok_law_same Z T  n
    have z_tuple : mg "tuple" = none := Z _ (by decide +kernel)
    have z_isinstance : mg "isinstance" = none := Z _ (by decide +kernel)
    have z_zip : mg "zip" = none := Z _ (by decide +kernel)
    have z_all : mg "all" = none := Z _ (by decide +kernel)
    have z_len : mg "len" = none := Z _ (by decide +kernel)
    have z_bool : mg "bool" = none := Z _ (by decide +kernel)
    refine T.def sc_law_same (fun vs H Q E h => spM_len h) (fun _ _ _ _ _ _ us hl => match us, hl with | [_, _], _ => rfl) fun f cdv A outer s H vs Q E hr h => ?_
    have hu := hr.units
    exact ⟨_, (pss_cons (ps_if (PW.pt (pw_or (pt_val (pe_callB call_isi rfl z_isinstance PyProof.Rows.boot_isinstance (pa_cons (pv 0) (pa_cons (pe_ty z_bool PyProof.Rows.boot_bool) pa_nil)))) (pw_or1 (pt_cmpR (op_neK (K := K) rfl hu) (pe_callB call_isi rfl z_isinstance PyProof.Rows.boot_isinstance (pa_cons (pv 0) (pa_cons (pe_ty z_tuple PyProof.Rows.boot_tuple) pa_nil))) (pe_callB call_isi rfl z_isinstance PyProof.Rows.boot_isinstance (pa_cons (pv 1) (pa_cons (pe_ty z_tuple PyProof.Rows.boot_tuple) pa_nil))) (nomark _)))))
      (pss_one (ps_ret pe_bl))
      pss_nil)
      (pss_cons (ps_if (pt_val (pe_callB call_isi rfl z_isinstance PyProof.Rows.boot_isinstance (pa_cons (pv 1) (pa_cons (pe_ty z_tuple PyProof.Rows.boot_tuple) pa_nil))))
      (pss_one (ps_ret (pe_and (pe_cmpR (op_eqK (K := K) rfl hu) (pe_callB (call_lenK (K := K) rfl) rfl z_len PySem.boot_len (pa_cons (pv 0) pa_nil)) (pe_callB (call_lenK (K := K) rfl) rfl z_len PySem.boot_len (pa_cons (pv 1) pa_nil)) (nomark _)) (pe_one (pe_callB (call_allK (K := K) rfl rfl) rfl z_all PyProof.Rows.boot_all (pa_cons (pe_lc2 (fr := []) rfl ⟨⟨rfl, rfl, rfl, rfl, rfl, rfl, by decide +kernel⟩, rfl, by decide +kernel⟩ (pi_zipT rfl z_zip (pa_cons (pv 0) (pa_cons (pv 1) pa_nil))) (fun _ _ _ _ => pif_nil) (fun _ _ _ _ => (pe_def D_law_same (hr.mono (Nat.le_refl _)) (pa_cons (pv 0) (pa_cons (pv 1) pa_nil))))) pa_nil))))))
      pss_nil)
      (pss_one (ps_ret (pe_cmpR (op_eqK (K := K) rfl hu) (pv 0) (pv 1) (nomark _)))))),
      fn_run (n := 2) (k := 0) (ms_seq (ms_if (mt_or (mt_tB (me_isi me_var)) (mt_test (me_op J_ne (me_isi me_var) (me_isi me_var))))
      (ms_ret me_bl)
      ms_next)
      (ms_seq (ms_if (mt_tB (me_isi me_var))
      (ms_ret (me_andV (me_op J_eq (me_cb J_len (ma_cons me_var ma_nil)) (me_cb J_len (ma_cons me_var ma_nil))) (me_cb J_all (ma_cons (me_lc2 (mi_zipT (ma_cons me_var (ma_cons me_var ma_nil))) mt_yes (me_call (ma_cons me_var (ma_cons me_var ma_nil)))) ma_nil))))
      ms_next)
      (ms_ret (me_op J_eq me_var me_var)))) rfl h⟩
theorem ok_law_is_list (Z : NoGl mg) (T : Top K mg "_law_is_list" s_law_is_list) (D_law_same : Def P w K mg base CX0 9 "_law_same" ["_law_found", "_law_due_here"] (spM (m_law_same 8))) : Def P w K mg base CX0 10 "_law_is_list" ["_law_found", "_law_due_here"] (spM m_law_is_list) := by
  have z_zip : mg "zip" = none := Z _ (by decide +kernel)
  have z_all : mg "all" = none := Z _ (by decide +kernel)
  have z_len : mg "len" = none := Z _ (by decide +kernel)
  have z_list : mg "list" = none := Z _ (by decide +kernel)
  have z_isinstance : mg "isinstance" = none := Z _ (by decide +kernel)
  refine T.def sc_law_is_list (fun vs H Q E h => spM_len h) (fun _ _ _ _ _ _ us hl => match us, hl with | [_, _], _ => rfl) fun f cdv A outer s H vs Q E hr h => ?_
  have hu := hr.units
  exact ⟨_, (pss_cons (ps_if (PW.pt (pw_or (pt_not (pt_val (pe_callB call_isi rfl z_isinstance PyProof.Rows.boot_isinstance (pa_cons (pv 0) (pa_cons (pe_ty z_list PyProof.Rows.boot_list) pa_nil))))) (pw_or1 (pt_cmpR (op_neK (K := K) rfl hu) (pe_callB (call_lenK (K := K) rfl) rfl z_len PySem.boot_len (pa_cons (pv 0) pa_nil)) (pe_callB (call_lenK (K := K) rfl) rfl z_len PySem.boot_len (pa_cons (pv 1) pa_nil)) (nomark _)))))
      (pss_one (ps_ret pe_bl))
      pss_nil)
      (pss_one (ps_ret (pe_callB (call_allK (K := K) rfl rfl) rfl z_all PyProof.Rows.boot_all (pa_cons (pe_lc2 (fr := []) rfl ⟨⟨rfl, rfl, rfl, rfl, rfl, rfl, by decide +kernel⟩, rfl, by decide +kernel⟩ (pi_zip rfl z_zip (pa_cons (pv 0) (pa_cons (pv 1) pa_nil))) (fun _ _ _ _ => pif_nil) (fun _ _ _ _ => (pe_def D_law_same (hr.mono (by omega)) (pa_cons (pv 0) (pa_cons (pv 1) pa_nil))))) pa_nil))))),
      fn_run (n := 2) (k := 0) (ms_seq (ms_if (mt_or (mt_not (mt_tB (me_isi me_var))) (mt_test (me_op J_ne (me_cb J_len (ma_cons me_var ma_nil)) (me_cb J_len (ma_cons me_var ma_nil)))))
      (ms_ret me_bl)
      ms_next)
      (ms_ret (me_cb J_all (ma_cons (me_lc2 (mi_zip (ma_cons me_var (ma_cons me_var ma_nil))) mt_yes (me_call (ma_cons me_var (ma_cons me_var ma_nil)))) ma_nil)))) rfl h⟩
theorem ok_law_is_double (Z : NoGl mg) (T : Top K mg "_law_is_double" s_law_is_double) (D_law_is_list : Def P w K mg base CX0 10 "_law_is_list" ["_law_found", "_law_due_here"] (spM m_law_is_list)) : Def P w K mg base CX0 11 "_law_is_double" ["_law_found", "_law_left", "_law_right"] (spM m_law_is_double) := by
  have z_len : mg "len" = none := Z _ (by decide +kernel)
  have z_tuple : mg "tuple" = none := Z _ (by decide +kernel)
  have z_isinstance : mg "isinstance" = none := Z _ (by decide +kernel)
  refine T.def sc_law_is_double (fun vs H Q E h => spM_len h) (fun _ _ _ _ _ _ us hl => match us, hl with | [_, _, _], _ => rfl) fun f cdv A outer s H vs Q E hr h => ?_
  have hu := hr.units
  exact ⟨_, (pss_cons (ps_if (PW.pt (pw_or (pt_not (pt_val (pe_callB call_isi rfl z_isinstance PyProof.Rows.boot_isinstance (pa_cons (pv 0) (pa_cons (pe_ty z_tuple PyProof.Rows.boot_tuple) pa_nil))))) (pw_or1 (pt_cmpR (op_neK (K := K) rfl hu) (pe_callB (call_lenK (K := K) rfl) rfl z_len PySem.boot_len (pa_cons (pv 0) pa_nil)) pe_int (nomark _)))))
      (pss_one (ps_ret pe_bl))
      pss_nil)
      (pss_one (ps_ret (pe_and (pe_def D_law_is_list (hr.mono (by omega)) (pa_cons (pe_ix (ix_seqK (K := K) rfl) (pv 0) pe_int (fun _ _ => rfl)) (pa_cons (pv 1) pa_nil))) (pe_one (pe_def D_law_is_list (hr.mono (by omega)) (pa_cons (pe_ix (ix_seqK (K := K) rfl) (pv 0) pe_int (fun _ _ => rfl)) (pa_cons (pv 2) pa_nil)))))))),
      fn_run (n := 3) (k := 0) (ms_seq (ms_if (mt_or (mt_not (mt_tB (me_isi me_var))) (mt_test (me_op J_ne (me_cb J_len (ma_cons me_var ma_nil)) me_int)))
      (ms_ret me_bl)
      ms_next)
      (ms_ret (me_andV (me_call (ma_cons (me_op J_ix me_var me_int) (ma_cons me_var ma_nil))) (me_call (ma_cons (me_op J_ix me_var me_int) (ma_cons me_var ma_nil)))))) rfl h⟩
theorem ok_law_looked (Z : NoGl mg) (T : Top K mg "_law_looked" s_law_looked) (D_law_is_double : Def P w K mg base CX0 11 "_law_is_double" ["_law_found", "_law_left", "_law_right"] (spM m_law_is_double)) (D_law_is_list : Def P w K mg base CX0 10 "_law_is_list" ["_law_found", "_law_due_here"] (spM m_law_is_list)) (D_double_row : Def P w K mg base CX0 1 "double_row" ["double"] (spM m_double_row)) : Def P w K mg base CX0 12 "_law_looked" ["_law_double", "_law_left", "_law_right"] (spM m_law_looked) := by
  have z_list : mg "list" = none := Z _ (by decide +kernel)
  have z_reversed : mg "reversed" = none := Z _ (by decide +kernel)
  refine T.def sc_law_looked (fun vs H Q E h => spM_len h) (fun _ _ _ _ _ _ us hl => match us, hl with | [_, _, _], _ => rfl) fun f cdv A outer s H vs Q E hr h => ?_
  have hu := hr.units
  exact ⟨_, (pss_cons (ps_set (i := 3) sc_law_looked.nd rfl (by first | exact Or.inl rfl | exact Or.inr rfl) (pe_def D_double_row (hr.mono (by omega)) (pa_cons (pv 0) pa_nil)))
      (pss_cons (ps_if (pt_not (pt_val (pe_def D_law_is_list (hr.mono (by omega)) (pa_cons (pv 3) (pa_cons (pe_op (op_addK (K := K) rfl) (pe_listRevK (K := K) rfl rfl rfl z_list rfl z_reversed (pa_cons (pv 1) pa_nil)) (pv 2)) pa_nil)))))
      (pss_one (ps_ret pe_bl))
      pss_nil)
      (pss_cons (ps_expr (pe_bmK (K := K) rfl PySem.F.plainAttrs_list PySem.F.slot_list_append PySem.F.type_list_append mt_append (pv 3) (pa_cons pe_str pa_nil)))
      (pss_cons (ps_expr (pe_bm0K (K := K) rfl PySem.F.plainAttrs_list PySem.F.slot_list_reverse PySem.F.type_list_reverse mt_reverse (pv 3)))
      (pss_one (ps_ret (pe_def D_law_is_double (hr.mono (by omega)) (pa_cons (pv 0) (pa_cons (pv 1) (pa_cons (pv 2) pa_nil)))))))))),
      fn_run (n := 3) (k := 1) (ms_seq (ms_asg (me_call (ma_cons me_var ma_nil)))
      (ms_seq (ms_if (mt_not (mt_tB (me_call (ma_cons me_var (ma_cons (me_op J_add (me_cb J_listRev (ma_cons me_var ma_nil)) me_var) ma_nil)))))
      (ms_ret me_bl)
      ms_next)
      (ms_seq (ms_drop (me_mut J_append (ma_cons me_str ma_nil)))
      (ms_seq (ms_drop (me_mut0 J_reverse))
      (ms_ret (me_call (ma_cons me_var (ma_cons me_var (ma_cons me_var ma_nil))))))))) rfl h⟩
theorem ok_law_altered (Z : NoGl mg) (T : Top K mg "_law_altered" s_law_altered)  : Def P w K mg base CX0 1 "_law_altered" ["_law_found", "_law_steps"] (spC m_law_altered) := by
  refine T.def sc_law_altered (fun vs H Q E h => spC_len h) (fun _ _ _ _ _ _ us hl => match us, hl with | [_, _], _ => rfl) fun f cdv A outer s H vs Q E hr h => ?_
  have hu := hr.units
  exact ⟨_, (pss_cons (ps_expr (pe_bmK (K := K) rfl PySem.F.plainAttrs_list PySem.F.slot_list_append PySem.F.type_list_append mt_append (pe_ix (ix_seqK (K := K) rfl) (pv 0) pe_int (fun _ _ => rfl)) (pa_cons pe_str pa_nil)))
      (pss_cons (ps_expr (pe_bm0K (K := K) rfl PySem.F.plainAttrs_list PySem.F.slot_list_clear PySem.F.type_list_clear mt_clear (pe_ix (ix_seqK (K := K) rfl) (pv 0) pe_int (fun _ _ => rfl))))
      (pss_cons (ps_expr (pe_bmK (K := K) rfl PySem.F.plainAttrs_list PySem.F.slot_list_append PySem.F.type_list_append mt_append (pv 1) (pa_cons pe_str pa_nil)))
      (pss_one (ps_ret pe_bl))))),
      fn_runC (n := 2) (k := 0) (by decide) (mc_append (i := 0) (mp_ix (j := 0) mp_var) (fun ds h => okC_mem (i := 0) (p := (pIx some 0)) (List.Mem.head _) h)
      (mc_clear (i := 0) (mp_ix (j := 1) mp_var) (fun ds h => okC_mem (i := 0) (p := (pIx some 1)) (List.Mem.tail _ (List.Mem.head _)) h)
      (mc_append (i := 1) mp_var (fun ds h => okC_mem (i := 1) (p := some) (List.Mem.tail _ (List.Mem.tail _ (List.Mem.head _))) h)
      (mc_true (c := 0))))) h⟩
theorem ok_put_first (Z : NoGl mg) (T : Top K mg "put_first" s_put_first)  : Def P w K mg base CX0 1 "put_first" ["double", "thing"] (spN m_put_first) := by
  have z_list : mg "list" = none := Z _ (by decide +kernel)
  refine T.def sc_put_first (fun vs H Q E h => spN_len h) (fun _ _ _ _ _ _ us hl => match us, hl with | [_, _], _ => rfl) fun f cdv A outer s H vs Q E hr h => ?_
  have hu := hr.units
  exact ⟨_, (pss_one (ps_ret (pe_tup (pa_cons (pe_tup (pa_cons (pe_op (op_addK (K := K) rfl) (pe_ix (ix_seqK (K := K) rfl) (pv 0) pe_int (fun _ _ => rfl)) (pe_lst (pa_cons (pv 1) pa_nil))) (pa_cons (pe_callTy (call_listK (K := K) rfl) rfl z_list PyProof.Rows.boot_list (pa_cons (pe_ix (ix_seqK (K := K) rfl) (pv 0) pe_int (fun _ _ => rfl)) pa_nil)) pa_nil))) (pa_cons (pe_lst (pa_cons pe_str pa_nil)) pa_nil))))),
      fn_runN (n := 2) (k := 0) (msn_ret (mew_tup (maw_cons (mew_tup (maw_cons (mew_leaf (me_op J_add (me_op J_ix me_var me_int) (me_lst (ma_cons me_var ma_nil)))) (maw_cons (mew_leaf (me_cb J_list (ma_cons (me_op J_ix me_var me_int) ma_nil))) maw_nil))) (maw_cons (mew_leaf (me_lst (ma_cons me_str ma_nil))) maw_nil)))) rfl h⟩
theorem ok_put_last (Z : NoGl mg) (T : Top K mg "put_last" s_put_last)  : Def P w K mg base CX0 1 "put_last" ["double", "thing"] (spN m_put_last) := by
  have z_list : mg "list" = none := Z _ (by decide +kernel)
  refine T.def sc_put_last (fun vs H Q E h => spN_len h) (fun _ _ _ _ _ _ us hl => match us, hl with | [_, _], _ => rfl) fun f cdv A outer s H vs Q E hr h => ?_
  have hu := hr.units
  exact ⟨_, (pss_one (ps_ret (pe_tup (pa_cons (pe_tup (pa_cons (pe_callTy (call_listK (K := K) rfl) rfl z_list PyProof.Rows.boot_list (pa_cons (pe_ix (ix_seqK (K := K) rfl) (pv 0) pe_int (fun _ _ => rfl)) pa_nil)) (pa_cons (pe_op (op_addK (K := K) rfl) (pe_ix (ix_seqK (K := K) rfl) (pv 0) pe_int (fun _ _ => rfl)) (pe_lst (pa_cons (pv 1) pa_nil))) pa_nil))) (pa_cons (pe_lst (pa_cons pe_str pa_nil)) pa_nil))))),
      fn_runN (n := 2) (k := 0) (msn_ret (mew_tup (maw_cons (mew_tup (maw_cons (mew_leaf (me_cb J_list (ma_cons (me_op J_ix me_var me_int) ma_nil))) (maw_cons (mew_leaf (me_op J_add (me_op J_ix me_var me_int) (me_lst (ma_cons me_var ma_nil)))) maw_nil))) (maw_cons (mew_leaf (me_lst (ma_cons me_str ma_nil))) maw_nil)))) rfl h⟩
theorem ok_double_credit (Z : NoGl mg) (T : Top K mg "double_credit" s_double_credit)  : Def P w K mg base CX0 1 "double_credit" ["double"] (spM m_double_credit) := by
  have z_len : mg "len" = none := Z _ (by decide +kernel)
  have z_abs : mg "abs" = none := Z _ (by decide +kernel)
  refine T.def sc_double_credit (fun vs H Q E h => spM_len h) (fun _ _ _ _ _ _ us hl => match us, hl with | [_], _ => rfl) fun f cdv A outer s H vs Q E hr h => ?_
  have hu := hr.units
  exact ⟨_, (pss_one (ps_ret (pe_callB call_abs rfl z_abs PyProof.Rows.boot_abs (pa_cons (pe_op op_sub (pe_callB (call_lenK (K := K) rfl) rfl z_len PySem.boot_len (pa_cons (pe_ix (ix_seqK (K := K) rfl) (pv 0) pe_int (fun _ _ => rfl)) pa_nil)) (pe_callB (call_lenK (K := K) rfl) rfl z_len PySem.boot_len (pa_cons (pe_ix (ix_seqK (K := K) rfl) (pv 0) pe_int (fun _ _ => rfl)) pa_nil))) pa_nil)))),
      fn_run (n := 1) (k := 0) (ms_ret (me_cb J_abs (ma_cons (me_op J_I0 (me_cb J_len (ma_cons (me_op J_ix me_var me_int) ma_nil)) (me_cb J_len (ma_cons (me_op J_ix me_var me_int) ma_nil))) ma_nil))) rfl h⟩
theorem ok_law_whole (Z : NoGl mg) (T : Top K mg "_law_whole" s_law_whole)  : Def P w K mg base CX0 1 "_law_whole" ["_law_found"] (spM m_law_whole) := by
  have z_bool : mg "bool" = none := Z _ (by decide +kernel)
  have z_isinstance : mg "isinstance" = none := Z _ (by decide +kernel)
  have z_int : mg "int" = none := Z _ (by decide +kernel)
  refine T.def sc_law_whole (fun vs H Q E h => spM_len h) (fun _ _ _ _ _ _ us hl => match us, hl with | [_], _ => rfl) fun f cdv A outer s H vs Q E hr h => ?_
  have hu := hr.units
  exact ⟨_, (pss_one (ps_ret (pe_and (pe_callB call_isi rfl z_isinstance PyProof.Rows.boot_isinstance (pa_cons (pv 0) (pa_cons (pe_ty z_int PyProof.Rows.boot_int) pa_nil))) (pe_one (pe_not (pe_callB call_isi rfl z_isinstance PyProof.Rows.boot_isinstance (pa_cons (pv 0) (pa_cons (pe_ty z_bool PyProof.Rows.boot_bool) pa_nil)))))))),
      fn_run (n := 1) (k := 0) (ms_ret (me_andV (me_isi me_var) (me_notV (me_isi me_var)))) rfl h⟩
theorem ok_law_paid (Z : NoGl mg) (T : Top K mg "_law_paid" s_law_paid) (D_law_whole : Def P w K mg base CX0 1 "_law_whole" ["_law_found"] (spM m_law_whole)) (D_double_credit : Def P w K mg base CX0 1 "double_credit" ["double"] (spM m_double_credit)) : Def P w K mg base CX0 2 "_law_paid" ["_law_double", "_law_found", "_law_steps"] (spM m_law_paid) := by
  have z_len : mg "len" = none := Z _ (by decide +kernel)
  have z_abs : mg "abs" = none := Z _ (by decide +kernel)
  refine T.def sc_law_paid (fun vs H Q E h => spM_len h) (fun _ _ _ _ _ _ us hl => match us, hl with | [_, _, _], _ => rfl) fun f cdv A outer s H vs Q E hr h => ?_
  have hu := hr.units
  exact ⟨_, (pss_cons (ps_set (i := 3) sc_law_paid.nd rfl (by first | exact Or.inl rfl | exact Or.inr rfl) (pe_def D_double_credit (hr.mono (by omega)) (pa_cons (pv 0) pa_nil)))
      (pss_cons (ps_set (i := 4) sc_law_paid.nd rfl (by first | exact Or.inl rfl | exact Or.inr rfl) (pe_def D_double_credit (hr.mono (by omega)) (pa_cons (pv 1) pa_nil)))
      (pss_cons (ps_if (PW.pt (pw_or (pt_not (pt_val (pe_def D_law_whole (hr.mono (by omega)) (pa_cons (pv 3) pa_nil)))) (pw_or1 (pt_cmpR (op_neK (K := K) rfl hu) (pv 3) (pe_callB call_abs rfl z_abs PyProof.Rows.boot_abs (pa_cons (pe_op op_sub (pe_callB (call_lenK (K := K) rfl) rfl z_len PySem.boot_len (pa_cons (pe_ix (ix_seqK (K := K) rfl) (pv 0) pe_int (fun _ _ => rfl)) pa_nil)) (pe_callB (call_lenK (K := K) rfl) rfl z_len PySem.boot_len (pa_cons (pe_ix (ix_seqK (K := K) rfl) (pv 0) pe_int (fun _ _ => rfl)) pa_nil))) pa_nil)) (nomark _)))))
      (pss_one (ps_ret pe_bl))
      pss_nil)
      (pss_cons (ps_if (PW.pt (pw_or (pt_not (pt_val (pe_def D_law_whole (hr.mono (by omega)) (pa_cons (pv 4) pa_nil)))) (pw_or1 (pt_cmpR (op_neK (K := K) rfl hu) (pv 4) (pe_callB call_abs rfl z_abs PyProof.Rows.boot_abs (pa_cons (pe_op op_sub (pe_callB (call_lenK (K := K) rfl) rfl z_len PySem.boot_len (pa_cons (pe_ix (ix_seqK (K := K) rfl) (pv 1) pe_int (fun _ _ => rfl)) pa_nil)) (pe_callB (call_lenK (K := K) rfl) rfl z_len PySem.boot_len (pa_cons (pe_ix (ix_seqK (K := K) rfl) (pv 1) pe_int (fun _ _ => rfl)) pa_nil))) pa_nil)) (nomark _)))))
      (pss_one (ps_ret pe_bl))
      pss_nil)
      (pss_one (ps_ret (pe_cmpR op_le (pe_op (op_addK (K := K) rfl) (pe_callB (call_lenK (K := K) rfl) rfl z_len PySem.boot_len (pa_cons (pv 2) pa_nil)) (pv 4)) (pe_op (op_addK (K := K) rfl) (pv 3) pe_int) (nomark _)))))))),
      fn_run (n := 3) (k := 2) (ms_seq (ms_asg (me_call (ma_cons me_var ma_nil)))
      (ms_seq (ms_asg (me_call (ma_cons me_var ma_nil)))
      (ms_seq (ms_if (mt_or (mt_not (mt_tB (me_call (ma_cons me_var ma_nil)))) (mt_test (me_op J_ne me_var (me_cb J_abs (ma_cons (me_op J_I0 (me_cb J_len (ma_cons (me_op J_ix me_var me_int) ma_nil)) (me_cb J_len (ma_cons (me_op J_ix me_var me_int) ma_nil))) ma_nil)))))
      (ms_ret me_bl)
      ms_next)
      (ms_seq (ms_if (mt_or (mt_not (mt_tB (me_call (ma_cons me_var ma_nil)))) (mt_test (me_op J_ne me_var (me_cb J_abs (ma_cons (me_op J_I0 (me_cb J_len (ma_cons (me_op J_ix me_var me_int) ma_nil)) (me_cb J_len (ma_cons (me_op J_ix me_var me_int) ma_nil))) ma_nil)))))
      (ms_ret me_bl)
      ms_next)
      (ms_ret (me_op J_B0 (me_op J_add (me_cb J_len (ma_cons me_var ma_nil)) me_var) (me_op J_add me_var me_int))))))) rfl h⟩
theorem ok_law_put_right (Z : NoGl mg) (T : Top K mg "_law_put_right" s_law_put_right) (D_law_altered : Def P w K mg base CX0 1 "_law_altered" ["_law_found", "_law_steps"] (spC m_law_altered)) (D_law_is_list : Def P w K mg base CX0 10 "_law_is_list" ["_law_found", "_law_due_here"] (spM m_law_is_list)) (D_law_paid : Def P w K mg base CX0 2 "_law_paid" ["_law_double", "_law_found", "_law_steps"] (spM m_law_paid)) (D_law_is_double : Def P w K mg base CX0 11 "_law_is_double" ["_law_found", "_law_left", "_law_right"] (spM m_law_is_double)) (DN_put_first : Def P w K mg base CX0 1 "put_first" ["double", "thing"] (spN m_put_first)) (DN_put_last : Def P w K mg base CX0 1 "put_last" ["double", "thing"] (spN m_put_last)) : Def P w K mg base CX0 12 "_law_put_right" ["_law_double", "_law_thing", "_law_first"] (spM m_law_put_right) := by
  have z_len : mg "len" = none := Z _ (by decide +kernel)
  have z_tuple : mg "tuple" = none := Z _ (by decide +kernel)
  have z_isinstance : mg "isinstance" = none := Z _ (by decide +kernel)
  have z_list : mg "list" = none := Z _ (by decide +kernel)
  refine T.def sc_law_put_right (fun vs H Q E h => spM_len h) (fun _ _ _ _ _ _ us hl => match us, hl with | [_, _, _], _ => rfl) fun f cdv A outer s H vs Q E hr h => ?_
  have hu := hr.units
  exact ⟨_, (pss_cons (ps_set (i := 3) sc_law_put_right.nd rfl (by first | exact Or.inl rfl | exact Or.inr rfl) (pe_callTy (call_listK (K := K) rfl) rfl z_list PyProof.Rows.boot_list (pa_cons (pe_ix (ix_seqK (K := K) rfl) (pv 0) pe_int (fun _ _ => rfl)) pa_nil)))
      (pss_cons (ps_set (i := 4) sc_law_put_right.nd rfl (by first | exact Or.inl rfl | exact Or.inr rfl) (pe_callTy (call_listK (K := K) rfl) rfl z_list PyProof.Rows.boot_list (pa_cons (pe_ix (ix_seqK (K := K) rfl) (pv 0) pe_int (fun _ _ => rfl)) pa_nil)))
      (pss_cons (ps_if (pt_val (pv 2))
      (pss_cons (ps_set (i := 5) sc_law_put_right.nd rfl (by first | exact Or.inl rfl | exact Or.inr rfl) (pe_def DN_put_first (hr.mono (by omega)) (pa_cons (pv 0) (pa_cons (pv 1) pa_nil))))
      (pss_one (ps_expr (pe_bmK (K := K) rfl PySem.F.plainAttrs_list PySem.F.slot_list_append PySem.F.type_list_append mt_append (pv 3) (pa_cons (pv 1) pa_nil)))))
      (pss_cons (ps_set (i := 5) sc_law_put_right.nd rfl (by first | exact Or.inl rfl | exact Or.inr rfl) (pe_def DN_put_last (hr.mono (by omega)) (pa_cons (pv 0) (pa_cons (pv 1) pa_nil))))
      (pss_one (ps_expr (pe_bmK (K := K) rfl PySem.F.plainAttrs_list PySem.F.slot_list_append PySem.F.type_list_append mt_append (pv 4) (pa_cons (pv 1) pa_nil))))))
      (pss_cons (ps_if (PW.pt (pw_or (pt_not (pt_val (pe_callB call_isi rfl z_isinstance PyProof.Rows.boot_isinstance (pa_cons (pv 5) (pa_cons (pe_ty z_tuple PyProof.Rows.boot_tuple) pa_nil))))) (pw_or (pt_cmpR (op_neK (K := K) rfl hu) (pe_callB (call_lenK (K := K) rfl) rfl z_len PySem.boot_len (pa_cons (pv 5) pa_nil)) pe_int (nomark _)) (pw_or1 (pt_not (pt_val (pe_def D_law_is_list (hr.mono (by omega)) (pa_cons (pe_ix (ix_seqK (K := K) rfl) (pv 5) pe_int (fun _ _ => rfl)) (pa_cons (pe_lst (pa_cons pe_str pa_nil)) pa_nil)))))))))
      (pss_one (ps_ret pe_bl))
      pss_nil)
      (pss_cons (ps_if (PW.pt (pw_or (pt_not (pt_val (pe_def D_law_is_double (hr.mono (by omega)) (pa_cons (pe_ix (ix_seqK (K := K) rfl) (pv 5) pe_int (fun _ _ => rfl)) (pa_cons (pv 3) (pa_cons (pv 4) pa_nil)))))) (pw_or1 (pt_not (pt_val (pe_def D_law_paid (hr.mono (by omega)) (pa_cons (pv 0) (pa_cons (pe_ix (ix_seqK (K := K) rfl) (pv 5) pe_int (fun _ _ => rfl)) (pa_cons (pe_ix (ix_seqK (K := K) rfl) (pv 5) pe_int (fun _ _ => rfl)) pa_nil)))))))))
      (pss_one (ps_ret pe_bl))
      pss_nil)
      (pss_one (ps_ret (pe_def D_law_altered (hr.mono (by omega)) (pa_cons (pe_ix (ix_seqK (K := K) rfl) (pv 5) pe_int (fun _ _ => rfl)) (pa_cons (pe_ix (ix_seqK (K := K) rfl) (pv 5) pe_int (fun _ _ => rfl)) pa_nil)))))))))),
      fn_run (n := 3) (k := 3) (ms_seq (ms_asg (me_cb J_list (ma_cons (me_op J_ix me_var me_int) ma_nil)))
      (ms_seq (ms_asg (me_cb J_list (ma_cons (me_op J_ix me_var me_int) ma_nil)))
      (ms_ifs (ms_if (mt_tB me_var)
      (ms_assoc (ms_deadN (N := []) (i := 5) (ok := (okR m_law_altered (pIx some 0) (pIx some 1))) (by decide) (ma_cons me_var (ma_cons me_var ma_nil))
      (mbg_seq (mk_drop (me_mut J_append (ma_cons me_var ma_nil)))
      (mbg_seq (mk_if (mt_or (mt_not (mt_tB (me_isi me_var))) (mt_or (mt_test (me_op J_ne (me_cb J_len (ma_cons me_var ma_nil)) me_int)) (mt_not (mt_tB (me_call (ma_cons (me_op J_ix me_var me_int) (ma_cons (me_lst (ma_cons me_str ma_nil)) ma_nil)))))))
      (mk_ret me_bl)
      mk_next)
      (mbg_seq (mk_if (mt_or (mt_not (mt_tB (me_call (ma_cons (me_op J_ix me_var me_int) (ma_cons me_var (ma_cons me_var ma_nil)))))) (mt_not (mt_tB (me_call (ma_cons me_var (ma_cons (me_op J_ix me_var me_int) (ma_cons (me_op J_ix me_var me_int) ma_nil)))))))
      (mk_ret me_bl)
      mk_next)
      (mbg_exitP (mag_retC (mp_ix (j := 0) mp_var) (mp_ix (j := 1) mp_var) (by decide) (fun d h => okR_ex h))))))))
      (ms_assoc (ms_deadN (N := []) (i := 5) (ok := (okR m_law_altered (pIx some 0) (pIx some 1))) (by decide) (ma_cons me_var (ma_cons me_var ma_nil))
      (mbg_seq (mk_drop (me_mut J_append (ma_cons me_var ma_nil)))
      (mbg_seq (mk_if (mt_or (mt_not (mt_tB (me_isi me_var))) (mt_or (mt_test (me_op J_ne (me_cb J_len (ma_cons me_var ma_nil)) me_int)) (mt_not (mt_tB (me_call (ma_cons (me_op J_ix me_var me_int) (ma_cons (me_lst (ma_cons me_str ma_nil)) ma_nil)))))))
      (mk_ret me_bl)
      mk_next)
      (mbg_seq (mk_if (mt_or (mt_not (mt_tB (me_call (ma_cons (me_op J_ix me_var me_int) (ma_cons me_var (ma_cons me_var ma_nil)))))) (mt_not (mt_tB (me_call (ma_cons me_var (ma_cons (me_op J_ix me_var me_int) (ma_cons (me_op J_ix me_var me_int) ma_nil)))))))
      (mk_ret me_bl)
      mk_next)
      (mbg_exitP (mag_retC (mp_ix (j := 0) mp_var) (mp_ix (j := 1) mp_var) (by decide) (fun d h => okR_ex h)))))))))))) rfl h⟩
theorem ok_law_due (Z : NoGl mg) (T : Top K mg "_law_due" s_law_due)  : Def P w K mg base CX0 1 "_law_due" ["_law_double", "_law_first"] (spM m_law_due) := by
  have z_len : mg "len" = none := Z _ (by decide +kernel)
  have z_list : mg "list" = none := Z _ (by decide +kernel)
  have z_reversed : mg "reversed" = none := Z _ (by decide +kernel)
  refine T.def sc_law_due (fun vs H Q E h => spM_len h) (fun _ _ _ _ _ _ us hl => match us, hl with | [_, _], _ => rfl) fun f cdv A outer s H vs Q E hr h => ?_
  have hu := hr.units
  exact ⟨_, (pss_cons (ps_set (i := 2) sc_law_due.nd rfl (by first | exact Or.inl rfl | exact Or.inr rfl) (pe_callTy (call_listK (K := K) rfl) rfl z_list PyProof.Rows.boot_list (pa_cons (pe_ix (ix_seqK (K := K) rfl) (pv 0) pe_int (fun _ _ => rfl)) pa_nil)))
      (pss_cons (ps_set (i := 3) sc_law_due.nd rfl (by first | exact Or.inl rfl | exact Or.inr rfl) (pe_callTy (call_listK (K := K) rfl) rfl z_list PyProof.Rows.boot_list (pa_cons (pe_ix (ix_seqK (K := K) rfl) (pv 0) pe_int (fun _ _ => rfl)) pa_nil)))
      (pss_cons (ps_set (i := 4) sc_law_due.nd rfl (by first | exact Or.inl rfl | exact Or.inr rfl) (pe_op (op_addK (K := K) rfl) (pe_listRevK (K := K) rfl rfl rfl z_list rfl z_reversed (pa_cons (pv 2) pa_nil)) (pv 3)))
      (pss_cons (ps_set (i := 5) sc_law_due.nd rfl (by first | exact Or.inl rfl | exact Or.inr rfl) (pe_op op_fdiv (pe_op (op_addK (K := K) rfl) (pe_callB (call_lenK (K := K) rfl) rfl z_len PySem.boot_len (pa_cons (pv 4) pa_nil)) pe_int) pe_int))
      (pss_cons (ps_set (i := 6) sc_law_due.nd rfl (by first | exact Or.inl rfl | exact Or.inr rfl) (pe_op (op_addK (K := K) rfl) (pe_op op_mulM (pe_lst (pa_cons pe_str pa_nil)) (pe_callB (call_lenK (K := K) rfl) rfl z_len PySem.boot_len (pa_cons (pv 4) pa_nil))) (pe_lst (pa_cons pe_str pa_nil))))
      (pss_cons (ps_if (PW.pt (pw_and (pt_val (pv 1)) (pw_and1 (pt_cmpR (op_eqK (K := K) rfl hu) (pv 2) (pe_lst pa_nil) (nomark _)))))
      (pss_one (ps_ret (pe_tup (pa_cons (pe_listRevK (K := K) rfl rfl rfl z_list rfl z_reversed (pa_cons (pe_slice (sl_listK (K := K) rfl) (pv 4) (po_some pe_int) (po_some (pv 5))) pa_nil)) (pa_cons (pe_slice (sl_listK (K := K) rfl) (pv 4) (po_some (pv 5)) po_none) (pa_cons (pv 6) pa_nil))))))
      pss_nil)
      (pss_cons (ps_if (PW.pt (pw_and (pt_not (pt_val (pv 1))) (pw_and1 (pt_cmpR (op_eqK (K := K) rfl hu) (pv 3) (pe_lst pa_nil) (nomark _)))))
      (pss_one (ps_ret (pe_tup (pa_cons (pe_listRevK (K := K) rfl rfl rfl z_list rfl z_reversed (pa_cons (pe_slice (sl_listK (K := K) rfl) (pv 4) po_none (po_some (pe_op op_sub (pe_callB (call_lenK (K := K) rfl) rfl z_len PySem.boot_len (pa_cons (pv 4) pa_nil)) (pv 5)))) pa_nil)) (pa_cons (pe_slice (sl_listK (K := K) rfl) (pv 4) (po_some (pe_op op_sub (pe_callB (call_lenK (K := K) rfl) rfl z_len PySem.boot_len (pa_cons (pv 4) pa_nil)) (pv 5))) (po_some (pe_un un_neg pe_int))) (pa_cons (pv 6) pa_nil))))))
      pss_nil)
      (pss_cons (ps_if (pt_val (pv 1))
      (pss_one (ps_ret (pe_tup (pa_cons (pe_slice (sl_listK (K := K) rfl) (pv 2) po_none (po_some (pe_un un_neg pe_int))) (pa_cons (pv 3) (pa_cons (pe_lst (pa_cons pe_str pa_nil)) pa_nil))))))
      pss_nil)
      (pss_one (ps_ret (pe_tup (pa_cons (pv 2) (pa_cons (pe_slice (sl_listK (K := K) rfl) (pv 3) po_none (po_some (pe_un un_neg pe_int))) (pa_cons (pe_lst (pa_cons pe_str pa_nil)) pa_nil)))))))))))))),
      fn_run (n := 2) (k := 5) (ms_seq (ms_asg (me_cb J_list (ma_cons (me_op J_ix me_var me_int) ma_nil)))
      (ms_seq (ms_asg (me_cb J_list (ma_cons (me_op J_ix me_var me_int) ma_nil)))
      (ms_seq (ms_asg (me_op J_add (me_cb J_listRev (ma_cons me_var ma_nil)) me_var))
      (ms_seq (ms_asg (me_op J_I (me_op J_add (me_cb J_len (ma_cons me_var ma_nil)) me_int) me_int))
      (ms_seq (ms_asg (me_op J_add (me_rep (ma_cons me_str ma_nil) (me_cb J_len (ma_cons me_var ma_nil))) (me_lst (ma_cons me_str ma_nil))))
      (ms_seq (ms_if (mt_and (mt_tB me_var) (mt_test (me_op J_eq me_var (me_lst ma_nil))))
      (ms_ret (me_tup (ma_cons (me_cb J_listRev (ma_cons (me_sl J_sl me_var (mo_some me_int) (mo_some me_var)) ma_nil)) (ma_cons (me_sl J_sl me_var (mo_some me_var) mo_none) (ma_cons me_var ma_nil)))))
      ms_next)
      (ms_seq (ms_if (mt_and (mt_not (mt_tB me_var)) (mt_test (me_op J_eq me_var (me_lst ma_nil))))
      (ms_ret (me_tup (ma_cons (me_cb J_listRev (ma_cons (me_sl J_sl me_var mo_none (mo_some (me_op J_I0 (me_cb J_len (ma_cons me_var ma_nil)) me_var))) ma_nil)) (ma_cons (me_sl J_sl me_var (mo_some (me_op J_I0 (me_cb J_len (ma_cons me_var ma_nil)) me_var)) (mo_some (me_un J_neg me_int))) (ma_cons me_var ma_nil)))))
      ms_next)
      (ms_seq (ms_if (mt_tB me_var)
      (ms_ret (me_tup (ma_cons (me_sl J_sl me_var mo_none (mo_some (me_un J_neg me_int))) (ma_cons me_var (ma_cons (me_lst (ma_cons me_str ma_nil)) ma_nil)))))
      ms_next)
      (ms_ret (me_tup (ma_cons me_var (ma_cons (me_sl J_sl me_var mo_none (mo_some (me_un J_neg me_int))) (ma_cons (me_lst (ma_cons me_str ma_nil)) ma_nil))))))))))))) rfl h⟩
theorem ok_take_near (Z : NoGl mg) (T : Top K mg "take_near" s_take_near)  : Def P w K mg base CX0 1 "take_near" ["near", "far"] (spN m_take_near) := by
  have z_len : mg "len" = none := Z _ (by decide +kernel)
  have z_list : mg "list" = none := Z _ (by decide +kernel)
  have z_reversed : mg "reversed" = none := Z _ (by decide +kernel)
  refine T.def sc_take_near (fun vs H Q E h => spN_len h) (fun _ _ _ _ _ _ us hl => match us, hl with | [_, _], _ => rfl) fun f cdv A outer s H vs Q E hr h => ?_
  have hu := hr.units
  exact ⟨_, (pss_cons (ps_if (pt_cmpR op_gt (pe_callB (call_lenK (K := K) rfl) rfl z_len PySem.boot_len (pa_cons (pv 0) pa_nil)) pe_int (nomark _))
      (pss_one (ps_ret (pe_tup (pa_cons (pe_ix (ix_seqK (K := K) rfl) (pv 0) (pe_un un_neg pe_int) (fun _ _ => rfl)) (pa_cons (pe_tup (pa_cons (pe_slice (sl_listK (K := K) rfl) (pv 0) po_none (po_some (pe_un un_neg pe_int))) (pa_cons (pe_callTy (call_listK (K := K) rfl) rfl z_list PyProof.Rows.boot_list (pa_cons (pv 1) pa_nil)) pa_nil))) (pa_cons (pe_lst (pa_cons pe_str pa_nil)) pa_nil))))))
      pss_nil)
      (pss_cons (ps_if (pt_cmpR (op_eqK (K := K) rfl hu) (pe_callB (call_lenK (K := K) rfl) rfl z_len PySem.boot_len (pa_cons (pv 1) pa_nil)) pe_int (nomark _))
      (pss_one ps_never)
      pss_nil)
      (pss_cons (id (ps_set (i := 2) sc_take_near.nd rfl (by first | exact Or.inl rfl | exact Or.inr rfl) (pe_op op_fdiv (pe_op (op_addK (K := K) rfl) (pe_callB (call_lenK (K := K) rfl) rfl z_len PySem.boot_len (pa_cons (pv 1) pa_nil)) pe_int) pe_int)))
      (pss_cons (id (ps_set (i := 3) sc_take_near.nd rfl (by first | exact Or.inl rfl | exact Or.inr rfl) (pe_listRevK (K := K) rfl rfl rfl z_list rfl z_reversed (pa_cons (pe_slice (sl_listK (K := K) rfl) (pv 1) po_none (po_some (pv 2))) pa_nil))))
      (pss_cons (id (ps_set (i := 4) sc_take_near.nd rfl (by first | exact Or.inl rfl | exact Or.inr rfl) (pe_bm0K (K := K) rfl PySem.F.plainAttrs_list PySem.F.slot_list_pop PySem.F.type_list_pop mt_pop (pv 3))))
      (pss_one (ps_ret (pe_tup (pa_cons (pv 4) (pa_cons (pe_tup (pa_cons (pv 3) (pa_cons (pe_slice (sl_listK (K := K) rfl) (pv 1) (po_some (pv 2)) po_none) pa_nil))) (pa_cons (pe_op (op_addK (K := K) rfl) (pe_op op_mulM (pe_lst (pa_cons pe_str pa_nil)) (pe_callB (call_lenK (K := K) rfl) rfl z_len PySem.boot_len (pa_cons (pv 1) pa_nil))) (pe_lst (pa_cons pe_str pa_nil))) pa_nil))))))))))),
      fn_runN (n := 2) (k := 3) (msn_seq (msn_if (mt_test (me_op J_B0 (me_cb J_len (ma_cons me_var ma_nil)) me_int))
      (msn_ret (mew_tup (maw_cons (mew_leaf (me_op J_ix me_var (me_un J_neg me_int))) (maw_cons (mew_tup (maw_cons (mew_leaf (me_sl J_sl me_var mo_none (mo_some (me_un J_neg me_int)))) (maw_cons (mew_leaf (me_cb J_list (ma_cons me_var ma_nil))) maw_nil))) (maw_cons (mew_leaf (me_lst (ma_cons me_str ma_nil))) maw_nil)))))
      msn_next)
      (msn_seq (msn_if (mt_test (me_op J_eq (me_cb J_len (ma_cons me_var ma_nil)) me_int))
      msn_never
      msn_next)
      (msn_seq (msn_nr (ms_asg (me_op J_I (me_op J_add (me_cb J_len (ma_cons me_var ma_nil)) me_int) me_int)))
      (msn_seq (msn_nr (ms_asg (me_cb J_listRev (ma_cons (me_sl J_sl me_var mo_none (mo_some me_var)) ma_nil))))
      (msn_seq (msn_nr (ms_asg (me_mut0 J_pop)))
      (msn_ret (mew_tup (maw_cons (mew_leaf me_var) (maw_cons (mew_tup (maw_cons (mew_leaf me_var) (maw_cons (mew_leaf (me_sl J_sl me_var (mo_some me_var) mo_none)) maw_nil))) (maw_cons (mew_leaf (me_op J_add (me_rep (ma_cons me_str ma_nil) (me_cb J_len (ma_cons me_var ma_nil))) (me_lst (ma_cons me_str ma_nil)))) maw_nil)))))))))) rfl h⟩
theorem ok_take_first (Z : NoGl mg) (T : Top K mg "take_first" s_take_first) (DN_take_near : Def P w K mg base CX0 1 "take_near" ["near", "far"] (spN m_take_near)) : Def P w K mg base CX0 2 "take_first" ["double"] (spN m_take_first) := by
  refine T.def sc_take_first (fun vs H Q E h => spN_len h) (fun _ _ _ _ _ _ us hl => match us, hl with | [_], _ => rfl) fun f cdv A outer s H vs Q E hr h => ?_
  have hu := hr.units
  exact ⟨_, (pss_one (ps_ret (pe_def DN_take_near (hr.mono (by omega)) (pa_cons (pe_ix (ix_seqK (K := K) rfl) (pv 0) pe_int (fun _ _ => rfl)) (pa_cons (pe_ix (ix_seqK (K := K) rfl) (pv 0) pe_int (fun _ _ => rfl)) pa_nil))))),
      fn_runN (n := 1) (k := 0) (msn_ofT (msnt_ret (mewt_of (mew_call (ma_cons (me_op J_ix me_var me_int) (ma_cons (me_op J_ix me_var me_int) ma_nil)))))) rfl h⟩
theorem ok_take_last (Z : NoGl mg) (T : Top K mg "take_last" s_take_last) (DN_take_near : Def P w K mg base CX0 1 "take_near" ["near", "far"] (spN m_take_near)) : Def P w K mg base CX0 2 "take_last" ["double"] (spN m_take_last) := by
  refine T.def sc_take_last (fun vs H Q E h => spN_len h) (fun _ _ _ _ _ _ us hl => match us, hl with | [_], _ => rfl) fun f cdv A outer s H vs Q E hr h => ?_
  have hu := hr.units
  exact ⟨_, (pss_cons (ps_set (i := 1) sc_take_last.nd rfl (by first | exact Or.inl rfl | exact Or.inr rfl) (pe_def DN_take_near (hr.mono (by omega)) (pa_cons (pe_ix (ix_seqK (K := K) rfl) (pv 0) pe_int (fun _ _ => rfl)) (pa_cons (pe_ix (ix_seqK (K := K) rfl) (pv 0) pe_int (fun _ _ => rfl)) pa_nil))))
      (pss_one (ps_ret (pe_tup (pa_cons (pe_ix (ix_seqK (K := K) rfl) (pv 1) pe_int (fun _ _ => rfl)) (pa_cons (pe_tup (pa_cons (pe_ix (ix_seqK (K := K) rfl) (pe_ix (ix_seqK (K := K) rfl) (pv 1) pe_int (fun _ _ => rfl)) pe_int (fun _ _ => rfl)) (pa_cons (pe_ix (ix_seqK (K := K) rfl) (pe_ix (ix_seqK (K := K) rfl) (pv 1) pe_int (fun _ _ => rfl)) pe_int (fun _ _ => rfl)) pa_nil))) (pa_cons (pe_ix (ix_seqK (K := K) rfl) (pv 1) pe_int (fun _ _ => rfl)) pa_nil))))))),
      fn_runN (n := 1) (k := 1) (msn_ofT (msnt_set (i := 1) (ma_cons (me_op J_ix me_var me_int) (ma_cons (me_op J_ix me_var me_int) ma_nil))
      (msnt_ret (mewt_tup (mawt_cons (mewt_path (mpt_ix (j := 0) mpt_var)) (mawt_cons (mewt_tup (mawt_cons (mewt_path (mpt_ix (j := 1) (mpt_ix (j := 1) mpt_var))) (mawt_cons (mewt_path (mpt_ix (j := 0) (mpt_ix (j := 1) mpt_var))) mawt_nil))) (mawt_cons (mewt_path (mpt_ix (j := 2) mpt_var)) mawt_nil))))))) rfl h⟩
theorem ok_law_take_right (Z : NoGl mg) (T : Top K mg "_law_take_right" s_law_take_right) (D_law_altered : Def P w K mg base CX0 1 "_law_altered" ["_law_found", "_law_steps"] (spC m_law_altered)) (D_law_same : Def P w K mg base CX0 9 "_law_same" ["_law_found", "_law_due_here"] (spM (m_law_same 8))) (D_law_is_list : Def P w K mg base CX0 10 "_law_is_list" ["_law_found", "_law_due_here"] (spM m_law_is_list)) (D_law_is_double : Def P w K mg base CX0 11 "_law_is_double" ["_law_found", "_law_left", "_law_right"] (spM m_law_is_double)) (D_law_paid : Def P w K mg base CX0 2 "_law_paid" ["_law_double", "_law_found", "_law_steps"] (spM m_law_paid)) (D_law_due : Def P w K mg base CX0 1 "_law_due" ["_law_double", "_law_first"] (spM m_law_due)) (DN_take_first : Def P w K mg base CX0 2 "take_first" ["double"] (spN m_take_first)) (DN_take_last : Def P w K mg base CX0 2 "take_last" ["double"] (spN m_take_last)) : Def P w K mg base CX0 12 "_law_take_right" ["_law_double", "_law_first"] (spM m_law_take_right) := by
  have z_len : mg "len" = none := Z _ (by decide +kernel)
  have z_tuple : mg "tuple" = none := Z _ (by decide +kernel)
  have z_isinstance : mg "isinstance" = none := Z _ (by decide +kernel)
  have z_list : mg "list" = none := Z _ (by decide +kernel)
  have z_reversed : mg "reversed" = none := Z _ (by decide +kernel)
  refine T.def sc_law_take_right (fun vs H Q E h => spM_len h) (fun _ _ _ _ _ _ us hl => match us, hl with | [_, _], _ => rfl) fun f cdv A outer s H vs Q E hr h => ?_
  have hu := hr.units
  exact ⟨_, (pss_cons (ps_set (i := 2) sc_law_take_right.nd rfl (by first | exact Or.inl rfl | exact Or.inr rfl) (pe_op (op_addK (K := K) rfl) (pe_listRevK (K := K) rfl rfl rfl z_list rfl z_reversed (pa_cons (pe_ix (ix_seqK (K := K) rfl) (pv 0) pe_int (fun _ _ => rfl)) pa_nil)) (pe_ix (ix_seqK (K := K) rfl) (pv 0) pe_int (fun _ _ => rfl))))
      (pss_cons (ps_asg (pe_def D_law_due (hr.mono (by omega)) (pa_cons (pv 0) (pa_cons (pv 1) pa_nil))) (pg_tupL rfl (pgs_cons (pg_name (i := 3) sc_law_take_right.nd rfl (by first | exact Or.inl rfl | exact Or.inr rfl)) (pgs_cons (pg_name (i := 4) sc_law_take_right.nd rfl (by first | exact Or.inl rfl | exact Or.inr rfl)) (pgs_cons (pg_name (i := 5) sc_law_take_right.nd rfl (by first | exact Or.inl rfl | exact Or.inr rfl)) pgs_nil)))))
      (pss_cons (ps_if (pt_val (pv 1))
      (pss_cons (ps_set (i := 6) sc_law_take_right.nd rfl (by first | exact Or.inl rfl | exact Or.inr rfl) (pe_def DN_take_first (hr.mono (by omega)) (pa_cons (pv 0) pa_nil)))
      (pss_one (ps_set (i := 7) sc_law_take_right.nd rfl (by first | exact Or.inl rfl | exact Or.inr rfl) (pe_ix (ix_seqK (K := K) rfl) (pv 2) pe_int (fun _ _ => rfl)))))
      (pss_cons (ps_set (i := 6) sc_law_take_right.nd rfl (by first | exact Or.inl rfl | exact Or.inr rfl) (pe_def DN_take_last (hr.mono (by omega)) (pa_cons (pv 0) pa_nil)))
      (pss_one (ps_set (i := 7) sc_law_take_right.nd rfl (by first | exact Or.inl rfl | exact Or.inr rfl) (pe_ix (ix_seqK (K := K) rfl) (pv 2) (pe_un un_neg pe_int) (fun _ _ => rfl))))))
      (pss_cons (ps_if (PW.pt (pw_or (pt_not (pt_val (pe_callB call_isi rfl z_isinstance PyProof.Rows.boot_isinstance (pa_cons (pv 6) (pa_cons (pe_ty z_tuple PyProof.Rows.boot_tuple) pa_nil))))) (pw_or (pt_cmpR (op_neK (K := K) rfl hu) (pe_callB (call_lenK (K := K) rfl) rfl z_len PySem.boot_len (pa_cons (pv 6) pa_nil)) pe_int (nomark _)) (pw_or1 (pt_not (pt_val (pe_def D_law_same (hr.mono (by omega)) (pa_cons (pe_ix (ix_seqK (K := K) rfl) (pv 6) pe_int (fun _ _ => rfl)) (pa_cons (pv 7) pa_nil)))))))))
      (pss_one (ps_ret pe_bl))
      pss_nil)
      (pss_cons (ps_if (PW.pt (pw_or (pt_not (pt_val (pe_def D_law_is_double (hr.mono (by omega)) (pa_cons (pe_ix (ix_seqK (K := K) rfl) (pv 6) pe_int (fun _ _ => rfl)) (pa_cons (pv 3) (pa_cons (pv 4) pa_nil)))))) (pw_or1 (pt_not (pt_val (pe_def D_law_is_list (hr.mono (by omega)) (pa_cons (pe_ix (ix_seqK (K := K) rfl) (pv 6) pe_int (fun _ _ => rfl)) (pa_cons (pv 5) pa_nil))))))))
      (pss_one (ps_ret pe_bl))
      pss_nil)
      (pss_one (ps_ret (pe_and (pe_def D_law_paid (hr.mono (by omega)) (pa_cons (pv 0) (pa_cons (pe_ix (ix_seqK (K := K) rfl) (pv 6) pe_int (fun _ _ => rfl)) (pa_cons (pe_ix (ix_seqK (K := K) rfl) (pv 6) pe_int (fun _ _ => rfl)) pa_nil)))) (pe_one (pe_def D_law_altered (hr.mono (by omega)) (pa_cons (pe_ix (ix_seqK (K := K) rfl) (pv 6) pe_int (fun _ _ => rfl)) (pa_cons (pe_ix (ix_seqK (K := K) rfl) (pv 6) pe_int (fun _ _ => rfl)) pa_nil)))))))))))),
      fn_run (n := 2) (k := 6) (ms_seq (ms_asg (me_op J_add (me_cb J_listRev (ma_cons (me_op J_ix me_var me_int) ma_nil)) (me_op J_ix me_var me_int)))
      (ms_seq (ms_asgG (me_call (ma_cons me_var (ma_cons me_var ma_nil))) (mg_tupL (mgs_cons mg_name (mgs_cons mg_name (mgs_cons mg_name mgs_nil)))))
      (ms_ifs (ms_if (mt_tB me_var)
      (ms_assoc (ms_deadN (N := [7]) (i := 6) (ok := (okR m_law_altered (pIx some 1) (pIx some 2))) (by decide) (ma_cons me_var ma_nil)
      (mbg_seq (mk_asg (i := 7) (by decide) (me_op J_ix me_var me_int))
      (mbg_seq (mk_if (mt_or (mt_not (mt_tB (me_isi me_var))) (mt_or (mt_test (me_op J_ne (me_cb J_len (ma_cons me_var ma_nil)) me_int)) (mt_not (mt_tB (me_call (ma_cons (me_op J_ix me_var me_int) (ma_cons me_var ma_nil)))))))
      (mk_ret me_bl)
      mk_next)
      (mbg_seq (mk_if (mt_or (mt_not (mt_tB (me_call (ma_cons (me_op J_ix me_var me_int) (ma_cons me_var (ma_cons me_var ma_nil)))))) (mt_not (mt_tB (me_call (ma_cons (me_op J_ix me_var me_int) (ma_cons me_var ma_nil))))))
      (mk_ret me_bl)
      mk_next)
      (mbg_and (me_call (ma_cons me_var (ma_cons (me_op J_ix me_var me_int) (ma_cons (me_op J_ix me_var me_int) ma_nil)))) (mbg_exitP (mag_retC (mp_ix (j := 1) mp_var) (mp_ix (j := 2) mp_var) (by decide) (fun d h => okR_ex h)))))))))
      (ms_assoc (ms_deadN (N := [7]) (i := 6) (ok := (okR m_law_altered (pIx some 1) (pIx some 2))) (by decide) (ma_cons me_var ma_nil)
      (mbg_seq (mk_asg (i := 7) (by decide) (me_op J_ix me_var (me_un J_neg me_int)))
      (mbg_seq (mk_if (mt_or (mt_not (mt_tB (me_isi me_var))) (mt_or (mt_test (me_op J_ne (me_cb J_len (ma_cons me_var ma_nil)) me_int)) (mt_not (mt_tB (me_call (ma_cons (me_op J_ix me_var me_int) (ma_cons me_var ma_nil)))))))
      (mk_ret me_bl)
      mk_next)
      (mbg_seq (mk_if (mt_or (mt_not (mt_tB (me_call (ma_cons (me_op J_ix me_var me_int) (ma_cons me_var (ma_cons me_var ma_nil)))))) (mt_not (mt_tB (me_call (ma_cons (me_op J_ix me_var me_int) (ma_cons me_var ma_nil))))))
      (mk_ret me_bl)
      mk_next)
      (mbg_and (me_call (ma_cons me_var (ma_cons (me_op J_ix me_var me_int) (ma_cons (me_op J_ix me_var me_int) ma_nil)))) (mbg_exitP (mag_retC (mp_ix (j := 1) mp_var) (mp_ix (j := 2) mp_var) (by decide) (fun d h => okR_ex h))))))))))))) rfl h⟩
theorem ok_law {f : Addr} {fd : FuncData} (NL : noLists K = true) (Z : NoGl mg) (F : Fun K "law" "law" s_law f fd) (D_law_looked : Def P w K mg base CX0 12 "_law_looked" ["_law_double", "_law_left", "_law_right"] (spM m_law_looked)) (D_law_take_right : Def P w K mg base CX0 12 "_law_take_right" ["_law_double", "_law_first"] (spM m_law_take_right)) (D_law_put_right : Def P w K mg base CX0 12 "_law_put_right" ["_law_double", "_law_thing", "_law_first"] (spM m_law_put_right)) (D_law_thing_by : Def P w K mg base CX0 1 "_law_thing_by" ["_law_cell"] (spM m_law_thing_by)) (D_law_cell_at : Def P w K mg base CX0 1 "_law_cell_at" ["_law_script", "_law_k"] (spM m_law_cell_at)) (D_law_things_by : Def P w K mg base CX0 2 "_law_things_by" ["_law_script"] (spM m_law_things_by)) : FnOk P w K mg base CX0 13 f fd ["_law_script"] (spLaw K) := by
  have z_len : mg "len" = none := Z _ (by decide +kernel)
  refine FnOk.imp (sp := spM m_law) ?_ (law_sp NL law_true)
  refine F.ok sc_law (fun vs H Q E h => spM_len h) fun cdv A outer s H vs Q E hr h => ?_
  have hu := hr.units
  exact ⟨_, (pss_cons (ps_set (i := 1) sc_law.nd rfl (by first | exact Or.inl rfl | exact Or.inr rfl) (pe_def D_law_things_by (hr.mono (by omega)) (pa_cons (pv 0) pa_nil)))
      (pss_cons (ps_set (i := 2) sc_law.nd rfl (by first | exact Or.inl rfl | exact Or.inr rfl) (pe_def D_law_cell_at (hr.mono (by omega)) (pa_cons (pv 0) (pa_cons pe_int pa_nil))))
      (pss_cons (ps_set (i := 3) sc_law.nd rfl (by first | exact Or.inl rfl | exact Or.inr rfl) (pe_ix (ix_seqK (K := K) rfl) (pe_lst (pa_cons (pe_op op_mod (pe_op op_fdiv (pv 2) pe_int) (pe_op (op_addK (K := K) rfl) (pe_callB (call_lenK (K := K) rfl) rfl z_len PySem.boot_len (pa_cons (pv 1) pa_nil)) pe_int)) (pa_cons pe_int (pa_cons (pe_callB (call_lenK (K := K) rfl) rfl z_len PySem.boot_len (pa_cons (pv 1) pa_nil)) pa_nil)))) (pe_ix (ix_seqK (K := K) rfl) (pe_lst (pa_cons pe_int (pa_cons pe_int (pa_cons pe_int (pa_cons pe_int (pa_cons pe_int (pa_cons pe_int pa_nil))))))) (pe_op op_mod (pv 2) pe_int) (fun _ _ => rfl)) (fun _ _ => rfl)))
      (pss_cons (ps_set (i := 4) sc_law.nd rfl (by first | exact Or.inl rfl | exact Or.inr rfl) (pe_def D_law_thing_by (hr.mono (by omega)) (pa_cons (pe_def D_law_cell_at (hr.mono (by omega)) (pa_cons (pv 0) (pa_cons pe_int pa_nil))) pa_nil)))
      (pss_cons (ps_set (i := 5) sc_law.nd rfl (by first | exact Or.inl rfl | exact Or.inr rfl) (pe_tup (pa_cons (pe_slice (sl_listK (K := K) rfl) (pv 1) po_none (po_some (pv 3))) (pa_cons (pe_slice (sl_listK (K := K) rfl) (pv 1) (po_some (pv 3)) po_none) pa_nil))))
      (pss_cons (ps_for PassesOwn.never rfl (pi_listK (K := K) rfl (pe_lst (pa_cons pe_bl (pa_cons pe_bl (pa_cons pe_bl (pa_cons pe_bl pa_nil)))))) (pg_name (i := 6) sc_law.nd rfl (by first | exact Or.inl rfl | exact Or.inr rfl))
      (pss_cons (ps_if (PW.pt (pw_or (pt_not (pt_val (pe_def D_law_looked (hr.mono (by omega)) (pa_cons (pv 5) (pa_cons (pe_slice (sl_listK (K := K) rfl) (pv 1) po_none (po_some (pv 3))) (pa_cons (pe_slice (sl_listK (K := K) rfl) (pv 1) (po_some (pv 3)) po_none) pa_nil)))))) (pw_or1 (pt_not (pt_val (pe_def D_law_put_right (hr.mono (by omega)) (pa_cons (pv 5) (pa_cons (pv 4) (pa_cons (pv 6) pa_nil)))))))))
      (pss_one (ps_ret pe_bl))
      pss_nil)
      (pss_one (ps_if (PW.pt (pw_and (pt_cmpR (op_neK (K := K) rfl hu) (pv 1) (pe_lst pa_nil) (nomark _)) (pw_and1 (pt_not (pt_val (pe_def D_law_take_right (hr.mono (by omega)) (pa_cons (pv 5) (pa_cons (pv 6) pa_nil))))))))
      (pss_one (ps_ret pe_bl))
      pss_nil))))
      (pss_one (ps_ret (pe_def D_law_looked (hr.mono (by omega)) (pa_cons (pv 5) (pa_cons (pe_slice (sl_listK (K := K) rfl) (pv 1) po_none (po_some (pv 3))) (pa_cons (pe_slice (sl_listK (K := K) rfl) (pv 1) (po_some (pv 3)) po_none) pa_nil)))))))))))),
      fn_run (n := 1) (k := 6) (ms_seq (ms_asg (me_call (ma_cons me_var ma_nil)))
      (ms_seq (ms_asg (me_call (ma_cons me_var (ma_cons me_int ma_nil))))
      (ms_seq (ms_asg (me_op J_ix (me_lst (ma_cons (me_op J_I (me_op J_I me_var me_int) (me_op J_add (me_cb J_len (ma_cons me_var ma_nil)) me_int)) (ma_cons me_int (ma_cons (me_cb J_len (ma_cons me_var ma_nil)) ma_nil)))) (me_op J_ix (me_lst (ma_cons me_int (ma_cons me_int (ma_cons me_int (ma_cons me_int (ma_cons me_int (ma_cons me_int ma_nil))))))) (me_op J_I me_var me_int))))
      (ms_seq (ms_asg (me_call (ma_cons (me_call (ma_cons me_var (ma_cons me_int ma_nil))) ma_nil)))
      (ms_seq (ms_asg (me_tup (ma_cons (me_sl J_sl me_var mo_none (mo_some me_var)) (ma_cons (me_sl J_sl me_var (mo_some me_var) mo_none) ma_nil))))
      (ms_seq (ms_for (mf_list (me_lst (ma_cons me_bl (ma_cons me_bl (ma_cons me_bl (ma_cons me_bl ma_nil)))))) mg_name
      (ms_seq (ms_if (mt_or (mt_not (mt_tB (me_call (ma_cons me_var (ma_cons (me_sl J_sl me_var mo_none (mo_some me_var)) (ma_cons (me_sl J_sl me_var (mo_some me_var) mo_none) ma_nil)))))) (mt_not (mt_tB (me_call (ma_cons me_var (ma_cons me_var (ma_cons me_var ma_nil)))))))
      (ms_ret me_bl)
      ms_next)
      (ms_if (mt_and (mt_test (me_op J_ne me_var (me_lst ma_nil))) (mt_not (mt_tB (me_call (ma_cons me_var (ma_cons me_var ma_nil))))))
      (ms_ret me_bl)
      ms_next)))
      (ms_ret (me_call (ma_cons me_var (ma_cons (me_sl J_sl me_var mo_none (mo_some me_var)) (ma_cons (me_sl J_sl me_var (mo_some me_var) mo_none) ma_nil))))))))))) rfl h⟩
end
end K32
open PySem PySem.W PyProof.Rows
set_option maxRecDepth 100000 in
set_option maxHeartbeats 0 in
theorem PySem.Challenge.cw_creditworks_k32_double_deeds_holds : PySem.Challenge.rw_creditworks_k32_double_deeds.Holds := by
  w_on; o_law; k_head; (case hw => w_witness2)
  k_fill
  refine L2.walk_law (l := PySem.Challenge.rw_creditworks_k32_double_deeds) (k := 13) (x := "_law_script") (st := K32.s_law) rfl rfl ⟨rfl, by decide, by decide⟩ (fun w h Y => PySem.W.kIn_of Y) (fun _ _ _ _ _ _ _ => rfl) ?F
  case F =>
    intro w mg h KX G
    have T_law_cell_at : L2.Top (L2.KOf KX) mg "_law_cell_at" K32.s_law_cell_at := by
      dsimp only [L2.KOf]
      refine' L2.Top.mk' KX G ?a ?l ?c ?k
      (case a => k_is); (case l => k_is); (case c => k_is); (case k => k_is)
    have T_law_thing_by : L2.Top (L2.KOf KX) mg "_law_thing_by" K32.s_law_thing_by := by
      dsimp only [L2.KOf]
      refine' L2.Top.mk' KX G ?a ?l ?c ?k
      (case a => k_is); (case l => k_is); (case c => k_is); (case k => k_is)
    have T_law_things_by : L2.Top (L2.KOf KX) mg "_law_things_by" K32.s_law_things_by := by
      dsimp only [L2.KOf]
      refine' L2.Top.mk' KX G ?a ?l ?c ?k
      (case a => k_is); (case l => k_is); (case c => k_is); (case k => k_is)
    have T_double_row : L2.Top (L2.KOf KX) mg "double_row" K32.s_double_row := by
      dsimp only [L2.KOf]
      refine' L2.Top.mk' KX G ?a ?l ?c ?k
      (case a => k_is); (case l => k_is); (case c => k_is); (case k => k_is)
    have T_law_same : L2.Top (L2.KOf KX) mg "_law_same" K32.s_law_same := by
      dsimp only [L2.KOf]
      refine' L2.Top.mk' KX G ?a ?l ?c ?k
      (case a => k_is); (case l => k_is); (case c => k_is); (case k => k_is)
    have T_law_is_list : L2.Top (L2.KOf KX) mg "_law_is_list" K32.s_law_is_list := by
      dsimp only [L2.KOf]
      refine' L2.Top.mk' KX G ?a ?l ?c ?k
      (case a => k_is); (case l => k_is); (case c => k_is); (case k => k_is)
    have T_law_is_double : L2.Top (L2.KOf KX) mg "_law_is_double" K32.s_law_is_double := by
      dsimp only [L2.KOf]
      refine' L2.Top.mk' KX G ?a ?l ?c ?k
      (case a => k_is); (case l => k_is); (case c => k_is); (case k => k_is)
    have T_law_looked : L2.Top (L2.KOf KX) mg "_law_looked" K32.s_law_looked := by
      dsimp only [L2.KOf]
      refine' L2.Top.mk' KX G ?a ?l ?c ?k
      (case a => k_is); (case l => k_is); (case c => k_is); (case k => k_is)
    have T_law_altered : L2.Top (L2.KOf KX) mg "_law_altered" K32.s_law_altered := by
      dsimp only [L2.KOf]
      refine' L2.Top.mk' KX G ?a ?l ?c ?k
      (case a => k_is); (case l => k_is); (case c => k_is); (case k => k_is)
    have T_put_first : L2.Top (L2.KOf KX) mg "put_first" K32.s_put_first := by
      dsimp only [L2.KOf]
      refine' L2.Top.mk' KX G ?a ?l ?c ?k
      (case a => k_is); (case l => k_is); (case c => k_is); (case k => k_is)
    have T_put_last : L2.Top (L2.KOf KX) mg "put_last" K32.s_put_last := by
      dsimp only [L2.KOf]
      refine' L2.Top.mk' KX G ?a ?l ?c ?k
      (case a => k_is); (case l => k_is); (case c => k_is); (case k => k_is)
    have T_double_credit : L2.Top (L2.KOf KX) mg "double_credit" K32.s_double_credit := by
      dsimp only [L2.KOf]
      refine' L2.Top.mk' KX G ?a ?l ?c ?k
      (case a => k_is); (case l => k_is); (case c => k_is); (case k => k_is)
    have T_law_whole : L2.Top (L2.KOf KX) mg "_law_whole" K32.s_law_whole := by
      dsimp only [L2.KOf]
      refine' L2.Top.mk' KX G ?a ?l ?c ?k
      (case a => k_is); (case l => k_is); (case c => k_is); (case k => k_is)
    have T_law_paid : L2.Top (L2.KOf KX) mg "_law_paid" K32.s_law_paid := by
      dsimp only [L2.KOf]
      refine' L2.Top.mk' KX G ?a ?l ?c ?k
      (case a => k_is); (case l => k_is); (case c => k_is); (case k => k_is)
    have T_law_put_right : L2.Top (L2.KOf KX) mg "_law_put_right" K32.s_law_put_right := by
      dsimp only [L2.KOf]
      refine' L2.Top.mk' KX G ?a ?l ?c ?k
      (case a => k_is); (case l => k_is); (case c => k_is); (case k => k_is)
    have T_law_due : L2.Top (L2.KOf KX) mg "_law_due" K32.s_law_due := by
      dsimp only [L2.KOf]
      refine' L2.Top.mk' KX G ?a ?l ?c ?k
      (case a => k_is); (case l => k_is); (case c => k_is); (case k => k_is)
    have T_take_near : L2.Top (L2.KOf KX) mg "take_near" K32.s_take_near := by
      dsimp only [L2.KOf]
      refine' L2.Top.mk' KX G ?a ?l ?c ?k
      (case a => k_is); (case l => k_is); (case c => k_is); (case k => k_is)
    have T_take_first : L2.Top (L2.KOf KX) mg "take_first" K32.s_take_first := by
      dsimp only [L2.KOf]
      refine' L2.Top.mk' KX G ?a ?l ?c ?k
      (case a => k_is); (case l => k_is); (case c => k_is); (case k => k_is)
    have T_take_last : L2.Top (L2.KOf KX) mg "take_last" K32.s_take_last := by
      dsimp only [L2.KOf]
      refine' L2.Top.mk' KX G ?a ?l ?c ?k
      (case a => k_is); (case l => k_is); (case c => k_is); (case k => k_is)
    have T_law_take_right : L2.Top (L2.KOf KX) mg "_law_take_right" K32.s_law_take_right := by
      dsimp only [L2.KOf]
      refine' L2.Top.mk' KX G ?a ?l ?c ?k
      (case a => k_is); (case l => k_is); (case c => k_is); (case k => k_is)
    have T_law : L2.Top (L2.KOf KX) mg "law" K32.s_law := by
      dsimp only [L2.KOf]
      refine' L2.Top.mk' KX G ?a ?l ?c ?k
      (case a => k_is); (case l => k_is); (case c => k_is); (case k => k_is)
    have z_abs : mg "abs" = none := by
      refine' PySem.W.mg_none_of KX G ?z
      (case z => k_is)
    have z_all : mg "all" = none := by
      refine' PySem.W.mg_none_of KX G ?z
      (case z => k_is)
    have z_bool : mg "bool" = none := by
      refine' PySem.W.mg_none_of KX G ?z
      (case z => k_is)
    have z_int : mg "int" = none := by
      refine' PySem.W.mg_none_of KX G ?z
      (case z => k_is)
    have z_isinstance : mg "isinstance" = none := by
      refine' PySem.W.mg_none_of KX G ?z
      (case z => k_is)
    have z_len : mg "len" = none := by
      refine' PySem.W.mg_none_of KX G ?z
      (case z => k_is)
    have z_list : mg "list" = none := by
      refine' PySem.W.mg_none_of KX G ?z
      (case z => k_is)
    have z_range : mg "range" = none := by
      refine' PySem.W.mg_none_of KX G ?z
      (case z => k_is)
    have z_reversed : mg "reversed" = none := by
      refine' PySem.W.mg_none_of KX G ?z
      (case z => k_is)
    have z_tuple : mg "tuple" = none := by
      refine' PySem.W.mg_none_of KX G ?z
      (case z => k_is)
    have z_zip : mg "zip" = none := by
      refine' PySem.W.mg_none_of KX G ?z
      (case z => k_is)
    have Z : K32.NoGl mg := by
      intro x hx
      simp only [List.mem_cons, List.not_mem_nil, or_false] at hx
      rcases hx with rfl | rfl | rfl | rfl | rfl | rfl | rfl | rfl | rfl | rfl | rfl <;> assumption
    have NL : Mir.noLists (L2.KOf KX) = true := by
      dsimp only [L2.KOf]
      first | rfl | kernel_rfl | k_is
    refine ⟨T_law, fun f fd Ff base kb gb => ?_⟩
    have D_law_cell_at := K32.ok_law_cell_at (P := PySem.Challenge.rw_creditworks_k32_double_deeds.prog) (w := w) (base := base) Z T_law_cell_at
    have D_law_thing_by := K32.ok_law_thing_by (P := PySem.Challenge.rw_creditworks_k32_double_deeds.prog) (w := w) (base := base) Z T_law_thing_by
    have D_law_things_by := K32.ok_law_things_by (P := PySem.Challenge.rw_creditworks_k32_double_deeds.prog) (w := w) (base := base) Z T_law_things_by D_law_thing_by D_law_cell_at
    have D_double_row := K32.ok_double_row (P := PySem.Challenge.rw_creditworks_k32_double_deeds.prog) (w := w) (base := base) Z T_double_row
    have D_law_same := K32.ok_law_same (P := PySem.Challenge.rw_creditworks_k32_double_deeds.prog) (w := w) (base := base) Z T_law_same  8
    have D_law_is_list := K32.ok_law_is_list (P := PySem.Challenge.rw_creditworks_k32_double_deeds.prog) (w := w) (base := base) Z T_law_is_list D_law_same
    have D_law_is_double := K32.ok_law_is_double (P := PySem.Challenge.rw_creditworks_k32_double_deeds.prog) (w := w) (base := base) Z T_law_is_double D_law_is_list
    have D_law_looked := K32.ok_law_looked (P := PySem.Challenge.rw_creditworks_k32_double_deeds.prog) (w := w) (base := base) Z T_law_looked D_law_is_double D_law_is_list D_double_row
    have D_law_altered := K32.ok_law_altered (P := PySem.Challenge.rw_creditworks_k32_double_deeds.prog) (w := w) (base := base) Z T_law_altered
    have DN_put_first := K32.ok_put_first (P := PySem.Challenge.rw_creditworks_k32_double_deeds.prog) (w := w) (base := base) Z T_put_first
    have D_put_first := DN_put_first.imp (fun _ _ _ _ h => Mir.spN_of h)
    have DN_put_last := K32.ok_put_last (P := PySem.Challenge.rw_creditworks_k32_double_deeds.prog) (w := w) (base := base) Z T_put_last
    have D_put_last := DN_put_last.imp (fun _ _ _ _ h => Mir.spN_of h)
    have D_double_credit := K32.ok_double_credit (P := PySem.Challenge.rw_creditworks_k32_double_deeds.prog) (w := w) (base := base) Z T_double_credit
    have D_law_whole := K32.ok_law_whole (P := PySem.Challenge.rw_creditworks_k32_double_deeds.prog) (w := w) (base := base) Z T_law_whole
    have D_law_paid := K32.ok_law_paid (P := PySem.Challenge.rw_creditworks_k32_double_deeds.prog) (w := w) (base := base) Z T_law_paid D_law_whole D_double_credit
    have D_law_put_right := K32.ok_law_put_right (P := PySem.Challenge.rw_creditworks_k32_double_deeds.prog) (w := w) (base := base) Z T_law_put_right D_law_altered D_law_is_list D_law_paid D_law_is_double DN_put_first DN_put_last
    have D_law_due := K32.ok_law_due (P := PySem.Challenge.rw_creditworks_k32_double_deeds.prog) (w := w) (base := base) Z T_law_due
    have DN_take_near := K32.ok_take_near (P := PySem.Challenge.rw_creditworks_k32_double_deeds.prog) (w := w) (base := base) Z T_take_near
    have D_take_near := DN_take_near.imp (fun _ _ _ _ h => Mir.spN_of h)
    have DN_take_first := K32.ok_take_first (P := PySem.Challenge.rw_creditworks_k32_double_deeds.prog) (w := w) (base := base) Z T_take_first DN_take_near
    have D_take_first := DN_take_first.imp (fun _ _ _ _ h => Mir.spN_of h)
    have DN_take_last := K32.ok_take_last (P := PySem.Challenge.rw_creditworks_k32_double_deeds.prog) (w := w) (base := base) Z T_take_last DN_take_near
    have D_take_last := DN_take_last.imp (fun _ _ _ _ h => Mir.spN_of h)
    have D_law_take_right := K32.ok_law_take_right (P := PySem.Challenge.rw_creditworks_k32_double_deeds.prog) (w := w) (base := base) Z T_law_take_right D_law_altered D_law_same D_law_is_list D_law_is_double D_law_paid D_law_due DN_take_first DN_take_last
    exact K32.ok_law NL Z Ff D_law_looked D_law_take_right D_law_put_right D_law_thing_by D_law_cell_at D_law_things_by

