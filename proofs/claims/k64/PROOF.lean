import PyProof.Rows.All
import Wide.All
import OpenK.AllK
import Wide.FinOn
import Lean
import PyProof.EqAt
import PyProof.EqKinds
import PyProof.TupleCall
import KE.KTryMore
import PySem.Builtin.Int.Common
import PySem.Challenge.RW_creditworks_k64_cut_and_tied

set_option Elab.async false
set_option linter.all false
set_option maxRecDepth 100000
namespace L2
open PySem PySem.Spec PyProof.Rows
abbrev Key := Sum Int Str
def keyIs : Key → Value → Bool
  | .inl k, v => Value.isInt k v
  | .inr x, v => Value.isStrOf x v
def keyH (w : World) : Key → Int
  | .inl k => hashInt k
  | .inr x => hashStr w x
theorem keyIs_shape : ∀ {k : Key} {v : Value}, keyIs k v = true → (∃ i t, k = Sum.inl i ∧ v = Value.int i t) ∨ (∃ x t, k = Sum.inr x ∧ v = Value.str x t)
  | .inl i, v, h => by
    obtain ⟨t, e⟩ := Value.isInt_shape (k := i) (v := v) h
    exact .inl ⟨i, t, rfl, e⟩
  | .inr x, v, h => by
    obtain ⟨t, e⟩ := Value.isStrOf_shape (x := x) (v := v) h
    exact .inr ⟨x, t, rfl, e⟩
theorem key_ll (a b : Int) : decide ((Sum.inl a : Key) = Sum.inl b) = (a == b) := by
  by_cases e : a = b
  · subst e; simp
  · have h : ¬ (Sum.inl a : Key) = Sum.inl b := fun q => e (Sum.inl.inj q)
    rw [decide_eq_false h]
    exact (beq_eq_false_iff_ne.mpr e).symm
theorem key_rr (a b : Str) : decide ((Sum.inr a : Key) = Sum.inr b) = decide (a = b) := by
  by_cases e : a = b
  · subst e; simp
  · have h : ¬ (Sum.inr a : Key) = Sum.inr b := fun q => e (Sum.inr.inj q)
    rw [decide_eq_false h, decide_eq_false e]
theorem key_lr (a : Int) (b : Str) : decide ((Sum.inl a : Key) = Sum.inr b) = false := decide_eq_false (fun q => nomatch q)
theorem key_rl (a : Str) (b : Int) : decide ((Sum.inr a : Key) = Sum.inl b) = false := decide_eq_false (fun q => nomatch q)
def mixKind (prog : Program) (w : World) : PySem.KeyKind prog w Key where
  is := keyIs
  hash := keyH w
  inj := fun v a b ha hb => by
    rcases keyIs_shape ha with ⟨i, t, rfl, rfl⟩ | ⟨x, t, rfl, rfl⟩
    · rcases keyIs_shape hb with ⟨j, u, rfl, e⟩ | ⟨y, u, rfl, e⟩
      · injection e with e1 _; rw [e1]
      · exact nomatch e
    · rcases keyIs_shape hb with ⟨j, u, rfl, e⟩ | ⟨y, u, rfl, e⟩
      · exact nomatch e
      · injection e with e1 _; rw [e1]
  byValue := fun k v h => by
    rcases keyIs_shape h with ⟨i, t, rfl, rfl⟩ | ⟨x, t, rfl, rfl⟩ <;> rfl
  pyHash := fun hv h => by
    rcases keyIs_shape hv with ⟨i, t, rfl, rfl⟩ | ⟨x, t, rfl, rfl⟩
    · exact wpAny_pyHash_int h
    · exact wpAny_pyHash_str h
  eqBool := fun hu hv h => by
    rcases keyIs_shape hu with ⟨i, t, rfl, rfl⟩ | ⟨x, t, rfl, rfl⟩
    · rcases keyIs_shape hv with ⟨j, u, rfl, rfl⟩ | ⟨y, u, rfl, rfl⟩
      · rw [key_ll] at h; exact wpAny_eqBool_int h
      · rw [key_lr] at h; exact SeqAt.EqAt.int_str i t y u _ _ _ _ h
    · rcases keyIs_shape hv with ⟨j, u, rfl, rfl⟩ | ⟨y, u, rfl, rfl⟩
      · rw [key_rl] at h; exact SeqAt.EqAt.str_int x t j u _ _ _ _ h
      · rw [key_rr] at h; exact wpAny_eqBool_str h
  «strs» := fun k x t v h => by
    rcases keyIs_shape h with ⟨i, u, rfl, e⟩ | ⟨y, u, rfl, e⟩
    · exact nomatch e
    · injection e with e1 _
      subst e1
      cases v <;> rfl
end L2
namespace L2
open PySem PySem.Spec PyProof.Rows
inductive V where
  | non | bl (b : Bool) | int (i : Int) | str (x : Str) | byt (b : Array UInt8) | flt (b : UInt64) | ref (a : Addr) | ty (n : String)
  deriving DecidableEq
def RelV : V → Value → Prop
  | .non, u => u = Value.none
  | .bl b, u => u = Value.bool b
  | .int i, u => ∃ t, u = Value.int i t
  | .str x, u => ∃ t, u = Value.str x t
  | .byt b, u => ∃ t, u = Value.bytes b t
  | .flt b, u => ∃ t, u = Value.float b t
  | .ref a, u => u = Value.ref a
  | .ty n, u => u = Value.type n
abbrev Vals : List V → List Value → Prop := Paired RelV
theorem Vals.length {xs : List V} {us : List Value} (r : Vals xs us) : xs.length = us.length := Paired.length r
theorem Vals.get : ∀ {xs : List V} {us : List Value} {i : Nat} {x : V}, Vals xs us → xs[i]? = some x → ∃ u, us[i]? = some u ∧ RelV x u
  | _, _, _, _, .nil, e => by simp at e
  | _, _, 0, _, .cons r _, e => by simp at e; subst e; exact ⟨_, rfl, r⟩
  | _, _, i + 1, x, .cons _ t, e => by
    obtain ⟨u, h1, h2⟩ := Vals.get (i := i) (x := x) t (by simpa using e)
    exact ⟨u, by simpa using h1, h2⟩
theorem Vals.set {x : V} {u : Value} (r : RelV x u) : ∀ {xs : List V} {us : List Value} (i : Nat), Vals xs us → Vals (xs.set i x) (us.set i u)
  | _, _, _, .nil => .nil
  | _, _, 0, .cons _ t => .cons r t
  | _, _, i + 1, .cons q t => .cons q (Vals.set r i t)
theorem Vals.append : ∀ {xs ys : List V} {us ws : List Value}, Vals xs us → Vals ys ws → Vals (xs ++ ys) (us ++ ws)
  | _, _, _, _, .nil, s => s
  | _, _, _, _, .cons r t, s => .cons r (Vals.append t s)
theorem Vals.take : ∀ {xs : List V} {us : List Value} (n : Nat), Vals xs us → Vals (xs.take n) (us.take n)
  | _, _, 0, _ => .nil
  | _, _, _ + 1, .nil => .nil
  | _, _, n + 1, .cons r t => .cons r (Vals.take n t)
theorem Vals.drop : ∀ {xs : List V} {us : List Value} (n : Nat), Vals xs us → Vals (xs.drop n) (us.drop n)
  | _, _, 0, r => r
  | _, _, _ + 1, .nil => .nil
  | _, _, n + 1, .cons _ t => Vals.drop n t
theorem Vals.none_of : ∀ {xs : List V} {us : List Value} {i : Nat}, Vals xs us → xs[i]? = none → us[i]? = none := fun {xs us i} r e => by
  have h1 := r.length
  have h2 : xs.length ≤ i := List.getElem?_eq_none_iff.mp e
  exact List.getElem?_eq_none_iff.mpr (by omega)
def RelO : Option V → Option Value → Prop
  | some v, some u => RelV v u
  | none, none => True
  | _, _ => False
def KV {κ : Type} : List (κ × V) → List (κ × Value) → Prop := Paired fun (p : κ × V) (q : κ × Value) => p.1 = q.1 ∧ RelV p.2 q.2
def kV : Key → V
  | .inl i => .int i
  | .inr x => .str x
inductive HO where
  | lst (xs : List V)
  | tup (xs : List V)
  | dK (kvs : List (Key × V)) | dT (kvs : List (List Key × V))
  | set (S : Int → Bool) (n : Nat)
  | ins (C dx : Addr) (fs : List (Str × V))
  | own (x : Addr)
  | xd (fs : List (Str × V))
  | met (f x : Addr)
  | rng (lo hi : Int)
  | frz (o : Obj) (u : HO)
  | tbl (ps : Array Value)
  | ext (φ : Heap → Prop)
abbrev Hp := Addr → Option HO
def upd (H : Hp) (a : Addr) (o : HO) : Hp := fun b => if b = a then some o else H b
theorem upd_same {H : Hp} {a : Addr} {o : HO} : upd H a o a = some o := by unfold upd; rw [if_pos rfl]
theorem upd_ne {H : Hp} {a b : Addr} {o : HO} (h : b ≠ a) : upd H a o b = H b := by unfold upd; rw [if_neg h]
theorem ne_of_none {H : Hp} {a b : Addr} {o : HO} (h : H a = some o) (h' : H b = none) : a ≠ b := by
  intro e; subst e; rw [h] at h'; cases h'
section
variable (P : Program) (w : World)
def ObjOk (H : Hp) (h : Heap) (a : Addr) : HO → Prop
  | .lst xs => xs.length ≤ sizeLine ∧ ∃ (its : List Value) (n : Nat), Vals xs its ∧ h.get? a = some { cls := .type "list", data := .seq its.toArray n }
  | .tup xs => xs.length ≤ sizeLine ∧ ∃ its : List Value, Vals xs its ∧ IsTup h a its.toArray
  | .dK kvs => kvs.length ≤ sizeLine ∧ (a == sysModules) = false ∧ ∃ vs, KV kvs vs ∧ h.DictOf (mixKind P w) a vs
  | .dT kvs => kvs.length ≤ sizeLine ∧ (a == sysModules) = false ∧ ∃ xs : List (List Key × Addr × Value),
      Paired (fun (p : List Key × V) (q : List Key × Addr × Value) => p.1 = q.1 ∧ H q.2.1 = some (.tup (p.1.map kV)) ∧ RelV p.2 q.2.2) kvs xs ∧
      ∃ o es ep, h.get? a = some o ∧ o.ExactDict ∧ o.data = .dict es ep ∧ es.toList = xs.map (entryOfKey (tupleKind (mixKind P w))) ∧ (xs.map (·.1)).Nodup
  | .set S n => h.SetOf (intKind P w) a S n
  | .ins C dx fs => H dx = some (.own a) ∧ fs.length ≤ 1000 ∧ dx ≠ a ∧ h.get? a = some (PySem.W.instObj C dx) ∧
      ∃ mA, h.Ns1 dx mA ∧ (∀ f, RelO (fs.lookup f) (mA f)) ∧ PySem.Within mA (fs.map (·.1))
  | .own _ => ∃ o, h.get? a = some o
  | .xd fs => ∃ mA, h.Ns1 a mA ∧ ∀ f, RelO (fs.lookup f) (mA f)
  | .rng lo hi => ∃ t u v, h.get? a = some { cls := .type "range", data := .fields #[.int lo t, .int hi u, .int 1 v] }
  | .frz o u => h.get? a = some o ∧ ObjOk H h a u
  | .tbl ps => h.get? a = some { cls := .none, data := .fields ps }
  | .met f x => h.get? a = some (PySem.W.methodObj (.ref f) (.ref x))
  | .ext φ => φ h ∧ (∃ o, h.get? a = some o) ∧ ∀ h1 h2 : Heap, φ h1 → (∀ o, h1.get? a = some o → h2.get? a = some o) → φ h2
def HOk (H : Hp) (h : Heap) : Prop := ∀ a o, H a = some o → ObjOk P w H h a o
end
section
variable {P : Program} {w : World} {H H' : Hp} {h h' : Heap} {a : Addr} {o : HO}
theorem ObjOk.lt (x : ObjOk P w H h a o) : a < h.objs.size := by
  cases o with
  | lst xs => obtain ⟨_, _, _, _, e⟩ := x; exact Heap.lt_size e
  | tup xs => obtain ⟨_, _, _, p⟩ := x; exact p.lt
  | dK kvs => obtain ⟨_, _, _, _, o, _, _, e, _⟩ := x; exact Heap.lt_size e
  | dT kvs => obtain ⟨_, _, _, _, o, _, _, e, _⟩ := x; exact Heap.lt_size e
  | set S n => obtain ⟨o, _, _, _, e, _⟩ := x; exact Heap.lt_size e
  | ins C dx fs => obtain ⟨_, _, _, e, _⟩ := x; exact Heap.lt_size e
  | own y => obtain ⟨_, e⟩ := x; exact Heap.lt_size e
  | xd fs => obtain ⟨_, ⟨_, _, _, e, _⟩, _⟩ := x; exact Heap.lt_size e
  | rng lo hi => obtain ⟨_, _, _, e⟩ := x; exact Heap.lt_size e
  | frz ob u => obtain ⟨e, _⟩ := x; exact Heap.lt_size e
  | tbl ps => exact Heap.lt_size (show h.get? a = some _ from x)
  | met f y => exact Heap.lt_size (show h.get? a = some _ from x)
  | ext φ => obtain ⟨_, ⟨_, e⟩, _⟩ := x; exact Heap.lt_size e
theorem Paired.mapP {α β : Type} {F G : α → β → Prop} : ∀ {l₁ : List α} {l₂ : List β}, Paired F l₁ l₂ → (∀ a b, F a b → G a b) → Paired G l₁ l₂
  | _, _, .nil, _ => .nil
  | _, _, .cons r t, f => .cons (f _ _ r) (Paired.mapP t f)
theorem ObjOk.stay (x : ObjOk P w H h a o) (k : ∀ b u, (b = a ∨ H b = some (.own a)) → h.get? b = some u → h'.get? b = some u)
    (ho : ∀ b, H b = some (.own a) → H' b = some (.own a)) (ht : ∀ b xs, H b = some (.tup xs) → H' b = some (.tup xs)) : ObjOk P w H' h' a o := by
  induction o with
  | lst xs => obtain ⟨z, its, n, r, e⟩ := x; exact ⟨z, its, n, r, k _ _ (.inl rfl) e⟩
  | tup xs => obtain ⟨z, its, r, ob, e, c⟩ := x; exact ⟨z, its, r, ob, k _ _ (.inl rfl) e, c⟩
  | dK kvs => obtain ⟨z, y, vs, r, ob, es, ep, e, c⟩ := x; exact ⟨z, y, vs, r, ob, es, ep, k _ _ (.inl rfl) e, c⟩
  | dT kvs =>
    obtain ⟨z, y, xs, r, ob, es, ep, e, c⟩ := x
    exact ⟨z, y, xs, Paired.mapP r fun p q z => ⟨z.1, ht _ _ z.2.1, z.2.2⟩, ob, es, ep, k _ _ (.inl rfl) e, c⟩
  | set S n => obtain ⟨ob, es, ep, t, e, c⟩ := x; exact ⟨ob, es, ep, t, k _ _ (.inl rfl) e, c⟩
  | ins C dx fs =>
    obtain ⟨d, z, ne, e, mA, ⟨od, es, ep, e2, c⟩, r⟩ := x
    exact ⟨ho _ d, z, ne, k _ _ (.inl rfl) e, mA, ⟨od, es, ep, k _ _ (.inr d) e2, c⟩, r⟩
  | own y => obtain ⟨ob, e⟩ := x; exact ⟨ob, k _ _ (.inl rfl) e⟩
  | xd fs => obtain ⟨mA, ⟨od, es, ep, e, c⟩, r⟩ := x; exact ⟨mA, ⟨od, es, ep, k _ _ (.inl rfl) e, c⟩, r⟩
  | rng lo hi => obtain ⟨t, u, v, e⟩ := x; exact ⟨t, u, v, k _ _ (.inl rfl) e⟩
  | frz ob u ih => obtain ⟨e, q⟩ := x; exact ⟨k _ _ (.inl rfl) e, ih q⟩
  | tbl ps =>
    have e : h.get? a = some { cls := .none, data := .fields ps } := x
    show h'.get? a = some { cls := .none, data := .fields ps }
    exact k a _ (.inl rfl) e
  | met f y =>
    have e : h.get? a = some (PySem.W.methodObj (.ref f) (.ref y)) := x
    show h'.get? a = some (PySem.W.methodObj (.ref f) (.ref y))
    exact k a _ (.inl rfl) e
  | ext φ => obtain ⟨p, ⟨o, e⟩, st⟩ := x; exact ⟨st _ _ p fun o q => k _ _ (.inl rfl) q, ⟨o, k _ _ (.inl rfl) e⟩, st⟩
theorem HOk.lt (x : HOk P w H h) (e : H a = some o) : a < h.objs.size := (x a o e).lt
theorem HOk.fresh (x : HOk P w H h) (e : h.objs.size ≤ a) : H a = none := by
  cases q : H a with
  | none => rfl
  | some u => exact absurd (Nat.lt_of_lt_of_le (x.lt q) e) (Nat.lt_irrefl _)
theorem HOk.kept (x : HOk P w H h) (k : ∀ b u, h.get? b = some u → h'.get? b = some u) : HOk P w H h' := fun a o e =>
  (x a o e).stay (fun b u _ q => k b u q) (fun _ q => q) fun _ _ q => q
theorem HOk.laid (x : HOk P w H h) (k : ∀ b u, h.get? b = some u → h'.get? b = some u) (hp : h.objs.size ≤ a) (new : ObjOk P w (upd H a o) h' a o) : HOk P w (upd H a o) h' := fun b u e => by
  have hn := x.fresh hp
  by_cases hb : b = a
  · subst hb; rw [upd_same] at e; cases e; exact new
  · rw [upd_ne hb] at e
    exact (x b u e).stay (fun c v _ q => k c v q) (fun c q => by rw [upd_ne (ne_of_none q hn)]; exact q) fun c xs q => by rw [upd_ne (ne_of_none q hn)]; exact q
end
def Rd (H : Hp) (a : Addr) (u : HO) : Prop := H a = some u ∨ ∃ o, H a = some (.frz o u)
theorem Rd.of {H : Hp} {a : Addr} {u : HO} (h : H a = some u) : Rd H a u := .inl h
theorem Rd.ok {P : Program} {w : World} {H : Hp} {h : Heap} {a : Addr} {u : HO} (r : Rd H a u) (x : HOk P w H h) : ObjOk P w H h a u := by
  rcases r with r | ⟨o, r⟩
  · exact x a u r
  · obtain ⟨_, q⟩ := x a _ r
    exact q
def Mut : Option HO → Prop
  | some (.lst _) => True
  | some (.dK _) => True
  | some (.dT _) => True
  | some (.set _ _) => True
  | some (.ins _ _ _) => True
  | some (.ext _) => True
  | _ => False
section
variable {P : Program} {w : World} {H : Hp} {h h' : Heap} {x e : Addr} {o' : HO}
theorem HOk.write (ok : HOk P w H h) (mu : Mut (H x)) (he : e = x ∨ H e = some (.own x)) (k : ∀ b u, b ≠ e → h.get? b = some u → h'.get? b = some u) (heo : ∃ u, h'.get? e = some u)
    (new : ObjOk P w (upd H x o') h' x o') : HOk P w (upd H x o') h' := fun b u q => by
  have nown : ∀ c y, H c = some (.own y) → c ≠ x := fun c y r z => by subst z; rw [r] at mu; exact mu
  have ntup : ∀ c xs, H c = some (.tup xs) → c ≠ x := fun c xs r z => by subst z; rw [r] at mu; exact mu
  by_cases hb : b = x
  · subst hb; rw [upd_same] at q; cases q; exact new
  · rw [upd_ne hb] at q
    by_cases hbe : b = e
    · have q' : H b = some (.own x) := by
        rcases he with z | z
        · exact absurd (hbe.trans z) hb
        · rw [hbe]; exact z
      rw [q] at q'; cases q'
      obtain ⟨v, hv⟩ := heo
      exact ⟨v, by rw [hbe]; exact hv⟩
    · refine (ok b u q).stay (fun c v hc r => k c v ?_ r) (fun c r => by rw [upd_ne (nown c b r)]; exact r) fun c xs r => by rw [upd_ne (ntup c xs r)]; exact r
      rcases hc with rfl | hc
      · exact hbe
      · rintro rfl
        rcases he with z | z
        · exact nown c b hc z
        · rw [hc] at z; cases z; exact hb rfl
end
structure Un (fs ex : List Addr) (H H' : Hp) (h h' : Heap) : Prop where
  keep : ∀ b o, h.get? b = some o → H b = none → b ∉ fs → b ∉ ex → h'.get? b = some o
  slot : ∀ b o, h.get? b = some o → H b = none → b ∈ fs → b ∉ ex → ∃ sl, h'.get? b = some { o with slots := sl }
  free : ∀ b o, h.get? b = some o → H b = none → b ∉ ex → H' b = none
  there : ∀ b o, h.get? b = some o → b ∉ ex → ∃ o', h'.get? b = some o'
  tups : ∀ b xs, H b = some (.tup xs) → H' b = some (.tup xs)
  frzs : ∀ b o u, H b = some (.frz o u) → H' b = some (.frz o u)
  tbls : ∀ b ps, H b = some (.tbl ps) → ∃ more, H' b = some (.tbl (ps ++ more))
section
variable {fs fs' ex ex' : List Addr} {H H1 H2 : Hp} {h h1 h2 h' : Heap} {a x e : Addr} {o : HO}
theorem Un.any (u : Un fs ex H H1 h h1) {b : Addr} {ob : Obj} (q : h.get? b = some ob) (n : H b = none) (hx : b ∉ ex) : ∃ sl, h1.get? b = some { ob with slots := sl } := by
  by_cases hb : b ∈ fs
  · exact u.slot b ob q n hb hx
  · exact ⟨ob.slots, u.keep b ob q n hb hx⟩
theorem Un.trans (a : Un fs ex H H1 h h1) (b : Un fs ex H1 H2 h1 h2) : Un fs ex H H2 h h2 where
  keep := fun c ob q n hc hx => b.keep c ob (a.keep c ob q n hc hx) (a.free c ob q n hx) hc hx
  slot := fun c ob q n hc hx => by
    obtain ⟨sl, e1⟩ := a.slot c ob q n hc hx
    obtain ⟨sl', e2⟩ := b.slot c _ e1 (a.free c ob q n hx) hc hx
    exact ⟨sl', e2⟩
  free := fun c ob q n hx => by
    obtain ⟨o', e1⟩ := a.there c ob q hx
    exact b.free c o' e1 (a.free c ob q n hx) hx
  there := fun c ob q hx => by
    obtain ⟨o', e1⟩ := a.there c ob q hx
    exact b.there c o' e1 hx
  tups := fun c xs q => b.tups c xs (a.tups c xs q)
  frzs := fun c ob xs q => b.frzs c ob xs (a.frzs c ob xs q)
  tbls := fun c ps q => by
    obtain ⟨m1, e1⟩ := a.tbls c ps q
    obtain ⟨m2, e2⟩ := b.tbls c _ e1
    exact ⟨m1 ++ m2, by rw [e2, Array.append_assoc]⟩
theorem Un.kept (k : ∀ b u, h.get? b = some u → h'.get? b = some u) : Un fs ex H H h h' :=
  ⟨fun b ob q _ _ _ => k b ob q, fun b ob q _ _ _ => ⟨ob.slots, k b ob q⟩, fun _ _ _ n _ => n, fun b ob q _ => ⟨ob, k b ob q⟩, fun _ _ q => q, fun _ _ _ q => q, fun _ ps q => ⟨#[], by rw [q]; simp⟩⟩
theorem Un.refl : Un fs ex H H h h := Un.kept fun _ _ q => q
theorem Un.laid (k : ∀ b u, h.get? b = some u → h'.get? b = some u) (hp : h.objs.size ≤ a) (hn : H a = none) : Un fs ex H (upd H a o) h h' where
  keep := fun b u q _ _ _ => k b u q
  slot := fun b u q _ _ _ => ⟨u.slots, k b u q⟩
  free := fun b u q n _ => by rw [upd_ne (Nat.ne_of_lt (Nat.lt_of_lt_of_le (Heap.lt_size q) hp))]; exact n
  there := fun b u q _ => ⟨u, k b u q⟩
  tups := fun b xs q => by rw [upd_ne (ne_of_none q hn)]; exact q
  frzs := fun b u xs q => by rw [upd_ne (ne_of_none q hn)]; exact q
  tbls := fun b ps q => ⟨#[], by rw [upd_ne (ne_of_none q hn), q]; simp⟩
theorem Un.write (mu : Mut (H x)) (he : e = x ∨ H e = some (.own x)) (k : ∀ b u, b ≠ e → h.get? b = some u → h'.get? b = some u) (heo : ∃ u, h'.get? e = some u) : Un fs ex H (upd H x o) h h' := by
  have hx : ∀ b, H b = none → b ≠ x := fun b n z => by subst z; rw [n] at mu; exact mu
  have hb : ∀ b, H b = none → b ≠ e := fun b n z => by
    subst z
    rcases he with r | r
    · exact hx b n r
    · rw [n] at r; cases r
  have hm : ∀ b u, H b = some u → ¬ Mut (some u) → b ≠ x := fun b u q nm z => by subst z; rw [q] at mu; exact nm mu
  refine ⟨fun b u q n _ _ => k b u (hb b n) q, fun b u q n _ _ => ⟨u.slots, k b u (hb b n) q⟩, fun b u q n _ => by rw [upd_ne (hx b n)]; exact n, fun b u q _ => ?_,
    fun b xs q => by rw [upd_ne (hm b _ q fun z => z)]; exact q, fun b u xs q => by rw [upd_ne (hm b _ q fun z => z)]; exact q, fun b ps q => ⟨#[], by rw [upd_ne (hm b _ q fun z => z), q]; simp⟩⟩
  by_cases hbe : b = e
  · subst hbe; exact heo
  · exact ⟨u, k b u hbe q⟩
theorem Un.mono (u : Un fs ex H H1 h h1) (hs : ∀ b ∈ fs, b ∈ fs') (hx : ∀ b ∈ ex, b ∈ ex') : Un fs' ex' H H1 h h1 :=
  ⟨fun b ob q n hb he => u.keep b ob q n (fun z => hb (hs b z)) fun z => he (hx b z), fun _ _ q n _ he => u.any q n fun z => he (hx _ z), fun b ob q n he => u.free b ob q n fun z => he (hx b z), fun b ob q he => u.there b ob q fun z => he (hx b z), u.tups, u.frzs, u.tbls⟩
end
def trk (h : Heap) (H : Hp) : List Addr := (List.range h.objs.size).filter fun a => (H a).isSome
def hidT (h : Heap) (H : Hp) : Heap := PySem.W.hideAll h (trk h H)
theorem hidT_size (h : Heap) (H : Hp) : (hidT h H).objs.size = h.objs.size := PySem.W.hideAll_size _ _
theorem hidT_get {h : Heap} {H : Hp} {b : Addr} {o : Obj} (e : h.get? b = some o) (n : H b = none) : (hidT h H).get? b = some o :=
  PySem.W.hideAll_get _ e fun hm => by
    have q : (H b).isSome = true := (List.mem_filter.mp hm).2
    rw [n] at q; simp at q
theorem of_hidT {h : Heap} {H : Hp} {b : Addr} {o : Obj} (e : (hidT h H).get? b = some o) : h.get? b = some o ∧ H b = none := by
  have e' : h.get? b = some o := PySem.W.of_hideAll (trk h H) e
  refine ⟨e', ?_⟩
  cases q : H b with
  | none => rfl
  | some x =>
    have hm : b ∈ trk h H := List.mem_filter.mpr ⟨List.mem_range.mpr (Heap.lt_size e'), by simp [q]⟩
    have z : (hidT h H).get? b = none := PySem.W.hideAll_none (trk h H) hm
    rw [z] at e; cases e
def allNews (g h : Heap) (L : Addr) : List (Addr × Obj) := (List.range h.objs.size).filterMap fun a => if a = L ∨ (g.get? a).isSome = true then none else (h.get? a).map fun o => (a, o)
def rest (g h : Heap) (L d : Addr) : List (Addr × Obj) := (allNews g h L).filter fun p => decide (p.1 ≠ d)
end L2
namespace L2
open PySem PySem.Spec PyProof.Rows
structure Mod (K : PySem.W.Frag) (mg : Str → Option Value) (base : Heap) : Prop where
  kin : K.In base
  glob : base.Ns mainGlobals mg
  blt : ∃ mb, base.Ns builtinsNs mb ∧ ∀ x : Str, x ≠ "__name__" → mb x = bootBuiltins x
  nolimit : base.NoLimit
structure Cx where
  prog : Program
  w : World
  K : PySem.W.Frag
  mg : Str → Option Value
  base : Heap
  A : Around
  N : List Str
  s₀ : Shared
  H₀ : Hp
  env : Env
  outer : List Env
  stack : List Env
  ex : List Addr
  fn : Str → Bool
  calm : Bool
  pn : List (Addr × Obj)
  xe : Value → Shared → Prop
def frs (l : List Env) : List Addr := l.filterMap (·.frame)
abbrev Cx.fs (X : Cx) : List Addr := frs X.outer
def Vis (sc : Scope) (x : Str) : Prop := sc.names.lookup x = some .local ∨ sc.names.lookup x = some .cell ∨ sc.names.lookup x = some .free
def Loc (sc : Scope) (x : Str) : Prop := sc.names.lookup x = some .local ∨ sc.names.lookup x = some .cell
def Look (env : Env) (h : Heap) (m : Str → Option Value) (x : Str) (u : Value) : Prop :=
  (env.kindOf x = some .local ∧ m x = some u) ∨ ((env.kindOf x = some .cell ∨ env.kindOf x = some .free) ∧ ∃ c, env.cells.lookup x = some c ∧ h.IsCell c (some u))
structure Cx.Ok (X : Cx) : Prop where
  mod : Mod X.K X.mg X.base
  kind : X.env.scope.kind = .function
  glob : X.env.globals = mainGlobals
  blt : X.env.builtins = builtinsNs
  above : X.s₀.heap.objs.size ≤ X.env.locals
  inj : ∀ x y c, X.env.cells.lookup x = some c → X.env.cells.lookup y = some c → x = y
  has : ∀ x, (X.env.kindOf x = some .cell ∨ X.env.kindOf x = some .free) → ∃ c, X.env.cells.lookup x = some c
  cab : ∀ x c, X.fn x = true → X.env.cells.lookup x = some c → X.s₀.heap.objs.size ≤ c
  hd : X.calm = true → X.A.handled = none
  frames : X.A.frames = some X.stack
  stk : X.stack = X.outer ∨ (X.stack = X.env :: X.outer ∧ X.env.frame = some X.env.locals)
  exf : ∀ b ∈ X.ex, b ≠ X.env.locals ∧ ∀ x c, X.env.cells.lookup x = some c → c ≠ b
  bs : ∀ b o, X.base.get? b = some o → X.s₀.heap.get? b = some o ∧ X.H₀ b = none
  bsz : X.base.objs.size ≤ X.s₀.heap.objs.size
  noex : ∀ b o, X.base.get? b = some o → b ∉ X.ex
  exfs : ∀ b ∈ X.ex, b ∉ X.fs
  funs : X.s₀.heap.FunFrames X.base X.outer
  frf : ∀ b ∈ X.fs, X.H₀ b = none
structure Inv (X : Cx) (pins : List (Addr × Obj)) (σ : List (Option V)) (H : Hp) (s : Shared) : Prop where
  ok : X.Ok
  os : s.os = X.s₀.os
  bare : AllBare s.gens
  base : Un X.fs X.ex X.H₀ H X.s₀.heap s.heap
  loc : ∃ m, s.heap.Ns X.env.locals m ∧ ∀ (i : Nat) (x : Str) (v : V), X.N[i]? = some x → σ[i]? = some (some v) → Vis X.env.scope x → ∃ u, RelV v u ∧ Look X.env s.heap m x u
  cell : ∀ x c, X.env.cells.lookup x = some c → ∃ v, s.heap.IsCell c v
  free : H X.env.locals = none
  freeC : ∀ x c, X.env.cells.lookup x = some c → H c = none
  pin : ∀ p ∈ X.pn ++ pins, s.heap.get? p.1 = some p.2 ∧ H p.1 = none ∧ p.1 ≠ X.env.locals ∧ p.1 ∉ X.fs ∧ ∀ v, p.2.data ≠ .cell v
  hok : HOk X.prog X.w H s.heap
  len : σ.length = X.N.length
section
variable {X : Cx} {pins : List (Addr × Obj)} {σ : List (Option V)} {H H' : Hp} {s : Shared} {h' : Heap}
theorem Cx.Ok.nofr (ok : X.Ok) {b : Addr} {o : Obj} (e : X.base.get? b = some o) : b ∉ X.fs := fun hb => by
  have := (ok.funs.mem hb).1
  rw [e] at this; cases this
theorem Inv.bs (I : Inv X pins σ H s) : ∀ b o, X.base.get? b = some o → s.heap.get? b = some o ∧ H b = none := fun b o e =>
  ⟨I.base.keep b o (I.ok.bs b o e).1 (I.ok.bs b o e).2 (I.ok.nofr e) (I.ok.noex b o e), I.base.free b o (I.ok.bs b o e).1 (I.ok.bs b o e).2 (I.ok.noex b o e)⟩
theorem Inv.bk (I : Inv X pins σ H s) : ∀ b o, X.base.get? b = some o → s.heap.get? b = some o := fun b o e => (I.bs b o e).1
theorem Inv.mod (I : Inv X pins σ H s) : Mod X.K X.mg X.base := I.ok.mod
theorem Inv.kIn (I : Inv X pins σ H s) : X.K.In s.heap := I.ok.mod.kin.keeps I.bk
theorem Inv.nolimit (I : Inv X pins σ H s) : s.heap.NoLimit := I.ok.mod.nolimit.keeps I.bk
theorem Inv.fr (I : Inv X pins σ H s) : ∃ m, Fr X.base X.env.locals s.heap m :=
  let ⟨m, hn, _⟩ := I.loc
  ⟨m, hn, I.bk, Nat.le_trans I.ok.bsz I.ok.above⟩
theorem Inv.lt (I : Inv X pins σ H s) : X.env.locals < s.heap.objs.size := let ⟨_, hn, _⟩ := I.loc; hn.lt
theorem Inv.sz (I : Inv X pins σ H s) : X.s₀.heap.objs.size ≤ s.heap.objs.size := Nat.le_trans I.ok.above (Nat.le_of_lt I.lt)
theorem Inv.nofs (I : Inv X pins σ H s) {a : Addr} (h : s.heap.objs.size ≤ a) : a ∉ X.fs := fun hb => by
  obtain ⟨_, o, ho, _⟩ := I.ok.funs.mem hb
  exact absurd (Nat.lt_of_lt_of_le (Heap.lt_size ho) (Nat.le_trans I.sz h)) (Nat.lt_irrefl _)
theorem Inv.cne (I : Inv X pins σ H s) : ∀ x c, X.env.cells.lookup x = some c → c ≠ X.env.locals := fun x c e z => by
  obtain ⟨v, o, ho, hd⟩ := I.cell x c e
  obtain ⟨m, ⟨o', es, ep, ho', hd', _⟩, _⟩ := I.loc
  rw [z, ho'] at ho; cases ho; rw [hd'] at hd; cases hd
theorem Inv.funs (I : Inv X pins σ H s) : s.heap.FunFrames X.base X.outer := by
  have all : ∀ (l : List Env), (∀ b ∈ frs l, b ∈ X.fs) → X.s₀.heap.FunFrames X.base l → s.heap.FunFrames X.base l := by
    intro l
    induction l with
    | nil => intro _ _; trivial
    | cons env r ih =>
      intro hs hl
      obtain ⟨hk, ⟨L, o, hf, hn, ho, hd⟩, hr⟩ := hl
      have hL : L ∈ X.fs := hs L (by unfold frs; rw [List.filterMap_cons, hf]; exact List.mem_cons_self)
      obtain ⟨sl, e⟩ := I.base.slot L o ho (I.ok.frf L hL) hL fun z => I.ok.exfs L z hL
      exact ⟨hk, ⟨L, _, hf, hn, e, hd⟩, ih (fun b hb => hs b (by unfold frs; rw [List.filterMap_cons, hf]; exact List.mem_cons_of_mem _ hb)) hr⟩
  exact all X.outer (fun _ hb => hb) I.ok.funs
theorem Inv.stack (I : Inv X pins σ H s) : s.heap.FunFrames X.base X.stack := by
  rcases I.ok.stk with e | ⟨e, hf⟩
  · rw [e]; exact I.funs
  · rw [e]
    obtain ⟨m, hn, _⟩ := I.loc
    refine .cons (by rw [I.ok.kind]; decide) hf hn ?_ I.funs
    exact Heap.get?_none_of_le (Nat.le_trans I.ok.bsz I.ok.above)
theorem Inv.stkSub (I : Inv X pins σ H s) : ∀ b ∈ frs X.stack, b ∈ X.env.locals :: X.fs := fun b hb => by
  rcases I.ok.stk with e | ⟨e, hf⟩
  · rw [e] at hb; exact List.mem_cons_of_mem _ hb
  · rw [e] at hb
    unfold frs at hb
    rw [List.filterMap_cons, hf] at hb
    exact hb
theorem Inv.stkFree (I : Inv X pins σ H s) : ∀ b ∈ frs X.stack, H b = none := fun b hb => by
  rcases List.mem_cons.mp (I.stkSub b hb) with e | hb
  · rw [e]; exact I.free
  · obtain ⟨_, o, ho, _⟩ := I.ok.funs.mem hb
    exact I.base.free b o ho (I.ok.frf b hb) fun z => I.ok.exfs b z hb
theorem Inv.step {g' : Array GenState} {t' : Nat} {d' : Drawn} {ch : List Addr} (I : Inv X pins σ H s)
    (hch : ∀ b ∈ ch, (b ∈ X.ex ∨ X.s₀.heap.objs.size ≤ b) ∧ b ≠ X.env.locals ∧ (∀ x c, X.env.cells.lookup x = some c → c ≠ b) ∧ ∀ p ∈ X.pn ++ pins, p.1 ≠ b)
    (keep : ∀ b o, b ≠ X.env.locals → b ∉ X.fs → b ∉ ch → s.heap.get? b = some o → H b = none → h'.get? b = some o)
    (slot : ∀ b o, b ≠ X.env.locals → b ∈ X.fs → b ∉ ch → s.heap.get? b = some o → H b = none → ∃ sl, h'.get? b = some { o with slots := sl }) (free : ∀ b o, b ∉ ch → s.heap.get? b = some o → H b = none → H' b = none)
    (there : ∀ b o, b ∉ ch → s.heap.get? b = some o → ∃ o', h'.get? b = some o')
    (tups : ∀ b xs, H b = some (.tup xs) → H' b = some (.tup xs)) (frzs : ∀ b o u, H b = some (.frz o u) → H' b = some (.frz o u)) (tbls : ∀ b ps, H b = some (.tbl ps) → ∃ more, H' b = some (.tbl (ps ++ more)))
    (ns : ∀ m, s.heap.Ns X.env.locals m → h'.Ns X.env.locals m) (hok : HOk X.prog X.w H' h') (hg : AllBare g') :
    Inv X pins σ H' { s with heap := h', gens := g', drawn := d', toks := t' } := by
  have neL : ∀ b o, X.s₀.heap.get? b = some o → b ≠ X.env.locals := fun b o e => Nat.ne_of_lt (Nat.lt_of_lt_of_le (Heap.lt_size e) I.ok.above)
  have neC : ∀ b o, X.s₀.heap.get? b = some o → b ∉ X.ex → b ∉ ch := fun b o e hx hb => by
    rcases (hch b hb).1 with z | z
    · exact hx z
    · exact absurd (Nat.lt_of_lt_of_le (Heap.lt_size e) z) (Nat.lt_irrefl _)
  have cellK : ∀ x c, X.env.cells.lookup x = some c → ∀ v, s.heap.IsCell c v → h'.IsCell c v := fun x c e v ⟨o, ho, hd⟩ => by
    have nch : c ∉ ch := fun z => (hch c z).2.2.1 x c e rfl
    by_cases hc : c ∈ X.fs
    · obtain ⟨sl, q⟩ := slot c o (I.cne x c e) hc nch ho (I.freeC x c e)
      exact ⟨_, q, hd⟩
    · exact ⟨o, keep c o (I.cne x c e) hc nch ho (I.freeC x c e), hd⟩
  refine ⟨I.ok, I.os, hg, ⟨fun b o e n hb hx => ?_, fun b o e n hb hx => ?_, fun b o e n hx => ?_, fun b o e hx => ?_, fun b xs e => tups b xs (I.base.tups b xs e), fun b o xs e => frzs b o xs (I.base.frzs b o xs e), fun b ps e => ?_⟩, ?_, fun x c e => ?_, ?_, fun x c e => ?_, fun p hp => ?_, hok, I.len⟩
  · exact keep b o (neL b o e) hb (neC b o e hx) (I.base.keep b o e n hb hx) (I.base.free b o e n hx)
  · obtain ⟨sl, e1⟩ := I.base.slot b o e n hb hx
    obtain ⟨sl', e2⟩ := slot b _ (neL b o e) hb (neC b o e hx) e1 (I.base.free b o e n hx)
    exact ⟨sl', e2⟩
  · obtain ⟨o', e1⟩ := I.base.there b o e hx
    exact free b o' (neC b o e hx) e1 (I.base.free b o e n hx)
  · obtain ⟨o', e1⟩ := I.base.there b o e hx
    exact there b o' (neC b o e hx) e1
  · obtain ⟨m1, e1⟩ := I.base.tbls b ps e
    obtain ⟨m2, e2⟩ := tbls b _ e1
    exact ⟨m1 ++ m2, by rw [e2, Array.append_assoc]⟩
  · obtain ⟨m, hn, hl⟩ := I.loc
    refine ⟨m, ns m hn, fun i x v e1 e2 e3 => ?_⟩
    obtain ⟨u, r, l⟩ := hl i x v e1 e2 e3
    refine ⟨u, r, ?_⟩
    rcases l with l | ⟨k, c, e, z⟩
    · exact .inl l
    · exact .inr ⟨k, c, e, cellK x c e _ z⟩
  · obtain ⟨v, z⟩ := I.cell x c e
    exact ⟨v, cellK x c e v z⟩
  · obtain ⟨m, ⟨o, _, _, ho, _⟩, _⟩ := I.loc
    exact free _ o (fun z => (hch _ z).2.1 rfl) ho I.free
  · obtain ⟨v, o, ho, hd⟩ := I.cell x c e
    exact free c o (fun z => (hch c z).2.2.1 x c e rfl) ho (I.freeC x c e)
  · obtain ⟨e, n, ne, nf, d⟩ := I.pin p hp
    have nch : p.1 ∉ ch := fun z => (hch p.1 z).2.2.2 p hp rfl
    exact ⟨keep p.1 p.2 ne nf nch e n, free p.1 p.2 nch e n, ne, nf, d⟩
theorem Inv.un {t' : Nat} (I : Inv X pins σ H s) (u : Un X.fs [] H H' s.heap h') (hok : HOk X.prog X.w H' h') : Inv X pins σ H' { s with heap := h', toks := t' } := by
  obtain ⟨m, ⟨o, es, ep, ho, r⟩, _⟩ := id I.loc
  obtain ⟨sl, hL⟩ := u.any ho I.free (by simp)
  exact I.step (g' := s.gens) (d' := s.drawn) (ch := []) (fun _ z => nomatch z) (fun b o _ hb _ e n => u.keep b o e n hb (by simp)) (fun b o _ hb _ e n => u.slot b o e n hb (by simp)) (fun b o _ e n => u.free b o e n (by simp)) (fun b o _ e => u.there b o e (by simp)) u.tups u.frzs u.tbls (fun m' hm => by
    obtain ⟨o', es', ep', ho', r'⟩ := hm
    rw [ho] at ho'; cases ho'
    exact ⟨_, es', ep', hL, r'⟩) hok I.bare
theorem Inv.call {g' : Array GenState} {t' : Nat} {d' : Drawn} {ch : List Addr} (I : Inv X pins σ H s) (u : Un (frs X.stack) ch H H' s.heap h') (hok : HOk X.prog X.w H' h') (hg : AllBare g')
    (hch : ∀ b ∈ ch, (b ∈ X.ex ∨ X.s₀.heap.objs.size ≤ b) ∧ b ≠ X.env.locals ∧ (∀ x c, X.env.cells.lookup x = some c → c ≠ b) ∧ ∀ p ∈ X.pn ++ pins, p.1 ≠ b) :
    Inv X pins σ H' { s with heap := h', gens := g', drawn := d', toks := t' } := by
  obtain ⟨m, ⟨o, es, ep, ho, r⟩, _⟩ := id I.loc
  obtain ⟨sl, hL⟩ := u.any ho I.free fun z => (hch _ z).2.1 rfl
  exact I.step (ch := ch) hch (fun b o hL hb hc e n => u.keep b o e n (fun z => (List.mem_cons.mp (I.stkSub b z)).elim hL hb) hc) (fun b o _ _ hc e n => u.any e n hc) (fun b o hc e n => u.free b o e n hc) (fun b o hc e => u.there b o e hc) u.tups u.frzs u.tbls (fun m' hm => by
    obtain ⟨o', es', ep', ho', r'⟩ := hm
    rw [ho] at ho'; cases ho'
    exact ⟨_, es', ep', hL, r'⟩) hok hg
theorem Inv.turned {t' : Nat} {it : Addr} (I : Inv X pins σ H s) (k : ∀ b o, b ≠ it → s.heap.get? b = some o → h'.get? b = some o) (hn : H it = none) (hL : it ≠ X.env.locals)
    (h1 : it ∈ X.ex ∨ X.s₀.heap.objs.size ≤ it) (h2 : ∀ x c, X.env.cells.lookup x = some c → c ≠ it) (h3 : ∀ p ∈ X.pn ++ pins, p.1 ≠ it) : Inv X pins σ H { s with heap := h', toks := t' } := by
  have nit : ∀ b u, H b = some u → b ≠ it := fun b u e z => by rw [z, hn] at e; cases e
  refine I.step (g' := s.gens) (d' := s.drawn) (ch := [it]) (fun b hb => ?_) (fun b o _ _ hc e _ => k b o (fun z => hc (by simp [z])) e) (fun b o _ _ hc e _ => ⟨o.slots, k b o (fun z => hc (by simp [z])) e⟩) (fun _ _ _ _ n => n)
    (fun b o hc e => ⟨o, k b o (fun z => hc (by simp [z])) e⟩) (fun _ _ e => e) (fun _ _ _ e => e) (fun b ps e => ⟨#[], by rw [e]; simp⟩) (fun m hm => ?_) (fun b u e => ?_) I.bare
  · have e : b = it := by simpa using hb
    subst e
    exact ⟨h1, hL, h2, h3⟩
  · obtain ⟨o, es, ep, ho, r⟩ := hm
    exact ⟨o, es, ep, k _ o (Ne.symm hL) ho, r⟩
  · refine (I.hok b u e).stay (fun c v hc q => k c v ?_ q) (fun _ q => q) fun _ _ q => q
    rcases hc with z | z
    · rw [z]; exact nit b u e
    · exact nit c _ z
theorem Inv.tok (I : Inv X pins σ H s) (t : Nat) : Inv X pins σ H { s with toks := t } := I.un (h' := s.heap) (t' := t) Un.refl I.hok
theorem Inv.kept {t' : Nat} (I : Inv X pins σ H s) (k : ∀ b u, s.heap.get? b = some u → h'.get? b = some u) : Inv X pins σ H { s with heap := h', toks := t' } := I.un (Un.kept k) (I.hok.kept k)
theorem Inv.laid {a : Addr} {o : HO} {t' : Nat} (I : Inv X pins σ H s) (k : ∀ b u, s.heap.get? b = some u → h'.get? b = some u) (hp : s.heap.objs.size ≤ a) (new : ObjOk X.prog X.w (upd H a o) h' a o) :
    Inv X pins σ (upd H a o) { s with heap := h', toks := t' } := I.un (Un.laid k hp (I.hok.fresh hp)) (I.hok.laid k hp new)
theorem Inv.write {x e : Addr} {o : HO} {t' : Nat} (I : Inv X pins σ H s) (mu : Mut (H x)) (he : e = x ∨ H e = some (.own x)) (k : ∀ b u, b ≠ e → s.heap.get? b = some u → h'.get? b = some u) (heo : ∃ u, h'.get? e = some u)
    (new : ObjOk X.prog X.w (upd H x o) h' x o) : Inv X pins σ (upd H x o) { s with heap := h', toks := t' } := I.un (Un.write mu he k heo) (I.hok.write mu he k heo new)
theorem Inv.weak {σ' : List (Option V)} (I : Inv X pins σ H s) (hl : σ'.length = σ.length) (w : ∀ (i : Nat) v, σ'[i]? = some (some v) → σ[i]? = some (some v)) : Inv X pins σ' H s :=
  ⟨I.ok, I.os, I.bare, I.base, let ⟨m, hn, hl'⟩ := I.loc; ⟨m, hn, fun i x v e1 e2 e3 => hl' i x v e1 (w i v e2) e3⟩, I.cell, I.free, I.freeC, I.pin, I.hok, hl.trans I.len⟩
theorem Inv.pins_of {pins' : List (Addr × Obj)} (I : Inv X pins σ H s) (h : ∀ p ∈ pins', s.heap.get? p.1 = some p.2 ∧ H p.1 = none ∧ p.1 ≠ X.env.locals ∧ p.1 ∉ X.fs ∧ ∀ v, p.2.data ≠ .cell v) : Inv X pins' σ H s :=
  ⟨I.ok, I.os, I.bare, I.base, I.loc, I.cell, I.free, I.freeC, fun p hp => (List.mem_append.mp hp).elim (fun z => I.pin p (List.mem_append_left _ z)) (h p), I.hok, I.len⟩
theorem nodup_ix {N : List Str} (hN : N.Nodup) {i j : Nat} {x : Str} (a : N[i]? = some x) (b : N[j]? = some x) : i = j := by
  obtain ⟨h1, e1⟩ := List.getElem?_eq_some_iff.mp a
  obtain ⟨h2, e2⟩ := List.getElem?_eq_some_iff.mp b
  exact (List.getElem_inj hN).mp (e1.trans e2.symm)
theorem store_ok2 {M : Model} {A : Around} {E : Value → Shared → Prop} {i : Nat} {x : Str} {v : V} {u : Value} {Q : Unit → Shared → Prop} (I : Inv X pins σ H s) (hN : X.N.Nodup) (hi : X.N[i]? = some x) (hx : Loc X.env.scope x) (r : RelV v u)
    (h : ∀ s', Inv X pins (σ.set i (some v)) H s' → (∃ a, Heap.SameBut a s.heap s'.heap ∧ (a = X.env.locals ∨ X.env.cells.lookup x = some a)) → Q () s') (hf : X.fn x = true ∨ X.env.scope.names.lookup x = some .local := by first | exact .inl rfl | exact .inr rfl | assumption) : wpAny M A (storeName X.env x u) Q E s := by
  obtain ⟨m, hn, hl⟩ := id I.loc
  have hcls : (X.env.scope.kind == .class || (X.env.scope.kind == .module && X.env.locals != X.env.globals)) = false := by rw [I.ok.kind]; rfl
  have hiσ : i < σ.length := by rw [I.len]; exact (List.getElem?_eq_some_iff.mp hi).1
  have cne := I.cne
  have tracked : ∀ {a : Addr} {h' : Heap}, (∃ o, s.heap.get? a = some o ∧ H a = none) → Heap.SameBut a s.heap h' → HOk X.prog X.w H h' := fun {a h'} ha hs b ob e => by
    obtain ⟨_, _, hfree⟩ := ha
    refine (I.hok b ob e).stay (fun c w' hc q => (hs.2 c ?_).trans q) (fun _ q => q) fun _ _ q => q
    rintro rfl
    rcases hc with rfl | hc
    · rw [hfree] at e; cases e
    · rw [hfree] at hc; cases hc
  rcases hx with hk | hk
  · refine wpAny_storeName_local hk hn (fun h' hn' hs => ?_) hcls
    obtain ⟨oL, _, _, hoL, _⟩ := id hn
    refine h _ ⟨I.ok, I.os, I.bare, ⟨fun b o e n hb hx => ?_, fun b o e n hb hx => ?_, I.base.free, fun b o e hx => ?_, I.base.tups, I.base.frzs, I.base.tbls⟩, ⟨_, hn', fun j y v' e1 e2 e3 => ?_⟩, fun y c e => ?_, I.free, I.freeC, fun p hp => ?_, tracked ⟨oL, hoL, I.free⟩ hs, by simpa using I.len⟩ ⟨_, hs, .inl rfl⟩
    · exact (hs.2 b (Nat.ne_of_lt (Nat.lt_of_lt_of_le (Heap.lt_size e) I.ok.above))).trans (I.base.keep b o e n hb hx)
    · obtain ⟨sl, e1⟩ := I.base.slot b o e n hb hx
      exact ⟨sl, (hs.2 b (Nat.ne_of_lt (Nat.lt_of_lt_of_le (Heap.lt_size e) I.ok.above))).trans e1⟩
    · obtain ⟨o', e1⟩ := I.base.there b o e hx
      exact ⟨o', (hs.2 b (Nat.ne_of_lt (Nat.lt_of_lt_of_le (Heap.lt_size e) I.ok.above))).trans e1⟩
    · by_cases hj : j = i
      · subst hj
        rw [hi] at e1; cases e1
        rw [List.getElem?_set_self hiσ] at e2
        cases e2
        exact ⟨u, r, .inl ⟨hk, by simp⟩⟩
      · rw [List.getElem?_set_ne (Ne.symm hj)] at e2
        obtain ⟨u', r', q⟩ := hl j y v' e1 e2 e3
        refine ⟨u', r', ?_⟩
        rcases q with ⟨k, e⟩ | ⟨k, c, e, z⟩
        · refine .inl ⟨k, ?_⟩
          have : y ≠ x := fun e => hj (nodup_ix hN e1 (e ▸ hi))
          simp [this, e]
        · exact .inr ⟨k, c, e, z.sameBut hs (cne y c e)⟩
    · obtain ⟨w', z⟩ := I.cell y c e
      exact ⟨w', z.sameBut hs (cne y c e)⟩
    · obtain ⟨e, n, ne, nf, d⟩ := I.pin p hp
      exact ⟨(hs.2 p.1 ne).trans e, n, ne, nf, d⟩
  · have hfn : X.fn x = true := by
      rcases hf with z | z
      · exact z
      · rw [z] at hk; cases hk
    obtain ⟨c, hc⟩ := I.ok.has x (.inl hk)
    obtain ⟨w', z⟩ := I.cell x c hc
    refine wpAny_storeName_cell I.ok.kind hk hc z (fun h' hc' hs => ?_)
    obtain ⟨oc, hoc, hocd⟩ := id z
    refine h { s with heap := h' } ⟨I.ok, I.os, I.bare, ⟨fun b o e n hb hx => ?_, fun b o e n hb hx => ?_, I.base.free, fun b o e hx => ?_, I.base.tups, I.base.frzs, I.base.tbls⟩, ⟨m, hn.sameBut hs (Ne.symm (cne x c hc)), fun j y v' e1 e2 e3 => ?_⟩, fun y c' e => ?_, I.free, I.freeC, fun p hp => ?_, tracked ⟨oc, hoc, I.freeC x c hc⟩ hs, by simpa using I.len⟩ ⟨c, hs, .inr hc⟩
    · exact (hs.2 b (Nat.ne_of_lt (Nat.lt_of_lt_of_le (Heap.lt_size e) (I.ok.cab x c hfn hc)))).trans (I.base.keep b o e n hb hx)
    · obtain ⟨sl, e1⟩ := I.base.slot b o e n hb hx
      exact ⟨sl, (hs.2 b (Nat.ne_of_lt (Nat.lt_of_lt_of_le (Heap.lt_size e) (I.ok.cab x c hfn hc)))).trans e1⟩
    · obtain ⟨o', e1⟩ := I.base.there b o e hx
      exact ⟨o', (hs.2 b (Nat.ne_of_lt (Nat.lt_of_lt_of_le (Heap.lt_size e) (I.ok.cab x c hfn hc)))).trans e1⟩
    · by_cases hj : j = i
      · subst hj
        rw [hi] at e1; cases e1
        rw [List.getElem?_set_self hiσ] at e2
        cases e2
        exact ⟨u, r, .inr ⟨.inl hk, c, hc, hc'⟩⟩
      · rw [List.getElem?_set_ne (Ne.symm hj)] at e2
        obtain ⟨u', r', q⟩ := hl j y v' e1 e2 e3
        refine ⟨u', r', ?_⟩
        rcases q with q | ⟨k, c', e, z'⟩
        · exact .inl q
        · refine .inr ⟨k, c', e, z'.sameBut hs ?_⟩
          rintro rfl
          exact hj (nodup_ix hN e1 (I.ok.inj _ _ _ e hc ▸ hi))
    · by_cases hcc : c' = c
      · subst hcc; exact ⟨_, hc'⟩
      · obtain ⟨w2, z2⟩ := I.cell y c' e
        exact ⟨w2, z2.sameBut hs hcc⟩
    · obtain ⟨e, n, ne, nf, d⟩ := I.pin p hp
      refine ⟨(hs.2 p.1 ?_).trans e, n, ne, nf, d⟩
      intro q
      rw [q, hoc] at e
      have q' : oc = p.2 := Option.some.inj e
      exact d w' (by rw [← q']; exact hocd)
theorem store_ok {M : Model} {A : Around} {E : Value → Shared → Prop} {i : Nat} {x : Str} {v : V} {u : Value} {Q : Unit → Shared → Prop} (I : Inv X pins σ H s) (hN : X.N.Nodup) (hi : X.N[i]? = some x) (hx : Loc X.env.scope x) (r : RelV v u)
    (h : ∀ s', Inv X pins (σ.set i (some v)) H s' → Q () s') (hf : X.fn x = true ∨ X.env.scope.names.lookup x = some .local := by first | exact .inl rfl | exact .inr rfl | assumption) : wpAny M A (storeName X.env x u) Q E s :=
  store_ok2 I hN hi hx r (fun s' I' _ => h s' I') hf
theorem Inv.call' {s' : Shared} {ch : List Addr} (I : Inv X pins σ H s) (ho : s'.os = s.os) (u : Un (frs X.stack) ch H H' s.heap s'.heap) (hok : HOk X.prog X.w H' s'.heap) (hg : AllBare s'.gens)
    (hch : ∀ b ∈ ch, (b ∈ X.ex ∨ X.s₀.heap.objs.size ≤ b) ∧ b ≠ X.env.locals ∧ (∀ x c, X.env.cells.lookup x = some c → c ≠ b) ∧ ∀ p ∈ X.pn ++ pins, p.1 ≠ b) : Inv X pins σ H' s' := by
  obtain ⟨h', g', d', t', o'⟩ := s'
  have e : o' = s.os := ho
  subst e
  exact I.call (g' := g') (t' := t') (d' := d') u hok hg hch
end
abbrev XK := Value → Option Addr → Hp → Prop
abbrev St := List (Option V)
abbrev VK := V → Hp → Prop
abbrev TE := St → Hp → VK → Prop
abbrev TT := St → Hp → (Bool → Hp → Prop) → Prop
abbrev TA := St → Hp → (List V → Hp → Prop) → Prop
structure Ends where
  nx : St → Hp → Prop
  rt : VK
  bk : St → Hp → Prop := fun _ _ => False
  ct : St → Hp → Prop := fun _ _ => False
abbrev TS := Ends → St → Hp → Prop
def EP (X : Cx) (pins : List (Addr × Obj)) (σ : St) (Q : VK) (u : Value) (s' : Shared) : Prop := ∃ v H', Inv X pins σ H' s' ∧ RelV v u ∧ Q v H'
def TP (X : Cx) (pins : List (Addr × Obj)) (σ : St) (Q : Bool → Hp → Prop) (b : Bool) (s' : Shared) : Prop := ∃ H', Inv X pins σ H' s' ∧ Q b H'
def AP (X : Cx) (pins : List (Addr × Obj)) (σ : St) (Q : List V → Hp → Prop) (us : List Value) (s' : Shared) : Prop := ∃ vs H', Inv X pins σ H' s' ∧ Vals vs us ∧ Q vs H'
def SP (X : Cx) (pins : List (Addr × Obj)) (D : Ends) (f : Flow) (s' : Shared) : Prop :=
  match f with
  | .next => ∃ σ' H', Inv X pins σ' H' s' ∧ D.nx σ' H'
  | .brk => ∃ σ' H', Inv X pins σ' H' s' ∧ D.bk σ' H'
  | .cont => ∃ σ' H', Inv X pins σ' H' s' ∧ D.ct σ' H'
  | .ret u => ∃ v σ' H', Inv X pins σ' H' s' ∧ RelV v u ∧ D.rt v H'
def PE (X : Cx) (e : Expr) (t : TE) : Prop :=
  ∀ (pins : List (Addr × Obj)) (s : Shared) (σ : St) (H : Hp) (Q : VK), Inv X pins σ H s → t σ H Q → wpAny (model X.prog X.w) X.A (eval e X.env) (EP X pins σ Q) X.xe s
def PT (X : Cx) (e : Expr) (t : TT) : Prop :=
  ∀ (pins : List (Addr × Obj)) (s : Shared) (σ : St) (H : Hp) (Q : Bool → Hp → Prop), Inv X pins σ H s → t σ H Q → wpAny (model X.prog X.w) X.A (isTrue e X.env (eval e X.env)) (TP X pins σ Q) X.xe s
def PW (X : Cx) (e : Expr) (t : TT) : Prop :=
  ∀ (whole : Sem Value) (pins : List (Addr × Obj)) (s : Shared) (σ : St) (H : Hp) (Q : Bool → Hp → Prop), Inv X pins σ H s → t σ H Q → wpAny (model X.prog X.w) X.A (isTrue e X.env whole) (TP X pins σ Q) X.xe s
theorem PW.pt {X : Cx} {e : Expr} {t : TT} (h : PW X e t) : PT X e t := h _
def PA (X : Cx) (es : List Expr) (t : TA) : Prop :=
  ∀ (pos : Pos) (pins : List (Addr × Obj)) (s : Shared) (σ : St) (H : Hp) (Q : List V → Hp → Prop), Inv X pins σ H s → t σ H Q → wpAny (model X.prog X.w) X.A (spliced (backTo pos (starEach es X.env))) (AP X pins σ Q) X.xe s
def PS (X : Cx) (st : Stmt) (t : TS) : Prop :=
  ∀ (pins : List (Addr × Obj)) (s : Shared) (σ : St) (H : Hp) (D : Ends), Inv X pins σ H s → t D σ H → wpAny (model X.prog X.w) X.A (exec st X.env) (SP X pins D) X.xe s
def PSs (X : Cx) (st : List Stmt) (t : TS) : Prop :=
  ∀ (pins : List (Addr × Obj)) (s : Shared) (σ : St) (H : Hp) (D : Ends), Inv X pins σ H s → t D σ H → wpAny (model X.prog X.w) X.A (execs st X.env) (SP X pins D) X.xe s
theorem thn {α : Type} {t : Sem α} {Q Q' : α → Shared → Prop} {M : Model} {A : Around} {E : Value → Shared → Prop} {s : Shared} (h : wpAny M A t Q E s) (hQ : ∀ a s, Q a s → Q' a s) : wpAny M A t Q' E s := wpAny_mono h hQ fun _ _ x => x
end L2
namespace L2
open PySem PySem.Spec PyProof.Rows
section
variable {X : Cx}
def tVar (i : Nat) : TE := fun σ H Q => ∃ v, σ[i]? = some (some v) ∧ Q v H
def tC (v : V) : TE := fun _ H Q => Q v H
theorem pe_var {i : Nat} {x : Str} {pos : Pos} (hN : X.N[i]? = some x) (hv : Vis X.env.scope x) (hd : (x == ("__debug__" : Str)) = false := by decide) (hcd : (x == ("__classdict__" : Str)) = false := by decide) : PE X (.Name x pos) (tVar i) := by
  intro pins s σ H Q I h
  obtain ⟨v, e, h⟩ := h
  obtain ⟨m, hn, hl⟩ := I.loc
  obtain ⟨u, r, l⟩ := hl i x v hN e hv
  have fin : EP X pins σ Q u s := ⟨v, H, I, r, h⟩
  rcases l with ⟨hk, hm⟩ | ⟨hk, c, hc, hcell⟩
  · exact wpAny_Name (wpAny_loadName_local I.ok.kind hk hn hm fin) hd
  · rcases hk with hk | hk
    · exact wpAny_Name (wpAny_loadName_cell I.ok.kind hk hc hcell fin) hd
    · exact wpAny_Name (wpAny_loadName_free I.ok.kind hk hc hcell fin hcd) hd
theorem pe_int {i j pos} : PE X (.Constant (.int i) j pos) (tC (.int i)) := fun _ _ _ H _ I h => wpAny_Constant_int ⟨.int i, H, I.tok _, ⟨_, rfl⟩, h⟩
theorem pe_bl {b j pos} : PE X (.Constant (.bool b) j pos) (tC (.bl b)) := fun _ _ _ H _ I h => Constant_bool ⟨.bl b, H, I, rfl, h⟩
theorem pe_non {j pos} : PE X (.Constant .none j pos) (tC .non) := fun _ _ _ H _ I h => Constant_none ⟨.non, H, I, rfl, h⟩
theorem pe_str {x j pos} : PE X (.Constant (.str x) j pos) (tC (.str x)) := fun _ _ _ H _ I h => Calls.Constant_str ⟨.str x, H, I.tok _, ⟨_, rfl⟩, h⟩
def Gl (X : Cx) (x : Str) : Prop := X.env.kindOf x = some .globalImplicit
theorem ld_glob {E : Value → Shared → Prop} {pins : List (Addr × Obj)} {s : Shared} {σ : St} {H : Hp} {x : Str} {u : Value} {pos : Pos} {Q : Value → Shared → Prop} (I : Inv X pins σ H s) (hg : Gl X x) (hm : X.mg x = some u) (h : Q u s)
    (hd : (x == ("__debug__" : Str)) = false := by decide) : wpAny (model X.prog X.w) X.A (eval (.Name x pos) X.env) Q E s :=
  Calls.Name_function_global I.ok.kind hg (Calls.loadGlobal_global (by rw [I.ok.glob]; exact I.mod.glob.keeps I.bk) hm h) hd
theorem ld_blt {E : Value → Shared → Prop} {pins : List (Addr × Obj)} {s : Shared} {σ : St} {H : Hp} {x : Str} {u : Value} {pos : Pos} {Q : Value → Shared → Prop} (I : Inv X pins σ H s) (hg : Gl X x) (hm : X.mg x = none) (hv : bootBuiltins x = some u) (h : Q u s)
    (hn : x ≠ "__name__" := by decide) (hd : (x == ("__debug__" : Str)) = false := by decide) : wpAny (model X.prog X.w) X.A (eval (.Name x pos) X.env) Q E s := by
  obtain ⟨mb, h1, h2⟩ := I.mod.blt
  exact Calls.Name_function_global I.ok.kind hg (Calls.loadGlobal_builtin (by rw [I.ok.glob]; exact I.mod.glob.keeps I.bk) hm (by rw [I.ok.blt]; exact h1.keeps I.bk) ((h2 x hn).trans hv) h) hd
theorem pe_glob {x : Str} {v : V} {u : Value} {pos : Pos} (hg : Gl X x) (hm : X.mg x = some u) (r : RelV v u) (hd : (x == ("__debug__" : Str)) = false := by decide) : PE X (.Name x pos) (tC v) :=
  fun _ _ _ H _ I h => ld_glob I hg hm ⟨v, H, I, r, h⟩ hd
theorem pe_bltn {x : Str} {v : V} {u : Value} {pos : Pos} (hg : Gl X x) (hm : X.mg x = none) (hv : bootBuiltins x = some u) (r : RelV v u) (hn : x ≠ "__name__" := by decide) (hd : (x == ("__debug__" : Str)) = false := by decide) : PE X (.Name x pos) (tC v) :=
  fun _ _ _ H _ I h => ld_blt I hg hm hv ⟨v, H, I, r, h⟩ hn hd
variable {a b : Expr} {ta tb : TE} {pos : Pos}
def tB (t : TE) : TT := fun σ H Q => t σ H fun x H1 => ∃ c, x = .bl c ∧ Q c H1
theorem pt_val {e : Expr} {t : TE} (h : PE X e t) (he : ∀ whole, isTrue e X.env whole = (do let v ← whole; standAt e.pos; holding [v] (truthy v)) := by intro _; rfl) : PT X e (tB t) := by
  intro pins s σ H Q I hw
  refine isTrue_plain (thn (h pins s σ H _ I hw) fun v s1 ⟨x, H1, I1, r1, q1⟩ => ?_) (he _)
  obtain ⟨d, rfl, q⟩ := q1
  cases r1
  exact wpAny_truthy_bool ⟨H1, I1, q⟩
variable {tA tB' : TT} {rest : List Expr}
def tAnd (t u : TT) : TT := fun σ H Q => t σ H fun c H1 => if c = true then u σ H1 Q else Q false H1
def tOr (t u : TT) : TT := fun σ H Q => t σ H fun c H1 => if c = true then Q true H1 else u σ H1 Q
def tNot (t : TT) : TT := fun σ H Q => t σ H fun c H1 => Q (!c) H1
theorem pw_and1 (ha : PT X a tA) : PW X (.BoolOp .And [a] pos) tA := by
  intro wh pins s σ H Q I h
  refine isTrue_and (thn (ha pins s σ H Q I h) fun c s1 e => ?_)
  cases c with
  | true => exact isTrue_and_nil e
  | false => exact e
theorem pw_or1 (ha : PT X a tA) : PW X (.BoolOp .Or [a] pos) tA := by
  intro wh pins s σ H Q I h
  refine isTrue_or (thn (ha pins s σ H Q I h) fun c s1 e => ?_)
  cases c with
  | false => exact isTrue_or_nil e
  | true => exact e
theorem pw_and (ha : PT X a tA) (hb : PW X (.BoolOp .And (b :: rest) pos) tB') : PW X (.BoolOp .And (a :: b :: rest) pos) (tAnd tA tB') := by
  intro wh pins s σ H Q I h
  refine isTrue_and (thn (ha pins s σ H _ I h) fun c s1 ⟨H1, I1, q1⟩ => ?_)
  cases c with
  | true => exact hb wh pins s1 σ H1 Q I1 q1
  | false => exact ⟨H1, I1, q1⟩
theorem pw_or (ha : PT X a tA) (hb : PW X (.BoolOp .Or (b :: rest) pos) tB') : PW X (.BoolOp .Or (a :: b :: rest) pos) (tOr tA tB') := by
  intro wh pins s σ H Q I h
  refine isTrue_or (thn (ha pins s σ H _ I h) fun c s1 ⟨H1, I1, q1⟩ => ?_)
  cases c with
  | true => exact ⟨H1, I1, q1⟩
  | false => exact hb wh pins s1 σ H1 Q I1 q1
theorem pt_not (ha : PT X a tA) : PT X (.UnaryOp .Not a pos) (tNot tA) := by
  intro pins s σ H Q I h
  exact isTrue_not (ha pins s σ H (fun c H1 => Q (!c) H1) I h)
def tAndV (ta tb : TE) : TE := fun σ H Q => ta σ H fun x H1 => ∃ c, x = .bl c ∧ if c = true then tb σ H1 Q else Q (.bl false) H1
def tOrV (ta tb : TE) : TE := fun σ H Q => ta σ H fun x H1 => ∃ c, x = .bl c ∧ if c = true then Q (.bl true) H1 else tb σ H1 Q
def tNotV (ta : TE) : TE := fun σ H Q => ta σ H fun x H1 => ∃ c, x = .bl c ∧ Q (.bl (!c)) H1
theorem pe_one {op} {t : TE} (h : PE X a t) : PE X (.BoolOp op [a] pos) t := fun pins s σ H Q I hw => BoolOp_one (h pins s σ H Q I hw)
theorem pe_and (ha : PE X a ta) (hb : PE X (.BoolOp .And (b :: rest) pos) tb) : PE X (.BoolOp .And (a :: b :: rest) pos) (tAndV ta tb) := by
  intro pins s σ H Q I h
  refine BoolOp_and (thn (ha pins s σ H _ I h) fun v s1 ⟨x, H1, I1, r1, q1⟩ => ?_)
  obtain ⟨c, rfl, q1⟩ := q1
  cases r1
  refine wpAny_truthy_bool ?_
  cases c with
  | true => exact hb pins s1 σ H1 Q I1 q1
  | false => exact ⟨.bl false, H1, I1, rfl, q1⟩
theorem pe_or (ha : PE X a ta) (hb : PE X (.BoolOp .Or (b :: rest) pos) tb) : PE X (.BoolOp .Or (a :: b :: rest) pos) (tOrV ta tb) := by
  intro pins s σ H Q I h
  refine BoolOp_or (thn (ha pins s σ H _ I h) fun v s1 ⟨x, H1, I1, r1, q1⟩ => ?_)
  obtain ⟨c, rfl, q1⟩ := q1
  cases r1
  refine wpAny_truthy_bool ?_
  cases c with
  | false => exact hb pins s1 σ H1 Q I1 q1
  | true => exact ⟨.bl true, H1, I1, rfl, q1⟩
theorem pe_not (ha : PE X a ta) : PE X (.UnaryOp .Not a pos) (tNotV ta) := by
  intro pins s σ H Q I h
  refine UnaryOp_ (thn (ha pins s σ H _ I h) fun v s1 ⟨x, H1, I1, r1, q1⟩ => ?_)
  obtain ⟨c, rfl, q1⟩ := q1
  cases r1
  exact not_of (wpAny_truthy_bool ⟨.bl (!c), H1, I1, rfl, q1⟩)
def tIf (t : TT) (ta tb : TE) : TE := fun σ H Q => t σ H fun c H1 => if c = true then ta σ H1 Q else tb σ H1 Q
theorem pe_ifExp {c : Expr} (hc : PT X c tA) (ha : PE X a ta) (hb : PE X b tb) : PE X (.IfExp c a b pos) (tIf tA ta tb) := by
  intro pins s σ H Q I h
  refine wpAny_IfExp (thn (hc pins s σ H _ I h) fun d s1 ⟨H1, I1, q1⟩ => ?_)
  cases d with
  | true => exact ha pins s1 σ H1 Q I1 q1
  | false => exact hb pins s1 σ H1 Q I1 q1
end
end L2
namespace L2
open PySem PySem.Spec PyProof.Rows
def SqL (K : PySem.W.Frag) (H : Hp) (a : Addr) (xs : List V) : Prop :=
  Rd H a (.lst xs) ∨
    ∃ (o : Obj) (its : Array Value) (n : Nat), K.lookup a = some o ∧ o.cls = .type "list" ∧ o.dict = none ∧ o.data = .seq its n ∧ its.size ≤ sizeLine ∧ Vals xs its.toList
def SqT (K : PySem.W.Frag) (H : Hp) (a : Addr) (xs : List V) : Prop :=
  Rd H a (.tup xs) ∨
    ∃ (o : Obj) (its : Array Value) (n : Nat), K.lookup a = some o ∧ o.cls = .type "tuple" ∧ o.data = .seq its n ∧ its.size ≤ sizeLine ∧ Vals xs its.toList
def absV : Value → Option V
  | .none => some .non
  | .bool b => some (.bl b)
  | .int i _ => some (.int i)
  | .str x _ => some (.str x)
  | .bytes b _ => some (.byt b)
  | .float b _ => some (.flt b)
  | .ref a => some (.ref a)
  | .type n => some (.ty n)
  | _ => none
theorem RelV.abs {x : V} {u : Value} (r : RelV x u) : absV u = some x := by
  cases x with
  | non => cases r; rfl
  | bl _ => cases r; rfl
  | int _ => obtain ⟨t, rfl⟩ := r; rfl
  | str _ => obtain ⟨t, rfl⟩ := r; rfl
  | byt _ => obtain ⟨t, rfl⟩ := r; rfl
  | flt _ => obtain ⟨t, rfl⟩ := r; rfl
  | ref _ => cases r; rfl
  | ty _ => cases r; rfl
theorem RelV.inj {x y : V} {u : Value} (r : RelV x u) (q : RelV y u) : x = y := Option.some.inj (r.abs.symm.trans q.abs)
theorem Vals.inj : ∀ {xs ys : List V} {us : List Value}, Vals xs us → Vals ys us → xs = ys
  | _, _, _, .nil, .nil => rfl
  | _, _, _, .cons r t, .cons r' t' => by rw [r.inj r', Vals.inj t t']
section
variable {X : Cx} {pins : List (Addr × Obj)} {σ : St} {H : Hp} {s : Shared} {a : Addr} {xs ys : List V}
theorem SqL.of {K : PySem.W.Frag} (h : H a = some (.lst xs)) : SqL K H a xs := .inl (.inl h)
theorem SqT.of {K : PySem.W.Frag} (h : H a = some (.tup xs)) : SqT K H a xs := .inl (.inl h)
theorem Inv.list (I : Inv X pins σ H s) (h : SqL X.K H a xs) : ∃ its : List Value, Vals xs its ∧ PlainL s.heap a its.toArray ∧ xs.length ≤ sizeLine := by
  rcases h with h | ⟨o, its, n, hk, hc, hd, hs, hz, r⟩
  · obtain ⟨z, its, n, r, e⟩ := h.ok I.hok
    exact ⟨its, r, ⟨_, n, e, rfl, rfl, rfl⟩, z⟩
  · refine ⟨its.toList, r, ⟨o, n, I.kIn a o hk, hc, hd, by simpa using hs⟩, ?_⟩
    have e := r.length
    simp only [Array.length_toList] at e
    omega
theorem Inv.tuple (I : Inv X pins σ H s) (h : SqT X.K H a xs) : ∃ its : List Value, Vals xs its ∧ IsTup s.heap a its.toArray ∧ xs.length ≤ sizeLine := by
  rcases h with h | ⟨o, its, n, hk, hc, hs, hz, r⟩
  · obtain ⟨z, its, r, p⟩ := h.ok I.hok
    exact ⟨its, r, p, z⟩
  · refine ⟨its.toList, r, ⟨o, I.kIn a o hk, hc, n, by simpa using hs⟩, ?_⟩
    have e := r.length
    simp only [Array.length_toList] at e
    omega
theorem Inv.list_inj (I : Inv X pins σ H s) (h : SqL X.K H a xs) (h' : SqL X.K H a ys) : xs = ys := by
  obtain ⟨its, r, ⟨o, n, e, _, _, d⟩, _⟩ := I.list h
  obtain ⟨its', r', ⟨o', n', e', _, _, d'⟩, _⟩ := I.list h'
  rw [e] at e'; cases e'
  rw [d] at d'
  injection d' with d1 _
  have : its = its' := by simpa using congrArg Array.toList d1
  subst this
  exact r.inj r'
end
abbrev Cx.wish (X : Cx) (E : Value → Shared → Prop) : Cx := { X with xe := E }
abbrev Cx.nox (X : Cx) : Cx := X.wish fun _ _ => False
theorem Cx.Ok.wish {X : Cx} (ok : X.Ok) (E : Value → Shared → Prop) : (X.wish E).Ok :=
  ⟨ok.mod, ok.kind, ok.glob, ok.blt, ok.above, ok.inj, ok.has, ok.cab, ok.hd, ok.frames, ok.stk, ok.exf, ok.bs, ok.bsz, ok.noex, ok.exfs, ok.funs, ok.frf⟩
theorem Cx.Ok.unwish {X : Cx} {E : Value → Shared → Prop} (ok : (X.wish E).Ok) : X.Ok :=
  ⟨ok.mod, ok.kind, ok.glob, ok.blt, ok.above, ok.inj, ok.has, ok.cab, ok.hd, ok.frames, ok.stk, ok.exf, ok.bs, ok.bsz, ok.noex, ok.exfs, ok.funs, ok.frf⟩
section
variable {X : Cx} {pins : List (Addr × Obj)} {σ : St} {H : Hp} {s : Shared} {E : Value → Shared → Prop}
theorem Inv.wish (I : Inv X pins σ H s) (E : Value → Shared → Prop) : Inv (X.wish E) pins σ H s := ⟨I.ok.wish E, I.os, I.bare, I.base, I.loc, I.cell, I.free, I.freeC, I.pin, I.hok, I.len⟩
theorem Inv.unwish (I : Inv (X.wish E) pins σ H s) : Inv X pins σ H s := ⟨I.ok.unwish, I.os, I.bare, I.base, I.loc, I.cell, I.free, I.freeC, I.pin, I.hok, I.len⟩
theorem SP.unwish {D : Ends} {f : Flow} {s' : Shared} (h : SP (X.wish E) pins D f s') : SP X pins D f s' := by
  cases f with
  | next => obtain ⟨σ', H', I, q⟩ := h; exact ⟨σ', H', I.unwish, q⟩
  | brk => obtain ⟨σ', H', I, q⟩ := h; exact ⟨σ', H', I.unwish, q⟩
  | cont => obtain ⟨σ', H', I, q⟩ := h; exact ⟨σ', H', I.unwish, q⟩
  | ret u => obtain ⟨v, σ', H', I, r, q⟩ := h; exact ⟨v, σ', H', I.unwish, r, q⟩
theorem PE.nox {e : Expr} {t : TE} (h : PE X.nox e t) : PE X e t := fun pins s σ H Q I hw =>
  wpAny_mono (h pins s σ H Q (I.wish _) hw) (fun _ _ ⟨v, H', I', r, q⟩ => ⟨v, H', I'.unwish, r, q⟩) fun _ _ z => False.elim z
theorem PT.nox {e : Expr} {t : TT} (h : PT X.nox e t) : PT X e t := fun pins s σ H Q I hw =>
  wpAny_mono (h pins s σ H Q (I.wish _) hw) (fun _ _ ⟨H', I', q⟩ => ⟨H', I'.unwish, q⟩) fun _ _ z => False.elim z
theorem PSs.nox {st : List Stmt} {t : TS} (h : PSs X.nox st t) : PSs X st t := fun pins s σ H D I hw =>
  wpAny_mono (h pins s σ H D (I.wish _) hw) (fun _ _ q => q.unwish) fun _ _ z => False.elim z
end
section
variable {X : Cx} {st : Stmt} {rest : List Stmt} {t u : TS} {e : Expr} {te : TE} {pos : Pos}
def tNext : TS := fun D σ H => D.nx σ H
def tSeq (t u : TS) : TS := fun D σ H => t { D with nx := u D } σ H
theorem pss_nil : PSs X [] tNext := fun _ _ σ H _ I h => wpAny_execs_nil ⟨σ, H, I, h⟩
theorem pss_cons (h1 : PS X st t) (h2 : PSs X rest u) : PSs X (st :: rest) (tSeq t u) := by
  intro pins s σ H D I h
  refine wpAny_execs_cons (thn (h1 pins s σ H { D with nx := u D } I h) fun f s1 q => ?_)
  cases f with
  | next =>
    obtain ⟨σ', H', I', q⟩ := q
    exact h2 pins s1 σ' H' D I' q
  | ret v => exact q
  | brk => exact q
  | cont => exact q
theorem pss_one (h1 : PS X st t) : PSs X [st] t := by
  intro pins s σ H D I h
  refine wpAny_execs_cons (thn (h1 pins s σ H D I h) fun f s1 q => ?_)
  cases f with
  | next => exact wpAny_execs_nil q
  | ret v => exact q
  | brk => exact q
  | cont => exact q
def tBreak : TS := fun D σ H => D.bk σ H
theorem ps_break : PS X (.Break pos) tBreak := fun _ _ σ H _ I h => wpAny_Break ⟨σ, H, I, h⟩
theorem Inv.quiet {pins : List (Addr × Obj)} {σ : St} {H : Hp} {s : Shared} (I : Inv X pins σ H s) : interactive X.env = false := by simp [interactive, I.ok.kind]
def tDrop (te : TE) : TS := fun D σ H => te σ H fun _ H1 => D.nx σ H1
theorem ps_expr (he : PE X e te) (hs : swapsWith e none pos.line X.env = pure false := by rfl) : PS X (.Expr e pos) (tDrop te) := by
  intro pins s σ H D I h
  exact wpAny_Expr_any (thn (he pins s σ H _ I h) fun v s1 ⟨x, H1, I1, r1, q1⟩ => ⟨σ, H1, I1, q1⟩) I.quiet hs
def tRet (te : TE) : TS := fun D σ H => te σ H D.rt
theorem ps_ret (he : PE X e te) : PS X (.Return (some e) pos) (tRet te) := by
  intro pins s σ H D I h
  exact wpAny_Return_some (thn (he pins s σ H _ I h) fun v s1 ⟨x, H1, I1, r1, q1⟩ => ⟨x, σ, H1, I1, r1, q1⟩)
def tIfS (c : TT) (t u : TS) : TS := fun D σ H => c σ H fun b H1 => if b = true then t D σ H1 else u D σ H1
theorem ps_if {c : Expr} {a b : List Stmt} {tc : TT} (hc : PT X c tc) (ha : PSs X a t) (hb : PSs X b u) : PS X (.If c a b pos) (tIfS tc t u) := by
  intro pins s σ H D I h
  refine wpAny_If (thn (hc pins s σ H _ I h) fun d s1 ⟨H1, I1, q1⟩ => ?_)
  cases d with
  | true => exact ha pins s1 σ H1 D I1 q1
  | false => exact hb pins s1 σ H1 D I1 q1
def tNever : TS := fun _ _ _ => False
theorem ps_never : PS X st tNever := fun _ _ _ _ _ _ h => h.elim
end
abbrev TG := V → St → Hp → (St → Hp → Prop) → Prop
abbrev TGs := List V → St → Hp → (St → Hp → Prop) → Prop
def PG (X : Cx) (target : Expr) (t : TG) : Prop :=
  ∀ (pins : List (Addr × Obj)) (s : Shared) (σ : St) (H : Hp) (v : V) (u : Value) (Q : St → Hp → Prop), Inv X pins σ H s → RelV v u → t v σ H Q →
    wpAny (model X.prog X.w) X.A (assign target X.env u) (fun _ s' => ∃ σ' H', Inv X pins σ' H' s' ∧ Q σ' H') X.xe s
def PGs (X : Cx) (ts : List Expr) (t : TGs) : Prop :=
  ∀ (pins : List (Addr × Obj)) (s : Shared) (σ : St) (H : Hp) (vs : List V) (us : List Value) (Q : St → Hp → Prop), Inv X pins σ H s → Vals vs us → t vs σ H Q →
    wpAny (model X.prog X.w) X.A (assignInOrder ((assignEach ts X.env).map (·.2)) us) (fun _ s' => ∃ σ' H', Inv X pins σ' H' s' ∧ Q σ' H') X.xe s
abbrev TSet := V → V → V → Hp → (Hp → Prop) → Prop
section
variable {X : Cx} {pos : Pos}
def gName (i : Nat) : TG := fun v σ H Q => Q (σ.set i (some v)) H
theorem pg_name {i : Nat} {x : Str} (hN : X.N.Nodup) (hi : X.N[i]? = some x) (hx : Loc X.env.scope x) (hf : X.fn x = true ∨ X.env.scope.names.lookup x = some .local := by first | exact .inl rfl | exact .inr rfl | assumption) : PG X (.Name x pos) (gName i) := by
  intro pins s σ H v u Q I r h
  exact wpAny_assign_Name (store_ok I hN hi hx r (fun s' I' => ⟨_, H, I', h⟩) hf)
def gNil : TGs := fun vs σ H Q => vs = [] ∧ Q σ H
def gCons (t : TG) (u : TGs) : TGs := fun vs σ H Q => ∃ v r, vs = v :: r ∧ t v σ H fun σ' H' => u r σ' H' Q
theorem pgs_nil : PGs X [] gNil := by
  intro pins s σ H vs us Q I r h
  obtain ⟨e, h⟩ := h
  subst e
  cases r
  exact assignInOrder_nil ⟨σ, H, I, h⟩
theorem pgs_cons {e : Expr} {es : List Expr} {t : TG} {u : TGs} (h1 : PG X e t) (h2 : PGs X es u)
    (hs : (assignEach (e :: es) X.env).map (·.2) = assign e X.env :: (assignEach es X.env).map (·.2) := by rfl) : PGs X (e :: es) (gCons t u) := by
  intro pins s σ H vs us Q I r h
  obtain ⟨v, vr, e1, h⟩ := h
  subst e1
  cases r with
  | cons r rr =>
    rw [hs]
    refine assignInOrder_cons (thn (h1 pins s σ H _ _ _ I r h) fun _ s1 ⟨σ1, H1, I1, q1⟩ => ?_)
    exact h2 pins s1 σ1 H1 _ _ Q I1 rr q1
def gSub (to ti : TE) (t : TSet) : TG := fun v σ H Q => to σ H fun o H1 => ti σ H1 fun i H2 => t o i v H2 fun H3 => Q σ H3
def tAsg (te : TE) (g : TG) : TS := fun D σ H => te σ H fun x H1 => g x σ H1 D.nx
theorem ps_asg {tg e : Expr} {te : TE} {g : TG} (he : PE X e te) (hg : PG X tg g) (hs : swapsWithSole [tg] e pos.line X.env = pure false := by rfl) (hw : swappedStores [tg] e X.env = pure none := by rfl)
    (h1 : (assignEach [tg] X.env).map (·.2) = [assign tg X.env] := by rfl) : PS X (.Assign [tg] e pos) (tAsg te g) := by
  intro pins s σ H D I h
  refine wpAny_Assign_stores (thn (he pins s σ H _ I h) fun v s1 ⟨x, H1, I1, r1, q1⟩ => ?_) hs hw
  rw [h1]
  exact thn (hg pins s1 σ H1 x v _ I1 r1 q1) fun _ s2 q => q
theorem ps_set {i : Nat} {x : Str} {e : Expr} {te : TE} {pos' : Pos} (hN : X.N.Nodup) (hi : X.N[i]? = some x) (hx : Loc X.env.scope x) (he : PE X e te) (hs : swapsWith e (some (.Name x pos')) pos.line X.env = pure false := by rfl) (hf : X.fn x = true ∨ X.env.scope.names.lookup x = some .local := by first | exact .inl rfl | exact .inr rfl | assumption) :
    PS X (.Assign [.Name x pos'] e pos) (tAsg te (gName i)) := by
  intro pins s σ H D I h
  refine wpAny_Assign_Name (thn (he pins s σ H _ I h) fun v s1 ⟨y, H1, I1, r1, q1⟩ => ?_) hs
  exact store_ok I1 hN hi hx r1 (fun s2 I2 => ⟨_, H1, I2, q1⟩) hf
end
section
variable {X : Cx} {pos : Pos}
def tWhile (c : TT) (tb : TS) : TS := fun D σ H => ∃ W : Nat → St → Hp → Prop, (∃ m, W m σ H) ∧ ∀ m σ H, W m σ H →
  c σ H fun b H1 => if b = true then ∃ N : St → Hp → Prop, (∀ σ' H', N σ' H' → ∃ m', m' < m ∧ W m' σ' H') ∧ tb { D with nx := N, ct := N, bk := D.nx } σ H1 else D.nx σ H1
theorem ps_while {c : Expr} {body : List Stmt} {tc : TT} {tb : TS} (hp : PassesOwn (model X.prog X.w) X.A X.env X.xe) (hc : PT X c tc) (hb : PSs X body tb) : PS X (.While c body [] pos) (tWhile tc tb) := by
  intro pins s σ H D I h
  obtain ⟨W, ⟨m0, w0⟩, turn⟩ := h
  refine wpAny_While (codeAny_whileLoop (fun n s' => ∃ σ' H', Inv X pins σ' H' s' ∧ W n σ' H') ?_ m0 ⟨σ, H, I, w0⟩)
  rintro n s1 ⟨σ1, H1, I1, w1⟩
  refine wpAny_passesOwn hp (thn (hc pins s1 σ1 H1 _ I1 (turn n σ1 H1 w1)) fun b s2 ⟨H2, I2, q2⟩ => ?_)
  cases b with
  | true =>
    obtain ⟨N, hN, q2⟩ := q2
    rw [if_pos rfl]
    refine wpAny_passesOwn hp (thn (hb pins s2 σ1 H2 _ I2 q2) fun f s3 q3 => ?_)
    cases f with
    | next =>
      obtain ⟨σ3, H3, I3, n3⟩ := q3
      obtain ⟨m', hm, w3⟩ := hN σ3 H3 n3
      exact ⟨m', hm, σ3, H3, I3, w3⟩
    | cont =>
      obtain ⟨σ3, H3, I3, n3⟩ := q3
      obtain ⟨m', hm, w3⟩ := hN σ3 H3 n3
      exact ⟨m', hm, σ3, H3, I3, w3⟩
    | brk => exact q3
    | ret v => exact q3
  | false =>
    rw [if_neg Bool.false_ne_true]
    exact wpAny_execs_nil ⟨σ1, H2, I2, q2⟩
end
structure It where
  go : Nat → Hp → Prop
  yld : Nat → Hp → V → Hp → Prop
  stop : Nat → Hp → Prop
def FpOk (X : Cx) (pins : List (Addr × Obj)) (H : Hp) (b : Addr) : Prop :=
  H b = none ∧ b ≠ X.env.locals ∧ b ∉ X.fs ∧ (b ∈ X.ex ∨ X.s₀.heap.objs.size ≤ b) ∧ (∀ x c, X.env.cells.lookup x = some c → c ≠ b) ∧ ∀ p ∈ X.pn ++ pins, p.1 ≠ b
theorem Inv.fpOk {X : Cx} {pins : List (Addr × Obj)} {σ : St} {H H' : Hp} {s : Shared} {b : Addr} (I : Inv X pins σ H s) (hb : s.heap.objs.size ≤ b) (hn : H' b = none) : FpOk X pins H' b := by
  refine ⟨hn, Nat.ne_of_gt (Nat.lt_of_lt_of_le I.lt hb), I.nofs hb, .inr (Nat.le_trans I.sz hb), fun x c e z => ?_, fun p hp z => ?_⟩
  · obtain ⟨v, q⟩ := I.cell x c e
    exact absurd (Nat.lt_of_lt_of_le q.lt (by rw [z]; exact hb)) (Nat.lt_irrefl _)
  · exact absurd (Nat.lt_of_lt_of_le (Heap.lt_size (I.pin p hp).1) (by rw [z]; exact hb)) (Nat.lt_irrefl _)
structure Turn (P : Program) (w : World) (K : PySem.W.Frag) (tg : Expr) (J : It) (fp : List Addr) (it : Addr) (tn : Nat → Heap → Prop) : Prop where
  mem : it ∈ fp
  obj : ∀ i h, tn i h → ∀ b ∈ fp, ∃ o, h.get? b = some o ∧ ∀ v, o.data ≠ .cell v
  keep : ∀ i h h', tn i h → (∀ b ∈ fp, ∀ o, h.get? b = some o → h'.get? b = some o) → tn i h'
  item : ∀ (X : Cx), X.prog = P → X.w = w → X.K = K → X.calm = true → ∀ (i : Nat) (pins : List (Addr × Obj)) (s : Shared) (σ : St) (H : Hp) (E : Value → Shared → Prop), Inv X pins σ H s → (∀ b ∈ fp, FpOk X pins H b) → tn i s.heap → J.go i H →
    wpAny (model P w) X.A (pyNext (.ref it)) (fun r s1 => ∃ u, r = some u ∧
      wpAny (model P w) X.A (letOwnedTupleGo tg (.ref it) u) (fun _ s2 => ∃ x H', Inv X pins σ H' s2 ∧ RelV x u ∧ J.yld i H x H' ∧ tn (i + 1) s2.heap ∧ ∀ b ∈ fp, H' b = none) E s1) E s
  done : ∀ (X : Cx), X.prog = P → X.w = w → X.K = K → X.calm = true → ∀ (i : Nat) (pins : List (Addr × Obj)) (s : Shared) (σ : St) (H : Hp) (E : Value → Shared → Prop), Inv X pins σ H s → (∀ b ∈ fp, FpOk X pins H b) → tn i s.heap → J.stop i H →
    wpAny (model P w) X.A (pyNext (.ref it)) (fun r s1 => r = none ∧ Inv X pins σ H s1) E s
  self : ∀ (A : Around) (i : Nat) (s : Shared) (Q : Value → Shared → Prop) (E : Value → Shared → Prop), tn i s.heap → Q (.ref it) s → wpAny (model P w) A (pyIter (.ref it)) Q E s
abbrev TI := St → Hp → (It → Hp → Prop) → Prop
def PIE (X : Cx) (pins : List (Addr × Obj)) (σ : St) (tg : Expr) (R : It → Hp → Prop) (itv : Value) (s2 : Shared) : Prop :=
  ∃ (it : Addr) (fp : List Addr) (tn : Nat → Heap → Prop) (J : It) (H' : Hp), itv = .ref it ∧ Inv X pins σ H' s2 ∧ Turn X.prog X.w X.K tg J fp it tn ∧ tn 0 s2.heap ∧ (∀ b ∈ fp, FpOk X pins H' b) ∧ R J H'
def PI (X : Cx) (tg iter : Expr) (wi : TI) : Prop :=
  ∀ (pins : List (Addr × Obj)) (s : Shared) (σ : St) (H : Hp) (R : It → Hp → Prop), Inv X pins σ H s → wi σ H R →
    wpAny (model X.prog X.w) X.A (eval iter X.env) (fun v s1 => wpAny (model X.prog X.w) X.A (pyIter v) (PIE X pins σ tg R) X.xe s1) X.xe s
theorem go_of {M : Model} {A : Around} {E : Value → Shared → Prop} {s : Shared} {tg : Expr} {it : Addr} {u : Value} {o : Obj} {n : String} {vs : Array Value} {Q : Unit → Shared → Prop} (ho : s.heap.get? it = some o) (hc : o.cls = .type n) (hd : o.data = .fields vs)
    (hn : ["enumerate", "zip", "dict_itemiterator", "dict_reverseitemiterator", "odict_iterator", "itertools.zip_longest", "itertools.pairwise"].contains n = false) (hQ : Q () s) : wpAny M A (letOwnedTupleGo tg (.ref it) u) Q E s := by
  unfold letOwnedTupleGo
  cases tg <;> first
    | exact wpAny_pure hQ
    | (cases u <;> first
        | exact wpAny_pure hQ
        | (refine wpAny_bind (wpAny_load ho ?_)
           rw [hc, hd]
           show wpAny M A (if (["enumerate", "zip", "dict_itemiterator", "dict_reverseitemiterator", "odict_iterator", "itertools.zip_longest", "itertools.pairwise"].contains n && vs[0]? == some (rawInt _)) = true then _ else _) Q E s
           rw [if_neg (by intro h; rw [hn, Bool.false_and] at h; cases h)]
           exact wpAny_pure hQ))
def Itl (K : PySem.W.Frag) (a : Addr) : It :=
  ⟨fun i H => ∃ xs x, SqL K H a xs ∧ xs[i]? = some x, fun i H x H' => H' = H ∧ ∀ xs, SqL K H a xs → xs[i]? = some x, fun i H => ∃ xs, SqL K H a xs ∧ xs.length ≤ i⟩
def Itr (lo : Int) (n : Nat) : It := ⟨fun i _ => i < n, fun i H x H' => H' = H ∧ x = .int (lo + i), fun i _ => n ≤ i⟩
theorem turn_list {P : Program} {w : World} {K : PySem.W.Frag} {tg : Expr} (a it : Addr) : Turn P w K tg (Itl K a) [it] it (fun i h => h.IsListIter it a i) where
  mem := by simp
  obj := fun i h st b hb => by
    have e : b = it := by simpa using hb
    subst e
    obtain ⟨o, e, c, d⟩ := st
    exact ⟨o, e, fun v z => by rw [d] at z; cases z⟩
  keep := fun i h h' st k => st.at fun o e => k it (by simp) o e
  item := by
    intro X hP hw hK hc i pins s σ H E I hf st hg
    subst hP hw hK
    obtain ⟨xs, x, hq, hx⟩ := hg
    obtain ⟨its, rv, p, hz⟩ := I.list hq
    obtain ⟨u, hu, ru⟩ := rv.get hx
    obtain ⟨f0, f1, f2, f3, f4, f5⟩ := hf it (by simp)
    refine wpAny_pyNext_list_item st p.isList (x := u) (by simpa using hu) fun h' st' sb => ?_
    have I1 : Inv X pins σ H { s with heap := h' } := I.turned (t' := s.toks) (fun b o hb e => (sb.2 b hb).trans e) f0 f1 f3 f4 f5
    obtain ⟨o, e, c, d⟩ := id st'
    exact ⟨u, rfl, go_of (s := { s with heap := h' }) e c d (by decide) ⟨x, H, I1, ru, ⟨rfl, fun ys hy => by rw [I.list_inj hy hq]; exact hx⟩, st', fun b hb => (hf b hb).1⟩⟩
  done := by
    intro X hP hw hK hc i pins s σ H E I hf st hg
    subst hP hw hK
    obtain ⟨xs, hq, hx⟩ := hg
    obtain ⟨its, rv, p, hz⟩ := I.list hq
    obtain ⟨f0, f1, f2, f3, f4, f5⟩ := hf it (by simp)
    have hl := rv.length
    exact wpAny_pyNext_list_end (I.ok.hd hc) st p.isList (by simp; omega) fun h' eb => ⟨rfl, I.turned (t' := s.toks) (fun b o hb e => eb b o hb e) f0 f1 f3 f4 f5⟩
  self := fun _ _ _ _ _ st h => wpAny_pyIter_listiter st h
theorem turn_range {P : Program} {w : World} {K : PySem.W.Frag} {tg : Expr} (it : Addr) (lo : Int) (n : Nat) : Turn P w K tg (Itr lo n) [it] it (fun i h => IsRangeIter h it (lo + (i : Nat) * 1) ((n : Int) - (i : Nat)) 1) where
  mem := by simp
  obj := fun i h st b hb => by
    have e : b = it := by simpa using hb
    subst e
    exact ⟨_, st, fun v z => by
      have z' : Data.fields _ = Data.cell v := z
      cases z'⟩
  keep := fun i h h' st k => k it (by simp) _ st
  item := by
    intro X hP hw hK hc i pins s σ H E I hf st hg
    subst hP hw hK
    obtain ⟨f0, f1, f2, f3, f4, f5⟩ := hf it (by simp)
    have W := Walks.range (prog := X.prog) (w := X.w) (I.ok.hd hc) it lo 1 n
    refine W.item i s _ _ hg st fun v h' tk hv st' kk => ?_
    obtain ⟨t, rfl⟩ := hv
    have I1 : Inv X pins σ H { s with heap := h', toks := tk } := I.turned (fun b o hb e => kk b o (by simpa using hb) e) f0 f1 f3 f4 f5
    refine ⟨_, rfl, go_of (s := { s with heap := h', toks := tk }) (n := "range_iterator") st' rfl rfl (by decide) ⟨.int (lo + i), H, I1, ⟨t, ?_⟩, ⟨rfl, rfl⟩, st', fun b hb => (hf b hb).1⟩⟩
    rw [Int.mul_one]
  done := by
    intro X hP hw hK hc i pins s σ H E I hf st hg
    subst hP hw hK
    obtain ⟨f0, f1, f2, f3, f4, f5⟩ := hf it (by simp)
    exact wpAny_pyNext_range_end (I.ok.hd hc) st (by have : n ≤ i := hg; omega) fun h' eb => ⟨rfl, I.turned (t' := s.toks) (fun b o hb e => eb b o hb e) f0 f1 f3 f4 f5⟩
  self := fun _ _ _ _ _ st h => wpAny_pyIter_rangeiter st h
end L2
namespace L2
open PySem PySem.Spec PyProof.Rows
section
variable {X : Cx} {tg : Expr}
def iList (K : PySem.W.Frag) (tl : TE) : TI := fun σ H R => tl σ H fun x H1 => ∃ a, x = .ref a ∧ (∃ xs, SqL K H1 a xs) ∧ R (Itl K a) H1
theorem pi_list {l : Expr} {tl : TE} (hl : PE X l tl) : PI X tg l (iList X.K tl) := by
  intro pins s σ H R I h
  refine thn (hl pins s σ H _ I h) fun v s1 ⟨x, H1, I1, r1, q1⟩ => ?_
  obtain ⟨a, e, ⟨xs, hq⟩, q⟩ := q1
  subst e
  cases r1
  obtain ⟨its, rv, p, hz⟩ := I1.list hq
  refine wpAny_pyIter_list p.isList ?_
  refine ⟨s1.heap.objs.size, [s1.heap.objs.size], _, _, H1, rfl, I1.kept (t' := s1.toks) fun b o e => Heap.get?_push_of_some _ e, turn_list a _, ⟨_, Heap.get?_push_size _ rfl, rfl, rfl⟩, fun b hb => ?_, q⟩
  have e : b = s1.heap.objs.size := by simpa using hb
  subst e
  exact I1.fpOk (Nat.le_refl _) (I1.hok.fresh (Nat.le_refl _))
theorem range_it {pins : List (Addr × Obj)} {σ : St} {H : Hp} {s : Shared} {R : It → Hp → Prop} {E : Value → Shared → Prop} {lo hi : Int} {t u v : Tok} {tk : Nat} (I : Inv X pins σ H s) (h1 : -(2 ^ 62) ≤ lo) (h2 : lo < 2 ^ 62) (h3 : -(2 ^ 62) ≤ hi) (h4 : hi < 2 ^ 62)
    (q : R (Itr lo (hi - lo).toNat) H) : wpAny (model X.prog X.w) X.A (pyIter (.ref s.heap.objs.size)) (PIE X pins σ tg R) E { s with heap := s.heap.push { cls := .type "range", data := .fields #[.int lo t, .int hi u, .int 1 v] }, toks := tk } := by
  refine wpAny_pyIter_range (IsRange.new ..) (small_one h1 h2 h3 h4) ?_
  have I1 : Inv X pins σ H { s with heap := s.heap.push { cls := .type "range", data := .fields #[.int lo t, .int hi u, .int 1 v] }, toks := tk } := I.kept fun b o e => Heap.get?_push_of_some _ e
  refine ⟨(s.heap.push { cls := .type "range", data := .fields #[.int lo t, .int hi u, .int 1 v] }).objs.size, [(s.heap.push { cls := .type "range", data := .fields #[.int lo t, .int hi u, .int 1 v] }).objs.size], _, _, H, rfl,
    I1.kept (t' := tk) fun b o e => Heap.get?_push_of_some _ e, turn_range _ lo (hi - lo).toNat, ?_, fun b hb => ?_, q⟩
  · have e1 : lo + ((0 : Nat) : Int) * 1 = lo := by simp
    have e2 : (((hi - lo).toNat : Nat) : Int) - ((0 : Nat) : Int) = Builtin.Range.rangeSize lo hi 1 := by rw [rangeSize_one]; split <;> omega
    show IsRangeIter _ _ (lo + ((0 : Nat) : Int) * 1) ((((hi - lo).toNat : Nat) : Int) - ((0 : Nat) : Int)) 1
    rw [e1, e2]
    exact Heap.get?_push_size _ rfl
  · have e : b = (s.heap.push { cls := .type "range", data := .fields #[.int lo t, .int hi u, .int 1 v] }).objs.size := by simpa using hb
    subst e
    exact I1.fpOk (Nat.le_refl _) (I1.hok.fresh (Nat.le_refl _))
def iRng1 (ta : TA) : TI := fun σ H R => ta σ H fun vs H1 => ∃ j : Int, vs = [.int j] ∧ -(2 ^ 62) ≤ j ∧ j < 2 ^ 62 ∧ R (Itr 0 j.toNat) H1
theorem pi_range1 {a : Expr} {ta : TA} {p pos : Pos} (hg : Gl X "range") (hm : X.mg "range" = none) (ha : PA X [a] ta) (hs : starEach [a] X.env = [(false, eval a X.env)] := by rfl) : PI X tg (.Call (.Name "range" p) [a] [] pos) (iRng1 ta) := by
  intro pins s σ H R I h
  refine Call_ (ld_blt I hg hm boot_range (PyProof.Rows.callWith_type1 (thn (ha pos pins s σ H _ I h) fun us s1 ⟨vs, H1, I1, r1, q1⟩ => ?_) hs rfl))
  obtain ⟨j, e, q1, q2, q⟩ := q1
  subst e
  cases r1 with
  | cons r rr =>
    cases rr
    obtain ⟨t, rfl⟩ := r
    exact call_range_1 (range_it I1 (by omega) (by omega) q1 q2 (by simpa using q))
def tFor (wi : TI) (g : TG) (tb : TS) : TS := fun D σ H => wi σ H fun J H1 => ∃ W : Nat → Nat → St → Hp → Prop, (∃ m, W 0 m σ H1) ∧ ∀ i m σ H, W i m σ H →
  (J.stop i H ∧ D.nx σ H) ∨ (J.go i H ∧ ∃ N : St → Hp → Prop, (∀ σ' H', N σ' H' → ∃ m', m' < m ∧ W (i + 1) m' σ' H') ∧ ∀ x H', J.yld i H x H' → g x σ H' fun σ2 H2 => tb { D with nx := N, ct := N, bk := D.nx } σ2 H2)
def pinsAt (fp : List Addr) (h : Heap) : List (Addr × Obj) := fp.filterMap fun b => (h.get? b).map fun o => (b, o)
theorem mem_pinsAt {fp : List Addr} {h : Heap} {b : Addr} {o : Obj} (hb : b ∈ fp) (e : h.get? b = some o) : (b, o) ∈ pinsAt fp h := List.mem_filterMap.mpr ⟨b, hb, by rw [e]; rfl⟩
theorem of_pinsAt {fp : List Addr} {h : Heap} {p : Addr × Obj} (hp : p ∈ pinsAt fp h) : p.1 ∈ fp ∧ h.get? p.1 = some p.2 := by
  obtain ⟨b, hb, e⟩ := List.mem_filterMap.mp hp
  cases q : h.get? b with
  | none => rw [q] at e; cases e
  | some o =>
    rw [q] at e
    have e' : (b, o) = p := Option.some.inj e
    subst e'
    exact ⟨hb, q⟩
theorem Inv.pinned {pins : List (Addr × Obj)} {σ : St} {H : Hp} {s : Shared} {fp : List Addr} (I : Inv X pins σ H s) (hf : ∀ b ∈ fp, FpOk X pins H b) (ho : ∀ b ∈ fp, ∃ o, s.heap.get? b = some o ∧ ∀ v, o.data ≠ .cell v) : Inv X (pins ++ pinsAt fp s.heap) σ H s :=
  I.pins_of fun p hp => (List.mem_append.mp hp).elim (fun z => I.pin p (List.mem_append_right _ z)) fun z => by
    obtain ⟨hb, e⟩ := of_pinsAt z
    obtain ⟨f0, f1, f2, _⟩ := hf p.1 hb
    obtain ⟨o, e', d⟩ := ho p.1 hb
    rw [e] at e'; cases e'
    exact ⟨e, f0, f1, f2, d⟩
theorem Inv.unpinned {pins pl : List (Addr × Obj)} {σ : St} {H : Hp} {s : Shared} (I : Inv X (pins ++ pl) σ H s) : Inv X pins σ H s := I.pins_of fun p hp => I.pin p (List.mem_append_right _ (List.mem_append_left _ hp))
theorem ps_for {iter : Expr} {body : List Stmt} {wi : TI} {g : TG} {tb : TS} {pos : Pos} (hp : PassesOwn (model X.prog X.w) X.A X.env X.xe) (hc : X.calm = true) (hi : PI X tg iter wi) (hg : PG X tg g) (hb : PSs X body tb)
    (hs : ∀ x, foldedSetIterable iter X.env x = pure x := by intro _; rfl) : PS X (.For tg iter body [] pos) (tFor wi g tb) := by
  intro pins s σ H D I h
  refine wpAny_For (thn (hi pins s σ H _ I h) fun v s1 h1 => thn h1 fun itv s2 h2 => ?_) hs
  obtain ⟨it, fp, tn, J, H2, e, I2, T, st2, f2, W, ⟨m0, w0⟩, turn⟩ := h2
  subst e
  have stat : ∀ {H' : Hp}, (∀ b ∈ fp, H' b = none) → ∀ b ∈ fp, FpOk X pins H' b := fun hn b hb => ⟨hn b hb, (f2 b hb).2⟩
  refine codeAny_forLoop_any (fun n s' => ∃ i σ' H', Inv X pins σ' H' s' ∧ tn i s'.heap ∧ (∀ b ∈ fp, H' b = none) ∧ W i n σ' H') ?_ m0 ⟨0, σ, H2, I2, st2, fun b hb => (f2 b hb).1, w0⟩
  rintro n s3 ⟨i, σ3, H3, I3, st3, fr3, w3⟩
  rcases turn i n σ3 H3 w3 with ⟨stop, qn⟩ | ⟨go, N, hN, step⟩
  · refine wpAny_passesOwn hp (thn (T.done X rfl rfl rfl hc i pins s3 σ3 H3 X.xe I3 (stat fr3) st3 stop) fun r s4 ⟨hr, I4⟩ => ?_)
    subst hr
    exact wpAny_execs_nil ⟨σ3, H3, I4, qn⟩
  · refine wpAny_passesOwn hp (thn (T.item X rfl rfl rfl hc i pins s3 σ3 H3 X.xe I3 (stat fr3) st3 go) fun r s4 ⟨u, hr, h4⟩ => ?_)
    subst hr
    refine wpAny_passesOwn hp (thn h4 fun _ s5 ⟨x, H5, I5, r5, y5, st5, fr5⟩ => ?_)
    have I5' := I5.pinned (stat fr5) (T.obj _ _ st5)
    refine wpAny_passesOwn hp (thn (hg _ s5 σ3 H5 x u _ I5' r5 (step x H5 y5)) fun _ s6 ⟨σ6, H6, I6, q6⟩ => ?_)
    refine wpAny_passesOwn hp (thn (hb _ s6 σ6 H6 _ I6 q6) fun f s7 q7 => ?_)
    have again : ∀ {σ7 : St} {H7 : Hp}, Inv X (pins ++ pinsAt fp s5.heap) σ7 H7 s7 → N σ7 H7 → ∃ m, m < n ∧ ∃ i σ' H', Inv X pins σ' H' s7 ∧ tn i s7.heap ∧ (∀ b ∈ fp, H' b = none) ∧ W i m σ' H' := fun {σ7 H7} I7 n7 => by
      obtain ⟨m', hm, w7⟩ := hN σ7 H7 n7
      refine ⟨m', hm, i + 1, σ7, H7, I7.unpinned, T.keep _ _ _ st5 fun b hb o e => (I7.pin (b, o) (List.mem_append_right _ (List.mem_append_right _ (mem_pinsAt hb e)))).1, fun b hb => ?_, w7⟩
      obtain ⟨o, e, d⟩ := T.obj _ _ st5 b hb
      exact (I7.pin (b, o) (List.mem_append_right _ (List.mem_append_right _ (mem_pinsAt hb e)))).2.1
    cases f with
    | next => obtain ⟨σ7, H7, I7, n7⟩ := q7; exact again I7 n7
    | cont => obtain ⟨σ7, H7, I7, n7⟩ := q7; exact again I7 n7
    | brk => obtain ⟨σ7, H7, I7, q7⟩ := q7; exact ⟨σ7, H7, I7.unpinned, q7⟩
    | ret v => obtain ⟨x7, σ7, H7, I7, r7, q7⟩ := q7; exact ⟨x7, σ7, H7, I7.unpinned, r7, q7⟩
end
end L2
namespace L2
open PySem PySem.Spec PyProof.Rows
abbrev R2 := V → V → Hp → VK → Prop
def OpR (X : Cx) (f : Value → Value → Sem Value) (r : R2) : Prop :=
  ∀ (pins : List (Addr × Obj)) (s : Shared) (σ : St) (H : Hp) (x y : V) (v u : Value) (Q : VK), Inv X pins σ H s → RelV x v → RelV y u → r x y H Q →
    wpAny (model X.prog X.w) X.A (f v u) (EP X pins σ Q) X.xe s
def UnR (X : Cx) (f : Value → Sem Value) (r : V → Hp → VK → Prop) : Prop :=
  ∀ (pins : List (Addr × Obj)) (s : Shared) (σ : St) (H : Hp) (x : V) (v : Value) (Q : VK), Inv X pins σ H s → RelV x v → r x H Q →
    wpAny (model X.prog X.w) X.A (f v) (EP X pins σ Q) X.xe s
def CallR (X : Cx) (f : Value) (r : List V → Hp → VK → Prop) : Prop :=
  ∀ (pins : List (Addr × Obj)) (s : Shared) (σ : St) (H : Hp) (xs : List V) (us : List Value) (Q : VK), Inv X pins σ H s → Vals xs us → r xs H Q →
    wpAny (model X.prog X.w) X.A (call f us) (EP X pins σ Q) X.xe s
def tOp (r : R2) (ta tb : TE) : TE := fun σ H Q => ta σ H fun x H1 => tb σ H1 fun y H2 => r x y H2 Q
def tUn (r : V → Hp → VK → Prop) (ta : TE) : TE := fun σ H Q => ta σ H fun x H1 => r x H1 Q
def rI (C : Int → Int → Prop) (g : Int → Int → V) : R2 := fun x y H Q => ∃ i j, x = .int i ∧ y = .int j ∧ C i j ∧ Q (g i j) H
def rI0 (g : Int → Int → V) : R2 := fun x y H Q => ∃ i j, x = .int i ∧ y = .int j ∧ Q (g i j) H
def rU (g : Int → V) : V → Hp → VK → Prop := fun x H Q => ∃ i, x = .int i ∧ Q (g i) H
section
variable {X : Cx} {a b c : Expr} {ta tb tc : TE} {pos : Pos}
theorem binT (ha : PE X a ta) (hb : PE X b tb) {pins : List (Addr × Obj)} {s : Shared} {σ : St} {H : Hp} {R : V → V → Hp → Prop} (I : Inv X pins σ H s)
    (h : ta σ H fun x H1 => tb σ H1 fun y H2 => R x y H2) {Q : Value → Shared → Prop} {f : Value → Value → Sem Value}
    (hf : ∀ v u s2 x y H2, Inv X pins σ H2 s2 → RelV x v → RelV y u → R x y H2 → wpAny (model X.prog X.w) X.A (f v u) Q X.xe s2) :
    wpAny (model X.prog X.w) X.A (eval a X.env) (fun v s₁ => wpAny (model X.prog X.w) X.A (eval b X.env) (fun u s₂ => wpAny (model X.prog X.w) X.A (f v u) Q X.xe s₂) X.xe s₁) X.xe s := by
  refine thn (ha pins s σ H _ I h) fun v s1 ⟨x, H1, I1, r1, q1⟩ => ?_
  refine thn (hb pins s1 σ H1 _ I1 q1) fun u s2 ⟨y, H2, I2, r2, q2⟩ => ?_
  exact hf v u s2 x y H2 I2 r1 r2 q2
theorem pe_op {op : Operator} {r : R2} (ho : OpR X (binaryOp op) r) (ha : PE X a ta) (hb : PE X b tb) : PE X (.BinOp a op b pos) (tOp r ta tb) := by
  intro pins s σ H Q I h
  exact wpAny_BinOp (binT ha hb I h fun v u s2 x y H2 I2 rx ry q => ho pins s2 σ H2 x y v u Q I2 rx ry q)
theorem pe_un {op : UnaryOp} {r : V → Hp → VK → Prop} (ho : UnR X (unaryOp op) r) (ha : PE X a ta) : PE X (.UnaryOp op a pos) (tUn r ta) := by
  intro pins s σ H Q I h
  exact UnaryOp_ (thn (ha pins s σ H _ I h) fun v s1 ⟨x, H1, I1, r1, q1⟩ => ho pins s1 σ H1 x v Q I1 r1 q1)
theorem opI {f : Value → Value → Sem Value} {C : Int → Int → Prop} {g : Int → Int → Int}
    (rule : ∀ (i j : Int) (t u : Tok) (s : Shared) (Q : Value → Shared → Prop) (E : Value → Shared → Prop), C i j → Q (.int (g i j) s.toks) { s with toks := s.toks + 1 } → wpAny (model X.prog X.w) X.A (f (.int i t) (.int j u)) Q E s) :
    OpR X f (rI C fun i j => .int (g i j)) := by
  intro pins s σ H x y v u Q I rx ry h
  obtain ⟨i, j, rfl, rfl, hc, q⟩ := h
  obtain ⟨t, rfl⟩ := rx
  obtain ⟨t', rfl⟩ := ry
  exact rule i j t t' s _ _ hc ⟨.int (g i j), H, I.tok _, ⟨_, rfl⟩, q⟩
theorem opI0 {f : Value → Value → Sem Value} {g : Int → Int → Int}
    (rule : ∀ (i j : Int) (t u : Tok) (s : Shared) (Q : Value → Shared → Prop) (E : Value → Shared → Prop), Q (.int (g i j) s.toks) { s with toks := s.toks + 1 } → wpAny (model X.prog X.w) X.A (f (.int i t) (.int j u)) Q E s) :
    OpR X f (rI0 fun i j => .int (g i j)) := by
  intro pins s σ H x y v u Q I rx ry h
  obtain ⟨i, j, rfl, rfl, q⟩ := h
  obtain ⟨t, rfl⟩ := rx
  obtain ⟨t', rfl⟩ := ry
  exact rule i j t t' s _ _ ⟨.int (g i j), H, I.tok _, ⟨_, rfl⟩, q⟩
theorem opB0 {f : Value → Value → Sem Value} {g : Int → Int → Bool}
    (rule : ∀ (i j : Int) (t u : Tok) (s : Shared) (Q : Value → Shared → Prop) (E : Value → Shared → Prop), Q (.bool (g i j)) s → wpAny (model X.prog X.w) X.A (f (.int i t) (.int j u)) Q E s) :
    OpR X f (rI0 fun i j => .bl (g i j)) := by
  intro pins s σ H x y v u Q I rx ry h
  obtain ⟨i, j, rfl, rfl, q⟩ := h
  obtain ⟨t, rfl⟩ := rx
  obtain ⟨t', rfl⟩ := ry
  exact rule i j t t' s _ _ ⟨.bl (g i j), H, I, rfl, q⟩
def CDiv (i j : Int) : Prop := 0 < j ∧ j < 1073741824
def CPow (i j : Int) : Prop := 0 ≤ j ∧ j ≤ 1000000 ∧ i.natAbs < 2 ^ 64
def CMul (i j : Int) : Prop := (-(2 ^ 64) < i ∧ i < 2 ^ 64) ∨ (-(2 ^ 64) < j ∧ j < 2 ^ 64)
theorem CMul.ok {i j : Int} (h : CMul i j) : IntMulOk i j := by
  rcases h with ⟨h1, h2⟩ | ⟨h1, h2⟩
  · exact .of_left (intBits_le_64 h1 h2)
  · exact .of_right (intBits_le_64 h1 h2)
theorem op_add : OpR X (binaryOp .Add) (rI0 fun i j => .int (i + j)) := opI0 fun _ _ _ _ _ _ _ q => add_int q
theorem op_sub : OpR X (binaryOp .Sub) (rI0 fun i j => .int (i - j)) := opI0 fun _ _ _ _ _ _ _ q => sub_int q
theorem op_fdiv : OpR X (binaryOp .FloorDiv) (rI CDiv fun i j => .int (i / j)) := opI fun i j _ _ _ _ _ hc q => by
  have h1 : (0 : Int) < j := hc.1
  have h2 : j < 1073741824 := hc.2
  exact floordiv_int (by omega) (by rw [Int.fdiv_eq_ediv_of_nonneg i (by omega)]; exact q) (.inl (PyProof.noPylong_small (by omega)))
theorem op_mod : OpR X (binaryOp .Mod) (rI (fun _ j => 0 < j) fun i j => .int (i % j)) := opI fun i j _ _ _ _ _ hc q => by
  have h1 : (0 : Int) < j := hc
  exact mod_int' (by omega) (by rw [Int.fmod_eq_emod_of_nonneg i (by omega)]; exact q)
theorem op_pow : OpR X (binaryOp .Pow) (rI CPow fun i j => .int (i ^ j.toNat)) := opI fun _ _ _ _ _ _ _ hc q => pow_int_small hc.1 hc.2.1 hc.2.2 q
theorem unI {f : Value → Sem Value} {g : Int → Int}
    (rule : ∀ (i : Int) (t : Tok) (s : Shared) (Q : Value → Shared → Prop) (E : Value → Shared → Prop), Q (.int (g i) s.toks) { s with toks := s.toks + 1 } → wpAny (model X.prog X.w) X.A (f (.int i t)) Q E s) :
    UnR X f (rU fun i => .int (g i)) := by
  intro pins s σ H x v Q I rx h
  obtain ⟨i, rfl, q⟩ := h
  obtain ⟨t, rfl⟩ := rx
  exact rule i t s _ _ ⟨.int (g i), H, I.tok _, ⟨_, rfl⟩, q⟩
theorem un_neg : UnR X (unaryOp .USub) (rU fun i => .int (-i)) := unI fun _ _ _ _ _ q => neg_int q
end
section
variable {X : Cx} {a b c : Expr} {ta tb tc : TE} {pos : Pos}
theorem fin_bl {pins : List (Addr × Obj)} {σ : St} {H : Hp} {s : Shared} {Q : VK} {k k' : Bool} (I : Inv X pins σ H s) (q : Q (.bl k) H) (e : k = k') : EP X pins σ Q (.bool k') s := by
  subst e
  exact ⟨.bl k, H, I, rfl, q⟩
theorem op_lt : OpR X (compareOp .Lt) (rI0 fun i j => .bl (decide (i < j))) := opB0 fun _ _ _ _ _ _ _ q => lt_int q
theorem op_le : OpR X (compareOp .LtE) (rI0 fun i j => .bl (decide (i ≤ j))) := opB0 fun _ _ _ _ _ _ _ q => le_int q
theorem op_gt : OpR X (compareOp .Gt) (rI0 fun i j => .bl (decide (j < i))) := opB0 fun _ _ _ _ _ _ _ q => gt_int q
theorem op_ge : OpR X (compareOp .GtE) (rI0 fun i j => .bl (decide (j ≤ i))) := opB0 fun _ _ _ _ _ _ _ q => ge_int q
theorem op_isN : OpR X (compareOp .Is) (fun x y H Q => y = .non ∧ Q (.bl (decide (x = .non))) H) := by
  intro pins s σ H x y v u Q I rx ry h
  obtain ⟨rfl, q⟩ := h
  cases ry
  refine is_none_gen (fin_bl I q ?_)
  cases x <;> first
    | (cases rx; rfl)
    | (obtain ⟨t, rfl⟩ := rx; rfl)
theorem op_notN : OpR X (compareOp .IsNot) (fun x y H Q => y = .non ∧ Q (.bl (!decide (x = .non))) H) := by
  intro pins s σ H x y v u Q I rx ry h
  obtain ⟨rfl, q⟩ := h
  cases ry
  refine isnot_none_gen (fin_bl I q ?_)
  cases x <;> first
    | (cases rx; rfl)
    | (obtain ⟨t, rfl⟩ := rx; rfl)
theorem OpR.or {f : Value → Value → Sem Value} {r r' : R2} (h : OpR X f r) (h' : OpR X f r') : OpR X f (fun x y H Q => r x y H Q ∨ r' x y H Q) := by
  intro pins s σ H x y v u Q I rx ry q
  rcases q with q | q
  · exact h pins s σ H x y v u Q I rx ry q
  · exact h' pins s σ H x y v u Q I rx ry q
theorem nomark (b : Expr) {op : CmpOp} (h : op ≠ .In := by decide) (h2 : op ≠ .NotIn := by decide) : behindInMarks op b = false := by
  have e1 : (op == CmpOp.In) = false := by cases op <;> first | rfl | exact absurd rfl h
  have e2 : (op == CmpOp.NotIn) = false := by cases op <;> first | rfl | exact absurd rfl h2
  cases b <;> simp [behindInMarks, e1, e2]
theorem pe_cmpR {op : CmpOp} {r : R2} (ho : OpR X (compareOp op) r) (ha : PE X a ta) (hb : PE X b tb) (hm : behindInMarks op b = false) : PE X (.Compare a [op] [b] pos) (tOp r ta tb) := by
  intro pins s σ H Q I h
  exact wpAny_Compare1 (binT ha hb I h fun v u s2 x y H2 I2 rx ry q => ho pins s2 σ H2 x y v u Q I2 rx ry q) hm
def tTest (t : TE) : TT := fun σ H Q => t σ H fun x H' => ∃ k, x = .bl k ∧ Q k H'
theorem pt_cmpR {op : CmpOp} {r : R2} (ho : OpR X (compareOp op) r) (ha : PE X a ta) (hb : PE X b tb) (hm : behindInMarks op b = false) : PT X (.Compare a [op] [b] pos) (tTest (tOp r ta tb)) := by
  intro pins s σ H Q I h
  refine wpAny_isTrue_Compare1 (thn (ha pins s σ H _ I h) fun v s1 ⟨x, H1, I1, r1, q1⟩ => thn (hb pins s1 σ H1 _ I1 q1) fun u s2 ⟨y, H2, I2, r2, q2⟩ =>
    thn (ho pins s2 σ H2 x y v u _ I2 r1 r2 q2) fun c s3 ⟨z, H3, I3, r3, k, e, q3⟩ => ?_) hm
  subst e
  cases r3
  exact wpAny_truthy_bool ⟨H3, I3, q3⟩
theorem line63 : (sizeLine : Nat) < 2 ^ 63 := by rw [sizeLine_eq]; decide
theorem op_add_str : OpR X (binaryOp .Add) (fun x y H Q => ∃ i j, x = .str i ∧ y = .str j ∧ i.length + j.length ≤ sizeLine ∧ Q (.str (i ++ j)) H) := by
  intro pins s σ H x y v u Q I rx ry h
  obtain ⟨i, j, rfl, rfl, hz, q⟩ := h
  obtain ⟨t, rfl⟩ := rx
  obtain ⟨t', rfl⟩ := ry
  exact add_str (fun t' tk => ⟨.str (i ++ j), H, I.tok _, ⟨_, rfl⟩, q⟩) hz
theorem vals1 {x : V} {us : List Value} (r : Vals [x] us) : ∃ u, us = [u] ∧ RelV x u := by
  cases r with
  | cons r1 r2 => cases r2; exact ⟨_, rfl, r1⟩
theorem vals2 {x y : V} {us : List Value} (r : Vals [x, y] us) : ∃ u w', us = [u, w'] ∧ RelV x u ∧ RelV y w' := by
  cases r with
  | cons r1 r2 =>
    cases r2 with
    | cons r3 r4 => cases r4; exact ⟨_, _, rfl, r1, r3⟩
theorem call_max2 (hc : X.calm = true) : CallR X (.builtin "max") (fun xs H Q => ∃ i j, xs = [.int i, .int j] ∧ Q (.int (if j > i then j else i)) H) := by
  intro pins s σ H xs us Q I r h
  obtain ⟨i, j, rfl, q⟩ := h
  obtain ⟨u, w', rfl, ⟨t, rfl⟩, ⟨t', rfl⟩⟩ := vals2 r
  refine max_two_ints (I.ok.hd hc) fun h' tk k => ⟨_, H, I.kept k, ?_, q⟩
  by_cases hj : j > i
  · rw [if_pos hj, if_pos hj]; exact ⟨_, rfl⟩
  · rw [if_neg hj, if_neg hj]; exact ⟨_, rfl⟩
theorem call_int1 : CallR X (.type "int") (fun xs H Q => (∃ i, xs = [.int i] ∧ Q (.int i) H) ∨ ∃ k, xs = [.bl k] ∧ Q (.int (if k then 1 else 0)) H) := by
  intro pins s σ H xs us Q I r h
  rcases h with ⟨i, rfl, q⟩ | ⟨k, rfl, q⟩
  · obtain ⟨u, rfl, t, rfl⟩ := vals1 r
    exact call_int_int ⟨.int i, H, I, ⟨_, rfl⟩, q⟩
  · obtain ⟨u, rfl, r1⟩ := vals1 r
    cases r1
    exact call_int_bool ⟨.int (if k then 1 else 0), H, I.tok _, ⟨_, rfl⟩, q⟩
end
end L2
namespace L2
open PySem PySem.Spec PyProof.Rows
structure ObjM (h : Heap) (x dx C : Addr) (mA : Str → Option Value) : Prop where
  obj : h.get? x = some (PySem.W.instObj C dx)
  ns : h.Ns1 dx mA
  ne : dx ≠ x
theorem lookIn_ns {h : Heap} {dx : Addr} {mA : Str → Option Value} (n : h.Ns1 dx mA) : ∃ od, h.get? dx = some od ∧ ∀ name, PySem.W.lookIn name od = some (mA name) := by
  obtain ⟨o, es, ep, ho, hd, hk, _, hm⟩ := n
  refine ⟨o, ho, fun name => ?_⟩
  have e := hm name
  unfold nsFind findBy at e
  rw [← Array.find?_toList] at e
  unfold PySem.W.lookIn
  rw [hd]
  dsimp only
  split
  · rename_i y q
    rw [q] at e
    exact congrArg some e
  · rename_i q
    rw [q] at e
    have a : es.toList.any (·.refKey) = false := by
      rw [List.any_eq_false]
      intro y hy
      obtain ⟨z, t, hkey⟩ := hk y (Array.mem_toList_iff.mp hy)
      simp [DictEntry.refKey, hkey]
    have a' : ¬ es.toList.any (·.refKey) = true := by rw [a]; exact Bool.false_ne_true
    rw [if_neg a']
    exact congrArg some e
theorem ObjM.look {h : Heap} {x dx C : Addr} {mA : Str → Option Value} (I : ObjM h x dx C mA) : ∃ od, PySem.W.InstAt h x (PySem.W.instObj C dx) C (some od) ∧ ∀ name, PySem.W.lookIn name od = some (mA name) :=
  let ⟨od, ho, hl⟩ := lookIn_ns I.ns
  ⟨od, ⟨I.obj, rfl, rfl, ho⟩, hl⟩
section
variable {prog : Program} {w : World} {A : Around} {E : Value → Shared → Prop} {s : Shared} {K : PySem.W.Frag} {x dx C f : Addr} {mA : Str → Option Value} {name : Str} {v : Value}
end
theorem RelO.none_of {o : Option Value} (r : RelO none o) : o = none := by
  cases o with
  | none => rfl
  | some u => exact (show False from r).elim
section
variable {P : Program} {w : World} {H H' : Hp} {h h' : Heap} {a C dx : Addr} {fs fs' : List (Str × V)}
theorem ins_get (hok : HOk P w H h) (e : H a = some (.ins C dx fs)) : ∃ mA, ObjM h a dx C mA ∧ (∀ f, RelO (fs.lookup f) (mA f)) ∧ PySem.Within mA (fs.map (·.1)) ∧ fs.length ≤ 1000 ∧ H dx = some (.own a) := by
  obtain ⟨d, z, ne, ob, mA, n, r, q⟩ := (show ObjOk P w H h a (.ins C dx fs) from hok a _ e)
  exact ⟨mA, ⟨ob, n, ne⟩, r, q, z, d⟩
end
structure Cls (K : PySem.W.Frag) (C : Addr) : Prop where
  pg : PySem.W.plainGet K C Str.empty = true
  hd : PySem.W.hasDictIn K C = true
  po : PySem.W.plainOver K C = true
  sa : PySem.W.findIn K (.ref C) "__setattr__" = some (some (.builtin "object.__setattr__"))
theorem Cls.get {K : PySem.W.Frag} {C : Addr} (c : Cls K C) (f : Str) : PySem.W.plainGet K C f = true := c.pg
structure Con (K : PySem.W.Frag) (C : Addr) (f : Str) (v : V) (u : Value) : Prop where
  at_ : PySem.W.findIn K (.ref C) f = some (some u)
  rel : RelV v u
  get : PySem.W.specialIn K u "__get__" = some none
  cp : PySem.W.copiedNames.contains f = false
structure Meth (K : PySem.W.Frag) (C : Addr) (m : Str) (f : Addr) : Prop where
  at_ : PySem.W.findIn K (.ref C) m = some (some (.ref f))
  fn : PySem.W.isFn K (.ref f) = true
  kp : PySem.W.keepIn K (.ref f) = true
section
variable {X : Cx} {pins : List (Addr × Obj)} {σ : St} {H : Hp} {s : Shared} {a C dx : Addr} {fs : List (Str × V)} {f : Str} {v : V} {A : Around} {E : Value → Shared → Prop}
end
section
variable {X : Cx} {o e value : Expr} {f : Str} {pos pos' tpos : Pos} {ta tv : TE}
end
section
variable {X : Cx} {pins : List (Addr × Obj)} {σ : St} {H : Hp} {s : Shared} {A : Around} {E : Value → Shared → Prop} {Q : Value → Shared → Prop} {c : Value} {b : Bool}
inductive TyOf (K : PySem.W.Frag) (H : Hp) : V → Value → Prop where
  | non : TyOf K H .non (.type "NoneType")
  | bl (x : Bool) : TyOf K H (.bl x) (.type "bool")
  | int (i : Int) : TyOf K H (.int i) (.type "int")
  | str (x : Str) : TyOf K H (.str x) (.type "str")
  | flt (x : UInt64) : TyOf K H (.flt x) (.type "float")
  | lst {a : Addr} {xs : List V} (e : H a = some (.lst xs)) : TyOf K H (.ref a) (.type "list")
  | frz {a : Addr} {o : Obj} {xs : List V} (e : H a = some (.frz o (.lst xs))) : TyOf K H (.ref a) (.type "list")
  | tup {a : Addr} {xs : List V} (e : H a = some (.tup xs)) : TyOf K H (.ref a) (.type "tuple")
  | dK {a : Addr} {kvs : List (Key × V)} (e : H a = some (.dK kvs)) : TyOf K H (.ref a) (.type "dict")
  | dT {a : Addr} {kvs : List (List Key × V)} (e : H a = some (.dT kvs)) : TyOf K H (.ref a) (.type "dict")
  | ins {a C dx : Addr} {fs : List (Str × V)} (e : H a = some (.ins C dx fs)) (cl : Cls K C) (ha : PySem.W.findIn K (.ref C) "__class__" = some (some (.builtin "object.__class__")))
      (hn : PySem.W.specialIn K (.builtin "object.__class__") "__get__" = some (some (.builtin "getset_descriptor.__get__"))) (htk : PySem.W.takesIn K (.builtin "object.__class__") = some true)
      (hm : PySem.W.mroIn K C (.type "object") = some true) : TyOf K H (.ref a) (.ref C)
theorem isinst_ok {x : V} {u t : Value} (I : Inv X pins σ H s) (rx : RelV x u) (ty : TyOf X.K H x t) (e : PySem.W.kitOne X.K t c = some b) (h : ∀ tk, Q (.bool b) { s with toks := tk }) :
    wpAny (model X.prog X.w) A (call (.builtin "isinstance") [u, c]) Q E s := by
  cases ty with
  | non => cases (show u = Value.none from rx); exact PySem.W.kia_one PySem.W.kitx_none I.kIn True.intro e (fun z => nomatch z) h
  | bl y => cases (show u = Value.bool y from rx); exact PySem.W.kia_one PySem.W.kitx_bool I.kIn True.intro e (fun z => nomatch z) h
  | int i => obtain ⟨t, q⟩ := (show ∃ t, u = Value.int i t from rx); cases q; exact PySem.W.kia_one PySem.W.kitx_int I.kIn True.intro e (fun z => nomatch z) h
  | str y => obtain ⟨t, q⟩ := (show ∃ t, u = Value.str y t from rx); cases q; exact PySem.W.kia_one PySem.W.kitx_str I.kIn True.intro e (fun z => nomatch z) h
  | flt y => obtain ⟨t, q⟩ := (show ∃ t, u = Value.float y t from rx); cases q; exact PySem.W.kia_one PySem.W.kitx_float I.kIn True.intro e (fun z => nomatch z) h
  | @lst a xs ea =>
    cases (show u = Value.ref a from rx)
    obtain ⟨_, _, n, _, h1⟩ := (show ObjOk X.prog X.w H s.heap a (.lst xs) from I.hok a _ ea)
    exact PySem.W.kia_one PySem.W.kitx_list I.kIn ⟨_, h1, rfl⟩ e (fun z => nomatch z) h
  | @frz a ob xs ea =>
    cases (show u = Value.ref a from rx)
    obtain ⟨_, _, _, n, _, h1⟩ := (show ObjOk X.prog X.w H s.heap a (.frz ob (.lst xs)) from I.hok a _ ea)
    exact PySem.W.kia_one PySem.W.kitx_list I.kIn ⟨_, h1, rfl⟩ e (fun z => nomatch z) h
  | @tup a xs ea =>
    cases (show u = Value.ref a from rx)
    obtain ⟨_, _, _, p⟩ := (show ObjOk X.prog X.w H s.heap a (.tup xs) from I.hok a _ ea)
    obtain ⟨o, h1, h2, _⟩ := p
    exact PySem.W.kia_one PySem.W.kitx_tuple I.kIn ⟨o, h1, h2⟩ e (fun z => nomatch z) h
  | @dK a kvs ea =>
    cases (show u = Value.ref a from rx)
    obtain ⟨_, _, vs, _, p⟩ := (show ObjOk X.prog X.w H s.heap a (.dK kvs) from I.hok a _ ea)
    obtain ⟨o, es, ep, h1, h2, _⟩ := p
    exact PySem.W.kia_one PySem.W.kitx_dict I.kIn ⟨o, h1, h2.1⟩ e (fun z => nomatch z) h
  | @dT a kvs ea =>
    cases (show u = Value.ref a from rx)
    obtain ⟨_, _, xs, _, o, es, ep, h1, h2, _⟩ := (show ObjOk X.prog X.w H s.heap a (.dT kvs) from I.hok a _ ea)
    exact PySem.W.kia_one PySem.W.kitx_dict I.kIn ⟨o, h1, h2.1⟩ e (fun z => nomatch z) h
  | @ins a C dx fs ea cl ha hn htk hm =>
    cases (show u = Value.ref a from rx)
    obtain ⟨mA, O, _⟩ := ins_get I.hok ea
    obtain ⟨od, J, _⟩ := O.look
    exact PySem.W.kia_one (PySem.W.kitx_own (cl.get _) cl.hd ha hn htk hm) I.kIn J e (fun z => nomatch z) h
end
end L2
namespace L2
open PySem PySem.Spec PyProof.Rows
structure Room (k : Nat) (A : Around) : Prop where
  hd : A.handled = none
  dp : A.depth + 3 * k + 5 < recursionLimit
  un : A.units + 16 * k + 200 < cLine
theorem Room.mono {j k : Nat} {A : Around} (r : Room k A) (h : j ≤ k) : Room j A := ⟨r.hd, by have := r.dp; omega, by have := r.un; omega⟩
theorem Room.deeper {k : Nat} {A : Around} (r : Room (k + 1) A) (env : Env) : Room k (A.deeper env) :=
  ⟨r.hd, by have := r.dp; show A.depth + 1 + 3 * k + 5 < _; omega, by have := r.un; show A.units + 3 + 16 * k + 200 < _; omega⟩
theorem Room.in1 {k : Nat} {A : Around} (r : Room (k + 1) A) : Room k A.in1 :=
  ⟨r.hd, by have := r.dp; show A.depth + 3 * k + 5 < _; omega, by have := r.un; show A.units + 1 + 16 * k + 200 < _; omega⟩
theorem make_depth {A : Around} {C : Addr} {us : List Value} {kw : List (Str × Value)} : (A.under (.builtin "type.__call__" ⟨.ref C :: us, kw⟩)).depth = A.depth + 1 := by
  first | rfl | simp [Around.under, Code.weight, Code.isCreation, Code.isGuard, Code.isCaller, Code.frames, Code.isFrame, guardIds]
theorem make_units {A : Around} {C : Addr} {us : List Value} {kw : List (Str × Value)} : (A.under (.builtin "type.__call__" ⟨.ref C :: us, kw⟩)).units = A.units + 1 := by
  first | rfl | simp [Around.under, Code.cUnits, Code.frames, Code.isFrame]
theorem Room.make {k : Nat} {A : Around} (r : Room (k + 1) A) (C : Addr) (us : List Value) (kw : List (Str × Value)) : Room k (A.under (.builtin "type.__call__" ⟨.ref C :: us, kw⟩)) :=
  ⟨r.hd, by have := r.dp; rw [make_depth]; omega, by have := r.un; rw [make_units]; omega⟩
theorem Room.depth {k : Nat} {A : Around} (r : Room k A) : A.depth < recursionLimit := by have := r.dp; omega
theorem Room.units {k : Nat} {A : Around} (r : Room k A) : A.units + 64 < cLine := by have := r.un; omega
def tNil : TA := fun _ H Q => Q [] H
def tCons (ta : TE) (tr : TA) : TA := fun σ H Q => ta σ H fun x H1 => tr σ H1 fun xs H2 => Q (x :: xs) H2
section
variable {X : Cx} {e : Expr} {es : List Expr} {te : TE} {t : TA} {pos : Pos}
theorem pa_nil : PA X [] tNil := fun _ _ _ _ H Q I h => Calls.spliced_nil ⟨[], H, I, .nil, h⟩
theorem pa_cons (ha : PE X e te) (hr : PA X es t) (hs : starEach (e :: es) X.env = (false, eval e X.env) :: starEach es X.env := by rfl) : PA X (e :: es) (tCons te t) := by
  intro pos pins s σ H Q I h
  rw [hs]
  show wpAny _ _ (spliced ((false, eval e X.env) :: backTo pos (starEach es X.env))) _ _ s
  refine Calls.spliced_cons (thn (ha pins s σ H _ I h) fun u s1 ⟨x, H1, I1, r1, q1⟩ => ?_)
  exact thn (hr pos pins s1 σ H1 _ I1 q1) fun us s2 ⟨xs, H2, I2, r2, q2⟩ => ⟨x :: xs, H2, I2, .cons r1 r2, q2⟩
def tTup (t : TA) : TE := fun σ H Q => t σ H fun xs H1 => xs.length ≤ sizeLine ∧ ∀ p, H1 p = none → Q (.ref p) (upd H1 p (.tup xs))
def tLst (t : TA) : TE := fun σ H Q => t σ H fun xs H1 => xs.length ≤ sizeLine ∧ ∀ p, H1 p = none → Q (.ref p) (upd H1 p (.lst xs))
theorem pe_tup {x1} (h : PA X es t) : PE X (.Tuple es x1 pos) (tTup t) := by
  intro pins s σ H Q I hq
  refine wpAny_Tuple_spliced (thn (h pos pins s σ H _ I hq) fun us s1 ⟨xs, H1, I1, r, z, q⟩ => ⟨by rw [← r.length]; exact z, ?_⟩)
  have hf : H1 s1.heap.objs.size = none := I1.hok.fresh (Nat.le_refl _)
  refine ⟨.ref s1.heap.objs.size, upd H1 s1.heap.objs.size (.tup xs), I1.laid (t' := s1.toks) (fun b u e => Heap.get?_push_of_some _ e) (Nat.le_refl _) ?_, rfl, q _ hf⟩
  exact ⟨z, us, r, ⟨_, Heap.get?_push_size _ rfl, rfl, _, rfl⟩⟩
theorem pe_lst (h : PA X es t) : PE X (.List es pos) (tLst t) := by
  intro pins s σ H Q I hq
  refine wpAny_List_spliced (thn (h pos pins s σ H _ I hq) fun us s1 ⟨xs, H1, I1, r, z, q⟩ => ⟨by rw [← r.length]; exact z, ?_⟩)
  have hf : H1 s1.heap.objs.size = none := I1.hok.fresh (Nat.le_refl _)
  refine ⟨.ref s1.heap.objs.size, upd H1 s1.heap.objs.size (.lst xs), I1.laid (t' := s1.toks) (fun b u e => Heap.get?_push_of_some _ e) (Nat.le_refl _) ?_, rfl, q _ hf⟩
  exact ⟨z, us, 0, r, Heap.get?_push_size _ rfl⟩
end
abbrev Sp := List V → Hp → VK → XK → Prop
abbrev CXT := List Env → Hp → Shared → XK → Value → Shared → Prop
structure Env0 (P : Program) (w : World) (K : PySem.W.Frag) (mg : Str → Option Value) (base : Heap) (A : Around) (outer : List Env) (s : Shared) (H : Hp) : Prop where
  frames : A.frames = some outer
  mod : Mod K mg base
  bs : ∀ b o, base.get? b = some o → s.heap.get? b = some o ∧ H b = none
  bsz : base.objs.size ≤ s.heap.objs.size
  funs : s.heap.FunFrames base outer
  frf : ∀ b ∈ frs outer, H b = none
  hok : HOk P w H s.heap
  bare : AllBare s.gens
def CE (outer : List Env) (P : Program) (w : World) (H : Hp) (s : Shared) (Q : VK) (u : Value) (s' : Shared) : Prop :=
  ∃ v H', s'.os = s.os ∧ AllBare s'.gens ∧ Un (frs outer) [] H H' s.heap s'.heap ∧ HOk P w H' s'.heap ∧ RelV v u ∧ Q v H'
def CR (CX : CXT) (outer : List Env) (P : Program) (w : World) (H : Hp) (s : Shared) (Q : VK) (E : XK) (r : Result) (s' : Shared) : Prop :=
  match r with
  | .ok (.ret u) => CE outer P w H s Q u s'
  | .ok _ => False
  | .error e => CX outer H s E e s'
structure FnOk (P : Program) (w : World) (K : PySem.W.Frag) (mg : Str → Option Value) (base : Heap) (CX : CXT) (k : Nat) (f : Addr) (fd : FuncData) (ps : List Str) (sp : Sp) : Prop where
  len : ∀ vs H Q E, sp vs H Q E → vs.length = ps.length
  run : ∀ (A : Around) (outer : List Env) (s : Shared) (H : Hp) (args : Args) (us : List Value) (vs : List V) (Q : VK) (E : XK), Room k A → Env0 P w K mg base A outer s H → BindsTo s fd args (ps.zip us) → Vals vs us → sp vs H Q E →
    codeAny (model P w) A (.call (.ref f) args) (CR CX outer P w H s Q E) s
theorem FnOk.mono {P : Program} {w : World} {K : PySem.W.Frag} {mg : Str → Option Value} {base : Heap} {CX : CXT} {j k : Nat} {f : Addr} {fd : FuncData} {ps : List Str} {sp : Sp} (F : FnOk P w K mg base CX j f fd ps sp) (h : j ≤ k) :
    FnOk P w K mg base CX k f fd ps sp := ⟨F.len, fun A outer s H args us vs Q E hr => F.run A outer s H args us vs Q E (hr.mono h)⟩
theorem FnOk.imp {P : Program} {w : World} {K : PySem.W.Frag} {mg : Str → Option Value} {base : Heap} {CX : CXT} {k : Nat} {f : Addr} {fd : FuncData} {ps : List Str} {sp sp' : Sp} (F : FnOk P w K mg base CX k f fd ps sp)
    (h : ∀ vs H Q E, sp' vs H Q E → sp vs H Q E) : FnOk P w K mg base CX k f fd ps sp' :=
  ⟨fun vs H Q E q => F.len vs H Q E (h _ _ _ _ q), fun A outer s H args us vs Q E hr he hb hv hs => F.run A outer s H args us vs Q E hr he hb hv (h _ _ _ _ hs)⟩
theorem Env0.make {P : Program} {w : World} {K : PySem.W.Frag} {mg : Str → Option Value} {base : Heap} {A : Around} {outer : List Env} {s : Shared} {H : Hp} (e : Env0 P w K mg base A outer s H) (C : Addr) (us : List Value) (kw : List (Str × Value)) :
    Env0 P w K mg base (A.under (.builtin "type.__call__" ⟨.ref C :: us, kw⟩)) outer s H := ⟨by first | exact e.frames | (simpa [Around.under, Code.envs, Code.isFrame, pushEnvs] using e.frames), e.mod, e.bs, e.bsz, e.funs, e.frf, e.hok, e.bare⟩
theorem Env0.in1 {P : Program} {w : World} {K : PySem.W.Frag} {mg : Str → Option Value} {base : Heap} {A : Around} {outer : List Env} {s : Shared} {H : Hp} (e : Env0 P w K mg base A outer s H) :
    Env0 P w K mg base A.in1 outer s H := ⟨e.frames, e.mod, e.bs, e.bsz, e.funs, e.frf, e.hok, e.bare⟩
section
variable {X : Cx} {pins : List (Addr × Obj)} {σ : St} {H : Hp} {s s' : Shared}
theorem Inv.env0 (I : Inv X pins σ H s) : Env0 X.prog X.w X.K X.mg X.base X.A X.stack s H :=
  ⟨I.ok.frames, I.ok.mod, I.bs, Nat.le_trans I.ok.bsz I.sz, I.stack, I.stkFree, I.hok, I.bare⟩
theorem Inv.after {Q : VK} {u : Value} (I : Inv X pins σ H s) (h : CE X.stack X.prog X.w H s Q u s') : EP X pins σ Q u s' := by
  obtain ⟨v, H', os, bare, un, hok, r, q⟩ := h
  obtain ⟨hh, g, d, t, os'⟩ := s'
  obtain rfl : os' = s.os := os
  exact ⟨v, H', I.call (h' := hh) (g' := g) (d' := d) (t' := t) (ch := []) un hok bare (fun b z => absurd z (by simp)), r, q⟩
end
def tCall (sp : Sp) (dvs : List V) (E : XK) (t : TA) : TE := fun σ H Q => t σ H fun vs H1 => sp (vs ++ dvs) H1 Q E
def Binds (K : PySem.W.Frag) (fd : FuncData) (ps : List Str) (ds : List Value) : Prop :=
  ∀ (s : Shared) (us : List Value), K.In s.heap → (us ++ ds).length = ps.length → BindsTo s fd ⟨us, []⟩ (ps.zip (us ++ ds))
theorem Binds.all {K : PySem.W.Frag} {fd : FuncData} {ps : List Str} (h : ∀ us : List Value, us.length = ps.length → bindArgs fd ⟨us, []⟩ = pure (ps.zip us)) : Binds K fd ps [] := fun s us _ hl => by
  rw [List.append_nil] at hl ⊢
  exact .of_eq (h us hl)
def Passes (CX : CXT) (X : Cx) (E : XK) : Prop := ∀ (pins : List (Addr × Obj)) (σ : St) (H : Hp) (s : Shared) (e : Value) (s' : Shared), Inv X pins σ H s → CX X.stack H s E e s' → X.xe e s'
section
variable {X : Cx} {CX : CXT} {k : Nat} {f C : Addr} {fd : FuncData} {ps : List Str} {sp : Sp} {dvs : List V} {ds : List Value} {E : XK} {x m : Str} {p pos apos : Pos} {e o : Expr} {es : List Expr} {ta : TE} {t : TA}
theorem run_fn {pins : List (Addr × Obj)} {σ : St} {H : Hp} {s : Shared} {Q : VK} {us : List Value} {vs : List V} (F : FnOk X.prog X.w X.K X.mg X.base CX k f fd ps sp) (hr : Room k X.A) (hb : Binds X.K fd ps ds) (hd : Vals dvs ds) (hx : Passes CX X E)
    (I : Inv X pins σ H s) (r : Vals vs us) (h : sp (vs ++ dvs) H Q E) : wpAny (model X.prog X.w) X.A (call (.ref f) us) (EP X pins σ Q) X.xe s := by
  have r2 : Vals (vs ++ dvs) (us ++ ds) := r.append hd
  have hl : (us ++ ds).length = ps.length := by rw [← r2.length]; exact F.len _ _ _ _ h
  refine wpAny_call (codeAny_mono (F.run X.A X.stack s H ⟨us, []⟩ (us ++ ds) (vs ++ dvs) Q E hr I.env0 (hb s us I.kIn hl) r2 h) fun r s' hq => ?_)
  cases r with
  | error e => exact hx pins σ H s e s' I hq
  | ok fl =>
    cases fl with
    | ret u => exact I.after hq
    | next => exact False.elim hq
    | brk => exact False.elim hq
    | cont => exact False.elim hq
theorem pe_call (F : FnOk X.prog X.w X.K X.mg X.base CX k f fd ps sp) (hr : Room k X.A) (hg : Gl X x) (hm : X.mg x = some (.ref f)) (hk : PySem.W.keepIn X.K (.ref f) = true) (hb : Binds X.K fd ps ds) (hd : Vals dvs ds) (hx : Passes CX X E)
    (ha : PA X (e :: es) t) (hdb : (x == ("__debug__" : Str)) = false := by decide) (he : starEach (e :: es) X.env = (false, eval e X.env) :: starEach es X.env := by rfl) (hpl : (backTo pos (starEach es X.env)).any (·.1) = false := by rfl) :
    PE X (.Call (.Name x p) (e :: es) [] pos) (tCall sp dvs E t) := by
  intro pins s σ H Q I h
  refine wpAny_Call_Name_kw (ld_glob I hg hm ?_ hdb)
  refine PySem.W.callWith_K (h₀ := X.base) I.ok.mod.kin hk (thn (ha pos pins s σ H _ I h) fun us s1 ⟨vs, H1, I1, r, q⟩ => ⟨I1.kIn, ?_⟩) he hpl
  exact run_fn F hr hb hd hx I1 r q
structure Mk (K : PySem.W.Frag) (C f : Addr) : Prop where
  makes : PySem.W.makesIn K C = true
  init : PySem.W.findIn K (.ref C) "__init__" = some (some (.ref f))
  fn : PySem.W.isFn K (.ref f) = true
  kp : PySem.W.keepIn K (.ref C) = true
end
section
variable {X : Cx} {CX : CXT} {k : Nat} {f C : Addr} {fd : FuncData} {ps ks : List Str} {sp : Sp} {E : XK} {x m : Str} {p pos apos kpos : Pos} {e o : Expr} {es : List Expr} {kws : List Keyword} {te ta : TE} {t tk : TA} {nm : Option Str}
structure KBinds (K : PySem.W.Frag) (fd : FuncData) (ps ks : List Str) (g : List Value → List Value → List Value) (gV : List V → List V → List V) : Prop where
  to : ∀ (s : Shared) (us ws : List Value), K.In s.heap → (g us ws).length = ps.length → BindsTo s fd ⟨us, ks.zip ws⟩ (ps.zip (g us ws))
  rel : ∀ {vs : List V} {us : List Value} {zs : List V} {ws : List Value}, Vals vs us → Vals zs ws → Vals (gV vs zs) (g us ws)
variable {g : List Value → List Value → List Value} {gV : List V → List V → List V}
end
structure FnScope (N P : List Str) (sc : Scope) : Prop where
  kind : sc.kind = .function
  co : sc.isCoroutine = false
  gen : sc.isGenerator = false
  nd : N.Nodup
  pre : N.take P.length = P
  par : ∀ x ∈ P, sc.names.lookup x = some .local ∨ sc.names.lookup x = some .cell
  nofree : ∀ y ∈ sc.names, y.2 ≠ .free
theorem bindL_out {kindOf : Str → Option NameKind} {x : Str} : ∀ {binds : List (Str × Value)} {m : Str → Option Value}, (∀ v, (x, v) ∉ binds) → bindL kindOf binds m x = m x
  | [], _, _ => rfl
  | (n, v) :: r, m, h => by
    unfold bindL
    rw [bindL_out fun w hw => h w (List.mem_cons_of_mem _ hw)]
    split
    · have : x ≠ n := by rintro rfl; exact h v List.mem_cons_self
      simp [this]
    · rfl
theorem bindC_out {kindOf : Str → Option NameKind} {x : Str} : ∀ {binds : List (Str × Value)} {m : Str → Option Value}, (∀ v, (x, v) ∉ binds) → bindC kindOf binds m x = m x
  | [], _, _ => rfl
  | (n, v) :: r, m, h => by
    unfold bindC
    rw [bindC_out fun w hw => h w (List.mem_cons_of_mem _ hw)]
    split
    · rfl
    · have : x ≠ n := by rintro rfl; exact h v List.mem_cons_self
      simp [this]
theorem bindL_get {kindOf : Str → Option NameKind} {x : Str} {v : Value} : ∀ {P : List Str} {vs : List Value} {i : Nat} {m : Str → Option Value}, P.Nodup → P[i]? = some x → vs[i]? = some v → kindOf x = some .local →
    bindL kindOf (P.zip vs) m x = some v
  | [], _, _, _, _, h, _, _ => by simp at h
  | _ :: _, [], _, _, _, _, h, _ => by simp at h
  | p :: P, w :: vs, 0, m, nd, h1, h2, hk => by
    simp at h1 h2; subst h1; subst h2
    show bindL kindOf ((p, w) :: P.zip vs) m p = _
    unfold bindL
    rw [bindL_out fun v hv => (List.nodup_cons.mp nd).1 (List.of_mem_zip hv).1, if_pos hk]
    simp
  | p :: P, w :: vs, i + 1, m, nd, h1, h2, hk => by
    show bindL kindOf ((p, w) :: P.zip vs) m x = _
    unfold bindL
    exact bindL_get (i := i) (List.nodup_cons.mp nd).2 (by simpa using h1) (by simpa using h2) hk
theorem bindC_get {kindOf : Str → Option NameKind} {x : Str} {v : Value} : ∀ {P : List Str} {vs : List Value} {i : Nat} {m : Str → Option Value}, P.Nodup → P[i]? = some x → vs[i]? = some v → kindOf x ≠ some .local →
    bindC kindOf (P.zip vs) m x = some v
  | [], _, _, _, _, h, _, _ => by simp at h
  | _ :: _, [], _, _, _, _, h, _ => by simp at h
  | p :: P, w :: vs, 0, m, nd, h1, h2, hk => by
    simp at h1 h2; subst h1; subst h2
    show bindC kindOf ((p, w) :: P.zip vs) m p = _
    unfold bindC
    rw [bindC_out fun v hv => (List.nodup_cons.mp nd).1 (List.of_mem_zip hv).1, if_neg hk]
    simp
  | p :: P, w :: vs, i + 1, m, nd, h1, h2, hk => by
    show bindC kindOf ((p, w) :: P.zip vs) m x = _
    unfold bindC
    exact bindC_get (i := i) (List.nodup_cons.mp nd).2 (by simpa using h1) (by simpa using h2) hk
def start (N : List Str) (vs : List V) : St := vs.map some ++ List.replicate (N.length - vs.length) none
def cxOf (CX : CXT) (P : Program) (w : World) (K : PySem.W.Frag) (mg : Str → Option Value) (base : Heap) (N : List Str) (qual : Str) (scope : Scope) (f : Addr) (cd : Value) (A : Around) (outer : List Env) (s : Shared) (H : Hp) (E : XK) : Cx where
  prog := P
  w := w
  K := K
  mg := mg
  base := base
  A := A.deeper (envOfC qual scope s.heap.objs.size f cd)
  N := N
  s₀ := s
  H₀ := H
  env := envOfC qual scope s.heap.objs.size f cd
  outer := outer
  stack := envOfC qual scope s.heap.objs.size f cd :: outer
  ex := []
  calm := true
  fn := fun _ => true
  pn := []
  xe := fun e s' => wpAny (model P w) (A.deeper (envOfC qual scope s.heap.objs.size f cd)) (leaving (envOfC qual scope s.heap.objs.size f cd) e) (fun _ s'' => CX outer H s E e s'') (fun e' s'' => CX outer H s E e' s'') s'
theorem cell_has {sc : Scope} {n : Nat} {x : Str} (h : sc.names.lookup x = some .cell) : ∃ c, (cellsFrom n sc.names []).lookup x = some c := by
  have q := PySem.W.cellsFrom_some sc.names n [] (.inl h)
  exact Option.isSome_iff_exists.mp q
theorem inv_start {CX : CXT} {P : Program} {w : World} {K : PySem.W.Frag} {mg : Str → Option Value} {base : Heap} {N ps : List Str} {qual : Str} {scope : Scope} {f : Addr} {cd : Value} {A : Around} {outer : List Env} {s s1 : Shared} {H : Hp} {E : XK} {us : List Value} {vs : List V}
    (S : FnScope N ps scope) (hd : A.handled = none) (e0 : Env0 P w K mg base A outer s H) (hl : vs.length = ps.length) (r : Vals vs us)
    (x : InCallC s s.heap.objs.size (bindL (envOfC qual scope s.heap.objs.size f cd).kindOf (ps.zip us) fun _ => none) (cellsFrom (s.heap.objs.size + 1) scope.names []) (bindC (envOfC qual scope s.heap.objs.size f cd).kindOf (ps.zip us) fun _ => none) s1) :
    Inv (cxOf CX P w K mg base N qual scope f cd A outer s H E) [] (start N vs) H s1 := by
  have hpl : ps.length ≤ N.length := by have := congrArg List.length S.pre; rw [List.length_take] at this; omega
  obtain ⟨h1, tk, rfl, hk⟩ := x.done
  have noA : ∀ b : Addr, b ∉ (cxOf CX P w K mg base N qual scope f cd A outer s H E).ex := fun b z => absurd (show b ∈ ([] : List Addr) from z) (by simp)
  refine ⟨⟨e0.mod, S.kind, rfl, rfl, Nat.le_refl _, fun y z c h1 h2 => ?_, fun y hy => ?_, fun y c _ h => ?_, fun _ => hd, Around.frames_deeper e0.frames, .inr ⟨rfl, rfl⟩, fun b z => absurd z (noA b), e0.bs, e0.bsz, fun b _ _ => noA b, fun b z => absurd z (noA b), e0.funs, e0.frf⟩,
    rfl, e0.bare, Un.kept hk, ⟨_, x.toInCall.ns, fun i y v h1 h2 h3 => ?_⟩, fun y c h => ⟨_, x.cell y c h⟩, e0.hok.fresh (Nat.le_refl _), fun y c h => ?_, fun p hp => absurd (show p ∈ ([] : List (Addr × Obj)) from hp) (by simp), e0.hok.kept hk, ?_⟩
  · exact name_of_addr x.apart (PySem.mem_of_lookup h1) (PySem.mem_of_lookup h2)
  · have hy : scope.names.lookup y = some .cell ∨ scope.names.lookup y = some .free := hy
    rcases hy with hy | hy
    · exact cell_has hy
    · exact absurd rfl (S.nofree _ (PySem.mem_of_lookup hy))
  · exact Nat.le_of_lt (x.above y c (PySem.mem_of_lookup h))
  · have hi : i < vs.length := by
      unfold start at h2
      by_cases hi : i < vs.length
      · exact hi
      · rw [List.getElem?_append_right (by simpa using hi)] at h2
        rw [List.getElem?_replicate] at h2
        split at h2 <;> cases h2
    have ha : vs[i]? = some v := by
      unfold start at h2
      rw [List.getElem?_append_left (by simpa using hi), List.getElem?_map] at h2
      cases e : vs[i]? with
      | none => rw [e] at h2; cases h2
      | some a => rw [e] at h2; cases h2; rfl
    obtain ⟨u, hu, rv⟩ := r.get ha
    have hp : ps[i]? = some y := by
      rw [← S.pre, List.getElem?_take_of_lt (by omega)]; exact h1
    have ndP : ps.Nodup := by rw [← S.pre]; exact S.nd.sublist (List.take_sublist _ _)
    refine ⟨u, rv, ?_⟩
    rcases S.par y (List.mem_of_getElem? hp) with k | k
    · exact .inl ⟨k, bindL_get ndP hp hu k⟩
    · obtain ⟨c, e⟩ := cell_has (n := s.heap.objs.size + 1) k
      refine .inr ⟨.inl k, c, e, ?_⟩
      have q := x.cell y c e
      rw [bindC_get ndP hp hu (by show scope.names.lookup y ≠ _; rw [k]; decide)] at q
      exact q
  · exact e0.hok.fresh (Nat.le_of_lt (x.above y c (PySem.mem_of_lookup h)))
  · unfold start
    show _ = N.length
    rw [List.length_append, List.length_map, List.length_replicate]
    omega
theorem fn_of {CX : CXT} {P : Program} {w : World} {K : PySem.W.Frag} {mg : Str → Option Value} {base : Heap} {k : Nat} {f : Addr} {name qual : Str} {params : Arguments} {body : List Stmt} {scope : Scope} {dV kV doc pm cdv ct oc : Value} {an od : Option Addr}
    {osl : Array (Option Value)} {N ps : List Str} {sp : Sp} (lk : K.lookup f = some ⟨oc, od, .func (PySem.W.fnOf name qual params body scope dV kV doc pm an cdv ct), osl⟩) (hcd : PySem.W.codeIn K cdv qual = true) (S : FnScope N ps scope)
    (len : ∀ vs H Q E, sp vs H Q E → vs.length = ps.length)
    (hbody : ∀ (A : Around) (outer : List Env) (s : Shared) (H : Hp) (vs : List V) (Q : VK) (E : XK), Room k (A.deeper (envOfC qual scope s.heap.objs.size f cdv)) → sp vs H Q E →
      ∃ t, PSs (cxOf CX P w K mg base N qual scope f cdv A outer s H E) body t ∧ t { nx := fun _ H' => Q .non H', rt := Q } (start N vs) H) :
    FnOk P w K mg base CX (k + 1) f (PySem.W.fnOf name qual params body scope dV kV doc pm an cdv ct) ps sp := by
  refine ⟨len, fun A outer s H args us vs Q E hr e0 hb r hsp => ?_⟩
  have hl := len _ _ _ _ hsp
  have KX : K.In s.heap := e0.mod.kin.keeps fun b o e => (e0.bs b o e).1
  have lim : s.heap.NoLimit := e0.mod.nolimit.keeps fun b o e => (e0.bs b o e).1
  have hkind : ∀ y ∈ ps.zip us, scope.names.lookup y.1 = some .local ∨ (scope.names.lookup y.1 = some .cell ∧ ((cellsFrom (s.heap.objs.size + 1) scope.names []).lookup y.1).isSome = true) := fun ⟨n, v⟩ hy => by
    rcases S.par n (List.of_mem_zip hy).1 with q | q
    · exact .inl q
    · exact .inr ⟨q, PySem.W.cellsFrom_some _ _ _ (.inl q)⟩
  refine codeAny_call_function hr.depth (KX _ _ lk) rfl S.co S.gen rfl (PySem.W.codeRec_of KX hcd) (hb _ _ _ _ ?_)
  refine wpAny_newFunctionEnv_cells S.kind hkind fun env he s1 x => ?_
  subst he
  refine ⟨lim.keeps x.toInCall.keep, codeAny_func ?_⟩
  obtain ⟨t, ht, hq⟩ := hbody A outer s H vs Q E (hr.deeper _) hsp
  have I : Inv (cxOf CX P w K mg base N qual scope f cdv A outer s H E) [] (start N vs) H s1 := inv_start S hr.hd e0 hl r x
  refine wpAny_mono (ht [] s1 (start N vs) H _ I hq) (fun fl s' hs => ?_) fun e s' hs => hs
  have fin : ∀ {σ' : St} {H' : Hp} {v : V} {u : Value}, Inv (cxOf CX P w K mg base N qual scope f cdv A outer s H E) [] σ' H' s' → RelV v u → Q v H' → CE outer P w H s Q u s' :=
    fun {σ' H' v u} J rv q => ⟨v, H', J.os, J.bare, J.base, J.hok, rv, q⟩
  cases fl with
  | ret u =>
    obtain ⟨v, σ', H', J, rv, q⟩ := hs
    exact fin J rv q
  | next =>
    obtain ⟨σ', H', J, q⟩ := hs
    exact fin (v := V.non) (u := Value.none) J rfl q
  | brk =>
    obtain ⟨_, _, _, q⟩ := hs
    exact False.elim q
  | cont =>
    obtain ⟨_, _, _, q⟩ := hs
    exact False.elim q
end L2
namespace L2
open PySem PySem.Spec PyProof.Rows
section
variable {X : Cx} {x : Str} {p pos : Pos} {e : Expr} {es : List Expr} {t : TA} {id T : String} {r : List V → Hp → VK → Prop}
def tCB (r : List V → Hp → VK → Prop) (t : TA) : TE := fun σ H Q => t σ H fun vs H1 => r vs H1 Q
theorem pe_callB (hc : CallR X (.builtin id) r) (hg : Gl X x) (hm : X.mg x = none) (hv : bootBuiltins x = some (.builtin id)) (ha : PA X (e :: es) t) (hn : x ≠ "__name__" := by decide) (hdb : (x == ("__debug__" : Str)) = false := by decide)
    (he : starEach (e :: es) X.env = (false, eval e X.env) :: starEach es X.env := by rfl) (hpl : (backTo pos (starEach es X.env)).any (·.1) = false := by rfl) : PE X (.Call (.Name x p) (e :: es) [] pos) (tCB r t) := by
  intro pins s σ H Q I h
  refine wpAny_Call_Name_kw (ld_blt I hg hm hv ?_ hn hdb)
  exact PyProof.Rows.callWith_builtin1 (thn (ha pos pins s σ H _ I h) fun us s1 ⟨vs, H1, I1, r1, q1⟩ => hc pins s1 σ H1 vs us Q I1 r1 q1) he hpl
theorem pe_callTy (hc : CallR X (.type T) r) (hg : Gl X x) (hm : X.mg x = none) (hv : bootBuiltins x = some (.type T)) (ha : PA X (e :: es) t) (hn : x ≠ "__name__" := by decide) (hdb : (x == ("__debug__" : Str)) = false := by decide)
    (he : starEach (e :: es) X.env = (false, eval e X.env) :: starEach es X.env := by rfl) (hpl : (backTo pos (starEach es X.env)).any (·.1) = false := by rfl) : PE X (.Call (.Name x p) (e :: es) [] pos) (tCB r t) := by
  intro pins s σ H Q I h
  refine wpAny_Call_Name_kw (ld_blt I hg hm hv ?_ hn hdb)
  exact PyProof.Rows.callWith_type1 (thn (ha pos pins s σ H _ I h) fun us s1 ⟨vs, H1, I1, r1, q1⟩ => hc pins s1 σ H1 vs us Q I1 r1 q1) he hpl
end
end L2
namespace HT
open PySem PyProof.Rows
section
open PySem.SeqAt
open PySem.AutoSeq1 (wpAny_loadPart')
open PySem.MeetsSeq PySem.MeetsSeq2 PySem.MeetsSeq3
end
section
variable {prog : Program} {w : World} {A : Around} {E : Value → Shared → Prop} {s : Shared}
theorem cat_tup {t b : Addr} {vs ws : List Value} {Q : Value → Shared → Prop} (ht : IsTup s.heap t vs.toArray) (hb : IsTup s.heap b ws.toArray) (hv : vs ≠ [])
    (h1 : ws = [] → Q (.ref t) s) (h2 : ws ≠ [] → Q (.ref s.heap.objs.size) { s with heap := s.heap.push { cls := .type "tuple", data := .seq (vs ++ ws).toArray } })
    (hsz : vs.length + ws.length ≤ sizeLine) : wpAny (model prog w) A (binaryOp .Add (.ref t) (.ref b)) Q E s := by
  obtain ⟨⟨cls, dd, data, sl⟩, ho, hc, n, hd⟩ := id ht
  obtain ⟨⟨cls2, dd2, data2, sl2⟩, ho2, hc2, n2, hd2⟩ := id hb
  simp only at hc hd hc2 hd2
  subst hc hd hc2 hd2
  have e : vs.toArray ++ ws.toArray = (vs ++ ws).toArray := by simp
  by_cases hw : ws = []
  · exact concat_meets ⟨_, ho, rfl⟩ ⟨_, ho2, rfl⟩ noFill_tuple_add seq_tuple_add PySem.F.slot_tuple_add PySem.F.entry_tuple_add (PySem.F.args_tuple_add_2 _ _)
      (tuple_addW1 t b vs.toArray ws.toArray n n2 dd dd2 sl sl2 (by simpa using hv) (by simp [hw])) ⟨ho, ho2, h1 hw⟩
  · refine concat_meets ⟨_, ho, rfl⟩ ⟨_, ho2, rfl⟩ noFill_tuple_add seq_tuple_add PySem.F.slot_tuple_add PySem.F.entry_tuple_add (PySem.F.args_tuple_add_2 _ _)
      (tuple_addW2 t b vs.toArray ws.toArray n n2 dd dd2 sl sl2 (by simpa using hv) (by simpa using hw) (by rw [List.size_toArray, List.size_toArray]; exact hsz)) ⟨ho, ho2, ?_⟩
    rw [e]
    exact h2 hw
def sIx (n d : Nat) : Option Int → Nat
  | none => d
  | some v => if v < 0 then (v + (n : Int)).toNat else min v.toNat n
theorem sIx_none (n d : Nat) : sIx n d none = d := rfl
theorem sIx_nat (n d k : Nat) : sIx n d (some (k : Int)) = min k n := by
  show (if (k : Int) < 0 then ((k : Int) + (n : Int)).toNat else min (k : Int).toNat n) = min k n
  rw [if_neg (by omega), Int.toNat_natCast]
end
end HT
namespace L2
open PySem PySem.Spec PyProof.Rows
abbrev TO := St → Hp → (Option Int → Hp → Prop) → Prop
def PO (X : Cx) (e : Option Expr) (t : TO) : Prop :=
  ∀ (pins : List (Addr × Obj)) (s : Shared) (σ : St) (H : Hp) (Q : Option Int → Hp → Prop), Inv X pins σ H s → t σ H Q →
    wpAny (model X.prog X.w) X.A (evalPart e X.env) (fun u s' => ∃ o H', Inv X pins σ H' s' ∧ IsPart u o ∧ Q o H') X.xe s
def tNoPart : TO := fun _ H Q => Q none H
def tPart (t : TE) : TO := fun σ H Q => t σ H fun x H1 => ∃ i, x = .int i ∧ Q (some i) H1
section
variable {X : Cx} {e : Expr} {te : TE} {lo hi : Option Expr} {tl th : TO} {pos p2 : Pos}
theorem po_none : PO X none tNoPart := by
  intro pins s σ H Q I h
  rw [evalPart_none]
  exact wpAny_pure ⟨none, H, I, .none, h⟩
theorem po_some (h : PE X e te) : PO X (some e) (tPart te) := by
  intro pins s σ H Q I hw
  rw [evalPart_some]
  refine thn (h pins s σ H _ I hw) fun u s1 ⟨x, H1, I1, r1, q1⟩ => ?_
  obtain ⟨i, rfl, q⟩ := q1
  obtain ⟨t, rfl⟩ := r1
  exact ⟨some i, H1, I1, .int i t, q⟩
def SlR (X : Cx) (r : V → Option Int → Option Int → Hp → VK → Prop) : Prop :=
  ∀ (pins : List (Addr × Obj)) (s : Shared) (σ : St) (H : Hp) (x : V) (v vl vu : Value) (lo hi : Option Int) (sl : Addr) (Q : VK), Inv X pins σ H s → RelV x v → s.heap.IsSliceOf sl vl vu .none → IsPart vl lo → IsPart vu hi → r x lo hi H Q →
    ∃ T id, typeLookup (.type T) "__getitem__" = pure (some (.builtin id)) ∧ s.TypeIs v T ∧ wpAny (model X.prog X.w) X.A (getItem v (.ref sl)) (EP X pins σ Q) X.xe s
theorem SlR.or {r r' : V → Option Int → Option Int → Hp → VK → Prop} (h : SlR X r) (h' : SlR X r') : SlR X (fun x lo hi H Q => r x lo hi H Q ∨ r' x lo hi H Q) := by
  intro pins s σ H x v vl vu lo hi sl Q I rx hs pl pu q
  rcases q with q | q
  · exact h pins s σ H x v vl vu lo hi sl Q I rx hs pl pu q
  · exact h' pins s σ H x v vl vu lo hi sl Q I rx hs pl pu q
def tSl (r : V → Option Int → Option Int → Hp → VK → Prop) (te : TE) (tl th : TO) : TE := fun σ H Q => te σ H fun x H1 => tl σ H1 fun l H2 => th σ H2 fun u H3 => r x l u H3 Q
theorem pe_slice {r : V → Option Int → Option Int → Hp → VK → Prop} (hr : SlR X r) (he : PE X e te) (hl : PO X lo tl) (hu : PO X hi th) : PE X (.Subscript e (.Slice lo hi none p2) pos) (tSl r te tl th) := by
  intro pins s σ H Q I h
  refine Subscript_ (thn (he pins s σ H _ I h) fun v s1 ⟨x, H1, I1, r1, q1⟩ => ?_)
  refine wpAny_Slice (thn (hl pins s1 σ H1 _ I1 q1) fun vl s2 ⟨l, H2, I2, pl, q2⟩ => thn (hu pins s2 σ H2 _ I2 q2) fun vu s3 ⟨u, H3, I3, pu, q3⟩ => ?_)
  rw [evalPart_none]
  refine wpAny_pure ?_
  have I4 : Inv X pins σ H3 { s3 with heap := s3.heap.push { cls := .type "slice", data := .fields #[vl, vu, .none] } } := I3.kept (t' := s3.toks) fun b ob q => Heap.get?_push_of_some _ q
  obtain ⟨T, id, hT, ht, hg⟩ := hr pins { s3 with heap := s3.heap.push { cls := .type "slice", data := .fields #[vl, vu, .none] } } σ H3 x v vl vu l u s3.heap.objs.size Q I4 r1 (Heap.IsSliceOf.new ..) pl pu q3
  show wpAny (model X.prog X.w) X.A (subscriptTail e (.Slice lo hi none p2) v (.ref s3.heap.objs.size)) (EP X pins σ Q) X.xe { s3 with heap := s3.heap.push { cls := .type "slice", data := .fields #[vl, vu, .none] } }
  exact tail_any (ops := [.ref s3.heap.objs.size, v]) ht hT hg (by with_unfolding_all rfl)
def cutV (xs : List V) (lo hi : Option Int) : List V := (xs.drop (HT.sIx xs.length 0 lo)).take (HT.sIx xs.length xs.length hi - HT.sIx xs.length 0 lo)
theorem cutV_length (xs : List V) (lo hi : Option Int) : (cutV xs lo hi).length ≤ xs.length := by
  unfold cutV
  rw [List.length_take, List.length_drop]
  omega
def rCatT (K : PySem.W.Frag) : R2 := fun x y H Q => ∃ a b xs ys, x = .ref a ∧ y = .ref b ∧ SqT K H a xs ∧ SqT K H b ys ∧ xs ≠ [] ∧ xs.length + ys.length ≤ sizeLine ∧
  (ys = [] → Q (.ref a) H) ∧ (ys ≠ [] → ∀ p, H p = none → Q (.ref p) (upd H p (.tup (xs ++ ys))))
theorem Vals.nil_iff {xs : List V} {us : List Value} (r : Vals xs us) : us = [] ↔ xs = [] := by
  cases r with
  | nil => simp
  | cons _ _ => simp
theorem op_catT : OpR X (binaryOp .Add) (rCatT X.K) := by
  intro pins s σ H x y v u Q I rx ry h
  obtain ⟨a, b, xs, ys, rfl, rfl, ha, hb, hx, hz, q1, q2⟩ := h
  cases rx
  cases ry
  obtain ⟨its, r1, p1, _⟩ := I.tuple ha
  obtain ⟨its2, r2, p2, _⟩ := I.tuple hb
  refine HT.cat_tup p1 p2 (fun z => hx (r1.nil_iff.mp z)) (fun z => ⟨.ref a, H, I, rfl, q1 (r2.nil_iff.mp z)⟩) (fun z => ?_) (by rw [← r1.length, ← r2.length]; exact hz)
  refine ⟨.ref s.heap.objs.size, _, I.laid (t' := s.toks) (o := .tup (xs ++ ys)) (fun b ob q => Heap.get?_push_of_some _ q) (Nat.le_refl _) ?_, rfl, q2 (fun w => z (r2.nil_iff.mpr w)) _ (I.hok.fresh (Nat.le_refl _))⟩
  exact ⟨by rw [List.length_append]; exact hz, _, r1.append r2, IsTup.new _ _⟩
end
end L2
namespace L2
open PySem PySem.Spec PyProof.Rows
def ixN (n : Nat) (i : Int) : Option Nat := if 0 ≤ i then (if i < n then some i.toNat else none) else if -(n : Int) ≤ i then some (i + n).toNat else none
def atI {α : Type} (xs : List α) (i : Int) : Option α := (ixN xs.length i).bind fun j => xs[j]?
theorem ixN_seq {n : Nat} {i : Int} {j : Nat} (h : ixN n i = some j) : seqIndex? i n = some j ∧ j < n ∧ -(n : Int) ≤ i ∧ i < n := by
  unfold ixN at h
  by_cases h0 : 0 ≤ i
  · rw [if_pos h0] at h
    by_cases h1 : i < n
    · rw [if_pos h1] at h
      have e : i.toNat = j := Option.some.inj h
      exact ⟨by rw [seqIndex_of h0 h1, e], by omega, by omega, h1⟩
    · rw [if_neg h1] at h; cases h
  · rw [if_neg h0] at h
    by_cases h1 : -(n : Int) ≤ i
    · rw [if_pos h1] at h
      have e : (i + n).toNat = j := Option.some.inj h
      exact ⟨by rw [seqIndex_neg (by omega) h1, e], by omega, h1, by omega⟩
    · rw [if_neg h1] at h; cases h
theorem atI_get {α : Type} {xs : List α} {i : Int} {v : α} (h : atI xs i = some v) : ∃ j, seqIndex? i xs.length = some j ∧ xs[j]? = some v ∧ j < xs.length ∧ -(xs.length : Int) ≤ i ∧ i < xs.length := by
  unfold atI at h
  cases e : ixN xs.length i with
  | none => rw [e] at h; cases h
  | some j =>
    rw [e] at h
    obtain ⟨h1, h2, h3, h4⟩ := ixN_seq e
    exact ⟨j, h1, h, h2, h3, h4⟩
theorem atI_nat {α : Type} {xs : List α} {j : Nat} {v : α} (h : xs[j]? = some v) : atI xs (j : Int) = some v := by
  have hj : j < xs.length := (List.getElem?_eq_some_iff.mp h).1
  have e : ixN xs.length (j : Int) = some j := by
    unfold ixN
    rw [if_pos (by omega), if_pos (by omega)]; simp
  unfold atI; rw [e]; exact h
theorem atI_last {α : Type} (xs : List α) (v : α) : atI (xs ++ [v]) (-1) = some v := by
  have hl : (xs ++ [v]).length = xs.length + 1 := by simp
  have e : ixN (xs ++ [v]).length (-1) = some xs.length := by
    unfold ixN
    rw [hl, if_neg (by decide), if_pos (by omega)]
    congr 1
    omega
  unfold atI
  rw [e]
  show (xs ++ [v])[xs.length]? = some v
  simp
def PlainIx (b : Expr) : Prop := ∀ o i, subscripted b false o i = operate [o, i] (getItem o i)
def IxR (X : Cx) (r : R2) : Prop :=
  ∀ (value slice : Expr) (pins : List (Addr × Obj)) (s : Shared) (σ : St) (H : Hp) (x y : V) (v u : Value) (Q : VK), Inv X pins σ H s → RelV x v → RelV y u → r x y H Q →
    subscripted slice false v u = operate [v, u] (getItem v u) → wpAny (model X.prog X.w) X.A (subscriptTail value slice v u) (EP X pins σ Q) X.xe s
def MtR (X : Cx) (id : String) (r : V → List V → Hp → VK → Prop) : Prop :=
  ∀ (pins : List (Addr × Obj)) (s : Shared) (σ : St) (H : Hp) (x : V) (xs : List V) (v : Value) (us : List Value) (Q : VK), Inv X pins σ H s → RelV x v → Vals xs us → r x xs H Q →
    wpAny (model X.prog X.w) X.A (call (.builtin id) (v :: us)) (EP X pins σ Q) X.xe s
section
variable {X : Cx} {a b : Expr} {ta tb : TE} {pos : Pos}
theorem IxR.or {r r' : R2} (h : IxR X r) (h' : IxR X r') : IxR X (fun x y H Q => r x y H Q ∨ r' x y H Q) := by
  intro value slice pins s σ H x y v u Q I rx ry q hs
  rcases q with q | q
  · exact h value slice pins s σ H x y v u Q I rx ry q hs
  · exact h' value slice pins s σ H x y v u Q I rx ry q hs
theorem MtR.or {id : String} {r r' : V → List V → Hp → VK → Prop} (h : MtR X id r) (h' : MtR X id r') : MtR X id (fun x xs H Q => r x xs H Q ∨ r' x xs H Q) := by
  intro pins s σ H x xs v us Q I rx rs q
  rcases q with q | q
  · exact h pins s σ H x xs v us Q I rx rs q
  · exact h' pins s σ H x xs v us Q I rx rs q
theorem pe_ix {r : R2} (hr : IxR X r) (ha : PE X a ta) (hb : PE X b tb) (hs : PlainIx b) : PE X (.Subscript a b pos) (tOp r ta tb) := by
  intro pins s σ H Q I h
  exact Subscript_ (binT ha hb I h fun v u s2 x y H2 I2 rx ry q => hr a b pins s2 σ H2 x y v u Q I2 rx ry q (hs _ _))
def rIxL (K : PySem.W.Frag) : R2 := fun x y H Q => ∃ p xs i v, x = .ref p ∧ y = .int i ∧ SqL K H p xs ∧ atI xs i = some v ∧ Q v H
def rIxT (K : PySem.W.Frag) : R2 := fun x y H Q => ∃ p xs i v, x = .ref p ∧ y = .int i ∧ SqT K H p xs ∧ atI xs i = some v ∧ Q v H
def rIxS : R2 := fun x y H Q => ∃ z i c, x = .str z ∧ y = .int i ∧ z.length ≤ sizeLine ∧ atI z.cps.toList i = some c ∧ Q (.str ⟨#[c]⟩) H
theorem ix_list : IxR X (rIxL X.K) := by
  intro value slice pins s σ H x y v u Q I rx ry h hs
  obtain ⟨p, xs, i, z, rfl, rfl, hq, he, q⟩ := h
  cases rx
  obtain ⟨t, rfl⟩ := ry
  obtain ⟨its, r, pl, hz⟩ := I.list hq
  obtain ⟨j, h1, h2, h3, h4, h5⟩ := atI_get he
  obtain ⟨w, ew, rw'⟩ := r.get h2
  have hl := r.length
  have hn := line63
  have fin : EP X pins σ Q w s := ⟨z, H, I, rw', q⟩
  by_cases h0 : 0 ≤ i
  · have hj : i.toNat = j := by
      rw [seqIndex_of h0 h5] at h1
      exact Option.some.inj h1
    exact item_listR pl.isList h0 (by omega) (by rw [hj]; simpa using ew) fin hs
  · have hj : (i + (its.toArray.size : Int)).toNat = j := by
      rw [seqIndex_neg (by omega) h4] at h1
      rw [List.size_toArray, ← hl]
      exact Option.some.inj h1
    exact subscriptTail_builtinR (x := w) pl.isList.typeIs slot_list_getitem.lookup
      (wpAny_getItem_list_neg (Q := fun r s' => r = w ∧ EP X pins σ Q r s') pl.isList (by omega) (by rw [List.size_toArray] <;> omega) (by omega) (by rw [hj]; simpa using ew) ⟨rfl, fin⟩) hs
theorem ix_tup : IxR X (rIxT X.K) := by
  intro value slice pins s σ H x y v u Q I rx ry h hs
  obtain ⟨p, xs, i, z, rfl, rfl, hq, he, q⟩ := h
  cases rx
  obtain ⟨t, rfl⟩ := ry
  obtain ⟨its, r, pl, hz⟩ := I.tuple hq
  obtain ⟨j, h1, h2, h3, h4, h5⟩ := atI_get he
  obtain ⟨w, ew, rw'⟩ := r.get h2
  have hl := r.length
  have hn := line63
  have fin : EP X pins σ Q w s := ⟨z, H, I, rw', q⟩
  exact subscriptTail_builtinR (x := w) pl.typeIs slot_tuple_getitem.lookup
    (getItem_tuple (j := j) (Q := fun r s' => r = w ∧ EP X pins σ Q r s') pl (by omega) (by omega) (by rw [List.size_toArray, ← hl]; exact h1) (by simpa using ew) ⟨rfl, fin⟩) hs
theorem ix_str : IxR X rIxS := by
  intro value slice pins s σ H x y v u Q I rx ry h hs
  obtain ⟨z, i, c, rfl, rfl, hz, he, q⟩ := h
  obtain ⟨t, rfl⟩ := rx
  obtain ⟨t', rfl⟩ := ry
  obtain ⟨j, h1, h2, h3, h4, h5⟩ := atI_get he
  have hl : z.cps.toList.length = z.length := by simp [Str.length]
  rw [hl] at h1 h4 h5
  have hn := line63
  exact tail_any (typeIs_str s z t) slot_str_getitem.lookup (getItem_str (c := c) (by
    have e1 : decide (i < -(2 ^ 63 : Int)) = false := decide_eq_false (by omega)
    have e2 : decide (i ≥ 2 ^ 63) = false := decide_eq_false (by omega)
    rw [e1, e2, Bool.or_false]) (by rw [h1]; simpa using h2) ⟨.str ⟨#[c]⟩, H, I.tok _, ⟨_, rfl⟩, q⟩) hs
def rIx (K : PySem.W.Frag) : R2 := fun x y H Q => rIxL K x y H Q ∨ rIxT K x y H Q ∨ rIxS x y H Q
theorem ix_seq : IxR X (rIx X.K) := ix_list.or (ix_tup.or ix_str)
theorem Inv.lst {pins : List (Addr × Obj)} {σ : St} {H : Hp} {s : Shared} {p : Addr} {xs : List V} (I : Inv X pins σ H s) (h : H p = some (.lst xs)) :
    ∃ (its : List Value) (n : Nat), Vals xs its ∧ s.heap.get? p = some { cls := .type "list", data := .seq its.toArray n } ∧ xs.length ≤ sizeLine := by
  obtain ⟨z, its, n, r, e⟩ := I.hok p _ h
  exact ⟨its, n, r, e, z⟩
theorem slice_bounds (lo hi : Option Int) (n : Nat) : (sliceBounds lo hi none n).1 = ((HT.sIx n 0 lo : Nat) : Int) ∧ (sliceBounds lo hi none n).2.1 = ((HT.sIx n n hi : Nat) : Int) ∧ (sliceBounds lo hi none n).2.2 = 1 := by
  refine ⟨?_, ?_, rfl⟩
  · cases lo with
    | none => simp [sliceBounds, HT.sIx]
    | some i =>
      simp only [sliceBounds, HT.sIx, Option.getD_none, show (1 : Int) > 0 by decide, if_true]
      by_cases h : i < 0
      · simp only [h, if_true] <;> omega
      · simp only [h, if_false] <;> omega
  · cases hi with
    | none => simp [sliceBounds, HT.sIx]
    | some i =>
      simp only [sliceBounds, HT.sIx, Option.getD_none, show (1 : Int) > 0 by decide, if_true]
      by_cases h : i < 0
      · simp only [h, if_true] <;> omega
      · simp only [h, if_false] <;> omega
theorem slicePick_cut (its : List Value) (lo hi : Option Int) : slicePick its.toArray lo hi none = ((its.drop (HT.sIx its.length 0 lo)).take (HT.sIx its.length its.length hi - HT.sIx its.length 0 lo)).toArray := by
  obtain ⟨h1, h2, h3⟩ := slice_bounds lo hi its.toArray.size
  unfold slicePick
  rw [h1, h2, h3]
  simp only [sliceRange_one, pick_run, List.size_toArray] <;> rfl
def rSlL (K : PySem.W.Frag) : V → Option Int → Option Int → Hp → VK → Prop := fun x lo hi H Q => ∃ a xs, x = .ref a ∧ SqL K H a xs ∧ ∀ p, H p = none → Q (.ref p) (upd H p (.lst (cutV xs lo hi)))
theorem sl_list : SlR X (rSlL X.K) := by
  intro pins s σ H x v vl vu lo hi sl Q I rx hs pl pu h
  obtain ⟨a, xs, rfl, hx, q⟩ := h
  cases rx
  obtain ⟨its, r, ht, hz⟩ := I.list hx
  have hlen := r.length
  refine ⟨"list", _, slot_list_getitem.lookup, ht.isList.typeIs, ?_⟩
  refine wpAny_getItem_list_slice ht.isList hs pl pu .none (by simp) ?_ (by rw [List.size_toArray] <;> omega)
  rw [slicePick_cut, ← hlen]
  refine ⟨.ref s.heap.objs.size, _, I.laid (t' := s.toks) (o := .lst (cutV xs lo hi)) (fun b ob q => Heap.get?_push_of_some _ q) (Nat.le_refl _) ?_, rfl, q _ (I.hok.fresh (Nat.le_refl _))⟩
  exact ⟨Nat.le_trans (cutV_length xs lo hi) hz, _, 0, (r.drop (HT.sIx xs.length 0 lo)).take (HT.sIx xs.length xs.length hi - HT.sIx xs.length 0 lo), Heap.get?_push_size _ rfl⟩
def flatV : V → Bool
  | .non => true
  | .bl _ => true
  | .int _ => true
  | .str _ => true
  | _ => false
def eqV : V → V → Bool
  | .non, .non => true
  | .bl a, .bl b => a == b
  | .bl a, .int b => (if a then 1 else 0) == b
  | .int a, .bl b => a == (if b then 1 else 0)
  | .int a, .int b => a == b
  | .str a, .str b => a == b
  | _, _ => false
theorem eqAt_V {A : Around} {s : Shared} {y x : V} {u v : Value} (ry : RelV y u) (rx : RelV x v) (fy : flatV y = true) (fx : flatV x = true) : SeqAt.EqAt A s u v (eqV y x) := by
  cases y with
  | non =>
    cases ry
    cases x with
    | non => cases rx; exact SeqAt.EqAt.same _
    | bl b => cases rx; exact SeqAt.EqAt.none_bool b
    | int b => obtain ⟨t, rfl⟩ := rx; exact SeqAt.EqAt.none_int b t
    | str b => obtain ⟨t, rfl⟩ := rx; exact SeqAt.EqAt.none_str b t
    | _ => exact absurd (show false = true from fx) Bool.false_ne_true
  | bl a =>
    cases ry
    cases x with
    | non => cases rx; exact SeqAt.EqAt.bool_none a
    | bl b => cases rx; exact SeqAt.EqAt.bool_bool a b
    | int b => obtain ⟨t, rfl⟩ := rx; exact SeqAt.EqAt.bool_int a b t
    | str b => obtain ⟨t, rfl⟩ := rx; exact SeqAt.EqAt.bool_str a b t
    | _ => exact absurd (show false = true from fx) Bool.false_ne_true
  | int a =>
    obtain ⟨t', rfl⟩ := ry
    cases x with
    | non => cases rx; exact SeqAt.EqAt.int_none a t'
    | bl b => cases rx; exact SeqAt.EqAt.int_bool a t' b
    | int b => obtain ⟨t, rfl⟩ := rx; exact SeqAt.EqAt.int_int a t' b t
    | str b => obtain ⟨t, rfl⟩ := rx; exact SeqAt.EqAt.int_str a t' b t
    | _ => exact absurd (show false = true from fx) Bool.false_ne_true
  | str a =>
    obtain ⟨t', rfl⟩ := ry
    cases x with
    | non => cases rx; exact SeqAt.EqAt.str_none a t'
    | bl b => cases rx; exact SeqAt.EqAt.str_bool a t' b
    | int b => obtain ⟨t, rfl⟩ := rx; exact SeqAt.EqAt.str_int a t' b t
    | str b => obtain ⟨t, rfl⟩ := rx; exact SeqAt.EqAt.str_str a t' b t
    | _ => exact absurd (show false = true from fx) Bool.false_ne_true
  | _ => exact absurd (show false = true from fy) Bool.false_ne_true
def eqU (x : V) (u : Value) : Bool := match u with
  | .none => eqV .non x
  | .bool b => eqV (.bl b) x
  | .int i _ => eqV (.int i) x
  | .str z _ => eqV (.str z) x
  | _ => false
theorem eqU_of {x y : V} {u : Value} (r : RelV y u) (f : flatV y = true) : eqU x u = eqV y x := by
  cases y with
  | non => cases r; rfl
  | bl b => cases r; rfl
  | int i => obtain ⟨t, rfl⟩ := r; rfl
  | str z => obtain ⟨t, rfl⟩ := r; rfl
  | _ => exact absurd (show false = true from f) Bool.false_ne_true
theorem any_eqU {x : V} : ∀ {xs : List V} {us : List Value}, Vals xs us → xs.all flatV = true → us.any (eqU x) = xs.any fun y => eqV y x
  | _, _, .nil, _ => rfl
  | y :: xs, u :: us, .cons r t, f => by
    rw [List.all_cons, Bool.and_eq_true] at f
    rw [List.any_cons, List.any_cons, eqU_of r f.1, any_eqU t f.2]
theorem mem_eqAt {A : Around} {s : Shared} {x : V} {v : Value} (rx : RelV x v) (fx : flatV x = true) : ∀ {xs : List V} {us : List Value}, Vals xs us → xs.all flatV = true → ∀ u ∈ us, SeqAt.EqAt A s u v (eqU x u)
  | _, _, .nil, _ => fun u hu => by cases hu
  | y :: xs, u :: us, .cons r t, f => fun u' hu => by
    rw [List.all_cons, Bool.and_eq_true] at f
    rcases List.mem_cons.mp hu with rfl | hu
    · rw [eqU_of r f.1]; exact eqAt_V r rx f.1 fx
    · exact mem_eqAt rx fx t f.2 u' hu
def inV (x : V) (xs : List V) : Bool := xs.any fun y => eqV y x
def rIn (K : PySem.W.Frag) (neg : Bool) : R2 := fun x y H Q => ∃ p xs, y = .ref p ∧ (SqL K H p xs ∨ SqT K H p xs) ∧ flatV x = true ∧ xs.all flatV = true ∧ Q (.bl (if neg then !inV x xs else inV x xs)) H
theorem op_in_seq : OpR X (compareOp .In) (rIn X.K false) := by
  intro pins s σ H x y v u Q I rx ry h
  obtain ⟨p, xs, rfl, hq, fx, fs, q⟩ := h
  cases ry
  rcases hq with hq | hq
  · obtain ⟨its, r, pl, hz⟩ := I.list hq
    refine SeqAt.in_listAt (eqU x) pl.isList (fun w hw => mem_eqAt rx fx r fs w (by simpa using hw)) ⟨.bl _, H, I, rfl, ?_⟩
    rw [show its.toArray.any (eqU x) = its.any (eqU x) by simp, any_eqU r fs]
    exact q
  · obtain ⟨its, r, pl, hz⟩ := I.tuple hq
    refine SeqAt.in_tupleAt (eqU x) pl (fun w hw => mem_eqAt rx fx r fs w (by simpa using hw)) ⟨.bl _, H, I, rfl, ?_⟩
    rw [show its.toArray.any (eqU x) = its.any (eqU x) by simp, any_eqU r fs]
    exact q
theorem op_notIn_seq : OpR X (compareOp .NotIn) (rIn X.K true) := by
  intro pins s σ H x y v u Q I rx ry h
  obtain ⟨p, xs, rfl, hq, fx, fs, q⟩ := h
  cases ry
  rcases hq with hq | hq
  · obtain ⟨its, r, pl, hz⟩ := I.list hq
    refine SeqAt.notIn_listAt (eqU x) pl.isList (fun w hw => mem_eqAt rx fx r fs w (by simpa using hw)) ⟨.bl _, H, I, rfl, ?_⟩
    rw [show its.toArray.any (eqU x) = its.any (eqU x) by simp, any_eqU r fs]
    exact q
  · obtain ⟨its, r, pl, hz⟩ := I.tuple hq
    refine SeqAt.notIn_tupleAt (eqU x) pl (fun w hw => mem_eqAt rx fx r fs w (by simpa using hw)) ⟨.bl _, H, I, rfl, ?_⟩
    rw [show its.toArray.any (eqU x) = its.any (eqU x) by simp, any_eqU r fs]
    exact q
theorem call_len_seq : CallR X (.builtin "len") (fun xs H Q => ∃ p ys, xs = [.ref p] ∧ (SqL X.K H p ys ∨ SqT X.K H p ys) ∧ Q (.int ys.length) H) := by
  intro pins s σ H xs us Q I r h
  obtain ⟨p, ys, rfl, hq, q⟩ := h
  obtain ⟨u, rfl, rx⟩ := vals1 r
  cases rx
  have hn := line63
  rcases hq with hq | hq
  · obtain ⟨its, r', pl, hz⟩ := I.list hq
    have hlen := r'.length
    exact Calls.call_len_list pl.isList (by simp only [List.size_toArray] <;> omega) ⟨.int ys.length, H, I.tok _, ⟨s.toks + 1, by rw [List.size_toArray, hlen]⟩, q⟩
  · obtain ⟨its, r', pl, hz⟩ := I.tuple hq
    have hlen := r'.length
    exact len_tuple pl (by simp only [List.size_toArray] <;> omega) ⟨.int ys.length, H, I.tok _, ⟨s.toks + 1, by rw [List.size_toArray, hlen]⟩, q⟩
theorem call_len_str : CallR X (.builtin "len") (fun xs H Q => ∃ z, xs = [.str z] ∧ z.length ≤ sizeLine ∧ Q (.int z.length) H) := by
  intro pins s σ H xs us Q I r h
  obtain ⟨z, rfl, hz, q⟩ := h
  obtain ⟨u, rfl, t, rfl⟩ := vals1 r
  have hn := line63
  exact len_str (by omega) ⟨.int z.length, H, I.tok _, ⟨_, rfl⟩, q⟩
theorem CallR.or {f : Value} {r r' : List V → Hp → VK → Prop} (h : CallR X f r) (h' : CallR X f r') : CallR X f (fun xs H Q => r xs H Q ∨ r' xs H Q) := by
  intro pins s σ H xs us Q I rs q
  rcases q with q | q
  · exact h pins s σ H xs us Q I rs q
  · exact h' pins s σ H xs us Q I rs q
def tyV (K : PySem.W.Frag) (T : String) (x : V) (H : Hp) : Prop := match x with
  | .str _ => T = "str"
  | .int _ => T = "int"
  | .ref p => (T = "list" ∧ ∃ xs, SqL K H p xs) ∨ (T = "tuple" ∧ ∃ o, K.lookup p = some o ∧ o.cls = .type "tuple" ∧ o.dict = none) ∨
      (T = "dict" ∧ ((∃ kvs, H p = some (.dK kvs)) ∨ ∃ kvs, H p = some (.dT kvs))) ∨ (T = "set" ∧ ∃ S n, H p = some (.set S n))
  | _ => False
theorem tyV_is {pins : List (Addr × Obj)} {σ : St} {H : Hp} {s : Shared} {T : String} {x : V} {v : Value} (I : Inv X pins σ H s) (r : RelV x v) (ty : tyV X.K T x H) :
    s.TypeIs v T ∧ ∀ a, v = .ref a → ∃ ob, s.heap.get? a = some ob ∧ ob.dict = none := by
  cases x with
  | str z =>
    obtain ⟨t, rfl⟩ := r
    cases (show T = "str" from ty)
    exact ⟨typeIs_str s z t, fun _ e => nomatch e⟩
  | int i =>
    obtain ⟨t, rfl⟩ := r
    cases (show T = "int" from ty)
    exact ⟨typeIs_int s i t, fun _ e => nomatch e⟩
  | ref p =>
    cases r
    rcases ty with ⟨rfl, xs, hq⟩ | ⟨rfl, o, hk, hc, hd⟩ | ⟨rfl, hk⟩ | ⟨rfl, S, n, hk⟩
    · obtain ⟨its, _, pl, _⟩ := I.list hq
      refine ⟨pl.isList.typeIs, fun a e => ?_⟩
      cases e
      obtain ⟨o, n, e, c, hd, _⟩ := pl
      exact ⟨o, e, hd⟩
    · refine ⟨⟨o, I.kIn p o hk, hc⟩, fun a e => ?_⟩
      cases e
      exact ⟨o, I.kIn _ o hk, hd⟩
    · have z : ∃ o, s.heap.get? p = some o ∧ o.ExactDict := by
        rcases hk with ⟨kvs, hk⟩ | ⟨kvs, hk⟩
        · obtain ⟨_, _, _, _, o, _, _, e, ex, _⟩ := I.hok p _ hk
          exact ⟨o, e, ex⟩
        · obtain ⟨_, _, _, _, o, _, _, e, ex, _⟩ := I.hok p _ hk
          exact ⟨o, e, ex⟩
      obtain ⟨o, e, ex⟩ := z
      refine ⟨⟨o, e, ex.1⟩, fun a e2 => ?_⟩
      cases e2
      exact ⟨o, e, ex.2.1⟩
    · obtain ⟨o, _, _, _, e, ex, _⟩ := I.hok p _ hk
      refine ⟨⟨o, e, ex.1⟩, fun a e2 => ?_⟩
      cases e2
      exact ⟨o, e, ex.2.1⟩
  | _ => exact False.elim ty
def tBM0 (K : PySem.W.Frag) (T : String) (r : V → List V → Hp → VK → Prop) (to : TE) : TE := fun σ H Q => to σ H fun x H1 => tyV K T x H1 ∧ r x [] H1 Q
def tBM (K : PySem.W.Frag) (T : String) (r : V → List V → Hp → VK → Prop) (to : TE) (t : TA) : TE := fun σ H Q => to σ H fun x H1 => tyV K T x H1 ∧ t σ H1 fun xs H2 => r x xs H2 Q
variable {o e : Expr} {es : List Expr} {to : TE} {t : TA} {name : Str} {apos cpos : Pos} {T id : String} {r : V → List V → Hp → VK → Prop}
theorem pe_bm0 (pa : PlainAttrs T) (slot : Slot T name id) (hty : typeOf (.builtin id) = pure (.type "method_descriptor")) (hm : MtR X id r) (ho : PE X o to)
    (hbase : attributeBase o name X.env (eval o X.env) = eval o X.env := by rfl) (hline : (apos.endLine == cpos.line) = true := by rfl) : PE X (.Call (.Attribute o name apos) [] [] cpos) (tBM0 X.K T r to) := by
  intro pins s σ H Q I h
  refine wpAny_Call_method0_late hbase hline (thn (ho pins s σ H _ I h) fun v s1 ⟨x, H1, I1, r1, ty, q1⟩ => ?_)
  obtain ⟨h1, h2⟩ := tyV_is I1 r1 ty
  exact ⟨T, id, pa, slot, hty, h1, h2, Calls.callWith_builtin rfl (PySem.evalArgs_none (hm pins s1 σ H1 x [] v [] Q I1 r1 .nil q1))⟩
theorem pe_bm (pa : PlainAttrs T) (slot : Slot T name id) (hty : typeOf (.builtin id) = pure (.type "method_descriptor")) (hm : MtR X id r) (ho : PE X o to) (ha : PA X (e :: es) t)
    (hbase : attributeBase o name X.env (eval o X.env) = eval o X.env := by rfl)
    (hfew : ((backTo cpos (starEach (e :: es) X.env)).all (fun x => !x.1) && (backToKw cpos (keywordEach [] X.env)).all (fun x => x.1.isSome)
      && decide ((e :: es).length + ([] : List Keyword).length + (if ([] : List Keyword).isEmpty then 0 else 1) < 30)) = true := by rfl)
    (hline : (apos.endLine == cpos.line) = true := by rfl) (hs : starEach (e :: es) X.env = (false, eval e X.env) :: starEach es X.env := by rfl) (hplain : (backTo cpos (starEach es X.env)).any (·.1) = false := by rfl) :
    PE X (.Call (.Attribute o name apos) (e :: es) [] cpos) (tBM X.K T r to t) := by
  intro pins s σ H Q I h
  refine wpAny_Call_method_late hbase hfew hline rfl (thn (ho pins s σ H _ I h) fun v s1 ⟨x, H1, I1, r1, ty, q1⟩ => ?_)
  obtain ⟨h1, h2⟩ := tyV_is I1 r1 ty
  refine ⟨T, id, pa, slot, hty, h1, h2, ?_⟩
  have hA := ha cpos pins s1 σ H1 _ I1 q1
  rw [hs] at hA ⊢
  refine Calls.callWith_builtin (by show (false || (backTo cpos (starEach es X.env)).any (·.1)) = false; rw [hplain] <;> rfl) (Calls.evalArgs_plain ?_)
  exact thn hA fun us s2 ⟨vs, H2, I2, r2, q2⟩ => hm pins s2 σ H2 x vs v us Q I2 r1 r2 q2
end
end L2
namespace L2
open PySem PySem.Spec PyProof.Rows
def MtM (X : Cx) (id : String) (r : V → List V → Hp → VK → Prop) : Prop :=
  ∀ (pins : List (Addr × Obj)) (s : Shared) (σ : St) (H : Hp) (x : V) (xs : List V) (v : Value) (us : List Value) (Q : VK), Inv X pins σ H s → RelV x v → Vals xs us → r x xs H Q →
    wpAny (model X.prog X.w) X.A (call (.builtin id) (v :: us)) (EP X pins σ Q) X.xe s
theorem Vals.one : ∀ {x : V} {us : List Value}, Vals [x] us → ∃ u, us = [u] ∧ RelV x u
  | _, _, .cons r .nil => ⟨_, rfl, r⟩
theorem Vals.zero : ∀ {us : List Value}, Vals [] us → us = []
  | _, .nil => rfl
theorem Vals.dropLast {xs : List V} {us : List Value} (h : Vals xs us) : Vals xs.dropLast us.dropLast := by
  induction h with
  | nil => exact .nil
  | cons r t ih =>
    cases t with
    | nil => exact .nil
    | cons q t' => exact .cons r ih
theorem Vals.eraseIdx : ∀ {xs : List V} {us : List Value} (i : Nat), Vals xs us → Vals (xs.eraseIdx i) (us.eraseIdx i)
  | _, _, _, .nil => .nil
  | _, _, 0, .cons _ t => t
  | _, _, i + 1, .cons r t => .cons r (Vals.eraseIdx i t)
theorem Vals.reverse {xs : List V} {us : List Value} (h : Vals xs us) : Vals xs.reverse us.reverse := by
  induction h with
  | nil => exact .nil
  | cons r t ih => rw [List.reverse_cons, List.reverse_cons]; exact Vals.append ih (.cons r .nil)
theorem Vals.rep {xs : List V} {us : List Value} (h : Vals xs us) : ∀ k : Nat, Vals (List.replicate k xs).flatten (List.replicate k us).flatten
  | 0 => .nil
  | k + 1 => by
    rw [List.replicate_succ, List.replicate_succ, List.flatten_cons, List.flatten_cons]
    exact Vals.append h (Vals.rep h k)
theorem erase_last {α : Type} (l : List α) : l.eraseIdx (l.length - 1) = l.dropLast := by
  induction l with
  | nil => rfl
  | cons a r ih =>
    cases r with
    | nil => rfl
    | cons b r =>
      have e : (a :: b :: r).length - 1 = ((b :: r).length - 1) + 1 := by
        have h1 : (a :: b :: r).length = r.length + 2 := rfl
        have h2 : (b :: r).length = r.length + 1 := rfl
        omega
      rw [e, List.eraseIdx_cons_succ, ih]
      all_goals rfl
theorem foldl_rep (its : List Value) : ∀ (k : Nat) (acc : List Value),
    List.foldl (fun x1 x2 => x1 ++ x2) acc.toArray (List.replicate k its.toArray) = (acc ++ (List.replicate k its).flatten).toArray
  | 0, acc => by simp
  | k + 1, acc => by
    have e : acc.toArray ++ its.toArray = (acc ++ its).toArray := by simp
    have e2 : (acc ++ its) ++ (List.replicate k its).flatten = acc ++ (List.replicate (k + 1) its).flatten := by
      rw [List.replicate_succ, List.flatten_cons, List.append_assoc]
    rw [← e2, ← foldl_rep its k (acc ++ its), ← e, List.replicate_succ, List.foldl_cons]
section
variable {X : Cx} {pins : List (Addr × Obj)} {σ : St} {H : Hp} {s : Shared} {l b : Addr} {xs ys zs : List V}
theorem Inv.lset {its its' : List Value} {n : Nat} {f : Array Value → Array Value} {t' : Nat} (I : Inv X pins σ H s) (hH : H l = some (.lst xs))
    (e : s.heap.get? l = some { cls := .type "list", data := .seq its.toArray n }) (hf : f its.toArray = its'.toArray) (hv : Vals ys its') (hz : ys.length ≤ sizeLine) :
    Inv X pins σ (upd H l (.lst ys)) { s with heap := s.heap.update l (Obj.mapSeq f), toks := t' } := by
  have q := PySem.IsL.update e f
  rw [hf] at q
  refine I.write (x := l) (e := l) (by rw [hH]; exact trivial) (.inl rfl) (fun b' u hb hu => (Heap.get?_update_other s.heap (Obj.mapSeq f) (Ne.symm hb)).trans hu) ⟨_, q⟩ ?_
  exact ⟨hz, its', _, hv, q⟩
theorem Inv.lnew {its : List Value} {t' : Nat} (I : Inv X pins σ H s) (hv : Vals ys its) (hz : ys.length ≤ sizeLine) :
    Inv X pins σ (upd H s.heap.objs.size (.lst ys)) { s with heap := s.heap.push { cls := .type "list", data := .seq its.toArray }, toks := t' } :=
  I.laid (fun _ _ q => Heap.get?_push_of_some _ q) (Nat.le_refl _) ⟨hz, its, 0, hv, Heap.get?_push_size _ rfl⟩
theorem Inv.fresh (I : Inv X pins σ H s) : H s.heap.objs.size = none := I.hok.fresh (Nat.le_refl _)
theorem Inv.lstM (I : Inv X pins σ H s) (hH : H l = some (.lst xs)) : xs.length ≤ sizeLine ∧ ∃ (its : List Value) (n : Nat), Vals xs its ∧ xs.length = its.length ∧ s.heap.get? l = some { cls := .type "list", data := .seq its.toArray n } := by
  obtain ⟨z, its, n, r, e⟩ := I.hok l _ hH
  exact ⟨z, its, n, r, r.length, e⟩
theorem notLongL {n : Nat} (h : n ≤ sizeLine) : Builtin.List.listTooLong n = false := by
  unfold Builtin.List.listTooLong
  exact decide_eq_false (by omega)
end
section
variable {X : Cx}
def rAppend : V → List V → Hp → VK → Prop := fun x vs H Q => ∃ l xs y, x = .ref l ∧ vs = [y] ∧ H l = some (.lst xs) ∧ xs.length < sizeLine ∧ Q .non (upd H l (.lst (xs ++ [y])))
theorem mt_append : MtM X "list.append" rAppend := by
  intro pins s σ H x vs v us Q I rx rv h
  obtain ⟨l, xs, y, rfl, rfl, hH, hz, q⟩ := h
  cases rx
  obtain ⟨u, rfl, ru⟩ := rv.one
  obtain ⟨z, its, n, r, hl, e⟩ := I.lstM hH
  refine call_meets F.slot_list_append ⟨_, e, rfl⟩ F.entry_list_append (F.args_list_append_2 _ _) (PySem.list_append l its.toArray n u (by rw [List.size_toArray]; omega)) ⟨e, ?_⟩
  refine ⟨.non, _, I.lset (its' := its ++ [u]) hH e (by simp) (r.append (.cons ru .nil)) ?_, rfl, q⟩
  rw [List.length_append, List.length_singleton]
  omega
def rPop : V → List V → Hp → VK → Prop := fun x vs H Q => ∃ l xs y, x = .ref l ∧ vs = [] ∧ H l = some (.lst xs) ∧ xs[xs.length - 1]? = some y ∧ Q y (upd H l (.lst xs.dropLast))
theorem mt_pop : MtM X "list.pop" rPop := by
  intro pins s σ H x vs v us Q I rx rv h
  obtain ⟨l, xs, y, rfl, rfl, hH, hy, q⟩ := h
  cases rx
  have hus := rv.zero
  subst hus
  obtain ⟨z, its, n, r, hl, e⟩ := I.lstM hH
  obtain ⟨u, hu, ru⟩ := r.get hy
  have hy' : its.toArray[its.toArray.size - 1]? = some u := by
    show its.toArray[its.length - 1]? = some u
    rw [← Array.getElem?_toList, ← hl]
    exact hu
  refine call_meets F.slot_list_pop ⟨_, e, rfl⟩ F.entry_list_pop (F.args_list_pop_1 _) (MeetsSeq.list_pop_last l its.toArray n u hy' (by rw [List.size_toArray]; omega)) ⟨e, ?_⟩
  refine ⟨y, _, I.lset (its' := its.dropLast) hH e ?_ r.dropLast ?_, ru, q⟩
  · show its.toArray.eraseIdxIfInBounds (its.toArray.size - 1) = its.dropLast.toArray
    rw [List.size_toArray, List.eraseIdxIfInBounds_toArray, erase_last]
  · rw [List.length_dropLast]
    omega
def rRep : R2 := fun x y H Q => ∃ l k xs, x = .ref l ∧ y = .int k ∧ H l = some (.lst xs) ∧ -(2 ^ 63) ≤ k ∧ k < 2 ^ 63 ∧ xs.length * k.toNat ≤ sizeLine ∧
  ∀ p, H p = none → Q (.ref p) (upd H p (.lst (List.replicate k.toNat xs).flatten))
theorem len_rep {α : Type} (xs : List α) (k : Nat) : (List.replicate k xs).flatten.length = k * xs.length := by
  induction k with
  | zero => simp
  | succ k ih => rw [List.replicate_succ, List.flatten_cons, List.length_append, ih, Nat.succ_mul, Nat.add_comm]
theorem op_rep : OpR X (binaryOp .Mult) rRep := by
  intro pins s σ H x y v u Q I rx ry h
  obtain ⟨l, k, xs, rfl, rfl, hH, h1, h2, hz, q⟩ := h
  cases rx
  obtain ⟨t, rfl⟩ := ry
  obtain ⟨z, its, n, r, hl, e⟩ := I.lstM hH
  have hlen : its.toArray.size * k.toNat ≤ sizeLine := by rw [List.size_toArray, ← hl]; exact hz
  have hcap : ¬ its.toArray.size * k.toNat > (2 ^ 63 - 1) / 8 := by
    have : (sizeLine : Nat) ≤ (2 ^ 63 - 1) / 8 := by decide
    omega
  have hfit : ¬ (!Builtin.List.listFitsIndex k) = true := by
    rw [fitsIndex_both h1 h2]
    exact Bool.false_ne_true
  have hlong : ¬ Builtin.List.listTooLong (its.toArray.size * k.toNat) = true := by
    rw [notLongL hlen]
    exact Bool.false_ne_true
  have hnew : List.foldl (fun x1 x2 => x1 ++ x2) #[] (List.replicate (if its.toArray.isEmpty = true then 0 else k.toNat) its.toArray) = (List.replicate k.toNat its).flatten.toArray := by
    have f0 : ∀ m : Nat, List.foldl (fun x1 x2 => x1 ++ x2) #[] (List.replicate m its.toArray) = (List.replicate m its).flatten.toArray := fun m => by
      have := foldl_rep its m []
      rw [List.nil_append] at this
      exact this
    rw [f0]
    cases its with
    | nil => simp
    | cons a r' => rw [if_neg (by simp)]
  refine wpAny_binaryOp_repeat_ref (T := "list") (U := "int") (by decide) ⟨_, e, rfl⟩ (fun s' => typeIs_int s' k t) noFill_list_mul F.fills_int_mul F.slot_int_rmul repeat_list F.slot_int_index.lookup
    (call_meets F.slot_int_rmul (typeIs_int s k t) F.entry_int_rmul (F.args_int_rmul_2 _ _) (int___rmul___int_list k t l its.toArray n)
      ⟨e, rfl, ⟨_, e, rfl⟩, call_meets F.slot_list_mul ⟨_, e, rfl⟩ F.entry_list_mul (F.args_list_mul_2 _ _) (AutoListH.list___mul___list_int_3 l its.toArray n k t hfit hcap hlong) ⟨e, ?_⟩⟩)
  rw [hnew]
  exact ⟨.ref _, _, I.lnew (t' := s.toks) (r.rep k.toNat) (by rw [len_rep, Nat.mul_comm]; exact hz), rfl, q _ I.fresh⟩
end
section
variable {prog : Program} {w : World} {A : Around} {E : Value → Shared → Prop} {s : Shared}
set_option maxRecDepth 100000 in
end
section
variable {X : Cx}
end
end L2
namespace Att
open PySem PySem.W PySem.Calls PyProof.Rows
theorem ints_of_wellAll {P : Params} {h : Heap} : ∀ (ns : List Int) (vs : List Value), WellAll P h vs (ns.map WData.int) → IntsAre vs ns := by
  intro ns
  induction ns with
  | nil =>
    intro vs w
    rw [List.map_nil] at w
    cases w
    exact .nil
  | cons n ns ih =>
    intro vs w
    rw [List.map_cons] at w
    cases w with
    | cons a b =>
      cases a
      exact .cons _ _ (ih _ b)
theorem script_of {l : OpenLaw} {n : Nat} (hn : l.most = some n) {P : Params} {h : Heap} {args : List WData} {vals : List Value}
    (hpre : l.row.toRowW.claim.pre args = true) (hwl : WellAll P h vals args) :
    ∃ a vs ns, vals = [Value.ref a] ∧ args = [WData.list (ns.map WData.int)] ∧ h.get? a = some { cls := .type "list", data := .seq vs.toArray } ∧ IntsAre vs ns ∧ ns.length ≤ n := by
  have hsh : WShape.hasAll [] args [.list .int] = true := (pre_splitW hpre).1
  have hc : l.pre.holds [] { args := args } = true := (pre_splitW hpre).2
  obtain ⟨d, r, rfl, h1, h2⟩ := hasAllW_cons hsh
  obtain rfl := hasAllW_nil h2
  obtain ⟨xs, rfl, h3⟩ := hasW_list h1
  obtain ⟨ns, rfl⟩ := items_int h3
  have hlen : ns.length ≤ n := by
    unfold OpenLaw.pre at hc
    have h4 : (WTm.not (.lt (.lit (.int (n : Int))) (.len (.arg 0)))).holds [] { args := [.list (ns.map .int)] } = true := by
      have h4 := (holds_andW hc).1
      rw [hn] at h4
      exact h4
    have h5 := condW_of h4 (w_not (w_lt w_lit (w_len_list (w_arg rfl))))
    rw [List.length_map] at h5
    refine Nat.le_of_not_lt fun q => ?_
    have q' : (n : Int) < ((ns.length : Nat) : Int) := by omega
    first
      | (rw [decide_eq_true q'] at h5; exact absurd h5 (by decide))
      | (simp at h5; omega)
  cases hwl with
  | cons w1 w2 =>
    cases w2
    cases w1 with
    | list ho hall => exact ⟨_, _, ns, rfl, rfl, ho, ints_of_wellAll ns _ hall, hlen⟩
theorem post_true (l : OpenLaw) (args : List WData) : l.row.toRowW.claim.post args (.bool true) args = true :=
  postW_of (r := l.row.toRowW) (X := (true == true))
    (show WShape.has [] (.bool true) .bool = true by first | rfl | decide | simp [WShape.has, WShape.arms, WShape.armsAll])
    (show (WTm.eq .res (.lit (.bool true))).value [] { args := args, res := some (.bool true), after := args } = some (.bool (true == true)) from w_eq_bool (w_res rfl) w_lit) rfl
section
variable {prog : Program} {w : World} {A : Around} {E : Value → Shared → Prop} {s : Shared} {K : Frag}
end
end Att
namespace L2
open PySem PySem.Spec PyProof.Rows
theorem vals_ints : ∀ {vs : List Value} {ns : List Int}, IntsAre vs ns → Vals (ns.map V.int) vs
  | _, _, .nil => .nil
  | _, _, .cons n t h => .cons ⟨t, rfl⟩ (vals_ints h)
def Only (H : Hp) : Prop := ∀ b, H b = none ∨ ∃ o xs, H b = some (.frz o (.lst xs))
theorem law_call {P : Program} {w : World} {K : PySem.W.Frag} {mg mb : Str → Option Value} {CX : CXT} {k : Nat} {fa a : Addr} {fd : FuncData} {x : Str} {sp : Sp} {s₁ : Shared} {vs : List Value} {ns : List Int}
    (KX : K.In s₁.heap) (hns : s₁.heap.Ns mainGlobals mg) (hb : s₁.heap.Ns builtinsNs mb) (hbb : ∀ x : Str, x ≠ "__name__" → mb x = bootBuiltins x) (hlim : s₁.heap.NoLimit) (hg : s₁.gens = #[])
    (ha : s₁.heap.get? a = some { cls := .type "list", data := .seq vs.toArray }) (hi : IntsAre vs ns) (hl : ns.length ≤ sizeLine) (hr : Room k callerA)
    (F : ∀ base : Heap, K.In base → base.Ns mainGlobals mg → FnOk P w K mg base CX k fa fd [x] sp) (hbind : ∀ (s : Shared) (u : Value), BindsTo s fd ⟨[u], []⟩ [(x, u)])
    (hsp : ∀ H : Hp, Only H → SqL K H a (ns.map V.int) → sp [.ref a] H (fun v _ => v = .bl true) fun _ _ _ => False)
    (hCX : ∀ H e s', CX [] H s₁ (fun _ _ _ => False) e s' → False) :
    codeAny (model P w) callerA (.call (.ref fa) ⟨[.ref a], []⟩) (fun r s' => r = .ok (.ret (.bool true)) ∧ OldK s₁.heap s'.heap ∧ s'.os = s₁.os ∧ AllBare s'.gens) s₁ := by
  have rv := vals_ints hi
  have lenV := hi.length
  have core : ∀ H : Hp, Only H → SqL K H a (ns.map V.int) → HOk P w H s₁.heap → (∀ b, H b ≠ none → b = a) → (H a ≠ none → K.lookup a = none) →
      codeAny (model P w) callerA (.call (.ref fa) ⟨[.ref a], []⟩) (fun r s' => r = .ok (.ret (.bool true)) ∧ OldK s₁.heap s'.heap ∧ s'.os = s₁.os ∧ AllBare s'.gens) s₁ := by
    intro H hO hS hok hA hK
    have base_of : ∀ {b : Addr} {o : Obj}, s₁.heap.get? b = some o → H b = none → (hidT s₁.heap H).get? b = some o := fun e n => hidT_get e n
    have noA : ∀ {b : Addr} {o : Obj} {es : Array DictEntry} {ep : Nat}, s₁.heap.get? b = some o → o.data = .dict es ep → H b = none := fun {b o es ep} e d => by
      cases q : H b with
      | none => rfl
      | some u =>
        have e' : b = a := hA b (by rw [q]; simp)
        subst e'
        rw [ha] at e; cases e
        have d' : Data.seq vs.toArray _ = Data.dict es ep := d
        cases d'
    have nsK : ∀ {b : Addr} {m : Str → Option Value}, s₁.heap.Ns b m → (hidT s₁.heap H).Ns b m := fun {b m} ⟨o, es, ep, e, d, r⟩ => ⟨o, es, ep, base_of e (noA e d), d, r⟩
    have hKb : K.In (hidT s₁.heap H) := fun b o e => base_of (KX b o e) (by
      cases q : H b with
      | none => rfl
      | some u =>
        have e' : b = a := hA b (by rw [q]; simp)
        subst e'
        rw [hK (by rw [q]; simp)] at e; cases e)
    have hM : Mod K mg (hidT s₁.heap H) := ⟨hKb, nsK hns, ⟨mb, nsK hb, hbb⟩, let ⟨mc, h1, h2⟩ := hlim; ⟨mc, nsK h1, h2⟩⟩
    have e0 : Env0 P w K mg (hidT s₁.heap H) callerA [] s₁ H := ⟨rfl, hM, fun b o e => of_hidT e, Nat.le_of_eq (hidT_size _ _), trivial, fun b hb => absurd (show b ∈ ([] : List Addr) from hb) (by simp), hok, .of_eq hg⟩
    refine codeAny_mono ((F _ hKb (nsK hns)).run callerA [] s₁ H ⟨[.ref a], []⟩ [.ref a] [.ref a] _ _ hr e0 (hbind s₁ (.ref a)) (.cons rfl .nil) (hsp H hO hS)) fun r s' h => ?_
    cases r with
    | error e => exact (hCX H e s' h).elim
    | ok fl =>
      cases fl with
      | next => exact False.elim h
      | brk => exact False.elim h
      | cont => exact False.elim h
      | ret u =>
        obtain ⟨v, H', os, bare, un, hok', r', q⟩ := h
        have q' : v = .bl true := q
        subst q'
        obtain rfl : u = Value.bool true := r'
        refine ⟨rfl, OldK.of_keep fun b o e => ?_, os, bare⟩
        cases q : H b with
        | none => exact un.keep b o e q (by intro z; exact absurd (show b ∈ ([] : List Addr) from z) (by simp)) (by simp)
        | some u =>
          rcases hO b with z | ⟨ob, xs, z⟩
          · rw [q] at z; cases z
          · have z2 := un.frzs b ob _ z
            obtain ⟨e1, _⟩ := hok b _ z
            obtain ⟨e2, _⟩ := hok' b _ z2
            rw [e] at e1; cases e1
            exact e2
  cases hk : K.lookup a with
  | some o =>
    have e := KX a o hk
    rw [ha] at e
    cases e
    refine core (fun _ => none) (fun _ => .inl rfl) (.inr ⟨_, vs.toArray, _, hk, rfl, rfl, rfl, by rw [List.size_toArray, lenV]; exact hl, by simpa using rv⟩) (fun b u z => by have z' : (none : Option HO) = some u := z; cases z') (fun b z => absurd rfl z) fun z => absurd rfl z
  | none =>
    refine core (fun b => if b = a then some (.frz { cls := .type "list", data := .seq vs.toArray } (.lst (ns.map V.int))) else none) (fun b => ?_) (.inl (.inr ⟨{ cls := .type "list", data := .seq vs.toArray }, if_pos rfl⟩)) (fun b u z => ?_) (fun b z => ?_) fun _ => hk
    · by_cases hb : b = a
      · exact .inr ⟨_, _, if_pos hb⟩
      · exact .inl (if_neg hb)
    · by_cases hb : b = a
      · have z' := (if_pos hb).symm.trans z
        cases z'
        subst hb
        exact ⟨ha, by rw [List.length_map]; exact hl, vs, _, rv, ha⟩
      · have z' := (if_neg hb).symm.trans z
        cases z'
    · by_cases hb : b = a
      · exact hb
      · exact absurd (if_neg hb) z
end L2
namespace L2
open PySem PySem.Spec PyProof.Rows
abbrev KOf {K : PySem.W.Frag} {h : Heap} (_ : K.In h) : PySem.W.Frag := K
end L2
namespace L2
open PySem PySem.Spec PyProof.Rows
def defArgs (s : Stmt) : Arguments := match s with
  | .FunctionDef _ a _ _ _ _ _ _ _ _ => a
  | _ => { posonlyargs := [], args := [], vararg := none, kwonlyargs := [], kw_defaults := [], kwarg := none, defaults := [] }
def defBody (s : Stmt) : List Stmt := match s with
  | .FunctionDef _ _ b _ _ _ _ _ _ _ => b
  | _ => []
def defScope (s : Stmt) : Scope := match s with
  | .FunctionDef _ _ _ _ _ _ sc _ _ _ => sc
  | _ => { kind := .function, names := [], isGenerator := false, isCoroutine := false }
abbrev CX0 : CXT := fun _ _ _ _ _ _ => False
abbrev E0 : XK := fun _ _ _ => False
theorem pass0 {X : Cx} : Passes CX0 X E0 := fun _ _ _ _ _ _ _ h => h.elim
structure Fun (K : PySem.W.Frag) (x qual : Str) (st : Stmt) (f : Addr) (fd : FuncData) : Prop where
  ex : ∃ (oc : Value) (od : Option Addr) (kV doc pm : Value) (an : Option Addr) (cdv ct : Value) (osl : Array (Option Value)),
    fd = PySem.W.fnOf x qual (defArgs st) (defBody st) (defScope st) .none kV doc pm an cdv ct ∧ K.lookup f = some ⟨oc, od, .func fd, osl⟩ ∧ PySem.W.codeIn K cdv qual = true
  kp : PySem.W.keepIn K (.ref f) = true
section
variable {P : Program} {w : World} {K : PySem.W.Frag} {mg : Str → Option Value} {base : Heap}
theorem Fun.ok {x qual : Str} {st : Stmt} {f : Addr} {fd : FuncData} {N ps : List Str} {k : Nat} {sp : Sp} (F : Fun K x qual st f fd) (S : FnScope N ps (defScope st)) (len : ∀ vs H Q E, sp vs H Q E → vs.length = ps.length)
    (hbody : ∀ (cdv : Value) (A : Around) (outer : List Env) (s : Shared) (H : Hp) (vs : List V) (Q : VK) (E : XK), Room k (A.deeper (envOfC qual (defScope st) s.heap.objs.size f cdv)) → sp vs H Q E →
      ∃ t, PSs (cxOf CX0 P w K mg base N qual (defScope st) f cdv A outer s H E).nox (defBody st) t ∧ t { nx := fun _ H' => Q .non H', rt := Q } (start N vs) H) : FnOk P w K mg base CX0 (k + 1) f fd ps sp := by
  obtain ⟨oc, od, kV, doc, pm, an, cdv, ct, osl, rfl, lk, hcd⟩ := F.ex
  refine fn_of lk hcd S len fun A outer s H vs Q E hr hsp => ?_
  obtain ⟨t, h, q⟩ := hbody cdv A outer s H vs Q E hr hsp
  exact ⟨t, h.nox, q⟩
theorem Fun.binds {x qual : Str} {st : Stmt} {f : Addr} {fd : FuncData} {ps : List Str} (F : Fun K x qual st f fd)
    (h : ∀ (kV doc pm : Value) (an : Option Addr) (cdv ct : Value) (us : List Value), us.length = ps.length → bindArgs (PySem.W.fnOf x qual (defArgs st) (defBody st) (defScope st) .none kV doc pm an cdv ct) ⟨us, []⟩ = pure (ps.zip us)) : Binds K fd ps [] := by
  obtain ⟨oc, od, kV, doc, pm, an, cdv, ct, osl, rfl, lk, hcd⟩ := F.ex
  exact .all (h kV doc pm an cdv ct)
theorem fun_mk {x qual : Str} {st : Stmt} {f : Addr} {oc : Value} {od an : Option Addr} {osl : Array (Option Value)} {kV doc pm cdv ct : Value} (l : K.lookup f = some ⟨oc, od, .func (PySem.W.fnOf x qual (defArgs st) (defBody st) (defScope st) .none kV doc pm an cdv ct), osl⟩)
    (c : PySem.W.codeIn K cdv qual = true) (k : PySem.W.keepIn K (.ref f) = true) : Fun K x qual st f (PySem.W.fnOf x qual (defArgs st) (defBody st) (defScope st) .none kV doc pm an cdv ct) := ⟨⟨oc, od, kV, doc, pm, an, cdv, ct, osl, rfl, l, c⟩, k⟩
end
section
variable {X : Cx}
theorem pv (i : Nat) {x : Str} {pos : Pos} (hN : X.N[i]? = some x := by rfl) (hv : Vis X.env.scope x := by first | exact Or.inl rfl | exact Or.inr (Or.inl rfl) | exact Or.inr (Or.inr rfl)) (hd : (x == ("__debug__" : Str)) = false := by decide)
    (hcd : (x == ("__classdict__" : Str)) = false := by decide) : PE X (.Name x pos) (tVar i) := pe_var hN hv hd hcd
end
def Same (H H' : Hp) : Prop := ∀ b o, H b = some o → H' b = some o
theorem Same.refl (H : Hp) : Same H H := fun _ _ h => h
theorem Same.trans {H H1 H2 : Hp} (a : Same H H1) (b : Same H1 H2) : Same H H2 := fun c o h => b c o (a c o h)
theorem Same.free {H H' : Hp} (e : Same H H') {l : Addr} (h : H' l = Option.none) : H l = Option.none := by
  cases q : H l with
  | none => rfl
  | some o =>
    rw [e l o q] at h
    cases h
theorem Same.seq {K : PySem.W.Frag} {H H' : Hp} {a : Addr} {xs : List V} (e : Same H H') (h : SqL K H a xs) : SqL K H' a xs := by
  rcases h with (h | ⟨o, h⟩) | h
  · exact .inl (.inl (e _ _ h))
  · exact .inl (.inr ⟨o, e _ _ h⟩)
  · exact .inr h
end L2
set_option Elab.async false
set_option linter.all false
set_option maxRecDepth 100000
namespace L2
open PySem PySem.Spec PyProof.Rows
theorem Inv.track {X : Cx} {pins : List (Addr × Obj)} {σ : St} {H : Hp} {s : Shared} {D : Addr} {o : HO} (I : Inv X pins σ H s) (hn : H D = none) (hD : X.s₀.heap.objs.size ≤ D) (hL : D ≠ X.env.locals)
    (hc : ∀ x c, X.env.cells.lookup x = some c → c ≠ D) (hp : ∀ p ∈ X.pn ++ pins, p.1 ≠ D) (new : ObjOk X.prog X.w (upd H D o) s.heap D o) : Inv X pins σ (upd H D o) s := by
  have ne : ∀ b u, H b = some u → b ≠ D := fun b u e => ne_of_none e hn
  refine ⟨I.ok, I.os, I.bare, ⟨I.base.keep, I.base.slot, fun b ob e n hx => ?_, I.base.there, fun b xs e => ?_, fun b ob u e => ?_, fun b ps e => ?_⟩, I.loc, I.cell, ?_, fun x c e => ?_, fun p q => ?_, fun b u e => ?_, I.len⟩
  · have : b ≠ D := Nat.ne_of_lt (Nat.lt_of_lt_of_le (Heap.lt_size e) hD)
    rw [upd_ne this]; exact I.base.free b ob e n hx
  · have z := I.base.tups b xs e
    rw [upd_ne (ne _ _ z)]; exact z
  · have z := I.base.frzs b ob u e
    rw [upd_ne (ne _ _ z)]; exact z
  · obtain ⟨more, z⟩ := I.base.tbls b ps e
    exact ⟨more, by rw [upd_ne (ne _ _ z)]; exact z⟩
  · rw [upd_ne (Ne.symm hL)]; exact I.free
  · rw [upd_ne (hc x c e)]; exact I.freeC x c e
  · obtain ⟨h1, h2, h3⟩ := I.pin p q
    exact ⟨h1, by rw [upd_ne (hp p q)]; exact h2, h3⟩
  · by_cases hb : b = D
    · subst hb; rw [upd_same] at e; cases e; exact new
    · rw [upd_ne hb] at e
      exact (I.hok b u e).stay (fun _ _ _ q => q) (fun c q => by rw [upd_ne (ne _ _ q)]; exact q) fun c xs q => by rw [upd_ne (ne _ _ q)]; exact q
def cloOf (cells : List (Str × Addr)) : List (Str × NameKind) → List (Str × Addr) → List (Str × Addr)
  | [], acc => acc
  | (n, k) :: r, acc => cloOf cells r (if (k == NameKind.free) = true then (n, (cells.lookup n).getD 0) :: acc else acc)
theorem clo_run {env : Env} : ∀ (names : List (Str × NameKind)) (acc : List (Str × Addr)), (∀ y ∈ names, y.2 = .free → ∃ c, env.cells.lookup y.1 = some c) →
    (forIn names acc fun (x : Str × NameKind) (r : List (Str × Addr)) => (if (x.2 == NameKind.free) = true then do
        let c ← cellOf env x.1
        pure (ForInStep.yield ((x.1, c) :: r)) else pure (ForInStep.yield r) : Sem (ForInStep (List (Str × Addr))))) = pure (cloOf env.cells names acc)
  | [], acc, _ => rfl
  | (n, k) :: r, acc, h => by
    have ih := fun acc' => clo_run (env := env) r acc' fun y hy => h y (List.mem_cons_of_mem _ hy)
    rw [List.forIn_cons]
    by_cases hk : k = .free
    · subst hk
      obtain ⟨c, hc⟩ := h (n, .free) List.mem_cons_self rfl
      have hc' : env.cells.lookup n = some c := hc
      have e : cellOf env n = pure c := by
        unfold cellOf
        rw [hc']
      show (if (NameKind.free == NameKind.free) = true then _ else _) >>= _ = _
      rw [if_pos (by decide), e]
      simp only [pure_bind]
      rw [ih]
      simp only [cloOf, hc', Option.getD_some]
      rfl
    · have hb : (k == NameKind.free) = false := by simpa using hk
      show (if (k == NameKind.free) = true then _ else _) >>= _ = _
      rw [hb, if_neg Bool.false_ne_true]
      simp only [pure_bind]
      rw [ih]
      simp only [cloOf, hb, Bool.false_eq_true, if_false]
theorem clo_eq {scope : Scope} {env : Env} (h : ∀ y ∈ scope.names, y.2 = .free → ∃ c, env.cells.lookup y.1 = some c) : closureFor scope env = pure (cloOf env.cells scope.names []) := by
  unfold closureFor
  have e := clo_run (env := env) scope.names [] h
  simp only [bind_pure]
  exact e
theorem clo_sub {cells : List (Str × Addr)} : ∀ (names : List (Str × NameKind)) (acc : List (Str × Addr)), (∀ y ∈ names, y.2 = .free → ∃ c, cells.lookup y.1 = some c) → (∀ y c, acc.lookup y = some c → cells.lookup y = some c) →
    ∀ y c, (cloOf cells names acc).lookup y = some c → cells.lookup y = some c
  | [], _, _, ha => ha
  | (n, k) :: r, acc, h, ha => by
    refine clo_sub r _ (fun y hy => h y (List.mem_cons_of_mem _ hy)) fun y c e => ?_
    by_cases hk : (k == NameKind.free) = true
    · rw [if_pos hk] at e
      obtain ⟨c', hc⟩ := h (n, k) List.mem_cons_self (by simpa using hk)
      have hc' : cells.lookup n = some c' := hc
      rw [hc', Option.getD_some] at e
      rw [List.lookup_cons] at e
      by_cases hy : (y == n) = true
      · rw [hy] at e
        have : y = n := by simpa using hy
        subst this
        rw [hc']; exact e
      · have hy' : (y == n) = false := by simpa using hy
        rw [hy'] at e
        exact ha y c e
    · rw [if_neg hk] at e
      exact ha y c e
theorem clo_has {cells : List (Str × Addr)} : ∀ (names : List (Str × NameKind)) (acc : List (Str × Addr)) (y : Str), ((y, NameKind.free) ∈ names ∨ ∃ c, acc.lookup y = some c) → ∃ c, (cloOf cells names acc).lookup y = some c
  | [], acc, y, h => by
    rcases h with h | h
    · cases h
    · exact h
  | (n, k) :: r, acc, y, h => by
    refine clo_has r _ y ?_
    rcases h with h | ⟨c, h⟩
    · rcases List.mem_cons.mp h with e | h
      · cases e
        refine .inr ⟨(cells.lookup n).getD 0, ?_⟩
        rw [if_pos (by decide), List.lookup_cons]
        simp
      · exact .inl h
    · refine .inr ?_
      split
      · rw [List.lookup_cons]
        cases y == n with
        | true => exact ⟨_, rfl⟩
        | false => exact ⟨c, h⟩
      · exact ⟨c, h⟩
theorem relabel_lookup (env : Env) : ∀ (names : List (Str × NameKind)) (y : Str),
    (names.map fun (n, k) => if (k == NameKind.free && env.scope.kind == .function && env.kindOf n == some .cell) then (n, NameKind.cell) else (n, k)).lookup y
      = (names.lookup y).map fun k => if (k == NameKind.free && env.scope.kind == .function && env.kindOf y == some .cell) = true then NameKind.cell else k
  | [], _ => rfl
  | (n, k) :: r, y => by
    have ih := relabel_lookup env r y
    show List.lookup y ((if (k == NameKind.free && env.scope.kind == .function && env.kindOf n == some .cell) = true then (n, NameKind.cell) else (n, k)) :: _) = _
    by_cases hy : (y == n) = true
    · have : y = n := by simpa using hy
      subst this
      by_cases hc : (k == NameKind.free && env.scope.kind == .function && env.kindOf y == some .cell) = true
      · rw [if_pos hc]; simp only [List.lookup_cons, hy, Option.map_some, hc, if_true]
      · rw [if_neg hc]; simp only [List.lookup_cons, hy, Option.map_some, hc]; simp
    · have hy' : (y == n) = false := by simpa using hy
      by_cases hc : (k == NameKind.free && env.scope.kind == .function && env.kindOf n == some .cell) = true
      · rw [if_pos hc]; simp only [List.lookup_cons, hy']; exact ih
      · rw [if_neg hc]; simp only [List.lookup_cons, hy']; exact ih
def cxComp (X : Cx) (scope : Scope) (N' : List Str) (s₂ : Shared) (H₂ : Hp) (C : Addr) (fp : List Addr) : Cx :=
  { X with N := N', s₀ := s₂, H₀ := H₂, env := compEnvC scope (cloOf X.env.cells scope.names []) C X.env, outer := X.stack, ex := fp, fn := fun _ => false, pn := [], xe := fun _ _ => False }
def compNs (x : Str) (fr : List (Str × Nat)) : List Str := x :: fr.map (·.1)
def compRest (σ : St) (fr : List (Str × Nat)) : St := fr.map fun p => σ.getD p.2 none
structure Blk (X : Cx) (scope : Scope) (x : Str) (fr : List (Str × Nat)) : Prop where
  nocell : (scope.names.all fun y => y.2 != .cell) = true
  kind : scope.kind = .function
  names : (scope.names.all fun y => y.2 != .local || scope.names.lookup y.1 == some .local) = true
  here : scope.names.lookup x = some .local
  free : (scope.names.all fun y => y.2 != .free || X.env.scope.names.lookup y.1 == some .cell) = true
  seen : (fr.all fun p => scope.names.lookup p.1 == some .free && X.N[p.2]? == some p.1) = true
  nd : (compNs x fr).Nodup
section
variable {X : Cx} {scope : Scope} {x : Str} {fr : List (Str × Nat)} {pins : List (Addr × Obj)} {σ : St} {H : Hp} {s : Shared}
theorem Blk.cell (B : Blk X scope x fr) : ∀ y ∈ scope.names, y.2 ≠ .cell := fun y hy => by
  have := List.all_eq_true.mp B.nocell y hy
  simpa using this
theorem Blk.loc (B : Blk X scope x fr) : ∀ y ∈ scope.names, y.2 = .local → scope.names.lookup y.1 = some .local := fun y hy e => by
  have := List.all_eq_true.mp B.names y hy
  rw [e] at this
  simpa using this
theorem Blk.frees (B : Blk X scope x fr) : ∀ y ∈ scope.names, y.2 = .free → X.env.kindOf y.1 = some .cell := fun y hy e => by
  have := List.all_eq_true.mp B.free y hy
  rw [e] at this
  have h : X.env.scope.names.lookup y.1 = some .cell := by simpa using this
  exact h
theorem Blk.clos (B : Blk X scope x fr) (ok : X.Ok) : ∀ y ∈ scope.names, y.2 = .free → ∃ c, X.env.cells.lookup y.1 = some c := fun y hy e => ok.has y.1 (.inl (B.frees y hy e))
theorem Blk.sub (B : Blk X scope x fr) (ok : X.Ok) : ∀ y c, (cloOf X.env.cells scope.names []).lookup y = some c → X.env.cells.lookup y = some c :=
  clo_sub scope.names [] (B.clos ok) fun y c e => by simp at e
theorem Blk.kinds (B : Blk X scope x fr) {y : Str} (h : (relabel scope X.env).names.lookup y = some .cell ∨ (relabel scope X.env).names.lookup y = some .free) : (y, NameKind.free) ∈ scope.names := by
  have e : (relabel scope X.env).names.lookup y = _ := relabel_lookup X.env scope.names y
  rw [e] at h
  cases q : scope.names.lookup y with
  | none => rw [q] at h; simp at h
  | some k =>
    have hm := PySem.mem_of_lookup q
    rw [q] at h
    have hk : k = .free := by
      by_cases hk : k = .free
      · exact hk
      · have hb : (k == NameKind.free) = false := by simpa using hk
        have hc : k ≠ .cell := B.cell _ hm
        rw [Option.map_some, hb, Bool.false_and, Bool.false_and, if_neg Bool.false_ne_true] at h
        rcases h with h | h
        · exact absurd (Option.some.inj h) hc
        · exact Option.some.inj h
    subst hk
    exact hm
theorem Blk.sees (B : Blk X scope x fr) (hk : X.env.scope.kind = .function) {y : Str} (h : scope.names.lookup y = some .free) : (relabel scope X.env).names.lookup y = some .cell := by
  have e : (relabel scope X.env).names.lookup y = _ := relabel_lookup X.env scope.names y
  rw [e, h]
  have h2 : X.env.kindOf y = some .cell := B.frees _ (PySem.mem_of_lookup h) rfl
  simp [hk, h2]
theorem inv_comp (I : Inv X pins σ H s) (B : Blk X scope x fr) {C : Addr} {fp : List Addr} {h₁ : Heap} {tk : Nat} {o : Option V} (hC : s.heap.objs.size ≤ C) (hfp : ∀ b ∈ fp, FpOk X pins H b) (hlt : ∀ b ∈ fp, b < s.heap.objs.size)
    (old : ∀ b ob, s.heap.get? b = some ob → h₁.get? b = some ob) (hns : h₁.Ns C fun _ => none) : Inv (cxComp X scope (compNs x fr) s H C fp) [] (none :: compRest σ fr) H { s with heap := h₁, toks := tk } := by
  have neC : ∀ b, b < s.heap.objs.size → b ≠ C := fun b hb => Nat.ne_of_lt (Nat.lt_of_lt_of_le hb hC)
  have cl : ∀ y c, X.env.cells.lookup y = some c → c < s.heap.objs.size := fun y c e => by
    obtain ⟨v, o, ho, _⟩ := I.cell y c e
    exact Heap.lt_size ho
  refine ⟨⟨I.ok.mod, B.kind, I.ok.glob, I.ok.blt, hC, fun y z c h1 h2 => I.ok.inj y z c (B.sub I.ok _ _ h1) (B.sub I.ok _ _ h2), fun y hy => clo_has _ _ _ (.inl (B.kinds hy)), fun y c h _ => (Bool.false_ne_true h).elim, I.ok.hd, I.ok.frames, .inl rfl,
    fun b hb => ⟨neC b (hlt b hb), fun y c e => (hfp b hb).2.2.2.2.1 y c (B.sub I.ok _ _ e)⟩, I.bs, Nat.le_trans I.ok.bsz I.sz, fun b ob e hb => ?_, fun b hb hs => ?_, I.stack, I.stkFree⟩,
    rfl, I.bare, Un.kept old, ⟨_, hns, fun i y v h1 h2 h3 => ?_⟩, fun y c e => ?_, I.hok.fresh hC, fun y c e => I.freeC y c (B.sub I.ok _ _ e), fun p hp => ?_, I.hok.kept old, ?_⟩
  · rcases (hfp b hb).2.2.2.1 with z | z
    · exact I.ok.noex b ob e z
    · have h1 : b < X.base.objs.size := Heap.lt_size e
      have h2 := I.ok.bsz
      exact absurd (Nat.lt_of_lt_of_le h1 h2) (Nat.not_lt.mpr z)
  · have z := I.stkSub b hs
    rcases List.mem_cons.mp z with z | z
    · exact (hfp b hb).2.1 z
    · exact (hfp b hb).2.2.1 z
  · cases i with
    | zero => simp at h2
    | succ i =>
      have h1' : (fr.map (·.1))[i]? = some y := by
        have z : (x :: fr.map (·.1))[i + 1]? = some y := h1
        rw [List.getElem?_cons_succ] at z
        exact z
      have h2' : (compRest σ fr)[i]? = some (some v) := by simpa using h2
      rw [List.getElem?_map] at h1'
      unfold compRest at h2'
      rw [List.getElem?_map] at h2'
      cases e : fr[i]? with
      | none => rw [e] at h1'; cases h1'
      | some p =>
        rw [e] at h1' h2'
        have e1 : p.1 = y := by simpa using h1'
        have e2 : σ.getD p.2 none = some v := by simpa using h2'
        have hs := List.all_eq_true.mp B.seen p (List.mem_of_getElem? e)
        rw [Bool.and_eq_true] at hs
        have hs1 : scope.names.lookup p.1 = some .free := by simpa using hs.1
        have hs2 : X.N[p.2]? = some p.1 := by simpa using hs.2
        rw [e1] at hs1 hs2
        have hk : X.env.kindOf y = some .cell := B.frees _ (PySem.mem_of_lookup hs1) rfl
        have e3 : σ[p.2]? = some (some v) := by
          rw [List.getD_eq_getElem?_getD] at e2
          cases q : σ[p.2]? with
          | none => rw [q] at e2; simp at e2
          | some z => rw [q] at e2; simp at e2; rw [e2]
        obtain ⟨m, hn, hl⟩ := I.loc
        obtain ⟨u, r, l⟩ := hl p.2 y v hs2 e3 (.inr (.inl hk))
        refine ⟨u, r, .inr ⟨.inl (B.sees I.ok.kind hs1), ?_⟩⟩
        rcases l with ⟨z, _⟩ | ⟨_, c, ec, z⟩
        · rw [hk] at z; cases z
        · obtain ⟨c', hc'⟩ := clo_has (cells := X.env.cells) scope.names [] y (.inl (PySem.mem_of_lookup hs1))
          have := B.sub I.ok _ _ hc'
          rw [ec] at this
          cases this
          obtain ⟨ob, ho, hd⟩ := z
          exact ⟨c, hc', ob, old _ _ ho, hd⟩
  · obtain ⟨v, ob, ho, hd⟩ := I.cell y c (B.sub I.ok _ _ e)
    exact ⟨v, ob, old _ _ ho, hd⟩
  · exact absurd (show p ∈ ([] : List (Addr × Obj)) from hp) (by simp)
  · show _ = (compNs x fr).length
    simp [compNs, compRest]
end
end L2
set_option Elab.async false
set_option linter.all false
set_option maxRecDepth 100000
namespace L2
open PySem PySem.Spec PyProof.Rows
def PIf (X : Cx) (ifs : List Expr) (t : TT) : Prop :=
  ∀ (pins : List (Addr × Obj)) (s : Shared) (σ : St) (H : Hp) (Q : Bool → Hp → Prop), Inv X pins σ H s → t σ H Q →
    wpAny (model X.prog X.w) X.A (forIn ifs true fun c r => if r = true then do let ok ← isTrue c X.env (eval c X.env); pure (ForInStep.yield ok) else pure (ForInStep.yield r)) (TP X pins σ Q) X.xe s
def tYes : TT := fun _ H Q => Q true H
theorem pif_nil {X : Cx} : PIf X [] tYes := fun _ _ _ H _ I h => wpAny_tests_nil ⟨H, I, h⟩
theorem pif_one {X : Cx} {c : Expr} {t : TT} (h : PT X c t) : PIf X [c] t := fun pins s σ H Q I hw => wpAny_tests_one (h pins s σ H Q I hw)
def tLC (fr : List (Str × Nat)) (wi : TI) (tc : TT) (te : TE) : TE := fun σ H Q => wi σ H fun J H1 => ∃ W : Nat → Nat → List V → Hp → Prop, (∃ m, W 0 m [] H1) ∧ ∀ i m ys H2, W i m ys H2 → ys.length < sizeLine ∧
  ((J.stop i H2 ∧ ∀ D, H2 D = none → Q (.ref D) (upd H2 D (.lst ys))) ∨
    (J.go i H2 ∧ ∀ v H3, J.yld i H2 v H3 → tc (some v :: compRest σ fr) H3 fun b H4 =>
      if b = true then te (some v :: compRest σ fr) H4 fun y H5 => ∃ m', m' < m ∧ W (i + 1) m' (ys ++ [y]) H5 else ∃ m', m' < m ∧ W (i + 1) m' ys H4))
section
variable {X : Cx}
theorem anyE {α : Type} {M : Model} {A : Around} {t : Sem α} {Q : α → Shared → Prop} {E : Value → Shared → Prop} {s : Shared} (h : wpAny M A t Q (fun _ _ => False) s) : wpAny M A t Q E s := wpAny_mono h (fun _ _ x => x) fun _ _ x => x.elim
theorem comp_loop {prog : Program} {w : World} {A : Around} {R : Result → Shared → Prop} {s : Shared} {elt target iter : Expr} {ifs : List Expr} {scope : Scope} {pos : Pos} {it acc : Value} {env : Env} (J : Nat → Shared → Prop)
    (turn : ∀ n s, J n s → wpAny (model prog w) A (pyNext it) (fun r s₁ => match r with
      | none => R (.ok .next) s₁
      | some v => wpAny (model prog w) A (letOwnedTupleGo target it v) (fun _ s₂ => wpAny (model prog w) A (assign target env v) (fun _ s₃ =>
          wpAny (model prog w) A (forIn ifs true fun c r => if r = true then do let ok ← isTrue c env (eval c env); pure (ForInStep.yield ok) else pure (ForInStep.yield r)) (fun ok s₄ =>
            if ok = true then wpAny (model prog w) A (eval elt env) (fun y s₅ =>
              wpAny (model prog w) A (call (.builtin "list.append") [acc, y]) (fun _ s₆ => ∃ m, m < n ∧ J m s₆) (fun _ _ => False) s₅) (fun _ _ => False) s₄
            else ∃ m, m < n ∧ J m s₄) (fun _ _ => False) s₃) (fun _ _ => False) s₂) (fun _ _ => False) s₁) (fun _ _ => False) s)
    (n : Nat) (h : J n s) : codeAny (model prog w) A (.compLoop (.ListComp elt [⟨target, iter, ifs, 0⟩] scope pos) 0 it acc env) R s := by
  refine codeAny_loop rfl J (fun k s' hJ => ?_) n h
  show wpAny (model prog w) A ((compTurn (.ListComp elt [⟨target, iter, ifs, 0⟩] scope pos) 0 it acc env).onRaise (fun x => do noteFrame x env; theTreesLotGoes x)) _ _ s'
  refine wpAny_noted ?_
  rw [compTurn_list]
  refine wpAny_bind (wpAny_standAt (wpAny_bind (wpAny_mono (turn k s' hJ) (fun r s₁ h₁ => ?_) fun _ _ z => z.elim)))
  cases r with
  | none => exact wpAny_pure h₁
  | some v =>
    refine wpAny_bind (wpAny_mono h₁ (fun _ s₂ h₂ => wpAny_bind (wpAny_mono h₂ (fun _ s₃ h₃ => wpAny_bind (wpAny_mono h₃ (fun ok s₄ h₄ => ?_) fun _ _ z => z.elim)) fun _ _ z => z.elim)) fun _ _ z => z.elim)
    cases ok with
    | false => exact wpAny_pure ⟨rfl, h₄⟩
    | true =>
      exact wpAny_bind (wpAny_bind (wpAny_mono h₄ (fun y s₅ h₅ => wpAny_bind (wpAny_mono h₅ (fun _ s₆ h₆ => wpAny_pure (wpAny_pure ⟨rfl, h₆⟩)) fun _ _ z => z.elim)) fun _ _ z => z.elim))
theorem pe_lc {elt iter : Expr} {x : Str} {px : Pos} {ifs : List Expr} {scope : Scope} {pos : Pos} {fr : List (Str × Nat)} {wi : TI} {tc : TT} {te : TE} (hc : X.calm = true) (B : Blk X scope x fr)
    (hi : PI X (.Name x px) iter wi) (ht : ∀ s₂ H₂ C fp, PIf (cxComp X scope (compNs x fr) s₂ H₂ C fp) ifs tc) (he : ∀ s₂ H₂ C fp, PE (cxComp X scope (compNs x fr) s₂ H₂ C fp) elt te)
    (hs : ∀ v, foldedSetIterable iter X.env v = pure v := by intro _; rfl) : PE X (.ListComp elt [⟨.Name x px, iter, ifs, 0⟩] scope pos) (tLC fr wi tc te) := by
  intro pins s σ H Q I h
  rw [eval_ListComp]
  have hclos := clo_eq (scope := scope) (env := X.env) (B.clos I.ok)
  refine wpAny_comprehension_free (use := none) rfl hs hclos B.kind B.loc (thn (hi pins s σ H _ I h) fun v s1 h1 => thn h1 fun itv s2 h2 => ?_)
  obtain ⟨it, fp, tn, J, H2, rfl, I2, T, st2, f2, W, ⟨m0, w0⟩, turn⟩ := h2
  refine wpAny_newObj_type (wpAny_newFunctionEnv B.cell (by intro y hy; simp at hy) (fun h₁ hns hsb => ?_) B.kind)
  dsimp only at hns hsb ⊢
  generalize hG : s2.heap.push { cls := .type "list", dict := none, data := .seq ([] : List Value).toArray } = G at hns hsb ⊢
  have hC : G.objs.size = s2.heap.objs.size + 1 := by rw [← hG, Heap.size_push]
  have hDC : s2.heap.objs.size ≠ G.objs.size := by omega
  have old : ∀ b ob, s2.heap.get? b = some ob → h₁.get? b = some ob := fun b ob e => by
    have hb := Heap.lt_size e
    refine hsb.extBut b ob (Nat.ne_of_lt (by rw [hC]; exact Nat.lt_succ_of_lt hb)) (Heap.get?_push_of_some _ ?_)
    rw [← hG]
    exact Heap.get?_push_of_some _ e
  have hacc : h₁.get? s2.heap.objs.size = some { cls := .type "list", data := .seq ([] : List Value).toArray 0 } := by
    refine hsb.extBut _ _ hDC (Heap.get?_push_of_some _ ?_)
    rw [← hG]
    exact Heap.get?_push_size _ rfl
  have hlt : ∀ b ∈ fp, b < s2.heap.objs.size := fun b hb => by
    obtain ⟨o, e, _⟩ := T.obj 0 _ st2 b hb
    exact Heap.lt_size e
  have I4 := inv_comp (tk := s2.toks + ([] : List (Str × Value)).length) (o := none) I2 B (show s2.heap.objs.size ≤ G.objs.size by omega) f2 hlt old hns
  have tn4 : tn 0 h₁ := T.keep 0 _ _ st2 fun b _ o e => old b o e
  have Dfs : s2.heap.objs.size ∉ frs X.stack := fun z => by
    obtain ⟨_, o, ho, _⟩ := I2.stack.mem z
    exact absurd (Heap.lt_size ho) (Nat.lt_irrefl _)
  have Dcl : ∀ y c, X.env.cells.lookup y = some c → c ≠ s2.heap.objs.size := fun y c e => by
    obtain ⟨v, o, ho, _⟩ := I2.cell y c e
    exact Nat.ne_of_lt (Heap.lt_size ho)
  have DL : s2.heap.objs.size ≠ X.env.locals := Nat.ne_of_gt I2.lt
  have Dfp : s2.heap.objs.size ∉ fp := fun z => absurd (hlt _ z) (Nat.lt_irrefl _)
  have loop : ∀ s₃ : Shared, s₃ = { s2 with heap := h₁, toks := s2.toks + ([] : List (Str × Value)).length } →
      codeAny (model X.prog X.w) X.A (.compLoop (.ListComp elt [⟨.Name x px, iter, ifs, 0⟩] scope pos) 0 (.ref it) (.ref s2.heap.objs.size) (compEnvC scope (cloOf X.env.cells scope.names []) G.objs.size X.env))
        (compPost (model X.prog X.w) X.A X.xe none (EP X pins σ Q) (.ref s2.heap.objs.size) G.objs.size) s₃ := by
    rintro s₃ rfl
    refine comp_loop
      (fun n s' => ∃ i o H' ys its k, Inv (cxComp X scope (compNs x fr) s2 H2 G.objs.size fp) [] (o :: compRest σ fr) H' s' ∧ tn i s'.heap ∧ (∀ b ∈ fp, H' b = none) ∧ H' s2.heap.objs.size = none ∧
        s'.heap.get? s2.heap.objs.size = some { cls := .type "list", data := .seq (its : List Value).toArray k } ∧ Vals ys its ∧ W i n ys H') ?_ m0
      ⟨0, none, H2, [], [], 0, I4, tn4, fun b hb => (f2 b hb).1, I2.hok.fresh (Nat.le_refl _), hacc, .nil, w0⟩
    rintro n s5 ⟨i, o, H5, ys, its, k, I5, st5, fr5, D5, hD5, r5, w5⟩
    have fok : ∀ {H' : Hp}, (∀ b ∈ fp, H' b = none) → ∀ b ∈ fp, FpOk (cxComp X scope (compNs x fr) s2 H2 G.objs.size fp) [] H' b := fun hn b hb =>
      ⟨hn b hb, (I5.ok.exf b hb).1, I5.ok.exfs b hb, .inl hb, (I5.ok.exf b hb).2, fun p hp => absurd (show p ∈ ([] : List (Addr × Obj)) from hp) (by simp)⟩
    have dok : ∀ {H' : Hp}, H' s2.heap.objs.size = none → FpOk (cxComp X scope (compNs x fr) s2 H2 G.objs.size fp) [] H' s2.heap.objs.size := fun hn =>
      ⟨hn, hDC, Dfs, .inr (Nat.le_refl _), fun y c e => Dcl y c (B.sub I2.ok _ _ e), fun p hp => absurd (show p ∈ ([] : List (Addr × Obj)) from hp) (by simp)⟩
    obtain ⟨hz, alt⟩ := turn i n ys H5 w5
    have hzl : its.length ≤ sizeLine := by rw [← r5.length]; exact Nat.le_of_lt hz
    rcases alt with ⟨stop, fin⟩ | ⟨go, step⟩
    · refine thn (T.done (cxComp X scope (compNs x fr) s2 H2 G.objs.size fp) rfl rfl rfl hc i (pinsAt [s2.heap.objs.size] s5.heap) s5 (o :: compRest σ fr) H5 _ ?_ (fun b hb => ?_) st5 stop) fun r s6 ⟨hr, I6⟩ => ?_
      · exact (Inv.pinned I5 (fp := [s2.heap.objs.size]) (fun b hb => by rw [List.mem_singleton.mp hb]; exact dok D5) fun b hb => by
          rw [List.mem_singleton.mp hb]
          exact ⟨_, hD5, fun v z => by cases z⟩)
      · obtain ⟨f0, f1, f2', f3, f4, f5⟩ := fok fr5 b hb
        refine ⟨f0, f1, f2', f3, f4, fun p hp => ?_⟩
        have hp' : p ∈ pinsAt [s2.heap.objs.size] s5.heap := (List.mem_append.mp hp).elim (fun z => absurd (show p ∈ ([] : List (Addr × Obj)) from z) (by simp)) id
        have := (of_pinsAt hp').1
        rw [List.mem_singleton.mp this]
        exact fun e => Dfp (by rw [e]; exact hb)
      · subst hr
        have hD6 := (I6.pin (s2.heap.objs.size, { cls := .type "list", data := .seq its.toArray k }) (List.mem_append_right _ (mem_pinsAt (by simp) hD5))).1
        obtain ⟨m6, hn6, _⟩ := I6.loc
        refine ⟨m6, hn6, fun h' hs' => ?_⟩
        have hCn : s2.heap.get? G.objs.size = none := by
          cases e : s2.heap.get? G.objs.size with
          | none => rfl
          | some ob => exact absurd (Heap.lt_size e) (by rw [hC]; exact Nat.not_lt.mpr (Nat.le_succ _))
        have neC : ∀ b ob, s2.heap.get? b = some ob → b ≠ G.objs.size := fun b ob e z => by rw [z, hCn] at e; cases e
        have u6 : Un (frs X.stack) fp H2 H5 s2.heap s6.heap := I6.base
        have u7 : Un (frs X.stack) fp H2 H5 s2.heap h' := ⟨fun b ob e n hb hx => hs'.extBut b ob (neC b ob e) (u6.keep b ob e n hb hx), fun b ob e n hb hx => by
            obtain ⟨sl, q⟩ := u6.slot b ob e n hb hx
            exact ⟨sl, hs'.extBut b _ (neC b ob e) q⟩, u6.free, fun b ob e hx => by
            obtain ⟨o', q⟩ := u6.there b ob e hx
            exact ⟨o', hs'.extBut b _ (neC b ob e) q⟩, u6.tups, u6.frzs, u6.tbls⟩
        have hC5 : H5 G.objs.size = none := I6.free
        have hok7 : HOk X.prog X.w H5 h' := fun b ob e => (I6.hok b ob e).stay (fun c u hc q => hs'.extBut c u (by
            rintro rfl
            rcases hc with rfl | hc
            · rw [hC5] at e; cases e
            · rw [hC5] at hc; cases hc) q) (fun _ q => q) fun _ _ q => q
        have I7 : Inv X pins σ H5 { s6 with heap := h' } := I2.call' (s' := { s6 with heap := h' }) (I6.os) u7 hok7 I6.bare fun b hb => ⟨(f2 b hb).2.2.2.1, (f2 b hb).2.1, (f2 b hb).2.2.2.2.1, (f2 b hb).2.2.2.2.2⟩
        refine ⟨.ref s2.heap.objs.size, upd H5 s2.heap.objs.size (.lst ys), I7.track D5 I2.sz DL Dcl (fun p hp z => ?_) ?_, rfl, fin _ D5⟩
        · obtain ⟨e, _⟩ := I2.pin p hp
          rw [z] at e
          exact absurd (Heap.lt_size e) (Nat.lt_irrefl _)
        · exact ⟨Nat.le_of_lt hz, its, k, r5, hs'.extBut _ _ hDC hD6⟩
    · refine anyE (thn (T.item (cxComp X scope (compNs x fr) s2 H2 G.objs.size fp) rfl rfl rfl hc i (pinsAt [s2.heap.objs.size] s5.heap) s5 (o :: compRest σ fr) H5 _ ?_ (fun b hb => ?_) st5 go) fun r s6 ⟨u, hr, h6⟩ => ?_)
      · exact (Inv.pinned I5 (fp := [s2.heap.objs.size]) (fun b hb => by rw [List.mem_singleton.mp hb]; exact dok D5) fun b hb => by
          rw [List.mem_singleton.mp hb]
          exact ⟨_, hD5, fun v z => by cases z⟩)
      · obtain ⟨f0, f1, f2', f3, f4, f5⟩ := fok fr5 b hb
        refine ⟨f0, f1, f2', f3, f4, fun p hp => ?_⟩
        have hp' : p ∈ pinsAt [s2.heap.objs.size] s5.heap := (List.mem_append.mp hp).elim (fun z => absurd (show p ∈ ([] : List (Addr × Obj)) from z) (by simp)) id
        have := (of_pinsAt hp').1
        rw [List.mem_singleton.mp this]
        exact fun e => Dfp (by rw [e]; exact hb)
      · subst hr
        refine thn h6 fun _ s7 ⟨v, H7, I7, rv, y7, st7, fr7⟩ => ?_
        have p7 := I7.pin (s2.heap.objs.size, { cls := .type "list", data := .seq its.toArray k }) (List.mem_append_right _ (mem_pinsAt (by simp) hD5))
        have hD7 : s7.heap.get? s2.heap.objs.size = some { cls := .type "list", data := .seq its.toArray k } := p7.1
        have D7 : H7 s2.heap.objs.size = none := p7.2.1
        have I7u : Inv (cxComp X scope (compNs x fr) s2 H2 G.objs.size fp) [] (o :: compRest σ fr) H7 s7 := Inv.unpinned (pins := []) I7
        have I8 := Inv.pinned I7u (fp := s2.heap.objs.size :: fp) (fun b hb => by
            rcases List.mem_cons.mp hb with e | hb
            · rw [e]; exact dok D7
            · exact fok fr7 b hb) fun b hb => by
            rcases List.mem_cons.mp hb with e | hb
            · rw [e]; exact ⟨_, hD7, fun v z => by cases z⟩
            · exact T.obj _ _ st7 b hb
        have hl : Loc (cxComp X scope (compNs x fr) s2 H2 G.objs.size fp).env.scope x := .inl (lookup_relabel_local B.here)
        have pk : ∀ {σ' : St} {H' : Hp} {s' : Shared}, Inv (cxComp X scope (compNs x fr) s2 H2 G.objs.size fp) ([] ++ pinsAt (s2.heap.objs.size :: fp) s7.heap) σ' H' s' →
            tn (i + 1) s'.heap ∧ (∀ b ∈ fp, H' b = none) ∧ H' s2.heap.objs.size = none ∧ s'.heap.get? s2.heap.objs.size = some { cls := .type "list", data := .seq its.toArray k } := fun {σ' H' s'} I' => by
          have pD := I'.pin (s2.heap.objs.size, { cls := .type "list", data := .seq its.toArray k }) (List.mem_append_right _ (List.mem_append_right _ (mem_pinsAt (by simp) hD7)))
          refine ⟨T.keep _ _ _ st7 fun b hb ob e => (I'.pin (b, ob) (List.mem_append_right _ (List.mem_append_right _ (mem_pinsAt (List.mem_cons_of_mem _ hb) e)))).1, fun b hb => ?_, pD.2.1, pD.1⟩
          obtain ⟨ob, e, _⟩ := T.obj _ _ st7 b hb
          exact (I'.pin (b, ob) (List.mem_append_right _ (List.mem_append_right _ (mem_pinsAt (List.mem_cons_of_mem _ hb) e)))).2.1
        refine anyE (thn (pg_name (X := cxComp X scope (compNs x fr) s2 H2 G.objs.size fp) (i := 0) B.nd rfl hl (.inr (lookup_relabel_local B.here)) _ s7 _ H7 v u (fun σ' H' => σ' = some v :: compRest σ fr ∧ H' = H7) I8 rv ⟨rfl, rfl⟩) fun _ s8 ⟨σ8, H8, I9, e1, e2⟩ => ?_)
        subst e1 e2
        refine anyE (thn (ht s2 H2 G.objs.size fp _ s8 _ H8 _ I9 (step v H8 y7)) fun ok s9 ⟨H9, I10, q10⟩ => ?_)
        cases ok with
        | false =>
          rw [if_neg Bool.false_ne_true] at q10
          rw [if_neg Bool.false_ne_true]
          obtain ⟨m', hm, w'⟩ := q10
          obtain ⟨k1, k2, k3, k4⟩ := pk I10
          exact ⟨m', hm, i + 1, some v, H9, ys, its, k, Inv.unpinned (pins := []) I10, k1, k2, k3, k4, r5, w'⟩
        | true =>
          rw [if_pos rfl] at q10
          rw [if_pos rfl]
          refine anyE (thn (he s2 H2 G.objs.size fp _ s9 _ H9 _ I10 q10) fun y' s10 ⟨y, H10, I11, ry, m', hm, w'⟩ => ?_)
          obtain ⟨k1, k2, k3, k4⟩ := pk I11
          refine append_at k4 (fun h' hs' hD' => ?_) (by rw [List.size_toArray]; exact hzl)
          have I12 : Inv (cxComp X scope (compNs x fr) s2 H2 G.objs.size fp) [] (some v :: compRest σ fr) H10 { s10 with heap := h' } :=
            (Inv.unpinned (pins := []) I11).turned (t' := s10.toks) (it := s2.heap.objs.size) (fun b ob hb e => (hs'.2 b hb).trans e) k3 hDC (.inr (Nat.le_refl _)) (fun z c e => Dcl z c (B.sub I2.ok _ _ e)) fun p hp => absurd (show p ∈ ([] : List (Addr × Obj)) from hp) (by simp)
          refine ⟨m', hm, i + 1, some v, H10, ys ++ [y], its ++ [y'], k + 1, I12, T.keep _ _ _ k1 fun b hb ob e => (hs'.2 b fun z => Dfp (by rw [← z]; exact hb)).trans e, k2, k3, ?_, r5.append (.cons ry .nil), w'⟩
          rw [hD']
          simp
  exact codeAny_compStart_list (loop _ rfl) (T.self _ 0 _ _ _ tn4 (loop _ rfl))
end
end L2
set_option Elab.async false
set_option linter.all false
set_option maxRecDepth 100000
namespace L2
open PySem PySem.Spec PyProof.Rows
def tyN (H : Hp) : V → String
  | .non => "NoneType"
  | .bl _ => "bool"
  | .int _ => "int"
  | .str _ => "str"
  | .ref a => match H a with
    | some (.lst _) => "list"
    | some (.tup _) => "tuple"
    | some (.dK _) => "dict"
    | some (.frz _ (.lst _)) => "list"
    | _ => "?"
  | _ => "?"
def tyIs (T n : String) : Bool := T == n || (T == "bool" && n == "int")
def tyKnown : List String := ["NoneType", "bool", "int", "str", "list", "tuple", "dict"]
def tyAsked : List String := ["bool", "int", "str", "list", "tuple", "dict"]
theorem kit_known (K : PySem.W.Frag) : ∀ T ∈ tyKnown, ∀ n ∈ tyAsked, PySem.W.kitOne K (.type T) (.type n) = some (tyIs T n) := by
  intro T hT n hn
  simp only [tyKnown, tyAsked, List.mem_cons, List.not_mem_nil, or_false] at hT hn
  rcases hT with rfl | rfl | rfl | rfl | rfl | rfl | rfl <;> rcases hn with rfl | rfl | rfl | rfl | rfl | rfl <;> kernel_rfl
theorem tyN_of {K : PySem.W.Frag} {H : Hp} {x : V} (h : tyN H x ∈ tyKnown) : TyOf K H x (.type (tyN H x)) := by
  have no : ¬ ("?" ∈ tyKnown) := by decide
  cases x with
  | non => exact .non
  | bl b => exact .bl b
  | int i => exact .int i
  | str z => exact .str z
  | ref a =>
    unfold tyN at h ⊢
    dsimp only at h ⊢
    cases e : H a with
    | none => rw [e] at h; exact absurd h no
    | some o =>
      rw [e] at h
      cases o with
      | lst xs => exact .lst e
      | tup xs => exact .tup e
      | dK kvs => exact .dK e
      | frz ob u =>
        cases u with
        | lst xs => exact .frz e
        | _ => exact absurd h no
      | _ => exact absurd h no
  | _ => exact absurd h no
def rIsi (xs : List V) (H : Hp) (Q : VK) : Prop := ∃ x n, xs = [x, .ty n] ∧ tyN H x ∈ tyKnown ∧ n ∈ tyAsked ∧ Q (.bl (tyIs (tyN H x) n)) H
section
variable {X : Cx}
theorem call_isi : CallR X (.builtin "isinstance") rIsi := by
  intro pins s σ H xs us Q I r h
  obtain ⟨x, n, rfl, h1, h2, q⟩ := h
  obtain ⟨u, v, rfl, ru, rv⟩ := vals2 r
  cases rv
  exact isinst_ok I ru (tyN_of h1) (kit_known X.K _ h1 _ h2) fun tk => ⟨.bl _, H, I.tok tk, rfl, q⟩
end
end L2
set_option Elab.async false
set_option linter.all false
set_option maxRecDepth 100000
namespace L2
open PySem PySem.Spec PyProof.Rows
section
variable {X : Cx}
def rBits : V → List V → Hp → VK → Prop := fun x vs H Q => ∃ i, x = .int i ∧ vs = [] ∧ Q (.int ((Builtin.Int.intBits i : Nat) : Int)) H
theorem mt_bits : MtR X "int.bit_length" rBits := by
  intro pins s σ H x vs v us Q I rx rv h
  obtain ⟨i, rfl, rfl, q⟩ := h
  obtain ⟨t, rfl⟩ := rx
  cases rv
  exact call_int_bit_length ⟨.int _, H, I.tok _, ⟨_, rfl⟩, q⟩
theorem turn_rev {P : Program} {w : World} {K : PySem.W.Frag} {tg : Expr} (a it : Addr) (n : Nat) (hK : ∀ i (X : Cx) pins s σ H xs, X.K = K → Inv X pins σ H s → SqL K H a xs → i ≤ n → xs.length = n → True) :
    Turn P w K tg ⟨fun i H => i < n ∧ ∃ xs x, xs.length = n ∧ SqL K H a xs ∧ xs[n - 1 - i]? = some x, fun i H x H' => H' = H ∧ ∀ xs, SqL K H a xs → xs[n - 1 - i]? = some x, fun i H => i = n⟩ [it] it (fun i h => h.IsRevIter it a ((n : Int) - 1 - (i : Int))) where
  mem := by simp
  obj := fun i h st b hb => by
    have e : b = it := by simpa using hb
    subst e
    obtain ⟨o, e, c, d⟩ := st
    exact ⟨o, e, fun v z => by rw [d] at z; cases z⟩
  keep := fun i h h' st k => st.at fun o e => k it (by simp) o e
  item := by
    intro X hP hw hK' hc i pins s σ H E I hf st hg
    subst hP hw hK'
    obtain ⟨hi, xs, x, hl, hq, hx⟩ := hg
    obtain ⟨its, rv, p, hz⟩ := I.list hq
    obtain ⟨u, hu, ru⟩ := rv.get hx
    obtain ⟨f0, f1, f2, f3, f4, f5⟩ := hf it (by simp)
    have e1 : (n : Int) - 1 - (i : Int) = ((n - 1 - i : Nat) : Int) := by omega
    have st0 := st
    rw [e1] at st0
    refine wpAny_pyNext_rev_item st0 p.isList (x := u) (by simpa using hu) fun h' st' sb => ?_
    have e2 : ((n - 1 - i : Nat) : Int) - 1 = (n : Int) - 1 - ((i + 1 : Nat) : Int) := by omega
    rw [e2] at st'
    have I1 : Inv X pins σ H { s with heap := h' } := I.turned (t' := s.toks) (fun b o hb e => (sb.2 b hb).trans e) f0 f1 f3 f4 f5
    obtain ⟨o, e, c, d⟩ := id st'
    exact ⟨u, rfl, go_of (s := { s with heap := h' }) e c d (by decide) ⟨x, H, I1, ru, ⟨rfl, fun ys hy => by rw [I.list_inj hy hq]; exact hx⟩, st', fun b hb => (hf b hb).1⟩⟩
  done := by
    intro X hP hw hK' hc i pins s σ H E I hf st hg
    subst hP hw hK'
    obtain ⟨f0, f1, f2, f3, f4, f5⟩ := hf it (by simp)
    have e0 : i = n := hg
    subst e0
    have e1 : (i : Int) - 1 - (i : Int) = -1 := by omega
    rw [e1] at st
    exact wpAny_pyNext_rev_end (I.ok.hd hc) st fun h' eb => ⟨rfl, I.turned (t' := s.toks) (fun b o hb e => eb b o hb e) f0 f1 f3 f4 f5⟩
  self := fun _ _ _ _ _ st h => wpAny_pyIter_revIter st h
def Itb (K : PySem.W.Frag) (a : Addr) (n : Nat) : It :=
  ⟨fun i H => i < n ∧ ∃ xs x, xs.length = n ∧ SqL K H a xs ∧ xs[n - 1 - i]? = some x, fun i H x H' => H' = H ∧ ∀ xs, SqL K H a xs → xs[n - 1 - i]? = some x, fun i H => i = n⟩
def iRev (K : PySem.W.Frag) (ta : TA) : TI := fun σ H R => ta σ H fun vs H1 => ∃ a xs, vs = [.ref a] ∧ SqL K H1 a xs ∧ R (Itb K a xs.length) H1
theorem pi_rev {tg a : Expr} {ta : TA} {p pos : Pos} (hg : Gl X "reversed") (hm : X.mg "reversed" = none) (ha : PA X [a] ta) (hs : starEach [a] X.env = [(false, eval a X.env)] := by rfl) : PI X tg (.Call (.Name "reversed" p) [a] [] pos) (iRev X.K ta) := by
  intro pins s σ H R I h
  refine Call_ (ld_blt I hg hm boot_reversed (PyProof.Rows.callWith_type1 (thn (ha pos pins s σ H _ I h) fun us s1 ⟨vs, H1, I1, r1, q1⟩ => ?_) hs rfl))
  obtain ⟨l, xs, e, hq, q⟩ := q1
  subst e
  cases r1 with
  | cons r rr =>
    cases rr
    cases r
    obtain ⟨its, rv, pl, hz⟩ := I1.list hq
    have hlen : xs.length = its.toArray.size := by rw [List.size_toArray]; exact rv.length
    refine call_reversed_list pl.isList ?_
    have st : (s1.heap.push (revObj l ((its.toArray.size : Int) - 1))).IsRevIter s1.heap.objs.size l ((xs.length : Int) - 1 - ((0 : Nat) : Int)) := ⟨_, Heap.get?_push_size _ rfl, rfl, by rw [hlen]; simp [revObj]⟩
    refine wpAny_pyIter_revIter st ?_
    refine ⟨s1.heap.objs.size, [s1.heap.objs.size], _, _, H1, rfl, I1.kept (t' := s1.toks) fun b o e => Heap.get?_push_of_some _ e, turn_rev l _ xs.length (fun _ _ _ _ _ _ _ _ _ _ _ _ => trivial), st, fun b hb => ?_, q⟩
    have e : b = s1.heap.objs.size := by simpa using hb
    subst e
    exact I1.fpOk (Nat.le_refl _) (I1.hok.fresh (Nat.le_refl _))
mutual
inductive DataV (K : PySem.W.Frag) (H : Hp) : V → PyData → Prop
  | non : DataV K H .non .none
  | bl (b : Bool) : DataV K H (.bl b) (.bool b)
  | int (i : Int) : DataV K H (.int i) (.int i)
  | str (x : Str) : DataV K H (.str x) (.str x)
  | lst {a : Addr} {xs : List V} {ds : List PyData} : SqL K H a xs → DataVs K H xs ds → DataV K H (.ref a) (.list ds)
  | tup {a : Addr} {xs : List V} {ds : List PyData} : SqT K H a xs → DataVs K H xs ds → DataV K H (.ref a) (.tuple ds)
inductive DataVs (K : PySem.W.Frag) (H : Hp) : List V → List PyData → Prop
  | nil : DataVs K H [] []
  | cons {x : V} {xs : List V} {d : PyData} {ds : List PyData} : DataV K H x d → DataVs K H xs ds → DataVs K H (x :: xs) (d :: ds)
end
mutual
theorem DataV.reads {pins : List (Addr × Obj)} {s : Shared} {σ : St} {H : Hp} (I : Inv X pins σ H s) : ∀ {x : V} {d : PyData}, DataV X.K H x d → ∀ {u : Value}, RelV x u → ∃ as, Reads s.heap u d as
  | _, _, .non, _, r => by cases r; exact ⟨_, .none⟩
  | _, _, .bl b, _, r => by cases r; exact ⟨_, .bool b⟩
  | _, _, .int i, _, r => by obtain ⟨t, rfl⟩ := r; exact ⟨_, .int i t⟩
  | _, _, .str z, _, r => by obtain ⟨t, rfl⟩ := r; exact ⟨_, .str z t⟩
  | _, _, .lst hq hd, _, r => by
    cases r
    obtain ⟨its, rv, pl, _⟩ := I.list hq
    obtain ⟨as, ha⟩ := DataVs.reads I hd rv
    obtain ⟨o, n, e, c, _, d⟩ := pl
    exact ⟨_, .list e c d ha⟩
  | _, _, .tup hq hd, _, r => by
    cases r
    obtain ⟨its, rv, pl, _⟩ := I.tuple hq
    obtain ⟨as, ha⟩ := DataVs.reads I hd rv
    obtain ⟨o, e, c, n, d⟩ := pl
    exact ⟨_, .tuple e c d ha⟩
theorem DataVs.reads {pins : List (Addr × Obj)} {s : Shared} {σ : St} {H : Hp} (I : Inv X pins σ H s) : ∀ {xs : List V} {ds : List PyData}, DataVs X.K H xs ds → ∀ {us : List Value}, Vals xs us → ∃ as, ReadsAll s.heap us ds as
  | _, _, .nil, _, r => by cases r; exact ⟨_, .nil⟩
  | _, _, .cons h t, _, r => by
    cases r with
    | cons r1 r2 =>
      obtain ⟨as, ha⟩ := DataV.reads I h r1
      obtain ⟨bs, hb⟩ := DataVs.reads I t r2
      exact ⟨_, .cons ha hb⟩
end
def rEqD (K : PySem.W.Frag) : R2 := fun x y H Q => ∃ da db, DataV K H x da ∧ DataV K H y db ∧ SeqAt.shaped da = true ∧ SeqAt.shaped db = true ∧ Q (.bl (PyData.eqv da db)) H
def rNeD (K : PySem.W.Frag) : R2 := fun x y H Q => ∃ da db, DataV K H x da ∧ DataV K H y db ∧ SeqAt.shaped da = true ∧ SeqAt.shaped db = true ∧ Q (.bl (!PyData.eqv da db)) H
theorem op_eqD (hu : X.A.units + 64 < cLine) : OpR X (compareOp .Eq) (rEqD X.K) := by
  intro pins s σ H x y v u Q I rx ry h
  obtain ⟨da, db, ha, hb, sa, sb, q⟩ := h
  obtain ⟨as, ra⟩ := ha.reads I rx
  obtain ⟨bs, rb⟩ := hb.reads I ry
  exact eq_dataH ra rb sa sb hu ⟨.bl _, H, I, rfl, q⟩
theorem op_neD (hu : X.A.units + 64 < cLine) : OpR X (compareOp .NotEq) (rNeD X.K) := by
  intro pins s σ H x y v u Q I rx ry h
  obtain ⟨da, db, ha, hb, sa, sb, q⟩ := h
  obtain ⟨as, ra⟩ := ha.reads I rx
  obtain ⟨bs, rb⟩ := hb.reads I ry
  exact ne_dataH ra rb sa sb hu ⟨.bl _, H, I, rfl, q⟩
theorem op_mulB : OpR X (binaryOp .Mult) (rI IntMulOk fun i j => .int (i * j)) := opI fun _ _ _ _ _ _ _ hc q => mul_int q hc
def rLen (K : PySem.W.Frag) (xs : List V) (H : Hp) (Q : VK) : Prop := (∃ p ys, xs = [.ref p] ∧ (SqL K H p ys ∨ SqT K H p ys) ∧ Q (.int ys.length) H) ∨ (∃ z, xs = [.str z] ∧ z.length ≤ sizeLine ∧ Q (.int z.length) H)
theorem call_lenU : CallR X (.builtin "len") (rLen X.K) := call_len_seq.or call_len_str
end
end L2
set_option Elab.async false
set_option linter.all false
set_option maxRecDepth 100000
namespace L2
open PySem PySem.Spec PyProof.Rows
section
variable {σ : St} {H : Hp} {Q : VK} {D : Ends}
variable {K : PySem.W.Frag}
end
structure Top (K : PySem.W.Frag) (mg : Str → Option Value) (x : Str) (st : Stmt) : Prop where
  ex : ∃ (f : Addr) (fd : FuncData), Fun K x x st f fd ∧ mg x = some (.ref f)
structure Def (P : Program) (w : World) (K : PySem.W.Frag) (mg : Str → Option Value) (base : Heap) (CX : CXT) (k : Nat) (x : Str) (ps : List Str) (sp : Sp) : Prop where
  ex : ∃ (f : Addr) (fd : FuncData), FnOk P w K mg base CX k f fd ps sp ∧ mg x = some (.ref f) ∧ PySem.W.keepIn K (.ref f) = true ∧ Binds K fd ps []
section
variable {P : Program} {w : World} {K : PySem.W.Frag} {mg : Str → Option Value} {base : Heap}
theorem Top.mk' {x : Str} {st : Stmt} {h : Heap} {f : Addr} {oc : Value} {od an : Option Addr} {osl : Array (Option Value)} {kV doc pm cdv ct : Value} (X : K.In h) (G : h.Ns mainGlobals mg) (a : PySem.W.nsIn K mainGlobals x = some (some (.ref f)))
    (l : K.lookup f = some ⟨oc, od, .func (PySem.W.fnOf x x (defArgs st) (defBody st) (defScope st) .none kV doc pm an cdv ct), osl⟩) (c : PySem.W.codeIn K cdv x = true) (k : PySem.W.keepIn K (.ref f) = true) : Top K mg x st :=
  ⟨⟨f, _, fun_mk l c k, PySem.W.mg_of X G a⟩⟩
theorem Top.def {x : Str} {st : Stmt} {N ps : List Str} {k : Nat} {sp : Sp} (T : Top K mg x st) (S : FnScope N ps (defScope st)) (len : ∀ vs H Q E, sp vs H Q E → vs.length = ps.length)
    (hb : ∀ (kV doc pm : Value) (an : Option Addr) (cdv ct : Value) (us : List Value), us.length = ps.length → bindArgs (PySem.W.fnOf x x (defArgs st) (defBody st) (defScope st) .none kV doc pm an cdv ct) ⟨us, []⟩ = pure (ps.zip us))
    (hbody : ∀ (f : Addr) (cdv : Value) (A : Around) (outer : List Env) (s : Shared) (H : Hp) (vs : List V) (Q : VK) (E : XK), Room k (A.deeper (envOfC x (defScope st) s.heap.objs.size f cdv)) → sp vs H Q E →
      ∃ t, PSs (cxOf CX0 P w K mg base N x (defScope st) f cdv A outer s H E).nox (defBody st) t ∧ t { nx := fun _ H' => Q .non H', rt := Q } (start N vs) H) : Def P w K mg base CX0 (k + 1) x ps sp := by
  obtain ⟨f, fd, F, m⟩ := T.ex
  exact ⟨⟨f, fd, F.ok S len (hbody f), m, F.kp, F.binds hb⟩⟩
theorem pe_def {X : Cx} {k : Nat} {x : Str} {ps : List Str} {sp : Sp} {p pos : Pos} {e : Expr} {es : List Expr} {t : TA} (D : Def X.prog X.w X.K X.mg X.base CX0 k x ps sp) (hr : Room k X.A) (ha : PA X (e :: es) t) (hg : Gl X x := by rfl)
    (hdb : (x == ("__debug__" : Str)) = false := by decide) (he : starEach (e :: es) X.env = (false, eval e X.env) :: starEach es X.env := by rfl) (hpl : (backTo pos (starEach es X.env)).any (·.1) = false := by rfl) :
    PE X (.Call (.Name x p) (e :: es) [] pos) (tCall sp [] E0 t) := by
  obtain ⟨f, fd, F, m, kp, b⟩ := D.ex
  exact pe_call F hr hg m kp b .nil pass0 ha hdb he hpl
end
open PySem.W in
theorem bits_weight : ∀ (ns : List Int) (n : Int), n ∈ ns → Builtin.Int.intBits n ≤ WData.weightAll (ns.map WData.int)
  | m :: r, n, h => by
    rw [List.map_cons]
    have e : WData.weightAll (WData.int m :: r.map WData.int) = WData.weight (.int m) + 1 + WData.weightAll (r.map WData.int) := by simp only [WData.weightAll]
    rw [e]
    rcases List.mem_cons.mp h with rfl | h
    · have : Builtin.Int.intBits n = WData.weight (.int n) := by simp only [WData.weight, Builtin.Int.intBits]
      omega
    · have := bits_weight r n h
      omega
open PySem.W in
theorem bits_script {ns : List Int} (h : WData.layableAll [WData.list (ns.map WData.int)] = true) : ∀ n ∈ ns, Builtin.Int.intBits n ≤ 1048576 := fun n hn => by
  have h1 : (WData.list (ns.map WData.int)).layable = true := PySem.W.layableW_arg h _ (by simp)
  have h2 := (PySem.W.layableW_iff.mp h1).2.2
  have h3 : WData.weight (.list (ns.map WData.int)) = WData.weightAll (ns.map WData.int) := by simp only [WData.weight]
  have h4 := bits_weight ns n hn
  have h5 : (2 : Nat) ^ 20 = 1048576 := by decide
  omega
open PySem.W PySem.Calls in
theorem attachB {l : OpenLaw} {n : Nat} {q : Program} {loose : List Str} {XP : (Str → Option Value) → Heap → Prop} {YP : World → Heap → Prop} {d : DefRec}
    (hn : l.most = some n) (hdf : d.params.defaults = [])
    (call : ∀ (w : World) (s₀ s₁ : Shared) (mg mb : Str → Option Value) (fa a : Addr) (vs : List Value) (ns : List Int),
      Ground q loose [] XP w s₀ mg mb s₁.heap → YP w s₁.heap → mg d.name = some (.ref fa) →
      s₁.heap.get? a = some { cls := .type "list", data := .seq vs.toArray } → IntsAre vs ns → ns.length ≤ n → (∀ k ∈ ns, Builtin.Int.intBits k ≤ 1048576) → s₁.gens = #[] →
      codeAny (model l.prog w) callerA (.call (.ref fa) ⟨[.ref a], []⟩) (fun r s' => r = .ok (.ret (.bool true)) ∧ OldK s₁.heap s'.heap ∧ s'.os = s₁.os ∧ AllBare s'.gens) s₁) :
    WalkO q loose XP YP l.row.toRowW d [] (fun f vs => PySem.call f vs) := by
  intro w s₀ s₁ mg mb G Y fa o pm cd doc dV kV ho hd hcd hD hmg hg args vals as' hpre hlay hrd hwl hlo
  obtain rfl : dV = .none := Dflts.none hD hdf
  obtain ⟨a, vs, ns, rfl, rfl, hobj, hints, hlen⟩ := Att.script_of hn hpre hwl
  refine enter_call (codeAny_mono (call w s₀ s₁ mg mb fa a vs ns G Y hmg hobj hints hlen (bits_script hlay) hg) fun r s' hq => ?_)
  obtain ⟨rfl, h2, h3, h4⟩ := hq
  exact ⟨.inl ⟨.bool true, .bool true, [], rfl, fun _ => rfl, .bool true, Att.post_true l _, fun _ => ⟨List.Pairwise.nil, fun _ hm => (nomatch hm)⟩⟩, h2, h3, h4⟩
def spLaw (K : PySem.W.Frag) : Sp := fun vs H Q _ => ∃ (a : Addr) (ns : List Int), vs = [.ref a] ∧ SqL K H a (ns.map V.int) ∧ ns.length ≤ 63 ∧ (∀ k ∈ ns, Builtin.Int.intBits k ≤ 1048576) ∧ ∀ H', Q (.bl true) H'
theorem walk_law {l : PySem.W.OpenLaw} {k : Nat} {q : Program} {loose : List Str} {XP : (Str → Option Value) → Heap → Prop} {YP : World → Heap → Prop} {d : DefRec} {K : Params → PySem.W.Frag} {x : Str} {st : Stmt}
    (hn : l.most = some 63) (hdf : d.params.defaults = []) (hr : Room k callerA) (hY : ∀ (w : World) (h : Heap), YP w h → (K w.params).In h)
    (hb : ∀ (kV doc pm : Value) (an : Option Addr) (cdv ct u : Value), bindArgs (PySem.W.fnOf d.name d.name (defArgs st) (defBody st) (defScope st) .none kV doc pm an cdv ct) ⟨[u], []⟩ = pure [(x, u)])
    (F : ∀ (w : World) (mg : Str → Option Value) (h : Heap), (K w.params).In h → h.Ns mainGlobals mg → Top (K w.params) mg d.name st ∧
      ∀ (f : Addr) (fd : FuncData), Fun (K w.params) d.name d.name st f fd → ∀ base : Heap, (K w.params).In base → base.Ns mainGlobals mg → FnOk l.prog w (K w.params) mg base CX0 k f fd [x] (spLaw (K w.params))) :
    PySem.W.WalkO q loose XP YP l.row.toRowW d [] (fun f vs => PySem.call f vs) := by
  refine attachB hn hdf fun w s₀ s₁ mg mb fa a vs ns G Y hmg hobj hints hlen hbits hg => ?_
  have KX := hY w _ Y
  obtain ⟨T, FF⟩ := F w mg _ KX G.T.g
  obtain ⟨f, fd, Ff, m⟩ := T.ex
  have e := m.symm.trans hmg
  cases e
  have hbd : ∀ (s : Shared) (u : Value), BindsTo s fd ⟨[u], []⟩ [(x, u)] := by
    obtain ⟨oc, od, kV, doc, pm, an, cdv, ct, osl, rfl, lk, hcd⟩ := Ff.ex
    exact fun s u => .of_eq (hb kV doc pm an cdv ct u)
  exact law_call KX G.T.g G.T.b G.T.builtins G.T.nolimit hg hobj hints (Nat.le_trans hlen (by decide)) hr (FF _ fd Ff) hbd (fun H hO hS => ⟨a, ns, rfl, hS, hlen, hbits, fun _ => rfl⟩) fun H e s' h => h
end L2
set_option Elab.async false
set_option linter.all false
set_option maxRecDepth 100000
namespace L2
open PySem PySem.Spec PyProof.Rows
section
variable {σ : St} {H : Hp} {Q : VK} {K : PySem.W.Frag} {fr : List (Str × Nat)}
instance : Inhabited V := ⟨.non⟩
end
section
variable {σ : St} {H : Hp} {Q : VK} {K : PySem.W.Frag} {i j : Int}
end
section
variable {σ : St} {H : Hp} {K : PySem.W.Frag}
end
theorem same_upd {H : Hp} {p : Addr} {o : HO} (h : H p = none) : Same H (upd H p o) := fun b u e => by rw [upd_ne (ne_of_none e h)]; exact e
theorem pe_ty {X : Cx} {x : Str} {n : String} {pos : Pos} (hm : X.mg x = none) (hv : bootBuiltins x = some (.type n)) (hg : Gl X x := by rfl) (hn : x ≠ "__name__" := by decide) (hd : (x == ("__debug__" : Str)) = false := by decide) : PE X (.Name x pos) (tC (.ty n)) :=
  pe_bltn hg hm hv (show RelV (.ty n) (.type n) from rfl) hn hd
end L2
set_option Elab.async false
set_option linter.all false
set_option maxRecDepth 100000
namespace L2
open PySem PySem.Spec PyProof.Rows
section
variable {X : Cx}
end
end L2
set_option Elab.async false
set_option linter.all false
set_option maxRecDepth 100000
namespace L2
open PySem PySem.Spec PyProof.Rows
section
variable {P : Program} {w : World} {B : Around} {R : Result → Shared → Prop} {E : Value → Shared → Prop} {t : Shared} {i₀ : Addr} {fp wr : List Addr} {n : Nat} {p : Nat → Value → Prop} {st : Nat → Shared → Prop}
abbrev GenSame : Array GenState → Array GenState → Prop := fun a b => b = a
def Hints (P : Program) (w : World) (B : Around) (i₀ : Addr) (st : Nat → Shared → Prop) : Prop :=
  ∀ (t₁ : Shared) (Q' : Bool → Shared → Prop) (E' : Value → Shared → Prop), st 0 t₁ → (∀ k, t₁.toks ≤ k → Q' false { t₁ with toks := k }) → wpAny (model P w) B (Builtin.List.listLengthHint (.ref i₀)) Q' E' t₁
theorem ext_it (W : WalksS P w B.in1 i₀ fp wr GenSame n p st) {T : String} (hT : T = "list_reverseiterator" ∨ T = "range_iterator") (ty : ∀ j t, st j t → t.TypeIs (.ref i₀) T) (hh : Hints P w B.in1 i₀ st) (l₀ : Addr) (res : Value) (c₀ : Nat)
    (h0 : st 0 t) (hl : l₀ ∉ fp) (hi : i₀ ∈ fp) (ho : t.heap.get? l₀ = some { cls := .type "list", data := .seq #[] c₀ })
    (hR : ∀ t' acc c, Moved (l₀ :: wr) GenSame t t' → t'.heap.get? l₀ = some { cls := .type "list", dict := none, data := .seq acc c, slots := #[] } → ItemsOf p acc n → R (.ok (.ret res)) t') (hn : n ≤ sizeLine) :
    wpAny (model P w) B.in1 (Builtin.List.listExtendWith (.ref l₀) (.ref i₀) res) (fun fin t' => match fin with | .done f => R (.ok f) t' | .again c' => c'.quiet = true ∧ codeAny (model P w) B c' R t') (fun e t' => R (.error e) t') t := by
  have hne : l₀ ≠ i₀ := fun e => hl (e ▸ hi)
  have e1 : Builtin.List.listSameRef (.ref l₀) (.ref i₀) = false := by simp [Builtin.List.listSameRef, hne]
  unfold Builtin.List.listExtendWith
  refine wpAny_bind (wpAny_typeOf (ty 0 _ h0) ?_)
  rcases hT with rfl | rfl
  all_goals
    rw [if_neg (by rw [e1]; decide)]
    refine wpAny_bind (W.self 0 _ _ _ h0 ?_)
    refine wpAny_bind (wpAny_holding (hh _ _ _ h0 fun k hk => ?_))
    rw [if_neg (by decide)]
    have h1 := W.frame 0 t t.heap k h0 hk fun b _ o e => e
    refine wpAny_pure ⟨plainId_quiet F.plain_extend_loop _, codeAny_extend_loopS W hn _ hl _ n 0 _ _ _ rfl (Nat.zero_le _) h1 ho (ItemsOf.nil p) fun t' acc c hm hs hacc => ?_⟩
    exact hR t' acc c ⟨hm.heap, hm.gens, hm.drawn, hm.os, Nat.le_trans hk hm.toks⟩ hs hacc
theorem init_it (W : WalksS P w B.in1 i₀ fp wr GenSame n p st) {T : String} (hT : T = "list_reverseiterator" ∨ T = "range_iterator") (ty : ∀ j t, st j t → t.TypeIs (.ref i₀) T) (hh : Hints P w B.in1 i₀ st) (l₀ : Addr)
    (h0 : st 0 t) (hl : l₀ ∉ fp) (hi : i₀ ∈ fp) (ho : t.heap.get? l₀ = some { cls := .type "list", data := .seq #[] })
    (hR : ∀ t' acc c, Moved (l₀ :: wr) GenSame t t' → t'.heap.get? l₀ = some { cls := .type "list", dict := none, data := .seq acc c, slots := #[] } → ItemsOf p acc n → R (.ok (.ret .none)) t') (hn : n ≤ sizeLine) :
    wpAny (model P w) B.in1 (Builtin.«list.__init__» ⟨[.ref l₀, .ref i₀], []⟩) (fun fin t' => match fin with | .done f => R (.ok f) t' | .again c' => c'.quiet = true ∧ codeAny (model P w) B c' R t') (fun e t' => R (.error e) t') t := by
  show wpAny _ B.in1 (do let old ← Builtin.List.listItems (.ref l₀); Builtin.List.listUpdate (.ref l₀) (fun _ => #[]); letGo old.toList.reverse; Builtin.List.listExtendWith (.ref l₀) (.ref i₀) .none) _ _ t
  refine wpAny_bind ?_
  unfold Builtin.List.listItems
  refine wpAny_bind (wpAny_seqItems ho rfl (wpAny_pure ?_))
  show wpAny _ B.in1 (updateSeq l₀ (fun _ => #[]) >>= fun _ => letGo (#[] : Array Value).toList.reverse >>= fun _ => Builtin.List.listExtendWith (.ref l₀) (.ref i₀) .none) _ _ t
  refine wpAny_bind (wpAny_updateSeq ho rfl ?_)
  have h2 := Heap.get?_update_self (Obj.mapSeq (fun _ => (#[] : Array Value))) ho rfl
  have oth : ∀ b o, b ≠ l₀ → t.heap.get? b = some o → (t.heap.update l₀ (Obj.mapSeq (fun _ => (#[] : Array Value)))).get? b = some o :=
    fun b o hb e => (Heap.get?_update_other _ _ (Ne.symm hb)).trans e
  refine wpAny_bind (wpAny_letGo ?_)
  refine ext_it W hT ty hh l₀ .none _ (W.frame 0 t _ t.toks h0 (Nat.le_refl _) fun b hb o e => oth b o (fun z => hl (z ▸ hb)) e) hl hi h2 (fun t' acc c hm hs hacc => ?_) hn
  exact hR t' acc c ⟨fun b o hb e => hm.heap b o hb (oth b o (fun z => hb (z ▸ List.mem_cons_self)) e), hm.gens, hm.drawn, hm.os, hm.toks⟩ hs hacc
theorem list_it {Q : Value → Shared → Prop} (W : WalksS P w B.in1.in1 i₀ fp wr GenSame n p st) {T : String} (hT : T = "list_reverseiterator" ∨ T = "range_iterator") (ty : ∀ j t, st j t → t.TypeIs (.ref i₀) T) (hh : Hints P w B.in1.in1 i₀ st)
    (h0 : st 0 t) (hfp : ∀ b ∈ fp, b < t.heap.objs.size) (hi : i₀ ∈ fp)
    (hQ : ∀ h' k acc c, (∀ b o, b ∉ wr → t.heap.get? b = some o → h'.get? b = some o) → h'.get? t.heap.objs.size = some { cls := .type "list", dict := none, data := .seq acc c, slots := #[] } → ItemsOf p acc n → Q (.ref t.heap.objs.size) { t with heap := h', toks := k }) (hn : n ≤ sizeLine) :
    wpAny (model P w) B (call (.type "list") [.ref i₀]) Q E t := by
  have hl : t.heap.objs.size ∉ fp := fun z => Nat.lt_irrefl _ (hfp _ z)
  refine callType_codes (Q₁ := fun v t₁ => v = .ref t.heap.objs.size ∧ t₁ = { t with heap := t.heap.push { cls := .type "list", data := .seq #[] } }) F.called_list (F.typeCall_list_1 _) F.entry_list_init (code_list_new _ ⟨rfl, rfl⟩) fun v t₁ h₁ => ?_
  obtain ⟨rfl, rfl⟩ := h₁
  have ho : (t.heap.push { cls := .type "list", data := .seq #[] }).get? t.heap.objs.size = some { cls := .type "list", data := .seq #[] } := Heap.get?_push_size _ rfl
  refine ⟨⟨_, ho, rfl⟩, F.args_list_init_2 _ _, init_it W hT ty hh _ (W.frame 0 t _ t.toks h0 (Nat.le_refl _) fun b _ o e => Heap.get?_push_of_some _ e) hl hi ho (fun t' acc c hm hs hacc => ?_) hn⟩
  have e1 : t'.gens = t.gens := hm.gens
  have e2 : t'.drawn = t.drawn := hm.drawn
  have e3 : t'.os = t.os := hm.os
  obtain ⟨h', g', d', k', os'⟩ := t'
  subst e1 e2 e3
  refine ⟨rfl, hQ h' k' acc c (fun b o hb e => hm.heap b o (fun z => ?_) (Heap.get?_push_of_some _ e)) hs hacc⟩
  rcases List.mem_cons.mp z with z | z
  · rw [z] at e; exact absurd (Heap.lt_size e) (Nat.lt_irrefl _)
  · exact hb z
end
abbrev rngIt (a n c : Int) : Obj := { cls := .type "range_iterator", data := .fields #[rawInt a, rawInt n, rawInt c] }
theorem sub_ri_reversed : isSubtype (.type "range_iterator") (.type "reversed") = pure false := by rw [isSubtype_type]; kernel_rfl
section
variable {P : Program} {w : World} {A : Around} {E : Value → Shared → Prop} {s : Shared}
theorem rng_fields {r : Addr} {a b c : Int} {k u v : Tok} {Q : Int × Int × Int → Shared → Prop} (hr : IsRange s.heap r a b c k u v) (h : Q (a, b, c) s) : wpAny (model P w) A (Builtin.Range.rangeFields (.ref r)) Q E s := by
  have fl : ∀ {i : Nat} {x : Value} {Q' : Value → Shared → Prop} {E' : Value → Shared → Prop}, (#[Value.int a k, Value.int b u, Value.int c v] : Array Value)[i]? = some x → Q' x s → wpAny (model P w) A (field (.ref r) i) Q' E' s := fun hx q => wpAny_field hr rfl hx q
  unfold Builtin.Range.rangeFields
  refine wpAny_bind (fl (i := 0) rfl ?_)
  refine wpAny_bind (m := asInt? (.int a k)) (wpAny_pure ?_)
  refine wpAny_bind (fl (i := 1) rfl ?_)
  refine wpAny_bind (m := asInt? (.int b u)) (wpAny_pure ?_)
  refine wpAny_bind (fl (i := 2) rfl ?_)
  refine wpAny_bind (m := asInt? (.int c v)) (wpAny_pure ?_)
  exact wpAny_pure h
theorem rng_reversed {r : Addr} {n : Nat} {k u v : Tok} {Q : Value → Shared → Prop} (hr : IsRange s.heap r 0 (n : Int) 1 k u v) (hn : n < 2 ^ 62)
    (h : Q (.ref s.heap.objs.size) { s with heap := s.heap.push (rngIt ((n : Int) - 1) n (-1)) }) : wpAny (model P w) A (call (.builtin "range.__reversed__") [.ref r]) Q E s := by
  refine wpAny_call_entry F.slot_range_reversed ⟨_, hr, rfl⟩ F.entry_range_reversed ?_ (F.args_range_reversed_1 _)
  unfold Builtin.«range.__reversed__»
  refine wpAny_bind (wpAny_of_eq (a := Value.ref r) rfl ?_)
  have hz : Builtin.Range.rangeSize 0 (n : Int) 1 = (n : Int) := by rw [PySem.rangeSize_one]; split <;> omega
  have f : ∀ i : Int, -(2 ^ 62) ≤ i → i ≤ 2 ^ 62 → Builtin.Range.rangeFitsLong i = true := fun i h1 h2 => by
    unfold Builtin.Range.rangeFitsLong
    rw [Bool.and_eq_true]
    exact ⟨decide_eq_true (by omega), decide_eq_true (by omega)⟩
  refine wpAny_bind (rng_fields hr ?_)
  dsimp only
  rw [hz, f 0 (by omega) (by omega), f n (by omega) (by omega), f 1 (by omega) (by omega), f (-1) (by omega) (by omega), f (0 - 1) (by omega) (by omega)]
  show wpAny _ _ (newFields "range_iterator" [rawInt (0 + ((n : Int) - 1) * 1), rawInt (n : Int), rawInt (-1)] >>= fun x => ret x) _ _ _
  rw [show (0 : Int) + ((n : Int) - 1) * 1 = (n : Int) - 1 by omega]
  exact wpAny_bind (wpAny_newObj_type (wpAny_pure ⟨_, rfl, h⟩))
theorem new_reversed {r : Addr} {n : Nat} {k u v : Tok} {Q₁ : Value → Shared → Prop} (hr : IsRange s.heap r 0 (n : Int) 1 k u v) (hn : n < 2 ^ 62)
    (h : Q₁ (.ref s.heap.objs.size) { s with heap := s.heap.push (rngIt ((n : Int) - 1) n (-1)) }) :
    codeAny (model P w) A (.call (.builtin "reversed.__new__") ⟨[.type "reversed", .ref r], []⟩) (wants Q₁ E) s := by
  refine codeAny_of_tree ?_
  show wpAny _ A.in1 (do checkBuiltinCall "reversed.__new__" ⟨[.type "reversed", .ref r], []⟩; again (.builtin "reversed.__new__" ⟨[.type "reversed", .ref r], []⟩)) _ _ s
  refine wpAny_bind (wpAny_of_eq (F.newCall_reversed_1 _) (wpAny_pure ⟨plainId_quiet F.plain_reversed_new _, codeAny_builtin F.entry_reversed_new ?_⟩))
  rw [Around.under_plainId F.plain_reversed_new _]
  unfold Builtin.«reversed.__new__»
  refine wpAny_bind (wpAny_of_eq (newClass_reversed _) ?_)
  try dsimp only
  refine wpAny_bind (wpAny_of_eq (a := ()) (by first | rfl | kernel_rfl) ?_)
  refine wpAny_bind (wpAny_of_eq (a := ()) (by first | rfl | kernel_rfl) ?_)
  try dsimp only
  refine wpAny_bind (wpAny_specialOf (T := "range") ⟨_, hr, rfl⟩ F.slot_range_reversed.lookup ?_)
  try dsimp only
  refine wpAny_bind (wpAny_of_eq (F.slot_range_reversed.bind _) ?_)
  try dsimp only
  first
  | rw [if_neg (show ¬ ((Value.builtin "range.__reversed__" == Value.none) = true) from Bool.false_ne_true)]
  | (show wpAny _ _ (if (Value.builtin "range.__reversed__" == Value.none) = true then _ else _) _ _ _; rw [if_neg (show ¬ ((Value.builtin "range.__reversed__" == Value.none) = true) from Bool.false_ne_true)])
  refine wpAny_bind (wpAny_rule ?_)
  refine wpAny_bind (m := runValue (.call (.builtin "range.__reversed__") ⟨[.ref r], []⟩)) (show wpAny _ _ (call (.builtin "range.__reversed__") [.ref r]) _ _ _ from rng_reversed hr hn ?_)
  first
  | exact wpAny_pure h
  | exact wpAny_bind (wpAny_pure (wpAny_pure h))
theorem reversed_rng {r : Addr} {n : Nat} {k u v : Tok} {Q : Value → Shared → Prop} (hr : IsRange s.heap r 0 (n : Int) 1 k u v) (hn : n < 2 ^ 62)
    (h : Q (.ref s.heap.objs.size) { s with heap := s.heap.push (rngIt ((n : Int) - 1) n (-1)) }) : wpAny (model P w) A (call (.type "reversed") [.ref r]) Q E s := by
  refine callType_other (U := "range_iterator") (Q₁ := fun v s₁ => v = .ref s.heap.objs.size ∧ s₁ = { s with heap := s.heap.push (rngIt ((n : Int) - 1) n (-1)) }) (by decide +kernel) F.create_reversed ⟨_, _, F.mro_reversed⟩ F.made_reversed sub_ri_reversed (F.typeCall_reversed_1 _) (new_reversed hr hn ⟨rfl, rfl⟩) ?_
  rintro x s₁ ⟨rfl, rfl⟩
  exact ⟨⟨_, Heap.get?_push_size _ rfl, rfl⟩, h⟩
theorem ri_hint {it : Addr} {a n c : Int} {Q : Value → Shared → Prop} (hit : s.heap.get? it = some (rngIt a n c)) (h : ∀ k, s.toks ≤ k → Q (.int n (k - 1)) { s with toks := k }) :
    wpAny (model P w) A (call (.builtin "range_iterator.__length_hint__") [.ref it]) Q E s := by
  refine wpAny_call_entry F.slot_range_iterator_length_hint ⟨_, hit, rfl⟩ F.entry_range_iterator_length_hint ?_ (F.args_range_iterator_length_hint_1 _)
  unfold Builtin.«range_iterator.__length_hint__»
  refine wpAny_bind (wpAny_of_eq (a := Value.ref it) rfl ?_)
  refine wpAny_bind (wpAny_field (i := 1) hit rfl rfl ?_)
  exact wpAny_bind (m := mkInt n) (wpAny_mkInt (wpAny_pure ⟨_, rfl, h (s.toks + 1) (Nat.le_succ _)⟩))
theorem hints_rng {i₀ : Addr} {n : Nat} {st : Nat → Shared → Prop} (hz : n ≤ 2 ^ 24) (hit : ∀ t, st 0 t → ∃ a c, t.heap.get? i₀ = some (rngIt a n c)) : Hints P w A i₀ st := by
  intro t₁ Q' E' h q
  obtain ⟨a, c, hi⟩ := hit _ h
  unfold Builtin.List.listLengthHint
  have ty : t₁.TypeIs (.ref i₀) "range_iterator" := ⟨_, hi, rfl⟩
  refine wpAny_bind (wpAny_specialOf ty F.nolen_ra ?_)
  show wpAny _ A (specialOf (Value.ref i₀) (Str.ofString "__length_hint__") >>= _) _ _ _
  refine wpAny_bind (wpAny_specialOf ty F.hint_ra ?_)
  generalize hid : ("range_iterator.__length_hint__" : String) = idx
  wp_delta
  rw [show splitId idx = some ("range_iterator", "__length_hint__") from by subst hid; decide +kernel]
  subst hid
  refine wpAny_bind (wpAny_isInstance (b := true) ty (by rw [isSubtype_type]; kernel_rfl) ?_)
  show wpAny _ A (call (.builtin "range_iterator.__length_hint__") [.ref i₀] >>= _) _ _ _
  refine wpAny_bind (ri_hint hi fun k hk => ?_)
  refine wpAny_bind (m := asInt? (.int (n : Int) (k - 1))) (wpAny_pure ?_)
  dsimp only
  have hl : Builtin.List.listTooLong ((n : Int).toNat) = false := by simp [Builtin.List.listTooLong, sizeLine]; omega
  rw [if_neg (by rw [hl]; decide)]
  exact wpAny_pure (q _ hk)
end
section
variable {X : Cx}
abbrev eCall (x : Str) (p : Pos) (es : List Expr) (pos : Pos) : Expr := .Call (.Name x p) es [] pos
theorem lay_list {pins : List (Addr × Obj)} {s : Shared} {σ : St} {H : Hp} {Q : VK} {ys : List V} (I : Inv X pins σ H s) (hz : ys.length ≤ sizeLine) (q : ∀ l, H l = none → Q (.ref l) (upd H l (.lst ys)))
    {l : Addr} (hl : s.heap.objs.size ≤ l) {h' : Heap} {k c : Nat} {acc : Array Value} (kp : ∀ b o, s.heap.get? b = some o → h'.get? b = some o) (ho : h'.get? l = some { cls := .type "list", dict := none, data := .seq acc c, slots := #[] }) (rv : Vals ys acc.toList) :
    EP X pins σ Q (.ref l) { s with heap := h', toks := k } :=
  ⟨.ref l, _, I.laid kp hl (show ObjOk X.prog X.w _ h' _ (.lst ys) from ⟨hz, acc.toList, c, rv, by simpa using ho⟩), rfl, q _ (I.hok.fresh hl)⟩
theorem vals_get : ∀ {ys : List V} {its : List Value}, ys.length = its.length → (∀ (j : Nat) (y : V) (v : Value), ys[j]? = some y → its[j]? = some v → RelV y v) → Vals ys its
  | [], [], _, _ => .nil
  | y :: ys, v :: its, hl, h => .cons (h 0 y v rfl rfl) (vals_get (by simpa using hl) fun j a b h1 h2 => h (j + 1) a b (by simpa using h1) (by simpa using h2))
  | [], _ :: _, hl, _ => by simp at hl
  | _ :: _, [], hl, _ => by simp at hl
def rngV (n : Nat) : List V := (List.range n).map fun k : Nat => V.int (k : Int)
def rListRng : List V → Hp → VK → Prop := fun xs H Q => ∃ n : Nat, xs = [.int (n : Int)] ∧ n ≤ 2 ^ 24 ∧ ∀ l, H l = none → Q (.ref l) (upd H l (.lst (rngV n)))
def rListRevRng : List V → Hp → VK → Prop := fun xs H Q => ∃ n : Nat, xs = [.int (n : Int)] ∧ n ≤ 2 ^ 24 ∧ ∀ l, H l = none → Q (.ref l) (upd H l (.lst (rngV n).reverse))
theorem pe_listRng {a : Expr} {ta : TA} {p p' pos pos' : Pos} (hc : X.calm = true) (hg : Gl X "list") (hm : X.mg "list" = none) (hg' : Gl X "range") (hm' : X.mg "range" = none) (ha : PA X [a] ta)
    (hs : starEach [a] X.env = [(false, eval a X.env)] := by rfl) (hs' : starEach [eCall "range" p' [a] pos'] X.env = [(false, eval (eCall "range" p' [a] pos') X.env)] := by rfl) :
    PE X (eCall "list" p [eCall "range" p' [a] pos'] pos) (tCB rListRng ta) := by
  intro pins s σ H Q I h
  have hn : X.A.handled = none := I.ok.hd hc
  refine wpAny_Call_Name_kw (ld_blt I hg hm boot_list ?_)
  refine PyProof.Rows.callWith_type1 ?_ hs' rfl
  rw [hs']
  refine Calls.spliced_cons ?_
  refine wpAny_Call_Name_kw (ld_blt I hg' hm' boot_range ?_)
  refine PyProof.Rows.callWith_type1 (thn (ha pos' pins s σ H _ I h) fun us s1 ⟨vs, H1, I1, r1, q1⟩ => ?_) hs rfl
  obtain ⟨n, e, hz, q⟩ := q1
  subst e
  cases r1 with
  | cons r rr =>
    cases rr
    obtain ⟨tk, rfl⟩ := r
    refine call_range_1 ?_
    refine Calls.spliced_nil ?_
    have hsz : Builtin.Range.rangeSize 0 (n : Int) 1 = (n : Int) := by rw [PySem.rangeSize_one]; split <;> omega
    refine call_list_range (n := n) hn (IsRange.new _ _ _ _ _ _ _) ?_ hsz hz fun h' k acc c kp ho hacc => ?_
    · exact small_one (by omega) (by omega) (by omega) (by omega)
    · refine lay_list (s := s1) I1 (by simp only [rngV, List.length_map, List.length_range, sizeLine]; omega) q (show s1.heap.objs.size ≤ (s1.heap.push _).objs.size by rw [Heap.size_push]; exact Nat.le_succ _) (fun b o e => kp b o (Heap.get?_push_of_some _ e)) ho (vals_get ?_ fun j y v h1 h2 => ?_)
      · simp only [rngV, List.length_map, List.length_range]
        rw [Array.length_toList, hacc.1]
      · have h2' : acc[j]? = some v := by rw [← Array.getElem?_toList]; exact h2
        obtain ⟨t', h3⟩ := hacc.2 j v h2'
        rw [h3]
        rw [rngV, List.getElem?_map] at h1
        obtain ⟨j', h4, h5⟩ := Option.map_eq_some_iff.mp h1
        have h6 := (List.getElem?_eq_some_iff.mp h4).2
        rw [List.getElem_range] at h6
        subst h6
        rw [← h5]
        exact ⟨t', by rw [Int.zero_add, Int.mul_one]⟩
theorem pe_listRevRng {a : Expr} {ta : TA} {p p' p'' pos pos' pos'' : Pos} (hc : X.calm = true) (hg : Gl X "list") (hm : X.mg "list" = none) (hg2 : Gl X "reversed") (hm2 : X.mg "reversed" = none) (hg' : Gl X "range") (hm' : X.mg "range" = none) (ha : PA X [a] ta)
    (hs : starEach [a] X.env = [(false, eval a X.env)] := by rfl) (hs2 : starEach [eCall "range" p'' [a] pos''] X.env = [(false, eval (eCall "range" p'' [a] pos'') X.env)] := by rfl)
    (hs' : starEach [eCall "reversed" p' [eCall "range" p'' [a] pos''] pos'] X.env = [(false, eval (eCall "reversed" p' [eCall "range" p'' [a] pos''] pos') X.env)] := by rfl) :
    PE X (eCall "list" p [eCall "reversed" p' [eCall "range" p'' [a] pos''] pos'] pos) (tCB rListRevRng ta) := by
  intro pins s σ H Q I h
  have hn : X.A.handled = none := I.ok.hd hc
  refine wpAny_Call_Name_kw (ld_blt I hg hm boot_list ?_)
  refine PyProof.Rows.callWith_type1 ?_ hs' rfl
  rw [hs']
  refine Calls.spliced_cons ?_
  refine wpAny_Call_Name_kw (ld_blt I hg2 hm2 boot_reversed ?_)
  refine PyProof.Rows.callWith_type1 ?_ hs2 rfl
  rw [hs2]
  refine Calls.spliced_cons ?_
  refine wpAny_Call_Name_kw (ld_blt I hg' hm' boot_range ?_)
  refine PyProof.Rows.callWith_type1 (thn (ha pos'' pins s σ H _ I h) fun us s1 ⟨vs, H1, I1, r1, q1⟩ => ?_) hs rfl
  obtain ⟨n, e, hz, q⟩ := q1
  subst e
  cases r1 with
  | cons r rr =>
    cases rr
    obtain ⟨tk, rfl⟩ := r
    refine call_range_1 ?_
    refine Calls.spliced_nil ?_
    generalize ho0 : ({ cls := .type "range", data := .fields #[.int 0 s1.toks, .int (n : Int) tk, .int 1 (s1.toks + 1)] } : Obj) = ob
    have hr : IsRange (s1.heap.push ob) s1.heap.objs.size 0 (n : Int) 1 s1.toks tk (s1.toks + 1) := by rw [← ho0]; exact IsRange.new _ _ _ _ _ _ _
    have z1 : (s1.heap.push ob).objs.size = s1.heap.objs.size + 1 := Heap.size_push _ _
    refine reversed_rng hr (by omega) ?_
    refine Calls.spliced_nil ?_
    have z2 : ((s1.heap.push ob).push (rngIt ((n : Int) - 1) n (-1))).objs.size = s1.heap.objs.size + 2 := by rw [Heap.size_push, z1]
    have W := (Walks.range (prog := X.prog) (w := X.w) (A := X.A.in1.in1) hn (s1.heap.push ob).objs.size ((n : Int) - 1) (-1) n).toS
    have e0 : (n : Int) - 1 + ((0 : Nat) : Int) * -1 = (n : Int) - 1 := by omega
    have e1 : (n : Int) - ((0 : Nat) : Int) = n := by omega
    refine list_it (B := X.A) (t := { s1 with heap := (s1.heap.push ob).push (rngIt ((n : Int) - 1) n (-1)), toks := s1.toks + 1 + 1 }) W (.inr rfl) (fun j t st => ⟨_, st, rfl⟩)
      (hints_rng hz fun t st => ⟨(n : Int) - 1, -1, by
        have st' : t.heap.get? (s1.heap.push ob).objs.size = some (rngIt ((n : Int) - 1 + ((0 : Nat) : Int) * -1) ((n : Int) - ((0 : Nat) : Int)) (-1)) := st
        rw [e0, e1] at st'
        exact st'⟩)
      ?_ (fun b hb => ?_) (by simp) (fun h' k acc c kp ho hacc => ?_) (by simp only [sizeLine]; omega)
    · show Heap.get? _ _ = some (rngIt ((n : Int) - 1 + ((0 : Nat) : Int) * -1) ((n : Int) - ((0 : Nat) : Int)) (-1))
      rw [e0, e1]
      exact Heap.get?_push_size _ rfl
    · show b < ((s1.heap.push ob).push (rngIt ((n : Int) - 1) n (-1))).objs.size
      rw [List.mem_singleton.mp hb, Heap.size_push (s1.heap.push ob)]; exact Nat.lt_succ_self _
    · refine lay_list (s := s1) I1 (by simp only [rngV, List.length_reverse, List.length_map, List.length_range, sizeLine]; omega) q (by show s1.heap.objs.size ≤ ((s1.heap.push ob).push (rngIt ((n : Int) - 1) n (-1))).objs.size; omega)
        (fun b o e => kp b o (fun z => ?_) (Heap.get?_push_of_some _ (Heap.get?_push_of_some _ e))) ho (vals_get ?_ fun j y v h1 h2 => ?_)
      · rw [List.mem_singleton.mp z] at e
        have := Heap.lt_size e
        rw [z1] at this
        exact absurd this (Nat.not_lt.mpr (Nat.le_succ _))
      · simp only [rngV, List.length_reverse, List.length_map, List.length_range]
        rw [Array.length_toList, hacc.1]
      · have h2' : acc[j]? = some v := by rw [← Array.getElem?_toList]; exact h2
        obtain ⟨t', h3⟩ := hacc.2 j v h2'
        have hj : j < n := by
          have := (Array.getElem?_eq_some_iff.mp h2').1
          rw [hacc.1] at this; exact this
        rw [h3]
        rw [List.getElem?_reverse (by simp only [rngV, List.length_map, List.length_range]; exact hj), rngV, List.getElem?_map] at h1
        obtain ⟨j', h4, h5⟩ := Option.map_eq_some_iff.mp h1
        have h6 := (List.getElem?_eq_some_iff.mp h4).2
        rw [List.getElem_range, List.length_map, List.length_range] at h6
        rw [← h5, ← h6]
        exact ⟨t', by congr 1; omega⟩
def insV (xs : List V) (i : Int) (y : V) : List V := xs.take (if i < 0 then (i + (xs.length : Int)).toNat else min i.toNat xs.length) ++ y :: xs.drop (if i < 0 then (i + (xs.length : Int)).toNat else min i.toNat xs.length)
def rInsert : V → List V → Hp → VK → Prop := fun x vs H Q => ∃ l xs i y, x = .ref l ∧ vs = [.int i, y] ∧ H l = some (.lst xs) ∧ xs.length < sizeLine ∧ -(2 ^ 63) ≤ i ∧ i < 2 ^ 63 ∧ Q .non (upd H l (.lst (insV xs i y)))
theorem mt_insert : MtM X "list.insert" rInsert := by
  intro pins s σ H x vs v us Q I rx rv h
  obtain ⟨l, xs, i, y, rfl, rfl, hH, hz, h1, h2, q⟩ := h
  cases rx
  cases rv with
  | cons ri rv =>
    cases rv with
    | cons ry rv =>
      cases rv
      obtain ⟨t, rfl⟩ := ri
      obtain ⟨z, its, n, r, hl, e⟩ := I.lstM hH
      refine call_meets F.slot_list_insert ⟨_, e, rfl⟩ F.entry_list_insert (F.args_list_insert_3 _ _ _) (AutoSeq1.list_insert_list_int_val_1 l its.toArray n i t _ (by rw [fitsIndex_both h1 h2]; decide) (by rw [List.size_toArray]; omega)) ⟨e, ?_⟩
      refine ⟨.non, _, I.lset (its' := its.take (if i < 0 then (i + (xs.length : Int)).toNat else min i.toNat xs.length) ++ _ :: its.drop (if i < 0 then (i + (xs.length : Int)).toNat else min i.toNat xs.length)) hH e ?_ (r.take _ |>.append (.cons ry (r.drop _))) ?_, rfl, q⟩
      · dsimp only
        rw [List.size_toArray, ← hl]
        apply Array.ext'
        simp
        rw [List.take_of_length_le (by rw [List.length_drop]; omega)]
      · simp only [insV, List.length_append, List.length_cons, List.length_take, List.length_drop]
        omega
def sortI (ns : List Int) : List Int := ns.mergeSort (fun a b => decide (a ≤ b))
def rSorted (K : PySem.W.Frag) : List V → Hp → VK → Prop := fun xs H Q => ∃ p ns, xs = [.ref p] ∧ SqL K H p (ns.map V.int) ∧ ns.length < 64 ∧ ∀ l, H l = none → Q (.ref l) (upd H l (.lst ((sortI ns).map V.int)))
theorem sort_uniq {a b : List Int} (hp : a.Perm b) (h1 : a.Pairwise (· ≤ ·)) (h2 : b.Pairwise (· ≤ ·)) : a = b := hp.eq_of_pairwise (fun a b _ _ h1 h2 => Int.le_antisymm h1 h2) h1 h2
theorem ints_are : ∀ {ns : List Int} {its : List Value}, Vals (ns.map V.int) its → IntsAre its ns
  | [], _, h => by cases h; exact .nil
  | n :: ns, _, h => by
    cases h with
    | cons a b => obtain ⟨t, rfl⟩ := a; exact .cons n t (ints_are b)
theorem are_ints {its : List Value} {ns : List Int} (h : IntsAre its ns) : Vals (ns.map V.int) its := by
  induction h with
  | nil => exact .nil
  | cons n t _ ih => exact .cons ⟨t, rfl⟩ ih
theorem sortI_le (ns : List Int) : (sortI ns).Pairwise (· ≤ ·) := by
  have := List.pairwise_mergeSort (le := fun a b : Int => decide (a ≤ b)) (fun a b c h1 h2 => by simp only [decide_eq_true_eq] at *; omega) (fun a b => by simp only [Bool.or_eq_true, decide_eq_true_eq]; omega) ns
  exact this.imp fun h => by simpa using h
theorem sortI_perm (ns : List Int) : (sortI ns).Perm ns := List.mergeSort_perm _ _
theorem sortI_len (ns : List Int) : (sortI ns).length = ns.length := (sortI_perm ns).length_eq
theorem call_sorted : CallR X (.builtin "sorted") (rSorted X.K) := by
  intro pins s σ H xs us Q I r h
  obtain ⟨p, ns, rfl, hq, hz, q⟩ := h
  cases r with
  | cons rx rr =>
    cases rr
    cases rx
    obtain ⟨its, r', pl, hz'⟩ := I.list hq
    have hl := r'.length
    rw [List.length_map] at hl
    refine sorted_ints pl.isList (ints_are r') (by omega) fun out ns' h1 h2 h3 => ?_
    have e : ns' = sortI ns := sort_uniq (h2.trans (sortI_perm ns).symm) h3 (sortI_le ns)
    subst e
    obtain ⟨c, hat⟩ := sortedAll_at s.heap its out
    exact lay_list (k := s.toks) (acc := out) I (by rw [List.length_map, sortI_len]; simp only [sizeLine]; omega) q (Nat.le_succ _) (fun b o e => sortedAll_old e) hat (are_ints h1)
end
end L2
set_option Elab.async false
set_option linter.all false
set_option maxRecDepth 100000
namespace L2
open PySem PySem.Spec PyProof.Rows
section
variable {prog : Program} {w : World} {A : Around} {E : Value → Shared → Prop} {s : Shared}
theorem pull_list {it t : Addr} {items : Array Value} (hne : t ≠ it) : ∀ (n i : Nat) (s : Shared) (Q : List Value → Shared → Prop), s.heap.IsListIter it t i → s.heap.IsList t items → i + n ≤ items.size →
    (∀ h' : Heap, h'.IsListIter it t (i + n) → Heap.SameBut it s.heap h' → Q ((items.toList.drop i).take n) { s with heap := h' }) → wpAny (model prog w) A (draw (.ref it) n) Q E s
  | 0, i, s, Q, hit, _, _, hQ => by
    show wpAny _ _ (pure []) Q E s
    exact wpAny_pure (by simpa using hQ s.heap hit (Heap.SameBut.refl ..))
  | n + 1, i, s, Q, hit, ht, hle, hQ => by
    have hlt : i < items.size := by omega
    show wpAny _ _ (pyNext (.ref it) >>= _) Q E s
    refine wpAny_bind (wpAny_pyNext_list_item hit ht (x := items[i]) (by simp [hlt]) fun h1 hit1 hs1 => ?_)
    refine wpAny_bind (wpAny_holding (pull_list hne n (i + 1) _ _ hit1 (ht.extBut hs1.extBut hne) (by omega) fun h2 hit2 hs2 => wpAny_pure ?_))
    have hd : items.toList.drop i = items[i] :: items.toList.drop (i + 1) := by simp [List.drop_eq_getElem_cons, hlt]
    have := hQ h2 (by rw [show i + (n + 1) = i + 1 + n by omega]; exact hit2) (hs1.trans hs2)
    rw [hd, List.take_succ_cons] at this
    exact this
theorem unpackItems_lst {t : Addr} {items : Array Value} {Q : List Value → Shared → Prop} (hh : A.handled = none) (ht : s.heap.IsList t items)
    (hQ : ∀ h', Heap.ExtBut s.heap.objs.size s.heap h' → Q items.toList { s with heap := h' }) : wpAny (model prog w) A (unpackItems (.ref t) items.size none) Q E s := by
  have hlt : t ≠ s.heap.objs.size := by obtain ⟨o, ho, _⟩ := ht; exact Nat.ne_of_lt (Heap.lt_size ho)
  unfold unpackItems
  refine wpAny_bind ?_
  · unfold notIterableAtAll
    refine wpAny_bind (wpAny_specialOf ht.typeIs slot_list_iter.lookup ?_)
    refine wpAny_pure ?_
    simp only [Bool.false_eq_true, if_false]
    refine wpAny_bind (wpAny_holding (wpAny_pyIter_list ht ?_))
    refine wpAny_bind (wpAny_holding (pull_list hlt items.size 0 _ _ ⟨_, Heap.get?_push_size _ rfl, rfl, rfl⟩ (ht.push _) (by omega) fun h1 hit1 hs1 => ?_))
    have hall : List.take items.size (List.drop 0 items.toList) = items.toList := by
      rw [List.drop_zero]; exact List.take_of_length_le (by simp)
    rw [hall]
    rw [if_neg (by simp)]
    have ht1 : h1.IsList t items := (ht.push _).extBut hs1.extBut hlt
    refine wpAny_bind (wpAny_holding (wpAny_pyNext_list_end hh hit1 ht1 (by simp) fun h2 he2 => ?_))
    simp only [Option.isSome_none, Bool.false_eq_true, if_false]
    refine wpAny_pure (hQ h2 fun b o hb e => he2 b o hb (hs1.extBut b o hb (Heap.get?_push_of_some _ e)))
theorem assign_Tuple_lst {env : Env} {elts : List Expr} {x1} {pos : Pos} {t : Addr} {items : Array Value} {Q : Unit → Shared → Prop} (hh : A.handled = none) (ht : s.heap.IsList t items)
    (hn : (assignEach elts env).length = items.size) (hstar : (assignEach elts env).findIdx? (·.1) = none)
    (h : ∀ h', Heap.ExtBut s.heap.objs.size s.heap h' → wpAny (model prog w) A (assignInOrder ((assignEach elts env).map (·.2)) items.toList) Q E { s with heap := h' }) :
    wpAny (model prog w) A (assign (.Tuple elts x1 pos) env (.ref t)) Q E s := by
  rw [assign_Tuple]
  refine wpAny_bind (wpAny_standAt ?_)
  unfold unpack
  rw [hn, hstar]
  exact wpAny_bind (wpAny_holding (unpackItems_lst hh ht h))
end
variable {X : Cx}
def gTupL (K : PySem.W.Frag) (n : Nat) (t : TGs) : TG := fun v σ H Q => ∃ a xs, v = .ref a ∧ (SqT K H a xs ∨ SqL K H a xs) ∧ xs.length = n ∧ t xs σ H Q
theorem pg_tupL {es : List Expr} {k : Nat} {pos : Pos} {t : TGs} {n : Nat} (hc : X.calm = true) (h : PGs X es t)
    (hn : (assignEach es X.env).length = n := by rfl) (hst : (assignEach es X.env).findIdx? (·.1) = none := by rfl) : PG X (.Tuple es k pos) (gTupL X.K n t) := by
  intro pins s σ H v u Q I r hw
  obtain ⟨a, xs, e1, hq, hl, hw⟩ := hw
  subst e1
  cases r
  rcases hq with hq | hq
  · obtain ⟨its, rv, ht, hz⟩ := I.tuple hq
    refine assign_Tuple_tuple (I.ok.hd hc) ht (by simp [hn, ← hl, rv.length]) hst fun h' hx => ?_
    have I1 : Inv X pins σ H { s with heap := h' } := I.kept (t' := s.toks) fun b o e => hx b o (Nat.ne_of_lt (Heap.lt_size e)) e
    exact h pins _ σ H xs _ Q I1 (by simpa using rv) hw
  · obtain ⟨its, rv, ht, hz⟩ := I.list hq
    refine assign_Tuple_lst (I.ok.hd hc) ht.isList (by simp [hn, ← hl, rv.length]) hst fun h' hx => ?_
    have I1 : Inv X pins σ H { s with heap := h' } := I.kept (t' := s.toks) fun b o e => hx b o (Nat.ne_of_lt (Heap.lt_size e)) e
    exact h pins _ σ H xs _ Q I1 (by simpa using rv) hw
end L2
set_option Elab.async false
set_option linter.all false
set_option maxRecDepth 100000
namespace L2
open PySem PySem.Spec PyProof.Rows
structure Flown (P : Program) (w : World) (outer : List Env) (H : Hp) (s : Shared) (E : XK) (ea t : Addr) (cls : Value) (B : Heap) (H' : Hp) (s' : Shared) : Prop where
  os : s'.os = s.os
  bare : AllBare s'.gens
  fly : Heap.FlyingW B outer ea cls (.ref t) s'.heap
  keep : ∀ b o, s.heap.get? b = some o → H b = none → b ∉ frs outer → B.get? b = some o
  there : ∀ b o, s.heap.get? b = some o → b ∉ frs outer → ∃ o', B.get? b = some o'
  slot : ∀ b o, s.heap.get? b = some o → b ∈ frs outer → H b = none → ∃ sl, s'.heap.get? b = some { o with slots := sl }
  free : ∀ b o, s.heap.get? b = some o → H b = none → H' b = none
  tups : ∀ b xs, H b = some (.tup xs) → H' b = some (.tup xs)
  frzs : ∀ b o u, H b = some (.frz o u) → H' b = some (.frz o u)
  tbls : ∀ b ps, H b = some (.tbl ps) → ∃ more, H' b = some (.tbl (ps ++ more))
  hok : HOk P w H' B
  wish : E cls none H'
def CXW (P : Program) (w : World) : CXT := fun outer H s E e s' => ∃ ea t cls B H', e = .ref ea ∧ Flown P w outer H s E ea t cls B H' s'
def RaiseOk (X : Cx) (cls : Value) (W : Hp → Prop) : Prop := ∀ (pins : List (Addr × Obj)) (σ : St) (H : Hp) (s : Shared) (e : Addr) (h' : Heap) (vs : List Value), Inv X pins σ H s → Heap.MadeExcOf s.heap h' e cls vs → W H → X.xe (.ref e) { s with heap := h' }
def tRaise (W : Hp → Prop) (t : TA) : TS := fun _ σ H => t σ H fun vs H1 => vs.length ≤ 100 ∧ W H1
theorem exc_obj {K : PySem.W.Frag} {h₀ : Heap} {C : Addr} {bmB : List Value} {newId : String} (X : K.In h₀) (q : PySem.W.excIn K C bmB newId = true) :
    ∃ bm N nm q bs hdct sn sub ab col dd k0 k1 k2 k3 k5 mN, h₀.get? C = some (excClassObj nm q C N bs bm hdct sn sub ab col dd k0 k1 k2 k3 k5 newId) ∧ h₀.Ns N mN ∧ mN "__init__" = none ∧ OwnTail h₀ bmB bm := by
  unfold PySem.W.excIn at q
  split at q
  · rename_i dd cd sl ho
    split at q
    · rename_i C' bm k0 k1 k2 k3 n k5 hm hs
      simp only [Bool.and_eq_true, beq_iff_eq, Bool.not_eq_true'] at q
      obtain ⟨⟨⟨⟨⟨rfl, rfl⟩, hdel⟩, ht⟩, hok⟩, hni⟩ := q
      obtain ⟨nm, bs, mro, ns, qn, hd, sn, sub, ab, col, del⟩ := cd
      dsimp only at hm hdel hok hni
      subst hm hdel
      have hsl : sl = #[k0, k1, k2, k3, some (.builtin n), k5] := by
        obtain ⟨l⟩ := sl
        simp only at hs
        rw [hs]
      subst hsl
      exact ⟨bm, ns, nm, qn, bs, hd, sn, sub, ab, col, dd, k0, k1, k2, k3, k5, _, X _ _ ho, .of_isNs (PySem.W.isNs_of_in X hok), PySem.W.nsMap_none_of_in X hok hni, PySem.W.tail_of_in X ht⟩
    · cases q
  · cases q
section
variable {X : Cx}
theorem ps_raise {x : Str} {C : Addr} {Bn newId initId : String} {bm : List Value} {np cpos pos : Pos} {e : Expr} {es : List Expr} {t : TA} {W : Hp → Prop} (hc : X.calm = true) (hg : Gl X x) (hm : X.mg x = some (.ref C)) (hq : PySem.W.excIn X.K C bm newId = true)
    (FB : ExcBaseFacts Bn newId initId bm) (hx : RaiseOk X (.ref C) W) (ha : PA X (e :: es) t) (hdb : (x == ("__debug__" : Str)) = false := by decide)
    (he : starEach (e :: es) X.env = (false, eval e X.env) :: starEach es X.env := by rfl) (hpl : (backTo cpos (starEach es X.env)).any (·.1) = false := by rfl) :
    PS X (.Raise (some (.Call (.Name x np) (e :: es) [] cpos)) none pos) (tRaise W t) := by
  intro pins s σ H D I h
  obtain ⟨tl, N, nm, q, bs, hdct, sn, sub, ab, col, dd, k0, k1, k2, k3, k5, mN, hC, hN, hni, T⟩ := exc_obj I.mod.kin hq
  refine wpAny_Raise_call_subT (C := C) (nm := nm) (q := q) (N := N) (bs := bs) (bm := tl) (hdct := hdct) (sn := sn) (sub := sub) (ab := ab) (col := col) (dd := dd) (k0 := k0) (k1 := k1) (k2 := k2) (k3 := k3) (k5 := k5)
    FB (mN := mN) (T.hasType FB.hasBase) (I.ok.hd hc) (by rw [he]; show (false || (backTo cpos (starEach es X.env)).any (·.1)) = false; rw [hpl]; rfl) hni (ld_glob I hg hm ⟨rfl, ?_⟩ hdb)
  have hp := ha cpos pins s σ H _ I h
  rw [he] at hp ⊢
  refine Calls.evalArgs_plain (wpAny_mono hp (fun vs s₂ h₂ => ?_) fun _ _ y => y)
  obtain ⟨us, H1, I1, r1, hl, w1⟩ := h₂
  exact ⟨rfl, by rw [← r1.length]; exact Nat.le_trans hl (by simp only [sizeLine]; omega), I1.bk _ _ hC, hN.keeps I1.bk, T.keeps I1.bk, fun h' e' hm' => hx pins σ H1 s₂ e' h' vs I1 hm' w1⟩
theorem raiseOk_leave {P : Program} {w : World} {K : PySem.W.Frag} {mg : Str → Option Value} {base : Heap} {N : List Str} {qual : Str} {scope : Scope} {f : Addr} {cd : Value} {A : Around} {outer : List Env} {s₀ : Shared} {H₀ : Hp} {E : XK} {cls : Value}
    (hk : scope.kind = .function) (hex : (envOfC qual scope s₀.heap.objs.size f cd).frame = some s₀.heap.objs.size) : RaiseOk (cxOf (CXW P w) P w K mg base N qual scope f cd A outer s₀ H₀ E) cls (fun H' => E cls none H') := by
  intro pins σ H s e h' vs I hx hw
  have noA : ∀ b : Addr, b ∉ (cxOf (CXW P w) P w K mg base N qual scope f cd A outer s₀ H₀ E).ex := fun b z => absurd (show b ∈ ([] : List Addr) from z) (by simp)
  have hst := I.stack
  have frL : (cxOf (CXW P w) P w K mg base N qual scope f cd A outer s₀ H₀ E).stack = envOfC qual scope s₀.heap.objs.size f cd :: outer := rfl
  rw [frL] at hst
  have hfr := I.ok.frames
  have hin : ∀ env ∈ (envOfC qual scope s₀.heap.objs.size f cd :: outer), ∀ b, env.frame = some b → b ∈ frs (envOfC qual scope s₀.heap.objs.size f cd :: outer) := fun env he b hb => List.mem_filterMap.mpr ⟨env, he, hb⟩
  have noH : ∀ b ∈ frs (envOfC qual scope s₀.heap.objs.size f cd :: outer), H b = none := fun b hb => I.stkFree b hb
  show wpAny _ _ (leaving _ (.ref e)) _ _ _
  refine wpAny_leaves_madeW (base := PySem.W.hideAll s.heap (frs (envOfC qual scope s₀.heap.objs.size f cd :: outer))) hfr hex (fun b o q => PySem.W.of_hideAll _ q) (PySem.W.funFrames_hide hst hin) hx fun h2 t x1 x2 x3 x4 => ?_
  have sub : ∀ b ∈ frs outer, b ∈ frs (envOfC qual scope s₀.heap.objs.size f cd :: outer) := fun b hb => by
    obtain ⟨env, he, hf⟩ := List.mem_filterMap.mp hb
    exact hin env (List.mem_cons_of_mem _ he) b hf
  have out : ∀ b o, s₀.heap.get? b = some o → b ∉ frs outer → b ∉ frs (envOfC qual scope s₀.heap.objs.size f cd :: outer) := fun b o q hb hm => by
    obtain ⟨env, he, hf⟩ := List.mem_filterMap.mp hm
    rcases List.mem_cons.mp he with rfl | he
    · rw [hex] at hf
      cases hf
      exact absurd (Heap.lt_size q) (Nat.lt_irrefl _)
    · exact hb (List.mem_filterMap.mpr ⟨env, he, hf⟩)
  refine ⟨e, t, cls, _, H, rfl, ⟨I.os, I.bare, x1, fun b o q n hb => ?_, fun b o q hb => ?_, fun b o q hb n => ?_, fun b o q n => ?_, I.base.tups, I.base.frzs, I.base.tbls, fun b u q => ?_, hw⟩⟩
  · exact PySem.W.hideAll_get _ (I.base.keep b o q n hb (noA b)) (out b o q hb)
  · obtain ⟨o', q'⟩ := I.base.there b o q (noA b)
    exact ⟨o', PySem.W.hideAll_get _ q' (out b o q hb)⟩
  · obtain ⟨sl, q'⟩ := I.base.slot b o q n hb (noA b)
    obtain ⟨_, o2, q2, hd⟩ := hst.mem (sub b hb)
    rw [q'] at q2
    cases q2
    obtain ⟨sl', q3⟩ := x4 b _ (hx.keeps b _ q') hd
    exact ⟨sl', q3⟩
  · exact I.base.free b o q n (noA b)
  · refine (I.hok b u q).stay (fun c v hc q' => PySem.W.hideAll_get _ q' fun hm => ?_) (fun _ q' => q') fun _ _ q' => q'
    have hn := noH c hm
    rcases hc with z | z
    · rw [z, q] at hn; cases hn
    · rw [z] at hn; cases hn
theorem goes_ok {M : Model} {A : Around} {E : Value → Shared → Prop} {pins : List (Addr × Obj)} {σ : St} {H : Hp} {s : Shared} {i : Nat} {x : Str} {pos : Pos} {Q : Unit → Shared → Prop} (I : Inv X pins σ H s) (hN : X.N.Nodup) (hi : X.N[i]? = some x) (hk : X.env.scope.names.lookup x = some .local)
    (h : ∀ s', Inv X pins (σ.set i none) H s' → Q () s') : wpAny M A (do bindName X.env x .none; unbindBehindTheSuite X.env x pos) Q E s := by
  obtain ⟨m, hn, hl⟩ := id I.loc
  have hk' : X.env.kindOf x = some .local := hk
  have hcls : (X.env.scope.kind == .class || (X.env.scope.kind == .module && X.env.locals != X.env.globals)) = false := by rw [I.ok.kind]; rfl
  have hiσ : i < σ.length := by rw [I.len]; exact (List.getElem?_eq_some_iff.mp hi).1
  have cne := I.cne
  refine wpAny_bind (wpAny_bindName (wpAny_storeName_local hk' hn (fun h₁ hn₁ hs₁ => ?_) hcls))
  unfold unbindBehindTheSuite
  refine wpAny_onRaise ?_
  unfold unbindName
  refine wpAny_bind (wpAny_point (wpAny_bind ?_))
  unfold deleteName
  simp only [hk', hcls]
  rw [if_neg (by decide)]
  refine wpAny_bind (wpAny_nsDel_keeps hn₁ fun h₂ v hn₂ hs₂ => ?_)
  simp only [if_true, Option.isSome_some, Bool.not_true, Bool.false_eq_true, if_false]
  have hs : Heap.SameBut X.env.locals s.heap h₂ := hs₁.trans hs₂
  obtain ⟨oL, _, _, hoL, _⟩ := id hn
  refine wpAny_pure (wpAny_point (h _ ⟨I.ok, I.os, I.bare, ⟨fun b o e n hb hx => ?_, fun b o e n hb hx => ?_, I.base.free, fun b o e hx => ?_, I.base.tups, I.base.frzs, I.base.tbls⟩, ⟨_, hn₂, fun j y v' e1 e2 e3 => ?_⟩, fun y c e => ?_, I.free, I.freeC, fun p hp => ?_, fun b ob e => ?_, by simpa using I.len⟩))
  · exact (hs.2 b (Nat.ne_of_lt (Nat.lt_of_lt_of_le (Heap.lt_size e) I.ok.above))).trans (I.base.keep b o e n hb hx)
  · obtain ⟨sl, e1⟩ := I.base.slot b o e n hb hx
    exact ⟨sl, (hs.2 b (Nat.ne_of_lt (Nat.lt_of_lt_of_le (Heap.lt_size e) I.ok.above))).trans e1⟩
  · obtain ⟨o', e1⟩ := I.base.there b o e hx
    exact ⟨o', (hs.2 b (Nat.ne_of_lt (Nat.lt_of_lt_of_le (Heap.lt_size e) I.ok.above))).trans e1⟩
  · by_cases hj : j = i
    · subst hj
      rw [List.getElem?_set_self hiσ] at e2
      cases e2
    · rw [List.getElem?_set_ne (Ne.symm hj)] at e2
      obtain ⟨u', r', q⟩ := hl j y v' e1 e2 e3
      refine ⟨u', r', ?_⟩
      rcases q with ⟨k, e⟩ | ⟨k, c, e, z⟩
      · refine .inl ⟨k, ?_⟩
        have : y ≠ x := fun e => hj (nodup_ix hN e1 (e ▸ hi))
        simp [this, e]
      · exact .inr ⟨k, c, e, z.sameBut hs (cne y c e)⟩
  · obtain ⟨w', z⟩ := I.cell y c e
    exact ⟨w', z.sameBut hs (cne y c e)⟩
  · obtain ⟨e, n, ne, nf, d⟩ := I.pin p hp
    exact ⟨(hs.2 p.1 ne).trans e, n, ne, nf, d⟩
  · refine (I.hok b ob e).stay (fun c w' hc q => (hs.2 c ?_).trans q) (fun _ q => q) fun _ _ q => q
    rintro rfl
    rcases hc with rfl | hc
    · rw [I.free] at e; cases e
    · rw [I.free] at hc; cases hc
theorem ObjOk.is {P : Program} {w : World} {H : Hp} {h : Heap} {a : Addr} {o : HO} (x : ObjOk P w H h a o) : ∃ u, h.get? a = some u := by
  induction o with
  | lst xs => obtain ⟨z, its, n, r, e⟩ := x; exact ⟨_, e⟩
  | tup xs => obtain ⟨z, its, r, ob, e, c⟩ := x; exact ⟨_, e⟩
  | dK kvs => obtain ⟨z, y, vs, r, ob, es, ep, e, c⟩ := x; exact ⟨_, e⟩
  | dT kvs => obtain ⟨z, y, xs, r, ob, es, ep, e, c⟩ := x; exact ⟨_, e⟩
  | set S n => obtain ⟨ob, es, ep, t, e, c⟩ := x; exact ⟨_, e⟩
  | ins C dx fs => obtain ⟨_, _, _, e, _⟩ := x; exact ⟨_, e⟩
  | own _ => exact x
  | xd fs => obtain ⟨_, ⟨_, _, _, e, _⟩, _⟩ := x; exact ⟨_, e⟩
  | rng lo hi => obtain ⟨_, _, _, e⟩ := x; exact ⟨_, e⟩
  | frz ob u => obtain ⟨e, _⟩ := x; exact ⟨_, e⟩
  | tbl ps => exact ⟨_, x⟩
  | met f y => exact ⟨_, x⟩
  | ext φ => obtain ⟨_, e, _⟩ := x; exact e
theorem Flown.inv {pins : List (Addr × Obj)} {σ : St} {H H' : Hp} {s s' : Shared} {E : XK} {ea t : Addr} {cls : Value} {B h2 : Heap} (fl : Flown X.prog X.w X.stack H s E ea t cls B H' s') (I : Inv X pins σ H s) (f2 : Heap.FlyingW B X.stack ea cls (.ref t) h2) (sm : s'.heap.UpToSlots h2) :
    Inv X pins σ H' { s' with heap := h2 } := by
  refine I.call' (ch := []) fl.os ⟨fun b o q n hb _ => f2.1 b o (fl.keep b o q n hb), fun b o q n hb _ => ?_, fun b o q n _ => fl.free b o q n, fun b o q _ => ?_, fl.tups, fl.frzs, fl.tbls⟩ (fl.hok.kept f2.1) fl.bare (fun b z => absurd z (by simp))
  · obtain ⟨sl, q1⟩ := fl.slot b o q hb n
    obtain ⟨_, o2, q2, hd⟩ := fl.fly.2.2.1.mem hb
    rw [q1] at q2
    cases q2
    obtain ⟨sl', q3⟩ := sm b _ q1 hd
    exact ⟨sl', q3⟩
  · by_cases hb : b ∈ frs X.stack
    · obtain ⟨sl, q1⟩ := fl.slot b o q hb (I.stkFree b hb)
      obtain ⟨_, o2, q2, hd⟩ := fl.fly.2.2.1.mem hb
      rw [q1] at q2
      cases q2
      obtain ⟨sl', q3⟩ := sm b _ q1 hd
      exact ⟨_, q3⟩
    · obtain ⟨o', q1⟩ := fl.there b o q hb
      exact ⟨o', f2.1 b o' q1⟩
end
def Cx.mkd (X : Cx) (e : Addr) : Cx := { X with A := X.A.mark (some (.ref e)), calm := false, xe := fun _ _ => False }
def Cx.inX (X : Cx) (e : Addr) (oe : Obj) : Cx := { X with A := X.A.mark (some (.ref e)), calm := false, pn := (e, oe) :: X.pn, xe := fun _ _ => False }
section
variable {X : Cx} {pins : List (Addr × Obj)} {σ : St} {H : Hp} {s : Shared} {e : Addr} {oe : Obj}
theorem Cx.Ok.mkd (ok : X.Ok) : (X.mkd e).Ok := ⟨ok.mod, ok.kind, ok.glob, ok.blt, ok.above, ok.inj, ok.has, ok.cab, fun h => absurd (show false = true from h) Bool.false_ne_true, ok.frames, ok.stk, ok.exf, ok.bs, ok.bsz, ok.noex, ok.exfs, ok.funs, ok.frf⟩
theorem Inv.mkd (I : Inv X pins σ H s) : Inv (X.mkd e) pins σ H s := ⟨I.ok.mkd, I.os, I.bare, I.base, I.loc, I.cell, I.free, I.freeC, I.pin, I.hok, I.len⟩
theorem Cx.Ok.inX (ok : X.Ok) : (X.inX e oe).Ok := ⟨ok.mod, ok.kind, ok.glob, ok.blt, ok.above, ok.inj, ok.has, ok.cab, fun h => absurd (show false = true from h) Bool.false_ne_true, ok.frames, ok.stk, ok.exf, ok.bs, ok.bsz, ok.noex, ok.exfs, ok.funs, ok.frf⟩
theorem Inv.inX (I : Inv X pins σ H s) (h1 : s.heap.get? e = some oe) (h2 : H e = none) (h3 : e ≠ X.env.locals) (h4 : e ∉ X.fs) (h5 : ∀ v, oe.data ≠ .cell v) : Inv (X.inX e oe) pins σ H s :=
  ⟨I.ok.inX, I.os, I.bare, I.base, I.loc, I.cell, I.free, I.freeC, fun p hp => by
    rcases List.mem_cons.mp (show p ∈ (e, oe) :: (X.pn ++ pins) from hp) with rfl | hp
    · exact ⟨h1, h2, h3, h4, h5⟩
    · exact I.pin p hp, I.hok, I.len⟩
theorem Inv.outX (ok : X.Ok) (I : Inv (X.inX e oe) pins σ H s) : Inv X pins σ H s :=
  ⟨ok, I.os, I.bare, I.base, I.loc, I.cell, I.free, I.freeC, fun p hp => I.pin p (show p ∈ (e, oe) :: (X.pn ++ pins) from List.mem_cons_of_mem _ hp), I.hok, I.len⟩
def Ends.drop (D : Ends) (i : Nat) : Ends := { nx := fun σ H => D.nx (σ.set i none) H, rt := D.rt, bk := fun σ H => D.bk (σ.set i none) H, ct := fun σ H => D.ct (σ.set i none) H }
def tTryX (sp : Sp) (t : TA) (i : Nat) (ok : Value → Prop) (th : Value → Addr → TS) : TS := fun D σ H => t σ H fun vs H1 => sp vs H1 (fun _ H2 => D.nx σ H2) (fun cls _ H2 => ok cls ∧ ∀ e : Addr, H2 e = none → th cls e (D.drop i) (σ.set i (some (.ref e))) H2)
theorem ps_tryX {k : Nat} {f C : Addr} {fd : FuncData} {ps : List Str} {sp : Sp} {x xC n : Str} {p np pos pos' epos hpos : Pos} {a : Expr} {es : List Expr} {t : TA} {i : Nat} {ok : Value → Prop} {th : Value → Addr → TS} {b₀ : Stmt} {suite : List Stmt}
    (hxe : X.xe = fun _ _ => False) (F : FnOk X.prog X.w X.K X.mg X.base (CXW X.prog X.w) k f fd ps sp) (hr : Room k X.A) (hg : Gl X x) (hm : X.mg x = some (.ref f)) (hk : PySem.W.keepIn X.K (.ref f) = true) (hb : Binds X.K fd ps []) (ha : PA X (a :: es) t)
    (hst : X.stack = X.env :: X.outer) (hfr : X.env.frame = some X.env.locals) (hgC : Gl X xC) (hmC : X.mg xC = some (.ref C)) (hex : ∀ cls, ok cls → PySem.W.exmOne X.K cls (.ref C) = some true)
    (hN : X.N.Nodup) (hi : X.N[i]? = some n) (hln : X.env.scope.names.lookup n = some .local) (hS : ∀ (cls : Value) (e : Addr) (oe : Obj), oe.cls = cls → ok cls → PSs (X.inX e oe) (b₀ :: suite) (th cls e))
    (hdb : (x == ("__debug__" : Str)) = false := by decide) (hdC : (xC == ("__debug__" : Str)) = false := by decide) (he : starEach (a :: es) X.env = (false, eval a X.env) :: starEach es X.env := by rfl) (hpl : (backTo pos' (starEach es X.env)).any (·.1) = false := by rfl)
    (hs : swapsWith (.Call (.Name x p) (a :: es) [] pos') none epos.line X.env = pure false := by rfl) :
    PS X (.Try [.Expr (.Call (.Name x p) (a :: es) [] pos') epos] [.ExceptHandler (some (.Name xC np)) (some n) (b₀ :: suite) hpos] [] [] pos) (tTryX sp t i ok th) := by
  intro pins s σ H D I h
  refine wpAny_Try_except ?_
  refine wpAny_execs_cons (wpAny_Expr_any ?_ I.quiet hs)
  refine wpAny_Call_Name_kw (ld_glob I hg hm ?_ hdb)
  refine PySem.W.callWith_K (h₀ := X.base) I.ok.mod.kin hk (wpAny_mono (ha pos' pins s σ H _ I h) (fun us s1 ⟨vs, H1, I1, r, q⟩ => ⟨I1.kIn, ?_⟩) (fun _ _ z => by rw [hxe] at z; exact z.elim)) he hpl
  have hl : us.length = ps.length := by rw [← r.length]; exact F.len _ _ _ _ q
  have hbt := hb s1 us I1.kIn (by rw [List.append_nil]; exact hl)
  rw [List.append_nil] at hbt
  refine wpAny_call (codeAny_mono (F.run X.A X.stack s1 H1 ⟨us, []⟩ us vs _ _ hr I1.env0 hbt r q) fun r s' hq => ?_)
  cases r with
  | ok fl =>
    cases fl with
    | ret u =>
      obtain ⟨v, H2, I2, rv, q2⟩ := I1.after hq
      exact wpAny_execs_nil (wpAny_execs_nil ⟨σ, H2, I2, q2⟩)
    | next => exact False.elim hq
    | brk => exact False.elim hq
    | cont => exact False.elim hq
  | error ev =>
    obtain ⟨ea, t', cls, B, H2, rfl, fl⟩ := hq
    obtain ⟨okc, hth⟩ := fl.wish
    have fly := fl.fly
    rw [hst] at fly
    refine wpAny_looks_onW (by rw [I.ok.frames, hst]) hfr fly fun h4 held4 sm4 => ?_
    refine wpAny_landsW held4 fun h5 fly5 sm5 => ?_
    have sm : s'.heap.UpToSlots h5 := sm4.trans sm5
    have I5 : Inv X pins σ H2 { s' with heap := h5 } := fl.inv I1 (by rw [hst]; exact fly5) sm
    have I5m := I5.mkd (e := ea)
    refine wpAny_handleBy_cons (codeAny_handlers_test (ld_glob I5m hgC hmC ?_ hdC)) (by intro q; cases q)
    have LT : PySem.W.Looks (model X.prog X.w) h5 (typeOf (.ref ea)) cls := by
      obtain ⟨ob, hob, hobc⟩ := fly5.there
      exact hobc ▸ (PySem.W.Looks.ld hob).andThen .now
    refine (PySem.W.exm_one I5.kIn LT (hex cls okc)) _ _ _ _ (fun _ _ z => z) ?_
    refine codeAny_handlers_suite_as ?_
    refine lands_againW fly5 fun h6 fly6 sm6 => ?_
    have I6 : Inv X pins σ H2 { s' with heap := h6 } := fl.inv I1 (by rw [hst]; exact fly6) (sm.trans sm6)
    obtain ⟨oe, ws, hoe, hoec, hoed, _⟩ := fly6.first
    have hHe : H2 ea = none := by
      cases z : H2 ea with
      | none => rfl
      | some u =>
        obtain ⟨o', q'⟩ := (fl.hok ea u z).is
        rw [fly6.2.1] at q'
        cases q'
    have nfr : ea ∉ frs (X.env :: X.outer) := fun hm' => by
      obtain ⟨_, o', q', hd⟩ := fly6.2.2.1.mem hm'
      rw [hoe] at q'
      cases q'
      exact hd ws hoed
    have I6x : Inv (X.inX ea oe) pins σ H2 { s' with heap := h6 } := I6.inX hoe hHe (fun z => nfr (List.mem_filterMap.mpr ⟨X.env, List.mem_cons_self, by rw [hfr, z]⟩)) (fun z => nfr (by
      obtain ⟨env, he', hf'⟩ := List.mem_filterMap.mp z
      exact List.mem_filterMap.mpr ⟨env, List.mem_cons_of_mem _ he', hf'⟩)) (fun v z => by rw [hoed] at z; cases z)
    refine store_ok (X := X.inX ea oe) I6x hN hi (.inl hln) (v := .ref ea) rfl (fun s7 I7 => ?_) (.inr hln)
    refine wpAny_mono (hS cls ea oe hoec okc pins s7 _ H2 (D.drop i) I7 (hth ea hHe)) (fun fl' s8 q8 => ?_) (fun _ _ z => z.elim)
    cases fl' with
    | next =>
      obtain ⟨σ8, H8, I8, q8⟩ := q8
      exact goes_ok (I8.outX I.ok) hN hi hln fun s9 I9 => ⟨_, H8, I9, q8⟩
    | brk =>
      obtain ⟨σ8, H8, I8, q8⟩ := q8
      exact goes_ok (I8.outX I.ok) hN hi hln fun s9 I9 => ⟨_, H8, I9, q8⟩
    | cont =>
      obtain ⟨σ8, H8, I8, q8⟩ := q8
      exact goes_ok (I8.outX I.ok) hN hi hln fun s9 I9 => ⟨_, H8, I9, q8⟩
    | ret u =>
      obtain ⟨v8, σ8, H8, I8, r8, q8⟩ := q8
      exact goes_ok (I8.outX I.ok) hN hi hln fun s9 I9 => ⟨v8, _, H8, I9, r8, q8⟩
end
end L2
set_option Elab.async false
set_option linter.all false
set_option maxRecDepth 100000
namespace L2
open PySem PySem.Spec PyProof.Rows PySem.W Builtin Builtin.ObjectAttr Builtin.Getset_descriptor
section
variable {prog : Program} {w : World} {A : Around} {E : Value → Shared → Prop} {K : PySem.W.Frag} {a D : Addr} {o : Obj} {h : Heap} {g : Array GenState} {d : Drawn} {t : Nat} {os : OsState}
structure ExcK (K : PySem.W.Frag) (D : Addr) : Prop where
  ga : findIn K (.ref D) "__getattribute__" = some (some (.builtin "BaseException.__getattribute__"))
  gn : findIn K (.ref D) "__getattr__" = some none
  ca : findIn K (.ref D) "__class__" = some (some (.builtin "object.__class__"))
  sub : subIn K (.ref D) (.type "BaseException") = some true
  mro : mroIn K D (.type "object") = some true
  gs : specialIn K (.builtin "object.__class__") "__get__" = some (some (.builtin "getset_descriptor.__get__"))
  tk : takesIn K (.builtin "object.__class__") = some true
  cls : (clsIn K D).isSome = true
theorem exc_type (hx : h.get? a = some o) (hc : o.cls = .ref D) (M : Model) : Looks M h (typeOf (.ref a)) (.ref D) := hc ▸ (Looks.ld hx).andThen .now
theorem exc_class_get {R : Result → Shared → Prop} {tp : Value} (X : K.In h) (hx : h.get? a = some o) (hc : o.cls = .ref D) (Z : ExcK K D) (hq : R (.ok (.ret (.ref D))) ⟨h, g, d, t, os⟩) :
    codeAny (model prog w) A (.call (.builtin "getset_descriptor.__get__") ⟨[.builtin "object.__class__", .ref a, tp], []⟩) R ⟨h, g, d, t, os⟩ := by
  have L0 := exc_type hx hc (model prog w)
  have L1 := looks_mroIn (M := model prog w) X Z.mro
  refine codeAny_call_builtin KF.slot_gs.plain KF.entry_gs (KF.slot_gs.check _ _ _ _ _ _ _ _ KF.type_class (KF.args_gs _ _ _) ?_)
  unfold Builtin.«getset_descriptor.__get__» descrGet
  rw [dga_obj]
  refine wpAny_bind (wpAny_pure ?_)
  unfold descrGetter descrCheckInstance descrNameAndClass isInstance
  simp only [KF.owner_class]
  repeat lk
  refine ⟨Code.quiet_builtin _ (by decide +kernel), codeAny_builtin KF.entry_class ?_⟩
  unfold Builtin.«object.__class__» shownTypeOf
  repeat lk
  exact hq
theorem exc_class_entry {tk : Tok} {Q : PySem.Fin → Shared → Prop} (X : K.In h) (hx : h.get? a = some o) (hc : o.cls = .ref D) (Z : ExcK K D) (hq : Q (.done (.ret (.ref D))) ⟨h, g, d, t, os⟩) :
    wpAny (model prog w) A (Builtin.«object.__getattribute__» ⟨[.ref a, .str "__class__" tk], []⟩) Q E ⟨h, g, d, t, os⟩ := by
  have L0 := exc_type hx hc (model prog w)
  have L2 := looks_findIn (M := model prog w) X Z.ca
  have L3 := looks_specialIn (M := model prog w) X Z.gs
  have L4 := looks_takesIn (M := model prog w) X Z.tk
  unfold Builtin.«object.__getattribute__» find
  repeat (first | with_reducible refine wpAny_call (exc_class_get X hx hc Z ?_) | lk)
  exact hq
theorem exc_class_attr {Q : Option Value → Shared → Prop} (X : K.In h) (hx : h.get? a = some o) (hc : o.cls = .ref D) (Z : ExcK K D) (hq : Q (some (.ref D)) ⟨h, g, d, t + 1, os⟩) :
    wpAny (model prog w) A (getAttr? (.ref a) "__class__") Q E ⟨h, g, d, t, os⟩ := by
  have L0 := exc_type hx hc (model prog w)
  have L1 := looks_findIn (M := model prog w) X Z.ga
  have L2 := looks_findIn (M := model prog w) X Z.gn
  unfold getAttr? getAttrBy? getAttrBy
  refine wpAny_bind (wpAny_mkText (wpAny_bind (wpAny_attempt (wpAny_holding (wpAny_bind (L0.at (wpAny_bind (L1.at ?_))))))))
  show wpAny _ _ (getAttrByItsOwn _ _ _ _ _ _) _ _ _
  unfold getAttrByItsOwn hookBefore
  rw [if_pos (show onTheHeap (Value.ref D) = true from rfl)]
  refine wpAny_bind (L2.at ?_)
  have hck : ∀ {Q' : Unit → Shared → Prop} {E' : Value → Shared → Prop} {A' : Around} {nv : Value} {t' : Nat}, Q' () ⟨h, g, d, t', os⟩ → wpAny (model prog w) A' (checkBuiltinCall "BaseException.__getattribute__" ⟨[.ref a, nv], []⟩) Q' E' ⟨h, g, d, t', os⟩ := fun {Q' E' A' nv t'} q' => by
    have L5 := looks_subIn (M := model prog w) X Z.sub
    have hk : builtinKind "BaseException.__getattribute__" = some .slot := by decide +kernel
    have hsplit : splitId "BaseException.__getattribute__" = some ("BaseException", "__getattribute__") := by decide +kernel
    have ha := F.args_bexc_ga (.ref a) nv
    have LI : Looks (model prog w) h (isInstance (.ref a) (.type "BaseException")) true := L0.andThen L5
    simp only [checkBuiltinCall, hk, hsplit]
    refine wpAny_bind ?_
    repeat (first | with_reducible refine Looks.at (by assumption) ?_ | wp_step)
    exact q'
  have f3 := F.attr_ValueError.ga.bind (.ref a)
  refine wpAny_bind (wpAny_attempt (wpAny_holding ?_))
  show wpAny _ _ (boundAndCalled _ _ _) _ _ _
  unfold boundAndCalled
  rw [f3]
  refine wpAny_bind (wpAny_pure ?_)
  refine wpAny_call (codeAny_call_builtin F.attr_ValueError.ga.plain F.entry_bexc_ga (hck (exc_class_entry X hx hc Z ?_)))
  exact handed_on rfl (wpAny_pure hq)
theorem kitx_exc (Z : ExcK K D) (hc : o.cls = .ref D) : KitX K (.ref a) (.ref D) (fun h => h.get? a = some o) where
  ty := fun M _ _ hx => exc_type hx hc M
  it := fun _ _ X _ => by
    obtain ⟨cd, hcd⟩ := Option.isSome_iff_exists.mp Z.cls
    unfold clsIn at hcd
    split at hcd
    · rename_i c' d' cd' sl' ho
      intro A' Q' E' s' k q
      unfold isType loadHead
      exact wpAny_bind (wpAny_loadPart (k _ _ (X _ _ ho)) (wpAny_pure q))
    · cases hcd
  ne := fun h tp dd its n sl X htp => by
    obtain ⟨cd, hcd⟩ := Option.isSome_iff_exists.mp Z.cls
    refine Bool.eq_false_iff.mpr fun q => ?_
    have e : D = tp := Value.ref.inj (beq_iff_eq.mp q)
    subst e
    unfold clsIn at hcd
    split at hcd
    · rename_i c' d' cd' sl' ho
      have z := (X _ _ ho).symm.trans htp
      cases z
    · cases hcd
  ca := fun {_ _ _ _ _ s} X hx k => by
    obtain ⟨h, g, d, t, os⟩ := s
    exact exc_class_attr X hx hc Z k
end
section
variable {X : Cx} {e : Addr} {oe : Obj} {D : Addr}
def rIsiX (K : PySem.W.Frag) (e D : Addr) : List V → Hp → VK → Prop := fun vs H Q =>
  (∃ c cv b, vs = [.ref e, c] ∧ (∀ u, RelV c u → u = cv) ∧ kitOne K (.ref D) cv = some b ∧ Q (.bl b) H) ∨
  (∃ tp cs cvs b, vs = [.ref e, .ref tp] ∧ H tp = some (.tup cs) ∧ (∀ us, Vals cs us → us = cvs) ∧ kitAny K (.ref D) cvs = some b ∧ Q (.bl b) H)
theorem call_isiX (hp : (e, oe) ∈ X.pn) (hc : oe.cls = .ref D) (Z : ExcK X.K D) : CallR X (.builtin "isinstance") (rIsiX X.K e D) := by
  intro pins s σ H vs us Q I r h
  have hx := (I.pin (e, oe) (List.mem_append_left _ hp)).1
  rcases h with ⟨c, cv, b, rfl, hcv, hk, q⟩ | ⟨tp, cs, cvs, b, rfl, ht, hcv, hk, q⟩
  · cases r with
    | cons r1 r =>
      cases r with
      | cons r2 r =>
        cases r
        obtain rfl := r1
        obtain rfl := hcv _ r2
        exact kia_one (kitx_exc (a := e) Z hc) I.kIn hx hk (by intro z; cases z) fun tk => ⟨.bl b, H, I.tok tk, rfl, q⟩
  · cases r with
    | cons r1 r =>
      cases r with
      | cons r2 r =>
        cases r
        obtain rfl := r1
        obtain rfl := r2
        obtain ⟨z, its, rv, ob, eo, ec, n, ed⟩ := I.hok tp _ ht
        obtain rfl := hcv _ rv
        obtain ⟨oc, od, odt, osl⟩ := ob
        dsimp only at ec ed
        subst ec ed
        exact kia_tup (kitx_exc (a := e) Z hc) I.kIn hx eo hk (by intro z; cases z) fun tk => ⟨.bl b, H, I.tok tk, rfl, q⟩
end
end L2
set_option Elab.async false
set_option linter.all false
set_option maxRecDepth 100000
namespace Mir
open PySem L2
class Zc where
  e : Addr
instance (priority := 10) zc0 : Zc := ⟨0⟩
variable [Zc]
noncomputable def cIf {α : Type} (c : Prop) (a b : α) : α := @ite α c (Classical.propDecidable c) a b
theorem cIf_pos {α : Type} {c : Prop} {a b : α} (h : c) : cIf c a b = a := by unfold cIf; rw [if_pos h]
theorem cIf_neg {α : Type} {c : Prop} {a b : α} (h : ¬ c) : cIf c a b = b := by unfold cIf; rw [if_neg h]
theorem cIf_eq {α : Type} {c : Prop} {a : Option α} {x : α} (h : cIf c a none = some x) : c ∧ a = some x := by
  by_cases hc : c
  · rw [cIf_pos hc] at h; exact ⟨hc, h⟩
  · rw [cIf_neg hc] at h; cases h
abbrev D := PyData
def KeyD : Key → D → Prop
  | .inl i, c => c = .int i
  | .inr x, c => c = .str x
mutual
inductive Rep (H : Hp) : V → D → Prop
  | non : Rep H .non .none
  | bl (b : Bool) : Rep H (.bl b) (.bool b)
  | int (i : Int) : Rep H (.int i) (.int i)
  | str (x : Str) : Rep H (.str x) (.str x)
  | lst {a : Addr} {xs : List V} {ds : List D} : Rd H a (.lst xs) → Reps H xs ds → Rep H (.ref a) (.list ds)
  | tup {a : Addr} {xs : List V} {ds : List D} : H a = some (.tup xs) → Reps H xs ds → Rep H (.ref a) (.tuple ds)
  | dct {a : Addr} {kvs : List (Key × V)} {es : List (D × D)} : Rd H a (.dK kvs) → RepKs H kvs es → Rep H (.ref a) (.dict es)
inductive Reps (H : Hp) : List V → List D → Prop
  | nil : Reps H [] []
  | cons {x : V} {xs : List V} {d : D} {ds : List D} : Rep H x d → Reps H xs ds → Reps H (x :: xs) (d :: ds)
inductive RepKs (H : Hp) : List (Key × V) → List (D × D) → Prop
  | nil : RepKs H [] []
  | cons {k : Key} {x : V} {kvs : List (Key × V)} {c d : D} {es : List (D × D)} : KeyD k c → Rep H x d → RepKs H kvs es → RepKs H ((k, x) :: kvs) ((c, d) :: es)
end
theorem rd_same {H H' : Hp} (e : Same H H') {a : Addr} {u : HO} (h : Rd H a u) : Rd H' a u := by
  rcases h with h | ⟨o, h⟩
  · exact .inl (e _ _ h)
  · exact .inr ⟨o, e _ _ h⟩
mutual
theorem Rep.mono {H H' : Hp} (e : Same H H') : ∀ {v : V} {d : D}, Rep H v d → Rep H' v d
  | _, _, .non => .non
  | _, _, .bl b => .bl b
  | _, _, .int i => .int i
  | _, _, .str x => .str x
  | _, _, .lst h r => .lst (rd_same e h) (Reps.mono e r)
  | _, _, .tup h r => .tup (e _ _ h) (Reps.mono e r)
  | _, _, .dct h r => .dct (rd_same e h) (RepKs.mono e r)
theorem Reps.mono {H H' : Hp} (e : Same H H') : ∀ {v : List V} {d : List D}, Reps H v d → Reps H' v d
  | _, _, .nil => .nil
  | _, _, .cons a b => .cons (Rep.mono e a) (Reps.mono e b)
theorem RepKs.mono {H H' : Hp} (e : Same H H') : ∀ {v : List (Key × V)} {d : List (D × D)}, RepKs H v d → RepKs H' v d
  | _, _, .nil => .nil
  | _, _, .cons k a b => .cons k (Rep.mono e a) (RepKs.mono e b)
end
theorem Reps.length {H : Hp} : ∀ {v : List V} {d : List D}, Reps H v d → v.length = d.length
  | _, _, .nil => rfl
  | _, _, .cons _ b => by simp [Reps.length b]
theorem Reps.get {H : Hp} : ∀ {v : List V} {d : List D} (i : Nat), Reps H v d → ∀ c, d[i]? = some c → ∃ x, v[i]? = some x ∧ Rep H x c
  | _, _, _, .nil, c, e => by simp at e
  | _, _, 0, .cons a _, c, e => by simp at e; subst e; exact ⟨_, rfl, a⟩
  | _, _, i + 1, .cons _ b, c, e => by
    obtain ⟨x, h1, h2⟩ := Reps.get i b c (by simpa using e)
    exact ⟨x, by simpa using h1, h2⟩
theorem Reps.append {H : Hp} : ∀ {v w : List V} {d c : List D}, Reps H v d → Reps H w c → Reps H (v ++ w) (d ++ c)
  | _, _, _, _, .nil, r => r
  | _, _, _, _, .cons a b, r => .cons a (Reps.append b r)
theorem Reps.take {H : Hp} : ∀ {v : List V} {d : List D} (n : Nat), Reps H v d → Reps H (v.take n) (d.take n)
  | _, _, 0, _ => .nil
  | _, _, _ + 1, .nil => .nil
  | _, _, n + 1, .cons a b => .cons a (Reps.take n b)
theorem Reps.drop {H : Hp} : ∀ {v : List V} {d : List D} (n : Nat), Reps H v d → Reps H (v.drop n) (d.drop n)
  | _, _, 0, r => r
  | _, _, _ + 1, .nil => .nil
  | _, _, n + 1, .cons _ b => Reps.drop n b
theorem Reps.set {H : Hp} {x : V} {c : D} (r : Rep H x c) : ∀ {v : List V} {d : List D} (i : Nat), Reps H v d → Reps H (v.set i x) (d.set i c)
  | _, _, _, .nil => .nil
  | _, _, 0, .cons _ b => .cons r b
  | _, _, i + 1, .cons a b => .cons a (Reps.set r i b)
theorem Reps.eraseIdx {H : Hp} : ∀ {v : List V} {d : List D} (i : Nat), Reps H v d → Reps H (v.eraseIdx i) (d.eraseIdx i)
  | _, _, _, .nil => .nil
  | _, _, 0, .cons _ b => b
  | _, _, i + 1, .cons a b => .cons a (Reps.eraseIdx i b)
theorem Reps.dropLast {H : Hp} {v : List V} {d : List D} (r : Reps H v d) : Reps H v.dropLast d.dropLast := by
  rw [List.dropLast_eq_take, List.dropLast_eq_take, r.length]; exact r.take _
theorem Reps.reverse {H : Hp} : ∀ {v : List V} {d : List D}, Reps H v d → Reps H v.reverse d.reverse
  | _, _, .nil => .nil
  | _, _, .cons a b => by rw [List.reverse_cons, List.reverse_cons]; exact (Reps.reverse b).append (.cons a .nil)
theorem Reps.flat {H : Hp} {v : List V} {d : List D} (r : Reps H v d) : ∀ k, Reps H (List.replicate k v).flatten (List.replicate k d).flatten
  | 0 => .nil
  | k + 1 => by
    rw [List.replicate_succ, List.replicate_succ, List.flatten_cons, List.flatten_cons]; exact r.append (Reps.flat r k)
inductive Sl where
  | no | fz (d : D) | own (d : D) | io (d : D) | ro (d : D) | ex
def Sl.isOwn : Sl → Bool
  | .own _ => true
  | .io _ => true
  | _ => false
def Sl.isRef : Sl → Bool
  | .own _ => true
  | .io _ => true
  | .ro _ => true
  | _ => false
theorem Sl.ref_of {s : Sl} (h : s.isOwn = true) : s.isRef = true := by cases s <;> first | rfl | cases h
abbrev Rho := List Sl
inductive Kd where
  | fz | new | at (i : Nat) | ro
abbrev RV := D × Kd
inductive Own (B H : Hp) (p : Addr) : D → Prop
  | lst {xs : List V} {ds : List D} : H p = some (.lst xs) → Reps B xs ds → Own B H p (.list ds)
  | dct {kvs : List (Key × V)} {es : List (D × D)} : H p = some (.dK kvs) → RepKs B kvs es → Own B H p (.dict es)
theorem Own.there {B H : Hp} {p : Addr} {d : D} (h : Own B H p d) : ∃ o, H p = some o := by cases h with
  | lst h _ => exact ⟨_, h⟩
  | dct h _ => exact ⟨_, h⟩
theorem Own.ne_none {B H : Hp} {p : Addr} {d : D} (h : Own B H p d) : H p ≠ none := by
  obtain ⟨o, e⟩ := h.there; rw [e]; simp
theorem Own.mono {B H B' H' : Hp} {p : Addr} {d : D} (h : Own B H p d) (e : Same B B') (k : ∀ o, H p = some o → H' p = some o) : Own B' H' p d := by cases h with
  | lst h r => exact .lst (k _ h) (r.mono e)
  | dct h r => exact .dct (k _ h) (r.mono e)
theorem Own.rep {B H : Hp} {p : Addr} {d : D} (h : Own B H p d) (e : Same B H) : Rep H (.ref p) d := by cases h with
  | lst h r => exact .lst (.inl h) (r.mono e)
  | dct h r => exact .dct (.inl h) (r.mono e)
theorem Own.frozen {B H B' : Hp} {p : Addr} {d : D} (h : Own B H p d) (e : Same B B') (k : ∀ o, H p = some o → B' p = some o) : Rep B' (.ref p) d := by cases h with
  | lst h r => exact .lst (.inl (k _ h)) (r.mono e)
  | dct h r => exact .dct (.inl (k _ h)) (r.mono e)
structure Fr where
  B : Hp
  H : Hp
  io : List (Nat × Addr)
  Z : Addr → Prop
def SlotOk (B H : Hp) (σ : St) (i : Nat) : Sl → Prop
  | .no => True
  | .ex => True
  | .fz d => ∃ v, σ[i]? = some (some v) ∧ Rep B v d
  | .own d => ∃ p, σ[i]? = some (some (.ref p)) ∧ B p = none ∧ Own B H p d
  | .io d => ∃ p, σ[i]? = some (some (.ref p)) ∧ B p = none ∧ Own B H p d
  | .ro d => ∃ p, σ[i]? = some (some (.ref p)) ∧ Own B H p d
structure Rel (F : Fr) (B H : Hp) (σ : St) (ρ : Rho) : Prop where
  sub : Same B H
  sB : Same F.B B
  sH : ∀ q o, F.H q = some o → (∀ x ∈ F.io, x.2 ≠ q) → H q = some o
  nB : ∀ q, F.H q ≠ none → F.B q = none → B q = none
  len : ρ.length = σ.length
  slot : ∀ (i : Nat) (s : Sl), ρ[i]? = some s → SlotOk B H σ i s
  dist : ∀ (i j : Nat) (s t : Sl) (p : Addr), ρ[i]? = some s → s.isOwn = true → ρ[j]? = some t → t.isRef = true → σ[i]? = some (some (.ref p)) → σ[j]? = some (some (.ref p)) → i = j
  ownN : ∀ (i : Nat) (d : D) (p : Addr), ρ[i]? = some (.own d) → σ[i]? = some (some (.ref p)) → F.H p = none
  fx : ∀ x ∈ F.io, σ[x.1]? = some (some (.ref x.2)) ∧ ∃ d, ρ[x.1]? = some (.io d)
  ioN : ∀ (i : Nat) (d : D), ρ[i]? = some (.io d) → ∃ p, (i, p) ∈ F.io
  tupB : ∀ q xs, H q = some (.tup xs) → B q = some (.tup xs)
  exv : ∀ i : Nat, ρ[i]? = some .ex → σ[i]? = some (some (.ref Zc.e))
  nz : ∀ q o u, H q = some (.frz o u) → F.Z q
structure Ext (σ : St) (ρ : Rho) (B H : Hp) (ρ' : Rho) (B' H' : Hp) : Prop where
  sB : Same B B'
  keep : ∀ q o, H q = some o → (∀ (i : Nat) (s : Sl), ρ[i]? = some s → s.isOwn = true → σ[i]? ≠ some (some (.ref q))) → H' q = some o ∧ (B q = none → B' q = none)
  own : ∀ (i : Nat) (s' : Sl), ρ'[i]? = some s' → s'.isOwn = true → ∃ s, ρ[i]? = some s ∧ s.isOwn = true
  ref : ∀ (i : Nat) (s' : Sl), ρ'[i]? = some s' → s'.isRef = true → ∃ s, ρ[i]? = some s ∧ s.isRef = true
  live : ∀ q, H' q = none → H q = none
theorem Ext.refl (σ : St) (ρ : Rho) (B H : Hp) : Ext σ ρ B H ρ B H := ⟨Same.refl _, fun _ _ h _ => ⟨h, id⟩, fun _ s h e => ⟨s, h, e⟩, fun _ s h e => ⟨s, h, e⟩, fun _ h => h⟩
theorem Ext.trans {σ : St} {ρ ρ1 ρ2 : Rho} {B H B1 H1 B2 H2 : Hp} (a : Ext σ ρ B H ρ1 B1 H1) (b : Ext σ ρ1 B1 H1 ρ2 B2 H2) : Ext σ ρ B H ρ2 B2 H2 := by
  refine ⟨a.sB.trans b.sB, fun q o h n => ?_, fun i s h e => ?_, fun i s h e => ?_, fun q h => a.live q (b.live q h)⟩
  · obtain ⟨h1, h2⟩ := a.keep q o h n
    obtain ⟨h3, h4⟩ := b.keep q o h1 fun i s e1 e2 => by
      obtain ⟨s', e3, e4⟩ := a.own i s e1 e2
      exact n i s' e3 e4
    exact ⟨h3, fun z => h4 (h2 z)⟩
  · obtain ⟨s1, h1, e1⟩ := b.own i s h e
    exact a.own i s1 h1 e1
  · obtain ⟨s1, h1, e1⟩ := b.ref i s h e
    exact a.ref i s1 h1 e1
def slD : Sl → D
  | .own d => d
  | .io d => d
  | .ro d => d
  | .fz d => d
  | .no => .none
  | .ex => .none
def Val (F : Fr) (B H : Hp) (σ : St) (ρ : Rho) (v : V) (r : RV) : Prop := match r.2 with
  | .fz => Rep B v r.1
  | .new => ∃ p, v = .ref p ∧ B p = none ∧ F.H p = none ∧ Own B H p r.1 ∧ ∀ (i : Nat) (s : Sl), ρ[i]? = some s → s.isRef = true → σ[i]? ≠ some (some (.ref p))
  | .at i => ∃ s, ρ[i]? = some s ∧ s.isOwn = true ∧ slD s = r.1 ∧ σ[i]? = some (some v)
  | .ro => ∃ p, v = .ref p ∧ Own B H p r.1 ∧ ∀ (i : Nat) (s : Sl), ρ[i]? = some s → s.isOwn = true → σ[i]? ≠ some (some (.ref p))
def View (B H : Hp) (v : V) (d : D) : Prop := Rep B v d ∨ ∃ p, v = .ref p ∧ Own B H p d
theorem View.rep {B H : Hp} {v : V} {d : D} (h : View B H v d) (e : Same B H) : Rep H v d := by
  rcases h with h | ⟨p, rfl, h⟩
  · exact h.mono e
  · exact h.rep e
theorem View.list {B H : Hp} {v : V} {ds : List D} (h : View B H v (.list ds)) (e : Same B H) : ∃ p xs, v = .ref p ∧ Rd H p (.lst xs) ∧ Reps B xs ds := by
  rcases h with h | ⟨p, rfl, h⟩
  · cases h with
    | lst h r => exact ⟨_, _, rfl, rd_same e h, r⟩
  · cases h with
    | lst h r => exact ⟨_, _, rfl, .inl h, r⟩
theorem View.tuple {B H : Hp} {v : V} {ds : List D} (h : View B H v (.tuple ds)) (e : Same B H) : ∃ p xs, v = .ref p ∧ H p = some (.tup xs) ∧ Reps B xs ds := by
  rcases h with h | ⟨p, rfl, h⟩
  · cases h with
    | tup h r => exact ⟨_, _, rfl, e _ _ h, r⟩
  · cases h
theorem View.dict {B H : Hp} {v : V} {es : List (D × D)} (h : View B H v (.dict es)) (e : Same B H) : ∃ p kvs, v = .ref p ∧ Rd H p (.dK kvs) ∧ RepKs B kvs es := by
  rcases h with h | ⟨p, rfl, h⟩
  · cases h with
    | dct h r => exact ⟨_, _, rfl, rd_same e h, r⟩
  · cases h with
    | dct h r => exact ⟨_, _, rfl, .inl h, r⟩
theorem View.int {B H : Hp} {v : V} {i : Int} (h : View B H v (.int i)) : v = .int i := by
  rcases h with h | ⟨p, rfl, h⟩
  · cases h; rfl
  · cases h
theorem View.bool {B H : Hp} {v : V} {b : Bool} (h : View B H v (.bool b)) : v = .bl b := by
  rcases h with h | ⟨p, rfl, h⟩
  · cases h; rfl
  · cases h
theorem View.str {B H : Hp} {v : V} {x : Str} (h : View B H v (.str x)) : v = .str x := by
  rcases h with h | ⟨p, rfl, h⟩
  · cases h; rfl
  · cases h
theorem View.none {B H : Hp} {v : V} (h : View B H v .none) : v = .non := by
  rcases h with h | ⟨p, rfl, h⟩
  · cases h; rfl
  · cases h
section
variable {F : Fr} {B H B' H' : Hp} {σ : St} {ρ ρ' : Rho} {v : V} {r : RV}
theorem Rel.ownAt (R : Rel F B H σ ρ) {i : Nat} {s : Sl} (h : ρ[i]? = some s) (e : s.isOwn = true) : ∃ p, σ[i]? = some (some (.ref p)) ∧ B p = Option.none ∧ Own B H p (slD s) := by
  have := R.slot i s h
  cases s with
  | own d => exact this
  | io d => exact this
  | _ => cases e
theorem Val.view (R : Rel F B H σ ρ) (h : Val F B H σ ρ v r) : View B H v r.1 := by
  obtain ⟨d, k⟩ := r
  cases k with
  | fz => exact .inl h
  | new => obtain ⟨p, rfl, _, _, o, _⟩ := h; exact .inr ⟨p, rfl, o⟩
  | «at» i =>
    obtain ⟨s, h1, h2, h3, h4⟩ := h
    obtain ⟨p, e1, e2, e3⟩ := R.ownAt h1 h2
    rw [h4] at e1
    cases e1
    exact .inr ⟨p, rfl, h3 ▸ e3⟩
  | ro => obtain ⟨p, rfl, o, _⟩ := h; exact .inr ⟨p, rfl, o⟩
theorem Rel.freezeNew (R : Rel F B H σ ρ) {d : D} (h : Val F B H σ ρ v (d, .new)) : ∃ B', Rel F B' H σ ρ ∧ Rep B' v d ∧ Same B B' ∧ ∀ q, v ≠ .ref q → B' q = B q := by
  obtain ⟨p, rfl, hB, hF, o, nn⟩ := h
  obtain ⟨ob, hp⟩ := o.there
  have e : Same B (upd B p ob) := same_upd hB
  have ne : ∀ (i : Nat) (s : Sl) (q : Addr), ρ[i]? = some s → s.isRef = true → σ[i]? = some (some (.ref q)) → q ≠ p := fun i s q h1 h2 h3 z => nn i s h1 h2 (z ▸ h3)
  refine ⟨upd B p ob, ⟨?_, R.sB.trans e, R.sH, ?_, R.len, ?_, R.dist, R.ownN, R.fx, R.ioN, (fun q xs h => e _ _ (R.tupB q xs h)), R.exv, R.nz⟩, ?_, e, fun q hq => upd_ne fun z => hq (z ▸ rfl)⟩
  · intro q u hq
    by_cases z : q = p
    · subst z; rw [upd_same] at hq; cases hq; exact hp
    · rw [upd_ne z] at hq; exact R.sub q u hq
  · intro q h1 h2
    have z : q ≠ p := fun z => h1 (z ▸ hF)
    rw [upd_ne z]; exact R.nB q h1 h2
  · intro i s hs
    have q := R.slot i s hs
    cases s with
    | no => trivial
    | ex => trivial
    | fz d => obtain ⟨x, h1, h2⟩ := q; exact ⟨x, h1, h2.mono e⟩
    | own d => obtain ⟨q, h1, h2, h3⟩ := q; exact ⟨q, h1, by rw [upd_ne (ne i _ q hs rfl h1)]; exact h2, h3.mono e fun _ z => z⟩
    | io d => obtain ⟨q, h1, h2, h3⟩ := q; exact ⟨q, h1, by rw [upd_ne (ne i _ q hs rfl h1)]; exact h2, h3.mono e fun _ z => z⟩
    | ro d => obtain ⟨q, h1, h3⟩ := q; exact ⟨q, h1, h3.mono e fun _ z => z⟩
  · exact o.frozen e fun u h => by rw [upd_same, ← h, hp]
theorem get_set {i j : Nat} {s t : Sl} (h : (ρ.set i s)[j]? = some t) : (j = i ∧ t = s ∧ i < ρ.length) ∨ (j ≠ i ∧ ρ[j]? = some t) := by
  by_cases z : j = i
  · subst z
    have hl : j < ρ.length := by
      have := List.getElem?_eq_some_iff.mp h
      obtain ⟨hh, _⟩ := this
      simpa using hh
    rw [List.getElem?_set_self hl] at h
    exact .inl ⟨rfl, (Option.some.inj h).symm, hl⟩
  · rw [List.getElem?_set_ne (fun e => z e.symm)] at h
    exact .inr ⟨z, h⟩
theorem ex_set {ρ : Rho} {i j : Nat} {s : Sl} (hs : s ≠ .ex) (h : (ρ.set i s)[j]? = some .ex) : ρ[j]? = some .ex ∧ j ≠ i := by
  rcases get_set h with ⟨_, z, _⟩ | ⟨hj, h⟩
  · exact absurd z.symm hs
  · exact ⟨h, hj⟩
theorem Rel.freezeAt (R : Rel F B H σ ρ) {i : Nat} {d : D} (hi : ρ[i]? = some (.own d)) (hv : σ[i]? = some (some v)) : ∃ B', Rel F B' H σ (ρ.set i (.fz d)) ∧ Rep B' v d ∧ Ext σ ρ B H (ρ.set i (.fz d)) B' H := by
  obtain ⟨p, h1, hB, o⟩ := R.slot i _ hi
  rw [hv] at h1
  cases h1
  have hF := R.ownN i d p hi hv
  obtain ⟨ob, hp⟩ := o.there
  have e : Same B (upd B p ob) := same_upd hB
  have rp : Rep (upd B p ob) (.ref p) d := o.frozen e fun u h => by rw [upd_same, ← h, hp]
  have ne : ∀ (j : Nat) (s : Sl) (q : Addr), j ≠ i → ρ[j]? = some s → s.isRef = true → σ[j]? = some (some (.ref q)) → q ≠ p := fun j s q hj h1 h2 h3 z => hj (R.dist i j _ s p hi rfl h1 h2 hv (z ▸ h3)).symm
  refine ⟨upd B p ob, ⟨?_, R.sB.trans e, R.sH, ?_, by rw [List.length_set]; exact R.len, ?_, ?_, ?_, ?_, ?_, (fun q xs h => e _ _ (R.tupB q xs h)), (fun j h => R.exv j (ex_set (by simp) h).1), R.nz⟩, rp, ⟨e, ?_, ?_, ?_, fun _ h => h⟩⟩
  · intro q u hq
    by_cases z : q = p
    · subst z; rw [upd_same] at hq; cases hq; exact hp
    · rw [upd_ne z] at hq; exact R.sub q u hq
  · intro q h1 h2
    have z : q ≠ p := fun z => h1 (z ▸ hF)
    rw [upd_ne z]; exact R.nB q h1 h2
  · intro j s hs
    rcases get_set hs with ⟨rfl, rfl, _⟩ | ⟨hj, hs⟩
    · exact ⟨_, hv, rp⟩
    · have q := R.slot j s hs
      cases s with
      | no => trivial
      | ex => trivial
      | fz d => obtain ⟨x, h1, h2⟩ := q; exact ⟨x, h1, h2.mono e⟩
      | own d => obtain ⟨q, h1, h2, h3⟩ := q; exact ⟨q, h1, by rw [upd_ne (ne j _ q hj hs rfl h1)]; exact h2, h3.mono e fun _ z => z⟩
      | io d => obtain ⟨q, h1, h2, h3⟩ := q; exact ⟨q, h1, by rw [upd_ne (ne j _ q hj hs rfl h1)]; exact h2, h3.mono e fun _ z => z⟩
      | ro d => obtain ⟨q, h1, h3⟩ := q; exact ⟨q, h1, h3.mono e fun _ z => z⟩
  · intro a b s t q h1 h2 h3 h4 h5 h6
    rcases get_set h1 with ⟨rfl, rfl, _⟩ | ⟨ha, h1⟩
    · cases h2
    · rcases get_set h3 with ⟨rfl, rfl, _⟩ | ⟨hb, h3⟩
      · cases h4
      · exact R.dist a b s t q h1 h2 h3 h4 h5 h6
  · intro j c q h1 h2
    rcases get_set h1 with ⟨rfl, h, _⟩ | ⟨_, h1⟩
    · cases h
    · exact R.ownN j c q h1 h2
  · intro x hx
    obtain ⟨h1, c, h2⟩ := R.fx x hx
    refine ⟨h1, c, ?_⟩
    by_cases z : i = x.1
    · subst z; rw [hi] at h2; cases h2
    · rw [List.getElem?_set_ne z]; exact h2
  · intro j c h1
    rcases get_set h1 with ⟨rfl, h, _⟩ | ⟨_, h1⟩
    · cases h
    · exact R.ioN j c h1
  · intro q u hq hn
    refine ⟨hq, fun z => ?_⟩
    rw [upd_ne (show q ≠ p from fun y => hn i _ hi rfl (by rw [y]; exact hv))]; exact z
  · intro j s h1 h2
    rcases get_set h1 with ⟨rfl, rfl, _⟩ | ⟨_, h1⟩
    · cases h2
    · exact ⟨s, h1, h2⟩
  · intro j s h1 h2
    rcases get_set h1 with ⟨rfl, rfl, _⟩ | ⟨_, h1⟩
    · cases h2
    · exact ⟨s, h1, h2⟩
theorem Rel.free (R : Rel F B H σ ρ) {p : Addr} (hp : H p = none) : B p = none ∧ F.H p = none ∧ ∀ (i : Nat) (s : Sl), ρ[i]? = some s → s.isRef = true → σ[i]? ≠ some (some (.ref p)) := by
  have hB : B p = none := R.sub.free hp
  have nn : ∀ (i : Nat) (s : Sl), ρ[i]? = some s → s.isRef = true → σ[i]? ≠ some (some (.ref p)) := fun i s h1 h2 h3 => by
    have q := R.slot i s h1
    cases s with
    | own d => obtain ⟨q, e1, _, e3⟩ := q; rw [h3] at e1; cases e1; exact e3.ne_none hp
    | io d => obtain ⟨q, e1, _, e3⟩ := q; rw [h3] at e1; cases e1; exact e3.ne_none hp
    | ro d => obtain ⟨q, e1, e3⟩ := q; rw [h3] at e1; cases e1; exact e3.ne_none hp
    | no => cases h2
    | ex => cases h2
    | fz d => cases h2
  refine ⟨hB, ?_, nn⟩
  cases q : F.H p with
  | none => rfl
  | some u =>
    by_cases z : ∃ x ∈ F.io, x.2 = p
    · obtain ⟨x, hx, rfl⟩ := z
      obtain ⟨h1, d, h2⟩ := R.fx x hx
      exact absurd h1 (nn _ _ h2 rfl)
    · have := R.sH p u q fun x hx y => z ⟨x, hx, y⟩
      rw [hp] at this; cases this
theorem Rel.grow (R : Rel F B H σ ρ) (eB : Same B B') (eH : Same H H') (sub : Same B' H') (nb : ∀ q, H q ≠ none → B q = none → B' q = none) (tB : ∀ q xs, H' q = some (.tup xs) → B' q = some (.tup xs)) (nf : ∀ q o u, H' q = some (.frz o u) → H q ≠ none) : Rel F B' H' σ ρ := by
  have lv : ∀ q, F.H q ≠ none → H q ≠ none := fun q h z => h (R.free z).2.1
  refine ⟨sub, R.sB.trans eB, fun q u h1 h2 => eH _ _ (R.sH q u h1 h2), fun q h1 h2 => nb q (lv q h1) (R.nB q h1 h2), R.len, fun i s hs => ?_, R.dist, R.ownN, R.fx, R.ioN, tB, R.exv, fun q o u h => by
    cases y : H q with
    | none => exact absurd y (nf q o u h)
    | some x =>
      have := eH q x y
      rw [h] at this
      cases this
      exact R.nz q o u y⟩
  have q := R.slot i s hs
  cases s with
  | no => trivial
  | ex => trivial
  | fz d => obtain ⟨x, h1, h2⟩ := q; exact ⟨x, h1, h2.mono eB⟩
  | own d => obtain ⟨q, h1, h2, h3⟩ := q; exact ⟨q, h1, nb q h3.ne_none h2, h3.mono eB fun _ z => eH _ _ z⟩
  | io d => obtain ⟨q, h1, h2, h3⟩ := q; exact ⟨q, h1, nb q h3.ne_none h2, h3.mono eB fun _ z => eH _ _ z⟩
  | ro d => obtain ⟨q, h1, h3⟩ := q; exact ⟨q, h1, h3.mono eB fun _ z => eH _ _ z⟩
theorem Ext.grow (eB : Same B B') (eH : Same H H') (nb : ∀ q, H q ≠ none → B q = none → B' q = none) : Ext σ ρ B H ρ B' H' :=
  ⟨eB, fun q u h _ => ⟨eH _ _ h, fun z => nb q (by rw [h]; simp) z⟩, fun _ s h z => ⟨s, h, z⟩, fun _ s h z => ⟨s, h, z⟩, fun q h => eH.free h⟩
theorem Rel.lay (R : Rel F B H σ ρ) {p : Addr} {o : HO} (hp : H p = none) (no : (∀ xs, o ≠ .tup xs) ∧ ∀ a u, o ≠ .frz a u) : Rel F B (upd H p o) σ ρ ∧ Ext σ ρ B H ρ B (upd H p o) := by
  have e : Same H (upd H p o) := same_upd hp
  refine ⟨R.grow (Same.refl _) e (R.sub.trans e) (fun _ _ z => z) (fun q xs h => ?_) (fun q a u h y => ?_), Ext.grow (Same.refl _) e fun _ _ z => z⟩
  · by_cases z : q = p
    · subst z; rw [upd_same] at h; cases h; exact absurd rfl (no.1 xs)
    · rw [upd_ne z] at h; exact R.tupB q xs h
  · by_cases z : q = p
    · subst z; rw [upd_same] at h; cases h; exact no.2 _ _ rfl
    · rw [upd_ne z, y] at h; cases h
theorem Rel.layT (R : Rel F B H σ ρ) {p : Addr} {xs : List V} (hp : H p = none) : Rel F (upd B p (.tup xs)) (upd H p (.tup xs)) σ ρ ∧ Ext σ ρ B H ρ (upd B p (.tup xs)) (upd H p (.tup xs)) ∧ Same B (upd B p (.tup xs)) := by
  have hB := (R.free hp).1
  have eH : Same H (upd H p (.tup xs)) := same_upd hp
  have eB : Same B (upd B p (.tup xs)) := same_upd hB
  have nb : ∀ q, H q ≠ none → B q = none → upd B p (.tup xs) q = none := fun q h z => by rw [upd_ne (show q ≠ p from fun y => h (by rw [y]; exact hp))]; exact z
  refine ⟨R.grow eB eH (fun q u h => ?_) nb (fun q ys h => ?_) (fun q a u h y => ?_), Ext.grow eB eH nb, eB⟩
  · by_cases z : q = p
    · subst z; rw [upd_same] at h ⊢; exact h
    · rw [upd_ne z] at h ⊢; exact R.sub q u h
  · by_cases z : q = p
    · subst z; rw [upd_same] at h ⊢; exact h
    · rw [upd_ne z] at h ⊢; exact R.tupB q ys h
  · by_cases z : q = p
    · subst z; rw [upd_same] at h; cases h
    · rw [upd_ne z, y] at h; cases h
end
end Mir
set_option Elab.async false
set_option linter.all false
set_option maxRecDepth 100000
namespace Mir
open PySem L2
variable [Zc]
abbrev PM := Rho → Option (RV × Rho)
def ME (t : TE) (m : PM) : Prop :=
  ∀ (F : Fr) (B H : Hp) (σ : St) (ρ : Rho) (r : RV) (ρ' : Rho) (Q : VK), Rel F B H σ ρ → m ρ = some (r, ρ') →
    (∀ v B' H', Ext σ ρ B H ρ' B' H' → Rel F B' H' σ ρ' → Val F B' H' σ ρ' v r → (∀ p, r.2 = .new → v = .ref p → H p = none) → Q v H') → t σ H Q
def MT (t : TT) (m : Rho → Option (Bool × Rho)) : Prop :=
  ∀ (F : Fr) (B H : Hp) (σ : St) (ρ : Rho) (b : Bool) (ρ' : Rho) (Q : Bool → Hp → Prop), Rel F B H σ ρ → m ρ = some (b, ρ') →
    (∀ B' H', Ext σ ρ B H ρ' B' H' → Rel F B' H' σ ρ' → Q b H') → t σ H Q
def Vl (F : Fr) (B H : Hp) (σ : St) (ρ : Rho) : List V → List RV → Prop
  | [], [] => True
  | v :: vs, r :: rs => (Val F B H σ ρ v r ∧ r.2 ≠ .new) ∧ Vl F B H σ ρ vs rs
  | _, _ => False
def MA (t : TA) (m : Rho → Option (List RV × Rho)) : Prop :=
  ∀ (F : Fr) (B H : Hp) (σ : St) (ρ : Rho) (rs : List RV) (ρ' : Rho) (Q : List V → Hp → Prop), Rel F B H σ ρ → m ρ = some (rs, ρ') →
    (∀ vs B' H', Ext σ ρ B H ρ' B' H' → Rel F B' H' σ ρ' → Vl F B' H' σ ρ' vs rs → Q vs H') → t σ H Q
def sv (m : PM) : PM := fun ρ => match m ρ with
  | some ((d, .new), ρ') => some ((d, .fz), ρ')
  | x => x
theorem sv_kind {m : PM} {ρ ρ' : Rho} {r : RV} (h : sv m ρ = some (r, ρ')) : r.2 ≠ .new := by
  unfold sv at h
  split at h
  · cases h; simp
  · rename_i hx
    intro e
    obtain ⟨d, k⟩ := r
    cases (show k = .new from e)
    exact hx d ρ' h
theorem ME.sv {t : TE} {m : PM} (h : ME t m) : ME t (sv m) := by
  intro F B H σ ρ r ρ' Q R e q
  unfold Mir.sv at e
  split at e
  · rename_i d ρ1 e1
    cases e
    refine h F B H σ ρ _ _ Q R e1 fun v B' H' E R' V' N => ?_
    obtain ⟨B2, R2, rp, s2, k2⟩ := R'.freezeNew V'
    refine q v B2 H' ⟨E.sB.trans s2, fun q o h1 h2 => ?_, E.own, E.ref, E.live⟩ R2 rp (fun _ z => by cases z)
    obtain ⟨h3, h4⟩ := E.keep q o h1 h2
    refine ⟨h3, fun z => ?_⟩
    rw [k2 q fun y => by
      have := N q rfl y
      rw [h1] at this; cases this]
    exact h4 z
  · exact h F B H σ ρ r ρ' Q R e q
def refr (ρ : Rho) (r : RV) : Option RV := match r.2 with
  | .at i => match ρ[i]? with
    | some (.own d) => some (d, .at i)
    | some (.io d) => some (d, .at i)
    | some (.fz d) => some (d, .fz)
    | _ => none
  | _ => some r
section
variable {F : Fr} {B H B' H' : Hp} {σ : St} {ρ ρ' : Rho} {v : V} {r r' : RV}
theorem Val.next (E : Ext σ ρ B H ρ' B' H') (R' : Rel F B' H' σ ρ') (h : Val F B H σ ρ v r) (nn : r.2 ≠ .new) (e : refr ρ' r = some r') : Val F B' H' σ ρ' v r' ∧ r'.2 ≠ .new := by
  obtain ⟨d, k⟩ := r
  cases k with
  | fz => cases e; exact ⟨Rep.mono E.sB h, nn⟩
  | new => exact absurd rfl nn
  | «at» i =>
    obtain ⟨s, h1, h2, h3, h4⟩ := h
    have e' : (match ρ'[i]? with
      | some (.own d) => some (d, Kd.at i)
      | some (.io d) => some (d, Kd.at i)
      | some (.fz d) => some (d, Kd.fz)
      | _ => none) = some r' := e
    cases q : ρ'[i]? with
    | none => rw [q] at e'; cases e'
    | some s' =>
      rw [q] at e'
      cases s' with
      | own c => cases e'; exact ⟨⟨_, q, rfl, rfl, h4⟩, by simp⟩
      | io c => cases e'; exact ⟨⟨_, q, rfl, rfl, h4⟩, by simp⟩
      | fz c =>
        cases e'
        obtain ⟨x, y1, y2⟩ := R'.slot i _ q
        rw [h4] at y1; cases y1
        exact ⟨y2, by simp⟩
      | no => cases e'
      | ex => cases e'
      | ro c => cases e'
  | ro =>
    cases e
    obtain ⟨p, rfl, o, n⟩ := h
    obtain ⟨ob, hp⟩ := o.there
    refine ⟨⟨p, rfl, o.mono E.sB fun u hu => (E.keep p u hu n).1, fun i s h1 h2 => ?_⟩, nn⟩
    obtain ⟨s0, h3, h4⟩ := E.own i s h1 h2
    exact n i s0 h3 h4
end
def ResOk (B H : Hp) (res : D × Bool) (k : VK → Prop) : Prop := match res with
  | (d, false) => ∃ v, Rep B v d ∧ ∀ Q : VK, Q v H → k Q
  | (.list ds, true) => ∃ vs, Reps B vs ds ∧ ∀ Q : VK, (∀ p, H p = none → Q (.ref p) (upd H p (.lst vs))) → k Q
  | (.tuple ds, true) => ∃ vs, Reps B vs ds ∧ ∀ Q : VK, (∀ p, H p = none → Q (.ref p) (upd H p (.tup vs))) → k Q
  | (.dict es, true) => ∃ kvs, RepKs B kvs es ∧ ∀ Q : VK, (∀ p, H p = none → Q (.ref p) (upd H p (.dK kvs))) → k Q
  | _ => False
def resK : D × Bool → RV
  | (d, false) => (d, .fz)
  | (.tuple ds, true) => (.tuple ds, .fz)
  | (d, true) => (d, .new)
theorem res_end {F : Fr} {B H : Hp} {σ : St} {ρ : Rho} {res : D × Bool} {k : VK → Prop} {Q : VK} (R : Rel F B H σ ρ) (h : ResOk B H res k)
    (q : ∀ v B' H', Ext σ ρ B H ρ B' H' → Rel F B' H' σ ρ → Val F B' H' σ ρ v (resK res) → (∀ p, (resK res).2 = .new → v = .ref p → H p = none) → Q v H') : k Q := by
  obtain ⟨d, b⟩ := res
  cases b with
  | false =>
    obtain ⟨v, rp, hk⟩ := h
    exact hk Q (q v B H (Ext.refl _ _ _ _) R rp fun p z => by cases z)
  | true =>
    cases d with
    | list ds =>
      obtain ⟨vs, rp, hk⟩ := h
      refine hk Q fun p hp => ?_
      obtain ⟨R', E⟩ := R.lay (o := .lst vs) hp ⟨(fun _ z => by cases z), fun _ _ z => by cases z⟩
      obtain ⟨hB, hF, nn⟩ := R.free hp
      exact q _ B _ E R' ⟨p, rfl, hB, hF, .lst upd_same rp, nn⟩ fun q _ z => by cases z; exact hp
    | dict es =>
      obtain ⟨kvs, rp, hk⟩ := h
      refine hk Q fun p hp => ?_
      obtain ⟨R', E⟩ := R.lay (o := .dK kvs) hp ⟨(fun _ z => by cases z), fun _ _ z => by cases z⟩
      obtain ⟨hB, hF, nn⟩ := R.free hp
      exact q _ B _ E R' ⟨p, rfl, hB, hF, .dct upd_same rp, nn⟩ fun q _ z => by cases z; exact hp
    | tuple ds =>
      obtain ⟨vs, rp, hk⟩ := h
      refine hk Q fun p hp => ?_
      obtain ⟨R', E, e⟩ := R.layT (xs := vs) hp
      exact q _ _ _ E R' (show Rep _ _ _ from .tup upd_same (rp.mono e)) fun q z => by cases z
    | none => exact h.elim
    | bool _ => exact h.elim
    | int _ => exact h.elim
    | str _ => exact h.elim
def mC (d : D) : PM := fun ρ => some ((d, .fz), ρ)
theorem me_c {v : V} {d : D} (h : ∀ B, Rep B v d) : ME (tC v) (mC d) := by
  intro F B H σ ρ r ρ' Q R e q
  cases e
  exact q v B H (Ext.refl _ _ _ _) R (h B) fun p z => by cases z
theorem me_int {i : Int} : ME (tC (.int i)) (mC (.int i)) := me_c fun _ => .int i
theorem me_bl {b : Bool} : ME (tC (.bl b)) (mC (.bool b)) := me_c fun _ => .bl b
theorem me_non : ME (tC .non) (mC .none) := me_c fun _ => .non
theorem me_str {x : Str} : ME (tC (.str x)) (mC (.str x)) := me_c fun _ => .str x
def mVar (i : Nat) : PM := fun ρ => match ρ[i]? with
  | some (.fz d) => some ((d, .fz), ρ)
  | some (.own d) => some ((d, .at i), ρ)
  | some (.io d) => some ((d, .at i), ρ)
  | some (.ro d) => some ((d, .ro), ρ)
  | _ => none
theorem me_var {i : Nat} : ME (tVar i) (mVar i) := by
  intro F B H σ ρ r ρ' Q R e q
  unfold mVar at e
  cases hs : ρ[i]? with
  | none => rw [hs] at e; cases e
  | some s =>
    rw [hs] at e
    have sl := R.slot i s hs
    cases s with
    | no => cases e
    | ex => cases e
    | fz d =>
      cases e
      obtain ⟨v, h1, h2⟩ := sl
      exact ⟨v, h1, q v B H (Ext.refl _ _ _ _) R h2 fun p z => by cases z⟩
    | own d =>
      cases e
      obtain ⟨p, h1, h2, h3⟩ := sl
      exact ⟨_, h1, q _ B H (Ext.refl _ _ _ _) R ⟨_, hs, rfl, rfl, h1⟩ fun p z => by cases z⟩
    | io d =>
      cases e
      obtain ⟨p, h1, h2, h3⟩ := sl
      exact ⟨_, h1, q _ B H (Ext.refl _ _ _ _) R ⟨_, hs, rfl, rfl, h1⟩ fun p z => by cases z⟩
    | ro d =>
      cases e
      obtain ⟨p, h1, h3⟩ := sl
      refine ⟨_, h1, q _ B H (Ext.refl _ _ _ _) R ⟨p, rfl, h3, fun j s h4 h5 h6 => ?_⟩ fun p z => by cases z⟩
      have := R.dist j i s _ p h4 h5 hs rfl h6 h1
      subst this
      rw [hs] at h4; cases h4; cases h5
def OpJ (r : R2) (g : D → D → Option (D × Bool)) : Prop :=
  ∀ (B H : Hp) (x y : V) (c d : D) (res : D × Bool), Same B H → View B H x c → View B H y d → g c d = some res → ResOk B H res fun Q => r x y H Q
def mOp (g : D → D → Option (D × Bool)) (a b : PM) : PM := fun ρ => (sv a ρ).bind fun x => (sv b x.2).bind fun y => (refr y.2 x.1).bind fun r => (g r.1 y.1.1).map fun res => (resK res, y.2)
theorem me_op {r : R2} {g : D → D → Option (D × Bool)} {ta tb : TE} {a b : PM} (J : OpJ r g) (ha : ME ta a) (hb : ME tb b) : ME (tOp r ta tb) (mOp g a b) := by
  intro F B H σ ρ r0 ρ' Q R e q
  obtain ⟨x, e1, e⟩ := Option.bind_eq_some_iff.mp e
  obtain ⟨y, e2, e⟩ := Option.bind_eq_some_iff.mp e
  obtain ⟨r', e3, e⟩ := Option.bind_eq_some_iff.mp e
  obtain ⟨res, e4, e⟩ := Option.map_eq_some_iff.mp e
  cases e
  refine ha.sv F B H σ ρ x.1 x.2 _ R e1 fun v B1 H1 E1 R1 V1 N1 => ?_
  refine hb.sv F B1 H1 σ x.2 y.1 y.2 _ R1 e2 fun u B2 H2 E2 R2 V2 N2 => ?_
  obtain ⟨V3, n3⟩ := V1.next E2 R2 (sv_kind e1) e3
  refine res_end R2 (J B2 H2 v u r'.1 y.1.1 res R2.sub (V3.view R2) (V2.view R2) e4) fun w B3 H3 E3 R3 V4 N4 => ?_
  refine q w B3 H3 (E1.trans (E2.trans E3)) R3 V4 fun p z1 z2 => ?_
  exact E1.live p (E2.live p (N4 p z1 z2))
end Mir
set_option Elab.async false
set_option linter.all false
set_option maxRecDepth 100000
namespace Mir
open PySem L2
variable [Zc]
theorem Ext.fresh {σ : St} {ρ ρ' : Rho} {B H B' H' : Hp} (E : Ext σ ρ B H ρ' B' H') {p : Addr} (h : H' p = none) : H p = none := E.live p h
def UnJ (r : V → Hp → VK → Prop) (g : D → Option (D × Bool)) : Prop := ∀ (B H : Hp) (x : V) (c : D) (res : D × Bool), Same B H → View B H x c → g c = some res → ResOk B H res fun Q => r x H Q
def mUn (g : D → Option (D × Bool)) (a : PM) : PM := fun ρ => (sv a ρ).bind fun x => (g x.1.1).map fun res => (resK res, x.2)
theorem me_un {r : V → Hp → VK → Prop} {g : D → Option (D × Bool)} {ta : TE} {a : PM} (J : UnJ r g) (ha : ME ta a) : ME (tUn r ta) (mUn g a) := by
  intro F B H σ ρ r0 ρ' Q R e q
  obtain ⟨x, e1, e⟩ := Option.bind_eq_some_iff.mp e
  obtain ⟨res, e4, e⟩ := Option.map_eq_some_iff.mp e
  cases e
  refine ha.sv F B H σ ρ x.1 x.2 _ R e1 fun v B1 H1 E1 R1 V1 N1 => ?_
  exact res_end R1 (J B1 H1 v x.1.1 res R1.sub (V1.view R1) e4) fun w B3 H3 E3 R3 V4 N4 => q w B3 H3 (E1.trans E3) R3 V4 fun p z1 z2 => E1.live p (N4 p z1 z2)
def asB : RV × Rho → Option (Bool × Rho)
  | ((.bool b, _), ρ) => some (b, ρ)
  | _ => none
theorem asB_eq {x : RV × Rho} {b : Bool} {ρ : Rho} (h : asB x = some (b, ρ)) : x.1.1 = .bool b ∧ x.2 = ρ := by
  obtain ⟨⟨d, k⟩, ρ0⟩ := x
  cases d with
  | bool c => cases h; exact ⟨rfl, rfl⟩
  | _ => cases h
def mTest (a : PM) : Rho → Option (Bool × Rho) := fun ρ => (sv a ρ).bind asB
theorem mt_test {ta : TE} {a : PM} (ha : ME ta a) : MT (tTest ta) (mTest a) := by
  intro F B H σ ρ b ρ' Q R e q
  obtain ⟨x, e1, e⟩ := Option.bind_eq_some_iff.mp e
  obtain ⟨h1, h2⟩ := asB_eq e
  refine ha.sv F B H σ ρ x.1 x.2 _ R e1 fun v B1 H1 E1 R1 V1 N1 => ?_
  have := V1.view R1
  rw [h1] at this
  rw [h2] at E1 R1
  exact ⟨b, this.bool, q B1 H1 E1 R1⟩
theorem mt_tB {ta : TE} {a : PM} (ha : ME ta a) : MT (tB ta) (mTest a) := mt_test ha
def mAnd (a b : Rho → Option (Bool × Rho)) : Rho → Option (Bool × Rho) := fun ρ => (a ρ).bind fun x => if x.1 = true then b x.2 else some (false, x.2)
def mOr (a b : Rho → Option (Bool × Rho)) : Rho → Option (Bool × Rho) := fun ρ => (a ρ).bind fun x => if x.1 = true then some (true, x.2) else b x.2
def mNot (a : Rho → Option (Bool × Rho)) : Rho → Option (Bool × Rho) := fun ρ => (a ρ).map fun x => (!x.1, x.2)
section
variable {ta tb : TT} {a b : Rho → Option (Bool × Rho)}
theorem mt_and (ha : MT ta a) (hb : MT tb b) : MT (tAnd ta tb) (mAnd a b) := by
  intro F B H σ ρ c ρ' Q R e q
  obtain ⟨x, e1, e⟩ := Option.bind_eq_some_iff.mp e
  refine ha F B H σ ρ x.1 x.2 _ R e1 fun B1 H1 E1 R1 => ?_
  by_cases h : x.1 = true
  · rw [if_pos h] at e ⊢
    exact hb F B1 H1 σ x.2 c ρ' Q R1 e fun B2 H2 E2 R2 => q B2 H2 (E1.trans E2) R2
  · rw [if_neg h] at e ⊢
    cases e
    exact q B1 H1 E1 R1
theorem mt_or (ha : MT ta a) (hb : MT tb b) : MT (tOr ta tb) (mOr a b) := by
  intro F B H σ ρ c ρ' Q R e q
  obtain ⟨x, e1, e⟩ := Option.bind_eq_some_iff.mp e
  refine ha F B H σ ρ x.1 x.2 _ R e1 fun B1 H1 E1 R1 => ?_
  by_cases h : x.1 = true
  · rw [if_pos h] at e ⊢
    cases e
    exact q B1 H1 E1 R1
  · rw [if_neg h] at e ⊢
    exact hb F B1 H1 σ x.2 c ρ' Q R1 e fun B2 H2 E2 R2 => q B2 H2 (E1.trans E2) R2
theorem mt_not (ha : MT ta a) : MT (tNot ta) (mNot a) := by
  intro F B H σ ρ c ρ' Q R e q
  obtain ⟨x, e1, e⟩ := Option.map_eq_some_iff.mp e
  cases e
  exact ha F B H σ ρ x.1 x.2 _ R e1 fun B1 H1 E1 R1 => q B1 H1 E1 R1
end
section
variable {ta tb : TE} {a b : PM}
def mAndV (a b : PM) : PM := fun ρ => (mTest a ρ).bind fun x => if x.1 = true then b x.2 else some ((.bool false, .fz), x.2)
def mOrV (a b : PM) : PM := fun ρ => (mTest a ρ).bind fun x => if x.1 = true then some ((.bool true, .fz), x.2) else b x.2
def mNotV (a : PM) : PM := fun ρ => (mTest a ρ).map fun x => ((.bool !x.1, .fz), x.2)
theorem me_andV (ha : ME ta a) (hb : ME tb b) : ME (tAndV ta tb) (mAndV a b) := by
  intro F B H σ ρ c ρ' Q R e q
  obtain ⟨x, e1, e⟩ := Option.bind_eq_some_iff.mp e
  refine mt_test ha F B H σ ρ x.1 x.2 (fun c H1 => if c = true then tb σ H1 Q else Q (.bl false) H1) R e1 fun B1 H1 E1 R1 => ?_
  by_cases h : x.1 = true
  · rw [if_pos h] at e ⊢
    exact hb F B1 H1 σ x.2 c ρ' Q R1 e fun v B2 H2 E2 R2 V2 N2 => q v B2 H2 (E1.trans E2) R2 V2 fun p z1 z2 => E1.live p (N2 p z1 z2)
  · rw [if_neg h] at e ⊢
    cases e
    exact q _ B1 H1 E1 R1 (.bl false) fun p z => by cases z
theorem me_orV (ha : ME ta a) (hb : ME tb b) : ME (tOrV ta tb) (mOrV a b) := by
  intro F B H σ ρ c ρ' Q R e q
  obtain ⟨x, e1, e⟩ := Option.bind_eq_some_iff.mp e
  refine mt_test ha F B H σ ρ x.1 x.2 (fun c H1 => if c = true then Q (.bl true) H1 else tb σ H1 Q) R e1 fun B1 H1 E1 R1 => ?_
  by_cases h : x.1 = true
  · rw [if_pos h] at e ⊢
    cases e
    exact q _ B1 H1 E1 R1 (.bl true) fun p z => by cases z
  · rw [if_neg h] at e ⊢
    exact hb F B1 H1 σ x.2 c ρ' Q R1 e fun v B2 H2 E2 R2 V2 N2 => q v B2 H2 (E1.trans E2) R2 V2 fun p z1 z2 => E1.live p (N2 p z1 z2)
theorem me_notV (ha : ME ta a) : ME (tNotV ta) (mNotV a) := by
  intro F B H σ ρ c ρ' Q R e q
  obtain ⟨x, e1, e⟩ := Option.map_eq_some_iff.mp e
  cases e
  exact mt_test ha F B H σ ρ x.1 x.2 (fun c H1 => Q (.bl !c) H1) R e1 fun B1 H1 E1 R1 => q _ B1 H1 E1 R1 (.bl _) fun p z => by cases z
def mIfE (c : Rho → Option (Bool × Rho)) (a b : PM) : PM := fun ρ => (c ρ).bind fun x => if x.1 = true then a x.2 else b x.2
theorem me_ifE {tc : TT} {c : Rho → Option (Bool × Rho)} (hc : MT tc c) (ha : ME ta a) (hb : ME tb b) : ME (tIf tc ta tb) (mIfE c a b) := by
  intro F B H σ ρ r ρ' Q R e q
  obtain ⟨x, e1, e⟩ := Option.bind_eq_some_iff.mp e
  refine hc F B H σ ρ x.1 x.2 _ R e1 fun B1 H1 E1 R1 => ?_
  by_cases h : x.1 = true
  · rw [if_pos h] at e ⊢
    exact ha F B1 H1 σ x.2 r ρ' Q R1 e fun v B2 H2 E2 R2 V2 N2 => q v B2 H2 (E1.trans E2) R2 V2 fun p z1 z2 => E1.live p (N2 p z1 z2)
  · rw [if_neg h] at e ⊢
    exact hb F B1 H1 σ x.2 r ρ' Q R1 e fun v B2 H2 E2 R2 V2 N2 => q v B2 H2 (E1.trans E2) R2 V2 fun p z1 z2 => E1.live p (N2 p z1 z2)
end
def mNil : Rho → Option (List RV × Rho) := fun ρ => some ([], ρ)
def mCons (a : PM) (m : Rho → Option (List RV × Rho)) : Rho → Option (List RV × Rho) := fun ρ => (sv a ρ).bind fun x => (m x.2).bind fun y => (refr y.2 x.1).map fun r => (r :: y.1, y.2)
theorem ma_nil : MA tNil mNil := by
  intro F B H σ ρ rs ρ' Q R e q
  cases e
  exact q [] B H (Ext.refl _ _ _ _) R trivial
theorem ma_cons {ta : TE} {tr : TA} {a : PM} {m : Rho → Option (List RV × Rho)} (ha : ME ta a) (hr : MA tr m) : MA (tCons ta tr) (mCons a m) := by
  intro F B H σ ρ rs ρ' Q R e q
  obtain ⟨x, e1, e⟩ := Option.bind_eq_some_iff.mp e
  obtain ⟨y, e2, e⟩ := Option.bind_eq_some_iff.mp e
  obtain ⟨r, e3, e⟩ := Option.map_eq_some_iff.mp e
  cases e
  refine ha.sv F B H σ ρ x.1 x.2 _ R e1 fun v B1 H1 E1 R1 V1 N1 => ?_
  refine hr F B1 H1 σ x.2 y.1 y.2 _ R1 e2 fun vs B2 H2 E2 R2 V2 => ?_
  exact q (v :: vs) B2 H2 (E1.trans E2) R2 ⟨V1.next E2 R2 (sv_kind e1) e3, V2⟩
def WVal (B : Hp) (σ : St) (v : V) (r : RV) : Prop := match r.2 with
  | .fz => Rep B v r.1
  | .at i => σ[i]? = some (some v)
  | _ => True
def WVl (B : Hp) (σ : St) : List V → List RV → Prop
  | [], [] => True
  | v :: vs, r :: rs => WVal B σ v r ∧ WVl B σ vs rs
  | _, _ => False
theorem Vl.weak {F : Fr} {B H : Hp} {σ : St} {ρ : Rho} : ∀ {vs : List V} {rs : List RV}, Vl F B H σ ρ vs rs → WVl B σ vs rs
  | [], [], _ => trivial
  | v :: vs, r :: rs, ⟨⟨h, n⟩, t⟩ => by
    refine ⟨?_, Vl.weak t⟩
    obtain ⟨d, k⟩ := r
    cases k with
    | fz => exact h
    | «at» i => obtain ⟨_, _, _, _, e⟩ := h; exact e
    | new => trivial
    | ro => trivial
theorem WVl.mono {B B' : Hp} {σ : St} (e : Same B B') : ∀ {vs : List V} {rs : List RV}, WVl B σ vs rs → WVl B' σ vs rs
  | [], [], _ => trivial
  | v :: vs, r :: rs, ⟨h, t⟩ => by
    refine ⟨?_, WVl.mono e t⟩
    obtain ⟨d, k⟩ := r
    cases k with
    | fz => exact Rep.mono e h
    | «at» i => exact h
    | new => trivial
    | ro => trivial
def fzOne (r : RV) (ρ : Rho) : Option (D × Rho) := match r.2 with
  | .fz => some (r.1, ρ)
  | .at i => match ρ[i]? with
    | some (.own d) => some (d, ρ.set i (.fz d))
    | some (.fz d) => some (d, ρ)
    | _ => none
  | _ => none
def fzAll : List RV → Rho → Option (List D × Rho)
  | [], ρ => some ([], ρ)
  | r :: rs, ρ => (fzOne r ρ).bind fun x => (fzAll rs x.2).map fun y => (x.1 :: y.1, y.2)
section
variable {F : Fr} {B H : Hp} {σ : St} {ρ ρ' : Rho}
theorem Rel.frz (R : Rel F B H σ ρ) {v : V} {r : RV} {d : D} (w : WVal B σ v r) (e : fzOne r ρ = some (d, ρ')) : ∃ B', Rel F B' H σ ρ' ∧ Rep B' v d ∧ Ext σ ρ B H ρ' B' H := by
  obtain ⟨c, k⟩ := r
  cases k with
  | fz => cases e; exact ⟨B, R, w, Ext.refl _ _ _ _⟩
  | new => cases e
  | ro => cases e
  | «at» i =>
    have e' : (match ρ[i]? with
      | some (.own d) => some (d, ρ.set i (.fz d))
      | some (.fz d) => some (d, ρ)
      | _ => none) = some (d, ρ') := e
    cases q : ρ[i]? with
    | none => rw [q] at e'; cases e'
    | some s =>
      rw [q] at e'
      cases s with
      | own c => cases e'; exact R.freezeAt q w
      | fz c =>
        cases e'
        obtain ⟨x, h1, h2⟩ := R.slot i _ q
        have w' : σ[i]? = some (some v) := w
        rw [w'] at h1; cases h1
        exact ⟨B, R, h2, Ext.refl _ _ _ _⟩
      | no => cases e'
      | ex => cases e'
      | io c => cases e'
      | ro c => cases e'
theorem Rel.frzL : ∀ {rs : List RV} {vs : List V} {ds : List D} {B : Hp} {ρ ρ' : Rho}, Rel F B H σ ρ → WVl B σ vs rs → fzAll rs ρ = some (ds, ρ') → ∃ B', Rel F B' H σ ρ' ∧ Reps B' vs ds ∧ Ext σ ρ B H ρ' B' H
  | [], [], ds, B, ρ, ρ', R, _, e => by cases e; exact ⟨B, R, .nil, Ext.refl _ _ _ _⟩
  | r :: rs, v :: vs, ds, B, ρ, ρ', R, ⟨w, ws⟩, e => by
    obtain ⟨x, e1, e⟩ := Option.bind_eq_some_iff.mp e
    obtain ⟨y, e2, e⟩ := Option.map_eq_some_iff.mp e
    cases e
    obtain ⟨B1, R1, rp, E1⟩ := R.frz w e1
    obtain ⟨B2, R2, rps, E2⟩ := Rel.frzL R1 (ws.mono E1.sB) e2
    exact ⟨B2, R2, .cons (rp.mono E2.sB) rps, E1.trans E2⟩
  | [], _ :: _, _, _, _, _, _, h, _ => h.elim
  | _ :: _, [], _, _, _, _, _, h, _ => h.elim
end
noncomputable def mTup (m : Rho → Option (List RV × Rho)) : PM := fun ρ => (m ρ).bind fun x => (fzAll x.1 x.2).bind fun y => cIf (y.1.length ≤ sizeLine) (some ((.tuple y.1, .fz), y.2)) none
noncomputable def mLst (m : Rho → Option (List RV × Rho)) : PM := fun ρ => (m ρ).bind fun x => (fzAll x.1 x.2).bind fun y => cIf (y.1.length ≤ sizeLine) (some ((.list y.1, .new), y.2)) none
theorem me_tup {t : TA} {m : Rho → Option (List RV × Rho)} (h : MA t m) : ME (tTup t) (mTup m) := by
  intro F B H σ ρ r ρ' Q R e q
  obtain ⟨x, e1, e⟩ := Option.bind_eq_some_iff.mp e
  obtain ⟨y, e2, e⟩ := Option.bind_eq_some_iff.mp e
  obtain ⟨hz, e⟩ := cIf_eq e
  · cases e
    refine h F B H σ ρ x.1 x.2 _ R e1 fun vs B1 H1 E1 R1 V1 => ?_
    obtain ⟨B2, R2, rp, E2⟩ := Rel.frzL R1 V1.weak e2
    refine ⟨by rw [rp.length]; exact hz, fun p hp => ?_⟩
    have := res_end (res := (.tuple y.1, true)) (k := fun Q => ∀ p, H1 p = none → Q (.ref p) (upd H1 p (.tup vs))) (Q := Q) R2 ⟨vs, rp, fun Q h => h⟩ fun v B' H' E R' V' N => q v B' H' (E1.trans (E2.trans E)) R' V' fun p z => by cases z
    exact this p hp
theorem me_lst {t : TA} {m : Rho → Option (List RV × Rho)} (h : MA t m) : ME (tLst t) (mLst m) := by
  intro F B H σ ρ r ρ' Q R e q
  obtain ⟨x, e1, e⟩ := Option.bind_eq_some_iff.mp e
  obtain ⟨y, e2, e⟩ := Option.bind_eq_some_iff.mp e
  obtain ⟨hz, e⟩ := cIf_eq e
  · cases e
    refine h F B H σ ρ x.1 x.2 _ R e1 fun vs B1 H1 E1 R1 V1 => ?_
    obtain ⟨B2, R2, rp, E2⟩ := Rel.frzL R1 V1.weak e2
    refine ⟨by rw [rp.length]; exact hz, fun p hp => ?_⟩
    have := res_end (res := (.list y.1, true)) (k := fun Q => ∀ p, H1 p = none → Q (.ref p) (upd H1 p (.lst vs))) (Q := Q) R2 ⟨vs, rp, fun Q h => h⟩ fun v B' H' E R' V' N => q v B' H' (E1.trans (E2.trans E)) R' V' fun p z1 z2 => E1.live p (N p z1 z2)
    exact this p hp
def Views (B H : Hp) : List V → List D → Prop
  | [], [] => True
  | v :: vs, d :: ds => View B H v d ∧ Views B H vs ds
  | _, _ => False
theorem Vl.views {F : Fr} {B H : Hp} {σ : St} {ρ : Rho} (R : Rel F B H σ ρ) : ∀ {vs : List V} {rs : List RV}, Vl F B H σ ρ vs rs → Views B H vs (rs.map (·.1))
  | [], [], _ => trivial
  | v :: vs, r :: rs, ⟨⟨h, n⟩, t⟩ => ⟨h.view R, Vl.views R t⟩
def CallJ (r : List V → Hp → VK → Prop) (g : List D → Option (D × Bool)) : Prop := ∀ (B H : Hp) (vs : List V) (ds : List D) (res : D × Bool), Same B H → Views B H vs ds → g ds = some res → ResOk B H res fun Q => r vs H Q
def mCB (g : List D → Option (D × Bool)) (m : Rho → Option (List RV × Rho)) : PM := fun ρ => (m ρ).bind fun x => (g (x.1.map (·.1))).map fun res => (resK res, x.2)
theorem me_cb {r : List V → Hp → VK → Prop} {g : List D → Option (D × Bool)} {t : TA} {m : Rho → Option (List RV × Rho)} (J : CallJ r g) (h : MA t m) : ME (tCB r t) (mCB g m) := by
  intro F B H σ ρ r0 ρ' Q R e q
  obtain ⟨x, e1, e⟩ := Option.bind_eq_some_iff.mp e
  obtain ⟨res, e4, e⟩ := Option.map_eq_some_iff.mp e
  cases e
  refine h F B H σ ρ x.1 x.2 _ R e1 fun vs B1 H1 E1 R1 V1 => ?_
  exact res_end R1 (J B1 H1 vs _ res R1.sub (V1.views R1) e4) fun w B3 H3 E3 R3 V4 N4 => q w B3 H3 (E1.trans E3) R3 V4 fun p z1 z2 => E1.live p (N4 p z1 z2)
def mNoPart : Rho → Option (Option Int × Rho) := fun ρ => some (none, ρ)
def asI : RV × Rho → Option (Int × Rho)
  | ((.int i, _), ρ) => some (i, ρ)
  | _ => none
theorem asI_eq {x : RV × Rho} {b : Int} {ρ : Rho} (h : asI x = some (b, ρ)) : x.1.1 = .int b ∧ x.2 = ρ := by
  obtain ⟨⟨d, k⟩, ρ0⟩ := x
  cases d with
  | int c => cases h; exact ⟨rfl, rfl⟩
  | _ => cases h
def mPart (a : PM) : Rho → Option (Option Int × Rho) := fun ρ => ((sv a ρ).bind asI).map fun x => (some x.1, x.2)
def MO (t : TO) (m : Rho → Option (Option Int × Rho)) : Prop :=
  ∀ (F : Fr) (B H : Hp) (σ : St) (ρ : Rho) (b : Option Int) (ρ' : Rho) (Q : Option Int → Hp → Prop), Rel F B H σ ρ → m ρ = some (b, ρ') →
    (∀ B' H', Ext σ ρ B H ρ' B' H' → Rel F B' H' σ ρ' → Q b H') → t σ H Q
theorem mo_none : MO tNoPart mNoPart := by
  intro F B H σ ρ b ρ' Q R e q
  cases e
  exact q B H (Ext.refl _ _ _ _) R
theorem mo_some {ta : TE} {a : PM} (ha : ME ta a) : MO (tPart ta) (mPart a) := by
  intro F B H σ ρ b ρ' Q R e q
  obtain ⟨y, e1, e⟩ := Option.map_eq_some_iff.mp e
  obtain ⟨x, e2, e3⟩ := Option.bind_eq_some_iff.mp e1
  cases e
  obtain ⟨h1, h2⟩ := asI_eq (b := y.1) (ρ := y.2) e3
  refine ha.sv F B H σ ρ x.1 x.2 _ R e2 fun v B1 H1 E1 R1 V1 N1 => ?_
  have := V1.view R1
  rw [h1] at this
  rw [h2] at E1 R1
  exact ⟨y.1, this.int, q B1 H1 E1 R1⟩
def SlJ (r : V → Option Int → Option Int → Hp → VK → Prop) (g : D → Option Int → Option Int → Option (D × Bool)) : Prop :=
  ∀ (B H : Hp) (x : V) (c : D) (l u : Option Int) (res : D × Bool), Same B H → View B H x c → g c l u = some res → ResOk B H res fun Q => r x l u H Q
def mSl (g : D → Option Int → Option Int → Option (D × Bool)) (a : PM) (l u : Rho → Option (Option Int × Rho)) : PM := fun ρ => (sv a ρ).bind fun x => (l x.2).bind fun y => (u y.2).bind fun z => (refr z.2 x.1).bind fun r => (g r.1 y.1 z.1).map fun res => (resK res, z.2)
theorem me_sl {r : V → Option Int → Option Int → Hp → VK → Prop} {g : D → Option Int → Option Int → Option (D × Bool)} {ta : TE} {tl tu : TO} {a : PM} {l u : Rho → Option (Option Int × Rho)} (J : SlJ r g) (ha : ME ta a) (hl : MO tl l) (hu : MO tu u) : ME (tSl r ta tl tu) (mSl g a l u) := by
  intro F B H σ ρ r0 ρ' Q R e q
  obtain ⟨x, e1, e⟩ := Option.bind_eq_some_iff.mp e
  obtain ⟨y, e2, e⟩ := Option.bind_eq_some_iff.mp e
  obtain ⟨z, e3, e⟩ := Option.bind_eq_some_iff.mp e
  obtain ⟨r', e4, e⟩ := Option.bind_eq_some_iff.mp e
  obtain ⟨res, e5, e⟩ := Option.map_eq_some_iff.mp e
  cases e
  refine ha.sv F B H σ ρ x.1 x.2 _ R e1 fun v B1 H1 E1 R1 V1 N1 => ?_
  refine hl F B1 H1 σ x.2 y.1 y.2 _ R1 e2 fun B2 H2 E2 R2 => ?_
  refine hu F B2 H2 σ y.2 z.1 z.2 _ R2 e3 fun B3 H3 E3 R3 => ?_
  obtain ⟨V3, n3⟩ := V1.next (E2.trans E3) R3 (sv_kind e1) e4
  exact res_end R3 (J B3 H3 v r'.1 y.1 z.1 res R3.sub (V3.view R3) e5) fun w B4 H4 E4 R4 V4 N4 => q w B4 H4 ((E1.trans (E2.trans E3)).trans E4) R4 V4 fun p z1 z2 => (E1.trans (E2.trans E3)).live p (N4 p z1 z2)
end Mir
set_option Elab.async false
set_option linter.all false
set_option maxRecDepth 100000
namespace Mir
open PySem L2
variable [Zc]
mutual
def pureD : D → Bool
  | .none => true
  | .bool _ => true
  | .int _ => true
  | .str _ => true
  | .list _ => false
  | .tuple ds => pureDs ds
  | .dict _ => false
def pureDs : List D → Bool
  | [] => true
  | d :: ds => pureD d && pureDs ds
end
mutual
theorem Rep.ofPure {B B' : Hp} (k : ∀ q xs, B q = some (.tup xs) → B' q = some (.tup xs)) : ∀ {v : V} {d : D}, Rep B v d → pureD d = true → Rep B' v d
  | _, _, .non, _ => .non
  | _, _, .bl b, _ => .bl b
  | _, _, .int i, _ => .int i
  | _, _, .str x, _ => .str x
  | _, _, .lst _ _, h => by simp [pureD] at h
  | _, _, .dct _ _, h => by simp [pureD] at h
  | _, _, .tup h r, e => .tup (k _ _ h) (Reps.ofPure k r (by simpa [pureD] using e))
theorem Reps.ofPure {B B' : Hp} (k : ∀ q xs, B q = some (.tup xs) → B' q = some (.tup xs)) : ∀ {v : List V} {d : List D}, Reps B v d → pureDs d = true → Reps B' v d
  | _, _, .nil, _ => .nil
  | _, _, .cons a b, e => by
    simp only [pureDs, Bool.and_eq_true] at e
    exact .cons (Rep.ofPure k a e.1) (Reps.ofPure k b e.2)
end
theorem RepKs.ofPure {B B' : Hp} (k : ∀ q xs, B q = some (.tup xs) → B' q = some (.tup xs)) : ∀ {v : List (Key × V)} {d : List (D × D)}, RepKs B v d → pureDs (d.map (·.2)) = true → RepKs B' v d
  | _, _, .nil, _ => .nil
  | _, _, .cons c a b, e => by
    simp only [List.map_cons, pureDs, Bool.and_eq_true] at e
    exact .cons c (Rep.ofPure k a e.1) (RepKs.ofPure k b e.2)
def pureR (d : D) (o : Bool) : Bool := match o, d with
  | true, .list ds => pureDs ds
  | true, .dict es => pureDs (es.map (·.2))
  | true, _ => false
  | false, d => pureD d
structure Post (B H : Hp) (v : V) (B' H' : Hp) (d : D) (o : Bool) : Prop where
  eH : Same H H'
  eB : Same B B'
  sub : Same B' H'
  nb : ∀ q, H q ≠ none → B q = none → B' q = none
  tB : ∀ q xs, H' q = some (.tup xs) → B' q = some (.tup xs)
  nz : ∀ q o u, H' q = some (.frz o u) → H q ≠ none
  val : if o = true then ∃ p, v = .ref p ∧ H p = none ∧ B' p = none ∧ Own B' H' p d else Rep B' v d
def spM (f : List D → Option (D × Bool)) : Sp := fun vs H Q _ => ∃ B ds d o, Same B H ∧ (∀ q xs, H q = some (.tup xs) → B q = some (.tup xs)) ∧ Reps B vs ds ∧ f ds = some (d, o) ∧ ∀ v B' H', Post B H v B' H' d o → Q v H'
def kO (d : D) (o : Bool) : RV := (d, if o = true then .new else .fz)
def mCall (f : List D → Option (D × Bool)) (m : Rho → Option (List RV × Rho)) : PM := fun ρ => (m ρ).bind fun x => (f (x.1.map (·.1))).bind fun w =>
  if pureR w.1 w.2 = true then some (kO w.1 w.2, x.2) else (fzAll x.1 x.2).map fun y => (kO w.1 w.2, y.2)
theorem Views.reps {B H : Hp} (e : Same B H) : ∀ {vs : List V} {ds : List D}, Views B H vs ds → Reps H vs ds
  | [], [], _ => .nil
  | v :: vs, d :: ds, ⟨h, t⟩ => .cons (h.rep e) (Views.reps e t)
theorem fzAll_eq : ∀ {rs : List RV} {ρ ρ' : Rho} {ds : List D}, (∀ r ∈ rs, ∀ i, r.2 = .at i → ∃ s, ρ[i]? = some s ∧ slD s = r.1) → fzAll rs ρ = some (ds, ρ') → ds = rs.map (·.1)
  | [], _, _, _, _, e => by cases e; rfl
  | r :: rs, ρ, ρ', ds, h, e => by
    obtain ⟨x, e1, e⟩ := Option.bind_eq_some_iff.mp e
    obtain ⟨y, e2, e⟩ := Option.map_eq_some_iff.mp e
    cases e
    have hx : x.1 = r.1 ∧ ∀ (i : Nat) (s : Sl), ρ[i]? = some s → ∃ s', x.2[i]? = some s' ∧ slD s' = slD s := by
      obtain ⟨d, k⟩ := r
      cases k with
      | fz => cases e1; exact ⟨rfl, fun i s h => ⟨s, h, rfl⟩⟩
      | new => cases e1
      | ro => cases e1
      | «at» i =>
        obtain ⟨s, h1, h2⟩ := h (d, .at i) (by simp) i rfl
        have e' : (match ρ[i]? with
          | some (.own d) => some (d, ρ.set i (.fz d))
          | some (.fz d) => some (d, ρ)
          | _ => none) = some x := e1
        rw [h1] at e'
        cases s with
        | own c =>
          cases e'
          refine ⟨h2, fun j t hj => ?_⟩
          by_cases z : j = i
          · subst z
            rw [h1] at hj; cases hj
            obtain ⟨hl, _⟩ := List.getElem?_eq_some_iff.mp h1
            exact ⟨.fz c, by rw [List.getElem?_set_self hl], rfl⟩
          · exact ⟨t, by rw [List.getElem?_set_ne (fun e => z e.symm)]; exact hj, rfl⟩
        | fz c => cases e'; exact ⟨h2, fun i s h => ⟨s, h, rfl⟩⟩
        | no => cases e'
        | ex => cases e'
        | io c => cases e'
        | ro c => cases e'
    rw [List.map_cons, hx.1, fzAll_eq (ρ := x.2) (fun r hr i hi => ?_) e2]
    obtain ⟨s, h1, h2⟩ := h r (List.mem_cons_of_mem _ hr) i hi
    obtain ⟨s', h3, h4⟩ := hx.2 i s h1
    exact ⟨s', h3, h4.trans h2⟩
theorem Vl.at {F : Fr} {B H : Hp} {σ : St} {ρ : Rho} : ∀ {vs : List V} {rs : List RV}, Vl F B H σ ρ vs rs → ∀ r ∈ rs, ∀ i, r.2 = .at i → ∃ s, ρ[i]? = some s ∧ slD s = r.1
  | [], [], _, r', hr, i, hi => by cases hr
  | v :: vs, r :: rs, ⟨⟨h, _⟩, t⟩, r', hr, i, hi => by
    rcases List.mem_cons.mp hr with rfl | hr
    · obtain ⟨d, k⟩ := r'
      cases (show k = .at i from hi)
      obtain ⟨s, h1, _, h2, _⟩ := h
      exact ⟨s, h1, h2⟩
    · exact Vl.at t r' hr i hi
theorem me_call {f : List D → Option (D × Bool)} {E : XK} {t : TA} {m : Rho → Option (List RV × Rho)} (h : MA t m) : ME (tCall (spM f) [] E t) (mCall f m) := by
  intro F B H σ ρ r0 ρ' Q R e q
  obtain ⟨x, e1, e⟩ := Option.bind_eq_some_iff.mp e
  obtain ⟨w, e2, e⟩ := Option.bind_eq_some_iff.mp e
  refine h F B H σ ρ x.1 x.2 _ R e1 fun vs B1 H1 E1 R1 V1 => ?_
  rw [List.append_nil]
  by_cases hp : pureR w.1 w.2 = true
  · rw [if_pos hp] at e
    cases e
    refine ⟨H1, _, w.1, w.2, Same.refl _, fun _ _ z => z, (V1.views R1).reps R1.sub, e2, fun v B' H' P => ?_⟩
    let B2 : Hp := fun q => if H1 q = none then B' q else B1 q
    have old : ∀ q, H1 q ≠ none → B2 q = B1 q := fun q z => if_neg z
    have new : ∀ q, H1 q = none → B2 q = B' q := fun q z => if_pos z
    have eB : Same B1 B2 := fun q o z => by rw [old q (by rw [R1.sub q o z]; simp)]; exact z
    have sub : Same B2 H' := fun q o z => by
      by_cases y : H1 q = none
      · rw [new q y] at z; exact P.sub q o z
      · rw [old q y] at z; exact P.eH q o (R1.sub q o z)
    have nb : ∀ q, H1 q ≠ none → B1 q = none → B2 q = none := fun q y z => by rw [old q y]; exact z
    have tB : ∀ q xs, H' q = some (.tup xs) → B2 q = some (.tup xs) := fun q xs z => by
      cases y : H1 q with
      | none => rw [new q y]; exact P.tB q xs z
      | some o =>
        have := P.eH q o y
        rw [z] at this
        cases this
        rw [old q (by rw [y]; simp)]; exact R1.tupB q xs y
    have kt : ∀ q xs, B' q = some (.tup xs) → B2 q = some (.tup xs) := fun q xs z => tB q xs (P.sub q _ z)
    have R2 := R1.grow eB P.eH sub nb tB P.nz
    have E2 : Ext σ x.2 B1 H1 x.2 B2 H' := Ext.grow eB P.eH nb
    obtain ⟨d, o⟩ := w
    cases o with
    | false =>
      have pv : Rep B' v d := P.val
      exact q v B2 H' (E1.trans E2) R2 (show Rep B2 v d from pv.ofPure kt hp) fun p z => by cases z
    | true =>
      obtain ⟨p, rfl, h1, h2, h3⟩ : ∃ p, v = .ref p ∧ H1 p = none ∧ B' p = none ∧ Own B' H' p d := P.val
      have fr := R1.free h1
      refine q _ B2 H' (E1.trans E2) R2 ⟨p, rfl, by rw [new p h1]; exact h2, fr.2.1, ?_, fr.2.2⟩ fun p' _ z => by cases z; exact E1.live p h1
      cases h3 with
      | lst h r => exact .lst h (r.ofPure kt hp)
      | dct h r => exact .dct h (r.ofPure kt hp)
  · rw [if_neg hp] at e
    obtain ⟨y, e3, e⟩ := Option.map_eq_some_iff.mp e
    cases e
    obtain ⟨B2, R2, rp, E2⟩ := Rel.frzL R1 V1.weak e3
    have hd := fzAll_eq V1.at e3
    rw [hd] at rp
    refine ⟨B2, _, w.1, w.2, R2.sub, R2.tupB, rp, e2, fun v B' H' P => ?_⟩
    have R3 := R2.grow P.eB P.eH P.sub P.nb P.tB P.nz
    have E3 : Ext σ y.2 B2 H1 y.2 B' H' := Ext.grow P.eB P.eH P.nb
    obtain ⟨d, o⟩ := w
    cases o with
    | false =>
      have pv : Rep B' v d := P.val
      exact q v B' H' (E1.trans (E2.trans E3)) R3 pv fun p z => by cases z
    | true =>
      obtain ⟨p, rfl, h1, h2, h3⟩ : ∃ p, v = .ref p ∧ H1 p = none ∧ B' p = none ∧ Own B' H' p d := P.val
      have fr := R2.free h1
      exact q _ B' H' (E1.trans (E2.trans E3)) R3 ⟨p, rfl, h2, fr.2.1, h3, fr.2.2⟩ fun p' _ z => by cases z; exact E1.live p h1
def YldOk (B H : Hp) (x : V) (H' : Hp) (d : D) : Prop := (H' = H ∧ Rep B x d) ∨ ∃ p xs cs, d = .tuple cs ∧ x = .ref p ∧ H p = none ∧ H' = upd H p (.tup xs) ∧ Reps B xs cs
def ItOk (G B : Hp) (J : It) (ds : List D) : Prop := ∀ H, Same G H → J.stop ds.length H ∧ ∀ (i : Nat) (d : D), ds[i]? = some d → J.go i H ∧ ∀ x H', J.yld i H x H' → YldOk B H x H' d
theorem ItOk.mono {G B B' : Hp} {J : It} {ds : List D} (h : ItOk G B J ds) (e : Same B B') : ItOk G B' J ds := fun H s => ⟨(h H s).1, fun i d hd => ⟨((h H s).2 i d hd).1, fun x H' y => by
  rcases ((h H s).2 i d hd).2 x H' y with ⟨h1, h2⟩ | ⟨p, xs, cs, h1, h2, h3, h4, h5⟩
  · exact .inl ⟨h1, h2.mono e⟩
  · exact .inr ⟨p, xs, cs, h1, h2, h3, h4, h5.mono e⟩⟩⟩
def MI (t : TI) (m : Rho → Option (List D × Rho)) : Prop :=
  ∀ (F : Fr) (B H : Hp) (σ : St) (ρ : Rho) (ds : List D) (ρ' : Rho) (Q : It → Hp → Prop), Rel F B H σ ρ → m ρ = some (ds, ρ') →
    (∀ J B' H', Ext σ ρ B H ρ' B' H' → Rel F B' H' σ ρ' → ItOk H' B' J ds → Q J H') → t σ H Q
def MF (t : TI) (m : Rho → Option (List D × Rho)) : Prop :=
  ∀ (F : Fr) (B H : Hp) (σ : St) (ρ : Rho) (ds : List D) (ρ' : Rho) (Q : It → Hp → Prop), Rel F B H σ ρ → m ρ = some (ds, ρ') →
    (∀ J B' H', Ext σ ρ B H ρ' B' H' → Rel F B' H' σ ρ' → ItOk B' B' J ds → Q J H') → t σ H Q
theorem rd_sq {K : PySem.W.Frag} {H : Hp} {p : Addr} {xs : List V} (h : Rd H p (.lst xs)) : SqL K H p xs := .inl h
theorem itl_ok {K : PySem.W.Frag} {G B : Hp} {p : Addr} {xs : List V} {ds : List D} (h : Rd G p (.lst xs)) (r : Reps B xs ds) : ItOk G B (Itl K p) ds := fun H s => by
  have h' : SqL K H p xs := rd_sq (rd_same s h)
  refine ⟨⟨xs, h', by rw [r.length]; exact Nat.le_refl _⟩, fun i d hd => ?_⟩
  obtain ⟨x, h1, h2⟩ := r.get i d hd
  refine ⟨⟨xs, x, h', h1⟩, fun y H' hy => .inl ⟨hy.1, ?_⟩⟩
  have := hy.2 xs h'
  rw [h1] at this
  cases this
  exact h2
def asL : D → Option (List D)
  | .list ds => some ds
  | _ => none
theorem asL_eq {d : D} {ds : List D} (h : asL d = some ds) : d = .list ds := by cases d <;> first | cases h; rfl | cases h
def mItL (a : PM) : Rho → Option (List D × Rho) := fun ρ => (sv a ρ).bind fun x => (asL x.1.1).map fun ds => (ds, x.2)
def mFoL (a : PM) : Rho → Option (List D × Rho) := fun ρ => (sv a ρ).bind fun x => (fzOne x.1 x.2).bind fun y => (asL y.1).map fun ds => (ds, y.2)
section
variable {K : PySem.W.Frag} {ta : TE} {a : PM}
theorem mi_list (ha : ME ta a) : MI (iList K ta) (mItL a) := by
  intro F B H σ ρ ds ρ' Q R e q
  obtain ⟨x, e1, e⟩ := Option.bind_eq_some_iff.mp e
  obtain ⟨ds', e2, e⟩ := Option.map_eq_some_iff.mp e
  cases e
  refine ha.sv F B H σ ρ x.1 x.2 _ R e1 fun v B1 H1 E1 R1 V1 N1 => ?_
  have w := V1.view R1
  rw [asL_eq e2] at w
  obtain ⟨p, xs, rfl, h1, h2⟩ := w.list R1.sub
  exact ⟨p, rfl, ⟨xs, rd_sq h1⟩, q _ B1 H1 E1 R1 (itl_ok h1 h2)⟩
theorem mf_list (ha : ME ta a) : MF (iList K ta) (mFoL a) := by
  intro F B H σ ρ ds ρ' Q R e q
  obtain ⟨x, e1, e⟩ := Option.bind_eq_some_iff.mp e
  obtain ⟨y, e3, e⟩ := Option.bind_eq_some_iff.mp e
  obtain ⟨ds', e2, e⟩ := Option.map_eq_some_iff.mp e
  cases e
  refine ha.sv F B H σ ρ x.1 x.2 _ R e1 fun v B1 H1 E1 R1 V1 N1 => ?_
  have w : WVal B1 σ v x.1 := (Vl.weak (F := F) (H := H1) (ρ := x.2) (vs := [v]) (rs := [x.1]) ⟨⟨V1, sv_kind e1⟩, trivial⟩).1
  obtain ⟨B2, R2, rp, E2⟩ := R1.frz w e3
  rw [asL_eq e2] at rp
  cases rp with
  | lst h r => exact ⟨_, rfl, ⟨_, rd_sq (rd_same R2.sub h)⟩, q _ B2 H1 (E1.trans E2) R2 (itl_ok h r)⟩
end
def rngD (lo : Int) (n : Nat) : List D := (List.range n).map fun (k : Nat) => PyData.int (lo + (k : Int))
theorem itr_ok {G B : Hp} {lo : Int} {n : Nat} : ItOk G B (Itr lo n) (rngD lo n) := fun H _ => by
  refine ⟨by simp [rngD, Itr], fun i d hd => ?_⟩
  rw [rngD, List.getElem?_map] at hd
  obtain ⟨k, h1, h2⟩ := Option.map_eq_some_iff.mp hd
  have hk := List.getElem?_eq_some_iff.mp h1
  obtain ⟨hl, hk⟩ := hk
  rw [List.getElem_range] at hk
  rw [List.length_range] at hl
  subst hk
  refine ⟨hl, fun x H' hy => .inl ⟨hy.1, ?_⟩⟩
  rw [hy.2, ← h2]
  exact .int _
noncomputable def rg1 : List RV × Rho → Option (List D × Rho)
  | ([(.int j, _)], ρ) => cIf (-(2 ^ 62) ≤ j ∧ j < 2 ^ 62) (some (rngD 0 j.toNat, ρ)) none
  | _ => none
noncomputable def mRg1 (m : Rho → Option (List RV × Rho)) : Rho → Option (List D × Rho) := fun ρ => (m ρ).bind rg1
section
variable {ta : TA} {m : Rho → Option (List RV × Rho)}
theorem rng1_gen (h : MA ta m) (F : Fr) (B H : Hp) (σ : St) (ρ : Rho) (ds : List D) (ρ' : Rho) (Q : It → Hp → Prop) (R : Rel F B H σ ρ) (e : mRg1 m ρ = some (ds, ρ'))
    (q : ∀ J B' H', Ext σ ρ B H ρ' B' H' → Rel F B' H' σ ρ' → (∀ G, ItOk G B' J ds) → Q J H') : iRng1 ta σ H Q := by
  obtain ⟨x, e1, e⟩ := Option.bind_eq_some_iff.mp e
  refine h F B H σ ρ x.1 x.2 _ R e1 fun vs B1 H1 E1 R1 V1 => ?_
  obtain ⟨rs, ρ2⟩ := x
  unfold rg1 at e
  split at e
  · rename_i j k ρ3 heq
    cases heq
    obtain ⟨hj, e⟩ := cIf_eq e
    · cases e
      match vs, V1 with
      | [v], ⟨⟨h1, _⟩, _⟩ =>
        have : v = .int j := (h1.view R1).int
        subst this
        exact ⟨j, rfl, hj.1, hj.2, q _ B1 H1 E1 R1 fun G => itr_ok⟩
  · cases e
theorem mi_rng1 (h : MA ta m) : MI (iRng1 ta) (mRg1 m) := fun F B H σ ρ ds ρ' Q R e q => rng1_gen h F B H σ ρ ds ρ' Q R e fun J B' H' E R' I => q J B' H' E R' (I _)
theorem mf_rng1 (h : MA ta m) : MF (iRng1 ta) (mRg1 m) := fun F B H σ ρ ds ρ' Q R e q => rng1_gen h F B H σ ρ ds ρ' Q R e fun J B' H' E R' I => q J B' H' E R' (I _)
end
end Mir
set_option Elab.async false
set_option linter.all false
set_option maxRecDepth 100000
namespace Mir
open PySem L2
variable [Zc]
theorem itb_ok {K : PySem.W.Frag} {G B : Hp} {p : Addr} {xs : List V} {ds : List D} (h : Rd G p (.lst xs)) (r : Reps B xs ds) : ItOk G B (Itb K p xs.length) ds.reverse := fun H s => by
  have h' : SqL K H p xs := rd_sq (rd_same s h)
  refine ⟨by show ds.reverse.length = xs.length; rw [List.length_reverse, r.length], fun i d hd => ?_⟩
  have hl : i < ds.length := by
    obtain ⟨hl, _⟩ := List.getElem?_eq_some_iff.mp hd
    simpa using hl
  rw [List.getElem?_reverse hl] at hd
  rw [← r.length] at hd hl
  obtain ⟨x, h1, h2⟩ := r.get _ d hd
  refine ⟨⟨hl, xs, x, rfl, h', h1⟩, fun y H' hy => .inl ⟨hy.1, ?_⟩⟩
  have := hy.2 xs h'
  rw [h1] at this
  cases this
  exact h2
def one1 : List RV × Rho → Option (RV × Rho)
  | ([r], ρ) => some (r, ρ)
  | _ => none
def mFoV (m : Rho → Option (List RV × Rho)) : Rho → Option (List D × Rho) := fun ρ => ((m ρ).bind one1).bind fun x => (fzOne x.1 x.2).bind fun y => (asL y.1).map fun ds => (ds.reverse, y.2)
theorem one1_eq {x : List RV × Rho} {y : RV × Rho} (h : one1 x = some y) : x = ([y.1], y.2) := by
  obtain ⟨rs, ρ⟩ := x
  unfold one1 at h
  split at h
  · rename_i heq; cases heq; cases h; rfl
  · cases h
section
variable {K : PySem.W.Frag} {ta : TA} {m : Rho → Option (List RV × Rho)}
theorem mf_rev (h : MA ta m) : MF (iRev K ta) (mFoV m) := by
  intro F B H σ ρ ds ρ' Q R e q
  obtain ⟨x, e0, e⟩ := Option.bind_eq_some_iff.mp e
  obtain ⟨x0, e1, e3⟩ := Option.bind_eq_some_iff.mp e0
  obtain ⟨y, e4, e⟩ := Option.bind_eq_some_iff.mp e
  obtain ⟨ds', e2, e⟩ := Option.map_eq_some_iff.mp e
  cases e
  rw [one1_eq e3] at e1
  refine h F B H σ ρ _ _ _ R e1 fun vs B1 H1 E1 R1 V1 => ?_
  match vs, V1 with
  | [v], V1 =>
    obtain ⟨B2, R2, rp, E2⟩ := R1.frz V1.weak.1 e4
    rw [asL_eq e2] at rp
    cases rp with
    | lst h r => exact ⟨_, _, rfl, rd_sq (rd_same R2.sub h), q _ B2 H1 (E1.trans E2) R2 (itb_ok h r)⟩
end
def demote (ρ : Rho) (i : Nat) : Sl := match ρ[i]? with
  | some (.own d) => .ro d
  | some (.io d) => .ro d
  | some .ex => .no
  | some s => s
  | none => .no
def asF : RV → Option D
  | (d, .fz) => some d
  | _ => none
theorem asF_eq {r : RV} {d : D} (h : asF r = some d) : r = (d, .fz) := by
  obtain ⟨c, k⟩ := r
  cases k with
  | fz => cases h; rfl
  | _ => cases h
def compL (c : Rho → Option (Bool × Rho)) (e : PM) (ρn : Rho) : List D → Option (List D)
  | [] => some []
  | d :: ds => (c (.fz d :: ρn)).bind fun b => if b.1 = true then (sv e (.fz d :: ρn)).bind fun y => (asF y.1).bind fun z => (compL c e ρn ds).map (z :: ·) else compL c e ρn ds
noncomputable def mLC (fr : List (Str × Nat)) (it : Rho → Option (List D × Rho)) (c : Rho → Option (Bool × Rho)) (e : PM) : PM := fun ρ => (it ρ).bind fun x => (compL c e (fr.map fun p => demote x.2 p.2) x.1).bind fun ys => cIf (ys.length < sizeLine) (some ((.list ys, .new), x.2)) none
def mYes : Rho → Option (Bool × Rho) := fun ρ => some (true, ρ)
theorem mt_yes : MT tYes mYes := by
  intro F B H σ ρ b ρ' Q R e q
  cases e
  exact q B H (Ext.refl _ _ _ _) R
def F0 (H : Hp) : Fr := ⟨fun _ => none, fun _ => none, [], fun q => H q ≠ none⟩
theorem demote_ex {ρ : Rho} {i : Nat} : demote ρ i ≠ .ex := by
  unfold demote
  cases h : ρ[i]? with
  | none => simp
  | some s => cases s <;> simp
theorem demote_own {ρ : Rho} {i : Nat} : (demote ρ i).isOwn = false := by
  unfold demote
  cases h : ρ[i]? with
  | none => rfl
  | some s => cases s <;> rfl
theorem Rel.inner {F : Fr} {B H : Hp} {σ : St} {ρ : Rho} (R : Rel F B H σ ρ) (fr : List (Str × Nat)) {v : V} {d : D} (h : Rep B v d) : Rel (F0 H) B H (some v :: compRest σ fr) (.fz d :: fr.map fun p => demote ρ p.2) := by
  have nown : ∀ (i : Nat) (s : Sl), (Sl.fz d :: fr.map fun p => demote ρ p.2)[i]? = some s → s.isOwn = true → False := fun i s h1 h2 => by
    cases i with
    | zero => cases h1; cases h2
    | succ i =>
      have h1' : (fr.map fun p => demote ρ p.2)[i]? = some s := by simpa using h1
      rw [List.getElem?_map] at h1'
      obtain ⟨p, _, e⟩ := Option.map_eq_some_iff.mp h1'
      rw [← e, demote_own] at h2
      cases h2
  have nex : ∀ i : Nat, (Sl.fz d :: fr.map fun p => demote ρ p.2)[i]? = some Sl.ex → False := fun i h1 => by
    cases i with
    | zero => cases h1
    | succ i =>
      have h1' : (fr.map fun p => demote ρ p.2)[i]? = some Sl.ex := by simpa using h1
      rw [List.getElem?_map] at h1'
      obtain ⟨p, _, e⟩ := Option.map_eq_some_iff.mp h1'
      exact absurd e demote_ex
  refine ⟨R.sub, (fun _ _ z => by cases z), (fun _ _ z => by cases z), fun _ z _ => absurd rfl z, by simp [compRest], fun i s hs => ?_, fun i j s t p h1 h2 => (nown i s h1 h2).elim, fun i d p h1 => (nown i _ h1 rfl).elim, (fun x hx => by cases hx), fun i d h1 => (nown i _ h1 rfl).elim, R.tupB, (fun i h1 => (nex i h1).elim), fun q o u h z => by rw [z] at h; cases h⟩
  cases i with
  | zero => cases hs; exact ⟨v, rfl, h⟩
  | succ i =>
    have hs' : (fr.map fun p => demote ρ p.2)[i]? = some s := by simpa using hs
    rw [List.getElem?_map] at hs'
    obtain ⟨p, hp, e⟩ := Option.map_eq_some_iff.mp hs'
    have hσ : ∀ x, σ[p.2]? = some (some x) → (some v :: compRest σ fr)[i + 1]? = some (some x) := fun x hx => by
      rw [List.getElem?_cons_succ]
      unfold compRest
      rw [List.getElem?_map, hp, Option.map_some, List.getD_eq_getElem?_getD, hx]
      rfl
    unfold demote at e
    cases q : ρ[p.2]? with
    | none => rw [q] at e; subst e; trivial
    | some s0 =>
      rw [q] at e
      have sl := R.slot p.2 s0 q
      cases s0 with
      | no => subst e; trivial
      | ex => subst e; trivial
      | fz c => subst e; obtain ⟨x, h1, h2⟩ := sl; exact ⟨x, hσ _ h1, h2⟩
      | own c => subst e; obtain ⟨x, h1, _, h2⟩ := sl; exact ⟨x, hσ _ h1, h2⟩
      | io c => subst e; obtain ⟨x, h1, _, h2⟩ := sl; exact ⟨x, hσ _ h1, h2⟩
      | ro c => subst e; obtain ⟨x, h1, h2⟩ := sl; exact ⟨x, hσ _ h1, h2⟩
theorem inner_ext {ρ ρ' : Rho} {σ : St} {B H B' H' : Hp} (nown : ∀ (i : Nat) (s : Sl), ρ[i]? = some s → s.isOwn = true → False) (E : Ext σ ρ B H ρ' B' H') : Same H H' ∧ ∀ q, H q ≠ none → B q = none → B' q = none := by
  have k : ∀ q o, H q = some o → H' q = some o ∧ (B q = none → B' q = none) := fun q o h => E.keep q o h fun i s h1 h2 => (nown i s h1 h2).elim
  refine ⟨fun q o h => (k q o h).1, fun q h z => ?_⟩
  cases e : H q with
  | none => exact absurd e h
  | some o => exact (k q o e).2 z
theorem inner_nown {fr : List (Str × Nat)} {ρ : Rho} {d : D} (i : Nat) (s : Sl) (h1 : (Sl.fz d :: fr.map fun p => demote ρ p.2)[i]? = some s) (h2 : s.isOwn = true) : False := by
  cases i with
  | zero => cases h1; cases h2
  | succ i =>
    have h1' : (fr.map fun p => demote ρ p.2)[i]? = some s := by simpa using h1
    rw [List.getElem?_map] at h1'
    obtain ⟨p, _, e⟩ := Option.map_eq_some_iff.mp h1'
    rw [← e, demote_own] at h2
    cases h2
theorem me_lc {fr : List (Str × Nat)} {wi : TI} {tc : TT} {te : TE} {it : Rho → Option (List D × Rho)} {c : Rho → Option (Bool × Rho)} {e : PM} (hi : MI wi it) (hc : MT tc c) (he : ME te e) : ME (tLC fr wi tc te) (mLC fr it c e) := by
  intro F B H σ ρ r0 ρ' Q R e0 q
  obtain ⟨x, e1, e0⟩ := Option.bind_eq_some_iff.mp e0
  obtain ⟨out, e2, e0⟩ := Option.bind_eq_some_iff.mp e0
  obtain ⟨hz, e0⟩ := cIf_eq e0
  cases e0
  refine hi F B H σ ρ x.1 x.2 _ R e1 fun J B1 H1 E1 R1 I1 => ?_
  obtain ⟨ds, ρ1⟩ := x
  refine ⟨fun i m ys H2 => m = ds.length - i ∧ i ≤ ds.length ∧ ∃ B2 done rest, Same B1 B2 ∧ Same H1 H2 ∧ (∀ q, H1 q ≠ none → B1 q = none → B2 q = none) ∧ Rel F B2 H2 σ ρ1 ∧ Reps B2 ys done ∧ compL c e (fr.map fun p => demote ρ1 p.2) (ds.drop i) = some rest ∧ done ++ rest = out,
    ⟨ds.length, rfl, Nat.zero_le _, B1, [], out, Same.refl _, Same.refl _, fun _ _ z => z, R1, .nil, e2, rfl⟩, ?_⟩
  rintro i m ys H2 ⟨rfl, hil, B2, done, rest, eB, eH, nb, R2, rp, hcl, hdr⟩
  have hlen : ys.length ≤ out.length := by rw [← hdr, List.length_append, rp.length]; omega
  refine ⟨by omega, ?_⟩
  by_cases hlt : i < ds.length
  · refine .inr ?_
    obtain ⟨go, yl⟩ := (I1 H2 eH).2 i ds[i] (List.getElem?_eq_getElem hlt)
    refine ⟨go, fun v H3 hy => ?_⟩
    rw [List.drop_eq_getElem_cons hlt] at hcl
    obtain ⟨b, c1, c2⟩ := Option.bind_eq_some_iff.mp (show (c (.fz ds[i] :: fr.map fun p => demote ρ1 p.2)).bind _ = some rest from hcl)
    have had : ∃ B3, Same B2 B3 ∧ Same H2 H3 ∧ (∀ q, H2 q ≠ none → B2 q = none → B3 q = none) ∧ Rel F B3 H3 σ ρ1 ∧ Rep B3 v ds[i] := by
      rcases yl v H3 hy with ⟨rfl, h2⟩ | ⟨p, xs, cs, h1, rfl, h3, rfl, h5⟩
      · exact ⟨B2, Same.refl _, Same.refl _, fun _ _ z => z, R2, h2.mono eB⟩
      · obtain ⟨R3, E3, e3⟩ := R2.layT (xs := xs) h3
        refine ⟨_, e3, same_upd h3, fun q h z => ?_, R3, ?_⟩
        · rw [upd_ne (show q ≠ p from fun y => h (by rw [y]; exact h3))]; exact z
        · rw [h1]; exact .tup upd_same (h5.mono (eB.trans e3))
    obtain ⟨B3, eB3, eH3, nb3, R3, rv⟩ := had
    have Ri := R3.inner fr rv
    refine hc (F0 H3) B3 H3 _ _ b.1 b.2 _ Ri c1 fun B4 H4 E4 R4 => ?_
    obtain ⟨eH4, nb4⟩ := inner_ext inner_nown E4
    have R4o : Rel F B4 H4 σ ρ1 := R3.grow E4.sB eH4 R4.sub nb4 R4.tupB R4.nz
    have nbA : ∀ q, H1 q ≠ none → B1 q = none → B4 q = none := fun q h z => by
      have h2 : H2 q ≠ none := fun y => h (eH.free y)
      have h3 : H3 q ≠ none := fun y => h2 (eH3.free y)
      exact nb4 q h3 (nb3 q h2 (nb q h z))
    cases hb : b.1 with
    | false =>
      rw [hb, if_neg Bool.false_ne_true] at c2
      rw [if_neg Bool.false_ne_true]
      exact ⟨ds.length - (i + 1), by omega, rfl, hlt, B4, done, rest, eB.trans (eB3.trans E4.sB), eH.trans (eH3.trans eH4), nbA, R4o, rp.mono (eB3.trans E4.sB), c2, hdr⟩
    | true =>
      rw [hb, if_pos rfl] at c2
      rw [if_pos rfl]
      obtain ⟨y, c3, c2⟩ := Option.bind_eq_some_iff.mp c2
      obtain ⟨z, c4, c2⟩ := Option.bind_eq_some_iff.mp c2
      obtain ⟨rest', c5, c6⟩ := Option.map_eq_some_iff.mp c2
      subst c6
      have Ri4 := R4o.inner fr (rv.mono E4.sB)
      refine he.sv (F0 H4) B4 H4 _ _ y.1 y.2 _ Ri4 c3 fun u B5 H5 E5 R5 V5 N5 => ?_
      obtain ⟨eH5, nb5⟩ := inner_ext inner_nown E5
      have R5o : Rel F B5 H5 σ ρ1 := R4o.grow E5.sB eH5 R5.sub nb5 R5.tupB R5.nz
      rw [asF_eq c4] at V5
      refine ⟨ds.length - (i + 1), by omega, rfl, hlt, B5, done ++ [z], rest', eB.trans (eB3.trans (E4.sB.trans E5.sB)), eH.trans (eH3.trans (eH4.trans eH5)), fun q h w => ?_, R5o, (rp.mono (eB3.trans (E4.sB.trans E5.sB))).append (.cons V5 .nil), c5, by rw [List.append_assoc]; exact hdr⟩
      have h2 : H2 q ≠ none := fun y => h (eH.free y)
      have h3 : H3 q ≠ none := fun y => h2 (eH3.free y)
      have h4 : H4 q ≠ none := fun y => h3 (eH4.free y)
      exact nb5 q h4 (nbA q h w)
  · have hi' : i = ds.length := by omega
    subst hi'
    refine .inl ⟨(I1 H2 eH).1, fun p hp => ?_⟩
    rw [List.drop_length] at hcl
    cases hcl
    rw [List.append_nil] at hdr
    subst hdr
    have E2 : Ext σ ρ1 B1 H1 ρ1 B2 H2 := Ext.grow eB eH nb
    have := res_end (res := (.list done, true)) (k := fun Q => ∀ p, H2 p = none → Q (.ref p) (upd H2 p (.lst ys))) (Q := Q) R2 ⟨ys, rp, fun Q h => h⟩ fun v B' H' E R' V' N => q v B' H' ((E1.trans E2).trans E) R' V' fun p z1 z2 => (E1.trans E2).live p (N p z1 z2)
    exact this p hp
end Mir
set_option Elab.async false
set_option linter.all false
set_option maxRecDepth 100000
namespace Mir
open PySem L2
variable [Zc]
def Sl.put : Sl → D → Sl
  | .own _, d => .own d
  | .io _, d => .io d
  | s, _ => s
section
variable {F : Fr} {B H : Hp} {σ : St} {ρ ρ' : Rho} {v : V}
theorem SlotOk.at {B H : Hp} {σ σ' : St} {i : Nat} {s : Sl} (e : σ'[i]? = σ[i]?) (h : SlotOk B H σ i s) : SlotOk B H σ' i s := by
  unfold SlotOk at h ⊢
  rw [e]; exact h
theorem Rel.write (R : Rel F B H σ ρ) {i : Nat} {s : Sl} {p : Addr} {o : HO} {d : D} (hi : ρ[i]? = some s) (hs : s.isOwn = true) (hv : σ[i]? = some (some (.ref p))) (no : (∀ xs, o ≠ .tup xs) ∧ ∀ a u, o ≠ .frz a u) (ow : Own B (upd H p o) p d) :
    Rel F B (upd H p o) σ (ρ.set i (s.put d)) ∧ Ext σ ρ B H (ρ.set i (s.put d)) B (upd H p o) := by
  obtain ⟨p', e1, hB, o0⟩ := R.ownAt hi hs
  rw [hv] at e1
  cases e1
  have hl : i < ρ.length := (List.getElem?_eq_some_iff.mp hi).1
  have pO : (s.put d).isOwn = true ∧ slD (s.put d) = d := by cases s <;> first | exact ⟨rfl, rfl⟩ | cases hs
  have ne : ∀ (j : Nat) (t : Sl) (q : Addr), j ≠ i → ρ[j]? = some t → t.isRef = true → σ[j]? = some (some (.ref q)) → q ≠ p := fun j t q hj h1 h2 h3 z => hj (R.dist i j s t p hi hs h1 h2 hv (z ▸ h3)).symm
  have nio : ∀ (j : Nat) (t : Sl), (ρ.set i (s.put d))[j]? = some t → ∃ t0, ρ[j]? = some t0 ∧ t.isOwn = t0.isOwn ∧ t.isRef = t0.isRef ∧ (∀ c, t = .own c → ∃ c0, t0 = .own c0) ∧ ∀ c, t = .io c → ∃ c0, t0 = .io c0 := fun j t h => by
    rcases get_set h with ⟨rfl, rfl, _⟩ | ⟨_, h⟩
    · refine ⟨s, hi, ?_⟩
      cases s with
      | own c => exact ⟨rfl, rfl, fun _ _ => ⟨_, rfl⟩, fun _ z => by cases z⟩
      | io c => exact ⟨rfl, rfl, (fun _ z => by cases z), fun _ _ => ⟨_, rfl⟩⟩
      | _ => cases hs
    · exact ⟨t, h, rfl, rfl, fun c z => ⟨c, z⟩, fun c z => ⟨c, z⟩⟩
  have hF : F.H p = none ∨ ∃ x ∈ F.io, x.2 = p := by
    cases s with
    | own c => exact .inl (R.ownN i c p hi hv)
    | io c =>
      obtain ⟨p', hp⟩ := R.ioN i c hi
      obtain ⟨h1, _⟩ := R.fx _ hp
      have h1' : σ[i]? = some (some (.ref p')) := h1
      rw [hv] at h1'
      cases h1'
      exact .inr ⟨_, hp, rfl⟩
    | _ => cases hs
  have nput : s.put d ≠ .ex := by
    cases s with
    | own c => simp [Sl.put]
    | io c => simp [Sl.put]
    | _ => cases hs
  refine ⟨⟨?_, R.sB, ?_, R.nB, by rw [List.length_set]; exact R.len, ?_, ?_, ?_, ?_, ?_, ?_, (fun j h => R.exv j (ex_set nput h).1), fun q a u h => by
    by_cases z : q = p
    · subst z; rw [upd_same] at h; cases h; exact absurd rfl (no.2 _ _)
    · rw [upd_ne z] at h; exact R.nz q a u h⟩, ⟨Same.refl _, ?_, ?_, ?_, ?_⟩⟩
  · intro q u hq
    rw [upd_ne (show q ≠ p from fun z => by rw [z, hB] at hq; cases hq)]; exact R.sub q u hq
  · intro q u h1 h2
    have z : q ≠ p := fun z => by
      rcases hF with h | ⟨x, hx, h⟩
      · rw [z, h] at h1; cases h1
      · exact h2 x hx (h.trans z.symm)
    rw [upd_ne z]; exact R.sH q u h1 h2
  · intro j t ht
    rcases get_set ht with ⟨rfl, rfl, _⟩ | ⟨hj, ht⟩
    · cases s with
      | own c => exact ⟨p, hv, hB, ow⟩
      | io c => exact ⟨p, hv, hB, ow⟩
      | _ => cases hs
    · have q := R.slot j t ht
      have k : ∀ q, q ≠ p → ∀ u, H q = some u → upd H p o q = some u := fun q z u h => by rw [upd_ne z]; exact h
      cases t with
      | no => trivial
      | ex => trivial
      | fz c => exact q
      | own c => obtain ⟨q, h1, h2, h3⟩ := q; exact ⟨q, h1, h2, h3.mono (Same.refl _) (k q (ne j _ q hj ht rfl h1))⟩
      | io c => obtain ⟨q, h1, h2, h3⟩ := q; exact ⟨q, h1, h2, h3.mono (Same.refl _) (k q (ne j _ q hj ht rfl h1))⟩
      | ro c => obtain ⟨q, h1, h3⟩ := q; exact ⟨q, h1, h3.mono (Same.refl _) (k q (ne j _ q hj ht rfl h1))⟩
  · intro a b t u q h1 h2 h3 h4 h5 h6
    obtain ⟨t0, h1', e1, _, _, _⟩ := nio a t h1
    obtain ⟨u0, h3', _, e3, _, _⟩ := nio b u h3
    exact R.dist a b t0 u0 q h1' (e1 ▸ h2) h3' (e3 ▸ h4) h5 h6
  · intro j c q h1 h2
    obtain ⟨t0, h1', _, _, e1, _⟩ := nio j _ h1
    obtain ⟨c0, rfl⟩ := e1 c rfl
    exact R.ownN j c0 q h1' h2
  · intro x hx
    obtain ⟨h1, c, h2⟩ := R.fx x hx
    refine ⟨h1, ?_⟩
    by_cases z : i = x.1
    · subst z
      rw [hi] at h2
      cases h2
      exact ⟨d, by rw [List.getElem?_set_self hl]; rfl⟩
    · exact ⟨c, by rw [List.getElem?_set_ne z]; exact h2⟩
  · intro j c h1
    obtain ⟨t0, h1', _, _, _, e1⟩ := nio j _ h1
    obtain ⟨c0, rfl⟩ := e1 c rfl
    exact R.ioN j c0 h1'
  · intro q xs h
    by_cases z : q = p
    · subst z; rw [upd_same] at h; cases h; exact absurd rfl (no.1 xs)
    · rw [upd_ne z] at h; exact R.tupB q xs h
  · intro q u h n
    refine ⟨?_, id⟩
    rw [upd_ne (show q ≠ p from fun z => n i s hi hs (by rw [z]; exact hv))]; exact h
  · intro j t h1 h2
    obtain ⟨t0, h1', e1, _, _, _⟩ := nio j t h1
    exact ⟨t0, h1', e1 ▸ h2⟩
  · intro j t h1 h2
    obtain ⟨t0, h1', _, e1, _, _⟩ := nio j t h1
    exact ⟨t0, h1', e1 ▸ h2⟩
  · intro q h
    by_cases z : q = p
    · subst z; rw [upd_same] at h; cases h
    · rw [upd_ne z] at h; exact h
end
def ownL : Option Sl → Option (List D)
  | some (.own (.list ds)) => some ds
  | some (.io (.list ds)) => some ds
  | _ => none
theorem ownL_eq {s : Option Sl} {ds : List D} (h : ownL s = some ds) : ∃ t, s = some t ∧ t.isOwn = true ∧ slD t = .list ds := by
  unfold ownL at h
  split at h
  · cases h; exact ⟨_, rfl, rfl, rfl⟩
  · cases h; exact ⟨_, rfl, rfl, rfl⟩
  · cases h
def putAt (ρ : Rho) (i : Nat) (d : D) : Rho := match ρ[i]? with
  | some s => ρ.set i (s.put d)
  | none => ρ
def MutJ (r : V → List V → Hp → VK → Prop) (f : List D → List D → Option (List D × D)) : Prop :=
  ∀ (B H : Hp) (p : Addr) (xs : List V) (ds : List D) (vs : List V) (as : List D) (w : List D × D), H p = some (.lst xs) → Reps B xs ds → Same B H → Reps B vs as → f ds as = some w →
    ∃ xs' v, Reps B xs' w.1 ∧ Rep B v w.2 ∧ ∀ Q : VK, Q v (upd H p (.lst xs')) → r (.ref p) vs H Q
def mMut (i : Nat) (f : List D → List D → Option (List D × D)) (m : Rho → Option (List RV × Rho)) : PM := fun ρ => (ownL ρ[i]?).bind fun _ => (m ρ).bind fun x => (fzAll x.1 x.2).bind fun y => (ownL y.2[i]?).bind fun ds => (f ds y.1).map fun w => ((w.2, .fz), putAt y.2 i (.list w.1))
theorem Own.list {B H : Hp} {p : Addr} {ds : List D} (h : Own B H p (.list ds)) : ∃ xs, H p = some (.lst xs) ∧ Reps B xs ds := by
  cases h with
  | lst h r => exact ⟨_, h, r⟩
theorem me_mut {K : PySem.W.Frag} {i : Nat} {r : V → List V → Hp → VK → Prop} {f : List D → List D → Option (List D × D)} {t : TA} {m : Rho → Option (List RV × Rho)} (J : MutJ r f) (h : MA t m) : ME (tBM K "list" r (tVar i) t) (mMut i f m) := by
  intro F B H σ ρ r0 ρ' Q R e q
  obtain ⟨ds0, e0, e⟩ := Option.bind_eq_some_iff.mp e
  obtain ⟨x, e1, e⟩ := Option.bind_eq_some_iff.mp e
  obtain ⟨y, e2, e⟩ := Option.bind_eq_some_iff.mp e
  obtain ⟨ds, e3, e⟩ := Option.bind_eq_some_iff.mp e
  obtain ⟨w, e4, e⟩ := Option.map_eq_some_iff.mp e
  cases e
  obtain ⟨s0, hs0, ho0, hd0⟩ := ownL_eq e0
  obtain ⟨p, hv, hB, ow⟩ := R.ownAt hs0 ho0
  rw [hd0] at ow
  obtain ⟨xs0, hp0, _⟩ := ow.list
  refine ⟨_, hv, .inl ⟨rfl, xs0, SqL.of hp0⟩, ?_⟩
  refine h F B H σ ρ x.1 x.2 _ R e1 fun vs B1 H1 E1 R1 V1 => ?_
  obtain ⟨B2, R2, rp, E2⟩ := Rel.frzL R1 V1.weak e2
  obtain ⟨s, hs, ho, hd⟩ := ownL_eq e3
  obtain ⟨p', hv', hB', ow'⟩ := R2.ownAt hs ho
  rw [hv] at hv'
  cases hv'
  rw [hd] at ow'
  obtain ⟨xs, hp, rx⟩ := ow'.list
  obtain ⟨xs', u, rx', ru, hr⟩ := J B2 H1 p xs ds vs y.1 w hp rx R2.sub rp e4
  obtain ⟨R3, E3⟩ := R2.write (o := .lst xs') (d := .list w.1) hs ho hv ⟨(fun _ z => by cases z), fun _ _ z => by cases z⟩ (.lst upd_same rx')
  have ep : putAt y.2 i (.list w.1) = y.2.set i (s.put (.list w.1)) := by unfold putAt; rw [hs]
  rw [ep] at q
  exact hr Q (q u B2 _ (E1.trans (E2.trans E3)) R3 ru fun p z => by cases z)
def mMut0 (i : Nat) (f : List D → List D → Option (List D × D)) : PM := fun ρ => (ownL ρ[i]?).bind fun ds => (f ds []).map fun w => ((w.2, .fz), putAt ρ i (.list w.1))
theorem me_mut0 {K : PySem.W.Frag} {i : Nat} {r : V → List V → Hp → VK → Prop} {f : List D → List D → Option (List D × D)} (J : MutJ r f) : ME (tBM0 K "list" r (tVar i)) (mMut0 i f) := by
  intro F B H σ ρ r0 ρ' Q R e q
  obtain ⟨ds, e0, e⟩ := Option.bind_eq_some_iff.mp e
  obtain ⟨w, e4, e⟩ := Option.map_eq_some_iff.mp e
  cases e
  obtain ⟨s, hs, ho, hd⟩ := ownL_eq e0
  obtain ⟨p, hv, hB, ow⟩ := R.ownAt hs ho
  rw [hd] at ow
  obtain ⟨xs, hp, rx⟩ := ow.list
  refine ⟨_, hv, .inl ⟨rfl, xs, SqL.of hp⟩, ?_⟩
  obtain ⟨xs', u, rx', ru, hr⟩ := J B H p xs ds [] [] w hp rx R.sub .nil e4
  obtain ⟨R3, E3⟩ := R.write (o := .lst xs') (d := .list w.1) hs ho hv ⟨(fun _ z => by cases z), fun _ _ z => by cases z⟩ (.lst upd_same rx')
  have ep : putAt ρ i (.list w.1) = ρ.set i (s.put (.list w.1)) := by unfold putAt; rw [hs]
  rw [ep] at q
  exact hr Q (q u B _ E3 R3 ru fun p z => by cases z)
def MtJ (K : PySem.W.Frag) (T : String) (r : V → List V → Hp → VK → Prop) (g : D → List D → Option (D × Bool)) : Prop :=
  (∀ (B H : Hp) (x : V) (c : D) (ds : List D) (res : D × Bool), Same B H → View B H x c → g c ds = some res → tyV K T x H) ∧
  ∀ (B H : Hp) (x : V) (c : D) (vs : List V) (ds : List D) (res : D × Bool), Same B H → View B H x c → Views B H vs ds → g c ds = some res → ResOk B H res fun Q => r x vs H Q
def mBM0 (g : D → List D → Option (D × Bool)) (a : PM) : PM := fun ρ => (sv a ρ).bind fun x => (g x.1.1 []).map fun res => (resK res, x.2)
theorem me_bm0 {K : PySem.W.Frag} {T : String} {r : V → List V → Hp → VK → Prop} {g : D → List D → Option (D × Bool)} {ta : TE} {a : PM} (J : MtJ K T r g) (ha : ME ta a) : ME (tBM0 K T r ta) (mBM0 g a) := by
  intro F B H σ ρ r0 ρ' Q R e q
  obtain ⟨x, e1, e⟩ := Option.bind_eq_some_iff.mp e
  obtain ⟨res, e4, e⟩ := Option.map_eq_some_iff.mp e
  cases e
  refine ha.sv F B H σ ρ x.1 x.2 _ R e1 fun v B1 H1 E1 R1 V1 N1 => ?_
  refine ⟨J.1 B1 H1 v x.1.1 [] res R1.sub (V1.view R1) e4, ?_⟩
  exact res_end R1 (J.2 B1 H1 v x.1.1 [] [] res R1.sub (V1.view R1) trivial e4) fun w B3 H3 E3 R3 V4 N4 => q w B3 H3 (E1.trans E3) R3 V4 fun p z1 z2 => E1.live p (N4 p z1 z2)
end Mir
set_option Elab.async false
set_option linter.all false
set_option maxRecDepth 100000
namespace Mir
open PySem L2
variable [Zc]
inductive Out where
  | nx (ρ : Rho) | rt (r : RV) (ρ : Rho) | bk (ρ : Rho) | ct (ρ : Rho)
abbrev SM := Rho → Option Out
def OutOk (F : Fr) (D : Ends) : Out → Prop
  | .nx ρ => ∀ B H σ, Rel F B H σ ρ → D.nx σ H
  | .rt r ρ => ∀ v B H σ, Rel F B H σ ρ → Val F B H σ ρ v r → D.rt v H
  | .bk ρ => ∀ B H σ, Rel F B H σ ρ → D.bk σ H
  | .ct ρ => ∀ B H σ, Rel F B H σ ρ → D.ct σ H
def MS (t : TS) (m : SM) : Prop := ∀ (F : Fr) (B H : Hp) (σ : St) (ρ : Rho) (o : Out) (D : Ends), Rel F B H σ ρ → m ρ = some o → OutOk F D o → t D σ H
def mSeq (a b : SM) : SM := fun ρ => (a ρ).bind fun o => match o with
  | .nx ρ' => b ρ'
  | o => some o
theorem ms_seq {t u : TS} {a b : SM} (ha : MS t a) (hb : MS u b) : MS (tSeq t u) (mSeq a b) := by
  intro F B H σ ρ o D R e q
  obtain ⟨x, e1, e⟩ := Option.bind_eq_some_iff.mp e
  refine ha F B H σ ρ x _ R e1 ?_
  cases x with
  | nx ρ' => exact fun B' H' σ' R' => hb F B' H' σ' ρ' o D R' e q
  | rt r ρ' => cases e; exact q
  | bk ρ' => cases e; exact q
  | ct ρ' => cases e; exact q
def mPass : SM := fun ρ => some (.nx ρ)
theorem ms_next : MS tNext mPass := by
  intro F B H σ ρ o D R e q
  cases e; exact q B H σ R
def mBrk : SM := fun ρ => some (.bk ρ)
theorem ms_break : MS tBreak mBrk := by
  intro F B H σ ρ o D R e q
  cases e; exact q B H σ R
def mNever : SM := fun _ => none
theorem ms_never : MS tNever mNever := by
  intro F B H σ ρ o D R e q
  cases e
def mRet (a : PM) : SM := fun ρ => (a ρ).map fun x => .rt x.1 x.2
theorem ms_ret {t : TE} {a : PM} (ha : ME t a) : MS (tRet t) (mRet a) := by
  intro F B H σ ρ o D R e q
  obtain ⟨x, e1, e⟩ := Option.map_eq_some_iff.mp e
  cases e
  exact ha F B H σ ρ x.1 x.2 _ R e1 fun v B' H' E R' V' N => q v B' H' σ R' V'
def mDrop (a : PM) : SM := fun ρ => (a ρ).map fun x => .nx x.2
theorem ms_drop {t : TE} {a : PM} (ha : ME t a) : MS (tDrop t) (mDrop a) := by
  intro F B H σ ρ o D R e q
  obtain ⟨x, e1, e⟩ := Option.map_eq_some_iff.mp e
  cases e
  exact ha F B H σ ρ x.1 x.2 _ R e1 fun v B' H' E R' V' N => q B' H' σ R'
def mIfS (c : Rho → Option (Bool × Rho)) (a b : SM) : SM := fun ρ => (c ρ).bind fun x => if x.1 = true then a x.2 else b x.2
theorem ms_if {tc : TT} {t u : TS} {c : Rho → Option (Bool × Rho)} {a b : SM} (hc : MT tc c) (ha : MS t a) (hb : MS u b) : MS (tIfS tc t u) (mIfS c a b) := by
  intro F B H σ ρ o D R e q
  obtain ⟨x, e1, e⟩ := Option.bind_eq_some_iff.mp e
  refine hc F B H σ ρ x.1 x.2 _ R e1 fun B' H' E R' => ?_
  by_cases h : x.1 = true
  · rw [if_pos h] at e ⊢; exact ha F B' H' σ x.2 o D R' e q
  · rw [if_neg h] at e ⊢; exact hb F B' H' σ x.2 o D R' e q
def setSl (ρ : Rho) (i : Nat) (s : Sl) : Option Rho := match ρ[i]? with
  | none => none
  | some (.io _) => none
  | some _ => some (ρ.set i s)
theorem setSl_eq {ρ ρ' : Rho} {i : Nat} {s : Sl} (h : setSl ρ i s = some ρ') : ρ' = ρ.set i s ∧ ∃ s0, ρ[i]? = some s0 ∧ ∀ d, s0 ≠ .io d := by
  unfold setSl at h
  cases q : ρ[i]? with
  | none => rw [q] at h; cases h
  | some s0 =>
    rw [q] at h
    cases s0 with
    | io d => cases h
    | no => cases h; exact ⟨rfl, _, rfl, fun _ z => by cases z⟩
    | ex => cases h; exact ⟨rfl, _, rfl, fun _ z => by cases z⟩
    | fz _ => cases h; exact ⟨rfl, _, rfl, fun _ z => by cases z⟩
    | own _ => cases h; exact ⟨rfl, _, rfl, fun _ z => by cases z⟩
    | ro _ => cases h; exact ⟨rfl, _, rfl, fun _ z => by cases z⟩
section
variable {F : Fr} {B H : Hp} {σ : St} {ρ ρ' : Rho} {v : V}
theorem Rel.assignFz (R : Rel F B H σ ρ) {i : Nat} {d : D} (rp : Rep B v d) (h : setSl ρ i (.fz d) = some ρ') : Rel F B H (σ.set i (some v)) ρ' := by
  obtain ⟨rfl, s0, h0, nio⟩ := setSl_eq h
  have hl : i < ρ.length := (List.getElem?_eq_some_iff.mp h0).1
  have hls : i < σ.length := R.len ▸ hl
  have so : ∀ j, j ≠ i → (σ.set i (some v))[j]? = σ[j]? := fun j hj => List.getElem?_set_ne fun e => hj e.symm
  refine ⟨R.sub, R.sB, R.sH, R.nB, by rw [List.length_set, List.length_set]; exact R.len, ?_, ?_, ?_, ?_, ?_, R.tupB, (fun j h => by obtain ⟨h1, h2⟩ := ex_set (by simp) h; rw [so j h2]; exact R.exv j h1), R.nz⟩
  · intro j s hs
    rcases get_set hs with ⟨rfl, rfl, _⟩ | ⟨hj, hs⟩
    · exact ⟨v, List.getElem?_set_self hls, rp⟩
    · exact (R.slot j s hs).at (so j hj)
  · intro a b s t p h1 h2 h3 h4 h5 h6
    rcases get_set h1 with ⟨rfl, rfl, _⟩ | ⟨ha, h1⟩
    · cases h2
    · rcases get_set h3 with ⟨rfl, rfl, _⟩ | ⟨hb, h3⟩
      · cases h4
      · rw [so a ha] at h5; rw [so b hb] at h6; exact R.dist a b s t p h1 h2 h3 h4 h5 h6
  · intro j c p h1 h2
    rcases get_set h1 with ⟨rfl, e, _⟩ | ⟨hj, h1⟩
    · cases e
    · rw [so j hj] at h2; exact R.ownN j c p h1 h2
  · intro x hx
    obtain ⟨h1, c, h2⟩ := R.fx x hx
    have z : x.1 ≠ i := fun z => by rw [z, h0] at h2; cases h2; exact nio _ rfl
    exact ⟨by rw [so _ z]; exact h1, c, by rw [List.getElem?_set_ne fun e => z e.symm]; exact h2⟩
  · intro j c h1
    rcases get_set h1 with ⟨rfl, e, _⟩ | ⟨hj, h1⟩
    · cases e
    · exact R.ioN j c h1
theorem Rel.assignOwn (R : Rel F B H σ ρ) {i : Nat} {d : D} (vl : Val F B H σ ρ v (d, .new)) (h : setSl ρ i (.own d) = some ρ') : Rel F B H (σ.set i (some v)) ρ' := by
  obtain ⟨rfl, s0, h0, nio⟩ := setSl_eq h
  obtain ⟨p, rfl, hB, hF, ow, nn⟩ := vl
  have hl : i < ρ.length := (List.getElem?_eq_some_iff.mp h0).1
  have hls : i < σ.length := R.len ▸ hl
  have so : ∀ j, j ≠ i → (σ.set i (some (.ref p)))[j]? = σ[j]? := fun j hj => List.getElem?_set_ne fun e => hj e.symm
  have si : (σ.set i (some (.ref p)))[i]? = some (some (.ref p)) := List.getElem?_set_self hls
  refine ⟨R.sub, R.sB, R.sH, R.nB, by rw [List.length_set, List.length_set]; exact R.len, ?_, ?_, ?_, ?_, ?_, R.tupB, (fun j h => by obtain ⟨h1, h2⟩ := ex_set (by simp) h; rw [so j h2]; exact R.exv j h1), R.nz⟩
  · intro j s hs
    rcases get_set hs with ⟨rfl, rfl, _⟩ | ⟨hj, hs⟩
    · exact ⟨p, si, hB, ow⟩
    · exact (R.slot j s hs).at (so j hj)
  · intro a b s t q h1 h2 h3 h4 h5 h6
    rcases get_set h1 with ⟨rfl, rfl, _⟩ | ⟨ha, h1'⟩
    · rcases get_set h3 with ⟨rfl, rfl, _⟩ | ⟨hb, h3⟩
      · rfl
      · rw [si] at h5
        cases h5
        rw [so b hb] at h6
        exact absurd h6 (nn b t h3 h4)
    · rcases get_set h3 with ⟨rfl, rfl, _⟩ | ⟨hb, h3⟩
      · rw [si] at h6
        cases h6
        rw [so a ha] at h5
        exact absurd h5 (nn a s h1' (Sl.ref_of h2))
      · rw [so a ha] at h5; rw [so b hb] at h6; exact R.dist a b s t q h1' h2 h3 h4 h5 h6
  · intro j c q h1 h2
    rcases get_set h1 with ⟨rfl, e, _⟩ | ⟨hj, h1⟩
    · rw [si] at h2; cases h2; exact hF
    · rw [so j hj] at h2; exact R.ownN j c q h1 h2
  · intro x hx
    obtain ⟨h1, c, h2⟩ := R.fx x hx
    have z : x.1 ≠ i := fun z => by rw [z, h0] at h2; cases h2; exact nio _ rfl
    exact ⟨by rw [so _ z]; exact h1, c, by rw [List.getElem?_set_ne fun e => z e.symm]; exact h2⟩
  · intro j c h1
    rcases get_set h1 with ⟨rfl, e, _⟩ | ⟨hj, h1⟩
    · cases e
    · exact R.ioN j c h1
end
def sto (i : Nat) (x : RV × Rho) : Option Rho := match x.1.2 with
  | .fz => setSl x.2 i (.fz x.1.1)
  | .new => setSl x.2 i (.own x.1.1)
  | .at j => if j = i then some x.2 else (fzOne x.1 x.2).bind fun y => setSl y.2 i (.fz y.1)
  | .ro => none
def mAsg (i : Nat) (a : PM) : SM := fun ρ => (a ρ).bind fun x => (sto i x).map .nx
theorem ms_asg {i : Nat} {t : TE} {a : PM} (ha : ME t a) : MS (tAsg t (gName i)) (mAsg i a) := by
  intro F B H σ ρ o D R e q
  obtain ⟨x, e1, e⟩ := Option.bind_eq_some_iff.mp e
  obtain ⟨ρ2, e2, e⟩ := Option.map_eq_some_iff.mp e
  cases e
  refine ha F B H σ ρ x.1 x.2 _ R e1 fun v B1 H1 E1 R1 V1 N1 => ?_
  show D.nx (σ.set i (some v)) H1
  obtain ⟨⟨d, k⟩, ρ1⟩ := x
  cases k with
  | fz => exact q B1 H1 _ (R1.assignFz V1 e2)
  | new => exact q B1 H1 _ (R1.assignOwn V1 e2)
  | ro => cases e2
  | «at» j =>
    have e2' : (if j = i then some ρ1 else (fzOne (d, .at j) ρ1).bind fun y => setSl y.2 i (.fz y.1)) = some ρ2 := e2
    obtain ⟨s, h1, h2, h3, h4⟩ := V1
    have h4' : σ[j]? = some (some v) := h4
    by_cases z : j = i
    · rw [if_pos z] at e2'
      cases e2'
      subst z
      have : σ.set j (some v) = σ := by
        apply List.ext_getElem?
        intro k
        by_cases hk : k = j
        · subst hk
          obtain ⟨hl, _⟩ := List.getElem?_eq_some_iff.mp h4'
          rw [List.getElem?_set_self hl, h4']
        · rw [List.getElem?_set_ne fun e => hk e.symm]
      rw [this]
      exact q B1 H1 _ R1
    · rw [if_neg z] at e2'
      obtain ⟨y, e3, e4⟩ := Option.bind_eq_some_iff.mp e2'
      obtain ⟨B2, R2, rp, E2⟩ := R1.frz (v := v) (r := (d, .at j)) (show WVal B1 σ v (d, .at j) from h4') e3
      exact q B2 H1 _ (R2.assignFz rp e4)
def MG (g : TG) (mg : D → Rho → Option Rho) : Prop := ∀ (F : Fr) (B H : Hp) (σ : St) (ρ : Rho) (v : V) (d : D) (ρ' : Rho) (Q : St → Hp → Prop), Rel F B H σ ρ → Rep B v d → mg d ρ = some ρ' → (∀ B' H' σ', Rel F B' H' σ' ρ' → Same B B' → Q σ' H') → g v σ H Q
def MGs (g : TGs) (mg : List D → Rho → Option Rho) : Prop := ∀ (F : Fr) (B H : Hp) (σ : St) (ρ : Rho) (vs : List V) (ds : List D) (ρ' : Rho) (Q : St → Hp → Prop), Rel F B H σ ρ → Reps B vs ds → mg ds ρ = some ρ' → (∀ B' H' σ', Rel F B' H' σ' ρ' → Same B B' → Q σ' H') → g vs σ H Q
def mgN (i : Nat) : D → Rho → Option Rho := fun d ρ => setSl ρ i (.fz d)
theorem mg_name {i : Nat} : MG (gName i) (mgN i) := fun F B H σ ρ v d ρ' Q R rp e q => q B H _ (R.assignFz rp e) (Same.refl _)
def mgsNil : List D → Rho → Option Rho := fun ds ρ => match ds with
  | [] => some ρ
  | _ => none
def mgsCons (g : D → Rho → Option Rho) (gs : List D → Rho → Option Rho) : List D → Rho → Option Rho := fun ds ρ => match ds with
  | d :: ds => (g d ρ).bind fun ρ1 => gs ds ρ1
  | _ => none
theorem mgs_nil : MGs gNil mgsNil := fun F B H σ ρ vs ds ρ' Q R rp e q => by
  cases rp with
  | nil => cases e; exact ⟨rfl, q B H σ R (Same.refl _)⟩
  | cons _ _ => cases e
theorem mgs_cons {g : TG} {gs : TGs} {m : D → Rho → Option Rho} {ms : List D → Rho → Option Rho} (h : MG g m) (hs : MGs gs ms) : MGs (gCons g gs) (mgsCons m ms) := fun F B H σ ρ vs ds ρ' Q R rp e q => by
  cases rp with
  | nil => cases e
  | cons r rs =>
    obtain ⟨ρ1, e1, e2⟩ := Option.bind_eq_some_iff.mp e
    exact ⟨_, _, rfl, h F B H σ ρ _ _ ρ1 _ R r e1 fun B1 H1 σ1 R1 s1 => hs F B1 H1 σ1 ρ1 _ _ ρ' Q R1 (rs.mono s1) e2 fun B2 H2 σ2 R2 s2 => q B2 H2 σ2 R2 (s1.trans s2)⟩
def mAsgG (a : PM) (g : D → Rho → Option Rho) : SM := fun ρ => (sv a ρ).bind fun x => (fzOne x.1 x.2).bind fun y => (g y.1 y.2).map .nx
theorem ms_asgG {t : TE} {tg : TG} {a : PM} {g : D → Rho → Option Rho} (ha : ME t a) (hg : MG tg g) : MS (tAsg t tg) (mAsgG a g) := by
  intro F B H σ ρ o D R e q
  obtain ⟨x, e1, e⟩ := Option.bind_eq_some_iff.mp e
  obtain ⟨y, e2, e⟩ := Option.bind_eq_some_iff.mp e
  obtain ⟨ρ2, e3, e⟩ := Option.map_eq_some_iff.mp e
  cases e
  refine ha.sv F B H σ ρ x.1 x.2 _ R e1 fun v B1 H1 E1 R1 V1 N1 => ?_
  have w : WVal B1 σ v x.1 := (Vl.weak (F := F) (H := H1) (ρ := x.2) (vs := [v]) (rs := [x.1]) ⟨⟨V1, sv_kind e1⟩, trivial⟩).1
  obtain ⟨B2, R2, rp, E2⟩ := R1.frz w e2
  exact hg F B2 H1 σ y.2 v y.1 ρ2 _ R2 rp e3 fun B' H' σ' R' _ => q B' H' σ' R'
def mWhile (c : Rho → Option (Bool × Rho)) (b : SM) : Nat → SM
  | 0 => fun _ => none
  | n + 1 => fun ρ => (c ρ).bind fun x => if x.1 = true then (b x.2).bind fun o => match o with
      | .nx ρ' => mWhile c b n ρ'
      | .ct ρ' => mWhile c b n ρ'
      | .bk ρ' => some (.nx ρ')
      | .rt r ρ' => some (.rt r ρ')
    else some (.nx x.2)
theorem ms_while {tc : TT} {tb : TS} {c : Rho → Option (Bool × Rho)} {b : SM} {n : Nat} (hc : MT tc c) (hb : MS tb b) : MS (tWhile tc tb) (mWhile c b n) := by
  intro F B H σ ρ o D R e q
  refine ⟨fun m σ H => ∃ B ρ, Rel F B H σ ρ ∧ mWhile c b m ρ = some o, ⟨n, B, ρ, R, e⟩, ?_⟩
  rintro m σ1 H1 ⟨B1, ρ1, R1, e1⟩
  cases m with
  | zero => cases e1
  | succ m =>
    obtain ⟨x, e2, e3⟩ := Option.bind_eq_some_iff.mp (show (c ρ1).bind _ = some o from e1)
    refine hc F B1 H1 σ1 ρ1 x.1 x.2 _ R1 e2 fun B2 H2 E2 R2 => ?_
    by_cases h : x.1 = true
    · rw [if_pos h] at e3 ⊢
      obtain ⟨w, e4, e5⟩ := Option.bind_eq_some_iff.mp e3
      refine ⟨fun σ' H' => ∃ B' ρ', Rel F B' H' σ' ρ' ∧ mWhile c b m ρ' = some o, fun σ' H' h' => ⟨m, Nat.lt_succ_self _, h'⟩, ?_⟩
      refine hb F B2 H2 σ1 x.2 w _ R2 e4 ?_
      cases w with
      | nx ρ' => exact fun B' H' σ' R' => ⟨B', ρ', R', e5⟩
      | ct ρ' => exact fun B' H' σ' R' => ⟨B', ρ', R', e5⟩
      | bk ρ' => cases e5; exact q
      | rt r ρ' => cases e5; exact q
    · rw [if_neg h] at e3 ⊢
      cases e3
      exact q B2 H2 σ1 R2
def forL (g : D → Rho → Option Rho) (b : SM) : List D → SM
  | [] => fun ρ => some (.nx ρ)
  | d :: ds => fun ρ => (g d ρ).bind fun ρ1 => (b ρ1).bind fun o => match o with
      | .nx ρ' => forL g b ds ρ'
      | .ct ρ' => forL g b ds ρ'
      | .bk ρ' => some (.nx ρ')
      | .rt r ρ' => some (.rt r ρ')
def mFor (it : Rho → Option (List D × Rho)) (g : D → Rho → Option Rho) (b : SM) : SM := fun ρ => (it ρ).bind fun x => forL g b x.1 x.2
section
variable {F : Fr} {B B1 H H1 : Hp} {σ σ1 : St} {ρ ρ1 : Rho}
theorem Rel.up (R1 : Rel F B1 H1 σ1 ρ1) (R : Rel ⟨B1, F.H, F.io, F.Z⟩ B H σ ρ) : Rel F B H σ ρ :=
  ⟨R.sub, R1.sB.trans R.sB, R.sH, fun q h z => R.nB q h (R1.nB q h z), R.len, R.slot, R.dist, R.ownN, R.fx, R.ioN, R.tupB, R.exv, R.nz⟩
theorem Rel.down (R1 : Rel F B1 H1 σ1 ρ1) : Rel ⟨B1, F.H, F.io, F.Z⟩ B1 H1 σ1 ρ1 :=
  ⟨R1.sub, Same.refl _, R1.sH, fun q h z => z, R1.len, R1.slot, R1.dist, R1.ownN, R1.fx, R1.ioN, R1.tupB, R1.exv, R1.nz⟩
end
theorem OutOk.down {F : Fr} {B1 H1 : Hp} {σ1 : St} {ρ1 : Rho} (R1 : Rel F B1 H1 σ1 ρ1) {D : Ends} {o : Out} (h : OutOk F D o) : OutOk ⟨B1, F.H, F.io, F.Z⟩ D o := by
  cases o with
  | nx ρ => exact fun B H σ R => h B H σ (R1.up R)
  | bk ρ => exact fun B H σ R => h B H σ (R1.up R)
  | ct ρ => exact fun B H σ R => h B H σ (R1.up R)
  | rt r ρ => exact fun v B H σ R V => h v B H σ (R1.up R) V
theorem ms_for {ti : TI} {tg : TG} {tb : TS} {it : Rho → Option (List D × Rho)} {g : D → Rho → Option Rho} {b : SM} (hi : MF ti it) (hg : MG tg g) (hb : MS tb b) : MS (tFor ti tg tb) (mFor it g b) := by
  intro F B H σ ρ o D R e q
  obtain ⟨x, e1, e⟩ := Option.bind_eq_some_iff.mp e
  refine hi F B H σ ρ x.1 x.2 _ R e1 fun J B1 H1 E1 R1 I1 => ?_
  obtain ⟨ds, ρ1⟩ := x
  have q' := q.down R1
  refine ⟨fun i m σ H => m = ds.length - i ∧ i ≤ ds.length ∧ ∃ B ρ, Rel ⟨B1, F.H, F.io, F.Z⟩ B H σ ρ ∧ forL g b (ds.drop i) ρ = some o, ⟨ds.length, rfl, Nat.zero_le _, B1, ρ1, R1.down, e⟩, ?_⟩
  rintro i m σ2 H2 ⟨rfl, hil, B2, ρ2, R2, e2⟩
  have sH : Same B1 H2 := R2.sB.trans R2.sub
  by_cases hlt : i < ds.length
  · refine .inr ?_
    obtain ⟨go, yl⟩ := (I1 H2 sH).2 i ds[i] (List.getElem?_eq_getElem hlt)
    rw [List.drop_eq_getElem_cons hlt] at e2
    obtain ⟨ρ3, e3, e4⟩ := Option.bind_eq_some_iff.mp (show (g ds[i] ρ2).bind _ = some o from e2)
    obtain ⟨w, e5, e6⟩ := Option.bind_eq_some_iff.mp e4
    refine ⟨go, fun σ' H' => ∃ B' ρ', Rel ⟨B1, F.H, F.io, F.Z⟩ B' H' σ' ρ' ∧ forL g b (ds.drop (i + 1)) ρ' = some o, fun σ' H' h' => ⟨ds.length - (i + 1), by omega, rfl, hlt, h'⟩, fun y H3 hy => ?_⟩
    have had : ∃ B3, Rel ⟨B1, F.H, F.io, F.Z⟩ B3 H3 σ2 ρ2 ∧ Rep B3 y ds[i] := by
      rcases yl y H3 hy with ⟨rfl, h2⟩ | ⟨p, xs, cs, h1, rfl, h3, rfl, h5⟩
      · exact ⟨B2, R2, h2.mono R2.sB⟩
      · obtain ⟨R3, E3, e3⟩ := R2.layT (xs := xs) h3
        exact ⟨_, R3, by rw [h1]; exact .tup upd_same (h5.mono (R2.sB.trans e3))⟩
    obtain ⟨B3, R3, rp⟩ := had
    refine hg _ B3 H3 σ2 ρ2 y ds[i] ρ3 _ R3 rp e3 fun B4 H4 σ4 R4 _ => ?_
    refine hb _ B4 H4 σ4 ρ3 w _ R4 e5 ?_
    cases w with
    | nx ρ' => exact fun B' H' σ' R' => ⟨B', ρ', R', e6⟩
    | ct ρ' => exact fun B' H' σ' R' => ⟨B', ρ', R', e6⟩
    | bk ρ' => cases e6; exact q'
    | rt r ρ' => cases e6; exact q'
  · have hi' : i = ds.length := by omega
    subst hi'
    rw [List.drop_length] at e2
    cases e2
    exact .inl ⟨(I1 H2 sH).1, q' B2 H2 σ2 R2⟩
def retD : Out → Option (D × Bool)
  | .rt (d, .fz) _ => some (d, false)
  | .rt (d, .new) _ => some (d, true)
  | .rt (_, .at i) ρ => match ρ[i]? with
    | some (.own d) => some (d, true)
    | _ => none
  | .nx _ => some (.none, false)
  | _ => none
def fnM (n k : Nat) (b : SM) (ds : List D) : Option (D × Bool) := if ds.length = n then (b (ds.map .fz ++ List.replicate k .no)).bind retD else none
theorem fn_run {n k : Nat} {b : SM} {t : TS} {N : List Str} {vs : List V} {H : Hp} {Q : VK} {E : XK} (hb : MS t b) (hN : N.length = n + k) (h : spM (fnM n k b) vs H Q E) : t { nx := fun _ H' => Q .non H', rt := Q } (L2.start N vs) H := by
  obtain ⟨B, ds, d, o, sub, tB, rp, e, q⟩ := h
  unfold fnM at e
  split at e
  case isFalse => cases e
  rename_i hl
  obtain ⟨w, e1, e2⟩ := Option.bind_eq_some_iff.mp e
  have hvl : vs.length = n := rp.length.trans hl
  have own0 : ∀ (i : Nat) (s : Sl), (ds.map Sl.fz ++ List.replicate k .no)[i]? = some s → s.isRef = true → False := fun i s h1 h2 => by
    have := List.mem_of_getElem? h1
    rcases List.mem_append.mp this with h | h
    · obtain ⟨c, _, rfl⟩ := List.mem_map.mp h; cases h2
    · rw [List.eq_of_mem_replicate h] at h2; cases h2
  have ex0 : ∀ i : Nat, (ds.map Sl.fz ++ List.replicate k .no)[i]? = some Sl.ex → False := fun i h1 => by
    have := List.mem_of_getElem? h1
    rcases List.mem_append.mp this with h | h
    · obtain ⟨c, _, z⟩ := List.mem_map.mp h; cases z
    · have := List.eq_of_mem_replicate h; cases this
  have R : Rel ⟨B, H, [], fun q => H q ≠ none⟩ B H (L2.start N vs) (ds.map .fz ++ List.replicate k .no) := by
    refine ⟨sub, Same.refl _, fun _ _ z _ => z, fun _ _ z => z, ?_, fun i s hs => ?_, fun i j s t p h1 h2 => (own0 i s h1 (Sl.ref_of h2)).elim, fun i c p h1 => (own0 i _ h1 rfl).elim, (fun x hx => by cases hx), fun i c h1 => (own0 i _ h1 rfl).elim, tB, (fun i h1 => (ex0 i h1).elim), fun q o u h z => by rw [z] at h; cases h⟩
    · simp [L2.start, hl, hvl, hN]
    · by_cases hi : i < n
      · rw [List.getElem?_append_left (by simpa [hl] using hi), List.getElem?_map] at hs
        obtain ⟨c, h1, rfl⟩ := Option.map_eq_some_iff.mp hs
        obtain ⟨x, h2, h3⟩ := rp.get i c h1
        refine ⟨x, ?_, h3⟩
        unfold L2.start
        rw [List.getElem?_append_left (by simpa [hvl] using hi), List.getElem?_map, h2]
        rfl
      · rw [List.getElem?_append_right (by simpa [hl] using Nat.le_of_not_lt hi)] at hs
        have := List.eq_of_mem_replicate (List.mem_of_getElem? hs)
        subst this
        trivial
  refine hb _ B H _ _ w _ R e1 ?_
  have post : ∀ {B' H' : Hp} {σ' : St} {ρ' : Rho}, Rel ⟨B, H, [], fun q => H q ≠ none⟩ B' H' σ' ρ' → Same H H' ∧ Same B B' ∧ Same B' H' ∧ (∀ q, H q ≠ none → B q = none → B' q = none) ∧ (∀ q xs, H' q = some (.tup xs) → B' q = some (.tup xs)) ∧ ∀ q o u, H' q = some (.frz o u) → H q ≠ none := fun R' =>
    ⟨fun q u z => R'.sH q u z (fun x hx => by cases hx), R'.sB, R'.sub, R'.nB, R'.tupB, R'.nz⟩
  cases w with
  | nx ρ' =>
    cases e2
    intro B' H' σ' R'
    obtain ⟨p1, p2, p3, p4, p5, p6⟩ := post R'
    exact q _ B' H' ⟨p1, p2, p3, p4, p5, p6, .non⟩
  | bk ρ' => cases e2
  | ct ρ' => cases e2
  | rt r ρ' =>
    intro v B' H' σ' R' V'
    obtain ⟨p1, p2, p3, p4, p5, p6⟩ := post R'
    obtain ⟨c, kd⟩ := r
    cases kd with
    | fz => cases e2; exact q v B' H' ⟨p1, p2, p3, p4, p5, p6, V'⟩
    | new =>
      cases e2
      obtain ⟨p, rfl, h1, h2, h3, _⟩ := V'
      exact q _ B' H' ⟨p1, p2, p3, p4, p5, p6, ⟨p, rfl, h2, h1, h3⟩⟩
    | ro => cases e2
    | «at» i =>
      obtain ⟨s, h1, h2, h3, h4⟩ := V'
      have e2' : (match ρ'[i]? with
        | some (.own d) => some (d, true)
        | _ => none) = some (d, o) := e2
      rw [h1] at e2'
      cases s with
      | own c' =>
        cases e2'
        obtain ⟨p, g1, g2, g3⟩ := R'.slot i _ h1
        have h4' : σ'[i]? = some (some v) := h4
        rw [h4'] at g1
        cases g1
        exact q _ B' H' ⟨p1, p2, p3, p4, p5, p6, ⟨p, rfl, R'.ownN i _ p h1 h4', g2, g3⟩⟩
      | _ => cases e2'
theorem spM_len {n k : Nat} {b : SM} {vs : List V} {H : Hp} {Q : VK} {E : XK} (h : spM (fnM n k b) vs H Q E) : vs.length = n := by
  obtain ⟨B, ds, d, o, sub, tB, rp, e, q⟩ := h
  unfold fnM at e
  split at e
  · rename_i hl; exact rp.length.trans hl
  · cases e
end Mir
set_option Elab.async false
set_option linter.all false
set_option maxRecDepth 100000
namespace Mir
open PySem L2 PySem.Spec PyProof.Rows
variable [Zc]
section
variable {X : Cx}
def rCatR : R2 := fun x y H Q => ∃ l b xs zs, x = .ref l ∧ y = .ref b ∧ Rd H l (.lst xs) ∧ Rd H b (.lst zs) ∧ xs.length + zs.length ≤ sizeLine ∧ ∀ p, H p = none → Q (.ref p) (upd H p (.lst (xs ++ zs)))
theorem op_catR : OpR X (binaryOp .Add) rCatR := by
  intro pins s σ H x y v u Q I rx ry h
  obtain ⟨l, b, xs, zs, rfl, rfl, hH, hB, hz, q⟩ := h
  cases rx
  cases ry
  obtain ⟨z, its, n, r, e⟩ := hH.ok I.hok
  obtain ⟨z2, its2, n2, r2, e2⟩ := hB.ok I.hok
  have hl := r.length
  have hl2 := r2.length
  refine PySem.P.add_list e e2 ?_ (by rw [List.size_toArray, List.size_toArray]; omega)
  have ea : its.toArray ++ its2.toArray = (its ++ its2).toArray := by simp
  rw [ea]
  exact ⟨.ref _, _, I.lnew (t' := s.toks) (r.append r2) (by rw [List.length_append]; omega), rfl, q _ I.fresh⟩
def rPlusM (K : PySem.W.Frag) : R2 := fun x y H Q => rI0 (fun i j => .int (i + j)) x y H Q ∨ rCatR x y H Q ∨ (∃ i j, x = .str i ∧ y = .str j ∧ i.length + j.length ≤ sizeLine ∧ Q (.str (i ++ j)) H) ∨ rCatT K x y H Q
theorem op_addM : OpR X (binaryOp .Add) (rPlusM X.K) := op_add.or (op_catR.or (op_add_str.or op_catT))
end
theorem res_int {B H : Hp} {i : Int} {k : VK → Prop} (h : ∀ Q : VK, Q (.int i) H → k Q) : ResOk B H (.int i, false) k := ⟨_, .int i, h⟩
theorem res_bool {B H : Hp} {i : Bool} {k : VK → Prop} (h : ∀ Q : VK, Q (.bl i) H → k Q) : ResOk B H (.bool i, false) k := ⟨_, .bl i, h⟩
theorem res_str {B H : Hp} {i : Str} {k : VK → Prop} (h : ∀ Q : VK, Q (.str i) H → k Q) : ResOk B H (.str i, false) k := ⟨_, .str i, h⟩
noncomputable def gAdd : D → D → Option (D × Bool)
  | .int i, .int j => some (.int (i + j), false)
  | .list a, .list b => cIf (a.length + b.length ≤ sizeLine) (some (.list (a ++ b), true)) none
  | .str a, .str b => cIf (a.length + b.length ≤ sizeLine) (some (.str (a ++ b), false)) none
  | .tuple (c :: a), .tuple b => cIf ((c :: a).length + b.length ≤ sizeLine ∧ b ≠ []) (some (.tuple ((c :: a) ++ b), true)) none
  | _, _ => none
theorem J_add {K : PySem.W.Frag} : OpJ (rPlusM K) gAdd := by
  intro B H x y c d res s hx hy e
  unfold gAdd at e
  split at e
  · cases e
    have h1 := hx.int; have h2 := hy.int; subst h1 h2
    exact res_int fun Q q => .inl ⟨_, _, rfl, rfl, q⟩
  · obtain ⟨hz, e⟩ := cIf_eq e
    · cases e
      obtain ⟨p, xs, rfl, r1, rp1⟩ := hx.list s
      obtain ⟨p2, ys, rfl, r2, rp2⟩ := hy.list s
      exact ⟨xs ++ ys, rp1.append rp2, fun Q q => .inr (.inl ⟨_, _, _, _, rfl, rfl, r1, r2, by rw [rp1.length, rp2.length]; exact hz, q⟩)⟩
  · obtain ⟨hz, e⟩ := cIf_eq e
    · cases e
      have h1 := hx.str; have h2 := hy.str; subst h1 h2
      exact res_str fun Q q => .inr (.inr (.inl ⟨_, _, rfl, rfl, hz, q⟩))
  · obtain ⟨hz, e⟩ := cIf_eq e
    · cases e
      obtain ⟨p, xs, rfl, r1, rp1⟩ := hx.tuple s
      obtain ⟨p2, ys, rfl, r2, rp2⟩ := hy.tuple s
      have hne : xs ≠ [] := by intro z; subst z; cases rp1
      have hne2 : ys ≠ [] := by intro z; subst z; cases rp2; exact hz.2 rfl
      refine ⟨xs ++ ys, rp1.append rp2, fun Q q => .inr (.inr (.inr ⟨_, _, xs, ys, rfl, rfl, .inl (.inl r1), .inl (.inl r2), ?_⟩))⟩
      exact ⟨hne, by rw [rp1.length, rp2.length]; exact hz.1, fun z => absurd z hne2, fun _ => q⟩
  · cases e
noncomputable def gI (C : Int → Int → Prop) (f : Int → Int → Int) : D → D → Option (D × Bool)
  | .int i, .int j => cIf (C i j) (some (.int (f i j), false)) none
  | _, _ => none
theorem J_I {C : Int → Int → Prop} {f : Int → Int → Int} : OpJ (rI C fun i j => .int (f i j)) (gI C f) := by
  intro B H x y c d res s hx hy e
  unfold gI at e
  split at e
  · obtain ⟨hc, e⟩ := cIf_eq e
    · cases e
      have h1 := hx.int; have h2 := hy.int; subst h1 h2
      exact res_int fun Q q => ⟨_, _, rfl, rfl, hc, q⟩
  · cases e
def gI0 (f : Int → Int → Int) : D → D → Option (D × Bool)
  | .int i, .int j => some (.int (f i j), false)
  | _, _ => none
theorem J_I0 {f : Int → Int → Int} : OpJ (rI0 fun i j => .int (f i j)) (gI0 f) := by
  intro B H x y c d res s hx hy e
  unfold gI0 at e
  split at e
  · cases e
    have h1 := hx.int; have h2 := hy.int; subst h1 h2
    exact res_int fun Q q => ⟨_, _, rfl, rfl, q⟩
  · cases e
def gB0 (f : Int → Int → Bool) : D → D → Option (D × Bool)
  | .int i, .int j => some (.bool (f i j), false)
  | _, _ => none
theorem J_B0 {f : Int → Int → Bool} : OpJ (rI0 fun i j => .bl (f i j)) (gB0 f) := by
  intro B H x y c d res s hx hy e
  unfold gB0 at e
  split at e
  · cases e
    have h1 := hx.int; have h2 := hy.int; subst h1 h2
    exact res_bool fun Q q => ⟨_, _, rfl, rfl, q⟩
  · cases e
abbrev gSub := gI0 fun i j => i - j
abbrev gLt := gB0 fun i j => decide (i < j)
abbrev gLe := gB0 fun i j => decide (i ≤ j)
abbrev gGt := gB0 fun i j => decide (j < i)
abbrev gGe := gB0 fun i j => decide (j ≤ i)
noncomputable abbrev gDiv := gI CDiv fun i j => i / j
noncomputable abbrev gMod := gI (fun _ j => 0 < j) fun i j => i % j
noncomputable abbrev gPow := gI CPow fun i j => i ^ j.toNat
section
variable {X : Cx}
def rTimesM : R2 := fun x y H Q => rI IntMulOk (fun i j => .int (i * j)) x y H Q ∨ rRep x y H Q
theorem op_mulM : OpR X (binaryOp .Mult) rTimesM := op_mulB.or op_rep
end
noncomputable def gMul : D → D → Option (D × Bool)
  | .int i, .int j => cIf (IntMulOk i j) (some (.int (i * j), false)) none
  | _, _ => none
theorem J_mul : OpJ rTimesM gMul := by
  intro B H x y c d res s hx hy e
  unfold gMul at e
  split at e
  · obtain ⟨hc, e⟩ := cIf_eq e
    · cases e
      have h1 := hx.int; have h2 := hy.int; subst h1 h2
      exact res_int fun Q q => .inl ⟨_, _, rfl, rfl, hc, q⟩
  · cases e
mutual
theorem Rep.data {K : PySem.W.Frag} {H : Hp} : ∀ {v : V} {d : D}, Rep H v d → d.canLay0 = true → DataV K H v d
  | _, _, .non, _ => .non
  | _, _, .bl b, _ => .bl b
  | _, _, .int i, _ => .int i
  | _, _, .str x, _ => .str x
  | _, _, .lst h r, e => .lst (rd_sq h) (Reps.data r (by simpa [PyData.canLay0] using e))
  | _, _, .tup h r, e => .tup (.inl (.inl h)) (Reps.data r (by simpa [PyData.canLay0] using e))
  | _, _, .dct _ _, e => by simp [PyData.canLay0] at e
theorem Reps.data {K : PySem.W.Frag} {H : Hp} : ∀ {v : List V} {d : List D}, Reps H v d → PyData.canLayAll0 d = true → DataVs K H v d
  | _, _, .nil, _ => .nil
  | _, _, .cons a b, e => by
    simp only [PyData.canLayAll0, Bool.and_eq_true] at e
    exact .cons (Rep.data a e.1) (Reps.data b e.2)
end
def gEq : D → D → Option (D × Bool) := fun c d => if SeqAt.shaped c = true ∧ SeqAt.shaped d = true then some (.bool (PyData.eqv c d), false) else none
def gNe : D → D → Option (D × Bool) := fun c d => if SeqAt.shaped c = true ∧ SeqAt.shaped d = true then some (.bool (!PyData.eqv c d), false) else none
theorem J_eq {K : PySem.W.Frag} : OpJ (rEqD K) gEq := by
  intro B H x y c d res s hx hy e
  unfold gEq at e
  split at e
  · rename_i h
    cases e
    exact res_bool fun Q q => ⟨_, _, (hx.rep s).data (SeqAt.canLay_of_shaped h.1), (hy.rep s).data (SeqAt.canLay_of_shaped h.2), h.1, h.2, q⟩
  · cases e
theorem J_ne {K : PySem.W.Frag} : OpJ (rNeD K) gNe := by
  intro B H x y c d res s hx hy e
  unfold gNe at e
  split at e
  · rename_i h
    cases e
    exact res_bool fun Q q => ⟨_, _, (hx.rep s).data (SeqAt.canLay_of_shaped h.1), (hy.rep s).data (SeqAt.canLay_of_shaped h.2), h.1, h.2, q⟩
  · cases e
def isNone : D → Bool
  | .none => true
  | _ => false
theorem Rep.isNone {H : Hp} {v : V} {d : D} (h : Rep H v d) : decide (v = .non) = Mir.isNone d := by cases h <;> rfl
def gIs : D → D → Option (D × Bool)
  | c, .none => some (.bool (isNone c), false)
  | _, _ => none
def gIsNot : D → D → Option (D × Bool)
  | c, .none => some (.bool (!isNone c), false)
  | _, _ => none
theorem J_is : OpJ (fun x y H Q => y = .non ∧ Q (.bl (decide (x = .non))) H) gIs := by
  intro B H x y c d res s hx hy e
  unfold gIs at e
  split at e
  · cases e
    exact res_bool fun Q q => ⟨hy.none, by rw [(hx.rep s).isNone]; exact q⟩
  · cases e
theorem J_isNot : OpJ (fun x y H Q => y = .non ∧ Q (.bl (!decide (x = .non))) H) gIsNot := by
  intro B H x y c d res s hx hy e
  unfold gIsNot at e
  split at e
  · cases e
    exact res_bool fun Q q => ⟨hy.none, by rw [(hx.rep s).isNone]; exact q⟩
  · cases e
def gNeg : D → Option (D × Bool)
  | .int i => some (.int (-i), false)
  | _ => none
theorem J_neg : UnJ (rU fun i => .int (-i)) gNeg := by
  intro B H x c res s hx e
  unfold gNeg at e
  split at e
  · cases e
    have h1 := hx.int; subst h1
    exact res_int fun Q q => ⟨_, rfl, q⟩
  · cases e
def gIx : D → D → Option (D × Bool)
  | .list ds, .int i => (atI ds i).map fun d => (d, false)
  | .tuple ds, .int i => (atI ds i).map fun d => (d, false)
  | _, _ => none
theorem Reps.atI {H : Hp} {vs : List V} {ds : List D} (r : Reps H vs ds) {i : Int} {d : D} (h : L2.atI ds i = some d) : ∃ v, L2.atI vs i = some v ∧ Rep H v d := by
  unfold L2.atI at h ⊢
  rw [r.length]
  obtain ⟨j, h1, h2⟩ := Option.bind_eq_some_iff.mp h
  obtain ⟨v, h3, h4⟩ := r.get j d h2
  exact ⟨v, by rw [h1]; exact h3, h4⟩
theorem J_ix {K : PySem.W.Frag} : OpJ (rIx K) gIx := by
  intro B H x y c d res s hx hy e
  unfold gIx at e
  split at e
  · obtain ⟨w, h1, h2⟩ := Option.map_eq_some_iff.mp e
    cases h2
    obtain ⟨p, xs, rfl, r1, rp1⟩ := hx.list s
    have h2 := hy.int; subst h2
    obtain ⟨v, h3, h4⟩ := rp1.atI h1
    exact ⟨v, h4, fun Q q => .inl ⟨_, _, _, _, rfl, rfl, rd_sq r1, h3, q⟩⟩
  · obtain ⟨w, h1, h2⟩ := Option.map_eq_some_iff.mp e
    cases h2
    obtain ⟨p, xs, rfl, r1, rp1⟩ := hx.tuple s
    have h2 := hy.int; subst h2
    obtain ⟨v, h3, h4⟩ := rp1.atI h1
    exact ⟨v, h4, fun Q q => .inr (.inl ⟨_, _, _, _, rfl, rfl, .inl (.inl r1), h3, q⟩)⟩
  · cases e
def cutD (ds : List D) (lo hi : Option Int) : List D := (ds.drop (HT.sIx ds.length 0 lo)).take (HT.sIx ds.length ds.length hi - HT.sIx ds.length 0 lo)
theorem Reps.cut {H : Hp} {vs : List V} {ds : List D} (r : Reps H vs ds) (lo hi : Option Int) : Reps H (cutV vs lo hi) (cutD ds lo hi) := by
  unfold cutV cutD
  rw [r.length]
  exact (r.drop _).take _
def gSl : D → Option Int → Option Int → Option (D × Bool)
  | .list ds, lo, hi => some (.list (cutD ds lo hi), true)
  | _, _, _ => none
theorem J_sl {K : PySem.W.Frag} : SlJ (rSlL K) gSl := by
  intro B H x c l u res s hx e
  unfold gSl at e
  split at e
  · cases e
    obtain ⟨p, xs, rfl, r1, rp1⟩ := hx.list s
    exact ⟨_, rp1.cut _ _, fun Q q => ⟨_, _, rfl, rd_sq r1, q⟩⟩
  · cases e
noncomputable def gLen : List D → Option (D × Bool)
  | [.list ds] => some (.int ds.length, false)
  | [.tuple ds] => some (.int ds.length, false)
  | [.str x] => cIf (x.length ≤ sizeLine) (some (.int x.length, false)) none
  | _ => none
theorem views1 {B H : Hp} {vs : List V} {d : D} (h : Views B H vs [d]) : ∃ v, vs = [v] ∧ View B H v d := by
  match vs, h with
  | [v], ⟨h, _⟩ => exact ⟨v, rfl, h⟩
theorem views2 {B H : Hp} {vs : List V} {c d : D} (h : Views B H vs [c, d]) : ∃ v w, vs = [v, w] ∧ View B H v c ∧ View B H w d := by
  match vs, h with
  | [v, w], ⟨h, g, _⟩ => exact ⟨v, w, rfl, h, g⟩
theorem J_len {K : PySem.W.Frag} : CallJ (rLen K) gLen := by
  intro B H vs ds res s h e
  unfold gLen at e
  split at e
  · cases e
    obtain ⟨v, rfl, hh⟩ := views1 h
    obtain ⟨p, xs, rfl, r1, rp1⟩ := hh.list s
    exact res_int fun Q q => .inl ⟨_, _, rfl, .inl (rd_sq r1), by rw [rp1.length]; exact q⟩
  · cases e
    obtain ⟨v, rfl, hh⟩ := views1 h
    obtain ⟨p, xs, rfl, r1, rp1⟩ := hh.tuple s
    exact res_int fun Q q => .inl ⟨_, _, rfl, .inr (.inl (.inl r1)), by rw [rp1.length]; exact q⟩
  · obtain ⟨hz, e⟩ := cIf_eq e
    · cases e
      obtain ⟨v, rfl, hh⟩ := views1 h
      have := hh.str; subst this
      exact res_int fun Q q => .inr ⟨_, rfl, hz, q⟩
  · cases e
def gMax : List D → Option (D × Bool)
  | [.int i, .int j] => some (.int (if j > i then j else i), false)
  | _ => none
def gInt : List D → Option (D × Bool)
  | [.int i] => some (.int i, false)
  | [.bool b] => some (.int (if b then 1 else 0), false)
  | _ => none
theorem J_max : CallJ (fun xs H Q => ∃ i j, xs = [.int i, .int j] ∧ Q (.int (if j > i then j else i)) H) gMax := by
  intro B H vs ds res s h e
  unfold gMax at e
  split at e
  · cases e
    obtain ⟨v, w, rfl, h1, h2⟩ := views2 h
    have := h1.int; subst this
    have := h2.int; subst this
    exact res_int fun Q q => ⟨_, _, rfl, q⟩
  · cases e
theorem J_int : CallJ (fun xs H Q => (∃ i, xs = [.int i] ∧ Q (.int i) H) ∨ ∃ k, xs = [.bl k] ∧ Q (.int (if k then 1 else 0)) H) gInt := by
  intro B H vs ds res s h e
  unfold gInt at e
  split at e
  · cases e
    obtain ⟨v, rfl, h1⟩ := views1 h
    have := h1.int; subst this
    exact res_int fun Q q => .inl ⟨_, rfl, q⟩
  · cases e
    obtain ⟨v, rfl, h1⟩ := views1 h
    have := h1.bool; subst this
    exact res_int fun Q q => .inr ⟨_, rfl, q⟩
  · cases e
def intsOf : List D → Option (List Int)
  | [] => some []
  | .int i :: ds => (intsOf ds).map (i :: ·)
  | _ => none
theorem Reps.ints {H : Hp} : ∀ {vs : List V} {ds : List D} {ns : List Int}, Reps H vs ds → intsOf ds = some ns → vs = ns.map V.int
  | _, _, _, .nil, e => by cases e; rfl
  | _, _, _, .cons (d := d) a b, e => by
    cases d with
    | int i =>
      obtain ⟨ms, h1, h2⟩ := Option.map_eq_some_iff.mp (show (intsOf _).map _ = some _ from e)
      cases h2
      cases a
      rw [List.map_cons, Reps.ints b h1]
    | _ => cases e
def tyD : D → String
  | .none => "NoneType"
  | .bool _ => "bool"
  | .int _ => "int"
  | .str _ => "str"
  | .list _ => "list"
  | .tuple _ => "tuple"
  | .dict _ => "?"
theorem Rep.ty {H : Hp} {v : V} {d : D} (h : Rep H v d) (hd : tyD d ≠ "?") : tyN H v = tyD d := by
  cases h with
  | non => rfl
  | bl _ => rfl
  | int _ => rfl
  | str _ => rfl
  | lst h _ =>
    rcases h with h | ⟨o, h⟩
    · unfold tyN; simp only [h]; rfl
    · unfold tyN; simp only [h]; rfl
  | tup h _ => unfold tyN; simp only [h]; rfl
  | dct _ _ => exact absurd rfl hd
def gIsi (n : String) : D → Option (D × Bool) := fun d => if tyD d ≠ "?" ∧ n ∈ tyAsked then some (.bool (tyIs (tyD d) n), false) else none
def mIsi (n : String) (a : PM) : PM := mUn (gIsi n) a
theorem me_isi {n : String} {ta : TE} {a : PM} (ha : ME ta a) : ME (tCB rIsi (tCons ta (tCons (tC (.ty n)) tNil))) (mIsi n a) := by
  intro F B H σ ρ r0 ρ' Q R e q
  obtain ⟨x, e1, e⟩ := Option.bind_eq_some_iff.mp e
  obtain ⟨res, e4, e⟩ := Option.map_eq_some_iff.mp e
  cases e
  refine ha.sv F B H σ ρ x.1 x.2 _ R e1 fun v B1 H1 E1 R1 V1 N1 => ?_
  unfold gIsi at e4
  split at e4
  · rename_i hd
    cases e4
    have rp := (V1.view R1).rep R1.sub
    have ht := rp.ty hd.1
    have hk : tyD x.1.1 ∈ tyKnown := by
      have h2 := hd.1
      revert h2
      cases x.1.1 with
      | none => intro _; show "NoneType" ∈ tyKnown; decide
      | bool _ => intro _; show "bool" ∈ tyKnown; decide
      | int _ => intro _; show "int" ∈ tyKnown; decide
      | str _ => intro _; show "str" ∈ tyKnown; decide
      | list _ => intro _; show "list" ∈ tyKnown; decide
      | tuple _ => intro _; show "tuple" ∈ tyKnown; decide
      | dict _ => intro h2; exact absurd rfl h2
    exact ⟨v, n, rfl, by rw [ht]; exact hk, hd.2, by rw [ht]; exact q _ B1 H1 E1 R1 (.bl _) fun p z => by cases z⟩
  · cases e4
def flatD : D → Bool
  | .none => true
  | .bool _ => true
  | .int _ => true
  | .str _ => true
  | _ => false
theorem Rep.flat {H : Hp} {v : V} {d : D} (h : Rep H v d) (e : flatD d = true) : flatV v = true := by cases h <;> first | rfl | cases e
theorem Reps.flatAll {H : Hp} : ∀ {v : List V} {d : List D}, Reps H v d → d.all flatD = true → v.all flatV = true
  | _, _, .nil, _ => rfl
  | _, _, .cons a b, e => by
    simp only [List.all_cons, Bool.and_eq_true] at e ⊢
    exact ⟨a.flat e.1, Reps.flatAll b e.2⟩
theorem Rep.eqv {H : Hp} {v w : V} {c d : D} (h : Rep H v c) (g : Rep H w d) (e : flatD c = true) (e' : flatD d = true) : eqV v w = PyData.eqv c d := by
  cases h <;> first | (cases e; done) | (cases g <;> first | (cases e'; done) | (simp [eqV, PyData.eqv]))
def gBits : D → List D → Option (D × Bool)
  | .int i, [] => some (.int ((Builtin.Int.intBits i : Nat) : Int), false)
  | _, _ => none
theorem J_bits {K : PySem.W.Frag} : MtJ K "int" rBits gBits := by
  constructor
  · intro B H x c ds res s hx e
    unfold gBits at e
    split at e
    · have := hx.int; subst this; rfl
    · cases e
  · intro B H x c vs ds res s hx hv e
    unfold gBits at e
    split at e
    · cases e
      have := hx.int; subst this
      match vs, hv with
      | [], _ => exact res_int fun Q q => ⟨_, rfl, rfl, q⟩
    · cases e
noncomputable def fAppend : List D → List D → Option (List D × D) := fun ds as => match as with
  | [d] => cIf (ds.length < sizeLine) (some (ds ++ [d], .none)) none
  | _ => none
theorem J_append : MutJ rAppend fAppend := by
  intro B H p xs ds vs as w hp rx s rv e
  unfold fAppend at e
  split at e
  · obtain ⟨hz, e⟩ := cIf_eq e
    · cases e
      cases rv with
      | cons a b =>
        cases b
        exact ⟨_, _, rx.append (.cons a .nil), .non, fun Q q => ⟨_, _, _, rfl, rfl, hp, by rw [rx.length]; exact hz, q⟩⟩
  · cases e
def fPop : List D → List D → Option (List D × D) := fun ds as => match as with
  | [] => (ds[ds.length - 1]?).map fun d => (ds.dropLast, d)
  | _ => none
theorem J_pop : MutJ rPop fPop := by
  intro B H p xs ds vs as w hp rx s rv e
  unfold fPop at e
  split at e
  · obtain ⟨d, h1, h2⟩ := Option.map_eq_some_iff.mp e
    cases h2
    cases rv
    obtain ⟨v, h3, h4⟩ := rx.get _ d h1
    exact ⟨_, v, rx.dropLast, h4, fun Q q => ⟨_, _, _, rfl, rfl, hp, by rw [rx.length]; exact h3, q⟩⟩
  · cases e
end Mir
set_option Elab.async false
set_option linter.all false
set_option maxRecDepth 100000
namespace Mir
open PySem L2 PySem.Spec PyProof.Rows
variable [Zc]
section
variable {X : Cx} {K : PySem.W.Frag}
theorem op_addK (h : X.K = K) : OpR X (binaryOp .Add) (rPlusM K) := h ▸ op_addM
theorem op_eqK (h : X.K = K) (hu : X.A.units + 64 < cLine) : OpR X (compareOp .Eq) (rEqD K) := h ▸ op_eqD hu
theorem op_neK (h : X.K = K) (hu : X.A.units + 64 < cLine) : OpR X (compareOp .NotEq) (rNeD K) := h ▸ op_neD hu
theorem ix_seqK (h : X.K = K) : IxR X (rIx K) := h ▸ ix_seq
theorem sl_listK (h : X.K = K) : SlR X (rSlL K) := h ▸ sl_list
theorem call_lenK (h : X.K = K) : CallR X (.builtin "len") (rLen K) := h ▸ call_lenU
variable {tg l o e : Expr} {es : List Expr} {tl to : TE} {t : TA} {name : Str} {apos cpos : Pos} {T id : String} {r : V → List V → Hp → VK → Prop}
theorem pi_listK (h : X.K = K) (hl : PE X l tl) : PI X tg l (iList K tl) := h ▸ pi_list hl
theorem pi_revK {a : Expr} {ta : TA} {p pos : Pos} (h : X.K = K) (hg : Gl X "reversed") (hm : X.mg "reversed" = none) (ha : PA X [a] ta) (hs : starEach [a] X.env = [(false, eval a X.env)] := by rfl) : PI X tg (.Call (.Name "reversed" p) [a] [] pos) (iRev K ta) := h ▸ pi_rev hg hm ha hs
theorem pe_bm0K (h : X.K = K) (pa : PlainAttrs T) (slot : Slot T name id) (hty : typeOf (.builtin id) = pure (.type "method_descriptor")) (hm : MtR X id r) (ho : PE X o to)
    (hbase : attributeBase o name X.env (eval o X.env) = eval o X.env := by rfl) (hline : (apos.endLine == cpos.line) = true := by rfl) : PE X (.Call (.Attribute o name apos) [] [] cpos) (tBM0 K T r to) := h ▸ pe_bm0 pa slot hty hm ho hbase hline
theorem pe_bmK (h : X.K = K) (pa : PlainAttrs T) (slot : Slot T name id) (hty : typeOf (.builtin id) = pure (.type "method_descriptor")) (hm : MtR X id r) (ho : PE X o to) (ha : PA X (e :: es) t)
    (hbase : attributeBase o name X.env (eval o X.env) = eval o X.env := by rfl)
    (hfew : ((backTo cpos (starEach (e :: es) X.env)).all (fun x => !x.1) && (backToKw cpos (keywordEach [] X.env)).all (fun x => x.1.isSome)
      && decide ((e :: es).length + ([] : List Keyword).length + (if ([] : List Keyword).isEmpty then 0 else 1) < 30)) = true := by rfl)
    (hline : (apos.endLine == cpos.line) = true := by rfl) (hs : starEach (e :: es) X.env = (false, eval e X.env) :: starEach es X.env := by rfl) (hplain : (backTo cpos (starEach es X.env)).any (·.1) = false := by rfl) :
    PE X (.Call (.Attribute o name apos) (e :: es) [] cpos) (tBM K T r to t) := h ▸ pe_bm pa slot hty hm ho ha hbase hfew hline hs hplain
end
def noLists (K : PySem.W.Frag) : Bool := K.all fun p => match p.2.cls with
  | .type n => n != "list"
  | _ => true
theorem mem_look {α : Type} : ∀ {l : List (Addr × α)} {a : Addr} {o : α}, l.lookup a = some o → (a, o) ∈ l
  | (b, c) :: l, a, o, h => by
    rw [List.lookup_cons] at h
    by_cases z : a = b
    · subst z
      rw [beq_self_eq_true] at h
      cases h
      exact List.mem_cons_self
    · rw [beq_eq_false_iff_ne.mpr z] at h
      exact List.mem_cons_of_mem _ (mem_look h)
theorem sq_rd {K : PySem.W.Frag} (h : noLists K = true) {H : Hp} {a : Addr} {xs : List V} (s : SqL K H a xs) : Rd H a (.lst xs) := by
  rcases s with s | ⟨o, its, n, hk, hc, _⟩
  · exact s
  · have := List.all_eq_true.mp h _ (mem_look hk)
    dsimp only at this
    rw [hc] at this
    simp at this
theorem reps_ints {H : Hp} : ∀ ns : List Int, Reps H (ns.map V.int) (ns.map PyData.int)
  | [] => .nil
  | n :: ns => .cons (.int n) (reps_ints ns)
theorem law_sp {K : PySem.W.Frag} (h : noLists K = true) {f : List D → Option (D × Bool)} (T : ∀ ns : List Int, ns.length ≤ 63 → (∀ k ∈ ns, Builtin.Int.intBits k ≤ 1048576) → f [.list (ns.map .int)] = some (.bool true, false))
    (vs : List V) (H : Hp) (Q : VK) (E : XK) (s : spLaw K vs H Q E) : spM f vs H Q E := by
  obtain ⟨a, ns, rfl, hS, hl, hb, q⟩ := s
  refine ⟨H, _, _, _, Same.refl _, fun _ _ z => z, .cons (.lst (sq_rd h hS) (reps_ints ns)) .nil, T ns hl hb, fun v B' H' P => ?_⟩
  have pv : Rep B' v (.bool true) := P.val
  cases pv
  exact q _
end Mir
set_option Elab.async false
set_option linter.all false
set_option maxRecDepth 100000
namespace Mir
open PySem L2
variable [Zc]
theorem beqI (i j : Int) : (i == j) = decide (i = j) := by by_cases h : i = j <;> simp [h]
theorem gEq_int (i j : Int) : gEq (.int i) (.int j) = some (.bool (decide (i = j)), false) := by
  unfold gEq
  rw [if_pos ⟨rfl, rfl⟩]
  simp only [PyData.eqv, beqI]
theorem gNe_int (i j : Int) : gNe (.int i) (.int j) = some (.bool (!decide (i = j)), false) := by
  unfold gNe
  rw [if_pos ⟨rfl, rfl⟩]
  simp only [PyData.eqv, beqI]
theorem gEq_bool (i j : Bool) : gEq (.bool i) (.bool j) = some (.bool (i == j), false) := by
  unfold gEq
  rw [if_pos ⟨rfl, rfl⟩]
  simp only [PyData.eqv]
theorem isi_int_int (i : Int) : gIsi "int" (.int i) = some (.bool true, false) := by simp [gIsi, tyD, tyAsked, tyIs]
theorem isi_int_bool (i : Int) : gIsi "bool" (.int i) = some (.bool false, false) := by simp [gIsi, tyD, tyAsked, tyIs]
theorem isi_tuple_tuple (i : List D) : gIsi "tuple" (.tuple i) = some (.bool true, false) := by simp [gIsi, tyD, tyAsked, tyIs]
theorem atI_nat {α : Type} (xs : List α) (i : Nat) : atI xs (i : Int) = xs[i]? := by
  unfold atI ixN
  rw [if_pos (by omega)]
  split
  · simp
  · rename_i h
    rw [Option.bind_none, List.getElem?_eq_none (by omega)]
theorem atI_last {α : Type} (xs : List α) : atI xs (-1) = xs.getLast? := by
  unfold atI ixN
  rw [if_neg (by omega)]
  cases xs with
  | nil => simp
  | cons a l =>
    rw [if_pos (by simp only [List.length_cons]; omega), Option.bind_some, List.getLast?_eq_getElem?]
    congr 1
    simp only [List.length_cons]; omega
theorem forL_inv {g : D → Rho → Option Rho} {b : SM} (I : Nat → Rho → Prop) : ∀ (ds : List D) (k : Nat) (ρ : Rho), I k ρ →
    (∀ (i : Nat) (d : D) (ρ : Rho), ds[i]? = some d → I (k + i) ρ → ∃ ρ1 ρ2, g d ρ = some ρ1 ∧ b ρ1 = some (.nx ρ2) ∧ I (k + i + 1) ρ2) → ∃ ρ', forL g b ds ρ = some (.nx ρ') ∧ I (k + ds.length) ρ'
  | [], k, ρ, h, _ => ⟨ρ, rfl, h⟩
  | d :: ds, k, ρ, h, st => by
    obtain ⟨ρ1, ρ2, h1, h2, h3⟩ := st 0 d ρ rfl h
    obtain ⟨ρ', h4, h5⟩ := forL_inv I ds (k + 1) ρ2 h3 fun i c ρ hc hi => by
      have e : k + 1 + i = k + (i + 1) := by omega
      rw [e] at hi ⊢
      exact st (i + 1) c ρ (by simpa using hc) hi
    refine ⟨ρ', ?_, by rw [List.length_cons, show k + (ds.length + 1) = k + 1 + ds.length by omega]; exact h5⟩
    unfold forL
    simp only [h1, h2, Option.bind_some, h4]
theorem while_go {c : Rho → Option (Bool × Rho)} {b : SM} {n : Nat} {ρ ρ1 ρ2 : Rho} {o : Option Out} (h1 : c ρ = some (true, ρ1)) (h2 : b ρ1 = some (.nx ρ2)) (h3 : mWhile c b n ρ2 = o) : mWhile c b (n + 1) ρ = o := by
  unfold mWhile
  simp only [h1, h2, Option.bind_some, if_true, h3]
theorem while_end {c : Rho → Option (Bool × Rho)} {b : SM} {n : Nat} {ρ ρ1 : Rho} (h1 : c ρ = some (false, ρ1)) : mWhile c b (n + 1) ρ = some (.nx ρ1) := by
  unfold mWhile
  simp only [h1, Option.bind_some, Bool.false_eq_true, if_false]
theorem rngD_get {lo : Int} {n i : Nat} {d : D} (h : (rngD lo n)[i]? = some d) : i < n ∧ d = .int (lo + i) := by
  rw [rngD, List.getElem?_map] at h
  obtain ⟨k, h1, h2⟩ := Option.map_eq_some_iff.mp h
  obtain ⟨hl, hk⟩ := List.getElem?_eq_some_iff.mp h1
  rw [List.getElem_range] at hk
  rw [List.length_range] at hl
  subst hk
  exact ⟨hl, h2.symm⟩
theorem rngD_len (lo : Int) (n : Nat) : (rngD lo n).length = n := by simp [rngD]
theorem pureR_tup (l : List D) : pureR (.tuple l) false = pureDs l := by simp only [pureR, pureD]
theorem pureDs_nil : pureDs [] = true := by simp only [pureDs]
theorem pureDs_int (i : Int) (l : List D) : pureDs (.int i :: l) = pureDs l := by simp only [pureDs, pureD, Bool.true_and]
theorem pureDs_ints : ∀ l : List Int, pureDs (l.map .int) = true
  | [] => pureDs_nil
  | i :: l => by rw [List.map_cons, pureDs_int, pureDs_ints l]
theorem seq_nx {a b : SM} {ρ ρ1 : Rho} {o : Option Out} (h1 : a ρ = some (.nx ρ1)) (h2 : b ρ1 = o) : mSeq a b ρ = o := by
  unfold mSeq; simp only [h1, Option.bind_some, h2]
theorem seq_rt {a b : SM} {ρ ρ1 : Rho} {r : RV} (h1 : a ρ = some (.rt r ρ1)) : mSeq a b ρ = some (.rt r ρ1) := by
  unfold mSeq; simp only [h1, Option.bind_some]
theorem fn_of {n k : Nat} {b : SM} {ds : List D} {o : Out} {w : D × Bool} (h0 : ds.length = n) (h1 : b (ds.map .fz ++ List.replicate k .no) = some o) (h2 : retD o = some w) : fnM n k b ds = some w := by
  unfold fnM; rw [if_pos h0, h1, Option.bind_some, h2]
theorem call_pure {f : List D → Option (D × Bool)} {m : Rho → Option (List RV × Rho)} {ρ ρ1 : Rho} {rs : List RV} {d : D} {o : Bool} (h1 : m ρ = some (rs, ρ1)) (h2 : f (rs.map (·.1)) = some (d, o)) (h3 : pureR d o = true) : mCall f m ρ = some (kO d o, ρ1) := by
  unfold mCall; rw [h1, Option.bind_some]; dsimp only; rw [h2, Option.bind_some, if_pos h3]
theorem ret_eq {a : PM} {ρ ρ1 : Rho} {r : RV} (h : a ρ = some (r, ρ1)) : mRet a ρ = some (.rt r ρ1) := by
  unfold mRet; rw [h, Option.map_some]
theorem for_eq {it : Rho → Option (List D × Rho)} {g : D → Rho → Option Rho} {b : SM} {ρ ρ1 : Rho} {ds : List D} {o : Option Out} (h1 : it ρ = some (ds, ρ1)) (h2 : forL g b ds ρ1 = o) : mFor it g b ρ = o := by
  unfold mFor; rw [h1, Option.bind_some]; exact h2
theorem rg1_eq {m : Rho → Option (List RV × Rho)} {ρ ρ1 : Rho} {j : Int} {k : Kd} (h1 : m ρ = some ([(.int j, k)], ρ1)) (h2 : -(2 ^ 62) ≤ j ∧ j < 2 ^ 62) : mRg1 m ρ = some (rngD 0 j.toNat, ρ1) := by
  unfold mRg1; rw [h1, Option.bind_some]; show cIf _ _ _ = _; rw [cIf_pos h2]
end Mir
set_option Elab.async false
set_option linter.all false
set_option maxRecDepth 100000
namespace Mir
open PySem L2
variable [Zc]
def SF (s : Sl) : Prop := s = .no ∨ ∃ d, s = .fz d
theorem SF.fz (d : D) : SF (.fz d) := .inr ⟨d, rfl⟩
theorem SF.no : SF .no := .inl rfl
theorem mgN2 {a b s : Sl} {r : Rho} {d : D} (h : SF s) : mgN 2 d (a :: b :: s :: r) = some (a :: b :: .fz d :: r) := by
  rcases h with rfl | ⟨c, rfl⟩ <;> rfl
theorem mgN3 {a b c s : Sl} {r : Rho} {d : D} (h : SF s) : mgN 3 d (a :: b :: c :: s :: r) = some (a :: b :: c :: .fz d :: r) := by
  rcases h with rfl | ⟨c, rfl⟩ <;> rfl
theorem sz_le {n : Nat} (h : n ≤ 100000) : n ≤ sizeLine := Nat.le_trans h (by decide)
theorem sz_lt {n : Nat} (h : n ≤ 100000) : n < sizeLine := Nat.lt_of_le_of_lt h (by decide)
end Mir
set_option Elab.async false
set_option linter.all false
set_option maxRecDepth 100000
namespace Mir
open PySem L2 PySem.Spec PyProof.Rows
variable [Zc]
end Mir
set_option Elab.async false
set_option linter.all false
set_option maxRecDepth 100000
namespace Mir
open PySem L2
variable [Zc]
theorem reps_rng {H : Hp} (n : Nat) : Reps H (rngV n) (rngD 0 n) := by
  have h : ∀ l : List Nat, Reps H (l.map fun k : Nat => V.int (k : Int)) (l.map fun k : Nat => PyData.int (0 + (k : Int))) := by
    intro l
    induction l with
    | nil => exact .nil
    | cons a l ih =>
      refine .cons ?_ ih
      show Rep H (V.int (a : Int)) (PyData.int (0 + (a : Int)))
      rw [Int.zero_add]
      exact .int _
  exact h _
noncomputable def gListRng : List D → Option (D × Bool)
  | [.int j] => cIf (0 ≤ j ∧ j ≤ 2 ^ 24) (some (.list (rngD 0 j.toNat), true)) none
  | _ => none
noncomputable def gListRevRng : List D → Option (D × Bool)
  | [.int j] => cIf (0 ≤ j ∧ j ≤ 2 ^ 24) (some (.list (rngD 0 j.toNat).reverse, true)) none
  | _ => none
theorem J_listRng : CallJ rListRng gListRng := by
  intro B H vs ds res s h e
  unfold gListRng at e
  split at e
  · rename_i j
    obtain ⟨hz, e⟩ := cIf_eq e
    cases e
    obtain ⟨v, rfl, hh⟩ := views1 h
    have := hh.int; subst this
    refine ⟨rngV j.toNat, reps_rng _, fun Q q => ⟨j.toNat, ?_, by omega, q⟩⟩
    rw [Int.toNat_of_nonneg hz.1]
  · cases e
theorem J_listRevRng : CallJ rListRevRng gListRevRng := by
  intro B H vs ds res s h e
  unfold gListRevRng at e
  split at e
  · rename_i j
    obtain ⟨hz, e⟩ := cIf_eq e
    cases e
    obtain ⟨v, rfl, hh⟩ := views1 h
    have := hh.int; subst this
    refine ⟨(rngV j.toNat).reverse, (reps_rng _).reverse, fun Q q => ⟨j.toNat, ?_, by omega, q⟩⟩
    rw [Int.toNat_of_nonneg hz.1]
  · cases e
noncomputable def gSorted : List D → Option (D × Bool)
  | [.list ds] => (intsOf ds).bind fun ns => cIf (ns.length < 64) (some (.list ((sortI ns).map .int), true)) none
  | _ => none
theorem J_sorted {K : PySem.W.Frag} : CallJ (rSorted K) gSorted := by
  intro B H vs ds res s h e
  unfold gSorted at e
  split at e
  · obtain ⟨ns, h1, h2⟩ := Option.bind_eq_some_iff.mp e
    obtain ⟨hz, e⟩ := cIf_eq h2
    cases e
    obtain ⟨v, rfl, hh⟩ := views1 h
    obtain ⟨p, xs, rfl, r1, rp1⟩ := hh.list s
    have := rp1.ints h1; subst this
    exact ⟨_, reps_ints _, fun Q q => ⟨_, _, rfl, rd_sq r1, hz, q⟩⟩
  · cases e
def insD (ds : List D) (i : Int) (y : D) : List D := ds.take (if i < 0 then (i + (ds.length : Int)).toNat else min i.toNat ds.length) ++ y :: ds.drop (if i < 0 then (i + (ds.length : Int)).toNat else min i.toNat ds.length)
noncomputable def fInsert : List D → List D → Option (List D × D) := fun ds as => match as with
  | [.int i, y] => cIf (-(2 ^ 63) ≤ i ∧ i < 2 ^ 63 ∧ ds.length < sizeLine) (some (insD ds i y, .none)) none
  | _ => none
theorem J_insert : MutJ rInsert fInsert := by
  intro B H p xs ds vs as w hp rx s rv e
  unfold fInsert at e
  split at e
  · obtain ⟨hz, e⟩ := cIf_eq e
    cases e
    cases rv with
    | cons a b =>
      cases b with
      | cons a' b' =>
        cases b'
        cases a
        refine ⟨_, _, ?_, .non, fun Q q => ⟨_, _, _, _, rfl, rfl, hp, by rw [rx.length]; exact hz.2.2, hz.1, hz.2.1, q⟩⟩
        unfold insV insD
        rw [rx.length]
        exact (rx.take _).append (.cons a' (rx.drop _))
  · cases e
def inD (x : D) (ds : List D) : Bool := ds.any fun d => PyData.eqv d x
theorem Reps.inV {H : Hp} {v : V} {c : D} (g : Rep H v c) (e : flatD c = true) : ∀ {vs : List V} {ds : List D}, Reps H vs ds → ds.all flatD = true → inV v vs = inD c ds
  | _, _, .nil, _ => rfl
  | _, _, .cons a b, h => by
    simp only [List.all_cons, Bool.and_eq_true] at h
    have := Reps.inV g e b h.2
    unfold L2.inV inD at this ⊢
    rw [List.any_cons, List.any_cons, this, a.eqv g h.1 e]
def gIn : D → D → Option (D × Bool)
  | x, .list ds => if flatD x = true ∧ ds.all flatD = true then some (.bool (inD x ds), false) else none
  | _, _ => none
def gNotIn : D → D → Option (D × Bool)
  | x, .list ds => if flatD x = true ∧ ds.all flatD = true then some (.bool (!inD x ds), false) else none
  | _, _ => none
theorem J_in {K : PySem.W.Frag} : OpJ (rIn K false) gIn := by
  intro B H x y c d res s hx hy e
  unfold gIn at e
  split at e
  · split at e
    · rename_i hf
      cases e
      obtain ⟨p, xs, rfl, r1, rp1⟩ := hy.list s
      have rx := hx.rep s
      have rp := rp1.mono s
      refine res_bool fun Q q => ⟨_, _, rfl, .inl (rd_sq r1), rx.flat hf.1, rp.flatAll hf.2, ?_⟩
      rw [Reps.inV rx hf.1 rp hf.2]
      exact q
    · cases e
  · cases e
theorem J_notIn {K : PySem.W.Frag} : OpJ (rIn K true) gNotIn := by
  intro B H x y c d res s hx hy e
  unfold gNotIn at e
  split at e
  · split at e
    · rename_i hf
      cases e
      obtain ⟨p, xs, rfl, r1, rp1⟩ := hy.list s
      have rx := hx.rep s
      have rp := rp1.mono s
      refine res_bool fun Q q => ⟨_, _, rfl, .inl (rd_sq r1), rx.flat hf.1, rp.flatAll hf.2, ?_⟩
      rw [Reps.inV rx hf.1 rp hf.2]
      exact q
    · cases e
  · cases e
section
variable {X : Cx} {K : PySem.W.Frag}
theorem op_inK (h : X.K = K) : OpR X (compareOp .In) (rIn K false) := h ▸ op_in_seq
theorem op_notInK (h : X.K = K) : OpR X (compareOp .NotIn) (rIn K true) := h ▸ op_notIn_seq
theorem call_sortedK (h : X.K = K) : CallR X (.builtin "sorted") (rSorted K) := h ▸ call_sorted
end
end Mir
set_option Elab.async false
set_option linter.all false
set_option maxRecDepth 100000
namespace Mir
open PySem L2
variable [Zc]
section
variable {a b : PM} {ρ ρ1 ρ2 ρ3 : Rho} {x y d : D} {r : RV} {res : D × Bool}
theorem sv_new (h : a ρ = some ((d, .new), ρ1)) : sv a ρ = some ((d, .fz), ρ1) := by unfold sv; rw [h]
theorem sv_fz (h : a ρ = some ((d, .fz), ρ1)) : sv a ρ = some ((d, .fz), ρ1) := by unfold sv; rw [h]
theorem sv_at {i : Nat} (h : a ρ = some ((d, .at i), ρ1)) : sv a ρ = some ((d, .at i), ρ1) := by unfold sv; rw [h]
theorem op_ev {g : D → D → Option (D × Bool)} (h1 : sv a ρ = some ((x, .fz), ρ1)) (h2 : sv b ρ1 = some (r, ρ2)) (h3 : g x r.1 = some res) : mOp g a b ρ = some (resK res, ρ2) := by
  unfold mOp; rw [h1, Option.bind_some]; dsimp only; rw [h2, Option.bind_some]; dsimp only [refr, Option.bind_some]; rw [h3, Option.map_some]
theorem op_at {g : D → D → Option (D × Bool)} {i : Nat} (h1 : sv a ρ = some ((x, .at i), ρ1)) (h2 : sv b ρ1 = some (r, ρ2)) (h4 : ρ2[i]? = some (.own y)) (h3 : g y r.1 = some res) : mOp g a b ρ = some (resK res, ρ2) := by
  unfold mOp; rw [h1, Option.bind_some]; dsimp only; rw [h2, Option.bind_some]; dsimp only [refr]; rw [h4]; dsimp only [Option.bind_some]; rw [h3, Option.map_some]
theorem cons_fz {m : Rho → Option (List RV × Rho)} {rs : List RV} (h1 : sv a ρ = some ((x, .fz), ρ1)) (h2 : m ρ1 = some (rs, ρ2)) : mCons a m ρ = some ((x, .fz) :: rs, ρ2) := by
  unfold mCons; rw [h1, Option.bind_some]; dsimp only; rw [h2, Option.bind_some]; rfl
theorem cons_at {m : Rho → Option (List RV × Rho)} {rs : List RV} {i : Nat} (h1 : sv a ρ = some ((x, .at i), ρ1)) (h2 : m ρ1 = some (rs, ρ2)) (h4 : ρ2[i]? = some (.own y)) : mCons a m ρ = some ((y, .at i) :: rs, ρ2) := by
  unfold mCons; rw [h1, Option.bind_some]; dsimp only; rw [h2, Option.bind_some]; dsimp only [refr]; rw [h4]; rfl
theorem nil_ev : mNil ρ = some ([], ρ) := rfl
theorem var_fz {i : Nat} (h : ρ[i]? = some (.fz d)) : mVar i ρ = some ((d, .fz), ρ) := by unfold mVar; rw [h]
theorem var_own {i : Nat} (h : ρ[i]? = some (.own d)) : mVar i ρ = some ((d, .at i), ρ) := by unfold mVar; rw [h]
theorem cb_ev {g : List D → Option (D × Bool)} {m : Rho → Option (List RV × Rho)} {rs : List RV} (h1 : m ρ = some (rs, ρ1)) (h2 : g (rs.map (·.1)) = some res) : mCB g m ρ = some (resK res, ρ1) := by
  unfold mCB; rw [h1, Option.bind_some]; dsimp only; rw [h2, Option.map_some]
theorem asg_fz {i : Nat} (h1 : a ρ = some ((d, .fz), ρ1)) (h2 : setSl ρ1 i (.fz d) = some ρ2) : mAsg i a ρ = some (.nx ρ2) := by
  unfold mAsg; rw [h1, Option.bind_some]; dsimp only [sto]; rw [h2, Option.map_some]
theorem asg_new {i : Nat} (h1 : a ρ = some ((d, .new), ρ1)) (h2 : setSl ρ1 i (.own d) = some ρ2) : mAsg i a ρ = some (.nx ρ2) := by
  unfold mAsg; rw [h1, Option.bind_some]; dsimp only [sto]; rw [h2, Option.map_some]
theorem if_t {c : Rho → Option (Bool × Rho)} {s t : SM} {o : Option Out} (h1 : c ρ = some (true, ρ1)) (h2 : s ρ1 = o) : mIfS c s t ρ = o := by
  unfold mIfS; rw [h1, Option.bind_some]; dsimp only; rw [if_pos rfl, h2]
theorem if_f {c : Rho → Option (Bool × Rho)} {s t : SM} {o : Option Out} (h1 : c ρ = some (false, ρ1)) (h2 : t ρ1 = o) : mIfS c s t ρ = o := by
  unfold mIfS; rw [h1, Option.bind_some]; dsimp only; rw [if_neg Bool.false_ne_true, h2]
theorem test_ev {k : Kd} {v : Bool} (h : a ρ = some ((.bool v, .fz), ρ1)) : mTest a ρ = some (v, ρ1) := by
  unfold mTest; rw [sv_fz h]; rfl
theorem not_ev {c : Rho → Option (Bool × Rho)} {v : Bool} (h : c ρ = some (v, ρ1)) : mNot c ρ = some (!v, ρ1) := by unfold mNot; rw [h]; rfl
theorem and_t {c e : Rho → Option (Bool × Rho)} {o : Option (Bool × Rho)} (h : c ρ = some (true, ρ1)) (h2 : e ρ1 = o) : mAnd c e ρ = o := by unfold mAnd; rw [h]; simpa using h2
theorem and_f {c e : Rho → Option (Bool × Rho)} (h : c ρ = some (false, ρ1)) : mAnd c e ρ = some (false, ρ1) := by unfold mAnd; rw [h]; rfl
theorem or_t {c e : Rho → Option (Bool × Rho)} (h : c ρ = some (true, ρ1)) : mOr c e ρ = some (true, ρ1) := by unfold mOr; rw [h]; rfl
theorem or_f {c e : Rho → Option (Bool × Rho)} {o : Option (Bool × Rho)} (h : c ρ = some (false, ρ1)) (h2 : e ρ1 = o) : mOr c e ρ = o := by unfold mOr; rw [h]; simpa using h2
theorem gAdd_list (a b : List D) (h : a.length + b.length ≤ 100000) : gAdd (.list a) (.list b) = some (.list (a ++ b), true) := by
  show cIf _ _ _ = _; rw [cIf_pos (sz_le h)]
theorem gAdd_ints (a b : List Int) (h : a.length + b.length ≤ 100000) : gAdd (.list (a.map .int)) (.list (b.map .int)) = some (.list ((a ++ b).map .int), true) := by
  rw [gAdd_list _ _ (by rw [List.length_map, List.length_map]; exact h), List.map_append]
theorem lst_ev {m : Rho → Option (List RV × Rho)} {rs : List RV} {ds : List D} (h1 : m ρ = some (rs, ρ1)) (h2 : fzAll rs ρ1 = some (ds, ρ2)) (h3 : ds.length ≤ 100000) : mLst m ρ = some ((.list ds, .new), ρ2) := by
  unfold mLst; rw [h1, Option.bind_some]; dsimp only; rw [h2, Option.bind_some]; dsimp only; rw [cIf_pos (sz_le h3)]
theorem tup_ev {m : Rho → Option (List RV × Rho)} {rs : List RV} {ds : List D} (h1 : m ρ = some (rs, ρ1)) (h2 : fzAll rs ρ1 = some (ds, ρ2)) (h3 : ds.length ≤ 100000) : mTup m ρ = some ((.tuple ds, .fz), ρ2) := by
  unfold mTup; rw [h1, Option.bind_some]; dsimp only; rw [h2, Option.bind_some]; dsimp only; rw [cIf_pos (sz_le h3)]
theorem lc_ev {fr : List (Str × Nat)} {it : Rho → Option (List D × Rho)} {c : Rho → Option (Bool × Rho)} {e : PM} {ds ys : List D} (h1 : it ρ = some (ds, ρ1)) (h2 : compL c e (fr.map fun p => demote ρ1 p.2) ds = some ys) (h3 : ys.length ≤ 100000) :
    mLC fr it c e ρ = some ((.list ys, .new), ρ1) := by
  unfold mLC; rw [h1, Option.bind_some]; dsimp only; rw [h2, Option.bind_some, cIf_pos (sz_lt h3)]
theorem itl_ev {d : List D} {k : Kd} (h1 : sv a ρ = some ((.list d, k), ρ1)) : mItL a ρ = some (d, ρ1) := by
  unfold mItL; rw [h1]; rfl
theorem fol_ev {d : List D} (h1 : sv a ρ = some ((.list d, .fz), ρ1)) : mFoL a ρ = some (d, ρ1) := by
  unfold mFoL; rw [h1]; rfl
theorem drop_ev (h : a ρ = some (r, ρ1)) : mDrop a ρ = some (.nx ρ1) := by unfold mDrop; rw [h]; rfl
end
theorem compL_map {e : PM} {ρn : Rho} {α : Type} {f : α → D} {g : α → D} : ∀ l : List α, (∀ x ∈ l, ∃ ρ, sv e (.fz (f x) :: ρn) = some ((g x, .fz), ρ)) → compL mYes e ρn (l.map f) = some (l.map g)
  | [], _ => rfl
  | x :: l, h => by
    obtain ⟨ρ, h1⟩ := h x List.mem_cons_self
    have h2 := compL_map l fun y hy => h y (List.mem_cons_of_mem _ hy)
    rw [List.map_cons, List.map_cons]
    unfold compL
    simp only [mYes, h1, h2, asF, Option.bind_some, Option.map_some, if_true]
theorem rngD_map (n : Nat) : rngD 0 n = (List.range n).map fun k : Nat => PyData.int (k : Int) := by
  unfold rngD
  congr 1
  funext k
  rw [Int.zero_add]
theorem mulOk {i j : Int} (h : (-(2 ^ 64) < i ∧ i < 2 ^ 64) ∨ (-(2 ^ 64) < j ∧ j < 2 ^ 64)) : IntMulOk i j := CMul.ok h
theorem mulOk_bits {i j : Int} (h : Builtin.Int.intBits i ≤ 1048576) (h2 : Builtin.Int.intBits j ≤ 1048576) : IntMulOk i j := IntMulOk.of_bits h h2
def IE (m : PM) (ρ : Rho) (v : Int) : Prop := m ρ = some ((.int v, .fz), ρ)
def BE (m : PM) (ρ : Rho) (v : Bool) : Prop := m ρ = some ((.bool v, .fz), ρ)
section
variable {a b : PM} {ρ : Rho} {i j : Int} {u v : Bool}
theorem op_i {g : D → D → Option (D × Bool)} {k : Int} (h1 : IE a ρ i) (h2 : IE b ρ j) (h3 : g (.int i) (.int j) = some (.int k, false)) : IE (mOp g a b) ρ k := op_ev (sv_fz h1) (sv_fz h2) h3
theorem op_b {g : D → D → Option (D × Bool)} {k : Bool} (h1 : IE a ρ i) (h2 : IE b ρ j) (h3 : g (.int i) (.int j) = some (.bool k, false)) : BE (mOp g a b) ρ k := op_ev (sv_fz h1) (sv_fz h2) h3
theorem ie_c : IE (mC (.int i)) ρ i := rfl
theorem ie_var {k : Nat} (h : ρ[k]? = some (.fz (.int i))) : IE (mVar k) ρ i := var_fz h
theorem ie_add (h1 : IE a ρ i) (h2 : IE b ρ j) : IE (mOp gAdd a b) ρ (i + j) := op_i h1 h2 rfl
theorem ie_sub (h1 : IE a ρ i) (h2 : IE b ρ j) : IE (mOp gSub a b) ρ (i - j) := op_i h1 h2 rfl
theorem gI_ev {C : Int → Int → Prop} {f : Int → Int → Int} (h : C i j) : gI C f (.int i) (.int j) = some (.int (f i j), false) := by show cIf _ _ _ = _; rw [cIf_pos h]
theorem ie_mul (h1 : IE a ρ i) (h2 : IE b ρ j) (h : IntMulOk i j) : IE (mOp gMul a b) ρ (i * j) := op_i h1 h2 (by show cIf _ _ _ = _; rw [cIf_pos h])
theorem ie_div (h1 : IE a ρ i) (h2 : IE b ρ j) (h : CDiv i j) : IE (mOp gDiv a b) ρ (i / j) := op_i h1 h2 (gI_ev h)
theorem ie_mod (h1 : IE a ρ i) (h2 : IE b ρ j) (h : 0 < j) : IE (mOp gMod a b) ρ (i % j) := op_i h1 h2 (gI_ev (C := fun _ j => 0 < j) h)
theorem ie_pow (h1 : IE a ρ i) (h2 : IE b ρ j) (h : CPow i j) : IE (mOp gPow a b) ρ (i ^ j.toNat) := op_i h1 h2 (gI_ev h)
theorem ie_neg (h1 : IE a ρ i) : IE (mUn gNeg a) ρ (-i) := by unfold IE mUn; rw [sv_fz h1]; rfl
theorem be_eq (h1 : IE a ρ i) (h2 : IE b ρ j) : BE (mOp gEq a b) ρ (decide (i = j)) := op_b h1 h2 (gEq_int i j)
theorem be_ne (h1 : IE a ρ i) (h2 : IE b ρ j) : BE (mOp gNe a b) ρ (!decide (i = j)) := op_b h1 h2 (gNe_int i j)
theorem be_lt (h1 : IE a ρ i) (h2 : IE b ρ j) : BE (mOp gLt a b) ρ (decide (i < j)) := op_b h1 h2 rfl
theorem be_le (h1 : IE a ρ i) (h2 : IE b ρ j) : BE (mOp gLe a b) ρ (decide (i ≤ j)) := op_b h1 h2 rfl
theorem be_gt (h1 : IE a ρ i) (h2 : IE b ρ j) : BE (mOp gGt a b) ρ (decide (j < i)) := op_b h1 h2 rfl
theorem be_ge (h1 : IE a ρ i) (h2 : IE b ρ j) : BE (mOp gGe a b) ρ (decide (j ≤ i)) := op_b h1 h2 rfl
theorem BE.t (h : BE a ρ v) : mTest a ρ = some (v, ρ) := test_ev (k := .fz) h
theorem BE.is (h : BE a ρ u) (e : u = v) : BE a ρ v := e ▸ h
theorem IE.is (h : IE a ρ i) (e : i = j) : IE a ρ j := e ▸ h
theorem ie_call {f : List D → Option (D × Bool)} {m : Rho → Option (List RV × Rho)} {rs : List RV} (h1 : m ρ = some (rs, ρ)) (h2 : f (rs.map (·.1)) = some (.int i, false)) : IE (mCall f m) ρ i := call_pure h1 h2 rfl
theorem be_call {f : List D → Option (D × Bool)} {m : Rho → Option (List RV × Rho)} {rs : List RV} (h1 : m ρ = some (rs, ρ)) (h2 : f (rs.map (·.1)) = some (.bool v, false)) : BE (mCall f m) ρ v := call_pure h1 h2 rfl
theorem IE.cons {m : Rho → Option (List RV × Rho)} {rs : List RV} (h : IE a ρ i) (h2 : m ρ = some (rs, ρ)) : mCons a m ρ = some ((.int i, .fz) :: rs, ρ) := cons_fz (sv_fz h) h2
theorem be_and (h1 : BE a ρ u) (h2 : u = true → BE b ρ v) (h3 : u = false → v = false) : BE (mAndV a b) ρ v := by
  unfold BE mAndV
  rw [h1.t]
  cases u with
  | true => exact h2 rfl
  | false => rw [h3 rfl]; rfl
theorem be_or (h1 : BE a ρ u) (h2 : u = false → BE b ρ v) (h3 : u = true → v = true) : BE (mOrV a b) ρ v := by
  unfold BE mOrV
  rw [h1.t]
  cases u with
  | false => exact h2 rfl
  | true => rw [h3 rfl]; rfl
theorem be_not (h1 : BE a ρ u) : BE (mNotV a) ρ (!u) := by unfold BE mNotV; rw [h1.t]; rfl
end
section
variable {a b : PM} {ρ : Rho} {i j : Int} {u v : Bool}
theorem asgI {k : Nat} {ρ' : Rho} (h : IE a ρ i) (h2 : setSl ρ k (.fz (.int i)) = some ρ') : mAsg k a ρ = some (.nx ρ') := asg_fz h h2
theorem tstB (h : BE a ρ u) (e : u = v) : mTest a ρ = some (v, ρ) := e ▸ h.t
theorem consI {m : Rho → Option (List RV × Rho)} {rs : List RV} (h : IE a ρ i) (h2 : m ρ = some (rs, ρ)) : mCons a m ρ = some ((.int i, .fz) :: rs, ρ) := cons_fz (sv_fz h) h2
theorem tEq (h1 : IE a ρ i) (h2 : IE b ρ j) (h : i = j) : mTest (mOp gEq a b) ρ = some (true, ρ) := tstB (be_eq h1 h2) (decide_eq_true h)
theorem tNe (h1 : IE a ρ i) (h2 : IE b ρ j) (h : i ≠ j) : mTest (mOp gEq a b) ρ = some (false, ρ) := tstB (be_eq h1 h2) (decide_eq_false h)
end
theorem while_brk {c : Rho → Option (Bool × Rho)} {b : SM} {n : Nat} {ρ ρ1 ρ2 : Rho} (h1 : c ρ = some (true, ρ1)) (h2 : b ρ1 = some (.bk ρ2)) : mWhile c b (n + 1) ρ = some (.nx ρ2) := by
  unfold mWhile
  simp only [h1, h2, Option.bind_some, if_true]
theorem seq_bk {a b : SM} {ρ ρ1 : Rho} (h1 : a ρ = some (.bk ρ1)) : mSeq a b ρ = some (.bk ρ1) := by
  unfold mSeq; simp only [h1, Option.bind_some]
theorem append_ev {i : Nat} {m : Rho → Option (List RV × Rho)} {ρ ρ1 ρ2 : Rho} {r : RV} {d : D} {ds ds0 : List D} (h0 : ρ[i]? = some (.own (.list ds0))) (h1 : m ρ = some ([r], ρ1)) (h2 : fzOne r ρ1 = some (d, ρ2)) (h3 : ρ2[i]? = some (.own (.list ds))) (hz : ds.length ≤ 100000) :
    mMut i fAppend m ρ = some ((.none, .fz), ρ2.set i (.own (.list (ds ++ [d])))) := by
  unfold mMut
  simp only [h0, h1, h2, h3, ownL, fzAll, Option.bind_some, Option.map_some, fAppend, cIf_pos (sz_lt hz), Mir.putAt, Sl.put]
theorem ifE_t {c : Rho → Option (Bool × Rho)} {a b : PM} {ρ ρ1 : Rho} {o : Option (RV × Rho)} (h1 : c ρ = some (true, ρ1)) (h2 : a ρ1 = o) : mIfE c a b ρ = o := by unfold mIfE; rw [h1]; simpa using h2
theorem ifE_f {c : Rho → Option (Bool × Rho)} {a b : PM} {ρ ρ1 : Rho} {o : Option (RV × Rho)} (h1 : c ρ = some (false, ρ1)) (h2 : b ρ1 = o) : mIfE c a b ρ = o := by unfold mIfE; rw [h1]; simpa using h2
theorem isi_ev {n : String} {a : PM} {ρ ρ1 : Rho} {d : D} {k : Kd} {v : Bool} (h1 : sv a ρ = some ((d, k), ρ1)) (h2 : gIsi n d = some (.bool v, false)) : mIsi n a ρ = some ((.bool v, .fz), ρ1) := by
  unfold mIsi mUn; rw [h1, Option.bind_some]; dsimp only; rw [h2]; rfl
theorem app_ev {i : Nat} {m : Rho → Option (List RV × Rho)} {ρ ρ1 ρ2 ρ3 : Rho} {r : RV} (d : D) (ds : List D) {ds0 : List D} (h0 : ρ[i]? = some (.own (.list ds0))) (h1 : m ρ = some ([r], ρ1)) (h2 : fzOne r ρ1 = some (d, ρ2)) (h3 : ρ2[i]? = some (.own (.list ds))) (hz : ds.length ≤ 100000)
    (h5 : ρ2.set i (.own (.list (ds ++ [d]))) = ρ3) : mDrop (mMut i fAppend m) ρ = some (.nx ρ3) := h5 ▸ drop_ev (append_ev h0 h1 h2 h3 hz)
theorem forL_cons {g : D → Rho → Option Rho} {b : SM} {d : D} {ds : List D} {ρ ρ1 ρ2 : Rho} {o : Option Out} (h1 : g d ρ = some ρ1) (h2 : b ρ1 = some (.nx ρ2)) (h3 : forL g b ds ρ2 = o) : forL g b (d :: ds) ρ = o := by
  show ((g d ρ).bind _) = _
  rw [h1, Option.bind_some, h2]
  exact h3
theorem pop_ev {i : Nat} {ρ ρ1 : Rho} (d : D) (ds : List D) (h0 : ρ[i]? = some (.own (.list (ds ++ [d])))) (h5 : ρ.set i (.own (.list ds)) = ρ1) : mMut0 i fPop ρ = some ((d, .fz), ρ1) := by
  unfold mMut0
  rw [h0]
  have e : (ds ++ [d])[(ds ++ [d]).length - 1]? = some d := by simp
  simp only [ownL, Option.bind_some, fPop, e, Option.map_some, List.dropLast_concat, Mir.putAt, h0, Sl.put, h5]
theorem isT_ev (l : List D) {a : PM} {ρ ρ1 : Rho} {k : Kd} (h1 : sv a ρ = some ((.tuple l, k), ρ1)) : mTest (mIsi "tuple" a) ρ = some (true, ρ1) := test_ev (k := .fz) (isi_ev h1 (isi_tuple_tuple l))
theorem intsOf_map : ∀ l : List Int, intsOf (l.map .int) = some l
  | [] => rfl
  | x :: l => by rw [List.map_cons]; unfold intsOf; rw [intsOf_map l]; rfl
theorem gSorted_ints (l : List Int) (h : l.length < 64) : gSorted [.list (l.map .int)] = some (.list ((sortI l).map .int), true) := by
  show (intsOf _).bind _ = _
  rw [intsOf_map, Option.bind_some, cIf_pos h]
theorem sortI_eq {a b : List Int} (hp : a.Perm b) (h : b.Pairwise (· ≤ ·)) : sortI a = b := sort_uniq ((sortI_perm a).trans hp) (sortI_le a) h
end Mir
set_option Elab.async false
set_option linter.all false
set_option maxRecDepth 100000
namespace Mir
open PySem L2
variable [Zc]
def asS : D → Option (List D)
  | .list ds => some ds
  | .tuple ds => some ds
  | _ => none
def mgU (n : Nat) (ms : List D → Rho → Option Rho) : D → Rho → Option Rho := fun d ρ => (asS d).bind fun ds => if ds.length = n then ms ds ρ else none
theorem mg_tupL {K : PySem.W.Frag} {n : Nat} {gs : TGs} {ms : List D → Rho → Option Rho} (h : MGs gs ms) : MG (gTupL K n gs) (mgU n ms) := fun F B H σ ρ v d ρ' Q R rp e q => by
  obtain ⟨ds, e1, e2⟩ := Option.bind_eq_some_iff.mp e
  cases rp with
  | tup hp rs =>
    cases e1
    split at e2
    · rename_i hn
      exact ⟨_, _, rfl, .inl (.inl (.inl (R.sub _ _ hp))), by rw [rs.length]; exact hn, h F B H σ ρ _ _ ρ' Q R rs e2 q⟩
    · cases e2
  | lst hp rs =>
    cases e1
    split at e2
    · rename_i hn
      exact ⟨_, _, rfl, .inr (rd_sq (rd_same R.sub hp)), by rw [rs.length]; exact hn, h F B H σ ρ _ _ ρ' Q R rs e2 q⟩
    · cases e2
  | _ => cases e1
theorem asgG_fz {a : PM} {g : D → Rho → Option Rho} {ρ ρ1 ρ2 : Rho} {d : D} (h : a ρ = some ((d, .fz), ρ1)) (h2 : g d ρ1 = some ρ2) : mAsgG a g ρ = some (.nx ρ2) := by
  unfold mAsgG; rw [sv_fz h]; show ((g d ρ1).map Out.nx) = _; rw [h2]; rfl
theorem asgG_new {a : PM} {g : D → Rho → Option Rho} {ρ ρ1 ρ2 : Rho} {d : D} (h : a ρ = some ((d, .new), ρ1)) (h2 : g d ρ1 = some ρ2) : mAsgG a g ρ = some (.nx ρ2) := by
  unfold mAsgG; rw [sv_new h]; show ((g d ρ1).map Out.nx) = _; rw [h2]; rfl
end Mir
set_option Elab.async false
set_option linter.all false
set_option maxRecDepth 100000
namespace L2
open PySem PySem.Spec PyProof.Rows
variable {X : Cx}
end L2
namespace Mir
open PySem L2
variable [Zc]
theorem gMax_int (a b : Int) : gMax [.int a, .int b] = some (.int (max a b), false) := by
  show some (PyData.int (if b > a then b else a), false) = _
  rw [show (if b > a then b else a) = max a b by split <;> omega]
theorem gLen_ints (l : List Int) : gLen [.list (l.map .int)] = some (.int (l.length : Int), false) := by show some (PyData.int ((l.map PyData.int).length : Int), false) = _; rw [List.length_map]
theorem inD_ints (x : Int) (l : List Int) : inD (.int x) (l.map .int) = decide (x ∈ l) := by
  induction l with
  | nil => rfl
  | cons a l ih =>
    rw [List.map_cons]
    unfold inD at ih ⊢
    have e0 : PyData.eqv (.int a) (.int x) = decide (a = x) := by simp only [PyData.eqv, beqI]
    rw [List.any_cons, ih, e0]
    by_cases h : a = x
    · simp [h]
    · have h' : x ≠ a := fun z => h z.symm
      simp [h, h']
theorem notIn_ints (x : Int) (l : List Int) : gNotIn (.int x) (.list (l.map .int)) = some (.bool (!decide (x ∈ l)), false) := by
  show (if _ then _ else _) = _
  rw [if_pos ⟨rfl, by simp [flatD]⟩, inD_ints]
theorem in_ints (x : Int) (l : List Int) : gIn (.int x) (.list (l.map .int)) = some (.bool (decide (x ∈ l)), false) := by
  show (if _ then _ else _) = _
  rw [if_pos ⟨rfl, by simp [flatD]⟩, inD_ints]
end Mir
set_option Elab.async false
set_option linter.all false
set_option maxRecDepth 100000
namespace Mir
open PySem L2
inductive OutE where
  | ok (o : Out) | er (c : Str) (ρ : Rho)
abbrev EM := Rho → Option OutE
section
variable [Zc]
def OutOkE (F : Fr) (D : Ends) (W : Str → Hp → Prop) : OutE → Prop
  | .ok o => OutOk F D o
  | .er c ρ => ∀ B H σ, Rel F B H σ ρ → W c H
def MSE (W : Str → Hp → Prop) (t : TS) (m : EM) : Prop := ∀ (F : Fr) (B H : Hp) (σ : St) (ρ : Rho) (o : OutE) (D : Ends), Rel F B H σ ρ → m ρ = some o → OutOkE F D W o → t D σ H
def eLift (m : SM) : EM := fun ρ => (m ρ).map .ok
theorem mse_lift {W : Str → Hp → Prop} {t : TS} {m : SM} (h : MS t m) : MSE W t (eLift m) := by
  intro F B H σ ρ o D R e q
  obtain ⟨x, e1, e⟩ := Option.map_eq_some_iff.mp e
  cases e
  exact h F B H σ ρ x D R e1 q
def eSeq (a b : EM) : EM := fun ρ => (a ρ).bind fun o => match o with
  | .ok (.nx ρ') => b ρ'
  | o => some o
theorem mse_seq {W : Str → Hp → Prop} {t u : TS} {a b : EM} (ha : MSE W t a) (hb : MSE W u b) : MSE W (tSeq t u) (eSeq a b) := by
  intro F B H σ ρ o D R e q
  obtain ⟨x, e1, e⟩ := Option.bind_eq_some_iff.mp e
  refine ha F B H σ ρ x _ R e1 ?_
  cases x with
  | er c ρ1 => cases e; exact q
  | ok x =>
    cases x with
    | nx ρ1 => exact fun B1 H1 σ1 R1 => hb F B1 H1 σ1 ρ1 o D R1 e q
    | rt r ρ1 => cases e; exact q
    | bk ρ1 => cases e; exact q
    | ct ρ1 => cases e; exact q
def eIf (c : Rho → Option (Bool × Rho)) (a b : EM) : EM := fun ρ => (c ρ).bind fun x => if x.1 = true then a x.2 else b x.2
theorem mse_if {W : Str → Hp → Prop} {tc : TT} {t u : TS} {c : Rho → Option (Bool × Rho)} {a b : EM} (hc : MT tc c) (ha : MSE W t a) (hb : MSE W u b) : MSE W (tIfS tc t u) (eIf c a b) := by
  intro F B H σ ρ o D R e q
  obtain ⟨x, e1, e⟩ := Option.bind_eq_some_iff.mp e
  refine hc F B H σ ρ x.1 x.2 _ R e1 fun B' H' E R' => ?_
  by_cases h : x.1 = true
  · rw [if_pos h] at e ⊢; exact ha F B' H' σ x.2 o D R' e q
  · rw [if_neg h] at e ⊢; exact hb F B' H' σ x.2 o D R' e q
def eRaise (c : Str) (m : Rho → Option (List RV × Rho)) : EM := fun ρ => (m ρ).bind fun x => if x.1.length ≤ 100 then some (.er c x.2) else none
theorem vl_len {F : Fr} {B H : Hp} {σ : St} {ρ : Rho} : ∀ {vs : List V} {rs : List RV}, Vl F B H σ ρ vs rs → vs.length = rs.length
  | [], [], _ => rfl
  | _ :: _, _ :: _, ⟨_, t⟩ => by rw [List.length_cons, List.length_cons, vl_len t]
theorem mse_raise {W : Str → Hp → Prop} {W' : Hp → Prop} {c : Str} {t : TA} {m : Rho → Option (List RV × Rho)} (h : MA t m) (hw : ∀ H, W c H → W' H) : MSE W (tRaise W' t) (eRaise c m) := by
  intro F B H σ ρ o D R e q
  obtain ⟨x, e1, e⟩ := Option.bind_eq_some_iff.mp e
  split at e
  · rename_i hz
    cases e
    refine h F B H σ ρ x.1 x.2 _ R e1 fun vs B1 H1 E1 R1 V1 => ⟨by rw [vl_len V1]; exact hz, hw _ (q B1 H1 σ R1)⟩
  · cases e
def fnX (n k : Nat) (b : EM) (ds : List D) : Option ((D × Bool) ⊕ Str) := if ds.length = n then (b (ds.map .fz ++ List.replicate k .no)).bind fun o => match o with
  | .ok o => (retD o).map .inl
  | .er c _ => some (.inr c)
  else none
def spX (cl : Str → Value) (f : List D → Option ((D × Bool) ⊕ Str)) : Sp := fun vs H Q E => ∃ B ds w, Same B H ∧ (∀ q xs, H q = some (.tup xs) → B q = some (.tup xs)) ∧ Reps B vs ds ∧ f ds = some w ∧
  match w with
  | .inl (d, o) => ∀ v B' H', Post B H v B' H' d o → Q v H'
  | .inr c => ∀ B' H', Post B H .non B' H' .none false → E (cl c) none H'
theorem fn_runX {cl : Str → Value} {n k : Nat} {b : EM} {t : TS} {N : List Str} {vs : List V} {H : Hp} {Q : VK} {E : XK} (hb : MSE (fun c H => E (cl c) none H) t b) (hN : N.length = n + k) (h : spX cl (fnX n k b) vs H Q E) : t { nx := fun _ H' => Q .non H', rt := Q } (L2.start N vs) H := by
  obtain ⟨B, ds, w0, sub, tB, rp, e, q⟩ := h
  unfold fnX at e
  split at e
  case isFalse => cases e
  rename_i hl
  obtain ⟨w, e1, e2⟩ := Option.bind_eq_some_iff.mp e
  have hvl : vs.length = n := rp.length.trans hl
  have own0 : ∀ (i : Nat) (s : Sl), (ds.map Sl.fz ++ List.replicate k .no)[i]? = some s → s.isRef = true → False := fun i s h1 h2 => by
    have := List.mem_of_getElem? h1
    rcases List.mem_append.mp this with h | h
    · obtain ⟨c, _, rfl⟩ := List.mem_map.mp h; cases h2
    · rw [List.eq_of_mem_replicate h] at h2; cases h2
  have ex0 : ∀ i : Nat, (ds.map Sl.fz ++ List.replicate k .no)[i]? = some Sl.ex → False := fun i h1 => by
    have := List.mem_of_getElem? h1
    rcases List.mem_append.mp this with h | h
    · obtain ⟨c, _, z⟩ := List.mem_map.mp h; cases z
    · have := List.eq_of_mem_replicate h; cases this
  have R : Rel ⟨B, H, [], fun q => H q ≠ none⟩ B H (L2.start N vs) (ds.map .fz ++ List.replicate k .no) := by
    refine ⟨sub, Same.refl _, fun _ _ z _ => z, fun _ _ z => z, ?_, fun i s hs => ?_, fun i j s t p h1 h2 => (own0 i s h1 (Sl.ref_of h2)).elim, fun i c p h1 => (own0 i _ h1 rfl).elim, (fun x hx => by cases hx), fun i c h1 => (own0 i _ h1 rfl).elim, tB, (fun i h1 => (ex0 i h1).elim), fun q o u h z => by rw [z] at h; cases h⟩
    · simp [L2.start, hl, hvl, hN]
    · by_cases hi : i < n
      · rw [List.getElem?_append_left (by simpa [hl] using hi), List.getElem?_map] at hs
        obtain ⟨c, h1, rfl⟩ := Option.map_eq_some_iff.mp hs
        obtain ⟨x, h2, h3⟩ := rp.get i c h1
        refine ⟨x, ?_, h3⟩
        unfold L2.start
        rw [List.getElem?_append_left (by simpa [hvl] using hi), List.getElem?_map, h2]
        rfl
      · rw [List.getElem?_append_right (by simpa [hl] using Nat.le_of_not_lt hi)] at hs
        have := List.eq_of_mem_replicate (List.mem_of_getElem? hs)
        subst this
        trivial
  refine hb _ B H _ _ w _ R e1 ?_
  have post : ∀ {B' H' : Hp} {σ' : St} {ρ' : Rho}, Rel ⟨B, H, [], fun q => H q ≠ none⟩ B' H' σ' ρ' → Same H H' ∧ Same B B' ∧ Same B' H' ∧ (∀ q, H q ≠ none → B q = none → B' q = none) ∧ (∀ q xs, H' q = some (.tup xs) → B' q = some (.tup xs)) ∧ ∀ q o u, H' q = some (.frz o u) → H q ≠ none := fun R' =>
    ⟨fun q u z => R'.sH q u z (fun x hx => by cases hx), R'.sB, R'.sub, R'.nB, R'.tupB, R'.nz⟩
  cases w with
  | er c ρ' =>
    cases e2
    intro B' H' σ' R'
    obtain ⟨p1, p2, p3, p4, p5, p6⟩ := post R'
    exact q B' H' ⟨p1, p2, p3, p4, p5, p6, .non⟩
  | ok w =>
  replace e2 := Option.map_eq_some_iff.mp e2
  obtain ⟨⟨d, o⟩, e2, e3⟩ := e2
  subst e3
  cases w with
  | nx ρ' =>
    cases e2
    intro B' H' σ' R'
    obtain ⟨p1, p2, p3, p4, p5, p6⟩ := post R'
    exact q _ B' H' ⟨p1, p2, p3, p4, p5, p6, .non⟩
  | bk ρ' => cases e2
  | ct ρ' => cases e2
  | rt r ρ' =>
    intro v B' H' σ' R' V'
    obtain ⟨p1, p2, p3, p4, p5, p6⟩ := post R'
    obtain ⟨c, kd⟩ := r
    cases kd with
    | fz => cases e2; exact q v B' H' ⟨p1, p2, p3, p4, p5, p6, V'⟩
    | new =>
      cases e2
      obtain ⟨p, rfl, h1, h2, h3, _⟩ := V'
      exact q _ B' H' ⟨p1, p2, p3, p4, p5, p6, ⟨p, rfl, h2, h1, h3⟩⟩
    | ro => cases e2
    | «at» i =>
      obtain ⟨s, h1, h2, h3, h4⟩ := V'
      have e2' : (match ρ'[i]? with
        | some (.own d) => some (d, true)
        | _ => none) = some (d, o) := e2
      rw [h1] at e2'
      cases s with
      | own c' =>
        cases e2'
        obtain ⟨p, g1, g2, g3⟩ := R'.slot i _ h1
        have h4' : σ'[i]? = some (some v) := h4
        rw [h4'] at g1
        cases g1
        exact q _ B' H' ⟨p1, p2, p3, p4, p5, p6, ⟨p, rfl, R'.ownN i _ p h1 h4', g2, g3⟩⟩
      | _ => cases e2'
theorem spX_len {cl : Str → Value} {n k : Nat} {b : EM} {vs : List V} {H : Hp} {Q : VK} {E : XK} (h : spX cl (fnX n k b) vs H Q E) : vs.length = n := by
  obtain ⟨B, ds, w, sub, tB, rp, e, q⟩ := h
  unfold fnX at e
  split at e
  · rename_i hl; exact rp.length.trans hl
  · cases e
end
def noEx (ρ : Rho) : Bool := ρ.all fun s => match s with
  | .ex => false
  | _ => true
theorem noEx_at {ρ : Rho} (h : noEx ρ = true) (j : Nat) (z : ρ[j]? = some .ex) : False := by
  have := (List.all_eq_true.mp h) _ (List.mem_of_getElem? z)
  cases this
theorem Rel.setX {z z' : Zc} {F : Fr} {B H : Hp} {σ : St} {ρ ρ' : Rho} {i : Nat} {s : Sl} (v : Option V) (R : @Rel z F B H σ ρ) (h : setSl ρ i s = some ρ') (hs : s = .no ∨ s = .ex) (hex : ∀ j : Nat, ρ'[j]? = some .ex → (σ.set i v)[j]? = some (some (.ref z'.e))) : @Rel z' F B H (σ.set i v) ρ' := by
  obtain ⟨rfl, s0, h0, nio⟩ := setSl_eq h
  obtain ⟨r1, r2, r3, r4, r5, r6, r7, r8, r9, r10, r11, r12, r13⟩ := R
  have nr : s.isRef = false := by rcases hs with rfl | rfl <;> rfl
  have no : s.isOwn = false := by rcases hs with rfl | rfl <;> rfl
  have so : ∀ j, j ≠ i → (σ.set i v)[j]? = σ[j]? := fun j hj => List.getElem?_set_ne fun e => hj e.symm
  refine @Rel.mk z' _ _ _ _ _ r1 r2 r3 r4 (by rw [List.length_set, List.length_set]; exact r5) ?_ ?_ ?_ ?_ ?_ r11 hex r13
  · intro j s' hs'
    rcases get_set hs' with ⟨rfl, rfl, _⟩ | ⟨hj, hs'⟩
    · rcases hs with rfl | rfl <;> trivial
    · exact (r6 j s' hs').at (so j hj)
  · intro a b s' t p h1 h2 h3 h4 h5 h6
    rcases get_set h1 with ⟨rfl, rfl, _⟩ | ⟨ha, h1⟩
    · rw [no] at h2; cases h2
    · rcases get_set h3 with ⟨rfl, rfl, _⟩ | ⟨hb, h3⟩
      · rw [nr] at h4; cases h4
      · rw [so a ha] at h5; rw [so b hb] at h6; exact r7 a b s' t p h1 h2 h3 h4 h5 h6
  · intro j c p h1 h2
    rcases get_set h1 with ⟨rfl, e, _⟩ | ⟨hj, h1⟩
    · rw [← e] at no; cases no
    · rw [so j hj] at h2; exact r8 j c p h1 h2
  · intro x hx
    obtain ⟨h1, c, h2⟩ := r9 x hx
    have z : x.1 ≠ i := fun z => by rw [z, h0] at h2; cases h2; exact nio _ rfl
    exact ⟨by rw [so _ z]; exact h1, c, by rw [List.getElem?_set_ne fun e => z e.symm]; exact h2⟩
  · intro j c h1
    rcases get_set h1 with ⟨rfl, e, _⟩ | ⟨hj, h1⟩
    · rw [← e] at no; cases no
    · exact r10 j c h1
def dropX (i : Nat) : Out → Option Out
  | .nx ρ => (setSl ρ i .no).bind fun ρ' => if noEx ρ' = true then some (.nx ρ') else none
  | _ => none
def mTryX (f : List D → Option ((D × Bool) ⊕ Str)) (m : Rho → Option (List RV × Rho)) (i : Nat) (su : Str → Option SM) : SM := fun ρ => (m ρ).bind fun x => (f (x.1.map (·.1))).bind fun w => match w with
  | .inl _ => some (.nx x.2)
  | .inr c => (su c).bind fun s => if noEx x.2 = true then (setSl x.2 i .ex).bind fun ρ1 => (s ρ1).bind (dropX i) else none
theorem ms_tryX [z : Zc] {cl : Str → Value} {f : List D → Option ((D × Bool) ⊕ Str)} {t : TA} {m : Rho → Option (List RV × Rho)} {i : Nat} {su : Str → Option SM} {ok : Value → Prop} {th : Value → Addr → TS} (h : MA t m) (hok : ∀ c s, su c = some s → ok (cl c))
    (hs : ∀ c s, su c = some s → ∀ e : Addr, @MS ⟨e⟩ (th (cl c) e) s) : MS (tTryX (spX cl f) t i ok th) (mTryX f m i su) := by
  intro F B H σ ρ o D R e q
  obtain ⟨x, e1, e⟩ := Option.bind_eq_some_iff.mp e
  obtain ⟨w, e2, e⟩ := Option.bind_eq_some_iff.mp e
  refine h F B H σ ρ x.1 x.2 _ R e1 fun vs B1 H1 E1 R1 V1 => ?_
  have grow : ∀ {v : V} {B' H' : Hp} {d : PyData} {o : Bool}, Post H1 H1 v B' H' d o → ∃ B2, Rel F B2 H' σ x.2 := fun {v B' H' d o} P => by
    let B2 : Hp := fun q => if H1 q = none then B' q else B1 q
    have old : ∀ q, H1 q ≠ none → B2 q = B1 q := fun q z => if_neg z
    have new : ∀ q, H1 q = none → B2 q = B' q := fun q z => if_pos z
    have eB : Same B1 B2 := fun q o z => by rw [old q (by rw [R1.sub q o z]; simp)]; exact z
    have sub : Same B2 H' := fun q o z => by
      by_cases y : H1 q = none
      · rw [new q y] at z; exact P.sub q o z
      · rw [old q y] at z; exact P.eH q o (R1.sub q o z)
    have nb : ∀ q, H1 q ≠ none → B1 q = none → B2 q = none := fun q y z => by rw [old q y]; exact z
    have tB : ∀ q xs, H' q = some (.tup xs) → B2 q = some (.tup xs) := fun q xs z => by
      cases y : H1 q with
      | none => rw [new q y]; exact P.tB q xs z
      | some o =>
        have := P.eH q o y
        rw [z] at this
        cases this
        rw [old q (by rw [y]; simp)]; exact R1.tupB q xs y
    exact ⟨B2, R1.grow eB P.eH sub nb tB P.nz⟩
  refine ⟨H1, _, w, Same.refl _, fun _ _ z => z, (V1.views R1).reps R1.sub, e2, ?_⟩
  cases w with
  | inl w =>
    cases e
    obtain ⟨d, o'⟩ := w
    intro v B' H' P
    obtain ⟨B2, R2⟩ := grow P
    exact q B2 H' σ R2
  | inr c =>
    obtain ⟨s, e3, e⟩ := Option.bind_eq_some_iff.mp e
    split at e
    · rename_i hn
      obtain ⟨ρ1, e4, e⟩ := Option.bind_eq_some_iff.mp e
      obtain ⟨o1, e5, e6⟩ := Option.bind_eq_some_iff.mp e
      intro B' H' P
      obtain ⟨B2, R2⟩ := grow P
      refine ⟨hok c s e3, fun ea hea => ?_⟩
      have hset := setSl_eq e4
      have hl : i < σ.length := by
        obtain ⟨_, s0, h0, _⟩ := hset
        have := (List.getElem?_eq_some_iff.mp h0).1
        rw [R2.len] at this
        exact this
      have R3 : @Rel ⟨ea⟩ F B2 H' (σ.set i (some (.ref ea))) ρ1 := Rel.setX (z := z) (z' := ⟨ea⟩) (some (.ref ea)) R2 e4 (.inr rfl) fun j hj => by
        obtain ⟨rfl, _⟩ := hset
        rcases get_set hj with ⟨rfl, _, _⟩ | ⟨_, hj⟩
        · exact List.getElem?_set_self hl
        · exact (noEx_at hn j hj).elim
      refine hs c s e3 ea F B2 H' _ ρ1 o1 _ R3 e5 ?_
      cases o1 with
      | nx ρ2 =>
        obtain ⟨ρ3, e7, e8⟩ := Option.bind_eq_some_iff.mp (show (setSl ρ2 i .no).bind _ = some o from e6)
        split at e8
        · rename_i hn2
          cases e8
          intro B4 H4 σ4 R4
          exact q B4 H4 _ (Rel.setX (z := ⟨ea⟩) (z' := z) none R4 e7 (.inl rfl) fun j hj => (noEx_at hn2 j hj).elim)
        · cases e8
      | rt r ρ2 => cases e6
      | bk ρ2 => cases e6
      | ct ρ2 => cases e6
    · cases e
def mIsiX (i : Nat) (b : Bool) : PM := fun ρ => match ρ[i]? with
  | some .ex => some ((.bool b, .fz), ρ)
  | _ => none
theorem isiX_eq {i : Nat} {b : Bool} {ρ ρ' : Rho} {r : RV} (e : mIsiX i b ρ = some (r, ρ')) : ρ[i]? = some .ex ∧ r = (.bool b, .fz) ∧ ρ' = ρ := by
  unfold mIsiX at e
  split at e
  · rename_i h; cases e; exact ⟨h, rfl, rfl⟩
  · cases e
theorem me_isiX [Zc] {K : PySem.W.Frag} {Dc : Addr} {i : Nat} {b : Bool} {c : V} {cv : Value} (hcv : ∀ u, RelV c u → u = cv) (hk : PySem.W.kitOne K (.ref Dc) cv = some b) : ME (tCB (rIsiX K Zc.e Dc) (tCons (tVar i) (tCons (tC c) tNil))) (mIsiX i b) := by
  intro F B H σ ρ r0 ρ' Q R e q
  obtain ⟨h, rfl, rfl⟩ := isiX_eq e
  exact ⟨_, R.exv i h, .inl ⟨c, cv, b, rfl, hcv, hk, q _ B H (Ext.refl _ _ _ _) R (.bl b) fun p z => by cases z⟩⟩
def tCs : List V → TA
  | [] => tNil
  | c :: cs => tCons (tC c) (tCs cs)
theorem tCs_run : ∀ (cs : List V) (σ : St) (H : Hp) (Q : List V → Hp → Prop), Q cs H → tCs cs σ H Q
  | [], _, _, _, h => h
  | _ :: cs, σ, H, Q, h => tCs_run cs σ H _ h
theorem me_isiXt [Zc] {K : PySem.W.Frag} {Dc : Addr} {i : Nat} {b : Bool} {cs : List V} {cvs : List Value} (hz : cs.length ≤ 100) (hcv : ∀ us, Vals cs us → us = cvs) (hk : PySem.W.kitAny K (.ref Dc) cvs = some b) : ME (tCB (rIsiX K Zc.e Dc) (tCons (tVar i) (tCons (tTup (tCs cs)) tNil))) (mIsiX i b) := by
  intro F B H σ ρ r0 ρ' Q R e q
  obtain ⟨h, rfl, rfl⟩ := isiX_eq e
  refine ⟨_, R.exv i h, tCs_run cs σ H _ ⟨by simp only [sizeLine]; omega, fun p hp => ?_⟩⟩
  have fr := R.free hp
  have eB : Same B (upd B p (.tup cs)) := same_upd fr.1
  have eH : Same H (upd H p (.tup cs)) := same_upd hp
  have sub : Same (upd B p (.tup cs)) (upd H p (.tup cs)) := fun q o z => by
    by_cases y : q = p
    · subst y; rw [upd_same] at z ⊢; exact z
    · rw [upd_ne y] at z ⊢; exact R.sub q o z
  have nb : ∀ q, H q ≠ none → B q = none → upd B p (.tup cs) q = none := fun q y z => by
    rw [upd_ne (fun w => y (by rw [w]; exact hp))]; exact z
  have tB : ∀ q xs, upd H p (.tup cs) q = some (.tup xs) → upd B p (.tup cs) q = some (.tup xs) := fun q xs z => by
    by_cases y : q = p
    · subst y; rw [upd_same] at z ⊢; exact z
    · rw [upd_ne y] at z ⊢; exact R.tupB q xs z
  exact .inr ⟨p, cs, cvs, b, rfl, upd_same, hcv, hk, q _ _ _ (Ext.grow eB eH nb) (R.grow eB eH sub nb tB fun q a u h y => by
    by_cases w : q = p
    · subst w; rw [upd_same] at h; cases h
    · rw [upd_ne w, y] at h; cases h) (.bl b) fun p z => by cases z⟩
end Mir
namespace L2
open PySem PySem.Spec PyProof.Rows
theorem Top.defX {P : Program} {w : World} {K : PySem.W.Frag} {mg : Str → Option Value} {base : Heap} {x : Str} {st : Stmt} {N ps : List Str} {k : Nat} {sp : Sp} (T : Top K mg x st) (S : FnScope N ps (defScope st)) (len : ∀ vs H Q E, sp vs H Q E → vs.length = ps.length)
    (hb : ∀ (kV doc pm : Value) (an : Option Addr) (cdv ct : Value) (us : List Value), us.length = ps.length → bindArgs (PySem.W.fnOf x x (defArgs st) (defBody st) (defScope st) .none kV doc pm an cdv ct) ⟨us, []⟩ = pure (ps.zip us))
    (hbody : ∀ (f : Addr) (cdv : Value) (A : Around) (outer : List Env) (s : Shared) (H : Hp) (vs : List V) (Q : VK) (E : XK), Room k (A.deeper (envOfC x (defScope st) s.heap.objs.size f cdv)) → sp vs H Q E →
      ∃ t, PSs (cxOf (CXW P w) P w K mg base N x (defScope st) f cdv A outer s H E) (defBody st) t ∧ t { nx := fun _ H' => Q .non H', rt := Q } (start N vs) H) : Def P w K mg base (CXW P w) (k + 1) x ps sp := by
  obtain ⟨f, fd, F, m⟩ := T.ex
  refine ⟨⟨f, fd, ?_, m, F.kp, F.binds hb⟩⟩
  obtain ⟨oc, od, kV, doc, pm, an, cdv, ct, osl, rfl, lk, hcd⟩ := F.ex
  exact fn_of lk hcd S len fun A outer s H vs Q E hr hsp => hbody f cdv A outer s H vs Q E hr hsp
end L2
set_option Elab.async false
set_option linter.all false
set_option maxRecDepth 100000
namespace L2
open PySem PySem.Spec PyProof.Rows
def clM (mg : Str → Option Value) (c : Str) : Value := (mg c).getD .none
theorem clM_eq {mg : Str → Option Value} {c : Str} {v : Value} (h : mg c = some v) : clM mg c = v := by unfold clM; rw [h]; rfl
def addrOf : Value → Addr
  | .ref a => a
  | _ => 0
def okX (K : PySem.W.Frag) (C : Addr) (cls : Value) : Prop := ∃ D, cls = .ref D ∧ ExcK K D ∧ PySem.W.exmOne K cls (.ref C) = some true
theorem call_isiO {X : Cx} {K : PySem.W.Frag} {C e : Addr} {cls : Value} {oe : Obj} (h : X.K = K) (hok : okX K C cls) (hoc : oe.cls = cls) : CallR (X.inX e oe) (.builtin "isinstance") (rIsiX K e (addrOf cls)) := by
  subst h
  obtain ⟨D, rfl, Z, _⟩ := hok
  exact call_isiX (X := X.inX e oe) (List.mem_cons_self) hoc Z
theorem ps_tryD {X : Cx} {K : PySem.W.Frag} {k : Nat} {C : Addr} {ps : List Str} {sp : Sp} {x xC n : Str} {p np pos pos' epos hpos : Pos} {a : Expr} {es : List Expr} {t : TA} {i : Nat} {th : Value → Addr → TS} {b₀ : Stmt} {suite : List Stmt}
    (hK : X.K = K) (hxe : X.xe = fun _ _ => False) (Df : Def X.prog X.w X.K X.mg X.base (CXW X.prog X.w) k x ps sp) (hr : Room k X.A) (ha : PA X (a :: es) t) (hst : X.stack = X.env :: X.outer) (hfr : X.env.frame = some X.env.locals) (hg : Gl X x) (hgC : Gl X xC)
    (hmC : X.mg xC = some (.ref C)) (hN : X.N.Nodup) (hi : X.N[i]? = some n) (hln : X.env.scope.names.lookup n = some .local) (hS : ∀ (cls : Value) (e : Addr) (oe : Obj), oe.cls = cls → okX K C cls → PSs (X.inX e oe) (b₀ :: suite) (th cls e))
    (hdb : (x == ("__debug__" : Str)) = false := by decide) (hdC : (xC == ("__debug__" : Str)) = false := by decide) (he : starEach (a :: es) X.env = (false, eval a X.env) :: starEach es X.env := by rfl) (hpl : (backTo pos' (starEach es X.env)).any (·.1) = false := by rfl)
    (hs : swapsWith (.Call (.Name x p) (a :: es) [] pos') none epos.line X.env = pure false := by rfl) :
    PS X (.Try [.Expr (.Call (.Name x p) (a :: es) [] pos') epos] [.ExceptHandler (some (.Name xC np)) (some n) (b₀ :: suite) hpos] [] [] pos) (tTryX sp t i (okX K C) th) := by
  subst hK
  obtain ⟨f, fd, F, m, kp, b⟩ := Df.ex
  exact ps_tryX hxe F hr hg m kp b ha hst hfr hgC hmC (fun cls h => by obtain ⟨_, _, _, z⟩ := h; exact z) hN hi hln hS hdb hdC he hpl hs
theorem vals_refs : ∀ (cs : List Addr) {us : List Value}, Vals (cs.map V.ref) us → us = cs.map Value.ref
  | [], _, h => by cases h; rfl
  | c :: cs, _, h => by
    cases h with
    | cons r t => rw [vals_refs cs t]; cases r; rfl
end L2
set_option Elab.async false
set_option linter.all false
set_option maxRecDepth 100000
namespace L2
open PySem PySem.Spec PyProof.Rows
def pickL {α : Type} (xs : List α) (lo hi st : Option Int) : List α := (sliceRange (sliceBounds lo hi st xs.length).1 (sliceBounds lo hi st xs.length).2.1 (sliceBounds lo hi st xs.length).2.2).filterMap (xs[·]?)
theorem Vals.picks {xs : List V} {us : List Value} (r : Vals xs us) : ∀ is : List Nat, Vals (is.filterMap (xs[·]?)) (is.filterMap (us[·]?))
  | [] => .nil
  | i :: is => by
    cases h : xs[i]? with
    | none => rw [List.filterMap_cons_none h, List.filterMap_cons_none (r.none_of h)]; exact r.picks is
    | some x =>
      obtain ⟨u, h1, h2⟩ := r.get h
      rw [List.filterMap_cons_some h, List.filterMap_cons_some h1]
      exact .cons h2 (r.picks is)
section
variable {X : Cx} {e : Expr} {te : TE} {est : Expr} {lo hi : Option Expr} {tl th tk : TO} {pos p2 : Pos}
def SlR3 (X : Cx) (r : V → Option Int → Option Int → Option Int → Hp → VK → Prop) : Prop :=
  ∀ (pins : List (Addr × Obj)) (s : Shared) (σ : St) (H : Hp) (x : V) (v vl vu vk : Value) (lo hi st : Option Int) (sl : Addr) (Q : VK), Inv X pins σ H s → RelV x v → s.heap.IsSliceOf sl vl vu vk → IsPart vl lo → IsPart vu hi → IsPart vk st → r x lo hi st H Q →
    ∃ T id, typeLookup (.type T) "__getitem__" = pure (some (.builtin id)) ∧ s.TypeIs v T ∧ wpAny (model X.prog X.w) X.A (getItem v (.ref sl)) (EP X pins σ Q) X.xe s
def tSl3 (r : V → Option Int → Option Int → Option Int → Hp → VK → Prop) (te : TE) (tl th tk : TO) : TE := fun σ H Q => te σ H fun x H1 => tl σ H1 fun l H2 => th σ H2 fun u H3 => tk σ H3 fun k H4 => r x l u k H4 Q
theorem pe_slice3 {r : V → Option Int → Option Int → Option Int → Hp → VK → Prop} (hr : SlR3 X r) (he : PE X e te) (hl : PO X lo tl) (hu : PO X hi th) (hk : PO X (some est) tk) : PE X (.Subscript e (.Slice lo hi (some est) p2) pos) (tSl3 r te tl th tk) := by
  intro pins s σ H Q I h
  refine Subscript_ (thn (he pins s σ H _ I h) fun v s1 ⟨x, H1, I1, r1, q1⟩ => ?_)
  refine wpAny_Slice (thn (hl pins s1 σ H1 _ I1 q1) fun vl s2 ⟨l, H2, I2, pl, q2⟩ => thn (hu pins s2 σ H2 _ I2 q2) fun vu s3 ⟨u, H3, I3, pu, q3⟩ => ?_)
  refine thn (hk pins s3 σ H3 _ I3 q3) fun vk s4 ⟨k, H4, I4, pk, q4⟩ => ?_
  have I5 : Inv X pins σ H4 { s4 with heap := s4.heap.push { cls := .type "slice", data := .fields #[vl, vu, vk] } } := I4.kept (t' := s4.toks) fun b ob q => Heap.get?_push_of_some _ q
  obtain ⟨T, id, hT, ht, hg⟩ := hr pins { s4 with heap := s4.heap.push { cls := .type "slice", data := .fields #[vl, vu, vk] } } σ H4 x v vl vu vk l u k s4.heap.objs.size Q I5 r1 (Heap.IsSliceOf.new ..) pl pu pk q4
  show wpAny (model X.prog X.w) X.A (subscriptTail e (.Slice lo hi (some est) p2) v (.ref s4.heap.objs.size)) (EP X pins σ Q) X.xe { s4 with heap := s4.heap.push { cls := .type "slice", data := .fields #[vl, vu, vk] } }
  exact tail_any (ops := [v, .ref s4.heap.objs.size]) ht hT hg (by with_unfolding_all rfl)
def rSl3 (K : PySem.W.Frag) : V → Option Int → Option Int → Option Int → Hp → VK → Prop := fun x lo hi st H Q => st ≠ some 0 ∧ ∃ a xs, x = .ref a ∧ SqL K H a xs ∧ ∀ p, H p = none → Q (.ref p) (upd H p (.lst (pickL xs lo hi st)))
theorem pick_of (its : List Value) (lo hi st : Option Int) : slicePick its.toArray lo hi st = (pickL its lo hi st).toArray := by
  unfold slicePick pickL
  simp only [List.size_toArray, List.getElem?_toArray]
theorem sl_list3 : SlR3 X (rSl3 X.K) := by
  intro pins s σ H x v vl vu vk lo hi st sl Q I rx hs pl pu pk h
  obtain ⟨h0, a, xs, rfl, hx, q⟩ := h
  cases rx
  obtain ⟨its, r, ht, hz⟩ := I.list hx
  have hlen := r.length
  refine ⟨"list", _, slot_list_getitem.lookup, ht.isList.typeIs, ?_⟩
  refine wpAny_getItem_list_slice ht.isList hs pl pu pk h0 ?_ (by rw [List.size_toArray] <;> omega)
  rw [pick_of]
  have rv : Vals (pickL xs lo hi st) (pickL its lo hi st) := by
    unfold pickL
    rw [hlen]
    exact r.picks _
  have lz : (pickL xs lo hi st).length ≤ xs.length := by
    have := slicePick_size_le its.toArray lo hi st
    rw [pick_of, List.size_toArray, List.size_toArray] at this
    rw [rv.length]
    omega
  refine ⟨.ref s.heap.objs.size, _, I.laid (t' := s.toks) (o := .lst (pickL xs lo hi st)) (fun b ob q => Heap.get?_push_of_some _ q) (Nat.le_refl _) ?_, rfl, q _ (I.hok.fresh (Nat.le_refl _))⟩
  exact ⟨Nat.le_trans lz hz, _, 0, rv, Heap.get?_push_size _ rfl⟩
theorem sl_list3K {K : PySem.W.Frag} (h : X.K = K) : SlR3 X (rSl3 K) := h ▸ sl_list3
end
end L2
namespace Mir
open PySem L2
variable [Zc]
def SlJ3 (r : V → Option Int → Option Int → Option Int → Hp → VK → Prop) (g : D → Option Int → Option Int → Option Int → Option (D × Bool)) : Prop :=
  ∀ (B H : Hp) (x : V) (c : D) (l u k : Option Int) (res : D × Bool), Same B H → View B H x c → g c l u k = some res → ResOk B H res fun Q => r x l u k H Q
def mSl3 (g : D → Option Int → Option Int → Option Int → Option (D × Bool)) (a : PM) (l u k : Rho → Option (Option Int × Rho)) : PM := fun ρ => (sv a ρ).bind fun x => (l x.2).bind fun y => (u y.2).bind fun z => (k z.2).bind fun w => (refr w.2 x.1).bind fun r => (g r.1 y.1 z.1 w.1).map fun res => (resK res, w.2)
theorem me_sl3 {r : V → Option Int → Option Int → Option Int → Hp → VK → Prop} {g : D → Option Int → Option Int → Option Int → Option (D × Bool)} {ta : TE} {tl tu tk : TO} {a : PM} {l u k : Rho → Option (Option Int × Rho)} (J : SlJ3 r g) (ha : ME ta a) (hl : MO tl l) (hu : MO tu u) (hk : MO tk k) : ME (tSl3 r ta tl tu tk) (mSl3 g a l u k) := by
  intro F B H σ ρ r0 ρ' Q R e q
  obtain ⟨x, e1, e⟩ := Option.bind_eq_some_iff.mp e
  obtain ⟨y, e2, e⟩ := Option.bind_eq_some_iff.mp e
  obtain ⟨z, e3, e⟩ := Option.bind_eq_some_iff.mp e
  obtain ⟨w, e6, e⟩ := Option.bind_eq_some_iff.mp e
  obtain ⟨r', e4, e⟩ := Option.bind_eq_some_iff.mp e
  obtain ⟨res, e5, e⟩ := Option.map_eq_some_iff.mp e
  cases e
  refine ha.sv F B H σ ρ x.1 x.2 _ R e1 fun v B1 H1 E1 R1 V1 N1 => ?_
  refine hl F B1 H1 σ x.2 y.1 y.2 _ R1 e2 fun B2 H2 E2 R2 => ?_
  refine hu F B2 H2 σ y.2 z.1 z.2 _ R2 e3 fun B3 H3 E3 R3 => ?_
  refine hk F B3 H3 σ z.2 w.1 w.2 _ R3 e6 fun B5 H5 E5 R5 => ?_
  obtain ⟨V3, n3⟩ := V1.next (E2.trans (E3.trans E5)) R5 (sv_kind e1) e4
  exact res_end R5 (J B5 H5 v r'.1 y.1 z.1 w.1 res R5.sub (V3.view R5) e5) fun w B4 H4 E4 R4 V4 N4 => q w B4 H4 ((E1.trans (E2.trans (E3.trans E5))).trans E4) R4 V4 fun p z1 z2 => (E1.trans (E2.trans (E3.trans E5))).live p (N4 p z1 z2)
theorem Reps.picks {H : Hp} {vs : List V} {ds : List D} (r : Reps H vs ds) : ∀ is : List Nat, Reps H (is.filterMap (vs[·]?)) (is.filterMap (ds[·]?))
  | [] => .nil
  | i :: is => by
    cases h : ds[i]? with
    | none =>
      have h' : vs[i]? = none := by
        rw [List.getElem?_eq_none_iff] at h ⊢
        rw [r.length]; exact h
      rw [List.filterMap_cons_none h, List.filterMap_cons_none h']; exact r.picks is
    | some x =>
      obtain ⟨u, h1, h2⟩ := r.get i x h
      rw [List.filterMap_cons_some h, List.filterMap_cons_some h1]
      exact .cons h2 (r.picks is)
def gSl3 : D → Option Int → Option Int → Option Int → Option (D × Bool)
  | .list ds, lo, hi, some (.ofNat (k + 1)) => some (.list (pickL ds lo hi (some (.ofNat (k + 1)))), true)
  | _, _, _, _ => none
theorem J_sl3 {K : PySem.W.Frag} : SlJ3 (rSl3 K) gSl3 := by
  intro B H x c l u k res s hx e
  unfold gSl3 at e
  split at e
  · cases e
    obtain ⟨p, xs, rfl, r1, rp1⟩ := hx.list s
    refine ⟨_, ?_, fun Q q => ⟨by simp; omega, _, _, rfl, rd_sq r1, q⟩⟩
    unfold pickL
    rw [← rp1.length]
    exact rp1.picks _
  · cases e
end Mir
set_option Elab.async false
set_option linter.all false
set_option maxRecDepth 100000
namespace Mir
open PySem L2
section
variable [Zc]
def LF (B : Hp) : Prop := ∀ q o, B q = some o → ∃ xs, o = .tup xs
structure FrP (F : Fr) : Prop where
  lf : LF F.B
  io : F.io = []
  zh : ∀ q, F.Z q → F.H q ≠ none
def MSP (t : TS) (m : SM) : Prop := ∀ (F : Fr) (B H : Hp) (σ : St) (ρ : Rho) (o : Out) (D : Ends), FrP F → Rel F B H σ ρ → m ρ = some o → OutOk F D o → t D σ H
theorem MS.p {t : TS} {m : SM} (h : MS t m) : MSP t m := fun F B H σ ρ o D _ R e q => h F B H σ ρ o D R e q
def tups (H : Hp) : Hp := fun q => match H q with
  | some (.tup xs) => some (.tup xs)
  | _ => none
theorem Reps.put {B B' : Hp} (k : ∀ q xs, B q = some (.tup xs) → B' q = some (.tup xs)) {x : V} {c c' : D} (hr : Rep B' x c') : ∀ {vs : List V} {ds : List D} (j : Nat), Reps B vs ds → vs[j]? = some x → ds[j]? = some c → pureDs (ds.set j .none) = true → Reps B' vs (ds.set j c')
  | _, _, _, .nil, h, _, _ => by simp at h
  | _, _, 0, .cons a b, h1, h2, e => by
    simp only [List.getElem?_cons_zero, Option.some.injEq] at h1
    subst h1
    simp only [List.set_cons_zero, pureDs, Bool.and_eq_true] at e
    exact .cons hr (b.ofPure k e.2)
  | _, _, j + 1, .cons a b, h1, h2, e => by
    simp only [List.set_cons_succ, pureDs, Bool.and_eq_true] at e
    exact .cons (a.ofPure k e.1) (Reps.put k hr j b (by simpa using h1) (by simpa using h2) e.2)
end
end Mir
set_option Elab.async false
set_option linter.all false
set_option maxRecDepth 100000
namespace Mir
open PySem L2
section
variable [Zc]
structure PostI (B H : Hp) (p : Addr) (v : V) (B' H' : Hp) (d : D) (o : Bool) (d1 : D) : Prop where
  eH : ∀ q u, q ≠ p → H q = some u → H' q = some u
  eB : Same B B'
  sub : Same B' H'
  nb : ∀ q, H q ≠ none → B q = none → B' q = none
  tB : ∀ q xs, H' q = some (.tup xs) → B' q = some (.tup xs)
  nz : ∀ q o u, H' q = some (.frz o u) → H q ≠ none
  own : Own B' H' p d1
  val : if o = true then ∃ p, v = .ref p ∧ H p = none ∧ B' p = none ∧ Own B' H' p d else Rep B' v d
def ownAt (ρ : Rho) (i : Nat) : Option Sl := match ρ[i]? with
  | some s => if s.isOwn = true then some s else none
  | none => none
theorem op_ro {a b : PM} {ρ ρ1 ρ2 : Rho} {x : D} {r : RV} {res : D × Bool} {g : D → D → Option (D × Bool)} (h1 : sv a ρ = some ((x, .ro), ρ1)) (h2 : sv b ρ1 = some (r, ρ2)) (h3 : g x r.1 = some res) : mOp g a b ρ = some (resK res, ρ2) := by
  unfold mOp; rw [h1, Option.bind_some]; dsimp only; rw [h2, Option.bind_some]; dsimp only [refr, Option.bind_some]; rw [h3, Option.map_some]
end
end Mir
set_option Elab.async false
set_option linter.all false
namespace Tree
open PySem L2 Mir
inductive Tr where
  | nil | nd (l : Tr) (k : Int) (r : Tr)
namespace Tr
def size : Tr → Nat
  | nil => 0
  | nd l _ r => l.size + 1 + r.size
def ht : Tr → Nat
  | nil => 0
  | nd l _ r => max l.ht r.ht + 1
def keys : Tr → List Int
  | nil => []
  | nd l k r => l.keys ++ k :: r.keys
def enc : Tr → D
  | nil => .none
  | nd l k r => .tuple [enc l, .int k, enc r, .int ((l.size + 1 + r.size : Nat) : Int)]
def ins : Tr → Int → Tr
  | nil, x => nd nil x nil
  | nd l k r, x => if x < k then nd (ins l x) k r else nd l k (ins r x)
def Bst : Tr → Prop
  | nil => True
  | nd l k r => Bst l ∧ Bst r ∧ (∀ x ∈ l.keys, x < k) ∧ ∀ x ∈ r.keys, k < x
theorem len_keys : ∀ t : Tr, t.keys.length = t.size
  | nil => rfl
  | nd l k r => by simp only [keys, size, List.length_append, List.length_cons, len_keys l, len_keys r]; omega
theorem ht_size : ∀ t : Tr, t.ht ≤ t.size
  | nil => Nat.le_refl _
  | nd l k r => by have := ht_size l; have := ht_size r; simp only [ht, size]; omega
theorem size_ins : ∀ (t : Tr) (x : Int), (t.ins x).size = t.size + 1
  | nil, x => rfl
  | nd l k r, x => by
    unfold ins
    split
    · simp only [size, size_ins l x]; omega
    · simp only [size, size_ins r x]; omega
theorem mem_ins : ∀ (t : Tr) (x y : Int), y ∈ (t.ins x).keys ↔ y = x ∨ y ∈ t.keys
  | nil, x, y => by simp [ins, keys]
  | nd l k r, x, y => by
    unfold ins
    split
    · simp only [keys, List.mem_append, List.mem_cons, mem_ins l x y]
      constructor
      · rintro ((h | h) | h | h)
        · exact .inl h
        · exact .inr (.inl h)
        · exact .inr (.inr (.inl h))
        · exact .inr (.inr (.inr h))
      · rintro (h | h | h | h)
        · exact .inl (.inl h)
        · exact .inl (.inr h)
        · exact .inr (.inl h)
        · exact .inr (.inr h)
    · simp only [keys, List.mem_append, List.mem_cons, mem_ins r x y]
      constructor
      · rintro (h | h | h | h)
        · exact .inr (.inl h)
        · exact .inr (.inr (.inl h))
        · exact .inl h
        · exact .inr (.inr (.inr h))
      · rintro (h | h | h | h)
        · exact .inr (.inr (.inl h))
        · exact .inl h
        · exact .inr (.inl h)
        · exact .inr (.inr (.inr h))
theorem bst_ins : ∀ {t : Tr} {x : Int}, t.Bst → x ∉ t.keys → (t.ins x).Bst
  | nil, x, _, _ => ⟨trivial, trivial, (fun _ h => by cases h), fun _ h => by cases h⟩
  | nd l k r, x, ⟨h1, h2, h3, h4⟩, hx => by
    simp only [keys, List.mem_append, List.mem_cons, not_or] at hx
    unfold ins
    split
    · rename_i hlt
      refine ⟨bst_ins h1 hx.1, h2, fun y hy => ?_, h4⟩
      rcases (mem_ins l x y).mp hy with rfl | h
      · exact hlt
      · exact h3 y h
    · rename_i hge
      refine ⟨h1, bst_ins h2 hx.2.2, h3, fun y hy => ?_⟩
      rcases (mem_ins r x y).mp hy with rfl | h
      · have := hx.2.1; omega
      · exact h4 y h
theorem sorted : ∀ {t : Tr}, t.Bst → t.keys.Pairwise (· < ·)
  | nil, _ => .nil
  | nd l k r, ⟨h1, h2, h3, h4⟩ => by
    simp only [keys]
    rw [List.pairwise_append]
    refine ⟨sorted h1, List.pairwise_cons.mpr ⟨h4, sorted h2⟩, fun a ha b hb => ?_⟩
    have := h3 a ha
    rcases List.mem_cons.mp hb with rfl | hb
    · exact this
    · have := h4 b hb; omega
def grow (l : List Int) : Tr := l.foldl ins nil
theorem grow_from : ∀ (l : List Int) (t : Tr), t.Bst → l.Nodup → (∀ x ∈ l, x ∉ t.keys) → (l.foldl ins t).Bst ∧ (l.foldl ins t).size = t.size + l.length ∧ ∀ y, y ∈ (l.foldl ins t).keys ↔ y ∈ t.keys ∨ y ∈ l
  | [], t, h, _, _ => ⟨h, rfl, fun y => by simp⟩
  | x :: l, t, h, hn, hd => by
    obtain ⟨h1, h2⟩ := List.nodup_cons.mp hn
    obtain ⟨a, b, c⟩ := grow_from l (t.ins x) (bst_ins h (hd x List.mem_cons_self)) h2 fun y hy z => by
      rcases (mem_ins t x y).mp z with rfl | z
      · exact h1 hy
      · exact hd y (List.mem_cons_of_mem _ hy) z
    refine ⟨a, by rw [List.foldl_cons, b, size_ins, List.length_cons]; omega, fun y => ?_⟩
    rw [List.foldl_cons, c, mem_ins, List.mem_cons]
    constructor
    · rintro ((h | h) | h)
      · exact .inr (.inl h)
      · exact .inl h
      · exact .inr (.inr h)
    · rintro (h | h | h)
      · exact .inl (.inr h)
      · exact .inl (.inl h)
      · exact .inr h
theorem grow_bst {l : List Int} (hn : l.Nodup) : (grow l).Bst := (grow_from l nil trivial hn fun _ _ h => by cases h).1
theorem grow_size {l : List Int} (hn : l.Nodup) : (grow l).size = l.length := by
  have := (grow_from l nil trivial hn fun _ _ h => by cases h).2.1
  simpa [grow, size] using this
theorem grow_mem {l : List Int} (hn : l.Nodup) (y : Int) : y ∈ (grow l).keys ↔ y ∈ l := by
  have := (grow_from l nil trivial hn fun _ _ h => by cases h).2.2 y
  simpa [grow, keys] using this
mutual
theorem pure_enc : ∀ t : Tr, pureD (enc t) = true
  | nil => by simp only [enc, pureD]
  | nd l k r => by simp only [enc, pureD, pureDs, pure_enc l, pure_enc r, Bool.and_self]
end
theorem pureR_enc (t : Tr) : pureR (enc t) false = true := by
  have := pure_enc t
  cases h : enc t <;> rw [h] at this <;> exact this
theorem ins_lt {l r : Tr} {k x : Int} (h : x < k) : (nd l k r).ins x = nd (l.ins x) k r := by show (if x < k then _ else _) = _; rw [if_pos h]
theorem ins_ge {l r : Tr} {k x : Int} (h : ¬ x < k) : (nd l k r).ins x = nd l k (r.ins x) := by show (if x < k then _ else _) = _; rw [if_neg h]
theorem enc_lt {l r : Tr} {k x : Int} (h : x < k) : enc ((nd l k r).ins x) = .tuple [enc (l.ins x), .int k, enc r, .int (((l.size + 1 + r.size : Nat) : Int) + 1)] := by
  rw [ins_lt h]
  simp only [enc, size_ins]
  rw [show ((l.size + 1 + 1 + r.size : Nat) : Int) = ((l.size + 1 + r.size : Nat) : Int) + 1 by omega]
theorem enc_ge {l r : Tr} {k x : Int} (h : ¬ x < k) : enc ((nd l k r).ins x) = .tuple [enc l, .int k, enc (r.ins x), .int (((l.size + 1 + r.size : Nat) : Int) + 1)] := by
  rw [ins_ge h]
  simp only [enc, size_ins]
  rw [show ((l.size + 1 + (r.size + 1) : Nat) : Int) = ((l.size + 1 + r.size : Nat) : Int) + 1 by omega]
end Tr
def hv : Nat → Int → Int → List Int
  | 0, _, _ => []
  | n + 1, lo, hi => if hi ≤ lo then [] else (lo + hi) / 2 :: (hv n lo ((lo + hi) / 2) ++ hv n ((lo + hi) / 2 + 1) hi)
theorem hv_mem : ∀ (n : Nat) (lo hi x : Int), x ∈ hv n lo hi → lo ≤ x ∧ x < hi
  | 0, _, _, _, h => by cases h
  | n + 1, lo, hi, x, h => by
    unfold hv at h
    split at h
    · cases h
    · rename_i hlt
      rcases List.mem_cons.mp h with rfl | h
      · omega
      · rcases List.mem_append.mp h with h | h
        · have := hv_mem n _ _ _ h; omega
        · have := hv_mem n _ _ _ h; omega
theorem hv_nodup : ∀ (n : Nat) (lo hi : Int), (hv n lo hi).Nodup
  | 0, _, _ => .nil
  | n + 1, lo, hi => by
    unfold hv
    split
    · exact .nil
    · refine List.nodup_cons.mpr ⟨fun h => ?_, List.nodup_append.mpr ⟨hv_nodup n _ _, hv_nodup n _ _, fun a ha b hb z => ?_⟩⟩
      · rcases List.mem_append.mp h with h | h
        · have := hv_mem n _ _ _ h; omega
        · have := hv_mem n _ _ _ h; omega
      · have := hv_mem n _ _ _ ha; have := hv_mem n _ _ _ hb; omega
theorem hv_len : ∀ (n : Nat) (lo hi : Int), (hv n lo hi).length ≤ (hi - lo).toNat
  | 0, _, _ => Nat.zero_le _
  | n + 1, lo, hi => by
    unfold hv
    split
    · exact Nat.zero_le _
    · have := hv_len n lo ((lo + hi) / 2)
      have := hv_len n ((lo + hi) / 2 + 1) hi
      simp only [List.length_cons, List.length_append]
      omega
def Ord (l : List Int) : Prop := l.Nodup ∧ l.length ≤ 60 ∧ ∀ x ∈ l, 0 ≤ x ∧ x < 61
end Tree
set_option Elab.async false
set_option linter.all false
namespace Tree
open PySem L2 Mir
def trail : Tr → Int → List Tr
  | .nil, _ => []
  | .nd l k r, x => .nd l k r :: (if x = k then [] else if x < k then trail l x else trail r x)
def keyOf : Tr → Int
  | .nil => 0
  | .nd _ k _ => k
theorem trail_len : ∀ (t : Tr) (x : Int), (trail t x).length ≤ t.ht
  | .nil, _ => Nat.le_refl _
  | .nd l k r, x => by
    have := trail_len l x
    have := trail_len r x
    unfold trail
    simp only [List.length_cons, Tr.ht]
    split
    · simp
    · split <;> omega
theorem trail_nd : ∀ (t : Tr) (x : Int), ∀ u ∈ trail t x, ∃ l k r, u = .nd l k r
  | .nil, _, u, h => by cases h
  | .nd l k r, x, u, h => by
    unfold trail at h
    rcases List.mem_cons.mp h with rfl | h
    · exact ⟨l, k, r, rfl⟩
    · split at h
      · cases h
      · split at h
        · exact trail_nd l x u h
        · exact trail_nd r x u h
def lift : Tr → Tr → Tr
  | .nd ul uk ur, .nd pl pk pr => if pk < uk then .nd pl pk (.nd pr uk ur) else .nd (.nd ul uk pl) pk pr
  | t, _ => t
def rpre : Tr → List Tr
  | .nil => []
  | .nd l k r => .nd l k r :: (rpre r ++ rpre l)
theorem rpre_len : ∀ t : Tr, (rpre t).length = t.size
  | .nil => rfl
  | .nd l k r => by simp only [rpre, List.length_cons, List.length_append, rpre_len l, rpre_len r, Tr.size]; omega
theorem rpre_nd : ∀ t : Tr, ∀ u ∈ rpre t, ∃ l k r, u = .nd l k r
  | .nil, u, h => by cases h
  | .nd l k r, u, h => by
    simp only [rpre] at h
    rcases List.mem_cons.mp h with rfl | h
    · exact ⟨l, k, r, rfl⟩
    · rcases List.mem_append.mp h with h | h
      · exact rpre_nd r u h
      · exact rpre_nd l u h
theorem rpre_keys : ∀ t : Tr, ((rpre t).map keyOf).Perm t.keys
  | .nil => .nil
  | .nd l k r => by
    simp only [rpre, Tr.keys, List.map_cons, List.map_append, keyOf]
    refine List.Perm.trans (List.Perm.cons k (((rpre_keys r).append (rpre_keys l)).trans List.perm_append_comm)) ?_
    exact List.perm_middle.symm
def wt : List Tr → Nat
  | [] => 0
  | t :: ts => (2 * t.size + 1) + wt ts
def szs : List Tr → Nat
  | [] => 0
  | t :: ts => t.size + szs ts
def withSide : Tr → Tr → Tr
  | .nd ul uk ur, w => if keyOf w < uk then .nd w uk ur else .nd ul uk w
  | .nil, w => w
def hung (pre : List Tr) (w : Tr) : Tr := pre.foldr withSide w
theorem hung_cons (u : Tr) (pre : List Tr) (w : Tr) : hung (u :: pre) w = withSide u (hung pre w) := rfl
inductive Tn (x : Int) : Nat → Tr → Tr → Prop
  | sl {a b r : Tr} {k : Int} : x < k → Tn x 1 (.nd (.nd a x b) k r) (.nd a x (.nd b k r))
  | sr {l a b : Tr} {k : Int} : k < x → Tn x 1 (.nd l k (.nd a x b)) (.nd (.nd l k a) x b)
  | ll {c d b r : Tr} {m k : Int} : x < m → x < k → m < k → Tn x 2 (.nd (.nd (.nd c x d) m b) k r) (.nd c x (.nd d m (.nd b k r)))
  | rr {l a c d : Tr} {m k : Int} : m < x → k < x → k < m → Tn x 2 (.nd l k (.nd a m (.nd c x d))) (.nd (.nd (.nd l k a) m c) x d)
  | lr {a c d r : Tr} {m k : Int} : m < x → x < k → m < k → Tn x 3 (.nd (.nd a m (.nd c x d)) k r) (.nd (.nd a m c) x (.nd d k r))
  | rl {l c d b : Tr} {m k : Int} : x < m → k < x → k < m → Tn x 3 (.nd l k (.nd (.nd c x d) m b)) (.nd (.nd l k c) x (.nd d m b))
  | ul {q : Nat} {l l' r : Tr} {k : Int} : x < k → 2 ≤ q → Tn x q l l' → Tn x q (.nd l k r) (.nd l' k r)
  | ur {q : Nat} {l r r' : Tr} {k : Int} : k < x → 2 ≤ q → Tn x q r r' → Tn x q (.nd l k r) (.nd l k r')
theorem Tn.keys {x : Int} {q : Nat} {t t' : Tr} (h : Tn x q t t') : t'.keys = t.keys := by
  induction h with
  | ul _ _ _ ih => simp only [Tr.keys, ih]
  | ur _ _ _ ih => simp only [Tr.keys, ih]
  | _ => simp [Tr.keys]
theorem Tn.size {x : Int} {q : Nat} {t t' : Tr} (h : Tn x q t t') : t'.size = t.size := by
  rw [← Tr.len_keys, ← Tr.len_keys, h.keys]
theorem Tn.kind {x : Int} {q : Nat} {t t' : Tr} (h : Tn x q t t') : q = 1 ∨ q = 2 ∨ q = 3 := by
  induction h with
  | ul _ _ _ ih => exact ih
  | ur _ _ _ ih => exact ih
  | _ => omega
theorem bst_of : ∀ {t : Tr}, t.keys.Pairwise (· < ·) → t.Bst
  | .nil, _ => trivial
  | .nd l k r, h => by
    simp only [Tr.keys] at h
    obtain ⟨h1, h2, h3⟩ := List.pairwise_append.mp h
    obtain ⟨h4, h5⟩ := List.pairwise_cons.mp h2
    exact ⟨bst_of h1, bst_of h5, fun x hx => h3 x hx k List.mem_cons_self, h4⟩
theorem Tn.bst {x : Int} {q : Nat} {t t' : Tr} (h : Tn x q t t') (hb : t.Bst) : t'.Bst := bst_of (by rw [h.keys]; exact Tr.sorted hb)
theorem Tn.nd {x : Int} {q : Nat} {t t' : Tr} (h : Tn x q t t') : ∃ l k r, t' = .nd l k r := by
  cases h <;> exact ⟨_, _, _, rfl⟩
theorem keyOf_mem {l r : Tr} {k : Int} : keyOf (.nd l k r) ∈ (Tr.nd l k r).keys := by simp [keyOf, Tr.keys]
theorem turn_ex (x : Int) : ∀ t : Tr, t.Bst → x ∈ t.keys → keyOf t ≠ x → ∃ q t', Tn x q t t'
  | .nil, _, h, _ => by cases h
  | .nd l k r, ⟨b1, b2, b3, b4⟩, h, hk => by
    have hk' : k ≠ x := hk
    simp only [Tr.keys, List.mem_append, List.mem_cons] at h
    by_cases c : x < k
    · have hl : x ∈ l.keys := by
        rcases h with h | h | h
        · exact h
        · omega
        · have := b4 x h; omega
      by_cases e : keyOf l = x
      · cases l with
        | nil => cases hl
        | nd a m b =>
          have e' : m = x := e
          subst e'
          exact ⟨1, _, .sl c⟩
      · obtain ⟨q, l', t⟩ := turn_ex x l b1 hl e
        by_cases hq : 2 ≤ q
        · exact ⟨q, _, .ul c hq t⟩
        · have h1 : q = 1 := by have := t.kind; omega
          subst h1
          cases t with
          | @sl a b r' m hm => exact ⟨2, _, .ll hm c (b3 m (by simp [Tr.keys]))⟩
          | @sr l0 a b m hm => exact ⟨3, _, .lr hm c (b3 m (by simp [Tr.keys]))⟩
          | ul _ h2 _ => omega
          | ur _ h2 _ => omega
    · have c' : k < x := by omega
      have hr : x ∈ r.keys := by
        rcases h with h | h | h
        · have := b3 x h; omega
        · omega
        · exact h
      by_cases e : keyOf r = x
      · cases r with
        | nil => cases hr
        | nd a m b =>
          have e' : m = x := e
          subst e'
          exact ⟨1, _, .sr c'⟩
      · obtain ⟨q, r', t⟩ := turn_ex x r b2 hr e
        by_cases hq : 2 ≤ q
        · exact ⟨q, _, .ur c' hq t⟩
        · have h1 : q = 1 := by have := t.kind; omega
          subst h1
          cases t with
          | @sl a b r0 m hm => exact ⟨3, _, .rl hm c' (b4 m (by simp [Tr.keys]))⟩
          | @sr l0 a b m hm => exact ⟨2, _, .rr hm c' (b4 m (by simp [Tr.keys]))⟩
          | ul _ h2 _ => omega
          | ur _ h2 _ => omega
def opT (q : Nat) (g p v : Tr) : Tr := if q = 2 then lift (lift g p) v else lift (withSide g (lift p v)) (lift p v)
theorem trail_lt {l r : Tr} {k x : Int} (h : x < k) : trail (.nd l k r) x = .nd l k r :: trail l x := by
  rw [trail.eq_def]; dsimp only; rw [if_neg (by omega), if_pos h]
theorem trail_gt {l r : Tr} {k x : Int} (h : k < x) : trail (.nd l k r) x = .nd l k r :: trail r x := by
  rw [trail.eq_def]; dsimp only; rw [if_neg (by omega), if_neg (by omega)]
theorem trail_eq {l r : Tr} {x : Int} : trail (.nd l x r) x = [.nd l x r] := by
  rw [trail.eq_def]; dsimp only; rw [if_pos rfl]
theorem lift_lt {ul ur pl pr : Tr} {uk pk : Int} (h : pk < uk) : lift (.nd ul uk ur) (.nd pl pk pr) = .nd pl pk (.nd pr uk ur) := by
  show (if pk < uk then _ else _) = _; rw [if_pos h]
theorem lift_gt {ul ur pl pr : Tr} {uk pk : Int} (h : uk < pk) : lift (.nd ul uk ur) (.nd pl pk pr) = .nd (.nd ul uk pl) pk pr := by
  show (if pk < uk then _ else _) = _; rw [if_neg (by omega)]
theorem side_lt {ul ur w : Tr} {uk : Int} (h : keyOf w < uk) : withSide (.nd ul uk ur) w = .nd w uk ur := by
  show (if keyOf w < uk then _ else _) = _; rw [if_pos h]
theorem side_gt {ul ur w : Tr} {uk : Int} (h : uk < keyOf w) : withSide (.nd ul uk ur) w = .nd ul uk w := by
  show (if keyOf w < uk then _ else _) = _; rw [if_neg (by omega)]
theorem Tn.single {x : Int} {t t' : Tr} (h : Tn x 1 t t') : ∃ ul uk ur pl pr, t = .nd ul uk ur ∧ trail t x = [.nd ul uk ur, .nd pl x pr] ∧ t' = lift (.nd ul uk ur) (.nd pl x pr) := by
  cases h with
  | sl h => exact ⟨_, _, _, _, _, rfl, by rw [trail_lt h, trail_eq], by rw [lift_lt h]⟩
  | sr h => exact ⟨_, _, _, _, _, rfl, by rw [trail_gt h, trail_eq], by rw [lift_gt h]⟩
  | ul _ h _ => omega
  | ur _ h _ => omega
structure End (q : Nat) (x : Int) (g p v : Tr) : Prop where
  gn : ∃ a k b, g = .nd a k b
  pn : ∃ a k b, p = .nd a k b
  vn : ∃ a b, v = .nd a x b
  side : (x < keyOf p ↔ keyOf p < keyOf g) ↔ q = 2
theorem Tn.long {x : Int} {q : Nat} {t t' : Tr} (h : Tn x q t t') (h2 : 2 ≤ q) (hb : t.Bst) : ∃ pre g p v, trail t x = pre ++ [g, p, v] ∧ t' = hung pre (opT q g p v) ∧ End q x g p v ∧ ∀ u ∈ pre, ∃ a k b, u = .nd a k b := by
  induction h with
  | sl _ => omega
  | sr _ => omega
  | @ll c d b r m k h1 h3 h4 =>
    refine ⟨[], _, _, _, by rw [trail_lt h3, trail_lt h1, trail_eq]; rfl, ?_, ⟨⟨_, _, _, rfl⟩, ⟨_, _, _, rfl⟩, ⟨_, _, rfl⟩, ?_⟩, fun u hu => by cases hu⟩
    · show _ = opT 2 _ _ _
      unfold opT
      rw [if_pos rfl, lift_lt h4, lift_lt h1]
    · show (x < m ↔ m < k) ↔ 2 = 2
      exact ⟨fun _ => rfl, fun _ => by omega⟩
  | @rr l a c d m k h1 h3 h4 =>
    refine ⟨[], _, _, _, by rw [trail_gt h3, trail_gt h1, trail_eq]; rfl, ?_, ⟨⟨_, _, _, rfl⟩, ⟨_, _, _, rfl⟩, ⟨_, _, rfl⟩, ?_⟩, fun u hu => by cases hu⟩
    · show _ = opT 2 _ _ _
      unfold opT
      rw [if_pos rfl, lift_gt h4, lift_gt h1]
    · show (x < m ↔ m < k) ↔ 2 = 2
      exact ⟨fun _ => rfl, fun _ => by omega⟩
  | @lr a c d r m k h1 h3 h4 =>
    refine ⟨[], _, _, _, by rw [trail_lt h3, trail_gt h1, trail_eq]; rfl, ?_, ⟨⟨_, _, _, rfl⟩, ⟨_, _, _, rfl⟩, ⟨_, _, rfl⟩, ?_⟩, fun u hu => by cases hu⟩
    · show _ = opT 3 _ _ _
      unfold opT
      rw [if_neg (by decide), lift_gt h1, side_lt (show keyOf (.nd (.nd a m c) x d) < k from h3), lift_lt h3]
    · show (x < m ↔ m < k) ↔ 3 = 2
      exact ⟨fun h => by omega, fun h => by omega⟩
  | @rl l c d b m k h1 h3 h4 =>
    refine ⟨[], _, _, _, by rw [trail_gt h3, trail_lt h1, trail_eq]; rfl, ?_, ⟨⟨_, _, _, rfl⟩, ⟨_, _, _, rfl⟩, ⟨_, _, rfl⟩, ?_⟩, fun u hu => by cases hu⟩
    · show _ = opT 3 _ _ _
      unfold opT
      rw [if_neg (by decide), lift_lt h1, side_gt (show k < keyOf (.nd c x (.nd d m b)) from h3), lift_gt h3]
    · show (x < m ↔ m < k) ↔ 3 = 2
      exact ⟨fun h => by omega, fun h => by omega⟩
  | @ul q l l' r k hx hq t ih =>
    obtain ⟨b1, b2, b3, b4⟩ := hb
    obtain ⟨pre, g, p, v, e1, e2, e3, e4⟩ := ih h2 b1
    refine ⟨.nd l k r :: pre, g, p, v, by rw [trail_lt hx, e1]; rfl, ?_, e3, fun u hu => ?_⟩
    · obtain ⟨a, m, b, e5⟩ := t.nd
      have : keyOf l' < k := by rw [e5]; exact b3 _ (by rw [← t.keys, e5]; exact keyOf_mem)
      rw [hung_cons, ← e2, side_lt this]
    · rcases List.mem_cons.mp hu with rfl | hu
      · exact ⟨_, _, _, rfl⟩
      · exact e4 u hu
  | @ur q l r r' k hx hq t ih =>
    obtain ⟨b1, b2, b3, b4⟩ := hb
    obtain ⟨pre, g, p, v, e1, e2, e3, e4⟩ := ih h2 b2
    refine ⟨.nd l k r :: pre, g, p, v, by rw [trail_gt hx, e1]; rfl, ?_, e3, fun u hu => ?_⟩
    · obtain ⟨a, m, b, e5⟩ := t.nd
      have : k < keyOf r' := by rw [e5]; exact b4 _ (by rw [← t.keys, e5]; exact keyOf_mem)
      rw [hung_cons, ← e2, side_gt this]
    · rcases List.mem_cons.mp hu with rfl | hu
      · exact ⟨_, _, _, rfl⟩
      · exact e4 u hu
end Tree
namespace Bit
open PySem
abbrev bits (n : Int) : Nat := Builtin.Int.intBits n
theorem bits_zero : bits 0 = 0 := rfl
theorem bits_pos {n : Int} (h : 0 < n) : bits n = n.toNat.log2 + 1 := by
  unfold bits Builtin.Int.intBits
  have h0 : (n == 0) = false := by simpa using (by omega : n ≠ 0)
  have h1 : n.natAbs = n.toNat := by omega
  rw [h0, h1]; rfl
theorem two_pow (k : Nat) : ((2 : Int) ^ k) = ((2 ^ k : Nat) : Int) := by simp
theorem bits_hi {n : Int} (h : 0 < n) : n < (2 : Int) ^ bits n := by
  rw [bits_pos h, two_pow]
  have h1 : n.toNat < 2 ^ (n.toNat.log2 + 1) := (Nat.log2_lt (by omega)).mp (Nat.lt_succ_self _)
  omega
theorem bits_le {n : Int} {k : Nat} (h : 0 < n) (hk : n < (2 : Int) ^ k) : bits n ≤ k := by
  rw [bits_pos h]
  rw [two_pow] at hk
  have h1 : n.toNat < 2 ^ k := by omega
  have := (Nat.log2_lt (show n.toNat ≠ 0 by omega)).mpr h1
  omega
theorem p59 : (10 : Int) ^ (59 : Int).toNat = 100000000000000000000000000000000000000000000000000000000000 := by decide
end Bit
namespace Bit
open PySem
end Bit
set_option Elab.async false
set_option linter.all false
namespace Tree
open PySem L2 Mir
def bits (n : Nat) : Int := ((Builtin.Int.intBits (n : Int) : Nat) : Int)
theorem bits_def (n : Nat) : bits n = ((Bit.bits (n : Int) : Nat) : Int) := rfl
theorem bits_iff (n : Nat) (k : Nat) : Bit.bits (n : Int) ≤ k ↔ n < 2 ^ k := by
  by_cases h : n = 0
  · subst h
    constructor
    · intro _; exact Nat.two_pow_pos k
    · intro _; show Bit.bits 0 ≤ k; rw [Bit.bits_zero]; exact Nat.zero_le _
  · constructor
    · intro hk
      have h1 := Bit.bits_hi (n := (n : Int)) (by omega)
      have h2 : (2 : Nat) ^ Bit.bits (n : Int) ≤ 2 ^ k := Nat.pow_le_pow_right (by decide) hk
      rw [Bit.two_pow] at h1
      omega
    · intro hk
      refine Bit.bits_le (by omega) ?_
      rw [Bit.two_pow]
      omega
theorem bits_mono {a b : Nat} (h : a ≤ b) : bits a ≤ bits b := by
  rw [bits_def, bits_def]
  have : Bit.bits (a : Int) ≤ Bit.bits (b : Int) := (bits_iff a _).mpr (Nat.lt_of_le_of_lt h ((bits_iff b _).mp (Nat.le_refl _)))
  omega
theorem bits_two (a b : Nat) : bits a + bits b + 1 ≤ 2 * bits (a + b + 1) := by
  have h1 := bits_mono (show a ≤ a + b + 1 by omega)
  have h2 := bits_mono (show b ≤ a + b + 1 by omega)
  by_cases h : bits a = bits (a + b + 1) ∧ bits b = bits (a + b + 1)
  · exfalso
    rw [bits_def, bits_def, bits_def] at h
    obtain ⟨e1, e2⟩ := h
    have e1 : Bit.bits (a : Int) = Bit.bits ((a + b + 1 : Nat) : Int) := by omega
    have e2 : Bit.bits (b : Int) = Bit.bits ((a + b + 1 : Nat) : Int) := by omega
    generalize hm : Bit.bits ((a + b + 1 : Nat) : Int) = m at e1 e2
    have h3 := (bits_iff (a + b + 1) m).mp (by omega)
    match m, hm with
    | 0, hm => simp at h3
    | m + 1, hm =>
      have h4 : ¬ a < 2 ^ m := fun z => by have := (bits_iff a m).mpr z; omega
      have h5 : ¬ b < 2 ^ m := fun z => by have := (bits_iff b m).mpr z; omega
      rw [Nat.pow_succ] at h3
      omega
  · omega
def cred : Tr → Int
  | .nil => 0
  | .nd l _ r => cred l + bits (l.size + 1 + r.size) + cred r
def sub : Tr → Int → Tr
  | .nil, _ => .nil
  | .nd l k r, x => if x = k then .nd l k r else if x < k then sub l x else sub r x
theorem sub_lt {l r : Tr} {k x : Int} (h : x < k) : sub (.nd l k r) x = sub l x := by rw [sub.eq_def]; dsimp only; rw [if_neg (by omega), if_pos h]
theorem sub_gt {l r : Tr} {k x : Int} (h : k < x) : sub (.nd l k r) x = sub r x := by rw [sub.eq_def]; dsimp only; rw [if_neg (by omega), if_neg (by omega)]
theorem sub_eq {l r : Tr} {x : Int} : sub (.nd l x r) x = .nd l x r := by rw [sub.eq_def]; dsimp only; rw [if_pos rfl]
theorem Tn.paid {x : Int} {q : Nat} {t t' : Tr} (h : Tn x q t t') : 1 + cred t' ≤ cred t + 3 * (bits (sub t' x).size - bits (sub t x).size) + (if q = 1 then 1 else 0) := by
  induction h with
  | @sl a b r k h1 =>
    rw [sub_eq, sub_lt h1, sub_eq, if_pos rfl]
    simp only [cred, Tr.size]
    have e : a.size + 1 + (b.size + 1 + r.size) = a.size + 1 + b.size + 1 + r.size := by omega
    rw [e]
    have := bits_mono (show a.size + 1 + b.size ≤ a.size + 1 + b.size + 1 + r.size by omega)
    have := bits_mono (show b.size + 1 + r.size ≤ a.size + 1 + b.size + 1 + r.size by omega)
    omega
  | @sr l a b k h1 =>
    rw [sub_eq, sub_gt h1, sub_eq, if_pos rfl]
    simp only [cred, Tr.size]
    have e : l.size + 1 + (a.size + 1 + b.size) = l.size + 1 + a.size + 1 + b.size := by omega
    rw [e]
    have := bits_mono (show a.size + 1 + b.size ≤ l.size + 1 + a.size + 1 + b.size by omega)
    have := bits_mono (show l.size + 1 + a.size ≤ l.size + 1 + a.size + 1 + b.size by omega)
    omega
  | @ll c d b r m k h1 h2 h3 =>
    rw [sub_eq, sub_lt h2, sub_lt h1, sub_eq, if_neg (by decide)]
    simp only [cred, Tr.size]
    have e : c.size + 1 + (d.size + 1 + (b.size + 1 + r.size)) = c.size + 1 + d.size + (b.size + 1 + r.size) + 1 := by omega
    have e2 : c.size + 1 + d.size + 1 + b.size + 1 + r.size = c.size + 1 + d.size + (b.size + 1 + r.size) + 1 := by omega
    rw [e, e2]
    have := bits_two (c.size + 1 + d.size) (b.size + 1 + r.size)
    have := bits_mono (show c.size + 1 + d.size ≤ c.size + 1 + d.size + 1 + b.size by omega)
    have := bits_mono (show d.size + 1 + (b.size + 1 + r.size) ≤ c.size + 1 + d.size + (b.size + 1 + r.size) + 1 by omega)
    omega
  | @rr l a c d m k h1 h2 h3 =>
    rw [sub_eq, sub_gt h2, sub_gt h1, sub_eq, if_neg (by decide)]
    simp only [cred, Tr.size]
    have e : l.size + 1 + (a.size + 1 + (c.size + 1 + d.size)) = l.size + 1 + a.size + (c.size + 1 + d.size) + 1 := by omega
    have e2 : l.size + 1 + a.size + 1 + c.size + 1 + d.size = l.size + 1 + a.size + (c.size + 1 + d.size) + 1 := by omega
    rw [e, e2]
    have := bits_two (l.size + 1 + a.size) (c.size + 1 + d.size)
    have := bits_mono (show c.size + 1 + d.size ≤ a.size + 1 + (c.size + 1 + d.size) by omega)
    have := bits_mono (show l.size + 1 + a.size + 1 + c.size ≤ l.size + 1 + a.size + (c.size + 1 + d.size) + 1 by omega)
    omega
  | @lr a c d r m k h1 h2 h3 =>
    rw [sub_eq, sub_lt h2, sub_gt h1, sub_eq, if_neg (by decide)]
    simp only [cred, Tr.size]
    have e : a.size + 1 + c.size + 1 + (d.size + 1 + r.size) = a.size + 1 + c.size + (d.size + 1 + r.size) + 1 := by omega
    have e2 : a.size + 1 + (c.size + 1 + d.size) + 1 + r.size = a.size + 1 + c.size + (d.size + 1 + r.size) + 1 := by omega
    rw [e, e2]
    have := bits_two (a.size + 1 + c.size) (d.size + 1 + r.size)
    have := bits_mono (show c.size + 1 + d.size ≤ a.size + 1 + (c.size + 1 + d.size) by omega)
    have := bits_mono (show c.size + 1 + d.size ≤ a.size + 1 + c.size + (d.size + 1 + r.size) + 1 by omega)
    omega
  | @rl l c d b m k h1 h2 h3 =>
    rw [sub_eq, sub_gt h2, sub_lt h1, sub_eq, if_neg (by decide)]
    simp only [cred, Tr.size]
    have e : l.size + 1 + c.size + 1 + (d.size + 1 + b.size) = l.size + 1 + c.size + (d.size + 1 + b.size) + 1 := by omega
    have e2 : l.size + 1 + (c.size + 1 + d.size + 1 + b.size) = l.size + 1 + c.size + (d.size + 1 + b.size) + 1 := by omega
    rw [e, e2]
    have := bits_two (l.size + 1 + c.size) (d.size + 1 + b.size)
    have := bits_mono (show c.size + 1 + d.size ≤ c.size + 1 + d.size + 1 + b.size by omega)
    have := bits_mono (show c.size + 1 + d.size ≤ l.size + 1 + c.size + (d.size + 1 + b.size) + 1 by omega)
    omega
  | @ul q l l' r k hx hq tn ih =>
    rw [sub_lt hx, sub_lt hx]
    simp only [cred, tn.size]
    omega
  | @ur q l r r' k hx hq tn ih =>
    rw [sub_gt hx, sub_gt hx]
    simp only [cred, tn.size]
    omega
theorem sub_last (x : Int) : ∀ t : Tr, t.Bst → x ∈ t.keys → ∃ pre, trail t x = pre ++ [sub t x]
  | .nil, _, h => by cases h
  | .nd l k r, ⟨b1, b2, b3, b4⟩, h => by
    simp only [Tr.keys, List.mem_append, List.mem_cons] at h
    by_cases e : x = k
    · subst e
      exact ⟨[], by rw [trail_eq, sub_eq]; rfl⟩
    · by_cases c : x < k
      · obtain ⟨pre, hp⟩ := sub_last x l b1 (by
          rcases h with h | h | h
          · exact h
          · omega
          · have := b4 x h; omega)
        exact ⟨.nd l k r :: pre, by rw [trail_lt c, sub_lt c, hp]; rfl⟩
      · have c : k < x := by omega
        obtain ⟨pre, hp⟩ := sub_last x r b2 (by
          rcases h with h | h | h
          · have := b3 x h; omega
          · omega
          · exact h)
        exact ⟨.nd l k r :: pre, by rw [trail_gt c, sub_gt c, hp]; rfl⟩
theorem Tn.mem {x : Int} {q : Nat} {t t' : Tr} (h : Tn x q t t') : x ∈ t.keys := by
  induction h with
  | ul _ _ _ ih => simp [Tr.keys, ih]
  | ur _ _ _ ih => simp [Tr.keys, ih]
  | _ => simp [Tr.keys]
theorem Tn.way {x : Int} {q : Nat} {t t' : Tr} (h : Tn x q t t') : (q = 1 ↔ (trail t x).length = 2) ∧ (trail t' x).length = max 1 ((trail t x).length - 2) ∧ 2 ≤ (trail t x).length ∧ ∃ u, (trail t x)[(trail t x).length - 3]? = some u ∧ u.size = (sub t' x).size := by
  induction h with
  | sl h => rw [trail_lt h, trail_eq, trail_eq, sub_eq]; exact ⟨by simp, by simp, by simp, _, rfl, by simp only [Tr.size]; omega⟩
  | sr h => rw [trail_gt h, trail_eq, trail_eq, sub_eq]; exact ⟨by simp, by simp, by simp, _, rfl, by simp only [Tr.size]; omega⟩
  | ll h1 h2 h3 => rw [trail_lt h2, trail_lt h1, trail_eq, trail_eq, sub_eq]; exact ⟨by simp, by simp, by simp, _, rfl, by simp only [Tr.size]; omega⟩
  | rr h1 h2 h3 => rw [trail_gt h2, trail_gt h1, trail_eq, trail_eq, sub_eq]; exact ⟨by simp, by simp, by simp, _, rfl, by simp only [Tr.size]; omega⟩
  | lr h1 h2 h3 => rw [trail_lt h2, trail_gt h1, trail_eq, trail_eq, sub_eq]; exact ⟨by simp, by simp, by simp, _, rfl, by simp only [Tr.size]; omega⟩
  | rl h1 h2 h3 => rw [trail_gt h2, trail_lt h1, trail_eq, trail_eq, sub_eq]; exact ⟨by simp, by simp, by simp, _, rfl, by simp only [Tr.size]; omega⟩
  | @ul q l l' r k hx hq tn ih =>
    obtain ⟨i1, i2, i3, u, i4, i5⟩ := ih
    have n2 : (trail l x).length ≠ 2 := fun z => by have := i1.mpr z; omega
    rw [trail_lt hx, trail_lt hx, sub_lt hx, List.length_cons, List.length_cons]
    refine ⟨⟨fun z => by omega, fun z => by omega⟩, by omega, by omega, u, ?_, i5⟩
    rw [show (trail l x).length + 1 - 3 = (trail l x).length - 3 + 1 by omega, List.getElem?_cons_succ]
    exact i4
  | @ur q l r r' k hx hq tn ih =>
    obtain ⟨i1, i2, i3, u, i4, i5⟩ := ih
    have n2 : (trail r x).length ≠ 2 := fun z => by have := i1.mpr z; omega
    rw [trail_gt hx, trail_gt hx, sub_gt hx, List.length_cons, List.length_cons]
    refine ⟨⟨fun z => by omega, fun z => by omega⟩, by omega, by omega, u, ?_, i5⟩
    rw [show (trail r x).length + 1 - 3 = (trail r x).length - 3 + 1 by omega, List.getElem?_cons_succ]
    exact i4
end Tree
set_option Elab.async false
set_option linter.all false
namespace Tree
open PySem L2 Mir
inductive Up (x : Int) : Tr → List (Nat × Tr) → Tr → Prop
  | done {t : Tr} : t.keys ≠ [] → keyOf t = x → Up x t [] t
  | step {q : Nat} {t t' u : Tr} {tr : List (Nat × Tr)} : keyOf t ≠ x → Tn x q t t' → Up x t' tr u → Up x t ((q, t') :: tr) u
theorem up_ex (x : Int) : ∀ (n : Nat) (t : Tr), (trail t x).length ≤ n → t.Bst → x ∈ t.keys → ∃ tr u, Up x t tr u
  | 0, t, h, hb, hx => by
    obtain ⟨p, e⟩ := sub_last x t hb hx
    rw [e] at h
    simp at h
  | n + 1, t, h, hb, hx => by
    by_cases e : keyOf t = x
    · exact ⟨[], t, .done (fun z => by rw [z] at hx; cases hx) e⟩
    · obtain ⟨q, t', tn⟩ := turn_ex x t hb hx e
      obtain ⟨_, w2, w3, _⟩ := tn.way
      obtain ⟨tr, u, hu⟩ := up_ex x n t' (by omega) (tn.bst hb) (by rw [tn.keys]; exact hx)
      exact ⟨_, _, .step e tn hu⟩
theorem Up.keys {x : Int} {t u : Tr} {tr : List (Nat × Tr)} (h : Up x t tr u) : u.keys = t.keys := by
  induction h with
  | done => rfl
  | step _ tn _ ih => rw [ih, tn.keys]
theorem Up.size {x : Int} {t u : Tr} {tr : List (Nat × Tr)} (h : Up x t tr u) : u.size = t.size := by rw [← Tr.len_keys, ← Tr.len_keys, h.keys]
theorem Up.bst {x : Int} {t u : Tr} {tr : List (Nat × Tr)} (h : Up x t tr u) (hb : t.Bst) : u.Bst := bst_of (by rw [h.keys]; exact Tr.sorted hb)
theorem Up.nd {x : Int} {t u : Tr} {tr : List (Nat × Tr)} (h : Up x t tr u) : ∃ l r, u = .nd l x r := by
  induction h with
  | @done t h e =>
    cases t with
    | nil => exact absurd rfl h
    | nd l k r => exact ⟨l, r, by rw [← e]; rfl⟩
  | step _ _ _ ih => exact ih
theorem Up.len {x : Int} {t u : Tr} {tr : List (Nat × Tr)} (h : Up x t tr u) : tr.length ≤ (trail t x).length := by
  induction h with
  | done => exact Nat.zero_le _
  | step _ tn _ ih =>
    obtain ⟨_, w2, w3, _⟩ := tn.way
    rw [List.length_cons]
    omega
theorem Up.paid {x : Int} {t u : Tr} {tr : List (Nat × Tr)} (h : Up x t tr u) : (tr.length : Int) + cred u ≤ cred t + 3 * (bits t.size - bits (sub t x).size) + 1 := by
  induction h with
  | @done t h e =>
    have : sub t x = t := by
      cases t with
      | nil => exact absurd rfl h
      | nd l k r =>
        have e' : k = x := e
        subst e'
        exact sub_eq
    rw [this]
    simp only [List.length_nil]
    omega
  | @step q t t' u tr hk tn hu ih =>
    have p := tn.paid
    rw [tn.size] at ih
    rw [List.length_cons]
    by_cases hq : q = 1
    · subst hq
      rw [if_pos rfl] at p
      have r1 : keyOf t' = x := by
        cases tn with
        | sl h => rfl
        | sr h => rfl
        | ul _ h _ => omega
        | ur _ h _ => omega
      have : tr = [] ∧ u = t' := by
        cases hu with
        | done _ _ => exact ⟨rfl, rfl⟩
        | step hn _ _ => exact absurd r1 hn
      obtain ⟨rfl, rfl⟩ := this
      have : sub u x = u := by
        obtain ⟨l, r, rfl⟩ := hu.nd
        exact sub_eq
      rw [this, tn.size] at p
      simp only [List.length_nil]
      omega
    · rw [if_neg hq] at p
      omega
theorem sub_pos (x : Int) : ∀ t : Tr, t.Bst → x ∈ t.keys → 1 ≤ (sub t x).size
  | .nil, _, h => by cases h
  | .nd l k r, ⟨b1, b2, b3, b4⟩, h => by
    simp only [Tr.keys, List.mem_append, List.mem_cons] at h
    by_cases e : x = k
    · subst e
      rw [sub_eq]; simp only [Tr.size]; omega
    · by_cases c : x < k
      · rw [sub_lt c]
        refine sub_pos x l b1 ?_
        rcases h with h | h | h
        · exact h
        · omega
        · have := b4 x h; omega
      · rw [sub_gt (by omega)]
        refine sub_pos x r b2 ?_
        rcases h with h | h | h
        · have := b3 x h; omega
        · omega
        · exact h
theorem bits_one {n : Nat} (h : 1 ≤ n) : 1 ≤ bits n := by
  have := bits_mono h
  have e : bits 1 = 1 := by decide
  omega
theorem Up.ask {x : Int} {t u : Tr} {tr : List (Nat × Tr)} (h : Up x t tr u) (hb : t.Bst) (hx : x ∈ t.keys) : (tr.length : Int) + cred u ≤ cred t + (3 * bits t.size - 2) := by
  have := h.paid
  have := bits_one (sub_pos x t hb hx)
  omega
def lastK : Tr → Int → Int
  | .nil, x => x
  | .nd l k r, x => if x = k then k else if x < k then (match l with | .nil => k | .nd .. => lastK l x) else (match r with | .nil => k | .nd .. => lastK r x)
theorem lastK_way (x : Int) : ∀ t : Tr, t.keys ≠ [] → ((trail t x).map keyOf).getLast? = some (lastK t x)
  | .nil, h => absurd rfl h
  | .nd l k r, _ => by
    unfold trail lastK
    by_cases e : x = k
    · rw [if_pos e, if_pos e]; rfl
    · rw [if_neg e, if_neg e]
      by_cases c : x < k
      · rw [if_pos c, if_pos c]
        cases l with
        | nil => rfl
        | nd a m b =>
          rw [List.map_cons, List.getLast?_cons, lastK_way x (.nd a m b) (by simp [Tr.keys])]; rfl
      · rw [if_neg c, if_neg c]
        cases r with
        | nil => rfl
        | nd a m b =>
          rw [List.map_cons, List.getLast?_cons, lastK_way x (.nd a m b) (by simp [Tr.keys])]; rfl
theorem lastK_mem (x : Int) : ∀ t : Tr, t.keys ≠ [] → lastK t x ∈ t.keys
  | .nil, h => absurd rfl h
  | .nd l k r, _ => by
    unfold lastK
    by_cases e : x = k
    · rw [if_pos e]; simp [Tr.keys]
    · rw [if_neg e]
      by_cases c : x < k
      · rw [if_pos c]
        cases l with
        | nil => simp [Tr.keys]
        | nd a m b =>
          have := lastK_mem x (.nd a m b) (by simp [Tr.keys])
          simp only [Tr.keys, List.mem_append] at this ⊢
          exact .inl this
      · rw [if_neg c]
        cases r with
        | nil => simp [Tr.keys]
        | nd a m b =>
          have := lastK_mem x (.nd a m b) (by simp [Tr.keys])
          simp only [Tr.keys, List.mem_append, List.mem_cons] at this ⊢
          exact .inr (.inr this)
theorem lastK_near (x : Int) : ∀ t : Tr, t.Bst → t.keys ≠ [] → ∀ y ∈ t.keys, (y < lastK t x → y < x) ∧ (lastK t x < y → x < y)
  | .nil, _, h => absurd rfl h
  | .nd l k r, ⟨b1, b2, b3, b4⟩, _ => by
    intro y hy
    unfold lastK
    by_cases e : x = k
    · rw [if_pos e]; omega
    · rw [if_neg e]
      simp only [Tr.keys, List.mem_append, List.mem_cons] at hy
      by_cases c : x < k
      · rw [if_pos c]
        cases l with
        | nil =>
          dsimp only
          rcases hy with h | h | h
          · cases h
          · omega
          · have := b4 y h; omega
        | nd a m b =>
          dsimp only
          have hn : (Tr.nd a m b).keys ≠ [] := by simp [Tr.keys]
          have h1 := b3 _ (lastK_mem x (.nd a m b) hn)
          rcases hy with h | h | h
          · exact lastK_near x (.nd a m b) b1 hn y h
          · omega
          · have := b4 y h; omega
      · rw [if_neg c]
        cases r with
        | nil =>
          dsimp only
          rcases hy with h | h | h
          · have := b3 y h; omega
          · omega
          · cases h
        | nd a m b =>
          dsimp only
          have hn : (Tr.nd a m b).keys ≠ [] := by simp [Tr.keys]
          have h1 := b4 _ (lastK_mem x (.nd a m b) hn)
          rcases hy with h | h | h
          · have := b3 y h; omega
          · omega
          · exact lastK_near x (.nd a m b) b2 hn y h
theorem lastK_eq (x : Int) (t : Tr) (hb : t.Bst) (hx : x ∈ t.keys) : lastK t x = x := by
  have hn : t.keys ≠ [] := fun z => by rw [z] at hx; cases hx
  have := lastK_near x t hb hn x hx
  omega
def kindS (q : Nat) : Str := if q = 1 then "single" else if q = 2 then "straight" else "bent"
def toldD (p : Nat × Tr) : D := .tuple [.str (kindS p.1), p.2.enc]
end Tree
set_option maxHeartbeats 4000000
set_option Elab.async false
set_option linter.all false
set_option maxRecDepth 100000
namespace K64
open PySem L2 Mir
noncomputable def ce1_law_keys : PM :=
    (mOp gAdd (mVar 1) (mOp gMul (mVar 0) (mVar 2)))
noncomputable def b_law_keys : SM :=
    (mSeq (mAsg 2 (mOp gSub (mOp gMod (mOp gDiv (mVar 0) (mC (.int 8))) (mC (.int 41))) (mC (.int 20))))
    (mSeq (mIfS (mTest (mOp gEq (mOp gMod (mVar 0) (mC (.int 2))) (mC (.int 1))))
    (mAsg 2 (mOp gSub (mOp gMod (mOp gMul (mVar 0) (mOp gPow (mC (.int 982451653)) (mC (.int 3)))) (mOp gAdd (mOp gMul (mC (.int 2)) (mOp gPow (mC (.int 10)) (mC (.int 59)))) (mC (.int 1)))) (mOp gPow (mC (.int 10)) (mC (.int 59)))))
    mPass)
    (mSeq (mAsg 3 (mOp gIx (mLst (mCons (mC (.int 1)) (mCons (mC (.int 2)) (mCons (mOp gAdd (mC (.int 1)) (mOp gMod (mOp gDiv (mVar 0) (mC (.int 5))) (mOp gPow (mC (.int 10)) (mC (.int 6))))) (mCons (mOp gAdd (mC (.int 1)) (mOp gMod (mOp gMul (mVar 0) (mOp gPow (mC (.int 48271)) (mC (.int 4)))) (mOp gPow (mC (.int 10)) (mC (.int 57))))) mNil))))) (mOp gMod (mOp gDiv (mVar 0) (mC (.int 2))) (mC (.int 4)))))
    (mRet (mLC [("_law_base", 2), ("_law_step", 3)] (mItL (mVar 1)) mYes ce1_law_keys)))))
noncomputable def m_law_keys : List D → Option (D × Bool) := fnM 2 2 b_law_keys
noncomputable def b_law_cell_at : SM :=
    (mSeq (mIfS (mTest (mOp gLt (mVar 1) (mCB gLen (mCons (mVar 0) mNil))))
    (mRet (mOp gIx (mVar 0) (mVar 1)))
    mPass)
    (mRet (mC (.int 0))))
noncomputable def m_law_cell_at : List D → Option (D × Bool) := fnM 2 0 b_law_cell_at
noncomputable def b_law_halves (self : List D → Option (D × Bool)) : SM :=
    (mSeq (mIfS (mTest (mOp gGe (mVar 0) (mVar 1)))
    (mRet (mLst mNil))
    mPass)
    (mSeq (mAsg 2 (mOp gDiv (mOp gAdd (mVar 0) (mVar 1)) (mC (.int 2))))
    (mRet (mOp gAdd (mOp gAdd (mLst (mCons (mVar 2) mNil)) (mCall self (mCons (mVar 0) (mCons (mVar 2) mNil)))) (mCall self (mCons (mOp gAdd (mVar 2) (mC (.int 1))) (mCons (mVar 1) mNil)))))))
noncomputable def m_law_halves : Nat → List D → Option (D × Bool)
  | 0 => fun _ => none
  | n + 1 => fnM 2 1 (b_law_halves (m_law_halves n))
noncomputable def b_law_mixed : SM :=
    (mSeq (mAsg 2 (mOp gMod (mOp gAdd (mOp gAdd (mOp gMul (mOp gMod (mVar 0) (mC (.int 2147483647))) (mC (.int 48271))) (mOp gMul (mOp gMul (mVar 1) (mVar 1)) (mC (.int 7919)))) (mOp gMul (mC (.int 104729)) (mVar 1))) (mC (.int 2147483629))))
    (mRet (mOp gMod (mOp gMul (mVar 2) (mVar 2)) (mC (.int 2147483587)))))
noncomputable def m_law_mixed : List D → Option (D × Bool) := fnM 2 1 b_law_mixed
noncomputable def lb1_law_order : SM :=
    (mDrop (mMut 4 fInsert (mCons (mOp gMod (mCall m_law_mixed (mCons (mVar 1) (mCons (mVar 5) mNil))) (mOp gAdd (mVar 5) (mC (.int 1)))) (mCons (mVar 5) mNil))))
noncomputable def ce1_law_order : PM :=
    (mOp gIx (mLst (mCons (mOp gDiv (mVar 0) (mC (.int 2))) (mCons (mOp gSub (mOp gSub (mVar 1) (mC (.int 1))) (mOp gDiv (mVar 0) (mC (.int 2)))) mNil))) (mOp gMod (mVar 0) (mC (.int 2))))
noncomputable def b_law_order : SM :=
    (mSeq (mAsg 2 (mOp gMod (mOp gDiv (mVar 0) (mC (.int 7))) (mC (.int 41))))
    (mSeq (mIfS (mTest (mOp gEq (mOp gMod (mOp gDiv (mVar 0) (mC (.int 287))) (mC (.int 8))) (mC (.int 1))))
    (mAsg 2 (mOp gMod (mOp gDiv (mVar 0) (mC (.int 2296))) (mC (.int 61))))
    mPass)
    (mSeq (mAsg 3 (mOp gMod (mVar 0) (mC (.int 7))))
    (mSeq (mIfS (mTest (mOp gEq (mVar 3) (mC (.int 1))))
    (mRet (mCB gListRng (mCons (mVar 2) mNil)))
    mPass)
    (mSeq (mIfS (mTest (mOp gEq (mVar 3) (mC (.int 2))))
    (mRet (mCB gListRevRng (mCons (mVar 2) mNil)))
    mPass)
    (mSeq (mIfS (mTest (mOp gEq (mVar 3) (mC (.int 3))))
    (mRet (mCall (m_law_halves 12) (mCons (mC (.int 0)) (mCons (mVar 2) mNil))))
    mPass)
    (mSeq (mIfS (mTest (mOp gEq (mVar 3) (mC (.int 4))))
    (mRet (mLC [("_law_many_here", 2)] (mRg1 (mCons (mVar 2) mNil)) mYes ce1_law_order))
    mPass)
    (mSeq (mAsg 4 (mLst mNil))
    (mSeq (mFor (mRg1 (mCons (mVar 2) mNil)) (mgN 5)
    lb1_law_order)
    (mRet (mVar 4)))))))))))
noncomputable def m_law_order : List D → Option (D × Bool) := fnM 2 4 b_law_order
noncomputable def b_law_put (self : List D → Option (D × Bool)) : SM :=
    (mSeq (mIfS (mTest (mOp gIs (mVar 0) (mC .none)))
    (mRet (mTup (mCons (mC .none) (mCons (mVar 1) (mCons (mC .none) (mCons (mC (.int 1)) mNil))))))
    mPass)
    (mSeq (mAsgG (mVar 0) (mgU 4 (mgsCons (mgN 2) (mgsCons (mgN 3) (mgsCons (mgN 4) (mgsCons (mgN 5) mgsNil))))))
    (mSeq (mIfS (mTest (mOp gLt (mVar 1) (mVar 3)))
    (mRet (mTup (mCons (mCall self (mCons (mVar 2) (mCons (mVar 1) mNil))) (mCons (mVar 3) (mCons (mVar 4) (mCons (mOp gAdd (mVar 5) (mC (.int 1))) mNil))))))
    mPass)
    (mRet (mTup (mCons (mVar 2) (mCons (mVar 3) (mCons (mCall self (mCons (mVar 4) (mCons (mVar 1) mNil))) (mCons (mOp gAdd (mVar 5) (mC (.int 1))) mNil)))))))))
noncomputable def m_law_put : Nat → List D → Option (D × Bool)
  | 0 => fun _ => none
  | n + 1 => fnM 2 4 (b_law_put (m_law_put n))
noncomputable def lb1_law_grown : SM :=
    (mAsg 1 (mCall (m_law_put 64) (mCons (mVar 1) (mCons (mVar 2) mNil))))
noncomputable def b_law_grown : SM :=
    (mSeq (mAsg 1 (mC .none))
    (mSeq (mFor (mFoL (mCall m_law_keys (mCons (mCall m_law_cell_at (mCons (mVar 0) (mCons (mC (.int 1)) mNil))) (mCons (mCall m_law_order (mCons (mCall m_law_cell_at (mCons (mVar 0) (mCons (mC (.int 0)) mNil))) (mCons (mCall m_law_cell_at (mCons (mVar 0) (mCons (mC (.int 2)) mNil))) mNil))) mNil)))) (mgN 2)
    lb1_law_grown)
    (mRet (mVar 1))))
noncomputable def m_law_grown : List D → Option (D × Bool) := fnM 1 2 b_law_grown
noncomputable def b_law_rising (self : List D → Option (D × Bool)) : SM :=
    (mSeq (mIfS (mTest (mOp gIs (mVar 0) (mC .none)))
    (mRet (mLst mNil))
    mPass)
    (mRet (mOp gAdd (mOp gAdd (mCall self (mCons (mOp gIx (mVar 0) (mC (.int 0))) mNil)) (mLst (mCons (mOp gIx (mVar 0) (mC (.int 1))) mNil))) (mCall self (mCons (mOp gIx (mVar 0) (mC (.int 2))) mNil)))))
noncomputable def m_law_rising : Nat → List D → Option (D × Bool)
  | 0 => fun _ => none
  | n + 1 => fnM 1 0 (b_law_rising (m_law_rising n))
noncomputable def lb1_law_of : SM :=
    (mAsg 1 (mCall (m_law_put 64) (mCons (mVar 1) (mCons (mVar 2) mNil))))
noncomputable def b_law_of : SM :=
    (mSeq (mAsg 1 (mC .none))
    (mSeq (mFor (mFoL (mVar 0)) (mgN 2)
    lb1_law_of)
    (mRet (mVar 1))))
noncomputable def m_law_of : List D → Option (D × Bool) := fnM 1 2 b_law_of
noncomputable def wc1_parts_to : Rho → Option (Bool × Rho) :=
    (mTest (mOp gIsNot (mVar 3) (mC .none)))
noncomputable def wb1_parts_to : SM :=
    (mSeq (mDrop (mMut 2 fAppend (mCons (mVar 3) mNil)))
    (mSeq (mIfS (mTest (mOp gEq (mVar 1) (mOp gIx (mVar 3) (mC (.int 1)))))
    mBrk
    mPass)
    (mAsg 3 (mIfE (mTest (mOp gLt (mVar 1) (mOp gIx (mVar 3) (mC (.int 1))))) (mOp gIx (mVar 3) (mC (.int 0))) (mOp gIx (mVar 3) (mC (.int 2)))))))
noncomputable def b_parts_to : SM :=
    (mSeq (mAsg 2 (mLst mNil))
    (mSeq (mAsg 3 (mVar 0))
    (mSeq (mWhile wc1_parts_to
    wb1_parts_to 1000000)
    (mRet (mVar 2)))))
noncomputable def m_parts_to : List D → Option (D × Bool) := fnM 2 2 b_parts_to
noncomputable def b_stands_left : SM :=
    (mRet (mOp gLt (mOp gIx (mVar 1) (mC (.int 1))) (mOp gIx (mVar 0) (mC (.int 1)))))
noncomputable def m_stands_left : List D → Option (D × Bool) := fnM 2 0 b_stands_left
noncomputable def b_many_of : SM :=
    (mSeq (mIfS (mTest (mOp gIs (mVar 0) (mC .none)))
    (mRet (mC (.int 0)))
    mPass)
    (mRet (mOp gIx (mVar 0) (mC (.int 3)))))
noncomputable def m_many_of : List D → Option (D × Bool) := fnM 1 0 b_many_of
noncomputable def b_tree_of : SM :=
    (mRet (mTup (mCons (mVar 0) (mCons (mVar 1) (mCons (mVar 2) (mCons (mOp gAdd (mOp gAdd (mCall m_many_of (mCons (mVar 0) mNil)) (mC (.int 1))) (mCall m_many_of (mCons (mVar 2) mNil))) mNil))))))
noncomputable def m_tree_of : List D → Option (D × Bool) := fnM 3 0 b_tree_of
noncomputable def b_with_side : SM :=
    (mSeq (mIfS (mTest (mCall m_stands_left (mCons (mVar 0) (mCons (mVar 1) mNil))))
    (mRet (mCall m_tree_of (mCons (mVar 1) (mCons (mOp gIx (mVar 0) (mC (.int 1))) (mCons (mOp gIx (mVar 0) (mC (.int 2))) mNil)))))
    mPass)
    (mRet (mCall m_tree_of (mCons (mOp gIx (mVar 0) (mC (.int 0))) (mCons (mOp gIx (mVar 0) (mC (.int 1))) (mCons (mVar 1) mNil))))))
noncomputable def m_with_side : List D → Option (D × Bool) := fnM 2 0 b_with_side
noncomputable def lb1_hung_in : SM :=
    (mAsg 2 (mCall m_with_side (mCons (mVar 3) (mCons (mVar 2) mNil))))
noncomputable def b_hung_in : SM :=
    (mSeq (mAsg 2 (mVar 1))
    (mSeq (mFor (mFoV (mCons (mVar 0) mNil)) (mgN 3)
    lb1_hung_in)
    (mRet (mVar 2))))
noncomputable def m_hung_in : List D → Option (D × Bool) := fnM 2 2 b_hung_in
noncomputable def b_lifted : SM :=
    (mSeq (mIfS (mTest (mCall m_stands_left (mCons (mVar 0) (mCons (mVar 1) mNil))))
    (mRet (mCall m_tree_of (mCons (mOp gIx (mVar 1) (mC (.int 0))) (mCons (mOp gIx (mVar 1) (mC (.int 1))) (mCons (mCall m_tree_of (mCons (mOp gIx (mVar 1) (mC (.int 2))) (mCons (mOp gIx (mVar 0) (mC (.int 1))) (mCons (mOp gIx (mVar 0) (mC (.int 2))) mNil)))) mNil)))))
    mPass)
    (mRet (mCall m_tree_of (mCons (mCall m_tree_of (mCons (mOp gIx (mVar 0) (mC (.int 0))) (mCons (mOp gIx (mVar 0) (mC (.int 1))) (mCons (mOp gIx (mVar 1) (mC (.int 0))) mNil)))) (mCons (mOp gIx (mVar 1) (mC (.int 1))) (mCons (mOp gIx (mVar 1) (mC (.int 2))) mNil))))))
noncomputable def m_lifted : List D → Option (D × Bool) := fnM 2 0 b_lifted
noncomputable def b_bent : SM :=
    (mSeq (mAsg 3 (mCall m_lifted (mCons (mVar 1) (mCons (mVar 2) mNil))))
    (mRet (mCall m_lifted (mCons (mCall m_with_side (mCons (mVar 0) (mCons (mVar 3) mNil))) (mCons (mVar 3) mNil)))))
noncomputable def m_bent : List D → Option (D × Bool) := fnM 3 1 b_bent
noncomputable def b_straight : SM :=
    (mRet (mCall m_lifted (mCons (mCall m_lifted (mCons (mVar 0) (mCons (mVar 1) mNil))) (mCons (mVar 2) mNil))))
noncomputable def m_straight : List D → Option (D × Bool) := fnM 3 0 b_straight
noncomputable def b_turn_key : SM :=
    (mSeq (mAsg 2 (mCall m_parts_to (mCons (mVar 0) (mCons (mVar 1) mNil))))
    (mSeq (mIfS (mOr (mTest (mOp gEq (mCB gLen (mCons (mVar 2) mNil)) (mC (.int 0)))) (mTest (mOp gNe (mOp gIx (mOp gIx (mVar 2) (mUn gNeg (mC (.int 1)))) (mC (.int 1))) (mVar 1))))
    mNever
    mPass)
    (mSeq (mIfS (mTest (mOp gEq (mCB gLen (mCons (mVar 2) mNil)) (mC (.int 1))))
    mNever
    mPass)
    (mSeq (mIfS (mTest (mOp gEq (mCB gLen (mCons (mVar 2) mNil)) (mC (.int 2))))
    (mRet (mTup (mCons (mC (.str "single")) (mCons (mCall m_lifted (mCons (mOp gIx (mVar 2) (mC (.int 0))) (mCons (mOp gIx (mVar 2) (mC (.int 1))) mNil))) mNil))))
    mPass)
    (mSeq (mIfS (mTest (mOp gEq (mCall m_stands_left (mCons (mOp gIx (mVar 2) (mUn gNeg (mC (.int 2)))) (mCons (mOp gIx (mVar 2) (mUn gNeg (mC (.int 1)))) mNil))) (mCall m_stands_left (mCons (mOp gIx (mVar 2) (mUn gNeg (mC (.int 3)))) (mCons (mOp gIx (mVar 2) (mUn gNeg (mC (.int 2)))) mNil)))))
    (mRet (mTup (mCons (mC (.str "straight")) (mCons (mCall m_hung_in (mCons (mSl gSl (mVar 2) mNoPart (mPart (mUn gNeg (mC (.int 3))))) (mCons (mCall m_straight (mCons (mOp gIx (mVar 2) (mUn gNeg (mC (.int 3)))) (mCons (mOp gIx (mVar 2) (mUn gNeg (mC (.int 2)))) (mCons (mOp gIx (mVar 2) (mUn gNeg (mC (.int 1)))) mNil)))) mNil))) mNil))))
    mPass)
    (mRet (mTup (mCons (mC (.str "bent")) (mCons (mCall m_hung_in (mCons (mSl gSl (mVar 2) mNoPart (mPart (mUn gNeg (mC (.int 3))))) (mCons (mCall m_bent (mCons (mOp gIx (mVar 2) (mUn gNeg (mC (.int 3)))) (mCons (mOp gIx (mVar 2) (mUn gNeg (mC (.int 2)))) (mCons (mOp gIx (mVar 2) (mUn gNeg (mC (.int 1)))) mNil)))) mNil))) mNil)))))))))
noncomputable def m_turn_key : List D → Option (D × Bool) := fnM 2 1 b_turn_key
noncomputable def wc1_turn_up : Rho → Option (Bool × Rho) :=
    (mTest (mOp gNe (mOp gIx (mVar 3) (mC (.int 1))) (mVar 1)))
noncomputable def wb1_turn_up : SM :=
    (mSeq (mAsg 4 (mCall m_turn_key (mCons (mVar 3) (mCons (mVar 1) mNil))))
    (mSeq (mDrop (mMut 2 fAppend (mCons (mVar 4) mNil)))
    (mAsg 3 (mOp gIx (mVar 4) (mC (.int 1))))))
noncomputable def b_turn_up : SM :=
    (mSeq (mAsg 2 (mLst mNil))
    (mSeq (mAsg 3 (mVar 0))
    (mSeq (mWhile wc1_turn_up
    wb1_turn_up 1000000)
    (mRet (mTup (mCons (mVar 3) (mCons (mVar 2) mNil)))))))
noncomputable def m_turn_up : List D → Option (D × Bool) := fnM 2 3 b_turn_up
noncomputable def wc1_parts_of : Rho → Option (Bool × Rho) :=
    (mTest (mOp gGt (mCB gLen (mCons (mVar 2) mNil)) (mC (.int 0))))
noncomputable def wb1_parts_of : SM :=
    (mSeq (mAsg 3 (mMut0 2 fPop))
    (mIfS (mTest (mOp gIsNot (mVar 3) (mC .none)))
    (mSeq (mDrop (mMut 1 fAppend (mCons (mVar 3) mNil)))
    (mSeq (mDrop (mMut 2 fAppend (mCons (mOp gIx (mVar 3) (mC (.int 0))) mNil)))
    (mDrop (mMut 2 fAppend (mCons (mOp gIx (mVar 3) (mC (.int 2))) mNil)))))
    mPass))
noncomputable def b_parts_of : SM :=
    (mSeq (mAsg 1 (mLst mNil))
    (mSeq (mAsg 2 (mLst (mCons (mVar 0) mNil)))
    (mSeq (mWhile wc1_parts_of
    wb1_parts_of 1000000)
    (mRet (mVar 1)))))
noncomputable def m_parts_of : List D → Option (D × Bool) := fnM 1 3 b_parts_of
noncomputable def ce1_keys_of : PM :=
    (mOp gIx (mVar 0) (mC (.int 1)))
noncomputable def b_keys_of : SM :=
    (mRet (mCB gSorted (mCons (mLC [] (mItL (mCall m_parts_of (mCons (mVar 0) mNil))) mYes ce1_keys_of) mNil)))
noncomputable def m_keys_of : List D → Option (D × Bool) := fnM 1 0 b_keys_of
noncomputable def xb_tie_trees : EM :=
    (eSeq (eLift (mIfS (mTest (mOp gIs (mVar 0) (mC .none)))
    (mRet (mTup (mCons (mVar 1) (mCons (mLst mNil) mNil))))
    mPass))
    (eSeq (eLift (mIfS (mTest (mOp gIs (mVar 1) (mC .none)))
    (mRet (mTup (mCons (mVar 0) (mCons (mLst mNil) mNil))))
    mPass))
    (eSeq (eLift (mAsg 2 (mOp gIx (mCall m_keys_of (mCons (mVar 0) mNil)) (mUn gNeg (mC (.int 1))))))
    (eSeq (eIf (mTest (mOp gGe (mVar 2) (mOp gIx (mCall m_keys_of (mCons (mVar 1) mNil)) (mC (.int 0)))))
    (eRaise "Mixed" (mCons (mC (.str "not all keys of the first are below all of the second")) mNil))
    (eLift mPass))
    (eSeq (eLift (mAsg 3 (mCall m_turn_up (mCons (mVar 0) (mCons (mVar 2) mNil)))))
    (eSeq (eLift (mAsg 4 (mOp gIx (mVar 3) (mC (.int 0)))))
    (eLift (mRet (mTup (mCons (mCall m_tree_of (mCons (mOp gIx (mVar 4) (mC (.int 0))) (mCons (mOp gIx (mVar 4) (mC (.int 1))) (mCons (mVar 1) mNil)))) (mCons (mOp gIx (mVar 3) (mC (.int 1))) mNil)))))))))))
noncomputable def x_tie_trees : List D → Option ((D × Bool) ⊕ Str) := fnX 2 3 xb_tie_trees
noncomputable def b_tie_trees : SM :=
    (mSeq (mIfS (mTest (mOp gIs (mVar 0) (mC .none)))
    (mRet (mTup (mCons (mVar 1) (mCons (mLst mNil) mNil))))
    mPass)
    (mSeq (mIfS (mTest (mOp gIs (mVar 1) (mC .none)))
    (mRet (mTup (mCons (mVar 0) (mCons (mLst mNil) mNil))))
    mPass)
    (mSeq (mAsg 2 (mOp gIx (mCall m_keys_of (mCons (mVar 0) mNil)) (mUn gNeg (mC (.int 1)))))
    (mSeq (mIfS (mTest (mOp gGe (mVar 2) (mOp gIx (mCall m_keys_of (mCons (mVar 1) mNil)) (mC (.int 0)))))
    mNever
    mPass)
    (mSeq (mAsg 3 (mCall m_turn_up (mCons (mVar 0) (mCons (mVar 2) mNil))))
    (mSeq (mAsg 4 (mOp gIx (mVar 3) (mC (.int 0))))
    (mRet (mTup (mCons (mCall m_tree_of (mCons (mOp gIx (mVar 4) (mC (.int 0))) (mCons (mOp gIx (mVar 4) (mC (.int 1))) (mCons (mVar 1) mNil)))) (mCons (mOp gIx (mVar 3) (mC (.int 1))) mNil))))))))))
noncomputable def m_tie_trees : List D → Option (D × Bool) := fnM 2 3 b_tie_trees
noncomputable def su1_law_refused : Str → Option SM :=
    fun c => if c = "Mixed" then some ((mSeq (mAsg 2 (mLst (mCons (mIsiX 3 true) (mCons (mIsiX 3 true) mNil))))
    (mSeq (mAsg 4 (mIsiX 3 false))
    (mDrop (mMut 2 fAppend (mCons (mOrV (mVar 4) (mIsiX 3 false)) mNil)))))) else none
noncomputable def b_law_refused : SM :=
    (mSeq (mAsg 2 (mLst mNil))
    (mSeq (mTryX x_tie_trees (mCons (mVar 0) (mCons (mVar 1) mNil)) 3 su1_law_refused)
    (mRet (mVar 2))))
noncomputable def m_law_refused : List D → Option (D × Bool) := fnM 2 3 b_law_refused
noncomputable def b_law_mixed_up : SM :=
    (mSeq (mIfS (mOr (mTest (mOp gIs (mVar 0) (mC .none))) (mTest (mOp gIs (mVar 1) (mC .none))))
    (mRet (mOp gEq (mCall m_law_refused (mCons (mVar 1) (mCons (mVar 0) mNil))) (mLst mNil)))
    mPass)
    (mRet (mOp gEq (mCall m_law_refused (mCons (mVar 1) (mCons (mVar 0) mNil))) (mLst (mCons (mC (.bool true)) (mCons (mC (.bool true)) (mCons (mC (.bool false)) mNil)))))))
noncomputable def m_law_mixed_up : List D → Option (D × Bool) := fnM 2 0 b_law_mixed_up
noncomputable def ct1_law_never_joined : Rho → Option (Bool × Rho) :=
    (mTest (mOp gGe (mVar 0) (mOp gIx (mVar 1) (mOp gMod (mVar 2) (mCB gLen (mCons (mVar 1) mNil))))))
noncomputable def ce1_law_never_joined : PM :=
    (mVar 0)
noncomputable def ct2_law_never_joined : Rho → Option (Bool × Rho) :=
    (mTest (mOp gLe (mVar 0) (mOp gIx (mVar 1) (mOp gMod (mVar 2) (mCB gLen (mCons (mVar 1) mNil))))))
noncomputable def ce2_law_never_joined : PM :=
    (mVar 0)
noncomputable def ct3_law_never_joined : Rho → Option (Bool × Rho) :=
    (mTest (mOp gIn (mVar 0) (mSl3 gSl3 (mVar 1) (mPart (mC (.int 1))) mNoPart (mPart (mC (.int 2))))))
noncomputable def ce3_law_never_joined : PM :=
    (mVar 0)
noncomputable def ct4_law_never_joined : Rho → Option (Bool × Rho) :=
    (mTest (mOp gIn (mVar 0) (mSl3 gSl3 (mVar 1) (mPart (mC (.int 0))) mNoPart (mPart (mC (.int 2))))))
noncomputable def ce4_law_never_joined : PM :=
    (mVar 0)
noncomputable def b_law_never_joined : SM :=
    (mSeq (mAsg 3 (mLst (mCons (mLC [("_law_keys_here", 0)] (mItL (mVar 1)) ct4_law_never_joined ce4_law_never_joined) (mCons (mLC [("_law_keys_here", 0)] (mItL (mVar 1)) ct3_law_never_joined ce3_law_never_joined) mNil))))
    (mSeq (mAsg 4 (mCall m_law_of (mCons (mOp gIx (mVar 3) (mC (.int 0))) mNil)))
    (mSeq (mAsg 5 (mCall m_law_of (mCons (mOp gIx (mVar 3) (mC (.int 1))) mNil)))
    (mSeq (mIfS (mAnd (mTest (mOp gGt (mCB gLen (mCons (mVar 0) mNil)) (mC (.int 2)))) (mNot (mAnd (mTest (mCall m_law_mixed_up (mCons (mVar 4) (mCons (mVar 5) mNil)))) (mTest (mCall m_law_mixed_up (mCons (mVar 5) (mCons (mVar 4) mNil)))))))
    (mRet (mC (.bool false)))
    mPass)
    (mSeq (mIfS (mOr (mTest (mOp gEq (mCB gLen (mCons (mVar 0) mNil)) (mC (.int 0)))) (mTest (mOp gGt (mCB gLen (mCons (mVar 0) mNil)) (mC (.int 59)))))
    (mRet (mC (.bool true)))
    mPass)
    (mSeq (mAsg 6 (mCall m_law_of (mCons (mLC [("_law_keys_here", 0), ("_law_at", 2)] (mItL (mVar 1)) ct2_law_never_joined ce2_law_never_joined) mNil)))
    (mSeq (mAsg 7 (mCall m_law_of (mCons (mLC [("_law_keys_here", 0), ("_law_at", 2)] (mItL (mVar 1)) ct1_law_never_joined ce1_law_never_joined) mNil)))
    (mRet (mOp gEq (mCall m_law_refused (mCons (mVar 6) (mCons (mVar 7) mNil))) (mLst (mCons (mC (.bool true)) (mCons (mC (.bool true)) (mCons (mC (.bool false)) mNil)))))))))))))
noncomputable def m_law_never_joined : List D → Option (D × Bool) := fnM 3 5 b_law_never_joined
noncomputable def ce1_way_to : PM :=
    (mOp gIx (mVar 0) (mC (.int 1)))
noncomputable def b_way_to : SM :=
    (mRet (mLC [] (mItL (mCall m_parts_to (mCons (mVar 0) (mCons (mVar 1) mNil)))) mYes ce1_way_to))
noncomputable def m_way_to : List D → Option (D × Bool) := fnM 2 0 b_way_to
noncomputable def b_ask_tree : SM :=
    (mSeq (mIfS (mTest (mOp gIs (mVar 0) (mC .none)))
    (mRet (mTup (mCons (mC (.bool false)) (mCons (mC .none) (mCons (mLst mNil) mNil)))))
    mPass)
    (mSeq (mAsg 2 (mCall m_turn_up (mCons (mVar 0) (mCons (mOp gIx (mCall m_way_to (mCons (mVar 0) (mCons (mVar 1) mNil))) (mUn gNeg (mC (.int 1)))) mNil))))
    (mRet (mTup (mCons (mOp gEq (mOp gIx (mOp gIx (mVar 2) (mC (.int 0))) (mC (.int 1))) (mVar 1)) (mCons (mOp gIx (mVar 2) (mC (.int 0))) (mCons (mOp gIx (mVar 2) (mC (.int 1))) mNil)))))))
noncomputable def m_ask_tree : List D → Option (D × Bool) := fnM 2 1 b_ask_tree
noncomputable def b_parted : SM :=
    (mSeq (mIfS (mTest (mOp gIs (mVar 0) (mC .none)))
    (mRet (mTup (mCons (mC .none) (mCons (mC .none) mNil))))
    mPass)
    (mSeq (mIfS (mTest (mOp gLt (mOp gIx (mVar 0) (mC (.int 1))) (mVar 1)))
    (mRet (mTup (mCons (mCall m_tree_of (mCons (mOp gIx (mVar 0) (mC (.int 0))) (mCons (mOp gIx (mVar 0) (mC (.int 1))) (mCons (mC .none) mNil)))) (mCons (mOp gIx (mVar 0) (mC (.int 2))) mNil))))
    mPass)
    (mRet (mTup (mCons (mOp gIx (mVar 0) (mC (.int 0))) (mCons (mCall m_tree_of (mCons (mC .none) (mCons (mOp gIx (mVar 0) (mC (.int 1))) (mCons (mOp gIx (mVar 0) (mC (.int 2))) mNil)))) mNil))))))
noncomputable def m_parted : List D → Option (D × Bool) := fnM 2 0 b_parted
noncomputable def b_cut_tree : SM :=
    (mSeq (mAsg 2 (mCall m_ask_tree (mCons (mVar 0) (mCons (mVar 1) mNil))))
    (mSeq (mAsg 3 (mCall m_parted (mCons (mOp gIx (mVar 2) (mC (.int 1))) (mCons (mVar 1) mNil))))
    (mRet (mTup (mCons (mOp gIx (mVar 3) (mC (.int 0))) (mCons (mOp gIx (mVar 3) (mC (.int 1))) (mCons (mOp gIx (mVar 2) (mC (.int 2))) mNil)))))))
noncomputable def m_cut_tree : List D → Option (D × Bool) := fnM 2 2 b_cut_tree
noncomputable def lb1_law_node : SM :=
    (mIfS (mTest (mOp gIsNot (mVar 4) (mC .none)))
    (mAsg 3 (mOp gAdd (mVar 3) (mOp gIx (mVar 4) (mC (.int 3)))))
    mPass)
noncomputable def b_law_node : SM :=
    (mSeq (mAsg 3 (mC (.int 1)))
    (mSeq (mFor (mFoL (mLst (mCons (mVar 0) (mCons (mVar 2) mNil)))) (mgN 4)
    lb1_law_node)
    (mRet (mTup (mCons (mVar 0) (mCons (mVar 1) (mCons (mVar 2) (mCons (mVar 3) mNil))))))))
noncomputable def m_law_node : List D → Option (D × Bool) := fnM 3 2 b_law_node
noncomputable def b_law_parted : SM :=
    (mSeq (mIfS (mTest (mOp gIs (mVar 0) (mC .none)))
    (mRet (mTup (mCons (mC .none) (mCons (mC .none) mNil))))
    mPass)
    (mSeq (mIfS (mTest (mOp gLt (mOp gIx (mVar 0) (mC (.int 1))) (mVar 1)))
    (mRet (mTup (mCons (mCall m_law_node (mCons (mOp gIx (mVar 0) (mC (.int 0))) (mCons (mOp gIx (mVar 0) (mC (.int 1))) (mCons (mC .none) mNil)))) (mCons (mOp gIx (mVar 0) (mC (.int 2))) mNil))))
    mPass)
    (mRet (mTup (mCons (mOp gIx (mVar 0) (mC (.int 0))) (mCons (mCall m_law_node (mCons (mC .none) (mCons (mOp gIx (mVar 0) (mC (.int 1))) (mCons (mOp gIx (mVar 0) (mC (.int 2))) mNil)))) mNil))))))
noncomputable def m_law_parted : List D → Option (D × Bool) := fnM 2 0 b_law_parted
noncomputable def b_law_paid : SM :=
    (mRet (mOp gLe (mOp gAdd (mCB gLen (mCons (mVar 1) mNil)) (mVar 2)) (mOp gAdd (mVar 0) (mVar 3))))
noncomputable def m_law_paid : List D → Option (D × Bool) := fnM 4 0 b_law_paid
noncomputable def b_law_whole : SM :=
    (mRet (mAndV (mIsi "int" (mVar 0)) (mNotV (mIsi "bool" (mVar 0)))))
noncomputable def m_law_whole : List D → Option (D × Bool) := fnM 1 0 b_law_whole
noncomputable def b_law_alike (self : List D → Option (D × Bool)) : SM :=
    (mSeq (mIfS (mOr (mTest (mOp gIs (mVar 0) (mC .none))) (mTest (mOp gIs (mVar 1) (mC .none))))
    (mRet (mAndV (mOp gIs (mVar 0) (mC .none)) (mOp gIs (mVar 1) (mC .none))))
    mPass)
    (mSeq (mIfS (mOr (mNot (mTest (mIsi "tuple" (mVar 0)))) (mTest (mOp gNe (mCB gLen (mCons (mVar 0) mNil)) (mC (.int 4)))))
    (mRet (mC (.bool false)))
    mPass)
    (mSeq (mIfS (mOr (mNot (mTest (mCall m_law_whole (mCons (mOp gIx (mVar 0) (mC (.int 1))) mNil)))) (mOr (mNot (mTest (mCall m_law_whole (mCons (mOp gIx (mVar 0) (mC (.int 3))) mNil)))) (mOr (mTest (mOp gNe (mOp gIx (mVar 0) (mC (.int 1))) (mOp gIx (mVar 1) (mC (.int 1))))) (mTest (mOp gNe (mOp gIx (mVar 0) (mC (.int 3))) (mOp gIx (mVar 1) (mC (.int 3))))))))
    (mRet (mC (.bool false)))
    mPass)
    (mRet (mAndV (mCall self (mCons (mOp gIx (mVar 0) (mC (.int 0))) (mCons (mOp gIx (mVar 1) (mC (.int 0))) mNil))) (mCall self (mCons (mOp gIx (mVar 0) (mC (.int 2))) (mCons (mOp gIx (mVar 1) (mC (.int 2))) mNil))))))))
noncomputable def m_law_alike : Nat → List D → Option (D × Bool)
  | 0 => fun _ => none
  | n + 1 => fnM 2 0 (b_law_alike (m_law_alike n))
noncomputable def b_law_credit (self : List D → Option (D × Bool)) : SM :=
    (mSeq (mIfS (mTest (mOp gIs (mVar 0) (mC .none)))
    (mRet (mC (.int 0)))
    mPass)
    (mRet (mOp gAdd (mOp gAdd (mCall self (mCons (mOp gIx (mVar 0) (mC (.int 0))) mNil)) (mBM0 gBits (mOp gIx (mVar 0) (mC (.int 3))))) (mCall self (mCons (mOp gIx (mVar 0) (mC (.int 2))) mNil)))))
noncomputable def m_law_credit : Nat → List D → Option (D × Bool)
  | 0 => fun _ => none
  | n + 1 => fnM 1 0 (b_law_credit (m_law_credit n))
noncomputable def b_law_many : SM :=
    (mSeq (mIfS (mTest (mOp gIs (mVar 0) (mC .none)))
    (mRet (mC (.int 0)))
    mPass)
    (mRet (mOp gIx (mVar 0) (mC (.int 3)))))
noncomputable def m_law_many : List D → Option (D × Bool) := fnM 1 0 b_law_many
noncomputable def b_law_cut_right : SM :=
    (mSeq (mAsg 2 (mCall m_cut_tree (mCons (mVar 0) (mCons (mVar 1) mNil))))
    (mSeq (mIfS (mOr (mNot (mTest (mIsi "tuple" (mVar 2)))) (mTest (mOp gNe (mCB gLen (mCons (mVar 2) mNil)) (mC (.int 3)))))
    (mRet (mC .none))
    mPass)
    (mSeq (mAsgG (mCall m_ask_tree (mCons (mVar 0) (mCons (mVar 1) mNil))) (mgU 3 (mgsCons (mgN 3) (mgsCons (mgN 4) (mgsCons (mgN 5) mgsNil)))))
    (mSeq (mAsgG (mCall m_law_parted (mCons (mVar 4) (mCons (mVar 1) mNil))) (mgU 2 (mgsCons (mgN 6) (mgsCons (mgN 7) mgsNil))))
    (mSeq (mIfS (mOr (mTest (mOp gNe (mOp gIx (mVar 2) (mC (.int 2))) (mVar 5))) (mOr (mNot (mTest (mCall (m_law_alike 64) (mCons (mOp gIx (mVar 2) (mC (.int 0))) (mCons (mVar 6) mNil))))) (mNot (mTest (mCall (m_law_alike 64) (mCons (mOp gIx (mVar 2) (mC (.int 1))) (mCons (mVar 7) mNil)))))))
    (mRet (mC .none))
    mPass)
    (mSeq (mAsg 8 (mCB gMax (mCons (mC (.int 0)) (mCons (mOp gSub (mOp gMul (mC (.int 3)) (mBM0 gBits (mCall m_law_many (mCons (mVar 0) mNil)))) (mC (.int 2))) mNil))))
    (mSeq (mIfS (mNot (mTest (mCall m_law_paid (mCons (mCall (m_law_credit 64) (mCons (mVar 0) mNil)) (mCons (mVar 5) (mCons (mOp gAdd (mCall (m_law_credit 64) (mCons (mVar 6) mNil)) (mCall (m_law_credit 64) (mCons (mVar 7) mNil))) (mCons (mVar 8) mNil)))))))
    (mRet (mC .none))
    mPass)
    (mRet (mTup (mCons (mVar 6) (mCons (mVar 7) mNil)))))))))))
noncomputable def m_law_cut_right : List D → Option (D × Bool) := fnM 2 7 b_law_cut_right
noncomputable def wc1_law_line : Rho → Option (Bool × Rho) :=
    (mTest (mOp gNe (mOp gIx (mOp gIx (mVar 2) (mUn gNeg (mC (.int 1)))) (mC (.int 1))) (mVar 1)))
noncomputable def wb1_law_line : SM :=
    (mDrop (mMut 2 fAppend (mCons (mOp gIx (mOp gIx (mVar 2) (mUn gNeg (mC (.int 1)))) (mOp gMul (mC (.int 2)) (mCB gInt (mCons (mOp gGt (mVar 1) (mOp gIx (mOp gIx (mVar 2) (mUn gNeg (mC (.int 1)))) (mC (.int 1)))) mNil)))) mNil)))
noncomputable def b_law_line : SM :=
    (mSeq (mAsg 2 (mLst (mCons (mVar 0) mNil)))
    (mSeq (mWhile wc1_law_line
    wb1_law_line 1000000)
    (mRet (mVar 2))))
noncomputable def m_law_line : List D → Option (D × Bool) := fnM 2 1 b_law_line
noncomputable def b_law_pieces (self : List D → Option (D × Bool)) : SM :=
    (mSeq (mIfS (mOr (mTest (mOp gIs (mVar 0) (mC .none))) (mTest (mOp gNotIn (mOp gIx (mVar 0) (mC (.int 1))) (mVar 1))))
    (mRet (mLst (mCons (mVar 0) mNil)))
    mPass)
    (mRet (mOp gAdd (mCall self (mCons (mOp gIx (mVar 0) (mC (.int 0))) (mCons (mVar 1) mNil))) (mCall self (mCons (mOp gIx (mVar 0) (mC (.int 2))) (mCons (mVar 1) mNil))))))
noncomputable def m_law_pieces : Nat → List D → Option (D × Bool)
  | 0 => fun _ => none
  | n + 1 => fnM 2 0 (b_law_pieces (m_law_pieces n))
noncomputable def b_law_double : SM :=
    (mSeq (mAsgG (mCall (m_law_pieces 12) (mCons (mVar 0) (mCons (mVar 1) mNil))) (mgU 4 (mgsCons (mgN 3) (mgsCons (mgN 4) (mgsCons (mgN 5) (mgsCons (mgN 6) mgsNil))))))
    (mSeq (mAsgG (mVar 1) (mgU 3 (mgsCons (mgN 7) (mgsCons (mgN 8) (mgsCons (mgN 9) mgsNil)))))
    (mSeq (mIfS (mTest (mOp gEq (mVar 2) (mVar 8)))
    (mRet (mTup (mCons (mC (.str "bent")) (mCons (mCall m_law_node (mCons (mCall m_law_node (mCons (mVar 3) (mCons (mVar 7) (mCons (mVar 4) mNil)))) (mCons (mVar 8) (mCons (mCall m_law_node (mCons (mVar 5) (mCons (mVar 9) (mCons (mVar 6) mNil)))) mNil)))) mNil))))
    mPass)
    (mSeq (mIfS (mTest (mOp gEq (mVar 2) (mVar 7)))
    (mRet (mTup (mCons (mC (.str "straight")) (mCons (mCall m_law_node (mCons (mVar 3) (mCons (mVar 7) (mCons (mCall m_law_node (mCons (mVar 4) (mCons (mVar 8) (mCons (mCall m_law_node (mCons (mVar 5) (mCons (mVar 9) (mCons (mVar 6) mNil)))) mNil)))) mNil)))) mNil))))
    mPass)
    (mRet (mTup (mCons (mC (.str "straight")) (mCons (mCall m_law_node (mCons (mCall m_law_node (mCons (mCall m_law_node (mCons (mVar 3) (mCons (mVar 7) (mCons (mVar 4) mNil)))) (mCons (mVar 8) (mCons (mVar 5) mNil)))) (mCons (mVar 9) (mCons (mVar 6) mNil)))) mNil))))))))
noncomputable def m_law_double : List D → Option (D × Bool) := fnM 3 7 b_law_double
noncomputable def b_law_single : SM :=
    (mSeq (mAsgG (mCB gSorted (mCons (mLst (mCons (mOp gIx (mVar 0) (mC (.int 1))) (mCons (mVar 1) mNil))) mNil)) (mgU 2 (mgsCons (mgN 2) (mgsCons (mgN 3) mgsNil))))
    (mSeq (mAsg 4 (mCall (m_law_pieces 12) (mCons (mVar 0) (mCons (mLst (mCons (mVar 2) (mCons (mVar 3) mNil))) mNil))))
    (mSeq (mIfS (mTest (mOp gEq (mVar 1) (mVar 2)))
    (mRet (mCall m_law_node (mCons (mOp gIx (mVar 4) (mC (.int 0))) (mCons (mVar 2) (mCons (mCall m_law_node (mCons (mOp gIx (mVar 4) (mC (.int 1))) (mCons (mVar 3) (mCons (mOp gIx (mVar 4) (mC (.int 2))) mNil)))) mNil)))))
    mPass)
    (mRet (mCall m_law_node (mCons (mCall m_law_node (mCons (mOp gIx (mVar 4) (mC (.int 0))) (mCons (mVar 2) (mCons (mOp gIx (mVar 4) (mC (.int 1))) mNil)))) (mCons (mVar 3) (mCons (mOp gIx (mVar 4) (mC (.int 2))) mNil))))))))
noncomputable def m_law_single : List D → Option (D × Bool) := fnM 2 3 b_law_single
noncomputable def lb1_law_turned : SM :=
    (mIfS (mTest (mOp gLt (mVar 1) (mOp gIx (mVar 5) (mC (.int 1)))))
    (mAsg 4 (mCall m_law_node (mCons (mVar 4) (mCons (mOp gIx (mVar 5) (mC (.int 1))) (mCons (mOp gIx (mVar 5) (mC (.int 2))) mNil)))))
    (mAsg 4 (mCall m_law_node (mCons (mOp gIx (mVar 5) (mC (.int 0))) (mCons (mOp gIx (mVar 5) (mC (.int 1))) (mCons (mVar 4) mNil))))))
noncomputable def ce1_law_turned : PM :=
    (mOp gIx (mVar 0) (mC (.int 1)))
noncomputable def b_law_turned : SM :=
    (mSeq (mAsg 2 (mCall m_law_line (mCons (mVar 0) (mCons (mVar 1) mNil))))
    (mSeq (mIfS (mTest (mOp gEq (mCB gLen (mCons (mVar 2) mNil)) (mC (.int 2))))
    (mRet (mTup (mCons (mC (.str "single")) (mCons (mCall m_law_single (mCons (mVar 0) (mCons (mVar 1) mNil))) mNil))))
    mPass)
    (mSeq (mAsgG (mCall m_law_double (mCons (mOp gIx (mVar 2) (mUn gNeg (mC (.int 3)))) (mCons (mCB gSorted (mCons (mLC [] (mItL (mSl gSl (mVar 2) (mPart (mUn gNeg (mC (.int 3)))) mNoPart)) mYes ce1_law_turned) mNil)) (mCons (mVar 1) mNil)))) (mgU 2 (mgsCons (mgN 3) (mgsCons (mgN 4) mgsNil))))
    (mSeq (mFor (mFoV (mCons (mSl gSl (mVar 2) mNoPart (mPart (mUn gNeg (mC (.int 3))))) mNil)) (mgN 5)
    lb1_law_turned)
    (mRet (mTup (mCons (mVar 3) (mCons (mVar 4) mNil))))))))
noncomputable def m_law_turned : List D → Option (D × Bool) := fnM 2 4 b_law_turned
noncomputable def lb1_law_trail : SM :=
    (mSeq (mIfS (mOr (mTest (mOp gEq (mOp gIx (mVar 3) (mC (.int 1))) (mVar 1))) (mOr (mNot (mTest (mIsi "tuple" (mVar 4)))) (mTest (mOp gNe (mCB gLen (mCons (mVar 4) mNil)) (mC (.int 2))))))
    (mRet (mC .none))
    mPass)
    (mSeq (mAsgG (mCall m_law_turned (mCons (mVar 3) (mCons (mVar 1) mNil))) (mgU 2 (mgsCons (mgN 5) (mgsCons (mgN 6) mgsNil))))
    (mSeq (mIfS (mOr (mTest (mOp gNe (mOp gIx (mVar 4) (mC (.int 0))) (mVar 5))) (mNot (mTest (mCall (m_law_alike 64) (mCons (mOp gIx (mVar 4) (mC (.int 1))) (mCons (mVar 6) mNil))))))
    (mRet (mC .none))
    mPass)
    (mAsg 3 (mVar 6)))))
noncomputable def b_law_trail : SM :=
    (mSeq (mIfS (mNot (mTest (mIsi "list" (mVar 2))))
    (mRet (mC .none))
    mPass)
    (mSeq (mAsg 3 (mVar 0))
    (mSeq (mFor (mFoL (mVar 2)) (mgN 4)
    lb1_law_trail)
    (mSeq (mIfS (mTest (mOp gNe (mOp gIx (mVar 3) (mC (.int 1))) (mVar 1)))
    (mRet (mC .none))
    mPass)
    (mRet (mVar 3))))))
noncomputable def m_law_trail : List D → Option (D × Bool) := fnM 3 4 b_law_trail
noncomputable def b_law_tied_right : SM :=
    (mSeq (mAsg 2 (mCall m_tie_trees (mCons (mVar 0) (mCons (mVar 1) mNil))))
    (mSeq (mIfS (mOr (mNot (mTest (mIsi "tuple" (mVar 2)))) (mTest (mOp gNe (mCB gLen (mCons (mVar 2) mNil)) (mC (.int 2)))))
    (mRet (mC .none))
    mPass)
    (mSeq (mAsg 3 (mVar 0))
    (mSeq (mIfS (mTest (mOp gIs (mVar 0) (mC .none)))
    (mAsg 3 (mVar 1))
    mPass)
    (mSeq (mAsg 4 (mC (.int 0)))
    (mSeq (mIfS (mAnd (mTest (mOp gIsNot (mVar 0) (mC .none))) (mTest (mOp gIsNot (mVar 1) (mC .none))))
    (mSeq (mAsg 5 (mCall m_law_trail (mCons (mVar 0) (mCons (mOp gIx (mCall (m_law_rising 64) (mCons (mVar 0) mNil)) (mUn gNeg (mC (.int 1)))) (mCons (mOp gIx (mVar 2) (mC (.int 1))) mNil)))))
    (mSeq (mIfS (mTest (mOp gIs (mVar 5) (mC .none)))
    (mRet (mC .none))
    mPass)
    (mSeq (mAsg 3 (mCall m_law_node (mCons (mOp gIx (mVar 5) (mC (.int 0))) (mCons (mOp gIx (mVar 5) (mC (.int 1))) (mCons (mVar 1) mNil)))))
    (mAsg 4 (mOp gSub (mOp gAdd (mOp gMul (mC (.int 2)) (mBM0 gBits (mOp gIx (mVar 0) (mC (.int 3))))) (mBM0 gBits (mOp gIx (mVar 3) (mC (.int 3))))) (mC (.int 2)))))))
    (mIfS (mTest (mOp gNe (mOp gIx (mVar 2) (mC (.int 1))) (mLst mNil)))
    (mRet (mC .none))
    mPass))
    (mSeq (mAsg 6 (mOp gAdd (mCall (m_law_credit 64) (mCons (mVar 0) mNil)) (mCall (m_law_credit 64) (mCons (mVar 1) mNil))))
    (mSeq (mIfS (mOr (mNot (mTest (mCall (m_law_alike 64) (mCons (mOp gIx (mVar 2) (mC (.int 0))) (mCons (mVar 3) mNil))))) (mNot (mTest (mCall m_law_paid (mCons (mVar 6) (mCons (mOp gIx (mVar 2) (mC (.int 1))) (mCons (mCall (m_law_credit 64) (mCons (mVar 3) mNil)) (mCons (mVar 4) mNil))))))))
    (mRet (mC .none))
    mPass)
    (mRet (mTup (mCons (mVar 3) mNil)))))))))))
noncomputable def m_law_tied_right : List D → Option (D × Bool) := fnM 2 5 b_law_tied_right
noncomputable def b_law_number : SM :=
    (mSeq (mIfS (mOr (mTest (mOp gEq (mOp gMod (mVar 0) (mC (.int 5))) (mC (.int 0)))) (mTest (mOp gEq (mCB gLen (mCons (mVar 1) mNil)) (mC (.int 0)))))
    (mRet (mOp gAdd (mOp gSub (mOp gMod (mOp gDiv (mVar 0) (mC (.int 5))) (mOp gSub (mOp gMul (mC (.int 2)) (mOp gPow (mC (.int 10)) (mC (.int 60)))) (mC (.int 1)))) (mOp gPow (mC (.int 10)) (mC (.int 60)))) (mC (.int 1))))
    mPass)
    (mSeq (mIfS (mTest (mOp gEq (mOp gMod (mVar 0) (mC (.int 5))) (mC (.int 1))))
    (mRet (mOp gSub (mOp gMod (mOp gDiv (mVar 0) (mC (.int 5))) (mC (.int 61))) (mC (.int 30))))
    mPass)
    (mSeq (mAsg 2 (mOp gIx (mVar 1) (mOp gMod (mOp gDiv (mVar 0) (mC (.int 15))) (mCB gLen (mCons (mVar 1) mNil)))))
    (mRet (mOp gAdd (mVar 2) (mOp gIx (mLst (mCons (mC (.int 0)) (mCons (mC (.int 0)) (mCons (mC (.int 1)) (mCons (mUn gNeg (mC (.int 1))) mNil))))) (mOp gMod (mOp gDiv (mVar 0) (mC (.int 5))) (mC (.int 4)))))))))
noncomputable def m_law_number : List D → Option (D × Bool) := fnM 2 1 b_law_number
noncomputable def lb1_law : SM :=
    (mSeq (mAsg 4 (mCall m_law_cut_right (mCons (mVar 1) (mCons (mCall m_law_number (mCons (mVar 3) (mCons (mVar 2) mNil))) mNil))))
    (mSeq (mIfS (mOr (mTest (mOp gIs (mVar 4) (mC .none))) (mNot (mTest (mCall m_law_mixed_up (mCons (mOp gIx (mVar 4) (mC (.int 0))) (mCons (mOp gIx (mVar 4) (mC (.int 1))) mNil))))))
    (mRet (mC (.bool false)))
    mPass)
    (mSeq (mAsg 5 (mCall m_law_tied_right (mCons (mOp gIx (mVar 4) (mC (.int 0))) (mCons (mOp gIx (mVar 4) (mC (.int 1))) mNil))))
    (mSeq (mIfS (mTest (mOp gIs (mVar 5) (mC .none)))
    (mRet (mC (.bool false)))
    mPass)
    (mAsg 1 (mOp gIx (mVar 5) (mC (.int 0))))))))
noncomputable def b_law : SM :=
    (mSeq (mAsg 1 (mCall m_law_grown (mCons (mVar 0) mNil)))
    (mSeq (mAsg 2 (mCall (m_law_rising 64) (mCons (mVar 1) mNil)))
    (mSeq (mFor (mFoL (mSl gSl (mVar 0) (mPart (mC (.int 3))) (mPart (mC (.int 11))))) (mgN 3)
    lb1_law)
    (mSeq (mAsg 6 (mCall m_law_keys (mCons (mCall m_law_cell_at (mCons (mVar 0) (mCons (mC (.int 1)) mNil))) (mCons (mCall m_law_order (mCons (mCall m_law_cell_at (mCons (mVar 0) (mCons (mC (.int 0)) mNil))) (mCons (mCall m_law_cell_at (mCons (mVar 0) (mCons (mC (.int 2)) mNil))) mNil))) mNil))))
    (mRet (mCall m_law_never_joined (mCons (mVar 2) (mCons (mVar 6) (mCons (mCall m_law_cell_at (mCons (mVar 0) (mCons (mC (.int 2)) mNil))) mNil)))))))))
noncomputable def m_law : List D → Option (D × Bool) := fnM 1 6 b_law
end K64
set_option Elab.async false
set_option linter.all false
set_option maxRecDepth 100000
namespace K64
open PySem L2 Mir Tree
def cell (ns : List Int) (k : Nat) : Int := ns.getD k 0
theorem cell_at (ns : List Int) (k : Nat) : m_law_cell_at [.list (ns.map .int), .int k] = some (.int (cell ns k), false) := by
  have ll := gLen_ints ns
  by_cases h : k < ns.length
  · have c : (k : Int) < (ns.length : Int) := Int.ofNat_lt.mpr h
    have g : gIx (.list (ns.map .int)) (.int (k : Int)) = some (.int (cell ns k), false) := by
      show (L2.atI (ns.map PyData.int) (k : Int)).map (fun d => (d, false)) = _
      unfold cell
      rw [Mir.atI_nat, List.getElem?_map, List.getElem?_eq_getElem h, List.getD_eq_getElem?_getD, List.getElem?_eq_getElem h]
      rfl
    generalize (k : Int) = kk at *
    generalize (ns.length : Int) = n at *
    generalize PyData.list (ns.map .int) = S at *
    exact fn_of (o := .rt (.int (cell ns k), .fz) [.fz S, .fz (.int kk)]) rfl (seq_rt (if_t (tstB (be_lt (ie_var rfl) (cb_ev (rs := [(S, .fz)]) (res := (.int n, false)) rfl ll)) (decide_eq_true c)) (ret_eq (op_ev (r := (.int kk, .fz)) (res := (.int (cell ns k), false)) (sv_fz (var_fz rfl)) (sv_fz (var_fz rfl)) g)))) rfl
  · have c : ¬ (k : Int) < (ns.length : Int) := fun z => h (Int.ofNat_lt.mp z)
    have e : cell ns k = 0 := by
      unfold cell
      rw [List.getD_eq_getElem?_getD, List.getElem?_eq_none (Nat.le_of_not_lt h)]
      rfl
    rw [e]
    generalize (k : Int) = kk at *
    generalize (ns.length : Int) = n at *
    generalize PyData.list (ns.map .int) = S at *
    exact fn_of (o := .rt (.int 0, .fz) [.fz S, .fz (.int kk)]) rfl (seq_nx (ρ1 := [.fz S, .fz (.int kk)]) (if_f (tstB (be_lt (ie_var rfl) (cb_ev (rs := [(S, .fz)]) (res := (.int n, false)) rfl ll)) (decide_eq_false c)) rfl) (ret_eq ie_c)) rfl
theorem whole (i : Int) : m_law_whole [.int i] = some (.bool true, false) :=
  fn_of (o := .rt (.bool true, .fz) [.fz (.int i)]) rfl (ret_eq (be_and (u := true) (isi_ev (sv_fz (var_fz rfl)) (isi_int_int i)) (fun _ => be_not (u := false) (isi_ev (sv_fz (var_fz rfl)) (isi_int_bool i))) (fun h => by cases h))) rfl
theorem put_is : ∀ (n : Nat) (t : Tr) (x : Int), t.ht < n → m_law_put n [t.enc, .int x] = some ((t.ins x).enc, false)
  | 0, _, _, h => absurd h (Nat.not_lt_zero _)
  | n + 1, .nil, x, _ => by
    show fnM 2 4 (b_law_put (m_law_put n)) [.none, .int x] = some (.tuple [.none, .int x, .none, .int ((0 + 1 + 0 : Nat) : Int)], false)
    exact fn_of (o := .rt (.tuple [.none, .int x, .none, .int 1], .fz) [.fz .none, .fz (.int x), .no, .no, .no, .no]) rfl (seq_rt (if_t rfl (ret_eq (tup_ev (rs := [(.none, .fz), (.int x, .fz), (.none, .fz), (.int 1, .fz)]) rfl rfl (by simp))))) rfl
  | n + 1, .nd l k r, x, h => by
    have hl := put_is n l x (by simp only [Tr.ht] at h; omega)
    have hr := put_is n r x (by simp only [Tr.ht] at h; omega)
    have pl := Tr.pureR_enc (l.ins x)
    have pr := Tr.pureR_enc (r.ins x)
    have hd : ∀ {z : Int} {rest : SM} {o : Option Out}, rest [.fz (.tuple [l.enc, .int k, r.enc, .int z]), .fz (.int x), .fz l.enc, .fz (.int k), .fz r.enc, .fz (.int z)] = o → mSeq (mIfS (mTest (mOp gIs (mVar 0) (mC .none))) (mRet (mTup (mCons (mC .none) (mCons (mVar 1) (mCons (mC .none) (mCons (mC (.int 1)) mNil)))))) mPass) (mSeq (mAsgG (mVar 0) (mgU 4 (mgsCons (mgN 2) (mgsCons (mgN 3) (mgsCons (mgN 4) (mgsCons (mgN 5) mgsNil)))))) rest) [.fz (.tuple [l.enc, .int k, r.enc, .int z]), .fz (.int x), .no, .no, .no, .no] = o := fun h => seq_nx (if_f rfl rfl) (seq_nx (asgG_fz (var_fz rfl) rfl) h)
    by_cases c : x < k
    · rw [Tr.enc_lt c]
      show fnM 2 4 (b_law_put (m_law_put n)) [.tuple [l.enc, .int k, r.enc, .int ((l.size + 1 + r.size : Nat) : Int)], .int x] = _
      generalize ((l.size + 1 + r.size : Nat) : Int) = z
      generalize (l.ins x).enc = L' at *
      generalize l.enc = L at *
      generalize r.enc = R at *
      exact fn_of (o := .rt (.tuple [L', .int k, R, .int (z + 1)], .fz) [.fz (.tuple [L, .int k, R, .int z]), .fz (.int x), .fz L, .fz (.int k), .fz R, .fz (.int z)]) rfl (hd (seq_rt (if_t (tstB (be_lt (ie_var rfl) (ie_var rfl)) (decide_eq_true c)) (ret_eq (tup_ev (rs := [(L', .fz), (.int k, .fz), (R, .fz), (.int (z + 1), .fz)]) (cons_fz (sv_fz (call_pure (o := false) (rs := [(L, .fz), (.int x, .fz)]) rfl hl pl)) (consI (ie_var rfl) (cons_fz (sv_fz (var_fz rfl)) (consI (ie_add (ie_var rfl) ie_c) nil_ev)))) rfl (by simp)))))) rfl
    · rw [Tr.enc_ge c]
      show fnM 2 4 (b_law_put (m_law_put n)) [.tuple [l.enc, .int k, r.enc, .int ((l.size + 1 + r.size : Nat) : Int)], .int x] = _
      generalize ((l.size + 1 + r.size : Nat) : Int) = z
      generalize (r.ins x).enc = R' at *
      generalize l.enc = L at *
      generalize r.enc = R at *
      exact fn_of (o := .rt (.tuple [L, .int k, R', .int (z + 1)], .fz) [.fz (.tuple [L, .int k, R, .int z]), .fz (.int x), .fz L, .fz (.int k), .fz R, .fz (.int z)]) rfl (hd (seq_nx (if_f (tstB (be_lt (ie_var rfl) (ie_var rfl)) (decide_eq_false c)) rfl) (ret_eq (tup_ev (rs := [(L, .fz), (.int k, .fz), (R', .fz), (.int (z + 1), .fz)]) (cons_fz (sv_fz (var_fz rfl)) (consI (ie_var rfl) (cons_fz (sv_fz (call_pure (o := false) (rs := [(R, .fz), (.int x, .fz)]) rfl hr pr)) (consI (ie_add (ie_var rfl) ie_c) nil_ev)))) rfl (by simp))))) rfl
theorem halves_is : ∀ (n : Nat) (lo hi : Int), (hi - lo).toNat < 2 ^ n → (hi - lo).toNat ≤ 1000 → m_law_halves (n + 1) [.int lo, .int hi] = some (.list ((hv (n + 1) lo hi).map .int), true)
  | n, lo, hi, h, hz => by
    by_cases c : hi ≤ lo
    · have e : hv (n + 1) lo hi = [] := by unfold hv; rw [if_pos c]
      rw [e]
      show fnM 2 1 (b_law_halves (m_law_halves n)) [.int lo, .int hi] = _
      exact fn_of (o := .rt (.list [], .new) [.fz (.int lo), .fz (.int hi), .no]) rfl (seq_rt (if_t (tstB (be_ge (ie_var rfl) (ie_var rfl)) (decide_eq_true c)) (ret_eq (lst_ev rfl rfl (by simp))))) rfl
    · have e : hv (n + 1) lo hi = (lo + hi) / 2 :: (hv n lo ((lo + hi) / 2) ++ hv n ((lo + hi) / 2 + 1) hi) := by rw [hv.eq_def]; simp only [if_neg c]
      rw [e]
      match n, h with
      | 0, h => exact absurd h (by omega)
      | n + 1, h =>
        have hp : 2 ^ (n + 1) = 2 * 2 ^ n := by rw [Nat.pow_succ]; omega
        have h1 := halves_is n lo ((lo + hi) / 2) (by omega) (by omega)
        have h2 := halves_is n ((lo + hi) / 2 + 1) hi (by omega) (by omega)
        have l1 := hv_len (n + 1) lo ((lo + hi) / 2)
        have l2 := hv_len (n + 1) ((lo + hi) / 2 + 1) hi
        generalize hm : (lo + hi) / 2 = mid at h1 h2 l1 l2 ⊢
        generalize hA : hv (n + 1) lo mid = A at h1 l1 ⊢
        generalize hB : hv (n + 1) (mid + 1) hi = B at h2 l2 ⊢
        have q : L2.CDiv (lo + hi) 2 := ⟨by decide, by decide⟩
        show fnM 2 1 (b_law_halves (m_law_halves (n + 1))) [.int lo, .int hi] = _
        unfold b_law_halves
        clear e hA hB h hp
        refine fn_of (o := .rt (.list (([mid] ++ A ++ B).map .int), .new) [.fz (.int lo), .fz (.int hi), .fz (.int mid)]) rfl ?_ ?_
        · refine seq_nx (ρ1 := [.fz (.int lo), .fz (.int hi), .no]) (if_f (tstB (be_ge (ie_var rfl) (ie_var rfl)) (decide_eq_false c)) rfl) ?_
          refine seq_nx (ρ1 := [.fz (.int lo), .fz (.int hi), .fz (.int mid)]) (asgI (hm ▸ ie_div (ie_add (ie_var rfl) (ie_var rfl)) ie_c q) rfl) ?_
          · have e1 : mCall (m_law_halves (n + 1)) (mCons (mVar 0) (mCons (mVar 2) mNil)) [.fz (.int lo), .fz (.int hi), .fz (.int mid)] = some ((.list (A.map .int), .new), [.fz (.int lo), .fz (.int hi), .fz (.int mid)]) :=
              call_pure (rs := [(.int lo, .fz), (.int mid, .fz)]) rfl h1 (pureDs_ints A)
            have e2 : mCall (m_law_halves (n + 1)) (mCons (mOp gAdd (mVar 2) (mC (.int 1))) (mCons (mVar 1) mNil)) [.fz (.int lo), .fz (.int hi), .fz (.int mid)] = some ((.list (B.map .int), .new), [.fz (.int lo), .fz (.int hi), .fz (.int mid)]) :=
              call_pure (rs := [(.int (mid + 1), .fz), (.int hi, .fz)]) rfl h2 (pureDs_ints B)
            refine ret_eq ?_
            have e0 : mLst (mCons (mVar 2) mNil) [.fz (.int lo), .fz (.int hi), .fz (.int mid)] = some ((.list ([mid].map .int), .new), [.fz (.int lo), .fz (.int hi), .fz (.int mid)]) := lst_ev rfl rfl (by simp)
            have e3 := op_ev (g := gAdd) (sv_new e0) (sv_new e1) (gAdd_ints [mid] A (by simp only [List.length_cons, List.length_nil]; omega))
            have e4 := op_ev (g := gAdd) (sv_new e3) (sv_new e2) (gAdd_ints ([mid] ++ A) B (by simp only [List.length_append, List.length_cons, List.length_nil]; omega))
            exact e4
        · rfl
theorem mixed_is (c k : Int) (hk : 0 ≤ k ∧ k ≤ 1000) : ∃ v : Int, m_law_mixed [.int c, .int k] = some (.int v, false) := by
  have p1 : (0 : Int) < 2147483647 := by decide
  have p2 : (0 : Int) < 2147483629 := by decide
  have p3 : (0 : Int) < 2147483587 := by decide
  have q1 : IntMulOk (c % 2147483647) 48271 := IntMulOk.of_right (by decide)
  have q2 : IntMulOk k k := mulOk (.inl (by omega))
  have q3 : IntMulOk (k * k) 7919 := IntMulOk.of_right (by decide)
  have q4 : IntMulOk 104729 k := IntMulOk.of_left (by decide)
  generalize hn : (c % 2147483647 * 48271 + k * k * 7919 + 104729 * k) % 2147483629 = n
  have b1 := Int.emod_nonneg (c % 2147483647 * 48271 + k * k * 7919 + 104729 * k) (show (2147483629 : Int) ≠ 0 by decide)
  have b2 := Int.emod_lt_of_pos (c % 2147483647 * 48271 + k * k * 7919 + 104729 * k) p2
  have q5 : IntMulOk n n := mulOk (.inl (by omega))
  refine ⟨n * n % 2147483587, ?_⟩
  exact fn_of (o := .rt (.int (n * n % 2147483587), .fz) [.fz (.int c), .fz (.int k), .fz (.int n)]) rfl (seq_nx (ρ1 := [.fz (.int c), .fz (.int k), .fz (.int n)]) (asgI (hn ▸ ie_mod (ie_add (ie_add (ie_mul (ie_mod (ie_var rfl) ie_c p1) ie_c q1) (ie_mul (ie_mul (ie_var rfl) (ie_var rfl) q2) ie_c q3)) (ie_mul ie_c (ie_var rfl) q4)) ie_c p2) rfl) (ret_eq (ie_mod (ie_mul (ie_var rfl) (ie_var rfl) q5) ie_c p3))) rfl
theorem ins_order {l : List Int} {n : Nat} (hl : l.length = n) (hn : l.Nodup) (hm : ∀ x ∈ l, 0 ≤ x ∧ x < (n : Int)) (i : Int) (hi : 0 ≤ i ∧ i ≤ n) :
    ∃ l' : List Int, insD (l.map .int) i (.int (n : Int)) = l'.map .int ∧ l'.length = n + 1 ∧ l'.Nodup ∧ ∀ x ∈ l', 0 ≤ x ∧ x < ((n + 1 : Nat) : Int) := by
  refine ⟨l.take i.toNat ++ (n : Int) :: l.drop i.toNat, ?_, ?_, ?_, ?_⟩
  · unfold insD
    rw [if_neg (by omega), List.length_map, hl, Nat.min_eq_left (by omega), List.map_append, List.map_cons, List.map_take, List.map_drop]
  · simp only [List.length_append, List.length_cons, List.length_take, List.length_drop]; omega
  · have p : (l.take i.toNat ++ (n : Int) :: l.drop i.toNat).Perm ((n : Int) :: l) := by
      refine List.perm_middle.trans ?_
      rw [List.take_append_drop]
    refine p.nodup_iff.mpr (List.nodup_cons.mpr ⟨fun h => ?_, hn⟩)
    have := hm _ h; omega
  · intro x hx
    rcases List.mem_append.mp hx with h | h
    · have := hm x (List.mem_of_mem_take h); omega
    · rcases List.mem_cons.mp h with rfl | h
      · omega
      · have := hm x (List.mem_of_mem_drop h); omega
theorem order_loop (c more : Int) (many : Nat) (w : Int) (hm : many ≤ 60) : ∃ l : List Int, l.Nodup ∧ l.length = many ∧ (∀ x ∈ l, 0 ≤ x ∧ x < (many : Int)) ∧ ∃ s, forL (mgN 5) lb1_law_order (rngD 0 many) [.fz (.int c), .fz (.int more), .fz (.int many), .fz (.int w), .own (.list []), .no] = some (.nx [.fz (.int c), .fz (.int more), .fz (.int many), .fz (.int w), .own (.list (l.map .int)), s]) := by
  obtain ⟨ρ', hf, l, s, e, h1, h2, h3, _⟩ := forL_inv (g := mgN 5) (b := lb1_law_order) (fun n ρ => ∃ (l : List Int) (s : Sl), ρ = [.fz (.int c), .fz (.int more), .fz (.int many), .fz (.int w), .own (.list (l.map .int)), s] ∧ l.Nodup ∧ l.length = n ∧ (∀ x ∈ l, 0 ≤ x ∧ x < (n : Int)) ∧ SF s)
    (rngD 0 many) 0 [.fz (.int c), .fz (.int more), .fz (.int many), .fz (.int w), .own (.list []), .no] ⟨[], .no, rfl, .nil, rfl, (fun _ h => by cases h), SF.no⟩ (by
      rintro i d ρ hd ⟨l, s, rfl, h1, h2, h3, hs⟩
      obtain ⟨hi, rfl⟩ := rngD_get hd
      have ei : (0 : Int) + (i : Int) = (i : Int) := by omega
      rw [Nat.zero_add] at h2 h3
      rw [ei]
      obtain ⟨v, hv⟩ := mixed_is more i (by omega)
      have hlt := Int.emod_lt_of_pos v (show (0 : Int) < (i : Int) + 1 by omega)
      have hge := Int.emod_nonneg v (show (i : Int) + 1 ≠ 0 by omega)
      obtain ⟨l', e1, e2, e3, e4⟩ := ins_order h2 h1 h3 (v % ((i : Int) + 1)) (by omega)
      refine ⟨[.fz (.int c), .fz (.int more), .fz (.int many), .fz (.int w), .own (.list (l.map .int)), .fz (.int i)], _, by rcases hs with rfl | ⟨_, rfl⟩ <;> rfl, ?_, l', .fz (.int i), rfl, e3, by omega, by rw [show 0 + i + 1 = i + 1 by omega]; exact e4, SF.fz _⟩
      have e5 : mCall m_law_mixed (mCons (mVar 1) (mCons (mVar 5) mNil)) [.fz (.int c), .fz (.int more), .fz (.int many), .fz (.int w), .own (.list (l.map .int)), .fz (.int i)] = some ((.int v, .fz), [.fz (.int c), .fz (.int more), .fz (.int many), .fz (.int w), .own (.list (l.map .int)), .fz (.int i)]) :=
        call_pure (rs := [(.int more, .fz), (.int i, .fz)]) rfl hv rfl
      have e6 : mOp gAdd (mVar 5) (mC (.int 1)) [.fz (.int c), .fz (.int more), .fz (.int many), .fz (.int w), .own (.list (l.map .int)), .fz (.int i)] = some ((.int ((i : Int) + 1), .fz), [.fz (.int c), .fz (.int more), .fz (.int many), .fz (.int w), .own (.list (l.map .int)), .fz (.int i)]) := op_ev (res := (.int ((i : Int) + 1), false)) (sv_fz rfl) (sv_fz rfl) rfl
      have e7 := op_ev (g := gMod) (res := (.int (v % ((i : Int) + 1)), false)) (sv_fz e5) (sv_fz e6) (by show cIf _ _ _ = _; rw [cIf_pos (by omega)])
      have e8 : fInsert (l.map .int) [.int (v % ((i : Int) + 1)), .int i] = some (l'.map .int, .none) := by
        show cIf _ _ _ = _
        rw [cIf_pos ⟨by omega, by omega, by rw [List.length_map]; exact sz_lt (by omega)⟩, e1]
      unfold lb1_law_order
      generalize hii : (i : Int) = ii at *
      refine drop_ev (r := (.none, .fz)) ?_
      unfold mMut
      rw [cons_fz (sv_fz e7) (cons_fz (x := .int ii) (ρ1 := [.fz (.int c), .fz (.int more), .fz (.int many), .fz (.int w), .own (.list (l.map .int)), .fz (.int ii)]) (sv_fz rfl) rfl)]
      simp only [ownL, List.getElem?_cons_succ, List.getElem?_cons_zero, Option.bind_some, fzAll, fzOne, Option.map_some, e8, Mir.putAt, Sl.put, List.set_cons_succ, List.set_cons_zero])
  exact ⟨l, h1, by rw [h2, rngD_len]; omega, fun x hx => by have := h3 x hx; rw [rngD_len] at this; omega, s, by rw [hf, e]⟩
theorem order_ord (many : Nat) (hm : many ≤ 60) : Ord ((List.range many).map fun k : Nat => (k : Int)) := by
  refine ⟨?_, by simpa using hm, fun x hx => ?_⟩
  · refine List.pairwise_map.mpr (List.Pairwise.imp (fun {a b} h => ?_) List.nodup_range)
    omega
  · obtain ⟨k, h1, rfl⟩ := List.mem_map.mp hx
    have := List.mem_range.mp h1; omega
theorem rng_ints (n : Nat) : rngD 0 n = ((List.range n).map fun k : Nat => (k : Int)).map .int := by
  rw [rngD_map, List.map_map]; rfl
theorem ends_ord (many : Nat) (hm : many ≤ 60) : Ord ((List.range many).map fun k : Nat => if (k : Int) % 2 = 0 then (k : Int) / 2 else (many : Int) - 1 - (k : Int) / 2) := by
  refine ⟨?_, by simpa using hm, fun x hx => ?_⟩
  · refine List.pairwise_map.mpr (List.Pairwise.imp_of_mem (fun {a b} ha hb h => ?_) List.nodup_range)
    have := List.mem_range.mp ha
    have := List.mem_range.mp hb
    split <;> split <;> omega
  · obtain ⟨k, h1, rfl⟩ := List.mem_map.mp hx
    have := List.mem_range.mp h1
    split <;> omega
theorem order_is (c more : Int) : ∃ l : List Int, Ord l ∧ m_law_order [.int c, .int more] = some (.list (l.map .int), true) := by
  obtain ⟨many, hm, e2⟩ : ∃ many : Nat, many ≤ 60 ∧ (mIfS (mTest (mOp gEq (mOp gMod (mOp gDiv (mVar 0) (mC (.int 287))) (mC (.int 8))) (mC (.int 1)))) (mAsg 2 (mOp gMod (mOp gDiv (mVar 0) (mC (.int 2296))) (mC (.int 61)))) mPass) [.fz (.int c), .fz (.int more), .fz (.int (c / 7 % 41)), .no, .no, .no] = some (.nx [.fz (.int c), .fz (.int more), .fz (.int (many : Int)), .no, .no, .no]) := by
    by_cases h : c / 287 % 8 = 1
    · refine ⟨(c / 2296 % 61).toNat, by omega, if_t (tEq (ie_mod (ie_div (ie_var rfl) ie_c ⟨by decide, by decide⟩) ie_c (by decide)) ie_c h) ?_⟩
      rw [Int.toNat_of_nonneg (by omega)]
      exact asgI (ie_mod (ie_div (ie_var rfl) ie_c ⟨by decide, by decide⟩) ie_c (by decide)) rfl
    · refine ⟨(c / 7 % 41).toNat, by omega, if_f (tNe (ie_mod (ie_div (ie_var rfl) ie_c ⟨by decide, by decide⟩) ie_c (by decide)) ie_c h) ?_⟩
      rw [Int.toNat_of_nonneg (by omega)]
      rfl
  have fin : ∀ (l : List Int) (o : Out), Ord l → retD o = some (.list (l.map .int), true) → b_law_order [.fz (.int c), .fz (.int more), .no, .no, .no, .no] = some o → ∃ l : List Int, Ord l ∧ m_law_order [.int c, .int more] = some (.list (l.map .int), true) := fun l o h1 h2 h3 => ⟨l, h1, fn_of rfl h3 h2⟩
  have head : ∀ {rest : SM} {o : Option Out}, rest [.fz (.int c), .fz (.int more), .fz (.int (many : Int)), .fz (.int (c % 7)), .no, .no] = o → mSeq (mAsg 2 (mOp gMod (mOp gDiv (mVar 0) (mC (.int 7))) (mC (.int 41)))) (mSeq (mIfS (mTest (mOp gEq (mOp gMod (mOp gDiv (mVar 0) (mC (.int 287))) (mC (.int 8))) (mC (.int 1)))) (mAsg 2 (mOp gMod (mOp gDiv (mVar 0) (mC (.int 2296))) (mC (.int 61)))) mPass) (mSeq (mAsg 3 (mOp gMod (mVar 0) (mC (.int 7)))) rest)) [.fz (.int c), .fz (.int more), .no, .no, .no, .no] = o := fun h =>
    seq_nx (asgI (ie_mod (ie_div (ie_var rfl) ie_c ⟨by decide, by decide⟩) ie_c (by decide)) rfl) (seq_nx e2 (seq_nx (asgI (ie_mod (ie_var rfl) ie_c (by decide)) rfl) h))
  have skip : ∀ {k : Int} {s rest : SM} {o : Option Out}, c % 7 ≠ k → rest [.fz (.int c), .fz (.int more), .fz (.int (many : Int)), .fz (.int (c % 7)), .no, .no] = o → mSeq (mIfS (mTest (mOp gEq (mVar 3) (mC (.int k)))) s mPass) rest [.fz (.int c), .fz (.int more), .fz (.int (many : Int)), .fz (.int (c % 7)), .no, .no] = o := fun h h2 =>
    seq_nx (if_f (tNe (ie_var rfl) ie_c h) rfl) h2
  have take : ∀ {k : Int} {s rest : SM} {r : RV} {ρ : Rho}, c % 7 = k → s [.fz (.int c), .fz (.int more), .fz (.int (many : Int)), .fz (.int (c % 7)), .no, .no] = some (.rt r ρ) → mSeq (mIfS (mTest (mOp gEq (mVar 3) (mC (.int k)))) s mPass) rest [.fz (.int c), .fz (.int more), .fz (.int (many : Int)), .fz (.int (c % 7)), .no, .no] = some (.rt r ρ) := fun h h2 =>
    seq_rt (if_t (tEq (ie_var rfl) ie_c h) h2)
  clear e2
  have hm24 : 0 ≤ (many : Int) ∧ (many : Int) ≤ 2 ^ 24 := by omega
  have hmr : -(2 ^ 62) ≤ (many : Int) ∧ (many : Int) < 2 ^ 62 := by omega
  by_cases h1 : c % 7 = 1
  · refine fin _ _ (order_ord many hm) ?_ (head (take h1 (ret_eq (cb_ev (res := (.list (rngD 0 many), true)) (consI (ie_var rfl) rfl) ?_))))
    · rw [rng_ints]; rfl
    · show cIf _ _ _ = _
      rw [cIf_pos hm24]; rfl
  by_cases h2 : c % 7 = 2
  · refine fin ((List.range many).map fun k : Nat => (k : Int)).reverse _ ?_ ?_ (head (skip h1 (take h2 (ret_eq (cb_ev (res := (.list (rngD 0 many).reverse, true)) (consI (ie_var rfl) rfl) ?_)))))
    · obtain ⟨a, b, d⟩ := order_ord many hm
      exact ⟨List.pairwise_reverse.mpr (a.imp Ne.symm), by rw [List.length_reverse]; exact b, fun x hx => d x (List.mem_reverse.mp hx)⟩
    · rw [rng_ints, ← List.map_reverse]; rfl
    · show cIf _ _ _ = _
      rw [cIf_pos hm24]; rfl
  by_cases h3 : c % 7 = 3
  · have hh := halves_is 11 0 (many : Int) (by simp only [Int.sub_zero, Int.toNat_natCast]; omega) (by omega)
    refine fin (hv 12 0 (many : Int)) _ ⟨hv_nodup _ _ _, by have := hv_len 12 0 (many : Int); omega, fun x hx => by have := hv_mem _ _ _ _ hx; omega⟩ ?_ (head (skip h1 (skip h2 (take h3 (ret_eq (call_pure (d := .list ((hv 12 0 (many : Int)).map .int)) (o := true) (consI ie_c (consI (ie_var rfl) rfl)) hh (pureDs_ints _)))))))
    rfl
  by_cases h4 : c % 7 = 4
  · refine fin ((List.range many).map fun k : Nat => if (k : Int) % 2 = 0 then (k : Int) / 2 else (many : Int) - 1 - (k : Int) / 2) _ (ends_ord many hm) ?_ (head (skip h1 (skip h2 (skip h3 (take h4 (ret_eq (lc_ev (rg1_eq (consI (ie_var rfl) rfl) hmr) (ys := (List.range many).map fun k : Nat => PyData.int (if (k : Int) % 2 = 0 then (k : Int) / 2 else (many : Int) - 1 - (k : Int) / 2)) ?_ ?_)))))))
    · rw [List.map_map]; rfl
    · rw [Int.toNat_natCast, rngD_map]
      refine compL_map _ fun k hk => ⟨[.fz (.int (k : Int)), .fz (.int (many : Int))], ?_⟩
      generalize (k : Int) = kk
      have l := lst_ev (ρ := [.fz (.int kk), .fz (.int (many : Int))]) (ds := [.int (kk / 2), .int ((many : Int) - 1 - kk / 2)]) (consI (a := mOp gDiv (mVar 0) (mC (.int 2))) (ie_div (ie_var rfl) ie_c ⟨by decide, by decide⟩) (consI (a := mOp gSub (mOp gSub (mVar 1) (mC (.int 1))) (mOp gDiv (mVar 0) (mC (.int 2)))) (ie_sub (ie_sub (ie_var rfl) ie_c) (ie_div (ie_var rfl) ie_c ⟨by decide, by decide⟩)) nil_ev)) rfl (by simp)
      have m : IE (mOp gMod (mVar 0) (mC (.int 2))) [.fz (.int kk), .fz (.int (many : Int))] (kk % 2) := ie_mod (ie_var rfl) ie_c (by decide)
      refine sv_fz (op_ev (g := gIx) (res := (.int _, false)) (sv_new l) (sv_fz m) ?_)
      rcases Int.emod_two_eq kk with h | h
      · rw [if_pos h]; simp only [h]; rfl
      · rw [if_neg (by omega)]; simp only [h]; rfl
    · simpa using Nat.le_trans hm (by decide)
  · obtain ⟨l, a1, a2, a3, s, hf⟩ := order_loop c more many (c % 7) hm
    refine fin l (.rt (.list (l.map .int), .at 4) [.fz (.int c), .fz (.int more), .fz (.int (many : Int)), .fz (.int (c % 7)), .own (.list (l.map .int)), s]) ⟨a1, by omega, fun x hx => by have := a3 x hx; omega⟩ rfl (head (skip h1 (skip h2 (skip h3 (skip h4 ?_)))))
    refine seq_nx (ρ1 := [.fz (.int c), .fz (.int more), .fz (.int (many : Int)), .fz (.int (c % 7)), .own (.list []), .no]) (asg_new (lst_ev rfl rfl (by simp)) rfl) ?_
    refine seq_nx (for_eq (rg1_eq (consI (ie_var rfl) rfl) hmr) ?_) (ret_eq (var_own rfl))
    rw [Int.toNat_natCast]
    exact hf
theorem cell_bits {ns : List Int} (hb : ∀ k ∈ ns, Builtin.Int.intBits k ≤ 1048576) (k : Nat) : Builtin.Int.intBits (cell ns k) ≤ 1048576 := by
  unfold cell
  rw [List.getD_eq_getElem?_getD]
  cases h : ns[k]? with
  | none => exact (by decide)
  | some x =>
    obtain ⟨hl, e⟩ := List.getElem?_eq_some_iff.mp h
    exact hb x (e ▸ List.getElem_mem hl)
theorem keys_is (c : Int) (hc : Builtin.Int.intBits c ≤ 1048576) (l : List Int) (ho : Ord l) : ∃ ks : List Int, ks.Nodup ∧ ks.length ≤ 60 ∧ m_law_keys [.int c, .list (l.map .int)] = some (.list (ks.map .int), true) := by
  have p59 : CPow 10 59 := ⟨by decide, by decide, by decide⟩
  have q1 : IntMulOk c (982451653 ^ (3 : Int).toNat) := mulOk_bits hc (by decide +kernel)
  have q2 : IntMulOk c (48271 ^ (4 : Int).toNat) := mulOk_bits hc (by decide +kernel)
  have q3 : IntMulOk 2 (10 ^ (59 : Int).toNat) := IntMulOk.of_left (by decide)
  have p1 : (0 : Int) < 2 * 10 ^ (59 : Int).toNat + 1 := by decide
  have p2 : (0 : Int) < 10 ^ (6 : Int).toNat := by decide
  have p3 : (0 : Int) < 10 ^ (57 : Int).toNat := by decide
  obtain ⟨base, e2⟩ : ∃ base : Int, (mIfS (mTest (mOp gEq (mOp gMod (mVar 0) (mC (.int 2))) (mC (.int 1)))) (mAsg 2 (mOp gSub (mOp gMod (mOp gMul (mVar 0) (mOp gPow (mC (.int 982451653)) (mC (.int 3)))) (mOp gAdd (mOp gMul (mC (.int 2)) (mOp gPow (mC (.int 10)) (mC (.int 59)))) (mC (.int 1)))) (mOp gPow (mC (.int 10)) (mC (.int 59))))) mPass) [.fz (.int c), .fz (.list (l.map .int)), .fz (.int (c / 8 % 41 - 20)), .no] = some (.nx [.fz (.int c), .fz (.list (l.map .int)), .fz (.int base), .no]) := by
    by_cases h : c % 2 = 1
    · exact ⟨_, if_t (tEq (ie_mod (ie_var rfl) ie_c (by decide)) ie_c h) (asgI (ie_sub (ie_mod (ie_mul (ie_var rfl) (ie_pow ie_c ie_c ⟨by decide, by decide, by decide⟩) q1) (ie_add (ie_mul ie_c (ie_pow ie_c ie_c p59) q3) ie_c) p1) (ie_pow ie_c ie_c p59)) rfl)⟩
    · exact ⟨_, if_f (tNe (ie_mod (ie_var rfl) ie_c (by decide)) ie_c h) rfl⟩
  obtain ⟨step, hs, e3⟩ : ∃ step : Int, 0 < step ∧ (mAsg 3 (mOp gIx (mLst (mCons (mC (.int 1)) (mCons (mC (.int 2)) (mCons (mOp gAdd (mC (.int 1)) (mOp gMod (mOp gDiv (mVar 0) (mC (.int 5))) (mOp gPow (mC (.int 10)) (mC (.int 6))))) (mCons (mOp gAdd (mC (.int 1)) (mOp gMod (mOp gMul (mVar 0) (mOp gPow (mC (.int 48271)) (mC (.int 4)))) (mOp gPow (mC (.int 10)) (mC (.int 57))))) mNil))))) (mOp gMod (mOp gDiv (mVar 0) (mC (.int 2))) (mC (.int 4))))) [.fz (.int c), .fz (.list (l.map .int)), .fz (.int base), .no] = some (.nx [.fz (.int c), .fz (.list (l.map .int)), .fz (.int base), .fz (.int step)]) := by
    have i3 : IE (mOp gAdd (mC (.int 1)) (mOp gMod (mOp gDiv (mVar 0) (mC (.int 5))) (mOp gPow (mC (.int 10)) (mC (.int 6))))) [.fz (.int c), .fz (.list (l.map .int)), .fz (.int base), .no] _ := ie_add ie_c (ie_mod (ie_div (ie_var rfl) ie_c ⟨by decide, by decide⟩) (ie_pow ie_c ie_c ⟨by decide, by decide, by decide⟩) p2)
    have i4 : IE (mOp gAdd (mC (.int 1)) (mOp gMod (mOp gMul (mVar 0) (mOp gPow (mC (.int 48271)) (mC (.int 4)))) (mOp gPow (mC (.int 10)) (mC (.int 57))))) [.fz (.int c), .fz (.list (l.map .int)), .fz (.int base), .no] _ := ie_add ie_c (ie_mod (ie_mul (ie_var rfl) (ie_pow ie_c ie_c ⟨by decide, by decide, by decide⟩) q2) (ie_pow ie_c ie_c ⟨by decide, by decide, by decide⟩) p3)
    have b3 := Int.emod_nonneg (c / 5) (Int.ne_of_gt p2)
    have b4 := Int.emod_nonneg (c * 48271 ^ (4 : Int).toNat) (Int.ne_of_gt p3)
    obtain ⟨u, hu, i3⟩ : ∃ u : Int, 0 < u ∧ IE _ _ u := ⟨_, by omega, i3⟩
    obtain ⟨v, hv, i4⟩ : ∃ u : Int, 0 < u ∧ IE _ _ u := ⟨_, by omega, i4⟩
    have ls := lst_ev (ds := [.int 1, .int 2, .int u, .int v]) (consI (i := 1) ie_c (consI (i := 2) ie_c (consI i3 (consI i4 nil_ev)))) rfl (by simp)
    have ix : IE (mOp gMod (mOp gDiv (mVar 0) (mC (.int 2))) (mC (.int 4))) [.fz (.int c), .fz (.list (l.map .int)), .fz (.int base), .no] (c / 2 % 4) := ie_mod (ie_div (ie_var rfl) ie_c ⟨by decide, by decide⟩) ie_c (by decide)
    have hx : ∀ w : Int, gIx (.list [.int 1, .int 2, .int u, .int v]) (.int (c / 2 % 4)) = some (.int w, false) → (mAsg 3 (mOp gIx (mLst (mCons (mC (.int 1)) (mCons (mC (.int 2)) (mCons (mOp gAdd (mC (.int 1)) (mOp gMod (mOp gDiv (mVar 0) (mC (.int 5))) (mOp gPow (mC (.int 10)) (mC (.int 6))))) (mCons (mOp gAdd (mC (.int 1)) (mOp gMod (mOp gMul (mVar 0) (mOp gPow (mC (.int 48271)) (mC (.int 4)))) (mOp gPow (mC (.int 10)) (mC (.int 57))))) mNil))))) (mOp gMod (mOp gDiv (mVar 0) (mC (.int 2))) (mC (.int 4))))) [.fz (.int c), .fz (.list (l.map .int)), .fz (.int base), .no] = some (.nx [.fz (.int c), .fz (.list (l.map .int)), .fz (.int base), .fz (.int w)]) := fun w hw =>
      asg_fz (op_ev (res := (.int w, false)) (sv_new ls) (sv_fz ix) hw) rfl
    have : c / 2 % 4 = 0 ∨ c / 2 % 4 = 1 ∨ c / 2 % 4 = 2 ∨ c / 2 % 4 = 3 := by omega
    rcases this with h | h | h | h
    · exact ⟨1, by decide, hx _ (by rw [h]; rfl)⟩
    · exact ⟨2, by decide, hx _ (by rw [h]; rfl)⟩
    · exact ⟨u, hu, hx _ (by rw [h]; rfl)⟩
    · exact ⟨v, hv, hx _ (by rw [h]; rfl)⟩
  refine ⟨l.map fun r => base + r * step, ?_, by rw [List.length_map]; exact ho.2.1, ?_⟩
  · refine List.pairwise_map.mpr (ho.1.imp fun {a b} h z => h ?_)
    have : a * step = b * step := by omega
    exact Int.eq_of_mul_eq_mul_right (Int.ne_of_gt hs) this
  · refine fn_of (o := .rt (.list ((l.map fun r => base + r * step).map .int), .new) [.fz (.int c), .fz (.list (l.map .int)), .fz (.int base), .fz (.int step)]) rfl ?_ rfl
    refine seq_nx (asgI (ie_sub (ie_mod (ie_div (ie_var rfl) ie_c ⟨by decide, by decide⟩) ie_c (by decide)) ie_c) rfl) ?_
    refine seq_nx e2 (seq_nx e3 (ret_eq (lc_ev (itl_ev (sv_fz (var_fz rfl))) ?_ ?_)))
    · rw [List.map_map]
      refine compL_map l fun r hr => ⟨_, sv_fz (ie_add (ie_var rfl) (ie_mul (ie_var rfl) (ie_var rfl) (mulOk (.inl ?_))))⟩
      have := ho.2.2 r hr
      omega
    · rw [List.length_map, List.length_map]; exact Nat.le_trans ho.2.1 (by decide)
theorem grow_loop (S : D) : ∀ (ks : List Int) (t : Tr) (s : Sl), t.size + ks.length ≤ 60 → SF s → ∃ s', forL (mgN 2) lb1_law_grown (ks.map .int) [.fz S, .fz t.enc, s] = some (.nx [.fz S, .fz (ks.foldl Tr.ins t).enc, s'])
  | [], t, s, _, _ => ⟨s, rfl⟩
  | k :: ks, t, s, h, hs => by
    rw [List.length_cons] at h
    obtain ⟨s', e⟩ := grow_loop S ks (t.ins k) (.fz (.int k)) (by rw [Tr.size_ins]; omega) (SF.fz _)
    have hp := put_is 64 t k (by have := Tr.ht_size t; omega)
    refine ⟨s', ?_⟩
    rw [List.map_cons, List.foldl_cons, ← e]
    show ((mgN 2 (.int k) [.fz S, .fz t.enc, s]).bind _) = _
    rw [mgN2 hs, Option.bind_some]
    have : lb1_law_grown [.fz S, .fz t.enc, .fz (.int k)] = some (.nx [.fz S, .fz (t.ins k).enc, .fz (.int k)]) :=
      asg_fz (call_pure (o := false) (rs := [(t.enc, .fz), (.int k, .fz)]) rfl hp (Tr.pureR_enc _)) rfl
    rw [this]
    rfl
theorem op_ro {a b : PM} {ρ ρ1 ρ2 : Rho} {x : D} {r : RV} {res : D × Bool} {g : D → D → Option (D × Bool)} (h1 : sv a ρ = some ((x, .ro), ρ1)) (h2 : sv b ρ1 = some (r, ρ2)) (h3 : g x r.1 = some res) : mOp g a b ρ = some (resK res, ρ2) := by
  unfold mOp; rw [h1, Option.bind_some]; dsimp only; rw [h2, Option.bind_some]; dsimp only [refr, Option.bind_some]; rw [h3, Option.map_some]
theorem gIx_list (l : List D) (k : Int) (d : D) (h : L2.atI l k = some d) : gIx (.list l) (.int k) = some (d, false) := by
  show (L2.atI l k).map _ = _
  rw [h]; rfl
theorem call_fz {f : List D → Option (D × Bool)} {m : Rho → Option (List RV × Rho)} {ρ ρ1 : Rho} {rs : List RV} {d : D} {o : Bool} {ds : List D} (h1 : m ρ = some (rs, ρ1)) (h2 : f (rs.map (·.1)) = some (d, o)) (h3 : fzAll rs ρ1 = some (ds, ρ1)) : mCall f m ρ = some (kO d o, ρ1) := by
  unfold mCall; rw [h1, Option.bind_some]; dsimp only; rw [h2, Option.bind_some]
  split
  · rfl
  · rw [h3]; rfl
theorem many_is (t : Tr) : m_many_of [t.enc] = some (.int (t.size : Int), false) := by
  cases t with
  | nil => exact fn_of (o := .rt (.int 0, .fz) [.fz .none]) rfl (seq_rt (if_t rfl rfl)) rfl
  | nd l k r =>
    generalize hD : (Tr.nd l k r).enc = dd
    refine fn_of (o := .rt (.int ((Tr.nd l k r).size : Int), .fz) [.fz dd]) rfl (seq_nx (ρ1 := [.fz dd]) (if_f ?_ rfl) (ret_eq ?_)) rfl
    · rw [← hD]; rfl
    · rw [← hD]; rfl
theorem tree_is (l : Tr) (k : Int) (r : Tr) : m_tree_of [l.enc, .int k, r.enc] = some ((Tr.nd l k r).enc, false) := by
  have h1 := many_is l
  have h2 := many_is r
  have e : (Tr.nd l k r).enc = .tuple [l.enc, .int k, r.enc, .int ((l.size : Int) + 1 + (r.size : Int))] := by
    show PyData.tuple [l.enc, .int k, r.enc, .int ((l.size + 1 + r.size : Nat) : Int)] = _
    rw [show ((l.size + 1 + r.size : Nat) : Int) = (l.size : Int) + 1 + (r.size : Int) by omega]
  rw [e]
  refine fn_of (o := .rt (.tuple [l.enc, .int k, r.enc, .int ((l.size : Int) + 1 + (r.size : Int))], .fz) [.fz l.enc, .fz (.int k), .fz r.enc]) rfl (ret_eq (tup_ev (rs := [(l.enc, .fz), (.int k, .fz), (r.enc, .fz), (.int ((l.size : Int) + 1 + (r.size : Int)), .fz)]) (cons_fz (sv_fz (var_fz rfl)) (consI (ie_var rfl) (cons_fz (sv_fz (var_fz rfl)) (consI (ie_add (ie_add (ie_call (rs := [(l.enc, .fz)]) rfl h1) ie_c) (ie_call (rs := [(r.enc, .fz)]) rfl h2)) nil_ev)))) rfl (by simp))) rfl
theorem tree_call {ρ : Rho} {a b c : PM} {l r : Tr} {k : Int} (h1 : sv a ρ = some ((l.enc, .fz), ρ)) (h2 : IE b ρ k) (h3 : sv c ρ = some ((r.enc, .fz), ρ)) : mCall m_tree_of (mCons a (mCons b (mCons c mNil))) ρ = some (((Tr.nd l k r).enc, .fz), ρ) :=
  call_pure (o := false) (rs := [(l.enc, .fz), (.int k, .fz), (r.enc, .fz)]) (cons_fz h1 (consI h2 (cons_fz h3 nil_ev))) (tree_is l k r) (Tr.pureR_enc _)
theorem parts_loop (T : D) (x : Int) : ∀ (t : Tr) (n : Nat) (done : List D), t.ht < n → done.length + t.ht ≤ 1000 → ∃ s : Sl, mWhile wc1_parts_to wb1_parts_to n [.fz T, .fz (.int x), .own (.list done), .fz t.enc] = some (.nx [.fz T, .fz (.int x), .own (.list (done ++ (trail t x).map Tr.enc)), s])
  | .nil, n + 1, done, _, _ => ⟨.fz .none, by
    rw [show (done ++ (trail .nil x).map Tr.enc) = done by simp [trail]]
    exact while_end rfl⟩
  | .nd l k r, n + 1, done, h, hz => by
    simp only [Tr.ht] at h hz
    generalize hD : (Tr.nd l k r).enc = dd
    have app : mDrop (mMut 2 fAppend (mCons (mVar 3) mNil)) [.fz T, .fz (.int x), .own (.list done), .fz dd] = some (.nx [.fz T, .fz (.int x), .own (.list (done ++ [dd])), .fz dd]) :=
      app_ev dd done rfl rfl rfl rfl (by omega) rfl
    have c1 : wc1_parts_to [.fz T, .fz (.int x), .own (.list done), .fz dd] = some (true, [.fz T, .fz (.int x), .own (.list done), .fz dd]) := by rw [← hD]; rfl
    have i1 : IE (mOp gIx (mVar 3) (mC (.int 1))) [.fz T, .fz (.int x), .own (.list (done ++ [dd])), .fz dd] k := by rw [← hD]; rfl
    have e0 : (trail (.nd l k r) x).map Tr.enc = dd :: (if x = k then [] else if x < k then trail l x else trail r x).map Tr.enc := by rw [← hD]; rfl
    by_cases e : x = k
    · refine ⟨.fz dd, ?_⟩
      rw [e0, if_pos e]
      exact while_brk c1 (seq_nx app (seq_bk (if_t (tEq (ie_var rfl) i1 e) rfl)))
    · by_cases c : x < k
      · obtain ⟨s, hs⟩ := parts_loop T x l n (done ++ [dd]) (by omega) (by rw [List.length_append, List.length_singleton]; omega)
        refine ⟨s, ?_⟩
        rw [e0, if_neg e, if_pos c, List.append_cons]
        refine while_go c1 (seq_nx app (seq_nx (if_f (tNe (ie_var rfl) i1 e) rfl) (asg_fz (d := l.enc) (ρ1 := [.fz T, .fz (.int x), .own (.list (done ++ [dd])), .fz dd]) (ifE_t (tstB (be_lt (ie_var rfl) i1) (decide_eq_true c)) ?_) rfl))) hs
        rw [← hD]; rfl
      · obtain ⟨s, hs⟩ := parts_loop T x r n (done ++ [dd]) (by omega) (by rw [List.length_append, List.length_singleton]; omega)
        refine ⟨s, ?_⟩
        rw [e0, if_neg e, if_neg c, List.append_cons]
        refine while_go c1 (seq_nx app (seq_nx (if_f (tNe (ie_var rfl) i1 e) rfl) (asg_fz (d := r.enc) (ρ1 := [.fz T, .fz (.int x), .own (.list (done ++ [dd])), .fz dd]) (ifE_f (tstB (be_lt (ie_var rfl) i1) (decide_eq_false c)) ?_) rfl))) hs
        rw [← hD]; rfl
theorem parts_is (t : Tr) (x : Int) (h : t.ht ≤ 60) : m_parts_to [t.enc, .int x] = some (.list ((trail t x).map Tr.enc), true) := by
  obtain ⟨s, hs⟩ := parts_loop t.enc x t 1000000 [] (by omega) (by simpa using Nat.le_trans h (by decide))
  refine fn_of (o := .rt (.list ((trail t x).map Tr.enc), .at 2) [.fz t.enc, .fz (.int x), .own (.list ((trail t x).map Tr.enc)), s]) rfl ?_ rfl
  refine seq_nx (ρ1 := [.fz t.enc, .fz (.int x), .own (.list []), .no]) (asg_new (lst_ev rfl rfl (by simp)) rfl) ?_
  refine seq_nx (ρ1 := [.fz t.enc, .fz (.int x), .own (.list []), .fz t.enc]) rfl ?_
  exact seq_nx hs (ret_eq (var_own rfl))
theorem pures_enc : ∀ ts : List Tr, pureDs (ts.map Tr.enc) = true
  | [] => rfl
  | t :: ts => by rw [List.map_cons]; unfold pureDs; rw [Tr.pure_enc, pures_enc ts]; rfl
theorem stands_is (a b c d : Tr) (k x : Int) : m_stands_left [(Tr.nd a k b).enc, (Tr.nd c x d).enc] = some (.bool (decide (x < k)), false) := by
  generalize hD : (Tr.nd a k b).enc = d1
  generalize hE : (Tr.nd c x d).enc = d2
  have i1 : IE (mOp gIx (mVar 0) (mC (.int 1))) [.fz d1, .fz d2] k := by rw [← hD]; rfl
  have i2 : IE (mOp gIx (mVar 1) (mC (.int 1))) [.fz d1, .fz d2] x := by rw [← hE]; rfl
  exact fn_of (o := .rt (.bool (decide (x < k)), .fz) [.fz d1, .fz d2]) rfl (ret_eq (be_lt i2 i1)) rfl
theorem lifted_is (ul ur pl pr : Tr) (uk pk : Int) : m_lifted [(Tr.nd ul uk ur).enc, (Tr.nd pl pk pr).enc] = some ((lift (.nd ul uk ur) (.nd pl pk pr)).enc, false) := by
  have st := stands_is ul ur pl pr uk pk
  have e : lift (.nd ul uk ur) (.nd pl pk pr) = if pk < uk then .nd pl pk (.nd pr uk ur) else .nd (.nd ul uk pl) pk pr := rfl
  rw [e]
  generalize hD : (Tr.nd ul uk ur).enc = d1 at st ⊢
  generalize hE : (Tr.nd pl pk pr).enc = d2 at st ⊢
  have ix : ∀ {i : Nat} {k : Int} {d x : D}, ([.fz d1, .fz d2] : Rho)[i]? = some (.fz d) → gIx d (.int k) = some (x, false) → mOp gIx (mVar i) (mC (.int k)) [.fz d1, .fz d2] = some ((x, .fz), [.fz d1, .fz d2]) := fun h1 h2 => op_ev (r := (.int _, .fz)) (sv_fz (var_fz h1)) (sv_fz rfl) h2
  have u0 : gIx d1 (.int 0) = some (ul.enc, false) := by rw [← hD]; rfl
  have u1 : gIx d1 (.int 1) = some (.int uk, false) := by rw [← hD]; rfl
  have u2 : gIx d1 (.int 2) = some (ur.enc, false) := by rw [← hD]; rfl
  have p0 : gIx d2 (.int 0) = some (pl.enc, false) := by rw [← hE]; rfl
  have p1 : gIx d2 (.int 1) = some (.int pk, false) := by rw [← hE]; rfl
  have p2 : gIx d2 (.int 2) = some (pr.enc, false) := by rw [← hE]; rfl
  have tst : mTest (mCall m_stands_left (mCons (mVar 0) (mCons (mVar 1) mNil))) [.fz d1, .fz d2] = some (decide (pk < uk), [.fz d1, .fz d2]) := (be_call (rs := [(d1, .fz), (d2, .fz)]) rfl st).t
  by_cases c : pk < uk
  · rw [if_pos c]
    rw [decide_eq_true c] at tst
    refine fn_of (o := .rt ((Tr.nd pl pk (.nd pr uk ur)).enc, .fz) [.fz d1, .fz d2]) rfl (seq_rt (if_t tst (ret_eq ?_))) rfl
    exact tree_call (sv_fz (ix rfl p0)) (ix rfl p1) (sv_fz (tree_call (sv_fz (ix rfl p2)) (ix rfl u1) (sv_fz (ix rfl u2))))
  · rw [if_neg c]
    rw [decide_eq_false c] at tst
    refine fn_of (o := .rt ((Tr.nd (.nd ul uk pl) pk pr).enc, .fz) [.fz d1, .fz d2]) rfl (seq_nx (if_f tst rfl) (ret_eq ?_)) rfl
    exact tree_call (sv_fz (tree_call (sv_fz (ix rfl u0)) (ix rfl u1) (sv_fz (ix rfl p0)))) (ix rfl p1) (sv_fz (ix rfl p2))
theorem side_is (ul ur pl pr : Tr) (uk pk : Int) : m_with_side [(Tr.nd ul uk ur).enc, (Tr.nd pl pk pr).enc] = some ((withSide (.nd ul uk ur) (.nd pl pk pr)).enc, false) := by
  have st := stands_is ul ur pl pr uk pk
  have e : withSide (.nd ul uk ur) (.nd pl pk pr) = if pk < uk then .nd (.nd pl pk pr) uk ur else .nd ul uk (.nd pl pk pr) := rfl
  rw [e]
  generalize hP : Tr.nd pl pk pr = p at st ⊢
  have u0 : gIx (Tr.nd ul uk ur).enc (.int 0) = some (ul.enc, false) := rfl
  have u1 : gIx (Tr.nd ul uk ur).enc (.int 1) = some (.int uk, false) := rfl
  have u2 : gIx (Tr.nd ul uk ur).enc (.int 2) = some (ur.enc, false) := rfl
  generalize (Tr.nd ul uk ur).enc = d1 at *
  have ix : ∀ {k : Int} {x : D}, gIx d1 (.int k) = some (x, false) → mOp gIx (mVar 0) (mC (.int k)) [.fz d1, .fz p.enc] = some ((x, .fz), [.fz d1, .fz p.enc]) := fun h2 => op_ev (r := (.int _, .fz)) (sv_fz (var_fz rfl)) (sv_fz rfl) h2
  have tst : mTest (mCall m_stands_left (mCons (mVar 0) (mCons (mVar 1) mNil))) [.fz d1, .fz p.enc] = some (decide (pk < uk), [.fz d1, .fz p.enc]) := (be_call (rs := [(d1, .fz), (p.enc, .fz)]) rfl st).t
  by_cases c : pk < uk
  · rw [if_pos c]
    rw [decide_eq_true c] at tst
    exact fn_of (o := .rt ((Tr.nd p uk ur).enc, .fz) [.fz d1, .fz p.enc]) rfl (seq_rt (if_t tst (ret_eq (tree_call (sv_fz (var_fz rfl)) (ix u1) (sv_fz (ix u2)))))) rfl
  · rw [if_neg c]
    rw [decide_eq_false c] at tst
    exact fn_of (o := .rt ((Tr.nd ul uk p).enc, .fz) [.fz d1, .fz p.enc]) rfl (seq_nx (if_f tst rfl) (ret_eq (tree_call (sv_fz (ix u0)) (ix u1) (sv_fz (var_fz rfl))))) rfl
theorem side_nd (u w : Tr) (hu : ∃ a k b, u = .nd a k b) : ∃ a k b, withSide u w = .nd a k b := by
  obtain ⟨a, k, b, rfl⟩ := hu
  unfold withSide
  dsimp only
  split <;> exact ⟨_, _, _, rfl⟩
theorem lift_nd (u w : Tr) (hu : ∃ a k b, u = .nd a k b) (hw : ∃ a k b, w = .nd a k b) : ∃ a k b, lift u w = .nd a k b := by
  obtain ⟨a, k, b, rfl⟩ := hu
  obtain ⟨c, m, d, rfl⟩ := hw
  unfold lift
  dsimp only
  split <;> exact ⟨_, _, _, rfl⟩
theorem side_is' {u w : Tr} (hu : ∃ a k b, u = .nd a k b) (hw : ∃ a k b, w = .nd a k b) : m_with_side [u.enc, w.enc] = some ((withSide u w).enc, false) := by
  obtain ⟨a, k, b, rfl⟩ := hu
  obtain ⟨c, m, d, rfl⟩ := hw
  exact side_is a b c d k m
theorem lifted_is' {u w : Tr} (hu : ∃ a k b, u = .nd a k b) (hw : ∃ a k b, w = .nd a k b) : m_lifted [u.enc, w.enc] = some ((lift u w).enc, false) := by
  obtain ⟨a, k, b, rfl⟩ := hu
  obtain ⟨c, m, d, rfl⟩ := hw
  exact lifted_is a b c d k m
theorem stands_is' {u w : Tr} (hu : ∃ a k b, u = .nd a k b) (hw : ∃ a k b, w = .nd a k b) : m_stands_left [u.enc, w.enc] = some (.bool (decide (keyOf w < keyOf u)), false) := by
  obtain ⟨a, k, b, rfl⟩ := hu
  obtain ⟨c, m, d, rfl⟩ := hw
  exact stands_is a b c d k m
theorem hung_loop (A W : D) : ∀ (us : List Tr) (w : Tr) (s : Sl), (∀ u ∈ us, ∃ a k b, u = .nd a k b) → (∃ a k b, w = .nd a k b) → SF s → ∃ s', forL (mgN 3) lb1_hung_in (us.map Tr.enc) [.fz A, .fz W, .fz w.enc, s] = some (.nx [.fz A, .fz W, .fz (us.foldl (fun w u => withSide u w) w).enc, s'])
  | [], w, s, _, _, _ => ⟨s, rfl⟩
  | u :: us, w, s, h, hw, hs => by
    have hu := h u List.mem_cons_self
    obtain ⟨s', e⟩ := hung_loop A W us (withSide u w) (.fz u.enc) (fun v hv => h v (List.mem_cons_of_mem _ hv)) (side_nd u w hu) (SF.fz _)
    refine ⟨s', ?_⟩
    rw [List.map_cons, List.foldl_cons]
    exact forL_cons (mgN3 hs) (asg_fz (call_pure (o := false) (rs := [(u.enc, .fz), (w.enc, .fz)]) rfl (side_is' hu hw) (Tr.pureR_enc _)) rfl) e
theorem hung_is (pre : List Tr) (w : Tr) (h : ∀ u ∈ pre, ∃ a k b, u = .nd a k b) (hw : ∃ a k b, w = .nd a k b) : m_hung_in [.list (pre.map Tr.enc), w.enc] = some ((hung pre w).enc, false) := by
  obtain ⟨s', e⟩ := hung_loop (.list (pre.map Tr.enc)) w.enc pre.reverse w .no (fun u hu => h u (List.mem_reverse.mp hu)) hw SF.no
  rw [List.foldl_reverse] at e
  refine fn_of (o := .rt ((hung pre w).enc, .fz) [.fz (.list (pre.map Tr.enc)), .fz w.enc, .fz (hung pre w).enc, s']) rfl ?_ rfl
  refine seq_nx (ρ1 := [.fz (.list (pre.map Tr.enc)), .fz w.enc, .fz w.enc, .no]) rfl ?_
  refine seq_nx (for_eq (ds := pre.reverse.map Tr.enc) (ρ1 := [.fz (.list (pre.map Tr.enc)), .fz w.enc, .fz w.enc, .no]) ?_ e) (ret_eq (var_fz rfl))
  rw [List.map_reverse]
  rfl
theorem straight_is {g p v : Tr} (hg : ∃ a k b, g = .nd a k b) (hp : ∃ a k b, p = .nd a k b) (hv : ∃ a k b, v = .nd a k b) : m_straight [g.enc, p.enc, v.enc] = some ((opT 2 g p v).enc, false) := by
  have e : opT 2 g p v = lift (lift g p) v := by unfold opT; rw [if_pos rfl]
  rw [e]
  exact fn_of (o := .rt ((lift (lift g p) v).enc, .fz) [.fz g.enc, .fz p.enc, .fz v.enc]) rfl (ret_eq (call_pure (o := false) (rs := [((lift g p).enc, .fz), (v.enc, .fz)]) (cons_fz (sv_fz (call_pure (o := false) (rs := [(g.enc, .fz), (p.enc, .fz)]) rfl (lifted_is' hg hp) (Tr.pureR_enc _))) (cons_fz (sv_fz (var_fz rfl)) nil_ev)) (lifted_is' (lift_nd g p hg hp) hv) (Tr.pureR_enc _))) rfl
theorem bent_is {g p v : Tr} (hg : ∃ a k b, g = .nd a k b) (hp : ∃ a k b, p = .nd a k b) (hv : ∃ a k b, v = .nd a k b) : m_bent [g.enc, p.enc, v.enc] = some ((opT 3 g p v).enc, false) := by
  have e : opT 3 g p v = lift (withSide g (lift p v)) (lift p v) := by unfold opT; rw [if_neg (by decide)]
  rw [e]
  have l1 := lift_nd p v hp hv
  refine fn_of (o := .rt ((lift (withSide g (lift p v)) (lift p v)).enc, .fz) [.fz g.enc, .fz p.enc, .fz v.enc, .fz (lift p v).enc]) rfl ?_ rfl
  refine seq_nx (asg_fz (call_pure (o := false) (rs := [(p.enc, .fz), (v.enc, .fz)]) rfl (lifted_is' hp hv) (Tr.pureR_enc _)) rfl) (ret_eq ?_)
  exact call_pure (o := false) (rs := [((withSide g (lift p v)).enc, .fz), ((lift p v).enc, .fz)]) (cons_fz (sv_fz (call_pure (o := false) (rs := [(g.enc, .fz), ((lift p v).enc, .fz)]) rfl (side_is' hg l1) (Tr.pureR_enc _))) (cons_fz (sv_fz (var_fz rfl)) nil_ev)) (lifted_is' (side_nd g _ hg) l1) (Tr.pureR_enc _)
theorem atI_m1 {α : Type} (l : List α) (a b c : α) : L2.atI (l ++ [a, b, c]) (-1) = some c := by
  rw [Mir.atI_last]; simp
theorem atI_m2 {α : Type} (l : List α) (a b c : α) : L2.atI (l ++ [a, b, c]) (-2) = some b := by
  unfold L2.atI L2.ixN
  rw [if_neg (by omega), if_pos (by simp only [List.length_append, List.length_cons, List.length_nil]; omega), Option.bind_some]
  rw [show (-2 + ((l ++ [a, b, c]).length : Int)).toNat = l.length + 1 by simp only [List.length_append, List.length_cons, List.length_nil]; omega, List.getElem?_append_right (by omega)]
  simp
theorem atI_m3 {α : Type} (l : List α) (a b c : α) : L2.atI (l ++ [a, b, c]) (-3) = some a := by
  unfold L2.atI L2.ixN
  rw [if_neg (by omega), if_pos (by simp only [List.length_append, List.length_cons, List.length_nil]; omega), Option.bind_some]
  rw [show (-3 + ((l ++ [a, b, c]).length : Int)).toNat = l.length by simp only [List.length_append, List.length_cons, List.length_nil]; omega, List.getElem?_append_right (by omega)]
  simp
theorem cut_m3 (l : List D) (a b c : D) : cutD (l ++ [a, b, c]) none (some (-3)) = l := by
  unfold cutD
  rw [HT.sIx_none]
  have e : HT.sIx (l ++ [a, b, c]).length (l ++ [a, b, c]).length (some (-3)) = l.length := by
    simp only [HT.sIx]
    rw [if_pos (by decide)]
    simp only [List.length_append, List.length_cons, List.length_nil]; omega
  rw [e, List.drop_zero, Nat.sub_zero, List.take_left']
  rfl
theorem turn_is {x : Int} {q : Nat} {t t' : Tr} (h : Tn x q t t') (hb : t.Bst) (hh : t.ht ≤ 60) : m_turn_key [t.enc, .int x] = some (.tuple [.str (kindS q), t'.enc], false) := by
  have hp := parts_is t x hh
  by_cases h1 : q = 1
  · subst h1
    obtain ⟨ul, uk, ur, pl, pr, _, e1, e2⟩ := h.single
    rw [e1] at hp
    simp only [List.map_cons, List.map_nil] at hp
    have li := lifted_is ul ur pl pr uk x
    rw [← e2] at li
    have hpu : pureR (.list [(Tr.nd ul uk ur).enc, (Tr.nd pl x pr).enc]) true = true := pures_enc [.nd ul uk ur, .nd pl x pr]
    have p1 : gIx (Tr.nd pl x pr).enc (.int 1) = some (.int x, false) := rfl
    generalize (Tr.nd ul uk ur).enc = d1 at *
    generalize (Tr.nd pl x pr).enc = d2 at *
    generalize t.enc = T at hp ⊢
    show m_turn_key _ = some (PyData.tuple [.str "single", t'.enc], false)
    refine fn_of (o := .rt (.tuple [.str "single", t'.enc], .fz) [.fz T, .fz (.int x), .own (.list [d1, d2])]) rfl ?_ rfl
    refine seq_nx (ρ1 := [.fz T, .fz (.int x), .own (.list [d1, d2])]) (asg_new (call_pure (rs := [(T, .fz), (.int x, .fz)]) rfl hp hpu) rfl) ?_
    have ln : IE (mCB gLen (mCons (mVar 2) mNil)) [.fz T, .fz (.int x), .own (.list [d1, d2])] 2 := cb_ev (rs := [(.list [d1, d2], .at 2)]) (res := (.int 2, false)) rfl rfl
    have ix : ∀ {k : Int} {d : D}, gIx (.list [d1, d2]) (.int k) = some (d, false) → mOp gIx (mVar 2) (mC (.int k)) [.fz T, .fz (.int x), .own (.list [d1, d2])] = some ((d, .fz), [.fz T, .fz (.int x), .own (.list [d1, d2])]) := fun h => op_at (i := 2) (y := .list [d1, d2]) (r := (.int _, .fz)) (sv_at (var_own rfl)) (sv_fz rfl) rfl h
    have im : mOp gIx (mVar 2) (mUn gNeg (mC (.int 1))) [.fz T, .fz (.int x), .own (.list [d1, d2])] = some ((d2, .fz), [.fz T, .fz (.int x), .own (.list [d1, d2])]) := op_at (i := 2) (y := .list [d1, d2]) (r := (.int (-1), .fz)) (res := (d2, false)) (sv_at (var_own rfl)) (sv_fz (ie_neg ie_c)) rfl rfl
    refine seq_nx (ρ1 := [.fz T, .fz (.int x), .own (.list [d1, d2])]) (if_f (or_f (tNe ln ie_c (by decide)) (tstB (be_ne (op_ev (r := (.int 1, .fz)) (res := (.int x, false)) (sv_fz im) (sv_fz rfl) p1) (ie_var rfl)) (by simp))) rfl) ?_
    refine seq_nx (if_f (tNe ln ie_c (by decide)) rfl) ?_
    exact seq_rt (if_t (tEq ln ie_c rfl) (ret_eq (tup_ev (rs := [(.str "single", .fz), (t'.enc, .fz)]) (cons_fz rfl (cons_fz (sv_fz (call_pure (o := false) (rs := [(d1, .fz), (d2, .fz)]) (cons_fz (sv_fz (ix rfl)) (cons_fz (sv_fz (ix rfl)) nil_ev)) li (Tr.pureR_enc _))) nil_ev)) rfl (by simp))))
  · have h2 : 2 ≤ q := by have := h.kind; omega
    obtain ⟨pre, g, p, v, e1, e2, ⟨hg, hp', hv, sd⟩, hn⟩ := h.long h2 hb
    obtain ⟨va, vb, hv'⟩ := hv
    have hv : ∃ a k b, v = .nd a k b := ⟨_, _, _, hv'⟩
    have kv : keyOf v = x := by rw [hv']; rfl
    have s1 := stands_is' hp' hv
    have s2 := stands_is' hg hp'
    have hop : ∃ a k b, opT q g p v = .nd a k b := by
      unfold opT
      split
      · exact lift_nd _ _ (lift_nd _ _ hg hp') hv
      · exact lift_nd _ _ (side_nd _ _ hg) (lift_nd _ _ hp' hv)
    have hu := hung_is pre (opT q g p v) hn hop
    rw [← e2] at hu
    have st := straight_is hg hp' hv
    have be := bent_is hg hp' hv
    have p1 : gIx v.enc (.int 1) = some (.int x, false) := by rw [hv']; rfl
    have hpu : pureR (.list ((trail t x).map Tr.enc)) true = true := pures_enc (trail t x)
    have ln1 : (trail t x).length = pre.length + 3 := by rw [e1]; simp
    rw [e1, List.map_append] at hp hpu
    simp only [List.map_cons, List.map_nil] at hp hpu
    have pu := Tr.pureR_enc (opT q g p v)
    have pt := Tr.pureR_enc t'
    generalize hL : pre.map Tr.enc ++ [g.enc, p.enc, v.enc] = L at hp hpu
    have x1 : gIx (.list L) (.int (-1)) = some (v.enc, false) := gIx_list _ _ _ (by rw [← hL]; exact atI_m1 _ _ _ _)
    have x2 : gIx (.list L) (.int (-2)) = some (p.enc, false) := gIx_list _ _ _ (by rw [← hL]; exact atI_m2 _ _ _ _)
    have x3 : gIx (.list L) (.int (-3)) = some (g.enc, false) := gIx_list _ _ _ (by rw [← hL]; exact atI_m3 _ _ _ _)
    have xs : gSl (.list L) none (some (-3)) = some (.list (pre.map Tr.enc), true) := by
      show some (PyData.list (cutD L none (some (-3))), true) = _
      rw [← hL, cut_m3]
    have xl : ∃ n : Nat, 3 ≤ n ∧ gLen [.list L] = some (.int (n : Int), false) := ⟨L.length, by rw [← hL]; simp, rfl⟩
    obtain ⟨n, n3, xl⟩ := xl
    clear hL
    generalize t.enc = T at hp ⊢
    have ln : IE (mCB gLen (mCons (mVar 2) mNil)) [.fz T, .fz (.int x), .own (.list L)] (n : Int) := cb_ev (rs := [(.list L, .at 2)]) (res := (.int (n : Int), false)) rfl xl
    generalize hnn : (n : Int) = nn at ln
    have im : ∀ {k : Int} {d : D}, gIx (.list L) (.int (-k)) = some (d, false) → mOp gIx (mVar 2) (mUn gNeg (mC (.int k))) [.fz T, .fz (.int x), .own (.list L)] = some ((d, .fz), [.fz T, .fz (.int x), .own (.list L)]) := fun {k d} h => op_at (i := 2) (y := .list L) (r := (.int (-k), .fz)) (res := (d, false)) (sv_at (var_own rfl)) (sv_fz (ie_neg ie_c)) rfl h
    have i1 := im (k := 1) x1
    have i2 := im (k := 2) x2
    have i3 := im (k := 3) x3
    have sl : mSl gSl (mVar 2) mNoPart (mPart (mUn gNeg (mC (.int 3)))) [.fz T, .fz (.int x), .own (.list L)] = some ((.list (pre.map Tr.enc), .new), [.fz T, .fz (.int x), .own (.list L)]) := by
      have ev : sv (mUn gNeg (mC (.int 3))) [.fz T, .fz (.int x), .own (.list L)] = some ((.int (-3), .fz), [.fz T, .fz (.int x), .own (.list L)]) := sv_fz (ie_neg ie_c)
      unfold mSl mPart
      rw [sv_at (var_own (d := .list L) rfl), Option.bind_some]
      dsimp only [mNoPart, Option.bind_some]
      rw [ev]
      dsimp only [Option.bind_some, asI, Option.map_some, refr, List.getElem?_cons_succ, List.getElem?_cons_zero]
      rw [xs]
      rfl
    have b1 : BE (mCall m_stands_left (mCons (mOp gIx (mVar 2) (mUn gNeg (mC (.int 2)))) (mCons (mOp gIx (mVar 2) (mUn gNeg (mC (.int 1)))) mNil))) [.fz T, .fz (.int x), .own (.list L)] _ := be_call (rs := [(p.enc, .fz), (v.enc, .fz)]) (cons_fz (sv_fz i2) (cons_fz (sv_fz i1) nil_ev)) s1
    have b2 : BE (mCall m_stands_left (mCons (mOp gIx (mVar 2) (mUn gNeg (mC (.int 3)))) (mCons (mOp gIx (mVar 2) (mUn gNeg (mC (.int 2)))) mNil))) [.fz T, .fz (.int x), .own (.list L)] _ := be_call (rs := [(g.enc, .fz), (p.enc, .fz)]) (cons_fz (sv_fz i3) (cons_fz (sv_fz i2) nil_ev)) s2
    rw [kv] at b1
    have tst : mTest (mOp gEq (mCall m_stands_left (mCons (mOp gIx (mVar 2) (mUn gNeg (mC (.int 2)))) (mCons (mOp gIx (mVar 2) (mUn gNeg (mC (.int 1)))) mNil))) (mCall m_stands_left (mCons (mOp gIx (mVar 2) (mUn gNeg (mC (.int 3)))) (mCons (mOp gIx (mVar 2) (mUn gNeg (mC (.int 2)))) mNil)))) [.fz T, .fz (.int x), .own (.list L)] = some (decide (q = 2), [.fz T, .fz (.int x), .own (.list L)]) := by
      refine test_ev (k := .fz) (op_ev (r := (.bool (decide (keyOf p < keyOf g)), .fz)) (res := (.bool (decide (q = 2)), false)) (sv_fz b1) (sv_fz b2) ((gEq_bool _ _).trans ?_))
      congr 3
      by_cases hq : q = 2
      · have := sd.mpr hq
        rw [decide_eq_true hq, beq_iff_eq]
        exact decide_eq_decide.mpr this
      · have : ¬ (x < keyOf p ↔ keyOf p < keyOf g) := fun z => hq (sd.mp z)
        rw [decide_eq_false hq, beq_eq_false_iff_ne]
        exact fun z => this (decide_eq_decide.mp z)
    refine fn_of (o := .rt (.tuple [.str (kindS q), t'.enc], .fz) [.fz T, .fz (.int x), .own (.list L)]) rfl ?_ rfl
    refine seq_nx (ρ1 := [.fz T, .fz (.int x), .own (.list L)]) (asg_new (call_pure (rs := [(T, .fz), (.int x, .fz)]) rfl hp hpu) rfl) ?_
    refine seq_nx (ρ1 := [.fz T, .fz (.int x), .own (.list L)]) (if_f (or_f (tNe ln ie_c (by omega)) (tstB (be_ne (op_ev (r := (.int 1, .fz)) (res := (.int x, false)) (sv_fz i1) (sv_fz rfl) p1) (ie_var rfl)) (by simp))) rfl) ?_
    refine seq_nx (if_f (tNe ln ie_c (by omega)) rfl) ?_
    refine seq_nx (if_f (tNe ln ie_c (by omega)) rfl) ?_
    by_cases hq : q = 2
    · subst hq
      rw [decide_eq_true rfl] at tst
      exact seq_rt (if_t tst (ret_eq (tup_ev (rs := [(.str "straight", .fz), (t'.enc, .fz)]) (cons_fz rfl (cons_fz (sv_fz (call_pure (o := false) (rs := [(.list (pre.map Tr.enc), .fz), ((opT 2 g p v).enc, .fz)]) (cons_fz (sv_new sl) (cons_fz (sv_fz (call_pure (o := false) (rs := [(g.enc, .fz), (p.enc, .fz), (v.enc, .fz)]) (cons_fz (sv_fz i3) (cons_fz (sv_fz i2) (cons_fz (sv_fz i1) nil_ev))) st pu)) nil_ev)) hu pt)) nil_ev)) rfl (by simp))))
    · have h3 : q = 3 := by have := h.kind; omega
      subst h3
      rw [decide_eq_false (by decide)] at tst
      exact seq_nx (if_f tst rfl) (ret_eq (tup_ev (rs := [(.str "bent", .fz), (t'.enc, .fz)]) (cons_fz rfl (cons_fz (sv_fz (call_pure (o := false) (rs := [(.list (pre.map Tr.enc), .fz), ((opT 3 g p v).enc, .fz)]) (cons_fz (sv_new sl) (cons_fz (sv_fz (call_pure (o := false) (rs := [(g.enc, .fz), (p.enc, .fz), (v.enc, .fz)]) (cons_fz (sv_fz i3) (cons_fz (sv_fz i2) (cons_fz (sv_fz i1) nil_ev))) be pu)) nil_ev)) hu pt)) nil_ev)) rfl (by simp)))
theorem canLay_enc : ∀ t : Tr, PyData.canLay0 t.enc = true
  | .nil => rfl
  | .nd l k r => by simp only [Tr.enc, PyData.canLay0, PyData.canLayAll0, canLay_enc l, canLay_enc r, Bool.and_self]
theorem depth_enc : ∀ t : Tr, PyData.depth t.enc ≤ t.ht
  | .nil => Nat.le_refl _
  | .nd l k r => by
    have := depth_enc l
    have := depth_enc r
    simp only [Tr.enc, PyData.depth, PyData.depthAll, Tr.ht]
    omega
theorem canLay_told : ∀ tr : List (Nat × Tr), PyData.canLayAll0 (tr.map toldD) = true
  | [] => rfl
  | p :: tr => by
    have s : PyData.strOk (kindS p.1) = true := by
      unfold kindS
      split
      · decide +kernel
      · split <;> decide +kernel
    rw [List.map_cons]
    simp only [PyData.canLayAll0, toldD, PyData.canLay0, canLay_enc, s, canLay_told tr, Bool.and_self]
theorem depth_told (n : Nat) : ∀ tr : List (Nat × Tr), (∀ p ∈ tr, p.2.ht ≤ n) → PyData.depthAll (tr.map toldD) ≤ n + 1
  | [], _ => Nat.zero_le _
  | p :: tr, h => by
    have h1 := depth_told n tr fun q hq => h q (List.mem_cons_of_mem _ hq)
    have h2 := depth_enc p.2
    have h3 := h p List.mem_cons_self
    rw [List.map_cons]
    simp only [PyData.depthAll, toldD, PyData.depth]
    omega
theorem shaped_told (tr : List (Nat × Tr)) (h : ∀ p ∈ tr, p.2.ht ≤ 60) : SeqAt.shaped (.list (tr.map toldD)) = true := by
  have d := depth_told 60 tr h
  unfold SeqAt.shaped
  rw [show PyData.canLay0 (.list (tr.map toldD)) = true by simp only [PyData.canLay0, canLay_told], decide_eq_true (show PyData.depth (.list (tr.map toldD)) ≤ 64 by simp only [PyData.depth]; omega)]
  rfl
theorem told_ne (tr : List (Nat × Tr)) (h : ∀ p ∈ tr, p.2.ht ≤ 60) : gNe (.list (tr.map toldD)) (.list (tr.map toldD)) = some (.bool false, false) := by
  have s := shaped_told tr h
  unfold gNe
  rw [if_pos ⟨s, s⟩, SeqAt.eqv_refl _ (SeqAt.canLay_of_shaped s)]
  rfl
theorem up_sizes {x : Int} {t u : Tr} {tr : List (Nat × Tr)} (h : Up x t tr u) : ∀ p ∈ tr, p.2.size = t.size := by
  induction h with
  | done => intro p hp; cases hp
  | step _ tn _ ih =>
    intro p hp
    rcases List.mem_cons.mp hp with rfl | hp
    · exact tn.size
    · rw [ih p hp, tn.size]
theorem up_loop (T : D) (x : Int) {t u : Tr} {tr : List (Nat × Tr)} (h : Up x t tr u) : ∀ (n : Nat) (done : List D) (s : Sl), SF s → t.Bst → t.size ≤ 60 → tr.length < n → done.length + tr.length ≤ 1000 → ∃ s', mWhile wc1_turn_up wb1_turn_up n [.fz T, .fz (.int x), .own (.list done), .fz t.enc, s] = some (.nx [.fz T, .fz (.int x), .own (.list (done ++ tr.map toldD)), .fz u.enc, s']) := by
  induction h with
  | @done t hn e =>
    intro n done s hs hb hz hl hd
    match n, hl with
    | n + 1, hl =>
      have rx : gIx t.enc (.int 1) = some (.int (keyOf t), false) := by
        cases t with
        | nil => exact absurd rfl hn
        | nd l k r => rfl
      refine ⟨s, ?_⟩
      rw [List.map_nil, List.append_nil]
      generalize t.enc = U at *
      exact while_end (tstB (be_ne (op_ev (r := (.int 1, .fz)) (res := (.int (keyOf t), false)) (sv_fz (var_fz rfl)) (sv_fz rfl) rx) (ie_var rfl)) (by simp [e]))
  | @step q t t' u tr hk tn hu ih =>
    intro n done s hs hb hz hl hd
    match n, hl with
    | n + 1, hl =>
      rw [List.length_cons] at hl hd
      have hh : t.ht ≤ 60 := Nat.le_trans (Tr.ht_size _) hz
      have tk := turn_is tn hb hh
      have pw : pureR (.tuple [.str (kindS q), t'.enc]) false = true := by rw [pureR_tup]; simp only [pureDs, pureD, Tr.pure_enc, Bool.and_self]
      obtain ⟨s', e⟩ := ih n (done ++ [toldD (q, t')]) (.fz (toldD (q, t'))) (SF.fz _) (tn.bst hb) (by rw [tn.size]; exact hz) (by omega) (by rw [List.length_append, List.length_singleton]; omega)
      refine ⟨s', ?_⟩
      rw [List.map_cons, show done ++ toldD (q, t') :: tr.map toldD = done ++ [toldD (q, t')] ++ tr.map toldD from List.append_cons _ _ _]
      have rx : gIx t.enc (.int 1) = some (.int (keyOf t), false) := by
        cases t with
        | nil => cases tn
        | nd l k r => rfl
      have e0 : toldD (q, t') = .tuple [.str (kindS q), t'.enc] := rfl
      rw [e0] at e ⊢
      generalize kindS q = kq at *
      generalize t.enc = A at *
      generalize t'.enc = A' at *
      refine while_go (ρ1 := [.fz T, .fz (.int x), .own (.list done), .fz A, s]) (tstB (be_ne (op_ev (r := (.int 1, .fz)) (res := (.int (keyOf t), false)) (sv_fz (var_fz rfl)) (sv_fz rfl) rx) (ie_var rfl)) (by simp [hk])) ?_ e
      refine seq_nx (ρ1 := [.fz T, .fz (.int x), .own (.list done), .fz A, .fz (.tuple [.str kq, A'])]) (asg_fz (call_pure (o := false) (rs := [(A, .fz), (.int x, .fz)]) rfl tk pw) (by rcases hs with rfl | ⟨_, rfl⟩ <;> rfl)) ?_
      refine seq_nx (ρ1 := [.fz T, .fz (.int x), .own (.list (done ++ [.tuple [.str kq, A']])), .fz A, .fz (.tuple [.str kq, A'])]) (app_ev _ _ rfl rfl rfl rfl (by omega) rfl) ?_
      exact asg_fz (op_ev (r := (.int 1, .fz)) (res := (A', false)) (sv_fz (var_fz rfl)) (sv_fz rfl) rfl) rfl
theorem up_is {x : Int} {t u : Tr} {tr : List (Nat × Tr)} (h : Up x t tr u) (hb : t.Bst) (hz : t.size ≤ 60) : m_turn_up [t.enc, .int x] = some (.tuple [u.enc, .list (tr.map toldD)], false) := by
  have l1 := h.len
  have l2 := trail_len t x
  have l3 := Tr.ht_size t
  obtain ⟨s', e⟩ := up_loop t.enc x h 1000000 [] .no SF.no hb hz (by omega) (by simp only [List.length_nil]; omega)
  rw [List.nil_append] at e
  refine fn_of (o := .rt (.tuple [u.enc, .list (tr.map toldD)], .fz) [.fz t.enc, .fz (.int x), .fz (.list (tr.map toldD)), .fz u.enc, s']) rfl ?_ rfl
  refine seq_nx (ρ1 := [.fz t.enc, .fz (.int x), .own (.list []), .no, .no]) (asg_new (lst_ev rfl rfl (by simp)) rfl) ?_
  refine seq_nx (ρ1 := [.fz t.enc, .fz (.int x), .own (.list []), .fz t.enc, .no]) rfl ?_
  exact seq_nx e (ret_eq (tup_ev (rs := [(u.enc, .fz), (.list (tr.map toldD), .at 2)]) rfl rfl (by simp)))
theorem way_is (t : Tr) (x : Int) (hh : t.ht ≤ 60) : m_way_to [t.enc, .int x] = some (.list (((trail t x).map keyOf).map .int), true) := by
  have hp := parts_is t x hh
  have hl := trail_len t x
  refine fn_of (o := .rt (.list (((trail t x).map keyOf).map .int), .new) [.fz t.enc, .fz (.int x)]) rfl (ret_eq (lc_ev (ys := ((trail t x).map keyOf).map .int) (itl_ev (sv_new (call_pure (rs := [(t.enc, .fz), (.int x, .fz)]) rfl hp (pures_enc _)))) ?_ (by simp only [List.length_map]; omega))) rfl
  rw [List.map_map]
  refine compL_map _ fun u hu => ?_
  obtain ⟨l, k, r, rfl⟩ := trail_nd t x u hu
  exact ⟨_, sv_fz (op_ev (r := (.int 1, .fz)) (res := (.int k, false)) (sv_fz (var_fz rfl)) (sv_fz rfl) rfl)⟩
theorem ask_nil (x : Int) : m_ask_tree [.none, .int x] = some (.tuple [.bool false, .none, .list []], false) :=
  fn_of (o := .rt (.tuple [.bool false, .none, .list []], .fz) [.fz .none, .fz (.int x), .no]) rfl (seq_rt (if_t rfl (ret_eq (tup_ev (rs := [(.bool false, .fz), (.none, .fz), (.list [], .fz)]) (cons_fz rfl (cons_fz rfl (cons_fz (sv_new (lst_ev rfl rfl (by simp))) nil_ev))) rfl (by simp))))) rfl
theorem ask_is {t u : Tr} {tr : List (Nat × Tr)} {x : Int} (h : Up (lastK t x) t tr u) (hn : t.keys ≠ []) (hb : t.Bst) (hz : t.size ≤ 60) : m_ask_tree [t.enc, .int x] = some (.tuple [.bool (decide (lastK t x = x)), u.enc, .list (tr.map toldD)], false) := by
  have hu := up_is h hb hz
  have hw := way_is t x (Nat.le_trans (Tr.ht_size _) hz)
  have hg : gIx (.list (((trail t x).map keyOf).map .int)) (.int (-1)) = some (.int (lastK t x), false) := gIx_list _ _ _ (by rw [Mir.atI_last, List.getLast?_map, lastK_way x t hn]; rfl)
  have nn : gIs t.enc .none = some (.bool false, false) := by
    cases t with
    | nil => exact absurd rfl hn
    | nd l k r => rfl
  obtain ⟨ul, ur, eu⟩ := h.nd
  have ku : gIx u.enc (.int 1) = some (.int (lastK t x), false) := by rw [eu]; rfl
  have pi := pureDs_ints ((trail t x).map keyOf)
  generalize ((trail t x).map keyOf).map PyData.int = W at *
  generalize lastK t x = k at *
  generalize t.enc = T at *
  generalize u.enc = U at *
  generalize tr.map toldD = L at *
  refine fn_of (o := .rt (.tuple [.bool (decide (k = x)), U, .list L], .fz) [.fz T, .fz (.int x), .fz (.tuple [U, .list L])]) rfl ?_ rfl
  refine seq_nx (ρ1 := [.fz T, .fz (.int x), .no]) (if_f (test_ev (k := .fz) (op_ev (r := (.none, .fz)) (res := (.bool false, false)) (sv_fz (var_fz rfl)) (sv_fz rfl) nn)) rfl) ?_
  refine seq_nx (ρ1 := [.fz T, .fz (.int x), .fz (.tuple [U, .list L])]) (asg_fz (call_fz (o := false) (rs := [(T, .fz), (.int k, .fz)]) (cons_fz (sv_fz (var_fz rfl)) (consI (op_ev (r := (.int (-1), .fz)) (res := (.int k, false)) (sv_new (call_pure (rs := [(T, .fz), (.int x, .fz)]) rfl hw pi)) (sv_fz (ie_neg ie_c)) hg) nil_ev)) hu rfl) rfl) ?_
  have i0 : mOp gIx (mVar 2) (mC (.int 0)) [.fz T, .fz (.int x), .fz (.tuple [U, .list L])] = some ((U, .fz), [.fz T, .fz (.int x), .fz (.tuple [U, .list L])]) := rfl
  have i1 : mOp gIx (mVar 2) (mC (.int 1)) [.fz T, .fz (.int x), .fz (.tuple [U, .list L])] = some ((.list L, .fz), [.fz T, .fz (.int x), .fz (.tuple [U, .list L])]) := rfl
  exact ret_eq (tup_ev (rs := [(.bool (decide (k = x)), .fz), (U, .fz), (.list L, .fz)]) (cons_fz (sv_fz (be_eq (op_ev (r := (.int 1, .fz)) (res := (.int k, false)) (sv_fz i0) (sv_fz rfl) ku) (ie_var rfl))) (cons_fz (sv_fz i0) (cons_fz (sv_fz i1) nil_ev))) rfl (by simp))
structure Asked (t : Tr) (x : Int) (b : Bool) (u : Tr) (tr : List (Nat × Tr)) : Prop where
  is : m_ask_tree [t.enc, .int x] = some (.tuple [.bool b, u.enc, .list (tr.map toldD)], false)
  keys : u.keys = t.keys
  mem : b = true ↔ x ∈ t.keys
  top : t.keys ≠ [] → Up (lastK t x) t tr u
  dec : t.keys ≠ [] → b = decide (lastK t x = x)
  none : t.keys = [] → t = .nil ∧ u = .nil ∧ tr = []
theorem ask_ex (t : Tr) (x : Int) (hb : t.Bst) (hz : t.size ≤ 60) : ∃ b u tr, Asked t x b u tr := by
  by_cases hn : t.keys = []
  · have ht : t = .nil := by
      cases t with
      | nil => rfl
      | nd l k r => simp [Tr.keys] at hn
    subst ht
    exact ⟨false, .nil, [], ask_nil x, rfl, ⟨fun h => by (cases h), fun h => by (cases h)⟩, fun h => absurd rfl h, fun h => absurd rfl h, fun _ => ⟨rfl, rfl, rfl⟩⟩
  · obtain ⟨tr, u, hu⟩ := up_ex (lastK t x) _ t (Nat.le_refl _) hb (lastK_mem x t hn)
    refine ⟨_, u, tr, ask_is hu hn hb hz, hu.keys, ⟨fun h => ?_, fun h => ?_⟩, fun _ => hu, fun _ => rfl, fun h => absurd h hn⟩
    · have := of_decide_eq_true h
      have := lastK_mem x t hn
      rw [of_decide_eq_true h] at this
      exact this
    · exact decide_eq_true (lastK_eq x t hb h)
theorem alike_is : ∀ (n : Nat) (t : Tr), t.ht < n → m_law_alike n [t.enc, t.enc] = some (.bool true, false)
  | n + 1, .nil, _ => fn_of (o := .rt (.bool true, .fz) [.fz .none, .fz .none]) rfl (seq_rt (if_t rfl rfl)) rfl
  | n + 1, .nd l k r, h => by
    simp only [Tr.ht] at h
    have hl := alike_is n l (by omega)
    have hr := alike_is n r (by omega)
    have d0 : gIx (Tr.nd l k r).enc (.int 0) = some (l.enc, false) := rfl
    have d1 : gIx (Tr.nd l k r).enc (.int 1) = some (.int k, false) := rfl
    have d2 : gIx (Tr.nd l k r).enc (.int 2) = some (r.enc, false) := rfl
    have d3 : gIx (Tr.nd l k r).enc (.int 3) = some (.int ((l.size + 1 + r.size : Nat) : Int), false) := rfl
    have nn : gIs (Tr.nd l k r).enc .none = some (.bool false, false) := rfl
    have ti : gIsi "tuple" (Tr.nd l k r).enc = some (.bool true, false) := isi_tuple_tuple _
    have tl : gLen [(Tr.nd l k r).enc] = some (.int 4, false) := rfl
    generalize ((l.size + 1 + r.size : Nat) : Int) = z at d3
    generalize (Tr.nd l k r).enc = dd at *
    have ix : ∀ {i : Nat} {j : Int} {d : D}, ([.fz dd, .fz dd] : Rho)[i]? = some (.fz dd) → gIx dd (.int j) = some (d, false) → mOp gIx (mVar i) (mC (.int j)) [.fz dd, .fz dd] = some ((d, .fz), [.fz dd, .fz dd]) := fun h0 h => op_ev (r := (.int _, .fz)) (sv_fz (var_fz h0)) (sv_fz rfl) h
    have no : ∀ {i : Nat}, ([.fz dd, .fz dd] : Rho)[i]? = some (.fz dd) → mTest (mOp gIs (mVar i) (mC .none)) [.fz dd, .fz dd] = some (false, [.fz dd, .fz dd]) := fun h0 => test_ev (k := .fz) (op_ev (r := (.none, .fz)) (res := (.bool false, false)) (sv_fz (var_fz h0)) (sv_fz rfl) nn)
    have wh : ∀ {j : Int} {v : Int}, gIx dd (.int j) = some (.int v, false) → mNot (mTest (mCall m_law_whole (mCons (mOp gIx (mVar 0) (mC (.int j))) mNil))) [.fz dd, .fz dd] = some (false, [.fz dd, .fz dd]) := fun {j v} h => not_ev (v := true) (be_call (rs := [(.int v, .fz)]) (cons_fz (sv_fz (ix rfl h)) nil_ev) (whole v)).t
    refine fn_of (o := .rt (.bool true, .fz) [.fz dd, .fz dd]) rfl ?_ rfl
    refine seq_nx (ρ1 := [.fz dd, .fz dd]) (if_f (or_f (no rfl) (no rfl)) rfl) ?_
    refine seq_nx (ρ1 := [.fz dd, .fz dd]) (if_f (or_f (not_ev (v := true) (test_ev (k := .fz) (isi_ev (sv_fz (var_fz rfl)) ti))) (tstB (be_ne (i := 4) (cb_ev (rs := [(dd, .fz)]) (res := (.int 4, false)) rfl tl) ie_c) (by decide))) rfl) ?_
    refine seq_nx (ρ1 := [.fz dd, .fz dd]) (if_f (or_f (wh d1) (or_f (wh d3) (or_f (tstB (be_ne (ix rfl d1) (ix rfl d1)) (by simp)) (tstB (be_ne (ix rfl d3) (ix rfl d3)) (by simp))))) rfl) ?_
    exact ret_eq (be_and (u := true) (be_call (rs := [(l.enc, .fz), (l.enc, .fz)]) (cons_fz (sv_fz (ix rfl d0)) (cons_fz (sv_fz (ix rfl d0)) nil_ev)) hl) (fun _ => be_call (rs := [(r.enc, .fz), (r.enc, .fz)]) (cons_fz (sv_fz (ix rfl d2)) (cons_fz (sv_fz (ix rfl d2)) nil_ev)) hr) (fun h => by cases h))
theorem rising_is : ∀ (n : Nat) (t : Tr), t.ht < n → t.size ≤ 1000 → m_law_rising n [t.enc] = some (.list (t.keys.map .int), true)
  | n + 1, .nil, _, _ => by
    refine fn_of (o := .rt (.list [], .new) [.fz .none]) rfl ?_ rfl
    exact seq_rt (if_t rfl (ret_eq (lst_ev rfl rfl (by simp))))
  | n + 1, .nd l k r, h, hz => by
    simp only [Tr.ht] at h
    simp only [Tr.size] at hz
    have hl := rising_is n l (by omega) (by omega)
    have hr := rising_is n r (by omega) (by omega)
    generalize hD : (Tr.nd l k r).enc = dd
    have cl : mCall (m_law_rising n) (mCons (mOp gIx (mVar 0) (mC (.int 0))) mNil) [.fz dd] = some ((.list (l.keys.map .int), .new), [.fz dd]) := call_pure (rs := [(l.enc, .fz)]) (by rw [← hD]; rfl) hl (pureDs_ints _)
    have cr : mCall (m_law_rising n) (mCons (mOp gIx (mVar 0) (mC (.int 2))) mNil) [.fz dd] = some ((.list (r.keys.map .int), .new), [.fz dd]) := call_pure (rs := [(r.enc, .fz)]) (by rw [← hD]; rfl) hr (pureDs_ints _)
    have i1 : IE (mOp gIx (mVar 0) (mC (.int 1))) [.fz dd] k := by rw [← hD]; rfl
    have ls : mLst (mCons (mOp gIx (mVar 0) (mC (.int 1))) mNil) [.fz dd] = some ((.list ([k].map .int), .new), [.fz dd]) := lst_ev (consI i1 nil_ev) rfl (by simp)
    have z1 := Tr.len_keys l
    have z2 := Tr.len_keys r
    have e3 := op_ev (g := gAdd) (sv_new cl) (sv_new ls) (gAdd_ints l.keys [k] (by simp only [List.length_cons, List.length_nil]; omega))
    have e4 := op_ev (g := gAdd) (sv_new e3) (sv_new cr) (gAdd_ints (l.keys ++ [k]) r.keys (by simp only [List.length_append, List.length_cons, List.length_nil]; omega))
    refine fn_of (o := .rt (.list ((l.keys ++ [k] ++ r.keys).map .int), .new) [.fz dd]) rfl ?_ ?_
    · refine seq_nx (ρ1 := [.fz dd]) (if_f ?_ rfl) (ret_eq e4)
      rw [← hD]; rfl
    · rw [List.append_assoc]; rfl
theorem lawcred_is : ∀ (n : Nat) (t : Tr), t.ht < n → m_law_credit n [t.enc] = some (.int (cred t), false)
  | n + 1, .nil, _ => fn_of (o := .rt (.int 0, .fz) [.fz .none]) rfl (seq_rt (if_t rfl rfl)) rfl
  | n + 1, .nd l k r, h => by
    simp only [Tr.ht] at h
    have hl := lawcred_is n l (by omega)
    have hr := lawcred_is n r (by omega)
    have d0 : gIx (Tr.nd l k r).enc (.int 0) = some (l.enc, false) := rfl
    have d2 : gIx (Tr.nd l k r).enc (.int 2) = some (r.enc, false) := rfl
    have d3 : gIx (Tr.nd l k r).enc (.int 3) = some (.int ((l.size + 1 + r.size : Nat) : Int), false) := rfl
    have nn : gIs (Tr.nd l k r).enc .none = some (.bool false, false) := rfl
    generalize (Tr.nd l k r).enc = dd at *
    have ix : ∀ {j : Int} {d : D}, gIx dd (.int j) = some (d, false) → mOp gIx (mVar 0) (mC (.int j)) [.fz dd] = some ((d, .fz), [.fz dd]) := fun h => op_ev (r := (.int _, .fz)) (sv_fz (var_fz rfl)) (sv_fz rfl) h
    refine fn_of (o := .rt (.int (cred (.nd l k r)), .fz) [.fz dd]) rfl (seq_nx (ρ1 := [.fz dd]) (if_f (test_ev (k := .fz) (op_ev (r := (.none, .fz)) (res := (.bool false, false)) (sv_fz (var_fz rfl)) (sv_fz rfl) nn)) rfl) (ret_eq ?_)) rfl
    have bm : IE (mBM0 gBits (mOp gIx (mVar 0) (mC (.int 3)))) [.fz dd] (bits (l.size + 1 + r.size)) := by
      unfold IE mBM0
      rw [sv_fz (ix d3)]
      rfl
    exact ie_add (ie_add (ie_call (rs := [(l.enc, .fz)]) (cons_fz (sv_fz (ix d0)) nil_ev) hl) bm) (ie_call (rs := [(r.enc, .fz)]) (cons_fz (sv_fz (ix d2)) nil_ev) hr)
theorem key_at (ks : List Int) (i : Int) (hn : 0 < ks.length) : ∃ (n : Nat) (hn : n < ks.length), i % (ks.length : Int) = (n : Int) ∧ gIx (.list (ks.map .int)) (.int (i % (ks.length : Int))) = some (.int ks[n], false) := by
  have h1 := Int.emod_nonneg i (show (ks.length : Int) ≠ 0 by omega)
  have h2 := Int.emod_lt_of_pos i (show (0 : Int) < (ks.length : Int) by omega)
  obtain ⟨n, e⟩ := Int.eq_ofNat_of_zero_le h1
  have hlt : n < ks.length := by omega
  refine ⟨n, hlt, e, ?_⟩
  rw [e]
  refine gIx_list _ _ _ ?_
  rw [Mir.atI_nat]
  simp [hlt]
theorem stack_loop (T : D) : ∀ (n : Nat) (st done : List Tr) (s : Sl), wt st < n → done.length + szs st ≤ 1000 → st.length + szs st ≤ 1000 → SF s → ∃ s', SF s' ∧ mWhile wc1_parts_of wb1_parts_of n [.fz T, .own (.list (done.map Tr.enc)), .own (.list (st.reverse.map Tr.enc)), s] = some (.nx [.fz T, .own (.list ((done ++ st.flatMap rpre).map Tr.enc)), .own (.list []), s'])
  | 0, _, _, _, h, _, _, _ => absurd h (Nat.not_lt_zero _)
  | n + 1, [], done, s, _, _, _, hs => ⟨s, hs, by
    have e : (done ++ ([] : List Tr).flatMap rpre) = done := by simp
    rw [e]
    refine while_end (tstB (be_gt (i := 0) (cb_ev (rs := [(.list [], .at 2)]) (res := (.int 0, false)) rfl rfl) ie_c) (by decide))⟩
  | n + 1, t :: st, done, s, h, hd, hw, hs => by
    simp only [wt] at h
    simp only [szs] at hd hw
    rw [List.length_cons] at hw
    have c : wc1_parts_of [.fz T, .own (.list (done.map Tr.enc)), .own (.list ((t :: st).reverse.map Tr.enc)), s] = some (true, [.fz T, .own (.list (done.map Tr.enc)), .own (.list ((t :: st).reverse.map Tr.enc)), s]) :=
      tstB (be_gt (i := (((t :: st).reverse.map Tr.enc).length : Nat)) (cb_ev (rs := [(.list ((t :: st).reverse.map Tr.enc), .at 2)]) (res := (.int _, false)) rfl rfl) ie_c) (decide_eq_true (by simp only [List.length_map, List.length_reverse, List.length_cons]; omega))
    have e1 : (t :: st).reverse.map Tr.enc = st.reverse.map Tr.enc ++ [t.enc] := by simp
    rw [e1] at c ⊢
    have p : mAsg 3 (mMut0 2 fPop) [.fz T, .own (.list (done.map Tr.enc)), .own (.list (st.reverse.map Tr.enc ++ [t.enc])), s] = some (.nx [.fz T, .own (.list (done.map Tr.enc)), .own (.list (st.reverse.map Tr.enc)), .fz t.enc]) :=
      asg_fz (pop_ev t.enc (st.reverse.map Tr.enc) rfl rfl) (by rcases hs with rfl | ⟨_, rfl⟩ <;> rfl)
    cases t with
    | nil =>
      obtain ⟨s', hs', e⟩ := stack_loop T n st done (.fz Tr.nil.enc) (by omega) (by simp only [Tr.size] at hd; omega) (by simp only [Tr.size] at hw; omega) (SF.fz _)
      exact ⟨s', hs', while_go c (seq_nx p (if_f rfl rfl)) e⟩
    | nd l k r =>
      simp only [Tr.size] at h hd hw
      obtain ⟨s', hs', e⟩ := stack_loop T n (r :: l :: st) (done ++ [.nd l k r]) (.fz (Tr.nd l k r).enc) (by simp only [wt]; omega) (by simp only [szs, List.length_append, List.length_singleton]; omega) (by simp only [szs, List.length_cons]; omega) (SF.fz _)
      have e2 : (done ++ [Tr.nd l k r]).map Tr.enc = done.map Tr.enc ++ [(Tr.nd l k r).enc] := by simp
      have e3 : (r :: l :: st).reverse.map Tr.enc = st.reverse.map Tr.enc ++ [l.enc] ++ [r.enc] := by simp
      have e4 : done ++ [Tr.nd l k r] ++ (r :: l :: st).flatMap rpre = done ++ (Tr.nd l k r :: st).flatMap rpre := by simp [rpre, List.flatMap_cons]
      rw [e2, e3, e4] at e
      refine ⟨s', hs', while_go c (seq_nx p (if_t (ρ1 := [.fz T, .own (.list (done.map Tr.enc)), .own (.list (st.reverse.map Tr.enc)), .fz (Tr.nd l k r).enc]) rfl ?_)) e⟩
      have d0 : gIx (Tr.nd l k r).enc (.int 0) = some (l.enc, false) := rfl
      have d2 : gIx (Tr.nd l k r).enc (.int 2) = some (r.enc, false) := rfl
      generalize (Tr.nd l k r).enc = P at d0 d2 ⊢
      refine seq_nx (app_ev P (done.map Tr.enc) rfl rfl rfl rfl (by rw [List.length_map]; omega) rfl) ?_
      refine seq_nx (app_ev l.enc (st.reverse.map Tr.enc) rfl (cons_fz (sv_fz (op_ev (r := (.int 0, .fz)) (res := (l.enc, false)) (sv_fz (var_fz rfl)) (sv_fz rfl) d0)) nil_ev) rfl rfl (by rw [List.length_map, List.length_reverse]; omega) rfl) ?_
      exact app_ev r.enc (st.reverse.map Tr.enc ++ [l.enc]) rfl (cons_fz (sv_fz (op_ev (r := (.int 2, .fz)) (res := (r.enc, false)) (sv_fz (var_fz rfl)) (sv_fz rfl) d2)) nil_ev) rfl rfl (by rw [List.length_append, List.length_map, List.length_reverse, List.length_singleton]; omega) rfl
theorem partsof_is (t : Tr) (h : t.size ≤ 500) : m_parts_of [t.enc] = some (.list ((rpre t).map Tr.enc), true) := by
  obtain ⟨s', _, e⟩ := stack_loop t.enc 1000000 [t] [] .no (by simp only [wt]; omega) (by simp only [szs, List.length_nil]; omega) (by simp only [szs, List.length_cons, List.length_nil]; omega) SF.no
  have e0 : ([] : List Tr) ++ [t].flatMap rpre = rpre t := by simp
  rw [e0] at e
  refine fn_of (o := .rt (.list ((rpre t).map Tr.enc), .at 1) [.fz t.enc, .own (.list ((rpre t).map Tr.enc)), .own (.list []), s']) rfl ?_ rfl
  refine seq_nx (ρ1 := [.fz t.enc, .own (.list []), .no, .no]) (asg_new (lst_ev rfl rfl (by simp)) rfl) ?_
  refine seq_nx (ρ1 := [.fz t.enc, .own (.list []), .own (.list [t.enc]), .no]) (asg_new (lst_ev rfl rfl (by simp)) rfl) ?_
  exact seq_nx e (ret_eq (var_own rfl))
theorem pures_encs : ∀ ts : List Tr, pureDs (ts.map Tr.enc) = true
  | [] => rfl
  | t :: ts => by rw [List.map_cons]; unfold pureDs; rw [Tr.pure_enc, pures_encs ts]; rfl
theorem keysof_is (t : Tr) (hb : t.Bst) (h : t.size ≤ 63) : m_keys_of [t.enc] = some (.list (t.keys.map .int), true) := by
  have hp := partsof_is t (by omega)
  have hl := rpre_len t
  have e := sortI_eq (rpre_keys t) ((Tr.sorted hb).imp fun h => Int.le_of_lt h)
  have hc : compL mYes ce1_keys_of [] ((rpre t).map Tr.enc) = some (((rpre t).map keyOf).map .int) := by
    rw [List.map_map]
    refine compL_map _ fun u hu => ?_
    obtain ⟨l, k, r, rfl⟩ := rpre_nd t u hu
    exact ⟨_, rfl⟩
  have hs := gSorted_ints ((rpre t).map keyOf) (by rw [List.length_map]; omega)
  rw [e] at hs
  exact fn_of (o := .rt (.list (t.keys.map .int), .new) [.fz t.enc]) rfl (ret_eq (cb_ev (res := (.list (t.keys.map .int), true)) (rs := [(.list (((rpre t).map keyOf).map .int), .fz)]) (cons_fz (sv_new (lc_ev (itl_ev (sv_new (call_pure (rs := [(t.enc, .fz)]) rfl hp (pures_encs _)))) hc (by simp only [List.length_map]; omega))) nil_ev) hs)) rfl
structure Tied (a b m : Tr) (tr : List (Nat × Tr)) : Prop where
  is : m_tie_trees [a.enc, b.enc] = some (.tuple [m.enc, .list (tr.map toldD)], false)
  keys : m.keys = a.keys ++ b.keys
  paid : (tr.length : Int) + cred m ≤ cred a + cred b + (if a.keys = [] ∨ b.keys = [] then 0 else 2 * bits a.size + bits (a.size + b.size) - 2)
  szs : ∀ p ∈ tr, p.2.size = a.size
  emp : a.keys = [] ∨ b.keys = [] → tr = [] ∧ m = (if a.keys = [] then b else a)
  top : a.keys ≠ [] → b.keys ≠ [] → ∃ l x r, Up x a tr (.nd l x r) ∧ m = .nd l x b ∧ a.keys.getLast? = some x
theorem keys_nil {t : Tr} (h : t.keys = []) : t = .nil := by
  cases t with
  | nil => rfl
  | nd l k r => simp [Tr.keys] at h
theorem nd_of {t : Tr} (h : t.keys ≠ []) : ∃ l k r, t = .nd l k r := by
  cases t with
  | nil => exact absurd rfl h
  | nd l k r => exact ⟨l, k, r, rfl⟩
theorem is_none {t : Tr} (h : t.keys ≠ []) : gIs t.enc .none = some (.bool false, false) := by
  obtain ⟨l, k, r, rfl⟩ := nd_of h
  rfl
theorem tie_ex (a b : Tr) (ha : a.Bst) (hb : b.Bst) (za : a.size ≤ 60) (zb : b.size ≤ 60) (hab : ∀ x ∈ a.keys, ∀ y ∈ b.keys, x < y) : ∃ m tr, Tied a b m tr := by
  by_cases na : a.keys = []
  · have e := keys_nil na
    subst e
    refine ⟨b, [], ?_, rfl, (by rw [if_pos (.inl rfl)]; simp only [List.length_nil, cred]; omega), (fun p hp => by cases hp), (fun _ => ⟨rfl, by rw [if_pos na]⟩), fun h => absurd rfl h⟩
    generalize b.enc = B
    exact fn_of (o := .rt (.tuple [B, .list []], .fz) [.fz .none, .fz B, .no, .no, .no]) rfl (seq_rt (if_t rfl (ret_eq (tup_ev (rs := [(B, .fz), (.list [], .fz)]) (cons_fz (sv_fz (var_fz rfl)) (cons_fz (sv_new (lst_ev rfl rfl (by simp))) nil_ev)) rfl (by simp))))) rfl
  by_cases nb : b.keys = []
  · have e := keys_nil nb
    subst e
    have nn := is_none na
    refine ⟨a, [], ?_, (by simp [Tr.keys]), (by rw [if_pos (.inr rfl)]; simp only [List.length_nil, cred]; omega), (fun p hp => by cases hp), (fun _ => ⟨rfl, by rw [if_neg na]⟩), fun _ h => absurd rfl h⟩
    generalize a.enc = A at *
    exact fn_of (o := .rt (.tuple [A, .list []], .fz) [.fz A, .fz .none, .no, .no, .no]) rfl (seq_nx (ρ1 := [.fz A, .fz .none, .no, .no, .no]) (if_f (test_ev (k := .fz) (op_ev (r := (.none, .fz)) (res := (.bool false, false)) (sv_fz (var_fz rfl)) (sv_fz rfl) nn)) rfl) (seq_rt (if_t rfl (ret_eq (tup_ev (rs := [(A, .fz), (.list [], .fz)]) (cons_fz (sv_fz (var_fz rfl)) (cons_fz (sv_new (lst_ev rfl rfl (by simp))) nil_ev)) rfl (by simp)))))) rfl
  have nna := is_none na
  have nnb := is_none nb
  have ka := keysof_is a ha (by omega)
  have kb := keysof_is b hb (by omega)
  obtain ⟨x, hx⟩ : ∃ x, a.keys.getLast? = some x := ⟨a.keys.getLast na, List.getLast?_eq_some_getLast na⟩
  obtain ⟨y, hy⟩ : ∃ y, b.keys[0]? = some y := ⟨b.keys[0]'(List.length_pos_iff.mpr nb), List.getElem?_eq_getElem _⟩
  have xm : x ∈ a.keys := List.mem_of_getLast? hx
  have ym : y ∈ b.keys := List.mem_of_getElem? hy
  have xy := hab x xm y ym
  obtain ⟨tr, u, hu⟩ := up_ex x _ a (Nat.le_refl _) ha xm
  have uu := up_is hu ha za
  have ub := hu.bst ha
  have uk := hu.keys
  have us := hu.size
  have pd := hu.ask ha xm
  obtain ⟨l, r, e⟩ := hu.nd
  have rn : r = .nil := by
    refine keys_nil ?_
    have hs := Tr.sorted ha
    rw [← uk, e] at hx hs
    simp only [Tr.keys] at hx hs
    cases hr : r.keys with
    | nil => rfl
    | cons z zs =>
      exfalso
      rw [hr, List.getLast?_append, List.getLast?_cons_cons, List.getLast?_cons] at hx
      have hm : x ∈ z :: zs := by
        have : (z :: zs).getLast? = some x := by
          rw [List.getLast?_cons]
          simpa using hx
        exact List.mem_of_getLast? this
      rw [e] at ub
      have := ub.2.2.2 x (by rw [hr]; exact hm)
      omega
  subst rn
  subst e
  have gx : gIx (.list (a.keys.map .int)) (.int (-1)) = some (.int x, false) := gIx_list _ _ _ (by rw [Mir.atI_last, List.getLast?_map, hx]; rfl)
  have gy : gIx (.list (b.keys.map .int)) (.int 0) = some (.int y, false) := gIx_list _ _ _ (by rw [show (0 : Int) = ((0 : Nat) : Int) from rfl, Mir.atI_nat, List.getElem?_map, hy]; rfl)
  refine ⟨.nd l x b, tr, ?_, ?_, ?_, up_sizes hu, (fun h => by rcases h with h | h; exact absurd h na; exact absurd h nb), fun _ _ => ⟨l, x, _, hu, rfl, hx⟩⟩
  · have d0 : gIx (Tr.nd l x .nil).enc (.int 0) = some (l.enc, false) := rfl
    have d1 : gIx (Tr.nd l x .nil).enc (.int 1) = some (.int x, false) := rfl
    generalize (Tr.nd l x .nil).enc = U at *
    generalize a.keys = ks at *
    generalize b.keys = ks' at *
    generalize a.enc = A at *
    generalize tr.map toldD = L at *
    refine fn_of (o := .rt (.tuple [(Tr.nd l x b).enc, .list L], .fz) [.fz A, .fz b.enc, .fz (.int x), .fz (.tuple [U, .list L]), .fz U]) rfl ?_ rfl
    refine seq_nx (ρ1 := [.fz A, .fz b.enc, .no, .no, .no]) (if_f (test_ev (k := .fz) (op_ev (r := (.none, .fz)) (res := (.bool false, false)) (sv_fz (var_fz rfl)) (sv_fz rfl) nna)) rfl) ?_
    refine seq_nx (ρ1 := [.fz A, .fz b.enc, .no, .no, .no]) (if_f (test_ev (k := .fz) (op_ev (r := (.none, .fz)) (res := (.bool false, false)) (sv_fz (var_fz rfl)) (sv_fz rfl) nnb)) rfl) ?_
    refine seq_nx (ρ1 := [.fz A, .fz b.enc, .fz (.int x), .no, .no]) (asgI (op_ev (r := (.int (-1), .fz)) (res := (.int x, false)) (sv_new (call_pure (rs := [(A, .fz)]) rfl ka (pureDs_ints _))) (sv_fz (ie_neg ie_c)) gx) rfl) ?_
    refine seq_nx (ρ1 := [.fz A, .fz b.enc, .fz (.int x), .no, .no]) (if_f (tstB (be_ge (ie_var rfl) (op_ev (r := (.int 0, .fz)) (res := (.int y, false)) (sv_new (call_pure (rs := [(b.enc, .fz)]) rfl kb (pureDs_ints _))) (sv_fz rfl) gy)) (decide_eq_false (by omega))) rfl) ?_
    refine seq_nx (ρ1 := [.fz A, .fz b.enc, .fz (.int x), .fz (.tuple [U, .list L]), .no]) (asg_fz (call_fz (o := false) (rs := [(A, .fz), (.int x, .fz)]) rfl uu rfl) rfl) ?_
    refine seq_nx (ρ1 := [.fz A, .fz b.enc, .fz (.int x), .fz (.tuple [U, .list L]), .fz U]) rfl ?_
    have ix : ∀ {j : Int} {d : D}, gIx U (.int j) = some (d, false) → mOp gIx (mVar 4) (mC (.int j)) [.fz A, .fz b.enc, .fz (.int x), .fz (.tuple [U, .list L]), .fz U] = some ((d, .fz), [.fz A, .fz b.enc, .fz (.int x), .fz (.tuple [U, .list L]), .fz U]) := fun h => op_ev (r := (.int _, .fz)) (sv_fz (var_fz rfl)) (sv_fz rfl) h
    exact ret_eq (tup_ev (rs := [((Tr.nd l x b).enc, .fz), (.list L, .fz)]) (cons_fz (sv_fz (tree_call (sv_fz (ix d0)) (ix d1) (sv_fz (var_fz rfl)))) (cons_fz (sv_fz (op_ev (r := (.int 1, .fz)) (res := (.list L, false)) (sv_fz (var_fz rfl)) (sv_fz rfl) rfl)) nil_ev)) rfl (by simp))
  · rw [← uk]; simp [Tr.keys]
  · rw [if_neg (by simp [na, nb])]
    simp only [cred, Tr.size] at pd us ⊢
    rw [show l.size + 1 + 0 = a.size by omega] at pd
    rw [show l.size + 1 + b.size = a.size + b.size by omega]
    omega
def stepX (x : Int) : Tr → Tr → Tr
  | .nd l k r, w => if x < k then .nd w k r else .nd l k w
  | .nil, w => w
def hungX (x : Int) (us : List Tr) (w : Tr) : Tr := us.foldr (stepX x) w
theorem hungX_cons (x : Int) (u : Tr) (us : List Tr) (w : Tr) : hungX x (u :: us) w = stepX x u (hungX x us w) := rfl
inductive Tb (x : Int) : Nat → Tr → Tr → Tr → Tr → Prop
  | ll {c d b r : Tr} {m k : Int} : x < m → m < k → Tb x 2 (.nd (.nd (.nd c x d) m b) k r) (.nd (.nd c x d) m b) (.nd c x d) (.nd c x (.nd d m (.nd b k r)))
  | rr {l a c d : Tr} {m k : Int} : m < x → k < m → Tb x 2 (.nd l k (.nd a m (.nd c x d))) (.nd a m (.nd c x d)) (.nd c x d) (.nd (.nd (.nd l k a) m c) x d)
  | lr {a c d r : Tr} {m k : Int} : m < x → x < k → Tb x 3 (.nd (.nd a m (.nd c x d)) k r) (.nd a m (.nd c x d)) (.nd c x d) (.nd (.nd a m c) x (.nd d k r))
  | rl {l c d b : Tr} {m k : Int} : x < m → k < x → Tb x 3 (.nd l k (.nd (.nd c x d) m b)) (.nd (.nd c x d) m b) (.nd c x d) (.nd (.nd l k c) x (.nd d m b))
theorem long' {x : Int} {q : Nat} {t t' : Tr} (h : Tn x q t t') (h2 : 2 ≤ q) : ∃ pre g p v w, trail t x = pre ++ [g, p, v] ∧ t' = hungX x pre w ∧ Tb x q g p v w ∧ ∀ u ∈ pre, ∃ a k b, u = .nd a k b := by
  induction h with
  | sl _ => omega
  | sr _ => omega
  | ll h1 h3 h4 => exact ⟨[], _, _, _, _, by rw [trail_lt h3, trail_lt h1, trail_eq]; rfl, rfl, .ll h1 h4, fun u hu => by cases hu⟩
  | rr h1 h3 h4 => exact ⟨[], _, _, _, _, by rw [trail_gt h3, trail_gt h1, trail_eq]; rfl, rfl, .rr h1 h4, fun u hu => by cases hu⟩
  | lr h1 h3 h4 => exact ⟨[], _, _, _, _, by rw [trail_lt h3, trail_gt h1, trail_eq]; rfl, rfl, .lr h1 h3, fun u hu => by cases hu⟩
  | rl h1 h3 h4 => exact ⟨[], _, _, _, _, by rw [trail_gt h3, trail_lt h1, trail_eq]; rfl, rfl, .rl h1 h3, fun u hu => by cases hu⟩
  | @ul q l l' r k hx hq t ih =>
    obtain ⟨pre, g, p, v, w, e1, e2, e3, e4⟩ := ih h2
    refine ⟨.nd l k r :: pre, g, p, v, w, by rw [trail_lt hx, e1]; rfl, by rw [hungX_cons, ← e2]; show _ = if x < k then _ else _; rw [if_pos hx], e3, fun u hu => ?_⟩
    rcases List.mem_cons.mp hu with rfl | hu
    · exact ⟨_, _, _, rfl⟩
    · exact e4 u hu
  | @ur q l r r' k hx hq t ih =>
    obtain ⟨pre, g, p, v, w, e1, e2, e3, e4⟩ := ih h2
    refine ⟨.nd l k r :: pre, g, p, v, w, by rw [trail_gt hx, e1]; rfl, by rw [hungX_cons, ← e2]; show _ = if x < k then _ else _; rw [if_neg (by omega)], e3, fun u hu => ?_⟩
    rcases List.mem_cons.mp hu with rfl | hu
    · exact ⟨_, _, _, rfl⟩
    · exact e4 u hu
theorem trail_bst (x : Int) : ∀ t : Tr, t.Bst → ∀ u ∈ trail t x, u.Bst
  | .nil, _, u, h => by cases h
  | .nd l k r, hb, u, h => by
    unfold trail at h
    rcases List.mem_cons.mp h with rfl | h
    · exact hb
    · split at h
      · cases h
      · split at h
        · exact trail_bst x l hb.1 u h
        · exact trail_bst x r hb.2.1 u h
theorem node_is (l : Tr) (k : Int) (r : Tr) : m_law_node [l.enc, .int k, r.enc] = some ((Tr.nd l k r).enc, false) := by
  have st : ∀ (u : Tr) (L R : D) (z : Int) (s : Sl), SF s → ∃ s', SF s' ∧ mgN 4 u.enc [.fz L, .fz (.int k), .fz R, .fz (.int z), s] = some [.fz L, .fz (.int k), .fz R, .fz (.int z), .fz u.enc] ∧ lb1_law_node [.fz L, .fz (.int k), .fz R, .fz (.int z), .fz u.enc] = some (.nx [.fz L, .fz (.int k), .fz R, .fz (.int (z + (u.size : Int))), s']) := by
    intro u L R z s hs
    refine ⟨.fz u.enc, SF.fz _, by rcases hs with rfl | ⟨_, rfl⟩ <;> rfl, ?_⟩
    cases u with
    | nil => rw [show z + ((Tr.nil).size : Int) = z by simp [Tr.size]]; exact if_f rfl rfl
    | nd a m b =>
      have d3 : gIx (Tr.nd a m b).enc (.int 3) = some (.int ((Tr.nd a m b).size : Int), false) := rfl
      have nn : gIsNot (Tr.nd a m b).enc .none = some (.bool true, false) := rfl
      generalize (Tr.nd a m b).enc = dd at *
      generalize ((Tr.nd a m b).size : Int) = y at *
      exact if_t (test_ev (k := .fz) (op_ev (r := (.none, .fz)) (res := (.bool true, false)) (sv_fz (var_fz rfl)) (sv_fz rfl) nn)) (asgI (ie_add (ie_var rfl) (op_ev (r := (.int 3, .fz)) (res := (.int y, false)) (sv_fz (var_fz rfl)) (sv_fz rfl) d3)) rfl)
  obtain ⟨s1, f1, a1, b1⟩ := st l l.enc r.enc 1 .no SF.no
  obtain ⟨s2, f2, a2, b2⟩ := st r l.enc r.enc (1 + (l.size : Int)) s1 f1
  have e : (Tr.nd l k r).enc = .tuple [l.enc, .int k, r.enc, .int (1 + (l.size : Int) + (r.size : Int))] := by
    show PyData.tuple [l.enc, .int k, r.enc, .int ((l.size + 1 + r.size : Nat) : Int)] = _
    rw [show ((l.size + 1 + r.size : Nat) : Int) = 1 + (l.size : Int) + (r.size : Int) by omega]
  rw [e]
  generalize (l.size : Int) = lz at *
  generalize (r.size : Int) = rz at *
  generalize l.enc = L at *
  generalize r.enc = R at *
  refine fn_of (o := .rt (.tuple [L, .int k, R, .int (1 + lz + rz)], .fz) [.fz L, .fz (.int k), .fz R, .fz (.int (1 + lz + rz)), s2]) rfl ?_ rfl
  refine seq_nx (ρ1 := [.fz L, .fz (.int k), .fz R, .fz (.int 1), .no]) rfl ?_
  refine seq_nx (for_eq (ds := [L, R]) (ρ1 := [.fz L, .fz (.int k), .fz R, .fz (.int 1), .no]) (fol_ev (sv_new (lst_ev (rs := [(L, .fz), (R, .fz)]) rfl rfl (by simp)))) (forL_cons a1 b1 (forL_cons a2 b2 rfl))) ?_
  exact ret_eq (tup_ev (rs := [(L, .fz), (.int k, .fz), (R, .fz), (.int (1 + lz + rz), .fz)]) rfl rfl (by simp))
theorem node_call {ρ : Rho} {a b c : PM} {l r : Tr} {k : Int} (h1 : sv a ρ = some ((l.enc, .fz), ρ)) (h2 : IE b ρ k) (h3 : sv c ρ = some ((r.enc, .fz), ρ)) : mCall m_law_node (mCons a (mCons b (mCons c mNil))) ρ = some (((Tr.nd l k r).enc, .fz), ρ) :=
  call_pure (o := false) (rs := [(l.enc, .fz), (.int k, .fz), (r.enc, .fz)]) (cons_fz h1 (consI h2 (cons_fz h3 nil_ev))) (node_is l k r) (Tr.pureR_enc _)
theorem line_loop (T : D) (x : Int) : ∀ (t : Tr) (n : Nat) (done : List D), t.Bst → x ∈ t.keys → t.ht < n → done.length + t.ht ≤ 1000 → mWhile wc1_law_line wb1_law_line n [.fz T, .fz (.int x), .own (.list (done ++ [t.enc]))] = some (.nx [.fz T, .fz (.int x), .own (.list (done ++ (trail t x).map Tr.enc))])
  | .nil, n + 1, done, _, hx, _, _ => by cases hx
  | .nd l k r, n + 1, done, ⟨b1, b2, b3, b4⟩, hx, h, hz => by
    simp only [Tr.ht] at h hz
    have d0 : gIx (Tr.nd l k r).enc (.int 0) = some (l.enc, false) := rfl
    have d1 : gIx (Tr.nd l k r).enc (.int 1) = some (.int k, false) := rfl
    have d2 : gIx (Tr.nd l k r).enc (.int 2) = some (r.enc, false) := rfl
    have lst : gIx (.list (done ++ [(Tr.nd l k r).enc])) (.int (-1)) = some ((Tr.nd l k r).enc, false) := gIx_list _ _ _ (by rw [Mir.atI_last]; simp)
    have i0 : mOp gIx (mVar 2) (mUn gNeg (mC (.int 1))) [.fz T, .fz (.int x), .own (.list (done ++ [(Tr.nd l k r).enc]))] = some (((Tr.nd l k r).enc, .fz), [.fz T, .fz (.int x), .own (.list (done ++ [(Tr.nd l k r).enc]))]) := op_at (i := 2) (r := (.int (-1), .fz)) (res := ((Tr.nd l k r).enc, false)) (sv_at (var_own rfl)) (sv_fz (ie_neg ie_c)) rfl lst
    have i1 : IE (mOp gIx (mOp gIx (mVar 2) (mUn gNeg (mC (.int 1)))) (mC (.int 1))) [.fz T, .fz (.int x), .own (.list (done ++ [(Tr.nd l k r).enc]))] k := op_ev (r := (.int 1, .fz)) (res := (.int k, false)) (sv_fz i0) (sv_fz rfl) d1
    have hx' := hx
    simp only [Tr.keys, List.mem_append, List.mem_cons] at hx'
    by_cases e : k = x
    · subst e
      rw [trail_eq]
      exact while_end (tstB (be_ne i1 (ie_var rfl)) (by simp))
    · have c1 : wc1_law_line [.fz T, .fz (.int x), .own (.list (done ++ [(Tr.nd l k r).enc]))] = some (true, [.fz T, .fz (.int x), .own (.list (done ++ [(Tr.nd l k r).enc]))]) := tstB (be_ne i1 (ie_var rfl)) (by simp [e])
      have go : ∀ (u : Tr) (j : Bool), decide (k < x) = j → gIx (Tr.nd l k r).enc (.int (2 * (if j then 1 else 0))) = some (u.enc, false) → wb1_law_line [.fz T, .fz (.int x), .own (.list (done ++ [(Tr.nd l k r).enc]))] = some (.nx [.fz T, .fz (.int x), .own (.list (done ++ [(Tr.nd l k r).enc] ++ [u.enc]))]) := by
        intro u j hj hg
        have ii : IE (mCB gInt (mCons (mOp gGt (mVar 1) (mOp gIx (mOp gIx (mVar 2) (mUn gNeg (mC (.int 1)))) (mC (.int 1)))) mNil)) [.fz T, .fz (.int x), .own (.list (done ++ [(Tr.nd l k r).enc]))] (if j then 1 else 0) := by
          refine cb_ev (rs := [(.bool j, .fz)]) (res := (.int (if j then 1 else 0), false)) (cons_fz (sv_fz ((be_gt (ie_var rfl) i1).is hj)) nil_ev) ?_
          cases j <;> rfl
        exact app_ev u.enc (done ++ [(Tr.nd l k r).enc]) rfl (cons_fz (sv_fz (op_ev (r := (.int _, .fz)) (res := (u.enc, false)) (sv_fz i0) (sv_fz (ie_mul ie_c ii (IntMulOk.of_left (by decide)))) hg)) nil_ev) rfl rfl (by rw [List.length_append, List.length_singleton]; omega) rfl
      by_cases c : x < k
      · have hl : x ∈ l.keys := by
          rcases hx' with h | h | h
          · exact h
          · omega
          · have := b4 x h; omega
        have ih := line_loop T x l n (done ++ [(Tr.nd l k r).enc]) b1 hl (by omega) (by rw [List.length_append, List.length_singleton]; omega)
        rw [trail_lt c, List.map_cons, show done ++ (Tr.nd l k r).enc :: (trail l x).map Tr.enc = done ++ [(Tr.nd l k r).enc] ++ (trail l x).map Tr.enc from List.append_cons _ _ _]
        exact while_go c1 (go l false (decide_eq_false (by omega)) d0) ih
      · have hr : x ∈ r.keys := by
          rcases hx' with h | h | h
          · have := b3 x h; omega
          · omega
          · exact h
        have ih := line_loop T x r n (done ++ [(Tr.nd l k r).enc]) b2 hr (by omega) (by rw [List.length_append, List.length_singleton]; omega)
        rw [trail_gt (by omega), List.map_cons, show done ++ (Tr.nd l k r).enc :: (trail r x).map Tr.enc = done ++ [(Tr.nd l k r).enc] ++ (trail r x).map Tr.enc from List.append_cons _ _ _]
        exact while_go c1 (go r true (decide_eq_true (by omega)) d2) ih
theorem line_is (t : Tr) (x : Int) (hb : t.Bst) (hx : x ∈ t.keys) (h : t.ht ≤ 60) : m_law_line [t.enc, .int x] = some (.list ((trail t x).map Tr.enc), true) := by
  have hs := line_loop t.enc x t 1000000 [] hb hx (by omega) (by simpa using Nat.le_trans h (by decide))
  refine fn_of (o := .rt (.list ((trail t x).map Tr.enc), .at 2) [.fz t.enc, .fz (.int x), .own (.list ((trail t x).map Tr.enc))]) rfl ?_ rfl
  refine seq_nx (ρ1 := [.fz t.enc, .fz (.int x), .own (.list [t.enc])]) (asg_new (lst_ev (rs := [(t.enc, .fz)]) rfl rfl (by simp)) rfl) ?_
  exact seq_nx hs (ret_eq (var_own rfl))
theorem pieces_out (n : Nat) (u : Tr) (ns : List Int) (h : ∀ y ∈ u.keys, y ∉ ns) : m_law_pieces (n + 1) [u.enc, .list (ns.map .int)] = some (.list [u.enc], true) := by
  cases u with
  | nil => exact fn_of (o := .rt (.list [.none], .new) [.fz .none, .fz (.list (ns.map .int))]) rfl (seq_rt (if_t (or_t rfl) (ret_eq (lst_ev (rs := [(.none, .fz)]) rfl rfl (by simp))))) rfl
  | nd l k r =>
    have hk := h k (by simp [Tr.keys])
    have d1 : gIx (Tr.nd l k r).enc (.int 1) = some (.int k, false) := rfl
    have nn : gIs (Tr.nd l k r).enc .none = some (.bool false, false) := rfl
    have ni := notIn_ints k ns
    rw [decide_eq_false hk] at ni
    generalize (Tr.nd l k r).enc = dd at *
    exact fn_of (o := .rt (.list [dd], .new) [.fz dd, .fz (.list (ns.map .int))]) rfl (seq_rt (if_t (or_f (test_ev (k := .fz) (op_ev (r := (.none, .fz)) (res := (.bool false, false)) (sv_fz (var_fz rfl)) (sv_fz rfl) nn)) (test_ev (k := .fz) (op_ev (r := (.list (ns.map .int), .fz)) (res := (.bool true, false)) (sv_fz (op_ev (r := (.int 1, .fz)) (res := (.int k, false)) (sv_fz (var_fz rfl)) (sv_fz rfl) d1)) (sv_fz (var_fz rfl)) ni))) (ret_eq (lst_ev (rs := [(dd, .fz)]) rfl rfl (by simp))))) rfl
theorem pieces_in (n : Nat) (l r : Tr) (k : Int) (ns : List Int) (A B : List Tr) (hk : k ∈ ns) (hA : A.length ≤ 100) (hB : B.length ≤ 100) (hl : m_law_pieces n [l.enc, .list (ns.map .int)] = some (.list (A.map Tr.enc), true)) (hr : m_law_pieces n [r.enc, .list (ns.map .int)] = some (.list (B.map Tr.enc), true)) :
    m_law_pieces (n + 1) [(Tr.nd l k r).enc, .list (ns.map .int)] = some (.list ((A ++ B).map Tr.enc), true) := by
  have d0 : gIx (Tr.nd l k r).enc (.int 0) = some (l.enc, false) := rfl
  have d1 : gIx (Tr.nd l k r).enc (.int 1) = some (.int k, false) := rfl
  have d2 : gIx (Tr.nd l k r).enc (.int 2) = some (r.enc, false) := rfl
  have nn : gIs (Tr.nd l k r).enc .none = some (.bool false, false) := rfl
  have ni := notIn_ints k ns
  rw [decide_eq_true hk] at ni
  generalize (Tr.nd l k r).enc = dd at *
  have ix : ∀ {j : Int} {d : D}, gIx dd (.int j) = some (d, false) → mOp gIx (mVar 0) (mC (.int j)) [.fz dd, .fz (.list (ns.map .int))] = some ((d, .fz), [.fz dd, .fz (.list (ns.map .int))]) := fun h => op_ev (r := (.int _, .fz)) (sv_fz (var_fz rfl)) (sv_fz rfl) h
  refine fn_of (o := .rt (.list ((A ++ B).map Tr.enc), .new) [.fz dd, .fz (.list (ns.map .int))]) rfl (seq_nx (ρ1 := [.fz dd, .fz (.list (ns.map .int))]) (if_f (or_f (test_ev (k := .fz) (op_ev (r := (.none, .fz)) (res := (.bool false, false)) (sv_fz (var_fz rfl)) (sv_fz rfl) nn)) (test_ev (k := .fz) (op_ev (r := (.list (ns.map .int), .fz)) (res := (.bool false, false)) (sv_fz (ix d1)) (sv_fz (var_fz rfl)) ni))) rfl) (ret_eq ?_)) rfl
  rw [List.map_append]
  exact op_ev (r := (.list (B.map Tr.enc), .fz)) (res := (.list (A.map Tr.enc ++ B.map Tr.enc), true)) (sv_new (call_pure (rs := [(l.enc, .fz), (.list (ns.map .int), .fz)]) (cons_fz (sv_fz (ix d0)) (cons_fz (sv_fz (var_fz rfl)) nil_ev)) hl (pures_enc A))) (sv_new (call_pure (rs := [(r.enc, .fz), (.list (ns.map .int), .fz)]) (cons_fz (sv_fz (ix d2)) (cons_fz (sv_fz (var_fz rfl)) nil_ev)) hr (pures_enc B))) (gAdd_list _ _ (by rw [List.length_map, List.length_map]; omega))
theorem pieces4 {x : Int} {q : Nat} {g p v w : Tr} (h : Tb x q g p v w) (hb : g.Bst) : ∃ (a b c d : Tr) (lo mid hi : Int), lo < mid ∧ mid < hi ∧ ([keyOf g, keyOf p, keyOf v] : List Int).Perm [lo, mid, hi] ∧ m_law_pieces 12 [g.enc, .list ([lo, mid, hi].map .int)] = some (.list [a.enc, b.enc, c.enc, d.enc], true) ∧
    ((q = 3 ∧ x = mid ∧ w = .nd (.nd a lo b) mid (.nd c hi d)) ∨ (q = 2 ∧ x = lo ∧ w = .nd a lo (.nd b mid (.nd c hi d))) ∨ (q = 2 ∧ x = hi ∧ w = .nd (.nd (.nd a lo b) mid c) hi d)) := by
  cases h with
  | @ll c d b r m k h1 h2 =>
    obtain ⟨⟨⟨_, _, b1, b2⟩, _, b3, b4⟩, _, b5, b6⟩ := hb
    refine ⟨c, d, b, r, x, m, k, h1, h2, ?_, ?_, .inr (.inl ⟨rfl, rfl, rfl⟩)⟩
    · show [k, m, x].Perm [x, m, k]
      exact (List.reverse_perm [x, m, k])
    · have nc : ∀ y ∈ c.keys, y ∉ [x, m, k] := fun y hy => by have := b1 y hy; simp only [List.mem_cons, List.not_mem_nil, or_false]; omega
      have nd : ∀ y ∈ d.keys, y ∉ [x, m, k] := fun y hy => by have := b2 y hy; have := b3 y (by simp [Tr.keys, hy]); simp only [List.mem_cons, List.not_mem_nil, or_false]; omega
      have nb : ∀ y ∈ b.keys, y ∉ [x, m, k] := fun y hy => by have := b4 y hy; have := b5 y (by simp [Tr.keys, hy]); simp only [List.mem_cons, List.not_mem_nil, or_false]; omega
      have nr : ∀ y ∈ r.keys, y ∉ [x, m, k] := fun y hy => by have := b6 y hy; simp only [List.mem_cons, List.not_mem_nil, or_false]; omega
      exact pieces_in 11 _ _ _ _ [c, d, b] [r] (by simp) (by simp) (by simp) (pieces_in 10 _ _ _ _ [c, d] [b] (by simp) (by simp) (by simp) (pieces_in 9 _ _ _ _ [c] [d] (by simp) (by simp) (by simp) (pieces_out 8 _ _ nc) (pieces_out 8 _ _ nd)) (pieces_out 9 _ _ nb)) (pieces_out 10 _ _ nr)
  | @rr l a c d m k h1 h2 =>
    obtain ⟨_, ⟨_, ⟨_, _, b1, b2⟩, b3, b4⟩, b5, b6⟩ := hb
    refine ⟨l, a, c, d, k, m, x, h2, h1, List.Perm.refl _, ?_, .inr (.inr ⟨rfl, rfl, rfl⟩)⟩
    have nl : ∀ y ∈ l.keys, y ∉ [k, m, x] := fun y hy => by have := b5 y hy; simp only [List.mem_cons, List.not_mem_nil, or_false]; omega
    have na : ∀ y ∈ a.keys, y ∉ [k, m, x] := fun y hy => by have := b3 y hy; have := b6 y (by simp [Tr.keys, hy]); simp only [List.mem_cons, List.not_mem_nil, or_false]; omega
    have nc : ∀ y ∈ c.keys, y ∉ [k, m, x] := fun y hy => by have := b1 y hy; have := b4 y (by simp [Tr.keys, hy]); simp only [List.mem_cons, List.not_mem_nil, or_false]; omega
    have nd : ∀ y ∈ d.keys, y ∉ [k, m, x] := fun y hy => by have := b2 y hy; simp only [List.mem_cons, List.not_mem_nil, or_false]; omega
    exact pieces_in 11 _ _ _ _ [l] [a, c, d] (by simp) (by simp) (by simp) (pieces_out 10 _ _ nl) (pieces_in 10 _ _ _ _ [a] [c, d] (by simp) (by simp) (by simp) (pieces_out 9 _ _ na) (pieces_in 9 _ _ _ _ [c] [d] (by simp) (by simp) (by simp) (pieces_out 8 _ _ nc) (pieces_out 8 _ _ nd)))
  | @lr a c d r m k h1 h2 =>
    obtain ⟨⟨_, ⟨_, _, b1, b2⟩, b3, b4⟩, _, b5, b6⟩ := hb
    refine ⟨a, c, d, r, m, x, k, h1, h2, ?_, ?_, .inl ⟨rfl, rfl, rfl⟩⟩
    · show [k, m, x].Perm [m, x, k]
      exact (List.perm_append_comm (l₁ := [k]) (l₂ := [m, x]))
    · have na : ∀ y ∈ a.keys, y ∉ [m, x, k] := fun y hy => by have := b3 y hy; simp only [List.mem_cons, List.not_mem_nil, or_false]; omega
      have nc : ∀ y ∈ c.keys, y ∉ [m, x, k] := fun y hy => by have := b1 y hy; have := b4 y (by simp [Tr.keys, hy]); simp only [List.mem_cons, List.not_mem_nil, or_false]; omega
      have nd : ∀ y ∈ d.keys, y ∉ [m, x, k] := fun y hy => by have := b2 y hy; have := b5 y (by simp [Tr.keys, hy]); simp only [List.mem_cons, List.not_mem_nil, or_false]; omega
      have nr : ∀ y ∈ r.keys, y ∉ [m, x, k] := fun y hy => by have := b6 y hy; simp only [List.mem_cons, List.not_mem_nil, or_false]; omega
      exact pieces_in 11 _ _ _ _ [a, c, d] [r] (by simp) (by simp) (by simp) (pieces_in 10 _ _ _ _ [a] [c, d] (by simp) (by simp) (by simp) (pieces_out 9 _ _ na) (pieces_in 9 _ _ _ _ [c] [d] (by simp) (by simp) (by simp) (pieces_out 8 _ _ nc) (pieces_out 8 _ _ nd))) (pieces_out 10 _ _ nr)
  | @rl l c d b m k h1 h2 =>
    obtain ⟨_, ⟨⟨_, _, b1, b2⟩, _, b3, b4⟩, b5, b6⟩ := hb
    refine ⟨l, c, d, b, k, x, m, h2, h1, ?_, ?_, .inl ⟨rfl, rfl, rfl⟩⟩
    · show [k, m, x].Perm [k, x, m]
      exact (List.Perm.swap x m []).cons k
    · have nl : ∀ y ∈ l.keys, y ∉ [k, x, m] := fun y hy => by have := b5 y hy; simp only [List.mem_cons, List.not_mem_nil, or_false]; omega
      have nc : ∀ y ∈ c.keys, y ∉ [k, x, m] := fun y hy => by have := b1 y hy; have := b6 y (by simp [Tr.keys, hy]); simp only [List.mem_cons, List.not_mem_nil, or_false]; omega
      have nd : ∀ y ∈ d.keys, y ∉ [k, x, m] := fun y hy => by have := b2 y hy; have := b3 y (by simp [Tr.keys, hy]); simp only [List.mem_cons, List.not_mem_nil, or_false]; omega
      have nb : ∀ y ∈ b.keys, y ∉ [k, x, m] := fun y hy => by have := b4 y hy; simp only [List.mem_cons, List.not_mem_nil, or_false]; omega
      exact pieces_in 11 _ _ _ _ [l] [c, d, b] (by simp) (by simp) (by simp) (pieces_out 10 _ _ nl) (pieces_in 10 _ _ _ _ [c, d] [b] (by simp) (by simp) (by simp) (pieces_in 9 _ _ _ _ [c] [d] (by simp) (by simp) (by simp) (pieces_out 8 _ _ nc) (pieces_out 8 _ _ nd)) (pieces_out 9 _ _ nb))
theorem double_is {x : Int} {q : Nat} {w a b c d : Tr} {G : D} {lo mid hi : Int} (h1 : lo < mid) (h2 : mid < hi) (hp : m_law_pieces 12 [G, .list ([lo, mid, hi].map .int)] = some (.list [a.enc, b.enc, c.enc, d.enc], true))
    (hc : (q = 3 ∧ x = mid ∧ w = .nd (.nd a lo b) mid (.nd c hi d)) ∨ (q = 2 ∧ x = lo ∧ w = .nd a lo (.nd b mid (.nd c hi d))) ∨ (q = 2 ∧ x = hi ∧ w = .nd (.nd (.nd a lo b) mid c) hi d)) :
    m_law_double [G, .list ([lo, mid, hi].map .int), .int x] = some (.tuple [.str (kindS q), w.enc], false) := by
  have pu : pureR (.list [a.enc, b.enc, c.enc, d.enc]) true = true := pures_enc [a, b, c, d]
  have hN : PyData.list ([lo, mid, hi].map .int) = .list [.int lo, .int mid, .int hi] := rfl
  rw [hN] at hp ⊢
  refine fn_of (o := .rt (.tuple [.str (kindS q), w.enc], .fz) [.fz G, .fz (.list [.int lo, .int mid, .int hi]), .fz (.int x), .fz a.enc, .fz b.enc, .fz c.enc, .fz d.enc, .fz (.int lo), .fz (.int mid), .fz (.int hi)]) rfl ?_ rfl
  refine seq_nx (ρ1 := [.fz G, .fz (.list [.int lo, .int mid, .int hi]), .fz (.int x), .fz a.enc, .fz b.enc, .fz c.enc, .fz d.enc, .no, .no, .no]) ?_ ?_
  · exact asgG_new (call_pure (rs := [(G, .fz), (.list [.int lo, .int mid, .int hi], .fz)]) rfl hp pu) rfl
  refine seq_nx (ρ1 := [.fz G, .fz (.list [.int lo, .int mid, .int hi]), .fz (.int x), .fz a.enc, .fz b.enc, .fz c.enc, .fz d.enc, .fz (.int lo), .fz (.int mid), .fz (.int hi)]) rfl ?_
  rcases hc with ⟨rfl, rfl, rfl⟩ | ⟨rfl, rfl, rfl⟩ | ⟨rfl, rfl, rfl⟩
  · exact seq_rt (if_t (tEq (ie_var rfl) (ie_var rfl) rfl) (ret_eq (tup_ev (rs := [(.str "bent", .fz), ((Tr.nd (.nd a lo b) x (.nd c hi d)).enc, .fz)]) (cons_fz rfl (cons_fz (sv_fz (node_call (sv_fz (node_call (sv_fz (var_fz rfl)) (ie_var rfl) (sv_fz (var_fz rfl)))) (ie_var rfl) (sv_fz (node_call (sv_fz (var_fz rfl)) (ie_var rfl) (sv_fz (var_fz rfl)))))) nil_ev)) rfl (by simp))))
  · exact seq_nx (if_f (tNe (ie_var rfl) (ie_var rfl) (by omega)) rfl) (seq_rt (if_t (tEq (ie_var rfl) (ie_var rfl) rfl) (ret_eq (tup_ev (rs := [(.str "straight", .fz), ((Tr.nd a x (.nd b mid (.nd c hi d))).enc, .fz)]) (cons_fz rfl (cons_fz (sv_fz (node_call (sv_fz (var_fz rfl)) (ie_var rfl) (sv_fz (node_call (sv_fz (var_fz rfl)) (ie_var rfl) (sv_fz (node_call (sv_fz (var_fz rfl)) (ie_var rfl) (sv_fz (var_fz rfl)))))))) nil_ev)) rfl (by simp)))))
  · exact seq_nx (if_f (tNe (ie_var rfl) (ie_var rfl) (by omega)) rfl) (seq_nx (if_f (tNe (ie_var rfl) (ie_var rfl) (by omega)) rfl) (ret_eq (tup_ev (rs := [(.str "straight", .fz), ((Tr.nd (.nd (.nd a lo b) mid c) x d).enc, .fz)]) (cons_fz rfl (cons_fz (sv_fz (node_call (sv_fz (node_call (sv_fz (node_call (sv_fz (var_fz rfl)) (ie_var rfl) (sv_fz (var_fz rfl)))) (ie_var rfl) (sv_fz (var_fz rfl)))) (ie_var rfl) (sv_fz (var_fz rfl)))) nil_ev)) rfl (by simp))))
theorem single_law {x k lo hi : Int} {T : D} {a b c w : Tr} (h1 : lo < hi) (hk : gIx T (.int 1) = some (.int k, false)) (hs : sortI [k, x] = [lo, hi]) (hp : m_law_pieces 12 [T, .list ([lo, hi].map .int)] = some (.list [a.enc, b.enc, c.enc], true))
    (hc : (x = lo ∧ w = .nd a lo (.nd b hi c)) ∨ (x = hi ∧ w = .nd (.nd a lo b) hi c)) : m_law_single [T, .int x] = some (w.enc, false) := by
  have pu : pureR (.list [a.enc, b.enc, c.enc]) true = true := pures_enc [a, b, c]
  have so := gSorted_ints [k, x] (by simp)
  rw [hs] at so
  have hN : PyData.list ([lo, hi].map .int) = .list [.int lo, .int hi] := rfl
  rw [hN] at hp so
  refine fn_of (o := .rt (w.enc, .fz) [.fz T, .fz (.int x), .fz (.int lo), .fz (.int hi), .own (.list [a.enc, b.enc, c.enc])]) rfl ?_ rfl
  refine seq_nx (ρ1 := [.fz T, .fz (.int x), .fz (.int lo), .fz (.int hi), .no]) ?_ ?_
  · have e : mCB gSorted (mCons (mLst (mCons (mOp gIx (mVar 0) (mC (.int 1))) (mCons (mVar 1) mNil))) mNil) [.fz T, .fz (.int x), .no, .no, .no] = some ((.list [.int lo, .int hi], .new), [.fz T, .fz (.int x), .no, .no, .no]) :=
      cb_ev (res := (.list [.int lo, .int hi], true)) (rs := [(.list ([k, x].map .int), .fz)]) (cons_fz (sv_new (lst_ev (rs := [(.int k, .fz), (.int x, .fz)]) (consI (op_ev (r := (.int 1, .fz)) (res := (.int k, false)) (sv_fz (var_fz rfl)) (sv_fz rfl) hk) (consI (ie_var rfl) nil_ev)) rfl (by simp))) nil_ev) so
    exact asgG_new e rfl
  refine seq_nx (ρ1 := [.fz T, .fz (.int x), .fz (.int lo), .fz (.int hi), .own (.list [a.enc, b.enc, c.enc])]) (asg_new (call_pure (rs := [(T, .fz), (.list [.int lo, .int hi], .fz)]) (cons_fz (sv_fz (var_fz rfl)) (cons_fz (sv_new (lst_ev (rs := [(.int lo, .fz), (.int hi, .fz)]) rfl rfl (by simp))) nil_ev)) hp pu) rfl) ?_
  have ix : ∀ {j : Int} {d : D}, gIx (.list [a.enc, b.enc, c.enc]) (.int j) = some (d, false) → sv (mOp gIx (mVar 4) (mC (.int j))) [.fz T, .fz (.int x), .fz (.int lo), .fz (.int hi), .own (.list [a.enc, b.enc, c.enc])] = some ((d, .fz), [.fz T, .fz (.int x), .fz (.int lo), .fz (.int hi), .own (.list [a.enc, b.enc, c.enc])]) := fun h => sv_fz (op_at (i := 4) (y := .list [a.enc, b.enc, c.enc]) (r := (.int _, .fz)) (sv_at (var_own rfl)) (sv_fz rfl) rfl h)
  rcases hc with ⟨rfl, rfl⟩ | ⟨rfl, rfl⟩
  · exact seq_rt (if_t (tEq (ie_var rfl) (ie_var rfl) rfl) (ret_eq (node_call (ix rfl) (ie_var rfl) (sv_fz (node_call (ix rfl) (ie_var rfl) (ix rfl))))))
  · exact seq_nx (if_f (tNe (ie_var rfl) (ie_var rfl) (by omega)) rfl) (ret_eq (node_call (sv_fz (node_call (ix rfl) (ie_var rfl) (ix rfl))) (ie_var rfl) (ix rfl)))
theorem single_turn {x : Int} {t t' : Tr} (h : Tn x 1 t t') (hb : t.Bst) : m_law_single [t.enc, .int x] = some (t'.enc, false) := by
  cases h with
  | @sl a b r k h1 =>
    obtain ⟨⟨_, _, b1, b2⟩, _, b3, b4⟩ := hb
    have na : ∀ y ∈ a.keys, y ∉ [x, k] := fun y hy => by have := b1 y hy; simp only [List.mem_cons, List.not_mem_nil, or_false]; omega
    have nb : ∀ y ∈ b.keys, y ∉ [x, k] := fun y hy => by have := b2 y hy; have := b3 y (by simp [Tr.keys, hy]); simp only [List.mem_cons, List.not_mem_nil, or_false]; omega
    have nr : ∀ y ∈ r.keys, y ∉ [x, k] := fun y hy => by have := b4 y hy; simp only [List.mem_cons, List.not_mem_nil, or_false]; omega
    refine single_law (k := k) (lo := x) (hi := k) h1 rfl (sortI_eq (List.Perm.swap x k []) (by simp; omega)) ?_ (.inl ⟨rfl, rfl⟩)
    exact pieces_in 11 _ _ _ _ [a, b] [r] (by simp) (by simp) (by simp) (pieces_in 10 _ _ _ _ [a] [b] (by simp) (by simp) (by simp) (pieces_out 9 _ _ na) (pieces_out 9 _ _ nb)) (pieces_out 10 _ _ nr)
  | @sr l a b k h1 =>
    obtain ⟨_, ⟨_, _, b1, b2⟩, b3, b4⟩ := hb
    have nl : ∀ y ∈ l.keys, y ∉ [k, x] := fun y hy => by have := b3 y hy; simp only [List.mem_cons, List.not_mem_nil, or_false]; omega
    have na : ∀ y ∈ a.keys, y ∉ [k, x] := fun y hy => by have := b1 y hy; have := b4 y (by simp [Tr.keys, hy]); simp only [List.mem_cons, List.not_mem_nil, or_false]; omega
    have nb : ∀ y ∈ b.keys, y ∉ [k, x] := fun y hy => by have := b2 y hy; simp only [List.mem_cons, List.not_mem_nil, or_false]; omega
    refine single_law (k := k) (lo := k) (hi := x) h1 rfl (sortI_eq (List.Perm.refl _) (by simp; omega)) ?_ (.inr ⟨rfl, rfl⟩)
    exact pieces_in 11 _ _ _ _ [l] [a, b] (by simp) (by simp) (by simp) (pieces_out 10 _ _ nl) (pieces_in 10 _ _ _ _ [a] [b] (by simp) (by simp) (by simp) (pieces_out 9 _ _ na) (pieces_out 9 _ _ nb))
  | ul _ h _ => omega
  | ur _ h _ => omega
theorem tn_mem {x : Int} {q : Nat} {t t' : Tr} (h : Tn x q t t') : x ∈ t.keys := by
  induction h with
  | ul _ _ _ ih => simp [Tr.keys, ih]
  | ur _ _ _ ih => simp [Tr.keys, ih]
  | _ => simp [Tr.keys]
theorem turned_loop (T K : D) (x : Int) (L : D) : ∀ (us : List Tr) (w : Tr) (s : Sl), (∀ u ∈ us, ∃ a k b, u = .nd a k b) → SF s → ∃ s', forL (mgN 5) lb1_law_turned (us.map Tr.enc) [.fz T, .fz (.int x), .own L, .fz K, .fz w.enc, s] = some (.nx [.fz T, .fz (.int x), .own L, .fz K, .fz (us.foldl (fun w u => stepX x u w) w).enc, s'])
  | [], w, s, _, _ => ⟨s, rfl⟩
  | u :: us, w, s, h, hs => by
    obtain ⟨s', e⟩ := turned_loop T K x L us (stepX x u w) (.fz u.enc) (fun v hv => h v (List.mem_cons_of_mem _ hv)) (SF.fz _)
    refine ⟨s', ?_⟩
    rw [List.map_cons, List.foldl_cons]
    refine forL_cons (ρ1 := [.fz T, .fz (.int x), .own L, .fz K, .fz w.enc, .fz u.enc]) (by rcases hs with rfl | ⟨_, rfl⟩ <;> rfl) ?_ e
    obtain ⟨l, k, r, rfl⟩ := h u List.mem_cons_self
    have d0 : gIx (Tr.nd l k r).enc (.int 0) = some (l.enc, false) := rfl
    have d1 : gIx (Tr.nd l k r).enc (.int 1) = some (.int k, false) := rfl
    have d2 : gIx (Tr.nd l k r).enc (.int 2) = some (r.enc, false) := rfl
    generalize (Tr.nd l k r).enc = dd at *
    have ix : ∀ {j : Int} {d : D}, gIx dd (.int j) = some (d, false) → mOp gIx (mVar 5) (mC (.int j)) [.fz T, .fz (.int x), .own L, .fz K, .fz w.enc, .fz dd] = some ((d, .fz), [.fz T, .fz (.int x), .own L, .fz K, .fz w.enc, .fz dd]) := fun h => op_ev (r := (.int _, .fz)) (sv_fz (var_fz rfl)) (sv_fz rfl) h
    by_cases c : x < k
    · rw [show stepX x (.nd l k r) w = .nd w k r by show (if x < k then _ else _) = _; rw [if_pos c]]
      exact if_t (tstB (be_lt (ie_var rfl) (ix d1)) (decide_eq_true c)) (asg_fz (node_call (sv_fz (var_fz rfl)) (ix d1) (sv_fz (ix d2))) rfl)
    · rw [show stepX x (.nd l k r) w = .nd l k w by show (if x < k then _ else _) = _; rw [if_neg c]]
      exact if_f (tstB (be_lt (ie_var rfl) (ix d1)) (decide_eq_false c)) (asg_fz (node_call (sv_fz (ix d0)) (ix d1) (sv_fz (var_fz rfl))) rfl)
theorem cut_l3 (l : List D) (a b c : D) : cutD (l ++ [a, b, c]) (some (-3)) none = [a, b, c] := by
  unfold cutD
  rw [HT.sIx_none]
  have e : HT.sIx (l ++ [a, b, c]).length 0 (some (-3)) = l.length := by
    simp only [HT.sIx]
    rw [if_pos (by decide)]
    simp only [List.length_append, List.length_cons, List.length_nil]; omega
  rw [e, List.drop_left' rfl, List.take_of_length_le]
  simp only [List.length_append, List.length_cons, List.length_nil]; omega
theorem turned_is {x : Int} {q : Nat} {t t' : Tr} (h : Tn x q t t') (hb : t.Bst) (hh : t.ht ≤ 60) : m_law_turned [t.enc, .int x] = some (.tuple [.str (kindS q), t'.enc], false) := by
  have hp := line_is t x hb (tn_mem h) hh
  by_cases h1 : q = 1
  · subst h1
    have si := single_turn h hb
    obtain ⟨ul, uk, ur, pl, pr, _, e1, _⟩ := h.single
    rw [e1] at hp
    simp only [List.map_cons, List.map_nil] at hp
    have hpu : pureR (.list [(Tr.nd ul uk ur).enc, (Tr.nd pl x pr).enc]) true = true := pures_enc [.nd ul uk ur, .nd pl x pr]
    generalize (Tr.nd ul uk ur).enc = d1 at *
    generalize (Tr.nd pl x pr).enc = d2 at *
    generalize t.enc = T at hp si ⊢
    show m_law_turned _ = some (PyData.tuple [.str "single", t'.enc], false)
    refine fn_of (o := .rt (.tuple [.str "single", t'.enc], .fz) [.fz T, .fz (.int x), .own (.list [d1, d2]), .no, .no, .no]) rfl ?_ rfl
    refine seq_nx (ρ1 := [.fz T, .fz (.int x), .own (.list [d1, d2]), .no, .no, .no]) (asg_new (call_pure (rs := [(T, .fz), (.int x, .fz)]) rfl hp hpu) rfl) ?_
    have ln : IE (mCB gLen (mCons (mVar 2) mNil)) [.fz T, .fz (.int x), .own (.list [d1, d2]), .no, .no, .no] 2 := cb_ev (rs := [(.list [d1, d2], .at 2)]) (res := (.int 2, false)) rfl rfl
    exact seq_rt (if_t (tEq ln ie_c rfl) (ret_eq (tup_ev (rs := [(.str "single", .fz), (t'.enc, .fz)]) (cons_fz rfl (cons_fz (sv_fz (call_pure (o := false) (rs := [(T, .fz), (.int x, .fz)]) rfl si (Tr.pureR_enc _))) nil_ev)) rfl (by simp))))
  · have h2 : 2 ≤ q := by have := h.kind; omega
    obtain ⟨pre, g, p, v, w, e1, e2, tb, hn⟩ := long' h h2
    have gb : g.Bst := trail_bst x t hb g (by rw [e1]; simp)
    obtain ⟨a, b, c, d, lo, mid, hi, l1, l2, pm, pc, hc⟩ := pieces4 tb gb
    have db := double_is l1 l2 pc hc
    have so := gSorted_ints [keyOf g, keyOf p, keyOf v] (by simp)
    rw [sortI_eq pm (by simp; omega)] at so
    have nds : ∀ u ∈ trail t x, ∃ l k r, u = .nd l k r := trail_nd t x
    have kk : ∀ u ∈ trail t x, gIx u.enc (.int 1) = some (.int (keyOf u), false) := fun u hu => by obtain ⟨l, k, r, rfl⟩ := nds u hu; rfl
    have kg := kk g (by rw [e1]; simp)
    have kp := kk p (by rw [e1]; simp)
    have kv := kk v (by rw [e1]; simp)
    obtain ⟨s', lp⟩ := turned_loop t.enc (.str (kindS q)) x (.list ((trail t x).map Tr.enc)) pre.reverse w .no (fun u hu => hn u (List.mem_reverse.mp hu)) SF.no
    rw [List.foldl_reverse] at lp
    have lp' : (pre.foldr (fun u w => stepX x u w) w) = t' := by rw [e2]; rfl
    rw [lp'] at lp
    have hpu : pureR (.list ((trail t x).map Tr.enc)) true = true := pures_enc (trail t x)
    rw [e1, List.map_append] at hp hpu lp
    simp only [List.map_cons, List.map_nil] at hp hpu lp so db
    have pw : pureR (.tuple [.str (kindS q), w.enc]) false = true := by rw [pureR_tup]; simp only [pureDs, pureD, Tr.pure_enc, Bool.and_self]
    generalize hL : pre.map Tr.enc ++ [g.enc, p.enc, v.enc] = L at hp hpu lp
    have x3 : gIx (.list L) (.int (-3)) = some (g.enc, false) := gIx_list _ _ _ (by rw [← hL]; exact atI_m3 _ _ _ _)
    have xs : gSl (.list L) none (some (-3)) = some (.list (pre.map Tr.enc), true) := by
      show some (PyData.list (cutD L none (some (-3))), true) = _
      rw [← hL, cut_m3]
    have xe : gSl (.list L) (some (-3)) none = some (.list [g.enc, p.enc, v.enc], true) := by
      show some (PyData.list (cutD L (some (-3)) none), true) = _
      rw [← hL, cut_l3]
    have xl : ∃ n : Nat, 3 ≤ n ∧ gLen [.list L] = some (.int (n : Int), false) := ⟨L.length, by rw [← hL]; simp, rfl⟩
    obtain ⟨n, n3, xl⟩ := xl
    clear hL
    generalize t.enc = T at hp lp ⊢
    generalize kindS q = kq at *
    have ln : IE (mCB gLen (mCons (mVar 2) mNil)) [.fz T, .fz (.int x), .own (.list L), .no, .no, .no] (n : Int) := cb_ev (rs := [(.list L, .at 2)]) (res := (.int (n : Int), false)) rfl xl
    generalize hnn : (n : Int) = nn at ln
    have m3 : ∀ {ρ : Rho}, sv (mUn gNeg (mC (.int 3))) ρ = some ((.int (-3), .fz), ρ) := fun {ρ} => sv_fz (ie_neg ie_c)
    have i3 : mOp gIx (mVar 2) (mUn gNeg (mC (.int 3))) [.fz T, .fz (.int x), .own (.list L), .no, .no, .no] = some ((g.enc, .fz), [.fz T, .fz (.int x), .own (.list L), .no, .no, .no]) := op_at (i := 2) (y := .list L) (r := (.int (-3), .fz)) (res := (g.enc, false)) (sv_at (var_own rfl)) m3 rfl x3
    have sl : ∀ {s3 s4 : Sl}, mSl gSl (mVar 2) mNoPart (mPart (mUn gNeg (mC (.int 3)))) [.fz T, .fz (.int x), .own (.list L), s3, s4, .no] = some ((.list (pre.map Tr.enc), .new), [.fz T, .fz (.int x), .own (.list L), s3, s4, .no]) := by
      intro s3 s4
      unfold mSl mPart
      rw [sv_at (var_own (d := .list L) rfl), Option.bind_some]
      simp only [mNoPart, m3, Option.bind_some, Option.map_some, asI, refr, List.getElem?_cons_succ, List.getElem?_cons_zero, xs]
      rfl
    have se : mSl gSl (mVar 2) (mPart (mUn gNeg (mC (.int 3)))) mNoPart [.fz T, .fz (.int x), .own (.list L), .no, .no, .no] = some ((.list [g.enc, p.enc, v.enc], .new), [.fz T, .fz (.int x), .own (.list L), .no, .no, .no]) := by
      unfold mSl mPart
      rw [sv_at (var_own (d := .list L) rfl), Option.bind_some]
      simp only [mNoPart, m3, Option.bind_some, Option.map_some, asI, refr, List.getElem?_cons_succ, List.getElem?_cons_zero, xe]
      rfl
    have it : ∀ {u : Tr}, gIx u.enc (.int 1) = some (.int (keyOf u), false) → ∃ ρ, sv ce1_law_turned [.fz u.enc] = some ((.int (keyOf u), .fz), ρ) := fun {u} hu => ⟨_, sv_fz (op_ev (r := (.int 1, .fz)) (res := (.int (keyOf u), false)) (sv_fz (var_fz rfl)) (sv_fz rfl) hu)⟩
    have cp : compL mYes ce1_law_turned [] [g.enc, p.enc, v.enc] = some [.int (keyOf g), .int (keyOf p), .int (keyOf v)] := by
      refine compL_map (f := Tr.enc) (g := fun u => .int (keyOf u)) [g, p, v] fun u hu => ?_
      simp only [List.mem_cons, List.not_mem_nil, or_false] at hu
      rcases hu with rfl | rfl | rfl
      · exact it kg
      · exact it kp
      · exact it kv
    refine fn_of (o := .rt (.tuple [.str kq, t'.enc], .fz) [.fz T, .fz (.int x), .own (.list L), .fz (.str kq), .fz t'.enc, s']) rfl ?_ rfl
    refine seq_nx (ρ1 := [.fz T, .fz (.int x), .own (.list L), .no, .no, .no]) (asg_new (call_pure (rs := [(T, .fz), (.int x, .fz)]) rfl hp hpu) rfl) ?_
    refine seq_nx (ρ1 := [.fz T, .fz (.int x), .own (.list L), .no, .no, .no]) (if_f (tNe ln ie_c (by omega)) rfl) ?_
    refine seq_nx (ρ1 := [.fz T, .fz (.int x), .own (.list L), .fz (.str kq), .fz w.enc, .no]) ?_ ?_
    · have dc : mCall m_law_double (mCons (mOp gIx (mVar 2) (mUn gNeg (mC (.int 3)))) (mCons (mCB gSorted (mCons (mLC [] (mItL (mSl gSl (mVar 2) (mPart (mUn gNeg (mC (.int 3)))) mNoPart)) mYes ce1_law_turned) mNil)) (mCons (mVar 1) mNil))) [.fz T, .fz (.int x), .own (.list L), .no, .no, .no] = some ((.tuple [.str kq, w.enc], .fz), [.fz T, .fz (.int x), .own (.list L), .no, .no, .no]) := by
        refine call_pure (o := false) (rs := [(g.enc, .fz), (.list [.int lo, .int mid, .int hi], .fz), (.int x, .fz)]) (cons_fz (sv_fz i3) (cons_fz (sv_new (cb_ev (rs := [(.list [.int (keyOf g), .int (keyOf p), .int (keyOf v)], .fz)]) (res := (.list [.int lo, .int mid, .int hi], true)) (cons_fz (sv_new (lc_ev (itl_ev (sv_new se)) cp (by simp))) nil_ev) so)) (consI (ie_var rfl) nil_ev))) db pw
      exact asgG_fz dc rfl
    refine seq_nx (for_eq (ds := (pre.map Tr.enc).reverse) (ρ1 := [.fz T, .fz (.int x), .own (.list L), .fz (.str kq), .fz w.enc, .no]) ?_ (by rw [← List.map_reverse]; exact lp)) (ret_eq (tup_ev (rs := [(.str kq, .fz), (t'.enc, .fz)]) rfl rfl (by simp)))
    unfold mFoV
    rw [cons_fz (sv_new sl) nil_ev]
    rfl
theorem nil_sv {ρ : Rho} : sv (mC .none) ρ = some (((Tr.nil).enc, .fz), ρ) := rfl
def partL (x : Int) : Tr → Tr
  | .nil => .nil
  | .nd l k r => if k < x then .nd l k .nil else l
def partR (x : Int) : Tr → Tr
  | .nil => .nil
  | .nd l k r => if k < x then r else .nd .nil k r
theorem parted_is (u : Tr) (x : Int) : m_parted [u.enc, .int x] = some (.tuple [(partL x u).enc, (partR x u).enc], false) := by
  cases u with
  | nil => exact fn_of (o := .rt (.tuple [.none, .none], .fz) [.fz .none, .fz (.int x)]) rfl (seq_rt (if_t rfl (ret_eq (tup_ev (rs := [(.none, .fz), (.none, .fz)]) rfl rfl (by simp))))) rfl
  | nd l k r =>
    have d0 : gIx (Tr.nd l k r).enc (.int 0) = some (l.enc, false) := rfl
    have d1 : gIx (Tr.nd l k r).enc (.int 1) = some (.int k, false) := rfl
    have d2 : gIx (Tr.nd l k r).enc (.int 2) = some (r.enc, false) := rfl
    have nn : gIs (Tr.nd l k r).enc .none = some (.bool false, false) := rfl
    have e1 : partL x (.nd l k r) = if k < x then .nd l k .nil else l := rfl
    have e2 : partR x (.nd l k r) = if k < x then r else .nd .nil k r := rfl
    rw [e1, e2]
    generalize hD : (Tr.nd l k r).enc = dd at *
    have ix : ∀ {j : Int} {d : D}, gIx dd (.int j) = some (d, false) → mOp gIx (mVar 0) (mC (.int j)) [.fz dd, .fz (.int x)] = some ((d, .fz), [.fz dd, .fz (.int x)]) := fun h => op_ev (r := (.int _, .fz)) (sv_fz (var_fz rfl)) (sv_fz rfl) h
    have c0 : mIfS (mTest (mOp gIs (mVar 0) (mC .none))) (mRet (mTup (mCons (mC .none) (mCons (mC .none) mNil)))) mPass [.fz dd, .fz (.int x)] = some (.nx [.fz dd, .fz (.int x)]) := if_f (test_ev (k := .fz) (op_ev (r := (.none, .fz)) (res := (.bool false, false)) (sv_fz (var_fz rfl)) (sv_fz rfl) nn)) rfl
    by_cases h2 : k < x
    · rw [if_pos h2, if_pos h2]
      exact fn_of (o := .rt (.tuple [(Tr.nd l k .nil).enc, r.enc], .fz) [.fz dd, .fz (.int x)]) rfl (seq_nx c0 (seq_rt (if_t (tstB (be_lt (ix d1) (ie_var rfl)) (decide_eq_true h2)) (ret_eq (tup_ev (rs := [((Tr.nd l k .nil).enc, .fz), (r.enc, .fz)]) (cons_fz (sv_fz (tree_call (sv_fz (ix d0)) (ix d1) nil_sv)) (cons_fz (sv_fz (ix d2)) nil_ev)) rfl (by simp)))))) rfl
    · rw [if_neg h2, if_neg h2]
      exact fn_of (o := .rt (.tuple [l.enc, (Tr.nd .nil k r).enc], .fz) [.fz dd, .fz (.int x)]) rfl (seq_nx c0 (seq_nx (if_f (tstB (be_lt (ix d1) (ie_var rfl)) (decide_eq_false h2)) rfl) (ret_eq (tup_ev (rs := [(l.enc, .fz), ((Tr.nd .nil k r).enc, .fz)]) (cons_fz (sv_fz (ix d0)) (cons_fz (sv_fz (tree_call nil_sv (ix d1) (sv_fz (ix d2)))) nil_ev)) rfl (by simp))))) rfl
theorem pure_two (a b : Tr) : pureR (.tuple [a.enc, b.enc]) false = true := by
  rw [pureR_tup]; simp only [pureDs, pureD, Tr.pure_enc, Bool.and_self]
theorem lmany_is (t : Tr) : m_law_many [t.enc] = some (.int (t.size : Int), false) := by
  cases t with
  | nil => exact fn_of (o := .rt (.int 0, .fz) [.fz .none]) rfl (seq_rt (if_t rfl rfl)) rfl
  | nd l k r =>
    generalize hD : (Tr.nd l k r).enc = dd
    refine fn_of (o := .rt (.int ((Tr.nd l k r).size : Int), .fz) [.fz dd]) rfl (seq_nx (ρ1 := [.fz dd]) (if_f ?_ rfl) (ret_eq ?_)) rfl
    · rw [← hD]; rfl
    · rw [← hD]; rfl
theorem eseq_nx {a b : EM} {ρ ρ1 : Rho} {o : Option OutE} (h1 : a ρ = some (.ok (.nx ρ1))) (h2 : b ρ1 = o) : eSeq a b ρ = o := by unfold eSeq; rw [h1]; exact h2
theorem eseq_er {a b : EM} {ρ ρ1 : Rho} {c : Str} (h1 : a ρ = some (.er c ρ1)) : eSeq a b ρ = some (.er c ρ1) := by unfold eSeq; rw [h1]; rfl
theorem elift_ev {m : SM} {ρ : Rho} {o : Out} (h : m ρ = some o) : eLift m ρ = some (.ok o) := by unfold eLift; rw [h]; rfl
theorem eif_t {c : Rho → Option (Bool × Rho)} {a b : EM} {ρ ρ1 : Rho} {o : Option OutE} (h1 : c ρ = some (true, ρ1)) (h2 : a ρ1 = o) : eIf c a b ρ = o := by unfold eIf; rw [h1, Option.bind_some]; dsimp only; rw [if_pos rfl, h2]
theorem fnX_er {n k : Nat} {b : EM} {ds : List D} {c : Str} {ρ : Rho} (hl : ds.length = n) (h : b (ds.map .fz ++ List.replicate k .no) = some (.er c ρ)) : fnX n k b ds = some (.inr c) := by
  unfold fnX; rw [if_pos hl, h]; rfl
theorem fnX_ok {n k : Nat} {b : EM} {ds : List D} {o : Out} {r : D × Bool} (hl : ds.length = n) (h : b (ds.map .fz ++ List.replicate k .no) = some (.ok o)) (hr : retD o = some r) : fnX n k b ds = some (.inl r) := by
  unfold fnX; rw [if_pos hl, h]; show (retD o).map _ = _; rw [hr]; rfl
theorem try_er {f : List D → Option ((D × Bool) ⊕ Str)} {m : Rho → Option (List RV × Rho)} {i : Nat} {su : Str → Option SM} {ρ ρ1 ρ2 ρ3 ρ4 : Rho} {rs : List RV} {c : Str} {s : SM} (h1 : m ρ = some (rs, ρ1)) (h2 : f (rs.map (·.1)) = some (.inr c)) (h3 : su c = some s) (h4 : noEx ρ1 = true) (h5 : setSl ρ1 i .ex = some ρ2) (h6 : s ρ2 = some (.nx ρ3)) (h7 : setSl ρ3 i .no = some ρ4) (h8 : noEx ρ4 = true) : mTryX f m i su ρ = some (.nx ρ4) := by
  unfold mTryX
  rw [h1, Option.bind_some]; dsimp only
  rw [h2, Option.bind_some]; dsimp only
  rw [h3, Option.bind_some, if_pos h4, h5, Option.bind_some, h6, Option.bind_some]
  unfold dropX
  dsimp only
  rw [h7, Option.bind_some, if_pos h8]
theorem try_ok {f : List D → Option ((D × Bool) ⊕ Str)} {m : Rho → Option (List RV × Rho)} {i : Nat} {su : Str → Option SM} {ρ ρ1 : Rho} {rs : List RV} {r : D × Bool} (h1 : m ρ = some (rs, ρ1)) (h2 : f (rs.map (·.1)) = some (.inl r)) : mTryX f m i su ρ = some (.nx ρ1) := by
  unfold mTryX
  rw [h1, Option.bind_some]; dsimp only
  rw [h2, Option.bind_some]
theorem orV_f {a b : PM} {ρ : Rho} {v : Bool} (h1 : BE a ρ false) (h2 : BE b ρ v) : BE (mOrV a b) ρ v := be_or h1 (fun _ => h2) (fun h => by cases h)
theorem number_is (c : Int) (ks : List Int) : ∃ v : Int, m_law_number [.int c, .list (ks.map .int)] = some (.int v, false) := by
  have q60 : CPow 10 60 := ⟨by decide, by decide, by decide⟩
  have pp : (0 : Int) < 2 * 10 ^ (60 : Int).toNat - 1 := by decide +kernel
  have ln : ∀ {s2 : Sl}, IE (mCB gLen (mCons (mVar 1) mNil)) [.fz (.int c), .fz (.list (ks.map .int)), s2] (ks.length : Int) := fun {s2} => cb_ev (rs := [(.list (ks.map .int), .fz)]) (res := (.int (ks.length : Int), false)) rfl (gLen_ints ks)
  have c5 : ∀ {r : Rho}, IE (mOp gMod (mVar 0) (mC (.int 5))) (.fz (.int c) :: r) (c % 5) := fun {r} => ie_mod (ie_var rfl) ie_c (by decide)
  have d5 : ∀ {r : Rho}, IE (mOp gDiv (mVar 0) (mC (.int 5))) (.fz (.int c) :: r) (c / 5) := fun {r} => ie_div (ie_var rfl) ie_c ⟨by decide, by decide⟩
  generalize hT : (10 : Int) ^ (60 : Int).toNat = T at pp
  have pT : ∀ {ρ : Rho}, IE (mOp gPow (mC (.int 10)) (mC (.int 60))) ρ T := fun {ρ} => hT ▸ ie_pow ie_c ie_c q60
  have r1 : ∀ {ρ : Rho}, mRet (mOp gAdd (mOp gSub (mOp gMod (mOp gDiv (mVar 0) (mC (.int 5))) (mOp gSub (mOp gMul (mC (.int 2)) (mOp gPow (mC (.int 10)) (mC (.int 60)))) (mC (.int 1)))) (mOp gPow (mC (.int 10)) (mC (.int 60)))) (mC (.int 1))) (.fz (.int c) :: ρ) = some (.rt (.int (c / 5 % (2 * T - 1) - T + 1), .fz) (.fz (.int c) :: ρ)) := fun {ρ} => ret_eq (ie_add (ie_sub (ie_mod d5 (ie_sub (ie_mul ie_c pT (IntMulOk.of_left (by decide))) ie_c) pp) pT) ie_c)
  by_cases h1 : c % 5 = 0
  · exact ⟨_, fn_of (o := .rt (.int (c / 5 % (2 * T - 1) - T + 1), .fz) [.fz (.int c), .fz (.list (ks.map .int)), .no]) rfl (seq_rt (if_t (or_t (tEq c5 ie_c h1)) r1)) rfl⟩
  by_cases h2 : ks.length = 0
  · exact ⟨_, fn_of (o := .rt (.int (c / 5 % (2 * T - 1) - T + 1), .fz) [.fz (.int c), .fz (.list (ks.map .int)), .no]) rfl (seq_rt (if_t (or_f (tNe c5 ie_c h1) (tEq ln ie_c (by omega))) r1)) rfl⟩
  have s1 : ∀ {s : SM} {o : Option Out}, s [.fz (.int c), .fz (.list (ks.map .int)), .no] = o → mSeq (mIfS (mOr (mTest (mOp gEq (mOp gMod (mVar 0) (mC (.int 5))) (mC (.int 0)))) (mTest (mOp gEq (mCB gLen (mCons (mVar 1) mNil)) (mC (.int 0))))) (mRet (mOp gAdd (mOp gSub (mOp gMod (mOp gDiv (mVar 0) (mC (.int 5))) (mOp gSub (mOp gMul (mC (.int 2)) (mOp gPow (mC (.int 10)) (mC (.int 60)))) (mC (.int 1)))) (mOp gPow (mC (.int 10)) (mC (.int 60)))) (mC (.int 1)))) mPass) s [.fz (.int c), .fz (.list (ks.map .int)), .no] = o := fun h => seq_nx (if_f (or_f (tNe c5 ie_c h1) (tNe ln ie_c (by omega))) rfl) h
  by_cases h3 : c % 5 = 1
  · exact ⟨_, fn_of (o := .rt (.int (c / 5 % 61 - 30), .fz) [.fz (.int c), .fz (.list (ks.map .int)), .no]) rfl (s1 (seq_rt (if_t (tEq c5 ie_c h3) (ret_eq (ie_sub (ie_mod d5 ie_c (by decide)) ie_c))))) rfl⟩
  obtain ⟨n, hn, _, e1⟩ := key_at ks (c / 15) (by omega)
  obtain ⟨w, hw⟩ : ∃ w : Int, gIx (.list [.int 0, .int 0, .int 1, .int (-1)]) (.int (c / 5 % 4)) = some (.int w, false) := by
    have : c / 5 % 4 = 0 ∨ c / 5 % 4 = 1 ∨ c / 5 % 4 = 2 ∨ c / 5 % 4 = 3 := by omega
    rcases this with h | h | h | h
    · exact ⟨0, by rw [h]; rfl⟩
    · exact ⟨0, by rw [h]; rfl⟩
    · exact ⟨1, by rw [h]; rfl⟩
    · exact ⟨-1, by rw [h]; rfl⟩
  exact ⟨_, fn_of (o := .rt (.int (ks[n] + w), .fz) [.fz (.int c), .fz (.list (ks.map .int)), .fz (.int ks[n])]) rfl (s1 (seq_nx (if_f (tNe c5 ie_c h3) rfl) (seq_nx (ρ1 := [.fz (.int c), .fz (.list (ks.map .int)), .fz (.int ks[n])]) (asgI (op_ev (r := (.int _, .fz)) (res := (.int ks[n], false)) (sv_fz (var_fz rfl)) (sv_fz (ie_mod (ie_div (ie_var rfl) ie_c ⟨by decide, by decide⟩) ln (by omega))) e1) rfl) (ret_eq (ie_add (ie_var rfl) (op_ev (r := (.int _, .fz)) (res := (.int w, false)) (sv_new (lst_ev (rs := [(.int 0, .fz), (.int 0, .fz), (.int 1, .fz), (.int (-1), .fz)]) (consI ie_c (consI ie_c (consI ie_c (consI (ie_neg ie_c) nil_ev)))) rfl (by simp))) (sv_fz (ie_mod d5 ie_c (by decide))) hw)))))) rfl⟩
theorem cut_ints (ns : List Int) (lo hi : Nat) : ∃ cs : List Int, cutD (ns.map .int) (some (lo : Int)) (some (hi : Int)) = cs.map .int ∧ cs.length ≤ hi - lo ∧ ∀ c ∈ cs, c ∈ ns := by
  unfold cutD
  rw [HT.sIx_nat, HT.sIx_nat, List.length_map]
  refine ⟨(ns.drop (min lo ns.length)).take (min hi ns.length - min lo ns.length), by rw [List.map_take, List.map_drop], ?_, fun c hc => List.mem_of_mem_drop (List.mem_of_mem_take hc)⟩
  rcases Nat.le_total lo ns.length with h | h
  · rw [Nat.min_eq_left h]
    exact Nat.le_trans (List.length_take_le _ _) (Nat.sub_le_sub_right (Nat.min_le_left _ _) _)
  · rw [Nat.min_eq_right h, List.drop_length, List.take_nil]
    exact Nat.zero_le _
theorem compL_filter {c : Rho → Option (Bool × Rho)} {e : PM} {ρn : Rho} {p : Int → Bool} : ∀ l : List Int, (∀ x ∈ l, ∃ ρ, c (.fz (.int x) :: ρn) = some (p x, .fz (.int x) :: ρn) ∧ sv e (.fz (.int x) :: ρn) = some ((.int x, .fz), ρ)) → compL c e ρn (l.map .int) = some ((l.filter p).map .int)
  | [], _ => rfl
  | x :: l, h => by
    obtain ⟨ρ, h1, h3⟩ := h x List.mem_cons_self
    have h2 := compL_filter l fun y hy => h y (List.mem_cons_of_mem _ hy)
    rw [List.map_cons, List.filter_cons]
    unfold compL
    cases hp : p x with
    | true => rw [hp] at h1; simp only [h1, h2, h3, asF, Option.bind_some, Option.map_some, if_true, List.map_cons]
    | false => rw [hp] at h1; simp only [h1, h2, Option.bind_some, Bool.false_eq_true, if_false]
theorem bools_shaped : ∀ l : List Bool, SeqAt.shaped (.list (l.map .bool)) = true := by
  intro l
  have c : PyData.canLay0 (.list (l.map .bool)) = true := by
    simp only [PyData.canLay0]
    induction l with
    | nil => rfl
    | cons b l ih => rw [List.map_cons]; simp only [PyData.canLayAll0, PyData.canLay0, ih, Bool.and_self]
  have d : PyData.depthAll (l.map .bool) ≤ 0 := by
    induction l with
    | nil => exact Nat.le_refl _
    | cons b l ih =>
      rw [List.map_cons]
      simp only [PyData.depthAll, PyData.depth]
      have := ih (by
        simp only [PyData.canLay0, List.map_cons, PyData.canLayAll0, Bool.and_eq_true] at c
        simp only [PyData.canLay0]
        exact c.2)
      omega
  unfold SeqAt.shaped
  rw [c, decide_eq_true (show PyData.depth (.list (l.map .bool)) ≤ 64 by simp only [PyData.depth]; omega)]
  rfl
theorem gNe_bools (l : List Bool) : gNe (.list (l.map .bool)) (.list (l.map .bool)) = some (.bool false, false) := by
  have s := bools_shaped l
  unfold gNe
  rw [if_pos ⟨s, s⟩, SeqAt.eqv_refl _ (SeqAt.canLay_of_shaped s)]
  rfl
theorem gEq_bools (l : List Bool) : gEq (.list (l.map .bool)) (.list (l.map .bool)) = some (.bool true, false) := by
  have s := bools_shaped l
  unfold gEq
  rw [if_pos ⟨s, s⟩, SeqAt.eqv_refl _ (SeqAt.canLay_of_shaped s)]
theorem gNe_kind (q : Nat) : gNe (.str (kindS q)) (.str (kindS q)) = some (.bool false, false) := by
  have s : SeqAt.shaped (.str (kindS q)) = true := by
    unfold kindS
    split
    · decide +kernel
    · split <;> decide +kernel
  unfold gNe
  rw [if_pos ⟨s, s⟩, SeqAt.eqv_refl _ (SeqAt.canLay_of_shaped s)]
  rfl
theorem isi_lst (l : List D) : gIsi "list" (.list l) = some (.bool true, false) := by simp [gIsi, tyD, tyAsked, tyIs]
theorem trail_loop (T L : D) (x : Int) {t u : Tr} {tr : List (Nat × Tr)} (h : Up x t tr u) : ∀ (s4 s5 s6 : Sl), t.Bst → t.size ≤ 60 → SF s4 → SF s5 → SF s6 → ∃ s4' s5' s6', forL (mgN 4) lb1_law_trail (tr.map toldD) [.fz T, .fz (.int x), .fz L, .fz t.enc, s4, s5, s6] = some (.nx [.fz T, .fz (.int x), .fz L, .fz u.enc, s4', s5', s6']) := by
  induction h with
  | done => intro s4 s5 s6 _ _ _ _ _; exact ⟨s4, s5, s6, rfl⟩
  | @step q t t' u tr hk tn hu ih =>
    intro s4 s5 s6 hb hz h4 h5 h6
    have td := turned_is tn hb (Nat.le_trans (Tr.ht_size _) hz)
    have pw : pureR (.tuple [.str (kindS q), t'.enc]) false = true := by rw [pureR_tup]; simp only [pureDs, pureD, Tr.pure_enc, Bool.and_self]
    have al := alike_is 64 t' (by have := Tr.ht_size t'; have := tn.size; omega)
    have nk := gNe_kind q
    obtain ⟨s4', s5', s6', e⟩ := ih (.fz (toldD (q, t'))) (.fz (.str (kindS q))) (.fz t'.enc) (tn.bst hb) (by rw [tn.size]; exact hz) (SF.fz _) (SF.fz _) (SF.fz _)
    refine ⟨s4', s5', s6', ?_⟩
    have rx : gIx t.enc (.int 1) = some (.int (keyOf t), false) := by
      cases t with
      | nil => cases tn
      | nd l k r => rfl
    have e0 : toldD (q, t') = .tuple [.str (kindS q), t'.enc] := rfl
    rw [List.map_cons]
    rw [e0] at e ⊢
    generalize kindS q = kq at *
    generalize t.enc = A at *
    generalize t'.enc = A' at *
    refine forL_cons (ρ1 := [.fz T, .fz (.int x), .fz L, .fz A, .fz (.tuple [.str kq, A']), s5, s6]) (by rcases h4 with rfl | ⟨_, rfl⟩ <;> rfl) ?_ e
    have ix : ∀ {j : Int} {d : D} {s5 s6 : Sl}, gIx (.tuple [.str kq, A']) (.int j) = some (d, false) → mOp gIx (mVar 4) (mC (.int j)) [.fz T, .fz (.int x), .fz L, .fz A, .fz (.tuple [.str kq, A']), s5, s6] = some ((d, .fz), [.fz T, .fz (.int x), .fz L, .fz A, .fz (.tuple [.str kq, A']), s5, s6]) := fun h => op_ev (r := (.int _, .fz)) (sv_fz (var_fz rfl)) (sv_fz rfl) h
    refine seq_nx (ρ1 := [.fz T, .fz (.int x), .fz L, .fz A, .fz (.tuple [.str kq, A']), s5, s6]) (if_f (or_f (tNe (op_ev (r := (.int 1, .fz)) (res := (.int (keyOf t), false)) (sv_fz (var_fz rfl)) (sv_fz rfl) rx) (ie_var rfl) hk) (or_f (not_ev (v := true) (isT_ev _ (sv_fz (var_fz rfl)))) (tstB (be_ne (i := 2) (cb_ev (rs := [(.tuple [.str kq, A'], .fz)]) (res := (.int 2, false)) rfl rfl) ie_c) (by decide)))) rfl) ?_
    refine seq_nx (ρ1 := [.fz T, .fz (.int x), .fz L, .fz A, .fz (.tuple [.str kq, A']), .fz (.str kq), .fz A']) (asgG_fz (call_pure (o := false) (rs := [(A, .fz), (.int x, .fz)]) rfl td pw) (by rcases h5 with rfl | ⟨_, rfl⟩ <;> rcases h6 with rfl | ⟨_, rfl⟩ <;> rfl)) ?_
    refine seq_nx (if_f (or_f (test_ev (k := .fz) (op_ev (r := (.str kq, .fz)) (res := (.bool false, false)) (sv_fz (ix rfl)) (sv_fz (var_fz rfl)) nk)) (not_ev (v := true) (be_call (rs := [(A', .fz), (A', .fz)]) (cons_fz (sv_fz (ix rfl)) (cons_fz (sv_fz (var_fz rfl)) nil_ev)) al).t)) rfl) ?_
    exact asg_fz (var_fz rfl) rfl
theorem law_trail_is {x : Int} {t u : Tr} {tr : List (Nat × Tr)} (h : Up x t tr u) (hb : t.Bst) (hz : t.size ≤ 60) : m_law_trail [t.enc, .int x, .list (tr.map toldD)] = some (u.enc, false) := by
  obtain ⟨s4, s5, s6, e⟩ := trail_loop t.enc (.list (tr.map toldD)) x h .no .no .no hb hz SF.no SF.no SF.no
  obtain ⟨l, r, eu⟩ := h.nd
  have rx : gIx u.enc (.int 1) = some (.int x, false) := by rw [eu]; rfl
  have il := isi_lst (tr.map toldD)
  generalize tr.map toldD = L at *
  generalize t.enc = T at *
  generalize u.enc = U at *
  refine fn_of (o := .rt (U, .fz) [.fz T, .fz (.int x), .fz (.list L), .fz U, s4, s5, s6]) rfl ?_ rfl
  refine seq_nx (ρ1 := [.fz T, .fz (.int x), .fz (.list L), .no, .no, .no, .no]) (if_f (not_ev (v := true) (test_ev (k := .fz) (isi_ev (sv_fz (var_fz rfl)) il))) rfl) ?_
  refine seq_nx (ρ1 := [.fz T, .fz (.int x), .fz (.list L), .fz T, .no, .no, .no]) rfl ?_
  refine seq_nx (for_eq (ds := L) (ρ1 := [.fz T, .fz (.int x), .fz (.list L), .fz T, .no, .no, .no]) (fol_ev (sv_fz (var_fz rfl))) e) ?_
  refine seq_nx (if_f (tstB (be_ne (op_ev (r := (.int 1, .fz)) (res := (.int x, false)) (sv_fz (var_fz rfl)) (sv_fz rfl) rx) (ie_var rfl)) (by simp)) rfl) ?_
  exact ret_eq (var_fz rfl)
theorem paid_is (a : Int) (L : List D) (c p : Int) (h : (L.length : Int) + c ≤ a + p) : m_law_paid [.int a, .list L, .int c, .int p] = some (.bool true, false) := by
  have ll : gLen [.list L] = some (.int (L.length : Int), false) := rfl
  generalize (L.length : Int) = n at *
  refine fn_of (o := .rt (.bool true, .fz) [.fz (.int a), .fz (.list L), .fz (.int c), .fz (.int p)]) rfl (ret_eq ?_) rfl
  exact (be_le (ie_add (cb_ev (rs := [(.list L, .fz)]) (res := (.int n, false)) rfl ll) (ie_var rfl)) (ie_add (ie_var rfl) (ie_var rfl))).is (decide_eq_true h)
theorem bits_ev {a : PM} {ρ : Rho} {z y : Int} (h : IE a ρ z) (e : ((Builtin.Int.intBits z : Nat) : Int) = y) : IE (mBM0 gBits a) ρ y := by
  unfold IE mBM0
  rw [sv_fz h, ← e]
  rfl
theorem lparted_is (u : Tr) (x : Int) : m_law_parted [u.enc, .int x] = some (.tuple [(partL x u).enc, (partR x u).enc], false) := by
  cases u with
  | nil => exact fn_of (o := .rt (.tuple [.none, .none], .fz) [.fz .none, .fz (.int x)]) rfl (seq_rt (if_t rfl (ret_eq (tup_ev (rs := [(.none, .fz), (.none, .fz)]) rfl rfl (by simp))))) rfl
  | nd l k r =>
    have d0 : gIx (Tr.nd l k r).enc (.int 0) = some (l.enc, false) := rfl
    have d1 : gIx (Tr.nd l k r).enc (.int 1) = some (.int k, false) := rfl
    have d2 : gIx (Tr.nd l k r).enc (.int 2) = some (r.enc, false) := rfl
    have nn : gIs (Tr.nd l k r).enc .none = some (.bool false, false) := rfl
    have e1 : partL x (.nd l k r) = if k < x then .nd l k .nil else l := rfl
    have e2 : partR x (.nd l k r) = if k < x then r else .nd .nil k r := rfl
    rw [e1, e2]
    generalize hD : (Tr.nd l k r).enc = dd at *
    have ix : ∀ {j : Int} {d : D}, gIx dd (.int j) = some (d, false) → mOp gIx (mVar 0) (mC (.int j)) [.fz dd, .fz (.int x)] = some ((d, .fz), [.fz dd, .fz (.int x)]) := fun h => op_ev (r := (.int _, .fz)) (sv_fz (var_fz rfl)) (sv_fz rfl) h
    have c0 : mIfS (mTest (mOp gIs (mVar 0) (mC .none))) (mRet (mTup (mCons (mC .none) (mCons (mC .none) mNil)))) mPass [.fz dd, .fz (.int x)] = some (.nx [.fz dd, .fz (.int x)]) := if_f (test_ev (k := .fz) (op_ev (r := (.none, .fz)) (res := (.bool false, false)) (sv_fz (var_fz rfl)) (sv_fz rfl) nn)) rfl
    by_cases h2 : k < x
    · rw [if_pos h2, if_pos h2]
      exact fn_of (o := .rt (.tuple [(Tr.nd l k .nil).enc, r.enc], .fz) [.fz dd, .fz (.int x)]) rfl (seq_nx c0 (seq_rt (if_t (tstB (be_lt (ix d1) (ie_var rfl)) (decide_eq_true h2)) (ret_eq (tup_ev (rs := [((Tr.nd l k .nil).enc, .fz), (r.enc, .fz)]) (cons_fz (sv_fz (node_call (sv_fz (ix d0)) (ix d1) nil_sv)) (cons_fz (sv_fz (ix d2)) nil_ev)) rfl (by simp)))))) rfl
    · rw [if_neg h2, if_neg h2]
      exact fn_of (o := .rt (.tuple [l.enc, (Tr.nd .nil k r).enc], .fz) [.fz dd, .fz (.int x)]) rfl (seq_nx c0 (seq_nx (if_f (tstB (be_lt (ix d1) (ie_var rfl)) (decide_eq_false h2)) rfl) (ret_eq (tup_ev (rs := [(l.enc, .fz), ((Tr.nd .nil k r).enc, .fz)]) (cons_fz (sv_fz (ix d0)) (cons_fz (sv_fz (node_call nil_sv (ix d1) (sv_fz (ix d2)))) nil_ev)) rfl (by simp))))) rfl
theorem cut_tree_is {t u : Tr} {x : Int} {b : Bool} {tr : List (Nat × Tr)} (h : Asked t x b u tr) : m_cut_tree [t.enc, .int x] = some (.tuple [(partL x u).enc, (partR x u).enc, .list (tr.map toldD)], false) := by
  have ha := h.is
  have pt := parted_is u x
  have pp := pure_two (partL x u) (partR x u)
  generalize t.enc = T at *
  generalize tr.map toldD = L at *
  generalize u.enc = U at *
  generalize (partL x u).enc = A at *
  generalize (partR x u).enc = B at *
  refine fn_of (o := .rt (.tuple [A, B, .list L], .fz) [.fz T, .fz (.int x), .fz (.tuple [.bool b, U, .list L]), .fz (.tuple [A, B])]) rfl ?_ rfl
  refine seq_nx (ρ1 := [.fz T, .fz (.int x), .fz (.tuple [.bool b, U, .list L]), .no]) (asg_fz (call_fz (o := false) (rs := [(T, .fz), (.int x, .fz)]) rfl ha rfl) rfl) ?_
  refine seq_nx (ρ1 := [.fz T, .fz (.int x), .fz (.tuple [.bool b, U, .list L]), .fz (.tuple [A, B])]) (asg_fz (call_pure (o := false) (rs := [(U, .fz), (.int x, .fz)]) rfl pt pp) rfl) ?_
  exact ret_eq (tup_ev (rs := [(A, .fz), (B, .fz), (.list L, .fz)]) rfl rfl (by simp))
theorem part_keys (x : Int) (u : Tr) : (partL x u).keys ++ (partR x u).keys = u.keys := by
  cases u with
  | nil => rfl
  | nd l k r =>
    show (if k < x then Tr.nd l k .nil else l).keys ++ (if k < x then r else Tr.nd .nil k r).keys = _
    split <;> simp [Tr.keys]
theorem part_facts {t u : Tr} (x : Int) (hk : u.keys = t.keys) (hb : t.Bst) : (partL x u).Bst ∧ (partR x u).Bst ∧ (∀ a ∈ (partL x u).keys, ∀ b ∈ (partR x u).keys, a < b) ∧ (partL x u).size + (partR x u).size = t.size := by
  have e := part_keys x u
  have hs := Tr.sorted hb
  rw [← hk, ← e] at hs
  obtain ⟨h1, h2, h3⟩ := List.pairwise_append.mp hs
  refine ⟨bst_of h1, bst_of h2, h3, ?_⟩
  rw [← Tr.len_keys, ← Tr.len_keys, ← Tr.len_keys, ← List.length_append, e, hk]
theorem cut_paid {t u : Tr} {x : Int} {b : Bool} {tr : List (Nat × Tr)} (h : Asked t x b u tr) (hb : t.Bst) : (tr.length : Int) + (cred (partL x u) + cred (partR x u)) ≤ cred t + max 0 (3 * bits t.size - 2) := by
  by_cases hn : t.keys = []
  · obtain ⟨e1, e2, e3⟩ := h.none hn
    subst e1 e2 e3
    show (0 : Int) + (0 + 0) ≤ 0 + max 0 (3 * bits 0 - 2)
    omega
  · have hu := h.top hn
    have pd := hu.ask hb (lastK_mem x t hn)
    have sz := hu.size
    obtain ⟨l, r, e⟩ := hu.nd
    rw [e] at pd sz ⊢
    generalize lastK t x = k at *
    have e1 : partL x (.nd l k r) = if k < x then .nd l k .nil else l := rfl
    have e2 : partR x (.nd l k r) = if k < x then r else .nd .nil k r := rfl
    rw [e1, e2]
    simp only [Tr.size] at sz
    have m1 := bits_mono (show l.size + 1 + 0 ≤ t.size by omega)
    have m2 := bits_mono (show 0 + 1 + r.size ≤ t.size by omega)
    simp only [cred, Tr.size, sz] at pd
    split
    · simp only [cred, Tr.size]
      omega
    · simp only [cred, Tr.size]
      omega
theorem cut_right_is {t u : Tr} {x : Int} {b : Bool} {tr : List (Nat × Tr)} (h : Asked t x b u tr) (hb : t.Bst) (hz : t.size ≤ 60) : m_law_cut_right [t.enc, .int x] = some (.tuple [(partL x u).enc, (partR x u).enc], false) := by
  obtain ⟨_, _, _, ps⟩ := part_facts x h.keys hb
  have hc := cut_tree_is h
  have ha := h.is
  have hp := lparted_is u x
  have pp := pure_two (partL x u) (partR x u)
  have pd := cut_paid h hb
  have al1 := alike_is 64 (partL x u) (by have := Tr.ht_size (partL x u); omega)
  have al2 := alike_is 64 (partR x u) (by have := Tr.ht_size (partR x u); omega)
  have lc := lawcred_is 64 t (by have := Tr.ht_size t; omega)
  have lc1 := lawcred_is 64 (partL x u) (by have := Tr.ht_size (partL x u); omega)
  have lc2 := lawcred_is 64 (partR x u) (by have := Tr.ht_size (partR x u); omega)
  have lm := lmany_is t
  have tn : gNe (.list (tr.map toldD)) (.list (tr.map toldD)) = some (.bool false, false) := told_ne tr (by
    intro p hp
    by_cases hn : t.keys = []
    · obtain ⟨_, _, e3⟩ := h.none hn
      rw [e3] at hp
      cases hp
    · have := up_sizes (h.top hn) p hp
      have := Tr.ht_size p.2
      omega)
  have bt : ((Builtin.Int.intBits (t.size : Int) : Nat) : Int) = bits t.size := rfl
  rw [← List.length_map (f := toldD)] at pd
  generalize cred (partL x u) = c1 at *
  generalize cred (partR x u) = c2 at *
  generalize cred t = c0 at *
  generalize bits t.size = y at *
  generalize (t.size : Int) = z at *
  generalize tr.map toldD = L at *
  generalize (partL x u).enc = A at *
  generalize (partR x u).enc = B at *
  generalize t.enc = T at *
  generalize u.enc = U at *
  have pa := paid_is c0 L (c1 + c2) (max 0 (3 * y - 2)) pd
  generalize hF : PyData.tuple [A, B, .list L] = F at *
  have f0 : gIx F (.int 0) = some (A, false) := by rw [← hF]; rfl
  have f1 : gIx F (.int 1) = some (B, false) := by rw [← hF]; rfl
  have f2 : gIx F (.int 2) = some (.list L, false) := by rw [← hF]; rfl
  have fl : gLen [F] = some (.int 3, false) := by rw [← hF]; rfl
  have ft : gIsi "tuple" F = some (.bool true, false) := by rw [← hF]; exact isi_tuple_tuple _
  have ix : ∀ {j : Int} {d : D} {r : List Sl}, gIx F (.int j) = some (d, false) → mOp gIx (mVar 2) (mC (.int j)) (.fz T :: .fz (.int x) :: .fz F :: r) = some ((d, .fz), .fz T :: .fz (.int x) :: .fz F :: r) := fun h => op_ev (r := (.int _, .fz)) (sv_fz (var_fz rfl)) (sv_fz rfl) h
  refine fn_of (o := .rt (.tuple [A, B], .fz) [.fz T, .fz (.int x), .fz F, .fz (.bool b), .fz U, .fz (.list L), .fz A, .fz B, .fz (.int (max 0 (3 * y - 2)))]) rfl ?_ rfl
  refine seq_nx (ρ1 := [.fz T, .fz (.int x), .fz F, .no, .no, .no, .no, .no, .no]) (asg_fz (call_fz (o := false) (rs := [(T, .fz), (.int x, .fz)]) rfl hc rfl) rfl) ?_
  refine seq_nx (ρ1 := [.fz T, .fz (.int x), .fz F, .no, .no, .no, .no, .no, .no]) (if_f (or_f (not_ev (v := true) (test_ev (k := .fz) (isi_ev (sv_fz (var_fz rfl)) ft))) (tstB (be_ne (i := 3) (cb_ev (rs := [(F, .fz)]) (res := (.int 3, false)) rfl fl) ie_c) (by decide))) rfl) ?_
  refine seq_nx (ρ1 := [.fz T, .fz (.int x), .fz F, .fz (.bool b), .fz U, .fz (.list L), .no, .no, .no]) (asgG_fz (call_fz (o := false) (rs := [(T, .fz), (.int x, .fz)]) rfl ha rfl) rfl) ?_
  refine seq_nx (ρ1 := [.fz T, .fz (.int x), .fz F, .fz (.bool b), .fz U, .fz (.list L), .fz A, .fz B, .no]) (asgG_fz (call_pure (o := false) (rs := [(U, .fz), (.int x, .fz)]) rfl hp pp) rfl) ?_
  refine seq_nx (ρ1 := [.fz T, .fz (.int x), .fz F, .fz (.bool b), .fz U, .fz (.list L), .fz A, .fz B, .no]) (if_f (or_f (test_ev (k := .fz) (op_ev (r := (.list L, .fz)) (res := (.bool false, false)) (sv_fz (ix f2)) (sv_fz (var_fz rfl)) tn)) (or_f (not_ev (v := true) (be_call (rs := [(A, .fz), (A, .fz)]) (cons_fz (sv_fz (ix f0)) (cons_fz (sv_fz (var_fz rfl)) nil_ev)) al1).t) (not_ev (v := true) (be_call (rs := [(B, .fz), (B, .fz)]) (cons_fz (sv_fz (ix f1)) (cons_fz (sv_fz (var_fz rfl)) nil_ev)) al2).t))) rfl) ?_
  refine seq_nx (ρ1 := [.fz T, .fz (.int x), .fz F, .fz (.bool b), .fz U, .fz (.list L), .fz A, .fz B, .fz (.int (max 0 (3 * y - 2)))]) (asgI (cb_ev (rs := [(.int 0, .fz), (.int (3 * y - 2), .fz)]) (res := (.int (max 0 (3 * y - 2)), false)) (consI ie_c (consI (ie_sub (ie_mul ie_c (bits_ev (ie_call (rs := [(T, .fz)]) rfl lm) bt) (IntMulOk.of_left (by decide))) ie_c) nil_ev)) (gMax_int _ _)) rfl) ?_
  refine seq_nx (if_f (not_ev (v := true) (be_call (rs := [(.int c0, .fz), (.list L, .fz), (.int (c1 + c2), .fz), (.int (max 0 (3 * y - 2)), .fz)]) (consI (ie_call (rs := [(T, .fz)]) rfl lc) (cons_fz (sv_fz (var_fz rfl)) (consI (ie_add (ie_call (rs := [(A, .fz)]) rfl lc1) (ie_call (rs := [(B, .fz)]) rfl lc2)) (consI (ie_var rfl) nil_ev)))) pa).t) rfl) ?_
  exact ret_eq (tup_ev (rs := [(A, .fz), (B, .fz)]) rfl rfl (by simp))
theorem tied_tail (A B M : D) (L : List D) (ca cb cm p : Int) (s5 : Sl) (h1 : m_law_credit 64 [A] = some (.int ca, false)) (h2 : m_law_credit 64 [B] = some (.int cb, false)) (h3 : m_law_credit 64 [M] = some (.int cm, false)) (al : m_law_alike 64 [M, M] = some (.bool true, false)) (hp : (L.length : Int) + cm ≤ ca + cb + p) : (mSeq (mAsg 6 (mOp gAdd (mCall (m_law_credit 64) (mCons (mVar 0) mNil)) (mCall (m_law_credit 64) (mCons (mVar 1) mNil))))
    (mSeq (mIfS (mOr (mNot (mTest (mCall (m_law_alike 64) (mCons (mOp gIx (mVar 2) (mC (.int 0))) (mCons (mVar 3) mNil))))) (mNot (mTest (mCall m_law_paid (mCons (mVar 6) (mCons (mOp gIx (mVar 2) (mC (.int 1))) (mCons (mCall (m_law_credit 64) (mCons (mVar 3) mNil)) (mCons (mVar 4) mNil))))))))
    (mRet (mC .none))
    mPass)
    (mRet (mTup (mCons (mVar 3) mNil))))) [.fz A, .fz B, .fz (.tuple [M, .list L]), .fz M, .fz (.int p), s5, .no] = some (.rt (.tuple [M], .fz) [.fz A, .fz B, .fz (.tuple [M, .list L]), .fz M, .fz (.int p), s5, .fz (.int (ca + cb))]) := by
  have pa := paid_is (ca + cb) L cm p hp
  have ix : ∀ {j : Int} {d : D} {r : List Sl}, gIx (.tuple [M, .list L]) (.int j) = some (d, false) → mOp gIx (mVar 2) (mC (.int j)) (.fz A :: .fz B :: .fz (.tuple [M, .list L]) :: r) = some ((d, .fz), .fz A :: .fz B :: .fz (.tuple [M, .list L]) :: r) := fun h => op_ev (r := (.int _, .fz)) (sv_fz (var_fz rfl)) (sv_fz rfl) h
  refine seq_nx (ρ1 := [.fz A, .fz B, .fz (.tuple [M, .list L]), .fz M, .fz (.int p), s5, .fz (.int (ca + cb))]) (asgI (ie_add (ie_call (rs := [(A, .fz)]) rfl h1) (ie_call (rs := [(B, .fz)]) rfl h2)) rfl) ?_
  refine seq_nx (if_f (or_f (not_ev (v := true) (be_call (rs := [(M, .fz), (M, .fz)]) (cons_fz (sv_fz (ix rfl)) (cons_fz (sv_fz (var_fz rfl)) nil_ev)) al).t) (not_ev (v := true) (be_call (rs := [(.int (ca + cb), .fz), (.list L, .fz), (.int cm, .fz), (.int p, .fz)]) (consI (ie_var rfl) (cons_fz (sv_fz (ix rfl)) (consI (ie_call (rs := [(M, .fz)]) rfl h3) (consI (ie_var rfl) nil_ev)))) pa).t)) rfl) ?_
  exact ret_eq (tup_ev (rs := [(M, .fz)]) rfl rfl (by simp))
theorem ne_nils : gNe (.list []) (.list []) = some (.bool false, false) := gNe_bools []
theorem isnt_none {t : Tr} (h : t.keys ≠ []) : gIsNot t.enc .none = some (.bool true, false) := by
  obtain ⟨l, k, r, rfl⟩ := nd_of h
  rfl
theorem tied_right_is {a b m : Tr} {tr : List (Nat × Tr)} (h : Tied a b m tr) (ha : a.Bst) (hb : b.Bst) (hz : a.size + b.size ≤ 60) : m_law_tied_right [a.enc, b.enc] = some (.tuple [m.enc], false) := by
  have hi := h.is
  have hp := h.paid
  have ms : m.size = a.size + b.size := by rw [← Tr.len_keys, ← Tr.len_keys, ← Tr.len_keys, ← List.length_append, h.keys]
  have al := alike_is 64 m (by have := Tr.ht_size m; omega)
  have lc0 := lawcred_is 64 a (by have := Tr.ht_size a; omega)
  have lc1 := lawcred_is 64 b (by have := Tr.ht_size b; omega)
  have lc2 := lawcred_is 64 m (by have := Tr.ht_size m; omega)
  rw [← List.length_map (f := toldD)] at hp
  by_cases he : a.keys = [] ∨ b.keys = []
  · obtain ⟨et, em⟩ := h.emp he
    subst et
    rw [if_pos he] at hp
    rw [List.map_nil] at hi hp
    have tl := fun s5 => tied_tail a.enc b.enc m.enc [] _ _ _ 0 s5 lc0 lc1 lc2 al hp
    by_cases na : a.keys = []
    · rw [if_pos na] at em
      subst em
      have e := keys_nil na
      subst e
      clear lc0 lc1 lc2 al hp ms hz he
      generalize m.enc = B at *
      refine fn_of (o := .rt (.tuple [B], .fz) [.fz .none, .fz B, .fz (.tuple [B, .list []]), .fz B, .fz (.int 0), .no, .fz (.int (cred .nil + cred m))]) rfl ?_ rfl
      refine seq_nx (ρ1 := [.fz .none, .fz B, .fz (.tuple [B, .list []]), .no, .no, .no, .no]) (asg_fz (call_fz (o := false) (rs := [(.none, .fz), (B, .fz)]) rfl hi rfl) rfl) ?_
      refine seq_nx (if_f (or_f (not_ev (v := true) (isT_ev _ (sv_fz (var_fz rfl)))) (tstB (be_ne (i := 2) (cb_ev (rs := [(.tuple [B, .list []], .fz)]) (res := (.int 2, false)) rfl rfl) ie_c) (by decide))) rfl) ?_
      refine seq_nx (ρ1 := [.fz .none, .fz B, .fz (.tuple [B, .list []]), .fz .none, .no, .no, .no]) rfl ?_
      refine seq_nx (ρ1 := [.fz .none, .fz B, .fz (.tuple [B, .list []]), .fz B, .no, .no, .no]) (if_t rfl rfl) ?_
      refine seq_nx (ρ1 := [.fz .none, .fz B, .fz (.tuple [B, .list []]), .fz B, .fz (.int 0), .no, .no]) rfl ?_
      refine seq_nx (ρ1 := [.fz .none, .fz B, .fz (.tuple [B, .list []]), .fz B, .fz (.int 0), .no, .no]) (if_f (and_f rfl) (if_f (test_ev (k := .fz) (op_ev (r := (.list [], .fz)) (res := (.bool false, false)) (sv_fz (op_ev (r := (.int 1, .fz)) (res := (.list [], false)) (sv_fz (var_fz rfl)) (sv_fz rfl) rfl)) (sv_new (lst_ev rfl rfl (by simp))) ne_nils)) rfl)) ?_
      exact tl .no
    · rw [if_neg na] at em
      subst em
      have e := keys_nil (he.resolve_left na)
      subst e
      have nn := is_none na
      have nm := isnt_none na
      clear lc0 lc1 lc2 al hp ms hz he
      generalize m.enc = A at *
      refine fn_of (o := .rt (.tuple [A], .fz) [.fz A, .fz .none, .fz (.tuple [A, .list []]), .fz A, .fz (.int 0), .no, .fz (.int (cred m + cred .nil))]) rfl ?_ rfl
      refine seq_nx (ρ1 := [.fz A, .fz .none, .fz (.tuple [A, .list []]), .no, .no, .no, .no]) (asg_fz (call_fz (o := false) (rs := [(A, .fz), (.none, .fz)]) rfl hi rfl) rfl) ?_
      refine seq_nx (if_f (or_f (not_ev (v := true) (isT_ev _ (sv_fz (var_fz rfl)))) (tstB (be_ne (i := 2) (cb_ev (rs := [(.tuple [A, .list []], .fz)]) (res := (.int 2, false)) rfl rfl) ie_c) (by decide))) rfl) ?_
      refine seq_nx (ρ1 := [.fz A, .fz .none, .fz (.tuple [A, .list []]), .fz A, .no, .no, .no]) rfl ?_
      refine seq_nx (ρ1 := [.fz A, .fz .none, .fz (.tuple [A, .list []]), .fz A, .no, .no, .no]) (if_f (test_ev (k := .fz) (op_ev (r := (.none, .fz)) (res := (.bool false, false)) (sv_fz (var_fz rfl)) (sv_fz rfl) nn)) rfl) ?_
      refine seq_nx (ρ1 := [.fz A, .fz .none, .fz (.tuple [A, .list []]), .fz A, .fz (.int 0), .no, .no]) rfl ?_
      refine seq_nx (ρ1 := [.fz A, .fz .none, .fz (.tuple [A, .list []]), .fz A, .fz (.int 0), .no, .no]) (if_f (and_t (test_ev (k := .fz) (op_ev (r := (.none, .fz)) (res := (.bool true, false)) (sv_fz (var_fz rfl)) (sv_fz rfl) nm)) rfl) (if_f (test_ev (k := .fz) (op_ev (r := (.list [], .fz)) (res := (.bool false, false)) (sv_fz (op_ev (r := (.int 1, .fz)) (res := (.list [], false)) (sv_fz (var_fz rfl)) (sv_fz rfl) rfl)) (sv_new (lst_ev rfl rfl (by simp))) ne_nils)) rfl)) ?_
      exact tl .no
  · have na : a.keys ≠ [] := fun z => he (.inl z)
    have nb : b.keys ≠ [] := fun z => he (.inr z)
    obtain ⟨l, x, r, hu, em, hx⟩ := h.top na nb
    rw [if_neg he] at hp
    have lt := law_trail_is hu ha (by omega)
    have ri := rising_is 64 a (by have := Tr.ht_size a; omega) (by omega)
    have gx : gIx (.list (a.keys.map .int)) (.int (-1)) = some (.int x, false) := gIx_list _ _ _ (by rw [Mir.atI_last, List.getLast?_map, hx]; rfl)
    have tl := fun s5 => tied_tail a.enc b.enc m.enc _ _ _ _ _ s5 lc0 lc1 lc2 al hp
    have nn := is_none na
    have nma := isnt_none na
    have nmb := isnt_none nb
    have a3 : gIx a.enc (.int 3) = some (.int (a.size : Int), false) := by
      obtain ⟨l, k, r, rfl⟩ := nd_of na
      rfl
    have m3 : gIx m.enc (.int 3) = some (.int (m.size : Int), false) := by rw [em]; rfl
    have b1 : ((Builtin.Int.intBits (a.size : Int) : Nat) : Int) = bits a.size := rfl
    have b2 : ((Builtin.Int.intBits (m.size : Int) : Nat) : Int) = bits m.size := rfl
    rw [ms] at b2 m3
    have nd := node_is l x b
    rw [← em] at nd
    have pw := Tr.pureR_enc m
    have d0 : gIx (Tr.nd l x r).enc (.int 0) = some (l.enc, false) := rfl
    have d1 : gIx (Tr.nd l x r).enc (.int 1) = some (.int x, false) := rfl
    have dn : gIs (Tr.nd l x r).enc .none = some (.bool false, false) := rfl
    have pi := pureDs_ints a.keys
    have pu := Tr.pureR_enc (Tr.nd l x r)
    clear lc0 lc1 lc2 al hp ms hz he hu em
    generalize (Tr.nd l x r).enc = U at *
    generalize l.enc = LL at *
    generalize a.keys.map PyData.int = KS at *
    generalize bits a.size = y1 at *
    generalize bits (a.size + b.size) = y2 at *
    generalize (a.size : Int) = z1 at *
    generalize ((a.size + b.size : Nat) : Int) = z2 at *
    generalize tr.map toldD = L at *
    generalize a.enc = A at *
    generalize b.enc = B at *
    generalize m.enc = M at *
    generalize cred a + cred b = cs at *
    refine fn_of (o := .rt (.tuple [M], .fz) [.fz A, .fz B, .fz (.tuple [M, .list L]), .fz M, .fz (.int (2 * y1 + y2 - 2)), .fz U, .fz (.int cs)]) rfl ?_ rfl
    have ix : ∀ {j : Int} {d : D} {r : List Sl}, gIx (.tuple [M, .list L]) (.int j) = some (d, false) → mOp gIx (mVar 2) (mC (.int j)) (.fz A :: .fz B :: .fz (.tuple [M, .list L]) :: r) = some ((d, .fz), .fz A :: .fz B :: .fz (.tuple [M, .list L]) :: r) := fun h => op_ev (r := (.int _, .fz)) (sv_fz (var_fz rfl)) (sv_fz rfl) h
    refine seq_nx (ρ1 := [.fz A, .fz B, .fz (.tuple [M, .list L]), .no, .no, .no, .no]) (asg_fz (call_fz (o := false) (rs := [(A, .fz), (B, .fz)]) rfl hi rfl) rfl) ?_
    refine seq_nx (if_f (or_f (not_ev (v := true) (isT_ev _ (sv_fz (var_fz rfl)))) (tstB (be_ne (i := 2) (cb_ev (rs := [(.tuple [M, .list L], .fz)]) (res := (.int 2, false)) rfl rfl) ie_c) (by decide))) rfl) ?_
    refine seq_nx (ρ1 := [.fz A, .fz B, .fz (.tuple [M, .list L]), .fz A, .no, .no, .no]) rfl ?_
    refine seq_nx (ρ1 := [.fz A, .fz B, .fz (.tuple [M, .list L]), .fz A, .no, .no, .no]) (if_f (test_ev (k := .fz) (op_ev (r := (.none, .fz)) (res := (.bool false, false)) (sv_fz (var_fz rfl)) (sv_fz rfl) nn)) rfl) ?_
    refine seq_nx (ρ1 := [.fz A, .fz B, .fz (.tuple [M, .list L]), .fz A, .fz (.int 0), .no, .no]) rfl ?_
    refine seq_nx (ρ1 := [.fz A, .fz B, .fz (.tuple [M, .list L]), .fz M, .fz (.int (2 * y1 + y2 - 2)), .fz U, .no]) (if_t (and_t (test_ev (k := .fz) (op_ev (r := (.none, .fz)) (res := (.bool true, false)) (sv_fz (var_fz rfl)) (sv_fz rfl) nma)) (test_ev (k := .fz) (op_ev (r := (.none, .fz)) (res := (.bool true, false)) (sv_fz (var_fz rfl)) (sv_fz rfl) nmb))) ?_) (tl _)
    refine seq_nx (ρ1 := [.fz A, .fz B, .fz (.tuple [M, .list L]), .fz A, .fz (.int 0), .fz U, .no]) (asg_fz (call_pure (o := false) (rs := [(A, .fz), (.int x, .fz), (.list L, .fz)]) (cons_fz (sv_fz (var_fz rfl)) (consI (op_ev (r := (.int (-1), .fz)) (res := (.int x, false)) (sv_new (call_pure (rs := [(A, .fz)]) rfl ri pi)) (sv_fz (ie_neg ie_c)) gx) (cons_fz (sv_fz (ix rfl)) nil_ev))) lt pu) rfl) ?_
    refine seq_nx (if_f (test_ev (k := .fz) (op_ev (r := (.none, .fz)) (res := (.bool false, false)) (sv_fz (var_fz rfl)) (sv_fz rfl) dn)) rfl) ?_
    refine seq_nx (ρ1 := [.fz A, .fz B, .fz (.tuple [M, .list L]), .fz M, .fz (.int 0), .fz U, .no]) (asg_fz (call_pure (o := false) (rs := [(LL, .fz), (.int x, .fz), (B, .fz)]) (cons_fz (sv_fz (op_ev (r := (.int 0, .fz)) (res := (LL, false)) (sv_fz (var_fz rfl)) (sv_fz rfl) d0)) (consI (op_ev (r := (.int 1, .fz)) (res := (.int x, false)) (sv_fz (var_fz rfl)) (sv_fz rfl) d1) (cons_fz (sv_fz (var_fz rfl)) nil_ev))) nd pw) rfl) ?_
    exact asgI (ie_sub (ie_add (ie_mul ie_c (bits_ev (op_ev (r := (.int 3, .fz)) (res := (.int z1, false)) (sv_fz (var_fz rfl)) (sv_fz rfl) a3) b1) (IntMulOk.of_left (by decide))) (bits_ev (op_ev (r := (.int 3, .fz)) (res := (.int z2, false)) (sv_fz (var_fz rfl)) (sv_fz rfl) m3) b2)) ie_c) rfl
theorem eseq_rt {a b : EM} {ρ ρ1 : Rho} {r : RV} (h1 : a ρ = some (.ok (.rt r ρ1))) : eSeq a b ρ = some (.ok (.rt r ρ1)) := by unfold eSeq; rw [h1]; rfl
theorem x_tie_nil (a b : Tr) (h : a.keys = [] ∨ b.keys = []) : ∃ r, x_tie_trees [a.enc, b.enc] = some (.inl r) := by
  by_cases na : a.keys = []
  · have e := keys_nil na
    subst e
    generalize b.enc = B
    exact ⟨(.tuple [B, .list []], false), fnX_ok (o := .rt (.tuple [B, .list []], .fz) [.fz .none, .fz B, .no, .no, .no]) rfl (eseq_rt (elift_ev (if_t rfl (ret_eq (tup_ev (rs := [(B, .fz), (.list [], .fz)]) (cons_fz (sv_fz (var_fz rfl)) (cons_fz (sv_new (lst_ev rfl rfl (by simp))) nil_ev)) rfl (by simp)))))) rfl⟩
  · have e := keys_nil (h.resolve_left na)
    subst e
    have nn := is_none na
    generalize a.enc = A at *
    exact ⟨(.tuple [A, .list []], false), fnX_ok (o := .rt (.tuple [A, .list []], .fz) [.fz A, .fz .none, .no, .no, .no]) rfl (eseq_nx (ρ1 := [.fz A, .fz .none, .no, .no, .no]) (elift_ev (if_f (test_ev (k := .fz) (op_ev (r := (.none, .fz)) (res := (.bool false, false)) (sv_fz (var_fz rfl)) (sv_fz rfl) nn)) rfl)) (eseq_rt (elift_ev (if_t rfl (ret_eq (tup_ev (rs := [(A, .fz), (.list [], .fz)]) (cons_fz (sv_fz (var_fz rfl)) (cons_fz (sv_new (lst_ev rfl rfl (by simp))) nil_ev)) rfl (by simp))))))) rfl⟩
theorem last_max {l : List Int} {z : Int} (hs : l.Pairwise (· < ·)) (h : l.getLast? = some z) : ∀ x ∈ l, x ≤ z := by
  obtain ⟨ys, e⟩ := List.getLast?_eq_some_iff.mp h
  subst e
  obtain ⟨_, _, h3⟩ := List.pairwise_append.mp hs
  intro x hx
  rcases List.mem_append.mp hx with h | h
  · have := h3 x h z (by simp); omega
  · simp at h; omega
theorem head_min {l : List Int} {z : Int} (hs : l.Pairwise (· < ·)) (h : l[0]? = some z) : ∀ x ∈ l, z ≤ x := by
  cases l with
  | nil => cases h
  | cons a l =>
    simp at h
    subst h
    intro x hx
    rcases List.mem_cons.mp hx with h | h
    · omega
    · have := List.rel_of_pairwise_cons hs h; omega
theorem x_tie_mixed (a b : Tr) (ha : a.Bst) (hb : b.Bst) (za : a.size ≤ 60) (zb : b.size ≤ 60) (h : ∃ x ∈ a.keys, ∃ y ∈ b.keys, y ≤ x) : x_tie_trees [a.enc, b.enc] = some (.inr "Mixed") := by
  obtain ⟨x0, hx0, y0, hy0, hle⟩ := h
  have na : a.keys ≠ [] := fun z => by rw [z] at hx0; cases hx0
  have nb : b.keys ≠ [] := fun z => by rw [z] at hy0; cases hy0
  have nna := is_none na
  have nnb := is_none nb
  have ka := keysof_is a ha (by omega)
  have kb := keysof_is b hb (by omega)
  obtain ⟨x, hx⟩ : ∃ x, a.keys.getLast? = some x := ⟨a.keys.getLast na, List.getLast?_eq_some_getLast na⟩
  obtain ⟨y, hy⟩ : ∃ y, b.keys[0]? = some y := ⟨b.keys[0]'(List.length_pos_iff.mpr nb), List.getElem?_eq_getElem _⟩
  have l1 := last_max (Tr.sorted ha) hx x0 hx0
  have l2 := head_min (Tr.sorted hb) hy y0 hy0
  have gx : gIx (.list (a.keys.map .int)) (.int (-1)) = some (.int x, false) := gIx_list _ _ _ (by rw [Mir.atI_last, List.getLast?_map, hx]; rfl)
  have gy : gIx (.list (b.keys.map .int)) (.int 0) = some (.int y, false) := gIx_list _ _ _ (by rw [show (0 : Int) = ((0 : Nat) : Int) from rfl, Mir.atI_nat, List.getElem?_map, hy]; rfl)
  generalize a.keys = ks at *
  generalize b.keys = ks' at *
  generalize a.enc = A at *
  generalize b.enc = B at *
  refine fnX_er (ρ := [.fz A, .fz B, .fz (.int x), .no, .no]) rfl ?_
  refine eseq_nx (ρ1 := [.fz A, .fz B, .no, .no, .no]) (elift_ev (if_f (test_ev (k := .fz) (op_ev (r := (.none, .fz)) (res := (.bool false, false)) (sv_fz (var_fz rfl)) (sv_fz rfl) nna)) rfl)) ?_
  refine eseq_nx (ρ1 := [.fz A, .fz B, .no, .no, .no]) (elift_ev (if_f (test_ev (k := .fz) (op_ev (r := (.none, .fz)) (res := (.bool false, false)) (sv_fz (var_fz rfl)) (sv_fz rfl) nnb)) rfl)) ?_
  refine eseq_nx (ρ1 := [.fz A, .fz B, .fz (.int x), .no, .no]) (elift_ev (asgI (op_ev (r := (.int (-1), .fz)) (res := (.int x, false)) (sv_new (call_pure (rs := [(A, .fz)]) rfl ka (pureDs_ints _))) (sv_fz (ie_neg ie_c)) gx) rfl)) ?_
  exact eseq_er (eif_t (tstB (be_ge (ie_var rfl) (op_ev (r := (.int 0, .fz)) (res := (.int y, false)) (sv_new (call_pure (rs := [(B, .fz)]) rfl kb (pureDs_ints _))) (sv_fz rfl) gy)) (decide_eq_true (by omega))) rfl)
theorem refused_nil (a b : Tr) (h : a.keys = [] ∨ b.keys = []) : m_law_refused [a.enc, b.enc] = some (.list [], true) := by
  obtain ⟨r, hx⟩ := x_tie_nil a b h
  generalize a.enc = A at *
  generalize b.enc = B at *
  refine fn_of (o := .rt (.list [], .at 2) [.fz A, .fz B, .own (.list []), .no, .no]) rfl ?_ rfl
  refine seq_nx (ρ1 := [.fz A, .fz B, .own (.list []), .no, .no]) (asg_new (lst_ev rfl rfl (by simp)) rfl) ?_
  refine seq_nx (ρ1 := [.fz A, .fz B, .own (.list []), .no, .no]) (try_ok (rs := [(A, .fz), (B, .fz)]) rfl hx) ?_
  exact ret_eq (var_own rfl)
theorem suite_is (T d : D) : (mSeq (mAsg 2 (mLst (mCons (mIsiX 3 true) (mCons (mIsiX 3 true) mNil))))
    (mSeq (mAsg 4 (mIsiX 3 false))
    (mDrop (mMut 2 fAppend (mCons (mOrV (mVar 4) (mIsiX 3 false)) mNil))))) [.fz T, .fz d, .own (.list []), .ex, .no] = some (.nx [.fz T, .fz d, .own (.list [.bool true, .bool true, .bool false]), .ex, .fz (.bool false)]) := by
  refine seq_nx (ρ1 := [.fz T, .fz d, .own (.list [.bool true, .bool true]), .ex, .no]) (asg_new (lst_ev (rs := [(.bool true, .fz), (.bool true, .fz)]) rfl rfl (by simp)) rfl) ?_
  refine seq_nx (ρ1 := [.fz T, .fz d, .own (.list [.bool true, .bool true]), .ex, .fz (.bool false)]) (asg_fz (d := .bool false) rfl rfl) ?_
  exact app_ev (.bool false) [.bool true, .bool true] rfl (cons_fz (sv_fz (orV_f (v := false) (var_fz rfl) rfl)) nil_ev) rfl rfl (by simp) rfl
theorem refused_mixed (a b : Tr) (ha : a.Bst) (hb : b.Bst) (za : a.size ≤ 60) (zb : b.size ≤ 60) (h : ∃ x ∈ a.keys, ∃ y ∈ b.keys, y ≤ x) : m_law_refused [a.enc, b.enc] = some (.list [.bool true, .bool true, .bool false], true) := by
  have hx := x_tie_mixed a b ha hb za zb h
  generalize a.enc = T at *
  generalize b.enc = d at *
  refine fn_of (o := .rt (.list [.bool true, .bool true, .bool false], .at 2) [.fz T, .fz d, .own (.list [.bool true, .bool true, .bool false]), .no, .fz (.bool false)]) rfl ?_ rfl
  refine seq_nx (ρ1 := [.fz T, .fz d, .own (.list []), .no, .no]) (asg_new (lst_ev rfl rfl (by simp)) rfl) ?_
  refine seq_nx (ρ1 := [.fz T, .fz d, .own (.list [.bool true, .bool true, .bool false]), .no, .fz (.bool false)]) (try_er (rs := [(T, .fz), (d, .fz)]) rfl hx rfl rfl rfl (suite_is T d) rfl rfl) ?_
  exact ret_eq (var_own rfl)
theorem mixed_up_is (a b : Tr) (ha : a.Bst) (hb : b.Bst) (za : a.size ≤ 60) (zb : b.size ≤ 60) (h : a.keys ≠ [] → b.keys ≠ [] → ∃ x ∈ b.keys, ∃ y ∈ a.keys, y ≤ x) : m_law_mixed_up [a.enc, b.enc] = some (.bool true, false) := by
  have e0 : gEq (.list []) (.list []) = some (.bool true, false) := gEq_bools []
  have e1 : gEq (.list [.bool true, .bool true, .bool false]) (.list [.bool true, .bool true, .bool false]) = some (.bool true, false) := gEq_bools [true, true, false]
  have isn : ∀ {A B : D} {i : Nat} {d : D} {v : Bool}, [Sl.fz A, .fz B][i]? = some (.fz d) → gIs d .none = some (.bool v, false) → mTest (mOp gIs (mVar i) (mC .none)) [.fz A, .fz B] = some (v, [.fz A, .fz B]) := fun h1 h2 => test_ev (k := .fz) (op_ev (r := (.none, .fz)) (res := (.bool _, false)) (sv_fz (var_fz h1)) (sv_fz rfl) h2)
  by_cases he : a.keys = [] ∨ b.keys = []
  · have rf := refused_nil b a he.symm
    have ca : mOr (mTest (mOp gIs (mVar 0) (mC .none))) (mTest (mOp gIs (mVar 1) (mC .none))) [.fz a.enc, .fz b.enc] = some (true, [.fz a.enc, .fz b.enc]) := by
      by_cases na : a.keys = []
      · have e := keys_nil na
        subst e
        exact or_t (isn (d := .none) (v := true) rfl rfl)
      · have e := keys_nil (he.resolve_left na)
        subst e
        exact or_f (isn rfl (is_none na)) (isn (d := .none) (v := true) rfl rfl)
    generalize a.enc = A at *
    generalize b.enc = B at *
    exact fn_of (o := .rt (.bool true, .fz) [.fz A, .fz B]) rfl (seq_rt (if_t ca (ret_eq (op_ev (r := (.list [], .fz)) (res := (.bool true, false)) (sv_new (call_pure (rs := [(B, .fz), (A, .fz)]) rfl rf rfl)) (sv_new (lst_ev rfl rfl (by simp))) e0)))) rfl
  · have na : a.keys ≠ [] := fun z => he (.inl z)
    have nb : b.keys ≠ [] := fun z => he (.inr z)
    have rf := refused_mixed b a hb ha zb za (h na nb)
    have nna := is_none na
    have nnb := is_none nb
    generalize a.enc = A at *
    generalize b.enc = B at *
    exact fn_of (o := .rt (.bool true, .fz) [.fz A, .fz B]) rfl (seq_nx (if_f (or_f (isn rfl nna) (isn rfl nnb)) rfl) (ret_eq (op_ev (r := (.list [.bool true, .bool true, .bool false], .fz)) (res := (.bool true, false)) (sv_new (call_pure (rs := [(B, .fz), (A, .fz)]) rfl rf rfl)) (sv_new (lst_ev (rs := [(.bool true, .fz), (.bool true, .fz), (.bool false, .fz)]) rfl rfl (by simp))) e1))) rfl
theorem of_loop (S : D) : ∀ (ks : List Int) (t : Tr) (s : Sl), t.size + ks.length ≤ 60 → SF s → ∃ s', forL (mgN 2) lb1_law_of (ks.map .int) [.fz S, .fz t.enc, s] = some (.nx [.fz S, .fz (ks.foldl Tr.ins t).enc, s'])
  | [], t, s, _, _ => ⟨s, rfl⟩
  | k :: ks, t, s, h, hs => by
    rw [List.length_cons] at h
    obtain ⟨s', e⟩ := of_loop S ks (t.ins k) (.fz (.int k)) (by rw [Tr.size_ins]; omega) (SF.fz _)
    have hp := put_is 64 t k (by have := Tr.ht_size t; omega)
    refine ⟨s', ?_⟩
    rw [List.map_cons, List.foldl_cons, ← e]
    show ((mgN 2 (.int k) [.fz S, .fz t.enc, s]).bind _) = _
    rw [mgN2 hs, Option.bind_some]
    have : lb1_law_of [.fz S, .fz t.enc, .fz (.int k)] = some (.nx [.fz S, .fz (t.ins k).enc, .fz (.int k)]) :=
      asg_fz (call_pure (o := false) (rs := [(t.enc, .fz), (.int k, .fz)]) rfl hp (Tr.pureR_enc _)) rfl
    rw [this]
    rfl
theorem law_of_is (ks : List Int) (h : ks.length ≤ 60) : m_law_of [.list (ks.map .int)] = some ((Tr.grow ks).enc, false) := by
  obtain ⟨s', e⟩ := of_loop (.list (ks.map .int)) ks .nil .no (by simpa [Tr.size] using h) SF.no
  refine fn_of (o := .rt ((Tr.grow ks).enc, .fz) [.fz (.list (ks.map .int)), .fz (Tr.grow ks).enc, s']) rfl ?_ rfl
  refine seq_nx (ρ1 := [.fz (.list (ks.map .int)), .fz .none, .no]) rfl ?_
  exact seq_nx (for_eq (fol_ev (sv_fz (var_fz rfl))) e) (ret_eq (var_fz rfl))
theorem grown2_is (ns : List Int) (hb : ∀ k ∈ ns, Builtin.Int.intBits k ≤ 1048576) : ∃ l ks : List Int, ks.Nodup ∧ ks.length ≤ 60 ∧ m_law_order [.int (cell ns 0), .int (cell ns 2)] = some (.list (l.map .int), true) ∧ m_law_keys [.int (cell ns 1), .list (l.map .int)] = some (.list (ks.map .int), true) ∧ m_law_grown [.list (ns.map .int)] = some ((Tr.grow ks).enc, false) := by
  obtain ⟨l, ho, e1⟩ := order_is (cell ns 0) (cell ns 2)
  obtain ⟨ks, k1, k2, e2⟩ := keys_is (cell ns 1) (cell_bits hb 1) l ho
  have c0 : m_law_cell_at [.list (ns.map .int), .int 0] = _ := cell_at ns 0
  have c1 : m_law_cell_at [.list (ns.map .int), .int 1] = _ := cell_at ns 1
  have c2 : m_law_cell_at [.list (ns.map .int), .int 2] = _ := cell_at ns 2
  obtain ⟨s', e3⟩ := grow_loop (.list (ns.map .int)) ks .nil .no (by simpa [Tr.size] using k2) SF.no
  refine ⟨l, ks, k1, k2, e1, e2, ?_⟩
  refine fn_of (o := .rt ((Tr.grow ks).enc, .fz) [.fz (.list (ns.map .int)), .fz (Tr.grow ks).enc, s']) rfl ?_ rfl
  refine seq_nx (ρ1 := [.fz (.list (ns.map .int)), .fz .none, .no]) rfl ?_
  refine seq_nx (for_eq (fol_ev (sv_new (d := .list (ks.map .int)) ?_)) e3) (ret_eq (var_fz rfl))
  have ca : ∀ {k v : Int}, m_law_cell_at [.list (ns.map .int), .int k] = some (.int v, false) → IE (mCall m_law_cell_at (mCons (mVar 0) (mCons (mC (.int k)) mNil))) [.fz (.list (ns.map .int)), .fz .none, .no] v := fun h => ie_call (rs := [(.list (ns.map .int), .fz), (.int _, .fz)]) rfl h
  have o1 : mCall m_law_order (mCons (mCall m_law_cell_at (mCons (mVar 0) (mCons (mC (.int 0)) mNil))) (mCons (mCall m_law_cell_at (mCons (mVar 0) (mCons (mC (.int 2)) mNil))) mNil)) [.fz (.list (ns.map .int)), .fz .none, .no] = some ((.list (l.map .int), .new), [.fz (.list (ns.map .int)), .fz .none, .no]) :=
    call_pure (rs := [(.int (cell ns 0), .fz), (.int (cell ns 2), .fz)]) (consI (ca c0) (consI (ca c2) nil_ev)) e1 (pureDs_ints _)
  exact call_pure (rs := [(.int (cell ns 1), .fz), (.list (l.map .int), .fz)]) (consI (ca c1) (cons_fz (sv_new o1) nil_ev)) e2 (pureDs_ints _)
theorem pickL_map {α β : Type} (f : α → β) (xs : List α) (lo hi st : Option Int) : pickL (xs.map f) lo hi st = (pickL xs lo hi st).map f := by
  unfold pickL
  rw [List.length_map, List.map_filterMap]
  congr 1
  funext i
  rw [List.getElem?_map]
theorem pick_get (ks : List Int) (lo j : Nat) (h : lo + 2 * j < ks.length) : ks[lo + 2 * j] ∈ pickL ks (some (lo : Int)) none (some 2) := by
  have b : PySem.sliceBounds (some (lo : Int)) none (some 2) ks.length = ((lo : Int), (ks.length : Int), 2) := by
    unfold PySem.sliceBounds
    simp
    omega
  unfold pickL
  rw [b]
  refine List.mem_filterMap.mpr ⟨lo + 2 * j, ?_, List.getElem?_eq_getElem h⟩
  unfold sliceRange
  dsimp only
  rw [if_pos (by decide), if_pos (by omega)]
  exact List.mem_map.mpr ⟨j, List.mem_range.mpr (by omega), by omega⟩
theorem sl3_is (ks : List Int) (lo : Nat) (y : Int) : mSl3 gSl3 (mVar 1) (mPart (mC (.int (lo : Int)))) mNoPart (mPart (mC (.int 2))) [.fz (.int y), .fz (.list (ks.map .int))] = some ((.list ((pickL ks (some (lo : Int)) none (some 2)).map .int), .new), [.fz (.int y), .fz (.list (ks.map .int))]) := by
  rw [← pickL_map]
  rfl
theorem never_joined_is (ks os : List Int) (at' : Int) (hs : ks.Pairwise (· < ·)) (hk : ks.length ≤ 60) (hn : os.Nodup) (ho : os.length ≤ 60) (hm : ∀ y, y ∈ ks → y ∈ os) : m_law_never_joined [.list (ks.map .int), .list (os.map .int), .int at'] = some (.bool true, false) := by
  have nodf : ∀ p : Int → Bool, (os.filter p).Nodup := fun p => List.Nodup.sublist List.filter_sublist hn
  have lenf : ∀ p : Int → Bool, (os.filter p).length ≤ 60 := fun p => Nat.le_trans (List.length_filter_le _ _) ho
  have bst : ∀ p : Int → Bool, (Tr.grow (os.filter p)).Bst := fun p => Tr.grow_bst (nodf p)
  have siz : ∀ p : Int → Bool, (Tr.grow (os.filter p)).size ≤ 60 := fun p => by rw [Tr.grow_size (nodf p)]; exact lenf p
  have mem : ∀ (p : Int → Bool) (y : Int), y ∈ ks → p y = true → y ∈ (Tr.grow (os.filter p)).keys := fun p y h1 h2 => (Tr.grow_mem (nodf p) y).mpr (List.mem_filter.mpr ⟨hm y h1, h2⟩)
  have lo' : ∀ p : Int → Bool, m_law_of [.list ((os.filter p).map .int)] = some ((Tr.grow (os.filter p)).enc, false) := fun p => law_of_is _ (lenf p)
  have pz : ∀ p : Int → Bool, ((os.filter p).map PyData.int).length ≤ 100000 := fun p => by rw [List.length_map]; have := lenf p; omega
  have ln : gLen [.list (ks.map .int)] = some (.int (ks.length : Int), false) := gLen_ints ks
  have c4 : ∀ {r : List Sl}, mLC [("_law_keys_here", 0)] (mItL (mVar 1)) ct4_law_never_joined ce4_law_never_joined (.fz (.list (ks.map .int)) :: .fz (.list (os.map .int)) :: r) = some ((.list ((os.filter fun y => decide (y ∈ pickL ks (some ((0 : Nat) : Int)) none (some 2))).map .int), .new), .fz (.list (ks.map .int)) :: .fz (.list (os.map .int)) :: r) := fun {r} => lc_ev (itl_ev (d := os.map .int) (sv_fz (var_fz rfl))) (compL_filter os fun y hy => ⟨[.fz (.int y), .fz (.list (ks.map .int))], test_ev (k := .fz) (op_ev (r := (.list ((pickL ks (some ((0 : Nat) : Int)) none (some 2)).map .int), .fz)) (res := (.bool (decide (y ∈ pickL ks (some ((0 : Nat) : Int)) none (some 2))), false)) (sv_fz (var_fz rfl)) (sv_new (sl3_is ks 0 y)) (in_ints y _)), rfl⟩) (pz _)
  have c3 : ∀ {r : List Sl}, mLC [("_law_keys_here", 0)] (mItL (mVar 1)) ct3_law_never_joined ce3_law_never_joined (.fz (.list (ks.map .int)) :: .fz (.list (os.map .int)) :: r) = some ((.list ((os.filter fun y => decide (y ∈ pickL ks (some ((1 : Nat) : Int)) none (some 2))).map .int), .new), .fz (.list (ks.map .int)) :: .fz (.list (os.map .int)) :: r) := fun {r} => lc_ev (itl_ev (d := os.map .int) (sv_fz (var_fz rfl))) (compL_filter os fun y hy => ⟨[.fz (.int y), .fz (.list (ks.map .int))], test_ev (k := .fz) (op_ev (r := (.list ((pickL ks (some ((1 : Nat) : Int)) none (some 2)).map .int), .fz)) (res := (.bool (decide (y ∈ pickL ks (some ((1 : Nat) : Int)) none (some 2))), false)) (sv_fz (var_fz rfl)) (sv_new (sl3_is ks 1 y)) (in_ints y _)), rfl⟩) (pz _)
  have mx : 2 < ks.length → m_law_mixed_up [(Tr.grow (os.filter fun y => decide (y ∈ pickL ks (some ((0 : Nat) : Int)) none (some 2)))).enc, (Tr.grow (os.filter fun y => decide (y ∈ pickL ks (some ((1 : Nat) : Int)) none (some 2)))).enc] = some (.bool true, false) ∧ m_law_mixed_up [(Tr.grow (os.filter fun y => decide (y ∈ pickL ks (some ((1 : Nat) : Int)) none (some 2)))).enc, (Tr.grow (os.filter fun y => decide (y ∈ pickL ks (some ((0 : Nat) : Int)) none (some 2)))).enc] = some (.bool true, false) := by
    intro h2
    have g0 := pick_get ks 0 0 (by omega)
    have g2 := pick_get ks 0 1 (by omega)
    have g1 := pick_get ks 1 0 (by omega)
    have l1 : ks[0 + 2 * 0] < ks[1 + 2 * 0] := List.pairwise_iff_getElem.mp hs _ _ _ _ (by omega)
    have l2 : ks[1 + 2 * 0] < ks[0 + 2 * 1] := List.pairwise_iff_getElem.mp hs _ _ _ _ (by omega)
    exact ⟨mixed_up_is _ _ (bst _) (bst _) (siz _) (siz _) fun _ _ => ⟨_, mem _ _ (List.getElem_mem _) (decide_eq_true g1), _, mem _ _ (List.getElem_mem _) (decide_eq_true g0), by omega⟩, mixed_up_is _ _ (bst _) (bst _) (siz _) (siz _) fun _ _ => ⟨_, mem _ _ (List.getElem_mem _) (decide_eq_true g2), _, mem _ _ (List.getElem_mem _) (decide_eq_true g1), by omega⟩⟩
  have p4 := Tr.pureR_enc (Tr.grow (os.filter fun y => decide (y ∈ pickL ks (some ((0 : Nat) : Int)) none (some 2))))
  have p3 := Tr.pureR_enc (Tr.grow (os.filter fun y => decide (y ∈ pickL ks (some ((1 : Nat) : Int)) none (some 2))))
  have q4 := lo' fun y => decide (y ∈ pickL ks (some ((0 : Nat) : Int)) none (some 2))
  have q3 := lo' fun y => decide (y ∈ pickL ks (some ((1 : Nat) : Int)) none (some 2))
  generalize (Tr.grow (os.filter fun y => decide (y ∈ pickL ks (some ((0 : Nat) : Int)) none (some 2)))).enc = T0 at *
  generalize (Tr.grow (os.filter fun y => decide (y ∈ pickL ks (some ((1 : Nat) : Int)) none (some 2)))).enc = T1 at *
  generalize (os.filter fun y => decide (y ∈ pickL ks (some ((0 : Nat) : Int)) none (some 2))).map PyData.int = H0 at *
  generalize (os.filter fun y => decide (y ∈ pickL ks (some ((1 : Nat) : Int)) none (some 2))).map PyData.int = H1 at *
  have a1 : mAsg 3 (mLst (mCons (mLC [("_law_keys_here", 0)] (mItL (mVar 1)) ct4_law_never_joined ce4_law_never_joined) (mCons (mLC [("_law_keys_here", 0)] (mItL (mVar 1)) ct3_law_never_joined ce3_law_never_joined) mNil))) [.fz (.list (ks.map .int)), .fz (.list (os.map .int)), .fz (.int at'), .no, .no, .no, .no, .no] = some (.nx [.fz (.list (ks.map .int)), .fz (.list (os.map .int)), .fz (.int at'), .own (.list [.list H0, .list H1]), .no, .no, .no, .no]) := asg_new (lst_ev (rs := [(.list H0, .fz), (.list H1, .fz)]) (cons_fz (sv_new c4) (cons_fz (sv_new c3) nil_ev)) rfl (by simp)) rfl
  clear c4 c3
  have lnE : ∀ {r : List Sl}, IE (mCB gLen (mCons (mVar 0) mNil)) (.fz (.list (ks.map .int)) :: r) (ks.length : Int) := fun {r} => cb_ev (rs := [(.list (ks.map .int), .fz)]) (res := (.int (ks.length : Int), false)) rfl ln
  have a2 : mAsg 4 (mCall m_law_of (mCons (mOp gIx (mVar 3) (mC (.int 0))) mNil)) [.fz (.list (ks.map .int)), .fz (.list (os.map .int)), .fz (.int at'), .own (.list [.list H0, .list H1]), .no, .no, .no, .no] = some (.nx [.fz (.list (ks.map .int)), .fz (.list (os.map .int)), .fz (.int at'), .own (.list [.list H0, .list H1]), .fz T0, .no, .no, .no]) := asg_fz (call_pure (o := false) (rs := [(.list H0, .fz)]) (cons_fz (sv_fz (op_at (i := 3) (y := .list [.list H0, .list H1]) (r := (.int 0, .fz)) (res := (.list H0, false)) (sv_at (var_own rfl)) (sv_fz rfl) rfl rfl)) nil_ev) q4 p4) rfl
  have a3 : mAsg 5 (mCall m_law_of (mCons (mOp gIx (mVar 3) (mC (.int 1))) mNil)) [.fz (.list (ks.map .int)), .fz (.list (os.map .int)), .fz (.int at'), .own (.list [.list H0, .list H1]), .fz T0, .no, .no, .no] = some (.nx [.fz (.list (ks.map .int)), .fz (.list (os.map .int)), .fz (.int at'), .own (.list [.list H0, .list H1]), .fz T0, .fz T1, .no, .no]) := asg_fz (call_pure (o := false) (rs := [(.list H1, .fz)]) (cons_fz (sv_fz (op_at (i := 3) (y := .list [.list H0, .list H1]) (r := (.int 1, .fz)) (res := (.list H1, false)) (sv_at (var_own rfl)) (sv_fz rfl) rfl rfl)) nil_ev) q3 p3) rfl
  have a4 : mIfS (mAnd (mTest (mOp gGt (mCB gLen (mCons (mVar 0) mNil)) (mC (.int 2)))) (mNot (mAnd (mTest (mCall m_law_mixed_up (mCons (mVar 4) (mCons (mVar 5) mNil)))) (mTest (mCall m_law_mixed_up (mCons (mVar 5) (mCons (mVar 4) mNil))))))) (mRet (mC (.bool false))) mPass [.fz (.list (ks.map .int)), .fz (.list (os.map .int)), .fz (.int at'), .own (.list [.list H0, .list H1]), .fz T0, .fz T1, .no, .no] = some (.nx [.fz (.list (ks.map .int)), .fz (.list (os.map .int)), .fz (.int at'), .own (.list [.list H0, .list H1]), .fz T0, .fz T1, .no, .no]) := by
    by_cases h2 : 2 < ks.length
    · obtain ⟨m1, m2⟩ := mx h2
      exact if_f (and_t (tstB (be_gt lnE ie_c) (decide_eq_true (by omega))) (not_ev (v := true) (and_t (be_call (rs := [(T0, .fz), (T1, .fz)]) rfl m1).t (be_call (rs := [(T1, .fz), (T0, .fz)]) rfl m2).t))) rfl
    · exact if_f (and_f (tstB (be_gt lnE ie_c) (decide_eq_false (by omega)))) rfl
  clear mx p3 p4 q3 q4
  by_cases h0 : ks.length = 0 ∨ 59 < ks.length
  · refine fn_of (o := .rt (.bool true, .fz) [.fz (.list (ks.map .int)), .fz (.list (os.map .int)), .fz (.int at'), .own (.list [.list H0, .list H1]), .fz T0, .fz T1, .no, .no]) rfl ?_ rfl
    refine seq_nx a1 (seq_nx a2 (seq_nx a3 (seq_nx a4 (seq_rt (if_t ?_ rfl)))))
    by_cases h1 : ks.length = 0
    · exact or_t (tEq lnE ie_c (by omega))
    · exact or_f (tNe lnE ie_c (by omega)) (tstB (be_gt lnE ie_c) (decide_eq_true (by omega)))
  · obtain ⟨n, hn', en, e1⟩ := key_at ks at' (by omega)
    have pv : ∀ {y : Int}, IE (mOp gIx (mVar 1) (mOp gMod (mVar 2) (mCB gLen (mCons (mVar 1) mNil)))) [.fz (.int y), .fz (.list (ks.map .int)), .fz (.int at')] ks[n] := fun {y} => op_ev (r := (.int _, .fz)) (res := (.int ks[n], false)) (sv_fz (var_fz rfl)) (sv_fz (ie_mod (ie_var rfl) (cb_ev (rs := [(.list (ks.map .int), .fz)]) (res := (.int (ks.length : Int), false)) rfl ln) (by omega))) e1
    have c2 : ∀ {r : List Sl}, mLC [("_law_keys_here", 0), ("_law_at", 2)] (mItL (mVar 1)) ct2_law_never_joined ce2_law_never_joined (.fz (.list (ks.map .int)) :: .fz (.list (os.map .int)) :: .fz (.int at') :: r) = some ((.list ((os.filter fun y => decide (y ≤ ks[n])).map .int), .new), .fz (.list (ks.map .int)) :: .fz (.list (os.map .int)) :: .fz (.int at') :: r) := fun {r} => lc_ev (itl_ev (d := os.map .int) (sv_fz (var_fz rfl))) (compL_filter os fun y hy => ⟨[.fz (.int y), .fz (.list (ks.map .int)), .fz (.int at')], tstB (be_le (ie_var rfl) pv) rfl, rfl⟩) (pz _)
    have c1 : ∀ {r : List Sl}, mLC [("_law_keys_here", 0), ("_law_at", 2)] (mItL (mVar 1)) ct1_law_never_joined ce1_law_never_joined (.fz (.list (ks.map .int)) :: .fz (.list (os.map .int)) :: .fz (.int at') :: r) = some ((.list ((os.filter fun y => decide (ks[n] ≤ y)).map .int), .new), .fz (.list (ks.map .int)) :: .fz (.list (os.map .int)) :: .fz (.int at') :: r) := fun {r} => lc_ev (itl_ev (d := os.map .int) (sv_fz (var_fz rfl))) (compL_filter os fun y hy => ⟨[.fz (.int y), .fz (.list (ks.map .int)), .fz (.int at')], tstB (be_ge (ie_var rfl) pv) (by simp), rfl⟩) (pz _)
    have rf := refused_mixed (Tr.grow (os.filter fun y => decide (y ≤ ks[n]))) (Tr.grow (os.filter fun y => decide (ks[n] ≤ y))) (bst _) (bst _) (siz _) (siz _) ⟨ks[n], mem _ _ (List.getElem_mem _) (by simp), ks[n], mem _ _ (List.getElem_mem _) (by simp), Int.le_refl _⟩
    have p4 := Tr.pureR_enc (Tr.grow (os.filter fun y => decide (y ≤ ks[n])))
    have p3 := Tr.pureR_enc (Tr.grow (os.filter fun y => decide (ks[n] ≤ y)))
    have q4 := lo' fun y => decide (y ≤ ks[n])
    have q3 := lo' fun y => decide (ks[n] ≤ y)
    have ee : gEq (.list [.bool true, .bool true, .bool false]) (.list [.bool true, .bool true, .bool false]) = some (.bool true, false) := gEq_bools [true, true, false]
    clear pv e1
    generalize (Tr.grow (os.filter fun y => decide (y ≤ ks[n]))).enc = T2 at *
    generalize (Tr.grow (os.filter fun y => decide (ks[n] ≤ y))).enc = T3 at *
    generalize (os.filter fun y => decide (y ≤ ks[n])).map PyData.int = H2 at *
    generalize (os.filter fun y => decide (ks[n] ≤ y)).map PyData.int = H3 at *
    refine fn_of (o := .rt (.bool true, .fz) [.fz (.list (ks.map .int)), .fz (.list (os.map .int)), .fz (.int at'), .own (.list [.list H0, .list H1]), .fz T0, .fz T1, .fz T2, .fz T3]) rfl ?_ rfl
    refine seq_nx a1 (seq_nx a2 (seq_nx a3 (seq_nx a4 ?_)))
    refine seq_nx (if_f (or_f (tNe lnE ie_c (by omega)) (tstB (be_gt lnE ie_c) (decide_eq_false (by omega)))) rfl) ?_
    refine seq_nx (ρ1 := [.fz (.list (ks.map .int)), .fz (.list (os.map .int)), .fz (.int at'), .own (.list [.list H0, .list H1]), .fz T0, .fz T1, .fz T2, .no]) (asg_fz (call_pure (o := false) (rs := [(.list H2, .fz)]) (cons_fz (sv_new c2) nil_ev) q4 p4) rfl) ?_
    refine seq_nx (ρ1 := [.fz (.list (ks.map .int)), .fz (.list (os.map .int)), .fz (.int at'), .own (.list [.list H0, .list H1]), .fz T0, .fz T1, .fz T2, .fz T3]) (asg_fz (call_pure (o := false) (rs := [(.list H3, .fz)]) (cons_fz (sv_new c1) nil_ev) q3 p3) rfl) ?_
    exact ret_eq (op_ev (r := (.list [.bool true, .bool true, .bool false], .fz)) (res := (.bool true, false)) (sv_new (call_pure (rs := [(T2, .fz), (T3, .fz)]) rfl rf rfl)) (sv_new (lst_ev (rs := [(.bool true, .fz), (.bool true, .fz), (.bool false, .fz)]) rfl rfl (by simp))) ee)
theorem pure_one (a : Tr) : pureR (.tuple [a.enc]) false = true := by
  rw [pureR_tup]; simp only [pureDs, pureD, Tr.pure_enc, Bool.and_self]
theorem loop1 (S : D) (ks : List Int) : ∀ (cs : List Int) (t : Tr) (s3 s4 s5 : Sl), t.Bst → t.size ≤ 60 → t.keys = ks → SF s3 → SF s4 → SF s5 → ∃ (t' : Tr) (s3' s4' s5' : Sl), forL (mgN 3) lb1_law (cs.map .int) [.fz S, .fz t.enc, .own (.list (ks.map .int)), s3, s4, s5, .no] = some (.nx [.fz S, .fz t'.enc, .own (.list (ks.map .int)), s3', s4', s5', .no])
  | [], t, s3, s4, s5, _, _, _, _, _, _ => ⟨t, s3, s4, s5, rfl⟩
  | c :: cs, t, s3, s4, s5, hb, hz, hk, h3, h4, h5 => by
    obtain ⟨v, hv⟩ := number_is c ks
    obtain ⟨b, u, tr, hA⟩ := ask_ex t v hb hz
    obtain ⟨f1, f2, f3, f4⟩ := part_facts v hA.keys hb
    have cr := cut_right_is hA hb hz
    have pt := part_keys v u
    have mu := mixed_up_is (partL v u) (partR v u) f1 f2 (by omega) (by omega) (fun n1 n2 => by
      obtain ⟨y, hy⟩ := List.exists_mem_of_ne_nil _ n1
      obtain ⟨x, hx⟩ := List.exists_mem_of_ne_nil _ n2
      exact ⟨x, hx, y, hy, Int.le_of_lt (f3 y hy x hx)⟩)
    obtain ⟨m, tr2, hT⟩ := tie_ex (partL v u) (partR v u) f1 f2 (by omega) (by omega) f3
    have ti := tied_right_is hT f1 f2 (by omega)
    have mk : m.keys = ks := by rw [hT.keys, pt, hA.keys, hk]
    have mb : m.Bst := bst_of (by rw [mk, ← hk]; exact Tr.sorted hb)
    have mz : m.size ≤ 60 := by rw [← Tr.len_keys, mk, ← hk, Tr.len_keys]; exact hz
    have pp := pure_two (partL v u) (partR v u)
    have p1 := pure_one m
    obtain ⟨t', s3', s4', s5', e⟩ := loop1 S ks cs m (.fz (.int c)) (.fz (.tuple [(partL v u).enc, (partR v u).enc])) (.fz (.tuple [m.enc])) mb mz mk (SF.fz _) (SF.fz _) (SF.fz _)
    refine ⟨t', s3', s4', s5', ?_⟩
    rw [List.map_cons]
    generalize t.enc = T at *
    generalize (partL v u).enc = A at *
    generalize (partR v u).enc = B at *
    generalize m.enc = M at *
    refine forL_cons (ρ1 := [.fz S, .fz T, .own (.list (ks.map .int)), .fz (.int c), s4, s5, .no]) (by rcases h3 with rfl | ⟨_, rfl⟩ <;> rfl) ?_ e
    refine seq_nx (ρ1 := [.fz S, .fz T, .own (.list (ks.map .int)), .fz (.int c), .fz (.tuple [A, B]), s5, .no]) (asg_fz (call_pure (o := false) (rs := [(T, .fz), (.int v, .fz)]) (cons_fz (sv_fz (var_fz rfl)) (consI (ie_call (rs := [(.int c, .fz), (.list (ks.map .int), .at 2)]) (consI (ie_var rfl) (cons_at (sv_at (var_own rfl)) nil_ev rfl)) hv) nil_ev)) cr pp) (by rcases h4 with rfl | ⟨_, rfl⟩ <;> rfl)) ?_
    have ix : ∀ {j : Int} {d : D} {r : List Sl}, gIx (.tuple [A, B]) (.int j) = some (d, false) → mOp gIx (mVar 4) (mC (.int j)) (.fz S :: .fz T :: .own (.list (ks.map .int)) :: .fz (.int c) :: .fz (.tuple [A, B]) :: r) = some ((d, .fz), .fz S :: .fz T :: .own (.list (ks.map .int)) :: .fz (.int c) :: .fz (.tuple [A, B]) :: r) := fun h => op_ev (r := (.int _, .fz)) (sv_fz (var_fz rfl)) (sv_fz rfl) h
    refine seq_nx (if_f (or_f (test_ev (k := .fz) (op_ev (r := (.none, .fz)) (res := (.bool false, false)) (sv_fz (var_fz rfl)) (sv_fz rfl) rfl)) (not_ev (v := true) (be_call (rs := [(A, .fz), (B, .fz)]) (cons_fz (sv_fz (ix rfl)) (cons_fz (sv_fz (ix rfl)) nil_ev)) mu).t)) rfl) ?_
    refine seq_nx (ρ1 := [.fz S, .fz T, .own (.list (ks.map .int)), .fz (.int c), .fz (.tuple [A, B]), .fz (.tuple [M]), .no]) (asg_fz (call_pure (o := false) (rs := [(A, .fz), (B, .fz)]) (cons_fz (sv_fz (ix rfl)) (cons_fz (sv_fz (ix rfl)) nil_ev)) ti p1) (by rcases h5 with rfl | ⟨_, rfl⟩ <;> rfl)) ?_
    refine seq_nx (if_f (test_ev (k := .fz) (op_ev (r := (.none, .fz)) (res := (.bool false, false)) (sv_fz (var_fz rfl)) (sv_fz rfl) rfl)) rfl) ?_
    exact asg_fz (op_ev (r := (.int 0, .fz)) (res := (M, false)) (sv_fz (var_fz rfl)) (sv_fz rfl) rfl) rfl
theorem law_true (ns : List Int) (hl : ns.length ≤ 63) (hb : ∀ k ∈ ns, Builtin.Int.intBits k ≤ 1048576) : m_law [.list (ns.map .int)] = some (.bool true, false) := by
  obtain ⟨ol, os, on, oz, e1, e2, g⟩ := grown2_is ns hb
  have h1 := Tr.grow_bst on
  have h2 : (Tr.grow os).size ≤ 60 := by rw [Tr.grow_size on]; exact oz
  have hm := Tr.grow_mem on
  have hs := Tr.sorted h1
  have lk := Tr.len_keys (Tr.grow os)
  have c0 : m_law_cell_at [.list (ns.map .int), .int 0] = _ := cell_at ns 0
  have c1 : m_law_cell_at [.list (ns.map .int), .int 1] = _ := cell_at ns 1
  have c2 : m_law_cell_at [.list (ns.map .int), .int 2] = _ := cell_at ns 2
  generalize Tr.grow os = t at *
  have nj := never_joined_is t.keys os (cell ns 2) hs (by omega) on oz (fun y hy => (hm y).mp hy)
  have ri := rising_is 64 t (by have := Tr.ht_size t; omega) (by omega)
  obtain ⟨cs, ec, lc, _⟩ := cut_ints ns 3 11
  have sl : gSl (.list (ns.map .int)) (some 3) (some 11) = some (.list (cs.map .int), true) := by
    show some (PyData.list (cutD (ns.map .int) (some 3) (some 11)), true) = _
    rw [show cutD (ns.map .int) (some 3) (some 11) = cs.map .int from ec]
  obtain ⟨t', s3, s4, s5, e⟩ := loop1 (.list (ns.map .int)) t.keys cs t .no .no .no h1 h2 rfl SF.no SF.no SF.no
  have pu := Tr.pureR_enc t
  generalize cell ns 0 = k0 at *
  generalize cell ns 1 = k1 at *
  generalize cell ns 2 = k2 at *
  generalize PyData.list (ns.map .int) = S at *
  have pk := pureDs_ints t.keys
  generalize t.keys.map PyData.int = KL at *
  generalize t.enc = T at *
  generalize t'.enc = T' at *
  refine fn_of (o := .rt (.bool true, .fz) [.fz S, .fz T', .own (.list KL), s3, s4, s5, .own (.list (os.map .int))]) rfl ?_ rfl
  refine seq_nx (ρ1 := [.fz S, .fz T, .no, .no, .no, .no, .no]) (asg_fz (call_pure (o := false) (rs := [(S, .fz)]) rfl g pu) rfl) ?_
  refine seq_nx (ρ1 := [.fz S, .fz T, .own (.list KL), .no, .no, .no, .no]) (asg_new (call_pure (rs := [(T, .fz)]) rfl ri pk) rfl) ?_
  refine seq_nx (for_eq (ds := cs.map .int) (ρ1 := [.fz S, .fz T, .own (.list KL), .no, .no, .no, .no]) (fol_ev (sv_new ?_)) e) ?_
  · unfold mSl mPart
    rw [sv_fz (var_fz (d := S) rfl), Option.bind_some]
    show ((gSl S (some 3) (some 11)).map fun res => (resK res, [Sl.fz S, .fz T, .own (.list KL), .no, .no, .no, .no])) = _
    rw [sl]; rfl
  have ca : ∀ {k v : Int} {r : List Sl}, m_law_cell_at [S, .int k] = some (.int v, false) → IE (mCall m_law_cell_at (mCons (mVar 0) (mCons (mC (.int k)) mNil))) (.fz S :: r) v := fun h => ie_call (rs := [(S, .fz), (.int _, .fz)]) rfl h
  refine seq_nx (ρ1 := [.fz S, .fz T', .own (.list KL), s3, s4, s5, .own (.list (os.map .int))]) (asg_new (call_pure (rs := [(.int k1, .fz), (.list (ol.map .int), .fz)]) (consI (ca c1) (cons_fz (sv_new (call_pure (rs := [(.int k0, .fz), (.int k2, .fz)]) (consI (ca c0) (consI (ca c2) nil_ev)) e1 (pureDs_ints _))) nil_ev)) e2 (pureDs_ints _)) rfl) ?_
  exact ret_eq (be_call (rs := [(.list KL, .at 2), (.list (os.map .int), .at 6), (.int k2, .fz)]) (cons_at (sv_at (var_own rfl)) (cons_at (sv_at (var_own rfl)) (consI (ca c2) nil_ev) rfl) rfl) nj)
end K64
set_option maxHeartbeats 4000000
set_option Elab.async false
set_option linter.all false
set_option maxRecDepth 100000
def PySem.W.Fast.tw1644707957714197597 : Nat := 0
def PySem.W.Fast.tw14045969888345254897 : Nat := 0
def PySem.W.Fast.tw7665814795471251217 : Nat := 0
def PySem.W.Fast.tw1252623929321681179 : Nat := 0
def PySem.W.Fast.tw10946277854865390073 : Nat := 0
def PySem.W.Fast.tw16048977200649758522 : Nat := 0
def PySem.W.Fast.tw17038431320981482592 : Nat := 0
def PySem.W.Fast.tw5976582269910252152 : Nat := 0
namespace K64
open PySem L2 Mir
def top (i : Nat) : Stmt := PySem.Challenge.pw_creditworks_k64_cut_and_tied.main.body.getD i (.Pass ⟨0, 0, 0, 0⟩)
abbrev s_law_keys : Stmt := top 41
theorem sc_law_keys : FnScope ["_law_cell", "_law_order_here", "_law_base", "_law_step"] ["_law_cell", "_law_order_here"] (defScope s_law_keys) := ⟨rfl, rfl, rfl, by decide +kernel, rfl, by decide +kernel, by decide +kernel⟩
abbrev s_law_cell_at : Stmt := top 37
theorem sc_law_cell_at : FnScope ["_law_script", "_law_k"] ["_law_script", "_law_k"] (defScope s_law_cell_at) := ⟨rfl, rfl, rfl, by decide +kernel, rfl, by decide +kernel, by decide +kernel⟩
abbrev s_law_halves : Stmt := top 39
theorem sc_law_halves : FnScope ["_law_low", "_law_high", "_law_amid"] ["_law_low", "_law_high"] (defScope s_law_halves) := ⟨rfl, rfl, rfl, by decide +kernel, rfl, by decide +kernel, by decide +kernel⟩
abbrev s_law_mixed : Stmt := top 38
theorem sc_law_mixed : FnScope ["_law_cell", "_law_k", "_law_number_here"] ["_law_cell", "_law_k"] (defScope s_law_mixed) := ⟨rfl, rfl, rfl, by decide +kernel, rfl, by decide +kernel, by decide +kernel⟩
abbrev s_law_order : Stmt := top 40
theorem sc_law_order : FnScope ["_law_cell", "_law_more", "_law_many_here", "_law_way", "_law_found", "_law_k"] ["_law_cell", "_law_more"] (defScope s_law_order) := ⟨rfl, rfl, rfl, by decide +kernel, rfl, by decide +kernel, by decide +kernel⟩
abbrev s_law_put : Stmt := top 42
theorem sc_law_put : FnScope ["_law_tree", "_law_key", "_law_left", "_law_here", "_law_right", "_law_many_here"] ["_law_tree", "_law_key"] (defScope s_law_put) := ⟨rfl, rfl, rfl, by decide +kernel, rfl, by decide +kernel, by decide +kernel⟩
abbrev s_law_grown : Stmt := top 43
theorem sc_law_grown : FnScope ["_law_script", "_law_tree", "_law_key"] ["_law_script"] (defScope s_law_grown) := ⟨rfl, rfl, rfl, by decide +kernel, rfl, by decide +kernel, by decide +kernel⟩
abbrev s_law_rising : Stmt := top 50
theorem sc_law_rising : FnScope ["_law_tree"] ["_law_tree"] (defScope s_law_rising) := ⟨rfl, rfl, rfl, by decide +kernel, rfl, by decide +kernel, by decide +kernel⟩
abbrev s_law_of : Stmt := top 64
theorem sc_law_of : FnScope ["_law_keys_here", "_law_tree", "_law_key"] ["_law_keys_here"] (defScope s_law_of) := ⟨rfl, rfl, rfl, by decide +kernel, rfl, by decide +kernel, by decide +kernel⟩
abbrev s_parts_to : Stmt := top 19
theorem sc_parts_to : FnScope ["tree", "number", "parts", "part"] ["tree", "number"] (defScope s_parts_to) := ⟨rfl, rfl, rfl, by decide +kernel, rfl, by decide +kernel, by decide +kernel⟩
abbrev s_stands_left : Stmt := top 23
theorem sc_stands_left : FnScope ["up", "part"] ["up", "part"] (defScope s_stands_left) := ⟨rfl, rfl, rfl, by decide +kernel, rfl, by decide +kernel, by decide +kernel⟩
abbrev s_many_of : Stmt := top 16
theorem sc_many_of : FnScope ["tree"] ["tree"] (defScope s_many_of) := ⟨rfl, rfl, rfl, by decide +kernel, rfl, by decide +kernel, by decide +kernel⟩
abbrev s_tree_of : Stmt := top 15
theorem sc_tree_of : FnScope ["left", "key", "right"] ["left", "key", "right"] (defScope s_tree_of) := ⟨rfl, rfl, rfl, by decide +kernel, rfl, by decide +kernel, by decide +kernel⟩
abbrev s_with_side : Stmt := top 27
theorem sc_with_side : FnScope ["up", "part"] ["up", "part"] (defScope s_with_side) := ⟨rfl, rfl, rfl, by decide +kernel, rfl, by decide +kernel, by decide +kernel⟩
abbrev s_hung_in : Stmt := top 28
theorem sc_hung_in : FnScope ["above", "part", "whole", "up"] ["above", "part"] (defScope s_hung_in) := ⟨rfl, rfl, rfl, by decide +kernel, rfl, by decide +kernel, by decide +kernel⟩
abbrev s_lifted : Stmt := top 24
theorem sc_lifted : FnScope ["up", "part"] ["up", "part"] (defScope s_lifted) := ⟨rfl, rfl, rfl, by decide +kernel, rfl, by decide +kernel, by decide +kernel⟩
abbrev s_bent : Stmt := top 26
theorem sc_bent : FnScope ["top", "up", "part", "part_up"] ["top", "up", "part"] (defScope s_bent) := ⟨rfl, rfl, rfl, by decide +kernel, rfl, by decide +kernel, by decide +kernel⟩
abbrev s_straight : Stmt := top 25
theorem sc_straight : FnScope ["top", "up", "part"] ["top", "up", "part"] (defScope s_straight) := ⟨rfl, rfl, rfl, by decide +kernel, rfl, by decide +kernel, by decide +kernel⟩
abbrev s_turn_key : Stmt := top 22
theorem sc_turn_key : FnScope ["tree", "key", "parts"] ["tree", "key"] (defScope s_turn_key) := ⟨rfl, rfl, rfl, by decide +kernel, rfl, by decide +kernel, by decide +kernel⟩
abbrev s_turn_up : Stmt := top 31
theorem sc_turn_up : FnScope ["tree", "key", "trail", "whole", "turning"] ["tree", "key"] (defScope s_turn_up) := ⟨rfl, rfl, rfl, by decide +kernel, rfl, by decide +kernel, by decide +kernel⟩
abbrev s_parts_of : Stmt := top 17
theorem sc_parts_of : FnScope ["tree", "parts", "waiting", "part"] ["tree"] (defScope s_parts_of) := ⟨rfl, rfl, rfl, by decide +kernel, rfl, by decide +kernel, by decide +kernel⟩
abbrev s_keys_of : Stmt := top 18
theorem sc_keys_of : FnScope ["tree"] ["tree"] (defScope s_keys_of) := ⟨rfl, rfl, rfl, by decide +kernel, rfl, by decide +kernel, by decide +kernel⟩
abbrev s_tie_trees : Stmt := top 35
theorem sc_tie_trees : FnScope ["one", "other", "greatest", "turned", "whole"] ["one", "other"] (defScope s_tie_trees) := ⟨rfl, rfl, rfl, by decide +kernel, rfl, by decide +kernel, by decide +kernel⟩
abbrev s_law_refused : Stmt := top 62
theorem sc_law_refused : FnScope ["_law_one", "_law_other", "_law_some", "e", "_law_others"] ["_law_one", "_law_other"] (defScope s_law_refused) := ⟨rfl, rfl, rfl, by decide +kernel, rfl, by decide +kernel, by decide +kernel⟩
abbrev s_law_mixed_up : Stmt := top 63
theorem sc_law_mixed_up : FnScope ["_law_one", "_law_other"] ["_law_one", "_law_other"] (defScope s_law_mixed_up) := ⟨rfl, rfl, rfl, by decide +kernel, rfl, by decide +kernel, by decide +kernel⟩
abbrev s_law_never_joined : Stmt := top 65
theorem sc_law_never_joined : FnScope ["_law_keys_here", "_law_order_here", "_law_at", "_law_halves_here", "_law_one", "_law_other", "_law_low", "_law_high"] ["_law_keys_here", "_law_order_here", "_law_at"] (defScope s_law_never_joined) := ⟨rfl, rfl, rfl, by decide +kernel, rfl, by decide +kernel, by decide +kernel⟩
abbrev s_way_to : Stmt := top 20
theorem sc_way_to : FnScope ["tree", "number"] ["tree", "number"] (defScope s_way_to) := ⟨rfl, rfl, rfl, by decide +kernel, rfl, by decide +kernel, by decide +kernel⟩
abbrev s_ask_tree : Stmt := top 30
theorem sc_ask_tree : FnScope ["tree", "number", "turned"] ["tree", "number"] (defScope s_ask_tree) := ⟨rfl, rfl, rfl, by decide +kernel, rfl, by decide +kernel, by decide +kernel⟩
abbrev s_parted : Stmt := top 33
theorem sc_parted : FnScope ["whole", "number"] ["whole", "number"] (defScope s_parted) := ⟨rfl, rfl, rfl, by decide +kernel, rfl, by decide +kernel, by decide +kernel⟩
abbrev s_cut_tree : Stmt := top 34
theorem sc_cut_tree : FnScope ["tree", "number", "asked", "sides"] ["tree", "number"] (defScope s_cut_tree) := ⟨rfl, rfl, rfl, by decide +kernel, rfl, by decide +kernel, by decide +kernel⟩
abbrev s_law_node : Stmt := top 44
theorem sc_law_node : FnScope ["_law_left", "_law_key", "_law_right", "_law_many_here", "_law_part"] ["_law_left", "_law_key", "_law_right"] (defScope s_law_node) := ⟨rfl, rfl, rfl, by decide +kernel, rfl, by decide +kernel, by decide +kernel⟩
abbrev s_law_parted : Stmt := top 59
theorem sc_law_parted : FnScope ["_law_top", "_law_number_here"] ["_law_top", "_law_number_here"] (defScope s_law_parted) := ⟨rfl, rfl, rfl, by decide +kernel, rfl, by decide +kernel, by decide +kernel⟩
abbrev s_law_paid : Stmt := top 57
theorem sc_law_paid : FnScope ["_law_ahead", "_law_trail_here", "_law_behind", "_law_price"] ["_law_ahead", "_law_trail_here", "_law_behind", "_law_price"] (defScope s_law_paid) := ⟨rfl, rfl, rfl, by decide +kernel, rfl, by decide +kernel, by decide +kernel⟩
abbrev s_law_whole : Stmt := top 51
theorem sc_law_whole : FnScope ["_law_found"] ["_law_found"] (defScope s_law_whole) := ⟨rfl, rfl, rfl, by decide +kernel, rfl, by decide +kernel, by decide +kernel⟩
abbrev s_law_alike : Stmt := top 52
theorem sc_law_alike : FnScope ["_law_found", "_law_due"] ["_law_found", "_law_due"] (defScope s_law_alike) := ⟨rfl, rfl, rfl, by decide +kernel, rfl, by decide +kernel, by decide +kernel⟩
abbrev s_law_credit : Stmt := top 53
theorem sc_law_credit : FnScope ["_law_tree"] ["_law_tree"] (defScope s_law_credit) := ⟨rfl, rfl, rfl, by decide +kernel, rfl, by decide +kernel, by decide +kernel⟩
abbrev s_law_many : Stmt := top 54
theorem sc_law_many : FnScope ["_law_tree"] ["_law_tree"] (defScope s_law_many) := ⟨rfl, rfl, rfl, by decide +kernel, rfl, by decide +kernel, by decide +kernel⟩
abbrev s_law_cut_right : Stmt := top 60
theorem sc_law_cut_right : FnScope ["_law_tree", "_law_number_here", "_law_found", "_law_there", "_law_top", "_law_trail_here", "_law_one", "_law_other", "_law_price"] ["_law_tree", "_law_number_here"] (defScope s_law_cut_right) := ⟨rfl, rfl, rfl, by decide +kernel, rfl, by decide +kernel, by decide +kernel⟩
abbrev s_law_line : Stmt := top 45
theorem sc_law_line : FnScope ["_law_tree", "_law_key", "_law_found"] ["_law_tree", "_law_key"] (defScope s_law_line) := ⟨rfl, rfl, rfl, by decide +kernel, rfl, by decide +kernel, by decide +kernel⟩
abbrev s_law_pieces : Stmt := top 46
theorem sc_law_pieces : FnScope ["_law_part", "_law_names"] ["_law_part", "_law_names"] (defScope s_law_pieces) := ⟨rfl, rfl, rfl, by decide +kernel, rfl, by decide +kernel, by decide +kernel⟩
abbrev s_law_double : Stmt := top 48
theorem sc_law_double : FnScope ["_law_part", "_law_names", "_law_key", "_law_a", "_law_b", "_law_c", "_law_d", "_law_low", "_law_amid", "_law_high"] ["_law_part", "_law_names", "_law_key"] (defScope s_law_double) := ⟨rfl, rfl, rfl, by decide +kernel, rfl, by decide +kernel, by decide +kernel⟩
abbrev s_law_single : Stmt := top 47
theorem sc_law_single : FnScope ["_law_part", "_law_key", "_law_low", "_law_high", "_law_pieces_here"] ["_law_part", "_law_key"] (defScope s_law_single) := ⟨rfl, rfl, rfl, by decide +kernel, rfl, by decide +kernel, by decide +kernel⟩
abbrev s_law_turned : Stmt := top 49
theorem sc_law_turned : FnScope ["_law_tree", "_law_key", "_law_line_here", "_law_kind", "_law_made", "_law_above"] ["_law_tree", "_law_key"] (defScope s_law_turned) := ⟨rfl, rfl, rfl, by decide +kernel, rfl, by decide +kernel, by decide +kernel⟩
abbrev s_law_trail : Stmt := top 56
theorem sc_law_trail : FnScope ["_law_tree", "_law_last_here", "_law_trail_here", "_law_here", "_law_told", "_law_kind", "_law_due"] ["_law_tree", "_law_last_here", "_law_trail_here"] (defScope s_law_trail) := ⟨rfl, rfl, rfl, by decide +kernel, rfl, by decide +kernel, by decide +kernel⟩
abbrev s_law_tied_right : Stmt := top 61
theorem sc_law_tied_right : FnScope ["_law_one", "_law_other", "_law_found", "_law_made", "_law_price", "_law_top", "_law_ahead"] ["_law_one", "_law_other"] (defScope s_law_tied_right) := ⟨rfl, rfl, rfl, by decide +kernel, rfl, by decide +kernel, by decide +kernel⟩
abbrev s_law_number : Stmt := top 58
theorem sc_law_number : FnScope ["_law_cell", "_law_keys_here", "_law_key"] ["_law_cell", "_law_keys_here"] (defScope s_law_number) := ⟨rfl, rfl, rfl, by decide +kernel, rfl, by decide +kernel, by decide +kernel⟩
abbrev s_law : Stmt := top 66
theorem sc_law : FnScope ["_law_script", "_law_tree", "_law_keys_here", "_law_cell", "_law_parts", "_law_made", "_law_order_here"] ["_law_script"] (defScope s_law) := ⟨rfl, rfl, rfl, by decide +kernel, rfl, by decide +kernel, by decide +kernel⟩
structure CF (K : PySem.W.Frag) (mg : Str → Option Value) (C_Mixed C_CreditError C_Twice C_Overdrawn C_NotLess C_NoThing C_NoRow C_NoPlace C_NoNumber C_NoName C_Lacking C_Empty C_AtTop : Addr) : Prop where
  x_Mixed : PySem.W.excIn K C_Mixed [.type "ValueError", .type "Exception", .type "BaseException", .type "object"] "ValueError.__new__" = true
  m_Mixed : mg "Mixed" = some (.ref C_Mixed)
  m_CreditError : mg "CreditError" = some (.ref C_CreditError)
  k_Mixed : ExcK K C_Mixed
  m_Twice : mg "Twice" = some (.ref C_Twice)
  m_Overdrawn : mg "Overdrawn" = some (.ref C_Overdrawn)
  m_NotLess : mg "NotLess" = some (.ref C_NotLess)
  m_NoThing : mg "NoThing" = some (.ref C_NoThing)
  t_Mixed_NoThing_NotLess_Overdrawn_Twice : PySem.W.kitAny K (.ref C_Mixed) [.ref C_NoThing, .ref C_NotLess, .ref C_Overdrawn, .ref C_Twice] = some false
  m_NoRow : mg "NoRow" = some (.ref C_NoRow)
  m_NoPlace : mg "NoPlace" = some (.ref C_NoPlace)
  m_NoNumber : mg "NoNumber" = some (.ref C_NoNumber)
  m_NoName : mg "NoName" = some (.ref C_NoName)
  m_Lacking : mg "Lacking" = some (.ref C_Lacking)
  m_Empty : mg "Empty" = some (.ref C_Empty)
  m_AtTop : mg "AtTop" = some (.ref C_AtTop)
  t_Mixed_AtTop_Empty_Lacking_NoName_NoNumber_NoPlace_NoRow : PySem.W.kitAny K (.ref C_Mixed) [.ref C_AtTop, .ref C_Empty, .ref C_Lacking, .ref C_NoName, .ref C_NoNumber, .ref C_NoPlace, .ref C_NoRow] = some false
  i_Mixed_Mixed : PySem.W.kitOne K (.ref C_Mixed) (.ref C_Mixed) = some true
  i_Mixed_ValueError : PySem.W.kitOne K (.ref C_Mixed) (.type "ValueError") = some true
  h_Mixed_CreditError : PySem.W.exmOne K (.ref C_Mixed) (.ref C_CreditError) = some true
section
variable {P : Program} {w : World} {K : PySem.W.Frag} {mg : Str → Option Value} {base : Heap}
def NoGl (mg : Str → Option Value) : Prop := ∀ x ∈ (["ValueError", "bool", "int", "isinstance", "len", "list", "max", "range", "reversed", "sorted", "tuple"] : List Str), mg x = none
variable {C_Mixed C_CreditError C_Twice C_Overdrawn C_NotLess C_NoThing C_NoRow C_NoPlace C_NoNumber C_NoName C_Lacking C_Empty C_AtTop : Addr}
theorem ok_law_keys (Z : NoGl mg) (T : Top K mg "_law_keys" s_law_keys)  : Def P w K mg base CX0 1 "_law_keys" ["_law_cell", "_law_order_here"] (spM m_law_keys) := by
  refine T.def sc_law_keys (fun vs H Q E h => spM_len h) (fun _ _ _ _ _ _ us hl => match us, hl with | [_, _], _ => rfl) fun f cdv A outer s H vs Q E hr h => ?_
  have hu := hr.units
  exact ⟨_, (pss_cons (ps_set (i := 2) sc_law_keys.nd rfl (by first | exact Or.inl rfl | exact Or.inr rfl) (pe_op op_sub (pe_op op_mod (pe_op op_fdiv (pv 0) pe_int) pe_int) pe_int))
      (pss_cons (ps_if (pt_cmpR (op_eqK (K := K) rfl hu) (pe_op op_mod (pv 0) pe_int) pe_int (nomark _))
      (pss_one (ps_set (i := 2) sc_law_keys.nd rfl (by first | exact Or.inl rfl | exact Or.inr rfl) (pe_op op_sub (pe_op op_mod (pe_op op_mulM (pv 0) (pe_op op_pow pe_int pe_int)) (pe_op (op_addK (K := K) rfl) (pe_op op_mulM pe_int (pe_op op_pow pe_int pe_int)) pe_int)) (pe_op op_pow pe_int pe_int))))
      pss_nil)
      (pss_cons (ps_set (i := 3) sc_law_keys.nd rfl (by first | exact Or.inl rfl | exact Or.inr rfl) (pe_ix (ix_seqK (K := K) rfl) (pe_lst (pa_cons pe_int (pa_cons pe_int (pa_cons (pe_op (op_addK (K := K) rfl) pe_int (pe_op op_mod (pe_op op_fdiv (pv 0) pe_int) (pe_op op_pow pe_int pe_int))) (pa_cons (pe_op (op_addK (K := K) rfl) pe_int (pe_op op_mod (pe_op op_mulM (pv 0) (pe_op op_pow pe_int pe_int)) (pe_op op_pow pe_int pe_int))) pa_nil))))) (pe_op op_mod (pe_op op_fdiv (pv 0) pe_int) pe_int) (fun _ _ => rfl)))
      (pss_one (ps_ret (pe_lc (fr := [("_law_base", 2), ("_law_step", 3)]) rfl ⟨rfl, rfl, rfl, rfl, rfl, rfl, by decide +kernel⟩ (pi_listK (K := K) rfl (pv 1)) (fun _ _ _ _ => pif_nil) (fun _ _ _ _ => (pe_op (op_addK (K := K) rfl) (pv 1) (pe_op op_mulM (pv 0) (pv 2)))))))))),
      fn_run (n := 2) (k := 2) (ms_seq (ms_asg (me_op J_I0 (me_op J_I (me_op J_I me_var me_int) me_int) me_int))
      (ms_seq (ms_if (mt_test (me_op J_eq (me_op J_I me_var me_int) me_int))
      (ms_asg (me_op J_I0 (me_op J_I (me_op J_mul me_var (me_op J_I me_int me_int)) (me_op J_add (me_op J_mul me_int (me_op J_I me_int me_int)) me_int)) (me_op J_I me_int me_int)))
      ms_next)
      (ms_seq (ms_asg (me_op J_ix (me_lst (ma_cons me_int (ma_cons me_int (ma_cons (me_op J_add me_int (me_op J_I (me_op J_I me_var me_int) (me_op J_I me_int me_int))) (ma_cons (me_op J_add me_int (me_op J_I (me_op J_mul me_var (me_op J_I me_int me_int)) (me_op J_I me_int me_int))) ma_nil))))) (me_op J_I (me_op J_I me_var me_int) me_int)))
      (ms_ret (me_lc (mi_list me_var) mt_yes (me_op J_add me_var (me_op J_mul me_var me_var))))))) rfl h⟩
theorem ok_law_cell_at (Z : NoGl mg) (T : Top K mg "_law_cell_at" s_law_cell_at)  : Def P w K mg base CX0 1 "_law_cell_at" ["_law_script", "_law_k"] (spM m_law_cell_at) := by
  have z_len : mg "len" = none := Z _ (by decide +kernel)
  refine T.def sc_law_cell_at (fun vs H Q E h => spM_len h) (fun _ _ _ _ _ _ us hl => match us, hl with | [_, _], _ => rfl) fun f cdv A outer s H vs Q E hr h => ?_
  have hu := hr.units
  exact ⟨_, (pss_cons (ps_if (pt_cmpR op_lt (pv 1) (pe_callB (call_lenK (K := K) rfl) rfl z_len PySem.boot_len (pa_cons (pv 0) pa_nil)) (nomark _))
      (pss_one (ps_ret (pe_ix (ix_seqK (K := K) rfl) (pv 0) (pv 1) (fun _ _ => rfl))))
      pss_nil)
      (pss_one (ps_ret pe_int))),
      fn_run (n := 2) (k := 0) (ms_seq (ms_if (mt_test (me_op J_B0 me_var (me_cb J_len (ma_cons me_var ma_nil))))
      (ms_ret (me_op J_ix me_var me_var))
      ms_next)
      (ms_ret me_int)) rfl h⟩
theorem ok_law_halves (Z : NoGl mg) (T : Top K mg "_law_halves" s_law_halves)  : ∀ n, Def P w K mg base CX0 (1 + n) "_law_halves" ["_law_low", "_law_high"] (spM (m_law_halves n))
  | 0 => T.def sc_law_halves (fun vs H Q E h => by obtain ⟨_, _, _, _, _, _, _, e, _⟩ := h; cases e) (fun _ _ _ _ _ _ us hl => match us, hl with | [_, _], _ => rfl) fun f cdv A outer s H vs Q E hr h => by obtain ⟨_, _, _, _, _, _, _, e, _⟩ := h; cases e
  | n + 1 => by
    have D_law_halves := ok_law_halves Z T  n
    refine T.def sc_law_halves (fun vs H Q E h => spM_len h) (fun _ _ _ _ _ _ us hl => match us, hl with | [_, _], _ => rfl) fun f cdv A outer s H vs Q E hr h => ?_
    have hu := hr.units
    exact ⟨_, (pss_cons (ps_if (pt_cmpR op_ge (pv 0) (pv 1) (nomark _))
      (pss_one (ps_ret (pe_lst pa_nil)))
      pss_nil)
      (pss_cons (ps_set (i := 2) sc_law_halves.nd rfl (by first | exact Or.inl rfl | exact Or.inr rfl) (pe_op op_fdiv (pe_op (op_addK (K := K) rfl) (pv 0) (pv 1)) pe_int))
      (pss_one (ps_ret (pe_op (op_addK (K := K) rfl) (pe_op (op_addK (K := K) rfl) (pe_lst (pa_cons (pv 2) pa_nil)) (pe_def D_law_halves (hr.mono (Nat.le_refl _)) (pa_cons (pv 0) (pa_cons (pv 2) pa_nil)))) (pe_def D_law_halves (hr.mono (Nat.le_refl _)) (pa_cons (pe_op (op_addK (K := K) rfl) (pv 2) pe_int) (pa_cons (pv 1) pa_nil)))))))),
      fn_run (n := 2) (k := 1) (ms_seq (ms_if (mt_test (me_op J_B0 me_var me_var))
      (ms_ret (me_lst ma_nil))
      ms_next)
      (ms_seq (ms_asg (me_op J_I (me_op J_add me_var me_var) me_int))
      (ms_ret (me_op J_add (me_op J_add (me_lst (ma_cons me_var ma_nil)) (me_call (ma_cons me_var (ma_cons me_var ma_nil)))) (me_call (ma_cons (me_op J_add me_var me_int) (ma_cons me_var ma_nil))))))) rfl h⟩
theorem ok_law_mixed (Z : NoGl mg) (T : Top K mg "_law_mixed" s_law_mixed)  : Def P w K mg base CX0 1 "_law_mixed" ["_law_cell", "_law_k"] (spM m_law_mixed) := by
  refine T.def sc_law_mixed (fun vs H Q E h => spM_len h) (fun _ _ _ _ _ _ us hl => match us, hl with | [_, _], _ => rfl) fun f cdv A outer s H vs Q E hr h => ?_
  have hu := hr.units
  exact ⟨_, (pss_cons (ps_set (i := 2) sc_law_mixed.nd rfl (by first | exact Or.inl rfl | exact Or.inr rfl) (pe_op op_mod (pe_op (op_addK (K := K) rfl) (pe_op (op_addK (K := K) rfl) (pe_op op_mulM (pe_op op_mod (pv 0) pe_int) pe_int) (pe_op op_mulM (pe_op op_mulM (pv 1) (pv 1)) pe_int)) (pe_op op_mulM pe_int (pv 1))) pe_int))
      (pss_one (ps_ret (pe_op op_mod (pe_op op_mulM (pv 2) (pv 2)) pe_int)))),
      fn_run (n := 2) (k := 1) (ms_seq (ms_asg (me_op J_I (me_op J_add (me_op J_add (me_op J_mul (me_op J_I me_var me_int) me_int) (me_op J_mul (me_op J_mul me_var me_var) me_int)) (me_op J_mul me_int me_var)) me_int))
      (ms_ret (me_op J_I (me_op J_mul me_var me_var) me_int))) rfl h⟩
theorem ok_law_order (Z : NoGl mg) (T : Top K mg "_law_order" s_law_order) (D_law_mixed : Def P w K mg base CX0 1 "_law_mixed" ["_law_cell", "_law_k"] (spM m_law_mixed)) (D_law_halves : Def P w K mg base CX0 13 "_law_halves" ["_law_low", "_law_high"] (spM (m_law_halves 12))) : Def P w K mg base CX0 14 "_law_order" ["_law_cell", "_law_more"] (spM m_law_order) := by
  have z_range : mg "range" = none := Z _ (by decide +kernel)
  have z_list : mg "list" = none := Z _ (by decide +kernel)
  have z_reversed : mg "reversed" = none := Z _ (by decide +kernel)
  refine T.def sc_law_order (fun vs H Q E h => spM_len h) (fun _ _ _ _ _ _ us hl => match us, hl with | [_, _], _ => rfl) fun f cdv A outer s H vs Q E hr h => ?_
  have hu := hr.units
  exact ⟨_, (pss_cons (ps_set (i := 2) sc_law_order.nd rfl (by first | exact Or.inl rfl | exact Or.inr rfl) (pe_op op_mod (pe_op op_fdiv (pv 0) pe_int) pe_int))
      (pss_cons (ps_if (pt_cmpR (op_eqK (K := K) rfl hu) (pe_op op_mod (pe_op op_fdiv (pv 0) pe_int) pe_int) pe_int (nomark _))
      (pss_one (ps_set (i := 2) sc_law_order.nd rfl (by first | exact Or.inl rfl | exact Or.inr rfl) (pe_op op_mod (pe_op op_fdiv (pv 0) pe_int) pe_int)))
      pss_nil)
      (pss_cons (ps_set (i := 3) sc_law_order.nd rfl (by first | exact Or.inl rfl | exact Or.inr rfl) (pe_op op_mod (pv 0) pe_int))
      (pss_cons (ps_if (pt_cmpR (op_eqK (K := K) rfl hu) (pv 3) pe_int (nomark _))
      (pss_one (ps_ret (pe_listRng rfl rfl z_list rfl z_range (pa_cons (pv 2) pa_nil))))
      pss_nil)
      (pss_cons (ps_if (pt_cmpR (op_eqK (K := K) rfl hu) (pv 3) pe_int (nomark _))
      (pss_one (ps_ret (pe_listRevRng rfl rfl z_list rfl z_reversed rfl z_range (pa_cons (pv 2) pa_nil))))
      pss_nil)
      (pss_cons (ps_if (pt_cmpR (op_eqK (K := K) rfl hu) (pv 3) pe_int (nomark _))
      (pss_one (ps_ret (pe_def D_law_halves (hr.mono (by omega)) (pa_cons pe_int (pa_cons (pv 2) pa_nil)))))
      pss_nil)
      (pss_cons (ps_if (pt_cmpR (op_eqK (K := K) rfl hu) (pv 3) pe_int (nomark _))
      (pss_one (ps_ret (pe_lc (fr := [("_law_many_here", 2)]) rfl ⟨rfl, rfl, rfl, rfl, rfl, rfl, by decide +kernel⟩ (pi_range1 rfl z_range (pa_cons (pv 2) pa_nil)) (fun _ _ _ _ => pif_nil) (fun _ _ _ _ => (pe_ix (ix_seqK (K := K) rfl) (pe_lst (pa_cons (pe_op op_fdiv (pv 0) pe_int) (pa_cons (pe_op op_sub (pe_op op_sub (pv 1) pe_int) (pe_op op_fdiv (pv 0) pe_int)) pa_nil))) (pe_op op_mod (pv 0) pe_int) (fun _ _ => rfl))))))
      pss_nil)
      (pss_cons (ps_set (i := 4) sc_law_order.nd rfl (by first | exact Or.inl rfl | exact Or.inr rfl) (pe_lst pa_nil))
      (pss_cons (ps_for PassesOwn.never rfl (pi_range1 rfl z_range (pa_cons (pv 2) pa_nil)) (pg_name (i := 5) sc_law_order.nd rfl (by first | exact Or.inl rfl | exact Or.inr rfl))
      (pss_one (ps_expr (pe_bmK (K := K) rfl PySem.F.plainAttrs_list PySem.F.slot_list_insert PySem.F.type_list_insert mt_insert (pv 4) (pa_cons (pe_op op_mod (pe_def D_law_mixed (hr.mono (by omega)) (pa_cons (pv 1) (pa_cons (pv 5) pa_nil))) (pe_op (op_addK (K := K) rfl) (pv 5) pe_int)) (pa_cons (pv 5) pa_nil))))))
      (pss_one (ps_ret (pv 4)))))))))))),
      fn_run (n := 2) (k := 4) (ms_seq (ms_asg (me_op J_I (me_op J_I me_var me_int) me_int))
      (ms_seq (ms_if (mt_test (me_op J_eq (me_op J_I (me_op J_I me_var me_int) me_int) me_int))
      (ms_asg (me_op J_I (me_op J_I me_var me_int) me_int))
      ms_next)
      (ms_seq (ms_asg (me_op J_I me_var me_int))
      (ms_seq (ms_if (mt_test (me_op J_eq me_var me_int))
      (ms_ret (me_cb J_listRng (ma_cons me_var ma_nil)))
      ms_next)
      (ms_seq (ms_if (mt_test (me_op J_eq me_var me_int))
      (ms_ret (me_cb J_listRevRng (ma_cons me_var ma_nil)))
      ms_next)
      (ms_seq (ms_if (mt_test (me_op J_eq me_var me_int))
      (ms_ret (me_call (ma_cons me_int (ma_cons me_var ma_nil))))
      ms_next)
      (ms_seq (ms_if (mt_test (me_op J_eq me_var me_int))
      (ms_ret (me_lc (mi_rng1 (ma_cons me_var ma_nil)) mt_yes (me_op J_ix (me_lst (ma_cons (me_op J_I me_var me_int) (ma_cons (me_op J_I0 (me_op J_I0 me_var me_int) (me_op J_I me_var me_int)) ma_nil))) (me_op J_I me_var me_int))))
      ms_next)
      (ms_seq (ms_asg (me_lst ma_nil))
      (ms_seq (ms_for (mf_rng1 (ma_cons me_var ma_nil)) mg_name
      (ms_drop (me_mut J_insert (ma_cons (me_op J_I (me_call (ma_cons me_var (ma_cons me_var ma_nil))) (me_op J_add me_var me_int)) (ma_cons me_var ma_nil)))))
      (ms_ret me_var)))))))))) rfl h⟩
theorem ok_law_put (Z : NoGl mg) (T : Top K mg "_law_put" s_law_put)  : ∀ n, Def P w K mg base CX0 (1 + n) "_law_put" ["_law_tree", "_law_key"] (spM (m_law_put n))
  | 0 => T.def sc_law_put (fun vs H Q E h => by obtain ⟨_, _, _, _, _, _, _, e, _⟩ := h; cases e) (fun _ _ _ _ _ _ us hl => match us, hl with | [_, _], _ => rfl) fun f cdv A outer s H vs Q E hr h => by obtain ⟨_, _, _, _, _, _, _, e, _⟩ := h; cases e
  | n + 1 => by
    have D_law_put := ok_law_put Z T  n
    refine T.def sc_law_put (fun vs H Q E h => spM_len h) (fun _ _ _ _ _ _ us hl => match us, hl with | [_, _], _ => rfl) fun f cdv A outer s H vs Q E hr h => ?_
    have hu := hr.units
    exact ⟨_, (pss_cons (ps_if (pt_cmpR op_isN (pv 0) pe_non (nomark _))
      (pss_one (ps_ret (pe_tup (pa_cons pe_non (pa_cons (pv 1) (pa_cons pe_non (pa_cons pe_int pa_nil)))))))
      pss_nil)
      (pss_cons (ps_asg (pv 0) (pg_tupL rfl (pgs_cons (pg_name (i := 2) sc_law_put.nd rfl (by first | exact Or.inl rfl | exact Or.inr rfl)) (pgs_cons (pg_name (i := 3) sc_law_put.nd rfl (by first | exact Or.inl rfl | exact Or.inr rfl)) (pgs_cons (pg_name (i := 4) sc_law_put.nd rfl (by first | exact Or.inl rfl | exact Or.inr rfl)) (pgs_cons (pg_name (i := 5) sc_law_put.nd rfl (by first | exact Or.inl rfl | exact Or.inr rfl)) pgs_nil))))))
      (pss_cons (ps_if (pt_cmpR op_lt (pv 1) (pv 3) (nomark _))
      (pss_one (ps_ret (pe_tup (pa_cons (pe_def D_law_put (hr.mono (Nat.le_refl _)) (pa_cons (pv 2) (pa_cons (pv 1) pa_nil))) (pa_cons (pv 3) (pa_cons (pv 4) (pa_cons (pe_op (op_addK (K := K) rfl) (pv 5) pe_int) pa_nil)))))))
      pss_nil)
      (pss_one (ps_ret (pe_tup (pa_cons (pv 2) (pa_cons (pv 3) (pa_cons (pe_def D_law_put (hr.mono (Nat.le_refl _)) (pa_cons (pv 4) (pa_cons (pv 1) pa_nil))) (pa_cons (pe_op (op_addK (K := K) rfl) (pv 5) pe_int) pa_nil)))))))))),
      fn_run (n := 2) (k := 4) (ms_seq (ms_if (mt_test (me_op J_is me_var me_non))
      (ms_ret (me_tup (ma_cons me_non (ma_cons me_var (ma_cons me_non (ma_cons me_int ma_nil))))))
      ms_next)
      (ms_seq (ms_asgG me_var (mg_tupL (mgs_cons mg_name (mgs_cons mg_name (mgs_cons mg_name (mgs_cons mg_name mgs_nil))))))
      (ms_seq (ms_if (mt_test (me_op J_B0 me_var me_var))
      (ms_ret (me_tup (ma_cons (me_call (ma_cons me_var (ma_cons me_var ma_nil))) (ma_cons me_var (ma_cons me_var (ma_cons (me_op J_add me_var me_int) ma_nil))))))
      ms_next)
      (ms_ret (me_tup (ma_cons me_var (ma_cons me_var (ma_cons (me_call (ma_cons me_var (ma_cons me_var ma_nil))) (ma_cons (me_op J_add me_var me_int) ma_nil))))))))) rfl h⟩
theorem ok_law_grown (Z : NoGl mg) (T : Top K mg "_law_grown" s_law_grown) (D_law_keys : Def P w K mg base CX0 1 "_law_keys" ["_law_cell", "_law_order_here"] (spM m_law_keys)) (D_law_order : Def P w K mg base CX0 14 "_law_order" ["_law_cell", "_law_more"] (spM m_law_order)) (D_law_cell_at : Def P w K mg base CX0 1 "_law_cell_at" ["_law_script", "_law_k"] (spM m_law_cell_at)) (D_law_put : Def P w K mg base CX0 65 "_law_put" ["_law_tree", "_law_key"] (spM (m_law_put 64))) : Def P w K mg base CX0 66 "_law_grown" ["_law_script"] (spM m_law_grown) := by
  refine T.def sc_law_grown (fun vs H Q E h => spM_len h) (fun _ _ _ _ _ _ us hl => match us, hl with | [_], _ => rfl) fun f cdv A outer s H vs Q E hr h => ?_
  have hu := hr.units
  exact ⟨_, (pss_cons (ps_set (i := 1) sc_law_grown.nd rfl (by first | exact Or.inl rfl | exact Or.inr rfl) pe_non)
      (pss_cons (ps_for PassesOwn.never rfl (pi_listK (K := K) rfl (pe_def D_law_keys (hr.mono (by omega)) (pa_cons (pe_def D_law_cell_at (hr.mono (by omega)) (pa_cons (pv 0) (pa_cons pe_int pa_nil))) (pa_cons (pe_def D_law_order (hr.mono (by omega)) (pa_cons (pe_def D_law_cell_at (hr.mono (by omega)) (pa_cons (pv 0) (pa_cons pe_int pa_nil))) (pa_cons (pe_def D_law_cell_at (hr.mono (by omega)) (pa_cons (pv 0) (pa_cons pe_int pa_nil))) pa_nil))) pa_nil)))) (pg_name (i := 2) sc_law_grown.nd rfl (by first | exact Or.inl rfl | exact Or.inr rfl))
      (pss_one (ps_set (i := 1) sc_law_grown.nd rfl (by first | exact Or.inl rfl | exact Or.inr rfl) (pe_def D_law_put (hr.mono (by omega)) (pa_cons (pv 1) (pa_cons (pv 2) pa_nil))))))
      (pss_one (ps_ret (pv 1))))),
      fn_run (n := 1) (k := 2) (ms_seq (ms_asg me_non)
      (ms_seq (ms_for (mf_list (me_call (ma_cons (me_call (ma_cons me_var (ma_cons me_int ma_nil))) (ma_cons (me_call (ma_cons (me_call (ma_cons me_var (ma_cons me_int ma_nil))) (ma_cons (me_call (ma_cons me_var (ma_cons me_int ma_nil))) ma_nil))) ma_nil)))) mg_name
      (ms_asg (me_call (ma_cons me_var (ma_cons me_var ma_nil)))))
      (ms_ret me_var))) rfl h⟩
theorem ok_law_rising (Z : NoGl mg) (T : Top K mg "_law_rising" s_law_rising)  : ∀ n, Def P w K mg base CX0 (1 + n) "_law_rising" ["_law_tree"] (spM (m_law_rising n))
  | 0 => T.def sc_law_rising (fun vs H Q E h => by obtain ⟨_, _, _, _, _, _, _, e, _⟩ := h; cases e) (fun _ _ _ _ _ _ us hl => match us, hl with | [_], _ => rfl) fun f cdv A outer s H vs Q E hr h => by obtain ⟨_, _, _, _, _, _, _, e, _⟩ := h; cases e
  | n + 1 => by
    have D_law_rising := ok_law_rising Z T  n
    refine T.def sc_law_rising (fun vs H Q E h => spM_len h) (fun _ _ _ _ _ _ us hl => match us, hl with | [_], _ => rfl) fun f cdv A outer s H vs Q E hr h => ?_
    have hu := hr.units
    exact ⟨_, (pss_cons (ps_if (pt_cmpR op_isN (pv 0) pe_non (nomark _))
      (pss_one (ps_ret (pe_lst pa_nil)))
      pss_nil)
      (pss_one (ps_ret (pe_op (op_addK (K := K) rfl) (pe_op (op_addK (K := K) rfl) (pe_def D_law_rising (hr.mono (Nat.le_refl _)) (pa_cons (pe_ix (ix_seqK (K := K) rfl) (pv 0) pe_int (fun _ _ => rfl)) pa_nil)) (pe_lst (pa_cons (pe_ix (ix_seqK (K := K) rfl) (pv 0) pe_int (fun _ _ => rfl)) pa_nil))) (pe_def D_law_rising (hr.mono (Nat.le_refl _)) (pa_cons (pe_ix (ix_seqK (K := K) rfl) (pv 0) pe_int (fun _ _ => rfl)) pa_nil)))))),
      fn_run (n := 1) (k := 0) (ms_seq (ms_if (mt_test (me_op J_is me_var me_non))
      (ms_ret (me_lst ma_nil))
      ms_next)
      (ms_ret (me_op J_add (me_op J_add (me_call (ma_cons (me_op J_ix me_var me_int) ma_nil)) (me_lst (ma_cons (me_op J_ix me_var me_int) ma_nil))) (me_call (ma_cons (me_op J_ix me_var me_int) ma_nil))))) rfl h⟩
theorem ok_law_of (Z : NoGl mg) (T : Top K mg "_law_of" s_law_of) (D_law_put : Def P w K mg base CX0 65 "_law_put" ["_law_tree", "_law_key"] (spM (m_law_put 64))) : Def P w K mg base CX0 66 "_law_of" ["_law_keys_here"] (spM m_law_of) := by
  refine T.def sc_law_of (fun vs H Q E h => spM_len h) (fun _ _ _ _ _ _ us hl => match us, hl with | [_], _ => rfl) fun f cdv A outer s H vs Q E hr h => ?_
  have hu := hr.units
  exact ⟨_, (pss_cons (ps_set (i := 1) sc_law_of.nd rfl (by first | exact Or.inl rfl | exact Or.inr rfl) pe_non)
      (pss_cons (ps_for PassesOwn.never rfl (pi_listK (K := K) rfl (pv 0)) (pg_name (i := 2) sc_law_of.nd rfl (by first | exact Or.inl rfl | exact Or.inr rfl))
      (pss_one (ps_set (i := 1) sc_law_of.nd rfl (by first | exact Or.inl rfl | exact Or.inr rfl) (pe_def D_law_put (hr.mono (by omega)) (pa_cons (pv 1) (pa_cons (pv 2) pa_nil))))))
      (pss_one (ps_ret (pv 1))))),
      fn_run (n := 1) (k := 2) (ms_seq (ms_asg me_non)
      (ms_seq (ms_for (mf_list me_var) mg_name
      (ms_asg (me_call (ma_cons me_var (ma_cons me_var ma_nil)))))
      (ms_ret me_var))) rfl h⟩
theorem ok_parts_to (Z : NoGl mg) (T : Top K mg "parts_to" s_parts_to)  : Def P w K mg base CX0 1 "parts_to" ["tree", "number"] (spM m_parts_to) := by
  refine T.def sc_parts_to (fun vs H Q E h => spM_len h) (fun _ _ _ _ _ _ us hl => match us, hl with | [_, _], _ => rfl) fun f cdv A outer s H vs Q E hr h => ?_
  have hu := hr.units
  exact ⟨_, (pss_cons (ps_set (i := 2) sc_parts_to.nd rfl (by first | exact Or.inl rfl | exact Or.inr rfl) (pe_lst pa_nil))
      (pss_cons (ps_set (i := 3) sc_parts_to.nd rfl (by first | exact Or.inl rfl | exact Or.inr rfl) (pv 0))
      (pss_cons (ps_while PassesOwn.never (pt_cmpR op_notN (pv 3) pe_non (nomark _))
      (pss_cons (ps_expr (pe_bmK (K := K) rfl PySem.F.plainAttrs_list PySem.F.slot_list_append PySem.F.type_list_append mt_append (pv 2) (pa_cons (pv 3) pa_nil)))
      (pss_cons (ps_if (pt_cmpR (op_eqK (K := K) rfl hu) (pv 1) (pe_ix (ix_seqK (K := K) rfl) (pv 3) pe_int (fun _ _ => rfl)) (nomark _))
      (pss_one ps_break)
      pss_nil)
      (pss_one (ps_set (i := 3) sc_parts_to.nd rfl (by first | exact Or.inl rfl | exact Or.inr rfl) (pe_ifExp (pt_cmpR op_lt (pv 1) (pe_ix (ix_seqK (K := K) rfl) (pv 3) pe_int (fun _ _ => rfl)) (nomark _)) (pe_ix (ix_seqK (K := K) rfl) (pv 3) pe_int (fun _ _ => rfl)) (pe_ix (ix_seqK (K := K) rfl) (pv 3) pe_int (fun _ _ => rfl))))))))
      (pss_one (ps_ret (pv 2)))))),
      fn_run (n := 2) (k := 2) (ms_seq (ms_asg (me_lst ma_nil))
      (ms_seq (ms_asg me_var)
      (ms_seq (ms_while (mt_test (me_op J_isNot me_var me_non))
      (ms_seq (ms_drop (me_mut J_append (ma_cons me_var ma_nil)))
      (ms_seq (ms_if (mt_test (me_op J_eq me_var (me_op J_ix me_var me_int)))
      ms_break
      ms_next)
      (ms_asg (me_ifE (mt_test (me_op J_B0 me_var (me_op J_ix me_var me_int))) (me_op J_ix me_var me_int) (me_op J_ix me_var me_int))))))
      (ms_ret me_var)))) rfl h⟩
theorem ok_stands_left (Z : NoGl mg) (T : Top K mg "stands_left" s_stands_left)  : Def P w K mg base CX0 1 "stands_left" ["up", "part"] (spM m_stands_left) := by
  refine T.def sc_stands_left (fun vs H Q E h => spM_len h) (fun _ _ _ _ _ _ us hl => match us, hl with | [_, _], _ => rfl) fun f cdv A outer s H vs Q E hr h => ?_
  have hu := hr.units
  exact ⟨_, (pss_one (ps_ret (pe_cmpR op_lt (pe_ix (ix_seqK (K := K) rfl) (pv 1) pe_int (fun _ _ => rfl)) (pe_ix (ix_seqK (K := K) rfl) (pv 0) pe_int (fun _ _ => rfl)) (nomark _)))),
      fn_run (n := 2) (k := 0) (ms_ret (me_op J_B0 (me_op J_ix me_var me_int) (me_op J_ix me_var me_int))) rfl h⟩
theorem ok_many_of (Z : NoGl mg) (T : Top K mg "many_of" s_many_of)  : Def P w K mg base CX0 1 "many_of" ["tree"] (spM m_many_of) := by
  refine T.def sc_many_of (fun vs H Q E h => spM_len h) (fun _ _ _ _ _ _ us hl => match us, hl with | [_], _ => rfl) fun f cdv A outer s H vs Q E hr h => ?_
  have hu := hr.units
  exact ⟨_, (pss_cons (ps_if (pt_cmpR op_isN (pv 0) pe_non (nomark _))
      (pss_one (ps_ret pe_int))
      pss_nil)
      (pss_one (ps_ret (pe_ix (ix_seqK (K := K) rfl) (pv 0) pe_int (fun _ _ => rfl))))),
      fn_run (n := 1) (k := 0) (ms_seq (ms_if (mt_test (me_op J_is me_var me_non))
      (ms_ret me_int)
      ms_next)
      (ms_ret (me_op J_ix me_var me_int))) rfl h⟩
theorem ok_tree_of (Z : NoGl mg) (T : Top K mg "tree_of" s_tree_of) (D_many_of : Def P w K mg base CX0 1 "many_of" ["tree"] (spM m_many_of)) : Def P w K mg base CX0 2 "tree_of" ["left", "key", "right"] (spM m_tree_of) := by
  refine T.def sc_tree_of (fun vs H Q E h => spM_len h) (fun _ _ _ _ _ _ us hl => match us, hl with | [_, _, _], _ => rfl) fun f cdv A outer s H vs Q E hr h => ?_
  have hu := hr.units
  exact ⟨_, (pss_one (ps_ret (pe_tup (pa_cons (pv 0) (pa_cons (pv 1) (pa_cons (pv 2) (pa_cons (pe_op (op_addK (K := K) rfl) (pe_op (op_addK (K := K) rfl) (pe_def D_many_of (hr.mono (by omega)) (pa_cons (pv 0) pa_nil)) pe_int) (pe_def D_many_of (hr.mono (by omega)) (pa_cons (pv 2) pa_nil))) pa_nil))))))),
      fn_run (n := 3) (k := 0) (ms_ret (me_tup (ma_cons me_var (ma_cons me_var (ma_cons me_var (ma_cons (me_op J_add (me_op J_add (me_call (ma_cons me_var ma_nil)) me_int) (me_call (ma_cons me_var ma_nil))) ma_nil)))))) rfl h⟩
theorem ok_with_side (Z : NoGl mg) (T : Top K mg "with_side" s_with_side) (D_tree_of : Def P w K mg base CX0 2 "tree_of" ["left", "key", "right"] (spM m_tree_of)) (D_stands_left : Def P w K mg base CX0 1 "stands_left" ["up", "part"] (spM m_stands_left)) : Def P w K mg base CX0 3 "with_side" ["up", "part"] (spM m_with_side) := by
  refine T.def sc_with_side (fun vs H Q E h => spM_len h) (fun _ _ _ _ _ _ us hl => match us, hl with | [_, _], _ => rfl) fun f cdv A outer s H vs Q E hr h => ?_
  have hu := hr.units
  exact ⟨_, (pss_cons (ps_if (pt_val (pe_def D_stands_left (hr.mono (by omega)) (pa_cons (pv 0) (pa_cons (pv 1) pa_nil))))
      (pss_one (ps_ret (pe_def D_tree_of (hr.mono (by omega)) (pa_cons (pv 1) (pa_cons (pe_ix (ix_seqK (K := K) rfl) (pv 0) pe_int (fun _ _ => rfl)) (pa_cons (pe_ix (ix_seqK (K := K) rfl) (pv 0) pe_int (fun _ _ => rfl)) pa_nil))))))
      pss_nil)
      (pss_one (ps_ret (pe_def D_tree_of (hr.mono (by omega)) (pa_cons (pe_ix (ix_seqK (K := K) rfl) (pv 0) pe_int (fun _ _ => rfl)) (pa_cons (pe_ix (ix_seqK (K := K) rfl) (pv 0) pe_int (fun _ _ => rfl)) (pa_cons (pv 1) pa_nil))))))),
      fn_run (n := 2) (k := 0) (ms_seq (ms_if (mt_tB (me_call (ma_cons me_var (ma_cons me_var ma_nil))))
      (ms_ret (me_call (ma_cons me_var (ma_cons (me_op J_ix me_var me_int) (ma_cons (me_op J_ix me_var me_int) ma_nil)))))
      ms_next)
      (ms_ret (me_call (ma_cons (me_op J_ix me_var me_int) (ma_cons (me_op J_ix me_var me_int) (ma_cons me_var ma_nil)))))) rfl h⟩
theorem ok_hung_in (Z : NoGl mg) (T : Top K mg "hung_in" s_hung_in) (D_with_side : Def P w K mg base CX0 3 "with_side" ["up", "part"] (spM m_with_side)) : Def P w K mg base CX0 4 "hung_in" ["above", "part"] (spM m_hung_in) := by
  have z_reversed : mg "reversed" = none := Z _ (by decide +kernel)
  refine T.def sc_hung_in (fun vs H Q E h => spM_len h) (fun _ _ _ _ _ _ us hl => match us, hl with | [_, _], _ => rfl) fun f cdv A outer s H vs Q E hr h => ?_
  have hu := hr.units
  exact ⟨_, (pss_cons (ps_set (i := 2) sc_hung_in.nd rfl (by first | exact Or.inl rfl | exact Or.inr rfl) (pv 1))
      (pss_cons (ps_for PassesOwn.never rfl (pi_revK (K := K) rfl rfl z_reversed (pa_cons (pv 0) pa_nil)) (pg_name (i := 3) sc_hung_in.nd rfl (by first | exact Or.inl rfl | exact Or.inr rfl))
      (pss_one (ps_set (i := 2) sc_hung_in.nd rfl (by first | exact Or.inl rfl | exact Or.inr rfl) (pe_def D_with_side (hr.mono (by omega)) (pa_cons (pv 3) (pa_cons (pv 2) pa_nil))))))
      (pss_one (ps_ret (pv 2))))),
      fn_run (n := 2) (k := 2) (ms_seq (ms_asg me_var)
      (ms_seq (ms_for (mf_rev (ma_cons me_var ma_nil)) mg_name
      (ms_asg (me_call (ma_cons me_var (ma_cons me_var ma_nil)))))
      (ms_ret me_var))) rfl h⟩
theorem ok_lifted (Z : NoGl mg) (T : Top K mg "lifted" s_lifted) (D_tree_of : Def P w K mg base CX0 2 "tree_of" ["left", "key", "right"] (spM m_tree_of)) (D_stands_left : Def P w K mg base CX0 1 "stands_left" ["up", "part"] (spM m_stands_left)) : Def P w K mg base CX0 3 "lifted" ["up", "part"] (spM m_lifted) := by
  refine T.def sc_lifted (fun vs H Q E h => spM_len h) (fun _ _ _ _ _ _ us hl => match us, hl with | [_, _], _ => rfl) fun f cdv A outer s H vs Q E hr h => ?_
  have hu := hr.units
  exact ⟨_, (pss_cons (ps_if (pt_val (pe_def D_stands_left (hr.mono (by omega)) (pa_cons (pv 0) (pa_cons (pv 1) pa_nil))))
      (pss_one (ps_ret (pe_def D_tree_of (hr.mono (by omega)) (pa_cons (pe_ix (ix_seqK (K := K) rfl) (pv 1) pe_int (fun _ _ => rfl)) (pa_cons (pe_ix (ix_seqK (K := K) rfl) (pv 1) pe_int (fun _ _ => rfl)) (pa_cons (pe_def D_tree_of (hr.mono (by omega)) (pa_cons (pe_ix (ix_seqK (K := K) rfl) (pv 1) pe_int (fun _ _ => rfl)) (pa_cons (pe_ix (ix_seqK (K := K) rfl) (pv 0) pe_int (fun _ _ => rfl)) (pa_cons (pe_ix (ix_seqK (K := K) rfl) (pv 0) pe_int (fun _ _ => rfl)) pa_nil)))) pa_nil))))))
      pss_nil)
      (pss_one (ps_ret (pe_def D_tree_of (hr.mono (by omega)) (pa_cons (pe_def D_tree_of (hr.mono (by omega)) (pa_cons (pe_ix (ix_seqK (K := K) rfl) (pv 0) pe_int (fun _ _ => rfl)) (pa_cons (pe_ix (ix_seqK (K := K) rfl) (pv 0) pe_int (fun _ _ => rfl)) (pa_cons (pe_ix (ix_seqK (K := K) rfl) (pv 1) pe_int (fun _ _ => rfl)) pa_nil)))) (pa_cons (pe_ix (ix_seqK (K := K) rfl) (pv 1) pe_int (fun _ _ => rfl)) (pa_cons (pe_ix (ix_seqK (K := K) rfl) (pv 1) pe_int (fun _ _ => rfl)) pa_nil))))))),
      fn_run (n := 2) (k := 0) (ms_seq (ms_if (mt_tB (me_call (ma_cons me_var (ma_cons me_var ma_nil))))
      (ms_ret (me_call (ma_cons (me_op J_ix me_var me_int) (ma_cons (me_op J_ix me_var me_int) (ma_cons (me_call (ma_cons (me_op J_ix me_var me_int) (ma_cons (me_op J_ix me_var me_int) (ma_cons (me_op J_ix me_var me_int) ma_nil)))) ma_nil)))))
      ms_next)
      (ms_ret (me_call (ma_cons (me_call (ma_cons (me_op J_ix me_var me_int) (ma_cons (me_op J_ix me_var me_int) (ma_cons (me_op J_ix me_var me_int) ma_nil)))) (ma_cons (me_op J_ix me_var me_int) (ma_cons (me_op J_ix me_var me_int) ma_nil)))))) rfl h⟩
theorem ok_bent (Z : NoGl mg) (T : Top K mg "bent" s_bent) (D_lifted : Def P w K mg base CX0 3 "lifted" ["up", "part"] (spM m_lifted)) (D_with_side : Def P w K mg base CX0 3 "with_side" ["up", "part"] (spM m_with_side)) : Def P w K mg base CX0 4 "bent" ["top", "up", "part"] (spM m_bent) := by
  refine T.def sc_bent (fun vs H Q E h => spM_len h) (fun _ _ _ _ _ _ us hl => match us, hl with | [_, _, _], _ => rfl) fun f cdv A outer s H vs Q E hr h => ?_
  have hu := hr.units
  exact ⟨_, (pss_cons (ps_set (i := 3) sc_bent.nd rfl (by first | exact Or.inl rfl | exact Or.inr rfl) (pe_def D_lifted (hr.mono (by omega)) (pa_cons (pv 1) (pa_cons (pv 2) pa_nil))))
      (pss_one (ps_ret (pe_def D_lifted (hr.mono (by omega)) (pa_cons (pe_def D_with_side (hr.mono (by omega)) (pa_cons (pv 0) (pa_cons (pv 3) pa_nil))) (pa_cons (pv 3) pa_nil)))))),
      fn_run (n := 3) (k := 1) (ms_seq (ms_asg (me_call (ma_cons me_var (ma_cons me_var ma_nil))))
      (ms_ret (me_call (ma_cons (me_call (ma_cons me_var (ma_cons me_var ma_nil))) (ma_cons me_var ma_nil))))) rfl h⟩
theorem ok_straight (Z : NoGl mg) (T : Top K mg "straight" s_straight) (D_lifted : Def P w K mg base CX0 3 "lifted" ["up", "part"] (spM m_lifted)) : Def P w K mg base CX0 4 "straight" ["top", "up", "part"] (spM m_straight) := by
  refine T.def sc_straight (fun vs H Q E h => spM_len h) (fun _ _ _ _ _ _ us hl => match us, hl with | [_, _, _], _ => rfl) fun f cdv A outer s H vs Q E hr h => ?_
  have hu := hr.units
  exact ⟨_, (pss_one (ps_ret (pe_def D_lifted (hr.mono (by omega)) (pa_cons (pe_def D_lifted (hr.mono (by omega)) (pa_cons (pv 0) (pa_cons (pv 1) pa_nil))) (pa_cons (pv 2) pa_nil))))),
      fn_run (n := 3) (k := 0) (ms_ret (me_call (ma_cons (me_call (ma_cons me_var (ma_cons me_var ma_nil))) (ma_cons me_var ma_nil)))) rfl h⟩
theorem ok_turn_key (Z : NoGl mg) (T : Top K mg "turn_key" s_turn_key) (D_hung_in : Def P w K mg base CX0 4 "hung_in" ["above", "part"] (spM m_hung_in)) (D_bent : Def P w K mg base CX0 4 "bent" ["top", "up", "part"] (spM m_bent)) (D_stands_left : Def P w K mg base CX0 1 "stands_left" ["up", "part"] (spM m_stands_left)) (D_straight : Def P w K mg base CX0 4 "straight" ["top", "up", "part"] (spM m_straight)) (D_lifted : Def P w K mg base CX0 3 "lifted" ["up", "part"] (spM m_lifted)) (D_parts_to : Def P w K mg base CX0 1 "parts_to" ["tree", "number"] (spM m_parts_to)) : Def P w K mg base CX0 5 "turn_key" ["tree", "key"] (spM m_turn_key) := by
  have z_len : mg "len" = none := Z _ (by decide +kernel)
  refine T.def sc_turn_key (fun vs H Q E h => spM_len h) (fun _ _ _ _ _ _ us hl => match us, hl with | [_, _], _ => rfl) fun f cdv A outer s H vs Q E hr h => ?_
  have hu := hr.units
  exact ⟨_, (pss_cons (ps_set (i := 2) sc_turn_key.nd rfl (by first | exact Or.inl rfl | exact Or.inr rfl) (pe_def D_parts_to (hr.mono (by omega)) (pa_cons (pv 0) (pa_cons (pv 1) pa_nil))))
      (pss_cons (ps_if (PW.pt (pw_or (pt_cmpR (op_eqK (K := K) rfl hu) (pe_callB (call_lenK (K := K) rfl) rfl z_len PySem.boot_len (pa_cons (pv 2) pa_nil)) pe_int (nomark _)) (pw_or1 (pt_cmpR (op_neK (K := K) rfl hu) (pe_ix (ix_seqK (K := K) rfl) (pe_ix (ix_seqK (K := K) rfl) (pv 2) (pe_un un_neg pe_int) (fun _ _ => rfl)) pe_int (fun _ _ => rfl)) (pv 1) (nomark _)))))
      (pss_one ps_never)
      pss_nil)
      (pss_cons (ps_if (pt_cmpR (op_eqK (K := K) rfl hu) (pe_callB (call_lenK (K := K) rfl) rfl z_len PySem.boot_len (pa_cons (pv 2) pa_nil)) pe_int (nomark _))
      (pss_one ps_never)
      pss_nil)
      (pss_cons (ps_if (pt_cmpR (op_eqK (K := K) rfl hu) (pe_callB (call_lenK (K := K) rfl) rfl z_len PySem.boot_len (pa_cons (pv 2) pa_nil)) pe_int (nomark _))
      (pss_one (ps_ret (pe_tup (pa_cons pe_str (pa_cons (pe_def D_lifted (hr.mono (by omega)) (pa_cons (pe_ix (ix_seqK (K := K) rfl) (pv 2) pe_int (fun _ _ => rfl)) (pa_cons (pe_ix (ix_seqK (K := K) rfl) (pv 2) pe_int (fun _ _ => rfl)) pa_nil))) pa_nil)))))
      pss_nil)
      (pss_cons (ps_if (pt_cmpR (op_eqK (K := K) rfl hu) (pe_def D_stands_left (hr.mono (by omega)) (pa_cons (pe_ix (ix_seqK (K := K) rfl) (pv 2) (pe_un un_neg pe_int) (fun _ _ => rfl)) (pa_cons (pe_ix (ix_seqK (K := K) rfl) (pv 2) (pe_un un_neg pe_int) (fun _ _ => rfl)) pa_nil))) (pe_def D_stands_left (hr.mono (by omega)) (pa_cons (pe_ix (ix_seqK (K := K) rfl) (pv 2) (pe_un un_neg pe_int) (fun _ _ => rfl)) (pa_cons (pe_ix (ix_seqK (K := K) rfl) (pv 2) (pe_un un_neg pe_int) (fun _ _ => rfl)) pa_nil))) (nomark _))
      (pss_one (ps_ret (pe_tup (pa_cons pe_str (pa_cons (pe_def D_hung_in (hr.mono (by omega)) (pa_cons (pe_slice (sl_listK (K := K) rfl) (pv 2) po_none (po_some (pe_un un_neg pe_int))) (pa_cons (pe_def D_straight (hr.mono (by omega)) (pa_cons (pe_ix (ix_seqK (K := K) rfl) (pv 2) (pe_un un_neg pe_int) (fun _ _ => rfl)) (pa_cons (pe_ix (ix_seqK (K := K) rfl) (pv 2) (pe_un un_neg pe_int) (fun _ _ => rfl)) (pa_cons (pe_ix (ix_seqK (K := K) rfl) (pv 2) (pe_un un_neg pe_int) (fun _ _ => rfl)) pa_nil)))) pa_nil))) pa_nil)))))
      pss_nil)
      (pss_one (ps_ret (pe_tup (pa_cons pe_str (pa_cons (pe_def D_hung_in (hr.mono (by omega)) (pa_cons (pe_slice (sl_listK (K := K) rfl) (pv 2) po_none (po_some (pe_un un_neg pe_int))) (pa_cons (pe_def D_bent (hr.mono (by omega)) (pa_cons (pe_ix (ix_seqK (K := K) rfl) (pv 2) (pe_un un_neg pe_int) (fun _ _ => rfl)) (pa_cons (pe_ix (ix_seqK (K := K) rfl) (pv 2) (pe_un un_neg pe_int) (fun _ _ => rfl)) (pa_cons (pe_ix (ix_seqK (K := K) rfl) (pv 2) (pe_un un_neg pe_int) (fun _ _ => rfl)) pa_nil)))) pa_nil))) pa_nil)))))))))),
      fn_run (n := 2) (k := 1) (ms_seq (ms_asg (me_call (ma_cons me_var (ma_cons me_var ma_nil))))
      (ms_seq (ms_if (mt_or (mt_test (me_op J_eq (me_cb J_len (ma_cons me_var ma_nil)) me_int)) (mt_test (me_op J_ne (me_op J_ix (me_op J_ix me_var (me_un J_neg me_int)) me_int) me_var)))
      ms_never
      ms_next)
      (ms_seq (ms_if (mt_test (me_op J_eq (me_cb J_len (ma_cons me_var ma_nil)) me_int))
      ms_never
      ms_next)
      (ms_seq (ms_if (mt_test (me_op J_eq (me_cb J_len (ma_cons me_var ma_nil)) me_int))
      (ms_ret (me_tup (ma_cons me_str (ma_cons (me_call (ma_cons (me_op J_ix me_var me_int) (ma_cons (me_op J_ix me_var me_int) ma_nil))) ma_nil))))
      ms_next)
      (ms_seq (ms_if (mt_test (me_op J_eq (me_call (ma_cons (me_op J_ix me_var (me_un J_neg me_int)) (ma_cons (me_op J_ix me_var (me_un J_neg me_int)) ma_nil))) (me_call (ma_cons (me_op J_ix me_var (me_un J_neg me_int)) (ma_cons (me_op J_ix me_var (me_un J_neg me_int)) ma_nil)))))
      (ms_ret (me_tup (ma_cons me_str (ma_cons (me_call (ma_cons (me_sl J_sl me_var mo_none (mo_some (me_un J_neg me_int))) (ma_cons (me_call (ma_cons (me_op J_ix me_var (me_un J_neg me_int)) (ma_cons (me_op J_ix me_var (me_un J_neg me_int)) (ma_cons (me_op J_ix me_var (me_un J_neg me_int)) ma_nil)))) ma_nil))) ma_nil))))
      ms_next)
      (ms_ret (me_tup (ma_cons me_str (ma_cons (me_call (ma_cons (me_sl J_sl me_var mo_none (mo_some (me_un J_neg me_int))) (ma_cons (me_call (ma_cons (me_op J_ix me_var (me_un J_neg me_int)) (ma_cons (me_op J_ix me_var (me_un J_neg me_int)) (ma_cons (me_op J_ix me_var (me_un J_neg me_int)) ma_nil)))) ma_nil))) ma_nil))))))))) rfl h⟩
theorem ok_turn_up (Z : NoGl mg) (T : Top K mg "turn_up" s_turn_up) (D_turn_key : Def P w K mg base CX0 5 "turn_key" ["tree", "key"] (spM m_turn_key)) : Def P w K mg base CX0 6 "turn_up" ["tree", "key"] (spM m_turn_up) := by
  refine T.def sc_turn_up (fun vs H Q E h => spM_len h) (fun _ _ _ _ _ _ us hl => match us, hl with | [_, _], _ => rfl) fun f cdv A outer s H vs Q E hr h => ?_
  have hu := hr.units
  exact ⟨_, (pss_cons (ps_set (i := 2) sc_turn_up.nd rfl (by first | exact Or.inl rfl | exact Or.inr rfl) (pe_lst pa_nil))
      (pss_cons (ps_set (i := 3) sc_turn_up.nd rfl (by first | exact Or.inl rfl | exact Or.inr rfl) (pv 0))
      (pss_cons (ps_while PassesOwn.never (pt_cmpR (op_neK (K := K) rfl hu) (pe_ix (ix_seqK (K := K) rfl) (pv 3) pe_int (fun _ _ => rfl)) (pv 1) (nomark _))
      (pss_cons (ps_set (i := 4) sc_turn_up.nd rfl (by first | exact Or.inl rfl | exact Or.inr rfl) (pe_def D_turn_key (hr.mono (by omega)) (pa_cons (pv 3) (pa_cons (pv 1) pa_nil))))
      (pss_cons (ps_expr (pe_bmK (K := K) rfl PySem.F.plainAttrs_list PySem.F.slot_list_append PySem.F.type_list_append mt_append (pv 2) (pa_cons (pv 4) pa_nil)))
      (pss_one (ps_set (i := 3) sc_turn_up.nd rfl (by first | exact Or.inl rfl | exact Or.inr rfl) (pe_ix (ix_seqK (K := K) rfl) (pv 4) pe_int (fun _ _ => rfl)))))))
      (pss_one (ps_ret (pe_tup (pa_cons (pv 3) (pa_cons (pv 2) pa_nil)))))))),
      fn_run (n := 2) (k := 3) (ms_seq (ms_asg (me_lst ma_nil))
      (ms_seq (ms_asg me_var)
      (ms_seq (ms_while (mt_test (me_op J_ne (me_op J_ix me_var me_int) me_var))
      (ms_seq (ms_asg (me_call (ma_cons me_var (ma_cons me_var ma_nil))))
      (ms_seq (ms_drop (me_mut J_append (ma_cons me_var ma_nil)))
      (ms_asg (me_op J_ix me_var me_int)))))
      (ms_ret (me_tup (ma_cons me_var (ma_cons me_var ma_nil))))))) rfl h⟩
theorem ok_parts_of (Z : NoGl mg) (T : Top K mg "parts_of" s_parts_of)  : Def P w K mg base CX0 1 "parts_of" ["tree"] (spM m_parts_of) := by
  have z_len : mg "len" = none := Z _ (by decide +kernel)
  refine T.def sc_parts_of (fun vs H Q E h => spM_len h) (fun _ _ _ _ _ _ us hl => match us, hl with | [_], _ => rfl) fun f cdv A outer s H vs Q E hr h => ?_
  have hu := hr.units
  exact ⟨_, (pss_cons (ps_set (i := 1) sc_parts_of.nd rfl (by first | exact Or.inl rfl | exact Or.inr rfl) (pe_lst pa_nil))
      (pss_cons (ps_set (i := 2) sc_parts_of.nd rfl (by first | exact Or.inl rfl | exact Or.inr rfl) (pe_lst (pa_cons (pv 0) pa_nil)))
      (pss_cons (ps_while PassesOwn.never (pt_cmpR op_gt (pe_callB (call_lenK (K := K) rfl) rfl z_len PySem.boot_len (pa_cons (pv 2) pa_nil)) pe_int (nomark _))
      (pss_cons (ps_set (i := 3) sc_parts_of.nd rfl (by first | exact Or.inl rfl | exact Or.inr rfl) (pe_bm0K (K := K) rfl PySem.F.plainAttrs_list PySem.F.slot_list_pop PySem.F.type_list_pop mt_pop (pv 2)))
      (pss_one (ps_if (pt_cmpR op_notN (pv 3) pe_non (nomark _))
      (pss_cons (ps_expr (pe_bmK (K := K) rfl PySem.F.plainAttrs_list PySem.F.slot_list_append PySem.F.type_list_append mt_append (pv 1) (pa_cons (pv 3) pa_nil)))
      (pss_cons (ps_expr (pe_bmK (K := K) rfl PySem.F.plainAttrs_list PySem.F.slot_list_append PySem.F.type_list_append mt_append (pv 2) (pa_cons (pe_ix (ix_seqK (K := K) rfl) (pv 3) pe_int (fun _ _ => rfl)) pa_nil)))
      (pss_one (ps_expr (pe_bmK (K := K) rfl PySem.F.plainAttrs_list PySem.F.slot_list_append PySem.F.type_list_append mt_append (pv 2) (pa_cons (pe_ix (ix_seqK (K := K) rfl) (pv 3) pe_int (fun _ _ => rfl)) pa_nil))))))
      pss_nil))))
      (pss_one (ps_ret (pv 1)))))),
      fn_run (n := 1) (k := 3) (ms_seq (ms_asg (me_lst ma_nil))
      (ms_seq (ms_asg (me_lst (ma_cons me_var ma_nil)))
      (ms_seq (ms_while (mt_test (me_op J_B0 (me_cb J_len (ma_cons me_var ma_nil)) me_int))
      (ms_seq (ms_asg (me_mut0 J_pop))
      (ms_if (mt_test (me_op J_isNot me_var me_non))
      (ms_seq (ms_drop (me_mut J_append (ma_cons me_var ma_nil)))
      (ms_seq (ms_drop (me_mut J_append (ma_cons (me_op J_ix me_var me_int) ma_nil)))
      (ms_drop (me_mut J_append (ma_cons (me_op J_ix me_var me_int) ma_nil)))))
      ms_next)))
      (ms_ret me_var)))) rfl h⟩
theorem ok_keys_of (Z : NoGl mg) (T : Top K mg "keys_of" s_keys_of) (D_parts_of : Def P w K mg base CX0 1 "parts_of" ["tree"] (spM m_parts_of)) : Def P w K mg base CX0 2 "keys_of" ["tree"] (spM m_keys_of) := by
  have z_sorted : mg "sorted" = none := Z _ (by decide +kernel)
  refine T.def sc_keys_of (fun vs H Q E h => spM_len h) (fun _ _ _ _ _ _ us hl => match us, hl with | [_], _ => rfl) fun f cdv A outer s H vs Q E hr h => ?_
  have hu := hr.units
  exact ⟨_, (pss_one (ps_ret (pe_callB (call_sortedK (K := K) rfl) rfl z_sorted PyProof.Rows.boot_sorted (pa_cons (pe_lc (fr := []) rfl ⟨rfl, rfl, rfl, rfl, rfl, rfl, by decide +kernel⟩ (pi_listK (K := K) rfl (pe_def D_parts_of (hr.mono (by omega)) (pa_cons (pv 0) pa_nil))) (fun _ _ _ _ => pif_nil) (fun _ _ _ _ => (pe_ix (ix_seqK (K := K) rfl) (pv 0) pe_int (fun _ _ => rfl)))) pa_nil)))),
      fn_run (n := 1) (k := 0) (ms_ret (me_cb J_sorted (ma_cons (me_lc (mi_list (me_call (ma_cons me_var ma_nil))) mt_yes (me_op J_ix me_var me_int)) ma_nil))) rfl h⟩
theorem okx_tie_trees (Z : NoGl mg) (T : Top K mg "tie_trees" s_tie_trees) (cf : CF K mg C_Mixed C_CreditError C_Twice C_Overdrawn C_NotLess C_NoThing C_NoRow C_NoPlace C_NoNumber C_NoName C_Lacking C_Empty C_AtTop) (D_tree_of : Def P w K mg base CX0 2 "tree_of" ["left", "key", "right"] (spM m_tree_of)) (D_turn_up : Def P w K mg base CX0 6 "turn_up" ["tree", "key"] (spM m_turn_up)) (D_keys_of : Def P w K mg base CX0 2 "keys_of" ["tree"] (spM m_keys_of)) : Def P w K mg base (CXW P w) 7 "tie_trees" ["one", "other"] (spX (clM mg) x_tie_trees) := by
  refine T.defX sc_tie_trees (fun vs H Q E h => spX_len h) (fun _ _ _ _ _ _ us hl => match us, hl with | [_, _], _ => rfl) fun f cdv A outer s H vs Q E hr h => ?_
  have hu := hr.units
  exact ⟨_, (pss_cons (id (ps_if (pt_cmpR op_isN (pv 0) pe_non (nomark _))
      (pss_one (ps_ret (pe_tup (pa_cons (pv 1) (pa_cons (pe_lst pa_nil) pa_nil)))))
      pss_nil))
      (pss_cons (id (ps_if (pt_cmpR op_isN (pv 1) pe_non (nomark _))
      (pss_one (ps_ret (pe_tup (pa_cons (pv 0) (pa_cons (pe_lst pa_nil) pa_nil)))))
      pss_nil))
      (pss_cons (id (ps_set (i := 2) sc_tie_trees.nd rfl (by first | exact Or.inl rfl | exact Or.inr rfl) (pe_ix (ix_seqK (K := K) rfl) (pe_def D_keys_of (hr.mono (by omega)) (pa_cons (pv 0) pa_nil)) (pe_un un_neg pe_int) (fun _ _ => rfl))))
      (pss_cons (ps_if (pt_cmpR op_ge (pv 2) (pe_ix (ix_seqK (K := K) rfl) (pe_def D_keys_of (hr.mono (by omega)) (pa_cons (pv 1) pa_nil)) pe_int (fun _ _ => rfl)) (nomark _))
      (pss_one (ps_raise rfl rfl cf.m_Mixed cf.x_Mixed PySem.F.excBase_ValueError (raiseOk_leave sc_tie_trees.kind rfl) (pa_cons pe_str pa_nil)))
      pss_nil)
      (pss_cons (id (ps_set (i := 3) sc_tie_trees.nd rfl (by first | exact Or.inl rfl | exact Or.inr rfl) (pe_def D_turn_up (hr.mono (by omega)) (pa_cons (pv 0) (pa_cons (pv 2) pa_nil)))))
      (pss_cons (id (ps_set (i := 4) sc_tie_trees.nd rfl (by first | exact Or.inl rfl | exact Or.inr rfl) (pe_ix (ix_seqK (K := K) rfl) (pv 3) pe_int (fun _ _ => rfl))))
      (pss_one (id (ps_ret (pe_tup (pa_cons (pe_def D_tree_of (hr.mono (by omega)) (pa_cons (pe_ix (ix_seqK (K := K) rfl) (pv 4) pe_int (fun _ _ => rfl)) (pa_cons (pe_ix (ix_seqK (K := K) rfl) (pv 4) pe_int (fun _ _ => rfl)) (pa_cons (pv 1) pa_nil)))) (pa_cons (pe_ix (ix_seqK (K := K) rfl) (pv 3) pe_int (fun _ _ => rfl)) pa_nil)))))))))))),
      fn_runX (n := 2) (k := 3) (mse_seq (mse_lift (ms_if (mt_test (me_op J_is me_var me_non))
      (ms_ret (me_tup (ma_cons me_var (ma_cons (me_lst ma_nil) ma_nil))))
      ms_next))
      (mse_seq (mse_lift (ms_if (mt_test (me_op J_is me_var me_non))
      (ms_ret (me_tup (ma_cons me_var (ma_cons (me_lst ma_nil) ma_nil))))
      ms_next))
      (mse_seq (mse_lift (ms_asg (me_op J_ix (me_call (ma_cons me_var ma_nil)) (me_un J_neg me_int))))
      (mse_seq (mse_if (mt_test (me_op J_B0 me_var (me_op J_ix (me_call (ma_cons me_var ma_nil)) me_int)))
      (mse_raise (c := "Mixed") (ma_cons me_str ma_nil) (fun H h => clM_eq cf.m_Mixed ▸ h))
      (mse_lift ms_next))
      (mse_seq (mse_lift (ms_asg (me_call (ma_cons me_var (ma_cons me_var ma_nil)))))
      (mse_seq (mse_lift (ms_asg (me_op J_ix me_var me_int)))
      (mse_lift (ms_ret (me_tup (ma_cons (me_call (ma_cons (me_op J_ix me_var me_int) (ma_cons (me_op J_ix me_var me_int) (ma_cons me_var ma_nil)))) (ma_cons (me_op J_ix me_var me_int) ma_nil))))))))))) rfl h⟩
theorem ok_tie_trees (Z : NoGl mg) (T : Top K mg "tie_trees" s_tie_trees) (D_tree_of : Def P w K mg base CX0 2 "tree_of" ["left", "key", "right"] (spM m_tree_of)) (D_turn_up : Def P w K mg base CX0 6 "turn_up" ["tree", "key"] (spM m_turn_up)) (D_keys_of : Def P w K mg base CX0 2 "keys_of" ["tree"] (spM m_keys_of)) : Def P w K mg base CX0 7 "tie_trees" ["one", "other"] (spM m_tie_trees) := by
  refine T.def sc_tie_trees (fun vs H Q E h => spM_len h) (fun _ _ _ _ _ _ us hl => match us, hl with | [_, _], _ => rfl) fun f cdv A outer s H vs Q E hr h => ?_
  have hu := hr.units
  exact ⟨_, (pss_cons (ps_if (pt_cmpR op_isN (pv 0) pe_non (nomark _))
      (pss_one (ps_ret (pe_tup (pa_cons (pv 1) (pa_cons (pe_lst pa_nil) pa_nil)))))
      pss_nil)
      (pss_cons (ps_if (pt_cmpR op_isN (pv 1) pe_non (nomark _))
      (pss_one (ps_ret (pe_tup (pa_cons (pv 0) (pa_cons (pe_lst pa_nil) pa_nil)))))
      pss_nil)
      (pss_cons (ps_set (i := 2) sc_tie_trees.nd rfl (by first | exact Or.inl rfl | exact Or.inr rfl) (pe_ix (ix_seqK (K := K) rfl) (pe_def D_keys_of (hr.mono (by omega)) (pa_cons (pv 0) pa_nil)) (pe_un un_neg pe_int) (fun _ _ => rfl)))
      (pss_cons (ps_if (pt_cmpR op_ge (pv 2) (pe_ix (ix_seqK (K := K) rfl) (pe_def D_keys_of (hr.mono (by omega)) (pa_cons (pv 1) pa_nil)) pe_int (fun _ _ => rfl)) (nomark _))
      (pss_one ps_never)
      pss_nil)
      (pss_cons (ps_set (i := 3) sc_tie_trees.nd rfl (by first | exact Or.inl rfl | exact Or.inr rfl) (pe_def D_turn_up (hr.mono (by omega)) (pa_cons (pv 0) (pa_cons (pv 2) pa_nil))))
      (pss_cons (ps_set (i := 4) sc_tie_trees.nd rfl (by first | exact Or.inl rfl | exact Or.inr rfl) (pe_ix (ix_seqK (K := K) rfl) (pv 3) pe_int (fun _ _ => rfl)))
      (pss_one (ps_ret (pe_tup (pa_cons (pe_def D_tree_of (hr.mono (by omega)) (pa_cons (pe_ix (ix_seqK (K := K) rfl) (pv 4) pe_int (fun _ _ => rfl)) (pa_cons (pe_ix (ix_seqK (K := K) rfl) (pv 4) pe_int (fun _ _ => rfl)) (pa_cons (pv 1) pa_nil)))) (pa_cons (pe_ix (ix_seqK (K := K) rfl) (pv 3) pe_int (fun _ _ => rfl)) pa_nil))))))))))),
      fn_run (n := 2) (k := 3) (ms_seq (ms_if (mt_test (me_op J_is me_var me_non))
      (ms_ret (me_tup (ma_cons me_var (ma_cons (me_lst ma_nil) ma_nil))))
      ms_next)
      (ms_seq (ms_if (mt_test (me_op J_is me_var me_non))
      (ms_ret (me_tup (ma_cons me_var (ma_cons (me_lst ma_nil) ma_nil))))
      ms_next)
      (ms_seq (ms_asg (me_op J_ix (me_call (ma_cons me_var ma_nil)) (me_un J_neg me_int)))
      (ms_seq (ms_if (mt_test (me_op J_B0 me_var (me_op J_ix (me_call (ma_cons me_var ma_nil)) me_int)))
      ms_never
      ms_next)
      (ms_seq (ms_asg (me_call (ma_cons me_var (ma_cons me_var ma_nil))))
      (ms_seq (ms_asg (me_op J_ix me_var me_int))
      (ms_ret (me_tup (ma_cons (me_call (ma_cons (me_op J_ix me_var me_int) (ma_cons (me_op J_ix me_var me_int) (ma_cons me_var ma_nil)))) (ma_cons (me_op J_ix me_var me_int) ma_nil)))))))))) rfl h⟩
theorem ok_law_refused (Z : NoGl mg) (T : Top K mg "_law_refused" s_law_refused) (cf : CF K mg C_Mixed C_CreditError C_Twice C_Overdrawn C_NotLess C_NoThing C_NoRow C_NoPlace C_NoNumber C_NoName C_Lacking C_Empty C_AtTop) (R_tie_trees : Def P w K mg base (CXW P w) 7 "tie_trees" ["one", "other"] (spX (clM mg) x_tie_trees))  : Def P w K mg base CX0 8 "_law_refused" ["_law_one", "_law_other"] (spM m_law_refused) := by
  have z_isinstance : mg "isinstance" = none := Z _ (by decide +kernel)
  have z_ValueError : mg "ValueError" = none := Z _ (by decide +kernel)
  refine T.def sc_law_refused (fun vs H Q E h => spM_len h) (fun _ _ _ _ _ _ us hl => match us, hl with | [_, _], _ => rfl) fun f cdv A outer s H vs Q E hr h => ?_
  have hu := hr.units
  exact ⟨_, (pss_cons (ps_set (i := 2) sc_law_refused.nd rfl (by first | exact Or.inl rfl | exact Or.inr rfl) (pe_lst pa_nil))
      (pss_cons (ps_tryD (K := K) (i := 3) rfl rfl R_tie_trees (hr.mono (by omega)) (pa_cons (pv 0) (pa_cons (pv 1) pa_nil)) rfl rfl rfl rfl cf.m_CreditError sc_law_refused.nd rfl rfl (fun cls e oe hoc hok =>
      (pss_cons (ps_set (i := 2) sc_law_refused.nd rfl (by first | exact Or.inl rfl | exact Or.inr rfl) (pe_lst (pa_cons (pe_callB (call_isiO (K := K) rfl hok hoc) rfl z_isinstance PyProof.Rows.boot_isinstance (pa_cons (pv 3) (pa_cons (pe_ty z_ValueError PyProof.Rows.Boot.«ValueError») pa_nil))) (pa_cons (pe_callB (call_isiO (K := K) rfl hok hoc) rfl z_isinstance PyProof.Rows.boot_isinstance (pa_cons (pv 3) (pa_cons (pe_glob (v := .ref C_Mixed) rfl cf.m_Mixed rfl) pa_nil))) pa_nil))))
      (pss_cons (ps_set (i := 4) sc_law_refused.nd rfl (by first | exact Or.inl rfl | exact Or.inr rfl) (pe_callB (call_isiO (K := K) rfl hok hoc) rfl z_isinstance PyProof.Rows.boot_isinstance (pa_cons (pv 3) (pa_cons (pe_tup (pa_cons (pe_glob (v := .ref C_AtTop) rfl cf.m_AtTop rfl) (pa_cons (pe_glob (v := .ref C_Empty) rfl cf.m_Empty rfl) (pa_cons (pe_glob (v := .ref C_Lacking) rfl cf.m_Lacking rfl) (pa_cons (pe_glob (v := .ref C_NoName) rfl cf.m_NoName rfl) (pa_cons (pe_glob (v := .ref C_NoNumber) rfl cf.m_NoNumber rfl) (pa_cons (pe_glob (v := .ref C_NoPlace) rfl cf.m_NoPlace rfl) (pa_cons (pe_glob (v := .ref C_NoRow) rfl cf.m_NoRow rfl) pa_nil)))))))) pa_nil))))
      (pss_one (ps_expr (pe_bmK (K := K) rfl PySem.F.plainAttrs_list PySem.F.slot_list_append PySem.F.type_list_append mt_append (pv 2) (pa_cons (pe_or (pv 4) (pe_one (pe_callB (call_isiO (K := K) rfl hok hoc) rfl z_isinstance PyProof.Rows.boot_isinstance (pa_cons (pv 3) (pa_cons (pe_tup (pa_cons (pe_glob (v := .ref C_NoThing) rfl cf.m_NoThing rfl) (pa_cons (pe_glob (v := .ref C_NotLess) rfl cf.m_NotLess rfl) (pa_cons (pe_glob (v := .ref C_Overdrawn) rfl cf.m_Overdrawn rfl) (pa_cons (pe_glob (v := .ref C_Twice) rfl cf.m_Twice rfl) pa_nil))))) pa_nil))))) pa_nil))))))))
      (pss_one (ps_ret (pv 2))))),
      fn_run (n := 2) (k := 3) (ms_seq (ms_asg (me_lst ma_nil))
      (ms_seq (ms_tryX (cl := clM mg) (ma_cons me_var (ma_cons me_var ma_nil)) (fun c s h => by
            unfold su1_law_refused at h
            split at h
            · rename_i z; subst z; cases h; rw [clM_eq cf.m_Mixed]; exact ⟨_, rfl, cf.k_Mixed, cf.h_Mixed_CreditError⟩
            ·
              cases h) (fun c s h ea => by
            unfold su1_law_refused at h
            split at h
            · rename_i z; subst z; cases h; rw [clM_eq cf.m_Mixed]; (letI iz : Zc := ⟨ea⟩; exact (ms_seq (ms_asg (me_lst (ma_cons (me_isiX (c := .ty "ValueError") (cv := .type "ValueError") (fun u h => h) cf.i_Mixed_ValueError) (ma_cons (me_isiX (c := .ref C_Mixed) (cv := .ref C_Mixed) (fun u h => h) cf.i_Mixed_Mixed) ma_nil)))) (ms_seq (ms_asg (me_isiXt (cs := [.ref C_AtTop, .ref C_Empty, .ref C_Lacking, .ref C_NoName, .ref C_NoNumber, .ref C_NoPlace, .ref C_NoRow]) (by simp) (fun us h => vals_refs [C_AtTop, C_Empty, C_Lacking, C_NoName, C_NoNumber, C_NoPlace, C_NoRow] h) cf.t_Mixed_AtTop_Empty_Lacking_NoName_NoNumber_NoPlace_NoRow)) (ms_drop (me_mut J_append (ma_cons (me_orV me_var (me_isiXt (cs := [.ref C_NoThing, .ref C_NotLess, .ref C_Overdrawn, .ref C_Twice]) (by simp) (fun us h => vals_refs [C_NoThing, C_NotLess, C_Overdrawn, C_Twice] h) cf.t_Mixed_NoThing_NotLess_Overdrawn_Twice)) ma_nil))))))
            ·
              cases h))
      (ms_ret me_var))) rfl h⟩
theorem ok_law_mixed_up (Z : NoGl mg) (T : Top K mg "_law_mixed_up" s_law_mixed_up) (D_law_refused : Def P w K mg base CX0 8 "_law_refused" ["_law_one", "_law_other"] (spM m_law_refused)) : Def P w K mg base CX0 9 "_law_mixed_up" ["_law_one", "_law_other"] (spM m_law_mixed_up) := by
  refine T.def sc_law_mixed_up (fun vs H Q E h => spM_len h) (fun _ _ _ _ _ _ us hl => match us, hl with | [_, _], _ => rfl) fun f cdv A outer s H vs Q E hr h => ?_
  have hu := hr.units
  exact ⟨_, (pss_cons (ps_if (PW.pt (pw_or (pt_cmpR op_isN (pv 0) pe_non (nomark _)) (pw_or1 (pt_cmpR op_isN (pv 1) pe_non (nomark _)))))
      (pss_one (ps_ret (pe_cmpR (op_eqK (K := K) rfl hu) (pe_def D_law_refused (hr.mono (by omega)) (pa_cons (pv 1) (pa_cons (pv 0) pa_nil))) (pe_lst pa_nil) (nomark _))))
      pss_nil)
      (pss_one (ps_ret (pe_cmpR (op_eqK (K := K) rfl hu) (pe_def D_law_refused (hr.mono (by omega)) (pa_cons (pv 1) (pa_cons (pv 0) pa_nil))) (pe_lst (pa_cons pe_bl (pa_cons pe_bl (pa_cons pe_bl pa_nil)))) (nomark _))))),
      fn_run (n := 2) (k := 0) (ms_seq (ms_if (mt_or (mt_test (me_op J_is me_var me_non)) (mt_test (me_op J_is me_var me_non)))
      (ms_ret (me_op J_eq (me_call (ma_cons me_var (ma_cons me_var ma_nil))) (me_lst ma_nil)))
      ms_next)
      (ms_ret (me_op J_eq (me_call (ma_cons me_var (ma_cons me_var ma_nil))) (me_lst (ma_cons me_bl (ma_cons me_bl (ma_cons me_bl ma_nil))))))) rfl h⟩
theorem ok_law_never_joined (Z : NoGl mg) (T : Top K mg "_law_never_joined" s_law_never_joined) (D_law_refused : Def P w K mg base CX0 8 "_law_refused" ["_law_one", "_law_other"] (spM m_law_refused)) (D_law_of : Def P w K mg base CX0 66 "_law_of" ["_law_keys_here"] (spM m_law_of)) (D_law_mixed_up : Def P w K mg base CX0 9 "_law_mixed_up" ["_law_one", "_law_other"] (spM m_law_mixed_up)) : Def P w K mg base CX0 67 "_law_never_joined" ["_law_keys_here", "_law_order_here", "_law_at"] (spM m_law_never_joined) := by
  have z_len : mg "len" = none := Z _ (by decide +kernel)
  refine T.def sc_law_never_joined (fun vs H Q E h => spM_len h) (fun _ _ _ _ _ _ us hl => match us, hl with | [_, _, _], _ => rfl) fun f cdv A outer s H vs Q E hr h => ?_
  have hu := hr.units
  exact ⟨_, (pss_cons (ps_set (i := 3) sc_law_never_joined.nd rfl (by first | exact Or.inl rfl | exact Or.inr rfl) (pe_lst (pa_cons (pe_lc (fr := [("_law_keys_here", 0)]) rfl ⟨rfl, rfl, rfl, rfl, rfl, rfl, by decide +kernel⟩ (pi_listK (K := K) rfl (pv 1)) (fun _ _ _ _ => (pif_one (pt_cmpR (op_inK (K := K) rfl) (pv 0) (pe_slice3 (sl_list3K (K := K) rfl) (pv 1) (po_some pe_int) po_none (po_some pe_int)) rfl))) (fun _ _ _ _ => (pv 0))) (pa_cons (pe_lc (fr := [("_law_keys_here", 0)]) rfl ⟨rfl, rfl, rfl, rfl, rfl, rfl, by decide +kernel⟩ (pi_listK (K := K) rfl (pv 1)) (fun _ _ _ _ => (pif_one (pt_cmpR (op_inK (K := K) rfl) (pv 0) (pe_slice3 (sl_list3K (K := K) rfl) (pv 1) (po_some pe_int) po_none (po_some pe_int)) rfl))) (fun _ _ _ _ => (pv 0))) pa_nil))))
      (pss_cons (ps_set (i := 4) sc_law_never_joined.nd rfl (by first | exact Or.inl rfl | exact Or.inr rfl) (pe_def D_law_of (hr.mono (by omega)) (pa_cons (pe_ix (ix_seqK (K := K) rfl) (pv 3) pe_int (fun _ _ => rfl)) pa_nil)))
      (pss_cons (ps_set (i := 5) sc_law_never_joined.nd rfl (by first | exact Or.inl rfl | exact Or.inr rfl) (pe_def D_law_of (hr.mono (by omega)) (pa_cons (pe_ix (ix_seqK (K := K) rfl) (pv 3) pe_int (fun _ _ => rfl)) pa_nil)))
      (pss_cons (ps_if (PW.pt (pw_and (pt_cmpR op_gt (pe_callB (call_lenK (K := K) rfl) rfl z_len PySem.boot_len (pa_cons (pv 0) pa_nil)) pe_int (nomark _)) (pw_and1 (pt_not (PW.pt (pw_and (pt_val (pe_def D_law_mixed_up (hr.mono (by omega)) (pa_cons (pv 4) (pa_cons (pv 5) pa_nil)))) (pw_and1 (pt_val (pe_def D_law_mixed_up (hr.mono (by omega)) (pa_cons (pv 5) (pa_cons (pv 4) pa_nil)))))))))))
      (pss_one (ps_ret pe_bl))
      pss_nil)
      (pss_cons (ps_if (PW.pt (pw_or (pt_cmpR (op_eqK (K := K) rfl hu) (pe_callB (call_lenK (K := K) rfl) rfl z_len PySem.boot_len (pa_cons (pv 0) pa_nil)) pe_int (nomark _)) (pw_or1 (pt_cmpR op_gt (pe_callB (call_lenK (K := K) rfl) rfl z_len PySem.boot_len (pa_cons (pv 0) pa_nil)) pe_int (nomark _)))))
      (pss_one (ps_ret pe_bl))
      pss_nil)
      (pss_cons (ps_set (i := 6) sc_law_never_joined.nd rfl (by first | exact Or.inl rfl | exact Or.inr rfl) (pe_def D_law_of (hr.mono (by omega)) (pa_cons (pe_lc (fr := [("_law_keys_here", 0), ("_law_at", 2)]) rfl ⟨rfl, rfl, rfl, rfl, rfl, rfl, by decide +kernel⟩ (pi_listK (K := K) rfl (pv 1)) (fun _ _ _ _ => (pif_one (pt_cmpR op_le (pv 0) (pe_ix (ix_seqK (K := K) rfl) (pv 1) (pe_op op_mod (pv 2) (pe_callB (call_lenK (K := K) rfl) rfl z_len PySem.boot_len (pa_cons (pv 1) pa_nil))) (fun _ _ => rfl)) (nomark _)))) (fun _ _ _ _ => (pv 0))) pa_nil)))
      (pss_cons (ps_set (i := 7) sc_law_never_joined.nd rfl (by first | exact Or.inl rfl | exact Or.inr rfl) (pe_def D_law_of (hr.mono (by omega)) (pa_cons (pe_lc (fr := [("_law_keys_here", 0), ("_law_at", 2)]) rfl ⟨rfl, rfl, rfl, rfl, rfl, rfl, by decide +kernel⟩ (pi_listK (K := K) rfl (pv 1)) (fun _ _ _ _ => (pif_one (pt_cmpR op_ge (pv 0) (pe_ix (ix_seqK (K := K) rfl) (pv 1) (pe_op op_mod (pv 2) (pe_callB (call_lenK (K := K) rfl) rfl z_len PySem.boot_len (pa_cons (pv 1) pa_nil))) (fun _ _ => rfl)) (nomark _)))) (fun _ _ _ _ => (pv 0))) pa_nil)))
      (pss_one (ps_ret (pe_cmpR (op_eqK (K := K) rfl hu) (pe_def D_law_refused (hr.mono (by omega)) (pa_cons (pv 6) (pa_cons (pv 7) pa_nil))) (pe_lst (pa_cons pe_bl (pa_cons pe_bl (pa_cons pe_bl pa_nil)))) (nomark _))))))))))),
      fn_run (n := 3) (k := 5) (ms_seq (ms_asg (me_lst (ma_cons (me_lc (mi_list me_var) (mt_test (me_op J_in me_var (me_sl3 J_sl3 me_var (mo_some me_int) mo_none (mo_some me_int)))) me_var) (ma_cons (me_lc (mi_list me_var) (mt_test (me_op J_in me_var (me_sl3 J_sl3 me_var (mo_some me_int) mo_none (mo_some me_int)))) me_var) ma_nil))))
      (ms_seq (ms_asg (me_call (ma_cons (me_op J_ix me_var me_int) ma_nil)))
      (ms_seq (ms_asg (me_call (ma_cons (me_op J_ix me_var me_int) ma_nil)))
      (ms_seq (ms_if (mt_and (mt_test (me_op J_B0 (me_cb J_len (ma_cons me_var ma_nil)) me_int)) (mt_not (mt_and (mt_tB (me_call (ma_cons me_var (ma_cons me_var ma_nil)))) (mt_tB (me_call (ma_cons me_var (ma_cons me_var ma_nil)))))))
      (ms_ret me_bl)
      ms_next)
      (ms_seq (ms_if (mt_or (mt_test (me_op J_eq (me_cb J_len (ma_cons me_var ma_nil)) me_int)) (mt_test (me_op J_B0 (me_cb J_len (ma_cons me_var ma_nil)) me_int)))
      (ms_ret me_bl)
      ms_next)
      (ms_seq (ms_asg (me_call (ma_cons (me_lc (mi_list me_var) (mt_test (me_op J_B0 me_var (me_op J_ix me_var (me_op J_I me_var (me_cb J_len (ma_cons me_var ma_nil)))))) me_var) ma_nil)))
      (ms_seq (ms_asg (me_call (ma_cons (me_lc (mi_list me_var) (mt_test (me_op J_B0 me_var (me_op J_ix me_var (me_op J_I me_var (me_cb J_len (ma_cons me_var ma_nil)))))) me_var) ma_nil)))
      (ms_ret (me_op J_eq (me_call (ma_cons me_var (ma_cons me_var ma_nil))) (me_lst (ma_cons me_bl (ma_cons me_bl (ma_cons me_bl ma_nil))))))))))))) rfl h⟩
theorem ok_way_to (Z : NoGl mg) (T : Top K mg "way_to" s_way_to) (D_parts_to : Def P w K mg base CX0 1 "parts_to" ["tree", "number"] (spM m_parts_to)) : Def P w K mg base CX0 2 "way_to" ["tree", "number"] (spM m_way_to) := by
  refine T.def sc_way_to (fun vs H Q E h => spM_len h) (fun _ _ _ _ _ _ us hl => match us, hl with | [_, _], _ => rfl) fun f cdv A outer s H vs Q E hr h => ?_
  have hu := hr.units
  exact ⟨_, (pss_one (ps_ret (pe_lc (fr := []) rfl ⟨rfl, rfl, rfl, rfl, rfl, rfl, by decide +kernel⟩ (pi_listK (K := K) rfl (pe_def D_parts_to (hr.mono (by omega)) (pa_cons (pv 0) (pa_cons (pv 1) pa_nil)))) (fun _ _ _ _ => pif_nil) (fun _ _ _ _ => (pe_ix (ix_seqK (K := K) rfl) (pv 0) pe_int (fun _ _ => rfl)))))),
      fn_run (n := 2) (k := 0) (ms_ret (me_lc (mi_list (me_call (ma_cons me_var (ma_cons me_var ma_nil)))) mt_yes (me_op J_ix me_var me_int))) rfl h⟩
theorem ok_ask_tree (Z : NoGl mg) (T : Top K mg "ask_tree" s_ask_tree) (D_turn_up : Def P w K mg base CX0 6 "turn_up" ["tree", "key"] (spM m_turn_up)) (D_way_to : Def P w K mg base CX0 2 "way_to" ["tree", "number"] (spM m_way_to)) : Def P w K mg base CX0 7 "ask_tree" ["tree", "number"] (spM m_ask_tree) := by
  refine T.def sc_ask_tree (fun vs H Q E h => spM_len h) (fun _ _ _ _ _ _ us hl => match us, hl with | [_, _], _ => rfl) fun f cdv A outer s H vs Q E hr h => ?_
  have hu := hr.units
  exact ⟨_, (pss_cons (ps_if (pt_cmpR op_isN (pv 0) pe_non (nomark _))
      (pss_one (ps_ret (pe_tup (pa_cons pe_bl (pa_cons pe_non (pa_cons (pe_lst pa_nil) pa_nil))))))
      pss_nil)
      (pss_cons (ps_set (i := 2) sc_ask_tree.nd rfl (by first | exact Or.inl rfl | exact Or.inr rfl) (pe_def D_turn_up (hr.mono (by omega)) (pa_cons (pv 0) (pa_cons (pe_ix (ix_seqK (K := K) rfl) (pe_def D_way_to (hr.mono (by omega)) (pa_cons (pv 0) (pa_cons (pv 1) pa_nil))) (pe_un un_neg pe_int) (fun _ _ => rfl)) pa_nil))))
      (pss_one (ps_ret (pe_tup (pa_cons (pe_cmpR (op_eqK (K := K) rfl hu) (pe_ix (ix_seqK (K := K) rfl) (pe_ix (ix_seqK (K := K) rfl) (pv 2) pe_int (fun _ _ => rfl)) pe_int (fun _ _ => rfl)) (pv 1) (nomark _)) (pa_cons (pe_ix (ix_seqK (K := K) rfl) (pv 2) pe_int (fun _ _ => rfl)) (pa_cons (pe_ix (ix_seqK (K := K) rfl) (pv 2) pe_int (fun _ _ => rfl)) pa_nil)))))))),
      fn_run (n := 2) (k := 1) (ms_seq (ms_if (mt_test (me_op J_is me_var me_non))
      (ms_ret (me_tup (ma_cons me_bl (ma_cons me_non (ma_cons (me_lst ma_nil) ma_nil)))))
      ms_next)
      (ms_seq (ms_asg (me_call (ma_cons me_var (ma_cons (me_op J_ix (me_call (ma_cons me_var (ma_cons me_var ma_nil))) (me_un J_neg me_int)) ma_nil))))
      (ms_ret (me_tup (ma_cons (me_op J_eq (me_op J_ix (me_op J_ix me_var me_int) me_int) me_var) (ma_cons (me_op J_ix me_var me_int) (ma_cons (me_op J_ix me_var me_int) ma_nil))))))) rfl h⟩
theorem ok_parted (Z : NoGl mg) (T : Top K mg "parted" s_parted) (D_tree_of : Def P w K mg base CX0 2 "tree_of" ["left", "key", "right"] (spM m_tree_of)) : Def P w K mg base CX0 3 "parted" ["whole", "number"] (spM m_parted) := by
  refine T.def sc_parted (fun vs H Q E h => spM_len h) (fun _ _ _ _ _ _ us hl => match us, hl with | [_, _], _ => rfl) fun f cdv A outer s H vs Q E hr h => ?_
  have hu := hr.units
  exact ⟨_, (pss_cons (ps_if (pt_cmpR op_isN (pv 0) pe_non (nomark _))
      (pss_one (ps_ret (pe_tup (pa_cons pe_non (pa_cons pe_non pa_nil)))))
      pss_nil)
      (pss_cons (ps_if (pt_cmpR op_lt (pe_ix (ix_seqK (K := K) rfl) (pv 0) pe_int (fun _ _ => rfl)) (pv 1) (nomark _))
      (pss_one (ps_ret (pe_tup (pa_cons (pe_def D_tree_of (hr.mono (by omega)) (pa_cons (pe_ix (ix_seqK (K := K) rfl) (pv 0) pe_int (fun _ _ => rfl)) (pa_cons (pe_ix (ix_seqK (K := K) rfl) (pv 0) pe_int (fun _ _ => rfl)) (pa_cons pe_non pa_nil)))) (pa_cons (pe_ix (ix_seqK (K := K) rfl) (pv 0) pe_int (fun _ _ => rfl)) pa_nil)))))
      pss_nil)
      (pss_one (ps_ret (pe_tup (pa_cons (pe_ix (ix_seqK (K := K) rfl) (pv 0) pe_int (fun _ _ => rfl)) (pa_cons (pe_def D_tree_of (hr.mono (by omega)) (pa_cons pe_non (pa_cons (pe_ix (ix_seqK (K := K) rfl) (pv 0) pe_int (fun _ _ => rfl)) (pa_cons (pe_ix (ix_seqK (K := K) rfl) (pv 0) pe_int (fun _ _ => rfl)) pa_nil)))) pa_nil))))))),
      fn_run (n := 2) (k := 0) (ms_seq (ms_if (mt_test (me_op J_is me_var me_non))
      (ms_ret (me_tup (ma_cons me_non (ma_cons me_non ma_nil))))
      ms_next)
      (ms_seq (ms_if (mt_test (me_op J_B0 (me_op J_ix me_var me_int) me_var))
      (ms_ret (me_tup (ma_cons (me_call (ma_cons (me_op J_ix me_var me_int) (ma_cons (me_op J_ix me_var me_int) (ma_cons me_non ma_nil)))) (ma_cons (me_op J_ix me_var me_int) ma_nil))))
      ms_next)
      (ms_ret (me_tup (ma_cons (me_op J_ix me_var me_int) (ma_cons (me_call (ma_cons me_non (ma_cons (me_op J_ix me_var me_int) (ma_cons (me_op J_ix me_var me_int) ma_nil)))) ma_nil)))))) rfl h⟩
theorem ok_cut_tree (Z : NoGl mg) (T : Top K mg "cut_tree" s_cut_tree) (D_parted : Def P w K mg base CX0 3 "parted" ["whole", "number"] (spM m_parted)) (D_ask_tree : Def P w K mg base CX0 7 "ask_tree" ["tree", "number"] (spM m_ask_tree)) : Def P w K mg base CX0 8 "cut_tree" ["tree", "number"] (spM m_cut_tree) := by
  refine T.def sc_cut_tree (fun vs H Q E h => spM_len h) (fun _ _ _ _ _ _ us hl => match us, hl with | [_, _], _ => rfl) fun f cdv A outer s H vs Q E hr h => ?_
  have hu := hr.units
  exact ⟨_, (pss_cons (ps_set (i := 2) sc_cut_tree.nd rfl (by first | exact Or.inl rfl | exact Or.inr rfl) (pe_def D_ask_tree (hr.mono (by omega)) (pa_cons (pv 0) (pa_cons (pv 1) pa_nil))))
      (pss_cons (ps_set (i := 3) sc_cut_tree.nd rfl (by first | exact Or.inl rfl | exact Or.inr rfl) (pe_def D_parted (hr.mono (by omega)) (pa_cons (pe_ix (ix_seqK (K := K) rfl) (pv 2) pe_int (fun _ _ => rfl)) (pa_cons (pv 1) pa_nil))))
      (pss_one (ps_ret (pe_tup (pa_cons (pe_ix (ix_seqK (K := K) rfl) (pv 3) pe_int (fun _ _ => rfl)) (pa_cons (pe_ix (ix_seqK (K := K) rfl) (pv 3) pe_int (fun _ _ => rfl)) (pa_cons (pe_ix (ix_seqK (K := K) rfl) (pv 2) pe_int (fun _ _ => rfl)) pa_nil)))))))),
      fn_run (n := 2) (k := 2) (ms_seq (ms_asg (me_call (ma_cons me_var (ma_cons me_var ma_nil))))
      (ms_seq (ms_asg (me_call (ma_cons (me_op J_ix me_var me_int) (ma_cons me_var ma_nil))))
      (ms_ret (me_tup (ma_cons (me_op J_ix me_var me_int) (ma_cons (me_op J_ix me_var me_int) (ma_cons (me_op J_ix me_var me_int) ma_nil))))))) rfl h⟩
theorem ok_law_node (Z : NoGl mg) (T : Top K mg "_law_node" s_law_node)  : Def P w K mg base CX0 1 "_law_node" ["_law_left", "_law_key", "_law_right"] (spM m_law_node) := by
  refine T.def sc_law_node (fun vs H Q E h => spM_len h) (fun _ _ _ _ _ _ us hl => match us, hl with | [_, _, _], _ => rfl) fun f cdv A outer s H vs Q E hr h => ?_
  have hu := hr.units
  exact ⟨_, (pss_cons (ps_set (i := 3) sc_law_node.nd rfl (by first | exact Or.inl rfl | exact Or.inr rfl) pe_int)
      (pss_cons (ps_for PassesOwn.never rfl (pi_listK (K := K) rfl (pe_lst (pa_cons (pv 0) (pa_cons (pv 2) pa_nil)))) (pg_name (i := 4) sc_law_node.nd rfl (by first | exact Or.inl rfl | exact Or.inr rfl))
      (pss_one (ps_if (pt_cmpR op_notN (pv 4) pe_non (nomark _))
      (pss_one (ps_set (i := 3) sc_law_node.nd rfl (by first | exact Or.inl rfl | exact Or.inr rfl) (pe_op (op_addK (K := K) rfl) (pv 3) (pe_ix (ix_seqK (K := K) rfl) (pv 4) pe_int (fun _ _ => rfl)))))
      pss_nil)))
      (pss_one (ps_ret (pe_tup (pa_cons (pv 0) (pa_cons (pv 1) (pa_cons (pv 2) (pa_cons (pv 3) pa_nil))))))))),
      fn_run (n := 3) (k := 2) (ms_seq (ms_asg me_int)
      (ms_seq (ms_for (mf_list (me_lst (ma_cons me_var (ma_cons me_var ma_nil)))) mg_name
      (ms_if (mt_test (me_op J_isNot me_var me_non))
      (ms_asg (me_op J_add me_var (me_op J_ix me_var me_int)))
      ms_next))
      (ms_ret (me_tup (ma_cons me_var (ma_cons me_var (ma_cons me_var (ma_cons me_var ma_nil)))))))) rfl h⟩
theorem ok_law_parted (Z : NoGl mg) (T : Top K mg "_law_parted" s_law_parted) (D_law_node : Def P w K mg base CX0 1 "_law_node" ["_law_left", "_law_key", "_law_right"] (spM m_law_node)) : Def P w K mg base CX0 2 "_law_parted" ["_law_top", "_law_number_here"] (spM m_law_parted) := by
  refine T.def sc_law_parted (fun vs H Q E h => spM_len h) (fun _ _ _ _ _ _ us hl => match us, hl with | [_, _], _ => rfl) fun f cdv A outer s H vs Q E hr h => ?_
  have hu := hr.units
  exact ⟨_, (pss_cons (ps_if (pt_cmpR op_isN (pv 0) pe_non (nomark _))
      (pss_one (ps_ret (pe_tup (pa_cons pe_non (pa_cons pe_non pa_nil)))))
      pss_nil)
      (pss_cons (ps_if (pt_cmpR op_lt (pe_ix (ix_seqK (K := K) rfl) (pv 0) pe_int (fun _ _ => rfl)) (pv 1) (nomark _))
      (pss_one (ps_ret (pe_tup (pa_cons (pe_def D_law_node (hr.mono (by omega)) (pa_cons (pe_ix (ix_seqK (K := K) rfl) (pv 0) pe_int (fun _ _ => rfl)) (pa_cons (pe_ix (ix_seqK (K := K) rfl) (pv 0) pe_int (fun _ _ => rfl)) (pa_cons pe_non pa_nil)))) (pa_cons (pe_ix (ix_seqK (K := K) rfl) (pv 0) pe_int (fun _ _ => rfl)) pa_nil)))))
      pss_nil)
      (pss_one (ps_ret (pe_tup (pa_cons (pe_ix (ix_seqK (K := K) rfl) (pv 0) pe_int (fun _ _ => rfl)) (pa_cons (pe_def D_law_node (hr.mono (by omega)) (pa_cons pe_non (pa_cons (pe_ix (ix_seqK (K := K) rfl) (pv 0) pe_int (fun _ _ => rfl)) (pa_cons (pe_ix (ix_seqK (K := K) rfl) (pv 0) pe_int (fun _ _ => rfl)) pa_nil)))) pa_nil))))))),
      fn_run (n := 2) (k := 0) (ms_seq (ms_if (mt_test (me_op J_is me_var me_non))
      (ms_ret (me_tup (ma_cons me_non (ma_cons me_non ma_nil))))
      ms_next)
      (ms_seq (ms_if (mt_test (me_op J_B0 (me_op J_ix me_var me_int) me_var))
      (ms_ret (me_tup (ma_cons (me_call (ma_cons (me_op J_ix me_var me_int) (ma_cons (me_op J_ix me_var me_int) (ma_cons me_non ma_nil)))) (ma_cons (me_op J_ix me_var me_int) ma_nil))))
      ms_next)
      (ms_ret (me_tup (ma_cons (me_op J_ix me_var me_int) (ma_cons (me_call (ma_cons me_non (ma_cons (me_op J_ix me_var me_int) (ma_cons (me_op J_ix me_var me_int) ma_nil)))) ma_nil)))))) rfl h⟩
theorem ok_law_paid (Z : NoGl mg) (T : Top K mg "_law_paid" s_law_paid)  : Def P w K mg base CX0 1 "_law_paid" ["_law_ahead", "_law_trail_here", "_law_behind", "_law_price"] (spM m_law_paid) := by
  have z_len : mg "len" = none := Z _ (by decide +kernel)
  refine T.def sc_law_paid (fun vs H Q E h => spM_len h) (fun _ _ _ _ _ _ us hl => match us, hl with | [_, _, _, _], _ => rfl) fun f cdv A outer s H vs Q E hr h => ?_
  have hu := hr.units
  exact ⟨_, (pss_one (ps_ret (pe_cmpR op_le (pe_op (op_addK (K := K) rfl) (pe_callB (call_lenK (K := K) rfl) rfl z_len PySem.boot_len (pa_cons (pv 1) pa_nil)) (pv 2)) (pe_op (op_addK (K := K) rfl) (pv 0) (pv 3)) (nomark _)))),
      fn_run (n := 4) (k := 0) (ms_ret (me_op J_B0 (me_op J_add (me_cb J_len (ma_cons me_var ma_nil)) me_var) (me_op J_add me_var me_var))) rfl h⟩
theorem ok_law_whole (Z : NoGl mg) (T : Top K mg "_law_whole" s_law_whole)  : Def P w K mg base CX0 1 "_law_whole" ["_law_found"] (spM m_law_whole) := by
  have z_bool : mg "bool" = none := Z _ (by decide +kernel)
  have z_isinstance : mg "isinstance" = none := Z _ (by decide +kernel)
  have z_int : mg "int" = none := Z _ (by decide +kernel)
  refine T.def sc_law_whole (fun vs H Q E h => spM_len h) (fun _ _ _ _ _ _ us hl => match us, hl with | [_], _ => rfl) fun f cdv A outer s H vs Q E hr h => ?_
  have hu := hr.units
  exact ⟨_, (pss_one (ps_ret (pe_and (pe_callB call_isi rfl z_isinstance PyProof.Rows.boot_isinstance (pa_cons (pv 0) (pa_cons (pe_ty z_int PyProof.Rows.boot_int) pa_nil))) (pe_one (pe_not (pe_callB call_isi rfl z_isinstance PyProof.Rows.boot_isinstance (pa_cons (pv 0) (pa_cons (pe_ty z_bool PyProof.Rows.boot_bool) pa_nil)))))))),
      fn_run (n := 1) (k := 0) (ms_ret (me_andV (me_isi me_var) (me_notV (me_isi me_var)))) rfl h⟩
theorem ok_law_alike (Z : NoGl mg) (T : Top K mg "_law_alike" s_law_alike) (D_law_whole : Def P w K mg base CX0 1 "_law_whole" ["_law_found"] (spM m_law_whole)) : ∀ n, Def P w K mg base CX0 (2 + n) "_law_alike" ["_law_found", "_law_due"] (spM (m_law_alike n))
  | 0 => T.def sc_law_alike (fun vs H Q E h => by obtain ⟨_, _, _, _, _, _, _, e, _⟩ := h; cases e) (fun _ _ _ _ _ _ us hl => match us, hl with | [_, _], _ => rfl) fun f cdv A outer s H vs Q E hr h => by obtain ⟨_, _, _, _, _, _, _, e, _⟩ := h; cases e
  | n + 1 => by
    have D_law_alike := ok_law_alike Z T D_law_whole n
    have z_len : mg "len" = none := Z _ (by decide +kernel)
    have z_tuple : mg "tuple" = none := Z _ (by decide +kernel)
    have z_isinstance : mg "isinstance" = none := Z _ (by decide +kernel)
    refine T.def sc_law_alike (fun vs H Q E h => spM_len h) (fun _ _ _ _ _ _ us hl => match us, hl with | [_, _], _ => rfl) fun f cdv A outer s H vs Q E hr h => ?_
    have hu := hr.units
    exact ⟨_, (pss_cons (ps_if (PW.pt (pw_or (pt_cmpR op_isN (pv 0) pe_non (nomark _)) (pw_or1 (pt_cmpR op_isN (pv 1) pe_non (nomark _)))))
      (pss_one (ps_ret (pe_and (pe_cmpR op_isN (pv 0) pe_non (nomark _)) (pe_one (pe_cmpR op_isN (pv 1) pe_non (nomark _))))))
      pss_nil)
      (pss_cons (ps_if (PW.pt (pw_or (pt_not (pt_val (pe_callB call_isi rfl z_isinstance PyProof.Rows.boot_isinstance (pa_cons (pv 0) (pa_cons (pe_ty z_tuple PyProof.Rows.boot_tuple) pa_nil))))) (pw_or1 (pt_cmpR (op_neK (K := K) rfl hu) (pe_callB (call_lenK (K := K) rfl) rfl z_len PySem.boot_len (pa_cons (pv 0) pa_nil)) pe_int (nomark _)))))
      (pss_one (ps_ret pe_bl))
      pss_nil)
      (pss_cons (ps_if (PW.pt (pw_or (pt_not (pt_val (pe_def D_law_whole (hr.mono (by first | omega | (show _ ≤ _ + n; omega))) (pa_cons (pe_ix (ix_seqK (K := K) rfl) (pv 0) pe_int (fun _ _ => rfl)) pa_nil)))) (pw_or (pt_not (pt_val (pe_def D_law_whole (hr.mono (by first | omega | (show _ ≤ _ + n; omega))) (pa_cons (pe_ix (ix_seqK (K := K) rfl) (pv 0) pe_int (fun _ _ => rfl)) pa_nil)))) (pw_or (pt_cmpR (op_neK (K := K) rfl hu) (pe_ix (ix_seqK (K := K) rfl) (pv 0) pe_int (fun _ _ => rfl)) (pe_ix (ix_seqK (K := K) rfl) (pv 1) pe_int (fun _ _ => rfl)) (nomark _)) (pw_or1 (pt_cmpR (op_neK (K := K) rfl hu) (pe_ix (ix_seqK (K := K) rfl) (pv 0) pe_int (fun _ _ => rfl)) (pe_ix (ix_seqK (K := K) rfl) (pv 1) pe_int (fun _ _ => rfl)) (nomark _)))))))
      (pss_one (ps_ret pe_bl))
      pss_nil)
      (pss_one (ps_ret (pe_and (pe_def D_law_alike (hr.mono (Nat.le_refl _)) (pa_cons (pe_ix (ix_seqK (K := K) rfl) (pv 0) pe_int (fun _ _ => rfl)) (pa_cons (pe_ix (ix_seqK (K := K) rfl) (pv 1) pe_int (fun _ _ => rfl)) pa_nil))) (pe_one (pe_def D_law_alike (hr.mono (Nat.le_refl _)) (pa_cons (pe_ix (ix_seqK (K := K) rfl) (pv 0) pe_int (fun _ _ => rfl)) (pa_cons (pe_ix (ix_seqK (K := K) rfl) (pv 1) pe_int (fun _ _ => rfl)) pa_nil)))))))))),
      fn_run (n := 2) (k := 0) (ms_seq (ms_if (mt_or (mt_test (me_op J_is me_var me_non)) (mt_test (me_op J_is me_var me_non)))
      (ms_ret (me_andV (me_op J_is me_var me_non) (me_op J_is me_var me_non)))
      ms_next)
      (ms_seq (ms_if (mt_or (mt_not (mt_tB (me_isi me_var))) (mt_test (me_op J_ne (me_cb J_len (ma_cons me_var ma_nil)) me_int)))
      (ms_ret me_bl)
      ms_next)
      (ms_seq (ms_if (mt_or (mt_not (mt_tB (me_call (ma_cons (me_op J_ix me_var me_int) ma_nil)))) (mt_or (mt_not (mt_tB (me_call (ma_cons (me_op J_ix me_var me_int) ma_nil)))) (mt_or (mt_test (me_op J_ne (me_op J_ix me_var me_int) (me_op J_ix me_var me_int))) (mt_test (me_op J_ne (me_op J_ix me_var me_int) (me_op J_ix me_var me_int))))))
      (ms_ret me_bl)
      ms_next)
      (ms_ret (me_andV (me_call (ma_cons (me_op J_ix me_var me_int) (ma_cons (me_op J_ix me_var me_int) ma_nil))) (me_call (ma_cons (me_op J_ix me_var me_int) (ma_cons (me_op J_ix me_var me_int) ma_nil)))))))) rfl h⟩
theorem ok_law_credit (Z : NoGl mg) (T : Top K mg "_law_credit" s_law_credit)  : ∀ n, Def P w K mg base CX0 (1 + n) "_law_credit" ["_law_tree"] (spM (m_law_credit n))
  | 0 => T.def sc_law_credit (fun vs H Q E h => by obtain ⟨_, _, _, _, _, _, _, e, _⟩ := h; cases e) (fun _ _ _ _ _ _ us hl => match us, hl with | [_], _ => rfl) fun f cdv A outer s H vs Q E hr h => by obtain ⟨_, _, _, _, _, _, _, e, _⟩ := h; cases e
  | n + 1 => by
    have D_law_credit := ok_law_credit Z T  n
    refine T.def sc_law_credit (fun vs H Q E h => spM_len h) (fun _ _ _ _ _ _ us hl => match us, hl with | [_], _ => rfl) fun f cdv A outer s H vs Q E hr h => ?_
    have hu := hr.units
    exact ⟨_, (pss_cons (ps_if (pt_cmpR op_isN (pv 0) pe_non (nomark _))
      (pss_one (ps_ret pe_int))
      pss_nil)
      (pss_one (ps_ret (pe_op (op_addK (K := K) rfl) (pe_op (op_addK (K := K) rfl) (pe_def D_law_credit (hr.mono (Nat.le_refl _)) (pa_cons (pe_ix (ix_seqK (K := K) rfl) (pv 0) pe_int (fun _ _ => rfl)) pa_nil)) (pe_bm0K (K := K) rfl PySem.F.plainAttrs_int PySem.F.slot_int_bit_length PySem.F.type_int_bit_length mt_bits (pe_ix (ix_seqK (K := K) rfl) (pv 0) pe_int (fun _ _ => rfl)))) (pe_def D_law_credit (hr.mono (Nat.le_refl _)) (pa_cons (pe_ix (ix_seqK (K := K) rfl) (pv 0) pe_int (fun _ _ => rfl)) pa_nil)))))),
      fn_run (n := 1) (k := 0) (ms_seq (ms_if (mt_test (me_op J_is me_var me_non))
      (ms_ret me_int)
      ms_next)
      (ms_ret (me_op J_add (me_op J_add (me_call (ma_cons (me_op J_ix me_var me_int) ma_nil)) (me_bm0 J_bits (me_op J_ix me_var me_int))) (me_call (ma_cons (me_op J_ix me_var me_int) ma_nil))))) rfl h⟩
theorem ok_law_many (Z : NoGl mg) (T : Top K mg "_law_many" s_law_many)  : Def P w K mg base CX0 1 "_law_many" ["_law_tree"] (spM m_law_many) := by
  refine T.def sc_law_many (fun vs H Q E h => spM_len h) (fun _ _ _ _ _ _ us hl => match us, hl with | [_], _ => rfl) fun f cdv A outer s H vs Q E hr h => ?_
  have hu := hr.units
  exact ⟨_, (pss_cons (ps_if (pt_cmpR op_isN (pv 0) pe_non (nomark _))
      (pss_one (ps_ret pe_int))
      pss_nil)
      (pss_one (ps_ret (pe_ix (ix_seqK (K := K) rfl) (pv 0) pe_int (fun _ _ => rfl))))),
      fn_run (n := 1) (k := 0) (ms_seq (ms_if (mt_test (me_op J_is me_var me_non))
      (ms_ret me_int)
      ms_next)
      (ms_ret (me_op J_ix me_var me_int))) rfl h⟩
theorem ok_law_cut_right (Z : NoGl mg) (T : Top K mg "_law_cut_right" s_law_cut_right) (D_law_paid : Def P w K mg base CX0 1 "_law_paid" ["_law_ahead", "_law_trail_here", "_law_behind", "_law_price"] (spM m_law_paid)) (D_law_credit : Def P w K mg base CX0 65 "_law_credit" ["_law_tree"] (spM (m_law_credit 64))) (D_law_many : Def P w K mg base CX0 1 "_law_many" ["_law_tree"] (spM m_law_many)) (D_law_alike : Def P w K mg base CX0 66 "_law_alike" ["_law_found", "_law_due"] (spM (m_law_alike 64))) (D_law_parted : Def P w K mg base CX0 2 "_law_parted" ["_law_top", "_law_number_here"] (spM m_law_parted)) (D_ask_tree : Def P w K mg base CX0 7 "ask_tree" ["tree", "number"] (spM m_ask_tree)) (D_cut_tree : Def P w K mg base CX0 8 "cut_tree" ["tree", "number"] (spM m_cut_tree)) : Def P w K mg base CX0 67 "_law_cut_right" ["_law_tree", "_law_number_here"] (spM m_law_cut_right) := by
  have z_max : mg "max" = none := Z _ (by decide +kernel)
  have z_len : mg "len" = none := Z _ (by decide +kernel)
  have z_tuple : mg "tuple" = none := Z _ (by decide +kernel)
  have z_isinstance : mg "isinstance" = none := Z _ (by decide +kernel)
  refine T.def sc_law_cut_right (fun vs H Q E h => spM_len h) (fun _ _ _ _ _ _ us hl => match us, hl with | [_, _], _ => rfl) fun f cdv A outer s H vs Q E hr h => ?_
  have hu := hr.units
  exact ⟨_, (pss_cons (ps_set (i := 2) sc_law_cut_right.nd rfl (by first | exact Or.inl rfl | exact Or.inr rfl) (pe_def D_cut_tree (hr.mono (by omega)) (pa_cons (pv 0) (pa_cons (pv 1) pa_nil))))
      (pss_cons (ps_if (PW.pt (pw_or (pt_not (pt_val (pe_callB call_isi rfl z_isinstance PyProof.Rows.boot_isinstance (pa_cons (pv 2) (pa_cons (pe_ty z_tuple PyProof.Rows.boot_tuple) pa_nil))))) (pw_or1 (pt_cmpR (op_neK (K := K) rfl hu) (pe_callB (call_lenK (K := K) rfl) rfl z_len PySem.boot_len (pa_cons (pv 2) pa_nil)) pe_int (nomark _)))))
      (pss_one (ps_ret pe_non))
      pss_nil)
      (pss_cons (ps_asg (pe_def D_ask_tree (hr.mono (by omega)) (pa_cons (pv 0) (pa_cons (pv 1) pa_nil))) (pg_tupL rfl (pgs_cons (pg_name (i := 3) sc_law_cut_right.nd rfl (by first | exact Or.inl rfl | exact Or.inr rfl)) (pgs_cons (pg_name (i := 4) sc_law_cut_right.nd rfl (by first | exact Or.inl rfl | exact Or.inr rfl)) (pgs_cons (pg_name (i := 5) sc_law_cut_right.nd rfl (by first | exact Or.inl rfl | exact Or.inr rfl)) pgs_nil)))))
      (pss_cons (ps_asg (pe_def D_law_parted (hr.mono (by omega)) (pa_cons (pv 4) (pa_cons (pv 1) pa_nil))) (pg_tupL rfl (pgs_cons (pg_name (i := 6) sc_law_cut_right.nd rfl (by first | exact Or.inl rfl | exact Or.inr rfl)) (pgs_cons (pg_name (i := 7) sc_law_cut_right.nd rfl (by first | exact Or.inl rfl | exact Or.inr rfl)) pgs_nil))))
      (pss_cons (ps_if (PW.pt (pw_or (pt_cmpR (op_neK (K := K) rfl hu) (pe_ix (ix_seqK (K := K) rfl) (pv 2) pe_int (fun _ _ => rfl)) (pv 5) (nomark _)) (pw_or (pt_not (pt_val (pe_def D_law_alike (hr.mono (by omega)) (pa_cons (pe_ix (ix_seqK (K := K) rfl) (pv 2) pe_int (fun _ _ => rfl)) (pa_cons (pv 6) pa_nil))))) (pw_or1 (pt_not (pt_val (pe_def D_law_alike (hr.mono (by omega)) (pa_cons (pe_ix (ix_seqK (K := K) rfl) (pv 2) pe_int (fun _ _ => rfl)) (pa_cons (pv 7) pa_nil)))))))))
      (pss_one (ps_ret pe_non))
      pss_nil)
      (pss_cons (ps_set (i := 8) sc_law_cut_right.nd rfl (by first | exact Or.inl rfl | exact Or.inr rfl) (pe_callB (call_max2 rfl) rfl z_max PyProof.Rows.boot_max (pa_cons pe_int (pa_cons (pe_op op_sub (pe_op op_mulM pe_int (pe_bm0K (K := K) rfl PySem.F.plainAttrs_int PySem.F.slot_int_bit_length PySem.F.type_int_bit_length mt_bits (pe_def D_law_many (hr.mono (by omega)) (pa_cons (pv 0) pa_nil)))) pe_int) pa_nil))))
      (pss_cons (ps_if (pt_not (pt_val (pe_def D_law_paid (hr.mono (by omega)) (pa_cons (pe_def D_law_credit (hr.mono (by omega)) (pa_cons (pv 0) pa_nil)) (pa_cons (pv 5) (pa_cons (pe_op (op_addK (K := K) rfl) (pe_def D_law_credit (hr.mono (by omega)) (pa_cons (pv 6) pa_nil)) (pe_def D_law_credit (hr.mono (by omega)) (pa_cons (pv 7) pa_nil))) (pa_cons (pv 8) pa_nil)))))))
      (pss_one (ps_ret pe_non))
      pss_nil)
      (pss_one (ps_ret (pe_tup (pa_cons (pv 6) (pa_cons (pv 7) pa_nil)))))))))))),
      fn_run (n := 2) (k := 7) (ms_seq (ms_asg (me_call (ma_cons me_var (ma_cons me_var ma_nil))))
      (ms_seq (ms_if (mt_or (mt_not (mt_tB (me_isi me_var))) (mt_test (me_op J_ne (me_cb J_len (ma_cons me_var ma_nil)) me_int)))
      (ms_ret me_non)
      ms_next)
      (ms_seq (ms_asgG (me_call (ma_cons me_var (ma_cons me_var ma_nil))) (mg_tupL (mgs_cons mg_name (mgs_cons mg_name (mgs_cons mg_name mgs_nil)))))
      (ms_seq (ms_asgG (me_call (ma_cons me_var (ma_cons me_var ma_nil))) (mg_tupL (mgs_cons mg_name (mgs_cons mg_name mgs_nil))))
      (ms_seq (ms_if (mt_or (mt_test (me_op J_ne (me_op J_ix me_var me_int) me_var)) (mt_or (mt_not (mt_tB (me_call (ma_cons (me_op J_ix me_var me_int) (ma_cons me_var ma_nil))))) (mt_not (mt_tB (me_call (ma_cons (me_op J_ix me_var me_int) (ma_cons me_var ma_nil)))))))
      (ms_ret me_non)
      ms_next)
      (ms_seq (ms_asg (me_cb J_max (ma_cons me_int (ma_cons (me_op J_I0 (me_op J_mul me_int (me_bm0 J_bits (me_call (ma_cons me_var ma_nil)))) me_int) ma_nil))))
      (ms_seq (ms_if (mt_not (mt_tB (me_call (ma_cons (me_call (ma_cons me_var ma_nil)) (ma_cons me_var (ma_cons (me_op J_add (me_call (ma_cons me_var ma_nil)) (me_call (ma_cons me_var ma_nil))) (ma_cons me_var ma_nil)))))))
      (ms_ret me_non)
      ms_next)
      (ms_ret (me_tup (ma_cons me_var (ma_cons me_var ma_nil))))))))))) rfl h⟩
theorem ok_law_line (Z : NoGl mg) (T : Top K mg "_law_line" s_law_line)  : Def P w K mg base CX0 1 "_law_line" ["_law_tree", "_law_key"] (spM m_law_line) := by
  have z_int : mg "int" = none := Z _ (by decide +kernel)
  refine T.def sc_law_line (fun vs H Q E h => spM_len h) (fun _ _ _ _ _ _ us hl => match us, hl with | [_, _], _ => rfl) fun f cdv A outer s H vs Q E hr h => ?_
  have hu := hr.units
  exact ⟨_, (pss_cons (ps_set (i := 2) sc_law_line.nd rfl (by first | exact Or.inl rfl | exact Or.inr rfl) (pe_lst (pa_cons (pv 0) pa_nil)))
      (pss_cons (ps_while PassesOwn.never (pt_cmpR (op_neK (K := K) rfl hu) (pe_ix (ix_seqK (K := K) rfl) (pe_ix (ix_seqK (K := K) rfl) (pv 2) (pe_un un_neg pe_int) (fun _ _ => rfl)) pe_int (fun _ _ => rfl)) (pv 1) (nomark _))
      (pss_one (ps_expr (pe_bmK (K := K) rfl PySem.F.plainAttrs_list PySem.F.slot_list_append PySem.F.type_list_append mt_append (pv 2) (pa_cons (pe_ix (ix_seqK (K := K) rfl) (pe_ix (ix_seqK (K := K) rfl) (pv 2) (pe_un un_neg pe_int) (fun _ _ => rfl)) (pe_op op_mulM pe_int (pe_callTy call_int1 rfl z_int PyProof.Rows.boot_int (pa_cons (pe_cmpR op_gt (pv 1) (pe_ix (ix_seqK (K := K) rfl) (pe_ix (ix_seqK (K := K) rfl) (pv 2) (pe_un un_neg pe_int) (fun _ _ => rfl)) pe_int (fun _ _ => rfl)) (nomark _)) pa_nil))) (fun _ _ => rfl)) pa_nil)))))
      (pss_one (ps_ret (pv 2))))),
      fn_run (n := 2) (k := 1) (ms_seq (ms_asg (me_lst (ma_cons me_var ma_nil)))
      (ms_seq (ms_while (mt_test (me_op J_ne (me_op J_ix (me_op J_ix me_var (me_un J_neg me_int)) me_int) me_var))
      (ms_drop (me_mut J_append (ma_cons (me_op J_ix (me_op J_ix me_var (me_un J_neg me_int)) (me_op J_mul me_int (me_cb J_int (ma_cons (me_op J_B0 me_var (me_op J_ix (me_op J_ix me_var (me_un J_neg me_int)) me_int)) ma_nil)))) ma_nil))))
      (ms_ret me_var))) rfl h⟩
theorem ok_law_pieces (Z : NoGl mg) (T : Top K mg "_law_pieces" s_law_pieces)  : ∀ n, Def P w K mg base CX0 (1 + n) "_law_pieces" ["_law_part", "_law_names"] (spM (m_law_pieces n))
  | 0 => T.def sc_law_pieces (fun vs H Q E h => by obtain ⟨_, _, _, _, _, _, _, e, _⟩ := h; cases e) (fun _ _ _ _ _ _ us hl => match us, hl with | [_, _], _ => rfl) fun f cdv A outer s H vs Q E hr h => by obtain ⟨_, _, _, _, _, _, _, e, _⟩ := h; cases e
  | n + 1 => by
    have D_law_pieces := ok_law_pieces Z T  n
    refine T.def sc_law_pieces (fun vs H Q E h => spM_len h) (fun _ _ _ _ _ _ us hl => match us, hl with | [_, _], _ => rfl) fun f cdv A outer s H vs Q E hr h => ?_
    have hu := hr.units
    exact ⟨_, (pss_cons (ps_if (PW.pt (pw_or (pt_cmpR op_isN (pv 0) pe_non (nomark _)) (pw_or1 (pt_cmpR (op_notInK (K := K) rfl) (pe_ix (ix_seqK (K := K) rfl) (pv 0) pe_int (fun _ _ => rfl)) (pv 1) rfl))))
      (pss_one (ps_ret (pe_lst (pa_cons (pv 0) pa_nil))))
      pss_nil)
      (pss_one (ps_ret (pe_op (op_addK (K := K) rfl) (pe_def D_law_pieces (hr.mono (Nat.le_refl _)) (pa_cons (pe_ix (ix_seqK (K := K) rfl) (pv 0) pe_int (fun _ _ => rfl)) (pa_cons (pv 1) pa_nil))) (pe_def D_law_pieces (hr.mono (Nat.le_refl _)) (pa_cons (pe_ix (ix_seqK (K := K) rfl) (pv 0) pe_int (fun _ _ => rfl)) (pa_cons (pv 1) pa_nil))))))),
      fn_run (n := 2) (k := 0) (ms_seq (ms_if (mt_or (mt_test (me_op J_is me_var me_non)) (mt_test (me_op J_notIn (me_op J_ix me_var me_int) me_var)))
      (ms_ret (me_lst (ma_cons me_var ma_nil)))
      ms_next)
      (ms_ret (me_op J_add (me_call (ma_cons (me_op J_ix me_var me_int) (ma_cons me_var ma_nil))) (me_call (ma_cons (me_op J_ix me_var me_int) (ma_cons me_var ma_nil)))))) rfl h⟩
theorem ok_law_double (Z : NoGl mg) (T : Top K mg "_law_double" s_law_double) (D_law_node : Def P w K mg base CX0 1 "_law_node" ["_law_left", "_law_key", "_law_right"] (spM m_law_node)) (D_law_pieces : Def P w K mg base CX0 13 "_law_pieces" ["_law_part", "_law_names"] (spM (m_law_pieces 12))) : Def P w K mg base CX0 14 "_law_double" ["_law_part", "_law_names", "_law_key"] (spM m_law_double) := by
  refine T.def sc_law_double (fun vs H Q E h => spM_len h) (fun _ _ _ _ _ _ us hl => match us, hl with | [_, _, _], _ => rfl) fun f cdv A outer s H vs Q E hr h => ?_
  have hu := hr.units
  exact ⟨_, (pss_cons (ps_asg (pe_def D_law_pieces (hr.mono (by omega)) (pa_cons (pv 0) (pa_cons (pv 1) pa_nil))) (pg_tupL rfl (pgs_cons (pg_name (i := 3) sc_law_double.nd rfl (by first | exact Or.inl rfl | exact Or.inr rfl)) (pgs_cons (pg_name (i := 4) sc_law_double.nd rfl (by first | exact Or.inl rfl | exact Or.inr rfl)) (pgs_cons (pg_name (i := 5) sc_law_double.nd rfl (by first | exact Or.inl rfl | exact Or.inr rfl)) (pgs_cons (pg_name (i := 6) sc_law_double.nd rfl (by first | exact Or.inl rfl | exact Or.inr rfl)) pgs_nil))))))
      (pss_cons (ps_asg (pv 1) (pg_tupL rfl (pgs_cons (pg_name (i := 7) sc_law_double.nd rfl (by first | exact Or.inl rfl | exact Or.inr rfl)) (pgs_cons (pg_name (i := 8) sc_law_double.nd rfl (by first | exact Or.inl rfl | exact Or.inr rfl)) (pgs_cons (pg_name (i := 9) sc_law_double.nd rfl (by first | exact Or.inl rfl | exact Or.inr rfl)) pgs_nil)))))
      (pss_cons (ps_if (pt_cmpR (op_eqK (K := K) rfl hu) (pv 2) (pv 8) (nomark _))
      (pss_one (ps_ret (pe_tup (pa_cons pe_str (pa_cons (pe_def D_law_node (hr.mono (by omega)) (pa_cons (pe_def D_law_node (hr.mono (by omega)) (pa_cons (pv 3) (pa_cons (pv 7) (pa_cons (pv 4) pa_nil)))) (pa_cons (pv 8) (pa_cons (pe_def D_law_node (hr.mono (by omega)) (pa_cons (pv 5) (pa_cons (pv 9) (pa_cons (pv 6) pa_nil)))) pa_nil)))) pa_nil)))))
      pss_nil)
      (pss_cons (ps_if (pt_cmpR (op_eqK (K := K) rfl hu) (pv 2) (pv 7) (nomark _))
      (pss_one (ps_ret (pe_tup (pa_cons pe_str (pa_cons (pe_def D_law_node (hr.mono (by omega)) (pa_cons (pv 3) (pa_cons (pv 7) (pa_cons (pe_def D_law_node (hr.mono (by omega)) (pa_cons (pv 4) (pa_cons (pv 8) (pa_cons (pe_def D_law_node (hr.mono (by omega)) (pa_cons (pv 5) (pa_cons (pv 9) (pa_cons (pv 6) pa_nil)))) pa_nil)))) pa_nil)))) pa_nil)))))
      pss_nil)
      (pss_one (ps_ret (pe_tup (pa_cons pe_str (pa_cons (pe_def D_law_node (hr.mono (by omega)) (pa_cons (pe_def D_law_node (hr.mono (by omega)) (pa_cons (pe_def D_law_node (hr.mono (by omega)) (pa_cons (pv 3) (pa_cons (pv 7) (pa_cons (pv 4) pa_nil)))) (pa_cons (pv 8) (pa_cons (pv 5) pa_nil)))) (pa_cons (pv 9) (pa_cons (pv 6) pa_nil)))) pa_nil))))))))),
      fn_run (n := 3) (k := 7) (ms_seq (ms_asgG (me_call (ma_cons me_var (ma_cons me_var ma_nil))) (mg_tupL (mgs_cons mg_name (mgs_cons mg_name (mgs_cons mg_name (mgs_cons mg_name mgs_nil))))))
      (ms_seq (ms_asgG me_var (mg_tupL (mgs_cons mg_name (mgs_cons mg_name (mgs_cons mg_name mgs_nil)))))
      (ms_seq (ms_if (mt_test (me_op J_eq me_var me_var))
      (ms_ret (me_tup (ma_cons me_str (ma_cons (me_call (ma_cons (me_call (ma_cons me_var (ma_cons me_var (ma_cons me_var ma_nil)))) (ma_cons me_var (ma_cons (me_call (ma_cons me_var (ma_cons me_var (ma_cons me_var ma_nil)))) ma_nil)))) ma_nil))))
      ms_next)
      (ms_seq (ms_if (mt_test (me_op J_eq me_var me_var))
      (ms_ret (me_tup (ma_cons me_str (ma_cons (me_call (ma_cons me_var (ma_cons me_var (ma_cons (me_call (ma_cons me_var (ma_cons me_var (ma_cons (me_call (ma_cons me_var (ma_cons me_var (ma_cons me_var ma_nil)))) ma_nil)))) ma_nil)))) ma_nil))))
      ms_next)
      (ms_ret (me_tup (ma_cons me_str (ma_cons (me_call (ma_cons (me_call (ma_cons (me_call (ma_cons me_var (ma_cons me_var (ma_cons me_var ma_nil)))) (ma_cons me_var (ma_cons me_var ma_nil)))) (ma_cons me_var (ma_cons me_var ma_nil)))) ma_nil)))))))) rfl h⟩
theorem ok_law_single (Z : NoGl mg) (T : Top K mg "_law_single" s_law_single) (D_law_node : Def P w K mg base CX0 1 "_law_node" ["_law_left", "_law_key", "_law_right"] (spM m_law_node)) (D_law_pieces : Def P w K mg base CX0 13 "_law_pieces" ["_law_part", "_law_names"] (spM (m_law_pieces 12))) : Def P w K mg base CX0 14 "_law_single" ["_law_part", "_law_key"] (spM m_law_single) := by
  have z_sorted : mg "sorted" = none := Z _ (by decide +kernel)
  refine T.def sc_law_single (fun vs H Q E h => spM_len h) (fun _ _ _ _ _ _ us hl => match us, hl with | [_, _], _ => rfl) fun f cdv A outer s H vs Q E hr h => ?_
  have hu := hr.units
  exact ⟨_, (pss_cons (ps_asg (pe_callB (call_sortedK (K := K) rfl) rfl z_sorted PyProof.Rows.boot_sorted (pa_cons (pe_lst (pa_cons (pe_ix (ix_seqK (K := K) rfl) (pv 0) pe_int (fun _ _ => rfl)) (pa_cons (pv 1) pa_nil))) pa_nil)) (pg_tupL rfl (pgs_cons (pg_name (i := 2) sc_law_single.nd rfl (by first | exact Or.inl rfl | exact Or.inr rfl)) (pgs_cons (pg_name (i := 3) sc_law_single.nd rfl (by first | exact Or.inl rfl | exact Or.inr rfl)) pgs_nil))))
      (pss_cons (ps_set (i := 4) sc_law_single.nd rfl (by first | exact Or.inl rfl | exact Or.inr rfl) (pe_def D_law_pieces (hr.mono (by omega)) (pa_cons (pv 0) (pa_cons (pe_lst (pa_cons (pv 2) (pa_cons (pv 3) pa_nil))) pa_nil))))
      (pss_cons (ps_if (pt_cmpR (op_eqK (K := K) rfl hu) (pv 1) (pv 2) (nomark _))
      (pss_one (ps_ret (pe_def D_law_node (hr.mono (by omega)) (pa_cons (pe_ix (ix_seqK (K := K) rfl) (pv 4) pe_int (fun _ _ => rfl)) (pa_cons (pv 2) (pa_cons (pe_def D_law_node (hr.mono (by omega)) (pa_cons (pe_ix (ix_seqK (K := K) rfl) (pv 4) pe_int (fun _ _ => rfl)) (pa_cons (pv 3) (pa_cons (pe_ix (ix_seqK (K := K) rfl) (pv 4) pe_int (fun _ _ => rfl)) pa_nil)))) pa_nil))))))
      pss_nil)
      (pss_one (ps_ret (pe_def D_law_node (hr.mono (by omega)) (pa_cons (pe_def D_law_node (hr.mono (by omega)) (pa_cons (pe_ix (ix_seqK (K := K) rfl) (pv 4) pe_int (fun _ _ => rfl)) (pa_cons (pv 2) (pa_cons (pe_ix (ix_seqK (K := K) rfl) (pv 4) pe_int (fun _ _ => rfl)) pa_nil)))) (pa_cons (pv 3) (pa_cons (pe_ix (ix_seqK (K := K) rfl) (pv 4) pe_int (fun _ _ => rfl)) pa_nil))))))))),
      fn_run (n := 2) (k := 3) (ms_seq (ms_asgG (me_cb J_sorted (ma_cons (me_lst (ma_cons (me_op J_ix me_var me_int) (ma_cons me_var ma_nil))) ma_nil)) (mg_tupL (mgs_cons mg_name (mgs_cons mg_name mgs_nil))))
      (ms_seq (ms_asg (me_call (ma_cons me_var (ma_cons (me_lst (ma_cons me_var (ma_cons me_var ma_nil))) ma_nil))))
      (ms_seq (ms_if (mt_test (me_op J_eq me_var me_var))
      (ms_ret (me_call (ma_cons (me_op J_ix me_var me_int) (ma_cons me_var (ma_cons (me_call (ma_cons (me_op J_ix me_var me_int) (ma_cons me_var (ma_cons (me_op J_ix me_var me_int) ma_nil)))) ma_nil)))))
      ms_next)
      (ms_ret (me_call (ma_cons (me_call (ma_cons (me_op J_ix me_var me_int) (ma_cons me_var (ma_cons (me_op J_ix me_var me_int) ma_nil)))) (ma_cons me_var (ma_cons (me_op J_ix me_var me_int) ma_nil)))))))) rfl h⟩
theorem ok_law_turned (Z : NoGl mg) (T : Top K mg "_law_turned" s_law_turned) (D_law_node : Def P w K mg base CX0 1 "_law_node" ["_law_left", "_law_key", "_law_right"] (spM m_law_node)) (D_law_double : Def P w K mg base CX0 14 "_law_double" ["_law_part", "_law_names", "_law_key"] (spM m_law_double)) (D_law_single : Def P w K mg base CX0 14 "_law_single" ["_law_part", "_law_key"] (spM m_law_single)) (D_law_line : Def P w K mg base CX0 1 "_law_line" ["_law_tree", "_law_key"] (spM m_law_line)) : Def P w K mg base CX0 15 "_law_turned" ["_law_tree", "_law_key"] (spM m_law_turned) := by
  have z_reversed : mg "reversed" = none := Z _ (by decide +kernel)
  have z_sorted : mg "sorted" = none := Z _ (by decide +kernel)
  have z_len : mg "len" = none := Z _ (by decide +kernel)
  refine T.def sc_law_turned (fun vs H Q E h => spM_len h) (fun _ _ _ _ _ _ us hl => match us, hl with | [_, _], _ => rfl) fun f cdv A outer s H vs Q E hr h => ?_
  have hu := hr.units
  exact ⟨_, (pss_cons (ps_set (i := 2) sc_law_turned.nd rfl (by first | exact Or.inl rfl | exact Or.inr rfl) (pe_def D_law_line (hr.mono (by omega)) (pa_cons (pv 0) (pa_cons (pv 1) pa_nil))))
      (pss_cons (ps_if (pt_cmpR (op_eqK (K := K) rfl hu) (pe_callB (call_lenK (K := K) rfl) rfl z_len PySem.boot_len (pa_cons (pv 2) pa_nil)) pe_int (nomark _))
      (pss_one (ps_ret (pe_tup (pa_cons pe_str (pa_cons (pe_def D_law_single (hr.mono (by omega)) (pa_cons (pv 0) (pa_cons (pv 1) pa_nil))) pa_nil)))))
      pss_nil)
      (pss_cons (ps_asg (pe_def D_law_double (hr.mono (by omega)) (pa_cons (pe_ix (ix_seqK (K := K) rfl) (pv 2) (pe_un un_neg pe_int) (fun _ _ => rfl)) (pa_cons (pe_callB (call_sortedK (K := K) rfl) rfl z_sorted PyProof.Rows.boot_sorted (pa_cons (pe_lc (fr := []) rfl ⟨rfl, rfl, rfl, rfl, rfl, rfl, by decide +kernel⟩ (pi_listK (K := K) rfl (pe_slice (sl_listK (K := K) rfl) (pv 2) (po_some (pe_un un_neg pe_int)) po_none)) (fun _ _ _ _ => pif_nil) (fun _ _ _ _ => (pe_ix (ix_seqK (K := K) rfl) (pv 0) pe_int (fun _ _ => rfl)))) pa_nil)) (pa_cons (pv 1) pa_nil)))) (pg_tupL rfl (pgs_cons (pg_name (i := 3) sc_law_turned.nd rfl (by first | exact Or.inl rfl | exact Or.inr rfl)) (pgs_cons (pg_name (i := 4) sc_law_turned.nd rfl (by first | exact Or.inl rfl | exact Or.inr rfl)) pgs_nil))))
      (pss_cons (ps_for PassesOwn.never rfl (pi_revK (K := K) rfl rfl z_reversed (pa_cons (pe_slice (sl_listK (K := K) rfl) (pv 2) po_none (po_some (pe_un un_neg pe_int))) pa_nil)) (pg_name (i := 5) sc_law_turned.nd rfl (by first | exact Or.inl rfl | exact Or.inr rfl))
      (pss_one (ps_if (pt_cmpR op_lt (pv 1) (pe_ix (ix_seqK (K := K) rfl) (pv 5) pe_int (fun _ _ => rfl)) (nomark _))
      (pss_one (ps_set (i := 4) sc_law_turned.nd rfl (by first | exact Or.inl rfl | exact Or.inr rfl) (pe_def D_law_node (hr.mono (by omega)) (pa_cons (pv 4) (pa_cons (pe_ix (ix_seqK (K := K) rfl) (pv 5) pe_int (fun _ _ => rfl)) (pa_cons (pe_ix (ix_seqK (K := K) rfl) (pv 5) pe_int (fun _ _ => rfl)) pa_nil))))))
      (pss_one (ps_set (i := 4) sc_law_turned.nd rfl (by first | exact Or.inl rfl | exact Or.inr rfl) (pe_def D_law_node (hr.mono (by omega)) (pa_cons (pe_ix (ix_seqK (K := K) rfl) (pv 5) pe_int (fun _ _ => rfl)) (pa_cons (pe_ix (ix_seqK (K := K) rfl) (pv 5) pe_int (fun _ _ => rfl)) (pa_cons (pv 4) pa_nil)))))))))
      (pss_one (ps_ret (pe_tup (pa_cons (pv 3) (pa_cons (pv 4) pa_nil))))))))),
      fn_run (n := 2) (k := 4) (ms_seq (ms_asg (me_call (ma_cons me_var (ma_cons me_var ma_nil))))
      (ms_seq (ms_if (mt_test (me_op J_eq (me_cb J_len (ma_cons me_var ma_nil)) me_int))
      (ms_ret (me_tup (ma_cons me_str (ma_cons (me_call (ma_cons me_var (ma_cons me_var ma_nil))) ma_nil))))
      ms_next)
      (ms_seq (ms_asgG (me_call (ma_cons (me_op J_ix me_var (me_un J_neg me_int)) (ma_cons (me_cb J_sorted (ma_cons (me_lc (mi_list (me_sl J_sl me_var (mo_some (me_un J_neg me_int)) mo_none)) mt_yes (me_op J_ix me_var me_int)) ma_nil)) (ma_cons me_var ma_nil)))) (mg_tupL (mgs_cons mg_name (mgs_cons mg_name mgs_nil))))
      (ms_seq (ms_for (mf_rev (ma_cons (me_sl J_sl me_var mo_none (mo_some (me_un J_neg me_int))) ma_nil)) mg_name
      (ms_if (mt_test (me_op J_B0 me_var (me_op J_ix me_var me_int)))
      (ms_asg (me_call (ma_cons me_var (ma_cons (me_op J_ix me_var me_int) (ma_cons (me_op J_ix me_var me_int) ma_nil)))))
      (ms_asg (me_call (ma_cons (me_op J_ix me_var me_int) (ma_cons (me_op J_ix me_var me_int) (ma_cons me_var ma_nil)))))))
      (ms_ret (me_tup (ma_cons me_var (ma_cons me_var ma_nil)))))))) rfl h⟩
theorem ok_law_trail (Z : NoGl mg) (T : Top K mg "_law_trail" s_law_trail) (D_law_alike : Def P w K mg base CX0 66 "_law_alike" ["_law_found", "_law_due"] (spM (m_law_alike 64))) (D_law_turned : Def P w K mg base CX0 15 "_law_turned" ["_law_tree", "_law_key"] (spM m_law_turned)) : Def P w K mg base CX0 67 "_law_trail" ["_law_tree", "_law_last_here", "_law_trail_here"] (spM m_law_trail) := by
  have z_len : mg "len" = none := Z _ (by decide +kernel)
  have z_tuple : mg "tuple" = none := Z _ (by decide +kernel)
  have z_isinstance : mg "isinstance" = none := Z _ (by decide +kernel)
  have z_list : mg "list" = none := Z _ (by decide +kernel)
  refine T.def sc_law_trail (fun vs H Q E h => spM_len h) (fun _ _ _ _ _ _ us hl => match us, hl with | [_, _, _], _ => rfl) fun f cdv A outer s H vs Q E hr h => ?_
  have hu := hr.units
  exact ⟨_, (pss_cons (ps_if (pt_not (pt_val (pe_callB call_isi rfl z_isinstance PyProof.Rows.boot_isinstance (pa_cons (pv 2) (pa_cons (pe_ty z_list PyProof.Rows.boot_list) pa_nil)))))
      (pss_one (ps_ret pe_non))
      pss_nil)
      (pss_cons (ps_set (i := 3) sc_law_trail.nd rfl (by first | exact Or.inl rfl | exact Or.inr rfl) (pv 0))
      (pss_cons (ps_for PassesOwn.never rfl (pi_listK (K := K) rfl (pv 2)) (pg_name (i := 4) sc_law_trail.nd rfl (by first | exact Or.inl rfl | exact Or.inr rfl))
      (pss_cons (ps_if (PW.pt (pw_or (pt_cmpR (op_eqK (K := K) rfl hu) (pe_ix (ix_seqK (K := K) rfl) (pv 3) pe_int (fun _ _ => rfl)) (pv 1) (nomark _)) (pw_or (pt_not (pt_val (pe_callB call_isi rfl z_isinstance PyProof.Rows.boot_isinstance (pa_cons (pv 4) (pa_cons (pe_ty z_tuple PyProof.Rows.boot_tuple) pa_nil))))) (pw_or1 (pt_cmpR (op_neK (K := K) rfl hu) (pe_callB (call_lenK (K := K) rfl) rfl z_len PySem.boot_len (pa_cons (pv 4) pa_nil)) pe_int (nomark _))))))
      (pss_one (ps_ret pe_non))
      pss_nil)
      (pss_cons (ps_asg (pe_def D_law_turned (hr.mono (by omega)) (pa_cons (pv 3) (pa_cons (pv 1) pa_nil))) (pg_tupL rfl (pgs_cons (pg_name (i := 5) sc_law_trail.nd rfl (by first | exact Or.inl rfl | exact Or.inr rfl)) (pgs_cons (pg_name (i := 6) sc_law_trail.nd rfl (by first | exact Or.inl rfl | exact Or.inr rfl)) pgs_nil))))
      (pss_cons (ps_if (PW.pt (pw_or (pt_cmpR (op_neK (K := K) rfl hu) (pe_ix (ix_seqK (K := K) rfl) (pv 4) pe_int (fun _ _ => rfl)) (pv 5) (nomark _)) (pw_or1 (pt_not (pt_val (pe_def D_law_alike (hr.mono (by omega)) (pa_cons (pe_ix (ix_seqK (K := K) rfl) (pv 4) pe_int (fun _ _ => rfl)) (pa_cons (pv 6) pa_nil))))))))
      (pss_one (ps_ret pe_non))
      pss_nil)
      (pss_one (ps_set (i := 3) sc_law_trail.nd rfl (by first | exact Or.inl rfl | exact Or.inr rfl) (pv 6)))))))
      (pss_cons (ps_if (pt_cmpR (op_neK (K := K) rfl hu) (pe_ix (ix_seqK (K := K) rfl) (pv 3) pe_int (fun _ _ => rfl)) (pv 1) (nomark _))
      (pss_one (ps_ret pe_non))
      pss_nil)
      (pss_one (ps_ret (pv 3))))))),
      fn_run (n := 3) (k := 4) (ms_seq (ms_if (mt_not (mt_tB (me_isi me_var)))
      (ms_ret me_non)
      ms_next)
      (ms_seq (ms_asg me_var)
      (ms_seq (ms_for (mf_list me_var) mg_name
      (ms_seq (ms_if (mt_or (mt_test (me_op J_eq (me_op J_ix me_var me_int) me_var)) (mt_or (mt_not (mt_tB (me_isi me_var))) (mt_test (me_op J_ne (me_cb J_len (ma_cons me_var ma_nil)) me_int))))
      (ms_ret me_non)
      ms_next)
      (ms_seq (ms_asgG (me_call (ma_cons me_var (ma_cons me_var ma_nil))) (mg_tupL (mgs_cons mg_name (mgs_cons mg_name mgs_nil))))
      (ms_seq (ms_if (mt_or (mt_test (me_op J_ne (me_op J_ix me_var me_int) me_var)) (mt_not (mt_tB (me_call (ma_cons (me_op J_ix me_var me_int) (ma_cons me_var ma_nil))))))
      (ms_ret me_non)
      ms_next)
      (ms_asg me_var)))))
      (ms_seq (ms_if (mt_test (me_op J_ne (me_op J_ix me_var me_int) me_var))
      (ms_ret me_non)
      ms_next)
      (ms_ret me_var))))) rfl h⟩
theorem ok_law_tied_right (Z : NoGl mg) (T : Top K mg "_law_tied_right" s_law_tied_right) (D_law_paid : Def P w K mg base CX0 1 "_law_paid" ["_law_ahead", "_law_trail_here", "_law_behind", "_law_price"] (spM m_law_paid)) (D_law_credit : Def P w K mg base CX0 65 "_law_credit" ["_law_tree"] (spM (m_law_credit 64))) (D_law_alike : Def P w K mg base CX0 66 "_law_alike" ["_law_found", "_law_due"] (spM (m_law_alike 64))) (D_law_node : Def P w K mg base CX0 1 "_law_node" ["_law_left", "_law_key", "_law_right"] (spM m_law_node)) (D_law_trail : Def P w K mg base CX0 67 "_law_trail" ["_law_tree", "_law_last_here", "_law_trail_here"] (spM m_law_trail)) (D_law_rising : Def P w K mg base CX0 65 "_law_rising" ["_law_tree"] (spM (m_law_rising 64))) (D_tie_trees : Def P w K mg base CX0 7 "tie_trees" ["one", "other"] (spM m_tie_trees)) : Def P w K mg base CX0 68 "_law_tied_right" ["_law_one", "_law_other"] (spM m_law_tied_right) := by
  have z_len : mg "len" = none := Z _ (by decide +kernel)
  have z_tuple : mg "tuple" = none := Z _ (by decide +kernel)
  have z_isinstance : mg "isinstance" = none := Z _ (by decide +kernel)
  refine T.def sc_law_tied_right (fun vs H Q E h => spM_len h) (fun _ _ _ _ _ _ us hl => match us, hl with | [_, _], _ => rfl) fun f cdv A outer s H vs Q E hr h => ?_
  have hu := hr.units
  exact ⟨_, (pss_cons (ps_set (i := 2) sc_law_tied_right.nd rfl (by first | exact Or.inl rfl | exact Or.inr rfl) (pe_def D_tie_trees (hr.mono (by omega)) (pa_cons (pv 0) (pa_cons (pv 1) pa_nil))))
      (pss_cons (ps_if (PW.pt (pw_or (pt_not (pt_val (pe_callB call_isi rfl z_isinstance PyProof.Rows.boot_isinstance (pa_cons (pv 2) (pa_cons (pe_ty z_tuple PyProof.Rows.boot_tuple) pa_nil))))) (pw_or1 (pt_cmpR (op_neK (K := K) rfl hu) (pe_callB (call_lenK (K := K) rfl) rfl z_len PySem.boot_len (pa_cons (pv 2) pa_nil)) pe_int (nomark _)))))
      (pss_one (ps_ret pe_non))
      pss_nil)
      (pss_cons (ps_set (i := 3) sc_law_tied_right.nd rfl (by first | exact Or.inl rfl | exact Or.inr rfl) (pv 0))
      (pss_cons (ps_if (pt_cmpR op_isN (pv 0) pe_non (nomark _))
      (pss_one (ps_set (i := 3) sc_law_tied_right.nd rfl (by first | exact Or.inl rfl | exact Or.inr rfl) (pv 1)))
      pss_nil)
      (pss_cons (ps_set (i := 4) sc_law_tied_right.nd rfl (by first | exact Or.inl rfl | exact Or.inr rfl) pe_int)
      (pss_cons (ps_if (PW.pt (pw_and (pt_cmpR op_notN (pv 0) pe_non (nomark _)) (pw_and1 (pt_cmpR op_notN (pv 1) pe_non (nomark _)))))
      (pss_cons (ps_set (i := 5) sc_law_tied_right.nd rfl (by first | exact Or.inl rfl | exact Or.inr rfl) (pe_def D_law_trail (hr.mono (by omega)) (pa_cons (pv 0) (pa_cons (pe_ix (ix_seqK (K := K) rfl) (pe_def D_law_rising (hr.mono (by omega)) (pa_cons (pv 0) pa_nil)) (pe_un un_neg pe_int) (fun _ _ => rfl)) (pa_cons (pe_ix (ix_seqK (K := K) rfl) (pv 2) pe_int (fun _ _ => rfl)) pa_nil)))))
      (pss_cons (ps_if (pt_cmpR op_isN (pv 5) pe_non (nomark _))
      (pss_one (ps_ret pe_non))
      pss_nil)
      (pss_cons (ps_set (i := 3) sc_law_tied_right.nd rfl (by first | exact Or.inl rfl | exact Or.inr rfl) (pe_def D_law_node (hr.mono (by omega)) (pa_cons (pe_ix (ix_seqK (K := K) rfl) (pv 5) pe_int (fun _ _ => rfl)) (pa_cons (pe_ix (ix_seqK (K := K) rfl) (pv 5) pe_int (fun _ _ => rfl)) (pa_cons (pv 1) pa_nil)))))
      (pss_one (ps_set (i := 4) sc_law_tied_right.nd rfl (by first | exact Or.inl rfl | exact Or.inr rfl) (pe_op op_sub (pe_op (op_addK (K := K) rfl) (pe_op op_mulM pe_int (pe_bm0K (K := K) rfl PySem.F.plainAttrs_int PySem.F.slot_int_bit_length PySem.F.type_int_bit_length mt_bits (pe_ix (ix_seqK (K := K) rfl) (pv 0) pe_int (fun _ _ => rfl)))) (pe_bm0K (K := K) rfl PySem.F.plainAttrs_int PySem.F.slot_int_bit_length PySem.F.type_int_bit_length mt_bits (pe_ix (ix_seqK (K := K) rfl) (pv 3) pe_int (fun _ _ => rfl)))) pe_int))))))
      (pss_one (ps_if (pt_cmpR (op_neK (K := K) rfl hu) (pe_ix (ix_seqK (K := K) rfl) (pv 2) pe_int (fun _ _ => rfl)) (pe_lst pa_nil) (nomark _))
      (pss_one (ps_ret pe_non))
      pss_nil)))
      (pss_cons (ps_set (i := 6) sc_law_tied_right.nd rfl (by first | exact Or.inl rfl | exact Or.inr rfl) (pe_op (op_addK (K := K) rfl) (pe_def D_law_credit (hr.mono (by omega)) (pa_cons (pv 0) pa_nil)) (pe_def D_law_credit (hr.mono (by omega)) (pa_cons (pv 1) pa_nil))))
      (pss_cons (ps_if (PW.pt (pw_or (pt_not (pt_val (pe_def D_law_alike (hr.mono (by omega)) (pa_cons (pe_ix (ix_seqK (K := K) rfl) (pv 2) pe_int (fun _ _ => rfl)) (pa_cons (pv 3) pa_nil))))) (pw_or1 (pt_not (pt_val (pe_def D_law_paid (hr.mono (by omega)) (pa_cons (pv 6) (pa_cons (pe_ix (ix_seqK (K := K) rfl) (pv 2) pe_int (fun _ _ => rfl)) (pa_cons (pe_def D_law_credit (hr.mono (by omega)) (pa_cons (pv 3) pa_nil)) (pa_cons (pv 4) pa_nil))))))))))
      (pss_one (ps_ret pe_non))
      pss_nil)
      (pss_one (ps_ret (pe_tup (pa_cons (pv 3) pa_nil)))))))))))),
      fn_run (n := 2) (k := 5) (ms_seq (ms_asg (me_call (ma_cons me_var (ma_cons me_var ma_nil))))
      (ms_seq (ms_if (mt_or (mt_not (mt_tB (me_isi me_var))) (mt_test (me_op J_ne (me_cb J_len (ma_cons me_var ma_nil)) me_int)))
      (ms_ret me_non)
      ms_next)
      (ms_seq (ms_asg me_var)
      (ms_seq (ms_if (mt_test (me_op J_is me_var me_non))
      (ms_asg me_var)
      ms_next)
      (ms_seq (ms_asg me_int)
      (ms_seq (ms_if (mt_and (mt_test (me_op J_isNot me_var me_non)) (mt_test (me_op J_isNot me_var me_non)))
      (ms_seq (ms_asg (me_call (ma_cons me_var (ma_cons (me_op J_ix (me_call (ma_cons me_var ma_nil)) (me_un J_neg me_int)) (ma_cons (me_op J_ix me_var me_int) ma_nil)))))
      (ms_seq (ms_if (mt_test (me_op J_is me_var me_non))
      (ms_ret me_non)
      ms_next)
      (ms_seq (ms_asg (me_call (ma_cons (me_op J_ix me_var me_int) (ma_cons (me_op J_ix me_var me_int) (ma_cons me_var ma_nil)))))
      (ms_asg (me_op J_I0 (me_op J_add (me_op J_mul me_int (me_bm0 J_bits (me_op J_ix me_var me_int))) (me_bm0 J_bits (me_op J_ix me_var me_int))) me_int)))))
      (ms_if (mt_test (me_op J_ne (me_op J_ix me_var me_int) (me_lst ma_nil)))
      (ms_ret me_non)
      ms_next))
      (ms_seq (ms_asg (me_op J_add (me_call (ma_cons me_var ma_nil)) (me_call (ma_cons me_var ma_nil))))
      (ms_seq (ms_if (mt_or (mt_not (mt_tB (me_call (ma_cons (me_op J_ix me_var me_int) (ma_cons me_var ma_nil))))) (mt_not (mt_tB (me_call (ma_cons me_var (ma_cons (me_op J_ix me_var me_int) (ma_cons (me_call (ma_cons me_var ma_nil)) (ma_cons me_var ma_nil))))))))
      (ms_ret me_non)
      ms_next)
      (ms_ret (me_tup (ma_cons me_var ma_nil))))))))))) rfl h⟩
theorem ok_law_number (Z : NoGl mg) (T : Top K mg "_law_number" s_law_number)  : Def P w K mg base CX0 1 "_law_number" ["_law_cell", "_law_keys_here"] (spM m_law_number) := by
  have z_len : mg "len" = none := Z _ (by decide +kernel)
  refine T.def sc_law_number (fun vs H Q E h => spM_len h) (fun _ _ _ _ _ _ us hl => match us, hl with | [_, _], _ => rfl) fun f cdv A outer s H vs Q E hr h => ?_
  have hu := hr.units
  exact ⟨_, (pss_cons (ps_if (PW.pt (pw_or (pt_cmpR (op_eqK (K := K) rfl hu) (pe_op op_mod (pv 0) pe_int) pe_int (nomark _)) (pw_or1 (pt_cmpR (op_eqK (K := K) rfl hu) (pe_callB (call_lenK (K := K) rfl) rfl z_len PySem.boot_len (pa_cons (pv 1) pa_nil)) pe_int (nomark _)))))
      (pss_one (ps_ret (pe_op (op_addK (K := K) rfl) (pe_op op_sub (pe_op op_mod (pe_op op_fdiv (pv 0) pe_int) (pe_op op_sub (pe_op op_mulM pe_int (pe_op op_pow pe_int pe_int)) pe_int)) (pe_op op_pow pe_int pe_int)) pe_int)))
      pss_nil)
      (pss_cons (ps_if (pt_cmpR (op_eqK (K := K) rfl hu) (pe_op op_mod (pv 0) pe_int) pe_int (nomark _))
      (pss_one (ps_ret (pe_op op_sub (pe_op op_mod (pe_op op_fdiv (pv 0) pe_int) pe_int) pe_int)))
      pss_nil)
      (pss_cons (ps_set (i := 2) sc_law_number.nd rfl (by first | exact Or.inl rfl | exact Or.inr rfl) (pe_ix (ix_seqK (K := K) rfl) (pv 1) (pe_op op_mod (pe_op op_fdiv (pv 0) pe_int) (pe_callB (call_lenK (K := K) rfl) rfl z_len PySem.boot_len (pa_cons (pv 1) pa_nil))) (fun _ _ => rfl)))
      (pss_one (ps_ret (pe_op (op_addK (K := K) rfl) (pv 2) (pe_ix (ix_seqK (K := K) rfl) (pe_lst (pa_cons pe_int (pa_cons pe_int (pa_cons pe_int (pa_cons (pe_un un_neg pe_int) pa_nil))))) (pe_op op_mod (pe_op op_fdiv (pv 0) pe_int) pe_int) (fun _ _ => rfl)))))))),
      fn_run (n := 2) (k := 1) (ms_seq (ms_if (mt_or (mt_test (me_op J_eq (me_op J_I me_var me_int) me_int)) (mt_test (me_op J_eq (me_cb J_len (ma_cons me_var ma_nil)) me_int)))
      (ms_ret (me_op J_add (me_op J_I0 (me_op J_I (me_op J_I me_var me_int) (me_op J_I0 (me_op J_mul me_int (me_op J_I me_int me_int)) me_int)) (me_op J_I me_int me_int)) me_int))
      ms_next)
      (ms_seq (ms_if (mt_test (me_op J_eq (me_op J_I me_var me_int) me_int))
      (ms_ret (me_op J_I0 (me_op J_I (me_op J_I me_var me_int) me_int) me_int))
      ms_next)
      (ms_seq (ms_asg (me_op J_ix me_var (me_op J_I (me_op J_I me_var me_int) (me_cb J_len (ma_cons me_var ma_nil)))))
      (ms_ret (me_op J_add me_var (me_op J_ix (me_lst (ma_cons me_int (ma_cons me_int (ma_cons me_int (ma_cons (me_un J_neg me_int) ma_nil))))) (me_op J_I (me_op J_I me_var me_int) me_int))))))) rfl h⟩
theorem ok_law {f : Addr} {fd : FuncData} (NL : noLists K = true) (Z : NoGl mg) (F : Fun K "law" "law" s_law f fd) (D_law_never_joined : Def P w K mg base CX0 67 "_law_never_joined" ["_law_keys_here", "_law_order_here", "_law_at"] (spM m_law_never_joined)) (D_law_cell_at : Def P w K mg base CX0 1 "_law_cell_at" ["_law_script", "_law_k"] (spM m_law_cell_at)) (D_law_keys : Def P w K mg base CX0 1 "_law_keys" ["_law_cell", "_law_order_here"] (spM m_law_keys)) (D_law_order : Def P w K mg base CX0 14 "_law_order" ["_law_cell", "_law_more"] (spM m_law_order)) (D_law_tied_right : Def P w K mg base CX0 68 "_law_tied_right" ["_law_one", "_law_other"] (spM m_law_tied_right)) (D_law_mixed_up : Def P w K mg base CX0 9 "_law_mixed_up" ["_law_one", "_law_other"] (spM m_law_mixed_up)) (D_law_cut_right : Def P w K mg base CX0 67 "_law_cut_right" ["_law_tree", "_law_number_here"] (spM m_law_cut_right)) (D_law_number : Def P w K mg base CX0 1 "_law_number" ["_law_cell", "_law_keys_here"] (spM m_law_number)) (D_law_rising : Def P w K mg base CX0 65 "_law_rising" ["_law_tree"] (spM (m_law_rising 64))) (D_law_grown : Def P w K mg base CX0 66 "_law_grown" ["_law_script"] (spM m_law_grown)) : FnOk P w K mg base CX0 69 f fd ["_law_script"] (spLaw K) := by
  refine FnOk.imp (sp := spM m_law) ?_ (law_sp NL law_true)
  refine F.ok sc_law (fun vs H Q E h => spM_len h) fun cdv A outer s H vs Q E hr h => ?_
  have hu := hr.units
  exact ⟨_, (pss_cons (ps_set (i := 1) sc_law.nd rfl (by first | exact Or.inl rfl | exact Or.inr rfl) (pe_def D_law_grown (hr.mono (by omega)) (pa_cons (pv 0) pa_nil)))
      (pss_cons (ps_set (i := 2) sc_law.nd rfl (by first | exact Or.inl rfl | exact Or.inr rfl) (pe_def D_law_rising (hr.mono (by omega)) (pa_cons (pv 1) pa_nil)))
      (pss_cons (ps_for PassesOwn.never rfl (pi_listK (K := K) rfl (pe_slice (sl_listK (K := K) rfl) (pv 0) (po_some pe_int) (po_some pe_int))) (pg_name (i := 3) sc_law.nd rfl (by first | exact Or.inl rfl | exact Or.inr rfl))
      (pss_cons (ps_set (i := 4) sc_law.nd rfl (by first | exact Or.inl rfl | exact Or.inr rfl) (pe_def D_law_cut_right (hr.mono (by omega)) (pa_cons (pv 1) (pa_cons (pe_def D_law_number (hr.mono (by omega)) (pa_cons (pv 3) (pa_cons (pv 2) pa_nil))) pa_nil))))
      (pss_cons (ps_if (PW.pt (pw_or (pt_cmpR op_isN (pv 4) pe_non (nomark _)) (pw_or1 (pt_not (pt_val (pe_def D_law_mixed_up (hr.mono (by omega)) (pa_cons (pe_ix (ix_seqK (K := K) rfl) (pv 4) pe_int (fun _ _ => rfl)) (pa_cons (pe_ix (ix_seqK (K := K) rfl) (pv 4) pe_int (fun _ _ => rfl)) pa_nil))))))))
      (pss_one (ps_ret pe_bl))
      pss_nil)
      (pss_cons (ps_set (i := 5) sc_law.nd rfl (by first | exact Or.inl rfl | exact Or.inr rfl) (pe_def D_law_tied_right (hr.mono (by omega)) (pa_cons (pe_ix (ix_seqK (K := K) rfl) (pv 4) pe_int (fun _ _ => rfl)) (pa_cons (pe_ix (ix_seqK (K := K) rfl) (pv 4) pe_int (fun _ _ => rfl)) pa_nil))))
      (pss_cons (ps_if (pt_cmpR op_isN (pv 5) pe_non (nomark _))
      (pss_one (ps_ret pe_bl))
      pss_nil)
      (pss_one (ps_set (i := 1) sc_law.nd rfl (by first | exact Or.inl rfl | exact Or.inr rfl) (pe_ix (ix_seqK (K := K) rfl) (pv 5) pe_int (fun _ _ => rfl)))))))))
      (pss_cons (ps_set (i := 6) sc_law.nd rfl (by first | exact Or.inl rfl | exact Or.inr rfl) (pe_def D_law_keys (hr.mono (by omega)) (pa_cons (pe_def D_law_cell_at (hr.mono (by omega)) (pa_cons (pv 0) (pa_cons pe_int pa_nil))) (pa_cons (pe_def D_law_order (hr.mono (by omega)) (pa_cons (pe_def D_law_cell_at (hr.mono (by omega)) (pa_cons (pv 0) (pa_cons pe_int pa_nil))) (pa_cons (pe_def D_law_cell_at (hr.mono (by omega)) (pa_cons (pv 0) (pa_cons pe_int pa_nil))) pa_nil))) pa_nil))))
      (pss_one (ps_ret (pe_def D_law_never_joined (hr.mono (by omega)) (pa_cons (pv 2) (pa_cons (pv 6) (pa_cons (pe_def D_law_cell_at (hr.mono (by omega)) (pa_cons (pv 0) (pa_cons pe_int pa_nil))) pa_nil)))))))))),
      fn_run (n := 1) (k := 6) (ms_seq (ms_asg (me_call (ma_cons me_var ma_nil)))
      (ms_seq (ms_asg (me_call (ma_cons me_var ma_nil)))
      (ms_seq (ms_for (mf_list (me_sl J_sl me_var (mo_some me_int) (mo_some me_int))) mg_name
      (ms_seq (ms_asg (me_call (ma_cons me_var (ma_cons (me_call (ma_cons me_var (ma_cons me_var ma_nil))) ma_nil))))
      (ms_seq (ms_if (mt_or (mt_test (me_op J_is me_var me_non)) (mt_not (mt_tB (me_call (ma_cons (me_op J_ix me_var me_int) (ma_cons (me_op J_ix me_var me_int) ma_nil))))))
      (ms_ret me_bl)
      ms_next)
      (ms_seq (ms_asg (me_call (ma_cons (me_op J_ix me_var me_int) (ma_cons (me_op J_ix me_var me_int) ma_nil))))
      (ms_seq (ms_if (mt_test (me_op J_is me_var me_non))
      (ms_ret me_bl)
      ms_next)
      (ms_asg (me_op J_ix me_var me_int)))))))
      (ms_seq (ms_asg (me_call (ma_cons (me_call (ma_cons me_var (ma_cons me_int ma_nil))) (ma_cons (me_call (ma_cons (me_call (ma_cons me_var (ma_cons me_int ma_nil))) (ma_cons (me_call (ma_cons me_var (ma_cons me_int ma_nil))) ma_nil))) ma_nil))))
      (ms_ret (me_call (ma_cons me_var (ma_cons me_var (ma_cons (me_call (ma_cons me_var (ma_cons me_int ma_nil))) ma_nil))))))))) rfl h⟩
end
end K64
open PySem PySem.W PyProof.Rows
set_option maxRecDepth 100000 in
set_option maxHeartbeats 0 in
theorem PySem.Challenge.cw_creditworks_k64_cut_and_tied_holds : PySem.Challenge.rw_creditworks_k64_cut_and_tied.Holds := by
  w_on; o_law; k_head; (case hw => w_witness2)
  k_fill
  refine L2.walk_law (l := PySem.Challenge.rw_creditworks_k64_cut_and_tied) (k := 69) (x := "_law_script") (st := K64.s_law) rfl rfl ⟨rfl, by decide, by decide⟩ (fun w h Y => PySem.W.kIn_of Y) (fun _ _ _ _ _ _ _ => rfl) ?F
  case F =>
    intro w mg h KX G
    have T_law_keys : L2.Top (L2.KOf KX) mg "_law_keys" K64.s_law_keys := by
      dsimp only [L2.KOf]
      refine' L2.Top.mk' KX G ?a ?l ?c ?k
      (case a => k_is); (case l => k_is); (case c => k_is); (case k => k_is)
    have T_law_cell_at : L2.Top (L2.KOf KX) mg "_law_cell_at" K64.s_law_cell_at := by
      dsimp only [L2.KOf]
      refine' L2.Top.mk' KX G ?a ?l ?c ?k
      (case a => k_is); (case l => k_is); (case c => k_is); (case k => k_is)
    have T_law_halves : L2.Top (L2.KOf KX) mg "_law_halves" K64.s_law_halves := by
      dsimp only [L2.KOf]
      refine' L2.Top.mk' KX G ?a ?l ?c ?k
      (case a => k_is); (case l => k_is); (case c => k_is); (case k => k_is)
    have T_law_mixed : L2.Top (L2.KOf KX) mg "_law_mixed" K64.s_law_mixed := by
      dsimp only [L2.KOf]
      refine' L2.Top.mk' KX G ?a ?l ?c ?k
      (case a => k_is); (case l => k_is); (case c => k_is); (case k => k_is)
    have T_law_order : L2.Top (L2.KOf KX) mg "_law_order" K64.s_law_order := by
      dsimp only [L2.KOf]
      refine' L2.Top.mk' KX G ?a ?l ?c ?k
      (case a => k_is); (case l => k_is); (case c => k_is); (case k => k_is)
    have T_law_put : L2.Top (L2.KOf KX) mg "_law_put" K64.s_law_put := by
      dsimp only [L2.KOf]
      refine' L2.Top.mk' KX G ?a ?l ?c ?k
      (case a => k_is); (case l => k_is); (case c => k_is); (case k => k_is)
    have T_law_grown : L2.Top (L2.KOf KX) mg "_law_grown" K64.s_law_grown := by
      dsimp only [L2.KOf]
      refine' L2.Top.mk' KX G ?a ?l ?c ?k
      (case a => k_is); (case l => k_is); (case c => k_is); (case k => k_is)
    have T_law_rising : L2.Top (L2.KOf KX) mg "_law_rising" K64.s_law_rising := by
      dsimp only [L2.KOf]
      refine' L2.Top.mk' KX G ?a ?l ?c ?k
      (case a => k_is); (case l => k_is); (case c => k_is); (case k => k_is)
    have T_law_of : L2.Top (L2.KOf KX) mg "_law_of" K64.s_law_of := by
      dsimp only [L2.KOf]
      refine' L2.Top.mk' KX G ?a ?l ?c ?k
      (case a => k_is); (case l => k_is); (case c => k_is); (case k => k_is)
    have T_parts_to : L2.Top (L2.KOf KX) mg "parts_to" K64.s_parts_to := by
      dsimp only [L2.KOf]
      refine' L2.Top.mk' KX G ?a ?l ?c ?k
      (case a => k_is); (case l => k_is); (case c => k_is); (case k => k_is)
    have T_stands_left : L2.Top (L2.KOf KX) mg "stands_left" K64.s_stands_left := by
      dsimp only [L2.KOf]
      refine' L2.Top.mk' KX G ?a ?l ?c ?k
      (case a => k_is); (case l => k_is); (case c => k_is); (case k => k_is)
    have T_many_of : L2.Top (L2.KOf KX) mg "many_of" K64.s_many_of := by
      dsimp only [L2.KOf]
      refine' L2.Top.mk' KX G ?a ?l ?c ?k
      (case a => k_is); (case l => k_is); (case c => k_is); (case k => k_is)
    have T_tree_of : L2.Top (L2.KOf KX) mg "tree_of" K64.s_tree_of := by
      dsimp only [L2.KOf]
      refine' L2.Top.mk' KX G ?a ?l ?c ?k
      (case a => k_is); (case l => k_is); (case c => k_is); (case k => k_is)
    have T_with_side : L2.Top (L2.KOf KX) mg "with_side" K64.s_with_side := by
      dsimp only [L2.KOf]
      refine' L2.Top.mk' KX G ?a ?l ?c ?k
      (case a => k_is); (case l => k_is); (case c => k_is); (case k => k_is)
    have T_hung_in : L2.Top (L2.KOf KX) mg "hung_in" K64.s_hung_in := by
      dsimp only [L2.KOf]
      refine' L2.Top.mk' KX G ?a ?l ?c ?k
      (case a => k_is); (case l => k_is); (case c => k_is); (case k => k_is)
    have T_lifted : L2.Top (L2.KOf KX) mg "lifted" K64.s_lifted := by
      dsimp only [L2.KOf]
      refine' L2.Top.mk' KX G ?a ?l ?c ?k
      (case a => k_is); (case l => k_is); (case c => k_is); (case k => k_is)
    have T_bent : L2.Top (L2.KOf KX) mg "bent" K64.s_bent := by
      dsimp only [L2.KOf]
      refine' L2.Top.mk' KX G ?a ?l ?c ?k
      (case a => k_is); (case l => k_is); (case c => k_is); (case k => k_is)
    have T_straight : L2.Top (L2.KOf KX) mg "straight" K64.s_straight := by
      dsimp only [L2.KOf]
      refine' L2.Top.mk' KX G ?a ?l ?c ?k
      (case a => k_is); (case l => k_is); (case c => k_is); (case k => k_is)
    have T_turn_key : L2.Top (L2.KOf KX) mg "turn_key" K64.s_turn_key := by
      dsimp only [L2.KOf]
      refine' L2.Top.mk' KX G ?a ?l ?c ?k
      (case a => k_is); (case l => k_is); (case c => k_is); (case k => k_is)
    have T_turn_up : L2.Top (L2.KOf KX) mg "turn_up" K64.s_turn_up := by
      dsimp only [L2.KOf]
      refine' L2.Top.mk' KX G ?a ?l ?c ?k
      (case a => k_is); (case l => k_is); (case c => k_is); (case k => k_is)
    have T_parts_of : L2.Top (L2.KOf KX) mg "parts_of" K64.s_parts_of := by
      dsimp only [L2.KOf]
      refine' L2.Top.mk' KX G ?a ?l ?c ?k
      (case a => k_is); (case l => k_is); (case c => k_is); (case k => k_is)
    have T_keys_of : L2.Top (L2.KOf KX) mg "keys_of" K64.s_keys_of := by
      dsimp only [L2.KOf]
      refine' L2.Top.mk' KX G ?a ?l ?c ?k
      (case a => k_is); (case l => k_is); (case c => k_is); (case k => k_is)
    have T_tie_trees : L2.Top (L2.KOf KX) mg "tie_trees" K64.s_tie_trees := by
      dsimp only [L2.KOf]
      refine' L2.Top.mk' KX G ?a ?l ?c ?k
      (case a => k_is); (case l => k_is); (case c => k_is); (case k => k_is)
    have T_law_refused : L2.Top (L2.KOf KX) mg "_law_refused" K64.s_law_refused := by
      dsimp only [L2.KOf]
      refine' L2.Top.mk' KX G ?a ?l ?c ?k
      (case a => k_is); (case l => k_is); (case c => k_is); (case k => k_is)
    have T_law_mixed_up : L2.Top (L2.KOf KX) mg "_law_mixed_up" K64.s_law_mixed_up := by
      dsimp only [L2.KOf]
      refine' L2.Top.mk' KX G ?a ?l ?c ?k
      (case a => k_is); (case l => k_is); (case c => k_is); (case k => k_is)
    have T_law_never_joined : L2.Top (L2.KOf KX) mg "_law_never_joined" K64.s_law_never_joined := by
      dsimp only [L2.KOf]
      refine' L2.Top.mk' KX G ?a ?l ?c ?k
      (case a => k_is); (case l => k_is); (case c => k_is); (case k => k_is)
    have T_way_to : L2.Top (L2.KOf KX) mg "way_to" K64.s_way_to := by
      dsimp only [L2.KOf]
      refine' L2.Top.mk' KX G ?a ?l ?c ?k
      (case a => k_is); (case l => k_is); (case c => k_is); (case k => k_is)
    have T_ask_tree : L2.Top (L2.KOf KX) mg "ask_tree" K64.s_ask_tree := by
      dsimp only [L2.KOf]
      refine' L2.Top.mk' KX G ?a ?l ?c ?k
      (case a => k_is); (case l => k_is); (case c => k_is); (case k => k_is)
    have T_parted : L2.Top (L2.KOf KX) mg "parted" K64.s_parted := by
      dsimp only [L2.KOf]
      refine' L2.Top.mk' KX G ?a ?l ?c ?k
      (case a => k_is); (case l => k_is); (case c => k_is); (case k => k_is)
    have T_cut_tree : L2.Top (L2.KOf KX) mg "cut_tree" K64.s_cut_tree := by
      dsimp only [L2.KOf]
      refine' L2.Top.mk' KX G ?a ?l ?c ?k
      (case a => k_is); (case l => k_is); (case c => k_is); (case k => k_is)
    have T_law_node : L2.Top (L2.KOf KX) mg "_law_node" K64.s_law_node := by
      dsimp only [L2.KOf]
      refine' L2.Top.mk' KX G ?a ?l ?c ?k
      (case a => k_is); (case l => k_is); (case c => k_is); (case k => k_is)
    have T_law_parted : L2.Top (L2.KOf KX) mg "_law_parted" K64.s_law_parted := by
      dsimp only [L2.KOf]
      refine' L2.Top.mk' KX G ?a ?l ?c ?k
      (case a => k_is); (case l => k_is); (case c => k_is); (case k => k_is)
    have T_law_paid : L2.Top (L2.KOf KX) mg "_law_paid" K64.s_law_paid := by
      dsimp only [L2.KOf]
      refine' L2.Top.mk' KX G ?a ?l ?c ?k
      (case a => k_is); (case l => k_is); (case c => k_is); (case k => k_is)
    have T_law_whole : L2.Top (L2.KOf KX) mg "_law_whole" K64.s_law_whole := by
      dsimp only [L2.KOf]
      refine' L2.Top.mk' KX G ?a ?l ?c ?k
      (case a => k_is); (case l => k_is); (case c => k_is); (case k => k_is)
    have T_law_alike : L2.Top (L2.KOf KX) mg "_law_alike" K64.s_law_alike := by
      dsimp only [L2.KOf]
      refine' L2.Top.mk' KX G ?a ?l ?c ?k
      (case a => k_is); (case l => k_is); (case c => k_is); (case k => k_is)
    have T_law_credit : L2.Top (L2.KOf KX) mg "_law_credit" K64.s_law_credit := by
      dsimp only [L2.KOf]
      refine' L2.Top.mk' KX G ?a ?l ?c ?k
      (case a => k_is); (case l => k_is); (case c => k_is); (case k => k_is)
    have T_law_many : L2.Top (L2.KOf KX) mg "_law_many" K64.s_law_many := by
      dsimp only [L2.KOf]
      refine' L2.Top.mk' KX G ?a ?l ?c ?k
      (case a => k_is); (case l => k_is); (case c => k_is); (case k => k_is)
    have T_law_cut_right : L2.Top (L2.KOf KX) mg "_law_cut_right" K64.s_law_cut_right := by
      dsimp only [L2.KOf]
      refine' L2.Top.mk' KX G ?a ?l ?c ?k
      (case a => k_is); (case l => k_is); (case c => k_is); (case k => k_is)
    have T_law_line : L2.Top (L2.KOf KX) mg "_law_line" K64.s_law_line := by
      dsimp only [L2.KOf]
      refine' L2.Top.mk' KX G ?a ?l ?c ?k
      (case a => k_is); (case l => k_is); (case c => k_is); (case k => k_is)
    have T_law_pieces : L2.Top (L2.KOf KX) mg "_law_pieces" K64.s_law_pieces := by
      dsimp only [L2.KOf]
      refine' L2.Top.mk' KX G ?a ?l ?c ?k
      (case a => k_is); (case l => k_is); (case c => k_is); (case k => k_is)
    have T_law_double : L2.Top (L2.KOf KX) mg "_law_double" K64.s_law_double := by
      dsimp only [L2.KOf]
      refine' L2.Top.mk' KX G ?a ?l ?c ?k
      (case a => k_is); (case l => k_is); (case c => k_is); (case k => k_is)
    have T_law_single : L2.Top (L2.KOf KX) mg "_law_single" K64.s_law_single := by
      dsimp only [L2.KOf]
      refine' L2.Top.mk' KX G ?a ?l ?c ?k
      (case a => k_is); (case l => k_is); (case c => k_is); (case k => k_is)
    have T_law_turned : L2.Top (L2.KOf KX) mg "_law_turned" K64.s_law_turned := by
      dsimp only [L2.KOf]
      refine' L2.Top.mk' KX G ?a ?l ?c ?k
      (case a => k_is); (case l => k_is); (case c => k_is); (case k => k_is)
    have T_law_trail : L2.Top (L2.KOf KX) mg "_law_trail" K64.s_law_trail := by
      dsimp only [L2.KOf]
      refine' L2.Top.mk' KX G ?a ?l ?c ?k
      (case a => k_is); (case l => k_is); (case c => k_is); (case k => k_is)
    have T_law_tied_right : L2.Top (L2.KOf KX) mg "_law_tied_right" K64.s_law_tied_right := by
      dsimp only [L2.KOf]
      refine' L2.Top.mk' KX G ?a ?l ?c ?k
      (case a => k_is); (case l => k_is); (case c => k_is); (case k => k_is)
    have T_law_number : L2.Top (L2.KOf KX) mg "_law_number" K64.s_law_number := by
      dsimp only [L2.KOf]
      refine' L2.Top.mk' KX G ?a ?l ?c ?k
      (case a => k_is); (case l => k_is); (case c => k_is); (case k => k_is)
    have T_law : L2.Top (L2.KOf KX) mg "law" K64.s_law := by
      dsimp only [L2.KOf]
      refine' L2.Top.mk' KX G ?a ?l ?c ?k
      (case a => k_is); (case l => k_is); (case c => k_is); (case k => k_is)
    have z_ValueError : mg "ValueError" = none := by
      refine' PySem.W.mg_none_of KX G ?z
      (case z => k_is)
    have z_bool : mg "bool" = none := by
      refine' PySem.W.mg_none_of KX G ?z
      (case z => k_is)
    have z_int : mg "int" = none := by
      refine' PySem.W.mg_none_of KX G ?z
      (case z => k_is)
    have z_isinstance : mg "isinstance" = none := by
      refine' PySem.W.mg_none_of KX G ?z
      (case z => k_is)
    have z_len : mg "len" = none := by
      refine' PySem.W.mg_none_of KX G ?z
      (case z => k_is)
    have z_list : mg "list" = none := by
      refine' PySem.W.mg_none_of KX G ?z
      (case z => k_is)
    have z_max : mg "max" = none := by
      refine' PySem.W.mg_none_of KX G ?z
      (case z => k_is)
    have z_range : mg "range" = none := by
      refine' PySem.W.mg_none_of KX G ?z
      (case z => k_is)
    have z_reversed : mg "reversed" = none := by
      refine' PySem.W.mg_none_of KX G ?z
      (case z => k_is)
    have z_sorted : mg "sorted" = none := by
      refine' PySem.W.mg_none_of KX G ?z
      (case z => k_is)
    have z_tuple : mg "tuple" = none := by
      refine' PySem.W.mg_none_of KX G ?z
      (case z => k_is)
    have Z : K64.NoGl mg := by
      intro x hx
      simp only [List.mem_cons, List.not_mem_nil, or_false] at hx
      rcases hx with rfl | rfl | rfl | rfl | rfl | rfl | rfl | rfl | rfl | rfl | rfl <;> assumption
    have NL : Mir.noLists (L2.KOf KX) = true := by
      dsimp only [L2.KOf]
      first | rfl | kernel_rfl | k_is
    have CFF : ∃ C_Mixed C_CreditError C_Twice C_Overdrawn C_NotLess C_NoThing C_NoRow C_NoPlace C_NoNumber C_NoName C_Lacking C_Empty C_AtTop, K64.CF (L2.KOf KX) mg C_Mixed C_CreditError C_Twice C_Overdrawn C_NotLess C_NoThing C_NoRow C_NoPlace C_NoNumber C_NoName C_Lacking C_Empty C_AtTop := by
      dsimp only [L2.KOf]
      refine' ⟨_, _, _, _, _, _, _, _, _, _, _, _, _, ⟨?x_Mixed, PySem.W.mg_of KX G ?m_Mixed, PySem.W.mg_of KX G ?m_CreditError, ⟨?k_Mixed_0, ?k_Mixed_1, ?k_Mixed_2, ?k_Mixed_3, ?k_Mixed_4, ?k_Mixed_5, ?k_Mixed_6, ?k_Mixed_7⟩, PySem.W.mg_of KX G ?m_Twice, PySem.W.mg_of KX G ?m_Overdrawn, PySem.W.mg_of KX G ?m_NotLess, PySem.W.mg_of KX G ?m_NoThing, ?t_Mixed_NoThing_NotLess_Overdrawn_Twice, PySem.W.mg_of KX G ?m_NoRow, PySem.W.mg_of KX G ?m_NoPlace, PySem.W.mg_of KX G ?m_NoNumber, PySem.W.mg_of KX G ?m_NoName, PySem.W.mg_of KX G ?m_Lacking, PySem.W.mg_of KX G ?m_Empty, PySem.W.mg_of KX G ?m_AtTop, ?t_Mixed_AtTop_Empty_Lacking_NoName_NoNumber_NoPlace_NoRow, ?i_Mixed_Mixed, ?i_Mixed_ValueError, ?h_Mixed_CreditError⟩⟩
      (case m_Mixed => k_is)
      (case m_CreditError => k_is)
      (case m_Twice => k_is)
      (case m_Overdrawn => k_is)
      (case m_NotLess => k_is)
      (case m_NoThing => k_is)
      (case m_NoRow => k_is)
      (case m_NoPlace => k_is)
      (case m_NoNumber => k_is)
      (case m_NoName => k_is)
      (case m_Lacking => k_is)
      (case m_Empty => k_is)
      (case m_AtTop => k_is)
      (case x_Mixed => first | k_is | k_exc | rfl | kernel_rfl | decide +kernel)
      (case k_Mixed_0 => first | k_is | k_exc | rfl | kernel_rfl | decide +kernel)
      (case k_Mixed_1 => first | k_is | k_exc | rfl | kernel_rfl | decide +kernel)
      (case k_Mixed_2 => first | k_is | k_exc | rfl | kernel_rfl | decide +kernel)
      (case k_Mixed_3 => first | k_is | k_exc | rfl | kernel_rfl | decide +kernel)
      (case k_Mixed_4 => first | k_is | k_exc | rfl | kernel_rfl | decide +kernel)
      (case k_Mixed_5 => first | k_is | k_exc | rfl | kernel_rfl | decide +kernel)
      (case k_Mixed_6 => first | k_is | k_exc | rfl | kernel_rfl | decide +kernel)
      (case k_Mixed_7 => first | k_is | k_exc | rfl | kernel_rfl | decide +kernel)
      (case t_Mixed_NoThing_NotLess_Overdrawn_Twice => first | k_is | k_exc | rfl | kernel_rfl | decide +kernel)
      (case t_Mixed_AtTop_Empty_Lacking_NoName_NoNumber_NoPlace_NoRow => first | k_is | k_exc | rfl | kernel_rfl | decide +kernel)
      (case i_Mixed_Mixed => first | k_is | k_exc | rfl | kernel_rfl | decide +kernel)
      (case i_Mixed_ValueError => first | k_is | k_exc | rfl | kernel_rfl | decide +kernel)
      (case h_Mixed_CreditError => first | k_is | k_exc | rfl | kernel_rfl | decide +kernel)
    obtain ⟨C_Mixed, C_CreditError, C_Twice, C_Overdrawn, C_NotLess, C_NoThing, C_NoRow, C_NoPlace, C_NoNumber, C_NoName, C_Lacking, C_Empty, C_AtTop, cf⟩ := CFF
    refine ⟨T_law, fun f fd Ff base kb gb => ?_⟩
    have D_law_keys := K64.ok_law_keys (P := PySem.Challenge.rw_creditworks_k64_cut_and_tied.prog) (w := w) (base := base) Z T_law_keys
    have D_law_cell_at := K64.ok_law_cell_at (P := PySem.Challenge.rw_creditworks_k64_cut_and_tied.prog) (w := w) (base := base) Z T_law_cell_at
    have D_law_halves := K64.ok_law_halves (P := PySem.Challenge.rw_creditworks_k64_cut_and_tied.prog) (w := w) (base := base) Z T_law_halves  12
    have D_law_mixed := K64.ok_law_mixed (P := PySem.Challenge.rw_creditworks_k64_cut_and_tied.prog) (w := w) (base := base) Z T_law_mixed
    have D_law_order := K64.ok_law_order (P := PySem.Challenge.rw_creditworks_k64_cut_and_tied.prog) (w := w) (base := base) Z T_law_order D_law_mixed D_law_halves
    have D_law_put := K64.ok_law_put (P := PySem.Challenge.rw_creditworks_k64_cut_and_tied.prog) (w := w) (base := base) Z T_law_put  64
    have D_law_grown := K64.ok_law_grown (P := PySem.Challenge.rw_creditworks_k64_cut_and_tied.prog) (w := w) (base := base) Z T_law_grown D_law_keys D_law_order D_law_cell_at D_law_put
    have D_law_rising := K64.ok_law_rising (P := PySem.Challenge.rw_creditworks_k64_cut_and_tied.prog) (w := w) (base := base) Z T_law_rising  64
    have D_law_of := K64.ok_law_of (P := PySem.Challenge.rw_creditworks_k64_cut_and_tied.prog) (w := w) (base := base) Z T_law_of D_law_put
    have D_parts_to := K64.ok_parts_to (P := PySem.Challenge.rw_creditworks_k64_cut_and_tied.prog) (w := w) (base := base) Z T_parts_to
    have D_stands_left := K64.ok_stands_left (P := PySem.Challenge.rw_creditworks_k64_cut_and_tied.prog) (w := w) (base := base) Z T_stands_left
    have D_many_of := K64.ok_many_of (P := PySem.Challenge.rw_creditworks_k64_cut_and_tied.prog) (w := w) (base := base) Z T_many_of
    have D_tree_of := K64.ok_tree_of (P := PySem.Challenge.rw_creditworks_k64_cut_and_tied.prog) (w := w) (base := base) Z T_tree_of D_many_of
    have D_with_side := K64.ok_with_side (P := PySem.Challenge.rw_creditworks_k64_cut_and_tied.prog) (w := w) (base := base) Z T_with_side D_tree_of D_stands_left
    have D_hung_in := K64.ok_hung_in (P := PySem.Challenge.rw_creditworks_k64_cut_and_tied.prog) (w := w) (base := base) Z T_hung_in D_with_side
    have D_lifted := K64.ok_lifted (P := PySem.Challenge.rw_creditworks_k64_cut_and_tied.prog) (w := w) (base := base) Z T_lifted D_tree_of D_stands_left
    have D_bent := K64.ok_bent (P := PySem.Challenge.rw_creditworks_k64_cut_and_tied.prog) (w := w) (base := base) Z T_bent D_lifted D_with_side
    have D_straight := K64.ok_straight (P := PySem.Challenge.rw_creditworks_k64_cut_and_tied.prog) (w := w) (base := base) Z T_straight D_lifted
    have D_turn_key := K64.ok_turn_key (P := PySem.Challenge.rw_creditworks_k64_cut_and_tied.prog) (w := w) (base := base) Z T_turn_key D_hung_in D_bent D_stands_left D_straight D_lifted D_parts_to
    have D_turn_up := K64.ok_turn_up (P := PySem.Challenge.rw_creditworks_k64_cut_and_tied.prog) (w := w) (base := base) Z T_turn_up D_turn_key
    have D_parts_of := K64.ok_parts_of (P := PySem.Challenge.rw_creditworks_k64_cut_and_tied.prog) (w := w) (base := base) Z T_parts_of
    have D_keys_of := K64.ok_keys_of (P := PySem.Challenge.rw_creditworks_k64_cut_and_tied.prog) (w := w) (base := base) Z T_keys_of D_parts_of
    have R_tie_trees := K64.okx_tie_trees (P := PySem.Challenge.rw_creditworks_k64_cut_and_tied.prog) (w := w) (base := base) Z T_tie_trees cf D_tree_of D_turn_up D_keys_of
    have D_tie_trees := K64.ok_tie_trees (P := PySem.Challenge.rw_creditworks_k64_cut_and_tied.prog) (w := w) (base := base) Z T_tie_trees D_tree_of D_turn_up D_keys_of
    have D_law_refused := K64.ok_law_refused (P := PySem.Challenge.rw_creditworks_k64_cut_and_tied.prog) (w := w) (base := base) Z T_law_refused cf R_tie_trees
    have D_law_mixed_up := K64.ok_law_mixed_up (P := PySem.Challenge.rw_creditworks_k64_cut_and_tied.prog) (w := w) (base := base) Z T_law_mixed_up D_law_refused
    have D_law_never_joined := K64.ok_law_never_joined (P := PySem.Challenge.rw_creditworks_k64_cut_and_tied.prog) (w := w) (base := base) Z T_law_never_joined D_law_refused D_law_of D_law_mixed_up
    have D_way_to := K64.ok_way_to (P := PySem.Challenge.rw_creditworks_k64_cut_and_tied.prog) (w := w) (base := base) Z T_way_to D_parts_to
    have D_ask_tree := K64.ok_ask_tree (P := PySem.Challenge.rw_creditworks_k64_cut_and_tied.prog) (w := w) (base := base) Z T_ask_tree D_turn_up D_way_to
    have D_parted := K64.ok_parted (P := PySem.Challenge.rw_creditworks_k64_cut_and_tied.prog) (w := w) (base := base) Z T_parted D_tree_of
    have D_cut_tree := K64.ok_cut_tree (P := PySem.Challenge.rw_creditworks_k64_cut_and_tied.prog) (w := w) (base := base) Z T_cut_tree D_parted D_ask_tree
    have D_law_node := K64.ok_law_node (P := PySem.Challenge.rw_creditworks_k64_cut_and_tied.prog) (w := w) (base := base) Z T_law_node
    have D_law_parted := K64.ok_law_parted (P := PySem.Challenge.rw_creditworks_k64_cut_and_tied.prog) (w := w) (base := base) Z T_law_parted D_law_node
    have D_law_paid := K64.ok_law_paid (P := PySem.Challenge.rw_creditworks_k64_cut_and_tied.prog) (w := w) (base := base) Z T_law_paid
    have D_law_whole := K64.ok_law_whole (P := PySem.Challenge.rw_creditworks_k64_cut_and_tied.prog) (w := w) (base := base) Z T_law_whole
    have D_law_alike := K64.ok_law_alike (P := PySem.Challenge.rw_creditworks_k64_cut_and_tied.prog) (w := w) (base := base) Z T_law_alike D_law_whole 64
    have D_law_credit := K64.ok_law_credit (P := PySem.Challenge.rw_creditworks_k64_cut_and_tied.prog) (w := w) (base := base) Z T_law_credit  64
    have D_law_many := K64.ok_law_many (P := PySem.Challenge.rw_creditworks_k64_cut_and_tied.prog) (w := w) (base := base) Z T_law_many
    have D_law_cut_right := K64.ok_law_cut_right (P := PySem.Challenge.rw_creditworks_k64_cut_and_tied.prog) (w := w) (base := base) Z T_law_cut_right D_law_paid D_law_credit D_law_many D_law_alike D_law_parted D_ask_tree D_cut_tree
    have D_law_line := K64.ok_law_line (P := PySem.Challenge.rw_creditworks_k64_cut_and_tied.prog) (w := w) (base := base) Z T_law_line
    have D_law_pieces := K64.ok_law_pieces (P := PySem.Challenge.rw_creditworks_k64_cut_and_tied.prog) (w := w) (base := base) Z T_law_pieces  12
    have D_law_double := K64.ok_law_double (P := PySem.Challenge.rw_creditworks_k64_cut_and_tied.prog) (w := w) (base := base) Z T_law_double D_law_node D_law_pieces
    have D_law_single := K64.ok_law_single (P := PySem.Challenge.rw_creditworks_k64_cut_and_tied.prog) (w := w) (base := base) Z T_law_single D_law_node D_law_pieces
    have D_law_turned := K64.ok_law_turned (P := PySem.Challenge.rw_creditworks_k64_cut_and_tied.prog) (w := w) (base := base) Z T_law_turned D_law_node D_law_double D_law_single D_law_line
    have D_law_trail := K64.ok_law_trail (P := PySem.Challenge.rw_creditworks_k64_cut_and_tied.prog) (w := w) (base := base) Z T_law_trail D_law_alike D_law_turned
    have D_law_tied_right := K64.ok_law_tied_right (P := PySem.Challenge.rw_creditworks_k64_cut_and_tied.prog) (w := w) (base := base) Z T_law_tied_right D_law_paid D_law_credit D_law_alike D_law_node D_law_trail D_law_rising D_tie_trees
    have D_law_number := K64.ok_law_number (P := PySem.Challenge.rw_creditworks_k64_cut_and_tied.prog) (w := w) (base := base) Z T_law_number
    exact K64.ok_law NL Z Ff D_law_never_joined D_law_cell_at D_law_keys D_law_order D_law_tied_right D_law_mixed_up D_law_cut_right D_law_number D_law_rising D_law_grown

