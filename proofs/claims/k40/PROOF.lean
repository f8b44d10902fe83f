import PyProof.Rows.All
import Wide.All
import OpenK.AllK
import Wide.FinOn
import PyProof.EqAt
import PyProof.EqKinds
import PyProof.TupleCall
import PyProof.CompFree
import PyProof.Cells
import KE.KDictList
import KE.KDictLaws
import Lean
import PySem.Challenge.RW_touchtree_k40_focus
set_option Elab.async false
set_option linter.all false
set_option maxRecDepth 100000
namespace L2
open PySem PySem.Spec PyProof.Rows
noncomputable abbrev Key := Sum Int Str
noncomputable def keyIs : Key → Value → Bool
  | .inl k, v => Value.isInt k v
  | .inr x, v => Value.isStrOf x v
noncomputable def keyH (w : World) : Key → Int
  | .inl k => hashInt k
  | .inr x => hashStr w x
theorem keyIs_shape : ∀ {k : Key} {v : Value}, keyIs k v = true → (∃ i t, k = Sum.inl i ∧ v = Value.int i t) ∨ (∃ x t, k = Sum.inr x ∧ v = Value.str x t)
  | .inl i, v, h => by
    obtain ⟨t, e⟩ := Value.isInt_shape (k := i) (v := v) h
    exact .inl ⟨i, t, rfl, e⟩
  | .inr x, v, h => by
    obtain ⟨t, e⟩ := Value.isStrOf_shape (x := x) (v := v) h
    exact .inr ⟨x, t, rfl, e⟩
theorem key_ll (a b : Int) : decide ((Sum.inl a : Key) = Sum.inl b) = (a == b) := by
  by_cases e : a = b
  · subst e; simp
  · have h : ¬ (Sum.inl a : Key) = Sum.inl b := fun q => e (Sum.inl.inj q)
    rw [decide_eq_false h]
    exact (beq_eq_false_iff_ne.mpr e).symm
theorem key_rr (a b : Str) : decide ((Sum.inr a : Key) = Sum.inr b) = decide (a = b) := by
  by_cases e : a = b
  · subst e; simp
  · have h : ¬ (Sum.inr a : Key) = Sum.inr b := fun q => e (Sum.inr.inj q)
    rw [decide_eq_false h, decide_eq_false e]
theorem key_lr (a : Int) (b : Str) : decide ((Sum.inl a : Key) = Sum.inr b) = false := decide_eq_false (fun q => nomatch q)
theorem key_rl (a : Str) (b : Int) : decide ((Sum.inr a : Key) = Sum.inl b) = false := decide_eq_false (fun q => nomatch q)
noncomputable def mixKind (prog : Program) (w : World) : PySem.KeyKind prog w Key where
  is := keyIs
  hash := keyH w
  inj := fun v a b ha hb => by
    rcases keyIs_shape ha with ⟨i, t, rfl, rfl⟩ | ⟨x, t, rfl, rfl⟩
    · rcases keyIs_shape hb with ⟨j, u, rfl, e⟩ | ⟨y, u, rfl, e⟩
      · injection e with e1 _; rw [e1]
      · exact nomatch e
    · rcases keyIs_shape hb with ⟨j, u, rfl, e⟩ | ⟨y, u, rfl, e⟩
      · exact nomatch e
      · injection e with e1 _; rw [e1]
  byValue := fun k v h => by
    rcases keyIs_shape h with ⟨i, t, rfl, rfl⟩ | ⟨x, t, rfl, rfl⟩ <;> rfl
  pyHash := fun hv h => by
    rcases keyIs_shape hv with ⟨i, t, rfl, rfl⟩ | ⟨x, t, rfl, rfl⟩
    · exact wpAny_pyHash_int h
    · exact wpAny_pyHash_str h
  eqBool := fun hu hv h => by
    rcases keyIs_shape hu with ⟨i, t, rfl, rfl⟩ | ⟨x, t, rfl, rfl⟩
    · rcases keyIs_shape hv with ⟨j, u, rfl, rfl⟩ | ⟨y, u, rfl, rfl⟩
      · rw [key_ll] at h; exact wpAny_eqBool_int h
      · rw [key_lr] at h; exact SeqAt.EqAt.int_str i t y u _ _ _ _ h
    · rcases keyIs_shape hv with ⟨j, u, rfl, rfl⟩ | ⟨y, u, rfl, rfl⟩
      · rw [key_rl] at h; exact SeqAt.EqAt.str_int x t j u _ _ _ _ h
      · rw [key_rr] at h; exact wpAny_eqBool_str h
  «strs» := fun k x t v h => by
    rcases keyIs_shape h with ⟨i, u, rfl, e⟩ | ⟨y, u, rfl, e⟩
    · exact nomatch e
    · injection e with e1 _
      subst e1
      cases v <;> rfl
end L2
namespace L2
open PySem PySem.Spec PyProof.Rows
inductive V where
  | non | bl (b : Bool) | int (i : Int) | str (x : Str) | byt (b : Array UInt8) | flt (b : UInt64) | ref (a : Addr) | ty (n : String)
  deriving DecidableEq
noncomputable def RelV : V → Value → Prop
  | .non, u => u = Value.none
  | .bl b, u => u = Value.bool b
  | .int i, u => ∃ t, u = Value.int i t
  | .str x, u => ∃ t, u = Value.str x t
  | .byt b, u => ∃ t, u = Value.bytes b t
  | .flt b, u => ∃ t, u = Value.float b t
  | .ref a, u => u = Value.ref a
  | .ty n, u => u = Value.type n
noncomputable abbrev Vals : List V → List Value → Prop := Paired RelV
theorem Vals.length {xs : List V} {us : List Value} (r : Vals xs us) : xs.length = us.length := Paired.length r
theorem Vals.get : ∀ {xs : List V} {us : List Value} {i : Nat} {x : V}, Vals xs us → xs[i]? = some x → ∃ u, us[i]? = some u ∧ RelV x u
  | _, _, _, _, .nil, e => by simp at e
  | _, _, 0, _, .cons r _, e => by simp at e; subst e; exact ⟨_, rfl, r⟩
  | _, _, i + 1, x, .cons _ t, e => by
    obtain ⟨u, h1, h2⟩ := Vals.get (i := i) (x := x) t (by simpa using e)
    exact ⟨u, by simpa using h1, h2⟩
theorem Vals.append : ∀ {xs ys : List V} {us ws : List Value}, Vals xs us → Vals ys ws → Vals (xs ++ ys) (us ++ ws)
  | _, _, _, _, .nil, s => s
  | _, _, _, _, .cons r t, s => .cons r (Vals.append t s)
theorem Vals.take : ∀ {xs : List V} {us : List Value} (n : Nat), Vals xs us → Vals (xs.take n) (us.take n)
  | _, _, 0, _ => .nil
  | _, _, _ + 1, .nil => .nil
  | _, _, n + 1, .cons r t => .cons r (Vals.take n t)
theorem Vals.drop : ∀ {xs : List V} {us : List Value} (n : Nat), Vals xs us → Vals (xs.drop n) (us.drop n)
  | _, _, 0, r => r
  | _, _, _ + 1, .nil => .nil
  | _, _, n + 1, .cons _ t => Vals.drop n t
noncomputable def RelO : Option V → Option Value → Prop
  | some v, some u => RelV v u
  | none, none => True
  | _, _ => False
noncomputable def KV {κ : Type} : List (κ × V) → List (κ × Value) → Prop := Paired fun (p : κ × V) (q : κ × Value) => p.1 = q.1 ∧ RelV p.2 q.2
noncomputable def kV : Key → V
  | .inl i => .int i
  | .inr x => .str x
inductive HO where
  | lst (xs : List V)
  | tup (xs : List V)
  | dK (kvs : List (Key × V)) | dT (kvs : List (List Key × V))
  | set (S : Int → Bool) (n : Nat)
  | ins (C dx : Addr) (fs : List (Str × V))
  | own (x : Addr)
  | xd (fs : List (Str × V))
  | met (f x : Addr)
  | rng (lo hi : Int)
  | frz (o : Obj) (u : HO)
  | tbl (ps : Array Value)
  | ext (φ : Heap → Prop)
noncomputable abbrev Hp := Addr → Option HO
noncomputable def upd (H : Hp) (a : Addr) (o : HO) : Hp := fun b => if b = a then some o else H b
theorem upd_same {H : Hp} {a : Addr} {o : HO} : upd H a o a = some o := by unfold upd; rw [if_pos rfl]
theorem upd_ne {H : Hp} {a b : Addr} {o : HO} (h : b ≠ a) : upd H a o b = H b := by unfold upd; rw [if_neg h]
theorem ne_of_none {H : Hp} {a b : Addr} {o : HO} (h : H a = some o) (h' : H b = none) : a ≠ b := by
  intro e; subst e; rw [h] at h'; cases h'
section
variable (P : Program) (w : World)
noncomputable def ObjOk (H : Hp) (h : Heap) (a : Addr) : HO → Prop
  | .lst xs => xs.length ≤ sizeLine ∧ ∃ (its : List Value) (n : Nat), Vals xs its ∧ h.get? a = some { cls := .type "list", data := .seq its.toArray n }
  | .tup xs => xs.length ≤ sizeLine ∧ ∃ its : List Value, Vals xs its ∧ IsTup h a its.toArray
  | .dK kvs => kvs.length ≤ sizeLine ∧ (a == sysModules) = false ∧ ∃ vs, KV kvs vs ∧ h.DictOf (mixKind P w) a vs
  | .dT kvs => kvs.length ≤ sizeLine ∧ (a == sysModules) = false ∧ ∃ xs : List (List Key × Addr × Value),
      Paired (fun (p : List Key × V) (q : List Key × Addr × Value) => p.1 = q.1 ∧ H q.2.1 = some (.tup (p.1.map kV)) ∧ RelV p.2 q.2.2) kvs xs ∧
      ∃ o es ep, h.get? a = some o ∧ o.ExactDict ∧ o.data = .dict es ep ∧ es.toList = xs.map (entryOfKey (tupleKind (mixKind P w))) ∧ (xs.map (·.1)).Nodup
  | .set S n => h.SetOf (intKind P w) a S n
  | .ins C dx fs => H dx = some (.own a) ∧ fs.length ≤ 1000 ∧ dx ≠ a ∧ h.get? a = some (PySem.W.instObj C dx) ∧
      ∃ mA, h.Ns1 dx mA ∧ (∀ f, RelO (fs.lookup f) (mA f)) ∧ PySem.Within mA (fs.map (·.1))
  | .own _ => ∃ o, h.get? a = some o
  | .xd fs => ∃ mA, h.Ns1 a mA ∧ ∀ f, RelO (fs.lookup f) (mA f)
  | .rng lo hi => ∃ t u v, h.get? a = some { cls := .type "range", data := .fields #[.int lo t, .int hi u, .int 1 v] }
  | .frz o u => h.get? a = some o ∧ ObjOk H h a u
  | .tbl ps => h.get? a = some { cls := .none, data := .fields ps }
  | .met f x => h.get? a = some (PySem.W.methodObj (.ref f) (.ref x))
  | .ext φ => φ h ∧ (∃ o, h.get? a = some o) ∧ ∀ h1 h2 : Heap, φ h1 → (∀ o, h1.get? a = some o → h2.get? a = some o) → φ h2
noncomputable def HOk (H : Hp) (h : Heap) : Prop := ∀ a o, H a = some o → ObjOk P w H h a o
end
section
variable {P : Program} {w : World} {H H' : Hp} {h h' : Heap} {a : Addr} {o : HO}
theorem ObjOk.lt (x : ObjOk P w H h a o) : a < h.objs.size := by
  cases o with
  | lst xs => obtain ⟨_, _, _, _, e⟩ := x; exact Heap.lt_size e
  | tup xs => obtain ⟨_, _, _, p⟩ := x; exact p.lt
  | dK kvs => obtain ⟨_, _, _, _, o, _, _, e, _⟩ := x; exact Heap.lt_size e
  | dT kvs => obtain ⟨_, _, _, _, o, _, _, e, _⟩ := x; exact Heap.lt_size e
  | set S n => obtain ⟨o, _, _, _, e, _⟩ := x; exact Heap.lt_size e
  | ins C dx fs => obtain ⟨_, _, _, e, _⟩ := x; exact Heap.lt_size e
  | own y => obtain ⟨_, e⟩ := x; exact Heap.lt_size e
  | xd fs => obtain ⟨_, ⟨_, _, _, e, _⟩, _⟩ := x; exact Heap.lt_size e
  | rng lo hi => obtain ⟨_, _, _, e⟩ := x; exact Heap.lt_size e
  | frz ob u => obtain ⟨e, _⟩ := x; exact Heap.lt_size e
  | tbl ps => exact Heap.lt_size (show h.get? a = some _ from x)
  | met f y => exact Heap.lt_size (show h.get? a = some _ from x)
  | ext φ => obtain ⟨_, ⟨_, e⟩, _⟩ := x; exact Heap.lt_size e
theorem Paired.mapP {α β : Type} {F G : α → β → Prop} : ∀ {l₁ : List α} {l₂ : List β}, Paired F l₁ l₂ → (∀ a b, F a b → G a b) → Paired G l₁ l₂
  | _, _, .nil, _ => .nil
  | _, _, .cons r t, f => .cons (f _ _ r) (Paired.mapP t f)
theorem ObjOk.stay (x : ObjOk P w H h a o) (k : ∀ b u, (b = a ∨ H b = some (.own a)) → h.get? b = some u → h'.get? b = some u)
    (ho : ∀ b, H b = some (.own a) → H' b = some (.own a)) (ht : ∀ b xs, H b = some (.tup xs) → H' b = some (.tup xs)) : ObjOk P w H' h' a o := by
  induction o with
  | lst xs => obtain ⟨z, its, n, r, e⟩ := x; exact ⟨z, its, n, r, k _ _ (.inl rfl) e⟩
  | tup xs => obtain ⟨z, its, r, ob, e, c⟩ := x; exact ⟨z, its, r, ob, k _ _ (.inl rfl) e, c⟩
  | dK kvs => obtain ⟨z, y, vs, r, ob, es, ep, e, c⟩ := x; exact ⟨z, y, vs, r, ob, es, ep, k _ _ (.inl rfl) e, c⟩
  | dT kvs =>
    obtain ⟨z, y, xs, r, ob, es, ep, e, c⟩ := x
    exact ⟨z, y, xs, Paired.mapP r fun p q z => ⟨z.1, ht _ _ z.2.1, z.2.2⟩, ob, es, ep, k _ _ (.inl rfl) e, c⟩
  | set S n => obtain ⟨ob, es, ep, t, e, c⟩ := x; exact ⟨ob, es, ep, t, k _ _ (.inl rfl) e, c⟩
  | ins C dx fs =>
    obtain ⟨d, z, ne, e, mA, ⟨od, es, ep, e2, c⟩, r⟩ := x
    exact ⟨ho _ d, z, ne, k _ _ (.inl rfl) e, mA, ⟨od, es, ep, k _ _ (.inr d) e2, c⟩, r⟩
  | own y => obtain ⟨ob, e⟩ := x; exact ⟨ob, k _ _ (.inl rfl) e⟩
  | xd fs => obtain ⟨mA, ⟨od, es, ep, e, c⟩, r⟩ := x; exact ⟨mA, ⟨od, es, ep, k _ _ (.inl rfl) e, c⟩, r⟩
  | rng lo hi => obtain ⟨t, u, v, e⟩ := x; exact ⟨t, u, v, k _ _ (.inl rfl) e⟩
  | frz ob u ih => obtain ⟨e, q⟩ := x; exact ⟨k _ _ (.inl rfl) e, ih q⟩
  | tbl ps =>
    have e : h.get? a = some { cls := .none, data := .fields ps } := x
    show h'.get? a = some { cls := .none, data := .fields ps }
    exact k a _ (.inl rfl) e
  | met f y =>
    have e : h.get? a = some (PySem.W.methodObj (.ref f) (.ref y)) := x
    show h'.get? a = some (PySem.W.methodObj (.ref f) (.ref y))
    exact k a _ (.inl rfl) e
  | ext φ => obtain ⟨p, ⟨o, e⟩, st⟩ := x; exact ⟨st _ _ p fun o q => k _ _ (.inl rfl) q, ⟨o, k _ _ (.inl rfl) e⟩, st⟩
theorem HOk.lt (x : HOk P w H h) (e : H a = some o) : a < h.objs.size := (x a o e).lt
theorem HOk.fresh (x : HOk P w H h) (e : h.objs.size ≤ a) : H a = none := by
  cases q : H a with
  | none => rfl
  | some u => exact absurd (Nat.lt_of_lt_of_le (x.lt q) e) (Nat.lt_irrefl _)
theorem HOk.kept (x : HOk P w H h) (k : ∀ b u, h.get? b = some u → h'.get? b = some u) : HOk P w H h' := fun a o e =>
  (x a o e).stay (fun b u _ q => k b u q) (fun _ q => q) fun _ _ q => q
theorem HOk.laid (x : HOk P w H h) (k : ∀ b u, h.get? b = some u → h'.get? b = some u) (hp : h.objs.size ≤ a) (new : ObjOk P w (upd H a o) h' a o) : HOk P w (upd H a o) h' := fun b u e => by
  have hn := x.fresh hp
  by_cases hb : b = a
  · subst hb; rw [upd_same] at e; cases e; exact new
  · rw [upd_ne hb] at e
    exact (x b u e).stay (fun c v _ q => k c v q) (fun c q => by rw [upd_ne (ne_of_none q hn)]; exact q) fun c xs q => by rw [upd_ne (ne_of_none q hn)]; exact q
end
noncomputable def Rd (H : Hp) (a : Addr) (u : HO) : Prop := H a = some u ∨ ∃ o, H a = some (.frz o u)
theorem Rd.ok {P : Program} {w : World} {H : Hp} {h : Heap} {a : Addr} {u : HO} (r : Rd H a u) (x : HOk P w H h) : ObjOk P w H h a u := by
  rcases r with r | ⟨o, r⟩
  · exact x a u r
  · obtain ⟨_, q⟩ := x a _ r
    exact q
noncomputable def Mut : Option HO → Prop
  | some (.lst _) => True
  | some (.dK _) => True
  | some (.dT _) => True
  | some (.set _ _) => True
  | some (.ins _ _ _) => True
  | some (.ext _) => True
  | _ => False
section
variable {P : Program} {w : World} {H : Hp} {h h' : Heap} {x e : Addr} {o' : HO}
theorem HOk.write (ok : HOk P w H h) (mu : Mut (H x)) (he : e = x ∨ H e = some (.own x)) (k : ∀ b u, b ≠ e → h.get? b = some u → h'.get? b = some u) (heo : ∃ u, h'.get? e = some u)
    (new : ObjOk P w (upd H x o') h' x o') : HOk P w (upd H x o') h' := fun b u q => by
  have nown : ∀ c y, H c = some (.own y) → c ≠ x := fun c y r z => by subst z; rw [r] at mu; exact mu
  have ntup : ∀ c xs, H c = some (.tup xs) → c ≠ x := fun c xs r z => by subst z; rw [r] at mu; exact mu
  by_cases hb : b = x
  · subst hb; rw [upd_same] at q; cases q; exact new
  · rw [upd_ne hb] at q
    by_cases hbe : b = e
    · have q' : H b = some (.own x) := by
        rcases he with z | z
        · exact absurd (hbe.trans z) hb
        · rw [hbe]; exact z
      rw [q] at q'; cases q'
      obtain ⟨v, hv⟩ := heo
      exact ⟨v, by rw [hbe]; exact hv⟩
    · refine (ok b u q).stay (fun c v hc r => k c v ?_ r) (fun c r => by rw [upd_ne (nown c b r)]; exact r) fun c xs r => by rw [upd_ne (ntup c xs r)]; exact r
      rcases hc with rfl | hc
      · exact hbe
      · rintro rfl
        rcases he with z | z
        · exact nown c b hc z
        · rw [hc] at z; cases z; exact hb rfl
end
structure Un (fs ex : List Addr) (H H' : Hp) (h h' : Heap) : Prop where
  keep : ∀ b o, h.get? b = some o → H b = none → b ∉ fs → b ∉ ex → h'.get? b = some o
  slot : ∀ b o, h.get? b = some o → H b = none → b ∈ fs → b ∉ ex → ∃ sl, h'.get? b = some { o with slots := sl }
  free : ∀ b o, h.get? b = some o → H b = none → b ∉ ex → H' b = none
  there : ∀ b o, h.get? b = some o → b ∉ ex → ∃ o', h'.get? b = some o'
  tups : ∀ b xs, H b = some (.tup xs) → H' b = some (.tup xs)
  frzs : ∀ b o u, H b = some (.frz o u) → H' b = some (.frz o u)
  tbls : ∀ b ps, H b = some (.tbl ps) → ∃ more, H' b = some (.tbl (ps ++ more))
section
variable {fs fs' ex ex' : List Addr} {H H1 H2 : Hp} {h h1 h2 h' : Heap} {a x e : Addr} {o : HO}
theorem Un.any (u : Un fs ex H H1 h h1) {b : Addr} {ob : Obj} (q : h.get? b = some ob) (n : H b = none) (hx : b ∉ ex) : ∃ sl, h1.get? b = some { ob with slots := sl } := by
  by_cases hb : b ∈ fs
  · exact u.slot b ob q n hb hx
  · exact ⟨ob.slots, u.keep b ob q n hb hx⟩
theorem Un.kept (k : ∀ b u, h.get? b = some u → h'.get? b = some u) : Un fs ex H H h h' :=
  ⟨fun b ob q _ _ _ => k b ob q, fun b ob q _ _ _ => ⟨ob.slots, k b ob q⟩, fun _ _ _ n _ => n, fun b ob q _ => ⟨ob, k b ob q⟩, fun _ _ q => q, fun _ _ _ q => q, fun _ ps q => ⟨#[], by rw [q]; simp⟩⟩
theorem Un.refl : Un fs ex H H h h := Un.kept fun _ _ q => q
theorem Un.laid (k : ∀ b u, h.get? b = some u → h'.get? b = some u) (hp : h.objs.size ≤ a) (hn : H a = none) : Un fs ex H (upd H a o) h h' where
  keep := fun b u q _ _ _ => k b u q
  slot := fun b u q _ _ _ => ⟨u.slots, k b u q⟩
  free := fun b u q n _ => by rw [upd_ne (Nat.ne_of_lt (Nat.lt_of_lt_of_le (Heap.lt_size q) hp))]; exact n
  there := fun b u q _ => ⟨u, k b u q⟩
  tups := fun b xs q => by rw [upd_ne (ne_of_none q hn)]; exact q
  frzs := fun b u xs q => by rw [upd_ne (ne_of_none q hn)]; exact q
  tbls := fun b ps q => ⟨#[], by rw [upd_ne (ne_of_none q hn), q]; simp⟩
theorem Un.write (mu : Mut (H x)) (he : e = x ∨ H e = some (.own x)) (k : ∀ b u, b ≠ e → h.get? b = some u → h'.get? b = some u) (heo : ∃ u, h'.get? e = some u) : Un fs ex H (upd H x o) h h' := by
  have hx : ∀ b, H b = none → b ≠ x := fun b n z => by subst z; rw [n] at mu; exact mu
  have hb : ∀ b, H b = none → b ≠ e := fun b n z => by
    subst z
    rcases he with r | r
    · exact hx b n r
    · rw [n] at r; cases r
  have hm : ∀ b u, H b = some u → ¬ Mut (some u) → b ≠ x := fun b u q nm z => by subst z; rw [q] at mu; exact nm mu
  refine ⟨fun b u q n _ _ => k b u (hb b n) q, fun b u q n _ _ => ⟨u.slots, k b u (hb b n) q⟩, fun b u q n _ => by rw [upd_ne (hx b n)]; exact n, fun b u q _ => ?_,
    fun b xs q => by rw [upd_ne (hm b _ q fun z => z)]; exact q, fun b u xs q => by rw [upd_ne (hm b _ q fun z => z)]; exact q, fun b ps q => ⟨#[], by rw [upd_ne (hm b _ q fun z => z), q]; simp⟩⟩
  by_cases hbe : b = e
  · subst hbe; exact heo
  · exact ⟨u, k b u hbe q⟩
end
noncomputable def trk (h : Heap) (H : Hp) : List Addr := (List.range h.objs.size).filter fun a => (H a).isSome
noncomputable def hidT (h : Heap) (H : Hp) : Heap := PySem.W.hideAll h (trk h H)
theorem hidT_size (h : Heap) (H : Hp) : (hidT h H).objs.size = h.objs.size := PySem.W.hideAll_size _ _
theorem hidT_get {h : Heap} {H : Hp} {b : Addr} {o : Obj} (e : h.get? b = some o) (n : H b = none) : (hidT h H).get? b = some o :=
  PySem.W.hideAll_get _ e fun hm => by
    have q : (H b).isSome = true := (List.mem_filter.mp hm).2
    rw [n] at q; simp at q
theorem of_hidT {h : Heap} {H : Hp} {b : Addr} {o : Obj} (e : (hidT h H).get? b = some o) : h.get? b = some o ∧ H b = none := by
  have e' : h.get? b = some o := PySem.W.of_hideAll (trk h H) e
  refine ⟨e', ?_⟩
  cases q : H b with
  | none => rfl
  | some x =>
    have hm : b ∈ trk h H := List.mem_filter.mpr ⟨List.mem_range.mpr (Heap.lt_size e'), by simp [q]⟩
    have z : (hidT h H).get? b = none := PySem.W.hideAll_none (trk h H) hm
    rw [z] at e; cases e
noncomputable def allNews (g h : Heap) (L : Addr) : List (Addr × Obj) := (List.range h.objs.size).filterMap fun a => if a = L ∨ (g.get? a).isSome = true then none else (h.get? a).map fun o => (a, o)
noncomputable def rest (g h : Heap) (L d : Addr) : List (Addr × Obj) := (allNews g h L).filter fun p => decide (p.1 ≠ d)
end L2
namespace L2
open PySem PySem.Spec PyProof.Rows
structure Mod (K : PySem.W.Frag) (mg : Str → Option Value) (base : Heap) : Prop where
  kin : K.In base
  glob : base.Ns mainGlobals mg
  blt : ∃ mb, base.Ns builtinsNs mb ∧ ∀ x : Str, x ≠ "__name__" → mb x = bootBuiltins x
  nolimit : base.NoLimit
structure Cx where
  prog : Program
  w : World
  K : PySem.W.Frag
  mg : Str → Option Value
  base : Heap
  A : Around
  N : List Str
  s₀ : Shared
  H₀ : Hp
  env : Env
  outer : List Env
  stack : List Env
  ex : List Addr
  fn : Str → Bool
  calm : Bool
  pn : List (Addr × Obj)
  xe : Value → Shared → Prop
noncomputable def frs (l : List Env) : List Addr := l.filterMap (·.frame)
noncomputable abbrev Cx.fs (X : Cx) : List Addr := frs X.outer
noncomputable def Vis (sc : Scope) (x : Str) : Prop := sc.names.lookup x = some .local ∨ sc.names.lookup x = some .cell ∨ sc.names.lookup x = some .free
noncomputable def Loc (sc : Scope) (x : Str) : Prop := sc.names.lookup x = some .local ∨ sc.names.lookup x = some .cell
noncomputable def Look (env : Env) (h : Heap) (m : Str → Option Value) (x : Str) (u : Value) : Prop :=
  (env.kindOf x = some .local ∧ m x = some u) ∨ ((env.kindOf x = some .cell ∨ env.kindOf x = some .free) ∧ ∃ c, env.cells.lookup x = some c ∧ h.IsCell c (some u))
structure Cx.Ok (X : Cx) : Prop where
  mod : Mod X.K X.mg X.base
  kind : X.env.scope.kind = .function
  glob : X.env.globals = mainGlobals
  blt : X.env.builtins = builtinsNs
  above : X.s₀.heap.objs.size ≤ X.env.locals
  inj : ∀ x y c, X.env.cells.lookup x = some c → X.env.cells.lookup y = some c → x = y
  has : ∀ x, (X.env.kindOf x = some .cell ∨ X.env.kindOf x = some .free) → ∃ c, X.env.cells.lookup x = some c
  cab : ∀ x c, X.fn x = true → X.env.cells.lookup x = some c → X.s₀.heap.objs.size ≤ c
  hd : X.calm = true → X.A.handled = none
  frames : X.A.frames = some X.stack
  stk : X.stack = X.outer ∨ (X.stack = X.env :: X.outer ∧ X.env.frame = some X.env.locals)
  exf : ∀ b ∈ X.ex, b ≠ X.env.locals ∧ ∀ x c, X.env.cells.lookup x = some c → c ≠ b
  bs : ∀ b o, X.base.get? b = some o → X.s₀.heap.get? b = some o ∧ X.H₀ b = none
  bsz : X.base.objs.size ≤ X.s₀.heap.objs.size
  noex : ∀ b o, X.base.get? b = some o → b ∉ X.ex
  exfs : ∀ b ∈ X.ex, b ∉ X.fs
  funs : X.s₀.heap.FunFrames X.base X.outer
  frf : ∀ b ∈ X.fs, X.H₀ b = none
structure Inv (X : Cx) (pins : List (Addr × Obj)) (σ : List (Option V)) (H : Hp) (s : Shared) : Prop where
  ok : X.Ok
  os : s.os = X.s₀.os
  bare : AllBare s.gens
  base : Un X.fs X.ex X.H₀ H X.s₀.heap s.heap
  loc : ∃ m, s.heap.Ns X.env.locals m ∧ ∀ (i : Nat) (x : Str) (v : V), X.N[i]? = some x → σ[i]? = some (some v) → Vis X.env.scope x → ∃ u, RelV v u ∧ Look X.env s.heap m x u
  cell : ∀ x c, X.env.cells.lookup x = some c → ∃ v, s.heap.IsCell c v
  free : H X.env.locals = none
  freeC : ∀ x c, X.env.cells.lookup x = some c → H c = none
  pin : ∀ p ∈ X.pn ++ pins, s.heap.get? p.1 = some p.2 ∧ H p.1 = none ∧ p.1 ≠ X.env.locals ∧ p.1 ∉ X.fs ∧ ∀ v, p.2.data ≠ .cell v
  hok : HOk X.prog X.w H s.heap
  len : σ.length = X.N.length
section
variable {X : Cx} {pins : List (Addr × Obj)} {σ : List (Option V)} {H H' : Hp} {s : Shared} {h' : Heap}
theorem Cx.Ok.nofr (ok : X.Ok) {b : Addr} {o : Obj} (e : X.base.get? b = some o) : b ∉ X.fs := fun hb => by
  have := (ok.funs.mem hb).1
  rw [e] at this; cases this
theorem Inv.bs (I : Inv X pins σ H s) : ∀ b o, X.base.get? b = some o → s.heap.get? b = some o ∧ H b = none := fun b o e =>
  ⟨I.base.keep b o (I.ok.bs b o e).1 (I.ok.bs b o e).2 (I.ok.nofr e) (I.ok.noex b o e), I.base.free b o (I.ok.bs b o e).1 (I.ok.bs b o e).2 (I.ok.noex b o e)⟩
theorem Inv.bk (I : Inv X pins σ H s) : ∀ b o, X.base.get? b = some o → s.heap.get? b = some o := fun b o e => (I.bs b o e).1
theorem Inv.mod (I : Inv X pins σ H s) : Mod X.K X.mg X.base := I.ok.mod
theorem Inv.kIn (I : Inv X pins σ H s) : X.K.In s.heap := I.ok.mod.kin.keeps I.bk
theorem Inv.lt (I : Inv X pins σ H s) : X.env.locals < s.heap.objs.size := let ⟨_, hn, _⟩ := I.loc; hn.lt
theorem Inv.sz (I : Inv X pins σ H s) : X.s₀.heap.objs.size ≤ s.heap.objs.size := Nat.le_trans I.ok.above (Nat.le_of_lt I.lt)
theorem Inv.nofs (I : Inv X pins σ H s) {a : Addr} (h : s.heap.objs.size ≤ a) : a ∉ X.fs := fun hb => by
  obtain ⟨_, o, ho, _⟩ := I.ok.funs.mem hb
  exact absurd (Nat.lt_of_lt_of_le (Heap.lt_size ho) (Nat.le_trans I.sz h)) (Nat.lt_irrefl _)
theorem Inv.cne (I : Inv X pins σ H s) : ∀ x c, X.env.cells.lookup x = some c → c ≠ X.env.locals := fun x c e z => by
  obtain ⟨v, o, ho, hd⟩ := I.cell x c e
  obtain ⟨m, ⟨o', es, ep, ho', hd', _⟩, _⟩ := I.loc
  rw [z, ho'] at ho; cases ho; rw [hd'] at hd; cases hd
theorem Inv.funs (I : Inv X pins σ H s) : s.heap.FunFrames X.base X.outer := by
  have all : ∀ (l : List Env), (∀ b ∈ frs l, b ∈ X.fs) → X.s₀.heap.FunFrames X.base l → s.heap.FunFrames X.base l := by
    intro l
    induction l with
    | nil => intro _ _; trivial
    | cons env r ih =>
      intro hs hl
      obtain ⟨hk, ⟨L, o, hf, hn, ho, hd⟩, hr⟩ := hl
      have hL : L ∈ X.fs := hs L (by unfold frs; rw [List.filterMap_cons, hf]; exact List.mem_cons_self)
      obtain ⟨sl, e⟩ := I.base.slot L o ho (I.ok.frf L hL) hL fun z => I.ok.exfs L z hL
      exact ⟨hk, ⟨L, _, hf, hn, e, hd⟩, ih (fun b hb => hs b (by unfold frs; rw [List.filterMap_cons, hf]; exact List.mem_cons_of_mem _ hb)) hr⟩
  exact all X.outer (fun _ hb => hb) I.ok.funs
theorem Inv.stack (I : Inv X pins σ H s) : s.heap.FunFrames X.base X.stack := by
  rcases I.ok.stk with e | ⟨e, hf⟩
  · rw [e]; exact I.funs
  · rw [e]
    obtain ⟨m, hn, _⟩ := I.loc
    refine .cons (by rw [I.ok.kind]; decide) hf hn ?_ I.funs
    exact Heap.get?_none_of_le (Nat.le_trans I.ok.bsz I.ok.above)
theorem Inv.stkSub (I : Inv X pins σ H s) : ∀ b ∈ frs X.stack, b ∈ X.env.locals :: X.fs := fun b hb => by
  rcases I.ok.stk with e | ⟨e, hf⟩
  · rw [e] at hb; exact List.mem_cons_of_mem _ hb
  · rw [e] at hb
    unfold frs at hb
    rw [List.filterMap_cons, hf] at hb
    exact hb
theorem Inv.stkFree (I : Inv X pins σ H s) : ∀ b ∈ frs X.stack, H b = none := fun b hb => by
  rcases List.mem_cons.mp (I.stkSub b hb) with e | hb
  · rw [e]; exact I.free
  · obtain ⟨_, o, ho, _⟩ := I.ok.funs.mem hb
    exact I.base.free b o ho (I.ok.frf b hb) fun z => I.ok.exfs b z hb
theorem Inv.step {g' : Array GenState} {t' : Nat} {d' : Drawn} {ch : List Addr} (I : Inv X pins σ H s)
    (hch : ∀ b ∈ ch, (b ∈ X.ex ∨ X.s₀.heap.objs.size ≤ b) ∧ b ≠ X.env.locals ∧ (∀ x c, X.env.cells.lookup x = some c → c ≠ b) ∧ ∀ p ∈ X.pn ++ pins, p.1 ≠ b)
    (keep : ∀ b o, b ≠ X.env.locals → b ∉ X.fs → b ∉ ch → s.heap.get? b = some o → H b = none → h'.get? b = some o)
    (slot : ∀ b o, b ≠ X.env.locals → b ∈ X.fs → b ∉ ch → s.heap.get? b = some o → H b = none → ∃ sl, h'.get? b = some { o with slots := sl }) (free : ∀ b o, b ∉ ch → s.heap.get? b = some o → H b = none → H' b = none)
    (there : ∀ b o, b ∉ ch → s.heap.get? b = some o → ∃ o', h'.get? b = some o')
    (tups : ∀ b xs, H b = some (.tup xs) → H' b = some (.tup xs)) (frzs : ∀ b o u, H b = some (.frz o u) → H' b = some (.frz o u)) (tbls : ∀ b ps, H b = some (.tbl ps) → ∃ more, H' b = some (.tbl (ps ++ more)))
    (ns : ∀ m, s.heap.Ns X.env.locals m → h'.Ns X.env.locals m) (hok : HOk X.prog X.w H' h') (hg : AllBare g') :
    Inv X pins σ H' { s with heap := h', gens := g', drawn := d', toks := t' } := by
  have neL : ∀ b o, X.s₀.heap.get? b = some o → b ≠ X.env.locals := fun b o e => Nat.ne_of_lt (Nat.lt_of_lt_of_le (Heap.lt_size e) I.ok.above)
  have neC : ∀ b o, X.s₀.heap.get? b = some o → b ∉ X.ex → b ∉ ch := fun b o e hx hb => by
    rcases (hch b hb).1 with z | z
    · exact hx z
    · exact absurd (Nat.lt_of_lt_of_le (Heap.lt_size e) z) (Nat.lt_irrefl _)
  have cellK : ∀ x c, X.env.cells.lookup x = some c → ∀ v, s.heap.IsCell c v → h'.IsCell c v := fun x c e v ⟨o, ho, hd⟩ => by
    have nch : c ∉ ch := fun z => (hch c z).2.2.1 x c e rfl
    by_cases hc : c ∈ X.fs
    · obtain ⟨sl, q⟩ := slot c o (I.cne x c e) hc nch ho (I.freeC x c e)
      exact ⟨_, q, hd⟩
    · exact ⟨o, keep c o (I.cne x c e) hc nch ho (I.freeC x c e), hd⟩
  refine ⟨I.ok, I.os, hg, ⟨fun b o e n hb hx => ?_, fun b o e n hb hx => ?_, fun b o e n hx => ?_, fun b o e hx => ?_, fun b xs e => tups b xs (I.base.tups b xs e), fun b o xs e => frzs b o xs (I.base.frzs b o xs e), fun b ps e => ?_⟩, ?_, fun x c e => ?_, ?_, fun x c e => ?_, fun p hp => ?_, hok, I.len⟩
  · exact keep b o (neL b o e) hb (neC b o e hx) (I.base.keep b o e n hb hx) (I.base.free b o e n hx)
  · obtain ⟨sl, e1⟩ := I.base.slot b o e n hb hx
    obtain ⟨sl', e2⟩ := slot b _ (neL b o e) hb (neC b o e hx) e1 (I.base.free b o e n hx)
    exact ⟨sl', e2⟩
  · obtain ⟨o', e1⟩ := I.base.there b o e hx
    exact free b o' (neC b o e hx) e1 (I.base.free b o e n hx)
  · obtain ⟨o', e1⟩ := I.base.there b o e hx
    exact there b o' (neC b o e hx) e1
  · obtain ⟨m1, e1⟩ := I.base.tbls b ps e
    obtain ⟨m2, e2⟩ := tbls b _ e1
    exact ⟨m1 ++ m2, by rw [e2, Array.append_assoc]⟩
  · obtain ⟨m, hn, hl⟩ := I.loc
    refine ⟨m, ns m hn, fun i x v e1 e2 e3 => ?_⟩
    obtain ⟨u, r, l⟩ := hl i x v e1 e2 e3
    refine ⟨u, r, ?_⟩
    rcases l with l | ⟨k, c, e, z⟩
    · exact .inl l
    · exact .inr ⟨k, c, e, cellK x c e _ z⟩
  · obtain ⟨v, z⟩ := I.cell x c e
    exact ⟨v, cellK x c e v z⟩
  · obtain ⟨m, ⟨o, _, _, ho, _⟩, _⟩ := I.loc
    exact free _ o (fun z => (hch _ z).2.1 rfl) ho I.free
  · obtain ⟨v, o, ho, hd⟩ := I.cell x c e
    exact free c o (fun z => (hch c z).2.2.1 x c e rfl) ho (I.freeC x c e)
  · obtain ⟨e, n, ne, nf, d⟩ := I.pin p hp
    have nch : p.1 ∉ ch := fun z => (hch p.1 z).2.2.2 p hp rfl
    exact ⟨keep p.1 p.2 ne nf nch e n, free p.1 p.2 nch e n, ne, nf, d⟩
theorem Inv.un {t' : Nat} (I : Inv X pins σ H s) (u : Un X.fs [] H H' s.heap h') (hok : HOk X.prog X.w H' h') : Inv X pins σ H' { s with heap := h', toks := t' } := by
  obtain ⟨m, ⟨o, es, ep, ho, r⟩, _⟩ := id I.loc
  obtain ⟨sl, hL⟩ := u.any ho I.free (by simp)
  exact I.step (g' := s.gens) (d' := s.drawn) (ch := []) (fun _ z => nomatch z) (fun b o _ hb _ e n => u.keep b o e n hb (by simp)) (fun b o _ hb _ e n => u.slot b o e n hb (by simp)) (fun b o _ e n => u.free b o e n (by simp)) (fun b o _ e => u.there b o e (by simp)) u.tups u.frzs u.tbls (fun m' hm => by
    obtain ⟨o', es', ep', ho', r'⟩ := hm
    rw [ho] at ho'; cases ho'
    exact ⟨_, es', ep', hL, r'⟩) hok I.bare
theorem Inv.call {g' : Array GenState} {t' : Nat} {d' : Drawn} {ch : List Addr} (I : Inv X pins σ H s) (u : Un (frs X.stack) ch H H' s.heap h') (hok : HOk X.prog X.w H' h') (hg : AllBare g')
    (hch : ∀ b ∈ ch, (b ∈ X.ex ∨ X.s₀.heap.objs.size ≤ b) ∧ b ≠ X.env.locals ∧ (∀ x c, X.env.cells.lookup x = some c → c ≠ b) ∧ ∀ p ∈ X.pn ++ pins, p.1 ≠ b) :
    Inv X pins σ H' { s with heap := h', gens := g', drawn := d', toks := t' } := by
  obtain ⟨m, ⟨o, es, ep, ho, r⟩, _⟩ := id I.loc
  obtain ⟨sl, hL⟩ := u.any ho I.free fun z => (hch _ z).2.1 rfl
  exact I.step (ch := ch) hch (fun b o hL hb hc e n => u.keep b o e n (fun z => (List.mem_cons.mp (I.stkSub b z)).elim hL hb) hc) (fun b o _ _ hc e n => u.any e n hc) (fun b o hc e n => u.free b o e n hc) (fun b o hc e => u.there b o e hc) u.tups u.frzs u.tbls (fun m' hm => by
    obtain ⟨o', es', ep', ho', r'⟩ := hm
    rw [ho] at ho'; cases ho'
    exact ⟨_, es', ep', hL, r'⟩) hok hg
theorem Inv.turned {t' : Nat} {it : Addr} (I : Inv X pins σ H s) (k : ∀ b o, b ≠ it → s.heap.get? b = some o → h'.get? b = some o) (hn : H it = none) (hL : it ≠ X.env.locals)
    (h1 : it ∈ X.ex ∨ X.s₀.heap.objs.size ≤ it) (h2 : ∀ x c, X.env.cells.lookup x = some c → c ≠ it) (h3 : ∀ p ∈ X.pn ++ pins, p.1 ≠ it) : Inv X pins σ H { s with heap := h', toks := t' } := by
  have nit : ∀ b u, H b = some u → b ≠ it := fun b u e z => by rw [z, hn] at e; cases e
  refine I.step (g' := s.gens) (d' := s.drawn) (ch := [it]) (fun b hb => ?_) (fun b o _ _ hc e _ => k b o (fun z => hc (by simp [z])) e) (fun b o _ _ hc e _ => ⟨o.slots, k b o (fun z => hc (by simp [z])) e⟩) (fun _ _ _ _ n => n)
    (fun b o hc e => ⟨o, k b o (fun z => hc (by simp [z])) e⟩) (fun _ _ e => e) (fun _ _ _ e => e) (fun b ps e => ⟨#[], by rw [e]; simp⟩) (fun m hm => ?_) (fun b u e => ?_) I.bare
  · have e : b = it := by simpa using hb
    subst e
    exact ⟨h1, hL, h2, h3⟩
  · obtain ⟨o, es, ep, ho, r⟩ := hm
    exact ⟨o, es, ep, k _ o (Ne.symm hL) ho, r⟩
  · refine (I.hok b u e).stay (fun c v hc q => k c v ?_ q) (fun _ q => q) fun _ _ q => q
    rcases hc with z | z
    · rw [z]; exact nit b u e
    · exact nit c _ z
theorem Inv.tok (I : Inv X pins σ H s) (t : Nat) : Inv X pins σ H { s with toks := t } := I.un (h' := s.heap) (t' := t) Un.refl I.hok
theorem Inv.kept {t' : Nat} (I : Inv X pins σ H s) (k : ∀ b u, s.heap.get? b = some u → h'.get? b = some u) : Inv X pins σ H { s with heap := h', toks := t' } := I.un (Un.kept k) (I.hok.kept k)
theorem Inv.laid {a : Addr} {o : HO} {t' : Nat} (I : Inv X pins σ H s) (k : ∀ b u, s.heap.get? b = some u → h'.get? b = some u) (hp : s.heap.objs.size ≤ a) (new : ObjOk X.prog X.w (upd H a o) h' a o) :
    Inv X pins σ (upd H a o) { s with heap := h', toks := t' } := I.un (Un.laid k hp (I.hok.fresh hp)) (I.hok.laid k hp new)
theorem Inv.write {x e : Addr} {o : HO} {t' : Nat} (I : Inv X pins σ H s) (mu : Mut (H x)) (he : e = x ∨ H e = some (.own x)) (k : ∀ b u, b ≠ e → s.heap.get? b = some u → h'.get? b = some u) (heo : ∃ u, h'.get? e = some u)
    (new : ObjOk X.prog X.w (upd H x o) h' x o) : Inv X pins σ (upd H x o) { s with heap := h', toks := t' } := I.un (Un.write mu he k heo) (I.hok.write mu he k heo new)
theorem Inv.weak {σ' : List (Option V)} (I : Inv X pins σ H s) (hl : σ'.length = σ.length) (w : ∀ (i : Nat) v, σ'[i]? = some (some v) → σ[i]? = some (some v)) : Inv X pins σ' H s :=
  ⟨I.ok, I.os, I.bare, I.base, let ⟨m, hn, hl'⟩ := I.loc; ⟨m, hn, fun i x v e1 e2 e3 => hl' i x v e1 (w i v e2) e3⟩, I.cell, I.free, I.freeC, I.pin, I.hok, hl.trans I.len⟩
theorem Inv.pins_of {pins' : List (Addr × Obj)} (I : Inv X pins σ H s) (h : ∀ p ∈ pins', s.heap.get? p.1 = some p.2 ∧ H p.1 = none ∧ p.1 ≠ X.env.locals ∧ p.1 ∉ X.fs ∧ ∀ v, p.2.data ≠ .cell v) : Inv X pins' σ H s :=
  ⟨I.ok, I.os, I.bare, I.base, I.loc, I.cell, I.free, I.freeC, fun p hp => (List.mem_append.mp hp).elim (fun z => I.pin p (List.mem_append_left _ z)) (h p), I.hok, I.len⟩
theorem nodup_ix {N : List Str} (hN : N.Nodup) {i j : Nat} {x : Str} (a : N[i]? = some x) (b : N[j]? = some x) : i = j := by
  obtain ⟨h1, e1⟩ := List.getElem?_eq_some_iff.mp a
  obtain ⟨h2, e2⟩ := List.getElem?_eq_some_iff.mp b
  exact (List.getElem_inj hN).mp (e1.trans e2.symm)
theorem store_ok2 {M : Model} {A : Around} {E : Value → Shared → Prop} {i : Nat} {x : Str} {v : V} {u : Value} {Q : Unit → Shared → Prop} (I : Inv X pins σ H s) (hN : X.N.Nodup) (hi : X.N[i]? = some x) (hx : Loc X.env.scope x) (r : RelV v u)
    (h : ∀ s', Inv X pins (σ.set i (some v)) H s' → (∃ a, Heap.SameBut a s.heap s'.heap ∧ (a = X.env.locals ∨ X.env.cells.lookup x = some a)) → Q () s') (hf : X.fn x = true ∨ X.env.scope.names.lookup x = some .local := by first | exact .inl rfl | exact .inr rfl | assumption) : wpAny M A (storeName X.env x u) Q E s := by
  obtain ⟨m, hn, hl⟩ := id I.loc
  have hcls : (X.env.scope.kind == .class || (X.env.scope.kind == .module && X.env.locals != X.env.globals)) = false := by rw [I.ok.kind]; rfl
  have hiσ : i < σ.length := by rw [I.len]; exact (List.getElem?_eq_some_iff.mp hi).1
  have cne := I.cne
  have tracked : ∀ {a : Addr} {h' : Heap}, (∃ o, s.heap.get? a = some o ∧ H a = none) → Heap.SameBut a s.heap h' → HOk X.prog X.w H h' := fun {a h'} ha hs b ob e => by
    obtain ⟨_, _, hfree⟩ := ha
    refine (I.hok b ob e).stay (fun c w' hc q => (hs.2 c ?_).trans q) (fun _ q => q) fun _ _ q => q
    rintro rfl
    rcases hc with rfl | hc
    · rw [hfree] at e; cases e
    · rw [hfree] at hc; cases hc
  rcases hx with hk | hk
  · refine wpAny_storeName_local hk hn (fun h' hn' hs => ?_) hcls
    obtain ⟨oL, _, _, hoL, _⟩ := id hn
    refine h _ ⟨I.ok, I.os, I.bare, ⟨fun b o e n hb hx => ?_, fun b o e n hb hx => ?_, I.base.free, fun b o e hx => ?_, I.base.tups, I.base.frzs, I.base.tbls⟩, ⟨_, hn', fun j y v' e1 e2 e3 => ?_⟩, fun y c e => ?_, I.free, I.freeC, fun p hp => ?_, tracked ⟨oL, hoL, I.free⟩ hs, by simpa using I.len⟩ ⟨_, hs, .inl rfl⟩
    · exact (hs.2 b (Nat.ne_of_lt (Nat.lt_of_lt_of_le (Heap.lt_size e) I.ok.above))).trans (I.base.keep b o e n hb hx)
    · obtain ⟨sl, e1⟩ := I.base.slot b o e n hb hx
      exact ⟨sl, (hs.2 b (Nat.ne_of_lt (Nat.lt_of_lt_of_le (Heap.lt_size e) I.ok.above))).trans e1⟩
    · obtain ⟨o', e1⟩ := I.base.there b o e hx
      exact ⟨o', (hs.2 b (Nat.ne_of_lt (Nat.lt_of_lt_of_le (Heap.lt_size e) I.ok.above))).trans e1⟩
    · by_cases hj : j = i
      · subst hj
        rw [hi] at e1; cases e1
        rw [List.getElem?_set_self hiσ] at e2
        cases e2
        exact ⟨u, r, .inl ⟨hk, by simp⟩⟩
      · rw [List.getElem?_set_ne (Ne.symm hj)] at e2
        obtain ⟨u', r', q⟩ := hl j y v' e1 e2 e3
        refine ⟨u', r', ?_⟩
        rcases q with ⟨k, e⟩ | ⟨k, c, e, z⟩
        · refine .inl ⟨k, ?_⟩
          have : y ≠ x := fun e => hj (nodup_ix hN e1 (e ▸ hi))
          simp [this, e]
        · exact .inr ⟨k, c, e, z.sameBut hs (cne y c e)⟩
    · obtain ⟨w', z⟩ := I.cell y c e
      exact ⟨w', z.sameBut hs (cne y c e)⟩
    · obtain ⟨e, n, ne, nf, d⟩ := I.pin p hp
      exact ⟨(hs.2 p.1 ne).trans e, n, ne, nf, d⟩
  · have hfn : X.fn x = true := by
      rcases hf with z | z
      · exact z
      · rw [z] at hk; cases hk
    obtain ⟨c, hc⟩ := I.ok.has x (.inl hk)
    obtain ⟨w', z⟩ := I.cell x c hc
    refine wpAny_storeName_cell I.ok.kind hk hc z (fun h' hc' hs => ?_)
    obtain ⟨oc, hoc, hocd⟩ := id z
    refine h { s with heap := h' } ⟨I.ok, I.os, I.bare, ⟨fun b o e n hb hx => ?_, fun b o e n hb hx => ?_, I.base.free, fun b o e hx => ?_, I.base.tups, I.base.frzs, I.base.tbls⟩, ⟨m, hn.sameBut hs (Ne.symm (cne x c hc)), fun j y v' e1 e2 e3 => ?_⟩, fun y c' e => ?_, I.free, I.freeC, fun p hp => ?_, tracked ⟨oc, hoc, I.freeC x c hc⟩ hs, by simpa using I.len⟩ ⟨c, hs, .inr hc⟩
    · exact (hs.2 b (Nat.ne_of_lt (Nat.lt_of_lt_of_le (Heap.lt_size e) (I.ok.cab x c hfn hc)))).trans (I.base.keep b o e n hb hx)
    · obtain ⟨sl, e1⟩ := I.base.slot b o e n hb hx
      exact ⟨sl, (hs.2 b (Nat.ne_of_lt (Nat.lt_of_lt_of_le (Heap.lt_size e) (I.ok.cab x c hfn hc)))).trans e1⟩
    · obtain ⟨o', e1⟩ := I.base.there b o e hx
      exact ⟨o', (hs.2 b (Nat.ne_of_lt (Nat.lt_of_lt_of_le (Heap.lt_size e) (I.ok.cab x c hfn hc)))).trans e1⟩
    · by_cases hj : j = i
      · subst hj
        rw [hi] at e1; cases e1
        rw [List.getElem?_set_self hiσ] at e2
        cases e2
        exact ⟨u, r, .inr ⟨.inl hk, c, hc, hc'⟩⟩
      · rw [List.getElem?_set_ne (Ne.symm hj)] at e2
        obtain ⟨u', r', q⟩ := hl j y v' e1 e2 e3
        refine ⟨u', r', ?_⟩
        rcases q with q | ⟨k, c', e, z'⟩
        · exact .inl q
        · refine .inr ⟨k, c', e, z'.sameBut hs ?_⟩
          rintro rfl
          exact hj (nodup_ix hN e1 (I.ok.inj _ _ _ e hc ▸ hi))
    · by_cases hcc : c' = c
      · subst hcc; exact ⟨_, hc'⟩
      · obtain ⟨w2, z2⟩ := I.cell y c' e
        exact ⟨w2, z2.sameBut hs hcc⟩
    · obtain ⟨e, n, ne, nf, d⟩ := I.pin p hp
      refine ⟨(hs.2 p.1 ?_).trans e, n, ne, nf, d⟩
      intro q
      rw [q, hoc] at e
      have q' : oc = p.2 := Option.some.inj e
      exact d w' (by rw [← q']; exact hocd)
theorem store_ok {M : Model} {A : Around} {E : Value → Shared → Prop} {i : Nat} {x : Str} {v : V} {u : Value} {Q : Unit → Shared → Prop} (I : Inv X pins σ H s) (hN : X.N.Nodup) (hi : X.N[i]? = some x) (hx : Loc X.env.scope x) (r : RelV v u)
    (h : ∀ s', Inv X pins (σ.set i (some v)) H s' → Q () s') (hf : X.fn x = true ∨ X.env.scope.names.lookup x = some .local := by first | exact .inl rfl | exact .inr rfl | assumption) : wpAny M A (storeName X.env x u) Q E s :=
  store_ok2 I hN hi hx r (fun s' I' _ => h s' I') hf
theorem Inv.call' {s' : Shared} {ch : List Addr} (I : Inv X pins σ H s) (ho : s'.os = s.os) (u : Un (frs X.stack) ch H H' s.heap s'.heap) (hok : HOk X.prog X.w H' s'.heap) (hg : AllBare s'.gens)
    (hch : ∀ b ∈ ch, (b ∈ X.ex ∨ X.s₀.heap.objs.size ≤ b) ∧ b ≠ X.env.locals ∧ (∀ x c, X.env.cells.lookup x = some c → c ≠ b) ∧ ∀ p ∈ X.pn ++ pins, p.1 ≠ b) : Inv X pins σ H' s' := by
  obtain ⟨h', g', d', t', o'⟩ := s'
  have e : o' = s.os := ho
  subst e
  exact I.call (g' := g') (t' := t') (d' := d') u hok hg hch
end
noncomputable abbrev XK := Value → Option Addr → Hp → Prop
noncomputable abbrev St := List (Option V)
noncomputable abbrev VK := V → Hp → Prop
noncomputable abbrev TE := St → Hp → VK → Prop
noncomputable abbrev TT := St → Hp → (Bool → Hp → Prop) → Prop
noncomputable abbrev TA := St → Hp → (List V → Hp → Prop) → Prop
structure Ends where
  nx : St → Hp → Prop
  rt : VK
  bk : St → Hp → Prop := fun _ _ => False
  ct : St → Hp → Prop := fun _ _ => False
noncomputable abbrev TS := Ends → St → Hp → Prop
noncomputable def EP (X : Cx) (pins : List (Addr × Obj)) (σ : St) (Q : VK) (u : Value) (s' : Shared) : Prop := ∃ v H', Inv X pins σ H' s' ∧ RelV v u ∧ Q v H'
noncomputable def TP (X : Cx) (pins : List (Addr × Obj)) (σ : St) (Q : Bool → Hp → Prop) (b : Bool) (s' : Shared) : Prop := ∃ H', Inv X pins σ H' s' ∧ Q b H'
noncomputable def AP (X : Cx) (pins : List (Addr × Obj)) (σ : St) (Q : List V → Hp → Prop) (us : List Value) (s' : Shared) : Prop := ∃ vs H', Inv X pins σ H' s' ∧ Vals vs us ∧ Q vs H'
noncomputable def SP (X : Cx) (pins : List (Addr × Obj)) (D : Ends) (f : Flow) (s' : Shared) : Prop :=
  match f with
  | .next => ∃ σ' H', Inv X pins σ' H' s' ∧ D.nx σ' H'
  | .brk => ∃ σ' H', Inv X pins σ' H' s' ∧ D.bk σ' H'
  | .cont => ∃ σ' H', Inv X pins σ' H' s' ∧ D.ct σ' H'
  | .ret u => ∃ v σ' H', Inv X pins σ' H' s' ∧ RelV v u ∧ D.rt v H'
noncomputable def PE (X : Cx) (e : Expr) (t : TE) : Prop :=
  ∀ (pins : List (Addr × Obj)) (s : Shared) (σ : St) (H : Hp) (Q : VK), Inv X pins σ H s → t σ H Q → wpAny (model X.prog X.w) X.A (eval e X.env) (EP X pins σ Q) X.xe s
noncomputable def PT (X : Cx) (e : Expr) (t : TT) : Prop :=
  ∀ (pins : List (Addr × Obj)) (s : Shared) (σ : St) (H : Hp) (Q : Bool → Hp → Prop), Inv X pins σ H s → t σ H Q → wpAny (model X.prog X.w) X.A (isTrue e X.env (eval e X.env)) (TP X pins σ Q) X.xe s
noncomputable def PW (X : Cx) (e : Expr) (t : TT) : Prop :=
  ∀ (whole : Sem Value) (pins : List (Addr × Obj)) (s : Shared) (σ : St) (H : Hp) (Q : Bool → Hp → Prop), Inv X pins σ H s → t σ H Q → wpAny (model X.prog X.w) X.A (isTrue e X.env whole) (TP X pins σ Q) X.xe s
theorem PW.pt {X : Cx} {e : Expr} {t : TT} (h : PW X e t) : PT X e t := h _
noncomputable def PA (X : Cx) (es : List Expr) (t : TA) : Prop :=
  ∀ (pos : Pos) (pins : List (Addr × Obj)) (s : Shared) (σ : St) (H : Hp) (Q : List V → Hp → Prop), Inv X pins σ H s → t σ H Q → wpAny (model X.prog X.w) X.A (spliced (backTo pos (starEach es X.env))) (AP X pins σ Q) X.xe s
noncomputable def PS (X : Cx) (st : Stmt) (t : TS) : Prop :=
  ∀ (pins : List (Addr × Obj)) (s : Shared) (σ : St) (H : Hp) (D : Ends), Inv X pins σ H s → t D σ H → wpAny (model X.prog X.w) X.A (exec st X.env) (SP X pins D) X.xe s
noncomputable def PSs (X : Cx) (st : List Stmt) (t : TS) : Prop :=
  ∀ (pins : List (Addr × Obj)) (s : Shared) (σ : St) (H : Hp) (D : Ends), Inv X pins σ H s → t D σ H → wpAny (model X.prog X.w) X.A (execs st X.env) (SP X pins D) X.xe s
theorem thn {α : Type} {t : Sem α} {Q Q' : α → Shared → Prop} {M : Model} {A : Around} {E : Value → Shared → Prop} {s : Shared} (h : wpAny M A t Q E s) (hQ : ∀ a s, Q a s → Q' a s) : wpAny M A t Q' E s := wpAny_mono h hQ fun _ _ x => x
end L2
namespace L2
open PySem PySem.Spec PyProof.Rows
section
variable {X : Cx}
noncomputable def tVar (i : Nat) : TE := fun σ H Q => ∃ v, σ[i]? = some (some v) ∧ Q v H
noncomputable def tC (v : V) : TE := fun _ H Q => Q v H
theorem pe_var {i : Nat} {x : Str} {pos : Pos} (hN : X.N[i]? = some x) (hv : Vis X.env.scope x) (hd : (x == ("__debug__" : Str)) = false := by decide) (hcd : (x == ("__classdict__" : Str)) = false := by decide) : PE X (.Name x pos) (tVar i) := by
  intro pins s σ H Q I h
  obtain ⟨v, e, h⟩ := h
  obtain ⟨m, hn, hl⟩ := I.loc
  obtain ⟨u, r, l⟩ := hl i x v hN e hv
  have fin : EP X pins σ Q u s := ⟨v, H, I, r, h⟩
  rcases l with ⟨hk, hm⟩ | ⟨hk, c, hc, hcell⟩
  · exact wpAny_Name (wpAny_loadName_local I.ok.kind hk hn hm fin) hd
  · rcases hk with hk | hk
    · exact wpAny_Name (wpAny_loadName_cell I.ok.kind hk hc hcell fin) hd
    · exact wpAny_Name (wpAny_loadName_free I.ok.kind hk hc hcell fin hcd) hd
theorem pe_int {i j pos} : PE X (.Constant (.int i) j pos) (tC (.int i)) := fun _ _ _ H _ I h => wpAny_Constant_int ⟨.int i, H, I.tok _, ⟨_, rfl⟩, h⟩
theorem pe_bl {b j pos} : PE X (.Constant (.bool b) j pos) (tC (.bl b)) := fun _ _ _ H _ I h => Constant_bool ⟨.bl b, H, I, rfl, h⟩
theorem pe_non {j pos} : PE X (.Constant .none j pos) (tC .non) := fun _ _ _ H _ I h => Constant_none ⟨.non, H, I, rfl, h⟩
theorem pe_str {x j pos} : PE X (.Constant (.str x) j pos) (tC (.str x)) := fun _ _ _ H _ I h => Calls.Constant_str ⟨.str x, H, I.tok _, ⟨_, rfl⟩, h⟩
noncomputable def Gl (X : Cx) (x : Str) : Prop := X.env.kindOf x = some .globalImplicit
theorem ld_glob {E : Value → Shared → Prop} {pins : List (Addr × Obj)} {s : Shared} {σ : St} {H : Hp} {x : Str} {u : Value} {pos : Pos} {Q : Value → Shared → Prop} (I : Inv X pins σ H s) (hg : Gl X x) (hm : X.mg x = some u) (h : Q u s)
    (hd : (x == ("__debug__" : Str)) = false := by decide) : wpAny (model X.prog X.w) X.A (eval (.Name x pos) X.env) Q E s :=
  Calls.Name_function_global I.ok.kind hg (Calls.loadGlobal_global (by rw [I.ok.glob]; exact I.mod.glob.keeps I.bk) hm h) hd
theorem ld_blt {E : Value → Shared → Prop} {pins : List (Addr × Obj)} {s : Shared} {σ : St} {H : Hp} {x : Str} {u : Value} {pos : Pos} {Q : Value → Shared → Prop} (I : Inv X pins σ H s) (hg : Gl X x) (hm : X.mg x = none) (hv : bootBuiltins x = some u) (h : Q u s)
    (hn : x ≠ "__name__" := by decide) (hd : (x == ("__debug__" : Str)) = false := by decide) : wpAny (model X.prog X.w) X.A (eval (.Name x pos) X.env) Q E s := by
  obtain ⟨mb, h1, h2⟩ := I.mod.blt
  exact Calls.Name_function_global I.ok.kind hg (Calls.loadGlobal_builtin (by rw [I.ok.glob]; exact I.mod.glob.keeps I.bk) hm (by rw [I.ok.blt]; exact h1.keeps I.bk) ((h2 x hn).trans hv) h) hd
theorem pe_glob {x : Str} {v : V} {u : Value} {pos : Pos} (hg : Gl X x) (hm : X.mg x = some u) (r : RelV v u) (hd : (x == ("__debug__" : Str)) = false := by decide) : PE X (.Name x pos) (tC v) :=
  fun _ _ _ H _ I h => ld_glob I hg hm ⟨v, H, I, r, h⟩ hd
theorem pe_bltn {x : Str} {v : V} {u : Value} {pos : Pos} (hg : Gl X x) (hm : X.mg x = none) (hv : bootBuiltins x = some u) (r : RelV v u) (hn : x ≠ "__name__" := by decide) (hd : (x == ("__debug__" : Str)) = false := by decide) : PE X (.Name x pos) (tC v) :=
  fun _ _ _ H _ I h => ld_blt I hg hm hv ⟨v, H, I, r, h⟩ hn hd
variable {a b : Expr} {ta tb : TE} {pos : Pos}
noncomputable def tB (t : TE) : TT := fun σ H Q => t σ H fun x H1 => ∃ c, x = .bl c ∧ Q c H1
theorem pt_val {e : Expr} {t : TE} (h : PE X e t) (he : ∀ whole, isTrue e X.env whole = (do let v ← whole; standAt e.pos; holding [v] (truthy v)) := by intro _; rfl) : PT X e (tB t) := by
  intro pins s σ H Q I hw
  refine isTrue_plain (thn (h pins s σ H _ I hw) fun v s1 ⟨x, H1, I1, r1, q1⟩ => ?_) (he _)
  obtain ⟨d, rfl, q⟩ := q1
  cases r1
  exact wpAny_truthy_bool ⟨H1, I1, q⟩
variable {tA tB' : TT} {rest : List Expr}
noncomputable def tAnd (t u : TT) : TT := fun σ H Q => t σ H fun c H1 => if c = true then u σ H1 Q else Q false H1
noncomputable def tOr (t u : TT) : TT := fun σ H Q => t σ H fun c H1 => if c = true then Q true H1 else u σ H1 Q
noncomputable def tNot (t : TT) : TT := fun σ H Q => t σ H fun c H1 => Q (!c) H1
theorem pw_and1 (ha : PT X a tA) : PW X (.BoolOp .And [a] pos) tA := by
  intro wh pins s σ H Q I h
  refine isTrue_and (thn (ha pins s σ H Q I h) fun c s1 e => ?_)
  cases c with
  | true => exact isTrue_and_nil e
  | false => exact e
theorem pw_or1 (ha : PT X a tA) : PW X (.BoolOp .Or [a] pos) tA := by
  intro wh pins s σ H Q I h
  refine isTrue_or (thn (ha pins s σ H Q I h) fun c s1 e => ?_)
  cases c with
  | false => exact isTrue_or_nil e
  | true => exact e
theorem pw_and (ha : PT X a tA) (hb : PW X (.BoolOp .And (b :: rest) pos) tB') : PW X (.BoolOp .And (a :: b :: rest) pos) (tAnd tA tB') := by
  intro wh pins s σ H Q I h
  refine isTrue_and (thn (ha pins s σ H _ I h) fun c s1 ⟨H1, I1, q1⟩ => ?_)
  cases c with
  | true => exact hb wh pins s1 σ H1 Q I1 q1
  | false => exact ⟨H1, I1, q1⟩
theorem pw_or (ha : PT X a tA) (hb : PW X (.BoolOp .Or (b :: rest) pos) tB') : PW X (.BoolOp .Or (a :: b :: rest) pos) (tOr tA tB') := by
  intro wh pins s σ H Q I h
  refine isTrue_or (thn (ha pins s σ H _ I h) fun c s1 ⟨H1, I1, q1⟩ => ?_)
  cases c with
  | true => exact ⟨H1, I1, q1⟩
  | false => exact hb wh pins s1 σ H1 Q I1 q1
theorem pt_not (ha : PT X a tA) : PT X (.UnaryOp .Not a pos) (tNot tA) := by
  intro pins s σ H Q I h
  exact isTrue_not (ha pins s σ H (fun c H1 => Q (!c) H1) I h)
noncomputable def tAndV (ta tb : TE) : TE := fun σ H Q => ta σ H fun x H1 => ∃ c, x = .bl c ∧ if c = true then tb σ H1 Q else Q (.bl false) H1
noncomputable def tNotV (ta : TE) : TE := fun σ H Q => ta σ H fun x H1 => ∃ c, x = .bl c ∧ Q (.bl (!c)) H1
theorem pe_one {op} {t : TE} (h : PE X a t) : PE X (.BoolOp op [a] pos) t := fun pins s σ H Q I hw => BoolOp_one (h pins s σ H Q I hw)
theorem pe_and (ha : PE X a ta) (hb : PE X (.BoolOp .And (b :: rest) pos) tb) : PE X (.BoolOp .And (a :: b :: rest) pos) (tAndV ta tb) := by
  intro pins s σ H Q I h
  refine BoolOp_and (thn (ha pins s σ H _ I h) fun v s1 ⟨x, H1, I1, r1, q1⟩ => ?_)
  obtain ⟨c, rfl, q1⟩ := q1
  cases r1
  refine wpAny_truthy_bool ?_
  cases c with
  | true => exact hb pins s1 σ H1 Q I1 q1
  | false => exact ⟨.bl false, H1, I1, rfl, q1⟩
theorem pe_not (ha : PE X a ta) : PE X (.UnaryOp .Not a pos) (tNotV ta) := by
  intro pins s σ H Q I h
  refine UnaryOp_ (thn (ha pins s σ H _ I h) fun v s1 ⟨x, H1, I1, r1, q1⟩ => ?_)
  obtain ⟨c, rfl, q1⟩ := q1
  cases r1
  exact not_of (wpAny_truthy_bool ⟨.bl (!c), H1, I1, rfl, q1⟩)
noncomputable def tIf (t : TT) (ta tb : TE) : TE := fun σ H Q => t σ H fun c H1 => if c = true then ta σ H1 Q else tb σ H1 Q
theorem pe_ifExp {c : Expr} (hc : PT X c tA) (ha : PE X a ta) (hb : PE X b tb) : PE X (.IfExp c a b pos) (tIf tA ta tb) := by
  intro pins s σ H Q I h
  refine wpAny_IfExp (thn (hc pins s σ H _ I h) fun d s1 ⟨H1, I1, q1⟩ => ?_)
  cases d with
  | true => exact ha pins s1 σ H1 Q I1 q1
  | false => exact hb pins s1 σ H1 Q I1 q1
end
end L2
namespace L2
open PySem PySem.Spec PyProof.Rows
noncomputable def SqL (K : PySem.W.Frag) (H : Hp) (a : Addr) (xs : List V) : Prop :=
  Rd H a (.lst xs) ∨
    ∃ (o : Obj) (its : Array Value) (n : Nat), K.lookup a = some o ∧ o.cls = .type "list" ∧ o.dict = none ∧ o.data = .seq its n ∧ its.size ≤ sizeLine ∧ Vals xs its.toList
noncomputable def SqT (K : PySem.W.Frag) (H : Hp) (a : Addr) (xs : List V) : Prop :=
  Rd H a (.tup xs) ∨
    ∃ (o : Obj) (its : Array Value) (n : Nat), K.lookup a = some o ∧ o.cls = .type "tuple" ∧ o.data = .seq its n ∧ its.size ≤ sizeLine ∧ Vals xs its.toList
noncomputable def absV : Value → Option V
  | .none => some .non
  | .bool b => some (.bl b)
  | .int i _ => some (.int i)
  | .str x _ => some (.str x)
  | .bytes b _ => some (.byt b)
  | .float b _ => some (.flt b)
  | .ref a => some (.ref a)
  | .type n => some (.ty n)
  | _ => none
theorem RelV.abs {x : V} {u : Value} (r : RelV x u) : absV u = some x := by
  cases x with
  | non => cases r; rfl
  | bl _ => cases r; rfl
  | int _ => obtain ⟨t, rfl⟩ := r; rfl
  | str _ => obtain ⟨t, rfl⟩ := r; rfl
  | byt _ => obtain ⟨t, rfl⟩ := r; rfl
  | flt _ => obtain ⟨t, rfl⟩ := r; rfl
  | ref _ => cases r; rfl
  | ty _ => cases r; rfl
theorem RelV.inj {x y : V} {u : Value} (r : RelV x u) (q : RelV y u) : x = y := Option.some.inj (r.abs.symm.trans q.abs)
theorem Vals.inj : ∀ {xs ys : List V} {us : List Value}, Vals xs us → Vals ys us → xs = ys
  | _, _, _, .nil, .nil => rfl
  | _, _, _, .cons r t, .cons r' t' => by rw [r.inj r', Vals.inj t t']
section
variable {X : Cx} {pins : List (Addr × Obj)} {σ : St} {H : Hp} {s : Shared} {a : Addr} {xs ys : List V}
theorem SqL.of {K : PySem.W.Frag} (h : H a = some (.lst xs)) : SqL K H a xs := .inl (.inl h)
theorem SqT.of {K : PySem.W.Frag} (h : H a = some (.tup xs)) : SqT K H a xs := .inl (.inl h)
theorem Inv.list (I : Inv X pins σ H s) (h : SqL X.K H a xs) : ∃ its : List Value, Vals xs its ∧ PlainL s.heap a its.toArray ∧ xs.length ≤ sizeLine := by
  rcases h with h | ⟨o, its, n, hk, hc, hd, hs, hz, r⟩
  · obtain ⟨z, its, n, r, e⟩ := h.ok I.hok
    exact ⟨its, r, ⟨_, n, e, rfl, rfl, rfl⟩, z⟩
  · refine ⟨its.toList, r, ⟨o, n, I.kIn a o hk, hc, hd, by simpa using hs⟩, ?_⟩
    have e := r.length
    simp only [Array.length_toList] at e
    omega
theorem Inv.tuple (I : Inv X pins σ H s) (h : SqT X.K H a xs) : ∃ its : List Value, Vals xs its ∧ IsTup s.heap a its.toArray ∧ xs.length ≤ sizeLine := by
  rcases h with h | ⟨o, its, n, hk, hc, hs, hz, r⟩
  · obtain ⟨z, its, r, p⟩ := h.ok I.hok
    exact ⟨its, r, p, z⟩
  · refine ⟨its.toList, r, ⟨o, I.kIn a o hk, hc, n, by simpa using hs⟩, ?_⟩
    have e := r.length
    simp only [Array.length_toList] at e
    omega
theorem Inv.list_inj (I : Inv X pins σ H s) (h : SqL X.K H a xs) (h' : SqL X.K H a ys) : xs = ys := by
  obtain ⟨its, r, ⟨o, n, e, _, _, d⟩, _⟩ := I.list h
  obtain ⟨its', r', ⟨o', n', e', _, _, d'⟩, _⟩ := I.list h'
  rw [e] at e'; cases e'
  rw [d] at d'
  injection d' with d1 _
  have : its = its' := by simpa using congrArg Array.toList d1
  subst this
  exact r.inj r'
theorem Inv.tuple_inj (I : Inv X pins σ H s) (h : SqT X.K H a xs) (h' : SqT X.K H a ys) : xs = ys := by
  obtain ⟨its, r, ⟨o, e, _, n, d⟩, _⟩ := I.tuple h
  obtain ⟨its', r', ⟨o', e', _, n', d'⟩, _⟩ := I.tuple h'
  rw [e] at e'; cases e'
  rw [d] at d'
  injection d' with d1 _
  have : its = its' := by simpa using congrArg Array.toList d1
  subst this
  exact r.inj r'
end
noncomputable abbrev Cx.wish (X : Cx) (E : Value → Shared → Prop) : Cx := { X with xe := E }
noncomputable abbrev Cx.nox (X : Cx) : Cx := X.wish fun _ _ => False
theorem Cx.Ok.wish {X : Cx} (ok : X.Ok) (E : Value → Shared → Prop) : (X.wish E).Ok :=
  ⟨ok.mod, ok.kind, ok.glob, ok.blt, ok.above, ok.inj, ok.has, ok.cab, ok.hd, ok.frames, ok.stk, ok.exf, ok.bs, ok.bsz, ok.noex, ok.exfs, ok.funs, ok.frf⟩
theorem Cx.Ok.unwish {X : Cx} {E : Value → Shared → Prop} (ok : (X.wish E).Ok) : X.Ok :=
  ⟨ok.mod, ok.kind, ok.glob, ok.blt, ok.above, ok.inj, ok.has, ok.cab, ok.hd, ok.frames, ok.stk, ok.exf, ok.bs, ok.bsz, ok.noex, ok.exfs, ok.funs, ok.frf⟩
section
variable {X : Cx} {pins : List (Addr × Obj)} {σ : St} {H : Hp} {s : Shared} {E : Value → Shared → Prop}
theorem Inv.wish (I : Inv X pins σ H s) (E : Value → Shared → Prop) : Inv (X.wish E) pins σ H s := ⟨I.ok.wish E, I.os, I.bare, I.base, I.loc, I.cell, I.free, I.freeC, I.pin, I.hok, I.len⟩
theorem Inv.unwish (I : Inv (X.wish E) pins σ H s) : Inv X pins σ H s := ⟨I.ok.unwish, I.os, I.bare, I.base, I.loc, I.cell, I.free, I.freeC, I.pin, I.hok, I.len⟩
theorem SP.unwish {D : Ends} {f : Flow} {s' : Shared} (h : SP (X.wish E) pins D f s') : SP X pins D f s' := by
  cases f with
  | next => obtain ⟨σ', H', I, q⟩ := h; exact ⟨σ', H', I.unwish, q⟩
  | brk => obtain ⟨σ', H', I, q⟩ := h; exact ⟨σ', H', I.unwish, q⟩
  | cont => obtain ⟨σ', H', I, q⟩ := h; exact ⟨σ', H', I.unwish, q⟩
  | ret u => obtain ⟨v, σ', H', I, r, q⟩ := h; exact ⟨v, σ', H', I.unwish, r, q⟩
theorem PSs.nox {st : List Stmt} {t : TS} (h : PSs X.nox st t) : PSs X st t := fun pins s σ H D I hw =>
  wpAny_mono (h pins s σ H D (I.wish _) hw) (fun _ _ q => q.unwish) fun _ _ z => False.elim z
end
section
variable {X : Cx} {st : Stmt} {rest : List Stmt} {t u : TS} {e : Expr} {te : TE} {pos : Pos}
noncomputable def tNext : TS := fun D σ H => D.nx σ H
noncomputable def tSeq (t u : TS) : TS := fun D σ H => t { D with nx := u D } σ H
theorem pss_nil : PSs X [] tNext := fun _ _ σ H _ I h => wpAny_execs_nil ⟨σ, H, I, h⟩
theorem pss_cons (h1 : PS X st t) (h2 : PSs X rest u) : PSs X (st :: rest) (tSeq t u) := by
  intro pins s σ H D I h
  refine wpAny_execs_cons (thn (h1 pins s σ H { D with nx := u D } I h) fun f s1 q => ?_)
  cases f with
  | next =>
    obtain ⟨σ', H', I', q⟩ := q
    exact h2 pins s1 σ' H' D I' q
  | ret v => exact q
  | brk => exact q
  | cont => exact q
theorem pss_one (h1 : PS X st t) : PSs X [st] t := by
  intro pins s σ H D I h
  refine wpAny_execs_cons (thn (h1 pins s σ H D I h) fun f s1 q => ?_)
  cases f with
  | next => exact wpAny_execs_nil q
  | ret v => exact q
  | brk => exact q
  | cont => exact q
theorem Inv.quiet {pins : List (Addr × Obj)} {σ : St} {H : Hp} {s : Shared} (I : Inv X pins σ H s) : interactive X.env = false := by simp [interactive, I.ok.kind]
noncomputable def tDrop (te : TE) : TS := fun D σ H => te σ H fun _ H1 => D.nx σ H1
theorem ps_expr (he : PE X e te) (hs : swapsWith e none pos.line X.env = pure false := by rfl) : PS X (.Expr e pos) (tDrop te) := by
  intro pins s σ H D I h
  exact wpAny_Expr_any (thn (he pins s σ H _ I h) fun v s1 ⟨x, H1, I1, r1, q1⟩ => ⟨σ, H1, I1, q1⟩) I.quiet hs
noncomputable def tRet (te : TE) : TS := fun D σ H => te σ H D.rt
theorem ps_ret (he : PE X e te) : PS X (.Return (some e) pos) (tRet te) := by
  intro pins s σ H D I h
  exact wpAny_Return_some (thn (he pins s σ H _ I h) fun v s1 ⟨x, H1, I1, r1, q1⟩ => ⟨x, σ, H1, I1, r1, q1⟩)
noncomputable def tIfS (c : TT) (t u : TS) : TS := fun D σ H => c σ H fun b H1 => if b = true then t D σ H1 else u D σ H1
theorem ps_if {c : Expr} {a b : List Stmt} {tc : TT} (hc : PT X c tc) (ha : PSs X a t) (hb : PSs X b u) : PS X (.If c a b pos) (tIfS tc t u) := by
  intro pins s σ H D I h
  refine wpAny_If (thn (hc pins s σ H _ I h) fun d s1 ⟨H1, I1, q1⟩ => ?_)
  cases d with
  | true => exact ha pins s1 σ H1 D I1 q1
  | false => exact hb pins s1 σ H1 D I1 q1
noncomputable def tNever : TS := fun _ _ _ => False
theorem ps_never : PS X st tNever := fun _ _ _ _ _ _ h => h.elim
end
noncomputable abbrev TG := V → St → Hp → (St → Hp → Prop) → Prop
noncomputable abbrev TGs := List V → St → Hp → (St → Hp → Prop) → Prop
noncomputable def PG (X : Cx) (target : Expr) (t : TG) : Prop :=
  ∀ (pins : List (Addr × Obj)) (s : Shared) (σ : St) (H : Hp) (v : V) (u : Value) (Q : St → Hp → Prop), Inv X pins σ H s → RelV v u → t v σ H Q →
    wpAny (model X.prog X.w) X.A (assign target X.env u) (fun _ s' => ∃ σ' H', Inv X pins σ' H' s' ∧ Q σ' H') X.xe s
noncomputable def PGs (X : Cx) (ts : List Expr) (t : TGs) : Prop :=
  ∀ (pins : List (Addr × Obj)) (s : Shared) (σ : St) (H : Hp) (vs : List V) (us : List Value) (Q : St → Hp → Prop), Inv X pins σ H s → Vals vs us → t vs σ H Q →
    wpAny (model X.prog X.w) X.A (assignInOrder ((assignEach ts X.env).map (·.2)) us) (fun _ s' => ∃ σ' H', Inv X pins σ' H' s' ∧ Q σ' H') X.xe s
section
variable {X : Cx} {pos : Pos}
noncomputable def gName (i : Nat) : TG := fun v σ H Q => Q (σ.set i (some v)) H
theorem pg_name {i : Nat} {x : Str} (hN : X.N.Nodup) (hi : X.N[i]? = some x) (hx : Loc X.env.scope x) (hf : X.fn x = true ∨ X.env.scope.names.lookup x = some .local := by first | exact .inl rfl | exact .inr rfl | assumption) : PG X (.Name x pos) (gName i) := by
  intro pins s σ H v u Q I r h
  exact wpAny_assign_Name (store_ok I hN hi hx r (fun s' I' => ⟨_, H, I', h⟩) hf)
noncomputable def gNil : TGs := fun vs σ H Q => vs = [] ∧ Q σ H
noncomputable def gCons (t : TG) (u : TGs) : TGs := fun vs σ H Q => ∃ v r, vs = v :: r ∧ t v σ H fun σ' H' => u r σ' H' Q
theorem pgs_nil : PGs X [] gNil := by
  intro pins s σ H vs us Q I r h
  obtain ⟨e, h⟩ := h
  subst e
  cases r
  exact assignInOrder_nil ⟨σ, H, I, h⟩
theorem pgs_cons {e : Expr} {es : List Expr} {t : TG} {u : TGs} (h1 : PG X e t) (h2 : PGs X es u)
    (hs : (assignEach (e :: es) X.env).map (·.2) = assign e X.env :: (assignEach es X.env).map (·.2) := by rfl) : PGs X (e :: es) (gCons t u) := by
  intro pins s σ H vs us Q I r h
  obtain ⟨v, vr, e1, h⟩ := h
  subst e1
  cases r with
  | cons r rr =>
    rw [hs]
    refine assignInOrder_cons (thn (h1 pins s σ H _ _ _ I r h) fun _ s1 ⟨σ1, H1, I1, q1⟩ => ?_)
    exact h2 pins s1 σ1 H1 _ _ Q I1 rr q1
noncomputable def gTup (K : PySem.W.Frag) (n : Nat) (t : TGs) : TG := fun v σ H Q => ∃ a xs, v = .ref a ∧ SqT K H a xs ∧ xs.length = n ∧ t xs σ H Q
theorem pg_tup {es : List Expr} {k : Nat} {t : TGs} {n : Nat} (hc : X.calm = true) (h : PGs X es t)
    (hn : (assignEach es X.env).length = n := by rfl) (hst : (assignEach es X.env).findIdx? (·.1) = none := by rfl) : PG X (.Tuple es k pos) (gTup X.K n t) := by
  intro pins s σ H v u Q I r hw
  obtain ⟨a, xs, e1, hq, hl, hw⟩ := hw
  subst e1
  cases r
  obtain ⟨its, rv, ht, hz⟩ := I.tuple hq
  refine assign_Tuple_tuple (I.ok.hd hc) ht (by simp [hn, ← hl, rv.length]) hst fun h' hx => ?_
  have I1 : Inv X pins σ H { s with heap := h' } := I.kept (t' := s.toks) fun b o e => hx b o (Nat.ne_of_lt (Heap.lt_size e)) e
  exact h pins _ σ H xs _ Q I1 (by simpa using rv) hw
noncomputable def tAsg (te : TE) (g : TG) : TS := fun D σ H => te σ H fun x H1 => g x σ H1 D.nx
theorem ps_set {i : Nat} {x : Str} {e : Expr} {te : TE} {pos' : Pos} (hN : X.N.Nodup) (hi : X.N[i]? = some x) (hx : Loc X.env.scope x) (he : PE X e te) (hs : swapsWith e (some (.Name x pos')) pos.line X.env = pure false := by rfl) (hf : X.fn x = true ∨ X.env.scope.names.lookup x = some .local := by first | exact .inl rfl | exact .inr rfl | assumption) :
    PS X (.Assign [.Name x pos'] e pos) (tAsg te (gName i)) := by
  intro pins s σ H D I h
  refine wpAny_Assign_Name (thn (he pins s σ H _ I h) fun v s1 ⟨y, H1, I1, r1, q1⟩ => ?_) hs
  exact store_ok I1 hN hi hx r1 (fun s2 I2 => ⟨_, H1, I2, q1⟩) hf
end
section
variable {X : Cx} {pos : Pos}
noncomputable def tWhile (c : TT) (tb : TS) : TS := fun D σ H => ∃ W : Nat → St → Hp → Prop, (∃ m, W m σ H) ∧ ∀ m σ H, W m σ H →
  c σ H fun b H1 => if b = true then ∃ N : St → Hp → Prop, (∀ σ' H', N σ' H' → ∃ m', m' < m ∧ W m' σ' H') ∧ tb { D with nx := N, ct := N, bk := D.nx } σ H1 else D.nx σ H1
theorem ps_while {c : Expr} {body : List Stmt} {tc : TT} {tb : TS} (hp : PassesOwn (model X.prog X.w) X.A X.env X.xe) (hc : PT X c tc) (hb : PSs X body tb) : PS X (.While c body [] pos) (tWhile tc tb) := by
  intro pins s σ H D I h
  obtain ⟨W, ⟨m0, w0⟩, turn⟩ := h
  refine wpAny_While (codeAny_whileLoop (fun n s' => ∃ σ' H', Inv X pins σ' H' s' ∧ W n σ' H') ?_ m0 ⟨σ, H, I, w0⟩)
  rintro n s1 ⟨σ1, H1, I1, w1⟩
  refine wpAny_passesOwn hp (thn (hc pins s1 σ1 H1 _ I1 (turn n σ1 H1 w1)) fun b s2 ⟨H2, I2, q2⟩ => ?_)
  cases b with
  | true =>
    obtain ⟨N, hN, q2⟩ := q2
    rw [if_pos rfl]
    refine wpAny_passesOwn hp (thn (hb pins s2 σ1 H2 _ I2 q2) fun f s3 q3 => ?_)
    cases f with
    | next =>
      obtain ⟨σ3, H3, I3, n3⟩ := q3
      obtain ⟨m', hm, w3⟩ := hN σ3 H3 n3
      exact ⟨m', hm, σ3, H3, I3, w3⟩
    | cont =>
      obtain ⟨σ3, H3, I3, n3⟩ := q3
      obtain ⟨m', hm, w3⟩ := hN σ3 H3 n3
      exact ⟨m', hm, σ3, H3, I3, w3⟩
    | brk => exact q3
    | ret v => exact q3
  | false =>
    rw [if_neg Bool.false_ne_true]
    exact wpAny_execs_nil ⟨σ1, H2, I2, q2⟩
end
structure It where
  go : Nat → Hp → Prop
  yld : Nat → Hp → V → Hp → Prop
  stop : Nat → Hp → Prop
noncomputable def FpOk (X : Cx) (pins : List (Addr × Obj)) (H : Hp) (b : Addr) : Prop :=
  H b = none ∧ b ≠ X.env.locals ∧ b ∉ X.fs ∧ (b ∈ X.ex ∨ X.s₀.heap.objs.size ≤ b) ∧ (∀ x c, X.env.cells.lookup x = some c → c ≠ b) ∧ ∀ p ∈ X.pn ++ pins, p.1 ≠ b
theorem Inv.fpOk {X : Cx} {pins : List (Addr × Obj)} {σ : St} {H H' : Hp} {s : Shared} {b : Addr} (I : Inv X pins σ H s) (hb : s.heap.objs.size ≤ b) (hn : H' b = none) : FpOk X pins H' b := by
  refine ⟨hn, Nat.ne_of_gt (Nat.lt_of_lt_of_le I.lt hb), I.nofs hb, .inr (Nat.le_trans I.sz hb), fun x c e z => ?_, fun p hp z => ?_⟩
  · obtain ⟨v, q⟩ := I.cell x c e
    exact absurd (Nat.lt_of_lt_of_le q.lt (by rw [z]; exact hb)) (Nat.lt_irrefl _)
  · exact absurd (Nat.lt_of_lt_of_le (Heap.lt_size (I.pin p hp).1) (by rw [z]; exact hb)) (Nat.lt_irrefl _)
structure Turn (P : Program) (w : World) (K : PySem.W.Frag) (tg : Expr) (J : It) (fp : List Addr) (it : Addr) (tn : Nat → Heap → Prop) : Prop where
  mem : it ∈ fp
  obj : ∀ i h, tn i h → ∀ b ∈ fp, ∃ o, h.get? b = some o ∧ ∀ v, o.data ≠ .cell v
  keep : ∀ i h h', tn i h → (∀ b ∈ fp, ∀ o, h.get? b = some o → h'.get? b = some o) → tn i h'
  item : ∀ (X : Cx), X.prog = P → X.w = w → X.K = K → X.calm = true → ∀ (i : Nat) (pins : List (Addr × Obj)) (s : Shared) (σ : St) (H : Hp) (E : Value → Shared → Prop), Inv X pins σ H s → (∀ b ∈ fp, FpOk X pins H b) → tn i s.heap → J.go i H →
    wpAny (model P w) X.A (pyNext (.ref it)) (fun r s1 => ∃ u, r = some u ∧
      wpAny (model P w) X.A (letOwnedTupleGo tg (.ref it) u) (fun _ s2 => ∃ x H', Inv X pins σ H' s2 ∧ RelV x u ∧ J.yld i H x H' ∧ tn (i + 1) s2.heap ∧ ∀ b ∈ fp, H' b = none) E s1) E s
  done : ∀ (X : Cx), X.prog = P → X.w = w → X.K = K → X.calm = true → ∀ (i : Nat) (pins : List (Addr × Obj)) (s : Shared) (σ : St) (H : Hp) (E : Value → Shared → Prop), Inv X pins σ H s → (∀ b ∈ fp, FpOk X pins H b) → tn i s.heap → J.stop i H →
    wpAny (model P w) X.A (pyNext (.ref it)) (fun r s1 => r = none ∧ Inv X pins σ H s1) E s
  self : ∀ (A : Around) (i : Nat) (s : Shared) (Q : Value → Shared → Prop) (E : Value → Shared → Prop), tn i s.heap → Q (.ref it) s → wpAny (model P w) A (pyIter (.ref it)) Q E s
noncomputable abbrev TI := St → Hp → (It → Hp → Prop) → Prop
noncomputable def PIE (X : Cx) (pins : List (Addr × Obj)) (σ : St) (tg : Expr) (R : It → Hp → Prop) (itv : Value) (s2 : Shared) : Prop :=
  ∃ (it : Addr) (fp : List Addr) (tn : Nat → Heap → Prop) (J : It) (H' : Hp), itv = .ref it ∧ Inv X pins σ H' s2 ∧ Turn X.prog X.w X.K tg J fp it tn ∧ tn 0 s2.heap ∧ (∀ b ∈ fp, FpOk X pins H' b) ∧ R J H'
noncomputable def PI (X : Cx) (tg iter : Expr) (wi : TI) : Prop :=
  ∀ (pins : List (Addr × Obj)) (s : Shared) (σ : St) (H : Hp) (R : It → Hp → Prop), Inv X pins σ H s → wi σ H R →
    wpAny (model X.prog X.w) X.A (eval iter X.env) (fun v s1 => wpAny (model X.prog X.w) X.A (pyIter v) (PIE X pins σ tg R) X.xe s1) X.xe s
theorem go_of {M : Model} {A : Around} {E : Value → Shared → Prop} {s : Shared} {tg : Expr} {it : Addr} {u : Value} {o : Obj} {n : String} {vs : Array Value} {Q : Unit → Shared → Prop} (ho : s.heap.get? it = some o) (hc : o.cls = .type n) (hd : o.data = .fields vs)
    (hn : ["enumerate", "zip", "dict_itemiterator", "dict_reverseitemiterator", "odict_iterator", "itertools.zip_longest", "itertools.pairwise"].contains n = false) (hQ : Q () s) : wpAny M A (letOwnedTupleGo tg (.ref it) u) Q E s := by
  unfold letOwnedTupleGo
  cases tg <;> first
    | exact wpAny_pure hQ
    | (cases u <;> first
        | exact wpAny_pure hQ
        | (refine wpAny_bind (wpAny_load ho ?_)
           rw [hc, hd]
           show wpAny M A (if (["enumerate", "zip", "dict_itemiterator", "dict_reverseitemiterator", "odict_iterator", "itertools.zip_longest", "itertools.pairwise"].contains n && vs[0]? == some (rawInt _)) = true then _ else _) Q E s
           rw [if_neg (by intro h; rw [hn, Bool.false_and] at h; cases h)]
           exact wpAny_pure hQ))
noncomputable def Itl (K : PySem.W.Frag) (a : Addr) : It :=
  ⟨fun i H => ∃ xs x, SqL K H a xs ∧ xs[i]? = some x, fun i H x H' => H' = H ∧ ∀ xs, SqL K H a xs → xs[i]? = some x, fun i H => ∃ xs, SqL K H a xs ∧ xs.length ≤ i⟩
noncomputable def Itt (K : PySem.W.Frag) (a : Addr) : It :=
  ⟨fun i H => ∃ xs x, SqT K H a xs ∧ xs[i]? = some x, fun i H x H' => H' = H ∧ ∀ xs, SqT K H a xs → xs[i]? = some x, fun i H => ∃ xs, SqT K H a xs ∧ xs.length ≤ i⟩
noncomputable def Itr (lo : Int) (n : Nat) : It := ⟨fun i _ => i < n, fun i H x H' => H' = H ∧ x = .int (lo + i), fun i _ => n ≤ i⟩
theorem turn_list {P : Program} {w : World} {K : PySem.W.Frag} {tg : Expr} (a it : Addr) : Turn P w K tg (Itl K a) [it] it (fun i h => h.IsListIter it a i) where
  mem := by simp
  obj := fun i h st b hb => by
    have e : b = it := by simpa using hb
    subst e
    obtain ⟨o, e, c, d⟩ := st
    exact ⟨o, e, fun v z => by rw [d] at z; cases z⟩
  keep := fun i h h' st k => st.at fun o e => k it (by simp) o e
  item := by
    intro X hP hw hK hc i pins s σ H E I hf st hg
    subst hP hw hK
    obtain ⟨xs, x, hq, hx⟩ := hg
    obtain ⟨its, rv, p, hz⟩ := I.list hq
    obtain ⟨u, hu, ru⟩ := rv.get hx
    obtain ⟨f0, f1, f2, f3, f4, f5⟩ := hf it (by simp)
    refine wpAny_pyNext_list_item st p.isList (x := u) (by simpa using hu) fun h' st' sb => ?_
    have I1 : Inv X pins σ H { s with heap := h' } := I.turned (t' := s.toks) (fun b o hb e => (sb.2 b hb).trans e) f0 f1 f3 f4 f5
    obtain ⟨o, e, c, d⟩ := id st'
    exact ⟨u, rfl, go_of (s := { s with heap := h' }) e c d (by decide) ⟨x, H, I1, ru, ⟨rfl, fun ys hy => by rw [I.list_inj hy hq]; exact hx⟩, st', fun b hb => (hf b hb).1⟩⟩
  done := by
    intro X hP hw hK hc i pins s σ H E I hf st hg
    subst hP hw hK
    obtain ⟨xs, hq, hx⟩ := hg
    obtain ⟨its, rv, p, hz⟩ := I.list hq
    obtain ⟨f0, f1, f2, f3, f4, f5⟩ := hf it (by simp)
    have hl := rv.length
    exact wpAny_pyNext_list_end (I.ok.hd hc) st p.isList (by simp; omega) fun h' eb => ⟨rfl, I.turned (t' := s.toks) (fun b o hb e => eb b o hb e) f0 f1 f3 f4 f5⟩
  self := fun _ _ _ _ _ st h => wpAny_pyIter_listiter st h
theorem turn_tuple {P : Program} {w : World} {K : PySem.W.Frag} {tg : Expr} (a it : Addr) : Turn P w K tg (Itt K a) [it] it (fun i h => h.IsTupleIter it a i) where
  mem := by simp
  obj := fun i h st b hb => by
    have e : b = it := by simpa using hb
    subst e
    obtain ⟨o, e, c, d⟩ := st
    exact ⟨o, e, fun v z => by rw [d] at z; cases z⟩
  keep := fun i h h' st k => st.at fun o e => k it (by simp) o e
  item := by
    intro X hP hw hK hc i pins s σ H E I hf st hg
    subst hP hw hK
    obtain ⟨xs, x, hq, hx⟩ := hg
    obtain ⟨its, rv, p, hz⟩ := I.tuple hq
    obtain ⟨u, hu, ru⟩ := rv.get hx
    obtain ⟨f0, f1, f2, f3, f4, f5⟩ := hf it (by simp)
    refine wpAny_pyNext_tuple_item st (show s.heap.IsTuple a its.toArray from p) (x := u) (by simpa using hu) fun h' st' sb => ?_
    have I1 : Inv X pins σ H { s with heap := h' } := I.turned (t' := s.toks) (fun b o hb e => (sb.2 b hb).trans e) f0 f1 f3 f4 f5
    obtain ⟨o, e, c, d⟩ := id st'
    exact ⟨u, rfl, go_of (s := { s with heap := h' }) e c d (by decide) ⟨x, H, I1, ru, ⟨rfl, fun ys hy => by rw [I.tuple_inj hy hq]; exact hx⟩, st', fun b hb => (hf b hb).1⟩⟩
  done := by
    intro X hP hw hK hc i pins s σ H E I hf st hg
    subst hP hw hK
    obtain ⟨xs, hq, hx⟩ := hg
    obtain ⟨its, rv, p, hz⟩ := I.tuple hq
    obtain ⟨f0, f1, f2, f3, f4, f5⟩ := hf it (by simp)
    have hl := rv.length
    exact wpAny_pyNext_tuple_end (I.ok.hd hc) st (show s.heap.IsTuple a its.toArray from p) (by simp; omega) fun h' eb => ⟨rfl, I.turned (t' := s.toks) (fun b o hb e => eb b o hb e) f0 f1 f3 f4 f5⟩
  self := fun _ _ _ _ _ st h => wpAny_pyIter_tupleiter st h
theorem turn_range {P : Program} {w : World} {K : PySem.W.Frag} {tg : Expr} (it : Addr) (lo : Int) (n : Nat) : Turn P w K tg (Itr lo n) [it] it (fun i h => IsRangeIter h it (lo + (i : Nat) * 1) ((n : Int) - (i : Nat)) 1) where
  mem := by simp
  obj := fun i h st b hb => by
    have e : b = it := by simpa using hb
    subst e
    exact ⟨_, st, fun v z => by
      have z' : Data.fields _ = Data.cell v := z
      cases z'⟩
  keep := fun i h h' st k => k it (by simp) _ st
  item := by
    intro X hP hw hK hc i pins s σ H E I hf st hg
    subst hP hw hK
    obtain ⟨f0, f1, f2, f3, f4, f5⟩ := hf it (by simp)
    have W := Walks.range (prog := X.prog) (w := X.w) (I.ok.hd hc) it lo 1 n
    refine W.item i s _ _ hg st fun v h' tk hv st' kk => ?_
    obtain ⟨t, rfl⟩ := hv
    have I1 : Inv X pins σ H { s with heap := h', toks := tk } := I.turned (fun b o hb e => kk b o (by simpa using hb) e) f0 f1 f3 f4 f5
    refine ⟨_, rfl, go_of (s := { s with heap := h', toks := tk }) (n := "range_iterator") st' rfl rfl (by decide) ⟨.int (lo + i), H, I1, ⟨t, ?_⟩, ⟨rfl, rfl⟩, st', fun b hb => (hf b hb).1⟩⟩
    rw [Int.mul_one]
  done := by
    intro X hP hw hK hc i pins s σ H E I hf st hg
    subst hP hw hK
    obtain ⟨f0, f1, f2, f3, f4, f5⟩ := hf it (by simp)
    exact wpAny_pyNext_range_end (I.ok.hd hc) st (by have : n ≤ i := hg; omega) fun h' eb => ⟨rfl, I.turned (t' := s.toks) (fun b o hb e => eb b o hb e) f0 f1 f3 f4 f5⟩
  self := fun _ _ _ _ _ st h => wpAny_pyIter_rangeiter st h
end L2
namespace L2
open PySem PySem.Spec PyProof.Rows
section
variable {X : Cx} {tg : Expr}
noncomputable def iList (K : PySem.W.Frag) (tl : TE) : TI := fun σ H R => tl σ H fun x H1 => ∃ a, x = .ref a ∧ (∃ xs, SqL K H1 a xs) ∧ R (Itl K a) H1
noncomputable def iTup (K : PySem.W.Frag) (tl : TE) : TI := fun σ H R => tl σ H fun x H1 => ∃ a, x = .ref a ∧ (∃ xs, SqT K H1 a xs) ∧ R (Itt K a) H1
theorem pi_list {l : Expr} {tl : TE} (hl : PE X l tl) : PI X tg l (iList X.K tl) := by
  intro pins s σ H R I h
  refine thn (hl pins s σ H _ I h) fun v s1 ⟨x, H1, I1, r1, q1⟩ => ?_
  obtain ⟨a, e, ⟨xs, hq⟩, q⟩ := q1
  subst e
  cases r1
  obtain ⟨its, rv, p, hz⟩ := I1.list hq
  refine wpAny_pyIter_list p.isList ?_
  refine ⟨s1.heap.objs.size, [s1.heap.objs.size], _, _, H1, rfl, I1.kept (t' := s1.toks) fun b o e => Heap.get?_push_of_some _ e, turn_list a _, ⟨_, Heap.get?_push_size _ rfl, rfl, rfl⟩, fun b hb => ?_, q⟩
  have e : b = s1.heap.objs.size := by simpa using hb
  subst e
  exact I1.fpOk (Nat.le_refl _) (I1.hok.fresh (Nat.le_refl _))
theorem pi_tup {l : Expr} {tl : TE} (hl : PE X l tl) : PI X tg l (iTup X.K tl) := by
  intro pins s σ H R I h
  refine thn (hl pins s σ H _ I h) fun v s1 ⟨x, H1, I1, r1, q1⟩ => ?_
  obtain ⟨a, e, ⟨xs, hq⟩, q⟩ := q1
  subst e
  cases r1
  obtain ⟨its, rv, p, hz⟩ := I1.tuple hq
  refine wpAny_pyIter_tuple (show s1.heap.IsTuple a its.toArray from p) ?_
  refine ⟨s1.heap.objs.size, [s1.heap.objs.size], _, _, H1, rfl, I1.kept (t' := s1.toks) fun b o e => Heap.get?_push_of_some _ e, turn_tuple a _, ⟨_, Heap.get?_push_size _ rfl, rfl, rfl⟩, fun b hb => ?_, q⟩
  have e : b = s1.heap.objs.size := by simpa using hb
  subst e
  exact I1.fpOk (Nat.le_refl _) (I1.hok.fresh (Nat.le_refl _))
theorem range_it {pins : List (Addr × Obj)} {σ : St} {H : Hp} {s : Shared} {R : It → Hp → Prop} {E : Value → Shared → Prop} {lo hi : Int} {t u v : Tok} {tk : Nat} (I : Inv X pins σ H s) (h1 : -(2 ^ 62) ≤ lo) (h2 : lo < 2 ^ 62) (h3 : -(2 ^ 62) ≤ hi) (h4 : hi < 2 ^ 62)
    (q : R (Itr lo (hi - lo).toNat) H) : wpAny (model X.prog X.w) X.A (pyIter (.ref s.heap.objs.size)) (PIE X pins σ tg R) E { s with heap := s.heap.push { cls := .type "range", data := .fields #[.int lo t, .int hi u, .int 1 v] }, toks := tk } := by
  refine wpAny_pyIter_range (IsRange.new ..) (small_one h1 h2 h3 h4) ?_
  have I1 : Inv X pins σ H { s with heap := s.heap.push { cls := .type "range", data := .fields #[.int lo t, .int hi u, .int 1 v] }, toks := tk } := I.kept fun b o e => Heap.get?_push_of_some _ e
  refine ⟨(s.heap.push { cls := .type "range", data := .fields #[.int lo t, .int hi u, .int 1 v] }).objs.size, [(s.heap.push { cls := .type "range", data := .fields #[.int lo t, .int hi u, .int 1 v] }).objs.size], _, _, H, rfl,
    I1.kept (t' := tk) fun b o e => Heap.get?_push_of_some _ e, turn_range _ lo (hi - lo).toNat, ?_, fun b hb => ?_, q⟩
  · have e1 : lo + ((0 : Nat) : Int) * 1 = lo := by simp
    have e2 : (((hi - lo).toNat : Nat) : Int) - ((0 : Nat) : Int) = Builtin.Range.rangeSize lo hi 1 := by rw [rangeSize_one]; split <;> omega
    show IsRangeIter _ _ (lo + ((0 : Nat) : Int) * 1) ((((hi - lo).toNat : Nat) : Int) - ((0 : Nat) : Int)) 1
    rw [e1, e2]
    exact Heap.get?_push_size _ rfl
  · have e : b = (s.heap.push { cls := .type "range", data := .fields #[.int lo t, .int hi u, .int 1 v] }).objs.size := by simpa using hb
    subst e
    exact I1.fpOk (Nat.le_refl _) (I1.hok.fresh (Nat.le_refl _))
noncomputable def iRng1 (ta : TA) : TI := fun σ H R => ta σ H fun vs H1 => ∃ j : Int, vs = [.int j] ∧ -(2 ^ 62) ≤ j ∧ j < 2 ^ 62 ∧ R (Itr 0 j.toNat) H1
theorem pi_range1 {a : Expr} {ta : TA} {p pos : Pos} (hg : Gl X "range") (hm : X.mg "range" = none) (ha : PA X [a] ta) (hs : starEach [a] X.env = [(false, eval a X.env)] := by rfl) : PI X tg (.Call (.Name "range" p) [a] [] pos) (iRng1 ta) := by
  intro pins s σ H R I h
  refine Call_ (ld_blt I hg hm boot_range (PyProof.Rows.callWith_type1 (thn (ha pos pins s σ H _ I h) fun us s1 ⟨vs, H1, I1, r1, q1⟩ => ?_) hs rfl))
  obtain ⟨j, e, q1, q2, q⟩ := q1
  subst e
  cases r1 with
  | cons r rr =>
    cases rr
    obtain ⟨t, rfl⟩ := r
    exact call_range_1 (range_it I1 (by omega) (by omega) q1 q2 (by simpa using q))
noncomputable def tFor (wi : TI) (g : TG) (tb : TS) : TS := fun D σ H => wi σ H fun J H1 => ∃ W : Nat → Nat → St → Hp → Prop, (∃ m, W 0 m σ H1) ∧ ∀ i m σ H, W i m σ H →
  (J.stop i H ∧ D.nx σ H) ∨ (J.go i H ∧ ∃ N : St → Hp → Prop, (∀ σ' H', N σ' H' → ∃ m', m' < m ∧ W (i + 1) m' σ' H') ∧ ∀ x H', J.yld i H x H' → g x σ H' fun σ2 H2 => tb { D with nx := N, ct := N, bk := D.nx } σ2 H2)
noncomputable def pinsAt (fp : List Addr) (h : Heap) : List (Addr × Obj) := fp.filterMap fun b => (h.get? b).map fun o => (b, o)
theorem mem_pinsAt {fp : List Addr} {h : Heap} {b : Addr} {o : Obj} (hb : b ∈ fp) (e : h.get? b = some o) : (b, o) ∈ pinsAt fp h := List.mem_filterMap.mpr ⟨b, hb, by rw [e]; rfl⟩
theorem of_pinsAt {fp : List Addr} {h : Heap} {p : Addr × Obj} (hp : p ∈ pinsAt fp h) : p.1 ∈ fp ∧ h.get? p.1 = some p.2 := by
  obtain ⟨b, hb, e⟩ := List.mem_filterMap.mp hp
  cases q : h.get? b with
  | none => rw [q] at e; cases e
  | some o =>
    rw [q] at e
    have e' : (b, o) = p := Option.some.inj e
    subst e'
    exact ⟨hb, q⟩
theorem Inv.pinned {pins : List (Addr × Obj)} {σ : St} {H : Hp} {s : Shared} {fp : List Addr} (I : Inv X pins σ H s) (hf : ∀ b ∈ fp, FpOk X pins H b) (ho : ∀ b ∈ fp, ∃ o, s.heap.get? b = some o ∧ ∀ v, o.data ≠ .cell v) : Inv X (pins ++ pinsAt fp s.heap) σ H s :=
  I.pins_of fun p hp => (List.mem_append.mp hp).elim (fun z => I.pin p (List.mem_append_right _ z)) fun z => by
    obtain ⟨hb, e⟩ := of_pinsAt z
    obtain ⟨f0, f1, f2, _⟩ := hf p.1 hb
    obtain ⟨o, e', d⟩ := ho p.1 hb
    rw [e] at e'; cases e'
    exact ⟨e, f0, f1, f2, d⟩
theorem Inv.unpinned {pins pl : List (Addr × Obj)} {σ : St} {H : Hp} {s : Shared} (I : Inv X (pins ++ pl) σ H s) : Inv X pins σ H s := I.pins_of fun p hp => I.pin p (List.mem_append_right _ (List.mem_append_left _ hp))
theorem ps_for {iter : Expr} {body : List Stmt} {wi : TI} {g : TG} {tb : TS} {pos : Pos} (hp : PassesOwn (model X.prog X.w) X.A X.env X.xe) (hc : X.calm = true) (hi : PI X tg iter wi) (hg : PG X tg g) (hb : PSs X body tb)
    (hs : ∀ x, foldedSetIterable iter X.env x = pure x := by intro _; rfl) : PS X (.For tg iter body [] pos) (tFor wi g tb) := by
  intro pins s σ H D I h
  refine wpAny_For (thn (hi pins s σ H _ I h) fun v s1 h1 => thn h1 fun itv s2 h2 => ?_) hs
  obtain ⟨it, fp, tn, J, H2, e, I2, T, st2, f2, W, ⟨m0, w0⟩, turn⟩ := h2
  subst e
  have stat : ∀ {H' : Hp}, (∀ b ∈ fp, H' b = none) → ∀ b ∈ fp, FpOk X pins H' b := fun hn b hb => ⟨hn b hb, (f2 b hb).2⟩
  refine codeAny_forLoop_any (fun n s' => ∃ i σ' H', Inv X pins σ' H' s' ∧ tn i s'.heap ∧ (∀ b ∈ fp, H' b = none) ∧ W i n σ' H') ?_ m0 ⟨0, σ, H2, I2, st2, fun b hb => (f2 b hb).1, w0⟩
  rintro n s3 ⟨i, σ3, H3, I3, st3, fr3, w3⟩
  rcases turn i n σ3 H3 w3 with ⟨stop, qn⟩ | ⟨go, N, hN, step⟩
  · refine wpAny_passesOwn hp (thn (T.done X rfl rfl rfl hc i pins s3 σ3 H3 X.xe I3 (stat fr3) st3 stop) fun r s4 ⟨hr, I4⟩ => ?_)
    subst hr
    exact wpAny_execs_nil ⟨σ3, H3, I4, qn⟩
  · refine wpAny_passesOwn hp (thn (T.item X rfl rfl rfl hc i pins s3 σ3 H3 X.xe I3 (stat fr3) st3 go) fun r s4 ⟨u, hr, h4⟩ => ?_)
    subst hr
    refine wpAny_passesOwn hp (thn h4 fun _ s5 ⟨x, H5, I5, r5, y5, st5, fr5⟩ => ?_)
    have I5' := I5.pinned (stat fr5) (T.obj _ _ st5)
    refine wpAny_passesOwn hp (thn (hg _ s5 σ3 H5 x u _ I5' r5 (step x H5 y5)) fun _ s6 ⟨σ6, H6, I6, q6⟩ => ?_)
    refine wpAny_passesOwn hp (thn (hb _ s6 σ6 H6 _ I6 q6) fun f s7 q7 => ?_)
    have again : ∀ {σ7 : St} {H7 : Hp}, Inv X (pins ++ pinsAt fp s5.heap) σ7 H7 s7 → N σ7 H7 → ∃ m, m < n ∧ ∃ i σ' H', Inv X pins σ' H' s7 ∧ tn i s7.heap ∧ (∀ b ∈ fp, H' b = none) ∧ W i m σ' H' := fun {σ7 H7} I7 n7 => by
      obtain ⟨m', hm, w7⟩ := hN σ7 H7 n7
      refine ⟨m', hm, i + 1, σ7, H7, I7.unpinned, T.keep _ _ _ st5 fun b hb o e => (I7.pin (b, o) (List.mem_append_right _ (List.mem_append_right _ (mem_pinsAt hb e)))).1, fun b hb => ?_, w7⟩
      obtain ⟨o, e, d⟩ := T.obj _ _ st5 b hb
      exact (I7.pin (b, o) (List.mem_append_right _ (List.mem_append_right _ (mem_pinsAt hb e)))).2.1
    cases f with
    | next => obtain ⟨σ7, H7, I7, n7⟩ := q7; exact again I7 n7
    | cont => obtain ⟨σ7, H7, I7, n7⟩ := q7; exact again I7 n7
    | brk => obtain ⟨σ7, H7, I7, q7⟩ := q7; exact ⟨σ7, H7, I7.unpinned, q7⟩
    | ret v => obtain ⟨x7, σ7, H7, I7, r7, q7⟩ := q7; exact ⟨x7, σ7, H7, I7.unpinned, r7, q7⟩
end
end L2
namespace L2
open PySem PySem.Spec PyProof.Rows
noncomputable abbrev R2 := V → V → Hp → VK → Prop
noncomputable def OpR (X : Cx) (f : Value → Value → Sem Value) (r : R2) : Prop :=
  ∀ (pins : List (Addr × Obj)) (s : Shared) (σ : St) (H : Hp) (x y : V) (v u : Value) (Q : VK), Inv X pins σ H s → RelV x v → RelV y u → r x y H Q →
    wpAny (model X.prog X.w) X.A (f v u) (EP X pins σ Q) X.xe s
noncomputable def UnR (X : Cx) (f : Value → Sem Value) (r : V → Hp → VK → Prop) : Prop :=
  ∀ (pins : List (Addr × Obj)) (s : Shared) (σ : St) (H : Hp) (x : V) (v : Value) (Q : VK), Inv X pins σ H s → RelV x v → r x H Q →
    wpAny (model X.prog X.w) X.A (f v) (EP X pins σ Q) X.xe s
noncomputable def CallR (X : Cx) (f : Value) (r : List V → Hp → VK → Prop) : Prop :=
  ∀ (pins : List (Addr × Obj)) (s : Shared) (σ : St) (H : Hp) (xs : List V) (us : List Value) (Q : VK), Inv X pins σ H s → Vals xs us → r xs H Q →
    wpAny (model X.prog X.w) X.A (call f us) (EP X pins σ Q) X.xe s
noncomputable def TruR (X : Cx) (r : V → Hp → (Bool → Hp → Prop) → Prop) : Prop :=
  ∀ (pins : List (Addr × Obj)) (s : Shared) (σ : St) (H : Hp) (x : V) (v : Value) (Q : Bool → Hp → Prop), Inv X pins σ H s → RelV x v → r x H Q →
    wpAny (model X.prog X.w) X.A (truthy v) (TP X pins σ Q) X.xe s
noncomputable def tOp (r : R2) (ta tb : TE) : TE := fun σ H Q => ta σ H fun x H1 => tb σ H1 fun y H2 => r x y H2 Q
noncomputable def tUn (r : V → Hp → VK → Prop) (ta : TE) : TE := fun σ H Q => ta σ H fun x H1 => r x H1 Q
noncomputable def rI (C : Int → Int → Prop) (g : Int → Int → V) : R2 := fun x y H Q => ∃ i j, x = .int i ∧ y = .int j ∧ C i j ∧ Q (g i j) H
noncomputable def rI0 (g : Int → Int → V) : R2 := fun x y H Q => ∃ i j, x = .int i ∧ y = .int j ∧ Q (g i j) H
noncomputable def rU (g : Int → V) : V → Hp → VK → Prop := fun x H Q => ∃ i, x = .int i ∧ Q (g i) H
section
variable {X : Cx} {a b c : Expr} {ta tb tc : TE} {pos : Pos}
theorem binT (ha : PE X a ta) (hb : PE X b tb) {pins : List (Addr × Obj)} {s : Shared} {σ : St} {H : Hp} {R : V → V → Hp → Prop} (I : Inv X pins σ H s)
    (h : ta σ H fun x H1 => tb σ H1 fun y H2 => R x y H2) {Q : Value → Shared → Prop} {f : Value → Value → Sem Value}
    (hf : ∀ v u s2 x y H2, Inv X pins σ H2 s2 → RelV x v → RelV y u → R x y H2 → wpAny (model X.prog X.w) X.A (f v u) Q X.xe s2) :
    wpAny (model X.prog X.w) X.A (eval a X.env) (fun v s₁ => wpAny (model X.prog X.w) X.A (eval b X.env) (fun u s₂ => wpAny (model X.prog X.w) X.A (f v u) Q X.xe s₂) X.xe s₁) X.xe s := by
  refine thn (ha pins s σ H _ I h) fun v s1 ⟨x, H1, I1, r1, q1⟩ => ?_
  refine thn (hb pins s1 σ H1 _ I1 q1) fun u s2 ⟨y, H2, I2, r2, q2⟩ => ?_
  exact hf v u s2 x y H2 I2 r1 r2 q2
theorem pe_op {op : Operator} {r : R2} (ho : OpR X (binaryOp op) r) (ha : PE X a ta) (hb : PE X b tb) : PE X (.BinOp a op b pos) (tOp r ta tb) := by
  intro pins s σ H Q I h
  exact wpAny_BinOp (binT ha hb I h fun v u s2 x y H2 I2 rx ry q => ho pins s2 σ H2 x y v u Q I2 rx ry q)
theorem pe_un {op : UnaryOp} {r : V → Hp → VK → Prop} (ho : UnR X (unaryOp op) r) (ha : PE X a ta) : PE X (.UnaryOp op a pos) (tUn r ta) := by
  intro pins s σ H Q I h
  exact UnaryOp_ (thn (ha pins s σ H _ I h) fun v s1 ⟨x, H1, I1, r1, q1⟩ => ho pins s1 σ H1 x v Q I1 r1 q1)
theorem opI {f : Value → Value → Sem Value} {C : Int → Int → Prop} {g : Int → Int → Int}
    (rule : ∀ (i j : Int) (t u : Tok) (s : Shared) (Q : Value → Shared → Prop) (E : Value → Shared → Prop), C i j → Q (.int (g i j) s.toks) { s with toks := s.toks + 1 } → wpAny (model X.prog X.w) X.A (f (.int i t) (.int j u)) Q E s) :
    OpR X f (rI C fun i j => .int (g i j)) := by
  intro pins s σ H x y v u Q I rx ry h
  obtain ⟨i, j, rfl, rfl, hc, q⟩ := h
  obtain ⟨t, rfl⟩ := rx
  obtain ⟨t', rfl⟩ := ry
  exact rule i j t t' s _ _ hc ⟨.int (g i j), H, I.tok _, ⟨_, rfl⟩, q⟩
theorem opI0 {f : Value → Value → Sem Value} {g : Int → Int → Int}
    (rule : ∀ (i j : Int) (t u : Tok) (s : Shared) (Q : Value → Shared → Prop) (E : Value → Shared → Prop), Q (.int (g i j) s.toks) { s with toks := s.toks + 1 } → wpAny (model X.prog X.w) X.A (f (.int i t) (.int j u)) Q E s) :
    OpR X f (rI0 fun i j => .int (g i j)) := by
  intro pins s σ H x y v u Q I rx ry h
  obtain ⟨i, j, rfl, rfl, q⟩ := h
  obtain ⟨t, rfl⟩ := rx
  obtain ⟨t', rfl⟩ := ry
  exact rule i j t t' s _ _ ⟨.int (g i j), H, I.tok _, ⟨_, rfl⟩, q⟩
theorem opB0 {f : Value → Value → Sem Value} {g : Int → Int → Bool}
    (rule : ∀ (i j : Int) (t u : Tok) (s : Shared) (Q : Value → Shared → Prop) (E : Value → Shared → Prop), Q (.bool (g i j)) s → wpAny (model X.prog X.w) X.A (f (.int i t) (.int j u)) Q E s) :
    OpR X f (rI0 fun i j => .bl (g i j)) := by
  intro pins s σ H x y v u Q I rx ry h
  obtain ⟨i, j, rfl, rfl, q⟩ := h
  obtain ⟨t, rfl⟩ := rx
  obtain ⟨t', rfl⟩ := ry
  exact rule i j t t' s _ _ ⟨.bl (g i j), H, I, rfl, q⟩
noncomputable def CDiv (i j : Int) : Prop := 0 < j ∧ j < 1073741824
noncomputable def CMul (i j : Int) : Prop := (-(2 ^ 64) < i ∧ i < 2 ^ 64) ∨ (-(2 ^ 64) < j ∧ j < 2 ^ 64)
theorem CMul.ok {i j : Int} (h : CMul i j) : IntMulOk i j := by
  rcases h with ⟨h1, h2⟩ | ⟨h1, h2⟩
  · exact .of_left (intBits_le_64 h1 h2)
  · exact .of_right (intBits_le_64 h1 h2)
theorem op_add : OpR X (binaryOp .Add) (rI0 fun i j => .int (i + j)) := opI0 fun _ _ _ _ _ _ _ q => add_int q
theorem op_sub : OpR X (binaryOp .Sub) (rI0 fun i j => .int (i - j)) := opI0 fun _ _ _ _ _ _ _ q => sub_int q
theorem op_mul : OpR X (binaryOp .Mult) (rI CMul fun i j => .int (i * j)) := opI fun _ _ _ _ _ _ _ hc q => mul_int q hc.ok
theorem op_fdiv : OpR X (binaryOp .FloorDiv) (rI CDiv fun i j => .int (i / j)) := opI fun i j _ _ _ _ _ hc q => by
  have h1 : (0 : Int) < j := hc.1
  have h2 : j < 1073741824 := hc.2
  exact floordiv_int (by omega) (by rw [Int.fdiv_eq_ediv_of_nonneg i (by omega)]; exact q) (.inl (PyProof.noPylong_small (by omega)))
theorem op_mod : OpR X (binaryOp .Mod) (rI (fun _ j => 0 < j) fun i j => .int (i % j)) := opI fun i j _ _ _ _ _ hc q => by
  have h1 : (0 : Int) < j := hc
  exact mod_int' (by omega) (by rw [Int.fmod_eq_emod_of_nonneg i (by omega)]; exact q)
theorem unI {f : Value → Sem Value} {g : Int → Int}
    (rule : ∀ (i : Int) (t : Tok) (s : Shared) (Q : Value → Shared → Prop) (E : Value → Shared → Prop), Q (.int (g i) s.toks) { s with toks := s.toks + 1 } → wpAny (model X.prog X.w) X.A (f (.int i t)) Q E s) :
    UnR X f (rU fun i => .int (g i)) := by
  intro pins s σ H x v Q I rx h
  obtain ⟨i, rfl, q⟩ := h
  obtain ⟨t, rfl⟩ := rx
  exact rule i t s _ _ ⟨.int (g i), H, I.tok _, ⟨_, rfl⟩, q⟩
theorem un_neg : UnR X (unaryOp .USub) (rU fun i => .int (-i)) := unI fun _ _ _ _ _ q => neg_int q
end
noncomputable def scal : V → V → Bool
  | .non, .non => true | .non, .int _ => true | .int _, .non => true | .non, .bl _ => true | .bl _, .non => true | .non, .str _ => true | .str _, .non => true
  | .int _, .int _ => true | .bl _, .bl _ => true | .str _, .str _ => true | .byt _, .byt _ => true
  | .int _, .str _ => true | .str _, .int _ => true | .bl _, .str _ => true | .str _, .bl _ => true
  | _, _ => false
noncomputable def rNe : R2 := fun x y H Q => scal x y = true ∧ Q (.bl (!decide (x = y))) H
theorem dec_int {i j : Int} : decide (V.int i = V.int j) = (i == j) := by
  rw [Bool.eq_iff_iff]
  simp
theorem dec_bl {i j : Bool} : decide (V.bl i = V.bl j) = (i == j) := by
  rw [Bool.eq_iff_iff]
  simp
theorem dec_str {i j : Str} : decide (V.str i = V.str j) = (i == j) := by
  rw [Bool.eq_iff_iff]
  simp
theorem dec_byt {i j : Array UInt8} : decide (V.byt i = V.byt j) = (i.toList == j.toList) := by
  rw [Bool.eq_iff_iff]
  cases i
  cases j
  simp
section
variable {X : Cx} {a b c : Expr} {ta tb tc : TE} {pos : Pos}
theorem fin_bl {pins : List (Addr × Obj)} {σ : St} {H : Hp} {s : Shared} {Q : VK} {k k' : Bool} (I : Inv X pins σ H s) (q : Q (.bl k) H) (e : k = k') : EP X pins σ Q (.bool k') s := by
  subst e
  exact ⟨.bl k, H, I, rfl, q⟩
theorem op_ne : OpR X (compareOp .NotEq) rNe := by
  intro pins s σ H x y v u Q I rx ry h
  obtain ⟨hs, q⟩ := h
  cases x with
  | non =>
    cases rx
    cases y with
    | non => cases ry; exact PySem.EqNone.ne_none_none (fin_bl I q (by simp))
    | bl j => cases ry; exact PySem.EqNone.ne_none_bool (fin_bl I q (by simp))
    | int j => obtain ⟨t', rfl⟩ := ry; exact PySem.EqNone.ne_none_int (fin_bl I q (by simp))
    | str j => obtain ⟨t', rfl⟩ := ry; exact PySem.EqNone.ne_none_str (fin_bl I q (by simp))
    | _ => exact absurd (show false = true from hs) Bool.false_ne_true
  | bl i =>
    cases rx
    cases y with
    | non => cases ry; exact PySem.EqNone.ne_bool_none (fin_bl I q (by simp))
    | bl j => cases ry; exact ne_bool (fin_bl I q (congrArg not dec_bl))
    | str j => obtain ⟨t', rfl⟩ := ry; exact PySem.EqMixed.ne_bool_str (fin_bl I q (by simp))
    | _ => exact absurd (show false = true from hs) Bool.false_ne_true
  | int i =>
    obtain ⟨t, rfl⟩ := rx
    cases y with
    | non => cases ry; exact PySem.EqNone.ne_int_none (fin_bl I q (by simp))
    | int j => obtain ⟨t', rfl⟩ := ry; exact ne_int (fin_bl I q (congrArg not dec_int))
    | str j => obtain ⟨t', rfl⟩ := ry; exact PySem.EqMixed.ne_int_str (fin_bl I q (by simp))
    | _ => exact absurd (show false = true from hs) Bool.false_ne_true
  | str i =>
    obtain ⟨t, rfl⟩ := rx
    cases y with
    | non => cases ry; exact PySem.EqNone.ne_str_none (fin_bl I q (by simp))
    | bl j => cases ry; exact PySem.EqMixed.ne_str_bool (fin_bl I q (by simp))
    | int j => obtain ⟨t', rfl⟩ := ry; exact PySem.EqMixed.ne_str_int (fin_bl I q (by simp))
    | str j => obtain ⟨t', rfl⟩ := ry; exact ne_str (fin_bl I q (congrArg not dec_str))
    | _ => exact absurd (show false = true from hs) Bool.false_ne_true
  | byt i =>
    obtain ⟨t, rfl⟩ := rx
    cases y with
    | byt j => obtain ⟨t', rfl⟩ := ry; exact PySem.W.ne_bytes (fin_bl I q (congrArg not dec_byt))
    | _ => exact absurd (show false = true from hs) Bool.false_ne_true
  | _ => cases y <;> exact absurd (show false = true from hs) Bool.false_ne_true
theorem op_gt : OpR X (compareOp .Gt) (rI0 fun i j => .bl (decide (j < i))) := opB0 fun _ _ _ _ _ _ _ q => gt_int q
theorem op_in_str : OpR X (compareOp .In) (fun x y H Q => ∃ i j, x = .str i ∧ y = .str j ∧ Q (.bl (!(Builtin.Str.occurrences j i 0 j.length 1).isEmpty)) H) := by
  intro pins s σ H x y v u Q I rx ry h
  obtain ⟨i, j, rfl, rfl, q⟩ := h
  obtain ⟨t, rfl⟩ := rx
  obtain ⟨t', rfl⟩ := ry
  exact in_str (fin_bl I q rfl)
theorem op_isN : OpR X (compareOp .Is) (fun x y H Q => y = .non ∧ Q (.bl (decide (x = .non))) H) := by
  intro pins s σ H x y v u Q I rx ry h
  obtain ⟨rfl, q⟩ := h
  cases ry
  refine is_none_gen (fin_bl I q ?_)
  cases x <;> first
    | (cases rx; rfl)
    | (obtain ⟨t, rfl⟩ := rx; rfl)
theorem op_notN : OpR X (compareOp .IsNot) (fun x y H Q => y = .non ∧ Q (.bl (!decide (x = .non))) H) := by
  intro pins s σ H x y v u Q I rx ry h
  obtain ⟨rfl, q⟩ := h
  cases ry
  refine isnot_none_gen (fin_bl I q ?_)
  cases x <;> first
    | (cases rx; rfl)
    | (obtain ⟨t, rfl⟩ := rx; rfl)
theorem OpR.or {f : Value → Value → Sem Value} {r r' : R2} (h : OpR X f r) (h' : OpR X f r') : OpR X f (fun x y H Q => r x y H Q ∨ r' x y H Q) := by
  intro pins s σ H x y v u Q I rx ry q
  rcases q with q | q
  · exact h pins s σ H x y v u Q I rx ry q
  · exact h' pins s σ H x y v u Q I rx ry q
theorem nomark (b : Expr) {op : CmpOp} (h : op ≠ .In := by decide) (h2 : op ≠ .NotIn := by decide) : behindInMarks op b = false := by
  have e1 : (op == CmpOp.In) = false := by cases op <;> first | rfl | exact absurd rfl h
  have e2 : (op == CmpOp.NotIn) = false := by cases op <;> first | rfl | exact absurd rfl h2
  cases b <;> simp [behindInMarks, e1, e2]
theorem pe_cmpR {op : CmpOp} {r : R2} (ho : OpR X (compareOp op) r) (ha : PE X a ta) (hb : PE X b tb) (hm : behindInMarks op b = false) : PE X (.Compare a [op] [b] pos) (tOp r ta tb) := by
  intro pins s σ H Q I h
  exact wpAny_Compare1 (binT ha hb I h fun v u s2 x y H2 I2 rx ry q => ho pins s2 σ H2 x y v u Q I2 rx ry q) hm
noncomputable def tTest (t : TE) : TT := fun σ H Q => t σ H fun x H' => ∃ k, x = .bl k ∧ Q k H'
theorem pt_cmpR {op : CmpOp} {r : R2} (ho : OpR X (compareOp op) r) (ha : PE X a ta) (hb : PE X b tb) (hm : behindInMarks op b = false) : PT X (.Compare a [op] [b] pos) (tTest (tOp r ta tb)) := by
  intro pins s σ H Q I h
  refine wpAny_isTrue_Compare1 (thn (ha pins s σ H _ I h) fun v s1 ⟨x, H1, I1, r1, q1⟩ => thn (hb pins s1 σ H1 _ I1 q1) fun u s2 ⟨y, H2, I2, r2, q2⟩ =>
    thn (ho pins s2 σ H2 x y v u _ I2 r1 r2 q2) fun c s3 ⟨z, H3, I3, r3, k, e, q3⟩ => ?_) hm
  subst e
  cases r3
  exact wpAny_truthy_bool ⟨H3, I3, q3⟩
noncomputable def TruV (K : PySem.W.Frag) (x : V) (H : Hp) (k : Bool) : Prop :=
  match x with
  | .non => k = false
  | .bl b => k = b
  | .int i => k = (i != 0)
  | .str y => y.length ≤ sizeLine ∧ k = ((y.length : Int) != 0)
  | .byt y => y.size ≤ sizeLine ∧ k = ((y.size : Int) != 0)
  | .ref p => (∃ xs, SqL K H p xs ∧ k = !xs.isEmpty) ∨ (∃ xs, SqT K H p xs ∧ k = !xs.isEmpty) ∨ ∃ kvs, H p = some (.dK kvs) ∧ k = !kvs.isEmpty
  | _ => False
theorem isEmpty_kv {κ : Type} {kvs : List (κ × V)} {vs : List (κ × Value)} (r : KV kvs vs) : (!vs.isEmpty) = !kvs.isEmpty := by
  cases r <;> rfl
theorem isEmpty_of {xs : List V} {its : List Value} (r : Vals xs its) : (!its.toArray.isEmpty) = !xs.isEmpty := by
  cases r <;> simp
theorem line63 : (sizeLine : Nat) < 2 ^ 63 := by rw [sizeLine_eq]; decide
theorem tru_ok : TruR X (fun x H Q => ∃ k, TruV X.K x H k ∧ Q k H) := by
  intro pins s σ H x v Q I rx h
  obtain ⟨k, e, q⟩ := h
  have hl := line63
  have hs : sizeLine = 16777216 := sizeLine_eq
  cases x with
  | non =>
    cases rx
    have e' : k = false := e
    subst e'
    exact truthy_none ⟨H, I, q⟩
  | bl b =>
    cases rx
    have e' : k = b := e
    subst e'
    exact wpAny_truthy_bool ⟨H, I, q⟩
  | int i =>
    obtain ⟨t, rfl⟩ := rx
    have e' : k = (i != 0) := e
    subst e'
    exact PySem.P.truthy_int ⟨H, I, q⟩
  | str y =>
    obtain ⟨t, rfl⟩ := rx
    obtain ⟨hy, e'⟩ : y.length ≤ sizeLine ∧ k = ((y.length : Int) != 0) := e
    subst e'
    exact PySem.P.truthy_str (by omega) ⟨H, I.tok _, q⟩
  | byt y =>
    obtain ⟨t, rfl⟩ := rx
    obtain ⟨hy, e'⟩ : y.size ≤ sizeLine ∧ k = ((y.size : Int) != 0) := e
    subst e'
    exact PySem.W.truthy_bytes (by omega) ⟨H, I.tok _, q⟩
  | ref p =>
    cases rx
    have e' : (∃ xs, SqL X.K H p xs ∧ k = !xs.isEmpty) ∨ (∃ xs, SqT X.K H p xs ∧ k = !xs.isEmpty) ∨ ∃ kvs, H p = some (.dK kvs) ∧ k = !kvs.isEmpty := e
    rcases e' with ⟨xs, hx, e'⟩ | ⟨xs, hx, e'⟩ | ⟨kvs, hx, e'⟩
    · subst e'
      obtain ⟨its, r, pl, hz⟩ := I.list hx
      have hlen := r.length
      exact wpAny_truthy_list pl.isList (by simp only [List.size_toArray]; omega) ⟨H, I.tok _, by rw [isEmpty_of r]; exact q⟩
    · subst e'
      obtain ⟨its, r, pl, hz⟩ := I.tuple hx
      have hlen := r.length
      exact truthy_tuple pl (by simp only [List.size_toArray]; omega) ⟨H, I.tok _, by rw [isEmpty_of r]; exact q⟩
    · subst e'
      obtain ⟨hz, hS, vs, r, m⟩ : kvs.length ≤ sizeLine ∧ (p == sysModules) = false ∧ ∃ vs, KV kvs vs ∧ s.heap.DictOf (mixKind X.prog X.w) p vs := I.hok p _ hx
      have hlen : kvs.length = vs.length := Paired.length r
      exact wpAny_truthy_dict hS m (by omega) ⟨H, I.tok _, by rw [isEmpty_kv r]; exact q⟩
  | _ => exact (show False from e).elim
theorem pt_truth (ha : PE X a ta) (he : ∀ whole, isTrue a X.env whole = (do let v ← whole; standAt a.pos; holding [v] (truthy v))) :
    PT X a (fun σ H Q => ta σ H fun x H' => ∃ k, TruV X.K x H' k ∧ Q k H') := by
  intro pins s σ H Q I h
  exact isTrue_plain (thn (ha pins s σ H _ I h) fun v s1 ⟨x, H1, I1, r1, q1⟩ => tru_ok pins s1 σ H1 x v Q I1 r1 q1) (he _)
theorem op_add_str : OpR X (binaryOp .Add) (fun x y H Q => ∃ i j, x = .str i ∧ y = .str j ∧ i.length + j.length ≤ sizeLine ∧ Q (.str (i ++ j)) H) := by
  intro pins s σ H x y v u Q I rx ry h
  obtain ⟨i, j, rfl, rfl, hz, q⟩ := h
  obtain ⟨t, rfl⟩ := rx
  obtain ⟨t', rfl⟩ := ry
  exact add_str (fun t' tk => ⟨.str (i ++ j), H, I.tok _, ⟨_, rfl⟩, q⟩) hz
theorem vals1 {x : V} {us : List Value} (r : Vals [x] us) : ∃ u, us = [u] ∧ RelV x u := by
  cases r with
  | cons r1 r2 => cases r2; exact ⟨_, rfl, r1⟩
theorem vals2 {x y : V} {us : List Value} (r : Vals [x, y] us) : ∃ u w', us = [u, w'] ∧ RelV x u ∧ RelV y w' := by
  cases r with
  | cons r1 r2 =>
    cases r2 with
    | cons r3 r4 => cases r4; exact ⟨_, _, rfl, r1, r3⟩
theorem call_max2 (hc : X.calm = true) : CallR X (.builtin "max") (fun xs H Q => ∃ i j, xs = [.int i, .int j] ∧ Q (.int (if j > i then j else i)) H) := by
  intro pins s σ H xs us Q I r h
  obtain ⟨i, j, rfl, q⟩ := h
  obtain ⟨u, w', rfl, ⟨t, rfl⟩, ⟨t', rfl⟩⟩ := vals2 r
  refine max_two_ints (I.ok.hd hc) fun h' tk k => ⟨_, H, I.kept k, ?_, q⟩
  by_cases hj : j > i
  · rw [if_pos hj, if_pos hj]; exact ⟨_, rfl⟩
  · rw [if_neg hj, if_neg hj]; exact ⟨_, rfl⟩
theorem call_min2 (hc : X.calm = true) : CallR X (.builtin "min") (fun xs H Q => ∃ i j, xs = [.int i, .int j] ∧ Q (.int (if j < i then j else i)) H) := by
  intro pins s σ H xs us Q I r h
  obtain ⟨i, j, rfl, q⟩ := h
  obtain ⟨u, w', rfl, ⟨t, rfl⟩, ⟨t', rfl⟩⟩ := vals2 r
  refine min_two_ints (I.ok.hd hc) fun h' tk k => ⟨_, H, I.kept k, ?_, q⟩
  by_cases hj : j < i
  · rw [if_pos hj, if_pos hj]; exact ⟨_, rfl⟩
  · rw [if_neg hj, if_neg hj]; exact ⟨_, rfl⟩
theorem call_int1 : CallR X (.type "int") (fun xs H Q => (∃ i, xs = [.int i] ∧ Q (.int i) H) ∨ ∃ k, xs = [.bl k] ∧ Q (.int (if k then 1 else 0)) H) := by
  intro pins s σ H xs us Q I r h
  rcases h with ⟨i, rfl, q⟩ | ⟨k, rfl, q⟩
  · obtain ⟨u, rfl, t, rfl⟩ := vals1 r
    exact call_int_int ⟨.int i, H, I, ⟨_, rfl⟩, q⟩
  · obtain ⟨u, rfl, r1⟩ := vals1 r
    cases r1
    exact call_int_bool ⟨.int (if k then 1 else 0), H, I.tok _, ⟨_, rfl⟩, q⟩
end
end L2
namespace L2
open PySem PySem.Spec PyProof.Rows
structure ObjM (h : Heap) (x dx C : Addr) (mA : Str → Option Value) : Prop where
  obj : h.get? x = some (PySem.W.instObj C dx)
  ns : h.Ns1 dx mA
  ne : dx ≠ x
theorem lookIn_ns {h : Heap} {dx : Addr} {mA : Str → Option Value} (n : h.Ns1 dx mA) : ∃ od, h.get? dx = some od ∧ ∀ name, PySem.W.lookIn name od = some (mA name) := by
  obtain ⟨o, es, ep, ho, hd, hk, _, hm⟩ := n
  refine ⟨o, ho, fun name => ?_⟩
  have e := hm name
  unfold nsFind findBy at e
  rw [← Array.find?_toList] at e
  unfold PySem.W.lookIn
  rw [hd]
  dsimp only
  split
  · rename_i y q
    rw [q] at e
    exact congrArg some e
  · rename_i q
    rw [q] at e
    have a : es.toList.any (·.refKey) = false := by
      rw [List.any_eq_false]
      intro y hy
      obtain ⟨z, t, hkey⟩ := hk y (Array.mem_toList_iff.mp hy)
      simp [DictEntry.refKey, hkey]
    have a' : ¬ es.toList.any (·.refKey) = true := by rw [a]; exact Bool.false_ne_true
    rw [if_neg a']
    exact congrArg some e
theorem ObjM.look {h : Heap} {x dx C : Addr} {mA : Str → Option Value} (I : ObjM h x dx C mA) : ∃ od, PySem.W.InstAt h x (PySem.W.instObj C dx) C (some od) ∧ ∀ name, PySem.W.lookIn name od = some (mA name) :=
  let ⟨od, ho, hl⟩ := lookIn_ns I.ns
  ⟨od, ⟨I.obj, rfl, rfl, ho⟩, hl⟩
section
variable {prog : Program} {w : World} {A : Around} {E : Value → Shared → Prop} {s : Shared} {K : PySem.W.Frag} {x dx C f : Addr} {mA : Str → Option Value} {name : Str} {v : Value}
theorem get_map {expr : Bool} {Q : Value → Shared → Prop} (X : K.In s.heap) (I : ObjM s.heap x dx C mA) (hg : PySem.W.plainGet K C name = true) (hh : PySem.W.hasDictIn K C = true)
    (ha : PySem.W.findIn K (.ref C) name = some none) (hv : mA name = some v) (hv' : PySem.W.handedIn v = true) (h : Q v { s with toks := s.toks + 1 }) :
    wpAny (model prog w) A (getAttr (.ref x) name expr) Q E s := by
  obtain ⟨od, J, hl⟩ := I.look
  exact PySem.W.get_value X J (PySem.W.plainGet_of hg).1 (PySem.W.findObj_own hh ha rfl (by rw [hl, hv])) hv' h
theorem get_meth {pl : Sem Bool} {Q : Value × List Value → Shared → Prop} (X : K.In s.heap) (I : ObjM s.heap x dx C mA) (hg : PySem.W.plainGet K C name = true)
    (hf : PySem.W.findIn K (.ref C) name = some (some (.ref f))) (ht : PySem.W.isFn K (.ref f) = true) (hv : mA name = none) (h : Q (.ref f, [.ref x]) s) :
    wpAny (model prog w) A (getMethod (.ref x) name pl) Q E s := by
  obtain ⟨od, J, hl⟩ := I.look
  exact PySem.W.method_fn X J (PySem.W.plainGet_of hg).1 (PySem.W.plainGet_of hg).2 hf (beq_iff_eq.mp ht) (by show (PySem.W.lookIn name od).map (·.isSome) = some false; rw [hl, hv]; rfl) h
theorem set_map {ns : List Str} {Q : Unit → Shared → Prop} (X : K.In s.heap) (I : ObjM s.heap x dx C mA)
    (hs : PySem.W.findIn K (.ref C) "__setattr__" = some (some (.builtin "object.__setattr__"))) (hp : PySem.W.plainOver K C = true) (ht : PySem.W.takerIn K C name = some none) (hh : PySem.W.hasDictIn K C = true)
    (hw : PySem.Within mA ns) (hsz : ns.length ≤ sizeLine)
    (h : ∀ h', ObjM h' x dx C (fun y => if y = name then some v else mA y) → Heap.SameBut dx s.heap h' → Q () { s with heap := h', toks := s.toks + 2 }) :
    wpAny (model prog w) A (setAttr (.ref x) name v) Q E s := by
  obtain ⟨od, J, hl⟩ := I.look
  refine PySem.W.set_plain X J hs (PySem.W.osa_open (s := { s with toks := s.toks + 1 }) (r := none) X J hp ht fun b => ?_)
  obtain ⟨cd, hc, hd'⟩ := PySem.W.any_some hh
  have hx : s.heap.get? x = some ⟨.ref C, some dx, .plain, #[]⟩ := I.obj
  refine wpAny_bind (wpAny_pure (wpAny_bind (wpAny_bind (wpAny_loadPart hx (wpAny_bind (PySem.W.Looks.here (s := { s with toks := s.toks + 1 }) (PySem.W.looks_clsIn X hc) ?_))))))
  rw [hd']
  refine wpAny_pure (a := some dx) (wpAny_bind (wpAny_pure (wpAny_bind ?_)))
  refine wpAny_nsSet1 (s := { s with toks := s.toks + 1 }) I.ns fun h' hn2 hs2 => ?_
  obtain ⟨oD, esD, epD, hoD, hdD, hcD⟩ := hn2.count (PySem.Within.cons name v hw)
  refine wpAny_bind (wpAny_lookBehind hoD (by rw [hdD]; exact pastItsLine_dict (Nat.le_trans hcD (by rw [List.length_cons]; omega))) ?_)
  exact wpAny_pure (h _ ⟨(hs2.2 _ (Ne.symm I.ne)).trans I.obj, hn2, I.ne⟩ hs2)
theorem make_map {R : Result → Shared → Prop} {vs : List Value} {kw : List (Str × Value)} (X : K.In s.heap) (hm : PySem.W.makesIn K C = true)
    (hi : PySem.W.findIn K (.ref C) "__init__" = some (some (.ref f))) (hf : PySem.W.typeIn K (.ref f) = some (.type "function"))
    (h : codeAny (model prog w) (A.under (.builtin "type.__call__" ⟨.ref C :: vs, kw⟩)) (.call (.ref f) ⟨.ref (s.heap.objs.size + 1) :: vs, kw⟩) (PySem.W.InitBack (s.heap.objs.size + 1) R)
      { s with heap := (s.heap.push PySem.W.emptyDict).push (PySem.W.instObj C s.heap.objs.size) }) :
    codeAny (model prog w) A (.call (.ref C) ⟨vs, kw⟩) R s := by
  obtain ⟨hh, g, d, t, os⟩ := s
  exact PySem.W.make_core (PySem.W.makes_of X hm) (PySem.W.looks_findIn X hi) (fun self => PySem.W.bind_fn X self hf) (.inl rfl) h
end
noncomputable def putF (f : Str) (v : V) : List (Str × V) → List (Str × V)
  | [] => [(f, v)]
  | (g, x) :: r => if g = f then (g, v) :: r else (g, x) :: putF f v r
theorem lookup_putF (f g : Str) (v : V) : ∀ fs : List (Str × V), (putF f v fs).lookup g = if g = f then some v else fs.lookup g
  | [] => by
    show List.lookup g [(f, v)] = _
    by_cases h : g = f
    · have hb : (g == f) = true := beq_iff_eq.mpr h
      simp only [List.lookup, hb, if_pos h]
    · have hb : (g == f) = false := beq_eq_false_iff_ne.mpr h
      simp only [List.lookup, hb, if_neg h]
  | (k, x) :: r => by
    have ih := lookup_putF f g v r
    rw [show putF f v ((k, x) :: r) = (if k = f then (k, v) :: r else (k, x) :: putF f v r) from rfl]
    by_cases hk : k = f
    · rw [if_pos hk]
      by_cases h : g = k
      · have hb : (g == k) = true := beq_iff_eq.mpr h
        simp only [List.lookup, hb, if_pos (h.trans hk)]
      · have hb : (g == k) = false := beq_eq_false_iff_ne.mpr h
        simp only [List.lookup, hb, if_neg (fun e : g = f => h (e.trans hk.symm))]
    · rw [if_neg hk]
      by_cases h : g = k
      · have hb : (g == k) = true := beq_iff_eq.mpr h
        simp only [List.lookup, hb, if_neg (fun e : g = f => hk (h.symm.trans e))]
      · have hb : (g == k) = false := beq_eq_false_iff_ne.mpr h
        simp only [List.lookup, hb]
        exact ih
theorem keys_putF (f : Str) (v : V) : ∀ fs : List (Str × V), f ∈ (putF f v fs).map (·.1) ∧ ∀ g, g ∈ fs.map (·.1) → g ∈ (putF f v fs).map (·.1)
  | [] => ⟨by simp [putF], fun g h => by simp at h⟩
  | (k, x) :: r => by
    obtain ⟨i1, i2⟩ := keys_putF f v r
    rw [show putF f v ((k, x) :: r) = (if k = f then (k, v) :: r else (k, x) :: putF f v r) from rfl]
    by_cases hk : k = f
    · rw [if_pos hk]
      subst hk
      exact ⟨by simp, fun g h => by simpa using h⟩
    · rw [if_neg hk]
      refine ⟨?_, fun g h => ?_⟩
      · rw [List.map_cons]
        exact List.mem_cons_of_mem _ i1
      · rw [List.map_cons] at h ⊢
        rcases List.mem_cons.mp h with e | e
        · exact List.mem_cons.mpr (.inl e)
        · exact List.mem_cons_of_mem _ (i2 g e)
theorem length_putF (f : Str) (v : V) : ∀ fs : List (Str × V), (putF f v fs).length ≤ fs.length + 1
  | [] => by simp [putF]
  | (k, x) :: r => by
    have ih := length_putF f v r
    rw [show putF f v ((k, x) :: r) = (if k = f then (k, v) :: r else (k, x) :: putF f v r) from rfl]
    by_cases hk : k = f
    · rw [if_pos hk, List.length_cons, List.length_cons]; omega
    · rw [if_neg hk, List.length_cons, List.length_cons]; omega
theorem RelO.some_of {v : V} {o : Option Value} (r : RelO (some v) o) : ∃ u, o = some u ∧ RelV v u := by
  cases o with
  | none => exact (show False from r).elim
  | some u => exact ⟨u, rfl, r⟩
theorem RelO.none_of {o : Option Value} (r : RelO none o) : o = none := by
  cases o with
  | none => rfl
  | some u => exact (show False from r).elim
theorem handed_of {v : V} {u : Value} (r : RelV v u) : PySem.W.handedIn u = true := by
  cases v with
  | non => cases (show u = Value.none from r); rfl
  | bl b => cases (show u = Value.bool b from r); rfl
  | int i => obtain ⟨t, e⟩ := (show ∃ t, u = Value.int i t from r); cases e; rfl
  | str x => obtain ⟨t, e⟩ := (show ∃ t, u = Value.str x t from r); cases e; rfl
  | byt b => obtain ⟨t, e⟩ := (show ∃ t, u = Value.bytes b t from r); cases e; rfl
  | flt b => obtain ⟨t, e⟩ := (show ∃ t, u = Value.float b t from r); cases e; rfl
  | ref a => cases (show u = Value.ref a from r); rfl
  | ty n => cases (show u = Value.type n from r); rfl
section
variable {P : Program} {w : World} {H H' : Hp} {h h' : Heap} {a C dx : Addr} {fs fs' : List (Str × V)}
theorem ins_get (hok : HOk P w H h) (e : H a = some (.ins C dx fs)) : ∃ mA, ObjM h a dx C mA ∧ (∀ f, RelO (fs.lookup f) (mA f)) ∧ PySem.Within mA (fs.map (·.1)) ∧ fs.length ≤ 1000 ∧ H dx = some (.own a) := by
  obtain ⟨d, z, ne, ob, mA, n, r, q⟩ := (show ObjOk P w H h a (.ins C dx fs) from hok a _ e)
  exact ⟨mA, ⟨ob, n, ne⟩, r, q, z, d⟩
end
structure Cls (K : PySem.W.Frag) (C : Addr) : Prop where
  pg : PySem.W.plainGet K C Str.empty = true
  hd : PySem.W.hasDictIn K C = true
  po : PySem.W.plainOver K C = true
  sa : PySem.W.findIn K (.ref C) "__setattr__" = some (some (.builtin "object.__setattr__"))
theorem Cls.get {K : PySem.W.Frag} {C : Addr} (c : Cls K C) (f : Str) : PySem.W.plainGet K C f = true := c.pg
noncomputable def NoAttr (K : PySem.W.Frag) (C : Addr) (f : Str) : Prop := PySem.W.findIn K (.ref C) f = some none
theorem NoAttr.taker {K : PySem.W.Frag} {C : Addr} {f : Str} (n : NoAttr K C f) : PySem.W.takerIn K C f = some none := by
  unfold PySem.W.takerIn
  rw [show PySem.W.findIn K (.ref C) f = some none from n]
  rfl
structure Con (K : PySem.W.Frag) (C : Addr) (f : Str) (v : V) (u : Value) : Prop where
  at_ : PySem.W.findIn K (.ref C) f = some (some u)
  rel : RelV v u
  get : PySem.W.specialIn K u "__get__" = some none
  cp : PySem.W.copiedNames.contains f = false
structure Meth (K : PySem.W.Frag) (C : Addr) (m : Str) (f : Addr) : Prop where
  at_ : PySem.W.findIn K (.ref C) m = some (some (.ref f))
  fn : PySem.W.isFn K (.ref f) = true
  kp : PySem.W.keepIn K (.ref f) = true
section
variable {X : Cx} {pins : List (Addr × Obj)} {σ : St} {H : Hp} {s : Shared} {a C dx : Addr} {fs : List (Str × V)} {f : Str} {v : V} {A : Around} {E : Value → Shared → Prop}
theorem getattr_ok {b : Bool} {Q : Value → Shared → Prop} (I : Inv X pins σ H s) (e : H a = some (.ins C dx fs)) (c : Cls X.K C) (n : NoAttr X.K C f) (l : fs.lookup f = some v)
    (h : ∀ u s', Inv X pins σ H s' → RelV v u → Q u s') : wpAny (model X.prog X.w) A (getAttr (.ref a) f b) Q E s := by
  obtain ⟨mA, O, r, _, _, _⟩ := ins_get I.hok e
  obtain ⟨u, hu, ru⟩ := RelO.some_of (v := v) (o := mA f) (by rw [← l]; exact r f)
  exact get_map I.kIn O (c.get f) c.hd n hu (handed_of ru) (h u _ (I.tok _) ru)
theorem getmeth_ok {m : Str} {g : Addr} {pl : Sem Bool} {Q : Value × List Value → Shared → Prop} (I : Inv X pins σ H s) (e : H a = some (.ins C dx fs)) (c : Cls X.K C) (k : Meth X.K C m g) (l : fs.lookup m = none)
    (h : Q (.ref g, [.ref a]) s) : wpAny (model X.prog X.w) A (getMethod (.ref a) m pl) Q E s := by
  obtain ⟨mA, O, r, _, _, _⟩ := ins_get I.hok e
  have hn : mA m = none := RelO.none_of (by rw [← l]; exact r m)
  exact get_meth I.kIn O (c.get m) k.at_ k.fn hn h
theorem setattr_ok {y : V} {u : Value} {Q : Unit → Shared → Prop} (I : Inv X pins σ H s) (e : H a = some (.ins C dx fs)) (c : Cls X.K C) (n : NoAttr X.K C f) (hl : fs.length < 1000) (ry : RelV y u)
    (h : ∀ s', Inv X pins σ (upd H a (.ins C dx (putF f y fs))) s' → Q () s') : wpAny (model X.prog X.w) A (setAttr (.ref a) f u) Q E s := by
  obtain ⟨mA, O, r, wi, _, ho⟩ := ins_get I.hok e
  have hz : (fs.map (·.1)).length ≤ sizeLine := by rw [List.length_map, sizeLine_eq]; omega
  refine set_map I.kIn O c.sa c.po n.taker c.hd wi hz fun h' O' sb => h _ ?_
  have hd : ∃ o, h'.get? dx = some o := let ⟨o, _, _, e', _⟩ := O'.ns; ⟨o, e'⟩
  refine I.write (x := a) (e := dx) (by rw [e]; exact True.intro) (.inr ho) (fun b q hb z => (sb.2 b hb).trans z) hd ?_
  refine ⟨by rw [upd_ne O.ne]; exact ho, ?_, O.ne, O'.obj, _, O'.ns, fun g => ?_, fun g hg => ?_⟩
  · have := length_putF f y fs; omega
  · show RelO ((putF f y fs).lookup g) (if g = f then some u else mA g)
    rw [lookup_putF]
    by_cases q : g = f
    · rw [if_pos q, if_pos q]; exact ry
    · rw [if_neg q, if_neg q]; exact r g
  · by_cases q : g = f
    · rw [q]; exact (keys_putF f y fs).1
    · refine (keys_putF f y fs).2 g (wi g fun z => hg ?_)
      show (if g = f then some u else mA g) = none
      rw [if_neg q]; exact z
theorem Inv.made (I : Inv X pins σ H s) : Inv X pins σ (upd (upd H s.heap.objs.size (.own (s.heap.objs.size + 1))) (s.heap.objs.size + 1) (.ins C s.heap.objs.size []))
    { s with heap := (s.heap.push PySem.W.emptyDict).push (PySem.W.instObj C s.heap.objs.size) } := by
  have e1 : (s.heap.push PySem.W.emptyDict).get? s.heap.objs.size = some PySem.W.emptyDict := Heap.get?_push_size s.heap rfl
  have e2 : ((s.heap.push PySem.W.emptyDict).push (PySem.W.instObj C s.heap.objs.size)).get? (s.heap.objs.size + 1) = some (PySem.W.instObj C s.heap.objs.size) := by
    have := Heap.get?_push_size (s.heap.push PySem.W.emptyDict) (o := PySem.W.instObj C s.heap.objs.size) rfl
    rwa [Heap.size_push] at this
  have e3 : (s.heap.push PySem.W.emptyDict).Ns s.heap.objs.size (fun _ => none) := ⟨PySem.W.emptyDict, #[], _, e1, rfl, (fun e he => absurd he (by simp)), fun _ => rfl⟩
  have I1 := I.laid (a := s.heap.objs.size) (o := .own (s.heap.objs.size + 1)) (h' := s.heap.push PySem.W.emptyDict) (t' := s.toks) (fun b u q => Heap.get?_push_of_some _ q) (Nat.le_refl _) ⟨_, e1⟩
  refine I1.laid (a := s.heap.objs.size + 1) (o := .ins C s.heap.objs.size []) (t' := s.toks) (fun b u q => Heap.get?_push_of_some _ q) (Nat.le_of_eq (Heap.size_push _ _)) ?_
  have ne : s.heap.objs.size ≠ s.heap.objs.size + 1 := Nat.ne_of_lt (Nat.lt_succ_self _)
  refine ⟨by rw [upd_ne ne, upd_same], Nat.zero_le _, ne, e2, fun _ => none, (Heap.Ns1.of_empty e3).at fun o q => Heap.get?_push_of_some _ q, fun _ => True.intro, fun y hy => absurd rfl hy⟩
theorem attr_of {prog : Program} {w : World} {env : Env} {e : Expr} {f : Str} {pos : Pos} {s : Shared} {Q : Value → Shared → Prop} (hb : attributeBase e f env (eval e env) = eval e env)
    (h : wpAny (model prog w) A (eval e env) (fun o s₁ => wpAny (model prog w) A (getAttr o f true) Q E s₁) E s) : wpAny (model prog w) A (eval (.Attribute e f pos) env) Q E s :=
  Attribute_any_ h (by rw [arm_eval_Attribute, hb])
end
noncomputable def tFld (K : PySem.W.Frag) (ta : TE) (f : Str) : TE := fun σ H Q => ta σ H fun x H1 => ∃ a C dx fs v, x = .ref a ∧ H1 a = some (.ins C dx fs) ∧ Cls K C ∧ NoAttr K C f ∧ fs.lookup f = some v ∧ Q v H1
noncomputable def sFld (K : PySem.W.Frag) (ta tv : TE) (f : Str) : TS := fun D σ H => tv σ H fun y H1 => ta σ H1 fun x H2 => ∃ a C dx fs, x = .ref a ∧ H2 a = some (.ins C dx fs) ∧ Cls K C ∧ NoAttr K C f ∧ fs.length < 1000 ∧
  D.nx σ (upd H2 a (.ins C dx (putF f y fs)))
section
variable {X : Cx} {o e value : Expr} {f : Str} {pos pos' tpos : Pos} {ta tv : TE}
theorem pe_fld (he : PE X e ta) (hb : attributeBase e f X.env (eval e X.env) = eval e X.env) : PE X (.Attribute e f pos) (tFld X.K ta f) := by
  intro pins s σ H Q I h
  refine attr_of hb (thn (he pins s σ H _ I h) fun u s1 ⟨x, H1, I1, rx, a, C, dx, fs, v, ex, ea, c, n, l, q⟩ => ?_)
  subst ex
  obtain rfl : u = Value.ref a := rx
  exact getattr_ok I1 ea c n l fun u' s2 I2 ru => ⟨v, H1, I2, ru, q⟩
theorem ps_fld (ha : PE X o ta) (hv : PE X value tv) (hs : swapsWith value (some (.Attribute o f pos')) pos.line X.env = pure false) : PS X (.Assign [.Attribute o f pos'] value pos) (sFld X.K ta tv f) := by
  intro pins s σ H D I h
  refine plainObj_wpAny_Assign_Attribute (thn (hv pins s σ H _ I h) fun u s1 ⟨y, H1, I1, ry, q⟩ => thn (ha pins s1 σ H1 _ I1 q) fun ov s2 ⟨x, H2, I2, rx, a, C, dx, fs, ex, ea, c, n, l, q2⟩ => ?_) hs
  subst ex
  obtain rfl : ov = Value.ref a := rx
  exact setattr_ok I2 ea c n l ry fun s3 I3 => ⟨σ, _, I3, q2⟩
end
section
variable {X : Cx} {pins : List (Addr × Obj)} {σ : St} {H : Hp} {s : Shared} {A : Around} {E : Value → Shared → Prop} {Q : Value → Shared → Prop} {c : Value} {b : Bool}
inductive TyOf (K : PySem.W.Frag) (H : Hp) : V → Value → Prop where
  | non : TyOf K H .non (.type "NoneType")
  | bl (x : Bool) : TyOf K H (.bl x) (.type "bool")
  | int (i : Int) : TyOf K H (.int i) (.type "int")
  | str (x : Str) : TyOf K H (.str x) (.type "str")
  | flt (x : UInt64) : TyOf K H (.flt x) (.type "float")
  | lst {a : Addr} {xs : List V} (e : H a = some (.lst xs)) : TyOf K H (.ref a) (.type "list")
  | frz {a : Addr} {o : Obj} {xs : List V} (e : H a = some (.frz o (.lst xs))) : TyOf K H (.ref a) (.type "list")
  | tup {a : Addr} {xs : List V} (e : H a = some (.tup xs)) : TyOf K H (.ref a) (.type "tuple")
  | dK {a : Addr} {kvs : List (Key × V)} (e : H a = some (.dK kvs)) : TyOf K H (.ref a) (.type "dict")
  | dT {a : Addr} {kvs : List (List Key × V)} (e : H a = some (.dT kvs)) : TyOf K H (.ref a) (.type "dict")
  | ins {a C dx : Addr} {fs : List (Str × V)} (e : H a = some (.ins C dx fs)) (cl : Cls K C) (ha : PySem.W.findIn K (.ref C) "__class__" = some (some (.builtin "object.__class__")))
      (hn : PySem.W.specialIn K (.builtin "object.__class__") "__get__" = some (some (.builtin "getset_descriptor.__get__"))) (htk : PySem.W.takesIn K (.builtin "object.__class__") = some true)
      (hm : PySem.W.mroIn K C (.type "object") = some true) : TyOf K H (.ref a) (.ref C)
end
end L2
namespace L2
open PySem PySem.Spec PyProof.Rows
structure Room (k : Nat) (A : Around) : Prop where
  hd : A.handled = none
  dp : A.depth + 3 * k + 5 < recursionLimit
  un : A.units + 16 * k + 200 < cLine
theorem Room.mono {j k : Nat} {A : Around} (r : Room k A) (h : j ≤ k) : Room j A := ⟨r.hd, by have := r.dp; omega, by have := r.un; omega⟩
theorem Room.deeper {k : Nat} {A : Around} (r : Room (k + 1) A) (env : Env) : Room k (A.deeper env) :=
  ⟨r.hd, by have := r.dp; show A.depth + 1 + 3 * k + 5 < _; omega, by have := r.un; show A.units + 3 + 16 * k + 200 < _; omega⟩
theorem make_depth {A : Around} {C : Addr} {us : List Value} {kw : List (Str × Value)} : (A.under (.builtin "type.__call__" ⟨.ref C :: us, kw⟩)).depth = A.depth + 1 := by
  first | rfl | simp [Around.under, Code.weight, Code.isCreation, Code.isGuard, Code.isCaller, Code.frames, Code.isFrame, guardIds]
theorem make_units {A : Around} {C : Addr} {us : List Value} {kw : List (Str × Value)} : (A.under (.builtin "type.__call__" ⟨.ref C :: us, kw⟩)).units = A.units + 1 := by
  first | rfl | simp [Around.under, Code.cUnits, Code.frames, Code.isFrame]
theorem Room.make {k : Nat} {A : Around} (r : Room (k + 1) A) (C : Addr) (us : List Value) (kw : List (Str × Value)) : Room k (A.under (.builtin "type.__call__" ⟨.ref C :: us, kw⟩)) :=
  ⟨r.hd, by have := r.dp; rw [make_depth]; omega, by have := r.un; rw [make_units]; omega⟩
theorem Room.depth {k : Nat} {A : Around} (r : Room k A) : A.depth < recursionLimit := by have := r.dp; omega
theorem Room.units {k : Nat} {A : Around} (r : Room k A) : A.units + 64 < cLine := by have := r.un; omega
noncomputable def tNil : TA := fun _ H Q => Q [] H
noncomputable def tCons (ta : TE) (tr : TA) : TA := fun σ H Q => ta σ H fun x H1 => tr σ H1 fun xs H2 => Q (x :: xs) H2
section
variable {X : Cx} {e : Expr} {es : List Expr} {te : TE} {t : TA} {pos : Pos}
theorem pa_nil : PA X [] tNil := fun _ _ _ _ H Q I h => Calls.spliced_nil ⟨[], H, I, .nil, h⟩
theorem pa_cons (ha : PE X e te) (hr : PA X es t) (hs : starEach (e :: es) X.env = (false, eval e X.env) :: starEach es X.env := by rfl) : PA X (e :: es) (tCons te t) := by
  intro pos pins s σ H Q I h
  rw [hs]
  show wpAny _ _ (spliced ((false, eval e X.env) :: backTo pos (starEach es X.env))) _ _ s
  refine Calls.spliced_cons (thn (ha pins s σ H _ I h) fun u s1 ⟨x, H1, I1, r1, q1⟩ => ?_)
  exact thn (hr pos pins s1 σ H1 _ I1 q1) fun us s2 ⟨xs, H2, I2, r2, q2⟩ => ⟨x :: xs, H2, I2, .cons r1 r2, q2⟩
noncomputable def tTup (t : TA) : TE := fun σ H Q => t σ H fun xs H1 => xs.length ≤ sizeLine ∧ ∀ p, H1 p = none → Q (.ref p) (upd H1 p (.tup xs))
noncomputable def tLst (t : TA) : TE := fun σ H Q => t σ H fun xs H1 => xs.length ≤ sizeLine ∧ ∀ p, H1 p = none → Q (.ref p) (upd H1 p (.lst xs))
theorem pe_tup {x1} (h : PA X es t) : PE X (.Tuple es x1 pos) (tTup t) := by
  intro pins s σ H Q I hq
  refine wpAny_Tuple_spliced (thn (h pos pins s σ H _ I hq) fun us s1 ⟨xs, H1, I1, r, z, q⟩ => ⟨by rw [← r.length]; exact z, ?_⟩)
  have hf : H1 s1.heap.objs.size = none := I1.hok.fresh (Nat.le_refl _)
  refine ⟨.ref s1.heap.objs.size, upd H1 s1.heap.objs.size (.tup xs), I1.laid (t' := s1.toks) (fun b u e => Heap.get?_push_of_some _ e) (Nat.le_refl _) ?_, rfl, q _ hf⟩
  exact ⟨z, us, r, ⟨_, Heap.get?_push_size _ rfl, rfl, _, rfl⟩⟩
theorem pe_lst (h : PA X es t) : PE X (.List es pos) (tLst t) := by
  intro pins s σ H Q I hq
  refine wpAny_List_spliced (thn (h pos pins s σ H _ I hq) fun us s1 ⟨xs, H1, I1, r, z, q⟩ => ⟨by rw [← r.length]; exact z, ?_⟩)
  have hf : H1 s1.heap.objs.size = none := I1.hok.fresh (Nat.le_refl _)
  refine ⟨.ref s1.heap.objs.size, upd H1 s1.heap.objs.size (.lst xs), I1.laid (t' := s1.toks) (fun b u e => Heap.get?_push_of_some _ e) (Nat.le_refl _) ?_, rfl, q _ hf⟩
  exact ⟨z, us, 0, r, Heap.get?_push_size _ rfl⟩
end
noncomputable abbrev Sp := List V → Hp → VK → XK → Prop
noncomputable abbrev CXT := List Env → Hp → Shared → XK → Value → Shared → Prop
structure Env0 (P : Program) (w : World) (K : PySem.W.Frag) (mg : Str → Option Value) (base : Heap) (A : Around) (outer : List Env) (s : Shared) (H : Hp) : Prop where
  frames : A.frames = some outer
  mod : Mod K mg base
  bs : ∀ b o, base.get? b = some o → s.heap.get? b = some o ∧ H b = none
  bsz : base.objs.size ≤ s.heap.objs.size
  funs : s.heap.FunFrames base outer
  frf : ∀ b ∈ frs outer, H b = none
  hok : HOk P w H s.heap
  bare : AllBare s.gens
noncomputable def CE (outer : List Env) (P : Program) (w : World) (H : Hp) (s : Shared) (Q : VK) (u : Value) (s' : Shared) : Prop :=
  ∃ v H', s'.os = s.os ∧ AllBare s'.gens ∧ Un (frs outer) [] H H' s.heap s'.heap ∧ HOk P w H' s'.heap ∧ RelV v u ∧ Q v H'
noncomputable def CR (CX : CXT) (outer : List Env) (P : Program) (w : World) (H : Hp) (s : Shared) (Q : VK) (E : XK) (r : Result) (s' : Shared) : Prop :=
  match r with
  | .ok (.ret u) => CE outer P w H s Q u s'
  | .ok _ => False
  | .error e => CX outer H s E e s'
structure FnOk (P : Program) (w : World) (K : PySem.W.Frag) (mg : Str → Option Value) (base : Heap) (CX : CXT) (k : Nat) (f : Addr) (fd : FuncData) (ps : List Str) (sp : Sp) : Prop where
  len : ∀ vs H Q E, sp vs H Q E → vs.length = ps.length
  run : ∀ (A : Around) (outer : List Env) (s : Shared) (H : Hp) (args : Args) (us : List Value) (vs : List V) (Q : VK) (E : XK), Room k A → Env0 P w K mg base A outer s H → BindsTo s fd args (ps.zip us) → Vals vs us → sp vs H Q E →
    codeAny (model P w) A (.call (.ref f) args) (CR CX outer P w H s Q E) s
theorem FnOk.mono {P : Program} {w : World} {K : PySem.W.Frag} {mg : Str → Option Value} {base : Heap} {CX : CXT} {j k : Nat} {f : Addr} {fd : FuncData} {ps : List Str} {sp : Sp} (F : FnOk P w K mg base CX j f fd ps sp) (h : j ≤ k) :
    FnOk P w K mg base CX k f fd ps sp := ⟨F.len, fun A outer s H args us vs Q E hr => F.run A outer s H args us vs Q E (hr.mono h)⟩
theorem FnOk.imp {P : Program} {w : World} {K : PySem.W.Frag} {mg : Str → Option Value} {base : Heap} {CX : CXT} {k : Nat} {f : Addr} {fd : FuncData} {ps : List Str} {sp sp' : Sp} (F : FnOk P w K mg base CX k f fd ps sp)
    (h : ∀ vs H Q E, sp' vs H Q E → sp vs H Q E) : FnOk P w K mg base CX k f fd ps sp' :=
  ⟨fun vs H Q E q => F.len vs H Q E (h _ _ _ _ q), fun A outer s H args us vs Q E hr he hb hv hs => F.run A outer s H args us vs Q E hr he hb hv (h _ _ _ _ hs)⟩
theorem Env0.make {P : Program} {w : World} {K : PySem.W.Frag} {mg : Str → Option Value} {base : Heap} {A : Around} {outer : List Env} {s : Shared} {H : Hp} (e : Env0 P w K mg base A outer s H) (C : Addr) (us : List Value) (kw : List (Str × Value)) :
    Env0 P w K mg base (A.under (.builtin "type.__call__" ⟨.ref C :: us, kw⟩)) outer s H := ⟨by first | exact e.frames | (simpa [Around.under, Code.envs, Code.isFrame, pushEnvs] using e.frames), e.mod, e.bs, e.bsz, e.funs, e.frf, e.hok, e.bare⟩
section
variable {X : Cx} {pins : List (Addr × Obj)} {σ : St} {H : Hp} {s s' : Shared}
theorem Inv.env0 (I : Inv X pins σ H s) : Env0 X.prog X.w X.K X.mg X.base X.A X.stack s H :=
  ⟨I.ok.frames, I.ok.mod, I.bs, Nat.le_trans I.ok.bsz I.sz, I.stack, I.stkFree, I.hok, I.bare⟩
theorem Inv.after {Q : VK} {u : Value} (I : Inv X pins σ H s) (h : CE X.stack X.prog X.w H s Q u s') : EP X pins σ Q u s' := by
  obtain ⟨v, H', os, bare, un, hok, r, q⟩ := h
  obtain ⟨hh, g, d, t, os'⟩ := s'
  obtain rfl : os' = s.os := os
  exact ⟨v, H', I.call (h' := hh) (g' := g) (d' := d) (t' := t) (ch := []) un hok bare (fun b z => absurd z (by simp)), r, q⟩
end
noncomputable def tCall (sp : Sp) (dvs : List V) (E : XK) (t : TA) : TE := fun σ H Q => t σ H fun vs H1 => sp (vs ++ dvs) H1 Q E
noncomputable def tMeth (C : Addr) (m : Str) (sp : Sp) (dvs : List V) (E : XK) (ta : TE) (t : TA) : TE := fun σ H Q => ta σ H fun x H1 => ∃ a dx fs, x = .ref a ∧ H1 a = some (.ins C dx fs) ∧ fs.lookup m = none ∧
  t σ H1 fun vs H2 => sp (x :: (vs ++ dvs)) H2 Q E
noncomputable def tMake (C : Addr) (sp : Sp) (dvs : List V) (E : XK) (t : TA) : TE := fun σ H Q => t σ H fun vs H1 => ∀ x dx, H1 x = none → H1 dx = none → dx ≠ x →
  sp (.ref x :: (vs ++ dvs)) (upd (upd H1 dx (.own x)) x (.ins C dx [])) (fun v H2 => v = .non ∧ Q (.ref x) H2) E
noncomputable def Binds (K : PySem.W.Frag) (fd : FuncData) (ps : List Str) (ds : List Value) : Prop :=
  ∀ (s : Shared) (us : List Value), K.In s.heap → (us ++ ds).length = ps.length → BindsTo s fd ⟨us, []⟩ (ps.zip (us ++ ds))
theorem Binds.all {K : PySem.W.Frag} {fd : FuncData} {ps : List Str} (h : ∀ us : List Value, us.length = ps.length → bindArgs fd ⟨us, []⟩ = pure (ps.zip us)) : Binds K fd ps [] := fun s us _ hl => by
  rw [List.append_nil] at hl ⊢
  exact .of_eq (h us hl)
noncomputable def Passes (CX : CXT) (X : Cx) (E : XK) : Prop := ∀ (pins : List (Addr × Obj)) (σ : St) (H : Hp) (s : Shared) (e : Value) (s' : Shared), Inv X pins σ H s → CX X.stack H s E e s' → X.xe e s'
section
variable {X : Cx} {CX : CXT} {k : Nat} {f C : Addr} {fd : FuncData} {ps : List Str} {sp : Sp} {dvs : List V} {ds : List Value} {E : XK} {x m : Str} {p pos apos : Pos} {e o : Expr} {es : List Expr} {ta : TE} {t : TA}
theorem run_fn {pins : List (Addr × Obj)} {σ : St} {H : Hp} {s : Shared} {Q : VK} {us : List Value} {vs : List V} (F : FnOk X.prog X.w X.K X.mg X.base CX k f fd ps sp) (hr : Room k X.A) (hb : Binds X.K fd ps ds) (hd : Vals dvs ds) (hx : Passes CX X E)
    (I : Inv X pins σ H s) (r : Vals vs us) (h : sp (vs ++ dvs) H Q E) : wpAny (model X.prog X.w) X.A (call (.ref f) us) (EP X pins σ Q) X.xe s := by
  have r2 : Vals (vs ++ dvs) (us ++ ds) := r.append hd
  have hl : (us ++ ds).length = ps.length := by rw [← r2.length]; exact F.len _ _ _ _ h
  refine wpAny_call (codeAny_mono (F.run X.A X.stack s H ⟨us, []⟩ (us ++ ds) (vs ++ dvs) Q E hr I.env0 (hb s us I.kIn hl) r2 h) fun r s' hq => ?_)
  cases r with
  | error e => exact hx pins σ H s e s' I hq
  | ok fl =>
    cases fl with
    | ret u => exact I.after hq
    | next => exact False.elim hq
    | brk => exact False.elim hq
    | cont => exact False.elim hq
theorem pe_call (F : FnOk X.prog X.w X.K X.mg X.base CX k f fd ps sp) (hr : Room k X.A) (hg : Gl X x) (hm : X.mg x = some (.ref f)) (hk : PySem.W.keepIn X.K (.ref f) = true) (hb : Binds X.K fd ps ds) (hd : Vals dvs ds) (hx : Passes CX X E)
    (ha : PA X (e :: es) t) (hdb : (x == ("__debug__" : Str)) = false := by decide) (he : starEach (e :: es) X.env = (false, eval e X.env) :: starEach es X.env := by rfl) (hpl : (backTo pos (starEach es X.env)).any (·.1) = false := by rfl) :
    PE X (.Call (.Name x p) (e :: es) [] pos) (tCall sp dvs E t) := by
  intro pins s σ H Q I h
  refine wpAny_Call_Name_kw (ld_glob I hg hm ?_ hdb)
  refine PySem.W.callWith_K (h₀ := X.base) I.ok.mod.kin hk (thn (ha pos pins s σ H _ I h) fun us s1 ⟨vs, H1, I1, r, q⟩ => ⟨I1.kIn, ?_⟩) he hpl
  exact run_fn F hr hb hd hx I1 r q
theorem pe_call0 (F : FnOk X.prog X.w X.K X.mg X.base CX k f fd ps sp) (hr : Room k X.A) (hg : Gl X x) (hm : X.mg x = some (.ref f)) (hk : PySem.W.keepIn X.K (.ref f) = true) (hb : Binds X.K fd ps ds) (hd : Vals dvs ds) (hx : Passes CX X E)
    (hdb : (x == ("__debug__" : Str)) = false := by decide) : PE X (.Call (.Name x p) [] [] pos) (tCall sp dvs E tNil) := by
  intro pins s σ H Q I h
  refine wpAny_Call_Name_kw (ld_glob I hg hm ?_ hdb)
  exact PySem.W.callWith_K0 I.kIn hk (run_fn (us := []) F hr hb hd hx I .nil h)
theorem pe_meth {pl : Sem Bool} (he : PE X o ta) (c : Cls X.K C) (hm : Meth X.K C m f) (F : FnOk X.prog X.w X.K X.mg X.base CX k f fd ps sp) (hr : Room k X.A) (hb : Binds X.K fd ps ds) (hd : Vals dvs ds) (hx : Passes CX X E) (ha : PA X (e :: es) t)
    (hst : starEach (e :: es) X.env = (false, eval e X.env) :: starEach es X.env := by rfl) (hpl : (backTo pos (starEach es X.env)).any (·.1) = false := by rfl)
    (ht : eval (.Call (.Attribute o m apos) (e :: es) [] pos) X.env = (do
      let ov ← eval o X.env
      standAt apos.atName
      let (f, first) ← holding [ov] (getMethod ov m pl)
      callWith pos f first (backTo pos (starEach (e :: es) X.env)) (backToKw pos (keywordEach [] X.env))) := by rfl) :
    PE X (.Call (.Attribute o m apos) (e :: es) [] pos) (tMeth C m sp dvs E ta t) := by
  intro pins s σ H Q I h
  refine PySem.W.methodCall_KW (pl := pl) (thn (he pins s σ H _ I h) fun u s1 ⟨x, H1, I1, rx, a, dx, fs, ex, ea, l, q⟩ => ?_) ht
  subst ex
  obtain rfl : u = Value.ref a := rx
  refine getmeth_ok I1 ea c hm l ?_
  refine PySem.W.callWith_K (first := [.ref a]) (h₀ := X.base) I.ok.mod.kin hm.kp (thn (ha pos pins s1 σ H1 _ I1 q) fun us s2 ⟨vs, H2, I2, r, q2⟩ => ⟨I2.kIn, ?_⟩) hst hpl
  exact run_fn (us := .ref a :: us) (vs := .ref a :: vs) F hr hb hd hx I2 (.cons rfl r) q2
theorem pe_meth0 {pl : Sem Bool} (he : PE X o ta) (c : Cls X.K C) (hm : Meth X.K C m f) (F : FnOk X.prog X.w X.K X.mg X.base CX k f fd ps sp) (hr : Room k X.A) (hb : Binds X.K fd ps ds) (hd : Vals dvs ds) (hx : Passes CX X E)
    (ht : eval (.Call (.Attribute o m apos) [] [] pos) X.env = (do
      let ov ← eval o X.env
      standAt apos.atName
      let (f, first) ← holding [ov] (getMethod ov m pl)
      callWith pos f first (backTo pos (starEach [] X.env)) (backToKw pos (keywordEach [] X.env))) := by rfl) :
    PE X (.Call (.Attribute o m apos) [] [] pos) (tMeth C m sp dvs E ta tNil) := by
  intro pins s σ H Q I h
  refine PySem.W.methodCall_KW (pl := pl) (thn (he pins s σ H _ I h) fun u s1 ⟨x, H1, I1, rx, a, dx, fs, ex, ea, l, q⟩ => ?_) ht
  subst ex
  obtain rfl : u = Value.ref a := rx
  refine getmeth_ok I1 ea c hm l ?_
  exact PySem.W.callWith_K0 (first := [.ref a]) I1.kIn hm.kp (run_fn (us := [.ref a]) (vs := [.ref a]) F hr hb hd hx I1 (.cons rfl .nil) q)
structure Mk (K : PySem.W.Frag) (C f : Addr) : Prop where
  makes : PySem.W.makesIn K C = true
  init : PySem.W.findIn K (.ref C) "__init__" = some (some (.ref f))
  fn : PySem.W.isFn K (.ref f) = true
  kp : PySem.W.keepIn K (.ref C) = true
theorem run_make {pins : List (Addr × Obj)} {σ : St} {H : Hp} {s : Shared} {Q : VK} {us : List Value} {vs : List V} (M : Mk X.K C f) (F : FnOk X.prog X.w X.K X.mg X.base CX k f fd ps sp) (hr : Room (k + 1) X.A) (hb : Binds X.K fd ps ds) (hd : Vals dvs ds)
    (hx : Passes CX X E) (I : Inv X pins σ H s) (r : Vals vs us)
    (h : ∀ x dx, H x = none → H dx = none → dx ≠ x → sp (.ref x :: (vs ++ dvs)) (upd (upd H dx (.own x)) x (.ins C dx [])) (fun v H2 => v = .non ∧ Q (.ref x) H2) E) :
    wpAny (model X.prog X.w) X.A (call (.ref C) us) (EP X pins σ Q) X.xe s := by
  have hq := h (s.heap.objs.size + 1) s.heap.objs.size (I.hok.fresh (Nat.le_succ _)) (I.hok.fresh (Nat.le_refl _)) (Nat.ne_of_lt (Nat.lt_succ_self _))
  have I2 := Inv.made (C := C) I
  have r2 : Vals (V.ref (s.heap.objs.size + 1) :: (vs ++ dvs)) (Value.ref (s.heap.objs.size + 1) :: (us ++ ds)) := .cons rfl (r.append hd)
  have hl : (Value.ref (s.heap.objs.size + 1) :: us ++ ds).length = ps.length := by
    have e := r2.length
    rw [F.len _ _ _ _ hq] at e
    exact e.symm
  refine wpAny_call (make_map (f := f) I.kIn M.makes M.init (beq_iff_eq.mp M.fn) (codeAny_mono (F.run _ X.stack _ _ ⟨Value.ref (s.heap.objs.size + 1) :: us, []⟩ (Value.ref (s.heap.objs.size + 1) :: (us ++ ds)) _ _ E (hr.make C us [])
    (I2.env0.make C us []) (hb _ (Value.ref (s.heap.objs.size + 1) :: us) I2.kIn hl) r2 hq) fun r s' hq' => ?_))
  cases r with
  | error e => exact hx pins σ _ _ e s' I2 hq'
  | ok fl =>
    cases fl with
    | ret u =>
      obtain ⟨v, H', I3, rv, ev, q3⟩ := I2.after hq'
      subst ev
      exact ⟨rv, ⟨V.ref (s.heap.objs.size + 1), H', I3, rfl, q3⟩⟩
    | next => exact False.elim hq'
    | brk => exact False.elim hq'
    | cont => exact False.elim hq'
theorem pe_make (M : Mk X.K C f) (F : FnOk X.prog X.w X.K X.mg X.base CX k f fd ps sp) (hr : Room (k + 1) X.A) (hg : Gl X x) (hm : X.mg x = some (.ref C)) (hb : Binds X.K fd ps ds) (hd : Vals dvs ds) (hx : Passes CX X E)
    (ha : PA X (e :: es) t) (hdb : (x == ("__debug__" : Str)) = false := by decide) (he : starEach (e :: es) X.env = (false, eval e X.env) :: starEach es X.env := by rfl) (hpl : (backTo pos (starEach es X.env)).any (·.1) = false := by rfl) :
    PE X (.Call (.Name x p) (e :: es) [] pos) (tMake C sp dvs E t) := by
  intro pins s σ H Q I h
  refine wpAny_Call_Name_kw (ld_glob I hg hm ?_ hdb)
  refine PySem.W.callWith_K (h₀ := X.base) I.ok.mod.kin M.kp (thn (ha pos pins s σ H _ I h) fun us s1 ⟨vs, H1, I1, r, q⟩ => ⟨I1.kIn, ?_⟩) he hpl
  exact run_make M F hr hb hd hx I1 r q
end
section
variable {X : Cx} {CX : CXT} {k : Nat} {f C : Addr} {fd : FuncData} {ps ks : List Str} {sp : Sp} {E : XK} {x m : Str} {p pos apos kpos : Pos} {e o : Expr} {es : List Expr} {kws : List Keyword} {te ta : TE} {t tk : TA} {nm : Option Str}
structure KBinds (K : PySem.W.Frag) (fd : FuncData) (ps ks : List Str) (g : List Value → List Value → List Value) (gV : List V → List V → List V) : Prop where
  to : ∀ (s : Shared) (us ws : List Value), K.In s.heap → (g us ws).length = ps.length → BindsTo s fd ⟨us, ks.zip ws⟩ (ps.zip (g us ws))
  rel : ∀ {vs : List V} {us : List Value} {zs : List V} {ws : List Value}, Vals vs us → Vals zs ws → Vals (gV vs zs) (g us ws)
variable {g : List Value → List Value → List Value} {gV : List V → List V → List V}
end
structure FnScope (N P : List Str) (sc : Scope) : Prop where
  kind : sc.kind = .function
  co : sc.isCoroutine = false
  gen : sc.isGenerator = false
  nd : N.Nodup
  pre : N.take P.length = P
  par : ∀ x ∈ P, sc.names.lookup x = some .local ∨ sc.names.lookup x = some .cell
  nofree : ∀ y ∈ sc.names, y.2 ≠ .free
theorem bindL_out {kindOf : Str → Option NameKind} {x : Str} : ∀ {binds : List (Str × Value)} {m : Str → Option Value}, (∀ v, (x, v) ∉ binds) → bindL kindOf binds m x = m x
  | [], _, _ => rfl
  | (n, v) :: r, m, h => by
    unfold bindL
    rw [bindL_out fun w hw => h w (List.mem_cons_of_mem _ hw)]
    split
    · have : x ≠ n := by rintro rfl; exact h v List.mem_cons_self
      simp [this]
    · rfl
theorem bindC_out {kindOf : Str → Option NameKind} {x : Str} : ∀ {binds : List (Str × Value)} {m : Str → Option Value}, (∀ v, (x, v) ∉ binds) → bindC kindOf binds m x = m x
  | [], _, _ => rfl
  | (n, v) :: r, m, h => by
    unfold bindC
    rw [bindC_out fun w hw => h w (List.mem_cons_of_mem _ hw)]
    split
    · rfl
    · have : x ≠ n := by rintro rfl; exact h v List.mem_cons_self
      simp [this]
theorem bindL_get {kindOf : Str → Option NameKind} {x : Str} {v : Value} : ∀ {P : List Str} {vs : List Value} {i : Nat} {m : Str → Option Value}, P.Nodup → P[i]? = some x → vs[i]? = some v → kindOf x = some .local →
    bindL kindOf (P.zip vs) m x = some v
  | [], _, _, _, _, h, _, _ => by simp at h
  | _ :: _, [], _, _, _, _, h, _ => by simp at h
  | p :: P, w :: vs, 0, m, nd, h1, h2, hk => by
    simp at h1 h2; subst h1; subst h2
    show bindL kindOf ((p, w) :: P.zip vs) m p = _
    unfold bindL
    rw [bindL_out fun v hv => (List.nodup_cons.mp nd).1 (List.of_mem_zip hv).1, if_pos hk]
    simp
  | p :: P, w :: vs, i + 1, m, nd, h1, h2, hk => by
    show bindL kindOf ((p, w) :: P.zip vs) m x = _
    unfold bindL
    exact bindL_get (i := i) (List.nodup_cons.mp nd).2 (by simpa using h1) (by simpa using h2) hk
theorem bindC_get {kindOf : Str → Option NameKind} {x : Str} {v : Value} : ∀ {P : List Str} {vs : List Value} {i : Nat} {m : Str → Option Value}, P.Nodup → P[i]? = some x → vs[i]? = some v → kindOf x ≠ some .local →
    bindC kindOf (P.zip vs) m x = some v
  | [], _, _, _, _, h, _, _ => by simp at h
  | _ :: _, [], _, _, _, _, h, _ => by simp at h
  | p :: P, w :: vs, 0, m, nd, h1, h2, hk => by
    simp at h1 h2; subst h1; subst h2
    show bindC kindOf ((p, w) :: P.zip vs) m p = _
    unfold bindC
    rw [bindC_out fun v hv => (List.nodup_cons.mp nd).1 (List.of_mem_zip hv).1, if_neg hk]
    simp
  | p :: P, w :: vs, i + 1, m, nd, h1, h2, hk => by
    show bindC kindOf ((p, w) :: P.zip vs) m x = _
    unfold bindC
    exact bindC_get (i := i) (List.nodup_cons.mp nd).2 (by simpa using h1) (by simpa using h2) hk
noncomputable def start (N : List Str) (vs : List V) : St := vs.map some ++ List.replicate (N.length - vs.length) none
noncomputable def cxOf (CX : CXT) (P : Program) (w : World) (K : PySem.W.Frag) (mg : Str → Option Value) (base : Heap) (N : List Str) (qual : Str) (scope : Scope) (f : Addr) (cd : Value) (A : Around) (outer : List Env) (s : Shared) (H : Hp) (E : XK) : Cx where
  prog := P
  w := w
  K := K
  mg := mg
  base := base
  A := A.deeper (envOfC qual scope s.heap.objs.size f cd)
  N := N
  s₀ := s
  H₀ := H
  env := envOfC qual scope s.heap.objs.size f cd
  outer := outer
  stack := envOfC qual scope s.heap.objs.size f cd :: outer
  ex := []
  calm := true
  fn := fun _ => true
  pn := []
  xe := fun e s' => wpAny (model P w) (A.deeper (envOfC qual scope s.heap.objs.size f cd)) (leaving (envOfC qual scope s.heap.objs.size f cd) e) (fun _ s'' => CX outer H s E e s'') (fun e' s'' => CX outer H s E e' s'') s'
theorem cell_has {sc : Scope} {n : Nat} {x : Str} (h : sc.names.lookup x = some .cell) : ∃ c, (cellsFrom n sc.names []).lookup x = some c := by
  have q := PySem.W.cellsFrom_some sc.names n [] (.inl h)
  exact Option.isSome_iff_exists.mp q
theorem inv_start {CX : CXT} {P : Program} {w : World} {K : PySem.W.Frag} {mg : Str → Option Value} {base : Heap} {N ps : List Str} {qual : Str} {scope : Scope} {f : Addr} {cd : Value} {A : Around} {outer : List Env} {s s1 : Shared} {H : Hp} {E : XK} {us : List Value} {vs : List V}
    (S : FnScope N ps scope) (hd : A.handled = none) (e0 : Env0 P w K mg base A outer s H) (hl : vs.length = ps.length) (r : Vals vs us)
    (x : InCallC s s.heap.objs.size (bindL (envOfC qual scope s.heap.objs.size f cd).kindOf (ps.zip us) fun _ => none) (cellsFrom (s.heap.objs.size + 1) scope.names []) (bindC (envOfC qual scope s.heap.objs.size f cd).kindOf (ps.zip us) fun _ => none) s1) :
    Inv (cxOf CX P w K mg base N qual scope f cd A outer s H E) [] (start N vs) H s1 := by
  have hpl : ps.length ≤ N.length := by have := congrArg List.length S.pre; rw [List.length_take] at this; omega
  obtain ⟨h1, tk, rfl, hk⟩ := x.done
  have noA : ∀ b : Addr, b ∉ (cxOf CX P w K mg base N qual scope f cd A outer s H E).ex := fun b z => absurd (show b ∈ ([] : List Addr) from z) (by simp)
  refine ⟨⟨e0.mod, S.kind, rfl, rfl, Nat.le_refl _, fun y z c h1 h2 => ?_, fun y hy => ?_, fun y c _ h => ?_, fun _ => hd, Around.frames_deeper e0.frames, .inr ⟨rfl, rfl⟩, fun b z => absurd z (noA b), e0.bs, e0.bsz, fun b _ _ => noA b, fun b z => absurd z (noA b), e0.funs, e0.frf⟩,
    rfl, e0.bare, Un.kept hk, ⟨_, x.toInCall.ns, fun i y v h1 h2 h3 => ?_⟩, fun y c h => ⟨_, x.cell y c h⟩, e0.hok.fresh (Nat.le_refl _), fun y c h => ?_, fun p hp => absurd (show p ∈ ([] : List (Addr × Obj)) from hp) (by simp), e0.hok.kept hk, ?_⟩
  · exact name_of_addr x.apart (PySem.mem_of_lookup h1) (PySem.mem_of_lookup h2)
  · have hy : scope.names.lookup y = some .cell ∨ scope.names.lookup y = some .free := hy
    rcases hy with hy | hy
    · exact cell_has hy
    · exact absurd rfl (S.nofree _ (PySem.mem_of_lookup hy))
  · exact Nat.le_of_lt (x.above y c (PySem.mem_of_lookup h))
  · have hi : i < vs.length := by
      unfold start at h2
      by_cases hi : i < vs.length
      · exact hi
      · rw [List.getElem?_append_right (by simpa using hi)] at h2
        rw [List.getElem?_replicate] at h2
        split at h2 <;> cases h2
    have ha : vs[i]? = some v := by
      unfold start at h2
      rw [List.getElem?_append_left (by simpa using hi), List.getElem?_map] at h2
      cases e : vs[i]? with
      | none => rw [e] at h2; cases h2
      | some a => rw [e] at h2; cases h2; rfl
    obtain ⟨u, hu, rv⟩ := r.get ha
    have hp : ps[i]? = some y := by
      rw [← S.pre, List.getElem?_take_of_lt (by omega)]; exact h1
    have ndP : ps.Nodup := by rw [← S.pre]; exact S.nd.sublist (List.take_sublist _ _)
    refine ⟨u, rv, ?_⟩
    rcases S.par y (List.mem_of_getElem? hp) with k | k
    · exact .inl ⟨k, bindL_get ndP hp hu k⟩
    · obtain ⟨c, e⟩ := cell_has (n := s.heap.objs.size + 1) k
      refine .inr ⟨.inl k, c, e, ?_⟩
      have q := x.cell y c e
      rw [bindC_get ndP hp hu (by show scope.names.lookup y ≠ _; rw [k]; decide)] at q
      exact q
  · exact e0.hok.fresh (Nat.le_of_lt (x.above y c (PySem.mem_of_lookup h)))
  · unfold start
    show _ = N.length
    rw [List.length_append, List.length_map, List.length_replicate]
    omega
theorem fn_of {CX : CXT} {P : Program} {w : World} {K : PySem.W.Frag} {mg : Str → Option Value} {base : Heap} {k : Nat} {f : Addr} {name qual : Str} {params : Arguments} {body : List Stmt} {scope : Scope} {dV kV doc pm cdv ct oc : Value} {an od : Option Addr}
    {osl : Array (Option Value)} {N ps : List Str} {sp : Sp} (lk : K.lookup f = some ⟨oc, od, .func (PySem.W.fnOf name qual params body scope dV kV doc pm an cdv ct), osl⟩) (hcd : PySem.W.codeIn K cdv qual = true) (S : FnScope N ps scope)
    (len : ∀ vs H Q E, sp vs H Q E → vs.length = ps.length)
    (hbody : ∀ (A : Around) (outer : List Env) (s : Shared) (H : Hp) (vs : List V) (Q : VK) (E : XK), Room k (A.deeper (envOfC qual scope s.heap.objs.size f cdv)) → sp vs H Q E →
      ∃ t, PSs (cxOf CX P w K mg base N qual scope f cdv A outer s H E) body t ∧ t { nx := fun _ H' => Q .non H', rt := Q } (start N vs) H) :
    FnOk P w K mg base CX (k + 1) f (PySem.W.fnOf name qual params body scope dV kV doc pm an cdv ct) ps sp := by
  refine ⟨len, fun A outer s H args us vs Q E hr e0 hb r hsp => ?_⟩
  have hl := len _ _ _ _ hsp
  have KX : K.In s.heap := e0.mod.kin.keeps fun b o e => (e0.bs b o e).1
  have lim : s.heap.NoLimit := e0.mod.nolimit.keeps fun b o e => (e0.bs b o e).1
  have hkind : ∀ y ∈ ps.zip us, scope.names.lookup y.1 = some .local ∨ (scope.names.lookup y.1 = some .cell ∧ ((cellsFrom (s.heap.objs.size + 1) scope.names []).lookup y.1).isSome = true) := fun ⟨n, v⟩ hy => by
    rcases S.par n (List.of_mem_zip hy).1 with q | q
    · exact .inl q
    · exact .inr ⟨q, PySem.W.cellsFrom_some _ _ _ (.inl q)⟩
  refine codeAny_call_function hr.depth (KX _ _ lk) rfl S.co S.gen rfl (PySem.W.codeRec_of KX hcd) (hb _ _ _ _ ?_)
  refine wpAny_newFunctionEnv_cells S.kind hkind fun env he s1 x => ?_
  subst he
  refine ⟨lim.keeps x.toInCall.keep, codeAny_func ?_⟩
  obtain ⟨t, ht, hq⟩ := hbody A outer s H vs Q E (hr.deeper _) hsp
  have I : Inv (cxOf CX P w K mg base N qual scope f cdv A outer s H E) [] (start N vs) H s1 := inv_start S hr.hd e0 hl r x
  refine wpAny_mono (ht [] s1 (start N vs) H _ I hq) (fun fl s' hs => ?_) fun e s' hs => hs
  have fin : ∀ {σ' : St} {H' : Hp} {v : V} {u : Value}, Inv (cxOf CX P w K mg base N qual scope f cdv A outer s H E) [] σ' H' s' → RelV v u → Q v H' → CE outer P w H s Q u s' :=
    fun {σ' H' v u} J rv q => ⟨v, H', J.os, J.bare, J.base, J.hok, rv, q⟩
  cases fl with
  | ret u =>
    obtain ⟨v, σ', H', J, rv, q⟩ := hs
    exact fin J rv q
  | next =>
    obtain ⟨σ', H', J, q⟩ := hs
    exact fin (v := V.non) (u := Value.none) J rfl q
  | brk =>
    obtain ⟨_, _, _, q⟩ := hs
    exact False.elim q
  | cont =>
    obtain ⟨_, _, _, q⟩ := hs
    exact False.elim q
end L2
namespace L2
open PySem PySem.Spec PyProof.Rows
section
variable {X : Cx} {x : Str} {p pos : Pos} {e : Expr} {es : List Expr} {t : TA} {id T : String} {r : List V → Hp → VK → Prop}
noncomputable def tCB (r : List V → Hp → VK → Prop) (t : TA) : TE := fun σ H Q => t σ H fun vs H1 => r vs H1 Q
theorem pe_callB (hc : CallR X (.builtin id) r) (hg : Gl X x) (hm : X.mg x = none) (hv : bootBuiltins x = some (.builtin id)) (ha : PA X (e :: es) t) (hn : x ≠ "__name__" := by decide) (hdb : (x == ("__debug__" : Str)) = false := by decide)
    (he : starEach (e :: es) X.env = (false, eval e X.env) :: starEach es X.env := by rfl) (hpl : (backTo pos (starEach es X.env)).any (·.1) = false := by rfl) : PE X (.Call (.Name x p) (e :: es) [] pos) (tCB r t) := by
  intro pins s σ H Q I h
  refine wpAny_Call_Name_kw (ld_blt I hg hm hv ?_ hn hdb)
  exact PyProof.Rows.callWith_builtin1 (thn (ha pos pins s σ H _ I h) fun us s1 ⟨vs, H1, I1, r1, q1⟩ => hc pins s1 σ H1 vs us Q I1 r1 q1) he hpl
theorem pe_callTy (hc : CallR X (.type T) r) (hg : Gl X x) (hm : X.mg x = none) (hv : bootBuiltins x = some (.type T)) (ha : PA X (e :: es) t) (hn : x ≠ "__name__" := by decide) (hdb : (x == ("__debug__" : Str)) = false := by decide)
    (he : starEach (e :: es) X.env = (false, eval e X.env) :: starEach es X.env := by rfl) (hpl : (backTo pos (starEach es X.env)).any (·.1) = false := by rfl) : PE X (.Call (.Name x p) (e :: es) [] pos) (tCB r t) := by
  intro pins s σ H Q I h
  refine wpAny_Call_Name_kw (ld_blt I hg hm hv ?_ hn hdb)
  exact PyProof.Rows.callWith_type1 (thn (ha pos pins s σ H _ I h) fun us s1 ⟨vs, H1, I1, r1, q1⟩ => hc pins s1 σ H1 vs us Q I1 r1 q1) he hpl
end
end L2
namespace HT
open PySem PyProof.Rows
section
open PySem.SeqAt
open PySem.AutoSeq1 (wpAny_loadPart')
open PySem.MeetsSeq PySem.MeetsSeq2 PySem.MeetsSeq3
end
section
variable {prog : Program} {w : World} {A : Around} {E : Value → Shared → Prop} {s : Shared}
theorem cat_tup {t b : Addr} {vs ws : List Value} {Q : Value → Shared → Prop} (ht : IsTup s.heap t vs.toArray) (hb : IsTup s.heap b ws.toArray) (hv : vs ≠ [])
    (h1 : ws = [] → Q (.ref t) s) (h2 : ws ≠ [] → Q (.ref s.heap.objs.size) { s with heap := s.heap.push { cls := .type "tuple", data := .seq (vs ++ ws).toArray } })
    (hsz : vs.length + ws.length ≤ sizeLine) : wpAny (model prog w) A (binaryOp .Add (.ref t) (.ref b)) Q E s := by
  obtain ⟨⟨cls, dd, data, sl⟩, ho, hc, n, hd⟩ := id ht
  obtain ⟨⟨cls2, dd2, data2, sl2⟩, ho2, hc2, n2, hd2⟩ := id hb
  simp only at hc hd hc2 hd2
  subst hc hd hc2 hd2
  have e : vs.toArray ++ ws.toArray = (vs ++ ws).toArray := by simp
  by_cases hw : ws = []
  · exact concat_meets ⟨_, ho, rfl⟩ ⟨_, ho2, rfl⟩ noFill_tuple_add seq_tuple_add PySem.F.slot_tuple_add PySem.F.entry_tuple_add (PySem.F.args_tuple_add_2 _ _)
      (tuple_addW1 t b vs.toArray ws.toArray n n2 dd dd2 sl sl2 (by simpa using hv) (by simp [hw])) ⟨ho, ho2, h1 hw⟩
  · refine concat_meets ⟨_, ho, rfl⟩ ⟨_, ho2, rfl⟩ noFill_tuple_add seq_tuple_add PySem.F.slot_tuple_add PySem.F.entry_tuple_add (PySem.F.args_tuple_add_2 _ _)
      (tuple_addW2 t b vs.toArray ws.toArray n n2 dd dd2 sl sl2 (by simpa using hv) (by simpa using hw) (by rw [List.size_toArray, List.size_toArray]; exact hsz)) ⟨ho, ho2, ?_⟩
    rw [e]
    exact h2 hw
noncomputable def sIx (n d : Nat) : Option Int → Nat
  | none => d
  | some v => if v < 0 then (v + (n : Int)).toNat else min v.toNat n
theorem sIx_none (n d : Nat) : sIx n d none = d := rfl
theorem sIx_nat (n d k : Nat) : sIx n d (some (k : Int)) = min k n := by
  show (if (k : Int) < 0 then ((k : Int) + (n : Int)).toNat else min (k : Int).toNat n) = min k n
  rw [if_neg (by omega), Int.toNat_natCast]
theorem sIx_le (n d : Nat) (hd : d ≤ n) (o : Option Int) : sIx n d o ≤ n := by
  cases o with
  | none => exact hd
  | some v =>
    show (if v < 0 then (v + (n : Int)).toNat else min v.toNat n) ≤ n
    by_cases hv : v < 0
    · rw [if_pos hv]; omega
    · rw [if_neg hv]; exact Nat.min_le_right _ _
theorem clip_eq (v : Int) (n d : Nat) : (if v < 0 then max (v + (n : Int)) 0 else min v (n : Int)) = ((sIx n d (some v) : Nat) : Int) := by
  show (if v < 0 then max (v + (n : Int)) 0 else min v (n : Int)) = (((if v < 0 then (v + (n : Int)).toNat else min v.toNat n) : Nat) : Int)
  by_cases hv : v < 0
  · simp only [if_pos hv]; omega
  · simp only [if_neg hv]; omega
theorem adjust_gen (lo hi : Option Int) (n : Nat) : Builtin.Slice.sliceAdjust lo hi 1 (n : Int) = (((sIx n 0 lo : Nat) : Int), ((sIx n n hi : Nat) : Int)) := by
  have h1 : ¬ ((1 : Int) < 0) := by omega
  unfold Builtin.Slice.sliceAdjust
  simp only [h1, if_false]
  refine Prod.ext ?_ ?_
  · cases lo with
    | none => rfl
    | some v => exact clip_eq v n 0
  · cases hi with
    | none => rfl
    | some v => exact clip_eq v n n
theorem places_gen (i j : Nat) : Builtin.Slice.slicePlaces (i : Int) (j : Int) 1 = j - i := by
  unfold Builtin.Slice.slicePlaces
  have h1 : (1 : Int) > 0 := by omega
  simp only [h1, if_true, Int.ediv_one]
  split <;> omega
theorem slicePart_ {v : Value} {o : Option Int} {Q : Option Int → Shared → Prop} (p : IsPart v o) (h : Q o s) : wpAny (model prog w) A (Builtin.Slice.slicePartIndex v) Q E s := by
  cases p with
  | none => exact slicePart_none h
  | int i t => exact slicePart_int h
theorem sliceApplied_gen {sl : Addr} {vl vu : Value} {lo hi : Option Int} {n : Nat} {Q : Int × Int × Nat → Shared → Prop} (hs : s.heap.IsSliceOf sl vl vu .none) (pl : IsPart vl lo) (pu : IsPart vu hi)
    (h : Q (((sIx n 0 lo : Nat) : Int), 1, sIx n n hi - sIx n 0 lo) s) : wpAny (model prog w) A (Builtin.Slice.sliceApplied (.ref sl) (pure (n : Int))) Q E s := by
  obtain ⟨os, hos, hcs, hds⟩ := id hs
  unfold Builtin.Slice.sliceApplied Builtin.Slice.sliceFields
  refine wpAny_bind (wpAny_bind (wpAny_field hos hds (x := vl) rfl (wpAny_bind (wpAny_field hos hds (x := vu) rfl (wpAny_bind (wpAny_field hos hds (x := .none) rfl (wpAny_pure ?_)))))))
  refine wpAny_bind (slicePart_none ?_)
  show wpAny _ _ (if ((1 : Int) == 0) = true then _ else _) _ _ s
  rw [if_neg (by decide)]
  refine wpAny_bind (slicePart_ pl (wpAny_bind (slicePart_ pu (wpAny_bind (wpAny_pure ?_)))))
  show wpAny _ _ (match Builtin.Slice.sliceAdjust lo hi 1 (n : Int) with | (lo, hi) => pure (lo, (1 : Int), Builtin.Slice.slicePlaces lo hi 1)) _ _ s
  rw [adjust_gen lo hi n]
  show wpAny _ _ (pure (((sIx n 0 lo : Nat) : Int), (1 : Int), Builtin.Slice.slicePlaces ((sIx n 0 lo : Nat) : Int) ((sIx n n hi : Nat) : Int) 1)) _ _ s
  rw [places_gen]
  exact wpAny_pure h
theorem pick_gen (xs : Array Value) (i k : Nat) : ((List.range k).filterMap fun (m : Nat) => xs[((i : Int) + (m : Int) * 1).toNat]?).toArray = ((xs.toList.drop i).take k).toArray := by
  have e : (fun (m : Nat) => xs[((i : Int) + (m : Int) * 1).toNat]?) = fun m => xs[i + m]? := by
    funext m
    have : ((i : Int) + (m : Int) * 1).toNat = i + m := by omega
    rw [this]
  rw [e]
  have := pick_run xs i k
  rw [List.filterMap_map] at this
  have e2 : ((fun x => xs[x]?) ∘ fun x => i + x) = fun m => xs[i + m]? := rfl
  rw [e2] at this
  rw [this]
theorem getItem_tuple_cut {t sl : Addr} {items : Array Value} {vl vu : Value} {lo hi : Option Int} {Q : Value → Shared → Prop} (ht : IsTup s.heap t items) (hs : s.heap.IsSliceOf sl vl vu .none) (pl : IsPart vl lo) (pu : IsPart vu hi)
    (hw : ¬ (sIx items.size 0 lo = 0 ∧ sIx items.size items.size hi = items.size))
    (h : Q (.ref s.heap.objs.size) { s with heap := s.heap.push { cls := .type "tuple", data := .seq ((items.toList.drop (sIx items.size 0 lo)).take (sIx items.size items.size hi - sIx items.size 0 lo)).toArray } })
    (hsz : items.size ≤ sizeLine) : wpAny (model prog w) A (getItem (.ref t) (.ref sl)) Q E s := by
  have htake : sizeOk (.seq ((items.toList.drop (sIx items.size 0 lo)).take (sIx items.size items.size hi - sIx items.size 0 lo)).toArray) := by
    show ((items.toList.drop (sIx items.size 0 lo)).take (sIx items.size items.size hi - sIx items.size 0 lo)).toArray.size ≤ sizeLine
    rw [List.size_toArray, List.length_take, List.length_drop, Array.length_toList]
    omega
  have hj : sIx items.size items.size hi ≤ items.size := sIx_le _ _ (Nat.le_refl _) hi
  obtain ⟨os, hos, hcs, hds⟩ := id hs
  have hTs : s.TypeIs (.ref sl) "slice" := ⟨os, hos, hcs⟩
  unfold getItem
  try with_reducible refine wpAny_holding ?_
  first | refine wpAny_bind (wpAny_pure ?_) | skip
  refine wpAny_bind (wpAny_sequenceKey ht.typeIs (by decide) ?_)
  refine wpAny_bind (wpAny_callSpecial?_slot (name := Str.ofString "__getitem__") ht.typeIs PyProof.Rows.slot_tuple_getitem
    (wpAny_call_entry PyProof.Rows.slot_tuple_getitem ht.typeIs entry_tuple_getitem ?_ (args_tuple_getitem _ _)))
  show wpAny _ _ (Builtin.Tuple.tupleItemsOf (.ref t) >>= _) _ _ s
  refine wpAny_bind (tupleItemsOf_ ht ?_)
  refine wpAny_bind (wpAny_typeOf hTs ?_)
  rw [if_pos (by decide)]
  refine wpAny_bind (sliceApplied_gen hs pl pu ?_)
  have hno : ¬ ((((sIx items.size 0 lo : Nat) : Int) == 0 && (1 : Int) == 1 && (sIx items.size items.size hi - sIx items.size 0 lo) == items.size) = true) := by
    intro q
    rw [Bool.and_eq_true, Bool.and_eq_true] at q
    have q1 : ((sIx items.size 0 lo : Nat) : Int) = 0 := eq_of_beq q.1.1
    have q2 : sIx items.size items.size hi - sIx items.size 0 lo = items.size := eq_of_beq q.2
    exact hw ⟨by omega, by omega⟩
  show wpAny _ _ (if (((sIx items.size 0 lo : Nat) : Int) == 0 && (1 : Int) == 1 && (sIx items.size items.size hi - sIx items.size 0 lo) == items.size) = true then _ else _) _ _ s
  rw [if_neg hno, pick_gen]
  first
    | exact wpAny_bind (m := Builtin.Tuple.tupleExact _) (wpAny_newObj_type (wpAny_pure ⟨_, rfl, wpAny_pure h⟩) htake)
    | exact wpAny_bind (m := Builtin.Tuple.tupleExact _) (wpAny_newObj_type (wpAny_bind (wpAny_pure (wpAny_pure ⟨_, rfl, wpAny_pure h⟩))) htake)
    | exact wpAny_bind (wpAny_bind (m := Builtin.Tuple.tupleExact _) (wpAny_newObj_type (wpAny_pure (wpAny_pure ⟨_, rfl, wpAny_pure h⟩)) htake))
    | exact wpAny_bind (wpAny_bind (m := Builtin.Tuple.tupleExact _) (wpAny_newObj_type (wpAny_pure ⟨_, rfl, wpAny_pure h⟩) htake))
end
end HT
namespace L2
open PySem PySem.Spec PyProof.Rows
noncomputable abbrev TO := St → Hp → (Option Int → Hp → Prop) → Prop
noncomputable def PO (X : Cx) (e : Option Expr) (t : TO) : Prop :=
  ∀ (pins : List (Addr × Obj)) (s : Shared) (σ : St) (H : Hp) (Q : Option Int → Hp → Prop), Inv X pins σ H s → t σ H Q →
    wpAny (model X.prog X.w) X.A (evalPart e X.env) (fun u s' => ∃ o H', Inv X pins σ H' s' ∧ IsPart u o ∧ Q o H') X.xe s
noncomputable def tNoPart : TO := fun _ H Q => Q none H
noncomputable def tPart (t : TE) : TO := fun σ H Q => t σ H fun x H1 => ∃ i, x = .int i ∧ Q (some i) H1
section
variable {X : Cx} {e : Expr} {te : TE} {lo hi : Option Expr} {tl th : TO} {pos p2 : Pos}
theorem po_none : PO X none tNoPart := by
  intro pins s σ H Q I h
  rw [evalPart_none]
  exact wpAny_pure ⟨none, H, I, .none, h⟩
theorem po_some (h : PE X e te) : PO X (some e) (tPart te) := by
  intro pins s σ H Q I hw
  rw [evalPart_some]
  refine thn (h pins s σ H _ I hw) fun u s1 ⟨x, H1, I1, r1, q1⟩ => ?_
  obtain ⟨i, rfl, q⟩ := q1
  obtain ⟨t, rfl⟩ := r1
  exact ⟨some i, H1, I1, .int i t, q⟩
noncomputable def SlR (X : Cx) (r : V → Option Int → Option Int → Hp → VK → Prop) : Prop :=
  ∀ (pins : List (Addr × Obj)) (s : Shared) (σ : St) (H : Hp) (x : V) (v vl vu : Value) (lo hi : Option Int) (sl : Addr) (Q : VK), Inv X pins σ H s → RelV x v → s.heap.IsSliceOf sl vl vu .none → IsPart vl lo → IsPart vu hi → r x lo hi H Q →
    ∃ T id, typeLookup (.type T) "__getitem__" = pure (some (.builtin id)) ∧ s.TypeIs v T ∧ wpAny (model X.prog X.w) X.A (getItem v (.ref sl)) (EP X pins σ Q) X.xe s
theorem SlR.or {r r' : V → Option Int → Option Int → Hp → VK → Prop} (h : SlR X r) (h' : SlR X r') : SlR X (fun x lo hi H Q => r x lo hi H Q ∨ r' x lo hi H Q) := by
  intro pins s σ H x v vl vu lo hi sl Q I rx hs pl pu q
  rcases q with q | q
  · exact h pins s σ H x v vl vu lo hi sl Q I rx hs pl pu q
  · exact h' pins s σ H x v vl vu lo hi sl Q I rx hs pl pu q
noncomputable def tSl (r : V → Option Int → Option Int → Hp → VK → Prop) (te : TE) (tl th : TO) : TE := fun σ H Q => te σ H fun x H1 => tl σ H1 fun l H2 => th σ H2 fun u H3 => r x l u H3 Q
theorem pe_slice {r : V → Option Int → Option Int → Hp → VK → Prop} (hr : SlR X r) (he : PE X e te) (hl : PO X lo tl) (hu : PO X hi th) : PE X (.Subscript e (.Slice lo hi none p2) pos) (tSl r te tl th) := by
  intro pins s σ H Q I h
  refine Subscript_ (thn (he pins s σ H _ I h) fun v s1 ⟨x, H1, I1, r1, q1⟩ => ?_)
  refine wpAny_Slice (thn (hl pins s1 σ H1 _ I1 q1) fun vl s2 ⟨l, H2, I2, pl, q2⟩ => thn (hu pins s2 σ H2 _ I2 q2) fun vu s3 ⟨u, H3, I3, pu, q3⟩ => ?_)
  rw [evalPart_none]
  refine wpAny_pure ?_
  have I4 : Inv X pins σ H3 { s3 with heap := s3.heap.push { cls := .type "slice", data := .fields #[vl, vu, .none] } } := I3.kept (t' := s3.toks) fun b ob q => Heap.get?_push_of_some _ q
  obtain ⟨T, id, hT, ht, hg⟩ := hr pins { s3 with heap := s3.heap.push { cls := .type "slice", data := .fields #[vl, vu, .none] } } σ H3 x v vl vu l u s3.heap.objs.size Q I4 r1 (Heap.IsSliceOf.new ..) pl pu q3
  show wpAny (model X.prog X.w) X.A (subscriptTail e (.Slice lo hi none p2) v (.ref s3.heap.objs.size)) (EP X pins σ Q) X.xe { s3 with heap := s3.heap.push { cls := .type "slice", data := .fields #[vl, vu, .none] } }
  exact tail_any (ops := [.ref s3.heap.objs.size, v]) ht hT hg (by with_unfolding_all rfl)
noncomputable def cutV (xs : List V) (lo hi : Option Int) : List V := (xs.drop (HT.sIx xs.length 0 lo)).take (HT.sIx xs.length xs.length hi - HT.sIx xs.length 0 lo)
theorem cutV_length (xs : List V) (lo hi : Option Int) : (cutV xs lo hi).length ≤ xs.length := by
  unfold cutV
  rw [List.length_take, List.length_drop]
  omega
noncomputable def rSlT (K : PySem.W.Frag) : V → Option Int → Option Int → Hp → VK → Prop := fun x lo hi H Q => ∃ a xs, x = .ref a ∧ SqT K H a xs ∧
  ¬ (HT.sIx xs.length 0 lo = 0 ∧ HT.sIx xs.length xs.length hi = xs.length) ∧ ∀ p, H p = none → Q (.ref p) (upd H p (.tup (cutV xs lo hi)))
theorem sl_tup : SlR X (rSlT X.K) := by
  intro pins s σ H x v vl vu lo hi sl Q I rx hs pl pu h
  obtain ⟨a, xs, rfl, hx, hw, q⟩ := h
  cases rx
  obtain ⟨its, r, ht, hz⟩ := I.tuple hx
  have hlen : its.toArray.size = xs.length := by rw [List.size_toArray]; exact r.length.symm
  refine ⟨"tuple", _, PyProof.Rows.slot_tuple_getitem.lookup, ht.typeIs, ?_⟩
  refine HT.getItem_tuple_cut ht hs pl pu (by rw [hlen]; exact hw) ?_ (by rw [hlen]; exact hz)
  rw [hlen]
  refine ⟨.ref s.heap.objs.size, _, I.laid (t' := s.toks) (o := .tup (cutV xs lo hi)) (fun b ob q => Heap.get?_push_of_some _ q) (Nat.le_refl _) ?_, rfl, q _ (I.hok.fresh (Nat.le_refl _))⟩
  exact ⟨Nat.le_trans (cutV_length xs lo hi) hz, _, (r.drop (HT.sIx xs.length 0 lo)).take (HT.sIx xs.length xs.length hi - HT.sIx xs.length 0 lo), IsTup.new _ _⟩
theorem Vals.nil_iff {xs : List V} {us : List Value} (r : Vals xs us) : us = [] ↔ xs = [] := by
  cases r with
  | nil => simp
  | cons _ _ => simp
end
end L2
namespace L2
open PySem PySem.Spec PyProof.Rows
noncomputable def ixN (n : Nat) (i : Int) : Option Nat := if 0 ≤ i then (if i < n then some i.toNat else none) else if -(n : Int) ≤ i then some (i + n).toNat else none
noncomputable def atI {α : Type} (xs : List α) (i : Int) : Option α := (ixN xs.length i).bind fun j => xs[j]?
theorem ixN_seq {n : Nat} {i : Int} {j : Nat} (h : ixN n i = some j) : seqIndex? i n = some j ∧ j < n ∧ -(n : Int) ≤ i ∧ i < n := by
  unfold ixN at h
  by_cases h0 : 0 ≤ i
  · rw [if_pos h0] at h
    by_cases h1 : i < n
    · rw [if_pos h1] at h
      have e : i.toNat = j := Option.some.inj h
      exact ⟨by rw [seqIndex_of h0 h1, e], by omega, by omega, h1⟩
    · rw [if_neg h1] at h; cases h
  · rw [if_neg h0] at h
    by_cases h1 : -(n : Int) ≤ i
    · rw [if_pos h1] at h
      have e : (i + n).toNat = j := Option.some.inj h
      exact ⟨by rw [seqIndex_neg (by omega) h1, e], by omega, h1, by omega⟩
    · rw [if_neg h1] at h; cases h
theorem atI_get {α : Type} {xs : List α} {i : Int} {v : α} (h : atI xs i = some v) : ∃ j, seqIndex? i xs.length = some j ∧ xs[j]? = some v ∧ j < xs.length ∧ -(xs.length : Int) ≤ i ∧ i < xs.length := by
  unfold atI at h
  cases e : ixN xs.length i with
  | none => rw [e] at h; cases h
  | some j =>
    rw [e] at h
    obtain ⟨h1, h2, h3, h4⟩ := ixN_seq e
    exact ⟨j, h1, h, h2, h3, h4⟩
theorem atI_nat {α : Type} {xs : List α} {j : Nat} {v : α} (h : xs[j]? = some v) : atI xs (j : Int) = some v := by
  have hj : j < xs.length := (List.getElem?_eq_some_iff.mp h).1
  have e : ixN xs.length (j : Int) = some j := by
    unfold ixN
    rw [if_pos (by omega), if_pos (by omega)]; simp
  unfold atI; rw [e]; exact h
noncomputable def PlainIx (b : Expr) : Prop := ∀ o i, subscripted b false o i = operate [o, i] (getItem o i)
noncomputable def IxR (X : Cx) (r : R2) : Prop :=
  ∀ (value slice : Expr) (pins : List (Addr × Obj)) (s : Shared) (σ : St) (H : Hp) (x y : V) (v u : Value) (Q : VK), Inv X pins σ H s → RelV x v → RelV y u → r x y H Q →
    subscripted slice false v u = operate [v, u] (getItem v u) → wpAny (model X.prog X.w) X.A (subscriptTail value slice v u) (EP X pins σ Q) X.xe s
noncomputable def MtR (X : Cx) (id : String) (r : V → List V → Hp → VK → Prop) : Prop :=
  ∀ (pins : List (Addr × Obj)) (s : Shared) (σ : St) (H : Hp) (x : V) (xs : List V) (v : Value) (us : List Value) (Q : VK), Inv X pins σ H s → RelV x v → Vals xs us → r x xs H Q →
    wpAny (model X.prog X.w) X.A (call (.builtin id) (v :: us)) (EP X pins σ Q) X.xe s
section
variable {X : Cx} {a b : Expr} {ta tb : TE} {pos : Pos}
theorem IxR.or {r r' : R2} (h : IxR X r) (h' : IxR X r') : IxR X (fun x y H Q => r x y H Q ∨ r' x y H Q) := by
  intro value slice pins s σ H x y v u Q I rx ry q hs
  rcases q with q | q
  · exact h value slice pins s σ H x y v u Q I rx ry q hs
  · exact h' value slice pins s σ H x y v u Q I rx ry q hs
theorem pe_ix {r : R2} (hr : IxR X r) (ha : PE X a ta) (hb : PE X b tb) (hs : PlainIx b) : PE X (.Subscript a b pos) (tOp r ta tb) := by
  intro pins s σ H Q I h
  exact Subscript_ (binT ha hb I h fun v u s2 x y H2 I2 rx ry q => hr a b pins s2 σ H2 x y v u Q I2 rx ry q (hs _ _))
noncomputable def rIxL (K : PySem.W.Frag) : R2 := fun x y H Q => ∃ p xs i v, x = .ref p ∧ y = .int i ∧ SqL K H p xs ∧ atI xs i = some v ∧ Q v H
noncomputable def rIxT (K : PySem.W.Frag) : R2 := fun x y H Q => ∃ p xs i v, x = .ref p ∧ y = .int i ∧ SqT K H p xs ∧ atI xs i = some v ∧ Q v H
noncomputable def rIxS : R2 := fun x y H Q => ∃ z i c, x = .str z ∧ y = .int i ∧ z.length ≤ sizeLine ∧ atI z.cps.toList i = some c ∧ Q (.str ⟨#[c]⟩) H
theorem ix_list : IxR X (rIxL X.K) := by
  intro value slice pins s σ H x y v u Q I rx ry h hs
  obtain ⟨p, xs, i, z, rfl, rfl, hq, he, q⟩ := h
  cases rx
  obtain ⟨t, rfl⟩ := ry
  obtain ⟨its, r, pl, hz⟩ := I.list hq
  obtain ⟨j, h1, h2, h3, h4, h5⟩ := atI_get he
  obtain ⟨w, ew, rw'⟩ := r.get h2
  have hl := r.length
  have hn := line63
  have fin : EP X pins σ Q w s := ⟨z, H, I, rw', q⟩
  by_cases h0 : 0 ≤ i
  · have hj : i.toNat = j := by
      rw [seqIndex_of h0 h5] at h1
      exact Option.some.inj h1
    exact item_listR pl.isList h0 (by omega) (by rw [hj]; simpa using ew) fin hs
  · have hj : (i + (its.toArray.size : Int)).toNat = j := by
      rw [seqIndex_neg (by omega) h4] at h1
      rw [List.size_toArray, ← hl]
      exact Option.some.inj h1
    exact subscriptTail_builtinR (x := w) pl.isList.typeIs slot_list_getitem.lookup
      (wpAny_getItem_list_neg (Q := fun r s' => r = w ∧ EP X pins σ Q r s') pl.isList (by omega) (by rw [List.size_toArray] <;> omega) (by omega) (by rw [hj]; simpa using ew) ⟨rfl, fin⟩) hs
theorem ix_tup : IxR X (rIxT X.K) := by
  intro value slice pins s σ H x y v u Q I rx ry h hs
  obtain ⟨p, xs, i, z, rfl, rfl, hq, he, q⟩ := h
  cases rx
  obtain ⟨t, rfl⟩ := ry
  obtain ⟨its, r, pl, hz⟩ := I.tuple hq
  obtain ⟨j, h1, h2, h3, h4, h5⟩ := atI_get he
  obtain ⟨w, ew, rw'⟩ := r.get h2
  have hl := r.length
  have hn := line63
  have fin : EP X pins σ Q w s := ⟨z, H, I, rw', q⟩
  exact subscriptTail_builtinR (x := w) pl.typeIs slot_tuple_getitem.lookup
    (getItem_tuple (j := j) (Q := fun r s' => r = w ∧ EP X pins σ Q r s') pl (by omega) (by omega) (by rw [List.size_toArray, ← hl]; exact h1) (by simpa using ew) ⟨rfl, fin⟩) hs
theorem ix_str : IxR X rIxS := by
  intro value slice pins s σ H x y v u Q I rx ry h hs
  obtain ⟨z, i, c, rfl, rfl, hz, he, q⟩ := h
  obtain ⟨t, rfl⟩ := rx
  obtain ⟨t', rfl⟩ := ry
  obtain ⟨j, h1, h2, h3, h4, h5⟩ := atI_get he
  have hl : z.cps.toList.length = z.length := by simp [Str.length]
  rw [hl] at h1 h4 h5
  have hn := line63
  exact tail_any (typeIs_str s z t) slot_str_getitem.lookup (getItem_str (c := c) (by
    have e1 : decide (i < -(2 ^ 63 : Int)) = false := decide_eq_false (by omega)
    have e2 : decide (i ≥ 2 ^ 63) = false := decide_eq_false (by omega)
    rw [e1, e2, Bool.or_false]) (by rw [h1]; simpa using h2) ⟨.str ⟨#[c]⟩, H, I.tok _, ⟨_, rfl⟩, q⟩) hs
noncomputable def rIx (K : PySem.W.Frag) : R2 := fun x y H Q => rIxL K x y H Q ∨ rIxT K x y H Q ∨ rIxS x y H Q
theorem ix_seq : IxR X (rIx X.K) := ix_list.or (ix_tup.or ix_str)
theorem slice_bounds (lo hi : Option Int) (n : Nat) : (sliceBounds lo hi none n).1 = ((HT.sIx n 0 lo : Nat) : Int) ∧ (sliceBounds lo hi none n).2.1 = ((HT.sIx n n hi : Nat) : Int) ∧ (sliceBounds lo hi none n).2.2 = 1 := by
  refine ⟨?_, ?_, rfl⟩
  · cases lo with
    | none => simp [sliceBounds, HT.sIx]
    | some i =>
      simp only [sliceBounds, HT.sIx, Option.getD_none, show (1 : Int) > 0 by decide, if_true]
      by_cases h : i < 0
      · simp only [h, if_true] <;> omega
      · simp only [h, if_false] <;> omega
  · cases hi with
    | none => simp [sliceBounds, HT.sIx]
    | some i =>
      simp only [sliceBounds, HT.sIx, Option.getD_none, show (1 : Int) > 0 by decide, if_true]
      by_cases h : i < 0
      · simp only [h, if_true] <;> omega
      · simp only [h, if_false] <;> omega
theorem slicePick_cut (its : List Value) (lo hi : Option Int) : slicePick its.toArray lo hi none = ((its.drop (HT.sIx its.length 0 lo)).take (HT.sIx its.length its.length hi - HT.sIx its.length 0 lo)).toArray := by
  obtain ⟨h1, h2, h3⟩ := slice_bounds lo hi its.toArray.size
  unfold slicePick
  rw [h1, h2, h3]
  simp only [sliceRange_one, pick_run, List.size_toArray] <;> rfl
noncomputable def rSlL (K : PySem.W.Frag) : V → Option Int → Option Int → Hp → VK → Prop := fun x lo hi H Q => ∃ a xs, x = .ref a ∧ SqL K H a xs ∧ ∀ p, H p = none → Q (.ref p) (upd H p (.lst (cutV xs lo hi)))
theorem sl_list : SlR X (rSlL X.K) := by
  intro pins s σ H x v vl vu lo hi sl Q I rx hs pl pu h
  obtain ⟨a, xs, rfl, hx, q⟩ := h
  cases rx
  obtain ⟨its, r, ht, hz⟩ := I.list hx
  have hlen := r.length
  refine ⟨"list", _, slot_list_getitem.lookup, ht.isList.typeIs, ?_⟩
  refine wpAny_getItem_list_slice ht.isList hs pl pu .none (by simp) ?_ (by rw [List.size_toArray] <;> omega)
  rw [slicePick_cut, ← hlen]
  refine ⟨.ref s.heap.objs.size, _, I.laid (t' := s.toks) (o := .lst (cutV xs lo hi)) (fun b ob q => Heap.get?_push_of_some _ q) (Nat.le_refl _) ?_, rfl, q _ (I.hok.fresh (Nat.le_refl _))⟩
  exact ⟨Nat.le_trans (cutV_length xs lo hi) hz, _, 0, (r.drop (HT.sIx xs.length 0 lo)).take (HT.sIx xs.length xs.length hi - HT.sIx xs.length 0 lo), Heap.get?_push_size _ rfl⟩
noncomputable def flatV : V → Bool
  | .non => true
  | .bl _ => true
  | .int _ => true
  | .str _ => true
  | _ => false
noncomputable def eqV : V → V → Bool
  | .non, .non => true
  | .bl a, .bl b => a == b
  | .bl a, .int b => (if a then 1 else 0) == b
  | .int a, .bl b => a == (if b then 1 else 0)
  | .int a, .int b => a == b
  | .str a, .str b => a == b
  | _, _ => false
theorem eqAt_V {A : Around} {s : Shared} {y x : V} {u v : Value} (ry : RelV y u) (rx : RelV x v) (fy : flatV y = true) (fx : flatV x = true) : SeqAt.EqAt A s u v (eqV y x) := by
  cases y with
  | non =>
    cases ry
    cases x with
    | non => cases rx; exact SeqAt.EqAt.same _
    | bl b => cases rx; exact SeqAt.EqAt.none_bool b
    | int b => obtain ⟨t, rfl⟩ := rx; exact SeqAt.EqAt.none_int b t
    | str b => obtain ⟨t, rfl⟩ := rx; exact SeqAt.EqAt.none_str b t
    | _ => exact absurd (show false = true from fx) Bool.false_ne_true
  | bl a =>
    cases ry
    cases x with
    | non => cases rx; exact SeqAt.EqAt.bool_none a
    | bl b => cases rx; exact SeqAt.EqAt.bool_bool a b
    | int b => obtain ⟨t, rfl⟩ := rx; exact SeqAt.EqAt.bool_int a b t
    | str b => obtain ⟨t, rfl⟩ := rx; exact SeqAt.EqAt.bool_str a b t
    | _ => exact absurd (show false = true from fx) Bool.false_ne_true
  | int a =>
    obtain ⟨t', rfl⟩ := ry
    cases x with
    | non => cases rx; exact SeqAt.EqAt.int_none a t'
    | bl b => cases rx; exact SeqAt.EqAt.int_bool a t' b
    | int b => obtain ⟨t, rfl⟩ := rx; exact SeqAt.EqAt.int_int a t' b t
    | str b => obtain ⟨t, rfl⟩ := rx; exact SeqAt.EqAt.int_str a t' b t
    | _ => exact absurd (show false = true from fx) Bool.false_ne_true
  | str a =>
    obtain ⟨t', rfl⟩ := ry
    cases x with
    | non => cases rx; exact SeqAt.EqAt.str_none a t'
    | bl b => cases rx; exact SeqAt.EqAt.str_bool a t' b
    | int b => obtain ⟨t, rfl⟩ := rx; exact SeqAt.EqAt.str_int a t' b t
    | str b => obtain ⟨t, rfl⟩ := rx; exact SeqAt.EqAt.str_str a t' b t
    | _ => exact absurd (show false = true from fx) Bool.false_ne_true
  | _ => exact absurd (show false = true from fy) Bool.false_ne_true
noncomputable def eqU (x : V) (u : Value) : Bool := match u with
  | .none => eqV .non x
  | .bool b => eqV (.bl b) x
  | .int i _ => eqV (.int i) x
  | .str z _ => eqV (.str z) x
  | _ => false
theorem eqU_of {x y : V} {u : Value} (r : RelV y u) (f : flatV y = true) : eqU x u = eqV y x := by
  cases y with
  | non => cases r; rfl
  | bl b => cases r; rfl
  | int i => obtain ⟨t, rfl⟩ := r; rfl
  | str z => obtain ⟨t, rfl⟩ := r; rfl
  | _ => exact absurd (show false = true from f) Bool.false_ne_true
theorem any_eqU {x : V} : ∀ {xs : List V} {us : List Value}, Vals xs us → xs.all flatV = true → us.any (eqU x) = xs.any fun y => eqV y x
  | _, _, .nil, _ => rfl
  | y :: xs, u :: us, .cons r t, f => by
    rw [List.all_cons, Bool.and_eq_true] at f
    rw [List.any_cons, List.any_cons, eqU_of r f.1, any_eqU t f.2]
theorem mem_eqAt {A : Around} {s : Shared} {x : V} {v : Value} (rx : RelV x v) (fx : flatV x = true) : ∀ {xs : List V} {us : List Value}, Vals xs us → xs.all flatV = true → ∀ u ∈ us, SeqAt.EqAt A s u v (eqU x u)
  | _, _, .nil, _ => fun u hu => by cases hu
  | y :: xs, u :: us, .cons r t, f => fun u' hu => by
    rw [List.all_cons, Bool.and_eq_true] at f
    rcases List.mem_cons.mp hu with rfl | hu
    · rw [eqU_of r f.1]; exact eqAt_V r rx f.1 fx
    · exact mem_eqAt rx fx t f.2 u' hu
noncomputable def inV (x : V) (xs : List V) : Bool := xs.any fun y => eqV y x
noncomputable def rIn (K : PySem.W.Frag) (neg : Bool) : R2 := fun x y H Q => ∃ p xs, y = .ref p ∧ (SqL K H p xs ∨ SqT K H p xs) ∧ flatV x = true ∧ xs.all flatV = true ∧ Q (.bl (if neg then !inV x xs else inV x xs)) H
theorem op_in_seq : OpR X (compareOp .In) (rIn X.K false) := by
  intro pins s σ H x y v u Q I rx ry h
  obtain ⟨p, xs, rfl, hq, fx, fs, q⟩ := h
  cases ry
  rcases hq with hq | hq
  · obtain ⟨its, r, pl, hz⟩ := I.list hq
    refine SeqAt.in_listAt (eqU x) pl.isList (fun w hw => mem_eqAt rx fx r fs w (by simpa using hw)) ⟨.bl _, H, I, rfl, ?_⟩
    rw [show its.toArray.any (eqU x) = its.any (eqU x) by simp, any_eqU r fs]
    exact q
  · obtain ⟨its, r, pl, hz⟩ := I.tuple hq
    refine SeqAt.in_tupleAt (eqU x) pl (fun w hw => mem_eqAt rx fx r fs w (by simpa using hw)) ⟨.bl _, H, I, rfl, ?_⟩
    rw [show its.toArray.any (eqU x) = its.any (eqU x) by simp, any_eqU r fs]
    exact q
theorem op_notIn_seq : OpR X (compareOp .NotIn) (rIn X.K true) := by
  intro pins s σ H x y v u Q I rx ry h
  obtain ⟨p, xs, rfl, hq, fx, fs, q⟩ := h
  cases ry
  rcases hq with hq | hq
  · obtain ⟨its, r, pl, hz⟩ := I.list hq
    refine SeqAt.notIn_listAt (eqU x) pl.isList (fun w hw => mem_eqAt rx fx r fs w (by simpa using hw)) ⟨.bl _, H, I, rfl, ?_⟩
    rw [show its.toArray.any (eqU x) = its.any (eqU x) by simp, any_eqU r fs]
    exact q
  · obtain ⟨its, r, pl, hz⟩ := I.tuple hq
    refine SeqAt.notIn_tupleAt (eqU x) pl (fun w hw => mem_eqAt rx fx r fs w (by simpa using hw)) ⟨.bl _, H, I, rfl, ?_⟩
    rw [show its.toArray.any (eqU x) = its.any (eqU x) by simp, any_eqU r fs]
    exact q
theorem op_notIn_str : OpR X (compareOp .NotIn) (fun x y H Q => ∃ i j, x = .str i ∧ y = .str j ∧ Q (.bl (!(!(Builtin.Str.occurrences j i 0 j.length 1).isEmpty))) H) := by
  intro pins s σ H x y v u Q I rx ry h
  obtain ⟨i, j, rfl, rfl, q⟩ := h
  obtain ⟨t, rfl⟩ := rx
  obtain ⟨t', rfl⟩ := ry
  exact notIn_str ⟨.bl _, H, I, rfl, q⟩
theorem call_len_seq : CallR X (.builtin "len") (fun xs H Q => ∃ p ys, xs = [.ref p] ∧ (SqL X.K H p ys ∨ SqT X.K H p ys) ∧ Q (.int ys.length) H) := by
  intro pins s σ H xs us Q I r h
  obtain ⟨p, ys, rfl, hq, q⟩ := h
  obtain ⟨u, rfl, rx⟩ := vals1 r
  cases rx
  have hn := line63
  rcases hq with hq | hq
  · obtain ⟨its, r', pl, hz⟩ := I.list hq
    have hlen := r'.length
    exact Calls.call_len_list pl.isList (by simp only [List.size_toArray] <;> omega) ⟨.int ys.length, H, I.tok _, ⟨s.toks + 1, by rw [List.size_toArray, hlen]⟩, q⟩
  · obtain ⟨its, r', pl, hz⟩ := I.tuple hq
    have hlen := r'.length
    exact len_tuple pl (by simp only [List.size_toArray] <;> omega) ⟨.int ys.length, H, I.tok _, ⟨s.toks + 1, by rw [List.size_toArray, hlen]⟩, q⟩
theorem call_len_str : CallR X (.builtin "len") (fun xs H Q => ∃ z, xs = [.str z] ∧ z.length ≤ sizeLine ∧ Q (.int z.length) H) := by
  intro pins s σ H xs us Q I r h
  obtain ⟨z, rfl, hz, q⟩ := h
  obtain ⟨u, rfl, t, rfl⟩ := vals1 r
  have hn := line63
  exact len_str (by omega) ⟨.int z.length, H, I.tok _, ⟨_, rfl⟩, q⟩
theorem CallR.or {f : Value} {r r' : List V → Hp → VK → Prop} (h : CallR X f r) (h' : CallR X f r') : CallR X f (fun xs H Q => r xs H Q ∨ r' xs H Q) := by
  intro pins s σ H xs us Q I rs q
  rcases q with q | q
  · exact h pins s σ H xs us Q I rs q
  · exact h' pins s σ H xs us Q I rs q
theorem call_tuple_of : CallR X (.type "tuple") (fun xs H Q => ∃ p ys, xs = [.ref p] ∧ ((SqL X.K H p ys ∧ ∀ l, H l = none → Q (.ref l) (upd H l (.tup ys))) ∨ (SqT X.K H p ys ∧ Q (.ref p) H))) := by
  intro pins s σ H xs us Q I r h
  obtain ⟨p, ys, rfl, h⟩ := h
  obtain ⟨u, rfl, rx⟩ := vals1 r
  cases rx
  rcases h with ⟨hq, q⟩ | ⟨hq, q⟩
  · obtain ⟨its, r', pl, hz⟩ := I.list hq
    have hlen := r'.length
    refine call_tuple_list pl.isList (fun h' kp => ?_) (by simp only [List.size_toArray] <;> omega)
    have I1 : Inv X pins σ H { s with heap := h' } := I.kept (t' := s.toks) kp
    have I2 : Inv X pins σ (upd H h'.objs.size (.tup ys)) { s with heap := h'.push { cls := .type "tuple", data := .seq its.toArray } } :=
      I1.laid (t' := s.toks) (fun b o e => Heap.get?_push_of_some _ e) (Nat.le_refl _) (show ObjOk X.prog X.w _ _ _ (.tup ys) from ⟨hz, its, r', IsTup.new _ _⟩)
    exact ⟨.ref h'.objs.size, _, I2, rfl, q _ (I1.hok.fresh (Nat.le_refl _))⟩
  · obtain ⟨its, r', pl, hz⟩ := I.tuple hq
    exact call_tuple_same pl ⟨.ref p, H, I, rfl, q⟩
noncomputable def tyV (K : PySem.W.Frag) (T : String) (x : V) (H : Hp) : Prop := match x with
  | .str _ => T = "str"
  | .int _ => T = "int"
  | .ref p => (T = "list" ∧ ∃ xs, SqL K H p xs) ∨ (T = "tuple" ∧ ∃ o, K.lookup p = some o ∧ o.cls = .type "tuple" ∧ o.dict = none) ∨
      (T = "dict" ∧ ((∃ kvs, H p = some (.dK kvs)) ∨ ∃ kvs, H p = some (.dT kvs))) ∨ (T = "set" ∧ ∃ S n, H p = some (.set S n))
  | _ => False
theorem tyV_is {pins : List (Addr × Obj)} {σ : St} {H : Hp} {s : Shared} {T : String} {x : V} {v : Value} (I : Inv X pins σ H s) (r : RelV x v) (ty : tyV X.K T x H) :
    s.TypeIs v T ∧ ∀ a, v = .ref a → ∃ ob, s.heap.get? a = some ob ∧ ob.dict = none := by
  cases x with
  | str z =>
    obtain ⟨t, rfl⟩ := r
    cases (show T = "str" from ty)
    exact ⟨typeIs_str s z t, fun _ e => nomatch e⟩
  | int i =>
    obtain ⟨t, rfl⟩ := r
    cases (show T = "int" from ty)
    exact ⟨typeIs_int s i t, fun _ e => nomatch e⟩
  | ref p =>
    cases r
    rcases ty with ⟨rfl, xs, hq⟩ | ⟨rfl, o, hk, hc, hd⟩ | ⟨rfl, hk⟩ | ⟨rfl, S, n, hk⟩
    · obtain ⟨its, _, pl, _⟩ := I.list hq
      refine ⟨pl.isList.typeIs, fun a e => ?_⟩
      cases e
      obtain ⟨o, n, e, c, hd, _⟩ := pl
      exact ⟨o, e, hd⟩
    · refine ⟨⟨o, I.kIn p o hk, hc⟩, fun a e => ?_⟩
      cases e
      exact ⟨o, I.kIn _ o hk, hd⟩
    · have z : ∃ o, s.heap.get? p = some o ∧ o.ExactDict := by
        rcases hk with ⟨kvs, hk⟩ | ⟨kvs, hk⟩
        · obtain ⟨_, _, _, _, o, _, _, e, ex, _⟩ := I.hok p _ hk
          exact ⟨o, e, ex⟩
        · obtain ⟨_, _, _, _, o, _, _, e, ex, _⟩ := I.hok p _ hk
          exact ⟨o, e, ex⟩
      obtain ⟨o, e, ex⟩ := z
      refine ⟨⟨o, e, ex.1⟩, fun a e2 => ?_⟩
      cases e2
      exact ⟨o, e, ex.2.1⟩
    · obtain ⟨o, _, _, _, e, ex, _⟩ := I.hok p _ hk
      refine ⟨⟨o, e, ex.1⟩, fun a e2 => ?_⟩
      cases e2
      exact ⟨o, e, ex.2.1⟩
  | _ => exact False.elim ty
noncomputable def tBM (K : PySem.W.Frag) (T : String) (r : V → List V → Hp → VK → Prop) (to : TE) (t : TA) : TE := fun σ H Q => to σ H fun x H1 => tyV K T x H1 ∧ t σ H1 fun xs H2 => r x xs H2 Q
variable {o e : Expr} {es : List Expr} {to : TE} {t : TA} {name : Str} {apos cpos : Pos} {T id : String} {r : V → List V → Hp → VK → Prop}
theorem pe_bm (pa : PlainAttrs T) (slot : Slot T name id) (hty : typeOf (.builtin id) = pure (.type "method_descriptor")) (hm : MtR X id r) (ho : PE X o to) (ha : PA X (e :: es) t)
    (hbase : attributeBase o name X.env (eval o X.env) = eval o X.env := by rfl)
    (hfew : ((backTo cpos (starEach (e :: es) X.env)).all (fun x => !x.1) && (backToKw cpos (keywordEach [] X.env)).all (fun x => x.1.isSome)
      && decide ((e :: es).length + ([] : List Keyword).length + (if ([] : List Keyword).isEmpty then 0 else 1) < 30)) = true := by rfl)
    (hline : (apos.endLine == cpos.line) = true := by rfl) (hs : starEach (e :: es) X.env = (false, eval e X.env) :: starEach es X.env := by rfl) (hplain : (backTo cpos (starEach es X.env)).any (·.1) = false := by rfl) :
    PE X (.Call (.Attribute o name apos) (e :: es) [] cpos) (tBM X.K T r to t) := by
  intro pins s σ H Q I h
  refine wpAny_Call_method_late hbase hfew hline rfl (thn (ho pins s σ H _ I h) fun v s1 ⟨x, H1, I1, r1, ty, q1⟩ => ?_)
  obtain ⟨h1, h2⟩ := tyV_is I1 r1 ty
  refine ⟨T, id, pa, slot, hty, h1, h2, ?_⟩
  have hA := ha cpos pins s1 σ H1 _ I1 q1
  rw [hs] at hA ⊢
  refine Calls.callWith_builtin (by show (false || (backTo cpos (starEach es X.env)).any (·.1)) = false; rw [hplain] <;> rfl) (Calls.evalArgs_plain ?_)
  exact thn hA fun us s2 ⟨vs, H2, I2, r2, q2⟩ => hm pins s2 σ H2 x vs v us Q I2 r1 r2 q2
/- xs.append(e), list.index on a module's tuple .. are MtR facts of 06m -/
end
end L2
namespace L2
open PySem PySem.Spec PyProof.Rows
noncomputable def MtM (X : Cx) (id : String) (r : V → List V → Hp → VK → Prop) : Prop :=
  ∀ (pins : List (Addr × Obj)) (s : Shared) (σ : St) (H : Hp) (x : V) (xs : List V) (v : Value) (us : List Value) (Q : VK), Inv X pins σ H s → RelV x v → Vals xs us → r x xs H Q →
    wpAny (model X.prog X.w) X.A (call (.builtin id) (v :: us)) (EP X pins σ Q) X.xe s
theorem Vals.one : ∀ {x : V} {us : List Value}, Vals [x] us → ∃ u, us = [u] ∧ RelV x u
  | _, _, .cons r .nil => ⟨_, rfl, r⟩
section
variable {X : Cx} {pins : List (Addr × Obj)} {σ : St} {H : Hp} {s : Shared} {l b : Addr} {xs ys zs : List V}
theorem Inv.lset {its its' : List Value} {n : Nat} {f : Array Value → Array Value} {t' : Nat} (I : Inv X pins σ H s) (hH : H l = some (.lst xs))
    (e : s.heap.get? l = some { cls := .type "list", data := .seq its.toArray n }) (hf : f its.toArray = its'.toArray) (hv : Vals ys its') (hz : ys.length ≤ sizeLine) :
    Inv X pins σ (upd H l (.lst ys)) { s with heap := s.heap.update l (Obj.mapSeq f), toks := t' } := by
  have q := PySem.IsL.update e f
  rw [hf] at q
  refine I.write (x := l) (e := l) (by rw [hH]; exact trivial) (.inl rfl) (fun b' u hb hu => (Heap.get?_update_other s.heap (Obj.mapSeq f) (Ne.symm hb)).trans hu) ⟨_, q⟩ ?_
  exact ⟨hz, its', _, hv, q⟩
theorem Inv.lnew {its : List Value} {t' : Nat} (I : Inv X pins σ H s) (hv : Vals ys its) (hz : ys.length ≤ sizeLine) :
    Inv X pins σ (upd H s.heap.objs.size (.lst ys)) { s with heap := s.heap.push { cls := .type "list", data := .seq its.toArray }, toks := t' } :=
  I.laid (fun _ _ q => Heap.get?_push_of_some _ q) (Nat.le_refl _) ⟨hz, its, 0, hv, Heap.get?_push_size _ rfl⟩
theorem Inv.fresh (I : Inv X pins σ H s) : H s.heap.objs.size = none := I.hok.fresh (Nat.le_refl _)
theorem Inv.lstM (I : Inv X pins σ H s) (hH : H l = some (.lst xs)) : xs.length ≤ sizeLine ∧ ∃ (its : List Value) (n : Nat), Vals xs its ∧ xs.length = its.length ∧ s.heap.get? l = some { cls := .type "list", data := .seq its.toArray n } := by
  obtain ⟨z, its, n, r, e⟩ := I.hok l _ hH
  exact ⟨z, its, n, r, r.length, e⟩
theorem notLongL {n : Nat} (h : n ≤ sizeLine) : Builtin.List.listTooLong n = false := by
  unfold Builtin.List.listTooLong
  exact decide_eq_false (by omega)
end
section
variable {X : Cx}
noncomputable def rAppend : V → List V → Hp → VK → Prop := fun x vs H Q => ∃ l xs y, x = .ref l ∧ vs = [y] ∧ H l = some (.lst xs) ∧ xs.length < sizeLine ∧ Q .non (upd H l (.lst (xs ++ [y])))
theorem mt_append : MtM X "list.append" rAppend := by
  intro pins s σ H x vs v us Q I rx rv h
  obtain ⟨l, xs, y, rfl, rfl, hH, hz, q⟩ := h
  cases rx
  obtain ⟨u, rfl, ru⟩ := rv.one
  obtain ⟨z, its, n, r, hl, e⟩ := I.lstM hH
  refine call_meets F.slot_list_append ⟨_, e, rfl⟩ F.entry_list_append (F.args_list_append_2 _ _) (PySem.list_append l its.toArray n u (by rw [List.size_toArray]; omega)) ⟨e, ?_⟩
  refine ⟨.non, _, I.lset (its' := its ++ [u]) hH e (by simp) (r.append (.cons ru .nil)) ?_, rfl, q⟩
  rw [List.length_append, List.length_singleton]
  omega
end
end L2
namespace Att
open PySem PySem.W PySem.Calls PyProof.Rows
theorem ints_of_wellAll {P : Params} {h : Heap} : ∀ (ns : List Int) (vs : List Value), WellAll P h vs (ns.map WData.int) → IntsAre vs ns := by
  intro ns
  induction ns with
  | nil =>
    intro vs w
    rw [List.map_nil] at w
    cases w
    exact .nil
  | cons n ns ih =>
    intro vs w
    rw [List.map_cons] at w
    cases w with
    | cons a b =>
      cases a
      exact .cons _ _ (ih _ b)
theorem script_of {l : OpenLaw} {n : Nat} (hn : l.most = some n) {P : Params} {h : Heap} {args : List WData} {vals : List Value}
    (hpre : l.row.toRowW.claim.pre args = true) (hwl : WellAll P h vals args) :
    ∃ a vs ns, vals = [Value.ref a] ∧ args = [WData.list (ns.map WData.int)] ∧ h.get? a = some { cls := .type "list", data := .seq vs.toArray } ∧ IntsAre vs ns ∧ ns.length ≤ n := by
  have hsh : WShape.hasAll [] args [.list .int] = true := (pre_splitW hpre).1
  have hc : l.pre.holds [] { args := args } = true := (pre_splitW hpre).2
  obtain ⟨d, r, rfl, h1, h2⟩ := hasAllW_cons hsh
  obtain rfl := hasAllW_nil h2
  obtain ⟨xs, rfl, h3⟩ := hasW_list h1
  obtain ⟨ns, rfl⟩ := items_int h3
  have hlen : ns.length ≤ n := by
    unfold OpenLaw.pre at hc
    have h4 : (WTm.not (.lt (.lit (.int (n : Int))) (.len (.arg 0)))).holds [] { args := [.list (ns.map .int)] } = true := by
      have h4 := (holds_andW hc).1
      rw [hn] at h4
      exact h4
    have h5 := condW_of h4 (w_not (w_lt w_lit (w_len_list (w_arg rfl))))
    rw [List.length_map] at h5
    refine Nat.le_of_not_lt fun q => ?_
    have q' : (n : Int) < ((ns.length : Nat) : Int) := by omega
    first
      | (rw [decide_eq_true q'] at h5; exact absurd h5 (by decide))
      | (simp at h5; omega)
  cases hwl with
  | cons w1 w2 =>
    cases w2
    cases w1 with
    | list ho hall => exact ⟨_, _, ns, rfl, rfl, ho, ints_of_wellAll ns _ hall, hlen⟩
theorem post_true (l : OpenLaw) (args : List WData) : l.row.toRowW.claim.post args (.bool true) args = true :=
  postW_of (r := l.row.toRowW) (X := (true == true))
    (show WShape.has [] (.bool true) .bool = true by first | rfl | decide | simp [WShape.has, WShape.arms, WShape.armsAll])
    (show (WTm.eq .res (.lit (.bool true))).value [] { args := args, res := some (.bool true), after := args } = some (.bool (true == true)) from w_eq_bool (w_res rfl) w_lit) rfl
theorem attach_call {l : OpenLaw} {n : Nat} {q : Program} {loose : List Str} {XP : (Str → Option Value) → Heap → Prop} {YP : World → Heap → Prop} {d : DefRec}
    (hn : l.most = some n) (hdf : d.params.defaults = [])
    (call : ∀ (w : World) (s₀ s₁ : Shared) (mg mb : Str → Option Value) (fa : Addr) (o : Obj) (pm cd doc : Value) (a : Addr) (vs : List Value) (ns : List Int),
      Ground q loose [] XP w s₀ mg mb s₁.heap → YP w s₁.heap →
      s₁.heap.get? fa = some o → o.data = .func (docDef d.name d.params d.body d.scope pm cd doc) → s₁.heap.CodeRec cd d.name → mg d.name = some (.ref fa) →
      s₁.heap.get? a = some { cls := .type "list", data := .seq vs.toArray } → IntsAre vs ns → ns.length ≤ n → s₁.gens = #[] →
      codeAny (model l.prog w) callerA (.call (.ref fa) ⟨[.ref a], []⟩) (fun r s' => r = .ok (.ret (.bool true)) ∧ OldK s₁.heap s'.heap ∧ s'.os = s₁.os ∧ AllBare s'.gens) s₁) :
    WalkO q loose XP YP l.row.toRowW d [] (fun f vs => PySem.call f vs) := by
  intro w s₀ s₁ mg mb G Y fa o pm cd doc dV kV ho hd hcd hD hmg hg args vals as hpre hlay hrd hwl hlo
  obtain rfl : dV = .none := Dflts.none hD hdf
  obtain rfl : kV = .none := Dflts.noKw hD
  obtain ⟨a, vs, ns, rfl, rfl, hobj, hints, hlen⟩ := script_of hn hpre hwl
  refine enter_call (codeAny_mono (call w s₀ s₁ mg mb fa o pm cd doc a vs ns G Y ho (fd_plain hd) hcd hmg hobj hints hlen hg) fun r s' hq => ?_)
  obtain ⟨rfl, h2, h3, h4⟩ := hq
  exact ⟨.inl ⟨.bool true, .bool true, [], rfl, fun _ => rfl, .bool true, post_true l _, fun _ => ⟨List.Pairwise.nil, fun _ hm => (nomatch hm)⟩⟩, h2, h3, h4⟩
section
variable {prog : Program} {w : World} {A : Around} {E : Value → Shared → Prop} {s : Shared} {K : Frag}
end
end Att
namespace L2
open PySem PySem.Spec PyProof.Rows
theorem vals_ints : ∀ {vs : List Value} {ns : List Int}, IntsAre vs ns → Vals (ns.map V.int) vs
  | _, _, .nil => .nil
  | _, _, .cons n t h => .cons ⟨t, rfl⟩ (vals_ints h)
noncomputable def Only (H : Hp) : Prop := ∀ b, H b = none ∨ ∃ o xs, H b = some (.frz o (.lst xs))
theorem law_call {P : Program} {w : World} {K : PySem.W.Frag} {mg mb : Str → Option Value} {CX : CXT} {k : Nat} {fa a : Addr} {fd : FuncData} {x : Str} {sp : Sp} {s₁ : Shared} {vs : List Value} {ns : List Int}
    (KX : K.In s₁.heap) (hns : s₁.heap.Ns mainGlobals mg) (hb : s₁.heap.Ns builtinsNs mb) (hbb : ∀ x : Str, x ≠ "__name__" → mb x = bootBuiltins x) (hlim : s₁.heap.NoLimit) (hg : s₁.gens = #[])
    (ha : s₁.heap.get? a = some { cls := .type "list", data := .seq vs.toArray }) (hi : IntsAre vs ns) (hl : ns.length ≤ sizeLine) (hr : Room k callerA)
    (F : ∀ base : Heap, K.In base → base.Ns mainGlobals mg → FnOk P w K mg base CX k fa fd [x] sp) (hbind : ∀ (s : Shared) (u : Value), BindsTo s fd ⟨[u], []⟩ [(x, u)])
    (hsp : ∀ H : Hp, Only H → SqL K H a (ns.map V.int) → sp [.ref a] H (fun v _ => v = .bl true) fun _ _ _ => False)
    (hCX : ∀ H e s', CX [] H s₁ (fun _ _ _ => False) e s' → False) :
    codeAny (model P w) callerA (.call (.ref fa) ⟨[.ref a], []⟩) (fun r s' => r = .ok (.ret (.bool true)) ∧ OldK s₁.heap s'.heap ∧ s'.os = s₁.os ∧ AllBare s'.gens) s₁ := by
  have rv := vals_ints hi
  have lenV := hi.length
  have core : ∀ H : Hp, Only H → SqL K H a (ns.map V.int) → HOk P w H s₁.heap → (∀ b, H b ≠ none → b = a) → (H a ≠ none → K.lookup a = none) →
      codeAny (model P w) callerA (.call (.ref fa) ⟨[.ref a], []⟩) (fun r s' => r = .ok (.ret (.bool true)) ∧ OldK s₁.heap s'.heap ∧ s'.os = s₁.os ∧ AllBare s'.gens) s₁ := by
    intro H hO hS hok hA hK
    have base_of : ∀ {b : Addr} {o : Obj}, s₁.heap.get? b = some o → H b = none → (hidT s₁.heap H).get? b = some o := fun e n => hidT_get e n
    have noA : ∀ {b : Addr} {o : Obj} {es : Array DictEntry} {ep : Nat}, s₁.heap.get? b = some o → o.data = .dict es ep → H b = none := fun {b o es ep} e d => by
      cases q : H b with
      | none => rfl
      | some u =>
        have e' : b = a := hA b (by rw [q]; simp)
        subst e'
        rw [ha] at e; cases e
        have d' : Data.seq vs.toArray _ = Data.dict es ep := d
        cases d'
    have nsK : ∀ {b : Addr} {m : Str → Option Value}, s₁.heap.Ns b m → (hidT s₁.heap H).Ns b m := fun {b m} ⟨o, es, ep, e, d, r⟩ => ⟨o, es, ep, base_of e (noA e d), d, r⟩
    have hKb : K.In (hidT s₁.heap H) := fun b o e => base_of (KX b o e) (by
      cases q : H b with
      | none => rfl
      | some u =>
        have e' : b = a := hA b (by rw [q]; simp)
        subst e'
        rw [hK (by rw [q]; simp)] at e; cases e)
    have hM : Mod K mg (hidT s₁.heap H) := ⟨hKb, nsK hns, ⟨mb, nsK hb, hbb⟩, let ⟨mc, h1, h2⟩ := hlim; ⟨mc, nsK h1, h2⟩⟩
    have e0 : Env0 P w K mg (hidT s₁.heap H) callerA [] s₁ H := ⟨rfl, hM, fun b o e => of_hidT e, Nat.le_of_eq (hidT_size _ _), trivial, fun b hb => absurd (show b ∈ ([] : List Addr) from hb) (by simp), hok, .of_eq hg⟩
    refine codeAny_mono ((F _ hKb (nsK hns)).run callerA [] s₁ H ⟨[.ref a], []⟩ [.ref a] [.ref a] _ _ hr e0 (hbind s₁ (.ref a)) (.cons rfl .nil) (hsp H hO hS)) fun r s' h => ?_
    cases r with
    | error e => exact (hCX H e s' h).elim
    | ok fl =>
      cases fl with
      | next => exact False.elim h
      | brk => exact False.elim h
      | cont => exact False.elim h
      | ret u =>
        obtain ⟨v, H', os, bare, un, hok', r', q⟩ := h
        have q' : v = .bl true := q
        subst q'
        obtain rfl : u = Value.bool true := r'
        refine ⟨rfl, OldK.of_keep fun b o e => ?_, os, bare⟩
        cases q : H b with
        | none => exact un.keep b o e q (by intro z; exact absurd (show b ∈ ([] : List Addr) from z) (by simp)) (by simp)
        | some u =>
          rcases hO b with z | ⟨ob, xs, z⟩
          · rw [q] at z; cases z
          · have z2 := un.frzs b ob _ z
            obtain ⟨e1, _⟩ := hok b _ z
            obtain ⟨e2, _⟩ := hok' b _ z2
            rw [e] at e1; cases e1
            exact e2
  cases hk : K.lookup a with
  | some o =>
    have e := KX a o hk
    rw [ha] at e
    cases e
    refine core (fun _ => none) (fun _ => .inl rfl) (.inr ⟨_, vs.toArray, _, hk, rfl, rfl, rfl, by rw [List.size_toArray, lenV]; exact hl, by simpa using rv⟩) (fun b u z => by have z' : (none : Option HO) = some u := z; cases z') (fun b z => absurd rfl z) fun z => absurd rfl z
  | none =>
    refine core (fun b => if b = a then some (.frz { cls := .type "list", data := .seq vs.toArray } (.lst (ns.map V.int))) else none) (fun b => ?_) (.inl (.inr ⟨{ cls := .type "list", data := .seq vs.toArray }, if_pos rfl⟩)) (fun b u z => ?_) (fun b z => ?_) fun _ => hk
    · by_cases hb : b = a
      · exact .inr ⟨_, _, if_pos hb⟩
      · exact .inl (if_neg hb)
    · by_cases hb : b = a
      · have z' := (if_pos hb).symm.trans z
        cases z'
        subst hb
        exact ⟨ha, by rw [List.length_map]; exact hl, vs, _, rv, ha⟩
      · have z' := (if_neg hb).symm.trans z
        cases z'
    · by_cases hb : b = a
      · exact hb
      · exact absurd (if_neg hb) z
end L2
namespace L2
open PySem PySem.Spec PyProof.Rows
noncomputable abbrev KOf {K : PySem.W.Frag} {h : Heap} (_ : K.In h) : PySem.W.Frag := K
theorem walk_of {l : PySem.W.OpenLaw} {n k : Nat} {q : Program} {loose : List Str} {XP : (Str → Option Value) → Heap → Prop} {YP : World → Heap → Prop} {d : DefRec} {K : Params → PySem.W.Frag} {CX : World → CXT} {sp : World → Sp} {x : Str}
    (hn : l.most = some n) (hn2 : n ≤ sizeLine) (hdf : d.params.defaults = []) (hr : Room k callerA)
    (hY : ∀ (w : World) (h : Heap), YP w h → (K w.params).In h)
    (F : ∀ (w : World) (mg : Str → Option Value) (fa : Addr) (h : Heap), (K w.params).In h → h.Ns mainGlobals mg → mg d.name = some (.ref fa) →
      ∃ fd : FuncData, (∀ (s : Shared) (u : Value), BindsTo s fd ⟨[u], []⟩ [(x, u)]) ∧
        ∀ base : Heap, (K w.params).In base → base.Ns mainGlobals mg → FnOk l.prog w (K w.params) mg base (CX w) k fa fd [x] (sp w))
    (hsp : ∀ (w : World) (H : Hp) (a : Addr) (ns : List Int), ns.length ≤ n → Only H → SqL (K w.params) H a (ns.map V.int) → sp w [.ref a] H (fun v _ => v = .bl true) fun _ _ _ => False)
    (hCX : ∀ (w : World) (H : Hp) (s : Shared) (e : Value) (s' : Shared), CX w [] H s (fun _ _ _ => False) e s' → False) :
    PySem.W.WalkO q loose XP YP l.row.toRowW d [] (fun f vs => PySem.call f vs) := by
  refine Att.attach_call hn hdf fun w s₀ s₁ mg mb fa o pm cd doc a vs ns G Y ho hd hcd hmg hobj hints hlen hg => ?_
  have KX := hY w _ Y
  obtain ⟨fd, hb, hF⟩ := F w mg fa _ KX G.T.g hmg
  exact law_call KX G.T.g G.T.b G.T.builtins G.T.nolimit hg hobj hints (Nat.le_trans hlen hn2) hr hF hb (fun H hO hS => hsp w H a ns hlen hO hS) fun H e s' => hCX w H s₁ e s'
end L2
/- THE LAST THEOREM (shape; LID, My.* are yours):
   My.Adr: a structure of the addresses that your layer names (classes, functions); My.Txt K t: a structure (Prop) of the equations over K;
   My.txt_mk : {K} {implicit addresses ..} (e1 : nsIn K mainGlobals "law" = some (some (.ref f))) (e2 : K.lookup f = some ⟨oc, od, .func (fnOf "law" "law" params body scope dV kV doc pm an cdv ct), sl⟩) (e3 : codeIn K cdv "law" = true) .. : ∃ t, My.Txt K t
set_option maxRecDepth 100000 in
set_option maxHeartbeats 0 in
theorem PySem.Challenge.cw_LID_holds : PySem.Challenge.rw_LID.Holds := by
  w_on; o_law; k_head; (case hw => w_witness2)
  k_fill
  refine L2.walk_of (l := PySem.Challenge.rw_LID) (n := 63) (k := 40) (x := "script") (CX := fun w => ..) (sp := fun _ => My.sp_law) rfl (by decide) rfl ⟨rfl, by decide, by decide⟩ (fun w h Y => PySem.W.kIn_of Y) ?F ?S ?C
  case F =>
    intro w mg fa h KX G hmg
    have T : ∃ t, My.Txt (L2.KOf KX) t := by
      dsimp only [L2.KOf]                          -- K must stand as «<heap const> w.params» for k_is
      refine' My.txt_mk ?e1 ?e2 ?e3 ..
      (case e1 => PySem.W.k_is)                    -- in the order: a name -> its address -> its object -> its parts
      (case e2 => PySem.W.k_is)
      ..
    obtain ⟨t, T⟩ := T
    have e0 := hmg.symm.trans (PySem.W.mg_of KX G T.law)
    cases e0                                       -- fa is the law's own address
    exact ⟨_, fun s u => .of_eq rfl, fun base kb nb => My.law_fn T kb nb⟩     -- if «.of_eq rfl» comes too early: refine' ⟨_, ?b, fun base kb nb => My.law_fn T kb nb⟩; exact fun s u => .of_eq rfl
  case S => exact fun w H a ns hl hO hS => ..
  case C => exact ..
(the tactic k_is has no namespace: write k_is) -/
namespace L2
open PySem PySem.Spec PyProof.Rows
noncomputable def inClass (s : Stmt) (j : Nat) : Stmt := match s with
  | .ClassDef _ _ _ body _ _ _ _ _ _ _ => body.getD j (.Pass ⟨0, 0, 0, 0⟩)
  | _ => .Pass ⟨0, 0, 0, 0⟩
noncomputable def defArgs (s : Stmt) : Arguments := match s with
  | .FunctionDef _ a _ _ _ _ _ _ _ _ => a
  | _ => { posonlyargs := [], args := [], vararg := none, kwonlyargs := [], kw_defaults := [], kwarg := none, defaults := [] }
noncomputable def defBody (s : Stmt) : List Stmt := match s with
  | .FunctionDef _ _ b _ _ _ _ _ _ _ => b
  | _ => []
noncomputable def defScope (s : Stmt) : Scope := match s with
  | .FunctionDef _ _ _ _ _ _ sc _ _ _ => sc
  | _ => { kind := .function, names := [], isGenerator := false, isCoroutine := false }
noncomputable abbrev CX0 : CXT := fun _ _ _ _ _ _ => False
noncomputable abbrev E0 : XK := fun _ _ _ => False
theorem pass0 {X : Cx} : Passes CX0 X E0 := fun _ _ _ _ _ _ _ h => h.elim
structure Fun (K : PySem.W.Frag) (x qual : Str) (st : Stmt) (f : Addr) (fd : FuncData) : Prop where
  ex : ∃ (oc : Value) (od : Option Addr) (kV doc pm : Value) (an : Option Addr) (cdv ct : Value) (osl : Array (Option Value)),
    fd = PySem.W.fnOf x qual (defArgs st) (defBody st) (defScope st) .none kV doc pm an cdv ct ∧ K.lookup f = some ⟨oc, od, .func fd, osl⟩ ∧ PySem.W.codeIn K cdv qual = true
  kp : PySem.W.keepIn K (.ref f) = true
section
variable {P : Program} {w : World} {K : PySem.W.Frag} {mg : Str → Option Value} {base : Heap}
theorem Fun.ok {x qual : Str} {st : Stmt} {f : Addr} {fd : FuncData} {N ps : List Str} {k : Nat} {sp : Sp} (F : Fun K x qual st f fd) (S : FnScope N ps (defScope st)) (len : ∀ vs H Q E, sp vs H Q E → vs.length = ps.length)
    (hbody : ∀ (cdv : Value) (A : Around) (outer : List Env) (s : Shared) (H : Hp) (vs : List V) (Q : VK) (E : XK), Room k (A.deeper (envOfC qual (defScope st) s.heap.objs.size f cdv)) → sp vs H Q E →
      ∃ t, PSs (cxOf CX0 P w K mg base N qual (defScope st) f cdv A outer s H E).nox (defBody st) t ∧ t { nx := fun _ H' => Q .non H', rt := Q } (start N vs) H) : FnOk P w K mg base CX0 (k + 1) f fd ps sp := by
  obtain ⟨oc, od, kV, doc, pm, an, cdv, ct, osl, rfl, lk, hcd⟩ := F.ex
  refine fn_of lk hcd S len fun A outer s H vs Q E hr hsp => ?_
  obtain ⟨t, h, q⟩ := hbody cdv A outer s H vs Q E hr hsp
  exact ⟨t, h.nox, q⟩
theorem Fun.binds {x qual : Str} {st : Stmt} {f : Addr} {fd : FuncData} {ps : List Str} (F : Fun K x qual st f fd)
    (h : ∀ (kV doc pm : Value) (an : Option Addr) (cdv ct : Value) (us : List Value), us.length = ps.length → bindArgs (PySem.W.fnOf x qual (defArgs st) (defBody st) (defScope st) .none kV doc pm an cdv ct) ⟨us, []⟩ = pure (ps.zip us)) : Binds K fd ps [] := by
  obtain ⟨oc, od, kV, doc, pm, an, cdv, ct, osl, rfl, lk, hcd⟩ := F.ex
  exact .all (h kV doc pm an cdv ct)
theorem fun_mk {x qual : Str} {st : Stmt} {f : Addr} {oc : Value} {od an : Option Addr} {osl : Array (Option Value)} {kV doc pm cdv ct : Value} (l : K.lookup f = some ⟨oc, od, .func (PySem.W.fnOf x qual (defArgs st) (defBody st) (defScope st) .none kV doc pm an cdv ct), osl⟩)
    (c : PySem.W.codeIn K cdv qual = true) (k : PySem.W.keepIn K (.ref f) = true) : Fun K x qual st f (PySem.W.fnOf x qual (defArgs st) (defBody st) (defScope st) .none kV doc pm an cdv ct) := ⟨⟨oc, od, kV, doc, pm, an, cdv, ct, osl, rfl, l, c⟩, k⟩
end
section
variable {X : Cx}
theorem pv (i : Nat) {x : Str} {pos : Pos} (hN : X.N[i]? = some x := by rfl) (hv : Vis X.env.scope x := by first | exact Or.inl rfl | exact Or.inr (Or.inl rfl) | exact Or.inr (Or.inr rfl)) (hd : (x == ("__debug__" : Str)) = false := by decide)
    (hcd : (x == ("__classdict__" : Str)) = false := by decide) : PE X (.Name x pos) (tVar i) := pe_var hN hv hd hcd
end
theorem iteF {A B : Prop} (h : B) : if false = true then A else B := by
  rw [if_neg Bool.false_ne_true]
  exact h
theorem iteT {A B : Prop} (h : A) : if true = true then A else B := by
  rw [if_pos rfl]
  exact h
noncomputable def Same (H H' : Hp) : Prop := ∀ b o, H b = some o → H' b = some o
theorem Same.refl (H : Hp) : Same H H := fun _ _ h => h
theorem Same.trans {H H1 H2 : Hp} (a : Same H H1) (b : Same H1 H2) : Same H H2 := fun c o h => b c o (a c o h)
theorem Same.free {H H' : Hp} (e : Same H H') {l : Addr} (h : H' l = Option.none) : H l = Option.none := by
  cases q : H l with
  | none => rfl
  | some o =>
    rw [e l o q] at h
    cases h
theorem Same.seq {K : PySem.W.Frag} {H H' : Hp} {a : Addr} {xs : List V} (e : Same H H') (h : SqL K H a xs) : SqL K H' a xs := by
  rcases h with (h | ⟨o, h⟩) | h
  · exact .inl (.inl (e _ _ h))
  · exact .inl (.inr ⟨o, e _ _ h⟩)
  · exact .inr h
end L2
set_option autoImplicit false
namespace L2
open PySem PySem.Spec PyProof.Rows
section
variable {κ : Type} [DecidableEq κ]
end
structure M1 (X : Cx) (o : Expr) (m : Str) (apos : Pos) (e : Expr) (cpos : Pos) : Prop where
  base : attributeBase o m X.env (eval o X.env) = eval o X.env
  few : ((backTo cpos (starEach [e] X.env)).all (fun x => !x.1) && (backToKw cpos (keywordEach [] X.env)).all (fun x => x.1.isSome)
    && decide (([e] : List Expr).length + ([] : List Keyword).length + (if ([] : List Keyword).isEmpty then 0 else 1) < 30)) = true
  line : (apos.endLine == cpos.line) = true
  trees : backTo cpos (starEach [e] X.env) = [(false, eval e X.env)]
structure M2 (X : Cx) (o : Expr) (m : Str) (apos : Pos) (e f : Expr) (cpos : Pos) : Prop where
  base : attributeBase o m X.env (eval o X.env) = eval o X.env
  few : ((backTo cpos (starEach [e, f] X.env)).all (fun x => !x.1) && (backToKw cpos (keywordEach [] X.env)).all (fun x => x.1.isSome)
    && decide (([e, f] : List Expr).length + ([] : List Keyword).length + (if ([] : List Keyword).isEmpty then 0 else 1) < 30)) = true
  line : (apos.endLine == cpos.line) = true
  trees : backTo cpos (starEach [e, f] X.env) = [(false, eval e X.env), (false, eval f X.env)]
end L2
namespace L2
open PySem
noncomputable def clGo (env : Env) : List (Str × NameKind) → List (Str × Addr) → List (Str × Addr)
  | [], cs => cs
  | (n, k) :: r, cs => clGo env r (if k == .free then (n, (env.cells.lookup n).getD 0) :: cs else cs)
noncomputable def clOf (scope : Scope) (env : Env) : List (Str × Addr) := clGo env scope.names []
theorem closureFor_eq {scope : Scope} {env : Env} (h : ∀ x ∈ scope.names, x.2 = .free → ∃ c, env.cells.lookup x.1 = some c) : closureFor scope env = pure (clOf scope env) := by
  unfold closureFor clOf
  have key : ∀ (l : List (Str × NameKind)) (cs : List (Str × Addr)), (∀ x ∈ l, x.2 = .free → ∃ c, env.cells.lookup x.1 = some c) →
      (forIn l cs (fun x (r : List (Str × Addr)) => match x with
        | (name, kind) => if (kind == NameKind.free) = true then do let a ← cellOf env name; pure (ForInStep.yield ((name, a) :: r)) else pure (ForInStep.yield r)) : Sem (List (Str × Addr))) = pure (clGo env l cs) := by
    intro l
    induction l with
    | nil => intro cs _; rfl
    | cons x r ih =>
      intro cs hx
      obtain ⟨n, k⟩ := x
      rw [List.forIn_cons]
      by_cases hk : (k == NameKind.free) = true
      · obtain ⟨c, hc⟩ := hx (n, k) List.mem_cons_self (by simpa using hk)
        have e : cellOf env n = pure c := by unfold cellOf; rw [show env.cells.lookup n = some c from hc]
        simp only [hk, if_true, e, pure_bind]
        rw [ih _ fun y hy => hx y (List.mem_cons_of_mem _ hy)]
        have hc' : env.cells.lookup n = some c := hc
        simp only [clGo, hk, if_true, hc', Option.getD_some]
      · simp only [hk, Bool.false_eq_true, if_false, pure_bind]
        rw [ih _ fun y hy => hx y (List.mem_cons_of_mem _ hy)]
        simp only [clGo, hk, Bool.false_eq_true, if_false]
  have := key scope.names [] h
  dsimp only
  rw [this]
  rfl
theorem clGo_mem (env : Env) : ∀ (l : List (Str × NameKind)) (cs : List (Str × Addr)) (p : Str × Addr), p ∈ clGo env l cs → p ∈ cs ∨ ((p.1, NameKind.free) ∈ l ∧ p.2 = (env.cells.lookup p.1).getD 0)
  | [], cs, p, h => .inl h
  | (n, k) :: r, cs, p, h => by
    unfold clGo at h
    rcases clGo_mem env r _ p h with h | ⟨h1, h2⟩
    · by_cases hk : (k == NameKind.free) = true
      · rw [if_pos hk] at h
        rcases List.mem_cons.mp h with h | h
        · have e : k = .free := by simpa using hk
          subst h; subst e
          exact .inr ⟨List.mem_cons_self, rfl⟩
        · exact .inl h
      · rw [if_neg hk] at h; exact .inl h
    · exact .inr ⟨List.mem_cons_of_mem _ h1, h2⟩
theorem clGo_has (env : Env) : ∀ (l : List (Str × NameKind)) (cs : List (Str × Addr)) (n : Str), ((n, NameKind.free) ∈ l ∨ ∃ a, (n, a) ∈ cs) → ∃ a, (n, a) ∈ clGo env l cs
  | [], cs, n, h => by
    rcases h with h | h
    · cases h
    · exact h
  | (m, k) :: r, cs, n, h => by
    unfold clGo
    refine clGo_has env r _ n ?_
    rcases h with h | ⟨a, h⟩
    · rcases List.mem_cons.mp h with h | h
      · cases h
        exact .inr ⟨_, by rw [if_pos (by simp)]; exact List.mem_cons_self⟩
      · exact .inl h
    · refine .inr ⟨a, ?_⟩
      split
      · exact List.mem_cons_of_mem _ h
      · exact h
theorem lookup_of_mem_some {β : Type} : ∀ {l : List (Str × β)} {n : Str} {a : β}, (n, a) ∈ l → ∃ b, l.lookup n = some b
  | [], _, _, h => by cases h
  | (m, b) :: r, n, a, h => by
    rw [List.lookup_cons]
    by_cases e : n = m
    · subst e; simp
    · have hb : (n == m) = false := by simpa using e
      rw [hb]
      rcases List.mem_cons.mp h with h | h
      · cases h; exact absurd rfl e
      · exact lookup_of_mem_some h
theorem clOf_in {scope : Scope} {env : Env} (h : ∀ x ∈ scope.names, x.2 = .free → ∃ c, env.cells.lookup x.1 = some c) {x : Str} {c : Addr} (e : (clOf scope env).lookup x = some c) : env.cells.lookup x = some c := by
  have m := PySem.mem_of_lookup e
  rcases clGo_mem env scope.names [] (x, c) m with h' | ⟨h1, h2⟩
  · cases h'
  · obtain ⟨d, hd⟩ := h _ h1 rfl
    have hd' : env.cells.lookup x = some d := hd
    have h2' : c = (env.cells.lookup x).getD 0 := h2
    rw [hd'] at h2' ⊢
    rw [h2']; rfl
theorem clOf_has {scope : Scope} {env : Env} {x : Str} (h : (x, NameKind.free) ∈ scope.names) : ∃ c, (clOf scope env).lookup x = some c := by
  obtain ⟨a, ha⟩ := clGo_has env scope.names [] x (.inl h)
  exact lookup_of_mem_some ha
end L2
namespace L2
open PySem PySem.Spec PyProof.Rows
structure CompSc (X : Cx) (scope : Scope) (N' : List Str) (mp : List (Option Nat)) : Prop where
  kind : scope.kind = .function
  nocell : ∀ x ∈ scope.names, x.2 ≠ .cell
  names : ∀ x ∈ scope.names, x.2 = .local → scope.names.lookup x.1 = some .local
  fr : ∀ x ∈ scope.names, x.2 = .free → X.env.scope.names.lookup x.1 = some .cell ∨ X.env.scope.names.lookup x.1 = some .free
  len : mp.length = N'.length
  map : ∀ (i : Nat) (x : Str) (j : Nat), N'[i]? = some x → mp[i]? = some (some j) → X.N[j]? = some x ∧ (x, NameKind.free) ∈ scope.names ∧ ((relabel scope X.env).names.lookup x = some .cell ∨ (relabel scope X.env).names.lookup x = some .free)
noncomputable def inSt (mp : List (Option Nat)) (σ : St) : St := mp.map fun o => o.bind fun j => (σ[j]?).join
noncomputable def compCx (X : Cx) (scope : Scope) (N' : List Str) (s : Shared) (H : Hp) (fp : List Addr) : Cx :=
  { X with N := N', s₀ := s, H₀ := H, env := compEnvC scope (clOf scope X.env) s.heap.objs.size X.env, outer := X.stack, ex := fp, fn := fun _ => false, pn := [], xe := fun _ _ => False }
theorem relabel_free {scope : Scope} {env : Env} {x : Str} (nc : ∀ y ∈ scope.names, y.2 ≠ .cell) (h : (relabel scope env).names.lookup x = some .cell ∨ (relabel scope env).names.lookup x = some .free) : (x, NameKind.free) ∈ scope.names := by
  have m : ∃ k, (x, k) ∈ (relabel scope env).names ∧ (k = .cell ∨ k = .free) := by
    rcases h with h | h
    · exact ⟨_, PySem.mem_of_lookup h, .inl rfl⟩
    · exact ⟨_, PySem.mem_of_lookup h, .inr rfl⟩
  obtain ⟨k, hm, hk⟩ := m
  unfold relabel at hm
  obtain ⟨⟨n, k'⟩, hin, e⟩ := List.mem_map.mp hm
  dsimp only at e
  split at e
  · rename_i hc
    have e1 : n = x := congrArg Prod.fst e
    have e2 : k' = .free := by
      have := (Bool.and_eq_true_iff.mp (Bool.and_eq_true_iff.mp hc).1).1
      simpa using this
    rw [← e1, ← e2]; exact hin
  · have e1 : n = x := congrArg Prod.fst e
    have e2 : k' = k := congrArg Prod.snd e
    rcases hk with hk | hk
    · exact absurd (e2.trans hk) (nc _ hin)
    · rw [← e1, ← hk, ← e2]; exact hin
section
variable {X : Cx} {pins : List (Addr × Obj)} {σ : St} {H : Hp} {s : Shared} {scope : Scope} {N' : List Str} {mp : List (Option Nat)} {fp : List Addr}
theorem CompSc.cells (ck : CompSc X scope N' mp) (ok : X.Ok) : ∀ x ∈ scope.names, x.2 = .free → ∃ c, X.env.cells.lookup x.1 = some c := fun x hx hf => ok.has x.1 (ck.fr x hx hf)
theorem Inv.inner (I : Inv X pins σ H s) (ck : CompSc X scope N' mp) (hf : ∀ b ∈ fp, FpOk X pins H b) (hlt : ∀ b ∈ fp, b < s.heap.objs.size) {h₁ : Heap} {tk : Nat}
    (hn : h₁.Ns s.heap.objs.size (fun _ => none)) (hk : ∀ b o, s.heap.get? b = some o → h₁.get? b = some o) :
    Inv (compCx X scope N' s H fp) [] (inSt mp σ) H { s with heap := h₁, toks := tk } := by
  have hfree := ck.cells I.ok
  have cin : ∀ x c, (clOf scope X.env).lookup x = some c → X.env.cells.lookup x = some c := fun x c e => clOf_in hfree e
  have clt : ∀ x c, X.env.cells.lookup x = some c → c < s.heap.objs.size := fun x c e => by
    obtain ⟨v, q⟩ := I.cell x c e
    exact q.lt
  refine ⟨⟨I.ok.mod, ck.kind, I.ok.glob, I.ok.blt, Nat.le_refl _, fun x y c h1 h2 => I.ok.inj x y c (cin x c h1) (cin y c h2), fun x hx => ?_, fun x c h _ => ?_, I.ok.hd, I.ok.frames, .inl rfl, fun b hb => ⟨?_, fun x c e => ?_⟩, I.bs, Nat.le_trans I.ok.bsz I.sz, fun b o e hb => ?_, fun b hb hs => ?_, I.stack, I.stkFree⟩,
    rfl, I.bare, Un.kept hk, ⟨_, hn, fun i x v h1 h2 h3 => ?_⟩, fun x c e => ?_, I.hok.fresh (Nat.le_refl _), fun x c e => ?_, fun p hp => absurd (show p ∈ ([] : List (Addr × Obj)) from hp) (by simp), I.hok.kept hk, ?_⟩
  · exact clOf_has (relabel_free ck.nocell hx)
  · exact absurd (show false = true from h) (by decide)
  · exact Nat.ne_of_lt (hlt b hb)
  · exact (hf b hb).2.2.2.2.1 x c (cin x c e)
  · have q := (hf b hb).2.2.2.1
    rcases q with q | q
    · exact I.ok.noex b o e q
    · exact absurd (Nat.lt_of_lt_of_le (Heap.lt_size e) (Nat.le_trans I.ok.bsz q)) (Nat.lt_irrefl _)
  · rcases List.mem_cons.mp (I.stkSub b hs) with z | z
    · exact (hf b hb).2.1 z
    · exact (hf b hb).2.2.1 z
  · have hi : ∃ j, mp[i]? = some (some j) ∧ σ[j]? = some (some v) := by
      unfold inSt at h2
      rw [List.getElem?_map] at h2
      cases q : mp[i]? with
      | none => rw [q] at h2; cases h2
      | some o =>
        rw [q] at h2
        have h2' : (o.bind fun j => (σ[j]?).join) = some v := Option.some.inj h2
        cases o with
        | none => cases h2'
        | some j =>
          have h2'' : (σ[j]?).join = some v := h2'
          refine ⟨j, rfl, ?_⟩
          cases r : σ[j]? with
          | none => rw [r] at h2''; cases h2''
          | some w' =>
            rw [r] at h2''
            have : w' = some v := h2''
            rw [this]
    obtain ⟨j, hj, hσ⟩ := hi
    obtain ⟨m1, m2, m3⟩ := ck.map i x j h1 hj
    obtain ⟨m, hm, hl⟩ := I.loc
    have vis : Vis X.env.scope x := by
      rcases ck.fr _ m2 rfl with q | q
      · exact .inr (.inl q)
      · exact .inr (.inr q)
    obtain ⟨u, ru, l⟩ := hl j x v m1 hσ vis
    refine ⟨u, ru, .inr ⟨m3, ?_⟩⟩
    obtain ⟨c, hc⟩ := clOf_has (env := X.env) m2
    refine ⟨c, hc, ?_⟩
    rcases l with ⟨k, _⟩ | ⟨_, c', e', z⟩
    · rcases ck.fr _ m2 rfl with q | q
      · have k' : X.env.scope.names.lookup x = some .local := k
        have q' : X.env.scope.names.lookup x = some .cell := q
        rw [k'] at q'; cases q'
      · have k' : X.env.scope.names.lookup x = some .local := k
        have q' : X.env.scope.names.lookup x = some .free := q
        rw [k'] at q'; cases q'
    · have e2 := cin x c hc
      rw [e'] at e2
      cases e2
      obtain ⟨o, ho, hd⟩ := z
      exact ⟨o, hk _ o ho, hd⟩
  · obtain ⟨v, o, ho, hd⟩ := I.cell x c (cin x c e)
    exact ⟨v, o, hk _ o ho, hd⟩
  · exact I.freeC x c (cin x c e)
  · show (inSt mp σ).length = N'.length
    unfold inSt
    rw [List.length_map]
    exact ck.len
theorem Inv.outer {σ' : St} {H' : Hp} {s' : Shared} (I : Inv X pins σ H s) (hf : ∀ b ∈ fp, FpOk X pins H b) (J : Inv (compCx X scope N' s H fp) [] σ' H' s') : Inv X pins σ H' s' :=
  I.call' (ch := fp) J.os J.base J.hok J.bare fun b hb => ⟨(hf b hb).2.2.2.1, (hf b hb).2.1, (hf b hb).2.2.2.2.1, (hf b hb).2.2.2.2.2⟩
end
noncomputable def KeepsSt (σ σ' : St) : Prop := σ'.length = σ.length ∧ ∀ (i : Nat) v, σ[i]? = some (some v) → σ'[i]? = some (some v)
noncomputable def PTs (X : Cx) (ifs : List Expr) (t : TT) : Prop :=
  ∀ (pins : List (Addr × Obj)) (s : Shared) (σ : St) (H : Hp) (Q : Bool → Hp → Prop), Inv X pins σ H s → t σ H Q →
    wpAny (model X.prog X.w) X.A (forIn ifs true fun c r => if r = true then do let ok ← isTrue c X.env (eval c X.env); pure (ForInStep.yield ok) else pure (ForInStep.yield r)) (TP X pins σ Q) X.xe s
theorem pts_nil {X : Cx} : PTs X [] (fun _ H Q => Q true H) := fun _ _ _ H _ I h => wpAny_tests_nil ⟨H, I, h⟩
theorem pts_one {X : Cx} {c : Expr} {t : TT} (hc : PT X c t) : PTs X [c] t := fun pins s σ H Q I h => wpAny_tests_one (hc pins s σ H Q I h)
noncomputable def CompW (J : It) (σ' : St) (g : TG) (tt : TT) (te : TE) (D : Addr) (Fin : Hp → Prop) (H1 : Hp) : Prop :=
  ∃ W : Nat → Nat → Hp → Prop, (∃ m, W 0 m (upd H1 D (.lst []))) ∧ ∀ i m H, W i m H →
    (J.stop i H ∧ Fin H) ∨ (J.go i H ∧ ∃ Nx : Hp → Prop, (∀ H', Nx H' → ∃ m', m' < m ∧ W (i + 1) m' H') ∧ ∀ x H', J.yld i H x H' → g x σ' H' fun σ2 H2 => KeepsSt σ' σ2 ∧
      tt σ2 H2 fun ok H3 => if ok = true then te σ2 H3 fun y H4 => ∃ ys, H4 D = some (.lst ys) ∧ ys.length < sizeLine ∧ Nx (upd H4 D (.lst (ys ++ [y]))) else Nx H3)
noncomputable def tComp (mp : List (Option Nat)) (wi : TI) (g : TG) (tt : TT) (te : TE) : TE := fun σ H Q => wi σ H fun J H1 => ∀ D, H1 D = none → CompW J (inSt mp σ) g tt te D (fun H => Q (.ref D) H) H1
theorem codeAny_compLoop_gen {prog : Program} {w : World} {A : Around} {R : Result → Shared → Prop} {s : Shared} {elt target iter : Expr} {ifs : List Expr} {scope : Scope} {pos : Pos} {it acc : Value} {env : Env} (I : Nat → Shared → Prop)
    (turn : ∀ n s, I n s → wpAny (model prog w) A (pyNext it) (fun r s₁ => match r with
      | none => R (.ok .next) s₁
      | some v => wpAny (model prog w) A (letOwnedTupleGo target it v) (fun _ s₀ => wpAny (model prog w) A (assign target env v) (fun _ s₂ =>
          wpAny (model prog w) A (forIn ifs true fun c r => if r = true then do let ok ← isTrue c env (eval c env); pure (ForInStep.yield ok) else pure (ForInStep.yield r)) (fun ok s₃ =>
            if ok = true then wpAny (model prog w) A (eval elt env) (fun x s₄ =>
              wpAny (model prog w) A (call (.builtin "list.append") [acc, x]) (fun _ s₅ => ∃ m, m < n ∧ I m s₅) (fun _ _ => False) s₄) (fun _ _ => False) s₃
            else ∃ m, m < n ∧ I m s₃) (fun _ _ => False) s₂) (fun _ _ => False) s₀) (fun _ _ => False) s₁) (fun _ _ => False) s)
    (n : Nat) (h : I n s) :
    codeAny (model prog w) A (.compLoop (.ListComp elt [⟨target, iter, ifs, 0⟩] scope pos) 0 it acc env) R s := by
  refine codeAny_loop rfl I (fun n s hI => ?_) n h
  show wpAny _ A ((compTurn (.ListComp elt [⟨target, iter, ifs, 0⟩] scope pos) 0 it acc env).onRaise (fun x => do noteFrame x env; theTreesLotGoes x)) _ _ s
  refine wpAny_noted ?_
  rw [compTurn_list]
  have no : ∀ {P : Value → Shared → Prop} (e : Value) (s' : Shared), False → P e s' := fun _ _ f => f.elim
  refine wpAny_bind (wpAny_standAt (wpAny_bind (wpAny_mono (turn n s hI) (fun r s₁ h₁ => ?_) no)))
  cases r with
  | none => exact wpAny_pure h₁
  | some v =>
    refine wpAny_bind (wpAny_mono h₁ (fun _ s₀ h₀ => ?_) no)
    refine wpAny_bind (wpAny_mono h₀ (fun _ s₂ h₂ => wpAny_bind (wpAny_mono h₂ (fun ok s₃ h₃ => ?_) no)) no)
    cases ok with
    | false => exact wpAny_pure ⟨rfl, h₃⟩
    | true =>
      exact wpAny_bind (wpAny_bind (wpAny_mono h₃ (fun x s₄ h₄ => wpAny_bind (wpAny_mono h₄ (fun _ s₅ h₅ => wpAny_pure (wpAny_pure ⟨rfl, h₅⟩)) no)) no))
section
variable {X : Cx} {elt iter tg : Expr} {ifs : List Expr} {scope : Scope} {pos : Pos} {N' : List Str} {mp : List (Option Nat)} {wi : TI} {g : TG} {tt : TT} {te : TE}
theorem comp_block {pins : List (Addr × Obj)} {σ : St} {H : Hp} {s : Shared} {J : It} {it : Addr} {fp : List Addr} {tn : Nat → Heap → Prop} {Fin : Hp → Prop} {E : Value → Shared → Prop} {RR : Value → Addr → Result → Shared → Prop}
    (hc : X.calm = true) (ck : CompSc X scope N' mp) (hb : ∀ s H fp, PG (compCx X scope N' s H fp) tg g ∧ PTs (compCx X scope N' s H fp) ifs tt ∧ PE (compCx X scope N' s H fp) elt te)
    (I : Inv X pins σ H s) (T : Turn X.prog X.w X.K tg J fp it tn) (st : tn 0 s.heap) (hf : ∀ b ∈ fp, FpOk X pins H b) (hq : CompW J (inSt mp σ) g tt te s.heap.objs.size Fin H)
    (hRR : ∀ (C : Addr) (s' : Shared) (H' : Hp), Inv X pins σ H' s' → Fin H' → (∃ m, s'.heap.Ns C m) → H' C = none → C ≠ X.env.locals → X.s₀.heap.objs.size ≤ C → (∀ x c, X.env.cells.lookup x = some c → c ≠ C) → (∀ p ∈ X.pn ++ pins, p.1 ≠ C) → RR (.ref s.heap.objs.size) C (.ok .next) s') :
    wpAny (model X.prog X.w) X.A (newList []) (fun acc s₃ => wpAny (model X.prog X.w) X.A (newFunctionEnv scope X.env.globals (clOf scope X.env) [] X.env.qual none .none (some X.env)) (fun cenv s₄ =>
      codeAny (model X.prog X.w) X.A (.compStart (.ListComp elt [⟨tg, iter, ifs, 0⟩] scope pos) 0 (.ref it) acc { cenv with scope := relabel scope X.env }) (RR acc cenv.locals) s₄) E s₃) E s := by
  refine wpAny_newObj_type (wpAny_newFunctionEnv ck.nocell (by intro y hy; simp at hy) (fun h₁ hns₁ hsb₁ => ?_) ck.kind)
  dsimp only at hns₁ hsb₁ ⊢
  have I3 : Inv X pins σ (upd H s.heap.objs.size (.lst [])) { s with heap := s.heap.push { cls := .type "list", dict := none, data := .seq ([] : List Value).toArray } } := I.lnew (its := []) (t' := s.toks) .nil (Nat.zero_le _)
  generalize hs3 : ({ s with heap := s.heap.push { cls := .type "list", dict := none, data := .seq ([] : List Value).toArray } } : Shared) = s3 at I3
  have e3 : s.heap.push { cls := .type "list", dict := none, data := .seq ([] : List Value).toArray } = s3.heap := by rw [← hs3]
  rw [e3] at hns₁ hsb₁ ⊢
  have sz3 : s3.heap.objs.size = s.heap.objs.size + 1 := by rw [← e3, Heap.size_push]
  have le3 : s.heap.objs.size ≤ s3.heap.objs.size := by rw [sz3]; exact Nat.le_succ _
  have fplt : ∀ b ∈ fp, b < s.heap.objs.size := fun b hb => by
    obtain ⟨o, e, _⟩ := T.obj 0 _ st b hb
    exact Heap.lt_size e
  have hf3 : ∀ b ∈ fp, FpOk X pins (upd H s.heap.objs.size (.lst [])) b := fun b hb => ⟨by rw [upd_ne (Nat.ne_of_lt (fplt b hb))]; exact (hf b hb).1, (hf b hb).2⟩
  have k1 : ∀ b o, s3.heap.get? b = some o → h₁.get? b = some o := fun b o e => by
    rw [hsb₁.2 b (Nat.ne_of_lt (Heap.lt_size e))]
    exact Heap.get?_push_of_some _ e
  have k0 : ∀ b o, s.heap.get? b = some o → h₁.get? b = some o := fun b o e => k1 b o (by rw [← e3]; exact Heap.get?_push_of_some _ e)
  obtain ⟨W, ⟨m0, w0⟩, turn⟩ := hq
  obtain ⟨hg, ht, he⟩ := hb s3 (upd H s.heap.objs.size (.lst [])) fp
  have no : ∀ {P : Value → Shared → Prop} (e : Value) (s' : Shared), False → P e s' := fun _ _ f => f.elim
  have stat : ∀ {H' : Hp}, (∀ b ∈ fp, H' b = none) → ∀ b ∈ fp, FpOk (compCx X scope N' s3 (upd H s.heap.objs.size (.lst [])) fp) [] H' b := fun hn b hb =>
    ⟨hn b hb, Nat.ne_of_lt (Nat.lt_of_lt_of_le (fplt b hb) le3), fun z => by
      rcases List.mem_cons.mp (I3.stkSub b z) with z | z
      · exact (hf b hb).2.1 z
      · exact (hf b hb).2.2.1 z, .inl hb, fun x c e => (hf b hb).2.2.2.2.1 x c (clOf_in (ck.cells I.ok) e), fun p hp => absurd (show p ∈ ([] : List (Addr × Obj)) from hp) (by simp)⟩
  have loop : ∀ tk : Nat, codeAny (model X.prog X.w) X.A (.compLoop (.ListComp elt [⟨tg, iter, ifs, 0⟩] scope pos) 0 (.ref it) (.ref s.heap.objs.size) (compEnvC scope (clOf scope X.env) s3.heap.objs.size X.env))
      (RR (.ref s.heap.objs.size) s3.heap.objs.size) { s3 with heap := h₁, toks := tk } := by
    intro tk
    have I4 : Inv (compCx X scope N' s3 (upd H s.heap.objs.size (.lst [])) fp) [] (inSt mp σ) (upd H s.heap.objs.size (.lst [])) { s3 with heap := h₁, toks := tk } :=
      I3.inner ck hf3 (fun b hb => Nat.lt_of_lt_of_le (fplt b hb) le3) (by simpa using hns₁) k1
    refine codeAny_compLoop_gen (fun n s' => ∃ i H', Inv (compCx X scope N' s3 (upd H s.heap.objs.size (.lst [])) fp) [] (inSt mp σ) H' s' ∧ tn i s'.heap ∧ (∀ b ∈ fp, H' b = none) ∧ W i n H') ?_ m0
      ⟨0, _, I4, T.keep _ _ _ st fun b _ o e => k0 b o e, fun b hb => (hf3 b hb).1, w0⟩
    rintro n s5 ⟨i, H5, I5, st5, fr5, w5⟩
    rcases turn i n H5 w5 with ⟨stop, fin⟩ | ⟨go, Nx, hN, step⟩
    · refine thn (T.done (compCx X scope N' s3 (upd H s.heap.objs.size (.lst [])) fp) rfl rfl rfl hc i [] s5 (inSt mp σ) H5 _ I5 (stat fr5) st5 stop) fun r s6 ⟨hr, I6⟩ => ?_
      subst hr
      have IO : Inv X pins σ H5 s6 := I3.outer hf3 I6
      obtain ⟨m, hm, _⟩ := I6.loc
      refine hRR _ s6 H5 IO fin ⟨m, hm⟩ I6.free (Nat.ne_of_gt I3.lt) I3.sz (fun x c e => ?_) fun p hp => ?_
      · obtain ⟨v, q⟩ := I3.cell x c e
        exact Nat.ne_of_lt q.lt
      · exact Nat.ne_of_lt (Heap.lt_size (I3.pin p hp).1)
    · refine thn (T.item (compCx X scope N' s3 (upd H s.heap.objs.size (.lst [])) fp) rfl rfl rfl hc i [] s5 (inSt mp σ) H5 _ I5 (stat fr5) st5 go) fun r s6 ⟨u, hr, h6⟩ => ?_
      subst hr
      refine thn h6 fun _ s7 ⟨x, H7, I7, r7, y7, st7, fr7⟩ => ?_
      have I7' := I7.pinned (stat fr7) (T.obj _ _ st7)
      have back : ∀ {σ9 : St} {H9 : Hp} {s9 : Shared}, Inv (compCx X scope N' s3 (upd H s.heap.objs.size (.lst [])) fp) ([] ++ pinsAt fp s7.heap) σ9 H9 s9 → KeepsSt (inSt mp σ) σ9 → Nx H9 →
          ∃ m, m < n ∧ ∃ i H', Inv (compCx X scope N' s3 (upd H s.heap.objs.size (.lst [])) fp) [] (inSt mp σ) H' s9 ∧ tn i s9.heap ∧ (∀ b ∈ fp, H' b = none) ∧ W i m H' := fun {σ9 H9 s9} I9 ks n9 => by
        obtain ⟨m', hm, w9⟩ := hN H9 n9
        refine ⟨m', hm, i + 1, H9, (Inv.unpinned (pins := []) I9).weak ks.1.symm ks.2, T.keep _ _ _ st7 fun b hb o e => (I9.pin (b, o) (List.mem_append_right _ (List.mem_append_right _ (mem_pinsAt hb e)))).1, fun b hb => ?_, w9⟩
        obtain ⟨o, e, d⟩ := T.obj _ _ st7 b hb
        exact (I9.pin (b, o) (List.mem_append_right _ (List.mem_append_right _ (mem_pinsAt hb e)))).2.1
      refine thn (hg _ s7 (inSt mp σ) H7 x u _ I7' r7 (step x H7 y7)) fun _ s8 ⟨σ8, H8, I8, ks, q8⟩ => ?_
      refine thn (ht _ s8 σ8 H8 _ I8 q8) fun ok s9 ⟨H9, I9, q9⟩ => ?_
      cases ok with
      | false =>
        rw [if_neg Bool.false_ne_true] at q9 ⊢
        exact back I9 ks q9
      | true =>
        rw [if_pos rfl] at q9 ⊢
        refine thn (he _ s9 σ8 H9 _ I9 q9) fun y s10 ⟨yv, H10, I10, r10, ys, hD, hlen, nx⟩ => ?_
        refine thn (mt_append _ s10 σ8 H10 (.ref s.heap.objs.size) [yv] (.ref s.heap.objs.size) [y] (fun _ H' => Nx H') I10 rfl (.cons r10 .nil) ⟨_, ys, yv, rfl, rfl, hD, hlen, nx⟩) fun z s11 ⟨zv, H11, I11, _, n11⟩ => ?_
        exact back I11 ks n11
  subst hs3
  exact codeAny_compStart_list (loop _) (T.self _ 0 _ _ _ (T.keep _ _ _ st fun b _ o e => k0 b o e) (loop _))
theorem pe_comp (hc : X.calm = true) (ck : CompSc X scope N' mp) (hi : PI X tg iter wi)
    (hb : ∀ s H fp, PG (compCx X scope N' s H fp) tg g ∧ PTs (compCx X scope N' s H fp) ifs tt ∧ PE (compCx X scope N' s H fp) elt te)
    (hs : ∀ x, foldedSetIterable iter X.env x = pure x := by intro _; rfl) : PE X (.ListComp elt [⟨tg, iter, ifs, 0⟩] scope pos) (tComp mp wi g tt te) := by
  intro pins s σ H Q I h
  rw [eval_ListComp]
  refine wpAny_comprehension_free (use := none) rfl hs (closureFor_eq (ck.cells I.ok)) ck.kind ck.names ?_
  refine thn (hi pins s σ H _ I h) fun v s1 h1 => thn h1 fun itv s2 h2 => ?_
  obtain ⟨it, fp, tn, J, H2, e, I2, T, st2, f2, q2⟩ := h2
  subst e
  refine comp_block hc ck hb I2 T st2 f2 (q2 _ (I2.hok.fresh (Nat.le_refl _))) fun C s' H' I' fin hm hC h1 h2 h3 h4 => ?_
  obtain ⟨m, hm⟩ := hm
  refine ⟨m, hm, fun h' sb => ⟨.ref _, H', ?_, rfl, fin⟩⟩
  exact I'.turned (t' := s'.toks) (fun b o hb e => (sb.2 b hb).trans e) hC h1 (.inr h2) h3 h4
theorem ps_setComp {i : Nat} {y : Str} {py spos : Pos} (hc : X.calm = true) (hN : X.N.Nodup) (hiy : X.N[i]? = some y) (hy : X.env.scope.names.lookup y = some .local) (ck : CompSc X scope N' mp) (hi : PI X tg iter wi)
    (hb : ∀ s H fp, PG (compCx X scope N' s H fp) tg g ∧ PTs (compCx X scope N' s H fp) ifs tt ∧ PE (compCx X scope N' s H fp) elt te)
    (hsw : swapsWith (.ListComp elt [⟨tg, iter, ifs, 0⟩] scope pos) (some (.Name y py)) spos.line X.env = pure true := by rfl)
    (hs : ∀ x, foldedSetIterable iter X.env x = pure x := by intro _; rfl) :
    PS X (.Assign [.Name y py] (.ListComp elt [⟨tg, iter, ifs, 0⟩] scope pos) spos) (tAsg (tComp mp wi g tt te) (gName i)) := by
  intro pins s σ H D I h
  rw [exec_Assign_Name_used _ _ _ _ hsw]
  refine wpAny_bind (wpAny_standAt (wpAny_bind ?_))
  show wpAny _ X.A (do let _ ← comprehension (.ListComp elt [⟨tg, iter, ifs, 0⟩] scope pos) scope X.env _ (newList []) false (eval iter X.env) (some (assign (.Name y py) X.env))) _ _ s
  refine wpAny_bind (wpAny_mono (wpAny_comprehension_free (use := some (assign (.Name y py) X.env)) (Q := fun _ s' => SP X pins D .next s') rfl hs (closureFor_eq (ck.cells I.ok)) ck.kind ck.names ?_) (fun _ s' hq => wpAny_pure (wpAny_pure hq)) fun _ _ e => e)
  refine thn (hi pins s σ H _ I h) fun v s1 h1 => thn h1 fun itv s2 h2 => ?_
  obtain ⟨it, fp, tn, J, H2, e, I2, T, st2, f2, q2⟩ := h2
  subst e
  refine comp_block hc ck hb I2 T st2 f2 (q2 _ (I2.hok.fresh (Nat.le_refl _))) fun C s' H' I' fin hm hC h1 h2 h3 h4 => ?_
  obtain ⟨m, hm⟩ := hm
  refine wpAny_assign_Name (store_ok2 (v := .ref s2.heap.objs.size) I' hN hiy (.inl hy) rfl (fun s'' I'' ⟨a, sb, ha⟩ => ?_) (.inr hy))
  have hCa : C ≠ a := by
    rcases ha with ha | ha
    · rw [ha]; exact h1
    · exact fun z => h3 _ _ ha z.symm
  refine ⟨m, hm.sameBut sb hCa, fun h' sb' => ⟨_, H', ?_, fin⟩⟩
  exact I''.turned (t' := s''.toks) (fun b o hb e => (sb'.2 b hb).trans e) hC h1 (.inr h2) h3 h4
end
end L2
namespace L2.PU
open PySem PySem.Spec PyProof.Rows
noncomputable def nst : Expr → Bool
  | .Starred _ _ => false
  | _ => true
theorem star_of {e : Expr} {es : List Expr} {env : Env} (h : nst e = true) : starEach (e :: es) env = (false, eval e env) :: starEach es env := by
  cases e <;> first | rfl | cases h
theorem plain_of {pos : Pos} {env : Env} : ∀ {es : List Expr}, es.all nst = true → (backTo pos (starEach es env)).any (·.1) = false
  | [], _ => rfl
  | e :: es, h => by
    rw [List.all_cons, Bool.and_eq_true] at h
    rw [star_of h.1]
    show (false || (backTo pos (starEach es env)).any (·.1)) = false
    rw [plain_of h.2]; rfl
noncomputable def kD : Key → PyData
  | .inl i => .int i
  | .inr x => .str x
mutual
noncomputable def Rel (K : PySem.W.Frag) (F : Hp) : PyData → V → Prop
  | .none, v => v = .non
  | .bool b, v => v = .bl b
  | .int i, v => v = .int i
  | .str x, v => v = .str x
  | .tuple ds, v => ∃ a xs, v = .ref a ∧ SqT K F a xs ∧ RelL K F ds xs
  | .list ds, v => ∃ a xs, v = .ref a ∧ SqL K F a xs ∧ RelL K F ds xs
  | .dict es, v => ∃ a ks, v = .ref a ∧ Rd F a (.dK ks) ∧ RelD K F es ks
noncomputable def RelL (K : PySem.W.Frag) (F : Hp) : List PyData → List V → Prop
  | [], xs => xs = []
  | d :: ds, xs => ∃ x r, xs = x :: r ∧ Rel K F d x ∧ RelL K F ds r
noncomputable def RelD (K : PySem.W.Frag) (F : Hp) : List (PyData × PyData) → List (Key × V) → Prop
  | [], ks => ks = []
  | (d, e) :: es, ks => ∃ k x r, ks = (k, x) :: r ∧ d = kD k ∧ Rel K F e x ∧ RelD K F es r
end
section
variable {K : PySem.W.Frag} {F F' H H' : Hp}
theorem same_seqT {a : Addr} {xs : List V} (e : Same H H') (h : SqT K H a xs) : SqT K H' a xs := by
  rcases h with (h | ⟨o, h⟩) | h
  · exact .inl (.inl (e _ _ h))
  · exact .inl (.inr ⟨o, e _ _ h⟩)
  · exact .inr h
theorem rd_mono {a : Addr} {u : HO} (e : Same F F') (h : Rd F a u) : Rd F' a u := h.elim (fun h => .inl (e _ _ h)) fun ⟨o, h⟩ => .inr ⟨o, e _ _ h⟩
theorem same_new {p : Addr} (h : H p = none) (o : HO) : Same H (upd H p o) := fun b u q => by rw [upd_ne (ne_of_none q h)]; exact q
mutual
theorem Rel.mono (e : Same F F') : ∀ {d : PyData} {v : V}, Rel K F d v → Rel K F' d v
  | .none, v, h => by unfold Rel at h ⊢; exact h
  | .bool b, v, h => by unfold Rel at h ⊢; exact h
  | .int i, v, h => by unfold Rel at h ⊢; exact h
  | .str x, v, h => by unfold Rel at h ⊢; exact h
  | .tuple ds, v, h => by
    unfold Rel at h ⊢
    obtain ⟨a, xs, h1, h2, h3⟩ := h
    exact ⟨a, xs, h1, same_seqT e h2, RelL.mono e h3⟩
  | .list ds, v, h => by
    unfold Rel at h ⊢
    obtain ⟨a, xs, h1, h2, h3⟩ := h
    exact ⟨a, xs, h1, e.seq h2, RelL.mono e h3⟩
  | .dict es, v, h => by
    unfold Rel at h ⊢
    obtain ⟨a, ks, h1, h2, h3⟩ := h
    exact ⟨a, ks, h1, rd_mono e h2, RelD.mono e h3⟩
theorem RelL.mono (e : Same F F') : ∀ {ds : List PyData} {xs : List V}, RelL K F ds xs → RelL K F' ds xs
  | [], xs, h => by unfold RelL at h ⊢; exact h
  | d :: ds, xs, h => by
    unfold RelL at h ⊢
    obtain ⟨x, r, h1, h2, h3⟩ := h
    exact ⟨x, r, h1, Rel.mono e h2, RelL.mono e h3⟩
theorem RelD.mono (e : Same F F') : ∀ {es : List (PyData × PyData)} {ks : List (Key × V)}, RelD K F es ks → RelD K F' es ks
  | [], ks, h => by unfold RelD at h ⊢; exact h
  | (d, e') :: es, ks, h => by
    unfold RelD at h ⊢
    obtain ⟨k, x, r, h1, h2, h3, h4⟩ := h
    exact ⟨k, x, r, h1, h2, Rel.mono e h3, RelD.mono e h4⟩
end
theorem Rel.dct {es : List (PyData × PyData)} {v : V} (h : Rel K F (.dict es) v) : ∃ a ks, v = .ref a ∧ Rd F a (.dK ks) ∧ RelD K F es ks := by unfold Rel at h; exact h
theorem rel_dct {es : List (PyData × PyData)} {a : Addr} {ks : List (Key × V)} (h : Rd F a (.dK ks)) (r : RelD K F es ks) : Rel K F (.dict es) (.ref a) := by unfold Rel; exact ⟨a, ks, rfl, h, r⟩
theorem RelD.nil : RelD K F [] [] := by unfold RelD; rfl
theorem RelD.cons {k : Key} {e : PyData} {x : V} {es : List (PyData × PyData)} {ks : List (Key × V)} (h : Rel K F e x) (t : RelD K F es ks) : RelD K F ((kD k, e) :: es) ((k, x) :: ks) := by unfold RelD; exact ⟨k, x, ks, rfl, rfl, h, t⟩
noncomputable def prs (kvs : List (Key × PyData)) : List (PyData × PyData) := kvs.map fun e => (kD e.1, e.2)
theorem RelL.nil : RelL K F [] [] := by unfold RelL; rfl
theorem RelL.cons {d : PyData} {ds : List PyData} {x : V} {xs : List V} (h : Rel K F d x) (t : RelL K F ds xs) : RelL K F (d :: ds) (x :: xs) := by unfold RelL; exact ⟨x, xs, rfl, h, t⟩
theorem RelL.nil_of {xs : List V} (h : RelL K F [] xs) : xs = [] := by unfold RelL at h; exact h
theorem RelL.cons_of {d : PyData} {ds : List PyData} {xs : List V} (h : RelL K F (d :: ds) xs) : ∃ x r, xs = x :: r ∧ Rel K F d x ∧ RelL K F ds r := by unfold RelL at h; exact h
theorem RelL.length : ∀ {ds : List PyData} {xs : List V}, RelL K F ds xs → xs.length = ds.length
  | [], xs, h => by rw [h.nil_of]; rfl
  | d :: ds, xs, h => by
    obtain ⟨x, r, rfl, _, h3⟩ := h.cons_of
    rw [List.length_cons, List.length_cons, RelL.length h3]
theorem RelL.append : ∀ {ds es : List PyData} {xs ys : List V}, RelL K F ds xs → RelL K F es ys → RelL K F (ds ++ es) (xs ++ ys)
  | [], es, xs, ys, h, k => by rw [h.nil_of]; exact k
  | d :: ds, es, xs, ys, h, k => by
    obtain ⟨x, r, rfl, h2, h3⟩ := h.cons_of
    exact RelL.cons h2 (RelL.append h3 k)
theorem RelL.get : ∀ {ds : List PyData} {xs : List V} {i : Nat} {d : PyData}, RelL K F ds xs → ds[i]? = some d → ∃ x, xs[i]? = some x ∧ Rel K F d x
  | [], _, _, _, _, e => by simp at e
  | d :: ds, xs, 0, _, h, e => by
    obtain ⟨x, r, rfl, h2, h3⟩ := h.cons_of
    have e' : d = _ := Option.some.inj e
    exact ⟨x, rfl, e' ▸ h2⟩
  | d :: ds, xs, i + 1, d', h, e => by
    obtain ⟨x, r, rfl, h2, h3⟩ := h.cons_of
    exact RelL.get (i := i) h3 (by simpa using e)
theorem RelL.take : ∀ {ds : List PyData} {xs : List V} (n : Nat), RelL K F ds xs → RelL K F (ds.take n) (xs.take n)
  | _, _, 0, _ => by rw [List.take_zero, List.take_zero]; exact .nil
  | [], xs, n + 1, h => by rw [h.nil_of]; exact .nil
  | d :: ds, xs, n + 1, h => by
    obtain ⟨x, r, rfl, h2, h3⟩ := h.cons_of
    exact RelL.cons h2 (RelL.take n h3)
theorem RelL.drop : ∀ {ds : List PyData} {xs : List V} (n : Nat), RelL K F ds xs → RelL K F (ds.drop n) (xs.drop n)
  | _, _, 0, h => by simpa using h
  | [], xs, n + 1, h => by rw [h.nil_of]; exact .nil
  | d :: ds, xs, n + 1, h => by
    obtain ⟨x, r, rfl, h2, h3⟩ := h.cons_of
    exact RelL.drop n h3
theorem Rel.non {v : V} (h : Rel K F .none v) : v = .non := by unfold Rel at h; exact h
theorem Rel.bl {b : Bool} {v : V} (h : Rel K F (.bool b) v) : v = .bl b := by unfold Rel at h; exact h
theorem Rel.int {i : Int} {v : V} (h : Rel K F (.int i) v) : v = .int i := by unfold Rel at h; exact h
theorem Rel.str {x : Str} {v : V} (h : Rel K F (.str x) v) : v = .str x := by unfold Rel at h; exact h
theorem Rel.tup {ds : List PyData} {v : V} (h : Rel K F (.tuple ds) v) : ∃ a xs, v = .ref a ∧ SqT K F a xs ∧ RelL K F ds xs := by unfold Rel at h; exact h
theorem Rel.lst {ds : List PyData} {v : V} (h : Rel K F (.list ds) v) : ∃ a xs, v = .ref a ∧ SqL K F a xs ∧ RelL K F ds xs := by unfold Rel at h; exact h
theorem rel_non : Rel K F .none .non := by unfold Rel; rfl
theorem rel_bl {b : Bool} : Rel K F (.bool b) (.bl b) := by unfold Rel; rfl
theorem rel_int {i : Int} : Rel K F (.int i) (.int i) := by unfold Rel; rfl
theorem rel_str {x : Str} : Rel K F (.str x) (.str x) := by unfold Rel; rfl
theorem rel_tup {ds : List PyData} {a : Addr} {xs : List V} (h : SqT K F a xs) (r : RelL K F ds xs) : Rel K F (.tuple ds) (.ref a) := by unfold Rel; exact ⟨a, xs, rfl, h, r⟩
theorem rel_lst {ds : List PyData} {a : Addr} {xs : List V} (h : SqL K F a xs) (r : RelL K F ds xs) : Rel K F (.list ds) (.ref a) := by unfold Rel; exact ⟨a, xs, rfl, h, r⟩
theorem RelL.ints : ∀ (ns : List Int), RelL K F (ns.map PyData.int) (ns.map V.int)
  | [] => .nil
  | _ :: r => .cons rel_int (RelL.ints r)
structure Gr (F H F' H' : Hp) : Prop where
  ff : Same F F'
  hh : Same H H'
  fh : Same F' H'
  new : ∀ b, F' b ≠ none → F b ≠ none ∨ H b = none
theorem Gr.refl (h : Same F H) : Gr F H F H := ⟨.refl _, .refl _, h, fun _ q => .inl q⟩
theorem Gr.trans {F1 H1 F2 H2 : Hp} (a : Gr F H F1 H1) (b : Gr F1 H1 F2 H2) : Gr F H F2 H2 :=
  ⟨a.ff.trans b.ff, a.hh.trans b.hh, b.fh, fun c q => (b.new c q).elim (fun q => a.new c q) fun q => .inr (a.hh.free q)⟩
theorem Gr.one {p : Addr} {o : HO} (h : Same F H) (hp : H p = none) : Gr F H (upd F p o) (upd H p o) where
  ff := same_new (h.free hp) o
  hh := same_new hp o
  fh := fun b u q => by
    by_cases e : b = p
    · subst e; rw [upd_same] at q ⊢; exact q
    · rw [upd_ne e] at q ⊢; exact h _ _ q
  new := fun b q => by
    by_cases e : b = p
    · subst e; exact .inr hp
    · rw [upd_ne e] at q; exact .inl q
end
inductive Sl where
  | un
  | val (d : PyData)
  | own (ds : List PyData)
  | odc (kvs : List (Key × PyData))
  | ob (fs : Str → Option PyData)
noncomputable abbrev En := List Sl
noncomputable def isOwn : Sl → Bool
  | .own _ => true
  | .odc _ => true
  | _ => false
noncomputable def CellR (K : PySem.W.Frag) (F : Hp) : Sl → HO → Prop
  | .own ds, o => ∃ xs, o = .lst xs ∧ RelL K F ds xs
  | .odc kvs, o => ∃ ks, o = .dK ks ∧ RelD K F (prs kvs) ks
  | _, _ => False
noncomputable def ObF (K : PySem.W.Frag) (C : Addr) (F : Hp) (fs : Str → Option PyData) (xs : List (Str × V)) : Prop := ∀ f d, fs f = some d → NoAttr K C f ∧ ∃ v, xs.lookup f = some v ∧ Rel K F d v
structure EnR (K : PySem.W.Frag) (He F H : Hp) (σ : St) (η : En) : Prop where
  len : η.length = σ.length
  val : ∀ (i : Nat) d, η[i]? = some (.val d) → ∃ v, σ[i]? = some (some v) ∧ Rel K F d v
  cel : ∀ (i : Nat) sl, η[i]? = some sl → isOwn sl = true → ∃ p o, σ[i]? = some (some (.ref p)) ∧ F p = none ∧ He p = none ∧ H p = some o ∧ CellR K F sl o
  apart : ∀ (i j : Nat) a b, η[i]? = some a → η[j]? = some b → isOwn a = true → isOwn b = true → i ≠ j → σ[i]? ≠ σ[j]?
  obs : ∀ (i : Nat) fs, η[i]? = some (.ob fs) → ∃ p C dx xs, σ[i]? = some (some (.ref p)) ∧ H p = some (.ins C dx xs) ∧ Cls K C ∧ ObF K C F fs xs
structure Bd where
  F : Hp
  H : Hp
structure SR (K : PySem.W.Frag) (B : Bd) (F H : Hp) (σ : St) (η : En) : Prop where
  gr : Gr B.F B.H F H
  en : EnR K B.H F H σ η
section
variable {K : PySem.W.Frag} {B : Bd} {F H F' H' : Hp} {σ : St} {η : En}
theorem CellR.mono (e : Same F F') : ∀ {sl : Sl} {o : HO}, CellR K F sl o → CellR K F' sl o
  | .own _, _, ⟨xs, h1, h2⟩ => ⟨xs, h1, h2.mono e⟩
  | .odc _, _, ⟨xs, h1, h2⟩ => ⟨xs, h1, h2.mono e⟩
  | .un, _, h => h.elim
  | .val _, _, h => h.elim
  | .ob _, _, h => h.elim
theorem ObF.mono {C : Addr} {fs : Str → Option PyData} {xs : List (Str × V)} (e : Same F F') (h : ObF K C F fs xs) : ObF K C F' fs xs := fun f d q => let ⟨a, v, b, c⟩ := h f d q; ⟨a, v, b, c.mono e⟩
theorem CellR.noins {sl : Sl} {o : HO} (h : CellR K F sl o) (C dx : Addr) (xs : List (Str × V)) : o ≠ .ins C dx xs := by
  cases sl with
  | own ds => obtain ⟨ys, rfl, _⟩ := h; intro z; cases z
  | odc ds => obtain ⟨ys, rfl, _⟩ := h; intro z; cases z
  | un => exact h.elim
  | val _ => exact h.elim
  | ob _ => exact h.elim
theorem EnR.own {He : Hp} (r : EnR K He F H σ η) (i : Nat) (ds : List PyData) (e : η[i]? = some (.own ds)) : ∃ p xs, σ[i]? = some (some (.ref p)) ∧ F p = none ∧ He p = none ∧ H p = some (.lst xs) ∧ RelL K F ds xs := by
  obtain ⟨p, o, h1, h2, h3, h4, xs, rfl, h5⟩ := r.cel i _ e rfl
  exact ⟨p, xs, h1, h2, h3, h4, h5⟩
theorem EnR.odc {He : Hp} (r : EnR K He F H σ η) (i : Nat) (kvs : List (Key × PyData)) (e : η[i]? = some (.odc kvs)) : ∃ p ks, σ[i]? = some (some (.ref p)) ∧ F p = none ∧ He p = none ∧ H p = some (.dK ks) ∧ RelD K F (prs kvs) ks := by
  obtain ⟨p, o, h1, h2, h3, h4, xs, rfl, h5⟩ := r.cel i _ e rfl
  exact ⟨p, xs, h1, h2, h3, h4, h5⟩
theorem EnR.grow {He : Hp} (r : EnR K He F H σ η) (g : Gr F H F' H') : EnR K He F' H' σ η where
  len := r.len
  val := fun i d e => let ⟨v, e1, e2⟩ := r.val i d e; ⟨v, e1, e2.mono g.ff⟩
  cel := fun i sl e hs => by
    obtain ⟨p, o, e1, e2, e3, e4, e5⟩ := r.cel i sl e hs
    refine ⟨p, o, e1, ?_, e3, g.hh _ _ e4, e5.mono g.ff⟩
    cases q : F' p with
    | none => rfl
    | some o =>
      rcases g.new p (by rw [q]; simp) with z | z
      · exact absurd e2 z
      · rw [e4] at z; cases z
  apart := r.apart
  obs := fun i fs e => let ⟨p, C, dx, xs, e1, e2, e3, e4⟩ := r.obs i fs e; ⟨p, C, dx, xs, e1, g.hh _ _ e2, e3, e4.mono g.ff⟩
theorem SR.grow (r : SR K B F H σ η) (g : Gr F H F' H') : SR K B F' H' σ η := ⟨r.gr.trans g, r.en.grow g⟩
theorem SR.same (r : SR K B F H σ η) : Same F H := r.gr.fh
theorem EnR.set {He : Hp} (r : EnR K He F H σ η) (i : Nat) {d : PyData} {v : V} (h : Rel K F d v) : EnR K He F H (σ.set i (some v)) (η.set i (.val d)) where
  len := by rw [List.length_set, List.length_set]; exact r.len
  val := fun j d' e => by
    by_cases hj : i = j
    · subst hj
      by_cases hl : i < η.length
      · rw [List.getElem?_set_self hl] at e
        have e' : d = d' := by injection (Option.some.inj e)
        subst e'
        exact ⟨v, by rw [List.getElem?_set_self (by rw [← r.len]; exact hl)], h⟩
      · rw [List.getElem?_eq_none (by rw [List.length_set]; omega)] at e; cases e
    · rw [List.getElem?_set_ne hj] at e ⊢; exact r.val j d' e
  cel := fun j sl e hs => by
    by_cases hj : i = j
    · subst hj
      by_cases hl : i < η.length
      · rw [List.getElem?_set_self hl] at e
        have e' : Sl.val d = sl := Option.some.inj e
        subst e'
        cases hs
      · rw [List.getElem?_eq_none (by rw [List.length_set]; omega)] at e; cases e
    · rw [List.getElem?_set_ne hj] at e ⊢; exact r.cel j sl e hs
  apart := fun j k a b ej ek ha hb hjk => by
    have no : ∀ (j : Nat) a, (η.set i (.val d))[j]? = some a → isOwn a = true → i ≠ j := fun j a ej ha hj => by
      subst hj
      by_cases hl : i < η.length
      · rw [List.getElem?_set_self hl] at ej
        have e' : Sl.val d = a := Option.some.inj ej
        subst e'
        cases ha
      · rw [List.getElem?_eq_none (by rw [List.length_set]; omega)] at ej; cases ej
    have nj := no j a ej ha
    have nk := no k b ek hb
    rw [List.getElem?_set_ne nj] at ej ⊢
    rw [List.getElem?_set_ne nk] at ek ⊢
    exact r.apart j k a b ej ek ha hb hjk
  obs := fun j fs e => by
    by_cases hj : i = j
    · subst hj
      by_cases hl : i < η.length
      · rw [List.getElem?_set_self hl] at e; cases e
      · rw [List.getElem?_eq_none (by rw [List.length_set]; omega)] at e; cases e
    · rw [List.getElem?_set_ne hj] at e ⊢; exact r.obs j fs e
theorem EnR.setCell {He : Hp} (r : EnR K He F H σ η) (i : Nat) {sl : Sl} {p : Addr} {o : HO} (hsl : isOwn sl = true) (h1 : F p = none) (h2 : He p = none) (h3 : H p = some o) (h4 : CellR K F sl o)
    (h5 : ∀ (j : Nat), σ[j]? = some (some (.ref p)) → ∀ a, η[j]? = some a → isOwn a = false) : EnR K He F H (σ.set i (some (.ref p))) (η.set i sl) where
  len := by rw [List.length_set, List.length_set]; exact r.len
  val := fun j d' e => by
    by_cases hj : i = j
    · subst hj
      by_cases hl : i < η.length
      · rw [List.getElem?_set_self hl] at e
        have e' : sl = .val d' := Option.some.inj e
        subst e'
        cases hsl
      · rw [List.getElem?_eq_none (by rw [List.length_set]; omega)] at e; cases e
    · rw [List.getElem?_set_ne hj] at e ⊢; exact r.val j d' e
  cel := fun j a e ha => by
    by_cases hj : i = j
    · subst hj
      by_cases hl : i < η.length
      · rw [List.getElem?_set_self hl] at e
        have e' : sl = a := Option.some.inj e
        subst e'
        exact ⟨p, o, by rw [List.getElem?_set_self (by rw [← r.len]; exact hl)], h1, h2, h3, h4⟩
      · rw [List.getElem?_eq_none (by rw [List.length_set]; omega)] at e; cases e
    · rw [List.getElem?_set_ne hj] at e ⊢; exact r.cel j a e ha
  apart := fun j k a b ej ek ha hb hjk => by
    by_cases hj : i = j
    · subst hj
      have hl : i < η.length := by
        by_cases hl : i < η.length
        · exact hl
        · rw [List.getElem?_eq_none (by rw [List.length_set]; omega)] at ej; cases ej
      rw [List.getElem?_set_ne hjk] at ek ⊢
      rw [List.getElem?_set_self (by rw [← r.len]; exact hl)]
      exact fun z => by rw [h5 k z.symm b ek] at hb; cases hb
    · by_cases hk : i = k
      · subst hk
        have hl : i < η.length := by
          by_cases hl : i < η.length
          · exact hl
          · rw [List.getElem?_eq_none (by rw [List.length_set]; omega)] at ek; cases ek
        rw [List.getElem?_set_ne hj] at ej ⊢
        rw [List.getElem?_set_self (by rw [← r.len]; exact hl)]
        exact fun z => by rw [h5 j z a ej] at ha; cases ha
      · rw [List.getElem?_set_ne hj] at ej ⊢
        rw [List.getElem?_set_ne hk] at ek ⊢
        exact r.apart j k a b ej ek ha hb hjk
  obs := fun j fs e => by
    by_cases hj : i = j
    · subst hj
      by_cases hl : i < η.length
      · rw [List.getElem?_set_self hl] at e
        have e' : sl = .ob fs := Option.some.inj e
        subst e'
        cases hsl
      · rw [List.getElem?_eq_none (by rw [List.length_set]; omega)] at e; cases e
    · rw [List.getElem?_set_ne hj] at e ⊢; exact r.obs j fs e
theorem EnR.setOwn {He : Hp} (r : EnR K He F H σ η) (i : Nat) {ds : List PyData} {p : Addr} {xs : List V} (h1 : F p = none) (h2 : He p = none) (h3 : H p = some (.lst xs)) (h4 : RelL K F ds xs)
    (h5 : ∀ (j : Nat), σ[j]? = some (some (.ref p)) → ∀ a, η[j]? = some a → isOwn a = false) : EnR K He F H (σ.set i (some (.ref p))) (η.set i (.own ds)) := r.setCell i rfl h1 h2 h3 ⟨xs, rfl, h4⟩ h5
theorem EnR.notown {He : Hp} (r : EnR K He F H σ η) {p : Addr} (h : H p = none) : ∀ (j : Nat), σ[j]? = some (some (.ref p)) → ∀ a, η[j]? = some a → isOwn a = false := fun j e a z => by
  cases ha : isOwn a with
  | false => rfl
  | true =>
    obtain ⟨q, o, e1, _, _, e4, _⟩ := r.cel j a z ha
    rw [e] at e1
    have : p = q := by injection (Option.some.inj (Option.some.inj e1))
    rw [this, e4] at h; cases h
theorem EnR.putCell {He : Hp} (r : EnR K He F H σ η) {i : Nat} {sl sl' : Sl} {p : Addr} {o : HO} (hi : η[i]? = some sl) (hs : isOwn sl = true) (hs' : isOwn sl' = true) (hσ : σ[i]? = some (some (.ref p))) (h4 : CellR K F sl' o) :
    EnR K He F (upd H p o) σ (η.set i sl') where
  len := by rw [List.length_set]; exact r.len
  val := fun j d' e => by
    by_cases hj : i = j
    · subst hj
      rw [List.getElem?_set_self (List.getElem?_eq_some_iff.mp hi).1] at e
      have e' : sl' = .val d' := Option.some.inj e
      subst e'
      cases hs'
    · rw [List.getElem?_set_ne hj] at e; exact r.val j d' e
  cel := fun j a e ha => by
    by_cases hj : i = j
    · subst hj
      rw [List.getElem?_set_self (List.getElem?_eq_some_iff.mp hi).1] at e
      have e' : sl' = a := Option.some.inj e
      subst e'
      obtain ⟨q, o1, e1, e2, e3, e4, e5⟩ := r.cel i sl hi hs
      rw [hσ] at e1
      have : p = q := by injection (Option.some.inj (Option.some.inj e1))
      subst this
      exact ⟨p, o, hσ, e2, e3, upd_same, h4⟩
    · rw [List.getElem?_set_ne hj] at e
      obtain ⟨q, o1, e1, e2, e3, e4, e5⟩ := r.cel j a e ha
      refine ⟨q, o1, e1, e2, e3, ?_, e5⟩
      rw [upd_ne]
      · exact e4
      · intro z
        subst z
        exact r.apart i j sl a hi e hs ha hj (by rw [hσ, e1])
  apart := fun j k a b ej ek ha hb hjk => by
    have aa : ∀ (j : Nat) a, (η.set i sl')[j]? = some a → isOwn a = true → ∃ a', η[j]? = some a' ∧ isOwn a' = true := fun j a e ha => by
      by_cases hj : i = j
      · subst hj; exact ⟨sl, hi, hs⟩
      · rw [List.getElem?_set_ne hj] at e; exact ⟨a, e, ha⟩
    obtain ⟨a', e1, f1⟩ := aa j a ej ha
    obtain ⟨b', e2, f2⟩ := aa k b ek hb
    exact r.apart j k a' b' e1 e2 f1 f2 hjk
  obs := fun j fs e => by
    by_cases hj : i = j
    · subst hj
      rw [List.getElem?_set_self (List.getElem?_eq_some_iff.mp hi).1] at e
      have e' : sl' = .ob fs := Option.some.inj e
      subst e'
      cases hs'
    · rw [List.getElem?_set_ne hj] at e
      obtain ⟨q, C, dx, xs, e1, e2, e3, e4⟩ := r.obs j fs e
      refine ⟨q, C, dx, xs, e1, ?_, e3, e4⟩
      obtain ⟨p', o1, f1, _, _, f4, f5⟩ := r.cel i sl hi hs
      rw [hσ] at f1
      have : p = p' := by injection (Option.some.inj (Option.some.inj f1))
      subst this
      rw [upd_ne]
      · exact e2
      · intro z
        subst z
        rw [f4] at e2
        exact f5.noins _ _ _ (Option.some.inj e2)
theorem EnR.putOwn {He : Hp} (r : EnR K He F H σ η) {i : Nat} {ds es : List PyData} {p : Addr} {ys : List V} (hi : η[i]? = some (.own ds)) (hσ : σ[i]? = some (some (.ref p))) (h4 : RelL K F es ys) :
    EnR K He F (upd H p (.lst ys)) σ (η.set i (.own es)) := r.putCell hi rfl rfl hσ ⟨ys, rfl, h4⟩
theorem SR.freezeCell (r : SR K B F H σ η) {i : Nat} {sl : Sl} {d : PyData} {p : Addr} {o : HO} (hi : η[i]? = some sl) (hs : isOwn sl = true) (e1 : σ[i]? = some (some (.ref p))) (e2 : F p = none) (e3 : B.H p = none) (e4 : H p = some o) (rel : Rel K (upd F p o) d (.ref p)) :
    Same F (upd F p o) ∧ SR K B (upd F p o) H σ (η.set i (.val d)) := by
  have sn := same_new (H := F) e2 o
  refine ⟨sn, ⟨⟨r.gr.ff.trans sn, r.gr.hh, ?_, ?_⟩, ?_⟩⟩
  · intro b u q
    by_cases e : b = p
    · subst e; rw [upd_same] at q; rw [← q]; exact e4
    · rw [upd_ne e] at q; exact r.gr.fh _ _ q
  · intro b q
    by_cases e : b = p
    · subst e; exact .inr e3
    · rw [upd_ne e] at q; exact r.gr.new b q
  · refine ⟨by rw [List.length_set]; exact r.en.len, fun j d' e => ?_, fun j a e ha => ?_, fun j k a b ej ek ha hb hjk => ?_, fun j fs e => ?_⟩
    · by_cases hj : i = j
      · subst hj
        rw [List.getElem?_set_self (List.getElem?_eq_some_iff.mp hi).1] at e
        have e' : d = d' := by injection (Option.some.inj e)
        subst e'
        exact ⟨_, e1, rel⟩
      · rw [List.getElem?_set_ne hj] at e
        obtain ⟨v, q1, q2⟩ := r.en.val j d' e
        exact ⟨v, q1, q2.mono sn⟩
    · by_cases hj : i = j
      · subst hj
        rw [List.getElem?_set_self (List.getElem?_eq_some_iff.mp hi).1] at e
        have e' : Sl.val d = a := Option.some.inj e
        subst e'
        cases ha
      · rw [List.getElem?_set_ne hj] at e
        obtain ⟨q, o1, q1, q2, q3, q4, q5⟩ := r.en.cel j a e ha
        refine ⟨q, o1, q1, ?_, q3, q4, q5.mono sn⟩
        rw [upd_ne]
        · exact q2
        · intro z
          subst z
          exact r.en.apart i j sl a hi e hs ha hj (by rw [e1, q1])
    · have no : ∀ (j : Nat) a, (η.set i (.val d))[j]? = some a → isOwn a = true → i ≠ j := fun j a ej ha hj => by
        subst hj
        rw [List.getElem?_set_self (List.getElem?_eq_some_iff.mp hi).1] at ej
        have e' : Sl.val d = a := Option.some.inj ej
        subst e'
        cases ha
      have nj := no j a ej ha
      have nk := no k b ek hb
      rw [List.getElem?_set_ne nj] at ej
      rw [List.getElem?_set_ne nk] at ek
      exact r.en.apart j k a b ej ek ha hb hjk
    · by_cases hj : i = j
      · subst hj
        rw [List.getElem?_set_self (List.getElem?_eq_some_iff.mp hi).1] at e; cases e
      · rw [List.getElem?_set_ne hj] at e
        obtain ⟨q, C, dx, xs, q1, q2, q3, q4⟩ := r.en.obs j fs e
        exact ⟨q, C, dx, xs, q1, q2, q3, q4.mono sn⟩
theorem SR.freeze (r : SR K B F H σ η) {i : Nat} {ds : List PyData} (hi : η[i]? = some (.own ds)) : ∃ F' p, σ[i]? = some (some (.ref p)) ∧ Same F F' ∧ SR K B F' H σ (η.set i (.val (.list ds))) ∧ Rel K F' (.list ds) (.ref p) := by
  obtain ⟨p, xs, e1, e2, e3, e4, e5⟩ := r.en.own i ds hi
  have rel : Rel K (upd F p (.lst xs)) (.list ds) (.ref p) := rel_lst (SqL.of upd_same) (e5.mono (same_new (H := F) e2 (.lst xs)))
  obtain ⟨h1, h2⟩ := r.freezeCell hi rfl e1 e2 e3 e4 rel
  exact ⟨_, p, e1, h1, h2, rel⟩
theorem SR.freezeD (r : SR K B F H σ η) {i : Nat} {kvs : List (Key × PyData)} (hi : η[i]? = some (.odc kvs)) : ∃ F' p, σ[i]? = some (some (.ref p)) ∧ Same F F' ∧ SR K B F' H σ (η.set i (.val (.dict (prs kvs)))) ∧ Rel K F' (.dict (prs kvs)) (.ref p) := by
  obtain ⟨p, ks, e1, e2, e3, e4, e5⟩ := r.en.odc i kvs hi
  have rel : Rel K (upd F p (.dK ks)) (.dict (prs kvs)) (.ref p) := rel_dct (.inl upd_same) (e5.mono (same_new (H := F) e2 (.dK ks)))
  obtain ⟨h1, h2⟩ := r.freezeCell hi rfl e1 e2 e3 e4 rel
  exact ⟨_, p, e1, h1, h2, rel⟩
end
section
variable (K : PySem.W.Frag) (B : Bd)
noncomputable def tE (f : En → Option PyData) : TE := fun σ H Q => ∃ F η d, SR K B F H σ η ∧ f η = some d ∧ ∀ v F' H', Gr F H F' H' → Rel K F' d v → Q v H'
noncomputable def tO (f : En → Option (List PyData)) : TE := fun σ H Q => ∃ F η ds, SR K B F H σ η ∧ f η = some ds ∧ ∀ p xs F' H', Gr F H F' H' → H p = none → F' p = none → H' p = some (.lst xs) → RelL K F' ds xs → Q (.ref p) H'
noncomputable def tT (f : En → Option Bool) : TT := fun σ H Q => ∃ F η b, SR K B F H σ η ∧ f η = some b ∧ ∀ F' H', Gr F H F' H' → Q b H'
noncomputable def tA (f : En → Option (List PyData)) : TA := fun σ H Q => ∃ F η ds, SR K B F H σ η ∧ f η = some ds ∧ ∀ vs F' H', Gr F H F' H' → RelL K F' ds vs → Q vs H'
end
noncomputable def E (X : Cx) (B : Bd) (e : Expr) (f : En → Option PyData) : Prop := PE X e (tE X.K B f)
noncomputable def EO (X : Cx) (B : Bd) (e : Expr) (f : En → Option (List PyData)) : Prop := PE X e (tO X.K B f)
noncomputable def T (X : Cx) (B : Bd) (e : Expr) (f : En → Option Bool) : Prop := PT X e (tT X.K B f)
noncomputable def TW (X : Cx) (B : Bd) (e : Expr) (f : En → Option Bool) : Prop := PW X e (tT X.K B f)
noncomputable def A (X : Cx) (B : Bd) (es : List Expr) (f : En → Option (List PyData)) : Prop := PA X es (tA X.K B f)
theorem PE.imp {X : Cx} {e : Expr} {t t' : TE} (h : PE X e t) (i : ∀ σ H Q, t' σ H Q → t σ H Q) : PE X e t' := fun pins s σ H Q I q => h pins s σ H Q I (i σ H Q q)
theorem PT.imp {X : Cx} {e : Expr} {t t' : TT} (h : PT X e t) (i : ∀ σ H Q, t' σ H Q → t σ H Q) : PT X e t' := fun pins s σ H Q I q => h pins s σ H Q I (i σ H Q q)
theorem PW.imp {X : Cx} {e : Expr} {t t' : TT} (h : PW X e t) (i : ∀ σ H Q, t' σ H Q → t σ H Q) : PW X e t' := fun wh pins s σ H Q I q => h wh pins s σ H Q I (i σ H Q q)
theorem PA.imp {X : Cx} {e : List Expr} {t t' : TA} (h : PA X e t) (i : ∀ σ H Q, t' σ H Q → t σ H Q) : PA X e t' := fun pos pins s σ H Q I q => h pos pins s σ H Q I (i σ H Q q)
noncomputable def eV (i : Nat) : En → Option PyData := fun η => match η[i]? with | some (.val d) => some d | _ => none
noncomputable def eC (d : PyData) : En → Option PyData := fun _ => some d
noncomputable def l1 (o : PyData → Option PyData) (f : En → Option PyData) : En → Option PyData := fun η => (f η).bind o
noncomputable def l2 (o : PyData → PyData → Option PyData) (f g : En → Option PyData) : En → Option PyData := fun η => (f η).bind fun x => (g η).bind fun y => o x y
noncomputable def aN : En → Option (List PyData) := fun _ => some []
noncomputable def aC (f : En → Option PyData) (g : En → Option (List PyData)) : En → Option (List PyData) := fun η => (f η).bind fun x => (g η).bind fun xs => some (x :: xs)
noncomputable def lA (o : List PyData → Option PyData) (f : En → Option (List PyData)) : En → Option PyData := fun η => (f η).bind o
section
variable {X : Cx} {B : Bd} {a b c e : Expr} {es : List Expr} {f g h : En → Option PyData} {fs : En → Option (List PyData)} {pos : Pos}
theorem bind_some {α β : Type} {o : Option α} {k : α → Option β} {y : β} (h : o.bind k = some y) : ∃ x, o = some x ∧ k x = some y := by
  cases o with
  | none => cases h
  | some x => exact ⟨x, rfl, h⟩
noncomputable def Ad2 (K : PySem.W.Frag) (r : R2) (o : PyData → PyData → Option PyData) : Prop :=
  ∀ F H x y dx dy d Q, Same F H → Rel K F dx x → Rel K F dy y → o dx dy = some d → (∀ v F' H', Gr F H F' H' → Rel K F' d v → Q v H') → r x y H Q
theorem t2 {K : PySem.W.Frag} {r : R2} {o : PyData → PyData → Option PyData} (ad : Ad2 K r o) : ∀ σ H Q, tE K B (l2 o f g) σ H Q → tOp r (tE K B f) (tE K B g) σ H Q := by
  intro σ H Q ⟨F, η, d, sr, hd, q⟩
  obtain ⟨x, hx, hd⟩ := bind_some hd
  obtain ⟨y, hy, hd⟩ := bind_some hd
  refine ⟨F, η, x, sr, hx, fun v F1 H1 g1 rv => ⟨F1, η, y, sr.grow g1, hy, fun u F2 H2 g2 ru => ?_⟩⟩
  exact ad F2 H2 v u x y d Q g2.fh (rv.mono g2.ff) ru hd fun w F3 H3 g3 rw' => q w F3 H3 ((g1.trans g2).trans g3) rw'
theorem E.op {op : Operator} {r : R2} {o : PyData → PyData → Option PyData} (ho : OpR X (binaryOp op) r) (ad : Ad2 X.K r o) (ha : E X B a f) (hb : E X B b g) : E X B (.BinOp a op b pos) (l2 o f g) :=
  PE.imp (pe_op ho ha hb) (t2 ad)
theorem E.cmp {op : CmpOp} {r : R2} {o : PyData → PyData → Option PyData} (ho : OpR X (compareOp op) r) (ad : Ad2 X.K r o) (hm : behindInMarks op b = false) (ha : E X B a f) (hb : E X B b g) : E X B (.Compare a [op] [b] pos) (l2 o f g) :=
  PE.imp (pe_cmpR ho ha hb hm) (t2 ad)
theorem E.ix {r : R2} {o : PyData → PyData → Option PyData} (hr : IxR X r) (ad : Ad2 X.K r o) (ha : E X B a f) (hb : E X B b g) (hs : PlainIx b := by intro _ _; rfl) : E X B (.Subscript a b pos) (l2 o f g) :=
  PE.imp (pe_ix hr ha hb hs) (t2 ad)
theorem E.v (i : Nat) {x : Str} (hN : X.N[i]? = some x := by rfl) (hv : Vis X.env.scope x := by first | exact Or.inl rfl | exact Or.inr (Or.inl rfl) | exact Or.inr (Or.inr rfl)) (hd : (x == ("__debug__" : Str)) = false := by decide)
    (hcd : (x == ("__classdict__" : Str)) = false := by decide) : E X B (.Name x pos) (eV i) :=
  PE.imp (pe_var hN hv hd hcd) fun σ H Q ⟨F, η, d, sr, hd, q⟩ => by
    unfold eV at hd
    split at hd
    · rename_i d' e
      cases hd
      obtain ⟨v, e1, e2⟩ := sr.en.val i d e
      exact ⟨v, e1, q v F H (.refl sr.same) e2⟩
    · cases hd
theorem tC_of {K : PySem.W.Frag} {v : V} {d : PyData} (h : ∀ F, Rel K F d v) : ∀ σ H Q, tE K B (eC d) σ H Q → tC v σ H Q := fun σ H Q ⟨F, η, d', sr, hd, q⟩ => by
  have e : d = d' := Option.some.inj hd
  subst e
  exact q v F H (.refl sr.same) (h F)
theorem E.int {i : Int} {j} : E X B (.Constant (.int i) j pos) (eC (.int i)) := PE.imp pe_int (tC_of fun _ => rel_int)
theorem E.bl {i : Bool} {j} : E X B (.Constant (.bool i) j pos) (eC (.bool i)) := PE.imp pe_bl (tC_of fun _ => rel_bl)
theorem E.non {j} : E X B (.Constant .none j pos) (eC .none) := PE.imp pe_non (tC_of fun _ => rel_non)
theorem E.str {i : Str} {j} : E X B (.Constant (.str i) j pos) (eC (.str i)) := PE.imp pe_str (tC_of fun _ => rel_str)
theorem E.glob {x : Str} {v : V} {u : Value} {d : PyData} (hm : X.mg x = some u) (r : RelV v u) (h : ∀ F, Rel X.K F d v) (hg : Gl X x := by rfl) (hd : (x == ("__debug__" : Str)) = false := by decide) : E X B (.Name x pos) (eC d) :=
  PE.imp (pe_glob hg hm r hd) (tC_of h)
theorem A.nil : A X B [] aN := PA.imp pa_nil fun σ H Q ⟨F, η, d, sr, hd, q⟩ => by
  cases hd
  exact q [] F H (.refl sr.same) .nil
theorem A.cons (ha : E X B e f) (hr : A X B es fs) (hs : starEach (e :: es) X.env = (false, eval e X.env) :: starEach es X.env := by exact star_of rfl) : A X B (e :: es) (aC f fs) := PA.imp (pa_cons ha hr hs) fun σ H Q ⟨F, η, d, sr, hd, q⟩ => by
  obtain ⟨x, hx, hd⟩ := bind_some hd
  obtain ⟨y, hy, hd⟩ := bind_some hd
  cases hd
  exact ⟨F, η, x, sr, hx, fun v F1 H1 g1 rv => ⟨F1, η, y, sr.grow g1, hy, fun vs F2 H2 g2 rs => q (v :: vs) F2 H2 (g1.trans g2) (.cons (rv.mono g2.ff) rs)⟩⟩
noncomputable def gL (ds : List PyData) : Option (List PyData) := if ds.length ≤ sizeLine then some ds else none
theorem E.tup {x1} (hs : A X B es fs) : E X B (.Tuple es x1 pos) (lA (fun ds => if ds.length ≤ sizeLine then some (.tuple ds) else none) fs) := PE.imp (pe_tup hs) fun σ H Q ⟨F, η, d, sr, hd, q⟩ => by
  obtain ⟨ds, hx, hd⟩ := bind_some hd
  split at hd
  · rename_i hl
    cases hd
    refine ⟨F, η, ds, sr, hx, fun vs F1 H1 g1 rs => ⟨by rw [rs.length]; exact hl, fun p hp => ?_⟩⟩
    have g2 : Gr F1 H1 (upd F1 p (.tup vs)) (upd H1 p (.tup vs)) := Gr.one g1.fh hp
    exact q _ _ _ (g1.trans g2) (rel_tup (SqT.of upd_same) (rs.mono g2.ff))
  · cases hd
theorem EO.lst (hs : A X B es fs) : EO X B (.List es pos) (fun η => (fs η).bind gL) := PE.imp (pe_lst hs) fun σ H Q ⟨F, η, ds, sr, hd, q⟩ => by
  obtain ⟨ds', hx, hd⟩ := bind_some hd
  unfold gL at hd
  split at hd
  · rename_i hl
    cases hd
    refine ⟨F, η, ds, sr, hx, fun vs F1 H1 g1 rs => ⟨by rw [rs.length]; exact hl, fun p hp => ?_⟩⟩
    refine q p vs F1 (upd H1 p (.lst vs)) ?_ (g1.hh.free hp) (g1.fh.free hp) upd_same rs
    refine ⟨g1.ff, g1.hh.trans (same_new hp _), fun b u z => ?_, g1.new⟩
    exact same_new hp _ b u (g1.fh b u z)
  · cases hd
noncomputable def oE (f : En → Option (List PyData)) : En → Option PyData := fun η => (f η).bind fun ds => some (.list ds)
theorem EO.toE (he : EO X B e fs) : E X B e (oE fs) := PE.imp he fun σ H Q ⟨F, η, d, sr, hd, q⟩ => by
  obtain ⟨ds, hx, hd⟩ := bind_some hd
  cases hd
  refine ⟨F, η, ds, sr, hx, fun p xs F' H' g1 hp fp hp' rs => ?_⟩
  have sn := same_new (H := F') fp (.lst xs)
  refine q (.ref p) (upd F' p (.lst xs)) H' ⟨g1.ff.trans sn, g1.hh, fun b u z => ?_, fun b z => ?_⟩ (rel_lst (SqL.of upd_same) (rs.mono sn))
  · by_cases e : b = p
    · subst e; rw [upd_same] at z; rw [← z]; exact hp'
    · rw [upd_ne e] at z; exact g1.fh _ _ z
  · by_cases e : b = p
    · subst e; exact .inr hp
    · rw [upd_ne e] at z; exact g1.new b z
noncomputable def asB : PyData → Option Bool
  | .bool b => some b
  | _ => none
noncomputable def bT (f : En → Option PyData) : En → Option Bool := fun η => (f η).bind asB
theorem asB_some {d : PyData} {b : Bool} (h : asB d = some b) : d = .bool b := by
  cases d <;> simp [asB] at h
  rw [h]
theorem T.val (he : E X B e f) (hi : ∀ whole, isTrue e X.env whole = (do let v ← whole; standAt e.pos; holding [v] (truthy v)) := by intro _; rfl) : T X B e (bT f) := PT.imp (pt_val he hi) fun σ H Q ⟨F, η, b, sr, hd, q⟩ => by
  obtain ⟨x, hx, hd⟩ := bind_some hd
  obtain rfl := asB_some hd
  exact ⟨F, η, _, sr, hx, fun v F1 H1 g1 rv => ⟨b, rv.bl, q F1 H1 g1⟩⟩
theorem T.cmp {op : CmpOp} {r : R2} {o : PyData → PyData → Option PyData} (ho : OpR X (compareOp op) r) (ad : Ad2 X.K r o) (hm : behindInMarks op b = false) (ha : E X B a f) (hb : E X B b g) : T X B (.Compare a [op] [b] pos) (bT (l2 o f g)) :=
  PT.imp (pt_cmpR ho ha hb hm) fun σ H Q ⟨F, η, b, sr, hd, q⟩ => by
    obtain ⟨x, hx, hd⟩ := bind_some hd
    obtain rfl := asB_some hd
    exact t2 ad σ H _ ⟨F, η, _, sr, hx, fun v F1 H1 g1 rv => ⟨b, rv.bl, q F1 H1 g1⟩⟩
noncomputable def bAnd (f g : En → Option Bool) : En → Option Bool := fun η => (f η).bind fun c => if c = true then g η else some false
noncomputable def bOr (f g : En → Option Bool) : En → Option Bool := fun η => (f η).bind fun c => if c = true then some true else g η
noncomputable def bNot (f : En → Option Bool) : En → Option Bool := fun η => (f η).bind fun c => some (!c)
variable {p q r : En → Option Bool} {rest : List Expr}
theorem T.not (ha : T X B a p) : T X B (.UnaryOp .Not a pos) (bNot p) := PT.imp (pt_not ha) fun σ H Q ⟨F, η, b, sr, hd, q⟩ => by
  obtain ⟨x, hx, hd⟩ := bind_some hd
  cases hd
  exact ⟨F, η, x, sr, hx, q⟩
theorem TW.t (h : TW X B a p) : T X B a p := PW.pt h
theorem TW.and1 (ha : T X B a p) : TW X B (.BoolOp .And [a] pos) p := pw_and1 ha
theorem TW.or1 (ha : T X B a p) : TW X B (.BoolOp .Or [a] pos) p := pw_or1 ha
theorem TW.and (ha : T X B a p) (hb : TW X B (.BoolOp .And (b :: rest) pos) q) : TW X B (.BoolOp .And (a :: b :: rest) pos) (bAnd p q) := PW.imp (pw_and ha hb) fun σ H Q ⟨F, η, b, sr, hd, k⟩ => by
  obtain ⟨x, hx, hd⟩ := bind_some hd
  refine ⟨F, η, x, sr, hx, fun F1 H1 g1 => ?_⟩
  cases x with
  | false =>
    rw [if_neg Bool.false_ne_true] at hd ⊢
    cases hd
    exact k F1 H1 g1
  | true =>
    rw [if_pos rfl] at hd ⊢
    exact ⟨F1, η, b, sr.grow g1, hd, fun F2 H2 g2 => k F2 H2 (g1.trans g2)⟩
theorem TW.or (ha : T X B a p) (hb : TW X B (.BoolOp .Or (b :: rest) pos) q) : TW X B (.BoolOp .Or (a :: b :: rest) pos) (bOr p q) := PW.imp (pw_or ha hb) fun σ H Q ⟨F, η, b, sr, hd, k⟩ => by
  obtain ⟨x, hx, hd⟩ := bind_some hd
  refine ⟨F, η, x, sr, hx, fun F1 H1 g1 => ?_⟩
  cases x with
  | false =>
    rw [if_neg Bool.false_ne_true] at hd ⊢
    exact ⟨F1, η, b, sr.grow g1, hd, fun F2 H2 g2 => k F2 H2 (g1.trans g2)⟩
  | true =>
    rw [if_pos rfl] at hd ⊢
    cases hd
    exact k F1 H1 g1
noncomputable def vAnd (f g : En → Option PyData) : En → Option PyData := fun η => (f η).bind fun x => (asB x).bind fun c => if c = true then g η else some (.bool false)
noncomputable def vNot (f : En → Option PyData) : En → Option PyData := fun η => (f η).bind fun x => (asB x).bind fun c => some (.bool (!c))
theorem E.one {op} (ha : E X B a f) : E X B (.BoolOp op [a] pos) f := pe_one ha
theorem E.and (ha : E X B a f) (hb : E X B (.BoolOp .And (b :: rest) pos) g) : E X B (.BoolOp .And (a :: b :: rest) pos) (vAnd f g) := PE.imp (pe_and ha hb) fun σ H Q ⟨F, η, b, sr, hd, k⟩ => by
  obtain ⟨x, hx, hd⟩ := bind_some hd
  obtain ⟨c, hc, hd2⟩ := bind_some hd
  clear hd
  obtain rfl := asB_some hc
  have hd := hd2
  refine ⟨F, η, _, sr, hx, fun v F1 H1 g1 rv => ⟨c, rv.bl, ?_⟩⟩
  cases c with
  | false =>
    rw [if_neg Bool.false_ne_true] at hd ⊢
    cases hd
    exact k _ F1 H1 g1 rel_bl
  | true =>
    rw [if_pos rfl] at hd ⊢
    exact ⟨F1, η, b, sr.grow g1, hd, fun u F2 H2 g2 => k u F2 H2 (g1.trans g2)⟩
theorem E.not (ha : E X B a f) : E X B (.UnaryOp .Not a pos) (vNot f) := PE.imp (pe_not ha) fun σ H Q ⟨F, η, b, sr, hd, k⟩ => by
  obtain ⟨x, hx, hd⟩ := bind_some hd
  obtain ⟨c, hc, hd2⟩ := bind_some hd
  clear hd
  obtain rfl := asB_some hc
  have hd := hd2
  cases hd
  exact ⟨F, η, _, sr, hx, fun v F1 H1 g1 rv => ⟨c, rv.bl, k _ F1 H1 g1 rel_bl⟩⟩
noncomputable def vIf (c : En → Option Bool) (f g : En → Option PyData) : En → Option PyData := fun η => (c η).bind fun c => if c = true then f η else g η
theorem E.ifE (hc : T X B c p) (ha : E X B a f) (hb : E X B b g) : E X B (.IfExp c a b pos) (vIf p f g) := PE.imp (pe_ifExp hc ha hb) fun σ H Q ⟨F, η, d, sr, hd, k⟩ => by
  obtain ⟨x, hx, hd⟩ := bind_some hd
  refine ⟨F, η, x, sr, hx, fun F1 H1 g1 => ?_⟩
  cases x with
  | false =>
    rw [if_neg Bool.false_ne_true] at hd ⊢
    exact ⟨F1, η, d, sr.grow g1, hd, fun u F2 H2 g2 => k u F2 H2 (g1.trans g2)⟩
  | true =>
    rw [if_pos rfl] at hd ⊢
    exact ⟨F1, η, d, sr.grow g1, hd, fun u F2 H2 g2 => k u F2 H2 (g1.trans g2)⟩
noncomputable def spP (K : PySem.W.Frag) (fn : List PyData → Option PyData) : Sp := fun vs H Q _ => ∃ F ds d, Same F H ∧ RelL K F ds vs ∧ fn ds = some d ∧ ∀ v F' H', Gr F H F' H' → Rel K F' d v → Q v H'
theorem E.call {k k' : Nat} {fa : Addr} {fd : FuncData} {ps : List Str} {x : Str} {ppos : Pos} {fn : List PyData → Option PyData} (G : FnOk X.prog X.w X.K X.mg X.base CX0 k fa fd ps (spP X.K fn)) (hr : Room k' X.A) (hkk : k ≤ k') (hm : X.mg x = some (.ref fa)) (hk : PySem.W.keepIn X.K (.ref fa) = true) (hb : Binds X.K fd ps [])
    (ha : A X B (e :: es) fs) (hg : Gl X x := by rfl) (hdb : (x == ("__debug__" : Str)) = false := by decide) (he : starEach (e :: es) X.env = (false, eval e X.env) :: starEach es X.env := by exact star_of rfl) (hpl : (backTo pos (starEach es X.env)).any (·.1) = false := by exact plain_of rfl) :
    E X B (.Call (.Name x ppos) (e :: es) [] pos) (lA fn fs) := PE.imp (pe_call G (hr.mono hkk) hg hm hk hb .nil pass0 ha hdb he hpl) fun σ H Q ⟨F, η, d, sr, hd, q⟩ => by
  obtain ⟨ds, hx, hd⟩ := bind_some hd
  refine ⟨F, η, ds, sr, hx, fun vs F1 H1 g1 rs => ?_⟩
  show spP X.K fn (vs ++ []) H1 Q E0
  rw [List.append_nil]
  exact ⟨F1, ds, d, g1.fh, rs, hd, fun v F2 H2 g2 rv => q v F2 H2 (g1.trans g2) rv⟩
end
inductive Out where
  | nx (η : En)
  | rt (d : PyData)
  | bk (η : En)
  | ct (η : En)
noncomputable def OutOk (K : PySem.W.Frag) (B : Bd) (F : Hp) (D : Ends) : Out → Prop
  | .nx η => ∀ σ' F' H', SR K B F' H' σ' η → Same F F' → D.nx σ' H'
  | .rt d => ∀ v F' H', Gr B.F B.H F' H' → Rel K F' d v → D.rt v H'
  | .bk η => ∀ σ' F' H', SR K B F' H' σ' η → Same F F' → D.bk σ' H'
  | .ct η => ∀ σ' F' H', SR K B F' H' σ' η → Same F F' → D.ct σ' H'
noncomputable def tS (K : PySem.W.Frag) (B : Bd) (f : En → Option Out) : TS := fun D σ H => ∃ F η o, SR K B F H σ η ∧ f η = some o ∧ OutOk K B F D o
noncomputable def S (X : Cx) (B : Bd) (st : Stmt) (f : En → Option Out) : Prop := PS X st (tS X.K B f)
noncomputable def Ss (X : Cx) (B : Bd) (st : List Stmt) (f : En → Option Out) : Prop := PSs X st (tS X.K B f)
theorem PS.imp {X : Cx} {e : Stmt} {t t' : TS} (h : PS X e t) (i : ∀ D σ H, t' D σ H → t D σ H) : PS X e t' := fun pins s σ H D I q => h pins s σ H D I (i D σ H q)
theorem PSs.imp {X : Cx} {e : List Stmt} {t t' : TS} (h : PSs X e t) (i : ∀ D σ H, t' D σ H → t D σ H) : PSs X e t' := fun pins s σ H D I q => h pins s σ H D I (i D σ H q)
theorem OutOk.up {K : PySem.W.Frag} {B : Bd} {F F1 : Hp} {D : Ends} {o : Out} (h : OutOk K B F D o) (s : Same F F1) : OutOk K B F1 D o := by
  cases o with
  | nx η => exact fun σ' F' H' r e => h σ' F' H' r (s.trans e)
  | rt d => exact h
  | bk η => exact fun σ' F' H' r e => h σ' F' H' r (s.trans e)
  | ct η => exact fun σ' F' H' r e => h σ' F' H' r (s.trans e)
noncomputable def sNx : En → Option Out := fun η => some (.nx η)
noncomputable def sSeq (f g : En → Option Out) : En → Option Out := fun η => (f η).bind fun o => match o with
  | .nx η' => g η'
  | o => some o
noncomputable def sRet (f : En → Option PyData) : En → Option Out := fun η => (f η).bind fun d => some (.rt d)
noncomputable def sRetO (i : Nat) : En → Option Out := fun η => match η[i]? with | some (.own ds) => some (.rt (.list ds)) | _ => none
noncomputable def sIf (c : En → Option Bool) (f g : En → Option Out) : En → Option Out := fun η => (c η).bind fun b => if b = true then f η else g η
noncomputable def sSet (i : Nat) (f : En → Option PyData) : En → Option Out := fun η => (f η).bind fun d => some (.nx (η.set i (.val d)))
noncomputable def sSetO (i : Nat) (f : En → Option (List PyData)) : En → Option Out := fun η => (f η).bind fun ds => some (.nx (η.set i (.own ds)))
noncomputable def sApp (i : Nat) (f : En → Option PyData) : En → Option Out := fun η => (f η).bind fun d => match η[i]? with
  | some (.own ds) => if ds.length < sizeLine then some (.nx (η.set i (.own (ds ++ [d])))) else none
  | _ => none
noncomputable def sExt (i : Nat) (f : En → Option (List PyData)) : En → Option Out := fun η => (f η).bind fun es => match η[i]? with
  | some (.own ds) => if ds.length + es.length ≤ sizeLine then some (.nx (η.set i (.own (ds ++ es)))) else none
  | _ => none
noncomputable def frz (i : Nat) (η : En) : En := match η[i]? with | some (.own ds) => η.set i (.val (.list ds)) | some (.odc kvs) => η.set i (.val (.dict (prs kvs))) | _ => η
section
variable {X : Cx} {B : Bd} {st : Stmt} {sts sts' : List Stmt} {u v : En → Option Out} {a b c e : Expr} {f g : En → Option PyData} {fs : En → Option (List PyData)} {p : En → Option Bool} {pos pos' : Pos}
theorem Ss.nil : Ss X B [] sNx := PSs.imp pss_nil fun D σ H ⟨F, η, o, sr, hd, q⟩ => by
  cases hd
  exact q σ F H sr (.refl _)
theorem Ss.one (h : S X B st u) : Ss X B [st] u := pss_one h
theorem Ss.cons (h : S X B st u) (k : Ss X B sts v) : Ss X B (st :: sts) (sSeq u v) := PSs.imp (pss_cons h k) fun D σ H ⟨F, η, o, sr, hd, q⟩ => by
  obtain ⟨o1, h1, hd⟩ := bind_some hd
  refine ⟨F, η, o1, sr, h1, ?_⟩
  cases o1 with
  | nx η' => exact fun σ' F' H' r e => ⟨F', η', o, r, hd, q.up e⟩
  | rt d => cases hd; exact q
  | bk η' => cases hd; exact q
  | ct η' => cases hd; exact q
theorem S.never : S X B st (fun _ => none) := PS.imp ps_never fun D σ H ⟨F, η, o, sr, hd, q⟩ => by cases hd
theorem S.ret (he : E X B e f) : S X B (.Return (some e) pos) (sRet f) := PS.imp (ps_ret he) fun D σ H ⟨F, η, o, sr, hd, q⟩ => by
  obtain ⟨d, h1, hd⟩ := bind_some hd
  cases hd
  exact ⟨F, η, d, sr, h1, fun v F' H' g rv => q v F' H' (sr.gr.trans g) rv⟩
theorem S.retO (i : Nat) {x : Str} (hN : X.N[i]? = some x := by rfl) (hv : Vis X.env.scope x := by first | exact Or.inl rfl | exact Or.inr (Or.inl rfl) | exact Or.inr (Or.inr rfl)) (hd : (x == ("__debug__" : Str)) = false := by decide)
    (hcd : (x == ("__classdict__" : Str)) = false := by decide) : S X B (.Return (some (.Name x pos')) pos) (sRetO i) := PS.imp (ps_ret (pe_var hN hv hd hcd)) fun D σ H ⟨F, η, o, sr, hd, q⟩ => by
  unfold sRetO at hd
  split at hd
  · rename_i ds e
    cases hd
    obtain ⟨F', p, e1, sf, sr', rel⟩ := sr.freeze e
    exact ⟨_, e1, q _ F' H sr'.gr rel⟩
  · cases hd
theorem S.ifS (hc : T X B c p) (ha : Ss X B sts u) (hb : Ss X B sts' v) : S X B (.If c sts sts' pos) (sIf p u v) := PS.imp (ps_if hc ha hb) fun D σ H ⟨F, η, o, sr, hd, q⟩ => by
  obtain ⟨b, h1, hd⟩ := bind_some hd
  refine ⟨F, η, b, sr, h1, fun F1 H1 g1 => ?_⟩
  cases b with
  | false =>
    rw [if_neg Bool.false_ne_true] at hd ⊢
    exact ⟨F1, η, o, sr.grow g1, hd, q.up g1.ff⟩
  | true =>
    rw [if_pos rfl] at hd ⊢
    exact ⟨F1, η, o, sr.grow g1, hd, q.up g1.ff⟩
theorem asg_of {K : PySem.W.Frag} {i : Nat} : ∀ D σ H, tS K B (sSet i f) D σ H → tAsg (tE K B f) (gName i) D σ H := fun D σ H ⟨F, η, o, sr, hd, q⟩ => by
  obtain ⟨d, h1, hd⟩ := bind_some hd
  cases hd
  refine ⟨F, η, d, sr, h1, fun v F1 H1 g1 rv => q _ F1 H1 ⟨sr.gr.trans g1, (sr.en.grow g1).set i rv⟩ g1.ff⟩
theorem asgO_of {K : PySem.W.Frag} {i : Nat} : ∀ D σ H, tS K B (sSetO i fs) D σ H → tAsg (tO K B fs) (gName i) D σ H := fun D σ H ⟨F, η, o, sr, hd, q⟩ => by
  obtain ⟨d, h1, hd⟩ := bind_some hd
  cases hd
  refine ⟨F, η, d, sr, h1, fun p xs F1 H1 g1 hp fp hp' rs => q _ F1 H1 ⟨sr.gr.trans g1, (sr.en.grow g1).setOwn i fp (sr.gr.hh.free hp) hp' rs fun j ej => sr.en.notown hp j ej⟩ g1.ff⟩
theorem S.set (i : Nat) {x : Str} (hN : X.N.Nodup) (he : E X B e f) (hi : X.N[i]? = some x := by rfl) (hx : Loc X.env.scope x := by first | exact Or.inl rfl | exact Or.inr rfl) (hs : swapsWith e (some (.Name x pos')) pos.line X.env = pure false := by rfl)
    (hf : X.fn x = true ∨ X.env.scope.names.lookup x = some .local := by first | exact .inl rfl | exact .inr rfl) : S X B (.Assign [.Name x pos'] e pos) (sSet i f) := PS.imp (ps_set hN hi hx he hs hf) asg_of
theorem S.setO (i : Nat) {x : Str} (hN : X.N.Nodup) (he : EO X B e fs) (hi : X.N[i]? = some x := by rfl) (hx : Loc X.env.scope x := by first | exact Or.inl rfl | exact Or.inr rfl) (hs : swapsWith e (some (.Name x pos')) pos.line X.env = pure false := by rfl)
    (hf : X.fn x = true ∨ X.env.scope.names.lookup x = some .local := by first | exact .inl rfl | exact .inr rfl) : S X B (.Assign [.Name x pos'] e pos) (sSetO i fs) := PS.imp (ps_set hN hi hx he hs hf) asgO_of
theorem Ss.frz (i : Nat) (h : Ss X B sts u) : Ss X B sts (fun η => u (frz i η)) := PSs.imp h fun D σ H ⟨F, η, o, sr, hd, q⟩ => by
  have hd : u (PU.frz i η) = some o := hd
  unfold PU.frz at hd
  split at hd
  · rename_i ds e
    obtain ⟨F', p, e1, sf, sr', rel⟩ := sr.freeze e
    exact ⟨F', _, o, sr', hd, q.up sf⟩
  · rename_i kvs e
    obtain ⟨F', p, e1, sf, sr', rel⟩ := sr.freezeD e
    exact ⟨F', _, o, sr', hd, q.up sf⟩
  · exact ⟨F, η, o, sr, hd, q⟩
noncomputable def ItP (K : PySem.W.Frag) (J : It) (F : Hp) (ds : List PyData) : Prop := ∀ F1 H1 (i : Nat), Same F F1 → Same F1 H1 →
  (∀ d, ds[i]? = some d → J.go i H1 ∧ ∀ x H2, J.yld i H1 x H2 → ∃ F2, Gr F1 H1 F2 H2 ∧ Rel K F2 d x) ∧ (i = ds.length → J.stop i H1)
noncomputable def tI (K : PySem.W.Frag) (B : Bd) (f : En → Option (List PyData)) : TI := fun σ H R => ∃ F η ds, SR K B F H σ η ∧ f η = some ds ∧ ∀ J F' H', Gr F H F' H' → ItP K J F' ds → R J H'
noncomputable def I (X : Cx) (B : Bd) (tg iter : Expr) (f : En → Option (List PyData)) : Prop := PI X tg iter (tI X.K B f)
theorem PI.imp {X : Cx} {tg it : Expr} {t t' : TI} (h : PI X tg it t) (i : ∀ σ H Q, t' σ H Q → t σ H Q) : PI X tg it t' := fun pins s σ H Q I q => h pins s σ H Q I (i σ H Q q)
noncomputable def TgP (K : PySem.W.Frag) (ks : List Nat) (g : TG) (t : En → PyData → Option En) : Prop := ∀ (B : Bd) F H σ η d x η', SR K B F H σ η → Rel K F d x → t η d = some η' → ∀ Q : St → Hp → Prop,
  (∀ σ' F' H', SR K B F' H' σ' η' → Gr F H F' H' → σ'.length = σ.length → (∀ i, i ∉ ks → σ'[i]? = σ[i]?) → Q σ' H') → g x σ H Q
noncomputable def tgN (i : Nat) : En → PyData → Option En := fun η d => some (η.set i (.val d))
theorem TgP.name {K : PySem.W.Frag} {i : Nat} : TgP K [i] (gName i) (tgN i) := fun B F H σ η d x η' sr rx e Q q => by
  cases e
  exact q _ F H ⟨sr.gr, sr.en.set i rx⟩ (.refl sr.same) (List.length_set ..) fun j hj => List.getElem?_set_ne (fun e => hj (by simp [e])) ..
noncomputable def TgsP (K : PySem.W.Frag) (ks : List Nat) (g : TGs) (t : En → List PyData → Option En) : Prop := ∀ (B : Bd) F H σ η ds xs η', SR K B F H σ η → RelL K F ds xs → t η ds = some η' → ∀ Q : St → Hp → Prop,
  (∀ σ' F' H', SR K B F' H' σ' η' → Gr F H F' H' → σ'.length = σ.length → (∀ i, i ∉ ks → σ'[i]? = σ[i]?) → Q σ' H') → g xs σ H Q
noncomputable def tgNil : En → List PyData → Option En := fun η ds => match ds with | [] => some η | _ => none
noncomputable def tgCons (t : En → PyData → Option En) (r : En → List PyData → Option En) : En → List PyData → Option En := fun η ds => match ds with | [] => none | d :: ds => (t η d).bind fun η1 => r η1 ds
theorem TgsP.nil {K : PySem.W.Frag} : TgsP K [] gNil tgNil := fun B F H σ η ds xs η' sr rx e Q q => by
  cases ds with
  | nil =>
    cases e
    exact ⟨rx.nil_of, q _ F H sr (.refl sr.same) rfl fun _ _ => rfl⟩
  | cons d ds => cases e
theorem TgsP.cons {K : PySem.W.Frag} {ks ls : List Nat} {g : TG} {gs : TGs} {t : En → PyData → Option En} {r : En → List PyData → Option En} (h : TgP K ks g t) (k : TgsP K ls gs r) : TgsP K (ks ++ ls) (gCons g gs) (tgCons t r) := fun B F H σ η ds xs η' sr rx e Q q => by
  cases ds with
  | nil => cases e
  | cons d ds =>
    obtain ⟨x, r', rfl, h1, h2⟩ := rx.cons_of
    obtain ⟨η1, e1, e2⟩ := bind_some e
    refine ⟨x, r', rfl, h B F H σ η d x η1 sr h1 e1 _ fun σ1 F1 H1 sr1 g1 l1 n1 => ?_⟩
    refine k B F1 H1 σ1 η1 ds r' η' sr1 (h2.mono g1.ff) e2 _ fun σ2 F2 H2 sr2 g2 l2 n2 => ?_
    exact q σ2 F2 H2 sr2 (g1.trans g2) (l2.trans l1) fun i hi => (n2 i fun z => hi (List.mem_append_right _ z)).trans (n1 i fun z => hi (List.mem_append_left _ z))
noncomputable def tgT (t : En → List PyData → Option En) : En → PyData → Option En := fun η d => match d with | .tuple ds => t η ds | _ => none
theorem TgP.tup {K : PySem.W.Frag} {ks : List Nat} {n : Nat} {g : TGs} {t : En → List PyData → Option En} (h : TgsP K ks g t) (hn : ∀ η ds η', t η ds = some η' → ds.length = n) : TgP K ks (gTup K n g) (tgT t) := fun B F H σ η d x η' sr rx e Q q => by
  cases d with
  | tuple ds =>
    obtain ⟨a, xs, rfl, hq, rs⟩ := rx.tup
    exact ⟨a, xs, rfl, same_seqT sr.same hq, by rw [rs.length]; exact hn η ds η' e, h B F H σ η ds xs η' sr rs e Q q⟩
  | none => cases e
  | bool _ => cases e
  | int _ => cases e
  | str _ => cases e
  | list _ => cases e
  | dict _ => cases e
noncomputable def sGo (t : En → PyData → Option En) (body : En → Option Out) : List PyData → En → Option Out
  | [], η => some (.nx η)
  | d :: ds, η => (t η d).bind fun η1 => (body η1).bind fun o => match o with
    | .nx η2 => sGo t body ds η2
    | .ct η2 => sGo t body ds η2
    | .bk η2 => some (.nx η2)
    | .rt d => some (.rt d)
noncomputable def sFor (it : En → Option (List PyData)) (t : En → PyData → Option En) (body : En → Option Out) : En → Option Out := fun η => (it η).bind fun ds => sGo t body ds η
theorem S.for {tg iter : Expr} {body : List Stmt} {gt : TG} {ks : List Nat} {t : En → PyData → Option En} (hp : PassesOwn (model X.prog X.w) X.A X.env X.xe) (hc : X.calm = true) (hi : I X B tg iter fs) (hg : PG X tg gt) (ht : TgP X.K ks gt t) (hb : Ss X B body u)
    (hs : ∀ x, foldedSetIterable iter X.env x = pure x := by intro _; rfl) : S X B (.For tg iter body [] pos) (sFor fs t u) := PS.imp (ps_for hp hc hi hg hb hs) fun D σ H ⟨F, η, o, sr, hd, q⟩ => by
  obtain ⟨ds, h1, hd⟩ := bind_some hd
  refine ⟨F, η, ds, sr, h1, fun J F1 H1 g1 ip => ?_⟩
  refine ⟨fun i m σ H => m = ds.length - i ∧ i ≤ ds.length ∧ ∃ Fc ηc, SR X.K B Fc H σ ηc ∧ Same F1 Fc ∧ sGo t u (ds.drop i) ηc = some o, ⟨_, rfl, Nat.zero_le _, F1, η, sr.grow g1, .refl _, by simpa using hd⟩, ?_⟩
  rintro i m σc Hc ⟨rfl, hi, Fc, ηc, src, sc, hgo⟩
  obtain ⟨ip1, ip2⟩ := ip Fc Hc i sc src.same
  by_cases hlt : i < ds.length
  · have e : ds[i]? = some ds[i] := List.getElem?_eq_getElem hlt
    obtain ⟨go, yl⟩ := ip1 _ e
    rw [List.drop_eq_getElem_cons hlt] at hgo
    unfold sGo at hgo
    obtain ⟨η1, e1, hgo⟩ := bind_some hgo
    obtain ⟨o1, e2, hgo⟩ := bind_some hgo
    have cont : ∀ (η2 : En), sGo t u (ds.drop (i + 1)) η2 = some o → ∀ σ' F' H', SR X.K B F' H' σ' η2 → Same F1 F' →
        ∃ m', m' < ds.length - i ∧ (fun i m σ H => m = ds.length - i ∧ i ≤ ds.length ∧ ∃ Fc ηc, SR X.K B Fc H σ ηc ∧ Same F1 Fc ∧ sGo t u (ds.drop i) ηc = some o) (i + 1) m' σ' H' := fun η2 h2 σ' F' H' r s =>
      ⟨ds.length - (i + 1), by omega, rfl, hlt, F', η2, r, s, h2⟩
    refine .inr ⟨go, fun σ' H' => ∃ m', m' < ds.length - i ∧ (fun i m σ H => m = ds.length - i ∧ i ≤ ds.length ∧ ∃ Fc ηc, SR X.K B Fc H σ ηc ∧ Same F1 Fc ∧ sGo t u (ds.drop i) ηc = some o) (i + 1) m' σ' H', fun σ' H' n => n, fun x H' y => ?_⟩
    obtain ⟨F2, g2, rx⟩ := yl x H' y
    refine ht B F2 H' σc ηc _ x η1 (src.grow g2) rx e1 _ fun σ3 F3 H3 sr3 g3 _ _ => ?_
    refine ⟨F3, η1, o1, sr3, e2, ?_⟩
    have s3 : Same F1 F3 := sc.trans (g2.ff.trans g3.ff)
    cases o1 with
    | nx η2 => exact fun σ' F' H' r s => cont η2 hgo σ' F' H' r (s3.trans s)
    | ct η2 => exact fun σ' F' H' r s => cont η2 hgo σ' F' H' r (s3.trans s)
    | bk η2 =>
      cases hgo
      exact fun σ' F' H' r s => q σ' F' H' r (g1.ff.trans (s3.trans s))
    | rt d =>
      cases hgo
      exact q
  · have ei : i = ds.length := by omega
    subst ei
    rw [List.drop_length] at hgo
    cases hgo
    exact .inl ⟨ip2 rfl, q σc Fc Hc src (g1.ff.trans sc)⟩
noncomputable def asL : PyData → Option (List PyData)
  | .list ds => some ds
  | _ => none
noncomputable def asTu : PyData → Option (List PyData)
  | .tuple ds => some ds
  | _ => none
noncomputable def lI (k : PyData → Option (List PyData)) (f : En → Option PyData) : En → Option (List PyData) := fun η => (f η).bind k
theorem itp_list {K : PySem.W.Frag} {F : Hp} {a : Addr} {xs : List V} {ds : List PyData} (h : SqL K F a xs) (r : RelL K F ds xs) : ItP K (Itl K a) F ds := fun F1 H1 i s1 s2 => by
  have q := s2.seq (s1.seq h)
  refine ⟨fun d e => ?_, fun e => ⟨xs, q, by rw [r.length, e]; exact Nat.le_refl _⟩⟩
  obtain ⟨x, ex, rx⟩ := r.get e
  refine ⟨⟨xs, x, q, ex⟩, fun x' H2 y => ?_⟩
  obtain ⟨e2, y⟩ := y
  subst e2
  have z := y xs q
  rw [ex] at z
  cases z
  exact ⟨F1, .refl s2, rx.mono s1⟩
theorem itp_tup {K : PySem.W.Frag} {F : Hp} {a : Addr} {xs : List V} {ds : List PyData} (h : SqT K F a xs) (r : RelL K F ds xs) : ItP K (Itt K a) F ds := fun F1 H1 i s1 s2 => by
  have q := same_seqT s2 (same_seqT s1 h)
  refine ⟨fun d e => ?_, fun e => ⟨xs, q, by rw [r.length, e]; exact Nat.le_refl _⟩⟩
  obtain ⟨x, ex, rx⟩ := r.get e
  refine ⟨⟨xs, x, q, ex⟩, fun x' H2 y => ?_⟩
  obtain ⟨e2, y⟩ := y
  subst e2
  have z := y xs q
  rw [ex] at z
  cases z
  exact ⟨F1, .refl s2, rx.mono s1⟩
theorem I.list {tg : Expr} (he : E X B e f) : I X B tg e (lI asL f) := PI.imp (pi_list he) fun σ H Q ⟨F, η, ds, sr, hd, q⟩ => by
  obtain ⟨d, h1, hd⟩ := bind_some hd
  cases d <;> simp only [asL, Option.some.injEq, reduceCtorEq] at hd
  subst hd
  refine ⟨F, η, _, sr, h1, fun v F1 H1 g1 rv => ?_⟩
  obtain ⟨a, xs, rfl, hq, rs⟩ := rv.lst
  exact ⟨a, rfl, ⟨xs, g1.fh.seq hq⟩, q _ F1 H1 g1 (itp_list hq rs)⟩
theorem I.tup {tg : Expr} (he : E X B e f) : I X B tg e (lI asTu f) := PI.imp (pi_tup he) fun σ H Q ⟨F, η, ds, sr, hd, q⟩ => by
  obtain ⟨d, h1, hd⟩ := bind_some hd
  cases d <;> simp only [asTu, Option.some.injEq, reduceCtorEq] at hd
  subst hd
  refine ⟨F, η, _, sr, h1, fun v F1 H1 g1 rv => ?_⟩
  obtain ⟨a, xs, rfl, hq, rs⟩ := rv.tup
  exact ⟨a, rfl, ⟨xs, same_seqT g1.fh hq⟩, q _ F1 H1 g1 (itp_tup hq rs)⟩
noncomputable def rngL (lo : Int) (n : Nat) : List PyData := (List.range n).map fun (k : Nat) => PyData.int (lo + k)
theorem itp_rng {K : PySem.W.Frag} {F : Hp} {lo : Int} {n : Nat} : ItP K (Itr lo n) F (rngL lo n) := fun F1 H1 i s1 s2 => by
  have hl : (rngL lo n).length = n := by unfold rngL; rw [List.length_map, List.length_range]
  refine ⟨fun d e => ?_, fun e => by show n ≤ i; omega⟩
  have hi : i < n := by rw [← hl]; exact (List.getElem?_eq_some_iff.mp e).1
  refine ⟨hi, fun x H2 y => ?_⟩
  obtain ⟨e2, e3⟩ := y
  subst e2 e3
  have : d = .int (lo + i) := by
    unfold rngL at e
    rw [List.getElem?_map, List.getElem?_range hi] at e
    exact (Option.some.inj e).symm
  subst this
  exact ⟨F1, .refl s2, rel_int⟩
noncomputable def rng1 (ds : List PyData) : Option (List PyData) := match ds with
  | [.int j] => if -(2 ^ 62) ≤ j ∧ j < 2 ^ 62 then some (rngL 0 j.toNat) else none
  | _ => none
theorem I.rng1 {tg : Expr} {pp : Pos} (hm : X.mg "range" = none) (ha : A X B [a] fs) (hg : Gl X "range" := by rfl) (hs : starEach [a] X.env = [(false, eval a X.env)] := by exact star_of rfl) : I X B tg (.Call (.Name "range" pp) [a] [] pos) (fun η => (fs η).bind PU.rng1) :=
  PI.imp (pi_range1 hg hm ha hs) fun σ H Q ⟨F, η, ds, sr, hd, q⟩ => by
    obtain ⟨es, h1, hd⟩ := bind_some hd
    unfold PU.rng1 at hd
    split at hd
    · rename_i j
      split at hd
      · rename_i hj
        cases hd
        refine ⟨F, η, _, sr, h1, fun vs F1 H1 g1 rs => ?_⟩
        obtain ⟨x, r, rfl, rx, rr⟩ := rs.cons_of
        obtain rfl := rr.nil_of
        exact ⟨j, by rw [rx.int], hj.1, hj.2, q _ F1 H1 g1 itp_rng⟩
      · cases hd
    · cases hd
end
noncomputable def inEn (mp : List (Option Nat)) (η : En) : En := mp.map fun o => match o with
  | some j => (match η[j]? with | some (.val d) => .val d | some (.ob fs) => .ob fs | _ => .un)
  | none => .un
noncomputable def cGo (t : En → PyData → Option En) (p : En → Option Bool) (f : En → Option PyData) (η : En) : List PyData → Option (List PyData)
  | [] => some []
  | d :: ds => (t η d).bind fun η1 => (p η1).bind fun ok => if ok = true then (f η1).bind fun y => (cGo t p f η ds).bind fun r => some (y :: r) else cGo t p f η ds
noncomputable def sComp (mp : List (Option Nat)) (fi : En → Option (List PyData)) (t : En → PyData → Option En) (p : En → Option Bool) (f : En → Option PyData) : En → Option (List PyData) := fun η =>
  (fi η).bind fun ds => if ds.length ≤ sizeLine then cGo t p f (inEn mp η) ds else none
noncomputable def Ts (X : Cx) (B : Bd) (ifs : List Expr) (p : En → Option Bool) : Prop := PTs X ifs (tT X.K B p)
noncomputable def tTrue : En → Option Bool := fun _ => some true
section
variable {X : Cx} {B : Bd}
theorem Ts.nil : Ts X B [] tTrue := fun pins s σ H Q I ⟨F, η, b, sr, hd, q⟩ => by
  cases hd
  exact pts_nil pins s σ H Q I (q F H (.refl sr.same))
theorem Ts.one {c : Expr} {p : En → Option Bool} (h : T X B c p) : Ts X B [c] p := pts_one h
theorem inEn_no {mp : List (Option Nat)} {η : En} {i : Nat} {a : Sl} (e : (inEn mp η)[i]? = some a) : isOwn a = false := by
  unfold inEn at e
  rw [List.getElem?_map] at e
  cases q : mp[i]? with
  | none => rw [q] at e; cases e
  | some o =>
    rw [q] at e
    cases o with
    | none => cases e; rfl
    | some j =>
      have e' : (match η[j]? with | some (.val d) => Sl.val d | some (.ob fs) => .ob fs | _ => .un) = a := Option.some.inj e
      split at e' <;> (subst e'; rfl)
theorem EnR.inner {K : PySem.W.Frag} {He F H : Hp} {σ : St} {η : En} (r : EnR K He F H σ η) (mp : List (Option Nat)) : EnR K He F H (inSt mp σ) (inEn mp η) where
  len := by unfold inEn inSt; rw [List.length_map, List.length_map]
  val := fun i d e => by
    unfold inEn at e
    rw [List.getElem?_map] at e
    cases q : mp[i]? with
    | none => rw [q] at e; cases e
    | some o =>
      rw [q] at e
      cases o with
      | none => cases e
      | some j =>
        have e' : (match η[j]? with | some (.val d) => Sl.val d | some (.ob fs) => .ob fs | _ => .un) = .val d := Option.some.inj e
        split at e'
        · rename_i d' ed
          have : d' = d := by injection e'
          subst this
          obtain ⟨v, e1, e2⟩ := r.val j d' ed
          refine ⟨v, ?_, e2⟩
          unfold inSt
          rw [List.getElem?_map, q]
          show some ((σ[j]?).join) = _
          rw [e1]
          rfl
        · cases e'
        · cases e'
  obs := fun i fs e => by
    unfold inEn at e
    rw [List.getElem?_map] at e
    cases q : mp[i]? with
    | none => rw [q] at e; cases e
    | some o =>
      rw [q] at e
      cases o with
      | none => cases e
      | some j =>
        have e' : (match η[j]? with | some (.val d) => Sl.val d | some (.ob fs) => .ob fs | _ => .un) = .ob fs := Option.some.inj e
        split at e'
        · cases e'
        · rename_i d' ed
          have : d' = fs := by injection e'
          subst this
          obtain ⟨p, C, dx, xs, e1, e2⟩ := r.obs j d' ed
          refine ⟨p, C, dx, xs, ?_, e2⟩
          unfold inSt
          rw [List.getElem?_map, q]
          show some ((σ[j]?).join) = _
          rw [e1]
          rfl
        · cases e'
  cel := fun i a e ha => by rw [inEn_no e] at ha; cases ha
  apart := fun i j a b e _ ha _ _ => by rw [inEn_no e] at ha; cases ha
variable {elt iter tg : Expr} {ifs : List Expr} {scope : Scope} {pos : Pos} {N' : List Str} {mp : List (Option Nat)} {ks : List Nat} {gt : TG} {t : En → PyData → Option En} {fi : En → Option (List PyData)} {p : En → Option Bool} {f : En → Option PyData}
theorem comp_of {K : PySem.W.Frag} (ht : TgP K ks gt t) (hks : ∀ k ∈ ks, mp[k]? = some none) : ∀ σ H Q, tO K B (sComp mp fi t p f) σ H Q → tComp mp (tI K B fi) gt (tT K B p) (tE K B f) σ H Q := fun σ H Q ⟨F, η, rs, sr, hd, q⟩ => by
  obtain ⟨ds, h1, hd⟩ := bind_some hd
  split at hd
  rotate_left
  · cases hd
  rename_i hz
  refine ⟨F, η, ds, sr, h1, fun J F1 H1 g1 ip D hD => ?_⟩
  have fD : F1 D = none := g1.fh.free hD
  have kept : ∀ {σ2 : St}, σ2.length = (inSt mp σ).length → (∀ i, i ∉ ks → σ2[i]? = (inSt mp σ)[i]?) → KeepsSt (inSt mp σ) σ2 := fun {σ2} hl hn => ⟨hl, fun i v e => by
    by_cases hi : i ∈ ks
    · have z := hks i hi
      unfold inSt at e
      rw [List.getElem?_map, z] at e
      cases e
    · rw [hn i hi]; exact e⟩
  refine ⟨fun i m Hc => m = ds.length - i ∧ i ≤ ds.length ∧ ∃ Fc ys done rest, Gr F1 H1 Fc Hc ∧ Fc D = none ∧ Hc D = some (.lst ys) ∧ RelL K Fc done ys ∧ done.length ≤ i ∧ cGo t p f (inEn mp η) (ds.drop i) = some rest ∧ rs = done ++ rest,
    ⟨_, rfl, Nat.zero_le _, F1, [], [], rs, ⟨.refl _, same_new hD _, fun b u z => same_new hD _ b u (g1.fh b u z), fun b z => .inl z⟩, fD, upd_same, .nil, Nat.le_refl _, by simpa using hd, rfl⟩, ?_⟩
  rintro i m Hc ⟨rfl, hi, Fc, ys, done, rest, gc, fcD, hcD, rd, hdl, hgo, hrs⟩
  obtain ⟨ip1, ip2⟩ := ip Fc Hc i gc.ff gc.fh
  by_cases hlt : i < ds.length
  · have e : ds[i]? = some ds[i] := List.getElem?_eq_getElem hlt
    obtain ⟨go, yl⟩ := ip1 _ e
    rw [List.drop_eq_getElem_cons hlt] at hgo
    unfold cGo at hgo
    obtain ⟨η1, e1, hgo⟩ := bind_some hgo
    obtain ⟨ok, e2, hgo⟩ := bind_some hgo
    refine .inr ⟨go, fun H' => ∃ m', m' < ds.length - i ∧ (m' = ds.length - (i + 1) ∧ i + 1 ≤ ds.length ∧ ∃ Fc ys done rest, Gr F1 H1 Fc H' ∧ Fc D = none ∧ H' D = some (.lst ys) ∧ RelL K Fc done ys ∧ done.length ≤ i + 1 ∧ cGo t p f (inEn mp η) (ds.drop (i + 1)) = some rest ∧ rs = done ++ rest), fun H' n => n, fun x H' y => ?_⟩
    obtain ⟨F2, g2, rx⟩ := yl x H' y
    have sin : SR K B F2 H' (inSt mp σ) (inEn mp η) := ⟨(sr.gr.trans g1).trans (gc.trans g2), ((sr.en.grow g1).inner mp).grow (gc.trans g2)⟩
    refine ht B F2 H' (inSt mp σ) (inEn mp η) _ x η1 sin rx e1 _ fun σ3 F3 H3 sr3 g3 l3 n3 => ⟨kept l3 n3, F3, η1, ok, sr3, e2, fun F4 H4 g4 => ?_⟩
    have gall : Gr Fc Hc F4 H4 := (g2.trans g3).trans g4
    have nD : ∀ {F5 H5 : Hp}, Gr Fc Hc F5 H5 → F5 D = none := fun {F5 H5} g => by
      cases z : F5 D with
      | none => rfl
      | some o =>
        rcases g.new D (by rw [z]; simp) with w | w
        · exact absurd fcD w
        · rw [hcD] at w; cases w
    cases ok with
    | false =>
      rw [if_neg Bool.false_ne_true] at hgo
      refine iteF ?_
      exact ⟨ds.length - (i + 1), by omega, rfl, hlt, F4, ys, done, rest, gc.trans gall, nD gall, gall.hh _ _ hcD, rd.mono gall.ff, Nat.le_succ_of_le hdl, hgo, hrs⟩
    | true =>
      rw [if_pos rfl] at hgo
      refine iteT ?_
      obtain ⟨yv, e3, hgo⟩ := bind_some hgo
      obtain ⟨r, e4, hgo⟩ := bind_some hgo
      cases hgo
      refine ⟨F4, η1, yv, sr3.grow g4, e3, fun v F5 H5 g5 rv => ?_⟩
      have ga := gall.trans g5
      have h5D := ga.hh _ _ hcD
      refine ⟨ys, h5D, by rw [rd.length]; omega, ds.length - (i + 1), by omega, rfl, hlt, F5, ys ++ [v], done ++ [yv], r, ?_, nD ga, upd_same, (rd.mono ga.ff).append (.cons rv .nil), by rw [List.length_append, List.length_singleton]; omega, e4, by rw [hrs, List.append_assoc]; rfl⟩
      have gt' := gc.trans ga
      refine ⟨gt'.ff, fun b u z => ?_, fun b u z => ?_, gt'.new⟩
      · have nb : b ≠ D := ne_of_none z hD
        rw [upd_ne nb]; exact gt'.hh b u z
      · have nb : b ≠ D := ne_of_none z (nD ga)
        rw [upd_ne nb]; exact gt'.fh b u z
  · have ei : i = ds.length := by omega
    subst ei
    rw [List.drop_length] at hgo
    cases hgo
    rw [List.append_nil] at hrs
    subst hrs
    exact .inl ⟨ip2 rfl, q D ys Fc Hc (g1.trans gc) (g1.hh.free hD) fcD hcD rd⟩
theorem EO.comp (hc : X.calm = true) (ck : CompSc X scope N' mp) (ht : TgP X.K ks gt t) (hks : ∀ k ∈ ks, mp[k]? = some none) (hi : I X B tg iter fi)
    (hb : ∀ s H fp, PG (compCx X scope N' s H fp) tg gt ∧ Ts (compCx X scope N' s H fp) B ifs p ∧ E (compCx X scope N' s H fp) B elt f)
    (hs : ∀ x, foldedSetIterable iter X.env x = pure x := by intro _; rfl) : EO X B (.ListComp elt [⟨tg, iter, ifs, 0⟩] scope pos) (sComp mp fi t p f) := PE.imp (pe_comp hc ck hi hb hs) (comp_of ht hks)
theorem S.setC (i : Nat) {y : Str} {py spos : Pos} (hc : X.calm = true) (hN : X.N.Nodup) (ck : CompSc X scope N' mp) (ht : TgP X.K ks gt t) (hks : ∀ k ∈ ks, mp[k]? = some none) (hi : I X B tg iter fi)
    (hb : ∀ s H fp, PG (compCx X scope N' s H fp) tg gt ∧ Ts (compCx X scope N' s H fp) B ifs p ∧ E (compCx X scope N' s H fp) B elt f)
    (hiy : X.N[i]? = some y := by rfl) (hy : X.env.scope.names.lookup y = some .local := by rfl) (hsw : swapsWith (.ListComp elt [⟨tg, iter, ifs, 0⟩] scope pos) (some (.Name y py)) spos.line X.env = pure true := by rfl)
    (hs : ∀ x, foldedSetIterable iter X.env x = pure x := by intro _; rfl) : S X B (.Assign [.Name y py] (.ListComp elt [⟨tg, iter, ifs, 0⟩] scope pos) spos) (sSetO i (sComp mp fi t p f)) :=
  PS.imp (ps_setComp hc hN hiy hy ck hi hb hsw hs) fun D σ H h => by
    have h' := asgO_of D σ H h
    exact comp_of ht hks σ H _ h'
end
noncomputable def runF (n m : Nat) (g : En → Option Out) (ds : List PyData) : Option PyData := if ds.length = n then (g (ds.map Sl.val ++ List.replicate (m - n) .un)).bind fun o => match o with
  | .rt d => some d
  | .nx _ => some .none
  | _ => none else none
section
variable {P : Program} {w : World} {K : PySem.W.Frag} {mg : Str → Option Value} {base : Heap}
theorem start_no {n : Nat} {ds : List PyData} {i : Nat} {a : Sl} (e : (ds.map Sl.val ++ List.replicate n .un)[i]? = some a) : isOwn a = false := by
  by_cases hi : i < ds.length
  · rw [List.getElem?_append_left (by rw [List.length_map]; exact hi), List.getElem?_map] at e
    cases q : ds[i]? with
    | none => rw [q] at e; cases e
    | some d' => rw [q] at e; cases e; rfl
  · rw [List.getElem?_append_right (by rw [List.length_map]; omega), List.getElem?_replicate] at e
    split at e <;> cases e
    rfl
theorem EnR.start {F H : Hp} {N : List Str} {ds : List PyData} {vs : List V} (r : RelL K F ds vs) : EnR K H F H (L2.start N vs) (ds.map Sl.val ++ List.replicate (N.length - ds.length) .un) where
  len := by unfold L2.start; rw [List.length_append, List.length_append, List.length_map, List.length_map, List.length_replicate, List.length_replicate, r.length]
  val := fun i d e => by
    unfold L2.start
    by_cases hi : i < ds.length
    · rw [List.getElem?_append_left (by rw [List.length_map]; exact hi), List.getElem?_map] at e
      rw [List.getElem?_append_left (by rw [List.length_map, r.length]; exact hi), List.getElem?_map]
      cases q : ds[i]? with
      | none => rw [q] at e; cases e
      | some d' =>
        rw [q] at e
        have : d' = d := by injection (Option.some.inj e)
        subst this
        obtain ⟨x, e1, e2⟩ := r.get q
        exact ⟨x, by rw [e1]; rfl, e2⟩
    · rw [List.getElem?_append_right (by rw [List.length_map]; omega), List.getElem?_replicate] at e
      split at e <;> cases e
  cel := fun i a e ha => by rw [start_no e] at ha; cases ha
  obs := fun i fs e => by
    by_cases hi : i < ds.length
    · rw [List.getElem?_append_left (by rw [List.length_map]; exact hi), List.getElem?_map] at e
      cases q : ds[i]? with
      | none => rw [q] at e; cases e
      | some d' => rw [q] at e; cases e
    · rw [List.getElem?_append_right (by rw [List.length_map]; omega), List.getElem?_replicate] at e
      split at e <;> cases e
  apart := fun i _ a _ e _ ha _ _ => by rw [start_no e] at ha; cases ha
theorem fnP {x qual : Str} {st : Stmt} {f : Addr} {fd : FuncData} {N ps : List Str} {k : Nat} {g : En → Option Out} (Fn : Fun K x qual st f fd) (Sc : FnScope N ps (defScope st))
    (hb : ∀ (cdv : Value) (A : Around) (outer : List Env) (s : Shared) (H : Hp) (E : XK) (F : Hp), Room k (A.deeper (envOfC qual (defScope st) s.heap.objs.size f cdv)) →
      Ss (cxOf CX0 P w K mg base N qual (defScope st) f cdv A outer s H E).nox ⟨F, H⟩ (defBody st) g) :
    FnOk P w K mg base CX0 (k + 1) f fd ps (spP K (runF ps.length N.length g)) := by
  have len : ∀ {F : Hp} {ds : List PyData} {vs : List V} {d : PyData}, RelL K F ds vs → runF ps.length N.length g ds = some d → ds.length = ps.length ∧ vs.length = ps.length := fun {F ds vs d} r e => by
    unfold runF at e
    split at e
    · rename_i hl
      exact ⟨hl, by rw [r.length]; exact hl⟩
    · cases e
  refine Fn.ok Sc (fun vs H Q E h => ?_) (fun cdv A outer s H vs Q E hr h => ?_)
  · obtain ⟨F, ds, d, _, r, e, _⟩ := h
    exact (len r e).2
  · obtain ⟨F, ds, d, sm, r, e, q⟩ := h
    obtain ⟨l1, l2⟩ := len r e
    refine ⟨_, hb cdv A outer s H E F hr, ?_⟩
    unfold runF at e
    rw [if_pos l1] at e
    obtain ⟨o, e1, e2⟩ := bind_some e
    refine ⟨F, _, o, ⟨.refl sm, ?_⟩, e1, ?_⟩
    · have z := EnR.start (K := K) (H := H) (N := N) r
      rw [l1] at z
      exact z
    · cases o with
      | rt d' =>
        cases e2
        exact fun v F' H' g rv => q v F' H' g rv
      | nx η' =>
        cases e2
        exact fun σ' F' H' sr _ => q .non F' H' sr.gr rel_non
      | bk η' => cases e2
      | ct η' => cases e2
theorem fn0 {f : Addr} {fd : FuncData} {ps : List Str} {k : Nat} : FnOk P w K mg base CX0 k f fd ps (spP K (fun _ => none)) :=
  ⟨fun vs H Q E h => (by obtain ⟨_, _, _, _, _, e, _⟩ := h; cases e), fun A outer s H args us vs Q E _ _ _ _ h => (by obtain ⟨_, _, _, _, _, e, _⟩ := h; cases e)⟩
end
section
variable {X : Cx}
mutual
theorem Rel.reads {pins : List (Addr × Obj)} {σ : St} {F H : Hp} {s : Shared} (I : Inv X pins σ H s) (sm : Same F H) : ∀ {d : PyData} {v : V} {u : Value}, PyData.canLay0 d = true → Rel X.K F d v → RelV v u → ∃ as, Reads s.heap u d as
  | .none, v, u, _, h, r => by
    rw [h.non] at r; cases r
    exact ⟨_, .none⟩
  | .bool b, v, u, _, h, r => by
    rw [h.bl] at r; cases r
    exact ⟨_, .bool b⟩
  | .int i, v, u, _, h, r => by
    rw [h.int] at r; obtain ⟨t, rfl⟩ := r
    exact ⟨_, .int i t⟩
  | .str x, v, u, _, h, r => by
    rw [h.str] at r; obtain ⟨t, rfl⟩ := r
    exact ⟨_, .str x t⟩
  | .tuple ds, v, u, c, h, r => by
    unfold PyData.canLay0 at c
    obtain ⟨a, xs, rfl, hq, rs⟩ := h.tup
    cases r
    obtain ⟨its, rv, ⟨o, ho, hc, n, hd⟩, _⟩ := I.tuple (same_seqT sm hq)
    obtain ⟨as, h'⟩ := RelL.reads I sm c rs rv
    exact ⟨as, .tuple ho hc hd (by simpa using h')⟩
  | .list ds, v, u, c, h, r => by
    unfold PyData.canLay0 at c
    obtain ⟨a, xs, rfl, hq, rs⟩ := h.lst
    cases r
    obtain ⟨its, rv, p, _⟩ := I.list (sm.seq hq)
    obtain ⟨o, ho, hc, n, hd⟩ := p.isList
    obtain ⟨as, h'⟩ := RelL.reads I sm c rs rv
    exact ⟨a :: as, .list ho hc hd (by simpa using h')⟩
  | .dict _, v, u, c, h, r => by unfold PyData.canLay0 at c; cases c
theorem RelL.reads {pins : List (Addr × Obj)} {σ : St} {F H : Hp} {s : Shared} (I : Inv X pins σ H s) (sm : Same F H) : ∀ {ds : List PyData} {vs : List V} {us : List Value}, PyData.canLayAll0 ds = true → RelL X.K F ds vs → Vals vs us → ∃ as, ReadsAll s.heap us ds as
  | [], vs, us, _, h, r => by
    rw [h.nil_of] at r; cases r
    exact ⟨_, .nil⟩
  | d :: ds, vs, us, c, h, r => by
    unfold PyData.canLayAll0 at c
    obtain ⟨c1, c2⟩ := Bool.and_eq_true_iff.mp c
    obtain ⟨x, xs, rfl, h1, h2⟩ := h.cons_of
    cases r with
    | cons r1 r2 =>
      obtain ⟨as, e1⟩ := Rel.reads I sm c1 h1 r1
      obtain ⟨bs, e2⟩ := RelL.reads I sm c2 h2 r2
      exact ⟨as ++ bs, .cons e1 e2⟩
end
noncomputable def rEqD (K : PySem.W.Frag) (neg : Bool) : R2 := fun x y H Q => ∃ F dx dy, Same F H ∧ Rel K F dx x ∧ Rel K F dy y ∧ SeqAt.shaped dx = true ∧ SeqAt.shaped dy = true ∧ Q (.bl (if neg then !PyData.eqv dx dy else PyData.eqv dx dy)) H
theorem op_eqD (hu : X.A.units + 64 < cLine) : OpR X (compareOp .Eq) (rEqD X.K false) := by
  intro pins s σ H x y v u Q I rx ry h
  obtain ⟨F, dx, dy, sm, h1, h2, s1, s2, q⟩ := h
  obtain ⟨as, ra⟩ := Rel.reads I sm (SeqAt.canLay_of_shaped s1) h1 rx
  obtain ⟨bs, rb⟩ := Rel.reads I sm (SeqAt.canLay_of_shaped s2) h2 ry
  exact SeqAt.compareEq_shaped ra rb s1 s2 hu ⟨.bl _, H, I, rfl, q⟩
theorem op_neD (hu : X.A.units + 64 < cLine) : OpR X (compareOp .NotEq) (rEqD X.K true) := by
  intro pins s σ H x y v u Q I rx ry h
  obtain ⟨F, dx, dy, sm, h1, h2, s1, s2, q⟩ := h
  obtain ⟨as, ra⟩ := Rel.reads I sm (SeqAt.canLay_of_shaped s1) h1 rx
  obtain ⟨bs, rb⟩ := Rel.reads I sm (SeqAt.canLay_of_shaped s2) h2 ry
  exact SeqAt.compareNe_shaped ra rb s1 s2 hu ⟨.bl _, H, I, rfl, q⟩
noncomputable def pEq (x y : PyData) : Option PyData := if SeqAt.shaped x = true ∧ SeqAt.shaped y = true then some (.bool (PyData.eqv x y)) else none
noncomputable def pNe (x y : PyData) : Option PyData := if SeqAt.shaped x = true ∧ SeqAt.shaped y = true then some (.bool (!PyData.eqv x y)) else none
theorem ad_eq {K : PySem.W.Frag} : Ad2 K (rEqD K false) pEq := fun F H x y dx dy d Q sm rx ry e q => by
  unfold pEq at e
  split at e
  · rename_i hs
    cases e
    exact ⟨F, dx, dy, sm, rx, ry, hs.1, hs.2, q _ F H (.refl sm) rel_bl⟩
  · cases e
theorem ad_ne {K : PySem.W.Frag} : Ad2 K (rEqD K true) pNe := fun F H x y dx dy d Q sm rx ry e q => by
  unfold pNe at e
  split at e
  · rename_i hs
    cases e
    exact ⟨F, dx, dy, sm, rx, ry, hs.1, hs.2, q _ F H (.refl sm) rel_bl⟩
  · cases e
noncomputable def pI (C : Int → Int → Prop) [∀ i j, Decidable (C i j)] (g : Int → Int → PyData) (x y : PyData) : Option PyData := match x, y with
  | .int i, .int j => if C i j then some (g i j) else none
  | _, _ => none
instance : ∀ i j, Decidable (CMul i j) := fun i j => by unfold CMul; infer_instance
instance : ∀ i j, Decidable (CDiv i j) := fun i j => by unfold CDiv; infer_instance
theorem ad_I {K : PySem.W.Frag} {C : Int → Int → Prop} [∀ i j, Decidable (C i j)] {g : Int → Int → PyData} {gv : Int → Int → V} (hg : ∀ F i j, Rel K F (g i j) (gv i j)) : Ad2 K (rI C gv) (pI C g) := fun F H x y dx dy d Q sm rx ry e q => by
  cases dx <;> cases dy <;> simp only [pI, reduceCtorEq] at e
  split at e
  · rename_i hc
    cases e
    exact ⟨_, _, rx.int, ry.int, hc, q _ F H (.refl sm) (hg F _ _)⟩
  · cases e
theorem ad_I0 {K : PySem.W.Frag} {g : Int → Int → PyData} {gv : Int → Int → V} (hg : ∀ F i j, Rel K F (g i j) (gv i j)) : Ad2 K (rI0 gv) (pI (fun _ _ => True) g) := fun F H x y dx dy d Q sm rx ry e q => by
  cases dx <;> cases dy <;> simp only [pI, reduceCtorEq, if_true] at e
  cases e
  exact ⟨_, _, rx.int, ry.int, q _ F H (.refl sm) (hg F _ _)⟩
noncomputable def pSub := pI (fun _ _ => True) fun i j => .int (i - j)
noncomputable def pMul := pI CMul fun i j => .int (i * j)
noncomputable def pFdiv := pI CDiv fun i j => .int (i / j)
noncomputable def pMod := pI (fun _ j => 0 < j) fun i j => .int (i % j)
noncomputable def pGt := pI (fun _ _ => True) fun i j => .bool (decide (j < i))
section
variable {B : Bd} {a b : Expr} {f g : En → Option PyData} {pos : Pos}
theorem E.sub (ha : E X B a f) (hb : E X B b g) : E X B (.BinOp a .Sub b pos) (l2 pSub f g) := E.op op_sub (ad_I0 fun _ _ _ => rel_int) ha hb
theorem E.mul (ha : E X B a f) (hb : E X B b g) : E X B (.BinOp a .Mult b pos) (l2 pMul f g) := E.op op_mul (ad_I fun _ _ _ => rel_int) ha hb
theorem E.fdiv (ha : E X B a f) (hb : E X B b g) : E X B (.BinOp a .FloorDiv b pos) (l2 pFdiv f g) := E.op op_fdiv (ad_I fun _ _ _ => rel_int) ha hb
theorem E.mod (ha : E X B a f) (hb : E X B b g) : E X B (.BinOp a .Mod b pos) (l2 pMod f g) := E.op op_mod (ad_I fun _ _ _ => rel_int) ha hb
theorem E.eq {k : Nat} (hr : Room k X.A) (ha : E X B a f) (hb : E X B b g) : E X B (.Compare a [.Eq] [b] pos) (l2 pEq f g) := E.cmp (op_eqD hr.units) ad_eq (nomark b) ha hb
theorem T.eq {k : Nat} (hr : Room k X.A) (ha : E X B a f) (hb : E X B b g) : T X B (.Compare a [.Eq] [b] pos) (bT (l2 pEq f g)) := T.cmp (op_eqD hr.units) ad_eq (nomark b) ha hb
theorem T.ne {k : Nat} (hr : Room k X.A) (ha : E X B a f) (hb : E X B b g) : T X B (.Compare a [.NotEq] [b] pos) (bT (l2 pNe f g)) := T.cmp (op_neD hr.units) ad_ne (nomark b) ha hb
theorem T.gt (ha : E X B a f) (hb : E X B b g) : T X B (.Compare a [.Gt] [b] pos) (bT (l2 pGt f g)) := T.cmp op_gt (ad_I0 fun _ _ _ => rel_bl) (nomark b) ha hb
end
noncomputable def rCatS (K : PySem.W.Frag) : R2 := fun x y H Q => ∃ l b xs zs, x = .ref l ∧ y = .ref b ∧ SqL K H l xs ∧ SqL K H b zs ∧ xs.length + zs.length ≤ sizeLine ∧ ∀ p, H p = none → Q (.ref p) (upd H p (.lst (xs ++ zs)))
theorem op_catS : OpR X (binaryOp .Add) (rCatS X.K) := by
  intro pins s σ H x y v u Q I rx ry h
  obtain ⟨l, b, xs, zs, rfl, rfl, hH, hB, hz, q⟩ := h
  cases rx
  cases ry
  obtain ⟨its, r, ⟨⟨c1, d1, t1, sl1⟩, n, e, ec, ed, es⟩, z⟩ := I.list hH
  obtain ⟨its2, r2, ⟨⟨c2, d2, t2, sl2⟩, n2, e2, ec2, ed2, es2⟩, z2⟩ := I.list hB
  have hl := r.length
  have hl2 := r2.length
  simp only at ec ed es ec2 ed2 es2
  subst ec ed es ec2 ed2 es2
  have ea : its.toArray ++ its2.toArray = (its ++ its2).toArray := by simp
  refine concat_meets ⟨_, e, rfl⟩ ⟨_, e2, rfl⟩ PySem.noFill_list_add PySem.seq_list_add PySem.F.slot_list_add PySem.F.entry_list_add (PySem.F.args_list_add_2 _ _)
      (list_addW l b its.toArray its2.toArray n n2 none none sl1 sl2 (by rw [List.size_toArray, List.size_toArray]; omega)) ⟨e, e2, ?_⟩
  rw [ea]
  exact ⟨.ref _, _, I.lnew (t' := s.toks) (r.append r2) (by rw [List.length_append]; omega), rfl, q _ I.fresh⟩
noncomputable def rCatTT (K : PySem.W.Frag) : R2 := fun x y H Q => ∃ a b xs ys, x = .ref a ∧ y = .ref b ∧ SqT K H a xs ∧ SqT K H b ys ∧ xs.length + ys.length ≤ sizeLine ∧
  (xs = [] → Q (.ref b) H) ∧ (xs ≠ [] → ys = [] → Q (.ref a) H) ∧ (∀ p, H p = none → Q (.ref p) (upd H p (.tup (xs ++ ys))))
theorem op_catTT : OpR X (binaryOp .Add) (rCatTT X.K) := by
  intro pins s σ H x y v u Q I rx ry h
  obtain ⟨a, b, xs, ys, rfl, rfl, ha, hb, hz, q0, q1, q2⟩ := h
  cases rx
  cases ry
  obtain ⟨its, r1, p1, _⟩ := I.tuple ha
  obtain ⟨its2, r2, p2, _⟩ := I.tuple hb
  by_cases hx : xs = []
  · have hi : its = [] := r1.nil_iff.mpr hx
    obtain ⟨⟨cls, dd, data, sl⟩, ho, hc, n, hd⟩ := id p1
    obtain ⟨⟨cls2, dd2, data2, sl2⟩, ho2, hc2, n2, hd2⟩ := id p2
    simp only at hc hd hc2 hd2
    subst hc hd hc2 hd2
    exact concat_meets ⟨_, ho, rfl⟩ ⟨_, ho2, rfl⟩ noFill_tuple_add seq_tuple_add PySem.F.slot_tuple_add PySem.F.entry_tuple_add (PySem.F.args_tuple_add_2 _ _)
      (tuple_addW0 a b its.toArray its2.toArray n n2 dd dd2 sl sl2 (by simp [hi])) ⟨ho, ho2, ⟨.ref b, H, I, rfl, q0 hx⟩⟩
  · refine HT.cat_tup p1 p2 (fun z => hx (r1.nil_iff.mp z)) (fun z => ⟨.ref a, H, I, rfl, q1 hx (r2.nil_iff.mp z)⟩) (fun z => ?_) (by rw [← r1.length, ← r2.length]; exact hz)
    refine ⟨.ref s.heap.objs.size, _, I.laid (t' := s.toks) (o := .tup (xs ++ ys)) (fun b ob q => Heap.get?_push_of_some _ q) (Nat.le_refl _) ?_, rfl, q2 _ (I.hok.fresh (Nat.le_refl _))⟩
    exact ⟨by rw [List.length_append]; exact hz, _, r1.append r2, IsTup.new _ _⟩
noncomputable def pAdd (x y : PyData) : Option PyData := match x, y with
  | .int i, .int j => some (.int (i + j))
  | .str i, .str j => if i.length + j.length ≤ sizeLine then some (.str (i ++ j)) else none
  | .list i, .list j => if i.length + j.length ≤ sizeLine then some (.list (i ++ j)) else none
  | .tuple i, .tuple j => if i.length + j.length ≤ sizeLine then some (.tuple (i ++ j)) else none
  | _, _ => none
theorem op_addA : OpR X (binaryOp .Add) (fun x y H Q => (∃ i j, x = .int i ∧ y = .int j ∧ Q (.int (i + j)) H) ∨ (∃ i j, x = .str i ∧ y = .str j ∧ i.length + j.length ≤ sizeLine ∧ Q (.str (i ++ j)) H) ∨ rCatS X.K x y H Q ∨ rCatTT X.K x y H Q) :=
  op_add.or (op_add_str.or (op_catS.or op_catTT))
theorem ad_add {K : PySem.W.Frag} : Ad2 K (fun x y H Q => (∃ i j, x = .int i ∧ y = .int j ∧ Q (.int (i + j)) H) ∨ (∃ i j, x = .str i ∧ y = .str j ∧ i.length + j.length ≤ sizeLine ∧ Q (.str (i ++ j)) H) ∨ rCatS K x y H Q ∨ rCatTT K x y H Q) pAdd := fun F H x y dx dy d Q sm rx ry e q => by
  unfold pAdd at e
  split at e
  · cases e
    exact .inl ⟨_, _, rx.int, ry.int, q _ F H (.refl sm) rel_int⟩
  · split at e
    · rename_i hz
      cases e
      exact .inr (.inl ⟨_, _, rx.str, ry.str, hz, q _ F H (.refl sm) rel_str⟩)
    · cases e
  · split at e
    · rename_i hz
      cases e
      obtain ⟨a, xs, rfl, h1, r1⟩ := rx.lst
      obtain ⟨b, ys, rfl, h2, r2⟩ := ry.lst
      refine .inr (.inr (.inl ⟨a, b, xs, ys, rfl, rfl, sm.seq h1, sm.seq h2, by rw [r1.length, r2.length]; exact hz, fun p hp => ?_⟩))
      have g := Gr.one (o := .lst (xs ++ ys)) sm hp
      exact q _ _ _ g (rel_lst (SqL.of upd_same) ((r1.append r2).mono g.ff))
    · cases e
  · rename_i i j
    split at e
    · rename_i hz
      cases e
      obtain ⟨a, xs, rfl, h1, r1⟩ := rx.tup
      obtain ⟨b, ys, rfl, h2, r2⟩ := ry.tup
      refine .inr (.inr (.inr ⟨a, b, xs, ys, rfl, rfl, same_seqT sm h1, same_seqT sm h2, by rw [r1.length, r2.length]; exact hz, fun z => ?_, fun z1 z2 => ?_, fun p hp => ?_⟩))
      · subst z
        have := List.eq_nil_of_length_eq_zero r1.length.symm
        subst this
        exact q _ F H (.refl sm) (rel_tup h2 (by simpa using r2))
      · subst z2
        have := List.eq_nil_of_length_eq_zero r2.length.symm
        subst this
        exact q _ F H (.refl sm) (rel_tup h1 (by simpa using r1))
      · have g := Gr.one (o := .tup (xs ++ ys)) sm hp
        exact q _ _ _ g (rel_tup (SqT.of upd_same) ((r1.append r2).mono g.ff))
    · cases e
  · cases e
section
variable {B : Bd} {a b e : Expr} {es : List Expr} {f g : En → Option PyData} {fs : En → Option (List PyData)} {pos pp : Pos}
theorem E.add (ha : E X B a f) (hb : E X B b g) : E X B (.BinOp a .Add b pos) (l2 pAdd f g) := E.op op_addA ad_add ha hb
noncomputable def pNeg : PyData → Option PyData
  | .int i => some (.int (-i))
  | _ => none
theorem E.neg (ha : E X B a f) : E X B (.UnaryOp .USub a pos) (l1 pNeg f) := PE.imp (pe_un un_neg ha) fun σ H Q ⟨F, η, d, sr, hd, q⟩ => by
  obtain ⟨x, hx, hd⟩ := bind_some hd
  cases x <;> simp only [pNeg, reduceCtorEq, Option.some.injEq] at hd
  subst hd
  exact ⟨F, η, _, sr, hx, fun v F1 H1 g1 rv => ⟨_, rv.int, q _ F1 H1 g1 rel_int⟩⟩
noncomputable def pIx (x y : PyData) : Option PyData := match x, y with
  | .list ds, .int i => atI ds i
  | .tuple ds, .int i => atI ds i
  | .str z, .int i => if z.length ≤ sizeLine then (atI z.cps.toList i).bind fun c => some (.str ⟨#[c]⟩) else none
  | _, _ => none
theorem atI_rel {K : PySem.W.Frag} {F : Hp} {ds : List PyData} {xs : List V} {i : Int} {d : PyData} (r : RelL K F ds xs) (e : atI ds i = some d) : ∃ x, atI xs i = some x ∧ Rel K F d x := by
  unfold atI at e ⊢
  rw [r.length]
  obtain ⟨j, h1, h2⟩ := bind_some e
  rw [h1]
  obtain ⟨x, h3, h4⟩ := r.get h2
  exact ⟨x, h3, h4⟩
theorem ad_ix {K : PySem.W.Frag} : Ad2 K (rIx K) pIx := fun F H x y dx dy d Q sm rx ry e q => by
  unfold pIx at e
  split at e
  · obtain ⟨a, xs, rfl, h1, r1⟩ := rx.lst
    obtain ⟨v, h2, h3⟩ := atI_rel r1 e
    exact .inl ⟨a, xs, _, v, rfl, ry.int, sm.seq h1, h2, q _ F H (.refl sm) h3⟩
  · obtain ⟨a, xs, rfl, h1, r1⟩ := rx.tup
    obtain ⟨v, h2, h3⟩ := atI_rel r1 e
    exact .inr (.inl ⟨a, xs, _, v, rfl, ry.int, same_seqT sm h1, h2, q _ F H (.refl sm) h3⟩)
  · split at e
    · rename_i hz
      obtain ⟨c, h1, h2⟩ := bind_some e
      cases h2
      exact .inr (.inr ⟨_, _, c, rx.str, ry.int, hz, h1, q _ F H (.refl sm) rel_str⟩)
    · cases e
  · cases e
theorem E.at (ha : E X B a f) (hb : E X B b g) (hs : PlainIx b := by intro _ _; rfl) : E X B (.Subscript a b pos) (l2 pIx f g) := E.ix ix_seq ad_ix ha hb hs
noncomputable def flatD : PyData → Bool
  | .none => true
  | .bool _ => true
  | .int _ => true
  | .str _ => true
  | _ => false
theorem flat_of {K : PySem.W.Frag} {F : Hp} {d : PyData} {v : V} (h : flatD d = true) (r : Rel K F d v) : flatV v = true := by
  cases d <;> simp [flatD] at h
  · rw [r.non]; rfl
  · rw [r.bl]; rfl
  · rw [r.int]; rfl
  · rw [r.str]; rfl
theorem flats_of {K : PySem.W.Frag} {F : Hp} : ∀ {ds : List PyData} {vs : List V}, ds.all flatD = true → RelL K F ds vs → vs.all flatV = true
  | [], vs, _, r => by rw [r.nil_of]; rfl
  | d :: ds, vs, h, r => by
    obtain ⟨x, xs, rfl, r1, r2⟩ := r.cons_of
    rw [List.all_cons, Bool.and_eq_true] at h ⊢
    exact ⟨flat_of h.1 r1, flats_of h.2 r2⟩
theorem eqV_of {K : PySem.W.Frag} {F : Hp} {d e : PyData} {x y : V} (hd : flatD d = true) (he : flatD e = true) (r : Rel K F d x) (s : Rel K F e y) : eqV x y = PyData.eqv d e := by
  cases d <;> simp [flatD] at hd <;> cases e <;> simp [flatD] at he
  all_goals (first | rw [r.non] | rw [r.bl] | rw [r.int] | rw [r.str]) <;> (first | rw [s.non] | rw [s.bl] | rw [s.int] | rw [s.str])
  all_goals first | rfl | simp [eqV, PyData.eqv]
theorem inV_of {K : PySem.W.Frag} {F : Hp} {d : PyData} {x : V} (hd : flatD d = true) (r : Rel K F d x) : ∀ {ds : List PyData} {vs : List V}, ds.all flatD = true → RelL K F ds vs → inV x vs = ds.any fun y => PyData.eqv y d
  | [], vs, _, rs => by rw [rs.nil_of]; rfl
  | e :: ds, vs, h, rs => by
    obtain ⟨y, xs, rfl, r1, r2⟩ := rs.cons_of
    rw [List.all_cons, Bool.and_eq_true] at h
    have ih := inV_of hd r h.2 r2
    unfold inV at ih ⊢
    rw [List.any_cons, List.any_cons, ih, eqV_of h.1 hd r1 r]
noncomputable def pIn (neg : Bool) (x y : PyData) : Option PyData := match y with
  | .list ds => if flatD x = true ∧ ds.all flatD = true then some (.bool (if neg then !(ds.any fun y => PyData.eqv y x) else ds.any fun y => PyData.eqv y x)) else none
  | .tuple ds => if flatD x = true ∧ ds.all flatD = true then some (.bool (if neg then !(ds.any fun y => PyData.eqv y x) else ds.any fun y => PyData.eqv y x)) else none
  | .str j => match x with
    | .str i => some (.bool (if neg then !(!(Builtin.Str.occurrences j i 0 j.length 1).isEmpty) else !(Builtin.Str.occurrences j i 0 j.length 1).isEmpty))
    | _ => none
  | _ => none
noncomputable def rInA (K : PySem.W.Frag) (neg : Bool) : R2 := fun x y H Q => rIn K neg x y H Q ∨ (∃ i j, x = .str i ∧ y = .str j ∧ Q (.bl (if neg then !(!(Builtin.Str.occurrences j i 0 j.length 1).isEmpty) else !(Builtin.Str.occurrences j i 0 j.length 1).isEmpty)) H)
theorem op_inA : OpR X (compareOp .In) (rInA X.K false) := op_in_seq.or op_in_str
theorem op_notInA : OpR X (compareOp .NotIn) (rInA X.K true) := op_notIn_seq.or op_notIn_str
theorem ad_in {K : PySem.W.Frag} {neg : Bool} : Ad2 K (rInA K neg) (pIn neg) := fun F H x y dx dy d Q sm rx ry e q => by
  unfold pIn at e
  split at e
  · split at e
    · rename_i hf
      cases e
      obtain ⟨b, ys, rfl, h2, r2⟩ := ry.lst
      refine .inl ⟨b, ys, rfl, .inl (sm.seq h2), flat_of hf.1 rx, flats_of hf.2 r2, ?_⟩
      rw [inV_of hf.1 rx hf.2 r2]
      exact q _ F H (.refl sm) rel_bl
    · cases e
  · split at e
    · rename_i hf
      cases e
      obtain ⟨b, ys, rfl, h2, r2⟩ := ry.tup
      refine .inl ⟨b, ys, rfl, .inr (same_seqT sm h2), flat_of hf.1 rx, flats_of hf.2 r2, ?_⟩
      rw [inV_of hf.1 rx hf.2 r2]
      exact q _ F H (.refl sm) rel_bl
    · cases e
  · split at e
    · cases e
      exact .inr ⟨_, _, rx.str, ry.str, q _ F H (.refl sm) rel_bl⟩
    · cases e
  · cases e
theorem T.in (ha : E X B a f) (hb : E X B b g) (hm : behindInMarks .In b = false := by with_unfolding_all rfl) : T X B (.Compare a [.In] [b] pos) (bT (l2 (pIn false) f g)) := T.cmp op_inA ad_in hm ha hb
theorem T.notIn (ha : E X B a f) (hb : E X B b g) (hm : behindInMarks .NotIn b = false := by with_unfolding_all rfl) : T X B (.Compare a [.NotIn] [b] pos) (bT (l2 (pIn true) f g)) := T.cmp op_notInA ad_in hm ha hb
theorem E.in (ha : E X B a f) (hb : E X B b g) (hm : behindInMarks .In b = false := by with_unfolding_all rfl) : E X B (.Compare a [.In] [b] pos) (l2 (pIn false) f g) := E.cmp op_inA ad_in hm ha hb
noncomputable def AdA (K : PySem.W.Frag) (r : List V → Hp → VK → Prop) (o : List PyData → Option PyData) : Prop :=
  ∀ F H xs ds d Q, Same F H → RelL K F ds xs → o ds = some d → (∀ v F' H', Gr F H F' H' → Rel K F' d v → Q v H') → r xs H Q
theorem tCB_of {K : PySem.W.Frag} {r : List V → Hp → VK → Prop} {o : List PyData → Option PyData} (ad : AdA K r o) : ∀ σ H Q, tE K B (lA o fs) σ H Q → tCB r (tA K B fs) σ H Q := fun σ H Q ⟨F, η, d, sr, hd, q⟩ => by
  obtain ⟨ds, hx, hd⟩ := bind_some hd
  exact ⟨F, η, ds, sr, hx, fun vs F1 H1 g1 rs => ad F1 H1 vs ds d Q g1.fh rs hd fun v F2 H2 g2 rv => q v F2 H2 (g1.trans g2) rv⟩
theorem E.callB {x : Str} {id : String} {r : List V → Hp → VK → Prop} {o : List PyData → Option PyData} (hc : CallR X (.builtin id) r) (ad : AdA X.K r o) (hm : X.mg x = none) (hv : bootBuiltins x = some (.builtin id)) (ha : A X B (e :: es) fs) (hg : Gl X x := by rfl) (hn : x ≠ "__name__" := by decide) (hdb : (x == ("__debug__" : Str)) = false := by decide)
    (he : starEach (e :: es) X.env = (false, eval e X.env) :: starEach es X.env := by exact star_of rfl) (hpl : (backTo pos (starEach es X.env)).any (·.1) = false := by exact plain_of rfl) : E X B (.Call (.Name x pp) (e :: es) [] pos) (lA o fs) :=
  PE.imp (pe_callB hc hg hm hv ha hn hdb he hpl) (tCB_of ad)
theorem E.callTy {x : Str} {id : String} {r : List V → Hp → VK → Prop} {o : List PyData → Option PyData} (hc : CallR X (.type id) r) (ad : AdA X.K r o) (hm : X.mg x = none) (hv : bootBuiltins x = some (.type id)) (ha : A X B (e :: es) fs) (hg : Gl X x := by rfl) (hn : x ≠ "__name__" := by decide) (hdb : (x == ("__debug__" : Str)) = false := by decide)
    (he : starEach (e :: es) X.env = (false, eval e X.env) :: starEach es X.env := by exact star_of rfl) (hpl : (backTo pos (starEach es X.env)).any (·.1) = false := by exact plain_of rfl) : E X B (.Call (.Name x pp) (e :: es) [] pos) (lA o fs) :=
  PE.imp (pe_callTy hc hg hm hv ha hn hdb he hpl) (tCB_of ad)
noncomputable def pLen (ds : List PyData) : Option PyData := match ds with
  | [.list xs] => some (.int xs.length)
  | [.tuple xs] => some (.int xs.length)
  | [.str z] => if z.length ≤ sizeLine then some (.int z.length) else none
  | _ => none
theorem ad_len {K : PySem.W.Frag} : AdA K (fun xs H Q => (∃ p ys, xs = [.ref p] ∧ (SqL K H p ys ∨ SqT K H p ys) ∧ Q (.int ys.length) H) ∨ (∃ z, xs = [.str z] ∧ z.length ≤ sizeLine ∧ Q (.int z.length) H)) pLen := fun F H xs ds d Q sm rs e q => by
  unfold pLen at e
  split at e
  · cases e
    obtain ⟨x, r, rfl, rx, rr⟩ := rs.cons_of
    obtain rfl := rr.nil_of
    obtain ⟨a, ys, rfl, h1, r1⟩ := rx.lst
    exact .inl ⟨a, ys, rfl, .inl (sm.seq h1), by rw [r1.length]; exact q _ F H (.refl sm) rel_int⟩
  · cases e
    obtain ⟨x, r, rfl, rx, rr⟩ := rs.cons_of
    obtain rfl := rr.nil_of
    obtain ⟨a, ys, rfl, h1, r1⟩ := rx.tup
    exact .inl ⟨a, ys, rfl, .inr (same_seqT sm h1), by rw [r1.length]; exact q _ F H (.refl sm) rel_int⟩
  · split at e
    · rename_i hz
      cases e
      obtain ⟨x, r, rfl, rx, rr⟩ := rs.cons_of
      obtain rfl := rr.nil_of
      exact .inr ⟨_, by rw [rx.str], hz, q _ F H (.refl sm) rel_int⟩
    · cases e
  · cases e
theorem E.len (hm : X.mg "len" = none) (ha : A X B [e] fs) (hg : Gl X "len" := by rfl) (he : starEach [e] X.env = (false, eval e X.env) :: starEach [] X.env := by exact star_of rfl) (hpl : (backTo pos (starEach [] X.env)).any (·.1) = false := by rfl) : E X B (.Call (.Name "len" pp) [e] [] pos) (lA pLen fs) :=
  E.callB (call_len_seq.or call_len_str) ad_len hm PySem.boot_len ha hg (by decide) (by decide) he hpl
noncomputable def pTup (ds : List PyData) : Option PyData := match ds with
  | [.list xs] => some (.tuple xs)
  | [.tuple xs] => some (.tuple xs)
  | _ => none
theorem ad_tup {K : PySem.W.Frag} : AdA K (fun xs H Q => ∃ p ys, xs = [.ref p] ∧ ((SqL K H p ys ∧ ∀ l, H l = none → Q (.ref l) (upd H l (.tup ys))) ∨ (SqT K H p ys ∧ Q (.ref p) H))) pTup := fun F H xs ds d Q sm rs e q => by
  unfold pTup at e
  split at e
  · cases e
    obtain ⟨x, r, rfl, rx, rr⟩ := rs.cons_of
    obtain rfl := rr.nil_of
    obtain ⟨a, ys, rfl, h1, r1⟩ := rx.lst
    refine ⟨a, ys, rfl, .inl ⟨sm.seq h1, fun p hp => ?_⟩⟩
    have g := Gr.one (o := .tup ys) sm hp
    exact q _ _ _ g (rel_tup (SqT.of upd_same) (r1.mono g.ff))
  · cases e
    obtain ⟨x, r, rfl, rx, rr⟩ := rs.cons_of
    obtain rfl := rr.nil_of
    obtain ⟨a, ys, rfl, h1, r1⟩ := rx.tup
    exact ⟨a, ys, rfl, .inr ⟨same_seqT sm h1, q _ F H (.refl sm) (rel_tup h1 r1)⟩⟩
  · cases e
theorem E.tuple (hm : X.mg "tuple" = none) (ha : A X B [e] fs) (hg : Gl X "tuple" := by rfl) (he : starEach [e] X.env = (false, eval e X.env) :: starEach [] X.env := by exact star_of rfl) (hpl : (backTo pos (starEach [] X.env)).any (·.1) = false := by rfl) : E X B (.Call (.Name "tuple" pp) [e] [] pos) (lA pTup fs) :=
  E.callTy call_tuple_of ad_tup hm (by decide +kernel) ha hg (by decide) (by decide) he hpl
end
end
noncomputable def cutL {α : Type} (xs : List α) (lo hi : Option Int) : List α := (xs.drop (HT.sIx xs.length 0 lo)).take (HT.sIx xs.length xs.length hi - HT.sIx xs.length 0 lo)
section
variable {X : Cx}
theorem RelL.cut {K : PySem.W.Frag} {F : Hp} {ds : List PyData} {xs : List V} (r : RelL K F ds xs) (lo hi : Option Int) : RelL K F (cutL ds lo hi) (cutV xs lo hi) := by
  unfold cutL cutV
  rw [r.length]
  exact (r.drop _).take _
theorem sl_tupW : SlR X (fun x lo hi H Q => ∃ a xs, x = .ref a ∧ SqT X.K H a xs ∧ (HT.sIx xs.length 0 lo = 0 ∧ HT.sIx xs.length xs.length hi = xs.length) ∧ Q (.ref a) H) := by
  intro pins s σ H x v vl vu lo hi sl Q I rx hs pl pu h
  obtain ⟨a, xs, rfl, hx, hw, q⟩ := h
  cases rx
  obtain ⟨its, r, ht, hz⟩ := I.tuple hx
  have hlen : its.toArray.size = xs.length := by rw [List.size_toArray]; exact r.length.symm
  refine ⟨"tuple", _, PyProof.Rows.slot_tuple_getitem.lookup, ht.typeIs, ?_⟩
  obtain ⟨os, hos, hcs, hds⟩ := id hs
  have hTs : s.TypeIs (.ref sl) "slice" := ⟨os, hos, hcs⟩
  unfold getItem
  try with_reducible refine wpAny_holding ?_
  first | refine wpAny_bind (wpAny_pure ?_) | skip
  refine wpAny_bind (wpAny_sequenceKey ht.typeIs (by decide) ?_)
  refine wpAny_bind (wpAny_callSpecial?_slot (name := Str.ofString "__getitem__") ht.typeIs PyProof.Rows.slot_tuple_getitem
    (wpAny_call_entry PyProof.Rows.slot_tuple_getitem ht.typeIs entry_tuple_getitem ?_ (args_tuple_getitem _ _)))
  show wpAny _ _ (Builtin.Tuple.tupleItemsOf (.ref a) >>= _) _ _ s
  refine wpAny_bind (tupleItemsOf_ ht ?_)
  refine wpAny_bind (wpAny_typeOf hTs ?_)
  rw [if_pos (by decide)]
  refine wpAny_bind (HT.sliceApplied_gen hs pl pu ?_)
  rw [hlen]
  have hyes : ((((HT.sIx xs.length 0 lo : Nat) : Int) == 0 && (1 : Int) == 1 && (HT.sIx xs.length xs.length hi - HT.sIx xs.length 0 lo) == xs.length) = true) := by
    rw [hw.1, hw.2]; simp
  show wpAny _ _ (if (((HT.sIx xs.length 0 lo : Nat) : Int) == 0 && (1 : Int) == 1 && (HT.sIx xs.length xs.length hi - HT.sIx xs.length 0 lo) == xs.length) = true then _ else _) _ _ s
  rw [if_pos hyes]
  have fin : EP X pins σ Q (.ref a) s := ⟨.ref a, H, I, rfl, q⟩
  refine wpAny_bind ?_
  unfold Builtin.Tuple.tupleIsExact
  refine wpAny_bind (wpAny_typeOf ht.typeIs (wpAny_pure ?_))
  rw [if_pos (by decide)]
  exact wpAny_bind (wpAny_rule (wpAny_pure ⟨_, rfl, wpAny_pure fin⟩))
noncomputable def pSl (x : PyData) (lo hi : Option Int) : Option PyData := match x with
  | .list ds => some (.list (cutL ds lo hi))
  | .tuple ds => some (.tuple (cutL ds lo hi))
  | _ => none
noncomputable def rSlA (K : PySem.W.Frag) : V → Option Int → Option Int → Hp → VK → Prop := fun x lo hi H Q => rSlL K x lo hi H Q ∨ rSlT K x lo hi H Q ∨ (∃ a xs, x = .ref a ∧ SqT K H a xs ∧ (HT.sIx xs.length 0 lo = 0 ∧ HT.sIx xs.length xs.length hi = xs.length) ∧ Q (.ref a) H)
theorem sl_A : SlR X (rSlA X.K) := sl_list.or (sl_tup.or sl_tupW)
theorem ad_sl {K : PySem.W.Frag} {F H : Hp} {x : V} {dx d : PyData} {lo hi : Option Int} {Q : VK} (sm : Same F H) (rx : Rel K F dx x) (e : pSl dx lo hi = some d) (q : ∀ v F' H', Gr F H F' H' → Rel K F' d v → Q v H') : rSlA K x lo hi H Q := by
  unfold pSl at e
  split at e
  · cases e
    obtain ⟨a, xs, rfl, h1, r1⟩ := rx.lst
    refine .inl ⟨a, xs, rfl, sm.seq h1, fun p hp => ?_⟩
    have g := Gr.one (o := .lst (cutV xs lo hi)) sm hp
    exact q _ _ _ g (rel_lst (SqL.of upd_same) ((r1.cut lo hi).mono g.ff))
  · cases e
    obtain ⟨a, xs, rfl, h1, r1⟩ := rx.tup
    by_cases hw : HT.sIx xs.length 0 lo = 0 ∧ HT.sIx xs.length xs.length hi = xs.length
    · refine .inr (.inr ⟨a, xs, rfl, same_seqT sm h1, hw, q _ F H (.refl sm) (rel_tup h1 ?_)⟩)
      have := r1.cut lo hi
      have e2 : cutV xs lo hi = xs := by
        unfold cutV
        rw [hw.1, hw.2]
        simp
      rw [e2] at this
      exact this
    · refine .inr (.inl ⟨a, xs, rfl, same_seqT sm h1, hw, fun p hp => ?_⟩)
      have g := Gr.one (o := .tup (cutV xs lo hi)) sm hp
      exact q _ _ _ g (rel_tup (SqT.of upd_same) ((r1.cut lo hi).mono g.ff))
  · cases e
section
variable {B : Bd} {a b e : Expr} {es : List Expr} {f g : En → Option PyData} {fs : En → Option (List PyData)} {pos pp p2 : Pos} {lo hi : Option Expr} {fl fh : En → Option (Option Int)}
noncomputable def tP (K : PySem.W.Frag) (B : Bd) (f : En → Option (Option Int)) : TO := fun σ H Q => ∃ F η o, SR K B F H σ η ∧ f η = some o ∧ ∀ F' H', Gr F H F' H' → Q o H'
noncomputable def P (X : Cx) (B : Bd) (e : Option Expr) (f : En → Option (Option Int)) : Prop := PO X e (tP X.K B f)
noncomputable def pN : En → Option (Option Int) := fun _ => some none
noncomputable def asI : PyData → Option Int
  | .int i => some i
  | _ => none
theorem asI_some {d : PyData} {i : Int} (h : asI d = some i) : d = .int i := by
  cases d <;> simp [asI] at h
  rw [h]
noncomputable def pS (f : En → Option PyData) : En → Option (Option Int) := fun η => (f η).bind fun d => (asI d).bind fun i => some (some i)
theorem PO.imp {X : Cx} {e : Option Expr} {t t' : TO} (h : PO X e t) (i : ∀ σ H Q, t' σ H Q → t σ H Q) : PO X e t' := fun pins s σ H Q I q => h pins s σ H Q I (i σ H Q q)
theorem P.none : P X B none pN := PO.imp po_none fun σ H Q ⟨F, η, d, sr, hd, q⟩ => by
  cases hd
  exact q F H (.refl sr.same)
theorem P.some (h : E X B e f) : P X B (some e) (pS f) := PO.imp (po_some h) fun σ H Q ⟨F, η, d, sr, hd, q⟩ => by
  obtain ⟨x, hx, hd⟩ := bind_some hd
  obtain ⟨i, hi, hd⟩ := bind_some hd
  cases hd
  obtain rfl := asI_some hi
  exact ⟨F, η, _, sr, hx, fun v F1 H1 g1 rv => ⟨i, rv.int, q F1 H1 g1⟩⟩
noncomputable def eSl (f : En → Option PyData) (fl fh : En → Option (Option Int)) : En → Option PyData := fun η => (f η).bind fun x => (fl η).bind fun l => (fh η).bind fun h => pSl x l h
theorem E.sl (he : E X B e f) (hl : P X B lo fl) (hu : P X B hi fh) : E X B (.Subscript e (.Slice lo hi none p2) pos) (eSl f fl fh) := PE.imp (pe_slice sl_A he hl hu) fun σ H Q ⟨F, η, d, sr, hd, q⟩ => by
  obtain ⟨x, hx, hd⟩ := bind_some hd
  obtain ⟨l, hl, hd⟩ := bind_some hd
  obtain ⟨h, hh, hd⟩ := bind_some hd
  refine ⟨F, η, x, sr, hx, fun v F1 H1 g1 rv => ⟨F1, η, l, sr.grow g1, hl, fun F2 H2 g2 => ⟨F2, η, h, (sr.grow g1).grow g2, hh, fun F3 H3 g3 => ?_⟩⟩⟩
  exact ad_sl g3.fh (rv.mono (g2.ff.trans g3.ff)) hd fun w F4 H4 g4 rw' => q w F4 H4 (((g1.trans g2).trans g3).trans g4) rw'
theorem list_extendW (l b : Addr) (items items2 : Array Value) (n n2 : Nat) (dd2 : Option Addr) (sl2 : Array (Option Value)) (hc0 : ¬(!items.isEmpty && Builtin.List.listTooLong (items.size + items2.size)) = true) (hc1 : items.size ≤ sizeLine) (hs2 : items.size + items2.size ≤ sizeLine + 1) :
    Meets (Builtin.«list.extend» ⟨[.ref l, .ref b], []⟩) (fun _ R s => s.heap.get? l = some { cls := .type "list", dict := none, data := .seq items n, slots := #[] } ∧ s.heap.get? b = some { cls := .type "list", dict := dd2, data := .seq items2 n2, slots := sl2 } ∧ R (.ok (.ret Value.none)) { s with heap := s.heap.update l (Obj.mapSeq fun x => x ++ items2), toks := s.toks }) :=
  .of_wp fun prog w A R s h => by
    obtain ⟨hp, g, d, tk, os⟩ := s; obtain ⟨hl, hb, h⟩ := h; have f1 := AutoSeq1.idx_int; have f2 := AutoSeq1.sub_tuple_tuple; have f3 := AutoSeq1.sub_list_list; have f4 := AutoSeq1.sub_tuple_list; have f5 := AutoSeq1.sub_list_tuple
    have hz' : (items ++ items2).size ≤ sizeLine + 1 := by rw [Array.size_append]; exact hs2
    wp_walk using (wpAny_updateSeq hl rfl (hz := hc1) (_hz' := hz')), AutoSeq1.wpAny_loadPart' hl, AutoSeq1.wpAny_loadPart' hb; exact ⟨_, rfl, h⟩
noncomputable def rExtS (K : PySem.W.Frag) : V → List V → Hp → VK → Prop := fun x vs H Q => ∃ l b xs zs, x = .ref l ∧ vs = [.ref b] ∧ H l = some (.lst xs) ∧ SqL K H b zs ∧ xs.length + zs.length ≤ sizeLine ∧ Q .non (upd H l (.lst (xs ++ zs)))
theorem mt_extS : MtM X "list.extend" (rExtS X.K) := by
  intro pins s σ H x vs v us Q I rx rv h
  obtain ⟨l, b, xs, zs, rfl, rfl, hH, hB, hz, q⟩ := h
  cases rx
  obtain ⟨u, rfl, ru⟩ := rv.one
  cases ru
  obtain ⟨z, its, n, r, hl, e⟩ := I.lstM hH
  obtain ⟨its2, r2, ⟨⟨c2, d2, t2, sl2⟩, n2, e2, ec2, ed2, es2⟩, z2⟩ := I.list hB
  simp only at ec2 ed2 es2
  subst ec2 ed2 es2
  have hl2 := r2.length
  have hsz : its.toArray.size + its2.toArray.size ≤ sizeLine := by rw [List.size_toArray, List.size_toArray]; omega
  have hlong : ¬ (!its.toArray.isEmpty && Builtin.List.listTooLong (its.toArray.size + its2.toArray.size)) = true := by
    rw [notLongL hsz, Bool.and_false]
    exact Bool.false_ne_true
  refine call_meets F.slot_list_extend ⟨_, e, rfl⟩ F.entry_list_extend (F.args_list_extend_2 _ _)
    (list_extendW l b its.toArray its2.toArray n n2 none sl2 hlong (by rw [List.size_toArray]; omega) (by omega)) ⟨e, e2, ?_⟩
  refine ⟨.non, _, I.lset (its' := its ++ its2) hH e (by simp) (r.append r2) ?_, rfl, q⟩
  rw [List.length_append]
  omega
variable {apos cpos : Pos}
theorem S.ext (i : Nat) {x : Str} {npos : Pos} (he : E X B e f) (hN : X.N[i]? = some x := by rfl) (hv : Vis X.env.scope x := by first | exact Or.inl rfl | exact Or.inr (Or.inl rfl) | exact Or.inr (Or.inr rfl)) (hd : (x == ("__debug__" : Str)) = false := by decide) (hcd : (x == ("__classdict__" : Str)) = false := by decide)
    (hbase : attributeBase (.Name x npos) "extend" X.env (eval (.Name x npos) X.env) = eval (.Name x npos) X.env := by rfl)
    (hfew : ((backTo cpos (starEach [e] X.env)).all (fun x => !x.1) && (backToKw cpos (keywordEach [] X.env)).all (fun x => x.1.isSome)
      && decide ([e].length + ([] : List Keyword).length + (if ([] : List Keyword).isEmpty then 0 else 1) < 30)) = true := by rfl)
    (hline : (apos.endLine == cpos.line) = true := by rfl) (hs : starEach [e] X.env = (false, eval e X.env) :: starEach [] X.env := by exact star_of rfl) (hplain : (backTo cpos (starEach [] X.env)).any (·.1) = false := by rfl)
    (hsw : swapsWith (.Call (.Attribute (.Name x npos) "extend" apos) [e] [] cpos) none pos.line X.env = pure false := by rfl) :
    S X B (.Expr (.Call (.Attribute (.Name x npos) "extend" apos) [e] [] cpos) pos) (sExt i (lI asL f)) :=
  PS.imp (ps_expr (pe_bm PySem.F.plainAttrs_list PySem.F.slot_list_extend PySem.F.type_list_extend mt_extS (pe_var hN hv hd hcd) (A.cons he A.nil hs) hbase hfew hline hs hplain) hsw) fun D σ H ⟨F, η, o, sr, hd, q⟩ => by
    obtain ⟨es, h1, hd⟩ := bind_some hd
    split at hd
    · rename_i ds ed
      split at hd
      · rename_i hz
        cases hd
        obtain ⟨dl, h2, h3⟩ := bind_some h1
        cases dl <;> simp only [asL, Option.some.injEq, reduceCtorEq] at h3
        subst h3
        obtain ⟨p, xs, e1, e2, e3, e4, e5⟩ := sr.en.own i ds ed
        refine ⟨_, e1, .inl ⟨rfl, xs, SqL.of e4⟩, F, η, _, sr, (by show (f η).bind _ = _; rw [h2]; rfl), fun vs F1 H1 g1 rs => ?_⟩
        obtain ⟨y, r, rfl, ry, rr⟩ := rs.cons_of
        obtain rfl := rr.nil_of
        obtain ⟨b, zs, rfl, hq, r1⟩ := ry.lst
        have sr1 := sr.grow g1
        obtain ⟨p', xs', q1, q2, q3, q4, q5⟩ := sr1.en.own i ds ed
        rw [e1] at q1
        have ep : p = p' := by injection (Option.some.inj (Option.some.inj q1))
        subst ep
        refine ⟨p, b, xs', zs, rfl, rfl, q4, g1.fh.seq hq, by rw [q5.length, r1.length]; exact hz, ?_⟩
        refine q σ F1 _ ⟨⟨sr1.gr.ff, fun c u z => ?_, fun c u z => ?_, sr1.gr.new⟩, sr1.en.putOwn ed e1 (q5.append r1)⟩ g1.ff
        · have nb : c ≠ p := ne_of_none z q3
          rw [upd_ne nb]; exact sr1.gr.hh c u z
        · have nb : c ≠ p := ne_of_none z q2
          rw [upd_ne nb]; exact sr1.gr.fh c u z
      · cases hd
    · cases hd
theorem S.app (i : Nat) {x : Str} {npos : Pos} (he : E X B e f) (hN : X.N[i]? = some x := by rfl) (hv : Vis X.env.scope x := by first | exact Or.inl rfl | exact Or.inr (Or.inl rfl) | exact Or.inr (Or.inr rfl)) (hd : (x == ("__debug__" : Str)) = false := by decide) (hcd : (x == ("__classdict__" : Str)) = false := by decide)
    (hbase : attributeBase (.Name x npos) "append" X.env (eval (.Name x npos) X.env) = eval (.Name x npos) X.env := by rfl)
    (hfew : ((backTo cpos (starEach [e] X.env)).all (fun x => !x.1) && (backToKw cpos (keywordEach [] X.env)).all (fun x => x.1.isSome)
      && decide ([e].length + ([] : List Keyword).length + (if ([] : List Keyword).isEmpty then 0 else 1) < 30)) = true := by rfl)
    (hline : (apos.endLine == cpos.line) = true := by rfl) (hs : starEach [e] X.env = (false, eval e X.env) :: starEach [] X.env := by exact star_of rfl) (hplain : (backTo cpos (starEach [] X.env)).any (·.1) = false := by rfl)
    (hsw : swapsWith (.Call (.Attribute (.Name x npos) "append" apos) [e] [] cpos) none pos.line X.env = pure false := by rfl) :
    S X B (.Expr (.Call (.Attribute (.Name x npos) "append" apos) [e] [] cpos) pos) (sApp i f) :=
  PS.imp (ps_expr (pe_bm PySem.F.plainAttrs_list PySem.F.slot_list_append PySem.F.type_list_append mt_append (pe_var hN hv hd hcd) (A.cons he A.nil hs) hbase hfew hline hs hplain) hsw) fun D σ H ⟨F, η, o, sr, hd, q⟩ => by
    obtain ⟨dv, h1, hd⟩ := bind_some hd
    split at hd
    · rename_i ds ed
      split at hd
      · rename_i hz
        cases hd
        obtain ⟨p, xs, e1, e2, e3, e4, e5⟩ := sr.en.own i ds ed
        refine ⟨_, e1, .inl ⟨rfl, xs, SqL.of e4⟩, F, η, _, sr, (by show (f η).bind _ = _; rw [h1]; rfl), fun vs F1 H1 g1 rs => ?_⟩
        obtain ⟨y, r, rfl, ry, rr⟩ := rs.cons_of
        obtain rfl := rr.nil_of
        have sr1 := sr.grow g1
        obtain ⟨p', xs', q1, q2, q3, q4, q5⟩ := sr1.en.own i ds ed
        rw [e1] at q1
        have ep : p = p' := by injection (Option.some.inj (Option.some.inj q1))
        subst ep
        refine ⟨p, xs', y, rfl, rfl, q4, by rw [q5.length]; exact hz, ?_⟩
        refine q σ F1 _ ⟨⟨sr1.gr.ff, fun c u z => ?_, fun c u z => ?_, sr1.gr.new⟩, sr1.en.putOwn ed e1 (q5.append (.cons ry .nil))⟩ g1.ff
        · have nb : c ≠ p := ne_of_none z q3
          rw [upd_ne nb]; exact sr1.gr.hh c u z
        · have nb : c ≠ p := ne_of_none z q2
          rw [upd_ne nb]; exact sr1.gr.fh c u z
      · cases hd
    · cases hd
end
end
noncomputable def signD (x : Str) : List PyData := x.cps.toList.map fun c => PyData.str ⟨#[c]⟩
noncomputable def enumD (ds : List PyData) (i : Nat) : List PyData := match ds with
  | [] => []
  | d :: r => .tuple [.int i, d] :: enumD r (i + 1)
theorem enumD_get : ∀ (ds : List PyData) (k i : Nat) (d : PyData), (enumD ds k)[i]? = some d → ∃ c, ds[i]? = some c ∧ d = .tuple [.int ((k + i : Nat) : Int), c]
  | [], k, i, d, h => by simp [enumD] at h
  | c :: r, k, 0, d, h => by
    simp [enumD] at h
    exact ⟨c, rfl, h.symm⟩
  | c :: r, k, i + 1, d, h => by
    have h' : (enumD r (k + 1))[i]? = some d := by simpa [enumD] using h
    obtain ⟨c', h1, h2⟩ := enumD_get r (k + 1) i d h'
    exact ⟨c', by simpa using h1, by rw [h2, show k + 1 + i = k + (i + 1) by omega]⟩
theorem enumD_len : ∀ (ds : List PyData) (k : Nat), (enumD ds k).length = ds.length
  | [], _ => rfl
  | _ :: r, k => by rw [enumD, List.length_cons, List.length_cons, enumD_len r]
noncomputable def Ite (x : Str) : It := ⟨fun i _ => i < x.cps.size, fun i H v H' => ∃ T c, H T = none ∧ x.cps[i]? = some c ∧ v = .ref T ∧ H' = upd H T (.tup [.int (i : Nat), .str ⟨#[c]⟩]), fun i _ => i = x.cps.size⟩
section
theorem turn_enum {P : Program} {w : World} {K : PySem.W.Frag} {elts : List Expr} {k : Nat} {tp : Pos} {e it : Addr} {x : Str} {St : Nat → Heap → Prop} (hei : e ≠ it)
    (D : ∀ A : Around, A.handled = none → Draws P w A it [it] x.cps.size (fun i v => ∃ c u, x.cps[i]? = some c ∧ v = .str ⟨#[c]⟩ u) St) (hcell : ∀ i h, St i h → ∃ o, h.get? it = some o ∧ ∀ v, o.data ≠ .cell v) :
    Turn P w K (.Tuple elts k tp) (Ite x) [e, it] e (fun i h => (∃ old, IsEnum h e it i old) ∧ St i h) where
  mem := by simp
  obj := fun i h st b hb => by
    obtain ⟨⟨old, he⟩, hs⟩ := st
    rcases List.mem_cons.mp hb with rfl | hb
    · exact ⟨_, he, fun v z => by cases z⟩
    · rw [List.mem_singleton.mp hb]
      exact hcell i h hs
  keep := fun i h h' st kk => by
    obtain ⟨⟨old, he⟩, hs⟩ := st
    refine ⟨⟨old, kk e (by simp) _ he⟩, ?_⟩
    exact (D { frames := none, units := 0, depth := 0, handled := none } rfl).frame i h h' hs fun b hb o q => kk b (by rw [List.mem_singleton.mp hb]; simp) o q
  item := by
    intro X hP hw hK hc i pins s σ H E I hf st hg
    subst hP hw hK
    have W := WalksT.enumerateD (prog := X.prog) (w := X.w) (A := X.A) (D X.A.in1 (I.ok.hd hc)) e hei (by simpa using hei) (by simp)
    refine W.item i s _ _ hg st fun T vals h' tk Pt hT hIs Md kp => ⟨.ref T, rfl, ?_⟩
    refine W.go elts k tp i T _ _ _ Md fun h'' st'' kp'' => ?_
    obtain ⟨t, xv, ⟨c, u, hcx, rfl⟩, rfl⟩ := Pt
    have nT : H T = none := I.hok.fresh hT
    have aT : T ∉ [e, it] := W.apart i T _ Md
    have kall : ∀ b o, b ∉ [e, it] → s.heap.get? b = some o → h''.get? b = some o := fun b o hb q => kp'' b o hb (kp b o hb q)
    have hIs'' : IsTup h'' T #[.int i t, .str ⟨#[c]⟩ u] := by
      obtain ⟨o, ho, hcl, n, hd⟩ := hIs
      exact ⟨o, kp'' T o aT ho, hcl, n, hd⟩
    have ltT : ∀ b o, s.heap.get? b = some o → b ≠ T := fun b o q => Nat.ne_of_lt (Nat.lt_of_lt_of_le (Heap.lt_size q) hT)
    have nfp : ∀ b o, H b = some o → b ∉ [e, it] := fun b o q hb => by rw [(hf b hb).1] at q; cases q
    have J : Inv X pins σ (upd H T (.tup [.int (i : Nat), .str ⟨#[c]⟩])) { s with heap := h'', toks := tk } := by
      refine I.step (h' := h'') (g' := s.gens) (d' := s.drawn) (t' := tk) (ch := [e, it]) (fun b hb => ⟨(hf b hb).2.2.2.1, (hf b hb).2.1, (hf b hb).2.2.2.2.1, (hf b hb).2.2.2.2.2⟩)
        (fun b o _ _ hb q _ => kall b o hb q) (fun b o _ _ hb q _ => ⟨o.slots, kall b o hb q⟩) (fun b o _ q n => by rw [upd_ne (ltT b o q)]; exact n) (fun b o hb q => ⟨o, kall b o hb q⟩)
        (fun b xs q => by rw [upd_ne (ne_of_none q nT)]; exact q) (fun b o xs q => by rw [upd_ne (ne_of_none q nT)]; exact q) (fun b ps q => ⟨#[], by rw [upd_ne (ne_of_none q nT), q]; simp⟩) (fun m hm => ?_) (fun b o q => ?_) I.bare
      · obtain ⟨o, es, ep, ho, r⟩ := hm
        refine ⟨o, es, ep, kall _ o (fun hb => ?_) ho, r⟩
        exact (hf _ hb).2.1 rfl
      · by_cases hb : b = T
        · subst hb
          rw [upd_same] at q
          cases q
          exact ⟨by show 2 ≤ sizeLine; decide, [.int i t, .str ⟨#[c]⟩ u], .cons ⟨t, rfl⟩ (.cons ⟨u, rfl⟩ .nil), hIs''⟩
        · rw [upd_ne hb] at q
          refine (I.hok b o q).stay (fun c' v hc' z => kall c' v ?_ z) (fun c' z => by rw [upd_ne (ne_of_none z nT)]; exact z) fun c' xs z => by rw [upd_ne (ne_of_none z nT)]; exact z
          rcases hc' with rfl | hc'
          · exact nfp _ _ q
          · exact nfp _ _ hc'
    refine ⟨.ref T, upd H T (.tup [.int (i : Nat), .str ⟨#[c]⟩]), J, rfl, ⟨T, c, nT, hcx, rfl, rfl⟩, st'', fun b hb => ?_⟩
    have nb : b ≠ T := fun z => aT (by rw [← z]; exact hb)
    rw [upd_ne nb]; exact (hf b hb).1
  done := by
    intro X hP hw hK hc i pins s σ H E I hf st hg
    subst hP hw hK
    have W := WalksT.enumerateD (prog := X.prog) (w := X.w) (A := X.A) (D X.A.in1 (I.ok.hd hc)) e hei (by simpa using hei) (by simp)
    have hg' : i = x.cps.size := hg
    rw [hg'] at st
    refine W.done s _ _ st fun h' tk kp => ⟨rfl, ?_⟩
    have nfp : ∀ b o, H b = some o → b ∉ [e, it] := fun b o q hb => by rw [(hf b hb).1] at q; cases q
    refine I.step (h' := h') (g' := s.gens) (d' := s.drawn) (t' := tk) (ch := [e, it]) (fun b hb => ⟨(hf b hb).2.2.2.1, (hf b hb).2.1, (hf b hb).2.2.2.2.1, (hf b hb).2.2.2.2.2⟩)
      (fun b o _ _ hb q _ => kp b o hb q) (fun b o _ _ hb q _ => ⟨o.slots, kp b o hb q⟩) (fun _ _ _ _ n => n) (fun b o hb q => ⟨o, kp b o hb q⟩)
      (fun _ _ q => q) (fun _ _ _ q => q) (fun b ps q => ⟨#[], by rw [q]; simp⟩) (fun m hm => ?_) (fun b o q => ?_) I.bare
    · obtain ⟨o, es, ep, ho, r⟩ := hm
      exact ⟨o, es, ep, kp _ o (fun hb => (hf _ hb).2.1 rfl) ho, r⟩
    · refine (I.hok b o q).stay (fun c' v hc' z => kp c' v ?_ z) (fun _ z => z) fun _ _ z => z
      rcases hc' with rfl | hc'
      · exact nfp _ _ q
      · exact nfp _ _ hc'
  self := fun A i s Q E st h => by
    obtain ⟨⟨old, he⟩, hs⟩ := st
    exact wpAny_pyIter_enum he h
variable {X : Cx} {B : Bd} {a : Expr} {fs : En → Option (List PyData)} {pos pp : Pos}
noncomputable def enS (ds : List PyData) : Option (List PyData) := match ds with
  | [.str x] => some (enumD (signD x) 0)
  | _ => none
theorem itp_enum {K : PySem.W.Frag} {F : Hp} {x : Str} : ItP K (Ite x) F (enumD (signD x) 0) := fun F1 H1 i s1 s2 => by
  have hl : (enumD (signD x) 0).length = x.cps.size := by rw [enumD_len]; unfold signD; rw [List.length_map, Array.length_toList]
  refine ⟨fun d e => ?_, fun e => by show i = _; rw [e, hl]⟩
  have hi : i < x.cps.size := by rw [← hl]; exact (List.getElem?_eq_some_iff.mp e).1
  refine ⟨hi, fun v H2 y => ?_⟩
  obtain ⟨T, c, hT, hc, rfl, rfl⟩ := y
  obtain ⟨cd, h1, h2⟩ := enumD_get _ _ _ _ e
  have : cd = .str ⟨#[c]⟩ := by
    unfold signD at h1
    rw [List.getElem?_map] at h1
    have hc' : x.cps.toList[i]? = some c := by simpa using hc
    rw [hc'] at h1
    exact (Option.some.inj h1).symm
  subst this
  rw [Nat.zero_add] at h2
  subst h2
  have g := Gr.one (o := .tup [.int (i : Nat), .str ⟨#[c]⟩]) s2 hT
  exact ⟨_, g, rel_tup (SqT.of upd_same) (.cons rel_int (.cons rel_str .nil))⟩
theorem I.enum {elts : List Expr} {k : Nat} {tp : Pos} (hc : X.calm = true) (hm : X.mg "enumerate" = none) (ha : A X B [a] fs) (hg : Gl X "enumerate" := by rfl) (hs : starEach [a] X.env = [(false, eval a X.env)] := by exact star_of rfl) :
    I X B (.Tuple elts k tp) (.Call (.Name "enumerate" pp) [a] [] pos) (fun η => (fs η).bind enS) := by
  intro pins s σ H R I ⟨F, η, ds, sr, hd, q⟩
  obtain ⟨es, h1, hd⟩ := bind_some hd
  unfold enS at hd
  split at hd
  · rename_i x
    cases hd
    refine Call_ (ld_blt I hg hm boot_enumerate (PyProof.Rows.callWith_type1 (thn (ha pos pins s σ H (fun vs H1 => ∃ F', Gr F H F' H1 ∧ RelL X.K F' [.str x] vs) I ⟨F, η, _, sr, h1, fun vs F' H' g r => ⟨F', g, r⟩⟩) fun us s1 ⟨vs, H1, I1, r1, F1, g1, rl⟩ => ?_) hs rfl))
    obtain ⟨y, r, rfl, ry, rr⟩ := rl.cons_of
    obtain rfl := rr.nil_of
    obtain ⟨u, rfl, ru⟩ := vals1 r1
    rw [ry.str] at ru
    obtain ⟨t, rfl⟩ := ru
    refine call_enumerate_str fun h' he hit hsz hk => ?_
    refine wpAny_pyIter_enum he ?_
    have I2 : Inv X pins σ H1 { s1 with heap := h' } := I1.kept (t' := s1.toks) hk
    have nw : ∀ b, s1.heap.objs.size ≤ b → FpOk X pins H1 b := fun b hb => I1.fpOk hb (I1.hok.fresh hb)
    have fpo : ∀ b ∈ [s1.heap.objs.size + 1, s1.heap.objs.size], FpOk X pins H1 b := fun b hb => by
      rcases List.mem_cons.mp hb with rfl | hb
      · exact nw _ (Nat.le_succ _)
      · rw [List.mem_singleton.mp hb]; exact nw _ (Nat.le_refl _)
    have cel : ∀ (ty : String) (i : Nat) (h : Heap), h.IsStrIter s1.heap.objs.size ty x t i → ∃ o, h.get? s1.heap.objs.size = some o ∧ ∀ v, o.data ≠ .cell v := fun ty i h st => by
      obtain ⟨o, ho, hcl, hd⟩ := st
      exact ⟨o, ho, fun v z => by rw [hd] at z; cases z⟩
    cases ha' : x.cps.all (· < 128)
    · have hit' : h'.IsStrIter s1.heap.objs.size "str_iterator" x t 0 := by simpa [strIterType, ha'] using hit
      exact ⟨_, _, _, _, H1, rfl, I2, turn_enum (Nat.succ_ne_self _) (fun A hA => Draws.strWide hA _ x t) (cel _), ⟨⟨_, he⟩, hit'⟩, fpo, q _ F1 H1 g1 itp_enum⟩
    · have hit' : h'.IsStrIter s1.heap.objs.size "str_ascii_iterator" x t 0 := by simpa [strIterType, ha'] using hit
      exact ⟨_, _, _, _, H1, rfl, I2, turn_enum (Nat.succ_ne_self _) (fun A hA => Draws.strAscii hA _ x t) (cel _), ⟨⟨_, he⟩, hit'⟩, fpo, q _ F1 H1 g1 itp_enum⟩
  · cases hd
end
theorem str_ext {a b : Str} (h : a.cps.toList = b.cps.toList) : a = b := by
  obtain ⟨a⟩ := a
  obtain ⟨b⟩ := b
  have : a = b := Array.toList_inj.mp h
  rw [this]
section
variable {X : Cx}
variable {B : Bd} {a b e : Expr} {es : List Expr} {f g : En → Option PyData} {fs : En → Option (List PyData)} {pos pp apos cpos : Pos}
noncomputable def rIdx (K : PySem.W.Frag) : V → List V → Hp → VK → Prop := fun x vs H Q => ∃ l xs y j, x = .ref l ∧ vs = [y] ∧ SqL K H l xs ∧ flatV y = true ∧ xs.all flatV = true ∧ xs.findIdx? (fun z => eqV z y) = some j ∧ Q (.int (j : Nat)) H
theorem mt_idx : MtM X "list.index" (rIdx X.K) := by
  intro pins s σ H x vs v us Q I rx rv h
  obtain ⟨l, xs, y, j, rfl, rfl, hq, fy, fxs, hj, q⟩ := h
  cases rx
  obtain ⟨u, rfl, ru⟩ := rv.one
  obtain ⟨its, r, ⟨⟨c2, d2, t2, sl2⟩, n2, e2, ec2, ed2, es2⟩, z2⟩ := I.list hq
  simp only at ec2 ed2 es2
  subst ec2 ed2 es2
  have hl := r.length
  obtain ⟨hlt, h1, h2⟩ := List.findIdx?_eq_some_iff_getElem.mp hj
  have at' : ∀ (m : Nat) (hm : m < xs.length), eqU y (its[m]'(by omega)) = eqV xs[m] y := fun m hm => by
    obtain ⟨w, hw, rw'⟩ := r.get (i := m) (x := xs[m]) (List.getElem?_eq_getElem hm)
    have : its[m]'(by omega) = w := by
      rw [List.getElem?_eq_getElem (by omega)] at hw
      exact Option.some.inj hw
    rw [this]
    exact eqU_of rw' (List.all_eq_true.mp fxs _ (List.getElem_mem hm))
  have hn := line63
  refine call_meets F.slot_list_index ⟨_, e2, rfl⟩ F.entry_list_index (F.args_list_index_2 _ _) (SeqAt.list_indexAt l its.toArray n2 none sl2 u (eqU y) j (by simp; omega) (by omega) ?_ ?_) ⟨e2, fun w hw => mem_eqAt ru fy r fxs w (by simpa using hw), ?_⟩
  · have := at' j hlt
    simpa [this] using h1
  · intro m hm hmj
    have hm' : m < xs.length := by simp at hm; omega
    have := at' m hm'
    have h3 := h2 m hmj
    simpa [this] using h3
  · exact ⟨.int (j : Nat), H, I.tok _, ⟨_, rfl⟩, q⟩
noncomputable def pIdx (x y : PyData) : Option PyData := match x with
  | .list ds => if flatD y = true ∧ ds.all flatD = true then (ds.findIdx? fun z => PyData.eqv z y).bind fun j => some (.int (j : Nat)) else none
  | _ => none
theorem find_of {K : PySem.W.Frag} {F : Hp} {d : PyData} {x : V} (hd : flatD d = true) (r : Rel K F d x) : ∀ {ds : List PyData} {vs : List V}, ds.all flatD = true → RelL K F ds vs → vs.findIdx? (fun z => eqV z x) = ds.findIdx? fun y => PyData.eqv y d
  | [], vs, _, rs => by rw [rs.nil_of]; rfl
  | e :: ds, vs, h, rs => by
    obtain ⟨y, xs, rfl, r1, r2⟩ := rs.cons_of
    rw [List.all_cons, Bool.and_eq_true] at h
    rw [List.findIdx?_cons, List.findIdx?_cons, eqV_of h.1 hd r1 r, find_of hd r h.2 r2]
theorem E.index (ha : E X B a f) (he : E X B e g) (hbase : attributeBase a "index" X.env (eval a X.env) = eval a X.env := by rfl)
    (hfew : ((backTo cpos (starEach [e] X.env)).all (fun x => !x.1) && (backToKw cpos (keywordEach [] X.env)).all (fun x => x.1.isSome)
      && decide ([e].length + ([] : List Keyword).length + (if ([] : List Keyword).isEmpty then 0 else 1) < 30)) = true := by rfl)
    (hline : (apos.endLine == cpos.line) = true := by rfl) (hs : starEach [e] X.env = (false, eval e X.env) :: starEach [] X.env := by exact star_of rfl) (hplain : (backTo cpos (starEach [] X.env)).any (·.1) = false := by rfl) :
    E X B (.Call (.Attribute a "index" apos) [e] [] cpos) (l2 pIdx f g) :=
  PE.imp (pe_bm PySem.F.plainAttrs_list PySem.F.slot_list_index PySem.F.type_list_index mt_idx ha (A.cons he A.nil hs) hbase hfew hline hs hplain) fun σ H Q ⟨F, η, d, sr, hd, q⟩ => by
    obtain ⟨x, hx, hd⟩ := bind_some hd
    obtain ⟨y, hy, hd⟩ := bind_some hd
    cases x <;> simp only [pIdx, reduceCtorEq] at hd
    rename_i ds
    split at hd
    · rename_i hf
      obtain ⟨j, hj, hd⟩ := bind_some hd
      cases hd
      refine ⟨F, η, _, sr, hx, fun v F1 H1 g1 rv => ?_⟩
      obtain ⟨p, xs, rfl, hq, r1⟩ := rv.lst
      refine ⟨.inl ⟨rfl, xs, g1.fh.seq hq⟩, F1, η, [y], sr.grow g1, (by show (g η).bind _ = _; rw [hy]; rfl), fun vs F2 H2 g2 rs => ?_⟩
      obtain ⟨w, r, rfl, rw', rr⟩ := rs.cons_of
      obtain rfl := rr.nil_of
      have r1' := r1.mono g2.ff
      exact ⟨p, xs, w, j, rfl, rfl, g2.fh.seq (g2.ff.seq hq), flat_of hf.1 rw', flats_of hf.2 r1', by rw [find_of hf.1 rw' hf.2 r1']; exact hj, q _ F2 H2 (g1.trans g2) rel_int⟩
    · cases hd
end
noncomputable def compChk (N : List Str) (sc scope : Scope) (N' : List Str) (mp : List (Option Nat)) : Bool :=
  decide (scope.kind = .function) && decide (sc.kind = .function) && decide (∀ x ∈ scope.names, x.2 ≠ .cell) && decide (∀ x ∈ scope.names, x.2 = .local → scope.names.lookup x.1 = some .local) &&
  decide (∀ x ∈ scope.names, x.2 = .free → sc.names.lookup x.1 = some .cell) && decide (mp.length = N'.length) &&
  (N'.zip mp).all fun p => match p.2 with
    | none => true
    | some j => decide (N[j]? = some p.1) && decide (scope.names.lookup p.1 = some .free)
theorem lookup_relabel_free {env : Env} (hk : env.scope.kind = .function) : ∀ {names : List (Str × NameKind)} {x : Str}, names.lookup x = some .free → env.kindOf x = some .cell →
    (names.map fun (n, k) => if (k == NameKind.free && env.scope.kind == .function && env.kindOf n == some .cell) then (n, NameKind.cell) else (n, k)).lookup x = some .cell
  | [], _, h, _ => by simp at h
  | (n, k) :: r, x, h, hc => by
    have ih := @lookup_relabel_free env hk r x
    show List.lookup x ((if (k == NameKind.free && env.scope.kind == .function && env.kindOf n == some .cell) = true then (n, NameKind.cell) else (n, k)) :: _) = _
    cases hx : x == n with
    | true =>
      have en : x = n := by simpa using hx
      subst en
      simp only [List.lookup_cons, hx] at h
      cases h
      rw [if_pos (by rw [hk, hc]; rfl)]
      simp [List.lookup_cons]
    | false =>
      simp only [List.lookup_cons, hx] at h
      split <;> simp only [List.lookup_cons, hx] <;> exact ih h hc
theorem CompSc.of {X : Cx} {scope : Scope} {N' : List Str} {mp : List (Option Nat)} (h : compChk X.N X.env.scope scope N' mp = true) : CompSc X scope N' mp := by
  unfold compChk at h
  simp only [Bool.and_eq_true, decide_eq_true_eq] at h
  obtain ⟨⟨⟨⟨⟨⟨h1, h0⟩, h2⟩, h3⟩, h4⟩, h5⟩, h6⟩ := h
  refine ⟨h1, h2, h3, fun x hx hf => .inl (h4 x hx hf), h5, fun i x j e1 e2 => ?_⟩
  have hm : (x, some j) ∈ N'.zip mp := by
    have : (N'.zip mp)[i]? = some (x, some j) := by rw [List.getElem?_zip_eq_some]; exact ⟨e1, e2⟩
    exact List.mem_of_getElem? this
  have h7 := List.all_eq_true.mp h6 _ hm
  simp only [Bool.and_eq_true, decide_eq_true_eq] at h7
  have hmem : (x, NameKind.free) ∈ scope.names := PySem.mem_of_lookup h7.2
  exact ⟨h7.1, hmem, .inl (lookup_relabel_free h0 h7.2 (h4 _ hmem rfl))⟩
theorem E.globI {X : Cx} {B : Bd} {x : Str} {i : Int} {t : Tok} {pos : Pos} (hm : X.mg x = some (.int i t)) (hg : Gl X x := by rfl) (hd : (x == ("__debug__" : Str)) = false := by decide) : E X B (.Name x pos) (eC (.int i)) := E.glob hm (v := .int i) ⟨t, rfl⟩ (fun _ => rel_int) hg hd
theorem E.globS {X : Cx} {B : Bd} {x : Str} {i : Str} {t : Tok} {pos : Pos} (hm : X.mg x = some (.str i t)) (hg : Gl X x := by rfl) (hd : (x == ("__debug__" : Str)) = false := by decide) : E X B (.Name x pos) (eC (.str i)) := E.glob hm (v := .str i) ⟨t, rfl⟩ (fun _ => rel_str) hg hd
theorem tg_len1 {t : En → PyData → Option En} : ∀ η ds η', tgCons t tgNil η ds = some η' → ds.length = 1 := fun η ds η' h => by
  match ds, h with
  | [_], _ => rfl
  | _ :: _ :: _, h => obtain ⟨_, _, h⟩ := bind_some h; cases h
theorem tg_len2 {t u : En → PyData → Option En} : ∀ η ds η', tgCons t (tgCons u tgNil) η ds = some η' → ds.length = 2 := fun η ds η' h => by
  match ds, h with
  | d :: r, h =>
    obtain ⟨η1, _, h⟩ := bind_some h
    rw [List.length_cons, tg_len1 _ _ _ h]
theorem CompSc.of' {X : Cx} {scope : Scope} {N' : List Str} {mp : List (Option Nat)} (N : List Str) (sc : Scope) (hN : X.N = N) (hs : X.env.scope = sc) (h : compChk N sc scope N' mp = true) : CompSc X scope N' mp := CompSc.of (by rw [hN, hs]; exact h)
section
variable {X : Cx}
variable {B : Bd} {a b e : Expr} {es : List Expr} {f g : En → Option PyData} {fs : En → Option (List PyData)} {pos pp tp apos cpos pos' : Pos} {sts : List Stmt} {u : En → Option Out} {p : En → Option Bool}
noncomputable def asBs : List PyData → Option (List Bool)
  | [] => some []
  | .bool i :: r => (asBs r).bind fun ns => some (i :: ns)
  | _ :: _ => none
theorem asBs_some : ∀ {ds : List PyData} {ns : List Bool}, asBs ds = some ns → ds = ns.map PyData.bool
  | [], ns, h => by cases h; rfl
  | .bool i :: r, ns, h => by
    obtain ⟨ms, h1, h2⟩ := bind_some h
    cases h2
    rw [asBs_some h1]; rfl
  | .none :: _, _, h => by cases h
  | .str _ :: _, _, h => by cases h
  | .int _ :: _, _, h => by cases h
  | .list _ :: _, _, h => by cases h
  | .tuple _ :: _, _, h => by cases h
  | .dict _ :: _, _, h => by cases h
theorem asBs_bools (ns : List Bool) : asBs (ns.map PyData.bool) = some ns := by
  induction ns with
  | nil => rfl
  | cons n r ih => rw [List.map_cons]; unfold asBs; rw [ih]; rfl
theorem RelL.bools_of {K : PySem.W.Frag} {F : Hp} : ∀ {ns : List Bool} {xs : List V}, RelL K F (ns.map PyData.bool) xs → xs = ns.map V.bl
  | [], xs, h => h.nil_of
  | n :: r, xs, h => by
    obtain ⟨x, ys, rfl, h1, h2⟩ := h.cons_of
    rw [h1.bl, RelL.bools_of h2]; rfl
theorem range_any (bs : List Bool) : (List.range bs.length).any (fun i => bs.getD i false) = bs.any id := by
  rw [Bool.eq_iff_iff, List.any_eq_true, List.any_eq_true]
  constructor
  · rintro ⟨i, hi, h⟩
    have hi := List.mem_range.mp hi
    rw [List.getD_eq_getElem?_getD, List.getElem?_eq_getElem hi] at h
    exact ⟨_, List.getElem_mem hi, h⟩
  · rintro ⟨x, hx, h⟩
    obtain ⟨i, hi, rfl⟩ := List.mem_iff_getElem.mp hx
    exact ⟨i, List.mem_range.mpr hi, by rw [List.getD_eq_getElem?_getD, List.getElem?_eq_getElem hi]; exact h⟩
noncomputable def rBools (K : PySem.W.Frag) (r : List Bool → Bool) : List V → Hp → VK → Prop := fun xs H Q => ∃ (p : Addr) (bs : List Bool), xs = [.ref p] ∧ SqL K H p (bs.map V.bl) ∧ Q (.bl (r bs)) H
theorem bools_walk (hc : X.calm = true) {pins : List (Addr × Obj)} {s : Shared} {σ : St} {H : Hp} {p : Addr} {bs : List Bool} {Q : Bool → Value → Shared → Prop} {r : (Nat → Bool) → Nat → Bool} (I : Inv X pins σ H s) (hq : SqL X.K H p (bs.map V.bl))
    (hQ : ∀ h' tk, (∀ b o, s.heap.get? b = some o → h'.get? b = some o) → Q true (.bool (r (fun i => bs.getD i false) bs.length)) { s with heap := h', toks := tk }) :
    wpAny (model X.prog X.w) X.A.in1 (pyIter (.ref p)) (fun it s₂ => ∃ I fp wr n P St tr, it = .ref I ∧ Walks X.prog X.w X.A.in1 I fp wr n P St ∧ St 0 s₂.heap ∧ TruthOf X.prog X.w X.A.in1 P tr ∧
      ∀ h' tk, (∀ b o, b ∉ wr → s₂.heap.get? b = some o → h'.get? b = some o) → Q true (.bool (r tr n)) { s₂ with heap := h', toks := tk }) X.xe s := by
  obtain ⟨its, rv, pl, hz⟩ := I.list hq
  have hl := rv.length
  rw [List.length_map] at hl
  have hlt : p < s.heap.objs.size := by
    obtain ⟨o, ho, _⟩ := pl.isList
    exact Heap.lt_size ho
  refine wpAny_pyIter_list pl.isList ?_
  refine ⟨s.heap.objs.size, _, _, _, _, _, fun i => bs.getD i false, rfl, Walks.list (A := X.A.in1) (I.ok.hd hc) s.heap.objs.size p (Nat.ne_of_lt hlt) its.toArray, ⟨⟨_, Heap.get?_push_size _ rfl, rfl, rfl⟩, pl.isList.at fun o e => Heap.get?_push_of_some _ e⟩, ?_, fun h' tk hk => ?_⟩
  · intro i v s' Q' E' hv hq'
    have hv' : its[i]? = some v := by simpa using hv
    obtain ⟨hi, _⟩ := List.getElem?_eq_some_iff.mp hv'
    have hn : bs[i]? = some bs[i] := List.getElem?_eq_getElem (by omega)
    obtain ⟨w, hw, rw'⟩ := rv.get (i := i) (x := .bl bs[i]) (by rw [List.getElem?_map, hn]; rfl)
    rw [hv'] at hw
    cases hw
    cases rw'
    have e : bs.getD i false = bs[i] := by rw [List.getD_eq_getElem?_getD, hn]; rfl
    rw [show (fun i => bs.getD i false) i = bs[i] from e] at hq'
    exact wpAny_truthy_bool hq'
  · have e : its.toArray.size = bs.length := by rw [List.size_toArray]; exact hl.symm
    rw [e]
    refine hQ h' tk fun b o eb => hk b o ?_ (Heap.get?_push_of_some _ eb)
    intro hb
    exact absurd (Heap.lt_size eb) (by rw [List.mem_singleton.mp hb]; exact Nat.lt_irrefl _)
theorem call_any (hc : X.calm = true) : CallR X (.builtin "any") (rBools X.K fun bs => bs.any id) := by
  intro pins s σ H xs us Q I r h
  obtain ⟨p, bs, rfl, hq, q⟩ := h
  obtain ⟨u, rfl, rx⟩ := vals1 r
  cases rx
  refine call_any_walk (bools_walk hc (Q := fun _ v s' => EP X pins σ Q v s') (r := fun tr n => (List.range n).any tr) I hq fun h' tk k => ?_)
  rw [range_any]
  exact ⟨.bl _, H, I.kept k, rfl, q⟩
noncomputable def pBools (r : List Bool → Bool) (ds : List PyData) : Option PyData := match ds with
  | [.list xs] => (asBs xs).bind fun bs => some (.bool (r bs))
  | _ => none
theorem ad_bools {K : PySem.W.Frag} {r : List Bool → Bool} : AdA K (rBools K r) (pBools r) := fun F H xs ds d Q sm rs e q => by
  unfold pBools at e
  split at e
  · obtain ⟨bs, h1, h2⟩ := bind_some e
    cases h2
    have := asBs_some h1
    subst this
    obtain ⟨x, r, rfl, rx, rr⟩ := rs.cons_of
    obtain rfl := rr.nil_of
    obtain ⟨a, ys, rfl, hq, r1⟩ := rx.lst
    have := r1.bools_of
    subst this
    exact ⟨a, bs, rfl, sm.seq hq, q _ F H (.refl sm) rel_bl⟩
  · cases e
noncomputable def pAny := pBools fun bs => bs.any id
theorem E.any (hc : X.calm = true) (hm : X.mg "any" = none) (ha : A X B [e] fs) (hg : Gl X "any" := by rfl) (he : starEach [e] X.env = (false, eval e X.env) :: starEach [] X.env := by exact star_of rfl) (hpl : (backTo pos (starEach [] X.env)).any (·.1) = false := by rfl) : E X B (.Call (.Name "any" pp) [e] [] pos) (lA pAny fs) :=
  E.callB (call_any hc) ad_bools hm (by decide +kernel) ha hg (by decide) (by decide) he hpl
noncomputable def pMax (ds : List PyData) : Option PyData := match ds with
  | [.int i, .int j] => some (.int (if j > i then j else i))
  | _ => none
noncomputable def pMin (ds : List PyData) : Option PyData := match ds with
  | [.int i, .int j] => some (.int (if j < i then j else i))
  | _ => none
theorem ad_two {K : PySem.W.Frag} {g : Int → Int → Int} : AdA K (fun xs H Q => ∃ i j, xs = [.int i, .int j] ∧ Q (.int (g i j)) H) (fun ds => match ds with | [.int i, .int j] => some (.int (g i j)) | _ => none) := fun F H xs ds d Q sm rs e q => by
  dsimp only at e
  split at e
  · cases e
    obtain ⟨x, r, rfl, rx, rr⟩ := rs.cons_of
    obtain ⟨y, r2, rfl, ry, rr2⟩ := rr.cons_of
    obtain rfl := rr2.nil_of
    exact ⟨_, _, by rw [rx.int, ry.int], q _ F H (.refl sm) rel_int⟩
  · cases e
theorem E.max (hc : X.calm = true) (hm : X.mg "max" = none) (ha : A X B [a, b] fs) (hg : Gl X "max" := by rfl) (he : starEach [a, b] X.env = (false, eval a X.env) :: starEach [b] X.env := by rfl) (hpl : (backTo pos (starEach [b] X.env)).any (·.1) = false := by rfl) : E X B (.Call (.Name "max" pp) [a, b] [] pos) (lA pMax fs) :=
  E.callB (call_max2 hc) ad_two hm (by decide +kernel) ha hg (by decide) (by decide) he hpl
theorem E.min (hc : X.calm = true) (hm : X.mg "min" = none) (ha : A X B [a, b] fs) (hg : Gl X "min" := by rfl) (he : starEach [a, b] X.env = (false, eval a X.env) :: starEach [b] X.env := by rfl) (hpl : (backTo pos (starEach [b] X.env)).any (·.1) = false := by rfl) : E X B (.Call (.Name "min" pp) [a, b] [] pos) (lA pMin fs) :=
  E.callB (call_min2 hc) ad_two hm (by decide +kernel) ha hg (by decide) (by decide) he hpl
noncomputable def pInt (ds : List PyData) : Option PyData := match ds with
  | [.int i] => some (.int i)
  | [.bool k] => some (.int (if k then 1 else 0))
  | _ => none
theorem ad_int {K : PySem.W.Frag} : AdA K (fun xs H Q => (∃ i, xs = [.int i] ∧ Q (.int i) H) ∨ ∃ k, xs = [.bl k] ∧ Q (.int (if k then 1 else 0)) H) pInt := fun F H xs ds d Q sm rs e q => by
  unfold pInt at e
  split at e
  · cases e
    obtain ⟨x, r, rfl, rx, rr⟩ := rs.cons_of
    obtain rfl := rr.nil_of
    exact .inl ⟨_, by rw [rx.int], q _ F H (.refl sm) rel_int⟩
  · cases e
    obtain ⟨x, r, rfl, rx, rr⟩ := rs.cons_of
    obtain rfl := rr.nil_of
    exact .inr ⟨_, by rw [rx.bl], q _ F H (.refl sm) rel_int⟩
  · cases e
theorem E.toInt (hm : X.mg "int" = none) (ha : A X B [e] fs) (hg : Gl X "int" := by rfl) (he : starEach [e] X.env = (false, eval e X.env) :: starEach [] X.env := by exact star_of rfl) (hpl : (backTo pos (starEach [] X.env)).any (·.1) = false := by rfl) : E X B (.Call (.Name "int" pp) [e] [] pos) (lA pInt fs) :=
  E.callTy call_int1 ad_int hm (by decide +kernel) ha hg (by decide) (by decide) he hpl
noncomputable def sWh (c : En → Option Bool) (body : En → Option Out) : Nat → En → Option Out
  | 0, _ => none
  | n + 1, η => (c η).bind fun b => if b = true then (body η).bind fun o => match o with
    | .nx η' => sWh c body n η'
    | .ct η' => sWh c body n η'
    | .bk η' => some (.nx η')
    | .rt d => some (.rt d) else some (.nx η)
theorem S.while (n : Nat) {c : Expr} (hp : PassesOwn (model X.prog X.w) X.A X.env X.xe) (hc : T X B c p) (hb : Ss X B sts u) : S X B (.While c sts [] pos) (sWh p u n) := PS.imp (ps_while hp hc hb) fun D σ H ⟨F, η, o, sr, hd, q⟩ => by
  refine ⟨fun m σ H => ∃ Fc ηc, SR X.K B Fc H σ ηc ∧ Same F Fc ∧ sWh p u m ηc = some o, ⟨n, F, η, sr, .refl _, hd⟩, ?_⟩
  rintro m σc Hc ⟨Fc, ηc, src, sc, hgo⟩
  cases m with
  | zero => cases hgo
  | succ m =>
    unfold sWh at hgo
    obtain ⟨b, hb', hgo⟩ := bind_some hgo
    refine ⟨Fc, ηc, b, src, hb', fun F1 H1 g1 => ?_⟩
    cases b with
    | false =>
      rw [if_neg Bool.false_ne_true] at hgo
      cases hgo
      refine iteF ?_
      exact q σc F1 H1 (src.grow g1) (sc.trans g1.ff)
    | true =>
      rw [if_pos rfl] at hgo
      refine iteT ?_
      obtain ⟨o1, e2, hgo⟩ := bind_some hgo
      refine ⟨fun σ' H' => ∃ m', m' < m + 1 ∧ ∃ Fc ηc, SR X.K B Fc H' σ' ηc ∧ Same F Fc ∧ sWh p u m' ηc = some o, fun σ' H' z => z, F1, ηc, o1, src.grow g1, e2, ?_⟩
      have s1 : Same F F1 := sc.trans g1.ff
      cases o1 with
      | nx η2 => exact fun σ' F' H' r s => ⟨m, Nat.lt_succ_self _, F', η2, r, s1.trans s, hgo⟩
      | ct η2 => exact fun σ' F' H' r s => ⟨m, Nat.lt_succ_self _, F', η2, r, s1.trans s, hgo⟩
      | bk η2 =>
        cases hgo
        exact fun σ' F' H' r s => q σ' F' H' r (s1.trans s)
      | rt d =>
        cases hgo
        exact q
end
noncomputable def Its (x : Str) : It := ⟨fun i _ => i < x.cps.size, fun i H v H' => H' = H ∧ ∃ c, x.cps[i]? = some c ∧ v = .str ⟨#[c]⟩, fun i _ => i = x.cps.size⟩
theorem itp_str {K : PySem.W.Frag} {F : Hp} {x : Str} : ItP K (Its x) F (signD x) := fun F1 H1 i s1 s2 => by
  have hl : (signD x).length = x.cps.size := by unfold signD; rw [List.length_map, Array.length_toList]
  refine ⟨fun d e => ?_, fun e => by show i = _; rw [e, hl]⟩
  have hi : i < x.cps.size := by rw [← hl]; exact (List.getElem?_eq_some_iff.mp e).1
  refine ⟨hi, fun v H2 y => ?_⟩
  obtain ⟨rfl, c, hc, rfl⟩ := y
  have : d = .str ⟨#[c]⟩ := by
    unfold signD at e
    rw [List.getElem?_map] at e
    have hc' : x.cps.toList[i]? = some c := by simpa using hc
    rw [hc'] at e
    exact (Option.some.inj e).symm
  subst this
  exact ⟨F1, .refl s2, rel_str⟩
theorem turn_str {P : Program} {w : World} {K : PySem.W.Frag} {tg : Expr} {it : Addr} {x : Str} {t : Tok} {ty : String} (self' : ty ≠ "str_ascii_iterator" → ∀ (A : Around) (i : Nat) (s : Shared) (Q : Value → Shared → Prop) (E : Value → Shared → Prop), s.heap.IsStrIter it ty x t i → Q (.ref it) s → wpAny (model P w) A (pyIter (.ref it)) Q E s) (hty : ["enumerate", "zip", "dict_itemiterator", "dict_reverseitemiterator", "odict_iterator", "itertools.zip_longest", "itertools.pairwise"].contains ty = false)
    (W : ∀ A : Around, A.handled = none → Walks P w A it [it] [it] x.cps.size (SignAt x) (fun i h => h.IsStrIter it ty x t i)) : Turn P w K tg (Its x) [it] it (fun i h => h.IsStrIter it ty x t i) where
  mem := by simp
  obj := fun i h st b hb => by
    rw [List.mem_singleton.mp hb]
    obtain ⟨o, ho, hcl, hd⟩ := st
    exact ⟨o, ho, fun v z => by rw [hd] at z; cases z⟩
  keep := fun i h h' st k => by
    obtain ⟨o, ho, r⟩ := st
    exact ⟨o, k it (by simp) o ho, r⟩
  item := by
    intro X hP hw hK hc i pins s σ H E I hf st hg
    subst hP hw hK
    obtain ⟨f0, f1, f2, f3, f4, f5⟩ := hf it (by simp)
    refine (W X.A (I.ok.hd hc)).item i s _ _ hg st fun v h' tk hv st' kk => ?_
    obtain ⟨c, u, hcx, rfl⟩ := hv
    have I1 : Inv X pins σ H { s with heap := h', toks := tk } := I.turned (fun b o hb e => kk b o (by simpa using hb) e) f0 f1 f3 f4 f5
    obtain ⟨o, ho, hcl, hd⟩ := id st'
    exact ⟨_, rfl, go_of (s := { s with heap := h', toks := tk }) ho hcl hd hty ⟨.str ⟨#[c]⟩, H, I1, ⟨u, rfl⟩, ⟨rfl, c, hcx, rfl⟩, st', fun b hb => (hf b hb).1⟩⟩
  done := by
    intro X hP hw hK hc i pins s σ H E I hf st hg
    subst hP hw hK
    obtain ⟨f0, f1, f2, f3, f4, f5⟩ := hf it (by simp)
    have hg' : i = x.cps.size := hg
    rw [hg'] at st
    refine (W X.A (I.ok.hd hc)).done s _ _ st fun h' tk kk => ⟨rfl, I.turned (fun b o hb e => kk b o (by simpa using hb) e) f0 f1 f3 f4 f5⟩
  self := fun A i s Q E st h => by
    have hh : A.handled = none ∨ True := .inr trivial
    by_cases hz : ty = "str_ascii_iterator"
    · subst hz; exact wpAny_pyIter_striter_ascii st h
    · exact self' hz A i s Q E st h
section
variable {X : Cx} {B : Bd} {e : Expr} {f : En → Option PyData} {tg : Expr}
noncomputable def asSg : PyData → Option (List PyData)
  | .str x => some (signD x)
  | _ => none
theorem I.str (he : E X B e f) : I X B tg e (lI asSg f) := by
  intro pins s σ H R I ⟨F, η, ds, sr, hd, q⟩
  obtain ⟨d, h1, hd⟩ := bind_some hd
  cases d <;> simp only [asSg, Option.some.injEq, reduceCtorEq] at hd
  subst hd
  rename_i x
  refine thn (he pins s σ H (fun v H1 => ∃ F', Gr F H F' H1 ∧ v = .str x) I ⟨F, η, _, sr, h1, fun v F' H' g r => ⟨F', g, r.str⟩⟩) fun v s1 ⟨y, H1, I1, r1, F1, g1, ey⟩ => ?_
  subst ey
  obtain ⟨t, rfl⟩ := r1
  have I2 : ∀ o : Obj, Inv X pins σ H1 { s1 with heap := s1.heap.push o } := fun o => I1.kept (t' := s1.toks) fun b u e => Heap.get?_push_of_some _ e
  have fpo : ∀ b ∈ [s1.heap.objs.size], FpOk X pins H1 b := fun b hb => by
    rw [List.mem_singleton.mp hb]
    exact I1.fpOk (Nat.le_refl _) (I1.hok.fresh (Nat.le_refl _))
  cases ha : x.cps.all (· < 128)
  · refine wpAny_pyIter_wide ha ?_
    exact ⟨_, _, _, _, H1, rfl, I2 _, turn_str (ty := "str_iterator") (fun _ _ _ _ _ _ st h => wpAny_pyIter_striter_wide st h) (by decide) (fun A hA => Walks.strWide hA _ x t), ⟨_, Heap.get?_push_size _ rfl, rfl, rfl⟩, fpo, q _ F1 H1 g1 itp_str⟩
  · refine wpAny_pyIter_ascii ha ?_
    exact ⟨_, _, _, _, H1, rfl, I2 _, turn_str (ty := "str_ascii_iterator") (fun z => absurd rfl z) (by decide) (fun A hA => Walks.strAscii hA _ x t), ⟨_, Heap.get?_push_size _ rfl, rfl, rfl⟩, fpo, q _ F1 H1 g1 itp_str⟩
end
section
variable {X : Cx} {B : Bd} {a b e : Expr} {f g : En → Option PyData} {apos cpos : Pos}
end
section
variable {X : Cx} {B : Bd} {a b e : Expr} {f g : En → Option PyData} {pos : Pos}
noncomputable def isNn : PyData → Bool
  | .none => true
  | _ => false
noncomputable def pIsN (neg : Bool) (x y : PyData) : Option PyData := match y with
  | .none => some (.bool (if neg then !isNn x else isNn x))
  | _ => none
theorem non_iff {K : PySem.W.Frag} {F : Hp} {d : PyData} {x : V} (r : Rel K F d x) : decide (x = .non) = isNn d := by
  cases d with
  | none => rw [r.non]; rfl
  | bool b => rw [r.bl]; rfl
  | int i => rw [r.int]; rfl
  | str s => rw [r.str]; rfl
  | list ds => obtain ⟨a, xs, rfl, _⟩ := r.lst; rfl
  | tuple ds => obtain ⟨a, xs, rfl, _⟩ := r.tup; rfl
  | dict es => obtain ⟨a, xs, rfl, _⟩ := r.dct; rfl
theorem ad_isN {K : PySem.W.Frag} : Ad2 K (fun x y H Q => y = .non ∧ Q (.bl (decide (x = .non))) H) (pIsN false) := fun F H x y dx dy d Q sm rx ry e q => by
  unfold pIsN at e
  split at e
  · cases e
    refine ⟨ry.non, ?_⟩
    rw [non_iff rx]
    exact q _ F H (.refl sm) rel_bl
  · cases e
theorem ad_notN {K : PySem.W.Frag} : Ad2 K (fun x y H Q => y = .non ∧ Q (.bl (!decide (x = .non))) H) (pIsN true) := fun F H x y dx dy d Q sm rx ry e q => by
  unfold pIsN at e
  split at e
  · cases e
    refine ⟨ry.non, ?_⟩
    rw [non_iff rx]
    exact q _ F H (.refl sm) rel_bl
  · cases e
theorem T.isN (ha : E X B a f) (hb : E X B b g) (hm : behindInMarks .Is b = false := by rfl) : T X B (.Compare a [.Is] [b] pos) (bT (l2 (pIsN false) f g)) := T.cmp op_isN ad_isN hm ha hb
theorem T.notN (ha : E X B a f) (hb : E X B b g) (hm : behindInMarks .IsNot b = false := by rfl) : T X B (.Compare a [.IsNot] [b] pos) (bT (l2 (pIsN true) f g)) := T.cmp op_notN ad_notN hm ha hb
end
section
variable {X : Cx} {B : Bd} {a : Expr} {fs : En → Option (List PyData)} {pos pp : Pos}
end
section
variable {X : Cx} {B : Bd} {a b e : Expr} {f g : En → Option PyData} {fs : En → Option (List PyData)} {pos : Pos}
end
section
variable {X : Cx} {B : Bd} {e st : Expr} {f g : En → Option PyData} {pos p2 : Pos}
end
section
variable {X : Cx} {B : Bd} {pos pp : Pos}
end
section
variable {X : Cx} {B : Bd} {o e e2 a b : Expr} {f g h : En → Option PyData} {pos pos' apos cpos npos : Pos}
end
section
variable {X : Cx}
variable {B : Bd} {a : Expr} {f : En → Option PyData} {pos : Pos}
end
section
variable {K : PySem.W.Frag} {F F' : Hp}
theorem flat_rel {d : PyData} {v : V} (h : flatD d = true) (r : Rel K F' d v) : Rel K F d v := by
  cases d with
  | none => rw [r.non]; exact rel_non
  | bool b => rw [r.bl]; exact rel_bl
  | int i => rw [r.int]; exact rel_int
  | str x => rw [r.str]; exact rel_str
  | list ds => cases h
  | tuple ds => cases h
  | dict es => cases h
end
theorem Gr.back {F H F1 F' H' : Hp} (sm : Same F H) (g : Gr F1 H F' H') : Gr F H F H' := ⟨.refl _, g.hh, sm.trans g.hh, fun _ z => .inl z⟩
section
variable {X : Cx} {B : Bd} {e : Expr} {f : En → Option PyData} {fs : En → Option (List PyData)} {p : En → Option Bool}
end
section
variable {X : Cx} {B : Bd} {e o : Expr} {f g : En → Option PyData} {fs : En → Option (List PyData)} {pos pp rp rpos : Pos}
end
end L2.PU
namespace L2.PU
open PySem PySem.Spec PyProof.Rows
section
variable {X : Cx} {B : Bd} {pos npos : Pos} {tg : Expr}
end
end L2.PU
namespace L2.PU
open PySem PySem.Spec PyProof.Rows
section
variable {X : Cx} {B : Bd} {e o : Expr} {f g : En → Option PyData} {fs : En → Option (List PyData)} {pos pos' pp rp rpos : Pos}
end
section
variable {X : Cx} {B : Bd}
end
section
variable {X : Cx} {B : Bd} {a b : Expr} {f g : En → Option PyData} {pos : Pos}
theorem E.gt (ha : E X B a f) (hb : E X B b g) : E X B (.Compare a [.Gt] [b] pos) (l2 pGt f g) := E.cmp op_gt (ad_I0 fun _ _ _ => rel_bl) (nomark b) ha hb
end
end L2.PU
namespace L2.PU
open PySem PySem.Spec PyProof.Rows
section
variable {X : Cx} {B : Bd} {a : Expr} {fs : En → Option (List PyData)} {pos pp : Pos}
end
end L2.PU
namespace L2.PU
open PySem PySem.Spec PyProof.Rows
section
variable {X : Cx} {B : Bd} {e : Expr} {f g : En → Option PyData} {fs : En → Option (List PyData)} {pos pp : Pos}
end
end L2.PU
namespace L2.PU
open PySem PySem.Spec PyProof.Rows
end L2.PU
namespace L2.PU
open PySem PySem.Spec PyProof.Rows
section
variable {X : Cx} {B : Bd} {a b : Expr} {fs : En → Option (List PyData)} {pos pp : Pos}
end
section
variable {X : Cx} {B : Bd} {e : Expr} {fs : En → Option (List PyData)} {pos pp : Pos}
end
end L2.PU
namespace L2.PU
open PySem PySem.Spec PyProof.Rows
inductive D where
  | d (x : PyData)
  | r (n : Nat)
inductive Cell where
  | obj (k : Nat) (fs : List (Str × D))
  | lst (ds : List D)
  | dct (kvs : List (Key × D))
  | fz (x : PyData)
noncomputable abbrev Sto := List Cell
noncomputable abbrev MEn := List (Option D)
noncomputable def DR (K : PySem.W.Frag) (θ : List Addr) (F : Hp) : D → V → Prop
  | .d x, v => Rel K F x v
  | .r n, v => ∃ a, θ[n]? = some a ∧ v = .ref a
noncomputable abbrev DRs (K : PySem.W.Frag) (θ : List Addr) (F : Hp) : List D → List V → Prop := Paired (DR K θ F)
noncomputable abbrev DRf (K : PySem.W.Frag) (θ : List Addr) (F : Hp) : List (Str × D) → List (Str × V) → Prop := Paired fun p q => p.1 = q.1 ∧ DR K θ F p.2 q.2
noncomputable abbrev DRk (K : PySem.W.Frag) (θ : List Addr) (F : Hp) : List (Key × D) → List (Key × V) → Prop := Paired fun p q => p.1 = q.1 ∧ DR K θ F p.2 q.2
noncomputable def CelR (K : PySem.W.Frag) (cl : Nat → Addr) (θ : List Addr) (F H : Hp) (a : Addr) : Cell → Prop
  | .obj k fs => F a = none ∧ Cls K (cl k) ∧ (∀ f ∈ fs.map (·.1), NoAttr K (cl k) f) ∧ ∃ dx xs, H a = some (.ins (cl k) dx xs) ∧ DRf K θ F fs xs
  | .lst ds => F a = none ∧ ∃ xs, H a = some (.lst xs) ∧ DRs K θ F ds xs
  | .dct kvs => F a = none ∧ ∃ ks, H a = some (.dK ks) ∧ DRk K θ F kvs ks
  | .fz x => Rel K F x (.ref a) ∧ ∃ o, H a = some o
structure MR (K : PySem.W.Frag) (cl : Nat → Addr) (θ : List Addr) (F H : Hp) (s : Sto) : Prop where
  sm : Same F H
  len : θ.length = s.length
  nd : θ.Nodup
  cel : ∀ (n : Nat) a c, θ[n]? = some a → s[n]? = some c → CelR K cl θ F H a c
structure MV (K : PySem.W.Frag) (θ : List Addr) (F : Hp) (σ : St) (η : MEn) : Prop where
  len : η.length = σ.length
  val : ∀ (i : Nat) d, η[i]? = some (some d) → ∃ v, σ[i]? = some (some v) ∧ DR K θ F d v
section
variable {K : PySem.W.Frag} {cl : Nat → Addr} {θ θ' : List Addr} {F F' H H' : Hp} {s : Sto} {σ : St} {η : MEn}
theorem pre_get {α : Type} {l l' : List α} (h : l <+: l') {n : Nat} {a : α} (e : l[n]? = some a) : l'[n]? = some a := by
  obtain ⟨t, rfl⟩ := h
  rw [List.getElem?_append_left (List.getElem?_eq_some_iff.mp e).1]; exact e
theorem DR.mono (hp : θ <+: θ') (hs : Same F F') : ∀ {d : D} {v : V}, DR K θ F d v → DR K θ' F' d v
  | .d _, _, h => Rel.mono hs h
  | .r _, _, ⟨a, e1, e2⟩ => ⟨a, pre_get hp e1, e2⟩
theorem DRs.mono (hp : θ <+: θ') (hs : Same F F') {ds : List D} {vs : List V} (h : DRs K θ F ds vs) : DRs K θ' F' ds vs := Paired.mapP h fun _ _ r => DR.mono hp hs r
theorem DRf.mono (hp : θ <+: θ') (hs : Same F F') {ds : List (Str × D)} {vs : List (Str × V)} (h : DRf K θ F ds vs) : DRf K θ' F' ds vs := Paired.mapP h fun _ _ r => ⟨r.1, DR.mono hp hs r.2⟩
theorem DRk.mono (hp : θ <+: θ') (hs : Same F F') {ds : List (Key × D)} {vs : List (Key × V)} (h : DRk K θ F ds vs) : DRk K θ' F' ds vs := Paired.mapP h fun _ _ r => ⟨r.1, DR.mono hp hs r.2⟩
theorem MV.mono (hp : θ <+: θ') (hs : Same F F') (h : MV K θ F σ η) : MV K θ' F' σ η := ⟨h.len, fun i d e => let ⟨v, e1, e2⟩ := h.val i d e; ⟨v, e1, e2.mono hp hs⟩⟩
theorem MV.set (h : MV K θ F σ η) (i : Nat) {d : D} {v : V} (r : DR K θ F d v) : MV K θ F (σ.set i (some v)) (η.set i (some d)) := by
  refine ⟨by rw [List.length_set, List.length_set]; exact h.len, fun j d' e => ?_⟩
  by_cases hj : i = j
  · subst hj
    by_cases hl : i < η.length
    · rw [List.getElem?_set_self hl] at e
      have e' : d = d' := Option.some.inj (Option.some.inj e)
      subst e'
      exact ⟨v, by rw [List.getElem?_set_self (by rw [← h.len]; exact hl)], r⟩
    · rw [List.getElem?_eq_none (by rw [List.length_set]; omega)] at e; cases e
  · rw [List.getElem?_set_ne hj] at e ⊢; exact h.val j d' e
theorem DRs.get {ds : List D} {vs : List V} (h : DRs K θ F ds vs) {i : Nat} {d : D} (e : ds[i]? = some d) : ∃ v, vs[i]? = some v ∧ DR K θ F d v := by
  induction h generalizing i with
  | nil => simp at e
  | @cons a b as bs r t ih =>
    cases i with
    | zero => simp at e; subst e; exact ⟨b, rfl, r⟩
    | succ i => exact ih (by simpa using e)
theorem MR.grow (m : MR K cl θ F H s) (g : Gr F H F' H') : MR K cl θ F' H' s where
  sm := g.fh
  len := m.len
  nd := m.nd
  cel := fun n a c e1 e2 => by
    have q := m.cel n a c e1 e2
    have fr : F a = none → ∀ o, H a = some o → F' a = none := fun hF o hH => by
      cases z : F' a with
      | none => rfl
      | some u =>
        rcases g.new a (by rw [z]; simp) with y | y
        · exact absurd hF y
        · rw [hH] at y; cases y
    cases c with
    | obj k fs =>
      obtain ⟨h1, h2, h3, dx, xs, h4, h5⟩ := q
      exact ⟨fr h1 _ h4, h2, h3, dx, xs, g.hh _ _ h4, h5.mono (List.prefix_refl _) g.ff⟩
    | lst ds =>
      obtain ⟨h1, xs, h4, h5⟩ := q
      exact ⟨fr h1 _ h4, xs, g.hh _ _ h4, h5.mono (List.prefix_refl _) g.ff⟩
    | dct kvs =>
      obtain ⟨h1, xs, h4, h5⟩ := q
      exact ⟨fr h1 _ h4, xs, g.hh _ _ h4, h5.mono (List.prefix_refl _) g.ff⟩
    | fz x => exact ⟨Rel.mono g.ff q.1, let ⟨o, e⟩ := q.2; ⟨o, g.hh _ _ e⟩⟩
noncomputable def Mu : Cell → Bool
  | .fz _ => false
  | _ => true
theorem CelR.mut {a : Addr} {c : Cell} (h : CelR K cl θ F H a c) (hm : Mu c = true) : F a = none ∧ ∃ o, H a = some o := by
  cases c with
  | obj k fs => obtain ⟨h1, _, _, dx, xs, h4, _⟩ := h; exact ⟨h1, _, h4⟩
  | lst ds => obtain ⟨h1, xs, h4, _⟩ := h; exact ⟨h1, _, h4⟩
  | dct kvs => obtain ⟨h1, xs, h4, _⟩ := h; exact ⟨h1, _, h4⟩
  | fz x => cases hm
theorem CelR.else {a b : Addr} {o : HO} {c : Cell} (h : CelR K cl θ F H a c) (hne : a ≠ b) : CelR K cl θ F (upd H b o) a c := by
  cases c with
  | obj k fs => obtain ⟨h1, h2, h3, dx, xs, h4, h5⟩ := h; exact ⟨h1, h2, h3, dx, xs, by rw [upd_ne hne]; exact h4, h5⟩
  | lst ds => obtain ⟨h1, xs, h4, h5⟩ := h; exact ⟨h1, xs, by rw [upd_ne hne]; exact h4, h5⟩
  | dct kvs => obtain ⟨h1, xs, h4, h5⟩ := h; exact ⟨h1, xs, by rw [upd_ne hne]; exact h4, h5⟩
  | fz x => exact ⟨h.1, let ⟨o, e⟩ := h.2; ⟨o, by rw [upd_ne hne]; exact e⟩⟩
theorem CelR.pre {a : Addr} {c : Cell} (hp : θ <+: θ') (h : CelR K cl θ F H a c) : CelR K cl θ' F H a c := by
  cases c with
  | obj k fs => obtain ⟨h1, h2, h3, dx, xs, h4, h5⟩ := h; exact ⟨h1, h2, h3, dx, xs, h4, h5.mono hp (.refl _)⟩
  | lst ds => obtain ⟨h1, xs, h4, h5⟩ := h; exact ⟨h1, xs, h4, h5.mono hp (.refl _)⟩
  | dct kvs => obtain ⟨h1, xs, h4, h5⟩ := h; exact ⟨h1, xs, h4, h5.mono hp (.refl _)⟩
  | fz x => exact h
theorem nd_ne {l : List Addr} (h : l.Nodup) {i j : Nat} {a b : Addr} (e1 : l[i]? = some a) (e2 : l[j]? = some b) (hne : i ≠ j) : a ≠ b := fun z => by
  subst z
  obtain ⟨l1, q1⟩ := List.getElem?_eq_some_iff.mp e1
  obtain ⟨l2, q2⟩ := List.getElem?_eq_some_iff.mp e2
  have pw := List.pairwise_iff_getElem.mp h
  rcases Nat.lt_or_gt_of_ne hne with z | z
  · exact pw i j l1 l2 z (q1.trans q2.symm)
  · exact pw j i l2 l1 z (q2.trans q1.symm)
theorem MR.put (m : MR K cl θ F H s) {n : Nat} {a : Addr} {c c' : Cell} {o : HO} (e1 : θ[n]? = some a) (e2 : s[n]? = some c) (hm : Mu c = true) (h : CelR K cl θ F (upd H a o) a c') : MR K cl θ F (upd H a o) (s.set n c') where
  sm := fun b u q => by
    have nb : b ≠ a := ne_of_none q (CelR.mut (m.cel n a c e1 e2) hm).1
    rw [upd_ne nb]; exact m.sm b u q
  len := by rw [List.length_set]; exact m.len
  nd := m.nd
  cel := fun k b c2 f1 f2 => by
    by_cases hk : n = k
    · subst hk
      rw [List.getElem?_set_self (List.getElem?_eq_some_iff.mp e2).1] at f2
      cases f2
      rw [e1] at f1
      cases f1
      exact h
    · rw [List.getElem?_set_ne hk] at f2
      exact (m.cel k b c2 f1 f2).else (nd_ne m.nd f1 e1 (Ne.symm hk))
theorem CelR.there {a : Addr} {c : Cell} (h : CelR K cl θ F H a c) : ∃ o, H a = some o := by
  cases c with
  | obj k fs => obtain ⟨_, _, _, dx, xs, h4, _⟩ := h; exact ⟨_, h4⟩
  | lst ds => obtain ⟨_, xs, h4, _⟩ := h; exact ⟨_, h4⟩
  | dct kvs => obtain ⟨_, xs, h4, _⟩ := h; exact ⟨_, h4⟩
  | fz x => exact h.2
theorem MR.ne (m : MR K cl θ F H s) {a : Addr} (ha : H a = none) {k : Nat} {b : Addr} (e : θ[k]? = some b) : b ≠ a := fun z => by
  subst z
  have hk : k < s.length := by rw [← m.len]; exact (List.getElem?_eq_some_iff.mp e).1
  obtain ⟨o, h⟩ := (m.cel k b _ e (List.getElem?_eq_getElem hk)).there
  rw [ha] at h; cases h
theorem MR.new (m : MR K cl θ F H s) {a : Addr} {c : Cell} {o : HO} (ha : H a = none) (h : CelR K cl (θ ++ [a]) F (upd H a o) a c) : MR K cl (θ ++ [a]) F (upd H a o) (s ++ [c]) where
  sm := fun b u q => by
    have nb : b ≠ a := ne_of_none q (m.sm.free ha)
    rw [upd_ne nb]; exact m.sm b u q
  len := by rw [List.length_append, List.length_append, m.len]; rfl
  nd := by
    rw [List.nodup_append]
    refine ⟨m.nd, by simp, fun b hb b' hb' => ?_⟩
    rw [List.mem_singleton.mp hb']
    obtain ⟨k, hk⟩ := List.getElem?_of_mem hb
    exact m.ne ha hk
  cel := fun k b c2 f1 f2 => by
    by_cases hk : k < θ.length
    · rw [List.getElem?_append_left hk] at f1
      rw [List.getElem?_append_left (by rw [← m.len]; exact hk)] at f2
      exact ((m.cel k b c2 f1 f2).else (m.ne ha f1)).pre (List.prefix_append _ _)
    · have hk1 : k = θ.length := by
        have := (List.getElem?_eq_some_iff.mp f1).1
        rw [List.length_append] at this
        have e1 : [a].length = 1 := rfl
        omega
      subst hk1
      rw [List.getElem?_append_right (Nat.le_refl _), Nat.sub_self] at f1
      rw [List.getElem?_append_right (by rw [m.len]; exact Nat.le_refl _), m.len, Nat.sub_self] at f2
      cases f1
      cases f2
      exact h
theorem MR.more (m : MR K cl θ F H s) {a : Addr} {o : HO} (ha : H a = none) : MR K cl θ F (upd H a o) s where
  sm := fun b u q => by
    have nb : b ≠ a := ne_of_none q (m.sm.free ha)
    rw [upd_ne nb]; exact m.sm b u q
  len := m.len
  nd := m.nd
  cel := fun k b c f1 f2 => (m.cel k b c f1 f2).else (m.ne ha f1)
end
end L2.PU
namespace L2.PU
open PySem PySem.Spec PyProof.Rows
structure Wd where
  η : MEn
  s : Sto
noncomputable def pD (s : Sto) : D → Option PyData
  | .d x => some x
  | .r n => match s[n]? with | some (.fz x) => some x | _ => none
noncomputable def dOnly : D → Option PyData
  | .d x => some x
  | .r _ => none
noncomputable def dAll : List D → Option (List PyData)
  | [] => some []
  | d :: r => (dOnly d).bind fun x => (dAll r).bind fun xs => some (x :: xs)
noncomputable def dKvs : List (Key × D) → Option (List (Key × PyData))
  | [] => some []
  | (k, d) :: r => (dOnly d).bind fun x => (dKvs r).bind fun xs => some ((k, x) :: xs)
noncomputable def lD (s : Sto) : D → Option PyData
  | .d x => some x
  | .r n => match s[n]? with
    | some (.fz x) => some x
    | some (.lst ds) => (dAll ds).bind fun xs => some (.list xs)
    | some (.dct kvs) => (dKvs kvs).bind fun xs => some (.dict (prs xs))
    | _ => none
noncomputable def vwS (g : D → Option PyData) (s : Sto) : Option D → Sl
  | none => .un
  | some (.d x) => .val x
  | some (.r n) => match s[n]? with
    | some (.obj _ fs) => .ob fun f => (fs.lookup f).bind g
    | _ => match g (.r n) with | some x => .val x | none => .un
noncomputable def vw (w : Wd) : En := w.η.map (vwS (pD w.s) w.s)
section
variable {K : PySem.W.Frag} {cl : Nat → Addr} {θ θ' : List Addr} {F F' H H' : Hp} {s : Sto} {σ : St} {η : MEn} {w : Wd}
theorem DRf.look {fs : List (Str × D)} {xs : List (Str × V)} (h : DRf K θ F fs xs) (f : Str) : (∀ d, fs.lookup f = some d → ∃ v, xs.lookup f = some v ∧ DR K θ F d v) ∧ (fs.lookup f = none → xs.lookup f = none) := by
  induction h with
  | nil => exact ⟨fun d e => (by cases e), fun _ => rfl⟩
  | @cons a b as bs r t ih =>
    obtain ⟨ka, da⟩ := a
    obtain ⟨kb, vb⟩ := b
    have e : ka = kb := r.1
    subst e
    by_cases hk : f = ka
    · subst hk
      simp only [List.lookup_cons_self]
      exact ⟨fun d e => (by cases e; exact ⟨vb, rfl, r.2⟩), fun e => (by cases e)⟩
    · have hb : (f == ka) = false := by simpa using hk
      simp only [List.lookup_cons, hb]
      exact ih
theorem look_mem {fs : List (Str × D)} {f : Str} {d : D} (h : fs.lookup f = some d) : f ∈ fs.map (·.1) := by
  induction fs with
  | nil => cases h
  | cons a r ih =>
    obtain ⟨k, x⟩ := a
    by_cases hk : f = k
    · subst hk; simp
    · have hb : (f == k) = false := by simpa using hk
      simp only [List.lookup_cons, hb] at h
      exact List.mem_cons_of_mem _ (ih h)
noncomputable def Sees (K : PySem.W.Frag) (θ : List Addr) (F Fv : Hp) (g : D → Option PyData) : Prop := ∀ d x v, g d = some x → DR K θ F d v → Rel K Fv x v
theorem vw_sr {g : D → Option PyData} {Fv : Hp} (m : MR K cl θ F H s) (e : MV K θ F σ η) (hs : Same Fv H) (hg : Sees K θ F Fv g) (hd : ∀ x, g (.d x) = some x) : SR K ⟨Fv, H⟩ Fv H σ (η.map (vwS g s)) := by
  have no : ∀ (i : Nat) a, (η.map (vwS g s))[i]? = some a → isOwn a = false := fun i a q => by
    rw [List.getElem?_map] at q
    cases h : η[i]? with
    | none => rw [h] at q; cases q
    | some o =>
      rw [h] at q
      have q' : vwS g s o = a := Option.some.inj q
      subst q'
      unfold vwS
      split
      · rfl
      · rfl
      · split
        · rfl
        · split <;> rfl
  refine ⟨.refl hs, ⟨by rw [List.length_map]; exact e.len, fun i x q => ?_, fun i a q ha => (by rw [no i a q] at ha; cases ha), fun i _ a _ q _ ha _ _ => (by rw [no i a q] at ha; cases ha), fun i fs q => ?_⟩⟩
  · rw [List.getElem?_map] at q
    cases h : η[i]? with
    | none => rw [h] at q; cases q
    | some o =>
      rw [h] at q
      have q' : vwS g s o = .val x := Option.some.inj q
      unfold vwS at q'
      split at q'
      · cases q'
      · rename_i y
        have : y = x := by injection q'
        subst this
        obtain ⟨v, e1, e2⟩ := e.val i _ h
        exact ⟨v, e1, hg _ _ _ (hd y) e2⟩
      · rename_i n
        split at q'
        · cases q'
        · split at q'
          · rename_i y hy
            have : y = x := by injection q'
            subst this
            obtain ⟨v, e1, e2⟩ := e.val i _ h
            exact ⟨v, e1, hg _ _ _ hy e2⟩
          · cases q'
  · rw [List.getElem?_map] at q
    cases h : η[i]? with
    | none => rw [h] at q; cases q
    | some o =>
      rw [h] at q
      have q' : vwS g s o = .ob fs := Option.some.inj q
      unfold vwS at q'
      split at q'
      · cases q'
      · cases q'
      · rename_i n
        split at q'
        · rename_i k fs0 hc
          have : (fun f => (fs0.lookup f).bind g) = fs := by injection q'
          subst this
          obtain ⟨v, e1, a, e2, e3⟩ := e.val i _ h
          subst e3
          obtain ⟨h1, h2, h3, dx, xs, h4, h5⟩ := m.cel n a _ e2 hc
          refine ⟨a, cl k, dx, xs, e1, h4, h2, fun f d hf => ?_⟩
          obtain ⟨D', hl, hx⟩ := bind_some hf
          obtain ⟨v, e5, e6⟩ := (h5.look f).1 D' hl
          exact ⟨h3 f (look_mem hl), v, e5, hg _ _ _ hx e6⟩
        · split at q' <;> cases q'
theorem sees_p (m : MR K cl θ F H s) : Sees K θ F F (pD s) := fun d x v h r => by
  cases d with
  | d y => cases h; exact r
  | r n =>
    have h : (match s[n]? with | some (.fz x) => some x | _ => none) = some x := h
    split at h
    · rename_i y hy
      cases h
      obtain ⟨a, e1, e2⟩ := r
      subst e2
      exact (m.cel n a _ e1 hy).1
    · cases h
theorem MR.vw (m : MR K cl θ F H w.s) (e : MV K θ F σ w.η) : SR K ⟨F, H⟩ F H σ (vw w) := vw_sr m e m.sm (sees_p m) fun _ => rfl
noncomputable def lentH (θ : List Addr) (F H : Hp) : Hp := fun b => match F b with | some o => some o | none => if b ∈ θ then H b else none
theorem lent_of (θ : List Addr) (F H : Hp) : Same F (lentH θ F H) := fun b u q => by unfold lentH; rw [q]
theorem lent_in {θ : List Addr} {F H : Hp} (h : Same F H) : Same (lentH θ F H) H := fun b u q => by
  unfold lentH at q
  split at q
  · rename_i o ho; rw [← q]; exact h _ _ ho
  · split at q
    · exact q
    · cases q
theorem lent_at {θ : List Addr} {F H : Hp} {n : Nat} {a : Addr} {o : HO} (e : θ[n]? = some a) (hF : F a = none) (hH : H a = some o) : lentH θ F H a = some o := by
  unfold lentH
  rw [hF]
  dsimp only
  rw [if_pos (List.mem_of_getElem? e)]; exact hH
theorem dAll_rel {ds : List D} {xs : List V} (h : DRs K θ F ds xs) : ∀ {ys : List PyData}, dAll ds = some ys → RelL K F ys xs := by
  induction h with
  | nil => intro ys e; cases e; exact .nil
  | @cons a b as bs r t ih =>
    intro ys e
    unfold dAll at e
    obtain ⟨x, h1, e⟩ := bind_some e
    obtain ⟨zs, h2, e⟩ := bind_some e
    cases e
    cases a with
    | d y => cases h1; exact .cons r (ih h2)
    | r n => cases h1
theorem dKvs_rel {ds : List (Key × D)} {xs : List (Key × V)} (h : DRk K θ F ds xs) : ∀ {ys : List (Key × PyData)}, dKvs ds = some ys → RelD K F (prs ys) xs := by
  induction h with
  | nil => intro ys e; cases e; exact .nil
  | @cons a b as bs r t ih =>
    intro ys e
    obtain ⟨ka, da⟩ := a
    obtain ⟨kb, vb⟩ := b
    have hk : ka = kb := r.1
    subst hk
    unfold dKvs at e
    obtain ⟨x, h1, e⟩ := bind_some e
    obtain ⟨zs, h2, e⟩ := bind_some e
    cases e
    cases da with
    | d y => cases h1; exact RelD.cons r.2 (ih h2)
    | r n => cases h1
theorem sees_l (m : MR K cl θ F H s) : Sees K θ F (lentH θ F H) (lD s) := fun d x v h r => by
  have sm := lent_of θ F H
  cases d with
  | d y => cases h; exact Rel.mono sm r
  | r n =>
    have h : (match s[n]? with | some (.fz x) => some x | some (.lst ds) => (dAll ds).bind fun xs => some (.list xs) | some (.dct kvs) => (dKvs kvs).bind fun xs => some (.dict (prs xs)) | _ => none) = some x := h
    obtain ⟨a, e1, e2⟩ := r
    subst e2
    split at h
    · rename_i y hy
      cases h
      exact Rel.mono sm (m.cel n a _ e1 hy).1
    · rename_i ds hy
      obtain ⟨ys, h1, h2⟩ := bind_some h
      cases h2
      obtain ⟨q1, xs, q2, q3⟩ := m.cel n a _ e1 hy
      exact rel_lst (SqL.of (lent_at e1 q1 q2)) ((dAll_rel q3 h1).mono sm)
    · rename_i kvs hy
      obtain ⟨ys, h1, h2⟩ := bind_some h
      cases h2
      obtain ⟨q1, ks, q2, q3⟩ := m.cel n a _ e1 hy
      exact rel_dct (.inl (lent_at e1 q1 q2)) ((dKvs_rel q3 h1).mono sm)
    · cases h
end
end L2.PU
namespace L2.PU
open PySem PySem.Spec PyProof.Rows
noncomputable abbrev MF := Wd → Option (D × Sto)
noncomputable abbrev MFs := Wd → Option (List D × Sto)
section
variable (K : PySem.W.Frag) (cl : Nat → Addr)
noncomputable def tM (f : MF) : TE := fun σ H Q => ∃ θ F w d s', MR K cl θ F H w.s ∧ MV K θ F σ w.η ∧ f w = some (d, s') ∧ ∀ v θ' F' H', θ <+: θ' → Same F F' → MR K cl θ' F' H' s' → DR K θ' F' d v → Q v H'
noncomputable def tMT (f : Wd → Option (Bool × Sto)) : TT := fun σ H Q => ∃ θ F w b s', MR K cl θ F H w.s ∧ MV K θ F σ w.η ∧ f w = some (b, s') ∧ ∀ θ' F' H', θ <+: θ' → Same F F' → MR K cl θ' F' H' s' → Q b H'
noncomputable def tMA (f : MFs) : TA := fun σ H Q => ∃ θ F w ds s', MR K cl θ F H w.s ∧ MV K θ F σ w.η ∧ f w = some (ds, s') ∧ ∀ vs θ' F' H', θ <+: θ' → Same F F' → MR K cl θ' F' H' s' → DRs K θ' F' ds vs → Q vs H'
end
noncomputable def ME (X : Cx) (cl : Nat → Addr) (e : Expr) (f : MF) : Prop := PE X e (tM X.K cl f)
noncomputable abbrev MTF := Wd → Option (Bool × Sto)
noncomputable def MT (X : Cx) (cl : Nat → Addr) (e : Expr) (f : MTF) : Prop := PT X e (tMT X.K cl f)
noncomputable def MTW (X : Cx) (cl : Nat → Addr) (e : Expr) (f : MTF) : Prop := PW X e (tMT X.K cl f)
noncomputable def MA (X : Cx) (cl : Nat → Addr) (es : List Expr) (f : MFs) : Prop := PA X es (tMA X.K cl f)
noncomputable def mP (f : En → Option PyData) : MF := fun w => (f (vw w)).bind fun x => some (.d x, w.s)
noncomputable def mN (f : En → Option (List PyData)) : MF := fun w => (f (vw w)).bind fun xs => some (.r w.s.length, w.s ++ [.lst (xs.map .d)])
noncomputable def mV (i : Nat) : MF := fun w => match w.η[i]? with | some (some d) => some (d, w.s) | _ => none
noncomputable def tPv (f : En → Option Bool) : MTF := fun w => (f (vw w)).bind fun b => some (b, w.s)
section
variable {X : Cx} {cl : Nat → Addr} {a b c e o : Expr} {es : List Expr} {f g : MF} {fs : MFs} {p : En → Option PyData} {ps : En → Option (List PyData)} {pt : En → Option Bool} {pos : Pos}
theorem ME.pu (h : ∀ B, E X B e p) : ME X cl e (mP p) := fun pins s σ H Q I ⟨θ, F, w, d, s', m, v, hf, q⟩ => by
  obtain ⟨x, hx, hf⟩ := bind_some hf
  cases hf
  exact h ⟨F, H⟩ pins s σ H Q I ⟨F, vw w, x, m.vw v, hx, fun u F' H' g r => q u θ F' H' (List.prefix_refl _) g.ff (m.grow g) r⟩
theorem rel_ds {K : PySem.W.Frag} {θ : List Addr} {F : Hp} : ∀ {xs : List PyData} {vs : List V}, RelL K F xs vs → DRs K θ F (xs.map .d) vs
  | [], _, h => by rw [h.nil_of]; exact .nil
  | x :: xs, vs, h => by
    obtain ⟨v, r, rfl, h1, h2⟩ := h.cons_of
    exact .cons h1 (rel_ds h2)
theorem ME.nw (h : ∀ B, EO X B e ps) : ME X cl e (mN ps) := fun pins s σ H Q I ⟨θ, F, w, d, s', m, v, hf, q⟩ => by
  obtain ⟨x, hx, hf⟩ := bind_some hf
  cases hf
  refine h ⟨F, H⟩ pins s σ H Q I ⟨F, vw w, x, m.vw v, hx, fun p xs F' H' g hp fp hp' rs => ?_⟩
  have m1 := m.grow g
  have na : ∀ (k : Nat) b, θ[k]? = some b → b ≠ p := fun k b e => m.ne hp e
  have pre : θ <+: θ ++ [p] := List.prefix_append _ _
  refine q _ (θ ++ [p]) F' H' pre g.ff ⟨m1.sm, by rw [List.length_append, List.length_append, m1.len]; rfl, ?_, fun k b c2 f1 f2 => ?_⟩ ⟨p, by rw [← m.len, List.getElem?_append_right (Nat.le_refl _), Nat.sub_self]; rfl, rfl⟩
  · rw [List.nodup_append]
    refine ⟨m.nd, by simp, fun b hb b' hb' => ?_⟩
    rw [List.mem_singleton.mp hb']
    obtain ⟨k, hk⟩ := List.getElem?_of_mem hb
    exact na k b hk
  · by_cases hk : k < θ.length
    · rw [List.getElem?_append_left hk] at f1
      rw [List.getElem?_append_left (by rw [← m.len]; exact hk)] at f2
      exact (m1.cel k b c2 f1 f2).pre pre
    · have hk1 : k = θ.length := by
        have := (List.getElem?_eq_some_iff.mp f1).1
        rw [List.length_append] at this
        have e1 : [p].length = 1 := rfl
        omega
      subst hk1
      rw [List.getElem?_append_right (Nat.le_refl _), Nat.sub_self] at f1
      rw [List.getElem?_append_right (by rw [m.len]; exact Nat.le_refl _), m.len, Nat.sub_self] at f2
      cases f1
      cases f2
      exact ⟨fp, xs, hp', rel_ds rs⟩
theorem ME.v (i : Nat) {x : Str} (hN : X.N[i]? = some x := by rfl) (hv : Vis X.env.scope x := by first | exact Or.inl rfl | exact Or.inr (Or.inl rfl) | exact Or.inr (Or.inr rfl)) (hd : (x == ("__debug__" : Str)) = false := by decide)
    (hcd : (x == ("__classdict__" : Str)) = false := by decide) : ME X cl (.Name x pos) (mV i) :=
  PE.imp (pe_var hN hv hd hcd) fun σ H Q ⟨θ, F, w, d, s', m, v, hf, q⟩ => by
    unfold mV at hf
    split at hf
    · rename_i d' e
      cases hf
      obtain ⟨u, e1, e2⟩ := v.val i _ e
      exact ⟨u, e1, q u θ F H (List.prefix_refl _) (.refl _) m e2⟩
    · cases hf
theorem MT.pu (h : ∀ B, T X B e pt) : MT X cl e (tPv pt) := fun pins s σ H Q I ⟨θ, F, w, b, s', m, v, hf, q⟩ => by
  obtain ⟨c, hx, hf⟩ := bind_some hf
  cases hf
  exact h ⟨F, H⟩ pins s σ H Q I ⟨F, vw w, _, m.vw v, hx, fun F' H' g => q θ F' H' (List.prefix_refl _) g.ff (m.grow g)⟩
noncomputable def tmNot (f : MTF) : MTF := fun w => (f w).bind fun r => some (!r.1, r.2)
noncomputable def tmOr (f g : MTF) : MTF := fun w => (f w).bind fun r => if r.1 = true then some (true, r.2) else g ⟨w.η, r.2⟩
variable {ta tb : MTF} {rest : List Expr}
theorem MT.not (ha : MT X cl a ta) : MT X cl (.UnaryOp .Not a pos) (tmNot ta) := PT.imp (pt_not ha) fun σ H Q ⟨θ, F, w, b, s', m, v, hf, q⟩ => by
  obtain ⟨⟨c, s1⟩, hx, hf⟩ := bind_some hf
  cases hf
  exact ⟨θ, F, w, c, _, m, v, hx, q⟩
theorem MTW.t (h : MTW X cl a ta) : MT X cl a ta := PW.pt h
theorem MTW.or1 (ha : MT X cl a ta) : MTW X cl (.BoolOp .Or [a] pos) ta := pw_or1 ha
theorem MTW.or (ha : MT X cl a ta) (hb : MTW X cl (.BoolOp .Or (b :: rest) pos) tb) : MTW X cl (.BoolOp .Or (a :: b :: rest) pos) (tmOr ta tb) := PW.imp (pw_or ha hb) fun σ H Q ⟨θ, F, w, b, s', m, v, hf, q⟩ => by
  obtain ⟨⟨c, s1⟩, hx, hf⟩ := bind_some hf
  refine ⟨θ, F, w, c, s1, m, v, hx, fun θ1 F1 H1 p1 q1 m1 => ?_⟩
  cases c with
  | true =>
    rw [if_pos rfl] at hf ⊢
    cases hf
    exact q θ1 F1 H1 p1 q1 m1
  | false =>
    rw [if_neg Bool.false_ne_true] at hf ⊢
    exact ⟨θ1, F1, ⟨w.η, s1⟩, b, s', m1, v.mono p1 q1, hf, fun θ2 F2 H2 p2 q2 m2 => q θ2 F2 H2 (p1.trans p2) (q1.trans q2) m2⟩
noncomputable def mOpL (o : PyData → PyData → Option PyData) (f g : MF) : MF := fun w => (f w).bind fun r => (g ⟨w.η, r.2⟩).bind fun q => (lD q.2 r.1).bind fun x => (lD q.2 q.1).bind fun y => (o x y).bind fun z => if flatD z = true then some (.d z, q.2) else none
theorem opL_of {r : R2} {o : PyData → PyData → Option PyData} (ad : Ad2 X.K r o) : ∀ σ H Q, tM X.K cl (mOpL o f g) σ H Q → tOp r (tM X.K cl f) (tM X.K cl g) σ H Q := fun σ H Q ⟨θ, F, w, d, s', m, v, hf, q⟩ => by
  obtain ⟨⟨d1, s1⟩, h1, hf⟩ := bind_some hf
  obtain ⟨⟨d2, s2⟩, h2, hf⟩ := bind_some hf
  obtain ⟨x, hx, hf⟩ := bind_some hf
  obtain ⟨y, hy, hf⟩ := bind_some hf
  obtain ⟨z, hz, hf⟩ := bind_some hf
  split at hf
  · rename_i hfl
    cases hf
    refine ⟨θ, F, w, d1, s1, m, v, h1, fun u θ1 F1 H1 p1 q1 m1 r1 => ⟨θ1, F1, ⟨w.η, s1⟩, d2, _, m1, v.mono p1 q1, h2, fun u2 θ2 F2 H2 p2 q2 m2 r2 => ?_⟩⟩
    exact ad (lentH θ2 F2 H2) H2 u u2 x y z Q (lent_in m2.sm) (sees_l m2 _ _ _ hx (r1.mono p2 q2)) (sees_l m2 _ _ _ hy r2) hz fun t F3 H3 g3 rt => q t θ2 F2 H3 (p1.trans p2) (q1.trans q2) (m2.grow (Gr.back m2.sm g3)) (flat_rel hfl rt)
  · cases hf
theorem ME.cmp {op : CmpOp} {r : R2} {oo : PyData → PyData → Option PyData} (ho : OpR X (compareOp op) r) (ad : Ad2 X.K r oo) (hm : behindInMarks op b = false) (ha : ME X cl a f) (hb : ME X cl b g) : ME X cl (.Compare a [op] [b] pos) (mOpL oo f g) := PE.imp (pe_cmpR ho ha hb hm) (opL_of ad)
noncomputable def mB (f : MF) : MTF := fun w => (f w).bind fun r => match r.1 with | .d x => (asB x).bind fun b => some (b, r.2) | _ => none
theorem MT.cmp {op : CmpOp} {r : R2} {oo : PyData → PyData → Option PyData} (ho : OpR X (compareOp op) r) (ad : Ad2 X.K r oo) (hm : behindInMarks op b = false) (ha : ME X cl a f) (hb : ME X cl b g) : MT X cl (.Compare a [op] [b] pos) (mB (mOpL oo f g)) :=
  PT.imp (pt_cmpR ho ha hb hm) fun σ H Q ⟨θ, F, w, c, s', m, v, hf, q⟩ => by
    obtain ⟨⟨d, s1⟩, h1, hf⟩ := bind_some hf
    cases d with
    | r n => cases hf
    | d x =>
      dsimp only at hf
      obtain ⟨b, hb, hf⟩ := bind_some hf
      cases hf
      obtain rfl := asB_some hb
      exact opL_of ad σ H _ ⟨θ, F, w, _, _, m, v, h1, fun u θ1 F1 H1 p1 q1 m1 r1 => ⟨c, (show Rel X.K F1 (.bool c) u from r1).bl, q θ1 F1 H1 p1 q1 m1⟩⟩
theorem MT.val (he : ME X cl e f) (hi : ∀ whole, isTrue e X.env whole = (do let v ← whole; standAt e.pos; holding [v] (truthy v)) := by intro _; rfl) : MT X cl e (mB f) := PT.imp (pt_val he hi) fun σ H Q ⟨θ, F, w, c, s', m, v, hf, q⟩ => by
  obtain ⟨⟨d, s1⟩, h1, hf⟩ := bind_some hf
  cases d with
  | r n => cases hf
  | d x =>
    dsimp only at hf
    obtain ⟨b, hb, hf⟩ := bind_some hf
    cases hf
    obtain rfl := asB_some hb
    exact ⟨θ, F, w, _, _, m, v, h1, fun u θ1 F1 H1 p1 q1 m1 r1 => ⟨c, (show Rel X.K F1 (.bool c) u from r1).bl, q θ1 F1 H1 p1 q1 m1⟩⟩
noncomputable def maN : MFs := fun w => some ([], w.s)
noncomputable def maC (f : MF) (fs : MFs) : MFs := fun w => (f w).bind fun r => (fs ⟨w.η, r.2⟩).bind fun rs => some (r.1 :: rs.1, rs.2)
theorem MA.nil : MA X cl [] maN := PA.imp pa_nil fun σ H Q ⟨θ, F, w, ds, s', m, v, hf, q⟩ => by
  cases hf
  exact q [] θ F H (List.prefix_refl _) (.refl _) m .nil
theorem MA.cons (ha : ME X cl e f) (hr : MA X cl es fs) (hs : starEach (e :: es) X.env = (false, eval e X.env) :: starEach es X.env := by exact star_of rfl) : MA X cl (e :: es) (maC f fs) := PA.imp (pa_cons ha hr hs) fun σ H Q ⟨θ, F, w, ds, s', m, v, hf, q⟩ => by
  obtain ⟨⟨d, s1⟩, h1, hf⟩ := bind_some hf
  obtain ⟨⟨ds2, s2⟩, h2, hf⟩ := bind_some hf
  cases hf
  refine ⟨θ, F, w, d, s1, m, v, h1, fun u θ1 F1 H1 p1 q1 m1 r1 => ⟨θ1, F1, ⟨w.η, s1⟩, ds2, s2, m1, v.mono p1 q1, h2, fun us θ2 F2 H2 p2 q2 m2 r2 => ?_⟩⟩
  exact q (u :: us) θ2 F2 H2 (p1.trans p2) (q1.trans q2) m2 (.cons (r1.mono p2 q2) r2)
end
noncomputable def eFld (i : Nat) (f : Str) : En → Option PyData := fun η => match η[i]? with | some (.ob fs) => fs f | _ => none
theorem E.fld (i : Nat) {X : Cx} {B : Bd} {x f : Str} {npos pos : Pos} (hN : X.N[i]? = some x := by rfl) (hv : Vis X.env.scope x := by first | exact Or.inl rfl | exact Or.inr (Or.inl rfl) | exact Or.inr (Or.inr rfl)) (hd : (x == ("__debug__" : Str)) = false := by decide)
    (hcd : (x == ("__classdict__" : Str)) = false := by decide) (hb : attributeBase (.Name x npos) f X.env (eval (.Name x npos) X.env) = eval (.Name x npos) X.env := by rfl) : E X B (.Attribute (.Name x npos) f pos) (eFld i f) :=
  PE.imp (pe_fld (pe_var hN hv hd hcd) hb) fun σ H Q ⟨F, η, d, sr, hd, q⟩ => by
    unfold eFld at hd
    split at hd
    · rename_i fs e
      obtain ⟨p, C, dx, xs, e1, e2, e3, e4⟩ := sr.en.obs i fs e
      obtain ⟨n, v, h1, h2⟩ := e4 f d hd
      exact ⟨_, e1, p, C, dx, xs, v, rfl, e2, e3, n, h1, q v F H (.refl sr.same) h2⟩
    · cases hd
end L2.PU
namespace L2.PU
open PySem PySem.Spec PyProof.Rows
noncomputable def spM (K : PySem.W.Frag) (cl : Nat → Addr) (fn : List D → Sto → Option (D × Sto)) : Sp := fun vs H Q _ => ∃ θ F s ds d s', MR K cl θ F H s ∧ DRs K θ F ds vs ∧ fn ds s = some (d, s') ∧ ∀ v θ' F' H', θ <+: θ' → Same F F' → MR K cl θ' F' H' s' → DR K θ' F' d v → Q v H'
noncomputable def mCall (fn : List D → Sto → Option (D × Sto)) (fs : MFs) : MF := fun w => (fs w).bind fun r => fn r.1 r.2
section
variable {X : Cx} {cl : Nat → Addr} {e o : Expr} {es : List Expr} {g : MF} {fs : MFs} {pos : Pos}
theorem ME.call {k k' : Nat} {fa : Addr} {fd : FuncData} {ps : List Str} {x : Str} {ppos : Pos} {fn : List D → Sto → Option (D × Sto)} (G : FnOk X.prog X.w X.K X.mg X.base CX0 k fa fd ps (spM X.K cl fn)) (hr : Room k' X.A) (hkk : k ≤ k') (hm : X.mg x = some (.ref fa)) (hk : PySem.W.keepIn X.K (.ref fa) = true) (hb : Binds X.K fd ps [])
    (ha : MA X cl (e :: es) fs) (hg : Gl X x := by rfl) (hdb : (x == ("__debug__" : Str)) = false := by decide) (he : starEach (e :: es) X.env = (false, eval e X.env) :: starEach es X.env := by exact star_of rfl) (hpl : (backTo pos (starEach es X.env)).any (·.1) = false := by exact plain_of rfl) :
    ME X cl (.Call (.Name x ppos) (e :: es) [] pos) (mCall fn fs) := PE.imp (pe_call G (hr.mono hkk) hg hm hk hb .nil pass0 ha hdb he hpl) fun σ H Q ⟨θ, F, w, d, s', m, v, hf, q⟩ => by
  obtain ⟨⟨ds, s1⟩, h1, hf⟩ := bind_some hf
  refine ⟨θ, F, w, ds, s1, m, v, h1, fun vs θ1 F1 H1 p1 q1 m1 r1 => ?_⟩
  show spM X.K cl fn (vs ++ []) H1 Q E0
  rw [List.append_nil]
  exact ⟨θ1, F1, s1, ds, d, s', m1, r1, hf, fun u θ2 F2 H2 p2 q2 m2 r2 => q u θ2 F2 H2 (p1.trans p2) (q1.trans q2) m2 r2⟩
theorem ME.call0 {k k' : Nat} {fa : Addr} {fd : FuncData} {ps : List Str} {x : Str} {ppos : Pos} {fn : List D → Sto → Option (D × Sto)} (G : FnOk X.prog X.w X.K X.mg X.base CX0 k fa fd ps (spM X.K cl fn)) (hr : Room k' X.A) (hkk : k ≤ k') (hm : X.mg x = some (.ref fa)) (hk : PySem.W.keepIn X.K (.ref fa) = true) (hb : Binds X.K fd ps [])
    (hg : Gl X x := by rfl) (hdb : (x == ("__debug__" : Str)) = false := by decide) :
    ME X cl (.Call (.Name x ppos) [] [] pos) (mCall fn maN) := PE.imp (pe_call0 G (hr.mono hkk) hg hm hk hb .nil pass0 hdb) fun σ H Q ⟨θ, F, w, d, s', m, v, hf, q⟩ => by
  obtain ⟨⟨ds, s1⟩, h1, hf⟩ := bind_some hf
  cases h1
  exact ⟨θ, F, w.s, [], d, s', m, .nil, hf, q⟩
noncomputable def mMeth (k : Nat) (nm : Str) (fn : List D → Sto → Option (D × Sto)) (o : MF) (fs : MFs) : MF := fun w => (o w).bind fun r => match r.1 with
  | .r n => (match r.2[n]? with
    | some (.obj k' as) => if k' = k ∧ as.lookup nm = none then (fs ⟨w.η, r.2⟩).bind fun rs => fn (.r n :: rs.1) rs.2 else none
    | _ => none)
  | _ => none
theorem meth_of {nm : Str} {k : Nat} {fn : List D → Sto → Option (D × Sto)} : ∀ σ H Q, tM X.K cl (mMeth k nm fn g fs) σ H Q → tMeth (cl k) nm (spM X.K cl fn) [] E0 (tM X.K cl g) (tMA X.K cl fs) σ H Q := fun σ H Q ⟨θ, F, w, d, s', m, v, hf, q⟩ => by
  obtain ⟨⟨d0, s0⟩, h0, hf⟩ := bind_some hf
  cases d0 with
  | d x => cases hf
  | r n =>
    dsimp only at hf
    split at hf
    · rename_i k' as hc
      split at hf
      · rename_i hk
        obtain ⟨⟨ds, s1⟩, h1, hf⟩ := bind_some hf
        obtain ⟨hk1, hk2⟩ := hk
        rw [hk1] at hc
        refine ⟨θ, F, w, .r n, s0, m, v, h0, fun u θ1 F1 H1 p1 q1 m1 r1 => ?_⟩
        obtain ⟨a, e1, rfl⟩ := id r1
        obtain ⟨c1, c2, c3, dx, xs, c4, c5⟩ := m1.cel n a _ e1 hc
        refine ⟨a, dx, xs, rfl, c4, (c5.look nm).2 hk2, θ1, F1, ⟨w.η, s0⟩, ds, s1, m1, v.mono p1 q1, h1, fun vs θ2 F2 H2 p2 q2 m2 r2 => ?_⟩
        show spM X.K cl fn (.ref a :: (vs ++ [])) H2 Q E0
        rw [List.append_nil]
        exact ⟨θ2, F2, s1, .r n :: ds, d, s', m2, .cons (DR.mono p2 q2 r1) r2, hf, fun u θ3 F3 H3 p3 q3 m3 r3 => q u θ3 F3 H3 (p1.trans (p2.trans p3)) (q1.trans (q2.trans q3)) m3 r3⟩
      · cases hf
    · cases hf
theorem ME.meth {pl : Sem Bool} {k k' kc : Nat} {fa : Addr} {fd : FuncData} {ps : List Str} {nm : Str} {apos : Pos} {fn : List D → Sto → Option (D × Sto)} (ho : ME X cl o g) (c : Cls X.K (cl kc)) (hm : Meth X.K (cl kc) nm fa) (G : FnOk X.prog X.w X.K X.mg X.base CX0 k fa fd ps (spM X.K cl fn)) (hr : Room k' X.A) (hkk : k ≤ k') (hb : Binds X.K fd ps [])
    (ha : MA X cl (e :: es) fs) (hst : starEach (e :: es) X.env = (false, eval e X.env) :: starEach es X.env := by exact star_of rfl) (hpl : (backTo pos (starEach es X.env)).any (·.1) = false := by exact plain_of rfl)
    (ht : eval (.Call (.Attribute o nm apos) (e :: es) [] pos) X.env = (do
      let ov ← eval o X.env
      standAt apos.atName
      let (f, first) ← holding [ov] (getMethod ov nm pl)
      callWith pos f first (backTo pos (starEach (e :: es) X.env)) (backToKw pos (keywordEach [] X.env))) := by rfl) : ME X cl (.Call (.Attribute o nm apos) (e :: es) [] pos) (mMeth kc nm fn g fs) :=
  PE.imp (pe_meth (pl := pl) ho c hm G (hr.mono hkk) hb .nil pass0 ha hst hpl ht) meth_of
theorem ME.meth0 {pl : Sem Bool} {k k' kc : Nat} {fa : Addr} {fd : FuncData} {ps : List Str} {nm : Str} {apos : Pos} {fn : List D → Sto → Option (D × Sto)} (ho : ME X cl o g) (c : Cls X.K (cl kc)) (hm : Meth X.K (cl kc) nm fa) (G : FnOk X.prog X.w X.K X.mg X.base CX0 k fa fd ps (spM X.K cl fn)) (hr : Room k' X.A) (hkk : k ≤ k') (hb : Binds X.K fd ps [])
    (ht : eval (.Call (.Attribute o nm apos) [] [] pos) X.env = (do
      let ov ← eval o X.env
      standAt apos.atName
      let (f, first) ← holding [ov] (getMethod ov nm pl)
      callWith pos f first (backTo pos (starEach [] X.env)) (backToKw pos (keywordEach [] X.env))) := by rfl) : ME X cl (.Call (.Attribute o nm apos) [] [] pos) (mMeth kc nm fn g maN) :=
  PE.imp (pe_meth0 (pl := pl) ho c hm G (hr.mono hkk) hb .nil pass0 ht) fun σ H Q h => by
    obtain ⟨θ, F, w, d, s', m, v, hf, q⟩ := h
    obtain ⟨⟨d0, s0⟩, h0, hf⟩ := bind_some hf
    cases d0 with
    | d x => cases hf
    | r n =>
      dsimp only at hf
      split at hf
      · rename_i k' as hc
        split at hf
        · rename_i hk
          obtain ⟨⟨ds, s1⟩, h1, hf⟩ := bind_some hf
          obtain ⟨hk1, hk2⟩ := hk
          rw [hk1] at hc
          cases h1
          refine ⟨θ, F, w, .r n, s0, m, v, h0, fun u θ1 F1 H1 p1 q1 m1 r1 => ?_⟩
          obtain ⟨a, e1, rfl⟩ := id r1
          obtain ⟨c1, c2, c3, dx, xs, c4, c5⟩ := m1.cel n a _ e1 hc
          exact ⟨a, dx, xs, rfl, c4, (c5.look nm).2 hk2, θ1, F1, s0, [.r n], d, s', m1, .cons r1 .nil, hf, fun u θ3 F3 H3 p3 q3 m3 r3 => q u θ3 F3 H3 (p1.trans p3) (q1.trans q3) m3 r3⟩
        · cases hf
      · cases hf
noncomputable def mMake (k : Nat) (fn : List D → Sto → Option (D × Sto)) (fs : MFs) : MF := fun w => (fs w).bind fun r => (fn (.r r.2.length :: r.1) (r.2 ++ [.obj k []])).bind fun q => match q.1 with
  | .d .none => some (.r r.2.length, q.2)
  | _ => none
theorem made_of {K : PySem.W.Frag} {θ : List Addr} {F H : Hp} {s : Sto} {kc : Nat} (c : Cls K (cl kc)) (m : MR K cl θ F H s) {x dx : Addr} (hx : H x = none) (hdx : H dx = none) (hne : dx ≠ x) :
    MR K cl (θ ++ [x]) F (upd (upd H dx (.own x)) x (.ins (cl kc) dx [])) (s ++ [.obj kc []]) := by
  have m1 := m.more (o := .own x) hdx
  have hx1 : upd H dx (.own x) x = none := by rw [upd_ne (Ne.symm hne)]; exact hx
  exact m1.new hx1 ⟨m1.sm.free hx1, c, fun f hf => (by cases hf), dx, [], upd_same, .nil⟩
theorem make_of {kc : Nat} {fn : List D → Sto → Option (D × Sto)} (c : Cls X.K (cl kc)) {θ : List Addr} {F H : Hp} {s s' : Sto} {ds : List D} {d : D} {vs : List V} {Q : VK} (m : MR X.K cl θ F H s) (r : DRs X.K θ F ds vs)
    (hf : ((fn (.r s.length :: ds) (s ++ [.obj kc []])).bind fun q => match q.1 with | .d .none => some (D.r s.length, q.2) | _ => none) = some (d, s'))
    (q : ∀ v θ' F' H', θ <+: θ' → Same F F' → MR X.K cl θ' F' H' s' → DR X.K θ' F' d v → Q v H') (x dx : Addr) (hx : H x = none) (hdx : H dx = none) (hne : dx ≠ x) :
    spM X.K cl fn (.ref x :: vs) (upd (upd H dx (.own x)) x (.ins (cl kc) dx [])) (fun v H2 => v = .non ∧ Q (.ref x) H2) E0 := by
  obtain ⟨⟨d1, s1⟩, h1, hf⟩ := bind_some hf
  have pre : θ <+: θ ++ [x] := List.prefix_append _ _
  have hix : (θ ++ [x])[s.length]? = some x := by rw [← m.len, List.getElem?_append_right (Nat.le_refl _), Nat.sub_self]; rfl
  refine ⟨θ ++ [x], F, s ++ [.obj kc []], .r s.length :: ds, d1, s1, made_of c m hx hdx hne, .cons ⟨x, hix, rfl⟩ (r.mono pre (.refl _)), h1, fun v θ2 F2 H2 p2 q2 m2 r2 => ?_⟩
  dsimp only at hf
  split at hf
  · rename_i hd
    cases hf
    have r2' : Rel X.K F2 .none v := r2
    exact ⟨r2'.non, q _ θ2 F2 H2 (pre.trans p2) q2 m2 ⟨x, pre_get p2 hix, rfl⟩⟩
  · cases hf
theorem ME.make {k k' kc : Nat} {fa : Addr} {fd : FuncData} {ps : List Str} {x : Str} {ppos : Pos} {fn : List D → Sto → Option (D × Sto)} (c : Cls X.K (cl kc)) (M : Mk X.K (cl kc) fa) (G : FnOk X.prog X.w X.K X.mg X.base CX0 k fa fd ps (spM X.K cl fn)) (hr : Room k' X.A) (hkk : k + 1 ≤ k') (hm : X.mg x = some (.ref (cl kc))) (hb : Binds X.K fd ps [])
    (ha : MA X cl (e :: es) fs) (hg : Gl X x := by rfl) (hdb : (x == ("__debug__" : Str)) = false := by decide) (he : starEach (e :: es) X.env = (false, eval e X.env) :: starEach es X.env := by exact star_of rfl) (hpl : (backTo pos (starEach es X.env)).any (·.1) = false := by exact plain_of rfl) :
    ME X cl (.Call (.Name x ppos) (e :: es) [] pos) (mMake kc fn fs) := PE.imp (pe_make M G (hr.mono hkk) hg hm hb .nil pass0 ha hdb he hpl) fun σ H Q ⟨θ, F, w, d, s', m, v, hf, q⟩ => by
  obtain ⟨⟨ds, s1⟩, h1, hf⟩ := bind_some hf
  refine ⟨θ, F, w, ds, s1, m, v, h1, fun vs θ1 F1 H1 p1 q1 m1 r1 => fun x dx hx hdx hne => ?_⟩
  show spM X.K cl fn (.ref x :: (vs ++ [])) _ _ E0
  rw [List.append_nil]
  exact make_of c m1 r1 hf (fun u θ2 F2 H2 p2 q2 m2 r2 => q u θ2 F2 H2 (p1.trans p2) (q1.trans q2) m2 r2) x dx hx hdx hne
end
end L2.PU
namespace L2.PU
open PySem PySem.Spec PyProof.Rows
inductive MOut where
  | nx (w : Wd)
  | rt (d : D) (s : Sto)
  | bk (w : Wd)
  | ct (w : Wd)
section
variable (K : PySem.W.Frag) (cl : Nat → Addr)
noncomputable def MNx (θ : List Addr) (F : Hp) (N : St → Hp → Prop) (w : Wd) : Prop := ∀ σ' θ' F' H', θ <+: θ' → Same F F' → MR K cl θ' F' H' w.s → MV K θ' F' σ' w.η → N σ' H'
noncomputable def MOk (θ : List Addr) (F : Hp) (Z : Ends) : MOut → Prop
  | .nx w => MNx K cl θ F Z.nx w
  | .rt d s => ∀ v θ' F' H', θ <+: θ' → Same F F' → MR K cl θ' F' H' s → DR K θ' F' d v → Z.rt v H'
  | .bk w => MNx K cl θ F Z.bk w
  | .ct w => MNx K cl θ F Z.ct w
noncomputable def tMS (f : Wd → Option MOut) : TS := fun Z σ H => ∃ θ F w o, MR K cl θ F H w.s ∧ MV K θ F σ w.η ∧ f w = some o ∧ MOk K cl θ F Z o
end
noncomputable def MS (X : Cx) (cl : Nat → Addr) (st : Stmt) (f : Wd → Option MOut) : Prop := PS X st (tMS X.K cl f)
noncomputable def MSs (X : Cx) (cl : Nat → Addr) (st : List Stmt) (f : Wd → Option MOut) : Prop := PSs X st (tMS X.K cl f)
theorem MNx.up {K : PySem.W.Frag} {cl : Nat → Addr} {θ θ1 : List Addr} {F F1 : Hp} {N : St → Hp → Prop} {w : Wd} (h : MNx K cl θ F N w) (p : θ <+: θ1) (s : Same F F1) : MNx K cl θ1 F1 N w := fun σ' θ' F' H' p' s' => h σ' θ' F' H' (p.trans p') (s.trans s')
theorem MOk.up {K : PySem.W.Frag} {cl : Nat → Addr} {θ θ1 : List Addr} {F F1 : Hp} {Z : Ends} {o : MOut} (h : MOk K cl θ F Z o) (p : θ <+: θ1) (s : Same F F1) : MOk K cl θ1 F1 Z o := by
  cases o with
  | nx w => exact MNx.up h p s
  | rt d s2 => exact fun v θ' F' H' p' s' => h v θ' F' H' (p.trans p') (s.trans s')
  | bk w => exact MNx.up h p s
  | ct w => exact MNx.up h p s
noncomputable def mNx : Wd → Option MOut := fun w => some (.nx w)
noncomputable def mSeq (f g : Wd → Option MOut) : Wd → Option MOut := fun w => (f w).bind fun o => match o with
  | .nx w' => g w'
  | o => some o
noncomputable def mRet (f : MF) : Wd → Option MOut := fun w => (f w).bind fun r => some (.rt r.1 r.2)
noncomputable def mIf (c : MTF) (f g : Wd → Option MOut) : Wd → Option MOut := fun w => (c w).bind fun r => if r.1 = true then f ⟨w.η, r.2⟩ else g ⟨w.η, r.2⟩
noncomputable def mSet (i : Nat) (f : MF) : Wd → Option MOut := fun w => (f w).bind fun r => some (.nx ⟨w.η.set i (some r.1), r.2⟩)
noncomputable def mExp (f : MF) : Wd → Option MOut := fun w => (f w).bind fun r => some (.nx ⟨w.η, r.2⟩)
noncomputable def putA (f : Str) (v : D) : List (Str × D) → List (Str × D)
  | [] => [(f, v)]
  | (g, x) :: r => if g = f then (g, v) :: r else (g, x) :: putA f v r
noncomputable def mPut (k : Nat) (nm : Str) (o e : MF) : Wd → Option MOut := fun w => (e w).bind fun r => (o ⟨w.η, r.2⟩).bind fun q => match q.1 with
  | .r n => (match q.2[n]? with
    | some (.obj k' fs) => if k' = k ∧ fs.length < 999 then some (.nx ⟨w.η, q.2.set n (.obj k (putA nm r.1 fs))⟩) else none
    | _ => none)
  | _ => none
section
variable {X : Cx} {cl : Nat → Addr} {st : Stmt} {sts sts' : List Stmt} {u v : Wd → Option MOut} {a b c e o : Expr} {f g : MF} {p : MTF} {pos pos' : Pos}
theorem MSs.nil : MSs X cl [] mNx := PSs.imp pss_nil fun Z σ H ⟨θ, F, w, o, m, v, hf, q⟩ => by
  cases hf
  exact q σ θ F H (List.prefix_refl _) (.refl _) m v
theorem MSs.one (h : MS X cl st u) : MSs X cl [st] u := pss_one h
theorem MSs.cons (h : MS X cl st u) (k : MSs X cl sts v) : MSs X cl (st :: sts) (mSeq u v) := PSs.imp (pss_cons h k) fun Z σ H ⟨θ, F, w, o, m, v, hf, q⟩ => by
  obtain ⟨o1, h1, hf⟩ := bind_some hf
  refine ⟨θ, F, w, o1, m, v, h1, ?_⟩
  cases o1 with
  | nx w' => exact fun σ' θ' F' H' p s m' v' => ⟨θ', F', w', o, m', v', hf, q.up p s⟩
  | rt d s => cases hf; exact q
  | bk w' => cases hf; exact q
  | ct w' => cases hf; exact q
theorem MS.never : MS X cl st (fun _ => none) := PS.imp ps_never fun Z σ H ⟨θ, F, w, o, m, v, hf, q⟩ => by cases hf
theorem MS.ret (he : ME X cl e f) : MS X cl (.Return (some e) pos) (mRet f) := PS.imp (ps_ret he) fun Z σ H ⟨θ, F, w, o, m, v, hf, q⟩ => by
  obtain ⟨⟨d, s⟩, h1, hf⟩ := bind_some hf
  cases hf
  exact ⟨θ, F, w, d, s, m, v, h1, q⟩
theorem MS.exp (he : ME X cl e f) (hs : swapsWith e none pos.line X.env = pure false := by rfl) : MS X cl (.Expr e pos) (mExp f) := PS.imp (ps_expr he hs) fun Z σ H ⟨θ, F, w, o, m, v, hf, q⟩ => by
  obtain ⟨⟨d, s⟩, h1, hf⟩ := bind_some hf
  cases hf
  exact ⟨θ, F, w, d, s, m, v, h1, fun u θ' F' H' p' s' m' _ => q σ θ' F' H' p' s' m' (v.mono p' s')⟩
theorem MS.ifS (hc : MT X cl c p) (ha : MSs X cl sts u) (hb : MSs X cl sts' v) : MS X cl (.If c sts sts' pos) (mIf p u v) := PS.imp (ps_if hc ha hb) fun Z σ H ⟨θ, F, w, o, m, v, hf, q⟩ => by
  obtain ⟨⟨b, s1⟩, h1, hf⟩ := bind_some hf
  refine ⟨θ, F, w, b, s1, m, v, h1, fun θ' F' H' p' s' m' => ?_⟩
  cases b with
  | false =>
    rw [if_neg Bool.false_ne_true] at hf ⊢
    exact ⟨θ', F', ⟨w.η, s1⟩, o, m', v.mono p' s', hf, q.up p' s'⟩
  | true =>
    rw [if_pos rfl] at hf ⊢
    exact ⟨θ', F', ⟨w.η, s1⟩, o, m', v.mono p' s', hf, q.up p' s'⟩
theorem MS.set (i : Nat) {x : Str} (hN : X.N.Nodup) (he : ME X cl e f) (hi : X.N[i]? = some x := by rfl) (hx : Loc X.env.scope x := by first | exact Or.inl rfl | exact Or.inr rfl) (hs : swapsWith e (some (.Name x pos')) pos.line X.env = pure false := by rfl)
    (hf : X.fn x = true ∨ X.env.scope.names.lookup x = some .local := by first | exact .inl rfl | exact .inr rfl) : MS X cl (.Assign [.Name x pos'] e pos) (mSet i f) := PS.imp (ps_set hN hi hx he hs hf) fun Z σ H ⟨θ, F, w, o, m, v, hf, q⟩ => by
  obtain ⟨⟨d, s⟩, h1, hf⟩ := bind_some hf
  cases hf
  exact ⟨θ, F, w, d, s, m, v, h1, fun u θ' F' H' p' s' m' r' => q _ θ' F' H' p' s' m' ((v.mono p' s').set i r')⟩
theorem DRf.put {K : PySem.W.Frag} {θ : List Addr} {F : Hp} {fs : List (Str × D)} {xs : List (Str × V)} (h : DRf K θ F fs xs) (f : Str) {d : D} {v : V} (r : DR K θ F d v) : DRf K θ F (putA f d fs) (putF f v xs) := by
  induction h with
  | nil => exact .cons ⟨rfl, r⟩ .nil
  | @cons a b as bs q t ih =>
    obtain ⟨ka, da⟩ := a
    obtain ⟨kb, vb⟩ := b
    have e : ka = kb := q.1
    subst e
    unfold putA putF
    by_cases hk : ka = f
    · rw [if_pos hk, if_pos hk]; exact .cons ⟨rfl, r⟩ t
    · rw [if_neg hk, if_neg hk]; exact .cons q ih
theorem putA_keys {f : Str} {d : D} : ∀ {fs : List (Str × D)} {g : Str}, g ∈ (putA f d fs).map (·.1) → g = f ∨ g ∈ fs.map (·.1)
  | [], g, h => .inl (by simpa [putA] using h)
  | (k, x) :: r, g, h => by
    unfold putA at h
    by_cases hk : k = f
    · rw [if_pos hk] at h
      rcases List.mem_cons.mp h with z | z
      · exact .inr (by rw [z]; exact List.mem_cons_self)
      · exact .inr (List.mem_cons_of_mem _ z)
    · rw [if_neg hk] at h
      rcases List.mem_cons.mp h with z | z
      · exact .inr (by rw [z]; exact List.mem_cons_self)
      · rcases putA_keys z with y | y
        · exact .inl y
        · exact .inr (List.mem_cons_of_mem _ y)
theorem MS.put {k : Nat} {nm : Str} (ho : ME X cl o g) (he : ME X cl e f) (hn : NoAttr X.K (cl k) nm) (hs : swapsWith e (some (.Attribute o nm pos')) pos.line X.env = pure false := by rfl) : MS X cl (.Assign [.Attribute o nm pos'] e pos) (mPut k nm g f) :=
  PS.imp (ps_fld ho he hs) fun Z σ H ⟨θ, F, w, o, m, v, hf, q⟩ => by
    obtain ⟨⟨d, s1⟩, h1, hf⟩ := bind_some hf
    obtain ⟨⟨d2, s2⟩, h2, hf⟩ := bind_some hf
    cases d2 with
    | d x => cases hf
    | r n =>
      dsimp only at hf h2
      split at hf
      · rename_i k' fs hc
        split at hf
        · rename_i hk
          cases hf
          obtain ⟨hk1, hk2⟩ := hk
          rw [hk1] at hc
          refine ⟨θ, F, w, d, s1, m, v, h1, fun y θ1 F1 H1 p1 q1 m1 r1 => ⟨θ1, F1, ⟨w.η, s1⟩, .r n, s2, m1, v.mono p1 q1, h2, fun x θ2 F2 H2 p2 q2 m2 r2 => ?_⟩⟩
          obtain ⟨a, e1, rfl⟩ := r2
          obtain ⟨c1, c2, c3, dx, xs, c4, c5⟩ := m2.cel n a _ e1 hc
          have hl : xs.length < 1000 := by
            have := Paired.length c5
            omega
          refine ⟨a, cl k, dx, xs, rfl, c4, c2, hn, hl, q _ θ2 F2 _ (p1.trans p2) (q1.trans q2) (m2.put e1 hc rfl ⟨c1, c2, fun f hf => ?_, dx, _, upd_same, c5.put nm (r1.mono p2 q2)⟩) ((v.mono p1 q1).mono p2 q2)⟩
          rcases putA_keys hf with z | z
          · rw [z]; exact hn
          · exact c3 f z
        · cases hf
      · cases hf
end
noncomputable def runM (n m : Nat) (g : Wd → Option MOut) : List D → Sto → Option (D × Sto) := fun ds s => if ds.length = n then (g ⟨ds.map some ++ List.replicate (m - n) none, s⟩).bind fun o => match o with
  | .rt d s' => some (d, s')
  | .nx w => some (.d .none, w.s)
  | _ => none else none
section
variable {P : Program} {w : World} {K : PySem.W.Frag} {mg : Str → Option Value} {base : Heap} {cl : Nat → Addr}
theorem MV.start {θ : List Addr} {F : Hp} {N : List Str} {ds : List D} {vs : List V} (r : DRs K θ F ds vs) : MV K θ F (L2.start N vs) (ds.map some ++ List.replicate (N.length - ds.length) none) where
  len := by unfold L2.start; rw [List.length_append, List.length_append, List.length_map, List.length_map, List.length_replicate, List.length_replicate, Paired.length r]
  val := fun i d e => by
    unfold L2.start
    by_cases hi : i < ds.length
    · rw [List.getElem?_append_left (by rw [List.length_map]; exact hi), List.getElem?_map] at e
      rw [List.getElem?_append_left (by rw [List.length_map, ← Paired.length r]; exact hi), List.getElem?_map]
      cases q : ds[i]? with
      | none => rw [q] at e; cases e
      | some d' =>
        rw [q] at e
        have : d' = d := Option.some.inj (Option.some.inj e)
        subst this
        obtain ⟨x, e1, e2⟩ := r.get q
        exact ⟨x, by rw [e1]; rfl, e2⟩
    · rw [List.getElem?_append_right (by rw [List.length_map]; omega), List.getElem?_replicate] at e
      split at e <;> cases e
theorem fnM {x qual : Str} {st : Stmt} {f : Addr} {fd : FuncData} {N ps : List Str} {k : Nat} {g : Wd → Option MOut} (Fn : Fun K x qual st f fd) (Sc : FnScope N ps (defScope st))
    (hb : ∀ (cdv : Value) (A : Around) (outer : List Env) (s : Shared) (H : Hp) (E : XK), Room k (A.deeper (envOfC qual (defScope st) s.heap.objs.size f cdv)) →
      MSs (cxOf CX0 P w K mg base N qual (defScope st) f cdv A outer s H E).nox cl (defBody st) g) :
    FnOk P w K mg base CX0 (k + 1) f fd ps (spM K cl (runM ps.length N.length g)) := by
  refine Fn.ok Sc (fun vs H Q E h => ?_) (fun cdv A outer s H vs Q E hr h => ?_)
  · obtain ⟨θ, F, s, ds, d, s', _, r, e, _⟩ := h
    unfold runM at e
    split at e
    · rename_i hl
      rw [← Paired.length r]; exact hl
    · cases e
  · obtain ⟨θ, F, s0, ds, d, s', m, r, e, q⟩ := h
    refine ⟨_, hb cdv A outer s H E hr, ?_⟩
    unfold runM at e
    split at e
    · rename_i hl
      obtain ⟨o, h1, e⟩ := bind_some e
      have z := MV.start (K := K) (N := N) r
      rw [hl] at z
      refine ⟨θ, F, ⟨_, s0⟩, o, m, z, h1, ?_⟩
      cases o with
      | rt d' s2 =>
        cases e
        exact q
      | nx w' =>
        cases e
        exact fun σ' θ' F' H' p' s' m' _ => q .non θ' F' H' p' s' m' (show Rel K F' .none .non from rel_non)
      | bk w' => cases e
      | ct w' => cases e
    · cases e
end
end L2.PU
namespace L2.PU
open PySem PySem.Spec PyProof.Rows
noncomputable def tMI (K : PySem.W.Frag) (cl : Nat → Addr) (f : Wd → Option (List PyData × Sto)) : TI := fun σ H R => ∃ θ F w ds s', MR K cl θ F H w.s ∧ MV K θ F σ w.η ∧ f w = some (ds, s') ∧ ∀ J θ' F' H', θ <+: θ' → Same F F' → MR K cl θ' F' H' s' → ItP K J F' ds → R J H'
noncomputable def MI (X : Cx) (cl : Nat → Addr) (tg iter : Expr) (f : Wd → Option (List PyData × Sto)) : Prop := PI X tg iter (tMI X.K cl f)
noncomputable def iPu (f : En → Option (List PyData)) : Wd → Option (List PyData × Sto) := fun w => (f (vw w)).bind fun ds => some (ds, w.s)
noncomputable def back : List Nat → MEn → En → Option MEn
  | [], η, _ => some η
  | k :: ks, η, ζ => match ζ[k]? with | some (.val x) => back ks (η.set k (some (.d x))) ζ | _ => none
noncomputable def mTg (ks : List Nat) (t : En → PyData → Option En) (w : Wd) (d : PyData) : Option Wd := (t (vw w) d).bind fun ζ => (back ks w.η ζ).bind fun η => some ⟨η, w.s⟩
noncomputable def mGo (ks : List Nat) (t : En → PyData → Option En) (body : Wd → Option MOut) : List PyData → Wd → Option MOut
  | [], w => some (.nx w)
  | d :: ds, w => (mTg ks t w d).bind fun w1 => (body w1).bind fun o => match o with
    | .nx w2 => mGo ks t body ds w2
    | .ct w2 => mGo ks t body ds w2
    | .bk w2 => some (.nx w2)
    | .rt d s => some (.rt d s)
noncomputable def mFor (ks : List Nat) (it : Wd → Option (List PyData × Sto)) (t : En → PyData → Option En) (body : Wd → Option MOut) : Wd → Option MOut := fun w => (it w).bind fun r => mGo ks t body r.1 ⟨w.η, r.2⟩
section
variable {X : Cx} {cl : Nat → Addr} {tg iter e : Expr} {f : MF} {fi : En → Option (List PyData)} {pos : Pos}
theorem MI.pu (h : ∀ B, I X B tg iter fi) : MI X cl tg iter (iPu fi) := fun pins s σ H R I ⟨θ, F, w, ds, s', m, v, hf, q⟩ => by
  obtain ⟨x, hx, hf⟩ := bind_some hf
  cases hf
  exact h ⟨F, H⟩ pins s σ H R I ⟨F, vw w, _, m.vw v, hx, fun J F' H' g ip => q J θ F' H' (List.prefix_refl _) g.ff (m.grow g) ip⟩
theorem back_ok {K : PySem.W.Frag} {θ : List Addr} {B : Bd} {F H : Hp} {σ' : St} {ζ : En} (sr : SR K B F H σ' ζ) : ∀ (ks : List Nat) {η η' : MEn}, back ks η ζ = some η' → η.length = σ'.length →
    (∀ (i : Nat) d, η[i]? = some (some d) → i ∈ ks ∨ ∃ v, σ'[i]? = some (some v) ∧ DR K θ F d v) → MV K θ F σ' η'
  | [], η, η', h, hl, hv => by
    cases h
    exact ⟨hl, fun i d e => (hv i d e).elim (fun z => (by cases z)) id⟩
  | k :: ks, η, η', h, hl, hv => by
    unfold back at h
    split at h
    · rename_i x hx
      refine back_ok sr ks h (by rw [List.length_set]; exact hl) fun i d e => ?_
      by_cases hk : k = i
      · subst hk
        by_cases hlt : k < η.length
        · rw [List.getElem?_set_self hlt] at e
          have e' : D.d x = d := Option.some.inj (Option.some.inj e)
          subst e'
          exact .inr (sr.en.val k x hx)
        · rw [List.getElem?_eq_none (by rw [List.length_set]; omega)] at e; cases e
      · rw [List.getElem?_set_ne hk] at e
        rcases hv i d e with z | z
        · rcases List.mem_cons.mp z with y | y
          · exact absurd y.symm hk
          · exact .inl y
        · exact .inr z
    · cases h
theorem tg_ok {K : PySem.W.Frag} {cl : Nat → Addr} {ks : List Nat} {gt : TG} {t : En → PyData → Option En} (ht : TgP K ks gt t) {θ : List Addr} {F H : Hp} {σ : St} {w w1 : Wd} {d : PyData} {x : V} (m : MR K cl θ F H w.s) (v : MV K θ F σ w.η) (rx : Rel K F d x) (h : mTg ks t w d = some w1) {Q : St → Hp → Prop}
    (q : ∀ σ' F' H', Same F F' → MR K cl θ F' H' w1.s → MV K θ F' σ' w1.η → Q σ' H') : gt x σ H Q := by
  obtain ⟨ζ, h1, h⟩ := bind_some h
  obtain ⟨η, h2, h⟩ := bind_some h
  cases h
  refine ht ⟨F, H⟩ F H σ (vw w) d x ζ (m.vw v) rx h1 Q fun σ' F' H' sr g hl hn => q σ' F' H' g.ff (m.grow g) (back_ok sr ks h2 (by rw [v.len, hl]) fun i d' e => ?_)
  by_cases hi : i ∈ ks
  · exact .inl hi
  · obtain ⟨u, e1, e2⟩ := v.val i d' e
    exact .inr ⟨u, by rw [hn i hi]; exact e1, e2.mono (List.prefix_refl _) g.ff⟩
theorem MS.for {body : List Stmt} {gt : TG} {ks : List Nat} {t : En → PyData → Option En} {fi : Wd → Option (List PyData × Sto)} {u : Wd → Option MOut} (hp : PassesOwn (model X.prog X.w) X.A X.env X.xe) (hc : X.calm = true) (hi : MI X cl tg iter fi) (hg : PG X tg gt) (ht : TgP X.K ks gt t) (hb : MSs X cl body u)
    (hs : ∀ x, foldedSetIterable iter X.env x = pure x := by intro _; rfl) : MS X cl (.For tg iter body [] pos) (mFor ks fi t u) := PS.imp (ps_for hp hc hi hg hb hs) fun Z σ H ⟨θ, F, w, o, m, v, hf, q⟩ => by
  obtain ⟨⟨ds, s1⟩, h1, hd⟩ := bind_some hf
  refine ⟨θ, F, w, ds, s1, m, v, h1, fun J θ1 F1 H1 p1 q1 m1 ip => ?_⟩
  refine ⟨fun i n σ H => n = ds.length - i ∧ i ≤ ds.length ∧ ∃ θc Fc wc, θ1 <+: θc ∧ Same F1 Fc ∧ MR X.K cl θc Fc H wc.s ∧ MV X.K θc Fc σ wc.η ∧ mGo ks t u (ds.drop i) wc = some o, ⟨_, rfl, Nat.zero_le _, θ1, F1, ⟨w.η, s1⟩, List.prefix_refl _, .refl _, m1, v.mono p1 q1, by simpa using hd⟩, ?_⟩
  rintro i n σc Hc ⟨rfl, hi, θc, Fc, wc, pc, sc, mc, vc, hgo⟩
  obtain ⟨ip1, ip2⟩ := ip Fc Hc i sc mc.sm
  by_cases hlt : i < ds.length
  · have e : ds[i]? = some ds[i] := List.getElem?_eq_getElem hlt
    obtain ⟨go, yl⟩ := ip1 _ e
    rw [List.drop_eq_getElem_cons hlt] at hgo
    unfold mGo at hgo
    obtain ⟨w1, e1, hgo⟩ := bind_some hgo
    obtain ⟨o1, e2, hgo⟩ := bind_some hgo
    have cont : ∀ (w2 : Wd), mGo ks t u (ds.drop (i + 1)) w2 = some o → ∀ σ' θ' F' H', θ1 <+: θ' → Same F1 F' → MR X.K cl θ' F' H' w2.s → MV X.K θ' F' σ' w2.η →
        ∃ n', n' < ds.length - i ∧ (fun i n σ H => n = ds.length - i ∧ i ≤ ds.length ∧ ∃ θc Fc wc, θ1 <+: θc ∧ Same F1 Fc ∧ MR X.K cl θc Fc H wc.s ∧ MV X.K θc Fc σ wc.η ∧ mGo ks t u (ds.drop i) wc = some o) (i + 1) n' σ' H' := fun w2 h2 σ' θ' F' H' p s m v =>
      ⟨ds.length - (i + 1), by omega, rfl, hlt, θ', F', w2, p, s, m, v, h2⟩
    refine .inr ⟨go, fun σ' H' => ∃ n', n' < ds.length - i ∧ (fun i n σ H => n = ds.length - i ∧ i ≤ ds.length ∧ ∃ θc Fc wc, θ1 <+: θc ∧ Same F1 Fc ∧ MR X.K cl θc Fc H wc.s ∧ MV X.K θc Fc σ wc.η ∧ mGo ks t u (ds.drop i) wc = some o) (i + 1) n' σ' H', fun σ' H' n => n, fun x H' y => ?_⟩
    obtain ⟨F2, g2, rx⟩ := yl x H' y
    refine tg_ok ht (mc.grow g2) (vc.mono (List.prefix_refl _) g2.ff) rx e1 fun σ3 F3 H3 s3 m3 v3 => ?_
    refine ⟨θc, F3, w1, o1, m3, v3, e2, ?_⟩
    have s4 : Same F1 F3 := sc.trans (g2.ff.trans s3)
    cases o1 with
    | nx w2 => exact fun σ' θ' F' H' p' s' m' v' => cont w2 hgo σ' θ' F' H' (pc.trans p') (s4.trans s') m' v'
    | ct w2 => exact fun σ' θ' F' H' p' s' m' v' => cont w2 hgo σ' θ' F' H' (pc.trans p') (s4.trans s') m' v'
    | bk w2 =>
      cases hgo
      exact fun σ' θ' F' H' p' s' m' v' => q σ' θ' F' H' (p1.trans (pc.trans p')) (q1.trans (s4.trans s')) m' v'
    | rt d s2 =>
      cases hgo
      exact fun u θ' F' H' p' s' m' r' => q u θ' F' H' (p1.trans (pc.trans p')) (q1.trans (s4.trans s')) m' r'
  · have ei : i = ds.length := by omega
    subst ei
    rw [List.drop_length] at hgo
    cases hgo
    exact .inl ⟨ip2 rfl, q σc θc Fc Hc (p1.trans pc) (q1.trans sc) mc vc⟩
end
section
variable {X : Cx} {cl : Nat → Addr} {tg iter elt : Expr} {ifs : List Expr} {scope : Scope} {N' : List Str} {mp : List (Option Nat)} {ks : List Nat} {gt : TG} {t : En → PyData → Option En} {fi : En → Option (List PyData)} {p : En → Option Bool} {f : En → Option PyData} {pos : Pos}
end
end L2.PU
namespace L2.PU
open PySem PySem.Spec PyProof.Rows
noncomputable def truD : PyData → Option Bool
  | .none => some false
  | .bool b => some b
  | .int i => some (i != 0)
  | .list ds => some (!ds.isEmpty)
  | .tuple ds => some (!ds.isEmpty)
  | _ => none
noncomputable def bTr (f : En → Option PyData) : En → Option Bool := fun η => (f η).bind truD
theorem relL_empty {K : PySem.W.Frag} {F : Hp} {ds : List PyData} {xs : List V} (h : RelL K F ds xs) : (!ds.isEmpty) = !xs.isEmpty := by
  cases ds with
  | nil => rw [h.nil_of]; rfl
  | cons d ds =>
    obtain ⟨x, r, rfl, _, _⟩ := h.cons_of
    rfl
theorem tru_of {K : PySem.W.Frag} {F H : Hp} {d : PyData} {b : Bool} {v : V} (h : truD d = some b) (sm : Same F H) (r : Rel K F d v) : TruV K v H b := by
  cases d with
  | none => cases h; rw [r.non]; rfl
  | bool k => cases h; rw [r.bl]; rfl
  | int i => cases h; rw [r.int]; rfl
  | str x => cases h
  | dict es => cases h
  | list ds =>
    cases h
    obtain ⟨a, xs, rfl, hq, rs⟩ := r.lst
    exact .inl ⟨xs, sm.seq hq, relL_empty rs⟩
  | tuple ds =>
    cases h
    obtain ⟨a, xs, rfl, hq, rs⟩ := r.tup
    exact .inr (.inl ⟨xs, same_seqT sm hq, relL_empty rs⟩)
section
variable {X : Cx} {B : Bd} {e : Expr} {f : En → Option PyData}
theorem T.tru (he : E X B e f) (hi : ∀ whole, isTrue e X.env whole = (do let v ← whole; standAt e.pos; holding [v] (truthy v)) := by intro _; rfl) : T X B e (bTr f) := PT.imp (pt_truth he hi) fun σ H Q ⟨F, η, b, sr, hd, q⟩ => by
  obtain ⟨x, hx, hd⟩ := bind_some hd
  exact ⟨F, η, x, sr, hx, fun v F1 H1 g1 rv => ⟨b, tru_of hd g1.fh rv, q F1 H1 g1⟩⟩
end
noncomputable def pDs (s : Sto) : List D → Option (List PyData)
  | [] => some []
  | d :: r => (pD s d).bind fun x => (pDs s r).bind fun xs => some (x :: xs)
noncomputable def mCB (o : List PyData → Option PyData) (fs : MFs) : MF := fun w => (fs w).bind fun r => (pDs r.2 r.1).bind fun xs => (o xs).bind fun x => some (.d x, r.2)
section
variable {X : Cx} {cl : Nat → Addr} {e : Expr} {es : List Expr} {fs : MFs} {pos pp : Pos}
theorem pDs_rel {K : PySem.W.Frag} {θ : List Addr} {F H : Hp} {s : Sto} (m : MR K cl θ F H s) {ds : List D} {vs : List V} (h : DRs K θ F ds vs) : ∀ {xs : List PyData}, pDs s ds = some xs → RelL K F xs vs := by
  induction h with
  | nil => intro xs e; cases e; exact .nil
  | @cons a b as bs r t ih =>
    intro xs e
    unfold pDs at e
    obtain ⟨x, h1, e⟩ := bind_some e
    obtain ⟨zs, h2, e⟩ := bind_some e
    cases e
    exact .cons (sees_p m _ _ _ h1 r) (ih h2)
end
section
variable {X : Cx} {cl : Nat → Addr} {a b : Expr} {f g : MF} {pos : Pos}
theorem ME.eq {k : Nat} (hr : Room k X.A) (ha : ME X cl a f) (hb : ME X cl b g) : ME X cl (.Compare a [.Eq] [b] pos) (mOpL pEq f g) := ME.cmp (op_eqD hr.units) ad_eq (nomark b) ha hb
theorem MT.ne {k : Nat} (hr : Room k X.A) (ha : ME X cl a f) (hb : ME X cl b g) : MT X cl (.Compare a [.NotEq] [b] pos) (mB (mOpL pNe f g)) := MT.cmp (op_neD hr.units) ad_ne (nomark b) ha hb
theorem MT.notIn (ha : ME X cl a f) (hb : ME X cl b g) (hm : behindInMarks .NotIn b = false := by with_unfolding_all rfl) : MT X cl (.Compare a [.NotIn] [b] pos) (mB (mOpL (pIn true) f g)) := MT.cmp op_notInA ad_in hm ha hb
end
noncomputable def spL (K : PySem.W.Frag) : Sp := fun vs H Q _ => ∃ (a : Addr) (ns : List Int), vs = [.ref a] ∧ SqL K H a (ns.map V.int) ∧ ns.length ≤ 63 ∧ ∀ H', Q (.bl true) H'
theorem spM_law {K : PySem.W.Frag} {cl : Nat → Addr} {fn : List D → Sto → Option (D × Sto)} (main : ∀ ns : List Int, ns.length ≤ 63 → ∃ s', fn [.d (.list (ns.map PyData.int))] [] = some (.d (.bool true), s')) : ∀ vs H Q E, spL K vs H Q E → spM K cl fn vs H Q E := fun vs H Q E ⟨a, ns, e, hS, hl, q⟩ => by
  subst e
  obtain ⟨s', hm⟩ := main ns hl
  exact ⟨[], H, [], [.d (.list (ns.map PyData.int))], .d (.bool true), s', ⟨.refl _, rfl, by simp, fun n a c h => by simp at h⟩, .cons (show Rel K H (.list (ns.map PyData.int)) (.ref a) from rel_lst hS (RelL.ints ns)) .nil, hm, fun v θ' F' H' _ _ _ r => by rw [(show Rel K F' (.bool true) v from r).bl]; exact q H'⟩
section
variable {X : Cx} {cl : Nat → Addr} {e : Expr} {es : List Expr} {fs : MFs} {pos : Pos}
theorem ME.callP {k k' : Nat} {fa : Addr} {fd : FuncData} {ps : List Str} {x : Str} {ppos : Pos} {fn : List PyData → Option PyData} (G : FnOk X.prog X.w X.K X.mg X.base CX0 k fa fd ps (spP X.K fn)) (hr : Room k' X.A) (hkk : k ≤ k') (hm : X.mg x = some (.ref fa)) (hk : PySem.W.keepIn X.K (.ref fa) = true) (hb : Binds X.K fd ps [])
    (ha : MA X cl (e :: es) fs) (hg : Gl X x := by rfl) (hdb : (x == ("__debug__" : Str)) = false := by decide) (he : starEach (e :: es) X.env = (false, eval e X.env) :: starEach es X.env := by exact star_of rfl) (hpl : (backTo pos (starEach es X.env)).any (·.1) = false := by exact plain_of rfl) :
    ME X cl (.Call (.Name x ppos) (e :: es) [] pos) (mCB fn fs) := PE.imp (pe_call G (hr.mono hkk) hg hm hk hb .nil pass0 ha hdb he hpl) fun σ H Q ⟨θ, F, w, d, s', m, v, hf, q⟩ => by
  obtain ⟨⟨ds, s1⟩, h1, hf⟩ := bind_some hf
  obtain ⟨xs, h2, hf⟩ := bind_some hf
  obtain ⟨x, h3, hf⟩ := bind_some hf
  cases hf
  refine ⟨θ, F, w, ds, _, m, v, h1, fun vs θ1 F1 H1 p1 q1 m1 r1 => ?_⟩
  show spP X.K fn (vs ++ []) H1 Q E0
  rw [List.append_nil]
  exact ⟨F1, xs, x, m1.sm, pDs_rel m1 r1 h2, h3, fun u F2 H2 g2 r2 => q u θ1 F2 H2 p1 (q1.trans g2.ff) (m1.grow g2) r2⟩
end
end L2.PU
namespace L2.PU
open PySem PySem.Spec PyProof.Rows
section
variable {w w1 : Wd} {s s1 s2 : Sto} {d d1 d2 : D} {ds : List D} {n i k : Nat} {nm : Str}
theorem mSeq_of {f g : Wd → Option MOut} {r : Option MOut} (h1 : f w = some (.nx w1)) (h2 : g w1 = r) : mSeq f g w = r := by
  unfold mSeq
  rw [h1]; exact h2
theorem mSeq_rt {f g : Wd → Option MOut} (h1 : f w = some (.rt d s)) : mSeq f g w = some (.rt d s) := by
  unfold mSeq
  rw [h1]; rfl
theorem mSet_of {f : MF} (h : f w = some (d, s)) : mSet i f w = some (.nx ⟨w.η.set i (some d), s⟩) := by
  unfold mSet
  rw [h]; rfl
theorem mRet_of {f : MF} (h : f w = some (d, s)) : mRet f w = some (.rt d s) := by
  unfold mRet
  rw [h]; rfl
theorem mExp_of {f : MF} (h : f w = some (d, s)) : mExp f w = some (.nx ⟨w.η, s⟩) := by
  unfold mExp
  rw [h]; rfl
theorem mP_of {f : En → Option PyData} {x : PyData} (h : f (vw w) = some x) : mP f w = some (.d x, w.s) := by
  unfold mP
  rw [h]; rfl
theorem tPv_of {f : En → Option Bool} {b : Bool} (h : f (vw w) = some b) : tPv f w = some (b, w.s) := by
  unfold tPv
  rw [h]; rfl
theorem mIfT {c : MTF} {f g : Wd → Option MOut} {r : Option MOut} (h : c w = some (true, s)) (h2 : f ⟨w.η, s⟩ = r) : mIf c f g w = r := by
  unfold mIf
  rw [h]; exact h2
theorem mIfF {c : MTF} {f g : Wd → Option MOut} {r : Option MOut} (h : c w = some (false, s)) (h2 : g ⟨w.η, s⟩ = r) : mIf c f g w = r := by
  unfold mIf
  rw [h]; exact h2
theorem mIfN {c : MTF} {f : Wd → Option MOut} (h : c w = some (false, s)) : mIf c f mNx w = some (.nx ⟨w.η, s⟩) := mIfF h rfl
theorem maN_of : maN w = some ([], w.s) := rfl
theorem maC_of {f : MF} {fs : MFs} (h1 : f w = some (d, s1)) (h2 : fs ⟨w.η, s1⟩ = some (ds, s2)) : maC f fs w = some (d :: ds, s2) := by
  unfold maC
  rw [h1, Option.bind_some, h2]; rfl
theorem mMeth_of {fn : List D → Sto → Option (D × Sto)} {o : MF} {fs : MFs} {as : List (Str × D)} (h0 : o w = some (.r n, s)) (hc : s[n]? = some (.obj k as)) (hl : as.lookup nm = none) (h1 : fs ⟨w.η, s⟩ = some (ds, s1)) (h2 : fn (.r n :: ds) s1 = some (d, s2)) : mMeth k nm fn o fs w = some (d, s2) := by
  unfold mMeth
  rw [h0, Option.bind_some]
  dsimp only
  rw [hc]
  dsimp only
  rw [if_pos ⟨rfl, hl⟩, h1]; exact h2
theorem mMake_of {fn : List D → Sto → Option (D × Sto)} {fs : MFs} (h1 : fs w = some (ds, s)) (h2 : fn (.r s.length :: ds) (s ++ [.obj k []]) = some (.d .none, s2)) : mMake k fn fs w = some (.r s.length, s2) := by
  unfold mMake
  rw [h1, Option.bind_some, h2]; rfl
theorem mPut_of {o e : MF} {fs : List (Str × D)} (h1 : e w = some (d, s1)) (h2 : o ⟨w.η, s1⟩ = some (.r n, s2)) (hc : s2[n]? = some (.obj k fs)) (hl : fs.length < 999) : mPut k nm o e w = some (.nx ⟨w.η, s2.set n (.obj k (putA nm d fs))⟩) := by
  unfold mPut
  rw [h1, Option.bind_some, h2, Option.bind_some]
  dsimp only
  rw [hc]
  dsimp only
  rw [if_pos ⟨rfl, hl⟩]
theorem mB_of {f : MF} {b : Bool} (h : f w = some (.d (.bool b), s)) : mB f w = some (b, s) := by
  unfold mB
  rw [h]; rfl
theorem mOpL_of {o : PyData → PyData → Option PyData} {f g : MF} {x y z : PyData} (h1 : f w = some (d1, s1)) (h2 : g ⟨w.η, s1⟩ = some (d2, s2)) (hx : lD s2 d1 = some x) (hy : lD s2 d2 = some y) (ho : o x y = some z) (hf : flatD z = true) : mOpL o f g w = some (.d z, s2) := by
  unfold mOpL
  rw [h1, Option.bind_some, h2, Option.bind_some, hx, Option.bind_some, hy, Option.bind_some, ho, Option.bind_some, if_pos hf]
theorem mCB_of {o : List PyData → Option PyData} {fs : MFs} {xs : List PyData} {x : PyData} (h1 : fs w = some (ds, s)) (h2 : pDs s ds = some xs) (h3 : o xs = some x) : mCB o fs w = some (.d x, s) := by
  unfold mCB
  rw [h1, Option.bind_some, h2, Option.bind_some, h3]; rfl
theorem mRun_of {a b : Nat} {g : Wd → Option MOut} (hl : ds.length = a) (h : g ⟨ds.map some ++ List.replicate (b - a) none, s⟩ = some (.rt d s1)) : runM a b g ds s = some (d, s1) := by
  unfold runM
  rw [if_pos hl, h]; rfl
theorem mRunN {a b : Nat} {g : Wd → Option MOut} (hl : ds.length = a) (h : g ⟨ds.map some ++ List.replicate (b - a) none, s⟩ = some (.nx w1)) : runM a b g ds s = some (.d .none, w1.s) := by
  unfold runM
  rw [if_pos hl, h]; rfl
theorem mFor_of {ks : List Nat} {it : Wd → Option (List PyData × Sto)} {t : En → PyData → Option En} {body : Wd → Option MOut} {xs : List PyData} {r : Option MOut} (h : it w = some (xs, s)) (h2 : mGo ks t body xs ⟨w.η, s⟩ = r) : mFor ks it t body w = r := by
  unfold mFor
  rw [h]; exact h2
theorem iPu_of {f : En → Option (List PyData)} {xs : List PyData} (h : f (vw w) = some xs) : iPu f w = some (xs, w.s) := by
  unfold iPu
  rw [h]; rfl
theorem mTg_name {x : PyData} (h : i < w.η.length) : mTg [i] (tgN i) w x = some ⟨w.η.set i (some (.d x)), w.s⟩ := by
  have e : ((vw w).set i (.val x))[i]? = some (.val x) := List.getElem?_set_self (by unfold vw; rw [List.length_map]; exact h)
  show (some ((vw w).set i (.val x))).bind _ = _
  rw [Option.bind_some]
  unfold back
  rw [e]
  rfl
theorem mGo_all {ι : Type} {ks : List Nat} {t : En → PyData → Option En} {body : Wd → Option MOut} (Z : ι → PyData) (Inv : List ι → Wd → Prop) (all : List ι)
    (st : ∀ done x rest w, all = done ++ x :: rest → Inv done w → ∃ w1 w2, mTg ks t w (Z x) = some w1 ∧ body w1 = some (.nx w2) ∧ Inv (done ++ [x]) w2) {w : Wd} (h0 : Inv [] w) : ∃ w', mGo ks t body (all.map Z) w = some (.nx w') ∧ Inv all w' := by
  have key : ∀ (rest done : List ι) (w : Wd), all = done ++ rest → Inv done w → ∃ w', mGo ks t body (rest.map Z) w = some (.nx w') ∧ Inv all w' := by
    intro rest
    induction rest with
    | nil => intro done w e h; exact ⟨w, rfl, by rw [e, List.append_nil]; exact h⟩
    | cons x r ih =>
      intro done w e h
      obtain ⟨w1, w2, h1, h2, h3⟩ := st done x r w e h
      obtain ⟨w', e1, e2⟩ := ih (done ++ [x]) w2 (by rw [e]; simp) h3
      refine ⟨w', ?_, e2⟩
      rw [List.map_cons]
      unfold mGo
      rw [h1, Option.bind_some, h2, Option.bind_some]
      exact e1
  exact key all [] w rfl h0
theorem vwS_obj {g : D → Option PyData} {fs : List (Str × D)} (hc : s[n]? = some (.obj k fs)) : vwS g s (some (.r n)) = .ob fun f => (fs.lookup f).bind g := by
  unfold vwS
  dsimp only
  rw [hc]
end
end L2.PU
namespace L2.PU
open PySem PySem.Spec PyProof.Rows
section
variable {X : Cx} {cl : Nat → Addr} {tg iter elt c : Expr} {ifs : List Expr} {scope : Scope} {N' : List Str} {mp : List (Option Nat)} {ks : List Nat} {gt : TG} {t : En → PyData → Option En} {fi : Wd → Option (List PyData × Sto)} {p : MTF} {f : MF} {pos : Pos}
theorem paired_app {α β : Type} {R : α → β → Prop} {as : List α} {bs : List β} (h : Paired R as bs) {a : α} {b : β} (r : R a b) : Paired R (as ++ [a]) (bs ++ [b]) := by
  induction h with
  | nil => exact .cons r .nil
  | cons q _ ih => exact .cons q ih
theorem paired_len {α β : Type} {R : α → β → Prop} {as : List α} {bs : List β} (h : Paired R as bs) : as.length = bs.length := by
  induction h with
  | nil => rfl
  | cons q _ ih => rw [List.length_cons, List.length_cons, ih]
end
end L2.PU
namespace L2.PU
open PySem PySem.Spec PyProof.Rows
end L2.PU
namespace L2.PU
open PySem PySem.Spec PyProof.Rows
noncomputable def mIfx (c : MTF) (f g : MF) : MF := fun w => (c w).bind fun r => if r.1 = true then f ⟨w.η, r.2⟩ else g ⟨w.η, r.2⟩
section
variable {X : Cx} {cl : Nat → Addr} {a b c e o : Expr} {es : List Expr} {f g : MF} {fs : MFs} {tc : MTF} {pos : Pos}
theorem ME.ifx (hc : MT X cl c tc) (ha : ME X cl a f) (hb : ME X cl b g) : ME X cl (.IfExp c a b pos) (mIfx tc f g) := PE.imp (pe_ifExp hc ha hb) fun σ H Q ⟨θ, F, w, d, s', m, v, hf, q⟩ => by
  obtain ⟨⟨x, s1⟩, h1, hf⟩ := bind_some hf
  refine ⟨θ, F, w, x, s1, m, v, h1, fun θ1 F1 H1 p1 q1 m1 => ?_⟩
  cases x with
  | true =>
    rw [if_pos rfl] at hf ⊢
    exact ⟨θ1, F1, ⟨w.η, s1⟩, d, s', m1, v.mono p1 q1, hf, fun u θ2 F2 H2 p2 q2 m2 r2 => q u θ2 F2 H2 (p1.trans p2) (q1.trans q2) m2 r2⟩
  | false =>
    rw [if_neg Bool.false_ne_true] at hf ⊢
    exact ⟨θ1, F1, ⟨w.η, s1⟩, d, s', m1, v.mono p1 q1, hf, fun u θ2 F2 H2 p2 q2 m2 r2 => q u θ2 F2 H2 (p1.trans p2) (q1.trans q2) m2 r2⟩
end
noncomputable def mAppC (o g : MF) : MF := fun w => (o w).bind fun r => match r.1 with
  | .r n => (match r.2[n]? with
    | some (.lst _) => (g ⟨w.η, r.2⟩).bind fun q => match q.2[n]? with
      | some (.lst ds) => if ds.length < sizeLine then some (.d .none, q.2.set n (.lst (ds ++ [q.1]))) else none
      | _ => none
    | _ => none)
  | _ => none
section
variable {X : Cx} {cl : Nat → Addr} {o e : Expr} {f g : MF} {apos cpos : Pos}
theorem ME.appC (ho : ME X cl o f) (he : ME X cl e g) (hbase : attributeBase o "append" X.env (eval o X.env) = eval o X.env := by rfl)
    (hfew : ((backTo cpos (starEach [e] X.env)).all (fun x => !x.1) && (backToKw cpos (keywordEach [] X.env)).all (fun x => x.1.isSome)
      && decide ([e].length + ([] : List Keyword).length + (if ([] : List Keyword).isEmpty then 0 else 1) < 30)) = true := by rfl)
    (hline : (apos.endLine == cpos.line) = true := by rfl) (hs : starEach [e] X.env = (false, eval e X.env) :: starEach [] X.env := by exact star_of rfl) (hplain : (backTo cpos (starEach [] X.env)).any (·.1) = false := by rfl) :
    ME X cl (.Call (.Attribute o "append" apos) [e] [] cpos) (mAppC f g) :=
  PE.imp (pe_bm PySem.F.plainAttrs_list PySem.F.slot_list_append PySem.F.type_list_append mt_append ho (MA.cons he MA.nil hs) hbase hfew hline hs hplain) fun σ H Q ⟨θ, F, w, d, s', m, v, hf, q⟩ => by
    obtain ⟨⟨d1, s1⟩, h1, hf⟩ := bind_some hf
    cases d1 with
    | d x => cases hf
    | r n =>
      dsimp only at hf
      split at hf
      · rename_i ds0 hc0
        obtain ⟨⟨d2, s2⟩, h2, hf⟩ := bind_some hf
        dsimp only at hf
        split at hf
        · rename_i ds hc
          split at hf
          · rename_i hl
            cases hf
            refine ⟨θ, F, w, _, s1, m, v, h1, fun u θ1 F1 H1 p1 q1 m1 r1 => ?_⟩
            obtain ⟨ad, z1, rfl⟩ := r1
            obtain ⟨w1, xs0, w3, w4⟩ := m1.cel n ad _ z1 hc0
            refine ⟨.inl ⟨rfl, xs0, SqL.of w3⟩, θ1, F1, ⟨w.η, s1⟩, [d2], s2, m1, v.mono p1 q1, maC_of h2 maN_of, fun vs θ2 F2 H2 p2 q2 m2 r2 => ?_⟩
            cases r2 with
            | @cons _ y _ _ ra rn =>
              cases rn
              have z2 := pre_get p2 z1
              obtain ⟨w5, xs, w6, w7⟩ := m2.cel n ad _ z2 hc
              have hlx := paired_len w7
              refine ⟨ad, xs, y, rfl, rfl, w6, by rw [← hlx]; exact hl, ?_⟩
              exact q _ θ2 F2 _ (p1.trans p2) (q1.trans q2) (m2.put (c' := .lst (ds ++ [d2])) z2 hc rfl ⟨w5, xs ++ [y], upd_same, paired_app w7 ra⟩) (show Rel X.K F2 .none .non from rel_non)
          · cases hf
        · cases hf
      · cases hf
end
end L2.PU
namespace L2.PU
open PySem PySem.Spec PyProof.Rows
end L2.PU
namespace L2.PU
open PySem PySem.Spec PyProof.Rows
noncomputable def mAnd (f g : MF) : MF := fun w => (f w).bind fun r => match r.1 with | .d x => (asB x).bind fun c => if c = true then g ⟨w.η, r.2⟩ else some (.d (.bool false), r.2) | _ => none
section
variable {X : Cx} {cl : Nat → Addr} {a b e : Expr} {rest es : List Expr} {f g : MF} {fs : MFs} {pos pp : Pos}
theorem ME.one {op} (ha : ME X cl a f) : ME X cl (.BoolOp op [a] pos) f := pe_one ha
theorem ME.and (ha : ME X cl a f) (hb : ME X cl (.BoolOp .And (b :: rest) pos) g) : ME X cl (.BoolOp .And (a :: b :: rest) pos) (mAnd f g) := PE.imp (pe_and ha hb) fun σ H Q ⟨θ, F, w, d, s', m, v, hf, q⟩ => by
  obtain ⟨⟨d1, s1⟩, h1, hf⟩ := bind_some hf
  cases d1 with
  | r n => cases hf
  | d x =>
    dsimp only at hf
    obtain ⟨c, hc, hf2⟩ := bind_some hf
    clear hf
    obtain rfl := asB_some hc
    have hf := hf2
    clear hf2
    refine ⟨θ, F, w, _, s1, m, v, h1, fun u θ1 F1 H1 p1 q1 m1 r1 => ⟨c, (show Rel X.K F1 (.bool c) u from r1).bl, ?_⟩⟩
    cases c with
    | false =>
      rw [if_neg Bool.false_ne_true] at hf ⊢
      cases hf
      exact q _ θ1 F1 H1 p1 q1 m1 (show Rel X.K F1 (.bool false) _ from rel_bl)
    | true =>
      rw [if_pos rfl] at hf ⊢
      exact ⟨θ1, F1, ⟨w.η, s1⟩, d, s', m1, v.mono p1 q1, hf, fun u θ2 F2 H2 p2 q2 m2 r2 => q u θ2 F2 H2 (p1.trans p2) (q1.trans q2) m2 r2⟩
end
end L2.PU
namespace L2.PU
open PySem PySem.Spec PyProof.Rows
section
variable {X : Cx} {cl : Nat → Addr} {tg e : Expr} {f : MF} {pos : Pos}
end
end L2.PU
namespace L2.PU
open PySem PySem.Spec PyProof.Rows
theorem ob_has {P : Program} {w : World} {H : Hp} {h : Heap} {a : Addr} {o : HO} (x : ObjOk P w H h a o) : ∃ ob, h.get? a = some ob := by
  cases o with
  | lst xs => obtain ⟨_, _, _, _, e⟩ := x; exact ⟨_, e⟩
  | tup xs => obtain ⟨_, _, _, ob, e, _⟩ := x; exact ⟨_, e⟩
  | dK kvs => obtain ⟨_, _, _, _, o, _, _, e, _⟩ := x; exact ⟨_, e⟩
  | dT kvs => obtain ⟨_, _, _, _, o, _, _, e, _⟩ := x; exact ⟨_, e⟩
  | set S n => obtain ⟨o, _, _, _, e, _⟩ := x; exact ⟨_, e⟩
  | ins C dx fs => obtain ⟨_, _, _, e, _⟩ := x; exact ⟨_, e⟩
  | own y => obtain ⟨_, e⟩ := x; exact ⟨_, e⟩
  | xd fs => obtain ⟨_, ⟨_, _, _, e, _⟩, _⟩ := x; exact ⟨_, e⟩
  | rng lo hi => obtain ⟨_, _, _, e⟩ := x; exact ⟨_, e⟩
  | frz ob u => obtain ⟨e, _⟩ := x; exact ⟨_, e⟩
  | tbl ps => exact ⟨_, (show h.get? a = some _ from x)⟩
  | met f y => exact ⟨_, (show h.get? a = some _ from x)⟩
  | ext φ => obtain ⟨_, e, _⟩ := x; exact e
structure Fly (P : Program) (w : World) (outer : List Env) (H : Hp) (s : Shared) (a C : Addr) (H' : Hp) (s' : Shared) : Prop where
  os : s'.os = s.os
  bare : AllBare s'.gens
  un : Un (frs outer) [] H H' s.heap s'.heap
  hok : HOk P w H' s'.heap
  nofr : ∀ b ∈ frs outer, H' b = none
  fly : ∃ (B : Heap) (t : Addr), Heap.FlyingW B outer a (.ref C) (.ref t) s'.heap ∧ ∀ b o, s'.heap.get? b = some o → ((∃ u, H' b = some u) ∨ ∃ o₀, s.heap.get? b = some o₀) → b ∉ frs outer → B.get? b = some o
theorem fly_heap {P : Program} {w : World} {l : List Env} {H H' : Hp} {h h1 h2 B : Heap} {a : Addr} {cls a0 : Value} (un : Un (frs l) [] H H' h h1) (hok : HOk P w H' h1) (nofr : ∀ b ∈ frs l, H' b = none)
    (ff : h1.FunFrames B l) (cov : ∀ b o, h1.get? b = some o → ((∃ u, H' b = some u) ∨ ∃ o₀, h.get? b = some o₀) → b ∉ frs l → B.get? b = some o)
    (st : B.StaysIn h2) (up : h1.UpToSlots h2) : Un (frs l) [] H H' h h2 ∧ HOk P w H' h2 := by
  have fr : ∀ b ∈ frs l, ∀ o, h1.get? b = some o → ∃ sl, h2.get? b = some { o with slots := sl } := fun b hb o e => by
    obtain ⟨_, o', ho', hd⟩ := ff.mem hb
    rw [e] at ho'; cases ho'
    exact up b o e hd
  refine ⟨⟨fun b o q n hb hx => ?_, fun b o q n hb hx => ?_, un.free, fun b o q hx => ?_, un.tups, un.frzs, un.tbls⟩, fun b u q => ?_⟩
  · exact st _ _ (cov b o (un.keep b o q n hb hx) (.inr ⟨o, q⟩) hb)
  · obtain ⟨sl, e1⟩ := un.slot b o q n hb hx
    obtain ⟨sl', e2⟩ := fr b hb _ e1
    exact ⟨sl', e2⟩
  · obtain ⟨o', e1⟩ := un.there b o q hx
    by_cases hb : b ∈ frs l
    · obtain ⟨sl', e2⟩ := fr b hb _ e1
      exact ⟨_, e2⟩
    · exact ⟨o', st _ _ (cov b o' e1 (.inr ⟨o, q⟩) hb)⟩
  · refine (hok b u q).stay (fun c v hc e => ?_) (fun _ z => z) fun _ _ z => z
    have hc' : ∃ u, H' c = some u := by
      rcases hc with rfl | hc
      · exact ⟨_, q⟩
      · exact ⟨_, hc⟩
    refine st _ _ (cov c v e (.inl hc') fun hm => ?_)
    obtain ⟨u', z⟩ := hc'
    rw [nofr c hm] at z; cases z
theorem Un.drop {fs : List Addr} {L : Addr} {H₀ H H' : Hp} {h₀ h h' : Heap} (a : Un fs [] H₀ H h₀ h) (b : Un (L :: fs) [] H H' h h') (hL : h₀.objs.size ≤ L) : Un fs [] H₀ H' h₀ h' := by
  have nL : ∀ c o, h₀.get? c = some o → c ≠ L := fun c o q z => absurd (Heap.lt_size q) (by rw [z]; exact Nat.not_lt.mpr hL)
  have nx : ∀ c : Addr, c ∉ ([] : List Addr) := fun c z => absurd z (by simp)
  refine ⟨fun c o q n hc hx => ?_, fun c o q n hc hx => ?_, fun c o q n hx => ?_, fun c o q hx => ?_, fun c xs q => b.tups c xs (a.tups c xs q), fun c o u q => b.frzs c o u (a.frzs c o u q), fun c ps q => ?_⟩
  · refine b.keep c o (a.keep c o q n hc hx) (a.free c o q n hx) (fun z => ?_) hx
    rcases List.mem_cons.mp z with z | z
    · exact nL c o q z
    · exact hc z
  · obtain ⟨sl, e1⟩ := a.slot c o q n hc hx
    obtain ⟨sl', e2⟩ := b.slot c _ e1 (a.free c o q n hx) (List.mem_cons_of_mem _ hc) hx
    exact ⟨sl', e2⟩
  · obtain ⟨o', e1⟩ := a.there c o q hx
    exact b.free c o' e1 (a.free c o q n hx) hx
  · obtain ⟨o', e1⟩ := a.there c o q hx
    exact b.there c o' e1 hx
  · obtain ⟨m1, e1⟩ := a.tbls c ps q
    obtain ⟨m2, e2⟩ := b.tbls c _ e1
    exact ⟨m1 ++ m2, by rw [e2, Array.append_assoc]⟩
noncomputable def CXX (P : Program) (w : World) : CXT := fun outer H s E e s' => ∃ a C H', e = .ref a ∧ Fly P w outer H s a C H' s' ∧ E (.ref C) none H'
section
variable {P : Program} {w : World} {K : PySem.W.Frag} {mg : Str → Option Value} {base : Heap} {N : List Str} {qual : Str} {scope : Scope} {f : Addr} {cd : Value} {A : Around} {outer : List Env} {s₀ : Shared} {H₀ : Hp} {E : XK}
theorem leave_on {pins : List (Addr × Obj)} {σ : St} {H H' : Hp} {s s' : Shared} {a C : Addr} (I : Inv (cxOf (CXX P w) P w K mg base N qual scope f cd A outer s₀ H₀ E) pins σ H s)
    (x : Fly P w (envOfC qual scope s₀.heap.objs.size f cd :: outer) H s a C H' s') (q : E (.ref C) none H') : (cxOf (CXX P w) P w K mg base N qual scope f cd A outer s₀ H₀ E).xe (.ref a) s' := by
  obtain ⟨B, t, fl, cov⟩ := x.fly
  have hL : s₀.heap.objs.size ≤ (envOfC qual scope s₀.heap.objs.size f cd).locals := I.ok.above
  show wpAny _ _ _ (fun _ s'' => CXX P w outer H₀ s₀ E (.ref a) s'') _ _
  refine wpAny_leaves_onW I.ok.frames rfl fl fun h' x1 x2 => ⟨a, C, H', rfl, ?_, q⟩
  obtain ⟨u2, k2⟩ := fly_heap (a := a) (cls := .ref C) (a0 := .ref t) x.un x.hok x.nofr fl.2.2.1 cov x1.1 x2
  have u3 : Un (frs outer) [] H₀ H' s₀.heap h' := Un.drop I.base u2 (Nat.le_refl _)
  refine ⟨x.os.trans I.os, x.bare, u3, k2, fun b hb => x.nofr b (List.mem_cons_of_mem _ hb), B, t, x1, fun b o e hc hb => ?_⟩
  have nx : b ∉ ([] : List Addr) := by simp
  have key : ∀ o', s'.heap.get? b = some o' → ((∃ u, H' b = some u) ∨ ∃ o₀, s.heap.get? b = some o₀) → b ∉ frs (envOfC qual scope s₀.heap.objs.size f cd :: outer) → B.get? b = some o := fun o' e' hc' hm => by
    have z := cov b o' e' hc' hm
    rw [x1.1 _ _ z] at e; cases e; exact z
  rcases hc with ⟨u, hu⟩ | ⟨o₀, e0⟩
  · obtain ⟨o', e'⟩ := ob_has (x.hok b u hu)
    refine key o' e' (.inl ⟨u, hu⟩) fun hm => ?_
    rw [x.nofr b hm] at hu; cases hu
  · obtain ⟨o1, e1⟩ := I.base.there b o₀ e0 nx
    obtain ⟨o', e'⟩ := x.un.there b o1 e1 nx
    refine key o' e' (.inr ⟨o1, e1⟩) fun hm => ?_
    rcases List.mem_cons.mp hm with z | z
    · have := Heap.lt_size e0
      rw [show b = s₀.heap.objs.size from z] at this
      exact Nat.lt_irrefl _ this
    · exact hb z
theorem leave_made {pins : List (Addr × Obj)} {σ : St} {H : Hp} {s : Shared} {e C : Addr} {h1 : Heap} {vs : List Value} (I : Inv (cxOf (CXX P w) P w K mg base N qual scope f cd A outer s₀ H₀ E) pins σ H s)
    (hx : Heap.MadeExcOf s.heap h1 e (.ref C) vs) (q : E (.ref C) none H) : (cxOf (CXX P w) P w K mg base N qual scope f cd A outer s₀ H₀ E).xe (.ref e) { s with heap := h1 } := by
  have ff : s.heap.FunFrames base (envOfC qual scope s₀.heap.objs.size f cd :: outer) := I.stack
  have free : ∀ b ∈ frs (envOfC qual scope s₀.heap.objs.size f cd :: outer), H b = none := I.stkFree
  have hin : ∀ env ∈ (envOfC qual scope s₀.heap.objs.size f cd :: outer), ∀ b, env.frame = some b → b ∈ frs (envOfC qual scope s₀.heap.objs.size f cd :: outer) := fun env he b hb => List.mem_filterMap.mpr ⟨env, he, hb⟩
  show wpAny _ _ _ (fun _ s'' => CXX P w outer H₀ s₀ E (.ref e) s'') _ _
  refine wpAny_leaves_madeW (base := PySem.W.hideAll s.heap (frs (envOfC qual scope s₀.heap.objs.size f cd :: outer))) (h := s.heap) I.ok.frames rfl (fun b o z => PySem.W.of_hideAll _ z) (PySem.W.funFrames_hide ff hin) hx fun h' t x1 x2 x3 x4 => ⟨e, C, H, rfl, ?_, q⟩
  have cov : ∀ b o, s.heap.get? b = some o → ((∃ u, H b = some u) ∨ ∃ o₀, s.heap.get? b = some o₀) → b ∉ frs (envOfC qual scope s₀.heap.objs.size f cd :: outer) → (PySem.W.hideAll s.heap (frs (envOfC qual scope s₀.heap.objs.size f cd :: outer))).get? b = some o :=
    fun b o z _ hm => PySem.W.hideAll_get _ z hm
  have up : s.heap.UpToSlots h' := (Heap.UpToSlots.of_keeps hx.keeps).trans x4
  obtain ⟨u2, k2⟩ := fly_heap (a := e) (cls := .ref C) (a0 := .ref t) (P := P) (w := w) (H := H) (H' := H) (h := s.heap) (h1 := s.heap) (l := envOfC qual scope s₀.heap.objs.size f cd :: outer) (Un.refl) I.hok free (PySem.W.funFrames_hide ff hin) cov x1.1 up
  have u3 : Un (frs outer) [] H₀ H s₀.heap h' := Un.drop I.base u2 (Nat.le_refl _)
  refine ⟨I.os, I.bare, u3, k2, fun b hb => free b (List.mem_cons_of_mem _ hb), _, t, x1, fun b o z hc hb => ?_⟩
  have nx : b ∉ ([] : List Addr) := by simp
  have key : ∀ o', s.heap.get? b = some o' → b ∉ frs (envOfC qual scope s₀.heap.objs.size f cd :: outer) → (PySem.W.hideAll s.heap (frs (envOfC qual scope s₀.heap.objs.size f cd :: outer))).get? b = some o := fun o' e' hm => by
    have y := PySem.W.hideAll_get (frs (envOfC qual scope s₀.heap.objs.size f cd :: outer)) e' hm
    rw [x1.1 _ _ y] at z; cases z; exact y
  rcases hc with ⟨u, hu⟩ | ⟨o₀, e0⟩
  · obtain ⟨o', e'⟩ := ob_has (I.hok b u hu)
    refine key o' e' fun hm => ?_
    rw [free b hm] at hu; cases hu
  · obtain ⟨o1, e1⟩ := I.base.there b o₀ e0 nx
    refine key o1 e1 fun hm => ?_
    rcases List.mem_cons.mp hm with z | z
    · have := Heap.lt_size e0
      rw [show b = s₀.heap.objs.size from z] at this
      exact Nat.lt_irrefl _ this
    · exact hb z
end
end L2.PU
namespace L2.PU
open PySem PySem.Spec PyProof.Rows
section
variable {X : Cx} {B : Bd} {W : Nat → Hp → Prop} {ca : Nat → Addr}
theorem PS.nox {X : Cx} {st : Stmt} {t : TS} (h : PS X.nox st t) : PS X st t := fun pins s σ H D I hw =>
  wpAny_mono (h pins s σ H D (I.wish _) hw) (fun _ _ q => q.unwish) fun _ _ z => False.elim z
theorem PE.no {e : Expr} : PE X e (fun _ _ _ => False) := fun _ _ _ _ _ _ h => h.elim
theorem PSs.no {st : List Stmt} : PSs X st (fun _ _ _ => False) := fun _ _ _ _ _ _ h => h.elim
theorem PSs.or {e : List Stmt} {t u : TS} (h : PSs X e t) (k : PSs X e u) : PSs X e (fun D σ H => t D σ H ∨ u D σ H) := fun pins s σ H Q I q => q.elim (h pins s σ H Q I) (k pins s σ H Q I)
noncomputable def EW (ca : Nat → Addr) (W : Nat → Hp → Prop) : XK := fun v _ H' => ∃ c, v = .ref (ca c) ∧ W c H'
noncomputable abbrev XOk (X : Cx) (ca : Nat → Addr) (W : Nat → Hp → Prop) : Prop := Passes (CXX X.prog X.w) X (EW ca W)
noncomputable def XMd (X : Cx) (ca : Nat → Addr) (W : Nat → Hp → Prop) : Prop := ∀ (pins : List (Addr × Obj)) (σ : St) (H : Hp) (s : Shared) (c : Nat) (vs : List Value) (h' : Heap) (e : Addr), Inv X pins σ H s → Heap.MadeExcOf s.heap h' e (.ref (ca c)) vs → W c H → X.xe (.ref e) { s with heap := h' }
noncomputable def tX (K : PySem.W.Frag) (B : Bd) (W : Nat → Hp → Prop) (g : En → Option Nat) : St → Hp → Prop := fun σ H => ∃ F η c, SR K B F H σ η ∧ g η = some c ∧ ∀ F' H', Gr B.F B.H F' H' → W c H'
noncomputable def EX (X : Cx) (B : Bd) (W : Nat → Hp → Prop) (e : Expr) (g : En → Option Nat) : Prop := PE X e (fun σ H _ => tX X.K B W g σ H)
noncomputable def SX (X : Cx) (B : Bd) (W : Nat → Hp → Prop) (st : Stmt) (g : En → Option Nat) : Prop := PS X st (fun _ σ H => tX X.K B W g σ H)
noncomputable def SsX (X : Cx) (B : Bd) (W : Nat → Hp → Prop) (st : List Stmt) (g : En → Option Nat) : Prop := PSs X st (fun _ σ H => tX X.K B W g σ H)
noncomputable def spX (K : PySem.W.Frag) (ca : Nat → Addr) (fx : List PyData → Option Nat) : Sp := fun vs H _ E => ∃ F ds c, Same F H ∧ RelL K F ds vs ∧ fx ds = some c ∧ ∀ F' H', Gr F H F' H' → E (.ref (ca c)) none H'
variable {st : Stmt} {sts sts' : List Stmt} {e a b : Expr} {es : List Expr} {f : En → Option PyData} {fs : En → Option (List PyData)} {g g' : En → Option Nat} {u : En → Option Out} {p : En → Option Bool} {pos pos' : Pos}
noncomputable def xSeq (u : En → Option Out) (g : En → Option Nat) : En → Option Nat := fun η => (u η).bind fun o => match o with
  | .nx η' => g η'
  | _ => none
theorem SsX.one (h : SX X B W st g) : SsX X B W (st :: sts) g := PSs.imp (pss_cons h PSs.no) fun _ _ _ q => q
theorem SsX.cons (h : S X B st u) (k : SsX X B W sts g) : SsX X B W (st :: sts) (xSeq u g) := PSs.imp (pss_cons h k) fun D σ H ⟨F, η, c, sr, h, q⟩ => by
  obtain ⟨o, h1, h2⟩ := bind_some h
  refine ⟨F, η, o, sr, h1, ?_⟩
  cases o with
  | nx η' => exact fun σ' F' H' r _ => ⟨F', η', c, r, h2, q⟩
  | rt d => cases h2
  | bk η' => cases h2
  | ct η' => cases h2
theorem EX.call {k k' : Nat} {fa : Addr} {fd : FuncData} {ps : List Str} {x : Str} {ppos : Pos} {fx : List PyData → Option Nat} (G : FnOk X.prog X.w X.K X.mg X.base (CXX X.prog X.w) k fa fd ps (spX X.K ca fx)) (hx : XOk X ca W) (hr : Room k' X.A) (hkk : k ≤ k') (hm : X.mg x = some (.ref fa))
    (hk : PySem.W.keepIn X.K (.ref fa) = true) (hb : Binds X.K fd ps []) (ha : A X B (e :: es) fs) (hg : Gl X x := by rfl) (hdb : (x == ("__debug__" : Str)) = false := by decide) (he : starEach (e :: es) X.env = (false, eval e X.env) :: starEach es X.env := by exact star_of rfl) (hpl : (backTo pos (starEach es X.env)).any (·.1) = false := by exact plain_of rfl) :
    EX X B W (.Call (.Name x ppos) (e :: es) [] pos) (fun η => (fs η).bind fx) := PE.imp (pe_call G (hr.mono hkk) hg hm hk hb .nil hx ha hdb he hpl) fun σ H Q ⟨F, η, c, sr, h, q⟩ => by
  obtain ⟨ds, h1, h2⟩ := bind_some h
  refine ⟨F, η, ds, sr, h1, fun vs F1 H1 g1 rl => ?_⟩
  show spX X.K ca fx (vs ++ []) H1 Q (EW ca W)
  rw [List.append_nil]
  exact ⟨F1, ds, c, g1.fh, rl, h2, fun F' H' g2 => ⟨c, rfl, q F' H' ((sr.gr.trans g1).trans g2)⟩⟩
end
end L2.PU
namespace L2.PU
open PySem PySem.Spec PyProof.Rows
end L2.PU
namespace L2.PU
open PySem PySem.Spec PyProof.Rows
section
variable {X : Cx} {B : Bd} {W : Nat → Hp → Prop} {ca : Nat → Addr} {e a b c : Expr} {f : En → Option PyData} {p q r : En → Bool} {pos pos' : Pos}
noncomputable def tSS (K : PySem.W.Frag) (B : Bd) (p : En → Bool) : TE := fun σ H Q => ∃ F η, SR K B F H σ η ∧ p η = true ∧ ∀ y F' H', Gr F H F' H' → y.length ≤ 2000 → Q (.str y) H'
noncomputable def tAny (K : PySem.W.Frag) (B : Bd) (p : En → Bool) : TE := fun σ H Q => ∃ F η, SR K B F H σ η ∧ p η = true ∧ ∀ v F' H', Gr F H F' H' → Q v H'
noncomputable def ES (X : Cx) (B : Bd) (e : Expr) (p : En → Bool) : Prop := PE X e (tSS X.K B p)
noncomputable def EA (X : Cx) (B : Bd) (e : Expr) (p : En → Bool) : Prop := PE X e (tAny X.K B p)
noncomputable def pYes : En → Bool := fun _ => true
noncomputable def pRep (f : En → Option PyData) : En → Bool := fun η => match f η with
  | some (.str x) => decide (x.length ≤ 50) && x.cps.toList.all fun c => decide (c < 16 ^ 8)
  | _ => false
theorem two_line : 2000 ≤ sizeLine := by decide
theorem ES.lit {x : Str} {j} (h : decide (x.length ≤ 1000) = true) : ES X B (.Constant (.str x) j pos) pYes := PE.imp pe_str fun σ H Q ⟨F, η, sr, _, q⟩ => q x F H (.refl sr.same) (by have := of_decide_eq_true h; omega)
theorem ES.repr (h : E X B e f) : ES X B (.FormattedValue e 114 none pos) (pRep f) := by
  intro pins s σ H Q I ⟨F, η, sr, hp, q⟩
  unfold pRep at hp
  split at hp
  · rename_i x ex
    rw [Bool.and_eq_true] at hp
    have hl0 := of_decide_eq_true hp.1
    have hl := PySem.StrLaws.reprText_len x fun c hc => of_decide_eq_true (List.all_eq_true.mp hp.2 c hc)
    refine wpAny_FormattedValue_repr (thn (h pins s σ H (fun v H1 => v = .str x ∧ ∃ F1, Gr F H F1 H1) I ⟨F, η, .str x, sr, ex, fun v F1 H1 g1 rl => ⟨rl.str, F1, g1⟩⟩) fun u s1 ⟨v, H1, I1, rv, ev, F1, g1⟩ => ?_)
    subst ev
    obtain ⟨t, rfl⟩ := rv
    refine wpAny_pyReprObj_gives (T := "str") (typeIs_str _ _ _) PyProof.Rows.slot_str_repr PyProof.Rows.entry_str_repr (PyProof.Rows.args_str_repr _) (gives_str_repr x t) ?_ rfl (by have := two_line; omega)
    exact PyProof.Rows.formatField_str (fun t' tk => ⟨.str _, H1, (I1.tok _).tok _, ⟨t', rfl⟩, q _ F1 H1 g1 (by omega)⟩) (by have := two_line; omega)
  · cases hp
theorem len_app (x y : Str) : (x ++ y).length = x.length + y.length := strLen_append x y
theorem EA.js2 (ha : ES X B a p) (hb : ES X B b q) : EA X B (.JoinedStr [a, b] pos) (fun η => p η && q η) := by
  intro pins s σ H Q I ⟨F, η, sr, hp, k⟩
  rw [Bool.and_eq_true] at hp
  refine wpAny_JoinedStr (thn (ha pins s σ H (fun v H1 => ∃ y F1, v = .str y ∧ y.length ≤ 2000 ∧ Gr F H F1 H1) I ⟨F, η, sr, hp.1, fun y F1 H1 g1 l => ⟨y, F1, rfl, l, g1⟩⟩) fun u s1 ⟨v, H1, I1, rv, y, F1, ev, l1, g1⟩ => ?_)
  subst ev
  obtain ⟨t, rfl⟩ := rv
  have z := two_line
  have z2 : 4000 ≤ sizeLine := by decide
  refine ⟨y, t, rfl, by rw [len_app]; show 0 + _ ≤ _; omega, thn (hb pins s1 σ H1 (fun v H2 => ∃ y F2, v = .str y ∧ y.length ≤ 2000 ∧ Gr F1 H1 F2 H2) I1 ⟨F1, η, sr.grow g1, hp.2, fun y F2 H2 g2 l => ⟨y, F2, rfl, l, g2⟩⟩) fun u s2 ⟨v, H2, I2, rv, y2, F2, ev, l2, g2⟩ => ?_⟩
  subst ev
  obtain ⟨t2, rfl⟩ := rv
  have hl : (Str.empty ++ y ++ y2).length ≤ sizeLine := by rw [len_app, len_app]; show 0 + _ + _ ≤ _; omega
  exact ⟨y2, t2, rfl, hl, hl, ⟨.str _, H2, I2.tok _, ⟨_, rfl⟩, k _ F2 H2 (g1.trans g2)⟩⟩
end
noncomputable abbrev bmVE : List Value := [.type "ValueError", .type "Exception", .type "BaseException", .type "object"]
theorem exc_obj {K : PySem.W.Frag} {h : Heap} {C : Addr} {bmB : List Value} {newId : String} (X : K.In h) (q : PySem.W.excIn K C bmB newId = true) :
    ∃ bm N nm qn bs hdct sn sub ab col dd k0 k1 k2 k3 k5 mN, h.get? C = some (excClassObj nm qn C N bs bm hdct sn sub ab col dd k0 k1 k2 k3 k5 newId) ∧ h.Ns N mN ∧ mN "__init__" = none ∧ OwnTail h bmB bm := by
  rw [PySem.W.excIn] at q
  split at q
  case h_2 => cases q
  case h_1 dd cd sl ho =>
    split at q
    case h_2 => cases q
    case h_1 C' bm k0 k1 k2 k3 n k5 hm hs =>
      rw [Bool.and_eq_true, Bool.and_eq_true, Bool.and_eq_true, Bool.and_eq_true, Bool.and_eq_true] at q
      obtain ⟨⟨⟨⟨⟨q1, q2⟩, q3⟩, q4⟩, q5⟩, q6⟩ := q
      obtain rfl := beq_iff_eq.mp q1
      obtain rfl := beq_iff_eq.mp q2
      have q6 := beq_iff_eq.mp q6
      cases cd with
      | mk nm bs mro ns qn hd sn sub ab col del =>
        have hm : mro = _ := hm
        subst hm
        have q3 : del = false := by cases del with | false => rfl | true => cases q3
        subst q3
        have e : sl = #[k0, k1, k2, k3, some (.builtin n), k5] := by rw [← Array.toList_inj]; exact hs
        subst e
        refine ⟨bm, ns, nm, qn, bs, hd, sn, sub, ab, col, dd, k0, k1, k2, k3, k5, _, X _ _ ho, .of_isNs (PySem.W.isNs_of_in X q5), PySem.W.nsMap_none_of_in X q5 q6, PySem.W.tail_of_in X q4⟩
section
variable {X : Cx} {B : Bd} {W : Nat → Hp → Prop} {ca : Nat → Addr} {e : Expr} {p : En → Bool} {pos np cpos : Pos} {x : Str} {k : Nat}
theorem SX.raise (c : Nat) (hx : XMd X ca W) (hc : X.calm = true) (hm : X.mg x = some (.ref (ca c))) (hex : PySem.W.excIn X.K (ca c) bmVE "ValueError.__new__" = true) (ha : EA X B e p) (hg : Gl X x := by rfl)
    (hs : starEach [e] X.env = [(false, eval e X.env)] := by exact star_of rfl) (hdb : (x == ("__debug__" : Str)) = false := by decide) :
    SX X B W (.Raise (some (.Call (.Name x np) [e] [] cpos)) none pos) (fun η => if p η = true then some c else none) := by
  intro pins s σ H D I ⟨F, η, c', sr, h, q⟩
  dsimp only at h
  split at h
  case isFalse => cases h
  case isTrue hp =>
  obtain rfl : c = c' := Option.some.inj h
  obtain ⟨bm, N, nm, qn, bs, hdct, sn, sub, ab, col, dd, k0, k1, k2, k3, k5, mN, hC, hN, hni, T⟩ := exc_obj I.kIn hex
  refine wpAny_Raise_call_subT (C := ca c) (nm := nm) (q := qn) (N := N) (bs := bs) (bm := bm) (hdct := hdct) (sn := sn) (sub := sub) (ab := ab) (col := col) (dd := dd) (k0 := k0) (k1 := k1) (k2 := k2) (k3 := k3) (k5 := k5) (newId := "ValueError.__new__") (mN := mN)
    PySem.F.excBase_ValueError (T.hasType PySem.F.excBase_ValueError.hasBase) (I.ok.hd hc) (by rw [hs]; rfl) hni (ld_glob I hg hm ⟨rfl, ?_⟩ hdb)
  have hp1 := pa_cons ha pa_nil hs cpos pins s σ H (fun vs H1 => vs.length = 1 ∧ ∃ F1, Gr F H F1 H1) I ⟨F, η, sr, hp, fun v F1 H1 g1 => ⟨rfl, F1, g1⟩⟩
  rw [hs] at hp1 ⊢
  refine Calls.evalArgs_plain (thn hp1 fun us s2 ⟨vs, H1, I1, rv, l1, F1, g1⟩ => ?_)
  obtain ⟨bm2, N2, nm2, qn2, bs2, hdct2, sn2, sub2, ab2, col2, dd2, j0, j1, j2, j3, j5, mN2, hC2, hN2, hni2, T2⟩ := exc_obj I1.kIn hex
  have keep : s2.heap.get? (ca c) = some (excClassObj nm qn (ca c) N bs bm hdct sn sub ab col dd k0 k1 k2 k3 k5 "ValueError.__new__") ∧ s2.heap.Ns N mN ∧ OwnTail s2.heap bmVE bm := by
    have kin := I.mod.kin
    obtain ⟨bm3, N3, nm3, qn3, bs3, hdct3, sn3, sub3, ab3, col3, dd3, i0, i1, i2, i3, i5, mN3, hC3, hN3, hni3, T3⟩ := exc_obj kin hex
    have e1 := I.bk _ _ hC3
    rw [hC] at e1
    have e2 := I1.bk _ _ hC3
    have hNN : N = N3 ∧ bm = bm3 := by
      have e3 := Option.some.inj e1
      unfold excClassObj at e3
      injection e3 with _ _ e4 _
      injection e4 with e4
      injection e4 with _ _ e5 e6 _ _ _ _ _ _ _
      exact ⟨e6, (List.cons.inj e5).2⟩
    obtain ⟨rfl, rfl⟩ := hNN
    rw [← Option.some.inj e1] at e2
    have n1 := hN3.keeps I.bk
    have em : mN = mN3 := by
      obtain ⟨o1, es1, ep1, a1, a2, a3, a4⟩ := hN
      obtain ⟨o2, es2, ep2, b1, b2, b3, b4⟩ := n1
      rw [a1] at b1
      cases b1
      rw [a2] at b2
      cases b2
      funext y
      rw [← a4 y, ← b4 y]
    subst em
    exact ⟨e2, hN3.keeps I1.bk, T3.keeps I1.bk⟩
  exact ⟨rfl, by show us.length ≤ _; rw [← rv.length, l1]; decide, keep.1, keep.2.1, keep.2.2, fun h' ex hx' => hx pins σ H1 s2 c us h' ex I1 hx' (q F1 H1 (sr.gr.trans g1))⟩
end
noncomputable def runX (n m : Nat) (g : En → Option Nat) (ds : List PyData) : Option Nat := if ds.length = n then g (ds.map Sl.val ++ List.replicate (m - n) .un) else none
section
variable {P : Program} {w : World} {K : PySem.W.Frag} {mg : Str → Option Value} {base : Heap} {ca : Nat → Addr}
theorem fnX {x qual : Str} {st : Stmt} {f : Addr} {fd : FuncData} {N ps : List Str} {k : Nat} {g : En → Option Nat} (Fn : Fun K x qual st f fd) (Sc : FnScope N ps (defScope st))
    (hb : ∀ (cdv : Value) (A : Around) (outer : List Env) (s : Shared) (H : Hp) (E : XK) (F : Hp) (W : Nat → Hp → Prop), Room k (A.deeper (envOfC qual (defScope st) s.heap.objs.size f cdv)) →
      XOk (cxOf (CXX P w) P w K mg base N qual (defScope st) f cdv A outer s H E) ca W → XMd (cxOf (CXX P w) P w K mg base N qual (defScope st) f cdv A outer s H E) ca W →
      SsX (cxOf (CXX P w) P w K mg base N qual (defScope st) f cdv A outer s H E) ⟨F, H⟩ W (defBody st) g) :
    FnOk P w K mg base (CXX P w) (k + 1) f fd ps (spX K ca (runX ps.length N.length g)) := by
  have len : ∀ {F : Hp} {ds : List PyData} {vs : List V} {c : Nat}, RelL K F ds vs → runX ps.length N.length g ds = some c → ds.length = ps.length ∧ vs.length = ps.length := fun {F ds vs d} r e => by
    unfold runX at e
    split at e
    · rename_i hl
      exact ⟨hl, by rw [r.length]; exact hl⟩
    · cases e
  obtain ⟨oc, od, kV, doc, pm, an, cdv, ct, osl, rfl, lk, hcd⟩ := Fn.ex
  refine fn_of lk hcd Sc (fun vs H Q E h => ?_) fun A outer s H vs Q E hr h => ?_
  · obtain ⟨F, ds, c, _, r, e, _⟩ := h
    exact (len r e).2
  · obtain ⟨F, ds, c, sm, r, e, q⟩ := h
    obtain ⟨l1, l2⟩ := len r e
    refine ⟨_, hb cdv A outer s H E F (fun c H' => E (.ref (ca c)) none H') hr (fun pins σ H1 s1 ev s2 I x => ?_) (fun pins σ H1 s1 c vs h' ev I x y => leave_made I x y), ?_⟩
    · obtain ⟨a, C, H', rfl, fl, c', ec, y⟩ := x
      cases ec
      exact leave_on I fl y
    · unfold runX at e
      rw [if_pos l1] at e
      refine ⟨F, _, c, ⟨.refl sm, ?_⟩, e, fun F' H' g1 => q F' H' g1⟩
      have z := EnR.start (K := K) (H := H) (N := N) r
      rw [l1] at z
      exact z
end
end L2.PU
namespace L2.PU
open PySem PySem.Spec PyProof.Rows
structure XCls (K : PySem.W.Frag) (D : Addr) : Prop where
  ex : PySem.W.excIn K D bmVE "ValueError.__new__" = true
  ga : PySem.W.findIn K (.ref D) "__getattribute__" = some (some (.builtin "BaseException.__getattribute__"))
  gt : PySem.W.findIn K (.ref D) "__getattr__" = some none
  cl : PySem.W.findIn K (.ref D) "__class__" = some (some (.builtin "object.__class__"))
  gg : PySem.W.specialIn K (.builtin "object.__class__") "__get__" = some (some (.builtin "getset_descriptor.__get__"))
  tk : PySem.W.takesIn K (.builtin "object.__class__") = some true
  mb : PySem.W.mroIn K D (.type "BaseException") = some true
  mo : PySem.W.mroIn K D (.type "object") = some true
section
variable {P : Program} {w : World} {A : Around} {Z : Value → Shared → Prop} {s : Shared} {K : PySem.W.Frag} {x D : Addr}
noncomputable def IsX (h : Heap) (x D : Addr) : Prop := ∃ ox, h.get? x = some ox ∧ ox.cls = .ref D
theorem IsX.type {M : Model} {h : Heap} (I : IsX h x D) : PySem.W.Looks M h (typeOf (.ref x)) (.ref D) := by
  obtain ⟨ox, h1, h2⟩ := I
  exact h2 ▸ (PySem.W.Looks.ld h1).andThen .now
theorem xfind {M : Model} {h : Heap} (c : XCls K D) (X : K.In h) : PySem.W.Looks M h (Builtin.ObjectAttr.find (.ref x) (.ref D) "__class__") (.bind (.builtin "getset_descriptor.__get__") (.builtin "object.__class__")) := by
  refine (PySem.W.looks_findIn X c.cl).andThen ((show PySem.W.Looks M h (Builtin.ObjectAttr.getOf (some (.builtin "object.__class__"))) _ from PySem.W.looks_specialIn X c.gg).andThen ?_)
  exact (show PySem.W.Looks M h (Builtin.ObjectAttr.dataDescriptor? (some (.builtin "object.__class__")) (some (.builtin "getset_descriptor.__get__"))) (some (.builtin "getset_descriptor.__get__", .builtin "object.__class__")) from (PySem.W.looks_takesIn X c.tk).andThen .now).andThen (PySem.W.Looks.tag .now)
theorem xget {tp : Value} {R : Result → Shared → Prop} (c : XCls K D) (X : K.In s.heap) (I : IsX s.heap x D) (h : R (.ok (.ret (.ref D))) s) : codeAny (model P w) A (.call (.builtin "getset_descriptor.__get__") ⟨[.builtin "object.__class__", .ref x, tp], []⟩) R s := by
  obtain ⟨hh, g, dr, t, os⟩ := s
  have L0 := I.type (M := model P w)
  have L1 := PySem.W.looks_mroIn (M := model P w) X c.mo
  refine codeAny_call_builtin PySem.W.KF.slot_gs.plain PySem.W.KF.entry_gs (PySem.W.KF.slot_gs.check _ _ _ _ _ _ _ _ PySem.W.KF.type_class (PySem.W.KF.args_gs _ _ _) ?_)
  unfold Builtin.«getset_descriptor.__get__» Builtin.Getset_descriptor.descrGet
  rw [PySem.W.dga_obj]; refine wpAny_bind (wpAny_pure ?_)
  unfold Builtin.Getset_descriptor.descrGetter Builtin.Getset_descriptor.descrCheckInstance Builtin.Getset_descriptor.descrNameAndClass isInstance
  simp only [PySem.W.KF.owner_class]; repeat lk
  refine ⟨Code.quiet_builtin _ (by decide +kernel), codeAny_builtin PySem.W.KF.entry_class ?_⟩
  unfold Builtin.«object.__class__» shownTypeOf; repeat lk
  exact h
theorem xentry {tk : Tok} {Q : Fin → Shared → Prop} (c : XCls K D) (X : K.In s.heap) (I : IsX s.heap x D) (h : Q (.done (.ret (.ref D))) s) :
    wpAny (model P w) A (Builtin.«object.__getattribute__» ⟨[.ref x, .str "__class__" tk], []⟩) Q Z s := by
  obtain ⟨hh, g, d, t, os⟩ := s
  have L0 := I.type (M := model P w)
  have L1 := xfind (x := x) (M := model P w) c X
  refine wpAny_bind (wpAny_pure (wpAny_bind (wpAny_pure (wpAny_bind (L0.at (wpAny_bind (L1.at ?_)))))))
  show wpAny _ _ (holding [Value.builtin "object.__class__"] (call (.builtin "getset_descriptor.__get__") [.builtin "object.__class__", .ref x, .ref D]) >>= ret) _ _ _
  exact wpAny_bind (wpAny_holding (wpAny_call (xget c X I (wpAny_pure h))))
theorem xcall {tk : Tok} {R : Result → Shared → Prop} (c : XCls K D) (X : K.In s.heap) (I : IsX s.heap x D) (h : R (.ok (.ret (.ref D))) s) :
    codeAny (model P w) A (.call (.builtin "BaseException.__getattribute__") ⟨[.ref x, .str "__class__" tk], []⟩) R s := by
  refine codeAny_call_builtin PySem.F.attr_ValueError.ga.plain PySem.F.entry_bexc_ga ?_
  have L0 := I.type (M := model P w)
  have L1 := PySem.W.looks_mroIn (M := model P w) X c.mb
  have hk : builtinKind "BaseException.__getattribute__" = some .slot := by decide +kernel
  have hs : splitId "BaseException.__getattribute__" = some ("BaseException", "__getattribute__") := by decide +kernel
  have ha := PySem.F.args_bexc_ga (.ref x) (.str "__class__" tk)
  simp only [checkBuiltinCall, hk, hs]
  refine wpAny_bind ?_
  have LI : PySem.W.Looks (model P w) s.heap (isInstance (.ref x) (.type "BaseException")) true := L0.andThen L1
  refine LI.at ?_
  rw [if_neg (by decide)]
  unfold argsOk at ha
  revert ha
  generalize Manifest.signature? "BaseException.__getattribute__" = sg
  intro ha
  cases sg with
  | none => exact wpAny_pure (xentry c X I h)
  | some sig =>
    have ha : Bind.checkArgs "BaseException.__getattribute__" sig ⟨[.ref x, .str "__class__" tk], []⟩ = pure () := ha
    dsimp only
    rw [ha]
    exact wpAny_pure (xentry c X I h)
theorem xclass {Q : Option Value → Shared → Prop} (c : XCls K D) (X : K.In s.heap) (I : IsX s.heap x D) (h : Q (some (.ref D)) { s with toks := s.toks + 1 }) : wpAny (model P w) A (getAttr? (.ref x) "__class__") Q Z s := by
  obtain ⟨hh, g, d, t, os⟩ := s
  have L0 := I.type (M := model P w)
  have L1 := PySem.W.looks_findIn (M := model P w) X c.ga
  have L2 := PySem.W.looks_findIn (M := model P w) X c.gt
  have hb := PySem.F.attr_ValueError.ga.bind (.ref x)
  unfold getAttr? getAttrBy? getAttrBy
  refine wpAny_bind (wpAny_mkText (wpAny_bind (wpAny_attempt (wpAny_holding (wpAny_bind (L0.at (wpAny_bind (L1.at ?_))))))))
  show wpAny _ _ (getAttrByItsOwn _ _ _ _ _ _) _ _ _
  unfold getAttrByItsOwn hookBefore callGetattribute boundAndCalled
  refine wpAny_bind (L2.at ?_)
  refine wpAny_bind (wpAny_attempt (wpAny_holding ?_))
  rw [if_neg (by decide), hb]
  refine wpAny_bind (wpAny_pure (wpAny_call (xcall c (s := ⟨hh, g, d, t + 1, os⟩) X I ?_)))
  exact PySem.W.handed_on rfl (wpAny_pure h)
end
end L2.PU
namespace L2.PU
open PySem PySem.Spec PyProof.Rows
noncomputable def ExcO (x D : Addr) : HO := .ext fun h => IsX h x D
theorem inst_stay {x D : Addr} {h1 h2 : Heap} (p : IsX h1 x D) (k : ∀ o, h1.get? x = some o → h2.get? x = some o) : IsX h2 x D := by
  obtain ⟨ox, i1, i2⟩ := p
  exact ⟨ox, k _ i1, i2⟩
theorem exc_ok {P : Program} {w : World} {H : Hp} {h : Heap} {x D : Addr} (e : H x = some (ExcO x D)) (ok : HOk P w H h) : IsX h x D := by
  have z := ok x _ e
  unfold ExcO at z
  exact z.1
theorem kitx_exc {K : PySem.W.Frag} {x D : Addr} (c : XCls K D) : PySem.W.KitX K (.ref x) (.ref D) (fun h => IsX h x D) where
  ty := fun _ _ _ I => I.type
  it := fun M h X _ => by
    obtain ⟨bm, N, nm, qn, bs, hdct, sn, sub, ab, col, dd, k0, k1, k2, k3, k5, mN, hC, _⟩ := exc_obj X c.ex
    intro A' Q' E' s' k q
    unfold isType loadHead
    exact wpAny_bind (wpAny_loadPart (k _ _ hC) (wpAny_pure q))
  ne := fun h tp dd its n sl X e => by
    obtain ⟨bm, N, nm, qn, bs, hdct, sn, sub, ab, col, dd', k0, k1, k2, k3, k5, mN, hC, _⟩ := exc_obj X c.ex
    refine Bool.eq_false_iff.mpr fun q => ?_
    have q' : D = tp := by injection beq_iff_eq.mp q
    subst q'
    rw [hC] at e
    have e2 := Option.some.inj e
    unfold excClassObj at e2
    injection e2 with _ _ e3 _
    cases e3
  ca := fun X I k => xclass c X I k
section
variable {X : Cx} {pos pp ep tp : Pos} {en T : Str}
noncomputable def rIsE (K : PySem.W.Frag) : List V → Hp → VK → Prop := fun vs H Q => ∃ x D c u b, vs = [.ref x, c] ∧ RelV c u ∧ H x = some (ExcO x D) ∧ XCls K D ∧ PySem.W.kitOne K (.ref D) u = some b ∧ Q (.bl b) H
theorem call_isE : CallR X (.builtin "isinstance") (rIsE X.K) := by
  intro pins s σ H xs us Q I r h
  obtain ⟨x, D, c, u, b, rfl, ru, hx, cl, hk, q⟩ := h
  obtain ⟨u1, u2, rfl, r1, r2⟩ := vals2 r
  cases r1
  have e : u2 = u := by
    cases c with
    | non => exact (show u2 = _ from r2).trans (show u = _ from ru).symm
    | bl b => exact (show u2 = _ from r2).trans (show u = _ from ru).symm
    | ref a => exact (show u2 = _ from r2).trans (show u = _ from ru).symm
    | ty n => exact (show u2 = _ from r2).trans (show u = _ from ru).symm
    | int i => obtain ⟨t, rfl⟩ := ru; unfold PySem.W.kitOne PySem.W.kitCls at hk; split at hk <;> rename_i z <;> first | (cases hk; done) | (cases beq_iff_eq.mp z)
    | str i => obtain ⟨t, rfl⟩ := ru; unfold PySem.W.kitOne PySem.W.kitCls at hk; split at hk <;> rename_i z <;> first | (cases hk; done) | (cases beq_iff_eq.mp z)
    | byt i => obtain ⟨t, rfl⟩ := ru; unfold PySem.W.kitOne PySem.W.kitCls at hk; split at hk <;> rename_i z <;> first | (cases hk; done) | (cases beq_iff_eq.mp z)
    | flt i => obtain ⟨t, rfl⟩ := ru; unfold PySem.W.kitOne PySem.W.kitCls at hk; split at hk <;> rename_i z <;> first | (cases hk; done) | (cases beq_iff_eq.mp z)
  subst e
  exact PySem.W.kia_one (kitx_exc cl) I.kIn (exc_ok hx I.hok) hk (fun z => nomatch z) fun tk => ⟨.bl b, H, I.tok tk, rfl, q⟩
noncomputable def tIsE (K : PySem.W.Frag) (u : Value) : TE := fun σ H Q => ∃ x D b, σ[0]? = some (some (.ref x)) ∧ H x = some (ExcO x D) ∧ XCls K D ∧ PySem.W.kitOne K (.ref D) u = some b ∧ Q (.bl b) H
theorem pe_isO {C : Addr} (hm : X.mg "isinstance" = none) (hT : X.mg T = some (.ref C)) (hN : X.N[0]? = some en := by rfl) (hv : Vis X.env.scope en := by first | exact Or.inl rfl | exact Or.inr (Or.inl rfl)) (hd : (en == ("__debug__" : Str)) = false := by decide)
    (hcd : (en == ("__classdict__" : Str)) = false := by decide) (hg : Gl X "isinstance" := by rfl) (hgT : Gl X T := by rfl) (hdT : (T == ("__debug__" : Str)) = false := by decide) :
    PE X (.Call (.Name "isinstance" pp) [.Name en ep, .Name T tp] [] pos) (tIsE X.K (.ref C)) :=
  PE.imp (pe_callB call_isE hg hm (by decide +kernel) (pa_cons (pe_var hN hv hd hcd) (pa_cons (pe_glob hgT hT (v := .ref C) rfl hdT) pa_nil))) fun σ H Q ⟨x, D, b, h1, h2, h3, h4, q⟩ => ⟨_, h1, x, D, .ref C, .ref C, b, rfl, rfl, h2, h3, h4, q⟩
theorem pe_isT {B : String} (hm : X.mg "isinstance" = none) (hT : X.mg T = none) (hB : bootBuiltins T = some (.type B)) (hN : X.N[0]? = some en := by rfl) (hv : Vis X.env.scope en := by first | exact Or.inl rfl | exact Or.inr (Or.inl rfl)) (hd : (en == ("__debug__" : Str)) = false := by decide)
    (hcd : (en == ("__classdict__" : Str)) = false := by decide) (hg : Gl X "isinstance" := by rfl) (hgT : Gl X T := by rfl) (hnT : T ≠ "__name__" := by decide) (hdT : (T == ("__debug__" : Str)) = false := by decide) :
    PE X (.Call (.Name "isinstance" pp) [.Name en ep, .Name T tp] [] pos) (tIsE X.K (.type B)) :=
  PE.imp (pe_callB call_isE hg hm (by decide +kernel) (pa_cons (pe_var hN hv hd hcd) (pa_cons (pe_bltn hgT hT hB (v := .ty B) rfl hnT hdT) pa_nil))) fun σ H Q ⟨x, D, b, h1, h2, h3, h4, q⟩ => ⟨_, h1, x, D, .ty B, .type B, b, rfl, rfl, h2, h3, h4, q⟩
noncomputable def rCnt (K : PySem.W.Frag) : V → List V → Hp → VK → Prop := fun x vs H Q => ∃ l xs y, x = .ref l ∧ vs = [y] ∧ SqL K H l xs ∧ flatV y = true ∧ xs.all flatV = true ∧ Q (.int ((xs.countP fun z => eqV z y) : Nat)) H
theorem mt_cnt : MtM X "list.count" (rCnt X.K) := by
  intro pins s σ H x vs v us Q I rx rv h
  obtain ⟨l, xs, y, rfl, rfl, hq, fy, fxs, q⟩ := h
  cases rx
  obtain ⟨u, rfl, ru⟩ := rv.one
  obtain ⟨its, r, ⟨⟨c2, d2, t2, sl2⟩, n2, e2, ec2, ed2, es2⟩, z2⟩ := I.list hq
  simp only at ec2 ed2 es2
  subst ec2 ed2 es2
  have hc : ∀ {xs : List V} {its : List Value}, Vals xs its → xs.all flatV = true → its.countP (eqU y) = xs.countP fun z => eqV z y := fun {xs its} r => by
    induction r with
    | nil => exact fun _ => rfl
    | cons r1 _ ih =>
      intro f
      rw [List.all_cons, Bool.and_eq_true] at f
      rw [List.countP_cons, List.countP_cons, ih f.2, eqU_of r1 f.1]
  refine call_meets F.slot_list_count ⟨_, e2, rfl⟩ F.entry_list_count (F.args_list_count_2 _ _) (SeqAt.list_countAt l its.toArray n2 none sl2 u (eqU y)) ⟨e2, fun w hw => mem_eqAt ru fy r fxs w (by simpa using hw), ?_⟩
  show EP X pins σ Q (.int ((its.countP (eqU y) : Nat) : Int) s.toks) _
  rw [hc r fxs]
  exact ⟨.int ((xs.countP fun z => eqV z y) : Nat), H, I.tok _, ⟨_, rfl⟩, q⟩
end
end L2.PU
namespace L2.PU
open PySem PySem.Spec PyProof.Rows
structure RoomC (k : Nat) (A : Around) : Prop where
  dp : A.depth + 3 * k + 5 < recursionLimit
  un : A.units + 16 * k + 200 < cLine
theorem RoomC.of {k : Nat} {A : Around} (r : Room k A) : RoomC k A := ⟨r.dp, r.un⟩
theorem RoomC.mono {j k : Nat} {A : Around} (r : RoomC k A) (h : j ≤ k) : RoomC j A := ⟨by have := r.dp; omega, by have := r.un; omega⟩
theorem RoomC.mark {k : Nat} {A : Around} (r : RoomC k A) (e : Option Value) : RoomC k (A.mark e) := ⟨r.dp, r.un⟩
noncomputable abbrev Cx.at (X : Cx) (A : Around) : Cx := { X with A := A, calm := false, xe := fun _ _ => False }
theorem Inv.around {X : Cx} {pins : List (Addr × Obj)} {σ : St} {H : Hp} {s : Shared} {A : Around} (I : Inv X pins σ H s) (hf : A.frames = X.A.frames) : Inv (Cx.at X A) pins σ H s :=
  ⟨⟨I.ok.mod, I.ok.kind, I.ok.glob, I.ok.blt, I.ok.above, I.ok.inj, I.ok.has, I.ok.cab, (fun z => by cases z), hf.trans I.ok.frames, I.ok.stk, I.ok.exf, I.ok.bs, I.ok.bsz, I.ok.noex, I.ok.exfs, I.ok.funs, I.ok.frf⟩,
    I.os, I.bare, I.base, I.loc, I.cell, I.free, I.freeC, I.pin, I.hok, I.len⟩
theorem Inv.back {X : Cx} {pins : List (Addr × Obj)} {σ : St} {H : Hp} {s : Shared} {A : Around} (I : Inv (Cx.at X A) pins σ H s) (ok : X.Ok) : Inv X pins σ H s :=
  ⟨ok, I.os, I.bare, I.base, I.loc, I.cell, I.free, I.freeC, I.pin, I.hok, I.len⟩
noncomputable abbrev SpC := List V → Hp → VK → Prop
structure FnC (P : Program) (w : World) (K : PySem.W.Frag) (mg : Str → Option Value) (base : Heap) (k : Nat) (f : Addr) (fd : FuncData) (ps : List Str) (sp : SpC) : Prop where
  len : ∀ vs H Q, sp vs H Q → vs.length = ps.length
  run : ∀ (A : Around) (outer : List Env) (s : Shared) (H : Hp) (us : List Value) (vs : List V) (Q : VK), RoomC k A → Env0 P w K mg base A outer s H → BindsTo s fd ⟨us, []⟩ (ps.zip us) → Vals vs us → sp vs H Q →
    codeAny (model P w) A (.call (.ref f) ⟨us, []⟩) (CR CX0 outer P w H s Q E0) s
section
variable {P : Program} {w : World} {K : PySem.W.Frag} {mg : Str → Option Value} {base : Heap}
theorem fnC {x qual : Str} {st : Stmt} {f : Addr} {fd : FuncData} {N ps : List Str} {k : Nat} {sp : SpC} (Fn : Fun K x qual st f fd) (Sc : FnScope N ps (defScope st)) (len : ∀ vs H Q, sp vs H Q → vs.length = ps.length)
    (hbody : ∀ (cdv : Value) (A : Around) (outer : List Env) (s : Shared) (H : Hp) (vs : List V) (Q : VK), sp vs H Q →
      ∃ t, PSs (Cx.at (cxOf CX0 P w K mg base N qual (defScope st) f cdv A outer s H E0) (A.deeper (envOfC qual (defScope st) s.heap.objs.size f cdv))) (defBody st) t ∧ t { nx := fun _ H' => Q .non H', rt := Q } (L2.start N vs) H) :
    FnC P w K mg base (k + 1) f fd ps sp := by
  obtain ⟨oc, od, kV, doc, pm, an, cdv, ct, osl, rfl, lk, hcd⟩ := Fn.ex
  refine ⟨len, fun A outer s H us vs Q hr e0 hb r hsp => ?_⟩
  have hl := len _ _ _ hsp
  have KX : K.In s.heap := e0.mod.kin.keeps fun b o e => (e0.bs b o e).1
  have lim : s.heap.NoLimit := e0.mod.nolimit.keeps fun b o e => (e0.bs b o e).1
  have hkd : ∀ y ∈ ps.zip us, (defScope st).names.lookup y.1 = some .local ∨ ((defScope st).names.lookup y.1 = some .cell ∧ ((cellsFrom (s.heap.objs.size + 1) (defScope st).names []).lookup y.1).isSome = true) := fun ⟨n, v⟩ hy =>
    (Sc.par n (List.of_mem_zip hy).1).elim .inl fun q => .inr ⟨q, PySem.W.cellsFrom_some _ _ _ (.inl q)⟩
  refine codeAny_call_function (by have := hr.dp; omega) (KX _ _ lk) rfl Sc.co Sc.gen rfl (PySem.W.codeRec_of KX hcd) (hb _ _ _ _ ?_)
  refine wpAny_newFunctionEnv_cells Sc.kind hkd fun env he s1 x => ?_
  subst he
  refine ⟨lim.keeps x.toInCall.keep, codeAny_func ?_⟩
  obtain ⟨t, ht, hq⟩ := hbody cdv A outer s H vs Q hsp
  have I0 : Inv (cxOf CX0 P w K mg base N qual (defScope st) f cdv { A with handled := none } outer s H E0) [] (L2.start N vs) H s1 :=
    inv_start Sc rfl ⟨e0.frames, e0.mod, e0.bs, e0.bsz, e0.funs, e0.frf, e0.hok, e0.bare⟩ hl r x
  have I := Inv.around (A := A.deeper (envOfC qual (defScope st) s.heap.objs.size f cdv)) I0 rfl
  refine wpAny_mono (ht [] s1 (L2.start N vs) H _ I hq) (fun fl s' hs => ?_) fun e s' hs => hs.elim
  cases fl with
  | ret u =>
    obtain ⟨v, σ', H', J, rv, q⟩ := hs
    exact ⟨v, H', J.os, J.bare, J.base, J.hok, rv, q⟩
  | next =>
    obtain ⟨σ', H', J, q⟩ := hs
    exact ⟨.non, H', J.os, J.bare, J.base, J.hok, rfl, q⟩
  | brk => obtain ⟨_, _, _, q⟩ := hs; exact q.elim
  | cont => obtain ⟨_, _, _, q⟩ := hs; exact q.elim
end
section
variable {X : Cx} {k : Nat} {f : Addr} {fd : FuncData} {ps : List Str} {sp : SpC} {x : Str} {p pos : Pos} {e : Expr} {te : TE}
theorem pe_callC (F : FnC X.prog X.w X.K X.mg X.base k f fd ps sp) (hr : RoomC k X.A) (hm : X.mg x = some (.ref f)) (hk : PySem.W.keepIn X.K (.ref f) = true) (hb : Binds X.K fd ps []) (he : PE X e te) (hg : Gl X x := by rfl)
    (hdb : (x == ("__debug__" : Str)) = false := by decide) (hs : starEach [e] X.env = (false, eval e X.env) :: starEach [] X.env := by exact star_of rfl) (hpl : (backTo pos (starEach [] X.env)).any (·.1) = false := by rfl) :
    PE X (.Call (.Name x p) [e] [] pos) (fun σ H Q => te σ H fun v H1 => sp [v] H1 Q) := by
  intro pins s σ H Q I h
  refine wpAny_Call_Name_kw (ld_glob I hg hm ?_ hdb)
  refine PySem.W.callWith_K (h₀ := X.base) I.ok.mod.kin hk (thn (pa_cons he pa_nil hs pos pins s σ H (fun vs H1 => sp vs H1 Q) I h) fun us s1 ⟨vs, H1, I1, r, q⟩ => ⟨I1.kIn, ?_⟩) hs hpl
  have hl : (us ++ []).length = ps.length := by rw [List.append_nil, ← r.length]; exact F.len _ _ _ q
  have hb' := hb s1 us I1.kIn hl
  rw [List.append_nil] at hb'
  refine wpAny_call (codeAny_mono (F.run X.A X.stack s1 H1 us vs Q hr I1.env0 hb' r q) fun r s' hq => ?_)
  cases r with
  | error e => exact hq.elim
  | ok fl =>
    cases fl with
    | ret u => exact I1.after hq
    | next => exact hq.elim
    | brk => exact hq.elim
    | cont => exact hq.elim
end
structure Refs (K : PySem.W.Frag) (ca : Nat → Addr) : Prop where
  xc : ∀ c, c < 4 → XCls K (ca c)
  kit : ∀ c i, c < 4 → i < 4 → PySem.W.kitOne K (.ref (ca c)) (.ref (ca i)) = some (decide (c = i))
  val : ∀ c, c < 4 → PySem.W.kitOne K (.ref (ca c)) (.type "ValueError") = some true
noncomputable def refD (c : Nat) : PyData := .tuple [.str "refused", .int c]
noncomputable def spE (K : PySem.W.Frag) (ca : Nat → Addr) : SpC := fun vs H Q => ∃ x c F, vs = [.ref x] ∧ c < 4 ∧ H x = some (ExcO x (ca c)) ∧ Same F H ∧ ∀ v F' H', Gr F H F' H' → Rel K F' (refD c) v → Q v H'
end L2.PU
namespace L2.PU
open PySem PySem.Spec PyProof.Rows
section
variable {K : PySem.W.Frag} {ca : Nat → Addr}
theorem ref_flags (c : Nat) (hc : c < 4) : ([V.bl (decide (c = 0)), .bl (decide (c = 1)), .bl (decide (c = 2)), .bl (decide (c = 3))].countP fun z => eqV z (.bl true)) = 1 ∧
    ([V.bl (decide (c = 0)), .bl (decide (c = 1)), .bl (decide (c = 2)), .bl (decide (c = 3))].findIdx? fun z => eqV z (.bl true)) = some c := by
  have : c = 0 ∨ c = 1 ∨ c = 2 ∨ c = 3 := by omega
  rcases this with rfl | rfl | rfl | rfl <;> exact ⟨by decide +kernel, by decide +kernel⟩
theorem ref_read (R : Refs K ca) {tx : TS} {x : Addr} {c : Nat} {F H : Hp} {Q : VK} (hc : c < 4) (hx : H x = some (ExcO x (ca c))) (sm : Same F H) (q : ∀ v F' H', Gr F H F' H' → Rel K F' (refD c) v → Q v H') :
    tSeq (tAsg (tLst (tCons (tIsE K (.ref (ca 0))) (tCons (tIsE K (.ref (ca 1))) (tCons (tIsE K (.ref (ca 2))) tNil)))) (gName 1))
      (tSeq (tAsg (tOp (rCatS K) (tVar 1) (tLst (tCons (tIsE K (.ref (ca 3))) tNil))) (gName 1))
        (tSeq (tIfS (tOr (tTest (tOp rNe (tBM K "list" (rCnt K) (tVar 1) (tCons (tC (.bl true)) tNil)) (tC (.int 1)))) (tNot (tB (tIsE K (.type "ValueError"))))) tx tNext)
          (tRet (tTup (tCons (tC (.str "refused")) (tCons (tBM K "list" (rIdx K) (tVar 1) (tCons (tC (.bl true)) tNil)) tNil))))))
      { nx := fun _ H' => Q .non H', rt := Q } [some (.ref x), none] H := by
  have k := fun i hi => R.kit c i hc hi
  have xc := R.xc c hc
  refine ⟨x, ca c, _, rfl, hx, xc, k 0 (by omega), x, ca c, _, rfl, hx, xc, k 1 (by omega), x, ca c, _, rfl, hx, xc, k 2 (by omega), (show 3 ≤ sizeLine by decide), fun l1 h1 => ?_⟩
  have n1 : l1 ≠ x := fun z => by rw [z, hx] at h1; cases h1
  have hx1 : upd H l1 (.lst [.bl (decide (c = 0)), .bl (decide (c = 1)), .bl (decide (c = 2))]) x = some (ExcO x (ca c)) := by rw [upd_ne (Ne.symm n1)]; exact hx
  refine ⟨.ref l1, rfl, x, ca c, _, rfl, hx1, xc, k 3 (by omega), (show 1 ≤ sizeLine by decide), fun l2 h2 => ?_⟩
  have n2 : l2 ≠ x := fun z => by rw [z, hx1] at h2; cases h2
  have n21 : l2 ≠ l1 := fun z => by rw [z, upd_same] at h2; cases h2
  refine ⟨l1, l2, [.bl (decide (c = 0)), .bl (decide (c = 1)), .bl (decide (c = 2))], [.bl (decide (c = 3))], rfl, rfl, SqL.of (by rw [upd_ne (Ne.symm n21), upd_same]), SqL.of (by rw [upd_same]), (show 3 + 1 ≤ sizeLine by decide), fun l3 h3 => ?_⟩
  have n3 : l3 ≠ x := fun z => by rw [z, upd_ne (Ne.symm n2), hx1] at h3; cases h3
  obtain ⟨e1, e2⟩ := ref_flags c hc
  refine ⟨.ref l3, rfl, .inl ⟨rfl, _, SqL.of (by rw [upd_same])⟩, l3, _, _, rfl, rfl, SqL.of (by rw [upd_same]), rfl, rfl, ?_⟩
  refine ⟨rfl, _, rfl, ?_⟩
  show (if (!decide (V.int (([V.bl (decide (c = 0)), .bl (decide (c = 1)), .bl (decide (c = 2)), .bl (decide (c = 3))].countP fun z => eqV z (.bl true)) : Nat) = V.int 1)) = true then _ else _)
  rw [e1, if_neg (by decide)]
  refine ⟨x, ca c, true, rfl, by rw [upd_ne (Ne.symm n3), upd_ne (Ne.symm n2)]; exact hx1, xc, R.val c hc, true, rfl, ?_⟩
  show (if (!true) = true then _ else _)
  rw [if_neg (by decide)]
  refine ⟨.ref l3, rfl, .inl ⟨rfl, _, SqL.of (by rw [upd_same])⟩, l3, _, _, c, rfl, rfl, SqL.of (by rw [upd_same]; rfl), rfl, rfl, e2, (show 2 ≤ sizeLine by decide), fun t ht => ?_⟩
  have s3 : Same H (upd (upd (upd H l1 (.lst [.bl (decide (c = 0)), .bl (decide (c = 1)), .bl (decide (c = 2))])) l2 (.lst [.bl (decide (c = 3))])) l3 (.lst ([.bl (decide (c = 0)), .bl (decide (c = 1)), .bl (decide (c = 2))] ++ [.bl (decide (c = 3))]))) :=
    ((same_new h1 _).trans (same_new h2 _)).trans (same_new h3 _)
  have hF : F t = none := (sm.trans s3).free ht
  refine q _ (upd F t (.tup [.str "refused", .int c])) _ ⟨same_new hF _, s3.trans (same_new ht _), fun b u e => ?_, fun b e => ?_⟩ (rel_tup (xs := [.str "refused", .int c]) (.inl (.inl upd_same)) (.cons rel_str (.cons rel_int .nil)))
  · by_cases hb : b = t
    · subst hb; rw [upd_same] at e ⊢; exact e
    · rw [upd_ne hb] at e ⊢; exact s3 _ _ (sm _ _ e)
  · by_cases hb : b = t
    · subst hb; exact .inr (s3.free ht)
    · rw [upd_ne hb] at e; exact .inl e
end
end L2.PU
namespace L2.PU
open PySem PySem.Spec PyProof.Rows
noncomputable abbrev Cx.tri (X : Cx) (E : Value → Shared → Prop) (pn : List (Addr × Obj)) : Cx := { X with xe := E, pn := pn }
section
variable {X : Cx} {pins : List (Addr × Obj)} {σ : St} {H : Hp} {s : Shared} {E : Value → Shared → Prop}
theorem inv_tri (I : Inv X pins σ H s) (E : Value → Shared → Prop) : Inv (Cx.tri X E (X.pn ++ pins)) [] σ H s :=
  ⟨⟨I.ok.mod, I.ok.kind, I.ok.glob, I.ok.blt, I.ok.above, I.ok.inj, I.ok.has, I.ok.cab, I.ok.hd, I.ok.frames, I.ok.stk, I.ok.exf, I.ok.bs, I.ok.bsz, I.ok.noex, I.ok.exfs, I.ok.funs, I.ok.frf⟩,
    I.os, I.bare, I.base, I.loc, I.cell, I.free, I.freeC, fun p hp => I.pin p (by rw [List.append_nil] at hp; exact hp), I.hok, I.len⟩
theorem inv_untri {pins' : List (Addr × Obj)} (I : Inv (Cx.tri X E (X.pn ++ pins)) pins' σ H s) : Inv X pins σ H s :=
  ⟨⟨I.ok.mod, I.ok.kind, I.ok.glob, I.ok.blt, I.ok.above, I.ok.inj, I.ok.has, I.ok.cab, I.ok.hd, I.ok.frames, I.ok.stk, I.ok.exf, I.ok.bs, I.ok.bsz, I.ok.noex, I.ok.exfs, I.ok.funs, I.ok.frf⟩,
    I.os, I.bare, I.base, I.loc, I.cell, I.free, I.freeC, fun p hp => I.pin p (List.mem_append_left _ hp), I.hok, I.len⟩
theorem SP.untri {D : Ends} {f : Flow} {s' : Shared} (h : SP (Cx.tri X E (X.pn ++ pins)) [] D f s') : SP X pins D f s' := by
  cases f with
  | next => obtain ⟨σ', H', I, q⟩ := h; exact ⟨σ', H', inv_untri I, q⟩
  | brk => obtain ⟨σ', H', I, q⟩ := h; exact ⟨σ', H', inv_untri I, q⟩
  | cont => obtain ⟨σ', H', I, q⟩ := h; exact ⟨σ', H', inv_untri I, q⟩
  | ret u => obtain ⟨v, σ', H', I, r, q⟩ := h; exact ⟨v, σ', H', inv_untri I, r, q⟩
theorem inv_names {h' : Heap} {m : Str → Option Value} {t' : Nat} (I : Inv X pins σ H s) (hn : h'.Ns X.env.locals m) (hs : Heap.SameBut X.env.locals s.heap h') : Inv X pins (σ.map fun _ => none) H { s with heap := h', toks := t' } := by
  have k : ∀ b o, b ≠ X.env.locals → s.heap.get? b = some o → h'.get? b = some o := fun b o n e => (hs.2 b n).trans e
  have neL : ∀ b o, X.s₀.heap.get? b = some o → b ≠ X.env.locals := fun b o e => Nat.ne_of_lt (Nat.lt_of_lt_of_le (Heap.lt_size e) I.ok.above)
  refine ⟨I.ok, I.os, I.bare, ⟨fun b o e n hb hx => k b o (neL b o e) (I.base.keep b o e n hb hx), fun b o e n hb hx => ?_, I.base.free, fun b o e hx => ?_, I.base.tups, I.base.frzs, I.base.tbls⟩, ⟨m, hn, fun i x v _ h => ?_⟩, fun x c e => ?_, I.free, I.freeC, fun p hp => ?_, fun b u e => ?_, by rw [List.length_map]; exact I.len⟩
  · obtain ⟨sl, e1⟩ := I.base.slot b o e n hb hx
    exact ⟨sl, k b _ (neL b o e) e1⟩
  · obtain ⟨o', e1⟩ := I.base.there b o e hx
    exact ⟨o', k b _ (neL b o e) e1⟩
  · rw [List.getElem?_map] at h
    cases q : σ[i]? with
    | none => rw [q] at h; cases h
    | some o => rw [q] at h; cases h
  · obtain ⟨v, o, ho, hd⟩ := I.cell x c e
    exact ⟨v, o, k c o (I.cne x c e) ho, hd⟩
  · obtain ⟨a1, a2, a3, a4⟩ := I.pin p hp
    exact ⟨k _ _ a3 a1, a2, a3, a4⟩
  · refine (I.hok b u e).stay (fun c v hc r => k c v (fun z => ?_) r) (fun _ q => q) fun _ _ q => q
    rcases hc with rfl | hc
    · rw [z, I.free] at e; cases e
    · rw [z, I.free] at hc; cases hc
end
noncomputable def Hdl (X : Cx) (B : Bd) (ca : Nat → Addr) (hs : List ExceptHandler) (hd : Nat → Option PyData) : Prop :=
  ∀ (pins : List (Addr × Obj)) (σ : St) (H : Hp) (s : Shared) (D : Ends) (a : Addr) (c : Nat) (H' : Hp) (s' : Shared) (d : PyData) (F' : Hp), Inv X pins σ H s → Fly X.prog X.w X.stack H s a (ca c) H' s' → Gr B.F B.H F' H' → hd c = some d →
    (∀ v F'' H'', Gr B.F B.H F'' H'' → Rel X.K F'' d v → D.rt v H'') →
    wpAny (model X.prog X.w) X.A (noteFrame (.ref a) X.env) (fun _ s₂ => wpAny (model X.prog X.w) X.A (setFlight (.ref a) none) (fun _ s₃ => wpAny (model X.prog X.w) X.A (handleBy (.ref a) X.env hs) (SP X pins D) X.xe s₃) X.xe s₂) X.xe s'
end L2.PU
namespace L2.PU
open PySem PySem.Spec PyProof.Rows
section
variable {M : Model} {A : Around} {Z : Value → Shared → Prop} {h : Heap} {g : Array GenState} {d : Drawn} {t : Nat} {os : OsState} {e C T : Addr} {oe : Obj}
theorem exc_match {nm q : Str} {N : Addr} {bs bm : List Value} {hdct : Bool} {sn : List Str} {sub : List Value} {ab : Bool} {col : Option Bool} {dd : Option Addr} {k0 k1 k2 k3 k5 : Option Value} {newId : String}
    {nm' q' : Str} {N' : Addr} {bs' bm' : List Value} {hdct' : Bool} {sn' : List Str} {sub' : List Value} {ab' : Bool} {col' : Option Bool} {dd' : Option Addr} {j0 j1 j2 j3 j5 : Option Value} {newId' : String} {Q : Bool → Shared → Prop}
    (hC : h.get? C = some (excClassObj nm q C N bs bm hdct sn sub ab col dd k0 k1 k2 k3 k5 newId)) (hT : h.get? T = some (excClassObj nm' q' T N' bs' bm' hdct' sn' sub' ab' col' dd' j0 j1 j2 j3 j5 newId')) (he : h.get? e = some oe) (hcls : oe.cls = .ref C)
    (hb : bm'.contains (.type "BaseException") = true) (hs : (Value.ref C :: bm).contains (.ref T) = true) (hq : Q true ⟨h, g, d, t, os⟩) : wpAny M A (excMatches (.ref e) (.ref T)) Q Z ⟨h, g, d, t, os⟩ := by
  have hcB : (Value.ref T :: bm').contains (.type "BaseException") = true := by rw [List.contains_cons, hb, Bool.or_true]
  have f := tc_notTuple
  unfold excMatches
  repeat (first | (with_reducible refine wpAny_loadPart_at he ?_; rw [hcls]) | with_reducible refine wpAny_loadPart_at hT ?_ | (with_reducible refine wpAny_isSubtype_exc hT ?_; rw [hcB]) | (with_reducible refine wpAny_isSubtype_exc hC ?_; rw [hs]) | wp_step)
  exact hq
end
theorem mro_has {K : PySem.W.Frag} {h : Heap} {C : Addr} {v : Value} {nm q : Str} {N : Addr} {bs bm : List Value} {hdct : Bool} {sn : List Str} {sub : List Value} {ab : Bool} {col : Option Bool} {dd : Option Addr} {k0 k1 k2 k3 k5 : Option Value} {newId : String}
    (X : K.In h) (hC : h.get? C = some (excClassObj nm q C N bs bm hdct sn sub ab col dd k0 k1 k2 k3 k5 newId)) (e : PySem.W.mroIn K C v = some true) : (Value.ref C :: bm).contains v = true := by
  unfold PySem.W.mroIn at e
  obtain ⟨cd, a, b⟩ := Option.bind_eq_some_iff.mp e
  unfold PySem.W.clsIn at a
  split at a
  · rename_i ho
    have z := X _ _ ho
    rw [hC] at z
    have z2 := Option.some.inj z
    unfold excClassObj at z2
    injection z2 with _ _ z3 _
    injection z3 with z3
    cases a
    rw [← z3] at b
    split at b
    · cases b
    · exact Option.some.inj b
  · cases a
section
variable {X : Cx} {B : Bd} {ca : Nat → Addr} {T : Addr} {x n : Str} {np hp : Pos}
theorem flown {pins : List (Addr × Obj)} {σ : St} {H H' : Hp} {s s' : Shared} {a C t : Addr} {Bq h6 : Heap} (I : Inv X pins σ H s) (fl : Fly X.prog X.w X.stack H s a C H' s') (fly : Heap.FlyingW Bq X.stack a (.ref C) (.ref t) s'.heap)
    (cov : ∀ b o, s'.heap.get? b = some o → ((∃ u, H' b = some u) ∨ ∃ o₀, s.heap.get? b = some o₀) → b ∉ frs X.stack → Bq.get? b = some o) (fly6 : Heap.FlyingW Bq X.stack a (.ref C) (.ref t) h6) (up : s'.heap.UpToSlots h6) :
    Inv X pins σ H' { s' with heap := h6 } ∧ H' a = none ∧ Inv X pins σ (upd H' a (ExcO a C)) { s' with heap := h6 } := by
  obtain ⟨u5, k5⟩ := fly_heap (a := a) (cls := .ref C) (a0 := .ref t) fl.un fl.hok fl.nofr fly.2.2.1 cov fly6.1 up
  have I5 : Inv X pins σ H' { s' with heap := h6 } := I.call' (ch := []) fl.os u5 k5 fl.bare fun b z => absurd z (by simp)
  have fresh : ∀ o, s.heap.get? a ≠ some o := fun o e => by
    obtain ⟨o', e'⟩ := fl.un.there a o e (by simp)
    by_cases hm : a ∈ frs X.stack
    · obtain ⟨_, o2, h2, hd⟩ := fly.2.2.1.mem hm
      obtain ⟨oe, vs, h3, _, hdd, _⟩ := fly.first
      rw [h3] at h2
      cases h2
      exact hd _ hdd
    · have z := cov a o' e' (.inr ⟨o, e⟩) hm
      rw [fly.2.1] at z
      cases z
  have hfree : H' a = none := by
    cases q : H' a with
    | none => rfl
    | some u =>
      obtain ⟨o', e'⟩ := ob_has (fl.hok a u q)
      by_cases hm : a ∈ frs X.stack
      · rw [fl.nofr a hm] at q; cases q
      · have z := cov a o' e' (.inl ⟨u, q⟩) hm
        rw [fly.2.1] at z
        cases z
  refine ⟨I5, hfree, ?_⟩
  obtain ⟨oe, vs, e1, e2, e3, _⟩ := fly6.first
  refine I.call' (ch := []) fl.os ⟨u5.keep, u5.slot, fun b o q nb hx => ?_, u5.there, fun b xs q => ?_, fun b o u q => ?_, fun b ps q => ?_⟩ (fun b u e => ?_) fl.bare fun b z => absurd z (by simp)
  · rw [upd_ne (fun z => fresh o (by rw [← z]; exact q))]; exact u5.free b o q nb hx
  · rw [upd_ne (fun z => by have := u5.tups b xs q; rw [z, hfree] at this; cases this)]; exact u5.tups b xs q
  · rw [upd_ne (fun z => by have := u5.frzs b o u q; rw [z, hfree] at this; cases this)]; exact u5.frzs b o u q
  · obtain ⟨more, e⟩ := u5.tbls b ps q
    exact ⟨more, by rw [upd_ne (fun z => by rw [z, hfree] at e; cases e)]; exact e⟩
  · by_cases hb : b = a
    · subst hb
      rw [upd_same] at e
      cases e
      exact ⟨⟨oe, e1, e2⟩, ⟨oe, e1⟩, fun h1 h2 p q => inst_stay p q⟩
    · rw [upd_ne hb] at e
      refine (k5 b u e).stay (fun _ _ _ r => r) (fun c r => ?_) fun c xs r => ?_
      · rw [upd_ne (fun z => by rw [z, hfree] at r; cases r)]; exact r
      · rw [upd_ne (fun z => by rw [z, hfree] at r; cases r)]; exact r
theorem caught {pins : List (Addr × Obj)} {σ : St} {H H' : Hp} {s s' : Shared} {a C : Addr} {b₀ : Stmt} {suite : List Stmt} {nn : Option Str} {Q : Flow → Shared → Prop} {rest : List ExceptHandler}
    (hst : X.stack = X.env :: X.outer) (hfr : X.env.frame = some X.env.locals) (I : Inv X pins σ H s) (fl : Fly X.prog X.w X.stack H s a C H' s') (hT : X.mg x = some (.ref T)) (hg : Gl X x) (hdb : (x == ("__debug__" : Str)) = false)
    (xC : PySem.W.excIn X.K C bmVE "ValueError.__new__" = true) (xT : PySem.W.excIn X.K T bmVE "ValueError.__new__" = true) (hm : PySem.W.mroIn X.K C (.ref T) = some true)
    (k : ∀ s6, (∀ (A : Around) (Z : Value → Shared → Prop) (Q : Unit → Shared → Prop), (∀ s7, H' a = none → Inv X pins σ H' s7 → Inv X pins σ (upd H' a (ExcO a C)) s7 → Q () s7) → wpAny (model X.prog X.w) A (setFlight (.ref a) none) Q Z s6) →
      codeAny (model X.prog X.w) (X.A.mark (some (.ref a))) (.handlers (.ref a) [.ExceptHandler none nn (b₀ :: suite) hp] X.env) (fun r s₂ => match r with
          | .ok f => (match nn with
            | none => Q f s₂
            | some n => wpAny (model X.prog X.w) X.A (do bindName X.env n .none; unbindBehindTheSuite X.env n hp) (fun _ s₃ => Q f s₃) X.xe s₂)
          | .error y => cameBackBy (model X.prog X.w) X.A X.env X.xe y s₂) s6) :
    wpAny (model X.prog X.w) X.A (noteFrame (.ref a) X.env) (fun _ s₂ => wpAny (model X.prog X.w) X.A (setFlight (.ref a) none) (fun _ s₃ => wpAny (model X.prog X.w) X.A (handleBy (.ref a) X.env (.ExceptHandler (some (.Name x np)) nn (b₀ :: suite) hp :: rest)) Q X.xe s₃) X.xe s₂) X.xe s' := by
  obtain ⟨Bq, t, fly, cov⟩ := fl.fly
  have fly' : Heap.FlyingW Bq (X.env :: X.outer) a (.ref C) (.ref t) s'.heap := hst ▸ fly
  have frs' : X.A.frames = some (X.env :: X.outer) := hst ▸ I.ok.frames
  refine wpAny_looks_onW frs' hfr fly' fun h4 held4 up4 => ?_
  refine wpAny_landsW held4 fun h5 fly5 up5 => ?_
  have fly5' : Heap.FlyingW Bq X.stack a (.ref C) (.ref t) h5 := hst ▸ fly5
  obtain ⟨I5, _, _⟩ := flown I fl fly cov fly5' (up4.trans up5)
  have Ih : Inv (Cx.at X (X.A.mark (some (.ref a)))) pins σ H' { s' with heap := h5 } := Inv.around I5 rfl
  refine wpAny_handleBy_cons (codeAny_handlers_test (ld_glob (X := Cx.at X (X.A.mark (some (.ref a)))) Ih hg hT ?_ hdb)) (by intro q; cases q)
  obtain ⟨ob, hob, hobc⟩ := fly5.there
  obtain ⟨bm, N, nm, qn, bs, hdct, sn, sub, ab, col, dd, k0, k1, k2, k3, kk5, mN, hC, _⟩ := exc_obj I5.kIn xC
  obtain ⟨bm', N', nm', qn', bs', hdct', sn', sub', ab', col', dd', j0, j1, j2, j3, j5, mN', hT', _, _, TT⟩ := exc_obj I5.kIn xT
  refine exc_match hC hT' hob hobc (TT.hasType PySem.F.excBase_ValueError.hasBase) (mro_has I5.kIn hC hm) ?_
  refine k _ fun A Z Q hq => lands_againW fly5' fun h6 fly6 up6 => ?_
  obtain ⟨J1, J2, J3⟩ := flown I fl fly cov fly6 ((up4.trans up5).trans up6)
  exact hq _ J2 J1 J3
theorem Hdl.as {k i : Nat} {f : Addr} {fd : FuncData} {ps : List Str} {fx : Str} {p1 p2 p3 p4 : Pos} (hT : X.mg x = some (.ref T)) (R : Refs X.K ca) (hTx : PySem.W.excIn X.K T bmVE "ValueError.__new__" = true) (hmro : ∀ c, c < 4 → PySem.W.mroIn X.K (ca c) (.ref T) = some true)
    (G : FnC X.prog X.w X.K X.mg X.base k f fd ps (spE X.K ca)) (hr : RoomC k X.A) (hm : X.mg fx = some (.ref f)) (hk : PySem.W.keepIn X.K (.ref f) = true) (hb : Binds X.K fd ps []) (hN : X.N.Nodup) (hi : X.N[i]? = some n := by rfl)
    (hl : X.env.kindOf n = some .local := by rfl) (hst : X.stack = X.env :: X.outer := by rfl) (hfr : X.env.frame = some X.env.locals := by rfl) (hg : Gl X x := by rfl) (hdb : (x == ("__debug__" : Str)) = false := by decide)
    (hgf : Gl X fx := by rfl) (hdf : (fx == ("__debug__" : Str)) = false := by decide) (hdn : (n == ("__debug__" : Str)) = false := by decide) (hcn : (n == ("__classdict__" : Str)) = false := by decide) :
    Hdl X B ca [.ExceptHandler (some (.Name x np)) (some n) [.Return (some (.Call (.Name fx p1) [.Name n p2] [] p3)) p4] hp] (fun c => if c < 4 then some (refD c) else none) := by
  intro pins σ H s D a c H' s' d F' I fl gr ed q
  dsimp only at ed
  split at ed
  case isFalse => cases ed
  case isTrue hc =>
  cases ed
  refine caught hst hfr I fl hT hg hdb (R.xc c hc).ex hTx (hmro c hc) fun s6 again => codeAny_handlers_suite_as (again _ _ _ fun s7 hf I7 J7 => ?_)
  have hloc : X.env.scope.names.lookup n = some .local := hl
  have Jh : Inv (Cx.at X (X.A.mark (some (.ref a)))) pins σ (upd H' a (ExcO a (ca c))) s7 := Inv.around J7 rfl
  refine store_ok (X := Cx.at X (X.A.mark (some (.ref a)))) (v := .ref a) Jh hN hi (.inl hloc) rfl (fun s8 J8 => ?_) (.inr hloc)
  have hiσ : i < σ.length := by rw [I.len]; exact (List.getElem?_eq_some_iff.mp hi).1
  have g8 : Gr B.F B.H F' (upd H' a (ExcO a (ca c))) := ⟨gr.ff, gr.hh.trans (same_new hf _), gr.fh.trans (same_new hf _), gr.new⟩
  have pe := pe_callC (X := Cx.at X (X.A.mark (some (.ref a)))) (p := p1) (pos := p3) G (hr.mark _) hm hk hb (pe_var (pos := p2) hi (.inl hloc) hdn hcn) hgf hdf
  have ps := pss_one (ps_ret (pos := p4) pe)
  refine wpAny_mono (ps pins s8 _ _ { nx := fun _ _ => False, rt := D.rt } J8 ⟨.ref a, by rw [List.getElem?_set_self hiσ], a, c, F', rfl, hc, by rw [upd_same], g8.fh, fun v F'' H'' g2 rv => q v F'' H'' (g8.trans g2) rv⟩) (fun fl s9 h9 => ?_) fun _ _ z => z.elim
  cases fl with
  | next => obtain ⟨_, _, _, z⟩ := h9; exact z.elim
  | brk => obtain ⟨_, _, _, z⟩ := h9; exact z.elim
  | cont => obtain ⟨_, _, _, z⟩ := h9; exact z.elim
  | ret u =>
    obtain ⟨v, σ', H9, J9, rv, z⟩ := h9
    have J : Inv X pins σ' H9 s9 := Inv.back J9 I.ok
    obtain ⟨m, hn, _⟩ := id J.loc
    refine wpAny_nameGoes_keeps hl hn (by rw [I.ok.kind]; rfl) fun h' vv hn' hs => ?_
    exact ⟨v, _, H9, inv_names J hn' hs, rv, z⟩
end
theorem S.nx {X : Cx} {B : Bd} {st : Stmt} {u : En → Option Out} (h : S X.nox B st u) : S X B st u := PS.nox h
end L2.PU
namespace L2.PU
open PySem PySem.Spec PyProof.Rows
section
variable (K : PySem.W.Frag) (cl : Nat → Addr) (W : Nat → Hp → Prop)
noncomputable def tMX (g : Wd → Option (Nat × Sto)) : St → Hp → Prop := fun σ H => ∃ θ F w c s', MR K cl θ F H w.s ∧ MV K θ F σ w.η ∧ g w = some (c, s') ∧ ∀ θ' F' H', θ <+: θ' → Same F F' → MR K cl θ' F' H' s' → W c H'
end
noncomputable abbrev MXF := Wd → Option (Nat × Sto)
noncomputable def MEX (X : Cx) (cl : Nat → Addr) (W : Nat → Hp → Prop) (e : Expr) (g : MXF) : Prop := PE X e (fun σ H _ => tMX X.K cl W g σ H)
noncomputable def MSX (X : Cx) (cl : Nat → Addr) (W : Nat → Hp → Prop) (st : Stmt) (g : MXF) : Prop := PS X st (fun _ σ H => tMX X.K cl W g σ H)
noncomputable def MSsX (X : Cx) (cl : Nat → Addr) (W : Nat → Hp → Prop) (st : List Stmt) (g : MXF) : Prop := PSs X st (fun _ σ H => tMX X.K cl W g σ H)
noncomputable def spMX (K : PySem.W.Frag) (cl : Nat → Addr) (ca : Nat → Addr) (fx : List D → Sto → Option (Nat × Sto)) : Sp := fun vs H _ E => ∃ θ F s ds c s', MR K cl θ F H s ∧ DRs K θ F ds vs ∧ fx ds s = some (c, s') ∧ ∀ θ' F' H', θ <+: θ' → Same F F' → MR K cl θ' F' H' s' → E (.ref (ca c)) none H'
noncomputable def mxSeq (u : Wd → Option MOut) (g : MXF) : MXF := fun w => (u w).bind fun o => match o with
  | .nx w' => g w'
  | _ => none
noncomputable def mxOr (g g' : MXF) : MXF := fun w => match g w with
  | some c => some c
  | none => g' w
noncomputable def mxIf (p : MTF) (g g' : MXF) : MXF := fun w => (p w).bind fun r => if r.1 = true then g ⟨w.η, r.2⟩ else g' ⟨w.η, r.2⟩
noncomputable def mxNo : MXF := fun _ => none
noncomputable def mxP (g : En → Option Nat) : MXF := fun w => (g (vw w)).bind fun c => some (c, w.s)
section
variable {X : Cx} {cl : Nat → Addr} {W : Nat → Hp → Prop} {ca : Nat → Addr} {st : Stmt} {sts sts' : List Stmt} {e o : Expr} {es : List Expr} {u : Wd → Option MOut} {f : MF} {fs : MFs} {g g' : MXF} {px : En → Option Nat} {p : MTF} {pos pos' : Pos}
theorem MEX.no : MEX X cl W e mxNo := PE.imp PE.no fun σ H Q ⟨θ, F, w, c, s', m, v, h, q⟩ => by cases h
theorem MSsX.no : MSsX X cl W sts mxNo := PSs.imp PSs.no fun σ H Q ⟨θ, F, w, c, s', m, v, h, q⟩ => by cases h
theorem tMX_or {K : PySem.W.Frag} {σ : St} {H : Hp} (h : tMX K cl W (mxOr g g') σ H) : tMX K cl W g σ H ∨ tMX K cl W g' σ H := by
  obtain ⟨θ, F, w, c, s', m, v, h, q⟩ := h
  unfold mxOr at h
  split at h
  · rename_i c' e
    cases h
    exact .inl ⟨θ, F, w, c, s', m, v, e, q⟩
  · exact .inr ⟨θ, F, w, c, s', m, v, h, q⟩
theorem MSsX.or (h : MSsX X cl W sts g) (k : MSsX X cl W sts g') : MSsX X cl W sts (mxOr g g') := PSs.imp (PSs.or h k) fun _ _ _ q => tMX_or q
theorem MSsX.one (h : MSX X cl W st g) : MSsX X cl W (st :: sts) g := PSs.imp (pss_cons h PSs.no) fun _ _ _ q => q
theorem MSsX.cons (h : MS X cl st u) (k : MSsX X cl W sts g) : MSsX X cl W (st :: sts) (mxSeq u g) := PSs.imp (pss_cons h k) fun Z σ H ⟨θ, F, w, c, s', m, v, h, q⟩ => by
  obtain ⟨o, h1, h2⟩ := bind_some h
  refine ⟨θ, F, w, o, m, v, h1, ?_⟩
  cases o with
  | nx w' => exact fun σ' θ' F' H' p' s1 m' v' => ⟨θ', F', w', c, s', m', v', h2, fun θ2 F2 H2 p2 s2 m2 => q θ2 F2 H2 (p'.trans p2) (s1.trans s2) m2⟩
  | rt d s => cases h2
  | bk w' => cases h2
  | ct w' => cases h2
theorem MSX.ret (h : MEX X cl W e g) : MSX X cl W (.Return (some e) pos) g := PS.imp (ps_ret h) fun _ _ _ q => q
theorem MSX.exp (h : MEX X cl W e g) (hs : swapsWith e none pos.line X.env = pure false := by rfl) : MSX X cl W (.Expr e pos) g := PS.imp (ps_expr h hs) fun _ _ _ q => q
theorem MSX.ifS (hc : MT X cl e p) (ha : MSsX X cl W sts g) (hb : MSsX X cl W sts' g') : MSX X cl W (.If e sts sts' pos) (mxIf p g g') := PS.imp (ps_if hc ha hb) fun Z σ H ⟨θ, F, w, c, s', m, v, h, q⟩ => by
  obtain ⟨⟨b, s1⟩, h1, hd⟩ := bind_some h
  refine ⟨θ, F, w, b, s1, m, v, h1, fun θ1 F1 H1 p1 q1 m1 => ?_⟩
  cases b with
  | false =>
    rw [if_neg Bool.false_ne_true] at hd ⊢
    exact ⟨θ1, F1, ⟨w.η, s1⟩, c, s', m1, v.mono p1 q1, hd, fun θ2 F2 H2 p2 q2 m2 => q θ2 F2 H2 (p1.trans p2) (q1.trans q2) m2⟩
  | true =>
    rw [if_pos rfl] at hd ⊢
    exact ⟨θ1, F1, ⟨w.η, s1⟩, c, s', m1, v.mono p1 q1, hd, fun θ2 F2 H2 p2 q2 m2 => q θ2 F2 H2 (p1.trans p2) (q1.trans q2) m2⟩
theorem tMX_pu {σ : St} {H : Hp} {K : PySem.W.Frag} (h : tMX K cl W (mxP px) σ H) : ∃ B, tX K B W px σ H := by
  obtain ⟨θ, F, w, c, s', m, v, h, q⟩ := h
  obtain ⟨c', h1, h2⟩ := bind_some h
  cases h2
  exact ⟨⟨F, H⟩, F, vw w, _, m.vw v, h1, fun F' H' gr => q θ F' H' (List.prefix_refl _) gr.ff (m.grow gr)⟩
theorem MEX.pu (h : ∀ B, EX X B W e px) : MEX X cl W e (mxP px) := fun pins s σ H Q I t => by
  obtain ⟨B, z⟩ := tMX_pu t
  exact h B pins s σ H Q I z
theorem MSX.pu (h : ∀ B, SX X B W st px) : MSX X cl W st (mxP px) := fun pins s σ H Q I t => by
  obtain ⟨B, z⟩ := tMX_pu t
  exact h B pins s σ H Q I z
noncomputable def mxMeth (k : Nat) (nm : Str) (fx : List D → Sto → Option (Nat × Sto)) (o : MF) (fs : MFs) : MXF := fun w => (o w).bind fun r => match r.1 with
  | .r n => (match r.2[n]? with
    | some (.obj k' as) => if k' = k ∧ as.lookup nm = none then (fs ⟨w.η, r.2⟩).bind fun rs => fx (.r n :: rs.1) rs.2 else none
    | _ => none)
  | _ => none
theorem MEX.meth {pl : Sem Bool} {k k' kc : Nat} {fa : Addr} {fd : FuncData} {ps : List Str} {nm : Str} {apos : Pos} {fx : List D → Sto → Option (Nat × Sto)} (ho : ME X cl o f) (c : Cls X.K (cl kc)) (hm : Meth X.K (cl kc) nm fa) (G : FnOk X.prog X.w X.K X.mg X.base (CXX X.prog X.w) k fa fd ps (spMX X.K cl ca fx)) (hx : XOk X ca W) (hr : Room k' X.A) (hkk : k ≤ k') (hb : Binds X.K fd ps [])
    (ha : MA X cl (e :: es) fs) (hst : starEach (e :: es) X.env = (false, eval e X.env) :: starEach es X.env := by exact star_of rfl) (hpl : (backTo pos (starEach es X.env)).any (·.1) = false := by exact plain_of rfl)
    (ht : eval (.Call (.Attribute o nm apos) (e :: es) [] pos) X.env = (do
      let ov ← eval o X.env
      standAt apos.atName
      let (f, first) ← holding [ov] (getMethod ov nm pl)
      callWith pos f first (backTo pos (starEach (e :: es) X.env)) (backToKw pos (keywordEach [] X.env))) := by rfl) : MEX X cl W (.Call (.Attribute o nm apos) (e :: es) [] pos) (mxMeth kc nm fx f fs) :=
  PE.imp (pe_meth (pl := pl) ho c hm G (hr.mono hkk) hb .nil hx ha hst hpl ht) fun σ H Q ⟨θ, F, w, cc, s', m, v, hf, q⟩ => by
    obtain ⟨⟨d0, s0⟩, h0, hf⟩ := bind_some hf
    cases d0 with
    | d x => cases hf
    | r n =>
      dsimp only at hf
      split at hf
      · rename_i k' as hc
        split at hf
        · rename_i hk
          obtain ⟨⟨ds, s1⟩, h1, hf⟩ := bind_some hf
          obtain ⟨hk1, hk2⟩ := hk
          rw [hk1] at hc
          refine ⟨θ, F, w, .r n, s0, m, v, h0, fun u θ1 F1 H1 p1 q1 m1 r1 => ?_⟩
          obtain ⟨a, e1, rfl⟩ := id r1
          obtain ⟨c1, c2, c3, dx, xs, c4, c5⟩ := m1.cel n a _ e1 hc
          refine ⟨a, dx, xs, rfl, c4, (c5.look nm).2 hk2, θ1, F1, ⟨w.η, s0⟩, ds, s1, m1, v.mono p1 q1, h1, fun vs θ2 F2 H2 p2 q2 m2 r2 => ?_⟩
          show spMX X.K cl ca fx (.ref a :: (vs ++ [])) H2 Q (EW ca W)
          rw [List.append_nil]
          exact ⟨θ2, F2, s1, .r n :: ds, cc, s', m2, .cons (DR.mono p2 q2 r1) r2, hf, fun θ3 F3 H3 p3 q3 m3 => ⟨cc, rfl, q θ3 F3 H3 (p1.trans (p2.trans p3)) (q1.trans (q2.trans q3)) m3⟩⟩
        · cases hf
      · cases hf
theorem MS.nx (h : MS X.nox cl st u) : MS X cl st u := PS.nox h
end
noncomputable def runMX (n m : Nat) (g : MXF) : List D → Sto → Option (Nat × Sto) := fun ds s => if ds.length = n then g ⟨ds.map some ++ List.replicate (m - n) none, s⟩ else none
section
variable {P : Program} {w : World} {K : PySem.W.Frag} {mg : Str → Option Value} {base : Heap} {ca cl : Nat → Addr}
theorem fnMX {x qual : Str} {st : Stmt} {f : Addr} {fd : FuncData} {N ps : List Str} {k : Nat} {g : MXF} (Fn : Fun K x qual st f fd) (Sc : FnScope N ps (defScope st))
    (hb : ∀ (cdv : Value) (A : Around) (outer : List Env) (s : Shared) (H : Hp) (E : XK) (W : Nat → Hp → Prop), Room k (A.deeper (envOfC qual (defScope st) s.heap.objs.size f cdv)) →
      XOk (cxOf (CXX P w) P w K mg base N qual (defScope st) f cdv A outer s H E) ca W → XMd (cxOf (CXX P w) P w K mg base N qual (defScope st) f cdv A outer s H E) ca W →
      MSsX (cxOf (CXX P w) P w K mg base N qual (defScope st) f cdv A outer s H E) cl W (defBody st) g) :
    FnOk P w K mg base (CXX P w) (k + 1) f fd ps (spMX K cl ca (runMX ps.length N.length g)) := by
  obtain ⟨oc, od, kV, doc, pm, an, cdv, ct, osl, rfl, lk, hcd⟩ := Fn.ex
  refine fn_of lk hcd Sc (fun vs H Q E h => ?_) fun A outer s H vs Q E hr h => ?_
  · obtain ⟨θ, F, s, ds, c, s', _, r, e, _⟩ := h
    unfold runMX at e
    split at e
    · rename_i hl
      rw [← Paired.length r]; exact hl
    · cases e
  · obtain ⟨θ, F, s0, ds, c, s', m, r, e, q⟩ := h
    refine ⟨_, hb cdv A outer s H E (fun c H' => E (.ref (ca c)) none H') hr (fun pins σ H1 s1 ev s2 I x => ?_) (fun pins σ H1 s1 c vs h' ev I x y => leave_made I x y), ?_⟩
    · obtain ⟨a, C, H', rfl, fl, c', ec, y⟩ := x
      cases ec
      exact leave_on I fl y
    · unfold runMX at e
      split at e
      · rename_i hl
        have z := MV.start (K := K) (N := N) r
        rw [hl] at z
        exact ⟨θ, F, ⟨_, s0⟩, c, s', m, z, e, q⟩
      · cases e
end
noncomputable def mTry (g : MXF) (hd : Nat → Option PyData) (u : Wd → Option MOut) : Wd → Option MOut := fun w => match g w with
  | some r => (hd r.1).bind fun d => some (.rt (.d d) r.2)
  | none => u w
section
variable {X : Cx} {cl ca : Nat → Addr} {body : List Stmt} {h₀ : ExceptHandler} {hs : List ExceptHandler} {pos : Pos} {g : MXF} {u : Wd → Option MOut} {hd : Nat → Option PyData}
theorem MS.tryX (hb : ∀ xe pn, MSs (Cx.tri X xe pn) cl body u) (hx : ∀ xe pn W, XOk (Cx.tri X xe pn) ca W → MSsX (Cx.tri X xe pn) cl W body g) (hh : ∀ B, Hdl X B ca (h₀ :: hs) hd) : MS X cl (.Try body (h₀ :: hs) [] [] pos) (mTry g hd u) := by
  intro pins s σ H D I ⟨θ, F, w, o, m, v, e, q⟩
  refine wpAny_Try_except ?_
  have fin : ∀ (xe : Value → Shared → Prop) (f : Flow) (s₁ : Shared), SP (Cx.tri X xe (X.pn ++ pins)) [] D f s₁ → (match f with | .next => wpAny (model X.prog X.w) X.A (execs [] X.env) (SP X pins D) X.xe s₁ | f => SP X pins D f s₁) := fun xe f s₁ h => by
    have h' := SP.untri h
    cases f with
    | next => exact wpAny_execs_nil h'
    | brk => exact h'
    | cont => exact h'
    | ret u => exact h'
  unfold mTry at e
  split at e
  · rename_i r eg
    obtain ⟨c, sx⟩ := r
    obtain ⟨d, ed, e⟩ := bind_some e
    cases e
    refine wpAny_mono (hx _ (X.pn ++ pins) (fun c' H' => c' = c ∧ ∃ θ' F', θ <+: θ' ∧ Same F F' ∧ MR X.K cl θ' F' H' sx) ?_ [] s σ H D (inv_tri I _) ⟨θ, F, w, c, sx, m, v, eg, fun θ' F' H' p' q' m' => ⟨rfl, θ', F', p', q', m'⟩⟩) (fun f s₁ h => fin _ f s₁ h) fun _ _ z => z
    intro pins' σ' H1 s1 ev s2 I' hX
    obtain ⟨a, C, H', e1, fl, c', e2, e3, θ', F', p', q', m'⟩ := hX
    subst e1 e3
    cases e2
    exact hh ⟨F', H'⟩ pins σ' H1 s1 D a _ H' s2 d F' (inv_untri I') fl (.refl m'.sm) ed fun x F'' H'' gr rx => q x θ' F'' H'' p' (q'.trans gr.ff) (m'.grow gr) rx
  · exact wpAny_mono (hb _ (X.pn ++ pins) [] s σ H D (inv_tri I _) ⟨θ, F, w, o, m, v, e, q⟩) (fun f s₁ h => fin _ f s₁ h) fun _ _ z => z
end
end L2.PU
namespace L2.PU
open PySem PySem.Spec PyProof.Rows
theorem MEX.ifE {X : Cx} {cl : Nat → Addr} {W : Nat → Hp → Prop} {a b c : Expr} {p : MTF} {g g' : MXF} {pos : Pos} (hc : MT X cl c p) (ha : MEX X cl W a g) (hb : MEX X cl W b g') : MEX X cl W (.IfExp c a b pos) (mxIf p g g') := PE.imp (pe_ifExp hc ha hb) fun σ H Q ⟨θ, F, w, c, s', m, v, h, q⟩ => by
  obtain ⟨⟨b, s1⟩, h1, hd⟩ := bind_some h
  refine ⟨θ, F, w, b, s1, m, v, h1, fun θ1 F1 H1 p1 q1 m1 => ?_⟩
  cases b with
  | false =>
    rw [if_neg Bool.false_ne_true] at hd ⊢
    exact ⟨θ1, F1, ⟨w.η, s1⟩, c, s', m1, v.mono p1 q1, hd, fun θ2 F2 H2 p2 q2 m2 => q θ2 F2 H2 (p1.trans p2) (q1.trans q2) m2⟩
  | true =>
    rw [if_pos rfl] at hd ⊢
    exact ⟨θ1, F1, ⟨w.η, s1⟩, c, s', m1, v.mono p1 q1, hd, fun θ2 F2 H2 p2 q2 m2 => q θ2 F2 H2 (p1.trans p2) (q1.trans q2) m2⟩
end L2.PU
namespace K40
open PySem L2 L2.PU
abbrev DFn := List D → Sto → Option (D × Sto)
abbrev PFn := List PyData → Option PyData
set_option maxHeartbeats 4000000
noncomputable def top (i : Nat) : Stmt := PySem.Challenge.pw_touchtree_k40_focus.main.body.getD i (.Pass ⟨0, 0, 0, 0⟩)
noncomputable abbrev s_qcell : Stmt := top 27
noncomputable abbrev s_qdrawn : Stmt := top 28
noncomputable abbrev s_qscene : Stmt := top 29
noncomputable abbrev s_X___init__ : Stmt := inClass (top 25) 0
noncomputable abbrev s_qpainted : Stmt := top 32
noncomputable abbrev s_qbox : Stmt := top 30
noncomputable abbrev s_qpath : Stmt := top 31
noncomputable abbrev s_qorder : Stmt := top 34
noncomputable abbrev s_qgoes_on : Stmt := top 36
noncomputable abbrev s_X_now : Stmt := inClass (top 25) 2
noncomputable abbrev s_children : Stmt := top 13
noncomputable abbrev s_box_of : Stmt := top 11
noncomputable abbrev s_below : Stmt := top 14
noncomputable abbrev s_painted : Stmt := top 15
noncomputable abbrev s_has_mark : Stmt := top 18
noncomputable abbrev s_path_of : Stmt := top 12
noncomputable abbrev s_is_shown : Stmt := top 19
noncomputable abbrev s_can_have_keys : Stmt := top 22
noncomputable abbrev s_X_order : Stmt := inClass (top 25) 1
noncomputable abbrev s_X_path : Stmt := inClass (top 25) 9
noncomputable abbrev s_qstands : Stmt := top 37
noncomputable abbrev s_X_to : Stmt := inClass (top 25) 3
noncomputable abbrev s_start_of : Stmt := top 23
noncomputable abbrev s_X_go : Stmt := inClass (top 25) 4
noncomputable abbrev s_X_drop : Stmt := inClass (top 25) 5
noncomputable abbrev s_X_settle : Stmt := inClass (top 25) 8
noncomputable abbrev s_X_keep_in : Stmt := inClass (top 25) 6
noncomputable abbrev s_round_behind : Stmt := top 24
noncomputable abbrev s_has_box : Stmt := top 10
noncomputable abbrev s_X_change : Stmt := inClass (top 25) 7
noncomputable abbrev s_qtold : Stmt := top 35
noncomputable abbrev s_qof_drawn : Stmt := top 39
noncomputable abbrev s_qknown_one : Stmt := top 38
noncomputable abbrev s_law : Stmt := top 40
noncomputable abbrev s_qrefused : Stmt := top 33
structure Adr where
  C_Focus : Addr
  _law_cell : Addr
  d_qcell : FuncData
  _law_drawn : Addr
  d_qdrawn : FuncData
  _law_scene : Addr
  d_qscene : FuncData
  X___init__ : Addr
  d_X___init__ : FuncData
  _law_painted : Addr
  d_qpainted : FuncData
  _law_box : Addr
  d_qbox : FuncData
  _law_path : Addr
  d_qpath : FuncData
  _law_order : Addr
  d_qorder : FuncData
  _law_goes_on : Addr
  d_qgoes_on : FuncData
  X_now : Addr
  d_X_now : FuncData
  children : Addr
  d_children : FuncData
  box_of : Addr
  d_box_of : FuncData
  below : Addr
  d_below : FuncData
  painted : Addr
  d_painted : FuncData
  has_mark : Addr
  d_has_mark : FuncData
  path_of : Addr
  d_path_of : FuncData
  is_shown : Addr
  d_is_shown : FuncData
  can_have_keys : Addr
  d_can_have_keys : FuncData
  X_order : Addr
  d_X_order : FuncData
  X_path : Addr
  d_X_path : FuncData
  _law_stands : Addr
  d_qstands : FuncData
  X_to : Addr
  d_X_to : FuncData
  start_of : Addr
  d_start_of : FuncData
  X_go : Addr
  d_X_go : FuncData
  X_drop : Addr
  d_X_drop : FuncData
  X_settle : Addr
  d_X_settle : FuncData
  X_keep_in : Addr
  d_X_keep_in : FuncData
  round_behind : Addr
  d_round_behind : FuncData
  has_box : Addr
  d_has_box : FuncData
  X_change : Addr
  d_X_change : FuncData
  _law_told : Addr
  d_qtold : FuncData
  _law_of_drawn : Addr
  d_qof_drawn : FuncData
  _law_known_one : Addr
  d_qknown_one : FuncData
  law : Addr
  d_law : FuncData
  _law_refused : Addr
  d_qrefused : FuncData
  t_AROUND : Tok
  t_CAN_HAVE_KEYS : Tok
  t_HIDDEN : Tok
  t_MARKS : Tok
  t_NAME : Tok
  NoBox : Addr
  Taken : Addr
  TooMany : Addr
  NoNumber : Addr
  TouchError : Addr
noncomputable def cl (t : Adr) : Nat → Addr
  | _ => t.C_Focus
noncomputable def ca (t : Adr) : Nat → Addr := fun c => match c with | 0 => t.NoBox | 1 => t.Taken | 2 => t.TooMany | _ => t.NoNumber
structure Tx (K : PySem.W.Frag) (mg : Str → Option Value) (t : Adr) : Prop where
  cl_Focus : Cls K (cl t 0)
  mk_Focus : Mk K (cl t 0) t.X___init__
  mg_Focus : mg "Focus" = some (.ref (cl t 0))
  na_Focus_fence : NoAttr K (cl t 0) "fence"
  na_Focus_keyed : NoAttr K (cl t 0) "keyed"
  na_Focus_scene : NoAttr K (cl t 0) "scene"
  F_qcell : Fun K "_law_cell" "_law_cell" s_qcell t._law_cell t.d_qcell
  m_qcell : mg "_law_cell" = some (.ref t._law_cell)
  b_qcell : Binds K t.d_qcell ["_law_script", "_law_k"] []
  F_qdrawn : Fun K "_law_drawn" "_law_drawn" s_qdrawn t._law_drawn t.d_qdrawn
  m_qdrawn : mg "_law_drawn" = some (.ref t._law_drawn)
  b_qdrawn : Binds K t.d_qdrawn ["_law_script", "_law_k", "_law_many"] []
  F_qscene : Fun K "_law_scene" "_law_scene" s_qscene t._law_scene t.d_qscene
  m_qscene : mg "_law_scene" = some (.ref t._law_scene)
  b_qscene : Binds K t.d_qscene ["_law_script", "_law_at"] []
  F_X___init__ : Fun K "__init__" "Focus.__init__" s_X___init__ t.X___init__ t.d_X___init__
  b_X___init__ : Binds K t.d_X___init__ ["self", "scene"] []
  F_qpainted : Fun K "_law_painted" "_law_painted" s_qpainted t._law_painted t.d_qpainted
  m_qpainted : mg "_law_painted" = some (.ref t._law_painted)
  b_qpainted : Binds K t.d_qpainted ["_law_scene_here", "_law_around"] []
  F_qbox : Fun K "_law_box" "_law_box" s_qbox t._law_box t.d_qbox
  m_qbox : mg "_law_box" = some (.ref t._law_box)
  b_qbox : Binds K t.d_qbox ["_law_scene_here", "_law_name"] []
  F_qpath : Fun K "_law_path" "_law_path" s_qpath t._law_path t.d_qpath
  m_qpath : mg "_law_path" = some (.ref t._law_path)
  b_qpath : Binds K t.d_qpath ["_law_scene_here", "_law_name"] []
  F_qorder : Fun K "_law_order" "_law_order" s_qorder t._law_order t.d_qorder
  m_qorder : mg "_law_order" = some (.ref t._law_order)
  b_qorder : Binds K t.d_qorder ["_law_scene_here", "_law_fence"] []
  F_qgoes_on : Fun K "_law_goes_on" "_law_goes_on" s_qgoes_on t._law_goes_on t.d_qgoes_on
  m_qgoes_on : mg "_law_goes_on" = some (.ref t._law_goes_on)
  b_qgoes_on : Binds K t.d_qgoes_on ["_law_before", "_law_now", "_law_name"] []
  F_X_now : Fun K "now" "Focus.now" s_X_now t.X_now t.d_X_now
  me_X_now : Meth K (cl t 0) "now" t.X_now
  b_X_now : Binds K t.d_X_now ["self"] []
  F_children : Fun K "children" "children" s_children t.children t.d_children
  m_children : mg "children" = some (.ref t.children)
  b_children : Binds K t.d_children ["scene", "name"] []
  F_box_of : Fun K "box_of" "box_of" s_box_of t.box_of t.d_box_of
  m_box_of : mg "box_of" = some (.ref t.box_of)
  b_box_of : Binds K t.d_box_of ["scene", "name"] []
  F_below : Fun K "below" "below" s_below t.below t.d_below
  m_below : mg "below" = some (.ref t.below)
  b_below : Binds K t.d_below ["scene", "name"] []
  F_painted : Fun K "painted" "painted" s_painted t.painted t.d_painted
  m_painted : mg "painted" = some (.ref t.painted)
  b_painted : Binds K t.d_painted ["scene"] []
  F_has_mark : Fun K "has_mark" "has_mark" s_has_mark t.has_mark t.d_has_mark
  m_has_mark : mg "has_mark" = some (.ref t.has_mark)
  b_has_mark : Binds K t.d_has_mark ["scene", "name", "mark"] []
  F_path_of : Fun K "path_of" "path_of" s_path_of t.path_of t.d_path_of
  m_path_of : mg "path_of" = some (.ref t.path_of)
  b_path_of : Binds K t.d_path_of ["scene", "name"] []
  F_is_shown : Fun K "is_shown" "is_shown" s_is_shown t.is_shown t.d_is_shown
  m_is_shown : mg "is_shown" = some (.ref t.is_shown)
  b_is_shown : Binds K t.d_is_shown ["scene", "name"] []
  F_can_have_keys : Fun K "can_have_keys" "can_have_keys" s_can_have_keys t.can_have_keys t.d_can_have_keys
  m_can_have_keys : mg "can_have_keys" = some (.ref t.can_have_keys)
  b_can_have_keys : Binds K t.d_can_have_keys ["scene", "name"] []
  F_X_order : Fun K "order" "Focus.order" s_X_order t.X_order t.d_X_order
  me_X_order : Meth K (cl t 0) "order" t.X_order
  b_X_order : Binds K t.d_X_order ["self"] []
  F_X_path : Fun K "path" "Focus.path" s_X_path t.X_path t.d_X_path
  me_X_path : Meth K (cl t 0) "path" t.X_path
  b_X_path : Binds K t.d_X_path ["self"] []
  F_qstands : Fun K "_law_stands" "_law_stands" s_qstands t._law_stands t.d_qstands
  m_qstands : mg "_law_stands" = some (.ref t._law_stands)
  b_qstands : Binds K t.d_qstands ["_law_focus", "_law_scene_here", "_law_fence", "_law_name"] []
  F_X_to : Fun K "to" "Focus.to" s_X_to t.X_to t.d_X_to
  me_X_to : Meth K (cl t 0) "to" t.X_to
  b_X_to : Binds K t.d_X_to ["self", "name"] []
  F_start_of : Fun K "start_of" "start_of" s_start_of t.start_of t.d_start_of
  m_start_of : mg "start_of" = some (.ref t.start_of)
  b_start_of : Binds K t.d_start_of ["names", "name", "by"] []
  F_X_go : Fun K "go" "Focus.go" s_X_go t.X_go t.d_X_go
  me_X_go : Meth K (cl t 0) "go" t.X_go
  b_X_go : Binds K t.d_X_go ["self", "by"] []
  F_X_drop : Fun K "drop" "Focus.drop" s_X_drop t.X_drop t.d_X_drop
  me_X_drop : Meth K (cl t 0) "drop" t.X_drop
  b_X_drop : Binds K t.d_X_drop ["self"] []
  F_X_settle : Fun K "settle" "Focus.settle" s_X_settle t.X_settle t.d_X_settle
  me_X_settle : Meth K (cl t 0) "settle" t.X_settle
  b_X_settle : Binds K t.d_X_settle ["self", "heirs"] []
  F_X_keep_in : Fun K "keep_in" "Focus.keep_in" s_X_keep_in t.X_keep_in t.d_X_keep_in
  me_X_keep_in : Meth K (cl t 0) "keep_in" t.X_keep_in
  b_X_keep_in : Binds K t.d_X_keep_in ["self", "name"] []
  F_round_behind : Fun K "round_behind" "round_behind" s_round_behind t.round_behind t.d_round_behind
  m_round_behind : mg "round_behind" = some (.ref t.round_behind)
  b_round_behind : Binds K t.d_round_behind ["names", "name"] []
  F_has_box : Fun K "has_box" "has_box" s_has_box t.has_box t.d_has_box
  m_has_box : mg "has_box" = some (.ref t.has_box)
  b_has_box : Binds K t.d_has_box ["scene", "name"] []
  F_X_change : Fun K "change" "Focus.change" s_X_change t.X_change t.d_X_change
  me_X_change : Meth K (cl t 0) "change" t.X_change
  b_X_change : Binds K t.d_X_change ["self", "scene"] []
  F_qtold : Fun K "_law_told" "_law_told" s_qtold t._law_told t.d_qtold
  m_qtold : mg "_law_told" = some (.ref t._law_told)
  b_qtold : Binds K t.d_qtold ["_law_focus", "_law_way", "_law_thing"] []
  F_qof_drawn : Fun K "_law_of_drawn" "_law_of_drawn" s_qof_drawn t._law_of_drawn t.d_qof_drawn
  m_qof_drawn : mg "_law_of_drawn" = some (.ref t._law_of_drawn)
  b_qof_drawn : Binds K t.d_qof_drawn ["_law_script"] []
  F_qknown_one : Fun K "_law_known_one" "_law_known_one" s_qknown_one t._law_known_one t.d_qknown_one
  m_qknown_one : mg "_law_known_one" = some (.ref t._law_known_one)
  b_qknown_one : Binds K t.d_qknown_one [] []
  F_law : Fun K "law" "law" s_law t.law t.d_law
  m_law : mg "law" = some (.ref t.law)
  b_law : Binds K t.d_law ["_law_script"] []
  F_qrefused : Fun K "_law_refused" "_law_refused" s_qrefused t._law_refused t.d_qrefused
  m_qrefused : mg "_law_refused" = some (.ref t._law_refused)
  b_qrefused : Binds K t.d_qrefused ["_law_e"] []
  c_AROUND : mg "AROUND" = some (.int (1) t.t_AROUND)
  c_CAN_HAVE_KEYS : mg "CAN_HAVE_KEYS" = some (.str "f" t.t_CAN_HAVE_KEYS)
  c_HIDDEN : mg "HIDDEN" = some (.str "h" t.t_HIDDEN)
  c_MARKS : mg "MARKS" = some (.int (6) t.t_MARKS)
  c_NAME : mg "NAME" = some (.int (0) t.t_NAME)
  z_ValueError : mg "ValueError" = none
  z_any : mg "any" = none
  z_enumerate : mg "enumerate" = none
  z_int : mg "int" = none
  z_isinstance : mg "isinstance" = none
  z_len : mg "len" = none
  z_max : mg "max" = none
  z_min : mg "min" = none
  z_range : mg "range" = none
  z_tuple : mg "tuple" = none
  m_NoBox : mg "NoBox" = some (.ref t.NoBox)
  m_Taken : mg "Taken" = some (.ref t.Taken)
  m_TooMany : mg "TooMany" = some (.ref t.TooMany)
  m_NoNumber : mg "NoNumber" = some (.ref t.NoNumber)
  m_TouchError : mg "TouchError" = some (.ref t.TouchError)
  refs : Refs K (ca t)
  ex_TouchError : PySem.W.excIn K t.TouchError bmVE "ValueError.__new__" = true
  mro : ∀ c, c < 4 → PySem.W.mroIn K (ca t c) (.ref t.TouchError) = some true
section
variable {Pr : Program} {w : World} {K : PySem.W.Frag} {mg : Str → Option Value} {base : Heap} {t : Adr}
theorem sc_qrefused : FnScope ["_law_e", "_law_flags"] ["_law_e"] (defScope s_qrefused) := ⟨rfl, rfl, rfl, by decide +kernel, rfl, by decide +kernel, by decide +kernel⟩
theorem G_qrefused (tx : Tx K mg t) : FnC Pr w K mg base 1 t._law_refused t.d_qrefused ["_law_e"] (spE K (ca t)) :=
  fnC (k := 0) tx.F_qrefused sc_qrefused (fun vs H Q h => by obtain ⟨x, c, F, rfl, _⟩ := h; rfl) fun cdv A outer s H vs Q h => by
    obtain ⟨x, c, F, rfl, hc, hx, sm, q⟩ := h
    refine ⟨_, ?_, ref_read tx.refs (tx := fun _ _ _ => False) hc hx sm q⟩
    exact pss_cons (ps_set (i := 1) sc_qrefused.nd rfl (Or.inl rfl) (pe_lst (pa_cons (pe_isO tx.z_isinstance tx.m_NoBox) (pa_cons (pe_isO tx.z_isinstance tx.m_Taken) (pa_cons (pe_isO tx.z_isinstance tx.m_TooMany) pa_nil)))))
      (pss_cons (ps_set (i := 1) sc_qrefused.nd rfl (Or.inl rfl) (pe_op op_catS (pv 1) (pe_lst (pa_cons (pe_isO tx.z_isinstance tx.m_NoNumber) pa_nil))))
        (pss_cons (ps_if (PW.pt (pw_or (pt_cmpR op_ne (pe_bm PySem.F.plainAttrs_list PySem.F.slot_list_count PySem.F.type_list_count mt_cnt (pv 1) (pa_cons pe_bl pa_nil)) pe_int (nomark _)) (pw_or1 (pt_not (pt_val (pe_isT tx.z_isinstance tx.z_ValueError (by decide +kernel))))))) PSs.no pss_nil)
          (pss_one (ps_ret (pe_tup (pa_cons pe_str (pa_cons (pe_bm PySem.F.plainAttrs_list PySem.F.slot_list_index PySem.F.type_list_index mt_idx (pv 1) (pa_cons pe_bl pa_nil)) pa_nil)))))))
theorem sc_qcell : FnScope ["_law_script", "_law_k"] ["_law_script", "_law_k"] (defScope s_qcell) := ⟨rfl, rfl, rfl, by decide +kernel, rfl, by decide +kernel, by decide +kernel⟩
noncomputable def g_qcell  : En → Option Out :=
  (sSeq (sIf (bT (l2 pEq (eV 0) (oE (fun η => (aN η).bind gL)))) (sRet (l2 pMul (eC (.int 7)) (eV 1))) sNx)
    (sRet (l2 pAdd (l2 pIx (eV 0) (l2 pMod (eV 1) (lA pLen (aC (eV 0) aN)))) (l2 pMul (eC (.int 6553)) (l2 pFdiv (eV 1) (lA pLen (aC (eV 0) aN)))))))
theorem ok_qcell {k : Nat} (tx : Tx K mg t)  : FnOk Pr w K mg base CX0 (k + 1) t._law_cell t.d_qcell ["_law_script", "_law_k"] (spP K (runF 2 2 (g_qcell))) :=
  fnP tx.F_qcell sc_qcell fun _ _ _ _ _ _ _ hr =>
    (@Ss.cons _ _ _ _ _ _ (@S.ifS _ _ _ _ _ _ _ _ _ (T.eq hr (E.v 0) (EO.toE (EO.lst A.nil))) (@Ss.one _ _ _ _ (S.ret (E.mul E.int (E.v 1)))) Ss.nil)
    (@Ss.one _ _ _ _ (S.ret (E.add (E.at (E.v 0) (E.mod (E.v 1) (E.len tx.z_len (A.cons (E.v 0) A.nil)))) (E.mul E.int (E.fdiv (E.v 1) (E.len tx.z_len (A.cons (E.v 0) A.nil))))))))
theorem sc_qdrawn : FnScope ["_law_script", "_law_k", "_law_many", "_law_cell_here"] ["_law_script", "_law_k", "_law_many"] (defScope s_qdrawn) := ⟨rfl, rfl, rfl, by decide +kernel, rfl, by decide +kernel, by decide +kernel⟩
noncomputable def g_qdrawn (fn_qcell : PFn) : En → Option Out :=
  (sSeq (sSet 3 (l2 pMod (l2 pAdd (l2 pMul (l2 pMod (lA fn_qcell (aC (eV 0) (aC (eV 1) aN))) (eC (.int 2147483563))) (eC (.int 69069))) (l2 pMul (eC (.int 104723)) (l2 pAdd (eV 1) (eC (.int 1))))) (eC (.int 2147483563))))
    (sSeq (sSet 3 (l2 pMod (l2 pAdd (l2 pMul (eV 3) (eV 3)) (l2 pFdiv (eV 3) (eC (.int 3)))) (eC (.int 2147483399))))
    (sRet (l2 pMod (l2 pFdiv (l2 pMod (l2 pAdd (l2 pMul (eV 3) (eV 3)) (l2 pFdiv (eV 3) (eC (.int 7)))) (eC (.int 2147483647))) (eC (.int 11))) (eV 2)))))
theorem ok_qdrawn {k : Nat} (tx : Tx K mg t) {k_qcell : Nat} {fn_qcell : PFn} (G_qcell : FnOk Pr w K mg base CX0 k_qcell t._law_cell t.d_qcell ["_law_script", "_law_k"] (spP K fn_qcell)) (hk_qcell : k_qcell ≤ k) : FnOk Pr w K mg base CX0 (k + 1) t._law_drawn t.d_qdrawn ["_law_script", "_law_k", "_law_many"] (spP K (runF 3 4 (g_qdrawn fn_qcell))) :=
  fnP tx.F_qdrawn sc_qdrawn fun _ _ _ _ _ _ _ hr =>
    (@Ss.cons _ _ _ _ _ _ (S.set 3 sc_qdrawn.nd (E.mod (E.add (E.mul (E.mod (E.call G_qcell hr (by omega) tx.m_qcell tx.F_qcell.kp tx.b_qcell (A.cons (E.v 0) (A.cons (E.v 1) A.nil))) E.int) E.int) (E.mul E.int (E.add (E.v 1) E.int))) E.int))
    (@Ss.cons _ _ _ _ _ _ (S.set 3 sc_qdrawn.nd (E.mod (E.add (E.mul (E.v 3) (E.v 3)) (E.fdiv (E.v 3) E.int)) E.int))
    (@Ss.one _ _ _ _ (S.ret (E.mod (E.fdiv (E.mod (E.add (E.mul (E.v 3) (E.v 3)) (E.fdiv (E.v 3) E.int)) E.int) E.int) (E.v 2))))))
noncomputable abbrev N_qscene : List Str := ["_law_script", "_law_at", "_law_found", "_law_turn", "_law_k", "_law_here", "_law_around", "_law_places", "_law_sizes", "_law_marks", "_law_j", "_law_sign", "_law_name"]
theorem sc_qscene : FnScope ["_law_script", "_law_at", "_law_found", "_law_turn", "_law_k", "_law_here", "_law_around", "_law_places", "_law_sizes", "_law_marks", "_law_j", "_law_sign", "_law_name"] ["_law_script", "_law_at"] (defScope s_qscene) := ⟨rfl, rfl, rfl, by decide +kernel, rfl, by decide +kernel, by decide +kernel⟩
noncomputable def g_qscene (fn_qdrawn : PFn) : En → Option Out :=
  (sSeq (sSet 2 (lA (fun ds => if ds.length ≤ sizeLine then some (.tuple ds) else none) aN))
    (sSeq (sSet 3 (lA fn_qdrawn (aC (eV 0) (aC (l2 pAdd (eV 1) (eC (.int 1))) (aC (eC (.int 8)) aN)))))
    (sSeq (sFor (fun η => ((aC (lA fn_qdrawn (aC (eV 0) (aC (eV 1) (aC (eC (.int 8)) aN)))) aN) η).bind rng1) (tgN 4)
    (sSeq (sSet 5 (l2 pAdd (l2 pAdd (eV 1) (eC (.int 3))) (l2 pMul (eC (.int 9)) (eV 4))))
    (sSeq (sSet 6 (l2 pIx (l2 pAdd (oE (fun η => ((aC (eC (.str "")) aN) η).bind gL)) (oE (sComp [none] (lI asTu (eV 2)) (tgN 0) tTrue (l2 pIx (eV 0) (eC (.int 0)))))) (lA fn_qdrawn (aC (eV 0) (aC (eV 5) (aC (l2 pAdd (eV 4) (eC (.int 1))) aN))))))
    (sSeq (sSetO 7 (sComp [none, some 0, some 5] (fun η => ((aC (eC (.int 2)) aN) η).bind rng1) (tgN 0) tTrue (l2 pSub (lA fn_qdrawn (aC (eV 1) (aC (l2 pAdd (l2 pAdd (eV 2) (eC (.int 1))) (eV 0)) (aC (eC (.int 9)) aN)))) (eC (.int 3)))))
    (fun η => (sSeq (sSetO 8 (sComp [none, some 0, some 5] (fun η => ((aC (eC (.int 2)) aN) η).bind rng1) (tgN 0) tTrue (lA fn_qdrawn (aC (eV 1) (aC (l2 pAdd (l2 pAdd (eV 2) (eC (.int 3))) (eV 0)) (aC (eC (.int 9)) aN))))))
    (fun η => (sSeq (sSet 9 (eC (.str "")))
    (sSeq (sFor (fun η => ((aC (eC (.str "cfhl")) aN) η).bind enS) (tgT (tgCons (tgN 10) (tgCons (tgN 11) tgNil)))
    (sIf (bT (l2 pEq (lA fn_qdrawn (aC (eV 0) (aC (l2 pAdd (l2 pAdd (eV 5) (eC (.int 5))) (eV 10)) (aC (l2 pIx (oE (fun η => ((aC (eC (.int 4)) (aC (eC (.int 2)) (aC (eC (.int 9)) (aC (eC (.int 6)) aN)))) η).bind gL)) (eV 10)) aN)))) (eC (.int 0)))) (sSet 9 (l2 pAdd (eV 9) (eV 11))) sNx))
    (sSeq (sSet 12 (l2 pIx (eC (.str "dbgahcfe")) (l2 pMod (l2 pAdd (eV 4) (eV 3)) (eC (.int 8)))))
    (sSet 2 (l2 pAdd (eV 2) (lA (fun ds => if ds.length ≤ sizeLine then some (.tuple ds) else none) (aC (l2 pAdd (l2 pAdd (lA (fun ds => if ds.length ≤ sizeLine then some (.tuple ds) else none) (aC (eV 12) (aC (eV 6) aN))) (lA pTup (aC (l2 pAdd (eV 7) (eV 8)) aN))) (lA (fun ds => if ds.length ≤ sizeLine then some (.tuple ds) else none) (aC (eV 9) aN))) aN))))))) (frz 8 η))) (frz 7 η))))))
    (sRet (eV 2)))))
theorem ok_qscene {k : Nat} (tx : Tx K mg t) {k_qdrawn : Nat} {fn_qdrawn : PFn} (G_qdrawn : FnOk Pr w K mg base CX0 k_qdrawn t._law_drawn t.d_qdrawn ["_law_script", "_law_k", "_law_many"] (spP K fn_qdrawn)) (hk_qdrawn : k_qdrawn ≤ k) : FnOk Pr w K mg base CX0 (k + 1) t._law_scene t.d_qscene ["_law_script", "_law_at"] (spP K (runF 2 13 (g_qscene fn_qdrawn))) :=
  fnP tx.F_qscene sc_qscene fun _ _ _ _ _ _ _ hr =>
    (@Ss.cons _ _ _ _ _ _ (S.set 2 sc_qscene.nd (E.tup A.nil))
    (@Ss.cons _ _ _ _ _ _ (S.set 3 sc_qscene.nd (E.call G_qdrawn hr (by omega) tx.m_qdrawn tx.F_qdrawn.kp tx.b_qdrawn (A.cons (E.v 0) (A.cons (E.add (E.v 1) E.int) (A.cons E.int A.nil)))))
    (@Ss.cons _ _ _ _ _ _ (@S.for _ _ _ _ _ _ _ _ _ _ _ PassesOwn.never rfl (I.rng1 tx.z_range (A.cons (E.call G_qdrawn hr (by omega) tx.m_qdrawn tx.F_qdrawn.kp tx.b_qdrawn (A.cons (E.v 0) (A.cons (E.v 1) (A.cons E.int A.nil)))) A.nil)) (pg_name (i := 4) sc_qscene.nd rfl (by first | exact Or.inl rfl | exact Or.inr rfl) ) (TgP.name (i := 4))
    (@Ss.cons _ _ _ _ _ _ (S.set 5 sc_qscene.nd (E.add (E.add (E.v 1) E.int) (E.mul E.int (E.v 4))))
    (@Ss.cons _ _ _ _ _ _ (S.set 6 sc_qscene.nd (E.at (E.add (EO.toE (EO.lst (A.cons E.str A.nil))) (EO.toE (EO.comp (N' := ["_law_box_here"]) (mp := [none]) rfl (CompSc.of' N_qscene (defScope s_qscene) rfl rfl (by decide +kernel)) (TgP.name (i := 0)) (by decide) (I.tup (E.v 2)) (fun _ _ _ => ⟨(pg_name (i := 0) (show (["_law_box_here"] : List Str).Nodup by decide +kernel) rfl (Or.inl rfl) (.inr rfl)), Ts.nil, (E.at (E.v 0) E.int)⟩)))) (E.call G_qdrawn hr (by omega) tx.m_qdrawn tx.F_qdrawn.kp tx.b_qdrawn (A.cons (E.v 0) (A.cons (E.v 5) (A.cons (E.add (E.v 4) E.int) A.nil))))))
    (@Ss.cons _ _ _ _ _ _ (S.setC 7 (N' := ["_law_j", "_law_script", "_law_here"]) (mp := [none, some 0, some 5]) rfl sc_qscene.nd (CompSc.of' N_qscene (defScope s_qscene) rfl rfl (by decide +kernel)) (TgP.name (i := 0)) (by decide) (I.rng1 tx.z_range (A.cons E.int A.nil)) (fun _ _ _ => ⟨(pg_name (i := 0) (show (["_law_j", "_law_script", "_law_here"] : List Str).Nodup by decide +kernel) rfl (Or.inl rfl) (.inr rfl)), Ts.nil, (E.sub (E.call G_qdrawn hr (by omega) tx.m_qdrawn tx.F_qdrawn.kp tx.b_qdrawn (A.cons (E.v 1) (A.cons (E.add (E.add (E.v 2) E.int) (E.v 0)) (A.cons E.int A.nil)))) E.int)⟩))
    (@Ss.frz _ _ _ _ 7 (@Ss.cons _ _ _ _ _ _ (S.setC 8 (N' := ["_law_j", "_law_script", "_law_here"]) (mp := [none, some 0, some 5]) rfl sc_qscene.nd (CompSc.of' N_qscene (defScope s_qscene) rfl rfl (by decide +kernel)) (TgP.name (i := 0)) (by decide) (I.rng1 tx.z_range (A.cons E.int A.nil)) (fun _ _ _ => ⟨(pg_name (i := 0) (show (["_law_j", "_law_script", "_law_here"] : List Str).Nodup by decide +kernel) rfl (Or.inl rfl) (.inr rfl)), Ts.nil, (E.call G_qdrawn hr (by omega) tx.m_qdrawn tx.F_qdrawn.kp tx.b_qdrawn (A.cons (E.v 1) (A.cons (E.add (E.add (E.v 2) E.int) (E.v 0)) (A.cons E.int A.nil))))⟩))
    (@Ss.frz _ _ _ _ 8 (@Ss.cons _ _ _ _ _ _ (S.set 9 sc_qscene.nd E.str)
    (@Ss.cons _ _ _ _ _ _ (@S.for _ _ _ _ _ _ _ _ _ _ _ PassesOwn.never rfl (I.enum rfl tx.z_enumerate (A.cons E.str A.nil)) (pg_tup (n := 2) rfl (pgs_cons (pg_name (i := 10) sc_qscene.nd rfl (by first | exact Or.inl rfl | exact Or.inr rfl) ) (pgs_cons (pg_name (i := 11) sc_qscene.nd rfl (by first | exact Or.inl rfl | exact Or.inr rfl) ) pgs_nil))) (TgP.tup (n := 2) (TgsP.cons (TgP.name (i := 10)) (TgsP.cons (TgP.name (i := 11)) TgsP.nil)) (tg_len2))
    (@Ss.one _ _ _ _ (@S.ifS _ _ _ _ _ _ _ _ _ (T.eq hr (E.call G_qdrawn hr (by omega) tx.m_qdrawn tx.F_qdrawn.kp tx.b_qdrawn (A.cons (E.v 0) (A.cons (E.add (E.add (E.v 5) E.int) (E.v 10)) (A.cons (E.at (EO.toE (EO.lst (A.cons E.int (A.cons E.int (A.cons E.int (A.cons E.int A.nil)))))) (E.v 10)) A.nil)))) E.int) (@Ss.one _ _ _ _ (S.set 9 sc_qscene.nd (E.add (E.v 9) (E.v 11)))) Ss.nil)) (fun _ => rfl))
    (@Ss.cons _ _ _ _ _ _ (S.set 12 sc_qscene.nd (E.at E.str (E.mod (E.add (E.v 4) (E.v 3)) E.int)))
    (@Ss.one _ _ _ _ (S.set 2 sc_qscene.nd (E.add (E.v 2) (E.tup (A.cons (E.add (E.add (E.tup (A.cons (E.v 12) (A.cons (E.v 6) A.nil))) (E.tuple tx.z_tuple (A.cons (E.add (E.v 7) (E.v 8)) A.nil))) (E.tup (A.cons (E.v 9) A.nil))) A.nil)))))))))))))) (fun _ => rfl))
    (@Ss.one _ _ _ _ (S.ret (E.v 2))))))
theorem sc_X___init__ : FnScope ["self", "scene"] ["self", "scene"] (defScope s_X___init__) := ⟨rfl, rfl, rfl, by decide +kernel, rfl, by decide +kernel, by decide +kernel⟩
noncomputable def g_X___init__  : Wd → Option MOut :=
  (mSeq (mPut 0 "scene" (mV 0) (mP (eV 1)))
    (mSeq (mPut 0 "fence" (mV 0) (mP (eC .none)))
    (mPut 0 "keyed" (mV 0) (mP (eC .none)))))
theorem ok_X___init__ {k : Nat} (tx : Tx K mg t)  : FnOk Pr w K mg base CX0 (k + 1) t.X___init__ t.d_X___init__ ["self", "scene"] (spM K (cl t) (runM 2 2 (g_X___init__))) :=
  fnM tx.F_X___init__ sc_X___init__ fun _ _ _ _ _ _ hr =>
    (@MSs.cons _ _ _ _ _ _ (MS.put (k := 0) (ME.v 0) (ME.pu fun _ => (E.v 1)) tx.na_Focus_scene)
    (@MSs.cons _ _ _ _ _ _ (MS.put (k := 0) (ME.v 0) (ME.pu fun _ => E.non) tx.na_Focus_fence)
    (@MSs.one _ _ _ _ (MS.put (k := 0) (ME.v 0) (ME.pu fun _ => E.non) tx.na_Focus_keyed))))
theorem sc_qpainted : FnScope ["_law_scene_here", "_law_around", "_law_found", "_law_box_here"] ["_law_scene_here", "_law_around"] (defScope s_qpainted) := ⟨rfl, rfl, rfl, by decide +kernel, rfl, by decide +kernel, by decide +kernel⟩
noncomputable def g_qpainted (fn_qpainted : PFn) : En → Option Out :=
  (sSeq (sSet 2 (oE (fun η => (aN η).bind gL)))
    (sSeq (sFor (lI asTu (eV 0)) (tgN 3)
    (sIf (bT (l2 pEq (l2 pIx (eV 3) (eC (.int 1))) (eV 1))) (sSet 2 (l2 pAdd (l2 pAdd (eV 2) (oE (fun η => ((aC (l2 pIx (eV 3) (eC (.int 0))) aN) η).bind gL))) (lA fn_qpainted (aC (eV 0) (aC (l2 pIx (eV 3) (eC (.int 0))) aN))))) sNx))
    (sRet (eV 2))))
theorem ok_qpainted {k : Nat} (tx : Tx K mg t) {k_qpainted : Nat} {fn_qpainted : PFn} (G_qpainted : FnOk Pr w K mg base CX0 k_qpainted t._law_painted t.d_qpainted ["_law_scene_here", "_law_around"] (spP K fn_qpainted)) (hk_qpainted : k_qpainted ≤ k) : FnOk Pr w K mg base CX0 (k + 1) t._law_painted t.d_qpainted ["_law_scene_here", "_law_around"] (spP K (runF 2 4 (g_qpainted fn_qpainted))) :=
  fnP tx.F_qpainted sc_qpainted fun _ _ _ _ _ _ _ hr =>
    (@Ss.cons _ _ _ _ _ _ (S.set 2 sc_qpainted.nd (EO.toE (EO.lst A.nil)))
    (@Ss.cons _ _ _ _ _ _ (@S.for _ _ _ _ _ _ _ _ _ _ _ PassesOwn.never rfl (I.tup (E.v 0)) (pg_name (i := 3) sc_qpainted.nd rfl (by first | exact Or.inl rfl | exact Or.inr rfl) ) (TgP.name (i := 3))
    (@Ss.one _ _ _ _ (@S.ifS _ _ _ _ _ _ _ _ _ (T.eq hr (E.at (E.v 3) E.int) (E.v 1)) (@Ss.one _ _ _ _ (S.set 2 sc_qpainted.nd (E.add (E.add (E.v 2) (EO.toE (EO.lst (A.cons (E.at (E.v 3) E.int) A.nil)))) (E.call G_qpainted hr (by omega) tx.m_qpainted tx.F_qpainted.kp tx.b_qpainted (A.cons (E.v 0) (A.cons (E.at (E.v 3) E.int) A.nil)))))) Ss.nil)) (fun _ => rfl))
    (@Ss.one _ _ _ _ (S.ret (E.v 2)))))
noncomputable abbrev N_qbox : List Str := ["_law_scene_here", "_law_name"]
theorem sc_qbox : FnScope ["_law_scene_here", "_law_name"] ["_law_scene_here", "_law_name"] (defScope s_qbox) := ⟨rfl, rfl, rfl, by decide +kernel, rfl, by decide +kernel, by decide +kernel⟩
noncomputable def g_qbox  : En → Option Out :=
  (sRet (l2 pIx (oE (sComp [none, some 1] (lI asTu (eV 0)) (tgN 0) (bT (l2 pEq (l2 pIx (eV 0) (eC (.int 0))) (eV 1))) (eV 0))) (eC (.int 0))))
theorem ok_qbox {k : Nat} (tx : Tx K mg t)  : FnOk Pr w K mg base CX0 (k + 1) t._law_box t.d_qbox ["_law_scene_here", "_law_name"] (spP K (runF 2 2 (g_qbox))) :=
  fnP tx.F_qbox sc_qbox fun _ _ _ _ _ _ _ hr =>
    (@Ss.one _ _ _ _ (S.ret (E.at (EO.toE (EO.comp (N' := ["_law_box_here", "_law_name"]) (mp := [none, some 1]) rfl (CompSc.of' N_qbox (defScope s_qbox) rfl rfl (by decide +kernel)) (TgP.name (i := 0)) (by decide) (I.tup (E.v 0)) (fun _ _ _ => ⟨(pg_name (i := 0) (show (["_law_box_here", "_law_name"] : List Str).Nodup by decide +kernel) rfl (Or.inl rfl) (.inr rfl)), (Ts.one (T.eq hr (E.at (E.v 0) E.int) (E.v 1))), (E.v 0)⟩))) E.int)))
theorem sc_qpath : FnScope ["_law_scene_here", "_law_name", "_law_found"] ["_law_scene_here", "_law_name"] (defScope s_qpath) := ⟨rfl, rfl, rfl, by decide +kernel, rfl, by decide +kernel, by decide +kernel⟩
noncomputable def g_qpath (fn_qbox : PFn) : En → Option Out :=
  (sSeq (sSet 2 (oE (fun η => ((aC (eV 1) aN) η).bind gL)))
    (sSeq (sWh (bT (l2 pNe (l2 pIx (lA fn_qbox (aC (eV 0) (aC (l2 pIx (eV 2) (eC (.int 0))) aN))) (eC (.int 1))) (eC (.str "")))) (sSet 2 (l2 pAdd (oE (fun η => ((aC (l2 pIx (lA fn_qbox (aC (eV 0) (aC (l2 pIx (eV 2) (eC (.int 0))) aN))) (eC (.int 1))) aN) η).bind gL)) (eV 2))) 13)
    (sRet (eV 2))))
theorem ok_qpath {k : Nat} (tx : Tx K mg t) {k_qbox : Nat} {fn_qbox : PFn} (G_qbox : FnOk Pr w K mg base CX0 k_qbox t._law_box t.d_qbox ["_law_scene_here", "_law_name"] (spP K fn_qbox)) (hk_qbox : k_qbox ≤ k) : FnOk Pr w K mg base CX0 (k + 1) t._law_path t.d_qpath ["_law_scene_here", "_law_name"] (spP K (runF 2 3 (g_qpath fn_qbox))) :=
  fnP tx.F_qpath sc_qpath fun _ _ _ _ _ _ _ hr =>
    (@Ss.cons _ _ _ _ _ _ (S.set 2 sc_qpath.nd (EO.toE (EO.lst (A.cons (E.v 1) A.nil))))
    (@Ss.cons _ _ _ _ _ _ (S.while 13 PassesOwn.never (T.ne hr (E.at (E.call G_qbox hr (by omega) tx.m_qbox tx.F_qbox.kp tx.b_qbox (A.cons (E.v 0) (A.cons (E.at (E.v 2) E.int) A.nil))) E.int) E.str) (@Ss.one _ _ _ _ (S.set 2 sc_qpath.nd (E.add (EO.toE (EO.lst (A.cons (E.at (E.call G_qbox hr (by omega) tx.m_qbox tx.F_qbox.kp tx.b_qbox (A.cons (E.v 0) (A.cons (E.at (E.v 2) E.int) A.nil))) E.int) A.nil))) (E.v 2)))))
    (@Ss.one _ _ _ _ (S.ret (E.v 2)))))
noncomputable abbrev N_qorder : List Str := ["_law_scene_here", "_law_fence", "_law_found", "_law_name", "_law_path_here", "_law_hidden"]
theorem sc_qorder : FnScope ["_law_scene_here", "_law_fence", "_law_found", "_law_name", "_law_path_here", "_law_hidden"] ["_law_scene_here", "_law_fence"] (defScope s_qorder) := ⟨rfl, rfl, rfl, by decide +kernel, rfl, by decide +kernel, by decide +kernel⟩
noncomputable def g_qorder (fn_qpainted : PFn) (fn_qpath : PFn) (fn_qbox : PFn) : En → Option Out :=
  (sSeq (sSetO 2 (fun η => (aN η).bind gL))
    (sSeq (sFor (lI asL (lA fn_qpainted (aC (eV 0) (aC (eC (.str "")) aN)))) (tgN 3)
    (sSeq (sSet 4 (lA fn_qpath (aC (eV 0) (aC (eV 3) aN))))
    (sSeq (sSetO 5 (sComp [none, some 0] (lI asL (eV 4)) (tgN 0) (bT (l2 (pIn false) (eC (.str "h")) (l2 pIx (lA fn_qbox (aC (eV 1) (aC (eV 0) aN))) (eC (.int 6))))) (eV 0)))
    (fun η => (sIf (bAnd (bT (l2 (pIn false) (eC (.str "f")) (l2 pIx (lA fn_qbox (aC (eV 0) (aC (eV 3) aN))) (eC (.int 6))))) (bAnd (bT (l2 pEq (eV 5) (oE (fun η => (aN η).bind gL)))) (bOr (bT (l2 (pIsN false) (eV 1) (eC .none))) (bT (l2 (pIn false) (eV 1) (eV 4)))))) (sApp 2 (eV 3)) sNx) (frz 5 η)))))
    (sRetO 2)))
theorem ok_qorder {k : Nat} (tx : Tx K mg t) {k_qpainted : Nat} {fn_qpainted : PFn} (G_qpainted : FnOk Pr w K mg base CX0 k_qpainted t._law_painted t.d_qpainted ["_law_scene_here", "_law_around"] (spP K fn_qpainted)) (hk_qpainted : k_qpainted ≤ k) {k_qpath : Nat} {fn_qpath : PFn} (G_qpath : FnOk Pr w K mg base CX0 k_qpath t._law_path t.d_qpath ["_law_scene_here", "_law_name"] (spP K fn_qpath)) (hk_qpath : k_qpath ≤ k) {k_qbox : Nat} {fn_qbox : PFn} (G_qbox : FnOk Pr w K mg base CX0 k_qbox t._law_box t.d_qbox ["_law_scene_here", "_law_name"] (spP K fn_qbox)) (hk_qbox : k_qbox ≤ k) : FnOk Pr w K mg base CX0 (k + 1) t._law_order t.d_qorder ["_law_scene_here", "_law_fence"] (spP K (runF 2 6 (g_qorder fn_qpainted fn_qpath fn_qbox))) :=
  fnP tx.F_qorder sc_qorder fun _ _ _ _ _ _ _ hr =>
    (@Ss.cons _ _ _ _ _ _ (S.setO 2 sc_qorder.nd (EO.lst A.nil))
    (@Ss.cons _ _ _ _ _ _ (@S.for _ _ _ _ _ _ _ _ _ _ _ PassesOwn.never rfl (I.list (E.call G_qpainted hr (by omega) tx.m_qpainted tx.F_qpainted.kp tx.b_qpainted (A.cons (E.v 0) (A.cons E.str A.nil)))) (pg_name (i := 3) sc_qorder.nd rfl (by first | exact Or.inl rfl | exact Or.inr rfl) ) (TgP.name (i := 3))
    (@Ss.cons _ _ _ _ _ _ (S.set 4 sc_qorder.nd (E.call G_qpath hr (by omega) tx.m_qpath tx.F_qpath.kp tx.b_qpath (A.cons (E.v 0) (A.cons (E.v 3) A.nil))))
    (@Ss.cons _ _ _ _ _ _ (S.setC 5 (N' := ["_law_one", "_law_scene_here"]) (mp := [none, some 0]) rfl sc_qorder.nd (CompSc.of' N_qorder (defScope s_qorder) rfl rfl (by decide +kernel)) (TgP.name (i := 0)) (by decide) (I.list (E.v 4)) (fun _ _ _ => ⟨(pg_name (i := 0) (show (["_law_one", "_law_scene_here"] : List Str).Nodup by decide +kernel) rfl (Or.inl rfl) (.inr rfl)), (Ts.one (T.in E.str (E.at (E.call G_qbox hr (by omega) tx.m_qbox tx.F_qbox.kp tx.b_qbox (A.cons (E.v 1) (A.cons (E.v 0) A.nil))) E.int))), (E.v 0)⟩))
    (@Ss.frz _ _ _ _ 5 (@Ss.one _ _ _ _ (@S.ifS _ _ _ _ _ _ _ _ _ (TW.t (TW.and (T.in E.str (E.at (E.call G_qbox hr (by omega) tx.m_qbox tx.F_qbox.kp tx.b_qbox (A.cons (E.v 0) (A.cons (E.v 3) A.nil))) E.int)) (TW.and (T.eq hr (E.v 5) (EO.toE (EO.lst A.nil))) (TW.and1 (TW.t (TW.or (T.isN (E.v 1) E.non) (TW.or1 (T.in (E.v 1) (E.v 4))))))))) (@Ss.one _ _ _ _ (S.app 2 (E.v 3))) Ss.nil))))) (fun _ => rfl))
    (@Ss.one _ _ _ _ (S.retO 2))))
noncomputable abbrev N_qgoes_on : List Str := ["_law_before", "_law_now", "_law_name", "_law_at"]
theorem sc_qgoes_on : FnScope ["_law_before", "_law_now", "_law_name", "_law_at"] ["_law_before", "_law_now", "_law_name"] (defScope s_qgoes_on) := ⟨rfl, rfl, rfl, by decide +kernel, rfl, by decide +kernel, by decide +kernel⟩
noncomputable def g_qgoes_on  : En → Option Out :=
  (sSeq (sIf (bOr (bT (l2 (pIsN false) (eV 2) (eC .none))) (bT (l2 (pIn false) (eV 2) (eV 1)))) (sRet (eV 2)) sNx)
    (sSeq (sSet 3 (l2 pIdx (eV 0) (eV 2)))
    (sRet (l2 pIx (l2 pAdd (l2 pAdd (oE (sComp [none, some 1] (lI asL (l2 pAdd (eSl (eV 0) (pS (eV 3)) pN) (eSl (eV 0) pN (pS (eV 3))))) (tgN 0) (bT (l2 (pIn false) (eV 0) (eV 1))) (eV 0))) (eV 1)) (oE (fun η => ((aC (eC .none) aN) η).bind gL))) (eC (.int 0))))))
theorem ok_qgoes_on {k : Nat} (tx : Tx K mg t)  : FnOk Pr w K mg base CX0 (k + 1) t._law_goes_on t.d_qgoes_on ["_law_before", "_law_now", "_law_name"] (spP K (runF 3 4 (g_qgoes_on))) :=
  fnP tx.F_qgoes_on sc_qgoes_on fun _ _ _ _ _ _ _ hr =>
    (@Ss.cons _ _ _ _ _ _ (@S.ifS _ _ _ _ _ _ _ _ _ (TW.t (TW.or (T.isN (E.v 2) E.non) (TW.or1 (T.in (E.v 2) (E.v 1))))) (@Ss.one _ _ _ _ (S.ret (E.v 2))) Ss.nil)
    (@Ss.cons _ _ _ _ _ _ (S.set 3 sc_qgoes_on.nd (E.index (E.v 0) (E.v 2)))
    (@Ss.one _ _ _ _ (S.ret (E.at (E.add (E.add (EO.toE (EO.comp (N' := ["_law_one", "_law_now"]) (mp := [none, some 1]) rfl (CompSc.of' N_qgoes_on (defScope s_qgoes_on) rfl rfl (by decide +kernel)) (TgP.name (i := 0)) (by decide) (I.list (E.add (E.sl (E.v 0) (P.some (E.v 3)) P.none) (E.sl (E.v 0) P.none (P.some (E.v 3))))) (fun _ _ _ => ⟨(pg_name (i := 0) (show (["_law_one", "_law_now"] : List Str).Nodup by decide +kernel) rfl (Or.inl rfl) (.inr rfl)), (Ts.one (T.in (E.v 0) (E.v 1))), (E.v 0)⟩))) (E.v 1)) (EO.toE (EO.lst (A.cons E.non A.nil)))) E.int)))))
theorem sc_X_now : FnScope ["self"] ["self"] (defScope s_X_now) := ⟨rfl, rfl, rfl, by decide +kernel, rfl, by decide +kernel, by decide +kernel⟩
noncomputable def g_X_now  : Wd → Option MOut :=
  (mRet (mP (eFld 0 "keyed")))
theorem ok_X_now {k : Nat} (tx : Tx K mg t)  : FnOk Pr w K mg base CX0 (k + 1) t.X_now t.d_X_now ["self"] (spM K (cl t) (runM 1 1 (g_X_now))) :=
  fnM tx.F_X_now sc_X_now fun _ _ _ _ _ _ hr =>
    (@MSs.one _ _ _ _ (MS.ret (ME.pu fun _ => (E.fld 0))))
noncomputable abbrev N_children : List Str := ["scene", "name"]
theorem sc_children : FnScope ["scene", "name"] ["scene", "name"] (defScope s_children) := ⟨rfl, rfl, rfl, by decide +kernel, rfl, by decide +kernel, by decide +kernel⟩
noncomputable def g_children  : En → Option Out :=
  (sRet (oE (sComp [none, some 1] (lI asTu (eV 0)) (tgN 0) (bT (l2 pEq (l2 pIx (eV 0) (eC (.int 1))) (eV 1))) (l2 pIx (eV 0) (eC (.int 0))))))
theorem ok_children {k : Nat} (tx : Tx K mg t)  : FnOk Pr w K mg base CX0 (k + 1) t.children t.d_children ["scene", "name"] (spP K (runF 2 2 (g_children))) :=
  fnP tx.F_children sc_children fun _ _ _ _ _ _ _ hr =>
    (@Ss.one _ _ _ _ (S.ret (EO.toE (EO.comp (N' := ["box", "name"]) (mp := [none, some 1]) rfl (CompSc.of' N_children (defScope s_children) rfl rfl (by decide +kernel)) (TgP.name (i := 0)) (by decide) (I.tup (E.v 0)) (fun _ _ _ => ⟨(pg_name (i := 0) (show (["box", "name"] : List Str).Nodup by decide +kernel) rfl (Or.inl rfl) (.inr rfl)), (Ts.one (T.eq hr (E.at (E.v 0) (E.globI tx.c_AROUND)) (E.v 1))), (E.at (E.v 0) (E.globI tx.c_NAME))⟩)))))
theorem sc_box_of : FnScope ["scene", "name", "box"] ["scene", "name"] (defScope s_box_of) := ⟨rfl, rfl, rfl, by decide +kernel, rfl, by decide +kernel, by decide +kernel⟩
noncomputable def g_box_of  : En → Option Out :=
  (sSeq (sFor (lI asTu (eV 0)) (tgN 2)
    (sIf (bT (l2 pEq (l2 pIx (eV 2) (eC (.int 0))) (eV 1))) (sRet (eV 2)) sNx))
    (fun _ => none))
theorem ok_box_of {k : Nat} (tx : Tx K mg t)  : FnOk Pr w K mg base CX0 (k + 1) t.box_of t.d_box_of ["scene", "name"] (spP K (runF 2 3 (g_box_of))) :=
  fnP tx.F_box_of sc_box_of fun _ _ _ _ _ _ _ hr =>
    (@Ss.cons _ _ _ _ _ _ (@S.for _ _ _ _ _ _ _ _ _ _ _ PassesOwn.never rfl (I.tup (E.v 0)) (pg_name (i := 2) sc_box_of.nd rfl (by first | exact Or.inl rfl | exact Or.inr rfl) ) (TgP.name (i := 2))
    (@Ss.one _ _ _ _ (@S.ifS _ _ _ _ _ _ _ _ _ (T.eq hr (E.at (E.v 2) (E.globI tx.c_NAME)) (E.v 1)) (@Ss.one _ _ _ _ (S.ret (E.v 2))) Ss.nil)) (fun _ => rfl))
    (@Ss.one _ _ _ _ S.never))
noncomputable def gx_box_of  : En → Option Nat :=
  (xSeq (sFor (lI asTu (eV 0)) (tgN 2)
    (sIf (bT (l2 pEq (l2 pIx (eV 2) (eC (.int 0))) (eV 1))) (sRet (eV 2)) sNx))
    (fun η => if (fun η => pYes η && pRep (eV 1) η) η = true then some 0 else none))
theorem okx_box_of {k : Nat} (tx : Tx K mg t)  : FnOk Pr w K mg base (CXX Pr w) (k + 1) t.box_of t.d_box_of ["scene", "name"] (spX K (ca t) (runX 2 3 (gx_box_of))) :=
  fnX tx.F_box_of sc_box_of fun _ _ _ _ _ _ _ _ hr hx hm =>
    (SsX.cons (S.nx (@S.for _ _ _ _ _ _ _ _ _ _ _ PassesOwn.never rfl (I.tup (E.v 0)) (pg_name (i := 2) sc_box_of.nd rfl (by first | exact Or.inl rfl | exact Or.inr rfl) ) (TgP.name (i := 2))
    (@Ss.one _ _ _ _ (@S.ifS _ _ _ _ _ _ _ _ _ (T.eq hr (E.at (E.v 2) (E.globI tx.c_NAME)) (E.v 1)) (@Ss.one _ _ _ _ (S.ret (E.v 2))) Ss.nil)) (fun _ => rfl)))
    (SsX.one (SX.raise 0 hm rfl tx.m_NoBox (tx.refs.xc 0 (by decide)).ex (EA.js2 (ES.lit (by decide)) (ES.repr (E.v 1))))))
theorem sc_below : FnScope ["scene", "name", "names", "child"] ["scene", "name"] (defScope s_below) := ⟨rfl, rfl, rfl, by decide +kernel, rfl, by decide +kernel, by decide +kernel⟩
noncomputable def g_below (fn_box_of : PFn) (fn_children : PFn) (fn_below : PFn) : En → Option Out :=
  (sSeq (sSetO 2 (fun η => ((aC (l2 pIx (lA fn_box_of (aC (eV 0) (aC (eV 1) aN))) (eC (.int 0))) aN) η).bind gL))
    (sSeq (sFor (lI asL (lA fn_children (aC (eV 0) (aC (eV 1) aN)))) (tgN 3)
    (sExt 2 (lI asL (lA fn_below (aC (eV 0) (aC (eV 3) aN))))))
    (sRetO 2)))
theorem ok_below {k : Nat} (tx : Tx K mg t) {k_box_of : Nat} {fn_box_of : PFn} (G_box_of : FnOk Pr w K mg base CX0 k_box_of t.box_of t.d_box_of ["scene", "name"] (spP K fn_box_of)) (hk_box_of : k_box_of ≤ k) {k_children : Nat} {fn_children : PFn} (G_children : FnOk Pr w K mg base CX0 k_children t.children t.d_children ["scene", "name"] (spP K fn_children)) (hk_children : k_children ≤ k) {k_below : Nat} {fn_below : PFn} (G_below : FnOk Pr w K mg base CX0 k_below t.below t.d_below ["scene", "name"] (spP K fn_below)) (hk_below : k_below ≤ k) : FnOk Pr w K mg base CX0 (k + 1) t.below t.d_below ["scene", "name"] (spP K (runF 2 4 (g_below fn_box_of fn_children fn_below))) :=
  fnP tx.F_below sc_below fun _ _ _ _ _ _ _ hr =>
    (@Ss.cons _ _ _ _ _ _ (S.setO 2 sc_below.nd (EO.lst (A.cons (E.at (E.call G_box_of hr (by omega) tx.m_box_of tx.F_box_of.kp tx.b_box_of (A.cons (E.v 0) (A.cons (E.v 1) A.nil))) (E.globI tx.c_NAME)) A.nil)))
    (@Ss.cons _ _ _ _ _ _ (@S.for _ _ _ _ _ _ _ _ _ _ _ PassesOwn.never rfl (I.list (E.call G_children hr (by omega) tx.m_children tx.F_children.kp tx.b_children (A.cons (E.v 0) (A.cons (E.v 1) A.nil)))) (pg_name (i := 3) sc_below.nd rfl (by first | exact Or.inl rfl | exact Or.inr rfl) ) (TgP.name (i := 3))
    (@Ss.one _ _ _ _ (S.ext 2 (E.call G_below hr (by omega) tx.m_below tx.F_below.kp tx.b_below (A.cons (E.v 0) (A.cons (E.v 3) A.nil))))) (fun _ => rfl))
    (@Ss.one _ _ _ _ (S.retO 2))))
theorem sc_painted : FnScope ["scene", "names", "name"] ["scene"] (defScope s_painted) := ⟨rfl, rfl, rfl, by decide +kernel, rfl, by decide +kernel, by decide +kernel⟩
noncomputable def g_painted (fn_children : PFn) (fn_below : PFn) : En → Option Out :=
  (sSeq (sSetO 1 (fun η => (aN η).bind gL))
    (sSeq (sFor (lI asL (lA fn_children (aC (eV 0) (aC (eC (.str "")) aN)))) (tgN 2)
    (sExt 1 (lI asL (lA fn_below (aC (eV 0) (aC (eV 2) aN))))))
    (sRetO 1)))
theorem ok_painted {k : Nat} (tx : Tx K mg t) {k_children : Nat} {fn_children : PFn} (G_children : FnOk Pr w K mg base CX0 k_children t.children t.d_children ["scene", "name"] (spP K fn_children)) (hk_children : k_children ≤ k) {k_below : Nat} {fn_below : PFn} (G_below : FnOk Pr w K mg base CX0 k_below t.below t.d_below ["scene", "name"] (spP K fn_below)) (hk_below : k_below ≤ k) : FnOk Pr w K mg base CX0 (k + 1) t.painted t.d_painted ["scene"] (spP K (runF 1 3 (g_painted fn_children fn_below))) :=
  fnP tx.F_painted sc_painted fun _ _ _ _ _ _ _ hr =>
    (@Ss.cons _ _ _ _ _ _ (S.setO 1 sc_painted.nd (EO.lst A.nil))
    (@Ss.cons _ _ _ _ _ _ (@S.for _ _ _ _ _ _ _ _ _ _ _ PassesOwn.never rfl (I.list (E.call G_children hr (by omega) tx.m_children tx.F_children.kp tx.b_children (A.cons (E.v 0) (A.cons E.str A.nil)))) (pg_name (i := 2) sc_painted.nd rfl (by first | exact Or.inl rfl | exact Or.inr rfl) ) (TgP.name (i := 2))
    (@Ss.one _ _ _ _ (S.ext 1 (E.call G_below hr (by omega) tx.m_below tx.F_below.kp tx.b_below (A.cons (E.v 0) (A.cons (E.v 2) A.nil))))) (fun _ => rfl))
    (@Ss.one _ _ _ _ (S.retO 1))))
theorem sc_has_mark : FnScope ["scene", "name", "mark"] ["scene", "name", "mark"] (defScope s_has_mark) := ⟨rfl, rfl, rfl, by decide +kernel, rfl, by decide +kernel, by decide +kernel⟩
noncomputable def g_has_mark (fn_box_of : PFn) : En → Option Out :=
  (sRet (l2 (pIn false) (eV 2) (l2 pIx (lA fn_box_of (aC (eV 0) (aC (eV 1) aN))) (eC (.int 6)))))
theorem ok_has_mark {k : Nat} (tx : Tx K mg t) {k_box_of : Nat} {fn_box_of : PFn} (G_box_of : FnOk Pr w K mg base CX0 k_box_of t.box_of t.d_box_of ["scene", "name"] (spP K fn_box_of)) (hk_box_of : k_box_of ≤ k) : FnOk Pr w K mg base CX0 (k + 1) t.has_mark t.d_has_mark ["scene", "name", "mark"] (spP K (runF 3 3 (g_has_mark fn_box_of))) :=
  fnP tx.F_has_mark sc_has_mark fun _ _ _ _ _ _ _ hr =>
    (@Ss.one _ _ _ _ (S.ret (E.in (E.v 2) (E.at (E.call G_box_of hr (by omega) tx.m_box_of tx.F_box_of.kp tx.b_box_of (A.cons (E.v 0) (A.cons (E.v 1) A.nil))) (E.globI tx.c_MARKS)))))
theorem sc_path_of : FnScope ["scene", "name", "around"] ["scene", "name"] (defScope s_path_of) := ⟨rfl, rfl, rfl, by decide +kernel, rfl, by decide +kernel, by decide +kernel⟩
noncomputable def g_path_of (fn_box_of : PFn) (fn_path_of : PFn) : En → Option Out :=
  (sSeq (sSet 2 (l2 pIx (lA fn_box_of (aC (eV 0) (aC (eV 1) aN))) (eC (.int 1))))
    (sSeq (sIf (bT (l2 pEq (eV 2) (eC (.str "")))) (sRet (oE (fun η => ((aC (eV 1) aN) η).bind gL))) sNx)
    (sRet (l2 pAdd (lA fn_path_of (aC (eV 0) (aC (eV 2) aN))) (oE (fun η => ((aC (eV 1) aN) η).bind gL))))))
theorem ok_path_of {k : Nat} (tx : Tx K mg t) {k_box_of : Nat} {fn_box_of : PFn} (G_box_of : FnOk Pr w K mg base CX0 k_box_of t.box_of t.d_box_of ["scene", "name"] (spP K fn_box_of)) (hk_box_of : k_box_of ≤ k) {k_path_of : Nat} {fn_path_of : PFn} (G_path_of : FnOk Pr w K mg base CX0 k_path_of t.path_of t.d_path_of ["scene", "name"] (spP K fn_path_of)) (hk_path_of : k_path_of ≤ k) : FnOk Pr w K mg base CX0 (k + 1) t.path_of t.d_path_of ["scene", "name"] (spP K (runF 2 3 (g_path_of fn_box_of fn_path_of))) :=
  fnP tx.F_path_of sc_path_of fun _ _ _ _ _ _ _ hr =>
    (@Ss.cons _ _ _ _ _ _ (S.set 2 sc_path_of.nd (E.at (E.call G_box_of hr (by omega) tx.m_box_of tx.F_box_of.kp tx.b_box_of (A.cons (E.v 0) (A.cons (E.v 1) A.nil))) (E.globI tx.c_AROUND)))
    (@Ss.cons _ _ _ _ _ _ (@S.ifS _ _ _ _ _ _ _ _ _ (T.eq hr (E.v 2) E.str) (@Ss.one _ _ _ _ (S.ret (EO.toE (EO.lst (A.cons (E.v 1) A.nil))))) Ss.nil)
    (@Ss.one _ _ _ _ (S.ret (E.add (E.call G_path_of hr (by omega) tx.m_path_of tx.F_path_of.kp tx.b_path_of (A.cons (E.v 0) (A.cons (E.v 2) A.nil))) (EO.toE (EO.lst (A.cons (E.v 1) A.nil))))))))
noncomputable abbrev N_is_shown : List Str := ["scene", "name"]
theorem sc_is_shown : FnScope ["scene", "name"] ["scene", "name"] (defScope s_is_shown) := ⟨rfl, rfl, rfl, by decide +kernel, rfl, by decide +kernel, by decide +kernel⟩
noncomputable def g_is_shown (fn_path_of : PFn) (fn_has_mark : PFn) : En → Option Out :=
  (sRet (vNot (lA pAny (aC (oE (sComp [none, some 0] (lI asL (lA fn_path_of (aC (eV 0) (aC (eV 1) aN)))) (tgN 0) tTrue (lA fn_has_mark (aC (eV 1) (aC (eV 0) (aC (eC (.str "h")) aN)))))) aN))))
theorem ok_is_shown {k : Nat} (tx : Tx K mg t) {k_path_of : Nat} {fn_path_of : PFn} (G_path_of : FnOk Pr w K mg base CX0 k_path_of t.path_of t.d_path_of ["scene", "name"] (spP K fn_path_of)) (hk_path_of : k_path_of ≤ k) {k_has_mark : Nat} {fn_has_mark : PFn} (G_has_mark : FnOk Pr w K mg base CX0 k_has_mark t.has_mark t.d_has_mark ["scene", "name", "mark"] (spP K fn_has_mark)) (hk_has_mark : k_has_mark ≤ k) : FnOk Pr w K mg base CX0 (k + 1) t.is_shown t.d_is_shown ["scene", "name"] (spP K (runF 2 2 (g_is_shown fn_path_of fn_has_mark))) :=
  fnP tx.F_is_shown sc_is_shown fun _ _ _ _ _ _ _ hr =>
    (@Ss.one _ _ _ _ (S.ret (E.not (E.any rfl tx.z_any (A.cons (EO.toE (EO.comp (N' := ["step", "scene"]) (mp := [none, some 0]) rfl (CompSc.of' N_is_shown (defScope s_is_shown) rfl rfl (by decide +kernel)) (TgP.name (i := 0)) (by decide) (I.list (E.call G_path_of hr (by omega) tx.m_path_of tx.F_path_of.kp tx.b_path_of (A.cons (E.v 0) (A.cons (E.v 1) A.nil)))) (fun _ _ _ => ⟨(pg_name (i := 0) (show (["step", "scene"] : List Str).Nodup by decide +kernel) rfl (Or.inl rfl) (.inr rfl)), Ts.nil, (E.call G_has_mark hr (by omega) tx.m_has_mark tx.F_has_mark.kp tx.b_has_mark (A.cons (E.v 1) (A.cons (E.v 0) (A.cons (E.globS tx.c_HIDDEN) A.nil))))⟩))) A.nil)))))
theorem sc_can_have_keys : FnScope ["scene", "name"] ["scene", "name"] (defScope s_can_have_keys) := ⟨rfl, rfl, rfl, by decide +kernel, rfl, by decide +kernel, by decide +kernel⟩
noncomputable def g_can_have_keys (fn_has_mark : PFn) (fn_is_shown : PFn) : En → Option Out :=
  (sRet (vAnd (lA fn_is_shown (aC (eV 0) (aC (eV 1) aN))) (lA fn_has_mark (aC (eV 0) (aC (eV 1) (aC (eC (.str "f")) aN))))))
theorem ok_can_have_keys {k : Nat} (tx : Tx K mg t) {k_has_mark : Nat} {fn_has_mark : PFn} (G_has_mark : FnOk Pr w K mg base CX0 k_has_mark t.has_mark t.d_has_mark ["scene", "name", "mark"] (spP K fn_has_mark)) (hk_has_mark : k_has_mark ≤ k) {k_is_shown : Nat} {fn_is_shown : PFn} (G_is_shown : FnOk Pr w K mg base CX0 k_is_shown t.is_shown t.d_is_shown ["scene", "name"] (spP K fn_is_shown)) (hk_is_shown : k_is_shown ≤ k) : FnOk Pr w K mg base CX0 (k + 1) t.can_have_keys t.d_can_have_keys ["scene", "name"] (spP K (runF 2 2 (g_can_have_keys fn_has_mark fn_is_shown))) :=
  fnP tx.F_can_have_keys sc_can_have_keys fun _ _ _ _ _ _ _ hr =>
    (@Ss.one _ _ _ _ (S.ret (E.and (E.call G_is_shown hr (by omega) tx.m_is_shown tx.F_is_shown.kp tx.b_is_shown (A.cons (E.v 0) (A.cons (E.v 1) A.nil))) (E.one (E.call G_has_mark hr (by omega) tx.m_has_mark tx.F_has_mark.kp tx.b_has_mark (A.cons (E.v 0) (A.cons (E.v 1) (A.cons (E.globS tx.c_CAN_HAVE_KEYS) A.nil))))))))
noncomputable abbrev N_X_order : List Str := ["self", "names"]
theorem sc_X_order : FnScope ["self", "names"] ["self"] (defScope s_X_order) := ⟨rfl, rfl, rfl, by decide +kernel, rfl, by decide +kernel, by decide +kernel⟩
noncomputable def g_X_order (fn_painted : PFn) (fn_below : PFn) (fn_can_have_keys : PFn) : Wd → Option MOut :=
  (mSeq (mSet 1 (mP (vIf (bT (l2 (pIsN false) (eFld 0 "fence") (eC .none))) (lA fn_painted (aC (eFld 0 "scene") aN)) (lA fn_below (aC (eFld 0 "scene") (aC (eFld 0 "fence") aN))))))
    (mRet (mP (oE (sComp [none, some 0] (lI asL (eV 1)) (tgN 0) (bT (lA fn_can_have_keys (aC (eFld 1 "scene") (aC (eV 0) aN)))) (eV 0))))))
theorem ok_X_order {k : Nat} (tx : Tx K mg t) {k_painted : Nat} {fn_painted : PFn} (G_painted : FnOk Pr w K mg base CX0 k_painted t.painted t.d_painted ["scene"] (spP K fn_painted)) (hk_painted : k_painted ≤ k) {k_below : Nat} {fn_below : PFn} (G_below : FnOk Pr w K mg base CX0 k_below t.below t.d_below ["scene", "name"] (spP K fn_below)) (hk_below : k_below ≤ k) {k_can_have_keys : Nat} {fn_can_have_keys : PFn} (G_can_have_keys : FnOk Pr w K mg base CX0 k_can_have_keys t.can_have_keys t.d_can_have_keys ["scene", "name"] (spP K fn_can_have_keys)) (hk_can_have_keys : k_can_have_keys ≤ k) : FnOk Pr w K mg base CX0 (k + 1) t.X_order t.d_X_order ["self"] (spM K (cl t) (runM 1 2 (g_X_order fn_painted fn_below fn_can_have_keys))) :=
  fnM tx.F_X_order sc_X_order fun _ _ _ _ _ _ hr =>
    (@MSs.cons _ _ _ _ _ _ (MS.set 1 sc_X_order.nd (ME.pu fun _ => (E.ifE (T.isN (E.fld 0) E.non) (E.call G_painted hr (by omega) tx.m_painted tx.F_painted.kp tx.b_painted (A.cons (E.fld 0) A.nil)) (E.call G_below hr (by omega) tx.m_below tx.F_below.kp tx.b_below (A.cons (E.fld 0) (A.cons (E.fld 0) A.nil))))))
    (@MSs.one _ _ _ _ (MS.ret (ME.pu fun _ => (EO.toE (EO.comp (N' := ["name", "self"]) (mp := [none, some 0]) rfl (CompSc.of' N_X_order (defScope s_X_order) rfl rfl (by decide +kernel)) (TgP.name (i := 0)) (by decide) (I.list (E.v 1)) (fun _ _ _ => ⟨(pg_name (i := 0) (show (["name", "self"] : List Str).Nodup by decide +kernel) rfl (Or.inl rfl) (.inr rfl)), (Ts.one (T.val (E.call G_can_have_keys hr (by omega) tx.m_can_have_keys tx.F_can_have_keys.kp tx.b_can_have_keys (A.cons (E.fld 1) (A.cons (E.v 0) A.nil))))), (E.v 0)⟩)))))))
theorem sc_X_path : FnScope ["self"] ["self"] (defScope s_X_path) := ⟨rfl, rfl, rfl, by decide +kernel, rfl, by decide +kernel, by decide +kernel⟩
noncomputable def g_X_path (fn_path_of : PFn) : Wd → Option MOut :=
  (mRet (mP (vIf (bT (l2 (pIsN false) (eFld 0 "keyed") (eC .none))) (oE (fun η => (aN η).bind gL)) (lA fn_path_of (aC (eFld 0 "scene") (aC (eFld 0 "keyed") aN))))))
theorem ok_X_path {k : Nat} (tx : Tx K mg t) {k_path_of : Nat} {fn_path_of : PFn} (G_path_of : FnOk Pr w K mg base CX0 k_path_of t.path_of t.d_path_of ["scene", "name"] (spP K fn_path_of)) (hk_path_of : k_path_of ≤ k) : FnOk Pr w K mg base CX0 (k + 1) t.X_path t.d_X_path ["self"] (spM K (cl t) (runM 1 1 (g_X_path fn_path_of))) :=
  fnM tx.F_X_path sc_X_path fun _ _ _ _ _ _ hr =>
    (@MSs.one _ _ _ _ (MS.ret (ME.pu fun _ => (E.ifE (T.isN (E.fld 0) E.non) (EO.toE (EO.lst A.nil)) (E.call G_path_of hr (by omega) tx.m_path_of tx.F_path_of.kp tx.b_path_of (A.cons (E.fld 0) (A.cons (E.fld 0) A.nil)))))))
theorem sc_qstands : FnScope ["_law_focus", "_law_scene_here", "_law_fence", "_law_name"] ["_law_focus", "_law_scene_here", "_law_fence", "_law_name"] (defScope s_qstands) := ⟨rfl, rfl, rfl, by decide +kernel, rfl, by decide +kernel, by decide +kernel⟩
noncomputable def g_qstands (fn_X_now : DFn) (fn_X_order : DFn) (fn_qorder : PFn) (fn_X_path : DFn) (fn_qpath : PFn) : Wd → Option MOut :=
  (mSeq (mIf (tmOr (mB (mOpL pNe (mMeth 0 "order" fn_X_order (mV 0) maN) (mP (lA fn_qorder (aC (eV 1) (aC (eV 2) aN)))))) (mB (mOpL pNe (mMeth 0 "now" fn_X_now (mV 0) maN) (mP (eV 3))))) (mRet (mP (eC (.bool false)))) mNx)
    (mRet (mOpL pEq (mMeth 0 "path" fn_X_path (mV 0) maN) (mP (vIf (bT (l2 (pIsN false) (eV 3) (eC .none))) (oE (fun η => (aN η).bind gL)) (lA fn_qpath (aC (eV 1) (aC (eV 3) aN))))))))
theorem ok_qstands {k : Nat} (tx : Tx K mg t) {k_X_now : Nat} {fn_X_now : DFn} (G_X_now : FnOk Pr w K mg base CX0 k_X_now t.X_now t.d_X_now ["self"] (spM K (cl t) fn_X_now)) (hk_X_now : k_X_now ≤ k) {k_X_order : Nat} {fn_X_order : DFn} (G_X_order : FnOk Pr w K mg base CX0 k_X_order t.X_order t.d_X_order ["self"] (spM K (cl t) fn_X_order)) (hk_X_order : k_X_order ≤ k) {k_qorder : Nat} {fn_qorder : PFn} (G_qorder : FnOk Pr w K mg base CX0 k_qorder t._law_order t.d_qorder ["_law_scene_here", "_law_fence"] (spP K fn_qorder)) (hk_qorder : k_qorder ≤ k) {k_X_path : Nat} {fn_X_path : DFn} (G_X_path : FnOk Pr w K mg base CX0 k_X_path t.X_path t.d_X_path ["self"] (spM K (cl t) fn_X_path)) (hk_X_path : k_X_path ≤ k) {k_qpath : Nat} {fn_qpath : PFn} (G_qpath : FnOk Pr w K mg base CX0 k_qpath t._law_path t.d_qpath ["_law_scene_here", "_law_name"] (spP K fn_qpath)) (hk_qpath : k_qpath ≤ k) : FnOk Pr w K mg base CX0 (k + 1) t._law_stands t.d_qstands ["_law_focus", "_law_scene_here", "_law_fence", "_law_name"] (spM K (cl t) (runM 4 4 (g_qstands fn_X_now fn_X_order fn_qorder fn_X_path fn_qpath))) :=
  fnM tx.F_qstands sc_qstands fun _ _ _ _ _ _ hr =>
    (@MSs.cons _ _ _ _ _ _ (@MS.ifS _ _ _ _ _ _ _ _ _ (MTW.t (MTW.or (MT.ne hr (ME.meth0 (kc := 0) (ME.v 0) tx.cl_Focus tx.me_X_order G_X_order hr (by omega) tx.b_X_order) (ME.pu fun _ => (E.call G_qorder hr (by omega) tx.m_qorder tx.F_qorder.kp tx.b_qorder (A.cons (E.v 1) (A.cons (E.v 2) A.nil))))) (MTW.or1 (MT.ne hr (ME.meth0 (kc := 0) (ME.v 0) tx.cl_Focus tx.me_X_now G_X_now hr (by omega) tx.b_X_now) (ME.pu fun _ => (E.v 3)))))) (@MSs.one _ _ _ _ (MS.ret (ME.pu fun _ => E.bl))) MSs.nil)
    (@MSs.one _ _ _ _ (MS.ret (ME.eq hr (ME.meth0 (kc := 0) (ME.v 0) tx.cl_Focus tx.me_X_path G_X_path hr (by omega) tx.b_X_path) (ME.pu fun _ => (E.ifE (T.isN (E.v 3) E.non) (EO.toE (EO.lst A.nil)) (E.call G_qpath hr (by omega) tx.m_qpath tx.F_qpath.kp tx.b_qpath (A.cons (E.v 1) (A.cons (E.v 3) A.nil)))))))))
theorem sc_X_to : FnScope ["self", "name"] ["self", "name"] (defScope s_X_to) := ⟨rfl, rfl, rfl, by decide +kernel, rfl, by decide +kernel, by decide +kernel⟩
noncomputable def g_X_to (fn_X_order : DFn) : Wd → Option MOut :=
  (mSeq (mIf (mB (mOpL (pIn true) (mP (eV 1)) (mMeth 0 "order" fn_X_order (mV 0) maN))) (fun _ => none) mNx)
    (mPut 0 "keyed" (mV 0) (mP (eV 1))))
theorem ok_X_to {k : Nat} (tx : Tx K mg t) {k_X_order : Nat} {fn_X_order : DFn} (G_X_order : FnOk Pr w K mg base CX0 k_X_order t.X_order t.d_X_order ["self"] (spM K (cl t) fn_X_order)) (hk_X_order : k_X_order ≤ k) : FnOk Pr w K mg base CX0 (k + 1) t.X_to t.d_X_to ["self", "name"] (spM K (cl t) (runM 2 2 (g_X_to fn_X_order))) :=
  fnM tx.F_X_to sc_X_to fun _ _ _ _ _ _ hr =>
    (@MSs.cons _ _ _ _ _ _ (@MS.ifS _ _ _ _ _ _ _ _ _ (MT.notIn (ME.pu fun _ => (E.v 1)) (ME.meth0 (kc := 0) (ME.v 0) tx.cl_Focus tx.me_X_order G_X_order hr (by omega) tx.b_X_order)) (@MSs.one _ _ _ _ MS.never) MSs.nil)
    (@MSs.one _ _ _ _ (MS.put (k := 0) (ME.v 0) (ME.pu fun _ => (E.v 1)) tx.na_Focus_keyed)))
noncomputable def gx_X_to (fn_X_order : DFn) : MXF :=
  (mxIf (mB (mOpL (pIn true) (mP (eV 1)) (mMeth 0 "order" fn_X_order (mV 0) maN))) (mxP (fun η => if (fun η => pYes η && pRep (eV 1) η) η = true then some 0 else none)) mxNo)
theorem okx_X_to {k : Nat} (tx : Tx K mg t) {k_X_order : Nat} {fn_X_order : DFn} (G_X_order : FnOk Pr w K mg base CX0 k_X_order t.X_order t.d_X_order ["self"] (spM K (cl t) fn_X_order)) (hk_X_order : k_X_order ≤ k) : FnOk Pr w K mg base (CXX Pr w) (k + 1) t.X_to t.d_X_to ["self", "name"] (spMX K (cl t) (ca t) (runMX 2 2 (gx_X_to fn_X_order))) :=
  fnMX tx.F_X_to sc_X_to fun _ _ _ _ _ _ _ hr hx hm =>
    (MSsX.one (MSX.ifS (MT.notIn (ME.pu fun _ => (E.v 1)) (ME.meth0 (kc := 0) (ME.v 0) tx.cl_Focus tx.me_X_order G_X_order hr (by omega) tx.b_X_order)) (MSsX.one (MSX.pu fun _ => (SX.raise 0 hm rfl tx.m_NoBox (tx.refs.xc 0 (by decide)).ex (EA.js2 (ES.lit (by decide)) (ES.repr (E.v 1)))))) MSsX.no))
theorem sc_start_of : FnScope ["names", "name", "by"] ["names", "name", "by"] (defScope s_start_of) := ⟨rfl, rfl, rfl, by decide +kernel, rfl, by decide +kernel, by decide +kernel⟩
noncomputable def g_start_of  : En → Option Out :=
  (sSeq (sIf (bT (l2 (pIsN true) (eV 1) (eC .none))) (sRet (l2 pIdx (eV 0) (eV 1))) sNx)
    (sRet (vIf (bT (l2 pGt (eV 2) (eC (.int 0)))) (l1 pNeg (eC (.int 1))) (eC (.int 0)))))
theorem ok_start_of {k : Nat} (tx : Tx K mg t)  : FnOk Pr w K mg base CX0 (k + 1) t.start_of t.d_start_of ["names", "name", "by"] (spP K (runF 3 3 (g_start_of))) :=
  fnP tx.F_start_of sc_start_of fun _ _ _ _ _ _ _ hr =>
    (@Ss.cons _ _ _ _ _ _ (@S.ifS _ _ _ _ _ _ _ _ _ (T.notN (E.v 1) E.non) (@Ss.one _ _ _ _ (S.ret (E.index (E.v 0) (E.v 1)))) Ss.nil)
    (@Ss.one _ _ _ _ (S.ret (E.ifE (T.gt (E.v 2) E.int) (E.neg E.int) E.int))))
theorem sc_X_go : FnScope ["self", "by", "names", "place"] ["self", "by"] (defScope s_X_go) := ⟨rfl, rfl, rfl, by decide +kernel, rfl, by decide +kernel, by decide +kernel⟩
noncomputable def g_X_go (fn_X_order : DFn) (fn_start_of : PFn) : Wd → Option MOut :=
  (mSeq (mSet 2 (mMeth 0 "order" fn_X_order (mV 0) maN))
    (mSeq (mIf (tPv (bTr (eV 2))) (mSeq (mSet 3 (mP (l2 pAdd (lA fn_start_of (aC (eV 2) (aC (eFld 0 "keyed") (aC (eV 1) aN)))) (eV 1))))
    (mPut 0 "keyed" (mV 0) (mP (l2 pIx (eV 2) (l2 pMod (eV 3) (lA pLen (aC (eV 2) aN))))))) mNx)
    (mRet (mP (eFld 0 "keyed")))))
theorem ok_X_go {k : Nat} (tx : Tx K mg t) {k_X_order : Nat} {fn_X_order : DFn} (G_X_order : FnOk Pr w K mg base CX0 k_X_order t.X_order t.d_X_order ["self"] (spM K (cl t) fn_X_order)) (hk_X_order : k_X_order ≤ k) {k_start_of : Nat} {fn_start_of : PFn} (G_start_of : FnOk Pr w K mg base CX0 k_start_of t.start_of t.d_start_of ["names", "name", "by"] (spP K fn_start_of)) (hk_start_of : k_start_of ≤ k) : FnOk Pr w K mg base CX0 (k + 1) t.X_go t.d_X_go ["self", "by"] (spM K (cl t) (runM 2 4 (g_X_go fn_X_order fn_start_of))) :=
  fnM tx.F_X_go sc_X_go fun _ _ _ _ _ _ hr =>
    (@MSs.cons _ _ _ _ _ _ (MS.set 2 sc_X_go.nd (ME.meth0 (kc := 0) (ME.v 0) tx.cl_Focus tx.me_X_order G_X_order hr (by omega) tx.b_X_order))
    (@MSs.cons _ _ _ _ _ _ (@MS.ifS _ _ _ _ _ _ _ _ _ (MT.pu fun _ => (T.tru (E.v 2))) (@MSs.cons _ _ _ _ _ _ (MS.set 3 sc_X_go.nd (ME.pu fun _ => (E.add (E.call G_start_of hr (by omega) tx.m_start_of tx.F_start_of.kp tx.b_start_of (A.cons (E.v 2) (A.cons (E.fld 0) (A.cons (E.v 1) A.nil)))) (E.v 1))))
    (@MSs.one _ _ _ _ (MS.put (k := 0) (ME.v 0) (ME.pu fun _ => (E.at (E.v 2) (E.mod (E.v 3) (E.len tx.z_len (A.cons (E.v 2) A.nil))))) tx.na_Focus_keyed))) MSs.nil)
    (@MSs.one _ _ _ _ (MS.ret (ME.pu fun _ => (E.fld 0))))))
theorem sc_X_drop : FnScope ["self"] ["self"] (defScope s_X_drop) := ⟨rfl, rfl, rfl, by decide +kernel, rfl, by decide +kernel, by decide +kernel⟩
noncomputable def g_X_drop  : Wd → Option MOut :=
  (mPut 0 "keyed" (mV 0) (mP (eC .none)))
theorem ok_X_drop {k : Nat} (tx : Tx K mg t)  : FnOk Pr w K mg base CX0 (k + 1) t.X_drop t.d_X_drop ["self"] (spM K (cl t) (runM 1 1 (g_X_drop))) :=
  fnM tx.F_X_drop sc_X_drop fun _ _ _ _ _ _ hr =>
    (@MSs.one _ _ _ _ (MS.put (k := 0) (ME.v 0) (ME.pu fun _ => E.non) tx.na_Focus_keyed))
noncomputable abbrev N_X_settle : List Str := ["self", "heirs", "names", "able"]
theorem sc_X_settle : FnScope ["self", "heirs", "names", "able"] ["self", "heirs"] (defScope s_X_settle) := ⟨rfl, rfl, rfl, by decide +kernel, rfl, by decide +kernel, by decide +kernel⟩
noncomputable def g_X_settle (fn_X_order : DFn) : Wd → Option MOut :=
  (mSeq (mSet 2 (mMeth 0 "order" fn_X_order (mV 0) maN))
    (mIf (tPv (bAnd (bT (l2 (pIsN true) (eFld 0 "keyed") (eC .none))) (bT (l2 (pIn true) (eFld 0 "keyed") (eV 2))))) (mSeq (mSet 3 (mP (l2 pAdd (oE (sComp [none, some 2] (lI asL (eV 1)) (tgN 0) (bT (l2 (pIn false) (eV 0) (eV 1))) (eV 0))) (eV 2))))
    (mPut 0 "keyed" (mV 0) (mP (vIf (bTr (eV 3)) (l2 pIx (eV 3) (eC (.int 0))) (eC .none))))) mNx))
theorem ok_X_settle {k : Nat} (tx : Tx K mg t) {k_X_order : Nat} {fn_X_order : DFn} (G_X_order : FnOk Pr w K mg base CX0 k_X_order t.X_order t.d_X_order ["self"] (spM K (cl t) fn_X_order)) (hk_X_order : k_X_order ≤ k) : FnOk Pr w K mg base CX0 (k + 1) t.X_settle t.d_X_settle ["self", "heirs"] (spM K (cl t) (runM 2 4 (g_X_settle fn_X_order))) :=
  fnM tx.F_X_settle sc_X_settle fun _ _ _ _ _ _ hr =>
    (@MSs.cons _ _ _ _ _ _ (MS.set 2 sc_X_settle.nd (ME.meth0 (kc := 0) (ME.v 0) tx.cl_Focus tx.me_X_order G_X_order hr (by omega) tx.b_X_order))
    (@MSs.one _ _ _ _ (@MS.ifS _ _ _ _ _ _ _ _ _ (MT.pu fun _ => (TW.t (TW.and (T.notN (E.fld 0) E.non) (TW.and1 (T.notIn (E.fld 0) (E.v 2)))))) (@MSs.cons _ _ _ _ _ _ (MS.set 3 sc_X_settle.nd (ME.pu fun _ => (E.add (EO.toE (EO.comp (N' := ["name", "names"]) (mp := [none, some 2]) rfl (CompSc.of' N_X_settle (defScope s_X_settle) rfl rfl (by decide +kernel)) (TgP.name (i := 0)) (by decide) (I.list (E.v 1)) (fun _ _ _ => ⟨(pg_name (i := 0) (show (["name", "names"] : List Str).Nodup by decide +kernel) rfl (Or.inl rfl) (.inr rfl)), (Ts.one (T.in (E.v 0) (E.v 1))), (E.v 0)⟩))) (E.v 2))))
    (@MSs.one _ _ _ _ (MS.put (k := 0) (ME.v 0) (ME.pu fun _ => (E.ifE (T.tru (E.v 3)) (E.at (E.v 3) E.int) E.non)) tx.na_Focus_keyed))) MSs.nil)))
theorem sc_X_keep_in : FnScope ["self", "name"] ["self", "name"] (defScope s_X_keep_in) := ⟨rfl, rfl, rfl, by decide +kernel, rfl, by decide +kernel, by decide +kernel⟩
noncomputable def g_X_keep_in (fn_box_of : PFn) (fn_X_settle : DFn) : Wd → Option MOut :=
  (mSeq (mIf (tPv (bT (l2 (pIsN true) (eV 1) (eC .none)))) (mExp (mP (lA fn_box_of (aC (eFld 0 "scene") (aC (eV 1) aN))))) mNx)
    (mSeq (mPut 0 "fence" (mV 0) (mP (eV 1)))
    (mExp (mMeth 0 "settle" fn_X_settle (mV 0) (maC (mP (oE (fun η => (aN η).bind gL))) maN)))))
theorem ok_X_keep_in {k : Nat} (tx : Tx K mg t) {k_box_of : Nat} {fn_box_of : PFn} (G_box_of : FnOk Pr w K mg base CX0 k_box_of t.box_of t.d_box_of ["scene", "name"] (spP K fn_box_of)) (hk_box_of : k_box_of ≤ k) {k_X_settle : Nat} {fn_X_settle : DFn} (G_X_settle : FnOk Pr w K mg base CX0 k_X_settle t.X_settle t.d_X_settle ["self", "heirs"] (spM K (cl t) fn_X_settle)) (hk_X_settle : k_X_settle ≤ k) : FnOk Pr w K mg base CX0 (k + 1) t.X_keep_in t.d_X_keep_in ["self", "name"] (spM K (cl t) (runM 2 2 (g_X_keep_in fn_box_of fn_X_settle))) :=
  fnM tx.F_X_keep_in sc_X_keep_in fun _ _ _ _ _ _ hr =>
    (@MSs.cons _ _ _ _ _ _ (@MS.ifS _ _ _ _ _ _ _ _ _ (MT.pu fun _ => (T.notN (E.v 1) E.non)) (@MSs.one _ _ _ _ (MS.exp (ME.pu fun _ => (E.call G_box_of hr (by omega) tx.m_box_of tx.F_box_of.kp tx.b_box_of (A.cons (E.fld 0) (A.cons (E.v 1) A.nil)))))) MSs.nil)
    (@MSs.cons _ _ _ _ _ _ (MS.put (k := 0) (ME.v 0) (ME.pu fun _ => (E.v 1)) tx.na_Focus_fence)
    (@MSs.one _ _ _ _ (MS.exp (ME.meth (kc := 0) (ME.v 0) tx.cl_Focus tx.me_X_settle G_X_settle hr (by omega) tx.b_X_settle (MA.cons (ME.pu fun _ => (EO.toE (EO.lst A.nil))) MA.nil))))))
noncomputable def gx_X_keep_in (fx_box_of : List PyData → Option Nat) : MXF :=
  (mxIf (tPv (bT (l2 (pIsN true) (eV 1) (eC .none)))) (mxP (fun η => ((aC (eFld 0 "scene") (aC (eV 1) aN)) η).bind fx_box_of)) mxNo)
theorem okx_X_keep_in {k : Nat} (tx : Tx K mg t) {kx_box_of : Nat} {fx_box_of : List PyData → Option Nat} (GX_box_of : FnOk Pr w K mg base (CXX Pr w) kx_box_of t.box_of t.d_box_of ["scene", "name"] (spX K (ca t) fx_box_of)) (hkx_box_of : kx_box_of ≤ k) : FnOk Pr w K mg base (CXX Pr w) (k + 1) t.X_keep_in t.d_X_keep_in ["self", "name"] (spMX K (cl t) (ca t) (runMX 2 2 (gx_X_keep_in fx_box_of))) :=
  fnMX tx.F_X_keep_in sc_X_keep_in fun _ _ _ _ _ _ _ hr hx hm =>
    (MSsX.one (MSX.ifS (MT.pu fun _ => (T.notN (E.v 1) E.non)) (MSsX.one (MSX.exp (MEX.pu fun _ => (EX.call GX_box_of hx hr (by omega) tx.m_box_of tx.F_box_of.kp tx.b_box_of (A.cons (E.fld 0) (A.cons (E.v 1) A.nil)))))) MSsX.no))
theorem sc_round_behind : FnScope ["names", "name", "place"] ["names", "name"] (defScope s_round_behind) := ⟨rfl, rfl, rfl, by decide +kernel, rfl, by decide +kernel, by decide +kernel⟩
noncomputable def g_round_behind  : En → Option Out :=
  (sSeq (sIf (bT (l2 (pIsN false) (eV 1) (eC .none))) (sRet (oE (fun η => (aN η).bind gL))) sNx)
    (sSeq (sSet 2 (l2 pIdx (eV 0) (eV 1)))
    (sRet (l2 pAdd (eSl (eV 0) (pS (l2 pAdd (eV 2) (eC (.int 1)))) pN) (eSl (eV 0) pN (pS (eV 2)))))))
theorem ok_round_behind {k : Nat} (tx : Tx K mg t)  : FnOk Pr w K mg base CX0 (k + 1) t.round_behind t.d_round_behind ["names", "name"] (spP K (runF 2 3 (g_round_behind))) :=
  fnP tx.F_round_behind sc_round_behind fun _ _ _ _ _ _ _ hr =>
    (@Ss.cons _ _ _ _ _ _ (@S.ifS _ _ _ _ _ _ _ _ _ (T.isN (E.v 1) E.non) (@Ss.one _ _ _ _ (S.ret (EO.toE (EO.lst A.nil)))) Ss.nil)
    (@Ss.cons _ _ _ _ _ _ (S.set 2 sc_round_behind.nd (E.index (E.v 0) (E.v 1)))
    (@Ss.one _ _ _ _ (S.ret (E.add (E.sl (E.v 0) (P.some (E.add (E.v 2) E.int)) P.none) (E.sl (E.v 0) P.none (P.some (E.v 2))))))))
noncomputable abbrev N_has_box : List Str := ["scene", "name"]
theorem sc_has_box : FnScope ["scene", "name"] ["scene", "name"] (defScope s_has_box) := ⟨rfl, rfl, rfl, by decide +kernel, rfl, by decide +kernel, by decide +kernel⟩
noncomputable def g_has_box  : En → Option Out :=
  (sRet (lA pAny (aC (oE (sComp [none, some 1] (lI asTu (eV 0)) (tgN 0) tTrue (l2 pEq (l2 pIx (eV 0) (eC (.int 0))) (eV 1)))) aN)))
theorem ok_has_box {k : Nat} (tx : Tx K mg t)  : FnOk Pr w K mg base CX0 (k + 1) t.has_box t.d_has_box ["scene", "name"] (spP K (runF 2 2 (g_has_box))) :=
  fnP tx.F_has_box sc_has_box fun _ _ _ _ _ _ _ hr =>
    (@Ss.one _ _ _ _ (S.ret (E.any rfl tx.z_any (A.cons (EO.toE (EO.comp (N' := ["box", "name"]) (mp := [none, some 1]) rfl (CompSc.of' N_has_box (defScope s_has_box) rfl rfl (by decide +kernel)) (TgP.name (i := 0)) (by decide) (I.tup (E.v 0)) (fun _ _ _ => ⟨(pg_name (i := 0) (show (["box", "name"] : List Str).Nodup by decide +kernel) rfl (Or.inl rfl) (.inr rfl)), Ts.nil, (E.eq hr (E.at (E.v 0) (E.globI tx.c_NAME)) (E.v 1))⟩))) A.nil))))
theorem sc_X_change : FnScope ["self", "scene", "heirs"] ["self", "scene"] (defScope s_X_change) := ⟨rfl, rfl, rfl, by decide +kernel, rfl, by decide +kernel, by decide +kernel⟩
noncomputable def g_X_change (fn_round_behind : PFn) (fn_X_order : DFn) (fn_has_box : PFn) (fn_X_settle : DFn) : Wd → Option MOut :=
  (mSeq (mSet 2 (mCB fn_round_behind (maC (mMeth 0 "order" fn_X_order (mV 0) maN) (maC (mP (eFld 0 "keyed")) maN))))
    (mSeq (mPut 0 "scene" (mV 0) (mP (eV 1)))
    (mSeq (mIf (tPv (bAnd (bT (l2 (pIsN true) (eFld 0 "fence") (eC .none))) (bNot (bT (lA fn_has_box (aC (eV 1) (aC (eFld 0 "fence") aN))))))) (mPut 0 "fence" (mV 0) (mP (eC .none))) mNx)
    (mExp (mMeth 0 "settle" fn_X_settle (mV 0) (maC (mP (eV 2)) maN))))))
theorem ok_X_change {k : Nat} (tx : Tx K mg t) {k_round_behind : Nat} {fn_round_behind : PFn} (G_round_behind : FnOk Pr w K mg base CX0 k_round_behind t.round_behind t.d_round_behind ["names", "name"] (spP K fn_round_behind)) (hk_round_behind : k_round_behind ≤ k) {k_X_order : Nat} {fn_X_order : DFn} (G_X_order : FnOk Pr w K mg base CX0 k_X_order t.X_order t.d_X_order ["self"] (spM K (cl t) fn_X_order)) (hk_X_order : k_X_order ≤ k) {k_has_box : Nat} {fn_has_box : PFn} (G_has_box : FnOk Pr w K mg base CX0 k_has_box t.has_box t.d_has_box ["scene", "name"] (spP K fn_has_box)) (hk_has_box : k_has_box ≤ k) {k_X_settle : Nat} {fn_X_settle : DFn} (G_X_settle : FnOk Pr w K mg base CX0 k_X_settle t.X_settle t.d_X_settle ["self", "heirs"] (spM K (cl t) fn_X_settle)) (hk_X_settle : k_X_settle ≤ k) : FnOk Pr w K mg base CX0 (k + 1) t.X_change t.d_X_change ["self", "scene"] (spM K (cl t) (runM 2 3 (g_X_change fn_round_behind fn_X_order fn_has_box fn_X_settle))) :=
  fnM tx.F_X_change sc_X_change fun _ _ _ _ _ _ hr =>
    (@MSs.cons _ _ _ _ _ _ (MS.set 2 sc_X_change.nd (ME.callP G_round_behind hr (by omega) tx.m_round_behind tx.F_round_behind.kp tx.b_round_behind (MA.cons (ME.meth0 (kc := 0) (ME.v 0) tx.cl_Focus tx.me_X_order G_X_order hr (by omega) tx.b_X_order) (MA.cons (ME.pu fun _ => (E.fld 0)) MA.nil))))
    (@MSs.cons _ _ _ _ _ _ (MS.put (k := 0) (ME.v 0) (ME.pu fun _ => (E.v 1)) tx.na_Focus_scene)
    (@MSs.cons _ _ _ _ _ _ (@MS.ifS _ _ _ _ _ _ _ _ _ (MT.pu fun _ => (TW.t (TW.and (T.notN (E.fld 0) E.non) (TW.and1 (T.not (T.val (E.call G_has_box hr (by omega) tx.m_has_box tx.F_has_box.kp tx.b_has_box (A.cons (E.v 1) (A.cons (E.fld 0) A.nil))))))))) (@MSs.one _ _ _ _ (MS.put (k := 0) (ME.v 0) (ME.pu fun _ => E.non) tx.na_Focus_fence)) MSs.nil)
    (@MSs.one _ _ _ _ (MS.exp (ME.meth (kc := 0) (ME.v 0) tx.cl_Focus tx.me_X_settle G_X_settle hr (by omega) tx.b_X_settle (MA.cons (ME.pu fun _ => (E.v 2)) MA.nil)))))))
theorem sc_qtold : FnScope ["_law_focus", "_law_way", "_law_thing", "_law_e"] ["_law_focus", "_law_way", "_law_thing"] (defScope s_qtold) := ⟨rfl, rfl, rfl, by decide +kernel, rfl, by decide +kernel, by decide +kernel⟩
noncomputable def g_qtold (fn_X_to : DFn) (fn_X_go : DFn) (fn_X_drop : DFn) (fn_X_keep_in : DFn) (fn_X_change : DFn) (fx_X_to : List D → Sto → Option (Nat × Sto)) (fx_X_keep_in : List D → Sto → Option (Nat × Sto)) : Wd → Option MOut :=
  (mTry (mxOr (mxIf (tPv (bT (l2 pEq (eV 1) (eC (.int 0))))) (mxMeth 0 "to" fx_X_to (mV 0) (maC (mP (eV 2)) maN)) mxNo) (mxSeq (mIf (tPv (bT (l2 pEq (eV 1) (eC (.int 0))))) (mRet (mMeth 0 "to" fn_X_to (mV 0) (maC (mP (eV 2)) maN))) mNx)
    (mxSeq (mIf (tPv (bT (l2 pEq (eV 1) (eC (.int 1))))) (mRet (mMeth 0 "go" fn_X_go (mV 0) (maC (mP (eV 2)) maN))) mNx)
    (mxSeq (mIf (tPv (bT (l2 pEq (eV 1) (eC (.int 2))))) (mRet (mMeth 0 "drop" fn_X_drop (mV 0) maN)) mNx)
    (mxIf (tPv (bT (l2 pEq (eV 1) (eC (.int 3))))) (mxMeth 0 "keep_in" fx_X_keep_in (mV 0) (maC (mP (eV 2)) maN)) mxNo))))) (fun c => if c < 4 then some (refD c) else none)
    (mSeq (mIf (tPv (bT (l2 pEq (eV 1) (eC (.int 0))))) (mRet (mMeth 0 "to" fn_X_to (mV 0) (maC (mP (eV 2)) maN))) mNx)
    (mSeq (mIf (tPv (bT (l2 pEq (eV 1) (eC (.int 1))))) (mRet (mMeth 0 "go" fn_X_go (mV 0) (maC (mP (eV 2)) maN))) mNx)
    (mSeq (mIf (tPv (bT (l2 pEq (eV 1) (eC (.int 2))))) (mRet (mMeth 0 "drop" fn_X_drop (mV 0) maN)) mNx)
    (mRet (mIfx (tPv (bT (l2 pEq (eV 1) (eC (.int 3))))) (mMeth 0 "keep_in" fn_X_keep_in (mV 0) (maC (mP (eV 2)) maN)) (mMeth 0 "change" fn_X_change (mV 0) (maC (mP (eV 2)) maN))))))))
theorem ok_qtold {k : Nat} (tx : Tx K mg t) (hk_ref : 1 ≤ k) {k_X_to : Nat} {fn_X_to : DFn} (G_X_to : FnOk Pr w K mg base CX0 k_X_to t.X_to t.d_X_to ["self", "name"] (spM K (cl t) fn_X_to)) (hk_X_to : k_X_to ≤ k) {k_X_go : Nat} {fn_X_go : DFn} (G_X_go : FnOk Pr w K mg base CX0 k_X_go t.X_go t.d_X_go ["self", "by"] (spM K (cl t) fn_X_go)) (hk_X_go : k_X_go ≤ k) {k_X_drop : Nat} {fn_X_drop : DFn} (G_X_drop : FnOk Pr w K mg base CX0 k_X_drop t.X_drop t.d_X_drop ["self"] (spM K (cl t) fn_X_drop)) (hk_X_drop : k_X_drop ≤ k) {k_X_keep_in : Nat} {fn_X_keep_in : DFn} (G_X_keep_in : FnOk Pr w K mg base CX0 k_X_keep_in t.X_keep_in t.d_X_keep_in ["self", "name"] (spM K (cl t) fn_X_keep_in)) (hk_X_keep_in : k_X_keep_in ≤ k) {k_X_change : Nat} {fn_X_change : DFn} (G_X_change : FnOk Pr w K mg base CX0 k_X_change t.X_change t.d_X_change ["self", "scene"] (spM K (cl t) fn_X_change)) (hk_X_change : k_X_change ≤ k) {kx_X_to : Nat} {fx_X_to : List D → Sto → Option (Nat × Sto)} (GX_X_to : FnOk Pr w K mg base (CXX Pr w) kx_X_to t.X_to t.d_X_to ["self", "name"] (spMX K (cl t) (ca t) fx_X_to)) (hkx_X_to : kx_X_to ≤ k) {kx_X_keep_in : Nat} {fx_X_keep_in : List D → Sto → Option (Nat × Sto)} (GX_X_keep_in : FnOk Pr w K mg base (CXX Pr w) kx_X_keep_in t.X_keep_in t.d_X_keep_in ["self", "name"] (spMX K (cl t) (ca t) fx_X_keep_in)) (hkx_X_keep_in : kx_X_keep_in ≤ k) : FnOk Pr w K mg base CX0 (k + 1) t._law_told t.d_qtold ["_law_focus", "_law_way", "_law_thing"] (spM K (cl t) (runM 3 4 (g_qtold fn_X_to fn_X_go fn_X_drop fn_X_keep_in fn_X_change fx_X_to fx_X_keep_in))) :=
  fnM tx.F_qtold sc_qtold fun _ _ _ _ _ _ hr =>
    (@MSs.one _ _ _ _ (MS.tryX (fun _ _ => (@MSs.cons _ _ _ _ _ _ (@MS.ifS _ _ _ _ _ _ _ _ _ (MT.pu fun _ => (T.eq hr (E.v 1) E.int)) (@MSs.one _ _ _ _ (MS.ret (ME.meth (kc := 0) (ME.v 0) tx.cl_Focus tx.me_X_to G_X_to hr (by omega) tx.b_X_to (MA.cons (ME.pu fun _ => (E.v 2)) MA.nil)))) MSs.nil)
    (@MSs.cons _ _ _ _ _ _ (@MS.ifS _ _ _ _ _ _ _ _ _ (MT.pu fun _ => (T.eq hr (E.v 1) E.int)) (@MSs.one _ _ _ _ (MS.ret (ME.meth (kc := 0) (ME.v 0) tx.cl_Focus tx.me_X_go G_X_go hr (by omega) tx.b_X_go (MA.cons (ME.pu fun _ => (E.v 2)) MA.nil)))) MSs.nil)
    (@MSs.cons _ _ _ _ _ _ (@MS.ifS _ _ _ _ _ _ _ _ _ (MT.pu fun _ => (T.eq hr (E.v 1) E.int)) (@MSs.one _ _ _ _ (MS.ret (ME.meth0 (kc := 0) (ME.v 0) tx.cl_Focus tx.me_X_drop G_X_drop hr (by omega) tx.b_X_drop))) MSs.nil)
    (@MSs.one _ _ _ _ (MS.ret (ME.ifx (MT.pu fun _ => (T.eq hr (E.v 1) E.int)) (ME.meth (kc := 0) (ME.v 0) tx.cl_Focus tx.me_X_keep_in G_X_keep_in hr (by omega) tx.b_X_keep_in (MA.cons (ME.pu fun _ => (E.v 2)) MA.nil)) (ME.meth (kc := 0) (ME.v 0) tx.cl_Focus tx.me_X_change G_X_change hr (by omega) tx.b_X_change (MA.cons (ME.pu fun _ => (E.v 2)) MA.nil)))))))))
    (fun _ _ _ hx => (MSsX.or (MSsX.one (MSX.ifS (MT.pu fun _ => (T.eq hr (E.v 1) E.int)) (MSsX.one (MSX.ret (MEX.meth (kc := 0) (ME.v 0) tx.cl_Focus tx.me_X_to GX_X_to hx hr (by omega) tx.b_X_to (MA.cons (ME.pu fun _ => (E.v 2)) MA.nil)))) MSsX.no)) (MSsX.cons (MS.nx (@MS.ifS _ _ _ _ _ _ _ _ _ (MT.pu fun _ => (T.eq hr (E.v 1) E.int)) (@MSs.one _ _ _ _ (MS.ret (ME.meth (kc := 0) (ME.v 0) tx.cl_Focus tx.me_X_to G_X_to hr (by omega) tx.b_X_to (MA.cons (ME.pu fun _ => (E.v 2)) MA.nil)))) MSs.nil))
    (MSsX.cons (MS.nx (@MS.ifS _ _ _ _ _ _ _ _ _ (MT.pu fun _ => (T.eq hr (E.v 1) E.int)) (@MSs.one _ _ _ _ (MS.ret (ME.meth (kc := 0) (ME.v 0) tx.cl_Focus tx.me_X_go G_X_go hr (by omega) tx.b_X_go (MA.cons (ME.pu fun _ => (E.v 2)) MA.nil)))) MSs.nil))
    (MSsX.cons (MS.nx (@MS.ifS _ _ _ _ _ _ _ _ _ (MT.pu fun _ => (T.eq hr (E.v 1) E.int)) (@MSs.one _ _ _ _ (MS.ret (ME.meth0 (kc := 0) (ME.v 0) tx.cl_Focus tx.me_X_drop G_X_drop hr (by omega) tx.b_X_drop))) MSs.nil))
    (MSsX.one (MSX.ret (MEX.ifE (MT.pu fun _ => (T.eq hr (E.v 1) E.int)) (MEX.meth (kc := 0) (ME.v 0) tx.cl_Focus tx.me_X_keep_in GX_X_keep_in hx hr (by omega) tx.b_X_keep_in (MA.cons (ME.pu fun _ => (E.v 2)) MA.nil)) MEX.no))))))))
    (fun _ => (Hdl.as (i := 3) tx.m_TouchError tx.refs tx.ex_TouchError tx.mro (G_qrefused tx) ((RoomC.of hr).mono hk_ref) tx.m_qrefused tx.F_qrefused.kp tx.b_qrefused sc_qtold.nd))))
noncomputable abbrev N_qof_drawn : List Str := ["_law_script", "_law_scene_here", "_law_focus", "_law_fence", "_law_name", "_law_k", "_law_here", "_law_way", "_law_names", "_law_thing", "_law_order_here", "_law_due", "_law_at"]
theorem sc_qof_drawn : FnScope ["_law_script", "_law_scene_here", "_law_focus", "_law_fence", "_law_name", "_law_k", "_law_here", "_law_way", "_law_names", "_law_thing", "_law_order_here", "_law_due", "_law_at"] ["_law_script"] (defScope s_qof_drawn) := ⟨rfl, rfl, rfl, by decide +kernel, rfl, by decide +kernel, by decide +kernel⟩
noncomputable def g_qof_drawn (fn_qscene : PFn) (fn_X___init__ : DFn) (fn_qdrawn : PFn) (fn_qorder : PFn) (fn_qgoes_on : PFn) (fn_qstands : DFn) (fn_qtold : DFn) : Wd → Option MOut :=
  (mSeq (mSet 1 (mP (lA fn_qscene (aC (eV 0) (aC (eC (.int 0)) aN)))))
    (mSeq (mSet 2 (mMake 0 fn_X___init__ (maC (mP (eV 1)) maN)))
    (mSeq (mSet 3 (mP (eC .none)))
    (mSeq (mSet 4 (mP (eC .none)))
    (mSeq (mFor [5] (iPu (fun η => ((aC (lA pMax (aC (eC (.int 1)) (aC (lA pMin (aC (eC (.int 10)) (aC (lA pLen (aC (eV 0) aN)) aN))) aN))) aN) η).bind rng1)) (tgN 5)
    (mSeq (mSet 6 (mP (l2 pAdd (eC (.int 100)) (l2 pMul (eC (.int 9)) (eV 5)))))
    (mSeq (mSet 7 (mP (l2 pIx (oE (fun η => ((aC (eC (.int 0)) (aC (eC (.int 0)) (aC (eC (.int 1)) (aC (eC (.int 1)) (aC (eC (.int 1)) (aC (eC (.int 2)) (aC (eC (.int 3)) (aC (eC (.int 4)) aN)))))))) η).bind gL)) (lA fn_qdrawn (aC (eV 0) (aC (eV 6) (aC (eC (.int 8)) aN)))))))
    (mSeq (mSet 8 (mP (l2 pAdd (oE (sComp [none] (lI asTu (eV 1)) (tgN 0) tTrue (l2 pIx (eV 0) (eC (.int 0))))) (oE (fun η => ((aC (eC (.str "zz")) aN) η).bind gL)))))
    (mSeq (mSet 9 (mP (l2 pIx (eV 8) (lA fn_qdrawn (aC (eV 0) (aC (l2 pAdd (eV 6) (eC (.int 1))) (aC (lA pLen (aC (eV 8) aN)) aN)))))))
    (mSeq (mSet 10 (mP (lA fn_qorder (aC (eV 1) (aC (eV 3) aN)))))
    (mSeq (mSet 11 (mP (eC .none)))
    (mSeq (mIf (tPv (bAnd (bT (l2 pEq (eV 7) (eC (.int 0)))) (bT (l2 (pIn false) (eV 9) (eV 10))))) (mSet 4 (mP (eV 9))) (mIf (tPv (bOr (bT (l2 pEq (eV 7) (eC (.int 0)))) (bAnd (bT (l2 pEq (eV 7) (eC (.int 3)))) (bAnd (bT (l2 pEq (eV 9) (eC (.str "zz")))) (bT (l2 pEq (lA fn_qdrawn (aC (eV 0) (aC (l2 pAdd (eV 6) (eC (.int 2))) (aC (eC (.int 2)) aN)))) (eC (.int 0)))))))) (mSet 11 (mP (lA (fun ds => if ds.length ≤ sizeLine then some (.tuple ds) else none) (aC (eC (.str "refused")) (aC (eC (.int 0)) aN))))) (mIf (tPv (bT (l2 pEq (eV 7) (eC (.int 1))))) (mSeq (mSet 9 (mP (l2 pSub (lA fn_qdrawn (aC (eV 0) (aC (l2 pAdd (eV 6) (eC (.int 3))) (aC (eC (.int 11)) aN)))) (eC (.int 5)))))
    (mSeq (mSet 12 (mP (vIf (bT (l2 (pIsN true) (eV 4) (eC .none))) (l2 pIdx (eV 10) (eV 4)) (l2 pSub (eC (.int 0)) (lA pInt (aC (l2 pGt (eV 9) (eC (.int 0))) aN))))))
    (mSeq (mSet 4 (mP (vIf (bT (l2 pNe (eV 10) (oE (fun η => (aN η).bind gL)))) (l2 pIx (eV 10) (l2 pMod (l2 pAdd (eV 12) (eV 9)) (lA pLen (aC (eV 10) aN)))) (eC .none))))
    (mSet 11 (mP (eV 4)))))) (mIf (tPv (bT (l2 pEq (eV 7) (eC (.int 2))))) (mSet 4 (mP (eC .none))) (mIf (tPv (bT (l2 pEq (eV 7) (eC (.int 3))))) (mSeq (mSet 9 (mP (vIf (bT (l2 pEq (eV 9) (eC (.str "zz")))) (eC .none) (eV 9))))
    (mSeq (mSet 3 (mP (eV 9)))
    (mSet 4 (mP (lA fn_qgoes_on (aC (oE (fun η => ((aC (eV 4) aN) η).bind gL)) (aC (lA fn_qorder (aC (eV 1) (aC (eV 3) aN))) (aC (eV 4) aN)))))))) (mIf (tPv (bT (l2 pEq (eV 7) (eC (.int 4))))) (mSeq (mSet 9 (mP (lA fn_qscene (aC (eV 0) (aC (l2 pAdd (eC (.int 300)) (l2 pMul (eC (.int 80)) (l2 pMod (eV 5) (eC (.int 3))))) aN)))))
    (mSeq (mSet 1 (mP (eV 9)))
    (mSeq (mIf (tPv (bT (l2 (pIn true) (eV 3) (oE (sComp [none] (lI asTu (eV 1)) (tgN 0) tTrue (l2 pIx (eV 0) (eC (.int 0)))))))) (mSet 3 (mP (eC .none))) mNx)
    (mSet 4 (mP (lA fn_qgoes_on (aC (eV 10) (aC (lA fn_qorder (aC (eV 1) (aC (eV 3) aN))) (aC (eV 4) aN))))))))) mNx))))))
    (mIf (tmOr (mB (mOpL pNe (mCall fn_qtold (maC (mV 2) (maC (mP (eV 7)) (maC (mP (eV 9)) maN)))) (mP (eV 11)))) (tmNot (mB (mCall fn_qstands (maC (mV 2) (maC (mP (eV 1)) (maC (mP (eV 3)) (maC (mP (eV 4)) maN)))))))) (mRet (mP (eC (.bool false)))) mNx)))))))))
    (mRet (mP (eC (.bool true)))))))))
theorem ok_qof_drawn {k : Nat} (tx : Tx K mg t) {k_qscene : Nat} {fn_qscene : PFn} (G_qscene : FnOk Pr w K mg base CX0 k_qscene t._law_scene t.d_qscene ["_law_script", "_law_at"] (spP K fn_qscene)) (hk_qscene : k_qscene ≤ k) {k_X___init__ : Nat} {fn_X___init__ : DFn} (G_X___init__ : FnOk Pr w K mg base CX0 k_X___init__ t.X___init__ t.d_X___init__ ["self", "scene"] (spM K (cl t) fn_X___init__)) (hk_X___init__ : k_X___init__ + 1 ≤ k) {k_qdrawn : Nat} {fn_qdrawn : PFn} (G_qdrawn : FnOk Pr w K mg base CX0 k_qdrawn t._law_drawn t.d_qdrawn ["_law_script", "_law_k", "_law_many"] (spP K fn_qdrawn)) (hk_qdrawn : k_qdrawn ≤ k) {k_qorder : Nat} {fn_qorder : PFn} (G_qorder : FnOk Pr w K mg base CX0 k_qorder t._law_order t.d_qorder ["_law_scene_here", "_law_fence"] (spP K fn_qorder)) (hk_qorder : k_qorder ≤ k) {k_qgoes_on : Nat} {fn_qgoes_on : PFn} (G_qgoes_on : FnOk Pr w K mg base CX0 k_qgoes_on t._law_goes_on t.d_qgoes_on ["_law_before", "_law_now", "_law_name"] (spP K fn_qgoes_on)) (hk_qgoes_on : k_qgoes_on ≤ k) {k_qstands : Nat} {fn_qstands : DFn} (G_qstands : FnOk Pr w K mg base CX0 k_qstands t._law_stands t.d_qstands ["_law_focus", "_law_scene_here", "_law_fence", "_law_name"] (spM K (cl t) fn_qstands)) (hk_qstands : k_qstands ≤ k) {k_qtold : Nat} {fn_qtold : DFn} (G_qtold : FnOk Pr w K mg base CX0 k_qtold t._law_told t.d_qtold ["_law_focus", "_law_way", "_law_thing"] (spM K (cl t) fn_qtold)) (hk_qtold : k_qtold ≤ k) : FnOk Pr w K mg base CX0 (k + 1) t._law_of_drawn t.d_qof_drawn ["_law_script"] (spM K (cl t) (runM 1 13 (g_qof_drawn fn_qscene fn_X___init__ fn_qdrawn fn_qorder fn_qgoes_on fn_qstands fn_qtold))) :=
  fnM tx.F_qof_drawn sc_qof_drawn fun _ _ _ _ _ _ hr =>
    (@MSs.cons _ _ _ _ _ _ (MS.set 1 sc_qof_drawn.nd (ME.pu fun _ => (E.call G_qscene hr (by omega) tx.m_qscene tx.F_qscene.kp tx.b_qscene (A.cons (E.v 0) (A.cons E.int A.nil)))))
    (@MSs.cons _ _ _ _ _ _ (MS.set 2 sc_qof_drawn.nd (ME.make (kc := 0) tx.cl_Focus tx.mk_Focus G_X___init__ hr (by omega) tx.mg_Focus tx.b_X___init__ (MA.cons (ME.pu fun _ => (E.v 1)) MA.nil)))
    (@MSs.cons _ _ _ _ _ _ (MS.set 3 sc_qof_drawn.nd (ME.pu fun _ => E.non))
    (@MSs.cons _ _ _ _ _ _ (MS.set 4 sc_qof_drawn.nd (ME.pu fun _ => E.non))
    (@MSs.cons _ _ _ _ _ _ (@MS.for _ _ _ _ _ _ _ _ _ _ _ PassesOwn.never rfl (MI.pu fun _ => (I.rng1 tx.z_range (A.cons (E.max rfl tx.z_max (A.cons E.int (A.cons (E.min rfl tx.z_min (A.cons E.int (A.cons (E.len tx.z_len (A.cons (E.v 0) A.nil)) A.nil))) A.nil))) A.nil))) (pg_name (i := 5) sc_qof_drawn.nd rfl (by first | exact Or.inl rfl | exact Or.inr rfl) ) (TgP.name (i := 5))
    (@MSs.cons _ _ _ _ _ _ (MS.set 6 sc_qof_drawn.nd (ME.pu fun _ => (E.add E.int (E.mul E.int (E.v 5)))))
    (@MSs.cons _ _ _ _ _ _ (MS.set 7 sc_qof_drawn.nd (ME.pu fun _ => (E.at (EO.toE (EO.lst (A.cons E.int (A.cons E.int (A.cons E.int (A.cons E.int (A.cons E.int (A.cons E.int (A.cons E.int (A.cons E.int A.nil)))))))))) (E.call G_qdrawn hr (by omega) tx.m_qdrawn tx.F_qdrawn.kp tx.b_qdrawn (A.cons (E.v 0) (A.cons (E.v 6) (A.cons E.int A.nil)))))))
    (@MSs.cons _ _ _ _ _ _ (MS.set 8 sc_qof_drawn.nd (ME.pu fun _ => (E.add (EO.toE (EO.comp (N' := ["_law_box_here"]) (mp := [none]) rfl (CompSc.of' N_qof_drawn (defScope s_qof_drawn) rfl rfl (by decide +kernel)) (TgP.name (i := 0)) (by decide) (I.tup (E.v 1)) (fun _ _ _ => ⟨(pg_name (i := 0) (show (["_law_box_here"] : List Str).Nodup by decide +kernel) rfl (Or.inl rfl) (.inr rfl)), Ts.nil, (E.at (E.v 0) E.int)⟩))) (EO.toE (EO.lst (A.cons E.str A.nil))))))
    (@MSs.cons _ _ _ _ _ _ (MS.set 9 sc_qof_drawn.nd (ME.pu fun _ => (E.at (E.v 8) (E.call G_qdrawn hr (by omega) tx.m_qdrawn tx.F_qdrawn.kp tx.b_qdrawn (A.cons (E.v 0) (A.cons (E.add (E.v 6) E.int) (A.cons (E.len tx.z_len (A.cons (E.v 8) A.nil)) A.nil)))))))
    (@MSs.cons _ _ _ _ _ _ (MS.set 10 sc_qof_drawn.nd (ME.pu fun _ => (E.call G_qorder hr (by omega) tx.m_qorder tx.F_qorder.kp tx.b_qorder (A.cons (E.v 1) (A.cons (E.v 3) A.nil)))))
    (@MSs.cons _ _ _ _ _ _ (MS.set 11 sc_qof_drawn.nd (ME.pu fun _ => E.non))
    (@MSs.cons _ _ _ _ _ _ (@MS.ifS _ _ _ _ _ _ _ _ _ (MT.pu fun _ => (TW.t (TW.and (T.eq hr (E.v 7) E.int) (TW.and1 (T.in (E.v 9) (E.v 10)))))) (@MSs.one _ _ _ _ (MS.set 4 sc_qof_drawn.nd (ME.pu fun _ => (E.v 9)))) (@MSs.one _ _ _ _ (@MS.ifS _ _ _ _ _ _ _ _ _ (MT.pu fun _ => (TW.t (TW.or (T.eq hr (E.v 7) E.int) (TW.or1 (TW.t (TW.and (T.eq hr (E.v 7) E.int) (TW.and (T.eq hr (E.v 9) E.str) (TW.and1 (T.eq hr (E.call G_qdrawn hr (by omega) tx.m_qdrawn tx.F_qdrawn.kp tx.b_qdrawn (A.cons (E.v 0) (A.cons (E.add (E.v 6) E.int) (A.cons E.int A.nil)))) E.int))))))))) (@MSs.one _ _ _ _ (MS.set 11 sc_qof_drawn.nd (ME.pu fun _ => (E.tup (A.cons E.str (A.cons E.int A.nil)))))) (@MSs.one _ _ _ _ (@MS.ifS _ _ _ _ _ _ _ _ _ (MT.pu fun _ => (T.eq hr (E.v 7) E.int)) (@MSs.cons _ _ _ _ _ _ (MS.set 9 sc_qof_drawn.nd (ME.pu fun _ => (E.sub (E.call G_qdrawn hr (by omega) tx.m_qdrawn tx.F_qdrawn.kp tx.b_qdrawn (A.cons (E.v 0) (A.cons (E.add (E.v 6) E.int) (A.cons E.int A.nil)))) E.int)))
    (@MSs.cons _ _ _ _ _ _ (MS.set 12 sc_qof_drawn.nd (ME.pu fun _ => (E.ifE (T.notN (E.v 4) E.non) (E.index (E.v 10) (E.v 4)) (E.sub E.int (E.toInt tx.z_int (A.cons (E.gt (E.v 9) E.int) A.nil))))))
    (@MSs.cons _ _ _ _ _ _ (MS.set 4 sc_qof_drawn.nd (ME.pu fun _ => (E.ifE (T.ne hr (E.v 10) (EO.toE (EO.lst A.nil))) (E.at (E.v 10) (E.mod (E.add (E.v 12) (E.v 9)) (E.len tx.z_len (A.cons (E.v 10) A.nil)))) E.non)))
    (@MSs.one _ _ _ _ (MS.set 11 sc_qof_drawn.nd (ME.pu fun _ => (E.v 4))))))) (@MSs.one _ _ _ _ (@MS.ifS _ _ _ _ _ _ _ _ _ (MT.pu fun _ => (T.eq hr (E.v 7) E.int)) (@MSs.one _ _ _ _ (MS.set 4 sc_qof_drawn.nd (ME.pu fun _ => E.non))) (@MSs.one _ _ _ _ (@MS.ifS _ _ _ _ _ _ _ _ _ (MT.pu fun _ => (T.eq hr (E.v 7) E.int)) (@MSs.cons _ _ _ _ _ _ (MS.set 9 sc_qof_drawn.nd (ME.pu fun _ => (E.ifE (T.eq hr (E.v 9) E.str) E.non (E.v 9))))
    (@MSs.cons _ _ _ _ _ _ (MS.set 3 sc_qof_drawn.nd (ME.pu fun _ => (E.v 9)))
    (@MSs.one _ _ _ _ (MS.set 4 sc_qof_drawn.nd (ME.pu fun _ => (E.call G_qgoes_on hr (by omega) tx.m_qgoes_on tx.F_qgoes_on.kp tx.b_qgoes_on (A.cons (EO.toE (EO.lst (A.cons (E.v 4) A.nil))) (A.cons (E.call G_qorder hr (by omega) tx.m_qorder tx.F_qorder.kp tx.b_qorder (A.cons (E.v 1) (A.cons (E.v 3) A.nil))) (A.cons (E.v 4) A.nil))))))))) (@MSs.one _ _ _ _ (@MS.ifS _ _ _ _ _ _ _ _ _ (MT.pu fun _ => (T.eq hr (E.v 7) E.int)) (@MSs.cons _ _ _ _ _ _ (MS.set 9 sc_qof_drawn.nd (ME.pu fun _ => (E.call G_qscene hr (by omega) tx.m_qscene tx.F_qscene.kp tx.b_qscene (A.cons (E.v 0) (A.cons (E.add E.int (E.mul E.int (E.mod (E.v 5) E.int))) A.nil)))))
    (@MSs.cons _ _ _ _ _ _ (MS.set 1 sc_qof_drawn.nd (ME.pu fun _ => (E.v 9)))
    (@MSs.cons _ _ _ _ _ _ (@MS.ifS _ _ _ _ _ _ _ _ _ (MT.pu fun _ => (T.notIn (E.v 3) (EO.toE (EO.comp (N' := ["_law_box_here"]) (mp := [none]) rfl (CompSc.of' N_qof_drawn (defScope s_qof_drawn) rfl rfl (by decide +kernel)) (TgP.name (i := 0)) (by decide) (I.tup (E.v 1)) (fun _ _ _ => ⟨(pg_name (i := 0) (show (["_law_box_here"] : List Str).Nodup by decide +kernel) rfl (Or.inl rfl) (.inr rfl)), Ts.nil, (E.at (E.v 0) E.int)⟩))))) (@MSs.one _ _ _ _ (MS.set 3 sc_qof_drawn.nd (ME.pu fun _ => E.non))) MSs.nil)
    (@MSs.one _ _ _ _ (MS.set 4 sc_qof_drawn.nd (ME.pu fun _ => (E.call G_qgoes_on hr (by omega) tx.m_qgoes_on tx.F_qgoes_on.kp tx.b_qgoes_on (A.cons (E.v 10) (A.cons (E.call G_qorder hr (by omega) tx.m_qorder tx.F_qorder.kp tx.b_qorder (A.cons (E.v 1) (A.cons (E.v 3) A.nil))) (A.cons (E.v 4) A.nil)))))))))) MSs.nil)))))))))))
    (@MSs.one _ _ _ _ (@MS.ifS _ _ _ _ _ _ _ _ _ (MTW.t (MTW.or (MT.ne hr (ME.call G_qtold hr (by omega) tx.m_qtold tx.F_qtold.kp tx.b_qtold (MA.cons (ME.v 2) (MA.cons (ME.pu fun _ => (E.v 7)) (MA.cons (ME.pu fun _ => (E.v 9)) MA.nil)))) (ME.pu fun _ => (E.v 11))) (MTW.or1 (MT.not (MT.val (ME.call G_qstands hr (by omega) tx.m_qstands tx.F_qstands.kp tx.b_qstands (MA.cons (ME.v 2) (MA.cons (ME.pu fun _ => (E.v 1)) (MA.cons (ME.pu fun _ => (E.v 3)) (MA.cons (ME.pu fun _ => (E.v 4)) MA.nil)))))))))) (@MSs.one _ _ _ _ (MS.ret (ME.pu fun _ => E.bl))) MSs.nil))))))))) (fun _ => rfl))
    (@MSs.one _ _ _ _ (MS.ret (ME.pu fun _ => E.bl))))))))
noncomputable abbrev N_qknown_one : List Str := ["_law_scene_here", "_law_answers", "_law_name", "_law_focus"]
theorem sc_qknown_one : FnScope ["_law_scene_here", "_law_answers", "_law_name", "_law_focus"] [] (defScope s_qknown_one) := ⟨rfl, rfl, rfl, by decide +kernel, rfl, by decide +kernel, by decide +kernel⟩
noncomputable def g_qknown_one (fn_X___init__ : DFn) (fn_X_to : DFn) (fn_X_change : DFn) (fn_X_now : DFn) : Wd → Option MOut :=
  (mSeq (mSet 0 (mP (lA pTup (aC (oE (sComp [none] (lI asSg (eC (.str "dbca"))) (tgN 0) tTrue (lA (fun ds => if ds.length ≤ sizeLine then some (.tuple ds) else none) (aC (eV 0) (aC (eC (.str "")) (aC (eC (.int 0)) (aC (eC (.int 0)) (aC (eC (.int 1)) (aC (eC (.int 1)) (aC (eC (.str "f")) aN)))))))))) aN))))
    (mSeq (mSet 1 (mN (fun η => (aN η).bind gL)))
    (mSeq (mFor [2] (iPu (lI asSg (eC (.str "dbca")))) (tgN 2)
    (mSeq (mSet 3 (mMake 0 fn_X___init__ (maC (mP (eV 0)) maN)))
    (mSeq (mExp (mMeth 0 "to" fn_X_to (mV 3) (maC (mP (eV 2)) maN)))
    (mSeq (mExp (mMeth 0 "change" fn_X_change (mV 3) (maC (mP (lA pTup (aC (oE (sComp [none, some 2] (lI asTu (eV 0)) (tgN 0) (bT (l2 pNe (l2 pIx (eV 0) (eC (.int 0))) (eV 1))) (eV 0))) aN))) maN)))
    (mExp (mAppC (mV 1) (mMeth 0 "now" fn_X_now (mV 3) maN)))))))
    (mRet (mOpL pEq (mV 1) (mP (oE (fun η => ((aC (eC (.str "b")) (aC (eC (.str "c")) (aC (eC (.str "a")) (aC (eC (.str "d")) aN)))) η).bind gL))))))))
theorem ok_qknown_one {k : Nat} (tx : Tx K mg t) {k_X___init__ : Nat} {fn_X___init__ : DFn} (G_X___init__ : FnOk Pr w K mg base CX0 k_X___init__ t.X___init__ t.d_X___init__ ["self", "scene"] (spM K (cl t) fn_X___init__)) (hk_X___init__ : k_X___init__ + 1 ≤ k) {k_X_to : Nat} {fn_X_to : DFn} (G_X_to : FnOk Pr w K mg base CX0 k_X_to t.X_to t.d_X_to ["self", "name"] (spM K (cl t) fn_X_to)) (hk_X_to : k_X_to ≤ k) {k_X_change : Nat} {fn_X_change : DFn} (G_X_change : FnOk Pr w K mg base CX0 k_X_change t.X_change t.d_X_change ["self", "scene"] (spM K (cl t) fn_X_change)) (hk_X_change : k_X_change ≤ k) {k_X_now : Nat} {fn_X_now : DFn} (G_X_now : FnOk Pr w K mg base CX0 k_X_now t.X_now t.d_X_now ["self"] (spM K (cl t) fn_X_now)) (hk_X_now : k_X_now ≤ k) : FnOk Pr w K mg base CX0 (k + 1) t._law_known_one t.d_qknown_one [] (spM K (cl t) (runM 0 4 (g_qknown_one fn_X___init__ fn_X_to fn_X_change fn_X_now))) :=
  fnM tx.F_qknown_one sc_qknown_one fun _ _ _ _ _ _ hr =>
    (@MSs.cons _ _ _ _ _ _ (MS.set 0 sc_qknown_one.nd (ME.pu fun _ => (E.tuple tx.z_tuple (A.cons (EO.toE (EO.comp (N' := ["_law_name"]) (mp := [none]) rfl (CompSc.of' N_qknown_one (defScope s_qknown_one) rfl rfl (by decide +kernel)) (TgP.name (i := 0)) (by decide) (I.str E.str) (fun _ _ _ => ⟨(pg_name (i := 0) (show (["_law_name"] : List Str).Nodup by decide +kernel) rfl (Or.inl rfl) (.inr rfl)), Ts.nil, (E.tup (A.cons (E.v 0) (A.cons E.str (A.cons E.int (A.cons E.int (A.cons E.int (A.cons E.int (A.cons E.str A.nil))))))))⟩))) A.nil))))
    (@MSs.cons _ _ _ _ _ _ (MS.set 1 sc_qknown_one.nd (ME.nw fun _ => (EO.lst A.nil)))
    (@MSs.cons _ _ _ _ _ _ (@MS.for _ _ _ _ _ _ _ _ _ _ _ PassesOwn.never rfl (MI.pu fun _ => (I.str E.str)) (pg_name (i := 2) sc_qknown_one.nd rfl (by first | exact Or.inl rfl | exact Or.inr rfl) ) (TgP.name (i := 2))
    (@MSs.cons _ _ _ _ _ _ (MS.set 3 sc_qknown_one.nd (ME.make (kc := 0) tx.cl_Focus tx.mk_Focus G_X___init__ hr (by omega) tx.mg_Focus tx.b_X___init__ (MA.cons (ME.pu fun _ => (E.v 0)) MA.nil)))
    (@MSs.cons _ _ _ _ _ _ (MS.exp (ME.meth (kc := 0) (ME.v 3) tx.cl_Focus tx.me_X_to G_X_to hr (by omega) tx.b_X_to (MA.cons (ME.pu fun _ => (E.v 2)) MA.nil)))
    (@MSs.cons _ _ _ _ _ _ (MS.exp (ME.meth (kc := 0) (ME.v 3) tx.cl_Focus tx.me_X_change G_X_change hr (by omega) tx.b_X_change (MA.cons (ME.pu fun _ => (E.tuple tx.z_tuple (A.cons (EO.toE (EO.comp (N' := ["_law_box_here", "_law_name"]) (mp := [none, some 2]) rfl (CompSc.of' N_qknown_one (defScope s_qknown_one) rfl rfl (by decide +kernel)) (TgP.name (i := 0)) (by decide) (I.tup (E.v 0)) (fun _ _ _ => ⟨(pg_name (i := 0) (show (["_law_box_here", "_law_name"] : List Str).Nodup by decide +kernel) rfl (Or.inl rfl) (.inr rfl)), (Ts.one (T.ne hr (E.at (E.v 0) E.int) (E.v 1))), (E.v 0)⟩))) A.nil))) MA.nil)))
    (@MSs.one _ _ _ _ (MS.exp (ME.appC (ME.v 1) (ME.meth0 (kc := 0) (ME.v 3) tx.cl_Focus tx.me_X_now G_X_now hr (by omega) tx.b_X_now))))))) (fun _ => rfl))
    (@MSs.one _ _ _ _ (MS.ret (ME.eq hr (ME.v 1) (ME.pu fun _ => (EO.toE (EO.lst (A.cons E.str (A.cons E.str (A.cons E.str (A.cons E.str A.nil)))))))))))))
theorem sc_law : FnScope ["_law_script"] ["_law_script"] (defScope s_law) := ⟨rfl, rfl, rfl, by decide +kernel, rfl, by decide +kernel, by decide +kernel⟩
noncomputable def g_law (fn_qof_drawn : DFn) (fn_qknown_one : DFn) : Wd → Option MOut :=
  (mRet (mAnd (mCall fn_qknown_one maN) (mCall fn_qof_drawn (maC (mP (eV 0)) maN))))
theorem ok_law {k : Nat} (tx : Tx K mg t) {k_qof_drawn : Nat} {fn_qof_drawn : DFn} (G_qof_drawn : FnOk Pr w K mg base CX0 k_qof_drawn t._law_of_drawn t.d_qof_drawn ["_law_script"] (spM K (cl t) fn_qof_drawn)) (hk_qof_drawn : k_qof_drawn ≤ k) {k_qknown_one : Nat} {fn_qknown_one : DFn} (G_qknown_one : FnOk Pr w K mg base CX0 k_qknown_one t._law_known_one t.d_qknown_one [] (spM K (cl t) fn_qknown_one)) (hk_qknown_one : k_qknown_one ≤ k) : FnOk Pr w K mg base CX0 (k + 1) t.law t.d_law ["_law_script"] (spM K (cl t) (runM 1 1 (g_law fn_qof_drawn fn_qknown_one))) :=
  fnM tx.F_law sc_law fun _ _ _ _ _ _ hr =>
    (@MSs.one _ _ _ _ (MS.ret (ME.and (ME.call0 G_qknown_one hr (by omega) tx.m_qknown_one tx.F_qknown_one.kp tx.b_qknown_one) (ME.one (ME.call G_qof_drawn hr (by omega) tx.m_qof_drawn tx.F_qof_drawn.kp tx.b_qof_drawn (MA.cons (ME.pu fun _ => (E.v 0)) MA.nil))))))
noncomputable def F_qcell : PFn := runF 2 2 (g_qcell )
theorem G_qcell (tx : Tx K mg t) : FnOk Pr w K mg base CX0 1 t._law_cell t.d_qcell ["_law_script", "_law_k"] (spP K F_qcell) := ok_qcell (k := 0) tx 
noncomputable def F_qdrawn : PFn := runF 3 4 (g_qdrawn F_qcell)
theorem G_qdrawn (tx : Tx K mg t) : FnOk Pr w K mg base CX0 2 t._law_drawn t.d_qdrawn ["_law_script", "_law_k", "_law_many"] (spP K F_qdrawn) := ok_qdrawn (k := 1) tx (G_qcell tx) (by omega)
noncomputable def F_qscene : PFn := runF 2 13 (g_qscene F_qdrawn)
theorem G_qscene (tx : Tx K mg t) : FnOk Pr w K mg base CX0 3 t._law_scene t.d_qscene ["_law_script", "_law_at"] (spP K F_qscene) := ok_qscene (k := 2) tx (G_qdrawn tx) (by omega)
noncomputable def F_X___init__ : DFn := runM 2 2 (g_X___init__ )
theorem G_X___init__ (tx : Tx K mg t) : FnOk Pr w K mg base CX0 1 t.X___init__ t.d_X___init__ ["self", "scene"] (spM K (cl t) F_X___init__) := ok_X___init__ (k := 0) tx 
noncomputable def F_qpainted : Nat → PFn
  | 0 => fun _ => none
  | n + 1 => runF 2 4 (g_qpainted (F_qpainted n))
theorem G_qpainted (tx : Tx K mg t) : ∀ n : Nat, FnOk Pr w K mg base CX0 (n + 0) t._law_painted t.d_qpainted ["_law_scene_here", "_law_around"] (spP K (F_qpainted n))
  | 0 => fn0
  | n + 1 => (ok_qpainted (k := n + 0) tx (G_qpainted tx n) (by omega)).mono (by omega)
noncomputable def F_qbox : PFn := runF 2 2 (g_qbox )
theorem G_qbox (tx : Tx K mg t) : FnOk Pr w K mg base CX0 1 t._law_box t.d_qbox ["_law_scene_here", "_law_name"] (spP K F_qbox) := ok_qbox (k := 0) tx 
noncomputable def F_qpath : PFn := runF 2 3 (g_qpath F_qbox)
theorem G_qpath (tx : Tx K mg t) : FnOk Pr w K mg base CX0 2 t._law_path t.d_qpath ["_law_scene_here", "_law_name"] (spP K F_qpath) := ok_qpath (k := 1) tx (G_qbox tx) (by omega)
noncomputable def F_qorder : PFn := runF 2 6 (g_qorder (F_qpainted 13) F_qpath F_qbox)
theorem G_qorder (tx : Tx K mg t) : FnOk Pr w K mg base CX0 14 t._law_order t.d_qorder ["_law_scene_here", "_law_fence"] (spP K F_qorder) := ok_qorder (k := 13) tx (G_qpainted tx 13) (by omega) (G_qpath tx) (by omega) (G_qbox tx) (by omega)
noncomputable def F_qgoes_on : PFn := runF 3 4 (g_qgoes_on )
theorem G_qgoes_on (tx : Tx K mg t) : FnOk Pr w K mg base CX0 1 t._law_goes_on t.d_qgoes_on ["_law_before", "_law_now", "_law_name"] (spP K F_qgoes_on) := ok_qgoes_on (k := 0) tx 
noncomputable def F_X_now : DFn := runM 1 1 (g_X_now )
theorem G_X_now (tx : Tx K mg t) : FnOk Pr w K mg base CX0 1 t.X_now t.d_X_now ["self"] (spM K (cl t) F_X_now) := ok_X_now (k := 0) tx 
noncomputable def F_children : PFn := runF 2 2 (g_children )
theorem G_children (tx : Tx K mg t) : FnOk Pr w K mg base CX0 1 t.children t.d_children ["scene", "name"] (spP K F_children) := ok_children (k := 0) tx 
noncomputable def F_box_of : PFn := runF 2 3 (g_box_of )
theorem G_box_of (tx : Tx K mg t) : FnOk Pr w K mg base CX0 1 t.box_of t.d_box_of ["scene", "name"] (spP K F_box_of) := ok_box_of (k := 0) tx 
noncomputable def FX_box_of : List PyData → Option Nat := runX 2 3 (gx_box_of )
theorem GX_box_of (tx : Tx K mg t) : FnOk Pr w K mg base (CXX Pr w) 1 t.box_of t.d_box_of ["scene", "name"] (spX K (ca t) FX_box_of) := okx_box_of (k := 0) tx 
noncomputable def F_below : Nat → PFn
  | 0 => fun _ => none
  | n + 1 => runF 2 4 (g_below F_box_of F_children (F_below n))
theorem G_below (tx : Tx K mg t) : ∀ n : Nat, FnOk Pr w K mg base CX0 (n + 1) t.below t.d_below ["scene", "name"] (spP K (F_below n))
  | 0 => fn0
  | n + 1 => (ok_below (k := n + 1) tx (G_box_of tx) (by omega) (G_children tx) (by omega) (G_below tx n) (by omega)).mono (by omega)
noncomputable def F_painted : PFn := runF 1 3 (g_painted F_children (F_below 13))
theorem G_painted (tx : Tx K mg t) : FnOk Pr w K mg base CX0 15 t.painted t.d_painted ["scene"] (spP K F_painted) := ok_painted (k := 14) tx (G_children tx) (by omega) (G_below tx 13) (by omega)
noncomputable def F_has_mark : PFn := runF 3 3 (g_has_mark F_box_of)
theorem G_has_mark (tx : Tx K mg t) : FnOk Pr w K mg base CX0 2 t.has_mark t.d_has_mark ["scene", "name", "mark"] (spP K F_has_mark) := ok_has_mark (k := 1) tx (G_box_of tx) (by omega)
noncomputable def F_path_of : Nat → PFn
  | 0 => fun _ => none
  | n + 1 => runF 2 3 (g_path_of F_box_of (F_path_of n))
theorem G_path_of (tx : Tx K mg t) : ∀ n : Nat, FnOk Pr w K mg base CX0 (n + 1) t.path_of t.d_path_of ["scene", "name"] (spP K (F_path_of n))
  | 0 => fn0
  | n + 1 => (ok_path_of (k := n + 1) tx (G_box_of tx) (by omega) (G_path_of tx n) (by omega)).mono (by omega)
noncomputable def F_is_shown : PFn := runF 2 2 (g_is_shown (F_path_of 13) F_has_mark)
theorem G_is_shown (tx : Tx K mg t) : FnOk Pr w K mg base CX0 15 t.is_shown t.d_is_shown ["scene", "name"] (spP K F_is_shown) := ok_is_shown (k := 14) tx (G_path_of tx 13) (by omega) (G_has_mark tx) (by omega)
noncomputable def F_can_have_keys : PFn := runF 2 2 (g_can_have_keys F_has_mark F_is_shown)
theorem G_can_have_keys (tx : Tx K mg t) : FnOk Pr w K mg base CX0 16 t.can_have_keys t.d_can_have_keys ["scene", "name"] (spP K F_can_have_keys) := ok_can_have_keys (k := 15) tx (G_has_mark tx) (by omega) (G_is_shown tx) (by omega)
noncomputable def F_X_order : DFn := runM 1 2 (g_X_order F_painted (F_below 13) F_can_have_keys)
theorem G_X_order (tx : Tx K mg t) : FnOk Pr w K mg base CX0 17 t.X_order t.d_X_order ["self"] (spM K (cl t) F_X_order) := ok_X_order (k := 16) tx (G_painted tx) (by omega) (G_below tx 13) (by omega) (G_can_have_keys tx) (by omega)
noncomputable def F_X_path : DFn := runM 1 1 (g_X_path (F_path_of 13))
theorem G_X_path (tx : Tx K mg t) : FnOk Pr w K mg base CX0 15 t.X_path t.d_X_path ["self"] (spM K (cl t) F_X_path) := ok_X_path (k := 14) tx (G_path_of tx 13) (by omega)
noncomputable def F_qstands : DFn := runM 4 4 (g_qstands F_X_now F_X_order F_qorder F_X_path F_qpath)
theorem G_qstands (tx : Tx K mg t) : FnOk Pr w K mg base CX0 18 t._law_stands t.d_qstands ["_law_focus", "_law_scene_here", "_law_fence", "_law_name"] (spM K (cl t) F_qstands) := ok_qstands (k := 17) tx (G_X_now tx) (by omega) (G_X_order tx) (by omega) (G_qorder tx) (by omega) (G_X_path tx) (by omega) (G_qpath tx) (by omega)
noncomputable def F_X_to : DFn := runM 2 2 (g_X_to F_X_order)
theorem G_X_to (tx : Tx K mg t) : FnOk Pr w K mg base CX0 18 t.X_to t.d_X_to ["self", "name"] (spM K (cl t) F_X_to) := ok_X_to (k := 17) tx (G_X_order tx) (by omega)
noncomputable def FX_X_to : List D → Sto → Option (Nat × Sto) := runMX 2 2 (gx_X_to F_X_order)
theorem GX_X_to (tx : Tx K mg t) : FnOk Pr w K mg base (CXX Pr w) 18 t.X_to t.d_X_to ["self", "name"] (spMX K (cl t) (ca t) FX_X_to) := okx_X_to (k := 17) tx (G_X_order tx) (by omega)
noncomputable def F_start_of : PFn := runF 3 3 (g_start_of )
theorem G_start_of (tx : Tx K mg t) : FnOk Pr w K mg base CX0 1 t.start_of t.d_start_of ["names", "name", "by"] (spP K F_start_of) := ok_start_of (k := 0) tx 
noncomputable def F_X_go : DFn := runM 2 4 (g_X_go F_X_order F_start_of)
theorem G_X_go (tx : Tx K mg t) : FnOk Pr w K mg base CX0 18 t.X_go t.d_X_go ["self", "by"] (spM K (cl t) F_X_go) := ok_X_go (k := 17) tx (G_X_order tx) (by omega) (G_start_of tx) (by omega)
noncomputable def F_X_drop : DFn := runM 1 1 (g_X_drop )
theorem G_X_drop (tx : Tx K mg t) : FnOk Pr w K mg base CX0 1 t.X_drop t.d_X_drop ["self"] (spM K (cl t) F_X_drop) := ok_X_drop (k := 0) tx 
noncomputable def F_X_settle : DFn := runM 2 4 (g_X_settle F_X_order)
theorem G_X_settle (tx : Tx K mg t) : FnOk Pr w K mg base CX0 18 t.X_settle t.d_X_settle ["self", "heirs"] (spM K (cl t) F_X_settle) := ok_X_settle (k := 17) tx (G_X_order tx) (by omega)
noncomputable def F_X_keep_in : DFn := runM 2 2 (g_X_keep_in F_box_of F_X_settle)
theorem G_X_keep_in (tx : Tx K mg t) : FnOk Pr w K mg base CX0 19 t.X_keep_in t.d_X_keep_in ["self", "name"] (spM K (cl t) F_X_keep_in) := ok_X_keep_in (k := 18) tx (G_box_of tx) (by omega) (G_X_settle tx) (by omega)
noncomputable def FX_X_keep_in : List D → Sto → Option (Nat × Sto) := runMX 2 2 (gx_X_keep_in  FX_box_of)
theorem GX_X_keep_in (tx : Tx K mg t) : FnOk Pr w K mg base (CXX Pr w) 2 t.X_keep_in t.d_X_keep_in ["self", "name"] (spMX K (cl t) (ca t) FX_X_keep_in) := okx_X_keep_in (k := 1) tx  (GX_box_of tx) (by omega)
noncomputable def F_round_behind : PFn := runF 2 3 (g_round_behind )
theorem G_round_behind (tx : Tx K mg t) : FnOk Pr w K mg base CX0 1 t.round_behind t.d_round_behind ["names", "name"] (spP K F_round_behind) := ok_round_behind (k := 0) tx 
noncomputable def F_has_box : PFn := runF 2 2 (g_has_box )
theorem G_has_box (tx : Tx K mg t) : FnOk Pr w K mg base CX0 1 t.has_box t.d_has_box ["scene", "name"] (spP K F_has_box) := ok_has_box (k := 0) tx 
noncomputable def F_X_change : DFn := runM 2 3 (g_X_change F_round_behind F_X_order F_has_box F_X_settle)
theorem G_X_change (tx : Tx K mg t) : FnOk Pr w K mg base CX0 19 t.X_change t.d_X_change ["self", "scene"] (spM K (cl t) F_X_change) := ok_X_change (k := 18) tx (G_round_behind tx) (by omega) (G_X_order tx) (by omega) (G_has_box tx) (by omega) (G_X_settle tx) (by omega)
noncomputable def F_qtold : DFn := runM 3 4 (g_qtold F_X_to F_X_go F_X_drop F_X_keep_in F_X_change FX_X_to FX_X_keep_in)
theorem G_qtold (tx : Tx K mg t) : FnOk Pr w K mg base CX0 20 t._law_told t.d_qtold ["_law_focus", "_law_way", "_law_thing"] (spM K (cl t) F_qtold) := ok_qtold (k := 19) tx (by omega) (G_X_to tx) (by omega) (G_X_go tx) (by omega) (G_X_drop tx) (by omega) (G_X_keep_in tx) (by omega) (G_X_change tx) (by omega) (GX_X_to tx) (by omega) (GX_X_keep_in tx) (by omega)
noncomputable def F_qof_drawn : DFn := runM 1 13 (g_qof_drawn F_qscene F_X___init__ F_qdrawn F_qorder F_qgoes_on F_qstands F_qtold)
theorem G_qof_drawn (tx : Tx K mg t) : FnOk Pr w K mg base CX0 21 t._law_of_drawn t.d_qof_drawn ["_law_script"] (spM K (cl t) F_qof_drawn) := ok_qof_drawn (k := 20) tx (G_qscene tx) (by omega) (G_X___init__ tx) (by omega) (G_qdrawn tx) (by omega) (G_qorder tx) (by omega) (G_qgoes_on tx) (by omega) (G_qstands tx) (by omega) (G_qtold tx) (by omega)
noncomputable def F_qknown_one : DFn := runM 0 4 (g_qknown_one F_X___init__ F_X_to F_X_change F_X_now)
theorem G_qknown_one (tx : Tx K mg t) : FnOk Pr w K mg base CX0 20 t._law_known_one t.d_qknown_one [] (spM K (cl t) F_qknown_one) := ok_qknown_one (k := 19) tx (G_X___init__ tx) (by omega) (G_X_to tx) (by omega) (G_X_change tx) (by omega) (G_X_now tx) (by omega)
noncomputable def F_law : DFn := runM 1 1 (g_law F_qof_drawn F_qknown_one)
theorem G_law (tx : Tx K mg t) : FnOk Pr w K mg base CX0 22 t.law t.d_law ["_law_script"] (spM K (cl t) F_law) := ok_law (k := 21) tx (G_qof_drawn tx) (by omega) (G_qknown_one tx) (by omega)
end
end K40
namespace K40
noncomputable def chN (st : List (Nat × Nat)) (q : Nat) : List Nat := (st.filter fun x => decide (x.2 = q)).map (·.1)
noncomputable def parN : List (Nat × Nat) → Nat → Option Nat
  | [], _ => none
  | x :: r, q => if x.1 = q then some x.2 else parN r q
noncomputable def catN (f : Nat → Option (List Nat)) : List Nat → Option (List Nat)
  | [] => some []
  | x :: r => (f x).bind fun a => (catN f r).bind fun b => some (a ++ b)
noncomputable def pthN (st : List (Nat × Nat)) : Nat → Nat → Option (List Nat)
  | 0, _ => none
  | n + 1, q => (parN st q).bind fun p => if p = 0 then some [q] else (pthN st n p).bind fun l => if l.length + 1 ≤ 3000000 then some (l ++ [q]) else none
noncomputable def blwN (st : List (Nat × Nat)) : Nat → Nat → Option (List Nat)
  | 0, _ => none
  | n + 1, q => (parN st q).bind fun _ => (catN (blwN st n) (chN st q)).bind fun r => if r.length + 1 ≤ 3000000 then some (q :: r) else none
noncomputable def pntN (st : List (Nat × Nat)) : Option (List Nat) := (catN (blwN st 13) (chN st 0)).bind fun r => if r.length ≤ 3000000 then some r else none
noncomputable def stF (ps : List Nat) : List (Nat × Nat) := (List.range ps.length).map fun i => (i + 1, ps.getD i 0)
noncomputable def par (ps : List Nat) (q : Nat) : Nat := ps.getD (q - 1) 0
structure PsOk (ps : List Nat) : Prop where
  len : ps.length ≤ 7
  par : ∀ i, ps.getD i 0 ≤ i
noncomputable def pF (ps : List Nat) : Nat → Nat → List Nat
  | 0, _ => []
  | n + 1, q => if q = 0 then [] else pF ps n (par ps q) ++ [q]
noncomputable def P (ps : List Nat) (q : Nat) : List Nat := pF ps q q
noncomputable def blF (st : List (Nat × Nat)) : Nat → Nat → List Nat
  | 0, _ => []
  | n + 1, q => q :: (chN st q).flatMap (blF st n)
noncomputable def kids (st : List (Nat × Nat)) (n a : Nat) : List Nat := (chN st a).flatMap (blF st n)
theorem flat_congr {α β : Type} {f g : α → List β} : ∀ {l : List α}, (∀ x ∈ l, f x = g x) → l.flatMap f = l.flatMap g
  | [], _ => rfl
  | x :: r, h => by
    rw [List.flatMap_cons, List.flatMap_cons, h x List.mem_cons_self, flat_congr fun y hy => h y (List.mem_cons_of_mem _ hy)]
theorem flat_nil {α β : Type} {f : α → List β} : ∀ {l : List α}, (∀ x ∈ l, f x = []) → l.flatMap f = []
  | [], _ => rfl
  | x :: r, h => by
    rw [List.flatMap_cons, h x List.mem_cons_self, flat_nil fun y hy => h y (List.mem_cons_of_mem _ hy)]; rfl
theorem flat_len {α β : Type} {f : α → List β} {b : Nat} : ∀ {l : List α}, (∀ x ∈ l, (f x).length ≤ b) → (l.flatMap f).length ≤ l.length * b
  | [], _ => by simp
  | x :: r, h => by
    have h1 := h x List.mem_cons_self
    have h2 := flat_len (l := r) fun y hy => h y (List.mem_cons_of_mem _ hy)
    rw [List.flatMap_cons, List.length_append, List.length_cons, Nat.add_mul]
    omega
section
variable {ps : List Nat} (ok : PsOk ps)
theorem pF_zero (n : Nat) : pF ps n 0 = [] := by
  cases n with
  | zero => rfl
  | succ n => rfl
theorem par_lt (ok : PsOk ps) {q : Nat} (h : 1 ≤ q) : par ps q < q := by
  have := ok.par (q - 1)
  unfold par
  omega
include ok
theorem pF_st : ∀ q n, q ≤ n → pF ps n q = pF ps q q := by
  intro q
  induction q using Nat.strongRecOn with
  | _ q ih =>
    intro n hn
    cases q with
    | zero => rw [pF_zero, pF_zero]
    | succ j =>
      cases n with
      | zero => omega
      | succ m =>
        have hp := par_lt ok (q := j + 1) (by omega)
        unfold pF
        rw [if_neg (by omega), if_neg (by omega), ih _ hp m (by omega), ih _ hp j (by omega)]
theorem P_succ {q : Nat} (h : 1 ≤ q) : P ps q = P ps (par ps q) ++ [q] := by
  obtain ⟨j, rfl⟩ : ∃ j, q = j + 1 := ⟨q - 1, by omega⟩
  have hp := par_lt ok (q := j + 1) h
  unfold P
  rw [pF, if_neg (by omega), pF_st ok _ j (by omega)]
omit ok in
theorem P_zero : P ps 0 = [] := rfl
omit ok in
theorem pF_len : ∀ n q, (pF ps n q).length ≤ n
  | 0, _ => by simp [pF]
  | n + 1, q => by
    have := pF_len n (par ps q)
    unfold pF
    split
    · simp
    · simp; omega
omit ok in
theorem st_mem {x : Nat × Nat} (h : x ∈ stF ps) : 1 ≤ x.1 ∧ x.1 ≤ ps.length ∧ x.2 = par ps x.1 := by
  obtain ⟨i, hi, rfl⟩ := List.mem_map.mp h
  have := List.mem_range.mp hi
  refine ⟨by simp, by show i + 1 ≤ _; omega, ?_⟩
  show _ = ps.getD (i + 1 - 1) 0
  rfl
omit ok in
theorem mem_st {q : Nat} (h1 : 1 ≤ q) (h2 : q ≤ ps.length) : (q, par ps q) ∈ stF ps := by
  refine List.mem_map.mpr ⟨q - 1, List.mem_range.mpr (by omega), ?_⟩
  unfold par
  rw [show q - 1 + 1 = q by omega]
omit ok in
theorem parN_of {q p : Nat} : ∀ {st : List (Nat × Nat)}, (∀ y ∈ st, y.1 = q → y.2 = p) → (q, p) ∈ st → parN st q = some p
  | x :: r, hu, hm => by
    unfold parN
    by_cases e : x.1 = q
    · rw [if_pos e, hu x List.mem_cons_self e]
    · rw [if_neg e]
      rcases List.mem_cons.mp hm with z | z
      · exact absurd (by rw [← z]) e
      · exact parN_of (fun y hy => hu y (List.mem_cons_of_mem _ hy)) z
omit ok in
theorem parN_st {q : Nat} (h1 : 1 ≤ q) (h2 : q ≤ ps.length) : parN (stF ps) q = some (par ps q) :=
  parN_of (fun y hy e => by rw [(st_mem hy).2.2, e]) (mem_st h1 h2)
theorem pthN_eq : ∀ n q, n ≤ 13 → 1 ≤ q → q ≤ ps.length → q ≤ n → pthN (stF ps) n q = some (pF ps n q)
  | 0, q, _, h1, _, h3 => by omega
  | n + 1, q, hn, h1, h2, h3 => by
    have hp := par_lt ok h1
    unfold pthN pF
    rw [parN_st h1 h2, Option.bind_some, if_neg (show ¬ q = 0 by omega)]
    by_cases e : par ps q = 0
    · rw [if_pos e, e, pF_zero]; rfl
    · rw [if_neg e, pthN_eq n _ (by omega) (by omega) (by omega) (by omega), Option.bind_some]
      have := pF_len (ps := ps) n (par ps q)
      rw [if_pos (by omega)]
theorem path_eq {q : Nat} (h1 : 1 ≤ q) (h2 : q ≤ ps.length) : pthN (stF ps) 13 q = some (P ps q) := by
  have := ok.len
  rw [pthN_eq ok 13 q (by omega) h1 h2 (by omega), pF_st ok q 13 (by omega)]; rfl
theorem ch_mem {a x : Nat} (h : x ∈ chN (stF ps) a) : 1 ≤ x ∧ x ≤ ps.length ∧ par ps x = a ∧ a < x := by
  obtain ⟨y, hy, rfl⟩ := List.mem_map.mp h
  obtain ⟨h1, h2⟩ := List.mem_filter.mp hy
  have h3 := st_mem h1
  have h4 := par_lt ok h3.1
  have h5 : y.2 = a := by simpa using h2
  exact ⟨h3.1, h3.2.1, by rw [← h3.2.2, h5], by rw [← h5, h3.2.2]; exact h4⟩
omit ok in
theorem mem_ch {x : Nat} (h1 : 1 ≤ x) (h2 : x ≤ ps.length) : x ∈ chN (stF ps) (par ps x) :=
  List.mem_map.mpr ⟨(x, par ps x), List.mem_filter.mpr ⟨mem_st h1 h2, by simp⟩, rfl⟩
theorem ch_len (a : Nat) : (chN (stF ps) a).length ≤ 7 := by
  unfold chN
  rw [List.length_map]
  refine Nat.le_trans (List.length_filter_le ..) ?_
  unfold stF
  rw [List.length_map, List.length_range]
  exact ok.len
omit ok in
theorem catN_eq {f : Nat → Option (List Nat)} {g : Nat → List Nat} : ∀ {xs : List Nat}, (∀ x ∈ xs, f x = some (g x)) → catN f xs = some (xs.flatMap g)
  | [], _ => rfl
  | x :: r, h => by
    unfold catN
    rw [h x List.mem_cons_self, Option.bind_some, catN_eq fun y hy => h y (List.mem_cons_of_mem _ hy)]
    simp
theorem blF_len : ∀ n q, 1 ≤ q → q ≤ ps.length → ps.length < n + q → (blF (stF ps) n q).length ≤ 8 ^ (ps.length - q)
  | 0, q, _, h2, h3 => by omega
  | n + 1, q, h1, h2, h3 => by
    unfold blF
    rw [List.length_cons]
    by_cases e : q = ps.length
    · have : (chN (stF ps) q) = [] := by
        rw [List.eq_nil_iff_forall_not_mem]
        intro x hx
        have := ch_mem ok hx
        omega
      rw [this, e]; simp
    · obtain ⟨k, hk⟩ : ∃ k, ps.length - q = k + 1 := ⟨ps.length - q - 1, by omega⟩
      have h4 := flat_len (f := blF (stF ps) n) (b := 8 ^ k) (l := chN (stF ps) q) fun x hx => by
        have hm := ch_mem ok hx
        exact Nat.le_trans (blF_len n x hm.1 hm.2.1 (by omega)) (Nat.pow_le_pow_right (by decide) (by omega))
      have h5 := ch_len ok q
      have h6 : (chN (stF ps) q).length * 8 ^ k ≤ 7 * 8 ^ k := Nat.mul_le_mul_right _ h5
      have h7 : 0 < 8 ^ k := Nat.pow_pos (by decide)
      rw [hk, Nat.pow_succ]
      omega
theorem pow_lim {q : Nat} (h1 : 1 ≤ q) : 8 ^ (ps.length - q) ≤ 262144 := by
  have := ok.len
  exact Nat.le_trans (Nat.pow_le_pow_right (by decide) (show ps.length - q ≤ 6 by omega)) (by decide)
theorem blwN_eq : ∀ n q, 1 ≤ q → q ≤ ps.length → ps.length < n + q → blwN (stF ps) n q = some (blF (stF ps) n q)
  | 0, q, _, h2, h3 => by omega
  | n + 1, q, h1, h2, h3 => by
    have hl := blF_len ok (n + 1) q h1 h2 h3
    unfold blF at hl
    rw [List.length_cons] at hl
    have hp := pow_lim ok h1
    unfold blwN blF
    rw [parN_st h1 h2, Option.bind_some, catN_eq (g := blF (stF ps) n) fun x hx => blwN_eq n x (ch_mem ok hx).1 (ch_mem ok hx).2.1 (by have := ch_mem ok hx; omega), Option.bind_some, if_pos (by omega)]
theorem kids_len : (kids (stF ps) 13 0).length ≤ 3000000 := by
  have := ok.len
  have h4 := flat_len (f := blF (stF ps) 13) (b := 262144) (l := chN (stF ps) 0) fun x hx => Nat.le_trans (blF_len ok 13 x (ch_mem ok hx).1 (ch_mem ok hx).2.1 (by omega)) (pow_lim ok (ch_mem ok hx).1)
  have h5 := ch_len ok 0
  unfold kids
  omega
theorem pnt_eq : pntN (stF ps) = some (kids (stF ps) 13 0) := by
  have := ok.len
  have hl := kids_len ok
  unfold kids at hl
  unfold pntN
  rw [catN_eq (g := blF (stF ps) 13) fun x hx => blwN_eq ok 13 x (ch_mem ok hx).1 (ch_mem ok hx).2.1 (by have := ch_mem ok hx; omega), Option.bind_some, if_pos hl]
  rfl
theorem kids_mem {x n a : Nat} (h : x ∈ kids (stF ps) n a) : 1 ≤ x ∧ x ≤ ps.length := by
  induction n generalizing a x with
  | zero =>
    obtain ⟨y, _, hy⟩ := List.mem_flatMap.mp h
    cases hy
  | succ n ih =>
    obtain ⟨y, hy, hx⟩ := List.mem_flatMap.mp h
    rcases List.mem_cons.mp hx with rfl | z
    · exact ⟨(ch_mem ok hy).1, (ch_mem ok hy).2.1⟩
    · exact ih z
end
noncomputable abbrev Ar := Int × Int × Int × Int
noncomputable abbrev Row := Nat × Ar × List Ar
structure Geo where
  L : Nat → Int
  T : Nat → Int
  W : Nat → Int
  H : Nat → Int
  c : Nat → Bool
  h : Nat → Bool
  l : Nat → Bool
noncomputable def Geo.at (g : Geo) (l t : Int) (x : Nat) : Ar := (l + g.L x, t + g.T x, l + g.L x + g.W x, t + g.T x + g.H x)
section
variable (g : Geo) (ps : List Nat)
noncomputable def Geo.sL (q : Nat) : Int := ((P ps q).map g.L).sum
noncomputable def Geo.sT (q : Nat) : Int := ((P ps q).map g.T).sum
noncomputable def Geo.area (q : Nat) : Ar := (g.sL ps q, g.sT ps q, g.sL ps q + g.W q, g.sT ps q + g.H q)
noncomputable def Geo.cuts (a : Nat) : List Ar := ((P ps a).filter g.c).map (g.area ps)
noncomputable def Geo.shown (q : Nat) : Bool := (P ps q).all fun x => !g.h x
noncomputable def Geo.row (x : Nat) : Row := (x, g.area ps x, g.cuts ps (par ps x) ++ [g.area ps x])
end
noncomputable def pntF (ps : List Nat) : List Nat := kids (stF ps) 13 0
noncomputable abbrev In (ps : List Nat) (q : Nat) : Prop := 1 ≤ q ∧ q ≤ ps.length
theorem P_in' {ps : List Nat} (ok : PsOk ps) {x : Nat} : ∀ q, In ps q → x ∈ P ps q → In ps x := by
  intro q
  induction q using Nat.strongRecOn with
  | _ q ih =>
    intro hq hx
    rw [P_succ ok hq.1] at hx
    rcases List.mem_append.mp hx with z | z
    · have hp := par_lt ok hq.1
      by_cases e : par ps q = 0
      · rw [e] at z
        cases z
      · exact ih _ hp ⟨by omega, by have := hq.2; omega⟩ z
    · have : x = q := by simpa using z
      rw [this]; exact hq
theorem kids_2 {ps : List Nat} (ok : PsOk ps) : (pntF ps).length ≤ 2000000 := by
  have := ok.len
  have h4 := flat_len (f := blF (stF ps) 13) (b := 262144) (l := chN (stF ps) 0) fun x hx => Nat.le_trans (blF_len ok 13 x (ch_mem ok hx).1 (ch_mem ok hx).2.1 (by omega)) (pow_lim ok (ch_mem ok hx).1)
  have h5 := ch_len ok 0
  unfold pntF kids
  omega
end K40
namespace K40
open PySem L2 L2.PU
theorem cGo_map {ι : Type} {t : En → PyData → Option En} {p : En → Option Bool} {f : En → Option PyData} {η : En} (D : ι → PyData) (P : ι → Bool) (Y : ι → PyData) :
    ∀ xs : List ι, (∀ x ∈ xs, ∃ η1, t η (D x) = some η1 ∧ p η1 = some (P x) ∧ (P x = true → f η1 = some (Y x))) → cGo t p f η (xs.map D) = some ((xs.filter P).map Y)
  | [], _ => rfl
  | x :: r, h => by
    obtain ⟨η1, h1, h2, h3⟩ := h x List.mem_cons_self
    have ih := cGo_map D P Y r fun y hy => h y (List.mem_cons_of_mem _ hy)
    rw [List.map_cons]
    unfold cGo
    rw [h1, Option.bind_some, h2, Option.bind_some, ih, List.filter_cons]
    cases hP : P x with
    | false => rfl
    | true => rw [if_pos rfl, h3 hP]; rfl
structure Sc where
  st : List (Nat × Nat)
  nm : Nat → Str
  L : Nat → Int
  T : Nat → Int
  W : Nat → Int
  H : Nat → Int
  mr : Nat → Str
structure Sc.Ok (c : Sc) : Prop where
  inj : ∀ a b, c.nm a = c.nm b → a = b
  top : c.nm 0 = ""
  ok : ∀ a, PyData.strOk (c.nm a) = true
  okm : ∀ a, PyData.strOk (c.mr a) = true
  len : c.st.length ≤ 12
noncomputable def Sc.box (c : Sc) (x : Nat × Nat) : PyData := .tuple [.str (c.nm x.1), .str (c.nm x.2), .int (c.L x.1), .int (c.T x.1), .int (c.W x.1), .int (c.H x.1), .str (c.mr x.1)]
noncomputable def Sc.d (c : Sc) : PyData := .tuple (c.st.map c.box)
noncomputable def Sc.s (c : Sc) (q : Nat) : PyData := .str (c.nm q)
noncomputable def Sc.S (c : Sc) (l : List Nat) : PyData := .list (l.map c.s)
theorem str_dec (a b : Str) : (a == b) = decide (a = b) := rfl
theorem shaped_str {a : Str} (h : PyData.strOk a = true) : SeqAt.shaped (.str a) = true := by
  simp [SeqAt.shaped, PyData.canLay0, PyData.depth, h]
theorem pEq_str {a b : Str} (ha : PyData.strOk a = true) (hb : PyData.strOk b = true) : pEq (.str a) (.str b) = some (.bool (decide (a = b))) := by
  unfold pEq
  rw [if_pos ⟨shaped_str ha, shaped_str hb⟩]
  simp [PyData.eqv, str_dec]
theorem pNe_str {a b : Str} (ha : PyData.strOk a = true) (hb : PyData.strOk b = true) : pNe (.str a) (.str b) = some (.bool (!decide (a = b))) := by
  unfold pNe
  rw [if_pos ⟨shaped_str ha, shaped_str hb⟩]
  simp [PyData.eqv, str_dec]
section
variable {c : Sc} (h : c.Ok)
include h
theorem Sc.Ok.dec (a b : Nat) : decide (c.nm a = c.nm b) = decide (a = b) := by
  by_cases e : a = b
  · subst e; simp
  · have : ¬ c.nm a = c.nm b := fun z => e (h.inj _ _ z)
    rw [decide_eq_false this, decide_eq_false e]
theorem Sc.Ok.eqs (a b : Nat) : pEq (c.s a) (c.s b) = some (.bool (decide (a = b))) := by
  unfold Sc.s
  rw [pEq_str (h.ok a) (h.ok b), h.dec]
theorem Sc.Ok.nes (a b : Nat) : pNe (c.s a) (c.s b) = some (.bool (!decide (a = b))) := by
  unfold Sc.s
  rw [pNe_str (h.ok a) (h.ok b), h.dec]
theorem Sc.Ok.eq0 (a : Nat) : pEq (c.s a) (.str "") = some (.bool (decide (a = 0))) := by
  have := h.eqs a 0
  unfold Sc.s at this ⊢
  rw [h.top] at this
  exact this
theorem Sc.Ok.ne0 (a : Nat) : pNe (c.s a) (.str "") = some (.bool (!decide (a = 0))) := by
  have := h.nes a 0
  unfold Sc.s at this ⊢
  rw [h.top] at this
  exact this
end
end K40
namespace K40
open PySem L2 L2.PU
theorem big {n : Nat} (h : n ≤ 3000000) : n ≤ sizeLine := Nat.le_trans h (by show 3000000 ≤ 2 ^ 24; decide)
section
variable {c : Sc} (h : c.Ok)
include h
theorem size_d : (c.st.map c.box).length ≤ sizeLine := by
  rw [List.length_map]
  exact big (Nat.le_trans h.len (by decide))
theorem F_children_eq (q : Nat) : F_children [c.d, c.s q] = some (c.S (chN c.st q)) := by
  unfold F_children runF
  rw [if_pos (by rfl)]
  show (g_children [.val c.d, .val (c.s q)]).bind _ = _
  have e : cGo (tgN 0) (bT (l2 pEq (l2 pIx (eV 0) (eC (.int 1))) (eV 1))) (l2 pIx (eV 0) (eC (.int 0))) [.un, .val (c.s q)] (c.st.map c.box) = some ((c.st.filter fun x => decide (x.2 = q)).map fun x => c.s x.1) := by
    refine cGo_map c.box (fun x => decide (x.2 = q)) (fun x => c.s x.1) _ fun x _ => ⟨_, rfl, ?_, fun _ => rfl⟩
    show (pEq (c.s x.2) (c.s q)).bind asB = _
    rw [h.eqs]; rfl
  have e2 : sComp [none, some 1] (lI asTu (eV 0)) (tgN 0) (bT (l2 pEq (l2 pIx (eV 0) (eC (.int 1))) (eV 1))) (l2 pIx (eV 0) (eC (.int 0))) [.val c.d, .val (c.s q)] = some ((c.st.filter fun x => decide (x.2 = q)).map fun x => c.s x.1) := by
    show (if (c.st.map c.box).length ≤ sizeLine then cGo _ _ _ _ _ else none) = _
    rw [if_pos (size_d h)]
    exact e
  unfold g_children sRet oE
  rw [e2]
  show some (PyData.list _) = some (PyData.list _)
  unfold chN
  rw [List.map_map]; rfl
theorem box_go (q p : Nat) : ∀ (l : List (Nat × Nat)), parN l q = some p → ∀ s : Sl, sGo (tgN 2) (sIf (bT (l2 pEq (l2 pIx (eV 2) (eC (.int 0))) (eV 1))) (sRet (eV 2)) sNx) (l.map c.box) [.val c.d, .val (c.s q), s] = some (.rt (c.box (q, p)))
  | x :: r, hm, s => by
    rw [List.map_cons]
    unfold sGo
    have et : tgN 2 [.val c.d, .val (c.s q), s] (c.box x) = some [.val c.d, .val (c.s q), .val (c.box x)] := rfl
    rw [et, Option.bind_some]
    have eb : (bT (l2 pEq (l2 pIx (eV 2) (eC (.int 0))) (eV 1))) [.val c.d, .val (c.s q), .val (c.box x)] = some (decide (x.1 = q)) := by
      show (pEq (c.s x.1) (c.s q)).bind asB = _
      rw [h.eqs]; rfl
    unfold sIf
    rw [eb, Option.bind_some]
    unfold parN at hm
    by_cases e : x.1 = q
    · rw [if_pos e] at hm
      cases hm
      rw [if_pos (by simpa using e)]
      subst e
      rfl
    · rw [if_neg e] at hm
      rw [if_neg (by simpa using e)]
      show sGo _ _ (r.map c.box) _ = _
      exact box_go q p r hm _
theorem F_box_eq {q p : Nat} (h1 : parN c.st q = some p) : F_box_of [c.d, c.s q] = some (c.box (q, p)) := by
  unfold F_box_of runF
  rw [if_pos (by rfl)]
  show (g_box_of [.val c.d, .val (c.s q), .un]).bind _ = _
  have e2 : sFor (lI asTu (eV 0)) (tgN 2) (sIf (bT (l2 pEq (l2 pIx (eV 2) (eC (.int 0))) (eV 1))) (sRet (eV 2)) sNx) [.val c.d, .val (c.s q), .un] = some (.rt (c.box (q, p))) := box_go h q p c.st h1 .un
  unfold g_box_of sSeq
  rw [e2]; rfl
theorem F_path_eq : ∀ (n q : Nat) (l : List Nat), pthN c.st n q = some l → F_path_of n [c.d, c.s q] = some (c.S l)
  | n + 1, q, l, e => by
    unfold pthN at e
    obtain ⟨p, hq, e⟩ := bind_some e
    · unfold F_path_of runF
      rw [if_pos (by rfl)]
      show (g_path_of F_box_of (F_path_of n) [.val c.d, .val (c.s q), .un]).bind _ = _
      have eb := F_box_eq h hq
      have e1 : sSet 2 (l2 pIx (lA F_box_of (aC (eV 0) (aC (eV 1) aN))) (eC (.int 1))) [.val c.d, .val (c.s q), .un] = some (.nx [.val c.d, .val (c.s q), .val (c.s (p))]) := by
        show ((F_box_of [c.d, c.s q]).bind fun x => _).bind _ = _
        rw [eb]; rfl
      have e2 : (bT (l2 pEq (eV 2) (eC (.str "")))) [.val c.d, .val (c.s q), .val (c.s (p))] = some (decide (p = 0)) := by
        show (pEq (c.s (p)) (.str "")).bind asB = _
        rw [h.eq0]; rfl
      unfold g_path_of sSeq
      rw [e1, Option.bind_some]
      show Option.bind (Option.bind (sIf _ _ _ _) _) _ = _
      unfold sIf
      rw [e2, Option.bind_some]
      split at e
      · rename_i h0
        cases e
        rw [if_pos (by simpa using h0)]
        rfl
      · rename_i h0
        rw [if_neg (by simpa using h0)]
        obtain ⟨m, hm, e⟩ := bind_some e
        split at e
        · rename_i hl
          cases e
          have ih := F_path_eq n _ m hm
          show Option.bind (sRet _ _) _ = _
          have e3 : sRet (l2 pAdd (lA (F_path_of n) (aC (eV 0) (aC (eV 2) aN))) (oE (fun η => ((aC (eV 1) aN) η).bind gL))) [.val c.d, .val (c.s q), .val (c.s (p))] = some (.rt (c.S (m ++ [q]))) := by
            show (((F_path_of n) [c.d, c.s (p)]).bind fun x => (oE _ _).bind fun y => pAdd x y).bind _ = _
            rw [ih, Option.bind_some]
            show ((pAdd (c.S m) (.list [c.s q])).bind _) = _
            unfold Sc.S pAdd
            dsimp only
            rw [if_pos (by rw [List.length_map]; exact big hl)]
            simp [Sc.S]
          rw [e3]; rfl
        · cases e
theorem below_go {F : PFn} {f : Nat → Option (List Nat)} (hF : ∀ x l, f x = some l → F [c.d, c.s x] = some (c.S l)) (q : Nat) :
    ∀ (xs r : List Nat), catN f xs = some r → ∀ (done : List Nat) (s3 : Sl), done.length + r.length ≤ 3000000 → ∃ s3', sGo (tgN 3) (sExt 2 (lI asL (lA F (aC (eV 0) (aC (eV 3) aN))))) (xs.map c.s) [.val c.d, .val (c.s q), .own (done.map c.s), s3] = some (.nx [.val c.d, .val (c.s q), .own ((done ++ r).map c.s), s3'])
  | [], r, e, done, s3, _ => by
    cases e
    exact ⟨s3, by rw [List.append_nil]; rfl⟩
  | x :: xs, r, e, done, s3, hl => by
    obtain ⟨a, ea, e⟩ := bind_some e
    obtain ⟨b, eb, e⟩ := bind_some e
    cases e
    rw [List.length_append] at hl
    obtain ⟨s3', ih⟩ := below_go hF q xs b eb (done ++ a) (.val (c.s x)) (by rw [List.length_append]; omega)
    refine ⟨s3', ?_⟩
    have e1 : sExt 2 (lI asL (lA F (aC (eV 0) (aC (eV 3) aN)))) [.val c.d, .val (c.s q), .own (done.map c.s), .val (c.s x)] = some (.nx [.val c.d, .val (c.s q), .own ((done ++ a).map c.s), .val (c.s x)]) := by
      show Option.bind (Option.bind (F [c.d, c.s x]) asL) _ = _
      rw [hF x a ea]
      show (if (done.map c.s).length + (a.map c.s).length ≤ sizeLine then _ else _) = _
      rw [if_pos (by rw [List.length_map, List.length_map]; exact big (by omega)), List.map_append]
      rfl
    rw [List.map_cons]
    unfold sGo
    show Option.bind (sExt 2 _ [.val c.d, .val (c.s q), .own (done.map c.s), .val (c.s x)]) _ = _
    rw [e1, Option.bind_some]
    show sGo _ _ _ _ = _
    rw [ih, List.append_assoc]
theorem paint_go {F : PFn} {f : Nat → Option (List Nat)} (hF : ∀ x l, f x = some l → F [c.d, c.s x] = some (c.S l)) :
    ∀ (xs r : List Nat), catN f xs = some r → ∀ (done : List Nat) (s3 : Sl), done.length + r.length ≤ 3000000 → ∃ s3', sGo (tgN 2) (sExt 1 (lI asL (lA F (aC (eV 0) (aC (eV 2) aN))))) (xs.map c.s) [.val c.d, .own (done.map c.s), s3] = some (.nx [.val c.d, .own ((done ++ r).map c.s), s3'])
  | [], r, e, done, s3, _ => by
    cases e
    exact ⟨s3, by rw [List.append_nil]; rfl⟩
  | x :: xs, r, e, done, s3, hl => by
    obtain ⟨a, ea, e⟩ := bind_some e
    obtain ⟨b, eb, e⟩ := bind_some e
    cases e
    rw [List.length_append] at hl
    obtain ⟨s3', ih⟩ := paint_go hF xs b eb (done ++ a) (.val (c.s x)) (by rw [List.length_append]; omega)
    refine ⟨s3', ?_⟩
    have e1 : sExt 1 (lI asL (lA F (aC (eV 0) (aC (eV 2) aN)))) [.val c.d, .own (done.map c.s), .val (c.s x)] = some (.nx [.val c.d, .own ((done ++ a).map c.s), .val (c.s x)]) := by
      show Option.bind (Option.bind (F [c.d, c.s x]) asL) _ = _
      rw [hF x a ea]
      show (if (done.map c.s).length + (a.map c.s).length ≤ sizeLine then _ else _) = _
      rw [if_pos (by rw [List.length_map, List.length_map]; exact big (by omega)), List.map_append]
      rfl
    rw [List.map_cons]
    unfold sGo
    show Option.bind (sExt 1 _ [.val c.d, .own (done.map c.s), .val (c.s x)]) _ = _
    rw [e1, Option.bind_some]
    show sGo _ _ _ _ = _
    rw [ih, List.append_assoc]
theorem F_below_eq : ∀ (n q : Nat) (l : List Nat), blwN c.st n q = some l → F_below n [c.d, c.s q] = some (c.S l)
  | n + 1, q, l, e => by
    unfold blwN at e
    obtain ⟨p, hq, e⟩ := bind_some e
    · obtain ⟨r, hr, e⟩ := bind_some e
      split at e
      · rename_i hl
        cases e
        unfold F_below runF
        rw [if_pos (by rfl)]
        show (g_below F_box_of F_children (F_below n) [.val c.d, .val (c.s q), .un, .un]).bind _ = _
        have eb := F_box_eq h hq
        have e1 : sSetO 2 (fun η => ((aC (l2 pIx (lA F_box_of (aC (eV 0) (aC (eV 1) aN))) (eC (.int 0))) aN) η).bind gL) [.val c.d, .val (c.s q), .un, .un] = some (.nx [.val c.d, .val (c.s q), .own [c.s q], .un]) := by
          show Option.bind (Option.bind (Option.bind (Option.bind (F_box_of [c.d, c.s q]) _) _) _) _ = _
          rw [eb]
          rfl
        obtain ⟨s3', e2⟩ := below_go h (F_below_eq n) q (chN c.st q) r hr [q] .un (by simpa [Nat.add_comm] using hl)
        have e3 : sFor (lI asL (lA F_children (aC (eV 0) (aC (eV 1) aN)))) (tgN 3) (sExt 2 (lI asL (lA (F_below n) (aC (eV 0) (aC (eV 3) aN))))) [.val c.d, .val (c.s q), .own [c.s q], .un] = some (.nx [.val c.d, .val (c.s q), .own (([q] ++ r).map c.s), s3']) := by
          show Option.bind (Option.bind (F_children [c.d, c.s q]) asL) _ = _
          rw [F_children_eq h]
          exact e2
        unfold g_below sSeq
        rw [e1, Option.bind_some]
        show Option.bind (Option.bind (sFor _ _ _ _) _) _ = _
        rw [e3]
        rfl
      · cases e
theorem F_painted_eq {l : List Nat} (e : pntN c.st = some l) : F_painted [c.d] = some (c.S l) := by
  unfold pntN at e
  obtain ⟨r, hr, e⟩ := bind_some e
  split at e
  · rename_i hl
    cases e
    unfold F_painted runF
    rw [if_pos (by rfl)]
    show (g_painted F_children (F_below 13) [.val c.d, .un, .un]).bind _ = _
    obtain ⟨s3', e2⟩ := paint_go h (F_below_eq h 13) (chN c.st 0) l hr [] .un (by simpa using hl)
    have e3 : sFor (lI asL (lA F_children (aC (eV 0) (aC (eC (.str "")) aN)))) (tgN 2) (sExt 1 (lI asL (lA (F_below 13) (aC (eV 0) (aC (eV 2) aN))))) [.val c.d, .own [], .un] = some (.nx [.val c.d, .own (l.map c.s), s3']) := by
      show Option.bind (Option.bind (F_children [c.d, .str ""]) asL) _ = _
      have := F_children_eq h 0
      unfold Sc.s at this
      rw [h.top] at this
      rw [this]
      exact e2
    unfold g_painted sSeq
    show Option.bind (Option.bind (sFor _ _ _ [.val c.d, .own [], .un]) _) _ = _
    rw [e3]
    rfl
  · cases e
end
end K40
namespace K40
open PySem L2 L2.PU
noncomputable def Sd (ns : List Int) : PyData := .list (ns.map PyData.int)
theorem can_ints : ∀ ns : List Int, PyData.canLayAll0 (ns.map PyData.int) = true
  | [] => rfl
  | _ :: r => by
    have ih := can_ints r
    simpa [PyData.canLayAll0, PyData.canLay0] using ih
theorem dep_ints : ∀ ns : List Int, PyData.depthAll (ns.map PyData.int) = 0
  | [] => rfl
  | _ :: r => by
    have ih := dep_ints r
    simpa [PyData.depthAll, PyData.depth] using ih
theorem shaped_ints (ns : List Int) : SeqAt.shaped (.list (ns.map PyData.int)) = true := by
  simp [SeqAt.shaped, PyData.canLay0, PyData.depth, can_ints, dep_ints]
theorem shaped_int (i : Int) : SeqAt.shaped (.int i) = true := by simp [SeqAt.shaped, PyData.canLay0, PyData.depth]
theorem pEq_int (i j : Int) : pEq (.int i) (.int j) = some (.bool (i == j)) := by
  unfold pEq
  rw [if_pos ⟨shaped_int i, shaped_int j⟩]
  simp [PyData.eqv]
theorem l2_of {o : PyData → PyData → Option PyData} {f g : En → Option PyData} {η : En} {x y z : PyData} (hf : f η = some x) (hg : g η = some y) (ho : o x y = some z) : l2 o f g η = some z := by
  unfold l2
  rw [hf, Option.bind_some, hg, Option.bind_some, ho]
theorem pMul_ok {i j : Int} (h : CMul i j) : pMul (.int i) (.int j) = some (.int (i * j)) := if_pos h
theorem pMod_ok {i j : Int} (h : 0 < j) : pMod (.int i) (.int j) = some (.int (i % j)) := if_pos h
theorem pFdiv_ok {i j : Int} (h : CDiv i j) : pFdiv (.int i) (.int j) = some (.int (i / j)) := if_pos h
theorem mulL {i j : Int} (h1 : -(2 ^ 64) < i) (h2 : i < 2 ^ 64) : CMul i j := Or.inl ⟨h1, h2⟩
theorem mulR {i j : Int} (h1 : -(2 ^ 64) < j) (h2 : j < 2 ^ 64) : CMul i j := Or.inr ⟨h1, h2⟩
section
variable {ns : List Int}
theorem cell_ok (hn : ns.length ≤ 63) {k : Int} (hk : 0 ≤ k) : ∃ v : Int, F_qcell [Sd ns, .int k] = some (.int v) := by
  unfold F_qcell runF
  rw [if_pos (by rfl)]
  have et : (bT (l2 pEq (eV 0) (oE (fun η => (aN η).bind gL)))) [.val (Sd ns), .val (.int k)] = some (decide (ns = [])) := by
    show Option.bind (pEq (Sd ns) (.list [])) asB = _
    unfold pEq
    rw [if_pos ⟨shaped_ints ns, by rfl⟩]
    cases ns <;> simp [Sd, PyData.eqv, PyData.eqvAll, asB]
  show ∃ v, Option.bind (g_qcell [.val (Sd ns), .val (.int k)]) _ = _
  unfold g_qcell sSeq sIf
  rw [et, Option.bind_some]
  by_cases h0 : ns = []
  · rw [if_pos (by simpa using h0)]
    refine ⟨7 * k, ?_⟩
    have : l2 pMul (eC (.int 7)) (eV 1) [.val (Sd ns), .val (.int k)] = some (.int (7 * k)) := l2_of rfl rfl (pMul_ok (mulL (by decide) (by decide)))
    unfold sRet
    rw [this]; rfl
  · rw [if_neg (by simpa using h0)]
    have hp : 0 < ns.length := by cases ns with | nil => exact absurd rfl h0 | cons => simp
    have hlen : lA pLen (aC (eV 0) aN) [.val (Sd ns), .val (.int k)] = some (.int (ns.length : Int)) := by
      show some (PyData.int ((ns.map PyData.int).length : Int)) = _
      rw [List.length_map]
    have hm : l2 pMod (eV 1) (lA pLen (aC (eV 0) aN)) [.val (Sd ns), .val (.int k)] = some (.int (k % (ns.length : Int))) := l2_of rfl hlen (pMod_ok (by omega))
    have hd : l2 pFdiv (eV 1) (lA pLen (aC (eV 0) aN)) [.val (Sd ns), .val (.int k)] = some (.int (k / (ns.length : Int))) := l2_of rfl hlen (pFdiv_ok ⟨by omega, by omega⟩)
    obtain ⟨j, hj⟩ : ∃ j : Nat, k % (ns.length : Int) = (j : Int) := ⟨(k % (ns.length : Int)).toNat, by have := Int.emod_nonneg k (show (ns.length : Int) ≠ 0 by omega); omega⟩
    have hjl : j < ns.length := by have := Int.emod_lt_of_pos k (show (0 : Int) < ns.length by omega); omega
    refine ⟨ns[j] + 6553 * (k / (ns.length : Int)), ?_⟩
    have hx : l2 pIx (eV 0) (l2 pMod (eV 1) (lA pLen (aC (eV 0) aN))) [.val (Sd ns), .val (.int k)] = some (.int ns[j]) := by
      refine l2_of rfl hm ?_
      rw [hj]
      show atI (ns.map PyData.int) (j : Int) = _
      exact atI_nat (by rw [List.getElem?_map, List.getElem?_eq_getElem hjl]; rfl)
    have hy : l2 pMul (eC (.int 6553)) (l2 pFdiv (eV 1) (lA pLen (aC (eV 0) aN))) [.val (Sd ns), .val (.int k)] = some (.int (6553 * (k / (ns.length : Int)))) := l2_of rfl hd (pMul_ok (mulL (by decide) (by decide)))
    have hz := l2_of (o := pAdd) hx hy rfl
    show Option.bind (sRet _ [.val (Sd ns), .val (.int k)]) _ = _
    unfold sRet
    rw [hz]
    rfl
theorem drawn_ok (hn : ns.length ≤ 63) {k m : Int} (hk : 0 ≤ k) (hm : 0 < m) : ∃ r : Nat, (r : Int) < m ∧ F_qdrawn [Sd ns, .int k, .int m] = some (.int r) := by
  obtain ⟨v, hv⟩ := cell_ok hn hk
  unfold F_qdrawn runF
  rw [if_pos (by rfl)]
  have hc : lA F_qcell (aC (eV 0) (aC (eV 1) aN)) [.val (Sd ns), .val (.int k), .val (.int m), .un] = some (.int v) := hv
  have x1 : l2 pMod (l2 pAdd (l2 pMul (l2 pMod (lA F_qcell (aC (eV 0) (aC (eV 1) aN))) (eC (.int 2147483563))) (eC (.int 69069))) (l2 pMul (eC (.int 104723)) (l2 pAdd (eV 1) (eC (.int 1))))) (eC (.int 2147483563)) [.val (Sd ns), .val (.int k), .val (.int m), .un] = some (.int ((v % 2147483563 * 69069 + 104723 * (k + 1)) % 2147483563)) :=
    l2_of (l2_of (l2_of (l2_of hc rfl (pMod_ok (by decide))) rfl (pMul_ok (mulR (by decide) (by decide)))) (l2_of rfl (l2_of rfl rfl rfl) (pMul_ok (mulL (by decide) (by decide)))) rfl) rfl (pMod_ok (by decide))
  generalize hx : (v % 2147483563 * 69069 + 104723 * (k + 1)) % 2147483563 = x at x1
  have bx : 0 ≤ x ∧ x < 2147483563 := by rw [← hx]; exact ⟨Int.emod_nonneg _ (by decide), Int.emod_lt_of_pos _ (by decide)⟩
  have x2 : l2 pMod (l2 pAdd (l2 pMul (eV 3) (eV 3)) (l2 pFdiv (eV 3) (eC (.int 3)))) (eC (.int 2147483399)) [.val (Sd ns), .val (.int k), .val (.int m), .val (.int x)] = some (.int ((x * x + x / 3) % 2147483399)) :=
    l2_of (l2_of (l2_of rfl rfl (pMul_ok (mulL (by omega) (by omega)))) (l2_of rfl rfl (pFdiv_ok ⟨by decide, by decide⟩)) rfl) rfl (pMod_ok (by decide))
  generalize hy : (x * x + x / 3) % 2147483399 = y at x2
  have byy : 0 ≤ y ∧ y < 2147483399 := by rw [← hy]; exact ⟨Int.emod_nonneg _ (by decide), Int.emod_lt_of_pos _ (by decide)⟩
  have x3 : l2 pMod (l2 pFdiv (l2 pMod (l2 pAdd (l2 pMul (eV 3) (eV 3)) (l2 pFdiv (eV 3) (eC (.int 7)))) (eC (.int 2147483647))) (eC (.int 11))) (eV 2) [.val (Sd ns), .val (.int k), .val (.int m), .val (.int y)] = some (.int ((y * y + y / 7) % 2147483647 / 11 % m)) :=
    l2_of (l2_of (l2_of (l2_of (l2_of rfl rfl (pMul_ok (mulL (by omega) (by omega)))) (l2_of rfl rfl (pFdiv_ok ⟨by decide, by decide⟩)) rfl) rfl (pMod_ok (by decide))) rfl (pFdiv_ok ⟨by decide, by decide⟩)) rfl (pMod_ok hm)
  refine ⟨((y * y + y / 7) % 2147483647 / 11 % m).toNat, ?_, ?_⟩
  · have h1 := Int.emod_nonneg ((y * y + y / 7) % 2147483647 / 11) (show m ≠ 0 by omega)
    have h2 := Int.emod_lt_of_pos ((y * y + y / 7) % 2147483647 / 11) hm
    omega
  · have h1 := Int.emod_nonneg ((y * y + y / 7) % 2147483647 / 11) (show m ≠ 0 by omega)
    have e : (((y * y + y / 7) % 2147483647 / 11 % m).toNat : Int) = (y * y + y / 7) % 2147483647 / 11 % m := by omega
    rw [e]
    show Option.bind (g_qdrawn F_qcell [.val (Sd ns), .val (.int k), .val (.int m), .un]) _ = _
    unfold g_qdrawn sSeq sSet sRet
    rw [x1, Option.bind_some, Option.bind_some]
    show Option.bind (Option.bind (Option.bind (l2 pMod _ _ [.val (Sd ns), .val (.int k), .val (.int m), .val (.int x)]) _) _) _ = _
    rw [x2, Option.bind_some, Option.bind_some]
    show Option.bind (Option.bind (l2 pMod _ _ [.val (Sd ns), .val (.int k), .val (.int m), .val (.int y)]) _) _ = _
    rw [x3]
    rfl
end
end K40
namespace K40
open PySem L2 L2.PU
theorem seq_of {f g : En → Option Out} {η η1 : En} {r : Option Out} (h1 : f η = some (.nx η1)) (h2 : g η1 = r) : sSeq f g η = r := by
  unfold sSeq
  rw [h1]; exact h2
theorem set_of {i : Nat} {f : En → Option PyData} {η : En} {d : PyData} (h : f η = some d) : sSet i f η = some (.nx (η.set i (.val d))) := by
  unfold sSet
  rw [h]; rfl
theorem setO_of {i : Nat} {f : En → Option (List PyData)} {η : En} {d : List PyData} (h : f η = some d) : sSetO i f η = some (.nx (η.set i (.own d))) := by
  unfold sSetO
  rw [h]; rfl
theorem lA_of {o : PFn} {fs : En → Option (List PyData)} {η : En} {ds : List PyData} {d : PyData} (h1 : fs η = some ds) (h2 : o ds = some d) : lA o fs η = some d := by
  unfold lA
  rw [h1]; exact h2
theorem aC_of {f : En → Option PyData} {g : En → Option (List PyData)} {η : En} {d : PyData} {ds : List PyData} (h1 : f η = some d) (h2 : g η = some ds) : aC f g η = some (d :: ds) := by
  unfold aC
  rw [h1, Option.bind_some, h2]; rfl
theorem if_of {c : En → Option Bool} {f g : En → Option Out} {η : En} {b : Bool} (h : c η = some b) : sIf c f g η = if b = true then f η else g η := by
  unfold sIf
  rw [h]; rfl
theorem bT_of {f : En → Option PyData} {η : En} {b : Bool} (h : f η = some (.bool b)) : bT f η = some b := by
  unfold bT
  rw [h]; rfl
theorem for_of {it : En → Option (List PyData)} {t : En → PyData → Option En} {body : En → Option Out} {η : En} {ds : List PyData} {r : Option Out} (h : it η = some ds) (h2 : sGo t body ds η = r) : sFor it t body η = r := by
  unfold sFor
  rw [h]; exact h2
theorem rng1_ok {j : Int} (h1 : -(2 ^ 62) ≤ j) (h2 : j < 2 ^ 62) : rng1 [.int j] = some (rngL 0 j.toNat) := if_pos ⟨h1, h2⟩
theorem sGo_rng {t : En → PyData → Option En} {body : En → Option Out} (Inv : Nat → En → Prop) (n : Nat)
    (st : ∀ k η, k < n → Inv k η → ∃ η1 η2, t η (.int (0 + (k : Nat))) = some η1 ∧ body η1 = some (.nx η2) ∧ Inv (k + 1) η2) {η : En} (h0 : Inv 0 η) : ∃ η', sGo t body (rngL 0 n) η = some (.nx η') ∧ Inv n η' := by
  have key : ∀ (m k : Nat) (η : En), k + m = n → Inv k η → ∃ η', sGo t body ((List.range' k m).map fun (k : Nat) => PyData.int (0 + (k : Nat))) η = some (.nx η') ∧ Inv n η' := by
    intro m
    induction m with
    | zero => intro k η e h; exact ⟨η, rfl, by rw [← e]; exact h⟩
    | succ m ih =>
      intro k η e h
      obtain ⟨η1, η2, h1, h2, h3⟩ := st k η (by omega) h
      obtain ⟨η', e1, e2⟩ := ih (k + 1) η2 (by omega) h3
      refine ⟨η', ?_, e2⟩
      rw [List.range'_succ, List.map_cons]
      unfold sGo
      rw [h1, Option.bind_some, h2, Option.bind_some]
      exact e1
  unfold rngL
  rw [List.range_eq_range']
  exact key n 0 η (by omega) h0
theorem sGo_all {ι : Type} {t : En → PyData → Option En} {body : En → Option Out} (D : ι → PyData) (Inv : List ι → En → Prop) (all : List ι)
    (st : ∀ done x rest η, all = done ++ x :: rest → Inv done η → ∃ η1 η2, t η (D x) = some η1 ∧ body η1 = some (.nx η2) ∧ Inv (done ++ [x]) η2) {η : En} (h0 : Inv [] η) : ∃ η', sGo t body (all.map D) η = some (.nx η') ∧ Inv all η' := by
  have key : ∀ (rest done : List ι) (η : En), all = done ++ rest → Inv done η → ∃ η', sGo t body (rest.map D) η = some (.nx η') ∧ Inv all η' := by
    intro rest
    induction rest with
    | nil => intro done η e h; exact ⟨η, rfl, by rw [e, List.append_nil]; exact h⟩
    | cons x r ih =>
      intro done η e h
      obtain ⟨η1, η2, h1, h2, h3⟩ := st done x r η e h
      obtain ⟨η', e1, e2⟩ := ih (done ++ [x]) η2 (by rw [e]; simp) h3
      refine ⟨η', ?_, e2⟩
      rw [List.map_cons]
      unfold sGo
      rw [h1, Option.bind_some, h2, Option.bind_some]
      exact e1
  exact key all [] η rfl h0
noncomputable def let8 : List Nat := [100, 98, 103, 97, 104, 99, 102, 101]
noncomputable def nmT (t : Nat) : Nat → Str
  | 0 => ""
  | j + 1 => if j < 8 then ⟨#[let8.getD ((j + t) % 8) 0]⟩ else ⟨(List.replicate (j + 1) 97).toArray⟩
theorem let8_inj : ∀ x : Fin 8, ∀ y : Fin 8, let8.getD x.val 0 = let8.getD y.val 0 → x = y := by decide
theorem nmT_lo {t j : Nat} (h : j < 8) : nmT t (j + 1) = ⟨#[let8.getD ((j + t) % 8) 0]⟩ := if_pos h
theorem nmT_hi {t j : Nat} (h : ¬ j < 8) : nmT t (j + 1) = ⟨(List.replicate (j + 1) 97).toArray⟩ := if_neg h
theorem empty_size : ("" : Str).cps.size = 0 := by decide
theorem nmT_inj (t : Nat) : ∀ a b, nmT t a = nmT t b → a = b := by
  have sz : ∀ a, (nmT t a).cps.size = if a = 0 then 0 else if a - 1 < 8 then 1 else a := fun a => by
    cases a with
    | zero => exact empty_size
    | succ j =>
      by_cases h : j < 8
      · rw [nmT_lo h]; simp [h]
      · rw [nmT_hi h]; simp [h]
  intro a b e
  have s1 := sz a
  have s2 := sz b
  rw [e, s2] at s1
  cases a with
  | zero =>
    cases b with
    | zero => rfl
    | succ k =>
      simp at s1
      split at s1 <;> omega
  | succ j =>
    cases b with
    | zero =>
      simp at s1
      split at s1 <;> omega
    | succ k =>
      by_cases hj : j < 8
      · by_cases hk : k < 8
        · rw [nmT_lo hj, nmT_lo hk] at e
          have e1 : (#[let8.getD ((j + t) % 8) 0] : Array Nat) = #[let8.getD ((k + t) % 8) 0] := by injection e
          have e2 : let8.getD ((j + t) % 8) 0 = let8.getD ((k + t) % 8) 0 := by simpa using e1
          have e3 := let8_inj ⟨(j + t) % 8, Nat.mod_lt _ (by decide)⟩ ⟨(k + t) % 8, Nat.mod_lt _ (by decide)⟩ e2
          have e4 : (j + t) % 8 = (k + t) % 8 := by injection e3
          omega
        · simp [hj, hk] at s1; omega
      · by_cases hk : k < 8
        · simp [hj, hk] at s1; omega
        · simp [hj, hk] at s1; omega
theorem let8_lt : ∀ x : Fin 8, let8.getD x.val 0 < 0x110000 := by decide
theorem nmT_ok (t : Nat) : ∀ a, PyData.strOk (nmT t a) = true := fun a => by
  cases a with
  | zero => exact (by decide +kernel : PyData.strOk ("" : Str) = true)
  | succ j =>
    by_cases h : j < 8
    · rw [nmT_lo h]
      have := let8_lt ⟨(j + t) % 8, Nat.mod_lt _ (by decide)⟩
      simp only [List.getD_eq_getElem?_getD] at this
      simp [PyData.strOk, this]
    · rw [nmT_hi h]
      unfold PyData.strOk
      rw [Array.all_eq_true]
      intro i hi
      simp
structure Dr where
  ps : List Nat
  nm : Nat → Str
  L : Nat → Int
  T : Nat → Int
  W : Nat → Int
  H : Nat → Int
  mr : Nat → Str
noncomputable def bd (l t w h : Int) : Prop := (-3 ≤ l ∧ l ≤ 5) ∧ (-3 ≤ t ∧ t ≤ 5) ∧ (0 ≤ w ∧ w ≤ 8) ∧ (0 ≤ h ∧ h ≤ 8)
noncomputable def mkS : List Bool → Str
  | [] => ""
  | b :: r => mkS r ++ (if b then (⟨#[[99, 102, 104, 108].getD r.length 0]⟩ : Str) else ("" : Str))
noncomputable def mkOk (m : Str) : Prop := ∃ bs : List Bool, bs.length = 4 ∧ m = mkS bs
structure Dr.Ok (c : Dr) : Prop where
  inj : ∀ a b, c.nm a = c.nm b → a = b
  top : c.nm 0 = ""
  ok : ∀ a, PyData.strOk (c.nm a) = true
  okm : ∀ a, PyData.strOk (c.mr a) = true
  len : c.ps.length ≤ 12
  par : ∀ i, c.ps.getD i 0 ≤ i
  bds : ∀ i, bd (c.L i) (c.T i) (c.W i) (c.H i)
  mks : ∀ i, mkOk (c.mr i)
noncomputable def Dr.box (c : Dr) (i : Nat) : PyData := .tuple [.str (c.nm (i + 1)), .str (c.nm (c.ps.getD i 0)), .int (c.L i), .int (c.T i), .int (c.W i), .int (c.H i), .str (c.mr i)]
noncomputable def Dr.d (c : Dr) : PyData := .tuple ((List.range c.ps.length).map c.box)
noncomputable def Dr.s (c : Dr) (q : Nat) : PyData := .str (c.nm q)
noncomputable def Dr.more (c : Dr) (p : Nat) (l t w h : Int) (m : Str) : Dr :=
  { ps := c.ps ++ [p], nm := c.nm, L := fun i => if i = c.ps.length then l else c.L i, T := fun i => if i = c.ps.length then t else c.T i, W := fun i => if i = c.ps.length then w else c.W i,
    H := fun i => if i = c.ps.length then h else c.H i, mr := fun i => if i = c.ps.length then m else c.mr i }
theorem Dr.more_d (c : Dr) (p : Nat) (l t w h : Int) (m : Str) : (c.more p l t w h m).d = .tuple ((List.range c.ps.length).map c.box ++ [.tuple [.str (c.nm (c.ps.length + 1)), .str (c.nm p), .int l, .int t, .int w, .int h, .str m]]) := by
  unfold Dr.d
  have e : (c.more p l t w h m).ps.length = c.ps.length + 1 := by unfold Dr.more; simp
  rw [e, List.range_succ, List.map_append]
  congr 2
  · refine List.map_congr_left fun i hi => ?_
    have hlt := List.mem_range.mp hi
    have hne : i ≠ c.ps.length := Nat.ne_of_lt hlt
    have hps : (c.ps ++ [p])[i]? = c.ps[i]? := List.getElem?_append_left hlt
    unfold Dr.box Dr.more
    simp only [hne, if_false, List.getD_eq_getElem?_getD, hps]
  · unfold Dr.box Dr.more
    simp
theorem Dr.more_ok {c : Dr} (h : c.Ok) (hl : c.ps.length < 12) {p : Nat} (hp : p ≤ c.ps.length) (l t w g : Int) {m : Str} (hm : PyData.strOk m = true) (hb : bd l t w g) (hk : mkOk m) : (c.more p l t w g m).Ok where
  inj := h.inj
  top := h.top
  ok := h.ok
  okm := fun i => by
    unfold Dr.more
    dsimp only
    split
    · exact hm
    · exact h.okm i
  len := by unfold Dr.more; simp; omega
  par := fun i => by
    unfold Dr.more
    dsimp only
    rw [List.getD_eq_getElem?_getD]
    by_cases hi : i < c.ps.length
    · rw [List.getElem?_append_left hi, ← List.getD_eq_getElem?_getD]
      exact h.par i
    · by_cases he : i = c.ps.length
      · subst he
        rw [List.getElem?_append_right (Nat.le_refl _)]
        simpa using hp
      · rw [List.getElem?_eq_none (by simp; omega)]
        exact Nat.zero_le _
  bds := fun i => by
    unfold Dr.more
    dsimp only
    by_cases e : i = c.ps.length
    · rw [if_pos e, if_pos e, if_pos e, if_pos e]; exact hb
    · rw [if_neg e, if_neg e, if_neg e, if_neg e]; exact h.bds i
  mks := fun i => by
    unfold Dr.more
    dsimp only
    split
    · exact hk
    · exact h.mks i
end K40
namespace K40
open PySem L2 L2.PU
noncomputable def sg4 : Nat → Str := fun j => ⟨#[[99, 102, 104, 108].getD j 0]⟩
theorem cfhl : enS [.str "cfhl"] = some ([0, 1, 2, 3].map fun (j : Nat) => PyData.tuple [.int (j : Nat), .str (sg4 j)]) := by
  have e : ("cfhl" : Str).cps.toList = [99, 102, 104, 108] := by decide +kernel
  unfold enS
  dsimp only
  unfold signD
  rw [e]
  rfl
theorem dbg : ("dbgahcfe" : Str).cps.toList = let8 := by decide +kernel
theorem dbg_len : ("dbgahcfe" : Str).length ≤ sizeLine := by decide +kernel
theorem strOk_app {a b : Str} (ha : PyData.strOk a = true) (hb : PyData.strOk b = true) : PyData.strOk (a ++ b) = true := by
  unfold PyData.strOk at ha hb ⊢
  show (a.cps ++ b.cps).all _ = true
  rw [Array.all_append, ha, hb]; rfl
theorem len_app (a b : Str) : (a ++ b).length = a.length + b.length := by
  show (a.cps ++ b.cps).size = _
  rw [Array.size_append]; rfl
theorem sg4_ok (j : Nat) (h : j ∈ [0, 1, 2, 3]) : PyData.strOk (sg4 j) = true := by
  simp at h
  rcases h with rfl | rfl | rfl | rfl <;> decide +kernel
theorem mkS_false (bs : List Bool) : mkS bs = mkS (false :: bs) := by
  show mkS bs = mkS bs ++ ("" : Str)
  apply str_ext
  show _ = ((mkS bs).cps ++ ("" : Str).cps).toList
  have : ("" : Str).cps = #[] := by decide +kernel
  rw [this]; simp
theorem sg4_len (j : Nat) : (sg4 j).length = 1 := rfl
section
variable {ns : List Int} (hn : ns.length ≤ 63)
include hn
theorem marks_ok {x1 x2 x3 x4 x6 x7 x8 : Sl} {hh : Int} (h0 : 0 ≤ hh) (s10 s11 s12 : Sl) : ∃ (m : Str) (u v : Sl), (PyData.strOk m = true ∧ mkOk m) ∧
    sFor (fun η => ((aC (eC (.str "cfhl")) aN) η).bind enS) (tgT (tgCons (tgN 10) (tgCons (tgN 11) tgNil)))
    (sIf (bT (l2 pEq (lA F_qdrawn (aC (eV 0) (aC (l2 pAdd (l2 pAdd (eV 5) (eC (.int 5))) (eV 10)) (aC (l2 pIx (oE (fun η => ((aC (eC (.int 4)) (aC (eC (.int 2)) (aC (eC (.int 9)) (aC (eC (.int 6)) aN)))) η).bind gL)) (eV 10)) aN)))) (eC (.int 0)))) (sSet 9 (l2 pAdd (eV 9) (eV 11))) sNx)
      [.val (Sd ns), x1, x2, x3, x4, .val (.int hh), x6, x7, x8, .val (.str ""), s10, s11, s12] = some (.nx [.val (Sd ns), x1, x2, x3, x4, .val (.int hh), x6, x7, x8, .val (.str m), u, v, s12]) := by
  have inv := sGo_all (t := tgT (tgCons (tgN 10) (tgCons (tgN 11) tgNil)))
    (body := (sIf (bT (l2 pEq (lA F_qdrawn (aC (eV 0) (aC (l2 pAdd (l2 pAdd (eV 5) (eC (.int 5))) (eV 10)) (aC (l2 pIx (oE (fun η => ((aC (eC (.int 4)) (aC (eC (.int 2)) (aC (eC (.int 9)) (aC (eC (.int 6)) aN)))) η).bind gL)) (eV 10)) aN)))) (eC (.int 0)))) (sSet 9 (l2 pAdd (eV 9) (eV 11))) sNx))
    (fun (j : Nat) => PyData.tuple [.int (j : Nat), .str (sg4 j)])
    (fun done η => ∃ (m : Str) (u v : Sl), (PyData.strOk m = true ∧ ∃ bs : List Bool, bs.length = done.length ∧ m = mkS bs) ∧ m.length ≤ done.length ∧ η = [.val (Sd ns), x1, x2, x3, x4, .val (.int hh), x6, x7, x8, .val (.str m), u, v, s12])
    [0, 1, 2, 3] ?_ (η := [.val (Sd ns), x1, x2, x3, x4, .val (.int hh), x6, x7, x8, .val (.str ""), s10, s11, s12]) ⟨"", s10, s11, ⟨by decide +kernel, [], rfl, rfl⟩, by decide +kernel, rfl⟩
  · obtain ⟨η', e1, m, u, v, hm, _, rfl⟩ := inv
    refine ⟨m, u, v, ⟨hm.1, hm.2⟩, for_of (ds := [0, 1, 2, 3].map fun (j : Nat) => PyData.tuple [.int (j : Nat), .str (sg4 j)]) cfhl e1⟩
  · rintro done j rest η hall ⟨m, u, v, hm, hml, rfl⟩
    have hj : j ∈ [0, 1, 2, 3] := by rw [hall]; simp
    have hdl : done.length ≤ 3 := by
      have := congrArg List.length hall
      simp at this
      omega
    have hjd : j = done.length := by
      match done, hall, hdl with
      | [], hall, _ => simp at hall; simp [hall.1]
      | [_], hall, _ => simp at hall; simp [hall.2.1]
      | [_, _], hall, _ => simp at hall; simp [hall.2.2.1]
      | [_, _, _], hall, _ => simp at hall; simp [hall.2.2.2.1]
    obtain ⟨hm, bs, hbs, hmm⟩ := hm
    have hmod : ∃ q : Int, 0 < q ∧ l2 pIx (oE (fun η => ((aC (eC (.int 4)) (aC (eC (.int 2)) (aC (eC (.int 9)) (aC (eC (.int 6)) aN)))) η).bind gL)) (eV 10) [.val (Sd ns), x1, x2, x3, x4, .val (.int hh), x6, x7, x8, .val (.str m), .val (.int (j : Nat)), .val (.str (sg4 j)), s12] = some (.int q) := by
      have eo : oE (fun η => ((aC (eC (.int 4)) (aC (eC (.int 2)) (aC (eC (.int 9)) (aC (eC (.int 6)) aN)))) η).bind gL) [.val (Sd ns), x1, x2, x3, x4, .val (.int hh), x6, x7, x8, .val (.str m), .val (.int (j : Nat)), .val (.str (sg4 j)), s12] = some (.list [.int 4, .int 2, .int 9, .int 6]) := by
        have : gL [.int 4, .int 2, .int 9, .int 6] = some [.int 4, .int 2, .int 9, .int 6] := if_pos (by show 4 ≤ sizeLine; decide)
        show Option.bind (gL [.int 4, .int 2, .int 9, .int 6]) _ = _
        rw [this]; rfl
      simp at hj
      rcases hj with rfl | rfl | rfl | rfl
      · exact ⟨4, by decide, l2_of eo rfl rfl⟩
      · exact ⟨2, by decide, l2_of eo rfl rfl⟩
      · exact ⟨9, by decide, l2_of eo rfl rfl⟩
      · exact ⟨6, by decide, l2_of eo rfl rfl⟩
    obtain ⟨q, hq, eq⟩ := hmod
    obtain ⟨r, hr, er⟩ := drawn_ok hn (k := hh + 5 + (j : Nat)) (m := q) (by omega) hq
    have eb : bT (l2 pEq (lA F_qdrawn (aC (eV 0) (aC (l2 pAdd (l2 pAdd (eV 5) (eC (.int 5))) (eV 10)) (aC (l2 pIx (oE (fun η => ((aC (eC (.int 4)) (aC (eC (.int 2)) (aC (eC (.int 9)) (aC (eC (.int 6)) aN)))) η).bind gL)) (eV 10)) aN)))) (eC (.int 0)))
        [.val (Sd ns), x1, x2, x3, x4, .val (.int hh), x6, x7, x8, .val (.str m), .val (.int (j : Nat)), .val (.str (sg4 j)), s12] = some ((r : Int) == 0) :=
      bT_of (l2_of (lA_of (aC_of rfl (aC_of (l2_of (l2_of rfl rfl rfl) rfl rfl) (aC_of eq rfl))) er) rfl (pEq_int _ _))
    refine ⟨[.val (Sd ns), x1, x2, x3, x4, .val (.int hh), x6, x7, x8, .val (.str m), .val (.int (j : Nat)), .val (.str (sg4 j)), s12], ?_⟩
    by_cases h0 : (r : Int) == 0
    · refine ⟨[.val (Sd ns), x1, x2, x3, x4, .val (.int hh), x6, x7, x8, .val (.str (m ++ sg4 j)), .val (.int (j : Nat)), .val (.str (sg4 j)), s12], rfl, ?_, m ++ sg4 j, _, _, ⟨strOk_app hm (sg4_ok j hj), true :: bs, by simp [hbs], by rw [hmm, hjd, ← hbs]; rfl⟩, ?_, rfl⟩
      · rw [if_of eb, if_pos h0]
        refine set_of (d := .str (m ++ sg4 j)) (l2_of rfl rfl ?_)
        show (if m.length + (sg4 j).length ≤ sizeLine then some (PyData.str (m ++ sg4 j)) else none) = _
        rw [if_pos (by rw [sg4_len]; exact big (by omega))]
      · rw [len_app, sg4_len, List.length_append]
        simpa using hml
    · refine ⟨[.val (Sd ns), x1, x2, x3, x4, .val (.int hh), x6, x7, x8, .val (.str m), .val (.int (j : Nat)), .val (.str (sg4 j)), s12], rfl, ?_, m, _, _, ⟨hm, false :: bs, by simp [hbs], by rw [hmm]; exact mkS_false bs⟩, ?_, rfl⟩
      · rw [if_of eb, if_neg h0]; rfl
      · rw [List.length_append]; simp; omega
end
end K40
namespace K40
open PySem L2 L2.PU
theorem tup1_ok {ds : List PyData} (h : ds.length ≤ 3000000) : (if ds.length ≤ sizeLine then some (PyData.tuple ds) else none) = some (.tuple ds) := if_pos (big h)
theorem gL_ok {ds : List PyData} (h : ds.length ≤ 3000000) : gL ds = some ds := if_pos (big h)
theorem addL {a b : List PyData} (h : a.length + b.length ≤ 3000000) : pAdd (.list a) (.list b) = some (.list (a ++ b)) := if_pos (big h)
theorem addT {a b : List PyData} (h : a.length + b.length ≤ 3000000) : pAdd (.tuple a) (.tuple b) = some (.tuple (a ++ b)) := if_pos (big h)
theorem oE_of {f : En → Option (List PyData)} {η : En} {ds : List PyData} (h : f η = some ds) : oE f η = some (.list ds) := by
  unfold oE
  rw [h]; rfl
theorem comp_eq {mp : List (Option Nat)} {fi : En → Option (List PyData)} {t : En → PyData → Option En} {p : En → Option Bool} {f : En → Option PyData} {η : En} {ds : List PyData} {r : Option (List PyData)} (h1 : fi η = some ds) (hz : ds.length ≤ 3000000) (h2 : cGo t p f (inEn mp η) ds = r) : sComp mp fi t p f η = r := by
  unfold sComp
  rw [h1, Option.bind_some, if_pos (big hz)]
  exact h2
noncomputable def sBody (fn_qdrawn : PFn) : En → Option Out :=
  (sSeq (sSet 5 (l2 pAdd (l2 pAdd (eV 1) (eC (.int 3))) (l2 pMul (eC (.int 9)) (eV 4))))
    (sSeq (sSet 6 (l2 pIx (l2 pAdd (oE (fun η => ((aC (eC (.str "")) aN) η).bind gL)) (oE (sComp [none] (lI asTu (eV 2)) (tgN 0) tTrue (l2 pIx (eV 0) (eC (.int 0)))))) (lA fn_qdrawn (aC (eV 0) (aC (eV 5) (aC (l2 pAdd (eV 4) (eC (.int 1))) aN))))))
    (sSeq (sSetO 7 (sComp [none, some 0, some 5] (fun η => ((aC (eC (.int 2)) aN) η).bind rng1) (tgN 0) tTrue (l2 pSub (lA fn_qdrawn (aC (eV 1) (aC (l2 pAdd (l2 pAdd (eV 2) (eC (.int 1))) (eV 0)) (aC (eC (.int 9)) aN)))) (eC (.int 3)))))
    (fun η => (sSeq (sSetO 8 (sComp [none, some 0, some 5] (fun η => ((aC (eC (.int 2)) aN) η).bind rng1) (tgN 0) tTrue (lA fn_qdrawn (aC (eV 1) (aC (l2 pAdd (l2 pAdd (eV 2) (eC (.int 3))) (eV 0)) (aC (eC (.int 9)) aN))))))
    (fun η => (sSeq (sSet 9 (eC (.str "")))
    (sSeq (sFor (fun η => ((aC (eC (.str "cfhl")) aN) η).bind enS) (tgT (tgCons (tgN 10) (tgCons (tgN 11) tgNil)))
    (sIf (bT (l2 pEq (lA fn_qdrawn (aC (eV 0) (aC (l2 pAdd (l2 pAdd (eV 5) (eC (.int 5))) (eV 10)) (aC (l2 pIx (oE (fun η => ((aC (eC (.int 4)) (aC (eC (.int 2)) (aC (eC (.int 9)) (aC (eC (.int 6)) aN)))) η).bind gL)) (eV 10)) aN)))) (eC (.int 0)))) (sSet 9 (l2 pAdd (eV 9) (eV 11))) sNx))
    (sSeq (sSet 12 (l2 pIx (eC (.str "dbgahcfe")) (l2 pMod (l2 pAdd (eV 4) (eV 3)) (eC (.int 8)))))
    (sSet 2 (l2 pAdd (eV 2) (lA (fun ds => if ds.length ≤ sizeLine then some (.tuple ds) else none) (aC (l2 pAdd (l2 pAdd (lA (fun ds => if ds.length ≤ sizeLine then some (.tuple ds) else none) (aC (eV 12) (aC (eV 6) aN))) (lA pTup (aC (l2 pAdd (eV 7) (eV 8)) aN))) (lA (fun ds => if ds.length ≤ sizeLine then some (.tuple ds) else none) (aC (eV 9) aN))) aN))))))) (frz 8 η))) (frz 7 η)))))
section
variable {ns : List Int} (hn : ns.length ≤ 63)
include hn
theorem two_ok {f : En → Option PyData} {η : En} {mp : List (Option Nat)} (lo hi : Int) (h : ∀ k : Nat, k < 2 → ∃ y, (lo ≤ y ∧ y ≤ hi) ∧ f ((inEn mp η).set 0 (.val (.int (0 + (k : Nat))))) = some (.int y)) : ∃ a b : Int, ((lo ≤ a ∧ a ≤ hi) ∧ (lo ≤ b ∧ b ≤ hi)) ∧ sComp mp (fun η => ((aC (eC (.int 2)) aN) η).bind rng1) (tgN 0) tTrue f η = some [.int a, .int b] := by
  obtain ⟨a, ha, ea⟩ := h 0 (by decide)
  obtain ⟨b, hb, eb⟩ := h 1 (by decide)
  refine ⟨a, b, ⟨ha, hb⟩, comp_eq (ds := rngL 0 2) (rng1_ok (j := 2) (by decide) (by decide)) (by decide) ?_⟩
  have := cGo_map (t := tgN 0) (p := tTrue) (f := f) (η := inEn mp η) (fun (k : Nat) => PyData.int (0 + (k : Nat))) (fun _ => true) (fun k => .int (if k = 0 then a else b)) (List.range 2) fun k hk => by
    refine ⟨_, rfl, rfl, fun _ => ?_⟩
    have hk := List.mem_range.mp hk
    rcases (show k = 0 ∨ k = 1 by omega) with rfl | rfl
    · exact ea
    · exact eb
  exact this
theorem scene_ok {a0 : Int} (ha : 0 ≤ a0) : ∃ (c : Dr) (tn : Nat), c.Ok ∧ c.nm = nmT tn ∧ c.ps.length ≤ 7 ∧ F_qscene [Sd ns, .int a0] = some c.d := by
  obtain ⟨tn, htn, et⟩ := drawn_ok hn (k := a0 + 1) (m := 8) (by omega) (by decide)
  obtain ⟨n, hnn, en⟩ := drawn_ok hn (k := a0) (m := 8) ha (by decide)
  have main := sGo_rng (t := tgN 4) (body := sBody F_qdrawn) (fun k η => ∃ (c : Dr) (s4 s5 s6 s7 s8 s9 s10 s11 s12 : Sl), c.Ok ∧ c.nm = nmT tn ∧ c.ps.length = k ∧ η = [.val (Sd ns), .val (.int a0), .val c.d, .val (.int tn), s4, s5, s6, s7, s8, s9, s10, s11, s12]) n ?st
    (η := [.val (Sd ns), .val (.int a0), .val (.tuple []), .val (.int tn), .un, .un, .un, .un, .un, .un, .un, .un, .un]) ⟨⟨[], nmT tn, fun _ => 0, fun _ => 0, fun _ => 0, fun _ => 0, fun _ => ""⟩, .un, .un, .un, .un, .un, .un, .un, .un, .un,
      ⟨nmT_inj tn, rfl, nmT_ok tn, fun _ => nmT_ok 0 0, by simp, fun _ => by simp, fun _ => by show bd 0 0 0 0; unfold bd; decide, fun _ => ⟨[false, false, false, false], rfl, by show ("" : Str) = mkS [false, false, false, false]; decide +kernel⟩⟩, rfl, rfl, rfl⟩
  case st =>
    rintro k η hk ⟨c, s4, s5, s6, s7, s8, s9, s10, s11, s12, hc, hnm, hlen, rfl⟩
    have hk7 : k < 7 := by omega
    refine ⟨[.val (Sd ns), .val (.int a0), .val c.d, .val (.int tn), .val (.int (0 + (k : Nat))), s5, s6, s7, s8, s9, s10, s11, s12], ?_⟩
    have hh : l2 pAdd (l2 pAdd (eV 1) (eC (.int 3))) (l2 pMul (eC (.int 9)) (eV 4)) [.val (Sd ns), .val (.int a0), .val c.d, .val (.int tn), .val (.int (0 + (k : Nat))), s5, s6, s7, s8, s9, s10, s11, s12] = some (.int (a0 + 3 + 9 * (0 + (k : Nat)))) :=
      l2_of (l2_of rfl rfl rfl) (l2_of rfl rfl (pMul_ok (mulL (by decide) (by decide)))) rfl
    generalize hhe : (a0 + 3 + 9 * (0 + (k : Nat)) : Int) = hr at hh
    have hr0 : 0 ≤ hr := by omega
    obtain ⟨p, hp, ep⟩ := drawn_ok hn (k := hr) (m := 0 + (k : Nat) + 1) hr0 (by omega)
    have hp' : p ≤ k := by omega
    have ea : l2 pIx (l2 pAdd (oE (fun η => ((aC (eC (.str "")) aN) η).bind gL)) (oE (sComp [none] (lI asTu (eV 2)) (tgN 0) tTrue (l2 pIx (eV 0) (eC (.int 0)))))) (lA F_qdrawn (aC (eV 0) (aC (eV 5) (aC (l2 pAdd (eV 4) (eC (.int 1))) aN))))
        [.val (Sd ns), .val (.int a0), .val c.d, .val (.int tn), .val (.int (0 + (k : Nat))), .val (.int hr), s6, s7, s8, s9, s10, s11, s12] = some (c.s p) := by
      have e1 : oE (fun η => ((aC (eC (.str "")) aN) η).bind gL) [.val (Sd ns), .val (.int a0), .val c.d, .val (.int tn), .val (.int (0 + (k : Nat))), .val (.int hr), s6, s7, s8, s9, s10, s11, s12] = some (.list [c.s 0]) := by
        refine oE_of ?_
        show gL [.str ""] = _
        rw [gL_ok (by decide)]
        unfold Dr.s
        rw [hc.top]
      have e2 : oE (sComp [none] (lI asTu (eV 2)) (tgN 0) tTrue (l2 pIx (eV 0) (eC (.int 0)))) [.val (Sd ns), .val (.int a0), .val c.d, .val (.int tn), .val (.int (0 + (k : Nat))), .val (.int hr), s6, s7, s8, s9, s10, s11, s12] = some (.list ((List.range k).map fun i => c.s (i + 1))) := by
        refine oE_of (comp_eq (ds := (List.range c.ps.length).map c.box) rfl (by rw [List.length_map, List.length_range]; omega) ?_)
        rw [hlen]
        have := cGo_map (t := tgN 0) (p := tTrue) (f := l2 pIx (eV 0) (eC (.int 0))) (η := [.un]) c.box (fun _ => true) (fun i => c.s (i + 1)) (List.range k) fun i _ => ⟨_, rfl, rfl, fun _ => rfl⟩
        rw [show (List.range k).filter (fun _ => true) = List.range k by simp] at this
        exact this
      refine l2_of (l2_of e1 e2 (addL (by simp; omega))) (lA_of (aC_of rfl (aC_of rfl (aC_of (l2_of rfl rfl rfl) rfl))) ep) ?_
      show atI ([c.s 0] ++ (List.range k).map fun i => c.s (i + 1)) (p : Int) = _
      refine atI_nat ?_
      cases p with
      | zero => rfl
      | succ j =>
        show ((List.range k).map fun i => c.s (i + 1))[j]? = _
        rw [List.getElem?_map, List.getElem?_range (by omega)]
        rfl
    obtain ⟨pa, pb, hbp, epl⟩ := two_ok hn (-3) 5 (mp := [none, some 0, some 5]) (f := l2 pSub (lA F_qdrawn (aC (eV 1) (aC (l2 pAdd (l2 pAdd (eV 2) (eC (.int 1))) (eV 0)) (aC (eC (.int 9)) aN)))) (eC (.int 3)))
      (η := [.val (Sd ns), .val (.int a0), .val c.d, .val (.int tn), .val (.int (0 + (k : Nat))), .val (.int hr), .val (c.s p), s7, s8, s9, s10, s11, s12]) fun j hj => by
        obtain ⟨r, hr9, er⟩ := drawn_ok hn (k := hr + 1 + (0 + (j : Nat))) (m := 9) (by omega) (by decide)
        exact ⟨(r : Int) - 3, by omega, l2_of (lA_of (aC_of rfl (aC_of (l2_of (l2_of rfl rfl rfl) rfl rfl) (aC_of rfl rfl))) er) rfl rfl⟩
    obtain ⟨sa, sb, hbs, esz⟩ := two_ok hn 0 8 (mp := [none, some 0, some 5]) (f := lA F_qdrawn (aC (eV 1) (aC (l2 pAdd (l2 pAdd (eV 2) (eC (.int 3))) (eV 0)) (aC (eC (.int 9)) aN))))
      (η := [.val (Sd ns), .val (.int a0), .val c.d, .val (.int tn), .val (.int (0 + (k : Nat))), .val (.int hr), .val (c.s p), .val (.list [.int pa, .int pb]), s8, s9, s10, s11, s12]) fun j hj => by
        obtain ⟨r, hr9, er⟩ := drawn_ok hn (k := hr + 3 + (0 + (j : Nat))) (m := 9) (by omega) (by decide)
        exact ⟨(r : Int), by omega, lA_of (aC_of rfl (aC_of (l2_of (l2_of rfl rfl rfl) rfl rfl) (aC_of rfl rfl))) er⟩
    obtain ⟨m, u, v, hm, em⟩ := marks_ok hn (x1 := .val (.int a0)) (x2 := .val c.d) (x3 := .val (.int tn)) (x4 := .val (.int (0 + (k : Nat)))) (x6 := .val (c.s p)) (x7 := .val (.list [.int pa, .int pb])) (x8 := .val (.list [.int sa, .int sb])) hr0 s10 s11 s12
    have enm : l2 pIx (eC (.str "dbgahcfe")) (l2 pMod (l2 pAdd (eV 4) (eV 3)) (eC (.int 8))) [.val (Sd ns), .val (.int a0), .val c.d, .val (.int tn), .val (.int (0 + (k : Nat))), .val (.int hr), .val (c.s p), .val (.list [.int pa, .int pb]), .val (.list [.int sa, .int sb]), .val (.str m), u, v, s12] = some (c.s (k + 1)) := by
      refine l2_of rfl (l2_of (l2_of rfl rfl rfl) rfl (pMod_ok (by decide))) ?_
      show (if ("dbgahcfe" : Str).length ≤ sizeLine then (atI ("dbgahcfe" : Str).cps.toList ((0 + (k : Nat) + (tn : Int)) % 8)).bind _ else none) = _
      rw [if_pos dbg_len, dbg]
      have e8 : ((0 + (k : Nat) + (tn : Int)) % 8 : Int) = (((k + tn) % 8 : Nat) : Int) := by omega
      have hlt : (k + tn) % 8 < 8 := Nat.mod_lt _ (by decide)
      rw [e8, atI_nat (v := let8.getD ((k + tn) % 8) 0) (by rw [List.getD_eq_getElem?_getD, List.getElem?_eq_getElem (show (k + tn) % 8 < let8.length from hlt)]; rfl)]
      unfold Dr.s
      rw [hnm, nmT_lo (by omega)]
      rfl
    have hcd : c.d = .tuple ((List.range c.ps.length).map c.box) := rfl
    have efin : l2 pAdd (eV 2) (lA (fun ds => if ds.length ≤ sizeLine then some (.tuple ds) else none) (aC (l2 pAdd (l2 pAdd (lA (fun ds => if ds.length ≤ sizeLine then some (.tuple ds) else none) (aC (eV 12) (aC (eV 6) aN))) (lA pTup (aC (l2 pAdd (eV 7) (eV 8)) aN))) (lA (fun ds => if ds.length ≤ sizeLine then some (.tuple ds) else none) (aC (eV 9) aN))) aN))
        [.val (Sd ns), .val (.int a0), .val c.d, .val (.int tn), .val (.int (0 + (k : Nat))), .val (.int hr), .val (c.s p), .val (.list [.int pa, .int pb]), .val (.list [.int sa, .int sb]), .val (.str m), u, v, .val (c.s (k + 1))] = some (c.more p pa pb sa sb m).d := by
      rw [Dr.more_d]
      refine l2_of (x := c.d) rfl (lA_of (aC_of (l2_of (l2_of (lA_of (aC_of rfl (aC_of rfl rfl)) (tup1_ok (by simp))) (lA_of (aC_of (l2_of rfl rfl (addL (by simp))) rfl) rfl) (addT (by simp))) (lA_of (aC_of rfl rfl) (tup1_ok (by simp))) (addT (by simp))) rfl) (tup1_ok (by simp))) ?_
      rw [hcd]
      refine (addT (by simp; omega)).trans ?_
      rw [hlen]
      rfl
    refine ⟨[.val (Sd ns), .val (.int a0), .val (c.more p pa pb sa sb m).d, .val (.int tn), .val (.int (0 + (k : Nat))), .val (.int hr), .val (c.s p), .val (.list [.int pa, .int pb]), .val (.list [.int sa, .int sb]), .val (.str m), u, v, .val (c.s (k + 1))], rfl, ?_,
      c.more p pa pb sa sb m, _, _, _, _, _, _, _, _, _, Dr.more_ok hc (by omega) (by omega) pa pb sa sb hm.1 ⟨hbp.1, hbp.2, hbs.1, hbs.2⟩ hm.2, hnm, by simp [Dr.more, hlen], rfl⟩
    refine seq_of (set_of hh) (seq_of (set_of ea) (seq_of (setO_of epl) ?_))
    refine seq_of (setO_of esz) ?_
    refine seq_of (set_of rfl) (seq_of em (seq_of (set_of enm) (set_of efin)))
  obtain ⟨η', e1, c, s4, s5, s6, s7, s8, s9, s10, s11, s12, hc, hnm, hlen, rfl⟩ := main
  refine ⟨c, tn, hc, hnm, by omega, ?_⟩
  unfold F_qscene runF
  rw [if_pos (by rfl)]
  show Option.bind (g_qscene F_qdrawn [.val (Sd ns), .val (.int a0), .un, .un, .un, .un, .un, .un, .un, .un, .un, .un, .un]) _ = _
  have e2 : g_qscene F_qdrawn [.val (Sd ns), .val (.int a0), .un, .un, .un, .un, .un, .un, .un, .un, .un, .un, .un] = some (.rt c.d) := by
    refine seq_of (set_of (lA_of rfl (tup1_ok (by decide)))) (seq_of (set_of (lA_of (aC_of rfl (aC_of (l2_of rfl rfl rfl) (aC_of rfl rfl))) et)) (seq_of (for_of ?_ e1) rfl))
    show Option.bind (aC (lA F_qdrawn _) aN _) rng1 = _
    rw [aC_of (lA_of (aC_of rfl (aC_of rfl (aC_of rfl rfl))) en) rfl]
    rw [Option.bind_some, rng1_ok (by omega) (by omega), Int.toNat_natCast]
  rw [e2]; rfl
end
end K40
namespace K40
open PySem L2 L2.PU
theorem eqvAll_refl_str : ∀ ss : List Str, PyData.eqvAll (ss.map PyData.str) (ss.map PyData.str) = true
  | [] => by simp [PyData.eqvAll]
  | s :: r => by
    have ih := eqvAll_refl_str r
    rw [List.map_cons]
    unfold PyData.eqvAll PyData.eqv
    rw [ih, str_dec, decide_eq_true rfl]; rfl
theorem shaped_strs {ss : List Str} (h : ∀ s ∈ ss, PyData.strOk s = true) : SeqAt.shaped (.list (ss.map PyData.str)) = true := by
  have h1 : PyData.canLayAll0 (ss.map PyData.str) = true := by
    induction ss with
    | nil => rfl
    | cons x r ih => simp [PyData.canLayAll0, PyData.canLay0, h x List.mem_cons_self, ih fun s hs => h s (List.mem_cons_of_mem _ hs)]
  have h2 : PyData.depthAll (ss.map PyData.str) = 0 := by
    clear h h1
    induction ss with
    | nil => rfl
    | cons x r ih => simp [PyData.depthAll, PyData.depth, ih]
  simp [SeqAt.shaped, PyData.canLay0, PyData.depth, h1, h2]
theorem pNe_strs {ss : List Str} (h : ∀ s ∈ ss, PyData.strOk s = true) : pNe (.list (ss.map PyData.str)) (.list (ss.map PyData.str)) = some (.bool false) := by
  unfold pNe
  rw [if_pos ⟨shaped_strs h, shaped_strs h⟩]
  unfold PyData.eqv
  rw [eqvAll_refl_str]; rfl
theorem bOr_of {f g : En → Option Bool} {η : En} {b : Bool} (h1 : f η = some false) (h2 : g η = some b) : bOr f g η = some b := by
  unfold bOr
  rw [h1]; exact h2
theorem bAndF {f g : En → Option Bool} {η : En} (h1 : f η = some false) : bAnd f g η = some false := by
  unfold bAnd
  rw [h1]; rfl
theorem bAndT {f g : En → Option Bool} {η : En} {b : Bool} (h1 : f η = some true) (h2 : g η = some b) : bAnd f g η = some b := by
  unfold bAnd
  rw [h1]; exact h2
theorem ifF {c : En → Option Bool} {f g : En → Option Out} {η : En} (h : c η = some false) : sIf c f g η = g η := by
  rw [if_of h]; rfl
theorem vIf_of {c : En → Option Bool} {f g : En → Option PyData} {η : En} {b : Bool} (h : c η = some b) : vIf c f g η = if b = true then f η else g η := by
  unfold vIf
  rw [h]; rfl
theorem eSl_of {f : En → Option PyData} {fl fh : En → Option (Option Int)} {η : En} {x d : PyData} {l h : Option Int} (h1 : f η = some x) (h2 : fl η = some l) (h3 : fh η = some h) (h4 : pSl x l h = some d) : eSl f fl fh η = some d := by
  unfold eSl
  rw [h1, Option.bind_some, h2, Option.bind_some, h3]; exact h4
theorem pS_of {f : En → Option PyData} {η : En} {i : Int} (h : f η = some (.int i)) : pS f η = some (some i) := by
  unfold pS
  rw [h]; rfl
theorem lI_of {k : PyData → Option (List PyData)} {f : En → Option PyData} {η : En} {d : PyData} {ds : List PyData} (h : f η = some d) (h2 : k d = some ds) : lI k f η = some ds := by
  unfold lI
  rw [h]; exact h2
section
variable {c : Sc} (h : c.Ok)
theorem flat_all (l : List Nat) : (l.map c.s).all flatD = true := by
  rw [List.all_map, List.all_eq_true]
  intro x _
  rfl
include h
theorem eqv_s (a b : Nat) : PyData.eqv (c.s a) (c.s b) = decide (a = b) := by
  unfold Sc.s PyData.eqv
  rw [str_dec, h.dec]
theorem any_s (x : Nat) (l : List Nat) : ((l.map c.s).any fun y => PyData.eqv y (c.s x)) = decide (x ∈ l) := by
  induction l with
  | nil => simp
  | cons y r ih =>
    rw [List.map_cons, List.any_cons, ih, eqv_s h]
    by_cases e : y = x
    · subst e; simp
    · have : ¬ x = y := fun z => e z.symm
      simp [e, this]
theorem pIn_s (neg : Bool) (x : Nat) (l : List Nat) : pIn neg (c.s x) (c.S l) = some (.bool (if neg then !decide (x ∈ l) else decide (x ∈ l))) := by
  unfold pIn Sc.S
  dsimp only
  rw [if_pos ⟨rfl, flat_all l⟩, any_s h]
theorem pIdx_s {x : Nat} {l : List Nat} (hx : x ∈ l) : pIdx (c.S l) (c.s x) = some (.int ((l.idxOf x : Nat) : Int)) := by
  unfold pIdx Sc.S
  dsimp only
  rw [if_pos ⟨rfl, flat_all l⟩]
  have : (l.map c.s).findIdx? (fun z => PyData.eqv z (c.s x)) = some (l.idxOf x) := by
    induction l with
    | nil => cases hx
    | cons y r ih =>
      rw [List.map_cons, List.findIdx?_cons, eqv_s h, List.idxOf_cons]
      by_cases e : y = x
      · subst e; simp
      · have hr : x ∈ r := by
          rcases List.mem_cons.mp hx with z | z
          · exact absurd z.symm e
          · exact z
        rw [ih hr]
        have e' : (y == x) = false := by simpa using e
        simp [e, e']
  rw [this]; rfl
omit h in
theorem at_s {l : List Nat} {i : Int} {x : Nat} (e : atI l i = some x) : atI (l.map c.s) i = some (c.s x) := by
  unfold atI at e ⊢
  obtain ⟨j, h1, h2⟩ := bind_some e
  rw [List.length_map, h1, Option.bind_some, List.getElem?_map, h2]; rfl
omit h in
theorem cut_map {α β : Type} (f : α → β) (xs : List α) (lo hi : Option Int) : cutL (xs.map f) lo hi = (cutL xs lo hi).map f := by
  unfold cutL
  rw [List.length_map, List.map_take, List.map_drop]
omit h in
theorem cut_to {α : Type} (xs : List α) (k : Nat) : cutL xs none (some (k : Int)) = xs.take k := by
  unfold cutL
  rw [HT.sIx_none, HT.sIx_nat, List.drop_zero, Nat.sub_zero]
  exact List.take_eq_take_iff.mpr (by omega)
end
end K40
namespace K40
open PySem L2 L2.PU
theorem bind_of {α β : Type} {o : Option α} {k : α → Option β} {x : α} {r : Option β} (h : o = some x) (h2 : k x = r) : o.bind k = r := by
  rw [h]; exact h2
theorem pNe_self {d : PyData} (h : SeqAt.shaped d = true) : pNe d d = some (.bool false) := by
  unfold pNe
  rw [if_pos ⟨h, h⟩, SeqAt.eqv_refl d (SeqAt.canLay_of_shaped h)]; rfl
theorem ifN {c : En → Option Bool} {f : En → Option Out} {η : En} (h : c η = some false) : sIf c f sNx η = some (.nx η) := by
  rw [ifF h]; rfl
theorem bNot_of {f : En → Option Bool} {η : En} {b : Bool} (h : f η = some b) : bNot f η = some (!b) := by
  unfold bNot
  rw [h]; rfl
theorem bAnd_of {f g : En → Option Bool} {η : En} {a b : Bool} (h1 : f η = some a) (h2 : g η = some b) : bAnd f g η = some (a && b) := by
  unfold bAnd
  rw [h1]
  cases a with
  | false => rfl
  | true => exact h2
theorem vNot_of {f : En → Option PyData} {η : En} {b : Bool} (h : f η = some (.bool b)) : vNot f η = some (.bool (!b)) := by
  unfold vNot
  rw [h]; rfl
theorem vAnd_of {f g : En → Option PyData} {η : En} {a b : Bool} (h1 : f η = some (.bool a)) (h2 : g η = some (.bool b)) : vAnd f g η = some (.bool (a && b)) := by
  unfold vAnd
  rw [h1]
  cases a with
  | false => rfl
  | true => exact h2
theorem run_of {n m : Nat} {g : En → Option Out} {ds : List PyData} {d : PyData} (hl : ds.length = n) (h : g (ds.map Sl.val ++ List.replicate (m - n) .un) = some (.rt d)) : runF n m g ds = some d := by
  unfold runF
  rw [if_pos hl, h]; rfl
theorem ret_of {f : En → Option PyData} {η : En} {d : PyData} (h : f η = some d) : sRet f η = some (.rt d) := by
  unfold sRet
  rw [h]; rfl
theorem cGo_mapT {ι : Type} {t : En → PyData → Option En} {f : En → Option PyData} {η : En} (D : ι → PyData) (Y : ι → PyData) (xs : List ι) (h : ∀ x ∈ xs, ∃ η1, t η (D x) = some η1 ∧ f η1 = some (Y x)) : cGo t tTrue f η (xs.map D) = some (xs.map Y) := by
  have := cGo_map (t := t) (p := tTrue) (f := f) (η := η) D (fun _ => true) Y xs fun x hx => by
    obtain ⟨η1, h1, h2⟩ := h x hx
    exact ⟨η1, h1, rfl, fun _ => h2⟩
  rw [show xs.filter (fun _ => true) = xs by simp] at this
  exact this
theorem pAny_of (bs : List Bool) : pAny [.list (bs.map PyData.bool)] = some (.bool (bs.any id)) := by
  unfold pAny pBools
  dsimp only
  rw [asBs_bools]; rfl
theorem pMax_of (i j : Int) : pMax [.int i, .int j] = some (.int (max i j)) := by
  show some (PyData.int (if j > i then j else i)) = _
  have : (if j > i then j else i) = max i j := by split <;> omega
  rw [this]
theorem pMin_of (i j : Int) : pMin [.int i, .int j] = some (.int (min i j)) := by
  show some (PyData.int (if j < i then j else i)) = _
  have : (if j < i then j else i) = min i j := by split <;> omega
  rw [this]
noncomputable def inM (s m : Str) : Bool := !(Builtin.Str.occurrences m s 0 m.length 1).isEmpty
noncomputable def Sc.geo (c : Sc) : Geo := ⟨c.L, c.T, c.W, c.H, fun q => inM "c" (c.mr q), fun q => inM "h" (c.mr q), fun q => inM "l" (c.mr q)⟩
structure Tr (c : Sc) (ps : List Nat) (D : Nat → Prop) (pnt : List Nat) : Prop where
  ok : c.Ok
  din : ∀ q, D q → In ps q
  par : ∀ q, D q → parN c.st q = some (K40.par ps q)
  path : ∀ q, D q → pthN c.st 13 q = some (P ps q)
  up : ∀ q, D q → ∀ x ∈ P ps q, D x
  pn : pntN c.st = some pnt
  pd : ∀ q ∈ pnt, D q
  pl : pnt.length ≤ 2000000
  ps : PsOk ps
theorem P_len {ps : List Nat} (q : Nat) : (P ps q).length ≤ q := pF_len q q
theorem not_any (h : Nat → Bool) : ∀ l : List Nat, (!(l.map h).any id) = l.all fun x => !h x
  | [] => rfl
  | x :: r => by
    have := not_any h r
    rw [List.map_cons, List.any_cons, List.all_cons, ← this]
    cases h x <;> simp
section
variable {c : Sc} {ps : List Nat} {D : Nat → Prop} {pnt : List Nat} (t : Tr c ps D pnt)
include t
theorem T_box {q : Nat} (hq : D q) : F_box_of [c.d, c.s q] = some (c.box (q, par ps q)) := F_box_eq t.ok (t.par q hq)
theorem T_path {q : Nat} (hq : D q) : F_path_of 13 [c.d, c.s q] = some (c.S (P ps q)) := F_path_eq t.ok 13 q _ (t.path q hq)
theorem in_7 {q : Nat} (hq : D q) : q ≤ 7 := Nat.le_trans (t.din q hq).2 t.ps.len
theorem P_7 {q : Nat} (hq : D q) : (P ps q).length ≤ 7 := Nat.le_trans (P_len q) (in_7 t hq)
theorem T_painted : F_painted [c.d] = some (c.S pnt) := F_painted_eq t.ok t.pn
theorem T_mark {q : Nat} (hq : D q) (m : Str) : F_has_mark [c.d, c.s q, .str m] = some (.bool (inM m (c.mr q))) :=
  run_of rfl (show g_has_mark F_box_of [.val c.d, .val (c.s q), .val (.str m)] = _ from ret_of (l2_of rfl (l2_of (lA_of (aC_of rfl (aC_of rfl rfl)) (T_box t hq)) rfl rfl) rfl))
theorem T_shown {q : Nat} (hq : D q) : F_is_shown [c.d, c.s q] = some (.bool (c.geo.shown ps q)) := by
  have e : sComp [none, some 0] (lI asL (lA (F_path_of 13) (aC (eV 0) (aC (eV 1) aN)))) (tgN 0) tTrue (lA F_has_mark (aC (eV 1) (aC (eV 0) (aC (eC (.str "h")) aN)))) [.val c.d, .val (c.s q)] = some (((P ps q).map c.geo.h).map PyData.bool) := by
    refine comp_eq (ds := (P ps q).map c.s) (lI_of (lA_of (aC_of rfl (aC_of rfl rfl)) (T_path t hq)) rfl) (by rw [List.length_map]; have := P_7 t hq; omega) ?_
    rw [List.map_map]
    exact cGo_mapT (η := [.un, .val c.d]) c.s (fun x => .bool (c.geo.h x)) (P ps q) fun x hx => ⟨[.val (c.s x), .val c.d], rfl, lA_of (aC_of rfl (aC_of rfl (aC_of rfl rfl))) (T_mark t (t.up q hq x hx) "h")⟩
  have e2 := vNot_of (lA_of (aC_of (g := aN) (oE_of e) rfl) (pAny_of _))
  rw [not_any] at e2
  exact run_of rfl (show g_is_shown (F_path_of 13) F_has_mark [.val c.d, .val (c.s q)] = _ from ret_of e2)
omit t in
end
end K40
namespace K40
open PySem L2 L2.PU
noncomputable def nxt (heirs names : List Nat) (k : Nat) : Option Nat := if k ∈ names then some k else (heirs.filter (fun x => decide (x ∈ names)) ++ names).head?
theorem nxt_mem {heirs N : List Nat} {k a : Nat} (h : nxt heirs N k = some a) : a ∈ N := by
  unfold nxt at h
  split at h
  · rename_i hk
    cases h; exact hk
  · have := List.mem_of_mem_head? (a := a) (by rw [h]; rfl)
    rcases List.mem_append.mp this with z | z
    · simpa using (List.mem_filter.mp z).2
    · exact z
end K40
namespace K40
open PySem L2 L2.PU
noncomputable def fo (a b k : PyData) : List (Str × D) := [("scene", .d a), ("fence", .d b), ("keyed", .d k)]
noncomputable abbrev Fo (s : Sto) (n : Nat) (a b k : PyData) : Prop := s[n]? = some (.obj 0 (fo a b k))
noncomputable def obF (s : Sto) (a b k : PyData) : Str → Option PyData := fun f => ((fo a b k).lookup f).bind (pD s)
section
variable {s : Sto} {n : Nat} {a b k : PyData} {η : MEn}
theorem vw1 (hc : Fo s n a b k) : vw ⟨some (.r n) :: η, s⟩ = .ob (obF s a b k) :: vw ⟨η, s⟩ := by
  unfold vw
  rw [List.map_cons, vwS_obj hc]; rfl
theorem f_scene (l : En) : eFld 0 "scene" (.ob (obF s a b k) :: l) = some a := by rfl
theorem f_fence (l : En) : eFld 0 "fence" (.ob (obF s a b k) :: l) = some b := by rfl
theorem f_keyed (l : En) : eFld 0 "keyed" (.ob (obF s a b k) :: l) = some k := by rfl
theorem Fo.set (hc : Fo s n a b k) (x y z : PyData) : Fo (s.set n (.obj 0 (fo x y z))) n x y z := List.getElem?_set_self (List.getElem?_eq_some_iff.mp hc).1
theorem set_same {l : Sto} {c : Cell} (h : l[n]? = some c) : l.set n c = l := by
  refine List.ext_getElem? fun i => ?_
  by_cases hi : n = i
  · subst hi; rw [List.getElem?_set_self (List.getElem?_eq_some_iff.mp h).1, h]
  · rw [List.getElem?_set_ne hi]
theorem set_set {l : Sto} {c c' : Cell} : (l.set n c).set n c' = l.set n c' := List.set_set ..
theorem F_init (s0 : Sto) (x : PyData) : F_X___init__ [.r s0.length, .d x] (s0 ++ [.obj 0 []]) = some (.d .none, s0 ++ [.obj 0 (fo x .none .none)]) := by
  have e0 : (s0 ++ [Cell.obj 0 []])[s0.length]? = some (.obj 0 []) := by rw [List.getElem?_append_right (Nat.le_refl _), Nat.sub_self]; rfl
  have st : ∀ c c' : Cell, (s0 ++ [c]).set s0.length c' = s0 ++ [c'] := fun c c' => by rw [List.set_append_right _ _ (Nat.le_refl _), Nat.sub_self]; rfl
  have ge : ∀ c : Cell, (s0 ++ [c])[s0.length]? = some c := fun c => by rw [List.getElem?_append_right (Nat.le_refl _), Nat.sub_self]; rfl
  show runM 2 2 g_X___init__ [.r s0.length, .d x] (s0 ++ [.obj 0 []]) = _
  refine mRunN (w1 := ⟨[some (.r s0.length), some (.d x)], s0 ++ [.obj 0 (fo x .none .none)]⟩) rfl ?_
  show g_X___init__ ⟨[some (.r s0.length), some (.d x)], s0 ++ [.obj 0 []]⟩ = _
  have p1 : mPut 0 "scene" (mV 0) (mP (eV 1)) ⟨[some (.r s0.length), some (.d x)], s0 ++ [.obj 0 []]⟩ = some (.nx ⟨[some (.r s0.length), some (.d x)], s0 ++ [.obj 0 [("scene", .d x)]]⟩) := by
    rw [mPut_of (d := .d x) (n := s0.length) (fs := []) (mP_of rfl) rfl (ge _) (by decide)]
    dsimp only
    rw [st]; rfl
  have p2 : mPut 0 "fence" (mV 0) (mP (eC .none)) ⟨[some (.r s0.length), some (.d x)], s0 ++ [.obj 0 [("scene", .d x)]]⟩ = some (.nx ⟨[some (.r s0.length), some (.d x)], s0 ++ [.obj 0 [("scene", .d x), ("fence", .d .none)]]⟩) := by
    rw [mPut_of (d := .d .none) (n := s0.length) (fs := [("scene", .d x)]) (mP_of rfl) rfl (ge _) (by simp)]
    dsimp only
    rw [st]; rfl
  refine mSeq_of p1 (mSeq_of p2 ?_)
  rw [mPut_of (d := .d .none) (n := s0.length) (fs := [("scene", .d x), ("fence", .d .none)]) (mP_of rfl) rfl (ge _) (by simp)]
  dsimp only
  rw [st]; rfl
theorem F_now (hc : Fo s n a b k) : F_X_now [.r n] s = some (.d k, s) := by
  refine mRun_of rfl (show g_X_now ⟨[some (.r n)], s⟩ = _ from mRet_of (mP_of ?_))
  rw [vw1 hc]; rfl
end
section
variable {c : Sc} {ps : List Nat} {Dm : Nat → Prop} {pnt : List Nat} {s : Sto} {n : Nat} {k : PyData}
noncomputable def kf (c : Sc) (ps : List Nat) (q : Nat) : Bool := c.geo.shown ps q && inM "f" (c.mr q)
theorem T_can (t : Tr c ps Dm pnt) {q : Nat} (hq : Dm q) : F_can_have_keys [c.d, c.s q] = some (.bool (kf c ps q)) :=
  run_of rfl (show g_can_have_keys F_has_mark F_is_shown [.val c.d, .val (c.s q)] = _ from ret_of (vAnd_of (lA_of (aC_of rfl (aC_of rfl rfl)) (T_shown t hq)) (lA_of (aC_of rfl (aC_of rfl (aC_of rfl rfl))) (T_mark t hq "f"))))
theorem ord_comp (t : Tr c ps Dm pnt) {l : List Nat} (hl : ∀ x ∈ l, Dm x) (hz : l.length ≤ 2000000) {x0 : En} {b : PyData} (hv : x0 = [.ob (obF s c.d b k), .val (c.S l)]) :
    oE (sComp [none, some 0] (lI asL (eV 1)) (tgN 0) (bT (lA F_can_have_keys (aC (eFld 1 "scene") (aC (eV 0) aN)))) (eV 0)) x0 = some (c.S (l.filter (kf c ps))) := by
  subst hv
  refine oE_of (comp_eq (ds := l.map c.s) (lI_of rfl rfl) (by rw [List.length_map]; omega) ?_)
  exact cGo_map (η := [.un, .ob (obF s c.d b k)]) c.s (kf c ps) c.s l fun x hx => ⟨[.val (c.s x), .ob (obF s c.d b k)], rfl, bT_of (lA_of (aC_of rfl (aC_of rfl rfl)) (T_can t (hl x hx))), fun _ => rfl⟩
theorem F_ord (t : Tr c ps Dm pnt) (hc : Fo s n c.d .none k) : F_X_order [.r n] s = some (.d (c.S (pnt.filter (kf c ps))), s) := by
  refine mRun_of rfl (show g_X_order F_painted (F_below 13) F_can_have_keys ⟨[some (.r n), none], s⟩ = _ from ?_)
  refine mSeq_of (w1 := ⟨[some (.r n), some (.d (c.S pnt))], s⟩) (mSet_of (mP_of ?_)) (mRet_of (mP_of ?_))
  · rw [vw1 hc, vIf_of (b := true) (bT_of (l2_of (f_fence _) rfl rfl)), if_pos rfl]
    exact lA_of (aC_of (f_scene _) rfl) (T_painted t)
  · rw [vw1 hc]
    exact ord_comp (s := s) (k := k) (b := .none) t t.pd t.pl rfl
theorem F_ordF (t : Tr c ps Dm pnt) {q : Nat} {inner : List Nat} (hb : blwN c.st 13 q = some inner) (hi : ∀ x ∈ inner, Dm x) (hz : inner.length ≤ 2000000) (hc : Fo s n c.d (c.s q) k) : F_X_order [.r n] s = some (.d (c.S (inner.filter (kf c ps))), s) := by
  refine mRun_of rfl (show g_X_order F_painted (F_below 13) F_can_have_keys ⟨[some (.r n), none], s⟩ = _ from ?_)
  refine mSeq_of (w1 := ⟨[some (.r n), some (.d (c.S inner))], s⟩) (mSet_of (mP_of ?_)) (mRet_of (mP_of ?_))
  · rw [vw1 hc, vIf_of (b := false) (bT_of (l2_of (f_fence _) rfl rfl)), if_neg Bool.false_ne_true]
    exact lA_of (aC_of (f_scene _) (aC_of (f_fence _) rfl)) (F_below_eq t.ok 13 q inner hb)
  · rw [vw1 hc]
    exact ord_comp (s := s) (k := k) (b := c.s q) t hi hz rfl
end
end K40
namespace K40
open PySem L2 L2.PU
noncomputable def kD (c : Sc) : Option Nat → PyData
  | some x => c.s x
  | none => .none
theorem cat_s {c : Sc} {l m : List Nat} (hl : l.length ≤ 1000) (hm : m.length ≤ 1000) : pAdd (c.S l) (c.S m) = some (c.S (l ++ m)) := by
  unfold pAdd Sc.S
  dsimp only
  rw [if_pos (by rw [List.length_map, List.length_map]; exact big (by omega)), ← List.map_append]
theorem cut_from {α : Type} (xs : List α) (k : Nat) : cutL xs (some (k : Int)) none = xs.drop k := by
  unfold cutL
  rw [HT.sIx_nat, HT.sIx_none]
  rcases Nat.le_total k xs.length with h | h
  · rw [Nat.min_eq_left h]
    exact List.take_of_length_le (by rw [List.length_drop]; omega)
  · rw [Nat.min_eq_right h, List.drop_eq_nil_of_le (Nat.le_refl _), List.drop_eq_nil_of_le h, List.take_nil]
theorem from_s {c : Sc} (l : List Nat) (k : Nat) : pSl (c.S l) (some (k : Int)) none = some (c.S (l.drop k)) := by
  show some (PyData.list _) = _
  rw [cut_map, cut_from]; rfl
theorem to_s {c : Sc} (l : List Nat) (k : Nat) : pSl (c.S l) none (some (k : Int)) = some (c.S (l.take k)) := by
  show some (PyData.list _) = _
  rw [cut_map, cut_to]; rfl
theorem hd_s {c : Sc} {l : List Nat} : (if decide (l ≠ []) = true then pIx (c.S l) (.int 0) else some .none) = some (kD c l.head?) := by
  cases l with
  | nil => rfl
  | cons a r =>
    rw [if_pos (by simp)]
    show atI ((a :: r).map c.s) 0 = some (c.s a)
    refine at_s ?_
    unfold atI ixN
    rw [if_pos (Int.le_refl 0)]
    simp
section
variable {s : Sto} {n : Nat} {a b : PyData} {c : Sc}
theorem settle_none (hc : Fo s n a b .none) {N : List Nat} {hs : PyData} (hN : F_X_order [.r n] s = some (.d (c.S N), s)) :
    F_X_settle [.r n, .d hs] s = some (.d .none, s) := by
  show runM 2 4 (g_X_settle F_X_order) [.r n, .d hs] s = _
  refine mRunN (w1 := ⟨[some (.r n), some (.d hs), some (.d (c.S N)), none], s⟩) rfl ?_
  show g_X_settle F_X_order ⟨[some (.r n), some (.d hs), none, none], s⟩ = _
  refine mSeq_of (w1 := ⟨[some (.r n), some (.d hs), some (.d (c.S N)), none], s⟩) (mSet_of (mMeth_of rfl hc rfl rfl hN)) (mIfN (tPv_of ?_))
  rw [vw1 hc]
  show (bAnd (bT (l2 (pIsN true) (eFld 0 "keyed") (eC .none))) (bT (l2 (pIn true) (eFld 0 "keyed") (eV 2)))) _ = _
  unfold bAnd
  rw [bT_of (l2_of (f_keyed _) rfl rfl)]; rfl
theorem F_settle (h : c.Ok) {k : Nat} (hc : Fo s n a b (c.s k)) {H N : List Nat} (hN : F_X_order [.r n] s = some (.d (c.S N), s)) (lN : N.length ≤ 1000) (lH : H.length ≤ 1000) :
    F_X_settle [.r n, .d (c.S H)] s = some (.d .none, s.set n (.obj 0 (fo a b (kD c (nxt H N k))))) := by
  have et : ∀ l : En, bAnd (bT (l2 (pIsN true) (eFld 0 "keyed") (eC .none))) (bT (l2 (pIn true) (eFld 0 "keyed") (eV 2))) (.ob (obF s a b (c.s k)) :: .val (c.S H) :: .val (c.S N) :: l) = some (!decide (k ∈ N)) := fun l =>
    bAnd_of (a := true) (bT_of (l2_of (f_keyed _) rfl rfl)) (bT_of (l2_of (f_keyed _) rfl (pIn_s h true k N)))
  show runM 2 4 (g_X_settle F_X_order) [.r n, .d (c.S H)] s = _
  by_cases hk : k ∈ N
  · have en : nxt H N k = some k := by unfold nxt; rw [if_pos hk]
    rw [en, show s.set n (.obj 0 (fo a b (kD c (some k)))) = s from set_same hc]
    refine mRunN (w1 := ⟨[some (.r n), some (.d (c.S H)), some (.d (c.S N)), none], s⟩) rfl ?_
    show g_X_settle F_X_order ⟨[some (.r n), some (.d (c.S H)), none, none], s⟩ = _
    refine mSeq_of (w1 := ⟨[some (.r n), some (.d (c.S H)), some (.d (c.S N)), none], s⟩) (mSet_of (mMeth_of rfl hc rfl rfl hN)) (mIfN (tPv_of ?_))
    rw [vw1 hc]
    have := et [.un]
    rw [decide_eq_true hk] at this
    exact this
  · have en : nxt H N k = (H.filter (fun x => decide (x ∈ N)) ++ N).head? := by unfold nxt; rw [if_neg hk]
    rw [en]
    refine mRunN (w1 := ⟨[some (.r n), some (.d (c.S H)), some (.d (c.S N)), some (.d (c.S (H.filter (fun x => decide (x ∈ N)) ++ N)))], s.set n (.obj 0 (fo a b (kD c (H.filter (fun x => decide (x ∈ N)) ++ N).head?)))⟩) rfl ?_
    show g_X_settle F_X_order ⟨[some (.r n), some (.d (c.S H)), none, none], s⟩ = _
    refine mSeq_of (w1 := ⟨[some (.r n), some (.d (c.S H)), some (.d (c.S N)), none], s⟩) (mSet_of (mMeth_of rfl hc rfl rfl hN)) (mIfT (s := s) (tPv_of ?_) ?_)
    · rw [vw1 hc]
      have := et [.un]
      rw [decide_eq_false hk] at this
      exact this
    refine mSeq_of (w1 := ⟨[some (.r n), some (.d (c.S H)), some (.d (c.S N)), some (.d (c.S (H.filter (fun x => decide (x ∈ N)) ++ N)))], s⟩) (mSet_of (mP_of ?_)) ?_
    · rw [vw1 hc]
      have lf := List.length_filter_le (fun x => decide (x ∈ N)) H
      refine l2_of (oE_of (comp_eq (ds := H.map c.s) (lI_of rfl rfl) (by rw [List.length_map]; omega) ?_)) rfl (cat_s (l := H.filter (fun x => decide (x ∈ N))) (by omega) lN)
      exact cGo_map (η := [.un, .val (c.S N)]) c.s (fun x => decide (x ∈ N)) c.s H fun x hx => ⟨[.val (c.s x), .val (c.S N)], rfl, bT_of (l2_of rfl rfl (pIn_s h false x N)), fun _ => rfl⟩
    · rw [mPut_of (d := .d (kD c (H.filter (fun x => decide (x ∈ N)) ++ N).head?)) (n := n) (fs := fo a b (c.s k)) (mP_of ?_) rfl hc (by simp [fo])]
      · rfl
      · rw [vw1 hc]
        generalize H.filter (fun x => decide (x ∈ N)) ++ N = l
        rw [vIf_of (b := decide (l ≠ [])) (by cases l <;> rfl)]
        exact hd_s
theorem F_rb (h : c.Ok) {O : List Nat} {k : Nat} (hk : k ∈ O) (lO : O.length ≤ 1000) : F_round_behind [c.S O, c.s k] = some (c.S (O.drop (O.idxOf k + 1) ++ O.take (O.idxOf k))) := by
  refine run_of rfl (show g_round_behind [.val (c.S O), .val (c.s k), .un] = _ from ?_)
  have l1 := List.length_drop (i := O.idxOf k + 1) (l := O)
  have l2 := List.length_take (i := O.idxOf k) (l := O)
  refine seq_of (η1 := [.val (c.S O), .val (c.s k), .un]) (ifN (bT_of (l2_of rfl rfl rfl))) (seq_of (η1 := [.val (c.S O), .val (c.s k), .val (.int ((O.idxOf k : Nat) : Int))]) (set_of (l2_of rfl rfl (pIdx_s h hk))) (ret_of (l2_of (eSl_of (l := some (((O.idxOf k + 1 : Nat) : Int))) (h := none) rfl (pS_of (l2_of rfl rfl rfl)) rfl (from_s O _)) (eSl_of (l := none) (h := some ((O.idxOf k : Nat) : Int)) rfl rfl (pS_of rfl) (to_s O _)) (cat_s (by omega) (by omega)))))
end
end K40
namespace K40
open PySem L2 L2.PU
section
variable {s : Sto} {n : Nat} {a b : PyData} {c : Sc}
theorem F_to (h : c.Ok) {kk : PyData} (hc : Fo s n a b kk) {O : List Nat} {k : Nat} (hO : F_X_order [.r n] s = some (.d (c.S O), s)) (hk : k ∈ O) :
    F_X_to [.r n, .d (c.s k)] s = some (.d .none, s.set n (.obj 0 (fo a b (c.s k)))) := by
  show runM 2 2 (g_X_to F_X_order) [.r n, .d (c.s k)] s = _
  refine mRunN (w1 := ⟨[some (.r n), some (.d (c.s k))], s.set n (.obj 0 (fo a b (c.s k)))⟩) rfl ?_
  show g_X_to F_X_order ⟨[some (.r n), some (.d (c.s k))], s⟩ = _
  have e := pIn_s h true k O
  rw [decide_eq_true hk] at e
  refine mSeq_of (w1 := ⟨[some (.r n), some (.d (c.s k))], s⟩) (mIfN (mB_of (mOpL_of (mP_of rfl) (mMeth_of rfl hc rfl rfl hO) rfl rfl e rfl))) ?_
  rw [mPut_of (d := .d (c.s k)) (n := n) (fs := fo a b kk) (mP_of rfl) rfl hc (by simp [fo])]
  rfl
theorem F_go0 {kk by' : PyData} (hc : Fo s n a b kk) (hO : F_X_order [.r n] s = some (.d (c.S []), s)) : F_X_go [.r n, .d by'] s = some (.d kk, s) := by
  refine mRun_of rfl (show g_X_go F_X_order F_start_of ⟨[some (.r n), some (.d by'), none, none], s⟩ = _ from ?_)
  refine mSeq_of (w1 := ⟨[some (.r n), some (.d by'), some (.d (c.S [])), none], s⟩) (mSet_of (mMeth_of rfl hc rfl rfl hO)) (mSeq_of (mIfN (s := s) (tPv_of ?_)) (mRet_of (mP_of ?_)))
  · rw [vw1 hc]; rfl
  · rw [vw1 hc]; exact f_keyed _
end
end K40
namespace K40
open PySem L2 L2.PU
noncomputable def atN (N : List Nat) (x : Int) : Nat := N.getD (x % (N.length : Int)).toNat 0
section
variable {N : List Nat} (hne : N ≠ [])
include hne
theorem pos_len : 0 < (N.length : Int) := by have := List.length_pos_iff.mpr hne; omega
theorem mod_lt (x : Int) : (x % (N.length : Int)).toNat < N.length := by
  have h := pos_len hne
  have h1 := Int.emod_nonneg x (show (N.length : Int) ≠ 0 by omega)
  have h2 := Int.emod_lt_of_pos x h
  omega
theorem at_get (x : Int) : N[(x % (N.length : Int)).toNat]? = some (atN N x) := by
  unfold atN
  rw [List.getD_eq_getElem?_getD, List.getElem?_eq_getElem (mod_lt hne x)]; rfl
theorem at_mem (x : Int) : atN N x ∈ N := List.mem_of_getElem? (at_get hne x)
end
section
variable {s : Sto} {n : Nat} {a b : PyData} {c : Sc}
theorem start_k (h : c.Ok) {N : List Nat} {k : Nat} (hk : k ∈ N) (d : Int) : F_start_of [c.S N, c.s k, .int d] = some (.int ((N.idxOf k : Nat) : Int)) := by
  refine run_of rfl (show g_start_of [.val (c.S N), .val (c.s k), .val (.int d)] = _ from ?_)
  unfold g_start_of sSeq
  rw [if_of (b := true) (bT_of (l2_of rfl rfl rfl)), if_pos rfl, ret_of (l2_of rfl rfl (pIdx_s h hk))]; rfl
theorem start_n {N : List Nat} (d : Int) : F_start_of [c.S N, .none, .int d] = some (.int (if d > 0 then -1 else 0)) := by
  refine run_of rfl (show g_start_of [.val (c.S N), .val .none, .val (.int d)] = _ from ?_)
  refine seq_of (η1 := [.val (c.S N), .val .none, .val (.int d)]) (ifN (bT_of (l2_of rfl rfl rfl))) (ret_of ?_)
  rw [vIf_of (b := decide (0 < d)) (bT_of (l2_of rfl rfl rfl))]
  by_cases hd : 0 < d
  · rw [if_pos (by simpa using hd), if_pos hd]; rfl
  · rw [if_neg (by simpa using hd), if_neg hd]; rfl
theorem F_goE {kk : PyData} {N : List Nat} (hne : N ≠ []) (hc : Fo s n a b kk) (hO : F_X_order [.r n] s = some (.d (c.S N), s)) {d st : Int} (hs : F_start_of [c.S N, kk, .int d] = some (.int st)) :
    F_X_go [.r n, .d (.int d)] s = some (.d (c.s (atN N (st + d))), s.set n (.obj 0 (fo a b (c.s (atN N (st + d)))))) := by
  have hc2 := Fo.set hc a b (c.s (atN N (st + d)))
  refine mRun_of rfl (show g_X_go F_X_order F_start_of ⟨[some (.r n), some (.d (.int d)), none, none], s⟩ = _ from ?_)
  refine mSeq_of (w1 := ⟨[some (.r n), some (.d (.int d)), some (.d (c.S N)), none], s⟩) (mSet_of (mMeth_of rfl hc rfl rfl hO)) ?_
  refine mSeq_of (w1 := ⟨[some (.r n), some (.d (.int d)), some (.d (c.S N)), some (.d (.int (st + d)))], s.set n (.obj 0 (fo a b (c.s (atN N (st + d)))))⟩) (mIfT (s := s) (tPv_of ?_) ?_) (mRet_of (mP_of ?_))
  · rw [vw1 hc]
    show truD (.list (N.map c.s)) = some true
    cases N with
    | nil => exact absurd rfl hne
    | cons x r => rfl
  · refine mSeq_of (w1 := ⟨[some (.r n), some (.d (.int d)), some (.d (c.S N)), some (.d (.int (st + d)))], s⟩) (mSet_of (mP_of ?_)) ?_
    · rw [vw1 hc]
      exact l2_of (lA_of (aC_of rfl (aC_of (f_keyed _) (aC_of rfl rfl))) hs) rfl rfl
    · rw [mPut_of (d := .d (c.s (atN N (st + d)))) (n := n) (fs := fo a b kk) (mP_of ?_) rfl hc (by simp [fo])]
      · rfl
      · rw [vw1 hc]
        refine l2_of rfl (l2_of rfl (lA_of (aC_of rfl rfl) rfl) (pMod_ok (i := st + d) (j := ((N.map c.s).length : Int)) (by rw [List.length_map]; exact pos_len hne))) ?_
        rw [List.length_map]
        show atI (N.map c.s) _ = _
        refine at_s ?_
        have h1 := Int.emod_nonneg (st + d) (show (N.length : Int) ≠ 0 by have := pos_len hne; omega)
        have h2 := Int.emod_lt_of_pos (st + d) (pos_len hne)
        unfold atI ixN
        rw [if_pos h1, if_pos h2, Option.bind_some]
        exact at_get hne _
  · rw [vw1 hc2]; exact f_keyed _
noncomputable def OrF (c : Sc) (N : List Nat) (a b : PyData) (n : Nat) : Prop := ∀ s kk, Fo s n a b kk → F_X_order [.r n] s = some (.d (c.S N), s)
end
end K40
namespace K40
open PySem L2 L2.PU
section
variable {s : Sto} {n : Nat} {a b : PyData} {c : Sc}
theorem F_drop {kk : PyData} (hc : Fo s n a b kk) : F_X_drop [.r n] s = some (.d .none, s.set n (.obj 0 (fo a b .none))) := by
  show runM 1 1 g_X_drop [.r n] s = _
  refine mRunN (w1 := ⟨[some (.r n)], s.set n (.obj 0 (fo a b .none))⟩) rfl ?_
  show g_X_drop ⟨[some (.r n)], s⟩ = _
  unfold g_X_drop
  rw [mPut_of (d := .d .none) (n := n) (fs := fo a b kk) (mP_of rfl) rfl hc (by simp [fo])]
  rfl
theorem F_path0 (hc : Fo s n a b .none) : F_X_path [.r n] s = some (.d (.list []), s) := by
  refine mRun_of rfl (show g_X_path (F_path_of 13) ⟨[some (.r n)], s⟩ = _ from mRet_of (mP_of ?_))
  rw [vw1 hc, vIf_of (b := true) (bT_of (l2_of (f_keyed _) rfl rfl)), if_pos rfl]
  exact oE_of (bind_of rfl (gL_ok (by simp)))
theorem F_pathK {k : Nat} {l : List Nat} (hp : F_path_of 13 [a, c.s k] = some (c.S l)) (hc : Fo s n a b (c.s k)) : F_X_path [.r n] s = some (.d (c.S l), s) := by
  refine mRun_of rfl (show g_X_path (F_path_of 13) ⟨[some (.r n)], s⟩ = _ from mRet_of (mP_of ?_))
  rw [vw1 hc, vIf_of (b := false) (bT_of (l2_of (f_keyed _) rfl rfl)), if_neg Bool.false_ne_true]
  exact lA_of (aC_of (f_scene _) (aC_of (f_keyed _) rfl)) hp
theorem settleK (h : c.Ok) {K : Option Nat} {N : List Nat} (lN : N.length ≤ 1000) (hc : Fo s n a b (kD c K)) (hO : OrF c N a b n) :
    F_X_settle [.r n, .d (.list [])] s = some (.d .none, s.set n (.obj 0 (fo a b (kD c (K.bind (nxt [] N)))))) := by
  cases K with
  | none =>
    rw [show s.set n (.obj 0 (fo a b (kD c (Option.bind none (nxt [] N))))) = s from set_same hc]
    exact settle_none (c := c) hc (hO s _ hc)
  | some k => exact F_settle h hc (H := []) (hO s _ hc) lN (by simp)
theorem F_keepG (h : c.Ok) {K : Option Nat} {f : Nat} {bx : PyData} {N : List Nat} (lN : N.length ≤ 1000) (hc : Fo s n a b (kD c K)) (hb : F_box_of [a, c.s f] = some bx) (hO : OrF c N a (c.s f) n) :
    F_X_keep_in [.r n, .d (c.s f)] s = some (.d .none, s.set n (.obj 0 (fo a (c.s f) (kD c (K.bind (nxt [] N)))))) := by
  have hc2 := Fo.set hc a (c.s f) (kD c K)
  have es := settleK h lN hc2 hO
  rw [set_set] at es
  show runM 2 2 (g_X_keep_in F_box_of F_X_settle) [.r n, .d (c.s f)] s = _
  refine mRunN (w1 := ⟨[some (.r n), some (.d (c.s f))], s.set n (.obj 0 (fo a (c.s f) (kD c (K.bind (nxt [] N)))))⟩) rfl ?_
  show g_X_keep_in F_box_of F_X_settle ⟨[some (.r n), some (.d (c.s f))], s⟩ = _
  refine mSeq_of (w1 := ⟨[some (.r n), some (.d (c.s f))], s⟩) (mIfT (s := s) (tPv_of ?_) (mExp_of (mP_of (x := bx) ?_))) ?_
  · rw [vw1 hc]; exact bT_of (l2_of rfl rfl rfl)
  · rw [vw1 hc]; exact lA_of (aC_of (f_scene _) (aC_of rfl rfl)) hb
  refine mSeq_of (w1 := ⟨[some (.r n), some (.d (c.s f))], s.set n (.obj 0 (fo a (c.s f) (kD c K)))⟩) ?_ ?_
  · rw [mPut_of (d := .d (c.s f)) (n := n) (fs := fo a b (kD c K)) (mP_of ?_) rfl hc (by simp [fo])]
    · rfl
    · rw [vw1 hc]; rfl
  exact mExp_of (mMeth_of rfl hc2 rfl (maC_of (s1 := s.set n (.obj 0 (fo a (c.s f) (kD c K)))) (mP_of (oE_of (bind_of rfl (gL_ok (by simp))))) maN_of) es)
theorem F_keep0 (h : c.Ok) {K : Option Nat} {N : List Nat} (lN : N.length ≤ 1000) (hc : Fo s n a b (kD c K)) (hO : OrF c N a .none n) :
    F_X_keep_in [.r n, .d .none] s = some (.d .none, s.set n (.obj 0 (fo a .none (kD c (K.bind (nxt [] N)))))) := by
  have hc2 := Fo.set hc a .none (kD c K)
  have es := settleK h lN hc2 hO
  rw [set_set] at es
  show runM 2 2 (g_X_keep_in F_box_of F_X_settle) [.r n, .d .none] s = _
  refine mRunN (w1 := ⟨[some (.r n), some (.d .none)], s.set n (.obj 0 (fo a .none (kD c (K.bind (nxt [] N)))))⟩) rfl ?_
  show g_X_keep_in F_box_of F_X_settle ⟨[some (.r n), some (.d .none)], s⟩ = _
  refine mSeq_of (w1 := ⟨[some (.r n), some (.d .none)], s⟩) (mIfN (s := s) (tPv_of ?_)) ?_
  · rw [vw1 hc]; exact bT_of (l2_of rfl rfl rfl)
  refine mSeq_of (w1 := ⟨[some (.r n), some (.d .none)], s.set n (.obj 0 (fo a .none (kD c K)))⟩) ?_ ?_
  · rw [mPut_of (d := .d .none) (n := n) (fs := fo a b (kD c K)) (mP_of ?_) rfl hc (by simp [fo])]
    · rfl
    · rw [vw1 hc]; rfl
  exact mExp_of (mMeth_of rfl hc2 rfl (maC_of (s1 := s.set n (.obj 0 (fo a .none (kD c K)))) (mP_of (oE_of (bind_of rfl (gL_ok (by simp))))) maN_of) es)
end
end K40
namespace K40
open PySem L2 L2.PU
theorem tmOrS {f g : MTF} {w : Wd} {s1 : Sto} {r : Option (Bool × Sto)} (h1 : f w = some (false, s1)) (h2 : g ⟨w.η, s1⟩ = r) : tmOr f g w = r := by
  unfold tmOr
  rw [h1]; exact h2
theorem kD_shaped {c : Sc} (h : c.Ok) (K : Option Nat) : SeqAt.shaped (kD c K) = true := by
  cases K with
  | none => rfl
  | some x => exact shaped_str (h.ok x)
theorem pNe_S {c : Sc} (h : c.Ok) (l : List Nat) : pNe (c.S l) (c.S l) = some (.bool false) := by
  have e : c.S l = .list ((l.map c.nm).map PyData.str) := by unfold Sc.S; rw [List.map_map]; rfl
  rw [e]
  exact pNe_strs fun s hs => by
    obtain ⟨x, _, rfl⟩ := List.mem_map.mp hs
    exact h.ok x
theorem shaped_S {c : Sc} (h : c.Ok) (l : List Nat) : SeqAt.shaped (c.S l) = true := by
  have := pNe_S h l
  unfold pNe at this
  split at this
  · rename_i z; exact z.1
  · cases this
theorem pNe_nil {c : Sc} (h : c.Ok) {l : List Nat} (hl : l ≠ []) : pNe (c.S l) (.list []) = some (.bool true) := by
  unfold pNe
  rw [if_pos ⟨shaped_S h l, rfl⟩]
  cases l with
  | nil => exact absurd rfl hl
  | cons a r => rfl
theorem first_of' {c : Sc} {l : List Nat} (hl : l.length ≤ 1000) : ∃ y, pAdd (c.S l) (.list [.none]) = some y ∧ pIx y (.int 0) = some (kD c l.head?) := by
  refine ⟨.list (l.map c.s ++ [PyData.none]), addL (a := l.map c.s) (b := [PyData.none]) (by rw [List.length_map]; simp; omega), ?_⟩
  cases l with
  | nil => rfl
  | cons a r =>
    show atI (c.s a :: (r.map c.s ++ [.none])) 0 = some (c.s a)
    unfold atI ixN
    rw [if_pos (Int.le_refl 0), if_pos (by rw [List.length_cons]; omega)]
    rfl
end K40
namespace K40
open PySem L2 L2.PU
section
variable {ps : List Nat} (ok : PsOk ps)
include ok
theorem blF_st : ∀ n m q, 1 ≤ q → ps.length < n + q → ps.length < m + q → q ≤ ps.length → blF (stF ps) n q = blF (stF ps) m q
  | 0, m, q, _, h, _, h2 => by omega
  | n + 1, 0, q, _, _, h, h2 => by omega
  | n + 1, m + 1, q, h1, h2, h3, h4 => by
    show q :: (chN (stF ps) q).flatMap (blF (stF ps) n) = q :: (chN (stF ps) q).flatMap (blF (stF ps) m)
    rw [flat_congr fun x hx => ?_]
    have := ch_mem ok hx
    exact blF_st n m x this.1 (by omega) (by omega) this.2.1
theorem P_le : ∀ r x, x ∈ P ps r → x ≤ r := by
  intro r
  induction r using Nat.strongRecOn with
  | _ r ih =>
    intro x hx
    by_cases hr : 1 ≤ r
    · rw [P_succ ok hr] at hx
      have := par_lt ok hr
      rcases List.mem_append.mp hx with z | z
      · have := ih _ this x z; omega
      · rw [List.mem_singleton] at z; omega
    · have : r = 0 := by omega
      subst this
      rw [P_zero] at hx; cases hx
theorem P_self {q : Nat} (h : 1 ≤ q) : q ∈ P ps q := by rw [P_succ ok h]; simp
theorem P_one : ∀ r x, x ∈ P ps r → 1 ≤ x := by
  intro r
  induction r using Nat.strongRecOn with
  | _ r ih =>
    intro x hx
    by_cases hr : 1 ≤ r
    · rw [P_succ ok hr] at hx
      rcases List.mem_append.mp hx with z | z
      · exact ih _ (par_lt ok hr) x z
      · rw [List.mem_singleton] at z; omega
    · have : r = 0 := by omega
      subst this
      rw [P_zero] at hx; cases hx
theorem P_next : ∀ q, 1 ≤ q → ∀ a, (a = 0 ∨ a ∈ P ps q) → a ≠ q → ∃ x ∈ P ps q, par ps x = a := by
  intro q
  induction q using Nat.strongRecOn with
  | _ q ih =>
    intro hq a ha hne
    by_cases hp : a = par ps q
    · exact ⟨q, P_self ok hq, hp.symm⟩
    · have ha' : a = 0 ∨ a ∈ P ps (par ps q) := by
        rcases ha with z | z
        · exact .inl z
        · rw [P_succ ok hq] at z
          rcases List.mem_append.mp z with z | z
          · exact .inr z
          · rw [List.mem_singleton] at z; exact absurd z hne
      by_cases h0 : 1 ≤ par ps q
      · obtain ⟨x, hx, e⟩ := ih _ (par_lt ok hq) h0 a ha' hp
        exact ⟨x, by rw [P_succ ok hq]; exact List.mem_append_left _ hx, e⟩
      · have z : par ps q = 0 := by omega
        rw [z, P_zero] at ha'
        rcases ha' with y | y
        · exact absurd (y.trans z.symm) hp
        · cases y
theorem P_par : ∀ q x, x ∈ P ps q → par ps x = 0 ∨ par ps x ∈ P ps q := by
  intro q
  induction q using Nat.strongRecOn with
  | _ q ih =>
    intro x hx
    by_cases hq : 1 ≤ q
    · rw [P_succ ok hq] at hx
      rcases List.mem_append.mp hx with z | z
      · rcases ih _ (par_lt ok hq) x z with y | y
        · exact .inl y
        · exact .inr (by rw [P_succ ok hq]; exact List.mem_append_left _ y)
      · rw [List.mem_singleton] at z
        subst z
        by_cases h0 : 1 ≤ par ps x
        · exact .inr (by rw [P_succ ok hq]; exact List.mem_append_left _ (P_self ok h0))
        · exact .inl (by omega)
    · have : q = 0 := by omega
      subst this
      rw [P_zero] at hx; cases hx
theorem P_uniq : ∀ q x y, x ∈ P ps q → y ∈ P ps q → par ps x = par ps y → x = y := by
  intro q
  induction q using Nat.strongRecOn with
  | _ q ih =>
    intro x y hx hy e
    by_cases hq : 1 ≤ q
    · have hlt := par_lt ok hq
      have hx1 := P_one ok _ _ hx
      have hy1 := P_one ok _ _ hy
      have px := par_lt ok hx1
      have py := par_lt ok hy1
      rw [P_succ ok hq] at hx hy
      rcases List.mem_append.mp hx with zx | zx <;> rcases List.mem_append.mp hy with zy | zy
      · exact ih _ hlt x y zx zy e
      · rw [List.mem_singleton] at zy
        have := P_le ok _ _ zx
        rw [zy] at e; omega
      · rw [List.mem_singleton] at zx
        have := P_le ok _ _ zy
        rw [zx] at e; omega
      · rw [List.mem_singleton] at zx zy; rw [zx, zy]
    · have : q = 0 := by omega
      subst this
      rw [P_zero] at hx; cases hx
omit ok in
theorem ch_nodup (a : Nat) : (chN (stF ps) a).Nodup := by
  have h : ((stF ps).map (·.1)).Nodup := by
    unfold stF
    rw [List.map_map]
    exact List.Pairwise.map _ (fun i j hij => by show i + 1 ≠ j + 1; omega) (List.nodup_range (n := ps.length))
  exact h.sublist ((List.filter_sublist).map _)
omit ok in
theorem flat_one {α β : Type} {p : α → Prop} [DecidablePred p] {B : List β} {x : α} : ∀ {l : List α}, l.Nodup → x ∈ l → p x → (∀ y ∈ l, p y → y = x) → l.flatMap (fun y => if p y then B else []) = B
  | [], _, h, _, _ => by cases h
  | y :: l, nd, h, hp, hu => by
    rw [List.flatMap_cons]
    have nd' := List.nodup_cons.mp nd
    by_cases hy : y = x
    · subst hy
      rw [if_pos hp, flat_nil (f := fun y => if p y then B else []) fun z hz => ?_, List.append_nil]
      rw [if_neg fun hz' => ?_]
      have := hu z (List.mem_cons_of_mem _ hz) hz'
      subst this
      exact nd'.1 hz
    · rw [if_neg fun hz => hy (hu y List.mem_cons_self hz), List.nil_append]
      refine flat_one nd'.2 ?_ hp fun z hz => hu z (List.mem_cons_of_mem _ hz)
      rcases List.mem_cons.mp h with z | z
      · exact absurd z.symm hy
      · exact z
theorem bl_all {q : Nat} : ∀ n a, 1 ≤ a → a ≤ ps.length → q ∈ P ps a → ∀ x ∈ blF (stF ps) n a, q ∈ P ps x
  | 0, _, _, _, _, x, hx => by cases hx
  | n + 1, a, h1, h2, hq, x, hx => by
    rcases List.mem_cons.mp hx with z | z
    · rw [z]; exact hq
    · obtain ⟨y, hy, hx⟩ := List.mem_flatMap.mp z
      have m := ch_mem ok hy
      exact bl_all n y m.1 m.2.1 (by rw [P_succ ok m.1, m.2.2.1]; exact List.mem_append_left _ hq) x hx
theorem kids_filter {q : Nat} (hq : In ps q) : ∀ n a, q ∉ P ps a → ps.length ≤ n + a → a ≤ ps.length →
    (kids (stF ps) n a).filter (fun x => decide (q ∈ P ps x)) = if a = 0 ∨ a ∈ P ps q then blF (stF ps) 13 q else [] := by
  intro n
  induction n with
  | zero =>
    intro a hn hl ha
    have e : a = ps.length := by omega
    have hk : kids (stF ps) 0 a = [] := by unfold kids; exact flat_nil fun x _ => rfl
    rw [hk, List.filter_nil, if_neg]
    rintro (z | z)
    · have := hq.1; have := hq.2; omega
    · have := P_le ok _ _ z
      have e2 : a = q := by have := hq.2; omega
      exact hn (by rw [e2]; exact P_self ok hq.1)
  | succ n ih =>
    intro a hn hl ha
    have one : ∀ x ∈ chN (stF ps) a, (blF (stF ps) (n + 1) x).filter (fun x => decide (q ∈ P ps x)) = if x ∈ P ps q then blF (stF ps) 13 q else [] := fun x hx => by
      have m := ch_mem ok hx
      by_cases hxq : x = q
      · subst hxq
        rw [if_pos (P_self ok m.1), List.filter_eq_self.mpr fun y hy => decide_eq_true (bl_all ok _ _ m.1 m.2.1 (P_self ok m.1) y hy)]
        have := ok.len
        exact blF_st ok _ _ _ m.1 (by omega) (by omega) m.2.1
      · have hnx : q ∉ P ps x := by
          rw [P_succ ok m.1, m.2.2.1]
          intro z
          rcases List.mem_append.mp z with z | z
          · exact hn z
          · rw [List.mem_singleton] at z; exact hxq z.symm
        show (x :: kids (stF ps) n x).filter _ = _
        rw [List.filter_cons_of_neg (by simpa using hnx), ih x hnx (by omega) m.2.1]
        have : x ≠ 0 := by have := m.1; omega
        simp only [this, false_or]
    unfold kids
    rw [List.filter_flatMap, flat_congr one]
    by_cases hc : a = 0 ∨ a ∈ P ps q
    · rw [if_pos hc]
      have hne : a ≠ q := by
        rintro rfl
        exact hn (P_self ok hq.1)
      obtain ⟨x, hx, e⟩ := P_next ok q hq.1 a hc hne
      have hx1 := P_one ok _ _ hx
      have hxl : x ≤ ps.length := Nat.le_trans (P_le ok _ _ hx) hq.2
      refine flat_one (x := x) (ch_nodup a) (by rw [← e]; exact mem_ch hx1 hxl) hx fun y hy hyq => ?_
      have m := ch_mem ok hy
      exact P_uniq ok q y x hyq hx (m.2.2.1.trans e.symm)
    · rw [if_neg hc]
      refine flat_nil fun x hx => ?_
      have m := ch_mem ok hx
      rw [if_neg fun hxq => ?_]
      have := P_par ok q x hxq
      rw [m.2.2.1] at this
      exact hc this
theorem below_eq {q : Nat} (hq : In ps q) : (kids (stF ps) 13 0).filter (fun x => decide (q ∈ P ps x)) = blF (stF ps) 13 q := by
  have := ok.len
  rw [kids_filter ok hq 13 0 (by rw [P_zero]; exact fun z => by cases z) (by omega) (by omega), if_pos (.inl rfl)]
end
end K40
namespace K40
open PySem L2 L2.PU
structure Tn (c : Sc) (ps : List Nat) : Prop where
  ok : c.Ok
  st : c.st = stF ps
  ps : PsOk ps
theorem parN_filter {q p : Nat} : ∀ {st : List (Nat × Nat)}, parN st q = some p → ∃ r, st.filter (fun x => decide (x.1 = q)) = (q, p) :: r
  | x :: r, h => by
    unfold parN at h
    by_cases e : x.1 = q
    · rw [if_pos e] at h
      cases h
      refine ⟨r.filter fun x => decide (x.1 = q), ?_⟩
      rw [List.filter_cons, if_pos (by simpa using e)]
      subst e; rfl
    · rw [if_neg e] at h
      obtain ⟨s, hs⟩ := parN_filter h
      refine ⟨s, ?_⟩
      rw [List.filter_cons, if_neg (by simpa using e), hs]
theorem ix0 (d : PyData) (l : List PyData) : pIx (.list (d :: l)) (.int 0) = some d := by
  show atI (d :: l) ((0 : Nat) : Int) = _
  exact atI_nat rfl
theorem xSeq_rt {u : En → Option Out} {g : En → Option Nat} {η : En} {d : PyData} (h : u η = some (.rt d)) : xSeq u g η = none := by
  unfold xSeq; rw [h]; rfl
theorem xSeq_nx {u : En → Option Out} {g : En → Option Nat} {η η' : En} {r : Option Nat} (h : u η = some (.nx η')) (h2 : g η' = r) : xSeq u g η = r := by
  unfold xSeq; rw [h]; exact h2
theorem runX_of {n m : Nat} {g : En → Option Nat} {ds : List PyData} {r : Option Nat} (hl : ds.length = n) (h : g (ds.map Sl.val ++ List.replicate (m - n) .un) = r) : runX n m g ds = r := by
  unfold runX; rw [if_pos hl]; exact h
theorem ifT {c : En → Option Bool} {f g : En → Option Out} {η : En} {r : Option Out} (h : c η = some true) (h2 : f η = r) : sIf c f g η = r := by
  rw [if_of h, if_pos rfl]; exact h2
structure Bad (c : Sc) (b : Str) : Prop where
  ok : PyData.strOk b = true
  len : b.length ≤ 50
  cps : (b.cps.toList.all fun x => decide (x < 16 ^ 8)) = true
  no : ∀ x ∈ c.st, c.nm x.1 ≠ b
section
variable {c : Sc} {ps : List Nat} (t : Tn c ps)
include t
theorem L_box {q : Nat} (hq : In ps q) : F_qbox [c.d, c.s q] = some (c.box (q, par ps q)) := by
  obtain ⟨r, hr⟩ := parN_filter (parN_st (ps := ps) hq.1 hq.2)
  rw [← t.st] at hr
  have e : sComp [none, some 1] (lI asTu (eV 0)) (tgN 0) (bT (l2 pEq (l2 pIx (eV 0) (eC (.int 0))) (eV 1))) (eV 0) [.val c.d, .val (c.s q)] = some ((c.st.filter fun x => decide (x.1 = q)).map c.box) := by
    refine comp_eq (ds := c.st.map c.box) (lI_of rfl rfl) (by rw [List.length_map]; have := t.ok.len; omega) ?_
    exact cGo_map (η := [.un, .val (c.s q)]) c.box (fun x => decide (x.1 = q)) c.box c.st fun x _ => ⟨[.val (c.box x), .val (c.s q)], rfl, bT_of (l2_of (l2_of rfl rfl rfl) rfl (t.ok.eqs x.1 q)), fun _ => rfl⟩
  rw [hr, List.map_cons] at e
  exact run_of rfl (show g_qbox [.val c.d, .val (c.s q)] = _ from ret_of (l2_of (oE_of e) rfl (ix0 _ _)))
theorem path_wh {x1 : Sl} : ∀ (n q : Nat) (tl : List Nat), In ps q → q ≤ n → tl.length + n ≤ 100 →
    sWh (bT (l2 pNe (l2 pIx (lA F_qbox (aC (eV 0) (aC (l2 pIx (eV 2) (eC (.int 0))) aN))) (eC (.int 1))) (eC (.str "")))) (sSet 2 (l2 pAdd (oE (fun η => ((aC (l2 pIx (lA F_qbox (aC (eV 0) (aC (l2 pIx (eV 2) (eC (.int 0))) aN))) (eC (.int 1))) aN) η).bind gL)) (eV 2))) n
      [.val c.d, x1, .val (c.S (q :: tl))] = some (.nx [.val c.d, x1, .val (c.S (P ps q ++ tl))])
  | 0, q, tl, hq, h1, _ => by have := hq.1; omega
  | n + 1, q, tl, hq, h1, h2 => by
    have hp := par_lt t.ps hq.1
    have ea : l2 pIx (lA F_qbox (aC (eV 0) (aC (l2 pIx (eV 2) (eC (.int 0))) aN))) (eC (.int 1)) [.val c.d, x1, .val (c.S (q :: tl))] = some (c.s (par ps q)) :=
      l2_of (lA_of (aC_of rfl (aC_of (l2_of rfl rfl (ix0 _ _)) rfl)) (L_box t hq)) rfl rfl
    have et : bT (l2 pNe (l2 pIx (lA F_qbox (aC (eV 0) (aC (l2 pIx (eV 2) (eC (.int 0))) aN))) (eC (.int 1))) (eC (.str ""))) [.val c.d, x1, .val (c.S (q :: tl))] = some (!decide (par ps q = 0)) :=
      bT_of (l2_of ea rfl (t.ok.ne0 _))
    unfold sWh
    rw [et, Option.bind_some, P_succ t.ps hq.1]
    by_cases e : par ps q = 0
    · rw [decide_eq_true e, e]
      rfl
    · rw [decide_eq_false e]
      show Option.bind (sSet _ _ _) _ = _
      have eb : sSet 2 (l2 pAdd (oE (fun η => ((aC (l2 pIx (lA F_qbox (aC (eV 0) (aC (l2 pIx (eV 2) (eC (.int 0))) aN))) (eC (.int 1))) aN) η).bind gL)) (eV 2)) [.val c.d, x1, .val (c.S (q :: tl))] = some (.nx [.val c.d, x1, .val (c.S (par ps q :: q :: tl))]) :=
        set_of (l2_of (oE_of (bind_of (aC_of ea rfl) (gL_ok (by simp)))) rfl (addL (by simp; omega)))
      rw [eb, Option.bind_some]
      show sWh _ _ n _ = _
      rw [path_wh n (par ps q) (q :: tl) ⟨by omega, by have := hq.2; omega⟩ (by omega) (by simp; omega)]
      simp
theorem L_path {q : Nat} (hq : In ps q) : F_qpath [c.d, c.s q] = some (c.S (P ps q)) := by
  have h7 := (show q ≤ 7 from Nat.le_trans hq.2 t.ps.len)
  have e := path_wh t (x1 := .val (c.s q)) 13 q [] hq (by omega) (by simp)
  rw [List.append_nil] at e
  exact run_of rfl (show g_qpath F_qbox [.val c.d, .val (c.s q), .un] = _ from seq_of (set_of (oE_of (bind_of (aC_of rfl rfl) (gL_ok (by simp))))) (seq_of e (ret_of rfl)))
end
section
variable {c : Sc} {ps : List Nat} (t : Tn c ps)
include t
theorem loop_bad {b : Str} (hb : Bad c b) : ∃ s, sFor (lI asTu (eV 0)) (tgN 2) (sIf (bT (l2 pEq (l2 pIx (eV 2) (eC (.int 0))) (eV 1))) (sRet (eV 2)) sNx) [.val c.d, .val (.str b), .un] = some (.nx [.val c.d, .val (.str b), s]) := by
  obtain ⟨η', e, s, rfl⟩ := sGo_all (t := tgN 2) (body := sIf (bT (l2 pEq (l2 pIx (eV 2) (eC (.int 0))) (eV 1))) (sRet (eV 2)) sNx) c.box (fun _ η => ∃ s, η = [.val c.d, .val (.str b), s]) c.st (η := [.val c.d, .val (.str b), .un])
    (by
      rintro done x rest η hall ⟨s, rfl⟩
      have hx : x ∈ c.st := by rw [hall]; simp
      exact ⟨_, _, rfl, ifN (bT_of (l2_of (l2_of rfl rfl rfl) rfl ((pEq_str (t.ok.ok _) hb.ok).trans (by rw [decide_eq_false (hb.no x hx)])))), _, rfl⟩) ⟨_, rfl⟩
  exact ⟨s, for_of (lI_of rfl rfl) e⟩
end
noncomputable def ptB (fn : PFn) : En → Option Out :=
  sIf (bT (l2 pEq (l2 pIx (eV 3) (eC (.int 1))) (eV 1))) (sSet 2 (l2 pAdd (l2 pAdd (eV 2) (oE (fun η => ((aC (l2 pIx (eV 3) (eC (.int 0))) aN) η).bind gL))) (lA fn (aC (eV 0) (aC (l2 pIx (eV 3) (eC (.int 0))) aN))))) sNx
section
variable {c : Sc} {ps : List Nat} (t : Tn c ps)
include t
theorem L_painted : ∀ n a, ps.length < n + a → a ≤ ps.length → F_qpainted n [c.d, c.s a] = some (c.S (kids (stF ps) n a))
  | 0, a, h, h2 => by omega
  | n + 1, a, h, h2 => by
    have f : ∀ x : Nat × Nat, x ∈ c.st → x.2 = a → In ps x.1 ∧ a < x.1 := fun x hx e => by
      rw [t.st] at hx
      have m := st_mem hx
      have := par_lt t.ps m.1
      exact ⟨⟨m.1, m.2.1⟩, by rw [← e, m.2.2]; exact this⟩
    have h7 := t.ps.len
    have bl : ∀ x : Nat × Nat, x ∈ c.st → x.2 = a → (blF (stF ps) (n + 1) x.1).length ≤ 262144 := fun x hx e => by
      obtain ⟨i, l⟩ := f x hx e
      exact Nat.le_trans (blF_len t.ps (n + 1) x.1 i.1 i.2 (by omega)) (pow_lim t.ps i.1)
    have cl : ∀ done rest, c.st = done ++ rest → (done.filter fun x => decide (x.2 = a)).length ≤ 7 := fun done rest e => by
      have h := ch_len t.ps a
      unfold chN at h
      rw [List.length_map, ← t.st, e, List.filter_append, List.length_append] at h
      omega
    obtain ⟨η', e, s3, rfl⟩ := sGo_all (t := tgN 3) (body := ptB (F_qpainted n)) c.box
      (fun done η => ∃ s3, η = [.val c.d, .val (c.s a), .val (c.S ((done.filter fun x => decide (x.2 = a)).flatMap fun x => blF (stF ps) (n + 1) x.1)), s3]) c.st (η := [.val c.d, .val (c.s a), .val (c.S []), .un])
      (by
        rintro done x rest η hall ⟨s3, rfl⟩
        have hx : x ∈ c.st := by rw [hall]; simp
        have hd : ∀ y ∈ done.filter (fun x => decide (x.2 = a)), (blF (stF ps) (n + 1) y.1).length ≤ 262144 := fun y hy => by
          obtain ⟨y1, y2⟩ := List.mem_filter.mp hy
          exact bl y (by rw [hall]; exact List.mem_append_left _ y1) (of_decide_eq_true y2)
        have l1 := flat_len hd
        have l2' := cl done (x :: rest) hall
        have l3 : ((done.filter fun x => decide (x.2 = a)).flatMap fun x => blF (stF ps) (n + 1) x.1).length ≤ 1835008 := Nat.le_trans l1 (by have := Nat.mul_le_mul_right 262144 l2'; omega)
        have hT : bT (l2 pEq (l2 pIx (eV 3) (eC (.int 1))) (eV 1)) [.val c.d, .val (c.s a), .val (c.S ((done.filter fun x => decide (x.2 = a)).flatMap fun x => blF (stF ps) (n + 1) x.1)), .val (c.box x)] = some (decide (x.2 = a)) :=
          bT_of (l2_of (l2_of rfl rfl rfl) rfl (t.ok.eqs x.2 a))
        rw [List.filter_append]
        by_cases e : x.2 = a
        · rw [decide_eq_true e] at hT
          obtain ⟨i, lt⟩ := f x hx e
          have ih := L_painted n x.1 (by omega) i.2
          have b1 := bl x hx e
          have kl : (kids (stF ps) n x.1).length ≤ 262144 := by
            have : (blF (stF ps) (n + 1) x.1).length = (kids (stF ps) n x.1).length + 1 := rfl
            omega
          refine ⟨_, _, rfl, ifT hT (set_of (l2_of (l2_of rfl (oE_of (bind_of (aC_of (l2_of rfl rfl rfl) rfl) (gL_ok (by simp)))) (addL ?_)) (lA_of (aC_of rfl (aC_of (l2_of rfl rfl rfl) rfl)) ih) (addL ?_))), .val (c.box x), ?_⟩
          · rw [List.length_map]; show _ + 1 ≤ _; omega
          · rw [List.length_append, List.length_map, List.length_map]; show _ + 1 + _ ≤ _; omega
          · rw [List.filter_cons_of_pos (by simpa using e), List.filter_nil, List.flatMap_append, List.flatMap_cons, List.flatMap_nil, List.append_nil]
            show [_, _, Sl.val (PyData.list _), _] = [_, _, Sl.val (PyData.list _), _]
            rw [List.map_append, List.append_assoc]
            rfl
        · rw [decide_eq_false e] at hT
          refine ⟨_, _, rfl, ifN hT, .val (c.box x), ?_⟩
          rw [List.filter_cons_of_neg (by simpa using e), List.filter_nil, List.append_nil]
          rfl) ⟨.un, rfl⟩
    refine run_of rfl (show g_qpainted (F_qpainted n) [.val c.d, .val (c.s a), .un, .un] = _ from seq_of (set_of (oE_of (gL_ok (by simp)))) (seq_of (for_of (lI_of rfl rfl) e) (ret_of ?_)))
    show some (c.S _) = _
    unfold kids chN
    rw [← t.st, List.flatMap_map]
end
end K40
namespace K40
open PySem L2 L2.PU
noncomputable def sg (t a : Nat) : Nat := if a = 0 then 0 else (a - 1 + t) % 8 + 1
noncomputable def si (t x : Nat) : Nat := if x = 0 then 0 else (x - 1 + (8 - t % 8)) % 8 + 1
noncomputable def nmU (a : Nat) : Str := if a = 9 then "zz" else nmT 0 a
noncomputable def u : Sc := ⟨[], nmU, fun _ => 0, fun _ => 0, fun _ => 0, fun _ => 0, fun _ => ""⟩
theorem sg_inj {t a b : Nat} (ha : a ≤ 8) (hb : b ≤ 8) (e : sg t a = sg t b) : a = b := by
  unfold sg at e
  split at e <;> split at e <;> omega
theorem si_sg {t a : Nat} (ha : a ≤ 8) : si t (sg t a) = a := by
  unfold si sg
  by_cases h : a = 0
  · rw [if_pos h, if_pos rfl, h]
  · rw [if_neg h, if_neg (by omega)]
    omega
theorem sg_le {t a : Nat} (h : 1 ≤ a) : 1 ≤ sg t a ∧ sg t a ≤ 8 := by
  unfold sg
  rw [if_neg (by omega)]
  omega
theorem sz_lo (t : Nat) {a : Nat} (h : a ≤ 8) : (nmT t a).cps.size ≤ 1 := by
  cases a with
  | zero =>
    show ("" : Str).cps.size ≤ 1
    rw [empty_size]; decide
  | succ j => rw [nmT_lo (by omega)]; exact Nat.le_refl 1
theorem sz_hi (t : Nat) {a : Nat} (h : 8 < a) : (nmT t a).cps.size = a := by
  cases a with
  | zero => omega
  | succ j => rw [nmT_hi (by omega)]; simp
theorem zz2 : ("zz" : Str).cps.size = 2 := by decide +kernel
theorem nmU_9 : nmU 9 = "zz" := if_pos rfl
theorem nmU_n {a : Nat} (h : a ≠ 9) : nmU a = nmT 0 a := if_neg h
theorem zz_ne {a : Nat} (h : a ≠ 9) : nmT 0 a ≠ "zz" := fun e => by
  have s : (nmT 0 a).cps.size = ("zz" : Str).cps.size := congrArg (fun z : Str => z.cps.size) e
  rw [zz2] at s
  by_cases h8 : a ≤ 8
  · have := sz_lo 0 h8
    omega
  · have := sz_hi 0 (a := a) (by omega)
    omega
theorem nmU_inj : ∀ a b, nmU a = nmU b → a = b := fun a b e => by
  by_cases ha : a = 9
  · by_cases hb : b = 9
    · rw [ha, hb]
    · rw [ha, nmU_9, nmU_n hb] at e
      exact absurd e.symm (zz_ne hb)
  · by_cases hb : b = 9
    · rw [hb, nmU_9, nmU_n ha] at e
      exact absurd e (zz_ne ha)
    · rw [nmU_n ha, nmU_n hb] at e
      exact nmT_inj 0 a b e
theorem ok_zz : PyData.strOk ("zz" : Str) = true := by decide +kernel
theorem u_ok : u.Ok := ⟨nmU_inj, rfl, fun a => by
    show PyData.strOk (nmU a) = true
    by_cases h : a = 9
    · rw [h, nmU_9]; exact ok_zz
    · rw [nmU_n h]; exact nmT_ok 0 a, fun _ => nmT_ok 0 0, by show (0 : Nat) ≤ 12; decide⟩
theorem nm_sg {t a : Nat} (h : a ≤ 8) : nmT t a = nmU (sg t a) := by
  cases a with
  | zero => rfl
  | succ j =>
    have e : sg t (j + 1) = (j + t) % 8 + 1 := by
      unfold sg
      rw [if_neg (by omega)]; rfl
    rw [e, nmU_n (by omega), nmT_lo (by omega), nmT_lo (by omega), Nat.add_zero, Nat.mod_mod]
section
variable {c : Sc} {tn : Nat} (hnm : c.nm = nmT tn)
include hnm
theorem s_u {q : Nat} (h : q ≤ 8) : c.s q = u.s (sg tn q) := by
  show PyData.str (c.nm q) = PyData.str (nmU (sg tn q))
  rw [hnm, nm_sg h]
theorem S_u {l : List Nat} (h : ∀ x ∈ l, x ≤ 8) : c.S l = u.S (l.map (sg tn)) := by
  unfold Sc.S
  rw [List.map_map]
  congr 1
  exact List.map_congr_left fun x hx => s_u hnm (h x hx)
end
structure Vw (sc : PyData) (L O : List Nat) (pa : Nat → List Nat) : Prop where
  ll : L.length ≤ 7
  lo : O.length ≤ 400
  l9 : ∀ x ∈ L, 1 ≤ x ∧ x ≤ 8
  ord0 : ∀ (s : Sto) (n : Nat) (kk : PyData), Fo s n sc .none kk → F_X_order [.r n] s = some (.d (u.S O), s)
  ordF : ∀ f, f ∈ L → ∀ (s : Sto) (n : Nat) (kk : PyData), Fo s n sc (u.s f) kk → F_X_order [.r n] s = some (.d (u.S (O.filter fun x => decide (f ∈ pa x))), s)
  law0 : F_qorder [sc, .none] = some (u.S O)
  lawF : ∀ f, f ∈ L → F_qorder [sc, u.s f] = some (u.S (O.filter fun x => decide (f ∈ pa x)))
  path : ∀ k, k ∈ O → F_path_of 13 [sc, u.s k] = some (u.S (pa k)) ∧ F_qpath [sc, u.s k] = some (u.S (pa k))
  box : ∀ f, f ∈ L → ∃ bx, F_box_of [sc, u.s f] = some bx
  boxN : ∀ f, f ∈ L → FX_box_of [sc, u.s f] = none
  boxX : FX_box_of [sc, u.s 9] = some 0
  has : ∀ f, F_has_box [sc, u.s f] = some (.bool (decide (f ∈ L)))
  nms : ∀ (η : En), eV 1 η = some sc → sComp [none] (lI asTu (eV 1)) (tgN 0) tTrue (l2 pIx (eV 0) (eC (.int 0))) η = some (L.map u.s)
noncomputable def ordB (fn_qpath fn_qbox : PFn) : En → Option Out :=
  (sSeq (sSet 4 (lA fn_qpath (aC (eV 0) (aC (eV 3) aN))))
    (sSeq (sSetO 5 (sComp [none, some 0] (lI asL (eV 4)) (tgN 0) (bT (l2 (pIn false) (eC (.str "h")) (l2 pIx (lA fn_qbox (aC (eV 1) (aC (eV 0) aN))) (eC (.int 6))))) (eV 0)))
    (fun η => (sIf (bAnd (bT (l2 (pIn false) (eC (.str "f")) (l2 pIx (lA fn_qbox (aC (eV 0) (aC (eV 3) aN))) (eC (.int 6))))) (bAnd (bT (l2 pEq (eV 5) (oE (fun η => (aN η).bind gL)))) (bOr (bT (l2 (pIsN false) (eV 1) (eC .none))) (bT (l2 (pIn false) (eV 1) (eV 4)))))) (sApp 2 (eV 3)) sNx) (frz 5 η))))
theorem pEq_nil {c : Sc} (h : c.Ok) (l : List Nat) : pEq (c.S l) (.list []) = some (.bool l.isEmpty) := by
  unfold pEq
  rw [if_pos ⟨shaped_S h l, rfl⟩]
  cases l with
  | nil => rfl
  | cons a r => rfl
theorem app_of {i : Nat} {f : En → Option PyData} {η : En} {d : PyData} {ds : List PyData} (h1 : f η = some d) (h2 : η[i]? = some (.own ds)) (h3 : ds.length ≤ 3000000) : sApp i f η = some (.nx (η.set i (.own (ds ++ [d])))) := by
  unfold sApp
  rw [h1, Option.bind_some, h2]
  exact if_pos (Nat.lt_of_le_of_lt h3 (by show 3000000 < 2 ^ 24; decide))
section
variable {c : Sc} {ps : List Nat} (t : Tn c ps)
include t
theorem P_in2 {x q : Nat} (hq : In ps q) (hx : x ∈ P ps q) : In ps x := P_in' t.ps q hq hx
theorem L_order (fe : PyData) (pf : Nat → Bool) (hf : ∀ x, In ps x → ∀ η : En, eV 1 η = some fe → eV 4 η = some (c.S (P ps x)) → bOr (bT (l2 (pIsN false) (eV 1) (eC .none))) (bT (l2 (pIn false) (eV 1) (eV 4))) η = some (pf x)) :
    F_qorder [c.d, fe] = some (c.S ((pntF ps).filter fun x => kf c ps x && pf x)) := by
  have h7 := t.ps.len
  have hs0 : c.s 0 = .str "" := by unfold Sc.s; rw [t.ok.top]
  have ep := L_painted t 13 0 (by omega) (by omega)
  rw [hs0] at ep
  have kl := kids_2 t.ps
  obtain ⟨η', e, s3, s4, s5, rfl⟩ := sGo_all (t := tgN 3) (body := ordB F_qpath F_qbox) c.s
    (fun done η => ∃ s3 s4 s5, η = [.val c.d, .val fe, .own ((done.filter fun x => kf c ps x && pf x).map c.s), s3, s4, s5]) (pntF ps) (η := [.val c.d, .val fe, .own [], .un, .un, .un])
    (by
      rintro done x rest η hall ⟨s3, s4, s5, rfl⟩
      have hx : In ps x := kids_mem t.ps (n := 13) (a := 0) (show x ∈ pntF ps by rw [hall]; simp)
      have hdz : (pntF ps).length = done.length + (x :: rest).length := by rw [hall, List.length_append]
      have hdl : (done.filter fun x => kf c ps x && pf x).length ≤ 2000000 := Nat.le_trans (List.length_filter_le ..) (by omega)
      have h3 : ∀ s5 : Sl, sComp [none, some 0] (lI asL (eV 4)) (tgN 0) (bT (l2 (pIn false) (eC (.str "h")) (l2 pIx (lA F_qbox (aC (eV 1) (aC (eV 0) aN))) (eC (.int 6))))) (eV 0) [.val c.d, .val fe, .own ((done.filter fun x => kf c ps x && pf x).map c.s), .val (c.s x), .val (c.S (P ps x)), s5] = some (((P ps x).filter c.geo.h).map c.s) := fun s5 => by
        have pl := pF_len (ps := ps) x x
        refine comp_eq (ds := (P ps x).map c.s) (lI_of rfl rfl) (by rw [List.length_map]; show (pF ps x x).length ≤ _; have := hx.2; omega) ?_
        exact cGo_map (η := [.un, .val c.d]) c.s c.geo.h c.s _ fun y hy => ⟨[.val (c.s y), .val c.d], rfl, bT_of (l2_of rfl (l2_of (lA_of (aC_of rfl (aC_of rfl rfl)) (L_box t (P_in2 t hx hy))) rfl rfl) rfl), fun _ => rfl⟩
      refine ⟨[.val c.d, .val fe, .own ((done.filter fun x => kf c ps x && pf x).map c.s), .val (c.s x), s4, s5], [.val c.d, .val fe, .own (((done ++ [x]).filter fun x => kf c ps x && pf x).map c.s), .val (c.s x), .val (c.S (P ps x)), .val (c.S ((P ps x).filter c.geo.h))], rfl, ?_, _, _, _, rfl⟩
      refine seq_of (set_of (lA_of (aC_of rfl (aC_of rfl rfl)) (L_path t hx))) (seq_of (setO_of (h3 s5)) ?_)
      have ec : bAnd (bT (l2 (pIn false) (eC (.str "f")) (l2 pIx (lA F_qbox (aC (eV 0) (aC (eV 3) aN))) (eC (.int 6))))) (bAnd (bT (l2 pEq (eV 5) (oE (fun η => (aN η).bind gL)))) (bOr (bT (l2 (pIsN false) (eV 1) (eC .none))) (bT (l2 (pIn false) (eV 1) (eV 4))))) [.val c.d, .val fe, .own ((done.filter fun x => kf c ps x && pf x).map c.s), .val (c.s x), .val (c.S (P ps x)), .val (c.S ((P ps x).filter c.geo.h))]
          = some (inM "f" (c.mr x) && (((P ps x).filter c.geo.h).isEmpty && pf x)) :=
        bAnd_of (bT_of (l2_of rfl (l2_of (lA_of (aC_of rfl (aC_of rfl rfl)) (L_box t hx)) rfl rfl) rfl)) (bAnd_of (bT_of (l2_of rfl (oE_of (bind_of rfl (gL_ok (by simp)))) (pEq_nil t.ok _))) (hf x hx _ rfl rfl))
      have eb : (inM "f" (c.mr x) && (((P ps x).filter c.geo.h).isEmpty && pf x)) = (kf c ps x && pf x) := by
        have : ((P ps x).filter c.geo.h).isEmpty = c.geo.shown ps x := by
          unfold Geo.shown
          induction P ps x with
          | nil => rfl
          | cons y r ih =>
            rw [List.filter_cons, List.all_cons]
            cases hy : c.geo.h y with
            | true => rfl
            | false => rw [if_neg (by decide), ih]; rfl
        rw [this]
        unfold kf
        rw [← Bool.and_assoc, Bool.and_comm (inM "f" (c.mr x))]
      rw [eb] at ec
      rw [List.filter_append]
      show sIf _ _ _ [.val c.d, .val fe, .own ((done.filter fun x => kf c ps x && pf x).map c.s), .val (c.s x), .val (c.S (P ps x)), .val (c.S ((P ps x).filter c.geo.h))] = _
      cases hk : (kf c ps x && pf x) with
      | true =>
        rw [hk] at ec
        rw [List.filter_cons_of_pos (p := fun x => kf c ps x && pf x) hk, List.filter_nil, List.map_append]
        exact ifT ec (app_of rfl rfl (by rw [List.length_map]; omega))
      | false =>
        rw [hk] at ec
        rw [List.filter_cons_of_neg (p := fun x => kf c ps x && pf x) (by rw [hk]; decide), List.filter_nil, List.append_nil]
        exact ifN ec) ⟨.un, .un, .un, rfl⟩
  exact run_of rfl (show g_qorder (F_qpainted 13) F_qpath F_qbox [.val c.d, .val fe, .un, .un, .un, .un] = _ from seq_of (setO_of (bind_of rfl (gL_ok (by simp)))) (seq_of (for_of (lI_of (lA_of (aC_of rfl (aC_of rfl rfl)) ep) rfl) e) rfl))
end
end K40
namespace K40
open PySem L2 L2.PU
theorem flat_pow {n : Nat} {f : Nat → List Nat} : ∀ (l : List Nat) (s : Nat), l.Pairwise (· < ·) → (∀ x ∈ l, s < x ∧ x ≤ n) → (∀ x ∈ l, (f x).length ≤ 2 ^ (n - x)) → (l.flatMap f).length + 1 ≤ 2 ^ (n - s)
  | [], s, _, _, _ => Nat.one_le_two_pow
  | x :: r, s, hp, hs, hf => by
    obtain ⟨p1, p2⟩ := List.pairwise_cons.mp hp
    have ih := flat_pow r x p2 (fun y hy => ⟨p1 y hy, (hs y (List.mem_cons_of_mem _ hy)).2⟩) fun y hy => hf y (List.mem_cons_of_mem _ hy)
    have h1 := hf x List.mem_cons_self
    have h2 := hs x List.mem_cons_self
    rw [List.flatMap_cons, List.length_append]
    have h3 : 2 ^ (n - x) + 2 ^ (n - x) = 2 ^ (n - x + 1) := by rw [Nat.pow_succ]; omega
    have h4 : 2 ^ (n - x + 1) ≤ 2 ^ (n - s) := Nat.pow_le_pow_right (by decide) (by omega)
    omega
section
variable {ps : List Nat} (ok : PsOk ps)
theorem ch_pw (a : Nat) : (chN (stF ps) a).Pairwise (· < ·) := by
  unfold chN
  rw [List.pairwise_map]
  refine List.Pairwise.filter _ ?_
  unfold stF
  rw [List.pairwise_map]
  exact List.Pairwise.imp (fun h => by show _ + 1 < _ + 1; omega) List.pairwise_lt_range
include ok
theorem blF_pow : ∀ m q, 1 ≤ q → q ≤ ps.length → (blF (stF ps) m q).length ≤ 2 ^ (ps.length - q)
  | 0, q, _, _ => Nat.zero_le _
  | m + 1, q, h1, h2 => by
    unfold blF
    rw [List.length_cons]
    exact flat_pow _ q (ch_pw q) (fun x hx => ⟨(ch_mem ok hx).2.2.2, (ch_mem ok hx).2.1⟩) fun x hx => blF_pow m x (ch_mem ok hx).1 (ch_mem ok hx).2.1
theorem pnt_128 : (pntF ps).length ≤ 127 := by
  have h7 := ok.len
  have := flat_pow (n := ps.length) (f := blF (stF ps) 13) (chN (stF ps) 0) 0 (ch_pw 0) (fun x hx => ⟨(ch_mem ok hx).2.2.2, (ch_mem ok hx).2.1⟩) fun x hx => blF_pow ok 13 x (ch_mem ok hx).1 (ch_mem ok hx).2.1
  have h8 : 2 ^ (ps.length - 0) ≤ 2 ^ 7 := Nat.pow_le_pow_right (by decide) (by omega)
  unfold pntF kids
  omega
end
noncomputable def Dr.sc (c : Dr) : Sc := ⟨stF c.ps, c.nm, fun i => c.L (i - 1), fun i => c.T (i - 1), fun i => c.W (i - 1), fun i => c.H (i - 1), fun i => c.mr (i - 1)⟩
theorem Dr.sc_d (c : Dr) : c.sc.d = c.d := by
  unfold Sc.d Dr.d Dr.sc stF
  dsimp only
  rw [List.map_map]
  rfl
theorem Dr.sc_ok {c : Dr} (h : c.Ok) : c.sc.Ok := ⟨h.inj, h.top, h.ok, fun a => h.okm _, by
  show (stF c.ps).length ≤ 12
  unfold stF
  rw [List.length_map, List.length_range]; exact h.len⟩
theorem bOrT {f g : En → Option Bool} {η : En} (h : f η = some true) : bOr f g η = some true := by
  unfold bOr; rw [h]; rfl
theorem fil_fil (p r : Nat → Bool) (l : List Nat) : (l.filter p).filter r = (l.filter r).filter p := by
  rw [List.filter_filter, List.filter_filter]
  exact List.filter_congr fun x _ => Bool.and_comm _ _
noncomputable def repS (x : Str) : Bool := decide (x.length ≤ 50) && x.cps.toList.all fun c => decide (c < 16 ^ 8)
theorem rep_zz : repS ("zz" : Str) = true := by decide +kernel
theorem view_ok {c : Sc} {ps : List Nat} {tn : Nat} (tt : Tn c ps) (hnm : c.nm = nmT tn) : ∃ L O pa, Vw c.d L O pa := by
  have ok := tt.ps
  have h7 := ok.len
  have t : Tr c ps (In ps) (pntF ps) := ⟨tt.ok, fun q h => h, fun q h => by rw [tt.st]; exact parN_st h.1 h.2, fun q h => by rw [tt.st]; exact path_eq ok h.1 h.2, fun q h x hx => P_in' ok q h hx, by rw [tt.st]; exact pnt_eq ok, fun q h => kids_mem ok h, kids_2 ok, ok⟩
  have in8 : ∀ {q}, In ps q → q ≤ 8 := fun h => by have := h.2; omega
  have pin : ∀ x ∈ pntF ps, In ps x := fun x hx => kids_mem ok hx
  have oin : ∀ x ∈ (pntF ps).filter (kf c ps), In ps x := fun x hx => pin x (List.mem_filter.mp hx).1
  have hL : ∀ f, f ∈ ((stF ps).map (·.1)).map (sg tn) ↔ ∃ q, In ps q ∧ sg tn q = f := fun f => by
    rw [List.map_map, List.mem_map]
    constructor
    · rintro ⟨x, hx, e⟩
      exact ⟨x.1, ⟨(st_mem hx).1, (st_mem hx).2.1⟩, e⟩
    · rintro ⟨q, hq, e⟩
      exact ⟨(q, par ps q), mem_st hq.1 hq.2, e⟩
  have P8 : ∀ {q}, In ps q → ∀ x ∈ P ps q, x ≤ 8 := fun hq x hx => in8 (P_in' ok _ hq hx)
  have paq : ∀ {q}, In ps q → (P ps (si tn (sg tn q))).map (sg tn) = (P ps q).map (sg tn) := fun hq => by rw [si_sg (in8 hq)]
  have fl : ∀ q, In ps q → (((pntF ps).filter (kf c ps)).map (sg tn)).filter (fun x => decide (sg tn q ∈ (P ps (si tn x)).map (sg tn))) = (((pntF ps).filter (kf c ps)).filter fun x => decide (q ∈ P ps x)).map (sg tn) := fun q hq => by
    rw [List.filter_map]
    congr 1
    refine List.filter_congr fun x hx => ?_
    have hxi := oin x hx
    show decide (sg tn q ∈ (P ps (si tn (sg tn x))).map (sg tn)) = _
    rw [paq hxi]
    refine decide_eq_decide.mpr ⟨fun h => ?_, fun h => List.mem_map.mpr ⟨q, h, rfl⟩⟩
    obtain ⟨y, hy, e⟩ := List.mem_map.mp h
    rw [← sg_inj (P8 hxi y hy) (in8 hq) e]; exact hy
  refine ⟨((stF ps).map (·.1)).map (sg tn), ((pntF ps).filter (kf c ps)).map (sg tn), fun x => (P ps (si tn x)).map (sg tn), ?_⟩
  constructor
  case ll => rw [List.length_map, List.length_map]; unfold stF; rw [List.length_map, List.length_range]; exact h7
  case lo => rw [List.length_map]; exact Nat.le_trans (List.length_filter_le ..) (Nat.le_trans (pnt_128 ok) (by decide))
  case l9 =>
    intro f hf
    obtain ⟨q, hq, rfl⟩ := (hL f).mp hf
    exact sg_le hq.1
  case ord0 =>
    intro s n kk hc
    rw [F_ord t hc, S_u hnm fun x hx => in8 (oin x hx)]
  case ordF =>
    intro f hf s n kk hc
    obtain ⟨q, hq, rfl⟩ := (hL f).mp hf
    rw [← s_u hnm (in8 hq)] at hc
    have e := F_ordF t (q := q) (inner := blF (stF ps) 13 q) (by rw [tt.st]; exact blwN_eq ok 13 q hq.1 hq.2 (by omega)) (fun x hx => by
      rw [← below_eq ok hq] at hx
      exact pin x (List.mem_filter.mp hx).1) (by rw [← below_eq ok hq]; exact Nat.le_trans (List.length_filter_le ..) (kids_2 ok)) hc
    rw [e, fl q hq, ← S_u hnm fun x hx => in8 (oin x (List.mem_filter.mp hx).1), ← below_eq ok hq, fil_fil]
    rfl
  case law0 =>
    have e := L_order tt .none (fun _ => true) fun x hx η h1 h4 => bOrT (bT_of (l2_of h1 rfl rfl))
    rw [e, ← S_u hnm fun x hx => in8 (oin x hx)]
    congr 2
    exact List.filter_congr fun x _ => Bool.and_true _
  case lawF =>
    intro f hf
    obtain ⟨q, hq, rfl⟩ := (hL f).mp hf
    have e := L_order tt (c.s q) (fun x => decide (q ∈ P ps x)) fun x hx η h1 h4 => bOr_of (bT_of (l2_of h1 rfl rfl)) (bT_of (l2_of h1 h4 (pIn_s tt.ok false q _)))
    rw [← s_u hnm (in8 hq), e, fl q hq, ← S_u hnm fun x hx => in8 (oin x (List.mem_filter.mp hx).1), List.filter_filter]
    congr 2
    exact List.filter_congr fun x _ => Bool.and_comm _ _
  case path =>
    intro k hk
    obtain ⟨x, hx, rfl⟩ := List.mem_map.mp hk
    have hi := oin x hx
    show _ = some (u.S ((P ps (si tn (sg tn x))).map (sg tn))) ∧ _ = some (u.S ((P ps (si tn (sg tn x))).map (sg tn)))
    rw [paq hi, ← S_u hnm (P8 hi), ← s_u hnm (in8 hi)]
    exact ⟨T_path t hi, L_path tt hi⟩
  case box =>
    intro f hf
    obtain ⟨q, hq, rfl⟩ := (hL f).mp hf
    rw [← s_u hnm (in8 hq)]
    exact ⟨_, T_box t hq⟩
  case boxN =>
    intro f hf
    obtain ⟨q, hq, rfl⟩ := (hL f).mp hf
    rw [← s_u hnm (in8 hq)]
    have e := box_go tt.ok q (par ps q) c.st (by rw [tt.st]; exact parN_st hq.1 hq.2) .un
    exact runX_of rfl (show gx_box_of [.val c.d, .val (c.s q), .un] = _ from xSeq_rt (for_of (lI_of rfl rfl) e))
  case boxX =>
    have hb : Bad c "zz" := ⟨ok_zz, by decide +kernel, by decide +kernel, fun x hx e => by
      rw [tt.st] at hx
      have hi : In ps x.1 := ⟨(st_mem hx).1, (st_mem hx).2.1⟩
      rw [hnm, nm_sg (in8 hi)] at e
      have := nmU_inj _ 9 (e.trans nmU_9.symm)
      have := sg_le (t := tn) hi.1
      omega⟩
    obtain ⟨s, e⟩ := loop_bad tt hb
    show FX_box_of [c.d, .str (nmU 9)] = _
    rw [nmU_9]
    refine runX_of rfl (show gx_box_of [.val c.d, .val (.str "zz"), .un] = _ from xSeq_nx e ?_)
    have hp : pRep (eV 1) [.val c.d, .val (.str "zz"), s] = true := rep_zz
    show (if (pYes _ && pRep (eV 1) [.val c.d, .val (.str "zz"), s]) = true then some 0 else none) = _
    rw [hp]; rfl
  case has =>
    intro f
    have e : sComp [none, some 1] (lI asTu (eV 0)) (tgN 0) tTrue (l2 pEq (l2 pIx (eV 0) (eC (.int 0))) (eV 1)) [.val c.d, .val (u.s f)] = some ((c.st.map fun x => decide (c.nm x.1 = nmU f)).map PyData.bool) := by
      refine comp_eq (ds := c.st.map c.box) (lI_of rfl rfl) (by rw [List.length_map]; have := tt.ok.len; omega) ?_
      rw [List.map_map]
      exact cGo_mapT c.box (fun x => PyData.bool (decide (c.nm x.1 = nmU f))) c.st fun x _ => ⟨_, rfl, l2_of (l2_of rfl rfl rfl) rfl (pEq_str (tt.ok.ok _) (u_ok.ok f))⟩
    refine run_of rfl (show g_has_box [.val c.d, .val (u.s f)] = _ from ret_of (lA_of (aC_of (oE_of e) rfl) ((pAny_of _).trans ?_)))
    congr 2
    rw [List.any_map, tt.st, Bool.eq_iff_iff, List.any_eq_true, decide_eq_true_eq, hL]
    constructor
    · rintro ⟨x, hx, z⟩
      have hi : In ps x.1 := ⟨(st_mem hx).1, (st_mem hx).2.1⟩
      have z : c.nm x.1 = nmU f := by simpa using z
      rw [hnm, nm_sg (in8 hi)] at z
      exact ⟨x.1, hi, nmU_inj _ _ z⟩
    · rintro ⟨q, hq, rfl⟩
      refine ⟨(q, par ps q), mem_st hq.1 hq.2, ?_⟩
      have : c.nm q = nmU (sg tn q) := by rw [hnm, nm_sg (in8 hq)]
      simpa using this
  case nms =>
    intro η h1
    refine comp_eq (ds := c.st.map c.box) (lI_of h1 rfl) (by rw [List.length_map]; have := tt.ok.len; omega) ?_
    rw [List.map_map, List.map_map, ← tt.st]
    exact cGo_mapT c.box (fun x => u.s (sg tn x.1)) c.st fun x hx => ⟨_, rfl, (l2_of rfl rfl rfl : _ = some (c.s x.1)).trans (by
      rw [tt.st] at hx
      rw [s_u hnm (in8 ⟨(st_mem hx).1, (st_mem hx).2.1⟩)])⟩
end K40
namespace K40
open PySem L2 L2.PU
noncomputable def orV (O : List Nat) (pa : Nat → List Nat) : Option Nat → List Nat
  | none => O
  | some f => O.filter fun x => decide (f ∈ pa x)
noncomputable def heirs (N : List Nat) : Option Nat → List Nat
  | none => []
  | some k => N.drop (N.idxOf k + 1) ++ N.take (N.idxOf k)
section
variable {sc : PyData} {L O : List Nat} {pa : Nat → List Nat} (v : Vw sc L O pa)
include v
theorem orV_len (F : Option Nat) : (orV O pa F).length ≤ 400 := by
  cases F with
  | none => exact v.lo
  | some f => exact Nat.le_trans (List.length_filter_le ..) v.lo
theorem orV_ok {F : Option Nat} (hF : ∀ f, F = some f → f ∈ L) (n : Nat) : OrF u (orV O pa F) sc (kD u F) n := fun s kk hc => by
  cases F with
  | none => exact v.ord0 s n kk hc
  | some f => exact v.ordF f (hF f rfl) s n kk hc
theorem orV_law {F : Option Nat} (hF : ∀ f, F = some f → f ∈ L) : F_qorder [sc, kD u F] = some (u.S (orV O pa F)) := by
  cases F with
  | none => exact v.law0
  | some f => exact v.lawF f (hF f rfl)
omit v in
theorem orV_sub {F : Option Nat} {x : Nat} (h : x ∈ orV O pa F) : x ∈ O := by
  cases F with
  | none => exact h
  | some f => exact (List.mem_filter.mp h).1
end
section
variable {s : Sto} {n : Nat} {a b : PyData}
theorem settleG {K : Option Nat} {H N : List Nat} (lN : N.length ≤ 1000) (lH : H.length ≤ 1000) (hc : Fo s n a b (kD u K)) (hO : OrF u N a b n) :
    F_X_settle [.r n, .d (u.S H)] s = some (.d .none, s.set n (.obj 0 (fo a b (kD u (K.bind (nxt H N)))))) := by
  cases K with
  | none =>
    rw [show s.set n (.obj 0 (fo a b (kD u (Option.bind none (nxt H N))))) = s from set_same hc]
    exact settle_none (c := u) hc (hO s _ hc)
  | some k => exact F_settle u_ok hc (H := H) (hO s _ hc) lN lH
theorem rb_ok {K : Option Nat} {N : List Nat} (hK : ∀ k, K = some k → k ∈ N) (lN : N.length ≤ 1000) : F_round_behind [u.S N, kD u K] = some (u.S (heirs N K)) := by
  cases K with
  | none => exact run_of rfl (show g_round_behind [.val (u.S N), .val .none, .un] = _ from by
      unfold g_round_behind sSeq
      rw [ifT (bT_of (l2_of rfl rfl rfl)) (ret_of (oE_of (bind_of rfl (gL_ok (by simp)))))]
      rfl)
  | some k => exact F_rb u_ok (hK k rfl) lN
theorem heirs_len {N : List Nat} (K : Option Nat) (lN : N.length ≤ 500) : (heirs N K).length ≤ 1000 := by
  cases K with
  | none => exact Nat.zero_le _
  | some k =>
    have l1 := List.length_drop (i := N.idxOf k + 1) (l := N)
    have l2 := List.length_take (i := N.idxOf k) (l := N)
    show (N.drop (N.idxOf k + 1) ++ N.take (N.idxOf k)).length ≤ 1000
    rw [List.length_append]; omega
noncomputable def newF (L : List Nat) (F : Option Nat) : Option Nat := F.bind fun f => if f ∈ L then some f else none
theorem F_changeG {F K : Option Nat} {N N' L' : List Nat} {sc' : PyData} (hc : Fo s n a (kD u F) (kD u K)) (hO : OrF u N a (kD u F) n) (hK : ∀ k, K = some k → k ∈ N) (lN : N.length ≤ 500) (lN' : N'.length ≤ 500)
    (hh : ∀ f, F_has_box [sc', u.s f] = some (.bool (decide (f ∈ L')))) (hO' : OrF u N' sc' (kD u (newF L' F)) n) :
    F_X_change [.r n, .d sc'] s = some (.d .none, s.set n (.obj 0 (fo sc' (kD u (newF L' F)) (kD u (K.bind (nxt (heirs N K) N')))))) := by
  have er := rb_ok hK (by omega)
  have hc1 := Fo.set hc sc' (kD u F) (kD u K)
  have hc2 := Fo.set hc sc' (kD u (newF L' F)) (kD u K)
  have es := settleG (H := heirs N K) (by omega) (heirs_len K lN) hc2 hO'
  rw [set_set] at es
  show runM 2 3 (g_X_change F_round_behind F_X_order F_has_box F_X_settle) [.r n, .d sc'] s = _
  refine mRunN (w1 := ⟨[some (.r n), some (.d sc'), some (.d (u.S (heirs N K)))], s.set n (.obj 0 (fo sc' (kD u (newF L' F)) (kD u (K.bind (nxt (heirs N K) N')))))⟩) rfl ?_
  show g_X_change F_round_behind F_X_order F_has_box F_X_settle ⟨[some (.r n), some (.d sc'), none], s⟩ = _
  refine mSeq_of (w1 := ⟨[some (.r n), some (.d sc'), some (.d (u.S (heirs N K)))], s⟩) (mSet_of (mCB_of (maC_of (mMeth_of rfl hc rfl rfl (hO s _ hc)) (maC_of (s1 := s) (mP_of ?_) maN_of)) rfl er)) ?_
  · rw [vw1 hc]; exact f_keyed _
  refine mSeq_of (w1 := ⟨[some (.r n), some (.d sc'), some (.d (u.S (heirs N K)))], s.set n (.obj 0 (fo sc' (kD u F) (kD u K)))⟩) ?_ ?_
  · rw [mPut_of (d := .d sc') (n := n) (fs := fo a (kD u F) (kD u K)) (mP_of ?_) rfl hc (by simp [fo])]
    · rfl
    · rw [vw1 hc]; rfl
  refine mSeq_of (w1 := ⟨[some (.r n), some (.d sc'), some (.d (u.S (heirs N K)))], s.set n (.obj 0 (fo sc' (kD u (newF L' F)) (kD u K)))⟩) ?_ ?_
  · cases F with
    | none =>
      refine mIfN (s := s.set n (.obj 0 (fo sc' .none (kD u K)))) (tPv_of ?_)
      rw [vw1 hc1]
      unfold bAnd
      rw [bT_of (l2_of (f_fence _) rfl rfl)]; rfl
    | some f =>
      have hc1' : Fo (s.set n (.obj 0 (fo sc' (u.s f) (kD u K)))) n sc' (u.s f) (kD u K) := hc1
      have et : tPv (bAnd (bT (l2 (pIsN true) (eFld 0 "fence") (eC .none))) (bNot (bT (lA F_has_box (aC (eV 1) (aC (eFld 0 "fence") aN)))))) ⟨[some (.r n), some (.d sc'), some (.d (u.S (heirs N K)))], s.set n (.obj 0 (fo sc' (u.s f) (kD u K)))⟩ = some (!decide (f ∈ L'), s.set n (.obj 0 (fo sc' (u.s f) (kD u K)))) := by
        refine tPv_of ?_
        rw [vw1 hc1']
        exact bAnd_of (a := true) (bT_of (l2_of (f_fence _) rfl rfl)) (bNot_of (bT_of (lA_of (aC_of rfl (aC_of (f_fence _) rfl)) (hh f))))
      by_cases hf : f ∈ L'
      · rw [decide_eq_true hf] at et
        have : newF L' (some f) = some f := if_pos hf
        rw [this]
        exact mIfN et
      · rw [decide_eq_false hf] at et
        have : newF L' (some f) = none := if_neg hf
        rw [this]
        refine mIfT et ?_
        rw [mPut_of (d := .d .none) (n := n) (fs := fo sc' (u.s f) (kD u K)) (mP_of rfl) rfl hc1 (by simp [fo]), set_set]
        rfl
  exact mExp_of (mMeth_of rfl hc2 rfl (maC_of (s1 := s.set n (.obj 0 (fo sc' (kD u (newF L' F)) (kD u K)))) (mP_of (by rw [vw1 hc2]; rfl)) maN_of) es)
end
theorem goes_none (B : PyData) (N : List Nat) : F_qgoes_on [B, u.S N, .none] = some .none := run_of rfl (show g_qgoes_on [.val B, .val (u.S N), .val .none, .un] = _ from by
  unfold g_qgoes_on sSeq
  rw [ifT (bOrT (bT_of (l2_of rfl rfl rfl))) (ret_of rfl)]
  rfl)
theorem goes_some {B N : List Nat} {k : Nat} (hk : k ∈ B) (lB : B.length ≤ 400) (lN : N.length ≤ 500) : F_qgoes_on [u.S B, u.S N, u.s k] = some (kD u (nxt (heirs B (some k)) N k)) := by
  have et : bOr (bT (l2 (pIsN false) (eV 2) (eC .none))) (bT (l2 (pIn false) (eV 2) (eV 1))) [.val (u.S B), .val (u.S N), .val (u.s k), .un] = some (decide (k ∈ N)) := bOr_of (bT_of (l2_of rfl rfl rfl)) (bT_of (l2_of rfl rfl (pIn_s u_ok false k N)))
  refine run_of rfl (show g_qgoes_on [.val (u.S B), .val (u.S N), .val (u.s k), .un] = _ from ?_)
  by_cases hN : k ∈ N
  · rw [decide_eq_true hN] at et
    have : nxt (heirs B (some k)) N k = some k := if_pos hN
    rw [this]
    unfold g_qgoes_on sSeq
    rw [ifT et (ret_of rfl)]
    rfl
  · rw [decide_eq_false hN] at et
    have hi : B.idxOf k < B.length := List.idxOf_lt_length_of_mem hk
    have l1 := List.length_drop (i := B.idxOf k) (l := B)
    have l2' := List.length_take (i := B.idxOf k) (l := B)
    have e1 : sComp [none, some 1] (lI asL (l2 pAdd (eSl (eV 0) (pS (eV 3)) pN) (eSl (eV 0) pN (pS (eV 3))))) (tgN 0) (bT (l2 (pIn false) (eV 0) (eV 1))) (eV 0) [.val (u.S B), .val (u.S N), .val (u.s k), .val (.int ((B.idxOf k : Nat) : Int))] = some (((B.drop (B.idxOf k) ++ B.take (B.idxOf k)).filter fun x => decide (x ∈ N)).map u.s) := by
      refine comp_eq (ds := (B.drop (B.idxOf k) ++ B.take (B.idxOf k)).map u.s) (lI_of (l2_of (eSl_of (l := some ((B.idxOf k : Nat) : Int)) (h := none) rfl (pS_of rfl) rfl (from_s B _)) (eSl_of (l := none) (h := some ((B.idxOf k : Nat) : Int)) rfl rfl (pS_of rfl) (to_s B _)) (cat_s (by omega) (by omega))) rfl) (by rw [List.length_map, List.length_append]; omega) ?_
      exact cGo_map u.s (fun x => decide (x ∈ N)) u.s _ fun x _ => ⟨_, rfl, bT_of (l2_of rfl rfl (pIn_s u_ok false x N)), fun _ => rfl⟩
    have e2 : (B.drop (B.idxOf k) ++ B.take (B.idxOf k)).filter (fun x => decide (x ∈ N)) = (heirs B (some k)).filter fun x => decide (x ∈ N) := by
      rw [List.drop_eq_getElem_cons hi, List.getElem_idxOf hi, List.cons_append, List.filter_cons_of_neg (by simpa using hN)]
      rfl
    rw [e2] at e1
    have lf : ((heirs B (some k)).filter fun x => decide (x ∈ N)).length ≤ 400 := Nat.le_trans (List.length_filter_le ..) (by
      show (B.drop (B.idxOf k + 1) ++ B.take (B.idxOf k)).length ≤ 400
      rw [List.length_append, List.length_drop]; omega)
    have : nxt (heirs B (some k)) N k = ((heirs B (some k)).filter (fun x => decide (x ∈ N)) ++ N).head? := if_neg hN
    rw [this]
    obtain ⟨y, f1, f2⟩ := first_of' (c := u) (l := (heirs B (some k)).filter (fun x => decide (x ∈ N)) ++ N) (by rw [List.length_append]; omega)
    refine seq_of (ifN et) (seq_of (set_of (l2_of rfl rfl (pIdx_s u_ok hk))) (ret_of (l2_of (l2_of (l2_of (oE_of e1) rfl (cat_s (by omega) (by omega))) (oE_of (bind_of rfl (gL_ok (by simp)))) f1) rfl f2)))
end K40
namespace K40
open PySem L2 L2.PU
theorem mxMeth_of {w : Wd} {k n : Nat} {nm : Str} {s s1 : Sto} {ds : List D} {fx : List D → Sto → Option (Nat × Sto)} {o : MF} {fs : MFs} {as : List (Str × D)} {r : Option (Nat × Sto)} (h0 : o w = some (.r n, s)) (hc : s[n]? = some (.obj k as)) (hl : as.lookup nm = none) (h1 : fs ⟨w.η, s⟩ = some (ds, s1)) (h2 : fx (.r n :: ds) s1 = r) : mxMeth k nm fx o fs w = r := by
  unfold mxMeth
  rw [h0, Option.bind_some]
  dsimp only
  rw [hc]
  dsimp only
  rw [if_pos ⟨rfl, hl⟩, h1]
  exact h2
theorem mCall_of {w : Wd} {fn : DFn} {fs : MFs} {ds : List D} {s : Sto} {r : Option (D × Sto)} (h1 : fs w = some (ds, s)) (h2 : fn ds s = r) : mCall fn fs w = r := by
  unfold mCall
  rw [h1]; exact h2
theorem mTry_no {w : Wd} {g : MXF} {hd : Nat → Option PyData} {u : Wd → Option MOut} {r : Option MOut} (h : g w = none) (h2 : u w = r) : mTry g hd u w = r := by
  unfold mTry; rw [h]; exact h2
theorem mTry_of {w : Wd} {g : MXF} {hd : Nat → Option PyData} {u : Wd → Option MOut} {c : Nat} {s : Sto} {d : PyData} (h : g w = some (c, s)) (h2 : hd c = some d) : mTry g hd u w = some (.rt (.d d) s) := by
  unfold mTry; rw [h]; show (hd c).bind _ = _; rw [h2]; rfl
theorem mxOr_l {w : Wd} {g g' : MXF} {c : Nat × Sto} (h : g w = some c) : mxOr g g' w = some c := by
  unfold mxOr; rw [h]
theorem mxOr_r {w : Wd} {g g' : MXF} {r : Option (Nat × Sto)} (h : g w = none) (h2 : g' w = r) : mxOr g g' w = r := by
  unfold mxOr; rw [h]; exact h2
theorem mxIfT {w : Wd} {p : MTF} {g g' : MXF} {s : Sto} {r : Option (Nat × Sto)} (h : p w = some (true, s)) (h2 : g ⟨w.η, s⟩ = r) : mxIf p g g' w = r := by
  unfold mxIf; rw [h]; exact h2
theorem mxIfF {w : Wd} {p : MTF} {g g' : MXF} {s : Sto} {r : Option (Nat × Sto)} (h : p w = some (false, s)) (h2 : g' ⟨w.η, s⟩ = r) : mxIf p g g' w = r := by
  unfold mxIf; rw [h]; exact h2
theorem mxSeq_nx {w w1 : Wd} {f : Wd → Option MOut} {g : MXF} {r : Option (Nat × Sto)} (h : f w = some (.nx w1)) (h2 : g w1 = r) : mxSeq f g w = r := by
  unfold mxSeq; rw [h]; exact h2
theorem mxSeq_rt {w : Wd} {f : Wd → Option MOut} {g : MXF} {d : D} {s : Sto} (h : f w = some (.rt d s)) : mxSeq f g w = none := by
  unfold mxSeq; rw [h]; rfl
theorem mIfxT {w : Wd} {p : MTF} {f g : MF} {s : Sto} {r : Option (D × Sto)} (h : p w = some (true, s)) (h2 : f ⟨w.η, s⟩ = r) : mIfx p f g w = r := by
  unfold mIfx; rw [h]; exact h2
theorem mIfxF {w : Wd} {p : MTF} {f g : MF} {s : Sto} {r : Option (D × Sto)} (h : p w = some (false, s)) (h2 : g ⟨w.η, s⟩ = r) : mIfx p f g w = r := by
  unfold mIfx; rw [h]; exact h2
section
variable {s : Sto} {n : Nat} {a b kk : PyData}
theorem FX_to {O : List Nat} {k : Nat} (hc : Fo s n a b kk) (hO : F_X_order [.r n] s = some (.d (u.S O), s)) (hr : repS (nmU k) = true) :
    FX_X_to [.r n, .d (u.s k)] s = if k ∈ O then none else some (0, s) := by
  have e := pIn_s u_ok true k O
  have et : mB (mOpL (pIn true) (mP (eV 1)) (mMeth 0 "order" F_X_order (mV 0) maN)) ⟨[some (.r n), some (.d (u.s k))], s⟩ = some (!decide (k ∈ O), s) := mB_of (mOpL_of (mP_of rfl) (mMeth_of rfl hc rfl rfl hO) rfl rfl e rfl)
  show gx_X_to F_X_order ⟨[some (.r n), some (.d (u.s k))], s⟩ = _
  by_cases hk : k ∈ O
  · rw [decide_eq_true hk] at et
    rw [if_pos hk]
    exact mxIfF et rfl
  · rw [decide_eq_false hk] at et
    rw [if_neg hk]
    refine mxIfT et ?_
    have hp : pRep (eV 1) (vw ⟨[some (.r n), some (.d (u.s k))], s⟩) = true := hr
    have hq : (fun η => pYes η && pRep (eV 1) η) (vw ⟨[some (.r n), some (.d (u.s k))], s⟩) = true := by
      show (true && pRep (eV 1) (vw ⟨[some (.r n), some (.d (u.s k))], s⟩)) = true
      rw [hp]; rfl
    unfold mxP
    exact bind_of (x := 0) (if_pos hq) rfl
theorem FX_keepN (hc : Fo s n a b kk) : FX_X_keep_in [.r n, .d .none] s = none := by
  refine (show gx_X_keep_in FX_box_of ⟨[some (.r n), some (.d .none)], s⟩ = _ from mxIfF (s := s) (tPv_of ?_) rfl)
  rw [vw1 hc]; exact bT_of (l2_of rfl rfl rfl)
theorem FX_keepS {f : Nat} {r : Option Nat} (hc : Fo s n a b kk) (hb : FX_box_of [a, u.s f] = r) : FX_X_keep_in [.r n, .d (u.s f)] s = r.bind fun c => some (c, s) := by
  refine (show gx_X_keep_in FX_box_of ⟨[some (.r n), some (.d (u.s f))], s⟩ = _ from mxIfT (s := s) (tPv_of ?_) ?_)
  · rw [vw1 hc]; exact bT_of (l2_of rfl rfl rfl)
  · unfold mxP
    rw [vw1 hc]
    show (((aC (eFld 0 "scene") (aC (eV 1) aN)) _).bind FX_box_of).bind _ = _
    rw [aC_of (f_scene _) (aC_of (d := u.s f) rfl rfl), Option.bind_some, hb]
noncomputable abbrev gTold := g_qtold F_X_to F_X_go F_X_drop F_X_keep_in F_X_change FX_X_to FX_X_keep_in
theorem eqW (w j : Int) (x : PyData) : tPv (bT (l2 pEq (eV 1) (eC (.int j)))) ⟨[some (.r n), some (.d (.int w)), some (.d x), none], s⟩ = some (w == j, s) := tPv_of (bT_of (l2_of rfl rfl (pEq_int w j)))
theorem told_0 {x : PyData} {s' : Sto} (hc : Fo s n a b kk) (hx : FX_X_to [.r n, .d x] s = none) (h : F_X_to [.r n, .d x] s = some (.d .none, s')) : F_qtold [.r n, .d (.int 0), .d x] s = some (.d .none, s') := by
  have q := fun j => eqW (s := s) (n := n) 0 j x
  have e : mIf (tPv (bT (l2 pEq (eV 1) (eC (.int 0))))) (mRet (mMeth 0 "to" F_X_to (mV 0) (maC (mP (eV 2)) maN))) mNx ⟨[some (.r n), some (.d (.int 0)), some (.d x), none], s⟩ = some (.rt (.d .none) s') := mIfT (q 0) (mRet_of (mMeth_of (n := n) rfl hc rfl (maC_of (s1 := s) (mP_of rfl) maN_of) h))
  refine mRun_of rfl (show gTold ⟨[some (.r n), some (.d (.int 0)), some (.d x), none], s⟩ = _ from mTry_no (mxOr_r (mxIfT (q 0) (mxMeth_of (n := n) rfl hc rfl (maC_of (s1 := s) (mP_of rfl) maN_of) hx)) (mxSeq_rt e)) (mSeq_rt e))
theorem told_0X {x : PyData} (hc : Fo s n a b kk) (hx : FX_X_to [.r n, .d x] s = some (0, s)) : F_qtold [.r n, .d (.int 0), .d x] s = some (.d (refD 0), s) := by
  have q := fun j => eqW (s := s) (n := n) 0 j x
  exact mRun_of rfl (show gTold ⟨[some (.r n), some (.d (.int 0)), some (.d x), none], s⟩ = _ from mTry_of (mxOr_l (mxIfT (q 0) (mxMeth_of (n := n) rfl hc rfl (maC_of (s1 := s) (mP_of rfl) maN_of) hx))) rfl)
theorem told_1 {x : PyData} {d : D} {s' : Sto} (hc : Fo s n a b kk) (h : F_X_go [.r n, .d x] s = some (d, s')) : F_qtold [.r n, .d (.int 1), .d x] s = some (d, s') := by
  have q := fun j => eqW (s := s) (n := n) 1 j x
  have e : mIf (tPv (bT (l2 pEq (eV 1) (eC (.int 1))))) (mRet (mMeth 0 "go" F_X_go (mV 0) (maC (mP (eV 2)) maN))) mNx ⟨[some (.r n), some (.d (.int 1)), some (.d x), none], s⟩ = some (.rt d s') := mIfT (q 1) (mRet_of (mMeth_of (n := n) rfl hc rfl (maC_of (s1 := s) (mP_of rfl) maN_of) h))
  exact mRun_of rfl (show gTold ⟨[some (.r n), some (.d (.int 1)), some (.d x), none], s⟩ = _ from mTry_no (mxOr_r (mxIfF (q 0) rfl) (mxSeq_nx (mIfN (q 0)) (mxSeq_rt e))) (mSeq_of (mIfN (q 0)) (mSeq_rt e)))
theorem told_2 {x : PyData} {d : D} {s' : Sto} (hc : Fo s n a b kk) (h : F_X_drop [.r n] s = some (d, s')) : F_qtold [.r n, .d (.int 2), .d x] s = some (d, s') := by
  have q := fun j => eqW (s := s) (n := n) 2 j x
  have e : mIf (tPv (bT (l2 pEq (eV 1) (eC (.int 2))))) (mRet (mMeth 0 "drop" F_X_drop (mV 0) maN)) mNx ⟨[some (.r n), some (.d (.int 2)), some (.d x), none], s⟩ = some (.rt d s') := mIfT (q 2) (mRet_of (mMeth_of (n := n) rfl hc rfl maN_of h))
  exact mRun_of rfl (show gTold ⟨[some (.r n), some (.d (.int 2)), some (.d x), none], s⟩ = _ from mTry_no (mxOr_r (mxIfF (q 0) rfl) (mxSeq_nx (mIfN (q 0)) (mxSeq_nx (mIfN (q 1)) (mxSeq_rt e)))) (mSeq_of (mIfN (q 0)) (mSeq_of (mIfN (q 1)) (mSeq_rt e))))
theorem told_3 {x : PyData} {d : D} {s' : Sto} (hc : Fo s n a b kk) (hx : FX_X_keep_in [.r n, .d x] s = none) (h : F_X_keep_in [.r n, .d x] s = some (d, s')) : F_qtold [.r n, .d (.int 3), .d x] s = some (d, s') := by
  have q := fun j => eqW (s := s) (n := n) 3 j x
  exact mRun_of rfl (show gTold ⟨[some (.r n), some (.d (.int 3)), some (.d x), none], s⟩ = _ from mTry_no (mxOr_r (mxIfF (q 0) rfl) (mxSeq_nx (mIfN (q 0)) (mxSeq_nx (mIfN (q 1)) (mxSeq_nx (mIfN (q 2)) (mxIfT (q 3) (mxMeth_of (n := n) rfl hc rfl (maC_of (s1 := s) (mP_of rfl) maN_of) hx))))))
    (mSeq_of (mIfN (q 0)) (mSeq_of (mIfN (q 1)) (mSeq_of (mIfN (q 2)) (mRet_of (mIfxT (q 3) (mMeth_of (n := n) rfl hc rfl (maC_of (s1 := s) (mP_of rfl) maN_of) h)))))))
theorem told_3X {x : PyData} (hc : Fo s n a b kk) (hx : FX_X_keep_in [.r n, .d x] s = some (0, s)) : F_qtold [.r n, .d (.int 3), .d x] s = some (.d (refD 0), s) := by
  have q := fun j => eqW (s := s) (n := n) 3 j x
  exact mRun_of rfl (show gTold ⟨[some (.r n), some (.d (.int 3)), some (.d x), none], s⟩ = _ from mTry_of (mxOr_r (mxIfF (q 0) rfl) (mxSeq_nx (mIfN (q 0)) (mxSeq_nx (mIfN (q 1)) (mxSeq_nx (mIfN (q 2)) (mxIfT (q 3) (mxMeth_of (n := n) rfl hc rfl (maC_of (s1 := s) (mP_of rfl) maN_of) hx)))))) rfl)
theorem told_4 {x : PyData} {d : D} {s' : Sto} (hc : Fo s n a b kk) (h : F_X_change [.r n, .d x] s = some (d, s')) : F_qtold [.r n, .d (.int 4), .d x] s = some (d, s') := by
  have q := fun j => eqW (s := s) (n := n) 4 j x
  exact mRun_of rfl (show gTold ⟨[some (.r n), some (.d (.int 4)), some (.d x), none], s⟩ = _ from mTry_no (mxOr_r (mxIfF (q 0) rfl) (mxSeq_nx (mIfN (q 0)) (mxSeq_nx (mIfN (q 1)) (mxSeq_nx (mIfN (q 2)) (mxIfF (q 3) rfl)))))
    (mSeq_of (mIfN (q 0)) (mSeq_of (mIfN (q 1)) (mSeq_of (mIfN (q 2)) (mRet_of (mIfxF (q 3) (mMeth_of (n := n) rfl hc rfl (maC_of (s1 := s) (mP_of rfl) maN_of) h)))))))
end
theorem pEq_self {d : PyData} (h : SeqAt.shaped d = true) : pEq d d = some (.bool true) := by
  have := pNe_self h
  unfold pNe at this
  unfold pEq
  rw [if_pos ⟨h, h⟩] at this ⊢
  simp at this
  rw [this]
section
variable {sc : PyData} {L O : List Nat} {pa : Nat → List Nat} (v : Vw sc L O pa)
include v
theorem stands {F K : Option Nat} (hF : ∀ f, F = some f → f ∈ L) (hK : ∀ k, K = some k → k ∈ orV O pa F) {s : Sto} {n : Nat} (hc : Fo s n sc (kD u F) (kD u K)) :
    F_qstands [.r n, .d sc, .d (kD u F), .d (kD u K)] s = some (.d (.bool true), s) := by
  have hO := orV_ok v hF n s _ hc
  refine mRun_of rfl (show g_qstands F_X_now F_X_order F_qorder F_X_path F_qpath ⟨[some (.r n), some (.d sc), some (.d (kD u F)), some (.d (kD u K))], s⟩ = _ from ?_)
  refine mSeq_of (mIfN (tmOrS (mB_of (mOpL_of (mMeth_of (n := n) rfl hc rfl maN_of hO) (mP_of (lA_of (aC_of rfl (aC_of rfl rfl)) (orV_law v hF))) rfl rfl (pNe_S u_ok _) rfl)) (mB_of (mOpL_of (mMeth_of (n := n) rfl hc rfl maN_of (F_now hc)) (mP_of rfl) rfl rfl (pNe_self (kD_shaped u_ok K)) rfl)))) ?_
  cases K with
  | none =>
    refine mRet_of (mOpL_of (mMeth_of (n := n) rfl hc rfl maN_of (F_path0 hc)) (mP_of ((vIf_of (b := true) (bT_of (l2_of rfl rfl rfl))).trans ((if_pos rfl).trans (oE_of (bind_of rfl (gL_ok (by simp))))))) rfl rfl rfl rfl)
  | some k =>
    obtain ⟨p1, p2⟩ := v.path k (orV_sub (hK k rfl))
    refine mRet_of (mOpL_of (mMeth_of (n := n) rfl hc rfl maN_of (F_pathK p1 hc)) (mP_of ((vIf_of (b := false) (bT_of (l2_of rfl rfl rfl))).trans ((if_neg Bool.false_ne_true).trans (lA_of (aC_of rfl (aC_of rfl rfl)) p2)))) rfl rfl (pEq_self (shaped_S u_ok _)) rfl)
end
end K40
namespace K40
open PySem L2 L2.PU
noncomputable def brB : Wd → Option MOut :=
  (mIf (tPv (bAnd (bT (l2 pEq (eV 7) (eC (.int 0)))) (bT (l2 (pIn false) (eV 9) (eV 10))))) (mSet 4 (mP (eV 9))) (mIf (tPv (bOr (bT (l2 pEq (eV 7) (eC (.int 0)))) (bAnd (bT (l2 pEq (eV 7) (eC (.int 3)))) (bAnd (bT (l2 pEq (eV 9) (eC (.str "zz")))) (bT (l2 pEq (lA F_qdrawn (aC (eV 0) (aC (l2 pAdd (eV 6) (eC (.int 2))) (aC (eC (.int 2)) aN)))) (eC (.int 0)))))))) (mSet 11 (mP (lA (fun ds => if ds.length ≤ sizeLine then some (.tuple ds) else none) (aC (eC (.str "refused")) (aC (eC (.int 0)) aN))))) (mIf (tPv (bT (l2 pEq (eV 7) (eC (.int 1))))) (mSeq (mSet 9 (mP (l2 pSub (lA F_qdrawn (aC (eV 0) (aC (l2 pAdd (eV 6) (eC (.int 3))) (aC (eC (.int 11)) aN)))) (eC (.int 5)))))
    (mSeq (mSet 12 (mP (vIf (bT (l2 (pIsN true) (eV 4) (eC .none))) (l2 pIdx (eV 10) (eV 4)) (l2 pSub (eC (.int 0)) (lA pInt (aC (l2 pGt (eV 9) (eC (.int 0))) aN))))))
    (mSeq (mSet 4 (mP (vIf (bT (l2 pNe (eV 10) (oE (fun η => (aN η).bind gL)))) (l2 pIx (eV 10) (l2 pMod (l2 pAdd (eV 12) (eV 9)) (lA pLen (aC (eV 10) aN)))) (eC .none))))
    (mSet 11 (mP (eV 4)))))) (mIf (tPv (bT (l2 pEq (eV 7) (eC (.int 2))))) (mSet 4 (mP (eC .none))) (mIf (tPv (bT (l2 pEq (eV 7) (eC (.int 3))))) (mSeq (mSet 9 (mP (vIf (bT (l2 pEq (eV 9) (eC (.str "zz")))) (eC .none) (eV 9))))
    (mSeq (mSet 3 (mP (eV 9)))
    (mSet 4 (mP (lA F_qgoes_on (aC (oE (fun η => ((aC (eV 4) aN) η).bind gL)) (aC (lA F_qorder (aC (eV 1) (aC (eV 3) aN))) (aC (eV 4) aN)))))))) (mIf (tPv (bT (l2 pEq (eV 7) (eC (.int 4))))) (mSeq (mSet 9 (mP (lA F_qscene (aC (eV 0) (aC (l2 pAdd (eC (.int 300)) (l2 pMul (eC (.int 80)) (l2 pMod (eV 5) (eC (.int 3))))) aN)))))
    (mSeq (mSet 1 (mP (eV 9)))
    (mSeq (mIf (tPv (bT (l2 (pIn true) (eV 3) (oE (sComp [none] (lI asTu (eV 1)) (tgN 0) tTrue (l2 pIx (eV 0) (eC (.int 0)))))))) (mSet 3 (mP (eC .none))) mNx)
    (mSet 4 (mP (lA F_qgoes_on (aC (eV 10) (aC (lA F_qorder (aC (eV 1) (aC (eV 3) aN))) (aC (eV 4) aN))))))))) mNx))))))
noncomputable def finB : Wd → Option MOut :=
  (mIf (tmOr (mB (mOpL pNe (mCall F_qtold (maC (mV 2) (maC (mP (eV 7)) (maC (mP (eV 9)) maN)))) (mP (eV 11)))) (tmNot (mB (mCall F_qstands (maC (mV 2) (maC (mP (eV 1)) (maC (mP (eV 3)) (maC (mP (eV 4)) maN)))))))) (mRet (mP (eC (.bool false)))) mNx)
noncomputable def stB : Wd → Option MOut :=
  (mSeq (mSet 6 (mP (l2 pAdd (eC (.int 100)) (l2 pMul (eC (.int 9)) (eV 5)))))
    (mSeq (mSet 7 (mP (l2 pIx (oE (fun η => ((aC (eC (.int 0)) (aC (eC (.int 0)) (aC (eC (.int 1)) (aC (eC (.int 1)) (aC (eC (.int 1)) (aC (eC (.int 2)) (aC (eC (.int 3)) (aC (eC (.int 4)) aN)))))))) η).bind gL)) (lA F_qdrawn (aC (eV 0) (aC (eV 6) (aC (eC (.int 8)) aN)))))))
    (mSeq (mSet 8 (mP (l2 pAdd (oE (sComp [none] (lI asTu (eV 1)) (tgN 0) tTrue (l2 pIx (eV 0) (eC (.int 0))))) (oE (fun η => ((aC (eC (.str "zz")) aN) η).bind gL)))))
    (mSeq (mSet 9 (mP (l2 pIx (eV 8) (lA F_qdrawn (aC (eV 0) (aC (l2 pAdd (eV 6) (eC (.int 1))) (aC (lA pLen (aC (eV 8) aN)) aN)))))))
    (mSeq (mSet 10 (mP (lA F_qorder (aC (eV 1) (aC (eV 3) aN)))))
    (mSeq (mSet 11 (mP (eC .none)))
    (mSeq brB
    finB)))))))
noncomputable def alB : Wd → Option MOut :=
  (mSeq (mSet 1 (mP (lA F_qscene (aC (eV 0) (aC (eC (.int 0)) aN)))))
    (mSeq (mSet 2 (mMake 0 F_X___init__ (maC (mP (eV 1)) maN)))
    (mSeq (mSet 3 (mP (eC .none)))
    (mSeq (mSet 4 (mP (eC .none)))
    (mSeq (mFor [5] (iPu (fun η => ((aC (lA pMax (aC (eC (.int 1)) (aC (lA pMin (aC (eC (.int 10)) (aC (lA pLen (aC (eV 0) aN)) aN))) aN))) aN) η).bind rng1)) (tgN 5)
    stB)
    (mRet (mP (eC (.bool true)))))))))
end K40
namespace K40
open PySem L2 L2.PU
theorem rep_u {k : Nat} (h : (1 ≤ k ∧ k ≤ 8) ∨ k = 9) : repS (nmU k) = true := by
  rcases h with ⟨h1, h2⟩ | rfl
  · obtain ⟨j, rfl⟩ : ∃ j, k = j + 1 := ⟨k - 1, by omega⟩
    rw [nmU_n (by omega), nmT_lo (by omega)]
    have := let8_lt ⟨(j + 0) % 8, Nat.mod_lt _ (by decide)⟩
    simp only [List.getD_eq_getElem?_getD] at this
    unfold repS
    have h1 : (⟨#[let8.getD ((j + 0) % 8) 0]⟩ : Str).length = 1 := rfl
    have h2 : let8.getD ((j + 0) % 8) 0 < 16 ^ 8 := by
      rw [List.getD_eq_getElem?_getD]
      exact Nat.lt_trans this (by decide)
    rw [h1]
    simp only [List.all_cons, List.all_nil, Bool.and_true]
    rw [decide_eq_true h2]; rfl
  · exact rep_zz
theorem pEq_zz (z : Nat) : pEq (u.s z) (.str "zz") = some (.bool (decide (z = 9))) := (u_ok.eqs z 9)
noncomputable def hasO (l : List Nat) : Option Nat → Bool
  | none => false
  | some k => decide (k ∈ l)
theorem pIn_k (neg : Bool) (K : Option Nat) (l : List Nat) : pIn neg (kD u K) (u.S l) = some (.bool (if neg then !hasO l K else hasO l K)) := by
  cases K with
  | some k => exact pIn_s u_ok neg k l
  | none =>
    unfold pIn kD Sc.S
    dsimp only
    rw [if_pos ⟨rfl, flat_all l⟩]
    have e : ((l.map u.s).any fun y => PyData.eqv y .none) = false := by
      rw [List.any_map, List.any_eq_false]
      intro x _
      show ¬ (PyData.eqv (.str (nmU x)) .none) = true
      simp [PyData.eqv]
    rw [e]; rfl
structure St (n : Nat) (s : Sto) (sc : PyData) (L O : List Nat) (pa : Nat → List Nat) (F K : Option Nat) : Prop where
  v : Vw sc L O pa
  hF : ∀ f, F = some f → f ∈ L
  hK : ∀ k, K = some k → k ∈ orV O pa F
  hc : Fo s n sc (kD u F) (kD u K)
noncomputable abbrev Env1 (ns : List Int) (sc : PyData) (n : Nat) (F K : Option Nat) (k hr w : Int) (nm th od due : PyData) (x12 : Option D) : MEn :=
  [some (.d (Sd ns)), some (.d sc), some (.r n), some (.d (kD u F)), some (.d (kD u K)), some (.d (.int k)), some (.d (.int hr)), some (.d (.int w)), some (.d nm), some (.d th), some (.d od), some (.d due), x12]
section
variable {ns : List Int} {n : Nat} {s : Sto} {sc : PyData} {L O : List Nat} {pa : Nat → List Nat} {F K : Option Nat} (i : St n s sc L O pa F K)
include i
theorem fin_ok {k hr w : Int} {nm th od due : PyData} {x12 : Option D} {s0 : Sto} (ht : F_qtold [.r n, .d (.int w), .d th] s0 = some (.d due, s)) (hd : SeqAt.shaped due = true) :
    finB ⟨Env1 ns sc n F K k hr w nm th od due x12, s0⟩ = some (.nx ⟨Env1 ns sc n F K k hr w nm th od due x12, s⟩) := by
  refine mIfN (tmOrS (mB_of (mOpL_of (mCall_of (maC_of (s1 := s0) rfl (maC_of (s1 := s0) (mP_of rfl) (maC_of (s1 := s0) (mP_of rfl) maN_of))) ht) (mP_of rfl) rfl rfl (pNe_self hd) rfl)) ?_)
  have e : mB (mCall F_qstands (maC (mV 2) (maC (mP (eV 1)) (maC (mP (eV 3)) (maC (mP (eV 4)) maN))))) ⟨Env1 ns sc n F K k hr w nm th od due x12, s⟩ = some (true, s) := mB_of (mCall_of (maC_of (s1 := s) rfl (maC_of (s1 := s) (mP_of rfl) (maC_of (s1 := s) (mP_of rfl) (maC_of (s1 := s) (mP_of rfl) maN_of)))) (stands i.v i.hF i.hK i.hc))
  unfold tmNot
  rw [e]; rfl
noncomputable def Br (ns : List Int) (n : Nat) (s : Sto) (w : Int) (w0 : Wd) (k hr : Int) (nm od : PyData) : Prop := ∃ (s' : Sto) (sc' : PyData) (L' O' : List Nat) (pa' : Nat → List Nat) (F' K' : Option Nat) (th due : PyData) (x12 : Option D),
  St n s' sc' L' O' pa' F' K' ∧ brB w0 = some (.nx ⟨Env1 ns sc' n F' K' k hr w nm th od due x12, s⟩) ∧ F_qtold [.r n, .d (.int w), .d th] s = some (.d due, s') ∧ SeqAt.shaped due = true
theorem br_0 {k hr : Int} {nm : PyData} {z : Nat} (hz : (1 ≤ z ∧ z ≤ 8) ∨ z = 9) {x12 : Option D} : Br ns n s 0 ⟨Env1 ns sc n F K k hr 0 nm (u.s z) (u.S (orV O pa F)) .none x12, s⟩ k hr nm (u.S (orV O pa F)) := by
  have hO := orV_ok i.v i.hF n s _ i.hc
  have ex := FX_to i.hc hO (rep_u hz)
  have e1 : tPv (bAnd (bT (l2 pEq (eV 7) (eC (.int 0)))) (bT (l2 (pIn false) (eV 9) (eV 10)))) ⟨Env1 ns sc n F K k hr 0 nm (u.s z) (u.S (orV O pa F)) .none x12, s⟩ = some (decide (z ∈ orV O pa F), s) := tPv_of (bAnd_of (a := true) (bT_of (l2_of rfl rfl rfl)) (bT_of (l2_of rfl rfl (pIn_s u_ok false z _))))
  by_cases hm : z ∈ orV O pa F
  · rw [decide_eq_true hm] at e1
    rw [if_pos hm] at ex
    have et := F_to u_ok i.hc hO hm
    exact ⟨_, sc, L, O, pa, F, some z, u.s z, .none, x12, ⟨i.v, i.hF, fun k e => by cases e; exact hm, Fo.set i.hc _ _ _⟩, mIfT e1 (mSet_of (mP_of rfl)), told_0 i.hc ex et, rfl⟩
  · rw [decide_eq_false hm] at e1
    rw [if_neg hm] at ex
    refine ⟨s, sc, L, O, pa, F, K, u.s z, refD 0, x12, i, mIfF e1 (mIfT (s := s) (tPv_of (bOrT (bT_of (l2_of rfl rfl rfl)))) (mSet_of (mP_of (lA_of (aC_of rfl (aC_of rfl rfl)) (tup1_ok (by simp)))))), told_0X i.hc ex, by decide +kernel⟩
theorem c1 {w k hr : Int} {nm th : PyData} {od : PyData} {due : PyData} {x12 : Option D} (h : (w == 0) = false) : tPv (bAnd (bT (l2 pEq (eV 7) (eC (.int 0)))) (bT (l2 (pIn false) (eV 9) (eV 10)))) ⟨Env1 ns sc n F K k hr w nm th od due x12, s⟩ = some (false, s) :=
  tPv_of (bAndF (by rw [← h]; exact bT_of (l2_of rfl rfl (pEq_int w 0))))
theorem cw {w j k hr : Int} {nm th : PyData} {od : PyData} {due : PyData} {x12 : Option D} : tPv (bT (l2 pEq (eV 7) (eC (.int j)))) ⟨Env1 ns sc n F K k hr w nm th od due x12, s⟩ = some (w == j, s) := tPv_of (bT_of (l2_of rfl rfl (pEq_int w j)))
theorem c2 {w k hr : Int} {nm th : PyData} {od : PyData} {due : PyData} {x12 : Option D} (h0 : (w == 0) = false) (h3 : (w == 3) = false) : tPv (bOr (bT (l2 pEq (eV 7) (eC (.int 0)))) (bAnd (bT (l2 pEq (eV 7) (eC (.int 3)))) (bAnd (bT (l2 pEq (eV 9) (eC (.str "zz")))) (bT (l2 pEq (lA F_qdrawn (aC (eV 0) (aC (l2 pAdd (eV 6) (eC (.int 2))) (aC (eC (.int 2)) aN)))) (eC (.int 0))))))) ⟨Env1 ns sc n F K k hr w nm th od due x12, s⟩ = some (false, s) :=
  tPv_of (bOr_of (by rw [← h0]; exact bT_of (l2_of rfl rfl (pEq_int w 0))) (bAndF (by rw [← h3]; exact bT_of (l2_of rfl rfl (pEq_int w 3)))))
theorem br_2 {k hr : Int} {nm th : PyData} {x12 : Option D} : Br ns n s 2 ⟨Env1 ns sc n F K k hr 2 nm th (u.S (orV O pa F)) .none x12, s⟩ k hr nm (u.S (orV O pa F)) :=
  ⟨_, sc, L, O, pa, F, none, th, .none, x12, ⟨i.v, i.hF, fun k e => (by cases e), Fo.set i.hc _ _ _⟩, mIfF (c1 i rfl) (mIfF (c2 i rfl rfl) (mIfF (cw i) (mIfT (cw i) (mSet_of (mP_of rfl))))), told_2 i.hc (F_drop i.hc), rfl⟩
theorem br_1 (hn : ns.length ≤ 63) {k hr : Int} (h0 : 0 ≤ hr) {nm th : PyData} {x12 : Option D} : Br ns n s 1 ⟨Env1 ns sc n F K k hr 1 nm th (u.S (orV O pa F)) .none x12, s⟩ k hr nm (u.S (orV O pa F)) := by
  obtain ⟨r, hr', er⟩ := drawn_ok hn (k := hr + 3) (m := 11) (by omega) (by decide)
  have hO := orV_ok i.v i.hF n s _ i.hc
  have lN := orV_len i.v F
  have hK := i.hK
  have hc := i.hc
  generalize hN : orV O pa F = N at *
  have e9 : mSet 9 (mP (l2 pSub (lA F_qdrawn (aC (eV 0) (aC (l2 pAdd (eV 6) (eC (.int 3))) (aC (eC (.int 11)) aN)))) (eC (.int 5)))) ⟨Env1 ns sc n F K k hr 1 nm th (u.S N) .none x12, s⟩ = some (.nx ⟨Env1 ns sc n F K k hr 1 nm (.int ((r : Int) - 5)) (u.S N) .none x12, s⟩) := mSet_of (mP_of (l2_of (lA_of (aC_of rfl (aC_of (l2_of rfl rfl rfl) (aC_of rfl rfl))) er) rfl rfl))
  generalize hd : (r : Int) - 5 = d at e9
  obtain ⟨st, e12, hs⟩ : ∃ st : Int, vIf (bT (l2 (pIsN true) (eV 4) (eC .none))) (l2 pIdx (eV 10) (eV 4)) (l2 pSub (eC (.int 0)) (lA pInt (aC (l2 pGt (eV 9) (eC (.int 0))) aN))) (vw ⟨Env1 ns sc n F K k hr 1 nm (.int d) (u.S N) .none x12, s⟩) = some (.int st) ∧ F_start_of [u.S N, kD u K, .int d] = some (.int st) := by
    cases K with
    | none =>
      refine ⟨if d > 0 then -1 else 0, (vIf_of (b := false) (bT_of (l2_of rfl rfl rfl))).trans ((if_neg Bool.false_ne_true).trans (l2_of rfl (lA_of (aC_of (l2_of rfl rfl rfl) rfl) rfl) ?_)), start_n d⟩
      show some (PyData.int (0 - (if decide (0 < d) = true then 1 else 0))) = _
      by_cases h : d > 0
      · rw [if_pos h, if_pos (decide_eq_true h)]; rfl
      · rw [if_neg h, if_neg (by simpa using h)]; rfl
    | some q => exact ⟨((N.idxOf q : Nat) : Int), (vIf_of (b := true) (bT_of (l2_of rfl rfl rfl))).trans ((if_pos rfl).trans (l2_of rfl rfl (pIdx_s u_ok (hK q rfl)))), start_k u_ok (hK q rfl) d⟩
  have fin4 : ∀ (K' : Option Nat), vIf (bT (l2 pNe (eV 10) (oE (fun η => (aN η).bind gL)))) (l2 pIx (eV 10) (l2 pMod (l2 pAdd (eV 12) (eV 9)) (lA pLen (aC (eV 10) aN)))) (eC .none) (vw ⟨Env1 ns sc n F K k hr 1 nm (.int d) (u.S N) .none (some (.d (.int st))), s⟩) = some (kD u K') →
      brB ⟨Env1 ns sc n F K k hr 1 nm th (u.S N) .none x12, s⟩ = some (.nx ⟨Env1 ns sc n F K' k hr 1 nm (.int d) (u.S N) (kD u K') (some (.d (.int st))), s⟩) := fun K' e4 =>
    mIfF (c1 i rfl) (mIfF (c2 i rfl rfl) (mIfT (cw i) (mSeq_of e9 (mSeq_of (mSet_of (mP_of e12)) (mSeq_of (mSet_of (mP_of e4)) (mSet_of (mP_of rfl)))))))
  by_cases hne : N = []
  · have hKn : K = none := by
      cases K with
      | none => rfl
      | some q => have := hK q rfl; rw [hne] at this; cases this
    subst hKn
    subst hne
    refine ⟨s, sc, L, O, pa, F, none, .int d, .none, some (.d (.int st)), i, fin4 none ((vIf_of (b := false) (bT_of (l2_of rfl (oE_of (bind_of rfl (gL_ok (by simp)))) (pNe_self rfl)))).trans ((if_neg Bool.false_ne_true).trans rfl)), told_1 hc (F_go0 (c := u) hc hO), rfl⟩
  · have ht := told_1 hc (F_goE (c := u) hne hc hO hs)
    have hp := pos_len hne
    refine ⟨_, sc, L, O, pa, F, some (atN N (st + d)), .int d, u.s (atN N (st + d)), some (.d (.int st)), ⟨i.v, i.hF, fun k e => by cases e; rw [hN]; exact at_mem hne _, Fo.set hc _ _ _⟩, fin4 (some (atN N (st + d))) ((vIf_of (b := true) (bT_of (l2_of rfl (oE_of (bind_of rfl (gL_ok (by simp)))) (pNe_nil u_ok hne)))).trans ((if_pos rfl).trans (l2_of rfl (l2_of (l2_of rfl rfl rfl) (lA_of (aC_of rfl rfl) rfl) (pMod_ok ?_)) ?_))), ht, shaped_str (u_ok.ok _)⟩
    · rw [List.length_map]; exact hp
    · show atI (N.map u.s) ((st + d) % ((N.map u.s).length : Int)) = _
      rw [List.length_map]
      have h1 := Int.emod_nonneg (st + d) (show (N.length : Int) ≠ 0 by omega)
      rw [← Int.toNat_of_nonneg h1]
      refine atI_nat ?_
      rw [List.getElem?_map, at_get hne]; rfl
end
end K40
namespace K40
open PySem L2 L2.PU
theorem goes_ok {B N : List Nat} {K : Option Nat} (hK : ∀ k, K = some k → k ∈ B) (lB : B.length ≤ 400) (lN : N.length ≤ 500) : F_qgoes_on [u.S B, u.S N, kD u K] = some (kD u (K.bind (nxt (heirs B K) N))) := by
  cases K with
  | none => exact goes_none _ _
  | some k => exact goes_some (hK k rfl) lB lN
theorem goes_one {N : List Nat} (K : Option Nat) (lN : N.length ≤ 500) : F_qgoes_on [.list [kD u K], u.S N, kD u K] = some (kD u (K.bind (nxt [] N))) := by
  cases K with
  | none => exact goes_none _ _
  | some k =>
    have := goes_some (B := [k]) (N := N) (k := k) (by simp) (by simp) lN
    have e : heirs [k] (some k) = [] := by
      show [k].drop ([k].idxOf k + 1) ++ [k].take ([k].idxOf k) = []
      rw [List.idxOf_cons_self]; rfl
    rw [e] at this
    exact this
theorem nxt_ok {H N : List Nat} {K : Option Nat} : ∀ k, K.bind (nxt H N) = some k → k ∈ N := fun k e => by
  obtain ⟨k0, _, e2⟩ := bind_some e
  exact nxt_mem e2
section
variable {ns : List Int} {n : Nat} {s : Sto} {sc : PyData} {L O : List Nat} {pa : Nat → List Nat} {F K : Option Nat} (i : St n s sc L O pa F K)
include i
theorem br_3 (hn : ns.length ≤ 63) {k hr : Int} (h0 : 0 ≤ hr) {nm od : PyData} {z : Nat} (hz : z ∈ L ∨ z = 9) {x12 : Option D} : Br ns n s 3 ⟨Env1 ns sc n F K k hr 3 nm (u.s z) od .none x12, s⟩ k hr nm od := by
  obtain ⟨r, hr', er⟩ := drawn_ok hn (k := hr + 2) (m := 2) (by omega) (by decide)
  have hc := i.hc
  have e2 : tPv (bOr (bT (l2 pEq (eV 7) (eC (.int 0)))) (bAnd (bT (l2 pEq (eV 7) (eC (.int 3)))) (bAnd (bT (l2 pEq (eV 9) (eC (.str "zz")))) (bT (l2 pEq (lA F_qdrawn (aC (eV 0) (aC (l2 pAdd (eV 6) (eC (.int 2))) (aC (eC (.int 2)) aN)))) (eC (.int 0))))))) ⟨Env1 ns sc n F K k hr 3 nm (u.s z) od .none x12, s⟩ = some (decide (z = 9) && ((r : Int) == 0), s) :=
    tPv_of (bOr_of (bT_of (l2_of rfl rfl rfl)) (bAndT (bT_of (l2_of rfl rfl rfl)) (bAnd_of (bT_of (l2_of rfl rfl (pEq_zz z))) (bT_of (l2_of (lA_of (aC_of rfl (aC_of (l2_of rfl rfl rfl) (aC_of rfl rfl))) er) rfl (pEq_int _ _))))))
  have e9 : ∀ th, vIf (bT (l2 pEq (eV 9) (eC (.str "zz")))) (eC .none) (eV 9) (vw ⟨Env1 ns sc n F K k hr 3 nm (u.s z) od .none x12, s⟩) = some th → F_qorder [sc, th] = F_qorder [sc, th] → ∀ (F' : Option Nat) (N : List Nat), th = kD u F' → F_qorder [sc, kD u F'] = some (u.S N) → N.length ≤ 500 → (decide (z = 9) && ((r : Int) == 0)) = false →
      brB ⟨Env1 ns sc n F K k hr 3 nm (u.s z) od .none x12, s⟩ = some (.nx ⟨Env1 ns sc n F' (K.bind (nxt [] N)) k hr 3 nm (kD u F') od .none x12, s⟩) := fun th e9 _ F' N et eo lN hb => by
    rw [hb] at e2
    subst et
    refine mIfF (c1 i rfl) (mIfF e2 (mIfF (cw i) (mIfF (cw i) (mIfT (cw i) (mSeq_of (mSet_of (mP_of e9)) (mSeq_of (mSet_of (mP_of rfl)) (mSet_of (mP_of (lA_of (aC_of (oE_of (bind_of (aC_of rfl rfl) (gL_ok (by simp)))) (aC_of (lA_of (aC_of rfl (aC_of rfl rfl)) eo) (aC_of rfl rfl))) (goes_one K lN))))))))))
  by_cases hb : (decide (z = 9) && ((r : Int) == 0)) = true
  · rw [hb] at e2
    have hz9 : z = 9 := by
      have := (Bool.and_eq_true_iff.mp hb).1
      simpa using this
    subst hz9
    have ex := FX_keepS hc i.v.boxX
    refine ⟨s, sc, L, O, pa, F, K, u.s 9, refD 0, x12, i, mIfF (c1 i rfl) (mIfT e2 (mSet_of (mP_of (lA_of (aC_of rfl (aC_of rfl rfl)) (tup1_ok (by simp)))))), told_3X hc ex, by decide +kernel⟩
  · have hb : (decide (z = 9) && ((r : Int) == 0)) = false := by simpa using hb
    by_cases hz9 : z = 9
    · have hO' : OrF u (orV O pa none) sc .none n := orV_ok i.v (F := none) (fun f e => by cases e) n
      have lN := orV_len i.v none
      have ek := F_keep0 u_ok (K := K) (N := orV O pa none) (by omega) hc hO'
      refine ⟨_, sc, L, O, pa, none, K.bind (nxt [] (orV O pa none)), .none, .none, x12, ⟨i.v, fun f e => (by cases e), nxt_ok, Fo.set hc _ _ _⟩, e9 .none ?_ rfl none _ rfl (orV_law i.v (F := none) fun f e => by cases e) (by omega) hb, told_3 hc (FX_keepN hc) ek, rfl⟩
      refine (vIf_of (b := true) (bT_of (l2_of rfl rfl ((pEq_zz z).trans (by rw [decide_eq_true hz9]))))).trans ((if_pos rfl).trans rfl)
    · have hzL : z ∈ L := hz.resolve_right hz9
      have hF' : ∀ f, some z = some f → f ∈ L := fun f e => by cases e; exact hzL
      have hO' : OrF u (orV O pa (some z)) sc (u.s z) n := orV_ok i.v hF' n
      have lN := orV_len i.v (some z)
      obtain ⟨bx, hb'⟩ := i.v.box z hzL
      have ek := F_keepG u_ok (K := K) (N := orV O pa (some z)) (by omega) hc hb' hO'
      refine ⟨_, sc, L, O, pa, some z, K.bind (nxt [] (orV O pa (some z))), u.s z, .none, x12, ⟨i.v, hF', nxt_ok, Fo.set hc _ _ _⟩, e9 (u.s z) ?_ rfl (some z) _ rfl (orV_law i.v hF') (by omega) hb, told_3 hc (FX_keepS hc (i.v.boxN z hzL)) ek, rfl⟩
      refine (vIf_of (b := false) (bT_of (l2_of rfl rfl ((pEq_zz z).trans (by rw [decide_eq_false hz9]))))).trans ((if_neg Bool.false_ne_true).trans rfl)
theorem br_4 (hn : ns.length ≤ 63) {k : Nat} {hr : Int} {nm th : PyData} {x12 : Option D} : Br ns n s 4 ⟨Env1 ns sc n F K (k : Int) hr 4 nm th (u.S (orV O pa F)) .none x12, s⟩ (k : Int) hr nm (u.S (orV O pa F)) := by
  have hc := i.hc
  obtain ⟨d, tn, hd, hnm, hlen, es⟩ := scene_ok hn (a0 := 300 + 80 * ((k : Int) % 3)) (by omega)
  obtain ⟨L', O', pa', v'⟩ := view_ok (c := d.sc) (ps := d.ps) ⟨Dr.sc_ok hd, rfl, hlen, hd.par⟩ hnm
  rw [Dr.sc_d] at v'
  have hF' : ∀ f, newF L' F = some f → f ∈ L' := fun f e => by
    obtain ⟨f0, _, e2⟩ := bind_some e
    split at e2
    · cases e2; assumption
    · cases e2
  have hO' := orV_ok v' hF' n
  have lN := orV_len i.v F
  have lN' := orV_len v' (newF L' F)
  have ec := F_changeG hc (orV_ok i.v i.hF n) i.hK (by omega) (N' := orV O' pa' (newF L' F)) (by omega) v'.has hO'
  refine ⟨_, d.d, L', O', pa', newF L' F, K.bind (nxt (heirs (orV O pa F) K) (orV O' pa' (newF L' F))), d.d, .none, x12, ⟨v', hF', nxt_ok, Fo.set hc _ _ _⟩, ?_, told_4 hc ec, rfl⟩
  refine mIfF (c1 i rfl) (mIfF (c2 i rfl rfl) (mIfF (cw i) (mIfF (cw i) (mIfF (cw i) (mIfT (cw i) ?_)))))
  refine mSeq_of (mSet_of (mP_of (lA_of (aC_of rfl (aC_of (l2_of rfl (l2_of rfl (l2_of rfl rfl (pMod_ok (by decide))) (pMul_ok (mulL (by decide) (by decide)))) rfl) rfl)) es))) ?_
  refine mSeq_of (mSet_of (mP_of rfl)) ?_
  refine mSeq_of (w1 := ⟨Env1 ns d.d n (newF L' F) K (k : Int) hr 4 nm d.d (u.S (orV O pa F)) .none x12, s⟩) ?_ (mSet_of (mP_of (lA_of (aC_of rfl (aC_of (lA_of (aC_of rfl (aC_of rfl rfl)) (orV_law v' hF')) (aC_of rfl rfl))) (goes_ok i.hK (by omega) (by omega)))))
  have e3 : tPv (bT (l2 (pIn true) (eV 3) (oE (sComp [none] (lI asTu (eV 1)) (tgN 0) tTrue (l2 pIx (eV 0) (eC (.int 0))))))) ⟨Env1 ns d.d n F K (k : Int) hr 4 nm d.d (u.S (orV O pa F)) .none x12, s⟩ = some (!hasO L' F, s) := tPv_of (bT_of (l2_of rfl (oE_of (v'.nms _ rfl)) (pIn_k true F L')))
  cases F with
  | none => exact mIfT e3 (mSet_of (mP_of rfl))
  | some f =>
    by_cases hf : f ∈ L'
    · have : newF L' (some f) = some f := if_pos hf
      rw [this]
      rw [show hasO L' (some f) = true from decide_eq_true hf] at e3
      exact mIfN e3
    · have : newF L' (some f) = none := if_neg hf
      rw [this]
      rw [show hasO L' (some f) = false from decide_eq_false hf] at e3
      exact mIfT e3 (mSet_of (mP_of rfl))
end
end K40
namespace K40
open PySem L2 L2.PU
theorem way_ok {ns : List Int} (hn : ns.length ≤ 63) {hr : Int} (h0 : 0 ≤ hr) {η : En} (e0 : eV 0 η = some (Sd ns)) (e6 : eV 6 η = some (.int hr)) :
    ∃ w : Nat, w < 5 ∧ l2 pIx (oE (fun η => ((aC (eC (.int 0)) (aC (eC (.int 0)) (aC (eC (.int 1)) (aC (eC (.int 1)) (aC (eC (.int 1)) (aC (eC (.int 2)) (aC (eC (.int 3)) (aC (eC (.int 4)) aN)))))))) η).bind gL)) (lA F_qdrawn (aC (eV 0) (aC (eV 6) (aC (eC (.int 8)) aN)))) η = some (.int (w : Int)) := by
  obtain ⟨r, hr', er⟩ := drawn_ok hn (k := hr) (m := 8) h0 (by decide)
  have hl : oE (fun η => ((aC (eC (.int 0)) (aC (eC (.int 0)) (aC (eC (.int 1)) (aC (eC (.int 1)) (aC (eC (.int 1)) (aC (eC (.int 2)) (aC (eC (.int 3)) (aC (eC (.int 4)) aN)))))))) η).bind gL) η = some (.list ([0, 0, 1, 1, 1, 2, 3, 4].map fun (x : Nat) => PyData.int (x : Int))) := oE_of (bind_of rfl (gL_ok (by simp)))
  have hd : lA F_qdrawn (aC (eV 0) (aC (eV 6) (aC (eC (.int 8)) aN))) η = some (.int r) := lA_of (aC_of e0 (aC_of e6 (aC_of rfl rfl))) er
  have h8 : r < 8 := by omega
  refine ⟨[0, 0, 1, 1, 1, 2, 3, 4].getD r 0, ?_, l2_of hl hd ?_⟩
  · rcases (show r = 0 ∨ r = 1 ∨ r = 2 ∨ r = 3 ∨ r = 4 ∨ r = 5 ∨ r = 6 ∨ r = 7 by omega) with rfl | rfl | rfl | rfl | rfl | rfl | rfl | rfl <;> decide
  · show atI _ (r : Int) = _
    refine atI_nat ?_
    rw [List.getElem?_map, List.getD_eq_getElem?_getD, List.getElem?_eq_getElem (show r < [0, 0, 1, 1, 1, 2, 3, 4].length from h8)]
    rfl
theorem turn {ns : List Int} (hn : ns.length ≤ 63) {n : Nat} {s : Sto} {sc : PyData} {L O : List Nat} {pa : Nat → List Nat} {F K : Option Nat} (i : St n s sc L O pa F K) (k : Nat) {x6 x7 x8 x9 x10 x11 x12 : Option D} :
    ∃ s' sc' L' O' pa' F' K' y6 y7 y8 y9 y10 y11 y12, St n s' sc' L' O' pa' F' K' ∧ stB ⟨[some (.d (Sd ns)), some (.d sc), some (.r n), some (.d (kD u F)), some (.d (kD u K)), some (.d (.int (0 + (k : Nat)))), x6, x7, x8, x9, x10, x11, x12], s⟩ =
      some (.nx ⟨[some (.d (Sd ns)), some (.d sc'), some (.r n), some (.d (kD u F')), some (.d (kD u K')), some (.d (.int (0 + (k : Nat)))), y6, y7, y8, y9, y10, y11, y12], s'⟩) := by
  have ll := i.v.ll
  have hr0 : (0 : Int) ≤ 100 + 9 * (0 + (k : Nat)) := by omega
  generalize hhe : (100 + 9 * (0 + (k : Nat)) : Int) = hr at hr0
  obtain ⟨w, hw, ew⟩ := way_ok hn hr0 (η := vw ⟨[some (.d (Sd ns)), some (.d sc), some (.r n), some (.d (kD u F)), some (.d (kD u K)), some (.d (.int (0 + (k : Nat)))), some (.d (.int hr)), x7, x8, x9, x10, x11, x12], s⟩) rfl rfl
  obtain ⟨r, hr', er⟩ := drawn_ok hn (k := hr + 1) (m := ((L ++ [9]).length : Nat)) (by omega) (by rw [List.length_append, List.length_singleton]; omega)
  have hrl : r < (L ++ [9]).length := by omega
  obtain ⟨z, hz⟩ : ∃ z, (L ++ [9])[r]? = some z := ⟨_, List.getElem?_eq_getElem hrl⟩
  have hzm : z ∈ L ∨ z = 9 := by
    have := List.mem_of_getElem? hz
    simpa using this
  have hz8 : (1 ≤ z ∧ z ≤ 8) ∨ z = 9 := hzm.imp_left (i.v.l9 z)
  have e8 : ∀ (y : Option D), l2 pAdd (oE (sComp [none] (lI asTu (eV 1)) (tgN 0) tTrue (l2 pIx (eV 0) (eC (.int 0))))) (oE (fun η => ((aC (eC (.str "zz")) aN) η).bind gL)) (vw ⟨[some (.d (Sd ns)), some (.d sc), some (.r n), some (.d (kD u F)), some (.d (kD u K)), some (.d (.int (0 + (k : Nat)))), some (.d (.int hr)), some (.d (.int (w : Int))), x8, x9, x10, x11, x12], s⟩) = some (u.S (L ++ [9])) := fun y =>
    l2_of (x := u.S L) (y := u.S [9]) (oE_of (i.v.nms _ rfl)) (oE_of (bind_of rfl (gL_ok (by simp)))) (cat_s (by omega) (by simp))
  have e9 : l2 pIx (eV 8) (lA F_qdrawn (aC (eV 0) (aC (l2 pAdd (eV 6) (eC (.int 1))) (aC (lA pLen (aC (eV 8) aN)) aN)))) (vw ⟨[some (.d (Sd ns)), some (.d sc), some (.r n), some (.d (kD u F)), some (.d (kD u K)), some (.d (.int (0 + (k : Nat)))), some (.d (.int hr)), some (.d (.int (w : Int))), some (.d (u.S (L ++ [9]))), x9, x10, x11, x12], s⟩) = some (u.s z) := by
    refine l2_of rfl (lA_of (aC_of rfl (aC_of (l2_of rfl rfl rfl) (aC_of (lA_of (aC_of rfl rfl) (show pLen [u.S (L ++ [9])] = some (.int ((L ++ [9]).length : Nat)) by
      show some (PyData.int (((L ++ [9]).map u.s).length : Nat)) = _
      rw [List.length_map])) rfl))) er) ?_
    show atI ((L ++ [9]).map u.s) (r : Int) = _
    refine atI_nat ?_
    rw [List.getElem?_map, hz]; rfl
  have hbr : Br ns n s (w : Int) ⟨Env1 ns sc n F K (0 + (k : Nat)) hr (w : Int) (u.S (L ++ [9])) (u.s z) (u.S (orV O pa F)) .none x12, s⟩ (0 + (k : Nat)) hr (u.S (L ++ [9])) (u.S (orV O pa F)) := by
    rw [Int.zero_add]
    rcases (show w = 0 ∨ w = 1 ∨ w = 2 ∨ w = 3 ∨ w = 4 by omega) with rfl | rfl | rfl | rfl | rfl
    · exact br_0 i hz8
    · exact br_1 i hn hr0
    · exact br_2 i
    · exact br_3 i hn hr0 hzm
    · exact br_4 i hn
  obtain ⟨s', sc', L', O', pa', F', K', th, due, y12, i', eb, et, hd⟩ := hbr
  refine ⟨s', sc', L', O', pa', F', K', some (.d (.int hr)), some (.d (.int (w : Int))), some (.d (u.S (L ++ [9]))), some (.d th), some (.d (u.S (orV O pa F))), some (.d due), y12, i', ?_⟩
  refine mSeq_of (w1 := ⟨[some (.d (Sd ns)), some (.d sc), some (.r n), some (.d (kD u F)), some (.d (kD u K)), some (.d (.int (0 + (k : Nat)))), some (.d (.int hr)), x7, x8, x9, x10, x11, x12], s⟩) (mSet_of (mP_of (by rw [← hhe]; exact l2_of rfl (l2_of rfl rfl (pMul_ok (mulL (by decide) (by decide)))) rfl))) ?_
  refine mSeq_of (mSet_of (mP_of ew)) (mSeq_of (mSet_of (mP_of (e8 none))) (mSeq_of (mSet_of (mP_of e9)) (mSeq_of (mSet_of (mP_of (lA_of (aC_of rfl (aC_of rfl rfl)) (orV_law i.v i.hF)))) (mSeq_of (mSet_of (mP_of rfl)) (mSeq_of eb (fin_ok i' et hd))))))
end K40
namespace K40
open PySem L2 L2.PU
noncomputable def knownT : Bool := match F_qknown_one [] [] with
  | some (.d (.bool true), _) => true
  | _ => false
theorem known : knownT = true := by decide +kernel
theorem known_ok : ∃ s, F_qknown_one [] [] = some (.d (.bool true), s) := by
  have h := known
  unfold knownT at h
  split at h
  · rename_i s e
    exact ⟨s, e⟩
  · cases h
theorem Fo_new (s : Sto) (x : PyData) : Fo (s ++ [.obj 0 (fo x .none .none)]) s.length x .none .none := by
  unfold Fo
  rw [List.getElem?_append_right (Nat.le_refl _), Nat.sub_self]; rfl
theorem drawn_all {ns : List Int} (hn : ns.length ≤ 63) (s : Sto) : ∃ s', F_qof_drawn [.d (Sd ns)] s = some (.d (.bool true), s') := by
  obtain ⟨d, tn, hd, hnm, hlen, es⟩ := scene_ok hn (a0 := 0) (Int.le_refl 0)
  obtain ⟨L, O, pa, v⟩ := view_ok (c := d.sc) (ps := d.ps) ⟨Dr.sc_ok hd, rfl, hlen, hd.par⟩ hnm
  rw [Dr.sc_d] at v
  have hc := Fo_new s d.d
  have i : St s.length (s ++ [.obj 0 (fo d.d .none .none)]) d.d L O pa none none := ⟨v, fun f e => (by cases e), fun k e => (by cases e), hc⟩
  have hm : ∃ m : Nat, m ≤ 10 ∧ max 1 (min 10 (ns.length : Int)) = (m : Int) := ⟨(max 1 (min 10 (ns.length : Int))).toNat, by omega, by omega⟩
  obtain ⟨m, hm10, hm⟩ := hm
  obtain ⟨w', el, s', sc', L', O', pa', F', K', y5, y6, y7, y8, y9, y10, y11, y12, _, rfl⟩ := mGo_all (ks := [5]) (t := tgN 5) (body := stB) (fun (k : Nat) => PyData.int (0 + (k : Nat)))
    (fun _ w => ∃ s' sc' L' O' pa' F' K' y5 y6 y7 y8 y9 y10 y11 y12, St s.length s' sc' L' O' pa' F' K' ∧ w = ⟨[some (.d (Sd ns)), some (.d sc'), some (.r s.length), some (.d (kD u F')), some (.d (kD u K')), y5, y6, y7, y8, y9, y10, y11, y12], s'⟩) (List.range m)
    (by
      rintro done k rest w hall ⟨s', sc', L', O', pa', F', K', y5, y6, y7, y8, y9, y10, y11, y12, i', rfl⟩
      obtain ⟨s2, sc2, L2', O2, pa2, F2, K2, z6, z7, z8, z9, z10, z11, z12, i2, e⟩ := turn hn i' k (x6 := y6) (x7 := y7) (x8 := y8) (x9 := y9) (x10 := y10) (x11 := y11) (x12 := y12)
      exact ⟨_, _, mTg_name (show 5 < 13 by decide), e, s2, sc2, L2', O2, pa2, F2, K2, _, z6, z7, z8, z9, z10, z11, z12, i2, rfl⟩)
    (w := ⟨[some (.d (Sd ns)), some (.d d.d), some (.r s.length), some (.d .none), some (.d .none), none, none, none, none, none, none, none, none], s ++ [.obj 0 (fo d.d .none .none)]⟩)
    ⟨_, _, _, _, _, none, none, _, _, _, _, _, _, _, _, i, rfl⟩
  refine ⟨s', mRun_of rfl (show alB ⟨[some (.d (Sd ns)), none, none, none, none, none, none, none, none, none, none, none, none], s⟩ = _ from ?_)⟩
  refine mSeq_of (mSet_of (mP_of (lA_of (aC_of rfl (aC_of rfl rfl)) es))) ?_
  refine mSeq_of (mSet_of (mMake_of (maC_of (s1 := s) (mP_of rfl) maN_of) (F_init s d.d))) ?_
  refine mSeq_of (mSet_of (mP_of rfl)) (mSeq_of (mSet_of (mP_of rfl)) (mSeq_of (mFor_of (xs := (List.range m).map fun (k : Nat) => PyData.int (0 + (k : Nat))) (iPu_of ?_) el) (mRet_of (mP_of rfl))))
  refine bind_of (x := [.int (m : Int)]) (aC_of (lA_of (aC_of rfl (aC_of (lA_of (aC_of rfl (aC_of (lA_of (aC_of rfl rfl) (show pLen [Sd ns] = some (.int (ns.length : Int)) by
    show some (PyData.int ((ns.map PyData.int).length : Int)) = _
    rw [List.length_map])) rfl)) (pMin_of 10 _)) rfl)) ((pMax_of 1 _).trans (by rw [hm]))) rfl) ((rng1_ok (by omega) (by omega)).trans ?_)
  rw [Int.toNat_natCast]; rfl
theorem main : ∀ ns : List Int, ns.length ≤ 63 → ∃ s', F_law [.d (.list (ns.map PyData.int))] [] = some (.d (.bool true), s') := fun ns hn => by
  obtain ⟨s1, e1⟩ := known_ok
  obtain ⟨s2, e2⟩ := drawn_all hn s1
  refine ⟨s2, mRun_of rfl (show g_law F_qof_drawn F_qknown_one ⟨[some (.d (Sd ns))], []⟩ = _ from mRet_of ?_)⟩
  have f1 : mCall F_qknown_one maN ⟨[some (.d (Sd ns))], []⟩ = some (.d (.bool true), s1) := mCall_of maN_of e1
  have f2 : mCall F_qof_drawn (maC (mP (eV 0)) maN) ⟨[some (.d (Sd ns))], s1⟩ = some (.d (.bool true), s2) := mCall_of (maC_of (s1 := s1) (mP_of rfl) maN_of) e2
  unfold mAnd
  rw [f1, Option.bind_some]
  exact f2
end K40
namespace K40
open PySem L2 L2.PU
set_option maxHeartbeats 4000000 in
theorem all_mk (main : ∀ ns : List Int, ns.length ≤ 63 → ∃ s', F_law [.d (.list (ns.map PyData.int))] [] = some (.d (.bool true), s')) {l : PySem.W.OpenLaw} {w : World} {K : PySem.W.Frag} {h : Heap} {mg : Str → Option Value} {fa : Addr} (X : K.In h) (G : h.Ns mainGlobals mg) (hfa : mg "law" = some (.ref fa))
    {C_Focus : Addr}
    {f_qcell : Addr} {od_qcell an_qcell : Option Addr} {sl_qcell : Array (Option Value)} {oc_qcell kV_qcell dc_qcell pm_qcell cd_qcell ct_qcell : Value}
    {f_qdrawn : Addr} {od_qdrawn an_qdrawn : Option Addr} {sl_qdrawn : Array (Option Value)} {oc_qdrawn kV_qdrawn dc_qdrawn pm_qdrawn cd_qdrawn ct_qdrawn : Value}
    {f_qscene : Addr} {od_qscene an_qscene : Option Addr} {sl_qscene : Array (Option Value)} {oc_qscene kV_qscene dc_qscene pm_qscene cd_qscene ct_qscene : Value}
    {f_X___init__ : Addr} {od_X___init__ an_X___init__ : Option Addr} {sl_X___init__ : Array (Option Value)} {oc_X___init__ kV_X___init__ dc_X___init__ pm_X___init__ cd_X___init__ ct_X___init__ : Value}
    {f_qpainted : Addr} {od_qpainted an_qpainted : Option Addr} {sl_qpainted : Array (Option Value)} {oc_qpainted kV_qpainted dc_qpainted pm_qpainted cd_qpainted ct_qpainted : Value}
    {f_qbox : Addr} {od_qbox an_qbox : Option Addr} {sl_qbox : Array (Option Value)} {oc_qbox kV_qbox dc_qbox pm_qbox cd_qbox ct_qbox : Value}
    {f_qpath : Addr} {od_qpath an_qpath : Option Addr} {sl_qpath : Array (Option Value)} {oc_qpath kV_qpath dc_qpath pm_qpath cd_qpath ct_qpath : Value}
    {f_qorder : Addr} {od_qorder an_qorder : Option Addr} {sl_qorder : Array (Option Value)} {oc_qorder kV_qorder dc_qorder pm_qorder cd_qorder ct_qorder : Value}
    {f_qgoes_on : Addr} {od_qgoes_on an_qgoes_on : Option Addr} {sl_qgoes_on : Array (Option Value)} {oc_qgoes_on kV_qgoes_on dc_qgoes_on pm_qgoes_on cd_qgoes_on ct_qgoes_on : Value}
    {f_X_now : Addr} {od_X_now an_X_now : Option Addr} {sl_X_now : Array (Option Value)} {oc_X_now kV_X_now dc_X_now pm_X_now cd_X_now ct_X_now : Value}
    {f_children : Addr} {od_children an_children : Option Addr} {sl_children : Array (Option Value)} {oc_children kV_children dc_children pm_children cd_children ct_children : Value}
    {f_box_of : Addr} {od_box_of an_box_of : Option Addr} {sl_box_of : Array (Option Value)} {oc_box_of kV_box_of dc_box_of pm_box_of cd_box_of ct_box_of : Value}
    {f_below : Addr} {od_below an_below : Option Addr} {sl_below : Array (Option Value)} {oc_below kV_below dc_below pm_below cd_below ct_below : Value}
    {f_painted : Addr} {od_painted an_painted : Option Addr} {sl_painted : Array (Option Value)} {oc_painted kV_painted dc_painted pm_painted cd_painted ct_painted : Value}
    {f_has_mark : Addr} {od_has_mark an_has_mark : Option Addr} {sl_has_mark : Array (Option Value)} {oc_has_mark kV_has_mark dc_has_mark pm_has_mark cd_has_mark ct_has_mark : Value}
    {f_path_of : Addr} {od_path_of an_path_of : Option Addr} {sl_path_of : Array (Option Value)} {oc_path_of kV_path_of dc_path_of pm_path_of cd_path_of ct_path_of : Value}
    {f_is_shown : Addr} {od_is_shown an_is_shown : Option Addr} {sl_is_shown : Array (Option Value)} {oc_is_shown kV_is_shown dc_is_shown pm_is_shown cd_is_shown ct_is_shown : Value}
    {f_can_have_keys : Addr} {od_can_have_keys an_can_have_keys : Option Addr} {sl_can_have_keys : Array (Option Value)} {oc_can_have_keys kV_can_have_keys dc_can_have_keys pm_can_have_keys cd_can_have_keys ct_can_have_keys : Value}
    {f_X_order : Addr} {od_X_order an_X_order : Option Addr} {sl_X_order : Array (Option Value)} {oc_X_order kV_X_order dc_X_order pm_X_order cd_X_order ct_X_order : Value}
    {f_X_path : Addr} {od_X_path an_X_path : Option Addr} {sl_X_path : Array (Option Value)} {oc_X_path kV_X_path dc_X_path pm_X_path cd_X_path ct_X_path : Value}
    {f_qstands : Addr} {od_qstands an_qstands : Option Addr} {sl_qstands : Array (Option Value)} {oc_qstands kV_qstands dc_qstands pm_qstands cd_qstands ct_qstands : Value}
    {f_X_to : Addr} {od_X_to an_X_to : Option Addr} {sl_X_to : Array (Option Value)} {oc_X_to kV_X_to dc_X_to pm_X_to cd_X_to ct_X_to : Value}
    {f_start_of : Addr} {od_start_of an_start_of : Option Addr} {sl_start_of : Array (Option Value)} {oc_start_of kV_start_of dc_start_of pm_start_of cd_start_of ct_start_of : Value}
    {f_X_go : Addr} {od_X_go an_X_go : Option Addr} {sl_X_go : Array (Option Value)} {oc_X_go kV_X_go dc_X_go pm_X_go cd_X_go ct_X_go : Value}
    {f_X_drop : Addr} {od_X_drop an_X_drop : Option Addr} {sl_X_drop : Array (Option Value)} {oc_X_drop kV_X_drop dc_X_drop pm_X_drop cd_X_drop ct_X_drop : Value}
    {f_X_settle : Addr} {od_X_settle an_X_settle : Option Addr} {sl_X_settle : Array (Option Value)} {oc_X_settle kV_X_settle dc_X_settle pm_X_settle cd_X_settle ct_X_settle : Value}
    {f_X_keep_in : Addr} {od_X_keep_in an_X_keep_in : Option Addr} {sl_X_keep_in : Array (Option Value)} {oc_X_keep_in kV_X_keep_in dc_X_keep_in pm_X_keep_in cd_X_keep_in ct_X_keep_in : Value}
    {f_round_behind : Addr} {od_round_behind an_round_behind : Option Addr} {sl_round_behind : Array (Option Value)} {oc_round_behind kV_round_behind dc_round_behind pm_round_behind cd_round_behind ct_round_behind : Value}
    {f_has_box : Addr} {od_has_box an_has_box : Option Addr} {sl_has_box : Array (Option Value)} {oc_has_box kV_has_box dc_has_box pm_has_box cd_has_box ct_has_box : Value}
    {f_X_change : Addr} {od_X_change an_X_change : Option Addr} {sl_X_change : Array (Option Value)} {oc_X_change kV_X_change dc_X_change pm_X_change cd_X_change ct_X_change : Value}
    {f_qtold : Addr} {od_qtold an_qtold : Option Addr} {sl_qtold : Array (Option Value)} {oc_qtold kV_qtold dc_qtold pm_qtold cd_qtold ct_qtold : Value}
    {f_qof_drawn : Addr} {od_qof_drawn an_qof_drawn : Option Addr} {sl_qof_drawn : Array (Option Value)} {oc_qof_drawn kV_qof_drawn dc_qof_drawn pm_qof_drawn cd_qof_drawn ct_qof_drawn : Value}
    {f_qknown_one : Addr} {od_qknown_one an_qknown_one : Option Addr} {sl_qknown_one : Array (Option Value)} {oc_qknown_one kV_qknown_one dc_qknown_one pm_qknown_one cd_qknown_one ct_qknown_one : Value}
    {f_law : Addr} {od_law an_law : Option Addr} {sl_law : Array (Option Value)} {oc_law kV_law dc_law pm_law cd_law ct_law : Value}
    {f_qrefused : Addr} {od_qrefused an_qrefused : Option Addr} {sl_qrefused : Array (Option Value)} {oc_qrefused kV_qrefused dc_qrefused pm_qrefused cd_qrefused ct_qrefused : Value}
    {t_AROUND : Tok}
    {t_CAN_HAVE_KEYS : Tok}
    {t_HIDDEN : Tok}
    {t_MARKS : Tok}
    {t_NAME : Tok}
    {f_NoBox : Addr}
    {f_Taken : Addr}
    {f_TooMany : Addr}
    {f_NoNumber : Addr}
    {f_TouchError : Addr}
    (aC_Focus : PySem.W.nsIn K mainGlobals "Focus" = some (some (.ref C_Focus)))
    (pg_Focus : PySem.W.plainGet K C_Focus Str.empty = true)
    (hd_Focus : PySem.W.hasDictIn K C_Focus = true)
    (po_Focus : PySem.W.plainOver K C_Focus = true)
    (sa_Focus : PySem.W.findIn K (.ref C_Focus) "__setattr__" = some (some (.builtin "object.__setattr__")))
    (mk_Focus : PySem.W.makesIn K C_Focus = true)
    (kc_Focus : PySem.W.keepIn K (.ref C_Focus) = true)
    (na_Focus_fence : PySem.W.findIn K (.ref C_Focus) "fence" = some none)
    (na_Focus_keyed : PySem.W.findIn K (.ref C_Focus) "keyed" = some none)
    (na_Focus_scene : PySem.W.findIn K (.ref C_Focus) "scene" = some none)
    (a_qcell : PySem.W.nsIn K mainGlobals "_law_cell" = some (some (.ref f_qcell)))
    (l_qcell : K.lookup f_qcell = some ⟨oc_qcell, od_qcell, .func (PySem.W.fnOf "_law_cell" "_law_cell" (defArgs s_qcell) (defBody s_qcell) (defScope s_qcell) .none kV_qcell dc_qcell pm_qcell an_qcell cd_qcell ct_qcell), sl_qcell⟩)
    (c_qcell : PySem.W.codeIn K cd_qcell "_law_cell" = true)
    (k_qcell : PySem.W.keepIn K (.ref f_qcell) = true)
    (a_qdrawn : PySem.W.nsIn K mainGlobals "_law_drawn" = some (some (.ref f_qdrawn)))
    (l_qdrawn : K.lookup f_qdrawn = some ⟨oc_qdrawn, od_qdrawn, .func (PySem.W.fnOf "_law_drawn" "_law_drawn" (defArgs s_qdrawn) (defBody s_qdrawn) (defScope s_qdrawn) .none kV_qdrawn dc_qdrawn pm_qdrawn an_qdrawn cd_qdrawn ct_qdrawn), sl_qdrawn⟩)
    (c_qdrawn : PySem.W.codeIn K cd_qdrawn "_law_drawn" = true)
    (k_qdrawn : PySem.W.keepIn K (.ref f_qdrawn) = true)
    (a_qscene : PySem.W.nsIn K mainGlobals "_law_scene" = some (some (.ref f_qscene)))
    (l_qscene : K.lookup f_qscene = some ⟨oc_qscene, od_qscene, .func (PySem.W.fnOf "_law_scene" "_law_scene" (defArgs s_qscene) (defBody s_qscene) (defScope s_qscene) .none kV_qscene dc_qscene pm_qscene an_qscene cd_qscene ct_qscene), sl_qscene⟩)
    (c_qscene : PySem.W.codeIn K cd_qscene "_law_scene" = true)
    (k_qscene : PySem.W.keepIn K (.ref f_qscene) = true)
    (a_X___init__ : PySem.W.findIn K (.ref C_Focus) "__init__" = some (some (.ref f_X___init__)))
    (i_X___init__ : PySem.W.isFn K (.ref f_X___init__) = true)
    (l_X___init__ : K.lookup f_X___init__ = some ⟨oc_X___init__, od_X___init__, .func (PySem.W.fnOf "__init__" "Focus.__init__" (defArgs s_X___init__) (defBody s_X___init__) (defScope s_X___init__) .none kV_X___init__ dc_X___init__ pm_X___init__ an_X___init__ cd_X___init__ ct_X___init__), sl_X___init__⟩)
    (c_X___init__ : PySem.W.codeIn K cd_X___init__ "Focus.__init__" = true)
    (k_X___init__ : PySem.W.keepIn K (.ref f_X___init__) = true)
    (a_qpainted : PySem.W.nsIn K mainGlobals "_law_painted" = some (some (.ref f_qpainted)))
    (l_qpainted : K.lookup f_qpainted = some ⟨oc_qpainted, od_qpainted, .func (PySem.W.fnOf "_law_painted" "_law_painted" (defArgs s_qpainted) (defBody s_qpainted) (defScope s_qpainted) .none kV_qpainted dc_qpainted pm_qpainted an_qpainted cd_qpainted ct_qpainted), sl_qpainted⟩)
    (c_qpainted : PySem.W.codeIn K cd_qpainted "_law_painted" = true)
    (k_qpainted : PySem.W.keepIn K (.ref f_qpainted) = true)
    (a_qbox : PySem.W.nsIn K mainGlobals "_law_box" = some (some (.ref f_qbox)))
    (l_qbox : K.lookup f_qbox = some ⟨oc_qbox, od_qbox, .func (PySem.W.fnOf "_law_box" "_law_box" (defArgs s_qbox) (defBody s_qbox) (defScope s_qbox) .none kV_qbox dc_qbox pm_qbox an_qbox cd_qbox ct_qbox), sl_qbox⟩)
    (c_qbox : PySem.W.codeIn K cd_qbox "_law_box" = true)
    (k_qbox : PySem.W.keepIn K (.ref f_qbox) = true)
    (a_qpath : PySem.W.nsIn K mainGlobals "_law_path" = some (some (.ref f_qpath)))
    (l_qpath : K.lookup f_qpath = some ⟨oc_qpath, od_qpath, .func (PySem.W.fnOf "_law_path" "_law_path" (defArgs s_qpath) (defBody s_qpath) (defScope s_qpath) .none kV_qpath dc_qpath pm_qpath an_qpath cd_qpath ct_qpath), sl_qpath⟩)
    (c_qpath : PySem.W.codeIn K cd_qpath "_law_path" = true)
    (k_qpath : PySem.W.keepIn K (.ref f_qpath) = true)
    (a_qorder : PySem.W.nsIn K mainGlobals "_law_order" = some (some (.ref f_qorder)))
    (l_qorder : K.lookup f_qorder = some ⟨oc_qorder, od_qorder, .func (PySem.W.fnOf "_law_order" "_law_order" (defArgs s_qorder) (defBody s_qorder) (defScope s_qorder) .none kV_qorder dc_qorder pm_qorder an_qorder cd_qorder ct_qorder), sl_qorder⟩)
    (c_qorder : PySem.W.codeIn K cd_qorder "_law_order" = true)
    (k_qorder : PySem.W.keepIn K (.ref f_qorder) = true)
    (a_qgoes_on : PySem.W.nsIn K mainGlobals "_law_goes_on" = some (some (.ref f_qgoes_on)))
    (l_qgoes_on : K.lookup f_qgoes_on = some ⟨oc_qgoes_on, od_qgoes_on, .func (PySem.W.fnOf "_law_goes_on" "_law_goes_on" (defArgs s_qgoes_on) (defBody s_qgoes_on) (defScope s_qgoes_on) .none kV_qgoes_on dc_qgoes_on pm_qgoes_on an_qgoes_on cd_qgoes_on ct_qgoes_on), sl_qgoes_on⟩)
    (c_qgoes_on : PySem.W.codeIn K cd_qgoes_on "_law_goes_on" = true)
    (k_qgoes_on : PySem.W.keepIn K (.ref f_qgoes_on) = true)
    (a_X_now : PySem.W.findIn K (.ref C_Focus) "now" = some (some (.ref f_X_now)))
    (i_X_now : PySem.W.isFn K (.ref f_X_now) = true)
    (l_X_now : K.lookup f_X_now = some ⟨oc_X_now, od_X_now, .func (PySem.W.fnOf "now" "Focus.now" (defArgs s_X_now) (defBody s_X_now) (defScope s_X_now) .none kV_X_now dc_X_now pm_X_now an_X_now cd_X_now ct_X_now), sl_X_now⟩)
    (c_X_now : PySem.W.codeIn K cd_X_now "Focus.now" = true)
    (k_X_now : PySem.W.keepIn K (.ref f_X_now) = true)
    (a_children : PySem.W.nsIn K mainGlobals "children" = some (some (.ref f_children)))
    (l_children : K.lookup f_children = some ⟨oc_children, od_children, .func (PySem.W.fnOf "children" "children" (defArgs s_children) (defBody s_children) (defScope s_children) .none kV_children dc_children pm_children an_children cd_children ct_children), sl_children⟩)
    (c_children : PySem.W.codeIn K cd_children "children" = true)
    (k_children : PySem.W.keepIn K (.ref f_children) = true)
    (a_box_of : PySem.W.nsIn K mainGlobals "box_of" = some (some (.ref f_box_of)))
    (l_box_of : K.lookup f_box_of = some ⟨oc_box_of, od_box_of, .func (PySem.W.fnOf "box_of" "box_of" (defArgs s_box_of) (defBody s_box_of) (defScope s_box_of) .none kV_box_of dc_box_of pm_box_of an_box_of cd_box_of ct_box_of), sl_box_of⟩)
    (c_box_of : PySem.W.codeIn K cd_box_of "box_of" = true)
    (k_box_of : PySem.W.keepIn K (.ref f_box_of) = true)
    (a_below : PySem.W.nsIn K mainGlobals "below" = some (some (.ref f_below)))
    (l_below : K.lookup f_below = some ⟨oc_below, od_below, .func (PySem.W.fnOf "below" "below" (defArgs s_below) (defBody s_below) (defScope s_below) .none kV_below dc_below pm_below an_below cd_below ct_below), sl_below⟩)
    (c_below : PySem.W.codeIn K cd_below "below" = true)
    (k_below : PySem.W.keepIn K (.ref f_below) = true)
    (a_painted : PySem.W.nsIn K mainGlobals "painted" = some (some (.ref f_painted)))
    (l_painted : K.lookup f_painted = some ⟨oc_painted, od_painted, .func (PySem.W.fnOf "painted" "painted" (defArgs s_painted) (defBody s_painted) (defScope s_painted) .none kV_painted dc_painted pm_painted an_painted cd_painted ct_painted), sl_painted⟩)
    (c_painted : PySem.W.codeIn K cd_painted "painted" = true)
    (k_painted : PySem.W.keepIn K (.ref f_painted) = true)
    (a_has_mark : PySem.W.nsIn K mainGlobals "has_mark" = some (some (.ref f_has_mark)))
    (l_has_mark : K.lookup f_has_mark = some ⟨oc_has_mark, od_has_mark, .func (PySem.W.fnOf "has_mark" "has_mark" (defArgs s_has_mark) (defBody s_has_mark) (defScope s_has_mark) .none kV_has_mark dc_has_mark pm_has_mark an_has_mark cd_has_mark ct_has_mark), sl_has_mark⟩)
    (c_has_mark : PySem.W.codeIn K cd_has_mark "has_mark" = true)
    (k_has_mark : PySem.W.keepIn K (.ref f_has_mark) = true)
    (a_path_of : PySem.W.nsIn K mainGlobals "path_of" = some (some (.ref f_path_of)))
    (l_path_of : K.lookup f_path_of = some ⟨oc_path_of, od_path_of, .func (PySem.W.fnOf "path_of" "path_of" (defArgs s_path_of) (defBody s_path_of) (defScope s_path_of) .none kV_path_of dc_path_of pm_path_of an_path_of cd_path_of ct_path_of), sl_path_of⟩)
    (c_path_of : PySem.W.codeIn K cd_path_of "path_of" = true)
    (k_path_of : PySem.W.keepIn K (.ref f_path_of) = true)
    (a_is_shown : PySem.W.nsIn K mainGlobals "is_shown" = some (some (.ref f_is_shown)))
    (l_is_shown : K.lookup f_is_shown = some ⟨oc_is_shown, od_is_shown, .func (PySem.W.fnOf "is_shown" "is_shown" (defArgs s_is_shown) (defBody s_is_shown) (defScope s_is_shown) .none kV_is_shown dc_is_shown pm_is_shown an_is_shown cd_is_shown ct_is_shown), sl_is_shown⟩)
    (c_is_shown : PySem.W.codeIn K cd_is_shown "is_shown" = true)
    (k_is_shown : PySem.W.keepIn K (.ref f_is_shown) = true)
    (a_can_have_keys : PySem.W.nsIn K mainGlobals "can_have_keys" = some (some (.ref f_can_have_keys)))
    (l_can_have_keys : K.lookup f_can_have_keys = some ⟨oc_can_have_keys, od_can_have_keys, .func (PySem.W.fnOf "can_have_keys" "can_have_keys" (defArgs s_can_have_keys) (defBody s_can_have_keys) (defScope s_can_have_keys) .none kV_can_have_keys dc_can_have_keys pm_can_have_keys an_can_have_keys cd_can_have_keys ct_can_have_keys), sl_can_have_keys⟩)
    (c_can_have_keys : PySem.W.codeIn K cd_can_have_keys "can_have_keys" = true)
    (k_can_have_keys : PySem.W.keepIn K (.ref f_can_have_keys) = true)
    (a_X_order : PySem.W.findIn K (.ref C_Focus) "order" = some (some (.ref f_X_order)))
    (i_X_order : PySem.W.isFn K (.ref f_X_order) = true)
    (l_X_order : K.lookup f_X_order = some ⟨oc_X_order, od_X_order, .func (PySem.W.fnOf "order" "Focus.order" (defArgs s_X_order) (defBody s_X_order) (defScope s_X_order) .none kV_X_order dc_X_order pm_X_order an_X_order cd_X_order ct_X_order), sl_X_order⟩)
    (c_X_order : PySem.W.codeIn K cd_X_order "Focus.order" = true)
    (k_X_order : PySem.W.keepIn K (.ref f_X_order) = true)
    (a_X_path : PySem.W.findIn K (.ref C_Focus) "path" = some (some (.ref f_X_path)))
    (i_X_path : PySem.W.isFn K (.ref f_X_path) = true)
    (l_X_path : K.lookup f_X_path = some ⟨oc_X_path, od_X_path, .func (PySem.W.fnOf "path" "Focus.path" (defArgs s_X_path) (defBody s_X_path) (defScope s_X_path) .none kV_X_path dc_X_path pm_X_path an_X_path cd_X_path ct_X_path), sl_X_path⟩)
    (c_X_path : PySem.W.codeIn K cd_X_path "Focus.path" = true)
    (k_X_path : PySem.W.keepIn K (.ref f_X_path) = true)
    (a_qstands : PySem.W.nsIn K mainGlobals "_law_stands" = some (some (.ref f_qstands)))
    (l_qstands : K.lookup f_qstands = some ⟨oc_qstands, od_qstands, .func (PySem.W.fnOf "_law_stands" "_law_stands" (defArgs s_qstands) (defBody s_qstands) (defScope s_qstands) .none kV_qstands dc_qstands pm_qstands an_qstands cd_qstands ct_qstands), sl_qstands⟩)
    (c_qstands : PySem.W.codeIn K cd_qstands "_law_stands" = true)
    (k_qstands : PySem.W.keepIn K (.ref f_qstands) = true)
    (a_X_to : PySem.W.findIn K (.ref C_Focus) "to" = some (some (.ref f_X_to)))
    (i_X_to : PySem.W.isFn K (.ref f_X_to) = true)
    (l_X_to : K.lookup f_X_to = some ⟨oc_X_to, od_X_to, .func (PySem.W.fnOf "to" "Focus.to" (defArgs s_X_to) (defBody s_X_to) (defScope s_X_to) .none kV_X_to dc_X_to pm_X_to an_X_to cd_X_to ct_X_to), sl_X_to⟩)
    (c_X_to : PySem.W.codeIn K cd_X_to "Focus.to" = true)
    (k_X_to : PySem.W.keepIn K (.ref f_X_to) = true)
    (a_start_of : PySem.W.nsIn K mainGlobals "start_of" = some (some (.ref f_start_of)))
    (l_start_of : K.lookup f_start_of = some ⟨oc_start_of, od_start_of, .func (PySem.W.fnOf "start_of" "start_of" (defArgs s_start_of) (defBody s_start_of) (defScope s_start_of) .none kV_start_of dc_start_of pm_start_of an_start_of cd_start_of ct_start_of), sl_start_of⟩)
    (c_start_of : PySem.W.codeIn K cd_start_of "start_of" = true)
    (k_start_of : PySem.W.keepIn K (.ref f_start_of) = true)
    (a_X_go : PySem.W.findIn K (.ref C_Focus) "go" = some (some (.ref f_X_go)))
    (i_X_go : PySem.W.isFn K (.ref f_X_go) = true)
    (l_X_go : K.lookup f_X_go = some ⟨oc_X_go, od_X_go, .func (PySem.W.fnOf "go" "Focus.go" (defArgs s_X_go) (defBody s_X_go) (defScope s_X_go) .none kV_X_go dc_X_go pm_X_go an_X_go cd_X_go ct_X_go), sl_X_go⟩)
    (c_X_go : PySem.W.codeIn K cd_X_go "Focus.go" = true)
    (k_X_go : PySem.W.keepIn K (.ref f_X_go) = true)
    (a_X_drop : PySem.W.findIn K (.ref C_Focus) "drop" = some (some (.ref f_X_drop)))
    (i_X_drop : PySem.W.isFn K (.ref f_X_drop) = true)
    (l_X_drop : K.lookup f_X_drop = some ⟨oc_X_drop, od_X_drop, .func (PySem.W.fnOf "drop" "Focus.drop" (defArgs s_X_drop) (defBody s_X_drop) (defScope s_X_drop) .none kV_X_drop dc_X_drop pm_X_drop an_X_drop cd_X_drop ct_X_drop), sl_X_drop⟩)
    (c_X_drop : PySem.W.codeIn K cd_X_drop "Focus.drop" = true)
    (k_X_drop : PySem.W.keepIn K (.ref f_X_drop) = true)
    (a_X_settle : PySem.W.findIn K (.ref C_Focus) "settle" = some (some (.ref f_X_settle)))
    (i_X_settle : PySem.W.isFn K (.ref f_X_settle) = true)
    (l_X_settle : K.lookup f_X_settle = some ⟨oc_X_settle, od_X_settle, .func (PySem.W.fnOf "settle" "Focus.settle" (defArgs s_X_settle) (defBody s_X_settle) (defScope s_X_settle) .none kV_X_settle dc_X_settle pm_X_settle an_X_settle cd_X_settle ct_X_settle), sl_X_settle⟩)
    (c_X_settle : PySem.W.codeIn K cd_X_settle "Focus.settle" = true)
    (k_X_settle : PySem.W.keepIn K (.ref f_X_settle) = true)
    (a_X_keep_in : PySem.W.findIn K (.ref C_Focus) "keep_in" = some (some (.ref f_X_keep_in)))
    (i_X_keep_in : PySem.W.isFn K (.ref f_X_keep_in) = true)
    (l_X_keep_in : K.lookup f_X_keep_in = some ⟨oc_X_keep_in, od_X_keep_in, .func (PySem.W.fnOf "keep_in" "Focus.keep_in" (defArgs s_X_keep_in) (defBody s_X_keep_in) (defScope s_X_keep_in) .none kV_X_keep_in dc_X_keep_in pm_X_keep_in an_X_keep_in cd_X_keep_in ct_X_keep_in), sl_X_keep_in⟩)
    (c_X_keep_in : PySem.W.codeIn K cd_X_keep_in "Focus.keep_in" = true)
    (k_X_keep_in : PySem.W.keepIn K (.ref f_X_keep_in) = true)
    (a_round_behind : PySem.W.nsIn K mainGlobals "round_behind" = some (some (.ref f_round_behind)))
    (l_round_behind : K.lookup f_round_behind = some ⟨oc_round_behind, od_round_behind, .func (PySem.W.fnOf "round_behind" "round_behind" (defArgs s_round_behind) (defBody s_round_behind) (defScope s_round_behind) .none kV_round_behind dc_round_behind pm_round_behind an_round_behind cd_round_behind ct_round_behind), sl_round_behind⟩)
    (c_round_behind : PySem.W.codeIn K cd_round_behind "round_behind" = true)
    (k_round_behind : PySem.W.keepIn K (.ref f_round_behind) = true)
    (a_has_box : PySem.W.nsIn K mainGlobals "has_box" = some (some (.ref f_has_box)))
    (l_has_box : K.lookup f_has_box = some ⟨oc_has_box, od_has_box, .func (PySem.W.fnOf "has_box" "has_box" (defArgs s_has_box) (defBody s_has_box) (defScope s_has_box) .none kV_has_box dc_has_box pm_has_box an_has_box cd_has_box ct_has_box), sl_has_box⟩)
    (c_has_box : PySem.W.codeIn K cd_has_box "has_box" = true)
    (k_has_box : PySem.W.keepIn K (.ref f_has_box) = true)
    (a_X_change : PySem.W.findIn K (.ref C_Focus) "change" = some (some (.ref f_X_change)))
    (i_X_change : PySem.W.isFn K (.ref f_X_change) = true)
    (l_X_change : K.lookup f_X_change = some ⟨oc_X_change, od_X_change, .func (PySem.W.fnOf "change" "Focus.change" (defArgs s_X_change) (defBody s_X_change) (defScope s_X_change) .none kV_X_change dc_X_change pm_X_change an_X_change cd_X_change ct_X_change), sl_X_change⟩)
    (c_X_change : PySem.W.codeIn K cd_X_change "Focus.change" = true)
    (k_X_change : PySem.W.keepIn K (.ref f_X_change) = true)
    (a_qtold : PySem.W.nsIn K mainGlobals "_law_told" = some (some (.ref f_qtold)))
    (l_qtold : K.lookup f_qtold = some ⟨oc_qtold, od_qtold, .func (PySem.W.fnOf "_law_told" "_law_told" (defArgs s_qtold) (defBody s_qtold) (defScope s_qtold) .none kV_qtold dc_qtold pm_qtold an_qtold cd_qtold ct_qtold), sl_qtold⟩)
    (c_qtold : PySem.W.codeIn K cd_qtold "_law_told" = true)
    (k_qtold : PySem.W.keepIn K (.ref f_qtold) = true)
    (a_qof_drawn : PySem.W.nsIn K mainGlobals "_law_of_drawn" = some (some (.ref f_qof_drawn)))
    (l_qof_drawn : K.lookup f_qof_drawn = some ⟨oc_qof_drawn, od_qof_drawn, .func (PySem.W.fnOf "_law_of_drawn" "_law_of_drawn" (defArgs s_qof_drawn) (defBody s_qof_drawn) (defScope s_qof_drawn) .none kV_qof_drawn dc_qof_drawn pm_qof_drawn an_qof_drawn cd_qof_drawn ct_qof_drawn), sl_qof_drawn⟩)
    (c_qof_drawn : PySem.W.codeIn K cd_qof_drawn "_law_of_drawn" = true)
    (k_qof_drawn : PySem.W.keepIn K (.ref f_qof_drawn) = true)
    (a_qknown_one : PySem.W.nsIn K mainGlobals "_law_known_one" = some (some (.ref f_qknown_one)))
    (l_qknown_one : K.lookup f_qknown_one = some ⟨oc_qknown_one, od_qknown_one, .func (PySem.W.fnOf "_law_known_one" "_law_known_one" (defArgs s_qknown_one) (defBody s_qknown_one) (defScope s_qknown_one) .none kV_qknown_one dc_qknown_one pm_qknown_one an_qknown_one cd_qknown_one ct_qknown_one), sl_qknown_one⟩)
    (c_qknown_one : PySem.W.codeIn K cd_qknown_one "_law_known_one" = true)
    (k_qknown_one : PySem.W.keepIn K (.ref f_qknown_one) = true)
    (a_law : PySem.W.nsIn K mainGlobals "law" = some (some (.ref f_law)))
    (l_law : K.lookup f_law = some ⟨oc_law, od_law, .func (PySem.W.fnOf "law" "law" (defArgs s_law) (defBody s_law) (defScope s_law) .none kV_law dc_law pm_law an_law cd_law ct_law), sl_law⟩)
    (c_law : PySem.W.codeIn K cd_law "law" = true)
    (k_law : PySem.W.keepIn K (.ref f_law) = true)
    (a_qrefused : PySem.W.nsIn K mainGlobals "_law_refused" = some (some (.ref f_qrefused)))
    (l_qrefused : K.lookup f_qrefused = some ⟨oc_qrefused, od_qrefused, .func (PySem.W.fnOf "_law_refused" "_law_refused" (defArgs s_qrefused) (defBody s_qrefused) (defScope s_qrefused) .none kV_qrefused dc_qrefused pm_qrefused an_qrefused cd_qrefused ct_qrefused), sl_qrefused⟩)
    (c_qrefused : PySem.W.codeIn K cd_qrefused "_law_refused" = true)
    (k_qrefused : PySem.W.keepIn K (.ref f_qrefused) = true)
    (c_AROUND : PySem.W.nsIn K mainGlobals "AROUND" = some (some (.int (1) t_AROUND)))
    (c_CAN_HAVE_KEYS : PySem.W.nsIn K mainGlobals "CAN_HAVE_KEYS" = some (some (.str "f" t_CAN_HAVE_KEYS)))
    (c_HIDDEN : PySem.W.nsIn K mainGlobals "HIDDEN" = some (some (.str "h" t_HIDDEN)))
    (c_MARKS : PySem.W.nsIn K mainGlobals "MARKS" = some (some (.int (6) t_MARKS)))
    (c_NAME : PySem.W.nsIn K mainGlobals "NAME" = some (some (.int (0) t_NAME)))
    (z_ValueError : PySem.W.nsIn K mainGlobals "ValueError" = some none)
    (z_any : PySem.W.nsIn K mainGlobals "any" = some none)
    (z_enumerate : PySem.W.nsIn K mainGlobals "enumerate" = some none)
    (z_int : PySem.W.nsIn K mainGlobals "int" = some none)
    (z_isinstance : PySem.W.nsIn K mainGlobals "isinstance" = some none)
    (z_len : PySem.W.nsIn K mainGlobals "len" = some none)
    (z_max : PySem.W.nsIn K mainGlobals "max" = some none)
    (z_min : PySem.W.nsIn K mainGlobals "min" = some none)
    (z_range : PySem.W.nsIn K mainGlobals "range" = some none)
    (z_tuple : PySem.W.nsIn K mainGlobals "tuple" = some none)
    (a_NoBox : PySem.W.nsIn K mainGlobals "NoBox" = some (some (.ref f_NoBox)))
    (x_NoBox : PySem.W.excIn K f_NoBox bmVE "ValueError.__new__" = true)
    (a_Taken : PySem.W.nsIn K mainGlobals "Taken" = some (some (.ref f_Taken)))
    (x_Taken : PySem.W.excIn K f_Taken bmVE "ValueError.__new__" = true)
    (a_TooMany : PySem.W.nsIn K mainGlobals "TooMany" = some (some (.ref f_TooMany)))
    (x_TooMany : PySem.W.excIn K f_TooMany bmVE "ValueError.__new__" = true)
    (a_NoNumber : PySem.W.nsIn K mainGlobals "NoNumber" = some (some (.ref f_NoNumber)))
    (x_NoNumber : PySem.W.excIn K f_NoNumber bmVE "ValueError.__new__" = true)
    (a_TouchError : PySem.W.nsIn K mainGlobals "TouchError" = some (some (.ref f_TouchError)))
    (x_TouchError : PySem.W.excIn K f_TouchError bmVE "ValueError.__new__" = true)
    (ga_NoBox : PySem.W.findIn K (.ref f_NoBox) "__getattribute__" = some (some (.builtin "BaseException.__getattribute__")))
    (gt_NoBox : PySem.W.findIn K (.ref f_NoBox) "__getattr__" = some none)
    (cl_NoBox : PySem.W.findIn K (.ref f_NoBox) "__class__" = some (some (.builtin "object.__class__")))
    (mb_NoBox : PySem.W.mroIn K f_NoBox (.type "BaseException") = some true)
    (mo_NoBox : PySem.W.mroIn K f_NoBox (.type "object") = some true)
    (mt_NoBox : PySem.W.mroIn K f_NoBox (.ref f_TouchError) = some true)
    (kv_NoBox : PySem.W.kitOne K (.ref f_NoBox) (.type "ValueError") = some true)
    (kt_NoBox_NoBox : PySem.W.kitOne K (.ref f_NoBox) (.ref f_NoBox) = some true)
    (kt_NoBox_Taken : PySem.W.kitOne K (.ref f_NoBox) (.ref f_Taken) = some false)
    (kt_NoBox_TooMany : PySem.W.kitOne K (.ref f_NoBox) (.ref f_TooMany) = some false)
    (kt_NoBox_NoNumber : PySem.W.kitOne K (.ref f_NoBox) (.ref f_NoNumber) = some false)
    (ga_Taken : PySem.W.findIn K (.ref f_Taken) "__getattribute__" = some (some (.builtin "BaseException.__getattribute__")))
    (gt_Taken : PySem.W.findIn K (.ref f_Taken) "__getattr__" = some none)
    (cl_Taken : PySem.W.findIn K (.ref f_Taken) "__class__" = some (some (.builtin "object.__class__")))
    (mb_Taken : PySem.W.mroIn K f_Taken (.type "BaseException") = some true)
    (mo_Taken : PySem.W.mroIn K f_Taken (.type "object") = some true)
    (mt_Taken : PySem.W.mroIn K f_Taken (.ref f_TouchError) = some true)
    (kv_Taken : PySem.W.kitOne K (.ref f_Taken) (.type "ValueError") = some true)
    (kt_Taken_NoBox : PySem.W.kitOne K (.ref f_Taken) (.ref f_NoBox) = some false)
    (kt_Taken_Taken : PySem.W.kitOne K (.ref f_Taken) (.ref f_Taken) = some true)
    (kt_Taken_TooMany : PySem.W.kitOne K (.ref f_Taken) (.ref f_TooMany) = some false)
    (kt_Taken_NoNumber : PySem.W.kitOne K (.ref f_Taken) (.ref f_NoNumber) = some false)
    (ga_TooMany : PySem.W.findIn K (.ref f_TooMany) "__getattribute__" = some (some (.builtin "BaseException.__getattribute__")))
    (gt_TooMany : PySem.W.findIn K (.ref f_TooMany) "__getattr__" = some none)
    (cl_TooMany : PySem.W.findIn K (.ref f_TooMany) "__class__" = some (some (.builtin "object.__class__")))
    (mb_TooMany : PySem.W.mroIn K f_TooMany (.type "BaseException") = some true)
    (mo_TooMany : PySem.W.mroIn K f_TooMany (.type "object") = some true)
    (mt_TooMany : PySem.W.mroIn K f_TooMany (.ref f_TouchError) = some true)
    (kv_TooMany : PySem.W.kitOne K (.ref f_TooMany) (.type "ValueError") = some true)
    (kt_TooMany_NoBox : PySem.W.kitOne K (.ref f_TooMany) (.ref f_NoBox) = some false)
    (kt_TooMany_Taken : PySem.W.kitOne K (.ref f_TooMany) (.ref f_Taken) = some false)
    (kt_TooMany_TooMany : PySem.W.kitOne K (.ref f_TooMany) (.ref f_TooMany) = some true)
    (kt_TooMany_NoNumber : PySem.W.kitOne K (.ref f_TooMany) (.ref f_NoNumber) = some false)
    (ga_NoNumber : PySem.W.findIn K (.ref f_NoNumber) "__getattribute__" = some (some (.builtin "BaseException.__getattribute__")))
    (gt_NoNumber : PySem.W.findIn K (.ref f_NoNumber) "__getattr__" = some none)
    (cl_NoNumber : PySem.W.findIn K (.ref f_NoNumber) "__class__" = some (some (.builtin "object.__class__")))
    (mb_NoNumber : PySem.W.mroIn K f_NoNumber (.type "BaseException") = some true)
    (mo_NoNumber : PySem.W.mroIn K f_NoNumber (.type "object") = some true)
    (mt_NoNumber : PySem.W.mroIn K f_NoNumber (.ref f_TouchError) = some true)
    (kv_NoNumber : PySem.W.kitOne K (.ref f_NoNumber) (.type "ValueError") = some true)
    (kt_NoNumber_NoBox : PySem.W.kitOne K (.ref f_NoNumber) (.ref f_NoBox) = some false)
    (kt_NoNumber_Taken : PySem.W.kitOne K (.ref f_NoNumber) (.ref f_Taken) = some false)
    (kt_NoNumber_TooMany : PySem.W.kitOne K (.ref f_NoNumber) (.ref f_TooMany) = some false)
    (kt_NoNumber_NoNumber : PySem.W.kitOne K (.ref f_NoNumber) (.ref f_NoNumber) = some true)
    (gg : PySem.W.specialIn K (.builtin "object.__class__") "__get__" = some (some (.builtin "getset_descriptor.__get__")))
    (tk : PySem.W.takesIn K (.builtin "object.__class__") = some true)
    : ∃ fd : FuncData, (∀ (s : Shared) (v : Value), BindsTo s fd ⟨[v], []⟩ [("_law_script", v)]) ∧ ∀ base : Heap, K.In base → base.Ns mainGlobals mg → FnOk l.prog w K mg base CX0 22 fa fd ["_law_script"] (spL K) := by
  have e := hfa.symm.trans (PySem.W.mg_of X G a_law)
  cases e
  have F_qcell := fun_mk (st := s_qcell) l_qcell c_qcell k_qcell
  have F_qdrawn := fun_mk (st := s_qdrawn) l_qdrawn c_qdrawn k_qdrawn
  have F_qscene := fun_mk (st := s_qscene) l_qscene c_qscene k_qscene
  have F_X___init__ := fun_mk (st := s_X___init__) l_X___init__ c_X___init__ k_X___init__
  have F_qpainted := fun_mk (st := s_qpainted) l_qpainted c_qpainted k_qpainted
  have F_qbox := fun_mk (st := s_qbox) l_qbox c_qbox k_qbox
  have F_qpath := fun_mk (st := s_qpath) l_qpath c_qpath k_qpath
  have F_qorder := fun_mk (st := s_qorder) l_qorder c_qorder k_qorder
  have F_qgoes_on := fun_mk (st := s_qgoes_on) l_qgoes_on c_qgoes_on k_qgoes_on
  have F_X_now := fun_mk (st := s_X_now) l_X_now c_X_now k_X_now
  have F_children := fun_mk (st := s_children) l_children c_children k_children
  have F_box_of := fun_mk (st := s_box_of) l_box_of c_box_of k_box_of
  have F_below := fun_mk (st := s_below) l_below c_below k_below
  have F_painted := fun_mk (st := s_painted) l_painted c_painted k_painted
  have F_has_mark := fun_mk (st := s_has_mark) l_has_mark c_has_mark k_has_mark
  have F_path_of := fun_mk (st := s_path_of) l_path_of c_path_of k_path_of
  have F_is_shown := fun_mk (st := s_is_shown) l_is_shown c_is_shown k_is_shown
  have F_can_have_keys := fun_mk (st := s_can_have_keys) l_can_have_keys c_can_have_keys k_can_have_keys
  have F_X_order := fun_mk (st := s_X_order) l_X_order c_X_order k_X_order
  have F_X_path := fun_mk (st := s_X_path) l_X_path c_X_path k_X_path
  have F_qstands := fun_mk (st := s_qstands) l_qstands c_qstands k_qstands
  have F_X_to := fun_mk (st := s_X_to) l_X_to c_X_to k_X_to
  have F_start_of := fun_mk (st := s_start_of) l_start_of c_start_of k_start_of
  have F_X_go := fun_mk (st := s_X_go) l_X_go c_X_go k_X_go
  have F_X_drop := fun_mk (st := s_X_drop) l_X_drop c_X_drop k_X_drop
  have F_X_settle := fun_mk (st := s_X_settle) l_X_settle c_X_settle k_X_settle
  have F_X_keep_in := fun_mk (st := s_X_keep_in) l_X_keep_in c_X_keep_in k_X_keep_in
  have F_round_behind := fun_mk (st := s_round_behind) l_round_behind c_round_behind k_round_behind
  have F_has_box := fun_mk (st := s_has_box) l_has_box c_has_box k_has_box
  have F_X_change := fun_mk (st := s_X_change) l_X_change c_X_change k_X_change
  have F_qtold := fun_mk (st := s_qtold) l_qtold c_qtold k_qtold
  have F_qof_drawn := fun_mk (st := s_qof_drawn) l_qof_drawn c_qof_drawn k_qof_drawn
  have F_qknown_one := fun_mk (st := s_qknown_one) l_qknown_one c_qknown_one k_qknown_one
  have F_law := fun_mk (st := s_law) l_law c_law k_law
  have F_qrefused := fun_mk (st := s_qrefused) l_qrefused c_qrefused k_qrefused
  have b_qcell := F_qcell.binds (ps := ["_law_script", "_law_k"]) fun _ _ _ _ _ _ us hl => match us, hl with | [_, _], _ => rfl
  have b_qdrawn := F_qdrawn.binds (ps := ["_law_script", "_law_k", "_law_many"]) fun _ _ _ _ _ _ us hl => match us, hl with | [_, _, _], _ => rfl
  have b_qscene := F_qscene.binds (ps := ["_law_script", "_law_at"]) fun _ _ _ _ _ _ us hl => match us, hl with | [_, _], _ => rfl
  have b_X___init__ := F_X___init__.binds (ps := ["self", "scene"]) fun _ _ _ _ _ _ us hl => match us, hl with | [_, _], _ => rfl
  have b_qpainted := F_qpainted.binds (ps := ["_law_scene_here", "_law_around"]) fun _ _ _ _ _ _ us hl => match us, hl with | [_, _], _ => rfl
  have b_qbox := F_qbox.binds (ps := ["_law_scene_here", "_law_name"]) fun _ _ _ _ _ _ us hl => match us, hl with | [_, _], _ => rfl
  have b_qpath := F_qpath.binds (ps := ["_law_scene_here", "_law_name"]) fun _ _ _ _ _ _ us hl => match us, hl with | [_, _], _ => rfl
  have b_qorder := F_qorder.binds (ps := ["_law_scene_here", "_law_fence"]) fun _ _ _ _ _ _ us hl => match us, hl with | [_, _], _ => rfl
  have b_qgoes_on := F_qgoes_on.binds (ps := ["_law_before", "_law_now", "_law_name"]) fun _ _ _ _ _ _ us hl => match us, hl with | [_, _, _], _ => rfl
  have b_X_now := F_X_now.binds (ps := ["self"]) fun _ _ _ _ _ _ us hl => match us, hl with | [_], _ => rfl
  have b_children := F_children.binds (ps := ["scene", "name"]) fun _ _ _ _ _ _ us hl => match us, hl with | [_, _], _ => rfl
  have b_box_of := F_box_of.binds (ps := ["scene", "name"]) fun _ _ _ _ _ _ us hl => match us, hl with | [_, _], _ => rfl
  have b_below := F_below.binds (ps := ["scene", "name"]) fun _ _ _ _ _ _ us hl => match us, hl with | [_, _], _ => rfl
  have b_painted := F_painted.binds (ps := ["scene"]) fun _ _ _ _ _ _ us hl => match us, hl with | [_], _ => rfl
  have b_has_mark := F_has_mark.binds (ps := ["scene", "name", "mark"]) fun _ _ _ _ _ _ us hl => match us, hl with | [_, _, _], _ => rfl
  have b_path_of := F_path_of.binds (ps := ["scene", "name"]) fun _ _ _ _ _ _ us hl => match us, hl with | [_, _], _ => rfl
  have b_is_shown := F_is_shown.binds (ps := ["scene", "name"]) fun _ _ _ _ _ _ us hl => match us, hl with | [_, _], _ => rfl
  have b_can_have_keys := F_can_have_keys.binds (ps := ["scene", "name"]) fun _ _ _ _ _ _ us hl => match us, hl with | [_, _], _ => rfl
  have b_X_order := F_X_order.binds (ps := ["self"]) fun _ _ _ _ _ _ us hl => match us, hl with | [_], _ => rfl
  have b_X_path := F_X_path.binds (ps := ["self"]) fun _ _ _ _ _ _ us hl => match us, hl with | [_], _ => rfl
  have b_qstands := F_qstands.binds (ps := ["_law_focus", "_law_scene_here", "_law_fence", "_law_name"]) fun _ _ _ _ _ _ us hl => match us, hl with | [_, _, _, _], _ => rfl
  have b_X_to := F_X_to.binds (ps := ["self", "name"]) fun _ _ _ _ _ _ us hl => match us, hl with | [_, _], _ => rfl
  have b_start_of := F_start_of.binds (ps := ["names", "name", "by"]) fun _ _ _ _ _ _ us hl => match us, hl with | [_, _, _], _ => rfl
  have b_X_go := F_X_go.binds (ps := ["self", "by"]) fun _ _ _ _ _ _ us hl => match us, hl with | [_, _], _ => rfl
  have b_X_drop := F_X_drop.binds (ps := ["self"]) fun _ _ _ _ _ _ us hl => match us, hl with | [_], _ => rfl
  have b_X_settle := F_X_settle.binds (ps := ["self", "heirs"]) fun _ _ _ _ _ _ us hl => match us, hl with | [_, _], _ => rfl
  have b_X_keep_in := F_X_keep_in.binds (ps := ["self", "name"]) fun _ _ _ _ _ _ us hl => match us, hl with | [_, _], _ => rfl
  have b_round_behind := F_round_behind.binds (ps := ["names", "name"]) fun _ _ _ _ _ _ us hl => match us, hl with | [_, _], _ => rfl
  have b_has_box := F_has_box.binds (ps := ["scene", "name"]) fun _ _ _ _ _ _ us hl => match us, hl with | [_, _], _ => rfl
  have b_X_change := F_X_change.binds (ps := ["self", "scene"]) fun _ _ _ _ _ _ us hl => match us, hl with | [_, _], _ => rfl
  have b_qtold := F_qtold.binds (ps := ["_law_focus", "_law_way", "_law_thing"]) fun _ _ _ _ _ _ us hl => match us, hl with | [_, _, _], _ => rfl
  have b_qof_drawn := F_qof_drawn.binds (ps := ["_law_script"]) fun _ _ _ _ _ _ us hl => match us, hl with | [_], _ => rfl
  have b_qknown_one := F_qknown_one.binds (ps := []) fun _ _ _ _ _ _ us hl => match us, hl with | [], _ => rfl
  have b_law := F_law.binds (ps := ["_law_script"]) fun _ _ _ _ _ _ us hl => match us, hl with | [_], _ => rfl
  have b_qrefused := F_qrefused.binds (ps := ["_law_e"]) fun _ _ _ _ _ _ us hl => match us, hl with | [_], _ => rfl
  have X_NoBox : XCls K f_NoBox := ⟨x_NoBox, ga_NoBox, gt_NoBox, cl_NoBox, gg, tk, mb_NoBox, mo_NoBox⟩
  have X_Taken : XCls K f_Taken := ⟨x_Taken, ga_Taken, gt_Taken, cl_Taken, gg, tk, mb_Taken, mo_Taken⟩
  have X_TooMany : XCls K f_TooMany := ⟨x_TooMany, ga_TooMany, gt_TooMany, cl_TooMany, gg, tk, mb_TooMany, mo_TooMany⟩
  have X_NoNumber : XCls K f_NoNumber := ⟨x_NoNumber, ga_NoNumber, gt_NoNumber, cl_NoNumber, gg, tk, mb_NoNumber, mo_NoNumber⟩
  refine ⟨_, fun s v => .of_eq rfl, fun base _ _ => (G_law (t := ⟨C_Focus, f_qcell, _, f_qdrawn, _, f_qscene, _, f_X___init__, _, f_qpainted, _, f_qbox, _, f_qpath, _, f_qorder, _, f_qgoes_on, _, f_X_now, _, f_children, _, f_box_of, _, f_below, _, f_painted, _, f_has_mark, _, f_path_of, _, f_is_shown, _, f_can_have_keys, _, f_X_order, _, f_X_path, _, f_qstands, _, f_X_to, _, f_start_of, _, f_X_go, _, f_X_drop, _, f_X_settle, _, f_X_keep_in, _, f_round_behind, _, f_has_box, _, f_X_change, _, f_qtold, _, f_qof_drawn, _, f_qknown_one, _, _, _, f_qrefused, _, t_AROUND, t_CAN_HAVE_KEYS, t_HIDDEN, t_MARKS, t_NAME, f_NoBox, f_Taken, f_TooMany, f_NoNumber, f_TouchError⟩) ⟨⟨pg_Focus, hd_Focus, po_Focus, sa_Focus⟩, ⟨mk_Focus, a_X___init__, i_X___init__, kc_Focus⟩, PySem.W.mg_of X G aC_Focus, na_Focus_fence, na_Focus_keyed, na_Focus_scene, F_qcell, PySem.W.mg_of X G a_qcell, b_qcell, F_qdrawn, PySem.W.mg_of X G a_qdrawn, b_qdrawn, F_qscene, PySem.W.mg_of X G a_qscene, b_qscene, F_X___init__, b_X___init__, F_qpainted, PySem.W.mg_of X G a_qpainted, b_qpainted, F_qbox, PySem.W.mg_of X G a_qbox, b_qbox, F_qpath, PySem.W.mg_of X G a_qpath, b_qpath, F_qorder, PySem.W.mg_of X G a_qorder, b_qorder, F_qgoes_on, PySem.W.mg_of X G a_qgoes_on, b_qgoes_on, F_X_now, ⟨a_X_now, i_X_now, k_X_now⟩, b_X_now, F_children, PySem.W.mg_of X G a_children, b_children, F_box_of, PySem.W.mg_of X G a_box_of, b_box_of, F_below, PySem.W.mg_of X G a_below, b_below, F_painted, PySem.W.mg_of X G a_painted, b_painted, F_has_mark, PySem.W.mg_of X G a_has_mark, b_has_mark, F_path_of, PySem.W.mg_of X G a_path_of, b_path_of, F_is_shown, PySem.W.mg_of X G a_is_shown, b_is_shown, F_can_have_keys, PySem.W.mg_of X G a_can_have_keys, b_can_have_keys, F_X_order, ⟨a_X_order, i_X_order, k_X_order⟩, b_X_order, F_X_path, ⟨a_X_path, i_X_path, k_X_path⟩, b_X_path, F_qstands, PySem.W.mg_of X G a_qstands, b_qstands, F_X_to, ⟨a_X_to, i_X_to, k_X_to⟩, b_X_to, F_start_of, PySem.W.mg_of X G a_start_of, b_start_of, F_X_go, ⟨a_X_go, i_X_go, k_X_go⟩, b_X_go, F_X_drop, ⟨a_X_drop, i_X_drop, k_X_drop⟩, b_X_drop, F_X_settle, ⟨a_X_settle, i_X_settle, k_X_settle⟩, b_X_settle, F_X_keep_in, ⟨a_X_keep_in, i_X_keep_in, k_X_keep_in⟩, b_X_keep_in, F_round_behind, PySem.W.mg_of X G a_round_behind, b_round_behind, F_has_box, PySem.W.mg_of X G a_has_box, b_has_box, F_X_change, ⟨a_X_change, i_X_change, k_X_change⟩, b_X_change, F_qtold, PySem.W.mg_of X G a_qtold, b_qtold, F_qof_drawn, PySem.W.mg_of X G a_qof_drawn, b_qof_drawn, F_qknown_one, PySem.W.mg_of X G a_qknown_one, b_qknown_one, F_law, PySem.W.mg_of X G a_law, b_law, F_qrefused, PySem.W.mg_of X G a_qrefused, b_qrefused, PySem.W.mg_of X G c_AROUND, PySem.W.mg_of X G c_CAN_HAVE_KEYS, PySem.W.mg_of X G c_HIDDEN, PySem.W.mg_of X G c_MARKS, PySem.W.mg_of X G c_NAME, PySem.W.mg_none_of X G z_ValueError, PySem.W.mg_none_of X G z_any, PySem.W.mg_none_of X G z_enumerate, PySem.W.mg_none_of X G z_int, PySem.W.mg_none_of X G z_isinstance, PySem.W.mg_none_of X G z_len, PySem.W.mg_none_of X G z_max, PySem.W.mg_none_of X G z_min, PySem.W.mg_none_of X G z_range, PySem.W.mg_none_of X G z_tuple, PySem.W.mg_of X G a_NoBox, PySem.W.mg_of X G a_Taken, PySem.W.mg_of X G a_TooMany, PySem.W.mg_of X G a_NoNumber, PySem.W.mg_of X G a_TouchError, ⟨fun c hc => ?rx, fun c i hc hi => ?rk, fun c hc => ?rv⟩, x_TouchError, fun c hc => ?rm⟩).imp (spM_law main)⟩
  case rx =>
    have q : c = 0 ∨ c = 1 ∨ c = 2 ∨ c = 3 := by omega
    rcases q with rfl | rfl | rfl | rfl
    · exact X_NoBox
    · exact X_Taken
    · exact X_TooMany
    · exact X_NoNumber
  case rk =>
    have q : c = 0 ∨ c = 1 ∨ c = 2 ∨ c = 3 := by omega
    rcases q with rfl | rfl | rfl | rfl
    · have q : i = 0 ∨ i = 1 ∨ i = 2 ∨ i = 3 := by omega
      rcases q with rfl | rfl | rfl | rfl
      · exact kt_NoBox_NoBox
      · exact kt_NoBox_Taken
      · exact kt_NoBox_TooMany
      · exact kt_NoBox_NoNumber
    · have q : i = 0 ∨ i = 1 ∨ i = 2 ∨ i = 3 := by omega
      rcases q with rfl | rfl | rfl | rfl
      · exact kt_Taken_NoBox
      · exact kt_Taken_Taken
      · exact kt_Taken_TooMany
      · exact kt_Taken_NoNumber
    · have q : i = 0 ∨ i = 1 ∨ i = 2 ∨ i = 3 := by omega
      rcases q with rfl | rfl | rfl | rfl
      · exact kt_TooMany_NoBox
      · exact kt_TooMany_Taken
      · exact kt_TooMany_TooMany
      · exact kt_TooMany_NoNumber
    · have q : i = 0 ∨ i = 1 ∨ i = 2 ∨ i = 3 := by omega
      rcases q with rfl | rfl | rfl | rfl
      · exact kt_NoNumber_NoBox
      · exact kt_NoNumber_Taken
      · exact kt_NoNumber_TooMany
      · exact kt_NoNumber_NoNumber
  case rv =>
    have q : c = 0 ∨ c = 1 ∨ c = 2 ∨ c = 3 := by omega
    rcases q with rfl | rfl | rfl | rfl
    · exact kv_NoBox
    · exact kv_Taken
    · exact kv_TooMany
    · exact kv_NoNumber
  case rm =>
    have q : c = 0 ∨ c = 1 ∨ c = 2 ∨ c = 3 := by omega
    rcases q with rfl | rfl | rfl | rfl
    · exact mt_NoBox
    · exact mt_Taken
    · exact mt_TooMany
    · exact mt_NoNumber
theorem walk {l : PySem.W.OpenLaw} {q : Program} {loose : List Str} {XP : (Str → Option Value) → Heap → Prop} {YP : World → Heap → Prop} {d : DefRec} {K : Params → PySem.W.Frag} (hn : l.most = some 63) (hdf : d.params.defaults = [])
    (hY : ∀ (w : World) (h : Heap), YP w h → (K w.params).In h)
    (F : ∀ (w : World) (mg : Str → Option Value) (fa : Addr) (h : Heap), (K w.params).In h → h.Ns mainGlobals mg → mg d.name = some (.ref fa) →
      ∃ fd : FuncData, (∀ (s : Shared) (u : Value), BindsTo s fd ⟨[u], []⟩ [("_law_script", u)]) ∧ ∀ base : Heap, (K w.params).In base → base.Ns mainGlobals mg → FnOk l.prog w (K w.params) mg base CX0 22 fa fd ["_law_script"] (spL (K w.params))) :
    PySem.W.WalkO q loose XP YP l.row.toRowW d [] (fun f vs => PySem.call f vs) :=
  L2.walk_of (n := 63) (k := 22) (x := "_law_script") (CX := fun _ => CX0) (sp := fun w => spL (K w.params)) hn (by decide) hdf ⟨rfl, by decide, by decide⟩ hY F (fun _ _ a ns hl _ hS => ⟨a, ns, rfl, hS, hl, fun _ => rfl⟩) fun _ _ _ _ _ z => z
end K40
open PySem PySem.W PyProof.Rows
noncomputable def K40.view : Program := { PySem.Challenge.pw_touchtree_k40_focus with main := { PySem.Challenge.pw_touchtree_k40_focus.main with body := [26, 20, 16, 6, 0].foldl (fun l i => l.eraseIdx i) PySem.Challenge.pw_touchtree_k40_focus.main.body } }
set_option hygiene false in
local macro_rules
  | `(tactic| o_head $H) => `(tactic| (
      refine holds_open (q := K40.view) (loose := []) (Xt := fun s => xlAt K40.view [] s && recOk (RowW.records (OpenRow.toRowW (OpenLaw.row PySem.Challenge.rw_touchtree_k40_focus))) s) (XP := XL K40.view []) (Yf := Hook.obs $H) (Ya := Hook.val $H) (YP := Hook.says $H) (N := 4850) ?hl (Hook.of $H) (Hook.keeps $H) (fun s e => xl_of s (Bool.and_eq_true_iff.mp e).1) XL.keeps (by rfl) (by rfl) (by rfl) (fun s e => recFacts_of (Bool.and_eq_true_iff.mp e).2) (by rfl) (by assumption) (by decide +kernel) ⟨rfl, rfl, rfl, rfl, rfl, by decide +kernel⟩ ?hw ?hc
      (case hl => (intro w; unfold openEnds fencedOpening topFrom; rewrite [PySem.W.Fast.te10274390034422433532, PySem.W.Fast.te14082659384304107361, PySem.W.Fast.te14364793385576792824, PySem.W.Fast.te14289696077712309145, PySem.W.Fast.te1435165496053646825, PySem.W.Fast.te4187177175401517315, PySem.W.Fast.te2755893971678117624]; kernel_rfl))))
set_option maxRecDepth 100000 in
set_option maxHeartbeats 0 in
theorem PySem.Challenge.cw_touchtree_k40_focus_holds : PySem.Challenge.rw_touchtree_k40_focus.Holds := by
  w_on; o_law; k_head; (case hw => w_witness2)
  k_fill
  refine K40.walk (l := PySem.Challenge.rw_touchtree_k40_focus) rfl rfl (fun w h Y => PySem.W.kIn_of Y) ?F
  case F =>
    intro w mg fa h KX G hmg
    refine' K40.all_mk K40.main KX G hmg ?aC_Focus ?pg_Focus ?hd_Focus ?po_Focus ?sa_Focus ?mk_Focus ?kc_Focus ?na_Focus_fence ?na_Focus_keyed ?na_Focus_scene ?a_qcell ?l_qcell ?c_qcell ?k_qcell ?a_qdrawn ?l_qdrawn ?c_qdrawn ?k_qdrawn ?a_qscene ?l_qscene ?c_qscene ?k_qscene ?a_X___init__ ?i_X___init__ ?l_X___init__ ?c_X___init__ ?k_X___init__ ?a_qpainted ?l_qpainted ?c_qpainted ?k_qpainted ?a_qbox ?l_qbox ?c_qbox ?k_qbox ?a_qpath ?l_qpath ?c_qpath ?k_qpath ?a_qorder ?l_qorder ?c_qorder ?k_qorder ?a_qgoes_on ?l_qgoes_on ?c_qgoes_on ?k_qgoes_on ?a_X_now ?i_X_now ?l_X_now ?c_X_now ?k_X_now ?a_children ?l_children ?c_children ?k_children ?a_box_of ?l_box_of ?c_box_of ?k_box_of ?a_below ?l_below ?c_below ?k_below ?a_painted ?l_painted ?c_painted ?k_painted ?a_has_mark ?l_has_mark ?c_has_mark ?k_has_mark ?a_path_of ?l_path_of ?c_path_of ?k_path_of ?a_is_shown ?l_is_shown ?c_is_shown ?k_is_shown ?a_can_have_keys ?l_can_have_keys ?c_can_have_keys ?k_can_have_keys ?a_X_order ?i_X_order ?l_X_order ?c_X_order ?k_X_order ?a_X_path ?i_X_path ?l_X_path ?c_X_path ?k_X_path ?a_qstands ?l_qstands ?c_qstands ?k_qstands ?a_X_to ?i_X_to ?l_X_to ?c_X_to ?k_X_to ?a_start_of ?l_start_of ?c_start_of ?k_start_of ?a_X_go ?i_X_go ?l_X_go ?c_X_go ?k_X_go ?a_X_drop ?i_X_drop ?l_X_drop ?c_X_drop ?k_X_drop ?a_X_settle ?i_X_settle ?l_X_settle ?c_X_settle ?k_X_settle ?a_X_keep_in ?i_X_keep_in ?l_X_keep_in ?c_X_keep_in ?k_X_keep_in ?a_round_behind ?l_round_behind ?c_round_behind ?k_round_behind ?a_has_box ?l_has_box ?c_has_box ?k_has_box ?a_X_change ?i_X_change ?l_X_change ?c_X_change ?k_X_change ?a_qtold ?l_qtold ?c_qtold ?k_qtold ?a_qof_drawn ?l_qof_drawn ?c_qof_drawn ?k_qof_drawn ?a_qknown_one ?l_qknown_one ?c_qknown_one ?k_qknown_one ?a_law ?l_law ?c_law ?k_law ?a_qrefused ?l_qrefused ?c_qrefused ?k_qrefused ?c_AROUND ?c_CAN_HAVE_KEYS ?c_HIDDEN ?c_MARKS ?c_NAME ?z_ValueError ?z_any ?z_enumerate ?z_int ?z_isinstance ?z_len ?z_max ?z_min ?z_range ?z_tuple ?a_NoBox ?x_NoBox ?a_Taken ?x_Taken ?a_TooMany ?x_TooMany ?a_NoNumber ?x_NoNumber ?a_TouchError ?x_TouchError ?ga_NoBox ?gt_NoBox ?cl_NoBox ?mb_NoBox ?mo_NoBox ?mt_NoBox ?kv_NoBox ?kt_NoBox_NoBox ?kt_NoBox_Taken ?kt_NoBox_TooMany ?kt_NoBox_NoNumber ?ga_Taken ?gt_Taken ?cl_Taken ?mb_Taken ?mo_Taken ?mt_Taken ?kv_Taken ?kt_Taken_NoBox ?kt_Taken_Taken ?kt_Taken_TooMany ?kt_Taken_NoNumber ?ga_TooMany ?gt_TooMany ?cl_TooMany ?mb_TooMany ?mo_TooMany ?mt_TooMany ?kv_TooMany ?kt_TooMany_NoBox ?kt_TooMany_Taken ?kt_TooMany_TooMany ?kt_TooMany_NoNumber ?ga_NoNumber ?gt_NoNumber ?cl_NoNumber ?mb_NoNumber ?mo_NoNumber ?mt_NoNumber ?kv_NoNumber ?kt_NoNumber_NoBox ?kt_NoNumber_Taken ?kt_NoNumber_TooMany ?kt_NoNumber_NoNumber ?gg ?tk
    (case aC_Focus => k_is)
    (case pg_Focus => k_is)
    (case hd_Focus => k_is)
    (case po_Focus => k_is)
    (case sa_Focus => k_is)
    (case mk_Focus => k_is)
    (case kc_Focus => k_is)
    (case na_Focus_fence => k_is)
    (case na_Focus_keyed => k_is)
    (case na_Focus_scene => k_is)
    (case a_qcell => k_is)
    (case l_qcell => k_is)
    (case c_qcell => k_is)
    (case k_qcell => k_is)
    (case a_qdrawn => k_is)
    (case l_qdrawn => k_is)
    (case c_qdrawn => k_is)
    (case k_qdrawn => k_is)
    (case a_qscene => k_is)
    (case l_qscene => k_is)
    (case c_qscene => k_is)
    (case k_qscene => k_is)
    (case a_X___init__ => k_is)
    (case i_X___init__ => k_is)
    (case l_X___init__ => k_is)
    (case c_X___init__ => k_is)
    (case k_X___init__ => k_is)
    (case a_qpainted => k_is)
    (case l_qpainted => k_is)
    (case c_qpainted => k_is)
    (case k_qpainted => k_is)
    (case a_qbox => k_is)
    (case l_qbox => k_is)
    (case c_qbox => k_is)
    (case k_qbox => k_is)
    (case a_qpath => k_is)
    (case l_qpath => k_is)
    (case c_qpath => k_is)
    (case k_qpath => k_is)
    (case a_qorder => k_is)
    (case l_qorder => k_is)
    (case c_qorder => k_is)
    (case k_qorder => k_is)
    (case a_qgoes_on => k_is)
    (case l_qgoes_on => k_is)
    (case c_qgoes_on => k_is)
    (case k_qgoes_on => k_is)
    (case a_X_now => k_is)
    (case i_X_now => k_is)
    (case l_X_now => k_is)
    (case c_X_now => k_is)
    (case k_X_now => k_is)
    (case a_children => k_is)
    (case l_children => k_is)
    (case c_children => k_is)
    (case k_children => k_is)
    (case a_box_of => k_is)
    (case l_box_of => k_is)
    (case c_box_of => k_is)
    (case k_box_of => k_is)
    (case a_below => k_is)
    (case l_below => k_is)
    (case c_below => k_is)
    (case k_below => k_is)
    (case a_painted => k_is)
    (case l_painted => k_is)
    (case c_painted => k_is)
    (case k_painted => k_is)
    (case a_has_mark => k_is)
    (case l_has_mark => k_is)
    (case c_has_mark => k_is)
    (case k_has_mark => k_is)
    (case a_path_of => k_is)
    (case l_path_of => k_is)
    (case c_path_of => k_is)
    (case k_path_of => k_is)
    (case a_is_shown => k_is)
    (case l_is_shown => k_is)
    (case c_is_shown => k_is)
    (case k_is_shown => k_is)
    (case a_can_have_keys => k_is)
    (case l_can_have_keys => k_is)
    (case c_can_have_keys => k_is)
    (case k_can_have_keys => k_is)
    (case a_X_order => k_is)
    (case i_X_order => k_is)
    (case l_X_order => k_is)
    (case c_X_order => k_is)
    (case k_X_order => k_is)
    (case a_X_path => k_is)
    (case i_X_path => k_is)
    (case l_X_path => k_is)
    (case c_X_path => k_is)
    (case k_X_path => k_is)
    (case a_qstands => k_is)
    (case l_qstands => k_is)
    (case c_qstands => k_is)
    (case k_qstands => k_is)
    (case a_X_to => k_is)
    (case i_X_to => k_is)
    (case l_X_to => k_is)
    (case c_X_to => k_is)
    (case k_X_to => k_is)
    (case a_start_of => k_is)
    (case l_start_of => k_is)
    (case c_start_of => k_is)
    (case k_start_of => k_is)
    (case a_X_go => k_is)
    (case i_X_go => k_is)
    (case l_X_go => k_is)
    (case c_X_go => k_is)
    (case k_X_go => k_is)
    (case a_X_drop => k_is)
    (case i_X_drop => k_is)
    (case l_X_drop => k_is)
    (case c_X_drop => k_is)
    (case k_X_drop => k_is)
    (case a_X_settle => k_is)
    (case i_X_settle => k_is)
    (case l_X_settle => k_is)
    (case c_X_settle => k_is)
    (case k_X_settle => k_is)
    (case a_X_keep_in => k_is)
    (case i_X_keep_in => k_is)
    (case l_X_keep_in => k_is)
    (case c_X_keep_in => k_is)
    (case k_X_keep_in => k_is)
    (case a_round_behind => k_is)
    (case l_round_behind => k_is)
    (case c_round_behind => k_is)
    (case k_round_behind => k_is)
    (case a_has_box => k_is)
    (case l_has_box => k_is)
    (case c_has_box => k_is)
    (case k_has_box => k_is)
    (case a_X_change => k_is)
    (case i_X_change => k_is)
    (case l_X_change => k_is)
    (case c_X_change => k_is)
    (case k_X_change => k_is)
    (case a_qtold => k_is)
    (case l_qtold => k_is)
    (case c_qtold => k_is)
    (case k_qtold => k_is)
    (case a_qof_drawn => k_is)
    (case l_qof_drawn => k_is)
    (case c_qof_drawn => k_is)
    (case k_qof_drawn => k_is)
    (case a_qknown_one => k_is)
    (case l_qknown_one => k_is)
    (case c_qknown_one => k_is)
    (case k_qknown_one => k_is)
    (case a_law => k_is)
    (case l_law => k_is)
    (case c_law => k_is)
    (case k_law => k_is)
    (case a_qrefused => k_is)
    (case l_qrefused => k_is)
    (case c_qrefused => k_is)
    (case k_qrefused => k_is)
    (case c_AROUND => k_is)
    (case c_CAN_HAVE_KEYS => k_is)
    (case c_HIDDEN => k_is)
    (case c_MARKS => k_is)
    (case c_NAME => k_is)
    (case z_ValueError => k_is)
    (case z_any => k_is)
    (case z_enumerate => k_is)
    (case z_int => k_is)
    (case z_isinstance => k_is)
    (case z_len => k_is)
    (case z_max => k_is)
    (case z_min => k_is)
    (case z_range => k_is)
    (case z_tuple => k_is)
    (case a_NoBox => k_is)
    (case x_NoBox => kernel_rfl)
    (case a_Taken => k_is)
    (case x_Taken => kernel_rfl)
    (case a_TooMany => k_is)
    (case x_TooMany => kernel_rfl)
    (case a_NoNumber => k_is)
    (case x_NoNumber => kernel_rfl)
    (case a_TouchError => k_is)
    (case x_TouchError => kernel_rfl)
    (case ga_NoBox => k_is)
    (case gt_NoBox => k_is)
    (case cl_NoBox => k_is)
    (case mb_NoBox => k_is)
    (case mo_NoBox => k_is)
    (case mt_NoBox => k_is)
    (case kv_NoBox => kernel_rfl)
    (case kt_NoBox_NoBox => kernel_rfl)
    (case kt_NoBox_Taken => kernel_rfl)
    (case kt_NoBox_TooMany => kernel_rfl)
    (case kt_NoBox_NoNumber => kernel_rfl)
    (case ga_Taken => k_is)
    (case gt_Taken => k_is)
    (case cl_Taken => k_is)
    (case mb_Taken => k_is)
    (case mo_Taken => k_is)
    (case mt_Taken => k_is)
    (case kv_Taken => kernel_rfl)
    (case kt_Taken_NoBox => kernel_rfl)
    (case kt_Taken_Taken => kernel_rfl)
    (case kt_Taken_TooMany => kernel_rfl)
    (case kt_Taken_NoNumber => kernel_rfl)
    (case ga_TooMany => k_is)
    (case gt_TooMany => k_is)
    (case cl_TooMany => k_is)
    (case mb_TooMany => k_is)
    (case mo_TooMany => k_is)
    (case mt_TooMany => k_is)
    (case kv_TooMany => kernel_rfl)
    (case kt_TooMany_NoBox => kernel_rfl)
    (case kt_TooMany_Taken => kernel_rfl)
    (case kt_TooMany_TooMany => kernel_rfl)
    (case kt_TooMany_NoNumber => kernel_rfl)
    (case ga_NoNumber => k_is)
    (case gt_NoNumber => k_is)
    (case cl_NoNumber => k_is)
    (case mb_NoNumber => k_is)
    (case mo_NoNumber => k_is)
    (case mt_NoNumber => k_is)
    (case kv_NoNumber => kernel_rfl)
    (case kt_NoNumber_NoBox => kernel_rfl)
    (case kt_NoNumber_Taken => kernel_rfl)
    (case kt_NoNumber_TooMany => kernel_rfl)
    (case kt_NoNumber_NoNumber => kernel_rfl)
    (case gg => k_is)
    (case tk => k_is)
#print axioms PySem.Challenge.cw_touchtree_k40_focus_holds
