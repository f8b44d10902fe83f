import PyProof.Rows.All
import Wide.All
import OpenK.AllK
import Wide.FinOn
import PyProof.EqAt
import PyProof.EqKinds
import PyProof.TupleCall
import PyProof.CompFree
import PyProof.Cells
import KE.KDictList
import KE.KDictLaws
import PyProof.Rows.SetFrom
import PyProof.ZipIter
import KE.KSortTup
import KE.KItemsList
import PyProof.Rows.StrItems
import PyProof.StrLawsTight
import Lean
import PySem.Challenge.RW_touchtree_k55_pictures
set_option Elab.async false
set_option linter.all false
set_option maxRecDepth 100000
namespace L2
open PySem PySem.Spec PyProof.Rows
noncomputable abbrev Key := Sum Int Str
noncomputable def keyIs : Key → Value → Bool
  | .inl k, v => Value.isInt k v
  | .inr x, v => Value.isStrOf x v
noncomputable def keyH (w : World) : Key → Int
  | .inl k => hashInt k
  | .inr x => hashStr w x
theorem keyIs_shape : ∀ {k : Key} {v : Value}, keyIs k v = true → (∃ i t, k = Sum.inl i ∧ v = Value.int i t) ∨ (∃ x t, k = Sum.inr x ∧ v = Value.str x t)
  | .inl i, v, h => by
    obtain ⟨t, e⟩ := Value.isInt_shape (k := i) (v := v) h
    exact .inl ⟨i, t, rfl, e⟩
  | .inr x, v, h => by
    obtain ⟨t, e⟩ := Value.isStrOf_shape (x := x) (v := v) h
    exact .inr ⟨x, t, rfl, e⟩
theorem keyIs_int (i : Int) (t : Tok) : keyIs (.inl i) (.int i t) = true := by simp [keyIs, Value.isInt]
theorem keyIs_str (x : Str) (t : Tok) : keyIs (.inr x) (.str x t) = true := by simp [keyIs, Value.isStrOf]
theorem key_ll (a b : Int) : decide ((Sum.inl a : Key) = Sum.inl b) = (a == b) := by
  by_cases e : a = b
  · subst e; simp
  · have h : ¬ (Sum.inl a : Key) = Sum.inl b := fun q => e (Sum.inl.inj q)
    rw [decide_eq_false h]
    exact (beq_eq_false_iff_ne.mpr e).symm
theorem key_rr (a b : Str) : decide ((Sum.inr a : Key) = Sum.inr b) = decide (a = b) := by
  by_cases e : a = b
  · subst e; simp
  · have h : ¬ (Sum.inr a : Key) = Sum.inr b := fun q => e (Sum.inr.inj q)
    rw [decide_eq_false h, decide_eq_false e]
theorem key_lr (a : Int) (b : Str) : decide ((Sum.inl a : Key) = Sum.inr b) = false := decide_eq_false (fun q => nomatch q)
theorem key_rl (a : Str) (b : Int) : decide ((Sum.inr a : Key) = Sum.inl b) = false := decide_eq_false (fun q => nomatch q)
noncomputable def mixKind (prog : Program) (w : World) : PySem.KeyKind prog w Key where
  is := keyIs
  hash := keyH w
  inj := fun v a b ha hb => by
    rcases keyIs_shape ha with ⟨i, t, rfl, rfl⟩ | ⟨x, t, rfl, rfl⟩
    · rcases keyIs_shape hb with ⟨j, u, rfl, e⟩ | ⟨y, u, rfl, e⟩
      · injection e with e1 _; rw [e1]
      · exact nomatch e
    · rcases keyIs_shape hb with ⟨j, u, rfl, e⟩ | ⟨y, u, rfl, e⟩
      · exact nomatch e
      · injection e with e1 _; rw [e1]
  byValue := fun k v h => by
    rcases keyIs_shape h with ⟨i, t, rfl, rfl⟩ | ⟨x, t, rfl, rfl⟩ <;> rfl
  pyHash := fun hv h => by
    rcases keyIs_shape hv with ⟨i, t, rfl, rfl⟩ | ⟨x, t, rfl, rfl⟩
    · exact wpAny_pyHash_int h
    · exact wpAny_pyHash_str h
  eqBool := fun hu hv h => by
    rcases keyIs_shape hu with ⟨i, t, rfl, rfl⟩ | ⟨x, t, rfl, rfl⟩
    · rcases keyIs_shape hv with ⟨j, u, rfl, rfl⟩ | ⟨y, u, rfl, rfl⟩
      · rw [key_ll] at h; exact wpAny_eqBool_int h
      · rw [key_lr] at h; exact SeqAt.EqAt.int_str i t y u _ _ _ _ h
    · rcases keyIs_shape hv with ⟨j, u, rfl, rfl⟩ | ⟨y, u, rfl, rfl⟩
      · rw [key_rl] at h; exact SeqAt.EqAt.str_int x t j u _ _ _ _ h
      · rw [key_rr] at h; exact wpAny_eqBool_str h
  «strs» := fun k x t v h => by
    rcases keyIs_shape h with ⟨i, u, rfl, e⟩ | ⟨y, u, rfl, e⟩
    · exact nomatch e
    · injection e with e1 _
      subst e1
      cases v <;> rfl
theorem mixKind_int (prog : Program) (w : World) (i : Int) (t : Tok) : (mixKind prog w).is (.inl i) (.int i t) = true := keyIs_int i t
theorem mixKind_str (prog : Program) (w : World) (x : Str) (t : Tok) : (mixKind prog w).is (.inr x) (.str x t) = true := keyIs_str x t
end L2
namespace L2
open PySem PySem.Spec PyProof.Rows
inductive V where
  | non | bl (b : Bool) | int (i : Int) | str (x : Str) | byt (b : Array UInt8) | flt (b : UInt64) | ref (a : Addr) | ty (n : String)
  deriving DecidableEq
noncomputable def RelV : V → Value → Prop
  | .non, u => u = Value.none
  | .bl b, u => u = Value.bool b
  | .int i, u => ∃ t, u = Value.int i t
  | .str x, u => ∃ t, u = Value.str x t
  | .byt b, u => ∃ t, u = Value.bytes b t
  | .flt b, u => ∃ t, u = Value.float b t
  | .ref a, u => u = Value.ref a
  | .ty n, u => u = Value.type n
noncomputable abbrev Vals : List V → List Value → Prop := Paired RelV
theorem Vals.length {xs : List V} {us : List Value} (r : Vals xs us) : xs.length = us.length := Paired.length r
theorem Vals.get : ∀ {xs : List V} {us : List Value} {i : Nat} {x : V}, Vals xs us → xs[i]? = some x → ∃ u, us[i]? = some u ∧ RelV x u
  | _, _, _, _, .nil, e => by simp at e
  | _, _, 0, _, .cons r _, e => by simp at e; subst e; exact ⟨_, rfl, r⟩
  | _, _, i + 1, x, .cons _ t, e => by
    obtain ⟨u, h1, h2⟩ := Vals.get (i := i) (x := x) t (by simpa using e)
    exact ⟨u, by simpa using h1, h2⟩
theorem Vals.append : ∀ {xs ys : List V} {us ws : List Value}, Vals xs us → Vals ys ws → Vals (xs ++ ys) (us ++ ws)
  | _, _, _, _, .nil, s => s
  | _, _, _, _, .cons r t, s => .cons r (Vals.append t s)
noncomputable def RelO : Option V → Option Value → Prop
  | some v, some u => RelV v u
  | none, none => True
  | _, _ => False
noncomputable def KV {κ : Type} : List (κ × V) → List (κ × Value) → Prop := Paired fun (p : κ × V) (q : κ × Value) => p.1 = q.1 ∧ RelV p.2 q.2
noncomputable def kV : Key → V
  | .inl i => .int i
  | .inr x => .str x
inductive HO where
  | lst (xs : List V)
  | tup (xs : List V)
  | dK (kvs : List (Key × V)) | dT (kvs : List (List Key × V))
  | set (S : Int → Bool) (n : Nat)
  | ins (C dx : Addr) (fs : List (Str × V))
  | own (x : Addr)
  | xd (fs : List (Str × V))
  | met (f x : Addr)
  | rng (lo hi : Int)
  | frz (o : Obj) (u : HO)
  | tbl (ps : Array Value)
  | ext (φ : Heap → Prop)
noncomputable abbrev Hp := Addr → Option HO
noncomputable def upd (H : Hp) (a : Addr) (o : HO) : Hp := fun b => if b = a then some o else H b
theorem upd_same {H : Hp} {a : Addr} {o : HO} : upd H a o a = some o := by unfold upd; rw [if_pos rfl]
theorem upd_ne {H : Hp} {a b : Addr} {o : HO} (h : b ≠ a) : upd H a o b = H b := by unfold upd; rw [if_neg h]
theorem ne_of {H : Hp} {a b : Addr} {o u : HO} (h : H a = some o) (h' : H b = some u) (d : o ≠ u) : a ≠ b := by
  intro e; subst e; rw [h] at h'; exact d (Option.some.inj h')
theorem ne_of_none {H : Hp} {a b : Addr} {o : HO} (h : H a = some o) (h' : H b = none) : a ≠ b := by
  intro e; subst e; rw [h] at h'; cases h'
section
variable (P : Program) (w : World)
noncomputable def ObjOk (H : Hp) (h : Heap) (a : Addr) : HO → Prop
  | .lst xs => xs.length ≤ sizeLine ∧ ∃ (its : List Value) (n : Nat), Vals xs its ∧ h.get? a = some { cls := .type "list", data := .seq its.toArray n }
  | .tup xs => xs.length ≤ sizeLine ∧ ∃ its : List Value, Vals xs its ∧ IsTup h a its.toArray
  | .dK kvs => kvs.length ≤ sizeLine ∧ (a == sysModules) = false ∧ ∃ vs, KV kvs vs ∧ h.DictOf (mixKind P w) a vs
  | .dT kvs => kvs.length ≤ sizeLine ∧ (a == sysModules) = false ∧ ∃ xs : List (List Key × Addr × Value),
      Paired (fun (p : List Key × V) (q : List Key × Addr × Value) => p.1 = q.1 ∧ H q.2.1 = some (.tup (p.1.map kV)) ∧ RelV p.2 q.2.2) kvs xs ∧
      ∃ o es ep, h.get? a = some o ∧ o.ExactDict ∧ o.data = .dict es ep ∧ es.toList = xs.map (entryOfKey (tupleKind (mixKind P w))) ∧ (xs.map (·.1)).Nodup
  | .set S n => h.SetOf (intKind P w) a S n
  | .ins C dx fs => H dx = some (.own a) ∧ fs.length ≤ 1000 ∧ dx ≠ a ∧ h.get? a = some (PySem.W.instObj C dx) ∧
      ∃ mA, h.Ns1 dx mA ∧ (∀ f, RelO (fs.lookup f) (mA f)) ∧ PySem.Within mA (fs.map (·.1))
  | .own _ => ∃ o, h.get? a = some o
  | .xd fs => ∃ mA, h.Ns1 a mA ∧ ∀ f, RelO (fs.lookup f) (mA f)
  | .rng lo hi => ∃ t u v, h.get? a = some { cls := .type "range", data := .fields #[.int lo t, .int hi u, .int 1 v] }
  | .frz o u => h.get? a = some o ∧ ObjOk H h a u
  | .tbl ps => h.get? a = some { cls := .none, data := .fields ps }
  | .met f x => h.get? a = some (PySem.W.methodObj (.ref f) (.ref x))
  | .ext φ => φ h ∧ (∃ o, h.get? a = some o) ∧ ∀ h1 h2 : Heap, φ h1 → (∀ o, h1.get? a = some o → h2.get? a = some o) → φ h2
noncomputable def HOk (H : Hp) (h : Heap) : Prop := ∀ a o, H a = some o → ObjOk P w H h a o
end
section
variable {P : Program} {w : World} {H H' : Hp} {h h' : Heap} {a : Addr} {o : HO}
theorem ObjOk.lt (x : ObjOk P w H h a o) : a < h.objs.size := by
  cases o with
  | lst xs => obtain ⟨_, _, _, _, e⟩ := x; exact Heap.lt_size e
  | tup xs => obtain ⟨_, _, _, p⟩ := x; exact p.lt
  | dK kvs => obtain ⟨_, _, _, _, o, _, _, e, _⟩ := x; exact Heap.lt_size e
  | dT kvs => obtain ⟨_, _, _, _, o, _, _, e, _⟩ := x; exact Heap.lt_size e
  | set S n => obtain ⟨o, _, _, _, e, _⟩ := x; exact Heap.lt_size e
  | ins C dx fs => obtain ⟨_, _, _, e, _⟩ := x; exact Heap.lt_size e
  | own y => obtain ⟨_, e⟩ := x; exact Heap.lt_size e
  | xd fs => obtain ⟨_, ⟨_, _, _, e, _⟩, _⟩ := x; exact Heap.lt_size e
  | rng lo hi => obtain ⟨_, _, _, e⟩ := x; exact Heap.lt_size e
  | frz ob u => obtain ⟨e, _⟩ := x; exact Heap.lt_size e
  | tbl ps => exact Heap.lt_size (show h.get? a = some _ from x)
  | met f y => exact Heap.lt_size (show h.get? a = some _ from x)
  | ext φ => obtain ⟨_, ⟨_, e⟩, _⟩ := x; exact Heap.lt_size e
theorem Paired.mapP {α β : Type} {F G : α → β → Prop} : ∀ {l₁ : List α} {l₂ : List β}, Paired F l₁ l₂ → (∀ a b, F a b → G a b) → Paired G l₁ l₂
  | _, _, .nil, _ => .nil
  | _, _, .cons r t, f => .cons (f _ _ r) (Paired.mapP t f)
theorem ObjOk.stay (x : ObjOk P w H h a o) (k : ∀ b u, (b = a ∨ H b = some (.own a)) → h.get? b = some u → h'.get? b = some u)
    (ho : ∀ b, H b = some (.own a) → H' b = some (.own a)) (ht : ∀ b xs, H b = some (.tup xs) → H' b = some (.tup xs)) : ObjOk P w H' h' a o := by
  induction o with
  | lst xs => obtain ⟨z, its, n, r, e⟩ := x; exact ⟨z, its, n, r, k _ _ (.inl rfl) e⟩
  | tup xs => obtain ⟨z, its, r, ob, e, c⟩ := x; exact ⟨z, its, r, ob, k _ _ (.inl rfl) e, c⟩
  | dK kvs => obtain ⟨z, y, vs, r, ob, es, ep, e, c⟩ := x; exact ⟨z, y, vs, r, ob, es, ep, k _ _ (.inl rfl) e, c⟩
  | dT kvs =>
    obtain ⟨z, y, xs, r, ob, es, ep, e, c⟩ := x
    exact ⟨z, y, xs, Paired.mapP r fun p q z => ⟨z.1, ht _ _ z.2.1, z.2.2⟩, ob, es, ep, k _ _ (.inl rfl) e, c⟩
  | set S n => obtain ⟨ob, es, ep, t, e, c⟩ := x; exact ⟨ob, es, ep, t, k _ _ (.inl rfl) e, c⟩
  | ins C dx fs =>
    obtain ⟨d, z, ne, e, mA, ⟨od, es, ep, e2, c⟩, r⟩ := x
    exact ⟨ho _ d, z, ne, k _ _ (.inl rfl) e, mA, ⟨od, es, ep, k _ _ (.inr d) e2, c⟩, r⟩
  | own y => obtain ⟨ob, e⟩ := x; exact ⟨ob, k _ _ (.inl rfl) e⟩
  | xd fs => obtain ⟨mA, ⟨od, es, ep, e, c⟩, r⟩ := x; exact ⟨mA, ⟨od, es, ep, k _ _ (.inl rfl) e, c⟩, r⟩
  | rng lo hi => obtain ⟨t, u, v, e⟩ := x; exact ⟨t, u, v, k _ _ (.inl rfl) e⟩
  | frz ob u ih => obtain ⟨e, q⟩ := x; exact ⟨k _ _ (.inl rfl) e, ih q⟩
  | tbl ps =>
    have e : h.get? a = some { cls := .none, data := .fields ps } := x
    show h'.get? a = some { cls := .none, data := .fields ps }
    exact k a _ (.inl rfl) e
  | met f y =>
    have e : h.get? a = some (PySem.W.methodObj (.ref f) (.ref y)) := x
    show h'.get? a = some (PySem.W.methodObj (.ref f) (.ref y))
    exact k a _ (.inl rfl) e
  | ext φ => obtain ⟨p, ⟨o, e⟩, st⟩ := x; exact ⟨st _ _ p fun o q => k _ _ (.inl rfl) q, ⟨o, k _ _ (.inl rfl) e⟩, st⟩
theorem HOk.lt (x : HOk P w H h) (e : H a = some o) : a < h.objs.size := (x a o e).lt
theorem HOk.fresh (x : HOk P w H h) (e : h.objs.size ≤ a) : H a = none := by
  cases q : H a with
  | none => rfl
  | some u => exact absurd (Nat.lt_of_lt_of_le (x.lt q) e) (Nat.lt_irrefl _)
theorem HOk.kept (x : HOk P w H h) (k : ∀ b u, h.get? b = some u → h'.get? b = some u) : HOk P w H h' := fun a o e =>
  (x a o e).stay (fun b u _ q => k b u q) (fun _ q => q) fun _ _ q => q
theorem HOk.laid (x : HOk P w H h) (k : ∀ b u, h.get? b = some u → h'.get? b = some u) (hp : h.objs.size ≤ a) (new : ObjOk P w (upd H a o) h' a o) : HOk P w (upd H a o) h' := fun b u e => by
  have hn := x.fresh hp
  by_cases hb : b = a
  · subst hb; rw [upd_same] at e; cases e; exact new
  · rw [upd_ne hb] at e
    exact (x b u e).stay (fun c v _ q => k c v q) (fun c q => by rw [upd_ne (ne_of_none q hn)]; exact q) fun c xs q => by rw [upd_ne (ne_of_none q hn)]; exact q
end
noncomputable def Rd (H : Hp) (a : Addr) (u : HO) : Prop := H a = some u ∨ ∃ o, H a = some (.frz o u)
theorem Rd.ok {P : Program} {w : World} {H : Hp} {h : Heap} {a : Addr} {u : HO} (r : Rd H a u) (x : HOk P w H h) : ObjOk P w H h a u := by
  rcases r with r | ⟨o, r⟩
  · exact x a u r
  · obtain ⟨_, q⟩ := x a _ r
    exact q
noncomputable def Mut : Option HO → Prop
  | some (.lst _) => True
  | some (.dK _) => True
  | some (.dT _) => True
  | some (.set _ _) => True
  | some (.ins _ _ _) => True
  | some (.ext _) => True
  | _ => False
section
variable {P : Program} {w : World} {H : Hp} {h h' : Heap} {x e : Addr} {o' : HO}
theorem HOk.write (ok : HOk P w H h) (mu : Mut (H x)) (he : e = x ∨ H e = some (.own x)) (k : ∀ b u, b ≠ e → h.get? b = some u → h'.get? b = some u) (heo : ∃ u, h'.get? e = some u)
    (new : ObjOk P w (upd H x o') h' x o') : HOk P w (upd H x o') h' := fun b u q => by
  have nown : ∀ c y, H c = some (.own y) → c ≠ x := fun c y r z => by subst z; rw [r] at mu; exact mu
  have ntup : ∀ c xs, H c = some (.tup xs) → c ≠ x := fun c xs r z => by subst z; rw [r] at mu; exact mu
  by_cases hb : b = x
  · subst hb; rw [upd_same] at q; cases q; exact new
  · rw [upd_ne hb] at q
    by_cases hbe : b = e
    · have q' : H b = some (.own x) := by
        rcases he with z | z
        · exact absurd (hbe.trans z) hb
        · rw [hbe]; exact z
      rw [q] at q'; cases q'
      obtain ⟨v, hv⟩ := heo
      exact ⟨v, by rw [hbe]; exact hv⟩
    · refine (ok b u q).stay (fun c v hc r => k c v ?_ r) (fun c r => by rw [upd_ne (nown c b r)]; exact r) fun c xs r => by rw [upd_ne (ntup c xs r)]; exact r
      rcases hc with rfl | hc
      · exact hbe
      · rintro rfl
        rcases he with z | z
        · exact nown c b hc z
        · rw [hc] at z; cases z; exact hb rfl
end
structure Un (fs ex : List Addr) (H H' : Hp) (h h' : Heap) : Prop where
  keep : ∀ b o, h.get? b = some o → H b = none → b ∉ fs → b ∉ ex → h'.get? b = some o
  slot : ∀ b o, h.get? b = some o → H b = none → b ∈ fs → b ∉ ex → ∃ sl, h'.get? b = some { o with slots := sl }
  free : ∀ b o, h.get? b = some o → H b = none → b ∉ ex → H' b = none
  there : ∀ b o, h.get? b = some o → b ∉ ex → ∃ o', h'.get? b = some o'
  tups : ∀ b xs, H b = some (.tup xs) → H' b = some (.tup xs)
  frzs : ∀ b o u, H b = some (.frz o u) → H' b = some (.frz o u)
  tbls : ∀ b ps, H b = some (.tbl ps) → ∃ more, H' b = some (.tbl (ps ++ more))
section
variable {fs fs' ex ex' : List Addr} {H H1 H2 : Hp} {h h1 h2 h' : Heap} {a x e : Addr} {o : HO}
theorem Un.any (u : Un fs ex H H1 h h1) {b : Addr} {ob : Obj} (q : h.get? b = some ob) (n : H b = none) (hx : b ∉ ex) : ∃ sl, h1.get? b = some { ob with slots := sl } := by
  by_cases hb : b ∈ fs
  · exact u.slot b ob q n hb hx
  · exact ⟨ob.slots, u.keep b ob q n hb hx⟩
theorem Un.kept (k : ∀ b u, h.get? b = some u → h'.get? b = some u) : Un fs ex H H h h' :=
  ⟨fun b ob q _ _ _ => k b ob q, fun b ob q _ _ _ => ⟨ob.slots, k b ob q⟩, fun _ _ _ n _ => n, fun b ob q _ => ⟨ob, k b ob q⟩, fun _ _ q => q, fun _ _ _ q => q, fun _ ps q => ⟨#[], by rw [q]; simp⟩⟩
theorem Un.refl : Un fs ex H H h h := Un.kept fun _ _ q => q
theorem Un.laid (k : ∀ b u, h.get? b = some u → h'.get? b = some u) (hp : h.objs.size ≤ a) (hn : H a = none) : Un fs ex H (upd H a o) h h' where
  keep := fun b u q _ _ _ => k b u q
  slot := fun b u q _ _ _ => ⟨u.slots, k b u q⟩
  free := fun b u q n _ => by rw [upd_ne (Nat.ne_of_lt (Nat.lt_of_lt_of_le (Heap.lt_size q) hp))]; exact n
  there := fun b u q _ => ⟨u, k b u q⟩
  tups := fun b xs q => by rw [upd_ne (ne_of_none q hn)]; exact q
  frzs := fun b u xs q => by rw [upd_ne (ne_of_none q hn)]; exact q
  tbls := fun b ps q => ⟨#[], by rw [upd_ne (ne_of_none q hn), q]; simp⟩
theorem Un.write (mu : Mut (H x)) (he : e = x ∨ H e = some (.own x)) (k : ∀ b u, b ≠ e → h.get? b = some u → h'.get? b = some u) (heo : ∃ u, h'.get? e = some u) : Un fs ex H (upd H x o) h h' := by
  have hx : ∀ b, H b = none → b ≠ x := fun b n z => by subst z; rw [n] at mu; exact mu
  have hb : ∀ b, H b = none → b ≠ e := fun b n z => by
    subst z
    rcases he with r | r
    · exact hx b n r
    · rw [n] at r; cases r
  have hm : ∀ b u, H b = some u → ¬ Mut (some u) → b ≠ x := fun b u q nm z => by subst z; rw [q] at mu; exact nm mu
  refine ⟨fun b u q n _ _ => k b u (hb b n) q, fun b u q n _ _ => ⟨u.slots, k b u (hb b n) q⟩, fun b u q n _ => by rw [upd_ne (hx b n)]; exact n, fun b u q _ => ?_,
    fun b xs q => by rw [upd_ne (hm b _ q fun z => z)]; exact q, fun b u xs q => by rw [upd_ne (hm b _ q fun z => z)]; exact q, fun b ps q => ⟨#[], by rw [upd_ne (hm b _ q fun z => z), q]; simp⟩⟩
  by_cases hbe : b = e
  · subst hbe; exact heo
  · exact ⟨u, k b u hbe q⟩
end
noncomputable def trk (h : Heap) (H : Hp) : List Addr := (List.range h.objs.size).filter fun a => (H a).isSome
noncomputable def hidT (h : Heap) (H : Hp) : Heap := PySem.W.hideAll h (trk h H)
theorem hidT_size (h : Heap) (H : Hp) : (hidT h H).objs.size = h.objs.size := PySem.W.hideAll_size _ _
theorem hidT_get {h : Heap} {H : Hp} {b : Addr} {o : Obj} (e : h.get? b = some o) (n : H b = none) : (hidT h H).get? b = some o :=
  PySem.W.hideAll_get _ e fun hm => by
    have q : (H b).isSome = true := (List.mem_filter.mp hm).2
    rw [n] at q; simp at q
theorem of_hidT {h : Heap} {H : Hp} {b : Addr} {o : Obj} (e : (hidT h H).get? b = some o) : h.get? b = some o ∧ H b = none := by
  have e' : h.get? b = some o := PySem.W.of_hideAll (trk h H) e
  refine ⟨e', ?_⟩
  cases q : H b with
  | none => rfl
  | some x =>
    have hm : b ∈ trk h H := List.mem_filter.mpr ⟨List.mem_range.mpr (Heap.lt_size e'), by simp [q]⟩
    have z : (hidT h H).get? b = none := PySem.W.hideAll_none (trk h H) hm
    rw [z] at e; cases e
noncomputable def allNews (g h : Heap) (L : Addr) : List (Addr × Obj) := (List.range h.objs.size).filterMap fun a => if a = L ∨ (g.get? a).isSome = true then none else (h.get? a).map fun o => (a, o)
noncomputable def rest (g h : Heap) (L d : Addr) : List (Addr × Obj) := (allNews g h L).filter fun p => decide (p.1 ≠ d)
end L2
namespace L2
open PySem PySem.Spec PyProof.Rows
structure Mod (K : PySem.W.Frag) (mg : Str → Option Value) (base : Heap) : Prop where
  kin : K.In base
  glob : base.Ns mainGlobals mg
  blt : ∃ mb, base.Ns builtinsNs mb ∧ ∀ x : Str, x ≠ "__name__" → mb x = bootBuiltins x
  nolimit : base.NoLimit
structure Cx where
  prog : Program
  w : World
  K : PySem.W.Frag
  mg : Str → Option Value
  base : Heap
  A : Around
  N : List Str
  s₀ : Shared
  H₀ : Hp
  env : Env
  outer : List Env
  stack : List Env
  ex : List Addr
  fn : Str → Bool
  calm : Bool
  pn : List (Addr × Obj)
  xe : Value → Shared → Prop
noncomputable def frs (l : List Env) : List Addr := l.filterMap (·.frame)
noncomputable abbrev Cx.fs (X : Cx) : List Addr := frs X.outer
noncomputable def Vis (sc : Scope) (x : Str) : Prop := sc.names.lookup x = some .local ∨ sc.names.lookup x = some .cell ∨ sc.names.lookup x = some .free
noncomputable def Loc (sc : Scope) (x : Str) : Prop := sc.names.lookup x = some .local ∨ sc.names.lookup x = some .cell
noncomputable def Look (env : Env) (h : Heap) (m : Str → Option Value) (x : Str) (u : Value) : Prop :=
  (env.kindOf x = some .local ∧ m x = some u) ∨ ((env.kindOf x = some .cell ∨ env.kindOf x = some .free) ∧ ∃ c, env.cells.lookup x = some c ∧ h.IsCell c (some u))
structure Cx.Ok (X : Cx) : Prop where
  mod : Mod X.K X.mg X.base
  kind : X.env.scope.kind = .function
  glob : X.env.globals = mainGlobals
  blt : X.env.builtins = builtinsNs
  above : X.s₀.heap.objs.size ≤ X.env.locals
  inj : ∀ x y c, X.env.cells.lookup x = some c → X.env.cells.lookup y = some c → x = y
  has : ∀ x, (X.env.kindOf x = some .cell ∨ X.env.kindOf x = some .free) → ∃ c, X.env.cells.lookup x = some c
  cab : ∀ x c, X.fn x = true → X.env.cells.lookup x = some c → X.s₀.heap.objs.size ≤ c
  hd : X.calm = true → X.A.handled = none
  frames : X.A.frames = some X.stack
  stk : X.stack = X.outer ∨ (X.stack = X.env :: X.outer ∧ X.env.frame = some X.env.locals)
  exf : ∀ b ∈ X.ex, b ≠ X.env.locals ∧ ∀ x c, X.env.cells.lookup x = some c → c ≠ b
  bs : ∀ b o, X.base.get? b = some o → X.s₀.heap.get? b = some o ∧ X.H₀ b = none
  bsz : X.base.objs.size ≤ X.s₀.heap.objs.size
  noex : ∀ b o, X.base.get? b = some o → b ∉ X.ex
  exfs : ∀ b ∈ X.ex, b ∉ X.fs
  funs : X.s₀.heap.FunFrames X.base X.outer
  frf : ∀ b ∈ X.fs, X.H₀ b = none
structure Inv (X : Cx) (pins : List (Addr × Obj)) (σ : List (Option V)) (H : Hp) (s : Shared) : Prop where
  ok : X.Ok
  os : s.os = X.s₀.os
  bare : AllBare s.gens
  base : Un X.fs X.ex X.H₀ H X.s₀.heap s.heap
  loc : ∃ m, s.heap.Ns X.env.locals m ∧ ∀ (i : Nat) (x : Str) (v : V), X.N[i]? = some x → σ[i]? = some (some v) → Vis X.env.scope x → ∃ u, RelV v u ∧ Look X.env s.heap m x u
  cell : ∀ x c, X.env.cells.lookup x = some c → ∃ v, s.heap.IsCell c v
  free : H X.env.locals = none
  freeC : ∀ x c, X.env.cells.lookup x = some c → H c = none
  pin : ∀ p ∈ X.pn ++ pins, s.heap.get? p.1 = some p.2 ∧ H p.1 = none ∧ p.1 ≠ X.env.locals ∧ p.1 ∉ X.fs ∧ ∀ v, p.2.data ≠ .cell v
  hok : HOk X.prog X.w H s.heap
  len : σ.length = X.N.length
section
variable {X : Cx} {pins : List (Addr × Obj)} {σ : List (Option V)} {H H' : Hp} {s : Shared} {h' : Heap}
theorem Cx.Ok.nofr (ok : X.Ok) {b : Addr} {o : Obj} (e : X.base.get? b = some o) : b ∉ X.fs := fun hb => by
  have := (ok.funs.mem hb).1
  rw [e] at this; cases this
theorem Inv.bs (I : Inv X pins σ H s) : ∀ b o, X.base.get? b = some o → s.heap.get? b = some o ∧ H b = none := fun b o e =>
  ⟨I.base.keep b o (I.ok.bs b o e).1 (I.ok.bs b o e).2 (I.ok.nofr e) (I.ok.noex b o e), I.base.free b o (I.ok.bs b o e).1 (I.ok.bs b o e).2 (I.ok.noex b o e)⟩
theorem Inv.bk (I : Inv X pins σ H s) : ∀ b o, X.base.get? b = some o → s.heap.get? b = some o := fun b o e => (I.bs b o e).1
theorem Inv.mod (I : Inv X pins σ H s) : Mod X.K X.mg X.base := I.ok.mod
theorem Inv.kIn (I : Inv X pins σ H s) : X.K.In s.heap := I.ok.mod.kin.keeps I.bk
theorem Inv.lt (I : Inv X pins σ H s) : X.env.locals < s.heap.objs.size := let ⟨_, hn, _⟩ := I.loc; hn.lt
theorem Inv.sz (I : Inv X pins σ H s) : X.s₀.heap.objs.size ≤ s.heap.objs.size := Nat.le_trans I.ok.above (Nat.le_of_lt I.lt)
theorem Inv.nofs (I : Inv X pins σ H s) {a : Addr} (h : s.heap.objs.size ≤ a) : a ∉ X.fs := fun hb => by
  obtain ⟨_, o, ho, _⟩ := I.ok.funs.mem hb
  exact absurd (Nat.lt_of_lt_of_le (Heap.lt_size ho) (Nat.le_trans I.sz h)) (Nat.lt_irrefl _)
theorem Inv.cne (I : Inv X pins σ H s) : ∀ x c, X.env.cells.lookup x = some c → c ≠ X.env.locals := fun x c e z => by
  obtain ⟨v, o, ho, hd⟩ := I.cell x c e
  obtain ⟨m, ⟨o', es, ep, ho', hd', _⟩, _⟩ := I.loc
  rw [z, ho'] at ho; cases ho; rw [hd'] at hd; cases hd
theorem Inv.funs (I : Inv X pins σ H s) : s.heap.FunFrames X.base X.outer := by
  have all : ∀ (l : List Env), (∀ b ∈ frs l, b ∈ X.fs) → X.s₀.heap.FunFrames X.base l → s.heap.FunFrames X.base l := by
    intro l
    induction l with
    | nil => intro _ _; trivial
    | cons env r ih =>
      intro hs hl
      obtain ⟨hk, ⟨L, o, hf, hn, ho, hd⟩, hr⟩ := hl
      have hL : L ∈ X.fs := hs L (by unfold frs; rw [List.filterMap_cons, hf]; exact List.mem_cons_self)
      obtain ⟨sl, e⟩ := I.base.slot L o ho (I.ok.frf L hL) hL fun z => I.ok.exfs L z hL
      exact ⟨hk, ⟨L, _, hf, hn, e, hd⟩, ih (fun b hb => hs b (by unfold frs; rw [List.filterMap_cons, hf]; exact List.mem_cons_of_mem _ hb)) hr⟩
  exact all X.outer (fun _ hb => hb) I.ok.funs
theorem Inv.stack (I : Inv X pins σ H s) : s.heap.FunFrames X.base X.stack := by
  rcases I.ok.stk with e | ⟨e, hf⟩
  · rw [e]; exact I.funs
  · rw [e]
    obtain ⟨m, hn, _⟩ := I.loc
    refine .cons (by rw [I.ok.kind]; decide) hf hn ?_ I.funs
    exact Heap.get?_none_of_le (Nat.le_trans I.ok.bsz I.ok.above)
theorem Inv.stkSub (I : Inv X pins σ H s) : ∀ b ∈ frs X.stack, b ∈ X.env.locals :: X.fs := fun b hb => by
  rcases I.ok.stk with e | ⟨e, hf⟩
  · rw [e] at hb; exact List.mem_cons_of_mem _ hb
  · rw [e] at hb
    unfold frs at hb
    rw [List.filterMap_cons, hf] at hb
    exact hb
theorem Inv.stkFree (I : Inv X pins σ H s) : ∀ b ∈ frs X.stack, H b = none := fun b hb => by
  rcases List.mem_cons.mp (I.stkSub b hb) with e | hb
  · rw [e]; exact I.free
  · obtain ⟨_, o, ho, _⟩ := I.ok.funs.mem hb
    exact I.base.free b o ho (I.ok.frf b hb) fun z => I.ok.exfs b z hb
theorem Inv.step {g' : Array GenState} {t' : Nat} {d' : Drawn} {ch : List Addr} (I : Inv X pins σ H s)
    (hch : ∀ b ∈ ch, (b ∈ X.ex ∨ X.s₀.heap.objs.size ≤ b) ∧ b ≠ X.env.locals ∧ (∀ x c, X.env.cells.lookup x = some c → c ≠ b) ∧ ∀ p ∈ X.pn ++ pins, p.1 ≠ b)
    (keep : ∀ b o, b ≠ X.env.locals → b ∉ X.fs → b ∉ ch → s.heap.get? b = some o → H b = none → h'.get? b = some o)
    (slot : ∀ b o, b ≠ X.env.locals → b ∈ X.fs → b ∉ ch → s.heap.get? b = some o → H b = none → ∃ sl, h'.get? b = some { o with slots := sl }) (free : ∀ b o, b ∉ ch → s.heap.get? b = some o → H b = none → H' b = none)
    (there : ∀ b o, b ∉ ch → s.heap.get? b = some o → ∃ o', h'.get? b = some o')
    (tups : ∀ b xs, H b = some (.tup xs) → H' b = some (.tup xs)) (frzs : ∀ b o u, H b = some (.frz o u) → H' b = some (.frz o u)) (tbls : ∀ b ps, H b = some (.tbl ps) → ∃ more, H' b = some (.tbl (ps ++ more)))
    (ns : ∀ m, s.heap.Ns X.env.locals m → h'.Ns X.env.locals m) (hok : HOk X.prog X.w H' h') (hg : AllBare g') :
    Inv X pins σ H' { s with heap := h', gens := g', drawn := d', toks := t' } := by
  have neL : ∀ b o, X.s₀.heap.get? b = some o → b ≠ X.env.locals := fun b o e => Nat.ne_of_lt (Nat.lt_of_lt_of_le (Heap.lt_size e) I.ok.above)
  have neC : ∀ b o, X.s₀.heap.get? b = some o → b ∉ X.ex → b ∉ ch := fun b o e hx hb => by
    rcases (hch b hb).1 with z | z
    · exact hx z
    · exact absurd (Nat.lt_of_lt_of_le (Heap.lt_size e) z) (Nat.lt_irrefl _)
  have cellK : ∀ x c, X.env.cells.lookup x = some c → ∀ v, s.heap.IsCell c v → h'.IsCell c v := fun x c e v ⟨o, ho, hd⟩ => by
    have nch : c ∉ ch := fun z => (hch c z).2.2.1 x c e rfl
    by_cases hc : c ∈ X.fs
    · obtain ⟨sl, q⟩ := slot c o (I.cne x c e) hc nch ho (I.freeC x c e)
      exact ⟨_, q, hd⟩
    · exact ⟨o, keep c o (I.cne x c e) hc nch ho (I.freeC x c e), hd⟩
  refine ⟨I.ok, I.os, hg, ⟨fun b o e n hb hx => ?_, fun b o e n hb hx => ?_, fun b o e n hx => ?_, fun b o e hx => ?_, fun b xs e => tups b xs (I.base.tups b xs e), fun b o xs e => frzs b o xs (I.base.frzs b o xs e), fun b ps e => ?_⟩, ?_, fun x c e => ?_, ?_, fun x c e => ?_, fun p hp => ?_, hok, I.len⟩
  · exact keep b o (neL b o e) hb (neC b o e hx) (I.base.keep b o e n hb hx) (I.base.free b o e n hx)
  · obtain ⟨sl, e1⟩ := I.base.slot b o e n hb hx
    obtain ⟨sl', e2⟩ := slot b _ (neL b o e) hb (neC b o e hx) e1 (I.base.free b o e n hx)
    exact ⟨sl', e2⟩
  · obtain ⟨o', e1⟩ := I.base.there b o e hx
    exact free b o' (neC b o e hx) e1 (I.base.free b o e n hx)
  · obtain ⟨o', e1⟩ := I.base.there b o e hx
    exact there b o' (neC b o e hx) e1
  · obtain ⟨m1, e1⟩ := I.base.tbls b ps e
    obtain ⟨m2, e2⟩ := tbls b _ e1
    exact ⟨m1 ++ m2, by rw [e2, Array.append_assoc]⟩
  · obtain ⟨m, hn, hl⟩ := I.loc
    refine ⟨m, ns m hn, fun i x v e1 e2 e3 => ?_⟩
    obtain ⟨u, r, l⟩ := hl i x v e1 e2 e3
    refine ⟨u, r, ?_⟩
    rcases l with l | ⟨k, c, e, z⟩
    · exact .inl l
    · exact .inr ⟨k, c, e, cellK x c e _ z⟩
  · obtain ⟨v, z⟩ := I.cell x c e
    exact ⟨v, cellK x c e v z⟩
  · obtain ⟨m, ⟨o, _, _, ho, _⟩, _⟩ := I.loc
    exact free _ o (fun z => (hch _ z).2.1 rfl) ho I.free
  · obtain ⟨v, o, ho, hd⟩ := I.cell x c e
    exact free c o (fun z => (hch c z).2.2.1 x c e rfl) ho (I.freeC x c e)
  · obtain ⟨e, n, ne, nf, d⟩ := I.pin p hp
    have nch : p.1 ∉ ch := fun z => (hch p.1 z).2.2.2 p hp rfl
    exact ⟨keep p.1 p.2 ne nf nch e n, free p.1 p.2 nch e n, ne, nf, d⟩
theorem Inv.un {t' : Nat} (I : Inv X pins σ H s) (u : Un X.fs [] H H' s.heap h') (hok : HOk X.prog X.w H' h') : Inv X pins σ H' { s with heap := h', toks := t' } := by
  obtain ⟨m, ⟨o, es, ep, ho, r⟩, _⟩ := id I.loc
  obtain ⟨sl, hL⟩ := u.any ho I.free (by simp)
  exact I.step (g' := s.gens) (d' := s.drawn) (ch := []) (fun _ z => nomatch z) (fun b o _ hb _ e n => u.keep b o e n hb (by simp)) (fun b o _ hb _ e n => u.slot b o e n hb (by simp)) (fun b o _ e n => u.free b o e n (by simp)) (fun b o _ e => u.there b o e (by simp)) u.tups u.frzs u.tbls (fun m' hm => by
    obtain ⟨o', es', ep', ho', r'⟩ := hm
    rw [ho] at ho'; cases ho'
    exact ⟨_, es', ep', hL, r'⟩) hok I.bare
theorem Inv.call {g' : Array GenState} {t' : Nat} {d' : Drawn} {ch : List Addr} (I : Inv X pins σ H s) (u : Un (frs X.stack) ch H H' s.heap h') (hok : HOk X.prog X.w H' h') (hg : AllBare g')
    (hch : ∀ b ∈ ch, (b ∈ X.ex ∨ X.s₀.heap.objs.size ≤ b) ∧ b ≠ X.env.locals ∧ (∀ x c, X.env.cells.lookup x = some c → c ≠ b) ∧ ∀ p ∈ X.pn ++ pins, p.1 ≠ b) :
    Inv X pins σ H' { s with heap := h', gens := g', drawn := d', toks := t' } := by
  obtain ⟨m, ⟨o, es, ep, ho, r⟩, _⟩ := id I.loc
  obtain ⟨sl, hL⟩ := u.any ho I.free fun z => (hch _ z).2.1 rfl
  exact I.step (ch := ch) hch (fun b o hL hb hc e n => u.keep b o e n (fun z => (List.mem_cons.mp (I.stkSub b z)).elim hL hb) hc) (fun b o _ _ hc e n => u.any e n hc) (fun b o hc e n => u.free b o e n hc) (fun b o hc e => u.there b o e hc) u.tups u.frzs u.tbls (fun m' hm => by
    obtain ⟨o', es', ep', ho', r'⟩ := hm
    rw [ho] at ho'; cases ho'
    exact ⟨_, es', ep', hL, r'⟩) hok hg
theorem Inv.turned {t' : Nat} {it : Addr} (I : Inv X pins σ H s) (k : ∀ b o, b ≠ it → s.heap.get? b = some o → h'.get? b = some o) (hn : H it = none) (hL : it ≠ X.env.locals)
    (h1 : it ∈ X.ex ∨ X.s₀.heap.objs.size ≤ it) (h2 : ∀ x c, X.env.cells.lookup x = some c → c ≠ it) (h3 : ∀ p ∈ X.pn ++ pins, p.1 ≠ it) : Inv X pins σ H { s with heap := h', toks := t' } := by
  have nit : ∀ b u, H b = some u → b ≠ it := fun b u e z => by rw [z, hn] at e; cases e
  refine I.step (g' := s.gens) (d' := s.drawn) (ch := [it]) (fun b hb => ?_) (fun b o _ _ hc e _ => k b o (fun z => hc (by simp [z])) e) (fun b o _ _ hc e _ => ⟨o.slots, k b o (fun z => hc (by simp [z])) e⟩) (fun _ _ _ _ n => n)
    (fun b o hc e => ⟨o, k b o (fun z => hc (by simp [z])) e⟩) (fun _ _ e => e) (fun _ _ _ e => e) (fun b ps e => ⟨#[], by rw [e]; simp⟩) (fun m hm => ?_) (fun b u e => ?_) I.bare
  · have e : b = it := by simpa using hb
    subst e
    exact ⟨h1, hL, h2, h3⟩
  · obtain ⟨o, es, ep, ho, r⟩ := hm
    exact ⟨o, es, ep, k _ o (Ne.symm hL) ho, r⟩
  · refine (I.hok b u e).stay (fun c v hc q => k c v ?_ q) (fun _ q => q) fun _ _ q => q
    rcases hc with z | z
    · rw [z]; exact nit b u e
    · exact nit c _ z
theorem Inv.tok (I : Inv X pins σ H s) (t : Nat) : Inv X pins σ H { s with toks := t } := I.un (h' := s.heap) (t' := t) Un.refl I.hok
theorem Inv.kept {t' : Nat} (I : Inv X pins σ H s) (k : ∀ b u, s.heap.get? b = some u → h'.get? b = some u) : Inv X pins σ H { s with heap := h', toks := t' } := I.un (Un.kept k) (I.hok.kept k)
theorem Inv.laid {a : Addr} {o : HO} {t' : Nat} (I : Inv X pins σ H s) (k : ∀ b u, s.heap.get? b = some u → h'.get? b = some u) (hp : s.heap.objs.size ≤ a) (new : ObjOk X.prog X.w (upd H a o) h' a o) :
    Inv X pins σ (upd H a o) { s with heap := h', toks := t' } := I.un (Un.laid k hp (I.hok.fresh hp)) (I.hok.laid k hp new)
theorem Inv.write {x e : Addr} {o : HO} {t' : Nat} (I : Inv X pins σ H s) (mu : Mut (H x)) (he : e = x ∨ H e = some (.own x)) (k : ∀ b u, b ≠ e → s.heap.get? b = some u → h'.get? b = some u) (heo : ∃ u, h'.get? e = some u)
    (new : ObjOk X.prog X.w (upd H x o) h' x o) : Inv X pins σ (upd H x o) { s with heap := h', toks := t' } := I.un (Un.write mu he k heo) (I.hok.write mu he k heo new)
theorem Inv.weak {σ' : List (Option V)} (I : Inv X pins σ H s) (hl : σ'.length = σ.length) (w : ∀ (i : Nat) v, σ'[i]? = some (some v) → σ[i]? = some (some v)) : Inv X pins σ' H s :=
  ⟨I.ok, I.os, I.bare, I.base, let ⟨m, hn, hl'⟩ := I.loc; ⟨m, hn, fun i x v e1 e2 e3 => hl' i x v e1 (w i v e2) e3⟩, I.cell, I.free, I.freeC, I.pin, I.hok, hl.trans I.len⟩
theorem Inv.pins_of {pins' : List (Addr × Obj)} (I : Inv X pins σ H s) (h : ∀ p ∈ pins', s.heap.get? p.1 = some p.2 ∧ H p.1 = none ∧ p.1 ≠ X.env.locals ∧ p.1 ∉ X.fs ∧ ∀ v, p.2.data ≠ .cell v) : Inv X pins' σ H s :=
  ⟨I.ok, I.os, I.bare, I.base, I.loc, I.cell, I.free, I.freeC, fun p hp => (List.mem_append.mp hp).elim (fun z => I.pin p (List.mem_append_left _ z)) (h p), I.hok, I.len⟩
theorem nodup_ix {N : List Str} (hN : N.Nodup) {i j : Nat} {x : Str} (a : N[i]? = some x) (b : N[j]? = some x) : i = j := by
  obtain ⟨h1, e1⟩ := List.getElem?_eq_some_iff.mp a
  obtain ⟨h2, e2⟩ := List.getElem?_eq_some_iff.mp b
  exact (List.getElem_inj hN).mp (e1.trans e2.symm)
theorem store_ok2 {M : Model} {A : Around} {E : Value → Shared → Prop} {i : Nat} {x : Str} {v : V} {u : Value} {Q : Unit → Shared → Prop} (I : Inv X pins σ H s) (hN : X.N.Nodup) (hi : X.N[i]? = some x) (hx : Loc X.env.scope x) (r : RelV v u)
    (h : ∀ s', Inv X pins (σ.set i (some v)) H s' → (∃ a, Heap.SameBut a s.heap s'.heap ∧ (a = X.env.locals ∨ X.env.cells.lookup x = some a)) → Q () s') (hf : X.fn x = true ∨ X.env.scope.names.lookup x = some .local := by first | exact .inl rfl | exact .inr rfl | assumption) : wpAny M A (storeName X.env x u) Q E s := by
  obtain ⟨m, hn, hl⟩ := id I.loc
  have hcls : (X.env.scope.kind == .class || (X.env.scope.kind == .module && X.env.locals != X.env.globals)) = false := by rw [I.ok.kind]; rfl
  have hiσ : i < σ.length := by rw [I.len]; exact (List.getElem?_eq_some_iff.mp hi).1
  have cne := I.cne
  have tracked : ∀ {a : Addr} {h' : Heap}, (∃ o, s.heap.get? a = some o ∧ H a = none) → Heap.SameBut a s.heap h' → HOk X.prog X.w H h' := fun {a h'} ha hs b ob e => by
    obtain ⟨_, _, hfree⟩ := ha
    refine (I.hok b ob e).stay (fun c w' hc q => (hs.2 c ?_).trans q) (fun _ q => q) fun _ _ q => q
    rintro rfl
    rcases hc with rfl | hc
    · rw [hfree] at e; cases e
    · rw [hfree] at hc; cases hc
  rcases hx with hk | hk
  · refine wpAny_storeName_local hk hn (fun h' hn' hs => ?_) hcls
    obtain ⟨oL, _, _, hoL, _⟩ := id hn
    refine h _ ⟨I.ok, I.os, I.bare, ⟨fun b o e n hb hx => ?_, fun b o e n hb hx => ?_, I.base.free, fun b o e hx => ?_, I.base.tups, I.base.frzs, I.base.tbls⟩, ⟨_, hn', fun j y v' e1 e2 e3 => ?_⟩, fun y c e => ?_, I.free, I.freeC, fun p hp => ?_, tracked ⟨oL, hoL, I.free⟩ hs, by simpa using I.len⟩ ⟨_, hs, .inl rfl⟩
    · exact (hs.2 b (Nat.ne_of_lt (Nat.lt_of_lt_of_le (Heap.lt_size e) I.ok.above))).trans (I.base.keep b o e n hb hx)
    · obtain ⟨sl, e1⟩ := I.base.slot b o e n hb hx
      exact ⟨sl, (hs.2 b (Nat.ne_of_lt (Nat.lt_of_lt_of_le (Heap.lt_size e) I.ok.above))).trans e1⟩
    · obtain ⟨o', e1⟩ := I.base.there b o e hx
      exact ⟨o', (hs.2 b (Nat.ne_of_lt (Nat.lt_of_lt_of_le (Heap.lt_size e) I.ok.above))).trans e1⟩
    · by_cases hj : j = i
      · subst hj
        rw [hi] at e1; cases e1
        rw [List.getElem?_set_self hiσ] at e2
        cases e2
        exact ⟨u, r, .inl ⟨hk, by simp⟩⟩
      · rw [List.getElem?_set_ne (Ne.symm hj)] at e2
        obtain ⟨u', r', q⟩ := hl j y v' e1 e2 e3
        refine ⟨u', r', ?_⟩
        rcases q with ⟨k, e⟩ | ⟨k, c, e, z⟩
        · refine .inl ⟨k, ?_⟩
          have : y ≠ x := fun e => hj (nodup_ix hN e1 (e ▸ hi))
          simp [this, e]
        · exact .inr ⟨k, c, e, z.sameBut hs (cne y c e)⟩
    · obtain ⟨w', z⟩ := I.cell y c e
      exact ⟨w', z.sameBut hs (cne y c e)⟩
    · obtain ⟨e, n, ne, nf, d⟩ := I.pin p hp
      exact ⟨(hs.2 p.1 ne).trans e, n, ne, nf, d⟩
  · have hfn : X.fn x = true := by
      rcases hf with z | z
      · exact z
      · rw [z] at hk; cases hk
    obtain ⟨c, hc⟩ := I.ok.has x (.inl hk)
    obtain ⟨w', z⟩ := I.cell x c hc
    refine wpAny_storeName_cell I.ok.kind hk hc z (fun h' hc' hs => ?_)
    obtain ⟨oc, hoc, hocd⟩ := id z
    refine h { s with heap := h' } ⟨I.ok, I.os, I.bare, ⟨fun b o e n hb hx => ?_, fun b o e n hb hx => ?_, I.base.free, fun b o e hx => ?_, I.base.tups, I.base.frzs, I.base.tbls⟩, ⟨m, hn.sameBut hs (Ne.symm (cne x c hc)), fun j y v' e1 e2 e3 => ?_⟩, fun y c' e => ?_, I.free, I.freeC, fun p hp => ?_, tracked ⟨oc, hoc, I.freeC x c hc⟩ hs, by simpa using I.len⟩ ⟨c, hs, .inr hc⟩
    · exact (hs.2 b (Nat.ne_of_lt (Nat.lt_of_lt_of_le (Heap.lt_size e) (I.ok.cab x c hfn hc)))).trans (I.base.keep b o e n hb hx)
    · obtain ⟨sl, e1⟩ := I.base.slot b o e n hb hx
      exact ⟨sl, (hs.2 b (Nat.ne_of_lt (Nat.lt_of_lt_of_le (Heap.lt_size e) (I.ok.cab x c hfn hc)))).trans e1⟩
    · obtain ⟨o', e1⟩ := I.base.there b o e hx
      exact ⟨o', (hs.2 b (Nat.ne_of_lt (Nat.lt_of_lt_of_le (Heap.lt_size e) (I.ok.cab x c hfn hc)))).trans e1⟩
    · by_cases hj : j = i
      · subst hj
        rw [hi] at e1; cases e1
        rw [List.getElem?_set_self hiσ] at e2
        cases e2
        exact ⟨u, r, .inr ⟨.inl hk, c, hc, hc'⟩⟩
      · rw [List.getElem?_set_ne (Ne.symm hj)] at e2
        obtain ⟨u', r', q⟩ := hl j y v' e1 e2 e3
        refine ⟨u', r', ?_⟩
        rcases q with q | ⟨k, c', e, z'⟩
        · exact .inl q
        · refine .inr ⟨k, c', e, z'.sameBut hs ?_⟩
          rintro rfl
          exact hj (nodup_ix hN e1 (I.ok.inj _ _ _ e hc ▸ hi))
    · by_cases hcc : c' = c
      · subst hcc; exact ⟨_, hc'⟩
      · obtain ⟨w2, z2⟩ := I.cell y c' e
        exact ⟨w2, z2.sameBut hs hcc⟩
    · obtain ⟨e, n, ne, nf, d⟩ := I.pin p hp
      refine ⟨(hs.2 p.1 ?_).trans e, n, ne, nf, d⟩
      intro q
      rw [q, hoc] at e
      have q' : oc = p.2 := Option.some.inj e
      exact d w' (by rw [← q']; exact hocd)
theorem store_ok {M : Model} {A : Around} {E : Value → Shared → Prop} {i : Nat} {x : Str} {v : V} {u : Value} {Q : Unit → Shared → Prop} (I : Inv X pins σ H s) (hN : X.N.Nodup) (hi : X.N[i]? = some x) (hx : Loc X.env.scope x) (r : RelV v u)
    (h : ∀ s', Inv X pins (σ.set i (some v)) H s' → Q () s') (hf : X.fn x = true ∨ X.env.scope.names.lookup x = some .local := by first | exact .inl rfl | exact .inr rfl | assumption) : wpAny M A (storeName X.env x u) Q E s :=
  store_ok2 I hN hi hx r (fun s' I' _ => h s' I') hf
theorem Inv.call' {s' : Shared} {ch : List Addr} (I : Inv X pins σ H s) (ho : s'.os = s.os) (u : Un (frs X.stack) ch H H' s.heap s'.heap) (hok : HOk X.prog X.w H' s'.heap) (hg : AllBare s'.gens)
    (hch : ∀ b ∈ ch, (b ∈ X.ex ∨ X.s₀.heap.objs.size ≤ b) ∧ b ≠ X.env.locals ∧ (∀ x c, X.env.cells.lookup x = some c → c ≠ b) ∧ ∀ p ∈ X.pn ++ pins, p.1 ≠ b) : Inv X pins σ H' s' := by
  obtain ⟨h', g', d', t', o'⟩ := s'
  have e : o' = s.os := ho
  subst e
  exact I.call (g' := g') (t' := t') (d' := d') u hok hg hch
end
noncomputable abbrev XK := Value → Option Addr → Hp → Prop
noncomputable abbrev St := List (Option V)
noncomputable abbrev VK := V → Hp → Prop
noncomputable abbrev TE := St → Hp → VK → Prop
noncomputable abbrev TT := St → Hp → (Bool → Hp → Prop) → Prop
noncomputable abbrev TA := St → Hp → (List V → Hp → Prop) → Prop
structure Ends where
  nx : St → Hp → Prop
  rt : VK
  bk : St → Hp → Prop := fun _ _ => False
  ct : St → Hp → Prop := fun _ _ => False
noncomputable abbrev TS := Ends → St → Hp → Prop
noncomputable def EP (X : Cx) (pins : List (Addr × Obj)) (σ : St) (Q : VK) (u : Value) (s' : Shared) : Prop := ∃ v H', Inv X pins σ H' s' ∧ RelV v u ∧ Q v H'
noncomputable def TP (X : Cx) (pins : List (Addr × Obj)) (σ : St) (Q : Bool → Hp → Prop) (b : Bool) (s' : Shared) : Prop := ∃ H', Inv X pins σ H' s' ∧ Q b H'
noncomputable def AP (X : Cx) (pins : List (Addr × Obj)) (σ : St) (Q : List V → Hp → Prop) (us : List Value) (s' : Shared) : Prop := ∃ vs H', Inv X pins σ H' s' ∧ Vals vs us ∧ Q vs H'
noncomputable def SP (X : Cx) (pins : List (Addr × Obj)) (D : Ends) (f : Flow) (s' : Shared) : Prop :=
  match f with
  | .next => ∃ σ' H', Inv X pins σ' H' s' ∧ D.nx σ' H'
  | .brk => ∃ σ' H', Inv X pins σ' H' s' ∧ D.bk σ' H'
  | .cont => ∃ σ' H', Inv X pins σ' H' s' ∧ D.ct σ' H'
  | .ret u => ∃ v σ' H', Inv X pins σ' H' s' ∧ RelV v u ∧ D.rt v H'
noncomputable def PE (X : Cx) (e : Expr) (t : TE) : Prop :=
  ∀ (pins : List (Addr × Obj)) (s : Shared) (σ : St) (H : Hp) (Q : VK), Inv X pins σ H s → t σ H Q → wpAny (model X.prog X.w) X.A (eval e X.env) (EP X pins σ Q) X.xe s
noncomputable def PT (X : Cx) (e : Expr) (t : TT) : Prop :=
  ∀ (pins : List (Addr × Obj)) (s : Shared) (σ : St) (H : Hp) (Q : Bool → Hp → Prop), Inv X pins σ H s → t σ H Q → wpAny (model X.prog X.w) X.A (isTrue e X.env (eval e X.env)) (TP X pins σ Q) X.xe s
noncomputable def PW (X : Cx) (e : Expr) (t : TT) : Prop :=
  ∀ (whole : Sem Value) (pins : List (Addr × Obj)) (s : Shared) (σ : St) (H : Hp) (Q : Bool → Hp → Prop), Inv X pins σ H s → t σ H Q → wpAny (model X.prog X.w) X.A (isTrue e X.env whole) (TP X pins σ Q) X.xe s
theorem PW.pt {X : Cx} {e : Expr} {t : TT} (h : PW X e t) : PT X e t := h _
noncomputable def PA (X : Cx) (es : List Expr) (t : TA) : Prop :=
  ∀ (pos : Pos) (pins : List (Addr × Obj)) (s : Shared) (σ : St) (H : Hp) (Q : List V → Hp → Prop), Inv X pins σ H s → t σ H Q → wpAny (model X.prog X.w) X.A (spliced (backTo pos (starEach es X.env))) (AP X pins σ Q) X.xe s
noncomputable def PS (X : Cx) (st : Stmt) (t : TS) : Prop :=
  ∀ (pins : List (Addr × Obj)) (s : Shared) (σ : St) (H : Hp) (D : Ends), Inv X pins σ H s → t D σ H → wpAny (model X.prog X.w) X.A (exec st X.env) (SP X pins D) X.xe s
noncomputable def PSs (X : Cx) (st : List Stmt) (t : TS) : Prop :=
  ∀ (pins : List (Addr × Obj)) (s : Shared) (σ : St) (H : Hp) (D : Ends), Inv X pins σ H s → t D σ H → wpAny (model X.prog X.w) X.A (execs st X.env) (SP X pins D) X.xe s
theorem thn {α : Type} {t : Sem α} {Q Q' : α → Shared → Prop} {M : Model} {A : Around} {E : Value → Shared → Prop} {s : Shared} (h : wpAny M A t Q E s) (hQ : ∀ a s, Q a s → Q' a s) : wpAny M A t Q' E s := wpAny_mono h hQ fun _ _ x => x
end L2
namespace L2
open PySem PySem.Spec PyProof.Rows
section
variable {X : Cx}
noncomputable def tVar (i : Nat) : TE := fun σ H Q => ∃ v, σ[i]? = some (some v) ∧ Q v H
noncomputable def tC (v : V) : TE := fun _ H Q => Q v H
theorem pe_var {i : Nat} {x : Str} {pos : Pos} (hN : X.N[i]? = some x) (hv : Vis X.env.scope x) (hd : (x == ("__debug__" : Str)) = false := by decide) (hcd : (x == ("__classdict__" : Str)) = false := by decide) : PE X (.Name x pos) (tVar i) := by
  intro pins s σ H Q I h
  obtain ⟨v, e, h⟩ := h
  obtain ⟨m, hn, hl⟩ := I.loc
  obtain ⟨u, r, l⟩ := hl i x v hN e hv
  have fin : EP X pins σ Q u s := ⟨v, H, I, r, h⟩
  rcases l with ⟨hk, hm⟩ | ⟨hk, c, hc, hcell⟩
  · exact wpAny_Name (wpAny_loadName_local I.ok.kind hk hn hm fin) hd
  · rcases hk with hk | hk
    · exact wpAny_Name (wpAny_loadName_cell I.ok.kind hk hc hcell fin) hd
    · exact wpAny_Name (wpAny_loadName_free I.ok.kind hk hc hcell fin hcd) hd
theorem pe_int {i j pos} : PE X (.Constant (.int i) j pos) (tC (.int i)) := fun _ _ _ H _ I h => wpAny_Constant_int ⟨.int i, H, I.tok _, ⟨_, rfl⟩, h⟩
theorem pe_bl {b j pos} : PE X (.Constant (.bool b) j pos) (tC (.bl b)) := fun _ _ _ H _ I h => Constant_bool ⟨.bl b, H, I, rfl, h⟩
theorem pe_non {j pos} : PE X (.Constant .none j pos) (tC .non) := fun _ _ _ H _ I h => Constant_none ⟨.non, H, I, rfl, h⟩
theorem pe_str {x j pos} : PE X (.Constant (.str x) j pos) (tC (.str x)) := fun _ _ _ H _ I h => Calls.Constant_str ⟨.str x, H, I.tok _, ⟨_, rfl⟩, h⟩
noncomputable def Gl (X : Cx) (x : Str) : Prop := X.env.kindOf x = some .globalImplicit
theorem ld_glob {E : Value → Shared → Prop} {pins : List (Addr × Obj)} {s : Shared} {σ : St} {H : Hp} {x : Str} {u : Value} {pos : Pos} {Q : Value → Shared → Prop} (I : Inv X pins σ H s) (hg : Gl X x) (hm : X.mg x = some u) (h : Q u s)
    (hd : (x == ("__debug__" : Str)) = false := by decide) : wpAny (model X.prog X.w) X.A (eval (.Name x pos) X.env) Q E s :=
  Calls.Name_function_global I.ok.kind hg (Calls.loadGlobal_global (by rw [I.ok.glob]; exact I.mod.glob.keeps I.bk) hm h) hd
theorem ld_blt {E : Value → Shared → Prop} {pins : List (Addr × Obj)} {s : Shared} {σ : St} {H : Hp} {x : Str} {u : Value} {pos : Pos} {Q : Value → Shared → Prop} (I : Inv X pins σ H s) (hg : Gl X x) (hm : X.mg x = none) (hv : bootBuiltins x = some u) (h : Q u s)
    (hn : x ≠ "__name__" := by decide) (hd : (x == ("__debug__" : Str)) = false := by decide) : wpAny (model X.prog X.w) X.A (eval (.Name x pos) X.env) Q E s := by
  obtain ⟨mb, h1, h2⟩ := I.mod.blt
  exact Calls.Name_function_global I.ok.kind hg (Calls.loadGlobal_builtin (by rw [I.ok.glob]; exact I.mod.glob.keeps I.bk) hm (by rw [I.ok.blt]; exact h1.keeps I.bk) ((h2 x hn).trans hv) h) hd
theorem pe_glob {x : Str} {v : V} {u : Value} {pos : Pos} (hg : Gl X x) (hm : X.mg x = some u) (r : RelV v u) (hd : (x == ("__debug__" : Str)) = false := by decide) : PE X (.Name x pos) (tC v) :=
  fun _ _ _ H _ I h => ld_glob I hg hm ⟨v, H, I, r, h⟩ hd
noncomputable def t2I (ta tb : TE) (k : Int → Int → Hp → Prop) : St → Hp → Prop := fun σ H => ta σ H fun x H1 => tb σ H1 fun y H2 => ∃ i j, x = .int i ∧ y = .int j ∧ k i j H2
noncomputable def tAdd (ta tb : TE) : TE := fun σ H Q => t2I ta tb (fun i j H2 => Q (.int (i + j)) H2) σ H
noncomputable def tSub (ta tb : TE) : TE := fun σ H Q => t2I ta tb (fun i j H2 => Q (.int (i - j)) H2) σ H
noncomputable def tMul (ta tb : TE) : TE := fun σ H Q => t2I ta tb (fun i j H2 => (-(2 ^ 64) < i ∧ i < 2 ^ 64) ∧ Q (.int (i * j)) H2) σ H
variable {a b : Expr} {ta tb : TE} {pos : Pos}
noncomputable def PC (X : Cx) (op : CmpOp) (a b : Expr) (t : TE) : Prop :=
  ∀ (pins : List (Addr × Obj)) (s : Shared) (σ : St) (H : Hp) (Q : VK), Inv X pins σ H s → t σ H Q →
    wpAny (model X.prog X.w) X.A (eval a X.env) (fun v s₁ => wpAny (model X.prog X.w) X.A (eval b X.env) (fun u s₂ => wpAny (model X.prog X.w) X.A (compareOp op v u) (EP X pins σ Q) X.xe s₂) X.xe s₁) X.xe s
noncomputable def tCmp (p : Int → Int → Bool) (ta tb : TE) : TE := fun σ H Q => t2I ta tb (fun i j H2 => Q (.bl (p i j)) H2) σ H
noncomputable abbrev tLt : TE → TE → TE := tCmp fun i j => decide (i < j)
noncomputable abbrev tLe : TE → TE → TE := tCmp fun i j => decide (i ≤ j)
noncomputable abbrev tGt : TE → TE → TE := tCmp fun i j => decide (j < i)
noncomputable abbrev tGe : TE → TE → TE := tCmp fun i j => decide (j ≤ i)
noncomputable abbrev tEqI : TE → TE → TE := tCmp fun i j => decide (i = j)
noncomputable abbrev tNeI : TE → TE → TE := tCmp fun i j => !decide (i = j)
noncomputable def tIsN (ta : TE) : TE := fun σ H Q => ta σ H fun x H1 => Q (.bl (decide (x = .non))) H1
noncomputable def tNotN (ta : TE) : TE := fun σ H Q => ta σ H fun x H1 => Q (.bl (!decide (x = .non))) H1
noncomputable def tB (t : TE) : TT := fun σ H Q => t σ H fun x H1 => ∃ c, x = .bl c ∧ Q c H1
theorem pt_val {e : Expr} {t : TE} (h : PE X e t) (he : ∀ whole, isTrue e X.env whole = (do let v ← whole; standAt e.pos; holding [v] (truthy v)) := by intro _; rfl) : PT X e (tB t) := by
  intro pins s σ H Q I hw
  refine isTrue_plain (thn (h pins s σ H _ I hw) fun v s1 ⟨x, H1, I1, r1, q1⟩ => ?_) (he _)
  obtain ⟨d, rfl, q⟩ := q1
  cases r1
  exact wpAny_truthy_bool ⟨H1, I1, q⟩
variable {tA tB' : TT} {rest : List Expr}
noncomputable def tAnd (t u : TT) : TT := fun σ H Q => t σ H fun c H1 => if c = true then u σ H1 Q else Q false H1
noncomputable def tOr (t u : TT) : TT := fun σ H Q => t σ H fun c H1 => if c = true then Q true H1 else u σ H1 Q
noncomputable def tNot (t : TT) : TT := fun σ H Q => t σ H fun c H1 => Q (!c) H1
theorem pw_and1 (ha : PT X a tA) : PW X (.BoolOp .And [a] pos) tA := by
  intro wh pins s σ H Q I h
  refine isTrue_and (thn (ha pins s σ H Q I h) fun c s1 e => ?_)
  cases c with
  | true => exact isTrue_and_nil e
  | false => exact e
theorem pw_or1 (ha : PT X a tA) : PW X (.BoolOp .Or [a] pos) tA := by
  intro wh pins s σ H Q I h
  refine isTrue_or (thn (ha pins s σ H Q I h) fun c s1 e => ?_)
  cases c with
  | false => exact isTrue_or_nil e
  | true => exact e
theorem pw_and (ha : PT X a tA) (hb : PW X (.BoolOp .And (b :: rest) pos) tB') : PW X (.BoolOp .And (a :: b :: rest) pos) (tAnd tA tB') := by
  intro wh pins s σ H Q I h
  refine isTrue_and (thn (ha pins s σ H _ I h) fun c s1 ⟨H1, I1, q1⟩ => ?_)
  cases c with
  | true => exact hb wh pins s1 σ H1 Q I1 q1
  | false => exact ⟨H1, I1, q1⟩
theorem pw_or (ha : PT X a tA) (hb : PW X (.BoolOp .Or (b :: rest) pos) tB') : PW X (.BoolOp .Or (a :: b :: rest) pos) (tOr tA tB') := by
  intro wh pins s σ H Q I h
  refine isTrue_or (thn (ha pins s σ H _ I h) fun c s1 ⟨H1, I1, q1⟩ => ?_)
  cases c with
  | true => exact ⟨H1, I1, q1⟩
  | false => exact hb wh pins s1 σ H1 Q I1 q1
theorem pt_not (ha : PT X a tA) : PT X (.UnaryOp .Not a pos) (tNot tA) := by
  intro pins s σ H Q I h
  exact isTrue_not (ha pins s σ H (fun c H1 => Q (!c) H1) I h)
noncomputable def tAndV (ta tb : TE) : TE := fun σ H Q => ta σ H fun x H1 => ∃ c, x = .bl c ∧ if c = true then tb σ H1 Q else Q (.bl false) H1
noncomputable def tOrV (ta tb : TE) : TE := fun σ H Q => ta σ H fun x H1 => ∃ c, x = .bl c ∧ if c = true then Q (.bl true) H1 else tb σ H1 Q
noncomputable def tNotV (ta : TE) : TE := fun σ H Q => ta σ H fun x H1 => ∃ c, x = .bl c ∧ Q (.bl (!c)) H1
theorem pe_one {op} {t : TE} (h : PE X a t) : PE X (.BoolOp op [a] pos) t := fun pins s σ H Q I hw => BoolOp_one (h pins s σ H Q I hw)
theorem pe_and (ha : PE X a ta) (hb : PE X (.BoolOp .And (b :: rest) pos) tb) : PE X (.BoolOp .And (a :: b :: rest) pos) (tAndV ta tb) := by
  intro pins s σ H Q I h
  refine BoolOp_and (thn (ha pins s σ H _ I h) fun v s1 ⟨x, H1, I1, r1, q1⟩ => ?_)
  obtain ⟨c, rfl, q1⟩ := q1
  cases r1
  refine wpAny_truthy_bool ?_
  cases c with
  | true => exact hb pins s1 σ H1 Q I1 q1
  | false => exact ⟨.bl false, H1, I1, rfl, q1⟩
theorem pe_not (ha : PE X a ta) : PE X (.UnaryOp .Not a pos) (tNotV ta) := by
  intro pins s σ H Q I h
  refine UnaryOp_ (thn (ha pins s σ H _ I h) fun v s1 ⟨x, H1, I1, r1, q1⟩ => ?_)
  obtain ⟨c, rfl, q1⟩ := q1
  cases r1
  exact not_of (wpAny_truthy_bool ⟨.bl (!c), H1, I1, rfl, q1⟩)
noncomputable def tIf (t : TT) (ta tb : TE) : TE := fun σ H Q => t σ H fun c H1 => if c = true then ta σ H1 Q else tb σ H1 Q
theorem pe_ifExp {c : Expr} (hc : PT X c tA) (ha : PE X a ta) (hb : PE X b tb) : PE X (.IfExp c a b pos) (tIf tA ta tb) := by
  intro pins s σ H Q I h
  refine wpAny_IfExp (thn (hc pins s σ H _ I h) fun d s1 ⟨H1, I1, q1⟩ => ?_)
  cases d with
  | true => exact ha pins s1 σ H1 Q I1 q1
  | false => exact hb pins s1 σ H1 Q I1 q1
end
end L2
namespace L2
open PySem PySem.Spec PyProof.Rows
noncomputable def SqL (K : PySem.W.Frag) (H : Hp) (a : Addr) (xs : List V) : Prop :=
  Rd H a (.lst xs) ∨
    ∃ (o : Obj) (its : Array Value) (n : Nat), K.lookup a = some o ∧ o.cls = .type "list" ∧ o.dict = none ∧ o.data = .seq its n ∧ its.size ≤ sizeLine ∧ Vals xs its.toList
noncomputable def SqT (K : PySem.W.Frag) (H : Hp) (a : Addr) (xs : List V) : Prop :=
  Rd H a (.tup xs) ∨
    ∃ (o : Obj) (its : Array Value) (n : Nat), K.lookup a = some o ∧ o.cls = .type "tuple" ∧ o.data = .seq its n ∧ its.size ≤ sizeLine ∧ Vals xs its.toList
noncomputable def absV : Value → Option V
  | .none => some .non
  | .bool b => some (.bl b)
  | .int i _ => some (.int i)
  | .str x _ => some (.str x)
  | .bytes b _ => some (.byt b)
  | .float b _ => some (.flt b)
  | .ref a => some (.ref a)
  | .type n => some (.ty n)
  | _ => none
theorem RelV.abs {x : V} {u : Value} (r : RelV x u) : absV u = some x := by
  cases x with
  | non => cases r; rfl
  | bl _ => cases r; rfl
  | int _ => obtain ⟨t, rfl⟩ := r; rfl
  | str _ => obtain ⟨t, rfl⟩ := r; rfl
  | byt _ => obtain ⟨t, rfl⟩ := r; rfl
  | flt _ => obtain ⟨t, rfl⟩ := r; rfl
  | ref _ => cases r; rfl
  | ty _ => cases r; rfl
theorem RelV.inj {x y : V} {u : Value} (r : RelV x u) (q : RelV y u) : x = y := Option.some.inj (r.abs.symm.trans q.abs)
theorem Vals.inj : ∀ {xs ys : List V} {us : List Value}, Vals xs us → Vals ys us → xs = ys
  | _, _, _, .nil, .nil => rfl
  | _, _, _, .cons r t, .cons r' t' => by rw [r.inj r', Vals.inj t t']
section
variable {X : Cx} {pins : List (Addr × Obj)} {σ : St} {H : Hp} {s : Shared} {a : Addr} {xs ys : List V}
theorem SqL.of {K : PySem.W.Frag} (h : H a = some (.lst xs)) : SqL K H a xs := .inl (.inl h)
theorem SqT.of {K : PySem.W.Frag} (h : H a = some (.tup xs)) : SqT K H a xs := .inl (.inl h)
theorem Inv.list (I : Inv X pins σ H s) (h : SqL X.K H a xs) : ∃ its : List Value, Vals xs its ∧ PlainL s.heap a its.toArray ∧ xs.length ≤ sizeLine := by
  rcases h with h | ⟨o, its, n, hk, hc, hd, hs, hz, r⟩
  · obtain ⟨z, its, n, r, e⟩ := h.ok I.hok
    exact ⟨its, r, ⟨_, n, e, rfl, rfl, rfl⟩, z⟩
  · refine ⟨its.toList, r, ⟨o, n, I.kIn a o hk, hc, hd, by simpa using hs⟩, ?_⟩
    have e := r.length
    simp only [Array.length_toList] at e
    omega
theorem Inv.tuple (I : Inv X pins σ H s) (h : SqT X.K H a xs) : ∃ its : List Value, Vals xs its ∧ IsTup s.heap a its.toArray ∧ xs.length ≤ sizeLine := by
  rcases h with h | ⟨o, its, n, hk, hc, hs, hz, r⟩
  · obtain ⟨z, its, r, p⟩ := h.ok I.hok
    exact ⟨its, r, p, z⟩
  · refine ⟨its.toList, r, ⟨o, I.kIn a o hk, hc, n, by simpa using hs⟩, ?_⟩
    have e := r.length
    simp only [Array.length_toList] at e
    omega
theorem Inv.list_inj (I : Inv X pins σ H s) (h : SqL X.K H a xs) (h' : SqL X.K H a ys) : xs = ys := by
  obtain ⟨its, r, ⟨o, n, e, _, _, d⟩, _⟩ := I.list h
  obtain ⟨its', r', ⟨o', n', e', _, _, d'⟩, _⟩ := I.list h'
  rw [e] at e'; cases e'
  rw [d] at d'
  injection d' with d1 _
  have : its = its' := by simpa using congrArg Array.toList d1
  subst this
  exact r.inj r'
theorem Inv.tuple_inj (I : Inv X pins σ H s) (h : SqT X.K H a xs) (h' : SqT X.K H a ys) : xs = ys := by
  obtain ⟨its, r, ⟨o, e, _, n, d⟩, _⟩ := I.tuple h
  obtain ⟨its', r', ⟨o', e', _, n', d'⟩, _⟩ := I.tuple h'
  rw [e] at e'; cases e'
  rw [d] at d'
  injection d' with d1 _
  have : its = its' := by simpa using congrArg Array.toList d1
  subst this
  exact r.inj r'
end
noncomputable abbrev Cx.wish (X : Cx) (E : Value → Shared → Prop) : Cx := { X with xe := E }
noncomputable abbrev Cx.nox (X : Cx) : Cx := X.wish fun _ _ => False
theorem Cx.Ok.wish {X : Cx} (ok : X.Ok) (E : Value → Shared → Prop) : (X.wish E).Ok :=
  ⟨ok.mod, ok.kind, ok.glob, ok.blt, ok.above, ok.inj, ok.has, ok.cab, ok.hd, ok.frames, ok.stk, ok.exf, ok.bs, ok.bsz, ok.noex, ok.exfs, ok.funs, ok.frf⟩
theorem Cx.Ok.unwish {X : Cx} {E : Value → Shared → Prop} (ok : (X.wish E).Ok) : X.Ok :=
  ⟨ok.mod, ok.kind, ok.glob, ok.blt, ok.above, ok.inj, ok.has, ok.cab, ok.hd, ok.frames, ok.stk, ok.exf, ok.bs, ok.bsz, ok.noex, ok.exfs, ok.funs, ok.frf⟩
section
variable {X : Cx} {pins : List (Addr × Obj)} {σ : St} {H : Hp} {s : Shared} {E : Value → Shared → Prop}
theorem Inv.wish (I : Inv X pins σ H s) (E : Value → Shared → Prop) : Inv (X.wish E) pins σ H s := ⟨I.ok.wish E, I.os, I.bare, I.base, I.loc, I.cell, I.free, I.freeC, I.pin, I.hok, I.len⟩
theorem Inv.unwish (I : Inv (X.wish E) pins σ H s) : Inv X pins σ H s := ⟨I.ok.unwish, I.os, I.bare, I.base, I.loc, I.cell, I.free, I.freeC, I.pin, I.hok, I.len⟩
theorem SP.unwish {D : Ends} {f : Flow} {s' : Shared} (h : SP (X.wish E) pins D f s') : SP X pins D f s' := by
  cases f with
  | next => obtain ⟨σ', H', I, q⟩ := h; exact ⟨σ', H', I.unwish, q⟩
  | brk => obtain ⟨σ', H', I, q⟩ := h; exact ⟨σ', H', I.unwish, q⟩
  | cont => obtain ⟨σ', H', I, q⟩ := h; exact ⟨σ', H', I.unwish, q⟩
  | ret u => obtain ⟨v, σ', H', I, r, q⟩ := h; exact ⟨v, σ', H', I.unwish, r, q⟩
theorem PSs.nox {st : List Stmt} {t : TS} (h : PSs X.nox st t) : PSs X st t := fun pins s σ H D I hw =>
  wpAny_mono (h pins s σ H D (I.wish _) hw) (fun _ _ q => q.unwish) fun _ _ z => False.elim z
end
section
variable {X : Cx} {st : Stmt} {rest : List Stmt} {t u : TS} {e : Expr} {te : TE} {pos : Pos}
noncomputable def tNext : TS := fun D σ H => D.nx σ H
noncomputable def tSeq (t u : TS) : TS := fun D σ H => t { D with nx := u D } σ H
theorem pss_nil : PSs X [] tNext := fun _ _ σ H _ I h => wpAny_execs_nil ⟨σ, H, I, h⟩
theorem pss_cons (h1 : PS X st t) (h2 : PSs X rest u) : PSs X (st :: rest) (tSeq t u) := by
  intro pins s σ H D I h
  refine wpAny_execs_cons (thn (h1 pins s σ H { D with nx := u D } I h) fun f s1 q => ?_)
  cases f with
  | next =>
    obtain ⟨σ', H', I', q⟩ := q
    exact h2 pins s1 σ' H' D I' q
  | ret v => exact q
  | brk => exact q
  | cont => exact q
theorem pss_one (h1 : PS X st t) : PSs X [st] t := by
  intro pins s σ H D I h
  refine wpAny_execs_cons (thn (h1 pins s σ H D I h) fun f s1 q => ?_)
  cases f with
  | next => exact wpAny_execs_nil q
  | ret v => exact q
  | brk => exact q
  | cont => exact q
noncomputable def tBreak : TS := fun D σ H => D.bk σ H
noncomputable def tCont : TS := fun D σ H => D.ct σ H
theorem Inv.quiet {pins : List (Addr × Obj)} {σ : St} {H : Hp} {s : Shared} (I : Inv X pins σ H s) : interactive X.env = false := by simp [interactive, I.ok.kind]
noncomputable def tDrop (te : TE) : TS := fun D σ H => te σ H fun _ H1 => D.nx σ H1
theorem ps_expr (he : PE X e te) (hs : swapsWith e none pos.line X.env = pure false := by rfl) : PS X (.Expr e pos) (tDrop te) := by
  intro pins s σ H D I h
  exact wpAny_Expr_any (thn (he pins s σ H _ I h) fun v s1 ⟨x, H1, I1, r1, q1⟩ => ⟨σ, H1, I1, q1⟩) I.quiet hs
noncomputable def tRet (te : TE) : TS := fun D σ H => te σ H D.rt
theorem ps_ret (he : PE X e te) : PS X (.Return (some e) pos) (tRet te) := by
  intro pins s σ H D I h
  exact wpAny_Return_some (thn (he pins s σ H _ I h) fun v s1 ⟨x, H1, I1, r1, q1⟩ => ⟨x, σ, H1, I1, r1, q1⟩)
noncomputable def tRetN : TS := fun D _ H => D.rt .non H
noncomputable def tIfS (c : TT) (t u : TS) : TS := fun D σ H => c σ H fun b H1 => if b = true then t D σ H1 else u D σ H1
theorem ps_if {c : Expr} {a b : List Stmt} {tc : TT} (hc : PT X c tc) (ha : PSs X a t) (hb : PSs X b u) : PS X (.If c a b pos) (tIfS tc t u) := by
  intro pins s σ H D I h
  refine wpAny_If (thn (hc pins s σ H _ I h) fun d s1 ⟨H1, I1, q1⟩ => ?_)
  cases d with
  | true => exact ha pins s1 σ H1 D I1 q1
  | false => exact hb pins s1 σ H1 D I1 q1
noncomputable def tNever : TS := fun _ _ _ => False
theorem ps_never : PS X st tNever := fun _ _ _ _ _ _ h => h.elim
end
noncomputable abbrev TG := V → St → Hp → (St → Hp → Prop) → Prop
noncomputable abbrev TGs := List V → St → Hp → (St → Hp → Prop) → Prop
noncomputable def PG (X : Cx) (target : Expr) (t : TG) : Prop :=
  ∀ (pins : List (Addr × Obj)) (s : Shared) (σ : St) (H : Hp) (v : V) (u : Value) (Q : St → Hp → Prop), Inv X pins σ H s → RelV v u → t v σ H Q →
    wpAny (model X.prog X.w) X.A (assign target X.env u) (fun _ s' => ∃ σ' H', Inv X pins σ' H' s' ∧ Q σ' H') X.xe s
noncomputable def PGs (X : Cx) (ts : List Expr) (t : TGs) : Prop :=
  ∀ (pins : List (Addr × Obj)) (s : Shared) (σ : St) (H : Hp) (vs : List V) (us : List Value) (Q : St → Hp → Prop), Inv X pins σ H s → Vals vs us → t vs σ H Q →
    wpAny (model X.prog X.w) X.A (assignInOrder ((assignEach ts X.env).map (·.2)) us) (fun _ s' => ∃ σ' H', Inv X pins σ' H' s' ∧ Q σ' H') X.xe s
noncomputable abbrev TSet := V → V → V → Hp → (Hp → Prop) → Prop
noncomputable def PSet (X : Cx) (t : TSet) : Prop :=
  ∀ (pins : List (Addr × Obj)) (s : Shared) (σ : St) (H : Hp) (o i v : V) (ov iv u : Value) (Q : Hp → Prop), Inv X pins σ H s → RelV o ov → RelV i iv → RelV v u → t o i v H Q →
    wpAny (model X.prog X.w) X.A (setItem ov iv u) (fun _ s' => ∃ H', Inv X pins σ H' s' ∧ Q H') X.xe s
noncomputable abbrev TIp := V → V → Hp → VK → Prop
noncomputable def PIp (X : Cx) (op : Operator) (t : TIp) : Prop :=
  ∀ (pins : List (Addr × Obj)) (s : Shared) (σ : St) (H : Hp) (x y : V) (v u : Value) (Q : VK), Inv X pins σ H s → RelV x v → RelV y u → t x y H Q →
    wpAny (model X.prog X.w) X.A (inplaceOp op v u) (EP X pins σ Q) X.xe s
section
variable {X : Cx} {pos : Pos}
noncomputable def gName (i : Nat) : TG := fun v σ H Q => Q (σ.set i (some v)) H
theorem pg_name {i : Nat} {x : Str} (hN : X.N.Nodup) (hi : X.N[i]? = some x) (hx : Loc X.env.scope x) (hf : X.fn x = true ∨ X.env.scope.names.lookup x = some .local := by first | exact .inl rfl | exact .inr rfl | assumption) : PG X (.Name x pos) (gName i) := by
  intro pins s σ H v u Q I r h
  exact wpAny_assign_Name (store_ok I hN hi hx r (fun s' I' => ⟨_, H, I', h⟩) hf)
noncomputable def gNil : TGs := fun vs σ H Q => vs = [] ∧ Q σ H
noncomputable def gCons (t : TG) (u : TGs) : TGs := fun vs σ H Q => ∃ v r, vs = v :: r ∧ t v σ H fun σ' H' => u r σ' H' Q
theorem pgs_nil : PGs X [] gNil := by
  intro pins s σ H vs us Q I r h
  obtain ⟨e, h⟩ := h
  subst e
  cases r
  exact assignInOrder_nil ⟨σ, H, I, h⟩
theorem pgs_cons {e : Expr} {es : List Expr} {t : TG} {u : TGs} (h1 : PG X e t) (h2 : PGs X es u)
    (hs : (assignEach (e :: es) X.env).map (·.2) = assign e X.env :: (assignEach es X.env).map (·.2) := by rfl) : PGs X (e :: es) (gCons t u) := by
  intro pins s σ H vs us Q I r h
  obtain ⟨v, vr, e1, h⟩ := h
  subst e1
  cases r with
  | cons r rr =>
    rw [hs]
    refine assignInOrder_cons (thn (h1 pins s σ H _ _ _ I r h) fun _ s1 ⟨σ1, H1, I1, q1⟩ => ?_)
    exact h2 pins s1 σ1 H1 _ _ Q I1 rr q1
noncomputable def gTup (K : PySem.W.Frag) (n : Nat) (t : TGs) : TG := fun v σ H Q => ∃ a xs, v = .ref a ∧ SqT K H a xs ∧ xs.length = n ∧ t xs σ H Q
theorem pg_tup {es : List Expr} {k : Nat} {t : TGs} {n : Nat} (hc : X.calm = true) (h : PGs X es t)
    (hn : (assignEach es X.env).length = n := by rfl) (hst : (assignEach es X.env).findIdx? (·.1) = none := by rfl) : PG X (.Tuple es k pos) (gTup X.K n t) := by
  intro pins s σ H v u Q I r hw
  obtain ⟨a, xs, e1, hq, hl, hw⟩ := hw
  subst e1
  cases r
  obtain ⟨its, rv, ht, hz⟩ := I.tuple hq
  refine assign_Tuple_tuple (I.ok.hd hc) ht (by simp [hn, ← hl, rv.length]) hst fun h' hx => ?_
  have I1 : Inv X pins σ H { s with heap := h' } := I.kept (t' := s.toks) fun b o e => hx b o (Nat.ne_of_lt (Heap.lt_size e)) e
  exact h pins _ σ H xs _ Q I1 (by simpa using rv) hw
noncomputable def gSub (to ti : TE) (t : TSet) : TG := fun v σ H Q => to σ H fun o H1 => ti σ H1 fun i H2 => t o i v H2 fun H3 => Q σ H3
noncomputable def tAsg (te : TE) (g : TG) : TS := fun D σ H => te σ H fun x H1 => g x σ H1 D.nx
theorem ps_asg {tg e : Expr} {te : TE} {g : TG} (he : PE X e te) (hg : PG X tg g) (hs : swapsWithSole [tg] e pos.line X.env = pure false := by rfl) (hw : swappedStores [tg] e X.env = pure none := by rfl)
    (h1 : (assignEach [tg] X.env).map (·.2) = [assign tg X.env] := by rfl) : PS X (.Assign [tg] e pos) (tAsg te g) := by
  intro pins s σ H D I h
  refine wpAny_Assign_stores (thn (he pins s σ H _ I h) fun v s1 ⟨x, H1, I1, r1, q1⟩ => ?_) hs hw
  rw [h1]
  exact thn (hg pins s1 σ H1 x v _ I1 r1 q1) fun _ s2 q => q
theorem ps_set {i : Nat} {x : Str} {e : Expr} {te : TE} {pos' : Pos} (hN : X.N.Nodup) (hi : X.N[i]? = some x) (hx : Loc X.env.scope x) (he : PE X e te) (hs : swapsWith e (some (.Name x pos')) pos.line X.env = pure false := by rfl) (hf : X.fn x = true ∨ X.env.scope.names.lookup x = some .local := by first | exact .inl rfl | exact .inr rfl | assumption) :
    PS X (.Assign [.Name x pos'] e pos) (tAsg te (gName i)) := by
  intro pins s σ H D I h
  refine wpAny_Assign_Name (thn (he pins s σ H _ I h) fun v s1 ⟨y, H1, I1, r1, q1⟩ => ?_) hs
  exact store_ok I1 hN hi hx r1 (fun s2 I2 => ⟨_, H1, I2, q1⟩) hf
noncomputable def tPar (i j : Nat) (ta : TA) : TS := fun D σ H => ta σ H fun vs H1 => ∃ v w, vs = [v, w] ∧ D.nx ((σ.set i (some v)).set j (some w)) H1
theorem ps_par {i j : Nat} {x y : Str} {a b : Expr} {ta : TA} {px py pt : Pos} {kt k2 pt2} (hc : X.calm = true) (hN : X.N.Nodup) (hi : X.N[i]? = some x) (hj : X.N[j]? = some y) (hij : i ≠ j)
    (hx : X.env.scope.names.lookup x = some .local) (hy : X.env.scope.names.lookup y = some .local) (ha : PA X [a, b] ta)
    (hw : swappedStores [.Tuple [.Name x px, .Name y py] kt pt] (.Tuple [a, b] k2 pt2) X.env = pure (some [x, y]))
    (hs : swapsWithSole [.Tuple [.Name x px, .Name y py] kt pt] (.Tuple [a, b] k2 pt2) pos.line X.env = pure false := by rfl) :
    PS X (.Assign [.Tuple [.Name x px, .Name y py] kt pt] (.Tuple [a, b] k2 pt2) pos) (tPar i j ta) := by
  intro pins s σ H D I h
  rw [exec_Assign_arm]
  refine wpAny_bind (wpAny_standAt ?_)
  rw [hs]
  refine wpAny_bind (wpAny_pure ?_)
  rw [if_neg (by decide)]
  refine wpAny_bind (Tuple_ (thn (ha _ pins s σ H _ I h) fun us s1 ⟨vs, H1, I1, r1, q1⟩ => ?_))
  obtain ⟨v, w, e1, q1⟩ := q1
  subst e1
  obtain ⟨u1, u2, rfl, rv, rw'⟩ : ∃ u1 u2, us = [u1, u2] ∧ RelV v u1 ∧ RelV w u2 := by
    cases r1 with
    | cons p q =>
      cases q with
      | cons p' q' =>
        cases q'
        exact ⟨_, _, rfl, p, p'⟩
  refine wpAny_newObj_type ?_ (by show 2 ≤ sizeLine; decide)
  have I2 : Inv X pins σ H1 { s1 with heap := s1.heap.push { cls := .type "tuple", data := .seq [u1, u2].toArray } } := I1.kept (t' := s1.toks) fun b o e => Heap.get?_push_of_some _ e
  rw [hw]
  refine wpAny_bind (wpAny_pure ?_)
  show wpAny (model X.prog X.w) X.A (do rule "assign.swapped-stores"; let items ← unpackItems (.ref s1.heap.objs.size) 2 none; assignInOrder [fun v => bindName X.env y v, fun v => bindName X.env x v] items.reverse; pure Flow.next) _ _ _
  refine wpAny_bind (wpAny_rule (wpAny_bind (unpackItems_tuple (items := #[u1, u2]) (I.ok.hd hc) (IsTup.new s1.heap _) fun h' hx' => ?_)))
  have I3 := I2.kept (h' := h') (t' := s1.toks) fun b o e => hx' b o (Nat.ne_of_lt (Heap.lt_size e)) e
  show wpAny _ _ (assignInOrder [fun v => bindName X.env y v, fun v => bindName X.env x v] [u2, u1] >>= fun _ => pure Flow.next) _ _ _
  refine wpAny_bind (assignInOrder_cons (wpAny_bindName (store_ok I3 hN hj (.inl hy) rw' (fun s2 I4 => ?_) (.inr hy))))
  refine assignInOrder_cons (wpAny_bindName (store_ok I4 hN hi (.inl hx) rv (fun s3 I5 => assignInOrder_nil (wpAny_pure ?_)) (.inr hx)))
  rw [List.set_comm _ _ (Ne.symm hij)] at I5
  exact ⟨_, H1, I5, q1⟩
noncomputable def tAug (i : Nat) (te : TE) (ti : TIp) : TS := fun D σ H => ∃ x, σ[i]? = some (some x) ∧ te σ H fun y H1 => ti x y H1 fun z H2 => D.nx (σ.set i (some z)) H2
noncomputable def tAugS (to ti te : TE) (tget : V → V → Hp → VK → Prop) (tip : TIp) (tset : TSet) : TS := fun D σ H => to σ H fun o H1 => ti σ H1 fun i H2 => tget o i H2 fun x H3 => te σ H3 fun y H4 => tip x y H4 fun z H5 => tset o i z H5 fun H6 => D.nx σ H6
noncomputable def PGet (X : Cx) (t : V → V → Hp → VK → Prop) : Prop :=
  ∀ (pins : List (Addr × Obj)) (s : Shared) (σ : St) (H : Hp) (o i : V) (ov iv : Value) (Q : VK), Inv X pins σ H s → RelV o ov → RelV i iv → t o i H Q →
    wpAny (model X.prog X.w) X.A (getItem ov iv) (EP X pins σ Q) X.xe s
noncomputable def ipI (f : Int → Int → Int) : TIp := fun x y H Q => ∃ i j, x = .int i ∧ y = .int j ∧ Q (.int (f i j)) H
end
section
variable {X : Cx} {pos : Pos}
noncomputable def tWhile (c : TT) (tb : TS) : TS := fun D σ H => ∃ W : Nat → St → Hp → Prop, (∃ m, W m σ H) ∧ ∀ m σ H, W m σ H →
  c σ H fun b H1 => if b = true then ∃ N : St → Hp → Prop, (∀ σ' H', N σ' H' → ∃ m', m' < m ∧ W m' σ' H') ∧ tb { D with nx := N, ct := N, bk := D.nx } σ H1 else D.nx σ H1
theorem ps_while {c : Expr} {body : List Stmt} {tc : TT} {tb : TS} (hp : PassesOwn (model X.prog X.w) X.A X.env X.xe) (hc : PT X c tc) (hb : PSs X body tb) : PS X (.While c body [] pos) (tWhile tc tb) := by
  intro pins s σ H D I h
  obtain ⟨W, ⟨m0, w0⟩, turn⟩ := h
  refine wpAny_While (codeAny_whileLoop (fun n s' => ∃ σ' H', Inv X pins σ' H' s' ∧ W n σ' H') ?_ m0 ⟨σ, H, I, w0⟩)
  rintro n s1 ⟨σ1, H1, I1, w1⟩
  refine wpAny_passesOwn hp (thn (hc pins s1 σ1 H1 _ I1 (turn n σ1 H1 w1)) fun b s2 ⟨H2, I2, q2⟩ => ?_)
  cases b with
  | true =>
    obtain ⟨N, hN, q2⟩ := q2
    rw [if_pos rfl]
    refine wpAny_passesOwn hp (thn (hb pins s2 σ1 H2 _ I2 q2) fun f s3 q3 => ?_)
    cases f with
    | next =>
      obtain ⟨σ3, H3, I3, n3⟩ := q3
      obtain ⟨m', hm, w3⟩ := hN σ3 H3 n3
      exact ⟨m', hm, σ3, H3, I3, w3⟩
    | cont =>
      obtain ⟨σ3, H3, I3, n3⟩ := q3
      obtain ⟨m', hm, w3⟩ := hN σ3 H3 n3
      exact ⟨m', hm, σ3, H3, I3, w3⟩
    | brk => exact q3
    | ret v => exact q3
  | false =>
    rw [if_neg Bool.false_ne_true]
    exact wpAny_execs_nil ⟨σ1, H2, I2, q2⟩
end
structure It where
  go : Nat → Hp → Prop
  yld : Nat → Hp → V → Hp → Prop
  stop : Nat → Hp → Prop
noncomputable def FpOk (X : Cx) (pins : List (Addr × Obj)) (H : Hp) (b : Addr) : Prop :=
  H b = none ∧ b ≠ X.env.locals ∧ b ∉ X.fs ∧ (b ∈ X.ex ∨ X.s₀.heap.objs.size ≤ b) ∧ (∀ x c, X.env.cells.lookup x = some c → c ≠ b) ∧ ∀ p ∈ X.pn ++ pins, p.1 ≠ b
theorem Inv.fpOk {X : Cx} {pins : List (Addr × Obj)} {σ : St} {H H' : Hp} {s : Shared} {b : Addr} (I : Inv X pins σ H s) (hb : s.heap.objs.size ≤ b) (hn : H' b = none) : FpOk X pins H' b := by
  refine ⟨hn, Nat.ne_of_gt (Nat.lt_of_lt_of_le I.lt hb), I.nofs hb, .inr (Nat.le_trans I.sz hb), fun x c e z => ?_, fun p hp z => ?_⟩
  · obtain ⟨v, q⟩ := I.cell x c e
    exact absurd (Nat.lt_of_lt_of_le q.lt (by rw [z]; exact hb)) (Nat.lt_irrefl _)
  · exact absurd (Nat.lt_of_lt_of_le (Heap.lt_size (I.pin p hp).1) (by rw [z]; exact hb)) (Nat.lt_irrefl _)
structure Turn (P : Program) (w : World) (K : PySem.W.Frag) (tg : Expr) (J : It) (fp : List Addr) (it : Addr) (tn : Nat → Heap → Prop) : Prop where
  mem : it ∈ fp
  obj : ∀ i h, tn i h → ∀ b ∈ fp, ∃ o, h.get? b = some o ∧ ∀ v, o.data ≠ .cell v
  keep : ∀ i h h', tn i h → (∀ b ∈ fp, ∀ o, h.get? b = some o → h'.get? b = some o) → tn i h'
  item : ∀ (X : Cx), X.prog = P → X.w = w → X.K = K → X.calm = true → ∀ (i : Nat) (pins : List (Addr × Obj)) (s : Shared) (σ : St) (H : Hp) (E : Value → Shared → Prop), Inv X pins σ H s → (∀ b ∈ fp, FpOk X pins H b) → tn i s.heap → J.go i H →
    wpAny (model P w) X.A (pyNext (.ref it)) (fun r s1 => ∃ u, r = some u ∧
      wpAny (model P w) X.A (letOwnedTupleGo tg (.ref it) u) (fun _ s2 => ∃ x H', Inv X pins σ H' s2 ∧ RelV x u ∧ J.yld i H x H' ∧ tn (i + 1) s2.heap ∧ ∀ b ∈ fp, H' b = none) E s1) E s
  done : ∀ (X : Cx), X.prog = P → X.w = w → X.K = K → X.calm = true → ∀ (i : Nat) (pins : List (Addr × Obj)) (s : Shared) (σ : St) (H : Hp) (E : Value → Shared → Prop), Inv X pins σ H s → (∀ b ∈ fp, FpOk X pins H b) → tn i s.heap → J.stop i H →
    wpAny (model P w) X.A (pyNext (.ref it)) (fun r s1 => r = none ∧ Inv X pins σ H s1) E s
  self : ∀ (A : Around) (i : Nat) (s : Shared) (Q : Value → Shared → Prop) (E : Value → Shared → Prop), tn i s.heap → Q (.ref it) s → wpAny (model P w) A (pyIter (.ref it)) Q E s
noncomputable abbrev TI := St → Hp → (It → Hp → Prop) → Prop
noncomputable def PIE (X : Cx) (pins : List (Addr × Obj)) (σ : St) (tg : Expr) (R : It → Hp → Prop) (itv : Value) (s2 : Shared) : Prop :=
  ∃ (it : Addr) (fp : List Addr) (tn : Nat → Heap → Prop) (J : It) (H' : Hp), itv = .ref it ∧ Inv X pins σ H' s2 ∧ Turn X.prog X.w X.K tg J fp it tn ∧ tn 0 s2.heap ∧ (∀ b ∈ fp, FpOk X pins H' b) ∧ R J H'
noncomputable def PI (X : Cx) (tg iter : Expr) (wi : TI) : Prop :=
  ∀ (pins : List (Addr × Obj)) (s : Shared) (σ : St) (H : Hp) (R : It → Hp → Prop), Inv X pins σ H s → wi σ H R →
    wpAny (model X.prog X.w) X.A (eval iter X.env) (fun v s1 => wpAny (model X.prog X.w) X.A (pyIter v) (PIE X pins σ tg R) X.xe s1) X.xe s
theorem go_of {M : Model} {A : Around} {E : Value → Shared → Prop} {s : Shared} {tg : Expr} {it : Addr} {u : Value} {o : Obj} {n : String} {vs : Array Value} {Q : Unit → Shared → Prop} (ho : s.heap.get? it = some o) (hc : o.cls = .type n) (hd : o.data = .fields vs)
    (hn : ["enumerate", "zip", "dict_itemiterator", "dict_reverseitemiterator", "odict_iterator", "itertools.zip_longest", "itertools.pairwise"].contains n = false) (hQ : Q () s) : wpAny M A (letOwnedTupleGo tg (.ref it) u) Q E s := by
  unfold letOwnedTupleGo
  cases tg <;> first
    | exact wpAny_pure hQ
    | (cases u <;> first
        | exact wpAny_pure hQ
        | (refine wpAny_bind (wpAny_load ho ?_)
           rw [hc, hd]
           show wpAny M A (if (["enumerate", "zip", "dict_itemiterator", "dict_reverseitemiterator", "odict_iterator", "itertools.zip_longest", "itertools.pairwise"].contains n && vs[0]? == some (rawInt _)) = true then _ else _) Q E s
           rw [if_neg (by intro h; rw [hn, Bool.false_and] at h; cases h)]
           exact wpAny_pure hQ))
noncomputable def Itl (K : PySem.W.Frag) (a : Addr) : It :=
  ⟨fun i H => ∃ xs x, SqL K H a xs ∧ xs[i]? = some x, fun i H x H' => H' = H ∧ ∀ xs, SqL K H a xs → xs[i]? = some x, fun i H => ∃ xs, SqL K H a xs ∧ xs.length ≤ i⟩
noncomputable def Itt (K : PySem.W.Frag) (a : Addr) : It :=
  ⟨fun i H => ∃ xs x, SqT K H a xs ∧ xs[i]? = some x, fun i H x H' => H' = H ∧ ∀ xs, SqT K H a xs → xs[i]? = some x, fun i H => ∃ xs, SqT K H a xs ∧ xs.length ≤ i⟩
noncomputable def Itr (lo : Int) (n : Nat) : It := ⟨fun i _ => i < n, fun i H x H' => H' = H ∧ x = .int (lo + i), fun i _ => n ≤ i⟩
theorem turn_list {P : Program} {w : World} {K : PySem.W.Frag} {tg : Expr} (a it : Addr) : Turn P w K tg (Itl K a) [it] it (fun i h => h.IsListIter it a i) where
  mem := by simp
  obj := fun i h st b hb => by
    have e : b = it := by simpa using hb
    subst e
    obtain ⟨o, e, c, d⟩ := st
    exact ⟨o, e, fun v z => by rw [d] at z; cases z⟩
  keep := fun i h h' st k => st.at fun o e => k it (by simp) o e
  item := by
    intro X hP hw hK hc i pins s σ H E I hf st hg
    subst hP hw hK
    obtain ⟨xs, x, hq, hx⟩ := hg
    obtain ⟨its, rv, p, hz⟩ := I.list hq
    obtain ⟨u, hu, ru⟩ := rv.get hx
    obtain ⟨f0, f1, f2, f3, f4, f5⟩ := hf it (by simp)
    refine wpAny_pyNext_list_item st p.isList (x := u) (by simpa using hu) fun h' st' sb => ?_
    have I1 : Inv X pins σ H { s with heap := h' } := I.turned (t' := s.toks) (fun b o hb e => (sb.2 b hb).trans e) f0 f1 f3 f4 f5
    obtain ⟨o, e, c, d⟩ := id st'
    exact ⟨u, rfl, go_of (s := { s with heap := h' }) e c d (by decide) ⟨x, H, I1, ru, ⟨rfl, fun ys hy => by rw [I.list_inj hy hq]; exact hx⟩, st', fun b hb => (hf b hb).1⟩⟩
  done := by
    intro X hP hw hK hc i pins s σ H E I hf st hg
    subst hP hw hK
    obtain ⟨xs, hq, hx⟩ := hg
    obtain ⟨its, rv, p, hz⟩ := I.list hq
    obtain ⟨f0, f1, f2, f3, f4, f5⟩ := hf it (by simp)
    have hl := rv.length
    exact wpAny_pyNext_list_end (I.ok.hd hc) st p.isList (by simp; omega) fun h' eb => ⟨rfl, I.turned (t' := s.toks) (fun b o hb e => eb b o hb e) f0 f1 f3 f4 f5⟩
  self := fun _ _ _ _ _ st h => wpAny_pyIter_listiter st h
theorem turn_tuple {P : Program} {w : World} {K : PySem.W.Frag} {tg : Expr} (a it : Addr) : Turn P w K tg (Itt K a) [it] it (fun i h => h.IsTupleIter it a i) where
  mem := by simp
  obj := fun i h st b hb => by
    have e : b = it := by simpa using hb
    subst e
    obtain ⟨o, e, c, d⟩ := st
    exact ⟨o, e, fun v z => by rw [d] at z; cases z⟩
  keep := fun i h h' st k => st.at fun o e => k it (by simp) o e
  item := by
    intro X hP hw hK hc i pins s σ H E I hf st hg
    subst hP hw hK
    obtain ⟨xs, x, hq, hx⟩ := hg
    obtain ⟨its, rv, p, hz⟩ := I.tuple hq
    obtain ⟨u, hu, ru⟩ := rv.get hx
    obtain ⟨f0, f1, f2, f3, f4, f5⟩ := hf it (by simp)
    refine wpAny_pyNext_tuple_item st (show s.heap.IsTuple a its.toArray from p) (x := u) (by simpa using hu) fun h' st' sb => ?_
    have I1 : Inv X pins σ H { s with heap := h' } := I.turned (t' := s.toks) (fun b o hb e => (sb.2 b hb).trans e) f0 f1 f3 f4 f5
    obtain ⟨o, e, c, d⟩ := id st'
    exact ⟨u, rfl, go_of (s := { s with heap := h' }) e c d (by decide) ⟨x, H, I1, ru, ⟨rfl, fun ys hy => by rw [I.tuple_inj hy hq]; exact hx⟩, st', fun b hb => (hf b hb).1⟩⟩
  done := by
    intro X hP hw hK hc i pins s σ H E I hf st hg
    subst hP hw hK
    obtain ⟨xs, hq, hx⟩ := hg
    obtain ⟨its, rv, p, hz⟩ := I.tuple hq
    obtain ⟨f0, f1, f2, f3, f4, f5⟩ := hf it (by simp)
    have hl := rv.length
    exact wpAny_pyNext_tuple_end (I.ok.hd hc) st (show s.heap.IsTuple a its.toArray from p) (by simp; omega) fun h' eb => ⟨rfl, I.turned (t' := s.toks) (fun b o hb e => eb b o hb e) f0 f1 f3 f4 f5⟩
  self := fun _ _ _ _ _ st h => wpAny_pyIter_tupleiter st h
theorem turn_range {P : Program} {w : World} {K : PySem.W.Frag} {tg : Expr} (it : Addr) (lo : Int) (n : Nat) : Turn P w K tg (Itr lo n) [it] it (fun i h => IsRangeIter h it (lo + (i : Nat) * 1) ((n : Int) - (i : Nat)) 1) where
  mem := by simp
  obj := fun i h st b hb => by
    have e : b = it := by simpa using hb
    subst e
    exact ⟨_, st, fun v z => by
      have z' : Data.fields _ = Data.cell v := z
      cases z'⟩
  keep := fun i h h' st k => k it (by simp) _ st
  item := by
    intro X hP hw hK hc i pins s σ H E I hf st hg
    subst hP hw hK
    obtain ⟨f0, f1, f2, f3, f4, f5⟩ := hf it (by simp)
    have W := Walks.range (prog := X.prog) (w := X.w) (I.ok.hd hc) it lo 1 n
    refine W.item i s _ _ hg st fun v h' tk hv st' kk => ?_
    obtain ⟨t, rfl⟩ := hv
    have I1 : Inv X pins σ H { s with heap := h', toks := tk } := I.turned (fun b o hb e => kk b o (by simpa using hb) e) f0 f1 f3 f4 f5
    refine ⟨_, rfl, go_of (s := { s with heap := h', toks := tk }) (n := "range_iterator") st' rfl rfl (by decide) ⟨.int (lo + i), H, I1, ⟨t, ?_⟩, ⟨rfl, rfl⟩, st', fun b hb => (hf b hb).1⟩⟩
    rw [Int.mul_one]
  done := by
    intro X hP hw hK hc i pins s σ H E I hf st hg
    subst hP hw hK
    obtain ⟨f0, f1, f2, f3, f4, f5⟩ := hf it (by simp)
    exact wpAny_pyNext_range_end (I.ok.hd hc) st (by have : n ≤ i := hg; omega) fun h' eb => ⟨rfl, I.turned (t' := s.toks) (fun b o hb e => eb b o hb e) f0 f1 f3 f4 f5⟩
  self := fun _ _ _ _ _ st h => wpAny_pyIter_rangeiter st h
end L2
namespace L2
open PySem PySem.Spec PyProof.Rows
section
variable {X : Cx} {tg : Expr}
noncomputable def iList (K : PySem.W.Frag) (tl : TE) : TI := fun σ H R => tl σ H fun x H1 => ∃ a, x = .ref a ∧ (∃ xs, SqL K H1 a xs) ∧ R (Itl K a) H1
noncomputable def iTup (K : PySem.W.Frag) (tl : TE) : TI := fun σ H R => tl σ H fun x H1 => ∃ a, x = .ref a ∧ (∃ xs, SqT K H1 a xs) ∧ R (Itt K a) H1
theorem pi_list {l : Expr} {tl : TE} (hl : PE X l tl) : PI X tg l (iList X.K tl) := by
  intro pins s σ H R I h
  refine thn (hl pins s σ H _ I h) fun v s1 ⟨x, H1, I1, r1, q1⟩ => ?_
  obtain ⟨a, e, ⟨xs, hq⟩, q⟩ := q1
  subst e
  cases r1
  obtain ⟨its, rv, p, hz⟩ := I1.list hq
  refine wpAny_pyIter_list p.isList ?_
  refine ⟨s1.heap.objs.size, [s1.heap.objs.size], _, _, H1, rfl, I1.kept (t' := s1.toks) fun b o e => Heap.get?_push_of_some _ e, turn_list a _, ⟨_, Heap.get?_push_size _ rfl, rfl, rfl⟩, fun b hb => ?_, q⟩
  have e : b = s1.heap.objs.size := by simpa using hb
  subst e
  exact I1.fpOk (Nat.le_refl _) (I1.hok.fresh (Nat.le_refl _))
theorem pi_tup {l : Expr} {tl : TE} (hl : PE X l tl) : PI X tg l (iTup X.K tl) := by
  intro pins s σ H R I h
  refine thn (hl pins s σ H _ I h) fun v s1 ⟨x, H1, I1, r1, q1⟩ => ?_
  obtain ⟨a, e, ⟨xs, hq⟩, q⟩ := q1
  subst e
  cases r1
  obtain ⟨its, rv, p, hz⟩ := I1.tuple hq
  refine wpAny_pyIter_tuple (show s1.heap.IsTuple a its.toArray from p) ?_
  refine ⟨s1.heap.objs.size, [s1.heap.objs.size], _, _, H1, rfl, I1.kept (t' := s1.toks) fun b o e => Heap.get?_push_of_some _ e, turn_tuple a _, ⟨_, Heap.get?_push_size _ rfl, rfl, rfl⟩, fun b hb => ?_, q⟩
  have e : b = s1.heap.objs.size := by simpa using hb
  subst e
  exact I1.fpOk (Nat.le_refl _) (I1.hok.fresh (Nat.le_refl _))
theorem range_it {pins : List (Addr × Obj)} {σ : St} {H : Hp} {s : Shared} {R : It → Hp → Prop} {E : Value → Shared → Prop} {lo hi : Int} {t u v : Tok} {tk : Nat} (I : Inv X pins σ H s) (h1 : -(2 ^ 62) ≤ lo) (h2 : lo < 2 ^ 62) (h3 : -(2 ^ 62) ≤ hi) (h4 : hi < 2 ^ 62)
    (q : R (Itr lo (hi - lo).toNat) H) : wpAny (model X.prog X.w) X.A (pyIter (.ref s.heap.objs.size)) (PIE X pins σ tg R) E { s with heap := s.heap.push { cls := .type "range", data := .fields #[.int lo t, .int hi u, .int 1 v] }, toks := tk } := by
  refine wpAny_pyIter_range (IsRange.new ..) (small_one h1 h2 h3 h4) ?_
  have I1 : Inv X pins σ H { s with heap := s.heap.push { cls := .type "range", data := .fields #[.int lo t, .int hi u, .int 1 v] }, toks := tk } := I.kept fun b o e => Heap.get?_push_of_some _ e
  refine ⟨(s.heap.push { cls := .type "range", data := .fields #[.int lo t, .int hi u, .int 1 v] }).objs.size, [(s.heap.push { cls := .type "range", data := .fields #[.int lo t, .int hi u, .int 1 v] }).objs.size], _, _, H, rfl,
    I1.kept (t' := tk) fun b o e => Heap.get?_push_of_some _ e, turn_range _ lo (hi - lo).toNat, ?_, fun b hb => ?_, q⟩
  · have e1 : lo + ((0 : Nat) : Int) * 1 = lo := by simp
    have e2 : (((hi - lo).toNat : Nat) : Int) - ((0 : Nat) : Int) = Builtin.Range.rangeSize lo hi 1 := by rw [rangeSize_one]; split <;> omega
    show IsRangeIter _ _ (lo + ((0 : Nat) : Int) * 1) ((((hi - lo).toNat : Nat) : Int) - ((0 : Nat) : Int)) 1
    rw [e1, e2]
    exact Heap.get?_push_size _ rfl
  · have e : b = (s.heap.push { cls := .type "range", data := .fields #[.int lo t, .int hi u, .int 1 v] }).objs.size := by simpa using hb
    subst e
    exact I1.fpOk (Nat.le_refl _) (I1.hok.fresh (Nat.le_refl _))
noncomputable def iRng1 (ta : TA) : TI := fun σ H R => ta σ H fun vs H1 => ∃ j : Int, vs = [.int j] ∧ -(2 ^ 62) ≤ j ∧ j < 2 ^ 62 ∧ R (Itr 0 j.toNat) H1
noncomputable def iRng2 (ta : TA) : TI := fun σ H R => ta σ H fun vs H1 => ∃ i j : Int, vs = [.int i, .int j] ∧ (-(2 ^ 62) ≤ i ∧ i < 2 ^ 62 ∧ -(2 ^ 62) ≤ j ∧ j < 2 ^ 62) ∧ R (Itr i (j - i).toNat) H1
theorem pi_range1 {a : Expr} {ta : TA} {p pos : Pos} (hg : Gl X "range") (hm : X.mg "range" = none) (ha : PA X [a] ta) (hs : starEach [a] X.env = [(false, eval a X.env)] := by rfl) : PI X tg (.Call (.Name "range" p) [a] [] pos) (iRng1 ta) := by
  intro pins s σ H R I h
  refine Call_ (ld_blt I hg hm boot_range (PyProof.Rows.callWith_type1 (thn (ha pos pins s σ H _ I h) fun us s1 ⟨vs, H1, I1, r1, q1⟩ => ?_) hs rfl))
  obtain ⟨j, e, q1, q2, q⟩ := q1
  subst e
  cases r1 with
  | cons r rr =>
    cases rr
    obtain ⟨t, rfl⟩ := r
    exact call_range_1 (range_it I1 (by omega) (by omega) q1 q2 (by simpa using q))
theorem pi_range2 {a b : Expr} {ta : TA} {p pos : Pos} (hg : Gl X "range") (hm : X.mg "range" = none) (ha : PA X [a, b] ta) (hs : starEach [a, b] X.env = [(false, eval a X.env), (false, eval b X.env)] := by rfl) (hs2 : starEach [b] X.env = [(false, eval b X.env)] := by rfl) :
    PI X tg (.Call (.Name "range" p) [a, b] [] pos) (iRng2 ta) := by
  intro pins s σ H R I h
  refine Call_ (ld_blt I hg hm boot_range (PyProof.Rows.callWith_type1 (thn (ha pos pins s σ H _ I h) fun us s1 ⟨vs, H1, I1, r1, q1⟩ => ?_) (by rw [hs, hs2]) (by rw [hs2]; rfl)))
  obtain ⟨i, j, e, ⟨q1, q2, q3, q4⟩, q⟩ := q1
  subst e
  cases r1 with
  | cons r rr =>
    cases rr with
    | cons r' rr =>
      cases rr
      obtain ⟨t, rfl⟩ := r
      obtain ⟨t', rfl⟩ := r'
      exact call_range_2 (range_it I1 q1 q2 q3 q4 q)
noncomputable def tFor (wi : TI) (g : TG) (tb : TS) : TS := fun D σ H => wi σ H fun J H1 => ∃ W : Nat → Nat → St → Hp → Prop, (∃ m, W 0 m σ H1) ∧ ∀ i m σ H, W i m σ H →
  (J.stop i H ∧ D.nx σ H) ∨ (J.go i H ∧ ∃ N : St → Hp → Prop, (∀ σ' H', N σ' H' → ∃ m', m' < m ∧ W (i + 1) m' σ' H') ∧ ∀ x H', J.yld i H x H' → g x σ H' fun σ2 H2 => tb { D with nx := N, ct := N, bk := D.nx } σ2 H2)
noncomputable def pinsAt (fp : List Addr) (h : Heap) : List (Addr × Obj) := fp.filterMap fun b => (h.get? b).map fun o => (b, o)
theorem mem_pinsAt {fp : List Addr} {h : Heap} {b : Addr} {o : Obj} (hb : b ∈ fp) (e : h.get? b = some o) : (b, o) ∈ pinsAt fp h := List.mem_filterMap.mpr ⟨b, hb, by rw [e]; rfl⟩
theorem of_pinsAt {fp : List Addr} {h : Heap} {p : Addr × Obj} (hp : p ∈ pinsAt fp h) : p.1 ∈ fp ∧ h.get? p.1 = some p.2 := by
  obtain ⟨b, hb, e⟩ := List.mem_filterMap.mp hp
  cases q : h.get? b with
  | none => rw [q] at e; cases e
  | some o =>
    rw [q] at e
    have e' : (b, o) = p := Option.some.inj e
    subst e'
    exact ⟨hb, q⟩
theorem Inv.pinned {pins : List (Addr × Obj)} {σ : St} {H : Hp} {s : Shared} {fp : List Addr} (I : Inv X pins σ H s) (hf : ∀ b ∈ fp, FpOk X pins H b) (ho : ∀ b ∈ fp, ∃ o, s.heap.get? b = some o ∧ ∀ v, o.data ≠ .cell v) : Inv X (pins ++ pinsAt fp s.heap) σ H s :=
  I.pins_of fun p hp => (List.mem_append.mp hp).elim (fun z => I.pin p (List.mem_append_right _ z)) fun z => by
    obtain ⟨hb, e⟩ := of_pinsAt z
    obtain ⟨f0, f1, f2, _⟩ := hf p.1 hb
    obtain ⟨o, e', d⟩ := ho p.1 hb
    rw [e] at e'; cases e'
    exact ⟨e, f0, f1, f2, d⟩
theorem Inv.unpinned {pins pl : List (Addr × Obj)} {σ : St} {H : Hp} {s : Shared} (I : Inv X (pins ++ pl) σ H s) : Inv X pins σ H s := I.pins_of fun p hp => I.pin p (List.mem_append_right _ (List.mem_append_left _ hp))
theorem ps_for {iter : Expr} {body : List Stmt} {wi : TI} {g : TG} {tb : TS} {pos : Pos} (hp : PassesOwn (model X.prog X.w) X.A X.env X.xe) (hc : X.calm = true) (hi : PI X tg iter wi) (hg : PG X tg g) (hb : PSs X body tb)
    (hs : ∀ x, foldedSetIterable iter X.env x = pure x := by intro _; rfl) : PS X (.For tg iter body [] pos) (tFor wi g tb) := by
  intro pins s σ H D I h
  refine wpAny_For (thn (hi pins s σ H _ I h) fun v s1 h1 => thn h1 fun itv s2 h2 => ?_) hs
  obtain ⟨it, fp, tn, J, H2, e, I2, T, st2, f2, W, ⟨m0, w0⟩, turn⟩ := h2
  subst e
  have stat : ∀ {H' : Hp}, (∀ b ∈ fp, H' b = none) → ∀ b ∈ fp, FpOk X pins H' b := fun hn b hb => ⟨hn b hb, (f2 b hb).2⟩
  refine codeAny_forLoop_any (fun n s' => ∃ i σ' H', Inv X pins σ' H' s' ∧ tn i s'.heap ∧ (∀ b ∈ fp, H' b = none) ∧ W i n σ' H') ?_ m0 ⟨0, σ, H2, I2, st2, fun b hb => (f2 b hb).1, w0⟩
  rintro n s3 ⟨i, σ3, H3, I3, st3, fr3, w3⟩
  rcases turn i n σ3 H3 w3 with ⟨stop, qn⟩ | ⟨go, N, hN, step⟩
  · refine wpAny_passesOwn hp (thn (T.done X rfl rfl rfl hc i pins s3 σ3 H3 X.xe I3 (stat fr3) st3 stop) fun r s4 ⟨hr, I4⟩ => ?_)
    subst hr
    exact wpAny_execs_nil ⟨σ3, H3, I4, qn⟩
  · refine wpAny_passesOwn hp (thn (T.item X rfl rfl rfl hc i pins s3 σ3 H3 X.xe I3 (stat fr3) st3 go) fun r s4 ⟨u, hr, h4⟩ => ?_)
    subst hr
    refine wpAny_passesOwn hp (thn h4 fun _ s5 ⟨x, H5, I5, r5, y5, st5, fr5⟩ => ?_)
    have I5' := I5.pinned (stat fr5) (T.obj _ _ st5)
    refine wpAny_passesOwn hp (thn (hg _ s5 σ3 H5 x u _ I5' r5 (step x H5 y5)) fun _ s6 ⟨σ6, H6, I6, q6⟩ => ?_)
    refine wpAny_passesOwn hp (thn (hb _ s6 σ6 H6 _ I6 q6) fun f s7 q7 => ?_)
    have again : ∀ {σ7 : St} {H7 : Hp}, Inv X (pins ++ pinsAt fp s5.heap) σ7 H7 s7 → N σ7 H7 → ∃ m, m < n ∧ ∃ i σ' H', Inv X pins σ' H' s7 ∧ tn i s7.heap ∧ (∀ b ∈ fp, H' b = none) ∧ W i m σ' H' := fun {σ7 H7} I7 n7 => by
      obtain ⟨m', hm, w7⟩ := hN σ7 H7 n7
      refine ⟨m', hm, i + 1, σ7, H7, I7.unpinned, T.keep _ _ _ st5 fun b hb o e => (I7.pin (b, o) (List.mem_append_right _ (List.mem_append_right _ (mem_pinsAt hb e)))).1, fun b hb => ?_, w7⟩
      obtain ⟨o, e, d⟩ := T.obj _ _ st5 b hb
      exact (I7.pin (b, o) (List.mem_append_right _ (List.mem_append_right _ (mem_pinsAt hb e)))).2.1
    cases f with
    | next => obtain ⟨σ7, H7, I7, n7⟩ := q7; exact again I7 n7
    | cont => obtain ⟨σ7, H7, I7, n7⟩ := q7; exact again I7 n7
    | brk => obtain ⟨σ7, H7, I7, q7⟩ := q7; exact ⟨σ7, H7, I7.unpinned, q7⟩
    | ret v => obtain ⟨x7, σ7, H7, I7, r7, q7⟩ := q7; exact ⟨x7, σ7, H7, I7.unpinned, r7, q7⟩
end
end L2
namespace L2
open PySem PySem.Spec PyProof.Rows
noncomputable abbrev R2 := V → V → Hp → VK → Prop
noncomputable def OpR (X : Cx) (f : Value → Value → Sem Value) (r : R2) : Prop :=
  ∀ (pins : List (Addr × Obj)) (s : Shared) (σ : St) (H : Hp) (x y : V) (v u : Value) (Q : VK), Inv X pins σ H s → RelV x v → RelV y u → r x y H Q →
    wpAny (model X.prog X.w) X.A (f v u) (EP X pins σ Q) X.xe s
noncomputable def UnR (X : Cx) (f : Value → Sem Value) (r : V → Hp → VK → Prop) : Prop :=
  ∀ (pins : List (Addr × Obj)) (s : Shared) (σ : St) (H : Hp) (x : V) (v : Value) (Q : VK), Inv X pins σ H s → RelV x v → r x H Q →
    wpAny (model X.prog X.w) X.A (f v) (EP X pins σ Q) X.xe s
noncomputable def CallR (X : Cx) (f : Value) (r : List V → Hp → VK → Prop) : Prop :=
  ∀ (pins : List (Addr × Obj)) (s : Shared) (σ : St) (H : Hp) (xs : List V) (us : List Value) (Q : VK), Inv X pins σ H s → Vals xs us → r xs H Q →
    wpAny (model X.prog X.w) X.A (call f us) (EP X pins σ Q) X.xe s
noncomputable def TruR (X : Cx) (r : V → Hp → (Bool → Hp → Prop) → Prop) : Prop :=
  ∀ (pins : List (Addr × Obj)) (s : Shared) (σ : St) (H : Hp) (x : V) (v : Value) (Q : Bool → Hp → Prop), Inv X pins σ H s → RelV x v → r x H Q →
    wpAny (model X.prog X.w) X.A (truthy v) (TP X pins σ Q) X.xe s
noncomputable def tOp (r : R2) (ta tb : TE) : TE := fun σ H Q => ta σ H fun x H1 => tb σ H1 fun y H2 => r x y H2 Q
noncomputable def tUn (r : V → Hp → VK → Prop) (ta : TE) : TE := fun σ H Q => ta σ H fun x H1 => r x H1 Q
noncomputable def rI (C : Int → Int → Prop) (g : Int → Int → V) : R2 := fun x y H Q => ∃ i j, x = .int i ∧ y = .int j ∧ C i j ∧ Q (g i j) H
noncomputable def rI0 (g : Int → Int → V) : R2 := fun x y H Q => ∃ i j, x = .int i ∧ y = .int j ∧ Q (g i j) H
noncomputable def rU (g : Int → V) : V → Hp → VK → Prop := fun x H Q => ∃ i, x = .int i ∧ Q (g i) H
section
variable {X : Cx} {a b c : Expr} {ta tb tc : TE} {pos : Pos}
theorem binT (ha : PE X a ta) (hb : PE X b tb) {pins : List (Addr × Obj)} {s : Shared} {σ : St} {H : Hp} {R : V → V → Hp → Prop} (I : Inv X pins σ H s)
    (h : ta σ H fun x H1 => tb σ H1 fun y H2 => R x y H2) {Q : Value → Shared → Prop} {f : Value → Value → Sem Value}
    (hf : ∀ v u s2 x y H2, Inv X pins σ H2 s2 → RelV x v → RelV y u → R x y H2 → wpAny (model X.prog X.w) X.A (f v u) Q X.xe s2) :
    wpAny (model X.prog X.w) X.A (eval a X.env) (fun v s₁ => wpAny (model X.prog X.w) X.A (eval b X.env) (fun u s₂ => wpAny (model X.prog X.w) X.A (f v u) Q X.xe s₂) X.xe s₁) X.xe s := by
  refine thn (ha pins s σ H _ I h) fun v s1 ⟨x, H1, I1, r1, q1⟩ => ?_
  refine thn (hb pins s1 σ H1 _ I1 q1) fun u s2 ⟨y, H2, I2, r2, q2⟩ => ?_
  exact hf v u s2 x y H2 I2 r1 r2 q2
theorem pe_op {op : Operator} {r : R2} (ho : OpR X (binaryOp op) r) (ha : PE X a ta) (hb : PE X b tb) : PE X (.BinOp a op b pos) (tOp r ta tb) := by
  intro pins s σ H Q I h
  exact wpAny_BinOp (binT ha hb I h fun v u s2 x y H2 I2 rx ry q => ho pins s2 σ H2 x y v u Q I2 rx ry q)
theorem pe_un {op : UnaryOp} {r : V → Hp → VK → Prop} (ho : UnR X (unaryOp op) r) (ha : PE X a ta) : PE X (.UnaryOp op a pos) (tUn r ta) := by
  intro pins s σ H Q I h
  exact UnaryOp_ (thn (ha pins s σ H _ I h) fun v s1 ⟨x, H1, I1, r1, q1⟩ => ho pins s1 σ H1 x v Q I1 r1 q1)
theorem opI {f : Value → Value → Sem Value} {C : Int → Int → Prop} {g : Int → Int → Int}
    (rule : ∀ (i j : Int) (t u : Tok) (s : Shared) (Q : Value → Shared → Prop) (E : Value → Shared → Prop), C i j → Q (.int (g i j) s.toks) { s with toks := s.toks + 1 } → wpAny (model X.prog X.w) X.A (f (.int i t) (.int j u)) Q E s) :
    OpR X f (rI C fun i j => .int (g i j)) := by
  intro pins s σ H x y v u Q I rx ry h
  obtain ⟨i, j, rfl, rfl, hc, q⟩ := h
  obtain ⟨t, rfl⟩ := rx
  obtain ⟨t', rfl⟩ := ry
  exact rule i j t t' s _ _ hc ⟨.int (g i j), H, I.tok _, ⟨_, rfl⟩, q⟩
theorem opI0 {f : Value → Value → Sem Value} {g : Int → Int → Int}
    (rule : ∀ (i j : Int) (t u : Tok) (s : Shared) (Q : Value → Shared → Prop) (E : Value → Shared → Prop), Q (.int (g i j) s.toks) { s with toks := s.toks + 1 } → wpAny (model X.prog X.w) X.A (f (.int i t) (.int j u)) Q E s) :
    OpR X f (rI0 fun i j => .int (g i j)) := by
  intro pins s σ H x y v u Q I rx ry h
  obtain ⟨i, j, rfl, rfl, q⟩ := h
  obtain ⟨t, rfl⟩ := rx
  obtain ⟨t', rfl⟩ := ry
  exact rule i j t t' s _ _ ⟨.int (g i j), H, I.tok _, ⟨_, rfl⟩, q⟩
theorem opB0 {f : Value → Value → Sem Value} {g : Int → Int → Bool}
    (rule : ∀ (i j : Int) (t u : Tok) (s : Shared) (Q : Value → Shared → Prop) (E : Value → Shared → Prop), Q (.bool (g i j)) s → wpAny (model X.prog X.w) X.A (f (.int i t) (.int j u)) Q E s) :
    OpR X f (rI0 fun i j => .bl (g i j)) := by
  intro pins s σ H x y v u Q I rx ry h
  obtain ⟨i, j, rfl, rfl, q⟩ := h
  obtain ⟨t, rfl⟩ := rx
  obtain ⟨t', rfl⟩ := ry
  exact rule i j t t' s _ _ ⟨.bl (g i j), H, I, rfl, q⟩
noncomputable def CDiv (i j : Int) : Prop := 0 < j ∧ j < 1073741824
noncomputable def CDivN (i j : Int) : Prop := j ≠ 0 ∧ j.natAbs < 1073741824
noncomputable def CPow (i j : Int) : Prop := 0 ≤ j ∧ j ≤ 1000000 ∧ i.natAbs < 2 ^ 64
noncomputable def CMul (i j : Int) : Prop := (-(2 ^ 64) < i ∧ i < 2 ^ 64) ∨ (-(2 ^ 64) < j ∧ j < 2 ^ 64)
theorem CMul.ok {i j : Int} (h : CMul i j) : IntMulOk i j := by
  rcases h with ⟨h1, h2⟩ | ⟨h1, h2⟩
  · exact .of_left (intBits_le_64 h1 h2)
  · exact .of_right (intBits_le_64 h1 h2)
theorem op_add : OpR X (binaryOp .Add) (rI0 fun i j => .int (i + j)) := opI0 fun _ _ _ _ _ _ _ q => add_int q
theorem op_sub : OpR X (binaryOp .Sub) (rI0 fun i j => .int (i - j)) := opI0 fun _ _ _ _ _ _ _ q => sub_int q
theorem op_mul : OpR X (binaryOp .Mult) (rI CMul fun i j => .int (i * j)) := opI fun _ _ _ _ _ _ _ hc q => mul_int q hc.ok
theorem op_fdiv : OpR X (binaryOp .FloorDiv) (rI CDiv fun i j => .int (i / j)) := opI fun i j _ _ _ _ _ hc q => by
  have h1 : (0 : Int) < j := hc.1
  have h2 : j < 1073741824 := hc.2
  exact floordiv_int (by omega) (by rw [Int.fdiv_eq_ediv_of_nonneg i (by omega)]; exact q) (.inl (PyProof.noPylong_small (by omega)))
theorem op_mod : OpR X (binaryOp .Mod) (rI (fun _ j => 0 < j) fun i j => .int (i % j)) := opI fun i j _ _ _ _ _ hc q => by
  have h1 : (0 : Int) < j := hc
  exact mod_int' (by omega) (by rw [Int.fmod_eq_emod_of_nonneg i (by omega)]; exact q)
theorem unI {f : Value → Sem Value} {g : Int → Int}
    (rule : ∀ (i : Int) (t : Tok) (s : Shared) (Q : Value → Shared → Prop) (E : Value → Shared → Prop), Q (.int (g i) s.toks) { s with toks := s.toks + 1 } → wpAny (model X.prog X.w) X.A (f (.int i t)) Q E s) :
    UnR X f (rU fun i => .int (g i)) := by
  intro pins s σ H x v Q I rx h
  obtain ⟨i, rfl, q⟩ := h
  obtain ⟨t, rfl⟩ := rx
  exact rule i t s _ _ ⟨.int (g i), H, I.tok _, ⟨_, rfl⟩, q⟩
theorem un_neg : UnR X (unaryOp .USub) (rU fun i => .int (-i)) := unI fun _ _ _ _ _ q => neg_int q
end
noncomputable def scal : V → V → Bool
  | .non, .non => true | .non, .int _ => true | .int _, .non => true | .non, .bl _ => true | .bl _, .non => true | .non, .str _ => true | .str _, .non => true
  | .int _, .int _ => true | .bl _, .bl _ => true | .str _, .str _ => true | .byt _, .byt _ => true
  | .int _, .str _ => true | .str _, .int _ => true | .bl _, .str _ => true | .str _, .bl _ => true
  | _, _ => false
noncomputable def rEq : R2 := fun x y H Q => scal x y = true ∧ Q (.bl (decide (x = y))) H
noncomputable def rNe : R2 := fun x y H Q => scal x y = true ∧ Q (.bl (!decide (x = y))) H
section
variable {X : Cx} {a b c : Expr} {ta tb tc : TE} {pos : Pos}
theorem fin_bl {pins : List (Addr × Obj)} {σ : St} {H : Hp} {s : Shared} {Q : VK} {k k' : Bool} (I : Inv X pins σ H s) (q : Q (.bl k) H) (e : k = k') : EP X pins σ Q (.bool k') s := by
  subst e
  exact ⟨.bl k, H, I, rfl, q⟩
theorem op_lt : OpR X (compareOp .Lt) (rI0 fun i j => .bl (decide (i < j))) := opB0 fun _ _ _ _ _ _ _ q => lt_int q
theorem op_le : OpR X (compareOp .LtE) (rI0 fun i j => .bl (decide (i ≤ j))) := opB0 fun _ _ _ _ _ _ _ q => le_int q
theorem op_in_str : OpR X (compareOp .In) (fun x y H Q => ∃ i j, x = .str i ∧ y = .str j ∧ Q (.bl (!(Builtin.Str.occurrences j i 0 j.length 1).isEmpty)) H) := by
  intro pins s σ H x y v u Q I rx ry h
  obtain ⟨i, j, rfl, rfl, q⟩ := h
  obtain ⟨t, rfl⟩ := rx
  obtain ⟨t', rfl⟩ := ry
  exact in_str (fin_bl I q rfl)
theorem op_isN : OpR X (compareOp .Is) (fun x y H Q => y = .non ∧ Q (.bl (decide (x = .non))) H) := by
  intro pins s σ H x y v u Q I rx ry h
  obtain ⟨rfl, q⟩ := h
  cases ry
  refine is_none_gen (fin_bl I q ?_)
  cases x <;> first
    | (cases rx; rfl)
    | (obtain ⟨t, rfl⟩ := rx; rfl)
theorem op_notN : OpR X (compareOp .IsNot) (fun x y H Q => y = .non ∧ Q (.bl (!decide (x = .non))) H) := by
  intro pins s σ H x y v u Q I rx ry h
  obtain ⟨rfl, q⟩ := h
  cases ry
  refine isnot_none_gen (fin_bl I q ?_)
  cases x <;> first
    | (cases rx; rfl)
    | (obtain ⟨t, rfl⟩ := rx; rfl)
noncomputable def isObj : HO → Bool
  | .lst _ => true
  | .ins _ _ _ => true
  | _ => false
theorem OpR.or {f : Value → Value → Sem Value} {r r' : R2} (h : OpR X f r) (h' : OpR X f r') : OpR X f (fun x y H Q => r x y H Q ∨ r' x y H Q) := by
  intro pins s σ H x y v u Q I rx ry q
  rcases q with q | q
  · exact h pins s σ H x y v u Q I rx ry q
  · exact h' pins s σ H x y v u Q I rx ry q
theorem nomark (b : Expr) {op : CmpOp} (h : op ≠ .In := by decide) (h2 : op ≠ .NotIn := by decide) : behindInMarks op b = false := by
  have e1 : (op == CmpOp.In) = false := by cases op <;> first | rfl | exact absurd rfl h
  have e2 : (op == CmpOp.NotIn) = false := by cases op <;> first | rfl | exact absurd rfl h2
  cases b <;> simp [behindInMarks, e1, e2]
theorem pe_cmpR {op : CmpOp} {r : R2} (ho : OpR X (compareOp op) r) (ha : PE X a ta) (hb : PE X b tb) (hm : behindInMarks op b = false) : PE X (.Compare a [op] [b] pos) (tOp r ta tb) := by
  intro pins s σ H Q I h
  exact wpAny_Compare1 (binT ha hb I h fun v u s2 x y H2 I2 rx ry q => ho pins s2 σ H2 x y v u Q I2 rx ry q) hm
noncomputable def tTest (t : TE) : TT := fun σ H Q => t σ H fun x H' => ∃ k, x = .bl k ∧ Q k H'
theorem pt_cmpR {op : CmpOp} {r : R2} (ho : OpR X (compareOp op) r) (ha : PE X a ta) (hb : PE X b tb) (hm : behindInMarks op b = false) : PT X (.Compare a [op] [b] pos) (tTest (tOp r ta tb)) := by
  intro pins s σ H Q I h
  refine wpAny_isTrue_Compare1 (thn (ha pins s σ H _ I h) fun v s1 ⟨x, H1, I1, r1, q1⟩ => thn (hb pins s1 σ H1 _ I1 q1) fun u s2 ⟨y, H2, I2, r2, q2⟩ =>
    thn (ho pins s2 σ H2 x y v u _ I2 r1 r2 q2) fun c s3 ⟨z, H3, I3, r3, k, e, q3⟩ => ?_) hm
  subst e
  cases r3
  exact wpAny_truthy_bool ⟨H3, I3, q3⟩
noncomputable def tChain (r r' : R2) (ta tb tc : TE) : TE := fun σ H Q => ta σ H fun x H1 => tb σ H1 fun y H2 => r x y H2 fun z H3 => ∃ k, z = .bl k ∧
  (if k = true then tc σ H3 fun w' H4 => r' y w' H4 Q else Q (.bl false) H3)
theorem pe_chain {op op' : CmpOp} {r r' : R2} (ho : OpR X (compareOp op) r) (ho' : OpR X (compareOp op') r') (ha : PE X a ta) (hb : PE X b tb) (hc : PE X c tc)
    (hm : lastMarks [op, op'] [b, c] = false := by with_unfolding_all rfl) : PE X (.Compare a [op, op'] [b, c] pos) (tChain r r' ta tb tc) := by
  intro pins s σ H Q I h
  refine Compare_chain (thn (ha pins s σ H _ I h) fun v s1 ⟨x, H1, I1, r1, q1⟩ => chain_link (thn (hb pins s1 σ H1 _ I1 q1) fun u s2 ⟨y, H2, I2, r2, q2⟩ =>
    thn (ho pins s2 σ H2 x y v u _ I2 r1 r2 q2) fun d s3 ⟨z, H3, I3, r3, k, e, q3⟩ => ?_)) hm
  subst e
  cases r3
  refine wpAny_truthy_bool ?_
  cases k with
  | false => exact ite_ff ⟨.bl false, H3, I3, rfl, q3⟩
  | true => exact ite_tt (chain_last (thn (hc pins s3 σ H3 _ I3 q3) fun w' s4 ⟨z', H4, I4, r4, q4⟩ => ho' pins s4 σ H4 y z' u w' Q I4 r2 r4 q4))
theorem pt_chain {op op' : CmpOp} {r r' : R2} (ho : OpR X (compareOp op) r) (ho' : OpR X (compareOp op') r') (ha : PE X a ta) (hb : PE X b tb) (hc : PE X c tc)
    (hm : lastMarks [op, op'] [b, c] = false := by with_unfolding_all rfl) : PT X (.Compare a [op, op'] [b, c] pos) (tTest (tChain r r' ta tb tc)) := by
  intro pins s σ H Q I h
  refine isTrue_chain (thn (ha pins s σ H _ I h) fun v s1 ⟨x, H1, I1, r1, q1⟩ => test_link (thn (hb pins s1 σ H1 _ I1 q1) fun u s2 ⟨y, H2, I2, r2, q2⟩ =>
    thn (ho pins s2 σ H2 x y v u _ I2 r1 r2 q2) fun d s3 ⟨z, H3, I3, r3, k, e, q3⟩ => ?_)) hm
  subst e
  cases r3
  refine wpAny_truthy_bool ?_
  cases k with
  | false =>
    obtain ⟨k', e', q'⟩ := q3
    cases e'
    exact ite_ff ⟨H3, I3, q'⟩
  | true =>
    refine ite_tt (test_last (thn (hc pins s3 σ H3 _ I3 q3) fun w' s4 ⟨z', H4, I4, r4, q4⟩ => thn (ho' pins s4 σ H4 y z' u w' _ I4 r2 r4 q4) fun d' s5 ⟨z2, H5, I5, r5, k2, e2, q5⟩ => ?_))
    subst e2
    cases r5
    exact wpAny_truthy_bool ⟨H5, I5, q5⟩
noncomputable def TruV (K : PySem.W.Frag) (x : V) (H : Hp) (k : Bool) : Prop :=
  match x with
  | .non => k = false
  | .bl b => k = b
  | .int i => k = (i != 0)
  | .str y => y.length ≤ sizeLine ∧ k = ((y.length : Int) != 0)
  | .byt y => y.size ≤ sizeLine ∧ k = ((y.size : Int) != 0)
  | .ref p => (∃ xs, SqL K H p xs ∧ k = !xs.isEmpty) ∨ (∃ xs, SqT K H p xs ∧ k = !xs.isEmpty) ∨ ∃ kvs, H p = some (.dK kvs) ∧ k = !kvs.isEmpty
  | _ => False
theorem line63 : (sizeLine : Nat) < 2 ^ 63 := by rw [sizeLine_eq]; decide
theorem op_add_str : OpR X (binaryOp .Add) (fun x y H Q => ∃ i j, x = .str i ∧ y = .str j ∧ i.length + j.length ≤ sizeLine ∧ Q (.str (i ++ j)) H) := by
  intro pins s σ H x y v u Q I rx ry h
  obtain ⟨i, j, rfl, rfl, hz, q⟩ := h
  obtain ⟨t, rfl⟩ := rx
  obtain ⟨t', rfl⟩ := ry
  exact add_str (fun t' tk => ⟨.str (i ++ j), H, I.tok _, ⟨_, rfl⟩, q⟩) hz
noncomputable def PlainIxT (b : Expr) : Prop := ∀ o i, subscripted b false o i = operate [o, i] (getItem o i)
theorem vals1 {x : V} {us : List Value} (r : Vals [x] us) : ∃ u, us = [u] ∧ RelV x u := by
  cases r with
  | cons r1 r2 => cases r2; exact ⟨_, rfl, r1⟩
theorem vals2 {x y : V} {us : List Value} (r : Vals [x, y] us) : ∃ u w', us = [u, w'] ∧ RelV x u ∧ RelV y w' := by
  cases r with
  | cons r1 r2 =>
    cases r2 with
    | cons r3 r4 => cases r4; exact ⟨_, _, rfl, r1, r3⟩
theorem call_max2 (hc : X.calm = true) : CallR X (.builtin "max") (fun xs H Q => ∃ i j, xs = [.int i, .int j] ∧ Q (.int (if j > i then j else i)) H) := by
  intro pins s σ H xs us Q I r h
  obtain ⟨i, j, rfl, q⟩ := h
  obtain ⟨u, w', rfl, ⟨t, rfl⟩, ⟨t', rfl⟩⟩ := vals2 r
  refine max_two_ints (I.ok.hd hc) fun h' tk k => ⟨_, H, I.kept k, ?_, q⟩
  by_cases hj : j > i
  · rw [if_pos hj, if_pos hj]; exact ⟨_, rfl⟩
  · rw [if_neg hj, if_neg hj]; exact ⟨_, rfl⟩
theorem call_min2 (hc : X.calm = true) : CallR X (.builtin "min") (fun xs H Q => ∃ i j, xs = [.int i, .int j] ∧ Q (.int (if j < i then j else i)) H) := by
  intro pins s σ H xs us Q I r h
  obtain ⟨i, j, rfl, q⟩ := h
  obtain ⟨u, w', rfl, ⟨t, rfl⟩, ⟨t', rfl⟩⟩ := vals2 r
  refine min_two_ints (I.ok.hd hc) fun h' tk k => ⟨_, H, I.kept k, ?_, q⟩
  by_cases hj : j < i
  · rw [if_pos hj, if_pos hj]; exact ⟨_, rfl⟩
  · rw [if_neg hj, if_neg hj]; exact ⟨_, rfl⟩
noncomputable def LenV (K : PySem.W.Frag) (x : V) (H : Hp) (n : Nat) : Prop :=
  match x with
  | .str y => y.length ≤ sizeLine ∧ n = y.length
  | .byt y => y.size ≤ sizeLine ∧ n = y.size
  | .ref p => (∃ xs, SqL K H p xs ∧ n = xs.length) ∨ ∃ xs, SqT K H p xs ∧ n = xs.length
  | _ => False
end
end L2
namespace L2
open PySem PySem.Spec PyProof.Rows
structure ObjM (h : Heap) (x dx C : Addr) (mA : Str → Option Value) : Prop where
  obj : h.get? x = some (PySem.W.instObj C dx)
  ns : h.Ns1 dx mA
  ne : dx ≠ x
noncomputable def putF (f : Str) (v : V) : List (Str × V) → List (Str × V)
  | [] => [(f, v)]
  | (g, x) :: r => if g = f then (g, v) :: r else (g, x) :: putF f v r
structure Cls (K : PySem.W.Frag) (C : Addr) : Prop where
  pg : PySem.W.plainGet K C Str.empty = true
  hd : PySem.W.hasDictIn K C = true
  po : PySem.W.plainOver K C = true
  sa : PySem.W.findIn K (.ref C) "__setattr__" = some (some (.builtin "object.__setattr__"))
noncomputable def NoAttr (K : PySem.W.Frag) (C : Addr) (f : Str) : Prop := PySem.W.findIn K (.ref C) f = some none
structure Con (K : PySem.W.Frag) (C : Addr) (f : Str) (v : V) (u : Value) : Prop where
  at_ : PySem.W.findIn K (.ref C) f = some (some u)
  rel : RelV v u
  get : PySem.W.specialIn K u "__get__" = some none
  cp : PySem.W.copiedNames.contains f = false
structure Meth (K : PySem.W.Frag) (C : Addr) (m : Str) (f : Addr) : Prop where
  at_ : PySem.W.findIn K (.ref C) m = some (some (.ref f))
  fn : PySem.W.isFn K (.ref f) = true
  kp : PySem.W.keepIn K (.ref f) = true
noncomputable def tFld (K : PySem.W.Frag) (ta : TE) (f : Str) : TE := fun σ H Q => ta σ H fun x H1 => ∃ a C dx fs v, x = .ref a ∧ H1 a = some (.ins C dx fs) ∧ Cls K C ∧ NoAttr K C f ∧ fs.lookup f = some v ∧ Q v H1
noncomputable def tCon (K : PySem.W.Frag) (ta : TE) (f : Str) : TE := fun σ H Q => ta σ H fun x H1 => ∃ a C dx fs v u, x = .ref a ∧ H1 a = some (.ins C dx fs) ∧ Cls K C ∧ Con K C f v u ∧ fs.lookup f = none ∧ Q v H1
noncomputable def sFld (K : PySem.W.Frag) (ta tv : TE) (f : Str) : TS := fun D σ H => tv σ H fun y H1 => ta σ H1 fun x H2 => ∃ a C dx fs, x = .ref a ∧ H2 a = some (.ins C dx fs) ∧ Cls K C ∧ NoAttr K C f ∧ fs.length < 1000 ∧
  D.nx σ (upd H2 a (.ins C dx (putF f y fs)))
noncomputable def InOp (X : Cx) (op : Operator) (rd : V → V → Hp → VK → Prop) : Prop :=
  ∀ (pins : List (Addr × Obj)) (s : Shared) (σ : St) (H : Hp) (x y : V) (u v : Value) (Q : VK), Inv X pins σ H s → RelV x u → RelV y v → rd x y H Q → wpAny (model X.prog X.w) X.A (inplaceOp op u v) (EP X pins σ Q) X.xe s
noncomputable def sFldAug (K : PySem.W.Frag) (ta tv : TE) (rd : V → V → Hp → VK → Prop) (f : Str) : TS := fun D σ H => ta σ H fun x H1 => ∃ a C dx fs v, x = .ref a ∧ H1 a = some (.ins C dx fs) ∧ Cls K C ∧ NoAttr K C f ∧ fs.lookup f = some v ∧
  tv σ H1 fun y H2 => rd v y H2 fun z H3 => ∃ dx' fs', H3 a = some (.ins C dx' fs') ∧ fs'.length < 1000 ∧ D.nx σ (upd H3 a (.ins C dx' (putF f z fs')))
section
variable {X : Cx} {o e value : Expr} {f : Str} {pos pos' tpos : Pos} {ta tv : TE}
noncomputable def rAdd : V → V → Hp → VK → Prop := fun x y H Q => ∃ i j, x = .int i ∧ y = .int j ∧ Q (.int (i + j)) H
noncomputable def rSub : V → V → Hp → VK → Prop := fun x y H Q => ∃ i j, x = .int i ∧ y = .int j ∧ Q (.int (i - j)) H
end
section
variable {X : Cx} {pins : List (Addr × Obj)} {σ : St} {H : Hp} {s : Shared} {A : Around} {E : Value → Shared → Prop} {Q : Value → Shared → Prop} {c : Value} {b : Bool}
inductive TyOf (K : PySem.W.Frag) (H : Hp) : V → Value → Prop where
  | non : TyOf K H .non (.type "NoneType")
  | bl (x : Bool) : TyOf K H (.bl x) (.type "bool")
  | int (i : Int) : TyOf K H (.int i) (.type "int")
  | str (x : Str) : TyOf K H (.str x) (.type "str")
  | flt (x : UInt64) : TyOf K H (.flt x) (.type "float")
  | lst {a : Addr} {xs : List V} (e : H a = some (.lst xs)) : TyOf K H (.ref a) (.type "list")
  | frz {a : Addr} {o : Obj} {xs : List V} (e : H a = some (.frz o (.lst xs))) : TyOf K H (.ref a) (.type "list")
  | tup {a : Addr} {xs : List V} (e : H a = some (.tup xs)) : TyOf K H (.ref a) (.type "tuple")
  | dK {a : Addr} {kvs : List (Key × V)} (e : H a = some (.dK kvs)) : TyOf K H (.ref a) (.type "dict")
  | dT {a : Addr} {kvs : List (List Key × V)} (e : H a = some (.dT kvs)) : TyOf K H (.ref a) (.type "dict")
  | ins {a C dx : Addr} {fs : List (Str × V)} (e : H a = some (.ins C dx fs)) (cl : Cls K C) (ha : PySem.W.findIn K (.ref C) "__class__" = some (some (.builtin "object.__class__")))
      (hn : PySem.W.specialIn K (.builtin "object.__class__") "__get__" = some (some (.builtin "getset_descriptor.__get__"))) (htk : PySem.W.takesIn K (.builtin "object.__class__") = some true)
      (hm : PySem.W.mroIn K C (.type "object") = some true) : TyOf K H (.ref a) (.ref C)
end
end L2
namespace L2
open PySem PySem.Spec PyProof.Rows
structure Room (k : Nat) (A : Around) : Prop where
  hd : A.handled = none
  dp : A.depth + 3 * k + 5 < recursionLimit
  un : A.units + 16 * k + 200 < cLine
theorem Room.mono {j k : Nat} {A : Around} (r : Room k A) (h : j ≤ k) : Room j A := ⟨r.hd, by have := r.dp; omega, by have := r.un; omega⟩
theorem Room.deeper {k : Nat} {A : Around} (r : Room (k + 1) A) (env : Env) : Room k (A.deeper env) :=
  ⟨r.hd, by have := r.dp; show A.depth + 1 + 3 * k + 5 < _; omega, by have := r.un; show A.units + 3 + 16 * k + 200 < _; omega⟩
theorem Room.depth {k : Nat} {A : Around} (r : Room k A) : A.depth < recursionLimit := by have := r.dp; omega
theorem Room.units {k : Nat} {A : Around} (r : Room k A) : A.units + 64 < cLine := by have := r.un; omega
noncomputable def tNil : TA := fun _ H Q => Q [] H
noncomputable def tCons (ta : TE) (tr : TA) : TA := fun σ H Q => ta σ H fun x H1 => tr σ H1 fun xs H2 => Q (x :: xs) H2
section
variable {X : Cx} {e : Expr} {es : List Expr} {te : TE} {t : TA} {pos : Pos}
theorem pa_nil : PA X [] tNil := fun _ _ _ _ H Q I h => Calls.spliced_nil ⟨[], H, I, .nil, h⟩
theorem pa_cons (ha : PE X e te) (hr : PA X es t) (hs : starEach (e :: es) X.env = (false, eval e X.env) :: starEach es X.env := by rfl) : PA X (e :: es) (tCons te t) := by
  intro pos pins s σ H Q I h
  rw [hs]
  show wpAny _ _ (spliced ((false, eval e X.env) :: backTo pos (starEach es X.env))) _ _ s
  refine Calls.spliced_cons (thn (ha pins s σ H _ I h) fun u s1 ⟨x, H1, I1, r1, q1⟩ => ?_)
  exact thn (hr pos pins s1 σ H1 _ I1 q1) fun us s2 ⟨xs, H2, I2, r2, q2⟩ => ⟨x :: xs, H2, I2, .cons r1 r2, q2⟩
noncomputable def tTup (t : TA) : TE := fun σ H Q => t σ H fun xs H1 => xs.length ≤ sizeLine ∧ ∀ p, H1 p = none → Q (.ref p) (upd H1 p (.tup xs))
noncomputable def tLst (t : TA) : TE := fun σ H Q => t σ H fun xs H1 => xs.length ≤ sizeLine ∧ ∀ p, H1 p = none → Q (.ref p) (upd H1 p (.lst xs))
theorem pe_tup {x1} (h : PA X es t) : PE X (.Tuple es x1 pos) (tTup t) := by
  intro pins s σ H Q I hq
  refine wpAny_Tuple_spliced (thn (h pos pins s σ H _ I hq) fun us s1 ⟨xs, H1, I1, r, z, q⟩ => ⟨by rw [← r.length]; exact z, ?_⟩)
  have hf : H1 s1.heap.objs.size = none := I1.hok.fresh (Nat.le_refl _)
  refine ⟨.ref s1.heap.objs.size, upd H1 s1.heap.objs.size (.tup xs), I1.laid (t' := s1.toks) (fun b u e => Heap.get?_push_of_some _ e) (Nat.le_refl _) ?_, rfl, q _ hf⟩
  exact ⟨z, us, r, ⟨_, Heap.get?_push_size _ rfl, rfl, _, rfl⟩⟩
theorem pe_lst (h : PA X es t) : PE X (.List es pos) (tLst t) := by
  intro pins s σ H Q I hq
  refine wpAny_List_spliced (thn (h pos pins s σ H _ I hq) fun us s1 ⟨xs, H1, I1, r, z, q⟩ => ⟨by rw [← r.length]; exact z, ?_⟩)
  have hf : H1 s1.heap.objs.size = none := I1.hok.fresh (Nat.le_refl _)
  refine ⟨.ref s1.heap.objs.size, upd H1 s1.heap.objs.size (.lst xs), I1.laid (t' := s1.toks) (fun b u e => Heap.get?_push_of_some _ e) (Nat.le_refl _) ?_, rfl, q _ hf⟩
  exact ⟨z, us, 0, r, Heap.get?_push_size _ rfl⟩
end
noncomputable abbrev Sp := List V → Hp → VK → XK → Prop
noncomputable abbrev CXT := List Env → Hp → Shared → XK → Value → Shared → Prop
structure Env0 (P : Program) (w : World) (K : PySem.W.Frag) (mg : Str → Option Value) (base : Heap) (A : Around) (outer : List Env) (s : Shared) (H : Hp) : Prop where
  frames : A.frames = some outer
  mod : Mod K mg base
  bs : ∀ b o, base.get? b = some o → s.heap.get? b = some o ∧ H b = none
  bsz : base.objs.size ≤ s.heap.objs.size
  funs : s.heap.FunFrames base outer
  frf : ∀ b ∈ frs outer, H b = none
  hok : HOk P w H s.heap
  bare : AllBare s.gens
noncomputable def CE (outer : List Env) (P : Program) (w : World) (H : Hp) (s : Shared) (Q : VK) (u : Value) (s' : Shared) : Prop :=
  ∃ v H', s'.os = s.os ∧ AllBare s'.gens ∧ Un (frs outer) [] H H' s.heap s'.heap ∧ HOk P w H' s'.heap ∧ RelV v u ∧ Q v H'
noncomputable def CR (CX : CXT) (outer : List Env) (P : Program) (w : World) (H : Hp) (s : Shared) (Q : VK) (E : XK) (r : Result) (s' : Shared) : Prop :=
  match r with
  | .ok (.ret u) => CE outer P w H s Q u s'
  | .ok _ => False
  | .error e => CX outer H s E e s'
structure FnOk (P : Program) (w : World) (K : PySem.W.Frag) (mg : Str → Option Value) (base : Heap) (CX : CXT) (k : Nat) (f : Addr) (fd : FuncData) (ps : List Str) (sp : Sp) : Prop where
  len : ∀ vs H Q E, sp vs H Q E → vs.length = ps.length
  run : ∀ (A : Around) (outer : List Env) (s : Shared) (H : Hp) (args : Args) (us : List Value) (vs : List V) (Q : VK) (E : XK), Room k A → Env0 P w K mg base A outer s H → BindsTo s fd args (ps.zip us) → Vals vs us → sp vs H Q E →
    codeAny (model P w) A (.call (.ref f) args) (CR CX outer P w H s Q E) s
theorem FnOk.mono {P : Program} {w : World} {K : PySem.W.Frag} {mg : Str → Option Value} {base : Heap} {CX : CXT} {j k : Nat} {f : Addr} {fd : FuncData} {ps : List Str} {sp : Sp} (F : FnOk P w K mg base CX j f fd ps sp) (h : j ≤ k) :
    FnOk P w K mg base CX k f fd ps sp := ⟨F.len, fun A outer s H args us vs Q E hr => F.run A outer s H args us vs Q E (hr.mono h)⟩
section
variable {X : Cx} {pins : List (Addr × Obj)} {σ : St} {H : Hp} {s s' : Shared}
theorem Inv.env0 (I : Inv X pins σ H s) : Env0 X.prog X.w X.K X.mg X.base X.A X.stack s H :=
  ⟨I.ok.frames, I.ok.mod, I.bs, Nat.le_trans I.ok.bsz I.sz, I.stack, I.stkFree, I.hok, I.bare⟩
theorem Inv.after {Q : VK} {u : Value} (I : Inv X pins σ H s) (h : CE X.stack X.prog X.w H s Q u s') : EP X pins σ Q u s' := by
  obtain ⟨v, H', os, bare, un, hok, r, q⟩ := h
  obtain ⟨hh, g, d, t, os'⟩ := s'
  obtain rfl : os' = s.os := os
  exact ⟨v, H', I.call (h' := hh) (g' := g) (d' := d) (t' := t) (ch := []) un hok bare (fun b z => absurd z (by simp)), r, q⟩
end
noncomputable def tCall (sp : Sp) (dvs : List V) (E : XK) (t : TA) : TE := fun σ H Q => t σ H fun vs H1 => sp (vs ++ dvs) H1 Q E
noncomputable def tMeth (C : Addr) (m : Str) (sp : Sp) (dvs : List V) (E : XK) (ta : TE) (t : TA) : TE := fun σ H Q => ta σ H fun x H1 => ∃ a dx fs, x = .ref a ∧ H1 a = some (.ins C dx fs) ∧ fs.lookup m = none ∧
  t σ H1 fun vs H2 => sp (x :: (vs ++ dvs)) H2 Q E
noncomputable def tMake (C : Addr) (sp : Sp) (dvs : List V) (E : XK) (t : TA) : TE := fun σ H Q => t σ H fun vs H1 => ∀ x dx, H1 x = none → H1 dx = none → dx ≠ x →
  sp (.ref x :: (vs ++ dvs)) (upd (upd H1 dx (.own x)) x (.ins C dx [])) (fun v H2 => v = .non ∧ Q (.ref x) H2) E
noncomputable def Binds (K : PySem.W.Frag) (fd : FuncData) (ps : List Str) (ds : List Value) : Prop :=
  ∀ (s : Shared) (us : List Value), K.In s.heap → (us ++ ds).length = ps.length → BindsTo s fd ⟨us, []⟩ (ps.zip (us ++ ds))
theorem Binds.all {K : PySem.W.Frag} {fd : FuncData} {ps : List Str} (h : ∀ us : List Value, us.length = ps.length → bindArgs fd ⟨us, []⟩ = pure (ps.zip us)) : Binds K fd ps [] := fun s us _ hl => by
  rw [List.append_nil] at hl ⊢
  exact .of_eq (h us hl)
noncomputable def Passes (CX : CXT) (X : Cx) (E : XK) : Prop := ∀ (pins : List (Addr × Obj)) (σ : St) (H : Hp) (s : Shared) (e : Value) (s' : Shared), Inv X pins σ H s → CX X.stack H s E e s' → X.xe e s'
section
variable {X : Cx} {CX : CXT} {k : Nat} {f C : Addr} {fd : FuncData} {ps : List Str} {sp : Sp} {dvs : List V} {ds : List Value} {E : XK} {x m : Str} {p pos apos : Pos} {e o : Expr} {es : List Expr} {ta : TE} {t : TA}
theorem run_fn {pins : List (Addr × Obj)} {σ : St} {H : Hp} {s : Shared} {Q : VK} {us : List Value} {vs : List V} (F : FnOk X.prog X.w X.K X.mg X.base CX k f fd ps sp) (hr : Room k X.A) (hb : Binds X.K fd ps ds) (hd : Vals dvs ds) (hx : Passes CX X E)
    (I : Inv X pins σ H s) (r : Vals vs us) (h : sp (vs ++ dvs) H Q E) : wpAny (model X.prog X.w) X.A (call (.ref f) us) (EP X pins σ Q) X.xe s := by
  have r2 : Vals (vs ++ dvs) (us ++ ds) := r.append hd
  have hl : (us ++ ds).length = ps.length := by rw [← r2.length]; exact F.len _ _ _ _ h
  refine wpAny_call (codeAny_mono (F.run X.A X.stack s H ⟨us, []⟩ (us ++ ds) (vs ++ dvs) Q E hr I.env0 (hb s us I.kIn hl) r2 h) fun r s' hq => ?_)
  cases r with
  | error e => exact hx pins σ H s e s' I hq
  | ok fl =>
    cases fl with
    | ret u => exact I.after hq
    | next => exact False.elim hq
    | brk => exact False.elim hq
    | cont => exact False.elim hq
theorem pe_call (F : FnOk X.prog X.w X.K X.mg X.base CX k f fd ps sp) (hr : Room k X.A) (hg : Gl X x) (hm : X.mg x = some (.ref f)) (hk : PySem.W.keepIn X.K (.ref f) = true) (hb : Binds X.K fd ps ds) (hd : Vals dvs ds) (hx : Passes CX X E)
    (ha : PA X (e :: es) t) (hdb : (x == ("__debug__" : Str)) = false := by decide) (he : starEach (e :: es) X.env = (false, eval e X.env) :: starEach es X.env := by rfl) (hpl : (backTo pos (starEach es X.env)).any (·.1) = false := by rfl) :
    PE X (.Call (.Name x p) (e :: es) [] pos) (tCall sp dvs E t) := by
  intro pins s σ H Q I h
  refine wpAny_Call_Name_kw (ld_glob I hg hm ?_ hdb)
  refine PySem.W.callWith_K (h₀ := X.base) I.ok.mod.kin hk (thn (ha pos pins s σ H _ I h) fun us s1 ⟨vs, H1, I1, r, q⟩ => ⟨I1.kIn, ?_⟩) he hpl
  exact run_fn F hr hb hd hx I1 r q
structure Mk (K : PySem.W.Frag) (C f : Addr) : Prop where
  makes : PySem.W.makesIn K C = true
  init : PySem.W.findIn K (.ref C) "__init__" = some (some (.ref f))
  fn : PySem.W.isFn K (.ref f) = true
  kp : PySem.W.keepIn K (.ref C) = true
end
noncomputable def PK (X : Cx) (kws : List Keyword) (t : TA) : Prop :=
  ∀ (pos : Pos) (pins : List (Addr × Obj)) (s : Shared) (σ : St) (H : Hp) (Q : List V → Hp → Prop), Inv X pins σ H s → t σ H Q → wpAny (model X.prog X.w) X.A (evalAll ((backToKw pos (keywordEach kws X.env)).map (·.2))) (AP X pins σ Q) X.xe s
section
variable {X : Cx} {CX : CXT} {k : Nat} {f C : Addr} {fd : FuncData} {ps ks : List Str} {sp : Sp} {E : XK} {x m : Str} {p pos apos kpos : Pos} {e o : Expr} {es : List Expr} {kws : List Keyword} {te ta : TE} {t tk : TA} {nm : Option Str}
structure KBinds (K : PySem.W.Frag) (fd : FuncData) (ps ks : List Str) (g : List Value → List Value → List Value) (gV : List V → List V → List V) : Prop where
  to : ∀ (s : Shared) (us ws : List Value), K.In s.heap → (g us ws).length = ps.length → BindsTo s fd ⟨us, ks.zip ws⟩ (ps.zip (g us ws))
  rel : ∀ {vs : List V} {us : List Value} {zs : List V} {ws : List Value}, Vals vs us → Vals zs ws → Vals (gV vs zs) (g us ws)
noncomputable def tCallK (sp : Sp) (gV : List V → List V → List V) (E : XK) (t tk : TA) : TE := fun σ H Q => t σ H fun vs H1 => tk σ H1 fun zs H2 => sp (gV vs zs) H2 Q E
variable {g : List Value → List Value → List Value} {gV : List V → List V → List V}
end
structure FnScope (N P : List Str) (sc : Scope) : Prop where
  kind : sc.kind = .function
  co : sc.isCoroutine = false
  gen : sc.isGenerator = false
  nd : N.Nodup
  pre : N.take P.length = P
  par : ∀ x ∈ P, sc.names.lookup x = some .local ∨ sc.names.lookup x = some .cell
  nofree : ∀ y ∈ sc.names, y.2 ≠ .free
theorem bindL_out {kindOf : Str → Option NameKind} {x : Str} : ∀ {binds : List (Str × Value)} {m : Str → Option Value}, (∀ v, (x, v) ∉ binds) → bindL kindOf binds m x = m x
  | [], _, _ => rfl
  | (n, v) :: r, m, h => by
    unfold bindL
    rw [bindL_out fun w hw => h w (List.mem_cons_of_mem _ hw)]
    split
    · have : x ≠ n := by rintro rfl; exact h v List.mem_cons_self
      simp [this]
    · rfl
theorem bindC_out {kindOf : Str → Option NameKind} {x : Str} : ∀ {binds : List (Str × Value)} {m : Str → Option Value}, (∀ v, (x, v) ∉ binds) → bindC kindOf binds m x = m x
  | [], _, _ => rfl
  | (n, v) :: r, m, h => by
    unfold bindC
    rw [bindC_out fun w hw => h w (List.mem_cons_of_mem _ hw)]
    split
    · rfl
    · have : x ≠ n := by rintro rfl; exact h v List.mem_cons_self
      simp [this]
theorem bindL_get {kindOf : Str → Option NameKind} {x : Str} {v : Value} : ∀ {P : List Str} {vs : List Value} {i : Nat} {m : Str → Option Value}, P.Nodup → P[i]? = some x → vs[i]? = some v → kindOf x = some .local →
    bindL kindOf (P.zip vs) m x = some v
  | [], _, _, _, _, h, _, _ => by simp at h
  | _ :: _, [], _, _, _, _, h, _ => by simp at h
  | p :: P, w :: vs, 0, m, nd, h1, h2, hk => by
    simp at h1 h2; subst h1; subst h2
    show bindL kindOf ((p, w) :: P.zip vs) m p = _
    unfold bindL
    rw [bindL_out fun v hv => (List.nodup_cons.mp nd).1 (List.of_mem_zip hv).1, if_pos hk]
    simp
  | p :: P, w :: vs, i + 1, m, nd, h1, h2, hk => by
    show bindL kindOf ((p, w) :: P.zip vs) m x = _
    unfold bindL
    exact bindL_get (i := i) (List.nodup_cons.mp nd).2 (by simpa using h1) (by simpa using h2) hk
theorem bindC_get {kindOf : Str → Option NameKind} {x : Str} {v : Value} : ∀ {P : List Str} {vs : List Value} {i : Nat} {m : Str → Option Value}, P.Nodup → P[i]? = some x → vs[i]? = some v → kindOf x ≠ some .local →
    bindC kindOf (P.zip vs) m x = some v
  | [], _, _, _, _, h, _, _ => by simp at h
  | _ :: _, [], _, _, _, _, h, _ => by simp at h
  | p :: P, w :: vs, 0, m, nd, h1, h2, hk => by
    simp at h1 h2; subst h1; subst h2
    show bindC kindOf ((p, w) :: P.zip vs) m p = _
    unfold bindC
    rw [bindC_out fun v hv => (List.nodup_cons.mp nd).1 (List.of_mem_zip hv).1, if_neg hk]
    simp
  | p :: P, w :: vs, i + 1, m, nd, h1, h2, hk => by
    show bindC kindOf ((p, w) :: P.zip vs) m x = _
    unfold bindC
    exact bindC_get (i := i) (List.nodup_cons.mp nd).2 (by simpa using h1) (by simpa using h2) hk
noncomputable def start (N : List Str) (vs : List V) : St := vs.map some ++ List.replicate (N.length - vs.length) none
noncomputable def cxOf (CX : CXT) (P : Program) (w : World) (K : PySem.W.Frag) (mg : Str → Option Value) (base : Heap) (N : List Str) (qual : Str) (scope : Scope) (f : Addr) (cd : Value) (A : Around) (outer : List Env) (s : Shared) (H : Hp) (E : XK) : Cx where
  prog := P
  w := w
  K := K
  mg := mg
  base := base
  A := A.deeper (envOfC qual scope s.heap.objs.size f cd)
  N := N
  s₀ := s
  H₀ := H
  env := envOfC qual scope s.heap.objs.size f cd
  outer := outer
  stack := envOfC qual scope s.heap.objs.size f cd :: outer
  ex := []
  calm := true
  fn := fun _ => true
  pn := []
  xe := fun e s' => wpAny (model P w) (A.deeper (envOfC qual scope s.heap.objs.size f cd)) (leaving (envOfC qual scope s.heap.objs.size f cd) e) (fun _ s'' => CX outer H s E e s'') (fun e' s'' => CX outer H s E e' s'') s'
theorem cell_has {sc : Scope} {n : Nat} {x : Str} (h : sc.names.lookup x = some .cell) : ∃ c, (cellsFrom n sc.names []).lookup x = some c := by
  have q := PySem.W.cellsFrom_some sc.names n [] (.inl h)
  exact Option.isSome_iff_exists.mp q
theorem inv_start {CX : CXT} {P : Program} {w : World} {K : PySem.W.Frag} {mg : Str → Option Value} {base : Heap} {N ps : List Str} {qual : Str} {scope : Scope} {f : Addr} {cd : Value} {A : Around} {outer : List Env} {s s1 : Shared} {H : Hp} {E : XK} {us : List Value} {vs : List V}
    (S : FnScope N ps scope) (hd : A.handled = none) (e0 : Env0 P w K mg base A outer s H) (hl : vs.length = ps.length) (r : Vals vs us)
    (x : InCallC s s.heap.objs.size (bindL (envOfC qual scope s.heap.objs.size f cd).kindOf (ps.zip us) fun _ => none) (cellsFrom (s.heap.objs.size + 1) scope.names []) (bindC (envOfC qual scope s.heap.objs.size f cd).kindOf (ps.zip us) fun _ => none) s1) :
    Inv (cxOf CX P w K mg base N qual scope f cd A outer s H E) [] (start N vs) H s1 := by
  have hpl : ps.length ≤ N.length := by have := congrArg List.length S.pre; rw [List.length_take] at this; omega
  obtain ⟨h1, tk, rfl, hk⟩ := x.done
  have noA : ∀ b : Addr, b ∉ (cxOf CX P w K mg base N qual scope f cd A outer s H E).ex := fun b z => absurd (show b ∈ ([] : List Addr) from z) (by simp)
  refine ⟨⟨e0.mod, S.kind, rfl, rfl, Nat.le_refl _, fun y z c h1 h2 => ?_, fun y hy => ?_, fun y c _ h => ?_, fun _ => hd, Around.frames_deeper e0.frames, .inr ⟨rfl, rfl⟩, fun b z => absurd z (noA b), e0.bs, e0.bsz, fun b _ _ => noA b, fun b z => absurd z (noA b), e0.funs, e0.frf⟩,
    rfl, e0.bare, Un.kept hk, ⟨_, x.toInCall.ns, fun i y v h1 h2 h3 => ?_⟩, fun y c h => ⟨_, x.cell y c h⟩, e0.hok.fresh (Nat.le_refl _), fun y c h => ?_, fun p hp => absurd (show p ∈ ([] : List (Addr × Obj)) from hp) (by simp), e0.hok.kept hk, ?_⟩
  · exact name_of_addr x.apart (PySem.mem_of_lookup h1) (PySem.mem_of_lookup h2)
  · have hy : scope.names.lookup y = some .cell ∨ scope.names.lookup y = some .free := hy
    rcases hy with hy | hy
    · exact cell_has hy
    · exact absurd rfl (S.nofree _ (PySem.mem_of_lookup hy))
  · exact Nat.le_of_lt (x.above y c (PySem.mem_of_lookup h))
  · have hi : i < vs.length := by
      unfold start at h2
      by_cases hi : i < vs.length
      · exact hi
      · rw [List.getElem?_append_right (by simpa using hi)] at h2
        rw [List.getElem?_replicate] at h2
        split at h2 <;> cases h2
    have ha : vs[i]? = some v := by
      unfold start at h2
      rw [List.getElem?_append_left (by simpa using hi), List.getElem?_map] at h2
      cases e : vs[i]? with
      | none => rw [e] at h2; cases h2
      | some a => rw [e] at h2; cases h2; rfl
    obtain ⟨u, hu, rv⟩ := r.get ha
    have hp : ps[i]? = some y := by
      rw [← S.pre, List.getElem?_take_of_lt (by omega)]; exact h1
    have ndP : ps.Nodup := by rw [← S.pre]; exact S.nd.sublist (List.take_sublist _ _)
    refine ⟨u, rv, ?_⟩
    rcases S.par y (List.mem_of_getElem? hp) with k | k
    · exact .inl ⟨k, bindL_get ndP hp hu k⟩
    · obtain ⟨c, e⟩ := cell_has (n := s.heap.objs.size + 1) k
      refine .inr ⟨.inl k, c, e, ?_⟩
      have q := x.cell y c e
      rw [bindC_get ndP hp hu (by show scope.names.lookup y ≠ _; rw [k]; decide)] at q
      exact q
  · exact e0.hok.fresh (Nat.le_of_lt (x.above y c (PySem.mem_of_lookup h)))
  · unfold start
    show _ = N.length
    rw [List.length_append, List.length_map, List.length_replicate]
    omega
theorem fn_of {CX : CXT} {P : Program} {w : World} {K : PySem.W.Frag} {mg : Str → Option Value} {base : Heap} {k : Nat} {f : Addr} {name qual : Str} {params : Arguments} {body : List Stmt} {scope : Scope} {dV kV doc pm cdv ct oc : Value} {an od : Option Addr}
    {osl : Array (Option Value)} {N ps : List Str} {sp : Sp} (lk : K.lookup f = some ⟨oc, od, .func (PySem.W.fnOf name qual params body scope dV kV doc pm an cdv ct), osl⟩) (hcd : PySem.W.codeIn K cdv qual = true) (S : FnScope N ps scope)
    (len : ∀ vs H Q E, sp vs H Q E → vs.length = ps.length)
    (hbody : ∀ (A : Around) (outer : List Env) (s : Shared) (H : Hp) (vs : List V) (Q : VK) (E : XK), Room k (A.deeper (envOfC qual scope s.heap.objs.size f cdv)) → sp vs H Q E →
      ∃ t, PSs (cxOf CX P w K mg base N qual scope f cdv A outer s H E) body t ∧ t { nx := fun _ H' => Q .non H', rt := Q } (start N vs) H) :
    FnOk P w K mg base CX (k + 1) f (PySem.W.fnOf name qual params body scope dV kV doc pm an cdv ct) ps sp := by
  refine ⟨len, fun A outer s H args us vs Q E hr e0 hb r hsp => ?_⟩
  have hl := len _ _ _ _ hsp
  have KX : K.In s.heap := e0.mod.kin.keeps fun b o e => (e0.bs b o e).1
  have lim : s.heap.NoLimit := e0.mod.nolimit.keeps fun b o e => (e0.bs b o e).1
  have hkind : ∀ y ∈ ps.zip us, scope.names.lookup y.1 = some .local ∨ (scope.names.lookup y.1 = some .cell ∧ ((cellsFrom (s.heap.objs.size + 1) scope.names []).lookup y.1).isSome = true) := fun ⟨n, v⟩ hy => by
    rcases S.par n (List.of_mem_zip hy).1 with q | q
    · exact .inl q
    · exact .inr ⟨q, PySem.W.cellsFrom_some _ _ _ (.inl q)⟩
  refine codeAny_call_function hr.depth (KX _ _ lk) rfl S.co S.gen rfl (PySem.W.codeRec_of KX hcd) (hb _ _ _ _ ?_)
  refine wpAny_newFunctionEnv_cells S.kind hkind fun env he s1 x => ?_
  subst he
  refine ⟨lim.keeps x.toInCall.keep, codeAny_func ?_⟩
  obtain ⟨t, ht, hq⟩ := hbody A outer s H vs Q E (hr.deeper _) hsp
  have I : Inv (cxOf CX P w K mg base N qual scope f cdv A outer s H E) [] (start N vs) H s1 := inv_start S hr.hd e0 hl r x
  refine wpAny_mono (ht [] s1 (start N vs) H _ I hq) (fun fl s' hs => ?_) fun e s' hs => hs
  have fin : ∀ {σ' : St} {H' : Hp} {v : V} {u : Value}, Inv (cxOf CX P w K mg base N qual scope f cdv A outer s H E) [] σ' H' s' → RelV v u → Q v H' → CE outer P w H s Q u s' :=
    fun {σ' H' v u} J rv q => ⟨v, H', J.os, J.bare, J.base, J.hok, rv, q⟩
  cases fl with
  | ret u =>
    obtain ⟨v, σ', H', J, rv, q⟩ := hs
    exact fin J rv q
  | next =>
    obtain ⟨σ', H', J, q⟩ := hs
    exact fin (v := V.non) (u := Value.none) J rfl q
  | brk =>
    obtain ⟨_, _, _, q⟩ := hs
    exact False.elim q
  | cont =>
    obtain ⟨_, _, _, q⟩ := hs
    exact False.elim q
end L2
namespace L2
open PySem PySem.Spec PyProof.Rows
section
variable {X : Cx} {x : Str} {p pos : Pos} {e : Expr} {es : List Expr} {t : TA} {id T : String} {r : List V → Hp → VK → Prop}
noncomputable def tCB (r : List V → Hp → VK → Prop) (t : TA) : TE := fun σ H Q => t σ H fun vs H1 => r vs H1 Q
theorem pe_callB (hc : CallR X (.builtin id) r) (hg : Gl X x) (hm : X.mg x = none) (hv : bootBuiltins x = some (.builtin id)) (ha : PA X (e :: es) t) (hn : x ≠ "__name__" := by decide) (hdb : (x == ("__debug__" : Str)) = false := by decide)
    (he : starEach (e :: es) X.env = (false, eval e X.env) :: starEach es X.env := by rfl) (hpl : (backTo pos (starEach es X.env)).any (·.1) = false := by rfl) : PE X (.Call (.Name x p) (e :: es) [] pos) (tCB r t) := by
  intro pins s σ H Q I h
  refine wpAny_Call_Name_kw (ld_blt I hg hm hv ?_ hn hdb)
  exact PyProof.Rows.callWith_builtin1 (thn (ha pos pins s σ H _ I h) fun us s1 ⟨vs, H1, I1, r1, q1⟩ => hc pins s1 σ H1 vs us Q I1 r1 q1) he hpl
theorem pe_callTy (hc : CallR X (.type T) r) (hg : Gl X x) (hm : X.mg x = none) (hv : bootBuiltins x = some (.type T)) (ha : PA X (e :: es) t) (hn : x ≠ "__name__" := by decide) (hdb : (x == ("__debug__" : Str)) = false := by decide)
    (he : starEach (e :: es) X.env = (false, eval e X.env) :: starEach es X.env := by rfl) (hpl : (backTo pos (starEach es X.env)).any (·.1) = false := by rfl) : PE X (.Call (.Name x p) (e :: es) [] pos) (tCB r t) := by
  intro pins s σ H Q I h
  refine wpAny_Call_Name_kw (ld_blt I hg hm hv ?_ hn hdb)
  exact PyProof.Rows.callWith_type1 (thn (ha pos pins s σ H _ I h) fun us s1 ⟨vs, H1, I1, r1, q1⟩ => hc pins s1 σ H1 vs us Q I1 r1 q1) he hpl
end
end L2
namespace HT
open PySem PyProof.Rows
noncomputable def lexLt : List Int → List Int → Bool
  | [], [] => false
  | [], _ :: _ => true
  | _ :: _, [] => false
  | x :: xs, y :: ys => if x = y then lexLt xs ys else decide (x < y)
section
open PySem.SeqAt
open PySem.AutoSeq1 (wpAny_loadPart')
open PySem.MeetsSeq PySem.MeetsSeq2 PySem.MeetsSeq3
end
section
variable {prog : Program} {w : World} {A : Around} {E : Value → Shared → Prop} {s : Shared}
theorem cat_tup {t b : Addr} {vs ws : List Value} {Q : Value → Shared → Prop} (ht : IsTup s.heap t vs.toArray) (hb : IsTup s.heap b ws.toArray) (hv : vs ≠ [])
    (h1 : ws = [] → Q (.ref t) s) (h2 : ws ≠ [] → Q (.ref s.heap.objs.size) { s with heap := s.heap.push { cls := .type "tuple", data := .seq (vs ++ ws).toArray } })
    (hsz : vs.length + ws.length ≤ sizeLine) : wpAny (model prog w) A (binaryOp .Add (.ref t) (.ref b)) Q E s := by
  obtain ⟨⟨cls, dd, data, sl⟩, ho, hc, n, hd⟩ := id ht
  obtain ⟨⟨cls2, dd2, data2, sl2⟩, ho2, hc2, n2, hd2⟩ := id hb
  simp only at hc hd hc2 hd2
  subst hc hd hc2 hd2
  have e : vs.toArray ++ ws.toArray = (vs ++ ws).toArray := by simp
  by_cases hw : ws = []
  · exact concat_meets ⟨_, ho, rfl⟩ ⟨_, ho2, rfl⟩ noFill_tuple_add seq_tuple_add PySem.F.slot_tuple_add PySem.F.entry_tuple_add (PySem.F.args_tuple_add_2 _ _)
      (tuple_addW1 t b vs.toArray ws.toArray n n2 dd dd2 sl sl2 (by simpa using hv) (by simp [hw])) ⟨ho, ho2, h1 hw⟩
  · refine concat_meets ⟨_, ho, rfl⟩ ⟨_, ho2, rfl⟩ noFill_tuple_add seq_tuple_add PySem.F.slot_tuple_add PySem.F.entry_tuple_add (PySem.F.args_tuple_add_2 _ _)
      (tuple_addW2 t b vs.toArray ws.toArray n n2 dd dd2 sl sl2 (by simpa using hv) (by simpa using hw) (by rw [List.size_toArray, List.size_toArray]; exact hsz)) ⟨ho, ho2, ?_⟩
    rw [e]
    exact h2 hw
noncomputable def sIx (n d : Nat) : Option Int → Nat
  | none => d
  | some v => if v < 0 then (v + (n : Int)).toNat else min v.toNat n
end
end HT
namespace L2
open PySem PySem.Spec PyProof.Rows
noncomputable abbrev TO := St → Hp → (Option Int → Hp → Prop) → Prop
noncomputable def PO (X : Cx) (e : Option Expr) (t : TO) : Prop :=
  ∀ (pins : List (Addr × Obj)) (s : Shared) (σ : St) (H : Hp) (Q : Option Int → Hp → Prop), Inv X pins σ H s → t σ H Q →
    wpAny (model X.prog X.w) X.A (evalPart e X.env) (fun u s' => ∃ o H', Inv X pins σ H' s' ∧ IsPart u o ∧ Q o H') X.xe s
noncomputable def tNoPart : TO := fun _ H Q => Q none H
noncomputable def tPart (t : TE) : TO := fun σ H Q => t σ H fun x H1 => ∃ i, x = .int i ∧ Q (some i) H1
theorem intsAre_of {ns : List Int} : ∀ {us : List Value}, Vals (ns.map V.int) us → IntsAre us ns := by
  induction ns with
  | nil => intro us r; rw [List.map_nil] at r; cases r; exact .nil
  | cons n ns ih =>
    intro us r
    rw [List.map_cons] at r
    cases r with
    | cons r1 r2 =>
      obtain ⟨t, e⟩ := r1
      subst e
      exact .cons n t (ih r2)
section
variable {X : Cx} {e : Expr} {te : TE} {lo hi : Option Expr} {tl th : TO} {pos p2 : Pos}
theorem po_some (h : PE X e te) : PO X (some e) (tPart te) := by
  intro pins s σ H Q I hw
  rw [evalPart_some]
  refine thn (h pins s σ H _ I hw) fun u s1 ⟨x, H1, I1, r1, q1⟩ => ?_
  obtain ⟨i, rfl, q⟩ := q1
  obtain ⟨t, rfl⟩ := r1
  exact ⟨some i, H1, I1, .int i t, q⟩
noncomputable def SlR (X : Cx) (r : V → Option Int → Option Int → Hp → VK → Prop) : Prop :=
  ∀ (pins : List (Addr × Obj)) (s : Shared) (σ : St) (H : Hp) (x : V) (v vl vu : Value) (lo hi : Option Int) (sl : Addr) (Q : VK), Inv X pins σ H s → RelV x v → s.heap.IsSliceOf sl vl vu .none → IsPart vl lo → IsPart vu hi → r x lo hi H Q →
    ∃ T id, typeLookup (.type T) "__getitem__" = pure (some (.builtin id)) ∧ s.TypeIs v T ∧ wpAny (model X.prog X.w) X.A (getItem v (.ref sl)) (EP X pins σ Q) X.xe s
noncomputable def tSl (r : V → Option Int → Option Int → Hp → VK → Prop) (te : TE) (tl th : TO) : TE := fun σ H Q => te σ H fun x H1 => tl σ H1 fun l H2 => th σ H2 fun u H3 => r x l u H3 Q
noncomputable def cutV (xs : List V) (lo hi : Option Int) : List V := (xs.drop (HT.sIx xs.length 0 lo)).take (HT.sIx xs.length xs.length hi - HT.sIx xs.length 0 lo)
noncomputable def rSlT (K : PySem.W.Frag) : V → Option Int → Option Int → Hp → VK → Prop := fun x lo hi H Q => ∃ a xs, x = .ref a ∧ SqT K H a xs ∧
  ¬ (HT.sIx xs.length 0 lo = 0 ∧ HT.sIx xs.length xs.length hi = xs.length) ∧ ∀ p, H p = none → Q (.ref p) (upd H p (.tup (cutV xs lo hi)))
noncomputable def rLtT (K : PySem.W.Frag) : R2 := fun x y H Q => ∃ a b ns ms, x = .ref a ∧ y = .ref b ∧ SqT K H a (ns.map V.int) ∧ SqT K H b (ms.map V.int) ∧ Q (.bl (HT.lexLt ns ms)) H
noncomputable def rCatT (K : PySem.W.Frag) : R2 := fun x y H Q => ∃ a b xs ys, x = .ref a ∧ y = .ref b ∧ SqT K H a xs ∧ SqT K H b ys ∧ xs ≠ [] ∧ xs.length + ys.length ≤ sizeLine ∧
  (ys = [] → Q (.ref a) H) ∧ (ys ≠ [] → ∀ p, H p = none → Q (.ref p) (upd H p (.tup (xs ++ ys))))
theorem Vals.nil_iff {xs : List V} {us : List Value} (r : Vals xs us) : us = [] ↔ xs = [] := by
  cases r with
  | nil => simp
  | cons _ _ => simp
end
end L2
namespace L2
open PySem PySem.Spec PyProof.Rows
noncomputable def ixN (n : Nat) (i : Int) : Option Nat := if 0 ≤ i then (if i < n then some i.toNat else none) else if -(n : Int) ≤ i then some (i + n).toNat else none
noncomputable def atI {α : Type} (xs : List α) (i : Int) : Option α := (ixN xs.length i).bind fun j => xs[j]?
theorem ixN_seq {n : Nat} {i : Int} {j : Nat} (h : ixN n i = some j) : seqIndex? i n = some j ∧ j < n ∧ -(n : Int) ≤ i ∧ i < n := by
  unfold ixN at h
  by_cases h0 : 0 ≤ i
  · rw [if_pos h0] at h
    by_cases h1 : i < n
    · rw [if_pos h1] at h
      have e : i.toNat = j := Option.some.inj h
      exact ⟨by rw [seqIndex_of h0 h1, e], by omega, by omega, h1⟩
    · rw [if_neg h1] at h; cases h
  · rw [if_neg h0] at h
    by_cases h1 : -(n : Int) ≤ i
    · rw [if_pos h1] at h
      have e : (i + n).toNat = j := Option.some.inj h
      exact ⟨by rw [seqIndex_neg (by omega) h1, e], by omega, h1, by omega⟩
    · rw [if_neg h1] at h; cases h
theorem atI_get {α : Type} {xs : List α} {i : Int} {v : α} (h : atI xs i = some v) : ∃ j, seqIndex? i xs.length = some j ∧ xs[j]? = some v ∧ j < xs.length ∧ -(xs.length : Int) ≤ i ∧ i < xs.length := by
  unfold atI at h
  cases e : ixN xs.length i with
  | none => rw [e] at h; cases h
  | some j =>
    rw [e] at h
    obtain ⟨h1, h2, h3, h4⟩ := ixN_seq e
    exact ⟨j, h1, h, h2, h3, h4⟩
theorem atI_nat {α : Type} {xs : List α} {j : Nat} {v : α} (h : xs[j]? = some v) : atI xs (j : Int) = some v := by
  have hj : j < xs.length := (List.getElem?_eq_some_iff.mp h).1
  have e : ixN xs.length (j : Int) = some j := by
    unfold ixN
    rw [if_pos (by omega), if_pos (by omega)]; simp
  unfold atI; rw [e]; exact h
noncomputable def PlainIx (b : Expr) : Prop := ∀ o i, subscripted b false o i = operate [o, i] (getItem o i)
noncomputable def IxR (X : Cx) (r : R2) : Prop :=
  ∀ (value slice : Expr) (pins : List (Addr × Obj)) (s : Shared) (σ : St) (H : Hp) (x y : V) (v u : Value) (Q : VK), Inv X pins σ H s → RelV x v → RelV y u → r x y H Q →
    subscripted slice false v u = operate [v, u] (getItem v u) → wpAny (model X.prog X.w) X.A (subscriptTail value slice v u) (EP X pins σ Q) X.xe s
noncomputable def MtR (X : Cx) (id : String) (r : V → List V → Hp → VK → Prop) : Prop :=
  ∀ (pins : List (Addr × Obj)) (s : Shared) (σ : St) (H : Hp) (x : V) (xs : List V) (v : Value) (us : List Value) (Q : VK), Inv X pins σ H s → RelV x v → Vals xs us → r x xs H Q →
    wpAny (model X.prog X.w) X.A (call (.builtin id) (v :: us)) (EP X pins σ Q) X.xe s
section
variable {X : Cx} {a b : Expr} {ta tb : TE} {pos : Pos}
theorem IxR.or {r r' : R2} (h : IxR X r) (h' : IxR X r') : IxR X (fun x y H Q => r x y H Q ∨ r' x y H Q) := by
  intro value slice pins s σ H x y v u Q I rx ry q hs
  rcases q with q | q
  · exact h value slice pins s σ H x y v u Q I rx ry q hs
  · exact h' value slice pins s σ H x y v u Q I rx ry q hs
theorem pe_ix {r : R2} (hr : IxR X r) (ha : PE X a ta) (hb : PE X b tb) (hs : PlainIx b) : PE X (.Subscript a b pos) (tOp r ta tb) := by
  intro pins s σ H Q I h
  exact Subscript_ (binT ha hb I h fun v u s2 x y H2 I2 rx ry q => hr a b pins s2 σ H2 x y v u Q I2 rx ry q (hs _ _))
noncomputable def rIxL (K : PySem.W.Frag) : R2 := fun x y H Q => ∃ p xs i v, x = .ref p ∧ y = .int i ∧ SqL K H p xs ∧ atI xs i = some v ∧ Q v H
noncomputable def rIxT (K : PySem.W.Frag) : R2 := fun x y H Q => ∃ p xs i v, x = .ref p ∧ y = .int i ∧ SqT K H p xs ∧ atI xs i = some v ∧ Q v H
noncomputable def rIxS : R2 := fun x y H Q => ∃ z i c, x = .str z ∧ y = .int i ∧ z.length ≤ sizeLine ∧ atI z.cps.toList i = some c ∧ Q (.str ⟨#[c]⟩) H
theorem ix_list : IxR X (rIxL X.K) := by
  intro value slice pins s σ H x y v u Q I rx ry h hs
  obtain ⟨p, xs, i, z, rfl, rfl, hq, he, q⟩ := h
  cases rx
  obtain ⟨t, rfl⟩ := ry
  obtain ⟨its, r, pl, hz⟩ := I.list hq
  obtain ⟨j, h1, h2, h3, h4, h5⟩ := atI_get he
  obtain ⟨w, ew, rw'⟩ := r.get h2
  have hl := r.length
  have hn := line63
  have fin : EP X pins σ Q w s := ⟨z, H, I, rw', q⟩
  by_cases h0 : 0 ≤ i
  · have hj : i.toNat = j := by
      rw [seqIndex_of h0 h5] at h1
      exact Option.some.inj h1
    exact item_listR pl.isList h0 (by omega) (by rw [hj]; simpa using ew) fin hs
  · have hj : (i + (its.toArray.size : Int)).toNat = j := by
      rw [seqIndex_neg (by omega) h4] at h1
      rw [List.size_toArray, ← hl]
      exact Option.some.inj h1
    exact subscriptTail_builtinR (x := w) pl.isList.typeIs slot_list_getitem.lookup
      (wpAny_getItem_list_neg (Q := fun r s' => r = w ∧ EP X pins σ Q r s') pl.isList (by omega) (by rw [List.size_toArray] <;> omega) (by omega) (by rw [hj]; simpa using ew) ⟨rfl, fin⟩) hs
theorem ix_tup : IxR X (rIxT X.K) := by
  intro value slice pins s σ H x y v u Q I rx ry h hs
  obtain ⟨p, xs, i, z, rfl, rfl, hq, he, q⟩ := h
  cases rx
  obtain ⟨t, rfl⟩ := ry
  obtain ⟨its, r, pl, hz⟩ := I.tuple hq
  obtain ⟨j, h1, h2, h3, h4, h5⟩ := atI_get he
  obtain ⟨w, ew, rw'⟩ := r.get h2
  have hl := r.length
  have hn := line63
  have fin : EP X pins σ Q w s := ⟨z, H, I, rw', q⟩
  exact subscriptTail_builtinR (x := w) pl.typeIs slot_tuple_getitem.lookup
    (getItem_tuple (j := j) (Q := fun r s' => r = w ∧ EP X pins σ Q r s') pl (by omega) (by omega) (by rw [List.size_toArray, ← hl]; exact h1) (by simpa using ew) ⟨rfl, fin⟩) hs
theorem ix_str : IxR X rIxS := by
  intro value slice pins s σ H x y v u Q I rx ry h hs
  obtain ⟨z, i, c, rfl, rfl, hz, he, q⟩ := h
  obtain ⟨t, rfl⟩ := rx
  obtain ⟨t', rfl⟩ := ry
  obtain ⟨j, h1, h2, h3, h4, h5⟩ := atI_get he
  have hl : z.cps.toList.length = z.length := by simp [Str.length]
  rw [hl] at h1 h4 h5
  have hn := line63
  exact tail_any (typeIs_str s z t) slot_str_getitem.lookup (getItem_str (c := c) (by
    have e1 : decide (i < -(2 ^ 63 : Int)) = false := decide_eq_false (by omega)
    have e2 : decide (i ≥ 2 ^ 63) = false := decide_eq_false (by omega)
    rw [e1, e2, Bool.or_false]) (by rw [h1]; simpa using h2) ⟨.str ⟨#[c]⟩, H, I.tok _, ⟨_, rfl⟩, q⟩) hs
noncomputable def rIx (K : PySem.W.Frag) : R2 := fun x y H Q => rIxL K x y H Q ∨ rIxT K x y H Q ∨ rIxS x y H Q
theorem ix_seq : IxR X (rIx X.K) := ix_list.or (ix_tup.or ix_str)
noncomputable def rSetL : V → V → V → Hp → (Hp → Prop) → Prop := fun o i v H Q => ∃ p xs k j, o = .ref p ∧ i = .int k ∧ H p = some (.lst xs) ∧ ixN xs.length k = some j ∧ Q (upd H p (.lst (xs.set j v)))
noncomputable def rSlL (K : PySem.W.Frag) : V → Option Int → Option Int → Hp → VK → Prop := fun x lo hi H Q => ∃ a xs, x = .ref a ∧ SqL K H a xs ∧ ∀ p, H p = none → Q (.ref p) (upd H p (.lst (cutV xs lo hi)))
noncomputable def flatV : V → Bool
  | .non => true
  | .bl _ => true
  | .int _ => true
  | .str _ => true
  | _ => false
noncomputable def eqV : V → V → Bool
  | .non, .non => true
  | .bl a, .bl b => a == b
  | .bl a, .int b => (if a then 1 else 0) == b
  | .int a, .bl b => a == (if b then 1 else 0)
  | .int a, .int b => a == b
  | .str a, .str b => a == b
  | _, _ => false
theorem eqAt_V {A : Around} {s : Shared} {y x : V} {u v : Value} (ry : RelV y u) (rx : RelV x v) (fy : flatV y = true) (fx : flatV x = true) : SeqAt.EqAt A s u v (eqV y x) := by
  cases y with
  | non =>
    cases ry
    cases x with
    | non => cases rx; exact SeqAt.EqAt.same _
    | bl b => cases rx; exact SeqAt.EqAt.none_bool b
    | int b => obtain ⟨t, rfl⟩ := rx; exact SeqAt.EqAt.none_int b t
    | str b => obtain ⟨t, rfl⟩ := rx; exact SeqAt.EqAt.none_str b t
    | _ => exact absurd (show false = true from fx) Bool.false_ne_true
  | bl a =>
    cases ry
    cases x with
    | non => cases rx; exact SeqAt.EqAt.bool_none a
    | bl b => cases rx; exact SeqAt.EqAt.bool_bool a b
    | int b => obtain ⟨t, rfl⟩ := rx; exact SeqAt.EqAt.bool_int a b t
    | str b => obtain ⟨t, rfl⟩ := rx; exact SeqAt.EqAt.bool_str a b t
    | _ => exact absurd (show false = true from fx) Bool.false_ne_true
  | int a =>
    obtain ⟨t', rfl⟩ := ry
    cases x with
    | non => cases rx; exact SeqAt.EqAt.int_none a t'
    | bl b => cases rx; exact SeqAt.EqAt.int_bool a t' b
    | int b => obtain ⟨t, rfl⟩ := rx; exact SeqAt.EqAt.int_int a t' b t
    | str b => obtain ⟨t, rfl⟩ := rx; exact SeqAt.EqAt.int_str a t' b t
    | _ => exact absurd (show false = true from fx) Bool.false_ne_true
  | str a =>
    obtain ⟨t', rfl⟩ := ry
    cases x with
    | non => cases rx; exact SeqAt.EqAt.str_none a t'
    | bl b => cases rx; exact SeqAt.EqAt.str_bool a t' b
    | int b => obtain ⟨t, rfl⟩ := rx; exact SeqAt.EqAt.str_int a t' b t
    | str b => obtain ⟨t, rfl⟩ := rx; exact SeqAt.EqAt.str_str a t' b t
    | _ => exact absurd (show false = true from fx) Bool.false_ne_true
  | _ => exact absurd (show false = true from fy) Bool.false_ne_true
noncomputable def eqU (x : V) (u : Value) : Bool := match u with
  | .none => eqV .non x
  | .bool b => eqV (.bl b) x
  | .int i _ => eqV (.int i) x
  | .str z _ => eqV (.str z) x
  | _ => false
theorem eqU_of {x y : V} {u : Value} (r : RelV y u) (f : flatV y = true) : eqU x u = eqV y x := by
  cases y with
  | non => cases r; rfl
  | bl b => cases r; rfl
  | int i => obtain ⟨t, rfl⟩ := r; rfl
  | str z => obtain ⟨t, rfl⟩ := r; rfl
  | _ => exact absurd (show false = true from f) Bool.false_ne_true
theorem any_eqU {x : V} : ∀ {xs : List V} {us : List Value}, Vals xs us → xs.all flatV = true → us.any (eqU x) = xs.any fun y => eqV y x
  | _, _, .nil, _ => rfl
  | y :: xs, u :: us, .cons r t, f => by
    rw [List.all_cons, Bool.and_eq_true] at f
    rw [List.any_cons, List.any_cons, eqU_of r f.1, any_eqU t f.2]
theorem mem_eqAt {A : Around} {s : Shared} {x : V} {v : Value} (rx : RelV x v) (fx : flatV x = true) : ∀ {xs : List V} {us : List Value}, Vals xs us → xs.all flatV = true → ∀ u ∈ us, SeqAt.EqAt A s u v (eqU x u)
  | _, _, .nil, _ => fun u hu => by cases hu
  | y :: xs, u :: us, .cons r t, f => fun u' hu => by
    rw [List.all_cons, Bool.and_eq_true] at f
    rcases List.mem_cons.mp hu with rfl | hu
    · rw [eqU_of r f.1]; exact eqAt_V r rx f.1 fx
    · exact mem_eqAt rx fx t f.2 u' hu
noncomputable def inV (x : V) (xs : List V) : Bool := xs.any fun y => eqV y x
noncomputable def rIn (K : PySem.W.Frag) (neg : Bool) : R2 := fun x y H Q => ∃ p xs, y = .ref p ∧ (SqL K H p xs ∨ SqT K H p xs) ∧ flatV x = true ∧ xs.all flatV = true ∧ Q (.bl (if neg then !inV x xs else inV x xs)) H
theorem op_in_seq : OpR X (compareOp .In) (rIn X.K false) := by
  intro pins s σ H x y v u Q I rx ry h
  obtain ⟨p, xs, rfl, hq, fx, fs, q⟩ := h
  cases ry
  rcases hq with hq | hq
  · obtain ⟨its, r, pl, hz⟩ := I.list hq
    refine SeqAt.in_listAt (eqU x) pl.isList (fun w hw => mem_eqAt rx fx r fs w (by simpa using hw)) ⟨.bl _, H, I, rfl, ?_⟩
    rw [show its.toArray.any (eqU x) = its.any (eqU x) by simp, any_eqU r fs]
    exact q
  · obtain ⟨its, r, pl, hz⟩ := I.tuple hq
    refine SeqAt.in_tupleAt (eqU x) pl (fun w hw => mem_eqAt rx fx r fs w (by simpa using hw)) ⟨.bl _, H, I, rfl, ?_⟩
    rw [show its.toArray.any (eqU x) = its.any (eqU x) by simp, any_eqU r fs]
    exact q
theorem op_notIn_seq : OpR X (compareOp .NotIn) (rIn X.K true) := by
  intro pins s σ H x y v u Q I rx ry h
  obtain ⟨p, xs, rfl, hq, fx, fs, q⟩ := h
  cases ry
  rcases hq with hq | hq
  · obtain ⟨its, r, pl, hz⟩ := I.list hq
    refine SeqAt.notIn_listAt (eqU x) pl.isList (fun w hw => mem_eqAt rx fx r fs w (by simpa using hw)) ⟨.bl _, H, I, rfl, ?_⟩
    rw [show its.toArray.any (eqU x) = its.any (eqU x) by simp, any_eqU r fs]
    exact q
  · obtain ⟨its, r, pl, hz⟩ := I.tuple hq
    refine SeqAt.notIn_tupleAt (eqU x) pl (fun w hw => mem_eqAt rx fx r fs w (by simpa using hw)) ⟨.bl _, H, I, rfl, ?_⟩
    rw [show its.toArray.any (eqU x) = its.any (eqU x) by simp, any_eqU r fs]
    exact q
theorem op_notIn_str : OpR X (compareOp .NotIn) (fun x y H Q => ∃ i j, x = .str i ∧ y = .str j ∧ Q (.bl (!(!(Builtin.Str.occurrences j i 0 j.length 1).isEmpty))) H) := by
  intro pins s σ H x y v u Q I rx ry h
  obtain ⟨i, j, rfl, rfl, q⟩ := h
  obtain ⟨t, rfl⟩ := rx
  obtain ⟨t', rfl⟩ := ry
  exact notIn_str ⟨.bl _, H, I, rfl, q⟩
theorem call_len_seq : CallR X (.builtin "len") (fun xs H Q => ∃ p ys, xs = [.ref p] ∧ (SqL X.K H p ys ∨ SqT X.K H p ys) ∧ Q (.int ys.length) H) := by
  intro pins s σ H xs us Q I r h
  obtain ⟨p, ys, rfl, hq, q⟩ := h
  obtain ⟨u, rfl, rx⟩ := vals1 r
  cases rx
  have hn := line63
  rcases hq with hq | hq
  · obtain ⟨its, r', pl, hz⟩ := I.list hq
    have hlen := r'.length
    exact Calls.call_len_list pl.isList (by simp only [List.size_toArray] <;> omega) ⟨.int ys.length, H, I.tok _, ⟨s.toks + 1, by rw [List.size_toArray, hlen]⟩, q⟩
  · obtain ⟨its, r', pl, hz⟩ := I.tuple hq
    have hlen := r'.length
    exact len_tuple pl (by simp only [List.size_toArray] <;> omega) ⟨.int ys.length, H, I.tok _, ⟨s.toks + 1, by rw [List.size_toArray, hlen]⟩, q⟩
theorem call_len_str : CallR X (.builtin "len") (fun xs H Q => ∃ z, xs = [.str z] ∧ z.length ≤ sizeLine ∧ Q (.int z.length) H) := by
  intro pins s σ H xs us Q I r h
  obtain ⟨z, rfl, hz, q⟩ := h
  obtain ⟨u, rfl, t, rfl⟩ := vals1 r
  have hn := line63
  exact len_str (by omega) ⟨.int z.length, H, I.tok _, ⟨_, rfl⟩, q⟩
theorem CallR.or {f : Value} {r r' : List V → Hp → VK → Prop} (h : CallR X f r) (h' : CallR X f r') : CallR X f (fun xs H Q => r xs H Q ∨ r' xs H Q) := by
  intro pins s σ H xs us Q I rs q
  rcases q with q | q
  · exact h pins s σ H xs us Q I rs q
  · exact h' pins s σ H xs us Q I rs q
theorem call_tuple_of : CallR X (.type "tuple") (fun xs H Q => ∃ p ys, xs = [.ref p] ∧ ((SqL X.K H p ys ∧ ∀ l, H l = none → Q (.ref l) (upd H l (.tup ys))) ∨ (SqT X.K H p ys ∧ Q (.ref p) H))) := by
  intro pins s σ H xs us Q I r h
  obtain ⟨p, ys, rfl, h⟩ := h
  obtain ⟨u, rfl, rx⟩ := vals1 r
  cases rx
  rcases h with ⟨hq, q⟩ | ⟨hq, q⟩
  · obtain ⟨its, r', pl, hz⟩ := I.list hq
    have hlen := r'.length
    refine call_tuple_list pl.isList (fun h' kp => ?_) (by simp only [List.size_toArray] <;> omega)
    have I1 : Inv X pins σ H { s with heap := h' } := I.kept (t' := s.toks) kp
    have I2 : Inv X pins σ (upd H h'.objs.size (.tup ys)) { s with heap := h'.push { cls := .type "tuple", data := .seq its.toArray } } :=
      I1.laid (t' := s.toks) (fun b o e => Heap.get?_push_of_some _ e) (Nat.le_refl _) (show ObjOk X.prog X.w _ _ _ (.tup ys) from ⟨hz, its, r', IsTup.new _ _⟩)
    exact ⟨.ref h'.objs.size, _, I2, rfl, q _ (I1.hok.fresh (Nat.le_refl _))⟩
  · obtain ⟨its, r', pl, hz⟩ := I.tuple hq
    exact call_tuple_same pl ⟨.ref p, H, I, rfl, q⟩
noncomputable def tyV (K : PySem.W.Frag) (T : String) (x : V) (H : Hp) : Prop := match x with
  | .str _ => T = "str"
  | .int _ => T = "int"
  | .ref p => (T = "list" ∧ ∃ xs, SqL K H p xs) ∨ (T = "tuple" ∧ ∃ o, K.lookup p = some o ∧ o.cls = .type "tuple" ∧ o.dict = none) ∨
      (T = "dict" ∧ ((∃ kvs, H p = some (.dK kvs)) ∨ ∃ kvs, H p = some (.dT kvs))) ∨ (T = "set" ∧ ∃ S n, H p = some (.set S n))
  | _ => False
theorem tyV_is {pins : List (Addr × Obj)} {σ : St} {H : Hp} {s : Shared} {T : String} {x : V} {v : Value} (I : Inv X pins σ H s) (r : RelV x v) (ty : tyV X.K T x H) :
    s.TypeIs v T ∧ ∀ a, v = .ref a → ∃ ob, s.heap.get? a = some ob ∧ ob.dict = none := by
  cases x with
  | str z =>
    obtain ⟨t, rfl⟩ := r
    cases (show T = "str" from ty)
    exact ⟨typeIs_str s z t, fun _ e => nomatch e⟩
  | int i =>
    obtain ⟨t, rfl⟩ := r
    cases (show T = "int" from ty)
    exact ⟨typeIs_int s i t, fun _ e => nomatch e⟩
  | ref p =>
    cases r
    rcases ty with ⟨rfl, xs, hq⟩ | ⟨rfl, o, hk, hc, hd⟩ | ⟨rfl, hk⟩ | ⟨rfl, S, n, hk⟩
    · obtain ⟨its, _, pl, _⟩ := I.list hq
      refine ⟨pl.isList.typeIs, fun a e => ?_⟩
      cases e
      obtain ⟨o, n, e, c, hd, _⟩ := pl
      exact ⟨o, e, hd⟩
    · refine ⟨⟨o, I.kIn p o hk, hc⟩, fun a e => ?_⟩
      cases e
      exact ⟨o, I.kIn _ o hk, hd⟩
    · have z : ∃ o, s.heap.get? p = some o ∧ o.ExactDict := by
        rcases hk with ⟨kvs, hk⟩ | ⟨kvs, hk⟩
        · obtain ⟨_, _, _, _, o, _, _, e, ex, _⟩ := I.hok p _ hk
          exact ⟨o, e, ex⟩
        · obtain ⟨_, _, _, _, o, _, _, e, ex, _⟩ := I.hok p _ hk
          exact ⟨o, e, ex⟩
      obtain ⟨o, e, ex⟩ := z
      refine ⟨⟨o, e, ex.1⟩, fun a e2 => ?_⟩
      cases e2
      exact ⟨o, e, ex.2.1⟩
    · obtain ⟨o, _, _, _, e, ex, _⟩ := I.hok p _ hk
      refine ⟨⟨o, e, ex.1⟩, fun a e2 => ?_⟩
      cases e2
      exact ⟨o, e, ex.2.1⟩
  | _ => exact False.elim ty
noncomputable def tBM0 (K : PySem.W.Frag) (T : String) (r : V → List V → Hp → VK → Prop) (to : TE) : TE := fun σ H Q => to σ H fun x H1 => tyV K T x H1 ∧ r x [] H1 Q
noncomputable def tBM (K : PySem.W.Frag) (T : String) (r : V → List V → Hp → VK → Prop) (to : TE) (t : TA) : TE := fun σ H Q => to σ H fun x H1 => tyV K T x H1 ∧ t σ H1 fun xs H2 => r x xs H2 Q
variable {o e : Expr} {es : List Expr} {to : TE} {t : TA} {name : Str} {apos cpos : Pos} {T id : String} {r : V → List V → Hp → VK → Prop}
theorem pe_bm (pa : PlainAttrs T) (slot : Slot T name id) (hty : typeOf (.builtin id) = pure (.type "method_descriptor")) (hm : MtR X id r) (ho : PE X o to) (ha : PA X (e :: es) t)
    (hbase : attributeBase o name X.env (eval o X.env) = eval o X.env := by rfl)
    (hfew : ((backTo cpos (starEach (e :: es) X.env)).all (fun x => !x.1) && (backToKw cpos (keywordEach [] X.env)).all (fun x => x.1.isSome)
      && decide ((e :: es).length + ([] : List Keyword).length + (if ([] : List Keyword).isEmpty then 0 else 1) < 30)) = true := by rfl)
    (hline : (apos.endLine == cpos.line) = true := by rfl) (hs : starEach (e :: es) X.env = (false, eval e X.env) :: starEach es X.env := by rfl) (hplain : (backTo cpos (starEach es X.env)).any (·.1) = false := by rfl) :
    PE X (.Call (.Attribute o name apos) (e :: es) [] cpos) (tBM X.K T r to t) := by
  intro pins s σ H Q I h
  refine wpAny_Call_method_late hbase hfew hline rfl (thn (ho pins s σ H _ I h) fun v s1 ⟨x, H1, I1, r1, ty, q1⟩ => ?_)
  obtain ⟨h1, h2⟩ := tyV_is I1 r1 ty
  refine ⟨T, id, pa, slot, hty, h1, h2, ?_⟩
  have hA := ha cpos pins s1 σ H1 _ I1 q1
  rw [hs] at hA ⊢
  refine Calls.callWith_builtin (by show (false || (backTo cpos (starEach es X.env)).any (·.1)) = false; rw [hplain] <;> rfl) (Calls.evalArgs_plain ?_)
  exact thn hA fun us s2 ⟨vs, H2, I2, r2, q2⟩ => hm pins s2 σ H2 x vs v us Q I2 r1 r2 q2
/- xs.append(e), list.index on a module's tuple .. are MtR facts of 06m -/
end
end L2
namespace L2
open PySem PySem.Spec PyProof.Rows
noncomputable def MtM (X : Cx) (id : String) (r : V → List V → Hp → VK → Prop) : Prop :=
  ∀ (pins : List (Addr × Obj)) (s : Shared) (σ : St) (H : Hp) (x : V) (xs : List V) (v : Value) (us : List Value) (Q : VK), Inv X pins σ H s → RelV x v → Vals xs us → r x xs H Q →
    wpAny (model X.prog X.w) X.A (call (.builtin id) (v :: us)) (EP X pins σ Q) X.xe s
theorem Vals.one : ∀ {x : V} {us : List Value}, Vals [x] us → ∃ u, us = [u] ∧ RelV x u
  | _, _, .cons r .nil => ⟨_, rfl, r⟩
theorem Vals.reverse {xs : List V} {us : List Value} (h : Vals xs us) : Vals xs.reverse us.reverse := by
  induction h with
  | nil => exact .nil
  | cons r t ih => rw [List.reverse_cons, List.reverse_cons]; exact Vals.append ih (.cons r .nil)
section
variable {X : Cx} {pins : List (Addr × Obj)} {σ : St} {H : Hp} {s : Shared} {l b : Addr} {xs ys zs : List V}
theorem Inv.lset {its its' : List Value} {n : Nat} {f : Array Value → Array Value} {t' : Nat} (I : Inv X pins σ H s) (hH : H l = some (.lst xs))
    (e : s.heap.get? l = some { cls := .type "list", data := .seq its.toArray n }) (hf : f its.toArray = its'.toArray) (hv : Vals ys its') (hz : ys.length ≤ sizeLine) :
    Inv X pins σ (upd H l (.lst ys)) { s with heap := s.heap.update l (Obj.mapSeq f), toks := t' } := by
  have q := PySem.IsL.update e f
  rw [hf] at q
  refine I.write (x := l) (e := l) (by rw [hH]; exact trivial) (.inl rfl) (fun b' u hb hu => (Heap.get?_update_other s.heap (Obj.mapSeq f) (Ne.symm hb)).trans hu) ⟨_, q⟩ ?_
  exact ⟨hz, its', _, hv, q⟩
theorem Inv.lnew {its : List Value} {t' : Nat} (I : Inv X pins σ H s) (hv : Vals ys its) (hz : ys.length ≤ sizeLine) :
    Inv X pins σ (upd H s.heap.objs.size (.lst ys)) { s with heap := s.heap.push { cls := .type "list", data := .seq its.toArray }, toks := t' } :=
  I.laid (fun _ _ q => Heap.get?_push_of_some _ q) (Nat.le_refl _) ⟨hz, its, 0, hv, Heap.get?_push_size _ rfl⟩
theorem Inv.fresh (I : Inv X pins σ H s) : H s.heap.objs.size = none := I.hok.fresh (Nat.le_refl _)
theorem Inv.lstM (I : Inv X pins σ H s) (hH : H l = some (.lst xs)) : xs.length ≤ sizeLine ∧ ∃ (its : List Value) (n : Nat), Vals xs its ∧ xs.length = its.length ∧ s.heap.get? l = some { cls := .type "list", data := .seq its.toArray n } := by
  obtain ⟨z, its, n, r, e⟩ := I.hok l _ hH
  exact ⟨z, its, n, r, r.length, e⟩
theorem notLongL {n : Nat} (h : n ≤ sizeLine) : Builtin.List.listTooLong n = false := by
  unfold Builtin.List.listTooLong
  exact decide_eq_false (by omega)
end
section
variable {X : Cx}
noncomputable def rAppend : V → List V → Hp → VK → Prop := fun x vs H Q => ∃ l xs y, x = .ref l ∧ vs = [y] ∧ H l = some (.lst xs) ∧ xs.length < sizeLine ∧ Q .non (upd H l (.lst (xs ++ [y])))
theorem mt_append : MtM X "list.append" rAppend := by
  intro pins s σ H x vs v us Q I rx rv h
  obtain ⟨l, xs, y, rfl, rfl, hH, hz, q⟩ := h
  cases rx
  obtain ⟨u, rfl, ru⟩ := rv.one
  obtain ⟨z, its, n, r, hl, e⟩ := I.lstM hH
  refine call_meets F.slot_list_append ⟨_, e, rfl⟩ F.entry_list_append (F.args_list_append_2 _ _) (PySem.list_append l its.toArray n u (by rw [List.size_toArray]; omega)) ⟨e, ?_⟩
  refine ⟨.non, _, I.lset (its' := its ++ [u]) hH e (by simp) (r.append (.cons ru .nil)) ?_, rfl, q⟩
  rw [List.length_append, List.length_singleton]
  omega
noncomputable def rExtend : V → List V → Hp → VK → Prop := fun x vs H Q => ∃ l b xs zs, x = .ref l ∧ vs = [.ref b] ∧ H l = some (.lst xs) ∧ H b = some (.lst zs) ∧ xs.length + zs.length ≤ sizeLine ∧ Q .non (upd H l (.lst (xs ++ zs)))
noncomputable def rPop : V → List V → Hp → VK → Prop := fun x vs H Q => ∃ l xs y, x = .ref l ∧ vs = [] ∧ H l = some (.lst xs) ∧ xs[xs.length - 1]? = some y ∧ Q y (upd H l (.lst xs.dropLast))
noncomputable def rPopAt : V → List V → Hp → VK → Prop := fun x vs H Q => ∃ l xs i k y, x = .ref l ∧ vs = [.int i] ∧ H l = some (.lst xs) ∧ -(2 ^ 63) ≤ i ∧ i < 2 ^ 63 ∧ seqIndex? i xs.length = some k ∧ xs[k]? = some y ∧ Q y (upd H l (.lst (xs.eraseIdx k)))
noncomputable def rReverse : V → List V → Hp → VK → Prop := fun x vs H Q => ∃ l xs, x = .ref l ∧ vs = [] ∧ H l = some (.lst xs) ∧ Q .non (upd H l (.lst xs.reverse))
noncomputable def rClear : V → List V → Hp → VK → Prop := fun x vs H Q => ∃ l xs, x = .ref l ∧ vs = [] ∧ H l = some (.lst xs) ∧ Q .non (upd H l (.lst []))
noncomputable def rCat : R2 := fun x y H Q => ∃ l b xs zs, x = .ref l ∧ y = .ref b ∧ H l = some (.lst xs) ∧ H b = some (.lst zs) ∧ xs.length + zs.length ≤ sizeLine ∧ ∀ p, H p = none → Q (.ref p) (upd H p (.lst (xs ++ zs)))
noncomputable def rRep : R2 := fun x y H Q => ∃ l k xs, x = .ref l ∧ y = .int k ∧ H l = some (.lst xs) ∧ -(2 ^ 63) ≤ k ∧ k < 2 ^ 63 ∧ xs.length * k.toNat ≤ sizeLine ∧
  ∀ p, H p = none → Q (.ref p) (upd H p (.lst (List.replicate k.toNat xs).flatten))
end
end L2
namespace Att
open PySem PySem.W PySem.Calls PyProof.Rows
theorem ints_of_wellAll {P : Params} {h : Heap} : ∀ (ns : List Int) (vs : List Value), WellAll P h vs (ns.map WData.int) → IntsAre vs ns := by
  intro ns
  induction ns with
  | nil =>
    intro vs w
    rw [List.map_nil] at w
    cases w
    exact .nil
  | cons n ns ih =>
    intro vs w
    rw [List.map_cons] at w
    cases w with
    | cons a b =>
      cases a
      exact .cons _ _ (ih _ b)
theorem script_of {l : OpenLaw} {n : Nat} (hn : l.most = some n) {P : Params} {h : Heap} {args : List WData} {vals : List Value}
    (hpre : l.row.toRowW.claim.pre args = true) (hwl : WellAll P h vals args) :
    ∃ a vs ns, vals = [Value.ref a] ∧ args = [WData.list (ns.map WData.int)] ∧ h.get? a = some { cls := .type "list", data := .seq vs.toArray } ∧ IntsAre vs ns ∧ ns.length ≤ n := by
  have hsh : WShape.hasAll [] args [.list .int] = true := (pre_splitW hpre).1
  have hc : l.pre.holds [] { args := args } = true := (pre_splitW hpre).2
  obtain ⟨d, r, rfl, h1, h2⟩ := hasAllW_cons hsh
  obtain rfl := hasAllW_nil h2
  obtain ⟨xs, rfl, h3⟩ := hasW_list h1
  obtain ⟨ns, rfl⟩ := items_int h3
  have hlen : ns.length ≤ n := by
    unfold OpenLaw.pre at hc
    have h4 : (WTm.not (.lt (.lit (.int (n : Int))) (.len (.arg 0)))).holds [] { args := [.list (ns.map .int)] } = true := by
      have h4 := (holds_andW hc).1
      rw [hn] at h4
      exact h4
    have h5 := condW_of h4 (w_not (w_lt w_lit (w_len_list (w_arg rfl))))
    rw [List.length_map] at h5
    refine Nat.le_of_not_lt fun q => ?_
    have q' : (n : Int) < ((ns.length : Nat) : Int) := by omega
    first
      | (rw [decide_eq_true q'] at h5; exact absurd h5 (by decide))
      | (simp at h5; omega)
  cases hwl with
  | cons w1 w2 =>
    cases w2
    cases w1 with
    | list ho hall => exact ⟨_, _, ns, rfl, rfl, ho, ints_of_wellAll ns _ hall, hlen⟩
theorem post_true (l : OpenLaw) (args : List WData) : l.row.toRowW.claim.post args (.bool true) args = true :=
  postW_of (r := l.row.toRowW) (X := (true == true))
    (show WShape.has [] (.bool true) .bool = true by first | rfl | decide | simp [WShape.has, WShape.arms, WShape.armsAll])
    (show (WTm.eq .res (.lit (.bool true))).value [] { args := args, res := some (.bool true), after := args } = some (.bool (true == true)) from w_eq_bool (w_res rfl) w_lit) rfl
theorem attach_call {l : OpenLaw} {n : Nat} {q : Program} {loose : List Str} {XP : (Str → Option Value) → Heap → Prop} {YP : World → Heap → Prop} {d : DefRec}
    (hn : l.most = some n) (hdf : d.params.defaults = [])
    (call : ∀ (w : World) (s₀ s₁ : Shared) (mg mb : Str → Option Value) (fa : Addr) (o : Obj) (pm cd doc : Value) (a : Addr) (vs : List Value) (ns : List Int),
      Ground q loose [] XP w s₀ mg mb s₁.heap → YP w s₁.heap →
      s₁.heap.get? fa = some o → o.data = .func (docDef d.name d.params d.body d.scope pm cd doc) → s₁.heap.CodeRec cd d.name → mg d.name = some (.ref fa) →
      s₁.heap.get? a = some { cls := .type "list", data := .seq vs.toArray } → IntsAre vs ns → ns.length ≤ n → s₁.gens = #[] →
      codeAny (model l.prog w) callerA (.call (.ref fa) ⟨[.ref a], []⟩) (fun r s' => r = .ok (.ret (.bool true)) ∧ OldK s₁.heap s'.heap ∧ s'.os = s₁.os ∧ AllBare s'.gens) s₁) :
    WalkO q loose XP YP l.row.toRowW d [] (fun f vs => PySem.call f vs) := by
  intro w s₀ s₁ mg mb G Y fa o pm cd doc dV kV ho hd hcd hD hmg hg args vals as hpre hlay hrd hwl hlo
  obtain rfl : dV = .none := Dflts.none hD hdf
  obtain rfl : kV = .none := Dflts.noKw hD
  obtain ⟨a, vs, ns, rfl, rfl, hobj, hints, hlen⟩ := script_of hn hpre hwl
  refine enter_call (codeAny_mono (call w s₀ s₁ mg mb fa o pm cd doc a vs ns G Y ho (fd_plain hd) hcd hmg hobj hints hlen hg) fun r s' hq => ?_)
  obtain ⟨rfl, h2, h3, h4⟩ := hq
  exact ⟨.inl ⟨.bool true, .bool true, [], rfl, fun _ => rfl, .bool true, post_true l _, fun _ => ⟨List.Pairwise.nil, fun _ hm => (nomatch hm)⟩⟩, h2, h3, h4⟩
section
variable {prog : Program} {w : World} {A : Around} {E : Value → Shared → Prop} {s : Shared} {K : Frag}
noncomputable def noObjs (h : Heap) : Heap := { h with objs := #[] }
noncomputable def ledger (h : Heap) (L d : Addr) : List (Addr × Obj) := (List.range h.objs.size).filterMap fun a => if a = L ∨ a = d then none else (h.get? a).map fun o => (a, o)
end
end Att
namespace L2
open PySem PySem.Spec PyProof.Rows
theorem vals_ints : ∀ {vs : List Value} {ns : List Int}, IntsAre vs ns → Vals (ns.map V.int) vs
  | _, _, .nil => .nil
  | _, _, .cons n t h => .cons ⟨t, rfl⟩ (vals_ints h)
noncomputable def Only (H : Hp) : Prop := ∀ b, H b = none ∨ ∃ o xs, H b = some (.frz o (.lst xs))
theorem law_call {P : Program} {w : World} {K : PySem.W.Frag} {mg mb : Str → Option Value} {CX : CXT} {k : Nat} {fa a : Addr} {fd : FuncData} {x : Str} {sp : Sp} {s₁ : Shared} {vs : List Value} {ns : List Int}
    (KX : K.In s₁.heap) (hns : s₁.heap.Ns mainGlobals mg) (hb : s₁.heap.Ns builtinsNs mb) (hbb : ∀ x : Str, x ≠ "__name__" → mb x = bootBuiltins x) (hlim : s₁.heap.NoLimit) (hg : s₁.gens = #[])
    (ha : s₁.heap.get? a = some { cls := .type "list", data := .seq vs.toArray }) (hi : IntsAre vs ns) (hl : ns.length ≤ sizeLine) (hr : Room k callerA)
    (F : ∀ base : Heap, K.In base → base.Ns mainGlobals mg → FnOk P w K mg base CX k fa fd [x] sp) (hbind : ∀ (s : Shared) (u : Value), BindsTo s fd ⟨[u], []⟩ [(x, u)])
    (hsp : ∀ H : Hp, Only H → SqL K H a (ns.map V.int) → sp [.ref a] H (fun v _ => v = .bl true) fun _ _ _ => False)
    (hCX : ∀ H e s', CX [] H s₁ (fun _ _ _ => False) e s' → False) :
    codeAny (model P w) callerA (.call (.ref fa) ⟨[.ref a], []⟩) (fun r s' => r = .ok (.ret (.bool true)) ∧ OldK s₁.heap s'.heap ∧ s'.os = s₁.os ∧ AllBare s'.gens) s₁ := by
  have rv := vals_ints hi
  have lenV := hi.length
  have core : ∀ H : Hp, Only H → SqL K H a (ns.map V.int) → HOk P w H s₁.heap → (∀ b, H b ≠ none → b = a) → (H a ≠ none → K.lookup a = none) →
      codeAny (model P w) callerA (.call (.ref fa) ⟨[.ref a], []⟩) (fun r s' => r = .ok (.ret (.bool true)) ∧ OldK s₁.heap s'.heap ∧ s'.os = s₁.os ∧ AllBare s'.gens) s₁ := by
    intro H hO hS hok hA hK
    have base_of : ∀ {b : Addr} {o : Obj}, s₁.heap.get? b = some o → H b = none → (hidT s₁.heap H).get? b = some o := fun e n => hidT_get e n
    have noA : ∀ {b : Addr} {o : Obj} {es : Array DictEntry} {ep : Nat}, s₁.heap.get? b = some o → o.data = .dict es ep → H b = none := fun {b o es ep} e d => by
      cases q : H b with
      | none => rfl
      | some u =>
        have e' : b = a := hA b (by rw [q]; simp)
        subst e'
        rw [ha] at e; cases e
        have d' : Data.seq vs.toArray _ = Data.dict es ep := d
        cases d'
    have nsK : ∀ {b : Addr} {m : Str → Option Value}, s₁.heap.Ns b m → (hidT s₁.heap H).Ns b m := fun {b m} ⟨o, es, ep, e, d, r⟩ => ⟨o, es, ep, base_of e (noA e d), d, r⟩
    have hKb : K.In (hidT s₁.heap H) := fun b o e => base_of (KX b o e) (by
      cases q : H b with
      | none => rfl
      | some u =>
        have e' : b = a := hA b (by rw [q]; simp)
        subst e'
        rw [hK (by rw [q]; simp)] at e; cases e)
    have hM : Mod K mg (hidT s₁.heap H) := ⟨hKb, nsK hns, ⟨mb, nsK hb, hbb⟩, let ⟨mc, h1, h2⟩ := hlim; ⟨mc, nsK h1, h2⟩⟩
    have e0 : Env0 P w K mg (hidT s₁.heap H) callerA [] s₁ H := ⟨rfl, hM, fun b o e => of_hidT e, Nat.le_of_eq (hidT_size _ _), trivial, fun b hb => absurd (show b ∈ ([] : List Addr) from hb) (by simp), hok, .of_eq hg⟩
    refine codeAny_mono ((F _ hKb (nsK hns)).run callerA [] s₁ H ⟨[.ref a], []⟩ [.ref a] [.ref a] _ _ hr e0 (hbind s₁ (.ref a)) (.cons rfl .nil) (hsp H hO hS)) fun r s' h => ?_
    cases r with
    | error e => exact (hCX H e s' h).elim
    | ok fl =>
      cases fl with
      | next => exact False.elim h
      | brk => exact False.elim h
      | cont => exact False.elim h
      | ret u =>
        obtain ⟨v, H', os, bare, un, hok', r', q⟩ := h
        have q' : v = .bl true := q
        subst q'
        obtain rfl : u = Value.bool true := r'
        refine ⟨rfl, OldK.of_keep fun b o e => ?_, os, bare⟩
        cases q : H b with
        | none => exact un.keep b o e q (by intro z; exact absurd (show b ∈ ([] : List Addr) from z) (by simp)) (by simp)
        | some u =>
          rcases hO b with z | ⟨ob, xs, z⟩
          · rw [q] at z; cases z
          · have z2 := un.frzs b ob _ z
            obtain ⟨e1, _⟩ := hok b _ z
            obtain ⟨e2, _⟩ := hok' b _ z2
            rw [e] at e1; cases e1
            exact e2
  cases hk : K.lookup a with
  | some o =>
    have e := KX a o hk
    rw [ha] at e
    cases e
    refine core (fun _ => none) (fun _ => .inl rfl) (.inr ⟨_, vs.toArray, _, hk, rfl, rfl, rfl, by rw [List.size_toArray, lenV]; exact hl, by simpa using rv⟩) (fun b u z => by have z' : (none : Option HO) = some u := z; cases z') (fun b z => absurd rfl z) fun z => absurd rfl z
  | none =>
    refine core (fun b => if b = a then some (.frz { cls := .type "list", data := .seq vs.toArray } (.lst (ns.map V.int))) else none) (fun b => ?_) (.inl (.inr ⟨{ cls := .type "list", data := .seq vs.toArray }, if_pos rfl⟩)) (fun b u z => ?_) (fun b z => ?_) fun _ => hk
    · by_cases hb : b = a
      · exact .inr ⟨_, _, if_pos hb⟩
      · exact .inl (if_neg hb)
    · by_cases hb : b = a
      · have z' := (if_pos hb).symm.trans z
        cases z'
        subst hb
        exact ⟨ha, by rw [List.length_map]; exact hl, vs, _, rv, ha⟩
      · have z' := (if_neg hb).symm.trans z
        cases z'
    · by_cases hb : b = a
      · exact hb
      · exact absurd (if_neg hb) z
end L2
namespace L2
open PySem PySem.Spec PyProof.Rows
noncomputable abbrev KOf {K : PySem.W.Frag} {h : Heap} (_ : K.In h) : PySem.W.Frag := K
theorem walk_of {l : PySem.W.OpenLaw} {n k : Nat} {q : Program} {loose : List Str} {XP : (Str → Option Value) → Heap → Prop} {YP : World → Heap → Prop} {d : DefRec} {K : Params → PySem.W.Frag} {CX : World → CXT} {sp : World → Sp} {x : Str}
    (hn : l.most = some n) (hn2 : n ≤ sizeLine) (hdf : d.params.defaults = []) (hr : Room k callerA)
    (hY : ∀ (w : World) (h : Heap), YP w h → (K w.params).In h)
    (F : ∀ (w : World) (mg : Str → Option Value) (fa : Addr) (h : Heap), (K w.params).In h → h.Ns mainGlobals mg → mg d.name = some (.ref fa) →
      ∃ fd : FuncData, (∀ (s : Shared) (u : Value), BindsTo s fd ⟨[u], []⟩ [(x, u)]) ∧
        ∀ base : Heap, (K w.params).In base → base.Ns mainGlobals mg → FnOk l.prog w (K w.params) mg base (CX w) k fa fd [x] (sp w))
    (hsp : ∀ (w : World) (H : Hp) (a : Addr) (ns : List Int), ns.length ≤ n → Only H → SqL (K w.params) H a (ns.map V.int) → sp w [.ref a] H (fun v _ => v = .bl true) fun _ _ _ => False)
    (hCX : ∀ (w : World) (H : Hp) (s : Shared) (e : Value) (s' : Shared), CX w [] H s (fun _ _ _ => False) e s' → False) :
    PySem.W.WalkO q loose XP YP l.row.toRowW d [] (fun f vs => PySem.call f vs) := by
  refine Att.attach_call hn hdf fun w s₀ s₁ mg mb fa o pm cd doc a vs ns G Y ho hd hcd hmg hobj hints hlen hg => ?_
  have KX := hY w _ Y
  obtain ⟨fd, hb, hF⟩ := F w mg fa _ KX G.T.g hmg
  exact law_call KX G.T.g G.T.b G.T.builtins G.T.nolimit hg hobj hints (Nat.le_trans hlen hn2) hr hF hb (fun H hO hS => hsp w H a ns hlen hO hS) fun H e s' => hCX w H s₁ e s'
end L2
/- THE LAST THEOREM (shape; LID, My.* are yours):
   My.Adr: a structure of the addresses that your layer names (classes, functions); My.Txt K t: a structure (Prop) of the equations over K;
   My.txt_mk : {K} {implicit addresses ..} (e1 : nsIn K mainGlobals "law" = some (some (.ref f))) (e2 : K.lookup f = some ⟨oc, od, .func (fnOf "law" "law" params body scope dV kV doc pm an cdv ct), sl⟩) (e3 : codeIn K cdv "law" = true) .. : ∃ t, My.Txt K t
set_option maxRecDepth 100000 in
set_option maxHeartbeats 0 in
theorem PySem.Challenge.cw_LID_holds : PySem.Challenge.rw_LID.Holds := by
  w_on; o_law; k_head; (case hw => w_witness2)
  k_fill
  refine L2.walk_of (l := PySem.Challenge.rw_LID) (n := 63) (k := 40) (x := "script") (CX := fun w => ..) (sp := fun _ => My.sp_law) rfl (by decide) rfl ⟨rfl, by decide, by decide⟩ (fun w h Y => PySem.W.kIn_of Y) ?F ?S ?C
  case F =>
    intro w mg fa h KX G hmg
    have T : ∃ t, My.Txt (L2.KOf KX) t := by
      dsimp only [L2.KOf]                          -- K must stand as «<heap const> w.params» for k_is
      refine' My.txt_mk ?e1 ?e2 ?e3 ..
      (case e1 => PySem.W.k_is)                    -- in the order: a name -> its address -> its object -> its parts
      (case e2 => PySem.W.k_is)
      ..
    obtain ⟨t, T⟩ := T
    have e0 := hmg.symm.trans (PySem.W.mg_of KX G T.law)
    cases e0                                       -- fa is the law's own address
    exact ⟨_, fun s u => .of_eq rfl, fun base kb nb => My.law_fn T kb nb⟩     -- if «.of_eq rfl» comes too early: refine' ⟨_, ?b, fun base kb nb => My.law_fn T kb nb⟩; exact fun s u => .of_eq rfl
  case S => exact fun w H a ns hl hO hS => ..
  case C => exact ..
(the tactic k_is has no namespace: write k_is) -/
namespace L2
open PySem PySem.Spec PyProof.Rows
noncomputable def inClass (s : Stmt) (j : Nat) : Stmt := match s with
  | .ClassDef _ _ _ body _ _ _ _ _ _ _ => body.getD j (.Pass ⟨0, 0, 0, 0⟩)
  | _ => .Pass ⟨0, 0, 0, 0⟩
noncomputable def defArgs (s : Stmt) : Arguments := match s with
  | .FunctionDef _ a _ _ _ _ _ _ _ _ => a
  | _ => { posonlyargs := [], args := [], vararg := none, kwonlyargs := [], kw_defaults := [], kwarg := none, defaults := [] }
noncomputable def defBody (s : Stmt) : List Stmt := match s with
  | .FunctionDef _ _ b _ _ _ _ _ _ _ => b
  | _ => []
noncomputable def defScope (s : Stmt) : Scope := match s with
  | .FunctionDef _ _ _ _ _ _ sc _ _ _ => sc
  | _ => { kind := .function, names := [], isGenerator := false, isCoroutine := false }
noncomputable abbrev CX0 : CXT := fun _ _ _ _ _ _ => False
noncomputable abbrev E0 : XK := fun _ _ _ => False
theorem pass0 {X : Cx} : Passes CX0 X E0 := fun _ _ _ _ _ _ _ h => h.elim
structure Fun (K : PySem.W.Frag) (x qual : Str) (st : Stmt) (f : Addr) (fd : FuncData) : Prop where
  ex : ∃ (oc : Value) (od : Option Addr) (kV doc pm : Value) (an : Option Addr) (cdv ct : Value) (osl : Array (Option Value)),
    fd = PySem.W.fnOf x qual (defArgs st) (defBody st) (defScope st) .none kV doc pm an cdv ct ∧ K.lookup f = some ⟨oc, od, .func fd, osl⟩ ∧ PySem.W.codeIn K cdv qual = true
  kp : PySem.W.keepIn K (.ref f) = true
section
variable {P : Program} {w : World} {K : PySem.W.Frag} {mg : Str → Option Value} {base : Heap}
theorem Fun.ok {x qual : Str} {st : Stmt} {f : Addr} {fd : FuncData} {N ps : List Str} {k : Nat} {sp : Sp} (F : Fun K x qual st f fd) (S : FnScope N ps (defScope st)) (len : ∀ vs H Q E, sp vs H Q E → vs.length = ps.length)
    (hbody : ∀ (cdv : Value) (A : Around) (outer : List Env) (s : Shared) (H : Hp) (vs : List V) (Q : VK) (E : XK), Room k (A.deeper (envOfC qual (defScope st) s.heap.objs.size f cdv)) → sp vs H Q E →
      ∃ t, PSs (cxOf CX0 P w K mg base N qual (defScope st) f cdv A outer s H E).nox (defBody st) t ∧ t { nx := fun _ H' => Q .non H', rt := Q } (start N vs) H) : FnOk P w K mg base CX0 (k + 1) f fd ps sp := by
  obtain ⟨oc, od, kV, doc, pm, an, cdv, ct, osl, rfl, lk, hcd⟩ := F.ex
  refine fn_of lk hcd S len fun A outer s H vs Q E hr hsp => ?_
  obtain ⟨t, h, q⟩ := hbody cdv A outer s H vs Q E hr hsp
  exact ⟨t, h.nox, q⟩
theorem Fun.binds {x qual : Str} {st : Stmt} {f : Addr} {fd : FuncData} {ps : List Str} (F : Fun K x qual st f fd)
    (h : ∀ (kV doc pm : Value) (an : Option Addr) (cdv ct : Value) (us : List Value), us.length = ps.length → bindArgs (PySem.W.fnOf x qual (defArgs st) (defBody st) (defScope st) .none kV doc pm an cdv ct) ⟨us, []⟩ = pure (ps.zip us)) : Binds K fd ps [] := by
  obtain ⟨oc, od, kV, doc, pm, an, cdv, ct, osl, rfl, lk, hcd⟩ := F.ex
  exact .all (h kV doc pm an cdv ct)
theorem fun_mk {x qual : Str} {st : Stmt} {f : Addr} {oc : Value} {od an : Option Addr} {osl : Array (Option Value)} {kV doc pm cdv ct : Value} (l : K.lookup f = some ⟨oc, od, .func (PySem.W.fnOf x qual (defArgs st) (defBody st) (defScope st) .none kV doc pm an cdv ct), osl⟩)
    (c : PySem.W.codeIn K cdv qual = true) (k : PySem.W.keepIn K (.ref f) = true) : Fun K x qual st f (PySem.W.fnOf x qual (defArgs st) (defBody st) (defScope st) .none kV doc pm an cdv ct) := ⟨⟨oc, od, kV, doc, pm, an, cdv, ct, osl, rfl, l, c⟩, k⟩
end
theorem iteF {A B : Prop} (h : B) : if false = true then A else B := by
  rw [if_neg Bool.false_ne_true]
  exact h
theorem iteT {A B : Prop} (h : A) : if true = true then A else B := by
  rw [if_pos rfl]
  exact h
noncomputable def Same (H H' : Hp) : Prop := ∀ b o, H b = some o → H' b = some o
theorem Same.refl (H : Hp) : Same H H := fun _ _ h => h
theorem Same.trans {H H1 H2 : Hp} (a : Same H H1) (b : Same H1 H2) : Same H H2 := fun c o h => b c o (a c o h)
theorem Same.free {H H' : Hp} (e : Same H H') {l : Addr} (h : H' l = Option.none) : H l = Option.none := by
  cases q : H l with
  | none => rfl
  | some o =>
    rw [e l o q] at h
    cases h
theorem Same.seq {K : PySem.W.Frag} {H H' : Hp} {a : Addr} {xs : List V} (e : Same H H') (h : SqL K H a xs) : SqL K H' a xs := by
  rcases h with (h | ⟨o, h⟩) | h
  · exact .inl (.inl (e _ _ h))
  · exact .inl (.inr ⟨o, e _ _ h⟩)
  · exact .inr h
end L2
set_option autoImplicit false
namespace L2
open PySem PySem.Spec PyProof.Rows
section
variable {κ : Type} [DecidableEq κ]
noncomputable def valV (kvs : List (κ × V)) (k : κ) : Option V := (kvs.find? fun kv => decide (kv.1 = k)).map (·.2)
noncomputable def putK (kvs : List (κ × V)) (k : κ) (v : V) : List (κ × V) :=
  if (kvs.any fun kv => decide (kv.1 = k)) = true then kvs.map (fun kv => if kv.1 = k then (kv.1, v) else kv) else kvs ++ [(k, v)]
noncomputable def dropK (kvs : List (κ × V)) (k : κ) : List (κ × V) := kvs.filter fun kv => decide (kv.1 ≠ k)
theorem valV_pos {p : κ × V} {r : List (κ × V)} {k : κ} (e : p.1 = k) : valV (p :: r) k = some p.2 := by simp [valV, List.find?_cons, e]
theorem valV_neg {p : κ × V} {r : List (κ × V)} {k : κ} (e : ¬ p.1 = k) : valV (p :: r) k = valV r k := by simp [valV, List.find?_cons, e]
theorem valV_any (k : κ) : ∀ kvs : List (κ × V), (kvs.any fun kv => decide (kv.1 = k)) = (valV kvs k).isSome
  | [] => rfl
  | p :: r => by
    rw [List.any_cons]
    by_cases e : p.1 = k
    · simp only [valV_pos e, decide_eq_true e, Bool.true_or, Option.isSome_some]
    · rw [valV_neg e, decide_eq_false e, Bool.false_or]; exact valV_any k r
theorem length_putK (kvs : List (κ × V)) (k : κ) (v : V) : (putK kvs k v).length ≤ kvs.length + 1 := by
  unfold putK
  split
  · rw [List.length_map]; omega
  · rw [List.length_append, List.length_cons, List.length_nil]; omega
theorem RelO.isSome_eq {o : Option V} {u : Option Value} (r : RelO o u) : o.isSome = u.isSome := by
  cases o with
  | none => cases u with
    | none => rfl
    | some _ => exact (show False from r).elim
  | some _ => cases u with
    | none => exact (show False from r).elim
    | some _ => rfl
theorem RelO.getD {o : Option V} {u : Option Value} {d : V} {d' : Value} (r : RelO o u) (rd : RelV d d') : RelV (o.getD d) (u.getD d') := by
  cases o with
  | none => cases u with
    | none => exact rd
    | some _ => exact (show False from r).elim
  | some _ => cases u with
    | none => exact (show False from r).elim
    | some _ => exact r
theorem KV.val {kvs : List (κ × V)} {vs : List (κ × Value)} (r : KV kvs vs) (k : κ) : RelO (valV kvs k) (valueAt vs k) := by
  unfold KV at r
  induction r with
  | nil => exact True.intro
  | @cons p q ps qs h t ih =>
    obtain ⟨h1, h2⟩ := h
    by_cases e : p.1 = k
    · have e' : q.1 = k := h1.symm.trans e
      have b : valueAt (q :: qs) k = some q.2 := by simp [valueAt, List.find?_cons, e']
      rw [valV_pos e, b]; exact h2
    · have e' : ¬ q.1 = k := fun z => e (h1.trans z)
      have b : valueAt (q :: qs) k = valueAt qs k := by simp [valueAt, List.find?_cons, e']
      rw [valV_neg e, b]; exact ih
theorem KV.any {kvs : List (κ × V)} {vs : List (κ × Value)} (r : KV kvs vs) (k : κ) : (kvs.any fun kv => decide (kv.1 = k)) = vs.any fun kv => decide (kv.1 = k) := by
  unfold KV at r
  induction r with
  | nil => rfl
  | cons h t ih => rw [List.any_cons, List.any_cons, ih, h.1]
theorem KV.repl {kvs : List (κ × V)} {vs : List (κ × Value)} (r : KV kvs vs) (k : κ) {y : V} {u : Value} (ry : RelV y u) :
    KV (kvs.map fun kv => if kv.1 = k then (kv.1, y) else kv) (vs.map fun kv => if kv.1 = k then (kv.1, u) else kv) := by
  unfold KV at r ⊢
  induction r with
  | nil => exact .nil
  | @cons p q ps qs h t ih =>
    rw [List.map_cons, List.map_cons]
    refine .cons ?_ ih
    obtain ⟨h1, h2⟩ := h
    by_cases e : p.1 = k
    · rw [if_pos e, if_pos (h1.symm.trans e)]; exact ⟨h1, ry⟩
    · rw [if_neg e, if_neg (fun z => e (h1.trans z))]; exact ⟨h1, h2⟩
theorem KV.put {kvs : List (κ × V)} {vs : List (κ × Value)} (r : KV kvs vs) (k : κ) {y : V} {u : Value} (ry : RelV y u) : KV (putK kvs k y) (stored vs k u) := by
  unfold putK stored
  rw [r.any k]
  by_cases e : (vs.any fun kv => decide (kv.1 = k)) = true
  · rw [if_pos e, if_pos e]; exact r.repl k ry
  · rw [if_neg e, if_neg e]; exact Paired.snoc r ⟨rfl, ry⟩
theorem KV.keys {kvs : List (κ × V)} {vs : List (κ × Value)} (r : KV kvs vs) : kvs.map (·.1) = vs.map (·.1) := by
  unfold KV at r
  induction r with
  | nil => rfl
  | cons h t ih => rw [List.map_cons, List.map_cons, ih, h.1]
theorem KV.length {kvs : List (κ × V)} {vs : List (κ × Value)} (r : KV kvs vs) : kvs.length = vs.length := Paired.length r
end
theorem kV_is {P : Program} {w : World} {k : Key} {u : Value} (r : RelV (kV k) u) : (mixKind P w).is k u = true := by
  cases k with
  | inl i => obtain ⟨t, e⟩ := (show ∃ t, u = Value.int i t from r); subst e; exact mixKind_int P w i t
  | inr x => obtain ⟨t, e⟩ := (show ∃ t, u = Value.str x t from r); subst e; exact mixKind_str P w x t
theorem items_are {P : Program} {w : World} : ∀ {ks : List Key} {us : List Value}, Vals (ks.map kV) us → ItemsAre (mixKind P w) ks us
  | [], _, r => by rw [List.map_nil] at r; cases r; exact .nil
  | k :: ks, _, r => by
    rw [List.map_cons] at r
    cases r with
    | cons h t => exact .cons (kV_is h) (items_are t)
noncomputable abbrev KT (H : Hp) : List (List Key × V) → List (List Key × Addr × Value) → Prop := Paired fun p q => p.1 = q.1 ∧ H q.2.1 = some (.tup (p.1.map kV)) ∧ RelV p.2 q.2.2
theorem KT.val {H : Hp} {kvs : List (List Key × V)} {xs : List (List Key × Addr × Value)} (r : KT H kvs xs) (k : List Key) : RelO (valV kvs k) ((atKey xs k).map (·.2)) := by
  induction r with
  | nil => exact True.intro
  | @cons p q ps qs h t ih =>
    obtain ⟨h1, _, h2⟩ := h
    by_cases e : p.1 = k
    · have e' : q.1 = k := h1.symm.trans e
      have b : atKey (q :: qs) k = some q.2 := by simp [atKey, List.find?_cons, e']
      rw [valV_pos e, b]; exact h2
    · have e' : ¬ q.1 = k := fun z => e (h1.trans z)
      have b : atKey (q :: qs) k = atKey qs k := by simp [atKey, List.find?_cons, e']
      rw [valV_neg e, b]; exact ih
theorem KT.repl {H : Hp} {kvs : List (List Key × V)} {xs : List (List Key × Addr × Value)} (r : KT H kvs xs) (k : List Key) {y : V} {u : Value} (ry : RelV y u) :
    KT H (kvs.map fun kv => if kv.1 = k then (kv.1, y) else kv) (xs.map (putAt k u)) := by
  induction r with
  | nil => exact .nil
  | @cons p q ps qs h t ih =>
    rw [List.map_cons, List.map_cons]
    refine .cons ?_ ih
    obtain ⟨h1, h2, h3⟩ := h
    unfold putAt
    by_cases e : p.1 = k
    · rw [if_pos e, if_pos (h1.symm.trans e)]; exact ⟨h1, h2, ry⟩
    · rw [if_neg e, if_neg (fun z => e (h1.trans z))]; exact ⟨h1, h2, h3⟩
theorem KT.put {H : Hp} {kvs : List (List Key × V)} {xs : List (List Key × Addr × Value)} (r : KT H kvs xs) (k : List Key) {b : Addr} {y : V} {u : Value} (hb : H b = some (.tup (k.map kV))) (ry : RelV y u) :
    KT H (putK kvs k y) (storedH xs k b u) := by
  have e : (kvs.any fun kv => decide (kv.1 = k)) = (atKey xs k).isSome := by
    rw [valV_any, (r.val k).isSome_eq, Option.isSome_map]
  unfold putK storedH
  rw [e]
  by_cases q : (atKey xs k).isSome = true
  · rw [if_pos q, if_pos q]; exact r.repl k ry
  · rw [if_neg q, if_neg q]; exact Paired.snoc r ⟨rfl, hb, ry⟩
theorem KT.keeps {H H' : Hp} {kvs : List (List Key × V)} {xs : List (List Key × Addr × Value)} (r : KT H kvs xs) (ht : ∀ b ys, H b = some (.tup ys) → H' b = some (.tup ys)) : KT H' kvs xs :=
  Paired.mapP r fun _ _ z => ⟨z.1, ht _ _ z.2.1, z.2.2⟩
section
variable {P : Program} {w : World} {H : Hp} {h : Heap} {a : Addr}
theorem rd_of {u : HO} (ok : HOk P w H h) (e : Rd H a u) : ObjOk P w H h a u := e.ok ok
theorem dk_rd {kvs : List (Key × V)} (ok : HOk P w H h) (e : Rd H a (.dK kvs)) : kvs.length ≤ sizeLine ∧ (a == sysModules) = false ∧ ∃ vs, KV kvs vs ∧ h.DictOf (mixKind P w) a vs :=
  show ObjOk P w H h a (.dK kvs) from rd_of ok e
theorem dk_of {kvs : List (Key × V)} (ok : HOk P w H h) (e : H a = some (.dK kvs)) : kvs.length ≤ sizeLine ∧ (a == sysModules) = false ∧ ∃ vs, KV kvs vs ∧ h.DictOf (mixKind P w) a vs := dk_rd ok (.inl e)
theorem key_of {ks : List Key} (ok : HOk P w H h) (e : H a = some (.tup (ks.map kV))) : (tupleKind (mixKind P w)).is h ks a := by
  obtain ⟨_, its, r, o, h1, h2, n, h3⟩ := (show ObjOk P w H h a (.tup (ks.map kV)) from ok a _ e)
  exact ⟨o, its.toArray, n, h1, h2, h3, by simpa using items_are r⟩
theorem dt_rd {kvs : List (List Key × V)} (ok : HOk P w H h) (e : Rd H a (.dT kvs)) : kvs.length ≤ sizeLine ∧ (a == sysModules) = false ∧
    ∃ xs, KT H kvs xs ∧ h.DictOfH (tupleKind (mixKind P w)) a xs := by
  obtain ⟨z, y, xs, r, o, es, ep, h1, h2, h3, h4, h5⟩ := (show ObjOk P w H h a (.dT kvs) from rd_of ok e)
  refine ⟨z, y, xs, r, o, es, ep, h1, h2, h3, h4, fun x hx => ?_, h5⟩
  have all : ∀ {l : List (List Key × V)} {m : List (List Key × Addr × Value)}, KT H l m → ∀ x ∈ m, (tupleKind (mixKind P w)).is h x.1 x.2.1 := by
    intro l m q
    induction q with
    | nil => intro x hx; exact nomatch hx
    | @cons p q ps qs hq t ih =>
      intro x hx
      rcases List.mem_cons.mp hx with e | hx
      · subst e
        exact key_of ok (by rw [← hq.1]; exact hq.2.1)
      · exact ih x hx
  exact all r x hx
theorem dt_of {kvs : List (List Key × V)} (ok : HOk P w H h) (e : H a = some (.dT kvs)) : kvs.length ≤ sizeLine ∧ (a == sysModules) = false ∧
    ∃ xs, KT H kvs xs ∧ h.DictOfH (tupleKind (mixKind P w)) a xs := dt_rd ok (.inl e)
end
noncomputable def DGet (H : Hp) (a : Addr) (y : V) (r : Option V) : Prop :=
  (∃ kvs k, Rd H a (.dK kvs) ∧ y = kV k ∧ r = valV kvs k) ∨ ∃ kvs k b, Rd H a (.dT kvs) ∧ y = .ref b ∧ H b = some (.tup (k.map kV)) ∧ r = valV kvs k
noncomputable def DPut (H : Hp) (a : Addr) (y v : V) (H' : Hp) : Prop :=
  (∃ kvs k, H a = some (.dK kvs) ∧ y = kV k ∧ kvs.length < sizeLine ∧ H' = upd H a (.dK (putK kvs k v))) ∨
  ∃ kvs k b, H a = some (.dT kvs) ∧ y = .ref b ∧ H b = some (.tup (k.map kV)) ∧ kvs.length < sizeLine ∧ H' = upd H a (.dT (putK kvs k v))
theorem DGet.k {H : Hp} {a : Addr} {kvs : List (Key × V)} {k : Key} (e : H a = some (.dK kvs)) : DGet H a (kV k) (valV kvs k) := .inl ⟨kvs, k, .inl e, rfl, rfl⟩
theorem DPut.k {H : Hp} {a : Addr} {kvs : List (Key × V)} {k : Key} {v : V} (e : H a = some (.dK kvs)) (hl : kvs.length < sizeLine) : DPut H a (kV k) v (upd H a (.dK (putK kvs k v))) := .inl ⟨kvs, k, e, rfl, hl, rfl⟩
section
variable {X : Cx} {pins : List (Addr × Obj)} {σ : St} {H : Hp} {s : Shared} {a : Addr} {y v : V} {u r : Value} {o : Option V} {A : Around} {E : Value → Shared → Prop}
theorem Inv.big (I : Inv X pins σ H s) : sysModules < s.heap.objs.size := by
  have h : mainGlobals < s.heap.objs.size := (I.mod.glob.keeps I.bk).lt
  exact Nat.lt_trans (by decide) h
theorem d_write {h' : Heap} {t' : Nat} {ob : HO} (I : Inv X pins σ H s) (mu : Mut (H a)) (hs : Heap.SameBut a s.heap h') (he : ∃ q, h'.get? a = some q) (new : ObjOk X.prog X.w (upd H a ob) h' a ob) :
    Inv X pins σ (upd H a ob) { s with heap := h', toks := t' } :=
  I.write (x := a) (e := a) mu (.inl rfl) (fun b q hb z => (hs.2 b hb).trans z) he new
theorem dk_new {P : Program} {w : World} {H' : Hp} {h' : Heap} {kvs : List (Key × V)} {vs : List (Key × Value)} (z : kvs.length ≤ sizeLine) (hd : (a == sysModules) = false) (rel : KV kvs vs) (dd : h'.DictOf (mixKind P w) a vs) :
    ObjOk P w H' h' a (.dK kvs) := ⟨z, hd, vs, rel, dd⟩
theorem d_setItem {H' : Hp} {Q : Unit → Shared → Prop} (hu : A.units + 1 < cLine) (I : Inv X pins σ H s) (g : DPut H a y v H') (ry : RelV y u) (rv : RelV v r) (h : ∀ s', Inv X pins σ H' s' → Q () s') :
    wpAny (model X.prog X.w) A (setItem (.ref a) u r) Q E s := by
  rcases g with ⟨kvs, k, e, ey, l, eH⟩ | ⟨kvs, k, b, e, ey, eb, l, eH⟩
  · subst ey eH
    obtain ⟨z, hd, vs, rel, dd⟩ := dk_of I.hok e
    have hz : vs.length ≤ sizeLine := by rw [← rel.length]; exact z
    have hl : (putK kvs k v).length ≤ sizeLine := by have := length_putK kvs k v; omega
    refine wpAny_setItem_pairs (hsz := hz) (kV_is ry) dd fun h' dd' hs => h _ ?_
    have he : ∃ q, h'.get? a = some q := let ⟨q, _, _, hq, _⟩ := dd'; ⟨q, hq⟩
    exact d_write I (by rw [e]; exact True.intro) hs he (dk_new hl hd (rel.put k rv) dd')
  · subst ey eH
    cases (show u = Value.ref b from ry)
    obtain ⟨z, hd, xs, rel, dd⟩ := dt_of I.hok e
    have hz : xs.length ≤ sizeLine := by rw [← Paired.length rel]; exact z
    have hl : (putK kvs k v).length ≤ sizeLine := by have := length_putK kvs k v; omega
    refine wpAny_setItem_heap (hsz := hz) (tupleKind_room_in1 hu) (key_of I.hok eb) dd fun h' dd' hs => h _ ?_
    obtain ⟨q, es, ep, hq, h2, h3, h4, _, h5⟩ := dd'
    refine d_write I (by rw [e]; exact True.intro) hs ⟨q, hq⟩ ⟨hl, hd, _, (rel.put k eb rv).keeps fun c ys ec => ?_, q, es, ep, hq, h2, h3, h4, h5⟩
    rw [upd_ne (ne_of ec e (fun z => nomatch z))]
    exact ec
end
noncomputable def NoSl (i : Expr) : Prop := ∀ ov iv, subscripted i false ov iv = operate [ov, iv] (getItem ov iv)
noncomputable def tDGet (td ty : TE) : TE := fun σ H Q => td σ H fun x H1 => ty σ H1 fun y H2 => ∃ a v, x = .ref a ∧ DGet H2 a y (some v) ∧ Q v H2
noncomputable def tDIn (ty td : TE) : TE := fun σ H Q => ty σ H fun y H1 => td σ H1 fun x H2 => ∃ a o, x = .ref a ∧ DGet H2 a y o ∧ Q (.bl o.isSome) H2
noncomputable def tDNotIn (ty td : TE) : TE := fun σ H Q => ty σ H fun y H1 => td σ H1 fun x H2 => ∃ a o, x = .ref a ∧ DGet H2 a y o ∧ Q (.bl (!o.isSome)) H2
noncomputable def sDPut (td ty tv : TE) : TS := fun D σ H => tv σ H fun v H1 => td σ H1 fun x H2 => ty σ H2 fun y H3 => ∃ a H4, x = .ref a ∧ DPut H3 a y v H4 ∧ D.nx σ H4
noncomputable def sDAug (td ty tv : TE) (rd : V → V → Hp → VK → Prop) : TS := fun D σ H => td σ H fun x H1 => ty σ H1 fun y H2 => ∃ a v, x = .ref a ∧ DGet H2 a y (some v) ∧
  tv σ H2 fun y2 H3 => rd v y2 H3 fun z H4 => ∃ H5, DPut H4 a y z H5 ∧ D.nx σ H5
noncomputable def sDDel (td ty : TE) : TS := fun D σ H => td σ H fun x H1 => ty σ H1 fun y H2 => ∃ a kvs k, x = .ref a ∧ H2 a = some (.dK kvs) ∧ y = kV k ∧ (valV kvs k).isSome = true ∧ D.nx σ (upd H2 a (.dK (dropK kvs k)))
section
variable {X : Cx} {o i e value : Expr} {pos pos' tpos : Pos} {td ty tv : TE}
theorem ps_dput (hu : X.A.units + 1 < cLine) (ho : PE X o td) (hi : PE X i ty) (hv : PE X value tv) (hs : swapsWith value (some (.Subscript o i pos')) pos.line X.env = pure false) :
    PS X (.Assign [.Subscript o i pos'] value pos) (sDPut td ty tv) := by
  intro pins s σ H D I h
  refine wpAny_Assign_Subscript (thn (hv pins s σ H _ I h) fun r s1 ⟨v, H1, I1, rv, q1⟩ => thn (ho pins s1 σ H1 _ I1 q1) fun u s2 ⟨x, H2, I2, rx, q2⟩ => thn (hi pins s2 σ H2 _ I2 q2) fun iv s3 ⟨y, H3, I3, ry, a, H4, ex, g, q3⟩ => ?_) hs
  subst ex
  obtain rfl : u = Value.ref a := rx
  exact d_setItem hu I3 g ry rv fun s4 I4 => ⟨σ, H4, I4, q3⟩
end
theorem dk_empty {P : Program} {w : World} {H : Hp} (h : Heap) (hb : sysModules < h.objs.size) : ObjOk P w H (h.push { cls := .type "dict", data := .dict #[] }) h.objs.size (.dK []) :=
  ⟨Nat.zero_le _, beq_eq_false_iff_ne.mpr (Ne.symm (Nat.ne_of_lt hb)), [], .nil, Heap.DictOf.new h⟩
noncomputable def tDNewK : TE := fun _ H Q => ∀ p, H p = none → Q (.ref p) (upd H p (.dK []))
noncomputable def tDNewT : TE := fun _ H Q => ∀ p, H p = none → Q (.ref p) (upd H p (.dT []))
section
variable {X : Cx} {pos : Pos}
theorem pe_dnewK : PE X (.Dict [] [] pos) tDNewK := fun pins s σ H Q I h =>
  wpAny_Dict_empty ⟨.ref s.heap.objs.size, _, I.laid (a := s.heap.objs.size) (o := .dK []) (t' := s.toks) (fun _ _ q => Heap.get?_push_of_some _ q) (Nat.le_refl _) (dk_empty s.heap I.big), rfl, h _ (I.hok.fresh (Nat.le_refl _))⟩
end
noncomputable def tPairs : List (TE × TE) → St → Hp → (List (V × V) → Hp → Prop) → Prop
  | [], _, H, Q => Q [] H
  | (tk, tv) :: r, σ, H, Q => tk σ H fun x H1 => tv σ H1 fun y H2 => tPairs r σ H2 fun ps H3 => Q ((x, y) :: ps) H3
noncomputable abbrev VV : List (V × V) → List (Value × Value) → Prop := Paired fun p q => RelV p.1 q.1 ∧ RelV p.2 q.2
noncomputable def PPs (X : Cx) (pos : Pos) (keys : List (Option Expr)) (values : List Expr) (trs : List (TE × TE)) : Prop :=
  ∀ (pins : List (Addr × Obj)) (s : Shared) (σ : St) (H : Hp) (Q : List (V × V) → Hp → Prop), Inv X pins σ H s → tPairs trs σ H Q →
    wpAny (model X.prog X.w) X.A (evalPairs (pairTrees keys values X.env pos)) (fun vs s' => ∃ ps H', Inv X pins σ H' s' ∧ VV ps vs ∧ Q ps H') X.xe s
noncomputable def mergeK (kvs more : List (Key × V)) : List (Key × V) := more.foldl (fun acc kv => putK acc kv.1 kv.2) kvs
noncomputable def tDisp (trs : List (TE × TE)) : TE := fun σ H Q => ∀ p, H p = none → tPairs trs σ (upd H p (.dK [])) fun ps H2 => H2 p = some (.dK []) ∧ ∃ kvs : List (Key × V), ps = kvs.map (fun kv => (kV kv.1, kv.2)) ∧ kvs.length ≤ 15 ∧ Q (.ref p) (upd H2 p (.dK (mergeK [] kvs)))
structure M1 (X : Cx) (o : Expr) (m : Str) (apos : Pos) (e : Expr) (cpos : Pos) : Prop where
  base : attributeBase o m X.env (eval o X.env) = eval o X.env
  few : ((backTo cpos (starEach [e] X.env)).all (fun x => !x.1) && (backToKw cpos (keywordEach [] X.env)).all (fun x => x.1.isSome)
    && decide (([e] : List Expr).length + ([] : List Keyword).length + (if ([] : List Keyword).isEmpty then 0 else 1) < 30)) = true
  line : (apos.endLine == cpos.line) = true
  trees : backTo cpos (starEach [e] X.env) = [(false, eval e X.env)]
structure M2 (X : Cx) (o : Expr) (m : Str) (apos : Pos) (e f : Expr) (cpos : Pos) : Prop where
  base : attributeBase o m X.env (eval o X.env) = eval o X.env
  few : ((backTo cpos (starEach [e, f] X.env)).all (fun x => !x.1) && (backToKw cpos (keywordEach [] X.env)).all (fun x => x.1.isSome)
    && decide (([e, f] : List Expr).length + ([] : List Keyword).length + (if ([] : List Keyword).isEmpty then 0 else 1) < 30)) = true
  line : (apos.endLine == cpos.line) = true
  trees : backTo cpos (starEach [e, f] X.env) = [(false, eval e X.env), (false, eval f X.env)]
noncomputable def IsD (H : Hp) (a : Addr) : Prop := (∃ kvs, Rd H a (.dK kvs)) ∨ ∃ kvs, Rd H a (.dT kvs)
theorem isD_at {X : Cx} {pins : List (Addr × Obj)} {σ : St} {H : Hp} {s : Shared} {a : Addr} (I : Inv X pins σ H s) (d : IsD H a) :
    s.TypeIs (.ref a) "dict" ∧ (∀ b, Value.ref a = .ref b → ∃ ob, s.heap.get? b = some ob ∧ ob.dict = none) ∧ (a == sysModules) = false := by
  rcases d with ⟨kvs, e⟩ | ⟨kvs, e⟩
  · obtain ⟨_, hd, vs, _, dd⟩ := dk_rd I.hok e
    refine ⟨dd.typeIs, fun b q => ?_, hd⟩
    cases q
    obtain ⟨ob, _, _, h1, h2, _⟩ := dd
    exact ⟨ob, h1, h2.2.1⟩
  · obtain ⟨_, hd, xs, _, dd⟩ := dt_rd I.hok e
    refine ⟨dd.typeIs, fun b q => ?_, hd⟩
    cases q
    obtain ⟨ob, _, _, h1, h2, _⟩ := dd
    exact ⟨ob, h1, h2.2.1⟩
section
variable {X : Cx} {pins : List (Addr × Obj)} {σ : St} {H : Hp} {s : Shared} {a : Addr} {y d : V} {u r : Value} {o : Option V} {A : Around} {E : Value → Shared → Prop}
theorem d_get2 {Q : Value → Shared → Prop} (hu : A.units + 1 < cLine) (I : Inv X pins σ H s) (g : DGet H a y o) (ry : RelV y u) (rd : RelV d r) (h : ∀ w' s', Inv X pins σ H s' → RelV (o.getD d) w' → Q w' s') :
    wpAny (model X.prog X.w) A (call (.builtin "dict.get") [.ref a, u, r]) Q E s := by
  rcases g with ⟨kvs, k, e, ey, l⟩ | ⟨kvs, k, b, e, ey, eb, l⟩
  · subst ey
    obtain ⟨z, hd, vs, rel, dd⟩ := dk_rd I.hok e
    refine call_meetsIn PySem.F.slot_dict_get dd.typeIs PySem.F.entry_dict_get (PySem.F.args_dict_get_3 _ _ _) (meets_dict_get_default (mixKind X.prog X.w) a (kV_is ry) hd r) ⟨_, dd.mapOf, h _ _ (I.tok _) ?_⟩
    rw [l]
    exact (rel.val k).getD rd
  · subst ey
    cases (show u = Value.ref b from ry)
    obtain ⟨z, hd, xs, rel, dd⟩ := dt_rd I.hok e
    refine call_meetsIn PySem.F.slot_dict_get dd.typeIs PySem.F.entry_dict_get (PySem.F.args_dict_get_3 _ _ _) (meetsH_dict_get_default (tupleKind (mixKind X.prog X.w)) a b hd r) ⟨tupleKind_room_in1 hu, k, xs, key_of I.hok eb, dd, h _ _ (I.tok _) ?_⟩
    rw [l]
    exact (rel.val k).getD rd
end
noncomputable def tDGet1 (td ty : TE) : TE := fun σ H Q => td σ H fun x H1 => ∃ a, x = .ref a ∧ IsD H1 a ∧ ty σ H1 fun y H2 => ∃ o, DGet H2 a y o ∧ Q (o.getD .non) H2
noncomputable def tDGet2 (td ty tx : TE) : TE := fun σ H Q => td σ H fun x H1 => ∃ a, x = .ref a ∧ IsD H1 a ∧ ty σ H1 fun y H2 => tx σ H2 fun z H3 => ∃ o, DGet H3 a y o ∧ Q (o.getD z) H3
noncomputable def tDPop1 (td ty : TE) : TE := fun σ H Q => td σ H fun x H1 => ∃ a, x = .ref a ∧ IsD H1 a ∧ ty σ H1 fun y H2 => ∃ kvs k v, H2 a = some (.dK kvs) ∧ y = kV k ∧ valV kvs k = some v ∧ Q v (upd H2 a (.dK (dropK kvs k)))
noncomputable def tDPop2 (td ty tx : TE) : TE := fun σ H Q => td σ H fun x H1 => ∃ a, x = .ref a ∧ IsD H1 a ∧ ty σ H1 fun y H2 => tx σ H2 fun z H3 => ∃ kvs k, H3 a = some (.dK kvs) ∧ y = kV k ∧
  (∀ v, valV kvs k = some v → Q v (upd H3 a (.dK (dropK kvs k)))) ∧ (valV kvs k = none → Q z H3)
section
variable {X : Cx} {o e f : Expr} {apos cpos : Pos} {td ty tx : TE}
theorem pe_dget2 (hu : X.A.units + 1 < cLine) (ho : PE X o td) (he : PE X e ty) (hf : PE X f tx) (m : M2 X o "get" apos e f cpos) : PE X (.Call (.Attribute o "get" apos) [e, f] [] cpos) (tDGet2 td ty tx) := by
  intro pins s σ H Q I h
  refine wpAny_Call_method m.base m.few m.line PySem.F.plainAttrs_dict PySem.F.slot_dict_get PySem.F.type_dict_get (thn (ho pins s σ H _ I h) fun u s1 ⟨x, H1, I1, rx, a, ex, d, q1⟩ => ?_)
  subst ex
  obtain rfl : u = Value.ref a := rx
  obtain ⟨t1, t2, _⟩ := isD_at I1 d
  refine ⟨t1, t2, ?_⟩
  rw [m.trees]
  refine Calls.callWith_builtin rfl (Calls.evalArgs_plain (Calls.spliced_cons (thn (he pins s1 σ H1 _ I1 q1) fun iv s2 ⟨y, H2, I2, ry, q2⟩ =>
    Calls.spliced_cons (thn (hf pins s2 σ H2 _ I2 q2) fun fv s3 ⟨z, H3, I3, rz, ov, g, q3⟩ => Calls.spliced_nil ?_))))
  exact d_get2 hu I3 g ry rz fun w' s4 I4 rw' => ⟨_, H3, I4, rw', q3⟩
end
end L2
namespace L2
open PySem
noncomputable def clGo (env : Env) : List (Str × NameKind) → List (Str × Addr) → List (Str × Addr)
  | [], cs => cs
  | (n, k) :: r, cs => clGo env r (if k == .free then (n, (env.cells.lookup n).getD 0) :: cs else cs)
noncomputable def clOf (scope : Scope) (env : Env) : List (Str × Addr) := clGo env scope.names []
theorem closureFor_eq {scope : Scope} {env : Env} (h : ∀ x ∈ scope.names, x.2 = .free → ∃ c, env.cells.lookup x.1 = some c) : closureFor scope env = pure (clOf scope env) := by
  unfold closureFor clOf
  have key : ∀ (l : List (Str × NameKind)) (cs : List (Str × Addr)), (∀ x ∈ l, x.2 = .free → ∃ c, env.cells.lookup x.1 = some c) →
      (forIn l cs (fun x (r : List (Str × Addr)) => match x with
        | (name, kind) => if (kind == NameKind.free) = true then do let a ← cellOf env name; pure (ForInStep.yield ((name, a) :: r)) else pure (ForInStep.yield r)) : Sem (List (Str × Addr))) = pure (clGo env l cs) := by
    intro l
    induction l with
    | nil => intro cs _; rfl
    | cons x r ih =>
      intro cs hx
      obtain ⟨n, k⟩ := x
      rw [List.forIn_cons]
      by_cases hk : (k == NameKind.free) = true
      · obtain ⟨c, hc⟩ := hx (n, k) List.mem_cons_self (by simpa using hk)
        have e : cellOf env n = pure c := by unfold cellOf; rw [show env.cells.lookup n = some c from hc]
        simp only [hk, if_true, e, pure_bind]
        rw [ih _ fun y hy => hx y (List.mem_cons_of_mem _ hy)]
        have hc' : env.cells.lookup n = some c := hc
        simp only [clGo, hk, if_true, hc', Option.getD_some]
      · simp only [hk, Bool.false_eq_true, if_false, pure_bind]
        rw [ih _ fun y hy => hx y (List.mem_cons_of_mem _ hy)]
        simp only [clGo, hk, Bool.false_eq_true, if_false]
  have := key scope.names [] h
  dsimp only
  rw [this]
  rfl
theorem clGo_mem (env : Env) : ∀ (l : List (Str × NameKind)) (cs : List (Str × Addr)) (p : Str × Addr), p ∈ clGo env l cs → p ∈ cs ∨ ((p.1, NameKind.free) ∈ l ∧ p.2 = (env.cells.lookup p.1).getD 0)
  | [], cs, p, h => .inl h
  | (n, k) :: r, cs, p, h => by
    unfold clGo at h
    rcases clGo_mem env r _ p h with h | ⟨h1, h2⟩
    · by_cases hk : (k == NameKind.free) = true
      · rw [if_pos hk] at h
        rcases List.mem_cons.mp h with h | h
        · have e : k = .free := by simpa using hk
          subst h; subst e
          exact .inr ⟨List.mem_cons_self, rfl⟩
        · exact .inl h
      · rw [if_neg hk] at h; exact .inl h
    · exact .inr ⟨List.mem_cons_of_mem _ h1, h2⟩
theorem clGo_has (env : Env) : ∀ (l : List (Str × NameKind)) (cs : List (Str × Addr)) (n : Str), ((n, NameKind.free) ∈ l ∨ ∃ a, (n, a) ∈ cs) → ∃ a, (n, a) ∈ clGo env l cs
  | [], cs, n, h => by
    rcases h with h | h
    · cases h
    · exact h
  | (m, k) :: r, cs, n, h => by
    unfold clGo
    refine clGo_has env r _ n ?_
    rcases h with h | ⟨a, h⟩
    · rcases List.mem_cons.mp h with h | h
      · cases h
        exact .inr ⟨_, by rw [if_pos (by simp)]; exact List.mem_cons_self⟩
      · exact .inl h
    · refine .inr ⟨a, ?_⟩
      split
      · exact List.mem_cons_of_mem _ h
      · exact h
theorem lookup_of_mem_some {β : Type} : ∀ {l : List (Str × β)} {n : Str} {a : β}, (n, a) ∈ l → ∃ b, l.lookup n = some b
  | [], _, _, h => by cases h
  | (m, b) :: r, n, a, h => by
    rw [List.lookup_cons]
    by_cases e : n = m
    · subst e; simp
    · have hb : (n == m) = false := by simpa using e
      rw [hb]
      rcases List.mem_cons.mp h with h | h
      · cases h; exact absurd rfl e
      · exact lookup_of_mem_some h
theorem clOf_in {scope : Scope} {env : Env} (h : ∀ x ∈ scope.names, x.2 = .free → ∃ c, env.cells.lookup x.1 = some c) {x : Str} {c : Addr} (e : (clOf scope env).lookup x = some c) : env.cells.lookup x = some c := by
  have m := PySem.mem_of_lookup e
  rcases clGo_mem env scope.names [] (x, c) m with h' | ⟨h1, h2⟩
  · cases h'
  · obtain ⟨d, hd⟩ := h _ h1 rfl
    have hd' : env.cells.lookup x = some d := hd
    have h2' : c = (env.cells.lookup x).getD 0 := h2
    rw [hd'] at h2' ⊢
    rw [h2']; rfl
theorem clOf_has {scope : Scope} {env : Env} {x : Str} (h : (x, NameKind.free) ∈ scope.names) : ∃ c, (clOf scope env).lookup x = some c := by
  obtain ⟨a, ha⟩ := clGo_has env scope.names [] x (.inl h)
  exact lookup_of_mem_some ha
end L2
namespace L2
open PySem PySem.Spec PyProof.Rows
structure CompSc (X : Cx) (scope : Scope) (N' : List Str) (mp : List (Option Nat)) : Prop where
  kind : scope.kind = .function
  nocell : ∀ x ∈ scope.names, x.2 ≠ .cell
  names : ∀ x ∈ scope.names, x.2 = .local → scope.names.lookup x.1 = some .local
  fr : ∀ x ∈ scope.names, x.2 = .free → X.env.scope.names.lookup x.1 = some .cell ∨ X.env.scope.names.lookup x.1 = some .free
  len : mp.length = N'.length
  map : ∀ (i : Nat) (x : Str) (j : Nat), N'[i]? = some x → mp[i]? = some (some j) → X.N[j]? = some x ∧ (x, NameKind.free) ∈ scope.names ∧ ((relabel scope X.env).names.lookup x = some .cell ∨ (relabel scope X.env).names.lookup x = some .free)
noncomputable def inSt (mp : List (Option Nat)) (σ : St) : St := mp.map fun o => o.bind fun j => (σ[j]?).join
noncomputable def compCx (X : Cx) (scope : Scope) (N' : List Str) (s : Shared) (H : Hp) (fp : List Addr) : Cx :=
  { X with N := N', s₀ := s, H₀ := H, env := compEnvC scope (clOf scope X.env) s.heap.objs.size X.env, outer := X.stack, ex := fp, fn := fun _ => false, pn := [], xe := fun _ _ => False }
theorem relabel_free {scope : Scope} {env : Env} {x : Str} (nc : ∀ y ∈ scope.names, y.2 ≠ .cell) (h : (relabel scope env).names.lookup x = some .cell ∨ (relabel scope env).names.lookup x = some .free) : (x, NameKind.free) ∈ scope.names := by
  have m : ∃ k, (x, k) ∈ (relabel scope env).names ∧ (k = .cell ∨ k = .free) := by
    rcases h with h | h
    · exact ⟨_, PySem.mem_of_lookup h, .inl rfl⟩
    · exact ⟨_, PySem.mem_of_lookup h, .inr rfl⟩
  obtain ⟨k, hm, hk⟩ := m
  unfold relabel at hm
  obtain ⟨⟨n, k'⟩, hin, e⟩ := List.mem_map.mp hm
  dsimp only at e
  split at e
  · rename_i hc
    have e1 : n = x := congrArg Prod.fst e
    have e2 : k' = .free := by
      have := (Bool.and_eq_true_iff.mp (Bool.and_eq_true_iff.mp hc).1).1
      simpa using this
    rw [← e1, ← e2]; exact hin
  · have e1 : n = x := congrArg Prod.fst e
    have e2 : k' = k := congrArg Prod.snd e
    rcases hk with hk | hk
    · exact absurd (e2.trans hk) (nc _ hin)
    · rw [← e1, ← hk, ← e2]; exact hin
section
variable {X : Cx} {pins : List (Addr × Obj)} {σ : St} {H : Hp} {s : Shared} {scope : Scope} {N' : List Str} {mp : List (Option Nat)} {fp : List Addr}
theorem CompSc.cells (ck : CompSc X scope N' mp) (ok : X.Ok) : ∀ x ∈ scope.names, x.2 = .free → ∃ c, X.env.cells.lookup x.1 = some c := fun x hx hf => ok.has x.1 (ck.fr x hx hf)
theorem Inv.inner (I : Inv X pins σ H s) (ck : CompSc X scope N' mp) (hf : ∀ b ∈ fp, FpOk X pins H b) (hlt : ∀ b ∈ fp, b < s.heap.objs.size) {h₁ : Heap} {tk : Nat}
    (hn : h₁.Ns s.heap.objs.size (fun _ => none)) (hk : ∀ b o, s.heap.get? b = some o → h₁.get? b = some o) :
    Inv (compCx X scope N' s H fp) [] (inSt mp σ) H { s with heap := h₁, toks := tk } := by
  have hfree := ck.cells I.ok
  have cin : ∀ x c, (clOf scope X.env).lookup x = some c → X.env.cells.lookup x = some c := fun x c e => clOf_in hfree e
  have clt : ∀ x c, X.env.cells.lookup x = some c → c < s.heap.objs.size := fun x c e => by
    obtain ⟨v, q⟩ := I.cell x c e
    exact q.lt
  refine ⟨⟨I.ok.mod, ck.kind, I.ok.glob, I.ok.blt, Nat.le_refl _, fun x y c h1 h2 => I.ok.inj x y c (cin x c h1) (cin y c h2), fun x hx => ?_, fun x c h _ => ?_, I.ok.hd, I.ok.frames, .inl rfl, fun b hb => ⟨?_, fun x c e => ?_⟩, I.bs, Nat.le_trans I.ok.bsz I.sz, fun b o e hb => ?_, fun b hb hs => ?_, I.stack, I.stkFree⟩,
    rfl, I.bare, Un.kept hk, ⟨_, hn, fun i x v h1 h2 h3 => ?_⟩, fun x c e => ?_, I.hok.fresh (Nat.le_refl _), fun x c e => ?_, fun p hp => absurd (show p ∈ ([] : List (Addr × Obj)) from hp) (by simp), I.hok.kept hk, ?_⟩
  · exact clOf_has (relabel_free ck.nocell hx)
  · exact absurd (show false = true from h) (by decide)
  · exact Nat.ne_of_lt (hlt b hb)
  · exact (hf b hb).2.2.2.2.1 x c (cin x c e)
  · have q := (hf b hb).2.2.2.1
    rcases q with q | q
    · exact I.ok.noex b o e q
    · exact absurd (Nat.lt_of_lt_of_le (Heap.lt_size e) (Nat.le_trans I.ok.bsz q)) (Nat.lt_irrefl _)
  · rcases List.mem_cons.mp (I.stkSub b hs) with z | z
    · exact (hf b hb).2.1 z
    · exact (hf b hb).2.2.1 z
  · have hi : ∃ j, mp[i]? = some (some j) ∧ σ[j]? = some (some v) := by
      unfold inSt at h2
      rw [List.getElem?_map] at h2
      cases q : mp[i]? with
      | none => rw [q] at h2; cases h2
      | some o =>
        rw [q] at h2
        have h2' : (o.bind fun j => (σ[j]?).join) = some v := Option.some.inj h2
        cases o with
        | none => cases h2'
        | some j =>
          have h2'' : (σ[j]?).join = some v := h2'
          refine ⟨j, rfl, ?_⟩
          cases r : σ[j]? with
          | none => rw [r] at h2''; cases h2''
          | some w' =>
            rw [r] at h2''
            have : w' = some v := h2''
            rw [this]
    obtain ⟨j, hj, hσ⟩ := hi
    obtain ⟨m1, m2, m3⟩ := ck.map i x j h1 hj
    obtain ⟨m, hm, hl⟩ := I.loc
    have vis : Vis X.env.scope x := by
      rcases ck.fr _ m2 rfl with q | q
      · exact .inr (.inl q)
      · exact .inr (.inr q)
    obtain ⟨u, ru, l⟩ := hl j x v m1 hσ vis
    refine ⟨u, ru, .inr ⟨m3, ?_⟩⟩
    obtain ⟨c, hc⟩ := clOf_has (env := X.env) m2
    refine ⟨c, hc, ?_⟩
    rcases l with ⟨k, _⟩ | ⟨_, c', e', z⟩
    · rcases ck.fr _ m2 rfl with q | q
      · have k' : X.env.scope.names.lookup x = some .local := k
        have q' : X.env.scope.names.lookup x = some .cell := q
        rw [k'] at q'; cases q'
      · have k' : X.env.scope.names.lookup x = some .local := k
        have q' : X.env.scope.names.lookup x = some .free := q
        rw [k'] at q'; cases q'
    · have e2 := cin x c hc
      rw [e'] at e2
      cases e2
      obtain ⟨o, ho, hd⟩ := z
      exact ⟨o, hk _ o ho, hd⟩
  · obtain ⟨v, o, ho, hd⟩ := I.cell x c (cin x c e)
    exact ⟨v, o, hk _ o ho, hd⟩
  · exact I.freeC x c (cin x c e)
  · show (inSt mp σ).length = N'.length
    unfold inSt
    rw [List.length_map]
    exact ck.len
theorem Inv.outer {σ' : St} {H' : Hp} {s' : Shared} (I : Inv X pins σ H s) (hf : ∀ b ∈ fp, FpOk X pins H b) (J : Inv (compCx X scope N' s H fp) [] σ' H' s') : Inv X pins σ H' s' :=
  I.call' (ch := fp) J.os J.base J.hok J.bare fun b hb => ⟨(hf b hb).2.2.2.1, (hf b hb).2.1, (hf b hb).2.2.2.2.1, (hf b hb).2.2.2.2.2⟩
end
noncomputable def KeepsSt (σ σ' : St) : Prop := σ'.length = σ.length ∧ ∀ (i : Nat) v, σ[i]? = some (some v) → σ'[i]? = some (some v)
noncomputable def PTs (X : Cx) (ifs : List Expr) (t : TT) : Prop :=
  ∀ (pins : List (Addr × Obj)) (s : Shared) (σ : St) (H : Hp) (Q : Bool → Hp → Prop), Inv X pins σ H s → t σ H Q →
    wpAny (model X.prog X.w) X.A (forIn ifs true fun c r => if r = true then do let ok ← isTrue c X.env (eval c X.env); pure (ForInStep.yield ok) else pure (ForInStep.yield r)) (TP X pins σ Q) X.xe s
theorem pts_nil {X : Cx} : PTs X [] (fun _ H Q => Q true H) := fun _ _ _ H _ I h => wpAny_tests_nil ⟨H, I, h⟩
theorem pts_one {X : Cx} {c : Expr} {t : TT} (hc : PT X c t) : PTs X [c] t := fun pins s σ H Q I h => wpAny_tests_one (hc pins s σ H Q I h)
noncomputable def CompW (J : It) (σ' : St) (g : TG) (tt : TT) (te : TE) (D : Addr) (Fin : Hp → Prop) (H1 : Hp) : Prop :=
  ∃ W : Nat → Nat → Hp → Prop, (∃ m, W 0 m (upd H1 D (.lst []))) ∧ ∀ i m H, W i m H →
    (J.stop i H ∧ Fin H) ∨ (J.go i H ∧ ∃ Nx : Hp → Prop, (∀ H', Nx H' → ∃ m', m' < m ∧ W (i + 1) m' H') ∧ ∀ x H', J.yld i H x H' → g x σ' H' fun σ2 H2 => KeepsSt σ' σ2 ∧
      tt σ2 H2 fun ok H3 => if ok = true then te σ2 H3 fun y H4 => ∃ ys, H4 D = some (.lst ys) ∧ ys.length < sizeLine ∧ Nx (upd H4 D (.lst (ys ++ [y]))) else Nx H3)
noncomputable def tComp (mp : List (Option Nat)) (wi : TI) (g : TG) (tt : TT) (te : TE) : TE := fun σ H Q => wi σ H fun J H1 => ∀ D, H1 D = none → CompW J (inSt mp σ) g tt te D (fun H => Q (.ref D) H) H1
theorem codeAny_compLoop_gen {prog : Program} {w : World} {A : Around} {R : Result → Shared → Prop} {s : Shared} {elt target iter : Expr} {ifs : List Expr} {scope : Scope} {pos : Pos} {it acc : Value} {env : Env} (I : Nat → Shared → Prop)
    (turn : ∀ n s, I n s → wpAny (model prog w) A (pyNext it) (fun r s₁ => match r with
      | none => R (.ok .next) s₁
      | some v => wpAny (model prog w) A (letOwnedTupleGo target it v) (fun _ s₀ => wpAny (model prog w) A (assign target env v) (fun _ s₂ =>
          wpAny (model prog w) A (forIn ifs true fun c r => if r = true then do let ok ← isTrue c env (eval c env); pure (ForInStep.yield ok) else pure (ForInStep.yield r)) (fun ok s₃ =>
            if ok = true then wpAny (model prog w) A (eval elt env) (fun x s₄ =>
              wpAny (model prog w) A (call (.builtin "list.append") [acc, x]) (fun _ s₅ => ∃ m, m < n ∧ I m s₅) (fun _ _ => False) s₄) (fun _ _ => False) s₃
            else ∃ m, m < n ∧ I m s₃) (fun _ _ => False) s₂) (fun _ _ => False) s₀) (fun _ _ => False) s₁) (fun _ _ => False) s)
    (n : Nat) (h : I n s) :
    codeAny (model prog w) A (.compLoop (.ListComp elt [⟨target, iter, ifs, 0⟩] scope pos) 0 it acc env) R s := by
  refine codeAny_loop rfl I (fun n s hI => ?_) n h
  show wpAny _ A ((compTurn (.ListComp elt [⟨target, iter, ifs, 0⟩] scope pos) 0 it acc env).onRaise (fun x => do noteFrame x env; theTreesLotGoes x)) _ _ s
  refine wpAny_noted ?_
  rw [compTurn_list]
  have no : ∀ {P : Value → Shared → Prop} (e : Value) (s' : Shared), False → P e s' := fun _ _ f => f.elim
  refine wpAny_bind (wpAny_standAt (wpAny_bind (wpAny_mono (turn n s hI) (fun r s₁ h₁ => ?_) no)))
  cases r with
  | none => exact wpAny_pure h₁
  | some v =>
    refine wpAny_bind (wpAny_mono h₁ (fun _ s₀ h₀ => ?_) no)
    refine wpAny_bind (wpAny_mono h₀ (fun _ s₂ h₂ => wpAny_bind (wpAny_mono h₂ (fun ok s₃ h₃ => ?_) no)) no)
    cases ok with
    | false => exact wpAny_pure ⟨rfl, h₃⟩
    | true =>
      exact wpAny_bind (wpAny_bind (wpAny_mono h₃ (fun x s₄ h₄ => wpAny_bind (wpAny_mono h₄ (fun _ s₅ h₅ => wpAny_pure (wpAny_pure ⟨rfl, h₅⟩)) no)) no))
section
variable {X : Cx} {elt iter tg : Expr} {ifs : List Expr} {scope : Scope} {pos : Pos} {N' : List Str} {mp : List (Option Nat)} {wi : TI} {g : TG} {tt : TT} {te : TE}
theorem comp_block {pins : List (Addr × Obj)} {σ : St} {H : Hp} {s : Shared} {J : It} {it : Addr} {fp : List Addr} {tn : Nat → Heap → Prop} {Fin : Hp → Prop} {E : Value → Shared → Prop} {RR : Value → Addr → Result → Shared → Prop}
    (hc : X.calm = true) (ck : CompSc X scope N' mp) (hb : ∀ s H fp, PG (compCx X scope N' s H fp) tg g ∧ PTs (compCx X scope N' s H fp) ifs tt ∧ PE (compCx X scope N' s H fp) elt te)
    (I : Inv X pins σ H s) (T : Turn X.prog X.w X.K tg J fp it tn) (st : tn 0 s.heap) (hf : ∀ b ∈ fp, FpOk X pins H b) (hq : CompW J (inSt mp σ) g tt te s.heap.objs.size Fin H)
    (hRR : ∀ (C : Addr) (s' : Shared) (H' : Hp), Inv X pins σ H' s' → Fin H' → (∃ m, s'.heap.Ns C m) → H' C = none → C ≠ X.env.locals → X.s₀.heap.objs.size ≤ C → (∀ x c, X.env.cells.lookup x = some c → c ≠ C) → (∀ p ∈ X.pn ++ pins, p.1 ≠ C) → RR (.ref s.heap.objs.size) C (.ok .next) s') :
    wpAny (model X.prog X.w) X.A (newList []) (fun acc s₃ => wpAny (model X.prog X.w) X.A (newFunctionEnv scope X.env.globals (clOf scope X.env) [] X.env.qual none .none (some X.env)) (fun cenv s₄ =>
      codeAny (model X.prog X.w) X.A (.compStart (.ListComp elt [⟨tg, iter, ifs, 0⟩] scope pos) 0 (.ref it) acc { cenv with scope := relabel scope X.env }) (RR acc cenv.locals) s₄) E s₃) E s := by
  refine wpAny_newObj_type (wpAny_newFunctionEnv ck.nocell (by intro y hy; simp at hy) (fun h₁ hns₁ hsb₁ => ?_) ck.kind)
  dsimp only at hns₁ hsb₁ ⊢
  have I3 : Inv X pins σ (upd H s.heap.objs.size (.lst [])) { s with heap := s.heap.push { cls := .type "list", dict := none, data := .seq ([] : List Value).toArray } } := I.lnew (its := []) (t' := s.toks) .nil (Nat.zero_le _)
  generalize hs3 : ({ s with heap := s.heap.push { cls := .type "list", dict := none, data := .seq ([] : List Value).toArray } } : Shared) = s3 at I3
  have e3 : s.heap.push { cls := .type "list", dict := none, data := .seq ([] : List Value).toArray } = s3.heap := by rw [← hs3]
  rw [e3] at hns₁ hsb₁ ⊢
  have sz3 : s3.heap.objs.size = s.heap.objs.size + 1 := by rw [← e3, Heap.size_push]
  have le3 : s.heap.objs.size ≤ s3.heap.objs.size := by rw [sz3]; exact Nat.le_succ _
  have fplt : ∀ b ∈ fp, b < s.heap.objs.size := fun b hb => by
    obtain ⟨o, e, _⟩ := T.obj 0 _ st b hb
    exact Heap.lt_size e
  have hf3 : ∀ b ∈ fp, FpOk X pins (upd H s.heap.objs.size (.lst [])) b := fun b hb => ⟨by rw [upd_ne (Nat.ne_of_lt (fplt b hb))]; exact (hf b hb).1, (hf b hb).2⟩
  have k1 : ∀ b o, s3.heap.get? b = some o → h₁.get? b = some o := fun b o e => by
    rw [hsb₁.2 b (Nat.ne_of_lt (Heap.lt_size e))]
    exact Heap.get?_push_of_some _ e
  have k0 : ∀ b o, s.heap.get? b = some o → h₁.get? b = some o := fun b o e => k1 b o (by rw [← e3]; exact Heap.get?_push_of_some _ e)
  obtain ⟨W, ⟨m0, w0⟩, turn⟩ := hq
  obtain ⟨hg, ht, he⟩ := hb s3 (upd H s.heap.objs.size (.lst [])) fp
  have no : ∀ {P : Value → Shared → Prop} (e : Value) (s' : Shared), False → P e s' := fun _ _ f => f.elim
  have stat : ∀ {H' : Hp}, (∀ b ∈ fp, H' b = none) → ∀ b ∈ fp, FpOk (compCx X scope N' s3 (upd H s.heap.objs.size (.lst [])) fp) [] H' b := fun hn b hb =>
    ⟨hn b hb, Nat.ne_of_lt (Nat.lt_of_lt_of_le (fplt b hb) le3), fun z => by
      rcases List.mem_cons.mp (I3.stkSub b z) with z | z
      · exact (hf b hb).2.1 z
      · exact (hf b hb).2.2.1 z, .inl hb, fun x c e => (hf b hb).2.2.2.2.1 x c (clOf_in (ck.cells I.ok) e), fun p hp => absurd (show p ∈ ([] : List (Addr × Obj)) from hp) (by simp)⟩
  have loop : ∀ tk : Nat, codeAny (model X.prog X.w) X.A (.compLoop (.ListComp elt [⟨tg, iter, ifs, 0⟩] scope pos) 0 (.ref it) (.ref s.heap.objs.size) (compEnvC scope (clOf scope X.env) s3.heap.objs.size X.env))
      (RR (.ref s.heap.objs.size) s3.heap.objs.size) { s3 with heap := h₁, toks := tk } := by
    intro tk
    have I4 : Inv (compCx X scope N' s3 (upd H s.heap.objs.size (.lst [])) fp) [] (inSt mp σ) (upd H s.heap.objs.size (.lst [])) { s3 with heap := h₁, toks := tk } :=
      I3.inner ck hf3 (fun b hb => Nat.lt_of_lt_of_le (fplt b hb) le3) (by simpa using hns₁) k1
    refine codeAny_compLoop_gen (fun n s' => ∃ i H', Inv (compCx X scope N' s3 (upd H s.heap.objs.size (.lst [])) fp) [] (inSt mp σ) H' s' ∧ tn i s'.heap ∧ (∀ b ∈ fp, H' b = none) ∧ W i n H') ?_ m0
      ⟨0, _, I4, T.keep _ _ _ st fun b _ o e => k0 b o e, fun b hb => (hf3 b hb).1, w0⟩
    rintro n s5 ⟨i, H5, I5, st5, fr5, w5⟩
    rcases turn i n H5 w5 with ⟨stop, fin⟩ | ⟨go, Nx, hN, step⟩
    · refine thn (T.done (compCx X scope N' s3 (upd H s.heap.objs.size (.lst [])) fp) rfl rfl rfl hc i [] s5 (inSt mp σ) H5 _ I5 (stat fr5) st5 stop) fun r s6 ⟨hr, I6⟩ => ?_
      subst hr
      have IO : Inv X pins σ H5 s6 := I3.outer hf3 I6
      obtain ⟨m, hm, _⟩ := I6.loc
      refine hRR _ s6 H5 IO fin ⟨m, hm⟩ I6.free (Nat.ne_of_gt I3.lt) I3.sz (fun x c e => ?_) fun p hp => ?_
      · obtain ⟨v, q⟩ := I3.cell x c e
        exact Nat.ne_of_lt q.lt
      · exact Nat.ne_of_lt (Heap.lt_size (I3.pin p hp).1)
    · refine thn (T.item (compCx X scope N' s3 (upd H s.heap.objs.size (.lst [])) fp) rfl rfl rfl hc i [] s5 (inSt mp σ) H5 _ I5 (stat fr5) st5 go) fun r s6 ⟨u, hr, h6⟩ => ?_
      subst hr
      refine thn h6 fun _ s7 ⟨x, H7, I7, r7, y7, st7, fr7⟩ => ?_
      have I7' := I7.pinned (stat fr7) (T.obj _ _ st7)
      have back : ∀ {σ9 : St} {H9 : Hp} {s9 : Shared}, Inv (compCx X scope N' s3 (upd H s.heap.objs.size (.lst [])) fp) ([] ++ pinsAt fp s7.heap) σ9 H9 s9 → KeepsSt (inSt mp σ) σ9 → Nx H9 →
          ∃ m, m < n ∧ ∃ i H', Inv (compCx X scope N' s3 (upd H s.heap.objs.size (.lst [])) fp) [] (inSt mp σ) H' s9 ∧ tn i s9.heap ∧ (∀ b ∈ fp, H' b = none) ∧ W i m H' := fun {σ9 H9 s9} I9 ks n9 => by
        obtain ⟨m', hm, w9⟩ := hN H9 n9
        refine ⟨m', hm, i + 1, H9, (Inv.unpinned (pins := []) I9).weak ks.1.symm ks.2, T.keep _ _ _ st7 fun b hb o e => (I9.pin (b, o) (List.mem_append_right _ (List.mem_append_right _ (mem_pinsAt hb e)))).1, fun b hb => ?_, w9⟩
        obtain ⟨o, e, d⟩ := T.obj _ _ st7 b hb
        exact (I9.pin (b, o) (List.mem_append_right _ (List.mem_append_right _ (mem_pinsAt hb e)))).2.1
      refine thn (hg _ s7 (inSt mp σ) H7 x u _ I7' r7 (step x H7 y7)) fun _ s8 ⟨σ8, H8, I8, ks, q8⟩ => ?_
      refine thn (ht _ s8 σ8 H8 _ I8 q8) fun ok s9 ⟨H9, I9, q9⟩ => ?_
      cases ok with
      | false =>
        rw [if_neg Bool.false_ne_true] at q9 ⊢
        exact back I9 ks q9
      | true =>
        rw [if_pos rfl] at q9 ⊢
        refine thn (he _ s9 σ8 H9 _ I9 q9) fun y s10 ⟨yv, H10, I10, r10, ys, hD, hlen, nx⟩ => ?_
        refine thn (mt_append _ s10 σ8 H10 (.ref s.heap.objs.size) [yv] (.ref s.heap.objs.size) [y] (fun _ H' => Nx H') I10 rfl (.cons r10 .nil) ⟨_, ys, yv, rfl, rfl, hD, hlen, nx⟩) fun z s11 ⟨zv, H11, I11, _, n11⟩ => ?_
        exact back I11 ks n11
  subst hs3
  exact codeAny_compStart_list (loop _) (T.self _ 0 _ _ _ (T.keep _ _ _ st fun b _ o e => k0 b o e) (loop _))
theorem pe_comp (hc : X.calm = true) (ck : CompSc X scope N' mp) (hi : PI X tg iter wi)
    (hb : ∀ s H fp, PG (compCx X scope N' s H fp) tg g ∧ PTs (compCx X scope N' s H fp) ifs tt ∧ PE (compCx X scope N' s H fp) elt te)
    (hs : ∀ x, foldedSetIterable iter X.env x = pure x := by intro _; rfl) : PE X (.ListComp elt [⟨tg, iter, ifs, 0⟩] scope pos) (tComp mp wi g tt te) := by
  intro pins s σ H Q I h
  rw [eval_ListComp]
  refine wpAny_comprehension_free (use := none) rfl hs (closureFor_eq (ck.cells I.ok)) ck.kind ck.names ?_
  refine thn (hi pins s σ H _ I h) fun v s1 h1 => thn h1 fun itv s2 h2 => ?_
  obtain ⟨it, fp, tn, J, H2, e, I2, T, st2, f2, q2⟩ := h2
  subst e
  refine comp_block hc ck hb I2 T st2 f2 (q2 _ (I2.hok.fresh (Nat.le_refl _))) fun C s' H' I' fin hm hC h1 h2 h3 h4 => ?_
  obtain ⟨m, hm⟩ := hm
  refine ⟨m, hm, fun h' sb => ⟨.ref _, H', ?_, rfl, fin⟩⟩
  exact I'.turned (t' := s'.toks) (fun b o hb e => (sb.2 b hb).trans e) hC h1 (.inr h2) h3 h4
theorem ps_setComp {i : Nat} {y : Str} {py spos : Pos} (hc : X.calm = true) (hN : X.N.Nodup) (hiy : X.N[i]? = some y) (hy : X.env.scope.names.lookup y = some .local) (ck : CompSc X scope N' mp) (hi : PI X tg iter wi)
    (hb : ∀ s H fp, PG (compCx X scope N' s H fp) tg g ∧ PTs (compCx X scope N' s H fp) ifs tt ∧ PE (compCx X scope N' s H fp) elt te)
    (hsw : swapsWith (.ListComp elt [⟨tg, iter, ifs, 0⟩] scope pos) (some (.Name y py)) spos.line X.env = pure true := by rfl)
    (hs : ∀ x, foldedSetIterable iter X.env x = pure x := by intro _; rfl) :
    PS X (.Assign [.Name y py] (.ListComp elt [⟨tg, iter, ifs, 0⟩] scope pos) spos) (tAsg (tComp mp wi g tt te) (gName i)) := by
  intro pins s σ H D I h
  rw [exec_Assign_Name_used _ _ _ _ hsw]
  refine wpAny_bind (wpAny_standAt (wpAny_bind ?_))
  show wpAny _ X.A (do let _ ← comprehension (.ListComp elt [⟨tg, iter, ifs, 0⟩] scope pos) scope X.env _ (newList []) false (eval iter X.env) (some (assign (.Name y py) X.env))) _ _ s
  refine wpAny_bind (wpAny_mono (wpAny_comprehension_free (use := some (assign (.Name y py) X.env)) (Q := fun _ s' => SP X pins D .next s') rfl hs (closureFor_eq (ck.cells I.ok)) ck.kind ck.names ?_) (fun _ s' hq => wpAny_pure (wpAny_pure hq)) fun _ _ e => e)
  refine thn (hi pins s σ H _ I h) fun v s1 h1 => thn h1 fun itv s2 h2 => ?_
  obtain ⟨it, fp, tn, J, H2, e, I2, T, st2, f2, q2⟩ := h2
  subst e
  refine comp_block hc ck hb I2 T st2 f2 (q2 _ (I2.hok.fresh (Nat.le_refl _))) fun C s' H' I' fin hm hC h1 h2 h3 h4 => ?_
  obtain ⟨m, hm⟩ := hm
  refine wpAny_assign_Name (store_ok2 (v := .ref s2.heap.objs.size) I' hN hiy (.inl hy) rfl (fun s'' I'' ⟨a, sb, ha⟩ => ?_) (.inr hy))
  have hCa : C ≠ a := by
    rcases ha with ha | ha
    · rw [ha]; exact h1
    · exact fun z => h3 _ _ ha z.symm
  refine ⟨m, hm.sameBut sb hCa, fun h' sb' => ⟨_, H', ?_, fin⟩⟩
  exact I''.turned (t' := s''.toks) (fun b o hb e => (sb'.2 b hb).trans e) hC h1 (.inr h2) h3 h4
end
end L2
namespace L2.PU
open PySem PySem.Spec PyProof.Rows
noncomputable def nst : Expr → Bool
  | .Starred _ _ => false
  | _ => true
theorem star_of {e : Expr} {es : List Expr} {env : Env} (h : nst e = true) : starEach (e :: es) env = (false, eval e env) :: starEach es env := by
  cases e <;> first | rfl | cases h
theorem star2_of {a b : Expr} {env : Env} (ha : nst a = true) (hb : nst b = true) : starEach [a, b] env = [(false, eval a env), (false, eval b env)] := by rw [star_of ha, star_of hb]; rfl
theorem plain_of {pos : Pos} {env : Env} : ∀ {es : List Expr}, es.all nst = true → (backTo pos (starEach es env)).any (·.1) = false
  | [], _ => rfl
  | e :: es, h => by
    rw [List.all_cons, Bool.and_eq_true] at h
    rw [star_of h.1]
    show (false || (backTo pos (starEach es env)).any (·.1)) = false
    rw [plain_of h.2]; rfl
noncomputable def kD : Key → PyData
  | .inl i => .int i
  | .inr x => .str x
mutual
noncomputable def Rel (K : PySem.W.Frag) (F : Hp) : PyData → V → Prop
  | .none, v => v = .non
  | .bool b, v => v = .bl b
  | .int i, v => v = .int i
  | .str x, v => v = .str x
  | .tuple ds, v => ∃ a xs, v = .ref a ∧ SqT K F a xs ∧ RelL K F ds xs
  | .list ds, v => ∃ a xs, v = .ref a ∧ SqL K F a xs ∧ RelL K F ds xs
  | .dict es, v => ∃ a ks, v = .ref a ∧ Rd F a (.dK ks) ∧ RelD K F es ks
noncomputable def RelL (K : PySem.W.Frag) (F : Hp) : List PyData → List V → Prop
  | [], xs => xs = []
  | d :: ds, xs => ∃ x r, xs = x :: r ∧ Rel K F d x ∧ RelL K F ds r
noncomputable def RelD (K : PySem.W.Frag) (F : Hp) : List (PyData × PyData) → List (Key × V) → Prop
  | [], ks => ks = []
  | (d, e) :: es, ks => ∃ k x r, ks = (k, x) :: r ∧ d = kD k ∧ Rel K F e x ∧ RelD K F es r
end
section
variable {K : PySem.W.Frag} {F F' H H' : Hp}
theorem same_seqT {a : Addr} {xs : List V} (e : Same H H') (h : SqT K H a xs) : SqT K H' a xs := by
  rcases h with (h | ⟨o, h⟩) | h
  · exact .inl (.inl (e _ _ h))
  · exact .inl (.inr ⟨o, e _ _ h⟩)
  · exact .inr h
theorem rd_mono {a : Addr} {u : HO} (e : Same F F') (h : Rd F a u) : Rd F' a u := h.elim (fun h => .inl (e _ _ h)) fun ⟨o, h⟩ => .inr ⟨o, e _ _ h⟩
theorem same_new {p : Addr} (h : H p = none) (o : HO) : Same H (upd H p o) := fun b u q => by rw [upd_ne (ne_of_none q h)]; exact q
mutual
theorem Rel.mono (e : Same F F') : ∀ {d : PyData} {v : V}, Rel K F d v → Rel K F' d v
  | .none, v, h => by unfold Rel at h ⊢; exact h
  | .bool b, v, h => by unfold Rel at h ⊢; exact h
  | .int i, v, h => by unfold Rel at h ⊢; exact h
  | .str x, v, h => by unfold Rel at h ⊢; exact h
  | .tuple ds, v, h => by
    unfold Rel at h ⊢
    obtain ⟨a, xs, h1, h2, h3⟩ := h
    exact ⟨a, xs, h1, same_seqT e h2, RelL.mono e h3⟩
  | .list ds, v, h => by
    unfold Rel at h ⊢
    obtain ⟨a, xs, h1, h2, h3⟩ := h
    exact ⟨a, xs, h1, e.seq h2, RelL.mono e h3⟩
  | .dict es, v, h => by
    unfold Rel at h ⊢
    obtain ⟨a, ks, h1, h2, h3⟩ := h
    exact ⟨a, ks, h1, rd_mono e h2, RelD.mono e h3⟩
theorem RelL.mono (e : Same F F') : ∀ {ds : List PyData} {xs : List V}, RelL K F ds xs → RelL K F' ds xs
  | [], xs, h => by unfold RelL at h ⊢; exact h
  | d :: ds, xs, h => by
    unfold RelL at h ⊢
    obtain ⟨x, r, h1, h2, h3⟩ := h
    exact ⟨x, r, h1, Rel.mono e h2, RelL.mono e h3⟩
theorem RelD.mono (e : Same F F') : ∀ {es : List (PyData × PyData)} {ks : List (Key × V)}, RelD K F es ks → RelD K F' es ks
  | [], ks, h => by unfold RelD at h ⊢; exact h
  | (d, e') :: es, ks, h => by
    unfold RelD at h ⊢
    obtain ⟨k, x, r, h1, h2, h3, h4⟩ := h
    exact ⟨k, x, r, h1, h2, Rel.mono e h3, RelD.mono e h4⟩
end
theorem Rel.dct {es : List (PyData × PyData)} {v : V} (h : Rel K F (.dict es) v) : ∃ a ks, v = .ref a ∧ Rd F a (.dK ks) ∧ RelD K F es ks := by unfold Rel at h; exact h
theorem rel_dct {es : List (PyData × PyData)} {a : Addr} {ks : List (Key × V)} (h : Rd F a (.dK ks)) (r : RelD K F es ks) : Rel K F (.dict es) (.ref a) := by unfold Rel; exact ⟨a, ks, rfl, h, r⟩
theorem RelD.nil : RelD K F [] [] := by unfold RelD; rfl
theorem RelD.nil_of {ks : List (Key × V)} (h : RelD K F [] ks) : ks = [] := by unfold RelD at h; exact h
theorem RelD.cons_of {d e : PyData} {es : List (PyData × PyData)} {ks : List (Key × V)} (h : RelD K F ((d, e) :: es) ks) : ∃ k x r, ks = (k, x) :: r ∧ d = kD k ∧ Rel K F e x ∧ RelD K F es r := by unfold RelD at h; exact h
theorem RelD.cons {k : Key} {e : PyData} {x : V} {es : List (PyData × PyData)} {ks : List (Key × V)} (h : Rel K F e x) (t : RelD K F es ks) : RelD K F ((kD k, e) :: es) ((k, x) :: ks) := by unfold RelD; exact ⟨k, x, ks, rfl, rfl, h, t⟩
noncomputable def prs (kvs : List (Key × PyData)) : List (PyData × PyData) := kvs.map fun e => (kD e.1, e.2)
theorem RelL.nil : RelL K F [] [] := by unfold RelL; rfl
theorem RelL.cons {d : PyData} {ds : List PyData} {x : V} {xs : List V} (h : Rel K F d x) (t : RelL K F ds xs) : RelL K F (d :: ds) (x :: xs) := by unfold RelL; exact ⟨x, xs, rfl, h, t⟩
theorem RelL.nil_of {xs : List V} (h : RelL K F [] xs) : xs = [] := by unfold RelL at h; exact h
theorem RelL.cons_of {d : PyData} {ds : List PyData} {xs : List V} (h : RelL K F (d :: ds) xs) : ∃ x r, xs = x :: r ∧ Rel K F d x ∧ RelL K F ds r := by unfold RelL at h; exact h
theorem RelL.length : ∀ {ds : List PyData} {xs : List V}, RelL K F ds xs → xs.length = ds.length
  | [], xs, h => by rw [h.nil_of]; rfl
  | d :: ds, xs, h => by
    obtain ⟨x, r, rfl, _, h3⟩ := h.cons_of
    rw [List.length_cons, List.length_cons, RelL.length h3]
theorem RelL.append : ∀ {ds es : List PyData} {xs ys : List V}, RelL K F ds xs → RelL K F es ys → RelL K F (ds ++ es) (xs ++ ys)
  | [], es, xs, ys, h, k => by rw [h.nil_of]; exact k
  | d :: ds, es, xs, ys, h, k => by
    obtain ⟨x, r, rfl, h2, h3⟩ := h.cons_of
    exact RelL.cons h2 (RelL.append h3 k)
theorem RelL.get : ∀ {ds : List PyData} {xs : List V} {i : Nat} {d : PyData}, RelL K F ds xs → ds[i]? = some d → ∃ x, xs[i]? = some x ∧ Rel K F d x
  | [], _, _, _, _, e => by simp at e
  | d :: ds, xs, 0, _, h, e => by
    obtain ⟨x, r, rfl, h2, h3⟩ := h.cons_of
    have e' : d = _ := Option.some.inj e
    exact ⟨x, rfl, e' ▸ h2⟩
  | d :: ds, xs, i + 1, d', h, e => by
    obtain ⟨x, r, rfl, h2, h3⟩ := h.cons_of
    exact RelL.get (i := i) h3 (by simpa using e)
theorem RelL.reverse : ∀ {ds : List PyData} {xs : List V}, RelL K F ds xs → RelL K F ds.reverse xs.reverse
  | [], xs, h => by rw [h.nil_of]; exact .nil
  | d :: ds, xs, h => by
    obtain ⟨x, r, rfl, h2, h3⟩ := h.cons_of
    rw [List.reverse_cons, List.reverse_cons]
    exact RelL.append (RelL.reverse h3) (.cons h2 .nil)
theorem Rel.non {v : V} (h : Rel K F .none v) : v = .non := by unfold Rel at h; exact h
theorem Rel.bl {b : Bool} {v : V} (h : Rel K F (.bool b) v) : v = .bl b := by unfold Rel at h; exact h
theorem Rel.int {i : Int} {v : V} (h : Rel K F (.int i) v) : v = .int i := by unfold Rel at h; exact h
theorem Rel.str {x : Str} {v : V} (h : Rel K F (.str x) v) : v = .str x := by unfold Rel at h; exact h
theorem Rel.tup {ds : List PyData} {v : V} (h : Rel K F (.tuple ds) v) : ∃ a xs, v = .ref a ∧ SqT K F a xs ∧ RelL K F ds xs := by unfold Rel at h; exact h
theorem Rel.lst {ds : List PyData} {v : V} (h : Rel K F (.list ds) v) : ∃ a xs, v = .ref a ∧ SqL K F a xs ∧ RelL K F ds xs := by unfold Rel at h; exact h
theorem rel_non : Rel K F .none .non := by unfold Rel; rfl
theorem rel_bl {b : Bool} : Rel K F (.bool b) (.bl b) := by unfold Rel; rfl
theorem rel_int {i : Int} : Rel K F (.int i) (.int i) := by unfold Rel; rfl
theorem rel_str {x : Str} : Rel K F (.str x) (.str x) := by unfold Rel; rfl
theorem rel_tup {ds : List PyData} {a : Addr} {xs : List V} (h : SqT K F a xs) (r : RelL K F ds xs) : Rel K F (.tuple ds) (.ref a) := by unfold Rel; exact ⟨a, xs, rfl, h, r⟩
theorem rel_lst {ds : List PyData} {a : Addr} {xs : List V} (h : SqL K F a xs) (r : RelL K F ds xs) : Rel K F (.list ds) (.ref a) := by unfold Rel; exact ⟨a, xs, rfl, h, r⟩
theorem RelL.ints : ∀ (ns : List Int), RelL K F (ns.map PyData.int) (ns.map V.int)
  | [] => .nil
  | _ :: r => .cons rel_int (RelL.ints r)
structure Gr (F H F' H' : Hp) : Prop where
  ff : Same F F'
  hh : Same H H'
  fh : Same F' H'
  new : ∀ b, F' b ≠ none → F b ≠ none ∨ H b = none
theorem Gr.refl (h : Same F H) : Gr F H F H := ⟨.refl _, .refl _, h, fun _ q => .inl q⟩
theorem Gr.trans {F1 H1 F2 H2 : Hp} (a : Gr F H F1 H1) (b : Gr F1 H1 F2 H2) : Gr F H F2 H2 :=
  ⟨a.ff.trans b.ff, a.hh.trans b.hh, b.fh, fun c q => (b.new c q).elim (fun q => a.new c q) fun q => .inr (a.hh.free q)⟩
theorem Gr.one {p : Addr} {o : HO} (h : Same F H) (hp : H p = none) : Gr F H (upd F p o) (upd H p o) where
  ff := same_new (h.free hp) o
  hh := same_new hp o
  fh := fun b u q => by
    by_cases e : b = p
    · subst e; rw [upd_same] at q ⊢; exact q
    · rw [upd_ne e] at q ⊢; exact h _ _ q
  new := fun b q => by
    by_cases e : b = p
    · subst e; exact .inr hp
    · rw [upd_ne e] at q; exact .inl q
end
inductive Sl where
  | un
  | val (d : PyData)
  | own (ds : List PyData)
  | odc (kvs : List (Key × PyData))
  | ob (fs : Str → Option PyData)
noncomputable abbrev En := List Sl
noncomputable def isOwn : Sl → Bool
  | .own _ => true
  | .odc _ => true
  | _ => false
noncomputable def CellR (K : PySem.W.Frag) (F : Hp) : Sl → HO → Prop
  | .own ds, o => ∃ xs, o = .lst xs ∧ RelL K F ds xs
  | .odc kvs, o => ∃ ks, o = .dK ks ∧ RelD K F (prs kvs) ks
  | _, _ => False
noncomputable def ObF (K : PySem.W.Frag) (C : Addr) (F : Hp) (fs : Str → Option PyData) (xs : List (Str × V)) : Prop := ∀ f d, fs f = some d → NoAttr K C f ∧ ∃ v, xs.lookup f = some v ∧ Rel K F d v
structure EnR (K : PySem.W.Frag) (He F H : Hp) (σ : St) (η : En) : Prop where
  len : η.length = σ.length
  val : ∀ (i : Nat) d, η[i]? = some (.val d) → ∃ v, σ[i]? = some (some v) ∧ Rel K F d v
  cel : ∀ (i : Nat) sl, η[i]? = some sl → isOwn sl = true → ∃ p o, σ[i]? = some (some (.ref p)) ∧ F p = none ∧ He p = none ∧ H p = some o ∧ CellR K F sl o
  apart : ∀ (i j : Nat) a b, η[i]? = some a → η[j]? = some b → isOwn a = true → isOwn b = true → i ≠ j → σ[i]? ≠ σ[j]?
  obs : ∀ (i : Nat) fs, η[i]? = some (.ob fs) → ∃ p C dx xs, σ[i]? = some (some (.ref p)) ∧ H p = some (.ins C dx xs) ∧ Cls K C ∧ ObF K C F fs xs
structure Bd where
  F : Hp
  H : Hp
structure SR (K : PySem.W.Frag) (B : Bd) (F H : Hp) (σ : St) (η : En) : Prop where
  gr : Gr B.F B.H F H
  en : EnR K B.H F H σ η
section
variable {K : PySem.W.Frag} {B : Bd} {F H F' H' : Hp} {σ : St} {η : En}
theorem CellR.mono (e : Same F F') : ∀ {sl : Sl} {o : HO}, CellR K F sl o → CellR K F' sl o
  | .own _, _, ⟨xs, h1, h2⟩ => ⟨xs, h1, h2.mono e⟩
  | .odc _, _, ⟨xs, h1, h2⟩ => ⟨xs, h1, h2.mono e⟩
  | .un, _, h => h.elim
  | .val _, _, h => h.elim
  | .ob _, _, h => h.elim
theorem ObF.mono {C : Addr} {fs : Str → Option PyData} {xs : List (Str × V)} (e : Same F F') (h : ObF K C F fs xs) : ObF K C F' fs xs := fun f d q => let ⟨a, v, b, c⟩ := h f d q; ⟨a, v, b, c.mono e⟩
theorem CellR.noins {sl : Sl} {o : HO} (h : CellR K F sl o) (C dx : Addr) (xs : List (Str × V)) : o ≠ .ins C dx xs := by
  cases sl with
  | own ds => obtain ⟨ys, rfl, _⟩ := h; intro z; cases z
  | odc ds => obtain ⟨ys, rfl, _⟩ := h; intro z; cases z
  | un => exact h.elim
  | val _ => exact h.elim
  | ob _ => exact h.elim
theorem EnR.own {He : Hp} (r : EnR K He F H σ η) (i : Nat) (ds : List PyData) (e : η[i]? = some (.own ds)) : ∃ p xs, σ[i]? = some (some (.ref p)) ∧ F p = none ∧ He p = none ∧ H p = some (.lst xs) ∧ RelL K F ds xs := by
  obtain ⟨p, o, h1, h2, h3, h4, xs, rfl, h5⟩ := r.cel i _ e rfl
  exact ⟨p, xs, h1, h2, h3, h4, h5⟩
theorem EnR.odc {He : Hp} (r : EnR K He F H σ η) (i : Nat) (kvs : List (Key × PyData)) (e : η[i]? = some (.odc kvs)) : ∃ p ks, σ[i]? = some (some (.ref p)) ∧ F p = none ∧ He p = none ∧ H p = some (.dK ks) ∧ RelD K F (prs kvs) ks := by
  obtain ⟨p, o, h1, h2, h3, h4, xs, rfl, h5⟩ := r.cel i _ e rfl
  exact ⟨p, xs, h1, h2, h3, h4, h5⟩
theorem EnR.grow {He : Hp} (r : EnR K He F H σ η) (g : Gr F H F' H') : EnR K He F' H' σ η where
  len := r.len
  val := fun i d e => let ⟨v, e1, e2⟩ := r.val i d e; ⟨v, e1, e2.mono g.ff⟩
  cel := fun i sl e hs => by
    obtain ⟨p, o, e1, e2, e3, e4, e5⟩ := r.cel i sl e hs
    refine ⟨p, o, e1, ?_, e3, g.hh _ _ e4, e5.mono g.ff⟩
    cases q : F' p with
    | none => rfl
    | some o =>
      rcases g.new p (by rw [q]; simp) with z | z
      · exact absurd e2 z
      · rw [e4] at z; cases z
  apart := r.apart
  obs := fun i fs e => let ⟨p, C, dx, xs, e1, e2, e3, e4⟩ := r.obs i fs e; ⟨p, C, dx, xs, e1, g.hh _ _ e2, e3, e4.mono g.ff⟩
theorem SR.grow (r : SR K B F H σ η) (g : Gr F H F' H') : SR K B F' H' σ η := ⟨r.gr.trans g, r.en.grow g⟩
theorem SR.same (r : SR K B F H σ η) : Same F H := r.gr.fh
theorem EnR.set {He : Hp} (r : EnR K He F H σ η) (i : Nat) {d : PyData} {v : V} (h : Rel K F d v) : EnR K He F H (σ.set i (some v)) (η.set i (.val d)) where
  len := by rw [List.length_set, List.length_set]; exact r.len
  val := fun j d' e => by
    by_cases hj : i = j
    · subst hj
      by_cases hl : i < η.length
      · rw [List.getElem?_set_self hl] at e
        have e' : d = d' := by injection (Option.some.inj e)
        subst e'
        exact ⟨v, by rw [List.getElem?_set_self (by rw [← r.len]; exact hl)], h⟩
      · rw [List.getElem?_eq_none (by rw [List.length_set]; omega)] at e; cases e
    · rw [List.getElem?_set_ne hj] at e ⊢; exact r.val j d' e
  cel := fun j sl e hs => by
    by_cases hj : i = j
    · subst hj
      by_cases hl : i < η.length
      · rw [List.getElem?_set_self hl] at e
        have e' : Sl.val d = sl := Option.some.inj e
        subst e'
        cases hs
      · rw [List.getElem?_eq_none (by rw [List.length_set]; omega)] at e; cases e
    · rw [List.getElem?_set_ne hj] at e ⊢; exact r.cel j sl e hs
  apart := fun j k a b ej ek ha hb hjk => by
    have no : ∀ (j : Nat) a, (η.set i (.val d))[j]? = some a → isOwn a = true → i ≠ j := fun j a ej ha hj => by
      subst hj
      by_cases hl : i < η.length
      · rw [List.getElem?_set_self hl] at ej
        have e' : Sl.val d = a := Option.some.inj ej
        subst e'
        cases ha
      · rw [List.getElem?_eq_none (by rw [List.length_set]; omega)] at ej; cases ej
    have nj := no j a ej ha
    have nk := no k b ek hb
    rw [List.getElem?_set_ne nj] at ej ⊢
    rw [List.getElem?_set_ne nk] at ek ⊢
    exact r.apart j k a b ej ek ha hb hjk
  obs := fun j fs e => by
    by_cases hj : i = j
    · subst hj
      by_cases hl : i < η.length
      · rw [List.getElem?_set_self hl] at e; cases e
      · rw [List.getElem?_eq_none (by rw [List.length_set]; omega)] at e; cases e
    · rw [List.getElem?_set_ne hj] at e ⊢; exact r.obs j fs e
theorem EnR.setCell {He : Hp} (r : EnR K He F H σ η) (i : Nat) {sl : Sl} {p : Addr} {o : HO} (hsl : isOwn sl = true) (h1 : F p = none) (h2 : He p = none) (h3 : H p = some o) (h4 : CellR K F sl o)
    (h5 : ∀ (j : Nat), σ[j]? = some (some (.ref p)) → ∀ a, η[j]? = some a → isOwn a = false) : EnR K He F H (σ.set i (some (.ref p))) (η.set i sl) where
  len := by rw [List.length_set, List.length_set]; exact r.len
  val := fun j d' e => by
    by_cases hj : i = j
    · subst hj
      by_cases hl : i < η.length
      · rw [List.getElem?_set_self hl] at e
        have e' : sl = .val d' := Option.some.inj e
        subst e'
        cases hsl
      · rw [List.getElem?_eq_none (by rw [List.length_set]; omega)] at e; cases e
    · rw [List.getElem?_set_ne hj] at e ⊢; exact r.val j d' e
  cel := fun j a e ha => by
    by_cases hj : i = j
    · subst hj
      by_cases hl : i < η.length
      · rw [List.getElem?_set_self hl] at e
        have e' : sl = a := Option.some.inj e
        subst e'
        exact ⟨p, o, by rw [List.getElem?_set_self (by rw [← r.len]; exact hl)], h1, h2, h3, h4⟩
      · rw [List.getElem?_eq_none (by rw [List.length_set]; omega)] at e; cases e
    · rw [List.getElem?_set_ne hj] at e ⊢; exact r.cel j a e ha
  apart := fun j k a b ej ek ha hb hjk => by
    by_cases hj : i = j
    · subst hj
      have hl : i < η.length := by
        by_cases hl : i < η.length
        · exact hl
        · rw [List.getElem?_eq_none (by rw [List.length_set]; omega)] at ej; cases ej
      rw [List.getElem?_set_ne hjk] at ek ⊢
      rw [List.getElem?_set_self (by rw [← r.len]; exact hl)]
      exact fun z => by rw [h5 k z.symm b ek] at hb; cases hb
    · by_cases hk : i = k
      · subst hk
        have hl : i < η.length := by
          by_cases hl : i < η.length
          · exact hl
          · rw [List.getElem?_eq_none (by rw [List.length_set]; omega)] at ek; cases ek
        rw [List.getElem?_set_ne hj] at ej ⊢
        rw [List.getElem?_set_self (by rw [← r.len]; exact hl)]
        exact fun z => by rw [h5 j z a ej] at ha; cases ha
      · rw [List.getElem?_set_ne hj] at ej ⊢
        rw [List.getElem?_set_ne hk] at ek ⊢
        exact r.apart j k a b ej ek ha hb hjk
  obs := fun j fs e => by
    by_cases hj : i = j
    · subst hj
      by_cases hl : i < η.length
      · rw [List.getElem?_set_self hl] at e
        have e' : sl = .ob fs := Option.some.inj e
        subst e'
        cases hsl
      · rw [List.getElem?_eq_none (by rw [List.length_set]; omega)] at e; cases e
    · rw [List.getElem?_set_ne hj] at e ⊢; exact r.obs j fs e
theorem EnR.setOwn {He : Hp} (r : EnR K He F H σ η) (i : Nat) {ds : List PyData} {p : Addr} {xs : List V} (h1 : F p = none) (h2 : He p = none) (h3 : H p = some (.lst xs)) (h4 : RelL K F ds xs)
    (h5 : ∀ (j : Nat), σ[j]? = some (some (.ref p)) → ∀ a, η[j]? = some a → isOwn a = false) : EnR K He F H (σ.set i (some (.ref p))) (η.set i (.own ds)) := r.setCell i rfl h1 h2 h3 ⟨xs, rfl, h4⟩ h5
theorem EnR.notown {He : Hp} (r : EnR K He F H σ η) {p : Addr} (h : H p = none) : ∀ (j : Nat), σ[j]? = some (some (.ref p)) → ∀ a, η[j]? = some a → isOwn a = false := fun j e a z => by
  cases ha : isOwn a with
  | false => rfl
  | true =>
    obtain ⟨q, o, e1, _, _, e4, _⟩ := r.cel j a z ha
    rw [e] at e1
    have : p = q := by injection (Option.some.inj (Option.some.inj e1))
    rw [this, e4] at h; cases h
theorem EnR.putCell {He : Hp} (r : EnR K He F H σ η) {i : Nat} {sl sl' : Sl} {p : Addr} {o : HO} (hi : η[i]? = some sl) (hs : isOwn sl = true) (hs' : isOwn sl' = true) (hσ : σ[i]? = some (some (.ref p))) (h4 : CellR K F sl' o) :
    EnR K He F (upd H p o) σ (η.set i sl') where
  len := by rw [List.length_set]; exact r.len
  val := fun j d' e => by
    by_cases hj : i = j
    · subst hj
      rw [List.getElem?_set_self (List.getElem?_eq_some_iff.mp hi).1] at e
      have e' : sl' = .val d' := Option.some.inj e
      subst e'
      cases hs'
    · rw [List.getElem?_set_ne hj] at e; exact r.val j d' e
  cel := fun j a e ha => by
    by_cases hj : i = j
    · subst hj
      rw [List.getElem?_set_self (List.getElem?_eq_some_iff.mp hi).1] at e
      have e' : sl' = a := Option.some.inj e
      subst e'
      obtain ⟨q, o1, e1, e2, e3, e4, e5⟩ := r.cel i sl hi hs
      rw [hσ] at e1
      have : p = q := by injection (Option.some.inj (Option.some.inj e1))
      subst this
      exact ⟨p, o, hσ, e2, e3, upd_same, h4⟩
    · rw [List.getElem?_set_ne hj] at e
      obtain ⟨q, o1, e1, e2, e3, e4, e5⟩ := r.cel j a e ha
      refine ⟨q, o1, e1, e2, e3, ?_, e5⟩
      rw [upd_ne]
      · exact e4
      · intro z
        subst z
        exact r.apart i j sl a hi e hs ha hj (by rw [hσ, e1])
  apart := fun j k a b ej ek ha hb hjk => by
    have aa : ∀ (j : Nat) a, (η.set i sl')[j]? = some a → isOwn a = true → ∃ a', η[j]? = some a' ∧ isOwn a' = true := fun j a e ha => by
      by_cases hj : i = j
      · subst hj; exact ⟨sl, hi, hs⟩
      · rw [List.getElem?_set_ne hj] at e; exact ⟨a, e, ha⟩
    obtain ⟨a', e1, f1⟩ := aa j a ej ha
    obtain ⟨b', e2, f2⟩ := aa k b ek hb
    exact r.apart j k a' b' e1 e2 f1 f2 hjk
  obs := fun j fs e => by
    by_cases hj : i = j
    · subst hj
      rw [List.getElem?_set_self (List.getElem?_eq_some_iff.mp hi).1] at e
      have e' : sl' = .ob fs := Option.some.inj e
      subst e'
      cases hs'
    · rw [List.getElem?_set_ne hj] at e
      obtain ⟨q, C, dx, xs, e1, e2, e3, e4⟩ := r.obs j fs e
      refine ⟨q, C, dx, xs, e1, ?_, e3, e4⟩
      obtain ⟨p', o1, f1, _, _, f4, f5⟩ := r.cel i sl hi hs
      rw [hσ] at f1
      have : p = p' := by injection (Option.some.inj (Option.some.inj f1))
      subst this
      rw [upd_ne]
      · exact e2
      · intro z
        subst z
        rw [f4] at e2
        exact f5.noins _ _ _ (Option.some.inj e2)
theorem EnR.putOwn {He : Hp} (r : EnR K He F H σ η) {i : Nat} {ds es : List PyData} {p : Addr} {ys : List V} (hi : η[i]? = some (.own ds)) (hσ : σ[i]? = some (some (.ref p))) (h4 : RelL K F es ys) :
    EnR K He F (upd H p (.lst ys)) σ (η.set i (.own es)) := r.putCell hi rfl rfl hσ ⟨ys, rfl, h4⟩
theorem SR.freezeCell (r : SR K B F H σ η) {i : Nat} {sl : Sl} {d : PyData} {p : Addr} {o : HO} (hi : η[i]? = some sl) (hs : isOwn sl = true) (e1 : σ[i]? = some (some (.ref p))) (e2 : F p = none) (e3 : B.H p = none) (e4 : H p = some o) (rel : Rel K (upd F p o) d (.ref p)) :
    Same F (upd F p o) ∧ SR K B (upd F p o) H σ (η.set i (.val d)) := by
  have sn := same_new (H := F) e2 o
  refine ⟨sn, ⟨⟨r.gr.ff.trans sn, r.gr.hh, ?_, ?_⟩, ?_⟩⟩
  · intro b u q
    by_cases e : b = p
    · subst e; rw [upd_same] at q; rw [← q]; exact e4
    · rw [upd_ne e] at q; exact r.gr.fh _ _ q
  · intro b q
    by_cases e : b = p
    · subst e; exact .inr e3
    · rw [upd_ne e] at q; exact r.gr.new b q
  · refine ⟨by rw [List.length_set]; exact r.en.len, fun j d' e => ?_, fun j a e ha => ?_, fun j k a b ej ek ha hb hjk => ?_, fun j fs e => ?_⟩
    · by_cases hj : i = j
      · subst hj
        rw [List.getElem?_set_self (List.getElem?_eq_some_iff.mp hi).1] at e
        have e' : d = d' := by injection (Option.some.inj e)
        subst e'
        exact ⟨_, e1, rel⟩
      · rw [List.getElem?_set_ne hj] at e
        obtain ⟨v, q1, q2⟩ := r.en.val j d' e
        exact ⟨v, q1, q2.mono sn⟩
    · by_cases hj : i = j
      · subst hj
        rw [List.getElem?_set_self (List.getElem?_eq_some_iff.mp hi).1] at e
        have e' : Sl.val d = a := Option.some.inj e
        subst e'
        cases ha
      · rw [List.getElem?_set_ne hj] at e
        obtain ⟨q, o1, q1, q2, q3, q4, q5⟩ := r.en.cel j a e ha
        refine ⟨q, o1, q1, ?_, q3, q4, q5.mono sn⟩
        rw [upd_ne]
        · exact q2
        · intro z
          subst z
          exact r.en.apart i j sl a hi e hs ha hj (by rw [e1, q1])
    · have no : ∀ (j : Nat) a, (η.set i (.val d))[j]? = some a → isOwn a = true → i ≠ j := fun j a ej ha hj => by
        subst hj
        rw [List.getElem?_set_self (List.getElem?_eq_some_iff.mp hi).1] at ej
        have e' : Sl.val d = a := Option.some.inj ej
        subst e'
        cases ha
      have nj := no j a ej ha
      have nk := no k b ek hb
      rw [List.getElem?_set_ne nj] at ej
      rw [List.getElem?_set_ne nk] at ek
      exact r.en.apart j k a b ej ek ha hb hjk
    · by_cases hj : i = j
      · subst hj
        rw [List.getElem?_set_self (List.getElem?_eq_some_iff.mp hi).1] at e; cases e
      · rw [List.getElem?_set_ne hj] at e
        obtain ⟨q, C, dx, xs, q1, q2, q3, q4⟩ := r.en.obs j fs e
        exact ⟨q, C, dx, xs, q1, q2, q3, q4.mono sn⟩
theorem SR.freeze (r : SR K B F H σ η) {i : Nat} {ds : List PyData} (hi : η[i]? = some (.own ds)) : ∃ F' p, σ[i]? = some (some (.ref p)) ∧ Same F F' ∧ SR K B F' H σ (η.set i (.val (.list ds))) ∧ Rel K F' (.list ds) (.ref p) := by
  obtain ⟨p, xs, e1, e2, e3, e4, e5⟩ := r.en.own i ds hi
  have rel : Rel K (upd F p (.lst xs)) (.list ds) (.ref p) := rel_lst (SqL.of upd_same) (e5.mono (same_new (H := F) e2 (.lst xs)))
  obtain ⟨h1, h2⟩ := r.freezeCell hi rfl e1 e2 e3 e4 rel
  exact ⟨_, p, e1, h1, h2, rel⟩
theorem SR.freezeD (r : SR K B F H σ η) {i : Nat} {kvs : List (Key × PyData)} (hi : η[i]? = some (.odc kvs)) : ∃ F' p, σ[i]? = some (some (.ref p)) ∧ Same F F' ∧ SR K B F' H σ (η.set i (.val (.dict (prs kvs)))) ∧ Rel K F' (.dict (prs kvs)) (.ref p) := by
  obtain ⟨p, ks, e1, e2, e3, e4, e5⟩ := r.en.odc i kvs hi
  have rel : Rel K (upd F p (.dK ks)) (.dict (prs kvs)) (.ref p) := rel_dct (.inl upd_same) (e5.mono (same_new (H := F) e2 (.dK ks)))
  obtain ⟨h1, h2⟩ := r.freezeCell hi rfl e1 e2 e3 e4 rel
  exact ⟨_, p, e1, h1, h2, rel⟩
end
section
variable (K : PySem.W.Frag) (B : Bd)
noncomputable def tE (f : En → Option PyData) : TE := fun σ H Q => ∃ F η d, SR K B F H σ η ∧ f η = some d ∧ ∀ v F' H', Gr F H F' H' → Rel K F' d v → Q v H'
noncomputable def tO (f : En → Option (List PyData)) : TE := fun σ H Q => ∃ F η ds, SR K B F H σ η ∧ f η = some ds ∧ ∀ p xs F' H', Gr F H F' H' → H p = none → F' p = none → H' p = some (.lst xs) → RelL K F' ds xs → Q (.ref p) H'
noncomputable def tT (f : En → Option Bool) : TT := fun σ H Q => ∃ F η b, SR K B F H σ η ∧ f η = some b ∧ ∀ F' H', Gr F H F' H' → Q b H'
noncomputable def tA (f : En → Option (List PyData)) : TA := fun σ H Q => ∃ F η ds, SR K B F H σ η ∧ f η = some ds ∧ ∀ vs F' H', Gr F H F' H' → RelL K F' ds vs → Q vs H'
end
noncomputable def E (X : Cx) (B : Bd) (e : Expr) (f : En → Option PyData) : Prop := PE X e (tE X.K B f)
noncomputable def EO (X : Cx) (B : Bd) (e : Expr) (f : En → Option (List PyData)) : Prop := PE X e (tO X.K B f)
noncomputable def T (X : Cx) (B : Bd) (e : Expr) (f : En → Option Bool) : Prop := PT X e (tT X.K B f)
noncomputable def TW (X : Cx) (B : Bd) (e : Expr) (f : En → Option Bool) : Prop := PW X e (tT X.K B f)
noncomputable def A (X : Cx) (B : Bd) (es : List Expr) (f : En → Option (List PyData)) : Prop := PA X es (tA X.K B f)
theorem PE.imp {X : Cx} {e : Expr} {t t' : TE} (h : PE X e t) (i : ∀ σ H Q, t' σ H Q → t σ H Q) : PE X e t' := fun pins s σ H Q I q => h pins s σ H Q I (i σ H Q q)
theorem PT.imp {X : Cx} {e : Expr} {t t' : TT} (h : PT X e t) (i : ∀ σ H Q, t' σ H Q → t σ H Q) : PT X e t' := fun pins s σ H Q I q => h pins s σ H Q I (i σ H Q q)
theorem PW.imp {X : Cx} {e : Expr} {t t' : TT} (h : PW X e t) (i : ∀ σ H Q, t' σ H Q → t σ H Q) : PW X e t' := fun wh pins s σ H Q I q => h wh pins s σ H Q I (i σ H Q q)
theorem PA.imp {X : Cx} {e : List Expr} {t t' : TA} (h : PA X e t) (i : ∀ σ H Q, t' σ H Q → t σ H Q) : PA X e t' := fun pos pins s σ H Q I q => h pos pins s σ H Q I (i σ H Q q)
noncomputable def eV (i : Nat) : En → Option PyData := fun η => match η[i]? with | some (.val d) => some d | _ => none
noncomputable def eC (d : PyData) : En → Option PyData := fun _ => some d
noncomputable def l1 (o : PyData → Option PyData) (f : En → Option PyData) : En → Option PyData := fun η => (f η).bind o
noncomputable def l2 (o : PyData → PyData → Option PyData) (f g : En → Option PyData) : En → Option PyData := fun η => (f η).bind fun x => (g η).bind fun y => o x y
noncomputable def aN : En → Option (List PyData) := fun _ => some []
noncomputable def aC (f : En → Option PyData) (g : En → Option (List PyData)) : En → Option (List PyData) := fun η => (f η).bind fun x => (g η).bind fun xs => some (x :: xs)
noncomputable def lA (o : List PyData → Option PyData) (f : En → Option (List PyData)) : En → Option PyData := fun η => (f η).bind o
section
variable {X : Cx} {B : Bd} {a b c e : Expr} {es : List Expr} {f g h : En → Option PyData} {fs : En → Option (List PyData)} {pos : Pos}
theorem bind_some {α β : Type} {o : Option α} {k : α → Option β} {y : β} (h : o.bind k = some y) : ∃ x, o = some x ∧ k x = some y := by
  cases o with
  | none => cases h
  | some x => exact ⟨x, rfl, h⟩
noncomputable def Ad2 (K : PySem.W.Frag) (r : R2) (o : PyData → PyData → Option PyData) : Prop :=
  ∀ F H x y dx dy d Q, Same F H → Rel K F dx x → Rel K F dy y → o dx dy = some d → (∀ v F' H', Gr F H F' H' → Rel K F' d v → Q v H') → r x y H Q
theorem t2 {K : PySem.W.Frag} {r : R2} {o : PyData → PyData → Option PyData} (ad : Ad2 K r o) : ∀ σ H Q, tE K B (l2 o f g) σ H Q → tOp r (tE K B f) (tE K B g) σ H Q := by
  intro σ H Q ⟨F, η, d, sr, hd, q⟩
  obtain ⟨x, hx, hd⟩ := bind_some hd
  obtain ⟨y, hy, hd⟩ := bind_some hd
  refine ⟨F, η, x, sr, hx, fun v F1 H1 g1 rv => ⟨F1, η, y, sr.grow g1, hy, fun u F2 H2 g2 ru => ?_⟩⟩
  exact ad F2 H2 v u x y d Q g2.fh (rv.mono g2.ff) ru hd fun w F3 H3 g3 rw' => q w F3 H3 ((g1.trans g2).trans g3) rw'
theorem E.op {op : Operator} {r : R2} {o : PyData → PyData → Option PyData} (ho : OpR X (binaryOp op) r) (ad : Ad2 X.K r o) (ha : E X B a f) (hb : E X B b g) : E X B (.BinOp a op b pos) (l2 o f g) :=
  PE.imp (pe_op ho ha hb) (t2 ad)
theorem E.cmp {op : CmpOp} {r : R2} {o : PyData → PyData → Option PyData} (ho : OpR X (compareOp op) r) (ad : Ad2 X.K r o) (hm : behindInMarks op b = false) (ha : E X B a f) (hb : E X B b g) : E X B (.Compare a [op] [b] pos) (l2 o f g) :=
  PE.imp (pe_cmpR ho ha hb hm) (t2 ad)
theorem E.ix {r : R2} {o : PyData → PyData → Option PyData} (hr : IxR X r) (ad : Ad2 X.K r o) (ha : E X B a f) (hb : E X B b g) (hs : PlainIx b := by intro _ _; rfl) : E X B (.Subscript a b pos) (l2 o f g) :=
  PE.imp (pe_ix hr ha hb hs) (t2 ad)
theorem E.v (i : Nat) {x : Str} (hN : X.N[i]? = some x := by rfl) (hv : Vis X.env.scope x := by first | exact Or.inl rfl | exact Or.inr (Or.inl rfl) | exact Or.inr (Or.inr rfl)) (hd : (x == ("__debug__" : Str)) = false := by decide)
    (hcd : (x == ("__classdict__" : Str)) = false := by decide) : E X B (.Name x pos) (eV i) :=
  PE.imp (pe_var hN hv hd hcd) fun σ H Q ⟨F, η, d, sr, hd, q⟩ => by
    unfold eV at hd
    split at hd
    · rename_i d' e
      cases hd
      obtain ⟨v, e1, e2⟩ := sr.en.val i d e
      exact ⟨v, e1, q v F H (.refl sr.same) e2⟩
    · cases hd
theorem tC_of {K : PySem.W.Frag} {v : V} {d : PyData} (h : ∀ F, Rel K F d v) : ∀ σ H Q, tE K B (eC d) σ H Q → tC v σ H Q := fun σ H Q ⟨F, η, d', sr, hd, q⟩ => by
  have e : d = d' := Option.some.inj hd
  subst e
  exact q v F H (.refl sr.same) (h F)
theorem E.int {i : Int} {j} : E X B (.Constant (.int i) j pos) (eC (.int i)) := PE.imp pe_int (tC_of fun _ => rel_int)
theorem E.bl {i : Bool} {j} : E X B (.Constant (.bool i) j pos) (eC (.bool i)) := PE.imp pe_bl (tC_of fun _ => rel_bl)
theorem E.non {j} : E X B (.Constant .none j pos) (eC .none) := PE.imp pe_non (tC_of fun _ => rel_non)
theorem E.str {i : Str} {j} : E X B (.Constant (.str i) j pos) (eC (.str i)) := PE.imp pe_str (tC_of fun _ => rel_str)
theorem E.glob {x : Str} {v : V} {u : Value} {d : PyData} (hm : X.mg x = some u) (r : RelV v u) (h : ∀ F, Rel X.K F d v) (hg : Gl X x := by rfl) (hd : (x == ("__debug__" : Str)) = false := by decide) : E X B (.Name x pos) (eC d) :=
  PE.imp (pe_glob hg hm r hd) (tC_of h)
theorem A.nil : A X B [] aN := PA.imp pa_nil fun σ H Q ⟨F, η, d, sr, hd, q⟩ => by
  cases hd
  exact q [] F H (.refl sr.same) .nil
theorem A.cons (ha : E X B e f) (hr : A X B es fs) (hs : starEach (e :: es) X.env = (false, eval e X.env) :: starEach es X.env := by exact star_of rfl) : A X B (e :: es) (aC f fs) := PA.imp (pa_cons ha hr hs) fun σ H Q ⟨F, η, d, sr, hd, q⟩ => by
  obtain ⟨x, hx, hd⟩ := bind_some hd
  obtain ⟨y, hy, hd⟩ := bind_some hd
  cases hd
  exact ⟨F, η, x, sr, hx, fun v F1 H1 g1 rv => ⟨F1, η, y, sr.grow g1, hy, fun vs F2 H2 g2 rs => q (v :: vs) F2 H2 (g1.trans g2) (.cons (rv.mono g2.ff) rs)⟩⟩
noncomputable def gL (ds : List PyData) : Option (List PyData) := if ds.length ≤ sizeLine then some ds else none
theorem E.tup {x1} (hs : A X B es fs) : E X B (.Tuple es x1 pos) (lA (fun ds => if ds.length ≤ sizeLine then some (.tuple ds) else none) fs) := PE.imp (pe_tup hs) fun σ H Q ⟨F, η, d, sr, hd, q⟩ => by
  obtain ⟨ds, hx, hd⟩ := bind_some hd
  split at hd
  · rename_i hl
    cases hd
    refine ⟨F, η, ds, sr, hx, fun vs F1 H1 g1 rs => ⟨by rw [rs.length]; exact hl, fun p hp => ?_⟩⟩
    have g2 : Gr F1 H1 (upd F1 p (.tup vs)) (upd H1 p (.tup vs)) := Gr.one g1.fh hp
    exact q _ _ _ (g1.trans g2) (rel_tup (SqT.of upd_same) (rs.mono g2.ff))
  · cases hd
theorem EO.lst (hs : A X B es fs) : EO X B (.List es pos) (fun η => (fs η).bind gL) := PE.imp (pe_lst hs) fun σ H Q ⟨F, η, ds, sr, hd, q⟩ => by
  obtain ⟨ds', hx, hd⟩ := bind_some hd
  unfold gL at hd
  split at hd
  · rename_i hl
    cases hd
    refine ⟨F, η, ds, sr, hx, fun vs F1 H1 g1 rs => ⟨by rw [rs.length]; exact hl, fun p hp => ?_⟩⟩
    refine q p vs F1 (upd H1 p (.lst vs)) ?_ (g1.hh.free hp) (g1.fh.free hp) upd_same rs
    refine ⟨g1.ff, g1.hh.trans (same_new hp _), fun b u z => ?_, g1.new⟩
    exact same_new hp _ b u (g1.fh b u z)
  · cases hd
noncomputable def oE (f : En → Option (List PyData)) : En → Option PyData := fun η => (f η).bind fun ds => some (.list ds)
theorem EO.toE (he : EO X B e fs) : E X B e (oE fs) := PE.imp he fun σ H Q ⟨F, η, d, sr, hd, q⟩ => by
  obtain ⟨ds, hx, hd⟩ := bind_some hd
  cases hd
  refine ⟨F, η, ds, sr, hx, fun p xs F' H' g1 hp fp hp' rs => ?_⟩
  have sn := same_new (H := F') fp (.lst xs)
  refine q (.ref p) (upd F' p (.lst xs)) H' ⟨g1.ff.trans sn, g1.hh, fun b u z => ?_, fun b z => ?_⟩ (rel_lst (SqL.of upd_same) (rs.mono sn))
  · by_cases e : b = p
    · subst e; rw [upd_same] at z; rw [← z]; exact hp'
    · rw [upd_ne e] at z; exact g1.fh _ _ z
  · by_cases e : b = p
    · subst e; exact .inr hp
    · rw [upd_ne e] at z; exact g1.new b z
noncomputable def asB : PyData → Option Bool
  | .bool b => some b
  | _ => none
noncomputable def bT (f : En → Option PyData) : En → Option Bool := fun η => (f η).bind asB
theorem asB_some {d : PyData} {b : Bool} (h : asB d = some b) : d = .bool b := by
  cases d <;> simp [asB] at h
  rw [h]
theorem T.val (he : E X B e f) (hi : ∀ whole, isTrue e X.env whole = (do let v ← whole; standAt e.pos; holding [v] (truthy v)) := by intro _; rfl) : T X B e (bT f) := PT.imp (pt_val he hi) fun σ H Q ⟨F, η, b, sr, hd, q⟩ => by
  obtain ⟨x, hx, hd⟩ := bind_some hd
  obtain rfl := asB_some hd
  exact ⟨F, η, _, sr, hx, fun v F1 H1 g1 rv => ⟨b, rv.bl, q F1 H1 g1⟩⟩
theorem T.cmp {op : CmpOp} {r : R2} {o : PyData → PyData → Option PyData} (ho : OpR X (compareOp op) r) (ad : Ad2 X.K r o) (hm : behindInMarks op b = false) (ha : E X B a f) (hb : E X B b g) : T X B (.Compare a [op] [b] pos) (bT (l2 o f g)) :=
  PT.imp (pt_cmpR ho ha hb hm) fun σ H Q ⟨F, η, b, sr, hd, q⟩ => by
    obtain ⟨x, hx, hd⟩ := bind_some hd
    obtain rfl := asB_some hd
    exact t2 ad σ H _ ⟨F, η, _, sr, hx, fun v F1 H1 g1 rv => ⟨b, rv.bl, q F1 H1 g1⟩⟩
noncomputable def lch (o o' : PyData → PyData → Option PyData) (f g h : En → Option PyData) : En → Option PyData := fun η => (f η).bind fun x => (g η).bind fun y => (o x y).bind fun z => (asB z).bind fun k =>
  if k = true then (h η).bind fun w => o' y w else some (.bool false)
theorem E.chain {op op' : CmpOp} {r r' : R2} {o o' : PyData → PyData → Option PyData} (ho : OpR X (compareOp op) r) (ad : Ad2 X.K r o) (ho' : OpR X (compareOp op') r') (ad' : Ad2 X.K r' o') (ha : E X B a f) (hb : E X B b g) (hc : E X B c h)
    (hm : lastMarks [op, op'] [b, c] = false := by with_unfolding_all rfl) : E X B (.Compare a [op, op'] [b, c] pos) (lch o o' f g h) := PE.imp (pe_chain ho ho' ha hb hc hm) fun σ H Q ⟨F, η, d, sr, hd, q⟩ => by
  obtain ⟨x, hx, hd⟩ := bind_some hd
  obtain ⟨y, hy, hd⟩ := bind_some hd
  obtain ⟨z, hz, hd⟩ := bind_some hd
  obtain ⟨k, hk, hd2⟩ := bind_some hd
  clear hd
  obtain rfl := asB_some hk
  have hd := hd2
  refine ⟨F, η, x, sr, hx, fun v F1 H1 g1 rv => ⟨F1, η, y, sr.grow g1, hy, fun u F2 H2 g2 ru => ?_⟩⟩
  refine ad F2 H2 v u x y _ _ g2.fh (rv.mono g2.ff) ru hz fun w F3 H3 g3 rw' => ⟨k, rw'.bl, ?_⟩
  cases k with
  | false =>
    rw [if_neg Bool.false_ne_true] at hd ⊢
    cases hd
    exact q _ F3 H3 ((g1.trans g2).trans g3) rel_bl
  | true =>
    rw [if_pos rfl] at hd ⊢
    obtain ⟨w2, hw2, hd⟩ := bind_some hd
    refine ⟨F3, η, w2, (sr.grow (g1.trans g2)).grow g3, hw2, fun t F4 H4 g4 rt => ?_⟩
    exact ad' F4 H4 u t y w2 d Q g4.fh (ru.mono (g3.ff.trans g4.ff)) rt hd fun w5 F5 H5 g5 r5 => q w5 F5 H5 (((g1.trans g2).trans g3).trans (g4.trans g5)) r5
theorem T.chain {op op' : CmpOp} {r r' : R2} {o o' : PyData → PyData → Option PyData} (ho : OpR X (compareOp op) r) (ad : Ad2 X.K r o) (ho' : OpR X (compareOp op') r') (ad' : Ad2 X.K r' o') (ha : E X B a f) (hb : E X B b g) (hc : E X B c h)
    (hm : lastMarks [op, op'] [b, c] = false := by with_unfolding_all rfl) : T X B (.Compare a [op, op'] [b, c] pos) (bT (lch o o' f g h)) := PT.imp (pt_chain ho ho' ha hb hc hm) fun σ H Q ⟨F, η, d', sr, hd', q'⟩ => by
  obtain ⟨d, hd, hdb⟩ := bind_some hd'
  obtain rfl := asB_some hdb
  obtain ⟨x, hx, hd⟩ := bind_some hd
  obtain ⟨y, hy, hd⟩ := bind_some hd
  obtain ⟨z, hz, hd⟩ := bind_some hd
  obtain ⟨k, hk, hd2⟩ := bind_some hd
  clear hd
  obtain rfl := asB_some hk
  have hd := hd2
  refine ⟨F, η, x, sr, hx, fun v F1 H1 g1 rv => ⟨F1, η, y, sr.grow g1, hy, fun u F2 H2 g2 ru => ?_⟩⟩
  refine ad F2 H2 v u x y _ _ g2.fh (rv.mono g2.ff) ru hz fun w F3 H3 g3 rw' => ⟨k, rw'.bl, ?_⟩
  cases k with
  | false =>
    rw [if_neg Bool.false_ne_true] at hd ⊢
    cases hd
    exact ⟨_, rfl, q' F3 H3 ((g1.trans g2).trans g3)⟩
  | true =>
    rw [if_pos rfl] at hd ⊢
    obtain ⟨w2, hw2, hd⟩ := bind_some hd
    refine ⟨F3, η, w2, (sr.grow (g1.trans g2)).grow g3, hw2, fun t F4 H4 g4 rt => ?_⟩
    exact ad' F4 H4 u t y w2 _ _ g4.fh (ru.mono (g3.ff.trans g4.ff)) rt hd fun w5 F5 H5 g5 r5 => ⟨_, r5.bl, q' F5 H5 (((g1.trans g2).trans g3).trans (g4.trans g5))⟩
noncomputable def bAnd (f g : En → Option Bool) : En → Option Bool := fun η => (f η).bind fun c => if c = true then g η else some false
noncomputable def bOr (f g : En → Option Bool) : En → Option Bool := fun η => (f η).bind fun c => if c = true then some true else g η
noncomputable def bNot (f : En → Option Bool) : En → Option Bool := fun η => (f η).bind fun c => some (!c)
variable {p q r : En → Option Bool} {rest : List Expr}
theorem T.not (ha : T X B a p) : T X B (.UnaryOp .Not a pos) (bNot p) := PT.imp (pt_not ha) fun σ H Q ⟨F, η, b, sr, hd, q⟩ => by
  obtain ⟨x, hx, hd⟩ := bind_some hd
  cases hd
  exact ⟨F, η, x, sr, hx, q⟩
theorem TW.t (h : TW X B a p) : T X B a p := PW.pt h
theorem TW.and1 (ha : T X B a p) : TW X B (.BoolOp .And [a] pos) p := pw_and1 ha
theorem TW.or1 (ha : T X B a p) : TW X B (.BoolOp .Or [a] pos) p := pw_or1 ha
theorem TW.and (ha : T X B a p) (hb : TW X B (.BoolOp .And (b :: rest) pos) q) : TW X B (.BoolOp .And (a :: b :: rest) pos) (bAnd p q) := PW.imp (pw_and ha hb) fun σ H Q ⟨F, η, b, sr, hd, k⟩ => by
  obtain ⟨x, hx, hd⟩ := bind_some hd
  refine ⟨F, η, x, sr, hx, fun F1 H1 g1 => ?_⟩
  cases x with
  | false =>
    rw [if_neg Bool.false_ne_true] at hd ⊢
    cases hd
    exact k F1 H1 g1
  | true =>
    rw [if_pos rfl] at hd ⊢
    exact ⟨F1, η, b, sr.grow g1, hd, fun F2 H2 g2 => k F2 H2 (g1.trans g2)⟩
theorem TW.or (ha : T X B a p) (hb : TW X B (.BoolOp .Or (b :: rest) pos) q) : TW X B (.BoolOp .Or (a :: b :: rest) pos) (bOr p q) := PW.imp (pw_or ha hb) fun σ H Q ⟨F, η, b, sr, hd, k⟩ => by
  obtain ⟨x, hx, hd⟩ := bind_some hd
  refine ⟨F, η, x, sr, hx, fun F1 H1 g1 => ?_⟩
  cases x with
  | false =>
    rw [if_neg Bool.false_ne_true] at hd ⊢
    exact ⟨F1, η, b, sr.grow g1, hd, fun F2 H2 g2 => k F2 H2 (g1.trans g2)⟩
  | true =>
    rw [if_pos rfl] at hd ⊢
    cases hd
    exact k F1 H1 g1
noncomputable def vAnd (f g : En → Option PyData) : En → Option PyData := fun η => (f η).bind fun x => (asB x).bind fun c => if c = true then g η else some (.bool false)
noncomputable def vOr (f g : En → Option PyData) : En → Option PyData := fun η => (f η).bind fun x => (asB x).bind fun c => if c = true then some (.bool true) else g η
noncomputable def vNot (f : En → Option PyData) : En → Option PyData := fun η => (f η).bind fun x => (asB x).bind fun c => some (.bool (!c))
theorem E.one {op} (ha : E X B a f) : E X B (.BoolOp op [a] pos) f := pe_one ha
theorem E.and (ha : E X B a f) (hb : E X B (.BoolOp .And (b :: rest) pos) g) : E X B (.BoolOp .And (a :: b :: rest) pos) (vAnd f g) := PE.imp (pe_and ha hb) fun σ H Q ⟨F, η, b, sr, hd, k⟩ => by
  obtain ⟨x, hx, hd⟩ := bind_some hd
  obtain ⟨c, hc, hd2⟩ := bind_some hd
  clear hd
  obtain rfl := asB_some hc
  have hd := hd2
  refine ⟨F, η, _, sr, hx, fun v F1 H1 g1 rv => ⟨c, rv.bl, ?_⟩⟩
  cases c with
  | false =>
    rw [if_neg Bool.false_ne_true] at hd ⊢
    cases hd
    exact k _ F1 H1 g1 rel_bl
  | true =>
    rw [if_pos rfl] at hd ⊢
    exact ⟨F1, η, b, sr.grow g1, hd, fun u F2 H2 g2 => k u F2 H2 (g1.trans g2)⟩
theorem E.not (ha : E X B a f) : E X B (.UnaryOp .Not a pos) (vNot f) := PE.imp (pe_not ha) fun σ H Q ⟨F, η, b, sr, hd, k⟩ => by
  obtain ⟨x, hx, hd⟩ := bind_some hd
  obtain ⟨c, hc, hd2⟩ := bind_some hd
  clear hd
  obtain rfl := asB_some hc
  have hd := hd2
  cases hd
  exact ⟨F, η, _, sr, hx, fun v F1 H1 g1 rv => ⟨c, rv.bl, k _ F1 H1 g1 rel_bl⟩⟩
noncomputable def vIf (c : En → Option Bool) (f g : En → Option PyData) : En → Option PyData := fun η => (c η).bind fun c => if c = true then f η else g η
theorem E.ifE (hc : T X B c p) (ha : E X B a f) (hb : E X B b g) : E X B (.IfExp c a b pos) (vIf p f g) := PE.imp (pe_ifExp hc ha hb) fun σ H Q ⟨F, η, d, sr, hd, k⟩ => by
  obtain ⟨x, hx, hd⟩ := bind_some hd
  refine ⟨F, η, x, sr, hx, fun F1 H1 g1 => ?_⟩
  cases x with
  | false =>
    rw [if_neg Bool.false_ne_true] at hd ⊢
    exact ⟨F1, η, d, sr.grow g1, hd, fun u F2 H2 g2 => k u F2 H2 (g1.trans g2)⟩
  | true =>
    rw [if_pos rfl] at hd ⊢
    exact ⟨F1, η, d, sr.grow g1, hd, fun u F2 H2 g2 => k u F2 H2 (g1.trans g2)⟩
noncomputable def spP (K : PySem.W.Frag) (fn : List PyData → Option PyData) : Sp := fun vs H Q _ => ∃ F ds d, Same F H ∧ RelL K F ds vs ∧ fn ds = some d ∧ ∀ v F' H', Gr F H F' H' → Rel K F' d v → Q v H'
theorem E.call {k k' : Nat} {fa : Addr} {fd : FuncData} {ps : List Str} {x : Str} {ppos : Pos} {fn : List PyData → Option PyData} (G : FnOk X.prog X.w X.K X.mg X.base CX0 k fa fd ps (spP X.K fn)) (hr : Room k' X.A) (hkk : k ≤ k') (hm : X.mg x = some (.ref fa)) (hk : PySem.W.keepIn X.K (.ref fa) = true) (hb : Binds X.K fd ps [])
    (ha : A X B (e :: es) fs) (hg : Gl X x := by rfl) (hdb : (x == ("__debug__" : Str)) = false := by decide) (he : starEach (e :: es) X.env = (false, eval e X.env) :: starEach es X.env := by exact star_of rfl) (hpl : (backTo pos (starEach es X.env)).any (·.1) = false := by exact plain_of rfl) :
    E X B (.Call (.Name x ppos) (e :: es) [] pos) (lA fn fs) := PE.imp (pe_call G (hr.mono hkk) hg hm hk hb .nil pass0 ha hdb he hpl) fun σ H Q ⟨F, η, d, sr, hd, q⟩ => by
  obtain ⟨ds, hx, hd⟩ := bind_some hd
  refine ⟨F, η, ds, sr, hx, fun vs F1 H1 g1 rs => ?_⟩
  show spP X.K fn (vs ++ []) H1 Q E0
  rw [List.append_nil]
  exact ⟨F1, ds, d, g1.fh, rs, hd, fun v F2 H2 g2 rv => q v F2 H2 (g1.trans g2) rv⟩
end
inductive Out where
  | nx (η : En)
  | rt (d : PyData)
  | bk (η : En)
  | ct (η : En)
noncomputable def OutOk (K : PySem.W.Frag) (B : Bd) (F : Hp) (D : Ends) : Out → Prop
  | .nx η => ∀ σ' F' H', SR K B F' H' σ' η → Same F F' → D.nx σ' H'
  | .rt d => ∀ v F' H', Gr B.F B.H F' H' → Rel K F' d v → D.rt v H'
  | .bk η => ∀ σ' F' H', SR K B F' H' σ' η → Same F F' → D.bk σ' H'
  | .ct η => ∀ σ' F' H', SR K B F' H' σ' η → Same F F' → D.ct σ' H'
noncomputable def tS (K : PySem.W.Frag) (B : Bd) (f : En → Option Out) : TS := fun D σ H => ∃ F η o, SR K B F H σ η ∧ f η = some o ∧ OutOk K B F D o
noncomputable def S (X : Cx) (B : Bd) (st : Stmt) (f : En → Option Out) : Prop := PS X st (tS X.K B f)
noncomputable def Ss (X : Cx) (B : Bd) (st : List Stmt) (f : En → Option Out) : Prop := PSs X st (tS X.K B f)
theorem PS.imp {X : Cx} {e : Stmt} {t t' : TS} (h : PS X e t) (i : ∀ D σ H, t' D σ H → t D σ H) : PS X e t' := fun pins s σ H D I q => h pins s σ H D I (i D σ H q)
theorem PSs.imp {X : Cx} {e : List Stmt} {t t' : TS} (h : PSs X e t) (i : ∀ D σ H, t' D σ H → t D σ H) : PSs X e t' := fun pins s σ H D I q => h pins s σ H D I (i D σ H q)
theorem OutOk.up {K : PySem.W.Frag} {B : Bd} {F F1 : Hp} {D : Ends} {o : Out} (h : OutOk K B F D o) (s : Same F F1) : OutOk K B F1 D o := by
  cases o with
  | nx η => exact fun σ' F' H' r e => h σ' F' H' r (s.trans e)
  | rt d => exact h
  | bk η => exact fun σ' F' H' r e => h σ' F' H' r (s.trans e)
  | ct η => exact fun σ' F' H' r e => h σ' F' H' r (s.trans e)
noncomputable def sNx : En → Option Out := fun η => some (.nx η)
noncomputable def sSeq (f g : En → Option Out) : En → Option Out := fun η => (f η).bind fun o => match o with
  | .nx η' => g η'
  | o => some o
noncomputable def sRet (f : En → Option PyData) : En → Option Out := fun η => (f η).bind fun d => some (.rt d)
noncomputable def sRetN : En → Option Out := fun _ => some (.rt .none)
noncomputable def sRetO (i : Nat) : En → Option Out := fun η => match η[i]? with | some (.own ds) => some (.rt (.list ds)) | _ => none
noncomputable def sIf (c : En → Option Bool) (f g : En → Option Out) : En → Option Out := fun η => (c η).bind fun b => if b = true then f η else g η
noncomputable def sSet (i : Nat) (f : En → Option PyData) : En → Option Out := fun η => (f η).bind fun d => some (.nx (η.set i (.val d)))
noncomputable def sSetO (i : Nat) (f : En → Option (List PyData)) : En → Option Out := fun η => (f η).bind fun ds => some (.nx (η.set i (.own ds)))
noncomputable def sApp (i : Nat) (f : En → Option PyData) : En → Option Out := fun η => (f η).bind fun d => match η[i]? with
  | some (.own ds) => if ds.length < sizeLine then some (.nx (η.set i (.own (ds ++ [d])))) else none
  | _ => none
noncomputable def sExt (i : Nat) (f : En → Option (List PyData)) : En → Option Out := fun η => (f η).bind fun es => match η[i]? with
  | some (.own ds) => if ds.length + es.length ≤ sizeLine then some (.nx (η.set i (.own (ds ++ es)))) else none
  | _ => none
noncomputable def frz (i : Nat) (η : En) : En := match η[i]? with | some (.own ds) => η.set i (.val (.list ds)) | some (.odc kvs) => η.set i (.val (.dict (prs kvs))) | _ => η
section
variable {X : Cx} {B : Bd} {st : Stmt} {sts sts' : List Stmt} {u v : En → Option Out} {a b c e : Expr} {f g : En → Option PyData} {fs : En → Option (List PyData)} {p : En → Option Bool} {pos pos' : Pos}
theorem Ss.nil : Ss X B [] sNx := PSs.imp pss_nil fun D σ H ⟨F, η, o, sr, hd, q⟩ => by
  cases hd
  exact q σ F H sr (.refl _)
theorem Ss.one (h : S X B st u) : Ss X B [st] u := pss_one h
theorem Ss.cons (h : S X B st u) (k : Ss X B sts v) : Ss X B (st :: sts) (sSeq u v) := PSs.imp (pss_cons h k) fun D σ H ⟨F, η, o, sr, hd, q⟩ => by
  obtain ⟨o1, h1, hd⟩ := bind_some hd
  refine ⟨F, η, o1, sr, h1, ?_⟩
  cases o1 with
  | nx η' => exact fun σ' F' H' r e => ⟨F', η', o, r, hd, q.up e⟩
  | rt d => cases hd; exact q
  | bk η' => cases hd; exact q
  | ct η' => cases hd; exact q
theorem S.never : S X B st (fun _ => none) := PS.imp ps_never fun D σ H ⟨F, η, o, sr, hd, q⟩ => by cases hd
theorem S.ret (he : E X B e f) : S X B (.Return (some e) pos) (sRet f) := PS.imp (ps_ret he) fun D σ H ⟨F, η, o, sr, hd, q⟩ => by
  obtain ⟨d, h1, hd⟩ := bind_some hd
  cases hd
  exact ⟨F, η, d, sr, h1, fun v F' H' g rv => q v F' H' (sr.gr.trans g) rv⟩
theorem S.retO (i : Nat) {x : Str} (hN : X.N[i]? = some x := by rfl) (hv : Vis X.env.scope x := by first | exact Or.inl rfl | exact Or.inr (Or.inl rfl) | exact Or.inr (Or.inr rfl)) (hd : (x == ("__debug__" : Str)) = false := by decide)
    (hcd : (x == ("__classdict__" : Str)) = false := by decide) : S X B (.Return (some (.Name x pos')) pos) (sRetO i) := PS.imp (ps_ret (pe_var hN hv hd hcd)) fun D σ H ⟨F, η, o, sr, hd, q⟩ => by
  unfold sRetO at hd
  split at hd
  · rename_i ds e
    cases hd
    obtain ⟨F', p, e1, sf, sr', rel⟩ := sr.freeze e
    exact ⟨_, e1, q _ F' H sr'.gr rel⟩
  · cases hd
theorem S.ifS (hc : T X B c p) (ha : Ss X B sts u) (hb : Ss X B sts' v) : S X B (.If c sts sts' pos) (sIf p u v) := PS.imp (ps_if hc ha hb) fun D σ H ⟨F, η, o, sr, hd, q⟩ => by
  obtain ⟨b, h1, hd⟩ := bind_some hd
  refine ⟨F, η, b, sr, h1, fun F1 H1 g1 => ?_⟩
  cases b with
  | false =>
    rw [if_neg Bool.false_ne_true] at hd ⊢
    exact ⟨F1, η, o, sr.grow g1, hd, q.up g1.ff⟩
  | true =>
    rw [if_pos rfl] at hd ⊢
    exact ⟨F1, η, o, sr.grow g1, hd, q.up g1.ff⟩
theorem asg_of {K : PySem.W.Frag} {i : Nat} : ∀ D σ H, tS K B (sSet i f) D σ H → tAsg (tE K B f) (gName i) D σ H := fun D σ H ⟨F, η, o, sr, hd, q⟩ => by
  obtain ⟨d, h1, hd⟩ := bind_some hd
  cases hd
  refine ⟨F, η, d, sr, h1, fun v F1 H1 g1 rv => q _ F1 H1 ⟨sr.gr.trans g1, (sr.en.grow g1).set i rv⟩ g1.ff⟩
theorem asgO_of {K : PySem.W.Frag} {i : Nat} : ∀ D σ H, tS K B (sSetO i fs) D σ H → tAsg (tO K B fs) (gName i) D σ H := fun D σ H ⟨F, η, o, sr, hd, q⟩ => by
  obtain ⟨d, h1, hd⟩ := bind_some hd
  cases hd
  refine ⟨F, η, d, sr, h1, fun p xs F1 H1 g1 hp fp hp' rs => q _ F1 H1 ⟨sr.gr.trans g1, (sr.en.grow g1).setOwn i fp (sr.gr.hh.free hp) hp' rs fun j ej => sr.en.notown hp j ej⟩ g1.ff⟩
theorem S.set (i : Nat) {x : Str} (hN : X.N.Nodup) (he : E X B e f) (hi : X.N[i]? = some x := by rfl) (hx : Loc X.env.scope x := by first | exact Or.inl rfl | exact Or.inr rfl) (hs : swapsWith e (some (.Name x pos')) pos.line X.env = pure false := by rfl)
    (hf : X.fn x = true ∨ X.env.scope.names.lookup x = some .local := by first | exact .inl rfl | exact .inr rfl) : S X B (.Assign [.Name x pos'] e pos) (sSet i f) := PS.imp (ps_set hN hi hx he hs hf) asg_of
theorem S.setO (i : Nat) {x : Str} (hN : X.N.Nodup) (he : EO X B e fs) (hi : X.N[i]? = some x := by rfl) (hx : Loc X.env.scope x := by first | exact Or.inl rfl | exact Or.inr rfl) (hs : swapsWith e (some (.Name x pos')) pos.line X.env = pure false := by rfl)
    (hf : X.fn x = true ∨ X.env.scope.names.lookup x = some .local := by first | exact .inl rfl | exact .inr rfl) : S X B (.Assign [.Name x pos'] e pos) (sSetO i fs) := PS.imp (ps_set hN hi hx he hs hf) asgO_of
theorem Ss.frz (i : Nat) (h : Ss X B sts u) : Ss X B sts (fun η => u (frz i η)) := PSs.imp h fun D σ H ⟨F, η, o, sr, hd, q⟩ => by
  have hd : u (PU.frz i η) = some o := hd
  unfold PU.frz at hd
  split at hd
  · rename_i ds e
    obtain ⟨F', p, e1, sf, sr', rel⟩ := sr.freeze e
    exact ⟨F', _, o, sr', hd, q.up sf⟩
  · rename_i kvs e
    obtain ⟨F', p, e1, sf, sr', rel⟩ := sr.freezeD e
    exact ⟨F', _, o, sr', hd, q.up sf⟩
  · exact ⟨F, η, o, sr, hd, q⟩
noncomputable def ItP (K : PySem.W.Frag) (J : It) (F : Hp) (ds : List PyData) : Prop := ∀ F1 H1 (i : Nat), Same F F1 → Same F1 H1 →
  (∀ d, ds[i]? = some d → J.go i H1 ∧ ∀ x H2, J.yld i H1 x H2 → ∃ F2, Gr F1 H1 F2 H2 ∧ Rel K F2 d x) ∧ (i = ds.length → J.stop i H1)
noncomputable def tI (K : PySem.W.Frag) (B : Bd) (f : En → Option (List PyData)) : TI := fun σ H R => ∃ F η ds, SR K B F H σ η ∧ f η = some ds ∧ ∀ J F' H', Gr F H F' H' → ItP K J F' ds → R J H'
noncomputable def I (X : Cx) (B : Bd) (tg iter : Expr) (f : En → Option (List PyData)) : Prop := PI X tg iter (tI X.K B f)
theorem PI.imp {X : Cx} {tg it : Expr} {t t' : TI} (h : PI X tg it t) (i : ∀ σ H Q, t' σ H Q → t σ H Q) : PI X tg it t' := fun pins s σ H Q I q => h pins s σ H Q I (i σ H Q q)
noncomputable def TgP (K : PySem.W.Frag) (ks : List Nat) (g : TG) (t : En → PyData → Option En) : Prop := ∀ (B : Bd) F H σ η d x η', SR K B F H σ η → Rel K F d x → t η d = some η' → ∀ Q : St → Hp → Prop,
  (∀ σ' F' H', SR K B F' H' σ' η' → Gr F H F' H' → σ'.length = σ.length → (∀ i, i ∉ ks → σ'[i]? = σ[i]?) → Q σ' H') → g x σ H Q
noncomputable def tgN (i : Nat) : En → PyData → Option En := fun η d => some (η.set i (.val d))
theorem TgP.name {K : PySem.W.Frag} {i : Nat} : TgP K [i] (gName i) (tgN i) := fun B F H σ η d x η' sr rx e Q q => by
  cases e
  exact q _ F H ⟨sr.gr, sr.en.set i rx⟩ (.refl sr.same) (List.length_set ..) fun j hj => List.getElem?_set_ne (fun e => hj (by simp [e])) ..
noncomputable def TgsP (K : PySem.W.Frag) (ks : List Nat) (g : TGs) (t : En → List PyData → Option En) : Prop := ∀ (B : Bd) F H σ η ds xs η', SR K B F H σ η → RelL K F ds xs → t η ds = some η' → ∀ Q : St → Hp → Prop,
  (∀ σ' F' H', SR K B F' H' σ' η' → Gr F H F' H' → σ'.length = σ.length → (∀ i, i ∉ ks → σ'[i]? = σ[i]?) → Q σ' H') → g xs σ H Q
noncomputable def tgNil : En → List PyData → Option En := fun η ds => match ds with | [] => some η | _ => none
noncomputable def tgCons (t : En → PyData → Option En) (r : En → List PyData → Option En) : En → List PyData → Option En := fun η ds => match ds with | [] => none | d :: ds => (t η d).bind fun η1 => r η1 ds
theorem TgsP.nil {K : PySem.W.Frag} : TgsP K [] gNil tgNil := fun B F H σ η ds xs η' sr rx e Q q => by
  cases ds with
  | nil =>
    cases e
    exact ⟨rx.nil_of, q _ F H sr (.refl sr.same) rfl fun _ _ => rfl⟩
  | cons d ds => cases e
theorem TgsP.cons {K : PySem.W.Frag} {ks ls : List Nat} {g : TG} {gs : TGs} {t : En → PyData → Option En} {r : En → List PyData → Option En} (h : TgP K ks g t) (k : TgsP K ls gs r) : TgsP K (ks ++ ls) (gCons g gs) (tgCons t r) := fun B F H σ η ds xs η' sr rx e Q q => by
  cases ds with
  | nil => cases e
  | cons d ds =>
    obtain ⟨x, r', rfl, h1, h2⟩ := rx.cons_of
    obtain ⟨η1, e1, e2⟩ := bind_some e
    refine ⟨x, r', rfl, h B F H σ η d x η1 sr h1 e1 _ fun σ1 F1 H1 sr1 g1 l1 n1 => ?_⟩
    refine k B F1 H1 σ1 η1 ds r' η' sr1 (h2.mono g1.ff) e2 _ fun σ2 F2 H2 sr2 g2 l2 n2 => ?_
    exact q σ2 F2 H2 sr2 (g1.trans g2) (l2.trans l1) fun i hi => (n2 i fun z => hi (List.mem_append_right _ z)).trans (n1 i fun z => hi (List.mem_append_left _ z))
noncomputable def tgT (t : En → List PyData → Option En) : En → PyData → Option En := fun η d => match d with | .tuple ds => t η ds | _ => none
theorem TgP.tup {K : PySem.W.Frag} {ks : List Nat} {n : Nat} {g : TGs} {t : En → List PyData → Option En} (h : TgsP K ks g t) (hn : ∀ η ds η', t η ds = some η' → ds.length = n) : TgP K ks (gTup K n g) (tgT t) := fun B F H σ η d x η' sr rx e Q q => by
  cases d with
  | tuple ds =>
    obtain ⟨a, xs, rfl, hq, rs⟩ := rx.tup
    exact ⟨a, xs, rfl, same_seqT sr.same hq, by rw [rs.length]; exact hn η ds η' e, h B F H σ η ds xs η' sr rs e Q q⟩
  | none => cases e
  | bool _ => cases e
  | int _ => cases e
  | str _ => cases e
  | list _ => cases e
  | dict _ => cases e
noncomputable def sGo (t : En → PyData → Option En) (body : En → Option Out) : List PyData → En → Option Out
  | [], η => some (.nx η)
  | d :: ds, η => (t η d).bind fun η1 => (body η1).bind fun o => match o with
    | .nx η2 => sGo t body ds η2
    | .ct η2 => sGo t body ds η2
    | .bk η2 => some (.nx η2)
    | .rt d => some (.rt d)
noncomputable def sFor (it : En → Option (List PyData)) (t : En → PyData → Option En) (body : En → Option Out) : En → Option Out := fun η => (it η).bind fun ds => sGo t body ds η
theorem S.for {tg iter : Expr} {body : List Stmt} {gt : TG} {ks : List Nat} {t : En → PyData → Option En} (hp : PassesOwn (model X.prog X.w) X.A X.env X.xe) (hc : X.calm = true) (hi : I X B tg iter fs) (hg : PG X tg gt) (ht : TgP X.K ks gt t) (hb : Ss X B body u)
    (hs : ∀ x, foldedSetIterable iter X.env x = pure x := by intro _; rfl) : S X B (.For tg iter body [] pos) (sFor fs t u) := PS.imp (ps_for hp hc hi hg hb hs) fun D σ H ⟨F, η, o, sr, hd, q⟩ => by
  obtain ⟨ds, h1, hd⟩ := bind_some hd
  refine ⟨F, η, ds, sr, h1, fun J F1 H1 g1 ip => ?_⟩
  refine ⟨fun i m σ H => m = ds.length - i ∧ i ≤ ds.length ∧ ∃ Fc ηc, SR X.K B Fc H σ ηc ∧ Same F1 Fc ∧ sGo t u (ds.drop i) ηc = some o, ⟨_, rfl, Nat.zero_le _, F1, η, sr.grow g1, .refl _, by simpa using hd⟩, ?_⟩
  rintro i m σc Hc ⟨rfl, hi, Fc, ηc, src, sc, hgo⟩
  obtain ⟨ip1, ip2⟩ := ip Fc Hc i sc src.same
  by_cases hlt : i < ds.length
  · have e : ds[i]? = some ds[i] := List.getElem?_eq_getElem hlt
    obtain ⟨go, yl⟩ := ip1 _ e
    rw [List.drop_eq_getElem_cons hlt] at hgo
    unfold sGo at hgo
    obtain ⟨η1, e1, hgo⟩ := bind_some hgo
    obtain ⟨o1, e2, hgo⟩ := bind_some hgo
    have cont : ∀ (η2 : En), sGo t u (ds.drop (i + 1)) η2 = some o → ∀ σ' F' H', SR X.K B F' H' σ' η2 → Same F1 F' →
        ∃ m', m' < ds.length - i ∧ (fun i m σ H => m = ds.length - i ∧ i ≤ ds.length ∧ ∃ Fc ηc, SR X.K B Fc H σ ηc ∧ Same F1 Fc ∧ sGo t u (ds.drop i) ηc = some o) (i + 1) m' σ' H' := fun η2 h2 σ' F' H' r s =>
      ⟨ds.length - (i + 1), by omega, rfl, hlt, F', η2, r, s, h2⟩
    refine .inr ⟨go, fun σ' H' => ∃ m', m' < ds.length - i ∧ (fun i m σ H => m = ds.length - i ∧ i ≤ ds.length ∧ ∃ Fc ηc, SR X.K B Fc H σ ηc ∧ Same F1 Fc ∧ sGo t u (ds.drop i) ηc = some o) (i + 1) m' σ' H', fun σ' H' n => n, fun x H' y => ?_⟩
    obtain ⟨F2, g2, rx⟩ := yl x H' y
    refine ht B F2 H' σc ηc _ x η1 (src.grow g2) rx e1 _ fun σ3 F3 H3 sr3 g3 _ _ => ?_
    refine ⟨F3, η1, o1, sr3, e2, ?_⟩
    have s3 : Same F1 F3 := sc.trans (g2.ff.trans g3.ff)
    cases o1 with
    | nx η2 => exact fun σ' F' H' r s => cont η2 hgo σ' F' H' r (s3.trans s)
    | ct η2 => exact fun σ' F' H' r s => cont η2 hgo σ' F' H' r (s3.trans s)
    | bk η2 =>
      cases hgo
      exact fun σ' F' H' r s => q σ' F' H' r (g1.ff.trans (s3.trans s))
    | rt d =>
      cases hgo
      exact q
  · have ei : i = ds.length := by omega
    subst ei
    rw [List.drop_length] at hgo
    cases hgo
    exact .inl ⟨ip2 rfl, q σc Fc Hc src (g1.ff.trans sc)⟩
noncomputable def asL : PyData → Option (List PyData)
  | .list ds => some ds
  | _ => none
noncomputable def asTu : PyData → Option (List PyData)
  | .tuple ds => some ds
  | _ => none
noncomputable def lI (k : PyData → Option (List PyData)) (f : En → Option PyData) : En → Option (List PyData) := fun η => (f η).bind k
theorem itp_list {K : PySem.W.Frag} {F : Hp} {a : Addr} {xs : List V} {ds : List PyData} (h : SqL K F a xs) (r : RelL K F ds xs) : ItP K (Itl K a) F ds := fun F1 H1 i s1 s2 => by
  have q := s2.seq (s1.seq h)
  refine ⟨fun d e => ?_, fun e => ⟨xs, q, by rw [r.length, e]; exact Nat.le_refl _⟩⟩
  obtain ⟨x, ex, rx⟩ := r.get e
  refine ⟨⟨xs, x, q, ex⟩, fun x' H2 y => ?_⟩
  obtain ⟨e2, y⟩ := y
  subst e2
  have z := y xs q
  rw [ex] at z
  cases z
  exact ⟨F1, .refl s2, rx.mono s1⟩
theorem itp_tup {K : PySem.W.Frag} {F : Hp} {a : Addr} {xs : List V} {ds : List PyData} (h : SqT K F a xs) (r : RelL K F ds xs) : ItP K (Itt K a) F ds := fun F1 H1 i s1 s2 => by
  have q := same_seqT s2 (same_seqT s1 h)
  refine ⟨fun d e => ?_, fun e => ⟨xs, q, by rw [r.length, e]; exact Nat.le_refl _⟩⟩
  obtain ⟨x, ex, rx⟩ := r.get e
  refine ⟨⟨xs, x, q, ex⟩, fun x' H2 y => ?_⟩
  obtain ⟨e2, y⟩ := y
  subst e2
  have z := y xs q
  rw [ex] at z
  cases z
  exact ⟨F1, .refl s2, rx.mono s1⟩
theorem I.list {tg : Expr} (he : E X B e f) : I X B tg e (lI asL f) := PI.imp (pi_list he) fun σ H Q ⟨F, η, ds, sr, hd, q⟩ => by
  obtain ⟨d, h1, hd⟩ := bind_some hd
  cases d <;> simp only [asL, Option.some.injEq, reduceCtorEq] at hd
  subst hd
  refine ⟨F, η, _, sr, h1, fun v F1 H1 g1 rv => ?_⟩
  obtain ⟨a, xs, rfl, hq, rs⟩ := rv.lst
  exact ⟨a, rfl, ⟨xs, g1.fh.seq hq⟩, q _ F1 H1 g1 (itp_list hq rs)⟩
theorem I.tup {tg : Expr} (he : E X B e f) : I X B tg e (lI asTu f) := PI.imp (pi_tup he) fun σ H Q ⟨F, η, ds, sr, hd, q⟩ => by
  obtain ⟨d, h1, hd⟩ := bind_some hd
  cases d <;> simp only [asTu, Option.some.injEq, reduceCtorEq] at hd
  subst hd
  refine ⟨F, η, _, sr, h1, fun v F1 H1 g1 rv => ?_⟩
  obtain ⟨a, xs, rfl, hq, rs⟩ := rv.tup
  exact ⟨a, rfl, ⟨xs, same_seqT g1.fh hq⟩, q _ F1 H1 g1 (itp_tup hq rs)⟩
noncomputable def rngL (lo : Int) (n : Nat) : List PyData := (List.range n).map fun (k : Nat) => PyData.int (lo + k)
theorem itp_rng {K : PySem.W.Frag} {F : Hp} {lo : Int} {n : Nat} : ItP K (Itr lo n) F (rngL lo n) := fun F1 H1 i s1 s2 => by
  have hl : (rngL lo n).length = n := by unfold rngL; rw [List.length_map, List.length_range]
  refine ⟨fun d e => ?_, fun e => by show n ≤ i; omega⟩
  have hi : i < n := by rw [← hl]; exact (List.getElem?_eq_some_iff.mp e).1
  refine ⟨hi, fun x H2 y => ?_⟩
  obtain ⟨e2, e3⟩ := y
  subst e2 e3
  have : d = .int (lo + i) := by
    unfold rngL at e
    rw [List.getElem?_map, List.getElem?_range hi] at e
    exact (Option.some.inj e).symm
  subst this
  exact ⟨F1, .refl s2, rel_int⟩
noncomputable def rng1 (ds : List PyData) : Option (List PyData) := match ds with
  | [.int j] => if -(2 ^ 62) ≤ j ∧ j < 2 ^ 62 then some (rngL 0 j.toNat) else none
  | _ => none
noncomputable def rng2 (ds : List PyData) : Option (List PyData) := match ds with
  | [.int i, .int j] => if (-(2 ^ 62) ≤ i ∧ i < 2 ^ 62) ∧ (-(2 ^ 62) ≤ j ∧ j < 2 ^ 62) then some (rngL i (j - i).toNat) else none
  | _ => none
theorem I.rng1 {tg : Expr} {pp : Pos} (hm : X.mg "range" = none) (ha : A X B [a] fs) (hg : Gl X "range" := by rfl) (hs : starEach [a] X.env = [(false, eval a X.env)] := by exact star_of rfl) : I X B tg (.Call (.Name "range" pp) [a] [] pos) (fun η => (fs η).bind PU.rng1) :=
  PI.imp (pi_range1 hg hm ha hs) fun σ H Q ⟨F, η, ds, sr, hd, q⟩ => by
    obtain ⟨es, h1, hd⟩ := bind_some hd
    unfold PU.rng1 at hd
    split at hd
    · rename_i j
      split at hd
      · rename_i hj
        cases hd
        refine ⟨F, η, _, sr, h1, fun vs F1 H1 g1 rs => ?_⟩
        obtain ⟨x, r, rfl, rx, rr⟩ := rs.cons_of
        obtain rfl := rr.nil_of
        exact ⟨j, by rw [rx.int], hj.1, hj.2, q _ F1 H1 g1 itp_rng⟩
      · cases hd
    · cases hd
theorem I.rng2 {tg : Expr} {pp : Pos} (hm : X.mg "range" = none) (ha : A X B [a, b] fs) (hg : Gl X "range" := by rfl) (hs : starEach [a, b] X.env = [(false, eval a X.env), (false, eval b X.env)] := by exact star2_of rfl rfl) (hs2 : starEach [b] X.env = [(false, eval b X.env)] := by exact star_of rfl) :
    I X B tg (.Call (.Name "range" pp) [a, b] [] pos) (fun η => (fs η).bind PU.rng2) :=
  PI.imp (pi_range2 hg hm ha hs hs2) fun σ H Q ⟨F, η, ds, sr, hd, q⟩ => by
    obtain ⟨es, h1, hd⟩ := bind_some hd
    unfold PU.rng2 at hd
    split at hd
    · rename_i i j
      split at hd
      · rename_i hj
        cases hd
        refine ⟨F, η, _, sr, h1, fun vs F1 H1 g1 rs => ?_⟩
        obtain ⟨x, r, rfl, rx, rr⟩ := rs.cons_of
        obtain ⟨y, r2, rfl, ry, rr2⟩ := rr.cons_of
        obtain rfl := rr2.nil_of
        exact ⟨i, j, by rw [rx.int, ry.int], ⟨hj.1.1, hj.1.2, hj.2.1, hj.2.2⟩, q _ F1 H1 g1 itp_rng⟩
      · cases hd
    · cases hd
end
noncomputable def inEn (mp : List (Option Nat)) (η : En) : En := mp.map fun o => match o with
  | some j => (match η[j]? with | some (.val d) => .val d | some (.ob fs) => .ob fs | _ => .un)
  | none => .un
noncomputable def cGo (t : En → PyData → Option En) (p : En → Option Bool) (f : En → Option PyData) (η : En) : List PyData → Option (List PyData)
  | [] => some []
  | d :: ds => (t η d).bind fun η1 => (p η1).bind fun ok => if ok = true then (f η1).bind fun y => (cGo t p f η ds).bind fun r => some (y :: r) else cGo t p f η ds
noncomputable def sComp (mp : List (Option Nat)) (fi : En → Option (List PyData)) (t : En → PyData → Option En) (p : En → Option Bool) (f : En → Option PyData) : En → Option (List PyData) := fun η =>
  (fi η).bind fun ds => if ds.length ≤ sizeLine then cGo t p f (inEn mp η) ds else none
noncomputable def Ts (X : Cx) (B : Bd) (ifs : List Expr) (p : En → Option Bool) : Prop := PTs X ifs (tT X.K B p)
noncomputable def tTrue : En → Option Bool := fun _ => some true
section
variable {X : Cx} {B : Bd}
theorem Ts.nil : Ts X B [] tTrue := fun pins s σ H Q I ⟨F, η, b, sr, hd, q⟩ => by
  cases hd
  exact pts_nil pins s σ H Q I (q F H (.refl sr.same))
theorem Ts.one {c : Expr} {p : En → Option Bool} (h : T X B c p) : Ts X B [c] p := pts_one h
theorem inEn_no {mp : List (Option Nat)} {η : En} {i : Nat} {a : Sl} (e : (inEn mp η)[i]? = some a) : isOwn a = false := by
  unfold inEn at e
  rw [List.getElem?_map] at e
  cases q : mp[i]? with
  | none => rw [q] at e; cases e
  | some o =>
    rw [q] at e
    cases o with
    | none => cases e; rfl
    | some j =>
      have e' : (match η[j]? with | some (.val d) => Sl.val d | some (.ob fs) => .ob fs | _ => .un) = a := Option.some.inj e
      split at e' <;> (subst e'; rfl)
theorem EnR.inner {K : PySem.W.Frag} {He F H : Hp} {σ : St} {η : En} (r : EnR K He F H σ η) (mp : List (Option Nat)) : EnR K He F H (inSt mp σ) (inEn mp η) where
  len := by unfold inEn inSt; rw [List.length_map, List.length_map]
  val := fun i d e => by
    unfold inEn at e
    rw [List.getElem?_map] at e
    cases q : mp[i]? with
    | none => rw [q] at e; cases e
    | some o =>
      rw [q] at e
      cases o with
      | none => cases e
      | some j =>
        have e' : (match η[j]? with | some (.val d) => Sl.val d | some (.ob fs) => .ob fs | _ => .un) = .val d := Option.some.inj e
        split at e'
        · rename_i d' ed
          have : d' = d := by injection e'
          subst this
          obtain ⟨v, e1, e2⟩ := r.val j d' ed
          refine ⟨v, ?_, e2⟩
          unfold inSt
          rw [List.getElem?_map, q]
          show some ((σ[j]?).join) = _
          rw [e1]
          rfl
        · cases e'
        · cases e'
  obs := fun i fs e => by
    unfold inEn at e
    rw [List.getElem?_map] at e
    cases q : mp[i]? with
    | none => rw [q] at e; cases e
    | some o =>
      rw [q] at e
      cases o with
      | none => cases e
      | some j =>
        have e' : (match η[j]? with | some (.val d) => Sl.val d | some (.ob fs) => .ob fs | _ => .un) = .ob fs := Option.some.inj e
        split at e'
        · cases e'
        · rename_i d' ed
          have : d' = fs := by injection e'
          subst this
          obtain ⟨p, C, dx, xs, e1, e2⟩ := r.obs j d' ed
          refine ⟨p, C, dx, xs, ?_, e2⟩
          unfold inSt
          rw [List.getElem?_map, q]
          show some ((σ[j]?).join) = _
          rw [e1]
          rfl
        · cases e'
  cel := fun i a e ha => by rw [inEn_no e] at ha; cases ha
  apart := fun i j a b e _ ha _ _ => by rw [inEn_no e] at ha; cases ha
variable {elt iter tg : Expr} {ifs : List Expr} {scope : Scope} {pos : Pos} {N' : List Str} {mp : List (Option Nat)} {ks : List Nat} {gt : TG} {t : En → PyData → Option En} {fi : En → Option (List PyData)} {p : En → Option Bool} {f : En → Option PyData}
theorem comp_of {K : PySem.W.Frag} (ht : TgP K ks gt t) (hks : ∀ k ∈ ks, mp[k]? = some none) : ∀ σ H Q, tO K B (sComp mp fi t p f) σ H Q → tComp mp (tI K B fi) gt (tT K B p) (tE K B f) σ H Q := fun σ H Q ⟨F, η, rs, sr, hd, q⟩ => by
  obtain ⟨ds, h1, hd⟩ := bind_some hd
  split at hd
  rotate_left
  · cases hd
  rename_i hz
  refine ⟨F, η, ds, sr, h1, fun J F1 H1 g1 ip D hD => ?_⟩
  have fD : F1 D = none := g1.fh.free hD
  have kept : ∀ {σ2 : St}, σ2.length = (inSt mp σ).length → (∀ i, i ∉ ks → σ2[i]? = (inSt mp σ)[i]?) → KeepsSt (inSt mp σ) σ2 := fun {σ2} hl hn => ⟨hl, fun i v e => by
    by_cases hi : i ∈ ks
    · have z := hks i hi
      unfold inSt at e
      rw [List.getElem?_map, z] at e
      cases e
    · rw [hn i hi]; exact e⟩
  refine ⟨fun i m Hc => m = ds.length - i ∧ i ≤ ds.length ∧ ∃ Fc ys done rest, Gr F1 H1 Fc Hc ∧ Fc D = none ∧ Hc D = some (.lst ys) ∧ RelL K Fc done ys ∧ done.length ≤ i ∧ cGo t p f (inEn mp η) (ds.drop i) = some rest ∧ rs = done ++ rest,
    ⟨_, rfl, Nat.zero_le _, F1, [], [], rs, ⟨.refl _, same_new hD _, fun b u z => same_new hD _ b u (g1.fh b u z), fun b z => .inl z⟩, fD, upd_same, .nil, Nat.le_refl _, by simpa using hd, rfl⟩, ?_⟩
  rintro i m Hc ⟨rfl, hi, Fc, ys, done, rest, gc, fcD, hcD, rd, hdl, hgo, hrs⟩
  obtain ⟨ip1, ip2⟩ := ip Fc Hc i gc.ff gc.fh
  by_cases hlt : i < ds.length
  · have e : ds[i]? = some ds[i] := List.getElem?_eq_getElem hlt
    obtain ⟨go, yl⟩ := ip1 _ e
    rw [List.drop_eq_getElem_cons hlt] at hgo
    unfold cGo at hgo
    obtain ⟨η1, e1, hgo⟩ := bind_some hgo
    obtain ⟨ok, e2, hgo⟩ := bind_some hgo
    refine .inr ⟨go, fun H' => ∃ m', m' < ds.length - i ∧ (m' = ds.length - (i + 1) ∧ i + 1 ≤ ds.length ∧ ∃ Fc ys done rest, Gr F1 H1 Fc H' ∧ Fc D = none ∧ H' D = some (.lst ys) ∧ RelL K Fc done ys ∧ done.length ≤ i + 1 ∧ cGo t p f (inEn mp η) (ds.drop (i + 1)) = some rest ∧ rs = done ++ rest), fun H' n => n, fun x H' y => ?_⟩
    obtain ⟨F2, g2, rx⟩ := yl x H' y
    have sin : SR K B F2 H' (inSt mp σ) (inEn mp η) := ⟨(sr.gr.trans g1).trans (gc.trans g2), ((sr.en.grow g1).inner mp).grow (gc.trans g2)⟩
    refine ht B F2 H' (inSt mp σ) (inEn mp η) _ x η1 sin rx e1 _ fun σ3 F3 H3 sr3 g3 l3 n3 => ⟨kept l3 n3, F3, η1, ok, sr3, e2, fun F4 H4 g4 => ?_⟩
    have gall : Gr Fc Hc F4 H4 := (g2.trans g3).trans g4
    have nD : ∀ {F5 H5 : Hp}, Gr Fc Hc F5 H5 → F5 D = none := fun {F5 H5} g => by
      cases z : F5 D with
      | none => rfl
      | some o =>
        rcases g.new D (by rw [z]; simp) with w | w
        · exact absurd fcD w
        · rw [hcD] at w; cases w
    cases ok with
    | false =>
      rw [if_neg Bool.false_ne_true] at hgo
      refine iteF ?_
      exact ⟨ds.length - (i + 1), by omega, rfl, hlt, F4, ys, done, rest, gc.trans gall, nD gall, gall.hh _ _ hcD, rd.mono gall.ff, Nat.le_succ_of_le hdl, hgo, hrs⟩
    | true =>
      rw [if_pos rfl] at hgo
      refine iteT ?_
      obtain ⟨yv, e3, hgo⟩ := bind_some hgo
      obtain ⟨r, e4, hgo⟩ := bind_some hgo
      cases hgo
      refine ⟨F4, η1, yv, sr3.grow g4, e3, fun v F5 H5 g5 rv => ?_⟩
      have ga := gall.trans g5
      have h5D := ga.hh _ _ hcD
      refine ⟨ys, h5D, by rw [rd.length]; omega, ds.length - (i + 1), by omega, rfl, hlt, F5, ys ++ [v], done ++ [yv], r, ?_, nD ga, upd_same, (rd.mono ga.ff).append (.cons rv .nil), by rw [List.length_append, List.length_singleton]; omega, e4, by rw [hrs, List.append_assoc]; rfl⟩
      have gt' := gc.trans ga
      refine ⟨gt'.ff, fun b u z => ?_, fun b u z => ?_, gt'.new⟩
      · have nb : b ≠ D := ne_of_none z hD
        rw [upd_ne nb]; exact gt'.hh b u z
      · have nb : b ≠ D := ne_of_none z (nD ga)
        rw [upd_ne nb]; exact gt'.fh b u z
  · have ei : i = ds.length := by omega
    subst ei
    rw [List.drop_length] at hgo
    cases hgo
    rw [List.append_nil] at hrs
    subst hrs
    exact .inl ⟨ip2 rfl, q D ys Fc Hc (g1.trans gc) (g1.hh.free hD) fcD hcD rd⟩
theorem EO.comp (hc : X.calm = true) (ck : CompSc X scope N' mp) (ht : TgP X.K ks gt t) (hks : ∀ k ∈ ks, mp[k]? = some none) (hi : I X B tg iter fi)
    (hb : ∀ s H fp, PG (compCx X scope N' s H fp) tg gt ∧ Ts (compCx X scope N' s H fp) B ifs p ∧ E (compCx X scope N' s H fp) B elt f)
    (hs : ∀ x, foldedSetIterable iter X.env x = pure x := by intro _; rfl) : EO X B (.ListComp elt [⟨tg, iter, ifs, 0⟩] scope pos) (sComp mp fi t p f) := PE.imp (pe_comp hc ck hi hb hs) (comp_of ht hks)
theorem S.setC (i : Nat) {y : Str} {py spos : Pos} (hc : X.calm = true) (hN : X.N.Nodup) (ck : CompSc X scope N' mp) (ht : TgP X.K ks gt t) (hks : ∀ k ∈ ks, mp[k]? = some none) (hi : I X B tg iter fi)
    (hb : ∀ s H fp, PG (compCx X scope N' s H fp) tg gt ∧ Ts (compCx X scope N' s H fp) B ifs p ∧ E (compCx X scope N' s H fp) B elt f)
    (hiy : X.N[i]? = some y := by rfl) (hy : X.env.scope.names.lookup y = some .local := by rfl) (hsw : swapsWith (.ListComp elt [⟨tg, iter, ifs, 0⟩] scope pos) (some (.Name y py)) spos.line X.env = pure true := by rfl)
    (hs : ∀ x, foldedSetIterable iter X.env x = pure x := by intro _; rfl) : S X B (.Assign [.Name y py] (.ListComp elt [⟨tg, iter, ifs, 0⟩] scope pos) spos) (sSetO i (sComp mp fi t p f)) :=
  PS.imp (ps_setComp hc hN hiy hy ck hi hb hsw hs) fun D σ H h => by
    have h' := asgO_of D σ H h
    exact comp_of ht hks σ H _ h'
end
noncomputable def runF (n m : Nat) (g : En → Option Out) (ds : List PyData) : Option PyData := if ds.length = n then (g (ds.map Sl.val ++ List.replicate (m - n) .un)).bind fun o => match o with
  | .rt d => some d
  | .nx _ => some .none
  | _ => none else none
section
variable {P : Program} {w : World} {K : PySem.W.Frag} {mg : Str → Option Value} {base : Heap}
theorem start_no {n : Nat} {ds : List PyData} {i : Nat} {a : Sl} (e : (ds.map Sl.val ++ List.replicate n .un)[i]? = some a) : isOwn a = false := by
  by_cases hi : i < ds.length
  · rw [List.getElem?_append_left (by rw [List.length_map]; exact hi), List.getElem?_map] at e
    cases q : ds[i]? with
    | none => rw [q] at e; cases e
    | some d' => rw [q] at e; cases e; rfl
  · rw [List.getElem?_append_right (by rw [List.length_map]; omega), List.getElem?_replicate] at e
    split at e <;> cases e
    rfl
theorem EnR.start {F H : Hp} {N : List Str} {ds : List PyData} {vs : List V} (r : RelL K F ds vs) : EnR K H F H (L2.start N vs) (ds.map Sl.val ++ List.replicate (N.length - ds.length) .un) where
  len := by unfold L2.start; rw [List.length_append, List.length_append, List.length_map, List.length_map, List.length_replicate, List.length_replicate, r.length]
  val := fun i d e => by
    unfold L2.start
    by_cases hi : i < ds.length
    · rw [List.getElem?_append_left (by rw [List.length_map]; exact hi), List.getElem?_map] at e
      rw [List.getElem?_append_left (by rw [List.length_map, r.length]; exact hi), List.getElem?_map]
      cases q : ds[i]? with
      | none => rw [q] at e; cases e
      | some d' =>
        rw [q] at e
        have : d' = d := by injection (Option.some.inj e)
        subst this
        obtain ⟨x, e1, e2⟩ := r.get q
        exact ⟨x, by rw [e1]; rfl, e2⟩
    · rw [List.getElem?_append_right (by rw [List.length_map]; omega), List.getElem?_replicate] at e
      split at e <;> cases e
  cel := fun i a e ha => by rw [start_no e] at ha; cases ha
  obs := fun i fs e => by
    by_cases hi : i < ds.length
    · rw [List.getElem?_append_left (by rw [List.length_map]; exact hi), List.getElem?_map] at e
      cases q : ds[i]? with
      | none => rw [q] at e; cases e
      | some d' => rw [q] at e; cases e
    · rw [List.getElem?_append_right (by rw [List.length_map]; omega), List.getElem?_replicate] at e
      split at e <;> cases e
  apart := fun i _ a _ e _ ha _ _ => by rw [start_no e] at ha; cases ha
theorem fnP {x qual : Str} {st : Stmt} {f : Addr} {fd : FuncData} {N ps : List Str} {k : Nat} {g : En → Option Out} (Fn : Fun K x qual st f fd) (Sc : FnScope N ps (defScope st))
    (hb : ∀ (cdv : Value) (A : Around) (outer : List Env) (s : Shared) (H : Hp) (E : XK) (F : Hp), Room k (A.deeper (envOfC qual (defScope st) s.heap.objs.size f cdv)) →
      Ss (cxOf CX0 P w K mg base N qual (defScope st) f cdv A outer s H E).nox ⟨F, H⟩ (defBody st) g) :
    FnOk P w K mg base CX0 (k + 1) f fd ps (spP K (runF ps.length N.length g)) := by
  have len : ∀ {F : Hp} {ds : List PyData} {vs : List V} {d : PyData}, RelL K F ds vs → runF ps.length N.length g ds = some d → ds.length = ps.length ∧ vs.length = ps.length := fun {F ds vs d} r e => by
    unfold runF at e
    split at e
    · rename_i hl
      exact ⟨hl, by rw [r.length]; exact hl⟩
    · cases e
  refine Fn.ok Sc (fun vs H Q E h => ?_) (fun cdv A outer s H vs Q E hr h => ?_)
  · obtain ⟨F, ds, d, _, r, e, _⟩ := h
    exact (len r e).2
  · obtain ⟨F, ds, d, sm, r, e, q⟩ := h
    obtain ⟨l1, l2⟩ := len r e
    refine ⟨_, hb cdv A outer s H E F hr, ?_⟩
    unfold runF at e
    rw [if_pos l1] at e
    obtain ⟨o, e1, e2⟩ := bind_some e
    refine ⟨F, _, o, ⟨.refl sm, ?_⟩, e1, ?_⟩
    · have z := EnR.start (K := K) (H := H) (N := N) r
      rw [l1] at z
      exact z
    · cases o with
      | rt d' =>
        cases e2
        exact fun v F' H' g rv => q v F' H' g rv
      | nx η' =>
        cases e2
        exact fun σ' F' H' sr _ => q .non F' H' sr.gr rel_non
      | bk η' => cases e2
      | ct η' => cases e2
theorem fn0 {f : Addr} {fd : FuncData} {ps : List Str} {k : Nat} : FnOk P w K mg base CX0 k f fd ps (spP K (fun _ => none)) :=
  ⟨fun vs H Q E h => (by obtain ⟨_, _, _, _, _, e, _⟩ := h; cases e), fun A outer s H args us vs Q E _ _ _ _ h => (by obtain ⟨_, _, _, _, _, e, _⟩ := h; cases e)⟩
end
section
variable {X : Cx}
mutual
theorem Rel.reads {pins : List (Addr × Obj)} {σ : St} {F H : Hp} {s : Shared} (I : Inv X pins σ H s) (sm : Same F H) : ∀ {d : PyData} {v : V} {u : Value}, PyData.canLay0 d = true → Rel X.K F d v → RelV v u → ∃ as, Reads s.heap u d as
  | .none, v, u, _, h, r => by
    rw [h.non] at r; cases r
    exact ⟨_, .none⟩
  | .bool b, v, u, _, h, r => by
    rw [h.bl] at r; cases r
    exact ⟨_, .bool b⟩
  | .int i, v, u, _, h, r => by
    rw [h.int] at r; obtain ⟨t, rfl⟩ := r
    exact ⟨_, .int i t⟩
  | .str x, v, u, _, h, r => by
    rw [h.str] at r; obtain ⟨t, rfl⟩ := r
    exact ⟨_, .str x t⟩
  | .tuple ds, v, u, c, h, r => by
    unfold PyData.canLay0 at c
    obtain ⟨a, xs, rfl, hq, rs⟩ := h.tup
    cases r
    obtain ⟨its, rv, ⟨o, ho, hc, n, hd⟩, _⟩ := I.tuple (same_seqT sm hq)
    obtain ⟨as, h'⟩ := RelL.reads I sm c rs rv
    exact ⟨as, .tuple ho hc hd (by simpa using h')⟩
  | .list ds, v, u, c, h, r => by
    unfold PyData.canLay0 at c
    obtain ⟨a, xs, rfl, hq, rs⟩ := h.lst
    cases r
    obtain ⟨its, rv, p, _⟩ := I.list (sm.seq hq)
    obtain ⟨o, ho, hc, n, hd⟩ := p.isList
    obtain ⟨as, h'⟩ := RelL.reads I sm c rs rv
    exact ⟨a :: as, .list ho hc hd (by simpa using h')⟩
  | .dict _, v, u, c, h, r => by unfold PyData.canLay0 at c; cases c
theorem RelL.reads {pins : List (Addr × Obj)} {σ : St} {F H : Hp} {s : Shared} (I : Inv X pins σ H s) (sm : Same F H) : ∀ {ds : List PyData} {vs : List V} {us : List Value}, PyData.canLayAll0 ds = true → RelL X.K F ds vs → Vals vs us → ∃ as, ReadsAll s.heap us ds as
  | [], vs, us, _, h, r => by
    rw [h.nil_of] at r; cases r
    exact ⟨_, .nil⟩
  | d :: ds, vs, us, c, h, r => by
    unfold PyData.canLayAll0 at c
    obtain ⟨c1, c2⟩ := Bool.and_eq_true_iff.mp c
    obtain ⟨x, xs, rfl, h1, h2⟩ := h.cons_of
    cases r with
    | cons r1 r2 =>
      obtain ⟨as, e1⟩ := Rel.reads I sm c1 h1 r1
      obtain ⟨bs, e2⟩ := RelL.reads I sm c2 h2 r2
      exact ⟨as ++ bs, .cons e1 e2⟩
end
noncomputable def rEqD (K : PySem.W.Frag) (neg : Bool) : R2 := fun x y H Q => ∃ F dx dy, Same F H ∧ Rel K F dx x ∧ Rel K F dy y ∧ SeqAt.shaped dx = true ∧ SeqAt.shaped dy = true ∧ Q (.bl (if neg then !PyData.eqv dx dy else PyData.eqv dx dy)) H
theorem op_eqD (hu : X.A.units + 64 < cLine) : OpR X (compareOp .Eq) (rEqD X.K false) := by
  intro pins s σ H x y v u Q I rx ry h
  obtain ⟨F, dx, dy, sm, h1, h2, s1, s2, q⟩ := h
  obtain ⟨as, ra⟩ := Rel.reads I sm (SeqAt.canLay_of_shaped s1) h1 rx
  obtain ⟨bs, rb⟩ := Rel.reads I sm (SeqAt.canLay_of_shaped s2) h2 ry
  exact SeqAt.compareEq_shaped ra rb s1 s2 hu ⟨.bl _, H, I, rfl, q⟩
theorem op_neD (hu : X.A.units + 64 < cLine) : OpR X (compareOp .NotEq) (rEqD X.K true) := by
  intro pins s σ H x y v u Q I rx ry h
  obtain ⟨F, dx, dy, sm, h1, h2, s1, s2, q⟩ := h
  obtain ⟨as, ra⟩ := Rel.reads I sm (SeqAt.canLay_of_shaped s1) h1 rx
  obtain ⟨bs, rb⟩ := Rel.reads I sm (SeqAt.canLay_of_shaped s2) h2 ry
  exact SeqAt.compareNe_shaped ra rb s1 s2 hu ⟨.bl _, H, I, rfl, q⟩
noncomputable def pEq (x y : PyData) : Option PyData := if SeqAt.shaped x = true ∧ SeqAt.shaped y = true then some (.bool (PyData.eqv x y)) else none
noncomputable def pNe (x y : PyData) : Option PyData := if SeqAt.shaped x = true ∧ SeqAt.shaped y = true then some (.bool (!PyData.eqv x y)) else none
theorem ad_eq {K : PySem.W.Frag} : Ad2 K (rEqD K false) pEq := fun F H x y dx dy d Q sm rx ry e q => by
  unfold pEq at e
  split at e
  · rename_i hs
    cases e
    exact ⟨F, dx, dy, sm, rx, ry, hs.1, hs.2, q _ F H (.refl sm) rel_bl⟩
  · cases e
theorem ad_ne {K : PySem.W.Frag} : Ad2 K (rEqD K true) pNe := fun F H x y dx dy d Q sm rx ry e q => by
  unfold pNe at e
  split at e
  · rename_i hs
    cases e
    exact ⟨F, dx, dy, sm, rx, ry, hs.1, hs.2, q _ F H (.refl sm) rel_bl⟩
  · cases e
noncomputable def pI (C : Int → Int → Prop) [∀ i j, Decidable (C i j)] (g : Int → Int → PyData) (x y : PyData) : Option PyData := match x, y with
  | .int i, .int j => if C i j then some (g i j) else none
  | _, _ => none
instance : ∀ i j, Decidable (CMul i j) := fun i j => by unfold CMul; infer_instance
instance : ∀ i j, Decidable (CDiv i j) := fun i j => by unfold CDiv; infer_instance
theorem ad_I {K : PySem.W.Frag} {C : Int → Int → Prop} [∀ i j, Decidable (C i j)] {g : Int → Int → PyData} {gv : Int → Int → V} (hg : ∀ F i j, Rel K F (g i j) (gv i j)) : Ad2 K (rI C gv) (pI C g) := fun F H x y dx dy d Q sm rx ry e q => by
  cases dx <;> cases dy <;> simp only [pI, reduceCtorEq] at e
  split at e
  · rename_i hc
    cases e
    exact ⟨_, _, rx.int, ry.int, hc, q _ F H (.refl sm) (hg F _ _)⟩
  · cases e
theorem ad_I0 {K : PySem.W.Frag} {g : Int → Int → PyData} {gv : Int → Int → V} (hg : ∀ F i j, Rel K F (g i j) (gv i j)) : Ad2 K (rI0 gv) (pI (fun _ _ => True) g) := fun F H x y dx dy d Q sm rx ry e q => by
  cases dx <;> cases dy <;> simp only [pI, reduceCtorEq, if_true] at e
  cases e
  exact ⟨_, _, rx.int, ry.int, q _ F H (.refl sm) (hg F _ _)⟩
noncomputable def pSub := pI (fun _ _ => True) fun i j => .int (i - j)
noncomputable def pMul := pI CMul fun i j => .int (i * j)
noncomputable def pFdiv := pI CDiv fun i j => .int (i / j)
noncomputable def pMod := pI (fun _ j => 0 < j) fun i j => .int (i % j)
noncomputable def pLt := pI (fun _ _ => True) fun i j => .bool (decide (i < j))
noncomputable def pLe := pI (fun _ _ => True) fun i j => .bool (decide (i ≤ j))
noncomputable def pGt := pI (fun _ _ => True) fun i j => .bool (decide (j < i))
noncomputable def pGe := pI (fun _ _ => True) fun i j => .bool (decide (j ≤ i))
section
variable {B : Bd} {a b : Expr} {f g : En → Option PyData} {pos : Pos}
theorem E.sub (ha : E X B a f) (hb : E X B b g) : E X B (.BinOp a .Sub b pos) (l2 pSub f g) := E.op op_sub (ad_I0 fun _ _ _ => rel_int) ha hb
theorem E.mul (ha : E X B a f) (hb : E X B b g) : E X B (.BinOp a .Mult b pos) (l2 pMul f g) := E.op op_mul (ad_I fun _ _ _ => rel_int) ha hb
theorem E.fdiv (ha : E X B a f) (hb : E X B b g) : E X B (.BinOp a .FloorDiv b pos) (l2 pFdiv f g) := E.op op_fdiv (ad_I fun _ _ _ => rel_int) ha hb
theorem E.mod (ha : E X B a f) (hb : E X B b g) : E X B (.BinOp a .Mod b pos) (l2 pMod f g) := E.op op_mod (ad_I fun _ _ _ => rel_int) ha hb
theorem E.eq {k : Nat} (hr : Room k X.A) (ha : E X B a f) (hb : E X B b g) : E X B (.Compare a [.Eq] [b] pos) (l2 pEq f g) := E.cmp (op_eqD hr.units) ad_eq (nomark b) ha hb
theorem T.eq {k : Nat} (hr : Room k X.A) (ha : E X B a f) (hb : E X B b g) : T X B (.Compare a [.Eq] [b] pos) (bT (l2 pEq f g)) := T.cmp (op_eqD hr.units) ad_eq (nomark b) ha hb
theorem T.ne {k : Nat} (hr : Room k X.A) (ha : E X B a f) (hb : E X B b g) : T X B (.Compare a [.NotEq] [b] pos) (bT (l2 pNe f g)) := T.cmp (op_neD hr.units) ad_ne (nomark b) ha hb
end
noncomputable def rCatS (K : PySem.W.Frag) : R2 := fun x y H Q => ∃ l b xs zs, x = .ref l ∧ y = .ref b ∧ SqL K H l xs ∧ SqL K H b zs ∧ xs.length + zs.length ≤ sizeLine ∧ ∀ p, H p = none → Q (.ref p) (upd H p (.lst (xs ++ zs)))
theorem op_catS : OpR X (binaryOp .Add) (rCatS X.K) := by
  intro pins s σ H x y v u Q I rx ry h
  obtain ⟨l, b, xs, zs, rfl, rfl, hH, hB, hz, q⟩ := h
  cases rx
  cases ry
  obtain ⟨its, r, ⟨⟨c1, d1, t1, sl1⟩, n, e, ec, ed, es⟩, z⟩ := I.list hH
  obtain ⟨its2, r2, ⟨⟨c2, d2, t2, sl2⟩, n2, e2, ec2, ed2, es2⟩, z2⟩ := I.list hB
  have hl := r.length
  have hl2 := r2.length
  simp only at ec ed es ec2 ed2 es2
  subst ec ed es ec2 ed2 es2
  have ea : its.toArray ++ its2.toArray = (its ++ its2).toArray := by simp
  refine concat_meets ⟨_, e, rfl⟩ ⟨_, e2, rfl⟩ PySem.noFill_list_add PySem.seq_list_add PySem.F.slot_list_add PySem.F.entry_list_add (PySem.F.args_list_add_2 _ _)
      (list_addW l b its.toArray its2.toArray n n2 none none sl1 sl2 (by rw [List.size_toArray, List.size_toArray]; omega)) ⟨e, e2, ?_⟩
  rw [ea]
  exact ⟨.ref _, _, I.lnew (t' := s.toks) (r.append r2) (by rw [List.length_append]; omega), rfl, q _ I.fresh⟩
noncomputable def rCatTT (K : PySem.W.Frag) : R2 := fun x y H Q => ∃ a b xs ys, x = .ref a ∧ y = .ref b ∧ SqT K H a xs ∧ SqT K H b ys ∧ xs.length + ys.length ≤ sizeLine ∧
  (xs = [] → Q (.ref b) H) ∧ (xs ≠ [] → ys = [] → Q (.ref a) H) ∧ (∀ p, H p = none → Q (.ref p) (upd H p (.tup (xs ++ ys))))
theorem op_catTT : OpR X (binaryOp .Add) (rCatTT X.K) := by
  intro pins s σ H x y v u Q I rx ry h
  obtain ⟨a, b, xs, ys, rfl, rfl, ha, hb, hz, q0, q1, q2⟩ := h
  cases rx
  cases ry
  obtain ⟨its, r1, p1, _⟩ := I.tuple ha
  obtain ⟨its2, r2, p2, _⟩ := I.tuple hb
  by_cases hx : xs = []
  · have hi : its = [] := r1.nil_iff.mpr hx
    obtain ⟨⟨cls, dd, data, sl⟩, ho, hc, n, hd⟩ := id p1
    obtain ⟨⟨cls2, dd2, data2, sl2⟩, ho2, hc2, n2, hd2⟩ := id p2
    simp only at hc hd hc2 hd2
    subst hc hd hc2 hd2
    exact concat_meets ⟨_, ho, rfl⟩ ⟨_, ho2, rfl⟩ noFill_tuple_add seq_tuple_add PySem.F.slot_tuple_add PySem.F.entry_tuple_add (PySem.F.args_tuple_add_2 _ _)
      (tuple_addW0 a b its.toArray its2.toArray n n2 dd dd2 sl sl2 (by simp [hi])) ⟨ho, ho2, ⟨.ref b, H, I, rfl, q0 hx⟩⟩
  · refine HT.cat_tup p1 p2 (fun z => hx (r1.nil_iff.mp z)) (fun z => ⟨.ref a, H, I, rfl, q1 hx (r2.nil_iff.mp z)⟩) (fun z => ?_) (by rw [← r1.length, ← r2.length]; exact hz)
    refine ⟨.ref s.heap.objs.size, _, I.laid (t' := s.toks) (o := .tup (xs ++ ys)) (fun b ob q => Heap.get?_push_of_some _ q) (Nat.le_refl _) ?_, rfl, q2 _ (I.hok.fresh (Nat.le_refl _))⟩
    exact ⟨by rw [List.length_append]; exact hz, _, r1.append r2, IsTup.new _ _⟩
noncomputable def pAdd (x y : PyData) : Option PyData := match x, y with
  | .int i, .int j => some (.int (i + j))
  | .str i, .str j => if i.length + j.length ≤ sizeLine then some (.str (i ++ j)) else none
  | .list i, .list j => if i.length + j.length ≤ sizeLine then some (.list (i ++ j)) else none
  | .tuple i, .tuple j => if i.length + j.length ≤ sizeLine then some (.tuple (i ++ j)) else none
  | _, _ => none
theorem op_addA : OpR X (binaryOp .Add) (fun x y H Q => (∃ i j, x = .int i ∧ y = .int j ∧ Q (.int (i + j)) H) ∨ (∃ i j, x = .str i ∧ y = .str j ∧ i.length + j.length ≤ sizeLine ∧ Q (.str (i ++ j)) H) ∨ rCatS X.K x y H Q ∨ rCatTT X.K x y H Q) :=
  op_add.or (op_add_str.or (op_catS.or op_catTT))
theorem ad_add {K : PySem.W.Frag} : Ad2 K (fun x y H Q => (∃ i j, x = .int i ∧ y = .int j ∧ Q (.int (i + j)) H) ∨ (∃ i j, x = .str i ∧ y = .str j ∧ i.length + j.length ≤ sizeLine ∧ Q (.str (i ++ j)) H) ∨ rCatS K x y H Q ∨ rCatTT K x y H Q) pAdd := fun F H x y dx dy d Q sm rx ry e q => by
  unfold pAdd at e
  split at e
  · cases e
    exact .inl ⟨_, _, rx.int, ry.int, q _ F H (.refl sm) rel_int⟩
  · split at e
    · rename_i hz
      cases e
      exact .inr (.inl ⟨_, _, rx.str, ry.str, hz, q _ F H (.refl sm) rel_str⟩)
    · cases e
  · split at e
    · rename_i hz
      cases e
      obtain ⟨a, xs, rfl, h1, r1⟩ := rx.lst
      obtain ⟨b, ys, rfl, h2, r2⟩ := ry.lst
      refine .inr (.inr (.inl ⟨a, b, xs, ys, rfl, rfl, sm.seq h1, sm.seq h2, by rw [r1.length, r2.length]; exact hz, fun p hp => ?_⟩))
      have g := Gr.one (o := .lst (xs ++ ys)) sm hp
      exact q _ _ _ g (rel_lst (SqL.of upd_same) ((r1.append r2).mono g.ff))
    · cases e
  · rename_i i j
    split at e
    · rename_i hz
      cases e
      obtain ⟨a, xs, rfl, h1, r1⟩ := rx.tup
      obtain ⟨b, ys, rfl, h2, r2⟩ := ry.tup
      refine .inr (.inr (.inr ⟨a, b, xs, ys, rfl, rfl, same_seqT sm h1, same_seqT sm h2, by rw [r1.length, r2.length]; exact hz, fun z => ?_, fun z1 z2 => ?_, fun p hp => ?_⟩))
      · subst z
        have := List.eq_nil_of_length_eq_zero r1.length.symm
        subst this
        exact q _ F H (.refl sm) (rel_tup h2 (by simpa using r2))
      · subst z2
        have := List.eq_nil_of_length_eq_zero r2.length.symm
        subst this
        exact q _ F H (.refl sm) (rel_tup h1 (by simpa using r1))
      · have g := Gr.one (o := .tup (xs ++ ys)) sm hp
        exact q _ _ _ g (rel_tup (SqT.of upd_same) ((r1.append r2).mono g.ff))
    · cases e
  · cases e
section
variable {B : Bd} {a b e : Expr} {es : List Expr} {f g : En → Option PyData} {fs : En → Option (List PyData)} {pos pp : Pos}
theorem E.add (ha : E X B a f) (hb : E X B b g) : E X B (.BinOp a .Add b pos) (l2 pAdd f g) := E.op op_addA ad_add ha hb
noncomputable def pNeg : PyData → Option PyData
  | .int i => some (.int (-i))
  | _ => none
theorem E.neg (ha : E X B a f) : E X B (.UnaryOp .USub a pos) (l1 pNeg f) := PE.imp (pe_un un_neg ha) fun σ H Q ⟨F, η, d, sr, hd, q⟩ => by
  obtain ⟨x, hx, hd⟩ := bind_some hd
  cases x <;> simp only [pNeg, reduceCtorEq, Option.some.injEq] at hd
  subst hd
  exact ⟨F, η, _, sr, hx, fun v F1 H1 g1 rv => ⟨_, rv.int, q _ F1 H1 g1 rel_int⟩⟩
noncomputable def pIx (x y : PyData) : Option PyData := match x, y with
  | .list ds, .int i => atI ds i
  | .tuple ds, .int i => atI ds i
  | .str z, .int i => if z.length ≤ sizeLine then (atI z.cps.toList i).bind fun c => some (.str ⟨#[c]⟩) else none
  | _, _ => none
theorem atI_rel {K : PySem.W.Frag} {F : Hp} {ds : List PyData} {xs : List V} {i : Int} {d : PyData} (r : RelL K F ds xs) (e : atI ds i = some d) : ∃ x, atI xs i = some x ∧ Rel K F d x := by
  unfold atI at e ⊢
  rw [r.length]
  obtain ⟨j, h1, h2⟩ := bind_some e
  rw [h1]
  obtain ⟨x, h3, h4⟩ := r.get h2
  exact ⟨x, h3, h4⟩
theorem ad_ix {K : PySem.W.Frag} : Ad2 K (rIx K) pIx := fun F H x y dx dy d Q sm rx ry e q => by
  unfold pIx at e
  split at e
  · obtain ⟨a, xs, rfl, h1, r1⟩ := rx.lst
    obtain ⟨v, h2, h3⟩ := atI_rel r1 e
    exact .inl ⟨a, xs, _, v, rfl, ry.int, sm.seq h1, h2, q _ F H (.refl sm) h3⟩
  · obtain ⟨a, xs, rfl, h1, r1⟩ := rx.tup
    obtain ⟨v, h2, h3⟩ := atI_rel r1 e
    exact .inr (.inl ⟨a, xs, _, v, rfl, ry.int, same_seqT sm h1, h2, q _ F H (.refl sm) h3⟩)
  · split at e
    · rename_i hz
      obtain ⟨c, h1, h2⟩ := bind_some e
      cases h2
      exact .inr (.inr ⟨_, _, c, rx.str, ry.int, hz, h1, q _ F H (.refl sm) rel_str⟩)
    · cases e
  · cases e
theorem E.at (ha : E X B a f) (hb : E X B b g) (hs : PlainIx b := by intro _ _; rfl) : E X B (.Subscript a b pos) (l2 pIx f g) := E.ix ix_seq ad_ix ha hb hs
noncomputable def flatD : PyData → Bool
  | .none => true
  | .bool _ => true
  | .int _ => true
  | .str _ => true
  | _ => false
theorem flat_of {K : PySem.W.Frag} {F : Hp} {d : PyData} {v : V} (h : flatD d = true) (r : Rel K F d v) : flatV v = true := by
  cases d <;> simp [flatD] at h
  · rw [r.non]; rfl
  · rw [r.bl]; rfl
  · rw [r.int]; rfl
  · rw [r.str]; rfl
theorem flats_of {K : PySem.W.Frag} {F : Hp} : ∀ {ds : List PyData} {vs : List V}, ds.all flatD = true → RelL K F ds vs → vs.all flatV = true
  | [], vs, _, r => by rw [r.nil_of]; rfl
  | d :: ds, vs, h, r => by
    obtain ⟨x, xs, rfl, r1, r2⟩ := r.cons_of
    rw [List.all_cons, Bool.and_eq_true] at h ⊢
    exact ⟨flat_of h.1 r1, flats_of h.2 r2⟩
theorem eqV_of {K : PySem.W.Frag} {F : Hp} {d e : PyData} {x y : V} (hd : flatD d = true) (he : flatD e = true) (r : Rel K F d x) (s : Rel K F e y) : eqV x y = PyData.eqv d e := by
  cases d <;> simp [flatD] at hd <;> cases e <;> simp [flatD] at he
  all_goals (first | rw [r.non] | rw [r.bl] | rw [r.int] | rw [r.str]) <;> (first | rw [s.non] | rw [s.bl] | rw [s.int] | rw [s.str])
  all_goals first | rfl | simp [eqV, PyData.eqv]
theorem inV_of {K : PySem.W.Frag} {F : Hp} {d : PyData} {x : V} (hd : flatD d = true) (r : Rel K F d x) : ∀ {ds : List PyData} {vs : List V}, ds.all flatD = true → RelL K F ds vs → inV x vs = ds.any fun y => PyData.eqv y d
  | [], vs, _, rs => by rw [rs.nil_of]; rfl
  | e :: ds, vs, h, rs => by
    obtain ⟨y, xs, rfl, r1, r2⟩ := rs.cons_of
    rw [List.all_cons, Bool.and_eq_true] at h
    have ih := inV_of hd r h.2 r2
    unfold inV at ih ⊢
    rw [List.any_cons, List.any_cons, ih, eqV_of h.1 hd r1 r]
noncomputable def pIn (neg : Bool) (x y : PyData) : Option PyData := match y with
  | .list ds => if flatD x = true ∧ ds.all flatD = true then some (.bool (if neg then !(ds.any fun y => PyData.eqv y x) else ds.any fun y => PyData.eqv y x)) else none
  | .tuple ds => if flatD x = true ∧ ds.all flatD = true then some (.bool (if neg then !(ds.any fun y => PyData.eqv y x) else ds.any fun y => PyData.eqv y x)) else none
  | .str j => match x with
    | .str i => some (.bool (if neg then !(!(Builtin.Str.occurrences j i 0 j.length 1).isEmpty) else !(Builtin.Str.occurrences j i 0 j.length 1).isEmpty))
    | _ => none
  | _ => none
noncomputable def rInA (K : PySem.W.Frag) (neg : Bool) : R2 := fun x y H Q => rIn K neg x y H Q ∨ (∃ i j, x = .str i ∧ y = .str j ∧ Q (.bl (if neg then !(!(Builtin.Str.occurrences j i 0 j.length 1).isEmpty) else !(Builtin.Str.occurrences j i 0 j.length 1).isEmpty)) H)
theorem op_inA : OpR X (compareOp .In) (rInA X.K false) := op_in_seq.or op_in_str
theorem op_notInA : OpR X (compareOp .NotIn) (rInA X.K true) := op_notIn_seq.or op_notIn_str
theorem ad_in {K : PySem.W.Frag} {neg : Bool} : Ad2 K (rInA K neg) (pIn neg) := fun F H x y dx dy d Q sm rx ry e q => by
  unfold pIn at e
  split at e
  · split at e
    · rename_i hf
      cases e
      obtain ⟨b, ys, rfl, h2, r2⟩ := ry.lst
      refine .inl ⟨b, ys, rfl, .inl (sm.seq h2), flat_of hf.1 rx, flats_of hf.2 r2, ?_⟩
      rw [inV_of hf.1 rx hf.2 r2]
      exact q _ F H (.refl sm) rel_bl
    · cases e
  · split at e
    · rename_i hf
      cases e
      obtain ⟨b, ys, rfl, h2, r2⟩ := ry.tup
      refine .inl ⟨b, ys, rfl, .inr (same_seqT sm h2), flat_of hf.1 rx, flats_of hf.2 r2, ?_⟩
      rw [inV_of hf.1 rx hf.2 r2]
      exact q _ F H (.refl sm) rel_bl
    · cases e
  · split at e
    · cases e
      exact .inr ⟨_, _, rx.str, ry.str, q _ F H (.refl sm) rel_bl⟩
    · cases e
  · cases e
theorem T.in (ha : E X B a f) (hb : E X B b g) (hm : behindInMarks .In b = false := by with_unfolding_all rfl) : T X B (.Compare a [.In] [b] pos) (bT (l2 (pIn false) f g)) := T.cmp op_inA ad_in hm ha hb
theorem T.notIn (ha : E X B a f) (hb : E X B b g) (hm : behindInMarks .NotIn b = false := by with_unfolding_all rfl) : T X B (.Compare a [.NotIn] [b] pos) (bT (l2 (pIn true) f g)) := T.cmp op_notInA ad_in hm ha hb
theorem E.in (ha : E X B a f) (hb : E X B b g) (hm : behindInMarks .In b = false := by with_unfolding_all rfl) : E X B (.Compare a [.In] [b] pos) (l2 (pIn false) f g) := E.cmp op_inA ad_in hm ha hb
noncomputable def AdA (K : PySem.W.Frag) (r : List V → Hp → VK → Prop) (o : List PyData → Option PyData) : Prop :=
  ∀ F H xs ds d Q, Same F H → RelL K F ds xs → o ds = some d → (∀ v F' H', Gr F H F' H' → Rel K F' d v → Q v H') → r xs H Q
theorem tCB_of {K : PySem.W.Frag} {r : List V → Hp → VK → Prop} {o : List PyData → Option PyData} (ad : AdA K r o) : ∀ σ H Q, tE K B (lA o fs) σ H Q → tCB r (tA K B fs) σ H Q := fun σ H Q ⟨F, η, d, sr, hd, q⟩ => by
  obtain ⟨ds, hx, hd⟩ := bind_some hd
  exact ⟨F, η, ds, sr, hx, fun vs F1 H1 g1 rs => ad F1 H1 vs ds d Q g1.fh rs hd fun v F2 H2 g2 rv => q v F2 H2 (g1.trans g2) rv⟩
theorem E.callB {x : Str} {id : String} {r : List V → Hp → VK → Prop} {o : List PyData → Option PyData} (hc : CallR X (.builtin id) r) (ad : AdA X.K r o) (hm : X.mg x = none) (hv : bootBuiltins x = some (.builtin id)) (ha : A X B (e :: es) fs) (hg : Gl X x := by rfl) (hn : x ≠ "__name__" := by decide) (hdb : (x == ("__debug__" : Str)) = false := by decide)
    (he : starEach (e :: es) X.env = (false, eval e X.env) :: starEach es X.env := by exact star_of rfl) (hpl : (backTo pos (starEach es X.env)).any (·.1) = false := by exact plain_of rfl) : E X B (.Call (.Name x pp) (e :: es) [] pos) (lA o fs) :=
  PE.imp (pe_callB hc hg hm hv ha hn hdb he hpl) (tCB_of ad)
theorem E.callTy {x : Str} {id : String} {r : List V → Hp → VK → Prop} {o : List PyData → Option PyData} (hc : CallR X (.type id) r) (ad : AdA X.K r o) (hm : X.mg x = none) (hv : bootBuiltins x = some (.type id)) (ha : A X B (e :: es) fs) (hg : Gl X x := by rfl) (hn : x ≠ "__name__" := by decide) (hdb : (x == ("__debug__" : Str)) = false := by decide)
    (he : starEach (e :: es) X.env = (false, eval e X.env) :: starEach es X.env := by exact star_of rfl) (hpl : (backTo pos (starEach es X.env)).any (·.1) = false := by exact plain_of rfl) : E X B (.Call (.Name x pp) (e :: es) [] pos) (lA o fs) :=
  PE.imp (pe_callTy hc hg hm hv ha hn hdb he hpl) (tCB_of ad)
noncomputable def pLen (ds : List PyData) : Option PyData := match ds with
  | [.list xs] => some (.int xs.length)
  | [.tuple xs] => some (.int xs.length)
  | [.str z] => if z.length ≤ sizeLine then some (.int z.length) else none
  | _ => none
theorem ad_len {K : PySem.W.Frag} : AdA K (fun xs H Q => (∃ p ys, xs = [.ref p] ∧ (SqL K H p ys ∨ SqT K H p ys) ∧ Q (.int ys.length) H) ∨ (∃ z, xs = [.str z] ∧ z.length ≤ sizeLine ∧ Q (.int z.length) H)) pLen := fun F H xs ds d Q sm rs e q => by
  unfold pLen at e
  split at e
  · cases e
    obtain ⟨x, r, rfl, rx, rr⟩ := rs.cons_of
    obtain rfl := rr.nil_of
    obtain ⟨a, ys, rfl, h1, r1⟩ := rx.lst
    exact .inl ⟨a, ys, rfl, .inl (sm.seq h1), by rw [r1.length]; exact q _ F H (.refl sm) rel_int⟩
  · cases e
    obtain ⟨x, r, rfl, rx, rr⟩ := rs.cons_of
    obtain rfl := rr.nil_of
    obtain ⟨a, ys, rfl, h1, r1⟩ := rx.tup
    exact .inl ⟨a, ys, rfl, .inr (same_seqT sm h1), by rw [r1.length]; exact q _ F H (.refl sm) rel_int⟩
  · split at e
    · rename_i hz
      cases e
      obtain ⟨x, r, rfl, rx, rr⟩ := rs.cons_of
      obtain rfl := rr.nil_of
      exact .inr ⟨_, by rw [rx.str], hz, q _ F H (.refl sm) rel_int⟩
    · cases e
  · cases e
theorem E.len (hm : X.mg "len" = none) (ha : A X B [e] fs) (hg : Gl X "len" := by rfl) (he : starEach [e] X.env = (false, eval e X.env) :: starEach [] X.env := by exact star_of rfl) (hpl : (backTo pos (starEach [] X.env)).any (·.1) = false := by rfl) : E X B (.Call (.Name "len" pp) [e] [] pos) (lA pLen fs) :=
  E.callB (call_len_seq.or call_len_str) ad_len hm PySem.boot_len ha hg (by decide) (by decide) he hpl
noncomputable def pTup (ds : List PyData) : Option PyData := match ds with
  | [.list xs] => some (.tuple xs)
  | [.tuple xs] => some (.tuple xs)
  | _ => none
theorem ad_tup {K : PySem.W.Frag} : AdA K (fun xs H Q => ∃ p ys, xs = [.ref p] ∧ ((SqL K H p ys ∧ ∀ l, H l = none → Q (.ref l) (upd H l (.tup ys))) ∨ (SqT K H p ys ∧ Q (.ref p) H))) pTup := fun F H xs ds d Q sm rs e q => by
  unfold pTup at e
  split at e
  · cases e
    obtain ⟨x, r, rfl, rx, rr⟩ := rs.cons_of
    obtain rfl := rr.nil_of
    obtain ⟨a, ys, rfl, h1, r1⟩ := rx.lst
    refine ⟨a, ys, rfl, .inl ⟨sm.seq h1, fun p hp => ?_⟩⟩
    have g := Gr.one (o := .tup ys) sm hp
    exact q _ _ _ g (rel_tup (SqT.of upd_same) (r1.mono g.ff))
  · cases e
    obtain ⟨x, r, rfl, rx, rr⟩ := rs.cons_of
    obtain rfl := rr.nil_of
    obtain ⟨a, ys, rfl, h1, r1⟩ := rx.tup
    exact ⟨a, ys, rfl, .inr ⟨same_seqT sm h1, q _ F H (.refl sm) (rel_tup h1 r1)⟩⟩
  · cases e
theorem E.tuple (hm : X.mg "tuple" = none) (ha : A X B [e] fs) (hg : Gl X "tuple" := by rfl) (he : starEach [e] X.env = (false, eval e X.env) :: starEach [] X.env := by exact star_of rfl) (hpl : (backTo pos (starEach [] X.env)).any (·.1) = false := by rfl) : E X B (.Call (.Name "tuple" pp) [e] [] pos) (lA pTup fs) :=
  E.callTy call_tuple_of ad_tup hm (by decide +kernel) ha hg (by decide) (by decide) he hpl
end
end
noncomputable def cutL {α : Type} (xs : List α) (lo hi : Option Int) : List α := (xs.drop (HT.sIx xs.length 0 lo)).take (HT.sIx xs.length xs.length hi - HT.sIx xs.length 0 lo)
section
variable {X : Cx}
noncomputable def pSl (x : PyData) (lo hi : Option Int) : Option PyData := match x with
  | .list ds => some (.list (cutL ds lo hi))
  | .tuple ds => some (.tuple (cutL ds lo hi))
  | _ => none
noncomputable def rSlA (K : PySem.W.Frag) : V → Option Int → Option Int → Hp → VK → Prop := fun x lo hi H Q => rSlL K x lo hi H Q ∨ rSlT K x lo hi H Q ∨ (∃ a xs, x = .ref a ∧ SqT K H a xs ∧ (HT.sIx xs.length 0 lo = 0 ∧ HT.sIx xs.length xs.length hi = xs.length) ∧ Q (.ref a) H)
section
variable {B : Bd} {a b e : Expr} {es : List Expr} {f g : En → Option PyData} {fs : En → Option (List PyData)} {pos pp p2 : Pos} {lo hi : Option Expr} {fl fh : En → Option (Option Int)}
noncomputable def tP (K : PySem.W.Frag) (B : Bd) (f : En → Option (Option Int)) : TO := fun σ H Q => ∃ F η o, SR K B F H σ η ∧ f η = some o ∧ ∀ F' H', Gr F H F' H' → Q o H'
noncomputable def P (X : Cx) (B : Bd) (e : Option Expr) (f : En → Option (Option Int)) : Prop := PO X e (tP X.K B f)
noncomputable def pN : En → Option (Option Int) := fun _ => some none
noncomputable def asI : PyData → Option Int
  | .int i => some i
  | _ => none
theorem asI_some {d : PyData} {i : Int} (h : asI d = some i) : d = .int i := by
  cases d <;> simp [asI] at h
  rw [h]
noncomputable def pS (f : En → Option PyData) : En → Option (Option Int) := fun η => (f η).bind fun d => (asI d).bind fun i => some (some i)
theorem PO.imp {X : Cx} {e : Option Expr} {t t' : TO} (h : PO X e t) (i : ∀ σ H Q, t' σ H Q → t σ H Q) : PO X e t' := fun pins s σ H Q I q => h pins s σ H Q I (i σ H Q q)
theorem P.some (h : E X B e f) : P X B (some e) (pS f) := PO.imp (po_some h) fun σ H Q ⟨F, η, d, sr, hd, q⟩ => by
  obtain ⟨x, hx, hd⟩ := bind_some hd
  obtain ⟨i, hi, hd⟩ := bind_some hd
  cases hd
  obtain rfl := asI_some hi
  exact ⟨F, η, _, sr, hx, fun v F1 H1 g1 rv => ⟨i, rv.int, q F1 H1 g1⟩⟩
noncomputable def eSl (f : En → Option PyData) (fl fh : En → Option (Option Int)) : En → Option PyData := fun η => (f η).bind fun x => (fl η).bind fun l => (fh η).bind fun h => pSl x l h
noncomputable def rSum (K : PySem.W.Frag) : List V → Hp → VK → Prop := fun xs H Q => ∃ (p : Addr) (ns : List Int), xs = [.ref p] ∧ SqL K H p (ns.map V.int) ∧ Q (.int ns.sum) H
theorem preSum_sum : ∀ (ns : List Int) (n : Nat), n ≤ ns.length → preSum (fun i => ns.getD i 0) n = (ns.take n).sum
  | ns, 0, _ => by simp [preSum]
  | ns, n + 1, h => by
    have hn : n < ns.length := by omega
    rw [preSum, preSum_sum ns n (by omega), List.take_succ_eq_append_getElem hn, List.sum_append]
    show _ + ns.getD n 0 = _
    rw [List.getD_eq_getElem?_getD, List.getElem?_eq_getElem hn]
    simp
theorem call_sum (hc : X.calm = true) : CallR X (.builtin "sum") (rSum X.K) := by
  intro pins s σ H xs us Q I r h
  obtain ⟨p, ns, rfl, hq, q⟩ := h
  obtain ⟨u, rfl, rx⟩ := vals1 r
  cases rx
  obtain ⟨its, rv, pl, hz⟩ := I.list hq
  have iv : IntsAre its ns := intsAre_of rv
  have hlt : p < s.heap.objs.size := by
    obtain ⟨o, ho, _⟩ := pl.isList
    exact Heap.lt_size ho
  refine call_sum_walkG (wpAny_pyIter_list pl.isList ?_)
  refine ⟨s.heap.objs.size, _, _, _, _, _, fun i => ns.getD i 0, rfl, Walks.list (A := X.A.in1) (I.ok.hd hc) s.heap.objs.size p (Nat.ne_of_lt hlt) its.toArray, ⟨⟨_, Heap.get?_push_size _ rfl, rfl, rfl⟩, pl.isList.at fun o e => Heap.get?_push_of_some _ e⟩, ?_, ?_, fun h' tk t' hk => ?_⟩
  · intro b hb
    show b < (s.heap.push _).objs.size
    rw [Heap.size_push]
    rcases List.mem_cons.mp hb with e | hb
    · rw [e]; exact Nat.lt_succ_self _
    · rw [List.mem_singleton.mp hb]; exact Nat.lt_succ_of_lt hlt
  · intro i v hv
    have hv' : its[i]? = some v := by simpa using hv
    obtain ⟨hi, e⟩ := List.getElem?_eq_some_iff.mp hv'
    have hl := rv.length
    rw [List.length_map] at hl
    have hn : ns[i]? = some ns[i] := List.getElem?_eq_getElem (by omega)
    obtain ⟨u, hu, ru⟩ := rv.get (i := i) (x := .int ns[i]) (by rw [List.getElem?_map, hn]; rfl)
    rw [hv'] at hu
    cases hu
    obtain ⟨t, rfl⟩ := ru
    exact ⟨t, by show Value.int ns[i] t = Value.int (ns.getD i 0) t; rw [List.getD_eq_getElem?_getD, hn]; rfl⟩
  · have hl := rv.length
    rw [List.length_map] at hl
    have e : preSum (fun i => ns.getD i 0) its.toArray.size = ns.sum := by
      rw [List.size_toArray, preSum_sum ns _ (by omega), List.take_of_length_le (by omega)]
    rw [e]
    refine ⟨.int ns.sum, H, I.kept (t' := tk) fun b o eb => hk b o ?_ (Heap.get?_push_of_some _ eb), ⟨t', rfl⟩, q⟩
    intro hb
    exact absurd (Heap.lt_size eb) (by rw [List.mem_singleton.mp hb]; exact Nat.lt_irrefl _)
noncomputable def asIs : List PyData → Option (List Int)
  | [] => some []
  | .int i :: r => (asIs r).bind fun ns => some (i :: ns)
  | _ :: _ => none
theorem asIs_some : ∀ {ds : List PyData} {ns : List Int}, asIs ds = some ns → ds = ns.map PyData.int
  | [], ns, h => by cases h; rfl
  | .int i :: r, ns, h => by
    obtain ⟨ms, h1, h2⟩ := bind_some h
    cases h2
    rw [asIs_some h1]; rfl
  | .none :: _, _, h => by cases h
  | .bool _ :: _, _, h => by cases h
  | .str _ :: _, _, h => by cases h
  | .list _ :: _, _, h => by cases h
  | .tuple _ :: _, _, h => by cases h
  | .dict _ :: _, _, h => by cases h
theorem asIs_ints (ns : List Int) : asIs (ns.map PyData.int) = some ns := by
  induction ns with
  | nil => rfl
  | cons n r ih => rw [List.map_cons]; unfold asIs; rw [ih]; rfl
theorem RelL.ints_of {K : PySem.W.Frag} {F : Hp} : ∀ {ns : List Int} {xs : List V}, RelL K F (ns.map PyData.int) xs → xs = ns.map V.int
  | [], xs, h => h.nil_of
  | n :: r, xs, h => by
    obtain ⟨x, ys, rfl, h1, h2⟩ := h.cons_of
    rw [h1.int, RelL.ints_of h2]; rfl
noncomputable def pSum (ds : List PyData) : Option PyData := match ds with
  | [.list xs] => (asIs xs).bind fun ns => some (.int ns.sum)
  | _ => none
theorem ad_sum {K : PySem.W.Frag} : AdA K (rSum K) pSum := fun F H xs ds d Q sm rs e q => by
  unfold pSum at e
  split at e
  · obtain ⟨ns, h1, h2⟩ := bind_some e
    cases h2
    have := asIs_some h1
    subst this
    obtain ⟨x, r, rfl, rx, rr⟩ := rs.cons_of
    obtain rfl := rr.nil_of
    obtain ⟨a, ys, rfl, hq, r1⟩ := rx.lst
    have := r1.ints_of
    subst this
    exact ⟨a, ns, rfl, sm.seq hq, q _ F H (.refl sm) rel_int⟩
  · cases e
theorem E.sum (hc : X.calm = true) (hm : X.mg "sum" = none) (ha : A X B [e] fs) (hg : Gl X "sum" := by rfl) (he : starEach [e] X.env = (false, eval e X.env) :: starEach [] X.env := by exact star_of rfl) (hpl : (backTo pos (starEach [] X.env)).any (·.1) = false := by rfl) : E X B (.Call (.Name "sum" pp) [e] [] pos) (lA pSum fs) :=
  E.callB (call_sum hc) ad_sum hm (by decide +kernel) ha hg (by decide) (by decide) he hpl
theorem list_extendW (l b : Addr) (items items2 : Array Value) (n n2 : Nat) (dd2 : Option Addr) (sl2 : Array (Option Value)) (hc0 : ¬(!items.isEmpty && Builtin.List.listTooLong (items.size + items2.size)) = true) (hc1 : items.size ≤ sizeLine) (hs2 : items.size + items2.size ≤ sizeLine + 1) :
    Meets (Builtin.«list.extend» ⟨[.ref l, .ref b], []⟩) (fun _ R s => s.heap.get? l = some { cls := .type "list", dict := none, data := .seq items n, slots := #[] } ∧ s.heap.get? b = some { cls := .type "list", dict := dd2, data := .seq items2 n2, slots := sl2 } ∧ R (.ok (.ret Value.none)) { s with heap := s.heap.update l (Obj.mapSeq fun x => x ++ items2), toks := s.toks }) :=
  .of_wp fun prog w A R s h => by
    obtain ⟨hp, g, d, tk, os⟩ := s; obtain ⟨hl, hb, h⟩ := h; have f1 := AutoSeq1.idx_int; have f2 := AutoSeq1.sub_tuple_tuple; have f3 := AutoSeq1.sub_list_list; have f4 := AutoSeq1.sub_tuple_list; have f5 := AutoSeq1.sub_list_tuple
    have hz' : (items ++ items2).size ≤ sizeLine + 1 := by rw [Array.size_append]; exact hs2
    wp_walk using (wpAny_updateSeq hl rfl (hz := hc1) (_hz' := hz')), AutoSeq1.wpAny_loadPart' hl, AutoSeq1.wpAny_loadPart' hb; exact ⟨_, rfl, h⟩
noncomputable def rExtS (K : PySem.W.Frag) : V → List V → Hp → VK → Prop := fun x vs H Q => ∃ l b xs zs, x = .ref l ∧ vs = [.ref b] ∧ H l = some (.lst xs) ∧ SqL K H b zs ∧ xs.length + zs.length ≤ sizeLine ∧ Q .non (upd H l (.lst (xs ++ zs)))
theorem mt_extS : MtM X "list.extend" (rExtS X.K) := by
  intro pins s σ H x vs v us Q I rx rv h
  obtain ⟨l, b, xs, zs, rfl, rfl, hH, hB, hz, q⟩ := h
  cases rx
  obtain ⟨u, rfl, ru⟩ := rv.one
  cases ru
  obtain ⟨z, its, n, r, hl, e⟩ := I.lstM hH
  obtain ⟨its2, r2, ⟨⟨c2, d2, t2, sl2⟩, n2, e2, ec2, ed2, es2⟩, z2⟩ := I.list hB
  simp only at ec2 ed2 es2
  subst ec2 ed2 es2
  have hl2 := r2.length
  have hsz : its.toArray.size + its2.toArray.size ≤ sizeLine := by rw [List.size_toArray, List.size_toArray]; omega
  have hlong : ¬ (!its.toArray.isEmpty && Builtin.List.listTooLong (its.toArray.size + its2.toArray.size)) = true := by
    rw [notLongL hsz, Bool.and_false]
    exact Bool.false_ne_true
  refine call_meets F.slot_list_extend ⟨_, e, rfl⟩ F.entry_list_extend (F.args_list_extend_2 _ _)
    (list_extendW l b its.toArray its2.toArray n n2 none sl2 hlong (by rw [List.size_toArray]; omega) (by omega)) ⟨e, e2, ?_⟩
  refine ⟨.non, _, I.lset (its' := its ++ its2) hH e (by simp) (r.append r2) ?_, rfl, q⟩
  rw [List.length_append]
  omega
variable {apos cpos : Pos}
theorem S.ext (i : Nat) {x : Str} {npos : Pos} (he : E X B e f) (hN : X.N[i]? = some x := by rfl) (hv : Vis X.env.scope x := by first | exact Or.inl rfl | exact Or.inr (Or.inl rfl) | exact Or.inr (Or.inr rfl)) (hd : (x == ("__debug__" : Str)) = false := by decide) (hcd : (x == ("__classdict__" : Str)) = false := by decide)
    (hbase : attributeBase (.Name x npos) "extend" X.env (eval (.Name x npos) X.env) = eval (.Name x npos) X.env := by rfl)
    (hfew : ((backTo cpos (starEach [e] X.env)).all (fun x => !x.1) && (backToKw cpos (keywordEach [] X.env)).all (fun x => x.1.isSome)
      && decide ([e].length + ([] : List Keyword).length + (if ([] : List Keyword).isEmpty then 0 else 1) < 30)) = true := by rfl)
    (hline : (apos.endLine == cpos.line) = true := by rfl) (hs : starEach [e] X.env = (false, eval e X.env) :: starEach [] X.env := by exact star_of rfl) (hplain : (backTo cpos (starEach [] X.env)).any (·.1) = false := by rfl)
    (hsw : swapsWith (.Call (.Attribute (.Name x npos) "extend" apos) [e] [] cpos) none pos.line X.env = pure false := by rfl) :
    S X B (.Expr (.Call (.Attribute (.Name x npos) "extend" apos) [e] [] cpos) pos) (sExt i (lI asL f)) :=
  PS.imp (ps_expr (pe_bm PySem.F.plainAttrs_list PySem.F.slot_list_extend PySem.F.type_list_extend mt_extS (pe_var hN hv hd hcd) (A.cons he A.nil hs) hbase hfew hline hs hplain) hsw) fun D σ H ⟨F, η, o, sr, hd, q⟩ => by
    obtain ⟨es, h1, hd⟩ := bind_some hd
    split at hd
    · rename_i ds ed
      split at hd
      · rename_i hz
        cases hd
        obtain ⟨dl, h2, h3⟩ := bind_some h1
        cases dl <;> simp only [asL, Option.some.injEq, reduceCtorEq] at h3
        subst h3
        obtain ⟨p, xs, e1, e2, e3, e4, e5⟩ := sr.en.own i ds ed
        refine ⟨_, e1, .inl ⟨rfl, xs, SqL.of e4⟩, F, η, _, sr, (by show (f η).bind _ = _; rw [h2]; rfl), fun vs F1 H1 g1 rs => ?_⟩
        obtain ⟨y, r, rfl, ry, rr⟩ := rs.cons_of
        obtain rfl := rr.nil_of
        obtain ⟨b, zs, rfl, hq, r1⟩ := ry.lst
        have sr1 := sr.grow g1
        obtain ⟨p', xs', q1, q2, q3, q4, q5⟩ := sr1.en.own i ds ed
        rw [e1] at q1
        have ep : p = p' := by injection (Option.some.inj (Option.some.inj q1))
        subst ep
        refine ⟨p, b, xs', zs, rfl, rfl, q4, g1.fh.seq hq, by rw [q5.length, r1.length]; exact hz, ?_⟩
        refine q σ F1 _ ⟨⟨sr1.gr.ff, fun c u z => ?_, fun c u z => ?_, sr1.gr.new⟩, sr1.en.putOwn ed e1 (q5.append r1)⟩ g1.ff
        · have nb : c ≠ p := ne_of_none z q3
          rw [upd_ne nb]; exact sr1.gr.hh c u z
        · have nb : c ≠ p := ne_of_none z q2
          rw [upd_ne nb]; exact sr1.gr.fh c u z
      · cases hd
    · cases hd
theorem S.app (i : Nat) {x : Str} {npos : Pos} (he : E X B e f) (hN : X.N[i]? = some x := by rfl) (hv : Vis X.env.scope x := by first | exact Or.inl rfl | exact Or.inr (Or.inl rfl) | exact Or.inr (Or.inr rfl)) (hd : (x == ("__debug__" : Str)) = false := by decide) (hcd : (x == ("__classdict__" : Str)) = false := by decide)
    (hbase : attributeBase (.Name x npos) "append" X.env (eval (.Name x npos) X.env) = eval (.Name x npos) X.env := by rfl)
    (hfew : ((backTo cpos (starEach [e] X.env)).all (fun x => !x.1) && (backToKw cpos (keywordEach [] X.env)).all (fun x => x.1.isSome)
      && decide ([e].length + ([] : List Keyword).length + (if ([] : List Keyword).isEmpty then 0 else 1) < 30)) = true := by rfl)
    (hline : (apos.endLine == cpos.line) = true := by rfl) (hs : starEach [e] X.env = (false, eval e X.env) :: starEach [] X.env := by exact star_of rfl) (hplain : (backTo cpos (starEach [] X.env)).any (·.1) = false := by rfl)
    (hsw : swapsWith (.Call (.Attribute (.Name x npos) "append" apos) [e] [] cpos) none pos.line X.env = pure false := by rfl) :
    S X B (.Expr (.Call (.Attribute (.Name x npos) "append" apos) [e] [] cpos) pos) (sApp i f) :=
  PS.imp (ps_expr (pe_bm PySem.F.plainAttrs_list PySem.F.slot_list_append PySem.F.type_list_append mt_append (pe_var hN hv hd hcd) (A.cons he A.nil hs) hbase hfew hline hs hplain) hsw) fun D σ H ⟨F, η, o, sr, hd, q⟩ => by
    obtain ⟨dv, h1, hd⟩ := bind_some hd
    split at hd
    · rename_i ds ed
      split at hd
      · rename_i hz
        cases hd
        obtain ⟨p, xs, e1, e2, e3, e4, e5⟩ := sr.en.own i ds ed
        refine ⟨_, e1, .inl ⟨rfl, xs, SqL.of e4⟩, F, η, _, sr, (by show (f η).bind _ = _; rw [h1]; rfl), fun vs F1 H1 g1 rs => ?_⟩
        obtain ⟨y, r, rfl, ry, rr⟩ := rs.cons_of
        obtain rfl := rr.nil_of
        have sr1 := sr.grow g1
        obtain ⟨p', xs', q1, q2, q3, q4, q5⟩ := sr1.en.own i ds ed
        rw [e1] at q1
        have ep : p = p' := by injection (Option.some.inj (Option.some.inj q1))
        subst ep
        refine ⟨p, xs', y, rfl, rfl, q4, by rw [q5.length]; exact hz, ?_⟩
        refine q σ F1 _ ⟨⟨sr1.gr.ff, fun c u z => ?_, fun c u z => ?_, sr1.gr.new⟩, sr1.en.putOwn ed e1 (q5.append (.cons ry .nil))⟩ g1.ff
        · have nb : c ≠ p := ne_of_none z q3
          rw [upd_ne nb]; exact sr1.gr.hh c u z
        · have nb : c ≠ p := ne_of_none z q2
          rw [upd_ne nb]; exact sr1.gr.fh c u z
      · cases hd
    · cases hd
end
end
noncomputable def signD (x : Str) : List PyData := x.cps.toList.map fun c => PyData.str ⟨#[c]⟩
noncomputable def enumD (ds : List PyData) (i : Nat) : List PyData := match ds with
  | [] => []
  | d :: r => .tuple [.int i, d] :: enumD r (i + 1)
theorem enumD_get : ∀ (ds : List PyData) (k i : Nat) (d : PyData), (enumD ds k)[i]? = some d → ∃ c, ds[i]? = some c ∧ d = .tuple [.int ((k + i : Nat) : Int), c]
  | [], k, i, d, h => by simp [enumD] at h
  | c :: r, k, 0, d, h => by
    simp [enumD] at h
    exact ⟨c, rfl, h.symm⟩
  | c :: r, k, i + 1, d, h => by
    have h' : (enumD r (k + 1))[i]? = some d := by simpa [enumD] using h
    obtain ⟨c', h1, h2⟩ := enumD_get r (k + 1) i d h'
    exact ⟨c', by simpa using h1, by rw [h2, show k + 1 + i = k + (i + 1) by omega]⟩
theorem enumD_len : ∀ (ds : List PyData) (k : Nat), (enumD ds k).length = ds.length
  | [], _ => rfl
  | _ :: r, k => by rw [enumD, List.length_cons, List.length_cons, enumD_len r]
noncomputable def Ite (x : Str) : It := ⟨fun i _ => i < x.cps.size, fun i H v H' => ∃ T c, H T = none ∧ x.cps[i]? = some c ∧ v = .ref T ∧ H' = upd H T (.tup [.int (i : Nat), .str ⟨#[c]⟩]), fun i _ => i = x.cps.size⟩
section
theorem turn_enum {P : Program} {w : World} {K : PySem.W.Frag} {elts : List Expr} {k : Nat} {tp : Pos} {e it : Addr} {x : Str} {St : Nat → Heap → Prop} (hei : e ≠ it)
    (D : ∀ A : Around, A.handled = none → Draws P w A it [it] x.cps.size (fun i v => ∃ c u, x.cps[i]? = some c ∧ v = .str ⟨#[c]⟩ u) St) (hcell : ∀ i h, St i h → ∃ o, h.get? it = some o ∧ ∀ v, o.data ≠ .cell v) :
    Turn P w K (.Tuple elts k tp) (Ite x) [e, it] e (fun i h => (∃ old, IsEnum h e it i old) ∧ St i h) where
  mem := by simp
  obj := fun i h st b hb => by
    obtain ⟨⟨old, he⟩, hs⟩ := st
    rcases List.mem_cons.mp hb with rfl | hb
    · exact ⟨_, he, fun v z => by cases z⟩
    · rw [List.mem_singleton.mp hb]
      exact hcell i h hs
  keep := fun i h h' st kk => by
    obtain ⟨⟨old, he⟩, hs⟩ := st
    refine ⟨⟨old, kk e (by simp) _ he⟩, ?_⟩
    exact (D { frames := none, units := 0, depth := 0, handled := none } rfl).frame i h h' hs fun b hb o q => kk b (by rw [List.mem_singleton.mp hb]; simp) o q
  item := by
    intro X hP hw hK hc i pins s σ H E I hf st hg
    subst hP hw hK
    have W := WalksT.enumerateD (prog := X.prog) (w := X.w) (A := X.A) (D X.A.in1 (I.ok.hd hc)) e hei (by simpa using hei) (by simp)
    refine W.item i s _ _ hg st fun T vals h' tk Pt hT hIs Md kp => ⟨.ref T, rfl, ?_⟩
    refine W.go elts k tp i T _ _ _ Md fun h'' st'' kp'' => ?_
    obtain ⟨t, xv, ⟨c, u, hcx, rfl⟩, rfl⟩ := Pt
    have nT : H T = none := I.hok.fresh hT
    have aT : T ∉ [e, it] := W.apart i T _ Md
    have kall : ∀ b o, b ∉ [e, it] → s.heap.get? b = some o → h''.get? b = some o := fun b o hb q => kp'' b o hb (kp b o hb q)
    have hIs'' : IsTup h'' T #[.int i t, .str ⟨#[c]⟩ u] := by
      obtain ⟨o, ho, hcl, n, hd⟩ := hIs
      exact ⟨o, kp'' T o aT ho, hcl, n, hd⟩
    have ltT : ∀ b o, s.heap.get? b = some o → b ≠ T := fun b o q => Nat.ne_of_lt (Nat.lt_of_lt_of_le (Heap.lt_size q) hT)
    have nfp : ∀ b o, H b = some o → b ∉ [e, it] := fun b o q hb => by rw [(hf b hb).1] at q; cases q
    have J : Inv X pins σ (upd H T (.tup [.int (i : Nat), .str ⟨#[c]⟩])) { s with heap := h'', toks := tk } := by
      refine I.step (h' := h'') (g' := s.gens) (d' := s.drawn) (t' := tk) (ch := [e, it]) (fun b hb => ⟨(hf b hb).2.2.2.1, (hf b hb).2.1, (hf b hb).2.2.2.2.1, (hf b hb).2.2.2.2.2⟩)
        (fun b o _ _ hb q _ => kall b o hb q) (fun b o _ _ hb q _ => ⟨o.slots, kall b o hb q⟩) (fun b o _ q n => by rw [upd_ne (ltT b o q)]; exact n) (fun b o hb q => ⟨o, kall b o hb q⟩)
        (fun b xs q => by rw [upd_ne (ne_of_none q nT)]; exact q) (fun b o xs q => by rw [upd_ne (ne_of_none q nT)]; exact q) (fun b ps q => ⟨#[], by rw [upd_ne (ne_of_none q nT), q]; simp⟩) (fun m hm => ?_) (fun b o q => ?_) I.bare
      · obtain ⟨o, es, ep, ho, r⟩ := hm
        refine ⟨o, es, ep, kall _ o (fun hb => ?_) ho, r⟩
        exact (hf _ hb).2.1 rfl
      · by_cases hb : b = T
        · subst hb
          rw [upd_same] at q
          cases q
          exact ⟨by show 2 ≤ sizeLine; decide, [.int i t, .str ⟨#[c]⟩ u], .cons ⟨t, rfl⟩ (.cons ⟨u, rfl⟩ .nil), hIs''⟩
        · rw [upd_ne hb] at q
          refine (I.hok b o q).stay (fun c' v hc' z => kall c' v ?_ z) (fun c' z => by rw [upd_ne (ne_of_none z nT)]; exact z) fun c' xs z => by rw [upd_ne (ne_of_none z nT)]; exact z
          rcases hc' with rfl | hc'
          · exact nfp _ _ q
          · exact nfp _ _ hc'
    refine ⟨.ref T, upd H T (.tup [.int (i : Nat), .str ⟨#[c]⟩]), J, rfl, ⟨T, c, nT, hcx, rfl, rfl⟩, st'', fun b hb => ?_⟩
    have nb : b ≠ T := fun z => aT (by rw [← z]; exact hb)
    rw [upd_ne nb]; exact (hf b hb).1
  done := by
    intro X hP hw hK hc i pins s σ H E I hf st hg
    subst hP hw hK
    have W := WalksT.enumerateD (prog := X.prog) (w := X.w) (A := X.A) (D X.A.in1 (I.ok.hd hc)) e hei (by simpa using hei) (by simp)
    have hg' : i = x.cps.size := hg
    rw [hg'] at st
    refine W.done s _ _ st fun h' tk kp => ⟨rfl, ?_⟩
    have nfp : ∀ b o, H b = some o → b ∉ [e, it] := fun b o q hb => by rw [(hf b hb).1] at q; cases q
    refine I.step (h' := h') (g' := s.gens) (d' := s.drawn) (t' := tk) (ch := [e, it]) (fun b hb => ⟨(hf b hb).2.2.2.1, (hf b hb).2.1, (hf b hb).2.2.2.2.1, (hf b hb).2.2.2.2.2⟩)
      (fun b o _ _ hb q _ => kp b o hb q) (fun b o _ _ hb q _ => ⟨o.slots, kp b o hb q⟩) (fun _ _ _ _ n => n) (fun b o hb q => ⟨o, kp b o hb q⟩)
      (fun _ _ q => q) (fun _ _ _ q => q) (fun b ps q => ⟨#[], by rw [q]; simp⟩) (fun m hm => ?_) (fun b o q => ?_) I.bare
    · obtain ⟨o, es, ep, ho, r⟩ := hm
      exact ⟨o, es, ep, kp _ o (fun hb => (hf _ hb).2.1 rfl) ho, r⟩
    · refine (I.hok b o q).stay (fun c' v hc' z => kp c' v ?_ z) (fun _ z => z) fun _ _ z => z
      rcases hc' with rfl | hc'
      · exact nfp _ _ q
      · exact nfp _ _ hc'
  self := fun A i s Q E st h => by
    obtain ⟨⟨old, he⟩, hs⟩ := st
    exact wpAny_pyIter_enum he h
variable {X : Cx} {B : Bd} {a : Expr} {fs : En → Option (List PyData)} {pos pp : Pos}
noncomputable def enS (ds : List PyData) : Option (List PyData) := match ds with
  | [.str x] => some (enumD (signD x) 0)
  | _ => none
theorem itp_enum {K : PySem.W.Frag} {F : Hp} {x : Str} : ItP K (Ite x) F (enumD (signD x) 0) := fun F1 H1 i s1 s2 => by
  have hl : (enumD (signD x) 0).length = x.cps.size := by rw [enumD_len]; unfold signD; rw [List.length_map, Array.length_toList]
  refine ⟨fun d e => ?_, fun e => by show i = _; rw [e, hl]⟩
  have hi : i < x.cps.size := by rw [← hl]; exact (List.getElem?_eq_some_iff.mp e).1
  refine ⟨hi, fun v H2 y => ?_⟩
  obtain ⟨T, c, hT, hc, rfl, rfl⟩ := y
  obtain ⟨cd, h1, h2⟩ := enumD_get _ _ _ _ e
  have : cd = .str ⟨#[c]⟩ := by
    unfold signD at h1
    rw [List.getElem?_map] at h1
    have hc' : x.cps.toList[i]? = some c := by simpa using hc
    rw [hc'] at h1
    exact (Option.some.inj h1).symm
  subst this
  rw [Nat.zero_add] at h2
  subst h2
  have g := Gr.one (o := .tup [.int (i : Nat), .str ⟨#[c]⟩]) s2 hT
  exact ⟨_, g, rel_tup (SqT.of upd_same) (.cons rel_int (.cons rel_str .nil))⟩
theorem I.enum {elts : List Expr} {k : Nat} {tp : Pos} (hc : X.calm = true) (hm : X.mg "enumerate" = none) (ha : A X B [a] fs) (hg : Gl X "enumerate" := by rfl) (hs : starEach [a] X.env = [(false, eval a X.env)] := by exact star_of rfl) :
    I X B (.Tuple elts k tp) (.Call (.Name "enumerate" pp) [a] [] pos) (fun η => (fs η).bind enS) := by
  intro pins s σ H R I ⟨F, η, ds, sr, hd, q⟩
  obtain ⟨es, h1, hd⟩ := bind_some hd
  unfold enS at hd
  split at hd
  · rename_i x
    cases hd
    refine Call_ (ld_blt I hg hm boot_enumerate (PyProof.Rows.callWith_type1 (thn (ha pos pins s σ H (fun vs H1 => ∃ F', Gr F H F' H1 ∧ RelL X.K F' [.str x] vs) I ⟨F, η, _, sr, h1, fun vs F' H' g r => ⟨F', g, r⟩⟩) fun us s1 ⟨vs, H1, I1, r1, F1, g1, rl⟩ => ?_) hs rfl))
    obtain ⟨y, r, rfl, ry, rr⟩ := rl.cons_of
    obtain rfl := rr.nil_of
    obtain ⟨u, rfl, ru⟩ := vals1 r1
    rw [ry.str] at ru
    obtain ⟨t, rfl⟩ := ru
    refine call_enumerate_str fun h' he hit hsz hk => ?_
    refine wpAny_pyIter_enum he ?_
    have I2 : Inv X pins σ H1 { s1 with heap := h' } := I1.kept (t' := s1.toks) hk
    have nw : ∀ b, s1.heap.objs.size ≤ b → FpOk X pins H1 b := fun b hb => I1.fpOk hb (I1.hok.fresh hb)
    have fpo : ∀ b ∈ [s1.heap.objs.size + 1, s1.heap.objs.size], FpOk X pins H1 b := fun b hb => by
      rcases List.mem_cons.mp hb with rfl | hb
      · exact nw _ (Nat.le_succ _)
      · rw [List.mem_singleton.mp hb]; exact nw _ (Nat.le_refl _)
    have cel : ∀ (ty : String) (i : Nat) (h : Heap), h.IsStrIter s1.heap.objs.size ty x t i → ∃ o, h.get? s1.heap.objs.size = some o ∧ ∀ v, o.data ≠ .cell v := fun ty i h st => by
      obtain ⟨o, ho, hcl, hd⟩ := st
      exact ⟨o, ho, fun v z => by rw [hd] at z; cases z⟩
    cases ha' : x.cps.all (· < 128)
    · have hit' : h'.IsStrIter s1.heap.objs.size "str_iterator" x t 0 := by simpa [strIterType, ha'] using hit
      exact ⟨_, _, _, _, H1, rfl, I2, turn_enum (Nat.succ_ne_self _) (fun A hA => Draws.strWide hA _ x t) (cel _), ⟨⟨_, he⟩, hit'⟩, fpo, q _ F1 H1 g1 itp_enum⟩
    · have hit' : h'.IsStrIter s1.heap.objs.size "str_ascii_iterator" x t 0 := by simpa [strIterType, ha'] using hit
      exact ⟨_, _, _, _, H1, rfl, I2, turn_enum (Nat.succ_ne_self _) (fun A hA => Draws.strAscii hA _ x t) (cel _), ⟨⟨_, he⟩, hit'⟩, fpo, q _ F1 H1 g1 itp_enum⟩
  · cases hd
end
theorem lt_total : ∀ a b : List Nat, ltCps a b = true → ltCps b a = false
  | [], [], h => by simp [ltCps] at h
  | [], _ :: _, _ => by simp [ltCps]
  | _ :: _, [], h => by simp [ltCps] at h
  | x :: r, y :: t, h => by
    simp only [ltCps, Bool.or_eq_true, decide_eq_true_eq, Bool.and_eq_true, beq_iff_eq] at h
    simp only [ltCps, Bool.or_eq_false_iff, decide_eq_false_iff_not, Bool.and_eq_false_imp, beq_iff_eq]
    rcases h with h | ⟨rfl, h⟩
    · exact ⟨by omega, fun e => by omega⟩
    · exact ⟨by omega, fun _ => lt_total r t h⟩
theorem lt_anti : ∀ a b : List Nat, ltCps a b = false → ltCps b a = false → a = b
  | [], [], _, _ => rfl
  | [], _ :: _, h, _ => by simp [ltCps] at h
  | _ :: _, [], _, h => by simp [ltCps] at h
  | x :: r, y :: t, h, k => by
    simp only [ltCps, Bool.or_eq_false_iff, decide_eq_false_iff_not, Bool.and_eq_false_imp, beq_iff_eq] at h k
    have e : x = y := by omega
    subst e
    rw [lt_anti r t (h.2 rfl) (k.2 rfl)]
theorem lt_trans : ∀ a b c : List Nat, ltCps b a = false → ltCps c b = false → ltCps c a = false
  | [], [], c, _, h => h
  | [], _ :: _, [], _, h => by simp [ltCps]
  | [], y :: t, z :: u, _, _ => by simp [ltCps]
  | x :: r, [], _, h, _ => by simp [ltCps] at h
  | x :: r, y :: t, [], _, h => by simp [ltCps] at h
  | x :: r, y :: t, z :: u, h, k => by
    simp only [ltCps, Bool.or_eq_false_iff, decide_eq_false_iff_not, Bool.and_eq_false_imp, beq_iff_eq] at h k ⊢
    refine ⟨by omega, fun e => ?_⟩
    subst e
    have e : y = z := by omega
    subst e
    exact lt_trans r t u (h.2 rfl) (k.2 rfl)
noncomputable def leS (a b : Str) : Bool := !ltCps b.cps.toList a.cps.toList
theorem str_ext {a b : Str} (h : a.cps.toList = b.cps.toList) : a = b := by
  obtain ⟨a⟩ := a
  obtain ⟨b⟩ := b
  have : a = b := Array.toList_inj.mp h
  rw [this]
theorem rising_pw : ∀ (l : List Str) (p : Str), risingS p l = true → (p :: l).Pairwise (fun a b => leS a b = true)
  | [], p, _ => by simp
  | x :: r, p, h => by
    have h' : (!ltCps x.cps.toList p.cps.toList && risingS x r) = true := h
    rw [Bool.and_eq_true] at h'
    have ih := rising_pw r x h'.2
    refine List.pairwise_cons.mpr ⟨fun b hb => ?_, ih⟩
    rcases List.mem_cons.mp hb with rfl | hb
    · exact h'.1
    · have h2 := List.rel_of_pairwise_cons ih hb
      unfold leS at h2 ⊢
      have h1 := h'.1
      rw [Bool.not_eq_true'] at h1 h2 ⊢
      exact lt_trans _ _ _ h1 h2
theorem sortedS_pw : ∀ (l : List Str), sortedS l = true → l.Pairwise (fun a b => leS a b = true)
  | [], _ => .nil
  | x :: r, h => rising_pw r x h
noncomputable def srtS (ss : List Str) : List Str := ss.mergeSort leS
theorem srtS_pw (ss : List Str) : (srtS ss).Pairwise (fun a b => leS a b = true) := by
  refine List.pairwise_mergeSort (le := leS) (fun a b c h k => ?_) (fun a b => ?_) ss
  · unfold leS at h k ⊢
    rw [Bool.not_eq_true'] at h k ⊢
    exact lt_trans _ _ _ h k
  · unfold leS
    cases e : ltCps b.cps.toList a.cps.toList with
    | false => rfl
    | true => rw [lt_total _ _ e]; rfl
theorem srtS_uniq {ss ts : List Str} (p : ts.Perm ss) (h : sortedS ts = true) : ts = srtS ss := by
  refine List.Perm.eq_of_pairwise (le := fun a b => leS a b = true) (fun a b _ _ h k => ?_) (sortedS_pw ts h) (srtS_pw ss) (p.trans (List.mergeSort_perm ss leS).symm)
  unfold leS at h k
  rw [Bool.not_eq_true'] at h k
  exact str_ext (lt_anti _ _ k h)
noncomputable def srtI (ns : List Int) : List Int := ns.mergeSort fun a b => decide (a ≤ b)
section
variable {X : Cx}
theorem strsAre_of : ∀ {ss : List Str} {us : List Value}, Vals (ss.map V.str) us → StrsAre us ss
  | [], _, .nil => .nil
  | s :: r, _, .cons h t => by
    obtain ⟨k, rfl⟩ := h
    exact .cons s k (strsAre_of t)
theorem vals_strs : ∀ {ss : List Str} {us : List Value}, StrsAre us ss → Vals (ss.map V.str) us
  | _, _, .nil => .nil
  | _, _, .cons y t h => .cons ⟨t, rfl⟩ (vals_strs h)
noncomputable def rSrtS (K : PySem.W.Frag) : List V → Hp → VK → Prop := fun xs H Q => ∃ (p : Addr) (ss : List Str), xs = [.ref p] ∧ SqL K H p (ss.map V.str) ∧ ss.length < 64 ∧ ∀ l, H l = none → Q (.ref l) (upd H l (.lst ((srtS ss).map V.str)))
noncomputable def rSrtI (K : PySem.W.Frag) : List V → Hp → VK → Prop := fun xs H Q => ∃ (p : Addr) (ns : List Int), xs = [.ref p] ∧ SqL K H p (ns.map V.int) ∧ ns.length < 64 ∧ ∀ l, H l = none → Q (.ref l) (upd H l (.lst ((srtI ns).map V.int)))
noncomputable def asSs : List PyData → Option (List Str)
  | [] => some []
  | .str i :: r => (asSs r).bind fun ns => some (i :: ns)
  | _ :: _ => none
theorem asSs_some : ∀ {ds : List PyData} {ns : List Str}, asSs ds = some ns → ds = ns.map PyData.str
  | [], ns, h => by cases h; rfl
  | .str i :: r, ns, h => by
    obtain ⟨ms, h1, h2⟩ := bind_some h
    cases h2
    rw [asSs_some h1]; rfl
  | .none :: _, _, h => by cases h
  | .bool _ :: _, _, h => by cases h
  | .int _ :: _, _, h => by cases h
  | .list _ :: _, _, h => by cases h
  | .tuple _ :: _, _, h => by cases h
  | .dict _ :: _, _, h => by cases h
theorem RelL.strs_of {K : PySem.W.Frag} {F : Hp} : ∀ {ns : List Str} {xs : List V}, RelL K F (ns.map PyData.str) xs → xs = ns.map V.str
  | [], xs, h => h.nil_of
  | n :: r, xs, h => by
    obtain ⟨x, ys, rfl, h1, h2⟩ := h.cons_of
    rw [h1.str, RelL.strs_of h2]; rfl
theorem RelL.strs {K : PySem.W.Frag} {F : Hp} : ∀ (ns : List Str), RelL K F (ns.map PyData.str) (ns.map V.str)
  | [] => .nil
  | _ :: r => .cons rel_str (RelL.strs r)
noncomputable def pSort (ds : List PyData) : Option PyData := match ds with
  | [.list xs] => if xs.length < 64 then (match asSs xs with
    | some ss => some (.list ((srtS ss).map PyData.str))
    | none => (asIs xs).bind fun ns => some (.list ((srtI ns).map PyData.int))) else none
  | _ => none
variable {B : Bd} {a b e : Expr} {es : List Expr} {f g : En → Option PyData} {fs : En → Option (List PyData)} {pos pp apos cpos : Pos}
noncomputable def rIdx (K : PySem.W.Frag) : V → List V → Hp → VK → Prop := fun x vs H Q => ∃ l xs y j, x = .ref l ∧ vs = [y] ∧ SqL K H l xs ∧ flatV y = true ∧ xs.all flatV = true ∧ xs.findIdx? (fun z => eqV z y) = some j ∧ Q (.int (j : Nat)) H
noncomputable def pIdx (x y : PyData) : Option PyData := match x with
  | .list ds => if flatD y = true ∧ ds.all flatD = true then (ds.findIdx? fun z => PyData.eqv z y).bind fun j => some (.int (j : Nat)) else none
  | _ => none
end
noncomputable def compChk (N : List Str) (sc scope : Scope) (N' : List Str) (mp : List (Option Nat)) : Bool :=
  decide (scope.kind = .function) && decide (sc.kind = .function) && decide (∀ x ∈ scope.names, x.2 ≠ .cell) && decide (∀ x ∈ scope.names, x.2 = .local → scope.names.lookup x.1 = some .local) &&
  decide (∀ x ∈ scope.names, x.2 = .free → sc.names.lookup x.1 = some .cell) && decide (mp.length = N'.length) &&
  (N'.zip mp).all fun p => match p.2 with
    | none => true
    | some j => decide (N[j]? = some p.1) && decide (scope.names.lookup p.1 = some .free)
theorem lookup_relabel_free {env : Env} (hk : env.scope.kind = .function) : ∀ {names : List (Str × NameKind)} {x : Str}, names.lookup x = some .free → env.kindOf x = some .cell →
    (names.map fun (n, k) => if (k == NameKind.free && env.scope.kind == .function && env.kindOf n == some .cell) then (n, NameKind.cell) else (n, k)).lookup x = some .cell
  | [], _, h, _ => by simp at h
  | (n, k) :: r, x, h, hc => by
    have ih := @lookup_relabel_free env hk r x
    show List.lookup x ((if (k == NameKind.free && env.scope.kind == .function && env.kindOf n == some .cell) = true then (n, NameKind.cell) else (n, k)) :: _) = _
    cases hx : x == n with
    | true =>
      have en : x = n := by simpa using hx
      subst en
      simp only [List.lookup_cons, hx] at h
      cases h
      rw [if_pos (by rw [hk, hc]; rfl)]
      simp [List.lookup_cons]
    | false =>
      simp only [List.lookup_cons, hx] at h
      split <;> simp only [List.lookup_cons, hx] <;> exact ih h hc
theorem CompSc.of {X : Cx} {scope : Scope} {N' : List Str} {mp : List (Option Nat)} (h : compChk X.N X.env.scope scope N' mp = true) : CompSc X scope N' mp := by
  unfold compChk at h
  simp only [Bool.and_eq_true, decide_eq_true_eq] at h
  obtain ⟨⟨⟨⟨⟨⟨h1, h0⟩, h2⟩, h3⟩, h4⟩, h5⟩, h6⟩ := h
  refine ⟨h1, h2, h3, fun x hx hf => .inl (h4 x hx hf), h5, fun i x j e1 e2 => ?_⟩
  have hm : (x, some j) ∈ N'.zip mp := by
    have : (N'.zip mp)[i]? = some (x, some j) := by rw [List.getElem?_zip_eq_some]; exact ⟨e1, e2⟩
    exact List.mem_of_getElem? this
  have h7 := List.all_eq_true.mp h6 _ hm
  simp only [Bool.and_eq_true, decide_eq_true_eq] at h7
  have hmem : (x, NameKind.free) ∈ scope.names := PySem.mem_of_lookup h7.2
  exact ⟨h7.1, hmem, .inl (lookup_relabel_free h0 h7.2 (h4 _ hmem rfl))⟩
theorem E.globI {X : Cx} {B : Bd} {x : Str} {i : Int} {t : Tok} {pos : Pos} (hm : X.mg x = some (.int i t)) (hg : Gl X x := by rfl) (hd : (x == ("__debug__" : Str)) = false := by decide) : E X B (.Name x pos) (eC (.int i)) := E.glob hm (v := .int i) ⟨t, rfl⟩ (fun _ => rel_int) hg hd
theorem E.globS {X : Cx} {B : Bd} {x : Str} {i : Str} {t : Tok} {pos : Pos} (hm : X.mg x = some (.str i t)) (hg : Gl X x := by rfl) (hd : (x == ("__debug__" : Str)) = false := by decide) : E X B (.Name x pos) (eC (.str i)) := E.glob hm (v := .str i) ⟨t, rfl⟩ (fun _ => rel_str) hg hd
theorem tg_len1 {t : En → PyData → Option En} : ∀ η ds η', tgCons t tgNil η ds = some η' → ds.length = 1 := fun η ds η' h => by
  match ds, h with
  | [_], _ => rfl
  | _ :: _ :: _, h => obtain ⟨_, _, h⟩ := bind_some h; cases h
theorem tg_len2 {t u : En → PyData → Option En} : ∀ η ds η', tgCons t (tgCons u tgNil) η ds = some η' → ds.length = 2 := fun η ds η' h => by
  match ds, h with
  | d :: r, h =>
    obtain ⟨η1, _, h⟩ := bind_some h
    rw [List.length_cons, tg_len1 _ _ _ h]
theorem CompSc.of' {X : Cx} {scope : Scope} {N' : List Str} {mp : List (Option Nat)} (N : List Str) (sc : Scope) (hN : X.N = N) (hs : X.env.scope = sc) (h : compChk N sc scope N' mp = true) : CompSc X scope N' mp := CompSc.of (by rw [hN, hs]; exact h)
noncomputable def tyD : PyData → String
  | .none => "NoneType"
  | .bool _ => "bool"
  | .int _ => "int"
  | .str _ => "str"
  | .list _ => "list"
  | .tuple _ => "tuple"
  | .dict _ => "dict"
noncomputable def isB (T : String) (d : PyData) : Bool := match d with
  | .bool _ => T == "bool" || T == "int"
  | d => tyD d == T
section
variable {X : Cx}
noncomputable def rIsin (K : PySem.W.Frag) (T : String) : List V → Hp → VK → Prop := fun xs H Q => ∃ x F d, xs = [x, .ty T] ∧ Same F H ∧ Rel K F d x ∧ Q (.bl (isB T d)) H
variable {B : Bd} {a b e : Expr} {es : List Expr} {f g : En → Option PyData} {fs : En → Option (List PyData)} {pos pp tp apos cpos pos' : Pos} {sts : List Stmt} {u : En → Option Out} {p : En → Option Bool}
noncomputable def pIsin (T : String) (d : PyData) : Option PyData := some (.bool (isB T d))
noncomputable def asBs : List PyData → Option (List Bool)
  | [] => some []
  | .bool i :: r => (asBs r).bind fun ns => some (i :: ns)
  | _ :: _ => none
theorem asBs_some : ∀ {ds : List PyData} {ns : List Bool}, asBs ds = some ns → ds = ns.map PyData.bool
  | [], ns, h => by cases h; rfl
  | .bool i :: r, ns, h => by
    obtain ⟨ms, h1, h2⟩ := bind_some h
    cases h2
    rw [asBs_some h1]; rfl
  | .none :: _, _, h => by cases h
  | .str _ :: _, _, h => by cases h
  | .int _ :: _, _, h => by cases h
  | .list _ :: _, _, h => by cases h
  | .tuple _ :: _, _, h => by cases h
  | .dict _ :: _, _, h => by cases h
theorem asBs_bools (ns : List Bool) : asBs (ns.map PyData.bool) = some ns := by
  induction ns with
  | nil => rfl
  | cons n r ih => rw [List.map_cons]; unfold asBs; rw [ih]; rfl
theorem RelL.bools_of {K : PySem.W.Frag} {F : Hp} : ∀ {ns : List Bool} {xs : List V}, RelL K F (ns.map PyData.bool) xs → xs = ns.map V.bl
  | [], xs, h => h.nil_of
  | n :: r, xs, h => by
    obtain ⟨x, ys, rfl, h1, h2⟩ := h.cons_of
    rw [h1.bl, RelL.bools_of h2]; rfl
theorem range_any (bs : List Bool) : (List.range bs.length).any (fun i => bs.getD i false) = bs.any id := by
  rw [Bool.eq_iff_iff, List.any_eq_true, List.any_eq_true]
  constructor
  · rintro ⟨i, hi, h⟩
    have hi := List.mem_range.mp hi
    rw [List.getD_eq_getElem?_getD, List.getElem?_eq_getElem hi] at h
    exact ⟨_, List.getElem_mem hi, h⟩
  · rintro ⟨x, hx, h⟩
    obtain ⟨i, hi, rfl⟩ := List.mem_iff_getElem.mp hx
    exact ⟨i, List.mem_range.mpr hi, by rw [List.getD_eq_getElem?_getD, List.getElem?_eq_getElem hi]; exact h⟩
noncomputable def rBools (K : PySem.W.Frag) (r : List Bool → Bool) : List V → Hp → VK → Prop := fun xs H Q => ∃ (p : Addr) (bs : List Bool), xs = [.ref p] ∧ SqL K H p (bs.map V.bl) ∧ Q (.bl (r bs)) H
theorem bools_walk (hc : X.calm = true) {pins : List (Addr × Obj)} {s : Shared} {σ : St} {H : Hp} {p : Addr} {bs : List Bool} {Q : Bool → Value → Shared → Prop} {r : (Nat → Bool) → Nat → Bool} (I : Inv X pins σ H s) (hq : SqL X.K H p (bs.map V.bl))
    (hQ : ∀ h' tk, (∀ b o, s.heap.get? b = some o → h'.get? b = some o) → Q true (.bool (r (fun i => bs.getD i false) bs.length)) { s with heap := h', toks := tk }) :
    wpAny (model X.prog X.w) X.A.in1 (pyIter (.ref p)) (fun it s₂ => ∃ I fp wr n P St tr, it = .ref I ∧ Walks X.prog X.w X.A.in1 I fp wr n P St ∧ St 0 s₂.heap ∧ TruthOf X.prog X.w X.A.in1 P tr ∧
      ∀ h' tk, (∀ b o, b ∉ wr → s₂.heap.get? b = some o → h'.get? b = some o) → Q true (.bool (r tr n)) { s₂ with heap := h', toks := tk }) X.xe s := by
  obtain ⟨its, rv, pl, hz⟩ := I.list hq
  have hl := rv.length
  rw [List.length_map] at hl
  have hlt : p < s.heap.objs.size := by
    obtain ⟨o, ho, _⟩ := pl.isList
    exact Heap.lt_size ho
  refine wpAny_pyIter_list pl.isList ?_
  refine ⟨s.heap.objs.size, _, _, _, _, _, fun i => bs.getD i false, rfl, Walks.list (A := X.A.in1) (I.ok.hd hc) s.heap.objs.size p (Nat.ne_of_lt hlt) its.toArray, ⟨⟨_, Heap.get?_push_size _ rfl, rfl, rfl⟩, pl.isList.at fun o e => Heap.get?_push_of_some _ e⟩, ?_, fun h' tk hk => ?_⟩
  · intro i v s' Q' E' hv hq'
    have hv' : its[i]? = some v := by simpa using hv
    obtain ⟨hi, _⟩ := List.getElem?_eq_some_iff.mp hv'
    have hn : bs[i]? = some bs[i] := List.getElem?_eq_getElem (by omega)
    obtain ⟨w, hw, rw'⟩ := rv.get (i := i) (x := .bl bs[i]) (by rw [List.getElem?_map, hn]; rfl)
    rw [hv'] at hw
    cases hw
    cases rw'
    have e : bs.getD i false = bs[i] := by rw [List.getD_eq_getElem?_getD, hn]; rfl
    rw [show (fun i => bs.getD i false) i = bs[i] from e] at hq'
    exact wpAny_truthy_bool hq'
  · have e : its.toArray.size = bs.length := by rw [List.size_toArray]; exact hl.symm
    rw [e]
    refine hQ h' tk fun b o eb => hk b o ?_ (Heap.get?_push_of_some _ eb)
    intro hb
    exact absurd (Heap.lt_size eb) (by rw [List.mem_singleton.mp hb]; exact Nat.lt_irrefl _)
theorem call_any (hc : X.calm = true) : CallR X (.builtin "any") (rBools X.K fun bs => bs.any id) := by
  intro pins s σ H xs us Q I r h
  obtain ⟨p, bs, rfl, hq, q⟩ := h
  obtain ⟨u, rfl, rx⟩ := vals1 r
  cases rx
  refine call_any_walk (bools_walk hc (Q := fun _ v s' => EP X pins σ Q v s') (r := fun tr n => (List.range n).any tr) I hq fun h' tk k => ?_)
  rw [range_any]
  exact ⟨.bl _, H, I.kept k, rfl, q⟩
noncomputable def pBools (r : List Bool → Bool) (ds : List PyData) : Option PyData := match ds with
  | [.list xs] => (asBs xs).bind fun bs => some (.bool (r bs))
  | _ => none
theorem ad_bools {K : PySem.W.Frag} {r : List Bool → Bool} : AdA K (rBools K r) (pBools r) := fun F H xs ds d Q sm rs e q => by
  unfold pBools at e
  split at e
  · obtain ⟨bs, h1, h2⟩ := bind_some e
    cases h2
    have := asBs_some h1
    subst this
    obtain ⟨x, r, rfl, rx, rr⟩ := rs.cons_of
    obtain rfl := rr.nil_of
    obtain ⟨a, ys, rfl, hq, r1⟩ := rx.lst
    have := r1.bools_of
    subst this
    exact ⟨a, bs, rfl, sm.seq hq, q _ F H (.refl sm) rel_bl⟩
  · cases e
noncomputable def pAll := pBools fun bs => bs.all id
noncomputable def pAny := pBools fun bs => bs.any id
theorem E.any (hc : X.calm = true) (hm : X.mg "any" = none) (ha : A X B [e] fs) (hg : Gl X "any" := by rfl) (he : starEach [e] X.env = (false, eval e X.env) :: starEach [] X.env := by exact star_of rfl) (hpl : (backTo pos (starEach [] X.env)).any (·.1) = false := by rfl) : E X B (.Call (.Name "any" pp) [e] [] pos) (lA pAny fs) :=
  E.callB (call_any hc) ad_bools hm (by decide +kernel) ha hg (by decide) (by decide) he hpl
noncomputable def pMax (ds : List PyData) : Option PyData := match ds with
  | [.int i, .int j] => some (.int (if j > i then j else i))
  | _ => none
noncomputable def pMin (ds : List PyData) : Option PyData := match ds with
  | [.int i, .int j] => some (.int (if j < i then j else i))
  | _ => none
theorem ad_two {K : PySem.W.Frag} {g : Int → Int → Int} : AdA K (fun xs H Q => ∃ i j, xs = [.int i, .int j] ∧ Q (.int (g i j)) H) (fun ds => match ds with | [.int i, .int j] => some (.int (g i j)) | _ => none) := fun F H xs ds d Q sm rs e q => by
  dsimp only at e
  split at e
  · cases e
    obtain ⟨x, r, rfl, rx, rr⟩ := rs.cons_of
    obtain ⟨y, r2, rfl, ry, rr2⟩ := rr.cons_of
    obtain rfl := rr2.nil_of
    exact ⟨_, _, by rw [rx.int, ry.int], q _ F H (.refl sm) rel_int⟩
  · cases e
theorem E.max (hc : X.calm = true) (hm : X.mg "max" = none) (ha : A X B [a, b] fs) (hg : Gl X "max" := by rfl) (he : starEach [a, b] X.env = (false, eval a X.env) :: starEach [b] X.env := by rfl) (hpl : (backTo pos (starEach [b] X.env)).any (·.1) = false := by rfl) : E X B (.Call (.Name "max" pp) [a, b] [] pos) (lA pMax fs) :=
  E.callB (call_max2 hc) ad_two hm (by decide +kernel) ha hg (by decide) (by decide) he hpl
theorem E.min (hc : X.calm = true) (hm : X.mg "min" = none) (ha : A X B [a, b] fs) (hg : Gl X "min" := by rfl) (he : starEach [a, b] X.env = (false, eval a X.env) :: starEach [b] X.env := by rfl) (hpl : (backTo pos (starEach [b] X.env)).any (·.1) = false := by rfl) : E X B (.Call (.Name "min" pp) [a, b] [] pos) (lA pMin fs) :=
  E.callB (call_min2 hc) ad_two hm (by decide +kernel) ha hg (by decide) (by decide) he hpl
noncomputable def pInt (ds : List PyData) : Option PyData := match ds with
  | [.int i] => some (.int i)
  | [.bool k] => some (.int (if k then 1 else 0))
  | _ => none
noncomputable def sAug (i : Nat) (f : En → Option PyData) : En → Option Out := fun η => (eV i η).bind fun x => (f η).bind fun y => match x, y with
  | .int n, .int m => some (.nx (η.set i (.val (.int (n + m)))))
  | _, _ => none
noncomputable def sWh (c : En → Option Bool) (body : En → Option Out) : Nat → En → Option Out
  | 0, _ => none
  | n + 1, η => (c η).bind fun b => if b = true then (body η).bind fun o => match o with
    | .nx η' => sWh c body n η'
    | .ct η' => sWh c body n η'
    | .bk η' => some (.nx η')
    | .rt d => some (.rt d) else some (.nx η)
theorem S.while (n : Nat) {c : Expr} (hp : PassesOwn (model X.prog X.w) X.A X.env X.xe) (hc : T X B c p) (hb : Ss X B sts u) : S X B (.While c sts [] pos) (sWh p u n) := PS.imp (ps_while hp hc hb) fun D σ H ⟨F, η, o, sr, hd, q⟩ => by
  refine ⟨fun m σ H => ∃ Fc ηc, SR X.K B Fc H σ ηc ∧ Same F Fc ∧ sWh p u m ηc = some o, ⟨n, F, η, sr, .refl _, hd⟩, ?_⟩
  rintro m σc Hc ⟨Fc, ηc, src, sc, hgo⟩
  cases m with
  | zero => cases hgo
  | succ m =>
    unfold sWh at hgo
    obtain ⟨b, hb', hgo⟩ := bind_some hgo
    refine ⟨Fc, ηc, b, src, hb', fun F1 H1 g1 => ?_⟩
    cases b with
    | false =>
      rw [if_neg Bool.false_ne_true] at hgo
      cases hgo
      refine iteF ?_
      exact q σc F1 H1 (src.grow g1) (sc.trans g1.ff)
    | true =>
      rw [if_pos rfl] at hgo
      refine iteT ?_
      obtain ⟨o1, e2, hgo⟩ := bind_some hgo
      refine ⟨fun σ' H' => ∃ m', m' < m + 1 ∧ ∃ Fc ηc, SR X.K B Fc H' σ' ηc ∧ Same F Fc ∧ sWh p u m' ηc = some o, fun σ' H' z => z, F1, ηc, o1, src.grow g1, e2, ?_⟩
      have s1 : Same F F1 := sc.trans g1.ff
      cases o1 with
      | nx η2 => exact fun σ' F' H' r s => ⟨m, Nat.lt_succ_self _, F', η2, r, s1.trans s, hgo⟩
      | ct η2 => exact fun σ' F' H' r s => ⟨m, Nat.lt_succ_self _, F', η2, r, s1.trans s, hgo⟩
      | bk η2 =>
        cases hgo
        exact fun σ' F' H' r s => q σ' F' H' r (s1.trans s)
      | rt d =>
        cases hgo
        exact q
noncomputable def tInO (neg : Bool) (f : En → Option PyData) (i : Nat) : En → Option Bool := fun η => (f η).bind fun x => match η[i]? with
  | some (.own ds) => (pIn neg x (.list ds)).bind asB
  | _ => none
end
noncomputable def Its (x : Str) : It := ⟨fun i _ => i < x.cps.size, fun i H v H' => H' = H ∧ ∃ c, x.cps[i]? = some c ∧ v = .str ⟨#[c]⟩, fun i _ => i = x.cps.size⟩
section
variable {X : Cx} {B : Bd} {e : Expr} {f : En → Option PyData} {tg : Expr}
noncomputable def asSg : PyData → Option (List PyData)
  | .str x => some (signD x)
  | _ => none
end
theorem strs_toks : ∀ {ss : List Str} {us : List Value}, Vals (ss.map V.str) us → ∃ l : List (Str × Tok), us = strValues l ∧ l.map (·.1) = ss
  | [], us, h => by cases h; exact ⟨[], rfl, rfl⟩
  | x :: r, us, h => by
    cases h with
    | cons h1 h2 =>
      obtain ⟨l, rfl, e⟩ := strs_toks h2
      obtain ⟨t, rfl⟩ := h1
      exact ⟨(x, t) :: l, rfl, by rw [List.map_cons, e]⟩
section
variable {X : Cx} {B : Bd} {a b e : Expr} {f g : En → Option PyData} {apos cpos : Pos}
noncomputable def rJoin (K : PySem.W.Frag) : V → List V → Hp → VK → Prop := fun x vs H Q => ∃ z p ss, x = .str z ∧ vs = [.ref p] ∧ SqL K H p (ss.map V.str) ∧ JoinOk z ss = true ∧ Q (.str (Txt.join z ss)) H
theorem mt_join : MtR X "str.join" (rJoin X.K) := by
  intro pins s σ H x vs v us Q I rx rv h
  obtain ⟨z, p, ss, rfl, rfl, hq, ok, q⟩ := h
  obtain ⟨t, rfl⟩ := rx
  obtain ⟨u, rfl, ru⟩ := vals1 rv
  cases ru
  obtain ⟨its, r, pl, hz⟩ := I.list hq
  obtain ⟨l, rfl, hl⟩ := strs_toks r
  exact SC.join pl.isList hl ok fun t' k => ⟨.str _, H, I.tok k, ⟨t', rfl⟩, q⟩
noncomputable def pJoin (x y : PyData) : Option PyData := match x, y with
  | .str z, .list ds => (asSs ds).bind fun ss => if JoinOk z ss = true then some (.str (Txt.join z ss)) else none
  | _, _ => none
theorem E.join (ha : E X B a f) (he : E X B e g) (hbase : attributeBase a "join" X.env (eval a X.env) = eval a X.env := by rfl)
    (hfew : ((backTo cpos (starEach [e] X.env)).all (fun x => !x.1) && (backToKw cpos (keywordEach [] X.env)).all (fun x => x.1.isSome)
      && decide ([e].length + ([] : List Keyword).length + (if ([] : List Keyword).isEmpty then 0 else 1) < 30)) = true := by rfl)
    (hline : (apos.endLine == cpos.line) = true := by rfl) (hs : starEach [e] X.env = (false, eval e X.env) :: starEach [] X.env := by exact star_of rfl) (hplain : (backTo cpos (starEach [] X.env)).any (·.1) = false := by rfl) :
    E X B (.Call (.Attribute a "join" apos) [e] [] cpos) (l2 pJoin f g) :=
  PE.imp (pe_bm PySem.F.plainAttrs_str PySem.F.slot_str_join PySem.F.type_str_join mt_join ha (A.cons he A.nil hs) hbase hfew hline hs hplain) fun σ H Q ⟨F, η, d, sr, hd, q⟩ => by
    obtain ⟨x, hx, hd⟩ := bind_some hd
    obtain ⟨y, hy, hd⟩ := bind_some hd
    unfold pJoin at hd
    split at hd
    · rename_i z ds
      obtain ⟨ss, h1, hd⟩ := bind_some hd
      split at hd
      · rename_i hf
        cases hd
        have := asSs_some h1
        subst this
        refine ⟨F, η, _, sr, hx, fun v F1 H1 g1 rv => ?_⟩
        rw [rv.str]
        refine ⟨rfl, F1, η, [.list (ss.map PyData.str)], sr.grow g1, (by show (g η).bind _ = _; rw [hy]; rfl), fun vs F2 H2 g2 rs => ?_⟩
        obtain ⟨w, r, rfl, rw', rr⟩ := rs.cons_of
        obtain rfl := rr.nil_of
        obtain ⟨p, xs, rfl, hq, r1⟩ := rw'.lst
        have := r1.strs_of
        subst this
        exact ⟨_, p, ss, rfl, rfl, g2.fh.seq hq, hf, q _ F2 H2 (g1.trans g2) rel_str⟩
      · cases hd
    · cases hd
end
section
variable {X : Cx} {B : Bd} {a b e : Expr} {f g : En → Option PyData} {pos : Pos}
noncomputable def sUnp (f : En → Option PyData) (t : En → PyData → Option En) : En → Option Out := fun η => (f η).bind fun d => (t η d).bind fun η' => some (.nx η')
theorem S.unp {tg : Expr} {gt : TG} {ks : List Nat} {t : En → PyData → Option En} (he : E X B e f) (hg : PG X tg gt) (ht : TgP X.K ks gt t) (hs : swapsWithSole [tg] e pos.line X.env = pure false := by rfl) (hw : swappedStores [tg] e X.env = pure none := by rfl)
    (h1 : (assignEach [tg] X.env).map (·.2) = [assign tg X.env] := by rfl) : S X B (.Assign [tg] e pos) (sUnp f t) :=
  PS.imp (ps_asg he hg hs hw h1) fun D σ H ⟨F, η, o, sr, hd, q⟩ => by
    obtain ⟨d, hx, hd⟩ := bind_some hd
    obtain ⟨η', hy, hd⟩ := bind_some hd
    cases hd
    refine ⟨F, η, d, sr, hx, fun v F1 H1 g1 rv => ?_⟩
    exact ht B F1 H1 σ η d v η' (sr.grow g1) rv hy D.nx fun σ' F2 H2 r g2 _ _ => q σ' F2 H2 r (g1.ff.trans g2.ff)
noncomputable def isNn : PyData → Bool
  | .none => true
  | _ => false
noncomputable def pIsN (neg : Bool) (x y : PyData) : Option PyData := match y with
  | .none => some (.bool (if neg then !isNn x else isNn x))
  | _ => none
theorem non_iff {K : PySem.W.Frag} {F : Hp} {d : PyData} {x : V} (r : Rel K F d x) : decide (x = .non) = isNn d := by
  cases d with
  | none => rw [r.non]; rfl
  | bool b => rw [r.bl]; rfl
  | int i => rw [r.int]; rfl
  | str s => rw [r.str]; rfl
  | list ds => obtain ⟨a, xs, rfl, _⟩ := r.lst; rfl
  | tuple ds => obtain ⟨a, xs, rfl, _⟩ := r.tup; rfl
  | dict es => obtain ⟨a, xs, rfl, _⟩ := r.dct; rfl
theorem ad_isN {K : PySem.W.Frag} : Ad2 K (fun x y H Q => y = .non ∧ Q (.bl (decide (x = .non))) H) (pIsN false) := fun F H x y dx dy d Q sm rx ry e q => by
  unfold pIsN at e
  split at e
  · cases e
    refine ⟨ry.non, ?_⟩
    rw [non_iff rx]
    exact q _ F H (.refl sm) rel_bl
  · cases e
theorem ad_notN {K : PySem.W.Frag} : Ad2 K (fun x y H Q => y = .non ∧ Q (.bl (!decide (x = .non))) H) (pIsN true) := fun F H x y dx dy d Q sm rx ry e q => by
  unfold pIsN at e
  split at e
  · cases e
    refine ⟨ry.non, ?_⟩
    rw [non_iff rx]
    exact q _ F H (.refl sm) rel_bl
  · cases e
theorem T.isN (ha : E X B a f) (hb : E X B b g) (hm : behindInMarks .Is b = false := by rfl) : T X B (.Compare a [.Is] [b] pos) (bT (l2 (pIsN false) f g)) := T.cmp op_isN ad_isN hm ha hb
theorem T.notN (ha : E X B a f) (hb : E X B b g) (hm : behindInMarks .IsNot b = false := by rfl) : T X B (.Compare a [.IsNot] [b] pos) (bT (l2 (pIsN true) f g)) := T.cmp op_notN ad_notN hm ha hb
end
noncomputable def Itv (K : PySem.W.Frag) (a : Addr) (n : Nat) : It :=
  ⟨fun i H => i < n ∧ ∃ xs x, SqL K H a xs ∧ xs[n - 1 - i]? = some x, fun i H x H' => H' = H ∧ ∀ xs, SqL K H a xs → xs[n - 1 - i]? = some x, fun i _ => i = n⟩
theorem turn_rev {P : Program} {w : World} {K : PySem.W.Frag} {tg : Expr} (a it : Addr) (n : Nat) : Turn P w K tg (Itv K a n) [it] it (fun i h => h.IsRevIter it a ((n : Int) - 1 - (i : Nat))) where
  mem := by simp
  obj := fun i h st b hb => by
    have e : b = it := by simpa using hb
    subst e
    obtain ⟨o, e, c, d⟩ := st
    exact ⟨o, e, fun v z => by rw [d] at z; cases z⟩
  keep := fun i h h' st k => st.at fun o e => k it (by simp) o e
  item := by
    intro X hP hw hK hc i pins s σ H E I hf st hg
    subst hP hw hK
    obtain ⟨hi, xs, x, hq, hx⟩ := hg
    obtain ⟨its, rv, p, hz⟩ := I.list hq
    obtain ⟨u, hu, ru⟩ := rv.get hx
    obtain ⟨f0, f1, f2, f3, f4, f5⟩ := hf it (by simp)
    have ei : (n : Int) - 1 - (i : Nat) = ((n - 1 - i : Nat) : Int) := by omega
    rw [ei] at st
    refine wpAny_pyNext_rev_item st p.isList (x := u) (by simpa using hu) fun h' st' sb => ?_
    have I1 : Inv X pins σ H { s with heap := h' } := I.turned (t' := s.toks) (fun b o hb e => (sb.2 b hb).trans e) f0 f1 f3 f4 f5
    have st2 : h'.IsRevIter it a ((n : Int) - 1 - ((i + 1 : Nat) : Nat)) := by
      have e2 : ((n - 1 - i : Nat) : Int) - 1 = (n : Int) - 1 - ((i + 1 : Nat) : Nat) := by omega
      rw [← e2]; exact st'
    obtain ⟨o, e, c, d⟩ := id st'
    exact ⟨u, rfl, go_of (s := { s with heap := h' }) e c d (by decide) ⟨x, H, I1, ru, ⟨rfl, fun ys hy => by rw [I.list_inj hy hq]; exact hx⟩, st2, fun b hb => (hf b hb).1⟩⟩
  done := by
    intro X hP hw hK hc i pins s σ H E I hf st hg
    subst hP hw hK
    obtain ⟨f0, f1, f2, f3, f4, f5⟩ := hf it (by simp)
    have hg : i = n := hg
    have ei : (n : Int) - 1 - (i : Nat) = -1 := by omega
    rw [ei] at st
    exact wpAny_pyNext_rev_end (I.ok.hd hc) st fun h' eb => ⟨rfl, I.turned (t' := s.toks) (fun b o hb e => eb b o hb e) f0 f1 f3 f4 f5⟩
  self := fun _ _ _ _ _ st h => wpAny_pyIter_revIter st h
section
variable {X : Cx} {B : Bd} {a : Expr} {fs : En → Option (List PyData)} {pos pp : Pos}
noncomputable def rvS (ds : List PyData) : Option (List PyData) := match ds with
  | [.list xs] => some xs.reverse
  | _ => none
theorem itp_rev {K : PySem.W.Frag} {F : Hp} {p : Addr} {ds : List PyData} {xs : List V} (hq : SqL K F p xs) (rs : RelL K F ds xs) : ItP K (Itv K p ds.length) F ds.reverse := fun F1 H1 i s1 s2 => by
  refine ⟨fun d e => ?_, fun e => by show i = ds.length; rw [e, List.length_reverse]⟩
  have hi : i < ds.length := by
    have := (List.getElem?_eq_some_iff.mp e).1
    rwa [List.length_reverse] at this
  rw [List.getElem?_reverse hi] at e
  obtain ⟨x, hx, rx⟩ := rs.get e
  have hq1 : SqL K H1 p xs := s2.seq (s1.seq hq)
  refine ⟨⟨hi, xs, x, hq1, hx⟩, fun v H2 y => ?_⟩
  obtain ⟨rfl, y⟩ := y
  have := (y xs hq1).symm.trans hx
  cases this
  exact ⟨F1, .refl s2, rx.mono s1⟩
theorem I.rev {tg : Expr} (hc : X.calm = true) (hm : X.mg "reversed" = none) (ha : A X B [a] fs) (hg : Gl X "reversed" := by rfl) (hs : starEach [a] X.env = [(false, eval a X.env)] := by exact star_of rfl) :
    I X B tg (.Call (.Name "reversed" pp) [a] [] pos) (fun η => (fs η).bind rvS) := by
  intro pins s σ H R I ⟨F, η, ds, sr, hd, q⟩
  obtain ⟨es, h1, hd⟩ := bind_some hd
  unfold rvS at hd
  split at hd
  · rename_i x
    cases hd
    refine Call_ (ld_blt I hg hm (show bootBuiltins "reversed" = some (.type "reversed") by decide +kernel) (PyProof.Rows.callWith_type1 (thn (ha pos pins s σ H (fun vs H1 => ∃ F', Gr F H F' H1 ∧ RelL X.K F' [.list x] vs) I ⟨F, η, _, sr, h1, fun vs F' H' g r => ⟨F', g, r⟩⟩) fun us s1 ⟨vs, H1, I1, r1, F1, g1, rl⟩ => ?_) hs rfl))
    obtain ⟨y, r, rfl, ry, rr⟩ := rl.cons_of
    obtain rfl := rr.nil_of
    obtain ⟨u, rfl, ru⟩ := vals1 r1
    obtain ⟨p, xs, rfl, hq, rs⟩ := ry.lst
    cases ru
    obtain ⟨its, rv, pl, hz⟩ := I1.list (g1.fh.seq hq)
    refine call_reversed_list pl.isList ?_
    have hl : its.toArray.size = x.length := by
      have h1 := rv.length
      have h2 := rs.length
      rw [List.size_toArray]
      omega
    have st : (s1.heap.push (revObj p ((its.toArray.size : Int) - 1))).IsRevIter s1.heap.objs.size p ((x.length : Int) - 1 - ((0 : Nat) : Nat)) := by
      refine ⟨_, Heap.get?_push_size _ rfl, rfl, ?_⟩
      have e2 : (its.toArray.size : Int) - 1 = (x.length : Int) - 1 - ((0 : Nat) : Nat) := by rw [hl]; omega
      rw [← e2]; rfl
    refine wpAny_pyIter_revIter st ?_
    refine ⟨_, [s1.heap.objs.size], _, _, H1, rfl, I1.kept (t' := s1.toks) fun b o e => Heap.get?_push_of_some _ e, turn_rev p _ x.length, st, fun b hb => ?_, q _ F1 H1 g1 (itp_rev hq rs)⟩
    rw [List.mem_singleton.mp hb]
    exact I1.fpOk (Nat.le_refl _) (I1.hok.fresh (Nat.le_refl _))
  · cases hd
end
section
variable {X : Cx} {B : Bd} {a b e : Expr} {f g : En → Option PyData} {fs : En → Option (List PyData)} {pos : Pos}
noncomputable def eRep (fs : En → Option (List PyData)) (g : En → Option PyData) : En → Option PyData := fun η => (fs η).bind fun ds => (g η).bind fun y => (asI y).bind fun k =>
  if 0 ≤ k ∧ k < 1000 ∧ ds.length * k.toNat ≤ 1000 then some (.list (List.replicate k.toNat ds).flatten) else none
end
section
variable {X : Cx} {B : Bd} {e st : Expr} {f g : En → Option PyData} {pos p2 : Pos}
noncomputable def pRv (x y : PyData) : Option PyData := match x with
  | .list ds => (asI y).bind fun k => if k = -1 then some (.list ds.reverse) else none
  | _ => none
theorem pS_some {g : En → Option PyData} {η : En} {k : Int} (h : g η = some (.int k)) : pS g η = some (some k) := by
  unfold pS
  rw [h]; rfl
theorem E.slRev (he : E X B e f) (hs : E X B st g) (hsub : ∀ o i, subscripted (.Slice none none (some st) p2) false o i = operate [o, i] (getItem o i) := by intro _ _; with_unfolding_all rfl) : E X B (.Subscript e (.Slice none none (some st) p2) pos) (l2 pRv f g) := by
  intro pins s σ H Q I ⟨F, η, d, sr, hd, q⟩
  obtain ⟨x, hx, hd⟩ := bind_some hd
  obtain ⟨y, hy, hd2⟩ := bind_some hd
  unfold pRv at hd2
  split at hd2
  · rename_i ds
    obtain ⟨k, hk, hd3⟩ := bind_some hd2
    obtain rfl := asI_some hk
    split at hd3
    · rename_i hk1
      subst hk1
      cases hd3
      refine Subscript_ (thn (he pins s σ H (fun v H1 => ∃ F1, Gr F H F1 H1 ∧ Rel X.K F1 (.list ds) v) I ⟨F, η, _, sr, hx, fun v F1 H1 g1 r => ⟨F1, g1, r⟩⟩) fun v s1 ⟨x, H1, I1, r1, F1, g1, rx⟩ => ?_)
      refine wpAny_Slice ?_
      rw [evalPart_none]
      refine wpAny_pure (wpAny_pure ?_)
      refine thn ((P.some hs) pins s1 σ H1 (fun o H2 => ∃ F2, Gr F1 H1 F2 H2 ∧ o = some (-1)) I1 ⟨F1, η, some (-1), sr.grow g1, pS_some hy, fun F2 H2 g2 => ⟨F2, g2, rfl⟩⟩) fun vs s2 ⟨o, H2, I2, ps, F2, g2, eo⟩ => ?_
      subst eo
      have I4 : Inv X pins σ H2 { s2 with heap := s2.heap.push { cls := .type "slice", data := .fields #[.none, .none, vs] } } := I2.kept (t' := s2.toks) fun b ob q => Heap.get?_push_of_some _ q
      obtain ⟨a, xs, rfl, hq, rs⟩ := rx.lst
      cases r1
      obtain ⟨its, r, ht, hz⟩ := I4.list (g2.hh.seq (g1.fh.seq hq))
      have hlen := r.length
      show wpAny (model X.prog X.w) X.A (subscriptTail e (.Slice none none (some st) p2) (.ref a) (.ref s2.heap.objs.size)) (EP X pins σ Q) X.xe { s2 with heap := s2.heap.push { cls := .type "slice", data := .fields #[.none, .none, vs] } }
      refine tail_any (ops := [.ref a, .ref s2.heap.objs.size]) ht.isList.typeIs slot_list_getitem.lookup ?_ (hsub _ _)
      refine wpAny_getItem_list_slice ht.isList (Heap.IsSliceOf.new ..) .none .none ps (by decide) ?_ (by rw [List.size_toArray] <;> omega)
      rw [PySem.W.krv_pick, show its.toArray.toList.reverse = its.reverse by simp]
      have g3 : ∀ l, H2 l = none → Gr F2 H2 (upd F2 l (.lst xs.reverse)) (upd H2 l (.lst xs.reverse)) := fun l hl => Gr.one g2.fh hl
      refine ⟨.ref _, _, I4.laid (t' := s2.toks) (o := .lst xs.reverse) (fun b ob q => Heap.get?_push_of_some _ q) (Nat.le_refl _) ?_, rfl, q _ _ _ ((g1.trans g2).trans (g3 _ (I4.hok.fresh (Nat.le_refl _)))) (rel_lst (SqL.of upd_same) (rs.reverse.mono (g2.ff.trans (g3 _ (I4.hok.fresh (Nat.le_refl _))).ff)))⟩
      refine ⟨by rw [List.length_reverse]; exact hz, its.reverse, 0, ?_, Heap.get?_push_size _ rfl⟩
      exact r.reverse
    · cases hd3
  · cases hd2
end
section
variable {X : Cx} {B : Bd} {pos pp : Pos}
noncomputable def eLenO (i : Nat) : En → Option PyData := fun η => match η[i]? with
  | some (.own ds) => some (.int ds.length)
  | _ => none
end
noncomputable def keyOf : PyData → Option Key
  | .int i => some (.inl i)
  | .str x => some (.inr x)
  | _ => none
theorem keyOf_kD (k : Key) : keyOf (kD k) = some k := by cases k <;> rfl
theorem rel_key {K : PySem.W.Frag} {F : Hp} {d : PyData} {k : Key} {v : V} (h : keyOf d = some k) (r : Rel K F d v) : v = kV k := by
  cases d with
  | int i => cases h; rw [r.int]; rfl
  | str x => cases h; rw [r.str]; rfl
  | none => cases h
  | bool b => cases h
  | list ds => cases h
  | tuple ds => cases h
  | dict es => cases h
noncomputable def lookD (es : List (PyData × PyData)) (k : Key) : Option PyData := (es.find? fun e => decide (keyOf e.1 = some k)).map (·.2)
theorem lookD_pos {k : Key} {e : PyData} {es : List (PyData × PyData)} : lookD ((kD k, e) :: es) k = some e := by
  unfold lookD
  rw [List.find?_cons_of_pos (by simp [keyOf_kD])]; rfl
theorem lookD_neg {k k' : Key} {e : PyData} {es : List (PyData × PyData)} (h : ¬ k' = k) : lookD ((kD k', e) :: es) k = lookD es k := by
  unfold lookD
  rw [List.find?_cons_of_neg (by rw [keyOf_kD]; simp [h])]
theorem RelD.look {K : PySem.W.Frag} {F : Hp} : ∀ {es : List (PyData × PyData)} {ks : List (Key × V)}, RelD K F es ks → ∀ k, (∀ d, lookD es k = some d → ∃ x, valV ks k = some x ∧ Rel K F d x) ∧ (lookD es k = none → valV ks k = none)
  | [], ks, h, k => by
    rw [h.nil_of]
    exact ⟨fun d e => (by cases e), fun _ => rfl⟩
  | (d, e) :: es, ks, h, k => by
    obtain ⟨k', x, r, rfl, rfl, h3, h4⟩ := h.cons_of
    have ih := RelD.look h4 k
    by_cases hk : k' = k
    · subst hk
      rw [lookD_pos, valV_pos rfl]
      exact ⟨fun d q => (by cases q; exact ⟨x, rfl, h3⟩), fun q => (by cases q)⟩
    · rw [lookD_neg hk, valV_neg hk]
      exact ih
noncomputable def putP (kvs : List (Key × PyData)) (k : Key) (d : PyData) : List (Key × PyData) :=
  if (kvs.any fun kv => decide (kv.1 = k)) = true then kvs.map (fun kv => if kv.1 = k then (kv.1, d) else kv) else kvs ++ [(k, d)]
theorem kD_inj {a b : Key} (h : kD a = kD b) : a = b := by
  have := congrArg keyOf h
  rw [keyOf_kD, keyOf_kD] at this
  exact Option.some.inj this
section
variable {K : PySem.W.Frag} {F : Hp}
theorem RelD.any : ∀ {kvs : List (Key × PyData)} {ks : List (Key × V)}, RelD K F (prs kvs) ks → ∀ k, (kvs.any fun kv => decide (kv.1 = k)) = ks.any fun kv => decide (kv.1 = k)
  | [], ks, h, k => by rw [h.nil_of]; rfl
  | (k', d) :: kvs, ks, h, k => by
    obtain ⟨k2, x, r, rfl, e, h3, h4⟩ := RelD.cons_of (d := kD k') (e := d) (es := prs kvs) h
    have := kD_inj e
    subst this
    rw [List.any_cons, List.any_cons, RelD.any h4 k]
theorem RelD.length : ∀ {kvs : List (Key × PyData)} {ks : List (Key × V)}, RelD K F (prs kvs) ks → ks.length = kvs.length
  | [], ks, h => by rw [h.nil_of]; rfl
  | (k', d) :: kvs, ks, h => by
    obtain ⟨k2, x, r, rfl, e, h3, h4⟩ := RelD.cons_of (d := kD k') (e := d) (es := prs kvs) h
    rw [List.length_cons, List.length_cons, RelD.length h4]
theorem RelD.repl {k : Key} {d : PyData} {x : V} (hd : Rel K F d x) : ∀ {kvs : List (Key × PyData)} {ks : List (Key × V)}, RelD K F (prs kvs) ks → RelD K F (prs (kvs.map fun kv => if kv.1 = k then (kv.1, d) else kv)) (ks.map fun kv => if kv.1 = k then (kv.1, x) else kv)
  | [], ks, h => by rw [h.nil_of]; exact .nil
  | (k', d') :: kvs, ks, h => by
    obtain ⟨k2, x', r, rfl, e, h3, h4⟩ := RelD.cons_of (d := kD k') (e := d') (es := prs kvs) h
    have := kD_inj e
    subst this
    have ih := RelD.repl (k := k) hd h4
    rw [List.map_cons, List.map_cons]
    by_cases hk : k' = k
    · rw [if_pos hk, if_pos hk]
      exact RelD.cons hd ih
    · rw [if_neg hk, if_neg hk]
      exact RelD.cons h3 ih
theorem RelD.snoc {k : Key} {d : PyData} {x : V} (hd : Rel K F d x) : ∀ {kvs : List (Key × PyData)} {ks : List (Key × V)}, RelD K F (prs kvs) ks → RelD K F (prs (kvs ++ [(k, d)])) (ks ++ [(k, x)])
  | [], ks, h => by rw [h.nil_of]; exact RelD.cons hd .nil
  | (k', d') :: kvs, ks, h => by
    obtain ⟨k2, x', r, rfl, e, h3, h4⟩ := RelD.cons_of (d := kD k') (e := d') (es := prs kvs) h
    have := kD_inj e
    subst this
    exact RelD.cons h3 (RelD.snoc hd h4)
theorem RelD.put {k : Key} {d : PyData} {x : V} (hd : Rel K F d x) {kvs : List (Key × PyData)} {ks : List (Key × V)} (h : RelD K F (prs kvs) ks) : RelD K F (prs (putP kvs k d)) (putK ks k x) := by
  unfold putP putK
  rw [h.any k]
  split
  · exact RelD.repl hd h
  · exact RelD.snoc hd h
end
section
variable {X : Cx} {B : Bd} {o e e2 a b : Expr} {f g h : En → Option PyData} {pos pos' apos cpos npos : Pos}
noncomputable def pGet2 (x y z : PyData) : Option PyData := match x with
  | .dict es => (keyOf y).bind fun k => some ((lookD es k).getD z)
  | _ => none
noncomputable def eGet2 (f g h : En → Option PyData) : En → Option PyData := fun η => (f η).bind fun x => (g η).bind fun y => (h η).bind fun z => pGet2 x y z
theorem Room.one {k : Nat} {A : Around} (hr : Room k A) : A.units + 1 < cLine := by have := hr.units; omega
noncomputable def pInD (neg : Bool) (x y : PyData) : Option Bool := match y with
  | .dict es => (keyOf x).bind fun k => some (if neg then !(lookD es k).isSome else (lookD es k).isSome)
  | _ => none
noncomputable def tInD (neg : Bool) (f g : En → Option PyData) : En → Option Bool := fun η => (f η).bind fun x => (g η).bind fun y => pInD neg x y
noncomputable def sSetD (i : Nat) : En → Option Out := fun η => some (.nx (η.set i (.odc [])))
theorem S.setD (i : Nat) {x : Str} {dp : Pos} (hN : X.N.Nodup) (hi : X.N[i]? = some x := by rfl) (hx : Loc X.env.scope x := by first | exact Or.inl rfl | exact Or.inr rfl) (hs : swapsWith (.Dict [] [] dp) (some (.Name x pos')) pos.line X.env = pure false := by rfl)
    (hf : X.fn x = true ∨ X.env.scope.names.lookup x = some .local := by first | exact .inl rfl | exact .inr rfl) : S X B (.Assign [.Name x pos'] (.Dict [] [] dp) pos) (sSetD i) := PS.imp (ps_set hN hi hx pe_dnewK hs hf) fun D σ H ⟨F, η, o, sr, hd, q⟩ => by
  cases hd
  intro p hp
  have g1 : Gr F H F (upd H p (.dK [])) := ⟨.refl _, same_new hp _, sr.same.trans (same_new hp _), fun _ z => .inl z⟩
  exact q _ F _ ⟨sr.gr.trans g1, (sr.en.grow g1).setCell i rfl (sr.same.free hp) (sr.gr.hh.free hp) upd_same ⟨[], rfl, .nil⟩ fun j ej => sr.en.notown hp j ej⟩ (.refl _)
noncomputable def eGet2O (i : Nat) (g h : En → Option PyData) : En → Option PyData := fun η => match η[i]? with
  | some (.odc kvs) => (g η).bind fun y => (h η).bind fun z => (keyOf y).bind fun k => some ((lookD (prs kvs) k).getD z)
  | _ => none
theorem E.get2O {k : Nat} (i : Nat) (hr : Room k X.A) {x : Str} (he : E X B e g) (hf : E X B e2 h) (m : M2 X (.Name x npos) "get" apos e e2 cpos := by exact ⟨rfl, rfl, rfl, rfl⟩) (hN : X.N[i]? = some x := by rfl) (hv : Vis X.env.scope x := by first | exact Or.inl rfl | exact Or.inr (Or.inl rfl) | exact Or.inr (Or.inr rfl)) (hd : (x == ("__debug__" : Str)) = false := by decide) (hcd : (x == ("__classdict__" : Str)) = false := by decide) :
    E X B (.Call (.Attribute (.Name x npos) "get" apos) [e, e2] [] cpos) (eGet2O i g h) :=
  PE.imp (pe_dget2 (Room.one hr) (pe_var hN hv hd hcd) he hf m) fun σ H Q ⟨F, η, d, sr, hd, q⟩ => by
    unfold eGet2O at hd
    split at hd
    · rename_i kvs ed
      obtain ⟨y, hy, hd⟩ := bind_some hd
      obtain ⟨z, hz, hd⟩ := bind_some hd
      obtain ⟨k, hk, hd⟩ := bind_some hd
      cases hd
      obtain ⟨p, ks, e1, e2, e3, e4, e5⟩ := sr.en.odc i kvs ed
      refine ⟨_, e1, p, rfl, .inl ⟨ks, .inl e4⟩, F, η, y, sr, hy, fun vy F2 H2 g2 ry => ⟨F2, η, z, sr.grow g2, hz, fun vz F3 H3 g3 rz => ?_⟩⟩
      have := rel_key hk ry
      subst this
      refine ⟨_, DGet.k (g3.hh _ _ (g2.hh _ _ e4)), ?_⟩
      have lk := (e5.mono (g2.ff.trans g3.ff)).look k
      cases hl : lookD (prs kvs) k with
      | some d' =>
        obtain ⟨x', q1, q2⟩ := lk.1 d' hl
        rw [q1]
        rw [hl] at q
        exact q _ F3 H3 (g2.trans g3) q2
      | none =>
        rw [lk.2 hl]
        rw [hl] at q
        exact q _ F3 H3 (g2.trans g3) rz
    · cases hd
noncomputable def sPutD (i : Nat) (g h : En → Option PyData) : En → Option Out := fun η => (h η).bind fun d => (g η).bind fun y => (keyOf y).bind fun k => match η[i]? with
  | some (.odc kvs) => if kvs.length < sizeLine then some (.nx (η.set i (.odc (putP kvs k d)))) else none
  | _ => none
theorem S.putD {k : Nat} (i : Nat) (hr : Room k X.A) {x : Str} (he : E X B e g) (hf : E X B e2 h) (hs : swapsWith e2 (some (.Subscript (.Name x npos) e pos')) pos.line X.env = pure false := by rfl) (hN : X.N[i]? = some x := by rfl) (hv : Vis X.env.scope x := by first | exact Or.inl rfl | exact Or.inr (Or.inl rfl) | exact Or.inr (Or.inr rfl)) (hd : (x == ("__debug__" : Str)) = false := by decide) (hcd : (x == ("__classdict__" : Str)) = false := by decide) :
    S X B (.Assign [.Subscript (.Name x npos) e pos'] e2 pos) (sPutD i g h) :=
  PS.imp (ps_dput (Room.one hr) (pe_var hN hv hd hcd) he hf hs) fun D σ H ⟨F, η, o, sr, hd, q⟩ => by
    obtain ⟨d, h1, hd⟩ := bind_some hd
    obtain ⟨y, h2, hd⟩ := bind_some hd
    obtain ⟨k, hk, hd⟩ := bind_some hd
    split at hd
    · rename_i kvs ed
      split at hd
      · rename_i hz
        cases hd
        refine ⟨F, η, d, sr, h1, fun vd F1 H1 g1 rd => ?_⟩
        obtain ⟨p, ks, e1, e2, e3, e4, e5⟩ := (sr.grow g1).en.odc i kvs ed
        refine ⟨_, e1, F1, η, y, sr.grow g1, h2, fun vy F2 H2 g2 ry => ?_⟩
        have := rel_key hk ry
        subst this
        have sr2 := (sr.grow g1).grow g2
        have q4 : H2 p = some (.dK ks) := g2.hh _ _ e4
        have q5 := e5.mono g2.ff
        have q2 : F2 p = none := by
          obtain ⟨p', ks', f1, f2, _⟩ := sr2.en.odc i kvs ed
          rw [e1] at f1
          have ep : p = p' := by injection (Option.some.inj (Option.some.inj f1))
          rw [ep]; exact f2
        refine ⟨p, _, rfl, DPut.k q4 (by rw [q5.length]; exact hz), ?_⟩
        refine q σ F2 _ ⟨⟨sr2.gr.ff, fun c u z => ?_, fun c u z => ?_, sr2.gr.new⟩, sr2.en.putCell ed rfl rfl e1 ⟨_, rfl, RelD.put (rd.mono g2.ff) q5⟩⟩ (g1.ff.trans g2.ff)
        · have nb : c ≠ p := ne_of_none z e3
          rw [upd_ne nb]; exact sr2.gr.hh c u z
        · have nb : c ≠ p := ne_of_none z q2
          rw [upd_ne nb]; exact sr2.gr.fh c u z
      · cases hd
    · cases hd
end
section
variable {X : Cx}
open Classical in
noncomputable def eOf (h : Heap) (dx : PyData) (w : Value) : Bool := if q : ∃ d as, Reads h w d as ∧ d.canLay0 = true then PyData.eqv q.choose dx else false
noncomputable def lowD (d : PyData) : Bool := d.canLay0 && decide (d.depth ≤ 8)
noncomputable def rInS (K : PySem.W.Frag) (neg : Bool) : R2 := fun x y H Q => ∃ F dx ds p xs, Same F H ∧ Rel K F dx x ∧ y = .ref p ∧ SqL K H p xs ∧ RelL K F ds xs ∧ dx.canLay0 = true ∧ ds.all lowD = true ∧ Q (.bl (if neg then !(ds.any fun d => PyData.eqv d dx) else ds.any fun d => PyData.eqv d dx)) H
variable {B : Bd} {a : Expr} {f : En → Option PyData} {pos : Pos}
noncomputable def tInS (neg : Bool) (f : En → Option PyData) (i : Nat) : En → Option Bool := fun η => (f η).bind fun x => match η[i]? with
  | some (.own ds) => if x.canLay0 = true ∧ ds.all lowD = true then some (if neg then !(ds.any fun d => PyData.eqv d x) else ds.any fun d => PyData.eqv d x) else none
  | _ => none
end
section
variable {X : Cx} {B : Bd} {e : Expr} {f : En → Option PyData} {fs : En → Option (List PyData)} {p : En → Option Bool}
noncomputable def lendE (j : Nat) (f : En → Option PyData) : En → Option PyData := fun η => (f (frz j η)).bind fun d => if flatD d = true then some d else none
noncomputable def lendO (j : Nat) (f : En → Option (List PyData)) : En → Option (List PyData) := fun η => (f (frz j η)).bind fun ds => if ds.all flatD = true then some ds else none
noncomputable def lendT (j : Nat) (f : En → Option Bool) : En → Option Bool := fun η => f (frz j η)
end
section
variable {X : Cx} {B : Bd} {e o : Expr} {f g : En → Option PyData} {fs : En → Option (List PyData)} {pos pp rp rpos : Pos}
noncomputable def pAbs (ds : List PyData) : Option PyData := match ds with
  | [.int i] => some (.int (if i < 0 then -i else i))
  | _ => none
noncomputable def rRng : List V → Hp → VK → Prop := fun xs H Q => ∃ j : Int, xs = [.int j] ∧ ∀ l, H l = none → Q (.ref l) (upd H l (.rng 0 j))
noncomputable def intsV (n : Nat) : List V := (List.range n).map fun (k : Nat) => V.int (0 + (k : Int))
noncomputable def rLRng : List V → Hp → VK → Prop := fun xs H Q => ∃ (p : Addr) (j : Int), xs = [.ref p] ∧ H p = some (.rng 0 j) ∧ -(2 ^ 62) ≤ j ∧ j < 2 ^ 62 ∧ j.toNat ≤ 1000 ∧ ∀ l, H l = none → Q (.ref l) (upd H l (.lst (intsV j.toNat)))
end
end L2.PU
namespace L2.PU
open PySem PySem.Spec PyProof.Rows
noncomputable def Itd (p : Addr) (ob : Obj) (ks : List (Key × V)) : It :=
  ⟨fun i H => i < ks.length ∧ H p = some (.frz ob (.dK ks)), fun i H x H' => H' = H ∧ ∃ k v, ks[i]? = some (k, v) ∧ x = kV k, fun i H => i = ks.length ∧ H p = some (.frz ob (.dK ks))⟩
theorem key_rel {k : Key} {v : Value} (h : keyIs k v = true) : RelV (kV k) v := by
  rcases keyIs_shape h with ⟨i, t, rfl, rfl⟩ | ⟨x, t, rfl, rfl⟩
  · exact ⟨t, rfl⟩
  · exact ⟨t, rfl⟩
section
variable {X : Cx} {B : Bd} {pos npos : Pos} {tg : Expr}
noncomputable def iDict (i : Nat) : TI := fun σ H R => ∃ p ob ks, σ[i]? = some (some (.ref p)) ∧ H p = some (.frz ob (.dK ks)) ∧ R (Itd p ob ks) H
noncomputable def keysD (kvs : List (Key × PyData)) : List PyData := kvs.map fun e => kD e.1
noncomputable def sForD (i : Nat) (t : En → PyData → Option En) (body : En → Option Out) : En → Option Out := fun η => match η[i]? with
  | some (.odc kvs) => sGo t body (keysD kvs) (frz i η)
  | _ => none
end
end L2.PU
namespace L2.PU
open PySem PySem.Spec PyProof.Rows
section
variable {X : Cx} {B : Bd} {e o : Expr} {f g : En → Option PyData} {fs : En → Option (List PyData)} {pos pos' pp rp rpos : Pos}
noncomputable def lrS (ds : List PyData) : Option (List PyData) := match ds with
  | [.int j] => if -(2 ^ 62) ≤ j ∧ j < 2 ^ 62 ∧ j.toNat ≤ 1000 then some (rngL 0 j.toNat) else none
  | _ => none
noncomputable def pAtD (x y : PyData) : Option PyData := match x with
  | .dict es => (keyOf y).bind fun k => lookD es k
  | _ => none
end
section
variable {X : Cx} {B : Bd}
noncomputable abbrev PF := (En → Option PyData) × (En → Option PyData)
noncomputable def DP (X : Cx) (B : Bd) (pos : Pos) (keys : List (Option Expr)) (values : List Expr) (ps : List PF) : Prop := PPs X pos keys values (ps.map fun p => (tE X.K B p.1, tE X.K B p.2))
noncomputable def evP : List PF → En → Option (List (PyData × PyData))
  | [], _ => some []
  | (f, g) :: r, η => (f η).bind fun x => (g η).bind fun y => (evP r η).bind fun l => some ((x, y) :: l)
noncomputable def keysOf : List (PyData × PyData) → Option (List (Key × PyData))
  | [] => some []
  | (x, y) :: r => (keyOf x).bind fun k => (keysOf r).bind fun l => some ((k, y) :: l)
noncomputable def RelP (K : PySem.W.Frag) (F : Hp) : List (PyData × PyData) → List (V × V) → Prop
  | [], ps => ps = []
  | (x, y) :: r, ps => ∃ u v t, ps = (u, v) :: t ∧ Rel K F x u ∧ Rel K F y v ∧ RelP K F r t
noncomputable def mergeP (acc more : List (Key × PyData)) : List (Key × PyData) := more.foldl (fun acc kv => putP acc kv.1 kv.2) acc
noncomputable def sSetDL (i : Nat) (ps : List PF) : En → Option Out := fun η => (evP ps η).bind fun es => (keysOf es).bind fun kvs => if kvs.length ≤ 15 then some (.nx (η.set i (.odc (mergeP [] kvs)))) else none
end
end L2.PU
namespace L2.PU
open PySem PySem.Spec PyProof.Rows
noncomputable def Itel (K : PySem.W.Frag) (l : Addr) (n : Nat) : It :=
  ⟨fun i H => i < n ∧ ∃ xs x, SqL K H l xs ∧ xs.length = n ∧ xs[i]? = some x, fun i H v H' => ∃ T x, H T = none ∧ (∀ xs, SqL K H l xs → xs[i]? = some x) ∧ v = .ref T ∧ H' = upd H T (.tup [.int (i : Nat), x]), fun i H => i = n ∧ ∃ xs, SqL K H l xs ∧ xs.length = n⟩
section
variable {X : Cx} {B : Bd} {a : Expr} {fs : En → Option (List PyData)} {pos pp : Pos}
noncomputable def enL (ds : List PyData) : Option (List PyData) := match ds with
  | [.list xs] => some (enumD xs 0)
  | _ => none
end
end L2.PU
namespace L2.PU
open PySem PySem.Spec PyProof.Rows
section
variable {X : Cx} {B : Bd} {e : Expr} {f g : En → Option PyData} {fs : En → Option (List PyData)} {pos pp : Pos}
noncomputable def keysP (es : List (PyData × PyData)) : List PyData := es.map (·.1)
noncomputable def rListD : List V → Hp → VK → Prop := fun xs H Q => ∃ (p : Addr) (ks : List (Key × V)), xs = [.ref p] ∧ Rd H p (.dK ks) ∧ ∀ l, H l = none → Q (.ref l) (upd H l (.lst (ks.map fun kv => kV kv.1)))
noncomputable def pListD (ds : List PyData) : Option PyData := match ds with
  | [.dict es] => some (.list (keysP es))
  | _ => none
noncomputable def rSortDI : List V → Hp → VK → Prop := fun xs H Q => ∃ (p : Addr) (ks : List (Key × V)) (ns : List Int), xs = [.ref p] ∧ Rd H p (.dK ks) ∧ ks.map (·.1) = ns.map Sum.inl ∧ ns.length < 64 ∧ ∀ l, H l = none → Q (.ref l) (upd H l (.lst ((srtI ns).map V.int)))
noncomputable def pSortD (ds : List PyData) : Option PyData := match ds with
  | [.dict es] => (asIs (keysP es)).bind fun ns => if ns.length < 64 then some (.list ((srtI ns).map PyData.int)) else none
  | _ => none
noncomputable def delP (kvs : List (Key × PyData)) (k : Key) : List (Key × PyData) := kvs.filter fun kv => decide (kv.1 ≠ k)
noncomputable def sPopD (i : Nat) (g : En → Option PyData) : En → Option Out := fun η => (g η).bind fun y => (keyOf y).bind fun k => match η[i]? with
  | some (.odc kvs) => if (lookD (prs kvs) k).isSome = true then some (.nx (η.set i (.odc (delP kvs k)))) else none
  | _ => none
end
end L2.PU
namespace L2.PU
open PySem PySem.Spec PyProof.Rows
mutual
noncomputable def cst : Expr → Option PyData
  | .Constant (.int i) _ _ => some (.int i)
  | .Constant (.str x) _ _ => some (.str x)
  | .Constant (.bool b) _ _ => some (.bool b)
  | .Constant .none _ _ => some .none
  | .UnaryOp .USub a _ => (cst a).bind pNeg
  | .Tuple es _ _ => (csts es).bind fun ds => if ds.length ≤ 1000 then some (.tuple ds) else none
  | .List es _ => (csts es).bind fun ds => if ds.length ≤ 1000 then some (.list ds) else none
  | _ => none
noncomputable def csts : List Expr → Option (List PyData)
  | [] => some []
  | e :: r => (cst e).bind fun d => (csts r).bind fun ds => some (d :: ds)
end
theorem cst_nst {e : Expr} {d : PyData} (h : cst e = some d) : nst e = true := by
  cases e <;> first | rfl | (unfold cst at h; cases h)
section
variable {X : Cx} {B : Bd}
theorem big1000 {n : Nat} (h : n ≤ 1000) : n ≤ sizeLine := Nat.le_trans h (by show 1000 ≤ 2 ^ 24; decide)
theorem E.same {e : Expr} {f g : En → Option PyData} (h : E X B e f) (k : ∀ η, g η = f η) : E X B e g := by
  have : g = f := funext k
  rw [this]; exact h
theorem A.same {e : List Expr} {f g : En → Option (List PyData)} (h : A X B e f) (k : ∀ η, g η = f η) : A X B e g := by
  have : g = f := funext k
  rw [this]; exact h
mutual
theorem cst_ok : ∀ {e : Expr} {d : PyData}, cst e = some d → E X B e (eC d)
  | .Constant (.int i) _ _, d, h => by unfold cst at h; cases h; exact E.int
  | .Constant (.str x) _ _, d, h => by unfold cst at h; cases h; exact E.str
  | .Constant (.bool b) _ _, d, h => by unfold cst at h; cases h; exact E.bl
  | .Constant .none _ _, d, h => by unfold cst at h; cases h; exact E.non
  | .UnaryOp .USub a _, d, h => by
    unfold cst at h
    obtain ⟨x, h1, h2⟩ := bind_some h
    exact E.same (E.neg (cst_ok h1)) fun η => h2.symm
  | .Tuple es _ _, d, h => by
    unfold cst at h
    obtain ⟨ds, h1, h2⟩ := bind_some h
    split at h2
    · rename_i hl
      cases h2
      exact E.same (E.tup (csts_ok h1)) fun η => (if_pos (big1000 hl)).symm
    · cases h2
  | .List es _, d, h => by
    unfold cst at h
    obtain ⟨ds, h1, h2⟩ := bind_some h
    split at h2
    · rename_i hl
      cases h2
      refine E.same (EO.toE (EO.lst (csts_ok h1))) fun η => ?_
      show some (PyData.list ds) = ((gL ds).bind fun ds => some (PyData.list ds))
      unfold gL
      rw [if_pos (big1000 hl)]; rfl
    · cases h2
theorem csts_ok : ∀ {es : List Expr} {ds : List PyData}, csts es = some ds → A X B es (fun _ => some ds)
  | [], ds, h => by unfold csts at h; cases h; exact A.nil
  | e :: r, ds, h => by
    unfold csts at h
    obtain ⟨d, h1, h⟩ := bind_some h
    obtain ⟨ds', h2, h⟩ := bind_some h
    cases h
    exact A.same (A.cons (cst_ok h1) (csts_ok h2) (star_of (cst_nst h1))) fun η => rfl
end
theorem E.cst {e : Expr} {d : PyData} (h : PU.cst e = some d) : E X B e (eC d) := cst_ok h
end
end L2.PU
namespace L2.PU
open PySem PySem.Spec PyProof.Rows
noncomputable def Itz (K : PySem.W.Frag) (l1 l2 : Addr) (n : Nat) : It :=
  ⟨fun i H => i < n ∧ ∃ xs ys x y, SqL K H l1 xs ∧ SqL K H l2 ys ∧ min xs.length ys.length = n ∧ xs[i]? = some x ∧ ys[i]? = some y,
   fun i H v H' => ∃ T x y, H T = none ∧ (∀ xs, SqL K H l1 xs → xs[i]? = some x) ∧ (∀ ys, SqL K H l2 ys → ys[i]? = some y) ∧ v = .ref T ∧ H' = upd H T (.tup [x, y]),
   fun i H => i = n ∧ ∃ xs ys, SqL K H l1 xs ∧ SqL K H l2 ys ∧ min xs.length ys.length = n⟩
theorem turn_zip {P : Program} {w : World} {K : PySem.W.Frag} {elts : List Expr} {k : Nat} {tp : Pos} {z TI TO i1 i2 l1 l2 : Addr} {n : Nat} (D : ZipApart z TI TO i1 i2 l1 l2) :
    Turn P w K (.Tuple elts k tp) (Itz K l1 l2 n) [z, TI, TO, i1, i2] z (fun i h => IsZip h z TI TO .none ∧ IsPair h TI (.ref i1) (.ref i2) ∧ (∃ a b, IsPair h TO a b) ∧ h.IsListIter i1 l1 i ∧ h.IsListIter i2 l2 i) where
  mem := by simp
  obj := fun i h st b hb => by
    obtain ⟨hz, h1, ⟨a, c, h2⟩, h3, h4⟩ := st
    simp only [List.mem_cons, List.not_mem_nil, or_false] at hb
    rcases hb with rfl | rfl | rfl | rfl | rfl
    · exact ⟨_, hz, fun v z => by cases z⟩
    · exact ⟨_, h1, fun v z => by cases z⟩
    · exact ⟨_, h2, fun v z => by cases z⟩
    · obtain ⟨o, ho, hcl, hd⟩ := h3
      exact ⟨o, ho, fun v z => by rw [hd] at z; cases z⟩
    · obtain ⟨o, ho, hcl, hd⟩ := h4
      exact ⟨o, ho, fun v z => by rw [hd] at z; cases z⟩
  keep := fun i h h' st kk => by
    obtain ⟨hz, h1, ⟨a, c, h2⟩, h3, h4⟩ := st
    exact ⟨kk z (by simp) _ hz, kk TI (by simp) _ h1, ⟨a, c, kk TO (by simp) _ h2⟩, h3.at fun o q => kk i1 (by simp) o q, h4.at fun o q => kk i2 (by simp) o q⟩
  item := by
    intro X hP hw hK hc i pins s σ H E I hf st hg
    subst hP hw hK
    obtain ⟨hin, xs, ys, x, y, hq1, hq2, hxl, hx, hy⟩ := hg
    obtain ⟨its1, rv1, pl1, hz1⟩ := I.list hq1
    obtain ⟨its2, rv2, pl2, hz2⟩ := I.list hq2
    obtain ⟨u1, hu1, ru1⟩ := rv1.get hx
    obtain ⟨u2, hu2, ru2⟩ := rv2.get hy
    have hlen : min its1.toArray.size its2.toArray.size = n := by rw [List.size_toArray, List.size_toArray, ← rv1.length, ← rv2.length]; exact hxl
    have W := WalksT.zip2 (prog := X.prog) (w := X.w) (A := X.A) (I.ok.hd hc) z TI TO i1 i2 l1 l2 D its1.toArray its2.toArray
    obtain ⟨s1, s2, s3, s4, s5⟩ := st
    refine W.item i s _ _ (by rw [hlen]; exact hin) ⟨s1, s2, s3, s4, s5, pl1.isList, pl2.isList⟩ fun T vals h' tk Pt hT hIs Md kp => ⟨.ref T, rfl, ?_⟩
    refine W.go elts k tp i T _ _ _ Md fun h'' st'' kp'' => ?_
    obtain ⟨xv, yv, hxv, hyv, rfl⟩ := Pt
    have exu : xv = u1 := by
      have : its1.toArray[i]? = some u1 := by simpa using hu1
      rw [this] at hxv
      exact (Option.some.inj hxv).symm
    have eyu : yv = u2 := by
      have : its2.toArray[i]? = some u2 := by simpa using hu2
      rw [this] at hyv
      exact (Option.some.inj hyv).symm
    subst exu eyu
    have nT : H T = none := I.hok.fresh hT
    have aT0 : T ∉ [z, TO, i1, i2] := W.apart i T _ Md
    have ltT : ∀ b o, s.heap.get? b = some o → b ≠ T := fun b o q => Nat.ne_of_lt (Nat.lt_of_lt_of_le (Heap.lt_size q) hT)
    have aT : T ∉ [z, TI, TO, i1, i2] := fun hb => by
      simp only [List.mem_cons, List.not_mem_nil, or_false, not_or] at hb aT0
      rcases hb with e | e | e | e | e
      · exact aT0.1 e
      · exact ltT TI _ s2 e.symm
      · exact aT0.2.1 e
      · exact aT0.2.2.1 e
      · exact aT0.2.2.2 e
    have wr : ∀ b, b ∉ [z, TI, TO, i1, i2] → b ∉ [z, TO, i1, i2] := fun b hb hm => hb (by simp only [List.mem_cons, List.not_mem_nil, or_false] at hm ⊢; rcases hm with e | e | e | e <;> simp [e])
    have kall : ∀ b o, b ∉ [z, TI, TO, i1, i2] → s.heap.get? b = some o → h''.get? b = some o := fun b o hb q => kp'' b o (wr b hb) (kp b o (wr b hb) q)
    have hIs'' : IsTup h'' T #[xv, yv] := by
      obtain ⟨o, ho, hcl, n, hd⟩ := hIs
      exact ⟨o, kp'' T o aT0 ho, hcl, n, hd⟩
    have nfp : ∀ b o, H b = some o → b ∉ [z, TI, TO, i1, i2] := fun b o q hb => by rw [(hf b hb).1] at q; cases q
    have J : Inv X pins σ (upd H T (.tup [x, y])) { s with heap := h'', toks := tk } := by
      refine I.step (h' := h'') (g' := s.gens) (d' := s.drawn) (t' := tk) (ch := [z, TI, TO, i1, i2]) (fun b hb => ⟨(hf b hb).2.2.2.1, (hf b hb).2.1, (hf b hb).2.2.2.2.1, (hf b hb).2.2.2.2.2⟩)
        (fun b o _ _ hb q _ => kall b o hb q) (fun b o _ _ hb q _ => ⟨o.slots, kall b o hb q⟩) (fun b o _ q n => by rw [upd_ne (ltT b o q)]; exact n) (fun b o hb q => ⟨o, kall b o hb q⟩)
        (fun b xs q => by rw [upd_ne (ne_of_none q nT)]; exact q) (fun b o xs q => by rw [upd_ne (ne_of_none q nT)]; exact q) (fun b ps q => ⟨#[], by rw [upd_ne (ne_of_none q nT), q]; simp⟩) (fun m hm => ?_) (fun b o q => ?_) I.bare
      · obtain ⟨o, es, ep, ho, r⟩ := hm
        refine ⟨o, es, ep, kall _ o (fun hb => ?_) ho, r⟩
        exact (hf _ hb).2.1 rfl
      · by_cases hb : b = T
        · subst hb
          rw [upd_same] at q
          cases q
          exact ⟨by show 2 ≤ sizeLine; decide, [xv, yv], .cons ru1 (.cons ru2 .nil), hIs''⟩
        · rw [upd_ne hb] at q
          refine (I.hok b o q).stay (fun c' v hc' z => kall c' v ?_ z) (fun c' z => by rw [upd_ne (ne_of_none z nT)]; exact z) fun c' xs z => by rw [upd_ne (ne_of_none z nT)]; exact z
          rcases hc' with rfl | hc'
          · exact nfp _ _ q
          · exact nfp _ _ hc'
    refine ⟨.ref T, upd H T (.tup [x, y]), J, rfl, ⟨T, x, y, nT, fun zs hz => by rw [I.list_inj hz hq1]; exact hx, fun zs hz => by rw [I.list_inj hz hq2]; exact hy, rfl, rfl⟩, ⟨st''.1, st''.2.1, st''.2.2.1, st''.2.2.2.1, st''.2.2.2.2.1⟩, fun b hb => ?_⟩
    have nb : b ≠ T := fun z => aT (by rw [← z]; exact hb)
    rw [upd_ne nb]; exact (hf b hb).1
  done := by
    intro X hP hw hK hc i pins s σ H E I hf st hg
    subst hP hw hK
    obtain ⟨hin, xs, ys, hq1, hq2, hxl⟩ := hg
    obtain ⟨its1, rv1, pl1, hz1⟩ := I.list hq1
    obtain ⟨its2, rv2, pl2, hz2⟩ := I.list hq2
    have hlen : min its1.toArray.size its2.toArray.size = n := by rw [List.size_toArray, List.size_toArray, ← rv1.length, ← rv2.length]; exact hxl
    have W := WalksT.zip2 (prog := X.prog) (w := X.w) (A := X.A) (I.ok.hd hc) z TI TO i1 i2 l1 l2 D its1.toArray its2.toArray
    rw [hin, ← hlen] at st
    obtain ⟨s1, s2, s3, s4, s5⟩ := st
    have wr : ∀ b, b ∉ [z, TI, TO, i1, i2] → b ∉ [z, TO, i1, i2] := fun b hb hm => hb (by simp only [List.mem_cons, List.not_mem_nil, or_false] at hm ⊢; rcases hm with e | e | e | e <;> simp [e])
    refine W.done s _ _ ⟨s1, s2, s3, s4, s5, pl1.isList, pl2.isList⟩ fun h' tk kp => ⟨rfl, ?_⟩
    have nfp : ∀ b o, H b = some o → b ∉ [z, TI, TO, i1, i2] := fun b o q hb => by rw [(hf b hb).1] at q; cases q
    refine I.step (h' := h') (g' := s.gens) (d' := s.drawn) (t' := tk) (ch := [z, TI, TO, i1, i2]) (fun b hb => ⟨(hf b hb).2.2.2.1, (hf b hb).2.1, (hf b hb).2.2.2.2.1, (hf b hb).2.2.2.2.2⟩)
      (fun b o _ _ hb q _ => kp b o (wr b hb) q) (fun b o _ _ hb q _ => ⟨o.slots, kp b o (wr b hb) q⟩) (fun _ _ _ _ n => n) (fun b o hb q => ⟨o, kp b o (wr b hb) q⟩)
      (fun _ _ q => q) (fun _ _ _ q => q) (fun b ps q => ⟨#[], by rw [q]; simp⟩) (fun m hm => ?_) (fun b o q => ?_) I.bare
    · obtain ⟨o, es, ep, ho, r⟩ := hm
      exact ⟨o, es, ep, kp _ o (wr _ fun hb => (hf _ hb).2.1 rfl) ho, r⟩
    · refine (I.hok b o q).stay (fun c' v hc' z => kp c' v (wr _ ?_) z) (fun _ z => z) fun _ _ z => z
      rcases hc' with rfl | hc'
      · exact nfp _ _ q
      · exact nfp _ _ hc'
  self := fun A i s Q E st h => wpAny_pyIter_zip st.1 h
section
variable {X : Cx} {B : Bd} {a b : Expr} {fs : En → Option (List PyData)} {pos pp : Pos}
noncomputable def zpD : List PyData → List PyData → List PyData
  | x :: xs, y :: ys => .tuple [x, y] :: zpD xs ys
  | _, _ => []
noncomputable def zpL (ds : List PyData) : Option (List PyData) := match ds with
  | [.list xs, .list ys] => some (zpD xs ys)
  | _ => none
theorem zpD_len : ∀ xs ys : List PyData, (zpD xs ys).length = min xs.length ys.length
  | [], ys => by simp [zpD]
  | x :: xs, [] => by simp [zpD]
  | x :: xs, y :: ys => by rw [zpD, List.length_cons, zpD_len xs ys, List.length_cons, List.length_cons]; omega
theorem zpD_get : ∀ (xs ys : List PyData) (i : Nat) (d : PyData), (zpD xs ys)[i]? = some d → ∃ x y, xs[i]? = some x ∧ ys[i]? = some y ∧ d = .tuple [x, y]
  | [], ys, i, d, h => by simp [zpD] at h
  | x :: xs, [], i, d, h => by simp [zpD] at h
  | x :: xs, y :: ys, 0, d, h => by simp [zpD] at h; exact ⟨x, y, rfl, rfl, h.symm⟩
  | x :: xs, y :: ys, i + 1, d, h => by
    rw [zpD, List.getElem?_cons_succ] at h
    obtain ⟨a, b, h1, h2, h3⟩ := zpD_get xs ys i d h
    exact ⟨a, b, by simpa using h1, by simpa using h2, h3⟩
theorem itp_zip {K : PySem.W.Frag} {F : Hp} {l1 l2 : Addr} {ds es : List PyData} {xs ys : List V} (hq1 : SqL K F l1 xs) (hq2 : SqL K F l2 ys) (r1 : RelL K F ds xs) (r2 : RelL K F es ys) : ItP K (Itz K l1 l2 (min ds.length es.length)) F (zpD ds es) := fun F1 H1 i s1 s2 => by
  have q1 : SqL K H1 l1 xs := s2.seq (s1.seq hq1)
  have q2 : SqL K H1 l2 ys := s2.seq (s1.seq hq2)
  have hl : min xs.length ys.length = min ds.length es.length := by rw [r1.length, r2.length]
  refine ⟨fun d e => ?_, fun e => ⟨by rw [e, zpD_len], xs, ys, q1, q2, hl⟩⟩
  have hi : i < min ds.length es.length := by
    have := (List.getElem?_eq_some_iff.mp e).1
    rwa [zpD_len] at this
  obtain ⟨x, y, h1, h2, h3⟩ := zpD_get _ _ _ _ e
  obtain ⟨vx, hx, rx⟩ := r1.get h1
  obtain ⟨vy, hy, ry⟩ := r2.get h2
  refine ⟨⟨hi, xs, ys, vx, vy, q1, q2, hl, hx, hy⟩, fun v H2 z => ?_⟩
  obtain ⟨T, x', y', hT, hxx, hyy, rfl, rfl⟩ := z
  have e1 := (hxx xs q1).symm.trans hx
  have e2 := (hyy ys q2).symm.trans hy
  cases e1
  cases e2
  subst h3
  have g := Gr.one (o := .tup [vx, vy]) s2 hT
  exact ⟨_, g, rel_tup (SqT.of upd_same) (.cons (rx.mono (s1.trans g.ff)) (.cons (ry.mono (s1.trans g.ff)) .nil))⟩
end
section
variable {X : Cx} {B : Bd} {a b : Expr} {fs : En → Option (List PyData)} {pos pp : Pos}
theorem I.zip {elts : List Expr} {k : Nat} {tp : Pos} (hm : X.mg "zip" = none) (ha : A X B [a, b] fs) (hg : Gl X "zip" := by rfl) (hs : starEach [a, b] X.env = (false, eval a X.env) :: starEach [b] X.env := by exact star_of rfl) (hpl : (backTo pos (starEach [b] X.env)).any (·.1) = false := by exact plain_of rfl) :
    I X B (.Tuple elts k tp) (.Call (.Name "zip" pp) [a, b] [] pos) (fun η => (fs η).bind zpL) := by
  intro pins s σ H R I ⟨F, η, ds, sr, hd, q⟩
  obtain ⟨es, h1, hd⟩ := bind_some hd
  unfold zpL at hd
  split at hd
  · rename_i x y
    cases hd
    refine Call_ (ld_blt I hg hm boot_zip (PyProof.Rows.callWith_type1 (thn (ha pos pins s σ H (fun vs H1 => ∃ F', Gr F H F' H1 ∧ RelL X.K F' [.list x, .list y] vs) I ⟨F, η, _, sr, h1, fun vs F' H' g r => ⟨F', g, r⟩⟩) fun us s1 ⟨vs, H1, I1, r1, F1, g1, rl⟩ => ?_) hs hpl))
    obtain ⟨v1, r, rfl, ry1, rr⟩ := rl.cons_of
    obtain ⟨v2, r', rfl, ry2, rr⟩ := rr.cons_of
    obtain rfl := rr.nil_of
    obtain ⟨p1, xs, rfl, hq1, rs1⟩ := ry1.lst
    obtain ⟨p2, ys, rfl, hq2, rs2⟩ := ry2.lst
    obtain ⟨u1, u2, rfl, ru1, ru2⟩ := vals2 r1
    cases ru1
    cases ru2
    obtain ⟨its1, rv1, pl1, hz1⟩ := I1.list (g1.fh.seq hq1)
    obtain ⟨its2, rv2, pl2, hz2⟩ := I1.list (g1.fh.seq hq2)
    have hpl1 : p1 < s1.heap.objs.size := by
      obtain ⟨o, ho, _⟩ := pl1.isList
      exact Heap.lt_size ho
    have hpl2 : p2 < s1.heap.objs.size := by
      obtain ⟨o, ho, _⟩ := pl2.isList
      exact Heap.lt_size ho
    refine call_zip_2 pl1.isList pl2.isList fun h' hz hTI hTO hi1 hi2 hsz hk => ?_
    refine wpAny_pyIter_zip hz ?_
    have I2 : Inv X pins σ H1 { s1 with heap := h' } := I1.kept (t' := s1.toks) hk
    have nw : ∀ b, s1.heap.objs.size ≤ b → FpOk X pins H1 b := fun b hb => I1.fpOk hb (I1.hok.fresh hb)
    have fpo : ∀ b ∈ [s1.heap.objs.size + 4, s1.heap.objs.size + 2, s1.heap.objs.size + 3, s1.heap.objs.size, s1.heap.objs.size + 1], FpOk X pins H1 b := fun b hb => nw b (by
      simp only [List.mem_cons, List.not_mem_nil, or_false] at hb
      rcases hb with rfl | rfl | rfl | rfl | rfl <;> omega)
    exact ⟨_, _, _, _, H1, rfl, I2, turn_zip (n := min x.length y.length) (zipApart_new hpl1 hpl2), ⟨hz, hTI, ⟨_, _, hTO⟩, hi1, hi2⟩, fpo, q _ F1 H1 g1 (itp_zip hq1 hq2 rs1 rs2)⟩
  · cases hd
end
section
variable {X : Cx} {B : Bd} {e : Expr} {fs : En → Option (List PyData)} {pos pp : Pos}
noncomputable def rListL (K : PySem.W.Frag) : List V → Hp → VK → Prop := fun xs H Q => ∃ (p : Addr) (ys : List V), xs = [.ref p] ∧ SqL K H p ys ∧ ∀ l, H l = none → Q (.ref l) (upd H l (.lst ys))
noncomputable def pListL (ds : List PyData) : Option PyData := match ds with
  | [.list xs] => some (.list xs)
  | _ => none
noncomputable def sBk : En → Option Out := fun η => some (.bk η)
end
end L2.PU
namespace L2.PU
open PySem PySem.Spec PyProof.Rows
section
variable {X : Cx} {pos pp ep tp : Pos} {en T : Str}
noncomputable def rCnt (K : PySem.W.Frag) : V → List V → Hp → VK → Prop := fun x vs H Q => ∃ l xs y, x = .ref l ∧ vs = [y] ∧ SqL K H l xs ∧ flatV y = true ∧ xs.all flatV = true ∧ Q (.int ((xs.countP fun z => eqV z y) : Nat)) H
theorem mt_cnt : MtM X "list.count" (rCnt X.K) := by
  intro pins s σ H x vs v us Q I rx rv h
  obtain ⟨l, xs, y, rfl, rfl, hq, fy, fxs, q⟩ := h
  cases rx
  obtain ⟨u, rfl, ru⟩ := rv.one
  obtain ⟨its, r, ⟨⟨c2, d2, t2, sl2⟩, n2, e2, ec2, ed2, es2⟩, z2⟩ := I.list hq
  simp only at ec2 ed2 es2
  subst ec2 ed2 es2
  have hc : ∀ {xs : List V} {its : List Value}, Vals xs its → xs.all flatV = true → its.countP (eqU y) = xs.countP fun z => eqV z y := fun {xs its} r => by
    induction r with
    | nil => exact fun _ => rfl
    | cons r1 _ ih =>
      intro f
      rw [List.all_cons, Bool.and_eq_true] at f
      rw [List.countP_cons, List.countP_cons, ih f.2, eqU_of r1 f.1]
  refine call_meets F.slot_list_count ⟨_, e2, rfl⟩ F.entry_list_count (F.args_list_count_2 _ _) (SeqAt.list_countAt l its.toArray n2 none sl2 u (eqU y)) ⟨e2, fun w hw => mem_eqAt ru fy r fxs w (by simpa using hw), ?_⟩
  show EP X pins σ Q (.int ((its.countP (eqU y) : Nat) : Int) s.toks) _
  rw [hc r fxs]
  exact ⟨.int ((xs.countP fun z => eqV z y) : Nat), H, I.tok _, ⟨_, rfl⟩, q⟩
end
end L2.PU
namespace L2.PU
open PySem PySem.Spec PyProof.Rows
section
variable {X : Cx} {B : Bd} {e : Expr} {fs : En → Option (List PyData)} {p1 p2 q1 q2 : Pos}
noncomputable def pLenSet (ds : List PyData) : Option PyData := match ds with
  | [.list xs] => if xs.length + 1 < 4096 then (asIs xs).bind fun ns => some (.int ((ns.foldl step_dedup []).length : Nat)) else none
  | _ => none
end
end L2.PU
namespace L2.PU
open PySem PySem.Spec PyProof.Rows
section
variable {prog : Program} {w : World} {K : Type} [DecidableEq K] {knd : KeyKind prog w K} {kf : Value → K} {J : SetTable → Nat → Prop}
variable {A : Around} {E : Value → Shared → Prop} {s : Shared}
noncomputable def SetJ (knd : KeyKind prog w K) (kf : Value → K) (J : SetTable → Nat → Prop) (h : Heap) (a : Addr) (σ : List K) : Prop :=
  ∃ o es ep t, h.get? a = some o ∧ o.ExactSet ∧ o.data = .set es ep t ∧ ElemsOf knd es.toList ∧ (es.toList.map fun e => kf e.2).Perm σ ∧ es.size < scanBound ∧ t.fits es.size = true ∧ J t es.size
noncomputable def tbl2 (t : SetTable) (es : Array (Int × Value)) (h : Int) (x : Value) : SetTable :=
  if (if (layNew t es h x).2.1.plain then plainKind x else true) then (layNew t es h x).2.1 else { (layNew t es h x).2.1 with plain := false }
structure Jok (J : SetTable → Nat → Prop) (Px : Value → Prop) : Prop where
  new : ∀ t es h x, Px x → t.fits es.size = true → J t es.size → J (tbl2 t es h x) (es.size + 1)
  rel : ∀ t es m, t.fits es.size = true → J t es.size → J (relayAll t es m).2.1 es.size
noncomputable def sd [BEq K] (σ : List K) (k : K) : List K := if σ.any (· == k) then σ else σ ++ [k]
theorem addTailJ {g : Bool → Sem Unit} (hg : ∀ (b : Bool) (s₁ : Shared) (Q' : Unit → Shared → Prop), Q' () s₁ → wpAny (model prog w) A (g b) Q' E s₁) {Px : Value → Prop} (jo : Jok J Px)
    {a : Addr} {o : Obj} {es : Array (Int × Value)} {ep : Nat} {t : SetTable} (ho : s.heap.get? a = some o) (hex : o.ExactSet) (hd : o.data = .set es ep t)
    {es1 : Array (Int × Value)} {t2 : SetTable} {σ : List K} (hel1 : ElemsOf knd es1.toList) (hp1 : (es1.toList.map fun e => kf e.2).Perm σ)
    (hb1 : es1.size < scanBound) (hf2 : t2.fits es1.size = true) (hj : J t2 es1.size) {wasDummy : Bool} {R : Option Bool → Shared → Prop}
    (h : ∀ h', Heap.SameBut a s.heap h' → SetJ knd kf J h' a σ → R (some true) { s with heap := h' }) :
    wpAny (model prog w) A (do
        storeSet a es1 t2
        if (!wasDummy && t2.tooFull) = true then do
            g (relayAll t2 es1 (SetTable.grown es1.size)).2.2
            storeSet a (relayAll t2 es1 (SetTable.grown es1.size)).1 (relayAll t2 es1 (SetTable.grown es1.size)).2.1
            pure (some true)
          else pure (some true)) R E s := by
  refine wpAny_bind (wpAny_storeSet_of ho hd ?_ (fits_of_scanBound hb1))
  have ho1 : (s.heap.update a (Obj.putSet es1 t2)).get? a = some { o with data := .set es1 (ep + 1) t2 } := by
    have := Heap.get?_update_self (Obj.putSet es1 t2) ho (by rw [putSet_of es1 t2 hd]; rfl)
    rw [putSet_of es1 t2 hd] at this; exact this
  have hsb1 := Heap.SameBut.update s.heap a (Obj.putSet es1 t2)
  split
  · have hp := relayAll_perm t2 es1 (SetTable.grown es1.size)
    have hfr := relayAll_fits t2 es1 (SetTable.grown es1.size)
    have hjr := jo.rel t2 es1 (SetTable.grown es1.size) hf2 hj
    generalize hRl : relayAll t2 es1 (SetTable.grown es1.size) = Rl at hp hfr hjr ⊢
    obtain ⟨es2, t3, gave2⟩ := Rl
    dsimp only at hp hfr hjr ⊢
    have hsz : es2.size = es1.size := by rw [← Array.length_toList, hp.length_eq, Array.length_toList]
    have hb2 : es2.size < scanBound := by rw [hsz]; exact hb1
    refine wpAny_bind (hg _ _ _ ?_)
    refine wpAny_bind (wpAny_storeSet_of ho1 rfl ?_ (fits_of_scanBound hb2))
    have ho2 : ((s.heap.update a (Obj.putSet es1 t2)).update a (Obj.putSet es2 t3)).get? a = some { o with data := .set es2 (ep + 1 + 1) t3 } := by
      have := Heap.get?_update_self (Obj.putSet es2 t3) ho1 (by rw [putSet_of es2 t3 rfl]; rfl)
      rw [putSet_of es2 t3 rfl] at this; exact this
    exact wpAny_pure (h _ (hsb1.trans (Heap.SameBut.update _ a _)) ⟨_, es2, _, t3, ho2, hex, rfl, hel1.perm hp, (hp.map _).trans hp1, hb2, hfr, by rw [hsz]; exact hjr⟩)
  · exact wpAny_pure (h _ hsb1 ⟨_, es1, _, t2, ho1, hex, rfl, hel1, hp1, hb1, hf2, hj⟩)
theorem setAddJ [BEq K] [LawfulBEq K] (hkf : ∀ k v, knd.is k v = true → kf v = k) {Px : Value → Prop} (jo : Jok J Px) {a : Addr} {σ : List K} {k : K} {x : Value} {Q : Bool → Shared → Prop} (hkey : knd.is k x = true) (hsc : x.scannable = true) (hpx : Px x) (hS : SetJ knd kf J s.heap a σ)
    (hroom : σ.length + 1 < scanBound)
    (h : ∀ h' b, Heap.SameBut a s.heap h' → SetJ knd kf J h' a (sd σ k) → Q b { s with heap := h' }) :
    wpAny (model prog w) A (setAddHashed a x (knd.hash k)) Q E s := by
  obtain ⟨o, es, ep, t, ho, hex, hd, hel, hpm, hb, hf, hj⟩ := hS
  have hlen : es.size = σ.length := by rw [← hpm.length_eq, List.length_map, Array.length_toList]
  have hb1 : es.size + 1 < scanBound := by rw [hlen]; exact hroom
  have hin : ∀ k', k' ∈ σ ↔ ∃ e ∈ es.toList, knd.is k' e.2 = true := fun k' => by
    rw [← hpm.mem_iff, List.mem_map]
    constructor
    · rintro ⟨e, he, z⟩
      obtain ⟨⟨k2, h2, _⟩, _⟩ := hel e he
      refine ⟨e, he, ?_⟩
      rw [← z, hkf k2 e.2 h2]; exact h2
    · rintro ⟨e, he, z⟩
      exact ⟨e, he, hkf k' e.2 z⟩
  unfold setAddHashed setAddHashedIn
  refine wpAny_holding (wpAny_bind (wpAny_setState_of ho hd hf ?_))
  dsimp only
  rw [byScan_of hsc hb hel]
  simp only [↓reduceIte]
  unfold setAddByScan
  refine wpAny_bind ?_
  refine wpAny_bind (wpAny_rule ?_)
  refine wpAny_bind (wpAny_setScan_of hkey ho hd hf hel ?_)
  cases hr : List.findIdx? (fun e => knd.is k e.2) es.toList with
  | some j =>
    dsimp only
    obtain ⟨hjj, hpj, _⟩ := List.findIdx?_eq_some_iff_getElem.mp hr
    have hk : k ∈ σ := (hin k).mpr ⟨es.toList[j], List.getElem_mem hjj, hpj⟩
    have hsd : sd σ k = σ := if_pos (List.any_eq_true.mpr ⟨k, hk, by simp⟩)
    refine wpAny_pure (wpAny_pure ?_)
    have e : s = { s with heap := s.heap } := by cases s; rfl
    rw [e]
    exact h s.heap _ (Heap.SameBut.refl a s.heap) ⟨o, es, ep, t, ho, hex, hd, hel, by rw [hsd]; exact hpm, hb, hf, hj⟩
  | none =>
    dsimp only
    have hk : k ∉ σ := fun z => by
      obtain ⟨e, he, hp⟩ := (hin k).mp z
      have := List.findIdx?_eq_none_iff.mp hr e he
      rw [hp] at this; exact Bool.noConfusion this
    have hsd : sd σ k = σ ++ [k] := if_neg (fun z => by
      obtain ⟨y, hy, e⟩ := List.any_eq_true.mp z
      exact hk (by rw [← eq_of_beq e]; exact hy))
    rw [hsd] at h
    have hgw : ∀ (b : Bool) {s₁ : Shared} {Q' : Unit → Shared → Prop}, Q' () s₁ → wpAny (model prog w) A (match b with | true => rule "set.scan.the-table-gave-way" | false => pure ()) Q' E s₁ :=
      fun b s₁ Q' hq => by cases b <;> first | exact wpAny_pure hq | exact wpAny_rule hq
    have hjn := jo.new t es (knd.hash k) x hpx hf hj
    unfold tbl2 at hjn
    have hperm := layNew_perm t es (knd.hash k) x
    have hfits := layNew_fits t es (knd.hash k) x
    generalize hL : layNew t es (knd.hash k) x = L at hperm hfits hjn ⊢
    obtain ⟨es1, t1, wasDummy, gave⟩ := L
    dsimp only at hperm hfits hjn ⊢
    rw [Array.toList_push] at hperm
    have hel1 : ElemsOf knd es1.toList := (hel.push hkey hsc).perm hperm
    have hp1 : (es1.toList.map fun e => kf e.2).Perm (σ ++ [k]) := by
      refine (hperm.map _).trans ?_
      rw [List.map_append]
      refine List.Perm.append hpm ?_
      show [kf x].Perm [k]
      rw [hkf k x hkey]
    have hsz1 : es1.size = es.size + 1 := by rw [← Array.length_toList, hperm.length_eq, List.length_append, Array.length_toList]; rfl
    have hb1' : es1.size < scanBound := by rw [hsz1]; exact hb1
    rw [← hsz1] at hjn
    refine wpAny_bind (hgw _ ?_)
    split
    · rename_i hpl
      rw [hpl] at hjn
      refine wpAny_bind ?_
      rw [hashByValue_scannable 8 hsc]
      refine wpAny_pure ?_
      refine addTailJ ?_ jo ho hex hd hel1 hp1 hb1' ?_ ?_ ?_
      · intro b s₁ Q' hq; cases b <;> first | exact wpAny_pure hq | exact wpAny_rule hq
      · split
        · exact hfits
        · exact SetTable.fits_plain_off hfits
      · simpa using hjn
      · intro h' hsb hS'; dsimp only; exact wpAny_pure (h h' _ hsb hS')
    · rename_i hpl
      rw [if_neg hpl, if_pos rfl] at hjn
      refine wpAny_bind (wpAny_pure ?_)
      simp only [↓reduceIte]
      refine addTailJ ?_ jo ho hex hd hel1 hp1 hb1' hfits hjn ?_
      · intro b s₁ Q' hq; cases b <;> first | exact wpAny_pure hq | exact wpAny_rule hq
      · intro h' hsb hS'; dsimp only; exact wpAny_pure (h h' _ hsb hS')
end
end L2.PU
namespace L2.PU
open PySem PySem.Spec PyProof.Rows
theorem ors_led (t : SetTable) (n : Nat) : (t.orStandIn n).led = t.led ∧ (t.plain = false → (t.orStandIn n).plain = false) := by
  unfold SetTable.orStandIn
  split
  · exact ⟨rfl, fun h => h⟩
  · exact ⟨rfl, fun _ => rfl⟩
theorem new_led (t : SetTable) (es : Array (Int × Value)) (h : Int) (x : Value) : (layNew t es h x).2.1.led = t.led ∧ (t.plain = false → (layNew t es h x).2.1.plain = false) := by
  unfold layNew
  split
  · obtain ⟨h1, h2⟩ := ors_led (t.put ‹_›).1 (SetTable.insertAt es (t.put ‹_›).2 (h, x)).size
    exact ⟨h1, fun z => h2 z⟩
  · exact ⟨rfl, fun _ => rfl⟩
theorem laid_led {mask finger moves : Nat} {led plain : Bool} {hs : Array Int} {t : SetTable} {o : Array Nat} (h : SetTable.laid mask finger moves led plain hs = some (t, o)) : t.led = led ∧ t.plain = plain := by
  unfold SetTable.laid at h
  cases hl : SetTable.layClean mask hs with
  | none => rw [hl] at h; cases h
  | some ow =>
    rw [hl] at h
    injection h with h
    injection h with h1 _
    rw [← h1]
    exact ⟨rfl, rfl⟩
theorem rel_led (t : SetTable) (es : Array (Int × Value)) (m : Nat) : (relayAll t es m).2.1.led = t.led ∧ (t.plain = false → (relayAll t es m).2.1.plain = false) := by
  unfold relayAll
  split
  · rename_i t' order e
    obtain ⟨h1, h2⟩ := laid_led e
    dsimp only
    split
    · exact ⟨h1, fun z => h2.trans z⟩
    · exact ⟨rfl, fun _ => rfl⟩
  · exact ⟨rfl, fun _ => rfl⟩
noncomputable def Js (b : Bool) (t : SetTable) (n : Nat) : Prop := t.led = b ∧ (n = 0 ∨ t.plain = false)
theorem js_ok (b : Bool) : Jok (Js b) (fun x => plainKind x = false) where
  new := fun t es h x px _ ⟨j1, _⟩ => by
    obtain ⟨n1, n2⟩ := new_led t es h x
    unfold tbl2
    cases hp : (layNew t es h x).2.1.plain with
    | true =>
      rw [if_pos rfl, px, if_neg (by decide)]
      exact ⟨n1.trans j1, .inr rfl⟩
    | false =>
      rw [if_neg (show ¬ (false = true) by decide), if_pos rfl]
      exact ⟨n1.trans j1, .inr hp⟩
  rel := fun t es m _ ⟨j1, j2⟩ => by
    obtain ⟨n1, n2⟩ := rel_led t es m
    exact ⟨n1.trans j1, j2.imp id n2⟩
section
variable {prog : Program} {w : World} {K : Type} [DecidableEq K] [BEq K] [LawfulBEq K] {knd : KeyKind prog w K} {kf : Value → K} {J : SetTable → Nat → Prop} {Px : Value → Prop}
variable {A : Around} {E : Value → Shared → Prop} {s : Shared} {R : Result → Shared → Prop} {I : Addr} {fp wr : List Addr} {G : Array GenState → Array GenState → Prop} {n : Nat} {P : Nat → Value → Prop} {St : Nat → Shared → Prop}
noncomputable def fmet (val : Nat → K) (i : Nat) : List K := ((List.range i).map val).foldl sd []
omit [DecidableEq K] [LawfulBEq K] in
theorem fmet_succ (val : Nat → K) (i : Nat) : fmet val (i + 1) = sd (fmet val i) (val i) := by
  unfold fmet; rw [List.range_succ, List.map_append, List.foldl_append]; rfl
omit [DecidableEq K] [LawfulBEq K] in
theorem fmet_le (val : Nat → K) : ∀ i, (fmet val i).length ≤ i
  | 0 => Nat.le_refl _
  | i + 1 => by
    rw [fmet_succ]; unfold sd
    have ih := fmet_le val i
    split
    · omega
    · rw [List.length_append, List.length_singleton]; omega
theorem SetJ.at {h h' : Heap} {a : Addr} {σ : List K} (x : SetJ knd kf J h a σ) (k : ∀ o, h.get? a = some o → h'.get? a = some o) : SetJ knd kf J h' a σ := by
  obtain ⟨o, es, ep, t, ho, rest⟩ := x
  exact ⟨o, es, ep, t, k o ho, rest⟩
theorem upd_loopJ (hkf : ∀ k v, knd.is k v = true → kf v = k) (jo : Jok J Px) (W : WalksS prog w A.in1 I fp wr G n P St) (S : Addr) (hSf : S ∉ fp)
    (val : Nat → K) (hval : ∀ i v, P i v → knd.is (val i) v = true ∧ v.scannable = true ∧ Px v) (hb : n + 1 < scanBound) :
    ∀ (k i : Nat) (s : Shared), n - i = k → i ≤ n → St i s → SetJ knd kf J s.heap S (fmet val i) →
      (∀ s', Moved (S :: wr) G s s' → SetJ knd kf J s'.heap S (fmet val n) → R (.ok (.ret .none)) s') →
      codeAny (model prog w) A (.builtin "set.update.loop" ⟨[.ref S, .ref I], []⟩) R s := by
  have hSw : S ∉ wr := fun h => hSf (W.sub _ h)
  have hsub : ∀ b ∈ wr, b ∈ S :: wr := fun b hb => List.mem_cons_of_mem _ hb
  intro k
  induction k with
  | zero =>
    intro i s hk hi hst hS hR
    have hin : i = n := by omega
    subst hin
    refine codeAny_builtin PyProof.Rows.F.entry_set_update_loop ?_
    rw [Around.under_plainId PyProof.Rows.F.plain_set_update_loop _]
    show wpAny _ A.in1 (pyNext (.ref I) >>= _) _ _ s
    refine wpAny_bind (W.done s _ _ hst fun s' hm => ?_)
    show wpAny _ A.in1 (ret Value.none) _ _ s'
    exact wpAny_pure (hR s' (hm.mono hsub) (hS.at fun o e => hm.heap S _ hSw e))
  | succ k ih =>
    intro i s hk hi hst hS hR
    have hlt : i < n := by omega
    refine codeAny_builtin PyProof.Rows.F.entry_set_update_loop ?_
    rw [Around.under_plainId PyProof.Rows.F.plain_set_update_loop _]
    show wpAny _ A.in1 (pyNext (.ref I) >>= _) _ _ s
    refine wpAny_bind (W.item i s _ _ hlt hst fun v s' hP hst' hm => ?_)
    obtain ⟨v1, v2, v3⟩ := hval i v hP
    have hS' : SetJ knd kf J s'.heap S (fmet val i) := hS.at fun o e => hm.heap S _ hSw e
    show wpAny _ A.in1 (holding [v] (setAdd S v) >>= _) _ _ s'
    refine wpAny_bind (wpAny_holding ?_)
    unfold setAdd
    refine wpAny_holding ?_
    refine wpAny_bind (knd.pyHash (k := val i) v1 ?_)
    have hroom : (fmet val i).length + 1 < scanBound := by have := fmet_le val i; omega
    refine setAddJ hkf jo (s := { s' with toks := s'.toks + 1 }) v1 v2 v3 hS' hroom fun h' b hsb hS2 => ?_
    rw [← fmet_succ] at hS2
    refine wpAny_pure ⟨plainId_quiet PyProof.Rows.F.plain_set_update_loop _, ih (i + 1) _ (by omega) hlt (W.frame _ s' _ _ hst' (Nat.le_succ _) fun b hb o e => ?_) hS2 fun s'' hm'' hS'' => ?_⟩
    · rw [hsb.2 b (fun h : b = S => hSf (by rw [← h]; exact hb))]; exact e
    · refine hR s'' (Moved.trans W.gtrans ((hm.mono hsub).then_heap (Nat.le_succ _) fun b o hb e => ?_) hm'') hS''
      rw [hsb.2 b (fun h : b = S => hb (by rw [h]; exact List.mem_cons_self))]; exact e
end
section
variable {prog : Program} {w : World} {A : Around} {E : Value → Shared → Prop} {s : Shared}
noncomputable abbrev byTx (w : World) : Bool := w.params.followText "set-order"
theorem set_new_b (a : Value) {Q₁ : Value → Shared → Prop}
    (h : Q₁ (.ref s.heap.objs.size) { s with heap := s.heap.push { cls := .type "set", dict := none, data := .set #[] 0 (.fresh 0 0 (!byTx w)) } }) :
    codeAny (model prog w) A (.call (.builtin "set.__new__") ⟨[.type "set", a], []⟩) (wants Q₁ E) s := by
  refine codeAny_of_tree ?_
  show wpAny _ A.in1 (do checkBuiltinCall "set.__new__" ⟨[.type "set", a], []⟩; again (.builtin "set.__new__" ⟨[.type "set", a], []⟩)) _ _ s
  refine wpAny_bind (wpAny_of_eq (PySem.F.newCall_set_1 a) (wpAny_pure ⟨plainId_quiet PySem.F.plain_set_new _, codeAny_builtin PySem.F.entry_set_new ?_⟩))
  rw [Around.under_plainId PySem.F.plain_set_new _]
  unfold Builtin.«set.__new__» Builtin.Frozenset.newClass
  have hsub := PySem.sub_set_self
  obtain ⟨hp, g, d, tk, os⟩ := s
  dsimp only
  wp_walk
  refine wpAny_askSetting (wpAny_pure ?_)
  dsimp only
  simp only [newObj]
  refine wpAny_bind (wpAny_alloc (wpAny_pure ?_))
  exact wpAny_pure h
variable {K : Type} [DecidableEq K] [BEq K] [LawfulBEq K] {knd : KeyKind prog w K} {kf : Value → K} {J : SetTable → Nat → Prop} {Px : Value → Prop}
set_option maxHeartbeats 3200000 in
theorem call_set_J (hkf : ∀ k v, knd.is k v = true → kf v = k) (jo : Jok J Px) (j0 : J (.fresh 0 0 (!byTx w)) 0) {l : Addr} {items : Array Value} {val : Nat → K} {Q : Value → Shared → Prop}
    (hh : A.handled = none) (hl : s.heap.IsList l items) (hval : ∀ i v, items[i]? = some v → knd.is (val i) v = true ∧ v.scannable = true ∧ Px v) (hb : items.size + 1 < scanBound)
    (h : ∀ (h' : Heap) (tk : Nat), SetJ knd kf J h' s.heap.objs.size (fmet val items.size) →
      (∀ b o, b < s.heap.objs.size → s.heap.get? b = some o → h'.get? b = some o) → Q (.ref s.heap.objs.size) { s with heap := h', toks := tk }) :
    wpAny (model prog w) A (call (.type "set") [.ref l]) Q E s := by
  obtain ⟨c, tl, hmro⟩ := PySem.F.called_set.mro
  have hmade := PySem.F.called_set.made
  have hsub := PySem.F.called_set.sub
  refine wpAny_call (codeAny_of_tree ?_)
  show wpAny _ _ (callAny (.type "set") _) _ _ _
  refine wpAny_pure ⟨Code.quiet_builtin _ (by decide +kernel), codeAny_builtin PySem.F.entry_type_call ?_⟩
  rw [Around.under_plain (weight_type_call_type "set" [.ref l] []) rfl]
  have h1 := PySem.F.called_set.notType
  have h2 := PySem.F.called_set.canCreate
  have hct := PySem.F.typeCall_set_1 (.ref l)
  repeat (any_goals (first | assumption | wp_step))
  refine codeAny_mono (set_new_b (.ref l) (E := E) (Q₁ := fun obj s₁ => obj = .ref s.heap.objs.size ∧ s₁ = { s with heap := s.heap.push { cls := .type "set", dict := none, data := .set #[] 0 (.fresh 0 0 (!byTx w)) } }) ⟨rfl, rfl⟩) fun r s₁ hr => ?_
  cases r with
  | error e => exact hr
  | ok fl =>
    cases fl with
    | ret obj =>
      obtain ⟨rfl, rfl⟩ := hr
      have hS : (s.heap.push { cls := .type "set", dict := none, data := .set #[] 0 (.fresh 0 0 (!byTx w)) }).get? s.heap.objs.size = some { cls := .type "set", dict := none, data := .set #[] 0 (.fresh 0 0 (!byTx w)) } := Heap.get?_push_size _ rfl
      have hT : Shared.TypeIs { s with heap := s.heap.push { cls := .type "set", dict := none, data := .set #[] 0 (.fresh 0 0 (!byTx w)) } } (.ref s.heap.objs.size) "set" := ⟨_, hS, rfl⟩
      have hli := PySem.F.called_set.init.lookup
      have hbi := PySem.F.called_set.init.bind (.ref s.heap.objs.size)
      repeat (any_goals (first | assumption | wp_step))
      refine codeAny_mono (codeAny_call_builtin (R := wants (fun r s₂ => r = .none ∧ ∃ h' tk, s₂ = { s with heap := h', toks := tk } ∧
          SetJ knd kf J h' s.heap.objs.size (fmet val items.size) ∧
          (∀ b o, b < s.heap.objs.size → s.heap.get? b = some o → h'.get? b = some o)) E) PySem.F.called_set.init.plain PySem.F.entry_set_init (check_set_init_1 hT ?_)) fun r₂ s₂ hr₂ => ?_
      · obtain ⟨ol, hol, hcl, nl, hdl⟩ := hl
        obtain ⟨ocls, odict, odata, oslots⟩ := ol
        simp only at hcl hdl
        subst hcl; subst hdl
        have hol' : (s.heap.push { cls := .type "set", dict := none, data := .set #[] 0 (.fresh 0 0 (!byTx w)) }).get? l = some { cls := .type "list", dict := odict, data := .seq items nl, slots := oslots } := Heap.get?_push_of_some _ hol
        have hsls := PySem.F.sub_list_set
        have hslf := PySem.F.sub_list_frozenset
        have hne : (Value.type "list" == Value.type "dict") = false := by decide
        have hl1 : (s.heap.push { cls := .type "set", dict := none, data := .set #[] 0 (.fresh 0 0 (!byTx w)) }).IsList l items := ⟨_, hol', rfl, nl, rfl⟩
        unfold Builtin.«set.__init__» noKeywords Builtin.Frozenset.updateFrom
        generalize hPI : pyIter = PI
        wp_walk
        subst hPI
        refine wpAny_pyIter_list hl1 ?_
        refine wpAny_bind (wpAny_runValue ?_)
        have hlS : l < s.heap.objs.size := Heap.lt_size hol
        have hh3 : A.in1.in1.in1.handled = none := by simp [hh]
        have hneI : l ≠ (s.heap.push { cls := .type "set", dict := none, data := .set #[] 0 (.fresh 0 0 (!byTx w)) }).objs.size := by
          rw [Heap.size_push]; exact Nat.ne_of_lt (Nat.lt_succ_of_lt hlS)
        have hSf : s.heap.objs.size ∉ [(s.heap.push { cls := .type "set", dict := none, data := .set #[] 0 (.fresh 0 0 (!byTx w)) }).objs.size, l] := by
          rw [Heap.size_push]; simp only [List.mem_cons, List.mem_singleton, List.not_mem_nil, or_false, not_or]
          exact ⟨Nat.ne_of_lt (Nat.lt_succ_self _), Nat.ne_of_gt hlS⟩
        refine upd_loopJ hkf jo ((Walks.list hh3 _ l hneI items).toS) s.heap.objs.size
          hSf val hval hb (items.size - 0) 0 _ (by omega) (Nat.zero_le _)
          ⟨⟨_, Heap.get?_push_size _ rfl, rfl, rfl⟩, (hl1.push _)⟩ ?hS0 ?hR
        case hS0 =>
          have hget : ((s.heap.push { cls := .type "set", dict := none, data := .set #[] 0 (.fresh 0 0 (!byTx w)) }).push { cls := .type "list_iterator", data := .fields #[.ref l, .int 0 0] }).get? s.heap.objs.size
              = some { cls := .type "set", dict := none, data := .set #[] 0 (.fresh 0 0 (!byTx w)) } := Heap.get?_push_of_some _ hS
          exact ⟨_, #[], 0, _, hget, ⟨rfl, rfl, rfl⟩, rfl, fun e he => by simp at he, List.Perm.refl _, by decide, by rfl, j0⟩
        case hR =>
          intro s' hm hS'
          obtain ⟨h', g', d', tk', os'⟩ := s'
          have eg : g' = s.gens := hm.gens
          have ed : d' = s.drawn := hm.drawn
          have eo : os' = s.os := hm.os
          subst eg; subst ed; subst eo
          show wpAny _ _ _ _ _ _
          refine wpAny_pure ?_
          show wpAny _ _ (ret Value.none) _ _ _
          refine wpAny_pure ⟨rfl, h', tk', rfl, hS', fun b o hb e => ?_⟩
          have hb1 : b ≠ s.heap.objs.size := Nat.ne_of_lt hb
          have hb2 : b ≠ (s.heap.push { cls := .type "set", dict := none, data := .set #[] 0 (.fresh 0 0 (!byTx w)) }).objs.size := by
            rw [Heap.size_push]; exact Nat.ne_of_lt (Nat.lt_succ_of_lt hb)
          exact hm.heap b o (by simp only [List.mem_cons, List.mem_singleton, List.not_mem_nil, or_false, not_or]; exact ⟨hb1, hb2⟩) (Heap.get?_push_of_some _ (Heap.get?_push_of_some _ e))
      · cases r₂ with
        | error e => exact hr₂
        | ok fl₂ =>
          cases fl₂ with
          | ret r =>
            obtain ⟨rfl, h', tk, rfl, hS', hk'⟩ := hr₂
            repeat (any_goals (first | assumption | wp_step))
            exact h _ _ hS' hk'
          | _ => exact hr₂.elim
    | _ => exact hr.elim
end
end L2.PU
namespace L2.PU
open PySem PySem.Spec PyProof.Rows
theorem slot_si_next : Slot "set_iterator" "__next__" "set_iterator.__next__" :=
  .of (owner := "set_iterator") (n := "__next__") (by rw [typeLookup_type, builtinLookup_eq_fast]; kernel_rfl) (by decide +kernel) (by decide +kernel) (by decide +kernel)
    (by first | exact .inl (by decide +kernel) | exact .inr (by decide +kernel)) (by rw [isSubtype_type]; kernel_rfl)
theorem entry_si_next : entryFor table "set_iterator.__next__" = some Builtin.«set_iterator.__next__» := entryFor_of_tree (by kernel_rfl)
theorem owner_si : Manifest.owners.lookup (String.ofList ['r', 'o', 't', 'a', 'r', 'e', 't', 'i', '_', 't', 'e', 's'].reverse) = some Manifest.sig_set_iterator := by kernel_rfl
theorem args_si_next (a : Value) : argsOk "set_iterator.__next__" ⟨[a], []⟩ := by
  unfold argsOk; rw [signature?_of (id := "set_iterator.__next__") (n := ['_', '_', 't', 'x', 'e', 'n', '_', '_']) (o := ['r', 'o', 't', 'a', 'r', 'e', 't', 'i', '_', 't', 'e', 's']) (by kernel_rfl) owner_si]; kernel_rfl
theorem slot_si_iter : Slot "set_iterator" "__iter__" "set_iterator.__iter__" :=
  .of (owner := "set_iterator") (n := "__iter__") (by rw [typeLookup_type, builtinLookup_eq_fast]; kernel_rfl) (by decide +kernel) (by decide +kernel) (by decide +kernel)
    (by first | exact .inl (by decide +kernel) | exact .inr (by decide +kernel)) (by rw [isSubtype_type]; kernel_rfl)
theorem entry_si_iter : entryFor table "set_iterator.__iter__" = some Builtin.«dict_keyiterator.__iter__» :=
  entryFor_alias (id' := "dict_keyiterator.__iter__") (by kernel_rfl) rfl (by decide +kernel) (by kernel_rfl)
theorem args_si_iter (a : Value) : argsOk "set_iterator.__iter__" ⟨[a], []⟩ := by
  unfold argsOk; rw [signature?_of (id := "set_iterator.__iter__") (n := ['_', '_', 'r', 'e', 't', 'i', '_', '_']) (o := ['r', 'o', 't', 'a', 'r', 'e', 't', 'i', '_', 't', 'e', 's']) (by kernel_rfl) owner_si]; kernel_rfl
theorem entry_set_iter : entryFor table "set.__iter__" = some Builtin.«frozenset.__iter__» :=
  entryFor_alias (id' := "frozenset.__iter__") (by kernel_rfl) rfl (by decide +kernel) (by kernel_rfl)
noncomputable def IsSi (h : Heap) (it a : Addr) (first : Value) (i n ep : Nat) : Prop := ∃ o, h.get? it = some o ∧ o.cls = .type "set_iterator" ∧ o.data = .fields #[first, .int i 0, .ref a, .int n 0, .int ep 0]
section
variable {prog : Program} {w : World} {A : Around} {E : Value → Shared → Prop} {s : Shared} {it a : Addr} {first : Value} {i n ep slot : Nat} {o : Obj} {es : Array (Int × Value)} {t : SetTable}
theorem IsSi.typeIs (h : IsSi s.heap it a first i n ep) : s.TypeIs (.ref it) "set_iterator" := let ⟨o, ho, hc, _⟩ := h; ⟨o, ho, hc⟩
theorem IsSi.at {h h' : Heap} (x : IsSi h it a first i n ep) (e : ∀ o, h.get? it = some o → h'.get? it = some o) : IsSi h' it a first i n ep := let ⟨o, ho, r⟩ := x; ⟨o, e _ ho, r⟩
theorem si_self {Q : Value → Shared → Prop} (hit : IsSi s.heap it a first i n ep) (h : Q (.ref it) s) : wpAny (model prog w) A (pyIter (.ref it)) Q E s := by
  refine wpAny_pyIter_slot hit.typeIs slot_si_iter (wpAny_call_entry slot_si_iter hit.typeIs entry_si_iter ?_ (args_si_iter _))
  show wpAny _ _ (ret (.ref it)) _ _ s
  exact wpAny_pure ⟨_, rfl, "set_iterator", _, hit.typeIs, slot_si_next.lookup, h⟩
theorem next_int {Q : Option Value → Shared → Prop} {x : Value} {nx : Nat} (hit : IsSi s.heap it a (.int slot 0) i n ep) (ho : s.heap.get? a = some o) (hd : o.data = .set es ep t) (hf : t.fits es.size = true) (hn : es.size = n)
    (hN : ∀ (A : Around) (Q : Option (Value × Nat) → Shared → Prop) (E : Value → Shared → Prop), Q (some (x, nx)) s → wpAny (model prog w) A (setNext a slot i ep) Q E s)
    (hQ : ∀ h', IsSi h' it a (.int nx 0) (i + 1) n ep → Heap.SameBut it s.heap h' → Q (some x) { s with heap := h' }) : wpAny (model prog w) A (pyNext (.ref it)) Q E s := by
  obtain ⟨oi, hoi, hc, hdi⟩ := id hit
  unfold pyNext
  refine wpAny_bind (wpAny_attempt (wpAny_callSpecial?_slot (name := Str.ofString "__next__") hit.typeIs slot_si_next
    (wpAny_call_entry slot_si_next hit.typeIs entry_si_next ?_ (args_si_next _))))
  unfold Builtin.«set_iterator.__next__»
  refine wpAny_bind (m := slotArgs "__next__" 0 _) (wpAny_pure ?_)
  refine wpAny_bind (wpAny_fieldsOf hoi hdi ?_)
  show wpAny _ _ (setEntries a >>= _) _ _ s
  refine wpAny_bind (wpAny_setEntries_of ho hd hf ?_)
  rw [if_neg (by rw [hn]; simp)]
  show wpAny _ _ (setNext a slot i ep >>= _) _ _ s
  refine wpAny_bind (hN _ _ _ ?_)
  show wpAny _ _ (setField (.ref it) 0 (rawInt nx) >>= _) _ _ s
  refine wpAny_bind (wpAny_setField hoi hdi (by simp) ?_)
  have ho2 := Heap.get?_update_self (Obj.mapFields (·.setIfInBounds 0 (rawInt nx))) hoi (Obj.isFreed_of_fields (Obj.data_mapFields hdi _))
  have hd2 := Obj.data_mapFields hdi (·.setIfInBounds 0 (rawInt nx))
  refine wpAny_bind (wpAny_setField ho2 hd2 (by simp) ?_)
  refine wpAny_pure ⟨_, rfl, wpAny_pure (hQ _ ⟨_, Heap.get?_update_self _ ho2 (Obj.isFreed_of_fields (Obj.data_mapFields hd2 _)), ?_, ?_⟩ ((Heap.SameBut.update _ _ _).trans (Heap.SameBut.update _ _ _)))⟩
  · exact (Obj.cls_mapFields ..).trans ((Obj.cls_mapFields ..).trans hc)
  · rw [Obj.data_mapFields hd2]
    simp [rawInt]
theorem next_end {Q : Option Value → Shared → Prop} (hh : A.handled = none) (hit : IsSi s.heap it a (.int slot 0) i n ep) (ho : s.heap.get? a = some o) (hd : o.data = .set es ep t) (hf : t.fits es.size = true) (hn : es.size = n)
    (hN : ∀ (A : Around) (Q : Option (Value × Nat) → Shared → Prop) (E : Value → Shared → Prop), Q none s → wpAny (model prog w) A (setNext a slot i ep) Q E s)
    (hQ : ∀ h', Heap.ExtBut it s.heap h' → Q none { s with heap := h' }) : wpAny (model prog w) A (pyNext (.ref it)) Q E s := by
  obtain ⟨oi, hoi, hc, hdi⟩ := id hit
  unfold pyNext
  refine wpAny_bind (wpAny_attempt (wpAny_callSpecial?_slot (name := Str.ofString "__next__") hit.typeIs slot_si_next
    (wpAny_call_entry slot_si_next hit.typeIs entry_si_next ?_ (args_si_next _))))
  unfold Builtin.«set_iterator.__next__»
  refine wpAny_bind (m := slotArgs "__next__" 0 _) (wpAny_pure ?_)
  refine wpAny_bind (wpAny_fieldsOf hoi hdi ?_)
  show wpAny _ _ (setEntries a >>= _) _ _ s
  refine wpAny_bind (wpAny_setEntries_of ho hd hf ?_)
  rw [if_neg (by rw [hn]; simp)]
  show wpAny _ _ (setNext a slot i ep >>= _) _ _ s
  refine wpAny_bind (hN _ _ _ ?_)
  show wpAny _ _ (setField (.ref it) 2 .none >>= _) _ _ s
  refine wpAny_bind (wpAny_setField hoi hdi (by simp) ?_)
  show wpAny _ _ (newExc (.type "StopIteration") [] >>= _) _ _ _
  refine wpAny_bind ?_
  simp only [newExc, newTuple]
  refine wpAny_bind (wpAny_newObj_type ?_ (by size_fits))
  refine wpAny_bind (m := firstArgMember _ _) (wpAny_of_eq (a := Value.none) (by first | rfl | (simp only [firstArgMember]; rfl)) ?_)
  refine wpAny_newObj_type ?_ (by size_fits)
  simp only [raiseNew]
  refine wpAny_bind (wpAny_handled ?_)
  rw [show A.in1.handled = none from hh]
  refine wpAny_bind (wpAny_pure (wpAny_throw ?_))
  refine wpAny_bind (wpAny_isInstance (T := "StopIteration") (b := true) ⟨_, Heap.get?_push_size _ rfl, rfl⟩ isSubtype_stop ?_)
  exact wpAny_pure (hQ _ (((Heap.SameBut.update ..).extBut.push _).push _))
noncomputable def IsPl (h : Heap) (P : Addr) (pl : List Nat) : Prop := ∃ o c, h.get? P = some o ∧ o.data = .seq (pl.map fun i : Nat => rawInt i).toArray c
theorem next_drawn {Q : Option Value → Shared → Prop} {P : Addr} {pl : List Nat} {j : Nat} {e : Int × Value} (hit : IsSi s.heap it a (.ref P) i n ep) (hP : IsPl s.heap P pl) (ho : s.heap.get? a = some o) (hd : o.data = .set es ep t) (hf : t.fits es.size = true) (hn : es.size = n)
    (hj : pl[i]? = some j) (he : es[j]? = some e)
    (hQ : ∀ h', IsSi h' it a (.ref P) (i + 1) n ep → Heap.SameBut it s.heap h' → Q (some e.2) { s with heap := h' }) : wpAny (model prog w) A (pyNext (.ref it)) Q E s := by
  obtain ⟨oi, hoi, hc, hdi⟩ := id hit
  obtain ⟨oP, cP, hoP, hdP⟩ := hP
  unfold pyNext
  refine wpAny_bind (wpAny_attempt (wpAny_callSpecial?_slot (name := Str.ofString "__next__") hit.typeIs slot_si_next
    (wpAny_call_entry slot_si_next hit.typeIs entry_si_next ?_ (args_si_next _))))
  unfold Builtin.«set_iterator.__next__»
  refine wpAny_bind (m := slotArgs "__next__" 0 _) (wpAny_pure ?_)
  refine wpAny_bind (wpAny_fieldsOf hoi hdi ?_)
  show wpAny _ _ (setEntries a >>= _) _ _ s
  refine wpAny_bind (wpAny_setEntries_of ho hd hf ?_)
  rw [if_neg (by rw [hn]; simp)]
  show wpAny _ _ (seqItems? (.ref P) >>= _) _ _ s
  refine wpAny_bind (wpAny_seqItems hoP hdP ?_)
  have hpl : ((pl.map fun i : Nat => rawInt i).toArray)[i]? = some (rawInt j) := by simp [hj]
  show wpAny _ _ (match ((pl.map fun i : Nat => rawInt i).toArray)[i]? with | some (.int place _) => _ | some _ => _ | none => _) _ _ s
  rw [hpl]
  show wpAny _ _ (setNextDrawn a j ep >>= _) _ _ s
  unfold setNextDrawn
  refine wpAny_bind (wpAny_bind (wpAny_setState_of ho hd hf ?_))
  dsimp only
  rw [if_neg (by simp)]
  refine (show wpAny _ _ (match es[j]? with | some (_, x) => pure x | _ => unsupported "internal:set_iterator") _ _ s from ?_)
  rw [he]
  refine wpAny_pure ?_
  refine wpAny_bind (wpAny_setField hoi hdi (by simp) ?_)
  refine wpAny_pure ⟨_, rfl, wpAny_pure (hQ _ ⟨_, Heap.get?_update_self _ hoi (Obj.isFreed_of_fields (Obj.data_mapFields hdi _)), ?_, ?_⟩ (Heap.SameBut.update _ _ _))⟩
  · exact (Obj.cls_mapFields ..).trans hc
  · rw [Obj.data_mapFields hdi]
    simp [rawInt]
theorem next_drawn_end {Q : Option Value → Shared → Prop} {P : Addr} {pl : List Nat} (hh : A.handled = none) (hit : IsSi s.heap it a (.ref P) i n ep) (hP : IsPl s.heap P pl) (ho : s.heap.get? a = some o) (hd : o.data = .set es ep t) (hf : t.fits es.size = true) (hn : es.size = n)
    (hj : pl[i]? = none)
    (hQ : ∀ h', Heap.ExtBut it s.heap h' → Q none { s with heap := h' }) : wpAny (model prog w) A (pyNext (.ref it)) Q E s := by
  obtain ⟨oi, hoi, hc, hdi⟩ := id hit
  obtain ⟨oP, cP, hoP, hdP⟩ := hP
  unfold pyNext
  refine wpAny_bind (wpAny_attempt (wpAny_callSpecial?_slot (name := Str.ofString "__next__") hit.typeIs slot_si_next
    (wpAny_call_entry slot_si_next hit.typeIs entry_si_next ?_ (args_si_next _))))
  unfold Builtin.«set_iterator.__next__»
  refine wpAny_bind (m := slotArgs "__next__" 0 _) (wpAny_pure ?_)
  refine wpAny_bind (wpAny_fieldsOf hoi hdi ?_)
  show wpAny _ _ (setEntries a >>= _) _ _ s
  refine wpAny_bind (wpAny_setEntries_of ho hd hf ?_)
  rw [if_neg (by rw [hn]; simp)]
  show wpAny _ _ (seqItems? (.ref P) >>= _) _ _ s
  refine wpAny_bind (wpAny_seqItems hoP hdP ?_)
  have hpl : ((pl.map fun i : Nat => rawInt i).toArray)[i]? = none := by simpa using hj
  show wpAny _ _ (match ((pl.map fun i : Nat => rawInt i).toArray)[i]? with | some (.int place _) => _ | some _ => _ | none => _) _ _ s
  rw [hpl]
  show wpAny _ _ (setField (.ref it) 0 (rawInt 0) >>= _) _ _ s
  refine wpAny_bind (wpAny_setField hoi hdi (by simp) ?_)
  have ho2 := Heap.get?_update_self (Obj.mapFields (·.setIfInBounds 0 (rawInt 0))) hoi (Obj.isFreed_of_fields (Obj.data_mapFields hdi _))
  have hd2 := Obj.data_mapFields hdi (·.setIfInBounds 0 (rawInt 0))
  refine wpAny_bind (wpAny_setField ho2 hd2 (by simp) ?_)
  show wpAny _ _ (newExc (.type "StopIteration") [] >>= _) _ _ _
  refine wpAny_bind ?_
  simp only [newExc, newTuple]
  refine wpAny_bind (wpAny_newObj_type ?_ (by size_fits))
  refine wpAny_bind (m := firstArgMember _ _) (wpAny_of_eq (a := Value.none) (by first | rfl | (simp only [firstArgMember]; rfl)) ?_)
  refine wpAny_newObj_type ?_ (by size_fits)
  simp only [raiseNew]
  refine wpAny_bind (wpAny_handled ?_)
  rw [show A.in1.handled = none from hh]
  refine wpAny_bind (wpAny_pure (wpAny_throw ?_))
  refine wpAny_bind (wpAny_isInstance (T := "StopIteration") (b := true) ⟨_, Heap.get?_push_size _ rfl, rfl⟩ isSubtype_stop ?_)
  exact wpAny_pure (hQ _ ((((Heap.SameBut.update _ _ _).trans (Heap.SameBut.update _ _ _)).extBut.push _).push _))
theorem choose_any {src : Source} {m : Nat} {Q : Nat → Shared → Prop} (hm : m ≠ 0) (h : ∀ j dr, j < m → Q j { s with drawn := dr }) : wpAny (model prog w) A (choose src m) Q E s := fun _ _ _ => ⟨hm, h _ _ (Nat.mod_lt _ (Nat.pos_of_ne_zero hm))⟩
theorem erase_perm {α : Type} : ∀ {l : List α} {j : Nat} (hj : j < l.length), (l[j] :: l.eraseIdx j).Perm l
  | x :: r, 0, _ => List.Perm.refl _
  | x :: r, j + 1, hj => by
    have hj' : j < r.length := by simpa using hj
    have ih := erase_perm hj'
    show (r[j] :: x :: r.eraseIdx j).Perm (x :: r)
    exact (List.Perm.swap x r[j] (r.eraseIdx j)).trans (List.Perm.cons x ih)
theorem draw_any {α : Type} : ∀ (m : Nat) (xs : List α) (s : Shared) (Q : List α → Shared → Prop), m = xs.length → (∀ ys dr, ys.Perm xs → Q ys { s with drawn := dr }) → wpAny (model prog w) A (drawOrder m xs) Q E s
  | 0, xs, s, Q, hm, h => by
    have : xs = [] := List.eq_nil_of_length_eq_zero hm.symm
    subst this
    unfold drawOrder
    exact wpAny_pure (h [] s.drawn (List.Perm.refl _))
  | m + 1, [], s, Q, hm, h => by simp at hm
  | m + 1, x :: r, s, Q, hm, h => by
    unfold drawOrder
    refine wpAny_bind (choose_any (by simp) fun j dr hj => ?_)
    have ej : (x :: r)[j]? = some (x :: r)[j] := List.getElem?_eq_getElem hj
    rw [ej]
    dsimp only
    refine wpAny_bind (draw_any m ((x :: r).eraseIdx j) _ _ (by rw [List.length_eraseIdx_of_lt hj]; simp at hm ⊢; omega) fun ys dr' hp => wpAny_pure (h _ dr' ?_))
    refine (List.Perm.cons _ hp).trans ?_
    exact erase_perm hj
theorem pick_perm {α : Type} (nx : Nat → Nat) : ∀ (m k : Nat) (left : List α) (out : Array α), m = left.length → (pickOrder.go nx m k left out).toList.Perm (out.toList ++ left)
  | 0, k, left, out, hm => by
    have : left = [] := List.eq_nil_of_length_eq_zero hm.symm
    subst this
    unfold pickOrder.go
    simp
  | m + 1, k, left, out, hm => by
    have hpos : 0 < left.length := by omega
    have hj : nx k % left.length < left.length := Nat.mod_lt _ hpos
    unfold pickOrder.go
    rw [List.getElem?_eq_getElem hj]
    dsimp only
    refine (pick_perm nx m (k + 1) _ _ (by rw [List.length_eraseIdx_of_lt hj]; omega)).trans ?_
    rw [Array.toList_push, List.append_assoc]
    exact List.Perm.append_left _ (erase_perm hj)
end
end L2.PU
namespace L2.PU
open PySem PySem.Spec PyProof.Rows
section
variable {prog : Program} {w : World} {A : Around} {E : Value → Shared → Prop} {s : Shared} {a : Addr} {ep : Nat} {o : Obj} {es : Array (Int × Value)} {t : SetTable}
theorem bytx_any {Q : Bool → Shared → Prop} (h : Q (byTx w) s) : wpAny (model prog w) A setsByText Q E s := wpAny_bind (wpAny_askSetting (wpAny_pure h))
theorem walk_text {Q : Array (Int × Value) → Shared → Prop} (hb : byTx w = true) (ho : s.heap.get? a = some o) (hd : o.data = .set es ep t) (hf : t.fits es.size = true)
    (h : Q (pickOrder (w.params.setOrder a ep) es) s) : wpAny (model prog w) A (setWalk a) Q E s := by
  unfold setWalk
  refine wpAny_bind (wpAny_setState_of ho hd hf ?_)
  dsimp only
  refine wpAny_bind (bytx_any ?_)
  rw [hb, if_pos rfl]
  exact wpAny_bind (wpAny_askSetting (wpAny_pure h))
theorem snext_text {Q : Option (Value × Nat) → Shared → Prop} {slot i : Nat} (hb : byTx w = true) (ho : s.heap.get? a = some o) (hd : o.data = .set es ep t) (hf : t.fits es.size = true)
    (h : Q (((pickOrder (w.params.setOrder a ep) es)[i]?).map fun e => (e.2, slot)) s) : wpAny (model prog w) A (setNext a slot i ep) Q E s := by
  unfold setNext
  refine wpAny_bind (wpAny_setState_of ho hd hf ?_)
  dsimp only
  refine wpAny_bind (bytx_any ?_)
  rw [hb, if_pos rfl, if_neg (by simp)]
  exact wpAny_bind (walk_text hb ho hd hf (wpAny_pure h))
theorem snext_tab {Q : Option (Value × Nat) → Shared → Prop} {slot i : Nat} (hb : byTx w = false) (ho : s.heap.get? a = some o) (hd : o.data = .set es ep t) (hf : t.fits es.size = true) (hnd : (!t.plain && decide (es.size > 1)) = false) (hled : t.led = true)
    (h : Q (match es[SetTable.below t.place slot]?, t.place[SetTable.below t.place slot]? with | some (_, x), some j => some (x, j + 1) | _, _ => none) s) : wpAny (model prog w) A (setNext a slot i ep) Q E s := by
  unfold setNext
  refine wpAny_bind (wpAny_setState_of ho hd hf ?_)
  dsimp only
  refine wpAny_bind (bytx_any ?_)
  rw [hb, if_neg (by decide)]
  refine (show wpAny _ _ (if (!t.plain && decide (es.size > 1)) = true then _ else _) _ _ s from ?_)
  rw [hnd, if_neg (by decide)]
  refine wpAny_bind ?_
  refine (show wpAny _ _ (if (!t.led && !es.isEmpty) = true then _ else _) _ _ s from ?_)
  rw [hled, if_neg (by simp)]
  exact wpAny_pure (wpAny_pure h)
end
noncomputable def slN (pl : Array Nat) (i : Nat) : Nat := if i = 0 then 0 else pl.getD (i - 1) 0 + 1
noncomputable def Rise (pl : Array Nat) : Prop := ∀ i, i ≤ pl.size → SetTable.below pl (slN pl i) = i
theorem go_ok {xs : Array Nat} {j : Nat} (hs : ∀ i k, i < k → k < xs.size → xs.getD i 0 < xs.getD k 0) : ∀ (f lo hi : Nat), hi - lo ≤ f → lo ≤ hi → hi ≤ xs.size → (∀ i, i < lo → xs.getD i 0 < j) → (∀ i, hi ≤ i → i < xs.size → j ≤ xs.getD i 0) →
    SetTable.below.go xs j f lo hi ≤ xs.size ∧ (∀ i, i < SetTable.below.go xs j f lo hi → xs.getD i 0 < j) ∧ ∀ i, SetTable.below.go xs j f lo hi ≤ i → i < xs.size → j ≤ xs.getD i 0
  | 0, lo, hi, h1, h2, h3, h4, h5 => by
    unfold SetTable.below.go
    exact ⟨by omega, h4, fun i h => h5 i (by omega)⟩
  | f + 1, lo, hi, h1, h2, h3, h4, h5 => by
    unfold SetTable.below.go
    by_cases hl : lo < hi
    · rw [if_pos hl]
      dsimp only
      have hm : (lo + hi) / 2 < xs.size := by omega
      have eg : xs.getD ((lo + hi) / 2) j = xs.getD ((lo + hi) / 2) 0 := by simp [Array.getD, hm]
      rw [eg]
      by_cases hc : xs.getD ((lo + hi) / 2) 0 < j
      · rw [if_pos hc]
        refine go_ok hs f _ hi (by omega) (by omega) h3 (fun i hi' => ?_) h5
        rcases Nat.lt_or_ge i ((lo + hi) / 2) with z | z
        · exact Nat.lt_trans (hs i _ z hm) hc
        · have : i = (lo + hi) / 2 := by omega
          rw [this]; exact hc
      · rw [if_neg hc]
        refine go_ok hs f lo _ (by omega) (by omega) (by omega) h4 fun i hi' hi2 => ?_
        rcases Nat.lt_or_ge ((lo + hi) / 2) i with z | z
        · have := hs _ i z hi2
          omega
        · have : i = (lo + hi) / 2 := by omega
          rw [this]; omega
    · rw [if_neg hl]
      exact ⟨by omega, h4, fun i h => h5 i (by omega)⟩
theorem below_ok {xs : Array Nat} (hs : ∀ i k, i < k → k < xs.size → xs.getD i 0 < xs.getD k 0) (j : Nat) : SetTable.below xs j ≤ xs.size ∧ (∀ i, i < SetTable.below xs j → xs.getD i 0 < j) ∧ ∀ i, SetTable.below xs j ≤ i → i < xs.size → j ≤ xs.getD i 0 :=
  go_ok hs xs.size 0 xs.size (by omega) (by omega) (Nat.le_refl _) (fun i h => by omega) fun i h h2 => by omega
theorem rise_of {pl : Array Nat} (hs : ∀ i k, i < k → k < pl.size → pl.getD i 0 < pl.getD k 0) : Rise pl := fun i hi => by
  obtain ⟨b1, b2, b3⟩ := below_ok hs (slN pl i)
  unfold slN at b1 b2 b3 ⊢
  by_cases h0 : i = 0
  · subst h0
    rw [if_pos rfl] at b1 b2 b3 ⊢
    rcases Nat.eq_zero_or_pos (SetTable.below pl 0) with z | z
    · exact z
    · exact absurd (b2 0 z) (by omega)
  · rw [if_neg h0] at b1 b2 b3 ⊢
    generalize SetTable.below pl (pl.getD (i - 1) 0 + 1) = r at b1 b2 b3 ⊢
    have h1 : i - 1 < r := Nat.lt_of_not_le fun z => by
      have := b3 (i - 1) z (by omega)
      omega
    rcases Nat.lt_or_ge i r with z | z
    · have h2 := b2 i z
      have h3 := hs (i - 1) i (by omega) (by omega)
      omega
    · omega
theorem rise0 {pl : Array Nat} (h : pl.size ≤ 1) : Rise pl := rise_of fun i k h1 h2 => by omega
theorem fmap_some {α β : Type} {f : α → Option β} {g : α → β} : ∀ {l : List α}, (∀ x ∈ l, f x = some (g x)) → l.filterMap f = l.map g
  | [], _ => rfl
  | x :: r, h => by
    rw [List.filterMap_cons, h x List.mem_cons_self, List.map_cons, fmap_some fun y hy => h y (List.mem_cons_of_mem _ hy)]
section
variable {prog : Program} {w : World} {A : Around} {E : Value → Shared → Prop} {s : Shared} {a I : Addr} {ep : Nat} {o : Obj} {es : Array (Int × Value)} {t : SetTable}
theorem walks_text (hb : byTx w = true) (hd : o.data = .set es ep t) (hf : t.fits es.size = true) (hne : a ≠ I) (hh : A.handled = none) :
    Walks prog w A I [I, a] [I] es.size (fun i v => (((pickOrder (w.params.setOrder a ep) es).toList.map (·.2)))[i]? = some v) (fun i h => (∃ slot : Nat, IsSi h I a (.int slot 0) i es.size ep) ∧ h.get? a = some o) where
  sub := fun b hb => by simp at hb; simp [hb]
  frame := fun _ _ _ st hk => by
    obtain ⟨⟨sl, h1⟩, h2⟩ := st
    exact ⟨⟨sl, h1.at fun o e => hk I (by simp) o e⟩, hk a (by simp) _ h2⟩
  item := fun i s Q E hi st hQ => by
    obtain ⟨⟨sl, h1⟩, h2⟩ := st
    have hlen : (pickOrder (w.params.setOrder a ep) es).toList.length = es.size := by
      have := (pick_perm (w.params.setOrder a ep) es.size 0 es.toList #[] (by simp)).length_eq
      simpa [pickOrder] using this
    have hx : (pickOrder (w.params.setOrder a ep) es)[i]? = some (pickOrder (w.params.setOrder a ep) es)[i]! := by
      rw [← Array.getElem?_toList, List.getElem?_eq_getElem (by omega)]
      simp [getElem!_def, ← Array.getElem?_toList, List.getElem?_eq_getElem (show i < (pickOrder (w.params.setOrder a ep) es).toList.length by omega)]
    generalize (pickOrder (w.params.setOrder a ep) es)[i]! = e at hx
    refine next_int h1 h2 hd hf rfl (x := e.2) (nx := sl) (fun A Q E hq => snext_text hb h2 hd hf (by rw [hx]; exact hq)) fun h' hit' hs' => ?_
    refine hQ _ h' s.toks ?_ ⟨⟨sl, hit'⟩, hs'.extBut a o hne h2⟩ fun b o hb e => hs'.extBut b o (fun h => hb (by simp [h])) e
    rw [List.getElem?_map, Array.getElem?_toList, hx]; rfl
  done := fun s Q E st hQ => by
    obtain ⟨⟨sl, h1⟩, h2⟩ := st
    have hlen : (pickOrder (w.params.setOrder a ep) es).toList.length = es.size := by
      have := (pick_perm (w.params.setOrder a ep) es.size 0 es.toList #[] (by simp)).length_eq
      simpa [pickOrder] using this
    have hx : (pickOrder (w.params.setOrder a ep) es)[es.size]? = none := by
      rw [← Array.getElem?_toList, List.getElem?_eq_none (by omega)]
    exact next_end hh h1 h2 hd hf rfl (fun A Q E hq => snext_text hb h2 hd hf (by rw [hx]; exact hq)) fun h' he' => hQ h' s.toks fun b o hb e => he' b o (fun h => hb (by simp [h])) e
  self := fun _ _ _ _ st hQ => by
    obtain ⟨⟨sl, h1⟩, h2⟩ := st
    exact si_self h1 hQ
theorem walks_tab (hb : byTx w = false) (hd : o.data = .set es ep t) (hf : t.fits es.size = true) (hnd : (!t.plain && decide (es.size > 1)) = false) (hled : t.led = true) (hr : Rise t.place) (hne : a ≠ I) (hh : A.handled = none) :
    Walks prog w A I [I, a] [I] es.size (fun i v => (es.toList.map (·.2))[i]? = some v) (fun i h => IsSi h I a (.int (slN t.place i : Nat) 0) i es.size ep ∧ h.get? a = some o) where
  sub := fun b hb => by simp at hb; simp [hb]
  frame := fun _ _ _ st hk => ⟨st.1.at fun o e => hk I (by simp) o e, hk a (by simp) _ st.2⟩
  item := fun i s Q E hi st hQ => by
    obtain ⟨h1, h2⟩ := st
    have hsz : t.place.size = es.size := by
      simp only [SetTable.fits, Bool.and_eq_true, beq_iff_eq] at hf
      exact hf.1
    have hx : es[i]? = some es[i] := Array.getElem?_eq_getElem hi
    have hp : t.place[i]? = some (t.place[i]'(by omega)) := Array.getElem?_eq_getElem (by omega)
    have en : slN t.place (i + 1) = t.place[i]'(by omega) + 1 := by
      unfold slN
      rw [if_neg (by omega)]
      simp [Array.getD, show i < t.place.size by omega]
    refine next_int h1 h2 hd hf rfl (x := es[i].2) (nx := slN t.place (i + 1)) (fun A Q E hq => snext_tab hb h2 hd hf hnd hled (by rw [hr i (by omega), hx, hp]; rw [en] at hq; exact hq)) fun h' hit' hs' => ?_
    refine hQ _ h' s.toks ?_ ⟨hit', hs'.extBut a o hne h2⟩ fun b o hb e => hs'.extBut b o (fun h => hb (by simp [h])) e
    rw [List.getElem?_map, Array.getElem?_toList, hx]; rfl
  done := fun s Q E st hQ => by
    obtain ⟨h1, h2⟩ := st
    have hsz : t.place.size = es.size := by
      simp only [SetTable.fits, Bool.and_eq_true, beq_iff_eq] at hf
      exact hf.1
    have hx : es[es.size]? = none := Array.getElem?_eq_none (Nat.le_refl _)
    exact next_end hh h1 h2 hd hf rfl (fun A Q E hq => snext_tab hb h2 hd hf hnd hled (by rw [hr es.size (by omega), hx]; exact hq)) fun h' he' => hQ h' s.toks fun b o hb e => he' b o (fun h => hb (by simp [h])) e
  self := fun _ _ _ _ st hQ => si_self st.1 hQ
theorem walks_drawn {P : Addr} {pl : List Nat} (hd : o.data = .set es ep t) (hf : t.fits es.size = true) (hp : pl.Perm (List.range es.size)) (hne : a ≠ I) (hPI : P ≠ I) (hh : A.handled = none) :
    Walks prog w A I [I, a, P] [I] es.size (fun i v => (pl.filterMap fun j => (es[j]?).map (·.2))[i]? = some v) (fun i h => IsSi h I a (.ref P) i es.size ep ∧ h.get? a = some o ∧ IsPl h P pl) where
  sub := fun b hb => by simp at hb; simp [hb]
  frame := fun _ _ _ st hk => by
    obtain ⟨h1, h2, op, c, h3, h4⟩ := st
    exact ⟨h1.at fun o e => hk I (by simp) o e, hk a (by simp) _ h2, op, c, hk P (by simp) _ h3, h4⟩
  item := fun i s Q E hi st hQ => by
    obtain ⟨h1, h2, h3⟩ := st
    have hlen : pl.length = es.size := by rw [hp.length_eq, List.length_range]
    have hj : pl[i]? = some (pl[i]'(by omega)) := List.getElem?_eq_getElem (by omega)
    have hjl : pl[i]'(by omega) < es.size := List.mem_range.mp (hp.mem_iff.mp (List.getElem_mem (by omega)))
    generalize pl[i]'(by omega) = j at hj hjl
    have he : es[j]? = some es[j] := Array.getElem?_eq_getElem hjl
    refine next_drawn h1 h3 h2 hd hf rfl hj he fun h' hit' hs' => ?_
    obtain ⟨op, cp, hop, hdp⟩ := h3
    refine hQ _ h' s.toks ?_ ⟨hit', hs'.extBut a o hne h2, op, cp, hs'.extBut P op hPI hop, hdp⟩ fun b o hb e => hs'.extBut b o (fun h => hb (by simp [h])) e
    have ef : (pl.filterMap fun j => (es[j]?).map (·.2)) = pl.map fun j => (es.getD j (0, .none)).2 := by
      refine fmap_some fun x hx => ?_
      have hxl : x < es.size := List.mem_range.mp (hp.mem_iff.mp hx)
      simp [Array.getD, hxl]
    rw [ef, List.getElem?_map, hj]
    simp [Array.getD, hjl]
  done := fun s Q E st hQ => by
    obtain ⟨h1, h2, h3⟩ := st
    have hlen : pl.length = es.size := by rw [hp.length_eq, List.length_range]
    exact next_drawn_end hh h1 h3 h2 hd hf rfl (List.getElem?_eq_none (by omega)) fun h' he' => hQ h' s.toks fun b o hb e => he' b o (fun h => hb (by simp [h])) e
  self := fun _ _ _ _ st hQ => si_self st.1 hQ
end
end L2.PU
namespace L2.PU
open PySem PySem.Spec PyProof.Rows
noncomputable def Jwalk (w : World) (J : SetTable → Nat → Prop) : Prop := ∀ t n, J t n → t.fits n = true → byTx w = false → t.led = true ∧ ((!t.plain && decide (n > 1)) = false → Rise t.place)
theorem js_walk (w : World) : Jwalk w (Js (!byTx w)) := fun t n ⟨j1, j2⟩ hf hb => by
  rw [hb] at j1
  refine ⟨j1, fun hnd => ?_⟩
  have hsz : t.place.size = n := by
    simp only [SetTable.fits, Bool.and_eq_true, beq_iff_eq] at hf
    exact hf.1
  refine rise0 ?_
  rw [hsz]
  rcases j2 with z | z
  · omega
  · rw [z] at hnd
    simp at hnd
    exact hnd
section
variable {prog : Program} {w : World} {K : Type} [DecidableEq K] {knd : KeyKind prog w K} {kf : Value → K} {J : SetTable → Nat → Prop}
variable {A : Around} {E : Value → Shared → Prop} {s : Shared} {a : Addr} {σ : List K}
theorem SetJ.typeIs (h : SetJ knd kf J s.heap a σ) : s.TypeIs (.ref a) "set" := let ⟨o, _, _, _, ho, hex, _⟩ := h; ⟨o, ho, hex.1⟩
theorem set_iter (hw : Jwalk w J) (hS : SetJ knd kf J s.heap a σ) {Q : Value → Shared → Prop}
    (h : ∀ (h' : Heap) (dr : Drawn) (I : Addr) (vs : List Value) (fp : List Addr) (St : Nat → Heap → Prop), (vs.map kf).Perm σ → (∀ v ∈ vs, ∃ k, knd.is k v = true) → s.heap.objs.size ≤ I → (∀ b o, s.heap.get? b = some o → h'.get? b = some o) →
      (∀ b ∈ fp, b = a ∨ s.heap.objs.size ≤ b) → (∀ A' : Around, A'.handled = none → Walks prog w A' I fp [I] vs.length (fun i v => vs[i]? = some v) St) → St 0 h' → Q (.ref I) { s with heap := h', drawn := dr }) :
    wpAny (model prog w) A (pyIter (.ref a)) Q E s := by
  have hT := hS.typeIs
  obtain ⟨o, es, ep, t, ho, hex, hd, hel, hpm, hb, hf, hj⟩ := hS
  have hlt := Heap.lt_size ho
  have kys : ∀ vs : List Value, vs.Perm (es.toList.map (·.2)) → (vs.map kf).Perm σ ∧ ∀ v ∈ vs, ∃ k, knd.is k v = true := fun vs hv => by
    refine ⟨((hv.map kf).trans ?_).trans hpm, fun v hvm => ?_⟩
    · rw [List.map_map]
      exact List.Perm.refl _
    · obtain ⟨e, he, rfl⟩ := List.mem_map.mp (hv.mem_iff.mp hvm)
      obtain ⟨⟨k, hk, _⟩, _⟩ := hel e he
      exact ⟨k, hk⟩
  refine wpAny_pyIter_slot hT PySem.F.slot_set_iter (wpAny_call_entry PySem.F.slot_set_iter hT entry_set_iter ?_ (PySem.F.args_set_iter_1 _))
  unfold Builtin.«frozenset.__iter__»
  refine wpAny_bind (m := Builtin.Frozenset.slot0 "__iter__" _) (wpAny_bind (m := slotArgs "__iter__" 0 _) (wpAny_pure (wpAny_pure ?_)))
  refine wpAny_bind (m := Builtin.Frozenset.sizeOf a) (wpAny_bind (wpAny_setEntries_of ho hd hf (wpAny_pure ?_)))
  refine wpAny_bind (m := setDrawn a) (wpAny_bind (wpAny_setState_of ho hd hf ?_))
  dsimp only
  refine wpAny_bind (bytx_any (wpAny_pure ?_))
  refine (show wpAny _ _ (if (!byTx w && (!t.plain && decide (es.size > 1))) = true then _ else _) _ _ s from ?_)
  have plainWay : (!byTx w && (!t.plain && decide (es.size > 1))) = false → ∀ (vs : List Value) (St : Nat → Heap → Prop), vs.Perm (es.toList.map (·.2)) →
      (∀ A' : Around, A'.handled = none → Walks prog w A' s.heap.objs.size [s.heap.objs.size, a] [s.heap.objs.size] vs.length (fun i v => vs[i]? = some v) St) →
      St 0 (s.heap.push { cls := .type "set_iterator", data := .fields #[.int 0 0, .int 0 0, .ref a, .int es.size 0, .int ep 0] }) →
      Q (.ref s.heap.objs.size) { s with heap := s.heap.push { cls := .type "set_iterator", data := .fields #[.int 0 0, .int 0 0, .ref a, .int es.size 0, .int ep 0] } } := fun _ vs St hv hW h0 =>
    h _ s.drawn _ vs _ St (kys vs hv).1 (kys vs hv).2 (Nat.le_refl _) (fun b o e => Heap.get?_push_of_some _ e) (fun b hb => by
      simp only [List.mem_cons, List.not_mem_nil, or_false] at hb
      rcases hb with rfl | rfl
      · exact .inr (Nat.le_refl _)
      · exact .inl rfl) hW h0
  have hne : a ≠ s.heap.objs.size := Nat.ne_of_lt hlt
  have isi : IsSi (s.heap.push { cls := .type "set_iterator", data := .fields #[.int 0 0, .int 0 0, .ref a, .int es.size 0, .int ep 0] }) s.heap.objs.size a (.int 0 0) 0 es.size ep := ⟨_, Heap.get?_push_size _ rfl, rfl, rfl⟩
  have oa : (s.heap.push { cls := .type "set_iterator", data := .fields #[.int 0 0, .int 0 0, .ref a, .int es.size 0, .int ep 0] }).get? a = some o := Heap.get?_push_of_some _ ho
  cases hdr : (!byTx w && (!t.plain && decide (es.size > 1))) with
  | false =>
    rw [if_neg (by decide)]
    refine wpAny_bind (wpAny_pure ?_)
    refine wpAny_bind (wpAny_setEpoch_of ho hd hf ?_)
    refine wpAny_bind (m := newFields _ _) (wpAny_newObj_type ?_ (by size_fits))
    refine wpAny_pure ⟨_, rfl, "set_iterator", _, ⟨_, Heap.get?_push_size _ rfl, rfl⟩, slot_si_next.lookup, ?_⟩
    cases hbt : byTx w with
    | true =>
      have pp : (pickOrder (w.params.setOrder a ep) es).toList.Perm es.toList := by
        have := pick_perm (w.params.setOrder a ep) es.size 0 es.toList #[] (by simp)
        simpa [pickOrder] using this
      have hl : ((pickOrder (w.params.setOrder a ep) es).toList.map (·.2)).length = es.size := by rw [List.length_map, pp.length_eq, Array.length_toList]
      refine plainWay hdr ((pickOrder (w.params.setOrder a ep) es).toList.map (·.2)) (fun i h => (∃ slot : Nat, IsSi h s.heap.objs.size a (.int slot 0) i es.size ep) ∧ h.get? a = some o) (pp.map _) (fun A' hA' => ?_) ⟨⟨0, isi⟩, oa⟩
      rw [hl]
      exact walks_text hbt hd hf hne hA'
    | false =>
      rw [hbt] at hdr
      have hdr' : (!t.plain && decide (es.size > 1)) = false := by simpa using hdr
      obtain ⟨h1, h2⟩ := hw t es.size hj hf hbt
      have hl : (es.toList.map (·.2)).length = es.size := by rw [List.length_map, Array.length_toList]
      refine plainWay (by rw [hbt]; exact hdr) (es.toList.map (·.2)) (fun i h => IsSi h s.heap.objs.size a (.int (slN t.place i : Nat) 0) i es.size ep ∧ h.get? a = some o) (List.Perm.refl _) (fun A' hA' => ?_) ⟨isi, oa⟩
      rw [hl]
      exact walks_tab hbt hd hf hdr' h1 (h2 hdr') hne hA'
  | true =>
    rw [if_pos rfl]
    refine wpAny_bind (draw_any es.size (List.range es.size) s _ (by simp) fun pl dr hp => ?_)
    refine wpAny_bind (m := newTuple (pl.map fun i : Nat => rawInt i)) ?_
    have hlp : pl.length = es.size := by rw [hp.length_eq, List.length_range]
    unfold newTuple
    refine wpAny_newObj_type ?_ (by
      show (pl.map fun i : Nat => rawInt i).toArray.size ≤ sizeLine
      rw [List.size_toArray, List.length_map, hlp]
      exact fits_of_scanBound hb)
    have ho1 : (s.heap.push { cls := .type "tuple", data := .seq (pl.map fun i : Nat => rawInt i).toArray }).get? a = some o := Heap.get?_push_of_some _ ho
    refine wpAny_bind (wpAny_setEpoch_of (s := { s with heap := s.heap.push { cls := .type "tuple", data := .seq (pl.map fun i : Nat => rawInt i).toArray }, drawn := dr }) ho1 hd hf ?_)
    refine wpAny_bind (m := newFields _ _) (wpAny_newObj_type ?_ (by size_fits))
    refine wpAny_pure ⟨_, rfl, "set_iterator", _, ⟨_, Heap.get?_push_size _ rfl, rfl⟩, slot_si_next.lookup, ?_⟩
    have ef : (pl.filterMap fun j => (es[j]?).map (·.2)) = pl.map fun j => (es.getD j (0, .none)).2 := fmap_some fun x hx => by
      have hxl : x < es.size := List.mem_range.mp (hp.mem_iff.mp hx)
      simp [Array.getD, hxl]
    have pv : (pl.filterMap fun j => (es[j]?).map (·.2)).Perm (es.toList.map (·.2)) := by
      rw [ef]
      refine (hp.map _).trans ?_
      have : (List.range es.size).map (fun j => (es.getD j (0, .none)).2) = es.toList.map (·.2) := by
        refine List.ext_getElem (by simp) fun i h1 h2 => ?_
        have : i < es.size := by simpa using h1
        simp [Array.getD, this]
      rw [this]
    have hl : (pl.filterMap fun j => (es[j]?).map (·.2)).length = es.size := by rw [ef, List.length_map, hlp]
    have hsz : (s.heap.push { cls := .type "tuple", data := .seq (pl.map fun i : Nat => rawInt i).toArray }).objs.size = s.heap.objs.size + 1 := Heap.size_push ..
    refine h _ dr _ (pl.filterMap fun j => (es[j]?).map (·.2)) [(s.heap.push { cls := .type "tuple", data := .seq (pl.map fun i : Nat => rawInt i).toArray }).objs.size, a, s.heap.objs.size] (fun i h => IsSi h (s.heap.push { cls := .type "tuple", data := .seq (pl.map fun i : Nat => rawInt i).toArray }).objs.size a (.ref s.heap.objs.size) i es.size ep ∧ h.get? a = some o ∧ IsPl h s.heap.objs.size pl) (kys _ pv).1 (kys _ pv).2 (by rw [hsz]; omega) (fun b o e => Heap.get?_push_of_some _ (Heap.get?_push_of_some _ e)) (fun b hb => ?_) (fun A' hA' => ?_) ⟨⟨_, Heap.get?_push_size _ rfl, rfl, rfl⟩, Heap.get?_push_of_some _ ho1, ⟨_, _, Heap.get?_push_of_some _ (Heap.get?_push_size _ rfl), rfl⟩⟩
    · simp only [List.mem_cons, List.not_mem_nil, or_false] at hb
      rcases hb with rfl | rfl | rfl
      · exact .inr (by rw [hsz]; omega)
      · exact .inl rfl
      · exact .inr (Nat.le_refl _)
    · rw [hl]
      exact walks_drawn hd hf hp (by rw [hsz]; exact Nat.ne_of_lt (Nat.lt_succ_of_lt hlt)) (by rw [hsz]; exact Nat.ne_of_lt (Nat.lt_succ_self _)) hA'
end
end L2.PU
namespace L2.PU
open PySem PySem.Spec PyProof.Rows
section
variable {prog : Program} {w : World} {K : Type} [DecidableEq K] {knd : KeyKind prog w K} {kf : Value → K} {J : SetTable → Nat → Prop}
variable {A : Around} {E : Value → Shared → Prop} {s : Shared} {a : Addr} {σ : List K}
omit [DecidableEq K] in
theorem set_hint {r : Addr} {Q : Bool → Shared → Prop} (hT : s.TypeIs (.ref r) "set") (h : Q false s) : wpAny (model prog w) A (Builtin.List.listLengthHint (.ref r)) Q E s := by
  unfold Builtin.List.listLengthHint
  refine wpAny_bind (wpAny_specialOf hT PySem.F.slot_set_len.lookup ?_)
  generalize hid : ("set.__len__" : String) = id0
  wp_delta
  rw [show splitId id0 = some ("set", "__len__") from by subst hid; decide +kernel]
  subst hid
  refine wpAny_bind (wpAny_isInstance (T := "set") (b := true) hT (by rw [isSubtype_type]; kernel_rfl) ?_)
  refine wpAny_ite_split (fun hab => absurd hab (by decide)) (fun _ => ?_)
  refine wpAny_ite_split (fun _ => ?_) (fun hab => absurd (by decide +kernel) hab)
  refine wpAny_bind (wpAny_typeOf hT ?_)
  exact wpAny_pure h
theorem set_extend {R : Result → Shared → Prop} (hw : Jwalk w J) (hS : SetJ knd kf J s.heap a σ) (hh : A.handled = none) (hσ : σ.length ≤ sizeLine) (S : Addr) (hSa : S ≠ a) (res : Value) (c₀ : Nat) (hSo : s.heap.get? S = some { cls := .type "list", data := .seq #[] c₀ })
    (hR : ∀ h' tk dr (vs : List Value) c', (vs.map kf).Perm σ → (∀ v ∈ vs, ∃ k, knd.is k v = true) → (∀ b o, b ≠ S → s.heap.get? b = some o → h'.get? b = some o) → h'.get? S = some { cls := .type "list", dict := none, data := .seq vs.toArray c', slots := #[] } → R (.ok (.ret res)) { s with heap := h', toks := tk, drawn := dr }) :
    wpAny (model prog w) A.in1 (Builtin.List.listExtendWith (.ref S) (.ref a) res)
      (fun fin s' => match fin with | .done f => R (.ok f) s' | .again c' => c'.quiet = true ∧ codeAny (model prog w) A c' R s') (fun e s' => R (.error e) s') s := by
  have hSlt := Heap.lt_size hSo
  unfold Builtin.List.listExtendWith
  refine wpAny_bind (wpAny_typeOf (T := "set") hS.typeIs ?_)
  have h1 : Builtin.List.listSameRef (.ref S) (.ref a) = false := by simp [Builtin.List.listSameRef, hSa]
  have n1 : (Value.type "set" == Value.type "list") = false := by decide
  have n2 : (Value.type "set" == Value.type "tuple") = false := by decide
  simp only [h1, n1, n2, Bool.or_false, Bool.false_eq_true, if_false]
  refine wpAny_bind (set_iter hw hS fun h1 dr I vs fp St hpm hkv hI hk hfp hW st => ?_)
  have hSf : S ∉ fp := fun z => by
    rcases hfp S z with z | z
    · exact hSa z
    · exact absurd hSlt (Nat.not_lt.mpr z)
  have W := hW A.in1 hh
  have hlv : vs.length = σ.length := by rw [← hpm.length_eq, List.length_map]
  have key : ∀ (h : Heap) (c₁ tk : Nat), St 0 h → (∀ b o, b ≠ S → s.heap.get? b = some o → h.get? b = some o) →
      h.get? S = some { cls := .type "list", data := .seq #[] c₁ } → codeAny (model prog w) A (.builtin "list.extend.loop" ⟨[.ref S, .ref I, res], []⟩) R { s with heap := h, toks := tk, drawn := dr } := by
    intro h c₁ tk hst hk hS₁
    refine codeAny_extend_loopS W.toS (by rw [hlv]; exact hσ) S hSf res vs.length 0 _ #[] c₁ rfl (Nat.zero_le _) hst hS₁ (ItemsOf.nil _) fun s' acc' c' hm hS' hacc => ?_
    rw [Moved.eq_with hm]
    have el : acc'.toList = vs := by
      refine List.ext_getElem? fun j => ?_
      rw [Array.getElem?_toList]
      rcases Nat.lt_or_ge j vs.length with z | z
      · have : acc'[j]? = some (acc'[j]'(by rw [hacc.1]; exact z)) := Array.getElem?_eq_getElem _
        rw [this, hacc.2 j _ this]
      · rw [List.getElem?_eq_none z, Array.getElem?_eq_none (by rw [hacc.1]; exact z)]
    have eacc : acc' = vs.toArray := by rw [← el]
    subst eacc
    refine hR s'.heap s'.toks dr vs c' hpm hkv (fun b o hb e => hm.heap b o (fun hmem => ?_) (hk b o hb e)) hS'
    rcases List.mem_cons.mp hmem with e' | hmem
    · exact hb e'
    · exact absurd (Heap.lt_size e) (by rw [List.mem_singleton.mp hmem]; exact Nat.not_lt.mpr hI)
  have hS₁ : h1.get? S = some { cls := .type "list", data := .seq #[] c₀ } := hk S _ hSo
  have hS2 : SetJ knd kf J h1 a σ := hS.at fun o e => hk a o e
  refine wpAny_bind (wpAny_holding (set_hint (s := { s with heap := h1, drawn := dr }) (SetJ.typeIs (s := { s with heap := h1, drawn := dr }) hS2) ?_))
  refine wpAny_ite_split (fun _ => ?_) (fun _ => wpAny_pure ⟨plainId_quiet PySem.F.plain_extend_loop _, key _ c₀ _ st (fun b o _ e => hk b o e) hS₁⟩)
  refine wpAny_bind (wpAny_rule ?_)
  refine wpAny_bind ?_
  show wpAny _ _ (updateSeq S (·.push .none) >>= fun _ => updateSeq S (·.pop)) _ _ _
  refine wpAny_bind (wpAny_updateSeq hS₁ rfl ?_)
  have hS₂ := Heap.get?_update_self (Obj.mapSeq (·.push Value.none)) hS₁ rfl
  refine wpAny_updateSeq (hz := by seq_fits) hS₂ rfl ?_
  have hS₃ := Heap.get?_update_self (Obj.mapSeq (·.pop)) hS₂ rfl
  refine wpAny_pure ⟨plainId_quiet PySem.F.plain_extend_loop _, key _ _ _ ?_ (fun b o hb e => ?_) hS₃⟩
  · refine W.frame 0 _ _ st fun b hb o e => ?_
    have hbS : b ≠ S := fun h => hSf (h ▸ hb)
    exact (Heap.get?_update_other _ _ (Ne.symm hbS)).trans ((Heap.get?_update_other _ _ (Ne.symm hbS)).trans e)
  · exact (Heap.get?_update_other _ _ (Ne.symm hb)).trans ((Heap.get?_update_other _ _ (Ne.symm hb)).trans (hk b o e))
theorem set_collect {Q : List Value → Shared → Prop} (hw : Jwalk w J) (hS : SetJ knd kf J s.heap a σ) (hh : A.handled = none) (hσ : σ.length ≤ sizeLine)
    (hQ : ∀ h' tk dr (vs : List Value), (vs.map kf).Perm σ → (∀ v ∈ vs, ∃ k, knd.is k v = true) → (∀ b o, s.heap.get? b = some o → h'.get? b = some o) → s.heap.objs.size < h'.objs.size → Q vs { s with heap := h', toks := tk, drawn := dr }) :
    wpAny (model prog w) A (collect (.ref a)) Q E s := by
  unfold collect
  refine wpAny_bind (wpAny_runValue (codeAny_builtin entry_proto_collect' ?_))
  show wpAny _ _ (do again (.builtin "list.__iadd__" ⟨[← newList [], .ref a], []⟩)) _ _ s
  refine wpAny_bind (wpAny_newList (wpAny_pure ⟨Code.quiet_builtin _ (by decide +kernel), codeAny_builtin entry_list_iadd' ?_⟩))
  show wpAny _ _ (Builtin.List.listExtendWith (.ref s.heap.objs.size) (.ref a) (.ref s.heap.objs.size)) _ _ { s with heap := s.heap.push (seqObj "list" #[] 0) }
  rw [Around.under_plainId (by decide +kernel)]
  have hlt : a < s.heap.objs.size := by
    obtain ⟨o, _, _, _, ho, _⟩ := hS
    exact Heap.lt_size ho
  have fin : ∀ h' tk dr (vs : List Value) c', (vs.map kf).Perm σ → (∀ v ∈ vs, ∃ k, knd.is k v = true) → (∀ b o, s.heap.get? b = some o → h'.get? b = some o) → h'.get? s.heap.objs.size = some { cls := .type "list", dict := none, data := .seq vs.toArray c', slots := #[] } →
      wpAny (model prog w) A (do
      let o ← load s.heap.objs.size
      match o.data with
      | .seq xs _ => pure xs.toList
      | _ => unsupported "internal:collect") Q E { s with heap := h', toks := tk, drawn := dr } := fun h' tk dr vs c' h1 h2 hk hS' => wpAny_bind (wpAny_load hS' (wpAny_pure (hQ h' tk dr vs h1 h2 hk (Heap.lt_size hS'))))
  refine wpAny_mono (set_extend (s := { s with heap := s.heap.push (seqObj "list" #[] 0) }) (R := fun r s' => ∃ h' tk dr vs c', r = .ok (.ret (.ref s.heap.objs.size)) ∧ s' = { s with heap := h', toks := tk, drawn := dr } ∧ (vs.map kf).Perm σ ∧ (∀ v ∈ vs, ∃ k, knd.is k v = true) ∧ (∀ b o, s.heap.get? b = some o → h'.get? b = some o) ∧
      h'.get? s.heap.objs.size = some { cls := .type "list", dict := none, data := .seq vs.toArray c', slots := #[] }) hw (hS.at fun o e => Heap.get?_push_of_some _ e) hh hσ s.heap.objs.size (Nat.ne_of_gt hlt) (.ref s.heap.objs.size) 0 (Heap.get?_push_size _ rfl)
      (fun h' tk dr vs c' h1 h2 hk hS' => ⟨h', tk, dr, vs, c', rfl, rfl, h1, h2, fun b o e => hk b o (Nat.ne_of_lt (Heap.lt_size e)) (Heap.get?_push_of_some _ e), hS'⟩)) (fun f s' hf => ?_) fun e s' he => ?_
  · cases f with
    | done f =>
      obtain ⟨h', tk, dr, vs, c', e1, e2, e3, e4, e5, e6⟩ := hf
      cases e1
      subst e2
      exact fin h' tk dr vs c' e3 e4 e5 e6
    | again c =>
      refine ⟨hf.1, codeAny_mono hf.2 fun r s' hr => ?_⟩
      obtain ⟨h', tk, dr, vs, c', e1, e2, e3, e4, e5, e6⟩ := hr
      subst e1 e2
      exact fin h' tk dr vs c' e3 e4 e5 e6
  · obtain ⟨h', tk, dr, vs, c', e1, _⟩ := he
    cases e1
end
noncomputable def kfS : Value → Str
  | .str s _ => s
  | _ => ""
theorem kfS_ok {prog : Program} {w : World} : ∀ k v, (strKind prog w).is k v = true → kfS v = k := fun k v h => by
  obtain ⟨t, rfl⟩ := Value.isStrOf_shape h
  rfl
theorem strs_of_keys {prog : Program} {w : World} : ∀ (vs : List Value), (∀ v ∈ vs, ∃ k, (strKind prog w).is k v = true) → StrsAre vs (vs.map kfS)
  | [], _ => .nil
  | v :: r, h => by
    obtain ⟨k, hk⟩ := h v List.mem_cons_self
    obtain ⟨t, rfl⟩ := Value.isStrOf_shape hk
    exact .cons _ t (strs_of_keys r fun x hx => h x (List.mem_cons_of_mem _ hx))
section
variable {prog : Program} {w : World} {A : Around} {E : Value → Shared → Prop} {s : Shared} {a : Addr} {σ : List Str}
theorem sorted_setS {Q : Value → Shared → Prop} {J : SetTable → Nat → Prop} (hw : Jwalk w J) (hS : SetJ (strKind prog w) kfS J s.heap a σ) (hh : A.handled = none) (h64 : σ.length < 64)
    (h : ∀ (h' : Heap) (p : Addr) (tk c : Nat) (dr : Drawn) (out : Array Value) (ss' : List Str), StrsAre out.toList ss' → ss'.Perm σ → sortedS ss' = true → (∀ b o, s.heap.get? b = some o → h'.get? b = some o) → s.heap.objs.size ≤ p → h'.get? p = some (seqObj "list" out c) → Q (.ref p) { s with heap := h', toks := tk, drawn := dr }) :
    wpAny (model prog w) A (call (.builtin "sorted") [.ref a]) Q E s := by
  refine Calls.call_function_entry kind_sorted plain_sorted entry_sorted (args_sorted1 _) ?_
  unfold Builtin.«sorted»
  refine wpAny_bind (m := checkCount "sorted" 1 1 _) (wpAny_pure ?_)
  refine wpAny_bind (set_collect hw hS hh (by rw [sizeLine_eq]; omega) fun h' tk dr vs hpm hkv kp hsz => ?_)
  have hlv : vs.length = σ.length := by rw [← hpm.length_eq, List.length_map]
  have hl : vs.length < 64 := by omega
  have sa := strs_of_keys vs hkv
  refine wpAny_bind (wpAny_newList ?_ (hsz := by rw [sizeLine_eq]; omega))
  have hoL : (h'.push (seqObj "list" vs.toArray 0)).get? h'.objs.size = some (seqObj "list" vs.toArray 0) := Heap.get?_push_size _ rfl
  show wpAny _ _ _ _ _ { s with heap := h'.push (seqObj "list" vs.toArray 0), toks := tk, drawn := dr }
  refine wpAny_bind (wpAny_holding (wpAny_call_entry slot_list_sort ⟨_, hoL, rfl⟩ entry_list_sort (list_sort_treeK strKind_oneLt hoL sa.keysOf (fun v₁ v₂ rest e => keyKind_strs (by rw [← e]; exact sa)) hl fun st' hp hs => ⟨_, rfl, ?_⟩) (args_list_sort _)))
  obtain ⟨ss', a1, a2, a3⟩ := sorted_out_str sa hp hs
  obtain ⟨c, hc⟩ := sortedHeap_at (out := (arrOf st').map (·.2)) hoL
  refine wpAny_pure ⟨_, rfl, h _ _ tk c dr _ ss' a1 (a2.trans hpm) a3 (fun b o e => ?_) ?_ hc⟩
  · have h1 := kp b o e
    have lt := Heap.lt_size h1
    show (sortedHeap (h'.push (seqObj "list" vs.toArray 0)) h'.objs.size vs _).get? b = some o
    rw [sortedHeap_old (Nat.ne_of_lt lt) (by rw [size_push']; exact Nat.lt_succ_of_lt lt)]
    exact Heap.get?_push_of_some _ h1
  · exact Nat.le_of_lt hsz
end
end L2.PU
namespace L2.PU
open PySem PySem.Spec PyProof.Rows
section
variable {X : Cx} {B : Bd} {e : Expr} {fs : En → Option (List PyData)} {p1 p2 q1 q2 : Pos}
theorem inv_draw {pins : List (Addr × Obj)} {σ : St} {H : Hp} {s : Shared} (I : Inv X pins σ H s) (dr : Drawn) : Inv X pins σ H { s with drawn := dr } := ⟨I.ok, I.os, I.bare, I.base, I.loc, I.cell, I.free, I.freeC, I.pin, I.hok, I.len⟩
theorem str_at : ∀ {vs : List Value} {ss : List Str}, StrsAre vs ss → ∀ (i : Nat) (v : Value), vs[i]? = some v → ∃ t, v = .str (ss.getD i "") t
  | _, _, .nil, i, v, h => by simp at h
  | _, _, .cons n t hr, 0, v, h => by simp at h; exact ⟨t, by rw [← h]; rfl⟩
  | _, _, .cons n t hr, i + 1, v, h => by
    simp only [List.getElem?_cons_succ] at h
    obtain ⟨t', e⟩ := str_at hr i v h
    exact ⟨t', by rw [e]; rfl⟩
theorem sa_len : ∀ {us : List Value} {ss : List Str}, StrsAre us ss → us.length = ss.length
  | _, _, .nil => rfl
  | _, _, .cons _ _ h => by simp [sa_len h]
theorem fmet_list (ss : List Str) : fmet (fun i => ss.getD i "") ss.length = ss.foldl sd [] := by
  unfold fmet
  congr 1
  refine List.ext_getElem (by simp) fun i h1 h2 => ?_
  simp [List.getD_eq_getElem?_getD, h2]
theorem sd_len (ss : List Str) : (ss.foldl sd []).length ≤ ss.length := by
  rw [← fmet_list]
  exact fmet_le _ _
noncomputable def pSortSet (ds : List PyData) : Option PyData := match ds with
  | [.list xs] => if xs.length < 64 then (asSs xs).bind fun ss => some (.list ((srtS (ss.foldl sd [])).map PyData.str)) else none
  | _ => none
theorem E.sortedSet {k : Nat} (hr : Room k X.A) (hl : X.mg "sorted" = none) (hm : X.mg "set" = none) (ha : A X B [e] fs) (hg : Gl X "sorted" := by rfl) (hg2 : Gl X "set" := by rfl)
    (he : starEach [e] X.env = (false, eval e X.env) :: starEach [] X.env := by exact star_of rfl) (hpl : (backTo q2 (starEach [] X.env)).any (·.1) = false := by rfl)
    (he2 : starEach [.Call (.Name "set" p2) [e] [] q2] X.env = (false, eval (.Call (.Name "set" p2) [e] [] q2) X.env) :: starEach [] X.env := by exact star_of rfl) (hpl2 : (backTo q1 (starEach [] X.env)).any (·.1) = false := by rfl) :
    E X B (.Call (.Name "sorted" p1) [.Call (.Name "set" p2) [e] [] q2] [] q1) (lA pSortSet fs) := by
  intro pins s σ H Q I ⟨F, η, d, sr, hd, q⟩
  obtain ⟨ds, h1, hd⟩ := bind_some hd
  unfold pSortSet at hd
  split at hd
  · rename_i x
    split at hd
    · rename_i hlen
      obtain ⟨ss, h2, hd⟩ := bind_some hd
      cases hd
      have ex := asSs_some h2
      refine wpAny_Call_Name_kw (ld_blt I hg hl boot_sorted ?_ (by decide) (by decide))
      refine PyProof.Rows.callWith_builtin1 ?_ he2 hpl2
      rw [he2]
      show wpAny _ _ (spliced ((false, eval (.Call (.Name "set" p2) [e] [] q2) X.env) :: backTo q1 (starEach [] X.env))) _ _ s
      refine Calls.spliced_cons ?_
      refine wpAny_Call_Name_kw (ld_blt I hg2 hm PyProof.Rows.boot_set ?_ (by decide) (by decide))
      refine PyProof.Rows.callWith_type1 (thn (ha q2 pins s σ H (fun vs H1 => ∃ F', Gr F H F' H1 ∧ RelL X.K F' [.list x] vs) I ⟨F, η, _, sr, h1, fun vs F' H' g r => ⟨F', g, r⟩⟩) fun us s1 ⟨vs, H1, I1, r1, F1, g1, rl⟩ => ?_) he hpl
      obtain ⟨v1, r, rfl, ry1, rr⟩ := rl.cons_of
      obtain rfl := rr.nil_of
      obtain ⟨l, xs, rfl, hq1, rs1⟩ := ry1.lst
      obtain ⟨u1, rfl, ru1⟩ := vals1 r1
      cases ru1
      obtain ⟨its, rv, pl, hz⟩ := I1.list (g1.fh.seq hq1)
      rw [ex] at rs1
      have exs := rs1.strs_of
      rw [exs] at rv
      have sa : StrsAre its ss := strsAre_of rv
      have el : its.length = ss.length := sa_len sa
      have lss : ss.length < 64 := by
        rw [ex, List.length_map] at hlen
        exact hlen
      refine call_set_J (knd := strKind X.prog X.w) (kf := kfS) kfS_ok (js_ok (!byTx X.w)) ⟨rfl, .inl rfl⟩ (val := fun i => ss.getD i "") hr.hd pl.isList (fun i v hv => ?_) (by show its.toArray.size + 1 < 4096; rw [List.size_toArray]; omega) fun h' tk hS hk => ?_
      · obtain ⟨t, rfl⟩ := str_at sa i v (by simpa using hv)
        exact ⟨by simp [PySem.strKind, Value.isStrOf], rfl, rfl⟩
      have hk' : ∀ b o, s1.heap.get? b = some o → h'.get? b = some o := fun b o e => hk b o (Heap.lt_size e) e
      have I2 : Inv X pins σ H1 { s1 with heap := h', toks := tk } := I1.kept (t' := tk) hk'
      rw [show fmet (fun i => ss.getD i "") its.toArray.size = ss.foldl sd [] by rw [List.size_toArray, el, fmet_list]] at hS
      refine Calls.spliced_nil ?_
      have ls := sd_len ss
      refine sorted_setS (s := { s1 with heap := h', toks := tk }) (js_walk X.w) hS hr.hd (by omega) fun h2 p tk2 c dr out ss' a1 a2 a3 kp hle hat => ?_
      have e3 := srtS_uniq a2 a3
      subst e3
      have hv := vals_strs a1
      refine ⟨.ref p, upd H1 p (.lst ((srtS (ss.foldl sd [])).map V.str)), inv_draw (I2.laid (t' := tk2) (o := .lst ((srtS (ss.foldl sd [])).map V.str)) kp hle ⟨?_, out.toList, c, hv, by simpa using hat⟩) dr, rfl, ?_⟩
      · rw [List.length_map, a2.length_eq, sizeLine_eq]
        omega
      · have g2 := Gr.one (o := .lst ((srtS (ss.foldl sd [])).map V.str)) g1.fh (I2.hok.fresh hle)
        exact q _ _ _ (g1.trans g2) (rel_lst (SqL.of upd_same) (RelL.strs _))
    · cases hd
  · cases hd
end
end L2.PU
namespace L2.PU
open PySem PySem.Spec PyProof.Rows
section
variable {prog : Program} {w : World} {A : Around} {E : Value → Shared → Prop} {s : Shared}
noncomputable abbrev ZipO (h : Heap) (z TI TO T0 : Addr) (b : Bool) : Prop :=
  h.get? z = some { cls := .type "zip", dict := none, data := .fields #[rawInt T0, .bool b, .bool false, .ref TI, .ref TO], slots := #[] }
end
end L2.PU
namespace L2.PU
open PySem PySem.Spec PyProof.Rows
section
variable {prog : Program} {w : World} {A : Around} {E : Value → Shared → Prop} {s : Shared}
noncomputable def LaidP (m : Nat) (h : Heap) (acc : Array Value) (ps : List (Value × Value)) : Prop := acc.size = ps.length ∧ ∀ (i : Nat) (a b : Value), ps[i]? = some (a, b) → ∃ T : Addr, m ≤ T ∧ acc[i]? = some (.ref T) ∧ IsPair h T a b
end
end L2.PU
namespace L2.PU
open PySem PySem.Spec PyProof.Rows
section
variable {prog : Program} {w : World} {A : Around} {E : Value → Shared → Prop} {R : Result → Shared → Prop}
structure ZSt (h : Heap) (z TI TO T0 i1 i2 l1 l2 : Addr) (xs ys : Array Value) (bb : Bool) (i : Nat) : Prop where
  zip : ZipO h z TI TO T0 bb
  t0 : ∃ a b, IsPair h T0 a b
  ti : IsPair h TI (.ref i1) (.ref i2)
  j1 : h.IsListIter i1 l1 i
  j2 : h.IsListIter i2 l2 i
  m1 : h.IsList l1 xs
  m2 : h.IsList l2 ys
end
end L2.PU
namespace L2.PU
open PySem PySem.Spec PyProof.Rows
section
variable {prog : Program} {w : World} {A : Around} {E : Value → Shared → Prop} {R : Result → Shared → Prop}
structure ZS0 (h : Heap) (z TI TO i1 i2 l1 l2 : Addr) (xs ys : Array Value) : Prop where
  zip : IsZip h z TI TO .none
  ti : IsPair h TI (.ref i1) (.ref i2)
  to : ∃ a b, IsPair h TO a b
  j1 : h.IsListIter i1 l1 0
  j2 : h.IsListIter i2 l2 0
  m1 : h.IsList l1 xs
  m2 : h.IsList l2 ys
variable {s : Shared}
end
end L2.PU
namespace L2.PU
open PySem PySem.Spec PyProof.Rows
end L2.PU
namespace L2.PU
open PySem PySem.Spec PyProof.Rows
noncomputable def lay (H : Hp) (m : Nat) (N : Hp) : Hp := fun b => if m ≤ b then N b else H b
theorem lay_old {H N : Hp} {m : Nat} {b : Addr} (h : ¬ m ≤ b) : lay H m N b = H b := if_neg h
theorem lay_new {H N : Hp} {m : Nat} {b : Addr} (h : m ≤ b) : lay H m N b = N b := if_pos h
theorem inv_lays {X : Cx} {pins : List (Addr × Obj)} {σ : St} {H : Hp} {s : Shared} {h' : Heap} {N : Hp} (I : Inv X pins σ H s) (k : ∀ b u, s.heap.get? b = some u → h'.get? b = some u)
    (new : ∀ b o, s.heap.objs.size ≤ b → N b = some o → ObjOk X.prog X.w (lay H s.heap.objs.size N) h' b o) : Inv X pins σ (lay H s.heap.objs.size N) { s with heap := h' } := by
  have old : ∀ b o, H b = some o → ¬ s.heap.objs.size ≤ b := fun b o e z => by rw [I.hok.fresh z] at e; cases e
  refine I.step (h' := h') (g' := s.gens) (d' := s.drawn) (t' := s.toks) (ch := []) (fun b hb => by cases hb) (fun b o _ _ _ q _ => k b o q) (fun b o _ _ _ q _ => ⟨o.slots, k b o q⟩) (fun b o _ q n => ?_) (fun b o _ q => ⟨o, k b o q⟩) (fun b xs q => ?_) (fun b o u q => ?_) (fun b ps q => ⟨#[], ?_⟩) (fun m hm => ?_) (fun b o q => ?_) I.bare
  · rw [lay_old (Nat.not_le.mpr (Heap.lt_size q))]; exact n
  · rw [lay_old (old b _ q)]; exact q
  · rw [lay_old (old b _ q)]; exact q
  · rw [lay_old (old b _ q), q]; simp
  · obtain ⟨o, es, ep, ho, r⟩ := hm
    exact ⟨o, es, ep, k _ o ho, r⟩
  · by_cases hb : s.heap.objs.size ≤ b
    · rw [lay_new hb] at q
      exact new b o hb q
    · rw [lay_old hb] at q
      exact (I.hok b o q).stay (fun c u _ z => k c u z) (fun c z => by rw [lay_old (old _ _ z)]; exact z) fun c xs z => by rw [lay_old (old _ _ z)]; exact z
theorem gr_lay {F H N : Hp} {m : Nat} (sm : Same F H) (fr : ∀ b, m ≤ b → H b = none) : Gr F H (lay F m N) (lay H m N) := by
  have fF : ∀ b o, F b = some o → ¬ m ≤ b := fun b o e z => absurd (sm b o e) (by rw [fr b z]; simp)
  have fH : ∀ b o, H b = some o → ¬ m ≤ b := fun b o e z => by rw [fr b z] at e; cases e
  refine ⟨fun c u z => ?_, fun c u z => ?_, fun c u z => ?_, fun c z => ?_⟩
  · rw [lay_old (fF c u z)]; exact z
  · rw [lay_old (fH c u z)]; exact z
  · by_cases hc : m ≤ c
    · rw [lay_new hc] at z ⊢; exact z
    · rw [lay_old hc] at z ⊢; exact sm c u z
  · by_cases hc : m ≤ c
    · exact .inr (fr c hc)
    · rw [lay_old hc] at z; exact .inl z
theorem relL_get {K : PySem.W.Frag} {F : Hp} : ∀ {ds : List PyData} {vs : List V}, ds.length = vs.length → (∀ (i : Nat) (d : PyData), ds[i]? = some d → ∃ v, vs[i]? = some v ∧ Rel K F d v) → RelL K F ds vs
  | [], [], _, _ => .nil
  | [], _ :: _, h, _ => by simp at h
  | _ :: _, [], h, _ => by simp at h
  | d :: ds, v :: vs, h, hr => by
    obtain ⟨v', e, r⟩ := hr 0 d rfl
    simp at e
    subst e
    exact .cons r (relL_get (by simpa using h) fun i d' e => by
      obtain ⟨v', e', r'⟩ := hr (i + 1) d' (by simpa using e)
      exact ⟨v', by simpa using e', r'⟩)
noncomputable def pZipL (ds : List PyData) : Option PyData := match ds with
  | [.list x, .list y] => if min x.length y.length ≤ 3000000 then some (.list ((x.zip y).map fun e => PyData.tuple [e.1, e.2])) else none
  | _ => none
end L2.PU
namespace L2.PU
open PySem PySem.Spec PyProof.Rows
noncomputable def pCnt (x y : PyData) : Option PyData := match x with
  | .list ds => if flatD y = true ∧ ds.all flatD = true then some (.int ((ds.countP fun z => PyData.eqv z y : Nat) : Int)) else none
  | _ => none
section
variable {X : Cx} {B : Bd} {a e : Expr} {f g : En → Option PyData} {apos cpos : Pos}
theorem count_of {K : PySem.W.Frag} {F : Hp} {y : PyData} {w : V} (hy : flatD y = true) (ry : Rel K F y w) : ∀ {ds : List PyData} {xs : List V}, ds.all flatD = true → RelL K F ds xs → (xs.countP fun z => eqV z w) = ds.countP fun z => PyData.eqv z y
  | [], xs, _, r => by rw [r.nil_of]; rfl
  | d :: ds, xs, h, r => by
    obtain ⟨x, r', rfl, rx, rr⟩ := r.cons_of
    rw [List.all_cons, Bool.and_eq_true] at h
    rw [List.countP_cons, List.countP_cons, count_of hy ry h.2 rr, eqV_of h.1 hy rx ry]
theorem E.count (ha : E X B a f) (he : E X B e g) (hbase : attributeBase a "count" X.env (eval a X.env) = eval a X.env := by rfl)
    (hfew : ((backTo cpos (starEach [e] X.env)).all (fun x => !x.1) && (backToKw cpos (keywordEach [] X.env)).all (fun x => x.1.isSome)
      && decide ([e].length + ([] : List Keyword).length + (if ([] : List Keyword).isEmpty then 0 else 1) < 30)) = true := by rfl)
    (hline : (apos.endLine == cpos.line) = true := by rfl) (hs : starEach [e] X.env = (false, eval e X.env) :: starEach [] X.env := by exact star_of rfl) (hplain : (backTo cpos (starEach [] X.env)).any (·.1) = false := by rfl) :
    E X B (.Call (.Attribute a "count" apos) [e] [] cpos) (l2 pCnt f g) :=
  PE.imp (pe_bm PySem.F.plainAttrs_list PySem.F.slot_list_count PySem.F.type_list_count mt_cnt ha (A.cons he A.nil hs) hbase hfew hline hs hplain) fun σ H Q ⟨F, η, d, sr, hd, q⟩ => by
    obtain ⟨x, hx, hd⟩ := bind_some hd
    obtain ⟨y, hy, hd⟩ := bind_some hd
    cases x <;> simp only [pCnt, reduceCtorEq] at hd
    rename_i ds
    split at hd
    · rename_i hf
      cases hd
      refine ⟨F, η, _, sr, hx, fun v F1 H1 g1 rv => ?_⟩
      obtain ⟨p, xs, rfl, hq, r1⟩ := rv.lst
      refine ⟨.inl ⟨rfl, xs, g1.fh.seq hq⟩, F1, η, [y], sr.grow g1, (by show (g η).bind _ = _; rw [hy]; rfl), fun vs F2 H2 g2 rs => ?_⟩
      obtain ⟨w, r, rfl, rw', rr⟩ := rs.cons_of
      obtain rfl := rr.nil_of
      have r1' := r1.mono g2.ff
      refine ⟨p, xs, w, rfl, rfl, g2.fh.seq (g2.ff.seq hq), flat_of hf.1 rw', flats_of hf.2 r1', ?_⟩
      rw [count_of hf.1 rw' hf.2 r1']
      exact q _ F2 H2 (g1.trans g2) rel_int
    · cases hd
end
end L2.PU
namespace L2.PU
open PySem PySem.Spec PyProof.Rows
noncomputable def runC {α : Type} (n : Nat) (f : Nat → Nat → Bool) : PySem.W.KasT α → Option α
  | .ret a => some a
  | .ask i j k => bif Nat.blt i n && (Nat.blt j n && !Nat.beq i j) then runC n f (k (f i j)) else none
noncomputable def tstC (n : Nat) (r : List Nat) : Bool := match runC n (fun i j => Nat.blt (r.getD i 0) (r.getD j 0)) (PySem.W.kas_sort n) with
  | some p => (p.toList.map fun i => r.getD i 0) == List.range n && p.toList.isPerm (List.range n)
  | none => false
noncomputable def allC (n : Nat) : Nat → List Nat → List Nat → Bool
  | 0, _, acc => tstC n acc
  | f + 1, rem, acc => rem.all fun x => allC n f (rem.erase x) (acc ++ [x])
theorem all2 : allC 2 2 (List.range 2) [] = true := by decide +kernel
theorem all3 : allC 3 3 (List.range 3) [] = true := by decide +kernel
theorem all4 : allC 4 4 (List.range 4) [] = true := by decide +kernel
theorem all5 : allC 5 5 (List.range 5) [] = true := by decide +kernel
theorem a6_0 : allC 6 5 ((List.range 6).erase 0) [0] = true := by decide +kernel
theorem a6_1 : allC 6 5 ((List.range 6).erase 1) [1] = true := by decide +kernel
theorem a6_2 : allC 6 5 ((List.range 6).erase 2) [2] = true := by decide +kernel
theorem a6_3 : allC 6 5 ((List.range 6).erase 3) [3] = true := by decide +kernel
theorem a6_4 : allC 6 5 ((List.range 6).erase 4) [4] = true := by decide +kernel
theorem a6_5 : allC 6 5 ((List.range 6).erase 5) [5] = true := by decide +kernel
theorem all6 : allC 6 6 (List.range 6) [] = true := by
  refine List.all_eq_true.mpr fun x hx => ?_
  have hx := List.mem_range.mp hx
  match x, hx with
  | 0, _ => exact a6_0
  | 1, _ => exact a6_1
  | 2, _ => exact a6_2
  | 3, _ => exact a6_3
  | 4, _ => exact a6_4
  | 5, _ => exact a6_5
theorem a7_01 : allC 7 5 (((List.range 7).erase 0).erase 1) [0, 1] = true := by decide +kernel
theorem a7_02 : allC 7 5 (((List.range 7).erase 0).erase 2) [0, 2] = true := by decide +kernel
theorem a7_03 : allC 7 5 (((List.range 7).erase 0).erase 3) [0, 3] = true := by decide +kernel
theorem a7_04 : allC 7 5 (((List.range 7).erase 0).erase 4) [0, 4] = true := by decide +kernel
theorem a7_05 : allC 7 5 (((List.range 7).erase 0).erase 5) [0, 5] = true := by decide +kernel
theorem a7_06 : allC 7 5 (((List.range 7).erase 0).erase 6) [0, 6] = true := by decide +kernel
theorem a7_0 : allC 7 6 ((List.range 7).erase 0) [0] = true := by
  refine List.all_eq_true.mpr fun y hy => ?_
  have hy : y ∈ [1, 2, 3, 4, 5, 6] := hy
  simp only [List.mem_cons, List.not_mem_nil, or_false] at hy
  rcases hy with rfl | rfl | rfl | rfl | rfl | rfl
  · exact a7_01
  · exact a7_02
  · exact a7_03
  · exact a7_04
  · exact a7_05
  · exact a7_06
theorem a7_10 : allC 7 5 (((List.range 7).erase 1).erase 0) [1, 0] = true := by decide +kernel
theorem a7_12 : allC 7 5 (((List.range 7).erase 1).erase 2) [1, 2] = true := by decide +kernel
theorem a7_13 : allC 7 5 (((List.range 7).erase 1).erase 3) [1, 3] = true := by decide +kernel
theorem a7_14 : allC 7 5 (((List.range 7).erase 1).erase 4) [1, 4] = true := by decide +kernel
theorem a7_15 : allC 7 5 (((List.range 7).erase 1).erase 5) [1, 5] = true := by decide +kernel
theorem a7_16 : allC 7 5 (((List.range 7).erase 1).erase 6) [1, 6] = true := by decide +kernel
theorem a7_1 : allC 7 6 ((List.range 7).erase 1) [1] = true := by
  refine List.all_eq_true.mpr fun y hy => ?_
  have hy : y ∈ [0, 2, 3, 4, 5, 6] := hy
  simp only [List.mem_cons, List.not_mem_nil, or_false] at hy
  rcases hy with rfl | rfl | rfl | rfl | rfl | rfl
  · exact a7_10
  · exact a7_12
  · exact a7_13
  · exact a7_14
  · exact a7_15
  · exact a7_16
theorem a7_20 : allC 7 5 (((List.range 7).erase 2).erase 0) [2, 0] = true := by decide +kernel
theorem a7_21 : allC 7 5 (((List.range 7).erase 2).erase 1) [2, 1] = true := by decide +kernel
theorem a7_23 : allC 7 5 (((List.range 7).erase 2).erase 3) [2, 3] = true := by decide +kernel
theorem a7_24 : allC 7 5 (((List.range 7).erase 2).erase 4) [2, 4] = true := by decide +kernel
theorem a7_25 : allC 7 5 (((List.range 7).erase 2).erase 5) [2, 5] = true := by decide +kernel
theorem a7_26 : allC 7 5 (((List.range 7).erase 2).erase 6) [2, 6] = true := by decide +kernel
theorem a7_2 : allC 7 6 ((List.range 7).erase 2) [2] = true := by
  refine List.all_eq_true.mpr fun y hy => ?_
  have hy : y ∈ [0, 1, 3, 4, 5, 6] := hy
  simp only [List.mem_cons, List.not_mem_nil, or_false] at hy
  rcases hy with rfl | rfl | rfl | rfl | rfl | rfl
  · exact a7_20
  · exact a7_21
  · exact a7_23
  · exact a7_24
  · exact a7_25
  · exact a7_26
theorem a7_30 : allC 7 5 (((List.range 7).erase 3).erase 0) [3, 0] = true := by decide +kernel
theorem a7_31 : allC 7 5 (((List.range 7).erase 3).erase 1) [3, 1] = true := by decide +kernel
theorem a7_32 : allC 7 5 (((List.range 7).erase 3).erase 2) [3, 2] = true := by decide +kernel
theorem a7_34 : allC 7 5 (((List.range 7).erase 3).erase 4) [3, 4] = true := by decide +kernel
theorem a7_35 : allC 7 5 (((List.range 7).erase 3).erase 5) [3, 5] = true := by decide +kernel
theorem a7_36 : allC 7 5 (((List.range 7).erase 3).erase 6) [3, 6] = true := by decide +kernel
theorem a7_3 : allC 7 6 ((List.range 7).erase 3) [3] = true := by
  refine List.all_eq_true.mpr fun y hy => ?_
  have hy : y ∈ [0, 1, 2, 4, 5, 6] := hy
  simp only [List.mem_cons, List.not_mem_nil, or_false] at hy
  rcases hy with rfl | rfl | rfl | rfl | rfl | rfl
  · exact a7_30
  · exact a7_31
  · exact a7_32
  · exact a7_34
  · exact a7_35
  · exact a7_36
theorem a7_40 : allC 7 5 (((List.range 7).erase 4).erase 0) [4, 0] = true := by decide +kernel
theorem a7_41 : allC 7 5 (((List.range 7).erase 4).erase 1) [4, 1] = true := by decide +kernel
theorem a7_42 : allC 7 5 (((List.range 7).erase 4).erase 2) [4, 2] = true := by decide +kernel
theorem a7_43 : allC 7 5 (((List.range 7).erase 4).erase 3) [4, 3] = true := by decide +kernel
theorem a7_45 : allC 7 5 (((List.range 7).erase 4).erase 5) [4, 5] = true := by decide +kernel
theorem a7_46 : allC 7 5 (((List.range 7).erase 4).erase 6) [4, 6] = true := by decide +kernel
theorem a7_4 : allC 7 6 ((List.range 7).erase 4) [4] = true := by
  refine List.all_eq_true.mpr fun y hy => ?_
  have hy : y ∈ [0, 1, 2, 3, 5, 6] := hy
  simp only [List.mem_cons, List.not_mem_nil, or_false] at hy
  rcases hy with rfl | rfl | rfl | rfl | rfl | rfl
  · exact a7_40
  · exact a7_41
  · exact a7_42
  · exact a7_43
  · exact a7_45
  · exact a7_46
theorem a7_50 : allC 7 5 (((List.range 7).erase 5).erase 0) [5, 0] = true := by decide +kernel
theorem a7_51 : allC 7 5 (((List.range 7).erase 5).erase 1) [5, 1] = true := by decide +kernel
theorem a7_52 : allC 7 5 (((List.range 7).erase 5).erase 2) [5, 2] = true := by decide +kernel
theorem a7_53 : allC 7 5 (((List.range 7).erase 5).erase 3) [5, 3] = true := by decide +kernel
theorem a7_54 : allC 7 5 (((List.range 7).erase 5).erase 4) [5, 4] = true := by decide +kernel
theorem a7_56 : allC 7 5 (((List.range 7).erase 5).erase 6) [5, 6] = true := by decide +kernel
theorem a7_5 : allC 7 6 ((List.range 7).erase 5) [5] = true := by
  refine List.all_eq_true.mpr fun y hy => ?_
  have hy : y ∈ [0, 1, 2, 3, 4, 6] := hy
  simp only [List.mem_cons, List.not_mem_nil, or_false] at hy
  rcases hy with rfl | rfl | rfl | rfl | rfl | rfl
  · exact a7_50
  · exact a7_51
  · exact a7_52
  · exact a7_53
  · exact a7_54
  · exact a7_56
theorem a7_60 : allC 7 5 (((List.range 7).erase 6).erase 0) [6, 0] = true := by decide +kernel
theorem a7_61 : allC 7 5 (((List.range 7).erase 6).erase 1) [6, 1] = true := by decide +kernel
theorem a7_62 : allC 7 5 (((List.range 7).erase 6).erase 2) [6, 2] = true := by decide +kernel
theorem a7_63 : allC 7 5 (((List.range 7).erase 6).erase 3) [6, 3] = true := by decide +kernel
theorem a7_64 : allC 7 5 (((List.range 7).erase 6).erase 4) [6, 4] = true := by decide +kernel
theorem a7_65 : allC 7 5 (((List.range 7).erase 6).erase 5) [6, 5] = true := by decide +kernel
theorem a7_6 : allC 7 6 ((List.range 7).erase 6) [6] = true := by
  refine List.all_eq_true.mpr fun y hy => ?_
  have hy : y ∈ [0, 1, 2, 3, 4, 5] := hy
  simp only [List.mem_cons, List.not_mem_nil, or_false] at hy
  rcases hy with rfl | rfl | rfl | rfl | rfl | rfl
  · exact a7_60
  · exact a7_61
  · exact a7_62
  · exact a7_63
  · exact a7_64
  · exact a7_65
theorem all7 : allC 7 7 (List.range 7) [] = true := by
  refine List.all_eq_true.mpr fun x hx => ?_
  have hx := List.mem_range.mp hx
  match x, hx with
  | 0, _ => exact a7_0
  | 1, _ => exact a7_1
  | 2, _ => exact a7_2
  | 3, _ => exact a7_3
  | 4, _ => exact a7_4
  | 5, _ => exact a7_5
  | 6, _ => exact a7_6
theorem allC_in {n : Nat} (h2 : 2 ≤ n) (h7 : n ≤ 7) : allC n n (List.range n) [] = true := by
  match n, h2, h7 with
  | 2, _, _ => exact all2
  | 3, _, _ => exact all3
  | 4, _, _ => exact all4
  | 5, _, _ => exact all5
  | 6, _, _ => exact all6
  | 7, _, _ => exact all7
theorem allC_of {n : Nat} : ∀ (f : Nat) (rem acc v : List Nat), allC n f rem acc = true → v.length = f → v.Nodup → (∀ x ∈ v, x ∈ rem) → tstC n (acc ++ v) = true
  | 0, rem, acc, v, h, hl, _, _ => by
    have : v = [] := List.eq_nil_of_length_eq_zero hl
    subst this
    rw [List.append_nil]
    exact h
  | f + 1, rem, acc, [], h, hl, _, _ => by cases hl
  | f + 1, rem, acc, x :: r, h, hl, hn, hm => by
    have h1 : (rem.all fun x => allC n f (rem.erase x) (acc ++ [x])) = true := h
    rw [List.all_eq_true] at h1
    have hn' := List.nodup_cons.mp hn
    have := allC_of f (rem.erase x) (acc ++ [x]) r (h1 x (hm x List.mem_cons_self)) (by simpa using hl) hn'.2 fun y hy =>
      (List.mem_erase_of_ne (fun e : y = x => hn'.1 (e ▸ hy))).mpr (hm y (List.mem_cons_of_mem _ hy))
    rwa [List.append_assoc] at this
theorem askC {i j n : Nat} (h : (Nat.blt i n && (Nat.blt j n && !Nat.beq i j)) = true) : i < n ∧ j < n ∧ i ≠ j := by
  simp only [Bool.and_eq_true, Bool.not_eq_true', Nat.blt_eq] at h
  exact ⟨h.1, h.2.1, fun e => by
    have h3 := h.2.2
    rw [e, Nat.beq_refl] at h3
    cases h3⟩
theorem runC_wp {α : Type} {ask : Nat → Nat → (Bool → Shared → Prop) → Shared → Prop} {n : Nat} {f : Nat → Nat → Bool} {s : Shared} (ha : ∀ i j C, i < n → j < n → i ≠ j → C (f i j) s → ask i j C s) {G : α → Shared → Prop} {p : α} :
    ∀ t : PySem.W.KasT α, runC n f t = some p → G p s → t.kasWp ask G s
  | .ret a, h, g => by cases h; exact g
  | .ask i j k, h, g => by
    unfold runC at h
    cases hc : (Nat.blt i n && (Nat.blt j n && !Nat.beq i j)) with
    | false => rw [hc] at h; cases h
    | true =>
      rw [hc] at h
      obtain ⟨h1, h2, h3⟩ := askC hc
      exact ha i j _ h1 h2 h3 (runC_wp ha (k (f i j)) h g)
theorem runC_congr {α : Type} {n : Nat} {f g : Nat → Nat → Bool} (h : ∀ i j, i < n → j < n → f i j = g i j) : ∀ t : PySem.W.KasT α, runC n f t = runC n g t
  | .ret a => rfl
  | .ask i j k => by
    unfold runC
    cases hc : (Nat.blt i n && (Nat.blt j n && !Nat.beq i j)) with
    | false => rfl
    | true =>
      obtain ⟨h1, h2, _⟩ := askC hc
      rw [h i j h1 h2]
      exact runC_congr h (k (g i j))
noncomputable abbrev ltS (a b : Str) : Bool := ltCps a.cps.toList b.cps.toList
noncomputable def rkS (K : List Str) (k : Str) : Nat := K.countP fun y => ltS y k
theorem ltS_irr (a : Str) : ltS a a = false := by
  cases e : ltS a a with
  | false => rfl
  | true => rw [← e]; exact lt_total _ _ e
theorem count_lt {α : Type} {p q : α → Bool} (h : ∀ y, p y = true → q y = true) {x : α} : ∀ {l : List α}, x ∈ l → p x = false → q x = true → l.countP p < l.countP q
  | y :: r, hx, h1, h2 => by
    have hm : r.countP p ≤ r.countP q := List.countP_mono_left fun z _ hz => h z hz
    rw [List.countP_cons, List.countP_cons]
    rcases List.mem_cons.mp hx with rfl | hx
    · rw [h1, h2]; simp; omega
    · have ih := count_lt h hx h1 h2
      cases hp : p y with
      | false => simp; omega
      | true => rw [h y hp]; simp; omega
theorem rk_lt {K : List Str} {a b : Str} (ha : a ∈ K) (h : ltS a b = true) : rkS K a < rkS K b :=
  count_lt (fun y hy => by
    cases e : ltS y b with
    | true => rfl
    | false =>
      have h3 : ltS a b = false := lt_trans _ _ _ e (lt_total _ _ hy)
      rw [h] at h3; cases h3) ha (ltS_irr a) h
theorem rk_le {K : List Str} {a b : Str} (h : ltS a b = false) : rkS K b ≤ rkS K a := List.countP_mono_left fun y _ hy => by
  cases e : ltS y a with
  | true => rfl
  | false =>
    have h3 : ltS y b = false := lt_trans _ _ _ h e
    rw [hy] at h3; cases h3
theorem rk_iff {K : List Str} {a b : Str} (ha : a ∈ K) : ltS a b = decide (rkS K a < rkS K b) := by
  cases e : ltS a b with
  | true => rw [decide_eq_true (rk_lt ha e)]
  | false => rw [decide_eq_false (Nat.not_lt.mpr (rk_le e))]
theorem rk_inj {K : List Str} {a b : Str} (ha : a ∈ K) (hb : b ∈ K) (h : rkS K a = rkS K b) : a = b := by
  refine str_ext (lt_anti _ _ ?_ ?_)
  · show ltS a b = false
    rw [rk_iff ha, h]; simp
  · show ltS b a = false
    rw [rk_iff hb, h]; simp
theorem rk_small {K : List Str} {a : Str} (ha : a ∈ K) : rkS K a < K.length := by
  have := count_lt (p := fun y => ltS y a) (q := fun _ => true) (fun _ _ => rfl) ha (ltS_irr a) rfl
  unfold rkS
  simpa using this
theorem nodup_map_in {α β : Type} {f : α → β} : ∀ {l : List α}, l.Nodup → (∀ a ∈ l, ∀ b ∈ l, f a = f b → a = b) → (l.map f).Nodup
  | [], _, _ => List.nodup_nil
  | x :: r, hn, h => by
    have hn' := List.nodup_cons.mp hn
    rw [List.map_cons, List.nodup_cons]
    refine ⟨fun hm => ?_, nodup_map_in hn'.2 fun a ha b hb => h a (List.mem_cons_of_mem _ ha) b (List.mem_cons_of_mem _ hb)⟩
    obtain ⟨y, hy, e⟩ := List.mem_map.mp hm
    exact hn'.1 (h y (List.mem_cons_of_mem _ hy) x List.mem_cons_self e ▸ hy)
theorem getD_in (K : List Str) {i : Nat} (h : i < K.length) : K.getD i "" ∈ K := by
  rw [List.getD_eq_getElem?_getD, List.getElem?_eq_getElem h]
  exact List.getElem_mem h
theorem rk_get (K : List Str) {i : Nat} (h : i < K.length) : (K.map (rkS K)).getD i 0 = rkS K (K.getD i "") := by
  rw [List.getD_eq_getElem?_getD, List.getD_eq_getElem?_getD, List.getElem?_map, List.getElem?_eq_getElem h]; rfl
theorem range_get (K : List Str) : (List.range K.length).map (fun i => K.getD i "") = K := by
  apply List.ext_getElem?
  intro i
  rw [List.getElem?_map]
  by_cases h : i < K.length
  · rw [List.getElem?_range h, List.getElem?_eq_getElem h]
    show some (K.getD i "") = _
    rw [List.getD_eq_getElem?_getD, List.getElem?_eq_getElem h]; rfl
  · rw [List.getElem?_eq_none (by simpa using h), List.getElem?_eq_none (by simpa using h)]; rfl
theorem sort_tree {K : List Str} (hn : K.Nodup) (h2 : 2 ≤ K.length) (h7 : K.length ≤ 7) : ∃ p : Array Nat, runC K.length (fun i j => ltS (K.getD i "") (K.getD j "")) (PySem.W.kas_sort K.length) = some p ∧
    p.toList.Perm (List.range K.length) ∧ (p.toList.map fun i => K.getD i "") = srtS K := by
  have hR : (K.map (rkS K)).Nodup := nodup_map_in hn fun a ha b hb e => rk_inj ha hb e
  have ht := allC_of K.length (List.range K.length) [] (K.map (rkS K)) (allC_in h2 h7) (by rw [List.length_map]) hR fun x hx => by
    obtain ⟨a, ha, rfl⟩ := List.mem_map.mp hx
    exact List.mem_range.mpr (rk_small ha)
  rw [List.nil_append] at ht
  unfold tstC at ht
  split at ht
  · rename_i p hp
    rw [Bool.and_eq_true, beq_iff_eq, List.isPerm_iff] at ht
    obtain ⟨h1, hperm⟩ := ht
    have hlt : ∀ i ∈ p.toList, i < K.length := fun i hi => List.mem_range.mp (hperm.mem_iff.mp hi)
    refine ⟨p, ?_, hperm, ?_⟩
    · rw [← hp]
      refine runC_congr (fun i j hi hj => ?_) _
      rw [rk_get K hi, rk_get K hj, rk_iff (getD_in K hi)]
      rw [Bool.eq_iff_iff, decide_eq_true_eq, Nat.blt_eq]
    · refine List.Perm.eq_of_pairwise (le := fun a b => leS a b = true) (fun a b _ _ h k => ?_) ?_ (srtS_pw K) ?_
      · unfold leS at h k
        rw [Bool.not_eq_true'] at h k
        exact str_ext (lt_anti _ _ k h)
      · rw [List.pairwise_map]
        have hpw : (p.toList.map fun i => (K.map (rkS K)).getD i 0).Pairwise (· < ·) := by rw [h1]; exact List.pairwise_lt_range
        rw [List.pairwise_map] at hpw
        refine hpw.imp_of_mem fun {i j} hi hj h => ?_
        rw [rk_get K (hlt i hi), rk_get K (hlt j hj)] at h
        unfold leS
        rw [Bool.not_eq_true']
        refine lt_total _ _ ?_
        show ltS _ _ = true
        rw [rk_iff (getD_in K (hlt i hi)), decide_eq_true h]
      · have := hperm.map fun i => K.getD i ""
        rw [range_get] at this
        exact this.trans (List.mergeSort_perm K leS).symm
  · cases ht
end L2.PU
namespace L2.PU
open PySem PySem.Spec PyProof.Rows
section
variable {prog : Program} {w : World} {A : Around} {E : Value → Shared → Prop} {s : Shared}
theorem kt_of {h : Heap} : ∀ (as : List Addr), (∀ b ∈ as, ∃ k t x, h.get? b = some { cls := .type "tuple", data := .seq #[Value.str k t, x] }) → ∃ fs, PySem.W.KatTups h (as.map Value.ref) fs ∧ fs.length = as.length ∧ ∀ v ∈ fs, ∃ k t, v = Value.str k t
  | [], _ => ⟨[], PySem.W.KatTups.nil, rfl, fun v hv => by cases hv⟩
  | b :: r, h => by
    obtain ⟨fs, f1, f2, f3⟩ := kt_of r fun c hc => h c (List.mem_cons_of_mem _ hc)
    obtain ⟨k, t, x, e⟩ := h b List.mem_cons_self
    refine ⟨.str k t :: fs, PySem.W.KatTups.cons e rfl rfl rfl f1, by rw [List.length_cons, f2, List.length_cons], fun v hv => ?_⟩
    rcases List.mem_cons.mp hv with rfl | hv
    · exact ⟨k, t, rfl⟩
    · exact f3 v hv
theorem refs_get {as : List Addr} {i : Nat} {b : Addr} (h : as[i]? = some b) : (as.map Value.ref).getD i Value.none = .ref b := by
  rw [List.getD_eq_getElem?_getD, List.getElem?_map, h]; rfl
theorem srt_small {K : List Str} (h : K.length < 2) : srtS K = K := by
  match K, h with
  | [], _ => simp [srtS]
  | [k], _ => simp [srtS]
theorem list_sort_pairs {a : Addr} {as : List Addr} {K : List Str} {n : Nat} {P : PySem.Fin → Shared → Prop} (ho : s.heap.get? a = some (seqObj "list" (as.map Value.ref).toArray n)) (hl : as.length = K.length)
    (hp : ∀ j b, as[j]? = some b → b ≠ a ∧ ∃ t x, s.heap.get? b = some { cls := .type "tuple", data := .seq #[Value.str (K.getD j "") t, x] }) (hK : K.Nodup) (h7 : K.length ≤ 7)
    (h : ∀ q : List Nat, q.Perm (List.range K.length) → (q.map fun i => K.getD i "") = srtS K → P (.done (.ret .none)) { s with heap := sortedHeap s.heap a (as.map Value.ref) (q.map fun i => (as.map Value.ref).getD i Value.none).toArray }) :
    wpAny (model prog w) A (Builtin.«list.sort» ⟨[.ref a], []⟩) P E s := by
  have hvl : (as.map Value.ref).length = K.length := by rw [List.length_map, hl]
  have hsz : (as.map Value.ref).toArray.size = K.length := by rw [List.size_toArray, hvl]
  have hmem : ∀ b ∈ as, b ≠ a ∧ ∃ k t x, s.heap.get? b = some { cls := .type "tuple", data := .seq #[Value.str k t, x] } := fun b hb => by
    obtain ⟨j, hj⟩ := List.getElem?_of_mem hb
    obtain ⟨h1, t, x, h2⟩ := hp j b hj
    exact ⟨h1, _, t, x, h2⟩
  rw [list_sort_plain]
  have ha : a < s.heap.objs.size := Heap.lt_size ho
  refine wpAny_bind (listItems_at ho rfl ?_)
  refine wpAny_bind (listUpdate_at ho rfl ?_ (by rw [hsz, sizeLine_eq]; omega) (Nat.zero_le _))
  obtain ⟨e1, ho1⟩ : ∃ e1, (s.heap.update a (Obj.mapSeq fun _ => (#[] : Array Value))).get? a = some (seqObj "list" #[] e1) := ⟨_, get?_update_seq ho fun _ => #[]⟩
  refine wpAny_bind (seqEpoch_at ho1 rfl ?_)
  refine wpAny_bind (wpAny_newTuple ?_ (by show (as.map Value.ref).length ≤ _; rw [hvl, sizeLine_eq]; omega))
  refine wpAny_bind (wpAny_newList ?_ (Nat.zero_le _))
  refine wpAny_holding ?_
  have ho6 : (((s.heap.update a (Obj.mapSeq fun _ => (#[] : Array Value))).push (seqObj "tuple" (as.map Value.ref).toArray 0)).push (seqObj "list" #[] 0)).get? a = some (seqObj "list" #[] e1) := Heap.get?_push_of_some _ (Heap.get?_push_of_some _ ho1)
  have up : ∀ b o, b ≠ a → s.heap.get? b = some o → (((s.heap.update a (Obj.mapSeq fun _ => (#[] : Array Value))).push (seqObj "tuple" (as.map Value.ref).toArray 0)).push (seqObj "list" #[] 0)).get? b = some o := fun b o hb e =>
    Heap.get?_push_of_some _ (Heap.get?_push_of_some _ ((Heap.get?_update_other _ _ (Ne.symm hb)).trans e))
  show wpAny (model prog w) A _ P E { s with heap := ((s.heap.update a (Obj.mapSeq fun _ => (#[] : Array Value))).push (seqObj "tuple" (as.map Value.ref).toArray 0)).push (seqObj "list" #[] 0) }
  dsimp only
  by_cases h2 : (as.map Value.ref).toArray.size < 2
  · rw [if_pos h2, if_pos h2]
    refine wpAny_bind (wpAny_pure ?_)
    rw [StateT.run_pure]
    refine wpAny_bind (wpAny_pure ?_)
    dsimp only
    have eout : (arrOf (SortSt.mk' general' ((as.map Value.ref).toArray.zip (as.map Value.ref).toArray) #[] 7 none)).map (·.2) = ((List.range K.length).map fun i => (as.map Value.ref).getD i Value.none).toArray := by
      show ((as.map Value.ref).toArray.zip (as.map Value.ref).toArray).map (·.2) = _
      apply Array.ext_getElem?
      intro i
      by_cases hi : i < K.length
      · have hi' : i < (as.map Value.ref).length := by rw [hvl]; exact hi
        simp [hi, List.getD_eq_getElem?_getD, Array.getElem?_zip_eq_some, hl]
      · simp [hi, hl]
    rw [eout]
    refine wpAny_bind (seqEpoch_at ho6 rfl ?_)
    refine wpAny_bind (listUpdate_at ho6 rfl ?_ (Nat.zero_le _) (by rw [List.size_toArray, List.length_map, List.length_range, sizeLine_eq]; omega))
    simp only [bne_self_eq_false, Bool.false_eq_true, if_false]
    refine wpAny_pure (h (List.range K.length) (List.Perm.refl _) ?_)
    rw [range_get, srt_small (by rw [← hsz]; exact h2)]
  · rw [if_neg h2, if_neg h2]
    obtain ⟨fs, t1, t2, t3⟩ := kt_of (h := ((s.heap.update a (Obj.mapSeq fun _ => (#[] : Array Value))).push (seqObj "tuple" (as.map Value.ref).toArray 0)).push (seqObj "list" #[] 0)) as fun b hb => by
      obtain ⟨h1, k, t, x, h3⟩ := hmem b hb
      exact ⟨k, t, x, up b _ h1 h3⟩
    have hn2 : 2 ≤ K.length := by rw [← hsz]; omega
    obtain ⟨p, p1, p2, p3⟩ := sort_tree hK hn2 h7
    refine wpAny_bind (PySem.W.kat_kind (T := .type "str") t1 (by omega) (fun v hv => by
      obtain ⟨k, t, rfl⟩ := t3 v hv
      exact PySem.W.Looks.of_pure rfl) (by decide) ?_)
    refine wpAny_bind (wpAny_mono (PySem.W.kat_run (ks := as.map Value.ref) (Q := fun st' s' => arrOf st' = p.map (PySem.W.kas_item ((as.map Value.ref).toArray.zip (as.map Value.ref).toArray)) ∧ failedOf st' = none ∧
        s' = { s with heap := ((s.heap.update a (Obj.mapSeq fun _ => (#[] : Array Value))).push (seqObj "tuple" (as.map Value.ref).toArray 0)).push (seqObj "list" #[] 0) })
      (G := fun p' s' => p' = p ∧ s' = { s with heap := ((s.heap.update a (Obj.mapSeq fun _ => (#[] : Array Value))).push (seqObj "tuple" (as.map Value.ref).toArray 0)).push (seqObj "list" #[] 0) })
      rfl (by omega) (by omega) (fun p' st' s' a1 a2 a3 a4 => ⟨by rw [← a4.1]; exact a2, a3, a4.2⟩) ?_) ?_ fun _ _ e => e)
    · rw [hvl]
      refine runC_wp (fun i j C hi hj hne hC => ?_) _ p1 ⟨rfl, rfl⟩
      obtain ⟨bi, ebi⟩ : ∃ b, as[i]? = some b := ⟨_, List.getElem?_eq_getElem (by omega)⟩
      obtain ⟨bj, ebj⟩ : ∃ b, as[j]? = some b := ⟨_, List.getElem?_eq_getElem (by omega)⟩
      obtain ⟨i1, ti, xi, i2⟩ := hp i bi ebi
      obtain ⟨j1, tj, xj, j2⟩ := hp j bj ebj
      have hkk : K.getD i "" ≠ K.getD j "" := fun e => hne (by
        rw [List.getD_eq_getElem?_getD, List.getD_eq_getElem?_getD, List.getElem?_eq_getElem hi, List.getElem?_eq_getElem hj] at e
        exact (List.getElem?_inj hi hK).mp (by rw [List.getElem?_eq_getElem hi, List.getElem?_eq_getElem hj]; exact congrArg some e))
      unfold PySem.W.kas_ask
      rw [refs_get ebi, refs_get ebj]
      refine PySem.W.kat_lt (up bi _ i1 i2) rfl (up bj _ j1 j2) rfl (PySem.W.kat_cons (wpAny_eqBool_str ?_))
      rw [decide_eq_false hkk]
      refine PySem.W.kat_no ?_
      show wpAny _ _ (oneLt' true _ _) _ _ _
      refine oneLt_str ?_
      rw [lt_meets]
      exact hC
    · rintro ⟨⟨⟩, st'⟩ s' ⟨har, hf, rfl⟩
      dsimp only
      have eout := PySem.W.kat_snds (ks := as.map Value.ref) (vs := as.map Value.ref) rfl har
      rw [eout]
      refine wpAny_bind (seqEpoch_at ho6 rfl ?_)
      refine wpAny_bind (listUpdate_at ho6 rfl ?_ (Nat.zero_le _) (by rw [List.size_toArray, List.length_map, p2.length_eq, List.length_range, sizeLine_eq]; omega))
      rw [hf]
      simp only [bne_self_eq_false, Bool.false_eq_true, if_false]
      exact wpAny_pure (h p.toList p2 p3)
theorem sorted_items {r d : Addr} {kvs : List (Key × Value)} {ep : Nat} {K : List Str} {Q : Value → Shared → Prop} (hh : A.handled = none) (hv : s.heap.IsItemsView r d) (hrs : s.heap.objs.size = r + 1) (hm : s.heap.DictAt (mixKind prog w) d kvs ep) (hk : kvs.map (·.1) = K.map Sum.inr) (hK : K.Nodup) (h7 : K.length ≤ 7)
    (h : ∀ (h' : Heap) (p : Addr) (tk c : Nat) (bs : List Addr) (q : List Nat), q.Perm (List.range K.length) → (q.map fun i => K.getD i "") = srtS K → (∀ b o, s.heap.get? b = some o → h'.get? b = some o) → s.heap.objs.size ≤ p → h'.get? p = some (seqObj "list" (bs.map Value.ref).toArray c) →
      bs.length = K.length → bs.Nodup → (∀ (j : Nat) (b : Addr), bs[j]? = some b → s.heap.objs.size ≤ b ∧ b ≠ p ∧ ∃ (i : Nat) (t : Tok) (x : Value), q[j]? = some i ∧ i < K.length ∧ kvs[i]? = some (Sum.inr (K.getD i ""), x) ∧ h'.get? b = some { cls := .type "tuple", data := .seq #[Value.str (K.getD i "") t, x] }) →
      Q (.ref p) { s with heap := h', toks := tk }) :
    wpAny (model prog w) A (call (.builtin "sorted") [.ref r]) Q E s := by
  have hlen : kvs.length = K.length := by have := congrArg List.length hk; simpa using this
  refine Calls.call_function_entry kind_sorted plain_sorted entry_sorted (args_sorted1 _) ?_
  unfold Builtin.«sorted»
  refine wpAny_bind (m := checkCount "sorted" 1 1 _) (wpAny_pure ?_)
  refine wpAny_bind (PySem.W.kdx_collect (knd := mixKind prog w) hh hv hm (by rw [sizeLine_eq]; omega) fun h1 tk as kp hla G => ?_)
  refine wpAny_bind (wpAny_newList ?_ (by rw [List.length_map, sizeLine_eq]; omega))
  have hkey : ∀ j b, as[j]? = some b → s.heap.objs.size < b ∧ ∃ t x, kvs[j]? = some (Sum.inr (K.getD j ""), x) ∧ h1.get? b = some { cls := .type "tuple", data := .seq #[Value.str (K.getD j "") t, x] } := fun j b hj => by
    obtain ⟨key, k, x, e1, e2, e3⟩ := G.pairs j b hj
    have ek : K[j]?.map (Sum.inr : Str → Key) = some k := by
      have := congrArg (fun l => l[j]?) hk
      simp only [List.getElem?_map, e1] at this
      exact this.symm
    cases eK : K[j]? with
    | none => rw [eK] at ek; cases ek
    | some kk =>
      rw [eK] at ek
      cases ek
      have egd : K.getD j "" = kk := by rw [List.getD_eq_getElem?_getD, eK]; rfl
      obtain ⟨t, rfl⟩ := (show ∃ t, key = Value.str kk t from key_rel (k := Sum.inr kk) (show keyIs (Sum.inr kk) key = true from e2))
      rw [egd]
      exact ⟨G.above b (List.mem_of_getElem? hj), t, x, e1, e3⟩
  have hoL : (h1.push (seqObj "list" (as.map Value.ref).toArray 0)).get? h1.objs.size = some (seqObj "list" (as.map Value.ref).toArray 0) := Heap.get?_push_size _ rfl
  have lt1 : ∀ j b, as[j]? = some b → b < h1.objs.size := fun j b hj => by
    obtain ⟨_, _, _, _, e⟩ := hkey j b hj
    exact Heap.lt_size e
  have hs1 : s.heap.objs.size ≤ h1.objs.size := by
    obtain ⟨o, ho, _⟩ := hv
    rw [hrs]
    exact Heap.lt_size (kp r o ho)
  show wpAny _ _ _ _ _ { s with heap := h1.push (seqObj "list" (as.map Value.ref).toArray 0), toks := tk }
  refine wpAny_bind (wpAny_holding (wpAny_call_entry slot_list_sort ⟨_, hoL, rfl⟩ entry_list_sort (list_sort_pairs (s := { s with heap := h1.push (seqObj "list" (as.map Value.ref).toArray 0), toks := tk }) (K := K) hoL (by omega) (fun j b hj => ?_) hK h7 fun q hq1 hq2 => ⟨_, rfl, ?_⟩) (args_list_sort _)))
  · obtain ⟨_, t, x, _, e⟩ := hkey j b hj
    exact ⟨Nat.ne_of_lt (lt1 j b hj), t, x, Heap.get?_push_of_some _ e⟩
  obtain ⟨c, hc⟩ := sortedHeap_at (out := (q.map fun i => (as.map Value.ref).getD i Value.none).toArray) hoL
  have hqlt : ∀ i ∈ q, i < K.length := fun i hi => List.mem_range.mp (hq1.mem_iff.mp hi)
  have ebs : (q.map fun i => (as.map Value.ref).getD i Value.none) = (q.map fun i => as.getD i 0).map Value.ref := by
    rw [List.map_map]
    refine List.map_congr_left fun i hi => ?_
    have hi' : i < as.length := by have := hqlt i hi; omega
    rw [refs_get (List.getElem?_eq_getElem hi')]
    show _ = Value.ref (as.getD i 0)
    rw [List.getD_eq_getElem?_getD, List.getElem?_eq_getElem hi']; rfl
  rw [ebs] at hc ⊢
  have keepS : ∀ b o, b < h1.objs.size → h1.get? b = some o → (sortedHeap (h1.push (seqObj "list" (as.map Value.ref).toArray 0)) h1.objs.size (as.map Value.ref) ((q.map fun i => as.getD i 0).map Value.ref).toArray).get? b = some o := fun b o lt e => by
    rw [sortedHeap_old (Nat.ne_of_lt lt) (by rw [size_push']; exact Nat.lt_succ_of_lt lt)]
    exact Heap.get?_push_of_some _ e
  refine wpAny_pure ⟨_, rfl, h _ _ tk c (q.map fun i => as.getD i 0) q hq1 hq2 (fun b o e => keepS b o (Heap.lt_size (kp b o e)) (kp b o e)) hs1 hc (by rw [List.length_map, hq1.length_eq, List.length_range]) ?_ fun j b hj => ?_⟩
  · refine nodup_map_in (hq1.nodup_iff.mpr List.nodup_range) fun i hi j hj e => ?_
    have hi' : i < as.length := by have := hqlt i hi; omega
    have hj' : j < as.length := by have := hqlt j hj; omega
    have hn : as.Nodup := G.rise.imp fun h => Nat.ne_of_lt h
    rw [List.getD_eq_getElem?_getD, List.getD_eq_getElem?_getD, List.getElem?_eq_getElem hi', List.getElem?_eq_getElem hj'] at e
    exact (List.getElem?_inj hi' hn).mp (by rw [List.getElem?_eq_getElem hi', List.getElem?_eq_getElem hj']; exact congrArg some e)
  · rw [List.getElem?_map] at hj
    cases eq : q[j]? with
    | none => rw [eq] at hj; cases hj
    | some i =>
      rw [eq] at hj
      have hi := hqlt i (List.mem_of_getElem? eq)
      have hb : as[i]? = some b := by
        have : as.getD i 0 = b := Option.some.inj hj
        rw [List.getD_eq_getElem?_getD, List.getElem?_eq_getElem (by omega)] at this
        rw [List.getElem?_eq_getElem (by omega)]
        exact congrArg some this
      obtain ⟨h3, t, x, e1, e2⟩ := hkey i b hb
      exact ⟨Nat.le_of_lt h3, Nat.ne_of_lt (lt1 i b hb), i, t, x, rfl, hi, e1, keepS b _ (lt1 i b hb) e2⟩
end
noncomputable def asKs : List (PyData × PyData) → Option (List (Str × PyData))
  | [] => some []
  | (.str k, v) :: r => (asKs r).bind fun ps => some ((k, v) :: ps)
  | _ :: _ => none
noncomputable def lkS : List (Str × PyData) → Str → PyData
  | [], _ => .none
  | p :: r, k => if p.1 = k then p.2 else lkS r k
theorem asKs_some : ∀ {es : List (PyData × PyData)} {ps : List (Str × PyData)}, asKs es = some ps → es = ps.map fun p => (.str p.1, p.2)
  | [], ps, h => by cases h; rfl
  | (d, v) :: r, ps, h => by
    cases d with
    | str k =>
      obtain ⟨qs, h1, h2⟩ := bind_some (show (asKs r).bind (fun ps => some ((k, v) :: ps)) = some ps from h)
      cases h2
      rw [asKs_some h1]; rfl
    | _ => cases h
theorem lkS_get : ∀ {ps : List (Str × PyData)}, (ps.map (·.1)).Nodup → ∀ (i : Nat) (p : Str × PyData), ps[i]? = some p → lkS ps p.1 = p.2
  | [], _, i, p, h => by simp at h
  | x :: r, hn, 0, p, h => by
    have : x = p := by simpa using h
    subst this
    exact if_pos rfl
  | x :: r, hn, i + 1, p, h => by
    rw [List.map_cons, List.nodup_cons] at hn
    have h' : r[i]? = some p := by simpa using h
    have hne : ¬ x.1 = p.1 := fun e => hn.1 (by rw [e]; exact List.mem_map_of_mem (List.mem_of_getElem? h'))
    show (if x.1 = p.1 then x.2 else lkS r p.1) = _
    rw [if_neg hne]
    exact lkS_get hn.2 i p h'
noncomputable def pSortI (x : PyData) : Option PyData := match x with
  | .dict es => (asKs es).bind fun ps => if ps.length ≤ 7 ∧ (ps.map (·.1)).Nodup then some (.list ((srtS (ps.map (·.1))).map fun k => .tuple [.str k, lkS ps k])) else none
  | _ => none
theorem relD_get {K : PySem.W.Frag} {F : Hp} : ∀ {ps : List (Str × PyData)} {ks : List (Key × V)}, RelD K F (ps.map fun p => (PyData.str p.1, p.2)) ks → ks.map (·.1) = (ps.map (·.1)).map Sum.inr ∧ ∀ (i : Nat) (p : Str × PyData), ps[i]? = some p → ∃ x, ks[i]? = some (Sum.inr p.1, x) ∧ Rel K F p.2 x
  | [], ks, h => by rw [h.nil_of]; exact ⟨rfl, fun i p e => by simp at e⟩
  | q :: ps, ks, h => by
    obtain ⟨k, x, r, rfl, e1, h3, h4⟩ := h.cons_of
    have ek : k = Sum.inr q.1 := kD_inj (b := Sum.inr q.1) e1.symm
    subst ek
    obtain ⟨a, b⟩ := relD_get h4
    refine ⟨by rw [List.map_cons, a]; rfl, fun i p e => ?_⟩
    cases i with
    | zero =>
      have : q = p := by simpa using e
      subst this
      exact ⟨x, rfl, h3⟩
    | succ i => exact b i p (by simpa using e)
theorem kv_get : ∀ {ks : List (Key × V)} {vs : List (Key × Value)}, KV ks vs → ∀ (i : Nat) (p : Key × V), ks[i]? = some p → ∃ v, vs[i]? = some (p.1, v) ∧ RelV p.2 v := fun {ks vs} r => by
  induction r with
  | nil => intro i p e; simp at e
  | @cons a b as bs hab t ih =>
    intro i p e
    cases i with
    | zero =>
      have : a = p := by simpa using e
      subst this
      exact ⟨b.2, by simp [hab.1], hab.2⟩
    | succ i => exact ih i p (by simpa using e)
theorem idx_nodup {bs : List Addr} (hn : bs.Nodup) {j : Nat} {b : Addr} (h : bs[j]? = some b) : bs.idxOf b = j := by
  have hj := (List.getElem?_eq_some_iff.mp h).1
  have hb : b ∈ bs := List.mem_of_getElem? h
  have hi : bs.idxOf b < bs.length := List.idxOf_lt_length_of_mem hb
  refine (List.getElem?_inj hi hn).mp ?_
  rw [h, List.getElem?_eq_getElem hi, List.getElem_idxOf]
section
variable {X : Cx} {B : Bd} {a : Expr} {f : En → Option PyData} {p1 ip cp q1 : Pos}
theorem E.sortItems {k : Nat} (hr : Room k X.A) (hl : X.mg "sorted" = none) (ha : E X B a f) (hg : Gl X "sorted" := by rfl) (hb : attributeBase a "items" X.env (eval a X.env) = eval a X.env := by rfl) (hline : (ip.endLine == cp.line) = true := by rfl)
    (he2 : starEach [.Call (.Attribute a "items" ip) [] [] cp] X.env = (false, eval (.Call (.Attribute a "items" ip) [] [] cp) X.env) :: starEach [] X.env := by exact star_of rfl) (hpl2 : (backTo q1 (starEach [] X.env)).any (·.1) = false := by rfl) :
    E X B (.Call (.Name "sorted" p1) [.Call (.Attribute a "items" ip) [] [] cp] [] q1) (l1 pSortI f) := by
  intro pins s σ H Q I ⟨F, η, d, sr, hd, q⟩
  obtain ⟨x, h1, hd⟩ := bind_some hd
  unfold pSortI at hd
  split at hd
  · rename_i es
    obtain ⟨ps, hps, hd⟩ := bind_some hd
    split at hd
    · rename_i hc
      obtain ⟨h7, hnd⟩ := hc
      cases hd
      have ees := asKs_some hps
      refine wpAny_Call_Name_kw (ld_blt I hg hl boot_sorted ?_ (by decide) (by decide))
      refine PyProof.Rows.callWith_builtin1 ?_ he2 hpl2
      rw [he2]
      show wpAny _ _ (spliced ((false, eval (.Call (.Attribute a "items" ip) [] [] cp) X.env) :: backTo q1 (starEach [] X.env))) _ _ s
      refine Calls.spliced_cons ?_
      refine wpAny_Call_method0_late hb hline (thn (ha pins s σ H (fun v H1 => ∃ F', Gr F H F' H1 ∧ Rel X.K F' (.dict es) v) I ⟨F, η, _, sr, h1, fun v F' H' g r => ⟨F', g, r⟩⟩) fun v s1 ⟨y, H1, I1, r1, F1, g1, rl⟩ => ?_)
      obtain ⟨pd, ks, rfl, hq, rd⟩ := rl.dct
      cases r1
      have hq' := rd_mono g1.fh hq
      obtain ⟨t1, t2, t3⟩ := isD_at I1 (a := pd) (.inl ⟨ks, hq'⟩)
      obtain ⟨z, zd, vs, rel, o, es', ep, g, c⟩ := dk_rd I1.hok hq'
      have da : s1.heap.DictAt (mixKind X.prog X.w) pd vs ep := ⟨o, es', g, c.1, c.2.1, c.2.2⟩
      refine ⟨"dict", "dict.items", PySem.F.plainAttrs_dict, PySem.F.slot_dict_items, PySem.F.type_dict_items, t1, t2, Calls.callWith_builtin rfl (PySem.evalArgs_none ?_)⟩
      refine call_meetsIn PySem.F.slot_dict_items t1 PySem.F.entry_dict_items (PySem.F.args_dict_items_1 _) (meets_dict_items (mixKind X.prog X.w) pd t3) ⟨⟨vs, da.dictOf⟩, ?_⟩
      have I2 : Inv X pins σ H1 { s1 with heap := s1.heap.push { cls := .type "dict_items", data := .fields #[.ref pd] } } := I1.kept (t' := s1.toks) fun b u e => Heap.get?_push_of_some _ e
      refine Calls.spliced_nil ?_
      rw [ees] at rd
      obtain ⟨rk, rg⟩ := relD_get rd
      have hkv : vs.map (·.1) = (ps.map (·.1)).map Sum.inr := by rw [← rel.keys]; exact rk
      have hKl : (ps.map (·.1)).length = ps.length := List.length_map _
      refine sorted_items (s := { s1 with heap := s1.heap.push { cls := .type "dict_items", data := .fields #[.ref pd] } }) (K := ps.map (·.1)) hr.hd ⟨_, Heap.get?_push_size _ rfl, rfl, rfl⟩ (Heap.size_push ..) (da.push _) hkv hnd (by omega) fun h' p tk c' bs qq hq1 hq2 kp hp hat hbl hbn hbs => ?_
      have hix : ∀ (j i : Nat), qq[j]? = some i → i < ps.length → ∃ pr x, ps[i]? = some pr ∧ ks[i]? = some (Sum.inr pr.1, x) ∧ Rel X.K F1 pr.2 x ∧ (ps.map (fun x => x.1) : List Str).getD i "" = pr.1 := fun j i _ hi => by
        obtain ⟨x, e1, e2⟩ := rg i ps[i] (List.getElem?_eq_getElem hi)
        exact ⟨ps[i], x, List.getElem?_eq_getElem hi, e1, e2, by rw [List.getD_eq_getElem?_getD, List.getElem?_map, List.getElem?_eq_getElem hi]; rfl⟩
      let vp : Nat → Option HO := fun j => (qq[j]?).bind fun i => (ks[i]?).bind fun kx => some (.tup [kV kx.1, kx.2])
      let N : Hp := fun t => if t = p then some (.lst (bs.map V.ref)) else if t ∈ bs then vp (bs.idxOf t) else none
      have hN : ∀ j b, bs[j]? = some b → b ≠ p → N b = vp j := fun j b hj hne => by
        show (if b = p then _ else if b ∈ bs then vp (bs.idxOf b) else none) = _
        rw [if_neg hne, if_pos (List.mem_of_getElem? hj), idx_nodup hbn hj]
      have I3 : Inv X pins σ (lay H1 (s1.heap.push { cls := .type "dict_items", data := .fields #[.ref pd] }).objs.size N) { s1 with heap := h', toks := tk } := (inv_lays I2 kp fun t o ht ho => by
        by_cases e : t = p
        · have e2 : N t = some (.lst (bs.map V.ref)) := if_pos e
          rw [e2] at ho
          cases ho
          subst e
          refine ⟨by rw [List.length_map, hbl, hKl, sizeLine_eq]; omega, bs.map Value.ref, c', ?_, by simpa using hat⟩
          have gen : ∀ l : List Addr, Vals (l.map V.ref) (l.map Value.ref) := fun l => by
            induction l with
            | nil => exact .nil
            | cons v r ih => exact .cons rfl ih
          exact gen bs
        · have e2 : N t = if t ∈ bs then vp (bs.idxOf t) else none := if_neg e
          rw [e2] at ho
          split at ho
          · rename_i hm
            obtain ⟨j, hj⟩ := List.getElem?_of_mem hm
            rw [idx_nodup hbn hj] at ho
            obtain ⟨_, _, i, tt, xx, f1, f2, f3, f4⟩ := hbs j t hj
            obtain ⟨pr, xv, p1, p2, p3, p4⟩ := hix j i f1 (by rw [← hKl]; exact f2)
            have ho' : vp j = some (.tup [V.str pr.1, xv]) := by
              show (qq[j]?).bind _ = _
              rw [f1, Option.bind_some, p2]; rfl
            rw [ho'] at ho
            cases ho
            obtain ⟨vv, v1, v2⟩ := kv_get rel i _ p2
            rw [f3] at v1
            have exx : xx = vv := by
              have := Option.some.inj v1
              exact congrArg Prod.snd this
            subst exx
            rw [p4] at f4
            exact ⟨by show 2 ≤ sizeLine; decide, [.str pr.1 tt, xx], .cons ⟨tt, rfl⟩ (.cons v2 .nil), ⟨_, f4, rfl, _, rfl⟩⟩
          · cases ho).tok tk
      refine ⟨.ref p, _, I3, rfl, ?_⟩
      have g2 : Gr F1 H1 (lay F1 (s1.heap.push { cls := .type "dict_items", data := .fields #[.ref pd] }).objs.size N) (lay H1 (s1.heap.push { cls := .type "dict_items", data := .fields #[.ref pd] }).objs.size N) := gr_lay g1.fh fun t ht => I2.hok.fresh ht
      have hNp : N p = some (.lst (bs.map V.ref)) := if_pos rfl
      have hql : qq.length = ps.length := by rw [hq1.length_eq, List.length_range, hKl]
      refine q _ _ _ (g1.trans g2) (rel_lst (SqL.of (by rw [lay_new hp]; exact hNp)) (relL_get ?_ fun j d hd => ?_))
      · rw [List.length_map, ← hq2, List.length_map, List.length_map, hql, hbl, hKl]
      · rw [← hq2, List.getElem?_map, List.getElem?_map] at hd
        cases eq : qq[j]? with
        | none => rw [eq] at hd; cases hd
        | some i =>
          rw [eq] at hd
          cases hd
          have hj : j < bs.length := by
            have := (List.getElem?_eq_some_iff.mp eq).1
            omega
          obtain ⟨b0, b1, i', tt, xx, f1, f2, f3, f4⟩ := hbs j bs[j] (List.getElem?_eq_getElem hj)
          rw [eq] at f1
          cases f1
          obtain ⟨pr, xv, p1, p2, p3, p4⟩ := hix j i eq (by rw [← hKl]; exact f2)
          have ho' : vp j = some (.tup [V.str pr.1, xv]) := by
            show (qq[j]?).bind _ = _
            rw [eq, Option.bind_some, p2]; rfl
          refine ⟨.ref bs[j], by rw [List.getElem?_map, List.getElem?_eq_getElem hj]; rfl, ?_⟩
          dsimp only
          rw [p4, lkS_get hnd i pr p1]
          exact rel_tup (SqT.of (by rw [lay_new b0, hN j _ (List.getElem?_eq_getElem hj) b1]; exact ho')) (.cons rel_str (.cons (p3.mono g2.ff) .nil))
    · cases hd
  · cases hd
end
end L2.PU
namespace L2.PU
open PySem PySem.Spec PyProof.Rows
noncomputable def sPar (i j : Nat) (fs : En → Option (List PyData)) : En → Option Out := fun η => (fs η).bind fun ds => match ds with
  | [x, y] => some (.nx ((η.set i (.val x)).set j (.val y)))
  | _ => none
section
variable {X : Cx} {B : Bd} {a b : Expr} {fs : En → Option (List PyData)} {px py pt pos : Pos} {kt k2 : Nat} {pt2 : Pos}
theorem S.par (i j : Nat) {x y : Str} (hN : X.N.Nodup) (ha : A X B [a, b] fs) (hc : X.calm = true := by rfl) (hi : X.N[i]? = some x := by rfl) (hj : X.N[j]? = some y := by rfl) (hij : i ≠ j := by decide)
    (hx : X.env.scope.names.lookup x = some .local := by rfl) (hy : X.env.scope.names.lookup y = some .local := by rfl)
    (hw : swappedStores [.Tuple [.Name x px, .Name y py] kt pt] (.Tuple [a, b] k2 pt2) X.env = pure (some [x, y]) := by rfl)
    (hs : swapsWithSole [.Tuple [.Name x px, .Name y py] kt pt] (.Tuple [a, b] k2 pt2) pos.line X.env = pure false := by rfl) :
    S X B (.Assign [.Tuple [.Name x px, .Name y py] kt pt] (.Tuple [a, b] k2 pt2) pos) (sPar i j fs) :=
  PS.imp (ps_par hc hN hi hj hij hx hy ha hw hs) fun D σ H ⟨F, η, o, sr, hd, q⟩ => by
    obtain ⟨ds, h1, hd⟩ := bind_some hd
    split at hd
    · rename_i d1 d2
      cases hd
      refine ⟨F, η, _, sr, h1, fun vs F1 H1 g1 rs => ?_⟩
      obtain ⟨v, r, rfl, rv, rr⟩ := rs.cons_of
      obtain ⟨w, r', rfl, rw', rr'⟩ := rr.cons_of
      obtain rfl := rr'.nil_of
      exact ⟨v, w, rfl, q _ F1 H1 ⟨sr.gr.trans g1, ((sr.en.grow g1).set i rv).set j rw'⟩ g1.ff⟩
    · cases hd
end
end L2.PU
namespace K55
open PySem L2 L2.PU
noncomputable def top (i : Nat) : Stmt := PySem.Challenge.pw_touchtree_k55_pictures.main.body.getD i (.Pass ⟨0, 0, 0, 0⟩)
noncomputable abbrev s__law_cell : Stmt := top 36
noncomputable abbrev s__law_drawn : Stmt := top 37
noncomputable abbrev s__law_scene : Stmt := top 38
noncomputable abbrev s__law_painted : Stmt := top 41
noncomputable abbrev s__law_box : Stmt := top 39
noncomputable abbrev s__law_path : Stmt := top 40
noncomputable abbrev s__law_area : Stmt := top 42
noncomputable abbrev s__law_areas : Stmt := top 43
noncomputable abbrev s__law_hit : Stmt := top 44
noncomputable abbrev s_children : Stmt := top 13
noncomputable abbrev s_box_of : Stmt := top 11
noncomputable abbrev s_below : Stmt := top 14
noncomputable abbrev s_painted : Stmt := top 15
noncomputable abbrev s_path_of : Stmt := top 12
noncomputable abbrev s_has_mark : Stmt := top 21
noncomputable abbrev s_is_shown : Stmt := top 25
noncomputable abbrev s_area_of : Stmt := top 16
noncomputable abbrev s_overlap : Stmt := top 23
noncomputable abbrev s_window_of : Stmt := top 24
noncomputable abbrev s_takers : Stmt := top 26
noncomputable abbrev s_has_point : Stmt := top 22
noncomputable abbrev s_first_at : Stmt := top 27
noncomputable abbrev s_sign_of : Stmt := top 31
noncomputable abbrev s_picture : Stmt := top 32
noncomputable abbrev s_shares : Stmt := top 34
noncomputable abbrev s_unlike_points : Stmt := top 33
noncomputable abbrev s_law : Stmt := top 45
structure Adr where
  _law_cell : Addr
  d__law_cell : FuncData
  _law_drawn : Addr
  d__law_drawn : FuncData
  _law_scene : Addr
  d__law_scene : FuncData
  _law_painted : Addr
  d__law_painted : FuncData
  _law_box : Addr
  d__law_box : FuncData
  _law_path : Addr
  d__law_path : FuncData
  _law_area : Addr
  d__law_area : FuncData
  _law_areas : Addr
  d__law_areas : FuncData
  _law_hit : Addr
  d__law_hit : FuncData
  children : Addr
  d_children : FuncData
  box_of : Addr
  d_box_of : FuncData
  below : Addr
  d_below : FuncData
  painted : Addr
  d_painted : FuncData
  path_of : Addr
  d_path_of : FuncData
  has_mark : Addr
  d_has_mark : FuncData
  is_shown : Addr
  d_is_shown : FuncData
  area_of : Addr
  d_area_of : FuncData
  overlap : Addr
  d_overlap : FuncData
  window_of : Addr
  d_window_of : FuncData
  takers : Addr
  d_takers : FuncData
  has_point : Addr
  d_has_point : FuncData
  first_at : Addr
  d_first_at : FuncData
  sign_of : Addr
  d_sign_of : FuncData
  picture : Addr
  d_picture : FuncData
  shares : Addr
  d_shares : FuncData
  unlike_points : Addr
  d_unlike_points : FuncData
  law : Addr
  d_law : FuncData
  t_AROUND : Tok
  t_CUTS_OFF : Tok
  t_HEIGHT : Tok
  t_HIDDEN : Tok
  t_LEFT : Tok
  t_LETS_BY : Tok
  t_MARKS : Tok
  t_NAME : Tok
  t_NOTHING : Tok
  t_ROW_END : Tok
  t_TOP : Tok
  t_WIDTH : Tok
structure Tx (K : PySem.W.Frag) (mg : Str → Option Value) (t : Adr) : Prop where
  F__law_cell : Fun K "_law_cell" "_law_cell" s__law_cell t._law_cell t.d__law_cell
  m__law_cell : mg "_law_cell" = some (.ref t._law_cell)
  b__law_cell : Binds K t.d__law_cell ["_law_script", "_law_k"] []
  F__law_drawn : Fun K "_law_drawn" "_law_drawn" s__law_drawn t._law_drawn t.d__law_drawn
  m__law_drawn : mg "_law_drawn" = some (.ref t._law_drawn)
  b__law_drawn : Binds K t.d__law_drawn ["_law_script", "_law_k", "_law_many"] []
  F__law_scene : Fun K "_law_scene" "_law_scene" s__law_scene t._law_scene t.d__law_scene
  m__law_scene : mg "_law_scene" = some (.ref t._law_scene)
  b__law_scene : Binds K t.d__law_scene ["_law_script", "_law_at"] []
  F__law_painted : Fun K "_law_painted" "_law_painted" s__law_painted t._law_painted t.d__law_painted
  m__law_painted : mg "_law_painted" = some (.ref t._law_painted)
  b__law_painted : Binds K t.d__law_painted ["_law_scene_here", "_law_around"] []
  F__law_box : Fun K "_law_box" "_law_box" s__law_box t._law_box t.d__law_box
  m__law_box : mg "_law_box" = some (.ref t._law_box)
  b__law_box : Binds K t.d__law_box ["_law_scene_here", "_law_name"] []
  F__law_path : Fun K "_law_path" "_law_path" s__law_path t._law_path t.d__law_path
  m__law_path : mg "_law_path" = some (.ref t._law_path)
  b__law_path : Binds K t.d__law_path ["_law_scene_here", "_law_name"] []
  F__law_area : Fun K "_law_area" "_law_area" s__law_area t._law_area t.d__law_area
  m__law_area : mg "_law_area" = some (.ref t._law_area)
  b__law_area : Binds K t.d__law_area ["_law_scene_here", "_law_name"] []
  F__law_areas : Fun K "_law_areas" "_law_areas" s__law_areas t._law_areas t.d__law_areas
  m__law_areas : mg "_law_areas" = some (.ref t._law_areas)
  b__law_areas : Binds K t.d__law_areas ["_law_scene_here"] []
  F__law_hit : Fun K "_law_hit" "_law_hit" s__law_hit t._law_hit t.d__law_hit
  m__law_hit : mg "_law_hit" = some (.ref t._law_hit)
  b__law_hit : Binds K t.d__law_hit ["_law_rows", "_law_x", "_law_y"] []
  F_children : Fun K "children" "children" s_children t.children t.d_children
  m_children : mg "children" = some (.ref t.children)
  b_children : Binds K t.d_children ["scene", "name"] []
  F_box_of : Fun K "box_of" "box_of" s_box_of t.box_of t.d_box_of
  m_box_of : mg "box_of" = some (.ref t.box_of)
  b_box_of : Binds K t.d_box_of ["scene", "name"] []
  F_below : Fun K "below" "below" s_below t.below t.d_below
  m_below : mg "below" = some (.ref t.below)
  b_below : Binds K t.d_below ["scene", "name"] []
  F_painted : Fun K "painted" "painted" s_painted t.painted t.d_painted
  m_painted : mg "painted" = some (.ref t.painted)
  b_painted : Binds K t.d_painted ["scene"] []
  F_path_of : Fun K "path_of" "path_of" s_path_of t.path_of t.d_path_of
  m_path_of : mg "path_of" = some (.ref t.path_of)
  b_path_of : Binds K t.d_path_of ["scene", "name"] []
  F_has_mark : Fun K "has_mark" "has_mark" s_has_mark t.has_mark t.d_has_mark
  m_has_mark : mg "has_mark" = some (.ref t.has_mark)
  b_has_mark : Binds K t.d_has_mark ["scene", "name", "mark"] []
  F_is_shown : Fun K "is_shown" "is_shown" s_is_shown t.is_shown t.d_is_shown
  m_is_shown : mg "is_shown" = some (.ref t.is_shown)
  b_is_shown : Binds K t.d_is_shown ["scene", "name"] []
  F_area_of : Fun K "area_of" "area_of" s_area_of t.area_of t.d_area_of
  m_area_of : mg "area_of" = some (.ref t.area_of)
  b_area_of : Binds K t.d_area_of ["scene", "name"] []
  F_overlap : Fun K "overlap" "overlap" s_overlap t.overlap t.d_overlap
  m_overlap : mg "overlap" = some (.ref t.overlap)
  b_overlap : Binds K t.d_overlap ["one", "other"] []
  F_window_of : Fun K "window_of" "window_of" s_window_of t.window_of t.d_window_of
  m_window_of : mg "window_of" = some (.ref t.window_of)
  b_window_of : Binds K t.d_window_of ["scene", "name"] []
  F_takers : Fun K "takers" "takers" s_takers t.takers t.d_takers
  m_takers : mg "takers" = some (.ref t.takers)
  b_takers : Binds K t.d_takers ["scene"] []
  F_has_point : Fun K "has_point" "has_point" s_has_point t.has_point t.d_has_point
  m_has_point : mg "has_point" = some (.ref t.has_point)
  b_has_point : Binds K t.d_has_point ["area", "x", "y"] []
  F_first_at : Fun K "first_at" "first_at" s_first_at t.first_at t.d_first_at
  m_first_at : mg "first_at" = some (.ref t.first_at)
  b_first_at : Binds K t.d_first_at ["rows", "x", "y"] []
  F_sign_of : Fun K "sign_of" "sign_of" s_sign_of t.sign_of t.d_sign_of
  m_sign_of : mg "sign_of" = some (.ref t.sign_of)
  b_sign_of : Binds K t.d_sign_of ["name"] []
  F_picture : Fun K "picture" "picture" s_picture t.picture t.d_picture
  m_picture : mg "picture" = some (.ref t.picture)
  b_picture : Binds K t.d_picture ["scene", "left", "top", "right", "bottom"] []
  F_shares : Fun K "shares" "shares" s_shares t.shares t.d_shares
  m_shares : mg "shares" = some (.ref t.shares)
  b_shares : Binds K t.d_shares ["scene", "left", "top", "right", "bottom"] []
  F_unlike_points : Fun K "unlike_points" "unlike_points" s_unlike_points t.unlike_points t.d_unlike_points
  m_unlike_points : mg "unlike_points" = some (.ref t.unlike_points)
  b_unlike_points : Binds K t.d_unlike_points ["one", "other", "left", "top", "right", "bottom"] []
  F_law : Fun K "law" "law" s_law t.law t.d_law
  m_law : mg "law" = some (.ref t.law)
  b_law : Binds K t.d_law ["_law_script"] []
  c_AROUND : mg "AROUND" = some (.int (1) t.t_AROUND)
  c_CUTS_OFF : mg "CUTS_OFF" = some (.str "c" t.t_CUTS_OFF)
  c_HEIGHT : mg "HEIGHT" = some (.int (5) t.t_HEIGHT)
  c_HIDDEN : mg "HIDDEN" = some (.str "h" t.t_HIDDEN)
  c_LEFT : mg "LEFT" = some (.int (2) t.t_LEFT)
  c_LETS_BY : mg "LETS_BY" = some (.str "l" t.t_LETS_BY)
  c_MARKS : mg "MARKS" = some (.int (6) t.t_MARKS)
  c_NAME : mg "NAME" = some (.int (0) t.t_NAME)
  c_NOTHING : mg "NOTHING" = some (.str "." t.t_NOTHING)
  c_ROW_END : mg "ROW_END" = some (.str "\n" t.t_ROW_END)
  c_TOP : mg "TOP" = some (.int (3) t.t_TOP)
  c_WIDTH : mg "WIDTH" = some (.int (4) t.t_WIDTH)
  z_any : mg "any" = none
  z_enumerate : mg "enumerate" = none
  z_len : mg "len" = none
  z_max : mg "max" = none
  z_min : mg "min" = none
  z_range : mg "range" = none
  z_reversed : mg "reversed" = none
  z_set : mg "set" = none
  z_sorted : mg "sorted" = none
  z_sum : mg "sum" = none
  z_tuple : mg "tuple" = none
  z_zip : mg "zip" = none
section
variable {Pr : Program} {w : World} {K : PySem.W.Frag} {mg : Str → Option Value} {base : Heap} {t : Adr}
noncomputable abbrev N__law_cell : List Str := ["_law_script", "_law_k"]
theorem sc__law_cell : FnScope ["_law_script", "_law_k"] ["_law_script", "_law_k"] (defScope s__law_cell) := ⟨rfl, rfl, rfl, by decide +kernel, rfl, by decide +kernel, by decide +kernel⟩
noncomputable def g__law_cell  : En → Option Out :=
  (sSeq (sIf (bT (l2 pEq (eV 0) (oE (fun η => (aN η).bind gL)))) (sRet (l2 pMul (eC (.int 7)) (eV 1))) sNx)
    (sRet (l2 pAdd (l2 pIx (eV 0) (l2 pMod (eV 1) (lA pLen (aC (eV 0) aN)))) (l2 pMul (eC (.int 6553)) (l2 pFdiv (eV 1) (lA pLen (aC (eV 0) aN)))))))
set_option maxHeartbeats 4000000 in
theorem ok__law_cell {k : Nat} (tx : Tx K mg t)  : FnOk Pr w K mg base CX0 (k + 1) t._law_cell t.d__law_cell ["_law_script", "_law_k"] (spP K (runF 2 2 (g__law_cell))) :=
  fnP tx.F__law_cell sc__law_cell fun _ _ _ _ _ _ _ hr =>
    (@Ss.cons _ _ _ _ _ _ (@S.ifS _ _ _ _ _ _ _ _ _ (T.eq hr (E.v 0) (EO.toE (EO.lst A.nil))) (@Ss.one _ _ _ _ (S.ret (E.mul E.int (E.v 1)))) Ss.nil)
    (@Ss.one _ _ _ _ (S.ret (E.add (E.at (E.v 0) (E.mod (E.v 1) (E.len tx.z_len (A.cons (E.v 0) A.nil)))) (E.mul E.int (E.fdiv (E.v 1) (E.len tx.z_len (A.cons (E.v 0) A.nil))))))))
noncomputable abbrev N__law_drawn : List Str := ["_law_script", "_law_k", "_law_many", "_law_cell_here"]
theorem sc__law_drawn : FnScope ["_law_script", "_law_k", "_law_many", "_law_cell_here"] ["_law_script", "_law_k", "_law_many"] (defScope s__law_drawn) := ⟨rfl, rfl, rfl, by decide +kernel, rfl, by decide +kernel, by decide +kernel⟩
noncomputable def g__law_drawn (fn__law_cell : List PyData → Option PyData) : En → Option Out :=
  (sSeq (sSet 3 (l2 pMod (l2 pAdd (l2 pMul (l2 pMod (lA fn__law_cell (aC (eV 0) (aC (eV 1) aN))) (eC (.int 2147483563))) (eC (.int 69069))) (l2 pMul (eC (.int 104723)) (l2 pAdd (eV 1) (eC (.int 1))))) (eC (.int 2147483563))))
    (sSeq (sSet 3 (l2 pMod (l2 pAdd (l2 pMul (eV 3) (eV 3)) (l2 pFdiv (eV 3) (eC (.int 3)))) (eC (.int 2147483399))))
    (sRet (l2 pMod (l2 pFdiv (l2 pMod (l2 pAdd (l2 pMul (eV 3) (eV 3)) (l2 pFdiv (eV 3) (eC (.int 7)))) (eC (.int 2147483647))) (eC (.int 11))) (eV 2)))))
set_option maxHeartbeats 4000000 in
theorem ok__law_drawn {k : Nat} (tx : Tx K mg t) {k__law_cell : Nat} {fn__law_cell : List PyData → Option PyData} (G__law_cell : FnOk Pr w K mg base CX0 k__law_cell t._law_cell t.d__law_cell ["_law_script", "_law_k"] (spP K fn__law_cell)) (hk__law_cell : k__law_cell ≤ k) : FnOk Pr w K mg base CX0 (k + 1) t._law_drawn t.d__law_drawn ["_law_script", "_law_k", "_law_many"] (spP K (runF 3 4 (g__law_drawn fn__law_cell))) :=
  fnP tx.F__law_drawn sc__law_drawn fun _ _ _ _ _ _ _ hr =>
    (@Ss.cons _ _ _ _ _ _ (S.set 3 sc__law_drawn.nd (E.mod (E.add (E.mul (E.mod (E.call G__law_cell hr (by omega) tx.m__law_cell tx.F__law_cell.kp tx.b__law_cell (A.cons (E.v 0) (A.cons (E.v 1) A.nil))) E.int) E.int) (E.mul E.int (E.add (E.v 1) E.int))) E.int))
    (@Ss.cons _ _ _ _ _ _ (S.set 3 sc__law_drawn.nd (E.mod (E.add (E.mul (E.v 3) (E.v 3)) (E.fdiv (E.v 3) E.int)) E.int))
    (@Ss.one _ _ _ _ (S.ret (E.mod (E.fdiv (E.mod (E.add (E.mul (E.v 3) (E.v 3)) (E.fdiv (E.v 3) E.int)) E.int) E.int) (E.v 2))))))
noncomputable abbrev N__law_scene : List Str := ["_law_script", "_law_at", "_law_found", "_law_turn", "_law_k", "_law_here", "_law_around", "_law_places", "_law_sizes", "_law_marks", "_law_j", "_law_sign", "_law_name"]
theorem sc__law_scene : FnScope ["_law_script", "_law_at", "_law_found", "_law_turn", "_law_k", "_law_here", "_law_around", "_law_places", "_law_sizes", "_law_marks", "_law_j", "_law_sign", "_law_name"] ["_law_script", "_law_at"] (defScope s__law_scene) := ⟨rfl, rfl, rfl, by decide +kernel, rfl, by decide +kernel, by decide +kernel⟩
noncomputable def g__law_scene (fn__law_drawn : List PyData → Option PyData) : En → Option Out :=
  (sSeq (sSet 2 (lA (fun ds => if ds.length ≤ sizeLine then some (.tuple ds) else none) aN))
    (sSeq (sSet 3 (lA fn__law_drawn (aC (eV 0) (aC (l2 pAdd (eV 1) (eC (.int 1))) (aC (eC (.int 8)) aN)))))
    (sSeq (sFor (fun η => ((aC (lA fn__law_drawn (aC (eV 0) (aC (eV 1) (aC (eC (.int 8)) aN)))) aN) η).bind rng1) (tgN 4)
    (sSeq (sSet 5 (l2 pAdd (l2 pAdd (eV 1) (eC (.int 3))) (l2 pMul (eC (.int 9)) (eV 4))))
    (sSeq (sSet 6 (l2 pIx (l2 pAdd (oE (fun η => ((aC (eC (.str "")) aN) η).bind gL)) (oE (sComp [none] (lI asTu (eV 2)) (tgN 0) tTrue (l2 pIx (eV 0) (eC (.int 0)))))) (lA fn__law_drawn (aC (eV 0) (aC (eV 5) (aC (l2 pAdd (eV 4) (eC (.int 1))) aN))))))
    (sSeq (sSetO 7 (sComp [none, some 0, some 5] (fun η => ((aC (eC (.int 2)) aN) η).bind rng1) (tgN 0) tTrue (l2 pSub (lA fn__law_drawn (aC (eV 1) (aC (l2 pAdd (l2 pAdd (eV 2) (eC (.int 1))) (eV 0)) (aC (eC (.int 9)) aN)))) (eC (.int 3)))))
    (fun η => (sSeq (sSetO 8 (sComp [none, some 0, some 5] (fun η => ((aC (eC (.int 2)) aN) η).bind rng1) (tgN 0) tTrue (lA fn__law_drawn (aC (eV 1) (aC (l2 pAdd (l2 pAdd (eV 2) (eC (.int 3))) (eV 0)) (aC (eC (.int 9)) aN))))))
    (fun η => (sSeq (sSet 9 (eC (.str "")))
    (sSeq (sFor (fun η => ((aC (eC (.str "cfhl")) aN) η).bind enS) (tgT (tgCons (tgN 10) (tgCons (tgN 11) tgNil)))
    (sIf (bT (l2 pEq (lA fn__law_drawn (aC (eV 0) (aC (l2 pAdd (l2 pAdd (eV 5) (eC (.int 5))) (eV 10)) (aC (l2 pIx (oE (fun η => ((aC (eC (.int 4)) (aC (eC (.int 2)) (aC (eC (.int 9)) (aC (eC (.int 6)) aN)))) η).bind gL)) (eV 10)) aN)))) (eC (.int 0)))) (sSet 9 (l2 pAdd (eV 9) (eV 11))) sNx))
    (sSeq (sSet 12 (l2 pIx (eC (.str "dbgahcfe")) (l2 pMod (l2 pAdd (eV 4) (eV 3)) (eC (.int 8)))))
    (sSet 2 (l2 pAdd (eV 2) (lA (fun ds => if ds.length ≤ sizeLine then some (.tuple ds) else none) (aC (l2 pAdd (l2 pAdd (lA (fun ds => if ds.length ≤ sizeLine then some (.tuple ds) else none) (aC (eV 12) (aC (eV 6) aN))) (lA pTup (aC (l2 pAdd (eV 7) (eV 8)) aN))) (lA (fun ds => if ds.length ≤ sizeLine then some (.tuple ds) else none) (aC (eV 9) aN))) aN))))))) (frz 8 η))) (frz 7 η))))))
    (sRet (eV 2)))))
set_option maxHeartbeats 4000000 in
theorem ok__law_scene {k : Nat} (tx : Tx K mg t) {k__law_drawn : Nat} {fn__law_drawn : List PyData → Option PyData} (G__law_drawn : FnOk Pr w K mg base CX0 k__law_drawn t._law_drawn t.d__law_drawn ["_law_script", "_law_k", "_law_many"] (spP K fn__law_drawn)) (hk__law_drawn : k__law_drawn ≤ k) : FnOk Pr w K mg base CX0 (k + 1) t._law_scene t.d__law_scene ["_law_script", "_law_at"] (spP K (runF 2 13 (g__law_scene fn__law_drawn))) :=
  fnP tx.F__law_scene sc__law_scene fun _ _ _ _ _ _ _ hr =>
    (@Ss.cons _ _ _ _ _ _ (S.set 2 sc__law_scene.nd (E.tup A.nil))
    (@Ss.cons _ _ _ _ _ _ (S.set 3 sc__law_scene.nd (E.call G__law_drawn hr (by omega) tx.m__law_drawn tx.F__law_drawn.kp tx.b__law_drawn (A.cons (E.v 0) (A.cons (E.add (E.v 1) E.int) (A.cons E.int A.nil)))))
    (@Ss.cons _ _ _ _ _ _ (@S.for _ _ _ _ _ _ _ _ _ _ _ PassesOwn.never rfl (I.rng1 tx.z_range (A.cons (E.call G__law_drawn hr (by omega) tx.m__law_drawn tx.F__law_drawn.kp tx.b__law_drawn (A.cons (E.v 0) (A.cons (E.v 1) (A.cons E.int A.nil)))) A.nil)) (pg_name (i := 4) sc__law_scene.nd rfl (by first | exact Or.inl rfl | exact Or.inr rfl) ) (TgP.name (i := 4))
    (@Ss.cons _ _ _ _ _ _ (S.set 5 sc__law_scene.nd (E.add (E.add (E.v 1) E.int) (E.mul E.int (E.v 4))))
    (@Ss.cons _ _ _ _ _ _ (S.set 6 sc__law_scene.nd (E.at (E.add (EO.toE (EO.lst (A.cons E.str A.nil))) (EO.toE (EO.comp (N' := ["_law_box_here"]) (mp := [none]) rfl (CompSc.of' N__law_scene (defScope s__law_scene) rfl rfl (by decide +kernel)) (TgP.name (i := 0)) (by decide) (I.tup (E.v 2)) (fun _ _ _ => ⟨(pg_name (i := 0) (show (["_law_box_here"] : List Str).Nodup by decide +kernel) rfl (Or.inl rfl) (.inr rfl)), Ts.nil, (E.at (E.v 0) E.int)⟩)))) (E.call G__law_drawn hr (by omega) tx.m__law_drawn tx.F__law_drawn.kp tx.b__law_drawn (A.cons (E.v 0) (A.cons (E.v 5) (A.cons (E.add (E.v 4) E.int) A.nil))))))
    (@Ss.cons _ _ _ _ _ _ (S.setC 7 (N' := ["_law_j", "_law_script", "_law_here"]) (mp := [none, some 0, some 5]) rfl sc__law_scene.nd (CompSc.of' N__law_scene (defScope s__law_scene) rfl rfl (by decide +kernel)) (TgP.name (i := 0)) (by decide) (I.rng1 tx.z_range (A.cons E.int A.nil)) (fun _ _ _ => ⟨(pg_name (i := 0) (show (["_law_j", "_law_script", "_law_here"] : List Str).Nodup by decide +kernel) rfl (Or.inl rfl) (.inr rfl)), Ts.nil, (E.sub (E.call G__law_drawn hr (by omega) tx.m__law_drawn tx.F__law_drawn.kp tx.b__law_drawn (A.cons (E.v 1) (A.cons (E.add (E.add (E.v 2) E.int) (E.v 0)) (A.cons E.int A.nil)))) E.int)⟩))
    (@Ss.frz _ _ _ _ 7 (@Ss.cons _ _ _ _ _ _ (S.setC 8 (N' := ["_law_j", "_law_script", "_law_here"]) (mp := [none, some 0, some 5]) rfl sc__law_scene.nd (CompSc.of' N__law_scene (defScope s__law_scene) rfl rfl (by decide +kernel)) (TgP.name (i := 0)) (by decide) (I.rng1 tx.z_range (A.cons E.int A.nil)) (fun _ _ _ => ⟨(pg_name (i := 0) (show (["_law_j", "_law_script", "_law_here"] : List Str).Nodup by decide +kernel) rfl (Or.inl rfl) (.inr rfl)), Ts.nil, (E.call G__law_drawn hr (by omega) tx.m__law_drawn tx.F__law_drawn.kp tx.b__law_drawn (A.cons (E.v 1) (A.cons (E.add (E.add (E.v 2) E.int) (E.v 0)) (A.cons E.int A.nil))))⟩))
    (@Ss.frz _ _ _ _ 8 (@Ss.cons _ _ _ _ _ _ (S.set 9 sc__law_scene.nd E.str)
    (@Ss.cons _ _ _ _ _ _ (@S.for _ _ _ _ _ _ _ _ _ _ _ PassesOwn.never rfl (I.enum rfl tx.z_enumerate (A.cons E.str A.nil)) (pg_tup (n := 2) rfl (pgs_cons (pg_name (i := 10) sc__law_scene.nd rfl (by first | exact Or.inl rfl | exact Or.inr rfl) ) (pgs_cons (pg_name (i := 11) sc__law_scene.nd rfl (by first | exact Or.inl rfl | exact Or.inr rfl) ) pgs_nil))) (TgP.tup (n := 2) (TgsP.cons (TgP.name (i := 10)) (TgsP.cons (TgP.name (i := 11)) TgsP.nil)) (tg_len2))
    (@Ss.one _ _ _ _ (@S.ifS _ _ _ _ _ _ _ _ _ (T.eq hr (E.call G__law_drawn hr (by omega) tx.m__law_drawn tx.F__law_drawn.kp tx.b__law_drawn (A.cons (E.v 0) (A.cons (E.add (E.add (E.v 5) E.int) (E.v 10)) (A.cons (E.at (EO.toE (EO.lst (A.cons E.int (A.cons E.int (A.cons E.int (A.cons E.int A.nil)))))) (E.v 10)) A.nil)))) E.int) (@Ss.one _ _ _ _ (S.set 9 sc__law_scene.nd (E.add (E.v 9) (E.v 11)))) Ss.nil)) (fun _ => rfl))
    (@Ss.cons _ _ _ _ _ _ (S.set 12 sc__law_scene.nd (E.at E.str (E.mod (E.add (E.v 4) (E.v 3)) E.int)))
    (@Ss.one _ _ _ _ (S.set 2 sc__law_scene.nd (E.add (E.v 2) (E.tup (A.cons (E.add (E.add (E.tup (A.cons (E.v 12) (A.cons (E.v 6) A.nil))) (E.tuple tx.z_tuple (A.cons (E.add (E.v 7) (E.v 8)) A.nil))) (E.tup (A.cons (E.v 9) A.nil))) A.nil)))))))))))))) (fun _ => rfl))
    (@Ss.one _ _ _ _ (S.ret (E.v 2))))))
noncomputable abbrev N__law_painted : List Str := ["_law_scene_here", "_law_around", "_law_found", "_law_box_here"]
theorem sc__law_painted : FnScope ["_law_scene_here", "_law_around", "_law_found", "_law_box_here"] ["_law_scene_here", "_law_around"] (defScope s__law_painted) := ⟨rfl, rfl, rfl, by decide +kernel, rfl, by decide +kernel, by decide +kernel⟩
noncomputable def g__law_painted (fn__law_painted : List PyData → Option PyData) : En → Option Out :=
  (sSeq (sSet 2 (oE (fun η => (aN η).bind gL)))
    (sSeq (sFor (lI asTu (eV 0)) (tgN 3)
    (sIf (bT (l2 pEq (l2 pIx (eV 3) (eC (.int 1))) (eV 1))) (sSet 2 (l2 pAdd (l2 pAdd (eV 2) (oE (fun η => ((aC (l2 pIx (eV 3) (eC (.int 0))) aN) η).bind gL))) (lA fn__law_painted (aC (eV 0) (aC (l2 pIx (eV 3) (eC (.int 0))) aN))))) sNx))
    (sRet (eV 2))))
set_option maxHeartbeats 4000000 in
theorem ok__law_painted {k : Nat} (tx : Tx K mg t) {k__law_painted : Nat} {fn__law_painted : List PyData → Option PyData} (G__law_painted : FnOk Pr w K mg base CX0 k__law_painted t._law_painted t.d__law_painted ["_law_scene_here", "_law_around"] (spP K fn__law_painted)) (hk__law_painted : k__law_painted ≤ k) : FnOk Pr w K mg base CX0 (k + 1) t._law_painted t.d__law_painted ["_law_scene_here", "_law_around"] (spP K (runF 2 4 (g__law_painted fn__law_painted))) :=
  fnP tx.F__law_painted sc__law_painted fun _ _ _ _ _ _ _ hr =>
    (@Ss.cons _ _ _ _ _ _ (S.set 2 sc__law_painted.nd (EO.toE (EO.lst A.nil)))
    (@Ss.cons _ _ _ _ _ _ (@S.for _ _ _ _ _ _ _ _ _ _ _ PassesOwn.never rfl (I.tup (E.v 0)) (pg_name (i := 3) sc__law_painted.nd rfl (by first | exact Or.inl rfl | exact Or.inr rfl) ) (TgP.name (i := 3))
    (@Ss.one _ _ _ _ (@S.ifS _ _ _ _ _ _ _ _ _ (T.eq hr (E.at (E.v 3) E.int) (E.v 1)) (@Ss.one _ _ _ _ (S.set 2 sc__law_painted.nd (E.add (E.add (E.v 2) (EO.toE (EO.lst (A.cons (E.at (E.v 3) E.int) A.nil)))) (E.call G__law_painted hr (by omega) tx.m__law_painted tx.F__law_painted.kp tx.b__law_painted (A.cons (E.v 0) (A.cons (E.at (E.v 3) E.int) A.nil)))))) Ss.nil)) (fun _ => rfl))
    (@Ss.one _ _ _ _ (S.ret (E.v 2)))))
noncomputable abbrev N__law_box : List Str := ["_law_scene_here", "_law_name"]
theorem sc__law_box : FnScope ["_law_scene_here", "_law_name"] ["_law_scene_here", "_law_name"] (defScope s__law_box) := ⟨rfl, rfl, rfl, by decide +kernel, rfl, by decide +kernel, by decide +kernel⟩
noncomputable def g__law_box  : En → Option Out :=
  (sRet (l2 pIx (oE (sComp [none, some 1] (lI asTu (eV 0)) (tgN 0) (bT (l2 pEq (l2 pIx (eV 0) (eC (.int 0))) (eV 1))) (eV 0))) (eC (.int 0))))
set_option maxHeartbeats 4000000 in
theorem ok__law_box {k : Nat} (tx : Tx K mg t)  : FnOk Pr w K mg base CX0 (k + 1) t._law_box t.d__law_box ["_law_scene_here", "_law_name"] (spP K (runF 2 2 (g__law_box))) :=
  fnP tx.F__law_box sc__law_box fun _ _ _ _ _ _ _ hr =>
    (@Ss.one _ _ _ _ (S.ret (E.at (EO.toE (EO.comp (N' := ["_law_box_here", "_law_name"]) (mp := [none, some 1]) rfl (CompSc.of' N__law_box (defScope s__law_box) rfl rfl (by decide +kernel)) (TgP.name (i := 0)) (by decide) (I.tup (E.v 0)) (fun _ _ _ => ⟨(pg_name (i := 0) (show (["_law_box_here", "_law_name"] : List Str).Nodup by decide +kernel) rfl (Or.inl rfl) (.inr rfl)), (Ts.one (T.eq hr (E.at (E.v 0) E.int) (E.v 1))), (E.v 0)⟩))) E.int)))
noncomputable abbrev N__law_path : List Str := ["_law_scene_here", "_law_name", "_law_found"]
theorem sc__law_path : FnScope ["_law_scene_here", "_law_name", "_law_found"] ["_law_scene_here", "_law_name"] (defScope s__law_path) := ⟨rfl, rfl, rfl, by decide +kernel, rfl, by decide +kernel, by decide +kernel⟩
noncomputable def g__law_path (fn__law_box : List PyData → Option PyData) : En → Option Out :=
  (sSeq (sSet 2 (oE (fun η => ((aC (eV 1) aN) η).bind gL)))
    (sSeq (sWh (bT (l2 pNe (l2 pIx (lA fn__law_box (aC (eV 0) (aC (l2 pIx (eV 2) (eC (.int 0))) aN))) (eC (.int 1))) (eC (.str "")))) (sSet 2 (l2 pAdd (oE (fun η => ((aC (l2 pIx (lA fn__law_box (aC (eV 0) (aC (l2 pIx (eV 2) (eC (.int 0))) aN))) (eC (.int 1))) aN) η).bind gL)) (eV 2))) 13)
    (sRet (eV 2))))
set_option maxHeartbeats 4000000 in
theorem ok__law_path {k : Nat} (tx : Tx K mg t) {k__law_box : Nat} {fn__law_box : List PyData → Option PyData} (G__law_box : FnOk Pr w K mg base CX0 k__law_box t._law_box t.d__law_box ["_law_scene_here", "_law_name"] (spP K fn__law_box)) (hk__law_box : k__law_box ≤ k) : FnOk Pr w K mg base CX0 (k + 1) t._law_path t.d__law_path ["_law_scene_here", "_law_name"] (spP K (runF 2 3 (g__law_path fn__law_box))) :=
  fnP tx.F__law_path sc__law_path fun _ _ _ _ _ _ _ hr =>
    (@Ss.cons _ _ _ _ _ _ (S.set 2 sc__law_path.nd (EO.toE (EO.lst (A.cons (E.v 1) A.nil))))
    (@Ss.cons _ _ _ _ _ _ (S.while 13 PassesOwn.never (T.ne hr (E.at (E.call G__law_box hr (by omega) tx.m__law_box tx.F__law_box.kp tx.b__law_box (A.cons (E.v 0) (A.cons (E.at (E.v 2) E.int) A.nil))) E.int) E.str) (@Ss.one _ _ _ _ (S.set 2 sc__law_path.nd (E.add (EO.toE (EO.lst (A.cons (E.at (E.call G__law_box hr (by omega) tx.m__law_box tx.F__law_box.kp tx.b__law_box (A.cons (E.v 0) (A.cons (E.at (E.v 2) E.int) A.nil))) E.int) A.nil))) (E.v 2)))))
    (@Ss.one _ _ _ _ (S.ret (E.v 2)))))
noncomputable abbrev N__law_area : List Str := ["_law_scene_here", "_law_name", "_law_left", "_law_top", "_law_one", "_law_box_here"]
theorem sc__law_area : FnScope ["_law_scene_here", "_law_name", "_law_left", "_law_top", "_law_one", "_law_box_here"] ["_law_scene_here", "_law_name"] (defScope s__law_area) := ⟨rfl, rfl, rfl, by decide +kernel, rfl, by decide +kernel, by decide +kernel⟩
noncomputable def g__law_area (fn__law_path : List PyData → Option PyData) (fn__law_box : List PyData → Option PyData) : En → Option Out :=
  (sSeq (sUnp (lA (fun ds => if ds.length ≤ sizeLine then some (.tuple ds) else none) (aC (eC (.int 0)) (aC (eC (.int 0)) aN))) (tgT (tgCons (tgN 2) (tgCons (tgN 3) tgNil))))
    (sSeq (sFor (lI asL (lA fn__law_path (aC (eV 0) (aC (eV 1) aN)))) (tgN 4)
    (sSeq (sSet 2 (l2 pAdd (eV 2) (l2 pIx (lA fn__law_box (aC (eV 0) (aC (eV 4) aN))) (eC (.int 2)))))
    (sSet 3 (l2 pAdd (eV 3) (l2 pIx (lA fn__law_box (aC (eV 0) (aC (eV 4) aN))) (eC (.int 3)))))))
    (sSeq (sSet 5 (lA fn__law_box (aC (eV 0) (aC (eV 1) aN))))
    (sRet (lA (fun ds => if ds.length ≤ sizeLine then some (.tuple ds) else none) (aC (eV 2) (aC (eV 3) (aC (l2 pAdd (eV 2) (l2 pIx (eV 5) (eC (.int 4)))) (aC (l2 pAdd (eV 3) (l2 pIx (eV 5) (eC (.int 5)))) aN)))))))))
set_option maxHeartbeats 4000000 in
theorem ok__law_area {k : Nat} (tx : Tx K mg t) {k__law_path : Nat} {fn__law_path : List PyData → Option PyData} (G__law_path : FnOk Pr w K mg base CX0 k__law_path t._law_path t.d__law_path ["_law_scene_here", "_law_name"] (spP K fn__law_path)) (hk__law_path : k__law_path ≤ k) {k__law_box : Nat} {fn__law_box : List PyData → Option PyData} (G__law_box : FnOk Pr w K mg base CX0 k__law_box t._law_box t.d__law_box ["_law_scene_here", "_law_name"] (spP K fn__law_box)) (hk__law_box : k__law_box ≤ k) : FnOk Pr w K mg base CX0 (k + 1) t._law_area t.d__law_area ["_law_scene_here", "_law_name"] (spP K (runF 2 6 (g__law_area fn__law_path fn__law_box))) :=
  fnP tx.F__law_area sc__law_area fun _ _ _ _ _ _ _ hr =>
    (@Ss.cons _ _ _ _ _ _ (S.unp (E.tup (A.cons E.int (A.cons E.int A.nil))) (pg_tup (n := 2) rfl (pgs_cons (pg_name (i := 2) sc__law_area.nd rfl (by first | exact Or.inl rfl | exact Or.inr rfl) ) (pgs_cons (pg_name (i := 3) sc__law_area.nd rfl (by first | exact Or.inl rfl | exact Or.inr rfl) ) pgs_nil))) (TgP.tup (n := 2) (TgsP.cons (TgP.name (i := 2)) (TgsP.cons (TgP.name (i := 3)) TgsP.nil)) (tg_len2)))
    (@Ss.cons _ _ _ _ _ _ (@S.for _ _ _ _ _ _ _ _ _ _ _ PassesOwn.never rfl (I.list (E.call G__law_path hr (by omega) tx.m__law_path tx.F__law_path.kp tx.b__law_path (A.cons (E.v 0) (A.cons (E.v 1) A.nil)))) (pg_name (i := 4) sc__law_area.nd rfl (by first | exact Or.inl rfl | exact Or.inr rfl) ) (TgP.name (i := 4))
    (@Ss.cons _ _ _ _ _ _ (S.set 2 sc__law_area.nd (E.add (E.v 2) (E.at (E.call G__law_box hr (by omega) tx.m__law_box tx.F__law_box.kp tx.b__law_box (A.cons (E.v 0) (A.cons (E.v 4) A.nil))) E.int)))
    (@Ss.one _ _ _ _ (S.set 3 sc__law_area.nd (E.add (E.v 3) (E.at (E.call G__law_box hr (by omega) tx.m__law_box tx.F__law_box.kp tx.b__law_box (A.cons (E.v 0) (A.cons (E.v 4) A.nil))) E.int))))) (fun _ => rfl))
    (@Ss.cons _ _ _ _ _ _ (S.set 5 sc__law_area.nd (E.call G__law_box hr (by omega) tx.m__law_box tx.F__law_box.kp tx.b__law_box (A.cons (E.v 0) (A.cons (E.v 1) A.nil))))
    (@Ss.one _ _ _ _ (S.ret (E.tup (A.cons (E.v 2) (A.cons (E.v 3) (A.cons (E.add (E.v 2) (E.at (E.v 5) E.int)) (A.cons (E.add (E.v 3) (E.at (E.v 5) E.int)) A.nil))))))))))
noncomputable abbrev N__law_areas : List Str := ["_law_scene_here", "_law_found", "_law_name", "_law_path_here", "_law_marks", "_law_areas_here"]
theorem sc__law_areas : FnScope ["_law_scene_here", "_law_found", "_law_name", "_law_path_here", "_law_marks", "_law_areas_here"] ["_law_scene_here"] (defScope s__law_areas) := ⟨rfl, rfl, rfl, by decide +kernel, rfl, by decide +kernel, by decide +kernel⟩
noncomputable def g__law_areas (fn__law_painted : List PyData → Option PyData) (fn__law_path : List PyData → Option PyData) (fn__law_box : List PyData → Option PyData) (fn__law_area : List PyData → Option PyData) : En → Option Out :=
  (sSeq (sSetO 1 (fun η => (aN η).bind gL))
    (sSeq (sFor (lI asL (l2 pRv (lA fn__law_painted (aC (eV 0) (aC (eC (.str "")) aN))) (l1 pNeg (eC (.int 1))))) (tgN 2)
    (sSeq (sSet 3 (lA fn__law_path (aC (eV 0) (aC (eV 2) aN))))
    (sSeq (sSetO 4 (sComp [none, some 0] (lI asL (eV 3)) (tgN 0) tTrue (l2 pIx (lA fn__law_box (aC (eV 1) (aC (eV 0) aN))) (eC (.int 6)))))
    (fun η => (sIf (bAnd (bT (l2 pEq (oE (sComp [none] (lI asL (eV 4)) (tgN 0) (bT (l2 (pIn false) (eC (.str "h")) (eV 0))) (eV 0))) (oE (fun η => (aN η).bind gL)))) (bT (l2 (pIn true) (eC (.str "l")) (l2 pIx (eV 4) (l1 pNeg (eC (.int 1))))))) (sSeq (sSetO 5 (sComp [none, none, some 0] (fun η => ((aC (eV 3) (aC (eV 4) aN)) η).bind zpL) (tgT (tgCons (tgN 0) (tgCons (tgN 1) tgNil))) (bT (l2 (pIn false) (eC (.str "c")) (eV 1))) (lA fn__law_area (aC (eV 2) (aC (eV 0) aN)))))
    (fun η => (sApp 1 (lA (fun ds => if ds.length ≤ sizeLine then some (.tuple ds) else none) (aC (eV 2) (aC (l2 pAdd (eV 5) (oE (fun η => ((aC (lA fn__law_area (aC (eV 0) (aC (eV 2) aN))) aN) η).bind gL))) aN)))) (frz 5 η))) sNx) (frz 4 η)))))
    (sRetO 1)))
set_option maxHeartbeats 4000000 in
theorem ok__law_areas {k : Nat} (tx : Tx K mg t) {k__law_painted : Nat} {fn__law_painted : List PyData → Option PyData} (G__law_painted : FnOk Pr w K mg base CX0 k__law_painted t._law_painted t.d__law_painted ["_law_scene_here", "_law_around"] (spP K fn__law_painted)) (hk__law_painted : k__law_painted ≤ k) {k__law_path : Nat} {fn__law_path : List PyData → Option PyData} (G__law_path : FnOk Pr w K mg base CX0 k__law_path t._law_path t.d__law_path ["_law_scene_here", "_law_name"] (spP K fn__law_path)) (hk__law_path : k__law_path ≤ k) {k__law_box : Nat} {fn__law_box : List PyData → Option PyData} (G__law_box : FnOk Pr w K mg base CX0 k__law_box t._law_box t.d__law_box ["_law_scene_here", "_law_name"] (spP K fn__law_box)) (hk__law_box : k__law_box ≤ k) {k__law_area : Nat} {fn__law_area : List PyData → Option PyData} (G__law_area : FnOk Pr w K mg base CX0 k__law_area t._law_area t.d__law_area ["_law_scene_here", "_law_name"] (spP K fn__law_area)) (hk__law_area : k__law_area ≤ k) : FnOk Pr w K mg base CX0 (k + 1) t._law_areas t.d__law_areas ["_law_scene_here"] (spP K (runF 1 6 (g__law_areas fn__law_painted fn__law_path fn__law_box fn__law_area))) :=
  fnP tx.F__law_areas sc__law_areas fun _ _ _ _ _ _ _ hr =>
    (@Ss.cons _ _ _ _ _ _ (S.setO 1 sc__law_areas.nd (EO.lst A.nil))
    (@Ss.cons _ _ _ _ _ _ (@S.for _ _ _ _ _ _ _ _ _ _ _ PassesOwn.never rfl (I.list (E.slRev (E.call G__law_painted hr (by omega) tx.m__law_painted tx.F__law_painted.kp tx.b__law_painted (A.cons (E.v 0) (A.cons E.str A.nil))) (E.neg E.int))) (pg_name (i := 2) sc__law_areas.nd rfl (by first | exact Or.inl rfl | exact Or.inr rfl) ) (TgP.name (i := 2))
    (@Ss.cons _ _ _ _ _ _ (S.set 3 sc__law_areas.nd (E.call G__law_path hr (by omega) tx.m__law_path tx.F__law_path.kp tx.b__law_path (A.cons (E.v 0) (A.cons (E.v 2) A.nil))))
    (@Ss.cons _ _ _ _ _ _ (S.setC 4 (N' := ["_law_one", "_law_scene_here"]) (mp := [none, some 0]) rfl sc__law_areas.nd (CompSc.of' N__law_areas (defScope s__law_areas) rfl rfl (by decide +kernel)) (TgP.name (i := 0)) (by decide) (I.list (E.v 3)) (fun _ _ _ => ⟨(pg_name (i := 0) (show (["_law_one", "_law_scene_here"] : List Str).Nodup by decide +kernel) rfl (Or.inl rfl) (.inr rfl)), Ts.nil, (E.at (E.call G__law_box hr (by omega) tx.m__law_box tx.F__law_box.kp tx.b__law_box (A.cons (E.v 1) (A.cons (E.v 0) A.nil))) E.int)⟩))
    (@Ss.frz _ _ _ _ 4 (@Ss.one _ _ _ _ (@S.ifS _ _ _ _ _ _ _ _ _ (TW.t (TW.and (T.eq hr (EO.toE (EO.comp (N' := ["_law_own"]) (mp := [none]) rfl (CompSc.of' N__law_areas (defScope s__law_areas) rfl rfl (by decide +kernel)) (TgP.name (i := 0)) (by decide) (I.list (E.v 4)) (fun _ _ _ => ⟨(pg_name (i := 0) (show (["_law_own"] : List Str).Nodup by decide +kernel) rfl (Or.inl rfl) (.inr rfl)), (Ts.one (T.in E.str (E.v 0))), (E.v 0)⟩))) (EO.toE (EO.lst A.nil))) (TW.and1 (T.notIn E.str (E.at (E.v 4) (E.neg E.int)))))) (@Ss.cons _ _ _ _ _ _ (S.setC 5 (N' := ["_law_one", "_law_own", "_law_scene_here"]) (mp := [none, none, some 0]) rfl sc__law_areas.nd (CompSc.of' N__law_areas (defScope s__law_areas) rfl rfl (by decide +kernel)) (TgP.tup (n := 2) (TgsP.cons (TgP.name (i := 0)) (TgsP.cons (TgP.name (i := 1)) TgsP.nil)) (tg_len2)) (by decide) (I.zip tx.z_zip (A.cons (E.v 3) (A.cons (E.v 4) A.nil))) (fun _ _ _ => ⟨(pg_tup (n := 2) rfl (pgs_cons (pg_name (i := 0) (show (["_law_one", "_law_own", "_law_scene_here"] : List Str).Nodup by decide +kernel) rfl (Or.inl rfl) (.inr rfl)) (pgs_cons (pg_name (i := 1) (show (["_law_one", "_law_own", "_law_scene_here"] : List Str).Nodup by decide +kernel) rfl (Or.inl rfl) (.inr rfl)) pgs_nil))), (Ts.one (T.in E.str (E.v 1))), (E.call G__law_area hr (by omega) tx.m__law_area tx.F__law_area.kp tx.b__law_area (A.cons (E.v 2) (A.cons (E.v 0) A.nil)))⟩))
    (@Ss.frz _ _ _ _ 5 (@Ss.one _ _ _ _ (S.app 1 (E.tup (A.cons (E.v 2) (A.cons (E.add (E.v 5) (EO.toE (EO.lst (A.cons (E.call G__law_area hr (by omega) tx.m__law_area tx.F__law_area.kp tx.b__law_area (A.cons (E.v 0) (A.cons (E.v 2) A.nil))) A.nil)))) A.nil))))))) Ss.nil))))) (fun _ => rfl))
    (@Ss.one _ _ _ _ (S.retO 1))))
noncomputable abbrev N__law_hit : List Str := ["_law_rows", "_law_x", "_law_y", "_law_name", "_law_areas_here"]
theorem sc__law_hit : FnScope ["_law_rows", "_law_x", "_law_y", "_law_name", "_law_areas_here"] ["_law_rows", "_law_x", "_law_y"] (defScope s__law_hit) := ⟨rfl, rfl, rfl, by decide +kernel, rfl, by decide +kernel, by decide +kernel⟩
noncomputable def g__law_hit  : En → Option Out :=
  (sSeq (sFor (lI asL (eV 0)) (tgT (tgCons (tgN 3) (tgCons (tgN 4) tgNil)))
    (sIf (bT (l2 pEq (oE (sComp [none, some 1, some 2] (lI asL (eV 4)) (tgN 0) (bOr (bNot (bT (lch pLe pLt (l2 pIx (eV 0) (eC (.int 0))) (eV 1) (l2 pIx (eV 0) (eC (.int 2)))))) (bNot (bT (lch pLe pLt (l2 pIx (eV 0) (eC (.int 1))) (eV 2) (l2 pIx (eV 0) (eC (.int 3))))))) (eV 0))) (oE (fun η => (aN η).bind gL)))) (sRet (eV 3)) sNx))
    (sRet (eC .none)))
set_option maxHeartbeats 4000000 in
theorem ok__law_hit {k : Nat} (tx : Tx K mg t)  : FnOk Pr w K mg base CX0 (k + 1) t._law_hit t.d__law_hit ["_law_rows", "_law_x", "_law_y"] (spP K (runF 3 5 (g__law_hit))) :=
  fnP tx.F__law_hit sc__law_hit fun _ _ _ _ _ _ _ hr =>
    (@Ss.cons _ _ _ _ _ _ (@S.for _ _ _ _ _ _ _ _ _ _ _ PassesOwn.never rfl (I.list (E.v 0)) (pg_tup (n := 2) rfl (pgs_cons (pg_name (i := 3) sc__law_hit.nd rfl (by first | exact Or.inl rfl | exact Or.inr rfl) ) (pgs_cons (pg_name (i := 4) sc__law_hit.nd rfl (by first | exact Or.inl rfl | exact Or.inr rfl) ) pgs_nil))) (TgP.tup (n := 2) (TgsP.cons (TgP.name (i := 3)) (TgsP.cons (TgP.name (i := 4)) TgsP.nil)) (tg_len2))
    (@Ss.one _ _ _ _ (@S.ifS _ _ _ _ _ _ _ _ _ (T.eq hr (EO.toE (EO.comp (N' := ["_law_area_here", "_law_x", "_law_y"]) (mp := [none, some 1, some 2]) rfl (CompSc.of' N__law_hit (defScope s__law_hit) rfl rfl (by decide +kernel)) (TgP.name (i := 0)) (by decide) (I.list (E.v 4)) (fun _ _ _ => ⟨(pg_name (i := 0) (show (["_law_area_here", "_law_x", "_law_y"] : List Str).Nodup by decide +kernel) rfl (Or.inl rfl) (.inr rfl)), (Ts.one (TW.t (TW.or (T.not (T.chain op_le (ad_I0 fun _ _ _ => rel_bl) op_lt (ad_I0 fun _ _ _ => rel_bl) (E.at (E.v 0) E.int) (E.v 1) (E.at (E.v 0) E.int))) (TW.or1 (T.not (T.chain op_le (ad_I0 fun _ _ _ => rel_bl) op_lt (ad_I0 fun _ _ _ => rel_bl) (E.at (E.v 0) E.int) (E.v 2) (E.at (E.v 0) E.int))))))), (E.v 0)⟩))) (EO.toE (EO.lst A.nil))) (@Ss.one _ _ _ _ (S.ret (E.v 3))) Ss.nil)) (fun _ => rfl))
    (@Ss.one _ _ _ _ (S.ret E.non)))
noncomputable abbrev N_children : List Str := ["scene", "name"]
theorem sc_children : FnScope ["scene", "name"] ["scene", "name"] (defScope s_children) := ⟨rfl, rfl, rfl, by decide +kernel, rfl, by decide +kernel, by decide +kernel⟩
noncomputable def g_children  : En → Option Out :=
  (sRet (oE (sComp [none, some 1] (lI asTu (eV 0)) (tgN 0) (bT (l2 pEq (l2 pIx (eV 0) (eC (.int 1))) (eV 1))) (l2 pIx (eV 0) (eC (.int 0))))))
set_option maxHeartbeats 4000000 in
theorem ok_children {k : Nat} (tx : Tx K mg t)  : FnOk Pr w K mg base CX0 (k + 1) t.children t.d_children ["scene", "name"] (spP K (runF 2 2 (g_children))) :=
  fnP tx.F_children sc_children fun _ _ _ _ _ _ _ hr =>
    (@Ss.one _ _ _ _ (S.ret (EO.toE (EO.comp (N' := ["box", "name"]) (mp := [none, some 1]) rfl (CompSc.of' N_children (defScope s_children) rfl rfl (by decide +kernel)) (TgP.name (i := 0)) (by decide) (I.tup (E.v 0)) (fun _ _ _ => ⟨(pg_name (i := 0) (show (["box", "name"] : List Str).Nodup by decide +kernel) rfl (Or.inl rfl) (.inr rfl)), (Ts.one (T.eq hr (E.at (E.v 0) (E.globI tx.c_AROUND)) (E.v 1))), (E.at (E.v 0) (E.globI tx.c_NAME))⟩)))))
noncomputable abbrev N_box_of : List Str := ["scene", "name", "box"]
theorem sc_box_of : FnScope ["scene", "name", "box"] ["scene", "name"] (defScope s_box_of) := ⟨rfl, rfl, rfl, by decide +kernel, rfl, by decide +kernel, by decide +kernel⟩
noncomputable def g_box_of  : En → Option Out :=
  (sSeq (sFor (lI asTu (eV 0)) (tgN 2)
    (sIf (bT (l2 pEq (l2 pIx (eV 2) (eC (.int 0))) (eV 1))) (sRet (eV 2)) sNx))
    (fun _ => none))
set_option maxHeartbeats 4000000 in
theorem ok_box_of {k : Nat} (tx : Tx K mg t)  : FnOk Pr w K mg base CX0 (k + 1) t.box_of t.d_box_of ["scene", "name"] (spP K (runF 2 3 (g_box_of))) :=
  fnP tx.F_box_of sc_box_of fun _ _ _ _ _ _ _ hr =>
    (@Ss.cons _ _ _ _ _ _ (@S.for _ _ _ _ _ _ _ _ _ _ _ PassesOwn.never rfl (I.tup (E.v 0)) (pg_name (i := 2) sc_box_of.nd rfl (by first | exact Or.inl rfl | exact Or.inr rfl) ) (TgP.name (i := 2))
    (@Ss.one _ _ _ _ (@S.ifS _ _ _ _ _ _ _ _ _ (T.eq hr (E.at (E.v 2) (E.globI tx.c_NAME)) (E.v 1)) (@Ss.one _ _ _ _ (S.ret (E.v 2))) Ss.nil)) (fun _ => rfl))
    (@Ss.one _ _ _ _ S.never))
noncomputable abbrev N_below : List Str := ["scene", "name", "names", "child"]
theorem sc_below : FnScope ["scene", "name", "names", "child"] ["scene", "name"] (defScope s_below) := ⟨rfl, rfl, rfl, by decide +kernel, rfl, by decide +kernel, by decide +kernel⟩
noncomputable def g_below (fn_box_of : List PyData → Option PyData) (fn_children : List PyData → Option PyData) (fn_below : List PyData → Option PyData) : En → Option Out :=
  (sSeq (sSetO 2 (fun η => ((aC (l2 pIx (lA fn_box_of (aC (eV 0) (aC (eV 1) aN))) (eC (.int 0))) aN) η).bind gL))
    (sSeq (sFor (lI asL (lA fn_children (aC (eV 0) (aC (eV 1) aN)))) (tgN 3)
    (sExt 2 (lI asL (lA fn_below (aC (eV 0) (aC (eV 3) aN))))))
    (sRetO 2)))
set_option maxHeartbeats 4000000 in
theorem ok_below {k : Nat} (tx : Tx K mg t) {k_box_of : Nat} {fn_box_of : List PyData → Option PyData} (G_box_of : FnOk Pr w K mg base CX0 k_box_of t.box_of t.d_box_of ["scene", "name"] (spP K fn_box_of)) (hk_box_of : k_box_of ≤ k) {k_children : Nat} {fn_children : List PyData → Option PyData} (G_children : FnOk Pr w K mg base CX0 k_children t.children t.d_children ["scene", "name"] (spP K fn_children)) (hk_children : k_children ≤ k) {k_below : Nat} {fn_below : List PyData → Option PyData} (G_below : FnOk Pr w K mg base CX0 k_below t.below t.d_below ["scene", "name"] (spP K fn_below)) (hk_below : k_below ≤ k) : FnOk Pr w K mg base CX0 (k + 1) t.below t.d_below ["scene", "name"] (spP K (runF 2 4 (g_below fn_box_of fn_children fn_below))) :=
  fnP tx.F_below sc_below fun _ _ _ _ _ _ _ hr =>
    (@Ss.cons _ _ _ _ _ _ (S.setO 2 sc_below.nd (EO.lst (A.cons (E.at (E.call G_box_of hr (by omega) tx.m_box_of tx.F_box_of.kp tx.b_box_of (A.cons (E.v 0) (A.cons (E.v 1) A.nil))) (E.globI tx.c_NAME)) A.nil)))
    (@Ss.cons _ _ _ _ _ _ (@S.for _ _ _ _ _ _ _ _ _ _ _ PassesOwn.never rfl (I.list (E.call G_children hr (by omega) tx.m_children tx.F_children.kp tx.b_children (A.cons (E.v 0) (A.cons (E.v 1) A.nil)))) (pg_name (i := 3) sc_below.nd rfl (by first | exact Or.inl rfl | exact Or.inr rfl) ) (TgP.name (i := 3))
    (@Ss.one _ _ _ _ (S.ext 2 (E.call G_below hr (by omega) tx.m_below tx.F_below.kp tx.b_below (A.cons (E.v 0) (A.cons (E.v 3) A.nil))))) (fun _ => rfl))
    (@Ss.one _ _ _ _ (S.retO 2))))
noncomputable abbrev N_painted : List Str := ["scene", "names", "name"]
theorem sc_painted : FnScope ["scene", "names", "name"] ["scene"] (defScope s_painted) := ⟨rfl, rfl, rfl, by decide +kernel, rfl, by decide +kernel, by decide +kernel⟩
noncomputable def g_painted (fn_children : List PyData → Option PyData) (fn_below : List PyData → Option PyData) : En → Option Out :=
  (sSeq (sSetO 1 (fun η => (aN η).bind gL))
    (sSeq (sFor (lI asL (lA fn_children (aC (eV 0) (aC (eC (.str "")) aN)))) (tgN 2)
    (sExt 1 (lI asL (lA fn_below (aC (eV 0) (aC (eV 2) aN))))))
    (sRetO 1)))
set_option maxHeartbeats 4000000 in
theorem ok_painted {k : Nat} (tx : Tx K mg t) {k_children : Nat} {fn_children : List PyData → Option PyData} (G_children : FnOk Pr w K mg base CX0 k_children t.children t.d_children ["scene", "name"] (spP K fn_children)) (hk_children : k_children ≤ k) {k_below : Nat} {fn_below : List PyData → Option PyData} (G_below : FnOk Pr w K mg base CX0 k_below t.below t.d_below ["scene", "name"] (spP K fn_below)) (hk_below : k_below ≤ k) : FnOk Pr w K mg base CX0 (k + 1) t.painted t.d_painted ["scene"] (spP K (runF 1 3 (g_painted fn_children fn_below))) :=
  fnP tx.F_painted sc_painted fun _ _ _ _ _ _ _ hr =>
    (@Ss.cons _ _ _ _ _ _ (S.setO 1 sc_painted.nd (EO.lst A.nil))
    (@Ss.cons _ _ _ _ _ _ (@S.for _ _ _ _ _ _ _ _ _ _ _ PassesOwn.never rfl (I.list (E.call G_children hr (by omega) tx.m_children tx.F_children.kp tx.b_children (A.cons (E.v 0) (A.cons E.str A.nil)))) (pg_name (i := 2) sc_painted.nd rfl (by first | exact Or.inl rfl | exact Or.inr rfl) ) (TgP.name (i := 2))
    (@Ss.one _ _ _ _ (S.ext 1 (E.call G_below hr (by omega) tx.m_below tx.F_below.kp tx.b_below (A.cons (E.v 0) (A.cons (E.v 2) A.nil))))) (fun _ => rfl))
    (@Ss.one _ _ _ _ (S.retO 1))))
noncomputable abbrev N_path_of : List Str := ["scene", "name", "around"]
theorem sc_path_of : FnScope ["scene", "name", "around"] ["scene", "name"] (defScope s_path_of) := ⟨rfl, rfl, rfl, by decide +kernel, rfl, by decide +kernel, by decide +kernel⟩
noncomputable def g_path_of (fn_box_of : List PyData → Option PyData) (fn_path_of : List PyData → Option PyData) : En → Option Out :=
  (sSeq (sSet 2 (l2 pIx (lA fn_box_of (aC (eV 0) (aC (eV 1) aN))) (eC (.int 1))))
    (sSeq (sIf (bT (l2 pEq (eV 2) (eC (.str "")))) (sRet (oE (fun η => ((aC (eV 1) aN) η).bind gL))) sNx)
    (sRet (l2 pAdd (lA fn_path_of (aC (eV 0) (aC (eV 2) aN))) (oE (fun η => ((aC (eV 1) aN) η).bind gL))))))
set_option maxHeartbeats 4000000 in
theorem ok_path_of {k : Nat} (tx : Tx K mg t) {k_box_of : Nat} {fn_box_of : List PyData → Option PyData} (G_box_of : FnOk Pr w K mg base CX0 k_box_of t.box_of t.d_box_of ["scene", "name"] (spP K fn_box_of)) (hk_box_of : k_box_of ≤ k) {k_path_of : Nat} {fn_path_of : List PyData → Option PyData} (G_path_of : FnOk Pr w K mg base CX0 k_path_of t.path_of t.d_path_of ["scene", "name"] (spP K fn_path_of)) (hk_path_of : k_path_of ≤ k) : FnOk Pr w K mg base CX0 (k + 1) t.path_of t.d_path_of ["scene", "name"] (spP K (runF 2 3 (g_path_of fn_box_of fn_path_of))) :=
  fnP tx.F_path_of sc_path_of fun _ _ _ _ _ _ _ hr =>
    (@Ss.cons _ _ _ _ _ _ (S.set 2 sc_path_of.nd (E.at (E.call G_box_of hr (by omega) tx.m_box_of tx.F_box_of.kp tx.b_box_of (A.cons (E.v 0) (A.cons (E.v 1) A.nil))) (E.globI tx.c_AROUND)))
    (@Ss.cons _ _ _ _ _ _ (@S.ifS _ _ _ _ _ _ _ _ _ (T.eq hr (E.v 2) E.str) (@Ss.one _ _ _ _ (S.ret (EO.toE (EO.lst (A.cons (E.v 1) A.nil))))) Ss.nil)
    (@Ss.one _ _ _ _ (S.ret (E.add (E.call G_path_of hr (by omega) tx.m_path_of tx.F_path_of.kp tx.b_path_of (A.cons (E.v 0) (A.cons (E.v 2) A.nil))) (EO.toE (EO.lst (A.cons (E.v 1) A.nil))))))))
noncomputable abbrev N_has_mark : List Str := ["scene", "name", "mark"]
theorem sc_has_mark : FnScope ["scene", "name", "mark"] ["scene", "name", "mark"] (defScope s_has_mark) := ⟨rfl, rfl, rfl, by decide +kernel, rfl, by decide +kernel, by decide +kernel⟩
noncomputable def g_has_mark (fn_box_of : List PyData → Option PyData) : En → Option Out :=
  (sRet (l2 (pIn false) (eV 2) (l2 pIx (lA fn_box_of (aC (eV 0) (aC (eV 1) aN))) (eC (.int 6)))))
set_option maxHeartbeats 4000000 in
theorem ok_has_mark {k : Nat} (tx : Tx K mg t) {k_box_of : Nat} {fn_box_of : List PyData → Option PyData} (G_box_of : FnOk Pr w K mg base CX0 k_box_of t.box_of t.d_box_of ["scene", "name"] (spP K fn_box_of)) (hk_box_of : k_box_of ≤ k) : FnOk Pr w K mg base CX0 (k + 1) t.has_mark t.d_has_mark ["scene", "name", "mark"] (spP K (runF 3 3 (g_has_mark fn_box_of))) :=
  fnP tx.F_has_mark sc_has_mark fun _ _ _ _ _ _ _ hr =>
    (@Ss.one _ _ _ _ (S.ret (E.in (E.v 2) (E.at (E.call G_box_of hr (by omega) tx.m_box_of tx.F_box_of.kp tx.b_box_of (A.cons (E.v 0) (A.cons (E.v 1) A.nil))) (E.globI tx.c_MARKS)))))
noncomputable abbrev N_is_shown : List Str := ["scene", "name"]
theorem sc_is_shown : FnScope ["scene", "name"] ["scene", "name"] (defScope s_is_shown) := ⟨rfl, rfl, rfl, by decide +kernel, rfl, by decide +kernel, by decide +kernel⟩
noncomputable def g_is_shown (fn_path_of : List PyData → Option PyData) (fn_has_mark : List PyData → Option PyData) : En → Option Out :=
  (sRet (vNot (lA pAny (aC (oE (sComp [none, some 0] (lI asL (lA fn_path_of (aC (eV 0) (aC (eV 1) aN)))) (tgN 0) tTrue (lA fn_has_mark (aC (eV 1) (aC (eV 0) (aC (eC (.str "h")) aN)))))) aN))))
set_option maxHeartbeats 4000000 in
theorem ok_is_shown {k : Nat} (tx : Tx K mg t) {k_path_of : Nat} {fn_path_of : List PyData → Option PyData} (G_path_of : FnOk Pr w K mg base CX0 k_path_of t.path_of t.d_path_of ["scene", "name"] (spP K fn_path_of)) (hk_path_of : k_path_of ≤ k) {k_has_mark : Nat} {fn_has_mark : List PyData → Option PyData} (G_has_mark : FnOk Pr w K mg base CX0 k_has_mark t.has_mark t.d_has_mark ["scene", "name", "mark"] (spP K fn_has_mark)) (hk_has_mark : k_has_mark ≤ k) : FnOk Pr w K mg base CX0 (k + 1) t.is_shown t.d_is_shown ["scene", "name"] (spP K (runF 2 2 (g_is_shown fn_path_of fn_has_mark))) :=
  fnP tx.F_is_shown sc_is_shown fun _ _ _ _ _ _ _ hr =>
    (@Ss.one _ _ _ _ (S.ret (E.not (E.any rfl tx.z_any (A.cons (EO.toE (EO.comp (N' := ["step", "scene"]) (mp := [none, some 0]) rfl (CompSc.of' N_is_shown (defScope s_is_shown) rfl rfl (by decide +kernel)) (TgP.name (i := 0)) (by decide) (I.list (E.call G_path_of hr (by omega) tx.m_path_of tx.F_path_of.kp tx.b_path_of (A.cons (E.v 0) (A.cons (E.v 1) A.nil)))) (fun _ _ _ => ⟨(pg_name (i := 0) (show (["step", "scene"] : List Str).Nodup by decide +kernel) rfl (Or.inl rfl) (.inr rfl)), Ts.nil, (E.call G_has_mark hr (by omega) tx.m_has_mark tx.F_has_mark.kp tx.b_has_mark (A.cons (E.v 1) (A.cons (E.v 0) (A.cons (E.globS tx.c_HIDDEN) A.nil))))⟩))) A.nil)))))
noncomputable abbrev N_area_of : List Str := ["scene", "name", "path", "left", "top", "last"]
theorem sc_area_of : FnScope ["scene", "name", "path", "left", "top", "last"] ["scene", "name"] (defScope s_area_of) := ⟨rfl, rfl, rfl, by decide +kernel, rfl, by decide +kernel, by decide +kernel⟩
noncomputable def g_area_of (fn_path_of : List PyData → Option PyData) (fn_box_of : List PyData → Option PyData) : En → Option Out :=
  (sSeq (sSetO 2 (sComp [none, some 0] (lI asL (lA fn_path_of (aC (eV 0) (aC (eV 1) aN)))) (tgN 0) tTrue (lA fn_box_of (aC (eV 1) (aC (eV 0) aN)))))
    (fun η => (sSeq (sSet 3 (lA pSum (aC (oE (sComp [none] (lI asL (eV 2)) (tgN 0) tTrue (l2 pIx (eV 0) (eC (.int 2))))) aN)))
    (sSeq (sSet 4 (lA pSum (aC (oE (sComp [none] (lI asL (eV 2)) (tgN 0) tTrue (l2 pIx (eV 0) (eC (.int 3))))) aN)))
    (sSeq (sSet 5 (lA fn_box_of (aC (eV 0) (aC (eV 1) aN))))
    (sRet (lA (fun ds => if ds.length ≤ sizeLine then some (.tuple ds) else none) (aC (eV 3) (aC (eV 4) (aC (l2 pAdd (eV 3) (l2 pIx (eV 5) (eC (.int 4)))) (aC (l2 pAdd (eV 4) (l2 pIx (eV 5) (eC (.int 5)))) aN))))))))) (frz 2 η)))
set_option maxHeartbeats 4000000 in
theorem ok_area_of {k : Nat} (tx : Tx K mg t) {k_path_of : Nat} {fn_path_of : List PyData → Option PyData} (G_path_of : FnOk Pr w K mg base CX0 k_path_of t.path_of t.d_path_of ["scene", "name"] (spP K fn_path_of)) (hk_path_of : k_path_of ≤ k) {k_box_of : Nat} {fn_box_of : List PyData → Option PyData} (G_box_of : FnOk Pr w K mg base CX0 k_box_of t.box_of t.d_box_of ["scene", "name"] (spP K fn_box_of)) (hk_box_of : k_box_of ≤ k) : FnOk Pr w K mg base CX0 (k + 1) t.area_of t.d_area_of ["scene", "name"] (spP K (runF 2 6 (g_area_of fn_path_of fn_box_of))) :=
  fnP tx.F_area_of sc_area_of fun _ _ _ _ _ _ _ hr =>
    (@Ss.cons _ _ _ _ _ _ (S.setC 2 (N' := ["step", "scene"]) (mp := [none, some 0]) rfl sc_area_of.nd (CompSc.of' N_area_of (defScope s_area_of) rfl rfl (by decide +kernel)) (TgP.name (i := 0)) (by decide) (I.list (E.call G_path_of hr (by omega) tx.m_path_of tx.F_path_of.kp tx.b_path_of (A.cons (E.v 0) (A.cons (E.v 1) A.nil)))) (fun _ _ _ => ⟨(pg_name (i := 0) (show (["step", "scene"] : List Str).Nodup by decide +kernel) rfl (Or.inl rfl) (.inr rfl)), Ts.nil, (E.call G_box_of hr (by omega) tx.m_box_of tx.F_box_of.kp tx.b_box_of (A.cons (E.v 1) (A.cons (E.v 0) A.nil)))⟩))
    (@Ss.frz _ _ _ _ 2 (@Ss.cons _ _ _ _ _ _ (S.set 3 sc_area_of.nd (E.sum rfl tx.z_sum (A.cons (EO.toE (EO.comp (N' := ["box"]) (mp := [none]) rfl (CompSc.of' N_area_of (defScope s_area_of) rfl rfl (by decide +kernel)) (TgP.name (i := 0)) (by decide) (I.list (E.v 2)) (fun _ _ _ => ⟨(pg_name (i := 0) (show (["box"] : List Str).Nodup by decide +kernel) rfl (Or.inl rfl) (.inr rfl)), Ts.nil, (E.at (E.v 0) (E.globI tx.c_LEFT))⟩))) A.nil)))
    (@Ss.cons _ _ _ _ _ _ (S.set 4 sc_area_of.nd (E.sum rfl tx.z_sum (A.cons (EO.toE (EO.comp (N' := ["box"]) (mp := [none]) rfl (CompSc.of' N_area_of (defScope s_area_of) rfl rfl (by decide +kernel)) (TgP.name (i := 0)) (by decide) (I.list (E.v 2)) (fun _ _ _ => ⟨(pg_name (i := 0) (show (["box"] : List Str).Nodup by decide +kernel) rfl (Or.inl rfl) (.inr rfl)), Ts.nil, (E.at (E.v 0) (E.globI tx.c_TOP))⟩))) A.nil)))
    (@Ss.cons _ _ _ _ _ _ (S.set 5 sc_area_of.nd (E.call G_box_of hr (by omega) tx.m_box_of tx.F_box_of.kp tx.b_box_of (A.cons (E.v 0) (A.cons (E.v 1) A.nil))))
    (@Ss.one _ _ _ _ (S.ret (E.tup (A.cons (E.v 3) (A.cons (E.v 4) (A.cons (E.add (E.v 3) (E.at (E.v 5) (E.globI tx.c_WIDTH))) (A.cons (E.add (E.v 4) (E.at (E.v 5) (E.globI tx.c_HEIGHT))) A.nil))))))))))))
noncomputable abbrev N_overlap : List Str := ["one", "other", "left", "top"]
theorem sc_overlap : FnScope ["one", "other", "left", "top"] ["one", "other"] (defScope s_overlap) := ⟨rfl, rfl, rfl, by decide +kernel, rfl, by decide +kernel, by decide +kernel⟩
noncomputable def g_overlap  : En → Option Out :=
  (sSeq (sSet 2 (lA pMax (aC (l2 pIx (eV 0) (eC (.int 0))) (aC (l2 pIx (eV 1) (eC (.int 0))) aN))))
    (sSeq (sSet 3 (lA pMax (aC (l2 pIx (eV 0) (eC (.int 1))) (aC (l2 pIx (eV 1) (eC (.int 1))) aN))))
    (sRet (lA (fun ds => if ds.length ≤ sizeLine then some (.tuple ds) else none) (aC (eV 2) (aC (eV 3) (aC (lA pMin (aC (l2 pIx (eV 0) (eC (.int 2))) (aC (l2 pIx (eV 1) (eC (.int 2))) aN))) (aC (lA pMin (aC (l2 pIx (eV 0) (eC (.int 3))) (aC (l2 pIx (eV 1) (eC (.int 3))) aN))) aN))))))))
set_option maxHeartbeats 4000000 in
theorem ok_overlap {k : Nat} (tx : Tx K mg t)  : FnOk Pr w K mg base CX0 (k + 1) t.overlap t.d_overlap ["one", "other"] (spP K (runF 2 4 (g_overlap))) :=
  fnP tx.F_overlap sc_overlap fun _ _ _ _ _ _ _ hr =>
    (@Ss.cons _ _ _ _ _ _ (S.set 2 sc_overlap.nd (E.max rfl tx.z_max (A.cons (E.at (E.v 0) E.int) (A.cons (E.at (E.v 1) E.int) A.nil))))
    (@Ss.cons _ _ _ _ _ _ (S.set 3 sc_overlap.nd (E.max rfl tx.z_max (A.cons (E.at (E.v 0) E.int) (A.cons (E.at (E.v 1) E.int) A.nil))))
    (@Ss.one _ _ _ _ (S.ret (E.tup (A.cons (E.v 2) (A.cons (E.v 3) (A.cons (E.min rfl tx.z_min (A.cons (E.at (E.v 0) E.int) (A.cons (E.at (E.v 1) E.int) A.nil))) (A.cons (E.min rfl tx.z_min (A.cons (E.at (E.v 0) E.int) (A.cons (E.at (E.v 1) E.int) A.nil))) A.nil)))))))))
noncomputable abbrev N_window_of : List Str := ["scene", "name", "window", "step"]
theorem sc_window_of : FnScope ["scene", "name", "window", "step"] ["scene", "name"] (defScope s_window_of) := ⟨rfl, rfl, rfl, by decide +kernel, rfl, by decide +kernel, by decide +kernel⟩
noncomputable def g_window_of (fn_area_of : List PyData → Option PyData) (fn_path_of : List PyData → Option PyData) (fn_has_mark : List PyData → Option PyData) (fn_overlap : List PyData → Option PyData) : En → Option Out :=
  (sSeq (sSet 2 (lA fn_area_of (aC (eV 0) (aC (eV 1) aN))))
    (sSeq (sFor (lI asL (lA fn_path_of (aC (eV 0) (aC (eV 1) aN)))) (tgN 3)
    (sIf (bT (lA fn_has_mark (aC (eV 0) (aC (eV 3) (aC (eC (.str "c")) aN))))) (sSet 2 (lA fn_overlap (aC (eV 2) (aC (lA fn_area_of (aC (eV 0) (aC (eV 3) aN))) aN)))) sNx))
    (sRet (eV 2))))
set_option maxHeartbeats 4000000 in
theorem ok_window_of {k : Nat} (tx : Tx K mg t) {k_area_of : Nat} {fn_area_of : List PyData → Option PyData} (G_area_of : FnOk Pr w K mg base CX0 k_area_of t.area_of t.d_area_of ["scene", "name"] (spP K fn_area_of)) (hk_area_of : k_area_of ≤ k) {k_path_of : Nat} {fn_path_of : List PyData → Option PyData} (G_path_of : FnOk Pr w K mg base CX0 k_path_of t.path_of t.d_path_of ["scene", "name"] (spP K fn_path_of)) (hk_path_of : k_path_of ≤ k) {k_has_mark : Nat} {fn_has_mark : List PyData → Option PyData} (G_has_mark : FnOk Pr w K mg base CX0 k_has_mark t.has_mark t.d_has_mark ["scene", "name", "mark"] (spP K fn_has_mark)) (hk_has_mark : k_has_mark ≤ k) {k_overlap : Nat} {fn_overlap : List PyData → Option PyData} (G_overlap : FnOk Pr w K mg base CX0 k_overlap t.overlap t.d_overlap ["one", "other"] (spP K fn_overlap)) (hk_overlap : k_overlap ≤ k) : FnOk Pr w K mg base CX0 (k + 1) t.window_of t.d_window_of ["scene", "name"] (spP K (runF 2 4 (g_window_of fn_area_of fn_path_of fn_has_mark fn_overlap))) :=
  fnP tx.F_window_of sc_window_of fun _ _ _ _ _ _ _ hr =>
    (@Ss.cons _ _ _ _ _ _ (S.set 2 sc_window_of.nd (E.call G_area_of hr (by omega) tx.m_area_of tx.F_area_of.kp tx.b_area_of (A.cons (E.v 0) (A.cons (E.v 1) A.nil))))
    (@Ss.cons _ _ _ _ _ _ (@S.for _ _ _ _ _ _ _ _ _ _ _ PassesOwn.never rfl (I.list (E.call G_path_of hr (by omega) tx.m_path_of tx.F_path_of.kp tx.b_path_of (A.cons (E.v 0) (A.cons (E.v 1) A.nil)))) (pg_name (i := 3) sc_window_of.nd rfl (by first | exact Or.inl rfl | exact Or.inr rfl) ) (TgP.name (i := 3))
    (@Ss.one _ _ _ _ (@S.ifS _ _ _ _ _ _ _ _ _ (T.val (E.call G_has_mark hr (by omega) tx.m_has_mark tx.F_has_mark.kp tx.b_has_mark (A.cons (E.v 0) (A.cons (E.v 3) (A.cons (E.globS tx.c_CUTS_OFF) A.nil))))) (@Ss.one _ _ _ _ (S.set 2 sc_window_of.nd (E.call G_overlap hr (by omega) tx.m_overlap tx.F_overlap.kp tx.b_overlap (A.cons (E.v 2) (A.cons (E.call G_area_of hr (by omega) tx.m_area_of tx.F_area_of.kp tx.b_area_of (A.cons (E.v 0) (A.cons (E.v 3) A.nil))) A.nil))))) Ss.nil)) (fun _ => rfl))
    (@Ss.one _ _ _ _ (S.ret (E.v 2)))))
noncomputable abbrev N_takers : List Str := ["scene", "names"]
theorem sc_takers : FnScope ["scene", "names"] ["scene"] (defScope s_takers) := ⟨rfl, rfl, rfl, by decide +kernel, rfl, by decide +kernel, by decide +kernel⟩
noncomputable def g_takers (fn_painted : List PyData → Option PyData) (fn_is_shown : List PyData → Option PyData) (fn_has_mark : List PyData → Option PyData) (fn_window_of : List PyData → Option PyData) : En → Option Out :=
  (sSeq (sSetO 1 (sComp [none, some 0] (fun η => ((aC (lA fn_painted (aC (eV 0) aN)) aN) η).bind rvS) (tgN 0) (bT (lA fn_is_shown (aC (eV 1) (aC (eV 0) aN)))) (eV 0)))
    (fun η => (sRet (oE (sComp [none, some 0] (lI asL (eV 1)) (tgN 0) (bNot (bT (lA fn_has_mark (aC (eV 1) (aC (eV 0) (aC (eC (.str "l")) aN)))))) (lA (fun ds => if ds.length ≤ sizeLine then some (.tuple ds) else none) (aC (eV 0) (aC (lA fn_window_of (aC (eV 1) (aC (eV 0) aN))) aN)))))) (frz 1 η)))
set_option maxHeartbeats 4000000 in
theorem ok_takers {k : Nat} (tx : Tx K mg t) {k_painted : Nat} {fn_painted : List PyData → Option PyData} (G_painted : FnOk Pr w K mg base CX0 k_painted t.painted t.d_painted ["scene"] (spP K fn_painted)) (hk_painted : k_painted ≤ k) {k_is_shown : Nat} {fn_is_shown : List PyData → Option PyData} (G_is_shown : FnOk Pr w K mg base CX0 k_is_shown t.is_shown t.d_is_shown ["scene", "name"] (spP K fn_is_shown)) (hk_is_shown : k_is_shown ≤ k) {k_has_mark : Nat} {fn_has_mark : List PyData → Option PyData} (G_has_mark : FnOk Pr w K mg base CX0 k_has_mark t.has_mark t.d_has_mark ["scene", "name", "mark"] (spP K fn_has_mark)) (hk_has_mark : k_has_mark ≤ k) {k_window_of : Nat} {fn_window_of : List PyData → Option PyData} (G_window_of : FnOk Pr w K mg base CX0 k_window_of t.window_of t.d_window_of ["scene", "name"] (spP K fn_window_of)) (hk_window_of : k_window_of ≤ k) : FnOk Pr w K mg base CX0 (k + 1) t.takers t.d_takers ["scene"] (spP K (runF 1 2 (g_takers fn_painted fn_is_shown fn_has_mark fn_window_of))) :=
  fnP tx.F_takers sc_takers fun _ _ _ _ _ _ _ hr =>
    (@Ss.cons _ _ _ _ _ _ (S.setC 1 (N' := ["name", "scene"]) (mp := [none, some 0]) rfl sc_takers.nd (CompSc.of' N_takers (defScope s_takers) rfl rfl (by decide +kernel)) (TgP.name (i := 0)) (by decide) (I.rev rfl tx.z_reversed (A.cons (E.call G_painted hr (by omega) tx.m_painted tx.F_painted.kp tx.b_painted (A.cons (E.v 0) A.nil)) A.nil)) (fun _ _ _ => ⟨(pg_name (i := 0) (show (["name", "scene"] : List Str).Nodup by decide +kernel) rfl (Or.inl rfl) (.inr rfl)), (Ts.one (T.val (E.call G_is_shown hr (by omega) tx.m_is_shown tx.F_is_shown.kp tx.b_is_shown (A.cons (E.v 1) (A.cons (E.v 0) A.nil))))), (E.v 0)⟩))
    (@Ss.frz _ _ _ _ 1 (@Ss.one _ _ _ _ (S.ret (EO.toE (EO.comp (N' := ["name", "scene"]) (mp := [none, some 0]) rfl (CompSc.of' N_takers (defScope s_takers) rfl rfl (by decide +kernel)) (TgP.name (i := 0)) (by decide) (I.list (E.v 1)) (fun _ _ _ => ⟨(pg_name (i := 0) (show (["name", "scene"] : List Str).Nodup by decide +kernel) rfl (Or.inl rfl) (.inr rfl)), (Ts.one (T.not (T.val (E.call G_has_mark hr (by omega) tx.m_has_mark tx.F_has_mark.kp tx.b_has_mark (A.cons (E.v 1) (A.cons (E.v 0) (A.cons (E.globS tx.c_LETS_BY) A.nil))))))), (E.tup (A.cons (E.v 0) (A.cons (E.call G_window_of hr (by omega) tx.m_window_of tx.F_window_of.kp tx.b_window_of (A.cons (E.v 1) (A.cons (E.v 0) A.nil))) A.nil)))⟩)))))))
noncomputable abbrev N_has_point : List Str := ["area", "x", "y"]
theorem sc_has_point : FnScope ["area", "x", "y"] ["area", "x", "y"] (defScope s_has_point) := ⟨rfl, rfl, rfl, by decide +kernel, rfl, by decide +kernel, by decide +kernel⟩
noncomputable def g_has_point  : En → Option Out :=
  (sRet (vAnd (lch pLe pLt (l2 pIx (eV 0) (eC (.int 0))) (eV 1) (l2 pIx (eV 0) (eC (.int 2)))) (lch pLe pLt (l2 pIx (eV 0) (eC (.int 1))) (eV 2) (l2 pIx (eV 0) (eC (.int 3))))))
set_option maxHeartbeats 4000000 in
theorem ok_has_point {k : Nat} (tx : Tx K mg t)  : FnOk Pr w K mg base CX0 (k + 1) t.has_point t.d_has_point ["area", "x", "y"] (spP K (runF 3 3 (g_has_point))) :=
  fnP tx.F_has_point sc_has_point fun _ _ _ _ _ _ _ hr =>
    (@Ss.one _ _ _ _ (S.ret (E.and (E.chain op_le (ad_I0 fun _ _ _ => rel_bl) op_lt (ad_I0 fun _ _ _ => rel_bl) (E.at (E.v 0) E.int) (E.v 1) (E.at (E.v 0) E.int)) (E.one (E.chain op_le (ad_I0 fun _ _ _ => rel_bl) op_lt (ad_I0 fun _ _ _ => rel_bl) (E.at (E.v 0) E.int) (E.v 2) (E.at (E.v 0) E.int))))))
noncomputable abbrev N_first_at : List Str := ["rows", "x", "y", "name", "window"]
theorem sc_first_at : FnScope ["rows", "x", "y", "name", "window"] ["rows", "x", "y"] (defScope s_first_at) := ⟨rfl, rfl, rfl, by decide +kernel, rfl, by decide +kernel, by decide +kernel⟩
noncomputable def g_first_at (fn_has_point : List PyData → Option PyData) : En → Option Out :=
  (sSeq (sFor (lI asL (eV 0)) (tgT (tgCons (tgN 3) (tgCons (tgN 4) tgNil)))
    (sIf (bT (lA fn_has_point (aC (eV 4) (aC (eV 1) (aC (eV 2) aN))))) (sRet (eV 3)) sNx))
    (sRet (eC .none)))
set_option maxHeartbeats 4000000 in
theorem ok_first_at {k : Nat} (tx : Tx K mg t) {k_has_point : Nat} {fn_has_point : List PyData → Option PyData} (G_has_point : FnOk Pr w K mg base CX0 k_has_point t.has_point t.d_has_point ["area", "x", "y"] (spP K fn_has_point)) (hk_has_point : k_has_point ≤ k) : FnOk Pr w K mg base CX0 (k + 1) t.first_at t.d_first_at ["rows", "x", "y"] (spP K (runF 3 5 (g_first_at fn_has_point))) :=
  fnP tx.F_first_at sc_first_at fun _ _ _ _ _ _ _ hr =>
    (@Ss.cons _ _ _ _ _ _ (@S.for _ _ _ _ _ _ _ _ _ _ _ PassesOwn.never rfl (I.list (E.v 0)) (pg_tup (n := 2) rfl (pgs_cons (pg_name (i := 3) sc_first_at.nd rfl (by first | exact Or.inl rfl | exact Or.inr rfl) ) (pgs_cons (pg_name (i := 4) sc_first_at.nd rfl (by first | exact Or.inl rfl | exact Or.inr rfl) ) pgs_nil))) (TgP.tup (n := 2) (TgsP.cons (TgP.name (i := 3)) (TgsP.cons (TgP.name (i := 4)) TgsP.nil)) (tg_len2))
    (@Ss.one _ _ _ _ (@S.ifS _ _ _ _ _ _ _ _ _ (T.val (E.call G_has_point hr (by omega) tx.m_has_point tx.F_has_point.kp tx.b_has_point (A.cons (E.v 4) (A.cons (E.v 1) (A.cons (E.v 2) A.nil))))) (@Ss.one _ _ _ _ (S.ret (E.v 3))) Ss.nil)) (fun _ => rfl))
    (@Ss.one _ _ _ _ (S.ret E.non)))
noncomputable abbrev N_sign_of : List Str := ["name"]
theorem sc_sign_of : FnScope ["name"] ["name"] (defScope s_sign_of) := ⟨rfl, rfl, rfl, by decide +kernel, rfl, by decide +kernel, by decide +kernel⟩
noncomputable def g_sign_of  : En → Option Out :=
  (sRet (vIf (bT (l2 (pIsN false) (eV 0) (eC .none))) (eC (.str ".")) (l2 pIx (eV 0) (eC (.int 0)))))
set_option maxHeartbeats 4000000 in
theorem ok_sign_of {k : Nat} (tx : Tx K mg t)  : FnOk Pr w K mg base CX0 (k + 1) t.sign_of t.d_sign_of ["name"] (spP K (runF 1 1 (g_sign_of))) :=
  fnP tx.F_sign_of sc_sign_of fun _ _ _ _ _ _ _ hr =>
    (@Ss.one _ _ _ _ (S.ret (E.ifE (T.isN (E.v 0) E.non) (E.globS tx.c_NOTHING) (E.at (E.v 0) E.int))))
noncomputable abbrev N_picture : List Str := ["scene", "left", "top", "right", "bottom", "rows", "lines", "y", "signs"]
theorem sc_picture : FnScope ["scene", "left", "top", "right", "bottom", "rows", "lines", "y", "signs"] ["scene", "left", "top", "right", "bottom"] (defScope s_picture) := ⟨rfl, rfl, rfl, by decide +kernel, rfl, by decide +kernel, by decide +kernel⟩
noncomputable def g_picture (fn_takers : List PyData → Option PyData) (fn_first_at : List PyData → Option PyData) (fn_sign_of : List PyData → Option PyData) : En → Option Out :=
  (sSeq (sSet 5 (lA fn_takers (aC (eV 0) aN)))
    (sSeq (sSetO 6 (fun η => (aN η).bind gL))
    (sSeq (sFor (fun η => ((aC (eV 2) (aC (eV 4) aN)) η).bind rng2) (tgN 7)
    (sSeq (sSetO 8 (sComp [none, some 5, some 7] (fun η => ((aC (eV 1) (aC (eV 3) aN)) η).bind rng2) (tgN 0) tTrue (lA fn_sign_of (aC (lA fn_first_at (aC (eV 1) (aC (eV 0) (aC (eV 2) aN)))) aN))))
    (fun η => (sApp 6 (l2 pAdd (l2 pJoin (eC (.str "")) (eV 8)) (eC (.str "\n")))) (frz 8 η))))
    (fun η => (sRet (l2 pJoin (eC (.str "")) (eV 6))) (frz 6 η)))))
set_option maxHeartbeats 4000000 in
theorem ok_picture {k : Nat} (tx : Tx K mg t) {k_takers : Nat} {fn_takers : List PyData → Option PyData} (G_takers : FnOk Pr w K mg base CX0 k_takers t.takers t.d_takers ["scene"] (spP K fn_takers)) (hk_takers : k_takers ≤ k) {k_first_at : Nat} {fn_first_at : List PyData → Option PyData} (G_first_at : FnOk Pr w K mg base CX0 k_first_at t.first_at t.d_first_at ["rows", "x", "y"] (spP K fn_first_at)) (hk_first_at : k_first_at ≤ k) {k_sign_of : Nat} {fn_sign_of : List PyData → Option PyData} (G_sign_of : FnOk Pr w K mg base CX0 k_sign_of t.sign_of t.d_sign_of ["name"] (spP K fn_sign_of)) (hk_sign_of : k_sign_of ≤ k) : FnOk Pr w K mg base CX0 (k + 1) t.picture t.d_picture ["scene", "left", "top", "right", "bottom"] (spP K (runF 5 9 (g_picture fn_takers fn_first_at fn_sign_of))) :=
  fnP tx.F_picture sc_picture fun _ _ _ _ _ _ _ hr =>
    (@Ss.cons _ _ _ _ _ _ (S.set 5 sc_picture.nd (E.call G_takers hr (by omega) tx.m_takers tx.F_takers.kp tx.b_takers (A.cons (E.v 0) A.nil)))
    (@Ss.cons _ _ _ _ _ _ (S.setO 6 sc_picture.nd (EO.lst A.nil))
    (@Ss.cons _ _ _ _ _ _ (@S.for _ _ _ _ _ _ _ _ _ _ _ PassesOwn.never rfl (I.rng2 tx.z_range (A.cons (E.v 2) (A.cons (E.v 4) A.nil))) (pg_name (i := 7) sc_picture.nd rfl (by first | exact Or.inl rfl | exact Or.inr rfl) ) (TgP.name (i := 7))
    (@Ss.cons _ _ _ _ _ _ (S.setC 8 (N' := ["x", "rows", "y"]) (mp := [none, some 5, some 7]) rfl sc_picture.nd (CompSc.of' N_picture (defScope s_picture) rfl rfl (by decide +kernel)) (TgP.name (i := 0)) (by decide) (I.rng2 tx.z_range (A.cons (E.v 1) (A.cons (E.v 3) A.nil))) (fun _ _ _ => ⟨(pg_name (i := 0) (show (["x", "rows", "y"] : List Str).Nodup by decide +kernel) rfl (Or.inl rfl) (.inr rfl)), Ts.nil, (E.call G_sign_of hr (by omega) tx.m_sign_of tx.F_sign_of.kp tx.b_sign_of (A.cons (E.call G_first_at hr (by omega) tx.m_first_at tx.F_first_at.kp tx.b_first_at (A.cons (E.v 1) (A.cons (E.v 0) (A.cons (E.v 2) A.nil)))) A.nil))⟩))
    (@Ss.frz _ _ _ _ 8 (@Ss.one _ _ _ _ (S.app 6 (E.add (E.join E.str (E.v 8)) (E.globS tx.c_ROW_END)))))) (fun _ => rfl))
    (@Ss.frz _ _ _ _ 6 (@Ss.one _ _ _ _ (S.ret (E.join E.str (E.v 6))))))))
noncomputable abbrev N_shares : List Str := ["scene", "left", "top", "right", "bottom", "rows", "counts", "x", "y", "name"]
theorem sc_shares : FnScope ["scene", "left", "top", "right", "bottom", "rows", "counts", "x", "y", "name"] ["scene", "left", "top", "right", "bottom"] (defScope s_shares) := ⟨rfl, rfl, rfl, by decide +kernel, rfl, by decide +kernel, by decide +kernel⟩
noncomputable def g_shares (fn_takers : List PyData → Option PyData) (fn_first_at : List PyData → Option PyData) : En → Option Out :=
  (sSeq (sSet 5 (lA fn_takers (aC (eV 0) aN)))
    (sSeq (sSetD 6)
    (sSeq (sFor (fun η => ((aC (eV 1) (aC (eV 3) aN)) η).bind rng2) (tgN 7)
    (sFor (fun η => ((aC (eV 2) (aC (eV 4) aN)) η).bind rng2) (tgN 8)
    (sSeq (sSet 9 (lA fn_first_at (aC (eV 5) (aC (eV 7) (aC (eV 8) aN)))))
    (sIf (bT (l2 (pIsN true) (eV 9) (eC .none))) (sPutD 6 (eV 9) (l2 pAdd (eGet2O 6 (eV 9) (eC (.int 0))) (eC (.int 1)))) sNx))))
    (fun η => (sRet (l1 pSortI (eV 6))) (frz 6 η)))))
set_option maxHeartbeats 4000000 in
theorem ok_shares {k : Nat} (tx : Tx K mg t) {k_takers : Nat} {fn_takers : List PyData → Option PyData} (G_takers : FnOk Pr w K mg base CX0 k_takers t.takers t.d_takers ["scene"] (spP K fn_takers)) (hk_takers : k_takers ≤ k) {k_first_at : Nat} {fn_first_at : List PyData → Option PyData} (G_first_at : FnOk Pr w K mg base CX0 k_first_at t.first_at t.d_first_at ["rows", "x", "y"] (spP K fn_first_at)) (hk_first_at : k_first_at ≤ k) : FnOk Pr w K mg base CX0 (k + 1) t.shares t.d_shares ["scene", "left", "top", "right", "bottom"] (spP K (runF 5 10 (g_shares fn_takers fn_first_at))) :=
  fnP tx.F_shares sc_shares fun _ _ _ _ _ _ _ hr =>
    (@Ss.cons _ _ _ _ _ _ (S.set 5 sc_shares.nd (E.call G_takers hr (by omega) tx.m_takers tx.F_takers.kp tx.b_takers (A.cons (E.v 0) A.nil)))
    (@Ss.cons _ _ _ _ _ _ (S.setD 6 sc_shares.nd)
    (@Ss.cons _ _ _ _ _ _ (@S.for _ _ _ _ _ _ _ _ _ _ _ PassesOwn.never rfl (I.rng2 tx.z_range (A.cons (E.v 1) (A.cons (E.v 3) A.nil))) (pg_name (i := 7) sc_shares.nd rfl (by first | exact Or.inl rfl | exact Or.inr rfl) ) (TgP.name (i := 7))
    (@Ss.one _ _ _ _ (@S.for _ _ _ _ _ _ _ _ _ _ _ PassesOwn.never rfl (I.rng2 tx.z_range (A.cons (E.v 2) (A.cons (E.v 4) A.nil))) (pg_name (i := 8) sc_shares.nd rfl (by first | exact Or.inl rfl | exact Or.inr rfl) ) (TgP.name (i := 8))
    (@Ss.cons _ _ _ _ _ _ (S.set 9 sc_shares.nd (E.call G_first_at hr (by omega) tx.m_first_at tx.F_first_at.kp tx.b_first_at (A.cons (E.v 5) (A.cons (E.v 7) (A.cons (E.v 8) A.nil)))))
    (@Ss.one _ _ _ _ (@S.ifS _ _ _ _ _ _ _ _ _ (T.notN (E.v 9) E.non) (@Ss.one _ _ _ _ (S.putD 6 hr (E.v 9) (E.add (E.get2O 6 hr (E.v 9) E.int) E.int))) Ss.nil))) (fun _ => rfl))) (fun _ => rfl))
    (@Ss.frz _ _ _ _ 6 (@Ss.one _ _ _ _ (S.ret (E.sortItems hr tx.z_sorted (E.v 6))))))))
noncomputable abbrev N_unlike_points : List Str := ["one", "other", "left", "top", "right", "bottom", "ones", "others", "points", "x"]
theorem sc_unlike_points : FnScope ["one", "other", "left", "top", "right", "bottom", "ones", "others", "points", "x"] ["one", "other", "left", "top", "right", "bottom"] (defScope s_unlike_points) := ⟨rfl, rfl, rfl, by decide +kernel, rfl, by decide +kernel, by decide +kernel⟩
noncomputable def g_unlike_points (fn_takers : List PyData → Option PyData) (fn_first_at : List PyData → Option PyData) : En → Option Out :=
  (sSeq (sSet 6 (lA fn_takers (aC (eV 0) aN)))
    (sSeq (sSet 7 (lA fn_takers (aC (eV 1) aN)))
    (sSeq (sSetO 8 (fun η => (aN η).bind gL))
    (sSeq (sFor (fun η => ((aC (eV 2) (aC (eV 4) aN)) η).bind rng2) (tgN 9)
    (sExt 8 (lI asL (oE (sComp [none, some 6, some 7, some 9] (fun η => ((aC (eV 3) (aC (eV 5) aN)) η).bind rng2) (tgN 0) (bT (l2 pNe (lA fn_first_at (aC (eV 1) (aC (eV 3) (aC (eV 0) aN)))) (lA fn_first_at (aC (eV 2) (aC (eV 3) (aC (eV 0) aN)))))) (lA (fun ds => if ds.length ≤ sizeLine then some (.tuple ds) else none) (aC (eV 3) (aC (eV 0) aN))))))))
    (sRetO 8)))))
set_option maxHeartbeats 4000000 in
theorem ok_unlike_points {k : Nat} (tx : Tx K mg t) {k_takers : Nat} {fn_takers : List PyData → Option PyData} (G_takers : FnOk Pr w K mg base CX0 k_takers t.takers t.d_takers ["scene"] (spP K fn_takers)) (hk_takers : k_takers ≤ k) {k_first_at : Nat} {fn_first_at : List PyData → Option PyData} (G_first_at : FnOk Pr w K mg base CX0 k_first_at t.first_at t.d_first_at ["rows", "x", "y"] (spP K fn_first_at)) (hk_first_at : k_first_at ≤ k) : FnOk Pr w K mg base CX0 (k + 1) t.unlike_points t.d_unlike_points ["one", "other", "left", "top", "right", "bottom"] (spP K (runF 6 10 (g_unlike_points fn_takers fn_first_at))) :=
  fnP tx.F_unlike_points sc_unlike_points fun _ _ _ _ _ _ _ hr =>
    (@Ss.cons _ _ _ _ _ _ (S.set 6 sc_unlike_points.nd (E.call G_takers hr (by omega) tx.m_takers tx.F_takers.kp tx.b_takers (A.cons (E.v 0) A.nil)))
    (@Ss.cons _ _ _ _ _ _ (S.set 7 sc_unlike_points.nd (E.call G_takers hr (by omega) tx.m_takers tx.F_takers.kp tx.b_takers (A.cons (E.v 1) A.nil)))
    (@Ss.cons _ _ _ _ _ _ (S.setO 8 sc_unlike_points.nd (EO.lst A.nil))
    (@Ss.cons _ _ _ _ _ _ (@S.for _ _ _ _ _ _ _ _ _ _ _ PassesOwn.never rfl (I.rng2 tx.z_range (A.cons (E.v 2) (A.cons (E.v 4) A.nil))) (pg_name (i := 9) sc_unlike_points.nd rfl (by first | exact Or.inl rfl | exact Or.inr rfl) ) (TgP.name (i := 9))
    (@Ss.one _ _ _ _ (S.ext 8 (EO.toE (EO.comp (N' := ["y", "ones", "others", "x"]) (mp := [none, some 6, some 7, some 9]) rfl (CompSc.of' N_unlike_points (defScope s_unlike_points) rfl rfl (by decide +kernel)) (TgP.name (i := 0)) (by decide) (I.rng2 tx.z_range (A.cons (E.v 3) (A.cons (E.v 5) A.nil))) (fun _ _ _ => ⟨(pg_name (i := 0) (show (["y", "ones", "others", "x"] : List Str).Nodup by decide +kernel) rfl (Or.inl rfl) (.inr rfl)), (Ts.one (T.ne hr (E.call G_first_at hr (by omega) tx.m_first_at tx.F_first_at.kp tx.b_first_at (A.cons (E.v 1) (A.cons (E.v 3) (A.cons (E.v 0) A.nil)))) (E.call G_first_at hr (by omega) tx.m_first_at tx.F_first_at.kp tx.b_first_at (A.cons (E.v 2) (A.cons (E.v 3) (A.cons (E.v 0) A.nil)))))), (E.tup (A.cons (E.v 3) (A.cons (E.v 0) A.nil)))⟩))))) (fun _ => rfl))
    (@Ss.one _ _ _ _ (S.retO 8))))))
noncomputable abbrev N_law : List Str := ["_law_script", "_law_one", "_law_other", "_law_mine", "_law_yours", "_law_left", "_law_top", "_law_right", "_law_bottom", "_law_text", "_law_y", "_law_x", "_law_name", "_law_points", "_law_names", "_law_due", "_law_unlike", "_law_named"]
theorem sc_law : FnScope ["_law_script", "_law_one", "_law_other", "_law_mine", "_law_yours", "_law_left", "_law_top", "_law_right", "_law_bottom", "_law_text", "_law_y", "_law_x", "_law_name", "_law_points", "_law_names", "_law_due", "_law_unlike", "_law_named"] ["_law_script"] (defScope s_law) := ⟨rfl, rfl, rfl, by decide +kernel, rfl, by decide +kernel, by decide +kernel⟩
noncomputable def g_law (fn__law_scene : List PyData → Option PyData) (fn__law_areas : List PyData → Option PyData) (fn__law_drawn : List PyData → Option PyData) (fn__law_hit : List PyData → Option PyData) (fn_picture : List PyData → Option PyData) (fn_shares : List PyData → Option PyData) (fn_unlike_points : List PyData → Option PyData) : En → Option Out :=
  (sSeq (sPar 1 2 (aC (lA fn__law_scene (aC (eV 0) (aC (eC (.int 0)) aN))) (aC (lA fn__law_scene (aC (eV 0) (aC (eC (.int 100)) aN))) aN)))
    (sSeq (sUnp (lA (fun ds => if ds.length ≤ sizeLine then some (.tuple ds) else none) (aC (lA fn__law_areas (aC (eV 1) aN)) (aC (lA fn__law_areas (aC (eV 2) aN)) aN))) (tgT (tgCons (tgN 3) (tgCons (tgN 4) tgNil))))
    (sSeq (sPar 5 6 (aC (l2 pSub (lA fn__law_drawn (aC (eV 0) (aC (eC (.int 200)) (aC (eC (.int 12)) aN)))) (eC (.int 5))) (aC (l2 pSub (lA fn__law_drawn (aC (eV 0) (aC (eC (.int 201)) (aC (eC (.int 12)) aN)))) (eC (.int 5))) aN)))
    (sSeq (sPar 7 8 (aC (l2 pAdd (eV 5) (lA fn__law_drawn (aC (eV 0) (aC (eC (.int 202)) (aC (eC (.int 8)) aN))))) (aC (l2 pAdd (eV 6) (lA fn__law_drawn (aC (eV 0) (aC (eC (.int 203)) (aC (eC (.int 8)) aN))))) aN)))
    (sSeq (sSet 9 (eC (.str "")))
    (sSeq (sFor (fun η => ((aC (eV 6) (aC (eV 8) aN)) η).bind rng2) (tgN 10)
    (sSeq (sFor (fun η => ((aC (eV 5) (aC (eV 7) aN)) η).bind rng2) (tgN 11)
    (sSeq (sSet 12 (lA fn__law_hit (aC (eV 3) (aC (eV 11) (aC (eV 10) aN)))))
    (sSet 9 (l2 pAdd (eV 9) (vIf (bT (l2 (pIsN false) (eV 12) (eC .none))) (eC (.str ".")) (l2 pIx (eV 12) (eC (.int 0))))))))
    (sSet 9 (l2 pAdd (eV 9) (eC (.str "\n"))))))
    (sSeq (sIf (bT (l2 pNe (lA fn_picture (aC (eV 1) (aC (eV 5) (aC (eV 6) (aC (eV 7) (aC (eV 8) aN)))))) (eV 9))) (sRet (eC (.bool false))) sNx)
    (sSeq (sSet 13 (oE (fun η => (aN η).bind gL)))
    (sSeq (sFor (fun η => ((aC (eV 5) (aC (eV 7) aN)) η).bind rng2) (tgN 11)
    (sSet 13 (l2 pAdd (eV 13) (oE (sComp [none, some 11] (fun η => ((aC (eV 6) (aC (eV 8) aN)) η).bind rng2) (tgN 0) tTrue (lA (fun ds => if ds.length ≤ sizeLine then some (.tuple ds) else none) (aC (eV 1) (aC (eV 0) aN))))))))
    (sSeq (sSet 14 (oE (sComp [none, none, some 3] (lI asL (eV 13)) (tgT (tgCons (tgN 0) (tgCons (tgN 1) tgNil))) tTrue (lA fn__law_hit (aC (eV 2) (aC (eV 0) (aC (eV 1) aN)))))))
    (sSeq (sSetO 15 (sComp [none, some 14] (lI asL (lA pSortSet (aC (oE (sComp [none] (lI asL (eV 14)) (tgN 0) (bT (l2 (pIsN true) (eV 0) (eC .none))) (eV 0))) aN))) (tgN 0) tTrue (lA (fun ds => if ds.length ≤ sizeLine then some (.tuple ds) else none) (aC (eV 0) (aC (l2 pCnt (eV 1) (eV 0)) aN)))))
    (fun η => (sSeq (sIf (bT (l2 pNe (lA fn_shares (aC (eV 1) (aC (eV 5) (aC (eV 6) (aC (eV 7) (aC (eV 8) aN)))))) (eV 15))) (sRet (eC (.bool false))) sNx)
    (sSeq (sSetO 16 (sComp [none, none, some 3, some 4] (lI asL (eV 13)) (tgT (tgCons (tgN 0) (tgCons (tgN 1) tgNil))) (bT (l2 pNe (lA fn__law_hit (aC (eV 2) (aC (eV 0) (aC (eV 1) aN)))) (lA fn__law_hit (aC (eV 3) (aC (eV 0) (aC (eV 1) aN)))))) (lA (fun ds => if ds.length ≤ sizeLine then some (.tuple ds) else none) (aC (eV 0) (aC (eV 1) aN)))))
    (fun η => (sSeq (sIf (bT (l2 pNe (lA fn_unlike_points (aC (eV 1) (aC (eV 2) (aC (eV 5) (aC (eV 6) (aC (eV 7) (aC (eV 8) aN))))))) (eV 16))) (sRet (eC (.bool false))) sNx)
    (sSeq (sSet 17 (eC (.tuple [(.tuple [(.str "ab"), (.str ""), (.int 0), (.int 0), (.int 2), (.int 2), (.str "")]), (.tuple [(.str "cd"), (.str "ab"), (.int 1), (.int 1), (.int 3), (.int 3), (.str "")])])))
    (sSeq (sIf (bT (l2 pNe (lA fn_picture (aC (eV 17) (aC (eC (.int 0)) (aC (eC (.int 0)) (aC (eC (.int 3)) (aC (eC (.int 3)) aN)))))) (eC (.str "aa.\nacc\n.cc\n")))) (sRet (eC (.bool false))) sNx)
    (sRet (vAnd (l2 pEq (lA fn_picture (aC (lA (fun ds => if ds.length ≤ sizeLine then some (.tuple ds) else none) aN) (aC (eC (.int 1)) (aC (eC (.int 1)) (aC (eC (.int 1)) (aC (eC (.int 3)) aN)))))) (eC (.str "\n\n"))) (vAnd (l2 pEq (lA fn_shares (aC (lA (fun ds => if ds.length ≤ sizeLine then some (.tuple ds) else none) aN) (aC (eC (.int 0)) (aC (eC (.int 0)) (aC (eC (.int 3)) (aC (eC (.int 3)) aN)))))) (oE (fun η => (aN η).bind gL))) (l2 pEq (lA fn_picture (aC (eV 1) (aC (eC (.int 3)) (aC (eC (.int 3)) (aC (eC (.int 3)) (aC (eC (.int 3)) aN)))))) (eC (.str ""))))))))) (frz 16 η)))) (frz 15 η)))))))))))))
set_option maxHeartbeats 4000000 in
theorem ok_law {k : Nat} (tx : Tx K mg t) {k__law_scene : Nat} {fn__law_scene : List PyData → Option PyData} (G__law_scene : FnOk Pr w K mg base CX0 k__law_scene t._law_scene t.d__law_scene ["_law_script", "_law_at"] (spP K fn__law_scene)) (hk__law_scene : k__law_scene ≤ k) {k__law_areas : Nat} {fn__law_areas : List PyData → Option PyData} (G__law_areas : FnOk Pr w K mg base CX0 k__law_areas t._law_areas t.d__law_areas ["_law_scene_here"] (spP K fn__law_areas)) (hk__law_areas : k__law_areas ≤ k) {k__law_drawn : Nat} {fn__law_drawn : List PyData → Option PyData} (G__law_drawn : FnOk Pr w K mg base CX0 k__law_drawn t._law_drawn t.d__law_drawn ["_law_script", "_law_k", "_law_many"] (spP K fn__law_drawn)) (hk__law_drawn : k__law_drawn ≤ k) {k__law_hit : Nat} {fn__law_hit : List PyData → Option PyData} (G__law_hit : FnOk Pr w K mg base CX0 k__law_hit t._law_hit t.d__law_hit ["_law_rows", "_law_x", "_law_y"] (spP K fn__law_hit)) (hk__law_hit : k__law_hit ≤ k) {k_picture : Nat} {fn_picture : List PyData → Option PyData} (G_picture : FnOk Pr w K mg base CX0 k_picture t.picture t.d_picture ["scene", "left", "top", "right", "bottom"] (spP K fn_picture)) (hk_picture : k_picture ≤ k) {k_shares : Nat} {fn_shares : List PyData → Option PyData} (G_shares : FnOk Pr w K mg base CX0 k_shares t.shares t.d_shares ["scene", "left", "top", "right", "bottom"] (spP K fn_shares)) (hk_shares : k_shares ≤ k) {k_unlike_points : Nat} {fn_unlike_points : List PyData → Option PyData} (G_unlike_points : FnOk Pr w K mg base CX0 k_unlike_points t.unlike_points t.d_unlike_points ["one", "other", "left", "top", "right", "bottom"] (spP K fn_unlike_points)) (hk_unlike_points : k_unlike_points ≤ k) : FnOk Pr w K mg base CX0 (k + 1) t.law t.d_law ["_law_script"] (spP K (runF 1 18 (g_law fn__law_scene fn__law_areas fn__law_drawn fn__law_hit fn_picture fn_shares fn_unlike_points))) :=
  fnP tx.F_law sc_law fun _ _ _ _ _ _ _ hr =>
    (@Ss.cons _ _ _ _ _ _ (S.par 1 2 sc_law.nd (A.cons (E.call G__law_scene hr (by omega) tx.m__law_scene tx.F__law_scene.kp tx.b__law_scene (A.cons (E.v 0) (A.cons E.int A.nil))) (A.cons (E.call G__law_scene hr (by omega) tx.m__law_scene tx.F__law_scene.kp tx.b__law_scene (A.cons (E.v 0) (A.cons E.int A.nil))) A.nil)))
    (@Ss.cons _ _ _ _ _ _ (S.unp (E.tup (A.cons (E.call G__law_areas hr (by omega) tx.m__law_areas tx.F__law_areas.kp tx.b__law_areas (A.cons (E.v 1) A.nil)) (A.cons (E.call G__law_areas hr (by omega) tx.m__law_areas tx.F__law_areas.kp tx.b__law_areas (A.cons (E.v 2) A.nil)) A.nil))) (pg_tup (n := 2) rfl (pgs_cons (pg_name (i := 3) sc_law.nd rfl (by first | exact Or.inl rfl | exact Or.inr rfl) ) (pgs_cons (pg_name (i := 4) sc_law.nd rfl (by first | exact Or.inl rfl | exact Or.inr rfl) ) pgs_nil))) (TgP.tup (n := 2) (TgsP.cons (TgP.name (i := 3)) (TgsP.cons (TgP.name (i := 4)) TgsP.nil)) (tg_len2)))
    (@Ss.cons _ _ _ _ _ _ (S.par 5 6 sc_law.nd (A.cons (E.sub (E.call G__law_drawn hr (by omega) tx.m__law_drawn tx.F__law_drawn.kp tx.b__law_drawn (A.cons (E.v 0) (A.cons E.int (A.cons E.int A.nil)))) E.int) (A.cons (E.sub (E.call G__law_drawn hr (by omega) tx.m__law_drawn tx.F__law_drawn.kp tx.b__law_drawn (A.cons (E.v 0) (A.cons E.int (A.cons E.int A.nil)))) E.int) A.nil)))
    (@Ss.cons _ _ _ _ _ _ (S.par 7 8 sc_law.nd (A.cons (E.add (E.v 5) (E.call G__law_drawn hr (by omega) tx.m__law_drawn tx.F__law_drawn.kp tx.b__law_drawn (A.cons (E.v 0) (A.cons E.int (A.cons E.int A.nil))))) (A.cons (E.add (E.v 6) (E.call G__law_drawn hr (by omega) tx.m__law_drawn tx.F__law_drawn.kp tx.b__law_drawn (A.cons (E.v 0) (A.cons E.int (A.cons E.int A.nil))))) A.nil)))
    (@Ss.cons _ _ _ _ _ _ (S.set 9 sc_law.nd E.str)
    (@Ss.cons _ _ _ _ _ _ (@S.for _ _ _ _ _ _ _ _ _ _ _ PassesOwn.never rfl (I.rng2 tx.z_range (A.cons (E.v 6) (A.cons (E.v 8) A.nil))) (pg_name (i := 10) sc_law.nd rfl (by first | exact Or.inl rfl | exact Or.inr rfl) ) (TgP.name (i := 10))
    (@Ss.cons _ _ _ _ _ _ (@S.for _ _ _ _ _ _ _ _ _ _ _ PassesOwn.never rfl (I.rng2 tx.z_range (A.cons (E.v 5) (A.cons (E.v 7) A.nil))) (pg_name (i := 11) sc_law.nd rfl (by first | exact Or.inl rfl | exact Or.inr rfl) ) (TgP.name (i := 11))
    (@Ss.cons _ _ _ _ _ _ (S.set 12 sc_law.nd (E.call G__law_hit hr (by omega) tx.m__law_hit tx.F__law_hit.kp tx.b__law_hit (A.cons (E.v 3) (A.cons (E.v 11) (A.cons (E.v 10) A.nil)))))
    (@Ss.one _ _ _ _ (S.set 9 sc_law.nd (E.add (E.v 9) (E.ifE (T.isN (E.v 12) E.non) E.str (E.at (E.v 12) E.int)))))) (fun _ => rfl))
    (@Ss.one _ _ _ _ (S.set 9 sc_law.nd (E.add (E.v 9) E.str)))) (fun _ => rfl))
    (@Ss.cons _ _ _ _ _ _ (@S.ifS _ _ _ _ _ _ _ _ _ (T.ne hr (E.call G_picture hr (by omega) tx.m_picture tx.F_picture.kp tx.b_picture (A.cons (E.v 1) (A.cons (E.v 5) (A.cons (E.v 6) (A.cons (E.v 7) (A.cons (E.v 8) A.nil)))))) (E.v 9)) (@Ss.one _ _ _ _ (S.ret E.bl)) Ss.nil)
    (@Ss.cons _ _ _ _ _ _ (S.set 13 sc_law.nd (EO.toE (EO.lst A.nil)))
    (@Ss.cons _ _ _ _ _ _ (@S.for _ _ _ _ _ _ _ _ _ _ _ PassesOwn.never rfl (I.rng2 tx.z_range (A.cons (E.v 5) (A.cons (E.v 7) A.nil))) (pg_name (i := 11) sc_law.nd rfl (by first | exact Or.inl rfl | exact Or.inr rfl) ) (TgP.name (i := 11))
    (@Ss.one _ _ _ _ (S.set 13 sc_law.nd (E.add (E.v 13) (EO.toE (EO.comp (N' := ["_law_y", "_law_x"]) (mp := [none, some 11]) rfl (CompSc.of' N_law (defScope s_law) rfl rfl (by decide +kernel)) (TgP.name (i := 0)) (by decide) (I.rng2 tx.z_range (A.cons (E.v 6) (A.cons (E.v 8) A.nil))) (fun _ _ _ => ⟨(pg_name (i := 0) (show (["_law_y", "_law_x"] : List Str).Nodup by decide +kernel) rfl (Or.inl rfl) (.inr rfl)), Ts.nil, (E.tup (A.cons (E.v 1) (A.cons (E.v 0) A.nil)))⟩)))))) (fun _ => rfl))
    (@Ss.cons _ _ _ _ _ _ (S.set 14 sc_law.nd (EO.toE (EO.comp (N' := ["_law_x", "_law_y", "_law_mine"]) (mp := [none, none, some 3]) rfl (CompSc.of' N_law (defScope s_law) rfl rfl (by decide +kernel)) (TgP.tup (n := 2) (TgsP.cons (TgP.name (i := 0)) (TgsP.cons (TgP.name (i := 1)) TgsP.nil)) (tg_len2)) (by decide) (I.list (E.v 13)) (fun _ _ _ => ⟨(pg_tup (n := 2) rfl (pgs_cons (pg_name (i := 0) (show (["_law_x", "_law_y", "_law_mine"] : List Str).Nodup by decide +kernel) rfl (Or.inl rfl) (.inr rfl)) (pgs_cons (pg_name (i := 1) (show (["_law_x", "_law_y", "_law_mine"] : List Str).Nodup by decide +kernel) rfl (Or.inl rfl) (.inr rfl)) pgs_nil))), Ts.nil, (E.call G__law_hit hr (by omega) tx.m__law_hit tx.F__law_hit.kp tx.b__law_hit (A.cons (E.v 2) (A.cons (E.v 0) (A.cons (E.v 1) A.nil))))⟩))))
    (@Ss.cons _ _ _ _ _ _ (S.setC 15 (N' := ["_law_name", "_law_names"]) (mp := [none, some 14]) rfl sc_law.nd (CompSc.of' N_law (defScope s_law) rfl rfl (by decide +kernel)) (TgP.name (i := 0)) (by decide) (I.list (E.sortedSet hr tx.z_sorted tx.z_set (A.cons (EO.toE (EO.comp (N' := ["_law_own"]) (mp := [none]) rfl (CompSc.of' N_law (defScope s_law) rfl rfl (by decide +kernel)) (TgP.name (i := 0)) (by decide) (I.list (E.v 14)) (fun _ _ _ => ⟨(pg_name (i := 0) (show (["_law_own"] : List Str).Nodup by decide +kernel) rfl (Or.inl rfl) (.inr rfl)), (Ts.one (T.notN (E.v 0) E.non)), (E.v 0)⟩))) A.nil))) (fun _ _ _ => ⟨(pg_name (i := 0) (show (["_law_name", "_law_names"] : List Str).Nodup by decide +kernel) rfl (Or.inl rfl) (.inr rfl)), Ts.nil, (E.tup (A.cons (E.v 0) (A.cons (E.count (E.v 1) (E.v 0)) A.nil)))⟩))
    (@Ss.frz _ _ _ _ 15 (@Ss.cons _ _ _ _ _ _ (@S.ifS _ _ _ _ _ _ _ _ _ (T.ne hr (E.call G_shares hr (by omega) tx.m_shares tx.F_shares.kp tx.b_shares (A.cons (E.v 1) (A.cons (E.v 5) (A.cons (E.v 6) (A.cons (E.v 7) (A.cons (E.v 8) A.nil)))))) (E.v 15)) (@Ss.one _ _ _ _ (S.ret E.bl)) Ss.nil)
    (@Ss.cons _ _ _ _ _ _ (S.setC 16 (N' := ["_law_x", "_law_y", "_law_mine", "_law_yours"]) (mp := [none, none, some 3, some 4]) rfl sc_law.nd (CompSc.of' N_law (defScope s_law) rfl rfl (by decide +kernel)) (TgP.tup (n := 2) (TgsP.cons (TgP.name (i := 0)) (TgsP.cons (TgP.name (i := 1)) TgsP.nil)) (tg_len2)) (by decide) (I.list (E.v 13)) (fun _ _ _ => ⟨(pg_tup (n := 2) rfl (pgs_cons (pg_name (i := 0) (show (["_law_x", "_law_y", "_law_mine", "_law_yours"] : List Str).Nodup by decide +kernel) rfl (Or.inl rfl) (.inr rfl)) (pgs_cons (pg_name (i := 1) (show (["_law_x", "_law_y", "_law_mine", "_law_yours"] : List Str).Nodup by decide +kernel) rfl (Or.inl rfl) (.inr rfl)) pgs_nil))), (Ts.one (T.ne hr (E.call G__law_hit hr (by omega) tx.m__law_hit tx.F__law_hit.kp tx.b__law_hit (A.cons (E.v 2) (A.cons (E.v 0) (A.cons (E.v 1) A.nil)))) (E.call G__law_hit hr (by omega) tx.m__law_hit tx.F__law_hit.kp tx.b__law_hit (A.cons (E.v 3) (A.cons (E.v 0) (A.cons (E.v 1) A.nil)))))), (E.tup (A.cons (E.v 0) (A.cons (E.v 1) A.nil)))⟩))
    (@Ss.frz _ _ _ _ 16 (@Ss.cons _ _ _ _ _ _ (@S.ifS _ _ _ _ _ _ _ _ _ (T.ne hr (E.call G_unlike_points hr (by omega) tx.m_unlike_points tx.F_unlike_points.kp tx.b_unlike_points (A.cons (E.v 1) (A.cons (E.v 2) (A.cons (E.v 5) (A.cons (E.v 6) (A.cons (E.v 7) (A.cons (E.v 8) A.nil))))))) (E.v 16)) (@Ss.one _ _ _ _ (S.ret E.bl)) Ss.nil)
    (@Ss.cons _ _ _ _ _ _ (@S.set _ _ _ _ _ _ 17 _ sc_law.nd (@E.cst _ _ _ _ (by kernel_rfl)) rfl (by first | exact Or.inl rfl | exact Or.inr rfl) rfl (by first | exact .inl rfl | exact .inr rfl))
    (@Ss.cons _ _ _ _ _ _ (@S.ifS _ _ _ _ _ _ _ _ _ (T.ne hr (E.call G_picture hr (by omega) tx.m_picture tx.F_picture.kp tx.b_picture (A.cons (E.v 17) (A.cons E.int (A.cons E.int (A.cons E.int (A.cons E.int A.nil)))))) E.str) (@Ss.one _ _ _ _ (S.ret E.bl)) Ss.nil)
    (@Ss.one _ _ _ _ (S.ret (E.and (E.eq hr (E.call G_picture hr (by omega) tx.m_picture tx.F_picture.kp tx.b_picture (A.cons (E.tup A.nil) (A.cons E.int (A.cons E.int (A.cons E.int (A.cons E.int A.nil)))))) E.str) (E.and (E.eq hr (E.call G_shares hr (by omega) tx.m_shares tx.F_shares.kp tx.b_shares (A.cons (E.tup A.nil) (A.cons E.int (A.cons E.int (A.cons E.int (A.cons E.int A.nil)))))) (EO.toE (EO.lst A.nil))) (E.one (E.eq hr (E.call G_picture hr (by omega) tx.m_picture tx.F_picture.kp tx.b_picture (A.cons (E.v 1) (A.cons E.int (A.cons E.int (A.cons E.int (A.cons E.int A.nil)))))) E.str))))))))))))))))))))))))
noncomputable def F__law_cell : List PyData → Option PyData := runF 2 2 (g__law_cell )
theorem G__law_cell (tx : Tx K mg t) : FnOk Pr w K mg base CX0 1 t._law_cell t.d__law_cell ["_law_script", "_law_k"] (spP K F__law_cell) := ok__law_cell (k := 0) tx 
noncomputable def F__law_drawn : List PyData → Option PyData := runF 3 4 (g__law_drawn F__law_cell)
theorem G__law_drawn (tx : Tx K mg t) : FnOk Pr w K mg base CX0 2 t._law_drawn t.d__law_drawn ["_law_script", "_law_k", "_law_many"] (spP K F__law_drawn) := ok__law_drawn (k := 1) tx (G__law_cell tx) (by omega)
noncomputable def F__law_scene : List PyData → Option PyData := runF 2 13 (g__law_scene F__law_drawn)
theorem G__law_scene (tx : Tx K mg t) : FnOk Pr w K mg base CX0 3 t._law_scene t.d__law_scene ["_law_script", "_law_at"] (spP K F__law_scene) := ok__law_scene (k := 2) tx (G__law_drawn tx) (by omega)
noncomputable def F__law_painted : Nat → List PyData → Option PyData
  | 0 => fun _ => none
  | n + 1 => runF 2 4 (g__law_painted (F__law_painted n))
theorem G__law_painted (tx : Tx K mg t) : ∀ n : Nat, FnOk Pr w K mg base CX0 (n + 0) t._law_painted t.d__law_painted ["_law_scene_here", "_law_around"] (spP K (F__law_painted n))
  | 0 => fn0
  | n + 1 => (ok__law_painted (k := n + 0) tx (G__law_painted tx n) (by omega)).mono (by omega)
noncomputable def F__law_box : List PyData → Option PyData := runF 2 2 (g__law_box )
theorem G__law_box (tx : Tx K mg t) : FnOk Pr w K mg base CX0 1 t._law_box t.d__law_box ["_law_scene_here", "_law_name"] (spP K F__law_box) := ok__law_box (k := 0) tx 
noncomputable def F__law_path : List PyData → Option PyData := runF 2 3 (g__law_path F__law_box)
theorem G__law_path (tx : Tx K mg t) : FnOk Pr w K mg base CX0 2 t._law_path t.d__law_path ["_law_scene_here", "_law_name"] (spP K F__law_path) := ok__law_path (k := 1) tx (G__law_box tx) (by omega)
noncomputable def F__law_area : List PyData → Option PyData := runF 2 6 (g__law_area F__law_path F__law_box)
theorem G__law_area (tx : Tx K mg t) : FnOk Pr w K mg base CX0 3 t._law_area t.d__law_area ["_law_scene_here", "_law_name"] (spP K F__law_area) := ok__law_area (k := 2) tx (G__law_path tx) (by omega) (G__law_box tx) (by omega)
noncomputable def F__law_areas : List PyData → Option PyData := runF 1 6 (g__law_areas (F__law_painted 13) F__law_path F__law_box F__law_area)
theorem G__law_areas (tx : Tx K mg t) : FnOk Pr w K mg base CX0 14 t._law_areas t.d__law_areas ["_law_scene_here"] (spP K F__law_areas) := ok__law_areas (k := 13) tx (G__law_painted tx 13) (by omega) (G__law_path tx) (by omega) (G__law_box tx) (by omega) (G__law_area tx) (by omega)
noncomputable def F__law_hit : List PyData → Option PyData := runF 3 5 (g__law_hit )
theorem G__law_hit (tx : Tx K mg t) : FnOk Pr w K mg base CX0 1 t._law_hit t.d__law_hit ["_law_rows", "_law_x", "_law_y"] (spP K F__law_hit) := ok__law_hit (k := 0) tx 
noncomputable def F_children : List PyData → Option PyData := runF 2 2 (g_children )
theorem G_children (tx : Tx K mg t) : FnOk Pr w K mg base CX0 1 t.children t.d_children ["scene", "name"] (spP K F_children) := ok_children (k := 0) tx 
noncomputable def F_box_of : List PyData → Option PyData := runF 2 3 (g_box_of )
theorem G_box_of (tx : Tx K mg t) : FnOk Pr w K mg base CX0 1 t.box_of t.d_box_of ["scene", "name"] (spP K F_box_of) := ok_box_of (k := 0) tx 
noncomputable def F_below : Nat → List PyData → Option PyData
  | 0 => fun _ => none
  | n + 1 => runF 2 4 (g_below F_box_of F_children (F_below n))
theorem G_below (tx : Tx K mg t) : ∀ n : Nat, FnOk Pr w K mg base CX0 (n + 1) t.below t.d_below ["scene", "name"] (spP K (F_below n))
  | 0 => fn0
  | n + 1 => (ok_below (k := n + 1) tx (G_box_of tx) (by omega) (G_children tx) (by omega) (G_below tx n) (by omega)).mono (by omega)
noncomputable def F_painted : List PyData → Option PyData := runF 1 3 (g_painted F_children (F_below 13))
theorem G_painted (tx : Tx K mg t) : FnOk Pr w K mg base CX0 15 t.painted t.d_painted ["scene"] (spP K F_painted) := ok_painted (k := 14) tx (G_children tx) (by omega) (G_below tx 13) (by omega)
noncomputable def F_path_of : Nat → List PyData → Option PyData
  | 0 => fun _ => none
  | n + 1 => runF 2 3 (g_path_of F_box_of (F_path_of n))
theorem G_path_of (tx : Tx K mg t) : ∀ n : Nat, FnOk Pr w K mg base CX0 (n + 1) t.path_of t.d_path_of ["scene", "name"] (spP K (F_path_of n))
  | 0 => fn0
  | n + 1 => (ok_path_of (k := n + 1) tx (G_box_of tx) (by omega) (G_path_of tx n) (by omega)).mono (by omega)
noncomputable def F_has_mark : List PyData → Option PyData := runF 3 3 (g_has_mark F_box_of)
theorem G_has_mark (tx : Tx K mg t) : FnOk Pr w K mg base CX0 2 t.has_mark t.d_has_mark ["scene", "name", "mark"] (spP K F_has_mark) := ok_has_mark (k := 1) tx (G_box_of tx) (by omega)
noncomputable def F_is_shown : List PyData → Option PyData := runF 2 2 (g_is_shown (F_path_of 13) F_has_mark)
theorem G_is_shown (tx : Tx K mg t) : FnOk Pr w K mg base CX0 15 t.is_shown t.d_is_shown ["scene", "name"] (spP K F_is_shown) := ok_is_shown (k := 14) tx (G_path_of tx 13) (by omega) (G_has_mark tx) (by omega)
noncomputable def F_area_of : List PyData → Option PyData := runF 2 6 (g_area_of (F_path_of 13) F_box_of)
theorem G_area_of (tx : Tx K mg t) : FnOk Pr w K mg base CX0 15 t.area_of t.d_area_of ["scene", "name"] (spP K F_area_of) := ok_area_of (k := 14) tx (G_path_of tx 13) (by omega) (G_box_of tx) (by omega)
noncomputable def F_overlap : List PyData → Option PyData := runF 2 4 (g_overlap )
theorem G_overlap (tx : Tx K mg t) : FnOk Pr w K mg base CX0 1 t.overlap t.d_overlap ["one", "other"] (spP K F_overlap) := ok_overlap (k := 0) tx 
noncomputable def F_window_of : List PyData → Option PyData := runF 2 4 (g_window_of F_area_of (F_path_of 13) F_has_mark F_overlap)
theorem G_window_of (tx : Tx K mg t) : FnOk Pr w K mg base CX0 16 t.window_of t.d_window_of ["scene", "name"] (spP K F_window_of) := ok_window_of (k := 15) tx (G_area_of tx) (by omega) (G_path_of tx 13) (by omega) (G_has_mark tx) (by omega) (G_overlap tx) (by omega)
noncomputable def F_takers : List PyData → Option PyData := runF 1 2 (g_takers F_painted F_is_shown F_has_mark F_window_of)
theorem G_takers (tx : Tx K mg t) : FnOk Pr w K mg base CX0 17 t.takers t.d_takers ["scene"] (spP K F_takers) := ok_takers (k := 16) tx (G_painted tx) (by omega) (G_is_shown tx) (by omega) (G_has_mark tx) (by omega) (G_window_of tx) (by omega)
noncomputable def F_has_point : List PyData → Option PyData := runF 3 3 (g_has_point )
theorem G_has_point (tx : Tx K mg t) : FnOk Pr w K mg base CX0 1 t.has_point t.d_has_point ["area", "x", "y"] (spP K F_has_point) := ok_has_point (k := 0) tx 
noncomputable def F_first_at : List PyData → Option PyData := runF 3 5 (g_first_at F_has_point)
theorem G_first_at (tx : Tx K mg t) : FnOk Pr w K mg base CX0 2 t.first_at t.d_first_at ["rows", "x", "y"] (spP K F_first_at) := ok_first_at (k := 1) tx (G_has_point tx) (by omega)
noncomputable def F_sign_of : List PyData → Option PyData := runF 1 1 (g_sign_of )
theorem G_sign_of (tx : Tx K mg t) : FnOk Pr w K mg base CX0 1 t.sign_of t.d_sign_of ["name"] (spP K F_sign_of) := ok_sign_of (k := 0) tx 
noncomputable def F_picture : List PyData → Option PyData := runF 5 9 (g_picture F_takers F_first_at F_sign_of)
theorem G_picture (tx : Tx K mg t) : FnOk Pr w K mg base CX0 18 t.picture t.d_picture ["scene", "left", "top", "right", "bottom"] (spP K F_picture) := ok_picture (k := 17) tx (G_takers tx) (by omega) (G_first_at tx) (by omega) (G_sign_of tx) (by omega)
noncomputable def F_shares : List PyData → Option PyData := runF 5 10 (g_shares F_takers F_first_at)
theorem G_shares (tx : Tx K mg t) : FnOk Pr w K mg base CX0 18 t.shares t.d_shares ["scene", "left", "top", "right", "bottom"] (spP K F_shares) := ok_shares (k := 17) tx (G_takers tx) (by omega) (G_first_at tx) (by omega)
noncomputable def F_unlike_points : List PyData → Option PyData := runF 6 10 (g_unlike_points F_takers F_first_at)
theorem G_unlike_points (tx : Tx K mg t) : FnOk Pr w K mg base CX0 18 t.unlike_points t.d_unlike_points ["one", "other", "left", "top", "right", "bottom"] (spP K F_unlike_points) := ok_unlike_points (k := 17) tx (G_takers tx) (by omega) (G_first_at tx) (by omega)
noncomputable def F_law : List PyData → Option PyData := runF 1 18 (g_law F__law_scene F__law_areas F__law_drawn F__law_hit F_picture F_shares F_unlike_points)
theorem G_law (tx : Tx K mg t) : FnOk Pr w K mg base CX0 19 t.law t.d_law ["_law_script"] (spP K F_law) := ok_law (k := 18) tx (G__law_scene tx) (by omega) (G__law_areas tx) (by omega) (G__law_drawn tx) (by omega) (G__law_hit tx) (by omega) (G_picture tx) (by omega) (G_shares tx) (by omega) (G_unlike_points tx) (by omega)
end
theorem all_mk {l : PySem.W.OpenLaw} {w : World} {K : PySem.W.Frag} {h : Heap} {mg : Str → Option Value} {fa : Addr} (X : K.In h) (G : h.Ns mainGlobals mg) (hfa : mg "law" = some (.ref fa))
    {f__law_cell : Addr} {od__law_cell an__law_cell : Option Addr} {sl__law_cell : Array (Option Value)} {oc__law_cell kV__law_cell dc__law_cell pm__law_cell cd__law_cell ct__law_cell : Value}
    {f__law_drawn : Addr} {od__law_drawn an__law_drawn : Option Addr} {sl__law_drawn : Array (Option Value)} {oc__law_drawn kV__law_drawn dc__law_drawn pm__law_drawn cd__law_drawn ct__law_drawn : Value}
    {f__law_scene : Addr} {od__law_scene an__law_scene : Option Addr} {sl__law_scene : Array (Option Value)} {oc__law_scene kV__law_scene dc__law_scene pm__law_scene cd__law_scene ct__law_scene : Value}
    {f__law_painted : Addr} {od__law_painted an__law_painted : Option Addr} {sl__law_painted : Array (Option Value)} {oc__law_painted kV__law_painted dc__law_painted pm__law_painted cd__law_painted ct__law_painted : Value}
    {f__law_box : Addr} {od__law_box an__law_box : Option Addr} {sl__law_box : Array (Option Value)} {oc__law_box kV__law_box dc__law_box pm__law_box cd__law_box ct__law_box : Value}
    {f__law_path : Addr} {od__law_path an__law_path : Option Addr} {sl__law_path : Array (Option Value)} {oc__law_path kV__law_path dc__law_path pm__law_path cd__law_path ct__law_path : Value}
    {f__law_area : Addr} {od__law_area an__law_area : Option Addr} {sl__law_area : Array (Option Value)} {oc__law_area kV__law_area dc__law_area pm__law_area cd__law_area ct__law_area : Value}
    {f__law_areas : Addr} {od__law_areas an__law_areas : Option Addr} {sl__law_areas : Array (Option Value)} {oc__law_areas kV__law_areas dc__law_areas pm__law_areas cd__law_areas ct__law_areas : Value}
    {f__law_hit : Addr} {od__law_hit an__law_hit : Option Addr} {sl__law_hit : Array (Option Value)} {oc__law_hit kV__law_hit dc__law_hit pm__law_hit cd__law_hit ct__law_hit : Value}
    {f_children : Addr} {od_children an_children : Option Addr} {sl_children : Array (Option Value)} {oc_children kV_children dc_children pm_children cd_children ct_children : Value}
    {f_box_of : Addr} {od_box_of an_box_of : Option Addr} {sl_box_of : Array (Option Value)} {oc_box_of kV_box_of dc_box_of pm_box_of cd_box_of ct_box_of : Value}
    {f_below : Addr} {od_below an_below : Option Addr} {sl_below : Array (Option Value)} {oc_below kV_below dc_below pm_below cd_below ct_below : Value}
    {f_painted : Addr} {od_painted an_painted : Option Addr} {sl_painted : Array (Option Value)} {oc_painted kV_painted dc_painted pm_painted cd_painted ct_painted : Value}
    {f_path_of : Addr} {od_path_of an_path_of : Option Addr} {sl_path_of : Array (Option Value)} {oc_path_of kV_path_of dc_path_of pm_path_of cd_path_of ct_path_of : Value}
    {f_has_mark : Addr} {od_has_mark an_has_mark : Option Addr} {sl_has_mark : Array (Option Value)} {oc_has_mark kV_has_mark dc_has_mark pm_has_mark cd_has_mark ct_has_mark : Value}
    {f_is_shown : Addr} {od_is_shown an_is_shown : Option Addr} {sl_is_shown : Array (Option Value)} {oc_is_shown kV_is_shown dc_is_shown pm_is_shown cd_is_shown ct_is_shown : Value}
    {f_area_of : Addr} {od_area_of an_area_of : Option Addr} {sl_area_of : Array (Option Value)} {oc_area_of kV_area_of dc_area_of pm_area_of cd_area_of ct_area_of : Value}
    {f_overlap : Addr} {od_overlap an_overlap : Option Addr} {sl_overlap : Array (Option Value)} {oc_overlap kV_overlap dc_overlap pm_overlap cd_overlap ct_overlap : Value}
    {f_window_of : Addr} {od_window_of an_window_of : Option Addr} {sl_window_of : Array (Option Value)} {oc_window_of kV_window_of dc_window_of pm_window_of cd_window_of ct_window_of : Value}
    {f_takers : Addr} {od_takers an_takers : Option Addr} {sl_takers : Array (Option Value)} {oc_takers kV_takers dc_takers pm_takers cd_takers ct_takers : Value}
    {f_has_point : Addr} {od_has_point an_has_point : Option Addr} {sl_has_point : Array (Option Value)} {oc_has_point kV_has_point dc_has_point pm_has_point cd_has_point ct_has_point : Value}
    {f_first_at : Addr} {od_first_at an_first_at : Option Addr} {sl_first_at : Array (Option Value)} {oc_first_at kV_first_at dc_first_at pm_first_at cd_first_at ct_first_at : Value}
    {f_sign_of : Addr} {od_sign_of an_sign_of : Option Addr} {sl_sign_of : Array (Option Value)} {oc_sign_of kV_sign_of dc_sign_of pm_sign_of cd_sign_of ct_sign_of : Value}
    {f_picture : Addr} {od_picture an_picture : Option Addr} {sl_picture : Array (Option Value)} {oc_picture kV_picture dc_picture pm_picture cd_picture ct_picture : Value}
    {f_shares : Addr} {od_shares an_shares : Option Addr} {sl_shares : Array (Option Value)} {oc_shares kV_shares dc_shares pm_shares cd_shares ct_shares : Value}
    {f_unlike_points : Addr} {od_unlike_points an_unlike_points : Option Addr} {sl_unlike_points : Array (Option Value)} {oc_unlike_points kV_unlike_points dc_unlike_points pm_unlike_points cd_unlike_points ct_unlike_points : Value}
    {f_law : Addr} {od_law an_law : Option Addr} {sl_law : Array (Option Value)} {oc_law kV_law dc_law pm_law cd_law ct_law : Value}
    {t_AROUND : Tok}
    {t_CUTS_OFF : Tok}
    {t_HEIGHT : Tok}
    {t_HIDDEN : Tok}
    {t_LEFT : Tok}
    {t_LETS_BY : Tok}
    {t_MARKS : Tok}
    {t_NAME : Tok}
    {t_NOTHING : Tok}
    {t_ROW_END : Tok}
    {t_TOP : Tok}
    {t_WIDTH : Tok}
    (a__law_cell : PySem.W.nsIn K mainGlobals "_law_cell" = some (some (.ref f__law_cell))) (l__law_cell : K.lookup f__law_cell = some ⟨oc__law_cell, od__law_cell, .func (PySem.W.fnOf "_law_cell" "_law_cell" (defArgs s__law_cell) (defBody s__law_cell) (defScope s__law_cell) .none kV__law_cell dc__law_cell pm__law_cell an__law_cell cd__law_cell ct__law_cell), sl__law_cell⟩) (c__law_cell : PySem.W.codeIn K cd__law_cell "_law_cell" = true) (k__law_cell : PySem.W.keepIn K (.ref f__law_cell) = true)
    (a__law_drawn : PySem.W.nsIn K mainGlobals "_law_drawn" = some (some (.ref f__law_drawn))) (l__law_drawn : K.lookup f__law_drawn = some ⟨oc__law_drawn, od__law_drawn, .func (PySem.W.fnOf "_law_drawn" "_law_drawn" (defArgs s__law_drawn) (defBody s__law_drawn) (defScope s__law_drawn) .none kV__law_drawn dc__law_drawn pm__law_drawn an__law_drawn cd__law_drawn ct__law_drawn), sl__law_drawn⟩) (c__law_drawn : PySem.W.codeIn K cd__law_drawn "_law_drawn" = true) (k__law_drawn : PySem.W.keepIn K (.ref f__law_drawn) = true)
    (a__law_scene : PySem.W.nsIn K mainGlobals "_law_scene" = some (some (.ref f__law_scene))) (l__law_scene : K.lookup f__law_scene = some ⟨oc__law_scene, od__law_scene, .func (PySem.W.fnOf "_law_scene" "_law_scene" (defArgs s__law_scene) (defBody s__law_scene) (defScope s__law_scene) .none kV__law_scene dc__law_scene pm__law_scene an__law_scene cd__law_scene ct__law_scene), sl__law_scene⟩) (c__law_scene : PySem.W.codeIn K cd__law_scene "_law_scene" = true) (k__law_scene : PySem.W.keepIn K (.ref f__law_scene) = true)
    (a__law_painted : PySem.W.nsIn K mainGlobals "_law_painted" = some (some (.ref f__law_painted))) (l__law_painted : K.lookup f__law_painted = some ⟨oc__law_painted, od__law_painted, .func (PySem.W.fnOf "_law_painted" "_law_painted" (defArgs s__law_painted) (defBody s__law_painted) (defScope s__law_painted) .none kV__law_painted dc__law_painted pm__law_painted an__law_painted cd__law_painted ct__law_painted), sl__law_painted⟩) (c__law_painted : PySem.W.codeIn K cd__law_painted "_law_painted" = true) (k__law_painted : PySem.W.keepIn K (.ref f__law_painted) = true)
    (a__law_box : PySem.W.nsIn K mainGlobals "_law_box" = some (some (.ref f__law_box))) (l__law_box : K.lookup f__law_box = some ⟨oc__law_box, od__law_box, .func (PySem.W.fnOf "_law_box" "_law_box" (defArgs s__law_box) (defBody s__law_box) (defScope s__law_box) .none kV__law_box dc__law_box pm__law_box an__law_box cd__law_box ct__law_box), sl__law_box⟩) (c__law_box : PySem.W.codeIn K cd__law_box "_law_box" = true) (k__law_box : PySem.W.keepIn K (.ref f__law_box) = true)
    (a__law_path : PySem.W.nsIn K mainGlobals "_law_path" = some (some (.ref f__law_path))) (l__law_path : K.lookup f__law_path = some ⟨oc__law_path, od__law_path, .func (PySem.W.fnOf "_law_path" "_law_path" (defArgs s__law_path) (defBody s__law_path) (defScope s__law_path) .none kV__law_path dc__law_path pm__law_path an__law_path cd__law_path ct__law_path), sl__law_path⟩) (c__law_path : PySem.W.codeIn K cd__law_path "_law_path" = true) (k__law_path : PySem.W.keepIn K (.ref f__law_path) = true)
    (a__law_area : PySem.W.nsIn K mainGlobals "_law_area" = some (some (.ref f__law_area))) (l__law_area : K.lookup f__law_area = some ⟨oc__law_area, od__law_area, .func (PySem.W.fnOf "_law_area" "_law_area" (defArgs s__law_area) (defBody s__law_area) (defScope s__law_area) .none kV__law_area dc__law_area pm__law_area an__law_area cd__law_area ct__law_area), sl__law_area⟩) (c__law_area : PySem.W.codeIn K cd__law_area "_law_area" = true) (k__law_area : PySem.W.keepIn K (.ref f__law_area) = true)
    (a__law_areas : PySem.W.nsIn K mainGlobals "_law_areas" = some (some (.ref f__law_areas))) (l__law_areas : K.lookup f__law_areas = some ⟨oc__law_areas, od__law_areas, .func (PySem.W.fnOf "_law_areas" "_law_areas" (defArgs s__law_areas) (defBody s__law_areas) (defScope s__law_areas) .none kV__law_areas dc__law_areas pm__law_areas an__law_areas cd__law_areas ct__law_areas), sl__law_areas⟩) (c__law_areas : PySem.W.codeIn K cd__law_areas "_law_areas" = true) (k__law_areas : PySem.W.keepIn K (.ref f__law_areas) = true)
    (a__law_hit : PySem.W.nsIn K mainGlobals "_law_hit" = some (some (.ref f__law_hit))) (l__law_hit : K.lookup f__law_hit = some ⟨oc__law_hit, od__law_hit, .func (PySem.W.fnOf "_law_hit" "_law_hit" (defArgs s__law_hit) (defBody s__law_hit) (defScope s__law_hit) .none kV__law_hit dc__law_hit pm__law_hit an__law_hit cd__law_hit ct__law_hit), sl__law_hit⟩) (c__law_hit : PySem.W.codeIn K cd__law_hit "_law_hit" = true) (k__law_hit : PySem.W.keepIn K (.ref f__law_hit) = true)
    (a_children : PySem.W.nsIn K mainGlobals "children" = some (some (.ref f_children))) (l_children : K.lookup f_children = some ⟨oc_children, od_children, .func (PySem.W.fnOf "children" "children" (defArgs s_children) (defBody s_children) (defScope s_children) .none kV_children dc_children pm_children an_children cd_children ct_children), sl_children⟩) (c_children : PySem.W.codeIn K cd_children "children" = true) (k_children : PySem.W.keepIn K (.ref f_children) = true)
    (a_box_of : PySem.W.nsIn K mainGlobals "box_of" = some (some (.ref f_box_of))) (l_box_of : K.lookup f_box_of = some ⟨oc_box_of, od_box_of, .func (PySem.W.fnOf "box_of" "box_of" (defArgs s_box_of) (defBody s_box_of) (defScope s_box_of) .none kV_box_of dc_box_of pm_box_of an_box_of cd_box_of ct_box_of), sl_box_of⟩) (c_box_of : PySem.W.codeIn K cd_box_of "box_of" = true) (k_box_of : PySem.W.keepIn K (.ref f_box_of) = true)
    (a_below : PySem.W.nsIn K mainGlobals "below" = some (some (.ref f_below))) (l_below : K.lookup f_below = some ⟨oc_below, od_below, .func (PySem.W.fnOf "below" "below" (defArgs s_below) (defBody s_below) (defScope s_below) .none kV_below dc_below pm_below an_below cd_below ct_below), sl_below⟩) (c_below : PySem.W.codeIn K cd_below "below" = true) (k_below : PySem.W.keepIn K (.ref f_below) = true)
    (a_painted : PySem.W.nsIn K mainGlobals "painted" = some (some (.ref f_painted))) (l_painted : K.lookup f_painted = some ⟨oc_painted, od_painted, .func (PySem.W.fnOf "painted" "painted" (defArgs s_painted) (defBody s_painted) (defScope s_painted) .none kV_painted dc_painted pm_painted an_painted cd_painted ct_painted), sl_painted⟩) (c_painted : PySem.W.codeIn K cd_painted "painted" = true) (k_painted : PySem.W.keepIn K (.ref f_painted) = true)
    (a_path_of : PySem.W.nsIn K mainGlobals "path_of" = some (some (.ref f_path_of))) (l_path_of : K.lookup f_path_of = some ⟨oc_path_of, od_path_of, .func (PySem.W.fnOf "path_of" "path_of" (defArgs s_path_of) (defBody s_path_of) (defScope s_path_of) .none kV_path_of dc_path_of pm_path_of an_path_of cd_path_of ct_path_of), sl_path_of⟩) (c_path_of : PySem.W.codeIn K cd_path_of "path_of" = true) (k_path_of : PySem.W.keepIn K (.ref f_path_of) = true)
    (a_has_mark : PySem.W.nsIn K mainGlobals "has_mark" = some (some (.ref f_has_mark))) (l_has_mark : K.lookup f_has_mark = some ⟨oc_has_mark, od_has_mark, .func (PySem.W.fnOf "has_mark" "has_mark" (defArgs s_has_mark) (defBody s_has_mark) (defScope s_has_mark) .none kV_has_mark dc_has_mark pm_has_mark an_has_mark cd_has_mark ct_has_mark), sl_has_mark⟩) (c_has_mark : PySem.W.codeIn K cd_has_mark "has_mark" = true) (k_has_mark : PySem.W.keepIn K (.ref f_has_mark) = true)
    (a_is_shown : PySem.W.nsIn K mainGlobals "is_shown" = some (some (.ref f_is_shown))) (l_is_shown : K.lookup f_is_shown = some ⟨oc_is_shown, od_is_shown, .func (PySem.W.fnOf "is_shown" "is_shown" (defArgs s_is_shown) (defBody s_is_shown) (defScope s_is_shown) .none kV_is_shown dc_is_shown pm_is_shown an_is_shown cd_is_shown ct_is_shown), sl_is_shown⟩) (c_is_shown : PySem.W.codeIn K cd_is_shown "is_shown" = true) (k_is_shown : PySem.W.keepIn K (.ref f_is_shown) = true)
    (a_area_of : PySem.W.nsIn K mainGlobals "area_of" = some (some (.ref f_area_of))) (l_area_of : K.lookup f_area_of = some ⟨oc_area_of, od_area_of, .func (PySem.W.fnOf "area_of" "area_of" (defArgs s_area_of) (defBody s_area_of) (defScope s_area_of) .none kV_area_of dc_area_of pm_area_of an_area_of cd_area_of ct_area_of), sl_area_of⟩) (c_area_of : PySem.W.codeIn K cd_area_of "area_of" = true) (k_area_of : PySem.W.keepIn K (.ref f_area_of) = true)
    (a_overlap : PySem.W.nsIn K mainGlobals "overlap" = some (some (.ref f_overlap))) (l_overlap : K.lookup f_overlap = some ⟨oc_overlap, od_overlap, .func (PySem.W.fnOf "overlap" "overlap" (defArgs s_overlap) (defBody s_overlap) (defScope s_overlap) .none kV_overlap dc_overlap pm_overlap an_overlap cd_overlap ct_overlap), sl_overlap⟩) (c_overlap : PySem.W.codeIn K cd_overlap "overlap" = true) (k_overlap : PySem.W.keepIn K (.ref f_overlap) = true)
    (a_window_of : PySem.W.nsIn K mainGlobals "window_of" = some (some (.ref f_window_of))) (l_window_of : K.lookup f_window_of = some ⟨oc_window_of, od_window_of, .func (PySem.W.fnOf "window_of" "window_of" (defArgs s_window_of) (defBody s_window_of) (defScope s_window_of) .none kV_window_of dc_window_of pm_window_of an_window_of cd_window_of ct_window_of), sl_window_of⟩) (c_window_of : PySem.W.codeIn K cd_window_of "window_of" = true) (k_window_of : PySem.W.keepIn K (.ref f_window_of) = true)
    (a_takers : PySem.W.nsIn K mainGlobals "takers" = some (some (.ref f_takers))) (l_takers : K.lookup f_takers = some ⟨oc_takers, od_takers, .func (PySem.W.fnOf "takers" "takers" (defArgs s_takers) (defBody s_takers) (defScope s_takers) .none kV_takers dc_takers pm_takers an_takers cd_takers ct_takers), sl_takers⟩) (c_takers : PySem.W.codeIn K cd_takers "takers" = true) (k_takers : PySem.W.keepIn K (.ref f_takers) = true)
    (a_has_point : PySem.W.nsIn K mainGlobals "has_point" = some (some (.ref f_has_point))) (l_has_point : K.lookup f_has_point = some ⟨oc_has_point, od_has_point, .func (PySem.W.fnOf "has_point" "has_point" (defArgs s_has_point) (defBody s_has_point) (defScope s_has_point) .none kV_has_point dc_has_point pm_has_point an_has_point cd_has_point ct_has_point), sl_has_point⟩) (c_has_point : PySem.W.codeIn K cd_has_point "has_point" = true) (k_has_point : PySem.W.keepIn K (.ref f_has_point) = true)
    (a_first_at : PySem.W.nsIn K mainGlobals "first_at" = some (some (.ref f_first_at))) (l_first_at : K.lookup f_first_at = some ⟨oc_first_at, od_first_at, .func (PySem.W.fnOf "first_at" "first_at" (defArgs s_first_at) (defBody s_first_at) (defScope s_first_at) .none kV_first_at dc_first_at pm_first_at an_first_at cd_first_at ct_first_at), sl_first_at⟩) (c_first_at : PySem.W.codeIn K cd_first_at "first_at" = true) (k_first_at : PySem.W.keepIn K (.ref f_first_at) = true)
    (a_sign_of : PySem.W.nsIn K mainGlobals "sign_of" = some (some (.ref f_sign_of))) (l_sign_of : K.lookup f_sign_of = some ⟨oc_sign_of, od_sign_of, .func (PySem.W.fnOf "sign_of" "sign_of" (defArgs s_sign_of) (defBody s_sign_of) (defScope s_sign_of) .none kV_sign_of dc_sign_of pm_sign_of an_sign_of cd_sign_of ct_sign_of), sl_sign_of⟩) (c_sign_of : PySem.W.codeIn K cd_sign_of "sign_of" = true) (k_sign_of : PySem.W.keepIn K (.ref f_sign_of) = true)
    (a_picture : PySem.W.nsIn K mainGlobals "picture" = some (some (.ref f_picture))) (l_picture : K.lookup f_picture = some ⟨oc_picture, od_picture, .func (PySem.W.fnOf "picture" "picture" (defArgs s_picture) (defBody s_picture) (defScope s_picture) .none kV_picture dc_picture pm_picture an_picture cd_picture ct_picture), sl_picture⟩) (c_picture : PySem.W.codeIn K cd_picture "picture" = true) (k_picture : PySem.W.keepIn K (.ref f_picture) = true)
    (a_shares : PySem.W.nsIn K mainGlobals "shares" = some (some (.ref f_shares))) (l_shares : K.lookup f_shares = some ⟨oc_shares, od_shares, .func (PySem.W.fnOf "shares" "shares" (defArgs s_shares) (defBody s_shares) (defScope s_shares) .none kV_shares dc_shares pm_shares an_shares cd_shares ct_shares), sl_shares⟩) (c_shares : PySem.W.codeIn K cd_shares "shares" = true) (k_shares : PySem.W.keepIn K (.ref f_shares) = true)
    (a_unlike_points : PySem.W.nsIn K mainGlobals "unlike_points" = some (some (.ref f_unlike_points))) (l_unlike_points : K.lookup f_unlike_points = some ⟨oc_unlike_points, od_unlike_points, .func (PySem.W.fnOf "unlike_points" "unlike_points" (defArgs s_unlike_points) (defBody s_unlike_points) (defScope s_unlike_points) .none kV_unlike_points dc_unlike_points pm_unlike_points an_unlike_points cd_unlike_points ct_unlike_points), sl_unlike_points⟩) (c_unlike_points : PySem.W.codeIn K cd_unlike_points "unlike_points" = true) (k_unlike_points : PySem.W.keepIn K (.ref f_unlike_points) = true)
    (a_law : PySem.W.nsIn K mainGlobals "law" = some (some (.ref f_law))) (l_law : K.lookup f_law = some ⟨oc_law, od_law, .func (PySem.W.fnOf "law" "law" (defArgs s_law) (defBody s_law) (defScope s_law) .none kV_law dc_law pm_law an_law cd_law ct_law), sl_law⟩) (c_law : PySem.W.codeIn K cd_law "law" = true) (k_law : PySem.W.keepIn K (.ref f_law) = true)
    (c_AROUND : PySem.W.nsIn K mainGlobals "AROUND" = some (some (.int (1) t_AROUND)))
    (c_CUTS_OFF : PySem.W.nsIn K mainGlobals "CUTS_OFF" = some (some (.str "c" t_CUTS_OFF)))
    (c_HEIGHT : PySem.W.nsIn K mainGlobals "HEIGHT" = some (some (.int (5) t_HEIGHT)))
    (c_HIDDEN : PySem.W.nsIn K mainGlobals "HIDDEN" = some (some (.str "h" t_HIDDEN)))
    (c_LEFT : PySem.W.nsIn K mainGlobals "LEFT" = some (some (.int (2) t_LEFT)))
    (c_LETS_BY : PySem.W.nsIn K mainGlobals "LETS_BY" = some (some (.str "l" t_LETS_BY)))
    (c_MARKS : PySem.W.nsIn K mainGlobals "MARKS" = some (some (.int (6) t_MARKS)))
    (c_NAME : PySem.W.nsIn K mainGlobals "NAME" = some (some (.int (0) t_NAME)))
    (c_NOTHING : PySem.W.nsIn K mainGlobals "NOTHING" = some (some (.str "." t_NOTHING)))
    (c_ROW_END : PySem.W.nsIn K mainGlobals "ROW_END" = some (some (.str "\n" t_ROW_END)))
    (c_TOP : PySem.W.nsIn K mainGlobals "TOP" = some (some (.int (3) t_TOP)))
    (c_WIDTH : PySem.W.nsIn K mainGlobals "WIDTH" = some (some (.int (4) t_WIDTH)))
    (z_any : PySem.W.nsIn K mainGlobals "any" = some none)
    (z_enumerate : PySem.W.nsIn K mainGlobals "enumerate" = some none)
    (z_len : PySem.W.nsIn K mainGlobals "len" = some none)
    (z_max : PySem.W.nsIn K mainGlobals "max" = some none)
    (z_min : PySem.W.nsIn K mainGlobals "min" = some none)
    (z_range : PySem.W.nsIn K mainGlobals "range" = some none)
    (z_reversed : PySem.W.nsIn K mainGlobals "reversed" = some none)
    (z_set : PySem.W.nsIn K mainGlobals "set" = some none)
    (z_sorted : PySem.W.nsIn K mainGlobals "sorted" = some none)
    (z_sum : PySem.W.nsIn K mainGlobals "sum" = some none)
    (z_tuple : PySem.W.nsIn K mainGlobals "tuple" = some none)
    (z_zip : PySem.W.nsIn K mainGlobals "zip" = some none)
    : ∃ fd : FuncData, (∀ (s : Shared) (v : Value), BindsTo s fd ⟨[v], []⟩ [("_law_script", v)]) ∧ ∀ base : Heap, K.In base → base.Ns mainGlobals mg → FnOk l.prog w K mg base CX0 19 fa fd ["_law_script"] (spP K F_law) := by
  have e := hfa.symm.trans (PySem.W.mg_of X G a_law)
  cases e
  have F__law_cell := fun_mk (st := s__law_cell) l__law_cell c__law_cell k__law_cell
  have F__law_drawn := fun_mk (st := s__law_drawn) l__law_drawn c__law_drawn k__law_drawn
  have F__law_scene := fun_mk (st := s__law_scene) l__law_scene c__law_scene k__law_scene
  have F__law_painted := fun_mk (st := s__law_painted) l__law_painted c__law_painted k__law_painted
  have F__law_box := fun_mk (st := s__law_box) l__law_box c__law_box k__law_box
  have F__law_path := fun_mk (st := s__law_path) l__law_path c__law_path k__law_path
  have F__law_area := fun_mk (st := s__law_area) l__law_area c__law_area k__law_area
  have F__law_areas := fun_mk (st := s__law_areas) l__law_areas c__law_areas k__law_areas
  have F__law_hit := fun_mk (st := s__law_hit) l__law_hit c__law_hit k__law_hit
  have F_children := fun_mk (st := s_children) l_children c_children k_children
  have F_box_of := fun_mk (st := s_box_of) l_box_of c_box_of k_box_of
  have F_below := fun_mk (st := s_below) l_below c_below k_below
  have F_painted := fun_mk (st := s_painted) l_painted c_painted k_painted
  have F_path_of := fun_mk (st := s_path_of) l_path_of c_path_of k_path_of
  have F_has_mark := fun_mk (st := s_has_mark) l_has_mark c_has_mark k_has_mark
  have F_is_shown := fun_mk (st := s_is_shown) l_is_shown c_is_shown k_is_shown
  have F_area_of := fun_mk (st := s_area_of) l_area_of c_area_of k_area_of
  have F_overlap := fun_mk (st := s_overlap) l_overlap c_overlap k_overlap
  have F_window_of := fun_mk (st := s_window_of) l_window_of c_window_of k_window_of
  have F_takers := fun_mk (st := s_takers) l_takers c_takers k_takers
  have F_has_point := fun_mk (st := s_has_point) l_has_point c_has_point k_has_point
  have F_first_at := fun_mk (st := s_first_at) l_first_at c_first_at k_first_at
  have F_sign_of := fun_mk (st := s_sign_of) l_sign_of c_sign_of k_sign_of
  have F_picture := fun_mk (st := s_picture) l_picture c_picture k_picture
  have F_shares := fun_mk (st := s_shares) l_shares c_shares k_shares
  have F_unlike_points := fun_mk (st := s_unlike_points) l_unlike_points c_unlike_points k_unlike_points
  have F_law := fun_mk (st := s_law) l_law c_law k_law
  have b__law_cell := F__law_cell.binds (ps := ["_law_script", "_law_k"]) fun _ _ _ _ _ _ us hl => match us, hl with | [_, _], _ => rfl
  have b__law_drawn := F__law_drawn.binds (ps := ["_law_script", "_law_k", "_law_many"]) fun _ _ _ _ _ _ us hl => match us, hl with | [_, _, _], _ => rfl
  have b__law_scene := F__law_scene.binds (ps := ["_law_script", "_law_at"]) fun _ _ _ _ _ _ us hl => match us, hl with | [_, _], _ => rfl
  have b__law_painted := F__law_painted.binds (ps := ["_law_scene_here", "_law_around"]) fun _ _ _ _ _ _ us hl => match us, hl with | [_, _], _ => rfl
  have b__law_box := F__law_box.binds (ps := ["_law_scene_here", "_law_name"]) fun _ _ _ _ _ _ us hl => match us, hl with | [_, _], _ => rfl
  have b__law_path := F__law_path.binds (ps := ["_law_scene_here", "_law_name"]) fun _ _ _ _ _ _ us hl => match us, hl with | [_, _], _ => rfl
  have b__law_area := F__law_area.binds (ps := ["_law_scene_here", "_law_name"]) fun _ _ _ _ _ _ us hl => match us, hl with | [_, _], _ => rfl
  have b__law_areas := F__law_areas.binds (ps := ["_law_scene_here"]) fun _ _ _ _ _ _ us hl => match us, hl with | [_], _ => rfl
  have b__law_hit := F__law_hit.binds (ps := ["_law_rows", "_law_x", "_law_y"]) fun _ _ _ _ _ _ us hl => match us, hl with | [_, _, _], _ => rfl
  have b_children := F_children.binds (ps := ["scene", "name"]) fun _ _ _ _ _ _ us hl => match us, hl with | [_, _], _ => rfl
  have b_box_of := F_box_of.binds (ps := ["scene", "name"]) fun _ _ _ _ _ _ us hl => match us, hl with | [_, _], _ => rfl
  have b_below := F_below.binds (ps := ["scene", "name"]) fun _ _ _ _ _ _ us hl => match us, hl with | [_, _], _ => rfl
  have b_painted := F_painted.binds (ps := ["scene"]) fun _ _ _ _ _ _ us hl => match us, hl with | [_], _ => rfl
  have b_path_of := F_path_of.binds (ps := ["scene", "name"]) fun _ _ _ _ _ _ us hl => match us, hl with | [_, _], _ => rfl
  have b_has_mark := F_has_mark.binds (ps := ["scene", "name", "mark"]) fun _ _ _ _ _ _ us hl => match us, hl with | [_, _, _], _ => rfl
  have b_is_shown := F_is_shown.binds (ps := ["scene", "name"]) fun _ _ _ _ _ _ us hl => match us, hl with | [_, _], _ => rfl
  have b_area_of := F_area_of.binds (ps := ["scene", "name"]) fun _ _ _ _ _ _ us hl => match us, hl with | [_, _], _ => rfl
  have b_overlap := F_overlap.binds (ps := ["one", "other"]) fun _ _ _ _ _ _ us hl => match us, hl with | [_, _], _ => rfl
  have b_window_of := F_window_of.binds (ps := ["scene", "name"]) fun _ _ _ _ _ _ us hl => match us, hl with | [_, _], _ => rfl
  have b_takers := F_takers.binds (ps := ["scene"]) fun _ _ _ _ _ _ us hl => match us, hl with | [_], _ => rfl
  have b_has_point := F_has_point.binds (ps := ["area", "x", "y"]) fun _ _ _ _ _ _ us hl => match us, hl with | [_, _, _], _ => rfl
  have b_first_at := F_first_at.binds (ps := ["rows", "x", "y"]) fun _ _ _ _ _ _ us hl => match us, hl with | [_, _, _], _ => rfl
  have b_sign_of := F_sign_of.binds (ps := ["name"]) fun _ _ _ _ _ _ us hl => match us, hl with | [_], _ => rfl
  have b_picture := F_picture.binds (ps := ["scene", "left", "top", "right", "bottom"]) fun _ _ _ _ _ _ us hl => match us, hl with | [_, _, _, _, _], _ => rfl
  have b_shares := F_shares.binds (ps := ["scene", "left", "top", "right", "bottom"]) fun _ _ _ _ _ _ us hl => match us, hl with | [_, _, _, _, _], _ => rfl
  have b_unlike_points := F_unlike_points.binds (ps := ["one", "other", "left", "top", "right", "bottom"]) fun _ _ _ _ _ _ us hl => match us, hl with | [_, _, _, _, _, _], _ => rfl
  have b_law := F_law.binds (ps := ["_law_script"]) fun _ _ _ _ _ _ us hl => match us, hl with | [_], _ => rfl
  have tx : Tx K mg ⟨_, _, _, _, _, _, _, _, _, _, _, _, _, _, _, _, _, _, _, _, _, _, _, _, _, _, _, _, _, _, _, _, _, _, _, _, _, _, _, _, _, _, _, _, _, _, _, _, _, _, _, _, _, _, t_AROUND, t_CUTS_OFF, t_HEIGHT, t_HIDDEN, t_LEFT, t_LETS_BY, t_MARKS, t_NAME, t_NOTHING, t_ROW_END, t_TOP, t_WIDTH⟩ := ⟨F__law_cell, PySem.W.mg_of X G a__law_cell, b__law_cell, F__law_drawn, PySem.W.mg_of X G a__law_drawn, b__law_drawn, F__law_scene, PySem.W.mg_of X G a__law_scene, b__law_scene, F__law_painted, PySem.W.mg_of X G a__law_painted, b__law_painted, F__law_box, PySem.W.mg_of X G a__law_box, b__law_box, F__law_path, PySem.W.mg_of X G a__law_path, b__law_path, F__law_area, PySem.W.mg_of X G a__law_area, b__law_area, F__law_areas, PySem.W.mg_of X G a__law_areas, b__law_areas, F__law_hit, PySem.W.mg_of X G a__law_hit, b__law_hit, F_children, PySem.W.mg_of X G a_children, b_children, F_box_of, PySem.W.mg_of X G a_box_of, b_box_of, F_below, PySem.W.mg_of X G a_below, b_below, F_painted, PySem.W.mg_of X G a_painted, b_painted, F_path_of, PySem.W.mg_of X G a_path_of, b_path_of, F_has_mark, PySem.W.mg_of X G a_has_mark, b_has_mark, F_is_shown, PySem.W.mg_of X G a_is_shown, b_is_shown, F_area_of, PySem.W.mg_of X G a_area_of, b_area_of, F_overlap, PySem.W.mg_of X G a_overlap, b_overlap, F_window_of, PySem.W.mg_of X G a_window_of, b_window_of, F_takers, PySem.W.mg_of X G a_takers, b_takers, F_has_point, PySem.W.mg_of X G a_has_point, b_has_point, F_first_at, PySem.W.mg_of X G a_first_at, b_first_at, F_sign_of, PySem.W.mg_of X G a_sign_of, b_sign_of, F_picture, PySem.W.mg_of X G a_picture, b_picture, F_shares, PySem.W.mg_of X G a_shares, b_shares, F_unlike_points, PySem.W.mg_of X G a_unlike_points, b_unlike_points, F_law, PySem.W.mg_of X G a_law, b_law, PySem.W.mg_of X G c_AROUND, PySem.W.mg_of X G c_CUTS_OFF, PySem.W.mg_of X G c_HEIGHT, PySem.W.mg_of X G c_HIDDEN, PySem.W.mg_of X G c_LEFT, PySem.W.mg_of X G c_LETS_BY, PySem.W.mg_of X G c_MARKS, PySem.W.mg_of X G c_NAME, PySem.W.mg_of X G c_NOTHING, PySem.W.mg_of X G c_ROW_END, PySem.W.mg_of X G c_TOP, PySem.W.mg_of X G c_WIDTH, PySem.W.mg_none_of X G z_any, PySem.W.mg_none_of X G z_enumerate, PySem.W.mg_none_of X G z_len, PySem.W.mg_none_of X G z_max, PySem.W.mg_none_of X G z_min, PySem.W.mg_none_of X G z_range, PySem.W.mg_none_of X G z_reversed, PySem.W.mg_none_of X G z_set, PySem.W.mg_none_of X G z_sorted, PySem.W.mg_none_of X G z_sum, PySem.W.mg_none_of X G z_tuple, PySem.W.mg_none_of X G z_zip⟩
  exact ⟨_, fun s v => .of_eq rfl, fun base _ _ => G_law tx⟩
theorem walk (main : ∀ ns : List Int, ns.length ≤ 63 → F_law [.list (ns.map PyData.int)] = some (.bool true)) {l : PySem.W.OpenLaw} {q : Program} {loose : List Str} {XP : (Str → Option Value) → Heap → Prop} {YP : World → Heap → Prop} {d : DefRec} {K : Params → PySem.W.Frag} (hn : l.most = some 63) (hdf : d.params.defaults = [])
    (hY : ∀ (w : World) (h : Heap), YP w h → (K w.params).In h)
    (F : ∀ (w : World) (mg : Str → Option Value) (fa : Addr) (h : Heap), (K w.params).In h → h.Ns mainGlobals mg → mg d.name = some (.ref fa) →
      ∃ fd : FuncData, (∀ (s : Shared) (u : Value), BindsTo s fd ⟨[u], []⟩ [("_law_script", u)]) ∧ ∀ base : Heap, (K w.params).In base → base.Ns mainGlobals mg → FnOk l.prog w (K w.params) mg base CX0 19 fa fd ["_law_script"] (spP (K w.params) F_law)) :
    PySem.W.WalkO q loose XP YP l.row.toRowW d [] (fun f vs => PySem.call f vs) :=
  L2.walk_of (n := 63) (k := 19) (x := "_law_script") (CX := fun _ => CX0) (sp := fun w => spP (K w.params) F_law) hn (by decide) hdf ⟨rfl, by decide, by decide⟩ hY F
    (fun _ H a ns hl _ hS => ⟨H, [.list (ns.map PyData.int)], .bool true, .refl _, .cons (rel_lst hS (RelL.ints ns)) .nil, main ns hl, fun _ _ _ _ r => r.bl⟩) fun _ _ _ _ _ z => z
end K55
namespace K55
noncomputable def chN (st : List (Nat × Nat)) (q : Nat) : List Nat := (st.filter fun x => decide (x.2 = q)).map (·.1)
noncomputable def parN : List (Nat × Nat) → Nat → Option Nat
  | [], _ => none
  | x :: r, q => if x.1 = q then some x.2 else parN r q
noncomputable def catN (f : Nat → Option (List Nat)) : List Nat → Option (List Nat)
  | [] => some []
  | x :: r => (f x).bind fun a => (catN f r).bind fun b => some (a ++ b)
noncomputable def pthN (st : List (Nat × Nat)) : Nat → Nat → Option (List Nat)
  | 0, _ => none
  | n + 1, q => (parN st q).bind fun p => if p = 0 then some [q] else (pthN st n p).bind fun l => if l.length + 1 ≤ 3000000 then some (l ++ [q]) else none
noncomputable def blwN (st : List (Nat × Nat)) : Nat → Nat → Option (List Nat)
  | 0, _ => none
  | n + 1, q => (parN st q).bind fun _ => (catN (blwN st n) (chN st q)).bind fun r => if r.length + 1 ≤ 3000000 then some (q :: r) else none
noncomputable def pntN (st : List (Nat × Nat)) : Option (List Nat) := (catN (blwN st 13) (chN st 0)).bind fun r => if r.length ≤ 3000000 then some r else none
noncomputable def stF (ps : List Nat) : List (Nat × Nat) := (List.range ps.length).map fun i => (i + 1, ps.getD i 0)
noncomputable def par (ps : List Nat) (q : Nat) : Nat := ps.getD (q - 1) 0
structure PsOk (ps : List Nat) : Prop where
  len : ps.length ≤ 7
  par : ∀ i, ps.getD i 0 ≤ i
noncomputable def pF (ps : List Nat) : Nat → Nat → List Nat
  | 0, _ => []
  | n + 1, q => if q = 0 then [] else pF ps n (par ps q) ++ [q]
noncomputable def P (ps : List Nat) (q : Nat) : List Nat := pF ps q q
noncomputable def blF (st : List (Nat × Nat)) : Nat → Nat → List Nat
  | 0, _ => []
  | n + 1, q => q :: (chN st q).flatMap (blF st n)
noncomputable def kids (st : List (Nat × Nat)) (n a : Nat) : List Nat := (chN st a).flatMap (blF st n)
theorem flat_len {α β : Type} {f : α → List β} {b : Nat} : ∀ {l : List α}, (∀ x ∈ l, (f x).length ≤ b) → (l.flatMap f).length ≤ l.length * b
  | [], _ => by simp
  | x :: r, h => by
    have h1 := h x List.mem_cons_self
    have h2 := flat_len (l := r) fun y hy => h y (List.mem_cons_of_mem _ hy)
    rw [List.flatMap_cons, List.length_append, List.length_cons, Nat.add_mul]
    omega
section
variable {ps : List Nat} (ok : PsOk ps)
theorem pF_zero (n : Nat) : pF ps n 0 = [] := by
  cases n with
  | zero => rfl
  | succ n => rfl
theorem par_lt (ok : PsOk ps) {q : Nat} (h : 1 ≤ q) : par ps q < q := by
  have := ok.par (q - 1)
  unfold par
  omega
include ok
theorem pF_st : ∀ q n, q ≤ n → pF ps n q = pF ps q q := by
  intro q
  induction q using Nat.strongRecOn with
  | _ q ih =>
    intro n hn
    cases q with
    | zero => rw [pF_zero, pF_zero]
    | succ j =>
      cases n with
      | zero => omega
      | succ m =>
        have hp := par_lt ok (q := j + 1) (by omega)
        unfold pF
        rw [if_neg (by omega), if_neg (by omega), ih _ hp m (by omega), ih _ hp j (by omega)]
theorem P_succ {q : Nat} (h : 1 ≤ q) : P ps q = P ps (par ps q) ++ [q] := by
  obtain ⟨j, rfl⟩ : ∃ j, q = j + 1 := ⟨q - 1, by omega⟩
  have hp := par_lt ok (q := j + 1) h
  unfold P
  rw [pF, if_neg (by omega), pF_st ok _ j (by omega)]
omit ok in
theorem pF_len : ∀ n q, (pF ps n q).length ≤ n
  | 0, _ => by simp [pF]
  | n + 1, q => by
    have := pF_len n (par ps q)
    unfold pF
    split
    · simp
    · simp; omega
omit ok in
theorem st_mem {x : Nat × Nat} (h : x ∈ stF ps) : 1 ≤ x.1 ∧ x.1 ≤ ps.length ∧ x.2 = par ps x.1 := by
  obtain ⟨i, hi, rfl⟩ := List.mem_map.mp h
  have := List.mem_range.mp hi
  refine ⟨by simp, by show i + 1 ≤ _; omega, ?_⟩
  show _ = ps.getD (i + 1 - 1) 0
  rfl
omit ok in
theorem mem_st {q : Nat} (h1 : 1 ≤ q) (h2 : q ≤ ps.length) : (q, par ps q) ∈ stF ps := by
  refine List.mem_map.mpr ⟨q - 1, List.mem_range.mpr (by omega), ?_⟩
  unfold par
  rw [show q - 1 + 1 = q by omega]
omit ok in
theorem parN_of {q p : Nat} : ∀ {st : List (Nat × Nat)}, (∀ y ∈ st, y.1 = q → y.2 = p) → (q, p) ∈ st → parN st q = some p
  | x :: r, hu, hm => by
    unfold parN
    by_cases e : x.1 = q
    · rw [if_pos e, hu x List.mem_cons_self e]
    · rw [if_neg e]
      rcases List.mem_cons.mp hm with z | z
      · exact absurd (by rw [← z]) e
      · exact parN_of (fun y hy => hu y (List.mem_cons_of_mem _ hy)) z
omit ok in
theorem parN_st {q : Nat} (h1 : 1 ≤ q) (h2 : q ≤ ps.length) : parN (stF ps) q = some (par ps q) :=
  parN_of (fun y hy e => by rw [(st_mem hy).2.2, e]) (mem_st h1 h2)
theorem pthN_eq : ∀ n q, n ≤ 13 → 1 ≤ q → q ≤ ps.length → q ≤ n → pthN (stF ps) n q = some (pF ps n q)
  | 0, q, _, h1, _, h3 => by omega
  | n + 1, q, hn, h1, h2, h3 => by
    have hp := par_lt ok h1
    unfold pthN pF
    rw [parN_st h1 h2, Option.bind_some, if_neg (show ¬ q = 0 by omega)]
    by_cases e : par ps q = 0
    · rw [if_pos e, e, pF_zero]; rfl
    · rw [if_neg e, pthN_eq n _ (by omega) (by omega) (by omega) (by omega), Option.bind_some]
      have := pF_len (ps := ps) n (par ps q)
      rw [if_pos (by omega)]
theorem path_eq {q : Nat} (h1 : 1 ≤ q) (h2 : q ≤ ps.length) : pthN (stF ps) 13 q = some (P ps q) := by
  have := ok.len
  rw [pthN_eq ok 13 q (by omega) h1 h2 (by omega), pF_st ok q 13 (by omega)]; rfl
theorem ch_mem {a x : Nat} (h : x ∈ chN (stF ps) a) : 1 ≤ x ∧ x ≤ ps.length ∧ par ps x = a ∧ a < x := by
  obtain ⟨y, hy, rfl⟩ := List.mem_map.mp h
  obtain ⟨h1, h2⟩ := List.mem_filter.mp hy
  have h3 := st_mem h1
  have h4 := par_lt ok h3.1
  have h5 : y.2 = a := by simpa using h2
  exact ⟨h3.1, h3.2.1, by rw [← h3.2.2, h5], by rw [← h5, h3.2.2]; exact h4⟩
theorem ch_len (a : Nat) : (chN (stF ps) a).length ≤ 7 := by
  unfold chN
  rw [List.length_map]
  refine Nat.le_trans (List.length_filter_le ..) ?_
  unfold stF
  rw [List.length_map, List.length_range]
  exact ok.len
omit ok in
theorem catN_eq {f : Nat → Option (List Nat)} {g : Nat → List Nat} : ∀ {xs : List Nat}, (∀ x ∈ xs, f x = some (g x)) → catN f xs = some (xs.flatMap g)
  | [], _ => rfl
  | x :: r, h => by
    unfold catN
    rw [h x List.mem_cons_self, Option.bind_some, catN_eq fun y hy => h y (List.mem_cons_of_mem _ hy)]
    simp
theorem blF_len : ∀ n q, 1 ≤ q → q ≤ ps.length → ps.length < n + q → (blF (stF ps) n q).length ≤ 8 ^ (ps.length - q)
  | 0, q, _, h2, h3 => by omega
  | n + 1, q, h1, h2, h3 => by
    unfold blF
    rw [List.length_cons]
    by_cases e : q = ps.length
    · have : (chN (stF ps) q) = [] := by
        rw [List.eq_nil_iff_forall_not_mem]
        intro x hx
        have := ch_mem ok hx
        omega
      rw [this, e]; simp
    · obtain ⟨k, hk⟩ : ∃ k, ps.length - q = k + 1 := ⟨ps.length - q - 1, by omega⟩
      have h4 := flat_len (f := blF (stF ps) n) (b := 8 ^ k) (l := chN (stF ps) q) fun x hx => by
        have hm := ch_mem ok hx
        exact Nat.le_trans (blF_len n x hm.1 hm.2.1 (by omega)) (Nat.pow_le_pow_right (by decide) (by omega))
      have h5 := ch_len ok q
      have h6 : (chN (stF ps) q).length * 8 ^ k ≤ 7 * 8 ^ k := Nat.mul_le_mul_right _ h5
      have h7 : 0 < 8 ^ k := Nat.pow_pos (by decide)
      rw [hk, Nat.pow_succ]
      omega
theorem pow_lim {q : Nat} (h1 : 1 ≤ q) : 8 ^ (ps.length - q) ≤ 262144 := by
  have := ok.len
  exact Nat.le_trans (Nat.pow_le_pow_right (by decide) (show ps.length - q ≤ 6 by omega)) (by decide)
theorem blwN_eq : ∀ n q, 1 ≤ q → q ≤ ps.length → ps.length < n + q → blwN (stF ps) n q = some (blF (stF ps) n q)
  | 0, q, _, h2, h3 => by omega
  | n + 1, q, h1, h2, h3 => by
    have hl := blF_len ok (n + 1) q h1 h2 h3
    unfold blF at hl
    rw [List.length_cons] at hl
    have hp := pow_lim ok h1
    unfold blwN blF
    rw [parN_st h1 h2, Option.bind_some, catN_eq (g := blF (stF ps) n) fun x hx => blwN_eq n x (ch_mem ok hx).1 (ch_mem ok hx).2.1 (by have := ch_mem ok hx; omega), Option.bind_some, if_pos (by omega)]
theorem kids_len : (kids (stF ps) 13 0).length ≤ 3000000 := by
  have := ok.len
  have h4 := flat_len (f := blF (stF ps) 13) (b := 262144) (l := chN (stF ps) 0) fun x hx => Nat.le_trans (blF_len ok 13 x (ch_mem ok hx).1 (ch_mem ok hx).2.1 (by omega)) (pow_lim ok (ch_mem ok hx).1)
  have h5 := ch_len ok 0
  unfold kids
  omega
theorem pnt_eq : pntN (stF ps) = some (kids (stF ps) 13 0) := by
  have := ok.len
  have hl := kids_len ok
  unfold kids at hl
  unfold pntN
  rw [catN_eq (g := blF (stF ps) 13) fun x hx => blwN_eq ok 13 x (ch_mem ok hx).1 (ch_mem ok hx).2.1 (by have := ch_mem ok hx; omega), Option.bind_some, if_pos hl]
  rfl
theorem kids_mem {x n a : Nat} (h : x ∈ kids (stF ps) n a) : 1 ≤ x ∧ x ≤ ps.length := by
  induction n generalizing a x with
  | zero =>
    obtain ⟨y, _, hy⟩ := List.mem_flatMap.mp h
    cases hy
  | succ n ih =>
    obtain ⟨y, hy, hx⟩ := List.mem_flatMap.mp h
    rcases List.mem_cons.mp hx with rfl | z
    · exact ⟨(ch_mem ok hy).1, (ch_mem ok hy).2.1⟩
    · exact ih z
end
noncomputable abbrev Ar := Int × Int × Int × Int
noncomputable abbrev Row := Nat × Ar × List Ar
structure Geo where
  L : Nat → Int
  T : Nat → Int
  W : Nat → Int
  H : Nat → Int
  c : Nat → Bool
  h : Nat → Bool
  l : Nat → Bool
noncomputable def Geo.at (g : Geo) (l t : Int) (x : Nat) : Ar := (l + g.L x, t + g.T x, l + g.L x + g.W x, t + g.T x + g.H x)
noncomputable def spF (g : Geo) (st : List (Nat × Nat)) : Nat → Nat → Int → Int → List Ar → List Row
  | 0, _, _, _, _ => []
  | n + 1, a, l, t, cu => (chN st a).flatMap fun x => if g.h x = true then [] else (x, g.at l t x, cu ++ [g.at l t x]) :: spF g st n x (l + g.L x) (t + g.T x) (cu ++ if g.c x = true then [g.at l t x] else [])
section
variable (g : Geo) (ps : List Nat)
noncomputable def Geo.sL (q : Nat) : Int := ((P ps q).map g.L).sum
noncomputable def Geo.sT (q : Nat) : Int := ((P ps q).map g.T).sum
noncomputable def Geo.area (q : Nat) : Ar := (g.sL ps q, g.sT ps q, g.sL ps q + g.W q, g.sT ps q + g.H q)
noncomputable def Geo.cuts (a : Nat) : List Ar := ((P ps a).filter g.c).map (g.area ps)
noncomputable def Geo.shown (q : Nat) : Bool := (P ps q).all fun x => !g.h x
noncomputable def Geo.row (x : Nat) : Row := (x, g.area ps x, g.cuts ps (par ps x) ++ [g.area ps x])
end
section
variable {g : Geo} {ps : List Nat} (ok : PsOk ps)
include ok
theorem cuts_ch {x : Nat} (h : 1 ≤ x) : g.cuts ps x = g.cuts ps (par ps x) ++ if g.c x = true then [g.area ps x] else [] := by
  unfold Geo.cuts
  rw [P_succ ok h, List.filter_append, List.map_append]
  congr 1
  cases hc : g.c x <;> simp [hc]
end
noncomputable def hasP (a : Ar) (x y : Int) : Bool := decide (a.1 ≤ x) && decide (x < a.2.2.1) && (decide (a.2.1 ≤ y) && decide (y < a.2.2.2))
noncomputable def ovl (a b : Ar) : Ar := (max a.1 b.1, max a.2.1 b.2.1, min a.2.2.1 b.2.2.1, min a.2.2.2 b.2.2.2)
theorem and4 : ∀ a b c d : Bool, ((a && b) && (c && d)) = ((a && c) && (b && d)) := by decide
theorem hasP_ovl (a b : Ar) (x y : Int) : hasP (ovl a b) x y = (hasP a x y && hasP b x y) := by
  have h1 : ∀ p q r : Int, decide (max p q ≤ r) = (decide (p ≤ r) && decide (q ≤ r)) := fun p q r => by
    rw [Bool.eq_iff_iff, Bool.and_eq_true, decide_eq_true_eq, decide_eq_true_eq, decide_eq_true_eq]
    exact Int.max_le
  have h2 : ∀ p q r : Int, decide (r < min p q) = (decide (r < p) && decide (r < q)) := fun p q r => by
    rw [Bool.eq_iff_iff, Bool.and_eq_true, decide_eq_true_eq, decide_eq_true_eq, decide_eq_true_eq]
    exact Int.lt_min
  unfold hasP ovl
  dsimp only
  rw [h1, h1, h2, h2, and4 (decide (a.1 ≤ x)), and4 (decide (a.2.1 ≤ y)), and4]
noncomputable def wndL (g : Geo) (ps : List Nat) : List Nat → Ar → Ar
  | [], w => w
  | s :: r, w => wndL g ps r (if g.c s = true then ovl w (g.area ps s) else w)
noncomputable def Geo.wnd (g : Geo) (ps : List Nat) (q : Nat) : Ar := wndL g ps (P ps q) (g.area ps q)
theorem wndL_has (g : Geo) (ps : List Nat) (x y : Int) : ∀ l w, hasP (wndL g ps l w) x y = (hasP w x y && ((l.filter g.c).map (g.area ps)).all fun a => hasP a x y)
  | [], w => by simp [wndL]
  | s :: r, w => by
    unfold wndL
    rw [wndL_has g ps x y r, List.filter_cons]
    cases hc : g.c s with
    | false => rfl
    | true =>
      rw [if_pos rfl, if_pos rfl, hasP_ovl, List.map_cons, List.all_cons, Bool.and_assoc]
noncomputable def Geo.tch (g : Geo) (ps : List Nat) (x y : Int) (q : Nat) : Bool := (g.row ps q).2.2.all fun a => hasP a x y
theorem wnd_has {g : Geo} {ps : List Nat} (ok : PsOk ps) {q : Nat} (h : 1 ≤ q) (x y : Int) : hasP (g.wnd ps q) x y = g.tch ps x y q := by
  unfold Geo.wnd Geo.tch Geo.row
  rw [wndL_has]
  show (_ && (g.cuts ps q).all _) = _
  rw [cuts_ch ok h, List.all_append]
  dsimp only
  rw [List.all_append]
  generalize (g.cuts ps (par ps q)).all (fun a => hasP a x y) = u
  cases g.c q
  · simp [Bool.and_comm]
  · cases h2 : hasP (g.area ps q) x y <;> simp [h2]
noncomputable def Geo.hits (g : Geo) (ps : List Nat) (x y : Int) : List Nat := (((kids (stF ps) 13 0).reverse.filter (g.shown ps)).filter fun q => !g.l q).filter (g.tch ps x y)
noncomputable def cutN (st : List (Nat × Nat)) (q : Nat) : Option (List (Nat × Nat)) := (blwN st 13 q).bind fun g => some (st.filter fun x => !decide (x.1 ∈ g))
noncomputable def raiN (st : List (Nat × Nat)) (q : Nat) : Option (List (Nat × Nat)) := (blwN st 13 q).bind fun g => some (st.filter (fun x => !decide (x.1 ∈ g)) ++ st.filter fun x => decide (x.1 ∈ g))
noncomputable def okPath (ps : List Nat) (st' : List (Nat × Nat)) (gone : List Nat) : Bool := (List.range ps.length).all fun i => decide (i + 1 ∈ gone) || (decide (pthN st' 13 (i + 1) = some (P ps (i + 1))) && (decide (parN st' (i + 1) = some (par ps (i + 1))) && (P ps (i + 1)).all fun x => !decide (x ∈ gone)))
noncomputable def pntF (ps : List Nat) : List Nat := kids (stF ps) 13 0
noncomputable def okSt09 (ps : List Nat) (st' : List (Nat × Nat)) (pnt' inner gone : List Nat) (q : Nat) : Bool := decide (st'.length ≤ 12) && (decide (pntN st' = some pnt') && (decide (blwN st' 13 q = some inner) && (okPath ps st' gone && inner.all fun x => !decide (x ∈ gone))))
noncomputable def allPs : Nat → List (List Nat)
  | 0 => [[]]
  | n + 1 => (allPs n).flatMap fun ps => (List.range (n + 1)).map fun p => ps ++ [p]
noncomputable abbrev In (ps : List Nat) (q : Nat) : Prop := 1 ≤ q ∧ q ≤ ps.length
theorem P_in' {ps : List Nat} (ok : PsOk ps) {x : Nat} : ∀ q, In ps q → x ∈ P ps q → In ps x := by
  intro q
  induction q using Nat.strongRecOn with
  | _ q ih =>
    intro hq hx
    rw [P_succ ok hq.1] at hx
    rcases List.mem_append.mp hx with z | z
    · have hp := par_lt ok hq.1
      by_cases e : par ps q = 0
      · rw [e] at z
        cases z
      · exact ih _ hp ⟨by omega, by have := hq.2; omega⟩ z
    · have : x = q := by simpa using z
      rw [this]; exact hq
theorem kids_2 {ps : List Nat} (ok : PsOk ps) : (pntF ps).length ≤ 2000000 := by
  have := ok.len
  have h4 := flat_len (f := blF (stF ps) 13) (b := 262144) (l := chN (stF ps) 0) fun x hx => Nat.le_trans (blF_len ok 13 x (ch_mem ok hx).1 (ch_mem ok hx).2.1 (by omega)) (pow_lim ok (ch_mem ok hx).1)
  have h5 := ch_len ok 0
  unfold pntF kids
  omega
noncomputable def tkL (g : Geo) (ps pnt : List Nat) : List Nat := (pnt.reverse.filter (g.shown ps)).filter fun q => !g.l q
noncomputable def hitL (g : Geo) (ps pnt : List Nat) (x y : Int) : List Nat := (tkL g ps pnt).filter (g.tch ps x y)
end K55
namespace K55
open PySem L2 L2.PU
theorem cGo_map {ι : Type} {t : En → PyData → Option En} {p : En → Option Bool} {f : En → Option PyData} {η : En} (D : ι → PyData) (P : ι → Bool) (Y : ι → PyData) :
    ∀ xs : List ι, (∀ x ∈ xs, ∃ η1, t η (D x) = some η1 ∧ p η1 = some (P x) ∧ (P x = true → f η1 = some (Y x))) → cGo t p f η (xs.map D) = some ((xs.filter P).map Y)
  | [], _ => rfl
  | x :: r, h => by
    obtain ⟨η1, h1, h2, h3⟩ := h x List.mem_cons_self
    have ih := cGo_map D P Y r fun y hy => h y (List.mem_cons_of_mem _ hy)
    rw [List.map_cons]
    unfold cGo
    rw [h1, Option.bind_some, h2, Option.bind_some, ih, List.filter_cons]
    cases hP : P x with
    | false => rfl
    | true => rw [if_pos rfl, h3 hP]; rfl
structure Sc where
  st : List (Nat × Nat)
  nm : Nat → Str
  L : Nat → Int
  T : Nat → Int
  W : Nat → Int
  H : Nat → Int
  mr : Nat → Str
structure Sc.Ok (c : Sc) : Prop where
  inj : ∀ a b, c.nm a = c.nm b → a = b
  top : c.nm 0 = ""
  ok : ∀ a, PyData.strOk (c.nm a) = true
  okm : ∀ a, PyData.strOk (c.mr a) = true
  len : c.st.length ≤ 12
noncomputable def Sc.box (c : Sc) (x : Nat × Nat) : PyData := .tuple [.str (c.nm x.1), .str (c.nm x.2), .int (c.L x.1), .int (c.T x.1), .int (c.W x.1), .int (c.H x.1), .str (c.mr x.1)]
noncomputable def Sc.d (c : Sc) : PyData := .tuple (c.st.map c.box)
noncomputable def Sc.s (c : Sc) (q : Nat) : PyData := .str (c.nm q)
noncomputable def Sc.S (c : Sc) (l : List Nat) : PyData := .list (l.map c.s)
theorem shaped_str {a : Str} (h : PyData.strOk a = true) : SeqAt.shaped (.str a) = true := by
  simp [SeqAt.shaped, PyData.canLay0, PyData.depth, h]
theorem str_dec (a b : Str) : (a == b) = decide (a = b) := rfl
theorem pEq_str {a b : Str} (ha : PyData.strOk a = true) (hb : PyData.strOk b = true) : pEq (.str a) (.str b) = some (.bool (decide (a = b))) := by
  unfold pEq
  rw [if_pos ⟨shaped_str ha, shaped_str hb⟩]
  simp [PyData.eqv, str_dec]
theorem pNe_str {a b : Str} (ha : PyData.strOk a = true) (hb : PyData.strOk b = true) : pNe (.str a) (.str b) = some (.bool (!decide (a = b))) := by
  unfold pNe
  rw [if_pos ⟨shaped_str ha, shaped_str hb⟩]
  simp [PyData.eqv, str_dec]
section
variable {c : Sc} (h : c.Ok)
include h
theorem Sc.Ok.dec (a b : Nat) : decide (c.nm a = c.nm b) = decide (a = b) := by
  by_cases e : a = b
  · subst e; simp
  · have : ¬ c.nm a = c.nm b := fun z => e (h.inj _ _ z)
    rw [decide_eq_false this, decide_eq_false e]
theorem Sc.Ok.eqs (a b : Nat) : pEq (c.s a) (c.s b) = some (.bool (decide (a = b))) := by
  unfold Sc.s
  rw [pEq_str (h.ok a) (h.ok b), h.dec]
theorem Sc.Ok.nes (a b : Nat) : pNe (c.s a) (c.s b) = some (.bool (!decide (a = b))) := by
  unfold Sc.s
  rw [pNe_str (h.ok a) (h.ok b), h.dec]
theorem Sc.Ok.eq0 (a : Nat) : pEq (c.s a) (.str "") = some (.bool (decide (a = 0))) := by
  have := h.eqs a 0
  unfold Sc.s at this ⊢
  rw [h.top] at this
  exact this
theorem Sc.Ok.ne0 (a : Nat) : pNe (c.s a) (.str "") = some (.bool (!decide (a = 0))) := by
  have := h.nes a 0
  unfold Sc.s at this ⊢
  rw [h.top] at this
  exact this
end
end K55
namespace K55
open PySem L2 L2.PU
theorem big {n : Nat} (h : n ≤ 3000000) : n ≤ sizeLine := Nat.le_trans h (by show 3000000 ≤ 2 ^ 24; decide)
section
variable {c : Sc} (h : c.Ok)
include h
theorem size_d : (c.st.map c.box).length ≤ sizeLine := by
  rw [List.length_map]
  exact big (Nat.le_trans h.len (by decide))
theorem F_children_eq (q : Nat) : F_children [c.d, c.s q] = some (c.S (chN c.st q)) := by
  unfold F_children runF
  rw [if_pos (by rfl)]
  show (g_children [.val c.d, .val (c.s q)]).bind _ = _
  have e : cGo (tgN 0) (bT (l2 pEq (l2 pIx (eV 0) (eC (.int 1))) (eV 1))) (l2 pIx (eV 0) (eC (.int 0))) [.un, .val (c.s q)] (c.st.map c.box) = some ((c.st.filter fun x => decide (x.2 = q)).map fun x => c.s x.1) := by
    refine cGo_map c.box (fun x => decide (x.2 = q)) (fun x => c.s x.1) _ fun x _ => ⟨_, rfl, ?_, fun _ => rfl⟩
    show (pEq (c.s x.2) (c.s q)).bind asB = _
    rw [h.eqs]; rfl
  have e2 : sComp [none, some 1] (lI asTu (eV 0)) (tgN 0) (bT (l2 pEq (l2 pIx (eV 0) (eC (.int 1))) (eV 1))) (l2 pIx (eV 0) (eC (.int 0))) [.val c.d, .val (c.s q)] = some ((c.st.filter fun x => decide (x.2 = q)).map fun x => c.s x.1) := by
    show (if (c.st.map c.box).length ≤ sizeLine then cGo _ _ _ _ _ else none) = _
    rw [if_pos (size_d h)]
    exact e
  unfold g_children sRet oE
  rw [e2]
  show some (PyData.list _) = some (PyData.list _)
  unfold chN
  rw [List.map_map]; rfl
theorem box_go (q p : Nat) : ∀ (l : List (Nat × Nat)), parN l q = some p → ∀ s : Sl, sGo (tgN 2) (sIf (bT (l2 pEq (l2 pIx (eV 2) (eC (.int 0))) (eV 1))) (sRet (eV 2)) sNx) (l.map c.box) [.val c.d, .val (c.s q), s] = some (.rt (c.box (q, p)))
  | x :: r, hm, s => by
    rw [List.map_cons]
    unfold sGo
    have et : tgN 2 [.val c.d, .val (c.s q), s] (c.box x) = some [.val c.d, .val (c.s q), .val (c.box x)] := rfl
    rw [et, Option.bind_some]
    have eb : (bT (l2 pEq (l2 pIx (eV 2) (eC (.int 0))) (eV 1))) [.val c.d, .val (c.s q), .val (c.box x)] = some (decide (x.1 = q)) := by
      show (pEq (c.s x.1) (c.s q)).bind asB = _
      rw [h.eqs]; rfl
    unfold sIf
    rw [eb, Option.bind_some]
    unfold parN at hm
    by_cases e : x.1 = q
    · rw [if_pos e] at hm
      cases hm
      rw [if_pos (by simpa using e)]
      subst e
      rfl
    · rw [if_neg e] at hm
      rw [if_neg (by simpa using e)]
      show sGo _ _ (r.map c.box) _ = _
      exact box_go q p r hm _
theorem F_box_eq {q p : Nat} (h1 : parN c.st q = some p) : F_box_of [c.d, c.s q] = some (c.box (q, p)) := by
  unfold F_box_of runF
  rw [if_pos (by rfl)]
  show (g_box_of [.val c.d, .val (c.s q), .un]).bind _ = _
  have e2 : sFor (lI asTu (eV 0)) (tgN 2) (sIf (bT (l2 pEq (l2 pIx (eV 2) (eC (.int 0))) (eV 1))) (sRet (eV 2)) sNx) [.val c.d, .val (c.s q), .un] = some (.rt (c.box (q, p))) := box_go h q p c.st h1 .un
  unfold g_box_of sSeq
  rw [e2]; rfl
theorem F_path_eq : ∀ (n q : Nat) (l : List Nat), pthN c.st n q = some l → F_path_of n [c.d, c.s q] = some (c.S l)
  | n + 1, q, l, e => by
    unfold pthN at e
    obtain ⟨p, hq, e⟩ := bind_some e
    · unfold F_path_of runF
      rw [if_pos (by rfl)]
      show (g_path_of F_box_of (F_path_of n) [.val c.d, .val (c.s q), .un]).bind _ = _
      have eb := F_box_eq h hq
      have e1 : sSet 2 (l2 pIx (lA F_box_of (aC (eV 0) (aC (eV 1) aN))) (eC (.int 1))) [.val c.d, .val (c.s q), .un] = some (.nx [.val c.d, .val (c.s q), .val (c.s (p))]) := by
        show ((F_box_of [c.d, c.s q]).bind fun x => _).bind _ = _
        rw [eb]; rfl
      have e2 : (bT (l2 pEq (eV 2) (eC (.str "")))) [.val c.d, .val (c.s q), .val (c.s (p))] = some (decide (p = 0)) := by
        show (pEq (c.s (p)) (.str "")).bind asB = _
        rw [h.eq0]; rfl
      unfold g_path_of sSeq
      rw [e1, Option.bind_some]
      show Option.bind (Option.bind (sIf _ _ _ _) _) _ = _
      unfold sIf
      rw [e2, Option.bind_some]
      split at e
      · rename_i h0
        cases e
        rw [if_pos (by simpa using h0)]
        rfl
      · rename_i h0
        rw [if_neg (by simpa using h0)]
        obtain ⟨m, hm, e⟩ := bind_some e
        split at e
        · rename_i hl
          cases e
          have ih := F_path_eq n _ m hm
          show Option.bind (sRet _ _) _ = _
          have e3 : sRet (l2 pAdd (lA (F_path_of n) (aC (eV 0) (aC (eV 2) aN))) (oE (fun η => ((aC (eV 1) aN) η).bind gL))) [.val c.d, .val (c.s q), .val (c.s (p))] = some (.rt (c.S (m ++ [q]))) := by
            show (((F_path_of n) [c.d, c.s (p)]).bind fun x => (oE _ _).bind fun y => pAdd x y).bind _ = _
            rw [ih, Option.bind_some]
            show ((pAdd (c.S m) (.list [c.s q])).bind _) = _
            unfold Sc.S pAdd
            dsimp only
            rw [if_pos (by rw [List.length_map]; exact big hl)]
            simp [Sc.S]
          rw [e3]; rfl
        · cases e
theorem below_go {F : List PyData → Option PyData} {f : Nat → Option (List Nat)} (hF : ∀ x l, f x = some l → F [c.d, c.s x] = some (c.S l)) (q : Nat) :
    ∀ (xs r : List Nat), catN f xs = some r → ∀ (done : List Nat) (s3 : Sl), done.length + r.length ≤ 3000000 → ∃ s3', sGo (tgN 3) (sExt 2 (lI asL (lA F (aC (eV 0) (aC (eV 3) aN))))) (xs.map c.s) [.val c.d, .val (c.s q), .own (done.map c.s), s3] = some (.nx [.val c.d, .val (c.s q), .own ((done ++ r).map c.s), s3'])
  | [], r, e, done, s3, _ => by
    cases e
    exact ⟨s3, by rw [List.append_nil]; rfl⟩
  | x :: xs, r, e, done, s3, hl => by
    obtain ⟨a, ea, e⟩ := bind_some e
    obtain ⟨b, eb, e⟩ := bind_some e
    cases e
    rw [List.length_append] at hl
    obtain ⟨s3', ih⟩ := below_go hF q xs b eb (done ++ a) (.val (c.s x)) (by rw [List.length_append]; omega)
    refine ⟨s3', ?_⟩
    have e1 : sExt 2 (lI asL (lA F (aC (eV 0) (aC (eV 3) aN)))) [.val c.d, .val (c.s q), .own (done.map c.s), .val (c.s x)] = some (.nx [.val c.d, .val (c.s q), .own ((done ++ a).map c.s), .val (c.s x)]) := by
      show Option.bind (Option.bind (F [c.d, c.s x]) asL) _ = _
      rw [hF x a ea]
      show (if (done.map c.s).length + (a.map c.s).length ≤ sizeLine then _ else _) = _
      rw [if_pos (by rw [List.length_map, List.length_map]; exact big (by omega)), List.map_append]
      rfl
    rw [List.map_cons]
    unfold sGo
    show Option.bind (sExt 2 _ [.val c.d, .val (c.s q), .own (done.map c.s), .val (c.s x)]) _ = _
    rw [e1, Option.bind_some]
    show sGo _ _ _ _ = _
    rw [ih, List.append_assoc]
theorem paint_go {F : List PyData → Option PyData} {f : Nat → Option (List Nat)} (hF : ∀ x l, f x = some l → F [c.d, c.s x] = some (c.S l)) :
    ∀ (xs r : List Nat), catN f xs = some r → ∀ (done : List Nat) (s3 : Sl), done.length + r.length ≤ 3000000 → ∃ s3', sGo (tgN 2) (sExt 1 (lI asL (lA F (aC (eV 0) (aC (eV 2) aN))))) (xs.map c.s) [.val c.d, .own (done.map c.s), s3] = some (.nx [.val c.d, .own ((done ++ r).map c.s), s3'])
  | [], r, e, done, s3, _ => by
    cases e
    exact ⟨s3, by rw [List.append_nil]; rfl⟩
  | x :: xs, r, e, done, s3, hl => by
    obtain ⟨a, ea, e⟩ := bind_some e
    obtain ⟨b, eb, e⟩ := bind_some e
    cases e
    rw [List.length_append] at hl
    obtain ⟨s3', ih⟩ := paint_go hF xs b eb (done ++ a) (.val (c.s x)) (by rw [List.length_append]; omega)
    refine ⟨s3', ?_⟩
    have e1 : sExt 1 (lI asL (lA F (aC (eV 0) (aC (eV 2) aN)))) [.val c.d, .own (done.map c.s), .val (c.s x)] = some (.nx [.val c.d, .own ((done ++ a).map c.s), .val (c.s x)]) := by
      show Option.bind (Option.bind (F [c.d, c.s x]) asL) _ = _
      rw [hF x a ea]
      show (if (done.map c.s).length + (a.map c.s).length ≤ sizeLine then _ else _) = _
      rw [if_pos (by rw [List.length_map, List.length_map]; exact big (by omega)), List.map_append]
      rfl
    rw [List.map_cons]
    unfold sGo
    show Option.bind (sExt 1 _ [.val c.d, .own (done.map c.s), .val (c.s x)]) _ = _
    rw [e1, Option.bind_some]
    show sGo _ _ _ _ = _
    rw [ih, List.append_assoc]
theorem F_below_eq : ∀ (n q : Nat) (l : List Nat), blwN c.st n q = some l → F_below n [c.d, c.s q] = some (c.S l)
  | n + 1, q, l, e => by
    unfold blwN at e
    obtain ⟨p, hq, e⟩ := bind_some e
    · obtain ⟨r, hr, e⟩ := bind_some e
      split at e
      · rename_i hl
        cases e
        unfold F_below runF
        rw [if_pos (by rfl)]
        show (g_below F_box_of F_children (F_below n) [.val c.d, .val (c.s q), .un, .un]).bind _ = _
        have eb := F_box_eq h hq
        have e1 : sSetO 2 (fun η => ((aC (l2 pIx (lA F_box_of (aC (eV 0) (aC (eV 1) aN))) (eC (.int 0))) aN) η).bind gL) [.val c.d, .val (c.s q), .un, .un] = some (.nx [.val c.d, .val (c.s q), .own [c.s q], .un]) := by
          show Option.bind (Option.bind (Option.bind (Option.bind (F_box_of [c.d, c.s q]) _) _) _) _ = _
          rw [eb]
          rfl
        obtain ⟨s3', e2⟩ := below_go h (F_below_eq n) q (chN c.st q) r hr [q] .un (by simpa [Nat.add_comm] using hl)
        have e3 : sFor (lI asL (lA F_children (aC (eV 0) (aC (eV 1) aN)))) (tgN 3) (sExt 2 (lI asL (lA (F_below n) (aC (eV 0) (aC (eV 3) aN))))) [.val c.d, .val (c.s q), .own [c.s q], .un] = some (.nx [.val c.d, .val (c.s q), .own (([q] ++ r).map c.s), s3']) := by
          show Option.bind (Option.bind (F_children [c.d, c.s q]) asL) _ = _
          rw [F_children_eq h]
          exact e2
        unfold g_below sSeq
        rw [e1, Option.bind_some]
        show Option.bind (Option.bind (sFor _ _ _ _) _) _ = _
        rw [e3]
        rfl
      · cases e
theorem F_painted_eq {l : List Nat} (e : pntN c.st = some l) : F_painted [c.d] = some (c.S l) := by
  unfold pntN at e
  obtain ⟨r, hr, e⟩ := bind_some e
  split at e
  · rename_i hl
    cases e
    unfold F_painted runF
    rw [if_pos (by rfl)]
    show (g_painted F_children (F_below 13) [.val c.d, .un, .un]).bind _ = _
    obtain ⟨s3', e2⟩ := paint_go h (F_below_eq h 13) (chN c.st 0) l hr [] .un (by simpa using hl)
    have e3 : sFor (lI asL (lA F_children (aC (eV 0) (aC (eC (.str "")) aN)))) (tgN 2) (sExt 1 (lI asL (lA (F_below 13) (aC (eV 0) (aC (eV 2) aN))))) [.val c.d, .own [], .un] = some (.nx [.val c.d, .own (l.map c.s), s3']) := by
      show Option.bind (Option.bind (F_children [c.d, .str ""]) asL) _ = _
      have := F_children_eq h 0
      unfold Sc.s at this
      rw [h.top] at this
      rw [this]
      exact e2
    unfold g_painted sSeq
    show Option.bind (Option.bind (sFor _ _ _ [.val c.d, .own [], .un]) _) _ = _
    rw [e3]
    rfl
  · cases e
end
end K55
namespace K55
open PySem L2 L2.PU
noncomputable def Sd (ns : List Int) : PyData := .list (ns.map PyData.int)
theorem can_ints : ∀ ns : List Int, PyData.canLayAll0 (ns.map PyData.int) = true
  | [] => rfl
  | _ :: r => by
    have ih := can_ints r
    simpa [PyData.canLayAll0, PyData.canLay0] using ih
theorem dep_ints : ∀ ns : List Int, PyData.depthAll (ns.map PyData.int) = 0
  | [] => rfl
  | _ :: r => by
    have ih := dep_ints r
    simpa [PyData.depthAll, PyData.depth] using ih
theorem shaped_ints (ns : List Int) : SeqAt.shaped (.list (ns.map PyData.int)) = true := by
  simp [SeqAt.shaped, PyData.canLay0, PyData.depth, can_ints, dep_ints]
theorem shaped_int (i : Int) : SeqAt.shaped (.int i) = true := by simp [SeqAt.shaped, PyData.canLay0, PyData.depth]
theorem pEq_int (i j : Int) : pEq (.int i) (.int j) = some (.bool (i == j)) := by
  unfold pEq
  rw [if_pos ⟨shaped_int i, shaped_int j⟩]
  simp [PyData.eqv]
theorem l2_of {o : PyData → PyData → Option PyData} {f g : En → Option PyData} {η : En} {x y z : PyData} (hf : f η = some x) (hg : g η = some y) (ho : o x y = some z) : l2 o f g η = some z := by
  unfold l2
  rw [hf, Option.bind_some, hg, Option.bind_some, ho]
theorem pMul_ok {i j : Int} (h : CMul i j) : pMul (.int i) (.int j) = some (.int (i * j)) := if_pos h
theorem pMod_ok {i j : Int} (h : 0 < j) : pMod (.int i) (.int j) = some (.int (i % j)) := if_pos h
theorem pFdiv_ok {i j : Int} (h : CDiv i j) : pFdiv (.int i) (.int j) = some (.int (i / j)) := if_pos h
theorem mulL {i j : Int} (h1 : -(2 ^ 64) < i) (h2 : i < 2 ^ 64) : CMul i j := Or.inl ⟨h1, h2⟩
theorem mulR {i j : Int} (h1 : -(2 ^ 64) < j) (h2 : j < 2 ^ 64) : CMul i j := Or.inr ⟨h1, h2⟩
section
variable {ns : List Int}
theorem cell_ok (hn : ns.length ≤ 63) {k : Int} (hk : 0 ≤ k) : ∃ v : Int, F__law_cell [Sd ns, .int k] = some (.int v) := by
  unfold F__law_cell runF
  rw [if_pos (by rfl)]
  have et : (bT (l2 pEq (eV 0) (oE (fun η => (aN η).bind gL)))) [.val (Sd ns), .val (.int k)] = some (decide (ns = [])) := by
    show Option.bind (pEq (Sd ns) (.list [])) asB = _
    unfold pEq
    rw [if_pos ⟨shaped_ints ns, by rfl⟩]
    cases ns <;> simp [Sd, PyData.eqv, PyData.eqvAll, asB]
  show ∃ v, Option.bind (g__law_cell [.val (Sd ns), .val (.int k)]) _ = _
  unfold g__law_cell sSeq sIf
  rw [et, Option.bind_some]
  by_cases h0 : ns = []
  · rw [if_pos (by simpa using h0)]
    refine ⟨7 * k, ?_⟩
    have : l2 pMul (eC (.int 7)) (eV 1) [.val (Sd ns), .val (.int k)] = some (.int (7 * k)) := l2_of rfl rfl (pMul_ok (mulL (by decide) (by decide)))
    unfold sRet
    rw [this]; rfl
  · rw [if_neg (by simpa using h0)]
    have hp : 0 < ns.length := by cases ns with | nil => exact absurd rfl h0 | cons => simp
    have hlen : lA pLen (aC (eV 0) aN) [.val (Sd ns), .val (.int k)] = some (.int (ns.length : Int)) := by
      show some (PyData.int ((ns.map PyData.int).length : Int)) = _
      rw [List.length_map]
    have hm : l2 pMod (eV 1) (lA pLen (aC (eV 0) aN)) [.val (Sd ns), .val (.int k)] = some (.int (k % (ns.length : Int))) := l2_of rfl hlen (pMod_ok (by omega))
    have hd : l2 pFdiv (eV 1) (lA pLen (aC (eV 0) aN)) [.val (Sd ns), .val (.int k)] = some (.int (k / (ns.length : Int))) := l2_of rfl hlen (pFdiv_ok ⟨by omega, by omega⟩)
    obtain ⟨j, hj⟩ : ∃ j : Nat, k % (ns.length : Int) = (j : Int) := ⟨(k % (ns.length : Int)).toNat, by have := Int.emod_nonneg k (show (ns.length : Int) ≠ 0 by omega); omega⟩
    have hjl : j < ns.length := by have := Int.emod_lt_of_pos k (show (0 : Int) < ns.length by omega); omega
    refine ⟨ns[j] + 6553 * (k / (ns.length : Int)), ?_⟩
    have hx : l2 pIx (eV 0) (l2 pMod (eV 1) (lA pLen (aC (eV 0) aN))) [.val (Sd ns), .val (.int k)] = some (.int ns[j]) := by
      refine l2_of rfl hm ?_
      rw [hj]
      show atI (ns.map PyData.int) (j : Int) = _
      exact atI_nat (by rw [List.getElem?_map, List.getElem?_eq_getElem hjl]; rfl)
    have hy : l2 pMul (eC (.int 6553)) (l2 pFdiv (eV 1) (lA pLen (aC (eV 0) aN))) [.val (Sd ns), .val (.int k)] = some (.int (6553 * (k / (ns.length : Int)))) := l2_of rfl hd (pMul_ok (mulL (by decide) (by decide)))
    have hz := l2_of (o := pAdd) hx hy rfl
    show Option.bind (sRet _ [.val (Sd ns), .val (.int k)]) _ = _
    unfold sRet
    rw [hz]
    rfl
theorem drawn_ok (hn : ns.length ≤ 63) {k m : Int} (hk : 0 ≤ k) (hm : 0 < m) : ∃ r : Nat, (r : Int) < m ∧ F__law_drawn [Sd ns, .int k, .int m] = some (.int r) := by
  obtain ⟨v, hv⟩ := cell_ok hn hk
  unfold F__law_drawn runF
  rw [if_pos (by rfl)]
  have hc : lA F__law_cell (aC (eV 0) (aC (eV 1) aN)) [.val (Sd ns), .val (.int k), .val (.int m), .un] = some (.int v) := hv
  have x1 : l2 pMod (l2 pAdd (l2 pMul (l2 pMod (lA F__law_cell (aC (eV 0) (aC (eV 1) aN))) (eC (.int 2147483563))) (eC (.int 69069))) (l2 pMul (eC (.int 104723)) (l2 pAdd (eV 1) (eC (.int 1))))) (eC (.int 2147483563)) [.val (Sd ns), .val (.int k), .val (.int m), .un] = some (.int ((v % 2147483563 * 69069 + 104723 * (k + 1)) % 2147483563)) :=
    l2_of (l2_of (l2_of (l2_of hc rfl (pMod_ok (by decide))) rfl (pMul_ok (mulR (by decide) (by decide)))) (l2_of rfl (l2_of rfl rfl rfl) (pMul_ok (mulL (by decide) (by decide)))) rfl) rfl (pMod_ok (by decide))
  generalize hx : (v % 2147483563 * 69069 + 104723 * (k + 1)) % 2147483563 = x at x1
  have bx : 0 ≤ x ∧ x < 2147483563 := by rw [← hx]; exact ⟨Int.emod_nonneg _ (by decide), Int.emod_lt_of_pos _ (by decide)⟩
  have x2 : l2 pMod (l2 pAdd (l2 pMul (eV 3) (eV 3)) (l2 pFdiv (eV 3) (eC (.int 3)))) (eC (.int 2147483399)) [.val (Sd ns), .val (.int k), .val (.int m), .val (.int x)] = some (.int ((x * x + x / 3) % 2147483399)) :=
    l2_of (l2_of (l2_of rfl rfl (pMul_ok (mulL (by omega) (by omega)))) (l2_of rfl rfl (pFdiv_ok ⟨by decide, by decide⟩)) rfl) rfl (pMod_ok (by decide))
  generalize hy : (x * x + x / 3) % 2147483399 = y at x2
  have byy : 0 ≤ y ∧ y < 2147483399 := by rw [← hy]; exact ⟨Int.emod_nonneg _ (by decide), Int.emod_lt_of_pos _ (by decide)⟩
  have x3 : l2 pMod (l2 pFdiv (l2 pMod (l2 pAdd (l2 pMul (eV 3) (eV 3)) (l2 pFdiv (eV 3) (eC (.int 7)))) (eC (.int 2147483647))) (eC (.int 11))) (eV 2) [.val (Sd ns), .val (.int k), .val (.int m), .val (.int y)] = some (.int ((y * y + y / 7) % 2147483647 / 11 % m)) :=
    l2_of (l2_of (l2_of (l2_of (l2_of rfl rfl (pMul_ok (mulL (by omega) (by omega)))) (l2_of rfl rfl (pFdiv_ok ⟨by decide, by decide⟩)) rfl) rfl (pMod_ok (by decide))) rfl (pFdiv_ok ⟨by decide, by decide⟩)) rfl (pMod_ok hm)
  refine ⟨((y * y + y / 7) % 2147483647 / 11 % m).toNat, ?_, ?_⟩
  · have h1 := Int.emod_nonneg ((y * y + y / 7) % 2147483647 / 11) (show m ≠ 0 by omega)
    have h2 := Int.emod_lt_of_pos ((y * y + y / 7) % 2147483647 / 11) hm
    omega
  · have h1 := Int.emod_nonneg ((y * y + y / 7) % 2147483647 / 11) (show m ≠ 0 by omega)
    have e : (((y * y + y / 7) % 2147483647 / 11 % m).toNat : Int) = (y * y + y / 7) % 2147483647 / 11 % m := by omega
    rw [e]
    show Option.bind (g__law_drawn F__law_cell [.val (Sd ns), .val (.int k), .val (.int m), .un]) _ = _
    unfold g__law_drawn sSeq sSet sRet
    rw [x1, Option.bind_some, Option.bind_some]
    show Option.bind (Option.bind (Option.bind (l2 pMod _ _ [.val (Sd ns), .val (.int k), .val (.int m), .val (.int x)]) _) _) _ = _
    rw [x2, Option.bind_some, Option.bind_some]
    show Option.bind (Option.bind (l2 pMod _ _ [.val (Sd ns), .val (.int k), .val (.int m), .val (.int y)]) _) _ = _
    rw [x3]
    rfl
end
end K55
namespace K55
open PySem L2 L2.PU
theorem seq_of {f g : En → Option Out} {η η1 : En} {r : Option Out} (h1 : f η = some (.nx η1)) (h2 : g η1 = r) : sSeq f g η = r := by
  unfold sSeq
  rw [h1]; exact h2
theorem set_of {i : Nat} {f : En → Option PyData} {η : En} {d : PyData} (h : f η = some d) : sSet i f η = some (.nx (η.set i (.val d))) := by
  unfold sSet
  rw [h]; rfl
theorem setO_of {i : Nat} {f : En → Option (List PyData)} {η : En} {d : List PyData} (h : f η = some d) : sSetO i f η = some (.nx (η.set i (.own d))) := by
  unfold sSetO
  rw [h]; rfl
theorem lA_of {o : List PyData → Option PyData} {fs : En → Option (List PyData)} {η : En} {ds : List PyData} {d : PyData} (h1 : fs η = some ds) (h2 : o ds = some d) : lA o fs η = some d := by
  unfold lA
  rw [h1]; exact h2
theorem aC_of {f : En → Option PyData} {g : En → Option (List PyData)} {η : En} {d : PyData} {ds : List PyData} (h1 : f η = some d) (h2 : g η = some ds) : aC f g η = some (d :: ds) := by
  unfold aC
  rw [h1, Option.bind_some, h2]; rfl
theorem if_of {c : En → Option Bool} {f g : En → Option Out} {η : En} {b : Bool} (h : c η = some b) : sIf c f g η = if b = true then f η else g η := by
  unfold sIf
  rw [h]; rfl
theorem bT_of {f : En → Option PyData} {η : En} {b : Bool} (h : f η = some (.bool b)) : bT f η = some b := by
  unfold bT
  rw [h]; rfl
theorem for_of {it : En → Option (List PyData)} {t : En → PyData → Option En} {body : En → Option Out} {η : En} {ds : List PyData} {r : Option Out} (h : it η = some ds) (h2 : sGo t body ds η = r) : sFor it t body η = r := by
  unfold sFor
  rw [h]; exact h2
theorem rng1_ok {j : Int} (h1 : -(2 ^ 62) ≤ j) (h2 : j < 2 ^ 62) : rng1 [.int j] = some (rngL 0 j.toNat) := if_pos ⟨h1, h2⟩
theorem sGo_rng {t : En → PyData → Option En} {body : En → Option Out} (Inv : Nat → En → Prop) (n : Nat)
    (st : ∀ k η, k < n → Inv k η → ∃ η1 η2, t η (.int (0 + (k : Nat))) = some η1 ∧ body η1 = some (.nx η2) ∧ Inv (k + 1) η2) {η : En} (h0 : Inv 0 η) : ∃ η', sGo t body (rngL 0 n) η = some (.nx η') ∧ Inv n η' := by
  have key : ∀ (m k : Nat) (η : En), k + m = n → Inv k η → ∃ η', sGo t body ((List.range' k m).map fun (k : Nat) => PyData.int (0 + (k : Nat))) η = some (.nx η') ∧ Inv n η' := by
    intro m
    induction m with
    | zero => intro k η e h; exact ⟨η, rfl, by rw [← e]; exact h⟩
    | succ m ih =>
      intro k η e h
      obtain ⟨η1, η2, h1, h2, h3⟩ := st k η (by omega) h
      obtain ⟨η', e1, e2⟩ := ih (k + 1) η2 (by omega) h3
      refine ⟨η', ?_, e2⟩
      rw [List.range'_succ, List.map_cons]
      unfold sGo
      rw [h1, Option.bind_some, h2, Option.bind_some]
      exact e1
  unfold rngL
  rw [List.range_eq_range']
  exact key n 0 η (by omega) h0
theorem sGo_all {ι : Type} {t : En → PyData → Option En} {body : En → Option Out} (D : ι → PyData) (Inv : List ι → En → Prop) (all : List ι)
    (st : ∀ done x rest η, all = done ++ x :: rest → Inv done η → ∃ η1 η2, t η (D x) = some η1 ∧ body η1 = some (.nx η2) ∧ Inv (done ++ [x]) η2) {η : En} (h0 : Inv [] η) : ∃ η', sGo t body (all.map D) η = some (.nx η') ∧ Inv all η' := by
  have key : ∀ (rest done : List ι) (η : En), all = done ++ rest → Inv done η → ∃ η', sGo t body (rest.map D) η = some (.nx η') ∧ Inv all η' := by
    intro rest
    induction rest with
    | nil => intro done η e h; exact ⟨η, rfl, by rw [e, List.append_nil]; exact h⟩
    | cons x r ih =>
      intro done η e h
      obtain ⟨η1, η2, h1, h2, h3⟩ := st done x r η e h
      obtain ⟨η', e1, e2⟩ := ih (done ++ [x]) η2 (by rw [e]; simp) h3
      refine ⟨η', ?_, e2⟩
      rw [List.map_cons]
      unfold sGo
      rw [h1, Option.bind_some, h2, Option.bind_some]
      exact e1
  exact key all [] η rfl h0
noncomputable def let8 : List Nat := [100, 98, 103, 97, 104, 99, 102, 101]
noncomputable def nmT (t : Nat) : Nat → Str
  | 0 => ""
  | j + 1 => if j < 8 then ⟨#[let8.getD ((j + t) % 8) 0]⟩ else ⟨(List.replicate (j + 1) 97).toArray⟩
theorem let8_inj : ∀ x : Fin 8, ∀ y : Fin 8, let8.getD x.val 0 = let8.getD y.val 0 → x = y := by decide
theorem nmT_lo {t j : Nat} (h : j < 8) : nmT t (j + 1) = ⟨#[let8.getD ((j + t) % 8) 0]⟩ := if_pos h
theorem nmT_hi {t j : Nat} (h : ¬ j < 8) : nmT t (j + 1) = ⟨(List.replicate (j + 1) 97).toArray⟩ := if_neg h
theorem empty_size : ("" : Str).cps.size = 0 := by decide
theorem nmT_inj (t : Nat) : ∀ a b, nmT t a = nmT t b → a = b := by
  have sz : ∀ a, (nmT t a).cps.size = if a = 0 then 0 else if a - 1 < 8 then 1 else a := fun a => by
    cases a with
    | zero => exact empty_size
    | succ j =>
      by_cases h : j < 8
      · rw [nmT_lo h]; simp [h]
      · rw [nmT_hi h]; simp [h]
  intro a b e
  have s1 := sz a
  have s2 := sz b
  rw [e, s2] at s1
  cases a with
  | zero =>
    cases b with
    | zero => rfl
    | succ k =>
      simp at s1
      split at s1 <;> omega
  | succ j =>
    cases b with
    | zero =>
      simp at s1
      split at s1 <;> omega
    | succ k =>
      by_cases hj : j < 8
      · by_cases hk : k < 8
        · rw [nmT_lo hj, nmT_lo hk] at e
          have e1 : (#[let8.getD ((j + t) % 8) 0] : Array Nat) = #[let8.getD ((k + t) % 8) 0] := by injection e
          have e2 : let8.getD ((j + t) % 8) 0 = let8.getD ((k + t) % 8) 0 := by simpa using e1
          have e3 := let8_inj ⟨(j + t) % 8, Nat.mod_lt _ (by decide)⟩ ⟨(k + t) % 8, Nat.mod_lt _ (by decide)⟩ e2
          have e4 : (j + t) % 8 = (k + t) % 8 := by injection e3
          omega
        · simp [hj, hk] at s1; omega
      · by_cases hk : k < 8
        · simp [hj, hk] at s1; omega
        · simp [hj, hk] at s1; omega
theorem let8_lt : ∀ x : Fin 8, let8.getD x.val 0 < 0x110000 := by decide
theorem nmT_ok (t : Nat) : ∀ a, PyData.strOk (nmT t a) = true := fun a => by
  cases a with
  | zero => exact (by decide +kernel : PyData.strOk ("" : Str) = true)
  | succ j =>
    by_cases h : j < 8
    · rw [nmT_lo h]
      have := let8_lt ⟨(j + t) % 8, Nat.mod_lt _ (by decide)⟩
      simp only [List.getD_eq_getElem?_getD] at this
      simp [PyData.strOk, this]
    · rw [nmT_hi h]
      unfold PyData.strOk
      rw [Array.all_eq_true]
      intro i hi
      simp
structure Dr where
  ps : List Nat
  nm : Nat → Str
  L : Nat → Int
  T : Nat → Int
  W : Nat → Int
  H : Nat → Int
  mr : Nat → Str
noncomputable def bd (l t w h : Int) : Prop := (-3 ≤ l ∧ l ≤ 5) ∧ (-3 ≤ t ∧ t ≤ 5) ∧ (0 ≤ w ∧ w ≤ 8) ∧ (0 ≤ h ∧ h ≤ 8)
noncomputable def mkS : List Bool → Str
  | [] => ""
  | b :: r => mkS r ++ (if b then (⟨#[[99, 102, 104, 108].getD r.length 0]⟩ : Str) else ("" : Str))
noncomputable def mkOk (m : Str) : Prop := ∃ bs : List Bool, bs.length = 4 ∧ m = mkS bs
structure Dr.Ok (c : Dr) : Prop where
  inj : ∀ a b, c.nm a = c.nm b → a = b
  top : c.nm 0 = ""
  ok : ∀ a, PyData.strOk (c.nm a) = true
  okm : ∀ a, PyData.strOk (c.mr a) = true
  len : c.ps.length ≤ 12
  par : ∀ i, c.ps.getD i 0 ≤ i
  bds : ∀ i, bd (c.L i) (c.T i) (c.W i) (c.H i)
  mks : ∀ i, mkOk (c.mr i)
noncomputable def Dr.box (c : Dr) (i : Nat) : PyData := .tuple [.str (c.nm (i + 1)), .str (c.nm (c.ps.getD i 0)), .int (c.L i), .int (c.T i), .int (c.W i), .int (c.H i), .str (c.mr i)]
noncomputable def Dr.d (c : Dr) : PyData := .tuple ((List.range c.ps.length).map c.box)
noncomputable def Dr.s (c : Dr) (q : Nat) : PyData := .str (c.nm q)
noncomputable def Dr.more (c : Dr) (p : Nat) (l t w h : Int) (m : Str) : Dr :=
  { ps := c.ps ++ [p], nm := c.nm, L := fun i => if i = c.ps.length then l else c.L i, T := fun i => if i = c.ps.length then t else c.T i, W := fun i => if i = c.ps.length then w else c.W i,
    H := fun i => if i = c.ps.length then h else c.H i, mr := fun i => if i = c.ps.length then m else c.mr i }
theorem Dr.more_d (c : Dr) (p : Nat) (l t w h : Int) (m : Str) : (c.more p l t w h m).d = .tuple ((List.range c.ps.length).map c.box ++ [.tuple [.str (c.nm (c.ps.length + 1)), .str (c.nm p), .int l, .int t, .int w, .int h, .str m]]) := by
  unfold Dr.d
  have e : (c.more p l t w h m).ps.length = c.ps.length + 1 := by unfold Dr.more; simp
  rw [e, List.range_succ, List.map_append]
  congr 2
  · refine List.map_congr_left fun i hi => ?_
    have hlt := List.mem_range.mp hi
    have hne : i ≠ c.ps.length := Nat.ne_of_lt hlt
    have hps : (c.ps ++ [p])[i]? = c.ps[i]? := List.getElem?_append_left hlt
    unfold Dr.box Dr.more
    simp only [hne, if_false, List.getD_eq_getElem?_getD, hps]
  · unfold Dr.box Dr.more
    simp
theorem Dr.more_ok {c : Dr} (h : c.Ok) (hl : c.ps.length < 12) {p : Nat} (hp : p ≤ c.ps.length) (l t w g : Int) {m : Str} (hm : PyData.strOk m = true) (hb : bd l t w g) (hk : mkOk m) : (c.more p l t w g m).Ok where
  inj := h.inj
  top := h.top
  ok := h.ok
  okm := fun i => by
    unfold Dr.more
    dsimp only
    split
    · exact hm
    · exact h.okm i
  len := by unfold Dr.more; simp; omega
  par := fun i => by
    unfold Dr.more
    dsimp only
    rw [List.getD_eq_getElem?_getD]
    by_cases hi : i < c.ps.length
    · rw [List.getElem?_append_left hi, ← List.getD_eq_getElem?_getD]
      exact h.par i
    · by_cases he : i = c.ps.length
      · subst he
        rw [List.getElem?_append_right (Nat.le_refl _)]
        simpa using hp
      · rw [List.getElem?_eq_none (by simp; omega)]
        exact Nat.zero_le _
  bds := fun i => by
    unfold Dr.more
    dsimp only
    by_cases e : i = c.ps.length
    · rw [if_pos e, if_pos e, if_pos e, if_pos e]; exact hb
    · rw [if_neg e, if_neg e, if_neg e, if_neg e]; exact h.bds i
  mks := fun i => by
    unfold Dr.more
    dsimp only
    split
    · exact hk
    · exact h.mks i
end K55
namespace K55
open PySem L2 L2.PU
noncomputable def sg4 : Nat → Str := fun j => ⟨#[[99, 102, 104, 108].getD j 0]⟩
theorem cfhl : enS [.str "cfhl"] = some ([0, 1, 2, 3].map fun (j : Nat) => PyData.tuple [.int (j : Nat), .str (sg4 j)]) := by
  have e : ("cfhl" : Str).cps.toList = [99, 102, 104, 108] := by decide +kernel
  unfold enS
  dsimp only
  unfold signD
  rw [e]
  rfl
theorem dbg : ("dbgahcfe" : Str).cps.toList = let8 := by decide +kernel
theorem dbg_len : ("dbgahcfe" : Str).length ≤ sizeLine := by decide +kernel
theorem strOk_app {a b : Str} (ha : PyData.strOk a = true) (hb : PyData.strOk b = true) : PyData.strOk (a ++ b) = true := by
  unfold PyData.strOk at ha hb ⊢
  show (a.cps ++ b.cps).all _ = true
  rw [Array.all_append, ha, hb]; rfl
theorem len_app (a b : Str) : (a ++ b).length = a.length + b.length := by
  show (a.cps ++ b.cps).size = _
  rw [Array.size_append]; rfl
theorem sg4_ok (j : Nat) (h : j ∈ [0, 1, 2, 3]) : PyData.strOk (sg4 j) = true := by
  simp at h
  rcases h with rfl | rfl | rfl | rfl <;> decide +kernel
theorem mkS_false (bs : List Bool) : mkS bs = mkS (false :: bs) := by
  show mkS bs = mkS bs ++ ("" : Str)
  apply str_ext
  show _ = ((mkS bs).cps ++ ("" : Str).cps).toList
  have : ("" : Str).cps = #[] := by decide +kernel
  rw [this]; simp
theorem sg4_len (j : Nat) : (sg4 j).length = 1 := rfl
section
variable {ns : List Int} (hn : ns.length ≤ 63)
include hn
theorem marks_ok {x1 x2 x3 x4 x6 x7 x8 : Sl} {hh : Int} (h0 : 0 ≤ hh) (s10 s11 s12 : Sl) : ∃ (m : Str) (u v : Sl), (PyData.strOk m = true ∧ mkOk m) ∧
    sFor (fun η => ((aC (eC (.str "cfhl")) aN) η).bind enS) (tgT (tgCons (tgN 10) (tgCons (tgN 11) tgNil)))
    (sIf (bT (l2 pEq (lA F__law_drawn (aC (eV 0) (aC (l2 pAdd (l2 pAdd (eV 5) (eC (.int 5))) (eV 10)) (aC (l2 pIx (oE (fun η => ((aC (eC (.int 4)) (aC (eC (.int 2)) (aC (eC (.int 9)) (aC (eC (.int 6)) aN)))) η).bind gL)) (eV 10)) aN)))) (eC (.int 0)))) (sSet 9 (l2 pAdd (eV 9) (eV 11))) sNx)
      [.val (Sd ns), x1, x2, x3, x4, .val (.int hh), x6, x7, x8, .val (.str ""), s10, s11, s12] = some (.nx [.val (Sd ns), x1, x2, x3, x4, .val (.int hh), x6, x7, x8, .val (.str m), u, v, s12]) := by
  have inv := sGo_all (t := tgT (tgCons (tgN 10) (tgCons (tgN 11) tgNil)))
    (body := (sIf (bT (l2 pEq (lA F__law_drawn (aC (eV 0) (aC (l2 pAdd (l2 pAdd (eV 5) (eC (.int 5))) (eV 10)) (aC (l2 pIx (oE (fun η => ((aC (eC (.int 4)) (aC (eC (.int 2)) (aC (eC (.int 9)) (aC (eC (.int 6)) aN)))) η).bind gL)) (eV 10)) aN)))) (eC (.int 0)))) (sSet 9 (l2 pAdd (eV 9) (eV 11))) sNx))
    (fun (j : Nat) => PyData.tuple [.int (j : Nat), .str (sg4 j)])
    (fun done η => ∃ (m : Str) (u v : Sl), (PyData.strOk m = true ∧ ∃ bs : List Bool, bs.length = done.length ∧ m = mkS bs) ∧ m.length ≤ done.length ∧ η = [.val (Sd ns), x1, x2, x3, x4, .val (.int hh), x6, x7, x8, .val (.str m), u, v, s12])
    [0, 1, 2, 3] ?_ (η := [.val (Sd ns), x1, x2, x3, x4, .val (.int hh), x6, x7, x8, .val (.str ""), s10, s11, s12]) ⟨"", s10, s11, ⟨by decide +kernel, [], rfl, rfl⟩, by decide +kernel, rfl⟩
  · obtain ⟨η', e1, m, u, v, hm, _, rfl⟩ := inv
    refine ⟨m, u, v, ⟨hm.1, hm.2⟩, for_of (ds := [0, 1, 2, 3].map fun (j : Nat) => PyData.tuple [.int (j : Nat), .str (sg4 j)]) cfhl e1⟩
  · rintro done j rest η hall ⟨m, u, v, hm, hml, rfl⟩
    have hj : j ∈ [0, 1, 2, 3] := by rw [hall]; simp
    have hdl : done.length ≤ 3 := by
      have := congrArg List.length hall
      simp at this
      omega
    have hjd : j = done.length := by
      match done, hall, hdl with
      | [], hall, _ => simp at hall; simp [hall.1]
      | [_], hall, _ => simp at hall; simp [hall.2.1]
      | [_, _], hall, _ => simp at hall; simp [hall.2.2.1]
      | [_, _, _], hall, _ => simp at hall; simp [hall.2.2.2.1]
    obtain ⟨hm, bs, hbs, hmm⟩ := hm
    have hmod : ∃ q : Int, 0 < q ∧ l2 pIx (oE (fun η => ((aC (eC (.int 4)) (aC (eC (.int 2)) (aC (eC (.int 9)) (aC (eC (.int 6)) aN)))) η).bind gL)) (eV 10) [.val (Sd ns), x1, x2, x3, x4, .val (.int hh), x6, x7, x8, .val (.str m), .val (.int (j : Nat)), .val (.str (sg4 j)), s12] = some (.int q) := by
      have eo : oE (fun η => ((aC (eC (.int 4)) (aC (eC (.int 2)) (aC (eC (.int 9)) (aC (eC (.int 6)) aN)))) η).bind gL) [.val (Sd ns), x1, x2, x3, x4, .val (.int hh), x6, x7, x8, .val (.str m), .val (.int (j : Nat)), .val (.str (sg4 j)), s12] = some (.list [.int 4, .int 2, .int 9, .int 6]) := by
        have : gL [.int 4, .int 2, .int 9, .int 6] = some [.int 4, .int 2, .int 9, .int 6] := if_pos (by show 4 ≤ sizeLine; decide)
        show Option.bind (gL [.int 4, .int 2, .int 9, .int 6]) _ = _
        rw [this]; rfl
      simp at hj
      rcases hj with rfl | rfl | rfl | rfl
      · exact ⟨4, by decide, l2_of eo rfl rfl⟩
      · exact ⟨2, by decide, l2_of eo rfl rfl⟩
      · exact ⟨9, by decide, l2_of eo rfl rfl⟩
      · exact ⟨6, by decide, l2_of eo rfl rfl⟩
    obtain ⟨q, hq, eq⟩ := hmod
    obtain ⟨r, hr, er⟩ := drawn_ok hn (k := hh + 5 + (j : Nat)) (m := q) (by omega) hq
    have eb : bT (l2 pEq (lA F__law_drawn (aC (eV 0) (aC (l2 pAdd (l2 pAdd (eV 5) (eC (.int 5))) (eV 10)) (aC (l2 pIx (oE (fun η => ((aC (eC (.int 4)) (aC (eC (.int 2)) (aC (eC (.int 9)) (aC (eC (.int 6)) aN)))) η).bind gL)) (eV 10)) aN)))) (eC (.int 0)))
        [.val (Sd ns), x1, x2, x3, x4, .val (.int hh), x6, x7, x8, .val (.str m), .val (.int (j : Nat)), .val (.str (sg4 j)), s12] = some ((r : Int) == 0) :=
      bT_of (l2_of (lA_of (aC_of rfl (aC_of (l2_of (l2_of rfl rfl rfl) rfl rfl) (aC_of eq rfl))) er) rfl (pEq_int _ _))
    refine ⟨[.val (Sd ns), x1, x2, x3, x4, .val (.int hh), x6, x7, x8, .val (.str m), .val (.int (j : Nat)), .val (.str (sg4 j)), s12], ?_⟩
    by_cases h0 : (r : Int) == 0
    · refine ⟨[.val (Sd ns), x1, x2, x3, x4, .val (.int hh), x6, x7, x8, .val (.str (m ++ sg4 j)), .val (.int (j : Nat)), .val (.str (sg4 j)), s12], rfl, ?_, m ++ sg4 j, _, _, ⟨strOk_app hm (sg4_ok j hj), true :: bs, by simp [hbs], by rw [hmm, hjd, ← hbs]; rfl⟩, ?_, rfl⟩
      · rw [if_of eb, if_pos h0]
        refine set_of (d := .str (m ++ sg4 j)) (l2_of rfl rfl ?_)
        show (if m.length + (sg4 j).length ≤ sizeLine then some (PyData.str (m ++ sg4 j)) else none) = _
        rw [if_pos (by rw [sg4_len]; exact big (by omega))]
      · rw [len_app, sg4_len, List.length_append]
        simpa using hml
    · refine ⟨[.val (Sd ns), x1, x2, x3, x4, .val (.int hh), x6, x7, x8, .val (.str m), .val (.int (j : Nat)), .val (.str (sg4 j)), s12], rfl, ?_, m, _, _, ⟨hm, false :: bs, by simp [hbs], by rw [hmm]; exact mkS_false bs⟩, ?_, rfl⟩
      · rw [if_of eb, if_neg h0]; rfl
      · rw [List.length_append]; simp; omega
end
end K55
namespace K55
open PySem L2 L2.PU
noncomputable def tup1 : List PyData → Option PyData := fun ds => if ds.length ≤ sizeLine then some (.tuple ds) else none
theorem tup1_ok {ds : List PyData} (h : ds.length ≤ 3000000) : (if ds.length ≤ sizeLine then some (PyData.tuple ds) else none) = some (.tuple ds) := if_pos (big h)
theorem gL_ok {ds : List PyData} (h : ds.length ≤ 3000000) : gL ds = some ds := if_pos (big h)
theorem addL {a b : List PyData} (h : a.length + b.length ≤ 3000000) : pAdd (.list a) (.list b) = some (.list (a ++ b)) := if_pos (big h)
theorem addT {a b : List PyData} (h : a.length + b.length ≤ 3000000) : pAdd (.tuple a) (.tuple b) = some (.tuple (a ++ b)) := if_pos (big h)
theorem oE_of {f : En → Option (List PyData)} {η : En} {ds : List PyData} (h : f η = some ds) : oE f η = some (.list ds) := by
  unfold oE
  rw [h]; rfl
theorem comp_eq {mp : List (Option Nat)} {fi : En → Option (List PyData)} {t : En → PyData → Option En} {p : En → Option Bool} {f : En → Option PyData} {η : En} {ds : List PyData} {r : Option (List PyData)} (h1 : fi η = some ds) (hz : ds.length ≤ 3000000) (h2 : cGo t p f (inEn mp η) ds = r) : sComp mp fi t p f η = r := by
  unfold sComp
  rw [h1, Option.bind_some, if_pos (big hz)]
  exact h2
noncomputable def sBody (fn__law_drawn : List PyData → Option PyData) : En → Option Out :=
  (sSeq (sSet 5 (l2 pAdd (l2 pAdd (eV 1) (eC (.int 3))) (l2 pMul (eC (.int 9)) (eV 4))))
    (sSeq (sSet 6 (l2 pIx (l2 pAdd (oE (fun η => ((aC (eC (.str "")) aN) η).bind gL)) (oE (sComp [none] (lI asTu (eV 2)) (tgN 0) tTrue (l2 pIx (eV 0) (eC (.int 0)))))) (lA fn__law_drawn (aC (eV 0) (aC (eV 5) (aC (l2 pAdd (eV 4) (eC (.int 1))) aN))))))
    (sSeq (sSetO 7 (sComp [none, some 0, some 5] (fun η => ((aC (eC (.int 2)) aN) η).bind rng1) (tgN 0) tTrue (l2 pSub (lA fn__law_drawn (aC (eV 1) (aC (l2 pAdd (l2 pAdd (eV 2) (eC (.int 1))) (eV 0)) (aC (eC (.int 9)) aN)))) (eC (.int 3)))))
    (fun η => (sSeq (sSetO 8 (sComp [none, some 0, some 5] (fun η => ((aC (eC (.int 2)) aN) η).bind rng1) (tgN 0) tTrue (lA fn__law_drawn (aC (eV 1) (aC (l2 pAdd (l2 pAdd (eV 2) (eC (.int 3))) (eV 0)) (aC (eC (.int 9)) aN))))))
    (fun η => (sSeq (sSet 9 (eC (.str "")))
    (sSeq (sFor (fun η => ((aC (eC (.str "cfhl")) aN) η).bind enS) (tgT (tgCons (tgN 10) (tgCons (tgN 11) tgNil)))
    (sIf (bT (l2 pEq (lA fn__law_drawn (aC (eV 0) (aC (l2 pAdd (l2 pAdd (eV 5) (eC (.int 5))) (eV 10)) (aC (l2 pIx (oE (fun η => ((aC (eC (.int 4)) (aC (eC (.int 2)) (aC (eC (.int 9)) (aC (eC (.int 6)) aN)))) η).bind gL)) (eV 10)) aN)))) (eC (.int 0)))) (sSet 9 (l2 pAdd (eV 9) (eV 11))) sNx))
    (sSeq (sSet 12 (l2 pIx (eC (.str "dbgahcfe")) (l2 pMod (l2 pAdd (eV 4) (eV 3)) (eC (.int 8)))))
    (sSet 2 (l2 pAdd (eV 2) (lA (fun ds => if ds.length ≤ sizeLine then some (.tuple ds) else none) (aC (l2 pAdd (l2 pAdd (lA (fun ds => if ds.length ≤ sizeLine then some (.tuple ds) else none) (aC (eV 12) (aC (eV 6) aN))) (lA pTup (aC (l2 pAdd (eV 7) (eV 8)) aN))) (lA (fun ds => if ds.length ≤ sizeLine then some (.tuple ds) else none) (aC (eV 9) aN))) aN))))))) (frz 8 η))) (frz 7 η)))))
section
variable {ns : List Int} (hn : ns.length ≤ 63)
include hn
theorem two_ok {f : En → Option PyData} {η : En} {mp : List (Option Nat)} (lo hi : Int) (h : ∀ k : Nat, k < 2 → ∃ y, (lo ≤ y ∧ y ≤ hi) ∧ f ((inEn mp η).set 0 (.val (.int (0 + (k : Nat))))) = some (.int y)) : ∃ a b : Int, ((lo ≤ a ∧ a ≤ hi) ∧ (lo ≤ b ∧ b ≤ hi)) ∧ sComp mp (fun η => ((aC (eC (.int 2)) aN) η).bind rng1) (tgN 0) tTrue f η = some [.int a, .int b] := by
  obtain ⟨a, ha, ea⟩ := h 0 (by decide)
  obtain ⟨b, hb, eb⟩ := h 1 (by decide)
  refine ⟨a, b, ⟨ha, hb⟩, comp_eq (ds := rngL 0 2) (rng1_ok (j := 2) (by decide) (by decide)) (by decide) ?_⟩
  have := cGo_map (t := tgN 0) (p := tTrue) (f := f) (η := inEn mp η) (fun (k : Nat) => PyData.int (0 + (k : Nat))) (fun _ => true) (fun k => .int (if k = 0 then a else b)) (List.range 2) fun k hk => by
    refine ⟨_, rfl, rfl, fun _ => ?_⟩
    have hk := List.mem_range.mp hk
    rcases (show k = 0 ∨ k = 1 by omega) with rfl | rfl
    · exact ea
    · exact eb
  exact this
theorem scene_ok {a0 : Int} (ha : 0 ≤ a0) : ∃ (c : Dr) (tn : Nat), c.Ok ∧ c.nm = nmT tn ∧ c.ps.length ≤ 7 ∧ F__law_scene [Sd ns, .int a0] = some c.d := by
  obtain ⟨tn, htn, et⟩ := drawn_ok hn (k := a0 + 1) (m := 8) (by omega) (by decide)
  obtain ⟨n, hnn, en⟩ := drawn_ok hn (k := a0) (m := 8) ha (by decide)
  have main := sGo_rng (t := tgN 4) (body := sBody F__law_drawn) (fun k η => ∃ (c : Dr) (s4 s5 s6 s7 s8 s9 s10 s11 s12 : Sl), c.Ok ∧ c.nm = nmT tn ∧ c.ps.length = k ∧ η = [.val (Sd ns), .val (.int a0), .val c.d, .val (.int tn), s4, s5, s6, s7, s8, s9, s10, s11, s12]) n ?st
    (η := [.val (Sd ns), .val (.int a0), .val (.tuple []), .val (.int tn), .un, .un, .un, .un, .un, .un, .un, .un, .un]) ⟨⟨[], nmT tn, fun _ => 0, fun _ => 0, fun _ => 0, fun _ => 0, fun _ => ""⟩, .un, .un, .un, .un, .un, .un, .un, .un, .un,
      ⟨nmT_inj tn, rfl, nmT_ok tn, fun _ => nmT_ok 0 0, by simp, fun _ => by simp, fun _ => by show bd 0 0 0 0; unfold bd; decide, fun _ => ⟨[false, false, false, false], rfl, by show ("" : Str) = mkS [false, false, false, false]; decide +kernel⟩⟩, rfl, rfl, rfl⟩
  case st =>
    rintro k η hk ⟨c, s4, s5, s6, s7, s8, s9, s10, s11, s12, hc, hnm, hlen, rfl⟩
    have hk7 : k < 7 := by omega
    refine ⟨[.val (Sd ns), .val (.int a0), .val c.d, .val (.int tn), .val (.int (0 + (k : Nat))), s5, s6, s7, s8, s9, s10, s11, s12], ?_⟩
    have hh : l2 pAdd (l2 pAdd (eV 1) (eC (.int 3))) (l2 pMul (eC (.int 9)) (eV 4)) [.val (Sd ns), .val (.int a0), .val c.d, .val (.int tn), .val (.int (0 + (k : Nat))), s5, s6, s7, s8, s9, s10, s11, s12] = some (.int (a0 + 3 + 9 * (0 + (k : Nat)))) :=
      l2_of (l2_of rfl rfl rfl) (l2_of rfl rfl (pMul_ok (mulL (by decide) (by decide)))) rfl
    generalize hhe : (a0 + 3 + 9 * (0 + (k : Nat)) : Int) = hr at hh
    have hr0 : 0 ≤ hr := by omega
    obtain ⟨p, hp, ep⟩ := drawn_ok hn (k := hr) (m := 0 + (k : Nat) + 1) hr0 (by omega)
    have hp' : p ≤ k := by omega
    have ea : l2 pIx (l2 pAdd (oE (fun η => ((aC (eC (.str "")) aN) η).bind gL)) (oE (sComp [none] (lI asTu (eV 2)) (tgN 0) tTrue (l2 pIx (eV 0) (eC (.int 0)))))) (lA F__law_drawn (aC (eV 0) (aC (eV 5) (aC (l2 pAdd (eV 4) (eC (.int 1))) aN))))
        [.val (Sd ns), .val (.int a0), .val c.d, .val (.int tn), .val (.int (0 + (k : Nat))), .val (.int hr), s6, s7, s8, s9, s10, s11, s12] = some (c.s p) := by
      have e1 : oE (fun η => ((aC (eC (.str "")) aN) η).bind gL) [.val (Sd ns), .val (.int a0), .val c.d, .val (.int tn), .val (.int (0 + (k : Nat))), .val (.int hr), s6, s7, s8, s9, s10, s11, s12] = some (.list [c.s 0]) := by
        refine oE_of ?_
        show gL [.str ""] = _
        rw [gL_ok (by decide)]
        unfold Dr.s
        rw [hc.top]
      have e2 : oE (sComp [none] (lI asTu (eV 2)) (tgN 0) tTrue (l2 pIx (eV 0) (eC (.int 0)))) [.val (Sd ns), .val (.int a0), .val c.d, .val (.int tn), .val (.int (0 + (k : Nat))), .val (.int hr), s6, s7, s8, s9, s10, s11, s12] = some (.list ((List.range k).map fun i => c.s (i + 1))) := by
        refine oE_of (comp_eq (ds := (List.range c.ps.length).map c.box) rfl (by rw [List.length_map, List.length_range]; omega) ?_)
        rw [hlen]
        have := cGo_map (t := tgN 0) (p := tTrue) (f := l2 pIx (eV 0) (eC (.int 0))) (η := [.un]) c.box (fun _ => true) (fun i => c.s (i + 1)) (List.range k) fun i _ => ⟨_, rfl, rfl, fun _ => rfl⟩
        rw [show (List.range k).filter (fun _ => true) = List.range k by simp] at this
        exact this
      refine l2_of (l2_of e1 e2 (addL (by simp; omega))) (lA_of (aC_of rfl (aC_of rfl (aC_of (l2_of rfl rfl rfl) rfl))) ep) ?_
      show atI ([c.s 0] ++ (List.range k).map fun i => c.s (i + 1)) (p : Int) = _
      refine atI_nat ?_
      cases p with
      | zero => rfl
      | succ j =>
        show ((List.range k).map fun i => c.s (i + 1))[j]? = _
        rw [List.getElem?_map, List.getElem?_range (by omega)]
        rfl
    obtain ⟨pa, pb, hbp, epl⟩ := two_ok hn (-3) 5 (mp := [none, some 0, some 5]) (f := l2 pSub (lA F__law_drawn (aC (eV 1) (aC (l2 pAdd (l2 pAdd (eV 2) (eC (.int 1))) (eV 0)) (aC (eC (.int 9)) aN)))) (eC (.int 3)))
      (η := [.val (Sd ns), .val (.int a0), .val c.d, .val (.int tn), .val (.int (0 + (k : Nat))), .val (.int hr), .val (c.s p), s7, s8, s9, s10, s11, s12]) fun j hj => by
        obtain ⟨r, hr9, er⟩ := drawn_ok hn (k := hr + 1 + (0 + (j : Nat))) (m := 9) (by omega) (by decide)
        exact ⟨(r : Int) - 3, by omega, l2_of (lA_of (aC_of rfl (aC_of (l2_of (l2_of rfl rfl rfl) rfl rfl) (aC_of rfl rfl))) er) rfl rfl⟩
    obtain ⟨sa, sb, hbs, esz⟩ := two_ok hn 0 8 (mp := [none, some 0, some 5]) (f := lA F__law_drawn (aC (eV 1) (aC (l2 pAdd (l2 pAdd (eV 2) (eC (.int 3))) (eV 0)) (aC (eC (.int 9)) aN))))
      (η := [.val (Sd ns), .val (.int a0), .val c.d, .val (.int tn), .val (.int (0 + (k : Nat))), .val (.int hr), .val (c.s p), .val (.list [.int pa, .int pb]), s8, s9, s10, s11, s12]) fun j hj => by
        obtain ⟨r, hr9, er⟩ := drawn_ok hn (k := hr + 3 + (0 + (j : Nat))) (m := 9) (by omega) (by decide)
        exact ⟨(r : Int), by omega, lA_of (aC_of rfl (aC_of (l2_of (l2_of rfl rfl rfl) rfl rfl) (aC_of rfl rfl))) er⟩
    obtain ⟨m, u, v, hm, em⟩ := marks_ok hn (x1 := .val (.int a0)) (x2 := .val c.d) (x3 := .val (.int tn)) (x4 := .val (.int (0 + (k : Nat)))) (x6 := .val (c.s p)) (x7 := .val (.list [.int pa, .int pb])) (x8 := .val (.list [.int sa, .int sb])) hr0 s10 s11 s12
    have enm : l2 pIx (eC (.str "dbgahcfe")) (l2 pMod (l2 pAdd (eV 4) (eV 3)) (eC (.int 8))) [.val (Sd ns), .val (.int a0), .val c.d, .val (.int tn), .val (.int (0 + (k : Nat))), .val (.int hr), .val (c.s p), .val (.list [.int pa, .int pb]), .val (.list [.int sa, .int sb]), .val (.str m), u, v, s12] = some (c.s (k + 1)) := by
      refine l2_of rfl (l2_of (l2_of rfl rfl rfl) rfl (pMod_ok (by decide))) ?_
      show (if ("dbgahcfe" : Str).length ≤ sizeLine then (atI ("dbgahcfe" : Str).cps.toList ((0 + (k : Nat) + (tn : Int)) % 8)).bind _ else none) = _
      rw [if_pos dbg_len, dbg]
      have e8 : ((0 + (k : Nat) + (tn : Int)) % 8 : Int) = (((k + tn) % 8 : Nat) : Int) := by omega
      have hlt : (k + tn) % 8 < 8 := Nat.mod_lt _ (by decide)
      rw [e8, atI_nat (v := let8.getD ((k + tn) % 8) 0) (by rw [List.getD_eq_getElem?_getD, List.getElem?_eq_getElem (show (k + tn) % 8 < let8.length from hlt)]; rfl)]
      unfold Dr.s
      rw [hnm, nmT_lo (by omega)]
      rfl
    have hcd : c.d = .tuple ((List.range c.ps.length).map c.box) := rfl
    have efin : l2 pAdd (eV 2) (lA (fun ds => if ds.length ≤ sizeLine then some (.tuple ds) else none) (aC (l2 pAdd (l2 pAdd (lA (fun ds => if ds.length ≤ sizeLine then some (.tuple ds) else none) (aC (eV 12) (aC (eV 6) aN))) (lA pTup (aC (l2 pAdd (eV 7) (eV 8)) aN))) (lA (fun ds => if ds.length ≤ sizeLine then some (.tuple ds) else none) (aC (eV 9) aN))) aN))
        [.val (Sd ns), .val (.int a0), .val c.d, .val (.int tn), .val (.int (0 + (k : Nat))), .val (.int hr), .val (c.s p), .val (.list [.int pa, .int pb]), .val (.list [.int sa, .int sb]), .val (.str m), u, v, .val (c.s (k + 1))] = some (c.more p pa pb sa sb m).d := by
      rw [Dr.more_d]
      refine l2_of (x := c.d) rfl (lA_of (aC_of (l2_of (l2_of (lA_of (aC_of rfl (aC_of rfl rfl)) (tup1_ok (by simp))) (lA_of (aC_of (l2_of rfl rfl (addL (by simp))) rfl) rfl) (addT (by simp))) (lA_of (aC_of rfl rfl) (tup1_ok (by simp))) (addT (by simp))) rfl) (tup1_ok (by simp))) ?_
      rw [hcd]
      refine (addT (by simp; omega)).trans ?_
      rw [hlen]
      rfl
    refine ⟨[.val (Sd ns), .val (.int a0), .val (c.more p pa pb sa sb m).d, .val (.int tn), .val (.int (0 + (k : Nat))), .val (.int hr), .val (c.s p), .val (.list [.int pa, .int pb]), .val (.list [.int sa, .int sb]), .val (.str m), u, v, .val (c.s (k + 1))], rfl, ?_,
      c.more p pa pb sa sb m, _, _, _, _, _, _, _, _, _, Dr.more_ok hc (by omega) (by omega) pa pb sa sb hm.1 ⟨hbp.1, hbp.2, hbs.1, hbs.2⟩ hm.2, hnm, by simp [Dr.more, hlen], rfl⟩
    refine seq_of (set_of hh) (seq_of (set_of ea) (seq_of (setO_of epl) ?_))
    refine seq_of (setO_of esz) ?_
    refine seq_of (set_of rfl) (seq_of em (seq_of (set_of enm) (set_of efin)))
  obtain ⟨η', e1, c, s4, s5, s6, s7, s8, s9, s10, s11, s12, hc, hnm, hlen, rfl⟩ := main
  refine ⟨c, tn, hc, hnm, by omega, ?_⟩
  unfold F__law_scene runF
  rw [if_pos (by rfl)]
  show Option.bind (g__law_scene F__law_drawn [.val (Sd ns), .val (.int a0), .un, .un, .un, .un, .un, .un, .un, .un, .un, .un, .un]) _ = _
  have e2 : g__law_scene F__law_drawn [.val (Sd ns), .val (.int a0), .un, .un, .un, .un, .un, .un, .un, .un, .un, .un, .un] = some (.rt c.d) := by
    refine seq_of (set_of (lA_of rfl (tup1_ok (by decide)))) (seq_of (set_of (lA_of (aC_of rfl (aC_of (l2_of rfl rfl rfl) (aC_of rfl rfl))) et)) (seq_of (for_of ?_ e1) rfl))
    show Option.bind (aC (lA F__law_drawn _) aN _) rng1 = _
    rw [aC_of (lA_of (aC_of rfl (aC_of rfl (aC_of rfl rfl))) en) rfl]
    rw [Option.bind_some, rng1_ok (by omega) (by omega), Int.toNat_natCast]
  rw [e2]; rfl
end
end K55
namespace K55
open PySem L2 L2.PU
theorem shaped_strs {ss : List Str} (h : ∀ s ∈ ss, PyData.strOk s = true) : SeqAt.shaped (.list (ss.map PyData.str)) = true := by
  have h1 : PyData.canLayAll0 (ss.map PyData.str) = true := by
    induction ss with
    | nil => rfl
    | cons x r ih => simp [PyData.canLayAll0, PyData.canLay0, h x List.mem_cons_self, ih fun s hs => h s (List.mem_cons_of_mem _ hs)]
  have h2 : PyData.depthAll (ss.map PyData.str) = 0 := by
    clear h h1
    induction ss with
    | nil => rfl
    | cons x r ih => simp [PyData.depthAll, PyData.depth, ih]
  simp [SeqAt.shaped, PyData.canLay0, PyData.depth, h1, h2]
theorem ifF {c : En → Option Bool} {f g : En → Option Out} {η : En} (h : c η = some false) : sIf c f g η = g η := by
  rw [if_of h]; rfl
theorem vIf_of {c : En → Option Bool} {f g : En → Option PyData} {η : En} {b : Bool} (h : c η = some b) : vIf c f g η = if b = true then f η else g η := by
  unfold vIf
  rw [h]; rfl
theorem lI_of {k : PyData → Option (List PyData)} {f : En → Option PyData} {η : En} {d : PyData} {ds : List PyData} (h : f η = some d) (h2 : k d = some ds) : lI k f η = some ds := by
  unfold lI
  rw [h]; exact h2
end K55
namespace K55
open PySem L2 L2.PU
section
variable {c : Sc} (h : c.Ok)
include h
theorem F_area_eq {q p : Nat} {l : List Nat} (h1 : parN c.st q = some p) (e : pthN c.st 13 q = some l) (pr : Nat → Nat) (hl : ∀ x ∈ l, parN c.st x = some (pr x)) (hz : l.length ≤ 3000000) :
    F_area_of [c.d, c.s q] = some (.tuple [.int ((l.map fun x => c.L x).sum), .int ((l.map fun x => c.T x).sum), .int ((l.map fun x => c.L x).sum + c.W q), .int ((l.map fun x => c.T x).sum + c.H q)]) := by
  unfold F_area_of runF
  rw [if_pos (by rfl)]
  show (g_area_of (F_path_of 13) F_box_of [.val c.d, .val (c.s q), .un, .un, .un, .un]).bind _ = _
  have all : ∀ l : List Nat, l.filter (fun _ => true) = l := fun l => by simp
  have e0 : sComp [none, some 0] (lI asL (lA (F_path_of 13) (aC (eV 0) (aC (eV 1) aN)))) (tgN 0) tTrue (lA F_box_of (aC (eV 1) (aC (eV 0) aN))) [.val c.d, .val (c.s q), .un, .un, .un, .un] = some (l.map fun x => c.box (x, pr x)) := by
    show Option.bind (Option.bind (F_path_of 13 [c.d, c.s q]) asL) _ = _
    rw [F_path_eq h 13 q l e]
    show (if (l.map c.s).length ≤ sizeLine then _ else _) = _
    rw [if_pos (by rw [List.length_map]; exact big hz)]
    have := cGo_map (t := tgN 0) (p := tTrue) (f := lA F_box_of (aC (eV 1) (aC (eV 0) aN))) (η := [.un, .val c.d]) c.s (fun _ => true) (fun x => c.box (x, pr x)) l fun x hx => ⟨_, rfl, rfl, fun _ => F_box_eq h (hl x hx)⟩
    rw [all] at this
    exact this
  have sm : ∀ (k : Int) (Y : Nat → Int) (η : En), (∀ x, (l2 pIx (eV 0) (eC (.int k))) [.val (c.box (x, pr x))] = some (.int (Y x))) → eV 2 η = some (.list (l.map fun x => c.box (x, pr x))) →
      lA pSum (aC (oE (sComp [none] (lI asL (eV 2)) (tgN 0) tTrue (l2 pIx (eV 0) (eC (.int k))))) aN) η = some (.int ((l.map fun x => Y x).sum)) := fun k Y η hY hη => by
    have e1 : sComp [none] (lI asL (eV 2)) (tgN 0) tTrue (l2 pIx (eV 0) (eC (.int k))) η = some ((l.map fun x => Y x).map PyData.int) := by
      show Option.bind (Option.bind (eV 2 η) asL) _ = _
      rw [hη]
      show (if (l.map fun x => c.box (x, pr x)).length ≤ sizeLine then _ else _) = _
      rw [if_pos (by rw [List.length_map]; exact big hz)]
      have := cGo_map (t := tgN 0) (p := tTrue) (f := l2 pIx (eV 0) (eC (.int k))) (η := inEn [none] η) (fun x => c.box (x, pr x)) (fun _ => true) (fun x => .int (Y x)) l fun x hx => ⟨_, rfl, rfl, fun _ => hY x⟩
      rw [all] at this
      rw [List.map_map]
      exact this
    show Option.bind (Option.bind (Option.bind (sComp _ _ _ _ _ η) _) _) _ = _
    rw [e1]
    show pSum [.list ((l.map fun x => Y x).map PyData.int)] = _
    unfold pSum
    dsimp only
    rw [asIs_ints]; rfl
  unfold g_area_of sSeq sSetO
  rw [e0]
  have s1 := sm 2 c.L [.val c.d, .val (c.s q), .val (.list (l.map fun x => c.box (x, pr x))), .un, .un, .un] (fun _ => rfl) rfl
  have s2 := sm 3 c.T [.val c.d, .val (c.s q), .val (.list (l.map fun x => c.box (x, pr x))), .val (.int ((l.map fun x => c.L x).sum)), .un, .un] (fun _ => rfl) rfl
  have s3 := F_box_eq h h1
  show Option.bind (Option.bind (sSet 3 _ [.val c.d, .val (c.s q), .val (.list (l.map fun x => c.box (x, pr x))), .un, .un, .un]) _) _ = _
  unfold sSet
  rw [s1, Option.bind_some, Option.bind_some]
  show Option.bind (Option.bind (Option.bind (lA pSum _ [.val c.d, .val (c.s q), .val (.list (l.map fun x => c.box (x, pr x))), .val (.int ((l.map fun x => c.L x).sum)), .un, .un]) _) _) _ = _
  rw [s2, Option.bind_some, Option.bind_some]
  show Option.bind (Option.bind (Option.bind (F_box_of [c.d, c.s q]) _) _) _ = _
  rw [s3]
  rfl
end
end K55
namespace K55
open PySem L2 L2.PU
theorem bind_of {α β : Type} {o : Option α} {k : α → Option β} {x : α} {r : Option β} (h : o = some x) (h2 : k x = r) : o.bind k = r := by
  rw [h]; exact h2
theorem l1_of {o : PyData → Option PyData} {f : En → Option PyData} {η : En} {x d : PyData} (h1 : f η = some x) (h2 : o x = some d) : l1 o f η = some d := by
  unfold l1
  rw [h1]; exact h2
theorem pNe_self {d : PyData} (h : SeqAt.shaped d = true) : pNe d d = some (.bool false) := by
  unfold pNe
  rw [if_pos ⟨h, h⟩, SeqAt.eqv_refl d (SeqAt.canLay_of_shaped h)]; rfl
theorem ifN {c : En → Option Bool} {f : En → Option Out} {η : En} (h : c η = some false) : sIf c f sNx η = some (.nx η) := by
  rw [ifF h]; rfl
theorem bNot_of {f : En → Option Bool} {η : En} {b : Bool} (h : f η = some b) : bNot f η = some (!b) := by
  unfold bNot
  rw [h]; rfl
theorem bAnd_of {f g : En → Option Bool} {η : En} {a b : Bool} (h1 : f η = some a) (h2 : g η = some b) : bAnd f g η = some (a && b) := by
  unfold bAnd
  rw [h1]
  cases a with
  | false => rfl
  | true => exact h2
theorem vNot_of {f : En → Option PyData} {η : En} {b : Bool} (h : f η = some (.bool b)) : vNot f η = some (.bool (!b)) := by
  unfold vNot
  rw [h]; rfl
theorem vAnd_of {f g : En → Option PyData} {η : En} {a b : Bool} (h1 : f η = some (.bool a)) (h2 : g η = some (.bool b)) : vAnd f g η = some (.bool (a && b)) := by
  unfold vAnd
  rw [h1]
  cases a with
  | false => rfl
  | true => exact h2
theorem lch_of {f g h : En → Option PyData} {η : En} {i j k : Int} (hf : f η = some (.int i)) (hg : g η = some (.int j)) (hh : h η = some (.int k)) : lch pLe pLt f g h η = some (.bool (decide (i ≤ j) && decide (j < k))) := by
  have e1 : pLe (.int i) (.int j) = some (.bool (decide (i ≤ j))) := rfl
  have e2 : pLt (.int j) (.int k) = some (.bool (decide (j < k))) := rfl
  unfold lch
  rw [hf, Option.bind_some, hg, Option.bind_some, e1, Option.bind_some]
  show (if decide (i ≤ j) = true then (h η).bind fun w => pLt (.int j) w else some (.bool false)) = _
  cases decide (i ≤ j) with
  | false => rfl
  | true => rw [if_pos rfl, hh, Option.bind_some, e2]; rfl
theorem run_of {n m : Nat} {g : En → Option Out} {ds : List PyData} {d : PyData} (hl : ds.length = n) (h : g (ds.map Sl.val ++ List.replicate (m - n) .un) = some (.rt d)) : runF n m g ds = some d := by
  unfold runF
  rw [if_pos hl, h]; rfl
theorem ret_of {f : En → Option PyData} {η : En} {d : PyData} (h : f η = some d) : sRet f η = some (.rt d) := by
  unfold sRet
  rw [h]; rfl
theorem cGo_mapT {ι : Type} {t : En → PyData → Option En} {f : En → Option PyData} {η : En} (D : ι → PyData) (Y : ι → PyData) (xs : List ι) (h : ∀ x ∈ xs, ∃ η1, t η (D x) = some η1 ∧ f η1 = some (Y x)) : cGo t tTrue f η (xs.map D) = some (xs.map Y) := by
  have := cGo_map (t := t) (p := tTrue) (f := f) (η := η) D (fun _ => true) Y xs fun x hx => by
    obtain ⟨η1, h1, h2⟩ := h x hx
    exact ⟨η1, h1, rfl, fun _ => h2⟩
  rw [show xs.filter (fun _ => true) = xs by simp] at this
  exact this
theorem pAny_of (bs : List Bool) : pAny [.list (bs.map PyData.bool)] = some (.bool (bs.any id)) := by
  unfold pAny pBools
  dsimp only
  rw [asBs_bools]; rfl
theorem pMax_of (i j : Int) : pMax [.int i, .int j] = some (.int (max i j)) := by
  show some (PyData.int (if j > i then j else i)) = _
  have : (if j > i then j else i) = max i j := by split <;> omega
  rw [this]
theorem pMin_of (i j : Int) : pMin [.int i, .int j] = some (.int (min i j)) := by
  show some (PyData.int (if j < i then j else i)) = _
  have : (if j < i then j else i) = min i j := by split <;> omega
  rw [this]
noncomputable def inM (s m : Str) : Bool := !(Builtin.Str.occurrences m s 0 m.length 1).isEmpty
theorem pIn_m (neg : Bool) (s m : Str) : pIn neg (.str s) (.str m) = some (.bool (if neg then !inM s m else inM s m)) := rfl
noncomputable def Sc.geo (c : Sc) : Geo := ⟨c.L, c.T, c.W, c.H, fun q => inM "c" (c.mr q), fun q => inM "h" (c.mr q), fun q => inM "l" (c.mr q)⟩
noncomputable def arD (a : Ar) : PyData := .tuple [.int a.1, .int a.2.1, .int a.2.2.1, .int a.2.2.2]
structure Tr (c : Sc) (ps : List Nat) (D : Nat → Prop) (pnt : List Nat) : Prop where
  ok : c.Ok
  din : ∀ q, D q → In ps q
  par : ∀ q, D q → parN c.st q = some (K55.par ps q)
  path : ∀ q, D q → pthN c.st 13 q = some (P ps q)
  up : ∀ q, D q → ∀ x ∈ P ps q, D x
  pn : pntN c.st = some pnt
  pd : ∀ q ∈ pnt, D q
  pl : pnt.length ≤ 2000000
  ps : PsOk ps
theorem P_len {ps : List Nat} (q : Nat) : (P ps q).length ≤ q := pF_len q q
theorem not_any (h : Nat → Bool) : ∀ l : List Nat, (!(l.map h).any id) = l.all fun x => !h x
  | [] => rfl
  | x :: r => by
    have := not_any h r
    rw [List.map_cons, List.any_cons, List.all_cons, ← this]
    cases h x <;> simp
section
variable {c : Sc} {ps : List Nat} {D : Nat → Prop} {pnt : List Nat} (t : Tr c ps D pnt)
include t
theorem T_box {q : Nat} (hq : D q) : F_box_of [c.d, c.s q] = some (c.box (q, par ps q)) := F_box_eq t.ok (t.par q hq)
theorem T_path {q : Nat} (hq : D q) : F_path_of 13 [c.d, c.s q] = some (c.S (P ps q)) := F_path_eq t.ok 13 q _ (t.path q hq)
theorem in_7 {q : Nat} (hq : D q) : q ≤ 7 := Nat.le_trans (t.din q hq).2 t.ps.len
theorem P_7 {q : Nat} (hq : D q) : (P ps q).length ≤ 7 := Nat.le_trans (P_len q) (in_7 t hq)
theorem T_area {q : Nat} (hq : D q) : F_area_of [c.d, c.s q] = some (arD (c.geo.area ps q)) :=
  F_area_eq t.ok (t.par q hq) (t.path q hq) (par ps) (fun x hx => t.par x (t.up q hq x hx)) (by have := P_7 t hq; omega)
theorem T_painted : F_painted [c.d] = some (c.S pnt) := F_painted_eq t.ok t.pn
theorem T_mark {q : Nat} (hq : D q) (m : Str) : F_has_mark [c.d, c.s q, .str m] = some (.bool (inM m (c.mr q))) :=
  run_of rfl (show g_has_mark F_box_of [.val c.d, .val (c.s q), .val (.str m)] = _ from ret_of (l2_of rfl (l2_of (lA_of (aC_of rfl (aC_of rfl rfl)) (T_box t hq)) rfl rfl) rfl))
theorem T_shown {q : Nat} (hq : D q) : F_is_shown [c.d, c.s q] = some (.bool (c.geo.shown ps q)) := by
  have e : sComp [none, some 0] (lI asL (lA (F_path_of 13) (aC (eV 0) (aC (eV 1) aN)))) (tgN 0) tTrue (lA F_has_mark (aC (eV 1) (aC (eV 0) (aC (eC (.str "h")) aN)))) [.val c.d, .val (c.s q)] = some (((P ps q).map c.geo.h).map PyData.bool) := by
    refine comp_eq (ds := (P ps q).map c.s) (lI_of (lA_of (aC_of rfl (aC_of rfl rfl)) (T_path t hq)) rfl) (by rw [List.length_map]; have := P_7 t hq; omega) ?_
    rw [List.map_map]
    exact cGo_mapT (η := [.un, .val c.d]) c.s (fun x => .bool (c.geo.h x)) (P ps q) fun x hx => ⟨[.val (c.s x), .val c.d], rfl, lA_of (aC_of rfl (aC_of rfl (aC_of rfl rfl))) (T_mark t (t.up q hq x hx) "h")⟩
  have e2 := vNot_of (lA_of (aC_of (g := aN) (oE_of e) rfl) (pAny_of _))
  rw [not_any] at e2
  exact run_of rfl (show g_is_shown (F_path_of 13) F_has_mark [.val c.d, .val (c.s q)] = _ from ret_of e2)
omit t in
theorem T_over (a b : Ar) : F_overlap [arD a, arD b] = some (arD (ovl a b)) :=
  run_of rfl (show g_overlap [.val (arD a), .val (arD b), .un, .un] = _ from
    seq_of (set_of (lA_of (aC_of (l2_of rfl rfl rfl) (aC_of (l2_of rfl rfl rfl) rfl)) (pMax_of _ _)))
      (seq_of (set_of (lA_of (aC_of (l2_of rfl rfl rfl) (aC_of (l2_of rfl rfl rfl) rfl)) (pMax_of _ _)))
        (ret_of (lA_of (aC_of rfl (aC_of rfl (aC_of (lA_of (aC_of (l2_of rfl rfl rfl) (aC_of (l2_of rfl rfl rfl) rfl)) (pMin_of _ _)) (aC_of (lA_of (aC_of (l2_of rfl rfl rfl) (aC_of (l2_of rfl rfl rfl) rfl)) (pMin_of _ _)) rfl)))) (tup1_ok (by simp))))))
omit t in
theorem T_point (a : Ar) (x y : Int) : F_has_point [arD a, .int x, .int y] = some (.bool (hasP a x y)) :=
  run_of rfl (show g_has_point [.val (arD a), .val (.int x), .val (.int y)] = _ from
    ret_of (vAnd_of (lch_of (l2_of rfl rfl rfl) rfl (l2_of rfl rfl rfl)) (lch_of (l2_of rfl rfl rfl) rfl (l2_of rfl rfl rfl))))
theorem wnd_go {x1 : Sl} : ∀ (l : List Nat) (w : Ar) (s3 : Sl), (∀ x ∈ l, D x) → ∃ s3', sGo (tgN 3) (sIf (bT (lA F_has_mark (aC (eV 0) (aC (eV 3) (aC (eC (.str "c")) aN))))) (sSet 2 (lA F_overlap (aC (eV 2) (aC (lA F_area_of (aC (eV 0) (aC (eV 3) aN))) aN)))) sNx)
    (l.map c.s) [.val c.d, x1, .val (arD w), s3] = some (.nx [.val c.d, x1, .val (arD (wndL c.geo ps l w)), s3'])
  | [], w, s3, _ => ⟨s3, rfl⟩
  | x :: r, w, s3, h => by
    have hx := h x List.mem_cons_self
    obtain ⟨s3', ih⟩ := wnd_go r (if c.geo.c x = true then ovl w (c.geo.area ps x) else w) (.val (c.s x)) fun y hy => h y (List.mem_cons_of_mem _ hy)
    refine ⟨s3', ?_⟩
    rw [List.map_cons]
    unfold sGo wndL
    have eb : bT (lA F_has_mark (aC (eV 0) (aC (eV 3) (aC (eC (.str "c")) aN)))) [.val c.d, x1, .val (arD w), .val (c.s x)] = some (c.geo.c x) := bT_of (lA_of (aC_of rfl (aC_of rfl (aC_of rfl rfl))) (T_mark t hx "c"))
    show Option.bind (sIf _ _ _ [.val c.d, x1, .val (arD w), .val (c.s x)]) _ = _
    have e1 : sIf (bT (lA F_has_mark (aC (eV 0) (aC (eV 3) (aC (eC (.str "c")) aN))))) (sSet 2 (lA F_overlap (aC (eV 2) (aC (lA F_area_of (aC (eV 0) (aC (eV 3) aN))) aN)))) sNx [.val c.d, x1, .val (arD w), .val (c.s x)]
        = some (.nx [.val c.d, x1, .val (arD (if c.geo.c x = true then ovl w (c.geo.area ps x) else w)), .val (c.s x)]) := by
      rw [if_of eb]
      cases c.geo.c x with
      | false => rfl
      | true =>
        rw [if_pos rfl, if_pos rfl]
        exact set_of (lA_of (aC_of rfl (aC_of (lA_of (aC_of rfl (aC_of rfl rfl)) (T_area t hx)) rfl)) (T_over w _))
    rw [e1, Option.bind_some]
    exact ih
theorem T_window {q : Nat} (hq : D q) : F_window_of [c.d, c.s q] = some (arD (c.geo.wnd ps q)) := by
  obtain ⟨s3, e⟩ := wnd_go t (x1 := .val (c.s q)) (P ps q) (c.geo.area ps q) .un fun x hx => t.up q hq x hx
  exact run_of rfl (show g_window_of F_area_of (F_path_of 13) F_has_mark F_overlap [.val c.d, .val (c.s q), .un, .un] = _ from
    seq_of (set_of (lA_of (aC_of rfl (aC_of rfl rfl)) (T_area t hq))) (seq_of (for_of (lI_of (lA_of (aC_of rfl (aC_of rfl rfl)) (T_path t hq)) rfl) e) (ret_of rfl)))
omit t in
noncomputable def tkD (c : Sc) (ps : List Nat) (q : Nat) : PyData := .tuple [c.s q, arD (c.geo.wnd ps q)]
theorem kid_in {q : Nat} (h : q ∈ pnt.reverse.filter (c.geo.shown ps)) : D q := t.pd q (List.mem_reverse.mp (List.mem_filter.mp h).1)
theorem tk_in {q : Nat} (h : q ∈ tkL c.geo ps pnt) : D q := kid_in t (List.mem_filter.mp h).1
theorem T_takers : F_takers [c.d] = some (.list ((tkL c.geo ps pnt).map (tkD c ps))) := by
  have hk : pnt.length ≤ 3000000 := Nat.le_trans t.pl (by decide)
  have e1 : sComp [none, some 0] (fun η => ((aC (lA F_painted (aC (eV 0) aN)) aN) η).bind rvS) (tgN 0) (bT (lA F_is_shown (aC (eV 1) (aC (eV 0) aN)))) (eV 0) [.val c.d, .un] = some ((pnt.reverse.filter (c.geo.shown ps)).map c.s) := by
    refine comp_eq (ds := pnt.reverse.map c.s) ?_ (by rw [List.length_map, List.length_reverse]; exact hk) ?_
    · refine bind_of (aC_of (lA_of (aC_of rfl rfl) (T_painted t)) rfl) ?_
      show some ((List.map c.s _).reverse) = _
      rw [List.map_reverse]
    · exact cGo_map (η := [.un, .val c.d]) c.s (c.geo.shown ps) c.s _ fun x hx => ⟨[.val (c.s x), .val c.d], rfl, bT_of (lA_of (aC_of rfl (aC_of rfl rfl)) (T_shown t (t.pd x (List.mem_reverse.mp hx)))), fun _ => rfl⟩
  have e2 : sComp [none, some 0] (lI asL (eV 1)) (tgN 0) (bNot (bT (lA F_has_mark (aC (eV 1) (aC (eV 0) (aC (eC (.str "l")) aN)))))) (lA (fun ds => if ds.length ≤ sizeLine then some (.tuple ds) else none) (aC (eV 0) (aC (lA F_window_of (aC (eV 1) (aC (eV 0) aN))) aN)))
      [.val c.d, .val (.list ((pnt.reverse.filter (c.geo.shown ps)).map c.s))] = some ((tkL c.geo ps pnt).map (tkD c ps)) := by
    refine comp_eq (ds := (pnt.reverse.filter (c.geo.shown ps)).map c.s) (lI_of rfl rfl) ?_ ?_
    · rw [List.length_map]
      refine Nat.le_trans (List.length_filter_le ..) ?_
      rw [List.length_reverse]; exact hk
    · exact cGo_map (η := [.un, .val c.d]) c.s (fun q => !c.geo.l q) (tkD c ps) _ fun x hx => ⟨[.val (c.s x), .val c.d], rfl, bNot_of (bT_of (lA_of (aC_of rfl (aC_of rfl (aC_of rfl rfl))) (T_mark t (kid_in t hx) "l"))), fun _ => lA_of (aC_of rfl (aC_of (lA_of (aC_of rfl (aC_of rfl rfl)) (T_window t (kid_in t hx))) rfl)) (tup1_ok (by simp))⟩
  exact run_of rfl (show g_takers F_painted F_is_shown F_has_mark F_window_of [.val c.d, .un] = _ from seq_of (setO_of e1) (ret_of (oE_of e2)))
omit t in
noncomputable def hdD (c : Sc) : List Nat → PyData
  | [] => .none
  | q :: _ => c.s q
theorem first_go (x y : Int) {x0 : Sl} : ∀ (l : List Nat) (s3 s4 : Sl), (∀ q ∈ l, D q) →
    (l.filter (c.geo.tch ps x y) = [] → ∃ s3' s4', sGo (tgT (tgCons (tgN 3) (tgCons (tgN 4) tgNil))) (sIf (bT (lA F_has_point (aC (eV 4) (aC (eV 1) (aC (eV 2) aN))))) (sRet (eV 3)) sNx) (l.map (tkD c ps)) [x0, .val (.int x), .val (.int y), s3, s4] = some (.nx [x0, .val (.int x), .val (.int y), s3', s4']))
    ∧ (∀ q r, l.filter (c.geo.tch ps x y) = q :: r → sGo (tgT (tgCons (tgN 3) (tgCons (tgN 4) tgNil))) (sIf (bT (lA F_has_point (aC (eV 4) (aC (eV 1) (aC (eV 2) aN))))) (sRet (eV 3)) sNx) (l.map (tkD c ps)) [x0, .val (.int x), .val (.int y), s3, s4] = some (.rt (c.s q)))
  | [], s3, s4, _ => ⟨fun _ => ⟨s3, s4, rfl⟩, fun q r e => by cases e⟩
  | p :: l, s3, s4, h => by
    have hp := h p List.mem_cons_self
    have ih := first_go x y (x0 := x0) l (.val (c.s p)) (.val (arD (c.geo.wnd ps p))) fun q hq => h q (List.mem_cons_of_mem _ hq)
    have eb : bT (lA F_has_point (aC (eV 4) (aC (eV 1) (aC (eV 2) aN)))) [x0, .val (.int x), .val (.int y), .val (c.s p), .val (arD (c.geo.wnd ps p))] = some (c.geo.tch ps x y p) := by
      rw [← wnd_has t.ps (t.din p hp).1]
      exact bT_of (lA_of (aC_of rfl (aC_of rfl (aC_of rfl rfl))) (T_point _ x y))
    have es : sGo (tgT (tgCons (tgN 3) (tgCons (tgN 4) tgNil))) (sIf (bT (lA F_has_point (aC (eV 4) (aC (eV 1) (aC (eV 2) aN))))) (sRet (eV 3)) sNx) ((p :: l).map (tkD c ps)) [x0, .val (.int x), .val (.int y), s3, s4]
        = if c.geo.tch ps x y p = true then some (.rt (c.s p)) else sGo (tgT (tgCons (tgN 3) (tgCons (tgN 4) tgNil))) (sIf (bT (lA F_has_point (aC (eV 4) (aC (eV 1) (aC (eV 2) aN))))) (sRet (eV 3)) sNx) (l.map (tkD c ps)) [x0, .val (.int x), .val (.int y), .val (c.s p), .val (arD (c.geo.wnd ps p))] := by
      rw [List.map_cons]
      conv => lhs; unfold sGo
      show Option.bind (sIf _ _ _ [x0, .val (.int x), .val (.int y), .val (c.s p), .val (arD (c.geo.wnd ps p))]) _ = _
      rw [if_of eb]
      cases c.geo.tch ps x y p <;> rfl
    rw [es, List.filter_cons]
    cases c.geo.tch ps x y p with
    | false =>
      rw [if_neg Bool.false_ne_true, if_neg Bool.false_ne_true]
      exact ih
    | true =>
      rw [if_pos rfl, if_pos rfl]
      exact ⟨fun e => (by cases e), fun q r e => (by cases e; rfl)⟩
theorem T_first (x y : Int) : F_first_at [.list ((tkL c.geo ps pnt).map (tkD c ps)), .int x, .int y] = some (hdD c (hitL c.geo ps pnt x y)) := by
  have := first_go t x y (x0 := .val (.list ((tkL c.geo ps pnt).map (tkD c ps)))) (tkL c.geo ps pnt) .un .un fun q hq => tk_in t hq
  have eh : hitL c.geo ps pnt x y = (tkL c.geo ps pnt).filter (c.geo.tch ps x y) := rfl
  rw [eh]
  cases hh : (tkL c.geo ps pnt).filter (c.geo.tch ps x y) with
  | nil =>
    obtain ⟨s3, s4, e⟩ := this.1 hh
    exact run_of rfl (show g_first_at F_has_point [.val (.list ((tkL c.geo ps pnt).map (tkD c ps))), .val (.int x), .val (.int y), .un, .un] = _ from seq_of (for_of (lI_of rfl rfl) e) (ret_of rfl))
  | cons q r =>
    have e := this.2 q r hh
    refine run_of rfl (show g_first_at F_has_point [.val (.list ((tkL c.geo ps pnt).map (tkD c ps))), .val (.int x), .val (.int y), .un, .un] = _ from ?_)
    unfold g_first_at sSeq
    rw [for_of (r := some (.rt (c.s q))) (lI_of rfl rfl) e]
    rfl
end
end K55
namespace K55
open PySem L2 L2.PU
noncomputable def Dr.sc (c : Dr) : Sc := ⟨stF c.ps, c.nm, fun i => c.L (i - 1), fun i => c.T (i - 1), fun i => c.W (i - 1), fun i => c.H (i - 1), fun i => c.mr (i - 1)⟩
theorem Dr.sc_d (c : Dr) : c.sc.d = c.d := by
  unfold Sc.d Dr.d Dr.sc stF
  dsimp only
  rw [List.map_map]
  rfl
end K55
namespace K55
open PySem L2 L2.PU
structure TrS (c : Sc) (ps : List Nat) : Prop where
  ok : c.Ok
  st : c.st = stF ps
  ps : PsOk ps
theorem ifT {c : En → Option Bool} {f g : En → Option Out} {η : En} {r : Option Out} (h : c η = some true) (h2 : f η = r) : sIf c f g η = r := by
  unfold sIf
  rw [h]; exact h2
theorem parN_filter {q p : Nat} : ∀ {st : List (Nat × Nat)}, parN st q = some p → ∃ r, st.filter (fun x => decide (x.1 = q)) = (q, p) :: r
  | x :: r, h => by
    unfold parN at h
    by_cases e : x.1 = q
    · rw [if_pos e] at h
      cases h
      refine ⟨r.filter fun x => decide (x.1 = q), ?_⟩
      rw [List.filter_cons, if_pos (by simpa using e)]
      subst e; rfl
    · rw [if_neg e] at h
      obtain ⟨s, hs⟩ := parN_filter h
      refine ⟨s, ?_⟩
      rw [List.filter_cons, if_neg (by simpa using e), hs]
theorem ix0 (d : PyData) (l : List PyData) : pIx (.list (d :: l)) (.int 0) = some d := by
  show atI (d :: l) ((0 : Nat) : Int) = _
  exact atI_nat rfl
noncomputable def ptB (fn : List PyData → Option PyData) : En → Option Out :=
  sIf (bT (l2 pEq (l2 pIx (eV 3) (eC (.int 1))) (eV 1))) (sSet 2 (l2 pAdd (l2 pAdd (eV 2) (oE (fun η => ((aC (l2 pIx (eV 3) (eC (.int 0))) aN) η).bind gL))) (lA fn (aC (eV 0) (aC (l2 pIx (eV 3) (eC (.int 0))) aN))))) sNx
theorem can_ar : ∀ l : List Ar, PyData.canLayAll0 (l.map arD) = true
  | [] => rfl
  | x :: r => by
    rw [List.map_cons]
    unfold PyData.canLayAll0
    rw [can_ar r]
    simp [arD, PyData.canLay0, PyData.canLayAll0]
theorem dep_ar : ∀ l : List Ar, PyData.depthAll (l.map arD) ≤ 1
  | [] => Nat.zero_le _
  | x :: r => by
    rw [List.map_cons]
    unfold PyData.depthAll
    have := dep_ar r
    have h2 : PyData.depth (arD x) = 1 := by simp [arD, PyData.depth, PyData.depthAll]
    omega
theorem sh_ar (l : List Ar) : SeqAt.shaped (.list (l.map arD)) = true := by
  have := dep_ar l
  unfold SeqAt.shaped PyData.canLay0 PyData.depth
  rw [can_ar, Bool.true_and, decide_eq_true_eq]
  omega
theorem eq_nil {α : Type} (D : α → PyData) (l : List α) (hs : SeqAt.shaped (.list (l.map D)) = true) : pEq (.list (l.map D)) (.list []) = some (.bool (decide (l = []))) := by
  unfold pEq
  rw [if_pos ⟨hs, by rfl⟩]
  cases l with
  | nil => simp [PyData.eqv, PyData.eqvAll]
  | cons x r => simp [PyData.eqv, PyData.eqvAll]
theorem filt_all {α : Type} (p : α → Bool) : ∀ l : List α, decide (l.filter (fun x => !p x) = []) = l.all p
  | [] => by simp
  | x :: r => by
    have := filt_all p r
    rw [List.filter_cons, List.all_cons]
    cases hp : p x with
    | false => simp
    | true => simpa using this
section
variable {c : Sc} {ps : List Nat} (t : TrS c ps)
include t
theorem inS_7 {q : Nat} (hq : In ps q) : q ≤ 7 := Nat.le_trans hq.2 t.ps.len
theorem PS_7 {q : Nat} (hq : In ps q) : (P ps q).length ≤ 7 := Nat.le_trans (P_len q) (inS_7 t hq)
theorem L_box {q : Nat} (hq : In ps q) : F__law_box [c.d, c.s q] = some (c.box (q, par ps q)) := by
  obtain ⟨r, hr⟩ := parN_filter (parN_st (ps := ps) hq.1 hq.2)
  rw [← t.st] at hr
  have e : sComp [none, some 1] (lI asTu (eV 0)) (tgN 0) (bT (l2 pEq (l2 pIx (eV 0) (eC (.int 0))) (eV 1))) (eV 0) [.val c.d, .val (c.s q)] = some ((c.st.filter fun x => decide (x.1 = q)).map c.box) := by
    refine comp_eq (ds := c.st.map c.box) (lI_of rfl rfl) (by rw [List.length_map]; have := t.ok.len; omega) ?_
    exact cGo_map (η := [.un, .val (c.s q)]) c.box (fun x => decide (x.1 = q)) c.box c.st fun x _ => ⟨[.val (c.box x), .val (c.s q)], rfl, bT_of (l2_of (l2_of rfl rfl rfl) rfl (t.ok.eqs x.1 q)), fun _ => rfl⟩
  rw [hr, List.map_cons] at e
  exact run_of rfl (show g__law_box [.val c.d, .val (c.s q)] = _ from ret_of (l2_of (oE_of e) rfl (ix0 _ _)))
theorem path_wh {x1 : Sl} : ∀ (n q : Nat) (tl : List Nat), In ps q → q ≤ n → tl.length + n ≤ 100 →
    sWh (bT (l2 pNe (l2 pIx (lA F__law_box (aC (eV 0) (aC (l2 pIx (eV 2) (eC (.int 0))) aN))) (eC (.int 1))) (eC (.str "")))) (sSet 2 (l2 pAdd (oE (fun η => ((aC (l2 pIx (lA F__law_box (aC (eV 0) (aC (l2 pIx (eV 2) (eC (.int 0))) aN))) (eC (.int 1))) aN) η).bind gL)) (eV 2))) n
      [.val c.d, x1, .val (c.S (q :: tl))] = some (.nx [.val c.d, x1, .val (c.S (P ps q ++ tl))])
  | 0, q, tl, hq, h1, _ => by have := hq.1; omega
  | n + 1, q, tl, hq, h1, h2 => by
    have hp := par_lt t.ps hq.1
    have ea : l2 pIx (lA F__law_box (aC (eV 0) (aC (l2 pIx (eV 2) (eC (.int 0))) aN))) (eC (.int 1)) [.val c.d, x1, .val (c.S (q :: tl))] = some (c.s (par ps q)) :=
      l2_of (lA_of (aC_of rfl (aC_of (l2_of rfl rfl (ix0 _ _)) rfl)) (L_box t hq)) rfl rfl
    have et : bT (l2 pNe (l2 pIx (lA F__law_box (aC (eV 0) (aC (l2 pIx (eV 2) (eC (.int 0))) aN))) (eC (.int 1))) (eC (.str ""))) [.val c.d, x1, .val (c.S (q :: tl))] = some (!decide (par ps q = 0)) :=
      bT_of (l2_of ea rfl (t.ok.ne0 _))
    unfold sWh
    rw [et, Option.bind_some, P_succ t.ps hq.1]
    by_cases e : par ps q = 0
    · rw [decide_eq_true e, e]
      rfl
    · rw [decide_eq_false e]
      show Option.bind (sSet _ _ _) _ = _
      have eb : sSet 2 (l2 pAdd (oE (fun η => ((aC (l2 pIx (lA F__law_box (aC (eV 0) (aC (l2 pIx (eV 2) (eC (.int 0))) aN))) (eC (.int 1))) aN) η).bind gL)) (eV 2)) [.val c.d, x1, .val (c.S (q :: tl))] = some (.nx [.val c.d, x1, .val (c.S (par ps q :: q :: tl))]) :=
        set_of (l2_of (oE_of (bind_of (aC_of ea rfl) (gL_ok (by simp)))) rfl (addL (by simp; omega)))
      rw [eb, Option.bind_some]
      show sWh _ _ n _ = _
      rw [path_wh n (par ps q) (q :: tl) ⟨by omega, by have := hq.2; omega⟩ (by omega) (by simp; omega)]
      simp
theorem L_path {q : Nat} (hq : In ps q) : F__law_path [c.d, c.s q] = some (c.S (P ps q)) := by
  have h7 := inS_7 t hq
  have e := path_wh t (x1 := .val (c.s q)) 13 q [] hq (by omega) (by simp)
  rw [List.append_nil] at e
  exact run_of rfl (show g__law_path F__law_box [.val c.d, .val (c.s q), .un] = _ from seq_of (set_of (oE_of (bind_of (aC_of rfl rfl) (gL_ok (by simp))))) (seq_of e (ret_of rfl)))
theorem L_painted : ∀ n a, ps.length < n + a → a ≤ ps.length → F__law_painted n [c.d, c.s a] = some (c.S (kids (stF ps) n a))
  | 0, a, h, h2 => by omega
  | n + 1, a, h, h2 => by
    have f : ∀ x : Nat × Nat, x ∈ c.st → x.2 = a → In ps x.1 ∧ a < x.1 := fun x hx e => by
      rw [t.st] at hx
      have m := st_mem hx
      have := par_lt t.ps m.1
      exact ⟨⟨m.1, m.2.1⟩, by rw [← e, m.2.2]; exact this⟩
    have h7 := t.ps.len
    have bl : ∀ x : Nat × Nat, x ∈ c.st → x.2 = a → (blF (stF ps) (n + 1) x.1).length ≤ 262144 := fun x hx e => by
      obtain ⟨i, l⟩ := f x hx e
      exact Nat.le_trans (blF_len t.ps (n + 1) x.1 i.1 i.2 (by omega)) (pow_lim t.ps i.1)
    have cl : ∀ done rest, c.st = done ++ rest → (done.filter fun x => decide (x.2 = a)).length ≤ 7 := fun done rest e => by
      have h := ch_len t.ps a
      unfold chN at h
      rw [List.length_map, ← t.st, e, List.filter_append, List.length_append] at h
      omega
    obtain ⟨η', e, s3, rfl⟩ := sGo_all (t := tgN 3) (body := ptB (F__law_painted n)) c.box
      (fun done η => ∃ s3, η = [.val c.d, .val (c.s a), .val (c.S ((done.filter fun x => decide (x.2 = a)).flatMap fun x => blF (stF ps) (n + 1) x.1)), s3]) c.st (η := [.val c.d, .val (c.s a), .val (c.S []), .un])
      (by
        rintro done x rest η hall ⟨s3, rfl⟩
        have hx : x ∈ c.st := by rw [hall]; simp
        have hd : ∀ y ∈ done.filter (fun x => decide (x.2 = a)), (blF (stF ps) (n + 1) y.1).length ≤ 262144 := fun y hy => by
          obtain ⟨y1, y2⟩ := List.mem_filter.mp hy
          exact bl y (by rw [hall]; exact List.mem_append_left _ y1) (of_decide_eq_true y2)
        have l1 := flat_len hd
        have l2' := cl done (x :: rest) hall
        have l3 : ((done.filter fun x => decide (x.2 = a)).flatMap fun x => blF (stF ps) (n + 1) x.1).length ≤ 1835008 := Nat.le_trans l1 (by have := Nat.mul_le_mul_right 262144 l2'; omega)
        have hT : bT (l2 pEq (l2 pIx (eV 3) (eC (.int 1))) (eV 1)) [.val c.d, .val (c.s a), .val (c.S ((done.filter fun x => decide (x.2 = a)).flatMap fun x => blF (stF ps) (n + 1) x.1)), .val (c.box x)] = some (decide (x.2 = a)) :=
          bT_of (l2_of (l2_of rfl rfl rfl) rfl (t.ok.eqs x.2 a))
        rw [List.filter_append]
        by_cases e : x.2 = a
        · rw [decide_eq_true e] at hT
          obtain ⟨i, lt⟩ := f x hx e
          have ih := L_painted n x.1 (by omega) i.2
          have b1 := bl x hx e
          have kl : (kids (stF ps) n x.1).length ≤ 262144 := by
            have : (blF (stF ps) (n + 1) x.1).length = (kids (stF ps) n x.1).length + 1 := rfl
            omega
          refine ⟨_, _, rfl, ifT hT (set_of (l2_of (l2_of rfl (oE_of (bind_of (aC_of (l2_of rfl rfl rfl) rfl) (gL_ok (by simp)))) (addL ?_)) (lA_of (aC_of rfl (aC_of (l2_of rfl rfl rfl) rfl)) ih) (addL ?_))), .val (c.box x), ?_⟩
          · rw [List.length_map]; show _ + 1 ≤ _; omega
          · rw [List.length_append, List.length_map, List.length_map]; show _ + 1 + _ ≤ _; omega
          · rw [List.filter_cons_of_pos (by simpa using e), List.filter_nil, List.flatMap_append, List.flatMap_cons, List.flatMap_nil, List.append_nil]
            show [_, _, Sl.val (PyData.list _), _] = [_, _, Sl.val (PyData.list _), _]
            rw [List.map_append, List.append_assoc]
            rfl
        · rw [decide_eq_false e] at hT
          refine ⟨_, _, rfl, ifN hT, .val (c.box x), ?_⟩
          rw [List.filter_cons_of_neg (by simpa using e), List.filter_nil, List.append_nil]
          rfl) ⟨.un, rfl⟩
    refine run_of rfl (show g__law_painted (F__law_painted n) [.val c.d, .val (c.s a), .un, .un] = _ from seq_of (set_of (oE_of (gL_ok (by simp)))) (seq_of (for_of (lI_of rfl rfl) e) (ret_of ?_)))
    show some (c.S _) = _
    unfold kids chN
    rw [← t.st, List.flatMap_map]
end
end K55
namespace K55
open PySem L2 L2.PU
theorem bOr2 {f g : En → Option Bool} {η : En} {a b : Bool} (h1 : f η = some a) (h2 : g η = some b) : bOr f g η = some (a || b) := by
  unfold bOr
  rw [h1]
  cases a with
  | false => exact h2
  | true => rfl
theorem unp2 {f : En → Option PyData} {t : En → PyData → Option En} {η η' : En} {d : PyData} (h1 : f η = some d) (h2 : t η d = some η') : sUnp f t η = some (.nx η') := by
  unfold sUnp
  rw [h1, Option.bind_some, h2]; rfl
theorem app_of {i : Nat} {f : En → Option PyData} {η : En} {d : PyData} {ds : List PyData} (h1 : f η = some d) (h2 : η[i]? = some (.own ds)) (h3 : ds.length < 3000000) : sApp i f η = some (.nx (η.set i (.own (ds ++ [d])))) := by
  unfold sApp
  rw [h1, Option.bind_some, h2]
  exact if_pos (Nat.lt_of_lt_of_le h3 (big (Nat.le_refl _)))
theorem ix_last {l : List PyData} {d : PyData} : pIx (.list (l ++ [d])) (.int (-1)) = some d := by
  show atI (l ++ [d]) (-1) = _
  unfold atI ixN
  have e : (-1 + ((l.length : Int) + 1)).toNat = l.length := by omega
  simp [e, show (1 : Int) ≤ (l.length : Int) + 1 by omega]
theorem zp_two {α : Type} (f g : α → PyData) : ∀ l : List α, zpD (l.map f) (l.map g) = l.map fun x => .tuple [f x, g x]
  | [] => rfl
  | x :: r => by
    show PyData.tuple [f x, g x] :: zpD (r.map f) (r.map g) = _
    rw [zp_two f g r]; rfl
theorem sh_strs {ss : List Str} (h : ∀ s ∈ ss, PyData.strOk s = true) : SeqAt.shaped (.list (ss.map PyData.str)) = true := shaped_strs h
noncomputable def cutA (c : Sc) (ps : List Nat) (q : Nat) : List Ar := ((P ps q).filter c.geo.c).map (c.geo.area ps) ++ [c.geo.area ps q]
noncomputable def rwD (c : Sc) (ps : List Nat) (q : Nat) : PyData := .tuple [c.s q, .list ((cutA c ps q).map arD)]
section
variable {c : Sc} {ps : List Nat} (t : TrS c ps)
include t
theorem L_area {q : Nat} (hq : In ps q) : F__law_area [c.d, c.s q] = some (arD (c.geo.area ps q)) := by
  have h7 := PS_7 t hq
  obtain ⟨η', e, s4, rfl⟩ := sGo_all (t := tgN 4) (body := sSeq (sSet 2 (l2 pAdd (eV 2) (l2 pIx (lA F__law_box (aC (eV 0) (aC (eV 4) aN))) (eC (.int 2))))) (sSet 3 (l2 pAdd (eV 3) (l2 pIx (lA F__law_box (aC (eV 0) (aC (eV 4) aN))) (eC (.int 3)))))) c.s
    (fun done η => ∃ s4, η = [.val c.d, .val (c.s q), .val (.int (done.map c.L).sum), .val (.int (done.map c.T).sum), s4, .un]) (P ps q) (fun done x rest η hall hη => by
      obtain ⟨s4, rfl⟩ := hη
      have hx : In ps x := P_in' t.ps q hq (by rw [hall]; simp)
      refine ⟨_, _, rfl, seq_of (set_of (l2_of rfl (l2_of (lA_of (aC_of rfl (aC_of rfl rfl)) (L_box t hx)) rfl rfl) rfl)) (set_of (l2_of rfl (l2_of (lA_of (aC_of rfl (aC_of rfl rfl)) (L_box t hx)) rfl rfl) rfl)), .val (c.s x), ?_⟩
      rw [List.map_append, List.map_append, List.sum_append, List.sum_append]
      simp [Sc.box]) (η := [.val c.d, .val (c.s q), .val (.int 0), .val (.int 0), .un, .un]) ⟨.un, rfl⟩
  refine run_of rfl ?_
  show g__law_area F__law_path F__law_box [.val c.d, .val (c.s q), .un, .un, .un, .un] = _
  refine seq_of (unp2 (lA_of (aC_of rfl (aC_of rfl rfl)) (tup1_ok (by decide))) rfl) ?_
  refine seq_of (for_of (lI_of (lA_of (aC_of rfl (aC_of rfl rfl)) (L_path t hq)) rfl) e) ?_
  refine seq_of (set_of (lA_of (aC_of rfl (aC_of rfl rfl)) (L_box t hq))) ?_
  exact ret_of (lA_of (aC_of rfl (aC_of rfl (aC_of (l2_of rfl (l2_of rfl rfl rfl) rfl) (aC_of (l2_of rfl (l2_of rfl rfl rfl) rfl) rfl)))) (tup1_ok (by simp)))
noncomputable def arB : En → Option Out := sSeq (sSet 3 (lA F__law_path (aC (eV 0) (aC (eV 2) aN))))
    (sSeq (sSetO 4 (sComp [none, some 0] (lI asL (eV 3)) (tgN 0) tTrue (l2 pIx (lA F__law_box (aC (eV 1) (aC (eV 0) aN))) (eC (.int 6)))))
    (fun η => (sIf (bAnd (bT (l2 pEq (oE (sComp [none] (lI asL (eV 4)) (tgN 0) (bT (l2 (pIn false) (eC (.str "h")) (eV 0))) (eV 0))) (oE (fun η => (aN η).bind gL)))) (bT (l2 (pIn true) (eC (.str "l")) (l2 pIx (eV 4) (l1 pNeg (eC (.int 1))))))) (sSeq (sSetO 5 (sComp [none, none, some 0] (fun η => ((aC (eV 3) (aC (eV 4) aN)) η).bind zpL) (tgT (tgCons (tgN 0) (tgCons (tgN 1) tgNil))) (bT (l2 (pIn false) (eC (.str "c")) (eV 1))) (lA F__law_area (aC (eV 2) (aC (eV 0) aN)))))
    (fun η => (sApp 1 (lA (fun ds => if ds.length ≤ sizeLine then some (.tuple ds) else none) (aC (eV 2) (aC (l2 pAdd (eV 5) (oE (fun η => ((aC (lA F__law_area (aC (eV 0) (aC (eV 2) aN))) aN) η).bind gL))) aN)))) (frz 5 η))) sNx) (frz 4 η)))
theorem ar_turn {q : Nat} (hq : In ps q) {rows : List PyData} (hr : rows.length < 3000000) {s3 s4 s5 : Sl} : ∃ t3 t4 t5 : Sl, arB [.val c.d, .own rows, .val (c.s q), s3, s4, s5] =
    some (.nx [.val c.d, .own (if (c.geo.shown ps q && !c.geo.l q) = true then rows ++ [rwD c ps q] else rows), .val (c.s q), t3, t4, t5]) := by
  have h7 := PS_7 t hq
  have hok : ∀ s ∈ (P ps q).map c.mr, PyData.strOk s = true := fun s hs => by
    obtain ⟨x, _, rfl⟩ := List.mem_map.mp hs
    exact t.ok.okm x
  have e4 : sComp [none, some 0] (lI asL (eV 3)) (tgN 0) tTrue (l2 pIx (lA F__law_box (aC (eV 1) (aC (eV 0) aN))) (eC (.int 6))) [.val c.d, .own rows, .val (c.s q), .val (c.S (P ps q)), s4, s5] = some (((P ps q).map c.mr).map PyData.str) := by
    refine comp_eq (ds := (P ps q).map c.s) rfl (by rw [List.length_map]; omega) ?_
    refine (cGo_mapT c.s (fun x => .str (c.mr x)) (P ps q) fun x hx => ⟨_, rfl, l2_of (lA_of (aC_of rfl (aC_of rfl rfl)) (L_box t (P_in' t.ps q hq hx))) rfl rfl⟩).trans ?_
    rw [List.map_map]; rfl
  have eh : bT (l2 pEq (oE (sComp [none] (lI asL (eV 4)) (tgN 0) (bT (l2 (pIn false) (eC (.str "h")) (eV 0))) (eV 0))) (oE (fun η => (aN η).bind gL))) [.val c.d, .own rows, .val (c.s q), .val (c.S (P ps q)), .val (.list (((P ps q).map c.mr).map PyData.str)), s5] = some (c.geo.shown ps q) := by
    have hc : sComp [none] (lI asL (eV 4)) (tgN 0) (bT (l2 (pIn false) (eC (.str "h")) (eV 0))) (eV 0) [.val c.d, .own rows, .val (c.s q), .val (c.S (P ps q)), .val (.list (((P ps q).map c.mr).map PyData.str)), s5] = some ((((P ps q).map c.mr).filter fun m => inM "h" m).map PyData.str) := by
      refine comp_eq (ds := ((P ps q).map c.mr).map PyData.str) rfl (by rw [List.length_map, List.length_map]; omega) ?_
      exact cGo_map PyData.str (fun m => inM "h" m) PyData.str ((P ps q).map c.mr) fun m _ => ⟨_, rfl, bT_of (l2_of rfl rfl (pIn_m false "h" m)), fun _ => rfl⟩
    refine bT_of (l2_of (oE_of hc) (oE_of (ds := []) (gL_ok (by decide))) ((eq_nil PyData.str _ (sh_strs fun s hs => hok s (List.mem_filter.mp hs).1)).trans ?_))
    have : decide ((((P ps q).map c.mr).filter fun m => inM "h" m) = []) = c.geo.shown ps q := by
      have e := filt_all (fun m => !inM "h" m) ((P ps q).map c.mr)
      simp only [Bool.not_not] at e
      rw [e, List.all_map]; rfl
    rw [this]
  have el : bT (l2 (pIn true) (eC (.str "l")) (l2 pIx (eV 4) (l1 pNeg (eC (.int 1))))) [.val c.d, .own rows, .val (c.s q), .val (c.S (P ps q)), .val (.list (((P ps q).map c.mr).map PyData.str)), s5] = some (!c.geo.l q) := by
    refine bT_of (l2_of rfl (l2_of rfl rfl (z := .str (c.mr q)) ?_) (pIn_m true "l" (c.mr q)))
    show pIx (.list (((P ps q).map c.mr).map PyData.str)) (.int (-1)) = _
    rw [P_succ t.ps hq.1, List.map_append, List.map_append]
    exact ix_last
  have hand := bAnd_of eh el
  cases hb : (c.geo.shown ps q && !c.geo.l q) with
  | false =>
    rw [hb] at hand
    refine ⟨.val (c.S (P ps q)), .val (.list (((P ps q).map c.mr).map PyData.str)), s5, ?_⟩
    rw [if_neg (by decide)]
    refine seq_of (set_of (lA_of (aC_of rfl (aC_of rfl rfl)) (L_path t hq))) (seq_of (setO_of e4) ?_)
    exact ifN hand
  | true =>
    rw [hb] at hand
    have e5 : sComp [none, none, some 0] (fun η => ((aC (eV 3) (aC (eV 4) aN)) η).bind zpL) (tgT (tgCons (tgN 0) (tgCons (tgN 1) tgNil))) (bT (l2 (pIn false) (eC (.str "c")) (eV 1))) (lA F__law_area (aC (eV 2) (aC (eV 0) aN)))
        [.val c.d, .own rows, .val (c.s q), .val (c.S (P ps q)), .val (.list (((P ps q).map c.mr).map PyData.str)), s5] = some ((((P ps q).filter c.geo.c).map (c.geo.area ps)).map arD) := by
      refine comp_eq (ds := (P ps q).map fun x => .tuple [c.s x, .str (c.mr x)]) ?_ (by rw [List.length_map]; omega) ?_
      · show some (zpD ((P ps q).map c.s) (((P ps q).map c.mr).map PyData.str)) = _
        rw [List.map_map]
        exact congrArg some (zp_two c.s (PyData.str ∘ c.mr) _)
      · refine (cGo_map (fun x => .tuple [c.s x, .str (c.mr x)]) c.geo.c (fun x => arD (c.geo.area ps x)) (P ps q) fun x hx => ⟨[.val (c.s x), .val (.str (c.mr x)), .val c.d], rfl, bT_of (l2_of rfl rfl (pIn_m false "c" (c.mr x))), fun _ => lA_of (aC_of rfl (aC_of rfl rfl)) (L_area t (P_in' t.ps q hq hx))⟩).trans ?_
        rw [List.map_map]; rfl
    refine ⟨.val (c.S (P ps q)), .val (.list (((P ps q).map c.mr).map PyData.str)), .val (.list ((((P ps q).filter c.geo.c).map (c.geo.area ps)).map arD)), ?_⟩
    rw [if_pos rfl]
    refine seq_of (set_of (lA_of (aC_of rfl (aC_of rfl rfl)) (L_path t hq))) (seq_of (setO_of e4) ?_)
    refine ifT hand (seq_of (setO_of e5) ?_)
    have hfl := List.length_filter_le c.geo.c (P ps q)
    refine app_of (d := rwD c ps q) (lA_of (aC_of rfl (aC_of (l2_of rfl (oE_of (bind_of (aC_of (lA_of (aC_of rfl (aC_of rfl rfl)) (L_area t hq)) rfl) (gL_ok (by simp)))) (addL ?_)) rfl)) ?_) rfl hr
    · rw [List.length_map, List.length_map]
      show _ + 1 ≤ _
      omega
    · refine (tup1_ok (by show 2 ≤ _; decide)).trans ?_
      unfold rwD cutA
      rw [List.map_append]; rfl
theorem L_areas : F__law_areas [c.d] = some (.list ((tkL c.geo ps (kids (stF ps) 13 0)).map (rwD c ps))) := by
  have hk := kids_len t.ps
  have hall' : ∀ x ∈ (kids (stF ps) 13 0).reverse, In ps x := fun x hx => kids_mem t.ps (List.mem_reverse.mp hx)
  obtain ⟨η', e, s2, s3, s4, s5, rfl⟩ := sGo_all (t := tgN 2) (body := arB) c.s
    (fun done η => ∃ s2 s3 s4 s5, η = [.val c.d, .own ((done.filter fun q => c.geo.shown ps q && !c.geo.l q).map (rwD c ps)), s2, s3, s4, s5]) (kids (stF ps) 13 0).reverse (fun done x rest η hall hη => by
      obtain ⟨s2, s3, s4, s5, rfl⟩ := hη
      have hx : In ps x := hall' x (by rw [hall]; simp)
      have hdl : ((done.filter fun q => c.geo.shown ps q && !c.geo.l q).map (rwD c ps)).length < 3000000 := by
        have h1 := congrArg List.length hall
        rw [List.length_append, List.length_cons, List.length_reverse] at h1
        have h2 := List.length_filter_le (fun q => c.geo.shown ps q && !c.geo.l q) done
        rw [List.length_map]
        omega
      obtain ⟨t3, t4, t5, e⟩ := ar_turn t hx hdl (s3 := s3) (s4 := s4) (s5 := s5)
      refine ⟨_, _, rfl, e, .val (c.s x), t3, t4, t5, ?_⟩
      rw [List.filter_append, List.map_append]
      cases hb : (c.geo.shown ps x && !c.geo.l x) with
      | false => rw [if_neg (by decide), List.filter_cons_of_neg (by rw [hb]; decide), List.filter_nil, List.map_nil, List.append_nil]
      | true => rw [if_pos rfl, List.filter_cons_of_pos (by rw [hb]), List.filter_nil]; rfl) (η := [.val c.d, .own [], .un, .un, .un, .un]) ⟨.un, .un, .un, .un, rfl⟩
  refine run_of rfl ?_
  show g__law_areas (F__law_painted 13) F__law_path F__law_box F__law_area [.val c.d, .un, .un, .un, .un, .un] = _
  have hp := L_painted t 13 0 (by have := t.ps.len; omega) (Nat.zero_le _)
  have hp' : F__law_painted 13 [c.d, .str ""] = some (c.S (kids (stF ps) 13 0)) := by
    have e0 : c.s 0 = .str "" := by unfold Sc.s; rw [t.ok.top]
    rw [← e0]; exact hp
  refine seq_of (setO_of (d := []) (gL_ok (by decide))) ?_
  refine seq_of (for_of (ds := (kids (stF ps) 13 0).reverse.map c.s) (lI_of (l2_of (lA_of (aC_of rfl (aC_of rfl rfl)) hp') rfl (z := .list ((kids (stF ps) 13 0).reverse.map c.s)) ?_) rfl) e) ?_
  · show some (PyData.list ((kids (stF ps) 13 0).map c.s).reverse) = _
    rw [List.map_reverse]
  · show some (Out.rt (.list _)) = _
    unfold tkL
    rw [List.filter_filter]
    congr 4
    exact List.filter_congr fun x _ => Bool.and_comm _ _
omit t in
theorem hit_go {x y : Int} {x0 : Sl} : ∀ (l : List Nat) (s3 s4 : Sl), (∀ q ∈ l, (cutA c ps q).length ≤ 3000000) →
    ∃ r, sGo (tgT (tgCons (tgN 3) (tgCons (tgN 4) tgNil))) (sIf (bT (l2 pEq (oE (sComp [none, some 1, some 2] (lI asL (eV 4)) (tgN 0) (bOr (bNot (bT (lch pLe pLt (l2 pIx (eV 0) (eC (.int 0))) (eV 1) (l2 pIx (eV 0) (eC (.int 2)))))) (bNot (bT (lch pLe pLt (l2 pIx (eV 0) (eC (.int 1))) (eV 2) (l2 pIx (eV 0) (eC (.int 3))))))) (eV 0))) (oE (fun η => (aN η).bind gL)))) (sRet (eV 3)) sNx)
      (l.map (rwD c ps)) [x0, .val (.int x), .val (.int y), s3, s4] = some r ∧
      match l.filter (fun q => (cutA c ps q).all fun a => hasP a x y) with
      | [] => ∃ s3' s4', r = .nx [x0, .val (.int x), .val (.int y), s3', s4']
      | q :: _ => r = .rt (c.s q)
  | [], s3, s4, _ => ⟨_, rfl, s3, s4, rfl⟩
  | q :: l, s3, s4, hl => by
    have hc : sComp [none, some 1, some 2] (lI asL (eV 4)) (tgN 0) (bOr (bNot (bT (lch pLe pLt (l2 pIx (eV 0) (eC (.int 0))) (eV 1) (l2 pIx (eV 0) (eC (.int 2)))))) (bNot (bT (lch pLe pLt (l2 pIx (eV 0) (eC (.int 1))) (eV 2) (l2 pIx (eV 0) (eC (.int 3))))))) (eV 0)
        [x0, .val (.int x), .val (.int y), .val (c.s q), .val (.list ((cutA c ps q).map arD))] = some (((cutA c ps q).filter fun a => !hasP a x y).map arD) := by
      refine comp_eq (ds := (cutA c ps q).map arD) rfl (by rw [List.length_map]; exact hl q List.mem_cons_self) ?_
      refine cGo_map arD (fun a => !hasP a x y) arD (cutA c ps q) fun a _ => ⟨[.val (arD a), .val (.int x), .val (.int y)], rfl, ?_, fun _ => rfl⟩
      refine (bOr2 (bNot_of (bT_of (lch_of (l2_of rfl rfl rfl) rfl (l2_of rfl rfl rfl)))) (bNot_of (bT_of (lch_of (l2_of rfl rfl rfl) rfl (l2_of rfl rfl rfl))))).trans ?_
      unfold hasP
      simp only [Bool.not_and]
    have ht : bT (l2 pEq (oE (sComp [none, some 1, some 2] (lI asL (eV 4)) (tgN 0) (bOr (bNot (bT (lch pLe pLt (l2 pIx (eV 0) (eC (.int 0))) (eV 1) (l2 pIx (eV 0) (eC (.int 2)))))) (bNot (bT (lch pLe pLt (l2 pIx (eV 0) (eC (.int 1))) (eV 2) (l2 pIx (eV 0) (eC (.int 3))))))) (eV 0))) (oE (fun η => (aN η).bind gL)))
        [x0, .val (.int x), .val (.int y), .val (c.s q), .val (.list ((cutA c ps q).map arD))] = some ((cutA c ps q).all fun a => hasP a x y) := by
      refine bT_of (l2_of (oE_of hc) (oE_of (ds := []) (gL_ok (by decide))) ((eq_nil arD _ (sh_ar _)).trans ?_))
      rw [filt_all]
    rw [List.map_cons]
    unfold sGo
    show ∃ r, Option.bind (sIf _ _ _ [x0, .val (.int x), .val (.int y), .val (c.s q), .val (.list ((cutA c ps q).map arD))]) _ = some r ∧ _
    cases hb : (cutA c ps q).all fun a => hasP a x y with
    | true =>
      rw [hb] at ht
      rw [ifT ht (ret_of rfl)]
      simp only [List.filter_cons, hb, if_true]
      exact ⟨_, rfl, rfl⟩
    | false =>
      rw [hb] at ht
      rw [ifN ht]
      simp only [List.filter_cons, hb, Bool.false_eq_true, if_false]
      exact hit_go l _ _ fun q hq => hl q (List.mem_cons_of_mem _ hq)
theorem cutA_len {q : Nat} (hq : In ps q) : (cutA c ps q).length ≤ 8 := by
  have h7 := PS_7 t hq
  unfold cutA
  rw [List.length_append, List.length_map]
  have := List.length_filter_le c.geo.c (P ps q)
  show _ + 1 ≤ 8
  omega
theorem L_hit (x y : Int) : F__law_hit [.list ((tkL c.geo ps (kids (stF ps) 13 0)).map (rwD c ps)), .int x, .int y] = some (hdD c (hitL c.geo ps (kids (stF ps) 13 0) x y)) := by
  have hin : ∀ q ∈ tkL c.geo ps (kids (stF ps) 13 0), In ps q := fun q hq => kids_mem t.ps (List.mem_reverse.mp (List.mem_filter.mp (List.mem_filter.mp hq).1).1)
  have ef : (tkL c.geo ps (kids (stF ps) 13 0)).filter (fun q => (cutA c ps q).all fun a => hasP a x y) = hitL c.geo ps (kids (stF ps) 13 0) x y := by
    unfold hitL
    refine List.filter_congr fun q hq => ?_
    rw [← wnd_has t.ps (hin q hq).1]
    unfold cutA Geo.wnd
    rw [wndL_has, List.all_append, Bool.and_comm]
    simp
  obtain ⟨r, e, h⟩ := hit_go (c := c) (ps := ps) (x := x) (y := y) (x0 := .val (.list ((tkL c.geo ps (kids (stF ps) 13 0)).map (rwD c ps)))) (tkL c.geo ps (kids (stF ps) 13 0)) .un .un fun q hq => by have := cutA_len t (hin q hq); omega
  rw [ef] at h
  refine run_of rfl ?_
  show g__law_hit [.val (.list ((tkL c.geo ps (kids (stF ps) 13 0)).map (rwD c ps))), .val (.int x), .val (.int y), .un, .un] = _
  unfold g__law_hit
  cases hl : hitL c.geo ps (kids (stF ps) 13 0) x y with
  | nil =>
    rw [hl] at h
    obtain ⟨s3, s4, rfl⟩ := h
    exact seq_of (for_of (lI_of rfl rfl) e) rfl
  | cons q l =>
    rw [hl] at h
    subst h
    unfold sSeq
    rw [for_of (lI_of rfl rfl) e]; rfl
end
end K55
namespace K55
open PySem L2 L2.PU
noncomputable abbrev cp (s : Str) : List Nat := s.cps.toList
noncomputable abbrev EM : Str := ""
noncomputable def SP : Str := ⟨#[32]⟩
noncomputable def NL : Str := ⟨#[10]⟩
theorem nl_eq : ("\n" : Str) = NL := by decide +kernel
theorem cp_app (a b : Str) : cp (a ++ b) = cp a ++ cp b := by
  unfold cp
  rw [Str.cps_append, Array.toList_append]
theorem cp_ext {a b : Str} (h : cp a = cp b) : a = b := Str.ext' (Array.toList_inj.mp h)
theorem jn (sep : Str) (l : List Str) : Txt.join sep l = Str.join sep l := StrLaws.glued_eq_join sep l
theorem fold_le (k b : Nat) : ∀ (l : List Str) (a : Nat), (∀ x ∈ l, x.length ≤ b) → l.foldl (fun n x => n + x.length + k) a ≤ a + l.length * (b + k)
  | [], a, _ => by simp
  | x :: r, a, h => by
    have h1 := h x List.mem_cons_self
    have h2 := fold_le k b r (a + x.length + k) fun y hy => h y (List.mem_cons_of_mem _ hy)
    rw [List.foldl_cons, List.length_cons, Nat.add_mul]
    omega
theorem join_ok {sep : Str} {l : List Str} {b : Nat} (h : ∀ x ∈ l, x.length ≤ b) (hz : l.length * (b + sep.length) ≤ 3000000) : JoinOk sep l = true := by
  unfold JoinOk Builtin.Str.tooLong
  have e := fold_le sep.length b l 0 h
  rw [List.foldl_toArray]
  have hb := big hz
  simp only [Bool.not_eq_true', decide_eq_false_iff_not]
  show ¬ (l.foldl (fun n x => n + x.length + sep.length) 0 > sizeLine)
  omega
theorem asSs_strs : ∀ ss : List Str, asSs (ss.map PyData.str) = some ss
  | [] => rfl
  | x :: r => by
    show (asSs (r.map PyData.str)).bind _ = _
    rw [asSs_strs r]; rfl
theorem pJoin_of {sep : Str} {l : List Str} {b : Nat} (h : ∀ x ∈ l, x.length ≤ b) (hz : l.length * (b + sep.length) ≤ 3000000) : pJoin (.str sep) (.list (l.map PyData.str)) = some (.str (Str.join sep l)) := by
  unfold pJoin
  dsimp only
  rw [asSs_strs, Option.bind_some, if_pos (join_ok h hz), jn]
theorem len_join (sep : Str) (b : Nat) : ∀ l : List Str, (∀ x ∈ l, x.length ≤ b) → (Str.join sep l).length ≤ l.length * (b + sep.length)
  | [], _ => by
    show Str.length Str.empty ≤ _
    simp [Str.empty, Str.length]
  | [x], h => by
    have := h x List.mem_cons_self
    show x.length ≤ 1 * _
    omega
  | x :: y :: r, h => by
    have h1 := h x List.mem_cons_self
    have h2 := len_join sep b (y :: r) fun z hz => h z (List.mem_cons_of_mem _ hz)
    show (x ++ sep ++ Str.join sep (y :: r)).length ≤ _
    rw [len_app, len_app, List.length_cons, Nat.add_mul]
    omega
end K55
namespace K55
open PySem L2 L2.PU
noncomputable def Zs (lo : Int) (n : Nat) : List Int := (List.range n).map fun (k : Nat) => lo + (k : Int)
theorem Zs_len (lo : Int) (n : Nat) : (Zs lo n).length = n := by unfold Zs; rw [List.length_map, List.length_range]
theorem rng2_ok {i j : Int} (h1 : -1000 ≤ i) (h2 : i ≤ 1000) (h3 : -1000 ≤ j) (h4 : j ≤ 1000) : rng2 [.int i, .int j] = some ((Zs i (j - i).toNat).map PyData.int) := by
  unfold rng2
  dsimp only
  rw [if_pos ⟨⟨by omega, by omega⟩, by omega, by omega⟩]
  unfold rngL Zs
  rw [List.map_map]; rfl
theorem bind_rng {f : En → Option (List PyData)} {η : En} {i j : Int} (hf : f η = some [.int i, .int j]) (h1 : -1000 ≤ i) (h2 : i ≤ 1000) (h3 : -1000 ≤ j) (h4 : j ≤ 1000) : (fun η => (f η).bind rng2) η = some ((Zs i (j - i).toNat).map PyData.int) := by
  show (f η).bind rng2 = _
  rw [hf]; exact rng2_ok h1 h2 h3 h4
noncomputable def sgn (c : Sc) : List Nat → Str
  | [] => "."
  | q :: _ => c.nm q
noncomputable def On (c : Sc) (ps : List Nat) : Prop := ∀ q, In ps q → ∃ ch, c.nm q = ⟨#[ch]⟩
theorem addS {a b : Str} (h : a.length + b.length ≤ 3000000) : pAdd (.str a) (.str b) = some (.str (a ++ b)) := if_pos (big h)
theorem dot_len : (".": Str).length = 1 := by decide +kernel
theorem dot_ok : PyData.strOk "." = true := by decide +kernel
theorem em_ok : PyData.strOk "" = true := by decide +kernel
theorem em_len : ("" : Str).length = 0 := by decide +kernel
theorem nl_len : NL.length = 1 := rfl
theorem sgE {c : Sc} {l : List Nat} (hl : ∀ q ∈ l, ∃ ch, c.nm q = ⟨#[ch]⟩) {f : En → Option PyData} {η : En} (h : f η = some (hdD c l)) :
    vIf (bT (l2 (pIsN false) f (eC .none))) (eC (.str ".")) (l2 pIx f (eC (.int 0))) η = some (.str (sgn c l)) := by
  cases l with
  | nil => rw [vIf_of (b := true) (bT_of (l2_of h rfl rfl)), if_pos rfl]; rfl
  | cons q r =>
    obtain ⟨ch, e⟩ := hl q List.mem_cons_self
    rw [vIf_of (b := false) (bT_of (l2_of h rfl rfl)), if_neg (by decide)]
    refine l2_of h rfl ?_
    show pIx (.str (c.nm q)) (.int 0) = some (.str (c.nm q))
    rw [e]
    show (if (⟨#[ch]⟩ : Str).length ≤ sizeLine then (atI [ch] 0).bind fun c => some (PyData.str ⟨#[c]⟩) else none) = _
    rw [if_pos (big (by show 1 ≤ 3000000; decide))]; rfl
theorem sgn_len {c : Sc} {l : List Nat} (hl : ∀ q ∈ l, ∃ ch, c.nm q = ⟨#[ch]⟩) : (sgn c l).length = 1 := by
  cases l with
  | nil => exact dot_len
  | cons q r =>
    obtain ⟨ch, e⟩ := hl q List.mem_cons_self
    show (c.nm q).length = 1
    rw [e]; rfl
theorem sgn_ok {c : Sc} (h : c.Ok) (l : List Nat) : PyData.strOk (sgn c l) = true := by
  cases l with
  | nil => exact dot_ok
  | cons q r => exact h.ok q
theorem strOk_join {sep : Str} (hs : PyData.strOk sep = true) : ∀ l : List Str, (∀ s ∈ l, PyData.strOk s = true) → PyData.strOk (Str.join sep l) = true
  | [], _ => by show PyData.strOk Str.empty = true; decide +kernel
  | [x], h => h x List.mem_cons_self
  | x :: y :: r, h => strOk_app (strOk_app (h x List.mem_cons_self) hs) (strOk_join hs (y :: r) fun z hz => h z (List.mem_cons_of_mem _ hz))
noncomputable def rowT (c : Sc) (H : Int → Int → List Nat) (xs : List Int) (y : Int) : Str := Str.join "" (xs.map fun x => sgn c (H x y))
noncomputable def picT (c : Sc) (H : Int → Int → List Nat) (xs ys : List Int) : Str := Str.join "" (ys.map fun y => rowT c H xs y ++ NL)
section
variable {c : Sc} {ps : List Nat} {pnt : List Nat} (t : Tr c ps (In ps) pnt) (on : On c ps)
noncomputable abbrev Hh (c : Sc) (ps pnt : List Nat) : Int → Int → List Nat := fun x y => hitL c.geo ps pnt x y
include t on
theorem H_on (x y : Int) : ∀ q ∈ Hh c ps pnt x y, ∃ ch, c.nm q = ⟨#[ch]⟩ := fun q hq => on q (tk_in t (List.mem_filter.mp hq).1)
theorem row_len (xs : List Int) (y : Int) (hx : xs.length ≤ 60) : (rowT c (Hh c ps pnt) xs y).length ≤ 60 := by
  have := len_join "" 1 (xs.map fun x => sgn c (Hh c ps pnt x y)) fun s hs => by
    obtain ⟨x, _, rfl⟩ := List.mem_map.mp hs
    rw [sgn_len (H_on t on x y)]
    exact Nat.le_refl _
  rw [em_len, List.length_map] at this
  unfold rowT
  omega
omit on in
theorem pic_ok (xs ys : List Int) : PyData.strOk (picT c (Hh c ps pnt) xs ys) = true := strOk_join em_ok _ fun s hs => by
  obtain ⟨y, _, rfl⟩ := List.mem_map.mp hs
  refine strOk_app (strOk_join em_ok _ fun s hs => ?_) (by decide +kernel)
  obtain ⟨x, _, rfl⟩ := List.mem_map.mp hs
  exact sgn_ok t.ok _
theorem F_pic {l tp r b : Int} (hl : -100 ≤ l ∧ l ≤ 100) (htp : -100 ≤ tp ∧ tp ≤ 100) (hr : -100 ≤ r ∧ r ≤ 100) (hb : -100 ≤ b ∧ b ≤ 100) (hx : (r - l).toNat ≤ 60) (hy : (b - tp).toNat ≤ 60) :
    F_picture [c.d, .int l, .int tp, .int r, .int b] = some (.str (picT c (Hh c ps pnt) (Zs l (r - l).toNat) (Zs tp (b - tp).toNat))) := by
  have hzx := Zs_len l (r - l).toNat
  have hzy := Zs_len tp (b - tp).toNat
  generalize hxs : Zs l (r - l).toNat = xs at hzx
  generalize hys : Zs tp (b - tp).toNat = ys at hzy
  obtain ⟨η', e, s7, s8, rfl⟩ := sGo_all (t := tgN 7) (body := sSeq (sSetO 8 (sComp [none, some 5, some 7] (fun η => ((aC (eV 1) (aC (eV 3) aN)) η).bind rng2) (tgN 0) tTrue (lA F_sign_of (aC (lA F_first_at (aC (eV 1) (aC (eV 0) (aC (eV 2) aN)))) aN))))
      (fun η => (sApp 6 (l2 pAdd (l2 pJoin (eC (.str "")) (eV 8)) (eC (.str "\n")))) (frz 8 η))) PyData.int
    (fun done η => ∃ s7 s8, η = [.val c.d, .val (.int l), .val (.int tp), .val (.int r), .val (.int b), .val (.list ((tkL c.geo ps pnt).map (tkD c ps))), .own ((done.map fun y => rowT c (Hh c ps pnt) xs y ++ NL).map PyData.str), s7, s8]) ys (fun done y rest η hall hη => by
      obtain ⟨s7, s8, rfl⟩ := hη
      have hdl : done.length ≤ 60 := by
        have := congrArg List.length hall
        rw [List.length_append, List.length_cons] at this
        omega
      have e8 : sComp [none, some 5, some 7] (fun η => ((aC (eV 1) (aC (eV 3) aN)) η).bind rng2) (tgN 0) tTrue (lA F_sign_of (aC (lA F_first_at (aC (eV 1) (aC (eV 0) (aC (eV 2) aN)))) aN))
          [.val c.d, .val (.int l), .val (.int tp), .val (.int r), .val (.int b), .val (.list ((tkL c.geo ps pnt).map (tkD c ps))), .own ((done.map fun y => rowT c (Hh c ps pnt) xs y ++ NL).map PyData.str), .val (.int y), s8] = some ((xs.map fun x => sgn c (Hh c ps pnt x y)).map PyData.str) := by
        refine comp_eq (ds := xs.map PyData.int) ((bind_rng (aC_of rfl (aC_of rfl rfl)) (by omega) (by omega) (by omega) (by omega)).trans (by rw [hxs])) (by rw [List.length_map]; omega) ?_
        refine (cGo_mapT PyData.int (fun x => .str (sgn c (Hh c ps pnt x y))) xs fun x _ => ⟨_, rfl, lA_of (aC_of (lA_of (aC_of rfl (aC_of rfl (aC_of rfl rfl))) (T_first t x y)) rfl) ?_⟩).trans ?_
        · exact run_of rfl (ret_of (sgE (H_on t on x y) rfl))
        · rw [List.map_map]; rfl
      have rl := row_len t on xs y (by omega)
      refine ⟨_, [.val c.d, .val (.int l), .val (.int tp), .val (.int r), .val (.int b), .val (.list ((tkL c.geo ps pnt).map (tkD c ps))), .own ((done.map fun y => rowT c (Hh c ps pnt) xs y ++ NL).map PyData.str ++ [.str (rowT c (Hh c ps pnt) xs y ++ NL)]), .val (.int y), .val (.list ((xs.map fun x => sgn c (Hh c ps pnt x y)).map PyData.str))], rfl, seq_of (setO_of e8) ?_, .val (.int y), .val (.list ((xs.map fun x => sgn c (Hh c ps pnt x y)).map PyData.str)), ?_⟩
      · refine app_of (l2_of (l2_of rfl rfl (pJoin_of (b := 1) (fun s hs => ?_) ?_)) rfl ?_) rfl (by rw [List.length_map, List.length_map]; omega)
        · obtain ⟨x, _, rfl⟩ := List.mem_map.mp hs
          rw [sgn_len (H_on t on x y)]; exact Nat.le_refl _
        · rw [em_len, List.length_map]; omega
        · rw [nl_eq]
          exact addS (by rw [nl_len]; show (rowT c (Hh c ps pnt) xs y).length + 1 ≤ _; omega)
      · rw [List.map_append, List.map_append]; rfl) (η := [.val c.d, .val (.int l), .val (.int tp), .val (.int r), .val (.int b), .val (.list ((tkL c.geo ps pnt).map (tkD c ps))), .own [], .un, .un]) ⟨.un, .un, rfl⟩
  refine run_of rfl ?_
  show g_picture F_takers F_first_at F_sign_of [.val c.d, .val (.int l), .val (.int tp), .val (.int r), .val (.int b), .un, .un, .un, .un] = _
  refine seq_of (set_of (lA_of (aC_of rfl rfl) (T_takers t))) ?_
  refine seq_of (setO_of (d := []) (gL_ok (by decide))) ?_
  refine seq_of (for_of ((bind_rng (aC_of rfl (aC_of rfl rfl)) (by omega) (by omega) (by omega) (by omega)).trans (by rw [hys])) e) ?_
  refine ret_of (l2_of rfl rfl (pJoin_of (b := 61) (fun s hs => ?_) ?_))
  · obtain ⟨y, _, rfl⟩ := List.mem_map.mp hs
    have := row_len t on xs y (by omega)
    rw [len_app, nl_len]; omega
  · rw [em_len, List.length_map]; omega
end
end K55
namespace K55
open PySem L2 L2.PU
noncomputable def hname (c : Sc) : List Nat → Option Str
  | [] => none
  | q :: _ => some (c.nm q)
noncomputable def getC (cs : List (Str × Nat)) (s : Str) : Nat := ((cs.find? fun p => decide (p.1 = s)).map (·.2)).getD 0
noncomputable def addC (cs : List (Str × Nat)) (s : Str) : List (Str × Nat) := if (cs.any fun p => decide (p.1 = s)) = true then cs.map (fun p => if p.1 = s then (p.1, getC cs s + 1) else p) else cs ++ [(s, 1)]
noncomputable def kvC (cs : List (Str × Nat)) : List (Key × PyData) := cs.map fun p => (Sum.inr p.1, .int (p.2 : Nat))
theorem none_of {cs : List (Str × Nat)} {s : Str} (h : (cs.any fun p => decide (p.1 = s)) = false) : cs.find? (fun p => decide (p.1 = s)) = none := by
  rw [List.find?_eq_none]
  intro x hx
  rw [List.any_eq_false] at h
  exact h x hx
theorem put_C (cs : List (Str × Nat)) (s : Str) : putP (kvC cs) (Sum.inr s) (.int ((getC cs s : Int) + 1)) = kvC (addC cs s) := by
  have ha : ((kvC cs).any fun kv => decide (kv.1 = (Sum.inr s : Key))) = cs.any fun p => decide (p.1 = s) := by
    unfold kvC
    rw [List.any_map]
    congr 1
    funext p
    simp [Function.comp]
  unfold putP addC
  rw [ha]
  cases hb : cs.any fun p => decide (p.1 = s) with
  | true =>
    rw [if_pos rfl, if_pos rfl]
    unfold kvC
    rw [List.map_map, List.map_map]
    refine List.map_congr_left fun p _ => ?_
    simp only [Function.comp, Sum.inr.injEq]
    split
    · rfl
    · rfl
  | false =>
    rw [if_neg (by decide), if_neg (by decide)]
    have : getC cs s = 0 := by unfold getC; rw [none_of hb]; rfl
    unfold kvC
    rw [List.map_append, this]; rfl
theorem get_C (s : Str) : ∀ cs : List (Str × Nat), (lookD (prs (kvC cs)) (Sum.inr s)).getD (.int 0) = .int (getC cs s : Nat)
  | [] => rfl
  | p :: r => by
    have ih := get_C s r
    by_cases e : p.1 = s
    · have e1 : prs (kvC (p :: r)) = (kD (Sum.inr s), .int (p.2 : Nat)) :: prs (kvC r) := by rw [← e]; rfl
      rw [e1, lookD_pos]
      unfold getC
      rw [List.find?_cons_of_pos (by simpa using e)]; rfl
    · have e1 : prs (kvC (p :: r)) = (kD (Sum.inr p.1), .int (p.2 : Nat)) :: prs (kvC r) := rfl
      rw [e1, lookD_neg (fun z => e (Sum.inr.inj z)), ih]
      unfold getC
      rw [List.find?_cons_of_neg (by simpa using e)]
theorem key_C (cs : List (Str × Nat)) (s : Str) : (addC cs s).map (·.1) = sd (cs.map (·.1)) s := by
  have ha : ((cs.map (·.1)).any (· == s)) = cs.any fun p => decide (p.1 = s) := by rw [List.any_map]; rfl
  unfold addC sd
  rw [ha]
  cases hb : cs.any fun p => decide (p.1 = s) with
  | true =>
    rw [if_pos rfl, if_pos rfl, List.map_map]
    refine List.map_congr_left fun p _ => ?_
    simp only [Function.comp]
    split <;> rfl
  | false =>
    rw [if_neg (by decide), if_neg (by decide), List.map_append]; rfl
theorem cnt_C (cs : List (Str × Nat)) (s k : Str) : getC (addC cs s) k = getC cs k + if k = s then 1 else 0 := by
  unfold addC
  cases hb : cs.any fun p => decide (p.1 = s) with
  | true =>
    rw [if_pos rfl]
    unfold getC
    rw [List.find?_map]
    have hf : ((fun p : Str × Nat => decide (p.1 = k)) ∘ fun p => if p.1 = s then (p.1, ((cs.find? fun p => decide (p.1 = s)).map (·.2)).getD 0 + 1) else p) = fun p => decide (p.1 = k) := by
      funext p
      simp only [Function.comp]
      split <;> rfl
    rw [hf]
    cases hq : cs.find? (fun p => decide (p.1 = k)) with
    | none =>
      have hne : ¬ k = s := fun e => by
        subst e
        obtain ⟨x, hx, h2⟩ := List.any_eq_true.mp hb
        exact List.find?_eq_none.mp hq x hx h2
      rw [if_neg hne]; rfl
    | some p =>
      have hp : p.1 = k := by have := List.find?_some hq; simpa using this
      by_cases e : k = s
      · subst e
        rw [if_pos rfl]
        simp [hp, hq]
      · rw [if_neg e]
        have : ¬ p.1 = s := fun z => e (by rw [← hp, z])
        simp [this]
  | false =>
    rw [if_neg (by decide)]
    unfold getC
    rw [List.find?_append]
    by_cases e : k = s
    · subst e
      rw [none_of hb, if_pos rfl]
      simp
    · rw [if_neg e]
      have : ([(s, 1)] : List (Str × Nat)).find? (fun p => decide (p.1 = k)) = none := by
        rw [List.find?_eq_none]
        intro x hx
        rw [List.mem_singleton.mp hx]
        simpa using fun z => e z.symm
      rw [this]
      cases cs.find? (fun p => decide (p.1 = k)) <;> rfl
theorem fold_key : ∀ (ss : List Str) (cs : List (Str × Nat)), (ss.foldl addC cs).map (·.1) = ss.foldl sd (cs.map (·.1))
  | [], _ => rfl
  | s :: r, cs => by
    rw [List.foldl_cons, List.foldl_cons, fold_key r, key_C]
theorem fold_cnt (k : Str) : ∀ (ss : List Str) (cs : List (Str × Nat)), getC (ss.foldl addC cs) k = getC cs k + ss.count k
  | [], cs => by simp
  | s :: r, cs => by
    rw [List.foldl_cons, fold_cnt k r, cnt_C, List.count_cons]
    by_cases e : k = s
    · subst e
      rw [if_pos rfl, if_pos (by simp)]; omega
    · rw [if_neg e, if_neg (by simpa using fun z : s = k => e z.symm)]; omega
noncomputable def cF (ss : List Str) : List (Str × Nat) := ss.foldl addC []
theorem cF_key (ss : List Str) : (cF ss).map (·.1) = ss.foldl sd [] := fold_key ss []
theorem cF_cnt (ss : List Str) (k : Str) : getC (cF ss) k = ss.count k := (fold_cnt k ss []).trans (by show 0 + _ = _; omega)
theorem cF_len (ss : List Str) : (cF ss).length ≤ ss.length := by
  have h := congrArg List.length (cF_key ss)
  rw [List.length_map] at h
  rw [h]
  exact sd_len ss
theorem sd_nodup : ∀ (ss l : List Str), l.Nodup → (ss.foldl sd l).Nodup
  | [], _, h => h
  | s :: r, l, h => by
    rw [List.foldl_cons]
    refine sd_nodup r _ ?_
    unfold sd
    split
    · exact h
    · rename_i hn
      rw [List.nodup_append]
      refine ⟨h, by simp, fun a ha b hb => ?_⟩
      rw [List.mem_singleton.mp hb]
      intro e
      exact hn (List.any_eq_true.mpr ⟨a, ha, by rw [e]; simp⟩)
theorem sd_mem {x : Str} : ∀ (ss l : List Str), x ∈ ss.foldl sd l → x ∈ l ∨ x ∈ ss
  | [], _, h => .inl h
  | s :: r, l, h => by
    rw [List.foldl_cons] at h
    rcases sd_mem r _ h with h | h
    · unfold sd at h
      split at h
      · exact .inl h
      · rcases List.mem_append.mp h with h | h
        · exact .inl h
        · exact .inr (by rw [List.mem_singleton.mp h]; exact List.mem_cons_self)
    · exact .inr (List.mem_cons_of_mem _ h)
theorem nd_len {α : Type} [BEq α] [LawfulBEq α] : ∀ (l m : List α), l.Nodup → (∀ x ∈ l, x ∈ m) → l.length ≤ m.length
  | [], _, _, _ => Nat.zero_le _
  | x :: r, m, hn, h => by
    have hn' := List.nodup_cons.mp hn
    have hx := h x List.mem_cons_self
    have ih := nd_len r (m.erase x) hn'.2 fun y hy => (List.mem_erase_of_ne (fun e : y = x => hn'.1 (e ▸ hy))).mpr (h y (List.mem_cons_of_mem _ hy))
    rw [List.length_erase_of_mem hx] at ih
    have : 1 ≤ m.length := List.length_pos_of_mem hx
    rw [List.length_cons]
    omega
theorem asKs_C : ∀ cs : List (Str × Nat), asKs (prs (kvC cs)) = some (cs.map fun p => (p.1, PyData.int (p.2 : Nat)))
  | [] => rfl
  | p :: r => by
    show (asKs (prs (kvC r))).bind _ = _
    rw [asKs_C r]; rfl
theorem lkS_C (k : Str) : ∀ cs : List (Str × Nat), k ∈ cs.map (·.1) → lkS (cs.map fun p => (p.1, PyData.int (p.2 : Nat))) k = .int (getC cs k : Nat)
  | [], h => by cases h
  | p :: r, h => by
    show (if p.1 = k then PyData.int (p.2 : Nat) else lkS (r.map fun p => (p.1, PyData.int (p.2 : Nat))) k) = _
    unfold getC
    by_cases e : p.1 = k
    · rw [if_pos e, List.find?_cons_of_pos (by simpa using e)]; rfl
    · rw [if_neg e, List.find?_cons_of_neg (by simpa using e)]
      rcases List.mem_cons.mp h with h | h
      · exact absurd h.symm e
      · exact lkS_C k r h
theorem put_of {i : Nat} {g h : En → Option PyData} {η : En} {d y : PyData} {k : Key} {kvs : List (Key × PyData)} (h1 : h η = some d) (h2 : g η = some y) (h3 : keyOf y = some k) (h4 : η[i]? = some (.odc kvs)) (h5 : kvs.length < 3000000) : sPutD i g h η = some (.nx (η.set i (.odc (putP kvs k d)))) := by
  unfold sPutD
  rw [h1, Option.bind_some, h2, Option.bind_some, h3, Option.bind_some, h4]
  exact if_pos (Nat.lt_of_lt_of_le h5 (big (Nat.le_refl _)))
theorem get_of {i : Nat} {g h : En → Option PyData} {η : En} {z y : PyData} {k : Key} {kvs : List (Key × PyData)} (h1 : η[i]? = some (.odc kvs)) (h2 : g η = some y) (h3 : h η = some z) (h4 : keyOf y = some k) : eGet2O i g h η = some ((lookD (prs kvs) k).getD z) := by
  unfold eGet2O
  rw [h1]
  dsimp only
  rw [h2, Option.bind_some, h3, Option.bind_some, h4]; rfl
noncomputable def pts (xs ys : List Int) : List (Int × Int) := xs.flatMap fun x => ys.map fun y => (x, y)
noncomputable def nms (c : Sc) (H : Int → Int → List Nat) (ps : List (Int × Int)) : List Str := ps.filterMap fun p => hname c (H p.1 p.2)
theorem nms_app (c : Sc) (H : Int → Int → List Nat) (a b : List (Int × Int)) : nms c H (a ++ b) = nms c H a ++ nms c H b := List.filterMap_append
theorem nms_len (c : Sc) (H : Int → Int → List Nat) (a : List (Int × Int)) : (nms c H a).length ≤ a.length := List.length_filterMap_le _ _
theorem pts_app (xs : List Int) (x : Int) (ys : List Int) : pts (xs ++ [x]) ys = pts xs ys ++ ys.map fun y => (x, y) := by
  unfold pts
  rw [List.flatMap_append, List.flatMap_cons, List.flatMap_nil, List.append_nil]
theorem pts_len (xs ys : List Int) : (pts xs ys).length = xs.length * ys.length := by
  unfold pts
  induction xs with
  | nil => simp
  | cons x r ih => rw [List.flatMap_cons, List.length_append, ih, List.length_map, List.length_cons, Nat.add_mul]; omega
noncomputable def dueL (ss : List Str) : PyData := .list ((srtS (ss.foldl sd [])).map fun k => .tuple [.str k, .int (ss.count k : Nat)])
section
variable {c : Sc} {ps : List Nat} {pnt : List Nat} (t : Tr c ps (In ps) pnt)
include t
theorem nms_in (l : List (Int × Int)) : ∀ s ∈ nms c (Hh c ps pnt) l, s ∈ (List.range 7).map fun i => c.nm (i + 1) := fun s hs => by
  obtain ⟨p, _, e⟩ := List.mem_filterMap.mp hs
  cases hq : Hh c ps pnt p.1 p.2 with
  | nil => rw [hq] at e; cases e
  | cons q r =>
    rw [hq] at e
    cases e
    have hi : In ps q := tk_in t (List.mem_filter.mp (show q ∈ hitL c.geo ps pnt p.1 p.2 by rw [show hitL c.geo ps pnt p.1 p.2 = q :: r from hq]; exact List.mem_cons_self)).1
    have h7 := in_7 t hi
    exact List.mem_map.mpr ⟨q - 1, List.mem_range.mpr (by have := hi.1; omega), by rw [Nat.sub_add_cancel hi.1]⟩
noncomputable def shY : En → Option Out := sSeq (sSet 9 (lA F_first_at (aC (eV 5) (aC (eV 7) (aC (eV 8) aN))))) (sIf (bT (l2 (pIsN true) (eV 9) (eC .none))) (sPutD 6 (eV 9) (l2 pAdd (eGet2O 6 (eV 9) (eC (.int 0))) (eC (.int 1)))) sNx)
theorem sh_turn {x y : Int} {ss : List Str} (hss : ss.length < 3000000) {x0 x1 x2 x3 x4 s9 : Sl} : ∃ s9', shY [x0, x1, x2, x3, x4, .val (.list ((tkL c.geo ps pnt).map (tkD c ps))), .odc (kvC (cF ss)), .val (.int x), .val (.int y), s9] =
    some (.nx [x0, x1, x2, x3, x4, .val (.list ((tkL c.geo ps pnt).map (tkD c ps))), .odc (kvC (cF (ss ++ nms c (Hh c ps pnt) [(x, y)]))), .val (.int x), .val (.int y), s9']) := by
  have e1 := T_first t x y
  have hl : (kvC (cF ss)).length < 3000000 := by
    unfold kvC
    rw [List.length_map]
    have := cF_len ss
    omega
  refine ⟨.val (hdD c (hitL c.geo ps pnt x y)), ?_⟩
  refine seq_of (set_of (lA_of (aC_of rfl (aC_of rfl (aC_of rfl rfl))) e1)) ?_
  cases hq : hitL c.geo ps pnt x y with
  | nil =>
    have en : nms c (Hh c ps pnt) [(x, y)] = [] := by
      show [(x, y)].filterMap (fun p => hname c (hitL c.geo ps pnt p.1 p.2)) = []
      rw [List.filterMap_cons_none (by show hname c (hitL c.geo ps pnt x y) = none; rw [hq]; rfl)]; rfl
    rw [en, List.append_nil]
    exact ifN (bT_of (l2_of (x := .none) (y := .none) (z := .bool false) rfl rfl rfl))
  | cons q r =>
    have en : nms c (Hh c ps pnt) [(x, y)] = [c.nm q] := by
      show [(x, y)].filterMap (fun p => hname c (hitL c.geo ps pnt p.1 p.2)) = [c.nm q]
      rw [List.filterMap_cons_some (by show hname c (hitL c.geo ps pnt x y) = some (c.nm q); rw [hq]; rfl)]; rfl
    rw [en]
    refine ifT (bT_of (l2_of (x := c.s q) (y := .none) (z := .bool true) rfl rfl rfl)) ?_
    refine (put_of (k := Sum.inr (c.nm q)) (d := .int ((getC (cF ss) (c.nm q) : Int) + 1)) (l2_of ((get_of rfl rfl rfl rfl).trans (congrArg some (get_C (c.nm q) (cF ss)))) rfl rfl) rfl rfl rfl hl).trans ?_
    rw [put_C]
    unfold cF
    rw [List.foldl_append]; rfl
theorem F_sh {l tp r b : Int} (hl : -100 ≤ l ∧ l ≤ 100) (htp : -100 ≤ tp ∧ tp ≤ 100) (hr : -100 ≤ r ∧ r ≤ 100) (hb : -100 ≤ b ∧ b ≤ 100) (hx : (r - l).toNat ≤ 60) (hy : (b - tp).toNat ≤ 60) :
    F_shares [c.d, .int l, .int tp, .int r, .int b] = some (dueL (nms c (Hh c ps pnt) (pts (Zs l (r - l).toNat) (Zs tp (b - tp).toNat)))) := by
  have hzx := Zs_len l (r - l).toNat
  have hzy := Zs_len tp (b - tp).toNat
  generalize hxs : Zs l (r - l).toNat = xs at hzx
  generalize hys : Zs tp (b - tp).toNat = ys at hzy
  obtain ⟨η', e, s7, s8, s9, rfl⟩ := sGo_all (t := tgN 7) (body := sFor (fun η => ((aC (eV 2) (aC (eV 4) aN)) η).bind rng2) (tgN 8) shY) PyData.int
    (fun done η => ∃ s7 s8 s9, η = [.val c.d, .val (.int l), .val (.int tp), .val (.int r), .val (.int b), .val (.list ((tkL c.geo ps pnt).map (tkD c ps))), .odc (kvC (cF (nms c (Hh c ps pnt) (pts done ys)))), s7, s8, s9]) xs (fun done x rest η hall hη => by
      obtain ⟨s7, s8, s9, rfl⟩ := hη
      have hdl : done.length ≤ 60 := by
        have := congrArg List.length hall
        rw [List.length_append, List.length_cons] at this
        omega
      obtain ⟨η2, e2, s8', s9', rfl⟩ := sGo_all (t := tgN 8) (body := shY) PyData.int
        (fun dn η => ∃ s8 s9, η = [.val c.d, .val (.int l), .val (.int tp), .val (.int r), .val (.int b), .val (.list ((tkL c.geo ps pnt).map (tkD c ps))), .odc (kvC (cF (nms c (Hh c ps pnt) (pts done ys ++ dn.map fun y => (x, y))))), .val (.int x), s8, s9]) ys (fun dn y rst η hal hη => by
          obtain ⟨s8, s9, rfl⟩ := hη
          have hdn : dn.length ≤ 60 := by
            have := congrArg List.length hal
            rw [List.length_append, List.length_cons] at this
            omega
          have hlen : (nms c (Hh c ps pnt) (pts done ys ++ dn.map fun y => (x, y))).length < 3000000 := by
            have h1 := nms_len c (Hh c ps pnt) (pts done ys ++ dn.map fun y => (x, y))
            rw [List.length_append, pts_len, List.length_map] at h1
            have h2 : done.length * ys.length ≤ 60 * 60 := Nat.mul_le_mul hdl (by omega)
            omega
          obtain ⟨s9', e⟩ := sh_turn t (x := x) (y := y) hlen (x0 := .val c.d) (x1 := .val (.int l)) (x2 := .val (.int tp)) (x3 := .val (.int r)) (x4 := .val (.int b)) (s9 := s9)
          refine ⟨_, _, rfl, e, .val (.int y), s9', ?_⟩
          rw [List.map_append, ← List.append_assoc, nms_app c (Hh c ps pnt) (pts done ys ++ dn.map fun y => (x, y))]; rfl) (η := [.val c.d, .val (.int l), .val (.int tp), .val (.int r), .val (.int b), .val (.list ((tkL c.geo ps pnt).map (tkD c ps))), .odc (kvC (cF (nms c (Hh c ps pnt) (pts done ys)))), .val (.int x), s8, s9]) ⟨s8, s9, by rw [List.map_nil, List.append_nil]⟩
      refine ⟨_, _, rfl, for_of ((bind_rng (aC_of rfl (aC_of rfl rfl)) (by omega) (by omega) (by omega) (by omega)).trans (by rw [hys])) e2, .val (.int x), s8', s9', ?_⟩
      rw [pts_app]) (η := [.val c.d, .val (.int l), .val (.int tp), .val (.int r), .val (.int b), .val (.list ((tkL c.geo ps pnt).map (tkD c ps))), .odc [], .un, .un, .un]) ⟨.un, .un, .un, rfl⟩
  refine run_of rfl ?_
  show g_shares F_takers F_first_at [.val c.d, .val (.int l), .val (.int tp), .val (.int r), .val (.int b), .un, .un, .un, .un, .un] = _
  refine seq_of (set_of (lA_of (aC_of rfl rfl) (T_takers t))) ?_
  refine seq_of (η1 := [.val c.d, .val (.int l), .val (.int tp), .val (.int r), .val (.int b), .val (.list ((tkL c.geo ps pnt).map (tkD c ps))), .odc [], .un, .un, .un]) rfl ?_
  refine seq_of (for_of ((bind_rng (aC_of rfl (aC_of rfl rfl)) (by omega) (by omega) (by omega) (by omega)).trans (by rw [hxs])) e) ?_
  generalize hss : nms c (Hh c ps pnt) (pts xs ys) = ss
  have hin : ∀ s ∈ ss, s ∈ (List.range 7).map fun i => c.nm (i + 1) := by rw [← hss]; exact nms_in t _
  have hnd : ((cF ss).map (·.1)).Nodup := by rw [cF_key]; exact sd_nodup ss [] List.nodup_nil
  have h7 : (cF ss).length ≤ 7 := by
    have := nd_len ((cF ss).map (·.1)) ((List.range 7).map fun i => c.nm (i + 1)) hnd fun x hx => by
      rw [cF_key] at hx
      rcases sd_mem ss [] hx with h | h
      · cases h
      · exact hin x h
    rwa [List.length_map, List.length_map, List.length_range] at this
  refine ret_of (l1_of rfl ?_)
  show (asKs (prs (kvC (cF ss)))).bind _ = _
  rw [asKs_C, Option.bind_some]
  have ek : ((cF ss).map fun p => (p.1, PyData.int (p.2 : Nat))).map (·.1) = (cF ss).map (·.1) := by rw [List.map_map]; rfl
  rw [ek, if_pos ⟨by rw [List.length_map]; exact h7, hnd⟩, cF_key]
  unfold dueL
  refine congrArg (fun l => some (PyData.list l)) (List.map_congr_left fun k hk => ?_)
  have hk' : k ∈ (cF ss).map (·.1) := by
    rw [cF_key]
    exact (List.mergeSort_perm _ _).mem_iff.mp hk
  rw [lkS_C k _ hk', cF_cnt]
end
end K55
namespace K55
open PySem L2 L2.PU
theorem ext_of {i : Nat} {f : En → Option (List PyData)} {η : En} {es ds : List PyData} (h1 : f η = some es) (h2 : η[i]? = some (.own ds)) (h3 : ds.length + es.length ≤ 3000000) : sExt i f η = some (.nx (η.set i (.own (ds ++ es)))) := by
  unfold sExt
  rw [h1, Option.bind_some, h2]
  exact if_pos (big h3)
theorem par_of {i j : Nat} {fs : En → Option (List PyData)} {η : En} {x y : PyData} (h : fs η = some [x, y]) : sPar i j fs η = some (.nx ((η.set i (.val x)).set j (.val y))) := by
  unfold sPar
  rw [h]; rfl
noncomputable def ptD (p : Int × Int) : PyData := .tuple [.int p.1, .int p.2]
theorem sh_hd {c : Sc} (h : c.Ok) (l : List Nat) : SeqAt.shaped (hdD c l) = true := by
  cases l with
  | nil => rfl
  | cons q r => exact shaped_str (h.ok q)
theorem sh_list {α : Type} (D : α → PyData) (h : ∀ x, PyData.depth (D x) = 1) : ∀ l : List α, (∀ x ∈ l, PyData.canLay0 (D x) = true) → PyData.canLayAll0 (l.map D) = true ∧ PyData.depthAll (l.map D) ≤ 1
  | [], _ => ⟨rfl, Nat.zero_le _⟩
  | x :: r, hc => by
    obtain ⟨a, b⟩ := sh_list D h r fun y hy => hc y (List.mem_cons_of_mem _ hy)
    rw [List.map_cons]
    simp only [PyData.canLayAll0, PyData.depthAll]
    rw [hc x List.mem_cons_self, a, h x]
    exact ⟨rfl, by omega⟩
theorem shl {α : Type} (D : α → PyData) (h : ∀ x, PyData.depth (D x) = 1) {l : List α} (hc : ∀ x ∈ l, PyData.canLay0 (D x) = true) : SeqAt.shaped (.list (l.map D)) = true := by
  obtain ⟨a, b⟩ := sh_list D h l hc
  unfold SeqAt.shaped PyData.canLay0 PyData.depth
  rw [a, Bool.true_and, decide_eq_true_eq]
  omega
theorem sh_pts (l : List (Int × Int)) : SeqAt.shaped (.list (l.map ptD)) = true :=
  shl ptD (fun x => by simp [ptD, PyData.depth, PyData.depthAll]) fun x _ => by simp [ptD, PyData.canLay0, PyData.canLayAll0]
theorem sh_due {ss : List Str} (h : ∀ s ∈ ss, PyData.strOk s = true) : SeqAt.shaped (dueL ss) = true :=
  shl (fun k => .tuple [.str k, .int (ss.count k : Nat)]) (fun x => by simp [PyData.depth, PyData.depthAll]) fun k hk => by
    have hk' := (List.mergeSort_perm _ _).mem_iff.mp hk
    rcases sd_mem ss [] hk' with z | z
    · cases z
    · simp [PyData.canLay0, PyData.canLayAll0, h k z]
noncomputable def ne2 (c1 c2 : Sc) (H1 H2 : Int → Int → List Nat) (p : Int × Int) : Bool := !PyData.eqv (hdD c1 (H1 p.1 p.2)) (hdD c2 (H2 p.1 p.2))
theorem pNe_hd {c1 c2 : Sc} (h1 : c1.Ok) (h2 : c2.Ok) (l1 l2 : List Nat) : pNe (hdD c1 l1) (hdD c2 l2) = some (.bool (!PyData.eqv (hdD c1 l1) (hdD c2 l2))) := by
  unfold pNe
  rw [if_pos ⟨sh_hd h1 l1, sh_hd h2 l2⟩]
section
variable {c1 c2 : Sc} {ps1 ps2 pn1 pn2 : List Nat} (t1 : Tr c1 ps1 (In ps1) pn1) (t2 : Tr c2 ps2 (In ps2) pn2)
include t1 t2
theorem F_unl {l tp r b : Int} (hl : -100 ≤ l ∧ l ≤ 100) (htp : -100 ≤ tp ∧ tp ≤ 100) (hr : -100 ≤ r ∧ r ≤ 100) (hb : -100 ≤ b ∧ b ≤ 100) (hx : (r - l).toNat ≤ 60) (hy : (b - tp).toNat ≤ 60) :
    F_unlike_points [c1.d, c2.d, .int l, .int tp, .int r, .int b] = some (.list (((pts (Zs l (r - l).toNat) (Zs tp (b - tp).toNat)).filter (ne2 c1 c2 (Hh c1 ps1 pn1) (Hh c2 ps2 pn2))).map ptD)) := by
  have hzx := Zs_len l (r - l).toNat
  have hzy := Zs_len tp (b - tp).toNat
  generalize hxs : Zs l (r - l).toNat = xs at hzx
  generalize hys : Zs tp (b - tp).toNat = ys at hzy
  obtain ⟨η', e, s9, rfl⟩ := sGo_all (t := tgN 9) (body := sExt 8 (lI asL (oE (sComp [none, some 6, some 7, some 9] (fun η => ((aC (eV 3) (aC (eV 5) aN)) η).bind rng2) (tgN 0) (bT (l2 pNe (lA F_first_at (aC (eV 1) (aC (eV 3) (aC (eV 0) aN)))) (lA F_first_at (aC (eV 2) (aC (eV 3) (aC (eV 0) aN)))))) (lA (fun ds => if ds.length ≤ sizeLine then some (.tuple ds) else none) (aC (eV 3) (aC (eV 0) aN))))))) PyData.int
    (fun done η => ∃ s9, η = [.val c1.d, .val c2.d, .val (.int l), .val (.int tp), .val (.int r), .val (.int b), .val (.list ((tkL c1.geo ps1 pn1).map (tkD c1 ps1))), .val (.list ((tkL c2.geo ps2 pn2).map (tkD c2 ps2))), .own (((pts done ys).filter (ne2 c1 c2 (Hh c1 ps1 pn1) (Hh c2 ps2 pn2))).map ptD), s9]) xs (fun done x rest η hall hη => by
      obtain ⟨s9, rfl⟩ := hη
      have hdl : done.length ≤ 60 := by
        have := congrArg List.length hall
        rw [List.length_append, List.length_cons] at this
        omega
      have hc : sComp [none, some 6, some 7, some 9] (fun η => ((aC (eV 3) (aC (eV 5) aN)) η).bind rng2) (tgN 0) (bT (l2 pNe (lA F_first_at (aC (eV 1) (aC (eV 3) (aC (eV 0) aN)))) (lA F_first_at (aC (eV 2) (aC (eV 3) (aC (eV 0) aN)))))) (lA (fun ds => if ds.length ≤ sizeLine then some (.tuple ds) else none) (aC (eV 3) (aC (eV 0) aN)))
          [.val c1.d, .val c2.d, .val (.int l), .val (.int tp), .val (.int r), .val (.int b), .val (.list ((tkL c1.geo ps1 pn1).map (tkD c1 ps1))), .val (.list ((tkL c2.geo ps2 pn2).map (tkD c2 ps2))), .own (((pts done ys).filter (ne2 c1 c2 (Hh c1 ps1 pn1) (Hh c2 ps2 pn2))).map ptD), .val (.int x)] = some (((ys.map fun y => (x, y)).filter (ne2 c1 c2 (Hh c1 ps1 pn1) (Hh c2 ps2 pn2))).map ptD) := by
        refine comp_eq (ds := ys.map PyData.int) ((bind_rng (aC_of rfl (aC_of rfl rfl)) (by omega) (by omega) (by omega) (by omega)).trans (by rw [hys])) (by rw [List.length_map]; omega) ?_
        refine (cGo_map PyData.int (fun y => ne2 c1 c2 (Hh c1 ps1 pn1) (Hh c2 ps2 pn2) (x, y)) (fun y => ptD (x, y)) ys fun y _ => ⟨_, rfl, bT_of (l2_of (lA_of (aC_of rfl (aC_of rfl (aC_of rfl rfl))) (T_first t1 x y)) (lA_of (aC_of rfl (aC_of rfl (aC_of rfl rfl))) (T_first t2 x y)) (pNe_hd t1.ok t2.ok _ _)), fun _ => lA_of (aC_of rfl (aC_of rfl rfl)) (tup1_ok (by simp))⟩).trans ?_
        rw [List.filter_map, List.map_map]; rfl
      have l1 : (((pts done ys).filter (ne2 c1 c2 (Hh c1 ps1 pn1) (Hh c2 ps2 pn2))).map ptD).length ≤ 3600 := by
        rw [List.length_map]
        have h1 := List.length_filter_le (ne2 c1 c2 (Hh c1 ps1 pn1) (Hh c2 ps2 pn2)) (pts done ys)
        rw [pts_len] at h1
        have h2 : done.length * ys.length ≤ 60 * 60 := Nat.mul_le_mul hdl (by omega)
        omega
      have l2' : (((ys.map fun y => (x, y)).filter (ne2 c1 c2 (Hh c1 ps1 pn1) (Hh c2 ps2 pn2))).map ptD).length ≤ 60 := by
        rw [List.length_map]
        have h1 := List.length_filter_le (ne2 c1 c2 (Hh c1 ps1 pn1) (Hh c2 ps2 pn2)) (ys.map fun y => (x, y))
        rw [List.length_map] at h1
        omega
      refine ⟨_, _, rfl, ext_of (lI_of (oE_of hc) rfl) rfl (by omega), .val (.int x), ?_⟩
      rw [pts_app, List.filter_append, List.map_append]; rfl) (η := [.val c1.d, .val c2.d, .val (.int l), .val (.int tp), .val (.int r), .val (.int b), .val (.list ((tkL c1.geo ps1 pn1).map (tkD c1 ps1))), .val (.list ((tkL c2.geo ps2 pn2).map (tkD c2 ps2))), .own [], .un]) ⟨.un, rfl⟩
  refine run_of rfl ?_
  show g_unlike_points F_takers F_first_at [.val c1.d, .val c2.d, .val (.int l), .val (.int tp), .val (.int r), .val (.int b), .un, .un, .un, .un] = _
  refine seq_of (set_of (lA_of (aC_of rfl rfl) (T_takers t1))) ?_
  refine seq_of (set_of (lA_of (aC_of rfl rfl) (T_takers t2))) ?_
  refine seq_of (setO_of (d := []) (gL_ok (by decide))) ?_
  exact seq_of (for_of ((bind_rng (aC_of rfl (aC_of rfl rfl)) (by omega) (by omega) (by omega) (by omega)).trans (by rw [hxs])) e) rfl
end
theorem hd_filter (c : Sc) (H : Int → Int → List Nat) : ∀ l : List (Int × Int), ((l.filter fun p => !isNn (hdD c (H p.1 p.2))).map fun p => hdD c (H p.1 p.2)) = (nms c H l).map PyData.str
  | [] => rfl
  | p :: r => by
    have ih := hd_filter c H r
    unfold nms at ih ⊢
    cases hq : H p.1 p.2 with
    | nil =>
      rw [List.filter_cons_of_neg (by rw [hq]; simp [hdD, isNn]), List.filterMap_cons_none (by rw [hq]; rfl), ih]
    | cons q l =>
      rw [List.filter_cons_of_pos (by rw [hq]; rfl), List.filterMap_cons_some (by rw [hq]; rfl), List.map_cons, ih, hq]; rfl
theorem hd_count (c : Sc) (H : Int → Int → List Nat) (k : Str) : ∀ l : List (Int × Int), ((l.map fun p => hdD c (H p.1 p.2)).countP fun z => PyData.eqv z (.str k)) = (nms c H l).count k
  | [] => rfl
  | p :: r => by
    have ih := hd_count c H k r
    unfold nms at ih ⊢
    rw [List.map_cons, List.countP_cons, ih]
    cases hq : H p.1 p.2 with
    | nil =>
      rw [List.filterMap_cons_none (by rw [hq]; rfl)]
      have : PyData.eqv (hdD c []) (.str k) = false := by simp [hdD, PyData.eqv]
      rw [this]; simp
    | cons q l =>
      rw [List.filterMap_cons_some (by rw [hq]; rfl), List.count_cons]
      have : PyData.eqv (hdD c (q :: l)) (.str k) = (c.nm q == k) := by simp [hdD, Sc.s, PyData.eqv]
      rw [this]
theorem flat_hd (c : Sc) (H : Int → Int → List Nat) (l : List (Int × Int)) : (l.map fun p => hdD c (H p.1 p.2)).all flatD = true := by
  rw [List.all_map, List.all_eq_true]
  intro p _
  show flatD (hdD c (H p.1 p.2)) = true
  cases H p.1 p.2 with
  | nil => rfl
  | cons q r => rfl
end K55
namespace K55
open PySem L2 L2.PU
theorem cp_em : cp ("" : Str) = [] := by decide +kernel
theorem join_snoc (s : Str) : ∀ l : List Str, Str.join "" (l ++ [s]) = Str.join "" l ++ s
  | [] => cp_ext (by rw [cp_app]; show cp s = cp Str.empty ++ cp s; simp [Str.empty, cp])
  | [x] => cp_ext (by show cp (x ++ "" ++ s) = cp (x ++ s); rw [cp_app, cp_app, cp_app, cp_em, List.append_nil])
  | x :: y :: r => by
    have ih := join_snoc s (y :: r)
    show x ++ "" ++ Str.join "" ((y :: r) ++ [s]) = x ++ "" ++ Str.join "" (y :: r) ++ s
    rw [ih]
    exact (Str.append_assoc _ _ _).symm
theorem row_snoc (c : Sc) (H : Int → Int → List Nat) (xs : List Int) (x y : Int) : rowT c H (xs ++ [x]) y = rowT c H xs y ++ sgn c (H x y) := by
  unfold rowT
  rw [List.map_append]
  exact join_snoc _ _
theorem pic_snoc (c : Sc) (H : Int → Int → List Nat) (xs ys : List Int) (y : Int) : picT c H xs (ys ++ [y]) = picT c H xs ys ++ rowT c H xs y ++ NL := by
  unfold picT
  rw [List.map_append]
  refine (join_snoc _ _).trans ?_
  exact (Str.append_assoc _ _ _).symm
theorem em_eq : (Str.empty : Str) = "" := by decide +kernel
section
variable {c : Sc} {ps : List Nat} (t : TrS c ps) (tr : Tr c ps (In ps) (kids (stF ps) 13 0)) (on : On c ps)
include t tr on
theorem pic_len (xs ys : List Int) (hx : xs.length ≤ 60) (hy : ys.length ≤ 60) : (picT c (Hh c ps (kids (stF ps) 13 0)) xs ys).length ≤ 3660 := by
  have := len_join "" 61 (ys.map fun y => rowT c (Hh c ps (kids (stF ps) 13 0)) xs y ++ NL) fun s hs => by
    obtain ⟨y, _, rfl⟩ := List.mem_map.mp hs
    have := row_len tr on xs y hx
    rw [len_app, nl_len]; omega
  rw [em_len, List.length_map] at this
  unfold picT
  have h2 : ys.length * (61 + 0) ≤ 60 * 61 := Nat.mul_le_mul hy (by omega)
  omega
noncomputable def txX : En → Option Out := sSeq (sSet 12 (lA F__law_hit (aC (eV 3) (aC (eV 11) (aC (eV 10) aN))))) (sSet 9 (l2 pAdd (eV 9) (vIf (bT (l2 (pIsN false) (eV 12) (eC .none))) (eC (.str ".")) (l2 pIx (eV 12) (eC (.int 0))))))
noncomputable def txY : En → Option Out := sSeq (sFor (fun η => ((aC (eV 5) (aC (eV 7) aN)) η).bind rng2) (tgN 11) txX) (sSet 9 (l2 pAdd (eV 9) (eC (.str "\n"))))
theorem text_ok {l tp r b : Int} (hl : -100 ≤ l ∧ l ≤ 100) (htp : -100 ≤ tp ∧ tp ≤ 100) (hr : -100 ≤ r ∧ r ≤ 100) (hb : -100 ≤ b ∧ b ≤ 100) {xs ys : List Int} (hxs : Zs l (r - l).toNat = xs) (hxl : xs.length ≤ 60) (hyl : ys.length ≤ 60) {x0 x1 x2 x4 : Sl} :
    ∃ s10 s11 s12 : Sl, sGo (tgN 10) txY (ys.map PyData.int) [x0, x1, x2, .val (.list ((tkL c.geo ps (kids (stF ps) 13 0)).map (rwD c ps))), x4, .val (.int l), .val (.int tp), .val (.int r), .val (.int b), .val (.str ""), .un, .un, .un, .un, .un, .un, .un, .un] =
      some (.nx [x0, x1, x2, .val (.list ((tkL c.geo ps (kids (stF ps) 13 0)).map (rwD c ps))), x4, .val (.int l), .val (.int tp), .val (.int r), .val (.int b), .val (.str (picT c (Hh c ps (kids (stF ps) 13 0)) xs ys)), s10, s11, s12, .un, .un, .un, .un, .un]) := by
  obtain ⟨η', e, s10, s11, s12, rfl⟩ := sGo_all (t := tgN 10) (body := txY) PyData.int
    (fun done η => ∃ s10 s11 s12, η = [x0, x1, x2, .val (.list ((tkL c.geo ps (kids (stF ps) 13 0)).map (rwD c ps))), x4, .val (.int l), .val (.int tp), .val (.int r), .val (.int b), .val (.str (picT c (Hh c ps (kids (stF ps) 13 0)) xs done)), s10, s11, s12, .un, .un, .un, .un, .un]) ys (fun done y rest η hall hη => by
      obtain ⟨s10, s11, s12, rfl⟩ := hη
      have hdl : done.length ≤ 60 := by
        have := congrArg List.length hall
        rw [List.length_append, List.length_cons] at this
        omega
      have hpl := pic_len t tr on xs done hxl hdl
      obtain ⟨η2, e2, s11', s12', rfl⟩ := sGo_all (t := tgN 11) (body := txX) PyData.int
        (fun dn η => ∃ s11 s12, η = [x0, x1, x2, .val (.list ((tkL c.geo ps (kids (stF ps) 13 0)).map (rwD c ps))), x4, .val (.int l), .val (.int tp), .val (.int r), .val (.int b), .val (.str (picT c (Hh c ps (kids (stF ps) 13 0)) xs done ++ rowT c (Hh c ps (kids (stF ps) 13 0)) dn y)), .val (.int y), s11, s12, .un, .un, .un, .un, .un]) xs (fun dn x rst η hal hη => by
          obtain ⟨s11, s12, rfl⟩ := hη
          have hdn : dn.length ≤ 60 := by
            have := congrArg List.length hal
            rw [List.length_append, List.length_cons] at this
            omega
          have hrl := row_len tr on dn y hdn
          have e12 := L_hit t x y
          refine ⟨_, [x0, x1, x2, .val (.list ((tkL c.geo ps (kids (stF ps) 13 0)).map (rwD c ps))), x4, .val (.int l), .val (.int tp), .val (.int r), .val (.int b), .val (.str (picT c (Hh c ps (kids (stF ps) 13 0)) xs done ++ rowT c (Hh c ps (kids (stF ps) 13 0)) dn y ++ sgn c (Hh c ps (kids (stF ps) 13 0) x y))), .val (.int y), .val (.int x), .val (hdD c (Hh c ps (kids (stF ps) 13 0) x y)), .un, .un, .un, .un, .un], rfl, ?_, .val (.int x), .val (hdD c (Hh c ps (kids (stF ps) 13 0) x y)), ?_⟩
          · refine seq_of (set_of (lA_of (aC_of rfl (aC_of rfl (aC_of rfl rfl))) e12)) ?_
            refine (set_of (d := .str (picT c (Hh c ps (kids (stF ps) 13 0)) xs done ++ rowT c (Hh c ps (kids (stF ps) 13 0)) dn y ++ sgn c (Hh c ps (kids (stF ps) 13 0) x y))) (l2_of rfl (sgE (H_on tr on x y) rfl) ?_)).trans rfl
            refine addS ?_
            rw [len_app, sgn_len (H_on tr on x y)]
            omega
          · rw [row_snoc, ← Str.append_assoc]) (η := [x0, x1, x2, .val (.list ((tkL c.geo ps (kids (stF ps) 13 0)).map (rwD c ps))), x4, .val (.int l), .val (.int tp), .val (.int r), .val (.int b), .val (.str (picT c (Hh c ps (kids (stF ps) 13 0)) xs done)), .val (.int y), s11, s12, .un, .un, .un, .un, .un]) ⟨s11, s12, by
            have : rowT c (Hh c ps (kids (stF ps) 13 0)) [] y = "" := em_eq
            rw [this, show picT c (Hh c ps (kids (stF ps) 13 0)) xs done ++ "" = picT c (Hh c ps (kids (stF ps) 13 0)) xs done from cp_ext (by rw [cp_app, cp_em, List.append_nil])]⟩
      have hrl := row_len tr on xs y hxl
      refine ⟨_, [x0, x1, x2, .val (.list ((tkL c.geo ps (kids (stF ps) 13 0)).map (rwD c ps))), x4, .val (.int l), .val (.int tp), .val (.int r), .val (.int b), .val (.str (picT c (Hh c ps (kids (stF ps) 13 0)) xs done ++ rowT c (Hh c ps (kids (stF ps) 13 0)) xs y ++ NL)), .val (.int y), s11', s12', .un, .un, .un, .un, .un], rfl, ?_, .val (.int y), s11', s12', by rw [pic_snoc]⟩
      refine seq_of (for_of ((bind_rng (aC_of rfl (aC_of rfl rfl)) (by omega) (by omega) (by omega) (by omega)).trans (by rw [hxs])) e2) ?_
      refine (set_of (d := .str (picT c (Hh c ps (kids (stF ps) 13 0)) xs done ++ rowT c (Hh c ps (kids (stF ps) 13 0)) xs y ++ NL)) (l2_of rfl rfl ?_)).trans rfl
      rw [nl_eq]
      exact addS (by rw [len_app, nl_len]; omega)) (η := [x0, x1, x2, .val (.list ((tkL c.geo ps (kids (stF ps) 13 0)).map (rwD c ps))), x4, .val (.int l), .val (.int tp), .val (.int r), .val (.int b), .val (.str ""), .un, .un, .un, .un, .un, .un, .un, .un]) ⟨.un, .un, .un, by
      rw [show picT c (Hh c ps (kids (stF ps) 13 0)) xs [] = "" from em_eq]⟩
  exact ⟨s10, s11, s12, e⟩
end
noncomputable def ptB2 : En → Option Out := sSet 13 (l2 pAdd (eV 13) (oE (sComp [none, some 11] (fun η => ((aC (eV 6) (aC (eV 8) aN)) η).bind rng2) (tgN 0) tTrue (lA (fun ds => if ds.length ≤ sizeLine then some (.tuple ds) else none) (aC (eV 1) (aC (eV 0) aN))))))
theorem pts_ok {l tp r b : Int} (htp : -100 ≤ tp ∧ tp ≤ 100) (hb : -100 ≤ b ∧ b ≤ 100) {xs ys : List Int} (hys : Zs tp (b - tp).toNat = ys) (hxl : xs.length ≤ 60) (hyl : ys.length ≤ 60) {x0 x1 x2 x3 x4 x9 x10 s11 x12 : Sl} :
    ∃ s11' : Sl, sGo (tgN 11) ptB2 (xs.map PyData.int) [x0, x1, x2, x3, x4, .val (.int l), .val (.int tp), .val (.int r), .val (.int b), x9, x10, s11, x12, .val (.list []), .un, .un, .un, .un] =
      some (.nx [x0, x1, x2, x3, x4, .val (.int l), .val (.int tp), .val (.int r), .val (.int b), x9, x10, s11', x12, .val (.list ((pts xs ys).map ptD)), .un, .un, .un, .un]) := by
  obtain ⟨η', e, s11', rfl⟩ := sGo_all (t := tgN 11) (body := ptB2) PyData.int
    (fun done η => ∃ s11, η = [x0, x1, x2, x3, x4, .val (.int l), .val (.int tp), .val (.int r), .val (.int b), x9, x10, s11, x12, .val (.list ((pts done ys).map ptD)), .un, .un, .un, .un]) xs (fun done x rest η hall hη => by
      obtain ⟨s11, rfl⟩ := hη
      have hdl : done.length ≤ 60 := by
        have := congrArg List.length hall
        rw [List.length_append, List.length_cons] at this
        omega
      have hc : sComp [none, some 11] (fun η => ((aC (eV 6) (aC (eV 8) aN)) η).bind rng2) (tgN 0) tTrue (lA (fun ds => if ds.length ≤ sizeLine then some (.tuple ds) else none) (aC (eV 1) (aC (eV 0) aN)))
          [x0, x1, x2, x3, x4, .val (.int l), .val (.int tp), .val (.int r), .val (.int b), x9, x10, .val (.int x), x12, .val (.list ((pts done ys).map ptD)), .un, .un, .un, .un] = some ((ys.map fun y => (x, y)).map ptD) := by
        refine comp_eq (ds := ys.map PyData.int) ((bind_rng (aC_of rfl (aC_of rfl rfl)) (by omega) (by omega) (by omega) (by omega)).trans (by rw [hys])) (by rw [List.length_map]; omega) ?_
        refine (cGo_mapT PyData.int (fun y => ptD (x, y)) ys fun y _ => ⟨_, rfl, lA_of (aC_of rfl (aC_of rfl rfl)) (tup1_ok (by simp))⟩).trans ?_
        rw [List.map_map]; rfl
      have h2 : done.length * ys.length ≤ 60 * 60 := Nat.mul_le_mul hdl hyl
      refine ⟨_, _, rfl, set_of (l2_of rfl (oE_of hc) (addL (by rw [List.length_map, List.length_map, List.length_map, pts_len]; omega))), .val (.int x), ?_⟩
      rw [pts_app, List.map_append]; rfl) (η := [x0, x1, x2, x3, x4, .val (.int l), .val (.int tp), .val (.int r), .val (.int b), x9, x10, s11, x12, .val (.list []), .un, .un, .un, .un]) ⟨s11, rfl⟩
  exact ⟨s11', e⟩
noncomputable def isS (o : Option PyData) (s : Str) : Bool := match o with
  | some (.str x) => x == s
  | _ => false
theorem isS_of {o : Option PyData} {s : Str} (h : isS o s = true) : o = some (.str s) := by
  unfold isS at h
  split at h
  · rename_i x
    rw [show x = s by simpa using h]
  · cases h
noncomputable def isNil (o : Option PyData) : Bool := match o with
  | some (.list []) => true
  | _ => false
theorem isNil_of {o : Option PyData} (h : isNil o = true) : o = some (.list []) := by
  unfold isNil at h
  split at h
  · rfl
  · cases h
noncomputable def namedD : PyData := .tuple [.tuple [.str "ab", .str "", .int 0, .int 0, .int 2, .int 2, .str ""], .tuple [.str "cd", .str "ab", .int 1, .int 1, .int 3, .int 3, .str ""]]
theorem known1 : isS (F_picture [namedD, .int 0, .int 0, .int 3, .int 3]) "aa.\nacc\n.cc\n" = true := by decide +kernel
theorem known2 : isS (F_picture [.tuple [], .int 1, .int 1, .int 1, .int 3]) "\n\n" = true := by decide +kernel
theorem known3 : isNil (F_shares [.tuple [], .int 0, .int 0, .int 3, .int 3]) = true := by decide +kernel
end K55
namespace K55
open PySem L2 L2.PU
theorem sc_all (ns : List Int) (hn : ns.length ≤ 63) {a0 : Int} (ha : 0 ≤ a0) : ∃ (c : Sc) (ps : List Nat), F__law_scene [Sd ns, .int a0] = some c.d ∧ TrS c ps ∧ Tr c ps (In ps) (kids (stF ps) 13 0) ∧ On c ps := by
  obtain ⟨d, tn, hd, hnm, hlen, es⟩ := scene_ok hn ha
  have okp : PsOk d.ps := ⟨by omega, hd.par⟩
  have okc : d.sc.Ok := ⟨hd.inj, hd.top, hd.ok, fun a => hd.okm _, by
    show (stF d.ps).length ≤ 12
    unfold stF
    rw [List.length_map, List.length_range]; omega⟩
  rw [← Dr.sc_d d] at es
  refine ⟨d.sc, d.ps, es, ⟨okc, rfl, okp⟩, ⟨okc, fun q h => h, fun q h => parN_st h.1 h.2, fun q h => path_eq okp h.1 h.2, fun q h x hx => P_in' okp q h hx, pnt_eq okp, fun q h => kids_mem okp h, kids_2 okp, okp⟩, fun q hq => ?_⟩
  obtain ⟨j, rfl⟩ : ∃ j, q = j + 1 := ⟨q - 1, by have := hq.1; omega⟩
  have h8 : j < 8 := by have := hq.2; omega
  exact ⟨_, by show d.nm (j + 1) = _; rw [hnm, nmT_lo h8]⟩
set_option maxHeartbeats 2000000 in
theorem main : ∀ ns : List Int, ns.length ≤ 63 → F_law [.list (ns.map PyData.int)] = some (.bool true) := fun ns hn => by
  obtain ⟨c1, ps1, es1, s1, t1, on1⟩ := sc_all ns hn (a0 := 0) (by decide)
  obtain ⟨c2, ps2, es2, s2, t2, on2⟩ := sc_all ns hn (a0 := 100) (by decide)
  obtain ⟨v0, b0, d0⟩ := drawn_ok hn (k := 200) (m := 12) (by decide) (by decide)
  obtain ⟨v1, b1, d1⟩ := drawn_ok hn (k := 201) (m := 12) (by decide) (by decide)
  obtain ⟨v2, b2, d2⟩ := drawn_ok hn (k := 202) (m := 8) (by decide) (by decide)
  obtain ⟨v3, b3, d3⟩ := drawn_ok hn (k := 203) (m := 8) (by decide) (by decide)
  generalize hl : ((v0 : Int) - 5) = l
  generalize htp : ((v1 : Int) - 5) = tp
  generalize hr : (l + (v2 : Int)) = r
  generalize hb : (tp + (v3 : Int)) = b
  have ll : -100 ≤ l ∧ l ≤ 100 := by omega
  have lt : -100 ≤ tp ∧ tp ≤ 100 := by omega
  have lr : -100 ≤ r ∧ r ≤ 100 := by omega
  have lb : -100 ≤ b ∧ b ≤ 100 := by omega
  have nx : (r - l).toNat ≤ 7 := by omega
  have ny : (b - tp).toNat ≤ 7 := by omega
  have ep := F_pic t1 on1 ll lt lr lb (by omega) (by omega)
  have esh := F_sh t1 ll lt lr lb (by omega) (by omega)
  have eu := F_unl t1 t2 ll lt lr lb (by omega) (by omega)
  have hxl := Zs_len l (r - l).toNat
  have hyl := Zs_len tp (b - tp).toNat
  generalize hxs : Zs l (r - l).toNat = xs at ep esh eu hxl
  generalize hys : Zs tp (b - tp).toNat = ys at ep esh eu hyl
  have a1 := L_areas s1
  have a2 := L_areas s2
  generalize hM1 : PyData.list ((tkL c1.geo ps1 (kids (stF ps1) 13 0)).map (rwD c1 ps1)) = M1 at a1
  generalize hM2 : PyData.list ((tkL c2.geo ps2 (kids (stF ps2) 13 0)).map (rwD c2 ps2)) = M2 at a2
  have lh1 : ∀ x y : Int, F__law_hit [M1, .int x, .int y] = some (hdD c1 (Hh c1 ps1 (kids (stF ps1) 13 0) x y)) := fun x y => by rw [← hM1]; exact L_hit s1 x y
  have lh2 : ∀ x y : Int, F__law_hit [M2, .int x, .int y] = some (hdD c2 (Hh c2 ps2 (kids (stF ps2) 13 0) x y)) := fun x y => by rw [← hM2]; exact L_hit s2 x y
  obtain ⟨s10, s11, s12, et⟩ := text_ok s1 t1 on1 ll lt lr lb hxs (by omega) (ys := ys) (by omega) (x0 := .val (Sd ns)) (x1 := .val c1.d) (x2 := .val c2.d) (x4 := .val M2)
  rw [hM1] at et
  obtain ⟨s11', eq⟩ := pts_ok lt lb hys (xs := xs) (l := l) (r := r) (by omega) (by omega) (x0 := .val (Sd ns)) (x1 := .val c1.d) (x2 := .val c2.d) (x3 := .val M1) (x4 := .val M2) (x9 := .val (.str (picT c1 (Hh c1 ps1 (kids (stF ps1) 13 0)) xs ys))) (x10 := s10) (s11 := s11) (x12 := s12)
  generalize hH1 : Hh c1 ps1 (kids (stF ps1) 13 0) = H1 at ep esh eu lh1 et eq
  generalize hH2 : Hh c2 ps2 (kids (stF ps2) 13 0) = H2 at eu lh2
  have hpl : (pts xs ys).length ≤ 49 := by
    rw [pts_len]
    have : xs.length * ys.length ≤ 7 * 7 := Nat.mul_le_mul (by omega) (by omega)
    omega
  have hnl := nms_len c1 H1 (pts xs ys)
  have pok : PyData.strOk (picT c1 H1 xs ys) = true := by rw [← hH1]; exact pic_ok t1 xs ys
  have nok : ∀ s ∈ nms c1 H1 (pts xs ys), PyData.strOk s = true := fun s hs => by
    rw [← hH1] at hs
    obtain ⟨i, _, rfl⟩ := List.mem_map.mp (nms_in t1 _ s hs)
    exact t1.ok.ok _
  refine run_of rfl ?_
  show g_law F__law_scene F__law_areas F__law_drawn F__law_hit F_picture F_shares F_unlike_points [.val (Sd ns), .un, .un, .un, .un, .un, .un, .un, .un, .un, .un, .un, .un, .un, .un, .un, .un, .un] = _
  refine seq_of (par_of (aC_of (lA_of (aC_of rfl (aC_of rfl rfl)) es1) (aC_of (lA_of (aC_of rfl (aC_of rfl rfl)) es2) rfl))) ?_
  refine seq_of (unp2 (lA_of (aC_of (lA_of (aC_of rfl rfl) a1) (aC_of (lA_of (aC_of rfl rfl) a2) rfl)) (tup1_ok (by simp))) rfl) ?_
  refine seq_of (par_of (x := .int l) (y := .int tp) (aC_of (l2_of (lA_of (aC_of rfl (aC_of rfl (aC_of rfl rfl))) d0) rfl (by rw [← hl]; rfl)) (aC_of (l2_of (lA_of (aC_of rfl (aC_of rfl (aC_of rfl rfl))) d1) rfl (by rw [← htp]; rfl)) rfl))) ?_
  refine seq_of (par_of (x := .int r) (y := .int b) (aC_of (l2_of rfl (lA_of (aC_of rfl (aC_of rfl (aC_of rfl rfl))) d2) (by rw [← hr]; rfl)) (aC_of (l2_of rfl (lA_of (aC_of rfl (aC_of rfl (aC_of rfl rfl))) d3) (by rw [← hb]; rfl)) rfl))) ?_
  refine seq_of (set_of rfl) ?_
  refine seq_of (for_of ((bind_rng (aC_of rfl (aC_of rfl rfl)) (by omega) (by omega) (by omega) (by omega)).trans (by rw [hys])) et) ?_
  refine seq_of (ifN (bT_of (l2_of (lA_of (aC_of rfl (aC_of rfl (aC_of rfl (aC_of rfl (aC_of rfl rfl))))) ep) rfl (pNe_self (shaped_str pok))))) ?_
  refine seq_of (set_of (oE_of (ds := []) (gL_ok (by decide)))) ?_
  refine seq_of (for_of ((bind_rng (aC_of rfl (aC_of rfl rfl)) (by omega) (by omega) (by omega) (by omega)).trans (by rw [hxs])) eq) ?_
  refine seq_of (set_of (d := .list ((pts xs ys).map fun p => hdD c1 (H1 p.1 p.2))) (oE_of (comp_eq (ds := (pts xs ys).map ptD) rfl (by rw [List.length_map]; omega) (cGo_mapT ptD (fun p => hdD c1 (H1 p.1 p.2)) (pts xs ys) fun p _ => ⟨[.val (.int p.1), .val (.int p.2), .val M1], rfl, lA_of (aC_of rfl (aC_of rfl (aC_of rfl rfl))) (lh1 p.1 p.2)⟩)))) ?_
  refine seq_of (setO_of (d := (srtS ((nms c1 H1 (pts xs ys)).foldl sd [])).map fun k => .tuple [.str k, .int ((nms c1 H1 (pts xs ys)).count k : Nat)]) (comp_eq (ds := (srtS ((nms c1 H1 (pts xs ys)).foldl sd [])).map PyData.str) (lI_of (lA_of (aC_of (oE_of (ds := (nms c1 H1 (pts xs ys)).map PyData.str) ?_) rfl) (d := .list ((srtS ((nms c1 H1 (pts xs ys)).foldl sd [])).map PyData.str)) ?_) rfl) ?_ ?_)) ?_
  · refine comp_eq (ds := (pts xs ys).map fun p => hdD c1 (H1 p.1 p.2)) rfl (by rw [List.length_map]; omega) ?_
    rw [← hd_filter]
    exact cGo_map (t := tgN 0) (p := bT (l2 (pIsN true) (eV 0) (eC .none))) (f := eV 0) (η := [.un]) (fun p => hdD c1 (H1 p.1 p.2)) (fun p => !isNn (hdD c1 (H1 p.1 p.2))) (fun p => hdD c1 (H1 p.1 p.2)) (pts xs ys) fun p _ => ⟨[.val (hdD c1 (H1 p.1 p.2))], rfl, bT_of (l2_of rfl rfl rfl), fun _ => rfl⟩
  · show (if ((nms c1 H1 (pts xs ys)).map PyData.str).length < 64 then (asSs ((nms c1 H1 (pts xs ys)).map PyData.str)).bind fun ss => some (PyData.list ((srtS (ss.foldl sd [])).map PyData.str)) else none) = _
    rw [if_pos (by rw [List.length_map]; omega), asSs_strs]; rfl
  · rw [List.length_map]
    have h1 : (srtS ((nms c1 H1 (pts xs ys)).foldl sd [])).length = ((nms c1 H1 (pts xs ys)).foldl sd []).length := (List.mergeSort_perm _ _).length_eq
    have h2 := sd_len (nms c1 H1 (pts xs ys))
    omega
  · refine cGo_mapT PyData.str (fun k => .tuple [.str k, .int ((nms c1 H1 (pts xs ys)).count k : Nat)]) _ fun k _ => ⟨[.val (.str k), .val (.list ((pts xs ys).map fun p => hdD c1 (H1 p.1 p.2)))], rfl, lA_of (aC_of rfl (aC_of (d := .int ((nms c1 H1 (pts xs ys)).count k : Nat)) (l2_of rfl rfl ?_) rfl)) (tup1_ok (by simp))⟩
    show (if flatD (.str k) = true ∧ ((pts xs ys).map fun p => hdD c1 (H1 p.1 p.2)).all flatD = true then some (PyData.int ((((pts xs ys).map fun p => hdD c1 (H1 p.1 p.2)).countP fun z => PyData.eqv z (.str k) : Nat) : Int)) else none) = _
    rw [if_pos ⟨rfl, flat_hd c1 H1 _⟩, hd_count]
  refine seq_of (ifN (bT_of (l2_of (lA_of (aC_of rfl (aC_of rfl (aC_of rfl (aC_of rfl (aC_of rfl rfl))))) esh) rfl (pNe_self (sh_due nok))))) ?_
  refine seq_of (setO_of (d := ((pts xs ys).filter (ne2 c1 c2 H1 H2)).map ptD) (comp_eq (ds := (pts xs ys).map ptD) rfl (by rw [List.length_map]; omega) (cGo_map ptD (ne2 c1 c2 H1 H2) ptD (pts xs ys) fun p _ => ⟨[.val (.int p.1), .val (.int p.2), .val M1, .val M2], rfl, bT_of (l2_of (lA_of (aC_of rfl (aC_of rfl (aC_of rfl rfl))) (lh1 p.1 p.2)) (lA_of (aC_of rfl (aC_of rfl (aC_of rfl rfl))) (lh2 p.1 p.2)) (pNe_hd t1.ok t2.ok _ _)), fun _ => lA_of (aC_of rfl (aC_of rfl rfl)) (tup1_ok (by simp))⟩))) ?_
  refine seq_of (ifN (bT_of (l2_of (lA_of (aC_of rfl (aC_of rfl (aC_of rfl (aC_of rfl (aC_of rfl (aC_of rfl rfl)))))) eu) rfl (pNe_self (sh_pts _))))) ?_
  refine seq_of (set_of rfl) ?_
  refine seq_of (ifN (bT_of (l2_of (lA_of (aC_of rfl (aC_of rfl (aC_of rfl (aC_of rfl (aC_of rfl rfl))))) (isS_of known1)) rfl (pNe_self (shaped_str (by decide +kernel)))))) ?_
  have ez := F_pic t1 on1 (l := 3) (tp := 3) (r := 3) (b := 3) (by omega) (by omega) (by omega) (by omega) (by decide) (by decide)
  have ee : picT c1 (Hh c1 ps1 (kids (stF ps1) 13 0)) (Zs 3 (3 - 3 : Int).toNat) (Zs 3 (3 - 3 : Int).toNat) = "" := em_eq
  rw [ee] at ez
  refine ret_of (vAnd_of (a := true) (b := true) (l2_of (lA_of (aC_of (lA_of rfl (tup1_ok (by decide))) (aC_of rfl (aC_of rfl (aC_of rfl (aC_of rfl rfl))))) (isS_of known2)) rfl ?_) (vAnd_of (a := true) (b := true) (l2_of (lA_of (aC_of (lA_of rfl (tup1_ok (by decide))) (aC_of rfl (aC_of rfl (aC_of rfl (aC_of rfl rfl))))) (isNil_of known3)) (oE_of (ds := []) (gL_ok (by decide))) ?_) (l2_of (lA_of (aC_of rfl (aC_of rfl (aC_of rfl (aC_of rfl (aC_of rfl rfl))))) ez) rfl ?_)))
  · rw [pEq_str (by decide +kernel) (by decide +kernel)]; simp
  · rfl
  · rw [pEq_str em_ok em_ok]; simp
end K55
open PySem PySem.W PyProof.Rows
noncomputable def K55.view : Program := { PySem.Challenge.pw_touchtree_k55_pictures with main := { PySem.Challenge.pw_touchtree_k55_pictures.main with body := [35, 28, 17, 3, 0].foldl (fun l i => l.eraseIdx i) PySem.Challenge.pw_touchtree_k55_pictures.main.body } }
set_option hygiene false in
local macro_rules
  | `(tactic| o_head $H) => `(tactic| (
      refine holds_open (q := K55.view) (loose := []) (Xt := fun s => xlAt K55.view [] s && recOk (RowW.records (OpenRow.toRowW (OpenLaw.row PySem.Challenge.rw_touchtree_k55_pictures))) s) (XP := XL K55.view []) (Yf := Hook.obs $H) (Ya := Hook.val $H) (YP := Hook.says $H) (N := 2822) ?hl (Hook.of $H) (Hook.keeps $H) (fun s e => xl_of s (Bool.and_eq_true_iff.mp e).1) XL.keeps (by rfl) (by rfl) (by rfl) (fun s e => recFacts_of (Bool.and_eq_true_iff.mp e).2) (by rfl) (by assumption) (by decide +kernel) ⟨rfl, rfl, rfl, rfl, rfl, by decide +kernel⟩ ?hw ?hc
      (case hl => (intro w; unfold openEnds fencedOpening topFrom; rewrite [PySem.W.Fast.te10274390034422433532, PySem.W.Fast.te14082659384304107361, PySem.W.Fast.te14364793385576792824, PySem.W.Fast.te14289696077712309145, PySem.W.Fast.te1435165496053646825, PySem.W.Fast.te4187177175401517315, PySem.W.Fast.te5457214376629706303]; kernel_rfl))))
set_option maxRecDepth 100000 in
set_option maxHeartbeats 0 in
theorem PySem.Challenge.cw_touchtree_k55_pictures_holds : PySem.Challenge.rw_touchtree_k55_pictures.Holds := by
  w_on; o_law; k_head; (case hw => w_witness2)
  k_fill
  refine K55.walk K55.main (l := PySem.Challenge.rw_touchtree_k55_pictures) rfl rfl (fun w h Y => PySem.W.kIn_of Y) ?F
  case F =>
    intro w mg fa h KX G hmg
    refine' K55.all_mk KX G hmg ?a__law_cell ?l__law_cell ?c__law_cell ?k__law_cell ?a__law_drawn ?l__law_drawn ?c__law_drawn ?k__law_drawn ?a__law_scene ?l__law_scene ?c__law_scene ?k__law_scene ?a__law_painted ?l__law_painted ?c__law_painted ?k__law_painted ?a__law_box ?l__law_box ?c__law_box ?k__law_box ?a__law_path ?l__law_path ?c__law_path ?k__law_path ?a__law_area ?l__law_area ?c__law_area ?k__law_area ?a__law_areas ?l__law_areas ?c__law_areas ?k__law_areas ?a__law_hit ?l__law_hit ?c__law_hit ?k__law_hit ?a_children ?l_children ?c_children ?k_children ?a_box_of ?l_box_of ?c_box_of ?k_box_of ?a_below ?l_below ?c_below ?k_below ?a_painted ?l_painted ?c_painted ?k_painted ?a_path_of ?l_path_of ?c_path_of ?k_path_of ?a_has_mark ?l_has_mark ?c_has_mark ?k_has_mark ?a_is_shown ?l_is_shown ?c_is_shown ?k_is_shown ?a_area_of ?l_area_of ?c_area_of ?k_area_of ?a_overlap ?l_overlap ?c_overlap ?k_overlap ?a_window_of ?l_window_of ?c_window_of ?k_window_of ?a_takers ?l_takers ?c_takers ?k_takers ?a_has_point ?l_has_point ?c_has_point ?k_has_point ?a_first_at ?l_first_at ?c_first_at ?k_first_at ?a_sign_of ?l_sign_of ?c_sign_of ?k_sign_of ?a_picture ?l_picture ?c_picture ?k_picture ?a_shares ?l_shares ?c_shares ?k_shares ?a_unlike_points ?l_unlike_points ?c_unlike_points ?k_unlike_points ?a_law ?l_law ?c_law ?k_law ?c_AROUND ?c_CUTS_OFF ?c_HEIGHT ?c_HIDDEN ?c_LEFT ?c_LETS_BY ?c_MARKS ?c_NAME ?c_NOTHING ?c_ROW_END ?c_TOP ?c_WIDTH ?z_any ?z_enumerate ?z_len ?z_max ?z_min ?z_range ?z_reversed ?z_set ?z_sorted ?z_sum ?z_tuple ?z_zip
    (case a__law_cell => k_is); (case l__law_cell => k_is); (case c__law_cell => k_is); (case k__law_cell => k_is)
    (case a__law_drawn => k_is); (case l__law_drawn => k_is); (case c__law_drawn => k_is); (case k__law_drawn => k_is)
    (case a__law_scene => k_is); (case l__law_scene => k_is); (case c__law_scene => k_is); (case k__law_scene => k_is)
    (case a__law_painted => k_is); (case l__law_painted => k_is); (case c__law_painted => k_is); (case k__law_painted => k_is)
    (case a__law_box => k_is); (case l__law_box => k_is); (case c__law_box => k_is); (case k__law_box => k_is)
    (case a__law_path => k_is); (case l__law_path => k_is); (case c__law_path => k_is); (case k__law_path => k_is)
    (case a__law_area => k_is); (case l__law_area => k_is); (case c__law_area => k_is); (case k__law_area => k_is)
    (case a__law_areas => k_is); (case l__law_areas => k_is); (case c__law_areas => k_is); (case k__law_areas => k_is)
    (case a__law_hit => k_is); (case l__law_hit => k_is); (case c__law_hit => k_is); (case k__law_hit => k_is)
    (case a_children => k_is); (case l_children => k_is); (case c_children => k_is); (case k_children => k_is)
    (case a_box_of => k_is); (case l_box_of => k_is); (case c_box_of => k_is); (case k_box_of => k_is)
    (case a_below => k_is); (case l_below => k_is); (case c_below => k_is); (case k_below => k_is)
    (case a_painted => k_is); (case l_painted => k_is); (case c_painted => k_is); (case k_painted => k_is)
    (case a_path_of => k_is); (case l_path_of => k_is); (case c_path_of => k_is); (case k_path_of => k_is)
    (case a_has_mark => k_is); (case l_has_mark => k_is); (case c_has_mark => k_is); (case k_has_mark => k_is)
    (case a_is_shown => k_is); (case l_is_shown => k_is); (case c_is_shown => k_is); (case k_is_shown => k_is)
    (case a_area_of => k_is); (case l_area_of => k_is); (case c_area_of => k_is); (case k_area_of => k_is)
    (case a_overlap => k_is); (case l_overlap => k_is); (case c_overlap => k_is); (case k_overlap => k_is)
    (case a_window_of => k_is); (case l_window_of => k_is); (case c_window_of => k_is); (case k_window_of => k_is)
    (case a_takers => k_is); (case l_takers => k_is); (case c_takers => k_is); (case k_takers => k_is)
    (case a_has_point => k_is); (case l_has_point => k_is); (case c_has_point => k_is); (case k_has_point => k_is)
    (case a_first_at => k_is); (case l_first_at => k_is); (case c_first_at => k_is); (case k_first_at => k_is)
    (case a_sign_of => k_is); (case l_sign_of => k_is); (case c_sign_of => k_is); (case k_sign_of => k_is)
    (case a_picture => k_is); (case l_picture => k_is); (case c_picture => k_is); (case k_picture => k_is)
    (case a_shares => k_is); (case l_shares => k_is); (case c_shares => k_is); (case k_shares => k_is)
    (case a_unlike_points => k_is); (case l_unlike_points => k_is); (case c_unlike_points => k_is); (case k_unlike_points => k_is)
    (case a_law => k_is); (case l_law => k_is); (case c_law => k_is); (case k_law => k_is)
    (case c_AROUND => k_is)
    (case c_CUTS_OFF => k_is)
    (case c_HEIGHT => k_is)
    (case c_HIDDEN => k_is)
    (case c_LEFT => k_is)
    (case c_LETS_BY => k_is)
    (case c_MARKS => k_is)
    (case c_NAME => k_is)
    (case c_NOTHING => k_is)
    (case c_ROW_END => k_is)
    (case c_TOP => k_is)
    (case c_WIDTH => k_is)
    (case z_any => k_is)
    (case z_enumerate => k_is)
    (case z_len => k_is)
    (case z_max => k_is)
    (case z_min => k_is)
    (case z_range => k_is)
    (case z_reversed => k_is)
    (case z_set => k_is)
    (case z_sorted => k_is)
    (case z_sum => k_is)
    (case z_tuple => k_is)
    (case z_zip => k_is)
#print axioms PySem.Challenge.cw_touchtree_k55_pictures_holds
