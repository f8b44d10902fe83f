import PyProof.Rows.All
import Wide.All
import OpenK.AllK
import Wide.FinOn
import PyProof.EqAt
import PyProof.EqKinds
import PyProof.TupleCall
import PyProof.CompFree
import PyProof.Cells
import KE.KDictList
import KE.KDictLaws
import PyProof.Rows.SetFrom
import PyProof.StrWalks
import Lean
import PySem.Challenge.RW_touchtree_k07_whole_hits
set_option Elab.async false
set_option linter.all false
set_option maxRecDepth 100000
namespace L2
open PySem PySem.Spec PyProof.Rows
noncomputable abbrev Key := Sum Int Str
noncomputable def keyIs : Key → Value → Bool
  | .inl k, v => Value.isInt k v
  | .inr x, v => Value.isStrOf x v
noncomputable def keyH (w : World) : Key → Int
  | .inl k => hashInt k
  | .inr x => hashStr w x
theorem keyIs_shape : ∀ {k : Key} {v : Value}, keyIs k v = true → (∃ i t, k = Sum.inl i ∧ v = Value.int i t) ∨ (∃ x t, k = Sum.inr x ∧ v = Value.str x t)
  | .inl i, v, h => by
    obtain ⟨t, e⟩ := Value.isInt_shape (k := i) (v := v) h
    exact .inl ⟨i, t, rfl, e⟩
  | .inr x, v, h => by
    obtain ⟨t, e⟩ := Value.isStrOf_shape (x := x) (v := v) h
    exact .inr ⟨x, t, rfl, e⟩
theorem key_ll (a b : Int) : decide ((Sum.inl a : Key) = Sum.inl b) = (a == b) := by
  by_cases e : a = b
  · subst e; simp
  · have h : ¬ (Sum.inl a : Key) = Sum.inl b := fun q => e (Sum.inl.inj q)
    rw [decide_eq_false h]
    exact (beq_eq_false_iff_ne.mpr e).symm
theorem key_rr (a b : Str) : decide ((Sum.inr a : Key) = Sum.inr b) = decide (a = b) := by
  by_cases e : a = b
  · subst e; simp
  · have h : ¬ (Sum.inr a : Key) = Sum.inr b := fun q => e (Sum.inr.inj q)
    rw [decide_eq_false h, decide_eq_false e]
theorem key_lr (a : Int) (b : Str) : decide ((Sum.inl a : Key) = Sum.inr b) = false := decide_eq_false (fun q => nomatch q)
theorem key_rl (a : Str) (b : Int) : decide ((Sum.inr a : Key) = Sum.inl b) = false := decide_eq_false (fun q => nomatch q)
noncomputable def mixKind (prog : Program) (w : World) : PySem.KeyKind prog w Key where
  is := keyIs
  hash := keyH w
  inj := fun v a b ha hb => by
    rcases keyIs_shape ha with ⟨i, t, rfl, rfl⟩ | ⟨x, t, rfl, rfl⟩
    · rcases keyIs_shape hb with ⟨j, u, rfl, e⟩ | ⟨y, u, rfl, e⟩
      · injection e with e1 _; rw [e1]
      · exact nomatch e
    · rcases keyIs_shape hb with ⟨j, u, rfl, e⟩ | ⟨y, u, rfl, e⟩
      · exact nomatch e
      · injection e with e1 _; rw [e1]
  byValue := fun k v h => by
    rcases keyIs_shape h with ⟨i, t, rfl, rfl⟩ | ⟨x, t, rfl, rfl⟩ <;> rfl
  pyHash := fun hv h => by
    rcases keyIs_shape hv with ⟨i, t, rfl, rfl⟩ | ⟨x, t, rfl, rfl⟩
    · exact wpAny_pyHash_int h
    · exact wpAny_pyHash_str h
  eqBool := fun hu hv h => by
    rcases keyIs_shape hu with ⟨i, t, rfl, rfl⟩ | ⟨x, t, rfl, rfl⟩
    · rcases keyIs_shape hv with ⟨j, u, rfl, rfl⟩ | ⟨y, u, rfl, rfl⟩
      · rw [key_ll] at h; exact wpAny_eqBool_int h
      · rw [key_lr] at h; exact SeqAt.EqAt.int_str i t y u _ _ _ _ h
    · rcases keyIs_shape hv with ⟨j, u, rfl, rfl⟩ | ⟨y, u, rfl, rfl⟩
      · rw [key_rl] at h; exact SeqAt.EqAt.str_int x t j u _ _ _ _ h
      · rw [key_rr] at h; exact wpAny_eqBool_str h
  «strs» := fun k x t v h => by
    rcases keyIs_shape h with ⟨i, u, rfl, e⟩ | ⟨y, u, rfl, e⟩
    · exact nomatch e
    · injection e with e1 _
      subst e1
      cases v <;> rfl
end L2
namespace L2
open PySem PySem.Spec PyProof.Rows
inductive V where
  | non | bl (b : Bool) | int (i : Int) | str (x : Str) | byt (b : Array UInt8) | flt (b : UInt64) | ref (a : Addr) | ty (n : String)
  deriving DecidableEq
noncomputable def RelV : V → Value → Prop
  | .non, u => u = Value.none
  | .bl b, u => u = Value.bool b
  | .int i, u => ∃ t, u = Value.int i t
  | .str x, u => ∃ t, u = Value.str x t
  | .byt b, u => ∃ t, u = Value.bytes b t
  | .flt b, u => ∃ t, u = Value.float b t
  | .ref a, u => u = Value.ref a
  | .ty n, u => u = Value.type n
noncomputable abbrev Vals : List V → List Value → Prop := Paired RelV
theorem Vals.length {xs : List V} {us : List Value} (r : Vals xs us) : xs.length = us.length := Paired.length r
theorem Vals.get : ∀ {xs : List V} {us : List Value} {i : Nat} {x : V}, Vals xs us → xs[i]? = some x → ∃ u, us[i]? = some u ∧ RelV x u
  | _, _, _, _, .nil, e => by simp at e
  | _, _, 0, _, .cons r _, e => by simp at e; subst e; exact ⟨_, rfl, r⟩
  | _, _, i + 1, x, .cons _ t, e => by
    obtain ⟨u, h1, h2⟩ := Vals.get (i := i) (x := x) t (by simpa using e)
    exact ⟨u, by simpa using h1, h2⟩
theorem Vals.append : ∀ {xs ys : List V} {us ws : List Value}, Vals xs us → Vals ys ws → Vals (xs ++ ys) (us ++ ws)
  | _, _, _, _, .nil, s => s
  | _, _, _, _, .cons r t, s => .cons r (Vals.append t s)
theorem Vals.take : ∀ {xs : List V} {us : List Value} (n : Nat), Vals xs us → Vals (xs.take n) (us.take n)
  | _, _, 0, _ => .nil
  | _, _, _ + 1, .nil => .nil
  | _, _, n + 1, .cons r t => .cons r (Vals.take n t)
theorem Vals.drop : ∀ {xs : List V} {us : List Value} (n : Nat), Vals xs us → Vals (xs.drop n) (us.drop n)
  | _, _, 0, r => r
  | _, _, _ + 1, .nil => .nil
  | _, _, n + 1, .cons _ t => Vals.drop n t
noncomputable def RelO : Option V → Option Value → Prop
  | some v, some u => RelV v u
  | none, none => True
  | _, _ => False
noncomputable def KV {κ : Type} : List (κ × V) → List (κ × Value) → Prop := Paired fun (p : κ × V) (q : κ × Value) => p.1 = q.1 ∧ RelV p.2 q.2
noncomputable def kV : Key → V
  | .inl i => .int i
  | .inr x => .str x
inductive HO where
  | lst (xs : List V)
  | tup (xs : List V)
  | dK (kvs : List (Key × V)) | dT (kvs : List (List Key × V))
  | set (S : Int → Bool) (n : Nat)
  | ins (C dx : Addr) (fs : List (Str × V))
  | own (x : Addr)
  | xd (fs : List (Str × V))
  | met (f x : Addr)
  | rng (lo hi : Int)
  | frz (o : Obj) (u : HO)
  | tbl (ps : Array Value)
  | ext (φ : Heap → Prop)
noncomputable abbrev Hp := Addr → Option HO
noncomputable def upd (H : Hp) (a : Addr) (o : HO) : Hp := fun b => if b = a then some o else H b
theorem upd_same {H : Hp} {a : Addr} {o : HO} : upd H a o a = some o := by unfold upd; rw [if_pos rfl]
theorem upd_ne {H : Hp} {a b : Addr} {o : HO} (h : b ≠ a) : upd H a o b = H b := by unfold upd; rw [if_neg h]
theorem ne_of_none {H : Hp} {a b : Addr} {o : HO} (h : H a = some o) (h' : H b = none) : a ≠ b := by
  intro e; subst e; rw [h] at h'; cases h'
section
variable (P : Program) (w : World)
noncomputable def ObjOk (H : Hp) (h : Heap) (a : Addr) : HO → Prop
  | .lst xs => xs.length ≤ sizeLine ∧ ∃ (its : List Value) (n : Nat), Vals xs its ∧ h.get? a = some { cls := .type "list", data := .seq its.toArray n }
  | .tup xs => xs.length ≤ sizeLine ∧ ∃ its : List Value, Vals xs its ∧ IsTup h a its.toArray
  | .dK kvs => kvs.length ≤ sizeLine ∧ (a == sysModules) = false ∧ ∃ vs, KV kvs vs ∧ h.DictOf (mixKind P w) a vs
  | .dT kvs => kvs.length ≤ sizeLine ∧ (a == sysModules) = false ∧ ∃ xs : List (List Key × Addr × Value),
      Paired (fun (p : List Key × V) (q : List Key × Addr × Value) => p.1 = q.1 ∧ H q.2.1 = some (.tup (p.1.map kV)) ∧ RelV p.2 q.2.2) kvs xs ∧
      ∃ o es ep, h.get? a = some o ∧ o.ExactDict ∧ o.data = .dict es ep ∧ es.toList = xs.map (entryOfKey (tupleKind (mixKind P w))) ∧ (xs.map (·.1)).Nodup
  | .set S n => h.SetOf (intKind P w) a S n
  | .ins C dx fs => H dx = some (.own a) ∧ fs.length ≤ 1000 ∧ dx ≠ a ∧ h.get? a = some (PySem.W.instObj C dx) ∧
      ∃ mA, h.Ns1 dx mA ∧ (∀ f, RelO (fs.lookup f) (mA f)) ∧ PySem.Within mA (fs.map (·.1))
  | .own _ => ∃ o, h.get? a = some o
  | .xd fs => ∃ mA, h.Ns1 a mA ∧ ∀ f, RelO (fs.lookup f) (mA f)
  | .rng lo hi => ∃ t u v, h.get? a = some { cls := .type "range", data := .fields #[.int lo t, .int hi u, .int 1 v] }
  | .frz o u => h.get? a = some o ∧ ObjOk H h a u
  | .tbl ps => h.get? a = some { cls := .none, data := .fields ps }
  | .met f x => h.get? a = some (PySem.W.methodObj (.ref f) (.ref x))
  | .ext φ => φ h ∧ (∃ o, h.get? a = some o) ∧ ∀ h1 h2 : Heap, φ h1 → (∀ o, h1.get? a = some o → h2.get? a = some o) → φ h2
noncomputable def HOk (H : Hp) (h : Heap) : Prop := ∀ a o, H a = some o → ObjOk P w H h a o
end
section
variable {P : Program} {w : World} {H H' : Hp} {h h' : Heap} {a : Addr} {o : HO}
theorem ObjOk.lt (x : ObjOk P w H h a o) : a < h.objs.size := by
  cases o with
  | lst xs => obtain ⟨_, _, _, _, e⟩ := x; exact Heap.lt_size e
  | tup xs => obtain ⟨_, _, _, p⟩ := x; exact p.lt
  | dK kvs => obtain ⟨_, _, _, _, o, _, _, e, _⟩ := x; exact Heap.lt_size e
  | dT kvs => obtain ⟨_, _, _, _, o, _, _, e, _⟩ := x; exact Heap.lt_size e
  | set S n => obtain ⟨o, _, _, _, e, _⟩ := x; exact Heap.lt_size e
  | ins C dx fs => obtain ⟨_, _, _, e, _⟩ := x; exact Heap.lt_size e
  | own y => obtain ⟨_, e⟩ := x; exact Heap.lt_size e
  | xd fs => obtain ⟨_, ⟨_, _, _, e, _⟩, _⟩ := x; exact Heap.lt_size e
  | rng lo hi => obtain ⟨_, _, _, e⟩ := x; exact Heap.lt_size e
  | frz ob u => obtain ⟨e, _⟩ := x; exact Heap.lt_size e
  | tbl ps => exact Heap.lt_size (show h.get? a = some _ from x)
  | met f y => exact Heap.lt_size (show h.get? a = some _ from x)
  | ext φ => obtain ⟨_, ⟨_, e⟩, _⟩ := x; exact Heap.lt_size e
theorem Paired.mapP {α β : Type} {F G : α → β → Prop} : ∀ {l₁ : List α} {l₂ : List β}, Paired F l₁ l₂ → (∀ a b, F a b → G a b) → Paired G l₁ l₂
  | _, _, .nil, _ => .nil
  | _, _, .cons r t, f => .cons (f _ _ r) (Paired.mapP t f)
theorem ObjOk.stay (x : ObjOk P w H h a o) (k : ∀ b u, (b = a ∨ H b = some (.own a)) → h.get? b = some u → h'.get? b = some u)
    (ho : ∀ b, H b = some (.own a) → H' b = some (.own a)) (ht : ∀ b xs, H b = some (.tup xs) → H' b = some (.tup xs)) : ObjOk P w H' h' a o := by
  induction o with
  | lst xs => obtain ⟨z, its, n, r, e⟩ := x; exact ⟨z, its, n, r, k _ _ (.inl rfl) e⟩
  | tup xs => obtain ⟨z, its, r, ob, e, c⟩ := x; exact ⟨z, its, r, ob, k _ _ (.inl rfl) e, c⟩
  | dK kvs => obtain ⟨z, y, vs, r, ob, es, ep, e, c⟩ := x; exact ⟨z, y, vs, r, ob, es, ep, k _ _ (.inl rfl) e, c⟩
  | dT kvs =>
    obtain ⟨z, y, xs, r, ob, es, ep, e, c⟩ := x
    exact ⟨z, y, xs, Paired.mapP r fun p q z => ⟨z.1, ht _ _ z.2.1, z.2.2⟩, ob, es, ep, k _ _ (.inl rfl) e, c⟩
  | set S n => obtain ⟨ob, es, ep, t, e, c⟩ := x; exact ⟨ob, es, ep, t, k _ _ (.inl rfl) e, c⟩
  | ins C dx fs =>
    obtain ⟨d, z, ne, e, mA, ⟨od, es, ep, e2, c⟩, r⟩ := x
    exact ⟨ho _ d, z, ne, k _ _ (.inl rfl) e, mA, ⟨od, es, ep, k _ _ (.inr d) e2, c⟩, r⟩
  | own y => obtain ⟨ob, e⟩ := x; exact ⟨ob, k _ _ (.inl rfl) e⟩
  | xd fs => obtain ⟨mA, ⟨od, es, ep, e, c⟩, r⟩ := x; exact ⟨mA, ⟨od, es, ep, k _ _ (.inl rfl) e, c⟩, r⟩
  | rng lo hi => obtain ⟨t, u, v, e⟩ := x; exact ⟨t, u, v, k _ _ (.inl rfl) e⟩
  | frz ob u ih => obtain ⟨e, q⟩ := x; exact ⟨k _ _ (.inl rfl) e, ih q⟩
  | tbl ps =>
    have e : h.get? a = some { cls := .none, data := .fields ps } := x
    show h'.get? a = some { cls := .none, data := .fields ps }
    exact k a _ (.inl rfl) e
  | met f y =>
    have e : h.get? a = some (PySem.W.methodObj (.ref f) (.ref y)) := x
    show h'.get? a = some (PySem.W.methodObj (.ref f) (.ref y))
    exact k a _ (.inl rfl) e
  | ext φ => obtain ⟨p, ⟨o, e⟩, st⟩ := x; exact ⟨st _ _ p fun o q => k _ _ (.inl rfl) q, ⟨o, k _ _ (.inl rfl) e⟩, st⟩
theorem HOk.lt (x : HOk P w H h) (e : H a = some o) : a < h.objs.size := (x a o e).lt
theorem HOk.fresh (x : HOk P w H h) (e : h.objs.size ≤ a) : H a = none := by
  cases q : H a with
  | none => rfl
  | some u => exact absurd (Nat.lt_of_lt_of_le (x.lt q) e) (Nat.lt_irrefl _)
theorem HOk.kept (x : HOk P w H h) (k : ∀ b u, h.get? b = some u → h'.get? b = some u) : HOk P w H h' := fun a o e =>
  (x a o e).stay (fun b u _ q => k b u q) (fun _ q => q) fun _ _ q => q
theorem HOk.laid (x : HOk P w H h) (k : ∀ b u, h.get? b = some u → h'.get? b = some u) (hp : h.objs.size ≤ a) (new : ObjOk P w (upd H a o) h' a o) : HOk P w (upd H a o) h' := fun b u e => by
  have hn := x.fresh hp
  by_cases hb : b = a
  · subst hb; rw [upd_same] at e; cases e; exact new
  · rw [upd_ne hb] at e
    exact (x b u e).stay (fun c v _ q => k c v q) (fun c q => by rw [upd_ne (ne_of_none q hn)]; exact q) fun c xs q => by rw [upd_ne (ne_of_none q hn)]; exact q
end
noncomputable def Rd (H : Hp) (a : Addr) (u : HO) : Prop := H a = some u ∨ ∃ o, H a = some (.frz o u)
theorem Rd.ok {P : Program} {w : World} {H : Hp} {h : Heap} {a : Addr} {u : HO} (r : Rd H a u) (x : HOk P w H h) : ObjOk P w H h a u := by
  rcases r with r | ⟨o, r⟩
  · exact x a u r
  · obtain ⟨_, q⟩ := x a _ r
    exact q
noncomputable def Mut : Option HO → Prop
  | some (.lst _) => True
  | some (.dK _) => True
  | some (.dT _) => True
  | some (.set _ _) => True
  | some (.ins _ _ _) => True
  | some (.ext _) => True
  | _ => False
section
variable {P : Program} {w : World} {H : Hp} {h h' : Heap} {x e : Addr} {o' : HO}
theorem HOk.write (ok : HOk P w H h) (mu : Mut (H x)) (he : e = x ∨ H e = some (.own x)) (k : ∀ b u, b ≠ e → h.get? b = some u → h'.get? b = some u) (heo : ∃ u, h'.get? e = some u)
    (new : ObjOk P w (upd H x o') h' x o') : HOk P w (upd H x o') h' := fun b u q => by
  have nown : ∀ c y, H c = some (.own y) → c ≠ x := fun c y r z => by subst z; rw [r] at mu; exact mu
  have ntup : ∀ c xs, H c = some (.tup xs) → c ≠ x := fun c xs r z => by subst z; rw [r] at mu; exact mu
  by_cases hb : b = x
  · subst hb; rw [upd_same] at q; cases q; exact new
  · rw [upd_ne hb] at q
    by_cases hbe : b = e
    · have q' : H b = some (.own x) := by
        rcases he with z | z
        · exact absurd (hbe.trans z) hb
        · rw [hbe]; exact z
      rw [q] at q'; cases q'
      obtain ⟨v, hv⟩ := heo
      exact ⟨v, by rw [hbe]; exact hv⟩
    · refine (ok b u q).stay (fun c v hc r => k c v ?_ r) (fun c r => by rw [upd_ne (nown c b r)]; exact r) fun c xs r => by rw [upd_ne (ntup c xs r)]; exact r
      rcases hc with rfl | hc
      · exact hbe
      · rintro rfl
        rcases he with z | z
        · exact nown c b hc z
        · rw [hc] at z; cases z; exact hb rfl
end
structure Un (fs ex : List Addr) (H H' : Hp) (h h' : Heap) : Prop where
  keep : ∀ b o, h.get? b = some o → H b = none → b ∉ fs → b ∉ ex → h'.get? b = some o
  slot : ∀ b o, h.get? b = some o → H b = none → b ∈ fs → b ∉ ex → ∃ sl, h'.get? b = some { o with slots := sl }
  free : ∀ b o, h.get? b = some o → H b = none → b ∉ ex → H' b = none
  there : ∀ b o, h.get? b = some o → b ∉ ex → ∃ o', h'.get? b = some o'
  tups : ∀ b xs, H b = some (.tup xs) → H' b = some (.tup xs)
  frzs : ∀ b o u, H b = some (.frz o u) → H' b = some (.frz o u)
  tbls : ∀ b ps, H b = some (.tbl ps) → ∃ more, H' b = some (.tbl (ps ++ more))
section
variable {fs fs' ex ex' : List Addr} {H H1 H2 : Hp} {h h1 h2 h' : Heap} {a x e : Addr} {o : HO}
theorem Un.any (u : Un fs ex H H1 h h1) {b : Addr} {ob : Obj} (q : h.get? b = some ob) (n : H b = none) (hx : b ∉ ex) : ∃ sl, h1.get? b = some { ob with slots := sl } := by
  by_cases hb : b ∈ fs
  · exact u.slot b ob q n hb hx
  · exact ⟨ob.slots, u.keep b ob q n hb hx⟩
theorem Un.kept (k : ∀ b u, h.get? b = some u → h'.get? b = some u) : Un fs ex H H h h' :=
  ⟨fun b ob q _ _ _ => k b ob q, fun b ob q _ _ _ => ⟨ob.slots, k b ob q⟩, fun _ _ _ n _ => n, fun b ob q _ => ⟨ob, k b ob q⟩, fun _ _ q => q, fun _ _ _ q => q, fun _ ps q => ⟨#[], by rw [q]; simp⟩⟩
theorem Un.refl : Un fs ex H H h h := Un.kept fun _ _ q => q
theorem Un.laid (k : ∀ b u, h.get? b = some u → h'.get? b = some u) (hp : h.objs.size ≤ a) (hn : H a = none) : Un fs ex H (upd H a o) h h' where
  keep := fun b u q _ _ _ => k b u q
  slot := fun b u q _ _ _ => ⟨u.slots, k b u q⟩
  free := fun b u q n _ => by rw [upd_ne (Nat.ne_of_lt (Nat.lt_of_lt_of_le (Heap.lt_size q) hp))]; exact n
  there := fun b u q _ => ⟨u, k b u q⟩
  tups := fun b xs q => by rw [upd_ne (ne_of_none q hn)]; exact q
  frzs := fun b u xs q => by rw [upd_ne (ne_of_none q hn)]; exact q
  tbls := fun b ps q => ⟨#[], by rw [upd_ne (ne_of_none q hn), q]; simp⟩
theorem Un.write (mu : Mut (H x)) (he : e = x ∨ H e = some (.own x)) (k : ∀ b u, b ≠ e → h.get? b = some u → h'.get? b = some u) (heo : ∃ u, h'.get? e = some u) : Un fs ex H (upd H x o) h h' := by
  have hx : ∀ b, H b = none → b ≠ x := fun b n z => by subst z; rw [n] at mu; exact mu
  have hb : ∀ b, H b = none → b ≠ e := fun b n z => by
    subst z
    rcases he with r | r
    · exact hx b n r
    · rw [n] at r; cases r
  have hm : ∀ b u, H b = some u → ¬ Mut (some u) → b ≠ x := fun b u q nm z => by subst z; rw [q] at mu; exact nm mu
  refine ⟨fun b u q n _ _ => k b u (hb b n) q, fun b u q n _ _ => ⟨u.slots, k b u (hb b n) q⟩, fun b u q n _ => by rw [upd_ne (hx b n)]; exact n, fun b u q _ => ?_,
    fun b xs q => by rw [upd_ne (hm b _ q fun z => z)]; exact q, fun b u xs q => by rw [upd_ne (hm b _ q fun z => z)]; exact q, fun b ps q => ⟨#[], by rw [upd_ne (hm b _ q fun z => z), q]; simp⟩⟩
  by_cases hbe : b = e
  · subst hbe; exact heo
  · exact ⟨u, k b u hbe q⟩
end
noncomputable def trk (h : Heap) (H : Hp) : List Addr := (List.range h.objs.size).filter fun a => (H a).isSome
noncomputable def hidT (h : Heap) (H : Hp) : Heap := PySem.W.hideAll h (trk h H)
theorem hidT_size (h : Heap) (H : Hp) : (hidT h H).objs.size = h.objs.size := PySem.W.hideAll_size _ _
theorem hidT_get {h : Heap} {H : Hp} {b : Addr} {o : Obj} (e : h.get? b = some o) (n : H b = none) : (hidT h H).get? b = some o :=
  PySem.W.hideAll_get _ e fun hm => by
    have q : (H b).isSome = true := (List.mem_filter.mp hm).2
    rw [n] at q; simp at q
theorem of_hidT {h : Heap} {H : Hp} {b : Addr} {o : Obj} (e : (hidT h H).get? b = some o) : h.get? b = some o ∧ H b = none := by
  have e' : h.get? b = some o := PySem.W.of_hideAll (trk h H) e
  refine ⟨e', ?_⟩
  cases q : H b with
  | none => rfl
  | some x =>
    have hm : b ∈ trk h H := List.mem_filter.mpr ⟨List.mem_range.mpr (Heap.lt_size e'), by simp [q]⟩
    have z : (hidT h H).get? b = none := PySem.W.hideAll_none (trk h H) hm
    rw [z] at e; cases e
noncomputable def allNews (g h : Heap) (L : Addr) : List (Addr × Obj) := (List.range h.objs.size).filterMap fun a => if a = L ∨ (g.get? a).isSome = true then none else (h.get? a).map fun o => (a, o)
noncomputable def rest (g h : Heap) (L d : Addr) : List (Addr × Obj) := (allNews g h L).filter fun p => decide (p.1 ≠ d)
end L2
namespace L2
open PySem PySem.Spec PyProof.Rows
structure Mod (K : PySem.W.Frag) (mg : Str → Option Value) (base : Heap) : Prop where
  kin : K.In base
  glob : base.Ns mainGlobals mg
  blt : ∃ mb, base.Ns builtinsNs mb ∧ ∀ x : Str, x ≠ "__name__" → mb x = bootBuiltins x
  nolimit : base.NoLimit
structure Cx where
  prog : Program
  w : World
  K : PySem.W.Frag
  mg : Str → Option Value
  base : Heap
  A : Around
  N : List Str
  s₀ : Shared
  H₀ : Hp
  env : Env
  outer : List Env
  stack : List Env
  ex : List Addr
  fn : Str → Bool
  calm : Bool
  pn : List (Addr × Obj)
  xe : Value → Shared → Prop
noncomputable def frs (l : List Env) : List Addr := l.filterMap (·.frame)
noncomputable abbrev Cx.fs (X : Cx) : List Addr := frs X.outer
noncomputable def Vis (sc : Scope) (x : Str) : Prop := sc.names.lookup x = some .local ∨ sc.names.lookup x = some .cell ∨ sc.names.lookup x = some .free
noncomputable def Loc (sc : Scope) (x : Str) : Prop := sc.names.lookup x = some .local ∨ sc.names.lookup x = some .cell
noncomputable def Look (env : Env) (h : Heap) (m : Str → Option Value) (x : Str) (u : Value) : Prop :=
  (env.kindOf x = some .local ∧ m x = some u) ∨ ((env.kindOf x = some .cell ∨ env.kindOf x = some .free) ∧ ∃ c, env.cells.lookup x = some c ∧ h.IsCell c (some u))
structure Cx.Ok (X : Cx) : Prop where
  mod : Mod X.K X.mg X.base
  kind : X.env.scope.kind = .function
  glob : X.env.globals = mainGlobals
  blt : X.env.builtins = builtinsNs
  above : X.s₀.heap.objs.size ≤ X.env.locals
  inj : ∀ x y c, X.env.cells.lookup x = some c → X.env.cells.lookup y = some c → x = y
  has : ∀ x, (X.env.kindOf x = some .cell ∨ X.env.kindOf x = some .free) → ∃ c, X.env.cells.lookup x = some c
  cab : ∀ x c, X.fn x = true → X.env.cells.lookup x = some c → X.s₀.heap.objs.size ≤ c
  hd : X.calm = true → X.A.handled = none
  frames : X.A.frames = some X.stack
  stk : X.stack = X.outer ∨ (X.stack = X.env :: X.outer ∧ X.env.frame = some X.env.locals)
  exf : ∀ b ∈ X.ex, b ≠ X.env.locals ∧ ∀ x c, X.env.cells.lookup x = some c → c ≠ b
  bs : ∀ b o, X.base.get? b = some o → X.s₀.heap.get? b = some o ∧ X.H₀ b = none
  bsz : X.base.objs.size ≤ X.s₀.heap.objs.size
  noex : ∀ b o, X.base.get? b = some o → b ∉ X.ex
  exfs : ∀ b ∈ X.ex, b ∉ X.fs
  funs : X.s₀.heap.FunFrames X.base X.outer
  frf : ∀ b ∈ X.fs, X.H₀ b = none
structure Inv (X : Cx) (pins : List (Addr × Obj)) (σ : List (Option V)) (H : Hp) (s : Shared) : Prop where
  ok : X.Ok
  os : s.os = X.s₀.os
  bare : AllBare s.gens
  base : Un X.fs X.ex X.H₀ H X.s₀.heap s.heap
  loc : ∃ m, s.heap.Ns X.env.locals m ∧ ∀ (i : Nat) (x : Str) (v : V), X.N[i]? = some x → σ[i]? = some (some v) → Vis X.env.scope x → ∃ u, RelV v u ∧ Look X.env s.heap m x u
  cell : ∀ x c, X.env.cells.lookup x = some c → ∃ v, s.heap.IsCell c v
  free : H X.env.locals = none
  freeC : ∀ x c, X.env.cells.lookup x = some c → H c = none
  pin : ∀ p ∈ X.pn ++ pins, s.heap.get? p.1 = some p.2 ∧ H p.1 = none ∧ p.1 ≠ X.env.locals ∧ p.1 ∉ X.fs ∧ ∀ v, p.2.data ≠ .cell v
  hok : HOk X.prog X.w H s.heap
  len : σ.length = X.N.length
section
variable {X : Cx} {pins : List (Addr × Obj)} {σ : List (Option V)} {H H' : Hp} {s : Shared} {h' : Heap}
theorem Cx.Ok.nofr (ok : X.Ok) {b : Addr} {o : Obj} (e : X.base.get? b = some o) : b ∉ X.fs := fun hb => by
  have := (ok.funs.mem hb).1
  rw [e] at this; cases this
theorem Inv.bs (I : Inv X pins σ H s) : ∀ b o, X.base.get? b = some o → s.heap.get? b = some o ∧ H b = none := fun b o e =>
  ⟨I.base.keep b o (I.ok.bs b o e).1 (I.ok.bs b o e).2 (I.ok.nofr e) (I.ok.noex b o e), I.base.free b o (I.ok.bs b o e).1 (I.ok.bs b o e).2 (I.ok.noex b o e)⟩
theorem Inv.bk (I : Inv X pins σ H s) : ∀ b o, X.base.get? b = some o → s.heap.get? b = some o := fun b o e => (I.bs b o e).1
theorem Inv.mod (I : Inv X pins σ H s) : Mod X.K X.mg X.base := I.ok.mod
theorem Inv.kIn (I : Inv X pins σ H s) : X.K.In s.heap := I.ok.mod.kin.keeps I.bk
theorem Inv.lt (I : Inv X pins σ H s) : X.env.locals < s.heap.objs.size := let ⟨_, hn, _⟩ := I.loc; hn.lt
theorem Inv.sz (I : Inv X pins σ H s) : X.s₀.heap.objs.size ≤ s.heap.objs.size := Nat.le_trans I.ok.above (Nat.le_of_lt I.lt)
theorem Inv.nofs (I : Inv X pins σ H s) {a : Addr} (h : s.heap.objs.size ≤ a) : a ∉ X.fs := fun hb => by
  obtain ⟨_, o, ho, _⟩ := I.ok.funs.mem hb
  exact absurd (Nat.lt_of_lt_of_le (Heap.lt_size ho) (Nat.le_trans I.sz h)) (Nat.lt_irrefl _)
theorem Inv.cne (I : Inv X pins σ H s) : ∀ x c, X.env.cells.lookup x = some c → c ≠ X.env.locals := fun x c e z => by
  obtain ⟨v, o, ho, hd⟩ := I.cell x c e
  obtain ⟨m, ⟨o', es, ep, ho', hd', _⟩, _⟩ := I.loc
  rw [z, ho'] at ho; cases ho; rw [hd'] at hd; cases hd
theorem Inv.funs (I : Inv X pins σ H s) : s.heap.FunFrames X.base X.outer := by
  have all : ∀ (l : List Env), (∀ b ∈ frs l, b ∈ X.fs) → X.s₀.heap.FunFrames X.base l → s.heap.FunFrames X.base l := by
    intro l
    induction l with
    | nil => intro _ _; trivial
    | cons env r ih =>
      intro hs hl
      obtain ⟨hk, ⟨L, o, hf, hn, ho, hd⟩, hr⟩ := hl
      have hL : L ∈ X.fs := hs L (by unfold frs; rw [List.filterMap_cons, hf]; exact List.mem_cons_self)
      obtain ⟨sl, e⟩ := I.base.slot L o ho (I.ok.frf L hL) hL fun z => I.ok.exfs L z hL
      exact ⟨hk, ⟨L, _, hf, hn, e, hd⟩, ih (fun b hb => hs b (by unfold frs; rw [List.filterMap_cons, hf]; exact List.mem_cons_of_mem _ hb)) hr⟩
  exact all X.outer (fun _ hb => hb) I.ok.funs
theorem Inv.stack (I : Inv X pins σ H s) : s.heap.FunFrames X.base X.stack := by
  rcases I.ok.stk with e | ⟨e, hf⟩
  · rw [e]; exact I.funs
  · rw [e]
    obtain ⟨m, hn, _⟩ := I.loc
    refine .cons (by rw [I.ok.kind]; decide) hf hn ?_ I.funs
    exact Heap.get?_none_of_le (Nat.le_trans I.ok.bsz I.ok.above)
theorem Inv.stkSub (I : Inv X pins σ H s) : ∀ b ∈ frs X.stack, b ∈ X.env.locals :: X.fs := fun b hb => by
  rcases I.ok.stk with e | ⟨e, hf⟩
  · rw [e] at hb; exact List.mem_cons_of_mem _ hb
  · rw [e] at hb
    unfold frs at hb
    rw [List.filterMap_cons, hf] at hb
    exact hb
theorem Inv.stkFree (I : Inv X pins σ H s) : ∀ b ∈ frs X.stack, H b = none := fun b hb => by
  rcases List.mem_cons.mp (I.stkSub b hb) with e | hb
  · rw [e]; exact I.free
  · obtain ⟨_, o, ho, _⟩ := I.ok.funs.mem hb
    exact I.base.free b o ho (I.ok.frf b hb) fun z => I.ok.exfs b z hb
theorem Inv.step {g' : Array GenState} {t' : Nat} {d' : Drawn} {ch : List Addr} (I : Inv X pins σ H s)
    (hch : ∀ b ∈ ch, (b ∈ X.ex ∨ X.s₀.heap.objs.size ≤ b) ∧ b ≠ X.env.locals ∧ (∀ x c, X.env.cells.lookup x = some c → c ≠ b) ∧ ∀ p ∈ X.pn ++ pins, p.1 ≠ b)
    (keep : ∀ b o, b ≠ X.env.locals → b ∉ X.fs → b ∉ ch → s.heap.get? b = some o → H b = none → h'.get? b = some o)
    (slot : ∀ b o, b ≠ X.env.locals → b ∈ X.fs → b ∉ ch → s.heap.get? b = some o → H b = none → ∃ sl, h'.get? b = some { o with slots := sl }) (free : ∀ b o, b ∉ ch → s.heap.get? b = some o → H b = none → H' b = none)
    (there : ∀ b o, b ∉ ch → s.heap.get? b = some o → ∃ o', h'.get? b = some o')
    (tups : ∀ b xs, H b = some (.tup xs) → H' b = some (.tup xs)) (frzs : ∀ b o u, H b = some (.frz o u) → H' b = some (.frz o u)) (tbls : ∀ b ps, H b = some (.tbl ps) → ∃ more, H' b = some (.tbl (ps ++ more)))
    (ns : ∀ m, s.heap.Ns X.env.locals m → h'.Ns X.env.locals m) (hok : HOk X.prog X.w H' h') (hg : AllBare g') :
    Inv X pins σ H' { s with heap := h', gens := g', drawn := d', toks := t' } := by
  have neL : ∀ b o, X.s₀.heap.get? b = some o → b ≠ X.env.locals := fun b o e => Nat.ne_of_lt (Nat.lt_of_lt_of_le (Heap.lt_size e) I.ok.above)
  have neC : ∀ b o, X.s₀.heap.get? b = some o → b ∉ X.ex → b ∉ ch := fun b o e hx hb => by
    rcases (hch b hb).1 with z | z
    · exact hx z
    · exact absurd (Nat.lt_of_lt_of_le (Heap.lt_size e) z) (Nat.lt_irrefl _)
  have cellK : ∀ x c, X.env.cells.lookup x = some c → ∀ v, s.heap.IsCell c v → h'.IsCell c v := fun x c e v ⟨o, ho, hd⟩ => by
    have nch : c ∉ ch := fun z => (hch c z).2.2.1 x c e rfl
    by_cases hc : c ∈ X.fs
    · obtain ⟨sl, q⟩ := slot c o (I.cne x c e) hc nch ho (I.freeC x c e)
      exact ⟨_, q, hd⟩
    · exact ⟨o, keep c o (I.cne x c e) hc nch ho (I.freeC x c e), hd⟩
  refine ⟨I.ok, I.os, hg, ⟨fun b o e n hb hx => ?_, fun b o e n hb hx => ?_, fun b o e n hx => ?_, fun b o e hx => ?_, fun b xs e => tups b xs (I.base.tups b xs e), fun b o xs e => frzs b o xs (I.base.frzs b o xs e), fun b ps e => ?_⟩, ?_, fun x c e => ?_, ?_, fun x c e => ?_, fun p hp => ?_, hok, I.len⟩
  · exact keep b o (neL b o e) hb (neC b o e hx) (I.base.keep b o e n hb hx) (I.base.free b o e n hx)
  · obtain ⟨sl, e1⟩ := I.base.slot b o e n hb hx
    obtain ⟨sl', e2⟩ := slot b _ (neL b o e) hb (neC b o e hx) e1 (I.base.free b o e n hx)
    exact ⟨sl', e2⟩
  · obtain ⟨o', e1⟩ := I.base.there b o e hx
    exact free b o' (neC b o e hx) e1 (I.base.free b o e n hx)
  · obtain ⟨o', e1⟩ := I.base.there b o e hx
    exact there b o' (neC b o e hx) e1
  · obtain ⟨m1, e1⟩ := I.base.tbls b ps e
    obtain ⟨m2, e2⟩ := tbls b _ e1
    exact ⟨m1 ++ m2, by rw [e2, Array.append_assoc]⟩
  · obtain ⟨m, hn, hl⟩ := I.loc
    refine ⟨m, ns m hn, fun i x v e1 e2 e3 => ?_⟩
    obtain ⟨u, r, l⟩ := hl i x v e1 e2 e3
    refine ⟨u, r, ?_⟩
    rcases l with l | ⟨k, c, e, z⟩
    · exact .inl l
    · exact .inr ⟨k, c, e, cellK x c e _ z⟩
  · obtain ⟨v, z⟩ := I.cell x c e
    exact ⟨v, cellK x c e v z⟩
  · obtain ⟨m, ⟨o, _, _, ho, _⟩, _⟩ := I.loc
    exact free _ o (fun z => (hch _ z).2.1 rfl) ho I.free
  · obtain ⟨v, o, ho, hd⟩ := I.cell x c e
    exact free c o (fun z => (hch c z).2.2.1 x c e rfl) ho (I.freeC x c e)
  · obtain ⟨e, n, ne, nf, d⟩ := I.pin p hp
    have nch : p.1 ∉ ch := fun z => (hch p.1 z).2.2.2 p hp rfl
    exact ⟨keep p.1 p.2 ne nf nch e n, free p.1 p.2 nch e n, ne, nf, d⟩
theorem Inv.un {t' : Nat} (I : Inv X pins σ H s) (u : Un X.fs [] H H' s.heap h') (hok : HOk X.prog X.w H' h') : Inv X pins σ H' { s with heap := h', toks := t' } := by
  obtain ⟨m, ⟨o, es, ep, ho, r⟩, _⟩ := id I.loc
  obtain ⟨sl, hL⟩ := u.any ho I.free (by simp)
  exact I.step (g' := s.gens) (d' := s.drawn) (ch := []) (fun _ z => nomatch z) (fun b o _ hb _ e n => u.keep b o e n hb (by simp)) (fun b o _ hb _ e n => u.slot b o e n hb (by simp)) (fun b o _ e n => u.free b o e n (by simp)) (fun b o _ e => u.there b o e (by simp)) u.tups u.frzs u.tbls (fun m' hm => by
    obtain ⟨o', es', ep', ho', r'⟩ := hm
    rw [ho] at ho'; cases ho'
    exact ⟨_, es', ep', hL, r'⟩) hok I.bare
theorem Inv.call {g' : Array GenState} {t' : Nat} {d' : Drawn} {ch : List Addr} (I : Inv X pins σ H s) (u : Un (frs X.stack) ch H H' s.heap h') (hok : HOk X.prog X.w H' h') (hg : AllBare g')
    (hch : ∀ b ∈ ch, (b ∈ X.ex ∨ X.s₀.heap.objs.size ≤ b) ∧ b ≠ X.env.locals ∧ (∀ x c, X.env.cells.lookup x = some c → c ≠ b) ∧ ∀ p ∈ X.pn ++ pins, p.1 ≠ b) :
    Inv X pins σ H' { s with heap := h', gens := g', drawn := d', toks := t' } := by
  obtain ⟨m, ⟨o, es, ep, ho, r⟩, _⟩ := id I.loc
  obtain ⟨sl, hL⟩ := u.any ho I.free fun z => (hch _ z).2.1 rfl
  exact I.step (ch := ch) hch (fun b o hL hb hc e n => u.keep b o e n (fun z => (List.mem_cons.mp (I.stkSub b z)).elim hL hb) hc) (fun b o _ _ hc e n => u.any e n hc) (fun b o hc e n => u.free b o e n hc) (fun b o hc e => u.there b o e hc) u.tups u.frzs u.tbls (fun m' hm => by
    obtain ⟨o', es', ep', ho', r'⟩ := hm
    rw [ho] at ho'; cases ho'
    exact ⟨_, es', ep', hL, r'⟩) hok hg
theorem Inv.turned {t' : Nat} {it : Addr} (I : Inv X pins σ H s) (k : ∀ b o, b ≠ it → s.heap.get? b = some o → h'.get? b = some o) (hn : H it = none) (hL : it ≠ X.env.locals)
    (h1 : it ∈ X.ex ∨ X.s₀.heap.objs.size ≤ it) (h2 : ∀ x c, X.env.cells.lookup x = some c → c ≠ it) (h3 : ∀ p ∈ X.pn ++ pins, p.1 ≠ it) : Inv X pins σ H { s with heap := h', toks := t' } := by
  have nit : ∀ b u, H b = some u → b ≠ it := fun b u e z => by rw [z, hn] at e; cases e
  refine I.step (g' := s.gens) (d' := s.drawn) (ch := [it]) (fun b hb => ?_) (fun b o _ _ hc e _ => k b o (fun z => hc (by simp [z])) e) (fun b o _ _ hc e _ => ⟨o.slots, k b o (fun z => hc (by simp [z])) e⟩) (fun _ _ _ _ n => n)
    (fun b o hc e => ⟨o, k b o (fun z => hc (by simp [z])) e⟩) (fun _ _ e => e) (fun _ _ _ e => e) (fun b ps e => ⟨#[], by rw [e]; simp⟩) (fun m hm => ?_) (fun b u e => ?_) I.bare
  · have e : b = it := by simpa using hb
    subst e
    exact ⟨h1, hL, h2, h3⟩
  · obtain ⟨o, es, ep, ho, r⟩ := hm
    exact ⟨o, es, ep, k _ o (Ne.symm hL) ho, r⟩
  · refine (I.hok b u e).stay (fun c v hc q => k c v ?_ q) (fun _ q => q) fun _ _ q => q
    rcases hc with z | z
    · rw [z]; exact nit b u e
    · exact nit c _ z
theorem Inv.tok (I : Inv X pins σ H s) (t : Nat) : Inv X pins σ H { s with toks := t } := I.un (h' := s.heap) (t' := t) Un.refl I.hok
theorem Inv.kept {t' : Nat} (I : Inv X pins σ H s) (k : ∀ b u, s.heap.get? b = some u → h'.get? b = some u) : Inv X pins σ H { s with heap := h', toks := t' } := I.un (Un.kept k) (I.hok.kept k)
theorem Inv.laid {a : Addr} {o : HO} {t' : Nat} (I : Inv X pins σ H s) (k : ∀ b u, s.heap.get? b = some u → h'.get? b = some u) (hp : s.heap.objs.size ≤ a) (new : ObjOk X.prog X.w (upd H a o) h' a o) :
    Inv X pins σ (upd H a o) { s with heap := h', toks := t' } := I.un (Un.laid k hp (I.hok.fresh hp)) (I.hok.laid k hp new)
theorem Inv.write {x e : Addr} {o : HO} {t' : Nat} (I : Inv X pins σ H s) (mu : Mut (H x)) (he : e = x ∨ H e = some (.own x)) (k : ∀ b u, b ≠ e → s.heap.get? b = some u → h'.get? b = some u) (heo : ∃ u, h'.get? e = some u)
    (new : ObjOk X.prog X.w (upd H x o) h' x o) : Inv X pins σ (upd H x o) { s with heap := h', toks := t' } := I.un (Un.write mu he k heo) (I.hok.write mu he k heo new)
theorem Inv.weak {σ' : List (Option V)} (I : Inv X pins σ H s) (hl : σ'.length = σ.length) (w : ∀ (i : Nat) v, σ'[i]? = some (some v) → σ[i]? = some (some v)) : Inv X pins σ' H s :=
  ⟨I.ok, I.os, I.bare, I.base, let ⟨m, hn, hl'⟩ := I.loc; ⟨m, hn, fun i x v e1 e2 e3 => hl' i x v e1 (w i v e2) e3⟩, I.cell, I.free, I.freeC, I.pin, I.hok, hl.trans I.len⟩
theorem Inv.pins_of {pins' : List (Addr × Obj)} (I : Inv X pins σ H s) (h : ∀ p ∈ pins', s.heap.get? p.1 = some p.2 ∧ H p.1 = none ∧ p.1 ≠ X.env.locals ∧ p.1 ∉ X.fs ∧ ∀ v, p.2.data ≠ .cell v) : Inv X pins' σ H s :=
  ⟨I.ok, I.os, I.bare, I.base, I.loc, I.cell, I.free, I.freeC, fun p hp => (List.mem_append.mp hp).elim (fun z => I.pin p (List.mem_append_left _ z)) (h p), I.hok, I.len⟩
theorem nodup_ix {N : List Str} (hN : N.Nodup) {i j : Nat} {x : Str} (a : N[i]? = some x) (b : N[j]? = some x) : i = j := by
  obtain ⟨h1, e1⟩ := List.getElem?_eq_some_iff.mp a
  obtain ⟨h2, e2⟩ := List.getElem?_eq_some_iff.mp b
  exact (List.getElem_inj hN).mp (e1.trans e2.symm)
theorem store_ok2 {M : Model} {A : Around} {E : Value → Shared → Prop} {i : Nat} {x : Str} {v : V} {u : Value} {Q : Unit → Shared → Prop} (I : Inv X pins σ H s) (hN : X.N.Nodup) (hi : X.N[i]? = some x) (hx : Loc X.env.scope x) (r : RelV v u)
    (h : ∀ s', Inv X pins (σ.set i (some v)) H s' → (∃ a, Heap.SameBut a s.heap s'.heap ∧ (a = X.env.locals ∨ X.env.cells.lookup x = some a)) → Q () s') (hf : X.fn x = true ∨ X.env.scope.names.lookup x = some .local := by first | exact .inl rfl | exact .inr rfl | assumption) : wpAny M A (storeName X.env x u) Q E s := by
  obtain ⟨m, hn, hl⟩ := id I.loc
  have hcls : (X.env.scope.kind == .class || (X.env.scope.kind == .module && X.env.locals != X.env.globals)) = false := by rw [I.ok.kind]; rfl
  have hiσ : i < σ.length := by rw [I.len]; exact (List.getElem?_eq_some_iff.mp hi).1
  have cne := I.cne
  have tracked : ∀ {a : Addr} {h' : Heap}, (∃ o, s.heap.get? a = some o ∧ H a = none) → Heap.SameBut a s.heap h' → HOk X.prog X.w H h' := fun {a h'} ha hs b ob e => by
    obtain ⟨_, _, hfree⟩ := ha
    refine (I.hok b ob e).stay (fun c w' hc q => (hs.2 c ?_).trans q) (fun _ q => q) fun _ _ q => q
    rintro rfl
    rcases hc with rfl | hc
    · rw [hfree] at e; cases e
    · rw [hfree] at hc; cases hc
  rcases hx with hk | hk
  · refine wpAny_storeName_local hk hn (fun h' hn' hs => ?_) hcls
    obtain ⟨oL, _, _, hoL, _⟩ := id hn
    refine h _ ⟨I.ok, I.os, I.bare, ⟨fun b o e n hb hx => ?_, fun b o e n hb hx => ?_, I.base.free, fun b o e hx => ?_, I.base.tups, I.base.frzs, I.base.tbls⟩, ⟨_, hn', fun j y v' e1 e2 e3 => ?_⟩, fun y c e => ?_, I.free, I.freeC, fun p hp => ?_, tracked ⟨oL, hoL, I.free⟩ hs, by simpa using I.len⟩ ⟨_, hs, .inl rfl⟩
    · exact (hs.2 b (Nat.ne_of_lt (Nat.lt_of_lt_of_le (Heap.lt_size e) I.ok.above))).trans (I.base.keep b o e n hb hx)
    · obtain ⟨sl, e1⟩ := I.base.slot b o e n hb hx
      exact ⟨sl, (hs.2 b (Nat.ne_of_lt (Nat.lt_of_lt_of_le (Heap.lt_size e) I.ok.above))).trans e1⟩
    · obtain ⟨o', e1⟩ := I.base.there b o e hx
      exact ⟨o', (hs.2 b (Nat.ne_of_lt (Nat.lt_of_lt_of_le (Heap.lt_size e) I.ok.above))).trans e1⟩
    · by_cases hj : j = i
      · subst hj
        rw [hi] at e1; cases e1
        rw [List.getElem?_set_self hiσ] at e2
        cases e2
        exact ⟨u, r, .inl ⟨hk, by simp⟩⟩
      · rw [List.getElem?_set_ne (Ne.symm hj)] at e2
        obtain ⟨u', r', q⟩ := hl j y v' e1 e2 e3
        refine ⟨u', r', ?_⟩
        rcases q with ⟨k, e⟩ | ⟨k, c, e, z⟩
        · refine .inl ⟨k, ?_⟩
          have : y ≠ x := fun e => hj (nodup_ix hN e1 (e ▸ hi))
          simp [this, e]
        · exact .inr ⟨k, c, e, z.sameBut hs (cne y c e)⟩
    · obtain ⟨w', z⟩ := I.cell y c e
      exact ⟨w', z.sameBut hs (cne y c e)⟩
    · obtain ⟨e, n, ne, nf, d⟩ := I.pin p hp
      exact ⟨(hs.2 p.1 ne).trans e, n, ne, nf, d⟩
  · have hfn : X.fn x = true := by
      rcases hf with z | z
      · exact z
      · rw [z] at hk; cases hk
    obtain ⟨c, hc⟩ := I.ok.has x (.inl hk)
    obtain ⟨w', z⟩ := I.cell x c hc
    refine wpAny_storeName_cell I.ok.kind hk hc z (fun h' hc' hs => ?_)
    obtain ⟨oc, hoc, hocd⟩ := id z
    refine h { s with heap := h' } ⟨I.ok, I.os, I.bare, ⟨fun b o e n hb hx => ?_, fun b o e n hb hx => ?_, I.base.free, fun b o e hx => ?_, I.base.tups, I.base.frzs, I.base.tbls⟩, ⟨m, hn.sameBut hs (Ne.symm (cne x c hc)), fun j y v' e1 e2 e3 => ?_⟩, fun y c' e => ?_, I.free, I.freeC, fun p hp => ?_, tracked ⟨oc, hoc, I.freeC x c hc⟩ hs, by simpa using I.len⟩ ⟨c, hs, .inr hc⟩
    · exact (hs.2 b (Nat.ne_of_lt (Nat.lt_of_lt_of_le (Heap.lt_size e) (I.ok.cab x c hfn hc)))).trans (I.base.keep b o e n hb hx)
    · obtain ⟨sl, e1⟩ := I.base.slot b o e n hb hx
      exact ⟨sl, (hs.2 b (Nat.ne_of_lt (Nat.lt_of_lt_of_le (Heap.lt_size e) (I.ok.cab x c hfn hc)))).trans e1⟩
    · obtain ⟨o', e1⟩ := I.base.there b o e hx
      exact ⟨o', (hs.2 b (Nat.ne_of_lt (Nat.lt_of_lt_of_le (Heap.lt_size e) (I.ok.cab x c hfn hc)))).trans e1⟩
    · by_cases hj : j = i
      · subst hj
        rw [hi] at e1; cases e1
        rw [List.getElem?_set_self hiσ] at e2
        cases e2
        exact ⟨u, r, .inr ⟨.inl hk, c, hc, hc'⟩⟩
      · rw [List.getElem?_set_ne (Ne.symm hj)] at e2
        obtain ⟨u', r', q⟩ := hl j y v' e1 e2 e3
        refine ⟨u', r', ?_⟩
        rcases q with q | ⟨k, c', e, z'⟩
        · exact .inl q
        · refine .inr ⟨k, c', e, z'.sameBut hs ?_⟩
          rintro rfl
          exact hj (nodup_ix hN e1 (I.ok.inj _ _ _ e hc ▸ hi))
    · by_cases hcc : c' = c
      · subst hcc; exact ⟨_, hc'⟩
      · obtain ⟨w2, z2⟩ := I.cell y c' e
        exact ⟨w2, z2.sameBut hs hcc⟩
    · obtain ⟨e, n, ne, nf, d⟩ := I.pin p hp
      refine ⟨(hs.2 p.1 ?_).trans e, n, ne, nf, d⟩
      intro q
      rw [q, hoc] at e
      have q' : oc = p.2 := Option.some.inj e
      exact d w' (by rw [← q']; exact hocd)
theorem store_ok {M : Model} {A : Around} {E : Value → Shared → Prop} {i : Nat} {x : Str} {v : V} {u : Value} {Q : Unit → Shared → Prop} (I : Inv X pins σ H s) (hN : X.N.Nodup) (hi : X.N[i]? = some x) (hx : Loc X.env.scope x) (r : RelV v u)
    (h : ∀ s', Inv X pins (σ.set i (some v)) H s' → Q () s') (hf : X.fn x = true ∨ X.env.scope.names.lookup x = some .local := by first | exact .inl rfl | exact .inr rfl | assumption) : wpAny M A (storeName X.env x u) Q E s :=
  store_ok2 I hN hi hx r (fun s' I' _ => h s' I') hf
theorem Inv.call' {s' : Shared} {ch : List Addr} (I : Inv X pins σ H s) (ho : s'.os = s.os) (u : Un (frs X.stack) ch H H' s.heap s'.heap) (hok : HOk X.prog X.w H' s'.heap) (hg : AllBare s'.gens)
    (hch : ∀ b ∈ ch, (b ∈ X.ex ∨ X.s₀.heap.objs.size ≤ b) ∧ b ≠ X.env.locals ∧ (∀ x c, X.env.cells.lookup x = some c → c ≠ b) ∧ ∀ p ∈ X.pn ++ pins, p.1 ≠ b) : Inv X pins σ H' s' := by
  obtain ⟨h', g', d', t', o'⟩ := s'
  have e : o' = s.os := ho
  subst e
  exact I.call (g' := g') (t' := t') (d' := d') u hok hg hch
end
noncomputable abbrev XK := Value → Option Addr → Hp → Prop
noncomputable abbrev St := List (Option V)
noncomputable abbrev VK := V → Hp → Prop
noncomputable abbrev TE := St → Hp → VK → Prop
noncomputable abbrev TT := St → Hp → (Bool → Hp → Prop) → Prop
noncomputable abbrev TA := St → Hp → (List V → Hp → Prop) → Prop
structure Ends where
  nx : St → Hp → Prop
  rt : VK
  bk : St → Hp → Prop := fun _ _ => False
  ct : St → Hp → Prop := fun _ _ => False
noncomputable abbrev TS := Ends → St → Hp → Prop
noncomputable def EP (X : Cx) (pins : List (Addr × Obj)) (σ : St) (Q : VK) (u : Value) (s' : Shared) : Prop := ∃ v H', Inv X pins σ H' s' ∧ RelV v u ∧ Q v H'
noncomputable def TP (X : Cx) (pins : List (Addr × Obj)) (σ : St) (Q : Bool → Hp → Prop) (b : Bool) (s' : Shared) : Prop := ∃ H', Inv X pins σ H' s' ∧ Q b H'
noncomputable def AP (X : Cx) (pins : List (Addr × Obj)) (σ : St) (Q : List V → Hp → Prop) (us : List Value) (s' : Shared) : Prop := ∃ vs H', Inv X pins σ H' s' ∧ Vals vs us ∧ Q vs H'
noncomputable def SP (X : Cx) (pins : List (Addr × Obj)) (D : Ends) (f : Flow) (s' : Shared) : Prop :=
  match f with
  | .next => ∃ σ' H', Inv X pins σ' H' s' ∧ D.nx σ' H'
  | .brk => ∃ σ' H', Inv X pins σ' H' s' ∧ D.bk σ' H'
  | .cont => ∃ σ' H', Inv X pins σ' H' s' ∧ D.ct σ' H'
  | .ret u => ∃ v σ' H', Inv X pins σ' H' s' ∧ RelV v u ∧ D.rt v H'
noncomputable def PE (X : Cx) (e : Expr) (t : TE) : Prop :=
  ∀ (pins : List (Addr × Obj)) (s : Shared) (σ : St) (H : Hp) (Q : VK), Inv X pins σ H s → t σ H Q → wpAny (model X.prog X.w) X.A (eval e X.env) (EP X pins σ Q) X.xe s
noncomputable def PT (X : Cx) (e : Expr) (t : TT) : Prop :=
  ∀ (pins : List (Addr × Obj)) (s : Shared) (σ : St) (H : Hp) (Q : Bool → Hp → Prop), Inv X pins σ H s → t σ H Q → wpAny (model X.prog X.w) X.A (isTrue e X.env (eval e X.env)) (TP X pins σ Q) X.xe s
noncomputable def PW (X : Cx) (e : Expr) (t : TT) : Prop :=
  ∀ (whole : Sem Value) (pins : List (Addr × Obj)) (s : Shared) (σ : St) (H : Hp) (Q : Bool → Hp → Prop), Inv X pins σ H s → t σ H Q → wpAny (model X.prog X.w) X.A (isTrue e X.env whole) (TP X pins σ Q) X.xe s
theorem PW.pt {X : Cx} {e : Expr} {t : TT} (h : PW X e t) : PT X e t := h _
noncomputable def PA (X : Cx) (es : List Expr) (t : TA) : Prop :=
  ∀ (pos : Pos) (pins : List (Addr × Obj)) (s : Shared) (σ : St) (H : Hp) (Q : List V → Hp → Prop), Inv X pins σ H s → t σ H Q → wpAny (model X.prog X.w) X.A (spliced (backTo pos (starEach es X.env))) (AP X pins σ Q) X.xe s
noncomputable def PS (X : Cx) (st : Stmt) (t : TS) : Prop :=
  ∀ (pins : List (Addr × Obj)) (s : Shared) (σ : St) (H : Hp) (D : Ends), Inv X pins σ H s → t D σ H → wpAny (model X.prog X.w) X.A (exec st X.env) (SP X pins D) X.xe s
noncomputable def PSs (X : Cx) (st : List Stmt) (t : TS) : Prop :=
  ∀ (pins : List (Addr × Obj)) (s : Shared) (σ : St) (H : Hp) (D : Ends), Inv X pins σ H s → t D σ H → wpAny (model X.prog X.w) X.A (execs st X.env) (SP X pins D) X.xe s
theorem thn {α : Type} {t : Sem α} {Q Q' : α → Shared → Prop} {M : Model} {A : Around} {E : Value → Shared → Prop} {s : Shared} (h : wpAny M A t Q E s) (hQ : ∀ a s, Q a s → Q' a s) : wpAny M A t Q' E s := wpAny_mono h hQ fun _ _ x => x
end L2
namespace L2
open PySem PySem.Spec PyProof.Rows
section
variable {X : Cx}
noncomputable def tVar (i : Nat) : TE := fun σ H Q => ∃ v, σ[i]? = some (some v) ∧ Q v H
noncomputable def tC (v : V) : TE := fun _ H Q => Q v H
theorem pe_var {i : Nat} {x : Str} {pos : Pos} (hN : X.N[i]? = some x) (hv : Vis X.env.scope x) (hd : (x == ("__debug__" : Str)) = false := by decide) (hcd : (x == ("__classdict__" : Str)) = false := by decide) : PE X (.Name x pos) (tVar i) := by
  intro pins s σ H Q I h
  obtain ⟨v, e, h⟩ := h
  obtain ⟨m, hn, hl⟩ := I.loc
  obtain ⟨u, r, l⟩ := hl i x v hN e hv
  have fin : EP X pins σ Q u s := ⟨v, H, I, r, h⟩
  rcases l with ⟨hk, hm⟩ | ⟨hk, c, hc, hcell⟩
  · exact wpAny_Name (wpAny_loadName_local I.ok.kind hk hn hm fin) hd
  · rcases hk with hk | hk
    · exact wpAny_Name (wpAny_loadName_cell I.ok.kind hk hc hcell fin) hd
    · exact wpAny_Name (wpAny_loadName_free I.ok.kind hk hc hcell fin hcd) hd
theorem pe_int {i j pos} : PE X (.Constant (.int i) j pos) (tC (.int i)) := fun _ _ _ H _ I h => wpAny_Constant_int ⟨.int i, H, I.tok _, ⟨_, rfl⟩, h⟩
theorem pe_bl {b j pos} : PE X (.Constant (.bool b) j pos) (tC (.bl b)) := fun _ _ _ H _ I h => Constant_bool ⟨.bl b, H, I, rfl, h⟩
theorem pe_non {j pos} : PE X (.Constant .none j pos) (tC .non) := fun _ _ _ H _ I h => Constant_none ⟨.non, H, I, rfl, h⟩
theorem pe_str {x j pos} : PE X (.Constant (.str x) j pos) (tC (.str x)) := fun _ _ _ H _ I h => Calls.Constant_str ⟨.str x, H, I.tok _, ⟨_, rfl⟩, h⟩
noncomputable def Gl (X : Cx) (x : Str) : Prop := X.env.kindOf x = some .globalImplicit
theorem ld_glob {E : Value → Shared → Prop} {pins : List (Addr × Obj)} {s : Shared} {σ : St} {H : Hp} {x : Str} {u : Value} {pos : Pos} {Q : Value → Shared → Prop} (I : Inv X pins σ H s) (hg : Gl X x) (hm : X.mg x = some u) (h : Q u s)
    (hd : (x == ("__debug__" : Str)) = false := by decide) : wpAny (model X.prog X.w) X.A (eval (.Name x pos) X.env) Q E s :=
  Calls.Name_function_global I.ok.kind hg (Calls.loadGlobal_global (by rw [I.ok.glob]; exact I.mod.glob.keeps I.bk) hm h) hd
theorem ld_blt {E : Value → Shared → Prop} {pins : List (Addr × Obj)} {s : Shared} {σ : St} {H : Hp} {x : Str} {u : Value} {pos : Pos} {Q : Value → Shared → Prop} (I : Inv X pins σ H s) (hg : Gl X x) (hm : X.mg x = none) (hv : bootBuiltins x = some u) (h : Q u s)
    (hn : x ≠ "__name__" := by decide) (hd : (x == ("__debug__" : Str)) = false := by decide) : wpAny (model X.prog X.w) X.A (eval (.Name x pos) X.env) Q E s := by
  obtain ⟨mb, h1, h2⟩ := I.mod.blt
  exact Calls.Name_function_global I.ok.kind hg (Calls.loadGlobal_builtin (by rw [I.ok.glob]; exact I.mod.glob.keeps I.bk) hm (by rw [I.ok.blt]; exact h1.keeps I.bk) ((h2 x hn).trans hv) h) hd
theorem pe_glob {x : Str} {v : V} {u : Value} {pos : Pos} (hg : Gl X x) (hm : X.mg x = some u) (r : RelV v u) (hd : (x == ("__debug__" : Str)) = false := by decide) : PE X (.Name x pos) (tC v) :=
  fun _ _ _ H _ I h => ld_glob I hg hm ⟨v, H, I, r, h⟩ hd
noncomputable def t2I (ta tb : TE) (k : Int → Int → Hp → Prop) : St → Hp → Prop := fun σ H => ta σ H fun x H1 => tb σ H1 fun y H2 => ∃ i j, x = .int i ∧ y = .int j ∧ k i j H2
noncomputable def tAdd (ta tb : TE) : TE := fun σ H Q => t2I ta tb (fun i j H2 => Q (.int (i + j)) H2) σ H
noncomputable def tSub (ta tb : TE) : TE := fun σ H Q => t2I ta tb (fun i j H2 => Q (.int (i - j)) H2) σ H
noncomputable def tMul (ta tb : TE) : TE := fun σ H Q => t2I ta tb (fun i j H2 => (-(2 ^ 64) < i ∧ i < 2 ^ 64) ∧ Q (.int (i * j)) H2) σ H
variable {a b : Expr} {ta tb : TE} {pos : Pos}
noncomputable def PC (X : Cx) (op : CmpOp) (a b : Expr) (t : TE) : Prop :=
  ∀ (pins : List (Addr × Obj)) (s : Shared) (σ : St) (H : Hp) (Q : VK), Inv X pins σ H s → t σ H Q →
    wpAny (model X.prog X.w) X.A (eval a X.env) (fun v s₁ => wpAny (model X.prog X.w) X.A (eval b X.env) (fun u s₂ => wpAny (model X.prog X.w) X.A (compareOp op v u) (EP X pins σ Q) X.xe s₂) X.xe s₁) X.xe s
noncomputable def tCmp (p : Int → Int → Bool) (ta tb : TE) : TE := fun σ H Q => t2I ta tb (fun i j H2 => Q (.bl (p i j)) H2) σ H
noncomputable abbrev tLt : TE → TE → TE := tCmp fun i j => decide (i < j)
noncomputable abbrev tLe : TE → TE → TE := tCmp fun i j => decide (i ≤ j)
noncomputable abbrev tGt : TE → TE → TE := tCmp fun i j => decide (j < i)
noncomputable abbrev tGe : TE → TE → TE := tCmp fun i j => decide (j ≤ i)
noncomputable abbrev tEqI : TE → TE → TE := tCmp fun i j => decide (i = j)
noncomputable abbrev tNeI : TE → TE → TE := tCmp fun i j => !decide (i = j)
noncomputable def tIsN (ta : TE) : TE := fun σ H Q => ta σ H fun x H1 => Q (.bl (decide (x = .non))) H1
noncomputable def tNotN (ta : TE) : TE := fun σ H Q => ta σ H fun x H1 => Q (.bl (!decide (x = .non))) H1
noncomputable def tB (t : TE) : TT := fun σ H Q => t σ H fun x H1 => ∃ c, x = .bl c ∧ Q c H1
theorem pt_val {e : Expr} {t : TE} (h : PE X e t) (he : ∀ whole, isTrue e X.env whole = (do let v ← whole; standAt e.pos; holding [v] (truthy v)) := by intro _; rfl) : PT X e (tB t) := by
  intro pins s σ H Q I hw
  refine isTrue_plain (thn (h pins s σ H _ I hw) fun v s1 ⟨x, H1, I1, r1, q1⟩ => ?_) (he _)
  obtain ⟨d, rfl, q⟩ := q1
  cases r1
  exact wpAny_truthy_bool ⟨H1, I1, q⟩
variable {tA tB' : TT} {rest : List Expr}
noncomputable def tAnd (t u : TT) : TT := fun σ H Q => t σ H fun c H1 => if c = true then u σ H1 Q else Q false H1
noncomputable def tOr (t u : TT) : TT := fun σ H Q => t σ H fun c H1 => if c = true then Q true H1 else u σ H1 Q
noncomputable def tNot (t : TT) : TT := fun σ H Q => t σ H fun c H1 => Q (!c) H1
theorem pw_and1 (ha : PT X a tA) : PW X (.BoolOp .And [a] pos) tA := by
  intro wh pins s σ H Q I h
  refine isTrue_and (thn (ha pins s σ H Q I h) fun c s1 e => ?_)
  cases c with
  | true => exact isTrue_and_nil e
  | false => exact e
theorem pw_or1 (ha : PT X a tA) : PW X (.BoolOp .Or [a] pos) tA := by
  intro wh pins s σ H Q I h
  refine isTrue_or (thn (ha pins s σ H Q I h) fun c s1 e => ?_)
  cases c with
  | false => exact isTrue_or_nil e
  | true => exact e
theorem pw_and (ha : PT X a tA) (hb : PW X (.BoolOp .And (b :: rest) pos) tB') : PW X (.BoolOp .And (a :: b :: rest) pos) (tAnd tA tB') := by
  intro wh pins s σ H Q I h
  refine isTrue_and (thn (ha pins s σ H _ I h) fun c s1 ⟨H1, I1, q1⟩ => ?_)
  cases c with
  | true => exact hb wh pins s1 σ H1 Q I1 q1
  | false => exact ⟨H1, I1, q1⟩
theorem pw_or (ha : PT X a tA) (hb : PW X (.BoolOp .Or (b :: rest) pos) tB') : PW X (.BoolOp .Or (a :: b :: rest) pos) (tOr tA tB') := by
  intro wh pins s σ H Q I h
  refine isTrue_or (thn (ha pins s σ H _ I h) fun c s1 ⟨H1, I1, q1⟩ => ?_)
  cases c with
  | true => exact ⟨H1, I1, q1⟩
  | false => exact hb wh pins s1 σ H1 Q I1 q1
theorem pt_not (ha : PT X a tA) : PT X (.UnaryOp .Not a pos) (tNot tA) := by
  intro pins s σ H Q I h
  exact isTrue_not (ha pins s σ H (fun c H1 => Q (!c) H1) I h)
noncomputable def tAndV (ta tb : TE) : TE := fun σ H Q => ta σ H fun x H1 => ∃ c, x = .bl c ∧ if c = true then tb σ H1 Q else Q (.bl false) H1
noncomputable def tOrV (ta tb : TE) : TE := fun σ H Q => ta σ H fun x H1 => ∃ c, x = .bl c ∧ if c = true then Q (.bl true) H1 else tb σ H1 Q
noncomputable def tNotV (ta : TE) : TE := fun σ H Q => ta σ H fun x H1 => ∃ c, x = .bl c ∧ Q (.bl (!c)) H1
theorem pe_one {op} {t : TE} (h : PE X a t) : PE X (.BoolOp op [a] pos) t := fun pins s σ H Q I hw => BoolOp_one (h pins s σ H Q I hw)
theorem pe_and (ha : PE X a ta) (hb : PE X (.BoolOp .And (b :: rest) pos) tb) : PE X (.BoolOp .And (a :: b :: rest) pos) (tAndV ta tb) := by
  intro pins s σ H Q I h
  refine BoolOp_and (thn (ha pins s σ H _ I h) fun v s1 ⟨x, H1, I1, r1, q1⟩ => ?_)
  obtain ⟨c, rfl, q1⟩ := q1
  cases r1
  refine wpAny_truthy_bool ?_
  cases c with
  | true => exact hb pins s1 σ H1 Q I1 q1
  | false => exact ⟨.bl false, H1, I1, rfl, q1⟩
theorem pe_not (ha : PE X a ta) : PE X (.UnaryOp .Not a pos) (tNotV ta) := by
  intro pins s σ H Q I h
  refine UnaryOp_ (thn (ha pins s σ H _ I h) fun v s1 ⟨x, H1, I1, r1, q1⟩ => ?_)
  obtain ⟨c, rfl, q1⟩ := q1
  cases r1
  exact not_of (wpAny_truthy_bool ⟨.bl (!c), H1, I1, rfl, q1⟩)
noncomputable def tIf (t : TT) (ta tb : TE) : TE := fun σ H Q => t σ H fun c H1 => if c = true then ta σ H1 Q else tb σ H1 Q
theorem pe_ifExp {c : Expr} (hc : PT X c tA) (ha : PE X a ta) (hb : PE X b tb) : PE X (.IfExp c a b pos) (tIf tA ta tb) := by
  intro pins s σ H Q I h
  refine wpAny_IfExp (thn (hc pins s σ H _ I h) fun d s1 ⟨H1, I1, q1⟩ => ?_)
  cases d with
  | true => exact ha pins s1 σ H1 Q I1 q1
  | false => exact hb pins s1 σ H1 Q I1 q1
end
end L2
namespace L2
open PySem PySem.Spec PyProof.Rows
noncomputable def SqL (K : PySem.W.Frag) (H : Hp) (a : Addr) (xs : List V) : Prop :=
  Rd H a (.lst xs) ∨
    ∃ (o : Obj) (its : Array Value) (n : Nat), K.lookup a = some o ∧ o.cls = .type "list" ∧ o.dict = none ∧ o.data = .seq its n ∧ its.size ≤ sizeLine ∧ Vals xs its.toList
noncomputable def SqT (K : PySem.W.Frag) (H : Hp) (a : Addr) (xs : List V) : Prop :=
  Rd H a (.tup xs) ∨
    ∃ (o : Obj) (its : Array Value) (n : Nat), K.lookup a = some o ∧ o.cls = .type "tuple" ∧ o.data = .seq its n ∧ its.size ≤ sizeLine ∧ Vals xs its.toList
noncomputable def absV : Value → Option V
  | .none => some .non
  | .bool b => some (.bl b)
  | .int i _ => some (.int i)
  | .str x _ => some (.str x)
  | .bytes b _ => some (.byt b)
  | .float b _ => some (.flt b)
  | .ref a => some (.ref a)
  | .type n => some (.ty n)
  | _ => none
theorem RelV.abs {x : V} {u : Value} (r : RelV x u) : absV u = some x := by
  cases x with
  | non => cases r; rfl
  | bl _ => cases r; rfl
  | int _ => obtain ⟨t, rfl⟩ := r; rfl
  | str _ => obtain ⟨t, rfl⟩ := r; rfl
  | byt _ => obtain ⟨t, rfl⟩ := r; rfl
  | flt _ => obtain ⟨t, rfl⟩ := r; rfl
  | ref _ => cases r; rfl
  | ty _ => cases r; rfl
theorem RelV.inj {x y : V} {u : Value} (r : RelV x u) (q : RelV y u) : x = y := Option.some.inj (r.abs.symm.trans q.abs)
theorem Vals.inj : ∀ {xs ys : List V} {us : List Value}, Vals xs us → Vals ys us → xs = ys
  | _, _, _, .nil, .nil => rfl
  | _, _, _, .cons r t, .cons r' t' => by rw [r.inj r', Vals.inj t t']
section
variable {X : Cx} {pins : List (Addr × Obj)} {σ : St} {H : Hp} {s : Shared} {a : Addr} {xs ys : List V}
theorem SqL.of {K : PySem.W.Frag} (h : H a = some (.lst xs)) : SqL K H a xs := .inl (.inl h)
theorem SqT.of {K : PySem.W.Frag} (h : H a = some (.tup xs)) : SqT K H a xs := .inl (.inl h)
theorem Inv.list (I : Inv X pins σ H s) (h : SqL X.K H a xs) : ∃ its : List Value, Vals xs its ∧ PlainL s.heap a its.toArray ∧ xs.length ≤ sizeLine := by
  rcases h with h | ⟨o, its, n, hk, hc, hd, hs, hz, r⟩
  · obtain ⟨z, its, n, r, e⟩ := h.ok I.hok
    exact ⟨its, r, ⟨_, n, e, rfl, rfl, rfl⟩, z⟩
  · refine ⟨its.toList, r, ⟨o, n, I.kIn a o hk, hc, hd, by simpa using hs⟩, ?_⟩
    have e := r.length
    simp only [Array.length_toList] at e
    omega
theorem Inv.tuple (I : Inv X pins σ H s) (h : SqT X.K H a xs) : ∃ its : List Value, Vals xs its ∧ IsTup s.heap a its.toArray ∧ xs.length ≤ sizeLine := by
  rcases h with h | ⟨o, its, n, hk, hc, hs, hz, r⟩
  · obtain ⟨z, its, r, p⟩ := h.ok I.hok
    exact ⟨its, r, p, z⟩
  · refine ⟨its.toList, r, ⟨o, I.kIn a o hk, hc, n, by simpa using hs⟩, ?_⟩
    have e := r.length
    simp only [Array.length_toList] at e
    omega
theorem Inv.list_inj (I : Inv X pins σ H s) (h : SqL X.K H a xs) (h' : SqL X.K H a ys) : xs = ys := by
  obtain ⟨its, r, ⟨o, n, e, _, _, d⟩, _⟩ := I.list h
  obtain ⟨its', r', ⟨o', n', e', _, _, d'⟩, _⟩ := I.list h'
  rw [e] at e'; cases e'
  rw [d] at d'
  injection d' with d1 _
  have : its = its' := by simpa using congrArg Array.toList d1
  subst this
  exact r.inj r'
theorem Inv.tuple_inj (I : Inv X pins σ H s) (h : SqT X.K H a xs) (h' : SqT X.K H a ys) : xs = ys := by
  obtain ⟨its, r, ⟨o, e, _, n, d⟩, _⟩ := I.tuple h
  obtain ⟨its', r', ⟨o', e', _, n', d'⟩, _⟩ := I.tuple h'
  rw [e] at e'; cases e'
  rw [d] at d'
  injection d' with d1 _
  have : its = its' := by simpa using congrArg Array.toList d1
  subst this
  exact r.inj r'
end
noncomputable abbrev Cx.wish (X : Cx) (E : Value → Shared → Prop) : Cx := { X with xe := E }
noncomputable abbrev Cx.nox (X : Cx) : Cx := X.wish fun _ _ => False
theorem Cx.Ok.wish {X : Cx} (ok : X.Ok) (E : Value → Shared → Prop) : (X.wish E).Ok :=
  ⟨ok.mod, ok.kind, ok.glob, ok.blt, ok.above, ok.inj, ok.has, ok.cab, ok.hd, ok.frames, ok.stk, ok.exf, ok.bs, ok.bsz, ok.noex, ok.exfs, ok.funs, ok.frf⟩
theorem Cx.Ok.unwish {X : Cx} {E : Value → Shared → Prop} (ok : (X.wish E).Ok) : X.Ok :=
  ⟨ok.mod, ok.kind, ok.glob, ok.blt, ok.above, ok.inj, ok.has, ok.cab, ok.hd, ok.frames, ok.stk, ok.exf, ok.bs, ok.bsz, ok.noex, ok.exfs, ok.funs, ok.frf⟩
section
variable {X : Cx} {pins : List (Addr × Obj)} {σ : St} {H : Hp} {s : Shared} {E : Value → Shared → Prop}
theorem Inv.wish (I : Inv X pins σ H s) (E : Value → Shared → Prop) : Inv (X.wish E) pins σ H s := ⟨I.ok.wish E, I.os, I.bare, I.base, I.loc, I.cell, I.free, I.freeC, I.pin, I.hok, I.len⟩
theorem Inv.unwish (I : Inv (X.wish E) pins σ H s) : Inv X pins σ H s := ⟨I.ok.unwish, I.os, I.bare, I.base, I.loc, I.cell, I.free, I.freeC, I.pin, I.hok, I.len⟩
theorem SP.unwish {D : Ends} {f : Flow} {s' : Shared} (h : SP (X.wish E) pins D f s') : SP X pins D f s' := by
  cases f with
  | next => obtain ⟨σ', H', I, q⟩ := h; exact ⟨σ', H', I.unwish, q⟩
  | brk => obtain ⟨σ', H', I, q⟩ := h; exact ⟨σ', H', I.unwish, q⟩
  | cont => obtain ⟨σ', H', I, q⟩ := h; exact ⟨σ', H', I.unwish, q⟩
  | ret u => obtain ⟨v, σ', H', I, r, q⟩ := h; exact ⟨v, σ', H', I.unwish, r, q⟩
theorem PSs.nox {st : List Stmt} {t : TS} (h : PSs X.nox st t) : PSs X st t := fun pins s σ H D I hw =>
  wpAny_mono (h pins s σ H D (I.wish _) hw) (fun _ _ q => q.unwish) fun _ _ z => False.elim z
end
section
variable {X : Cx} {st : Stmt} {rest : List Stmt} {t u : TS} {e : Expr} {te : TE} {pos : Pos}
noncomputable def tNext : TS := fun D σ H => D.nx σ H
noncomputable def tSeq (t u : TS) : TS := fun D σ H => t { D with nx := u D } σ H
theorem pss_nil : PSs X [] tNext := fun _ _ σ H _ I h => wpAny_execs_nil ⟨σ, H, I, h⟩
theorem pss_cons (h1 : PS X st t) (h2 : PSs X rest u) : PSs X (st :: rest) (tSeq t u) := by
  intro pins s σ H D I h
  refine wpAny_execs_cons (thn (h1 pins s σ H { D with nx := u D } I h) fun f s1 q => ?_)
  cases f with
  | next =>
    obtain ⟨σ', H', I', q⟩ := q
    exact h2 pins s1 σ' H' D I' q
  | ret v => exact q
  | brk => exact q
  | cont => exact q
theorem pss_one (h1 : PS X st t) : PSs X [st] t := by
  intro pins s σ H D I h
  refine wpAny_execs_cons (thn (h1 pins s σ H D I h) fun f s1 q => ?_)
  cases f with
  | next => exact wpAny_execs_nil q
  | ret v => exact q
  | brk => exact q
  | cont => exact q
noncomputable def tBreak : TS := fun D σ H => D.bk σ H
noncomputable def tCont : TS := fun D σ H => D.ct σ H
theorem Inv.quiet {pins : List (Addr × Obj)} {σ : St} {H : Hp} {s : Shared} (I : Inv X pins σ H s) : interactive X.env = false := by simp [interactive, I.ok.kind]
noncomputable def tDrop (te : TE) : TS := fun D σ H => te σ H fun _ H1 => D.nx σ H1
theorem ps_expr (he : PE X e te) (hs : swapsWith e none pos.line X.env = pure false := by rfl) : PS X (.Expr e pos) (tDrop te) := by
  intro pins s σ H D I h
  exact wpAny_Expr_any (thn (he pins s σ H _ I h) fun v s1 ⟨x, H1, I1, r1, q1⟩ => ⟨σ, H1, I1, q1⟩) I.quiet hs
noncomputable def tRet (te : TE) : TS := fun D σ H => te σ H D.rt
theorem ps_ret (he : PE X e te) : PS X (.Return (some e) pos) (tRet te) := by
  intro pins s σ H D I h
  exact wpAny_Return_some (thn (he pins s σ H _ I h) fun v s1 ⟨x, H1, I1, r1, q1⟩ => ⟨x, σ, H1, I1, r1, q1⟩)
noncomputable def tRetN : TS := fun D _ H => D.rt .non H
noncomputable def tIfS (c : TT) (t u : TS) : TS := fun D σ H => c σ H fun b H1 => if b = true then t D σ H1 else u D σ H1
theorem ps_if {c : Expr} {a b : List Stmt} {tc : TT} (hc : PT X c tc) (ha : PSs X a t) (hb : PSs X b u) : PS X (.If c a b pos) (tIfS tc t u) := by
  intro pins s σ H D I h
  refine wpAny_If (thn (hc pins s σ H _ I h) fun d s1 ⟨H1, I1, q1⟩ => ?_)
  cases d with
  | true => exact ha pins s1 σ H1 D I1 q1
  | false => exact hb pins s1 σ H1 D I1 q1
noncomputable def tNever : TS := fun _ _ _ => False
theorem ps_never : PS X st tNever := fun _ _ _ _ _ _ h => h.elim
end
noncomputable abbrev TG := V → St → Hp → (St → Hp → Prop) → Prop
noncomputable abbrev TGs := List V → St → Hp → (St → Hp → Prop) → Prop
noncomputable def PG (X : Cx) (target : Expr) (t : TG) : Prop :=
  ∀ (pins : List (Addr × Obj)) (s : Shared) (σ : St) (H : Hp) (v : V) (u : Value) (Q : St → Hp → Prop), Inv X pins σ H s → RelV v u → t v σ H Q →
    wpAny (model X.prog X.w) X.A (assign target X.env u) (fun _ s' => ∃ σ' H', Inv X pins σ' H' s' ∧ Q σ' H') X.xe s
noncomputable def PGs (X : Cx) (ts : List Expr) (t : TGs) : Prop :=
  ∀ (pins : List (Addr × Obj)) (s : Shared) (σ : St) (H : Hp) (vs : List V) (us : List Value) (Q : St → Hp → Prop), Inv X pins σ H s → Vals vs us → t vs σ H Q →
    wpAny (model X.prog X.w) X.A (assignInOrder ((assignEach ts X.env).map (·.2)) us) (fun _ s' => ∃ σ' H', Inv X pins σ' H' s' ∧ Q σ' H') X.xe s
noncomputable abbrev TSet := V → V → V → Hp → (Hp → Prop) → Prop
noncomputable def PSet (X : Cx) (t : TSet) : Prop :=
  ∀ (pins : List (Addr × Obj)) (s : Shared) (σ : St) (H : Hp) (o i v : V) (ov iv u : Value) (Q : Hp → Prop), Inv X pins σ H s → RelV o ov → RelV i iv → RelV v u → t o i v H Q →
    wpAny (model X.prog X.w) X.A (setItem ov iv u) (fun _ s' => ∃ H', Inv X pins σ H' s' ∧ Q H') X.xe s
noncomputable abbrev TIp := V → V → Hp → VK → Prop
noncomputable def PIp (X : Cx) (op : Operator) (t : TIp) : Prop :=
  ∀ (pins : List (Addr × Obj)) (s : Shared) (σ : St) (H : Hp) (x y : V) (v u : Value) (Q : VK), Inv X pins σ H s → RelV x v → RelV y u → t x y H Q →
    wpAny (model X.prog X.w) X.A (inplaceOp op v u) (EP X pins σ Q) X.xe s
section
variable {X : Cx} {pos : Pos}
noncomputable def gName (i : Nat) : TG := fun v σ H Q => Q (σ.set i (some v)) H
theorem pg_name {i : Nat} {x : Str} (hN : X.N.Nodup) (hi : X.N[i]? = some x) (hx : Loc X.env.scope x) (hf : X.fn x = true ∨ X.env.scope.names.lookup x = some .local := by first | exact .inl rfl | exact .inr rfl | assumption) : PG X (.Name x pos) (gName i) := by
  intro pins s σ H v u Q I r h
  exact wpAny_assign_Name (store_ok I hN hi hx r (fun s' I' => ⟨_, H, I', h⟩) hf)
noncomputable def gNil : TGs := fun vs σ H Q => vs = [] ∧ Q σ H
noncomputable def gCons (t : TG) (u : TGs) : TGs := fun vs σ H Q => ∃ v r, vs = v :: r ∧ t v σ H fun σ' H' => u r σ' H' Q
theorem pgs_nil : PGs X [] gNil := by
  intro pins s σ H vs us Q I r h
  obtain ⟨e, h⟩ := h
  subst e
  cases r
  exact assignInOrder_nil ⟨σ, H, I, h⟩
theorem pgs_cons {e : Expr} {es : List Expr} {t : TG} {u : TGs} (h1 : PG X e t) (h2 : PGs X es u)
    (hs : (assignEach (e :: es) X.env).map (·.2) = assign e X.env :: (assignEach es X.env).map (·.2) := by rfl) : PGs X (e :: es) (gCons t u) := by
  intro pins s σ H vs us Q I r h
  obtain ⟨v, vr, e1, h⟩ := h
  subst e1
  cases r with
  | cons r rr =>
    rw [hs]
    refine assignInOrder_cons (thn (h1 pins s σ H _ _ _ I r h) fun _ s1 ⟨σ1, H1, I1, q1⟩ => ?_)
    exact h2 pins s1 σ1 H1 _ _ Q I1 rr q1
noncomputable def gTup (K : PySem.W.Frag) (n : Nat) (t : TGs) : TG := fun v σ H Q => ∃ a xs, v = .ref a ∧ SqT K H a xs ∧ xs.length = n ∧ t xs σ H Q
theorem pg_tup {es : List Expr} {k : Nat} {t : TGs} {n : Nat} (hc : X.calm = true) (h : PGs X es t)
    (hn : (assignEach es X.env).length = n := by rfl) (hst : (assignEach es X.env).findIdx? (·.1) = none := by rfl) : PG X (.Tuple es k pos) (gTup X.K n t) := by
  intro pins s σ H v u Q I r hw
  obtain ⟨a, xs, e1, hq, hl, hw⟩ := hw
  subst e1
  cases r
  obtain ⟨its, rv, ht, hz⟩ := I.tuple hq
  refine assign_Tuple_tuple (I.ok.hd hc) ht (by simp [hn, ← hl, rv.length]) hst fun h' hx => ?_
  have I1 : Inv X pins σ H { s with heap := h' } := I.kept (t' := s.toks) fun b o e => hx b o (Nat.ne_of_lt (Heap.lt_size e)) e
  exact h pins _ σ H xs _ Q I1 (by simpa using rv) hw
noncomputable def gSub (to ti : TE) (t : TSet) : TG := fun v σ H Q => to σ H fun o H1 => ti σ H1 fun i H2 => t o i v H2 fun H3 => Q σ H3
noncomputable def tAsg (te : TE) (g : TG) : TS := fun D σ H => te σ H fun x H1 => g x σ H1 D.nx
theorem ps_asg {tg e : Expr} {te : TE} {g : TG} (he : PE X e te) (hg : PG X tg g) (hs : swapsWithSole [tg] e pos.line X.env = pure false := by rfl) (hw : swappedStores [tg] e X.env = pure none := by rfl)
    (h1 : (assignEach [tg] X.env).map (·.2) = [assign tg X.env] := by rfl) : PS X (.Assign [tg] e pos) (tAsg te g) := by
  intro pins s σ H D I h
  refine wpAny_Assign_stores (thn (he pins s σ H _ I h) fun v s1 ⟨x, H1, I1, r1, q1⟩ => ?_) hs hw
  rw [h1]
  exact thn (hg pins s1 σ H1 x v _ I1 r1 q1) fun _ s2 q => q
theorem ps_set {i : Nat} {x : Str} {e : Expr} {te : TE} {pos' : Pos} (hN : X.N.Nodup) (hi : X.N[i]? = some x) (hx : Loc X.env.scope x) (he : PE X e te) (hs : swapsWith e (some (.Name x pos')) pos.line X.env = pure false := by rfl) (hf : X.fn x = true ∨ X.env.scope.names.lookup x = some .local := by first | exact .inl rfl | exact .inr rfl | assumption) :
    PS X (.Assign [.Name x pos'] e pos) (tAsg te (gName i)) := by
  intro pins s σ H D I h
  refine wpAny_Assign_Name (thn (he pins s σ H _ I h) fun v s1 ⟨y, H1, I1, r1, q1⟩ => ?_) hs
  exact store_ok I1 hN hi hx r1 (fun s2 I2 => ⟨_, H1, I2, q1⟩) hf
noncomputable def tPar (i j : Nat) (ta : TA) : TS := fun D σ H => ta σ H fun vs H1 => ∃ v w, vs = [v, w] ∧ D.nx ((σ.set i (some v)).set j (some w)) H1
noncomputable def tAug (i : Nat) (te : TE) (ti : TIp) : TS := fun D σ H => ∃ x, σ[i]? = some (some x) ∧ te σ H fun y H1 => ti x y H1 fun z H2 => D.nx (σ.set i (some z)) H2
noncomputable def tAugS (to ti te : TE) (tget : V → V → Hp → VK → Prop) (tip : TIp) (tset : TSet) : TS := fun D σ H => to σ H fun o H1 => ti σ H1 fun i H2 => tget o i H2 fun x H3 => te σ H3 fun y H4 => tip x y H4 fun z H5 => tset o i z H5 fun H6 => D.nx σ H6
noncomputable def PGet (X : Cx) (t : V → V → Hp → VK → Prop) : Prop :=
  ∀ (pins : List (Addr × Obj)) (s : Shared) (σ : St) (H : Hp) (o i : V) (ov iv : Value) (Q : VK), Inv X pins σ H s → RelV o ov → RelV i iv → t o i H Q →
    wpAny (model X.prog X.w) X.A (getItem ov iv) (EP X pins σ Q) X.xe s
noncomputable def ipI (f : Int → Int → Int) : TIp := fun x y H Q => ∃ i j, x = .int i ∧ y = .int j ∧ Q (.int (f i j)) H
end
section
variable {X : Cx} {pos : Pos}
noncomputable def tWhile (c : TT) (tb : TS) : TS := fun D σ H => ∃ W : Nat → St → Hp → Prop, (∃ m, W m σ H) ∧ ∀ m σ H, W m σ H →
  c σ H fun b H1 => if b = true then ∃ N : St → Hp → Prop, (∀ σ' H', N σ' H' → ∃ m', m' < m ∧ W m' σ' H') ∧ tb { D with nx := N, ct := N, bk := D.nx } σ H1 else D.nx σ H1
end
structure It where
  go : Nat → Hp → Prop
  yld : Nat → Hp → V → Hp → Prop
  stop : Nat → Hp → Prop
noncomputable def FpOk (X : Cx) (pins : List (Addr × Obj)) (H : Hp) (b : Addr) : Prop :=
  H b = none ∧ b ≠ X.env.locals ∧ b ∉ X.fs ∧ (b ∈ X.ex ∨ X.s₀.heap.objs.size ≤ b) ∧ (∀ x c, X.env.cells.lookup x = some c → c ≠ b) ∧ ∀ p ∈ X.pn ++ pins, p.1 ≠ b
theorem Inv.fpOk {X : Cx} {pins : List (Addr × Obj)} {σ : St} {H H' : Hp} {s : Shared} {b : Addr} (I : Inv X pins σ H s) (hb : s.heap.objs.size ≤ b) (hn : H' b = none) : FpOk X pins H' b := by
  refine ⟨hn, Nat.ne_of_gt (Nat.lt_of_lt_of_le I.lt hb), I.nofs hb, .inr (Nat.le_trans I.sz hb), fun x c e z => ?_, fun p hp z => ?_⟩
  · obtain ⟨v, q⟩ := I.cell x c e
    exact absurd (Nat.lt_of_lt_of_le q.lt (by rw [z]; exact hb)) (Nat.lt_irrefl _)
  · exact absurd (Nat.lt_of_lt_of_le (Heap.lt_size (I.pin p hp).1) (by rw [z]; exact hb)) (Nat.lt_irrefl _)
structure Turn (P : Program) (w : World) (K : PySem.W.Frag) (tg : Expr) (J : It) (fp : List Addr) (it : Addr) (tn : Nat → Heap → Prop) : Prop where
  mem : it ∈ fp
  obj : ∀ i h, tn i h → ∀ b ∈ fp, ∃ o, h.get? b = some o ∧ ∀ v, o.data ≠ .cell v
  keep : ∀ i h h', tn i h → (∀ b ∈ fp, ∀ o, h.get? b = some o → h'.get? b = some o) → tn i h'
  item : ∀ (X : Cx), X.prog = P → X.w = w → X.K = K → X.calm = true → ∀ (i : Nat) (pins : List (Addr × Obj)) (s : Shared) (σ : St) (H : Hp) (E : Value → Shared → Prop), Inv X pins σ H s → (∀ b ∈ fp, FpOk X pins H b) → tn i s.heap → J.go i H →
    wpAny (model P w) X.A (pyNext (.ref it)) (fun r s1 => ∃ u, r = some u ∧
      wpAny (model P w) X.A (letOwnedTupleGo tg (.ref it) u) (fun _ s2 => ∃ x H', Inv X pins σ H' s2 ∧ RelV x u ∧ J.yld i H x H' ∧ tn (i + 1) s2.heap ∧ ∀ b ∈ fp, H' b = none) E s1) E s
  done : ∀ (X : Cx), X.prog = P → X.w = w → X.K = K → X.calm = true → ∀ (i : Nat) (pins : List (Addr × Obj)) (s : Shared) (σ : St) (H : Hp) (E : Value → Shared → Prop), Inv X pins σ H s → (∀ b ∈ fp, FpOk X pins H b) → tn i s.heap → J.stop i H →
    wpAny (model P w) X.A (pyNext (.ref it)) (fun r s1 => r = none ∧ Inv X pins σ H s1) E s
  self : ∀ (A : Around) (i : Nat) (s : Shared) (Q : Value → Shared → Prop) (E : Value → Shared → Prop), tn i s.heap → Q (.ref it) s → wpAny (model P w) A (pyIter (.ref it)) Q E s
noncomputable abbrev TI := St → Hp → (It → Hp → Prop) → Prop
noncomputable def PIE (X : Cx) (pins : List (Addr × Obj)) (σ : St) (tg : Expr) (R : It → Hp → Prop) (itv : Value) (s2 : Shared) : Prop :=
  ∃ (it : Addr) (fp : List Addr) (tn : Nat → Heap → Prop) (J : It) (H' : Hp), itv = .ref it ∧ Inv X pins σ H' s2 ∧ Turn X.prog X.w X.K tg J fp it tn ∧ tn 0 s2.heap ∧ (∀ b ∈ fp, FpOk X pins H' b) ∧ R J H'
noncomputable def PI (X : Cx) (tg iter : Expr) (wi : TI) : Prop :=
  ∀ (pins : List (Addr × Obj)) (s : Shared) (σ : St) (H : Hp) (R : It → Hp → Prop), Inv X pins σ H s → wi σ H R →
    wpAny (model X.prog X.w) X.A (eval iter X.env) (fun v s1 => wpAny (model X.prog X.w) X.A (pyIter v) (PIE X pins σ tg R) X.xe s1) X.xe s
theorem go_of {M : Model} {A : Around} {E : Value → Shared → Prop} {s : Shared} {tg : Expr} {it : Addr} {u : Value} {o : Obj} {n : String} {vs : Array Value} {Q : Unit → Shared → Prop} (ho : s.heap.get? it = some o) (hc : o.cls = .type n) (hd : o.data = .fields vs)
    (hn : ["enumerate", "zip", "dict_itemiterator", "dict_reverseitemiterator", "odict_iterator", "itertools.zip_longest", "itertools.pairwise"].contains n = false) (hQ : Q () s) : wpAny M A (letOwnedTupleGo tg (.ref it) u) Q E s := by
  unfold letOwnedTupleGo
  cases tg <;> first
    | exact wpAny_pure hQ
    | (cases u <;> first
        | exact wpAny_pure hQ
        | (refine wpAny_bind (wpAny_load ho ?_)
           rw [hc, hd]
           show wpAny M A (if (["enumerate", "zip", "dict_itemiterator", "dict_reverseitemiterator", "odict_iterator", "itertools.zip_longest", "itertools.pairwise"].contains n && vs[0]? == some (rawInt _)) = true then _ else _) Q E s
           rw [if_neg (by intro h; rw [hn, Bool.false_and] at h; cases h)]
           exact wpAny_pure hQ))
noncomputable def Itl (K : PySem.W.Frag) (a : Addr) : It :=
  ⟨fun i H => ∃ xs x, SqL K H a xs ∧ xs[i]? = some x, fun i H x H' => H' = H ∧ ∀ xs, SqL K H a xs → xs[i]? = some x, fun i H => ∃ xs, SqL K H a xs ∧ xs.length ≤ i⟩
noncomputable def Itt (K : PySem.W.Frag) (a : Addr) : It :=
  ⟨fun i H => ∃ xs x, SqT K H a xs ∧ xs[i]? = some x, fun i H x H' => H' = H ∧ ∀ xs, SqT K H a xs → xs[i]? = some x, fun i H => ∃ xs, SqT K H a xs ∧ xs.length ≤ i⟩
noncomputable def Itr (lo : Int) (n : Nat) : It := ⟨fun i _ => i < n, fun i H x H' => H' = H ∧ x = .int (lo + i), fun i _ => n ≤ i⟩
theorem turn_list {P : Program} {w : World} {K : PySem.W.Frag} {tg : Expr} (a it : Addr) : Turn P w K tg (Itl K a) [it] it (fun i h => h.IsListIter it a i) where
  mem := by simp
  obj := fun i h st b hb => by
    have e : b = it := by simpa using hb
    subst e
    obtain ⟨o, e, c, d⟩ := st
    exact ⟨o, e, fun v z => by rw [d] at z; cases z⟩
  keep := fun i h h' st k => st.at fun o e => k it (by simp) o e
  item := by
    intro X hP hw hK hc i pins s σ H E I hf st hg
    subst hP hw hK
    obtain ⟨xs, x, hq, hx⟩ := hg
    obtain ⟨its, rv, p, hz⟩ := I.list hq
    obtain ⟨u, hu, ru⟩ := rv.get hx
    obtain ⟨f0, f1, f2, f3, f4, f5⟩ := hf it (by simp)
    refine wpAny_pyNext_list_item st p.isList (x := u) (by simpa using hu) fun h' st' sb => ?_
    have I1 : Inv X pins σ H { s with heap := h' } := I.turned (t' := s.toks) (fun b o hb e => (sb.2 b hb).trans e) f0 f1 f3 f4 f5
    obtain ⟨o, e, c, d⟩ := id st'
    exact ⟨u, rfl, go_of (s := { s with heap := h' }) e c d (by decide) ⟨x, H, I1, ru, ⟨rfl, fun ys hy => by rw [I.list_inj hy hq]; exact hx⟩, st', fun b hb => (hf b hb).1⟩⟩
  done := by
    intro X hP hw hK hc i pins s σ H E I hf st hg
    subst hP hw hK
    obtain ⟨xs, hq, hx⟩ := hg
    obtain ⟨its, rv, p, hz⟩ := I.list hq
    obtain ⟨f0, f1, f2, f3, f4, f5⟩ := hf it (by simp)
    have hl := rv.length
    exact wpAny_pyNext_list_end (I.ok.hd hc) st p.isList (by simp; omega) fun h' eb => ⟨rfl, I.turned (t' := s.toks) (fun b o hb e => eb b o hb e) f0 f1 f3 f4 f5⟩
  self := fun _ _ _ _ _ st h => wpAny_pyIter_listiter st h
theorem turn_tuple {P : Program} {w : World} {K : PySem.W.Frag} {tg : Expr} (a it : Addr) : Turn P w K tg (Itt K a) [it] it (fun i h => h.IsTupleIter it a i) where
  mem := by simp
  obj := fun i h st b hb => by
    have e : b = it := by simpa using hb
    subst e
    obtain ⟨o, e, c, d⟩ := st
    exact ⟨o, e, fun v z => by rw [d] at z; cases z⟩
  keep := fun i h h' st k => st.at fun o e => k it (by simp) o e
  item := by
    intro X hP hw hK hc i pins s σ H E I hf st hg
    subst hP hw hK
    obtain ⟨xs, x, hq, hx⟩ := hg
    obtain ⟨its, rv, p, hz⟩ := I.tuple hq
    obtain ⟨u, hu, ru⟩ := rv.get hx
    obtain ⟨f0, f1, f2, f3, f4, f5⟩ := hf it (by simp)
    refine wpAny_pyNext_tuple_item st (show s.heap.IsTuple a its.toArray from p) (x := u) (by simpa using hu) fun h' st' sb => ?_
    have I1 : Inv X pins σ H { s with heap := h' } := I.turned (t' := s.toks) (fun b o hb e => (sb.2 b hb).trans e) f0 f1 f3 f4 f5
    obtain ⟨o, e, c, d⟩ := id st'
    exact ⟨u, rfl, go_of (s := { s with heap := h' }) e c d (by decide) ⟨x, H, I1, ru, ⟨rfl, fun ys hy => by rw [I.tuple_inj hy hq]; exact hx⟩, st', fun b hb => (hf b hb).1⟩⟩
  done := by
    intro X hP hw hK hc i pins s σ H E I hf st hg
    subst hP hw hK
    obtain ⟨xs, hq, hx⟩ := hg
    obtain ⟨its, rv, p, hz⟩ := I.tuple hq
    obtain ⟨f0, f1, f2, f3, f4, f5⟩ := hf it (by simp)
    have hl := rv.length
    exact wpAny_pyNext_tuple_end (I.ok.hd hc) st (show s.heap.IsTuple a its.toArray from p) (by simp; omega) fun h' eb => ⟨rfl, I.turned (t' := s.toks) (fun b o hb e => eb b o hb e) f0 f1 f3 f4 f5⟩
  self := fun _ _ _ _ _ st h => wpAny_pyIter_tupleiter st h
theorem turn_range {P : Program} {w : World} {K : PySem.W.Frag} {tg : Expr} (it : Addr) (lo : Int) (n : Nat) : Turn P w K tg (Itr lo n) [it] it (fun i h => IsRangeIter h it (lo + (i : Nat) * 1) ((n : Int) - (i : Nat)) 1) where
  mem := by simp
  obj := fun i h st b hb => by
    have e : b = it := by simpa using hb
    subst e
    exact ⟨_, st, fun v z => by
      have z' : Data.fields _ = Data.cell v := z
      cases z'⟩
  keep := fun i h h' st k => k it (by simp) _ st
  item := by
    intro X hP hw hK hc i pins s σ H E I hf st hg
    subst hP hw hK
    obtain ⟨f0, f1, f2, f3, f4, f5⟩ := hf it (by simp)
    have W := Walks.range (prog := X.prog) (w := X.w) (I.ok.hd hc) it lo 1 n
    refine W.item i s _ _ hg st fun v h' tk hv st' kk => ?_
    obtain ⟨t, rfl⟩ := hv
    have I1 : Inv X pins σ H { s with heap := h', toks := tk } := I.turned (fun b o hb e => kk b o (by simpa using hb) e) f0 f1 f3 f4 f5
    refine ⟨_, rfl, go_of (s := { s with heap := h', toks := tk }) (n := "range_iterator") st' rfl rfl (by decide) ⟨.int (lo + i), H, I1, ⟨t, ?_⟩, ⟨rfl, rfl⟩, st', fun b hb => (hf b hb).1⟩⟩
    rw [Int.mul_one]
  done := by
    intro X hP hw hK hc i pins s σ H E I hf st hg
    subst hP hw hK
    obtain ⟨f0, f1, f2, f3, f4, f5⟩ := hf it (by simp)
    exact wpAny_pyNext_range_end (I.ok.hd hc) st (by have : n ≤ i := hg; omega) fun h' eb => ⟨rfl, I.turned (t' := s.toks) (fun b o hb e => eb b o hb e) f0 f1 f3 f4 f5⟩
  self := fun _ _ _ _ _ st h => wpAny_pyIter_rangeiter st h
end L2
namespace L2
open PySem PySem.Spec PyProof.Rows
section
variable {X : Cx} {tg : Expr}
noncomputable def iList (K : PySem.W.Frag) (tl : TE) : TI := fun σ H R => tl σ H fun x H1 => ∃ a, x = .ref a ∧ (∃ xs, SqL K H1 a xs) ∧ R (Itl K a) H1
noncomputable def iTup (K : PySem.W.Frag) (tl : TE) : TI := fun σ H R => tl σ H fun x H1 => ∃ a, x = .ref a ∧ (∃ xs, SqT K H1 a xs) ∧ R (Itt K a) H1
theorem pi_list {l : Expr} {tl : TE} (hl : PE X l tl) : PI X tg l (iList X.K tl) := by
  intro pins s σ H R I h
  refine thn (hl pins s σ H _ I h) fun v s1 ⟨x, H1, I1, r1, q1⟩ => ?_
  obtain ⟨a, e, ⟨xs, hq⟩, q⟩ := q1
  subst e
  cases r1
  obtain ⟨its, rv, p, hz⟩ := I1.list hq
  refine wpAny_pyIter_list p.isList ?_
  refine ⟨s1.heap.objs.size, [s1.heap.objs.size], _, _, H1, rfl, I1.kept (t' := s1.toks) fun b o e => Heap.get?_push_of_some _ e, turn_list a _, ⟨_, Heap.get?_push_size _ rfl, rfl, rfl⟩, fun b hb => ?_, q⟩
  have e : b = s1.heap.objs.size := by simpa using hb
  subst e
  exact I1.fpOk (Nat.le_refl _) (I1.hok.fresh (Nat.le_refl _))
theorem pi_tup {l : Expr} {tl : TE} (hl : PE X l tl) : PI X tg l (iTup X.K tl) := by
  intro pins s σ H R I h
  refine thn (hl pins s σ H _ I h) fun v s1 ⟨x, H1, I1, r1, q1⟩ => ?_
  obtain ⟨a, e, ⟨xs, hq⟩, q⟩ := q1
  subst e
  cases r1
  obtain ⟨its, rv, p, hz⟩ := I1.tuple hq
  refine wpAny_pyIter_tuple (show s1.heap.IsTuple a its.toArray from p) ?_
  refine ⟨s1.heap.objs.size, [s1.heap.objs.size], _, _, H1, rfl, I1.kept (t' := s1.toks) fun b o e => Heap.get?_push_of_some _ e, turn_tuple a _, ⟨_, Heap.get?_push_size _ rfl, rfl, rfl⟩, fun b hb => ?_, q⟩
  have e : b = s1.heap.objs.size := by simpa using hb
  subst e
  exact I1.fpOk (Nat.le_refl _) (I1.hok.fresh (Nat.le_refl _))
theorem range_it {pins : List (Addr × Obj)} {σ : St} {H : Hp} {s : Shared} {R : It → Hp → Prop} {E : Value → Shared → Prop} {lo hi : Int} {t u v : Tok} {tk : Nat} (I : Inv X pins σ H s) (h1 : -(2 ^ 62) ≤ lo) (h2 : lo < 2 ^ 62) (h3 : -(2 ^ 62) ≤ hi) (h4 : hi < 2 ^ 62)
    (q : R (Itr lo (hi - lo).toNat) H) : wpAny (model X.prog X.w) X.A (pyIter (.ref s.heap.objs.size)) (PIE X pins σ tg R) E { s with heap := s.heap.push { cls := .type "range", data := .fields #[.int lo t, .int hi u, .int 1 v] }, toks := tk } := by
  refine wpAny_pyIter_range (IsRange.new ..) (small_one h1 h2 h3 h4) ?_
  have I1 : Inv X pins σ H { s with heap := s.heap.push { cls := .type "range", data := .fields #[.int lo t, .int hi u, .int 1 v] }, toks := tk } := I.kept fun b o e => Heap.get?_push_of_some _ e
  refine ⟨(s.heap.push { cls := .type "range", data := .fields #[.int lo t, .int hi u, .int 1 v] }).objs.size, [(s.heap.push { cls := .type "range", data := .fields #[.int lo t, .int hi u, .int 1 v] }).objs.size], _, _, H, rfl,
    I1.kept (t' := tk) fun b o e => Heap.get?_push_of_some _ e, turn_range _ lo (hi - lo).toNat, ?_, fun b hb => ?_, q⟩
  · have e1 : lo + ((0 : Nat) : Int) * 1 = lo := by simp
    have e2 : (((hi - lo).toNat : Nat) : Int) - ((0 : Nat) : Int) = Builtin.Range.rangeSize lo hi 1 := by rw [rangeSize_one]; split <;> omega
    show IsRangeIter _ _ (lo + ((0 : Nat) : Int) * 1) ((((hi - lo).toNat : Nat) : Int) - ((0 : Nat) : Int)) 1
    rw [e1, e2]
    exact Heap.get?_push_size _ rfl
  · have e : b = (s.heap.push { cls := .type "range", data := .fields #[.int lo t, .int hi u, .int 1 v] }).objs.size := by simpa using hb
    subst e
    exact I1.fpOk (Nat.le_refl _) (I1.hok.fresh (Nat.le_refl _))
noncomputable def iRng1 (ta : TA) : TI := fun σ H R => ta σ H fun vs H1 => ∃ j : Int, vs = [.int j] ∧ -(2 ^ 62) ≤ j ∧ j < 2 ^ 62 ∧ R (Itr 0 j.toNat) H1
noncomputable def iRng2 (ta : TA) : TI := fun σ H R => ta σ H fun vs H1 => ∃ i j : Int, vs = [.int i, .int j] ∧ (-(2 ^ 62) ≤ i ∧ i < 2 ^ 62 ∧ -(2 ^ 62) ≤ j ∧ j < 2 ^ 62) ∧ R (Itr i (j - i).toNat) H1
theorem pi_range1 {a : Expr} {ta : TA} {p pos : Pos} (hg : Gl X "range") (hm : X.mg "range" = none) (ha : PA X [a] ta) (hs : starEach [a] X.env = [(false, eval a X.env)] := by rfl) : PI X tg (.Call (.Name "range" p) [a] [] pos) (iRng1 ta) := by
  intro pins s σ H R I h
  refine Call_ (ld_blt I hg hm boot_range (PyProof.Rows.callWith_type1 (thn (ha pos pins s σ H _ I h) fun us s1 ⟨vs, H1, I1, r1, q1⟩ => ?_) hs rfl))
  obtain ⟨j, e, q1, q2, q⟩ := q1
  subst e
  cases r1 with
  | cons r rr =>
    cases rr
    obtain ⟨t, rfl⟩ := r
    exact call_range_1 (range_it I1 (by omega) (by omega) q1 q2 (by simpa using q))
noncomputable def tFor (wi : TI) (g : TG) (tb : TS) : TS := fun D σ H => wi σ H fun J H1 => ∃ W : Nat → Nat → St → Hp → Prop, (∃ m, W 0 m σ H1) ∧ ∀ i m σ H, W i m σ H →
  (J.stop i H ∧ D.nx σ H) ∨ (J.go i H ∧ ∃ N : St → Hp → Prop, (∀ σ' H', N σ' H' → ∃ m', m' < m ∧ W (i + 1) m' σ' H') ∧ ∀ x H', J.yld i H x H' → g x σ H' fun σ2 H2 => tb { D with nx := N, ct := N, bk := D.nx } σ2 H2)
noncomputable def pinsAt (fp : List Addr) (h : Heap) : List (Addr × Obj) := fp.filterMap fun b => (h.get? b).map fun o => (b, o)
theorem mem_pinsAt {fp : List Addr} {h : Heap} {b : Addr} {o : Obj} (hb : b ∈ fp) (e : h.get? b = some o) : (b, o) ∈ pinsAt fp h := List.mem_filterMap.mpr ⟨b, hb, by rw [e]; rfl⟩
theorem of_pinsAt {fp : List Addr} {h : Heap} {p : Addr × Obj} (hp : p ∈ pinsAt fp h) : p.1 ∈ fp ∧ h.get? p.1 = some p.2 := by
  obtain ⟨b, hb, e⟩ := List.mem_filterMap.mp hp
  cases q : h.get? b with
  | none => rw [q] at e; cases e
  | some o =>
    rw [q] at e
    have e' : (b, o) = p := Option.some.inj e
    subst e'
    exact ⟨hb, q⟩
theorem Inv.pinned {pins : List (Addr × Obj)} {σ : St} {H : Hp} {s : Shared} {fp : List Addr} (I : Inv X pins σ H s) (hf : ∀ b ∈ fp, FpOk X pins H b) (ho : ∀ b ∈ fp, ∃ o, s.heap.get? b = some o ∧ ∀ v, o.data ≠ .cell v) : Inv X (pins ++ pinsAt fp s.heap) σ H s :=
  I.pins_of fun p hp => (List.mem_append.mp hp).elim (fun z => I.pin p (List.mem_append_right _ z)) fun z => by
    obtain ⟨hb, e⟩ := of_pinsAt z
    obtain ⟨f0, f1, f2, _⟩ := hf p.1 hb
    obtain ⟨o, e', d⟩ := ho p.1 hb
    rw [e] at e'; cases e'
    exact ⟨e, f0, f1, f2, d⟩
theorem Inv.unpinned {pins pl : List (Addr × Obj)} {σ : St} {H : Hp} {s : Shared} (I : Inv X (pins ++ pl) σ H s) : Inv X pins σ H s := I.pins_of fun p hp => I.pin p (List.mem_append_right _ (List.mem_append_left _ hp))
theorem ps_for {iter : Expr} {body : List Stmt} {wi : TI} {g : TG} {tb : TS} {pos : Pos} (hp : PassesOwn (model X.prog X.w) X.A X.env X.xe) (hc : X.calm = true) (hi : PI X tg iter wi) (hg : PG X tg g) (hb : PSs X body tb)
    (hs : ∀ x, foldedSetIterable iter X.env x = pure x := by intro _; rfl) : PS X (.For tg iter body [] pos) (tFor wi g tb) := by
  intro pins s σ H D I h
  refine wpAny_For (thn (hi pins s σ H _ I h) fun v s1 h1 => thn h1 fun itv s2 h2 => ?_) hs
  obtain ⟨it, fp, tn, J, H2, e, I2, T, st2, f2, W, ⟨m0, w0⟩, turn⟩ := h2
  subst e
  have stat : ∀ {H' : Hp}, (∀ b ∈ fp, H' b = none) → ∀ b ∈ fp, FpOk X pins H' b := fun hn b hb => ⟨hn b hb, (f2 b hb).2⟩
  refine codeAny_forLoop_any (fun n s' => ∃ i σ' H', Inv X pins σ' H' s' ∧ tn i s'.heap ∧ (∀ b ∈ fp, H' b = none) ∧ W i n σ' H') ?_ m0 ⟨0, σ, H2, I2, st2, fun b hb => (f2 b hb).1, w0⟩
  rintro n s3 ⟨i, σ3, H3, I3, st3, fr3, w3⟩
  rcases turn i n σ3 H3 w3 with ⟨stop, qn⟩ | ⟨go, N, hN, step⟩
  · refine wpAny_passesOwn hp (thn (T.done X rfl rfl rfl hc i pins s3 σ3 H3 X.xe I3 (stat fr3) st3 stop) fun r s4 ⟨hr, I4⟩ => ?_)
    subst hr
    exact wpAny_execs_nil ⟨σ3, H3, I4, qn⟩
  · refine wpAny_passesOwn hp (thn (T.item X rfl rfl rfl hc i pins s3 σ3 H3 X.xe I3 (stat fr3) st3 go) fun r s4 ⟨u, hr, h4⟩ => ?_)
    subst hr
    refine wpAny_passesOwn hp (thn h4 fun _ s5 ⟨x, H5, I5, r5, y5, st5, fr5⟩ => ?_)
    have I5' := I5.pinned (stat fr5) (T.obj _ _ st5)
    refine wpAny_passesOwn hp (thn (hg _ s5 σ3 H5 x u _ I5' r5 (step x H5 y5)) fun _ s6 ⟨σ6, H6, I6, q6⟩ => ?_)
    refine wpAny_passesOwn hp (thn (hb _ s6 σ6 H6 _ I6 q6) fun f s7 q7 => ?_)
    have again : ∀ {σ7 : St} {H7 : Hp}, Inv X (pins ++ pinsAt fp s5.heap) σ7 H7 s7 → N σ7 H7 → ∃ m, m < n ∧ ∃ i σ' H', Inv X pins σ' H' s7 ∧ tn i s7.heap ∧ (∀ b ∈ fp, H' b = none) ∧ W i m σ' H' := fun {σ7 H7} I7 n7 => by
      obtain ⟨m', hm, w7⟩ := hN σ7 H7 n7
      refine ⟨m', hm, i + 1, σ7, H7, I7.unpinned, T.keep _ _ _ st5 fun b hb o e => (I7.pin (b, o) (List.mem_append_right _ (List.mem_append_right _ (mem_pinsAt hb e)))).1, fun b hb => ?_, w7⟩
      obtain ⟨o, e, d⟩ := T.obj _ _ st5 b hb
      exact (I7.pin (b, o) (List.mem_append_right _ (List.mem_append_right _ (mem_pinsAt hb e)))).2.1
    cases f with
    | next => obtain ⟨σ7, H7, I7, n7⟩ := q7; exact again I7 n7
    | cont => obtain ⟨σ7, H7, I7, n7⟩ := q7; exact again I7 n7
    | brk => obtain ⟨σ7, H7, I7, q7⟩ := q7; exact ⟨σ7, H7, I7.unpinned, q7⟩
    | ret v => obtain ⟨x7, σ7, H7, I7, r7, q7⟩ := q7; exact ⟨x7, σ7, H7, I7.unpinned, r7, q7⟩
end
end L2
namespace L2
open PySem PySem.Spec PyProof.Rows
noncomputable abbrev R2 := V → V → Hp → VK → Prop
noncomputable def OpR (X : Cx) (f : Value → Value → Sem Value) (r : R2) : Prop :=
  ∀ (pins : List (Addr × Obj)) (s : Shared) (σ : St) (H : Hp) (x y : V) (v u : Value) (Q : VK), Inv X pins σ H s → RelV x v → RelV y u → r x y H Q →
    wpAny (model X.prog X.w) X.A (f v u) (EP X pins σ Q) X.xe s
noncomputable def UnR (X : Cx) (f : Value → Sem Value) (r : V → Hp → VK → Prop) : Prop :=
  ∀ (pins : List (Addr × Obj)) (s : Shared) (σ : St) (H : Hp) (x : V) (v : Value) (Q : VK), Inv X pins σ H s → RelV x v → r x H Q →
    wpAny (model X.prog X.w) X.A (f v) (EP X pins σ Q) X.xe s
noncomputable def CallR (X : Cx) (f : Value) (r : List V → Hp → VK → Prop) : Prop :=
  ∀ (pins : List (Addr × Obj)) (s : Shared) (σ : St) (H : Hp) (xs : List V) (us : List Value) (Q : VK), Inv X pins σ H s → Vals xs us → r xs H Q →
    wpAny (model X.prog X.w) X.A (call f us) (EP X pins σ Q) X.xe s
noncomputable def TruR (X : Cx) (r : V → Hp → (Bool → Hp → Prop) → Prop) : Prop :=
  ∀ (pins : List (Addr × Obj)) (s : Shared) (σ : St) (H : Hp) (x : V) (v : Value) (Q : Bool → Hp → Prop), Inv X pins σ H s → RelV x v → r x H Q →
    wpAny (model X.prog X.w) X.A (truthy v) (TP X pins σ Q) X.xe s
noncomputable def tOp (r : R2) (ta tb : TE) : TE := fun σ H Q => ta σ H fun x H1 => tb σ H1 fun y H2 => r x y H2 Q
noncomputable def tUn (r : V → Hp → VK → Prop) (ta : TE) : TE := fun σ H Q => ta σ H fun x H1 => r x H1 Q
noncomputable def rI (C : Int → Int → Prop) (g : Int → Int → V) : R2 := fun x y H Q => ∃ i j, x = .int i ∧ y = .int j ∧ C i j ∧ Q (g i j) H
noncomputable def rI0 (g : Int → Int → V) : R2 := fun x y H Q => ∃ i j, x = .int i ∧ y = .int j ∧ Q (g i j) H
noncomputable def rU (g : Int → V) : V → Hp → VK → Prop := fun x H Q => ∃ i, x = .int i ∧ Q (g i) H
section
variable {X : Cx} {a b c : Expr} {ta tb tc : TE} {pos : Pos}
theorem binT (ha : PE X a ta) (hb : PE X b tb) {pins : List (Addr × Obj)} {s : Shared} {σ : St} {H : Hp} {R : V → V → Hp → Prop} (I : Inv X pins σ H s)
    (h : ta σ H fun x H1 => tb σ H1 fun y H2 => R x y H2) {Q : Value → Shared → Prop} {f : Value → Value → Sem Value}
    (hf : ∀ v u s2 x y H2, Inv X pins σ H2 s2 → RelV x v → RelV y u → R x y H2 → wpAny (model X.prog X.w) X.A (f v u) Q X.xe s2) :
    wpAny (model X.prog X.w) X.A (eval a X.env) (fun v s₁ => wpAny (model X.prog X.w) X.A (eval b X.env) (fun u s₂ => wpAny (model X.prog X.w) X.A (f v u) Q X.xe s₂) X.xe s₁) X.xe s := by
  refine thn (ha pins s σ H _ I h) fun v s1 ⟨x, H1, I1, r1, q1⟩ => ?_
  refine thn (hb pins s1 σ H1 _ I1 q1) fun u s2 ⟨y, H2, I2, r2, q2⟩ => ?_
  exact hf v u s2 x y H2 I2 r1 r2 q2
theorem pe_op {op : Operator} {r : R2} (ho : OpR X (binaryOp op) r) (ha : PE X a ta) (hb : PE X b tb) : PE X (.BinOp a op b pos) (tOp r ta tb) := by
  intro pins s σ H Q I h
  exact wpAny_BinOp (binT ha hb I h fun v u s2 x y H2 I2 rx ry q => ho pins s2 σ H2 x y v u Q I2 rx ry q)
theorem pe_un {op : UnaryOp} {r : V → Hp → VK → Prop} (ho : UnR X (unaryOp op) r) (ha : PE X a ta) : PE X (.UnaryOp op a pos) (tUn r ta) := by
  intro pins s σ H Q I h
  exact UnaryOp_ (thn (ha pins s σ H _ I h) fun v s1 ⟨x, H1, I1, r1, q1⟩ => ho pins s1 σ H1 x v Q I1 r1 q1)
theorem opI {f : Value → Value → Sem Value} {C : Int → Int → Prop} {g : Int → Int → Int}
    (rule : ∀ (i j : Int) (t u : Tok) (s : Shared) (Q : Value → Shared → Prop) (E : Value → Shared → Prop), C i j → Q (.int (g i j) s.toks) { s with toks := s.toks + 1 } → wpAny (model X.prog X.w) X.A (f (.int i t) (.int j u)) Q E s) :
    OpR X f (rI C fun i j => .int (g i j)) := by
  intro pins s σ H x y v u Q I rx ry h
  obtain ⟨i, j, rfl, rfl, hc, q⟩ := h
  obtain ⟨t, rfl⟩ := rx
  obtain ⟨t', rfl⟩ := ry
  exact rule i j t t' s _ _ hc ⟨.int (g i j), H, I.tok _, ⟨_, rfl⟩, q⟩
theorem opI0 {f : Value → Value → Sem Value} {g : Int → Int → Int}
    (rule : ∀ (i j : Int) (t u : Tok) (s : Shared) (Q : Value → Shared → Prop) (E : Value → Shared → Prop), Q (.int (g i j) s.toks) { s with toks := s.toks + 1 } → wpAny (model X.prog X.w) X.A (f (.int i t) (.int j u)) Q E s) :
    OpR X f (rI0 fun i j => .int (g i j)) := by
  intro pins s σ H x y v u Q I rx ry h
  obtain ⟨i, j, rfl, rfl, q⟩ := h
  obtain ⟨t, rfl⟩ := rx
  obtain ⟨t', rfl⟩ := ry
  exact rule i j t t' s _ _ ⟨.int (g i j), H, I.tok _, ⟨_, rfl⟩, q⟩
theorem opB0 {f : Value → Value → Sem Value} {g : Int → Int → Bool}
    (rule : ∀ (i j : Int) (t u : Tok) (s : Shared) (Q : Value → Shared → Prop) (E : Value → Shared → Prop), Q (.bool (g i j)) s → wpAny (model X.prog X.w) X.A (f (.int i t) (.int j u)) Q E s) :
    OpR X f (rI0 fun i j => .bl (g i j)) := by
  intro pins s σ H x y v u Q I rx ry h
  obtain ⟨i, j, rfl, rfl, q⟩ := h
  obtain ⟨t, rfl⟩ := rx
  obtain ⟨t', rfl⟩ := ry
  exact rule i j t t' s _ _ ⟨.bl (g i j), H, I, rfl, q⟩
noncomputable def CDiv (i j : Int) : Prop := 0 < j ∧ j < 1073741824
noncomputable def CDivN (i j : Int) : Prop := j ≠ 0 ∧ j.natAbs < 1073741824
noncomputable def CPow (i j : Int) : Prop := 0 ≤ j ∧ j ≤ 1000000 ∧ i.natAbs < 2 ^ 64
noncomputable def CMul (i j : Int) : Prop := (-(2 ^ 64) < i ∧ i < 2 ^ 64) ∨ (-(2 ^ 64) < j ∧ j < 2 ^ 64)
theorem CMul.ok {i j : Int} (h : CMul i j) : IntMulOk i j := by
  rcases h with ⟨h1, h2⟩ | ⟨h1, h2⟩
  · exact .of_left (intBits_le_64 h1 h2)
  · exact .of_right (intBits_le_64 h1 h2)
theorem op_add : OpR X (binaryOp .Add) (rI0 fun i j => .int (i + j)) := opI0 fun _ _ _ _ _ _ _ q => add_int q
theorem op_sub : OpR X (binaryOp .Sub) (rI0 fun i j => .int (i - j)) := opI0 fun _ _ _ _ _ _ _ q => sub_int q
theorem op_mul : OpR X (binaryOp .Mult) (rI CMul fun i j => .int (i * j)) := opI fun _ _ _ _ _ _ _ hc q => mul_int q hc.ok
theorem op_fdiv : OpR X (binaryOp .FloorDiv) (rI CDiv fun i j => .int (i / j)) := opI fun i j _ _ _ _ _ hc q => by
  have h1 : (0 : Int) < j := hc.1
  have h2 : j < 1073741824 := hc.2
  exact floordiv_int (by omega) (by rw [Int.fdiv_eq_ediv_of_nonneg i (by omega)]; exact q) (.inl (PyProof.noPylong_small (by omega)))
theorem op_mod : OpR X (binaryOp .Mod) (rI (fun _ j => 0 < j) fun i j => .int (i % j)) := opI fun i j _ _ _ _ _ hc q => by
  have h1 : (0 : Int) < j := hc
  exact mod_int' (by omega) (by rw [Int.fmod_eq_emod_of_nonneg i (by omega)]; exact q)
theorem unI {f : Value → Sem Value} {g : Int → Int}
    (rule : ∀ (i : Int) (t : Tok) (s : Shared) (Q : Value → Shared → Prop) (E : Value → Shared → Prop), Q (.int (g i) s.toks) { s with toks := s.toks + 1 } → wpAny (model X.prog X.w) X.A (f (.int i t)) Q E s) :
    UnR X f (rU fun i => .int (g i)) := by
  intro pins s σ H x v Q I rx h
  obtain ⟨i, rfl, q⟩ := h
  obtain ⟨t, rfl⟩ := rx
  exact rule i t s _ _ ⟨.int (g i), H, I.tok _, ⟨_, rfl⟩, q⟩
theorem un_neg : UnR X (unaryOp .USub) (rU fun i => .int (-i)) := unI fun _ _ _ _ _ q => neg_int q
end
noncomputable def scal : V → V → Bool
  | .non, .non => true | .non, .int _ => true | .int _, .non => true | .non, .bl _ => true | .bl _, .non => true | .non, .str _ => true | .str _, .non => true
  | .int _, .int _ => true | .bl _, .bl _ => true | .str _, .str _ => true | .byt _, .byt _ => true
  | .int _, .str _ => true | .str _, .int _ => true | .bl _, .str _ => true | .str _, .bl _ => true
  | _, _ => false
noncomputable def rEq : R2 := fun x y H Q => scal x y = true ∧ Q (.bl (decide (x = y))) H
noncomputable def rNe : R2 := fun x y H Q => scal x y = true ∧ Q (.bl (!decide (x = y))) H
section
variable {X : Cx} {a b c : Expr} {ta tb tc : TE} {pos : Pos}
theorem fin_bl {pins : List (Addr × Obj)} {σ : St} {H : Hp} {s : Shared} {Q : VK} {k k' : Bool} (I : Inv X pins σ H s) (q : Q (.bl k) H) (e : k = k') : EP X pins σ Q (.bool k') s := by
  subst e
  exact ⟨.bl k, H, I, rfl, q⟩
theorem op_lt : OpR X (compareOp .Lt) (rI0 fun i j => .bl (decide (i < j))) := opB0 fun _ _ _ _ _ _ _ q => lt_int q
theorem op_le : OpR X (compareOp .LtE) (rI0 fun i j => .bl (decide (i ≤ j))) := opB0 fun _ _ _ _ _ _ _ q => le_int q
theorem op_in_str : OpR X (compareOp .In) (fun x y H Q => ∃ i j, x = .str i ∧ y = .str j ∧ Q (.bl (!(Builtin.Str.occurrences j i 0 j.length 1).isEmpty)) H) := by
  intro pins s σ H x y v u Q I rx ry h
  obtain ⟨i, j, rfl, rfl, q⟩ := h
  obtain ⟨t, rfl⟩ := rx
  obtain ⟨t', rfl⟩ := ry
  exact in_str (fin_bl I q rfl)
noncomputable def isObj : HO → Bool
  | .lst _ => true
  | .ins _ _ _ => true
  | _ => false
theorem OpR.or {f : Value → Value → Sem Value} {r r' : R2} (h : OpR X f r) (h' : OpR X f r') : OpR X f (fun x y H Q => r x y H Q ∨ r' x y H Q) := by
  intro pins s σ H x y v u Q I rx ry q
  rcases q with q | q
  · exact h pins s σ H x y v u Q I rx ry q
  · exact h' pins s σ H x y v u Q I rx ry q
theorem nomark (b : Expr) {op : CmpOp} (h : op ≠ .In := by decide) (h2 : op ≠ .NotIn := by decide) : behindInMarks op b = false := by
  have e1 : (op == CmpOp.In) = false := by cases op <;> first | rfl | exact absurd rfl h
  have e2 : (op == CmpOp.NotIn) = false := by cases op <;> first | rfl | exact absurd rfl h2
  cases b <;> simp [behindInMarks, e1, e2]
theorem pe_cmpR {op : CmpOp} {r : R2} (ho : OpR X (compareOp op) r) (ha : PE X a ta) (hb : PE X b tb) (hm : behindInMarks op b = false) : PE X (.Compare a [op] [b] pos) (tOp r ta tb) := by
  intro pins s σ H Q I h
  exact wpAny_Compare1 (binT ha hb I h fun v u s2 x y H2 I2 rx ry q => ho pins s2 σ H2 x y v u Q I2 rx ry q) hm
noncomputable def tTest (t : TE) : TT := fun σ H Q => t σ H fun x H' => ∃ k, x = .bl k ∧ Q k H'
theorem pt_cmpR {op : CmpOp} {r : R2} (ho : OpR X (compareOp op) r) (ha : PE X a ta) (hb : PE X b tb) (hm : behindInMarks op b = false) : PT X (.Compare a [op] [b] pos) (tTest (tOp r ta tb)) := by
  intro pins s σ H Q I h
  refine wpAny_isTrue_Compare1 (thn (ha pins s σ H _ I h) fun v s1 ⟨x, H1, I1, r1, q1⟩ => thn (hb pins s1 σ H1 _ I1 q1) fun u s2 ⟨y, H2, I2, r2, q2⟩ =>
    thn (ho pins s2 σ H2 x y v u _ I2 r1 r2 q2) fun c s3 ⟨z, H3, I3, r3, k, e, q3⟩ => ?_) hm
  subst e
  cases r3
  exact wpAny_truthy_bool ⟨H3, I3, q3⟩
noncomputable def tChain (r r' : R2) (ta tb tc : TE) : TE := fun σ H Q => ta σ H fun x H1 => tb σ H1 fun y H2 => r x y H2 fun z H3 => ∃ k, z = .bl k ∧
  (if k = true then tc σ H3 fun w' H4 => r' y w' H4 Q else Q (.bl false) H3)
theorem pe_chain {op op' : CmpOp} {r r' : R2} (ho : OpR X (compareOp op) r) (ho' : OpR X (compareOp op') r') (ha : PE X a ta) (hb : PE X b tb) (hc : PE X c tc)
    (hm : lastMarks [op, op'] [b, c] = false := by with_unfolding_all rfl) : PE X (.Compare a [op, op'] [b, c] pos) (tChain r r' ta tb tc) := by
  intro pins s σ H Q I h
  refine Compare_chain (thn (ha pins s σ H _ I h) fun v s1 ⟨x, H1, I1, r1, q1⟩ => chain_link (thn (hb pins s1 σ H1 _ I1 q1) fun u s2 ⟨y, H2, I2, r2, q2⟩ =>
    thn (ho pins s2 σ H2 x y v u _ I2 r1 r2 q2) fun d s3 ⟨z, H3, I3, r3, k, e, q3⟩ => ?_)) hm
  subst e
  cases r3
  refine wpAny_truthy_bool ?_
  cases k with
  | false => exact ite_ff ⟨.bl false, H3, I3, rfl, q3⟩
  | true => exact ite_tt (chain_last (thn (hc pins s3 σ H3 _ I3 q3) fun w' s4 ⟨z', H4, I4, r4, q4⟩ => ho' pins s4 σ H4 y z' u w' Q I4 r2 r4 q4))
noncomputable def TruV (K : PySem.W.Frag) (x : V) (H : Hp) (k : Bool) : Prop :=
  match x with
  | .non => k = false
  | .bl b => k = b
  | .int i => k = (i != 0)
  | .str y => y.length ≤ sizeLine ∧ k = ((y.length : Int) != 0)
  | .byt y => y.size ≤ sizeLine ∧ k = ((y.size : Int) != 0)
  | .ref p => (∃ xs, SqL K H p xs ∧ k = !xs.isEmpty) ∨ (∃ xs, SqT K H p xs ∧ k = !xs.isEmpty) ∨ ∃ kvs, H p = some (.dK kvs) ∧ k = !kvs.isEmpty
  | _ => False
theorem line63 : (sizeLine : Nat) < 2 ^ 63 := by rw [sizeLine_eq]; decide
theorem op_add_str : OpR X (binaryOp .Add) (fun x y H Q => ∃ i j, x = .str i ∧ y = .str j ∧ i.length + j.length ≤ sizeLine ∧ Q (.str (i ++ j)) H) := by
  intro pins s σ H x y v u Q I rx ry h
  obtain ⟨i, j, rfl, rfl, hz, q⟩ := h
  obtain ⟨t, rfl⟩ := rx
  obtain ⟨t', rfl⟩ := ry
  exact add_str (fun t' tk => ⟨.str (i ++ j), H, I.tok _, ⟨_, rfl⟩, q⟩) hz
noncomputable def PlainIxT (b : Expr) : Prop := ∀ o i, subscripted b false o i = operate [o, i] (getItem o i)
theorem vals1 {x : V} {us : List Value} (r : Vals [x] us) : ∃ u, us = [u] ∧ RelV x u := by
  cases r with
  | cons r1 r2 => cases r2; exact ⟨_, rfl, r1⟩
theorem vals2 {x y : V} {us : List Value} (r : Vals [x, y] us) : ∃ u w', us = [u, w'] ∧ RelV x u ∧ RelV y w' := by
  cases r with
  | cons r1 r2 =>
    cases r2 with
    | cons r3 r4 => cases r4; exact ⟨_, _, rfl, r1, r3⟩
theorem call_max2 (hc : X.calm = true) : CallR X (.builtin "max") (fun xs H Q => ∃ i j, xs = [.int i, .int j] ∧ Q (.int (if j > i then j else i)) H) := by
  intro pins s σ H xs us Q I r h
  obtain ⟨i, j, rfl, q⟩ := h
  obtain ⟨u, w', rfl, ⟨t, rfl⟩, ⟨t', rfl⟩⟩ := vals2 r
  refine max_two_ints (I.ok.hd hc) fun h' tk k => ⟨_, H, I.kept k, ?_, q⟩
  by_cases hj : j > i
  · rw [if_pos hj, if_pos hj]; exact ⟨_, rfl⟩
  · rw [if_neg hj, if_neg hj]; exact ⟨_, rfl⟩
theorem call_min2 (hc : X.calm = true) : CallR X (.builtin "min") (fun xs H Q => ∃ i j, xs = [.int i, .int j] ∧ Q (.int (if j < i then j else i)) H) := by
  intro pins s σ H xs us Q I r h
  obtain ⟨i, j, rfl, q⟩ := h
  obtain ⟨u, w', rfl, ⟨t, rfl⟩, ⟨t', rfl⟩⟩ := vals2 r
  refine min_two_ints (I.ok.hd hc) fun h' tk k => ⟨_, H, I.kept k, ?_, q⟩
  by_cases hj : j < i
  · rw [if_pos hj, if_pos hj]; exact ⟨_, rfl⟩
  · rw [if_neg hj, if_neg hj]; exact ⟨_, rfl⟩
noncomputable def LenV (K : PySem.W.Frag) (x : V) (H : Hp) (n : Nat) : Prop :=
  match x with
  | .str y => y.length ≤ sizeLine ∧ n = y.length
  | .byt y => y.size ≤ sizeLine ∧ n = y.size
  | .ref p => (∃ xs, SqL K H p xs ∧ n = xs.length) ∨ ∃ xs, SqT K H p xs ∧ n = xs.length
  | _ => False
end
end L2
namespace L2
open PySem PySem.Spec PyProof.Rows
structure ObjM (h : Heap) (x dx C : Addr) (mA : Str → Option Value) : Prop where
  obj : h.get? x = some (PySem.W.instObj C dx)
  ns : h.Ns1 dx mA
  ne : dx ≠ x
noncomputable def putF (f : Str) (v : V) : List (Str × V) → List (Str × V)
  | [] => [(f, v)]
  | (g, x) :: r => if g = f then (g, v) :: r else (g, x) :: putF f v r
structure Cls (K : PySem.W.Frag) (C : Addr) : Prop where
  pg : PySem.W.plainGet K C Str.empty = true
  hd : PySem.W.hasDictIn K C = true
  po : PySem.W.plainOver K C = true
  sa : PySem.W.findIn K (.ref C) "__setattr__" = some (some (.builtin "object.__setattr__"))
noncomputable def NoAttr (K : PySem.W.Frag) (C : Addr) (f : Str) : Prop := PySem.W.findIn K (.ref C) f = some none
structure Con (K : PySem.W.Frag) (C : Addr) (f : Str) (v : V) (u : Value) : Prop where
  at_ : PySem.W.findIn K (.ref C) f = some (some u)
  rel : RelV v u
  get : PySem.W.specialIn K u "__get__" = some none
  cp : PySem.W.copiedNames.contains f = false
structure Meth (K : PySem.W.Frag) (C : Addr) (m : Str) (f : Addr) : Prop where
  at_ : PySem.W.findIn K (.ref C) m = some (some (.ref f))
  fn : PySem.W.isFn K (.ref f) = true
  kp : PySem.W.keepIn K (.ref f) = true
noncomputable def tFld (K : PySem.W.Frag) (ta : TE) (f : Str) : TE := fun σ H Q => ta σ H fun x H1 => ∃ a C dx fs v, x = .ref a ∧ H1 a = some (.ins C dx fs) ∧ Cls K C ∧ NoAttr K C f ∧ fs.lookup f = some v ∧ Q v H1
noncomputable def tCon (K : PySem.W.Frag) (ta : TE) (f : Str) : TE := fun σ H Q => ta σ H fun x H1 => ∃ a C dx fs v u, x = .ref a ∧ H1 a = some (.ins C dx fs) ∧ Cls K C ∧ Con K C f v u ∧ fs.lookup f = none ∧ Q v H1
noncomputable def sFld (K : PySem.W.Frag) (ta tv : TE) (f : Str) : TS := fun D σ H => tv σ H fun y H1 => ta σ H1 fun x H2 => ∃ a C dx fs, x = .ref a ∧ H2 a = some (.ins C dx fs) ∧ Cls K C ∧ NoAttr K C f ∧ fs.length < 1000 ∧
  D.nx σ (upd H2 a (.ins C dx (putF f y fs)))
noncomputable def InOp (X : Cx) (op : Operator) (rd : V → V → Hp → VK → Prop) : Prop :=
  ∀ (pins : List (Addr × Obj)) (s : Shared) (σ : St) (H : Hp) (x y : V) (u v : Value) (Q : VK), Inv X pins σ H s → RelV x u → RelV y v → rd x y H Q → wpAny (model X.prog X.w) X.A (inplaceOp op u v) (EP X pins σ Q) X.xe s
noncomputable def sFldAug (K : PySem.W.Frag) (ta tv : TE) (rd : V → V → Hp → VK → Prop) (f : Str) : TS := fun D σ H => ta σ H fun x H1 => ∃ a C dx fs v, x = .ref a ∧ H1 a = some (.ins C dx fs) ∧ Cls K C ∧ NoAttr K C f ∧ fs.lookup f = some v ∧
  tv σ H1 fun y H2 => rd v y H2 fun z H3 => ∃ dx' fs', H3 a = some (.ins C dx' fs') ∧ fs'.length < 1000 ∧ D.nx σ (upd H3 a (.ins C dx' (putF f z fs')))
section
variable {X : Cx} {o e value : Expr} {f : Str} {pos pos' tpos : Pos} {ta tv : TE}
noncomputable def rAdd : V → V → Hp → VK → Prop := fun x y H Q => ∃ i j, x = .int i ∧ y = .int j ∧ Q (.int (i + j)) H
noncomputable def rSub : V → V → Hp → VK → Prop := fun x y H Q => ∃ i j, x = .int i ∧ y = .int j ∧ Q (.int (i - j)) H
end
section
variable {X : Cx} {pins : List (Addr × Obj)} {σ : St} {H : Hp} {s : Shared} {A : Around} {E : Value → Shared → Prop} {Q : Value → Shared → Prop} {c : Value} {b : Bool}
inductive TyOf (K : PySem.W.Frag) (H : Hp) : V → Value → Prop where
  | non : TyOf K H .non (.type "NoneType")
  | bl (x : Bool) : TyOf K H (.bl x) (.type "bool")
  | int (i : Int) : TyOf K H (.int i) (.type "int")
  | str (x : Str) : TyOf K H (.str x) (.type "str")
  | flt (x : UInt64) : TyOf K H (.flt x) (.type "float")
  | lst {a : Addr} {xs : List V} (e : H a = some (.lst xs)) : TyOf K H (.ref a) (.type "list")
  | frz {a : Addr} {o : Obj} {xs : List V} (e : H a = some (.frz o (.lst xs))) : TyOf K H (.ref a) (.type "list")
  | tup {a : Addr} {xs : List V} (e : H a = some (.tup xs)) : TyOf K H (.ref a) (.type "tuple")
  | dK {a : Addr} {kvs : List (Key × V)} (e : H a = some (.dK kvs)) : TyOf K H (.ref a) (.type "dict")
  | dT {a : Addr} {kvs : List (List Key × V)} (e : H a = some (.dT kvs)) : TyOf K H (.ref a) (.type "dict")
  | ins {a C dx : Addr} {fs : List (Str × V)} (e : H a = some (.ins C dx fs)) (cl : Cls K C) (ha : PySem.W.findIn K (.ref C) "__class__" = some (some (.builtin "object.__class__")))
      (hn : PySem.W.specialIn K (.builtin "object.__class__") "__get__" = some (some (.builtin "getset_descriptor.__get__"))) (htk : PySem.W.takesIn K (.builtin "object.__class__") = some true)
      (hm : PySem.W.mroIn K C (.type "object") = some true) : TyOf K H (.ref a) (.ref C)
end
end L2
namespace L2
open PySem PySem.Spec PyProof.Rows
structure Room (k : Nat) (A : Around) : Prop where
  hd : A.handled = none
  dp : A.depth + 3 * k + 5 < recursionLimit
  un : A.units + 16 * k + 200 < cLine
theorem Room.mono {j k : Nat} {A : Around} (r : Room k A) (h : j ≤ k) : Room j A := ⟨r.hd, by have := r.dp; omega, by have := r.un; omega⟩
theorem Room.deeper {k : Nat} {A : Around} (r : Room (k + 1) A) (env : Env) : Room k (A.deeper env) :=
  ⟨r.hd, by have := r.dp; show A.depth + 1 + 3 * k + 5 < _; omega, by have := r.un; show A.units + 3 + 16 * k + 200 < _; omega⟩
theorem Room.depth {k : Nat} {A : Around} (r : Room k A) : A.depth < recursionLimit := by have := r.dp; omega
theorem Room.units {k : Nat} {A : Around} (r : Room k A) : A.units + 64 < cLine := by have := r.un; omega
noncomputable def tNil : TA := fun _ H Q => Q [] H
noncomputable def tCons (ta : TE) (tr : TA) : TA := fun σ H Q => ta σ H fun x H1 => tr σ H1 fun xs H2 => Q (x :: xs) H2
section
variable {X : Cx} {e : Expr} {es : List Expr} {te : TE} {t : TA} {pos : Pos}
theorem pa_nil : PA X [] tNil := fun _ _ _ _ H Q I h => Calls.spliced_nil ⟨[], H, I, .nil, h⟩
theorem pa_cons (ha : PE X e te) (hr : PA X es t) (hs : starEach (e :: es) X.env = (false, eval e X.env) :: starEach es X.env := by rfl) : PA X (e :: es) (tCons te t) := by
  intro pos pins s σ H Q I h
  rw [hs]
  show wpAny _ _ (spliced ((false, eval e X.env) :: backTo pos (starEach es X.env))) _ _ s
  refine Calls.spliced_cons (thn (ha pins s σ H _ I h) fun u s1 ⟨x, H1, I1, r1, q1⟩ => ?_)
  exact thn (hr pos pins s1 σ H1 _ I1 q1) fun us s2 ⟨xs, H2, I2, r2, q2⟩ => ⟨x :: xs, H2, I2, .cons r1 r2, q2⟩
noncomputable def tTup (t : TA) : TE := fun σ H Q => t σ H fun xs H1 => xs.length ≤ sizeLine ∧ ∀ p, H1 p = none → Q (.ref p) (upd H1 p (.tup xs))
noncomputable def tLst (t : TA) : TE := fun σ H Q => t σ H fun xs H1 => xs.length ≤ sizeLine ∧ ∀ p, H1 p = none → Q (.ref p) (upd H1 p (.lst xs))
theorem pe_tup {x1} (h : PA X es t) : PE X (.Tuple es x1 pos) (tTup t) := by
  intro pins s σ H Q I hq
  refine wpAny_Tuple_spliced (thn (h pos pins s σ H _ I hq) fun us s1 ⟨xs, H1, I1, r, z, q⟩ => ⟨by rw [← r.length]; exact z, ?_⟩)
  have hf : H1 s1.heap.objs.size = none := I1.hok.fresh (Nat.le_refl _)
  refine ⟨.ref s1.heap.objs.size, upd H1 s1.heap.objs.size (.tup xs), I1.laid (t' := s1.toks) (fun b u e => Heap.get?_push_of_some _ e) (Nat.le_refl _) ?_, rfl, q _ hf⟩
  exact ⟨z, us, r, ⟨_, Heap.get?_push_size _ rfl, rfl, _, rfl⟩⟩
theorem pe_lst (h : PA X es t) : PE X (.List es pos) (tLst t) := by
  intro pins s σ H Q I hq
  refine wpAny_List_spliced (thn (h pos pins s σ H _ I hq) fun us s1 ⟨xs, H1, I1, r, z, q⟩ => ⟨by rw [← r.length]; exact z, ?_⟩)
  have hf : H1 s1.heap.objs.size = none := I1.hok.fresh (Nat.le_refl _)
  refine ⟨.ref s1.heap.objs.size, upd H1 s1.heap.objs.size (.lst xs), I1.laid (t' := s1.toks) (fun b u e => Heap.get?_push_of_some _ e) (Nat.le_refl _) ?_, rfl, q _ hf⟩
  exact ⟨z, us, 0, r, Heap.get?_push_size _ rfl⟩
end
noncomputable abbrev Sp := List V → Hp → VK → XK → Prop
noncomputable abbrev CXT := List Env → Hp → Shared → XK → Value → Shared → Prop
structure Env0 (P : Program) (w : World) (K : PySem.W.Frag) (mg : Str → Option Value) (base : Heap) (A : Around) (outer : List Env) (s : Shared) (H : Hp) : Prop where
  frames : A.frames = some outer
  mod : Mod K mg base
  bs : ∀ b o, base.get? b = some o → s.heap.get? b = some o ∧ H b = none
  bsz : base.objs.size ≤ s.heap.objs.size
  funs : s.heap.FunFrames base outer
  frf : ∀ b ∈ frs outer, H b = none
  hok : HOk P w H s.heap
  bare : AllBare s.gens
noncomputable def CE (outer : List Env) (P : Program) (w : World) (H : Hp) (s : Shared) (Q : VK) (u : Value) (s' : Shared) : Prop :=
  ∃ v H', s'.os = s.os ∧ AllBare s'.gens ∧ Un (frs outer) [] H H' s.heap s'.heap ∧ HOk P w H' s'.heap ∧ RelV v u ∧ Q v H'
noncomputable def CR (CX : CXT) (outer : List Env) (P : Program) (w : World) (H : Hp) (s : Shared) (Q : VK) (E : XK) (r : Result) (s' : Shared) : Prop :=
  match r with
  | .ok (.ret u) => CE outer P w H s Q u s'
  | .ok _ => False
  | .error e => CX outer H s E e s'
structure FnOk (P : Program) (w : World) (K : PySem.W.Frag) (mg : Str → Option Value) (base : Heap) (CX : CXT) (k : Nat) (f : Addr) (fd : FuncData) (ps : List Str) (sp : Sp) : Prop where
  len : ∀ vs H Q E, sp vs H Q E → vs.length = ps.length
  run : ∀ (A : Around) (outer : List Env) (s : Shared) (H : Hp) (args : Args) (us : List Value) (vs : List V) (Q : VK) (E : XK), Room k A → Env0 P w K mg base A outer s H → BindsTo s fd args (ps.zip us) → Vals vs us → sp vs H Q E →
    codeAny (model P w) A (.call (.ref f) args) (CR CX outer P w H s Q E) s
theorem FnOk.mono {P : Program} {w : World} {K : PySem.W.Frag} {mg : Str → Option Value} {base : Heap} {CX : CXT} {j k : Nat} {f : Addr} {fd : FuncData} {ps : List Str} {sp : Sp} (F : FnOk P w K mg base CX j f fd ps sp) (h : j ≤ k) :
    FnOk P w K mg base CX k f fd ps sp := ⟨F.len, fun A outer s H args us vs Q E hr => F.run A outer s H args us vs Q E (hr.mono h)⟩
section
variable {X : Cx} {pins : List (Addr × Obj)} {σ : St} {H : Hp} {s s' : Shared}
theorem Inv.env0 (I : Inv X pins σ H s) : Env0 X.prog X.w X.K X.mg X.base X.A X.stack s H :=
  ⟨I.ok.frames, I.ok.mod, I.bs, Nat.le_trans I.ok.bsz I.sz, I.stack, I.stkFree, I.hok, I.bare⟩
theorem Inv.after {Q : VK} {u : Value} (I : Inv X pins σ H s) (h : CE X.stack X.prog X.w H s Q u s') : EP X pins σ Q u s' := by
  obtain ⟨v, H', os, bare, un, hok, r, q⟩ := h
  obtain ⟨hh, g, d, t, os'⟩ := s'
  obtain rfl : os' = s.os := os
  exact ⟨v, H', I.call (h' := hh) (g' := g) (d' := d) (t' := t) (ch := []) un hok bare (fun b z => absurd z (by simp)), r, q⟩
end
noncomputable def tCall (sp : Sp) (dvs : List V) (E : XK) (t : TA) : TE := fun σ H Q => t σ H fun vs H1 => sp (vs ++ dvs) H1 Q E
noncomputable def tMeth (C : Addr) (m : Str) (sp : Sp) (dvs : List V) (E : XK) (ta : TE) (t : TA) : TE := fun σ H Q => ta σ H fun x H1 => ∃ a dx fs, x = .ref a ∧ H1 a = some (.ins C dx fs) ∧ fs.lookup m = none ∧
  t σ H1 fun vs H2 => sp (x :: (vs ++ dvs)) H2 Q E
noncomputable def tMake (C : Addr) (sp : Sp) (dvs : List V) (E : XK) (t : TA) : TE := fun σ H Q => t σ H fun vs H1 => ∀ x dx, H1 x = none → H1 dx = none → dx ≠ x →
  sp (.ref x :: (vs ++ dvs)) (upd (upd H1 dx (.own x)) x (.ins C dx [])) (fun v H2 => v = .non ∧ Q (.ref x) H2) E
noncomputable def Binds (K : PySem.W.Frag) (fd : FuncData) (ps : List Str) (ds : List Value) : Prop :=
  ∀ (s : Shared) (us : List Value), K.In s.heap → (us ++ ds).length = ps.length → BindsTo s fd ⟨us, []⟩ (ps.zip (us ++ ds))
theorem Binds.all {K : PySem.W.Frag} {fd : FuncData} {ps : List Str} (h : ∀ us : List Value, us.length = ps.length → bindArgs fd ⟨us, []⟩ = pure (ps.zip us)) : Binds K fd ps [] := fun s us _ hl => by
  rw [List.append_nil] at hl ⊢
  exact .of_eq (h us hl)
noncomputable def Passes (CX : CXT) (X : Cx) (E : XK) : Prop := ∀ (pins : List (Addr × Obj)) (σ : St) (H : Hp) (s : Shared) (e : Value) (s' : Shared), Inv X pins σ H s → CX X.stack H s E e s' → X.xe e s'
section
variable {X : Cx} {CX : CXT} {k : Nat} {f C : Addr} {fd : FuncData} {ps : List Str} {sp : Sp} {dvs : List V} {ds : List Value} {E : XK} {x m : Str} {p pos apos : Pos} {e o : Expr} {es : List Expr} {ta : TE} {t : TA}
theorem run_fn {pins : List (Addr × Obj)} {σ : St} {H : Hp} {s : Shared} {Q : VK} {us : List Value} {vs : List V} (F : FnOk X.prog X.w X.K X.mg X.base CX k f fd ps sp) (hr : Room k X.A) (hb : Binds X.K fd ps ds) (hd : Vals dvs ds) (hx : Passes CX X E)
    (I : Inv X pins σ H s) (r : Vals vs us) (h : sp (vs ++ dvs) H Q E) : wpAny (model X.prog X.w) X.A (call (.ref f) us) (EP X pins σ Q) X.xe s := by
  have r2 : Vals (vs ++ dvs) (us ++ ds) := r.append hd
  have hl : (us ++ ds).length = ps.length := by rw [← r2.length]; exact F.len _ _ _ _ h
  refine wpAny_call (codeAny_mono (F.run X.A X.stack s H ⟨us, []⟩ (us ++ ds) (vs ++ dvs) Q E hr I.env0 (hb s us I.kIn hl) r2 h) fun r s' hq => ?_)
  cases r with
  | error e => exact hx pins σ H s e s' I hq
  | ok fl =>
    cases fl with
    | ret u => exact I.after hq
    | next => exact False.elim hq
    | brk => exact False.elim hq
    | cont => exact False.elim hq
theorem pe_call (F : FnOk X.prog X.w X.K X.mg X.base CX k f fd ps sp) (hr : Room k X.A) (hg : Gl X x) (hm : X.mg x = some (.ref f)) (hk : PySem.W.keepIn X.K (.ref f) = true) (hb : Binds X.K fd ps ds) (hd : Vals dvs ds) (hx : Passes CX X E)
    (ha : PA X (e :: es) t) (hdb : (x == ("__debug__" : Str)) = false := by decide) (he : starEach (e :: es) X.env = (false, eval e X.env) :: starEach es X.env := by rfl) (hpl : (backTo pos (starEach es X.env)).any (·.1) = false := by rfl) :
    PE X (.Call (.Name x p) (e :: es) [] pos) (tCall sp dvs E t) := by
  intro pins s σ H Q I h
  refine wpAny_Call_Name_kw (ld_glob I hg hm ?_ hdb)
  refine PySem.W.callWith_K (h₀ := X.base) I.ok.mod.kin hk (thn (ha pos pins s σ H _ I h) fun us s1 ⟨vs, H1, I1, r, q⟩ => ⟨I1.kIn, ?_⟩) he hpl
  exact run_fn F hr hb hd hx I1 r q
structure Mk (K : PySem.W.Frag) (C f : Addr) : Prop where
  makes : PySem.W.makesIn K C = true
  init : PySem.W.findIn K (.ref C) "__init__" = some (some (.ref f))
  fn : PySem.W.isFn K (.ref f) = true
  kp : PySem.W.keepIn K (.ref C) = true
end
noncomputable def PK (X : Cx) (kws : List Keyword) (t : TA) : Prop :=
  ∀ (pos : Pos) (pins : List (Addr × Obj)) (s : Shared) (σ : St) (H : Hp) (Q : List V → Hp → Prop), Inv X pins σ H s → t σ H Q → wpAny (model X.prog X.w) X.A (evalAll ((backToKw pos (keywordEach kws X.env)).map (·.2))) (AP X pins σ Q) X.xe s
section
variable {X : Cx} {CX : CXT} {k : Nat} {f C : Addr} {fd : FuncData} {ps ks : List Str} {sp : Sp} {E : XK} {x m : Str} {p pos apos kpos : Pos} {e o : Expr} {es : List Expr} {kws : List Keyword} {te ta : TE} {t tk : TA} {nm : Option Str}
structure KBinds (K : PySem.W.Frag) (fd : FuncData) (ps ks : List Str) (g : List Value → List Value → List Value) (gV : List V → List V → List V) : Prop where
  to : ∀ (s : Shared) (us ws : List Value), K.In s.heap → (g us ws).length = ps.length → BindsTo s fd ⟨us, ks.zip ws⟩ (ps.zip (g us ws))
  rel : ∀ {vs : List V} {us : List Value} {zs : List V} {ws : List Value}, Vals vs us → Vals zs ws → Vals (gV vs zs) (g us ws)
noncomputable def tCallK (sp : Sp) (gV : List V → List V → List V) (E : XK) (t tk : TA) : TE := fun σ H Q => t σ H fun vs H1 => tk σ H1 fun zs H2 => sp (gV vs zs) H2 Q E
variable {g : List Value → List Value → List Value} {gV : List V → List V → List V}
end
structure FnScope (N P : List Str) (sc : Scope) : Prop where
  kind : sc.kind = .function
  co : sc.isCoroutine = false
  gen : sc.isGenerator = false
  nd : N.Nodup
  pre : N.take P.length = P
  par : ∀ x ∈ P, sc.names.lookup x = some .local ∨ sc.names.lookup x = some .cell
  nofree : ∀ y ∈ sc.names, y.2 ≠ .free
theorem bindL_out {kindOf : Str → Option NameKind} {x : Str} : ∀ {binds : List (Str × Value)} {m : Str → Option Value}, (∀ v, (x, v) ∉ binds) → bindL kindOf binds m x = m x
  | [], _, _ => rfl
  | (n, v) :: r, m, h => by
    unfold bindL
    rw [bindL_out fun w hw => h w (List.mem_cons_of_mem _ hw)]
    split
    · have : x ≠ n := by rintro rfl; exact h v List.mem_cons_self
      simp [this]
    · rfl
theorem bindC_out {kindOf : Str → Option NameKind} {x : Str} : ∀ {binds : List (Str × Value)} {m : Str → Option Value}, (∀ v, (x, v) ∉ binds) → bindC kindOf binds m x = m x
  | [], _, _ => rfl
  | (n, v) :: r, m, h => by
    unfold bindC
    rw [bindC_out fun w hw => h w (List.mem_cons_of_mem _ hw)]
    split
    · rfl
    · have : x ≠ n := by rintro rfl; exact h v List.mem_cons_self
      simp [this]
theorem bindL_get {kindOf : Str → Option NameKind} {x : Str} {v : Value} : ∀ {P : List Str} {vs : List Value} {i : Nat} {m : Str → Option Value}, P.Nodup → P[i]? = some x → vs[i]? = some v → kindOf x = some .local →
    bindL kindOf (P.zip vs) m x = some v
  | [], _, _, _, _, h, _, _ => by simp at h
  | _ :: _, [], _, _, _, _, h, _ => by simp at h
  | p :: P, w :: vs, 0, m, nd, h1, h2, hk => by
    simp at h1 h2; subst h1; subst h2
    show bindL kindOf ((p, w) :: P.zip vs) m p = _
    unfold bindL
    rw [bindL_out fun v hv => (List.nodup_cons.mp nd).1 (List.of_mem_zip hv).1, if_pos hk]
    simp
  | p :: P, w :: vs, i + 1, m, nd, h1, h2, hk => by
    show bindL kindOf ((p, w) :: P.zip vs) m x = _
    unfold bindL
    exact bindL_get (i := i) (List.nodup_cons.mp nd).2 (by simpa using h1) (by simpa using h2) hk
theorem bindC_get {kindOf : Str → Option NameKind} {x : Str} {v : Value} : ∀ {P : List Str} {vs : List Value} {i : Nat} {m : Str → Option Value}, P.Nodup → P[i]? = some x → vs[i]? = some v → kindOf x ≠ some .local →
    bindC kindOf (P.zip vs) m x = some v
  | [], _, _, _, _, h, _, _ => by simp at h
  | _ :: _, [], _, _, _, _, h, _ => by simp at h
  | p :: P, w :: vs, 0, m, nd, h1, h2, hk => by
    simp at h1 h2; subst h1; subst h2
    show bindC kindOf ((p, w) :: P.zip vs) m p = _
    unfold bindC
    rw [bindC_out fun v hv => (List.nodup_cons.mp nd).1 (List.of_mem_zip hv).1, if_neg hk]
    simp
  | p :: P, w :: vs, i + 1, m, nd, h1, h2, hk => by
    show bindC kindOf ((p, w) :: P.zip vs) m x = _
    unfold bindC
    exact bindC_get (i := i) (List.nodup_cons.mp nd).2 (by simpa using h1) (by simpa using h2) hk
noncomputable def start (N : List Str) (vs : List V) : St := vs.map some ++ List.replicate (N.length - vs.length) none
noncomputable def cxOf (CX : CXT) (P : Program) (w : World) (K : PySem.W.Frag) (mg : Str → Option Value) (base : Heap) (N : List Str) (qual : Str) (scope : Scope) (f : Addr) (cd : Value) (A : Around) (outer : List Env) (s : Shared) (H : Hp) (E : XK) : Cx where
  prog := P
  w := w
  K := K
  mg := mg
  base := base
  A := A.deeper (envOfC qual scope s.heap.objs.size f cd)
  N := N
  s₀ := s
  H₀ := H
  env := envOfC qual scope s.heap.objs.size f cd
  outer := outer
  stack := envOfC qual scope s.heap.objs.size f cd :: outer
  ex := []
  calm := true
  fn := fun _ => true
  pn := []
  xe := fun e s' => wpAny (model P w) (A.deeper (envOfC qual scope s.heap.objs.size f cd)) (leaving (envOfC qual scope s.heap.objs.size f cd) e) (fun _ s'' => CX outer H s E e s'') (fun e' s'' => CX outer H s E e' s'') s'
theorem cell_has {sc : Scope} {n : Nat} {x : Str} (h : sc.names.lookup x = some .cell) : ∃ c, (cellsFrom n sc.names []).lookup x = some c := by
  have q := PySem.W.cellsFrom_some sc.names n [] (.inl h)
  exact Option.isSome_iff_exists.mp q
theorem inv_start {CX : CXT} {P : Program} {w : World} {K : PySem.W.Frag} {mg : Str → Option Value} {base : Heap} {N ps : List Str} {qual : Str} {scope : Scope} {f : Addr} {cd : Value} {A : Around} {outer : List Env} {s s1 : Shared} {H : Hp} {E : XK} {us : List Value} {vs : List V}
    (S : FnScope N ps scope) (hd : A.handled = none) (e0 : Env0 P w K mg base A outer s H) (hl : vs.length = ps.length) (r : Vals vs us)
    (x : InCallC s s.heap.objs.size (bindL (envOfC qual scope s.heap.objs.size f cd).kindOf (ps.zip us) fun _ => none) (cellsFrom (s.heap.objs.size + 1) scope.names []) (bindC (envOfC qual scope s.heap.objs.size f cd).kindOf (ps.zip us) fun _ => none) s1) :
    Inv (cxOf CX P w K mg base N qual scope f cd A outer s H E) [] (start N vs) H s1 := by
  have hpl : ps.length ≤ N.length := by have := congrArg List.length S.pre; rw [List.length_take] at this; omega
  obtain ⟨h1, tk, rfl, hk⟩ := x.done
  have noA : ∀ b : Addr, b ∉ (cxOf CX P w K mg base N qual scope f cd A outer s H E).ex := fun b z => absurd (show b ∈ ([] : List Addr) from z) (by simp)
  refine ⟨⟨e0.mod, S.kind, rfl, rfl, Nat.le_refl _, fun y z c h1 h2 => ?_, fun y hy => ?_, fun y c _ h => ?_, fun _ => hd, Around.frames_deeper e0.frames, .inr ⟨rfl, rfl⟩, fun b z => absurd z (noA b), e0.bs, e0.bsz, fun b _ _ => noA b, fun b z => absurd z (noA b), e0.funs, e0.frf⟩,
    rfl, e0.bare, Un.kept hk, ⟨_, x.toInCall.ns, fun i y v h1 h2 h3 => ?_⟩, fun y c h => ⟨_, x.cell y c h⟩, e0.hok.fresh (Nat.le_refl _), fun y c h => ?_, fun p hp => absurd (show p ∈ ([] : List (Addr × Obj)) from hp) (by simp), e0.hok.kept hk, ?_⟩
  · exact name_of_addr x.apart (PySem.mem_of_lookup h1) (PySem.mem_of_lookup h2)
  · have hy : scope.names.lookup y = some .cell ∨ scope.names.lookup y = some .free := hy
    rcases hy with hy | hy
    · exact cell_has hy
    · exact absurd rfl (S.nofree _ (PySem.mem_of_lookup hy))
  · exact Nat.le_of_lt (x.above y c (PySem.mem_of_lookup h))
  · have hi : i < vs.length := by
      unfold start at h2
      by_cases hi : i < vs.length
      · exact hi
      · rw [List.getElem?_append_right (by simpa using hi)] at h2
        rw [List.getElem?_replicate] at h2
        split at h2 <;> cases h2
    have ha : vs[i]? = some v := by
      unfold start at h2
      rw [List.getElem?_append_left (by simpa using hi), List.getElem?_map] at h2
      cases e : vs[i]? with
      | none => rw [e] at h2; cases h2
      | some a => rw [e] at h2; cases h2; rfl
    obtain ⟨u, hu, rv⟩ := r.get ha
    have hp : ps[i]? = some y := by
      rw [← S.pre, List.getElem?_take_of_lt (by omega)]; exact h1
    have ndP : ps.Nodup := by rw [← S.pre]; exact S.nd.sublist (List.take_sublist _ _)
    refine ⟨u, rv, ?_⟩
    rcases S.par y (List.mem_of_getElem? hp) with k | k
    · exact .inl ⟨k, bindL_get ndP hp hu k⟩
    · obtain ⟨c, e⟩ := cell_has (n := s.heap.objs.size + 1) k
      refine .inr ⟨.inl k, c, e, ?_⟩
      have q := x.cell y c e
      rw [bindC_get ndP hp hu (by show scope.names.lookup y ≠ _; rw [k]; decide)] at q
      exact q
  · exact e0.hok.fresh (Nat.le_of_lt (x.above y c (PySem.mem_of_lookup h)))
  · unfold start
    show _ = N.length
    rw [List.length_append, List.length_map, List.length_replicate]
    omega
theorem fn_of {CX : CXT} {P : Program} {w : World} {K : PySem.W.Frag} {mg : Str → Option Value} {base : Heap} {k : Nat} {f : Addr} {name qual : Str} {params : Arguments} {body : List Stmt} {scope : Scope} {dV kV doc pm cdv ct oc : Value} {an od : Option Addr}
    {osl : Array (Option Value)} {N ps : List Str} {sp : Sp} (lk : K.lookup f = some ⟨oc, od, .func (PySem.W.fnOf name qual params body scope dV kV doc pm an cdv ct), osl⟩) (hcd : PySem.W.codeIn K cdv qual = true) (S : FnScope N ps scope)
    (len : ∀ vs H Q E, sp vs H Q E → vs.length = ps.length)
    (hbody : ∀ (A : Around) (outer : List Env) (s : Shared) (H : Hp) (vs : List V) (Q : VK) (E : XK), Room k (A.deeper (envOfC qual scope s.heap.objs.size f cdv)) → sp vs H Q E →
      ∃ t, PSs (cxOf CX P w K mg base N qual scope f cdv A outer s H E) body t ∧ t { nx := fun _ H' => Q .non H', rt := Q } (start N vs) H) :
    FnOk P w K mg base CX (k + 1) f (PySem.W.fnOf name qual params body scope dV kV doc pm an cdv ct) ps sp := by
  refine ⟨len, fun A outer s H args us vs Q E hr e0 hb r hsp => ?_⟩
  have hl := len _ _ _ _ hsp
  have KX : K.In s.heap := e0.mod.kin.keeps fun b o e => (e0.bs b o e).1
  have lim : s.heap.NoLimit := e0.mod.nolimit.keeps fun b o e => (e0.bs b o e).1
  have hkind : ∀ y ∈ ps.zip us, scope.names.lookup y.1 = some .local ∨ (scope.names.lookup y.1 = some .cell ∧ ((cellsFrom (s.heap.objs.size + 1) scope.names []).lookup y.1).isSome = true) := fun ⟨n, v⟩ hy => by
    rcases S.par n (List.of_mem_zip hy).1 with q | q
    · exact .inl q
    · exact .inr ⟨q, PySem.W.cellsFrom_some _ _ _ (.inl q)⟩
  refine codeAny_call_function hr.depth (KX _ _ lk) rfl S.co S.gen rfl (PySem.W.codeRec_of KX hcd) (hb _ _ _ _ ?_)
  refine wpAny_newFunctionEnv_cells S.kind hkind fun env he s1 x => ?_
  subst he
  refine ⟨lim.keeps x.toInCall.keep, codeAny_func ?_⟩
  obtain ⟨t, ht, hq⟩ := hbody A outer s H vs Q E (hr.deeper _) hsp
  have I : Inv (cxOf CX P w K mg base N qual scope f cdv A outer s H E) [] (start N vs) H s1 := inv_start S hr.hd e0 hl r x
  refine wpAny_mono (ht [] s1 (start N vs) H _ I hq) (fun fl s' hs => ?_) fun e s' hs => hs
  have fin : ∀ {σ' : St} {H' : Hp} {v : V} {u : Value}, Inv (cxOf CX P w K mg base N qual scope f cdv A outer s H E) [] σ' H' s' → RelV v u → Q v H' → CE outer P w H s Q u s' :=
    fun {σ' H' v u} J rv q => ⟨v, H', J.os, J.bare, J.base, J.hok, rv, q⟩
  cases fl with
  | ret u =>
    obtain ⟨v, σ', H', J, rv, q⟩ := hs
    exact fin J rv q
  | next =>
    obtain ⟨σ', H', J, q⟩ := hs
    exact fin (v := V.non) (u := Value.none) J rfl q
  | brk =>
    obtain ⟨_, _, _, q⟩ := hs
    exact False.elim q
  | cont =>
    obtain ⟨_, _, _, q⟩ := hs
    exact False.elim q
end L2
namespace L2
open PySem PySem.Spec PyProof.Rows
section
variable {X : Cx} {x : Str} {p pos : Pos} {e : Expr} {es : List Expr} {t : TA} {id T : String} {r : List V → Hp → VK → Prop}
noncomputable def tCB (r : List V → Hp → VK → Prop) (t : TA) : TE := fun σ H Q => t σ H fun vs H1 => r vs H1 Q
theorem pe_callB (hc : CallR X (.builtin id) r) (hg : Gl X x) (hm : X.mg x = none) (hv : bootBuiltins x = some (.builtin id)) (ha : PA X (e :: es) t) (hn : x ≠ "__name__" := by decide) (hdb : (x == ("__debug__" : Str)) = false := by decide)
    (he : starEach (e :: es) X.env = (false, eval e X.env) :: starEach es X.env := by rfl) (hpl : (backTo pos (starEach es X.env)).any (·.1) = false := by rfl) : PE X (.Call (.Name x p) (e :: es) [] pos) (tCB r t) := by
  intro pins s σ H Q I h
  refine wpAny_Call_Name_kw (ld_blt I hg hm hv ?_ hn hdb)
  exact PyProof.Rows.callWith_builtin1 (thn (ha pos pins s σ H _ I h) fun us s1 ⟨vs, H1, I1, r1, q1⟩ => hc pins s1 σ H1 vs us Q I1 r1 q1) he hpl
theorem pe_callTy (hc : CallR X (.type T) r) (hg : Gl X x) (hm : X.mg x = none) (hv : bootBuiltins x = some (.type T)) (ha : PA X (e :: es) t) (hn : x ≠ "__name__" := by decide) (hdb : (x == ("__debug__" : Str)) = false := by decide)
    (he : starEach (e :: es) X.env = (false, eval e X.env) :: starEach es X.env := by rfl) (hpl : (backTo pos (starEach es X.env)).any (·.1) = false := by rfl) : PE X (.Call (.Name x p) (e :: es) [] pos) (tCB r t) := by
  intro pins s σ H Q I h
  refine wpAny_Call_Name_kw (ld_blt I hg hm hv ?_ hn hdb)
  exact PyProof.Rows.callWith_type1 (thn (ha pos pins s σ H _ I h) fun us s1 ⟨vs, H1, I1, r1, q1⟩ => hc pins s1 σ H1 vs us Q I1 r1 q1) he hpl
end
end L2
namespace HT
open PySem PyProof.Rows
noncomputable def lexLt : List Int → List Int → Bool
  | [], [] => false
  | [], _ :: _ => true
  | _ :: _, [] => false
  | x :: xs, y :: ys => if x = y then lexLt xs ys else decide (x < y)
section
open PySem.SeqAt
open PySem.AutoSeq1 (wpAny_loadPart')
open PySem.MeetsSeq PySem.MeetsSeq2 PySem.MeetsSeq3
end
section
variable {prog : Program} {w : World} {A : Around} {E : Value → Shared → Prop} {s : Shared}
theorem cat_tup {t b : Addr} {vs ws : List Value} {Q : Value → Shared → Prop} (ht : IsTup s.heap t vs.toArray) (hb : IsTup s.heap b ws.toArray) (hv : vs ≠ [])
    (h1 : ws = [] → Q (.ref t) s) (h2 : ws ≠ [] → Q (.ref s.heap.objs.size) { s with heap := s.heap.push { cls := .type "tuple", data := .seq (vs ++ ws).toArray } })
    (hsz : vs.length + ws.length ≤ sizeLine) : wpAny (model prog w) A (binaryOp .Add (.ref t) (.ref b)) Q E s := by
  obtain ⟨⟨cls, dd, data, sl⟩, ho, hc, n, hd⟩ := id ht
  obtain ⟨⟨cls2, dd2, data2, sl2⟩, ho2, hc2, n2, hd2⟩ := id hb
  simp only at hc hd hc2 hd2
  subst hc hd hc2 hd2
  have e : vs.toArray ++ ws.toArray = (vs ++ ws).toArray := by simp
  by_cases hw : ws = []
  · exact concat_meets ⟨_, ho, rfl⟩ ⟨_, ho2, rfl⟩ noFill_tuple_add seq_tuple_add PySem.F.slot_tuple_add PySem.F.entry_tuple_add (PySem.F.args_tuple_add_2 _ _)
      (tuple_addW1 t b vs.toArray ws.toArray n n2 dd dd2 sl sl2 (by simpa using hv) (by simp [hw])) ⟨ho, ho2, h1 hw⟩
  · refine concat_meets ⟨_, ho, rfl⟩ ⟨_, ho2, rfl⟩ noFill_tuple_add seq_tuple_add PySem.F.slot_tuple_add PySem.F.entry_tuple_add (PySem.F.args_tuple_add_2 _ _)
      (tuple_addW2 t b vs.toArray ws.toArray n n2 dd dd2 sl sl2 (by simpa using hv) (by simpa using hw) (by rw [List.size_toArray, List.size_toArray]; exact hsz)) ⟨ho, ho2, ?_⟩
    rw [e]
    exact h2 hw
noncomputable def sIx (n d : Nat) : Option Int → Nat
  | none => d
  | some v => if v < 0 then (v + (n : Int)).toNat else min v.toNat n
theorem sIx_le (n d : Nat) (hd : d ≤ n) (o : Option Int) : sIx n d o ≤ n := by
  cases o with
  | none => exact hd
  | some v =>
    show (if v < 0 then (v + (n : Int)).toNat else min v.toNat n) ≤ n
    by_cases hv : v < 0
    · rw [if_pos hv]; omega
    · rw [if_neg hv]; exact Nat.min_le_right _ _
theorem clip_eq (v : Int) (n d : Nat) : (if v < 0 then max (v + (n : Int)) 0 else min v (n : Int)) = ((sIx n d (some v) : Nat) : Int) := by
  show (if v < 0 then max (v + (n : Int)) 0 else min v (n : Int)) = (((if v < 0 then (v + (n : Int)).toNat else min v.toNat n) : Nat) : Int)
  by_cases hv : v < 0
  · simp only [if_pos hv]; omega
  · simp only [if_neg hv]; omega
theorem adjust_gen (lo hi : Option Int) (n : Nat) : Builtin.Slice.sliceAdjust lo hi 1 (n : Int) = (((sIx n 0 lo : Nat) : Int), ((sIx n n hi : Nat) : Int)) := by
  have h1 : ¬ ((1 : Int) < 0) := by omega
  unfold Builtin.Slice.sliceAdjust
  simp only [h1, if_false]
  refine Prod.ext ?_ ?_
  · cases lo with
    | none => rfl
    | some v => exact clip_eq v n 0
  · cases hi with
    | none => rfl
    | some v => exact clip_eq v n n
theorem places_gen (i j : Nat) : Builtin.Slice.slicePlaces (i : Int) (j : Int) 1 = j - i := by
  unfold Builtin.Slice.slicePlaces
  have h1 : (1 : Int) > 0 := by omega
  simp only [h1, if_true, Int.ediv_one]
  split <;> omega
theorem slicePart_ {v : Value} {o : Option Int} {Q : Option Int → Shared → Prop} (p : IsPart v o) (h : Q o s) : wpAny (model prog w) A (Builtin.Slice.slicePartIndex v) Q E s := by
  cases p with
  | none => exact slicePart_none h
  | int i t => exact slicePart_int h
theorem sliceApplied_gen {sl : Addr} {vl vu : Value} {lo hi : Option Int} {n : Nat} {Q : Int × Int × Nat → Shared → Prop} (hs : s.heap.IsSliceOf sl vl vu .none) (pl : IsPart vl lo) (pu : IsPart vu hi)
    (h : Q (((sIx n 0 lo : Nat) : Int), 1, sIx n n hi - sIx n 0 lo) s) : wpAny (model prog w) A (Builtin.Slice.sliceApplied (.ref sl) (pure (n : Int))) Q E s := by
  obtain ⟨os, hos, hcs, hds⟩ := id hs
  unfold Builtin.Slice.sliceApplied Builtin.Slice.sliceFields
  refine wpAny_bind (wpAny_bind (wpAny_field hos hds (x := vl) rfl (wpAny_bind (wpAny_field hos hds (x := vu) rfl (wpAny_bind (wpAny_field hos hds (x := .none) rfl (wpAny_pure ?_)))))))
  refine wpAny_bind (slicePart_none ?_)
  show wpAny _ _ (if ((1 : Int) == 0) = true then _ else _) _ _ s
  rw [if_neg (by decide)]
  refine wpAny_bind (slicePart_ pl (wpAny_bind (slicePart_ pu (wpAny_bind (wpAny_pure ?_)))))
  show wpAny _ _ (match Builtin.Slice.sliceAdjust lo hi 1 (n : Int) with | (lo, hi) => pure (lo, (1 : Int), Builtin.Slice.slicePlaces lo hi 1)) _ _ s
  rw [adjust_gen lo hi n]
  show wpAny _ _ (pure (((sIx n 0 lo : Nat) : Int), (1 : Int), Builtin.Slice.slicePlaces ((sIx n 0 lo : Nat) : Int) ((sIx n n hi : Nat) : Int) 1)) _ _ s
  rw [places_gen]
  exact wpAny_pure h
theorem pick_gen (xs : Array Value) (i k : Nat) : ((List.range k).filterMap fun (m : Nat) => xs[((i : Int) + (m : Int) * 1).toNat]?).toArray = ((xs.toList.drop i).take k).toArray := by
  have e : (fun (m : Nat) => xs[((i : Int) + (m : Int) * 1).toNat]?) = fun m => xs[i + m]? := by
    funext m
    have : ((i : Int) + (m : Int) * 1).toNat = i + m := by omega
    rw [this]
  rw [e]
  have := pick_run xs i k
  rw [List.filterMap_map] at this
  have e2 : ((fun x => xs[x]?) ∘ fun x => i + x) = fun m => xs[i + m]? := rfl
  rw [e2] at this
  rw [this]
theorem getItem_tuple_cut {t sl : Addr} {items : Array Value} {vl vu : Value} {lo hi : Option Int} {Q : Value → Shared → Prop} (ht : IsTup s.heap t items) (hs : s.heap.IsSliceOf sl vl vu .none) (pl : IsPart vl lo) (pu : IsPart vu hi)
    (hw : ¬ (sIx items.size 0 lo = 0 ∧ sIx items.size items.size hi = items.size))
    (h : Q (.ref s.heap.objs.size) { s with heap := s.heap.push { cls := .type "tuple", data := .seq ((items.toList.drop (sIx items.size 0 lo)).take (sIx items.size items.size hi - sIx items.size 0 lo)).toArray } })
    (hsz : items.size ≤ sizeLine) : wpAny (model prog w) A (getItem (.ref t) (.ref sl)) Q E s := by
  have htake : sizeOk (.seq ((items.toList.drop (sIx items.size 0 lo)).take (sIx items.size items.size hi - sIx items.size 0 lo)).toArray) := by
    show ((items.toList.drop (sIx items.size 0 lo)).take (sIx items.size items.size hi - sIx items.size 0 lo)).toArray.size ≤ sizeLine
    rw [List.size_toArray, List.length_take, List.length_drop, Array.length_toList]
    omega
  have hj : sIx items.size items.size hi ≤ items.size := sIx_le _ _ (Nat.le_refl _) hi
  obtain ⟨os, hos, hcs, hds⟩ := id hs
  have hTs : s.TypeIs (.ref sl) "slice" := ⟨os, hos, hcs⟩
  unfold getItem
  try with_reducible refine wpAny_holding ?_
  first | refine wpAny_bind (wpAny_pure ?_) | skip
  refine wpAny_bind (wpAny_sequenceKey ht.typeIs (by decide) ?_)
  refine wpAny_bind (wpAny_callSpecial?_slot (name := Str.ofString "__getitem__") ht.typeIs PyProof.Rows.slot_tuple_getitem
    (wpAny_call_entry PyProof.Rows.slot_tuple_getitem ht.typeIs entry_tuple_getitem ?_ (args_tuple_getitem _ _)))
  show wpAny _ _ (Builtin.Tuple.tupleItemsOf (.ref t) >>= _) _ _ s
  refine wpAny_bind (tupleItemsOf_ ht ?_)
  refine wpAny_bind (wpAny_typeOf hTs ?_)
  rw [if_pos (by decide)]
  refine wpAny_bind (sliceApplied_gen hs pl pu ?_)
  have hno : ¬ ((((sIx items.size 0 lo : Nat) : Int) == 0 && (1 : Int) == 1 && (sIx items.size items.size hi - sIx items.size 0 lo) == items.size) = true) := by
    intro q
    rw [Bool.and_eq_true, Bool.and_eq_true] at q
    have q1 : ((sIx items.size 0 lo : Nat) : Int) = 0 := eq_of_beq q.1.1
    have q2 : sIx items.size items.size hi - sIx items.size 0 lo = items.size := eq_of_beq q.2
    exact hw ⟨by omega, by omega⟩
  show wpAny _ _ (if (((sIx items.size 0 lo : Nat) : Int) == 0 && (1 : Int) == 1 && (sIx items.size items.size hi - sIx items.size 0 lo) == items.size) = true then _ else _) _ _ s
  rw [if_neg hno, pick_gen]
  first
    | exact wpAny_bind (m := Builtin.Tuple.tupleExact _) (wpAny_newObj_type (wpAny_pure ⟨_, rfl, wpAny_pure h⟩) htake)
    | exact wpAny_bind (m := Builtin.Tuple.tupleExact _) (wpAny_newObj_type (wpAny_bind (wpAny_pure (wpAny_pure ⟨_, rfl, wpAny_pure h⟩))) htake)
    | exact wpAny_bind (wpAny_bind (m := Builtin.Tuple.tupleExact _) (wpAny_newObj_type (wpAny_pure (wpAny_pure ⟨_, rfl, wpAny_pure h⟩)) htake))
    | exact wpAny_bind (wpAny_bind (m := Builtin.Tuple.tupleExact _) (wpAny_newObj_type (wpAny_pure ⟨_, rfl, wpAny_pure h⟩) htake))
end
end HT
namespace L2
open PySem PySem.Spec PyProof.Rows
noncomputable abbrev TO := St → Hp → (Option Int → Hp → Prop) → Prop
noncomputable def PO (X : Cx) (e : Option Expr) (t : TO) : Prop :=
  ∀ (pins : List (Addr × Obj)) (s : Shared) (σ : St) (H : Hp) (Q : Option Int → Hp → Prop), Inv X pins σ H s → t σ H Q →
    wpAny (model X.prog X.w) X.A (evalPart e X.env) (fun u s' => ∃ o H', Inv X pins σ H' s' ∧ IsPart u o ∧ Q o H') X.xe s
noncomputable def tNoPart : TO := fun _ H Q => Q none H
noncomputable def tPart (t : TE) : TO := fun σ H Q => t σ H fun x H1 => ∃ i, x = .int i ∧ Q (some i) H1
theorem intsAre_of {ns : List Int} : ∀ {us : List Value}, Vals (ns.map V.int) us → IntsAre us ns := by
  induction ns with
  | nil => intro us r; rw [List.map_nil] at r; cases r; exact .nil
  | cons n ns ih =>
    intro us r
    rw [List.map_cons] at r
    cases r with
    | cons r1 r2 =>
      obtain ⟨t, e⟩ := r1
      subst e
      exact .cons n t (ih r2)
section
variable {X : Cx} {e : Expr} {te : TE} {lo hi : Option Expr} {tl th : TO} {pos p2 : Pos}
theorem po_none : PO X none tNoPart := by
  intro pins s σ H Q I h
  rw [evalPart_none]
  exact wpAny_pure ⟨none, H, I, .none, h⟩
theorem po_some (h : PE X e te) : PO X (some e) (tPart te) := by
  intro pins s σ H Q I hw
  rw [evalPart_some]
  refine thn (h pins s σ H _ I hw) fun u s1 ⟨x, H1, I1, r1, q1⟩ => ?_
  obtain ⟨i, rfl, q⟩ := q1
  obtain ⟨t, rfl⟩ := r1
  exact ⟨some i, H1, I1, .int i t, q⟩
noncomputable def SlR (X : Cx) (r : V → Option Int → Option Int → Hp → VK → Prop) : Prop :=
  ∀ (pins : List (Addr × Obj)) (s : Shared) (σ : St) (H : Hp) (x : V) (v vl vu : Value) (lo hi : Option Int) (sl : Addr) (Q : VK), Inv X pins σ H s → RelV x v → s.heap.IsSliceOf sl vl vu .none → IsPart vl lo → IsPart vu hi → r x lo hi H Q →
    ∃ T id, typeLookup (.type T) "__getitem__" = pure (some (.builtin id)) ∧ s.TypeIs v T ∧ wpAny (model X.prog X.w) X.A (getItem v (.ref sl)) (EP X pins σ Q) X.xe s
theorem SlR.or {r r' : V → Option Int → Option Int → Hp → VK → Prop} (h : SlR X r) (h' : SlR X r') : SlR X (fun x lo hi H Q => r x lo hi H Q ∨ r' x lo hi H Q) := by
  intro pins s σ H x v vl vu lo hi sl Q I rx hs pl pu q
  rcases q with q | q
  · exact h pins s σ H x v vl vu lo hi sl Q I rx hs pl pu q
  · exact h' pins s σ H x v vl vu lo hi sl Q I rx hs pl pu q
noncomputable def tSl (r : V → Option Int → Option Int → Hp → VK → Prop) (te : TE) (tl th : TO) : TE := fun σ H Q => te σ H fun x H1 => tl σ H1 fun l H2 => th σ H2 fun u H3 => r x l u H3 Q
theorem pe_slice {r : V → Option Int → Option Int → Hp → VK → Prop} (hr : SlR X r) (he : PE X e te) (hl : PO X lo tl) (hu : PO X hi th) : PE X (.Subscript e (.Slice lo hi none p2) pos) (tSl r te tl th) := by
  intro pins s σ H Q I h
  refine Subscript_ (thn (he pins s σ H _ I h) fun v s1 ⟨x, H1, I1, r1, q1⟩ => ?_)
  refine wpAny_Slice (thn (hl pins s1 σ H1 _ I1 q1) fun vl s2 ⟨l, H2, I2, pl, q2⟩ => thn (hu pins s2 σ H2 _ I2 q2) fun vu s3 ⟨u, H3, I3, pu, q3⟩ => ?_)
  rw [evalPart_none]
  refine wpAny_pure ?_
  have I4 : Inv X pins σ H3 { s3 with heap := s3.heap.push { cls := .type "slice", data := .fields #[vl, vu, .none] } } := I3.kept (t' := s3.toks) fun b ob q => Heap.get?_push_of_some _ q
  obtain ⟨T, id, hT, ht, hg⟩ := hr pins { s3 with heap := s3.heap.push { cls := .type "slice", data := .fields #[vl, vu, .none] } } σ H3 x v vl vu l u s3.heap.objs.size Q I4 r1 (Heap.IsSliceOf.new ..) pl pu q3
  show wpAny (model X.prog X.w) X.A (subscriptTail e (.Slice lo hi none p2) v (.ref s3.heap.objs.size)) (EP X pins σ Q) X.xe { s3 with heap := s3.heap.push { cls := .type "slice", data := .fields #[vl, vu, .none] } }
  exact tail_any (ops := [.ref s3.heap.objs.size, v]) ht hT hg (by with_unfolding_all rfl)
noncomputable def cutV (xs : List V) (lo hi : Option Int) : List V := (xs.drop (HT.sIx xs.length 0 lo)).take (HT.sIx xs.length xs.length hi - HT.sIx xs.length 0 lo)
theorem cutV_length (xs : List V) (lo hi : Option Int) : (cutV xs lo hi).length ≤ xs.length := by
  unfold cutV
  rw [List.length_take, List.length_drop]
  omega
noncomputable def rSlT (K : PySem.W.Frag) : V → Option Int → Option Int → Hp → VK → Prop := fun x lo hi H Q => ∃ a xs, x = .ref a ∧ SqT K H a xs ∧
  ¬ (HT.sIx xs.length 0 lo = 0 ∧ HT.sIx xs.length xs.length hi = xs.length) ∧ ∀ p, H p = none → Q (.ref p) (upd H p (.tup (cutV xs lo hi)))
theorem sl_tup : SlR X (rSlT X.K) := by
  intro pins s σ H x v vl vu lo hi sl Q I rx hs pl pu h
  obtain ⟨a, xs, rfl, hx, hw, q⟩ := h
  cases rx
  obtain ⟨its, r, ht, hz⟩ := I.tuple hx
  have hlen : its.toArray.size = xs.length := by rw [List.size_toArray]; exact r.length.symm
  refine ⟨"tuple", _, PyProof.Rows.slot_tuple_getitem.lookup, ht.typeIs, ?_⟩
  refine HT.getItem_tuple_cut ht hs pl pu (by rw [hlen]; exact hw) ?_ (by rw [hlen]; exact hz)
  rw [hlen]
  refine ⟨.ref s.heap.objs.size, _, I.laid (t' := s.toks) (o := .tup (cutV xs lo hi)) (fun b ob q => Heap.get?_push_of_some _ q) (Nat.le_refl _) ?_, rfl, q _ (I.hok.fresh (Nat.le_refl _))⟩
  exact ⟨Nat.le_trans (cutV_length xs lo hi) hz, _, (r.drop (HT.sIx xs.length 0 lo)).take (HT.sIx xs.length xs.length hi - HT.sIx xs.length 0 lo), IsTup.new _ _⟩
noncomputable def rLtT (K : PySem.W.Frag) : R2 := fun x y H Q => ∃ a b ns ms, x = .ref a ∧ y = .ref b ∧ SqT K H a (ns.map V.int) ∧ SqT K H b (ms.map V.int) ∧ Q (.bl (HT.lexLt ns ms)) H
noncomputable def rCatT (K : PySem.W.Frag) : R2 := fun x y H Q => ∃ a b xs ys, x = .ref a ∧ y = .ref b ∧ SqT K H a xs ∧ SqT K H b ys ∧ xs ≠ [] ∧ xs.length + ys.length ≤ sizeLine ∧
  (ys = [] → Q (.ref a) H) ∧ (ys ≠ [] → ∀ p, H p = none → Q (.ref p) (upd H p (.tup (xs ++ ys))))
theorem Vals.nil_iff {xs : List V} {us : List Value} (r : Vals xs us) : us = [] ↔ xs = [] := by
  cases r with
  | nil => simp
  | cons _ _ => simp
end
end L2
namespace L2
open PySem PySem.Spec PyProof.Rows
noncomputable def ixN (n : Nat) (i : Int) : Option Nat := if 0 ≤ i then (if i < n then some i.toNat else none) else if -(n : Int) ≤ i then some (i + n).toNat else none
noncomputable def atI {α : Type} (xs : List α) (i : Int) : Option α := (ixN xs.length i).bind fun j => xs[j]?
theorem ixN_seq {n : Nat} {i : Int} {j : Nat} (h : ixN n i = some j) : seqIndex? i n = some j ∧ j < n ∧ -(n : Int) ≤ i ∧ i < n := by
  unfold ixN at h
  by_cases h0 : 0 ≤ i
  · rw [if_pos h0] at h
    by_cases h1 : i < n
    · rw [if_pos h1] at h
      have e : i.toNat = j := Option.some.inj h
      exact ⟨by rw [seqIndex_of h0 h1, e], by omega, by omega, h1⟩
    · rw [if_neg h1] at h; cases h
  · rw [if_neg h0] at h
    by_cases h1 : -(n : Int) ≤ i
    · rw [if_pos h1] at h
      have e : (i + n).toNat = j := Option.some.inj h
      exact ⟨by rw [seqIndex_neg (by omega) h1, e], by omega, h1, by omega⟩
    · rw [if_neg h1] at h; cases h
theorem atI_get {α : Type} {xs : List α} {i : Int} {v : α} (h : atI xs i = some v) : ∃ j, seqIndex? i xs.length = some j ∧ xs[j]? = some v ∧ j < xs.length ∧ -(xs.length : Int) ≤ i ∧ i < xs.length := by
  unfold atI at h
  cases e : ixN xs.length i with
  | none => rw [e] at h; cases h
  | some j =>
    rw [e] at h
    obtain ⟨h1, h2, h3, h4⟩ := ixN_seq e
    exact ⟨j, h1, h, h2, h3, h4⟩
theorem atI_nat {α : Type} {xs : List α} {j : Nat} {v : α} (h : xs[j]? = some v) : atI xs (j : Int) = some v := by
  have hj : j < xs.length := (List.getElem?_eq_some_iff.mp h).1
  have e : ixN xs.length (j : Int) = some j := by
    unfold ixN
    rw [if_pos (by omega), if_pos (by omega)]; simp
  unfold atI; rw [e]; exact h
noncomputable def PlainIx (b : Expr) : Prop := ∀ o i, subscripted b false o i = operate [o, i] (getItem o i)
noncomputable def IxR (X : Cx) (r : R2) : Prop :=
  ∀ (value slice : Expr) (pins : List (Addr × Obj)) (s : Shared) (σ : St) (H : Hp) (x y : V) (v u : Value) (Q : VK), Inv X pins σ H s → RelV x v → RelV y u → r x y H Q →
    subscripted slice false v u = operate [v, u] (getItem v u) → wpAny (model X.prog X.w) X.A (subscriptTail value slice v u) (EP X pins σ Q) X.xe s
noncomputable def MtR (X : Cx) (id : String) (r : V → List V → Hp → VK → Prop) : Prop :=
  ∀ (pins : List (Addr × Obj)) (s : Shared) (σ : St) (H : Hp) (x : V) (xs : List V) (v : Value) (us : List Value) (Q : VK), Inv X pins σ H s → RelV x v → Vals xs us → r x xs H Q →
    wpAny (model X.prog X.w) X.A (call (.builtin id) (v :: us)) (EP X pins σ Q) X.xe s
section
variable {X : Cx} {a b : Expr} {ta tb : TE} {pos : Pos}
theorem IxR.or {r r' : R2} (h : IxR X r) (h' : IxR X r') : IxR X (fun x y H Q => r x y H Q ∨ r' x y H Q) := by
  intro value slice pins s σ H x y v u Q I rx ry q hs
  rcases q with q | q
  · exact h value slice pins s σ H x y v u Q I rx ry q hs
  · exact h' value slice pins s σ H x y v u Q I rx ry q hs
theorem pe_ix {r : R2} (hr : IxR X r) (ha : PE X a ta) (hb : PE X b tb) (hs : PlainIx b) : PE X (.Subscript a b pos) (tOp r ta tb) := by
  intro pins s σ H Q I h
  exact Subscript_ (binT ha hb I h fun v u s2 x y H2 I2 rx ry q => hr a b pins s2 σ H2 x y v u Q I2 rx ry q (hs _ _))
noncomputable def rIxL (K : PySem.W.Frag) : R2 := fun x y H Q => ∃ p xs i v, x = .ref p ∧ y = .int i ∧ SqL K H p xs ∧ atI xs i = some v ∧ Q v H
noncomputable def rIxT (K : PySem.W.Frag) : R2 := fun x y H Q => ∃ p xs i v, x = .ref p ∧ y = .int i ∧ SqT K H p xs ∧ atI xs i = some v ∧ Q v H
noncomputable def rIxS : R2 := fun x y H Q => ∃ z i c, x = .str z ∧ y = .int i ∧ z.length ≤ sizeLine ∧ atI z.cps.toList i = some c ∧ Q (.str ⟨#[c]⟩) H
theorem ix_list : IxR X (rIxL X.K) := by
  intro value slice pins s σ H x y v u Q I rx ry h hs
  obtain ⟨p, xs, i, z, rfl, rfl, hq, he, q⟩ := h
  cases rx
  obtain ⟨t, rfl⟩ := ry
  obtain ⟨its, r, pl, hz⟩ := I.list hq
  obtain ⟨j, h1, h2, h3, h4, h5⟩ := atI_get he
  obtain ⟨w, ew, rw'⟩ := r.get h2
  have hl := r.length
  have hn := line63
  have fin : EP X pins σ Q w s := ⟨z, H, I, rw', q⟩
  by_cases h0 : 0 ≤ i
  · have hj : i.toNat = j := by
      rw [seqIndex_of h0 h5] at h1
      exact Option.some.inj h1
    exact item_listR pl.isList h0 (by omega) (by rw [hj]; simpa using ew) fin hs
  · have hj : (i + (its.toArray.size : Int)).toNat = j := by
      rw [seqIndex_neg (by omega) h4] at h1
      rw [List.size_toArray, ← hl]
      exact Option.some.inj h1
    exact subscriptTail_builtinR (x := w) pl.isList.typeIs slot_list_getitem.lookup
      (wpAny_getItem_list_neg (Q := fun r s' => r = w ∧ EP X pins σ Q r s') pl.isList (by omega) (by rw [List.size_toArray] <;> omega) (by omega) (by rw [hj]; simpa using ew) ⟨rfl, fin⟩) hs
theorem ix_tup : IxR X (rIxT X.K) := by
  intro value slice pins s σ H x y v u Q I rx ry h hs
  obtain ⟨p, xs, i, z, rfl, rfl, hq, he, q⟩ := h
  cases rx
  obtain ⟨t, rfl⟩ := ry
  obtain ⟨its, r, pl, hz⟩ := I.tuple hq
  obtain ⟨j, h1, h2, h3, h4, h5⟩ := atI_get he
  obtain ⟨w, ew, rw'⟩ := r.get h2
  have hl := r.length
  have hn := line63
  have fin : EP X pins σ Q w s := ⟨z, H, I, rw', q⟩
  exact subscriptTail_builtinR (x := w) pl.typeIs slot_tuple_getitem.lookup
    (getItem_tuple (j := j) (Q := fun r s' => r = w ∧ EP X pins σ Q r s') pl (by omega) (by omega) (by rw [List.size_toArray, ← hl]; exact h1) (by simpa using ew) ⟨rfl, fin⟩) hs
theorem ix_str : IxR X rIxS := by
  intro value slice pins s σ H x y v u Q I rx ry h hs
  obtain ⟨z, i, c, rfl, rfl, hz, he, q⟩ := h
  obtain ⟨t, rfl⟩ := rx
  obtain ⟨t', rfl⟩ := ry
  obtain ⟨j, h1, h2, h3, h4, h5⟩ := atI_get he
  have hl : z.cps.toList.length = z.length := by simp [Str.length]
  rw [hl] at h1 h4 h5
  have hn := line63
  exact tail_any (typeIs_str s z t) slot_str_getitem.lookup (getItem_str (c := c) (by
    have e1 : decide (i < -(2 ^ 63 : Int)) = false := decide_eq_false (by omega)
    have e2 : decide (i ≥ 2 ^ 63) = false := decide_eq_false (by omega)
    rw [e1, e2, Bool.or_false]) (by rw [h1]; simpa using h2) ⟨.str ⟨#[c]⟩, H, I.tok _, ⟨_, rfl⟩, q⟩) hs
noncomputable def rIx (K : PySem.W.Frag) : R2 := fun x y H Q => rIxL K x y H Q ∨ rIxT K x y H Q ∨ rIxS x y H Q
theorem ix_seq : IxR X (rIx X.K) := ix_list.or (ix_tup.or ix_str)
noncomputable def rSetL : V → V → V → Hp → (Hp → Prop) → Prop := fun o i v H Q => ∃ p xs k j, o = .ref p ∧ i = .int k ∧ H p = some (.lst xs) ∧ ixN xs.length k = some j ∧ Q (upd H p (.lst (xs.set j v)))
theorem slice_bounds (lo hi : Option Int) (n : Nat) : (sliceBounds lo hi none n).1 = ((HT.sIx n 0 lo : Nat) : Int) ∧ (sliceBounds lo hi none n).2.1 = ((HT.sIx n n hi : Nat) : Int) ∧ (sliceBounds lo hi none n).2.2 = 1 := by
  refine ⟨?_, ?_, rfl⟩
  · cases lo with
    | none => simp [sliceBounds, HT.sIx]
    | some i =>
      simp only [sliceBounds, HT.sIx, Option.getD_none, show (1 : Int) > 0 by decide, if_true]
      by_cases h : i < 0
      · simp only [h, if_true] <;> omega
      · simp only [h, if_false] <;> omega
  · cases hi with
    | none => simp [sliceBounds, HT.sIx]
    | some i =>
      simp only [sliceBounds, HT.sIx, Option.getD_none, show (1 : Int) > 0 by decide, if_true]
      by_cases h : i < 0
      · simp only [h, if_true] <;> omega
      · simp only [h, if_false] <;> omega
theorem slicePick_cut (its : List Value) (lo hi : Option Int) : slicePick its.toArray lo hi none = ((its.drop (HT.sIx its.length 0 lo)).take (HT.sIx its.length its.length hi - HT.sIx its.length 0 lo)).toArray := by
  obtain ⟨h1, h2, h3⟩ := slice_bounds lo hi its.toArray.size
  unfold slicePick
  rw [h1, h2, h3]
  simp only [sliceRange_one, pick_run, List.size_toArray] <;> rfl
noncomputable def rSlL (K : PySem.W.Frag) : V → Option Int → Option Int → Hp → VK → Prop := fun x lo hi H Q => ∃ a xs, x = .ref a ∧ SqL K H a xs ∧ ∀ p, H p = none → Q (.ref p) (upd H p (.lst (cutV xs lo hi)))
theorem sl_list : SlR X (rSlL X.K) := by
  intro pins s σ H x v vl vu lo hi sl Q I rx hs pl pu h
  obtain ⟨a, xs, rfl, hx, q⟩ := h
  cases rx
  obtain ⟨its, r, ht, hz⟩ := I.list hx
  have hlen := r.length
  refine ⟨"list", _, slot_list_getitem.lookup, ht.isList.typeIs, ?_⟩
  refine wpAny_getItem_list_slice ht.isList hs pl pu .none (by simp) ?_ (by rw [List.size_toArray] <;> omega)
  rw [slicePick_cut, ← hlen]
  refine ⟨.ref s.heap.objs.size, _, I.laid (t' := s.toks) (o := .lst (cutV xs lo hi)) (fun b ob q => Heap.get?_push_of_some _ q) (Nat.le_refl _) ?_, rfl, q _ (I.hok.fresh (Nat.le_refl _))⟩
  exact ⟨Nat.le_trans (cutV_length xs lo hi) hz, _, 0, (r.drop (HT.sIx xs.length 0 lo)).take (HT.sIx xs.length xs.length hi - HT.sIx xs.length 0 lo), Heap.get?_push_size _ rfl⟩
noncomputable def flatV : V → Bool
  | .non => true
  | .bl _ => true
  | .int _ => true
  | .str _ => true
  | _ => false
noncomputable def eqV : V → V → Bool
  | .non, .non => true
  | .bl a, .bl b => a == b
  | .bl a, .int b => (if a then 1 else 0) == b
  | .int a, .bl b => a == (if b then 1 else 0)
  | .int a, .int b => a == b
  | .str a, .str b => a == b
  | _, _ => false
theorem eqAt_V {A : Around} {s : Shared} {y x : V} {u v : Value} (ry : RelV y u) (rx : RelV x v) (fy : flatV y = true) (fx : flatV x = true) : SeqAt.EqAt A s u v (eqV y x) := by
  cases y with
  | non =>
    cases ry
    cases x with
    | non => cases rx; exact SeqAt.EqAt.same _
    | bl b => cases rx; exact SeqAt.EqAt.none_bool b
    | int b => obtain ⟨t, rfl⟩ := rx; exact SeqAt.EqAt.none_int b t
    | str b => obtain ⟨t, rfl⟩ := rx; exact SeqAt.EqAt.none_str b t
    | _ => exact absurd (show false = true from fx) Bool.false_ne_true
  | bl a =>
    cases ry
    cases x with
    | non => cases rx; exact SeqAt.EqAt.bool_none a
    | bl b => cases rx; exact SeqAt.EqAt.bool_bool a b
    | int b => obtain ⟨t, rfl⟩ := rx; exact SeqAt.EqAt.bool_int a b t
    | str b => obtain ⟨t, rfl⟩ := rx; exact SeqAt.EqAt.bool_str a b t
    | _ => exact absurd (show false = true from fx) Bool.false_ne_true
  | int a =>
    obtain ⟨t', rfl⟩ := ry
    cases x with
    | non => cases rx; exact SeqAt.EqAt.int_none a t'
    | bl b => cases rx; exact SeqAt.EqAt.int_bool a t' b
    | int b => obtain ⟨t, rfl⟩ := rx; exact SeqAt.EqAt.int_int a t' b t
    | str b => obtain ⟨t, rfl⟩ := rx; exact SeqAt.EqAt.int_str a t' b t
    | _ => exact absurd (show false = true from fx) Bool.false_ne_true
  | str a =>
    obtain ⟨t', rfl⟩ := ry
    cases x with
    | non => cases rx; exact SeqAt.EqAt.str_none a t'
    | bl b => cases rx; exact SeqAt.EqAt.str_bool a t' b
    | int b => obtain ⟨t, rfl⟩ := rx; exact SeqAt.EqAt.str_int a t' b t
    | str b => obtain ⟨t, rfl⟩ := rx; exact SeqAt.EqAt.str_str a t' b t
    | _ => exact absurd (show false = true from fx) Bool.false_ne_true
  | _ => exact absurd (show false = true from fy) Bool.false_ne_true
noncomputable def eqU (x : V) (u : Value) : Bool := match u with
  | .none => eqV .non x
  | .bool b => eqV (.bl b) x
  | .int i _ => eqV (.int i) x
  | .str z _ => eqV (.str z) x
  | _ => false
theorem eqU_of {x y : V} {u : Value} (r : RelV y u) (f : flatV y = true) : eqU x u = eqV y x := by
  cases y with
  | non => cases r; rfl
  | bl b => cases r; rfl
  | int i => obtain ⟨t, rfl⟩ := r; rfl
  | str z => obtain ⟨t, rfl⟩ := r; rfl
  | _ => exact absurd (show false = true from f) Bool.false_ne_true
theorem any_eqU {x : V} : ∀ {xs : List V} {us : List Value}, Vals xs us → xs.all flatV = true → us.any (eqU x) = xs.any fun y => eqV y x
  | _, _, .nil, _ => rfl
  | y :: xs, u :: us, .cons r t, f => by
    rw [List.all_cons, Bool.and_eq_true] at f
    rw [List.any_cons, List.any_cons, eqU_of r f.1, any_eqU t f.2]
theorem mem_eqAt {A : Around} {s : Shared} {x : V} {v : Value} (rx : RelV x v) (fx : flatV x = true) : ∀ {xs : List V} {us : List Value}, Vals xs us → xs.all flatV = true → ∀ u ∈ us, SeqAt.EqAt A s u v (eqU x u)
  | _, _, .nil, _ => fun u hu => by cases hu
  | y :: xs, u :: us, .cons r t, f => fun u' hu => by
    rw [List.all_cons, Bool.and_eq_true] at f
    rcases List.mem_cons.mp hu with rfl | hu
    · rw [eqU_of r f.1]; exact eqAt_V r rx f.1 fx
    · exact mem_eqAt rx fx t f.2 u' hu
noncomputable def inV (x : V) (xs : List V) : Bool := xs.any fun y => eqV y x
noncomputable def rIn (K : PySem.W.Frag) (neg : Bool) : R2 := fun x y H Q => ∃ p xs, y = .ref p ∧ (SqL K H p xs ∨ SqT K H p xs) ∧ flatV x = true ∧ xs.all flatV = true ∧ Q (.bl (if neg then !inV x xs else inV x xs)) H
theorem op_in_seq : OpR X (compareOp .In) (rIn X.K false) := by
  intro pins s σ H x y v u Q I rx ry h
  obtain ⟨p, xs, rfl, hq, fx, fs, q⟩ := h
  cases ry
  rcases hq with hq | hq
  · obtain ⟨its, r, pl, hz⟩ := I.list hq
    refine SeqAt.in_listAt (eqU x) pl.isList (fun w hw => mem_eqAt rx fx r fs w (by simpa using hw)) ⟨.bl _, H, I, rfl, ?_⟩
    rw [show its.toArray.any (eqU x) = its.any (eqU x) by simp, any_eqU r fs]
    exact q
  · obtain ⟨its, r, pl, hz⟩ := I.tuple hq
    refine SeqAt.in_tupleAt (eqU x) pl (fun w hw => mem_eqAt rx fx r fs w (by simpa using hw)) ⟨.bl _, H, I, rfl, ?_⟩
    rw [show its.toArray.any (eqU x) = its.any (eqU x) by simp, any_eqU r fs]
    exact q
theorem op_notIn_seq : OpR X (compareOp .NotIn) (rIn X.K true) := by
  intro pins s σ H x y v u Q I rx ry h
  obtain ⟨p, xs, rfl, hq, fx, fs, q⟩ := h
  cases ry
  rcases hq with hq | hq
  · obtain ⟨its, r, pl, hz⟩ := I.list hq
    refine SeqAt.notIn_listAt (eqU x) pl.isList (fun w hw => mem_eqAt rx fx r fs w (by simpa using hw)) ⟨.bl _, H, I, rfl, ?_⟩
    rw [show its.toArray.any (eqU x) = its.any (eqU x) by simp, any_eqU r fs]
    exact q
  · obtain ⟨its, r, pl, hz⟩ := I.tuple hq
    refine SeqAt.notIn_tupleAt (eqU x) pl (fun w hw => mem_eqAt rx fx r fs w (by simpa using hw)) ⟨.bl _, H, I, rfl, ?_⟩
    rw [show its.toArray.any (eqU x) = its.any (eqU x) by simp, any_eqU r fs]
    exact q
theorem op_notIn_str : OpR X (compareOp .NotIn) (fun x y H Q => ∃ i j, x = .str i ∧ y = .str j ∧ Q (.bl (!(!(Builtin.Str.occurrences j i 0 j.length 1).isEmpty))) H) := by
  intro pins s σ H x y v u Q I rx ry h
  obtain ⟨i, j, rfl, rfl, q⟩ := h
  obtain ⟨t, rfl⟩ := rx
  obtain ⟨t', rfl⟩ := ry
  exact notIn_str ⟨.bl _, H, I, rfl, q⟩
theorem call_len_seq : CallR X (.builtin "len") (fun xs H Q => ∃ p ys, xs = [.ref p] ∧ (SqL X.K H p ys ∨ SqT X.K H p ys) ∧ Q (.int ys.length) H) := by
  intro pins s σ H xs us Q I r h
  obtain ⟨p, ys, rfl, hq, q⟩ := h
  obtain ⟨u, rfl, rx⟩ := vals1 r
  cases rx
  have hn := line63
  rcases hq with hq | hq
  · obtain ⟨its, r', pl, hz⟩ := I.list hq
    have hlen := r'.length
    exact Calls.call_len_list pl.isList (by simp only [List.size_toArray] <;> omega) ⟨.int ys.length, H, I.tok _, ⟨s.toks + 1, by rw [List.size_toArray, hlen]⟩, q⟩
  · obtain ⟨its, r', pl, hz⟩ := I.tuple hq
    have hlen := r'.length
    exact len_tuple pl (by simp only [List.size_toArray] <;> omega) ⟨.int ys.length, H, I.tok _, ⟨s.toks + 1, by rw [List.size_toArray, hlen]⟩, q⟩
theorem call_len_str : CallR X (.builtin "len") (fun xs H Q => ∃ z, xs = [.str z] ∧ z.length ≤ sizeLine ∧ Q (.int z.length) H) := by
  intro pins s σ H xs us Q I r h
  obtain ⟨z, rfl, hz, q⟩ := h
  obtain ⟨u, rfl, t, rfl⟩ := vals1 r
  have hn := line63
  exact len_str (by omega) ⟨.int z.length, H, I.tok _, ⟨_, rfl⟩, q⟩
theorem CallR.or {f : Value} {r r' : List V → Hp → VK → Prop} (h : CallR X f r) (h' : CallR X f r') : CallR X f (fun xs H Q => r xs H Q ∨ r' xs H Q) := by
  intro pins s σ H xs us Q I rs q
  rcases q with q | q
  · exact h pins s σ H xs us Q I rs q
  · exact h' pins s σ H xs us Q I rs q
theorem call_tuple_of : CallR X (.type "tuple") (fun xs H Q => ∃ p ys, xs = [.ref p] ∧ ((SqL X.K H p ys ∧ ∀ l, H l = none → Q (.ref l) (upd H l (.tup ys))) ∨ (SqT X.K H p ys ∧ Q (.ref p) H))) := by
  intro pins s σ H xs us Q I r h
  obtain ⟨p, ys, rfl, h⟩ := h
  obtain ⟨u, rfl, rx⟩ := vals1 r
  cases rx
  rcases h with ⟨hq, q⟩ | ⟨hq, q⟩
  · obtain ⟨its, r', pl, hz⟩ := I.list hq
    have hlen := r'.length
    refine call_tuple_list pl.isList (fun h' kp => ?_) (by simp only [List.size_toArray] <;> omega)
    have I1 : Inv X pins σ H { s with heap := h' } := I.kept (t' := s.toks) kp
    have I2 : Inv X pins σ (upd H h'.objs.size (.tup ys)) { s with heap := h'.push { cls := .type "tuple", data := .seq its.toArray } } :=
      I1.laid (t' := s.toks) (fun b o e => Heap.get?_push_of_some _ e) (Nat.le_refl _) (show ObjOk X.prog X.w _ _ _ (.tup ys) from ⟨hz, its, r', IsTup.new _ _⟩)
    exact ⟨.ref h'.objs.size, _, I2, rfl, q _ (I1.hok.fresh (Nat.le_refl _))⟩
  · obtain ⟨its, r', pl, hz⟩ := I.tuple hq
    exact call_tuple_same pl ⟨.ref p, H, I, rfl, q⟩
noncomputable def tyV (K : PySem.W.Frag) (T : String) (x : V) (H : Hp) : Prop := match x with
  | .str _ => T = "str"
  | .int _ => T = "int"
  | .ref p => (T = "list" ∧ ∃ xs, SqL K H p xs) ∨ (T = "tuple" ∧ ∃ o, K.lookup p = some o ∧ o.cls = .type "tuple" ∧ o.dict = none) ∨
      (T = "dict" ∧ ((∃ kvs, H p = some (.dK kvs)) ∨ ∃ kvs, H p = some (.dT kvs))) ∨ (T = "set" ∧ ∃ S n, H p = some (.set S n))
  | _ => False
theorem tyV_is {pins : List (Addr × Obj)} {σ : St} {H : Hp} {s : Shared} {T : String} {x : V} {v : Value} (I : Inv X pins σ H s) (r : RelV x v) (ty : tyV X.K T x H) :
    s.TypeIs v T ∧ ∀ a, v = .ref a → ∃ ob, s.heap.get? a = some ob ∧ ob.dict = none := by
  cases x with
  | str z =>
    obtain ⟨t, rfl⟩ := r
    cases (show T = "str" from ty)
    exact ⟨typeIs_str s z t, fun _ e => nomatch e⟩
  | int i =>
    obtain ⟨t, rfl⟩ := r
    cases (show T = "int" from ty)
    exact ⟨typeIs_int s i t, fun _ e => nomatch e⟩
  | ref p =>
    cases r
    rcases ty with ⟨rfl, xs, hq⟩ | ⟨rfl, o, hk, hc, hd⟩ | ⟨rfl, hk⟩ | ⟨rfl, S, n, hk⟩
    · obtain ⟨its, _, pl, _⟩ := I.list hq
      refine ⟨pl.isList.typeIs, fun a e => ?_⟩
      cases e
      obtain ⟨o, n, e, c, hd, _⟩ := pl
      exact ⟨o, e, hd⟩
    · refine ⟨⟨o, I.kIn p o hk, hc⟩, fun a e => ?_⟩
      cases e
      exact ⟨o, I.kIn _ o hk, hd⟩
    · have z : ∃ o, s.heap.get? p = some o ∧ o.ExactDict := by
        rcases hk with ⟨kvs, hk⟩ | ⟨kvs, hk⟩
        · obtain ⟨_, _, _, _, o, _, _, e, ex, _⟩ := I.hok p _ hk
          exact ⟨o, e, ex⟩
        · obtain ⟨_, _, _, _, o, _, _, e, ex, _⟩ := I.hok p _ hk
          exact ⟨o, e, ex⟩
      obtain ⟨o, e, ex⟩ := z
      refine ⟨⟨o, e, ex.1⟩, fun a e2 => ?_⟩
      cases e2
      exact ⟨o, e, ex.2.1⟩
    · obtain ⟨o, _, _, _, e, ex, _⟩ := I.hok p _ hk
      refine ⟨⟨o, e, ex.1⟩, fun a e2 => ?_⟩
      cases e2
      exact ⟨o, e, ex.2.1⟩
  | _ => exact False.elim ty
noncomputable def tBM0 (K : PySem.W.Frag) (T : String) (r : V → List V → Hp → VK → Prop) (to : TE) : TE := fun σ H Q => to σ H fun x H1 => tyV K T x H1 ∧ r x [] H1 Q
noncomputable def tBM (K : PySem.W.Frag) (T : String) (r : V → List V → Hp → VK → Prop) (to : TE) (t : TA) : TE := fun σ H Q => to σ H fun x H1 => tyV K T x H1 ∧ t σ H1 fun xs H2 => r x xs H2 Q
variable {o e : Expr} {es : List Expr} {to : TE} {t : TA} {name : Str} {apos cpos : Pos} {T id : String} {r : V → List V → Hp → VK → Prop}
theorem pe_bm (pa : PlainAttrs T) (slot : Slot T name id) (hty : typeOf (.builtin id) = pure (.type "method_descriptor")) (hm : MtR X id r) (ho : PE X o to) (ha : PA X (e :: es) t)
    (hbase : attributeBase o name X.env (eval o X.env) = eval o X.env := by rfl)
    (hfew : ((backTo cpos (starEach (e :: es) X.env)).all (fun x => !x.1) && (backToKw cpos (keywordEach [] X.env)).all (fun x => x.1.isSome)
      && decide ((e :: es).length + ([] : List Keyword).length + (if ([] : List Keyword).isEmpty then 0 else 1) < 30)) = true := by rfl)
    (hline : (apos.endLine == cpos.line) = true := by rfl) (hs : starEach (e :: es) X.env = (false, eval e X.env) :: starEach es X.env := by rfl) (hplain : (backTo cpos (starEach es X.env)).any (·.1) = false := by rfl) :
    PE X (.Call (.Attribute o name apos) (e :: es) [] cpos) (tBM X.K T r to t) := by
  intro pins s σ H Q I h
  refine wpAny_Call_method_late hbase hfew hline rfl (thn (ho pins s σ H _ I h) fun v s1 ⟨x, H1, I1, r1, ty, q1⟩ => ?_)
  obtain ⟨h1, h2⟩ := tyV_is I1 r1 ty
  refine ⟨T, id, pa, slot, hty, h1, h2, ?_⟩
  have hA := ha cpos pins s1 σ H1 _ I1 q1
  rw [hs] at hA ⊢
  refine Calls.callWith_builtin (by show (false || (backTo cpos (starEach es X.env)).any (·.1)) = false; rw [hplain] <;> rfl) (Calls.evalArgs_plain ?_)
  exact thn hA fun us s2 ⟨vs, H2, I2, r2, q2⟩ => hm pins s2 σ H2 x vs v us Q I2 r1 r2 q2
/- xs.append(e), list.index on a module's tuple .. are MtR facts of 06m -/
end
end L2
namespace L2
open PySem PySem.Spec PyProof.Rows
noncomputable def MtM (X : Cx) (id : String) (r : V → List V → Hp → VK → Prop) : Prop :=
  ∀ (pins : List (Addr × Obj)) (s : Shared) (σ : St) (H : Hp) (x : V) (xs : List V) (v : Value) (us : List Value) (Q : VK), Inv X pins σ H s → RelV x v → Vals xs us → r x xs H Q →
    wpAny (model X.prog X.w) X.A (call (.builtin id) (v :: us)) (EP X pins σ Q) X.xe s
theorem Vals.one : ∀ {x : V} {us : List Value}, Vals [x] us → ∃ u, us = [u] ∧ RelV x u
  | _, _, .cons r .nil => ⟨_, rfl, r⟩
theorem Vals.reverse {xs : List V} {us : List Value} (h : Vals xs us) : Vals xs.reverse us.reverse := by
  induction h with
  | nil => exact .nil
  | cons r t ih => rw [List.reverse_cons, List.reverse_cons]; exact Vals.append ih (.cons r .nil)
section
variable {X : Cx} {pins : List (Addr × Obj)} {σ : St} {H : Hp} {s : Shared} {l b : Addr} {xs ys zs : List V}
theorem Inv.lset {its its' : List Value} {n : Nat} {f : Array Value → Array Value} {t' : Nat} (I : Inv X pins σ H s) (hH : H l = some (.lst xs))
    (e : s.heap.get? l = some { cls := .type "list", data := .seq its.toArray n }) (hf : f its.toArray = its'.toArray) (hv : Vals ys its') (hz : ys.length ≤ sizeLine) :
    Inv X pins σ (upd H l (.lst ys)) { s with heap := s.heap.update l (Obj.mapSeq f), toks := t' } := by
  have q := PySem.IsL.update e f
  rw [hf] at q
  refine I.write (x := l) (e := l) (by rw [hH]; exact trivial) (.inl rfl) (fun b' u hb hu => (Heap.get?_update_other s.heap (Obj.mapSeq f) (Ne.symm hb)).trans hu) ⟨_, q⟩ ?_
  exact ⟨hz, its', _, hv, q⟩
theorem Inv.lnew {its : List Value} {t' : Nat} (I : Inv X pins σ H s) (hv : Vals ys its) (hz : ys.length ≤ sizeLine) :
    Inv X pins σ (upd H s.heap.objs.size (.lst ys)) { s with heap := s.heap.push { cls := .type "list", data := .seq its.toArray }, toks := t' } :=
  I.laid (fun _ _ q => Heap.get?_push_of_some _ q) (Nat.le_refl _) ⟨hz, its, 0, hv, Heap.get?_push_size _ rfl⟩
theorem Inv.fresh (I : Inv X pins σ H s) : H s.heap.objs.size = none := I.hok.fresh (Nat.le_refl _)
theorem Inv.lstM (I : Inv X pins σ H s) (hH : H l = some (.lst xs)) : xs.length ≤ sizeLine ∧ ∃ (its : List Value) (n : Nat), Vals xs its ∧ xs.length = its.length ∧ s.heap.get? l = some { cls := .type "list", data := .seq its.toArray n } := by
  obtain ⟨z, its, n, r, e⟩ := I.hok l _ hH
  exact ⟨z, its, n, r, r.length, e⟩
theorem notLongL {n : Nat} (h : n ≤ sizeLine) : Builtin.List.listTooLong n = false := by
  unfold Builtin.List.listTooLong
  exact decide_eq_false (by omega)
end
section
variable {X : Cx}
noncomputable def rAppend : V → List V → Hp → VK → Prop := fun x vs H Q => ∃ l xs y, x = .ref l ∧ vs = [y] ∧ H l = some (.lst xs) ∧ xs.length < sizeLine ∧ Q .non (upd H l (.lst (xs ++ [y])))
theorem mt_append : MtM X "list.append" rAppend := by
  intro pins s σ H x vs v us Q I rx rv h
  obtain ⟨l, xs, y, rfl, rfl, hH, hz, q⟩ := h
  cases rx
  obtain ⟨u, rfl, ru⟩ := rv.one
  obtain ⟨z, its, n, r, hl, e⟩ := I.lstM hH
  refine call_meets F.slot_list_append ⟨_, e, rfl⟩ F.entry_list_append (F.args_list_append_2 _ _) (PySem.list_append l its.toArray n u (by rw [List.size_toArray]; omega)) ⟨e, ?_⟩
  refine ⟨.non, _, I.lset (its' := its ++ [u]) hH e (by simp) (r.append (.cons ru .nil)) ?_, rfl, q⟩
  rw [List.length_append, List.length_singleton]
  omega
noncomputable def rExtend : V → List V → Hp → VK → Prop := fun x vs H Q => ∃ l b xs zs, x = .ref l ∧ vs = [.ref b] ∧ H l = some (.lst xs) ∧ H b = some (.lst zs) ∧ xs.length + zs.length ≤ sizeLine ∧ Q .non (upd H l (.lst (xs ++ zs)))
noncomputable def rPop : V → List V → Hp → VK → Prop := fun x vs H Q => ∃ l xs y, x = .ref l ∧ vs = [] ∧ H l = some (.lst xs) ∧ xs[xs.length - 1]? = some y ∧ Q y (upd H l (.lst xs.dropLast))
noncomputable def rPopAt : V → List V → Hp → VK → Prop := fun x vs H Q => ∃ l xs i k y, x = .ref l ∧ vs = [.int i] ∧ H l = some (.lst xs) ∧ -(2 ^ 63) ≤ i ∧ i < 2 ^ 63 ∧ seqIndex? i xs.length = some k ∧ xs[k]? = some y ∧ Q y (upd H l (.lst (xs.eraseIdx k)))
noncomputable def rReverse : V → List V → Hp → VK → Prop := fun x vs H Q => ∃ l xs, x = .ref l ∧ vs = [] ∧ H l = some (.lst xs) ∧ Q .non (upd H l (.lst xs.reverse))
noncomputable def rClear : V → List V → Hp → VK → Prop := fun x vs H Q => ∃ l xs, x = .ref l ∧ vs = [] ∧ H l = some (.lst xs) ∧ Q .non (upd H l (.lst []))
noncomputable def rCat : R2 := fun x y H Q => ∃ l b xs zs, x = .ref l ∧ y = .ref b ∧ H l = some (.lst xs) ∧ H b = some (.lst zs) ∧ xs.length + zs.length ≤ sizeLine ∧ ∀ p, H p = none → Q (.ref p) (upd H p (.lst (xs ++ zs)))
noncomputable def rRep : R2 := fun x y H Q => ∃ l k xs, x = .ref l ∧ y = .int k ∧ H l = some (.lst xs) ∧ -(2 ^ 63) ≤ k ∧ k < 2 ^ 63 ∧ xs.length * k.toNat ≤ sizeLine ∧
  ∀ p, H p = none → Q (.ref p) (upd H p (.lst (List.replicate k.toNat xs).flatten))
end
end L2
namespace Att
open PySem PySem.W PySem.Calls PyProof.Rows
theorem ints_of_wellAll {P : Params} {h : Heap} : ∀ (ns : List Int) (vs : List Value), WellAll P h vs (ns.map WData.int) → IntsAre vs ns := by
  intro ns
  induction ns with
  | nil =>
    intro vs w
    rw [List.map_nil] at w
    cases w
    exact .nil
  | cons n ns ih =>
    intro vs w
    rw [List.map_cons] at w
    cases w with
    | cons a b =>
      cases a
      exact .cons _ _ (ih _ b)
theorem script_of {l : OpenLaw} {n : Nat} (hn : l.most = some n) {P : Params} {h : Heap} {args : List WData} {vals : List Value}
    (hpre : l.row.toRowW.claim.pre args = true) (hwl : WellAll P h vals args) :
    ∃ a vs ns, vals = [Value.ref a] ∧ args = [WData.list (ns.map WData.int)] ∧ h.get? a = some { cls := .type "list", data := .seq vs.toArray } ∧ IntsAre vs ns ∧ ns.length ≤ n := by
  have hsh : WShape.hasAll [] args [.list .int] = true := (pre_splitW hpre).1
  have hc : l.pre.holds [] { args := args } = true := (pre_splitW hpre).2
  obtain ⟨d, r, rfl, h1, h2⟩ := hasAllW_cons hsh
  obtain rfl := hasAllW_nil h2
  obtain ⟨xs, rfl, h3⟩ := hasW_list h1
  obtain ⟨ns, rfl⟩ := items_int h3
  have hlen : ns.length ≤ n := by
    unfold OpenLaw.pre at hc
    have h4 : (WTm.not (.lt (.lit (.int (n : Int))) (.len (.arg 0)))).holds [] { args := [.list (ns.map .int)] } = true := by
      have h4 := (holds_andW hc).1
      rw [hn] at h4
      exact h4
    have h5 := condW_of h4 (w_not (w_lt w_lit (w_len_list (w_arg rfl))))
    rw [List.length_map] at h5
    refine Nat.le_of_not_lt fun q => ?_
    have q' : (n : Int) < ((ns.length : Nat) : Int) := by omega
    first
      | (rw [decide_eq_true q'] at h5; exact absurd h5 (by decide))
      | (simp at h5; omega)
  cases hwl with
  | cons w1 w2 =>
    cases w2
    cases w1 with
    | list ho hall => exact ⟨_, _, ns, rfl, rfl, ho, ints_of_wellAll ns _ hall, hlen⟩
theorem post_true (l : OpenLaw) (args : List WData) : l.row.toRowW.claim.post args (.bool true) args = true :=
  postW_of (r := l.row.toRowW) (X := (true == true))
    (show WShape.has [] (.bool true) .bool = true by first | rfl | decide | simp [WShape.has, WShape.arms, WShape.armsAll])
    (show (WTm.eq .res (.lit (.bool true))).value [] { args := args, res := some (.bool true), after := args } = some (.bool (true == true)) from w_eq_bool (w_res rfl) w_lit) rfl
theorem attach_call {l : OpenLaw} {n : Nat} {q : Program} {loose : List Str} {XP : (Str → Option Value) → Heap → Prop} {YP : World → Heap → Prop} {d : DefRec}
    (hn : l.most = some n) (hdf : d.params.defaults = [])
    (call : ∀ (w : World) (s₀ s₁ : Shared) (mg mb : Str → Option Value) (fa : Addr) (o : Obj) (pm cd doc : Value) (a : Addr) (vs : List Value) (ns : List Int),
      Ground q loose [] XP w s₀ mg mb s₁.heap → YP w s₁.heap →
      s₁.heap.get? fa = some o → o.data = .func (docDef d.name d.params d.body d.scope pm cd doc) → s₁.heap.CodeRec cd d.name → mg d.name = some (.ref fa) →
      s₁.heap.get? a = some { cls := .type "list", data := .seq vs.toArray } → IntsAre vs ns → ns.length ≤ n → s₁.gens = #[] →
      codeAny (model l.prog w) callerA (.call (.ref fa) ⟨[.ref a], []⟩) (fun r s' => r = .ok (.ret (.bool true)) ∧ OldK s₁.heap s'.heap ∧ s'.os = s₁.os ∧ AllBare s'.gens) s₁) :
    WalkO q loose XP YP l.row.toRowW d [] (fun f vs => PySem.call f vs) := by
  intro w s₀ s₁ mg mb G Y fa o pm cd doc dV kV ho hd hcd hD hmg hg args vals as hpre hlay hrd hwl hlo
  obtain rfl : dV = .none := Dflts.none hD hdf
  obtain rfl : kV = .none := Dflts.noKw hD
  obtain ⟨a, vs, ns, rfl, rfl, hobj, hints, hlen⟩ := script_of hn hpre hwl
  refine enter_call (codeAny_mono (call w s₀ s₁ mg mb fa o pm cd doc a vs ns G Y ho (fd_plain hd) hcd hmg hobj hints hlen hg) fun r s' hq => ?_)
  obtain ⟨rfl, h2, h3, h4⟩ := hq
  exact ⟨.inl ⟨.bool true, .bool true, [], rfl, fun _ => rfl, .bool true, post_true l _, fun _ => ⟨List.Pairwise.nil, fun _ hm => (nomatch hm)⟩⟩, h2, h3, h4⟩
section
variable {prog : Program} {w : World} {A : Around} {E : Value → Shared → Prop} {s : Shared} {K : Frag}
noncomputable def noObjs (h : Heap) : Heap := { h with objs := #[] }
noncomputable def ledger (h : Heap) (L d : Addr) : List (Addr × Obj) := (List.range h.objs.size).filterMap fun a => if a = L ∨ a = d then none else (h.get? a).map fun o => (a, o)
end
end Att
namespace L2
open PySem PySem.Spec PyProof.Rows
theorem vals_ints : ∀ {vs : List Value} {ns : List Int}, IntsAre vs ns → Vals (ns.map V.int) vs
  | _, _, .nil => .nil
  | _, _, .cons n t h => .cons ⟨t, rfl⟩ (vals_ints h)
noncomputable def Only (H : Hp) : Prop := ∀ b, H b = none ∨ ∃ o xs, H b = some (.frz o (.lst xs))
theorem law_call {P : Program} {w : World} {K : PySem.W.Frag} {mg mb : Str → Option Value} {CX : CXT} {k : Nat} {fa a : Addr} {fd : FuncData} {x : Str} {sp : Sp} {s₁ : Shared} {vs : List Value} {ns : List Int}
    (KX : K.In s₁.heap) (hns : s₁.heap.Ns mainGlobals mg) (hb : s₁.heap.Ns builtinsNs mb) (hbb : ∀ x : Str, x ≠ "__name__" → mb x = bootBuiltins x) (hlim : s₁.heap.NoLimit) (hg : s₁.gens = #[])
    (ha : s₁.heap.get? a = some { cls := .type "list", data := .seq vs.toArray }) (hi : IntsAre vs ns) (hl : ns.length ≤ sizeLine) (hr : Room k callerA)
    (F : ∀ base : Heap, K.In base → base.Ns mainGlobals mg → FnOk P w K mg base CX k fa fd [x] sp) (hbind : ∀ (s : Shared) (u : Value), BindsTo s fd ⟨[u], []⟩ [(x, u)])
    (hsp : ∀ H : Hp, Only H → SqL K H a (ns.map V.int) → sp [.ref a] H (fun v _ => v = .bl true) fun _ _ _ => False)
    (hCX : ∀ H e s', CX [] H s₁ (fun _ _ _ => False) e s' → False) :
    codeAny (model P w) callerA (.call (.ref fa) ⟨[.ref a], []⟩) (fun r s' => r = .ok (.ret (.bool true)) ∧ OldK s₁.heap s'.heap ∧ s'.os = s₁.os ∧ AllBare s'.gens) s₁ := by
  have rv := vals_ints hi
  have lenV := hi.length
  have core : ∀ H : Hp, Only H → SqL K H a (ns.map V.int) → HOk P w H s₁.heap → (∀ b, H b ≠ none → b = a) → (H a ≠ none → K.lookup a = none) →
      codeAny (model P w) callerA (.call (.ref fa) ⟨[.ref a], []⟩) (fun r s' => r = .ok (.ret (.bool true)) ∧ OldK s₁.heap s'.heap ∧ s'.os = s₁.os ∧ AllBare s'.gens) s₁ := by
    intro H hO hS hok hA hK
    have base_of : ∀ {b : Addr} {o : Obj}, s₁.heap.get? b = some o → H b = none → (hidT s₁.heap H).get? b = some o := fun e n => hidT_get e n
    have noA : ∀ {b : Addr} {o : Obj} {es : Array DictEntry} {ep : Nat}, s₁.heap.get? b = some o → o.data = .dict es ep → H b = none := fun {b o es ep} e d => by
      cases q : H b with
      | none => rfl
      | some u =>
        have e' : b = a := hA b (by rw [q]; simp)
        subst e'
        rw [ha] at e; cases e
        have d' : Data.seq vs.toArray _ = Data.dict es ep := d
        cases d'
    have nsK : ∀ {b : Addr} {m : Str → Option Value}, s₁.heap.Ns b m → (hidT s₁.heap H).Ns b m := fun {b m} ⟨o, es, ep, e, d, r⟩ => ⟨o, es, ep, base_of e (noA e d), d, r⟩
    have hKb : K.In (hidT s₁.heap H) := fun b o e => base_of (KX b o e) (by
      cases q : H b with
      | none => rfl
      | some u =>
        have e' : b = a := hA b (by rw [q]; simp)
        subst e'
        rw [hK (by rw [q]; simp)] at e; cases e)
    have hM : Mod K mg (hidT s₁.heap H) := ⟨hKb, nsK hns, ⟨mb, nsK hb, hbb⟩, let ⟨mc, h1, h2⟩ := hlim; ⟨mc, nsK h1, h2⟩⟩
    have e0 : Env0 P w K mg (hidT s₁.heap H) callerA [] s₁ H := ⟨rfl, hM, fun b o e => of_hidT e, Nat.le_of_eq (hidT_size _ _), trivial, fun b hb => absurd (show b ∈ ([] : List Addr) from hb) (by simp), hok, .of_eq hg⟩
    refine codeAny_mono ((F _ hKb (nsK hns)).run callerA [] s₁ H ⟨[.ref a], []⟩ [.ref a] [.ref a] _ _ hr e0 (hbind s₁ (.ref a)) (.cons rfl .nil) (hsp H hO hS)) fun r s' h => ?_
    cases r with
    | error e => exact (hCX H e s' h).elim
    | ok fl =>
      cases fl with
      | next => exact False.elim h
      | brk => exact False.elim h
      | cont => exact False.elim h
      | ret u =>
        obtain ⟨v, H', os, bare, un, hok', r', q⟩ := h
        have q' : v = .bl true := q
        subst q'
        obtain rfl : u = Value.bool true := r'
        refine ⟨rfl, OldK.of_keep fun b o e => ?_, os, bare⟩
        cases q : H b with
        | none => exact un.keep b o e q (by intro z; exact absurd (show b ∈ ([] : List Addr) from z) (by simp)) (by simp)
        | some u =>
          rcases hO b with z | ⟨ob, xs, z⟩
          · rw [q] at z; cases z
          · have z2 := un.frzs b ob _ z
            obtain ⟨e1, _⟩ := hok b _ z
            obtain ⟨e2, _⟩ := hok' b _ z2
            rw [e] at e1; cases e1
            exact e2
  cases hk : K.lookup a with
  | some o =>
    have e := KX a o hk
    rw [ha] at e
    cases e
    refine core (fun _ => none) (fun _ => .inl rfl) (.inr ⟨_, vs.toArray, _, hk, rfl, rfl, rfl, by rw [List.size_toArray, lenV]; exact hl, by simpa using rv⟩) (fun b u z => by have z' : (none : Option HO) = some u := z; cases z') (fun b z => absurd rfl z) fun z => absurd rfl z
  | none =>
    refine core (fun b => if b = a then some (.frz { cls := .type "list", data := .seq vs.toArray } (.lst (ns.map V.int))) else none) (fun b => ?_) (.inl (.inr ⟨{ cls := .type "list", data := .seq vs.toArray }, if_pos rfl⟩)) (fun b u z => ?_) (fun b z => ?_) fun _ => hk
    · by_cases hb : b = a
      · exact .inr ⟨_, _, if_pos hb⟩
      · exact .inl (if_neg hb)
    · by_cases hb : b = a
      · have z' := (if_pos hb).symm.trans z
        cases z'
        subst hb
        exact ⟨ha, by rw [List.length_map]; exact hl, vs, _, rv, ha⟩
      · have z' := (if_neg hb).symm.trans z
        cases z'
    · by_cases hb : b = a
      · exact hb
      · exact absurd (if_neg hb) z
end L2
namespace L2
open PySem PySem.Spec PyProof.Rows
noncomputable abbrev KOf {K : PySem.W.Frag} {h : Heap} (_ : K.In h) : PySem.W.Frag := K
theorem walk_of {l : PySem.W.OpenLaw} {n k : Nat} {q : Program} {loose : List Str} {XP : (Str → Option Value) → Heap → Prop} {YP : World → Heap → Prop} {d : DefRec} {K : Params → PySem.W.Frag} {CX : World → CXT} {sp : World → Sp} {x : Str}
    (hn : l.most = some n) (hn2 : n ≤ sizeLine) (hdf : d.params.defaults = []) (hr : Room k callerA)
    (hY : ∀ (w : World) (h : Heap), YP w h → (K w.params).In h)
    (F : ∀ (w : World) (mg : Str → Option Value) (fa : Addr) (h : Heap), (K w.params).In h → h.Ns mainGlobals mg → mg d.name = some (.ref fa) →
      ∃ fd : FuncData, (∀ (s : Shared) (u : Value), BindsTo s fd ⟨[u], []⟩ [(x, u)]) ∧
        ∀ base : Heap, (K w.params).In base → base.Ns mainGlobals mg → FnOk l.prog w (K w.params) mg base (CX w) k fa fd [x] (sp w))
    (hsp : ∀ (w : World) (H : Hp) (a : Addr) (ns : List Int), ns.length ≤ n → Only H → SqL (K w.params) H a (ns.map V.int) → sp w [.ref a] H (fun v _ => v = .bl true) fun _ _ _ => False)
    (hCX : ∀ (w : World) (H : Hp) (s : Shared) (e : Value) (s' : Shared), CX w [] H s (fun _ _ _ => False) e s' → False) :
    PySem.W.WalkO q loose XP YP l.row.toRowW d [] (fun f vs => PySem.call f vs) := by
  refine Att.attach_call hn hdf fun w s₀ s₁ mg mb fa o pm cd doc a vs ns G Y ho hd hcd hmg hobj hints hlen hg => ?_
  have KX := hY w _ Y
  obtain ⟨fd, hb, hF⟩ := F w mg fa _ KX G.T.g hmg
  exact law_call KX G.T.g G.T.b G.T.builtins G.T.nolimit hg hobj hints (Nat.le_trans hlen hn2) hr hF hb (fun H hO hS => hsp w H a ns hlen hO hS) fun H e s' => hCX w H s₁ e s'
end L2
/- THE LAST THEOREM (shape; LID, My.* are yours):
   My.Adr: a structure of the addresses that your layer names (classes, functions); My.Txt K t: a structure (Prop) of the equations over K;
   My.txt_mk : {K} {implicit addresses ..} (e1 : nsIn K mainGlobals "law" = some (some (.ref f))) (e2 : K.lookup f = some ⟨oc, od, .func (fnOf "law" "law" params body scope dV kV doc pm an cdv ct), sl⟩) (e3 : codeIn K cdv "law" = true) .. : ∃ t, My.Txt K t
set_option maxRecDepth 100000 in
set_option maxHeartbeats 0 in
theorem PySem.Challenge.cw_LID_holds : PySem.Challenge.rw_LID.Holds := by
  w_on; o_law; k_head; (case hw => w_witness2)
  k_fill
  refine L2.walk_of (l := PySem.Challenge.rw_LID) (n := 63) (k := 40) (x := "script") (CX := fun w => ..) (sp := fun _ => My.sp_law) rfl (by decide) rfl ⟨rfl, by decide, by decide⟩ (fun w h Y => PySem.W.kIn_of Y) ?F ?S ?C
  case F =>
    intro w mg fa h KX G hmg
    have T : ∃ t, My.Txt (L2.KOf KX) t := by
      dsimp only [L2.KOf]                          -- K must stand as «<heap const> w.params» for k_is
      refine' My.txt_mk ?e1 ?e2 ?e3 ..
      (case e1 => PySem.W.k_is)                    -- in the order: a name -> its address -> its object -> its parts
      (case e2 => PySem.W.k_is)
      ..
    obtain ⟨t, T⟩ := T
    have e0 := hmg.symm.trans (PySem.W.mg_of KX G T.law)
    cases e0                                       -- fa is the law's own address
    exact ⟨_, fun s u => .of_eq rfl, fun base kb nb => My.law_fn T kb nb⟩     -- if «.of_eq rfl» comes too early: refine' ⟨_, ?b, fun base kb nb => My.law_fn T kb nb⟩; exact fun s u => .of_eq rfl
  case S => exact fun w H a ns hl hO hS => ..
  case C => exact ..
(the tactic k_is has no namespace: write k_is) -/
namespace L2
open PySem PySem.Spec PyProof.Rows
noncomputable def inClass (s : Stmt) (j : Nat) : Stmt := match s with
  | .ClassDef _ _ _ body _ _ _ _ _ _ _ => body.getD j (.Pass ⟨0, 0, 0, 0⟩)
  | _ => .Pass ⟨0, 0, 0, 0⟩
noncomputable def defArgs (s : Stmt) : Arguments := match s with
  | .FunctionDef _ a _ _ _ _ _ _ _ _ => a
  | _ => { posonlyargs := [], args := [], vararg := none, kwonlyargs := [], kw_defaults := [], kwarg := none, defaults := [] }
noncomputable def defBody (s : Stmt) : List Stmt := match s with
  | .FunctionDef _ _ b _ _ _ _ _ _ _ => b
  | _ => []
noncomputable def defScope (s : Stmt) : Scope := match s with
  | .FunctionDef _ _ _ _ _ _ sc _ _ _ => sc
  | _ => { kind := .function, names := [], isGenerator := false, isCoroutine := false }
noncomputable abbrev CX0 : CXT := fun _ _ _ _ _ _ => False
noncomputable abbrev E0 : XK := fun _ _ _ => False
theorem pass0 {X : Cx} : Passes CX0 X E0 := fun _ _ _ _ _ _ _ h => h.elim
structure Fun (K : PySem.W.Frag) (x qual : Str) (st : Stmt) (f : Addr) (fd : FuncData) : Prop where
  ex : ∃ (oc : Value) (od : Option Addr) (kV doc pm : Value) (an : Option Addr) (cdv ct : Value) (osl : Array (Option Value)),
    fd = PySem.W.fnOf x qual (defArgs st) (defBody st) (defScope st) .none kV doc pm an cdv ct ∧ K.lookup f = some ⟨oc, od, .func fd, osl⟩ ∧ PySem.W.codeIn K cdv qual = true
  kp : PySem.W.keepIn K (.ref f) = true
section
variable {P : Program} {w : World} {K : PySem.W.Frag} {mg : Str → Option Value} {base : Heap}
theorem Fun.ok {x qual : Str} {st : Stmt} {f : Addr} {fd : FuncData} {N ps : List Str} {k : Nat} {sp : Sp} (F : Fun K x qual st f fd) (S : FnScope N ps (defScope st)) (len : ∀ vs H Q E, sp vs H Q E → vs.length = ps.length)
    (hbody : ∀ (cdv : Value) (A : Around) (outer : List Env) (s : Shared) (H : Hp) (vs : List V) (Q : VK) (E : XK), Room k (A.deeper (envOfC qual (defScope st) s.heap.objs.size f cdv)) → sp vs H Q E →
      ∃ t, PSs (cxOf CX0 P w K mg base N qual (defScope st) f cdv A outer s H E).nox (defBody st) t ∧ t { nx := fun _ H' => Q .non H', rt := Q } (start N vs) H) : FnOk P w K mg base CX0 (k + 1) f fd ps sp := by
  obtain ⟨oc, od, kV, doc, pm, an, cdv, ct, osl, rfl, lk, hcd⟩ := F.ex
  refine fn_of lk hcd S len fun A outer s H vs Q E hr hsp => ?_
  obtain ⟨t, h, q⟩ := hbody cdv A outer s H vs Q E hr hsp
  exact ⟨t, h.nox, q⟩
theorem Fun.binds {x qual : Str} {st : Stmt} {f : Addr} {fd : FuncData} {ps : List Str} (F : Fun K x qual st f fd)
    (h : ∀ (kV doc pm : Value) (an : Option Addr) (cdv ct : Value) (us : List Value), us.length = ps.length → bindArgs (PySem.W.fnOf x qual (defArgs st) (defBody st) (defScope st) .none kV doc pm an cdv ct) ⟨us, []⟩ = pure (ps.zip us)) : Binds K fd ps [] := by
  obtain ⟨oc, od, kV, doc, pm, an, cdv, ct, osl, rfl, lk, hcd⟩ := F.ex
  exact .all (h kV doc pm an cdv ct)
theorem fun_mk {x qual : Str} {st : Stmt} {f : Addr} {oc : Value} {od an : Option Addr} {osl : Array (Option Value)} {kV doc pm cdv ct : Value} (l : K.lookup f = some ⟨oc, od, .func (PySem.W.fnOf x qual (defArgs st) (defBody st) (defScope st) .none kV doc pm an cdv ct), osl⟩)
    (c : PySem.W.codeIn K cdv qual = true) (k : PySem.W.keepIn K (.ref f) = true) : Fun K x qual st f (PySem.W.fnOf x qual (defArgs st) (defBody st) (defScope st) .none kV doc pm an cdv ct) := ⟨⟨oc, od, kV, doc, pm, an, cdv, ct, osl, rfl, l, c⟩, k⟩
end
theorem iteF {A B : Prop} (h : B) : if false = true then A else B := by
  rw [if_neg Bool.false_ne_true]
  exact h
theorem iteT {A B : Prop} (h : A) : if true = true then A else B := by
  rw [if_pos rfl]
  exact h
noncomputable def Same (H H' : Hp) : Prop := ∀ b o, H b = some o → H' b = some o
theorem Same.refl (H : Hp) : Same H H := fun _ _ h => h
theorem Same.trans {H H1 H2 : Hp} (a : Same H H1) (b : Same H1 H2) : Same H H2 := fun c o h => b c o (a c o h)
theorem Same.free {H H' : Hp} (e : Same H H') {l : Addr} (h : H' l = Option.none) : H l = Option.none := by
  cases q : H l with
  | none => rfl
  | some o =>
    rw [e l o q] at h
    cases h
theorem Same.seq {K : PySem.W.Frag} {H H' : Hp} {a : Addr} {xs : List V} (e : Same H H') (h : SqL K H a xs) : SqL K H' a xs := by
  rcases h with (h | ⟨o, h⟩) | h
  · exact .inl (.inl (e _ _ h))
  · exact .inl (.inr ⟨o, e _ _ h⟩)
  · exact .inr h
end L2
set_option autoImplicit false
namespace L2
open PySem PySem.Spec PyProof.Rows
section
variable {κ : Type} [DecidableEq κ]
noncomputable def valV (kvs : List (κ × V)) (k : κ) : Option V := (kvs.find? fun kv => decide (kv.1 = k)).map (·.2)
noncomputable def putK (kvs : List (κ × V)) (k : κ) (v : V) : List (κ × V) :=
  if (kvs.any fun kv => decide (kv.1 = k)) = true then kvs.map (fun kv => if kv.1 = k then (kv.1, v) else kv) else kvs ++ [(k, v)]
noncomputable def dropK (kvs : List (κ × V)) (k : κ) : List (κ × V) := kvs.filter fun kv => decide (kv.1 ≠ k)
end
noncomputable abbrev KT (H : Hp) : List (List Key × V) → List (List Key × Addr × Value) → Prop := Paired fun p q => p.1 = q.1 ∧ H q.2.1 = some (.tup (p.1.map kV)) ∧ RelV p.2 q.2.2
noncomputable def DGet (H : Hp) (a : Addr) (y : V) (r : Option V) : Prop :=
  (∃ kvs k, Rd H a (.dK kvs) ∧ y = kV k ∧ r = valV kvs k) ∨ ∃ kvs k b, Rd H a (.dT kvs) ∧ y = .ref b ∧ H b = some (.tup (k.map kV)) ∧ r = valV kvs k
noncomputable def DPut (H : Hp) (a : Addr) (y v : V) (H' : Hp) : Prop :=
  (∃ kvs k, H a = some (.dK kvs) ∧ y = kV k ∧ kvs.length < sizeLine ∧ H' = upd H a (.dK (putK kvs k v))) ∨
  ∃ kvs k b, H a = some (.dT kvs) ∧ y = .ref b ∧ H b = some (.tup (k.map kV)) ∧ kvs.length < sizeLine ∧ H' = upd H a (.dT (putK kvs k v))
noncomputable def NoSl (i : Expr) : Prop := ∀ ov iv, subscripted i false ov iv = operate [ov, iv] (getItem ov iv)
noncomputable def tDGet (td ty : TE) : TE := fun σ H Q => td σ H fun x H1 => ty σ H1 fun y H2 => ∃ a v, x = .ref a ∧ DGet H2 a y (some v) ∧ Q v H2
noncomputable def tDIn (ty td : TE) : TE := fun σ H Q => ty σ H fun y H1 => td σ H1 fun x H2 => ∃ a o, x = .ref a ∧ DGet H2 a y o ∧ Q (.bl o.isSome) H2
noncomputable def tDNotIn (ty td : TE) : TE := fun σ H Q => ty σ H fun y H1 => td σ H1 fun x H2 => ∃ a o, x = .ref a ∧ DGet H2 a y o ∧ Q (.bl (!o.isSome)) H2
noncomputable def sDPut (td ty tv : TE) : TS := fun D σ H => tv σ H fun v H1 => td σ H1 fun x H2 => ty σ H2 fun y H3 => ∃ a H4, x = .ref a ∧ DPut H3 a y v H4 ∧ D.nx σ H4
noncomputable def sDAug (td ty tv : TE) (rd : V → V → Hp → VK → Prop) : TS := fun D σ H => td σ H fun x H1 => ty σ H1 fun y H2 => ∃ a v, x = .ref a ∧ DGet H2 a y (some v) ∧
  tv σ H2 fun y2 H3 => rd v y2 H3 fun z H4 => ∃ H5, DPut H4 a y z H5 ∧ D.nx σ H5
noncomputable def sDDel (td ty : TE) : TS := fun D σ H => td σ H fun x H1 => ty σ H1 fun y H2 => ∃ a kvs k, x = .ref a ∧ H2 a = some (.dK kvs) ∧ y = kV k ∧ (valV kvs k).isSome = true ∧ D.nx σ (upd H2 a (.dK (dropK kvs k)))
noncomputable def tDNewK : TE := fun _ H Q => ∀ p, H p = none → Q (.ref p) (upd H p (.dK []))
noncomputable def tDNewT : TE := fun _ H Q => ∀ p, H p = none → Q (.ref p) (upd H p (.dT []))
noncomputable def tPairs : List (TE × TE) → St → Hp → (List (V × V) → Hp → Prop) → Prop
  | [], _, H, Q => Q [] H
  | (tk, tv) :: r, σ, H, Q => tk σ H fun x H1 => tv σ H1 fun y H2 => tPairs r σ H2 fun ps H3 => Q ((x, y) :: ps) H3
noncomputable abbrev VV : List (V × V) → List (Value × Value) → Prop := Paired fun p q => RelV p.1 q.1 ∧ RelV p.2 q.2
noncomputable def PPs (X : Cx) (pos : Pos) (keys : List (Option Expr)) (values : List Expr) (trs : List (TE × TE)) : Prop :=
  ∀ (pins : List (Addr × Obj)) (s : Shared) (σ : St) (H : Hp) (Q : List (V × V) → Hp → Prop), Inv X pins σ H s → tPairs trs σ H Q →
    wpAny (model X.prog X.w) X.A (evalPairs (pairTrees keys values X.env pos)) (fun vs s' => ∃ ps H', Inv X pins σ H' s' ∧ VV ps vs ∧ Q ps H') X.xe s
noncomputable def mergeK (kvs more : List (Key × V)) : List (Key × V) := more.foldl (fun acc kv => putK acc kv.1 kv.2) kvs
noncomputable def tDisp (trs : List (TE × TE)) : TE := fun σ H Q => ∀ p, H p = none → tPairs trs σ (upd H p (.dK [])) fun ps H2 => H2 p = some (.dK []) ∧ ∃ kvs : List (Key × V), ps = kvs.map (fun kv => (kV kv.1, kv.2)) ∧ kvs.length ≤ 15 ∧ Q (.ref p) (upd H2 p (.dK (mergeK [] kvs)))
structure M1 (X : Cx) (o : Expr) (m : Str) (apos : Pos) (e : Expr) (cpos : Pos) : Prop where
  base : attributeBase o m X.env (eval o X.env) = eval o X.env
  few : ((backTo cpos (starEach [e] X.env)).all (fun x => !x.1) && (backToKw cpos (keywordEach [] X.env)).all (fun x => x.1.isSome)
    && decide (([e] : List Expr).length + ([] : List Keyword).length + (if ([] : List Keyword).isEmpty then 0 else 1) < 30)) = true
  line : (apos.endLine == cpos.line) = true
  trees : backTo cpos (starEach [e] X.env) = [(false, eval e X.env)]
structure M2 (X : Cx) (o : Expr) (m : Str) (apos : Pos) (e f : Expr) (cpos : Pos) : Prop where
  base : attributeBase o m X.env (eval o X.env) = eval o X.env
  few : ((backTo cpos (starEach [e, f] X.env)).all (fun x => !x.1) && (backToKw cpos (keywordEach [] X.env)).all (fun x => x.1.isSome)
    && decide (([e, f] : List Expr).length + ([] : List Keyword).length + (if ([] : List Keyword).isEmpty then 0 else 1) < 30)) = true
  line : (apos.endLine == cpos.line) = true
  trees : backTo cpos (starEach [e, f] X.env) = [(false, eval e X.env), (false, eval f X.env)]
noncomputable def IsD (H : Hp) (a : Addr) : Prop := (∃ kvs, Rd H a (.dK kvs)) ∨ ∃ kvs, Rd H a (.dT kvs)
noncomputable def tDGet1 (td ty : TE) : TE := fun σ H Q => td σ H fun x H1 => ∃ a, x = .ref a ∧ IsD H1 a ∧ ty σ H1 fun y H2 => ∃ o, DGet H2 a y o ∧ Q (o.getD .non) H2
noncomputable def tDGet2 (td ty tx : TE) : TE := fun σ H Q => td σ H fun x H1 => ∃ a, x = .ref a ∧ IsD H1 a ∧ ty σ H1 fun y H2 => tx σ H2 fun z H3 => ∃ o, DGet H3 a y o ∧ Q (o.getD z) H3
noncomputable def tDPop1 (td ty : TE) : TE := fun σ H Q => td σ H fun x H1 => ∃ a, x = .ref a ∧ IsD H1 a ∧ ty σ H1 fun y H2 => ∃ kvs k v, H2 a = some (.dK kvs) ∧ y = kV k ∧ valV kvs k = some v ∧ Q v (upd H2 a (.dK (dropK kvs k)))
noncomputable def tDPop2 (td ty tx : TE) : TE := fun σ H Q => td σ H fun x H1 => ∃ a, x = .ref a ∧ IsD H1 a ∧ ty σ H1 fun y H2 => tx σ H2 fun z H3 => ∃ kvs k, H3 a = some (.dK kvs) ∧ y = kV k ∧
  (∀ v, valV kvs k = some v → Q v (upd H3 a (.dK (dropK kvs k)))) ∧ (valV kvs k = none → Q z H3)
end L2
namespace L2
open PySem
noncomputable def clGo (env : Env) : List (Str × NameKind) → List (Str × Addr) → List (Str × Addr)
  | [], cs => cs
  | (n, k) :: r, cs => clGo env r (if k == .free then (n, (env.cells.lookup n).getD 0) :: cs else cs)
noncomputable def clOf (scope : Scope) (env : Env) : List (Str × Addr) := clGo env scope.names []
theorem closureFor_eq {scope : Scope} {env : Env} (h : ∀ x ∈ scope.names, x.2 = .free → ∃ c, env.cells.lookup x.1 = some c) : closureFor scope env = pure (clOf scope env) := by
  unfold closureFor clOf
  have key : ∀ (l : List (Str × NameKind)) (cs : List (Str × Addr)), (∀ x ∈ l, x.2 = .free → ∃ c, env.cells.lookup x.1 = some c) →
      (forIn l cs (fun x (r : List (Str × Addr)) => match x with
        | (name, kind) => if (kind == NameKind.free) = true then do let a ← cellOf env name; pure (ForInStep.yield ((name, a) :: r)) else pure (ForInStep.yield r)) : Sem (List (Str × Addr))) = pure (clGo env l cs) := by
    intro l
    induction l with
    | nil => intro cs _; rfl
    | cons x r ih =>
      intro cs hx
      obtain ⟨n, k⟩ := x
      rw [List.forIn_cons]
      by_cases hk : (k == NameKind.free) = true
      · obtain ⟨c, hc⟩ := hx (n, k) List.mem_cons_self (by simpa using hk)
        have e : cellOf env n = pure c := by unfold cellOf; rw [show env.cells.lookup n = some c from hc]
        simp only [hk, if_true, e, pure_bind]
        rw [ih _ fun y hy => hx y (List.mem_cons_of_mem _ hy)]
        have hc' : env.cells.lookup n = some c := hc
        simp only [clGo, hk, if_true, hc', Option.getD_some]
      · simp only [hk, Bool.false_eq_true, if_false, pure_bind]
        rw [ih _ fun y hy => hx y (List.mem_cons_of_mem _ hy)]
        simp only [clGo, hk, Bool.false_eq_true, if_false]
  have := key scope.names [] h
  dsimp only
  rw [this]
  rfl
theorem clGo_mem (env : Env) : ∀ (l : List (Str × NameKind)) (cs : List (Str × Addr)) (p : Str × Addr), p ∈ clGo env l cs → p ∈ cs ∨ ((p.1, NameKind.free) ∈ l ∧ p.2 = (env.cells.lookup p.1).getD 0)
  | [], cs, p, h => .inl h
  | (n, k) :: r, cs, p, h => by
    unfold clGo at h
    rcases clGo_mem env r _ p h with h | ⟨h1, h2⟩
    · by_cases hk : (k == NameKind.free) = true
      · rw [if_pos hk] at h
        rcases List.mem_cons.mp h with h | h
        · have e : k = .free := by simpa using hk
          subst h; subst e
          exact .inr ⟨List.mem_cons_self, rfl⟩
        · exact .inl h
      · rw [if_neg hk] at h; exact .inl h
    · exact .inr ⟨List.mem_cons_of_mem _ h1, h2⟩
theorem clGo_has (env : Env) : ∀ (l : List (Str × NameKind)) (cs : List (Str × Addr)) (n : Str), ((n, NameKind.free) ∈ l ∨ ∃ a, (n, a) ∈ cs) → ∃ a, (n, a) ∈ clGo env l cs
  | [], cs, n, h => by
    rcases h with h | h
    · cases h
    · exact h
  | (m, k) :: r, cs, n, h => by
    unfold clGo
    refine clGo_has env r _ n ?_
    rcases h with h | ⟨a, h⟩
    · rcases List.mem_cons.mp h with h | h
      · cases h
        exact .inr ⟨_, by rw [if_pos (by simp)]; exact List.mem_cons_self⟩
      · exact .inl h
    · refine .inr ⟨a, ?_⟩
      split
      · exact List.mem_cons_of_mem _ h
      · exact h
theorem lookup_of_mem_some {β : Type} : ∀ {l : List (Str × β)} {n : Str} {a : β}, (n, a) ∈ l → ∃ b, l.lookup n = some b
  | [], _, _, h => by cases h
  | (m, b) :: r, n, a, h => by
    rw [List.lookup_cons]
    by_cases e : n = m
    · subst e; simp
    · have hb : (n == m) = false := by simpa using e
      rw [hb]
      rcases List.mem_cons.mp h with h | h
      · cases h; exact absurd rfl e
      · exact lookup_of_mem_some h
theorem clOf_in {scope : Scope} {env : Env} (h : ∀ x ∈ scope.names, x.2 = .free → ∃ c, env.cells.lookup x.1 = some c) {x : Str} {c : Addr} (e : (clOf scope env).lookup x = some c) : env.cells.lookup x = some c := by
  have m := PySem.mem_of_lookup e
  rcases clGo_mem env scope.names [] (x, c) m with h' | ⟨h1, h2⟩
  · cases h'
  · obtain ⟨d, hd⟩ := h _ h1 rfl
    have hd' : env.cells.lookup x = some d := hd
    have h2' : c = (env.cells.lookup x).getD 0 := h2
    rw [hd'] at h2' ⊢
    rw [h2']; rfl
theorem clOf_has {scope : Scope} {env : Env} {x : Str} (h : (x, NameKind.free) ∈ scope.names) : ∃ c, (clOf scope env).lookup x = some c := by
  obtain ⟨a, ha⟩ := clGo_has env scope.names [] x (.inl h)
  exact lookup_of_mem_some ha
end L2
namespace L2
open PySem PySem.Spec PyProof.Rows
structure CompSc (X : Cx) (scope : Scope) (N' : List Str) (mp : List (Option Nat)) : Prop where
  kind : scope.kind = .function
  nocell : ∀ x ∈ scope.names, x.2 ≠ .cell
  names : ∀ x ∈ scope.names, x.2 = .local → scope.names.lookup x.1 = some .local
  fr : ∀ x ∈ scope.names, x.2 = .free → X.env.scope.names.lookup x.1 = some .cell ∨ X.env.scope.names.lookup x.1 = some .free
  len : mp.length = N'.length
  map : ∀ (i : Nat) (x : Str) (j : Nat), N'[i]? = some x → mp[i]? = some (some j) → X.N[j]? = some x ∧ (x, NameKind.free) ∈ scope.names ∧ ((relabel scope X.env).names.lookup x = some .cell ∨ (relabel scope X.env).names.lookup x = some .free)
noncomputable def inSt (mp : List (Option Nat)) (σ : St) : St := mp.map fun o => o.bind fun j => (σ[j]?).join
noncomputable def compCx (X : Cx) (scope : Scope) (N' : List Str) (s : Shared) (H : Hp) (fp : List Addr) : Cx :=
  { X with N := N', s₀ := s, H₀ := H, env := compEnvC scope (clOf scope X.env) s.heap.objs.size X.env, outer := X.stack, ex := fp, fn := fun _ => false, pn := [], xe := fun _ _ => False }
theorem relabel_free {scope : Scope} {env : Env} {x : Str} (nc : ∀ y ∈ scope.names, y.2 ≠ .cell) (h : (relabel scope env).names.lookup x = some .cell ∨ (relabel scope env).names.lookup x = some .free) : (x, NameKind.free) ∈ scope.names := by
  have m : ∃ k, (x, k) ∈ (relabel scope env).names ∧ (k = .cell ∨ k = .free) := by
    rcases h with h | h
    · exact ⟨_, PySem.mem_of_lookup h, .inl rfl⟩
    · exact ⟨_, PySem.mem_of_lookup h, .inr rfl⟩
  obtain ⟨k, hm, hk⟩ := m
  unfold relabel at hm
  obtain ⟨⟨n, k'⟩, hin, e⟩ := List.mem_map.mp hm
  dsimp only at e
  split at e
  · rename_i hc
    have e1 : n = x := congrArg Prod.fst e
    have e2 : k' = .free := by
      have := (Bool.and_eq_true_iff.mp (Bool.and_eq_true_iff.mp hc).1).1
      simpa using this
    rw [← e1, ← e2]; exact hin
  · have e1 : n = x := congrArg Prod.fst e
    have e2 : k' = k := congrArg Prod.snd e
    rcases hk with hk | hk
    · exact absurd (e2.trans hk) (nc _ hin)
    · rw [← e1, ← hk, ← e2]; exact hin
section
variable {X : Cx} {pins : List (Addr × Obj)} {σ : St} {H : Hp} {s : Shared} {scope : Scope} {N' : List Str} {mp : List (Option Nat)} {fp : List Addr}
theorem CompSc.cells (ck : CompSc X scope N' mp) (ok : X.Ok) : ∀ x ∈ scope.names, x.2 = .free → ∃ c, X.env.cells.lookup x.1 = some c := fun x hx hf => ok.has x.1 (ck.fr x hx hf)
theorem Inv.inner (I : Inv X pins σ H s) (ck : CompSc X scope N' mp) (hf : ∀ b ∈ fp, FpOk X pins H b) (hlt : ∀ b ∈ fp, b < s.heap.objs.size) {h₁ : Heap} {tk : Nat}
    (hn : h₁.Ns s.heap.objs.size (fun _ => none)) (hk : ∀ b o, s.heap.get? b = some o → h₁.get? b = some o) :
    Inv (compCx X scope N' s H fp) [] (inSt mp σ) H { s with heap := h₁, toks := tk } := by
  have hfree := ck.cells I.ok
  have cin : ∀ x c, (clOf scope X.env).lookup x = some c → X.env.cells.lookup x = some c := fun x c e => clOf_in hfree e
  have clt : ∀ x c, X.env.cells.lookup x = some c → c < s.heap.objs.size := fun x c e => by
    obtain ⟨v, q⟩ := I.cell x c e
    exact q.lt
  refine ⟨⟨I.ok.mod, ck.kind, I.ok.glob, I.ok.blt, Nat.le_refl _, fun x y c h1 h2 => I.ok.inj x y c (cin x c h1) (cin y c h2), fun x hx => ?_, fun x c h _ => ?_, I.ok.hd, I.ok.frames, .inl rfl, fun b hb => ⟨?_, fun x c e => ?_⟩, I.bs, Nat.le_trans I.ok.bsz I.sz, fun b o e hb => ?_, fun b hb hs => ?_, I.stack, I.stkFree⟩,
    rfl, I.bare, Un.kept hk, ⟨_, hn, fun i x v h1 h2 h3 => ?_⟩, fun x c e => ?_, I.hok.fresh (Nat.le_refl _), fun x c e => ?_, fun p hp => absurd (show p ∈ ([] : List (Addr × Obj)) from hp) (by simp), I.hok.kept hk, ?_⟩
  · exact clOf_has (relabel_free ck.nocell hx)
  · exact absurd (show false = true from h) (by decide)
  · exact Nat.ne_of_lt (hlt b hb)
  · exact (hf b hb).2.2.2.2.1 x c (cin x c e)
  · have q := (hf b hb).2.2.2.1
    rcases q with q | q
    · exact I.ok.noex b o e q
    · exact absurd (Nat.lt_of_lt_of_le (Heap.lt_size e) (Nat.le_trans I.ok.bsz q)) (Nat.lt_irrefl _)
  · rcases List.mem_cons.mp (I.stkSub b hs) with z | z
    · exact (hf b hb).2.1 z
    · exact (hf b hb).2.2.1 z
  · have hi : ∃ j, mp[i]? = some (some j) ∧ σ[j]? = some (some v) := by
      unfold inSt at h2
      rw [List.getElem?_map] at h2
      cases q : mp[i]? with
      | none => rw [q] at h2; cases h2
      | some o =>
        rw [q] at h2
        have h2' : (o.bind fun j => (σ[j]?).join) = some v := Option.some.inj h2
        cases o with
        | none => cases h2'
        | some j =>
          have h2'' : (σ[j]?).join = some v := h2'
          refine ⟨j, rfl, ?_⟩
          cases r : σ[j]? with
          | none => rw [r] at h2''; cases h2''
          | some w' =>
            rw [r] at h2''
            have : w' = some v := h2''
            rw [this]
    obtain ⟨j, hj, hσ⟩ := hi
    obtain ⟨m1, m2, m3⟩ := ck.map i x j h1 hj
    obtain ⟨m, hm, hl⟩ := I.loc
    have vis : Vis X.env.scope x := by
      rcases ck.fr _ m2 rfl with q | q
      · exact .inr (.inl q)
      · exact .inr (.inr q)
    obtain ⟨u, ru, l⟩ := hl j x v m1 hσ vis
    refine ⟨u, ru, .inr ⟨m3, ?_⟩⟩
    obtain ⟨c, hc⟩ := clOf_has (env := X.env) m2
    refine ⟨c, hc, ?_⟩
    rcases l with ⟨k, _⟩ | ⟨_, c', e', z⟩
    · rcases ck.fr _ m2 rfl with q | q
      · have k' : X.env.scope.names.lookup x = some .local := k
        have q' : X.env.scope.names.lookup x = some .cell := q
        rw [k'] at q'; cases q'
      · have k' : X.env.scope.names.lookup x = some .local := k
        have q' : X.env.scope.names.lookup x = some .free := q
        rw [k'] at q'; cases q'
    · have e2 := cin x c hc
      rw [e'] at e2
      cases e2
      obtain ⟨o, ho, hd⟩ := z
      exact ⟨o, hk _ o ho, hd⟩
  · obtain ⟨v, o, ho, hd⟩ := I.cell x c (cin x c e)
    exact ⟨v, o, hk _ o ho, hd⟩
  · exact I.freeC x c (cin x c e)
  · show (inSt mp σ).length = N'.length
    unfold inSt
    rw [List.length_map]
    exact ck.len
theorem Inv.outer {σ' : St} {H' : Hp} {s' : Shared} (I : Inv X pins σ H s) (hf : ∀ b ∈ fp, FpOk X pins H b) (J : Inv (compCx X scope N' s H fp) [] σ' H' s') : Inv X pins σ H' s' :=
  I.call' (ch := fp) J.os J.base J.hok J.bare fun b hb => ⟨(hf b hb).2.2.2.1, (hf b hb).2.1, (hf b hb).2.2.2.2.1, (hf b hb).2.2.2.2.2⟩
end
noncomputable def KeepsSt (σ σ' : St) : Prop := σ'.length = σ.length ∧ ∀ (i : Nat) v, σ[i]? = some (some v) → σ'[i]? = some (some v)
noncomputable def PTs (X : Cx) (ifs : List Expr) (t : TT) : Prop :=
  ∀ (pins : List (Addr × Obj)) (s : Shared) (σ : St) (H : Hp) (Q : Bool → Hp → Prop), Inv X pins σ H s → t σ H Q →
    wpAny (model X.prog X.w) X.A (forIn ifs true fun c r => if r = true then do let ok ← isTrue c X.env (eval c X.env); pure (ForInStep.yield ok) else pure (ForInStep.yield r)) (TP X pins σ Q) X.xe s
theorem pts_nil {X : Cx} : PTs X [] (fun _ H Q => Q true H) := fun _ _ _ H _ I h => wpAny_tests_nil ⟨H, I, h⟩
theorem pts_one {X : Cx} {c : Expr} {t : TT} (hc : PT X c t) : PTs X [c] t := fun pins s σ H Q I h => wpAny_tests_one (hc pins s σ H Q I h)
noncomputable def CompW (J : It) (σ' : St) (g : TG) (tt : TT) (te : TE) (D : Addr) (Fin : Hp → Prop) (H1 : Hp) : Prop :=
  ∃ W : Nat → Nat → Hp → Prop, (∃ m, W 0 m (upd H1 D (.lst []))) ∧ ∀ i m H, W i m H →
    (J.stop i H ∧ Fin H) ∨ (J.go i H ∧ ∃ Nx : Hp → Prop, (∀ H', Nx H' → ∃ m', m' < m ∧ W (i + 1) m' H') ∧ ∀ x H', J.yld i H x H' → g x σ' H' fun σ2 H2 => KeepsSt σ' σ2 ∧
      tt σ2 H2 fun ok H3 => if ok = true then te σ2 H3 fun y H4 => ∃ ys, H4 D = some (.lst ys) ∧ ys.length < sizeLine ∧ Nx (upd H4 D (.lst (ys ++ [y]))) else Nx H3)
noncomputable def tComp (mp : List (Option Nat)) (wi : TI) (g : TG) (tt : TT) (te : TE) : TE := fun σ H Q => wi σ H fun J H1 => ∀ D, H1 D = none → CompW J (inSt mp σ) g tt te D (fun H => Q (.ref D) H) H1
theorem codeAny_compLoop_gen {prog : Program} {w : World} {A : Around} {R : Result → Shared → Prop} {s : Shared} {elt target iter : Expr} {ifs : List Expr} {scope : Scope} {pos : Pos} {it acc : Value} {env : Env} (I : Nat → Shared → Prop)
    (turn : ∀ n s, I n s → wpAny (model prog w) A (pyNext it) (fun r s₁ => match r with
      | none => R (.ok .next) s₁
      | some v => wpAny (model prog w) A (letOwnedTupleGo target it v) (fun _ s₀ => wpAny (model prog w) A (assign target env v) (fun _ s₂ =>
          wpAny (model prog w) A (forIn ifs true fun c r => if r = true then do let ok ← isTrue c env (eval c env); pure (ForInStep.yield ok) else pure (ForInStep.yield r)) (fun ok s₃ =>
            if ok = true then wpAny (model prog w) A (eval elt env) (fun x s₄ =>
              wpAny (model prog w) A (call (.builtin "list.append") [acc, x]) (fun _ s₅ => ∃ m, m < n ∧ I m s₅) (fun _ _ => False) s₄) (fun _ _ => False) s₃
            else ∃ m, m < n ∧ I m s₃) (fun _ _ => False) s₂) (fun _ _ => False) s₀) (fun _ _ => False) s₁) (fun _ _ => False) s)
    (n : Nat) (h : I n s) :
    codeAny (model prog w) A (.compLoop (.ListComp elt [⟨target, iter, ifs, 0⟩] scope pos) 0 it acc env) R s := by
  refine codeAny_loop rfl I (fun n s hI => ?_) n h
  show wpAny _ A ((compTurn (.ListComp elt [⟨target, iter, ifs, 0⟩] scope pos) 0 it acc env).onRaise (fun x => do noteFrame x env; theTreesLotGoes x)) _ _ s
  refine wpAny_noted ?_
  rw [compTurn_list]
  have no : ∀ {P : Value → Shared → Prop} (e : Value) (s' : Shared), False → P e s' := fun _ _ f => f.elim
  refine wpAny_bind (wpAny_standAt (wpAny_bind (wpAny_mono (turn n s hI) (fun r s₁ h₁ => ?_) no)))
  cases r with
  | none => exact wpAny_pure h₁
  | some v =>
    refine wpAny_bind (wpAny_mono h₁ (fun _ s₀ h₀ => ?_) no)
    refine wpAny_bind (wpAny_mono h₀ (fun _ s₂ h₂ => wpAny_bind (wpAny_mono h₂ (fun ok s₃ h₃ => ?_) no)) no)
    cases ok with
    | false => exact wpAny_pure ⟨rfl, h₃⟩
    | true =>
      exact wpAny_bind (wpAny_bind (wpAny_mono h₃ (fun x s₄ h₄ => wpAny_bind (wpAny_mono h₄ (fun _ s₅ h₅ => wpAny_pure (wpAny_pure ⟨rfl, h₅⟩)) no)) no))
section
variable {X : Cx} {elt iter tg : Expr} {ifs : List Expr} {scope : Scope} {pos : Pos} {N' : List Str} {mp : List (Option Nat)} {wi : TI} {g : TG} {tt : TT} {te : TE}
theorem comp_block {pins : List (Addr × Obj)} {σ : St} {H : Hp} {s : Shared} {J : It} {it : Addr} {fp : List Addr} {tn : Nat → Heap → Prop} {Fin : Hp → Prop} {E : Value → Shared → Prop} {RR : Value → Addr → Result → Shared → Prop}
    (hc : X.calm = true) (ck : CompSc X scope N' mp) (hb : ∀ s H fp, PG (compCx X scope N' s H fp) tg g ∧ PTs (compCx X scope N' s H fp) ifs tt ∧ PE (compCx X scope N' s H fp) elt te)
    (I : Inv X pins σ H s) (T : Turn X.prog X.w X.K tg J fp it tn) (st : tn 0 s.heap) (hf : ∀ b ∈ fp, FpOk X pins H b) (hq : CompW J (inSt mp σ) g tt te s.heap.objs.size Fin H)
    (hRR : ∀ (C : Addr) (s' : Shared) (H' : Hp), Inv X pins σ H' s' → Fin H' → (∃ m, s'.heap.Ns C m) → H' C = none → C ≠ X.env.locals → X.s₀.heap.objs.size ≤ C → (∀ x c, X.env.cells.lookup x = some c → c ≠ C) → (∀ p ∈ X.pn ++ pins, p.1 ≠ C) → RR (.ref s.heap.objs.size) C (.ok .next) s') :
    wpAny (model X.prog X.w) X.A (newList []) (fun acc s₃ => wpAny (model X.prog X.w) X.A (newFunctionEnv scope X.env.globals (clOf scope X.env) [] X.env.qual none .none (some X.env)) (fun cenv s₄ =>
      codeAny (model X.prog X.w) X.A (.compStart (.ListComp elt [⟨tg, iter, ifs, 0⟩] scope pos) 0 (.ref it) acc { cenv with scope := relabel scope X.env }) (RR acc cenv.locals) s₄) E s₃) E s := by
  refine wpAny_newObj_type (wpAny_newFunctionEnv ck.nocell (by intro y hy; simp at hy) (fun h₁ hns₁ hsb₁ => ?_) ck.kind)
  dsimp only at hns₁ hsb₁ ⊢
  have I3 : Inv X pins σ (upd H s.heap.objs.size (.lst [])) { s with heap := s.heap.push { cls := .type "list", dict := none, data := .seq ([] : List Value).toArray } } := I.lnew (its := []) (t' := s.toks) .nil (Nat.zero_le _)
  generalize hs3 : ({ s with heap := s.heap.push { cls := .type "list", dict := none, data := .seq ([] : List Value).toArray } } : Shared) = s3 at I3
  have e3 : s.heap.push { cls := .type "list", dict := none, data := .seq ([] : List Value).toArray } = s3.heap := by rw [← hs3]
  rw [e3] at hns₁ hsb₁ ⊢
  have sz3 : s3.heap.objs.size = s.heap.objs.size + 1 := by rw [← e3, Heap.size_push]
  have le3 : s.heap.objs.size ≤ s3.heap.objs.size := by rw [sz3]; exact Nat.le_succ _
  have fplt : ∀ b ∈ fp, b < s.heap.objs.size := fun b hb => by
    obtain ⟨o, e, _⟩ := T.obj 0 _ st b hb
    exact Heap.lt_size e
  have hf3 : ∀ b ∈ fp, FpOk X pins (upd H s.heap.objs.size (.lst [])) b := fun b hb => ⟨by rw [upd_ne (Nat.ne_of_lt (fplt b hb))]; exact (hf b hb).1, (hf b hb).2⟩
  have k1 : ∀ b o, s3.heap.get? b = some o → h₁.get? b = some o := fun b o e => by
    rw [hsb₁.2 b (Nat.ne_of_lt (Heap.lt_size e))]
    exact Heap.get?_push_of_some _ e
  have k0 : ∀ b o, s.heap.get? b = some o → h₁.get? b = some o := fun b o e => k1 b o (by rw [← e3]; exact Heap.get?_push_of_some _ e)
  obtain ⟨W, ⟨m0, w0⟩, turn⟩ := hq
  obtain ⟨hg, ht, he⟩ := hb s3 (upd H s.heap.objs.size (.lst [])) fp
  have no : ∀ {P : Value → Shared → Prop} (e : Value) (s' : Shared), False → P e s' := fun _ _ f => f.elim
  have stat : ∀ {H' : Hp}, (∀ b ∈ fp, H' b = none) → ∀ b ∈ fp, FpOk (compCx X scope N' s3 (upd H s.heap.objs.size (.lst [])) fp) [] H' b := fun hn b hb =>
    ⟨hn b hb, Nat.ne_of_lt (Nat.lt_of_lt_of_le (fplt b hb) le3), fun z => by
      rcases List.mem_cons.mp (I3.stkSub b z) with z | z
      · exact (hf b hb).2.1 z
      · exact (hf b hb).2.2.1 z, .inl hb, fun x c e => (hf b hb).2.2.2.2.1 x c (clOf_in (ck.cells I.ok) e), fun p hp => absurd (show p ∈ ([] : List (Addr × Obj)) from hp) (by simp)⟩
  have loop : ∀ tk : Nat, codeAny (model X.prog X.w) X.A (.compLoop (.ListComp elt [⟨tg, iter, ifs, 0⟩] scope pos) 0 (.ref it) (.ref s.heap.objs.size) (compEnvC scope (clOf scope X.env) s3.heap.objs.size X.env))
      (RR (.ref s.heap.objs.size) s3.heap.objs.size) { s3 with heap := h₁, toks := tk } := by
    intro tk
    have I4 : Inv (compCx X scope N' s3 (upd H s.heap.objs.size (.lst [])) fp) [] (inSt mp σ) (upd H s.heap.objs.size (.lst [])) { s3 with heap := h₁, toks := tk } :=
      I3.inner ck hf3 (fun b hb => Nat.lt_of_lt_of_le (fplt b hb) le3) (by simpa using hns₁) k1
    refine codeAny_compLoop_gen (fun n s' => ∃ i H', Inv (compCx X scope N' s3 (upd H s.heap.objs.size (.lst [])) fp) [] (inSt mp σ) H' s' ∧ tn i s'.heap ∧ (∀ b ∈ fp, H' b = none) ∧ W i n H') ?_ m0
      ⟨0, _, I4, T.keep _ _ _ st fun b _ o e => k0 b o e, fun b hb => (hf3 b hb).1, w0⟩
    rintro n s5 ⟨i, H5, I5, st5, fr5, w5⟩
    rcases turn i n H5 w5 with ⟨stop, fin⟩ | ⟨go, Nx, hN, step⟩
    · refine thn (T.done (compCx X scope N' s3 (upd H s.heap.objs.size (.lst [])) fp) rfl rfl rfl hc i [] s5 (inSt mp σ) H5 _ I5 (stat fr5) st5 stop) fun r s6 ⟨hr, I6⟩ => ?_
      subst hr
      have IO : Inv X pins σ H5 s6 := I3.outer hf3 I6
      obtain ⟨m, hm, _⟩ := I6.loc
      refine hRR _ s6 H5 IO fin ⟨m, hm⟩ I6.free (Nat.ne_of_gt I3.lt) I3.sz (fun x c e => ?_) fun p hp => ?_
      · obtain ⟨v, q⟩ := I3.cell x c e
        exact Nat.ne_of_lt q.lt
      · exact Nat.ne_of_lt (Heap.lt_size (I3.pin p hp).1)
    · refine thn (T.item (compCx X scope N' s3 (upd H s.heap.objs.size (.lst [])) fp) rfl rfl rfl hc i [] s5 (inSt mp σ) H5 _ I5 (stat fr5) st5 go) fun r s6 ⟨u, hr, h6⟩ => ?_
      subst hr
      refine thn h6 fun _ s7 ⟨x, H7, I7, r7, y7, st7, fr7⟩ => ?_
      have I7' := I7.pinned (stat fr7) (T.obj _ _ st7)
      have back : ∀ {σ9 : St} {H9 : Hp} {s9 : Shared}, Inv (compCx X scope N' s3 (upd H s.heap.objs.size (.lst [])) fp) ([] ++ pinsAt fp s7.heap) σ9 H9 s9 → KeepsSt (inSt mp σ) σ9 → Nx H9 →
          ∃ m, m < n ∧ ∃ i H', Inv (compCx X scope N' s3 (upd H s.heap.objs.size (.lst [])) fp) [] (inSt mp σ) H' s9 ∧ tn i s9.heap ∧ (∀ b ∈ fp, H' b = none) ∧ W i m H' := fun {σ9 H9 s9} I9 ks n9 => by
        obtain ⟨m', hm, w9⟩ := hN H9 n9
        refine ⟨m', hm, i + 1, H9, (Inv.unpinned (pins := []) I9).weak ks.1.symm ks.2, T.keep _ _ _ st7 fun b hb o e => (I9.pin (b, o) (List.mem_append_right _ (List.mem_append_right _ (mem_pinsAt hb e)))).1, fun b hb => ?_, w9⟩
        obtain ⟨o, e, d⟩ := T.obj _ _ st7 b hb
        exact (I9.pin (b, o) (List.mem_append_right _ (List.mem_append_right _ (mem_pinsAt hb e)))).2.1
      refine thn (hg _ s7 (inSt mp σ) H7 x u _ I7' r7 (step x H7 y7)) fun _ s8 ⟨σ8, H8, I8, ks, q8⟩ => ?_
      refine thn (ht _ s8 σ8 H8 _ I8 q8) fun ok s9 ⟨H9, I9, q9⟩ => ?_
      cases ok with
      | false =>
        rw [if_neg Bool.false_ne_true] at q9 ⊢
        exact back I9 ks q9
      | true =>
        rw [if_pos rfl] at q9 ⊢
        refine thn (he _ s9 σ8 H9 _ I9 q9) fun y s10 ⟨yv, H10, I10, r10, ys, hD, hlen, nx⟩ => ?_
        refine thn (mt_append _ s10 σ8 H10 (.ref s.heap.objs.size) [yv] (.ref s.heap.objs.size) [y] (fun _ H' => Nx H') I10 rfl (.cons r10 .nil) ⟨_, ys, yv, rfl, rfl, hD, hlen, nx⟩) fun z s11 ⟨zv, H11, I11, _, n11⟩ => ?_
        exact back I11 ks n11
  subst hs3
  exact codeAny_compStart_list (loop _) (T.self _ 0 _ _ _ (T.keep _ _ _ st fun b _ o e => k0 b o e) (loop _))
theorem pe_comp (hc : X.calm = true) (ck : CompSc X scope N' mp) (hi : PI X tg iter wi)
    (hb : ∀ s H fp, PG (compCx X scope N' s H fp) tg g ∧ PTs (compCx X scope N' s H fp) ifs tt ∧ PE (compCx X scope N' s H fp) elt te)
    (hs : ∀ x, foldedSetIterable iter X.env x = pure x := by intro _; rfl) : PE X (.ListComp elt [⟨tg, iter, ifs, 0⟩] scope pos) (tComp mp wi g tt te) := by
  intro pins s σ H Q I h
  rw [eval_ListComp]
  refine wpAny_comprehension_free (use := none) rfl hs (closureFor_eq (ck.cells I.ok)) ck.kind ck.names ?_
  refine thn (hi pins s σ H _ I h) fun v s1 h1 => thn h1 fun itv s2 h2 => ?_
  obtain ⟨it, fp, tn, J, H2, e, I2, T, st2, f2, q2⟩ := h2
  subst e
  refine comp_block hc ck hb I2 T st2 f2 (q2 _ (I2.hok.fresh (Nat.le_refl _))) fun C s' H' I' fin hm hC h1 h2 h3 h4 => ?_
  obtain ⟨m, hm⟩ := hm
  refine ⟨m, hm, fun h' sb => ⟨.ref _, H', ?_, rfl, fin⟩⟩
  exact I'.turned (t' := s'.toks) (fun b o hb e => (sb.2 b hb).trans e) hC h1 (.inr h2) h3 h4
theorem ps_setComp {i : Nat} {y : Str} {py spos : Pos} (hc : X.calm = true) (hN : X.N.Nodup) (hiy : X.N[i]? = some y) (hy : X.env.scope.names.lookup y = some .local) (ck : CompSc X scope N' mp) (hi : PI X tg iter wi)
    (hb : ∀ s H fp, PG (compCx X scope N' s H fp) tg g ∧ PTs (compCx X scope N' s H fp) ifs tt ∧ PE (compCx X scope N' s H fp) elt te)
    (hsw : swapsWith (.ListComp elt [⟨tg, iter, ifs, 0⟩] scope pos) (some (.Name y py)) spos.line X.env = pure true := by rfl)
    (hs : ∀ x, foldedSetIterable iter X.env x = pure x := by intro _; rfl) :
    PS X (.Assign [.Name y py] (.ListComp elt [⟨tg, iter, ifs, 0⟩] scope pos) spos) (tAsg (tComp mp wi g tt te) (gName i)) := by
  intro pins s σ H D I h
  rw [exec_Assign_Name_used _ _ _ _ hsw]
  refine wpAny_bind (wpAny_standAt (wpAny_bind ?_))
  show wpAny _ X.A (do let _ ← comprehension (.ListComp elt [⟨tg, iter, ifs, 0⟩] scope pos) scope X.env _ (newList []) false (eval iter X.env) (some (assign (.Name y py) X.env))) _ _ s
  refine wpAny_bind (wpAny_mono (wpAny_comprehension_free (use := some (assign (.Name y py) X.env)) (Q := fun _ s' => SP X pins D .next s') rfl hs (closureFor_eq (ck.cells I.ok)) ck.kind ck.names ?_) (fun _ s' hq => wpAny_pure (wpAny_pure hq)) fun _ _ e => e)
  refine thn (hi pins s σ H _ I h) fun v s1 h1 => thn h1 fun itv s2 h2 => ?_
  obtain ⟨it, fp, tn, J, H2, e, I2, T, st2, f2, q2⟩ := h2
  subst e
  refine comp_block hc ck hb I2 T st2 f2 (q2 _ (I2.hok.fresh (Nat.le_refl _))) fun C s' H' I' fin hm hC h1 h2 h3 h4 => ?_
  obtain ⟨m, hm⟩ := hm
  refine wpAny_assign_Name (store_ok2 (v := .ref s2.heap.objs.size) I' hN hiy (.inl hy) rfl (fun s'' I'' ⟨a, sb, ha⟩ => ?_) (.inr hy))
  have hCa : C ≠ a := by
    rcases ha with ha | ha
    · rw [ha]; exact h1
    · exact fun z => h3 _ _ ha z.symm
  refine ⟨m, hm.sameBut sb hCa, fun h' sb' => ⟨_, H', ?_, fin⟩⟩
  exact I''.turned (t' := s''.toks) (fun b o hb e => (sb'.2 b hb).trans e) hC h1 (.inr h2) h3 h4
end
end L2
namespace L2.PU
open PySem PySem.Spec PyProof.Rows
noncomputable def nst : Expr → Bool
  | .Starred _ _ => false
  | _ => true
theorem star_of {e : Expr} {es : List Expr} {env : Env} (h : nst e = true) : starEach (e :: es) env = (false, eval e env) :: starEach es env := by
  cases e <;> first | rfl | cases h
theorem plain_of {pos : Pos} {env : Env} : ∀ {es : List Expr}, es.all nst = true → (backTo pos (starEach es env)).any (·.1) = false
  | [], _ => rfl
  | e :: es, h => by
    rw [List.all_cons, Bool.and_eq_true] at h
    rw [star_of h.1]
    show (false || (backTo pos (starEach es env)).any (·.1)) = false
    rw [plain_of h.2]; rfl
noncomputable def kD : Key → PyData
  | .inl i => .int i
  | .inr x => .str x
mutual
noncomputable def Rel (K : PySem.W.Frag) (F : Hp) : PyData → V → Prop
  | .none, v => v = .non
  | .bool b, v => v = .bl b
  | .int i, v => v = .int i
  | .str x, v => v = .str x
  | .tuple ds, v => ∃ a xs, v = .ref a ∧ SqT K F a xs ∧ RelL K F ds xs
  | .list ds, v => ∃ a xs, v = .ref a ∧ SqL K F a xs ∧ RelL K F ds xs
  | .dict es, v => ∃ a ks, v = .ref a ∧ Rd F a (.dK ks) ∧ RelD K F es ks
noncomputable def RelL (K : PySem.W.Frag) (F : Hp) : List PyData → List V → Prop
  | [], xs => xs = []
  | d :: ds, xs => ∃ x r, xs = x :: r ∧ Rel K F d x ∧ RelL K F ds r
noncomputable def RelD (K : PySem.W.Frag) (F : Hp) : List (PyData × PyData) → List (Key × V) → Prop
  | [], ks => ks = []
  | (d, e) :: es, ks => ∃ k x r, ks = (k, x) :: r ∧ d = kD k ∧ Rel K F e x ∧ RelD K F es r
end
section
variable {K : PySem.W.Frag} {F F' H H' : Hp}
theorem same_seqT {a : Addr} {xs : List V} (e : Same H H') (h : SqT K H a xs) : SqT K H' a xs := by
  rcases h with (h | ⟨o, h⟩) | h
  · exact .inl (.inl (e _ _ h))
  · exact .inl (.inr ⟨o, e _ _ h⟩)
  · exact .inr h
theorem rd_mono {a : Addr} {u : HO} (e : Same F F') (h : Rd F a u) : Rd F' a u := h.elim (fun h => .inl (e _ _ h)) fun ⟨o, h⟩ => .inr ⟨o, e _ _ h⟩
theorem same_new {p : Addr} (h : H p = none) (o : HO) : Same H (upd H p o) := fun b u q => by rw [upd_ne (ne_of_none q h)]; exact q
mutual
theorem Rel.mono (e : Same F F') : ∀ {d : PyData} {v : V}, Rel K F d v → Rel K F' d v
  | .none, v, h => by unfold Rel at h ⊢; exact h
  | .bool b, v, h => by unfold Rel at h ⊢; exact h
  | .int i, v, h => by unfold Rel at h ⊢; exact h
  | .str x, v, h => by unfold Rel at h ⊢; exact h
  | .tuple ds, v, h => by
    unfold Rel at h ⊢
    obtain ⟨a, xs, h1, h2, h3⟩ := h
    exact ⟨a, xs, h1, same_seqT e h2, RelL.mono e h3⟩
  | .list ds, v, h => by
    unfold Rel at h ⊢
    obtain ⟨a, xs, h1, h2, h3⟩ := h
    exact ⟨a, xs, h1, e.seq h2, RelL.mono e h3⟩
  | .dict es, v, h => by
    unfold Rel at h ⊢
    obtain ⟨a, ks, h1, h2, h3⟩ := h
    exact ⟨a, ks, h1, rd_mono e h2, RelD.mono e h3⟩
theorem RelL.mono (e : Same F F') : ∀ {ds : List PyData} {xs : List V}, RelL K F ds xs → RelL K F' ds xs
  | [], xs, h => by unfold RelL at h ⊢; exact h
  | d :: ds, xs, h => by
    unfold RelL at h ⊢
    obtain ⟨x, r, h1, h2, h3⟩ := h
    exact ⟨x, r, h1, Rel.mono e h2, RelL.mono e h3⟩
theorem RelD.mono (e : Same F F') : ∀ {es : List (PyData × PyData)} {ks : List (Key × V)}, RelD K F es ks → RelD K F' es ks
  | [], ks, h => by unfold RelD at h ⊢; exact h
  | (d, e') :: es, ks, h => by
    unfold RelD at h ⊢
    obtain ⟨k, x, r, h1, h2, h3, h4⟩ := h
    exact ⟨k, x, r, h1, h2, Rel.mono e h3, RelD.mono e h4⟩
end
theorem rel_dct {es : List (PyData × PyData)} {a : Addr} {ks : List (Key × V)} (h : Rd F a (.dK ks)) (r : RelD K F es ks) : Rel K F (.dict es) (.ref a) := by unfold Rel; exact ⟨a, ks, rfl, h, r⟩
noncomputable def prs (kvs : List (Key × PyData)) : List (PyData × PyData) := kvs.map fun e => (kD e.1, e.2)
theorem RelL.nil : RelL K F [] [] := by unfold RelL; rfl
theorem RelL.cons {d : PyData} {ds : List PyData} {x : V} {xs : List V} (h : Rel K F d x) (t : RelL K F ds xs) : RelL K F (d :: ds) (x :: xs) := by unfold RelL; exact ⟨x, xs, rfl, h, t⟩
theorem RelL.nil_of {xs : List V} (h : RelL K F [] xs) : xs = [] := by unfold RelL at h; exact h
theorem RelL.cons_of {d : PyData} {ds : List PyData} {xs : List V} (h : RelL K F (d :: ds) xs) : ∃ x r, xs = x :: r ∧ Rel K F d x ∧ RelL K F ds r := by unfold RelL at h; exact h
theorem RelL.length : ∀ {ds : List PyData} {xs : List V}, RelL K F ds xs → xs.length = ds.length
  | [], xs, h => by rw [h.nil_of]; rfl
  | d :: ds, xs, h => by
    obtain ⟨x, r, rfl, _, h3⟩ := h.cons_of
    rw [List.length_cons, List.length_cons, RelL.length h3]
theorem RelL.append : ∀ {ds es : List PyData} {xs ys : List V}, RelL K F ds xs → RelL K F es ys → RelL K F (ds ++ es) (xs ++ ys)
  | [], es, xs, ys, h, k => by rw [h.nil_of]; exact k
  | d :: ds, es, xs, ys, h, k => by
    obtain ⟨x, r, rfl, h2, h3⟩ := h.cons_of
    exact RelL.cons h2 (RelL.append h3 k)
theorem RelL.get : ∀ {ds : List PyData} {xs : List V} {i : Nat} {d : PyData}, RelL K F ds xs → ds[i]? = some d → ∃ x, xs[i]? = some x ∧ Rel K F d x
  | [], _, _, _, _, e => by simp at e
  | d :: ds, xs, 0, _, h, e => by
    obtain ⟨x, r, rfl, h2, h3⟩ := h.cons_of
    have e' : d = _ := Option.some.inj e
    exact ⟨x, rfl, e' ▸ h2⟩
  | d :: ds, xs, i + 1, d', h, e => by
    obtain ⟨x, r, rfl, h2, h3⟩ := h.cons_of
    exact RelL.get (i := i) h3 (by simpa using e)
theorem RelL.take : ∀ {ds : List PyData} {xs : List V} (n : Nat), RelL K F ds xs → RelL K F (ds.take n) (xs.take n)
  | _, _, 0, _ => by rw [List.take_zero, List.take_zero]; exact .nil
  | [], xs, n + 1, h => by rw [h.nil_of]; exact .nil
  | d :: ds, xs, n + 1, h => by
    obtain ⟨x, r, rfl, h2, h3⟩ := h.cons_of
    exact RelL.cons h2 (RelL.take n h3)
theorem RelL.drop : ∀ {ds : List PyData} {xs : List V} (n : Nat), RelL K F ds xs → RelL K F (ds.drop n) (xs.drop n)
  | _, _, 0, h => by simpa using h
  | [], xs, n + 1, h => by rw [h.nil_of]; exact .nil
  | d :: ds, xs, n + 1, h => by
    obtain ⟨x, r, rfl, h2, h3⟩ := h.cons_of
    exact RelL.drop n h3
theorem RelL.reverse : ∀ {ds : List PyData} {xs : List V}, RelL K F ds xs → RelL K F ds.reverse xs.reverse
  | [], xs, h => by rw [h.nil_of]; exact .nil
  | d :: ds, xs, h => by
    obtain ⟨x, r, rfl, h2, h3⟩ := h.cons_of
    rw [List.reverse_cons, List.reverse_cons]
    exact RelL.append (RelL.reverse h3) (.cons h2 .nil)
theorem Rel.non {v : V} (h : Rel K F .none v) : v = .non := by unfold Rel at h; exact h
theorem Rel.bl {b : Bool} {v : V} (h : Rel K F (.bool b) v) : v = .bl b := by unfold Rel at h; exact h
theorem Rel.int {i : Int} {v : V} (h : Rel K F (.int i) v) : v = .int i := by unfold Rel at h; exact h
theorem Rel.str {x : Str} {v : V} (h : Rel K F (.str x) v) : v = .str x := by unfold Rel at h; exact h
theorem Rel.tup {ds : List PyData} {v : V} (h : Rel K F (.tuple ds) v) : ∃ a xs, v = .ref a ∧ SqT K F a xs ∧ RelL K F ds xs := by unfold Rel at h; exact h
theorem Rel.lst {ds : List PyData} {v : V} (h : Rel K F (.list ds) v) : ∃ a xs, v = .ref a ∧ SqL K F a xs ∧ RelL K F ds xs := by unfold Rel at h; exact h
theorem rel_non : Rel K F .none .non := by unfold Rel; rfl
theorem rel_bl {b : Bool} : Rel K F (.bool b) (.bl b) := by unfold Rel; rfl
theorem rel_int {i : Int} : Rel K F (.int i) (.int i) := by unfold Rel; rfl
theorem rel_str {x : Str} : Rel K F (.str x) (.str x) := by unfold Rel; rfl
theorem rel_tup {ds : List PyData} {a : Addr} {xs : List V} (h : SqT K F a xs) (r : RelL K F ds xs) : Rel K F (.tuple ds) (.ref a) := by unfold Rel; exact ⟨a, xs, rfl, h, r⟩
theorem rel_lst {ds : List PyData} {a : Addr} {xs : List V} (h : SqL K F a xs) (r : RelL K F ds xs) : Rel K F (.list ds) (.ref a) := by unfold Rel; exact ⟨a, xs, rfl, h, r⟩
theorem RelL.ints : ∀ (ns : List Int), RelL K F (ns.map PyData.int) (ns.map V.int)
  | [] => .nil
  | _ :: r => .cons rel_int (RelL.ints r)
structure Gr (F H F' H' : Hp) : Prop where
  ff : Same F F'
  hh : Same H H'
  fh : Same F' H'
  new : ∀ b, F' b ≠ none → F b ≠ none ∨ H b = none
theorem Gr.refl (h : Same F H) : Gr F H F H := ⟨.refl _, .refl _, h, fun _ q => .inl q⟩
theorem Gr.trans {F1 H1 F2 H2 : Hp} (a : Gr F H F1 H1) (b : Gr F1 H1 F2 H2) : Gr F H F2 H2 :=
  ⟨a.ff.trans b.ff, a.hh.trans b.hh, b.fh, fun c q => (b.new c q).elim (fun q => a.new c q) fun q => .inr (a.hh.free q)⟩
theorem Gr.one {p : Addr} {o : HO} (h : Same F H) (hp : H p = none) : Gr F H (upd F p o) (upd H p o) where
  ff := same_new (h.free hp) o
  hh := same_new hp o
  fh := fun b u q => by
    by_cases e : b = p
    · subst e; rw [upd_same] at q ⊢; exact q
    · rw [upd_ne e] at q ⊢; exact h _ _ q
  new := fun b q => by
    by_cases e : b = p
    · subst e; exact .inr hp
    · rw [upd_ne e] at q; exact .inl q
end
inductive Sl where
  | un
  | val (d : PyData)
  | own (ds : List PyData)
  | odc (kvs : List (Key × PyData))
  | ob (fs : Str → Option PyData)
noncomputable abbrev En := List Sl
noncomputable def isOwn : Sl → Bool
  | .own _ => true
  | .odc _ => true
  | _ => false
noncomputable def CellR (K : PySem.W.Frag) (F : Hp) : Sl → HO → Prop
  | .own ds, o => ∃ xs, o = .lst xs ∧ RelL K F ds xs
  | .odc kvs, o => ∃ ks, o = .dK ks ∧ RelD K F (prs kvs) ks
  | _, _ => False
noncomputable def ObF (K : PySem.W.Frag) (C : Addr) (F : Hp) (fs : Str → Option PyData) (xs : List (Str × V)) : Prop := ∀ f d, fs f = some d → NoAttr K C f ∧ ∃ v, xs.lookup f = some v ∧ Rel K F d v
structure EnR (K : PySem.W.Frag) (He F H : Hp) (σ : St) (η : En) : Prop where
  len : η.length = σ.length
  val : ∀ (i : Nat) d, η[i]? = some (.val d) → ∃ v, σ[i]? = some (some v) ∧ Rel K F d v
  cel : ∀ (i : Nat) sl, η[i]? = some sl → isOwn sl = true → ∃ p o, σ[i]? = some (some (.ref p)) ∧ F p = none ∧ He p = none ∧ H p = some o ∧ CellR K F sl o
  apart : ∀ (i j : Nat) a b, η[i]? = some a → η[j]? = some b → isOwn a = true → isOwn b = true → i ≠ j → σ[i]? ≠ σ[j]?
  obs : ∀ (i : Nat) fs, η[i]? = some (.ob fs) → ∃ p C dx xs, σ[i]? = some (some (.ref p)) ∧ H p = some (.ins C dx xs) ∧ Cls K C ∧ ObF K C F fs xs
structure Bd where
  F : Hp
  H : Hp
structure SR (K : PySem.W.Frag) (B : Bd) (F H : Hp) (σ : St) (η : En) : Prop where
  gr : Gr B.F B.H F H
  en : EnR K B.H F H σ η
section
variable {K : PySem.W.Frag} {B : Bd} {F H F' H' : Hp} {σ : St} {η : En}
theorem CellR.mono (e : Same F F') : ∀ {sl : Sl} {o : HO}, CellR K F sl o → CellR K F' sl o
  | .own _, _, ⟨xs, h1, h2⟩ => ⟨xs, h1, h2.mono e⟩
  | .odc _, _, ⟨xs, h1, h2⟩ => ⟨xs, h1, h2.mono e⟩
  | .un, _, h => h.elim
  | .val _, _, h => h.elim
  | .ob _, _, h => h.elim
theorem ObF.mono {C : Addr} {fs : Str → Option PyData} {xs : List (Str × V)} (e : Same F F') (h : ObF K C F fs xs) : ObF K C F' fs xs := fun f d q => let ⟨a, v, b, c⟩ := h f d q; ⟨a, v, b, c.mono e⟩
theorem CellR.noins {sl : Sl} {o : HO} (h : CellR K F sl o) (C dx : Addr) (xs : List (Str × V)) : o ≠ .ins C dx xs := by
  cases sl with
  | own ds => obtain ⟨ys, rfl, _⟩ := h; intro z; cases z
  | odc ds => obtain ⟨ys, rfl, _⟩ := h; intro z; cases z
  | un => exact h.elim
  | val _ => exact h.elim
  | ob _ => exact h.elim
theorem EnR.own {He : Hp} (r : EnR K He F H σ η) (i : Nat) (ds : List PyData) (e : η[i]? = some (.own ds)) : ∃ p xs, σ[i]? = some (some (.ref p)) ∧ F p = none ∧ He p = none ∧ H p = some (.lst xs) ∧ RelL K F ds xs := by
  obtain ⟨p, o, h1, h2, h3, h4, xs, rfl, h5⟩ := r.cel i _ e rfl
  exact ⟨p, xs, h1, h2, h3, h4, h5⟩
theorem EnR.odc {He : Hp} (r : EnR K He F H σ η) (i : Nat) (kvs : List (Key × PyData)) (e : η[i]? = some (.odc kvs)) : ∃ p ks, σ[i]? = some (some (.ref p)) ∧ F p = none ∧ He p = none ∧ H p = some (.dK ks) ∧ RelD K F (prs kvs) ks := by
  obtain ⟨p, o, h1, h2, h3, h4, xs, rfl, h5⟩ := r.cel i _ e rfl
  exact ⟨p, xs, h1, h2, h3, h4, h5⟩
theorem EnR.grow {He : Hp} (r : EnR K He F H σ η) (g : Gr F H F' H') : EnR K He F' H' σ η where
  len := r.len
  val := fun i d e => let ⟨v, e1, e2⟩ := r.val i d e; ⟨v, e1, e2.mono g.ff⟩
  cel := fun i sl e hs => by
    obtain ⟨p, o, e1, e2, e3, e4, e5⟩ := r.cel i sl e hs
    refine ⟨p, o, e1, ?_, e3, g.hh _ _ e4, e5.mono g.ff⟩
    cases q : F' p with
    | none => rfl
    | some o =>
      rcases g.new p (by rw [q]; simp) with z | z
      · exact absurd e2 z
      · rw [e4] at z; cases z
  apart := r.apart
  obs := fun i fs e => let ⟨p, C, dx, xs, e1, e2, e3, e4⟩ := r.obs i fs e; ⟨p, C, dx, xs, e1, g.hh _ _ e2, e3, e4.mono g.ff⟩
theorem SR.grow (r : SR K B F H σ η) (g : Gr F H F' H') : SR K B F' H' σ η := ⟨r.gr.trans g, r.en.grow g⟩
theorem SR.same (r : SR K B F H σ η) : Same F H := r.gr.fh
theorem EnR.set {He : Hp} (r : EnR K He F H σ η) (i : Nat) {d : PyData} {v : V} (h : Rel K F d v) : EnR K He F H (σ.set i (some v)) (η.set i (.val d)) where
  len := by rw [List.length_set, List.length_set]; exact r.len
  val := fun j d' e => by
    by_cases hj : i = j
    · subst hj
      by_cases hl : i < η.length
      · rw [List.getElem?_set_self hl] at e
        have e' : d = d' := by injection (Option.some.inj e)
        subst e'
        exact ⟨v, by rw [List.getElem?_set_self (by rw [← r.len]; exact hl)], h⟩
      · rw [List.getElem?_eq_none (by rw [List.length_set]; omega)] at e; cases e
    · rw [List.getElem?_set_ne hj] at e ⊢; exact r.val j d' e
  cel := fun j sl e hs => by
    by_cases hj : i = j
    · subst hj
      by_cases hl : i < η.length
      · rw [List.getElem?_set_self hl] at e
        have e' : Sl.val d = sl := Option.some.inj e
        subst e'
        cases hs
      · rw [List.getElem?_eq_none (by rw [List.length_set]; omega)] at e; cases e
    · rw [List.getElem?_set_ne hj] at e ⊢; exact r.cel j sl e hs
  apart := fun j k a b ej ek ha hb hjk => by
    have no : ∀ (j : Nat) a, (η.set i (.val d))[j]? = some a → isOwn a = true → i ≠ j := fun j a ej ha hj => by
      subst hj
      by_cases hl : i < η.length
      · rw [List.getElem?_set_self hl] at ej
        have e' : Sl.val d = a := Option.some.inj ej
        subst e'
        cases ha
      · rw [List.getElem?_eq_none (by rw [List.length_set]; omega)] at ej; cases ej
    have nj := no j a ej ha
    have nk := no k b ek hb
    rw [List.getElem?_set_ne nj] at ej ⊢
    rw [List.getElem?_set_ne nk] at ek ⊢
    exact r.apart j k a b ej ek ha hb hjk
  obs := fun j fs e => by
    by_cases hj : i = j
    · subst hj
      by_cases hl : i < η.length
      · rw [List.getElem?_set_self hl] at e; cases e
      · rw [List.getElem?_eq_none (by rw [List.length_set]; omega)] at e; cases e
    · rw [List.getElem?_set_ne hj] at e ⊢; exact r.obs j fs e
theorem EnR.setCell {He : Hp} (r : EnR K He F H σ η) (i : Nat) {sl : Sl} {p : Addr} {o : HO} (hsl : isOwn sl = true) (h1 : F p = none) (h2 : He p = none) (h3 : H p = some o) (h4 : CellR K F sl o)
    (h5 : ∀ (j : Nat), σ[j]? = some (some (.ref p)) → ∀ a, η[j]? = some a → isOwn a = false) : EnR K He F H (σ.set i (some (.ref p))) (η.set i sl) where
  len := by rw [List.length_set, List.length_set]; exact r.len
  val := fun j d' e => by
    by_cases hj : i = j
    · subst hj
      by_cases hl : i < η.length
      · rw [List.getElem?_set_self hl] at e
        have e' : sl = .val d' := Option.some.inj e
        subst e'
        cases hsl
      · rw [List.getElem?_eq_none (by rw [List.length_set]; omega)] at e; cases e
    · rw [List.getElem?_set_ne hj] at e ⊢; exact r.val j d' e
  cel := fun j a e ha => by
    by_cases hj : i = j
    · subst hj
      by_cases hl : i < η.length
      · rw [List.getElem?_set_self hl] at e
        have e' : sl = a := Option.some.inj e
        subst e'
        exact ⟨p, o, by rw [List.getElem?_set_self (by rw [← r.len]; exact hl)], h1, h2, h3, h4⟩
      · rw [List.getElem?_eq_none (by rw [List.length_set]; omega)] at e; cases e
    · rw [List.getElem?_set_ne hj] at e ⊢; exact r.cel j a e ha
  apart := fun j k a b ej ek ha hb hjk => by
    by_cases hj : i = j
    · subst hj
      have hl : i < η.length := by
        by_cases hl : i < η.length
        · exact hl
        · rw [List.getElem?_eq_none (by rw [List.length_set]; omega)] at ej; cases ej
      rw [List.getElem?_set_ne hjk] at ek ⊢
      rw [List.getElem?_set_self (by rw [← r.len]; exact hl)]
      exact fun z => by rw [h5 k z.symm b ek] at hb; cases hb
    · by_cases hk : i = k
      · subst hk
        have hl : i < η.length := by
          by_cases hl : i < η.length
          · exact hl
          · rw [List.getElem?_eq_none (by rw [List.length_set]; omega)] at ek; cases ek
        rw [List.getElem?_set_ne hj] at ej ⊢
        rw [List.getElem?_set_self (by rw [← r.len]; exact hl)]
        exact fun z => by rw [h5 j z a ej] at ha; cases ha
      · rw [List.getElem?_set_ne hj] at ej ⊢
        rw [List.getElem?_set_ne hk] at ek ⊢
        exact r.apart j k a b ej ek ha hb hjk
  obs := fun j fs e => by
    by_cases hj : i = j
    · subst hj
      by_cases hl : i < η.length
      · rw [List.getElem?_set_self hl] at e
        have e' : sl = .ob fs := Option.some.inj e
        subst e'
        cases hsl
      · rw [List.getElem?_eq_none (by rw [List.length_set]; omega)] at e; cases e
    · rw [List.getElem?_set_ne hj] at e ⊢; exact r.obs j fs e
theorem EnR.setOwn {He : Hp} (r : EnR K He F H σ η) (i : Nat) {ds : List PyData} {p : Addr} {xs : List V} (h1 : F p = none) (h2 : He p = none) (h3 : H p = some (.lst xs)) (h4 : RelL K F ds xs)
    (h5 : ∀ (j : Nat), σ[j]? = some (some (.ref p)) → ∀ a, η[j]? = some a → isOwn a = false) : EnR K He F H (σ.set i (some (.ref p))) (η.set i (.own ds)) := r.setCell i rfl h1 h2 h3 ⟨xs, rfl, h4⟩ h5
theorem EnR.notown {He : Hp} (r : EnR K He F H σ η) {p : Addr} (h : H p = none) : ∀ (j : Nat), σ[j]? = some (some (.ref p)) → ∀ a, η[j]? = some a → isOwn a = false := fun j e a z => by
  cases ha : isOwn a with
  | false => rfl
  | true =>
    obtain ⟨q, o, e1, _, _, e4, _⟩ := r.cel j a z ha
    rw [e] at e1
    have : p = q := by injection (Option.some.inj (Option.some.inj e1))
    rw [this, e4] at h; cases h
theorem EnR.putCell {He : Hp} (r : EnR K He F H σ η) {i : Nat} {sl sl' : Sl} {p : Addr} {o : HO} (hi : η[i]? = some sl) (hs : isOwn sl = true) (hs' : isOwn sl' = true) (hσ : σ[i]? = some (some (.ref p))) (h4 : CellR K F sl' o) :
    EnR K He F (upd H p o) σ (η.set i sl') where
  len := by rw [List.length_set]; exact r.len
  val := fun j d' e => by
    by_cases hj : i = j
    · subst hj
      rw [List.getElem?_set_self (List.getElem?_eq_some_iff.mp hi).1] at e
      have e' : sl' = .val d' := Option.some.inj e
      subst e'
      cases hs'
    · rw [List.getElem?_set_ne hj] at e; exact r.val j d' e
  cel := fun j a e ha => by
    by_cases hj : i = j
    · subst hj
      rw [List.getElem?_set_self (List.getElem?_eq_some_iff.mp hi).1] at e
      have e' : sl' = a := Option.some.inj e
      subst e'
      obtain ⟨q, o1, e1, e2, e3, e4, e5⟩ := r.cel i sl hi hs
      rw [hσ] at e1
      have : p = q := by injection (Option.some.inj (Option.some.inj e1))
      subst this
      exact ⟨p, o, hσ, e2, e3, upd_same, h4⟩
    · rw [List.getElem?_set_ne hj] at e
      obtain ⟨q, o1, e1, e2, e3, e4, e5⟩ := r.cel j a e ha
      refine ⟨q, o1, e1, e2, e3, ?_, e5⟩
      rw [upd_ne]
      · exact e4
      · intro z
        subst z
        exact r.apart i j sl a hi e hs ha hj (by rw [hσ, e1])
  apart := fun j k a b ej ek ha hb hjk => by
    have aa : ∀ (j : Nat) a, (η.set i sl')[j]? = some a → isOwn a = true → ∃ a', η[j]? = some a' ∧ isOwn a' = true := fun j a e ha => by
      by_cases hj : i = j
      · subst hj; exact ⟨sl, hi, hs⟩
      · rw [List.getElem?_set_ne hj] at e; exact ⟨a, e, ha⟩
    obtain ⟨a', e1, f1⟩ := aa j a ej ha
    obtain ⟨b', e2, f2⟩ := aa k b ek hb
    exact r.apart j k a' b' e1 e2 f1 f2 hjk
  obs := fun j fs e => by
    by_cases hj : i = j
    · subst hj
      rw [List.getElem?_set_self (List.getElem?_eq_some_iff.mp hi).1] at e
      have e' : sl' = .ob fs := Option.some.inj e
      subst e'
      cases hs'
    · rw [List.getElem?_set_ne hj] at e
      obtain ⟨q, C, dx, xs, e1, e2, e3, e4⟩ := r.obs j fs e
      refine ⟨q, C, dx, xs, e1, ?_, e3, e4⟩
      obtain ⟨p', o1, f1, _, _, f4, f5⟩ := r.cel i sl hi hs
      rw [hσ] at f1
      have : p = p' := by injection (Option.some.inj (Option.some.inj f1))
      subst this
      rw [upd_ne]
      · exact e2
      · intro z
        subst z
        rw [f4] at e2
        exact f5.noins _ _ _ (Option.some.inj e2)
theorem EnR.putOwn {He : Hp} (r : EnR K He F H σ η) {i : Nat} {ds es : List PyData} {p : Addr} {ys : List V} (hi : η[i]? = some (.own ds)) (hσ : σ[i]? = some (some (.ref p))) (h4 : RelL K F es ys) :
    EnR K He F (upd H p (.lst ys)) σ (η.set i (.own es)) := r.putCell hi rfl rfl hσ ⟨ys, rfl, h4⟩
theorem SR.freezeCell (r : SR K B F H σ η) {i : Nat} {sl : Sl} {d : PyData} {p : Addr} {o : HO} (hi : η[i]? = some sl) (hs : isOwn sl = true) (e1 : σ[i]? = some (some (.ref p))) (e2 : F p = none) (e3 : B.H p = none) (e4 : H p = some o) (rel : Rel K (upd F p o) d (.ref p)) :
    Same F (upd F p o) ∧ SR K B (upd F p o) H σ (η.set i (.val d)) := by
  have sn := same_new (H := F) e2 o
  refine ⟨sn, ⟨⟨r.gr.ff.trans sn, r.gr.hh, ?_, ?_⟩, ?_⟩⟩
  · intro b u q
    by_cases e : b = p
    · subst e; rw [upd_same] at q; rw [← q]; exact e4
    · rw [upd_ne e] at q; exact r.gr.fh _ _ q
  · intro b q
    by_cases e : b = p
    · subst e; exact .inr e3
    · rw [upd_ne e] at q; exact r.gr.new b q
  · refine ⟨by rw [List.length_set]; exact r.en.len, fun j d' e => ?_, fun j a e ha => ?_, fun j k a b ej ek ha hb hjk => ?_, fun j fs e => ?_⟩
    · by_cases hj : i = j
      · subst hj
        rw [List.getElem?_set_self (List.getElem?_eq_some_iff.mp hi).1] at e
        have e' : d = d' := by injection (Option.some.inj e)
        subst e'
        exact ⟨_, e1, rel⟩
      · rw [List.getElem?_set_ne hj] at e
        obtain ⟨v, q1, q2⟩ := r.en.val j d' e
        exact ⟨v, q1, q2.mono sn⟩
    · by_cases hj : i = j
      · subst hj
        rw [List.getElem?_set_self (List.getElem?_eq_some_iff.mp hi).1] at e
        have e' : Sl.val d = a := Option.some.inj e
        subst e'
        cases ha
      · rw [List.getElem?_set_ne hj] at e
        obtain ⟨q, o1, q1, q2, q3, q4, q5⟩ := r.en.cel j a e ha
        refine ⟨q, o1, q1, ?_, q3, q4, q5.mono sn⟩
        rw [upd_ne]
        · exact q2
        · intro z
          subst z
          exact r.en.apart i j sl a hi e hs ha hj (by rw [e1, q1])
    · have no : ∀ (j : Nat) a, (η.set i (.val d))[j]? = some a → isOwn a = true → i ≠ j := fun j a ej ha hj => by
        subst hj
        rw [List.getElem?_set_self (List.getElem?_eq_some_iff.mp hi).1] at ej
        have e' : Sl.val d = a := Option.some.inj ej
        subst e'
        cases ha
      have nj := no j a ej ha
      have nk := no k b ek hb
      rw [List.getElem?_set_ne nj] at ej
      rw [List.getElem?_set_ne nk] at ek
      exact r.en.apart j k a b ej ek ha hb hjk
    · by_cases hj : i = j
      · subst hj
        rw [List.getElem?_set_self (List.getElem?_eq_some_iff.mp hi).1] at e; cases e
      · rw [List.getElem?_set_ne hj] at e
        obtain ⟨q, C, dx, xs, q1, q2, q3, q4⟩ := r.en.obs j fs e
        exact ⟨q, C, dx, xs, q1, q2, q3, q4.mono sn⟩
theorem SR.freeze (r : SR K B F H σ η) {i : Nat} {ds : List PyData} (hi : η[i]? = some (.own ds)) : ∃ F' p, σ[i]? = some (some (.ref p)) ∧ Same F F' ∧ SR K B F' H σ (η.set i (.val (.list ds))) ∧ Rel K F' (.list ds) (.ref p) := by
  obtain ⟨p, xs, e1, e2, e3, e4, e5⟩ := r.en.own i ds hi
  have rel : Rel K (upd F p (.lst xs)) (.list ds) (.ref p) := rel_lst (SqL.of upd_same) (e5.mono (same_new (H := F) e2 (.lst xs)))
  obtain ⟨h1, h2⟩ := r.freezeCell hi rfl e1 e2 e3 e4 rel
  exact ⟨_, p, e1, h1, h2, rel⟩
theorem SR.freezeD (r : SR K B F H σ η) {i : Nat} {kvs : List (Key × PyData)} (hi : η[i]? = some (.odc kvs)) : ∃ F' p, σ[i]? = some (some (.ref p)) ∧ Same F F' ∧ SR K B F' H σ (η.set i (.val (.dict (prs kvs)))) ∧ Rel K F' (.dict (prs kvs)) (.ref p) := by
  obtain ⟨p, ks, e1, e2, e3, e4, e5⟩ := r.en.odc i kvs hi
  have rel : Rel K (upd F p (.dK ks)) (.dict (prs kvs)) (.ref p) := rel_dct (.inl upd_same) (e5.mono (same_new (H := F) e2 (.dK ks)))
  obtain ⟨h1, h2⟩ := r.freezeCell hi rfl e1 e2 e3 e4 rel
  exact ⟨_, p, e1, h1, h2, rel⟩
end
section
variable (K : PySem.W.Frag) (B : Bd)
noncomputable def tE (f : En → Option PyData) : TE := fun σ H Q => ∃ F η d, SR K B F H σ η ∧ f η = some d ∧ ∀ v F' H', Gr F H F' H' → Rel K F' d v → Q v H'
noncomputable def tO (f : En → Option (List PyData)) : TE := fun σ H Q => ∃ F η ds, SR K B F H σ η ∧ f η = some ds ∧ ∀ p xs F' H', Gr F H F' H' → H p = none → F' p = none → H' p = some (.lst xs) → RelL K F' ds xs → Q (.ref p) H'
noncomputable def tT (f : En → Option Bool) : TT := fun σ H Q => ∃ F η b, SR K B F H σ η ∧ f η = some b ∧ ∀ F' H', Gr F H F' H' → Q b H'
noncomputable def tA (f : En → Option (List PyData)) : TA := fun σ H Q => ∃ F η ds, SR K B F H σ η ∧ f η = some ds ∧ ∀ vs F' H', Gr F H F' H' → RelL K F' ds vs → Q vs H'
end
noncomputable def E (X : Cx) (B : Bd) (e : Expr) (f : En → Option PyData) : Prop := PE X e (tE X.K B f)
noncomputable def EO (X : Cx) (B : Bd) (e : Expr) (f : En → Option (List PyData)) : Prop := PE X e (tO X.K B f)
noncomputable def T (X : Cx) (B : Bd) (e : Expr) (f : En → Option Bool) : Prop := PT X e (tT X.K B f)
noncomputable def TW (X : Cx) (B : Bd) (e : Expr) (f : En → Option Bool) : Prop := PW X e (tT X.K B f)
noncomputable def A (X : Cx) (B : Bd) (es : List Expr) (f : En → Option (List PyData)) : Prop := PA X es (tA X.K B f)
theorem PE.imp {X : Cx} {e : Expr} {t t' : TE} (h : PE X e t) (i : ∀ σ H Q, t' σ H Q → t σ H Q) : PE X e t' := fun pins s σ H Q I q => h pins s σ H Q I (i σ H Q q)
theorem PT.imp {X : Cx} {e : Expr} {t t' : TT} (h : PT X e t) (i : ∀ σ H Q, t' σ H Q → t σ H Q) : PT X e t' := fun pins s σ H Q I q => h pins s σ H Q I (i σ H Q q)
theorem PW.imp {X : Cx} {e : Expr} {t t' : TT} (h : PW X e t) (i : ∀ σ H Q, t' σ H Q → t σ H Q) : PW X e t' := fun wh pins s σ H Q I q => h wh pins s σ H Q I (i σ H Q q)
theorem PA.imp {X : Cx} {e : List Expr} {t t' : TA} (h : PA X e t) (i : ∀ σ H Q, t' σ H Q → t σ H Q) : PA X e t' := fun pos pins s σ H Q I q => h pos pins s σ H Q I (i σ H Q q)
noncomputable def eV (i : Nat) : En → Option PyData := fun η => match η[i]? with | some (.val d) => some d | _ => none
noncomputable def eC (d : PyData) : En → Option PyData := fun _ => some d
noncomputable def l1 (o : PyData → Option PyData) (f : En → Option PyData) : En → Option PyData := fun η => (f η).bind o
noncomputable def l2 (o : PyData → PyData → Option PyData) (f g : En → Option PyData) : En → Option PyData := fun η => (f η).bind fun x => (g η).bind fun y => o x y
noncomputable def aN : En → Option (List PyData) := fun _ => some []
noncomputable def aC (f : En → Option PyData) (g : En → Option (List PyData)) : En → Option (List PyData) := fun η => (f η).bind fun x => (g η).bind fun xs => some (x :: xs)
noncomputable def lA (o : List PyData → Option PyData) (f : En → Option (List PyData)) : En → Option PyData := fun η => (f η).bind o
section
variable {X : Cx} {B : Bd} {a b c e : Expr} {es : List Expr} {f g h : En → Option PyData} {fs : En → Option (List PyData)} {pos : Pos}
theorem bind_some {α β : Type} {o : Option α} {k : α → Option β} {y : β} (h : o.bind k = some y) : ∃ x, o = some x ∧ k x = some y := by
  cases o with
  | none => cases h
  | some x => exact ⟨x, rfl, h⟩
noncomputable def Ad2 (K : PySem.W.Frag) (r : R2) (o : PyData → PyData → Option PyData) : Prop :=
  ∀ F H x y dx dy d Q, Same F H → Rel K F dx x → Rel K F dy y → o dx dy = some d → (∀ v F' H', Gr F H F' H' → Rel K F' d v → Q v H') → r x y H Q
theorem t2 {K : PySem.W.Frag} {r : R2} {o : PyData → PyData → Option PyData} (ad : Ad2 K r o) : ∀ σ H Q, tE K B (l2 o f g) σ H Q → tOp r (tE K B f) (tE K B g) σ H Q := by
  intro σ H Q ⟨F, η, d, sr, hd, q⟩
  obtain ⟨x, hx, hd⟩ := bind_some hd
  obtain ⟨y, hy, hd⟩ := bind_some hd
  refine ⟨F, η, x, sr, hx, fun v F1 H1 g1 rv => ⟨F1, η, y, sr.grow g1, hy, fun u F2 H2 g2 ru => ?_⟩⟩
  exact ad F2 H2 v u x y d Q g2.fh (rv.mono g2.ff) ru hd fun w F3 H3 g3 rw' => q w F3 H3 ((g1.trans g2).trans g3) rw'
theorem E.op {op : Operator} {r : R2} {o : PyData → PyData → Option PyData} (ho : OpR X (binaryOp op) r) (ad : Ad2 X.K r o) (ha : E X B a f) (hb : E X B b g) : E X B (.BinOp a op b pos) (l2 o f g) :=
  PE.imp (pe_op ho ha hb) (t2 ad)
theorem E.cmp {op : CmpOp} {r : R2} {o : PyData → PyData → Option PyData} (ho : OpR X (compareOp op) r) (ad : Ad2 X.K r o) (hm : behindInMarks op b = false) (ha : E X B a f) (hb : E X B b g) : E X B (.Compare a [op] [b] pos) (l2 o f g) :=
  PE.imp (pe_cmpR ho ha hb hm) (t2 ad)
theorem E.ix {r : R2} {o : PyData → PyData → Option PyData} (hr : IxR X r) (ad : Ad2 X.K r o) (ha : E X B a f) (hb : E X B b g) (hs : PlainIx b := by intro _ _; rfl) : E X B (.Subscript a b pos) (l2 o f g) :=
  PE.imp (pe_ix hr ha hb hs) (t2 ad)
theorem E.v (i : Nat) {x : Str} (hN : X.N[i]? = some x := by rfl) (hv : Vis X.env.scope x := by first | exact Or.inl rfl | exact Or.inr (Or.inl rfl) | exact Or.inr (Or.inr rfl)) (hd : (x == ("__debug__" : Str)) = false := by decide)
    (hcd : (x == ("__classdict__" : Str)) = false := by decide) : E X B (.Name x pos) (eV i) :=
  PE.imp (pe_var hN hv hd hcd) fun σ H Q ⟨F, η, d, sr, hd, q⟩ => by
    unfold eV at hd
    split at hd
    · rename_i d' e
      cases hd
      obtain ⟨v, e1, e2⟩ := sr.en.val i d e
      exact ⟨v, e1, q v F H (.refl sr.same) e2⟩
    · cases hd
theorem tC_of {K : PySem.W.Frag} {v : V} {d : PyData} (h : ∀ F, Rel K F d v) : ∀ σ H Q, tE K B (eC d) σ H Q → tC v σ H Q := fun σ H Q ⟨F, η, d', sr, hd, q⟩ => by
  have e : d = d' := Option.some.inj hd
  subst e
  exact q v F H (.refl sr.same) (h F)
theorem E.int {i : Int} {j} : E X B (.Constant (.int i) j pos) (eC (.int i)) := PE.imp pe_int (tC_of fun _ => rel_int)
theorem E.bl {i : Bool} {j} : E X B (.Constant (.bool i) j pos) (eC (.bool i)) := PE.imp pe_bl (tC_of fun _ => rel_bl)
theorem E.non {j} : E X B (.Constant .none j pos) (eC .none) := PE.imp pe_non (tC_of fun _ => rel_non)
theorem E.str {i : Str} {j} : E X B (.Constant (.str i) j pos) (eC (.str i)) := PE.imp pe_str (tC_of fun _ => rel_str)
theorem E.glob {x : Str} {v : V} {u : Value} {d : PyData} (hm : X.mg x = some u) (r : RelV v u) (h : ∀ F, Rel X.K F d v) (hg : Gl X x := by rfl) (hd : (x == ("__debug__" : Str)) = false := by decide) : E X B (.Name x pos) (eC d) :=
  PE.imp (pe_glob hg hm r hd) (tC_of h)
theorem A.nil : A X B [] aN := PA.imp pa_nil fun σ H Q ⟨F, η, d, sr, hd, q⟩ => by
  cases hd
  exact q [] F H (.refl sr.same) .nil
theorem A.cons (ha : E X B e f) (hr : A X B es fs) (hs : starEach (e :: es) X.env = (false, eval e X.env) :: starEach es X.env := by exact star_of rfl) : A X B (e :: es) (aC f fs) := PA.imp (pa_cons ha hr hs) fun σ H Q ⟨F, η, d, sr, hd, q⟩ => by
  obtain ⟨x, hx, hd⟩ := bind_some hd
  obtain ⟨y, hy, hd⟩ := bind_some hd
  cases hd
  exact ⟨F, η, x, sr, hx, fun v F1 H1 g1 rv => ⟨F1, η, y, sr.grow g1, hy, fun vs F2 H2 g2 rs => q (v :: vs) F2 H2 (g1.trans g2) (.cons (rv.mono g2.ff) rs)⟩⟩
noncomputable def gL (ds : List PyData) : Option (List PyData) := if ds.length ≤ sizeLine then some ds else none
theorem E.tup {x1} (hs : A X B es fs) : E X B (.Tuple es x1 pos) (lA (fun ds => if ds.length ≤ sizeLine then some (.tuple ds) else none) fs) := PE.imp (pe_tup hs) fun σ H Q ⟨F, η, d, sr, hd, q⟩ => by
  obtain ⟨ds, hx, hd⟩ := bind_some hd
  split at hd
  · rename_i hl
    cases hd
    refine ⟨F, η, ds, sr, hx, fun vs F1 H1 g1 rs => ⟨by rw [rs.length]; exact hl, fun p hp => ?_⟩⟩
    have g2 : Gr F1 H1 (upd F1 p (.tup vs)) (upd H1 p (.tup vs)) := Gr.one g1.fh hp
    exact q _ _ _ (g1.trans g2) (rel_tup (SqT.of upd_same) (rs.mono g2.ff))
  · cases hd
theorem EO.lst (hs : A X B es fs) : EO X B (.List es pos) (fun η => (fs η).bind gL) := PE.imp (pe_lst hs) fun σ H Q ⟨F, η, ds, sr, hd, q⟩ => by
  obtain ⟨ds', hx, hd⟩ := bind_some hd
  unfold gL at hd
  split at hd
  · rename_i hl
    cases hd
    refine ⟨F, η, ds, sr, hx, fun vs F1 H1 g1 rs => ⟨by rw [rs.length]; exact hl, fun p hp => ?_⟩⟩
    refine q p vs F1 (upd H1 p (.lst vs)) ?_ (g1.hh.free hp) (g1.fh.free hp) upd_same rs
    refine ⟨g1.ff, g1.hh.trans (same_new hp _), fun b u z => ?_, g1.new⟩
    exact same_new hp _ b u (g1.fh b u z)
  · cases hd
noncomputable def oE (f : En → Option (List PyData)) : En → Option PyData := fun η => (f η).bind fun ds => some (.list ds)
theorem EO.toE (he : EO X B e fs) : E X B e (oE fs) := PE.imp he fun σ H Q ⟨F, η, d, sr, hd, q⟩ => by
  obtain ⟨ds, hx, hd⟩ := bind_some hd
  cases hd
  refine ⟨F, η, ds, sr, hx, fun p xs F' H' g1 hp fp hp' rs => ?_⟩
  have sn := same_new (H := F') fp (.lst xs)
  refine q (.ref p) (upd F' p (.lst xs)) H' ⟨g1.ff.trans sn, g1.hh, fun b u z => ?_, fun b z => ?_⟩ (rel_lst (SqL.of upd_same) (rs.mono sn))
  · by_cases e : b = p
    · subst e; rw [upd_same] at z; rw [← z]; exact hp'
    · rw [upd_ne e] at z; exact g1.fh _ _ z
  · by_cases e : b = p
    · subst e; exact .inr hp
    · rw [upd_ne e] at z; exact g1.new b z
noncomputable def asB : PyData → Option Bool
  | .bool b => some b
  | _ => none
noncomputable def bT (f : En → Option PyData) : En → Option Bool := fun η => (f η).bind asB
theorem asB_some {d : PyData} {b : Bool} (h : asB d = some b) : d = .bool b := by
  cases d <;> simp [asB] at h
  rw [h]
theorem T.val (he : E X B e f) (hi : ∀ whole, isTrue e X.env whole = (do let v ← whole; standAt e.pos; holding [v] (truthy v)) := by intro _; rfl) : T X B e (bT f) := PT.imp (pt_val he hi) fun σ H Q ⟨F, η, b, sr, hd, q⟩ => by
  obtain ⟨x, hx, hd⟩ := bind_some hd
  obtain rfl := asB_some hd
  exact ⟨F, η, _, sr, hx, fun v F1 H1 g1 rv => ⟨b, rv.bl, q F1 H1 g1⟩⟩
theorem T.cmp {op : CmpOp} {r : R2} {o : PyData → PyData → Option PyData} (ho : OpR X (compareOp op) r) (ad : Ad2 X.K r o) (hm : behindInMarks op b = false) (ha : E X B a f) (hb : E X B b g) : T X B (.Compare a [op] [b] pos) (bT (l2 o f g)) :=
  PT.imp (pt_cmpR ho ha hb hm) fun σ H Q ⟨F, η, b, sr, hd, q⟩ => by
    obtain ⟨x, hx, hd⟩ := bind_some hd
    obtain rfl := asB_some hd
    exact t2 ad σ H _ ⟨F, η, _, sr, hx, fun v F1 H1 g1 rv => ⟨b, rv.bl, q F1 H1 g1⟩⟩
noncomputable def lch (o o' : PyData → PyData → Option PyData) (f g h : En → Option PyData) : En → Option PyData := fun η => (f η).bind fun x => (g η).bind fun y => (o x y).bind fun z => (asB z).bind fun k =>
  if k = true then (h η).bind fun w => o' y w else some (.bool false)
theorem E.chain {op op' : CmpOp} {r r' : R2} {o o' : PyData → PyData → Option PyData} (ho : OpR X (compareOp op) r) (ad : Ad2 X.K r o) (ho' : OpR X (compareOp op') r') (ad' : Ad2 X.K r' o') (ha : E X B a f) (hb : E X B b g) (hc : E X B c h)
    (hm : lastMarks [op, op'] [b, c] = false := by with_unfolding_all rfl) : E X B (.Compare a [op, op'] [b, c] pos) (lch o o' f g h) := PE.imp (pe_chain ho ho' ha hb hc hm) fun σ H Q ⟨F, η, d, sr, hd, q⟩ => by
  obtain ⟨x, hx, hd⟩ := bind_some hd
  obtain ⟨y, hy, hd⟩ := bind_some hd
  obtain ⟨z, hz, hd⟩ := bind_some hd
  obtain ⟨k, hk, hd2⟩ := bind_some hd
  clear hd
  obtain rfl := asB_some hk
  have hd := hd2
  refine ⟨F, η, x, sr, hx, fun v F1 H1 g1 rv => ⟨F1, η, y, sr.grow g1, hy, fun u F2 H2 g2 ru => ?_⟩⟩
  refine ad F2 H2 v u x y _ _ g2.fh (rv.mono g2.ff) ru hz fun w F3 H3 g3 rw' => ⟨k, rw'.bl, ?_⟩
  cases k with
  | false =>
    rw [if_neg Bool.false_ne_true] at hd ⊢
    cases hd
    exact q _ F3 H3 ((g1.trans g2).trans g3) rel_bl
  | true =>
    rw [if_pos rfl] at hd ⊢
    obtain ⟨w2, hw2, hd⟩ := bind_some hd
    refine ⟨F3, η, w2, (sr.grow (g1.trans g2)).grow g3, hw2, fun t F4 H4 g4 rt => ?_⟩
    exact ad' F4 H4 u t y w2 d Q g4.fh (ru.mono (g3.ff.trans g4.ff)) rt hd fun w5 F5 H5 g5 r5 => q w5 F5 H5 (((g1.trans g2).trans g3).trans (g4.trans g5)) r5
noncomputable def bAnd (f g : En → Option Bool) : En → Option Bool := fun η => (f η).bind fun c => if c = true then g η else some false
noncomputable def bOr (f g : En → Option Bool) : En → Option Bool := fun η => (f η).bind fun c => if c = true then some true else g η
noncomputable def bNot (f : En → Option Bool) : En → Option Bool := fun η => (f η).bind fun c => some (!c)
variable {p q r : En → Option Bool} {rest : List Expr}
theorem T.not (ha : T X B a p) : T X B (.UnaryOp .Not a pos) (bNot p) := PT.imp (pt_not ha) fun σ H Q ⟨F, η, b, sr, hd, q⟩ => by
  obtain ⟨x, hx, hd⟩ := bind_some hd
  cases hd
  exact ⟨F, η, x, sr, hx, q⟩
theorem TW.t (h : TW X B a p) : T X B a p := PW.pt h
theorem TW.and1 (ha : T X B a p) : TW X B (.BoolOp .And [a] pos) p := pw_and1 ha
theorem TW.or1 (ha : T X B a p) : TW X B (.BoolOp .Or [a] pos) p := pw_or1 ha
theorem TW.and (ha : T X B a p) (hb : TW X B (.BoolOp .And (b :: rest) pos) q) : TW X B (.BoolOp .And (a :: b :: rest) pos) (bAnd p q) := PW.imp (pw_and ha hb) fun σ H Q ⟨F, η, b, sr, hd, k⟩ => by
  obtain ⟨x, hx, hd⟩ := bind_some hd
  refine ⟨F, η, x, sr, hx, fun F1 H1 g1 => ?_⟩
  cases x with
  | false =>
    rw [if_neg Bool.false_ne_true] at hd ⊢
    cases hd
    exact k F1 H1 g1
  | true =>
    rw [if_pos rfl] at hd ⊢
    exact ⟨F1, η, b, sr.grow g1, hd, fun F2 H2 g2 => k F2 H2 (g1.trans g2)⟩
theorem TW.or (ha : T X B a p) (hb : TW X B (.BoolOp .Or (b :: rest) pos) q) : TW X B (.BoolOp .Or (a :: b :: rest) pos) (bOr p q) := PW.imp (pw_or ha hb) fun σ H Q ⟨F, η, b, sr, hd, k⟩ => by
  obtain ⟨x, hx, hd⟩ := bind_some hd
  refine ⟨F, η, x, sr, hx, fun F1 H1 g1 => ?_⟩
  cases x with
  | false =>
    rw [if_neg Bool.false_ne_true] at hd ⊢
    exact ⟨F1, η, b, sr.grow g1, hd, fun F2 H2 g2 => k F2 H2 (g1.trans g2)⟩
  | true =>
    rw [if_pos rfl] at hd ⊢
    cases hd
    exact k F1 H1 g1
noncomputable def vAnd (f g : En → Option PyData) : En → Option PyData := fun η => (f η).bind fun x => (asB x).bind fun c => if c = true then g η else some (.bool false)
noncomputable def vOr (f g : En → Option PyData) : En → Option PyData := fun η => (f η).bind fun x => (asB x).bind fun c => if c = true then some (.bool true) else g η
noncomputable def vNot (f : En → Option PyData) : En → Option PyData := fun η => (f η).bind fun x => (asB x).bind fun c => some (.bool (!c))
theorem E.one {op} (ha : E X B a f) : E X B (.BoolOp op [a] pos) f := pe_one ha
theorem E.and (ha : E X B a f) (hb : E X B (.BoolOp .And (b :: rest) pos) g) : E X B (.BoolOp .And (a :: b :: rest) pos) (vAnd f g) := PE.imp (pe_and ha hb) fun σ H Q ⟨F, η, b, sr, hd, k⟩ => by
  obtain ⟨x, hx, hd⟩ := bind_some hd
  obtain ⟨c, hc, hd2⟩ := bind_some hd
  clear hd
  obtain rfl := asB_some hc
  have hd := hd2
  refine ⟨F, η, _, sr, hx, fun v F1 H1 g1 rv => ⟨c, rv.bl, ?_⟩⟩
  cases c with
  | false =>
    rw [if_neg Bool.false_ne_true] at hd ⊢
    cases hd
    exact k _ F1 H1 g1 rel_bl
  | true =>
    rw [if_pos rfl] at hd ⊢
    exact ⟨F1, η, b, sr.grow g1, hd, fun u F2 H2 g2 => k u F2 H2 (g1.trans g2)⟩
theorem E.not (ha : E X B a f) : E X B (.UnaryOp .Not a pos) (vNot f) := PE.imp (pe_not ha) fun σ H Q ⟨F, η, b, sr, hd, k⟩ => by
  obtain ⟨x, hx, hd⟩ := bind_some hd
  obtain ⟨c, hc, hd2⟩ := bind_some hd
  clear hd
  obtain rfl := asB_some hc
  have hd := hd2
  cases hd
  exact ⟨F, η, _, sr, hx, fun v F1 H1 g1 rv => ⟨c, rv.bl, k _ F1 H1 g1 rel_bl⟩⟩
noncomputable def vIf (c : En → Option Bool) (f g : En → Option PyData) : En → Option PyData := fun η => (c η).bind fun c => if c = true then f η else g η
theorem E.ifE (hc : T X B c p) (ha : E X B a f) (hb : E X B b g) : E X B (.IfExp c a b pos) (vIf p f g) := PE.imp (pe_ifExp hc ha hb) fun σ H Q ⟨F, η, d, sr, hd, k⟩ => by
  obtain ⟨x, hx, hd⟩ := bind_some hd
  refine ⟨F, η, x, sr, hx, fun F1 H1 g1 => ?_⟩
  cases x with
  | false =>
    rw [if_neg Bool.false_ne_true] at hd ⊢
    exact ⟨F1, η, d, sr.grow g1, hd, fun u F2 H2 g2 => k u F2 H2 (g1.trans g2)⟩
  | true =>
    rw [if_pos rfl] at hd ⊢
    exact ⟨F1, η, d, sr.grow g1, hd, fun u F2 H2 g2 => k u F2 H2 (g1.trans g2)⟩
noncomputable def spP (K : PySem.W.Frag) (fn : List PyData → Option PyData) : Sp := fun vs H Q _ => ∃ F ds d, Same F H ∧ RelL K F ds vs ∧ fn ds = some d ∧ ∀ v F' H', Gr F H F' H' → Rel K F' d v → Q v H'
theorem E.call {k k' : Nat} {fa : Addr} {fd : FuncData} {ps : List Str} {x : Str} {ppos : Pos} {fn : List PyData → Option PyData} (G : FnOk X.prog X.w X.K X.mg X.base CX0 k fa fd ps (spP X.K fn)) (hr : Room k' X.A) (hkk : k ≤ k') (hm : X.mg x = some (.ref fa)) (hk : PySem.W.keepIn X.K (.ref fa) = true) (hb : Binds X.K fd ps [])
    (ha : A X B (e :: es) fs) (hg : Gl X x := by rfl) (hdb : (x == ("__debug__" : Str)) = false := by decide) (he : starEach (e :: es) X.env = (false, eval e X.env) :: starEach es X.env := by exact star_of rfl) (hpl : (backTo pos (starEach es X.env)).any (·.1) = false := by exact plain_of rfl) :
    E X B (.Call (.Name x ppos) (e :: es) [] pos) (lA fn fs) := PE.imp (pe_call G (hr.mono hkk) hg hm hk hb .nil pass0 ha hdb he hpl) fun σ H Q ⟨F, η, d, sr, hd, q⟩ => by
  obtain ⟨ds, hx, hd⟩ := bind_some hd
  refine ⟨F, η, ds, sr, hx, fun vs F1 H1 g1 rs => ?_⟩
  show spP X.K fn (vs ++ []) H1 Q E0
  rw [List.append_nil]
  exact ⟨F1, ds, d, g1.fh, rs, hd, fun v F2 H2 g2 rv => q v F2 H2 (g1.trans g2) rv⟩
end
inductive Out where
  | nx (η : En)
  | rt (d : PyData)
  | bk (η : En)
  | ct (η : En)
noncomputable def OutOk (K : PySem.W.Frag) (B : Bd) (F : Hp) (D : Ends) : Out → Prop
  | .nx η => ∀ σ' F' H', SR K B F' H' σ' η → Same F F' → D.nx σ' H'
  | .rt d => ∀ v F' H', Gr B.F B.H F' H' → Rel K F' d v → D.rt v H'
  | .bk η => ∀ σ' F' H', SR K B F' H' σ' η → Same F F' → D.bk σ' H'
  | .ct η => ∀ σ' F' H', SR K B F' H' σ' η → Same F F' → D.ct σ' H'
noncomputable def tS (K : PySem.W.Frag) (B : Bd) (f : En → Option Out) : TS := fun D σ H => ∃ F η o, SR K B F H σ η ∧ f η = some o ∧ OutOk K B F D o
noncomputable def S (X : Cx) (B : Bd) (st : Stmt) (f : En → Option Out) : Prop := PS X st (tS X.K B f)
noncomputable def Ss (X : Cx) (B : Bd) (st : List Stmt) (f : En → Option Out) : Prop := PSs X st (tS X.K B f)
theorem PS.imp {X : Cx} {e : Stmt} {t t' : TS} (h : PS X e t) (i : ∀ D σ H, t' D σ H → t D σ H) : PS X e t' := fun pins s σ H D I q => h pins s σ H D I (i D σ H q)
theorem PSs.imp {X : Cx} {e : List Stmt} {t t' : TS} (h : PSs X e t) (i : ∀ D σ H, t' D σ H → t D σ H) : PSs X e t' := fun pins s σ H D I q => h pins s σ H D I (i D σ H q)
theorem OutOk.up {K : PySem.W.Frag} {B : Bd} {F F1 : Hp} {D : Ends} {o : Out} (h : OutOk K B F D o) (s : Same F F1) : OutOk K B F1 D o := by
  cases o with
  | nx η => exact fun σ' F' H' r e => h σ' F' H' r (s.trans e)
  | rt d => exact h
  | bk η => exact fun σ' F' H' r e => h σ' F' H' r (s.trans e)
  | ct η => exact fun σ' F' H' r e => h σ' F' H' r (s.trans e)
noncomputable def sNx : En → Option Out := fun η => some (.nx η)
noncomputable def sSeq (f g : En → Option Out) : En → Option Out := fun η => (f η).bind fun o => match o with
  | .nx η' => g η'
  | o => some o
noncomputable def sRet (f : En → Option PyData) : En → Option Out := fun η => (f η).bind fun d => some (.rt d)
noncomputable def sRetN : En → Option Out := fun _ => some (.rt .none)
noncomputable def sRetO (i : Nat) : En → Option Out := fun η => match η[i]? with | some (.own ds) => some (.rt (.list ds)) | _ => none
noncomputable def sIf (c : En → Option Bool) (f g : En → Option Out) : En → Option Out := fun η => (c η).bind fun b => if b = true then f η else g η
noncomputable def sSet (i : Nat) (f : En → Option PyData) : En → Option Out := fun η => (f η).bind fun d => some (.nx (η.set i (.val d)))
noncomputable def sSetO (i : Nat) (f : En → Option (List PyData)) : En → Option Out := fun η => (f η).bind fun ds => some (.nx (η.set i (.own ds)))
noncomputable def sApp (i : Nat) (f : En → Option PyData) : En → Option Out := fun η => (f η).bind fun d => match η[i]? with
  | some (.own ds) => if ds.length < sizeLine then some (.nx (η.set i (.own (ds ++ [d])))) else none
  | _ => none
noncomputable def sExt (i : Nat) (f : En → Option (List PyData)) : En → Option Out := fun η => (f η).bind fun es => match η[i]? with
  | some (.own ds) => if ds.length + es.length ≤ sizeLine then some (.nx (η.set i (.own (ds ++ es)))) else none
  | _ => none
noncomputable def frz (i : Nat) (η : En) : En := match η[i]? with | some (.own ds) => η.set i (.val (.list ds)) | some (.odc kvs) => η.set i (.val (.dict (prs kvs))) | _ => η
section
variable {X : Cx} {B : Bd} {st : Stmt} {sts sts' : List Stmt} {u v : En → Option Out} {a b c e : Expr} {f g : En → Option PyData} {fs : En → Option (List PyData)} {p : En → Option Bool} {pos pos' : Pos}
theorem Ss.nil : Ss X B [] sNx := PSs.imp pss_nil fun D σ H ⟨F, η, o, sr, hd, q⟩ => by
  cases hd
  exact q σ F H sr (.refl _)
theorem Ss.one (h : S X B st u) : Ss X B [st] u := pss_one h
theorem Ss.cons (h : S X B st u) (k : Ss X B sts v) : Ss X B (st :: sts) (sSeq u v) := PSs.imp (pss_cons h k) fun D σ H ⟨F, η, o, sr, hd, q⟩ => by
  obtain ⟨o1, h1, hd⟩ := bind_some hd
  refine ⟨F, η, o1, sr, h1, ?_⟩
  cases o1 with
  | nx η' => exact fun σ' F' H' r e => ⟨F', η', o, r, hd, q.up e⟩
  | rt d => cases hd; exact q
  | bk η' => cases hd; exact q
  | ct η' => cases hd; exact q
theorem S.never : S X B st (fun _ => none) := PS.imp ps_never fun D σ H ⟨F, η, o, sr, hd, q⟩ => by cases hd
theorem S.ret (he : E X B e f) : S X B (.Return (some e) pos) (sRet f) := PS.imp (ps_ret he) fun D σ H ⟨F, η, o, sr, hd, q⟩ => by
  obtain ⟨d, h1, hd⟩ := bind_some hd
  cases hd
  exact ⟨F, η, d, sr, h1, fun v F' H' g rv => q v F' H' (sr.gr.trans g) rv⟩
theorem S.retO (i : Nat) {x : Str} (hN : X.N[i]? = some x := by rfl) (hv : Vis X.env.scope x := by first | exact Or.inl rfl | exact Or.inr (Or.inl rfl) | exact Or.inr (Or.inr rfl)) (hd : (x == ("__debug__" : Str)) = false := by decide)
    (hcd : (x == ("__classdict__" : Str)) = false := by decide) : S X B (.Return (some (.Name x pos')) pos) (sRetO i) := PS.imp (ps_ret (pe_var hN hv hd hcd)) fun D σ H ⟨F, η, o, sr, hd, q⟩ => by
  unfold sRetO at hd
  split at hd
  · rename_i ds e
    cases hd
    obtain ⟨F', p, e1, sf, sr', rel⟩ := sr.freeze e
    exact ⟨_, e1, q _ F' H sr'.gr rel⟩
  · cases hd
theorem S.ifS (hc : T X B c p) (ha : Ss X B sts u) (hb : Ss X B sts' v) : S X B (.If c sts sts' pos) (sIf p u v) := PS.imp (ps_if hc ha hb) fun D σ H ⟨F, η, o, sr, hd, q⟩ => by
  obtain ⟨b, h1, hd⟩ := bind_some hd
  refine ⟨F, η, b, sr, h1, fun F1 H1 g1 => ?_⟩
  cases b with
  | false =>
    rw [if_neg Bool.false_ne_true] at hd ⊢
    exact ⟨F1, η, o, sr.grow g1, hd, q.up g1.ff⟩
  | true =>
    rw [if_pos rfl] at hd ⊢
    exact ⟨F1, η, o, sr.grow g1, hd, q.up g1.ff⟩
theorem asg_of {K : PySem.W.Frag} {i : Nat} : ∀ D σ H, tS K B (sSet i f) D σ H → tAsg (tE K B f) (gName i) D σ H := fun D σ H ⟨F, η, o, sr, hd, q⟩ => by
  obtain ⟨d, h1, hd⟩ := bind_some hd
  cases hd
  refine ⟨F, η, d, sr, h1, fun v F1 H1 g1 rv => q _ F1 H1 ⟨sr.gr.trans g1, (sr.en.grow g1).set i rv⟩ g1.ff⟩
theorem asgO_of {K : PySem.W.Frag} {i : Nat} : ∀ D σ H, tS K B (sSetO i fs) D σ H → tAsg (tO K B fs) (gName i) D σ H := fun D σ H ⟨F, η, o, sr, hd, q⟩ => by
  obtain ⟨d, h1, hd⟩ := bind_some hd
  cases hd
  refine ⟨F, η, d, sr, h1, fun p xs F1 H1 g1 hp fp hp' rs => q _ F1 H1 ⟨sr.gr.trans g1, (sr.en.grow g1).setOwn i fp (sr.gr.hh.free hp) hp' rs fun j ej => sr.en.notown hp j ej⟩ g1.ff⟩
theorem S.set (i : Nat) {x : Str} (hN : X.N.Nodup) (he : E X B e f) (hi : X.N[i]? = some x := by rfl) (hx : Loc X.env.scope x := by first | exact Or.inl rfl | exact Or.inr rfl) (hs : swapsWith e (some (.Name x pos')) pos.line X.env = pure false := by rfl)
    (hf : X.fn x = true ∨ X.env.scope.names.lookup x = some .local := by first | exact .inl rfl | exact .inr rfl) : S X B (.Assign [.Name x pos'] e pos) (sSet i f) := PS.imp (ps_set hN hi hx he hs hf) asg_of
theorem S.setO (i : Nat) {x : Str} (hN : X.N.Nodup) (he : EO X B e fs) (hi : X.N[i]? = some x := by rfl) (hx : Loc X.env.scope x := by first | exact Or.inl rfl | exact Or.inr rfl) (hs : swapsWith e (some (.Name x pos')) pos.line X.env = pure false := by rfl)
    (hf : X.fn x = true ∨ X.env.scope.names.lookup x = some .local := by first | exact .inl rfl | exact .inr rfl) : S X B (.Assign [.Name x pos'] e pos) (sSetO i fs) := PS.imp (ps_set hN hi hx he hs hf) asgO_of
theorem Ss.frz (i : Nat) (h : Ss X B sts u) : Ss X B sts (fun η => u (frz i η)) := PSs.imp h fun D σ H ⟨F, η, o, sr, hd, q⟩ => by
  have hd : u (PU.frz i η) = some o := hd
  unfold PU.frz at hd
  split at hd
  · rename_i ds e
    obtain ⟨F', p, e1, sf, sr', rel⟩ := sr.freeze e
    exact ⟨F', _, o, sr', hd, q.up sf⟩
  · rename_i kvs e
    obtain ⟨F', p, e1, sf, sr', rel⟩ := sr.freezeD e
    exact ⟨F', _, o, sr', hd, q.up sf⟩
  · exact ⟨F, η, o, sr, hd, q⟩
noncomputable def ItP (K : PySem.W.Frag) (J : It) (F : Hp) (ds : List PyData) : Prop := ∀ F1 H1 (i : Nat), Same F F1 → Same F1 H1 →
  (∀ d, ds[i]? = some d → J.go i H1 ∧ ∀ x H2, J.yld i H1 x H2 → ∃ F2, Gr F1 H1 F2 H2 ∧ Rel K F2 d x) ∧ (i = ds.length → J.stop i H1)
noncomputable def tI (K : PySem.W.Frag) (B : Bd) (f : En → Option (List PyData)) : TI := fun σ H R => ∃ F η ds, SR K B F H σ η ∧ f η = some ds ∧ ∀ J F' H', Gr F H F' H' → ItP K J F' ds → R J H'
noncomputable def I (X : Cx) (B : Bd) (tg iter : Expr) (f : En → Option (List PyData)) : Prop := PI X tg iter (tI X.K B f)
theorem PI.imp {X : Cx} {tg it : Expr} {t t' : TI} (h : PI X tg it t) (i : ∀ σ H Q, t' σ H Q → t σ H Q) : PI X tg it t' := fun pins s σ H Q I q => h pins s σ H Q I (i σ H Q q)
noncomputable def TgP (K : PySem.W.Frag) (ks : List Nat) (g : TG) (t : En → PyData → Option En) : Prop := ∀ (B : Bd) F H σ η d x η', SR K B F H σ η → Rel K F d x → t η d = some η' → ∀ Q : St → Hp → Prop,
  (∀ σ' F' H', SR K B F' H' σ' η' → Gr F H F' H' → σ'.length = σ.length → (∀ i, i ∉ ks → σ'[i]? = σ[i]?) → Q σ' H') → g x σ H Q
noncomputable def tgN (i : Nat) : En → PyData → Option En := fun η d => some (η.set i (.val d))
theorem TgP.name {K : PySem.W.Frag} {i : Nat} : TgP K [i] (gName i) (tgN i) := fun B F H σ η d x η' sr rx e Q q => by
  cases e
  exact q _ F H ⟨sr.gr, sr.en.set i rx⟩ (.refl sr.same) (List.length_set ..) fun j hj => List.getElem?_set_ne (fun e => hj (by simp [e])) ..
noncomputable def TgsP (K : PySem.W.Frag) (ks : List Nat) (g : TGs) (t : En → List PyData → Option En) : Prop := ∀ (B : Bd) F H σ η ds xs η', SR K B F H σ η → RelL K F ds xs → t η ds = some η' → ∀ Q : St → Hp → Prop,
  (∀ σ' F' H', SR K B F' H' σ' η' → Gr F H F' H' → σ'.length = σ.length → (∀ i, i ∉ ks → σ'[i]? = σ[i]?) → Q σ' H') → g xs σ H Q
noncomputable def tgNil : En → List PyData → Option En := fun η ds => match ds with | [] => some η | _ => none
noncomputable def tgCons (t : En → PyData → Option En) (r : En → List PyData → Option En) : En → List PyData → Option En := fun η ds => match ds with | [] => none | d :: ds => (t η d).bind fun η1 => r η1 ds
theorem TgsP.nil {K : PySem.W.Frag} : TgsP K [] gNil tgNil := fun B F H σ η ds xs η' sr rx e Q q => by
  cases ds with
  | nil =>
    cases e
    exact ⟨rx.nil_of, q _ F H sr (.refl sr.same) rfl fun _ _ => rfl⟩
  | cons d ds => cases e
theorem TgsP.cons {K : PySem.W.Frag} {ks ls : List Nat} {g : TG} {gs : TGs} {t : En → PyData → Option En} {r : En → List PyData → Option En} (h : TgP K ks g t) (k : TgsP K ls gs r) : TgsP K (ks ++ ls) (gCons g gs) (tgCons t r) := fun B F H σ η ds xs η' sr rx e Q q => by
  cases ds with
  | nil => cases e
  | cons d ds =>
    obtain ⟨x, r', rfl, h1, h2⟩ := rx.cons_of
    obtain ⟨η1, e1, e2⟩ := bind_some e
    refine ⟨x, r', rfl, h B F H σ η d x η1 sr h1 e1 _ fun σ1 F1 H1 sr1 g1 l1 n1 => ?_⟩
    refine k B F1 H1 σ1 η1 ds r' η' sr1 (h2.mono g1.ff) e2 _ fun σ2 F2 H2 sr2 g2 l2 n2 => ?_
    exact q σ2 F2 H2 sr2 (g1.trans g2) (l2.trans l1) fun i hi => (n2 i fun z => hi (List.mem_append_right _ z)).trans (n1 i fun z => hi (List.mem_append_left _ z))
noncomputable def tgT (t : En → List PyData → Option En) : En → PyData → Option En := fun η d => match d with | .tuple ds => t η ds | _ => none
theorem TgP.tup {K : PySem.W.Frag} {ks : List Nat} {n : Nat} {g : TGs} {t : En → List PyData → Option En} (h : TgsP K ks g t) (hn : ∀ η ds η', t η ds = some η' → ds.length = n) : TgP K ks (gTup K n g) (tgT t) := fun B F H σ η d x η' sr rx e Q q => by
  cases d with
  | tuple ds =>
    obtain ⟨a, xs, rfl, hq, rs⟩ := rx.tup
    exact ⟨a, xs, rfl, same_seqT sr.same hq, by rw [rs.length]; exact hn η ds η' e, h B F H σ η ds xs η' sr rs e Q q⟩
  | none => cases e
  | bool _ => cases e
  | int _ => cases e
  | str _ => cases e
  | list _ => cases e
  | dict _ => cases e
noncomputable def sGo (t : En → PyData → Option En) (body : En → Option Out) : List PyData → En → Option Out
  | [], η => some (.nx η)
  | d :: ds, η => (t η d).bind fun η1 => (body η1).bind fun o => match o with
    | .nx η2 => sGo t body ds η2
    | .ct η2 => sGo t body ds η2
    | .bk η2 => some (.nx η2)
    | .rt d => some (.rt d)
noncomputable def sFor (it : En → Option (List PyData)) (t : En → PyData → Option En) (body : En → Option Out) : En → Option Out := fun η => (it η).bind fun ds => sGo t body ds η
theorem S.for {tg iter : Expr} {body : List Stmt} {gt : TG} {ks : List Nat} {t : En → PyData → Option En} (hp : PassesOwn (model X.prog X.w) X.A X.env X.xe) (hc : X.calm = true) (hi : I X B tg iter fs) (hg : PG X tg gt) (ht : TgP X.K ks gt t) (hb : Ss X B body u)
    (hs : ∀ x, foldedSetIterable iter X.env x = pure x := by intro _; rfl) : S X B (.For tg iter body [] pos) (sFor fs t u) := PS.imp (ps_for hp hc hi hg hb hs) fun D σ H ⟨F, η, o, sr, hd, q⟩ => by
  obtain ⟨ds, h1, hd⟩ := bind_some hd
  refine ⟨F, η, ds, sr, h1, fun J F1 H1 g1 ip => ?_⟩
  refine ⟨fun i m σ H => m = ds.length - i ∧ i ≤ ds.length ∧ ∃ Fc ηc, SR X.K B Fc H σ ηc ∧ Same F1 Fc ∧ sGo t u (ds.drop i) ηc = some o, ⟨_, rfl, Nat.zero_le _, F1, η, sr.grow g1, .refl _, by simpa using hd⟩, ?_⟩
  rintro i m σc Hc ⟨rfl, hi, Fc, ηc, src, sc, hgo⟩
  obtain ⟨ip1, ip2⟩ := ip Fc Hc i sc src.same
  by_cases hlt : i < ds.length
  · have e : ds[i]? = some ds[i] := List.getElem?_eq_getElem hlt
    obtain ⟨go, yl⟩ := ip1 _ e
    rw [List.drop_eq_getElem_cons hlt] at hgo
    unfold sGo at hgo
    obtain ⟨η1, e1, hgo⟩ := bind_some hgo
    obtain ⟨o1, e2, hgo⟩ := bind_some hgo
    have cont : ∀ (η2 : En), sGo t u (ds.drop (i + 1)) η2 = some o → ∀ σ' F' H', SR X.K B F' H' σ' η2 → Same F1 F' →
        ∃ m', m' < ds.length - i ∧ (fun i m σ H => m = ds.length - i ∧ i ≤ ds.length ∧ ∃ Fc ηc, SR X.K B Fc H σ ηc ∧ Same F1 Fc ∧ sGo t u (ds.drop i) ηc = some o) (i + 1) m' σ' H' := fun η2 h2 σ' F' H' r s =>
      ⟨ds.length - (i + 1), by omega, rfl, hlt, F', η2, r, s, h2⟩
    refine .inr ⟨go, fun σ' H' => ∃ m', m' < ds.length - i ∧ (fun i m σ H => m = ds.length - i ∧ i ≤ ds.length ∧ ∃ Fc ηc, SR X.K B Fc H σ ηc ∧ Same F1 Fc ∧ sGo t u (ds.drop i) ηc = some o) (i + 1) m' σ' H', fun σ' H' n => n, fun x H' y => ?_⟩
    obtain ⟨F2, g2, rx⟩ := yl x H' y
    refine ht B F2 H' σc ηc _ x η1 (src.grow g2) rx e1 _ fun σ3 F3 H3 sr3 g3 _ _ => ?_
    refine ⟨F3, η1, o1, sr3, e2, ?_⟩
    have s3 : Same F1 F3 := sc.trans (g2.ff.trans g3.ff)
    cases o1 with
    | nx η2 => exact fun σ' F' H' r s => cont η2 hgo σ' F' H' r (s3.trans s)
    | ct η2 => exact fun σ' F' H' r s => cont η2 hgo σ' F' H' r (s3.trans s)
    | bk η2 =>
      cases hgo
      exact fun σ' F' H' r s => q σ' F' H' r (g1.ff.trans (s3.trans s))
    | rt d =>
      cases hgo
      exact q
  · have ei : i = ds.length := by omega
    subst ei
    rw [List.drop_length] at hgo
    cases hgo
    exact .inl ⟨ip2 rfl, q σc Fc Hc src (g1.ff.trans sc)⟩
noncomputable def asL : PyData → Option (List PyData)
  | .list ds => some ds
  | _ => none
noncomputable def asTu : PyData → Option (List PyData)
  | .tuple ds => some ds
  | _ => none
noncomputable def lI (k : PyData → Option (List PyData)) (f : En → Option PyData) : En → Option (List PyData) := fun η => (f η).bind k
theorem itp_list {K : PySem.W.Frag} {F : Hp} {a : Addr} {xs : List V} {ds : List PyData} (h : SqL K F a xs) (r : RelL K F ds xs) : ItP K (Itl K a) F ds := fun F1 H1 i s1 s2 => by
  have q := s2.seq (s1.seq h)
  refine ⟨fun d e => ?_, fun e => ⟨xs, q, by rw [r.length, e]; exact Nat.le_refl _⟩⟩
  obtain ⟨x, ex, rx⟩ := r.get e
  refine ⟨⟨xs, x, q, ex⟩, fun x' H2 y => ?_⟩
  obtain ⟨e2, y⟩ := y
  subst e2
  have z := y xs q
  rw [ex] at z
  cases z
  exact ⟨F1, .refl s2, rx.mono s1⟩
theorem itp_tup {K : PySem.W.Frag} {F : Hp} {a : Addr} {xs : List V} {ds : List PyData} (h : SqT K F a xs) (r : RelL K F ds xs) : ItP K (Itt K a) F ds := fun F1 H1 i s1 s2 => by
  have q := same_seqT s2 (same_seqT s1 h)
  refine ⟨fun d e => ?_, fun e => ⟨xs, q, by rw [r.length, e]; exact Nat.le_refl _⟩⟩
  obtain ⟨x, ex, rx⟩ := r.get e
  refine ⟨⟨xs, x, q, ex⟩, fun x' H2 y => ?_⟩
  obtain ⟨e2, y⟩ := y
  subst e2
  have z := y xs q
  rw [ex] at z
  cases z
  exact ⟨F1, .refl s2, rx.mono s1⟩
theorem I.list {tg : Expr} (he : E X B e f) : I X B tg e (lI asL f) := PI.imp (pi_list he) fun σ H Q ⟨F, η, ds, sr, hd, q⟩ => by
  obtain ⟨d, h1, hd⟩ := bind_some hd
  cases d <;> simp only [asL, Option.some.injEq, reduceCtorEq] at hd
  subst hd
  refine ⟨F, η, _, sr, h1, fun v F1 H1 g1 rv => ?_⟩
  obtain ⟨a, xs, rfl, hq, rs⟩ := rv.lst
  exact ⟨a, rfl, ⟨xs, g1.fh.seq hq⟩, q _ F1 H1 g1 (itp_list hq rs)⟩
theorem I.tup {tg : Expr} (he : E X B e f) : I X B tg e (lI asTu f) := PI.imp (pi_tup he) fun σ H Q ⟨F, η, ds, sr, hd, q⟩ => by
  obtain ⟨d, h1, hd⟩ := bind_some hd
  cases d <;> simp only [asTu, Option.some.injEq, reduceCtorEq] at hd
  subst hd
  refine ⟨F, η, _, sr, h1, fun v F1 H1 g1 rv => ?_⟩
  obtain ⟨a, xs, rfl, hq, rs⟩ := rv.tup
  exact ⟨a, rfl, ⟨xs, same_seqT g1.fh hq⟩, q _ F1 H1 g1 (itp_tup hq rs)⟩
noncomputable def rngL (lo : Int) (n : Nat) : List PyData := (List.range n).map fun (k : Nat) => PyData.int (lo + k)
theorem itp_rng {K : PySem.W.Frag} {F : Hp} {lo : Int} {n : Nat} : ItP K (Itr lo n) F (rngL lo n) := fun F1 H1 i s1 s2 => by
  have hl : (rngL lo n).length = n := by unfold rngL; rw [List.length_map, List.length_range]
  refine ⟨fun d e => ?_, fun e => by show n ≤ i; omega⟩
  have hi : i < n := by rw [← hl]; exact (List.getElem?_eq_some_iff.mp e).1
  refine ⟨hi, fun x H2 y => ?_⟩
  obtain ⟨e2, e3⟩ := y
  subst e2 e3
  have : d = .int (lo + i) := by
    unfold rngL at e
    rw [List.getElem?_map, List.getElem?_range hi] at e
    exact (Option.some.inj e).symm
  subst this
  exact ⟨F1, .refl s2, rel_int⟩
noncomputable def rng1 (ds : List PyData) : Option (List PyData) := match ds with
  | [.int j] => if -(2 ^ 62) ≤ j ∧ j < 2 ^ 62 then some (rngL 0 j.toNat) else none
  | _ => none
noncomputable def rng2 (ds : List PyData) : Option (List PyData) := match ds with
  | [.int i, .int j] => if (-(2 ^ 62) ≤ i ∧ i < 2 ^ 62) ∧ (-(2 ^ 62) ≤ j ∧ j < 2 ^ 62) then some (rngL i (j - i).toNat) else none
  | _ => none
theorem I.rng1 {tg : Expr} {pp : Pos} (hm : X.mg "range" = none) (ha : A X B [a] fs) (hg : Gl X "range" := by rfl) (hs : starEach [a] X.env = [(false, eval a X.env)] := by exact star_of rfl) : I X B tg (.Call (.Name "range" pp) [a] [] pos) (fun η => (fs η).bind PU.rng1) :=
  PI.imp (pi_range1 hg hm ha hs) fun σ H Q ⟨F, η, ds, sr, hd, q⟩ => by
    obtain ⟨es, h1, hd⟩ := bind_some hd
    unfold PU.rng1 at hd
    split at hd
    · rename_i j
      split at hd
      · rename_i hj
        cases hd
        refine ⟨F, η, _, sr, h1, fun vs F1 H1 g1 rs => ?_⟩
        obtain ⟨x, r, rfl, rx, rr⟩ := rs.cons_of
        obtain rfl := rr.nil_of
        exact ⟨j, by rw [rx.int], hj.1, hj.2, q _ F1 H1 g1 itp_rng⟩
      · cases hd
    · cases hd
end
noncomputable def inEn (mp : List (Option Nat)) (η : En) : En := mp.map fun o => match o with
  | some j => (match η[j]? with | some (.val d) => .val d | some (.ob fs) => .ob fs | _ => .un)
  | none => .un
noncomputable def cGo (t : En → PyData → Option En) (p : En → Option Bool) (f : En → Option PyData) (η : En) : List PyData → Option (List PyData)
  | [] => some []
  | d :: ds => (t η d).bind fun η1 => (p η1).bind fun ok => if ok = true then (f η1).bind fun y => (cGo t p f η ds).bind fun r => some (y :: r) else cGo t p f η ds
noncomputable def sComp (mp : List (Option Nat)) (fi : En → Option (List PyData)) (t : En → PyData → Option En) (p : En → Option Bool) (f : En → Option PyData) : En → Option (List PyData) := fun η =>
  (fi η).bind fun ds => if ds.length ≤ sizeLine then cGo t p f (inEn mp η) ds else none
noncomputable def Ts (X : Cx) (B : Bd) (ifs : List Expr) (p : En → Option Bool) : Prop := PTs X ifs (tT X.K B p)
noncomputable def tTrue : En → Option Bool := fun _ => some true
section
variable {X : Cx} {B : Bd}
theorem Ts.nil : Ts X B [] tTrue := fun pins s σ H Q I ⟨F, η, b, sr, hd, q⟩ => by
  cases hd
  exact pts_nil pins s σ H Q I (q F H (.refl sr.same))
theorem Ts.one {c : Expr} {p : En → Option Bool} (h : T X B c p) : Ts X B [c] p := pts_one h
theorem inEn_no {mp : List (Option Nat)} {η : En} {i : Nat} {a : Sl} (e : (inEn mp η)[i]? = some a) : isOwn a = false := by
  unfold inEn at e
  rw [List.getElem?_map] at e
  cases q : mp[i]? with
  | none => rw [q] at e; cases e
  | some o =>
    rw [q] at e
    cases o with
    | none => cases e; rfl
    | some j =>
      have e' : (match η[j]? with | some (.val d) => Sl.val d | some (.ob fs) => .ob fs | _ => .un) = a := Option.some.inj e
      split at e' <;> (subst e'; rfl)
theorem EnR.inner {K : PySem.W.Frag} {He F H : Hp} {σ : St} {η : En} (r : EnR K He F H σ η) (mp : List (Option Nat)) : EnR K He F H (inSt mp σ) (inEn mp η) where
  len := by unfold inEn inSt; rw [List.length_map, List.length_map]
  val := fun i d e => by
    unfold inEn at e
    rw [List.getElem?_map] at e
    cases q : mp[i]? with
    | none => rw [q] at e; cases e
    | some o =>
      rw [q] at e
      cases o with
      | none => cases e
      | some j =>
        have e' : (match η[j]? with | some (.val d) => Sl.val d | some (.ob fs) => .ob fs | _ => .un) = .val d := Option.some.inj e
        split at e'
        · rename_i d' ed
          have : d' = d := by injection e'
          subst this
          obtain ⟨v, e1, e2⟩ := r.val j d' ed
          refine ⟨v, ?_, e2⟩
          unfold inSt
          rw [List.getElem?_map, q]
          show some ((σ[j]?).join) = _
          rw [e1]
          rfl
        · cases e'
        · cases e'
  obs := fun i fs e => by
    unfold inEn at e
    rw [List.getElem?_map] at e
    cases q : mp[i]? with
    | none => rw [q] at e; cases e
    | some o =>
      rw [q] at e
      cases o with
      | none => cases e
      | some j =>
        have e' : (match η[j]? with | some (.val d) => Sl.val d | some (.ob fs) => .ob fs | _ => .un) = .ob fs := Option.some.inj e
        split at e'
        · cases e'
        · rename_i d' ed
          have : d' = fs := by injection e'
          subst this
          obtain ⟨p, C, dx, xs, e1, e2⟩ := r.obs j d' ed
          refine ⟨p, C, dx, xs, ?_, e2⟩
          unfold inSt
          rw [List.getElem?_map, q]
          show some ((σ[j]?).join) = _
          rw [e1]
          rfl
        · cases e'
  cel := fun i a e ha => by rw [inEn_no e] at ha; cases ha
  apart := fun i j a b e _ ha _ _ => by rw [inEn_no e] at ha; cases ha
variable {elt iter tg : Expr} {ifs : List Expr} {scope : Scope} {pos : Pos} {N' : List Str} {mp : List (Option Nat)} {ks : List Nat} {gt : TG} {t : En → PyData → Option En} {fi : En → Option (List PyData)} {p : En → Option Bool} {f : En → Option PyData}
theorem comp_of {K : PySem.W.Frag} (ht : TgP K ks gt t) (hks : ∀ k ∈ ks, mp[k]? = some none) : ∀ σ H Q, tO K B (sComp mp fi t p f) σ H Q → tComp mp (tI K B fi) gt (tT K B p) (tE K B f) σ H Q := fun σ H Q ⟨F, η, rs, sr, hd, q⟩ => by
  obtain ⟨ds, h1, hd⟩ := bind_some hd
  split at hd
  rotate_left
  · cases hd
  rename_i hz
  refine ⟨F, η, ds, sr, h1, fun J F1 H1 g1 ip D hD => ?_⟩
  have fD : F1 D = none := g1.fh.free hD
  have kept : ∀ {σ2 : St}, σ2.length = (inSt mp σ).length → (∀ i, i ∉ ks → σ2[i]? = (inSt mp σ)[i]?) → KeepsSt (inSt mp σ) σ2 := fun {σ2} hl hn => ⟨hl, fun i v e => by
    by_cases hi : i ∈ ks
    · have z := hks i hi
      unfold inSt at e
      rw [List.getElem?_map, z] at e
      cases e
    · rw [hn i hi]; exact e⟩
  refine ⟨fun i m Hc => m = ds.length - i ∧ i ≤ ds.length ∧ ∃ Fc ys done rest, Gr F1 H1 Fc Hc ∧ Fc D = none ∧ Hc D = some (.lst ys) ∧ RelL K Fc done ys ∧ done.length ≤ i ∧ cGo t p f (inEn mp η) (ds.drop i) = some rest ∧ rs = done ++ rest,
    ⟨_, rfl, Nat.zero_le _, F1, [], [], rs, ⟨.refl _, same_new hD _, fun b u z => same_new hD _ b u (g1.fh b u z), fun b z => .inl z⟩, fD, upd_same, .nil, Nat.le_refl _, by simpa using hd, rfl⟩, ?_⟩
  rintro i m Hc ⟨rfl, hi, Fc, ys, done, rest, gc, fcD, hcD, rd, hdl, hgo, hrs⟩
  obtain ⟨ip1, ip2⟩ := ip Fc Hc i gc.ff gc.fh
  by_cases hlt : i < ds.length
  · have e : ds[i]? = some ds[i] := List.getElem?_eq_getElem hlt
    obtain ⟨go, yl⟩ := ip1 _ e
    rw [List.drop_eq_getElem_cons hlt] at hgo
    unfold cGo at hgo
    obtain ⟨η1, e1, hgo⟩ := bind_some hgo
    obtain ⟨ok, e2, hgo⟩ := bind_some hgo
    refine .inr ⟨go, fun H' => ∃ m', m' < ds.length - i ∧ (m' = ds.length - (i + 1) ∧ i + 1 ≤ ds.length ∧ ∃ Fc ys done rest, Gr F1 H1 Fc H' ∧ Fc D = none ∧ H' D = some (.lst ys) ∧ RelL K Fc done ys ∧ done.length ≤ i + 1 ∧ cGo t p f (inEn mp η) (ds.drop (i + 1)) = some rest ∧ rs = done ++ rest), fun H' n => n, fun x H' y => ?_⟩
    obtain ⟨F2, g2, rx⟩ := yl x H' y
    have sin : SR K B F2 H' (inSt mp σ) (inEn mp η) := ⟨(sr.gr.trans g1).trans (gc.trans g2), ((sr.en.grow g1).inner mp).grow (gc.trans g2)⟩
    refine ht B F2 H' (inSt mp σ) (inEn mp η) _ x η1 sin rx e1 _ fun σ3 F3 H3 sr3 g3 l3 n3 => ⟨kept l3 n3, F3, η1, ok, sr3, e2, fun F4 H4 g4 => ?_⟩
    have gall : Gr Fc Hc F4 H4 := (g2.trans g3).trans g4
    have nD : ∀ {F5 H5 : Hp}, Gr Fc Hc F5 H5 → F5 D = none := fun {F5 H5} g => by
      cases z : F5 D with
      | none => rfl
      | some o =>
        rcases g.new D (by rw [z]; simp) with w | w
        · exact absurd fcD w
        · rw [hcD] at w; cases w
    cases ok with
    | false =>
      rw [if_neg Bool.false_ne_true] at hgo
      refine iteF ?_
      exact ⟨ds.length - (i + 1), by omega, rfl, hlt, F4, ys, done, rest, gc.trans gall, nD gall, gall.hh _ _ hcD, rd.mono gall.ff, Nat.le_succ_of_le hdl, hgo, hrs⟩
    | true =>
      rw [if_pos rfl] at hgo
      refine iteT ?_
      obtain ⟨yv, e3, hgo⟩ := bind_some hgo
      obtain ⟨r, e4, hgo⟩ := bind_some hgo
      cases hgo
      refine ⟨F4, η1, yv, sr3.grow g4, e3, fun v F5 H5 g5 rv => ?_⟩
      have ga := gall.trans g5
      have h5D := ga.hh _ _ hcD
      refine ⟨ys, h5D, by rw [rd.length]; omega, ds.length - (i + 1), by omega, rfl, hlt, F5, ys ++ [v], done ++ [yv], r, ?_, nD ga, upd_same, (rd.mono ga.ff).append (.cons rv .nil), by rw [List.length_append, List.length_singleton]; omega, e4, by rw [hrs, List.append_assoc]; rfl⟩
      have gt' := gc.trans ga
      refine ⟨gt'.ff, fun b u z => ?_, fun b u z => ?_, gt'.new⟩
      · have nb : b ≠ D := ne_of_none z hD
        rw [upd_ne nb]; exact gt'.hh b u z
      · have nb : b ≠ D := ne_of_none z (nD ga)
        rw [upd_ne nb]; exact gt'.fh b u z
  · have ei : i = ds.length := by omega
    subst ei
    rw [List.drop_length] at hgo
    cases hgo
    rw [List.append_nil] at hrs
    subst hrs
    exact .inl ⟨ip2 rfl, q D ys Fc Hc (g1.trans gc) (g1.hh.free hD) fcD hcD rd⟩
theorem EO.comp (hc : X.calm = true) (ck : CompSc X scope N' mp) (ht : TgP X.K ks gt t) (hks : ∀ k ∈ ks, mp[k]? = some none) (hi : I X B tg iter fi)
    (hb : ∀ s H fp, PG (compCx X scope N' s H fp) tg gt ∧ Ts (compCx X scope N' s H fp) B ifs p ∧ E (compCx X scope N' s H fp) B elt f)
    (hs : ∀ x, foldedSetIterable iter X.env x = pure x := by intro _; rfl) : EO X B (.ListComp elt [⟨tg, iter, ifs, 0⟩] scope pos) (sComp mp fi t p f) := PE.imp (pe_comp hc ck hi hb hs) (comp_of ht hks)
theorem S.setC (i : Nat) {y : Str} {py spos : Pos} (hc : X.calm = true) (hN : X.N.Nodup) (ck : CompSc X scope N' mp) (ht : TgP X.K ks gt t) (hks : ∀ k ∈ ks, mp[k]? = some none) (hi : I X B tg iter fi)
    (hb : ∀ s H fp, PG (compCx X scope N' s H fp) tg gt ∧ Ts (compCx X scope N' s H fp) B ifs p ∧ E (compCx X scope N' s H fp) B elt f)
    (hiy : X.N[i]? = some y := by rfl) (hy : X.env.scope.names.lookup y = some .local := by rfl) (hsw : swapsWith (.ListComp elt [⟨tg, iter, ifs, 0⟩] scope pos) (some (.Name y py)) spos.line X.env = pure true := by rfl)
    (hs : ∀ x, foldedSetIterable iter X.env x = pure x := by intro _; rfl) : S X B (.Assign [.Name y py] (.ListComp elt [⟨tg, iter, ifs, 0⟩] scope pos) spos) (sSetO i (sComp mp fi t p f)) :=
  PS.imp (ps_setComp hc hN hiy hy ck hi hb hsw hs) fun D σ H h => by
    have h' := asgO_of D σ H h
    exact comp_of ht hks σ H _ h'
end
noncomputable def runF (n m : Nat) (g : En → Option Out) (ds : List PyData) : Option PyData := if ds.length = n then (g (ds.map Sl.val ++ List.replicate (m - n) .un)).bind fun o => match o with
  | .rt d => some d
  | .nx _ => some .none
  | _ => none else none
section
variable {P : Program} {w : World} {K : PySem.W.Frag} {mg : Str → Option Value} {base : Heap}
theorem start_no {n : Nat} {ds : List PyData} {i : Nat} {a : Sl} (e : (ds.map Sl.val ++ List.replicate n .un)[i]? = some a) : isOwn a = false := by
  by_cases hi : i < ds.length
  · rw [List.getElem?_append_left (by rw [List.length_map]; exact hi), List.getElem?_map] at e
    cases q : ds[i]? with
    | none => rw [q] at e; cases e
    | some d' => rw [q] at e; cases e; rfl
  · rw [List.getElem?_append_right (by rw [List.length_map]; omega), List.getElem?_replicate] at e
    split at e <;> cases e
    rfl
theorem EnR.start {F H : Hp} {N : List Str} {ds : List PyData} {vs : List V} (r : RelL K F ds vs) : EnR K H F H (L2.start N vs) (ds.map Sl.val ++ List.replicate (N.length - ds.length) .un) where
  len := by unfold L2.start; rw [List.length_append, List.length_append, List.length_map, List.length_map, List.length_replicate, List.length_replicate, r.length]
  val := fun i d e => by
    unfold L2.start
    by_cases hi : i < ds.length
    · rw [List.getElem?_append_left (by rw [List.length_map]; exact hi), List.getElem?_map] at e
      rw [List.getElem?_append_left (by rw [List.length_map, r.length]; exact hi), List.getElem?_map]
      cases q : ds[i]? with
      | none => rw [q] at e; cases e
      | some d' =>
        rw [q] at e
        have : d' = d := by injection (Option.some.inj e)
        subst this
        obtain ⟨x, e1, e2⟩ := r.get q
        exact ⟨x, by rw [e1]; rfl, e2⟩
    · rw [List.getElem?_append_right (by rw [List.length_map]; omega), List.getElem?_replicate] at e
      split at e <;> cases e
  cel := fun i a e ha => by rw [start_no e] at ha; cases ha
  obs := fun i fs e => by
    by_cases hi : i < ds.length
    · rw [List.getElem?_append_left (by rw [List.length_map]; exact hi), List.getElem?_map] at e
      cases q : ds[i]? with
      | none => rw [q] at e; cases e
      | some d' => rw [q] at e; cases e
    · rw [List.getElem?_append_right (by rw [List.length_map]; omega), List.getElem?_replicate] at e
      split at e <;> cases e
  apart := fun i _ a _ e _ ha _ _ => by rw [start_no e] at ha; cases ha
theorem fnP {x qual : Str} {st : Stmt} {f : Addr} {fd : FuncData} {N ps : List Str} {k : Nat} {g : En → Option Out} (Fn : Fun K x qual st f fd) (Sc : FnScope N ps (defScope st))
    (hb : ∀ (cdv : Value) (A : Around) (outer : List Env) (s : Shared) (H : Hp) (E : XK) (F : Hp), Room k (A.deeper (envOfC qual (defScope st) s.heap.objs.size f cdv)) →
      Ss (cxOf CX0 P w K mg base N qual (defScope st) f cdv A outer s H E).nox ⟨F, H⟩ (defBody st) g) :
    FnOk P w K mg base CX0 (k + 1) f fd ps (spP K (runF ps.length N.length g)) := by
  have len : ∀ {F : Hp} {ds : List PyData} {vs : List V} {d : PyData}, RelL K F ds vs → runF ps.length N.length g ds = some d → ds.length = ps.length ∧ vs.length = ps.length := fun {F ds vs d} r e => by
    unfold runF at e
    split at e
    · rename_i hl
      exact ⟨hl, by rw [r.length]; exact hl⟩
    · cases e
  refine Fn.ok Sc (fun vs H Q E h => ?_) (fun cdv A outer s H vs Q E hr h => ?_)
  · obtain ⟨F, ds, d, _, r, e, _⟩ := h
    exact (len r e).2
  · obtain ⟨F, ds, d, sm, r, e, q⟩ := h
    obtain ⟨l1, l2⟩ := len r e
    refine ⟨_, hb cdv A outer s H E F hr, ?_⟩
    unfold runF at e
    rw [if_pos l1] at e
    obtain ⟨o, e1, e2⟩ := bind_some e
    refine ⟨F, _, o, ⟨.refl sm, ?_⟩, e1, ?_⟩
    · have z := EnR.start (K := K) (H := H) (N := N) r
      rw [l1] at z
      exact z
    · cases o with
      | rt d' =>
        cases e2
        exact fun v F' H' g rv => q v F' H' g rv
      | nx η' =>
        cases e2
        exact fun σ' F' H' sr _ => q .non F' H' sr.gr rel_non
      | bk η' => cases e2
      | ct η' => cases e2
theorem fn0 {f : Addr} {fd : FuncData} {ps : List Str} {k : Nat} : FnOk P w K mg base CX0 k f fd ps (spP K (fun _ => none)) :=
  ⟨fun vs H Q E h => (by obtain ⟨_, _, _, _, _, e, _⟩ := h; cases e), fun A outer s H args us vs Q E _ _ _ _ h => (by obtain ⟨_, _, _, _, _, e, _⟩ := h; cases e)⟩
end
section
variable {X : Cx}
mutual
theorem Rel.reads {pins : List (Addr × Obj)} {σ : St} {F H : Hp} {s : Shared} (I : Inv X pins σ H s) (sm : Same F H) : ∀ {d : PyData} {v : V} {u : Value}, PyData.canLay0 d = true → Rel X.K F d v → RelV v u → ∃ as, Reads s.heap u d as
  | .none, v, u, _, h, r => by
    rw [h.non] at r; cases r
    exact ⟨_, .none⟩
  | .bool b, v, u, _, h, r => by
    rw [h.bl] at r; cases r
    exact ⟨_, .bool b⟩
  | .int i, v, u, _, h, r => by
    rw [h.int] at r; obtain ⟨t, rfl⟩ := r
    exact ⟨_, .int i t⟩
  | .str x, v, u, _, h, r => by
    rw [h.str] at r; obtain ⟨t, rfl⟩ := r
    exact ⟨_, .str x t⟩
  | .tuple ds, v, u, c, h, r => by
    unfold PyData.canLay0 at c
    obtain ⟨a, xs, rfl, hq, rs⟩ := h.tup
    cases r
    obtain ⟨its, rv, ⟨o, ho, hc, n, hd⟩, _⟩ := I.tuple (same_seqT sm hq)
    obtain ⟨as, h'⟩ := RelL.reads I sm c rs rv
    exact ⟨as, .tuple ho hc hd (by simpa using h')⟩
  | .list ds, v, u, c, h, r => by
    unfold PyData.canLay0 at c
    obtain ⟨a, xs, rfl, hq, rs⟩ := h.lst
    cases r
    obtain ⟨its, rv, p, _⟩ := I.list (sm.seq hq)
    obtain ⟨o, ho, hc, n, hd⟩ := p.isList
    obtain ⟨as, h'⟩ := RelL.reads I sm c rs rv
    exact ⟨a :: as, .list ho hc hd (by simpa using h')⟩
  | .dict _, v, u, c, h, r => by unfold PyData.canLay0 at c; cases c
theorem RelL.reads {pins : List (Addr × Obj)} {σ : St} {F H : Hp} {s : Shared} (I : Inv X pins σ H s) (sm : Same F H) : ∀ {ds : List PyData} {vs : List V} {us : List Value}, PyData.canLayAll0 ds = true → RelL X.K F ds vs → Vals vs us → ∃ as, ReadsAll s.heap us ds as
  | [], vs, us, _, h, r => by
    rw [h.nil_of] at r; cases r
    exact ⟨_, .nil⟩
  | d :: ds, vs, us, c, h, r => by
    unfold PyData.canLayAll0 at c
    obtain ⟨c1, c2⟩ := Bool.and_eq_true_iff.mp c
    obtain ⟨x, xs, rfl, h1, h2⟩ := h.cons_of
    cases r with
    | cons r1 r2 =>
      obtain ⟨as, e1⟩ := Rel.reads I sm c1 h1 r1
      obtain ⟨bs, e2⟩ := RelL.reads I sm c2 h2 r2
      exact ⟨as ++ bs, .cons e1 e2⟩
end
noncomputable def rEqD (K : PySem.W.Frag) (neg : Bool) : R2 := fun x y H Q => ∃ F dx dy, Same F H ∧ Rel K F dx x ∧ Rel K F dy y ∧ SeqAt.shaped dx = true ∧ SeqAt.shaped dy = true ∧ Q (.bl (if neg then !PyData.eqv dx dy else PyData.eqv dx dy)) H
theorem op_eqD (hu : X.A.units + 64 < cLine) : OpR X (compareOp .Eq) (rEqD X.K false) := by
  intro pins s σ H x y v u Q I rx ry h
  obtain ⟨F, dx, dy, sm, h1, h2, s1, s2, q⟩ := h
  obtain ⟨as, ra⟩ := Rel.reads I sm (SeqAt.canLay_of_shaped s1) h1 rx
  obtain ⟨bs, rb⟩ := Rel.reads I sm (SeqAt.canLay_of_shaped s2) h2 ry
  exact SeqAt.compareEq_shaped ra rb s1 s2 hu ⟨.bl _, H, I, rfl, q⟩
theorem op_neD (hu : X.A.units + 64 < cLine) : OpR X (compareOp .NotEq) (rEqD X.K true) := by
  intro pins s σ H x y v u Q I rx ry h
  obtain ⟨F, dx, dy, sm, h1, h2, s1, s2, q⟩ := h
  obtain ⟨as, ra⟩ := Rel.reads I sm (SeqAt.canLay_of_shaped s1) h1 rx
  obtain ⟨bs, rb⟩ := Rel.reads I sm (SeqAt.canLay_of_shaped s2) h2 ry
  exact SeqAt.compareNe_shaped ra rb s1 s2 hu ⟨.bl _, H, I, rfl, q⟩
noncomputable def pEq (x y : PyData) : Option PyData := if SeqAt.shaped x = true ∧ SeqAt.shaped y = true then some (.bool (PyData.eqv x y)) else none
noncomputable def pNe (x y : PyData) : Option PyData := if SeqAt.shaped x = true ∧ SeqAt.shaped y = true then some (.bool (!PyData.eqv x y)) else none
theorem ad_eq {K : PySem.W.Frag} : Ad2 K (rEqD K false) pEq := fun F H x y dx dy d Q sm rx ry e q => by
  unfold pEq at e
  split at e
  · rename_i hs
    cases e
    exact ⟨F, dx, dy, sm, rx, ry, hs.1, hs.2, q _ F H (.refl sm) rel_bl⟩
  · cases e
theorem ad_ne {K : PySem.W.Frag} : Ad2 K (rEqD K true) pNe := fun F H x y dx dy d Q sm rx ry e q => by
  unfold pNe at e
  split at e
  · rename_i hs
    cases e
    exact ⟨F, dx, dy, sm, rx, ry, hs.1, hs.2, q _ F H (.refl sm) rel_bl⟩
  · cases e
noncomputable def pI (C : Int → Int → Prop) [∀ i j, Decidable (C i j)] (g : Int → Int → PyData) (x y : PyData) : Option PyData := match x, y with
  | .int i, .int j => if C i j then some (g i j) else none
  | _, _ => none
instance : ∀ i j, Decidable (CMul i j) := fun i j => by unfold CMul; infer_instance
instance : ∀ i j, Decidable (CDiv i j) := fun i j => by unfold CDiv; infer_instance
theorem ad_I {K : PySem.W.Frag} {C : Int → Int → Prop} [∀ i j, Decidable (C i j)] {g : Int → Int → PyData} {gv : Int → Int → V} (hg : ∀ F i j, Rel K F (g i j) (gv i j)) : Ad2 K (rI C gv) (pI C g) := fun F H x y dx dy d Q sm rx ry e q => by
  cases dx <;> cases dy <;> simp only [pI, reduceCtorEq] at e
  split at e
  · rename_i hc
    cases e
    exact ⟨_, _, rx.int, ry.int, hc, q _ F H (.refl sm) (hg F _ _)⟩
  · cases e
theorem ad_I0 {K : PySem.W.Frag} {g : Int → Int → PyData} {gv : Int → Int → V} (hg : ∀ F i j, Rel K F (g i j) (gv i j)) : Ad2 K (rI0 gv) (pI (fun _ _ => True) g) := fun F H x y dx dy d Q sm rx ry e q => by
  cases dx <;> cases dy <;> simp only [pI, reduceCtorEq, if_true] at e
  cases e
  exact ⟨_, _, rx.int, ry.int, q _ F H (.refl sm) (hg F _ _)⟩
noncomputable def pSub := pI (fun _ _ => True) fun i j => .int (i - j)
noncomputable def pMul := pI CMul fun i j => .int (i * j)
noncomputable def pFdiv := pI CDiv fun i j => .int (i / j)
noncomputable def pMod := pI (fun _ j => 0 < j) fun i j => .int (i % j)
noncomputable def pLt := pI (fun _ _ => True) fun i j => .bool (decide (i < j))
noncomputable def pLe := pI (fun _ _ => True) fun i j => .bool (decide (i ≤ j))
noncomputable def pGt := pI (fun _ _ => True) fun i j => .bool (decide (j < i))
noncomputable def pGe := pI (fun _ _ => True) fun i j => .bool (decide (j ≤ i))
section
variable {B : Bd} {a b : Expr} {f g : En → Option PyData} {pos : Pos}
theorem E.sub (ha : E X B a f) (hb : E X B b g) : E X B (.BinOp a .Sub b pos) (l2 pSub f g) := E.op op_sub (ad_I0 fun _ _ _ => rel_int) ha hb
theorem E.mul (ha : E X B a f) (hb : E X B b g) : E X B (.BinOp a .Mult b pos) (l2 pMul f g) := E.op op_mul (ad_I fun _ _ _ => rel_int) ha hb
theorem E.fdiv (ha : E X B a f) (hb : E X B b g) : E X B (.BinOp a .FloorDiv b pos) (l2 pFdiv f g) := E.op op_fdiv (ad_I fun _ _ _ => rel_int) ha hb
theorem E.mod (ha : E X B a f) (hb : E X B b g) : E X B (.BinOp a .Mod b pos) (l2 pMod f g) := E.op op_mod (ad_I fun _ _ _ => rel_int) ha hb
theorem E.eq {k : Nat} (hr : Room k X.A) (ha : E X B a f) (hb : E X B b g) : E X B (.Compare a [.Eq] [b] pos) (l2 pEq f g) := E.cmp (op_eqD hr.units) ad_eq (nomark b) ha hb
theorem T.eq {k : Nat} (hr : Room k X.A) (ha : E X B a f) (hb : E X B b g) : T X B (.Compare a [.Eq] [b] pos) (bT (l2 pEq f g)) := T.cmp (op_eqD hr.units) ad_eq (nomark b) ha hb
theorem T.ne {k : Nat} (hr : Room k X.A) (ha : E X B a f) (hb : E X B b g) : T X B (.Compare a [.NotEq] [b] pos) (bT (l2 pNe f g)) := T.cmp (op_neD hr.units) ad_ne (nomark b) ha hb
end
noncomputable def rCatS (K : PySem.W.Frag) : R2 := fun x y H Q => ∃ l b xs zs, x = .ref l ∧ y = .ref b ∧ SqL K H l xs ∧ SqL K H b zs ∧ xs.length + zs.length ≤ sizeLine ∧ ∀ p, H p = none → Q (.ref p) (upd H p (.lst (xs ++ zs)))
theorem op_catS : OpR X (binaryOp .Add) (rCatS X.K) := by
  intro pins s σ H x y v u Q I rx ry h
  obtain ⟨l, b, xs, zs, rfl, rfl, hH, hB, hz, q⟩ := h
  cases rx
  cases ry
  obtain ⟨its, r, ⟨⟨c1, d1, t1, sl1⟩, n, e, ec, ed, es⟩, z⟩ := I.list hH
  obtain ⟨its2, r2, ⟨⟨c2, d2, t2, sl2⟩, n2, e2, ec2, ed2, es2⟩, z2⟩ := I.list hB
  have hl := r.length
  have hl2 := r2.length
  simp only at ec ed es ec2 ed2 es2
  subst ec ed es ec2 ed2 es2
  have ea : its.toArray ++ its2.toArray = (its ++ its2).toArray := by simp
  refine concat_meets ⟨_, e, rfl⟩ ⟨_, e2, rfl⟩ PySem.noFill_list_add PySem.seq_list_add PySem.F.slot_list_add PySem.F.entry_list_add (PySem.F.args_list_add_2 _ _)
      (list_addW l b its.toArray its2.toArray n n2 none none sl1 sl2 (by rw [List.size_toArray, List.size_toArray]; omega)) ⟨e, e2, ?_⟩
  rw [ea]
  exact ⟨.ref _, _, I.lnew (t' := s.toks) (r.append r2) (by rw [List.length_append]; omega), rfl, q _ I.fresh⟩
noncomputable def rCatTT (K : PySem.W.Frag) : R2 := fun x y H Q => ∃ a b xs ys, x = .ref a ∧ y = .ref b ∧ SqT K H a xs ∧ SqT K H b ys ∧ xs.length + ys.length ≤ sizeLine ∧
  (xs = [] → Q (.ref b) H) ∧ (xs ≠ [] → ys = [] → Q (.ref a) H) ∧ (∀ p, H p = none → Q (.ref p) (upd H p (.tup (xs ++ ys))))
theorem op_catTT : OpR X (binaryOp .Add) (rCatTT X.K) := by
  intro pins s σ H x y v u Q I rx ry h
  obtain ⟨a, b, xs, ys, rfl, rfl, ha, hb, hz, q0, q1, q2⟩ := h
  cases rx
  cases ry
  obtain ⟨its, r1, p1, _⟩ := I.tuple ha
  obtain ⟨its2, r2, p2, _⟩ := I.tuple hb
  by_cases hx : xs = []
  · have hi : its = [] := r1.nil_iff.mpr hx
    obtain ⟨⟨cls, dd, data, sl⟩, ho, hc, n, hd⟩ := id p1
    obtain ⟨⟨cls2, dd2, data2, sl2⟩, ho2, hc2, n2, hd2⟩ := id p2
    simp only at hc hd hc2 hd2
    subst hc hd hc2 hd2
    exact concat_meets ⟨_, ho, rfl⟩ ⟨_, ho2, rfl⟩ noFill_tuple_add seq_tuple_add PySem.F.slot_tuple_add PySem.F.entry_tuple_add (PySem.F.args_tuple_add_2 _ _)
      (tuple_addW0 a b its.toArray its2.toArray n n2 dd dd2 sl sl2 (by simp [hi])) ⟨ho, ho2, ⟨.ref b, H, I, rfl, q0 hx⟩⟩
  · refine HT.cat_tup p1 p2 (fun z => hx (r1.nil_iff.mp z)) (fun z => ⟨.ref a, H, I, rfl, q1 hx (r2.nil_iff.mp z)⟩) (fun z => ?_) (by rw [← r1.length, ← r2.length]; exact hz)
    refine ⟨.ref s.heap.objs.size, _, I.laid (t' := s.toks) (o := .tup (xs ++ ys)) (fun b ob q => Heap.get?_push_of_some _ q) (Nat.le_refl _) ?_, rfl, q2 _ (I.hok.fresh (Nat.le_refl _))⟩
    exact ⟨by rw [List.length_append]; exact hz, _, r1.append r2, IsTup.new _ _⟩
noncomputable def pAdd (x y : PyData) : Option PyData := match x, y with
  | .int i, .int j => some (.int (i + j))
  | .str i, .str j => if i.length + j.length ≤ sizeLine then some (.str (i ++ j)) else none
  | .list i, .list j => if i.length + j.length ≤ sizeLine then some (.list (i ++ j)) else none
  | .tuple i, .tuple j => if i.length + j.length ≤ sizeLine then some (.tuple (i ++ j)) else none
  | _, _ => none
theorem op_addA : OpR X (binaryOp .Add) (fun x y H Q => (∃ i j, x = .int i ∧ y = .int j ∧ Q (.int (i + j)) H) ∨ (∃ i j, x = .str i ∧ y = .str j ∧ i.length + j.length ≤ sizeLine ∧ Q (.str (i ++ j)) H) ∨ rCatS X.K x y H Q ∨ rCatTT X.K x y H Q) :=
  op_add.or (op_add_str.or (op_catS.or op_catTT))
theorem ad_add {K : PySem.W.Frag} : Ad2 K (fun x y H Q => (∃ i j, x = .int i ∧ y = .int j ∧ Q (.int (i + j)) H) ∨ (∃ i j, x = .str i ∧ y = .str j ∧ i.length + j.length ≤ sizeLine ∧ Q (.str (i ++ j)) H) ∨ rCatS K x y H Q ∨ rCatTT K x y H Q) pAdd := fun F H x y dx dy d Q sm rx ry e q => by
  unfold pAdd at e
  split at e
  · cases e
    exact .inl ⟨_, _, rx.int, ry.int, q _ F H (.refl sm) rel_int⟩
  · split at e
    · rename_i hz
      cases e
      exact .inr (.inl ⟨_, _, rx.str, ry.str, hz, q _ F H (.refl sm) rel_str⟩)
    · cases e
  · split at e
    · rename_i hz
      cases e
      obtain ⟨a, xs, rfl, h1, r1⟩ := rx.lst
      obtain ⟨b, ys, rfl, h2, r2⟩ := ry.lst
      refine .inr (.inr (.inl ⟨a, b, xs, ys, rfl, rfl, sm.seq h1, sm.seq h2, by rw [r1.length, r2.length]; exact hz, fun p hp => ?_⟩))
      have g := Gr.one (o := .lst (xs ++ ys)) sm hp
      exact q _ _ _ g (rel_lst (SqL.of upd_same) ((r1.append r2).mono g.ff))
    · cases e
  · rename_i i j
    split at e
    · rename_i hz
      cases e
      obtain ⟨a, xs, rfl, h1, r1⟩ := rx.tup
      obtain ⟨b, ys, rfl, h2, r2⟩ := ry.tup
      refine .inr (.inr (.inr ⟨a, b, xs, ys, rfl, rfl, same_seqT sm h1, same_seqT sm h2, by rw [r1.length, r2.length]; exact hz, fun z => ?_, fun z1 z2 => ?_, fun p hp => ?_⟩))
      · subst z
        have := List.eq_nil_of_length_eq_zero r1.length.symm
        subst this
        exact q _ F H (.refl sm) (rel_tup h2 (by simpa using r2))
      · subst z2
        have := List.eq_nil_of_length_eq_zero r2.length.symm
        subst this
        exact q _ F H (.refl sm) (rel_tup h1 (by simpa using r1))
      · have g := Gr.one (o := .tup (xs ++ ys)) sm hp
        exact q _ _ _ g (rel_tup (SqT.of upd_same) ((r1.append r2).mono g.ff))
    · cases e
  · cases e
section
variable {B : Bd} {a b e : Expr} {es : List Expr} {f g : En → Option PyData} {fs : En → Option (List PyData)} {pos pp : Pos}
theorem E.add (ha : E X B a f) (hb : E X B b g) : E X B (.BinOp a .Add b pos) (l2 pAdd f g) := E.op op_addA ad_add ha hb
noncomputable def pNeg : PyData → Option PyData
  | .int i => some (.int (-i))
  | _ => none
theorem E.neg (ha : E X B a f) : E X B (.UnaryOp .USub a pos) (l1 pNeg f) := PE.imp (pe_un un_neg ha) fun σ H Q ⟨F, η, d, sr, hd, q⟩ => by
  obtain ⟨x, hx, hd⟩ := bind_some hd
  cases x <;> simp only [pNeg, reduceCtorEq, Option.some.injEq] at hd
  subst hd
  exact ⟨F, η, _, sr, hx, fun v F1 H1 g1 rv => ⟨_, rv.int, q _ F1 H1 g1 rel_int⟩⟩
noncomputable def pIx (x y : PyData) : Option PyData := match x, y with
  | .list ds, .int i => atI ds i
  | .tuple ds, .int i => atI ds i
  | .str z, .int i => if z.length ≤ sizeLine then (atI z.cps.toList i).bind fun c => some (.str ⟨#[c]⟩) else none
  | _, _ => none
theorem atI_rel {K : PySem.W.Frag} {F : Hp} {ds : List PyData} {xs : List V} {i : Int} {d : PyData} (r : RelL K F ds xs) (e : atI ds i = some d) : ∃ x, atI xs i = some x ∧ Rel K F d x := by
  unfold atI at e ⊢
  rw [r.length]
  obtain ⟨j, h1, h2⟩ := bind_some e
  rw [h1]
  obtain ⟨x, h3, h4⟩ := r.get h2
  exact ⟨x, h3, h4⟩
theorem ad_ix {K : PySem.W.Frag} : Ad2 K (rIx K) pIx := fun F H x y dx dy d Q sm rx ry e q => by
  unfold pIx at e
  split at e
  · obtain ⟨a, xs, rfl, h1, r1⟩ := rx.lst
    obtain ⟨v, h2, h3⟩ := atI_rel r1 e
    exact .inl ⟨a, xs, _, v, rfl, ry.int, sm.seq h1, h2, q _ F H (.refl sm) h3⟩
  · obtain ⟨a, xs, rfl, h1, r1⟩ := rx.tup
    obtain ⟨v, h2, h3⟩ := atI_rel r1 e
    exact .inr (.inl ⟨a, xs, _, v, rfl, ry.int, same_seqT sm h1, h2, q _ F H (.refl sm) h3⟩)
  · split at e
    · rename_i hz
      obtain ⟨c, h1, h2⟩ := bind_some e
      cases h2
      exact .inr (.inr ⟨_, _, c, rx.str, ry.int, hz, h1, q _ F H (.refl sm) rel_str⟩)
    · cases e
  · cases e
theorem E.at (ha : E X B a f) (hb : E X B b g) (hs : PlainIx b := by intro _ _; rfl) : E X B (.Subscript a b pos) (l2 pIx f g) := E.ix ix_seq ad_ix ha hb hs
noncomputable def flatD : PyData → Bool
  | .none => true
  | .bool _ => true
  | .int _ => true
  | .str _ => true
  | _ => false
theorem flat_of {K : PySem.W.Frag} {F : Hp} {d : PyData} {v : V} (h : flatD d = true) (r : Rel K F d v) : flatV v = true := by
  cases d <;> simp [flatD] at h
  · rw [r.non]; rfl
  · rw [r.bl]; rfl
  · rw [r.int]; rfl
  · rw [r.str]; rfl
theorem flats_of {K : PySem.W.Frag} {F : Hp} : ∀ {ds : List PyData} {vs : List V}, ds.all flatD = true → RelL K F ds vs → vs.all flatV = true
  | [], vs, _, r => by rw [r.nil_of]; rfl
  | d :: ds, vs, h, r => by
    obtain ⟨x, xs, rfl, r1, r2⟩ := r.cons_of
    rw [List.all_cons, Bool.and_eq_true] at h ⊢
    exact ⟨flat_of h.1 r1, flats_of h.2 r2⟩
theorem eqV_of {K : PySem.W.Frag} {F : Hp} {d e : PyData} {x y : V} (hd : flatD d = true) (he : flatD e = true) (r : Rel K F d x) (s : Rel K F e y) : eqV x y = PyData.eqv d e := by
  cases d <;> simp [flatD] at hd <;> cases e <;> simp [flatD] at he
  all_goals (first | rw [r.non] | rw [r.bl] | rw [r.int] | rw [r.str]) <;> (first | rw [s.non] | rw [s.bl] | rw [s.int] | rw [s.str])
  all_goals first | rfl | simp [eqV, PyData.eqv]
theorem inV_of {K : PySem.W.Frag} {F : Hp} {d : PyData} {x : V} (hd : flatD d = true) (r : Rel K F d x) : ∀ {ds : List PyData} {vs : List V}, ds.all flatD = true → RelL K F ds vs → inV x vs = ds.any fun y => PyData.eqv y d
  | [], vs, _, rs => by rw [rs.nil_of]; rfl
  | e :: ds, vs, h, rs => by
    obtain ⟨y, xs, rfl, r1, r2⟩ := rs.cons_of
    rw [List.all_cons, Bool.and_eq_true] at h
    have ih := inV_of hd r h.2 r2
    unfold inV at ih ⊢
    rw [List.any_cons, List.any_cons, ih, eqV_of h.1 hd r1 r]
noncomputable def pIn (neg : Bool) (x y : PyData) : Option PyData := match y with
  | .list ds => if flatD x = true ∧ ds.all flatD = true then some (.bool (if neg then !(ds.any fun y => PyData.eqv y x) else ds.any fun y => PyData.eqv y x)) else none
  | .tuple ds => if flatD x = true ∧ ds.all flatD = true then some (.bool (if neg then !(ds.any fun y => PyData.eqv y x) else ds.any fun y => PyData.eqv y x)) else none
  | .str j => match x with
    | .str i => some (.bool (if neg then !(!(Builtin.Str.occurrences j i 0 j.length 1).isEmpty) else !(Builtin.Str.occurrences j i 0 j.length 1).isEmpty))
    | _ => none
  | _ => none
noncomputable def rInA (K : PySem.W.Frag) (neg : Bool) : R2 := fun x y H Q => rIn K neg x y H Q ∨ (∃ i j, x = .str i ∧ y = .str j ∧ Q (.bl (if neg then !(!(Builtin.Str.occurrences j i 0 j.length 1).isEmpty) else !(Builtin.Str.occurrences j i 0 j.length 1).isEmpty)) H)
theorem op_inA : OpR X (compareOp .In) (rInA X.K false) := op_in_seq.or op_in_str
theorem op_notInA : OpR X (compareOp .NotIn) (rInA X.K true) := op_notIn_seq.or op_notIn_str
theorem ad_in {K : PySem.W.Frag} {neg : Bool} : Ad2 K (rInA K neg) (pIn neg) := fun F H x y dx dy d Q sm rx ry e q => by
  unfold pIn at e
  split at e
  · split at e
    · rename_i hf
      cases e
      obtain ⟨b, ys, rfl, h2, r2⟩ := ry.lst
      refine .inl ⟨b, ys, rfl, .inl (sm.seq h2), flat_of hf.1 rx, flats_of hf.2 r2, ?_⟩
      rw [inV_of hf.1 rx hf.2 r2]
      exact q _ F H (.refl sm) rel_bl
    · cases e
  · split at e
    · rename_i hf
      cases e
      obtain ⟨b, ys, rfl, h2, r2⟩ := ry.tup
      refine .inl ⟨b, ys, rfl, .inr (same_seqT sm h2), flat_of hf.1 rx, flats_of hf.2 r2, ?_⟩
      rw [inV_of hf.1 rx hf.2 r2]
      exact q _ F H (.refl sm) rel_bl
    · cases e
  · split at e
    · cases e
      exact .inr ⟨_, _, rx.str, ry.str, q _ F H (.refl sm) rel_bl⟩
    · cases e
  · cases e
theorem T.in (ha : E X B a f) (hb : E X B b g) (hm : behindInMarks .In b = false := by with_unfolding_all rfl) : T X B (.Compare a [.In] [b] pos) (bT (l2 (pIn false) f g)) := T.cmp op_inA ad_in hm ha hb
theorem T.notIn (ha : E X B a f) (hb : E X B b g) (hm : behindInMarks .NotIn b = false := by with_unfolding_all rfl) : T X B (.Compare a [.NotIn] [b] pos) (bT (l2 (pIn true) f g)) := T.cmp op_notInA ad_in hm ha hb
theorem E.in (ha : E X B a f) (hb : E X B b g) (hm : behindInMarks .In b = false := by with_unfolding_all rfl) : E X B (.Compare a [.In] [b] pos) (l2 (pIn false) f g) := E.cmp op_inA ad_in hm ha hb
theorem E.notIn (ha : E X B a f) (hb : E X B b g) (hm : behindInMarks .NotIn b = false := by with_unfolding_all rfl) : E X B (.Compare a [.NotIn] [b] pos) (l2 (pIn true) f g) := E.cmp op_notInA ad_in hm ha hb
noncomputable def AdA (K : PySem.W.Frag) (r : List V → Hp → VK → Prop) (o : List PyData → Option PyData) : Prop :=
  ∀ F H xs ds d Q, Same F H → RelL K F ds xs → o ds = some d → (∀ v F' H', Gr F H F' H' → Rel K F' d v → Q v H') → r xs H Q
theorem tCB_of {K : PySem.W.Frag} {r : List V → Hp → VK → Prop} {o : List PyData → Option PyData} (ad : AdA K r o) : ∀ σ H Q, tE K B (lA o fs) σ H Q → tCB r (tA K B fs) σ H Q := fun σ H Q ⟨F, η, d, sr, hd, q⟩ => by
  obtain ⟨ds, hx, hd⟩ := bind_some hd
  exact ⟨F, η, ds, sr, hx, fun vs F1 H1 g1 rs => ad F1 H1 vs ds d Q g1.fh rs hd fun v F2 H2 g2 rv => q v F2 H2 (g1.trans g2) rv⟩
theorem E.callB {x : Str} {id : String} {r : List V → Hp → VK → Prop} {o : List PyData → Option PyData} (hc : CallR X (.builtin id) r) (ad : AdA X.K r o) (hm : X.mg x = none) (hv : bootBuiltins x = some (.builtin id)) (ha : A X B (e :: es) fs) (hg : Gl X x := by rfl) (hn : x ≠ "__name__" := by decide) (hdb : (x == ("__debug__" : Str)) = false := by decide)
    (he : starEach (e :: es) X.env = (false, eval e X.env) :: starEach es X.env := by exact star_of rfl) (hpl : (backTo pos (starEach es X.env)).any (·.1) = false := by exact plain_of rfl) : E X B (.Call (.Name x pp) (e :: es) [] pos) (lA o fs) :=
  PE.imp (pe_callB hc hg hm hv ha hn hdb he hpl) (tCB_of ad)
theorem E.callTy {x : Str} {id : String} {r : List V → Hp → VK → Prop} {o : List PyData → Option PyData} (hc : CallR X (.type id) r) (ad : AdA X.K r o) (hm : X.mg x = none) (hv : bootBuiltins x = some (.type id)) (ha : A X B (e :: es) fs) (hg : Gl X x := by rfl) (hn : x ≠ "__name__" := by decide) (hdb : (x == ("__debug__" : Str)) = false := by decide)
    (he : starEach (e :: es) X.env = (false, eval e X.env) :: starEach es X.env := by exact star_of rfl) (hpl : (backTo pos (starEach es X.env)).any (·.1) = false := by exact plain_of rfl) : E X B (.Call (.Name x pp) (e :: es) [] pos) (lA o fs) :=
  PE.imp (pe_callTy hc hg hm hv ha hn hdb he hpl) (tCB_of ad)
noncomputable def pLen (ds : List PyData) : Option PyData := match ds with
  | [.list xs] => some (.int xs.length)
  | [.tuple xs] => some (.int xs.length)
  | [.str z] => if z.length ≤ sizeLine then some (.int z.length) else none
  | _ => none
theorem ad_len {K : PySem.W.Frag} : AdA K (fun xs H Q => (∃ p ys, xs = [.ref p] ∧ (SqL K H p ys ∨ SqT K H p ys) ∧ Q (.int ys.length) H) ∨ (∃ z, xs = [.str z] ∧ z.length ≤ sizeLine ∧ Q (.int z.length) H)) pLen := fun F H xs ds d Q sm rs e q => by
  unfold pLen at e
  split at e
  · cases e
    obtain ⟨x, r, rfl, rx, rr⟩ := rs.cons_of
    obtain rfl := rr.nil_of
    obtain ⟨a, ys, rfl, h1, r1⟩ := rx.lst
    exact .inl ⟨a, ys, rfl, .inl (sm.seq h1), by rw [r1.length]; exact q _ F H (.refl sm) rel_int⟩
  · cases e
    obtain ⟨x, r, rfl, rx, rr⟩ := rs.cons_of
    obtain rfl := rr.nil_of
    obtain ⟨a, ys, rfl, h1, r1⟩ := rx.tup
    exact .inl ⟨a, ys, rfl, .inr (same_seqT sm h1), by rw [r1.length]; exact q _ F H (.refl sm) rel_int⟩
  · split at e
    · rename_i hz
      cases e
      obtain ⟨x, r, rfl, rx, rr⟩ := rs.cons_of
      obtain rfl := rr.nil_of
      exact .inr ⟨_, by rw [rx.str], hz, q _ F H (.refl sm) rel_int⟩
    · cases e
  · cases e
theorem E.len (hm : X.mg "len" = none) (ha : A X B [e] fs) (hg : Gl X "len" := by rfl) (he : starEach [e] X.env = (false, eval e X.env) :: starEach [] X.env := by exact star_of rfl) (hpl : (backTo pos (starEach [] X.env)).any (·.1) = false := by rfl) : E X B (.Call (.Name "len" pp) [e] [] pos) (lA pLen fs) :=
  E.callB (call_len_seq.or call_len_str) ad_len hm PySem.boot_len ha hg (by decide) (by decide) he hpl
noncomputable def pTup (ds : List PyData) : Option PyData := match ds with
  | [.list xs] => some (.tuple xs)
  | [.tuple xs] => some (.tuple xs)
  | _ => none
theorem ad_tup {K : PySem.W.Frag} : AdA K (fun xs H Q => ∃ p ys, xs = [.ref p] ∧ ((SqL K H p ys ∧ ∀ l, H l = none → Q (.ref l) (upd H l (.tup ys))) ∨ (SqT K H p ys ∧ Q (.ref p) H))) pTup := fun F H xs ds d Q sm rs e q => by
  unfold pTup at e
  split at e
  · cases e
    obtain ⟨x, r, rfl, rx, rr⟩ := rs.cons_of
    obtain rfl := rr.nil_of
    obtain ⟨a, ys, rfl, h1, r1⟩ := rx.lst
    refine ⟨a, ys, rfl, .inl ⟨sm.seq h1, fun p hp => ?_⟩⟩
    have g := Gr.one (o := .tup ys) sm hp
    exact q _ _ _ g (rel_tup (SqT.of upd_same) (r1.mono g.ff))
  · cases e
    obtain ⟨x, r, rfl, rx, rr⟩ := rs.cons_of
    obtain rfl := rr.nil_of
    obtain ⟨a, ys, rfl, h1, r1⟩ := rx.tup
    exact ⟨a, ys, rfl, .inr ⟨same_seqT sm h1, q _ F H (.refl sm) (rel_tup h1 r1)⟩⟩
  · cases e
theorem E.tuple (hm : X.mg "tuple" = none) (ha : A X B [e] fs) (hg : Gl X "tuple" := by rfl) (he : starEach [e] X.env = (false, eval e X.env) :: starEach [] X.env := by exact star_of rfl) (hpl : (backTo pos (starEach [] X.env)).any (·.1) = false := by rfl) : E X B (.Call (.Name "tuple" pp) [e] [] pos) (lA pTup fs) :=
  E.callTy call_tuple_of ad_tup hm (by decide +kernel) ha hg (by decide) (by decide) he hpl
end
end
noncomputable def cutL {α : Type} (xs : List α) (lo hi : Option Int) : List α := (xs.drop (HT.sIx xs.length 0 lo)).take (HT.sIx xs.length xs.length hi - HT.sIx xs.length 0 lo)
section
variable {X : Cx}
theorem RelL.cut {K : PySem.W.Frag} {F : Hp} {ds : List PyData} {xs : List V} (r : RelL K F ds xs) (lo hi : Option Int) : RelL K F (cutL ds lo hi) (cutV xs lo hi) := by
  unfold cutL cutV
  rw [r.length]
  exact (r.drop _).take _
theorem sl_tupW : SlR X (fun x lo hi H Q => ∃ a xs, x = .ref a ∧ SqT X.K H a xs ∧ (HT.sIx xs.length 0 lo = 0 ∧ HT.sIx xs.length xs.length hi = xs.length) ∧ Q (.ref a) H) := by
  intro pins s σ H x v vl vu lo hi sl Q I rx hs pl pu h
  obtain ⟨a, xs, rfl, hx, hw, q⟩ := h
  cases rx
  obtain ⟨its, r, ht, hz⟩ := I.tuple hx
  have hlen : its.toArray.size = xs.length := by rw [List.size_toArray]; exact r.length.symm
  refine ⟨"tuple", _, PyProof.Rows.slot_tuple_getitem.lookup, ht.typeIs, ?_⟩
  obtain ⟨os, hos, hcs, hds⟩ := id hs
  have hTs : s.TypeIs (.ref sl) "slice" := ⟨os, hos, hcs⟩
  unfold getItem
  try with_reducible refine wpAny_holding ?_
  first | refine wpAny_bind (wpAny_pure ?_) | skip
  refine wpAny_bind (wpAny_sequenceKey ht.typeIs (by decide) ?_)
  refine wpAny_bind (wpAny_callSpecial?_slot (name := Str.ofString "__getitem__") ht.typeIs PyProof.Rows.slot_tuple_getitem
    (wpAny_call_entry PyProof.Rows.slot_tuple_getitem ht.typeIs entry_tuple_getitem ?_ (args_tuple_getitem _ _)))
  show wpAny _ _ (Builtin.Tuple.tupleItemsOf (.ref a) >>= _) _ _ s
  refine wpAny_bind (tupleItemsOf_ ht ?_)
  refine wpAny_bind (wpAny_typeOf hTs ?_)
  rw [if_pos (by decide)]
  refine wpAny_bind (HT.sliceApplied_gen hs pl pu ?_)
  rw [hlen]
  have hyes : ((((HT.sIx xs.length 0 lo : Nat) : Int) == 0 && (1 : Int) == 1 && (HT.sIx xs.length xs.length hi - HT.sIx xs.length 0 lo) == xs.length) = true) := by
    rw [hw.1, hw.2]; simp
  show wpAny _ _ (if (((HT.sIx xs.length 0 lo : Nat) : Int) == 0 && (1 : Int) == 1 && (HT.sIx xs.length xs.length hi - HT.sIx xs.length 0 lo) == xs.length) = true then _ else _) _ _ s
  rw [if_pos hyes]
  have fin : EP X pins σ Q (.ref a) s := ⟨.ref a, H, I, rfl, q⟩
  refine wpAny_bind ?_
  unfold Builtin.Tuple.tupleIsExact
  refine wpAny_bind (wpAny_typeOf ht.typeIs (wpAny_pure ?_))
  rw [if_pos (by decide)]
  exact wpAny_bind (wpAny_rule (wpAny_pure ⟨_, rfl, wpAny_pure fin⟩))
noncomputable def pSl (x : PyData) (lo hi : Option Int) : Option PyData := match x with
  | .list ds => some (.list (cutL ds lo hi))
  | .tuple ds => some (.tuple (cutL ds lo hi))
  | _ => none
noncomputable def rSlA (K : PySem.W.Frag) : V → Option Int → Option Int → Hp → VK → Prop := fun x lo hi H Q => rSlL K x lo hi H Q ∨ rSlT K x lo hi H Q ∨ (∃ a xs, x = .ref a ∧ SqT K H a xs ∧ (HT.sIx xs.length 0 lo = 0 ∧ HT.sIx xs.length xs.length hi = xs.length) ∧ Q (.ref a) H)
theorem sl_A : SlR X (rSlA X.K) := sl_list.or (sl_tup.or sl_tupW)
theorem ad_sl {K : PySem.W.Frag} {F H : Hp} {x : V} {dx d : PyData} {lo hi : Option Int} {Q : VK} (sm : Same F H) (rx : Rel K F dx x) (e : pSl dx lo hi = some d) (q : ∀ v F' H', Gr F H F' H' → Rel K F' d v → Q v H') : rSlA K x lo hi H Q := by
  unfold pSl at e
  split at e
  · cases e
    obtain ⟨a, xs, rfl, h1, r1⟩ := rx.lst
    refine .inl ⟨a, xs, rfl, sm.seq h1, fun p hp => ?_⟩
    have g := Gr.one (o := .lst (cutV xs lo hi)) sm hp
    exact q _ _ _ g (rel_lst (SqL.of upd_same) ((r1.cut lo hi).mono g.ff))
  · cases e
    obtain ⟨a, xs, rfl, h1, r1⟩ := rx.tup
    by_cases hw : HT.sIx xs.length 0 lo = 0 ∧ HT.sIx xs.length xs.length hi = xs.length
    · refine .inr (.inr ⟨a, xs, rfl, same_seqT sm h1, hw, q _ F H (.refl sm) (rel_tup h1 ?_)⟩)
      have := r1.cut lo hi
      have e2 : cutV xs lo hi = xs := by
        unfold cutV
        rw [hw.1, hw.2]
        simp
      rw [e2] at this
      exact this
    · refine .inr (.inl ⟨a, xs, rfl, same_seqT sm h1, hw, fun p hp => ?_⟩)
      have g := Gr.one (o := .tup (cutV xs lo hi)) sm hp
      exact q _ _ _ g (rel_tup (SqT.of upd_same) ((r1.cut lo hi).mono g.ff))
  · cases e
section
variable {B : Bd} {a b e : Expr} {es : List Expr} {f g : En → Option PyData} {fs : En → Option (List PyData)} {pos pp p2 : Pos} {lo hi : Option Expr} {fl fh : En → Option (Option Int)}
noncomputable def tP (K : PySem.W.Frag) (B : Bd) (f : En → Option (Option Int)) : TO := fun σ H Q => ∃ F η o, SR K B F H σ η ∧ f η = some o ∧ ∀ F' H', Gr F H F' H' → Q o H'
noncomputable def P (X : Cx) (B : Bd) (e : Option Expr) (f : En → Option (Option Int)) : Prop := PO X e (tP X.K B f)
noncomputable def pN : En → Option (Option Int) := fun _ => some none
noncomputable def asI : PyData → Option Int
  | .int i => some i
  | _ => none
theorem asI_some {d : PyData} {i : Int} (h : asI d = some i) : d = .int i := by
  cases d <;> simp [asI] at h
  rw [h]
noncomputable def pS (f : En → Option PyData) : En → Option (Option Int) := fun η => (f η).bind fun d => (asI d).bind fun i => some (some i)
theorem PO.imp {X : Cx} {e : Option Expr} {t t' : TO} (h : PO X e t) (i : ∀ σ H Q, t' σ H Q → t σ H Q) : PO X e t' := fun pins s σ H Q I q => h pins s σ H Q I (i σ H Q q)
theorem P.none : P X B none pN := PO.imp po_none fun σ H Q ⟨F, η, d, sr, hd, q⟩ => by
  cases hd
  exact q F H (.refl sr.same)
theorem P.some (h : E X B e f) : P X B (some e) (pS f) := PO.imp (po_some h) fun σ H Q ⟨F, η, d, sr, hd, q⟩ => by
  obtain ⟨x, hx, hd⟩ := bind_some hd
  obtain ⟨i, hi, hd⟩ := bind_some hd
  cases hd
  obtain rfl := asI_some hi
  exact ⟨F, η, _, sr, hx, fun v F1 H1 g1 rv => ⟨i, rv.int, q F1 H1 g1⟩⟩
noncomputable def eSl (f : En → Option PyData) (fl fh : En → Option (Option Int)) : En → Option PyData := fun η => (f η).bind fun x => (fl η).bind fun l => (fh η).bind fun h => pSl x l h
theorem E.sl (he : E X B e f) (hl : P X B lo fl) (hu : P X B hi fh) : E X B (.Subscript e (.Slice lo hi none p2) pos) (eSl f fl fh) := PE.imp (pe_slice sl_A he hl hu) fun σ H Q ⟨F, η, d, sr, hd, q⟩ => by
  obtain ⟨x, hx, hd⟩ := bind_some hd
  obtain ⟨l, hl, hd⟩ := bind_some hd
  obtain ⟨h, hh, hd⟩ := bind_some hd
  refine ⟨F, η, x, sr, hx, fun v F1 H1 g1 rv => ⟨F1, η, l, sr.grow g1, hl, fun F2 H2 g2 => ⟨F2, η, h, (sr.grow g1).grow g2, hh, fun F3 H3 g3 => ?_⟩⟩⟩
  exact ad_sl g3.fh (rv.mono (g2.ff.trans g3.ff)) hd fun w F4 H4 g4 rw' => q w F4 H4 (((g1.trans g2).trans g3).trans g4) rw'
noncomputable def rSum (K : PySem.W.Frag) : List V → Hp → VK → Prop := fun xs H Q => ∃ (p : Addr) (ns : List Int), xs = [.ref p] ∧ SqL K H p (ns.map V.int) ∧ Q (.int ns.sum) H
theorem preSum_sum : ∀ (ns : List Int) (n : Nat), n ≤ ns.length → preSum (fun i => ns.getD i 0) n = (ns.take n).sum
  | ns, 0, _ => by simp [preSum]
  | ns, n + 1, h => by
    have hn : n < ns.length := by omega
    rw [preSum, preSum_sum ns n (by omega), List.take_succ_eq_append_getElem hn, List.sum_append]
    show _ + ns.getD n 0 = _
    rw [List.getD_eq_getElem?_getD, List.getElem?_eq_getElem hn]
    simp
theorem call_sum (hc : X.calm = true) : CallR X (.builtin "sum") (rSum X.K) := by
  intro pins s σ H xs us Q I r h
  obtain ⟨p, ns, rfl, hq, q⟩ := h
  obtain ⟨u, rfl, rx⟩ := vals1 r
  cases rx
  obtain ⟨its, rv, pl, hz⟩ := I.list hq
  have iv : IntsAre its ns := intsAre_of rv
  have hlt : p < s.heap.objs.size := by
    obtain ⟨o, ho, _⟩ := pl.isList
    exact Heap.lt_size ho
  refine call_sum_walkG (wpAny_pyIter_list pl.isList ?_)
  refine ⟨s.heap.objs.size, _, _, _, _, _, fun i => ns.getD i 0, rfl, Walks.list (A := X.A.in1) (I.ok.hd hc) s.heap.objs.size p (Nat.ne_of_lt hlt) its.toArray, ⟨⟨_, Heap.get?_push_size _ rfl, rfl, rfl⟩, pl.isList.at fun o e => Heap.get?_push_of_some _ e⟩, ?_, ?_, fun h' tk t' hk => ?_⟩
  · intro b hb
    show b < (s.heap.push _).objs.size
    rw [Heap.size_push]
    rcases List.mem_cons.mp hb with e | hb
    · rw [e]; exact Nat.lt_succ_self _
    · rw [List.mem_singleton.mp hb]; exact Nat.lt_succ_of_lt hlt
  · intro i v hv
    have hv' : its[i]? = some v := by simpa using hv
    obtain ⟨hi, e⟩ := List.getElem?_eq_some_iff.mp hv'
    have hl := rv.length
    rw [List.length_map] at hl
    have hn : ns[i]? = some ns[i] := List.getElem?_eq_getElem (by omega)
    obtain ⟨u, hu, ru⟩ := rv.get (i := i) (x := .int ns[i]) (by rw [List.getElem?_map, hn]; rfl)
    rw [hv'] at hu
    cases hu
    obtain ⟨t, rfl⟩ := ru
    exact ⟨t, by show Value.int ns[i] t = Value.int (ns.getD i 0) t; rw [List.getD_eq_getElem?_getD, hn]; rfl⟩
  · have hl := rv.length
    rw [List.length_map] at hl
    have e : preSum (fun i => ns.getD i 0) its.toArray.size = ns.sum := by
      rw [List.size_toArray, preSum_sum ns _ (by omega), List.take_of_length_le (by omega)]
    rw [e]
    refine ⟨.int ns.sum, H, I.kept (t' := tk) fun b o eb => hk b o ?_ (Heap.get?_push_of_some _ eb), ⟨t', rfl⟩, q⟩
    intro hb
    exact absurd (Heap.lt_size eb) (by rw [List.mem_singleton.mp hb]; exact Nat.lt_irrefl _)
noncomputable def asIs : List PyData → Option (List Int)
  | [] => some []
  | .int i :: r => (asIs r).bind fun ns => some (i :: ns)
  | _ :: _ => none
theorem asIs_some : ∀ {ds : List PyData} {ns : List Int}, asIs ds = some ns → ds = ns.map PyData.int
  | [], ns, h => by cases h; rfl
  | .int i :: r, ns, h => by
    obtain ⟨ms, h1, h2⟩ := bind_some h
    cases h2
    rw [asIs_some h1]; rfl
  | .none :: _, _, h => by cases h
  | .bool _ :: _, _, h => by cases h
  | .str _ :: _, _, h => by cases h
  | .list _ :: _, _, h => by cases h
  | .tuple _ :: _, _, h => by cases h
  | .dict _ :: _, _, h => by cases h
theorem asIs_ints (ns : List Int) : asIs (ns.map PyData.int) = some ns := by
  induction ns with
  | nil => rfl
  | cons n r ih => rw [List.map_cons]; unfold asIs; rw [ih]; rfl
theorem RelL.ints_of {K : PySem.W.Frag} {F : Hp} : ∀ {ns : List Int} {xs : List V}, RelL K F (ns.map PyData.int) xs → xs = ns.map V.int
  | [], xs, h => h.nil_of
  | n :: r, xs, h => by
    obtain ⟨x, ys, rfl, h1, h2⟩ := h.cons_of
    rw [h1.int, RelL.ints_of h2]; rfl
noncomputable def pSum (ds : List PyData) : Option PyData := match ds with
  | [.list xs] => (asIs xs).bind fun ns => some (.int ns.sum)
  | _ => none
theorem ad_sum {K : PySem.W.Frag} : AdA K (rSum K) pSum := fun F H xs ds d Q sm rs e q => by
  unfold pSum at e
  split at e
  · obtain ⟨ns, h1, h2⟩ := bind_some e
    cases h2
    have := asIs_some h1
    subst this
    obtain ⟨x, r, rfl, rx, rr⟩ := rs.cons_of
    obtain rfl := rr.nil_of
    obtain ⟨a, ys, rfl, hq, r1⟩ := rx.lst
    have := r1.ints_of
    subst this
    exact ⟨a, ns, rfl, sm.seq hq, q _ F H (.refl sm) rel_int⟩
  · cases e
theorem E.sum (hc : X.calm = true) (hm : X.mg "sum" = none) (ha : A X B [e] fs) (hg : Gl X "sum" := by rfl) (he : starEach [e] X.env = (false, eval e X.env) :: starEach [] X.env := by exact star_of rfl) (hpl : (backTo pos (starEach [] X.env)).any (·.1) = false := by rfl) : E X B (.Call (.Name "sum" pp) [e] [] pos) (lA pSum fs) :=
  E.callB (call_sum hc) ad_sum hm (by decide +kernel) ha hg (by decide) (by decide) he hpl
theorem list_extendW (l b : Addr) (items items2 : Array Value) (n n2 : Nat) (dd2 : Option Addr) (sl2 : Array (Option Value)) (hc0 : ¬(!items.isEmpty && Builtin.List.listTooLong (items.size + items2.size)) = true) (hc1 : items.size ≤ sizeLine) (hs2 : items.size + items2.size ≤ sizeLine + 1) :
    Meets (Builtin.«list.extend» ⟨[.ref l, .ref b], []⟩) (fun _ R s => s.heap.get? l = some { cls := .type "list", dict := none, data := .seq items n, slots := #[] } ∧ s.heap.get? b = some { cls := .type "list", dict := dd2, data := .seq items2 n2, slots := sl2 } ∧ R (.ok (.ret Value.none)) { s with heap := s.heap.update l (Obj.mapSeq fun x => x ++ items2), toks := s.toks }) :=
  .of_wp fun prog w A R s h => by
    obtain ⟨hp, g, d, tk, os⟩ := s; obtain ⟨hl, hb, h⟩ := h; have f1 := AutoSeq1.idx_int; have f2 := AutoSeq1.sub_tuple_tuple; have f3 := AutoSeq1.sub_list_list; have f4 := AutoSeq1.sub_tuple_list; have f5 := AutoSeq1.sub_list_tuple
    have hz' : (items ++ items2).size ≤ sizeLine + 1 := by rw [Array.size_append]; exact hs2
    wp_walk using (wpAny_updateSeq hl rfl (hz := hc1) (_hz' := hz')), AutoSeq1.wpAny_loadPart' hl, AutoSeq1.wpAny_loadPart' hb; exact ⟨_, rfl, h⟩
noncomputable def rExtS (K : PySem.W.Frag) : V → List V → Hp → VK → Prop := fun x vs H Q => ∃ l b xs zs, x = .ref l ∧ vs = [.ref b] ∧ H l = some (.lst xs) ∧ SqL K H b zs ∧ xs.length + zs.length ≤ sizeLine ∧ Q .non (upd H l (.lst (xs ++ zs)))
theorem mt_extS : MtM X "list.extend" (rExtS X.K) := by
  intro pins s σ H x vs v us Q I rx rv h
  obtain ⟨l, b, xs, zs, rfl, rfl, hH, hB, hz, q⟩ := h
  cases rx
  obtain ⟨u, rfl, ru⟩ := rv.one
  cases ru
  obtain ⟨z, its, n, r, hl, e⟩ := I.lstM hH
  obtain ⟨its2, r2, ⟨⟨c2, d2, t2, sl2⟩, n2, e2, ec2, ed2, es2⟩, z2⟩ := I.list hB
  simp only at ec2 ed2 es2
  subst ec2 ed2 es2
  have hl2 := r2.length
  have hsz : its.toArray.size + its2.toArray.size ≤ sizeLine := by rw [List.size_toArray, List.size_toArray]; omega
  have hlong : ¬ (!its.toArray.isEmpty && Builtin.List.listTooLong (its.toArray.size + its2.toArray.size)) = true := by
    rw [notLongL hsz, Bool.and_false]
    exact Bool.false_ne_true
  refine call_meets F.slot_list_extend ⟨_, e, rfl⟩ F.entry_list_extend (F.args_list_extend_2 _ _)
    (list_extendW l b its.toArray its2.toArray n n2 none sl2 hlong (by rw [List.size_toArray]; omega) (by omega)) ⟨e, e2, ?_⟩
  refine ⟨.non, _, I.lset (its' := its ++ its2) hH e (by simp) (r.append r2) ?_, rfl, q⟩
  rw [List.length_append]
  omega
variable {apos cpos : Pos}
theorem S.ext (i : Nat) {x : Str} {npos : Pos} (he : E X B e f) (hN : X.N[i]? = some x := by rfl) (hv : Vis X.env.scope x := by first | exact Or.inl rfl | exact Or.inr (Or.inl rfl) | exact Or.inr (Or.inr rfl)) (hd : (x == ("__debug__" : Str)) = false := by decide) (hcd : (x == ("__classdict__" : Str)) = false := by decide)
    (hbase : attributeBase (.Name x npos) "extend" X.env (eval (.Name x npos) X.env) = eval (.Name x npos) X.env := by rfl)
    (hfew : ((backTo cpos (starEach [e] X.env)).all (fun x => !x.1) && (backToKw cpos (keywordEach [] X.env)).all (fun x => x.1.isSome)
      && decide ([e].length + ([] : List Keyword).length + (if ([] : List Keyword).isEmpty then 0 else 1) < 30)) = true := by rfl)
    (hline : (apos.endLine == cpos.line) = true := by rfl) (hs : starEach [e] X.env = (false, eval e X.env) :: starEach [] X.env := by exact star_of rfl) (hplain : (backTo cpos (starEach [] X.env)).any (·.1) = false := by rfl)
    (hsw : swapsWith (.Call (.Attribute (.Name x npos) "extend" apos) [e] [] cpos) none pos.line X.env = pure false := by rfl) :
    S X B (.Expr (.Call (.Attribute (.Name x npos) "extend" apos) [e] [] cpos) pos) (sExt i (lI asL f)) :=
  PS.imp (ps_expr (pe_bm PySem.F.plainAttrs_list PySem.F.slot_list_extend PySem.F.type_list_extend mt_extS (pe_var hN hv hd hcd) (A.cons he A.nil hs) hbase hfew hline hs hplain) hsw) fun D σ H ⟨F, η, o, sr, hd, q⟩ => by
    obtain ⟨es, h1, hd⟩ := bind_some hd
    split at hd
    · rename_i ds ed
      split at hd
      · rename_i hz
        cases hd
        obtain ⟨dl, h2, h3⟩ := bind_some h1
        cases dl <;> simp only [asL, Option.some.injEq, reduceCtorEq] at h3
        subst h3
        obtain ⟨p, xs, e1, e2, e3, e4, e5⟩ := sr.en.own i ds ed
        refine ⟨_, e1, .inl ⟨rfl, xs, SqL.of e4⟩, F, η, _, sr, (by show (f η).bind _ = _; rw [h2]; rfl), fun vs F1 H1 g1 rs => ?_⟩
        obtain ⟨y, r, rfl, ry, rr⟩ := rs.cons_of
        obtain rfl := rr.nil_of
        obtain ⟨b, zs, rfl, hq, r1⟩ := ry.lst
        have sr1 := sr.grow g1
        obtain ⟨p', xs', q1, q2, q3, q4, q5⟩ := sr1.en.own i ds ed
        rw [e1] at q1
        have ep : p = p' := by injection (Option.some.inj (Option.some.inj q1))
        subst ep
        refine ⟨p, b, xs', zs, rfl, rfl, q4, g1.fh.seq hq, by rw [q5.length, r1.length]; exact hz, ?_⟩
        refine q σ F1 _ ⟨⟨sr1.gr.ff, fun c u z => ?_, fun c u z => ?_, sr1.gr.new⟩, sr1.en.putOwn ed e1 (q5.append r1)⟩ g1.ff
        · have nb : c ≠ p := ne_of_none z q3
          rw [upd_ne nb]; exact sr1.gr.hh c u z
        · have nb : c ≠ p := ne_of_none z q2
          rw [upd_ne nb]; exact sr1.gr.fh c u z
      · cases hd
    · cases hd
end
end
noncomputable def signD (x : Str) : List PyData := x.cps.toList.map fun c => PyData.str ⟨#[c]⟩
noncomputable def enumD (ds : List PyData) (i : Nat) : List PyData := match ds with
  | [] => []
  | d :: r => .tuple [.int i, d] :: enumD r (i + 1)
theorem enumD_get : ∀ (ds : List PyData) (k i : Nat) (d : PyData), (enumD ds k)[i]? = some d → ∃ c, ds[i]? = some c ∧ d = .tuple [.int ((k + i : Nat) : Int), c]
  | [], k, i, d, h => by simp [enumD] at h
  | c :: r, k, 0, d, h => by
    simp [enumD] at h
    exact ⟨c, rfl, h.symm⟩
  | c :: r, k, i + 1, d, h => by
    have h' : (enumD r (k + 1))[i]? = some d := by simpa [enumD] using h
    obtain ⟨c', h1, h2⟩ := enumD_get r (k + 1) i d h'
    exact ⟨c', by simpa using h1, by rw [h2, show k + 1 + i = k + (i + 1) by omega]⟩
theorem enumD_len : ∀ (ds : List PyData) (k : Nat), (enumD ds k).length = ds.length
  | [], _ => rfl
  | _ :: r, k => by rw [enumD, List.length_cons, List.length_cons, enumD_len r]
noncomputable def Ite (x : Str) : It := ⟨fun i _ => i < x.cps.size, fun i H v H' => ∃ T c, H T = none ∧ x.cps[i]? = some c ∧ v = .ref T ∧ H' = upd H T (.tup [.int (i : Nat), .str ⟨#[c]⟩]), fun i _ => i = x.cps.size⟩
section
theorem turn_enum {P : Program} {w : World} {K : PySem.W.Frag} {elts : List Expr} {k : Nat} {tp : Pos} {e it : Addr} {x : Str} {St : Nat → Heap → Prop} (hei : e ≠ it)
    (D : ∀ A : Around, A.handled = none → Draws P w A it [it] x.cps.size (fun i v => ∃ c u, x.cps[i]? = some c ∧ v = .str ⟨#[c]⟩ u) St) (hcell : ∀ i h, St i h → ∃ o, h.get? it = some o ∧ ∀ v, o.data ≠ .cell v) :
    Turn P w K (.Tuple elts k tp) (Ite x) [e, it] e (fun i h => (∃ old, IsEnum h e it i old) ∧ St i h) where
  mem := by simp
  obj := fun i h st b hb => by
    obtain ⟨⟨old, he⟩, hs⟩ := st
    rcases List.mem_cons.mp hb with rfl | hb
    · exact ⟨_, he, fun v z => by cases z⟩
    · rw [List.mem_singleton.mp hb]
      exact hcell i h hs
  keep := fun i h h' st kk => by
    obtain ⟨⟨old, he⟩, hs⟩ := st
    refine ⟨⟨old, kk e (by simp) _ he⟩, ?_⟩
    exact (D { frames := none, units := 0, depth := 0, handled := none } rfl).frame i h h' hs fun b hb o q => kk b (by rw [List.mem_singleton.mp hb]; simp) o q
  item := by
    intro X hP hw hK hc i pins s σ H E I hf st hg
    subst hP hw hK
    have W := WalksT.enumerateD (prog := X.prog) (w := X.w) (A := X.A) (D X.A.in1 (I.ok.hd hc)) e hei (by simpa using hei) (by simp)
    refine W.item i s _ _ hg st fun T vals h' tk Pt hT hIs Md kp => ⟨.ref T, rfl, ?_⟩
    refine W.go elts k tp i T _ _ _ Md fun h'' st'' kp'' => ?_
    obtain ⟨t, xv, ⟨c, u, hcx, rfl⟩, rfl⟩ := Pt
    have nT : H T = none := I.hok.fresh hT
    have aT : T ∉ [e, it] := W.apart i T _ Md
    have kall : ∀ b o, b ∉ [e, it] → s.heap.get? b = some o → h''.get? b = some o := fun b o hb q => kp'' b o hb (kp b o hb q)
    have hIs'' : IsTup h'' T #[.int i t, .str ⟨#[c]⟩ u] := by
      obtain ⟨o, ho, hcl, n, hd⟩ := hIs
      exact ⟨o, kp'' T o aT ho, hcl, n, hd⟩
    have ltT : ∀ b o, s.heap.get? b = some o → b ≠ T := fun b o q => Nat.ne_of_lt (Nat.lt_of_lt_of_le (Heap.lt_size q) hT)
    have nfp : ∀ b o, H b = some o → b ∉ [e, it] := fun b o q hb => by rw [(hf b hb).1] at q; cases q
    have J : Inv X pins σ (upd H T (.tup [.int (i : Nat), .str ⟨#[c]⟩])) { s with heap := h'', toks := tk } := by
      refine I.step (h' := h'') (g' := s.gens) (d' := s.drawn) (t' := tk) (ch := [e, it]) (fun b hb => ⟨(hf b hb).2.2.2.1, (hf b hb).2.1, (hf b hb).2.2.2.2.1, (hf b hb).2.2.2.2.2⟩)
        (fun b o _ _ hb q _ => kall b o hb q) (fun b o _ _ hb q _ => ⟨o.slots, kall b o hb q⟩) (fun b o _ q n => by rw [upd_ne (ltT b o q)]; exact n) (fun b o hb q => ⟨o, kall b o hb q⟩)
        (fun b xs q => by rw [upd_ne (ne_of_none q nT)]; exact q) (fun b o xs q => by rw [upd_ne (ne_of_none q nT)]; exact q) (fun b ps q => ⟨#[], by rw [upd_ne (ne_of_none q nT), q]; simp⟩) (fun m hm => ?_) (fun b o q => ?_) I.bare
      · obtain ⟨o, es, ep, ho, r⟩ := hm
        refine ⟨o, es, ep, kall _ o (fun hb => ?_) ho, r⟩
        exact (hf _ hb).2.1 rfl
      · by_cases hb : b = T
        · subst hb
          rw [upd_same] at q
          cases q
          exact ⟨by show 2 ≤ sizeLine; decide, [.int i t, .str ⟨#[c]⟩ u], .cons ⟨t, rfl⟩ (.cons ⟨u, rfl⟩ .nil), hIs''⟩
        · rw [upd_ne hb] at q
          refine (I.hok b o q).stay (fun c' v hc' z => kall c' v ?_ z) (fun c' z => by rw [upd_ne (ne_of_none z nT)]; exact z) fun c' xs z => by rw [upd_ne (ne_of_none z nT)]; exact z
          rcases hc' with rfl | hc'
          · exact nfp _ _ q
          · exact nfp _ _ hc'
    refine ⟨.ref T, upd H T (.tup [.int (i : Nat), .str ⟨#[c]⟩]), J, rfl, ⟨T, c, nT, hcx, rfl, rfl⟩, st'', fun b hb => ?_⟩
    have nb : b ≠ T := fun z => aT (by rw [← z]; exact hb)
    rw [upd_ne nb]; exact (hf b hb).1
  done := by
    intro X hP hw hK hc i pins s σ H E I hf st hg
    subst hP hw hK
    have W := WalksT.enumerateD (prog := X.prog) (w := X.w) (A := X.A) (D X.A.in1 (I.ok.hd hc)) e hei (by simpa using hei) (by simp)
    have hg' : i = x.cps.size := hg
    rw [hg'] at st
    refine W.done s _ _ st fun h' tk kp => ⟨rfl, ?_⟩
    have nfp : ∀ b o, H b = some o → b ∉ [e, it] := fun b o q hb => by rw [(hf b hb).1] at q; cases q
    refine I.step (h' := h') (g' := s.gens) (d' := s.drawn) (t' := tk) (ch := [e, it]) (fun b hb => ⟨(hf b hb).2.2.2.1, (hf b hb).2.1, (hf b hb).2.2.2.2.1, (hf b hb).2.2.2.2.2⟩)
      (fun b o _ _ hb q _ => kp b o hb q) (fun b o _ _ hb q _ => ⟨o.slots, kp b o hb q⟩) (fun _ _ _ _ n => n) (fun b o hb q => ⟨o, kp b o hb q⟩)
      (fun _ _ q => q) (fun _ _ _ q => q) (fun b ps q => ⟨#[], by rw [q]; simp⟩) (fun m hm => ?_) (fun b o q => ?_) I.bare
    · obtain ⟨o, es, ep, ho, r⟩ := hm
      exact ⟨o, es, ep, kp _ o (fun hb => (hf _ hb).2.1 rfl) ho, r⟩
    · refine (I.hok b o q).stay (fun c' v hc' z => kp c' v ?_ z) (fun _ z => z) fun _ _ z => z
      rcases hc' with rfl | hc'
      · exact nfp _ _ q
      · exact nfp _ _ hc'
  self := fun A i s Q E st h => by
    obtain ⟨⟨old, he⟩, hs⟩ := st
    exact wpAny_pyIter_enum he h
variable {X : Cx} {B : Bd} {a : Expr} {fs : En → Option (List PyData)} {pos pp : Pos}
noncomputable def enS (ds : List PyData) : Option (List PyData) := match ds with
  | [.str x] => some (enumD (signD x) 0)
  | _ => none
theorem itp_enum {K : PySem.W.Frag} {F : Hp} {x : Str} : ItP K (Ite x) F (enumD (signD x) 0) := fun F1 H1 i s1 s2 => by
  have hl : (enumD (signD x) 0).length = x.cps.size := by rw [enumD_len]; unfold signD; rw [List.length_map, Array.length_toList]
  refine ⟨fun d e => ?_, fun e => by show i = _; rw [e, hl]⟩
  have hi : i < x.cps.size := by rw [← hl]; exact (List.getElem?_eq_some_iff.mp e).1
  refine ⟨hi, fun v H2 y => ?_⟩
  obtain ⟨T, c, hT, hc, rfl, rfl⟩ := y
  obtain ⟨cd, h1, h2⟩ := enumD_get _ _ _ _ e
  have : cd = .str ⟨#[c]⟩ := by
    unfold signD at h1
    rw [List.getElem?_map] at h1
    have hc' : x.cps.toList[i]? = some c := by simpa using hc
    rw [hc'] at h1
    exact (Option.some.inj h1).symm
  subst this
  rw [Nat.zero_add] at h2
  subst h2
  have g := Gr.one (o := .tup [.int (i : Nat), .str ⟨#[c]⟩]) s2 hT
  exact ⟨_, g, rel_tup (SqT.of upd_same) (.cons rel_int (.cons rel_str .nil))⟩
theorem I.enum {elts : List Expr} {k : Nat} {tp : Pos} (hc : X.calm = true) (hm : X.mg "enumerate" = none) (ha : A X B [a] fs) (hg : Gl X "enumerate" := by rfl) (hs : starEach [a] X.env = [(false, eval a X.env)] := by exact star_of rfl) :
    I X B (.Tuple elts k tp) (.Call (.Name "enumerate" pp) [a] [] pos) (fun η => (fs η).bind enS) := by
  intro pins s σ H R I ⟨F, η, ds, sr, hd, q⟩
  obtain ⟨es, h1, hd⟩ := bind_some hd
  unfold enS at hd
  split at hd
  · rename_i x
    cases hd
    refine Call_ (ld_blt I hg hm boot_enumerate (PyProof.Rows.callWith_type1 (thn (ha pos pins s σ H (fun vs H1 => ∃ F', Gr F H F' H1 ∧ RelL X.K F' [.str x] vs) I ⟨F, η, _, sr, h1, fun vs F' H' g r => ⟨F', g, r⟩⟩) fun us s1 ⟨vs, H1, I1, r1, F1, g1, rl⟩ => ?_) hs rfl))
    obtain ⟨y, r, rfl, ry, rr⟩ := rl.cons_of
    obtain rfl := rr.nil_of
    obtain ⟨u, rfl, ru⟩ := vals1 r1
    rw [ry.str] at ru
    obtain ⟨t, rfl⟩ := ru
    refine call_enumerate_str fun h' he hit hsz hk => ?_
    refine wpAny_pyIter_enum he ?_
    have I2 : Inv X pins σ H1 { s1 with heap := h' } := I1.kept (t' := s1.toks) hk
    have nw : ∀ b, s1.heap.objs.size ≤ b → FpOk X pins H1 b := fun b hb => I1.fpOk hb (I1.hok.fresh hb)
    have fpo : ∀ b ∈ [s1.heap.objs.size + 1, s1.heap.objs.size], FpOk X pins H1 b := fun b hb => by
      rcases List.mem_cons.mp hb with rfl | hb
      · exact nw _ (Nat.le_succ _)
      · rw [List.mem_singleton.mp hb]; exact nw _ (Nat.le_refl _)
    have cel : ∀ (ty : String) (i : Nat) (h : Heap), h.IsStrIter s1.heap.objs.size ty x t i → ∃ o, h.get? s1.heap.objs.size = some o ∧ ∀ v, o.data ≠ .cell v := fun ty i h st => by
      obtain ⟨o, ho, hcl, hd⟩ := st
      exact ⟨o, ho, fun v z => by rw [hd] at z; cases z⟩
    cases ha' : x.cps.all (· < 128)
    · have hit' : h'.IsStrIter s1.heap.objs.size "str_iterator" x t 0 := by simpa [strIterType, ha'] using hit
      exact ⟨_, _, _, _, H1, rfl, I2, turn_enum (Nat.succ_ne_self _) (fun A hA => Draws.strWide hA _ x t) (cel _), ⟨⟨_, he⟩, hit'⟩, fpo, q _ F1 H1 g1 itp_enum⟩
    · have hit' : h'.IsStrIter s1.heap.objs.size "str_ascii_iterator" x t 0 := by simpa [strIterType, ha'] using hit
      exact ⟨_, _, _, _, H1, rfl, I2, turn_enum (Nat.succ_ne_self _) (fun A hA => Draws.strAscii hA _ x t) (cel _), ⟨⟨_, he⟩, hit'⟩, fpo, q _ F1 H1 g1 itp_enum⟩
  · cases hd
end
theorem lt_total : ∀ a b : List Nat, ltCps a b = true → ltCps b a = false
  | [], [], h => by simp [ltCps] at h
  | [], _ :: _, _ => by simp [ltCps]
  | _ :: _, [], h => by simp [ltCps] at h
  | x :: r, y :: t, h => by
    simp only [ltCps, Bool.or_eq_true, decide_eq_true_eq, Bool.and_eq_true, beq_iff_eq] at h
    simp only [ltCps, Bool.or_eq_false_iff, decide_eq_false_iff_not, Bool.and_eq_false_imp, beq_iff_eq]
    rcases h with h | ⟨rfl, h⟩
    · exact ⟨by omega, fun e => by omega⟩
    · exact ⟨by omega, fun _ => lt_total r t h⟩
theorem lt_anti : ∀ a b : List Nat, ltCps a b = false → ltCps b a = false → a = b
  | [], [], _, _ => rfl
  | [], _ :: _, h, _ => by simp [ltCps] at h
  | _ :: _, [], _, h => by simp [ltCps] at h
  | x :: r, y :: t, h, k => by
    simp only [ltCps, Bool.or_eq_false_iff, decide_eq_false_iff_not, Bool.and_eq_false_imp, beq_iff_eq] at h k
    have e : x = y := by omega
    subst e
    rw [lt_anti r t (h.2 rfl) (k.2 rfl)]
theorem lt_trans : ∀ a b c : List Nat, ltCps b a = false → ltCps c b = false → ltCps c a = false
  | [], [], c, _, h => h
  | [], _ :: _, [], _, h => by simp [ltCps]
  | [], y :: t, z :: u, _, _ => by simp [ltCps]
  | x :: r, [], _, h, _ => by simp [ltCps] at h
  | x :: r, y :: t, [], _, h => by simp [ltCps] at h
  | x :: r, y :: t, z :: u, h, k => by
    simp only [ltCps, Bool.or_eq_false_iff, decide_eq_false_iff_not, Bool.and_eq_false_imp, beq_iff_eq] at h k ⊢
    refine ⟨by omega, fun e => ?_⟩
    subst e
    have e : y = z := by omega
    subst e
    exact lt_trans r t u (h.2 rfl) (k.2 rfl)
noncomputable def leS (a b : Str) : Bool := !ltCps b.cps.toList a.cps.toList
theorem str_ext {a b : Str} (h : a.cps.toList = b.cps.toList) : a = b := by
  obtain ⟨a⟩ := a
  obtain ⟨b⟩ := b
  have : a = b := Array.toList_inj.mp h
  rw [this]
theorem rising_pw : ∀ (l : List Str) (p : Str), risingS p l = true → (p :: l).Pairwise (fun a b => leS a b = true)
  | [], p, _ => by simp
  | x :: r, p, h => by
    have h' : (!ltCps x.cps.toList p.cps.toList && risingS x r) = true := h
    rw [Bool.and_eq_true] at h'
    have ih := rising_pw r x h'.2
    refine List.pairwise_cons.mpr ⟨fun b hb => ?_, ih⟩
    rcases List.mem_cons.mp hb with rfl | hb
    · exact h'.1
    · have h2 := List.rel_of_pairwise_cons ih hb
      unfold leS at h2 ⊢
      have h1 := h'.1
      rw [Bool.not_eq_true'] at h1 h2 ⊢
      exact lt_trans _ _ _ h1 h2
theorem sortedS_pw : ∀ (l : List Str), sortedS l = true → l.Pairwise (fun a b => leS a b = true)
  | [], _ => .nil
  | x :: r, h => rising_pw r x h
noncomputable def srtS (ss : List Str) : List Str := ss.mergeSort leS
theorem srtS_pw (ss : List Str) : (srtS ss).Pairwise (fun a b => leS a b = true) := by
  refine List.pairwise_mergeSort (le := leS) (fun a b c h k => ?_) (fun a b => ?_) ss
  · unfold leS at h k ⊢
    rw [Bool.not_eq_true'] at h k ⊢
    exact lt_trans _ _ _ h k
  · unfold leS
    cases e : ltCps b.cps.toList a.cps.toList with
    | false => rfl
    | true => rw [lt_total _ _ e]; rfl
theorem srtS_uniq {ss ts : List Str} (p : ts.Perm ss) (h : sortedS ts = true) : ts = srtS ss := by
  refine List.Perm.eq_of_pairwise (le := fun a b => leS a b = true) (fun a b _ _ h k => ?_) (sortedS_pw ts h) (srtS_pw ss) (p.trans (List.mergeSort_perm ss leS).symm)
  unfold leS at h k
  rw [Bool.not_eq_true'] at h k
  exact str_ext (lt_anti _ _ k h)
noncomputable def srtI (ns : List Int) : List Int := ns.mergeSort fun a b => decide (a ≤ b)
theorem srtI_pw (ns : List Int) : (srtI ns).Pairwise (· ≤ ·) := by
  have h := List.pairwise_mergeSort (le := fun (a b : Int) => decide (a ≤ b)) (fun a b c h k => by simp at h k ⊢; omega) (fun a b => by simp; omega) ns
  exact h.imp fun h => by simpa using h
theorem srtI_uniq {ns ms : List Int} (p : ms.Perm ns) (h : ms.Pairwise (· ≤ ·)) : ms = srtI ns :=
  List.Perm.eq_of_pairwise (le := (· ≤ ·)) (fun a b _ _ h k => by omega) h (srtI_pw ns) (p.trans (List.mergeSort_perm ns _).symm)
section
variable {X : Cx}
theorem strsAre_of : ∀ {ss : List Str} {us : List Value}, Vals (ss.map V.str) us → StrsAre us ss
  | [], _, .nil => .nil
  | s :: r, _, .cons h t => by
    obtain ⟨k, rfl⟩ := h
    exact .cons s k (strsAre_of t)
theorem vals_strs : ∀ {ss : List Str} {us : List Value}, StrsAre us ss → Vals (ss.map V.str) us
  | _, _, .nil => .nil
  | _, _, .cons y t h => .cons ⟨t, rfl⟩ (vals_strs h)
noncomputable def rSrtS (K : PySem.W.Frag) : List V → Hp → VK → Prop := fun xs H Q => ∃ (p : Addr) (ss : List Str), xs = [.ref p] ∧ SqL K H p (ss.map V.str) ∧ ss.length < 64 ∧ ∀ l, H l = none → Q (.ref l) (upd H l (.lst ((srtS ss).map V.str)))
noncomputable def rSrtI (K : PySem.W.Frag) : List V → Hp → VK → Prop := fun xs H Q => ∃ (p : Addr) (ns : List Int), xs = [.ref p] ∧ SqL K H p (ns.map V.int) ∧ ns.length < 64 ∧ ∀ l, H l = none → Q (.ref l) (upd H l (.lst ((srtI ns).map V.int)))
theorem call_srtS : CallR X (.builtin "sorted") (rSrtS X.K) := by
  intro pins s σ H xs us Q I r h
  obtain ⟨p, ss, rfl, hq, h64, q⟩ := h
  obtain ⟨u, rfl, rx⟩ := vals1 r
  cases rx
  obtain ⟨its, rv, pl, hz⟩ := I.list hq
  have hl := rv.length
  rw [List.length_map] at hl hz
  refine sorted_strs pl.isList (strsAre_of rv) (by omega) fun out ss' hS hp hs => ?_
  have e := srtS_uniq hp hs
  subst e
  obtain ⟨e', he'⟩ := sortedAll_at s.heap its out
  have hv := vals_strs hS
  refine ⟨.ref (s.heap.objs.size + 1), _, I.laid (t' := s.toks) (o := .lst ((srtS ss).map V.str)) (fun b o eb => sortedAll_old eb) (Nat.le_succ _) ?_, rfl, q _ (I.hok.fresh (Nat.le_succ _))⟩
  refine ⟨?_, out.toList, e', hv, by simpa using he'⟩
  rw [List.length_map, hp.length_eq]
  exact hz
theorem call_srtI : CallR X (.builtin "sorted") (rSrtI X.K) := by
  intro pins s σ H xs us Q I r h
  obtain ⟨p, ns, rfl, hq, h64, q⟩ := h
  obtain ⟨u, rfl, rx⟩ := vals1 r
  cases rx
  obtain ⟨its, rv, pl, hz⟩ := I.list hq
  have hl := rv.length
  rw [List.length_map] at hl hz
  refine sorted_ints pl.isList (intsAre_of rv) (by omega) fun out ns' hS hp hs => ?_
  have e := srtI_uniq hp hs
  subst e
  obtain ⟨e', he'⟩ := sortedAll_at s.heap its out
  have hv := vals_ints hS
  refine ⟨.ref (s.heap.objs.size + 1), _, I.laid (t' := s.toks) (o := .lst ((srtI ns).map V.int)) (fun b o eb => sortedAll_old eb) (Nat.le_succ _) ?_, rfl, q _ (I.hok.fresh (Nat.le_succ _))⟩
  refine ⟨?_, out.toList, e', hv, by simpa using he'⟩
  rw [List.length_map, hp.length_eq]
  exact hz
noncomputable def asSs : List PyData → Option (List Str)
  | [] => some []
  | .str i :: r => (asSs r).bind fun ns => some (i :: ns)
  | _ :: _ => none
theorem asSs_some : ∀ {ds : List PyData} {ns : List Str}, asSs ds = some ns → ds = ns.map PyData.str
  | [], ns, h => by cases h; rfl
  | .str i :: r, ns, h => by
    obtain ⟨ms, h1, h2⟩ := bind_some h
    cases h2
    rw [asSs_some h1]; rfl
  | .none :: _, _, h => by cases h
  | .bool _ :: _, _, h => by cases h
  | .int _ :: _, _, h => by cases h
  | .list _ :: _, _, h => by cases h
  | .tuple _ :: _, _, h => by cases h
  | .dict _ :: _, _, h => by cases h
theorem RelL.strs_of {K : PySem.W.Frag} {F : Hp} : ∀ {ns : List Str} {xs : List V}, RelL K F (ns.map PyData.str) xs → xs = ns.map V.str
  | [], xs, h => h.nil_of
  | n :: r, xs, h => by
    obtain ⟨x, ys, rfl, h1, h2⟩ := h.cons_of
    rw [h1.str, RelL.strs_of h2]; rfl
theorem RelL.strs {K : PySem.W.Frag} {F : Hp} : ∀ (ns : List Str), RelL K F (ns.map PyData.str) (ns.map V.str)
  | [] => .nil
  | _ :: r => .cons rel_str (RelL.strs r)
noncomputable def pSort (ds : List PyData) : Option PyData := match ds with
  | [.list xs] => if xs.length < 64 then (match asSs xs with
    | some ss => some (.list ((srtS ss).map PyData.str))
    | none => (asIs xs).bind fun ns => some (.list ((srtI ns).map PyData.int))) else none
  | _ => none
theorem ad_srt {K : PySem.W.Frag} : AdA K (fun xs H Q => rSrtS K xs H Q ∨ rSrtI K xs H Q) pSort := fun F H xs ds d Q sm rs e q => by
  unfold pSort at e
  split at e
  · rename_i ys
    split at e
    · rename_i h64
      obtain ⟨x, r, rfl, rx, rr⟩ := rs.cons_of
      obtain rfl := rr.nil_of
      obtain ⟨a, zs, rfl, hq, r1⟩ := rx.lst
      split at e
      · rename_i ss hss
        cases e
        have e1 := asSs_some hss
        subst e1
        have e2 := r1.strs_of
        subst e2
        refine .inl ⟨a, ss, rfl, sm.seq hq, by simpa using h64, fun p hp => ?_⟩
        have g := Gr.one (o := .lst ((srtS ss).map V.str)) sm hp
        exact q _ _ _ g (rel_lst (SqL.of upd_same) (RelL.strs _))
      · obtain ⟨ns, h1, h2⟩ := bind_some e
        cases h2
        have e1 := asIs_some h1
        subst e1
        have e2 := r1.ints_of
        subst e2
        refine .inr ⟨a, ns, rfl, sm.seq hq, by simpa using h64, fun p hp => ?_⟩
        have g := Gr.one (o := .lst ((srtI ns).map V.int)) sm hp
        exact q _ _ _ g (rel_lst (SqL.of upd_same) (RelL.ints _))
    · cases e
  · cases e
variable {B : Bd} {a b e : Expr} {es : List Expr} {f g : En → Option PyData} {fs : En → Option (List PyData)} {pos pp apos cpos : Pos}
theorem E.sorted (hm : X.mg "sorted" = none) (ha : A X B [e] fs) (hg : Gl X "sorted" := by rfl) (he : starEach [e] X.env = (false, eval e X.env) :: starEach [] X.env := by exact star_of rfl) (hpl : (backTo pos (starEach [] X.env)).any (·.1) = false := by rfl) : E X B (.Call (.Name "sorted" pp) [e] [] pos) (lA pSort fs) :=
  E.callB (call_srtS.or call_srtI) ad_srt hm boot_sorted ha hg (by decide) (by decide) he hpl
noncomputable def rIdx (K : PySem.W.Frag) : V → List V → Hp → VK → Prop := fun x vs H Q => ∃ l xs y j, x = .ref l ∧ vs = [y] ∧ SqL K H l xs ∧ flatV y = true ∧ xs.all flatV = true ∧ xs.findIdx? (fun z => eqV z y) = some j ∧ Q (.int (j : Nat)) H
theorem mt_idx : MtM X "list.index" (rIdx X.K) := by
  intro pins s σ H x vs v us Q I rx rv h
  obtain ⟨l, xs, y, j, rfl, rfl, hq, fy, fxs, hj, q⟩ := h
  cases rx
  obtain ⟨u, rfl, ru⟩ := rv.one
  obtain ⟨its, r, ⟨⟨c2, d2, t2, sl2⟩, n2, e2, ec2, ed2, es2⟩, z2⟩ := I.list hq
  simp only at ec2 ed2 es2
  subst ec2 ed2 es2
  have hl := r.length
  obtain ⟨hlt, h1, h2⟩ := List.findIdx?_eq_some_iff_getElem.mp hj
  have at' : ∀ (m : Nat) (hm : m < xs.length), eqU y (its[m]'(by omega)) = eqV xs[m] y := fun m hm => by
    obtain ⟨w, hw, rw'⟩ := r.get (i := m) (x := xs[m]) (List.getElem?_eq_getElem hm)
    have : its[m]'(by omega) = w := by
      rw [List.getElem?_eq_getElem (by omega)] at hw
      exact Option.some.inj hw
    rw [this]
    exact eqU_of rw' (List.all_eq_true.mp fxs _ (List.getElem_mem hm))
  have hn := line63
  refine call_meets F.slot_list_index ⟨_, e2, rfl⟩ F.entry_list_index (F.args_list_index_2 _ _) (SeqAt.list_indexAt l its.toArray n2 none sl2 u (eqU y) j (by simp; omega) (by omega) ?_ ?_) ⟨e2, fun w hw => mem_eqAt ru fy r fxs w (by simpa using hw), ?_⟩
  · have := at' j hlt
    simpa [this] using h1
  · intro m hm hmj
    have hm' : m < xs.length := by simp at hm; omega
    have := at' m hm'
    have h3 := h2 m hmj
    simpa [this] using h3
  · exact ⟨.int (j : Nat), H, I.tok _, ⟨_, rfl⟩, q⟩
noncomputable def pIdx (x y : PyData) : Option PyData := match x with
  | .list ds => if flatD y = true ∧ ds.all flatD = true then (ds.findIdx? fun z => PyData.eqv z y).bind fun j => some (.int (j : Nat)) else none
  | _ => none
theorem find_of {K : PySem.W.Frag} {F : Hp} {d : PyData} {x : V} (hd : flatD d = true) (r : Rel K F d x) : ∀ {ds : List PyData} {vs : List V}, ds.all flatD = true → RelL K F ds vs → vs.findIdx? (fun z => eqV z x) = ds.findIdx? fun y => PyData.eqv y d
  | [], vs, _, rs => by rw [rs.nil_of]; rfl
  | e :: ds, vs, h, rs => by
    obtain ⟨y, xs, rfl, r1, r2⟩ := rs.cons_of
    rw [List.all_cons, Bool.and_eq_true] at h
    rw [List.findIdx?_cons, List.findIdx?_cons, eqV_of h.1 hd r1 r, find_of hd r h.2 r2]
theorem E.index (ha : E X B a f) (he : E X B e g) (hbase : attributeBase a "index" X.env (eval a X.env) = eval a X.env := by rfl)
    (hfew : ((backTo cpos (starEach [e] X.env)).all (fun x => !x.1) && (backToKw cpos (keywordEach [] X.env)).all (fun x => x.1.isSome)
      && decide ([e].length + ([] : List Keyword).length + (if ([] : List Keyword).isEmpty then 0 else 1) < 30)) = true := by rfl)
    (hline : (apos.endLine == cpos.line) = true := by rfl) (hs : starEach [e] X.env = (false, eval e X.env) :: starEach [] X.env := by exact star_of rfl) (hplain : (backTo cpos (starEach [] X.env)).any (·.1) = false := by rfl) :
    E X B (.Call (.Attribute a "index" apos) [e] [] cpos) (l2 pIdx f g) :=
  PE.imp (pe_bm PySem.F.plainAttrs_list PySem.F.slot_list_index PySem.F.type_list_index mt_idx ha (A.cons he A.nil hs) hbase hfew hline hs hplain) fun σ H Q ⟨F, η, d, sr, hd, q⟩ => by
    obtain ⟨x, hx, hd⟩ := bind_some hd
    obtain ⟨y, hy, hd⟩ := bind_some hd
    cases x <;> simp only [pIdx, reduceCtorEq] at hd
    rename_i ds
    split at hd
    · rename_i hf
      obtain ⟨j, hj, hd⟩ := bind_some hd
      cases hd
      refine ⟨F, η, _, sr, hx, fun v F1 H1 g1 rv => ?_⟩
      obtain ⟨p, xs, rfl, hq, r1⟩ := rv.lst
      refine ⟨.inl ⟨rfl, xs, g1.fh.seq hq⟩, F1, η, [y], sr.grow g1, (by show (g η).bind _ = _; rw [hy]; rfl), fun vs F2 H2 g2 rs => ?_⟩
      obtain ⟨w, r, rfl, rw', rr⟩ := rs.cons_of
      obtain rfl := rr.nil_of
      have r1' := r1.mono g2.ff
      exact ⟨p, xs, w, j, rfl, rfl, g2.fh.seq (g2.ff.seq hq), flat_of hf.1 rw', flats_of hf.2 r1', by rw [find_of hf.1 rw' hf.2 r1']; exact hj, q _ F2 H2 (g1.trans g2) rel_int⟩
    · cases hd
end
noncomputable def compChk (N : List Str) (sc scope : Scope) (N' : List Str) (mp : List (Option Nat)) : Bool :=
  decide (scope.kind = .function) && decide (sc.kind = .function) && decide (∀ x ∈ scope.names, x.2 ≠ .cell) && decide (∀ x ∈ scope.names, x.2 = .local → scope.names.lookup x.1 = some .local) &&
  decide (∀ x ∈ scope.names, x.2 = .free → sc.names.lookup x.1 = some .cell) && decide (mp.length = N'.length) &&
  (N'.zip mp).all fun p => match p.2 with
    | none => true
    | some j => decide (N[j]? = some p.1) && decide (scope.names.lookup p.1 = some .free)
theorem lookup_relabel_free {env : Env} (hk : env.scope.kind = .function) : ∀ {names : List (Str × NameKind)} {x : Str}, names.lookup x = some .free → env.kindOf x = some .cell →
    (names.map fun (n, k) => if (k == NameKind.free && env.scope.kind == .function && env.kindOf n == some .cell) then (n, NameKind.cell) else (n, k)).lookup x = some .cell
  | [], _, h, _ => by simp at h
  | (n, k) :: r, x, h, hc => by
    have ih := @lookup_relabel_free env hk r x
    show List.lookup x ((if (k == NameKind.free && env.scope.kind == .function && env.kindOf n == some .cell) = true then (n, NameKind.cell) else (n, k)) :: _) = _
    cases hx : x == n with
    | true =>
      have en : x = n := by simpa using hx
      subst en
      simp only [List.lookup_cons, hx] at h
      cases h
      rw [if_pos (by rw [hk, hc]; rfl)]
      simp [List.lookup_cons]
    | false =>
      simp only [List.lookup_cons, hx] at h
      split <;> simp only [List.lookup_cons, hx] <;> exact ih h hc
theorem CompSc.of {X : Cx} {scope : Scope} {N' : List Str} {mp : List (Option Nat)} (h : compChk X.N X.env.scope scope N' mp = true) : CompSc X scope N' mp := by
  unfold compChk at h
  simp only [Bool.and_eq_true, decide_eq_true_eq] at h
  obtain ⟨⟨⟨⟨⟨⟨h1, h0⟩, h2⟩, h3⟩, h4⟩, h5⟩, h6⟩ := h
  refine ⟨h1, h2, h3, fun x hx hf => .inl (h4 x hx hf), h5, fun i x j e1 e2 => ?_⟩
  have hm : (x, some j) ∈ N'.zip mp := by
    have : (N'.zip mp)[i]? = some (x, some j) := by rw [List.getElem?_zip_eq_some]; exact ⟨e1, e2⟩
    exact List.mem_of_getElem? this
  have h7 := List.all_eq_true.mp h6 _ hm
  simp only [Bool.and_eq_true, decide_eq_true_eq] at h7
  have hmem : (x, NameKind.free) ∈ scope.names := PySem.mem_of_lookup h7.2
  exact ⟨h7.1, hmem, .inl (lookup_relabel_free h0 h7.2 (h4 _ hmem rfl))⟩
theorem E.globI {X : Cx} {B : Bd} {x : Str} {i : Int} {t : Tok} {pos : Pos} (hm : X.mg x = some (.int i t)) (hg : Gl X x := by rfl) (hd : (x == ("__debug__" : Str)) = false := by decide) : E X B (.Name x pos) (eC (.int i)) := E.glob hm (v := .int i) ⟨t, rfl⟩ (fun _ => rel_int) hg hd
theorem E.globS {X : Cx} {B : Bd} {x : Str} {i : Str} {t : Tok} {pos : Pos} (hm : X.mg x = some (.str i t)) (hg : Gl X x := by rfl) (hd : (x == ("__debug__" : Str)) = false := by decide) : E X B (.Name x pos) (eC (.str i)) := E.glob hm (v := .str i) ⟨t, rfl⟩ (fun _ => rel_str) hg hd
theorem tg_len1 {t : En → PyData → Option En} : ∀ η ds η', tgCons t tgNil η ds = some η' → ds.length = 1 := fun η ds η' h => by
  match ds, h with
  | [_], _ => rfl
  | _ :: _ :: _, h => obtain ⟨_, _, h⟩ := bind_some h; cases h
theorem tg_len2 {t u : En → PyData → Option En} : ∀ η ds η', tgCons t (tgCons u tgNil) η ds = some η' → ds.length = 2 := fun η ds η' h => by
  match ds, h with
  | d :: r, h =>
    obtain ⟨η1, _, h⟩ := bind_some h
    rw [List.length_cons, tg_len1 _ _ _ h]
theorem tg_len3 {t u v : En → PyData → Option En} : ∀ η ds η', tgCons t (tgCons u (tgCons v tgNil)) η ds = some η' → ds.length = 3 := fun η ds η' h => by
  match ds, h with
  | d :: r, h =>
    obtain ⟨η1, _, h⟩ := bind_some h
    rw [List.length_cons, tg_len2 _ _ _ h]
theorem tg_len4 {t u v w : En → PyData → Option En} : ∀ η ds η', tgCons t (tgCons u (tgCons v (tgCons w tgNil))) η ds = some η' → ds.length = 4 := fun η ds η' h => by
  match ds, h with
  | d :: r, h =>
    obtain ⟨η1, _, h⟩ := bind_some h
    rw [List.length_cons, tg_len3 _ _ _ h]
theorem CompSc.of' {X : Cx} {scope : Scope} {N' : List Str} {mp : List (Option Nat)} (N : List Str) (sc : Scope) (hN : X.N = N) (hs : X.env.scope = sc) (h : compChk N sc scope N' mp = true) : CompSc X scope N' mp := CompSc.of (by rw [hN, hs]; exact h)
noncomputable def tyD : PyData → String
  | .none => "NoneType"
  | .bool _ => "bool"
  | .int _ => "int"
  | .str _ => "str"
  | .list _ => "list"
  | .tuple _ => "tuple"
  | .dict _ => "dict"
noncomputable def isB (T : String) (d : PyData) : Bool := match d with
  | .bool _ => T == "bool" || T == "int"
  | d => tyD d == T
section
variable {X : Cx}
noncomputable def rIsin (K : PySem.W.Frag) (T : String) : List V → Hp → VK → Prop := fun xs H Q => ∃ x F d, xs = [x, .ty T] ∧ Same F H ∧ Rel K F d x ∧ Q (.bl (isB T d)) H
variable {B : Bd} {a b e : Expr} {es : List Expr} {f g : En → Option PyData} {fs : En → Option (List PyData)} {pos pp tp apos cpos pos' : Pos} {sts : List Stmt} {u : En → Option Out} {p : En → Option Bool}
noncomputable def pIsin (T : String) (d : PyData) : Option PyData := some (.bool (isB T d))
noncomputable def asBs : List PyData → Option (List Bool)
  | [] => some []
  | .bool i :: r => (asBs r).bind fun ns => some (i :: ns)
  | _ :: _ => none
theorem asBs_some : ∀ {ds : List PyData} {ns : List Bool}, asBs ds = some ns → ds = ns.map PyData.bool
  | [], ns, h => by cases h; rfl
  | .bool i :: r, ns, h => by
    obtain ⟨ms, h1, h2⟩ := bind_some h
    cases h2
    rw [asBs_some h1]; rfl
  | .none :: _, _, h => by cases h
  | .str _ :: _, _, h => by cases h
  | .int _ :: _, _, h => by cases h
  | .list _ :: _, _, h => by cases h
  | .tuple _ :: _, _, h => by cases h
  | .dict _ :: _, _, h => by cases h
theorem asBs_bools (ns : List Bool) : asBs (ns.map PyData.bool) = some ns := by
  induction ns with
  | nil => rfl
  | cons n r ih => rw [List.map_cons]; unfold asBs; rw [ih]; rfl
theorem RelL.bools_of {K : PySem.W.Frag} {F : Hp} : ∀ {ns : List Bool} {xs : List V}, RelL K F (ns.map PyData.bool) xs → xs = ns.map V.bl
  | [], xs, h => h.nil_of
  | n :: r, xs, h => by
    obtain ⟨x, ys, rfl, h1, h2⟩ := h.cons_of
    rw [h1.bl, RelL.bools_of h2]; rfl
theorem range_any (bs : List Bool) : (List.range bs.length).any (fun i => bs.getD i false) = bs.any id := by
  rw [Bool.eq_iff_iff, List.any_eq_true, List.any_eq_true]
  constructor
  · rintro ⟨i, hi, h⟩
    have hi := List.mem_range.mp hi
    rw [List.getD_eq_getElem?_getD, List.getElem?_eq_getElem hi] at h
    exact ⟨_, List.getElem_mem hi, h⟩
  · rintro ⟨x, hx, h⟩
    obtain ⟨i, hi, rfl⟩ := List.mem_iff_getElem.mp hx
    exact ⟨i, List.mem_range.mpr hi, by rw [List.getD_eq_getElem?_getD, List.getElem?_eq_getElem hi]; exact h⟩
noncomputable def rBools (K : PySem.W.Frag) (r : List Bool → Bool) : List V → Hp → VK → Prop := fun xs H Q => ∃ (p : Addr) (bs : List Bool), xs = [.ref p] ∧ SqL K H p (bs.map V.bl) ∧ Q (.bl (r bs)) H
theorem bools_walk (hc : X.calm = true) {pins : List (Addr × Obj)} {s : Shared} {σ : St} {H : Hp} {p : Addr} {bs : List Bool} {Q : Bool → Value → Shared → Prop} {r : (Nat → Bool) → Nat → Bool} (I : Inv X pins σ H s) (hq : SqL X.K H p (bs.map V.bl))
    (hQ : ∀ h' tk, (∀ b o, s.heap.get? b = some o → h'.get? b = some o) → Q true (.bool (r (fun i => bs.getD i false) bs.length)) { s with heap := h', toks := tk }) :
    wpAny (model X.prog X.w) X.A.in1 (pyIter (.ref p)) (fun it s₂ => ∃ I fp wr n P St tr, it = .ref I ∧ Walks X.prog X.w X.A.in1 I fp wr n P St ∧ St 0 s₂.heap ∧ TruthOf X.prog X.w X.A.in1 P tr ∧
      ∀ h' tk, (∀ b o, b ∉ wr → s₂.heap.get? b = some o → h'.get? b = some o) → Q true (.bool (r tr n)) { s₂ with heap := h', toks := tk }) X.xe s := by
  obtain ⟨its, rv, pl, hz⟩ := I.list hq
  have hl := rv.length
  rw [List.length_map] at hl
  have hlt : p < s.heap.objs.size := by
    obtain ⟨o, ho, _⟩ := pl.isList
    exact Heap.lt_size ho
  refine wpAny_pyIter_list pl.isList ?_
  refine ⟨s.heap.objs.size, _, _, _, _, _, fun i => bs.getD i false, rfl, Walks.list (A := X.A.in1) (I.ok.hd hc) s.heap.objs.size p (Nat.ne_of_lt hlt) its.toArray, ⟨⟨_, Heap.get?_push_size _ rfl, rfl, rfl⟩, pl.isList.at fun o e => Heap.get?_push_of_some _ e⟩, ?_, fun h' tk hk => ?_⟩
  · intro i v s' Q' E' hv hq'
    have hv' : its[i]? = some v := by simpa using hv
    obtain ⟨hi, _⟩ := List.getElem?_eq_some_iff.mp hv'
    have hn : bs[i]? = some bs[i] := List.getElem?_eq_getElem (by omega)
    obtain ⟨w, hw, rw'⟩ := rv.get (i := i) (x := .bl bs[i]) (by rw [List.getElem?_map, hn]; rfl)
    rw [hv'] at hw
    cases hw
    cases rw'
    have e : bs.getD i false = bs[i] := by rw [List.getD_eq_getElem?_getD, hn]; rfl
    rw [show (fun i => bs.getD i false) i = bs[i] from e] at hq'
    exact wpAny_truthy_bool hq'
  · have e : its.toArray.size = bs.length := by rw [List.size_toArray]; exact hl.symm
    rw [e]
    refine hQ h' tk fun b o eb => hk b o ?_ (Heap.get?_push_of_some _ eb)
    intro hb
    exact absurd (Heap.lt_size eb) (by rw [List.mem_singleton.mp hb]; exact Nat.lt_irrefl _)
theorem call_any (hc : X.calm = true) : CallR X (.builtin "any") (rBools X.K fun bs => bs.any id) := by
  intro pins s σ H xs us Q I r h
  obtain ⟨p, bs, rfl, hq, q⟩ := h
  obtain ⟨u, rfl, rx⟩ := vals1 r
  cases rx
  refine call_any_walk (bools_walk hc (Q := fun _ v s' => EP X pins σ Q v s') (r := fun tr n => (List.range n).any tr) I hq fun h' tk k => ?_)
  rw [range_any]
  exact ⟨.bl _, H, I.kept k, rfl, q⟩
noncomputable def pBools (r : List Bool → Bool) (ds : List PyData) : Option PyData := match ds with
  | [.list xs] => (asBs xs).bind fun bs => some (.bool (r bs))
  | _ => none
theorem ad_bools {K : PySem.W.Frag} {r : List Bool → Bool} : AdA K (rBools K r) (pBools r) := fun F H xs ds d Q sm rs e q => by
  unfold pBools at e
  split at e
  · obtain ⟨bs, h1, h2⟩ := bind_some e
    cases h2
    have := asBs_some h1
    subst this
    obtain ⟨x, r, rfl, rx, rr⟩ := rs.cons_of
    obtain rfl := rr.nil_of
    obtain ⟨a, ys, rfl, hq, r1⟩ := rx.lst
    have := r1.bools_of
    subst this
    exact ⟨a, bs, rfl, sm.seq hq, q _ F H (.refl sm) rel_bl⟩
  · cases e
noncomputable def pAll := pBools fun bs => bs.all id
noncomputable def pAny := pBools fun bs => bs.any id
theorem E.any (hc : X.calm = true) (hm : X.mg "any" = none) (ha : A X B [e] fs) (hg : Gl X "any" := by rfl) (he : starEach [e] X.env = (false, eval e X.env) :: starEach [] X.env := by exact star_of rfl) (hpl : (backTo pos (starEach [] X.env)).any (·.1) = false := by rfl) : E X B (.Call (.Name "any" pp) [e] [] pos) (lA pAny fs) :=
  E.callB (call_any hc) ad_bools hm (by decide +kernel) ha hg (by decide) (by decide) he hpl
noncomputable def pMax (ds : List PyData) : Option PyData := match ds with
  | [.int i, .int j] => some (.int (if j > i then j else i))
  | _ => none
noncomputable def pMin (ds : List PyData) : Option PyData := match ds with
  | [.int i, .int j] => some (.int (if j < i then j else i))
  | _ => none
theorem ad_two {K : PySem.W.Frag} {g : Int → Int → Int} : AdA K (fun xs H Q => ∃ i j, xs = [.int i, .int j] ∧ Q (.int (g i j)) H) (fun ds => match ds with | [.int i, .int j] => some (.int (g i j)) | _ => none) := fun F H xs ds d Q sm rs e q => by
  dsimp only at e
  split at e
  · cases e
    obtain ⟨x, r, rfl, rx, rr⟩ := rs.cons_of
    obtain ⟨y, r2, rfl, ry, rr2⟩ := rr.cons_of
    obtain rfl := rr2.nil_of
    exact ⟨_, _, by rw [rx.int, ry.int], q _ F H (.refl sm) rel_int⟩
  · cases e
theorem E.max (hc : X.calm = true) (hm : X.mg "max" = none) (ha : A X B [a, b] fs) (hg : Gl X "max" := by rfl) (he : starEach [a, b] X.env = (false, eval a X.env) :: starEach [b] X.env := by rfl) (hpl : (backTo pos (starEach [b] X.env)).any (·.1) = false := by rfl) : E X B (.Call (.Name "max" pp) [a, b] [] pos) (lA pMax fs) :=
  E.callB (call_max2 hc) ad_two hm (by decide +kernel) ha hg (by decide) (by decide) he hpl
theorem E.min (hc : X.calm = true) (hm : X.mg "min" = none) (ha : A X B [a, b] fs) (hg : Gl X "min" := by rfl) (he : starEach [a, b] X.env = (false, eval a X.env) :: starEach [b] X.env := by rfl) (hpl : (backTo pos (starEach [b] X.env)).any (·.1) = false := by rfl) : E X B (.Call (.Name "min" pp) [a, b] [] pos) (lA pMin fs) :=
  E.callB (call_min2 hc) ad_two hm (by decide +kernel) ha hg (by decide) (by decide) he hpl
noncomputable def pInt (ds : List PyData) : Option PyData := match ds with
  | [.int i] => some (.int i)
  | [.bool k] => some (.int (if k then 1 else 0))
  | _ => none
noncomputable def sAug (i : Nat) (f : En → Option PyData) : En → Option Out := fun η => (eV i η).bind fun x => (f η).bind fun y => match x, y with
  | .int n, .int m => some (.nx (η.set i (.val (.int (n + m)))))
  | _, _ => none
noncomputable def sWh (c : En → Option Bool) (body : En → Option Out) : Nat → En → Option Out
  | 0, _ => none
  | n + 1, η => (c η).bind fun b => if b = true then (body η).bind fun o => match o with
    | .nx η' => sWh c body n η'
    | .ct η' => sWh c body n η'
    | .bk η' => some (.nx η')
    | .rt d => some (.rt d) else some (.nx η)
noncomputable def tInO (neg : Bool) (f : En → Option PyData) (i : Nat) : En → Option Bool := fun η => (f η).bind fun x => match η[i]? with
  | some (.own ds) => (pIn neg x (.list ds)).bind asB
  | _ => none
end
noncomputable def Its (x : Str) : It := ⟨fun i _ => i < x.cps.size, fun i H v H' => H' = H ∧ ∃ c, x.cps[i]? = some c ∧ v = .str ⟨#[c]⟩, fun i _ => i = x.cps.size⟩
section
variable {X : Cx} {B : Bd} {e : Expr} {f : En → Option PyData} {tg : Expr}
noncomputable def asSg : PyData → Option (List PyData)
  | .str x => some (signD x)
  | _ => none
end
theorem strs_toks : ∀ {ss : List Str} {us : List Value}, Vals (ss.map V.str) us → ∃ l : List (Str × Tok), us = strValues l ∧ l.map (·.1) = ss
  | [], us, h => by cases h; exact ⟨[], rfl, rfl⟩
  | x :: r, us, h => by
    cases h with
    | cons h1 h2 =>
      obtain ⟨l, rfl, e⟩ := strs_toks h2
      obtain ⟨t, rfl⟩ := h1
      exact ⟨(x, t) :: l, rfl, by rw [List.map_cons, e]⟩
section
variable {X : Cx} {B : Bd} {a b e : Expr} {f g : En → Option PyData} {apos cpos : Pos}
noncomputable def rJoin (K : PySem.W.Frag) : V → List V → Hp → VK → Prop := fun x vs H Q => ∃ z p ss, x = .str z ∧ vs = [.ref p] ∧ SqL K H p (ss.map V.str) ∧ JoinOk z ss = true ∧ Q (.str (Txt.join z ss)) H
theorem mt_join : MtR X "str.join" (rJoin X.K) := by
  intro pins s σ H x vs v us Q I rx rv h
  obtain ⟨z, p, ss, rfl, rfl, hq, ok, q⟩ := h
  obtain ⟨t, rfl⟩ := rx
  obtain ⟨u, rfl, ru⟩ := vals1 rv
  cases ru
  obtain ⟨its, r, pl, hz⟩ := I.list hq
  obtain ⟨l, rfl, hl⟩ := strs_toks r
  exact SC.join pl.isList hl ok fun t' k => ⟨.str _, H, I.tok k, ⟨t', rfl⟩, q⟩
noncomputable def pJoin (x y : PyData) : Option PyData := match x, y with
  | .str z, .list ds => (asSs ds).bind fun ss => if JoinOk z ss = true then some (.str (Txt.join z ss)) else none
  | _, _ => none
theorem E.join (ha : E X B a f) (he : E X B e g) (hbase : attributeBase a "join" X.env (eval a X.env) = eval a X.env := by rfl)
    (hfew : ((backTo cpos (starEach [e] X.env)).all (fun x => !x.1) && (backToKw cpos (keywordEach [] X.env)).all (fun x => x.1.isSome)
      && decide ([e].length + ([] : List Keyword).length + (if ([] : List Keyword).isEmpty then 0 else 1) < 30)) = true := by rfl)
    (hline : (apos.endLine == cpos.line) = true := by rfl) (hs : starEach [e] X.env = (false, eval e X.env) :: starEach [] X.env := by exact star_of rfl) (hplain : (backTo cpos (starEach [] X.env)).any (·.1) = false := by rfl) :
    E X B (.Call (.Attribute a "join" apos) [e] [] cpos) (l2 pJoin f g) :=
  PE.imp (pe_bm PySem.F.plainAttrs_str PySem.F.slot_str_join PySem.F.type_str_join mt_join ha (A.cons he A.nil hs) hbase hfew hline hs hplain) fun σ H Q ⟨F, η, d, sr, hd, q⟩ => by
    obtain ⟨x, hx, hd⟩ := bind_some hd
    obtain ⟨y, hy, hd⟩ := bind_some hd
    unfold pJoin at hd
    split at hd
    · rename_i z ds
      obtain ⟨ss, h1, hd⟩ := bind_some hd
      split at hd
      · rename_i hf
        cases hd
        have := asSs_some h1
        subst this
        refine ⟨F, η, _, sr, hx, fun v F1 H1 g1 rv => ?_⟩
        rw [rv.str]
        refine ⟨rfl, F1, η, [.list (ss.map PyData.str)], sr.grow g1, (by show (g η).bind _ = _; rw [hy]; rfl), fun vs F2 H2 g2 rs => ?_⟩
        obtain ⟨w, r, rfl, rw', rr⟩ := rs.cons_of
        obtain rfl := rr.nil_of
        obtain ⟨p, xs, rfl, hq, r1⟩ := rw'.lst
        have := r1.strs_of
        subst this
        exact ⟨_, p, ss, rfl, rfl, g2.fh.seq hq, hf, q _ F2 H2 (g1.trans g2) rel_str⟩
      · cases hd
    · cases hd
end
section
variable {X : Cx} {B : Bd} {a b e : Expr} {f g : En → Option PyData} {pos : Pos}
noncomputable def sUnp (f : En → Option PyData) (t : En → PyData → Option En) : En → Option Out := fun η => (f η).bind fun d => (t η d).bind fun η' => some (.nx η')
theorem S.unp {tg : Expr} {gt : TG} {ks : List Nat} {t : En → PyData → Option En} (he : E X B e f) (hg : PG X tg gt) (ht : TgP X.K ks gt t) (hs : swapsWithSole [tg] e pos.line X.env = pure false := by rfl) (hw : swappedStores [tg] e X.env = pure none := by rfl)
    (h1 : (assignEach [tg] X.env).map (·.2) = [assign tg X.env] := by rfl) : S X B (.Assign [tg] e pos) (sUnp f t) :=
  PS.imp (ps_asg he hg hs hw h1) fun D σ H ⟨F, η, o, sr, hd, q⟩ => by
    obtain ⟨d, hx, hd⟩ := bind_some hd
    obtain ⟨η', hy, hd⟩ := bind_some hd
    cases hd
    refine ⟨F, η, d, sr, hx, fun v F1 H1 g1 rv => ?_⟩
    exact ht B F1 H1 σ η d v η' (sr.grow g1) rv hy D.nx fun σ' F2 H2 r g2 _ _ => q σ' F2 H2 r (g1.ff.trans g2.ff)
noncomputable def isNn : PyData → Bool
  | .none => true
  | _ => false
noncomputable def pIsN (neg : Bool) (x y : PyData) : Option PyData := match y with
  | .none => some (.bool (if neg then !isNn x else isNn x))
  | _ => none
end
noncomputable def Itv (K : PySem.W.Frag) (a : Addr) (n : Nat) : It :=
  ⟨fun i H => i < n ∧ ∃ xs x, SqL K H a xs ∧ xs[n - 1 - i]? = some x, fun i H x H' => H' = H ∧ ∀ xs, SqL K H a xs → xs[n - 1 - i]? = some x, fun i _ => i = n⟩
theorem turn_rev {P : Program} {w : World} {K : PySem.W.Frag} {tg : Expr} (a it : Addr) (n : Nat) : Turn P w K tg (Itv K a n) [it] it (fun i h => h.IsRevIter it a ((n : Int) - 1 - (i : Nat))) where
  mem := by simp
  obj := fun i h st b hb => by
    have e : b = it := by simpa using hb
    subst e
    obtain ⟨o, e, c, d⟩ := st
    exact ⟨o, e, fun v z => by rw [d] at z; cases z⟩
  keep := fun i h h' st k => st.at fun o e => k it (by simp) o e
  item := by
    intro X hP hw hK hc i pins s σ H E I hf st hg
    subst hP hw hK
    obtain ⟨hi, xs, x, hq, hx⟩ := hg
    obtain ⟨its, rv, p, hz⟩ := I.list hq
    obtain ⟨u, hu, ru⟩ := rv.get hx
    obtain ⟨f0, f1, f2, f3, f4, f5⟩ := hf it (by simp)
    have ei : (n : Int) - 1 - (i : Nat) = ((n - 1 - i : Nat) : Int) := by omega
    rw [ei] at st
    refine wpAny_pyNext_rev_item st p.isList (x := u) (by simpa using hu) fun h' st' sb => ?_
    have I1 : Inv X pins σ H { s with heap := h' } := I.turned (t' := s.toks) (fun b o hb e => (sb.2 b hb).trans e) f0 f1 f3 f4 f5
    have st2 : h'.IsRevIter it a ((n : Int) - 1 - ((i + 1 : Nat) : Nat)) := by
      have e2 : ((n - 1 - i : Nat) : Int) - 1 = (n : Int) - 1 - ((i + 1 : Nat) : Nat) := by omega
      rw [← e2]; exact st'
    obtain ⟨o, e, c, d⟩ := id st'
    exact ⟨u, rfl, go_of (s := { s with heap := h' }) e c d (by decide) ⟨x, H, I1, ru, ⟨rfl, fun ys hy => by rw [I.list_inj hy hq]; exact hx⟩, st2, fun b hb => (hf b hb).1⟩⟩
  done := by
    intro X hP hw hK hc i pins s σ H E I hf st hg
    subst hP hw hK
    obtain ⟨f0, f1, f2, f3, f4, f5⟩ := hf it (by simp)
    have hg : i = n := hg
    have ei : (n : Int) - 1 - (i : Nat) = -1 := by omega
    rw [ei] at st
    exact wpAny_pyNext_rev_end (I.ok.hd hc) st fun h' eb => ⟨rfl, I.turned (t' := s.toks) (fun b o hb e => eb b o hb e) f0 f1 f3 f4 f5⟩
  self := fun _ _ _ _ _ st h => wpAny_pyIter_revIter st h
section
variable {X : Cx} {B : Bd} {a : Expr} {fs : En → Option (List PyData)} {pos pp : Pos}
noncomputable def rvS (ds : List PyData) : Option (List PyData) := match ds with
  | [.list xs] => some xs.reverse
  | _ => none
theorem itp_rev {K : PySem.W.Frag} {F : Hp} {p : Addr} {ds : List PyData} {xs : List V} (hq : SqL K F p xs) (rs : RelL K F ds xs) : ItP K (Itv K p ds.length) F ds.reverse := fun F1 H1 i s1 s2 => by
  refine ⟨fun d e => ?_, fun e => by show i = ds.length; rw [e, List.length_reverse]⟩
  have hi : i < ds.length := by
    have := (List.getElem?_eq_some_iff.mp e).1
    rwa [List.length_reverse] at this
  rw [List.getElem?_reverse hi] at e
  obtain ⟨x, hx, rx⟩ := rs.get e
  have hq1 : SqL K H1 p xs := s2.seq (s1.seq hq)
  refine ⟨⟨hi, xs, x, hq1, hx⟩, fun v H2 y => ?_⟩
  obtain ⟨rfl, y⟩ := y
  have := (y xs hq1).symm.trans hx
  cases this
  exact ⟨F1, .refl s2, rx.mono s1⟩
theorem I.rev {tg : Expr} (hc : X.calm = true) (hm : X.mg "reversed" = none) (ha : A X B [a] fs) (hg : Gl X "reversed" := by rfl) (hs : starEach [a] X.env = [(false, eval a X.env)] := by exact star_of rfl) :
    I X B tg (.Call (.Name "reversed" pp) [a] [] pos) (fun η => (fs η).bind rvS) := by
  intro pins s σ H R I ⟨F, η, ds, sr, hd, q⟩
  obtain ⟨es, h1, hd⟩ := bind_some hd
  unfold rvS at hd
  split at hd
  · rename_i x
    cases hd
    refine Call_ (ld_blt I hg hm (show bootBuiltins "reversed" = some (.type "reversed") by decide +kernel) (PyProof.Rows.callWith_type1 (thn (ha pos pins s σ H (fun vs H1 => ∃ F', Gr F H F' H1 ∧ RelL X.K F' [.list x] vs) I ⟨F, η, _, sr, h1, fun vs F' H' g r => ⟨F', g, r⟩⟩) fun us s1 ⟨vs, H1, I1, r1, F1, g1, rl⟩ => ?_) hs rfl))
    obtain ⟨y, r, rfl, ry, rr⟩ := rl.cons_of
    obtain rfl := rr.nil_of
    obtain ⟨u, rfl, ru⟩ := vals1 r1
    obtain ⟨p, xs, rfl, hq, rs⟩ := ry.lst
    cases ru
    obtain ⟨its, rv, pl, hz⟩ := I1.list (g1.fh.seq hq)
    refine call_reversed_list pl.isList ?_
    have hl : its.toArray.size = x.length := by
      have h1 := rv.length
      have h2 := rs.length
      rw [List.size_toArray]
      omega
    have st : (s1.heap.push (revObj p ((its.toArray.size : Int) - 1))).IsRevIter s1.heap.objs.size p ((x.length : Int) - 1 - ((0 : Nat) : Nat)) := by
      refine ⟨_, Heap.get?_push_size _ rfl, rfl, ?_⟩
      have e2 : (its.toArray.size : Int) - 1 = (x.length : Int) - 1 - ((0 : Nat) : Nat) := by rw [hl]; omega
      rw [← e2]; rfl
    refine wpAny_pyIter_revIter st ?_
    refine ⟨_, [s1.heap.objs.size], _, _, H1, rfl, I1.kept (t' := s1.toks) fun b o e => Heap.get?_push_of_some _ e, turn_rev p _ x.length, st, fun b hb => ?_, q _ F1 H1 g1 (itp_rev hq rs)⟩
    rw [List.mem_singleton.mp hb]
    exact I1.fpOk (Nat.le_refl _) (I1.hok.fresh (Nat.le_refl _))
  · cases hd
end
section
variable {X : Cx} {B : Bd} {a b e : Expr} {f g : En → Option PyData} {fs : En → Option (List PyData)} {pos : Pos}
noncomputable def eRep (fs : En → Option (List PyData)) (g : En → Option PyData) : En → Option PyData := fun η => (fs η).bind fun ds => (g η).bind fun y => (asI y).bind fun k =>
  if 0 ≤ k ∧ k < 1000 ∧ ds.length * k.toNat ≤ 1000 then some (.list (List.replicate k.toNat ds).flatten) else none
end
section
variable {X : Cx} {B : Bd} {e st : Expr} {f g : En → Option PyData} {pos p2 : Pos}
noncomputable def pRv (x y : PyData) : Option PyData := match x with
  | .list ds => (asI y).bind fun k => if k = -1 then some (.list ds.reverse) else none
  | _ => none
theorem pS_some {g : En → Option PyData} {η : En} {k : Int} (h : g η = some (.int k)) : pS g η = some (some k) := by
  unfold pS
  rw [h]; rfl
theorem E.slRev (he : E X B e f) (hs : E X B st g) (hsub : ∀ o i, subscripted (.Slice none none (some st) p2) false o i = operate [o, i] (getItem o i) := by intro _ _; with_unfolding_all rfl) : E X B (.Subscript e (.Slice none none (some st) p2) pos) (l2 pRv f g) := by
  intro pins s σ H Q I ⟨F, η, d, sr, hd, q⟩
  obtain ⟨x, hx, hd⟩ := bind_some hd
  obtain ⟨y, hy, hd2⟩ := bind_some hd
  unfold pRv at hd2
  split at hd2
  · rename_i ds
    obtain ⟨k, hk, hd3⟩ := bind_some hd2
    obtain rfl := asI_some hk
    split at hd3
    · rename_i hk1
      subst hk1
      cases hd3
      refine Subscript_ (thn (he pins s σ H (fun v H1 => ∃ F1, Gr F H F1 H1 ∧ Rel X.K F1 (.list ds) v) I ⟨F, η, _, sr, hx, fun v F1 H1 g1 r => ⟨F1, g1, r⟩⟩) fun v s1 ⟨x, H1, I1, r1, F1, g1, rx⟩ => ?_)
      refine wpAny_Slice ?_
      rw [evalPart_none]
      refine wpAny_pure (wpAny_pure ?_)
      refine thn ((P.some hs) pins s1 σ H1 (fun o H2 => ∃ F2, Gr F1 H1 F2 H2 ∧ o = some (-1)) I1 ⟨F1, η, some (-1), sr.grow g1, pS_some hy, fun F2 H2 g2 => ⟨F2, g2, rfl⟩⟩) fun vs s2 ⟨o, H2, I2, ps, F2, g2, eo⟩ => ?_
      subst eo
      have I4 : Inv X pins σ H2 { s2 with heap := s2.heap.push { cls := .type "slice", data := .fields #[.none, .none, vs] } } := I2.kept (t' := s2.toks) fun b ob q => Heap.get?_push_of_some _ q
      obtain ⟨a, xs, rfl, hq, rs⟩ := rx.lst
      cases r1
      obtain ⟨its, r, ht, hz⟩ := I4.list (g2.hh.seq (g1.fh.seq hq))
      have hlen := r.length
      show wpAny (model X.prog X.w) X.A (subscriptTail e (.Slice none none (some st) p2) (.ref a) (.ref s2.heap.objs.size)) (EP X pins σ Q) X.xe { s2 with heap := s2.heap.push { cls := .type "slice", data := .fields #[.none, .none, vs] } }
      refine tail_any (ops := [.ref a, .ref s2.heap.objs.size]) ht.isList.typeIs slot_list_getitem.lookup ?_ (hsub _ _)
      refine wpAny_getItem_list_slice ht.isList (Heap.IsSliceOf.new ..) .none .none ps (by decide) ?_ (by rw [List.size_toArray] <;> omega)
      rw [PySem.W.krv_pick, show its.toArray.toList.reverse = its.reverse by simp]
      have g3 : ∀ l, H2 l = none → Gr F2 H2 (upd F2 l (.lst xs.reverse)) (upd H2 l (.lst xs.reverse)) := fun l hl => Gr.one g2.fh hl
      refine ⟨.ref _, _, I4.laid (t' := s2.toks) (o := .lst xs.reverse) (fun b ob q => Heap.get?_push_of_some _ q) (Nat.le_refl _) ?_, rfl, q _ _ _ ((g1.trans g2).trans (g3 _ (I4.hok.fresh (Nat.le_refl _)))) (rel_lst (SqL.of upd_same) (rs.reverse.mono (g2.ff.trans (g3 _ (I4.hok.fresh (Nat.le_refl _))).ff)))⟩
      refine ⟨by rw [List.length_reverse]; exact hz, its.reverse, 0, ?_, Heap.get?_push_size _ rfl⟩
      exact r.reverse
    · cases hd3
  · cases hd2
end
section
variable {X : Cx} {B : Bd} {pos pp : Pos}
noncomputable def eLenO (i : Nat) : En → Option PyData := fun η => match η[i]? with
  | some (.own ds) => some (.int ds.length)
  | _ => none
end
noncomputable def keyOf : PyData → Option Key
  | .int i => some (.inl i)
  | .str x => some (.inr x)
  | _ => none
noncomputable def lookD (es : List (PyData × PyData)) (k : Key) : Option PyData := (es.find? fun e => decide (keyOf e.1 = some k)).map (·.2)
noncomputable def putP (kvs : List (Key × PyData)) (k : Key) (d : PyData) : List (Key × PyData) :=
  if (kvs.any fun kv => decide (kv.1 = k)) = true then kvs.map (fun kv => if kv.1 = k then (kv.1, d) else kv) else kvs ++ [(k, d)]
section
variable {X : Cx} {B : Bd} {o e e2 a b : Expr} {f g h : En → Option PyData} {pos pos' apos cpos npos : Pos}
noncomputable def pGet2 (x y z : PyData) : Option PyData := match x with
  | .dict es => (keyOf y).bind fun k => some ((lookD es k).getD z)
  | _ => none
noncomputable def eGet2 (f g h : En → Option PyData) : En → Option PyData := fun η => (f η).bind fun x => (g η).bind fun y => (h η).bind fun z => pGet2 x y z
noncomputable def pInD (neg : Bool) (x y : PyData) : Option Bool := match y with
  | .dict es => (keyOf x).bind fun k => some (if neg then !(lookD es k).isSome else (lookD es k).isSome)
  | _ => none
noncomputable def tInD (neg : Bool) (f g : En → Option PyData) : En → Option Bool := fun η => (f η).bind fun x => (g η).bind fun y => pInD neg x y
noncomputable def sSetD (i : Nat) : En → Option Out := fun η => some (.nx (η.set i (.odc [])))
noncomputable def eGet2O (i : Nat) (g h : En → Option PyData) : En → Option PyData := fun η => match η[i]? with
  | some (.odc kvs) => (g η).bind fun y => (h η).bind fun z => (keyOf y).bind fun k => some ((lookD (prs kvs) k).getD z)
  | _ => none
noncomputable def sPutD (i : Nat) (g h : En → Option PyData) : En → Option Out := fun η => (h η).bind fun d => (g η).bind fun y => (keyOf y).bind fun k => match η[i]? with
  | some (.odc kvs) => if kvs.length < sizeLine then some (.nx (η.set i (.odc (putP kvs k d)))) else none
  | _ => none
end
section
variable {X : Cx}
open Classical in
noncomputable def eOf (h : Heap) (dx : PyData) (w : Value) : Bool := if q : ∃ d as, Reads h w d as ∧ d.canLay0 = true then PyData.eqv q.choose dx else false
noncomputable def lowD (d : PyData) : Bool := d.canLay0 && decide (d.depth ≤ 8)
noncomputable def rInS (K : PySem.W.Frag) (neg : Bool) : R2 := fun x y H Q => ∃ F dx ds p xs, Same F H ∧ Rel K F dx x ∧ y = .ref p ∧ SqL K H p xs ∧ RelL K F ds xs ∧ dx.canLay0 = true ∧ ds.all lowD = true ∧ Q (.bl (if neg then !(ds.any fun d => PyData.eqv d dx) else ds.any fun d => PyData.eqv d dx)) H
variable {B : Bd} {a : Expr} {f : En → Option PyData} {pos : Pos}
noncomputable def tInS (neg : Bool) (f : En → Option PyData) (i : Nat) : En → Option Bool := fun η => (f η).bind fun x => match η[i]? with
  | some (.own ds) => if x.canLay0 = true ∧ ds.all lowD = true then some (if neg then !(ds.any fun d => PyData.eqv d x) else ds.any fun d => PyData.eqv d x) else none
  | _ => none
end
section
variable {X : Cx} {B : Bd} {e : Expr} {f : En → Option PyData} {fs : En → Option (List PyData)} {p : En → Option Bool}
noncomputable def lendE (j : Nat) (f : En → Option PyData) : En → Option PyData := fun η => (f (frz j η)).bind fun d => if flatD d = true then some d else none
noncomputable def lendO (j : Nat) (f : En → Option (List PyData)) : En → Option (List PyData) := fun η => (f (frz j η)).bind fun ds => if ds.all flatD = true then some ds else none
noncomputable def lendT (j : Nat) (f : En → Option Bool) : En → Option Bool := fun η => f (frz j η)
end
section
variable {X : Cx} {B : Bd} {e o : Expr} {f g : En → Option PyData} {fs : En → Option (List PyData)} {pos pp rp rpos : Pos}
noncomputable def pAbs (ds : List PyData) : Option PyData := match ds with
  | [.int i] => some (.int (if i < 0 then -i else i))
  | _ => none
noncomputable def rRng : List V → Hp → VK → Prop := fun xs H Q => ∃ j : Int, xs = [.int j] ∧ ∀ l, H l = none → Q (.ref l) (upd H l (.rng 0 j))
noncomputable def intsV (n : Nat) : List V := (List.range n).map fun (k : Nat) => V.int (0 + (k : Int))
noncomputable def rLRng : List V → Hp → VK → Prop := fun xs H Q => ∃ (p : Addr) (j : Int), xs = [.ref p] ∧ H p = some (.rng 0 j) ∧ -(2 ^ 62) ≤ j ∧ j < 2 ^ 62 ∧ j.toNat ≤ 1000 ∧ ∀ l, H l = none → Q (.ref l) (upd H l (.lst (intsV j.toNat)))
end
end L2.PU
namespace L2.PU
open PySem PySem.Spec PyProof.Rows
noncomputable def Itd (p : Addr) (ob : Obj) (ks : List (Key × V)) : It :=
  ⟨fun i H => i < ks.length ∧ H p = some (.frz ob (.dK ks)), fun i H x H' => H' = H ∧ ∃ k v, ks[i]? = some (k, v) ∧ x = kV k, fun i H => i = ks.length ∧ H p = some (.frz ob (.dK ks))⟩
section
variable {X : Cx} {B : Bd} {pos npos : Pos} {tg : Expr}
noncomputable def iDict (i : Nat) : TI := fun σ H R => ∃ p ob ks, σ[i]? = some (some (.ref p)) ∧ H p = some (.frz ob (.dK ks)) ∧ R (Itd p ob ks) H
noncomputable def keysD (kvs : List (Key × PyData)) : List PyData := kvs.map fun e => kD e.1
noncomputable def sForD (i : Nat) (t : En → PyData → Option En) (body : En → Option Out) : En → Option Out := fun η => match η[i]? with
  | some (.odc kvs) => sGo t body (keysD kvs) (frz i η)
  | _ => none
end
end L2.PU
namespace L2.PU
open PySem PySem.Spec PyProof.Rows
section
variable {X : Cx} {B : Bd} {e o : Expr} {f g : En → Option PyData} {fs : En → Option (List PyData)} {pos pos' pp rp rpos : Pos}
noncomputable def lrS (ds : List PyData) : Option (List PyData) := match ds with
  | [.int j] => if -(2 ^ 62) ≤ j ∧ j < 2 ^ 62 ∧ j.toNat ≤ 1000 then some (rngL 0 j.toNat) else none
  | _ => none
noncomputable def pAtD (x y : PyData) : Option PyData := match x with
  | .dict es => (keyOf y).bind fun k => lookD es k
  | _ => none
end
section
variable {X : Cx} {B : Bd}
noncomputable abbrev PF := (En → Option PyData) × (En → Option PyData)
noncomputable def DP (X : Cx) (B : Bd) (pos : Pos) (keys : List (Option Expr)) (values : List Expr) (ps : List PF) : Prop := PPs X pos keys values (ps.map fun p => (tE X.K B p.1, tE X.K B p.2))
noncomputable def evP : List PF → En → Option (List (PyData × PyData))
  | [], _ => some []
  | (f, g) :: r, η => (f η).bind fun x => (g η).bind fun y => (evP r η).bind fun l => some ((x, y) :: l)
noncomputable def keysOf : List (PyData × PyData) → Option (List (Key × PyData))
  | [] => some []
  | (x, y) :: r => (keyOf x).bind fun k => (keysOf r).bind fun l => some ((k, y) :: l)
noncomputable def RelP (K : PySem.W.Frag) (F : Hp) : List (PyData × PyData) → List (V × V) → Prop
  | [], ps => ps = []
  | (x, y) :: r, ps => ∃ u v t, ps = (u, v) :: t ∧ Rel K F x u ∧ Rel K F y v ∧ RelP K F r t
noncomputable def mergeP (acc more : List (Key × PyData)) : List (Key × PyData) := more.foldl (fun acc kv => putP acc kv.1 kv.2) acc
noncomputable def sSetDL (i : Nat) (ps : List PF) : En → Option Out := fun η => (evP ps η).bind fun es => (keysOf es).bind fun kvs => if kvs.length ≤ 15 then some (.nx (η.set i (.odc (mergeP [] kvs)))) else none
end
end L2.PU
namespace L2.PU
open PySem PySem.Spec PyProof.Rows
noncomputable def Itel (K : PySem.W.Frag) (l : Addr) (n : Nat) : It :=
  ⟨fun i H => i < n ∧ ∃ xs x, SqL K H l xs ∧ xs.length = n ∧ xs[i]? = some x, fun i H v H' => ∃ T x, H T = none ∧ (∀ xs, SqL K H l xs → xs[i]? = some x) ∧ v = .ref T ∧ H' = upd H T (.tup [.int (i : Nat), x]), fun i H => i = n ∧ ∃ xs, SqL K H l xs ∧ xs.length = n⟩
section
variable {X : Cx} {B : Bd} {a : Expr} {fs : En → Option (List PyData)} {pos pp : Pos}
noncomputable def enL (ds : List PyData) : Option (List PyData) := match ds with
  | [.list xs] => some (enumD xs 0)
  | _ => none
end
end L2.PU
namespace L2.PU
open PySem PySem.Spec PyProof.Rows
section
variable {X : Cx} {B : Bd} {e : Expr} {f g : En → Option PyData} {fs : En → Option (List PyData)} {pos pp : Pos}
noncomputable def keysP (es : List (PyData × PyData)) : List PyData := es.map (·.1)
noncomputable def rListD : List V → Hp → VK → Prop := fun xs H Q => ∃ (p : Addr) (ks : List (Key × V)), xs = [.ref p] ∧ Rd H p (.dK ks) ∧ ∀ l, H l = none → Q (.ref l) (upd H l (.lst (ks.map fun kv => kV kv.1)))
noncomputable def pListD (ds : List PyData) : Option PyData := match ds with
  | [.dict es] => some (.list (keysP es))
  | _ => none
noncomputable def rSortDI : List V → Hp → VK → Prop := fun xs H Q => ∃ (p : Addr) (ks : List (Key × V)) (ns : List Int), xs = [.ref p] ∧ Rd H p (.dK ks) ∧ ks.map (·.1) = ns.map Sum.inl ∧ ns.length < 64 ∧ ∀ l, H l = none → Q (.ref l) (upd H l (.lst ((srtI ns).map V.int)))
noncomputable def pSortD (ds : List PyData) : Option PyData := match ds with
  | [.dict es] => (asIs (keysP es)).bind fun ns => if ns.length < 64 then some (.list ((srtI ns).map PyData.int)) else none
  | _ => none
noncomputable def delP (kvs : List (Key × PyData)) (k : Key) : List (Key × PyData) := kvs.filter fun kv => decide (kv.1 ≠ k)
noncomputable def sPopD (i : Nat) (g : En → Option PyData) : En → Option Out := fun η => (g η).bind fun y => (keyOf y).bind fun k => match η[i]? with
  | some (.odc kvs) => if (lookD (prs kvs) k).isSome = true then some (.nx (η.set i (.odc (delP kvs k)))) else none
  | _ => none
end
end L2.PU
namespace L2.PU
open PySem PySem.Spec PyProof.Rows
end L2.PU
namespace L2.PU
open PySem PySem.Spec PyProof.Rows
noncomputable def Itz (K : PySem.W.Frag) (l1 l2 : Addr) (n : Nat) : It :=
  ⟨fun i H => i < n ∧ ∃ xs ys x y, SqL K H l1 xs ∧ SqL K H l2 ys ∧ min xs.length ys.length = n ∧ xs[i]? = some x ∧ ys[i]? = some y,
   fun i H v H' => ∃ T x y, H T = none ∧ (∀ xs, SqL K H l1 xs → xs[i]? = some x) ∧ (∀ ys, SqL K H l2 ys → ys[i]? = some y) ∧ v = .ref T ∧ H' = upd H T (.tup [x, y]),
   fun i H => i = n ∧ ∃ xs ys, SqL K H l1 xs ∧ SqL K H l2 ys ∧ min xs.length ys.length = n⟩
section
variable {X : Cx} {B : Bd} {a b : Expr} {fs : En → Option (List PyData)} {pos pp : Pos}
noncomputable def zpD : List PyData → List PyData → List PyData
  | x :: xs, y :: ys => .tuple [x, y] :: zpD xs ys
  | _, _ => []
noncomputable def zpL (ds : List PyData) : Option (List PyData) := match ds with
  | [.list xs, .list ys] => some (zpD xs ys)
  | _ => none
end
section
variable {X : Cx} {B : Bd} {e : Expr} {fs : En → Option (List PyData)} {pos pp : Pos}
noncomputable def rListL (K : PySem.W.Frag) : List V → Hp → VK → Prop := fun xs H Q => ∃ (p : Addr) (ys : List V), xs = [.ref p] ∧ SqL K H p ys ∧ ∀ l, H l = none → Q (.ref l) (upd H l (.lst ys))
noncomputable def pListL (ds : List PyData) : Option PyData := match ds with
  | [.list xs] => some (.list xs)
  | _ => none
noncomputable def sBk : En → Option Out := fun η => some (.bk η)
end
end L2.PU
namespace L2.PU
open PySem PySem.Spec PyProof.Rows
noncomputable def pInY (neg : Bool) (x y : PyData) : Option PyData := match y with
  | .list ds => if SeqAt.shaped x = true ∧ PyData.depth x ≤ 60 ∧ PyData.canLayAll0 ds = true then some (.bool (if neg then !(ds.any fun y => PyData.eqv y x) else ds.any fun y => PyData.eqv y x)) else none
  | .tuple ds => if SeqAt.shaped x = true ∧ PyData.depth x ≤ 60 ∧ PyData.canLayAll0 ds = true then some (.bool (if neg then !(ds.any fun y => PyData.eqv y x) else ds.any fun y => PyData.eqv y x)) else none
  | _ => none
noncomputable def rInY (K : PySem.W.Frag) (neg : Bool) : R2 := fun x y H Q => ∃ F dx ds, Same F H ∧ Rel K F dx x ∧ (Rel K F (.list ds) y ∨ Rel K F (.tuple ds) y) ∧ SeqAt.shaped dx = true ∧ PyData.depth dx ≤ 60 ∧ PyData.canLayAll0 ds = true ∧ Q (.bl (if neg then !(ds.any fun y => PyData.eqv y dx) else ds.any fun y => PyData.eqv y dx)) H
end L2.PU
namespace L2.PU
open PySem PySem.Spec PyProof.Rows
noncomputable def rIdxY (K : PySem.W.Frag) : V → List V → Hp → VK → Prop := fun x vs H Q => ∃ F y ds d j, vs = [y] ∧ Same F H ∧ Rel K F (.list ds) x ∧ Rel K F d y ∧ SeqAt.shaped d = true ∧ PyData.depth d ≤ 60 ∧ PyData.canLayAll0 ds = true ∧ ds.findIdx? (fun z => PyData.eqv z d) = some j ∧ Q (.int (j : Nat)) H
section
variable {X : Cx}
noncomputable def pIdxY (x y : PyData) : Option PyData := match x with
  | .list ds => if SeqAt.shaped y = true ∧ PyData.depth y ≤ 60 ∧ PyData.canLayAll0 ds = true then (ds.findIdx? fun z => PyData.eqv z y).bind fun j => some (.int (j : Nat)) else none
  | _ => none
variable {B : Bd} {a e : Expr} {f g : En → Option PyData} {apos cpos : Pos}
end
end L2.PU
namespace L2.PU
open PySem PySem.Spec PyProof.Rows
section
variable {X : Cx} {B : Bd} {e : Expr} {fs : En → Option (List PyData)} {p1 p2 q1 q2 : Pos}
noncomputable def pLenSet (ds : List PyData) : Option PyData := match ds with
  | [.list xs] => if xs.length + 1 < 4096 then (asIs xs).bind fun ns => some (.int ((ns.foldl step_dedup []).length : Nat)) else none
  | _ => none
end
end L2.PU
namespace L2.PU
open PySem PySem.Spec PyProof.Rows
section
variable {prog : Program} {w : World} {K : Type} [DecidableEq K] {knd : KeyKind prog w K} {kf : Value → K} {J : SetTable → Nat → Prop}
variable {A : Around} {E : Value → Shared → Prop} {s : Shared}
noncomputable def SetJ (knd : KeyKind prog w K) (kf : Value → K) (J : SetTable → Nat → Prop) (h : Heap) (a : Addr) (σ : List K) : Prop :=
  ∃ o es ep t, h.get? a = some o ∧ o.ExactSet ∧ o.data = .set es ep t ∧ ElemsOf knd es.toList ∧ (es.toList.map fun e => kf e.2).Perm σ ∧ es.size < scanBound ∧ t.fits es.size = true ∧ J t es.size
noncomputable def tbl2 (t : SetTable) (es : Array (Int × Value)) (h : Int) (x : Value) : SetTable :=
  if (if (layNew t es h x).2.1.plain then plainKind x else true) then (layNew t es h x).2.1 else { (layNew t es h x).2.1 with plain := false }
structure Jok (J : SetTable → Nat → Prop) (Px : Value → Prop) : Prop where
  new : ∀ t es h x, Px x → t.fits es.size = true → J t es.size → J (tbl2 t es h x) (es.size + 1)
  rel : ∀ t es m, t.fits es.size = true → J t es.size → J (relayAll t es m).2.1 es.size
noncomputable def sd [BEq K] (σ : List K) (k : K) : List K := if σ.any (· == k) then σ else σ ++ [k]
theorem addTailJ {g : Bool → Sem Unit} (hg : ∀ (b : Bool) (s₁ : Shared) (Q' : Unit → Shared → Prop), Q' () s₁ → wpAny (model prog w) A (g b) Q' E s₁) {Px : Value → Prop} (jo : Jok J Px)
    {a : Addr} {o : Obj} {es : Array (Int × Value)} {ep : Nat} {t : SetTable} (ho : s.heap.get? a = some o) (hex : o.ExactSet) (hd : o.data = .set es ep t)
    {es1 : Array (Int × Value)} {t2 : SetTable} {σ : List K} (hel1 : ElemsOf knd es1.toList) (hp1 : (es1.toList.map fun e => kf e.2).Perm σ)
    (hb1 : es1.size < scanBound) (hf2 : t2.fits es1.size = true) (hj : J t2 es1.size) {wasDummy : Bool} {R : Option Bool → Shared → Prop}
    (h : ∀ h', Heap.SameBut a s.heap h' → SetJ knd kf J h' a σ → R (some true) { s with heap := h' }) :
    wpAny (model prog w) A (do
        storeSet a es1 t2
        if (!wasDummy && t2.tooFull) = true then do
            g (relayAll t2 es1 (SetTable.grown es1.size)).2.2
            storeSet a (relayAll t2 es1 (SetTable.grown es1.size)).1 (relayAll t2 es1 (SetTable.grown es1.size)).2.1
            pure (some true)
          else pure (some true)) R E s := by
  refine wpAny_bind (wpAny_storeSet_of ho hd ?_ (fits_of_scanBound hb1))
  have ho1 : (s.heap.update a (Obj.putSet es1 t2)).get? a = some { o with data := .set es1 (ep + 1) t2 } := by
    have := Heap.get?_update_self (Obj.putSet es1 t2) ho (by rw [putSet_of es1 t2 hd]; rfl)
    rw [putSet_of es1 t2 hd] at this; exact this
  have hsb1 := Heap.SameBut.update s.heap a (Obj.putSet es1 t2)
  split
  · have hp := relayAll_perm t2 es1 (SetTable.grown es1.size)
    have hfr := relayAll_fits t2 es1 (SetTable.grown es1.size)
    have hjr := jo.rel t2 es1 (SetTable.grown es1.size) hf2 hj
    generalize hRl : relayAll t2 es1 (SetTable.grown es1.size) = Rl at hp hfr hjr ⊢
    obtain ⟨es2, t3, gave2⟩ := Rl
    dsimp only at hp hfr hjr ⊢
    have hsz : es2.size = es1.size := by rw [← Array.length_toList, hp.length_eq, Array.length_toList]
    have hb2 : es2.size < scanBound := by rw [hsz]; exact hb1
    refine wpAny_bind (hg _ _ _ ?_)
    refine wpAny_bind (wpAny_storeSet_of ho1 rfl ?_ (fits_of_scanBound hb2))
    have ho2 : ((s.heap.update a (Obj.putSet es1 t2)).update a (Obj.putSet es2 t3)).get? a = some { o with data := .set es2 (ep + 1 + 1) t3 } := by
      have := Heap.get?_update_self (Obj.putSet es2 t3) ho1 (by rw [putSet_of es2 t3 rfl]; rfl)
      rw [putSet_of es2 t3 rfl] at this; exact this
    exact wpAny_pure (h _ (hsb1.trans (Heap.SameBut.update _ a _)) ⟨_, es2, _, t3, ho2, hex, rfl, hel1.perm hp, (hp.map _).trans hp1, hb2, hfr, by rw [hsz]; exact hjr⟩)
  · exact wpAny_pure (h _ hsb1 ⟨_, es1, _, t2, ho1, hex, rfl, hel1, hp1, hb1, hf2, hj⟩)
theorem setAddJ [BEq K] [LawfulBEq K] (hkf : ∀ k v, knd.is k v = true → kf v = k) {Px : Value → Prop} (jo : Jok J Px) {a : Addr} {σ : List K} {k : K} {x : Value} {Q : Bool → Shared → Prop} (hkey : knd.is k x = true) (hsc : x.scannable = true) (hpx : Px x) (hS : SetJ knd kf J s.heap a σ)
    (hroom : σ.length + 1 < scanBound)
    (h : ∀ h' b, Heap.SameBut a s.heap h' → SetJ knd kf J h' a (sd σ k) → Q b { s with heap := h' }) :
    wpAny (model prog w) A (setAddHashed a x (knd.hash k)) Q E s := by
  obtain ⟨o, es, ep, t, ho, hex, hd, hel, hpm, hb, hf, hj⟩ := hS
  have hlen : es.size = σ.length := by rw [← hpm.length_eq, List.length_map, Array.length_toList]
  have hb1 : es.size + 1 < scanBound := by rw [hlen]; exact hroom
  have hin : ∀ k', k' ∈ σ ↔ ∃ e ∈ es.toList, knd.is k' e.2 = true := fun k' => by
    rw [← hpm.mem_iff, List.mem_map]
    constructor
    · rintro ⟨e, he, z⟩
      obtain ⟨⟨k2, h2, _⟩, _⟩ := hel e he
      refine ⟨e, he, ?_⟩
      rw [← z, hkf k2 e.2 h2]; exact h2
    · rintro ⟨e, he, z⟩
      exact ⟨e, he, hkf k' e.2 z⟩
  unfold setAddHashed setAddHashedIn
  refine wpAny_holding (wpAny_bind (wpAny_setState_of ho hd hf ?_))
  dsimp only
  rw [byScan_of hsc hb hel]
  simp only [↓reduceIte]
  unfold setAddByScan
  refine wpAny_bind ?_
  refine wpAny_bind (wpAny_rule ?_)
  refine wpAny_bind (wpAny_setScan_of hkey ho hd hf hel ?_)
  cases hr : List.findIdx? (fun e => knd.is k e.2) es.toList with
  | some j =>
    dsimp only
    obtain ⟨hjj, hpj, _⟩ := List.findIdx?_eq_some_iff_getElem.mp hr
    have hk : k ∈ σ := (hin k).mpr ⟨es.toList[j], List.getElem_mem hjj, hpj⟩
    have hsd : sd σ k = σ := if_pos (List.any_eq_true.mpr ⟨k, hk, by simp⟩)
    refine wpAny_pure (wpAny_pure ?_)
    have e : s = { s with heap := s.heap } := by cases s; rfl
    rw [e]
    exact h s.heap _ (Heap.SameBut.refl a s.heap) ⟨o, es, ep, t, ho, hex, hd, hel, by rw [hsd]; exact hpm, hb, hf, hj⟩
  | none =>
    dsimp only
    have hk : k ∉ σ := fun z => by
      obtain ⟨e, he, hp⟩ := (hin k).mp z
      have := List.findIdx?_eq_none_iff.mp hr e he
      rw [hp] at this; exact Bool.noConfusion this
    have hsd : sd σ k = σ ++ [k] := if_neg (fun z => by
      obtain ⟨y, hy, e⟩ := List.any_eq_true.mp z
      exact hk (by rw [← eq_of_beq e]; exact hy))
    rw [hsd] at h
    have hgw : ∀ (b : Bool) {s₁ : Shared} {Q' : Unit → Shared → Prop}, Q' () s₁ → wpAny (model prog w) A (match b with | true => rule "set.scan.the-table-gave-way" | false => pure ()) Q' E s₁ :=
      fun b s₁ Q' hq => by cases b <;> first | exact wpAny_pure hq | exact wpAny_rule hq
    have hjn := jo.new t es (knd.hash k) x hpx hf hj
    unfold tbl2 at hjn
    have hperm := layNew_perm t es (knd.hash k) x
    have hfits := layNew_fits t es (knd.hash k) x
    generalize hL : layNew t es (knd.hash k) x = L at hperm hfits hjn ⊢
    obtain ⟨es1, t1, wasDummy, gave⟩ := L
    dsimp only at hperm hfits hjn ⊢
    rw [Array.toList_push] at hperm
    have hel1 : ElemsOf knd es1.toList := (hel.push hkey hsc).perm hperm
    have hp1 : (es1.toList.map fun e => kf e.2).Perm (σ ++ [k]) := by
      refine (hperm.map _).trans ?_
      rw [List.map_append]
      refine List.Perm.append hpm ?_
      show [kf x].Perm [k]
      rw [hkf k x hkey]
    have hsz1 : es1.size = es.size + 1 := by rw [← Array.length_toList, hperm.length_eq, List.length_append, Array.length_toList]; rfl
    have hb1' : es1.size < scanBound := by rw [hsz1]; exact hb1
    rw [← hsz1] at hjn
    refine wpAny_bind (hgw _ ?_)
    split
    · rename_i hpl
      rw [hpl] at hjn
      refine wpAny_bind ?_
      rw [hashByValue_scannable 8 hsc]
      refine wpAny_pure ?_
      refine addTailJ ?_ jo ho hex hd hel1 hp1 hb1' ?_ ?_ ?_
      · intro b s₁ Q' hq; cases b <;> first | exact wpAny_pure hq | exact wpAny_rule hq
      · split
        · exact hfits
        · exact SetTable.fits_plain_off hfits
      · simpa using hjn
      · intro h' hsb hS'; dsimp only; exact wpAny_pure (h h' _ hsb hS')
    · rename_i hpl
      rw [if_neg hpl, if_pos rfl] at hjn
      refine wpAny_bind (wpAny_pure ?_)
      simp only [↓reduceIte]
      refine addTailJ ?_ jo ho hex hd hel1 hp1 hb1' hfits hjn ?_
      · intro b s₁ Q' hq; cases b <;> first | exact wpAny_pure hq | exact wpAny_rule hq
      · intro h' hsb hS'; dsimp only; exact wpAny_pure (h h' _ hsb hS')
end
end L2.PU
namespace L2.PU
open PySem PySem.Spec PyProof.Rows
theorem ors_led (t : SetTable) (n : Nat) : (t.orStandIn n).led = t.led ∧ (t.plain = false → (t.orStandIn n).plain = false) := by
  unfold SetTable.orStandIn
  split
  · exact ⟨rfl, fun h => h⟩
  · exact ⟨rfl, fun _ => rfl⟩
theorem new_led (t : SetTable) (es : Array (Int × Value)) (h : Int) (x : Value) : (layNew t es h x).2.1.led = t.led ∧ (t.plain = false → (layNew t es h x).2.1.plain = false) := by
  unfold layNew
  split
  · obtain ⟨h1, h2⟩ := ors_led (t.put ‹_›).1 (SetTable.insertAt es (t.put ‹_›).2 (h, x)).size
    exact ⟨h1, fun z => h2 z⟩
  · exact ⟨rfl, fun _ => rfl⟩
theorem laid_led {mask finger moves : Nat} {led plain : Bool} {hs : Array Int} {t : SetTable} {o : Array Nat} (h : SetTable.laid mask finger moves led plain hs = some (t, o)) : t.led = led ∧ t.plain = plain := by
  unfold SetTable.laid at h
  cases hl : SetTable.layClean mask hs with
  | none => rw [hl] at h; cases h
  | some ow =>
    rw [hl] at h
    injection h with h
    injection h with h1 _
    rw [← h1]
    exact ⟨rfl, rfl⟩
theorem rel_led (t : SetTable) (es : Array (Int × Value)) (m : Nat) : (relayAll t es m).2.1.led = t.led ∧ (t.plain = false → (relayAll t es m).2.1.plain = false) := by
  unfold relayAll
  split
  · rename_i t' order e
    obtain ⟨h1, h2⟩ := laid_led e
    dsimp only
    split
    · exact ⟨h1, fun z => h2.trans z⟩
    · exact ⟨rfl, fun _ => rfl⟩
  · exact ⟨rfl, fun _ => rfl⟩
noncomputable def Js (b : Bool) (t : SetTable) (n : Nat) : Prop := t.led = b ∧ (n = 0 ∨ t.plain = false)
theorem js_ok (b : Bool) : Jok (Js b) (fun x => plainKind x = false) where
  new := fun t es h x px _ ⟨j1, _⟩ => by
    obtain ⟨n1, n2⟩ := new_led t es h x
    unfold tbl2
    cases hp : (layNew t es h x).2.1.plain with
    | true =>
      rw [if_pos rfl, px, if_neg (by decide)]
      exact ⟨n1.trans j1, .inr rfl⟩
    | false =>
      rw [if_neg (show ¬ (false = true) by decide), if_pos rfl]
      exact ⟨n1.trans j1, .inr hp⟩
  rel := fun t es m _ ⟨j1, j2⟩ => by
    obtain ⟨n1, n2⟩ := rel_led t es m
    exact ⟨n1.trans j1, j2.imp id n2⟩
section
variable {prog : Program} {w : World} {K : Type} [DecidableEq K] [BEq K] [LawfulBEq K] {knd : KeyKind prog w K} {kf : Value → K} {J : SetTable → Nat → Prop} {Px : Value → Prop}
variable {A : Around} {E : Value → Shared → Prop} {s : Shared} {R : Result → Shared → Prop} {I : Addr} {fp wr : List Addr} {G : Array GenState → Array GenState → Prop} {n : Nat} {P : Nat → Value → Prop} {St : Nat → Shared → Prop}
noncomputable def fmet (val : Nat → K) (i : Nat) : List K := ((List.range i).map val).foldl sd []
omit [DecidableEq K] [LawfulBEq K] in
theorem fmet_succ (val : Nat → K) (i : Nat) : fmet val (i + 1) = sd (fmet val i) (val i) := by
  unfold fmet; rw [List.range_succ, List.map_append, List.foldl_append]; rfl
omit [DecidableEq K] [LawfulBEq K] in
theorem fmet_le (val : Nat → K) : ∀ i, (fmet val i).length ≤ i
  | 0 => Nat.le_refl _
  | i + 1 => by
    rw [fmet_succ]; unfold sd
    have ih := fmet_le val i
    split
    · omega
    · rw [List.length_append, List.length_singleton]; omega
theorem SetJ.at {h h' : Heap} {a : Addr} {σ : List K} (x : SetJ knd kf J h a σ) (k : ∀ o, h.get? a = some o → h'.get? a = some o) : SetJ knd kf J h' a σ := by
  obtain ⟨o, es, ep, t, ho, rest⟩ := x
  exact ⟨o, es, ep, t, k o ho, rest⟩
theorem upd_loopJ (hkf : ∀ k v, knd.is k v = true → kf v = k) (jo : Jok J Px) (W : WalksS prog w A.in1 I fp wr G n P St) (S : Addr) (hSf : S ∉ fp)
    (val : Nat → K) (hval : ∀ i v, P i v → knd.is (val i) v = true ∧ v.scannable = true ∧ Px v) (hb : n + 1 < scanBound) :
    ∀ (k i : Nat) (s : Shared), n - i = k → i ≤ n → St i s → SetJ knd kf J s.heap S (fmet val i) →
      (∀ s', Moved (S :: wr) G s s' → SetJ knd kf J s'.heap S (fmet val n) → R (.ok (.ret .none)) s') →
      codeAny (model prog w) A (.builtin "set.update.loop" ⟨[.ref S, .ref I], []⟩) R s := by
  have hSw : S ∉ wr := fun h => hSf (W.sub _ h)
  have hsub : ∀ b ∈ wr, b ∈ S :: wr := fun b hb => List.mem_cons_of_mem _ hb
  intro k
  induction k with
  | zero =>
    intro i s hk hi hst hS hR
    have hin : i = n := by omega
    subst hin
    refine codeAny_builtin PyProof.Rows.F.entry_set_update_loop ?_
    rw [Around.under_plainId PyProof.Rows.F.plain_set_update_loop _]
    show wpAny _ A.in1 (pyNext (.ref I) >>= _) _ _ s
    refine wpAny_bind (W.done s _ _ hst fun s' hm => ?_)
    show wpAny _ A.in1 (ret Value.none) _ _ s'
    exact wpAny_pure (hR s' (hm.mono hsub) (hS.at fun o e => hm.heap S _ hSw e))
  | succ k ih =>
    intro i s hk hi hst hS hR
    have hlt : i < n := by omega
    refine codeAny_builtin PyProof.Rows.F.entry_set_update_loop ?_
    rw [Around.under_plainId PyProof.Rows.F.plain_set_update_loop _]
    show wpAny _ A.in1 (pyNext (.ref I) >>= _) _ _ s
    refine wpAny_bind (W.item i s _ _ hlt hst fun v s' hP hst' hm => ?_)
    obtain ⟨v1, v2, v3⟩ := hval i v hP
    have hS' : SetJ knd kf J s'.heap S (fmet val i) := hS.at fun o e => hm.heap S _ hSw e
    show wpAny _ A.in1 (holding [v] (setAdd S v) >>= _) _ _ s'
    refine wpAny_bind (wpAny_holding ?_)
    unfold setAdd
    refine wpAny_holding ?_
    refine wpAny_bind (knd.pyHash (k := val i) v1 ?_)
    have hroom : (fmet val i).length + 1 < scanBound := by have := fmet_le val i; omega
    refine setAddJ hkf jo (s := { s' with toks := s'.toks + 1 }) v1 v2 v3 hS' hroom fun h' b hsb hS2 => ?_
    rw [← fmet_succ] at hS2
    refine wpAny_pure ⟨plainId_quiet PyProof.Rows.F.plain_set_update_loop _, ih (i + 1) _ (by omega) hlt (W.frame _ s' _ _ hst' (Nat.le_succ _) fun b hb o e => ?_) hS2 fun s'' hm'' hS'' => ?_⟩
    · rw [hsb.2 b (fun h : b = S => hSf (by rw [← h]; exact hb))]; exact e
    · refine hR s'' (Moved.trans W.gtrans ((hm.mono hsub).then_heap (Nat.le_succ _) fun b o hb e => ?_) hm'') hS''
      rw [hsb.2 b (fun h : b = S => hb (by rw [h]; exact List.mem_cons_self))]; exact e
end
section
variable {prog : Program} {w : World} {A : Around} {E : Value → Shared → Prop} {s : Shared}
noncomputable abbrev byTx (w : World) : Bool := w.params.followText "set-order"
theorem set_new_b (a : Value) {Q₁ : Value → Shared → Prop}
    (h : Q₁ (.ref s.heap.objs.size) { s with heap := s.heap.push { cls := .type "set", dict := none, data := .set #[] 0 (.fresh 0 0 (!byTx w)) } }) :
    codeAny (model prog w) A (.call (.builtin "set.__new__") ⟨[.type "set", a], []⟩) (wants Q₁ E) s := by
  refine codeAny_of_tree ?_
  show wpAny _ A.in1 (do checkBuiltinCall "set.__new__" ⟨[.type "set", a], []⟩; again (.builtin "set.__new__" ⟨[.type "set", a], []⟩)) _ _ s
  refine wpAny_bind (wpAny_of_eq (PySem.F.newCall_set_1 a) (wpAny_pure ⟨plainId_quiet PySem.F.plain_set_new _, codeAny_builtin PySem.F.entry_set_new ?_⟩))
  rw [Around.under_plainId PySem.F.plain_set_new _]
  unfold Builtin.«set.__new__» Builtin.Frozenset.newClass
  have hsub := PySem.sub_set_self
  obtain ⟨hp, g, d, tk, os⟩ := s
  dsimp only
  wp_walk
  refine wpAny_askSetting (wpAny_pure ?_)
  dsimp only
  simp only [newObj]
  refine wpAny_bind (wpAny_alloc (wpAny_pure ?_))
  exact wpAny_pure h
variable {K : Type} [DecidableEq K] [BEq K] [LawfulBEq K] {knd : KeyKind prog w K} {kf : Value → K} {J : SetTable → Nat → Prop} {Px : Value → Prop}
end
end L2.PU
namespace L2.PU
open PySem PySem.Spec PyProof.Rows
theorem slot_si_next : Slot "set_iterator" "__next__" "set_iterator.__next__" :=
  .of (owner := "set_iterator") (n := "__next__") (by rw [typeLookup_type, builtinLookup_eq_fast]; kernel_rfl) (by decide +kernel) (by decide +kernel) (by decide +kernel)
    (by first | exact .inl (by decide +kernel) | exact .inr (by decide +kernel)) (by rw [isSubtype_type]; kernel_rfl)
theorem entry_si_next : entryFor table "set_iterator.__next__" = some Builtin.«set_iterator.__next__» := entryFor_of_tree (by kernel_rfl)
theorem owner_si : Manifest.owners.lookup (String.ofList ['r', 'o', 't', 'a', 'r', 'e', 't', 'i', '_', 't', 'e', 's'].reverse) = some Manifest.sig_set_iterator := by kernel_rfl
theorem args_si_next (a : Value) : argsOk "set_iterator.__next__" ⟨[a], []⟩ := by
  unfold argsOk; rw [signature?_of (id := "set_iterator.__next__") (n := ['_', '_', 't', 'x', 'e', 'n', '_', '_']) (o := ['r', 'o', 't', 'a', 'r', 'e', 't', 'i', '_', 't', 'e', 's']) (by kernel_rfl) owner_si]; kernel_rfl
theorem slot_si_iter : Slot "set_iterator" "__iter__" "set_iterator.__iter__" :=
  .of (owner := "set_iterator") (n := "__iter__") (by rw [typeLookup_type, builtinLookup_eq_fast]; kernel_rfl) (by decide +kernel) (by decide +kernel) (by decide +kernel)
    (by first | exact .inl (by decide +kernel) | exact .inr (by decide +kernel)) (by rw [isSubtype_type]; kernel_rfl)
theorem entry_si_iter : entryFor table "set_iterator.__iter__" = some Builtin.«dict_keyiterator.__iter__» :=
  entryFor_alias (id' := "dict_keyiterator.__iter__") (by kernel_rfl) rfl (by decide +kernel) (by kernel_rfl)
theorem args_si_iter (a : Value) : argsOk "set_iterator.__iter__" ⟨[a], []⟩ := by
  unfold argsOk; rw [signature?_of (id := "set_iterator.__iter__") (n := ['_', '_', 'r', 'e', 't', 'i', '_', '_']) (o := ['r', 'o', 't', 'a', 'r', 'e', 't', 'i', '_', 't', 'e', 's']) (by kernel_rfl) owner_si]; kernel_rfl
theorem entry_set_iter : entryFor table "set.__iter__" = some Builtin.«frozenset.__iter__» :=
  entryFor_alias (id' := "frozenset.__iter__") (by kernel_rfl) rfl (by decide +kernel) (by kernel_rfl)
noncomputable def IsSi (h : Heap) (it a : Addr) (first : Value) (i n ep : Nat) : Prop := ∃ o, h.get? it = some o ∧ o.cls = .type "set_iterator" ∧ o.data = .fields #[first, .int i 0, .ref a, .int n 0, .int ep 0]
section
variable {prog : Program} {w : World} {A : Around} {E : Value → Shared → Prop} {s : Shared} {it a : Addr} {first : Value} {i n ep slot : Nat} {o : Obj} {es : Array (Int × Value)} {t : SetTable}
theorem IsSi.typeIs (h : IsSi s.heap it a first i n ep) : s.TypeIs (.ref it) "set_iterator" := let ⟨o, ho, hc, _⟩ := h; ⟨o, ho, hc⟩
theorem IsSi.at {h h' : Heap} (x : IsSi h it a first i n ep) (e : ∀ o, h.get? it = some o → h'.get? it = some o) : IsSi h' it a first i n ep := let ⟨o, ho, r⟩ := x; ⟨o, e _ ho, r⟩
theorem si_self {Q : Value → Shared → Prop} (hit : IsSi s.heap it a first i n ep) (h : Q (.ref it) s) : wpAny (model prog w) A (pyIter (.ref it)) Q E s := by
  refine wpAny_pyIter_slot hit.typeIs slot_si_iter (wpAny_call_entry slot_si_iter hit.typeIs entry_si_iter ?_ (args_si_iter _))
  show wpAny _ _ (ret (.ref it)) _ _ s
  exact wpAny_pure ⟨_, rfl, "set_iterator", _, hit.typeIs, slot_si_next.lookup, h⟩
theorem next_int {Q : Option Value → Shared → Prop} {x : Value} {nx : Nat} (hit : IsSi s.heap it a (.int slot 0) i n ep) (ho : s.heap.get? a = some o) (hd : o.data = .set es ep t) (hf : t.fits es.size = true) (hn : es.size = n)
    (hN : ∀ (A : Around) (Q : Option (Value × Nat) → Shared → Prop) (E : Value → Shared → Prop), Q (some (x, nx)) s → wpAny (model prog w) A (setNext a slot i ep) Q E s)
    (hQ : ∀ h', IsSi h' it a (.int nx 0) (i + 1) n ep → Heap.SameBut it s.heap h' → Q (some x) { s with heap := h' }) : wpAny (model prog w) A (pyNext (.ref it)) Q E s := by
  obtain ⟨oi, hoi, hc, hdi⟩ := id hit
  unfold pyNext
  refine wpAny_bind (wpAny_attempt (wpAny_callSpecial?_slot (name := Str.ofString "__next__") hit.typeIs slot_si_next
    (wpAny_call_entry slot_si_next hit.typeIs entry_si_next ?_ (args_si_next _))))
  unfold Builtin.«set_iterator.__next__»
  refine wpAny_bind (m := slotArgs "__next__" 0 _) (wpAny_pure ?_)
  refine wpAny_bind (wpAny_fieldsOf hoi hdi ?_)
  show wpAny _ _ (setEntries a >>= _) _ _ s
  refine wpAny_bind (wpAny_setEntries_of ho hd hf ?_)
  rw [if_neg (by rw [hn]; simp)]
  show wpAny _ _ (setNext a slot i ep >>= _) _ _ s
  refine wpAny_bind (hN _ _ _ ?_)
  show wpAny _ _ (setField (.ref it) 0 (rawInt nx) >>= _) _ _ s
  refine wpAny_bind (wpAny_setField hoi hdi (by simp) ?_)
  have ho2 := Heap.get?_update_self (Obj.mapFields (·.setIfInBounds 0 (rawInt nx))) hoi (Obj.isFreed_of_fields (Obj.data_mapFields hdi _))
  have hd2 := Obj.data_mapFields hdi (·.setIfInBounds 0 (rawInt nx))
  refine wpAny_bind (wpAny_setField ho2 hd2 (by simp) ?_)
  refine wpAny_pure ⟨_, rfl, wpAny_pure (hQ _ ⟨_, Heap.get?_update_self _ ho2 (Obj.isFreed_of_fields (Obj.data_mapFields hd2 _)), ?_, ?_⟩ ((Heap.SameBut.update _ _ _).trans (Heap.SameBut.update _ _ _)))⟩
  · exact (Obj.cls_mapFields ..).trans ((Obj.cls_mapFields ..).trans hc)
  · rw [Obj.data_mapFields hd2]
    simp [rawInt]
theorem next_end {Q : Option Value → Shared → Prop} (hh : A.handled = none) (hit : IsSi s.heap it a (.int slot 0) i n ep) (ho : s.heap.get? a = some o) (hd : o.data = .set es ep t) (hf : t.fits es.size = true) (hn : es.size = n)
    (hN : ∀ (A : Around) (Q : Option (Value × Nat) → Shared → Prop) (E : Value → Shared → Prop), Q none s → wpAny (model prog w) A (setNext a slot i ep) Q E s)
    (hQ : ∀ h', Heap.ExtBut it s.heap h' → Q none { s with heap := h' }) : wpAny (model prog w) A (pyNext (.ref it)) Q E s := by
  obtain ⟨oi, hoi, hc, hdi⟩ := id hit
  unfold pyNext
  refine wpAny_bind (wpAny_attempt (wpAny_callSpecial?_slot (name := Str.ofString "__next__") hit.typeIs slot_si_next
    (wpAny_call_entry slot_si_next hit.typeIs entry_si_next ?_ (args_si_next _))))
  unfold Builtin.«set_iterator.__next__»
  refine wpAny_bind (m := slotArgs "__next__" 0 _) (wpAny_pure ?_)
  refine wpAny_bind (wpAny_fieldsOf hoi hdi ?_)
  show wpAny _ _ (setEntries a >>= _) _ _ s
  refine wpAny_bind (wpAny_setEntries_of ho hd hf ?_)
  rw [if_neg (by rw [hn]; simp)]
  show wpAny _ _ (setNext a slot i ep >>= _) _ _ s
  refine wpAny_bind (hN _ _ _ ?_)
  show wpAny _ _ (setField (.ref it) 2 .none >>= _) _ _ s
  refine wpAny_bind (wpAny_setField hoi hdi (by simp) ?_)
  show wpAny _ _ (newExc (.type "StopIteration") [] >>= _) _ _ _
  refine wpAny_bind ?_
  simp only [newExc, newTuple]
  refine wpAny_bind (wpAny_newObj_type ?_ (by size_fits))
  refine wpAny_bind (m := firstArgMember _ _) (wpAny_of_eq (a := Value.none) (by first | rfl | (simp only [firstArgMember]; rfl)) ?_)
  refine wpAny_newObj_type ?_ (by size_fits)
  simp only [raiseNew]
  refine wpAny_bind (wpAny_handled ?_)
  rw [show A.in1.handled = none from hh]
  refine wpAny_bind (wpAny_pure (wpAny_throw ?_))
  refine wpAny_bind (wpAny_isInstance (T := "StopIteration") (b := true) ⟨_, Heap.get?_push_size _ rfl, rfl⟩ isSubtype_stop ?_)
  exact wpAny_pure (hQ _ (((Heap.SameBut.update ..).extBut.push _).push _))
noncomputable def IsPl (h : Heap) (P : Addr) (pl : List Nat) : Prop := ∃ o c, h.get? P = some o ∧ o.data = .seq (pl.map fun i : Nat => rawInt i).toArray c
theorem next_drawn {Q : Option Value → Shared → Prop} {P : Addr} {pl : List Nat} {j : Nat} {e : Int × Value} (hit : IsSi s.heap it a (.ref P) i n ep) (hP : IsPl s.heap P pl) (ho : s.heap.get? a = some o) (hd : o.data = .set es ep t) (hf : t.fits es.size = true) (hn : es.size = n)
    (hj : pl[i]? = some j) (he : es[j]? = some e)
    (hQ : ∀ h', IsSi h' it a (.ref P) (i + 1) n ep → Heap.SameBut it s.heap h' → Q (some e.2) { s with heap := h' }) : wpAny (model prog w) A (pyNext (.ref it)) Q E s := by
  obtain ⟨oi, hoi, hc, hdi⟩ := id hit
  obtain ⟨oP, cP, hoP, hdP⟩ := hP
  unfold pyNext
  refine wpAny_bind (wpAny_attempt (wpAny_callSpecial?_slot (name := Str.ofString "__next__") hit.typeIs slot_si_next
    (wpAny_call_entry slot_si_next hit.typeIs entry_si_next ?_ (args_si_next _))))
  unfold Builtin.«set_iterator.__next__»
  refine wpAny_bind (m := slotArgs "__next__" 0 _) (wpAny_pure ?_)
  refine wpAny_bind (wpAny_fieldsOf hoi hdi ?_)
  show wpAny _ _ (setEntries a >>= _) _ _ s
  refine wpAny_bind (wpAny_setEntries_of ho hd hf ?_)
  rw [if_neg (by rw [hn]; simp)]
  show wpAny _ _ (seqItems? (.ref P) >>= _) _ _ s
  refine wpAny_bind (wpAny_seqItems hoP hdP ?_)
  have hpl : ((pl.map fun i : Nat => rawInt i).toArray)[i]? = some (rawInt j) := by simp [hj]
  show wpAny _ _ (match ((pl.map fun i : Nat => rawInt i).toArray)[i]? with | some (.int place _) => _ | some _ => _ | none => _) _ _ s
  rw [hpl]
  show wpAny _ _ (setNextDrawn a j ep >>= _) _ _ s
  unfold setNextDrawn
  refine wpAny_bind (wpAny_bind (wpAny_setState_of ho hd hf ?_))
  dsimp only
  rw [if_neg (by simp)]
  refine (show wpAny _ _ (match es[j]? with | some (_, x) => pure x | _ => unsupported "internal:set_iterator") _ _ s from ?_)
  rw [he]
  refine wpAny_pure ?_
  refine wpAny_bind (wpAny_setField hoi hdi (by simp) ?_)
  refine wpAny_pure ⟨_, rfl, wpAny_pure (hQ _ ⟨_, Heap.get?_update_self _ hoi (Obj.isFreed_of_fields (Obj.data_mapFields hdi _)), ?_, ?_⟩ (Heap.SameBut.update _ _ _))⟩
  · exact (Obj.cls_mapFields ..).trans hc
  · rw [Obj.data_mapFields hdi]
    simp [rawInt]
theorem next_drawn_end {Q : Option Value → Shared → Prop} {P : Addr} {pl : List Nat} (hh : A.handled = none) (hit : IsSi s.heap it a (.ref P) i n ep) (hP : IsPl s.heap P pl) (ho : s.heap.get? a = some o) (hd : o.data = .set es ep t) (hf : t.fits es.size = true) (hn : es.size = n)
    (hj : pl[i]? = none)
    (hQ : ∀ h', Heap.ExtBut it s.heap h' → Q none { s with heap := h' }) : wpAny (model prog w) A (pyNext (.ref it)) Q E s := by
  obtain ⟨oi, hoi, hc, hdi⟩ := id hit
  obtain ⟨oP, cP, hoP, hdP⟩ := hP
  unfold pyNext
  refine wpAny_bind (wpAny_attempt (wpAny_callSpecial?_slot (name := Str.ofString "__next__") hit.typeIs slot_si_next
    (wpAny_call_entry slot_si_next hit.typeIs entry_si_next ?_ (args_si_next _))))
  unfold Builtin.«set_iterator.__next__»
  refine wpAny_bind (m := slotArgs "__next__" 0 _) (wpAny_pure ?_)
  refine wpAny_bind (wpAny_fieldsOf hoi hdi ?_)
  show wpAny _ _ (setEntries a >>= _) _ _ s
  refine wpAny_bind (wpAny_setEntries_of ho hd hf ?_)
  rw [if_neg (by rw [hn]; simp)]
  show wpAny _ _ (seqItems? (.ref P) >>= _) _ _ s
  refine wpAny_bind (wpAny_seqItems hoP hdP ?_)
  have hpl : ((pl.map fun i : Nat => rawInt i).toArray)[i]? = none := by simpa using hj
  show wpAny _ _ (match ((pl.map fun i : Nat => rawInt i).toArray)[i]? with | some (.int place _) => _ | some _ => _ | none => _) _ _ s
  rw [hpl]
  show wpAny _ _ (setField (.ref it) 0 (rawInt 0) >>= _) _ _ s
  refine wpAny_bind (wpAny_setField hoi hdi (by simp) ?_)
  have ho2 := Heap.get?_update_self (Obj.mapFields (·.setIfInBounds 0 (rawInt 0))) hoi (Obj.isFreed_of_fields (Obj.data_mapFields hdi _))
  have hd2 := Obj.data_mapFields hdi (·.setIfInBounds 0 (rawInt 0))
  refine wpAny_bind (wpAny_setField ho2 hd2 (by simp) ?_)
  show wpAny _ _ (newExc (.type "StopIteration") [] >>= _) _ _ _
  refine wpAny_bind ?_
  simp only [newExc, newTuple]
  refine wpAny_bind (wpAny_newObj_type ?_ (by size_fits))
  refine wpAny_bind (m := firstArgMember _ _) (wpAny_of_eq (a := Value.none) (by first | rfl | (simp only [firstArgMember]; rfl)) ?_)
  refine wpAny_newObj_type ?_ (by size_fits)
  simp only [raiseNew]
  refine wpAny_bind (wpAny_handled ?_)
  rw [show A.in1.handled = none from hh]
  refine wpAny_bind (wpAny_pure (wpAny_throw ?_))
  refine wpAny_bind (wpAny_isInstance (T := "StopIteration") (b := true) ⟨_, Heap.get?_push_size _ rfl, rfl⟩ isSubtype_stop ?_)
  exact wpAny_pure (hQ _ ((((Heap.SameBut.update _ _ _).trans (Heap.SameBut.update _ _ _)).extBut.push _).push _))
theorem choose_any {src : Source} {m : Nat} {Q : Nat → Shared → Prop} (hm : m ≠ 0) (h : ∀ j dr, j < m → Q j { s with drawn := dr }) : wpAny (model prog w) A (choose src m) Q E s := fun _ _ _ => ⟨hm, h _ _ (Nat.mod_lt _ (Nat.pos_of_ne_zero hm))⟩
theorem erase_perm {α : Type} : ∀ {l : List α} {j : Nat} (hj : j < l.length), (l[j] :: l.eraseIdx j).Perm l
  | x :: r, 0, _ => List.Perm.refl _
  | x :: r, j + 1, hj => by
    have hj' : j < r.length := by simpa using hj
    have ih := erase_perm hj'
    show (r[j] :: x :: r.eraseIdx j).Perm (x :: r)
    exact (List.Perm.swap x r[j] (r.eraseIdx j)).trans (List.Perm.cons x ih)
theorem draw_any {α : Type} : ∀ (m : Nat) (xs : List α) (s : Shared) (Q : List α → Shared → Prop), m = xs.length → (∀ ys dr, ys.Perm xs → Q ys { s with drawn := dr }) → wpAny (model prog w) A (drawOrder m xs) Q E s
  | 0, xs, s, Q, hm, h => by
    have : xs = [] := List.eq_nil_of_length_eq_zero hm.symm
    subst this
    unfold drawOrder
    exact wpAny_pure (h [] s.drawn (List.Perm.refl _))
  | m + 1, [], s, Q, hm, h => by simp at hm
  | m + 1, x :: r, s, Q, hm, h => by
    unfold drawOrder
    refine wpAny_bind (choose_any (by simp) fun j dr hj => ?_)
    have ej : (x :: r)[j]? = some (x :: r)[j] := List.getElem?_eq_getElem hj
    rw [ej]
    dsimp only
    refine wpAny_bind (draw_any m ((x :: r).eraseIdx j) _ _ (by rw [List.length_eraseIdx_of_lt hj]; simp at hm ⊢; omega) fun ys dr' hp => wpAny_pure (h _ dr' ?_))
    refine (List.Perm.cons _ hp).trans ?_
    exact erase_perm hj
theorem pick_perm {α : Type} (nx : Nat → Nat) : ∀ (m k : Nat) (left : List α) (out : Array α), m = left.length → (pickOrder.go nx m k left out).toList.Perm (out.toList ++ left)
  | 0, k, left, out, hm => by
    have : left = [] := List.eq_nil_of_length_eq_zero hm.symm
    subst this
    unfold pickOrder.go
    simp
  | m + 1, k, left, out, hm => by
    have hpos : 0 < left.length := by omega
    have hj : nx k % left.length < left.length := Nat.mod_lt _ hpos
    unfold pickOrder.go
    rw [List.getElem?_eq_getElem hj]
    dsimp only
    refine (pick_perm nx m (k + 1) _ _ (by rw [List.length_eraseIdx_of_lt hj]; omega)).trans ?_
    rw [Array.toList_push, List.append_assoc]
    exact List.Perm.append_left _ (erase_perm hj)
end
end L2.PU
namespace L2.PU
open PySem PySem.Spec PyProof.Rows
section
variable {prog : Program} {w : World} {A : Around} {E : Value → Shared → Prop} {s : Shared} {a : Addr} {ep : Nat} {o : Obj} {es : Array (Int × Value)} {t : SetTable}
theorem bytx_any {Q : Bool → Shared → Prop} (h : Q (byTx w) s) : wpAny (model prog w) A setsByText Q E s := wpAny_bind (wpAny_askSetting (wpAny_pure h))
theorem walk_text {Q : Array (Int × Value) → Shared → Prop} (hb : byTx w = true) (ho : s.heap.get? a = some o) (hd : o.data = .set es ep t) (hf : t.fits es.size = true)
    (h : Q (pickOrder (w.params.setOrder a ep) es) s) : wpAny (model prog w) A (setWalk a) Q E s := by
  unfold setWalk
  refine wpAny_bind (wpAny_setState_of ho hd hf ?_)
  dsimp only
  refine wpAny_bind (bytx_any ?_)
  rw [hb, if_pos rfl]
  exact wpAny_bind (wpAny_askSetting (wpAny_pure h))
theorem snext_text {Q : Option (Value × Nat) → Shared → Prop} {slot i : Nat} (hb : byTx w = true) (ho : s.heap.get? a = some o) (hd : o.data = .set es ep t) (hf : t.fits es.size = true)
    (h : Q (((pickOrder (w.params.setOrder a ep) es)[i]?).map fun e => (e.2, slot)) s) : wpAny (model prog w) A (setNext a slot i ep) Q E s := by
  unfold setNext
  refine wpAny_bind (wpAny_setState_of ho hd hf ?_)
  dsimp only
  refine wpAny_bind (bytx_any ?_)
  rw [hb, if_pos rfl, if_neg (by simp)]
  exact wpAny_bind (walk_text hb ho hd hf (wpAny_pure h))
theorem snext_tab {Q : Option (Value × Nat) → Shared → Prop} {slot i : Nat} (hb : byTx w = false) (ho : s.heap.get? a = some o) (hd : o.data = .set es ep t) (hf : t.fits es.size = true) (hnd : (!t.plain && decide (es.size > 1)) = false) (hled : t.led = true)
    (h : Q (match es[SetTable.below t.place slot]?, t.place[SetTable.below t.place slot]? with | some (_, x), some j => some (x, j + 1) | _, _ => none) s) : wpAny (model prog w) A (setNext a slot i ep) Q E s := by
  unfold setNext
  refine wpAny_bind (wpAny_setState_of ho hd hf ?_)
  dsimp only
  refine wpAny_bind (bytx_any ?_)
  rw [hb, if_neg (by decide)]
  refine (show wpAny _ _ (if (!t.plain && decide (es.size > 1)) = true then _ else _) _ _ s from ?_)
  rw [hnd, if_neg (by decide)]
  refine wpAny_bind ?_
  refine (show wpAny _ _ (if (!t.led && !es.isEmpty) = true then _ else _) _ _ s from ?_)
  rw [hled, if_neg (by simp)]
  exact wpAny_pure (wpAny_pure h)
end
noncomputable def slN (pl : Array Nat) (i : Nat) : Nat := if i = 0 then 0 else pl.getD (i - 1) 0 + 1
noncomputable def Rise (pl : Array Nat) : Prop := ∀ i, i ≤ pl.size → SetTable.below pl (slN pl i) = i
theorem go_ok {xs : Array Nat} {j : Nat} (hs : ∀ i k, i < k → k < xs.size → xs.getD i 0 < xs.getD k 0) : ∀ (f lo hi : Nat), hi - lo ≤ f → lo ≤ hi → hi ≤ xs.size → (∀ i, i < lo → xs.getD i 0 < j) → (∀ i, hi ≤ i → i < xs.size → j ≤ xs.getD i 0) →
    SetTable.below.go xs j f lo hi ≤ xs.size ∧ (∀ i, i < SetTable.below.go xs j f lo hi → xs.getD i 0 < j) ∧ ∀ i, SetTable.below.go xs j f lo hi ≤ i → i < xs.size → j ≤ xs.getD i 0
  | 0, lo, hi, h1, h2, h3, h4, h5 => by
    unfold SetTable.below.go
    exact ⟨by omega, h4, fun i h => h5 i (by omega)⟩
  | f + 1, lo, hi, h1, h2, h3, h4, h5 => by
    unfold SetTable.below.go
    by_cases hl : lo < hi
    · rw [if_pos hl]
      dsimp only
      have hm : (lo + hi) / 2 < xs.size := by omega
      have eg : xs.getD ((lo + hi) / 2) j = xs.getD ((lo + hi) / 2) 0 := by simp [Array.getD, hm]
      rw [eg]
      by_cases hc : xs.getD ((lo + hi) / 2) 0 < j
      · rw [if_pos hc]
        refine go_ok hs f _ hi (by omega) (by omega) h3 (fun i hi' => ?_) h5
        rcases Nat.lt_or_ge i ((lo + hi) / 2) with z | z
        · exact Nat.lt_trans (hs i _ z hm) hc
        · have : i = (lo + hi) / 2 := by omega
          rw [this]; exact hc
      · rw [if_neg hc]
        refine go_ok hs f lo _ (by omega) (by omega) (by omega) h4 fun i hi' hi2 => ?_
        rcases Nat.lt_or_ge ((lo + hi) / 2) i with z | z
        · have := hs _ i z hi2
          omega
        · have : i = (lo + hi) / 2 := by omega
          rw [this]; omega
    · rw [if_neg hl]
      exact ⟨by omega, h4, fun i h => h5 i (by omega)⟩
theorem below_ok {xs : Array Nat} (hs : ∀ i k, i < k → k < xs.size → xs.getD i 0 < xs.getD k 0) (j : Nat) : SetTable.below xs j ≤ xs.size ∧ (∀ i, i < SetTable.below xs j → xs.getD i 0 < j) ∧ ∀ i, SetTable.below xs j ≤ i → i < xs.size → j ≤ xs.getD i 0 :=
  go_ok hs xs.size 0 xs.size (by omega) (by omega) (Nat.le_refl _) (fun i h => by omega) fun i h h2 => by omega
theorem rise_of {pl : Array Nat} (hs : ∀ i k, i < k → k < pl.size → pl.getD i 0 < pl.getD k 0) : Rise pl := fun i hi => by
  obtain ⟨b1, b2, b3⟩ := below_ok hs (slN pl i)
  unfold slN at b1 b2 b3 ⊢
  by_cases h0 : i = 0
  · subst h0
    rw [if_pos rfl] at b1 b2 b3 ⊢
    rcases Nat.eq_zero_or_pos (SetTable.below pl 0) with z | z
    · exact z
    · exact absurd (b2 0 z) (by omega)
  · rw [if_neg h0] at b1 b2 b3 ⊢
    generalize SetTable.below pl (pl.getD (i - 1) 0 + 1) = r at b1 b2 b3 ⊢
    have h1 : i - 1 < r := Nat.lt_of_not_le fun z => by
      have := b3 (i - 1) z (by omega)
      omega
    rcases Nat.lt_or_ge i r with z | z
    · have h2 := b2 i z
      have h3 := hs (i - 1) i (by omega) (by omega)
      omega
    · omega
theorem rise0 {pl : Array Nat} (h : pl.size ≤ 1) : Rise pl := rise_of fun i k h1 h2 => by omega
theorem fmap_some {α β : Type} {f : α → Option β} {g : α → β} : ∀ {l : List α}, (∀ x ∈ l, f x = some (g x)) → l.filterMap f = l.map g
  | [], _ => rfl
  | x :: r, h => by
    rw [List.filterMap_cons, h x List.mem_cons_self, List.map_cons, fmap_some fun y hy => h y (List.mem_cons_of_mem _ hy)]
section
variable {prog : Program} {w : World} {A : Around} {E : Value → Shared → Prop} {s : Shared} {a I : Addr} {ep : Nat} {o : Obj} {es : Array (Int × Value)} {t : SetTable}
theorem walks_text (hb : byTx w = true) (hd : o.data = .set es ep t) (hf : t.fits es.size = true) (hne : a ≠ I) (hh : A.handled = none) :
    Walks prog w A I [I, a] [I] es.size (fun i v => (((pickOrder (w.params.setOrder a ep) es).toList.map (·.2)))[i]? = some v) (fun i h => (∃ slot : Nat, IsSi h I a (.int slot 0) i es.size ep) ∧ h.get? a = some o) where
  sub := fun b hb => by simp at hb; simp [hb]
  frame := fun _ _ _ st hk => by
    obtain ⟨⟨sl, h1⟩, h2⟩ := st
    exact ⟨⟨sl, h1.at fun o e => hk I (by simp) o e⟩, hk a (by simp) _ h2⟩
  item := fun i s Q E hi st hQ => by
    obtain ⟨⟨sl, h1⟩, h2⟩ := st
    have hlen : (pickOrder (w.params.setOrder a ep) es).toList.length = es.size := by
      have := (pick_perm (w.params.setOrder a ep) es.size 0 es.toList #[] (by simp)).length_eq
      simpa [pickOrder] using this
    have hx : (pickOrder (w.params.setOrder a ep) es)[i]? = some (pickOrder (w.params.setOrder a ep) es)[i]! := by
      rw [← Array.getElem?_toList, List.getElem?_eq_getElem (by omega)]
      simp [getElem!_def, ← Array.getElem?_toList, List.getElem?_eq_getElem (show i < (pickOrder (w.params.setOrder a ep) es).toList.length by omega)]
    generalize (pickOrder (w.params.setOrder a ep) es)[i]! = e at hx
    refine next_int h1 h2 hd hf rfl (x := e.2) (nx := sl) (fun A Q E hq => snext_text hb h2 hd hf (by rw [hx]; exact hq)) fun h' hit' hs' => ?_
    refine hQ _ h' s.toks ?_ ⟨⟨sl, hit'⟩, hs'.extBut a o hne h2⟩ fun b o hb e => hs'.extBut b o (fun h => hb (by simp [h])) e
    rw [List.getElem?_map, Array.getElem?_toList, hx]; rfl
  done := fun s Q E st hQ => by
    obtain ⟨⟨sl, h1⟩, h2⟩ := st
    have hlen : (pickOrder (w.params.setOrder a ep) es).toList.length = es.size := by
      have := (pick_perm (w.params.setOrder a ep) es.size 0 es.toList #[] (by simp)).length_eq
      simpa [pickOrder] using this
    have hx : (pickOrder (w.params.setOrder a ep) es)[es.size]? = none := by
      rw [← Array.getElem?_toList, List.getElem?_eq_none (by omega)]
    exact next_end hh h1 h2 hd hf rfl (fun A Q E hq => snext_text hb h2 hd hf (by rw [hx]; exact hq)) fun h' he' => hQ h' s.toks fun b o hb e => he' b o (fun h => hb (by simp [h])) e
  self := fun _ _ _ _ st hQ => by
    obtain ⟨⟨sl, h1⟩, h2⟩ := st
    exact si_self h1 hQ
theorem walks_tab (hb : byTx w = false) (hd : o.data = .set es ep t) (hf : t.fits es.size = true) (hnd : (!t.plain && decide (es.size > 1)) = false) (hled : t.led = true) (hr : Rise t.place) (hne : a ≠ I) (hh : A.handled = none) :
    Walks prog w A I [I, a] [I] es.size (fun i v => (es.toList.map (·.2))[i]? = some v) (fun i h => IsSi h I a (.int (slN t.place i : Nat) 0) i es.size ep ∧ h.get? a = some o) where
  sub := fun b hb => by simp at hb; simp [hb]
  frame := fun _ _ _ st hk => ⟨st.1.at fun o e => hk I (by simp) o e, hk a (by simp) _ st.2⟩
  item := fun i s Q E hi st hQ => by
    obtain ⟨h1, h2⟩ := st
    have hsz : t.place.size = es.size := by
      simp only [SetTable.fits, Bool.and_eq_true, beq_iff_eq] at hf
      exact hf.1
    have hx : es[i]? = some es[i] := Array.getElem?_eq_getElem hi
    have hp : t.place[i]? = some (t.place[i]'(by omega)) := Array.getElem?_eq_getElem (by omega)
    have en : slN t.place (i + 1) = t.place[i]'(by omega) + 1 := by
      unfold slN
      rw [if_neg (by omega)]
      simp [Array.getD, show i < t.place.size by omega]
    refine next_int h1 h2 hd hf rfl (x := es[i].2) (nx := slN t.place (i + 1)) (fun A Q E hq => snext_tab hb h2 hd hf hnd hled (by rw [hr i (by omega), hx, hp]; rw [en] at hq; exact hq)) fun h' hit' hs' => ?_
    refine hQ _ h' s.toks ?_ ⟨hit', hs'.extBut a o hne h2⟩ fun b o hb e => hs'.extBut b o (fun h => hb (by simp [h])) e
    rw [List.getElem?_map, Array.getElem?_toList, hx]; rfl
  done := fun s Q E st hQ => by
    obtain ⟨h1, h2⟩ := st
    have hsz : t.place.size = es.size := by
      simp only [SetTable.fits, Bool.and_eq_true, beq_iff_eq] at hf
      exact hf.1
    have hx : es[es.size]? = none := Array.getElem?_eq_none (Nat.le_refl _)
    exact next_end hh h1 h2 hd hf rfl (fun A Q E hq => snext_tab hb h2 hd hf hnd hled (by rw [hr es.size (by omega), hx]; exact hq)) fun h' he' => hQ h' s.toks fun b o hb e => he' b o (fun h => hb (by simp [h])) e
  self := fun _ _ _ _ st hQ => si_self st.1 hQ
theorem walks_drawn {P : Addr} {pl : List Nat} (hd : o.data = .set es ep t) (hf : t.fits es.size = true) (hp : pl.Perm (List.range es.size)) (hne : a ≠ I) (hPI : P ≠ I) (hh : A.handled = none) :
    Walks prog w A I [I, a, P] [I] es.size (fun i v => (pl.filterMap fun j => (es[j]?).map (·.2))[i]? = some v) (fun i h => IsSi h I a (.ref P) i es.size ep ∧ h.get? a = some o ∧ IsPl h P pl) where
  sub := fun b hb => by simp at hb; simp [hb]
  frame := fun _ _ _ st hk => by
    obtain ⟨h1, h2, op, c, h3, h4⟩ := st
    exact ⟨h1.at fun o e => hk I (by simp) o e, hk a (by simp) _ h2, op, c, hk P (by simp) _ h3, h4⟩
  item := fun i s Q E hi st hQ => by
    obtain ⟨h1, h2, h3⟩ := st
    have hlen : pl.length = es.size := by rw [hp.length_eq, List.length_range]
    have hj : pl[i]? = some (pl[i]'(by omega)) := List.getElem?_eq_getElem (by omega)
    have hjl : pl[i]'(by omega) < es.size := List.mem_range.mp (hp.mem_iff.mp (List.getElem_mem (by omega)))
    generalize pl[i]'(by omega) = j at hj hjl
    have he : es[j]? = some es[j] := Array.getElem?_eq_getElem hjl
    refine next_drawn h1 h3 h2 hd hf rfl hj he fun h' hit' hs' => ?_
    obtain ⟨op, cp, hop, hdp⟩ := h3
    refine hQ _ h' s.toks ?_ ⟨hit', hs'.extBut a o hne h2, op, cp, hs'.extBut P op hPI hop, hdp⟩ fun b o hb e => hs'.extBut b o (fun h => hb (by simp [h])) e
    have ef : (pl.filterMap fun j => (es[j]?).map (·.2)) = pl.map fun j => (es.getD j (0, .none)).2 := by
      refine fmap_some fun x hx => ?_
      have hxl : x < es.size := List.mem_range.mp (hp.mem_iff.mp hx)
      simp [Array.getD, hxl]
    rw [ef, List.getElem?_map, hj]
    simp [Array.getD, hjl]
  done := fun s Q E st hQ => by
    obtain ⟨h1, h2, h3⟩ := st
    have hlen : pl.length = es.size := by rw [hp.length_eq, List.length_range]
    exact next_drawn_end hh h1 h3 h2 hd hf rfl (List.getElem?_eq_none (by omega)) fun h' he' => hQ h' s.toks fun b o hb e => he' b o (fun h => hb (by simp [h])) e
  self := fun _ _ _ _ st hQ => si_self st.1 hQ
end
end L2.PU
namespace L2.PU
open PySem PySem.Spec PyProof.Rows
noncomputable def Jwalk (w : World) (J : SetTable → Nat → Prop) : Prop := ∀ t n, J t n → t.fits n = true → byTx w = false → t.led = true ∧ ((!t.plain && decide (n > 1)) = false → Rise t.place)
theorem js_walk (w : World) : Jwalk w (Js (!byTx w)) := fun t n ⟨j1, j2⟩ hf hb => by
  rw [hb] at j1
  refine ⟨j1, fun hnd => ?_⟩
  have hsz : t.place.size = n := by
    simp only [SetTable.fits, Bool.and_eq_true, beq_iff_eq] at hf
    exact hf.1
  refine rise0 ?_
  rw [hsz]
  rcases j2 with z | z
  · omega
  · rw [z] at hnd
    simp at hnd
    exact hnd
section
variable {prog : Program} {w : World} {K : Type} [DecidableEq K] {knd : KeyKind prog w K} {kf : Value → K} {J : SetTable → Nat → Prop}
variable {A : Around} {E : Value → Shared → Prop} {s : Shared} {a : Addr} {σ : List K}
theorem SetJ.typeIs (h : SetJ knd kf J s.heap a σ) : s.TypeIs (.ref a) "set" := let ⟨o, _, _, _, ho, hex, _⟩ := h; ⟨o, ho, hex.1⟩
theorem set_iter (hw : Jwalk w J) (hS : SetJ knd kf J s.heap a σ) {Q : Value → Shared → Prop}
    (h : ∀ (h' : Heap) (dr : Drawn) (I : Addr) (vs : List Value) (fp : List Addr) (St : Nat → Heap → Prop), (vs.map kf).Perm σ → (∀ v ∈ vs, ∃ k, knd.is k v = true) → s.heap.objs.size ≤ I → (∀ b o, s.heap.get? b = some o → h'.get? b = some o) →
      (∀ b ∈ fp, b = a ∨ s.heap.objs.size ≤ b) → (∀ A' : Around, A'.handled = none → Walks prog w A' I fp [I] vs.length (fun i v => vs[i]? = some v) St) → St 0 h' → Q (.ref I) { s with heap := h', drawn := dr }) :
    wpAny (model prog w) A (pyIter (.ref a)) Q E s := by
  have hT := hS.typeIs
  obtain ⟨o, es, ep, t, ho, hex, hd, hel, hpm, hb, hf, hj⟩ := hS
  have hlt := Heap.lt_size ho
  have kys : ∀ vs : List Value, vs.Perm (es.toList.map (·.2)) → (vs.map kf).Perm σ ∧ ∀ v ∈ vs, ∃ k, knd.is k v = true := fun vs hv => by
    refine ⟨((hv.map kf).trans ?_).trans hpm, fun v hvm => ?_⟩
    · rw [List.map_map]
      exact List.Perm.refl _
    · obtain ⟨e, he, rfl⟩ := List.mem_map.mp (hv.mem_iff.mp hvm)
      obtain ⟨⟨k, hk, _⟩, _⟩ := hel e he
      exact ⟨k, hk⟩
  refine wpAny_pyIter_slot hT PySem.F.slot_set_iter (wpAny_call_entry PySem.F.slot_set_iter hT entry_set_iter ?_ (PySem.F.args_set_iter_1 _))
  unfold Builtin.«frozenset.__iter__»
  refine wpAny_bind (m := Builtin.Frozenset.slot0 "__iter__" _) (wpAny_bind (m := slotArgs "__iter__" 0 _) (wpAny_pure (wpAny_pure ?_)))
  refine wpAny_bind (m := Builtin.Frozenset.sizeOf a) (wpAny_bind (wpAny_setEntries_of ho hd hf (wpAny_pure ?_)))
  refine wpAny_bind (m := setDrawn a) (wpAny_bind (wpAny_setState_of ho hd hf ?_))
  dsimp only
  refine wpAny_bind (bytx_any (wpAny_pure ?_))
  refine (show wpAny _ _ (if (!byTx w && (!t.plain && decide (es.size > 1))) = true then _ else _) _ _ s from ?_)
  have plainWay : (!byTx w && (!t.plain && decide (es.size > 1))) = false → ∀ (vs : List Value) (St : Nat → Heap → Prop), vs.Perm (es.toList.map (·.2)) →
      (∀ A' : Around, A'.handled = none → Walks prog w A' s.heap.objs.size [s.heap.objs.size, a] [s.heap.objs.size] vs.length (fun i v => vs[i]? = some v) St) →
      St 0 (s.heap.push { cls := .type "set_iterator", data := .fields #[.int 0 0, .int 0 0, .ref a, .int es.size 0, .int ep 0] }) →
      Q (.ref s.heap.objs.size) { s with heap := s.heap.push { cls := .type "set_iterator", data := .fields #[.int 0 0, .int 0 0, .ref a, .int es.size 0, .int ep 0] } } := fun _ vs St hv hW h0 =>
    h _ s.drawn _ vs _ St (kys vs hv).1 (kys vs hv).2 (Nat.le_refl _) (fun b o e => Heap.get?_push_of_some _ e) (fun b hb => by
      simp only [List.mem_cons, List.not_mem_nil, or_false] at hb
      rcases hb with rfl | rfl
      · exact .inr (Nat.le_refl _)
      · exact .inl rfl) hW h0
  have hne : a ≠ s.heap.objs.size := Nat.ne_of_lt hlt
  have isi : IsSi (s.heap.push { cls := .type "set_iterator", data := .fields #[.int 0 0, .int 0 0, .ref a, .int es.size 0, .int ep 0] }) s.heap.objs.size a (.int 0 0) 0 es.size ep := ⟨_, Heap.get?_push_size _ rfl, rfl, rfl⟩
  have oa : (s.heap.push { cls := .type "set_iterator", data := .fields #[.int 0 0, .int 0 0, .ref a, .int es.size 0, .int ep 0] }).get? a = some o := Heap.get?_push_of_some _ ho
  cases hdr : (!byTx w && (!t.plain && decide (es.size > 1))) with
  | false =>
    rw [if_neg (by decide)]
    refine wpAny_bind (wpAny_pure ?_)
    refine wpAny_bind (wpAny_setEpoch_of ho hd hf ?_)
    refine wpAny_bind (m := newFields _ _) (wpAny_newObj_type ?_ (by size_fits))
    refine wpAny_pure ⟨_, rfl, "set_iterator", _, ⟨_, Heap.get?_push_size _ rfl, rfl⟩, slot_si_next.lookup, ?_⟩
    cases hbt : byTx w with
    | true =>
      have pp : (pickOrder (w.params.setOrder a ep) es).toList.Perm es.toList := by
        have := pick_perm (w.params.setOrder a ep) es.size 0 es.toList #[] (by simp)
        simpa [pickOrder] using this
      have hl : ((pickOrder (w.params.setOrder a ep) es).toList.map (·.2)).length = es.size := by rw [List.length_map, pp.length_eq, Array.length_toList]
      refine plainWay hdr ((pickOrder (w.params.setOrder a ep) es).toList.map (·.2)) (fun i h => (∃ slot : Nat, IsSi h s.heap.objs.size a (.int slot 0) i es.size ep) ∧ h.get? a = some o) (pp.map _) (fun A' hA' => ?_) ⟨⟨0, isi⟩, oa⟩
      rw [hl]
      exact walks_text hbt hd hf hne hA'
    | false =>
      rw [hbt] at hdr
      have hdr' : (!t.plain && decide (es.size > 1)) = false := by simpa using hdr
      obtain ⟨h1, h2⟩ := hw t es.size hj hf hbt
      have hl : (es.toList.map (·.2)).length = es.size := by rw [List.length_map, Array.length_toList]
      refine plainWay (by rw [hbt]; exact hdr) (es.toList.map (·.2)) (fun i h => IsSi h s.heap.objs.size a (.int (slN t.place i : Nat) 0) i es.size ep ∧ h.get? a = some o) (List.Perm.refl _) (fun A' hA' => ?_) ⟨isi, oa⟩
      rw [hl]
      exact walks_tab hbt hd hf hdr' h1 (h2 hdr') hne hA'
  | true =>
    rw [if_pos rfl]
    refine wpAny_bind (draw_any es.size (List.range es.size) s _ (by simp) fun pl dr hp => ?_)
    refine wpAny_bind (m := newTuple (pl.map fun i : Nat => rawInt i)) ?_
    have hlp : pl.length = es.size := by rw [hp.length_eq, List.length_range]
    unfold newTuple
    refine wpAny_newObj_type ?_ (by
      show (pl.map fun i : Nat => rawInt i).toArray.size ≤ sizeLine
      rw [List.size_toArray, List.length_map, hlp]
      exact fits_of_scanBound hb)
    have ho1 : (s.heap.push { cls := .type "tuple", data := .seq (pl.map fun i : Nat => rawInt i).toArray }).get? a = some o := Heap.get?_push_of_some _ ho
    refine wpAny_bind (wpAny_setEpoch_of (s := { s with heap := s.heap.push { cls := .type "tuple", data := .seq (pl.map fun i : Nat => rawInt i).toArray }, drawn := dr }) ho1 hd hf ?_)
    refine wpAny_bind (m := newFields _ _) (wpAny_newObj_type ?_ (by size_fits))
    refine wpAny_pure ⟨_, rfl, "set_iterator", _, ⟨_, Heap.get?_push_size _ rfl, rfl⟩, slot_si_next.lookup, ?_⟩
    have ef : (pl.filterMap fun j => (es[j]?).map (·.2)) = pl.map fun j => (es.getD j (0, .none)).2 := fmap_some fun x hx => by
      have hxl : x < es.size := List.mem_range.mp (hp.mem_iff.mp hx)
      simp [Array.getD, hxl]
    have pv : (pl.filterMap fun j => (es[j]?).map (·.2)).Perm (es.toList.map (·.2)) := by
      rw [ef]
      refine (hp.map _).trans ?_
      have : (List.range es.size).map (fun j => (es.getD j (0, .none)).2) = es.toList.map (·.2) := by
        refine List.ext_getElem (by simp) fun i h1 h2 => ?_
        have : i < es.size := by simpa using h1
        simp [Array.getD, this]
      rw [this]
    have hl : (pl.filterMap fun j => (es[j]?).map (·.2)).length = es.size := by rw [ef, List.length_map, hlp]
    have hsz : (s.heap.push { cls := .type "tuple", data := .seq (pl.map fun i : Nat => rawInt i).toArray }).objs.size = s.heap.objs.size + 1 := Heap.size_push ..
    refine h _ dr _ (pl.filterMap fun j => (es[j]?).map (·.2)) [(s.heap.push { cls := .type "tuple", data := .seq (pl.map fun i : Nat => rawInt i).toArray }).objs.size, a, s.heap.objs.size] (fun i h => IsSi h (s.heap.push { cls := .type "tuple", data := .seq (pl.map fun i : Nat => rawInt i).toArray }).objs.size a (.ref s.heap.objs.size) i es.size ep ∧ h.get? a = some o ∧ IsPl h s.heap.objs.size pl) (kys _ pv).1 (kys _ pv).2 (by rw [hsz]; omega) (fun b o e => Heap.get?_push_of_some _ (Heap.get?_push_of_some _ e)) (fun b hb => ?_) (fun A' hA' => ?_) ⟨⟨_, Heap.get?_push_size _ rfl, rfl, rfl⟩, Heap.get?_push_of_some _ ho1, ⟨_, _, Heap.get?_push_of_some _ (Heap.get?_push_size _ rfl), rfl⟩⟩
    · simp only [List.mem_cons, List.not_mem_nil, or_false] at hb
      rcases hb with rfl | rfl | rfl
      · exact .inr (by rw [hsz]; omega)
      · exact .inl rfl
      · exact .inr (Nat.le_refl _)
    · rw [hl]
      exact walks_drawn hd hf hp (by rw [hsz]; exact Nat.ne_of_lt (Nat.lt_succ_of_lt hlt)) (by rw [hsz]; exact Nat.ne_of_lt (Nat.lt_succ_self _)) hA'
end
end L2.PU
namespace L2.PU
open PySem PySem.Spec PyProof.Rows
section
variable {prog : Program} {w : World} {K : Type} [DecidableEq K] {knd : KeyKind prog w K} {kf : Value → K} {J : SetTable → Nat → Prop}
variable {A : Around} {E : Value → Shared → Prop} {s : Shared} {a : Addr} {σ : List K}
omit [DecidableEq K] in
theorem set_hint {r : Addr} {Q : Bool → Shared → Prop} (hT : s.TypeIs (.ref r) "set") (h : Q false s) : wpAny (model prog w) A (Builtin.List.listLengthHint (.ref r)) Q E s := by
  unfold Builtin.List.listLengthHint
  refine wpAny_bind (wpAny_specialOf hT PySem.F.slot_set_len.lookup ?_)
  generalize hid : ("set.__len__" : String) = id0
  wp_delta
  rw [show splitId id0 = some ("set", "__len__") from by subst hid; decide +kernel]
  subst hid
  refine wpAny_bind (wpAny_isInstance (T := "set") (b := true) hT (by rw [isSubtype_type]; kernel_rfl) ?_)
  refine wpAny_ite_split (fun hab => absurd hab (by decide)) (fun _ => ?_)
  refine wpAny_ite_split (fun _ => ?_) (fun hab => absurd (by decide +kernel) hab)
  refine wpAny_bind (wpAny_typeOf hT ?_)
  exact wpAny_pure h
theorem set_extend {R : Result → Shared → Prop} (hw : Jwalk w J) (hS : SetJ knd kf J s.heap a σ) (hh : A.handled = none) (hσ : σ.length ≤ sizeLine) (S : Addr) (hSa : S ≠ a) (res : Value) (c₀ : Nat) (hSo : s.heap.get? S = some { cls := .type "list", data := .seq #[] c₀ })
    (hR : ∀ h' tk dr (vs : List Value) c', (vs.map kf).Perm σ → (∀ v ∈ vs, ∃ k, knd.is k v = true) → (∀ b o, b ≠ S → s.heap.get? b = some o → h'.get? b = some o) → h'.get? S = some { cls := .type "list", dict := none, data := .seq vs.toArray c', slots := #[] } → R (.ok (.ret res)) { s with heap := h', toks := tk, drawn := dr }) :
    wpAny (model prog w) A.in1 (Builtin.List.listExtendWith (.ref S) (.ref a) res)
      (fun fin s' => match fin with | .done f => R (.ok f) s' | .again c' => c'.quiet = true ∧ codeAny (model prog w) A c' R s') (fun e s' => R (.error e) s') s := by
  have hSlt := Heap.lt_size hSo
  unfold Builtin.List.listExtendWith
  refine wpAny_bind (wpAny_typeOf (T := "set") hS.typeIs ?_)
  have h1 : Builtin.List.listSameRef (.ref S) (.ref a) = false := by simp [Builtin.List.listSameRef, hSa]
  have n1 : (Value.type "set" == Value.type "list") = false := by decide
  have n2 : (Value.type "set" == Value.type "tuple") = false := by decide
  simp only [h1, n1, n2, Bool.or_false, Bool.false_eq_true, if_false]
  refine wpAny_bind (set_iter hw hS fun h1 dr I vs fp St hpm hkv hI hk hfp hW st => ?_)
  have hSf : S ∉ fp := fun z => by
    rcases hfp S z with z | z
    · exact hSa z
    · exact absurd hSlt (Nat.not_lt.mpr z)
  have W := hW A.in1 hh
  have hlv : vs.length = σ.length := by rw [← hpm.length_eq, List.length_map]
  have key : ∀ (h : Heap) (c₁ tk : Nat), St 0 h → (∀ b o, b ≠ S → s.heap.get? b = some o → h.get? b = some o) →
      h.get? S = some { cls := .type "list", data := .seq #[] c₁ } → codeAny (model prog w) A (.builtin "list.extend.loop" ⟨[.ref S, .ref I, res], []⟩) R { s with heap := h, toks := tk, drawn := dr } := by
    intro h c₁ tk hst hk hS₁
    refine codeAny_extend_loopS W.toS (by rw [hlv]; exact hσ) S hSf res vs.length 0 _ #[] c₁ rfl (Nat.zero_le _) hst hS₁ (ItemsOf.nil _) fun s' acc' c' hm hS' hacc => ?_
    rw [Moved.eq_with hm]
    have el : acc'.toList = vs := by
      refine List.ext_getElem? fun j => ?_
      rw [Array.getElem?_toList]
      rcases Nat.lt_or_ge j vs.length with z | z
      · have : acc'[j]? = some (acc'[j]'(by rw [hacc.1]; exact z)) := Array.getElem?_eq_getElem _
        rw [this, hacc.2 j _ this]
      · rw [List.getElem?_eq_none z, Array.getElem?_eq_none (by rw [hacc.1]; exact z)]
    have eacc : acc' = vs.toArray := by rw [← el]
    subst eacc
    refine hR s'.heap s'.toks dr vs c' hpm hkv (fun b o hb e => hm.heap b o (fun hmem => ?_) (hk b o hb e)) hS'
    rcases List.mem_cons.mp hmem with e' | hmem
    · exact hb e'
    · exact absurd (Heap.lt_size e) (by rw [List.mem_singleton.mp hmem]; exact Nat.not_lt.mpr hI)
  have hS₁ : h1.get? S = some { cls := .type "list", data := .seq #[] c₀ } := hk S _ hSo
  have hS2 : SetJ knd kf J h1 a σ := hS.at fun o e => hk a o e
  refine wpAny_bind (wpAny_holding (set_hint (s := { s with heap := h1, drawn := dr }) (SetJ.typeIs (s := { s with heap := h1, drawn := dr }) hS2) ?_))
  refine wpAny_ite_split (fun _ => ?_) (fun _ => wpAny_pure ⟨plainId_quiet PySem.F.plain_extend_loop _, key _ c₀ _ st (fun b o _ e => hk b o e) hS₁⟩)
  refine wpAny_bind (wpAny_rule ?_)
  refine wpAny_bind ?_
  show wpAny _ _ (updateSeq S (·.push .none) >>= fun _ => updateSeq S (·.pop)) _ _ _
  refine wpAny_bind (wpAny_updateSeq hS₁ rfl ?_)
  have hS₂ := Heap.get?_update_self (Obj.mapSeq (·.push Value.none)) hS₁ rfl
  refine wpAny_updateSeq (hz := by seq_fits) hS₂ rfl ?_
  have hS₃ := Heap.get?_update_self (Obj.mapSeq (·.pop)) hS₂ rfl
  refine wpAny_pure ⟨plainId_quiet PySem.F.plain_extend_loop _, key _ _ _ ?_ (fun b o hb e => ?_) hS₃⟩
  · refine W.frame 0 _ _ st fun b hb o e => ?_
    have hbS : b ≠ S := fun h => hSf (h ▸ hb)
    exact (Heap.get?_update_other _ _ (Ne.symm hbS)).trans ((Heap.get?_update_other _ _ (Ne.symm hbS)).trans e)
  · exact (Heap.get?_update_other _ _ (Ne.symm hb)).trans ((Heap.get?_update_other _ _ (Ne.symm hb)).trans (hk b o e))
theorem set_collect {Q : List Value → Shared → Prop} (hw : Jwalk w J) (hS : SetJ knd kf J s.heap a σ) (hh : A.handled = none) (hσ : σ.length ≤ sizeLine)
    (hQ : ∀ h' tk dr (vs : List Value), (vs.map kf).Perm σ → (∀ v ∈ vs, ∃ k, knd.is k v = true) → (∀ b o, s.heap.get? b = some o → h'.get? b = some o) → s.heap.objs.size < h'.objs.size → Q vs { s with heap := h', toks := tk, drawn := dr }) :
    wpAny (model prog w) A (collect (.ref a)) Q E s := by
  unfold collect
  refine wpAny_bind (wpAny_runValue (codeAny_builtin entry_proto_collect' ?_))
  show wpAny _ _ (do again (.builtin "list.__iadd__" ⟨[← newList [], .ref a], []⟩)) _ _ s
  refine wpAny_bind (wpAny_newList (wpAny_pure ⟨Code.quiet_builtin _ (by decide +kernel), codeAny_builtin entry_list_iadd' ?_⟩))
  show wpAny _ _ (Builtin.List.listExtendWith (.ref s.heap.objs.size) (.ref a) (.ref s.heap.objs.size)) _ _ { s with heap := s.heap.push (seqObj "list" #[] 0) }
  rw [Around.under_plainId (by decide +kernel)]
  have hlt : a < s.heap.objs.size := by
    obtain ⟨o, _, _, _, ho, _⟩ := hS
    exact Heap.lt_size ho
  have fin : ∀ h' tk dr (vs : List Value) c', (vs.map kf).Perm σ → (∀ v ∈ vs, ∃ k, knd.is k v = true) → (∀ b o, s.heap.get? b = some o → h'.get? b = some o) → h'.get? s.heap.objs.size = some { cls := .type "list", dict := none, data := .seq vs.toArray c', slots := #[] } →
      wpAny (model prog w) A (do
      let o ← load s.heap.objs.size
      match o.data with
      | .seq xs _ => pure xs.toList
      | _ => unsupported "internal:collect") Q E { s with heap := h', toks := tk, drawn := dr } := fun h' tk dr vs c' h1 h2 hk hS' => wpAny_bind (wpAny_load hS' (wpAny_pure (hQ h' tk dr vs h1 h2 hk (Heap.lt_size hS'))))
  refine wpAny_mono (set_extend (s := { s with heap := s.heap.push (seqObj "list" #[] 0) }) (R := fun r s' => ∃ h' tk dr vs c', r = .ok (.ret (.ref s.heap.objs.size)) ∧ s' = { s with heap := h', toks := tk, drawn := dr } ∧ (vs.map kf).Perm σ ∧ (∀ v ∈ vs, ∃ k, knd.is k v = true) ∧ (∀ b o, s.heap.get? b = some o → h'.get? b = some o) ∧
      h'.get? s.heap.objs.size = some { cls := .type "list", dict := none, data := .seq vs.toArray c', slots := #[] }) hw (hS.at fun o e => Heap.get?_push_of_some _ e) hh hσ s.heap.objs.size (Nat.ne_of_gt hlt) (.ref s.heap.objs.size) 0 (Heap.get?_push_size _ rfl)
      (fun h' tk dr vs c' h1 h2 hk hS' => ⟨h', tk, dr, vs, c', rfl, rfl, h1, h2, fun b o e => hk b o (Nat.ne_of_lt (Heap.lt_size e)) (Heap.get?_push_of_some _ e), hS'⟩)) (fun f s' hf => ?_) fun e s' he => ?_
  · cases f with
    | done f =>
      obtain ⟨h', tk, dr, vs, c', e1, e2, e3, e4, e5, e6⟩ := hf
      cases e1
      subst e2
      exact fin h' tk dr vs c' e3 e4 e5 e6
    | again c =>
      refine ⟨hf.1, codeAny_mono hf.2 fun r s' hr => ?_⟩
      obtain ⟨h', tk, dr, vs, c', e1, e2, e3, e4, e5, e6⟩ := hr
      subst e1 e2
      exact fin h' tk dr vs c' e3 e4 e5 e6
  · obtain ⟨h', tk, dr, vs, c', e1, _⟩ := he
    cases e1
end
noncomputable def kfS : Value → Str
  | .str s _ => s
  | _ => ""
theorem kfS_ok {prog : Program} {w : World} : ∀ k v, (strKind prog w).is k v = true → kfS v = k := fun k v h => by
  obtain ⟨t, rfl⟩ := Value.isStrOf_shape h
  rfl
theorem strs_of_keys {prog : Program} {w : World} : ∀ (vs : List Value), (∀ v ∈ vs, ∃ k, (strKind prog w).is k v = true) → StrsAre vs (vs.map kfS)
  | [], _ => .nil
  | v :: r, h => by
    obtain ⟨k, hk⟩ := h v List.mem_cons_self
    obtain ⟨t, rfl⟩ := Value.isStrOf_shape hk
    exact .cons _ t (strs_of_keys r fun x hx => h x (List.mem_cons_of_mem _ hx))
section
variable {prog : Program} {w : World} {A : Around} {E : Value → Shared → Prop} {s : Shared} {a : Addr} {σ : List Str}
theorem sorted_setS {Q : Value → Shared → Prop} {J : SetTable → Nat → Prop} (hw : Jwalk w J) (hS : SetJ (strKind prog w) kfS J s.heap a σ) (hh : A.handled = none) (h64 : σ.length < 64)
    (h : ∀ (h' : Heap) (p : Addr) (tk c : Nat) (dr : Drawn) (out : Array Value) (ss' : List Str), StrsAre out.toList ss' → ss'.Perm σ → sortedS ss' = true → (∀ b o, s.heap.get? b = some o → h'.get? b = some o) → s.heap.objs.size ≤ p → h'.get? p = some (seqObj "list" out c) → Q (.ref p) { s with heap := h', toks := tk, drawn := dr }) :
    wpAny (model prog w) A (call (.builtin "sorted") [.ref a]) Q E s := by
  refine Calls.call_function_entry kind_sorted plain_sorted entry_sorted (args_sorted1 _) ?_
  unfold Builtin.«sorted»
  refine wpAny_bind (m := checkCount "sorted" 1 1 _) (wpAny_pure ?_)
  refine wpAny_bind (set_collect hw hS hh (by rw [sizeLine_eq]; omega) fun h' tk dr vs hpm hkv kp hsz => ?_)
  have hlv : vs.length = σ.length := by rw [← hpm.length_eq, List.length_map]
  have hl : vs.length < 64 := by omega
  have sa := strs_of_keys vs hkv
  refine wpAny_bind (wpAny_newList ?_ (hsz := by rw [sizeLine_eq]; omega))
  have hoL : (h'.push (seqObj "list" vs.toArray 0)).get? h'.objs.size = some (seqObj "list" vs.toArray 0) := Heap.get?_push_size _ rfl
  show wpAny _ _ _ _ _ { s with heap := h'.push (seqObj "list" vs.toArray 0), toks := tk, drawn := dr }
  refine wpAny_bind (wpAny_holding (wpAny_call_entry slot_list_sort ⟨_, hoL, rfl⟩ entry_list_sort (list_sort_treeK strKind_oneLt hoL sa.keysOf (fun v₁ v₂ rest e => keyKind_strs (by rw [← e]; exact sa)) hl fun st' hp hs => ⟨_, rfl, ?_⟩) (args_list_sort _)))
  obtain ⟨ss', a1, a2, a3⟩ := sorted_out_str sa hp hs
  obtain ⟨c, hc⟩ := sortedHeap_at (out := (arrOf st').map (·.2)) hoL
  refine wpAny_pure ⟨_, rfl, h _ _ tk c dr _ ss' a1 (a2.trans hpm) a3 (fun b o e => ?_) ?_ hc⟩
  · have h1 := kp b o e
    have lt := Heap.lt_size h1
    show (sortedHeap (h'.push (seqObj "list" vs.toArray 0)) h'.objs.size vs _).get? b = some o
    rw [sortedHeap_old (Nat.ne_of_lt lt) (by rw [size_push']; exact Nat.lt_succ_of_lt lt)]
    exact Heap.get?_push_of_some _ h1
  · exact Nat.le_of_lt hsz
end
end L2.PU
namespace L2.PU
open PySem PySem.Spec PyProof.Rows
section
variable {X : Cx} {B : Bd} {e : Expr} {fs : En → Option (List PyData)} {p1 p2 q1 q2 : Pos}
theorem inv_draw {pins : List (Addr × Obj)} {σ : St} {H : Hp} {s : Shared} (I : Inv X pins σ H s) (dr : Drawn) : Inv X pins σ H { s with drawn := dr } := ⟨I.ok, I.os, I.bare, I.base, I.loc, I.cell, I.free, I.freeC, I.pin, I.hok, I.len⟩
theorem fmet_list (ss : List Str) : fmet (fun i => ss.getD i "") ss.length = ss.foldl sd [] := by
  unfold fmet
  congr 1
  refine List.ext_getElem (by simp) fun i h1 h2 => ?_
  simp [List.getD_eq_getElem?_getD, h2]
theorem sd_len (ss : List Str) : (ss.foldl sd []).length ≤ ss.length := by
  rw [← fmet_list]
  exact fmet_le _ _
noncomputable def pSortSet (ds : List PyData) : Option PyData := match ds with
  | [.list xs] => if xs.length < 64 then (asSs xs).bind fun ss => some (.list ((srtS (ss.foldl sd [])).map PyData.str)) else none
  | _ => none
end
end L2.PU
namespace L2.PU
open PySem PySem.Spec PyProof.Rows
noncomputable def Ris (pl : Array Nat) : Prop := pl.toList.Pairwise (· < ·)
noncomputable def Ji (b : Bool) (t : SetTable) (_ : Nat) : Prop := t.led = b ∧ Ris t.place
noncomputable def kfI : Value → Int
  | .int i _ => i
  | _ => 0
section
variable {X : Cx} {B : Bd} {e : Expr} {fs : En → Option (List PyData)} {p1 p2 q1 q2 : Pos}
noncomputable def pSortSetI (ds : List PyData) : Option PyData := match ds with
  | [.list xs] => if xs.length < 64 then (asIs xs).bind fun ss => some (.list ((srtI (ss.foldl sd [])).map PyData.int)) else none
  | _ => none
end
end L2.PU
namespace L2.PU
open PySem PySem.Spec PyProof.Rows
section
variable {X : Cx} {B : Bd}
noncomputable def eDisp (ps : List PF) : En → Option PyData := fun η => (evP ps η).bind fun es => (keysOf es).bind fun kvs => if kvs.length ≤ 15 then some (.dict (prs (mergeP [] kvs))) else none
end
end L2.PU
namespace L2.PU
open PySem PySem.Spec PyProof.Rows
end L2.PU
namespace L2.PU
open PySem PySem.Spec PyProof.Rows
end L2.PU
namespace L2.PU
open PySem PySem.Spec PyProof.Rows
end L2.PU
namespace L2.PU
open PySem PySem.Spec PyProof.Rows
section
variable {X : Cx} {B : Bd} {e : Expr} {fs : En → Option (List PyData)} {pp pos : Pos}
noncomputable def PV (K : PySem.W.Frag) (H : Hp) : List V → List (Key × V) → Prop
  | [], ks => ks = []
  | t :: ts, ks => ∃ (p : Addr) (k : Key) (x : V) (r : List (Key × V)), t = .ref p ∧ SqT K H p [kV k, x] ∧ ks = (k, x) :: r ∧ PV K H ts r
noncomputable def rDictP (K : PySem.W.Frag) : List V → Hp → VK → Prop := fun xs H Q => ∃ (l : Addr) (ts : List V) (ks : List (Key × V)), xs = [.ref l] ∧ SqL K H l ts ∧ PV K H ts ks ∧ ts.length ≤ 3000000 ∧ ∀ p, H p = none → Q (.ref p) (upd H p (.dK (mergeK [] ks)))
noncomputable def asPr : List PyData → Option (List (PyData × PyData))
  | [] => some []
  | .tuple [x, y] :: r => (asPr r).bind fun l => some ((x, y) :: l)
  | _ => none
noncomputable def pDictP (ds : List PyData) : Option PyData := match ds with
  | [.list es] => if es.length ≤ 3000000 then (asPr es).bind fun ps => (keysOf ps).bind fun kvs => some (.dict (prs (mergeP [] kvs))) else none
  | _ => none
end
end L2.PU
namespace L2.PU
open PySem PySem.Spec PyProof.Rows
noncomputable def Itet (K : PySem.W.Frag) (l : Addr) (n : Nat) : It :=
  ⟨fun i H => i < n ∧ ∃ xs x, SqT K H l xs ∧ xs.length = n ∧ xs[i]? = some x, fun i H v H' => ∃ T x, H T = none ∧ (∀ xs, SqT K H l xs → xs[i]? = some x) ∧ v = .ref T ∧ H' = upd H T (.tup [.int (i : Nat), x]), fun i H => i = n ∧ ∃ xs, SqT K H l xs ∧ xs.length = n⟩
section
variable {X : Cx} {B : Bd} {a : Expr} {fs : En → Option (List PyData)} {pos pp : Pos}
noncomputable def enT (ds : List PyData) : Option (List PyData) := match ds with
  | [.tuple xs] => some (enumD xs 0)
  | _ => none
end
end L2.PU
namespace L2.PU
open PySem PySem.Spec PyProof.Rows
theorem walks_tx {prog : Program} {w : World} {A : Around} (hh : A.handled = none) (I : Addr) (x : Str) (t : Tok) : Walks prog w A I [I] [I] x.cps.size (SignAt x) (fun i h => h.IsStrIter I (strIterType x) x t i) := by
  unfold strIterType
  cases ha : x.cps.all (· < 128)
  · exact Walks.strWide hh I x t
  · exact Walks.strAscii hh I x t
section
variable {prog : Program} {w : World} {A : Around} {E : Value → Shared → Prop} {s : Shared}
variable {K : Type} [DecidableEq K] [BEq K] [LawfulBEq K] {knd : KeyKind prog w K} {kf : Value → K} {J : SetTable → Nat → Prop} {Px : Value → Prop}
set_option maxHeartbeats 3200000 in
theorem call_set_T (hkf : ∀ k v, knd.is k v = true → kf v = k) (jo : Jok J Px) (j0 : J (.fresh 0 0 (!byTx w)) 0) {x : Str} {t : Tok} {val : Nat → K} {Q : Value → Shared → Prop}
    (hh : A.handled = none) (hval : ∀ i v, SignAt x i v → knd.is (val i) v = true ∧ v.scannable = true ∧ Px v) (hb : x.cps.size + 1 < scanBound)
    (h : ∀ (h' : Heap) (tk : Nat), SetJ knd kf J h' s.heap.objs.size (fmet val x.cps.size) →
      (∀ b o, b < s.heap.objs.size → s.heap.get? b = some o → h'.get? b = some o) → Q (.ref s.heap.objs.size) { s with heap := h', toks := tk }) :
    wpAny (model prog w) A (call (.type "set") [.str x t]) Q E s := by
  obtain ⟨c, tl, hmro⟩ := PySem.F.called_set.mro
  have hmade := PySem.F.called_set.made
  have hsub := PySem.F.called_set.sub
  refine wpAny_call (codeAny_of_tree ?_)
  show wpAny _ _ (callAny (.type "set") _) _ _ _
  refine wpAny_pure ⟨Code.quiet_builtin _ (by decide +kernel), codeAny_builtin PySem.F.entry_type_call ?_⟩
  rw [Around.under_plain (weight_type_call_type "set" [.str x t] []) rfl]
  have h1 := PySem.F.called_set.notType
  have h2 := PySem.F.called_set.canCreate
  have hct := PySem.F.typeCall_set_1 (.str x t)
  repeat (any_goals (first | assumption | wp_step))
  refine codeAny_mono (set_new_b (.str x t) (E := E) (Q₁ := fun obj s₁ => obj = .ref s.heap.objs.size ∧ s₁ = { s with heap := s.heap.push { cls := .type "set", dict := none, data := .set #[] 0 (.fresh 0 0 (!byTx w)) } }) ⟨rfl, rfl⟩) fun r s₁ hr => ?_
  cases r with
  | error e => exact hr
  | ok fl =>
    cases fl with
    | ret obj =>
      obtain ⟨rfl, rfl⟩ := hr
      have hS : (s.heap.push { cls := .type "set", dict := none, data := .set #[] 0 (.fresh 0 0 (!byTx w)) }).get? s.heap.objs.size = some { cls := .type "set", dict := none, data := .set #[] 0 (.fresh 0 0 (!byTx w)) } := Heap.get?_push_size _ rfl
      have hT : Shared.TypeIs { s with heap := s.heap.push { cls := .type "set", dict := none, data := .set #[] 0 (.fresh 0 0 (!byTx w)) } } (.ref s.heap.objs.size) "set" := ⟨_, hS, rfl⟩
      have hli := PySem.F.called_set.init.lookup
      have hbi := PySem.F.called_set.init.bind (.ref s.heap.objs.size)
      repeat (any_goals (first | assumption | wp_step))
      refine codeAny_mono (codeAny_call_builtin (R := wants (fun r s₂ => r = .none ∧ ∃ h' tk, s₂ = { s with heap := h', toks := tk } ∧
          SetJ knd kf J h' s.heap.objs.size (fmet val x.cps.size) ∧
          (∀ b o, b < s.heap.objs.size → s.heap.get? b = some o → h'.get? b = some o)) E) PySem.F.called_set.init.plain PySem.F.entry_set_init (check_set_init_1 hT ?_)) fun r₂ s₂ hr₂ => ?_
      · have hsls : isSubtype (.type "str") (.type "set") = pure false := by rw [isSubtype_type]; kernel_rfl
        have hslf : isSubtype (.type "str") (.type "frozenset") = pure false := by rw [isSubtype_type]; kernel_rfl
        have hne : (Value.type "str" == Value.type "dict") = false := by decide
        unfold Builtin.«set.__init__» noKeywords Builtin.Frozenset.updateFrom
        generalize hPI : pyIter = PI
        wp_walk
        subst hPI
        refine wpAny_pyIter_strU ?_
        refine wpAny_bind (wpAny_runValue ?_)
        have hh3 : A.in1.in1.in1.handled = none := by simp [hh]
        have hSf : s.heap.objs.size ∉ [(s.heap.push { cls := .type "set", dict := none, data := .set #[] 0 (.fresh 0 0 (!byTx w)) }).objs.size] := by
          rw [Heap.size_push]; simp only [List.mem_cons, List.mem_singleton, List.not_mem_nil, or_false, not_or]
          exact Nat.ne_of_lt (Nat.lt_succ_self _)
        have W : Walks prog w A.in1.in1.in1 (s.heap.push { cls := .type "set", dict := none, data := .set #[] 0 (.fresh 0 0 (!byTx w)) }).objs.size [(s.heap.push { cls := .type "set", dict := none, data := .set #[] 0 (.fresh 0 0 (!byTx w)) }).objs.size] [(s.heap.push { cls := .type "set", dict := none, data := .set #[] 0 (.fresh 0 0 (!byTx w)) }).objs.size] x.cps.size (SignAt x) (fun i h => h.IsStrIter (s.heap.push { cls := .type "set", dict := none, data := .set #[] 0 (.fresh 0 0 (!byTx w)) }).objs.size (strIterType x) x t i) := walks_tx hh3 _ x t
        refine upd_loopJ hkf jo W.toS s.heap.objs.size
          hSf val hval hb (x.cps.size - 0) 0 _ (by omega) (Nat.zero_le _)
          ⟨_, Heap.get?_push_size _ rfl, rfl, rfl⟩ ?hS0 ?hR
        case hS0 =>
          have hget : ((s.heap.push { cls := .type "set", dict := none, data := .set #[] 0 (.fresh 0 0 (!byTx w)) }).push { cls := .type (strIterType x), data := .fields #[.str x t, .int 0 0] }).get? s.heap.objs.size
              = some { cls := .type "set", dict := none, data := .set #[] 0 (.fresh 0 0 (!byTx w)) } := Heap.get?_push_of_some _ hS
          exact ⟨_, #[], 0, _, hget, ⟨rfl, rfl, rfl⟩, rfl, fun e he => by simp at he, List.Perm.refl _, by decide, by rfl, j0⟩
        case hR =>
          intro s' hm hS'
          obtain ⟨h', g', d', tk', os'⟩ := s'
          have eg : g' = s.gens := hm.gens
          have ed : d' = s.drawn := hm.drawn
          have eo : os' = s.os := hm.os
          subst eg; subst ed; subst eo
          show wpAny _ _ _ _ _ _
          refine wpAny_pure ?_
          show wpAny _ _ (ret Value.none) _ _ _
          refine wpAny_pure ⟨rfl, h', tk', rfl, hS', fun b o hb e => ?_⟩
          have hb1 : b ≠ s.heap.objs.size := Nat.ne_of_lt hb
          have hb2 : b ≠ (s.heap.push { cls := .type "set", dict := none, data := .set #[] 0 (.fresh 0 0 (!byTx w)) }).objs.size := by
            rw [Heap.size_push]; exact Nat.ne_of_lt (Nat.lt_succ_of_lt hb)
          exact hm.heap b o (by simp only [List.mem_cons, List.mem_singleton, List.not_mem_nil, or_false, not_or]; exact ⟨hb1, hb2⟩) (Heap.get?_push_of_some _ (Heap.get?_push_of_some _ e))
      · cases r₂ with
        | error e => exact hr₂
        | ok fl₂ =>
          cases fl₂ with
          | ret r =>
            obtain ⟨rfl, h', tk, rfl, hS', hk'⟩ := hr₂
            repeat (any_goals (first | assumption | wp_step))
            exact h _ _ hS' hk'
          | _ => exact hr₂.elim
    | _ => exact hr.elim
end
section
variable {X : Cx} {B : Bd} {e : Expr} {fs : En → Option (List PyData)} {p1 p2 q1 q2 : Pos}
noncomputable def chS (x : Str) : List Str := x.cps.toList.map fun c => ⟨#[c]⟩
noncomputable def pSortSetT (ds : List PyData) : Option PyData := match ds with
  | [.str x] => if x.cps.size < 64 then some (.list ((srtS ((chS x).foldl sd [])).map PyData.str)) else none
  | _ => none
theorem chS_len (x : Str) : (chS x).length = x.cps.size := by unfold chS; rw [List.length_map, Array.length_toList]
theorem E.sortedSetT {k : Nat} (hr : Room k X.A) (hl : X.mg "sorted" = none) (hm : X.mg "set" = none) (ha : A X B [e] fs) (hg : Gl X "sorted" := by rfl) (hg2 : Gl X "set" := by rfl)
    (he : starEach [e] X.env = (false, eval e X.env) :: starEach [] X.env := by exact star_of rfl) (hpl : (backTo q2 (starEach [] X.env)).any (·.1) = false := by rfl)
    (he2 : starEach [.Call (.Name "set" p2) [e] [] q2] X.env = (false, eval (.Call (.Name "set" p2) [e] [] q2) X.env) :: starEach [] X.env := by exact star_of rfl) (hpl2 : (backTo q1 (starEach [] X.env)).any (·.1) = false := by rfl) :
    E X B (.Call (.Name "sorted" p1) [.Call (.Name "set" p2) [e] [] q2] [] q1) (lA pSortSetT fs) := by
  intro pins s σ H Q I ⟨F, η, d, sr, hd, q⟩
  obtain ⟨ds, h1, hd⟩ := bind_some hd
  unfold pSortSetT at hd
  split at hd
  · rename_i x
    split at hd
    · rename_i hlen
      cases hd
      refine wpAny_Call_Name_kw (ld_blt I hg hl boot_sorted ?_ (by decide) (by decide))
      refine PyProof.Rows.callWith_builtin1 ?_ he2 hpl2
      rw [he2]
      show wpAny _ _ (spliced ((false, eval (.Call (.Name "set" p2) [e] [] q2) X.env) :: backTo q1 (starEach [] X.env))) _ _ s
      refine Calls.spliced_cons ?_
      refine wpAny_Call_Name_kw (ld_blt I hg2 hm PyProof.Rows.boot_set ?_ (by decide) (by decide))
      refine PyProof.Rows.callWith_type1 (thn (ha q2 pins s σ H (fun vs H1 => ∃ F', Gr F H F' H1 ∧ RelL X.K F' [.str x] vs) I ⟨F, η, _, sr, h1, fun vs F' H' g r => ⟨F', g, r⟩⟩) fun us s1 ⟨vs, H1, I1, r1, F1, g1, rl⟩ => ?_) he hpl
      obtain ⟨v1, r, rfl, ry1, rr⟩ := rl.cons_of
      obtain rfl := rr.nil_of
      obtain ⟨u1, rfl, ru1⟩ := vals1 r1
      obtain ⟨t, rfl⟩ : ∃ t, u1 = .str x t := by
        have := ry1.str
        subst this
        exact ru1
      have el := chS_len x
      refine call_set_T (knd := strKind X.prog X.w) (kf := kfS) kfS_ok (js_ok (!byTx X.w)) ⟨rfl, .inl rfl⟩ (val := fun i => (chS x).getD i "") hr.hd (fun i v hv => ?_) (by show x.cps.size + 1 < 4096; omega) fun h' tk hS hk => ?_
      · obtain ⟨cp, u, hc, rfl⟩ := hv
        have : (chS x).getD i "" = ⟨#[cp]⟩ := by
          unfold chS
          rw [List.getD_eq_getElem?_getD, List.getElem?_map, Array.getElem?_toList, hc]; rfl
        rw [this]
        exact ⟨by simp [PySem.strKind, Value.isStrOf], rfl, rfl⟩
      have hk' : ∀ b o, s1.heap.get? b = some o → h'.get? b = some o := fun b o e => hk b o (Heap.lt_size e) e
      have I2 : Inv X pins σ H1 { s1 with heap := h', toks := tk } := I1.kept (t' := tk) hk'
      rw [show fmet (fun i => (chS x).getD i "") x.cps.size = (chS x).foldl sd [] by rw [← el, fmet_list]] at hS
      refine Calls.spliced_nil ?_
      have ls := sd_len (chS x)
      refine sorted_setS (s := { s1 with heap := h', toks := tk }) (js_walk X.w) hS hr.hd (by omega) fun h2 p tk2 c dr out ss' a1 a2 a3 kp hle hat => ?_
      have e3 := srtS_uniq a2 a3
      subst e3
      have hv := vals_strs a1
      refine ⟨.ref p, upd H1 p (.lst ((srtS ((chS x).foldl sd [])).map V.str)), inv_draw (I2.laid (t' := tk2) (o := .lst ((srtS ((chS x).foldl sd [])).map V.str)) kp hle ⟨?_, out.toList, c, hv, by simpa using hat⟩) dr, rfl, ?_⟩
      · rw [List.length_map, a2.length_eq, sizeLine_eq]
        omega
      · have g2 := Gr.one (o := .lst ((srtS ((chS x).foldl sd [])).map V.str)) g1.fh (I2.hok.fresh hle)
        exact q _ _ _ (g1.trans g2) (rel_lst (SqL.of upd_same) (RelL.strs _))
    · cases hd
  · cases hd
end
end L2.PU
namespace K07
open PySem L2 L2.PU
noncomputable def top (i : Nat) : Stmt := PySem.Challenge.pw_touchtree_k07_whole_hits.main.body.getD i (.Pass ⟨0, 0, 0, 0⟩)
noncomputable abbrev s__law_cell : Stmt := top 37
noncomputable abbrev s__law_drawn : Stmt := top 38
noncomputable abbrev s__law_scene : Stmt := top 39
noncomputable abbrev s_box_of : Stmt := top 11
noncomputable abbrev s_with_other : Stmt := top 19
noncomputable abbrev s_put_at : Stmt := top 21
noncomputable abbrev s_children : Stmt := top 13
noncomputable abbrev s_below : Stmt := top 14
noncomputable abbrev s_painted : Stmt := top 15
noncomputable abbrev s_path_of : Stmt := top 12
noncomputable abbrev s_has_mark : Stmt := top 26
noncomputable abbrev s_is_shown : Stmt := top 30
noncomputable abbrev s_area_of : Stmt := top 16
noncomputable abbrev s_overlap : Stmt := top 28
noncomputable abbrev s_window_of : Stmt := top 29
noncomputable abbrev s_takers : Stmt := top 32
noncomputable abbrev s_has_point : Stmt := top 27
noncomputable abbrev s_all_hits : Stmt := top 34
noncomputable abbrev s_first_at : Stmt := top 33
noncomputable abbrev s_hit : Stmt := top 35
noncomputable abbrev s_is_touched : Stmt := top 31
noncomputable abbrev s_marked : Stmt := top 20
noncomputable abbrev s_cut : Stmt := top 17
noncomputable abbrev s_raised : Stmt := top 18
noncomputable abbrev s_law : Stmt := top 43
structure Adr where
  _law_cell : Addr
  d__law_cell : FuncData
  _law_drawn : Addr
  d__law_drawn : FuncData
  _law_scene : Addr
  d__law_scene : FuncData
  box_of : Addr
  d_box_of : FuncData
  with_other : Addr
  d_with_other : FuncData
  put_at : Addr
  d_put_at : FuncData
  children : Addr
  d_children : FuncData
  below : Addr
  d_below : FuncData
  painted : Addr
  d_painted : FuncData
  path_of : Addr
  d_path_of : FuncData
  has_mark : Addr
  d_has_mark : FuncData
  is_shown : Addr
  d_is_shown : FuncData
  area_of : Addr
  d_area_of : FuncData
  overlap : Addr
  d_overlap : FuncData
  window_of : Addr
  d_window_of : FuncData
  takers : Addr
  d_takers : FuncData
  has_point : Addr
  d_has_point : FuncData
  all_hits : Addr
  d_all_hits : FuncData
  first_at : Addr
  d_first_at : FuncData
  hit : Addr
  d_hit : FuncData
  is_touched : Addr
  d_is_touched : FuncData
  marked : Addr
  d_marked : FuncData
  cut : Addr
  d_cut : FuncData
  raised : Addr
  d_raised : FuncData
  law : Addr
  d_law : FuncData
  t_AROUND : Tok
  t_CUTS_OFF : Tok
  t_HEIGHT : Tok
  t_HIDDEN : Tok
  t_LEFT : Tok
  t_LETS_BY : Tok
  t_MARKS : Tok
  t_NAME : Tok
  t_TOP : Tok
  t_WIDTH : Tok
structure Tx (K : PySem.W.Frag) (mg : Str → Option Value) (t : Adr) : Prop where
  F__law_cell : Fun K "_law_cell" "_law_cell" s__law_cell t._law_cell t.d__law_cell
  m__law_cell : mg "_law_cell" = some (.ref t._law_cell)
  b__law_cell : Binds K t.d__law_cell ["_law_script", "_law_k"] []
  F__law_drawn : Fun K "_law_drawn" "_law_drawn" s__law_drawn t._law_drawn t.d__law_drawn
  m__law_drawn : mg "_law_drawn" = some (.ref t._law_drawn)
  b__law_drawn : Binds K t.d__law_drawn ["_law_script", "_law_k", "_law_many"] []
  F__law_scene : Fun K "_law_scene" "_law_scene" s__law_scene t._law_scene t.d__law_scene
  m__law_scene : mg "_law_scene" = some (.ref t._law_scene)
  b__law_scene : Binds K t.d__law_scene ["_law_script", "_law_at"] []
  F_box_of : Fun K "box_of" "box_of" s_box_of t.box_of t.d_box_of
  m_box_of : mg "box_of" = some (.ref t.box_of)
  b_box_of : Binds K t.d_box_of ["scene", "name"] []
  F_with_other : Fun K "with_other" "with_other" s_with_other t.with_other t.d_with_other
  m_with_other : mg "with_other" = some (.ref t.with_other)
  b_with_other : Binds K t.d_with_other ["scene", "other"] []
  F_put_at : Fun K "put_at" "put_at" s_put_at t.put_at t.d_put_at
  m_put_at : mg "put_at" = some (.ref t.put_at)
  b_put_at : Binds K t.d_put_at ["scene", "name", "left", "top"] []
  F_children : Fun K "children" "children" s_children t.children t.d_children
  m_children : mg "children" = some (.ref t.children)
  b_children : Binds K t.d_children ["scene", "name"] []
  F_below : Fun K "below" "below" s_below t.below t.d_below
  m_below : mg "below" = some (.ref t.below)
  b_below : Binds K t.d_below ["scene", "name"] []
  F_painted : Fun K "painted" "painted" s_painted t.painted t.d_painted
  m_painted : mg "painted" = some (.ref t.painted)
  b_painted : Binds K t.d_painted ["scene"] []
  F_path_of : Fun K "path_of" "path_of" s_path_of t.path_of t.d_path_of
  m_path_of : mg "path_of" = some (.ref t.path_of)
  b_path_of : Binds K t.d_path_of ["scene", "name"] []
  F_has_mark : Fun K "has_mark" "has_mark" s_has_mark t.has_mark t.d_has_mark
  m_has_mark : mg "has_mark" = some (.ref t.has_mark)
  b_has_mark : Binds K t.d_has_mark ["scene", "name", "mark"] []
  F_is_shown : Fun K "is_shown" "is_shown" s_is_shown t.is_shown t.d_is_shown
  m_is_shown : mg "is_shown" = some (.ref t.is_shown)
  b_is_shown : Binds K t.d_is_shown ["scene", "name"] []
  F_area_of : Fun K "area_of" "area_of" s_area_of t.area_of t.d_area_of
  m_area_of : mg "area_of" = some (.ref t.area_of)
  b_area_of : Binds K t.d_area_of ["scene", "name"] []
  F_overlap : Fun K "overlap" "overlap" s_overlap t.overlap t.d_overlap
  m_overlap : mg "overlap" = some (.ref t.overlap)
  b_overlap : Binds K t.d_overlap ["one", "other"] []
  F_window_of : Fun K "window_of" "window_of" s_window_of t.window_of t.d_window_of
  m_window_of : mg "window_of" = some (.ref t.window_of)
  b_window_of : Binds K t.d_window_of ["scene", "name"] []
  F_takers : Fun K "takers" "takers" s_takers t.takers t.d_takers
  m_takers : mg "takers" = some (.ref t.takers)
  b_takers : Binds K t.d_takers ["scene"] []
  F_has_point : Fun K "has_point" "has_point" s_has_point t.has_point t.d_has_point
  m_has_point : mg "has_point" = some (.ref t.has_point)
  b_has_point : Binds K t.d_has_point ["area", "x", "y"] []
  F_all_hits : Fun K "all_hits" "all_hits" s_all_hits t.all_hits t.d_all_hits
  m_all_hits : mg "all_hits" = some (.ref t.all_hits)
  b_all_hits : Binds K t.d_all_hits ["scene", "x", "y"] []
  F_first_at : Fun K "first_at" "first_at" s_first_at t.first_at t.d_first_at
  m_first_at : mg "first_at" = some (.ref t.first_at)
  b_first_at : Binds K t.d_first_at ["rows", "x", "y"] []
  F_hit : Fun K "hit" "hit" s_hit t.hit t.d_hit
  m_hit : mg "hit" = some (.ref t.hit)
  b_hit : Binds K t.d_hit ["scene", "x", "y"] []
  F_is_touched : Fun K "is_touched" "is_touched" s_is_touched t.is_touched t.d_is_touched
  m_is_touched : mg "is_touched" = some (.ref t.is_touched)
  b_is_touched : Binds K t.d_is_touched ["scene", "name", "x", "y"] []
  F_marked : Fun K "marked" "marked" s_marked t.marked t.d_marked
  m_marked : mg "marked" = some (.ref t.marked)
  b_marked : Binds K t.d_marked ["scene", "name", "marks"] []
  F_cut : Fun K "cut" "cut" s_cut t.cut t.d_cut
  m_cut : mg "cut" = some (.ref t.cut)
  b_cut : Binds K t.d_cut ["scene", "name"] []
  F_raised : Fun K "raised" "raised" s_raised t.raised t.d_raised
  m_raised : mg "raised" = some (.ref t.raised)
  b_raised : Binds K t.d_raised ["scene", "name"] []
  F_law : Fun K "law" "law" s_law t.law t.d_law
  m_law : mg "law" = some (.ref t.law)
  b_law : Binds K t.d_law ["_law_script"] []
  c_AROUND : mg "AROUND" = some (.int (1) t.t_AROUND)
  c_CUTS_OFF : mg "CUTS_OFF" = some (.str "c" t.t_CUTS_OFF)
  c_HEIGHT : mg "HEIGHT" = some (.int (5) t.t_HEIGHT)
  c_HIDDEN : mg "HIDDEN" = some (.str "h" t.t_HIDDEN)
  c_LEFT : mg "LEFT" = some (.int (2) t.t_LEFT)
  c_LETS_BY : mg "LETS_BY" = some (.str "l" t.t_LETS_BY)
  c_MARKS : mg "MARKS" = some (.int (6) t.t_MARKS)
  c_NAME : mg "NAME" = some (.int (0) t.t_NAME)
  c_TOP : mg "TOP" = some (.int (3) t.t_TOP)
  c_WIDTH : mg "WIDTH" = some (.int (4) t.t_WIDTH)
  z_any : mg "any" = none
  z_enumerate : mg "enumerate" = none
  z_len : mg "len" = none
  z_max : mg "max" = none
  z_min : mg "min" = none
  z_range : mg "range" = none
  z_reversed : mg "reversed" = none
  z_set : mg "set" = none
  z_sorted : mg "sorted" = none
  z_sum : mg "sum" = none
  z_tuple : mg "tuple" = none
section
variable {Pr : Program} {w : World} {K : PySem.W.Frag} {mg : Str → Option Value} {base : Heap} {t : Adr}
noncomputable abbrev N__law_cell : List Str := ["_law_script", "_law_k"]
theorem sc__law_cell : FnScope ["_law_script", "_law_k"] ["_law_script", "_law_k"] (defScope s__law_cell) := ⟨rfl, rfl, rfl, by decide +kernel, rfl, by decide +kernel, by decide +kernel⟩
noncomputable def g__law_cell  : En → Option Out :=
  (sSeq (sIf (bT (l2 pEq (eV 0) (oE (fun η => (aN η).bind gL)))) (sRet (l2 pMul (eC (.int 7)) (eV 1))) sNx)
    (sRet (l2 pAdd (l2 pIx (eV 0) (l2 pMod (eV 1) (lA pLen (aC (eV 0) aN)))) (l2 pMul (eC (.int 6553)) (l2 pFdiv (eV 1) (lA pLen (aC (eV 0) aN)))))))
set_option maxHeartbeats 4000000 in
theorem ok__law_cell {k : Nat} (tx : Tx K mg t)  : FnOk Pr w K mg base CX0 (k + 1) t._law_cell t.d__law_cell ["_law_script", "_law_k"] (spP K (runF 2 2 (g__law_cell))) :=
  fnP tx.F__law_cell sc__law_cell fun _ _ _ _ _ _ _ hr =>
    (@Ss.cons _ _ _ _ _ _ (@S.ifS _ _ _ _ _ _ _ _ _ (T.eq hr (E.v 0) (EO.toE (EO.lst A.nil))) (@Ss.one _ _ _ _ (S.ret (E.mul E.int (E.v 1)))) Ss.nil)
    (@Ss.one _ _ _ _ (S.ret (E.add (E.at (E.v 0) (E.mod (E.v 1) (E.len tx.z_len (A.cons (E.v 0) A.nil)))) (E.mul E.int (E.fdiv (E.v 1) (E.len tx.z_len (A.cons (E.v 0) A.nil))))))))
noncomputable abbrev N__law_drawn : List Str := ["_law_script", "_law_k", "_law_many", "_law_cell_here"]
theorem sc__law_drawn : FnScope ["_law_script", "_law_k", "_law_many", "_law_cell_here"] ["_law_script", "_law_k", "_law_many"] (defScope s__law_drawn) := ⟨rfl, rfl, rfl, by decide +kernel, rfl, by decide +kernel, by decide +kernel⟩
noncomputable def g__law_drawn (fn__law_cell : List PyData → Option PyData) : En → Option Out :=
  (sSeq (sSet 3 (l2 pMod (l2 pAdd (l2 pMul (l2 pMod (lA fn__law_cell (aC (eV 0) (aC (eV 1) aN))) (eC (.int 2147483563))) (eC (.int 69069))) (l2 pMul (eC (.int 104723)) (l2 pAdd (eV 1) (eC (.int 1))))) (eC (.int 2147483563))))
    (sSeq (sSet 3 (l2 pMod (l2 pAdd (l2 pMul (eV 3) (eV 3)) (l2 pFdiv (eV 3) (eC (.int 3)))) (eC (.int 2147483399))))
    (sRet (l2 pMod (l2 pFdiv (l2 pMod (l2 pAdd (l2 pMul (eV 3) (eV 3)) (l2 pFdiv (eV 3) (eC (.int 7)))) (eC (.int 2147483647))) (eC (.int 11))) (eV 2)))))
set_option maxHeartbeats 4000000 in
theorem ok__law_drawn {k : Nat} (tx : Tx K mg t) {k__law_cell : Nat} {fn__law_cell : List PyData → Option PyData} (G__law_cell : FnOk Pr w K mg base CX0 k__law_cell t._law_cell t.d__law_cell ["_law_script", "_law_k"] (spP K fn__law_cell)) (hk__law_cell : k__law_cell ≤ k) : FnOk Pr w K mg base CX0 (k + 1) t._law_drawn t.d__law_drawn ["_law_script", "_law_k", "_law_many"] (spP K (runF 3 4 (g__law_drawn fn__law_cell))) :=
  fnP tx.F__law_drawn sc__law_drawn fun _ _ _ _ _ _ _ hr =>
    (@Ss.cons _ _ _ _ _ _ (S.set 3 sc__law_drawn.nd (E.mod (E.add (E.mul (E.mod (E.call G__law_cell hr (by omega) tx.m__law_cell tx.F__law_cell.kp tx.b__law_cell (A.cons (E.v 0) (A.cons (E.v 1) A.nil))) E.int) E.int) (E.mul E.int (E.add (E.v 1) E.int))) E.int))
    (@Ss.cons _ _ _ _ _ _ (S.set 3 sc__law_drawn.nd (E.mod (E.add (E.mul (E.v 3) (E.v 3)) (E.fdiv (E.v 3) E.int)) E.int))
    (@Ss.one _ _ _ _ (S.ret (E.mod (E.fdiv (E.mod (E.add (E.mul (E.v 3) (E.v 3)) (E.fdiv (E.v 3) E.int)) E.int) E.int) (E.v 2))))))
noncomputable abbrev N__law_scene : List Str := ["_law_script", "_law_at", "_law_found", "_law_turn", "_law_k", "_law_here", "_law_around", "_law_places", "_law_sizes", "_law_marks", "_law_j", "_law_sign", "_law_name"]
theorem sc__law_scene : FnScope ["_law_script", "_law_at", "_law_found", "_law_turn", "_law_k", "_law_here", "_law_around", "_law_places", "_law_sizes", "_law_marks", "_law_j", "_law_sign", "_law_name"] ["_law_script", "_law_at"] (defScope s__law_scene) := ⟨rfl, rfl, rfl, by decide +kernel, rfl, by decide +kernel, by decide +kernel⟩
noncomputable def g__law_scene (fn__law_drawn : List PyData → Option PyData) : En → Option Out :=
  (sSeq (sSet 2 (lA (fun ds => if ds.length ≤ sizeLine then some (.tuple ds) else none) aN))
    (sSeq (sSet 3 (lA fn__law_drawn (aC (eV 0) (aC (l2 pAdd (eV 1) (eC (.int 1))) (aC (eC (.int 8)) aN)))))
    (sSeq (sFor (fun η => ((aC (lA fn__law_drawn (aC (eV 0) (aC (eV 1) (aC (eC (.int 8)) aN)))) aN) η).bind rng1) (tgN 4)
    (sSeq (sSet 5 (l2 pAdd (l2 pAdd (eV 1) (eC (.int 3))) (l2 pMul (eC (.int 9)) (eV 4))))
    (sSeq (sSet 6 (l2 pIx (l2 pAdd (oE (fun η => ((aC (eC (.str "")) aN) η).bind gL)) (oE (sComp [none] (lI asTu (eV 2)) (tgN 0) tTrue (l2 pIx (eV 0) (eC (.int 0)))))) (lA fn__law_drawn (aC (eV 0) (aC (eV 5) (aC (l2 pAdd (eV 4) (eC (.int 1))) aN))))))
    (sSeq (sSetO 7 (sComp [none, some 0, some 5] (fun η => ((aC (eC (.int 2)) aN) η).bind rng1) (tgN 0) tTrue (l2 pSub (lA fn__law_drawn (aC (eV 1) (aC (l2 pAdd (l2 pAdd (eV 2) (eC (.int 1))) (eV 0)) (aC (eC (.int 9)) aN)))) (eC (.int 3)))))
    (fun η => (sSeq (sSetO 8 (sComp [none, some 0, some 5] (fun η => ((aC (eC (.int 2)) aN) η).bind rng1) (tgN 0) tTrue (lA fn__law_drawn (aC (eV 1) (aC (l2 pAdd (l2 pAdd (eV 2) (eC (.int 3))) (eV 0)) (aC (eC (.int 9)) aN))))))
    (fun η => (sSeq (sSet 9 (eC (.str "")))
    (sSeq (sFor (fun η => ((aC (eC (.str "cfhl")) aN) η).bind enS) (tgT (tgCons (tgN 10) (tgCons (tgN 11) tgNil)))
    (sIf (bT (l2 pEq (lA fn__law_drawn (aC (eV 0) (aC (l2 pAdd (l2 pAdd (eV 5) (eC (.int 5))) (eV 10)) (aC (l2 pIx (oE (fun η => ((aC (eC (.int 4)) (aC (eC (.int 2)) (aC (eC (.int 9)) (aC (eC (.int 6)) aN)))) η).bind gL)) (eV 10)) aN)))) (eC (.int 0)))) (sSet 9 (l2 pAdd (eV 9) (eV 11))) sNx))
    (sSeq (sSet 12 (l2 pIx (eC (.str "dbgahcfe")) (l2 pMod (l2 pAdd (eV 4) (eV 3)) (eC (.int 8)))))
    (sSet 2 (l2 pAdd (eV 2) (lA (fun ds => if ds.length ≤ sizeLine then some (.tuple ds) else none) (aC (l2 pAdd (l2 pAdd (lA (fun ds => if ds.length ≤ sizeLine then some (.tuple ds) else none) (aC (eV 12) (aC (eV 6) aN))) (lA pTup (aC (l2 pAdd (eV 7) (eV 8)) aN))) (lA (fun ds => if ds.length ≤ sizeLine then some (.tuple ds) else none) (aC (eV 9) aN))) aN))))))) (frz 8 η))) (frz 7 η))))))
    (sRet (eV 2)))))
set_option maxHeartbeats 4000000 in
theorem ok__law_scene {k : Nat} (tx : Tx K mg t) {k__law_drawn : Nat} {fn__law_drawn : List PyData → Option PyData} (G__law_drawn : FnOk Pr w K mg base CX0 k__law_drawn t._law_drawn t.d__law_drawn ["_law_script", "_law_k", "_law_many"] (spP K fn__law_drawn)) (hk__law_drawn : k__law_drawn ≤ k) : FnOk Pr w K mg base CX0 (k + 1) t._law_scene t.d__law_scene ["_law_script", "_law_at"] (spP K (runF 2 13 (g__law_scene fn__law_drawn))) :=
  fnP tx.F__law_scene sc__law_scene fun _ _ _ _ _ _ _ hr =>
    (@Ss.cons _ _ _ _ _ _ (S.set 2 sc__law_scene.nd (E.tup A.nil))
    (@Ss.cons _ _ _ _ _ _ (S.set 3 sc__law_scene.nd (E.call G__law_drawn hr (by omega) tx.m__law_drawn tx.F__law_drawn.kp tx.b__law_drawn (A.cons (E.v 0) (A.cons (E.add (E.v 1) E.int) (A.cons E.int A.nil)))))
    (@Ss.cons _ _ _ _ _ _ (@S.for _ _ _ _ _ _ _ _ _ _ _ PassesOwn.never rfl (I.rng1 tx.z_range (A.cons (E.call G__law_drawn hr (by omega) tx.m__law_drawn tx.F__law_drawn.kp tx.b__law_drawn (A.cons (E.v 0) (A.cons (E.v 1) (A.cons E.int A.nil)))) A.nil)) (pg_name (i := 4) sc__law_scene.nd rfl (by first | exact Or.inl rfl | exact Or.inr rfl) ) (TgP.name (i := 4))
    (@Ss.cons _ _ _ _ _ _ (S.set 5 sc__law_scene.nd (E.add (E.add (E.v 1) E.int) (E.mul E.int (E.v 4))))
    (@Ss.cons _ _ _ _ _ _ (S.set 6 sc__law_scene.nd (E.at (E.add (EO.toE (EO.lst (A.cons E.str A.nil))) (EO.toE (EO.comp (N' := ["_law_box_here"]) (mp := [none]) rfl (CompSc.of' N__law_scene (defScope s__law_scene) rfl rfl (by decide +kernel)) (TgP.name (i := 0)) (by decide) (I.tup (E.v 2)) (fun _ _ _ => ⟨(pg_name (i := 0) (show (["_law_box_here"] : List Str).Nodup by decide +kernel) rfl (Or.inl rfl) (.inr rfl)), Ts.nil, (E.at (E.v 0) E.int)⟩)))) (E.call G__law_drawn hr (by omega) tx.m__law_drawn tx.F__law_drawn.kp tx.b__law_drawn (A.cons (E.v 0) (A.cons (E.v 5) (A.cons (E.add (E.v 4) E.int) A.nil))))))
    (@Ss.cons _ _ _ _ _ _ (S.setC 7 (N' := ["_law_j", "_law_script", "_law_here"]) (mp := [none, some 0, some 5]) rfl sc__law_scene.nd (CompSc.of' N__law_scene (defScope s__law_scene) rfl rfl (by decide +kernel)) (TgP.name (i := 0)) (by decide) (I.rng1 tx.z_range (A.cons E.int A.nil)) (fun _ _ _ => ⟨(pg_name (i := 0) (show (["_law_j", "_law_script", "_law_here"] : List Str).Nodup by decide +kernel) rfl (Or.inl rfl) (.inr rfl)), Ts.nil, (E.sub (E.call G__law_drawn hr (by omega) tx.m__law_drawn tx.F__law_drawn.kp tx.b__law_drawn (A.cons (E.v 1) (A.cons (E.add (E.add (E.v 2) E.int) (E.v 0)) (A.cons E.int A.nil)))) E.int)⟩))
    (@Ss.frz _ _ _ _ 7 (@Ss.cons _ _ _ _ _ _ (S.setC 8 (N' := ["_law_j", "_law_script", "_law_here"]) (mp := [none, some 0, some 5]) rfl sc__law_scene.nd (CompSc.of' N__law_scene (defScope s__law_scene) rfl rfl (by decide +kernel)) (TgP.name (i := 0)) (by decide) (I.rng1 tx.z_range (A.cons E.int A.nil)) (fun _ _ _ => ⟨(pg_name (i := 0) (show (["_law_j", "_law_script", "_law_here"] : List Str).Nodup by decide +kernel) rfl (Or.inl rfl) (.inr rfl)), Ts.nil, (E.call G__law_drawn hr (by omega) tx.m__law_drawn tx.F__law_drawn.kp tx.b__law_drawn (A.cons (E.v 1) (A.cons (E.add (E.add (E.v 2) E.int) (E.v 0)) (A.cons E.int A.nil))))⟩))
    (@Ss.frz _ _ _ _ 8 (@Ss.cons _ _ _ _ _ _ (S.set 9 sc__law_scene.nd E.str)
    (@Ss.cons _ _ _ _ _ _ (@S.for _ _ _ _ _ _ _ _ _ _ _ PassesOwn.never rfl (I.enum rfl tx.z_enumerate (A.cons E.str A.nil)) (pg_tup (n := 2) rfl (pgs_cons (pg_name (i := 10) sc__law_scene.nd rfl (by first | exact Or.inl rfl | exact Or.inr rfl) ) (pgs_cons (pg_name (i := 11) sc__law_scene.nd rfl (by first | exact Or.inl rfl | exact Or.inr rfl) ) pgs_nil))) (TgP.tup (n := 2) (TgsP.cons (TgP.name (i := 10)) (TgsP.cons (TgP.name (i := 11)) TgsP.nil)) (tg_len2))
    (@Ss.one _ _ _ _ (@S.ifS _ _ _ _ _ _ _ _ _ (T.eq hr (E.call G__law_drawn hr (by omega) tx.m__law_drawn tx.F__law_drawn.kp tx.b__law_drawn (A.cons (E.v 0) (A.cons (E.add (E.add (E.v 5) E.int) (E.v 10)) (A.cons (E.at (EO.toE (EO.lst (A.cons E.int (A.cons E.int (A.cons E.int (A.cons E.int A.nil)))))) (E.v 10)) A.nil)))) E.int) (@Ss.one _ _ _ _ (S.set 9 sc__law_scene.nd (E.add (E.v 9) (E.v 11)))) Ss.nil)) (fun _ => rfl))
    (@Ss.cons _ _ _ _ _ _ (S.set 12 sc__law_scene.nd (E.at E.str (E.mod (E.add (E.v 4) (E.v 3)) E.int)))
    (@Ss.one _ _ _ _ (S.set 2 sc__law_scene.nd (E.add (E.v 2) (E.tup (A.cons (E.add (E.add (E.tup (A.cons (E.v 12) (A.cons (E.v 6) A.nil))) (E.tuple tx.z_tuple (A.cons (E.add (E.v 7) (E.v 8)) A.nil))) (E.tup (A.cons (E.v 9) A.nil))) A.nil)))))))))))))) (fun _ => rfl))
    (@Ss.one _ _ _ _ (S.ret (E.v 2))))))
noncomputable abbrev N_box_of : List Str := ["scene", "name", "box"]
theorem sc_box_of : FnScope ["scene", "name", "box"] ["scene", "name"] (defScope s_box_of) := ⟨rfl, rfl, rfl, by decide +kernel, rfl, by decide +kernel, by decide +kernel⟩
noncomputable def g_box_of  : En → Option Out :=
  (sSeq (sFor (lI asTu (eV 0)) (tgN 2)
    (sIf (bT (l2 pEq (l2 pIx (eV 2) (eC (.int 0))) (eV 1))) (sRet (eV 2)) sNx))
    (fun _ => none))
set_option maxHeartbeats 4000000 in
theorem ok_box_of {k : Nat} (tx : Tx K mg t)  : FnOk Pr w K mg base CX0 (k + 1) t.box_of t.d_box_of ["scene", "name"] (spP K (runF 2 3 (g_box_of))) :=
  fnP tx.F_box_of sc_box_of fun _ _ _ _ _ _ _ hr =>
    (@Ss.cons _ _ _ _ _ _ (@S.for _ _ _ _ _ _ _ _ _ _ _ PassesOwn.never rfl (I.tup (E.v 0)) (pg_name (i := 2) sc_box_of.nd rfl (by first | exact Or.inl rfl | exact Or.inr rfl) ) (TgP.name (i := 2))
    (@Ss.one _ _ _ _ (@S.ifS _ _ _ _ _ _ _ _ _ (T.eq hr (E.at (E.v 2) (E.globI tx.c_NAME)) (E.v 1)) (@Ss.one _ _ _ _ (S.ret (E.v 2))) Ss.nil)) (fun _ => rfl))
    (@Ss.one _ _ _ _ S.never))
noncomputable abbrev N_with_other : List Str := ["scene", "other"]
theorem sc_with_other : FnScope ["scene", "other"] ["scene", "other"] (defScope s_with_other) := ⟨rfl, rfl, rfl, by decide +kernel, rfl, by decide +kernel, by decide +kernel⟩
noncomputable def g_with_other  : En → Option Out :=
  (sRet (lA pTup (aC (oE (sComp [none, some 1] (lI asTu (eV 0)) (tgN 0) tTrue (vIf (bT (l2 pEq (l2 pIx (eV 0) (eC (.int 0))) (l2 pIx (eV 1) (eC (.int 0))))) (eV 1) (eV 0)))) aN)))
set_option maxHeartbeats 4000000 in
theorem ok_with_other {k : Nat} (tx : Tx K mg t)  : FnOk Pr w K mg base CX0 (k + 1) t.with_other t.d_with_other ["scene", "other"] (spP K (runF 2 2 (g_with_other))) :=
  fnP tx.F_with_other sc_with_other fun _ _ _ _ _ _ _ hr =>
    (@Ss.one _ _ _ _ (S.ret (E.tuple tx.z_tuple (A.cons (EO.toE (EO.comp (N' := ["box", "other"]) (mp := [none, some 1]) rfl (CompSc.of' N_with_other (defScope s_with_other) rfl rfl (by decide +kernel)) (TgP.name (i := 0)) (by decide) (I.tup (E.v 0)) (fun _ _ _ => ⟨(pg_name (i := 0) (show (["box", "other"] : List Str).Nodup by decide +kernel) rfl (Or.inl rfl) (.inr rfl)), Ts.nil, (E.ifE (T.eq hr (E.at (E.v 0) (E.globI tx.c_NAME)) (E.at (E.v 1) (E.globI tx.c_NAME))) (E.v 1) (E.v 0))⟩))) A.nil))))
noncomputable abbrev N_put_at : List Str := ["scene", "name", "left", "top", "box"]
theorem sc_put_at : FnScope ["scene", "name", "left", "top", "box"] ["scene", "name", "left", "top"] (defScope s_put_at) := ⟨rfl, rfl, rfl, by decide +kernel, rfl, by decide +kernel, by decide +kernel⟩
noncomputable def g_put_at (fn_box_of : List PyData → Option PyData) (fn_with_other : List PyData → Option PyData) : En → Option Out :=
  (sSeq (sSet 4 (lA fn_box_of (aC (eV 0) (aC (eV 1) aN))))
    (sRet (lA fn_with_other (aC (eV 0) (aC (l2 pAdd (l2 pAdd (eSl (eV 4) pN (pS (eC (.int 2)))) (lA (fun ds => if ds.length ≤ sizeLine then some (.tuple ds) else none) (aC (eV 2) (aC (eV 3) aN)))) (eSl (eV 4) (pS (eC (.int 4))) pN)) aN)))))
set_option maxHeartbeats 4000000 in
theorem ok_put_at {k : Nat} (tx : Tx K mg t) {k_box_of : Nat} {fn_box_of : List PyData → Option PyData} (G_box_of : FnOk Pr w K mg base CX0 k_box_of t.box_of t.d_box_of ["scene", "name"] (spP K fn_box_of)) (hk_box_of : k_box_of ≤ k) {k_with_other : Nat} {fn_with_other : List PyData → Option PyData} (G_with_other : FnOk Pr w K mg base CX0 k_with_other t.with_other t.d_with_other ["scene", "other"] (spP K fn_with_other)) (hk_with_other : k_with_other ≤ k) : FnOk Pr w K mg base CX0 (k + 1) t.put_at t.d_put_at ["scene", "name", "left", "top"] (spP K (runF 4 5 (g_put_at fn_box_of fn_with_other))) :=
  fnP tx.F_put_at sc_put_at fun _ _ _ _ _ _ _ hr =>
    (@Ss.cons _ _ _ _ _ _ (S.set 4 sc_put_at.nd (E.call G_box_of hr (by omega) tx.m_box_of tx.F_box_of.kp tx.b_box_of (A.cons (E.v 0) (A.cons (E.v 1) A.nil))))
    (@Ss.one _ _ _ _ (S.ret (E.call G_with_other hr (by omega) tx.m_with_other tx.F_with_other.kp tx.b_with_other (A.cons (E.v 0) (A.cons (E.add (E.add (E.sl (E.v 4) P.none (P.some (E.globI tx.c_LEFT))) (E.tup (A.cons (E.v 2) (A.cons (E.v 3) A.nil)))) (E.sl (E.v 4) (P.some (E.globI tx.c_WIDTH)) P.none)) A.nil))))))
noncomputable abbrev N_children : List Str := ["scene", "name"]
theorem sc_children : FnScope ["scene", "name"] ["scene", "name"] (defScope s_children) := ⟨rfl, rfl, rfl, by decide +kernel, rfl, by decide +kernel, by decide +kernel⟩
noncomputable def g_children  : En → Option Out :=
  (sRet (oE (sComp [none, some 1] (lI asTu (eV 0)) (tgN 0) (bT (l2 pEq (l2 pIx (eV 0) (eC (.int 1))) (eV 1))) (l2 pIx (eV 0) (eC (.int 0))))))
set_option maxHeartbeats 4000000 in
theorem ok_children {k : Nat} (tx : Tx K mg t)  : FnOk Pr w K mg base CX0 (k + 1) t.children t.d_children ["scene", "name"] (spP K (runF 2 2 (g_children))) :=
  fnP tx.F_children sc_children fun _ _ _ _ _ _ _ hr =>
    (@Ss.one _ _ _ _ (S.ret (EO.toE (EO.comp (N' := ["box", "name"]) (mp := [none, some 1]) rfl (CompSc.of' N_children (defScope s_children) rfl rfl (by decide +kernel)) (TgP.name (i := 0)) (by decide) (I.tup (E.v 0)) (fun _ _ _ => ⟨(pg_name (i := 0) (show (["box", "name"] : List Str).Nodup by decide +kernel) rfl (Or.inl rfl) (.inr rfl)), (Ts.one (T.eq hr (E.at (E.v 0) (E.globI tx.c_AROUND)) (E.v 1))), (E.at (E.v 0) (E.globI tx.c_NAME))⟩)))))
noncomputable abbrev N_below : List Str := ["scene", "name", "names", "child"]
theorem sc_below : FnScope ["scene", "name", "names", "child"] ["scene", "name"] (defScope s_below) := ⟨rfl, rfl, rfl, by decide +kernel, rfl, by decide +kernel, by decide +kernel⟩
noncomputable def g_below (fn_box_of : List PyData → Option PyData) (fn_children : List PyData → Option PyData) (fn_below : List PyData → Option PyData) : En → Option Out :=
  (sSeq (sSetO 2 (fun η => ((aC (l2 pIx (lA fn_box_of (aC (eV 0) (aC (eV 1) aN))) (eC (.int 0))) aN) η).bind gL))
    (sSeq (sFor (lI asL (lA fn_children (aC (eV 0) (aC (eV 1) aN)))) (tgN 3)
    (sExt 2 (lI asL (lA fn_below (aC (eV 0) (aC (eV 3) aN))))))
    (sRetO 2)))
set_option maxHeartbeats 4000000 in
theorem ok_below {k : Nat} (tx : Tx K mg t) {k_box_of : Nat} {fn_box_of : List PyData → Option PyData} (G_box_of : FnOk Pr w K mg base CX0 k_box_of t.box_of t.d_box_of ["scene", "name"] (spP K fn_box_of)) (hk_box_of : k_box_of ≤ k) {k_children : Nat} {fn_children : List PyData → Option PyData} (G_children : FnOk Pr w K mg base CX0 k_children t.children t.d_children ["scene", "name"] (spP K fn_children)) (hk_children : k_children ≤ k) {k_below : Nat} {fn_below : List PyData → Option PyData} (G_below : FnOk Pr w K mg base CX0 k_below t.below t.d_below ["scene", "name"] (spP K fn_below)) (hk_below : k_below ≤ k) : FnOk Pr w K mg base CX0 (k + 1) t.below t.d_below ["scene", "name"] (spP K (runF 2 4 (g_below fn_box_of fn_children fn_below))) :=
  fnP tx.F_below sc_below fun _ _ _ _ _ _ _ hr =>
    (@Ss.cons _ _ _ _ _ _ (S.setO 2 sc_below.nd (EO.lst (A.cons (E.at (E.call G_box_of hr (by omega) tx.m_box_of tx.F_box_of.kp tx.b_box_of (A.cons (E.v 0) (A.cons (E.v 1) A.nil))) (E.globI tx.c_NAME)) A.nil)))
    (@Ss.cons _ _ _ _ _ _ (@S.for _ _ _ _ _ _ _ _ _ _ _ PassesOwn.never rfl (I.list (E.call G_children hr (by omega) tx.m_children tx.F_children.kp tx.b_children (A.cons (E.v 0) (A.cons (E.v 1) A.nil)))) (pg_name (i := 3) sc_below.nd rfl (by first | exact Or.inl rfl | exact Or.inr rfl) ) (TgP.name (i := 3))
    (@Ss.one _ _ _ _ (S.ext 2 (E.call G_below hr (by omega) tx.m_below tx.F_below.kp tx.b_below (A.cons (E.v 0) (A.cons (E.v 3) A.nil))))) (fun _ => rfl))
    (@Ss.one _ _ _ _ (S.retO 2))))
noncomputable abbrev N_painted : List Str := ["scene", "names", "name"]
theorem sc_painted : FnScope ["scene", "names", "name"] ["scene"] (defScope s_painted) := ⟨rfl, rfl, rfl, by decide +kernel, rfl, by decide +kernel, by decide +kernel⟩
noncomputable def g_painted (fn_children : List PyData → Option PyData) (fn_below : List PyData → Option PyData) : En → Option Out :=
  (sSeq (sSetO 1 (fun η => (aN η).bind gL))
    (sSeq (sFor (lI asL (lA fn_children (aC (eV 0) (aC (eC (.str "")) aN)))) (tgN 2)
    (sExt 1 (lI asL (lA fn_below (aC (eV 0) (aC (eV 2) aN))))))
    (sRetO 1)))
set_option maxHeartbeats 4000000 in
theorem ok_painted {k : Nat} (tx : Tx K mg t) {k_children : Nat} {fn_children : List PyData → Option PyData} (G_children : FnOk Pr w K mg base CX0 k_children t.children t.d_children ["scene", "name"] (spP K fn_children)) (hk_children : k_children ≤ k) {k_below : Nat} {fn_below : List PyData → Option PyData} (G_below : FnOk Pr w K mg base CX0 k_below t.below t.d_below ["scene", "name"] (spP K fn_below)) (hk_below : k_below ≤ k) : FnOk Pr w K mg base CX0 (k + 1) t.painted t.d_painted ["scene"] (spP K (runF 1 3 (g_painted fn_children fn_below))) :=
  fnP tx.F_painted sc_painted fun _ _ _ _ _ _ _ hr =>
    (@Ss.cons _ _ _ _ _ _ (S.setO 1 sc_painted.nd (EO.lst A.nil))
    (@Ss.cons _ _ _ _ _ _ (@S.for _ _ _ _ _ _ _ _ _ _ _ PassesOwn.never rfl (I.list (E.call G_children hr (by omega) tx.m_children tx.F_children.kp tx.b_children (A.cons (E.v 0) (A.cons E.str A.nil)))) (pg_name (i := 2) sc_painted.nd rfl (by first | exact Or.inl rfl | exact Or.inr rfl) ) (TgP.name (i := 2))
    (@Ss.one _ _ _ _ (S.ext 1 (E.call G_below hr (by omega) tx.m_below tx.F_below.kp tx.b_below (A.cons (E.v 0) (A.cons (E.v 2) A.nil))))) (fun _ => rfl))
    (@Ss.one _ _ _ _ (S.retO 1))))
noncomputable abbrev N_path_of : List Str := ["scene", "name", "around"]
theorem sc_path_of : FnScope ["scene", "name", "around"] ["scene", "name"] (defScope s_path_of) := ⟨rfl, rfl, rfl, by decide +kernel, rfl, by decide +kernel, by decide +kernel⟩
noncomputable def g_path_of (fn_box_of : List PyData → Option PyData) (fn_path_of : List PyData → Option PyData) : En → Option Out :=
  (sSeq (sSet 2 (l2 pIx (lA fn_box_of (aC (eV 0) (aC (eV 1) aN))) (eC (.int 1))))
    (sSeq (sIf (bT (l2 pEq (eV 2) (eC (.str "")))) (sRet (oE (fun η => ((aC (eV 1) aN) η).bind gL))) sNx)
    (sRet (l2 pAdd (lA fn_path_of (aC (eV 0) (aC (eV 2) aN))) (oE (fun η => ((aC (eV 1) aN) η).bind gL))))))
set_option maxHeartbeats 4000000 in
theorem ok_path_of {k : Nat} (tx : Tx K mg t) {k_box_of : Nat} {fn_box_of : List PyData → Option PyData} (G_box_of : FnOk Pr w K mg base CX0 k_box_of t.box_of t.d_box_of ["scene", "name"] (spP K fn_box_of)) (hk_box_of : k_box_of ≤ k) {k_path_of : Nat} {fn_path_of : List PyData → Option PyData} (G_path_of : FnOk Pr w K mg base CX0 k_path_of t.path_of t.d_path_of ["scene", "name"] (spP K fn_path_of)) (hk_path_of : k_path_of ≤ k) : FnOk Pr w K mg base CX0 (k + 1) t.path_of t.d_path_of ["scene", "name"] (spP K (runF 2 3 (g_path_of fn_box_of fn_path_of))) :=
  fnP tx.F_path_of sc_path_of fun _ _ _ _ _ _ _ hr =>
    (@Ss.cons _ _ _ _ _ _ (S.set 2 sc_path_of.nd (E.at (E.call G_box_of hr (by omega) tx.m_box_of tx.F_box_of.kp tx.b_box_of (A.cons (E.v 0) (A.cons (E.v 1) A.nil))) (E.globI tx.c_AROUND)))
    (@Ss.cons _ _ _ _ _ _ (@S.ifS _ _ _ _ _ _ _ _ _ (T.eq hr (E.v 2) E.str) (@Ss.one _ _ _ _ (S.ret (EO.toE (EO.lst (A.cons (E.v 1) A.nil))))) Ss.nil)
    (@Ss.one _ _ _ _ (S.ret (E.add (E.call G_path_of hr (by omega) tx.m_path_of tx.F_path_of.kp tx.b_path_of (A.cons (E.v 0) (A.cons (E.v 2) A.nil))) (EO.toE (EO.lst (A.cons (E.v 1) A.nil))))))))
noncomputable abbrev N_has_mark : List Str := ["scene", "name", "mark"]
theorem sc_has_mark : FnScope ["scene", "name", "mark"] ["scene", "name", "mark"] (defScope s_has_mark) := ⟨rfl, rfl, rfl, by decide +kernel, rfl, by decide +kernel, by decide +kernel⟩
noncomputable def g_has_mark (fn_box_of : List PyData → Option PyData) : En → Option Out :=
  (sRet (l2 (pIn false) (eV 2) (l2 pIx (lA fn_box_of (aC (eV 0) (aC (eV 1) aN))) (eC (.int 6)))))
set_option maxHeartbeats 4000000 in
theorem ok_has_mark {k : Nat} (tx : Tx K mg t) {k_box_of : Nat} {fn_box_of : List PyData → Option PyData} (G_box_of : FnOk Pr w K mg base CX0 k_box_of t.box_of t.d_box_of ["scene", "name"] (spP K fn_box_of)) (hk_box_of : k_box_of ≤ k) : FnOk Pr w K mg base CX0 (k + 1) t.has_mark t.d_has_mark ["scene", "name", "mark"] (spP K (runF 3 3 (g_has_mark fn_box_of))) :=
  fnP tx.F_has_mark sc_has_mark fun _ _ _ _ _ _ _ hr =>
    (@Ss.one _ _ _ _ (S.ret (E.in (E.v 2) (E.at (E.call G_box_of hr (by omega) tx.m_box_of tx.F_box_of.kp tx.b_box_of (A.cons (E.v 0) (A.cons (E.v 1) A.nil))) (E.globI tx.c_MARKS)))))
noncomputable abbrev N_is_shown : List Str := ["scene", "name"]
theorem sc_is_shown : FnScope ["scene", "name"] ["scene", "name"] (defScope s_is_shown) := ⟨rfl, rfl, rfl, by decide +kernel, rfl, by decide +kernel, by decide +kernel⟩
noncomputable def g_is_shown (fn_path_of : List PyData → Option PyData) (fn_has_mark : List PyData → Option PyData) : En → Option Out :=
  (sRet (vNot (lA pAny (aC (oE (sComp [none, some 0] (lI asL (lA fn_path_of (aC (eV 0) (aC (eV 1) aN)))) (tgN 0) tTrue (lA fn_has_mark (aC (eV 1) (aC (eV 0) (aC (eC (.str "h")) aN)))))) aN))))
set_option maxHeartbeats 4000000 in
theorem ok_is_shown {k : Nat} (tx : Tx K mg t) {k_path_of : Nat} {fn_path_of : List PyData → Option PyData} (G_path_of : FnOk Pr w K mg base CX0 k_path_of t.path_of t.d_path_of ["scene", "name"] (spP K fn_path_of)) (hk_path_of : k_path_of ≤ k) {k_has_mark : Nat} {fn_has_mark : List PyData → Option PyData} (G_has_mark : FnOk Pr w K mg base CX0 k_has_mark t.has_mark t.d_has_mark ["scene", "name", "mark"] (spP K fn_has_mark)) (hk_has_mark : k_has_mark ≤ k) : FnOk Pr w K mg base CX0 (k + 1) t.is_shown t.d_is_shown ["scene", "name"] (spP K (runF 2 2 (g_is_shown fn_path_of fn_has_mark))) :=
  fnP tx.F_is_shown sc_is_shown fun _ _ _ _ _ _ _ hr =>
    (@Ss.one _ _ _ _ (S.ret (E.not (E.any rfl tx.z_any (A.cons (EO.toE (EO.comp (N' := ["step", "scene"]) (mp := [none, some 0]) rfl (CompSc.of' N_is_shown (defScope s_is_shown) rfl rfl (by decide +kernel)) (TgP.name (i := 0)) (by decide) (I.list (E.call G_path_of hr (by omega) tx.m_path_of tx.F_path_of.kp tx.b_path_of (A.cons (E.v 0) (A.cons (E.v 1) A.nil)))) (fun _ _ _ => ⟨(pg_name (i := 0) (show (["step", "scene"] : List Str).Nodup by decide +kernel) rfl (Or.inl rfl) (.inr rfl)), Ts.nil, (E.call G_has_mark hr (by omega) tx.m_has_mark tx.F_has_mark.kp tx.b_has_mark (A.cons (E.v 1) (A.cons (E.v 0) (A.cons (E.globS tx.c_HIDDEN) A.nil))))⟩))) A.nil)))))
noncomputable abbrev N_area_of : List Str := ["scene", "name", "path", "left", "top", "last"]
theorem sc_area_of : FnScope ["scene", "name", "path", "left", "top", "last"] ["scene", "name"] (defScope s_area_of) := ⟨rfl, rfl, rfl, by decide +kernel, rfl, by decide +kernel, by decide +kernel⟩
noncomputable def g_area_of (fn_path_of : List PyData → Option PyData) (fn_box_of : List PyData → Option PyData) : En → Option Out :=
  (sSeq (sSetO 2 (sComp [none, some 0] (lI asL (lA fn_path_of (aC (eV 0) (aC (eV 1) aN)))) (tgN 0) tTrue (lA fn_box_of (aC (eV 1) (aC (eV 0) aN)))))
    (fun η => (sSeq (sSet 3 (lA pSum (aC (oE (sComp [none] (lI asL (eV 2)) (tgN 0) tTrue (l2 pIx (eV 0) (eC (.int 2))))) aN)))
    (sSeq (sSet 4 (lA pSum (aC (oE (sComp [none] (lI asL (eV 2)) (tgN 0) tTrue (l2 pIx (eV 0) (eC (.int 3))))) aN)))
    (sSeq (sSet 5 (lA fn_box_of (aC (eV 0) (aC (eV 1) aN))))
    (sRet (lA (fun ds => if ds.length ≤ sizeLine then some (.tuple ds) else none) (aC (eV 3) (aC (eV 4) (aC (l2 pAdd (eV 3) (l2 pIx (eV 5) (eC (.int 4)))) (aC (l2 pAdd (eV 4) (l2 pIx (eV 5) (eC (.int 5)))) aN))))))))) (frz 2 η)))
set_option maxHeartbeats 4000000 in
theorem ok_area_of {k : Nat} (tx : Tx K mg t) {k_path_of : Nat} {fn_path_of : List PyData → Option PyData} (G_path_of : FnOk Pr w K mg base CX0 k_path_of t.path_of t.d_path_of ["scene", "name"] (spP K fn_path_of)) (hk_path_of : k_path_of ≤ k) {k_box_of : Nat} {fn_box_of : List PyData → Option PyData} (G_box_of : FnOk Pr w K mg base CX0 k_box_of t.box_of t.d_box_of ["scene", "name"] (spP K fn_box_of)) (hk_box_of : k_box_of ≤ k) : FnOk Pr w K mg base CX0 (k + 1) t.area_of t.d_area_of ["scene", "name"] (spP K (runF 2 6 (g_area_of fn_path_of fn_box_of))) :=
  fnP tx.F_area_of sc_area_of fun _ _ _ _ _ _ _ hr =>
    (@Ss.cons _ _ _ _ _ _ (S.setC 2 (N' := ["step", "scene"]) (mp := [none, some 0]) rfl sc_area_of.nd (CompSc.of' N_area_of (defScope s_area_of) rfl rfl (by decide +kernel)) (TgP.name (i := 0)) (by decide) (I.list (E.call G_path_of hr (by omega) tx.m_path_of tx.F_path_of.kp tx.b_path_of (A.cons (E.v 0) (A.cons (E.v 1) A.nil)))) (fun _ _ _ => ⟨(pg_name (i := 0) (show (["step", "scene"] : List Str).Nodup by decide +kernel) rfl (Or.inl rfl) (.inr rfl)), Ts.nil, (E.call G_box_of hr (by omega) tx.m_box_of tx.F_box_of.kp tx.b_box_of (A.cons (E.v 1) (A.cons (E.v 0) A.nil)))⟩))
    (@Ss.frz _ _ _ _ 2 (@Ss.cons _ _ _ _ _ _ (S.set 3 sc_area_of.nd (E.sum rfl tx.z_sum (A.cons (EO.toE (EO.comp (N' := ["box"]) (mp := [none]) rfl (CompSc.of' N_area_of (defScope s_area_of) rfl rfl (by decide +kernel)) (TgP.name (i := 0)) (by decide) (I.list (E.v 2)) (fun _ _ _ => ⟨(pg_name (i := 0) (show (["box"] : List Str).Nodup by decide +kernel) rfl (Or.inl rfl) (.inr rfl)), Ts.nil, (E.at (E.v 0) (E.globI tx.c_LEFT))⟩))) A.nil)))
    (@Ss.cons _ _ _ _ _ _ (S.set 4 sc_area_of.nd (E.sum rfl tx.z_sum (A.cons (EO.toE (EO.comp (N' := ["box"]) (mp := [none]) rfl (CompSc.of' N_area_of (defScope s_area_of) rfl rfl (by decide +kernel)) (TgP.name (i := 0)) (by decide) (I.list (E.v 2)) (fun _ _ _ => ⟨(pg_name (i := 0) (show (["box"] : List Str).Nodup by decide +kernel) rfl (Or.inl rfl) (.inr rfl)), Ts.nil, (E.at (E.v 0) (E.globI tx.c_TOP))⟩))) A.nil)))
    (@Ss.cons _ _ _ _ _ _ (S.set 5 sc_area_of.nd (E.call G_box_of hr (by omega) tx.m_box_of tx.F_box_of.kp tx.b_box_of (A.cons (E.v 0) (A.cons (E.v 1) A.nil))))
    (@Ss.one _ _ _ _ (S.ret (E.tup (A.cons (E.v 3) (A.cons (E.v 4) (A.cons (E.add (E.v 3) (E.at (E.v 5) (E.globI tx.c_WIDTH))) (A.cons (E.add (E.v 4) (E.at (E.v 5) (E.globI tx.c_HEIGHT))) A.nil))))))))))))
noncomputable abbrev N_overlap : List Str := ["one", "other", "left", "top"]
theorem sc_overlap : FnScope ["one", "other", "left", "top"] ["one", "other"] (defScope s_overlap) := ⟨rfl, rfl, rfl, by decide +kernel, rfl, by decide +kernel, by decide +kernel⟩
noncomputable def g_overlap  : En → Option Out :=
  (sSeq (sSet 2 (lA pMax (aC (l2 pIx (eV 0) (eC (.int 0))) (aC (l2 pIx (eV 1) (eC (.int 0))) aN))))
    (sSeq (sSet 3 (lA pMax (aC (l2 pIx (eV 0) (eC (.int 1))) (aC (l2 pIx (eV 1) (eC (.int 1))) aN))))
    (sRet (lA (fun ds => if ds.length ≤ sizeLine then some (.tuple ds) else none) (aC (eV 2) (aC (eV 3) (aC (lA pMin (aC (l2 pIx (eV 0) (eC (.int 2))) (aC (l2 pIx (eV 1) (eC (.int 2))) aN))) (aC (lA pMin (aC (l2 pIx (eV 0) (eC (.int 3))) (aC (l2 pIx (eV 1) (eC (.int 3))) aN))) aN))))))))
set_option maxHeartbeats 4000000 in
theorem ok_overlap {k : Nat} (tx : Tx K mg t)  : FnOk Pr w K mg base CX0 (k + 1) t.overlap t.d_overlap ["one", "other"] (spP K (runF 2 4 (g_overlap))) :=
  fnP tx.F_overlap sc_overlap fun _ _ _ _ _ _ _ hr =>
    (@Ss.cons _ _ _ _ _ _ (S.set 2 sc_overlap.nd (E.max rfl tx.z_max (A.cons (E.at (E.v 0) E.int) (A.cons (E.at (E.v 1) E.int) A.nil))))
    (@Ss.cons _ _ _ _ _ _ (S.set 3 sc_overlap.nd (E.max rfl tx.z_max (A.cons (E.at (E.v 0) E.int) (A.cons (E.at (E.v 1) E.int) A.nil))))
    (@Ss.one _ _ _ _ (S.ret (E.tup (A.cons (E.v 2) (A.cons (E.v 3) (A.cons (E.min rfl tx.z_min (A.cons (E.at (E.v 0) E.int) (A.cons (E.at (E.v 1) E.int) A.nil))) (A.cons (E.min rfl tx.z_min (A.cons (E.at (E.v 0) E.int) (A.cons (E.at (E.v 1) E.int) A.nil))) A.nil)))))))))
noncomputable abbrev N_window_of : List Str := ["scene", "name", "window", "step"]
theorem sc_window_of : FnScope ["scene", "name", "window", "step"] ["scene", "name"] (defScope s_window_of) := ⟨rfl, rfl, rfl, by decide +kernel, rfl, by decide +kernel, by decide +kernel⟩
noncomputable def g_window_of (fn_area_of : List PyData → Option PyData) (fn_path_of : List PyData → Option PyData) (fn_has_mark : List PyData → Option PyData) (fn_overlap : List PyData → Option PyData) : En → Option Out :=
  (sSeq (sSet 2 (lA fn_area_of (aC (eV 0) (aC (eV 1) aN))))
    (sSeq (sFor (lI asL (lA fn_path_of (aC (eV 0) (aC (eV 1) aN)))) (tgN 3)
    (sIf (bT (lA fn_has_mark (aC (eV 0) (aC (eV 3) (aC (eC (.str "c")) aN))))) (sSet 2 (lA fn_overlap (aC (eV 2) (aC (lA fn_area_of (aC (eV 0) (aC (eV 3) aN))) aN)))) sNx))
    (sRet (eV 2))))
set_option maxHeartbeats 4000000 in
theorem ok_window_of {k : Nat} (tx : Tx K mg t) {k_area_of : Nat} {fn_area_of : List PyData → Option PyData} (G_area_of : FnOk Pr w K mg base CX0 k_area_of t.area_of t.d_area_of ["scene", "name"] (spP K fn_area_of)) (hk_area_of : k_area_of ≤ k) {k_path_of : Nat} {fn_path_of : List PyData → Option PyData} (G_path_of : FnOk Pr w K mg base CX0 k_path_of t.path_of t.d_path_of ["scene", "name"] (spP K fn_path_of)) (hk_path_of : k_path_of ≤ k) {k_has_mark : Nat} {fn_has_mark : List PyData → Option PyData} (G_has_mark : FnOk Pr w K mg base CX0 k_has_mark t.has_mark t.d_has_mark ["scene", "name", "mark"] (spP K fn_has_mark)) (hk_has_mark : k_has_mark ≤ k) {k_overlap : Nat} {fn_overlap : List PyData → Option PyData} (G_overlap : FnOk Pr w K mg base CX0 k_overlap t.overlap t.d_overlap ["one", "other"] (spP K fn_overlap)) (hk_overlap : k_overlap ≤ k) : FnOk Pr w K mg base CX0 (k + 1) t.window_of t.d_window_of ["scene", "name"] (spP K (runF 2 4 (g_window_of fn_area_of fn_path_of fn_has_mark fn_overlap))) :=
  fnP tx.F_window_of sc_window_of fun _ _ _ _ _ _ _ hr =>
    (@Ss.cons _ _ _ _ _ _ (S.set 2 sc_window_of.nd (E.call G_area_of hr (by omega) tx.m_area_of tx.F_area_of.kp tx.b_area_of (A.cons (E.v 0) (A.cons (E.v 1) A.nil))))
    (@Ss.cons _ _ _ _ _ _ (@S.for _ _ _ _ _ _ _ _ _ _ _ PassesOwn.never rfl (I.list (E.call G_path_of hr (by omega) tx.m_path_of tx.F_path_of.kp tx.b_path_of (A.cons (E.v 0) (A.cons (E.v 1) A.nil)))) (pg_name (i := 3) sc_window_of.nd rfl (by first | exact Or.inl rfl | exact Or.inr rfl) ) (TgP.name (i := 3))
    (@Ss.one _ _ _ _ (@S.ifS _ _ _ _ _ _ _ _ _ (T.val (E.call G_has_mark hr (by omega) tx.m_has_mark tx.F_has_mark.kp tx.b_has_mark (A.cons (E.v 0) (A.cons (E.v 3) (A.cons (E.globS tx.c_CUTS_OFF) A.nil))))) (@Ss.one _ _ _ _ (S.set 2 sc_window_of.nd (E.call G_overlap hr (by omega) tx.m_overlap tx.F_overlap.kp tx.b_overlap (A.cons (E.v 2) (A.cons (E.call G_area_of hr (by omega) tx.m_area_of tx.F_area_of.kp tx.b_area_of (A.cons (E.v 0) (A.cons (E.v 3) A.nil))) A.nil))))) Ss.nil)) (fun _ => rfl))
    (@Ss.one _ _ _ _ (S.ret (E.v 2)))))
noncomputable abbrev N_takers : List Str := ["scene", "names"]
theorem sc_takers : FnScope ["scene", "names"] ["scene"] (defScope s_takers) := ⟨rfl, rfl, rfl, by decide +kernel, rfl, by decide +kernel, by decide +kernel⟩
noncomputable def g_takers (fn_painted : List PyData → Option PyData) (fn_is_shown : List PyData → Option PyData) (fn_has_mark : List PyData → Option PyData) (fn_window_of : List PyData → Option PyData) : En → Option Out :=
  (sSeq (sSetO 1 (sComp [none, some 0] (fun η => ((aC (lA fn_painted (aC (eV 0) aN)) aN) η).bind rvS) (tgN 0) (bT (lA fn_is_shown (aC (eV 1) (aC (eV 0) aN)))) (eV 0)))
    (fun η => (sRet (oE (sComp [none, some 0] (lI asL (eV 1)) (tgN 0) (bNot (bT (lA fn_has_mark (aC (eV 1) (aC (eV 0) (aC (eC (.str "l")) aN)))))) (lA (fun ds => if ds.length ≤ sizeLine then some (.tuple ds) else none) (aC (eV 0) (aC (lA fn_window_of (aC (eV 1) (aC (eV 0) aN))) aN)))))) (frz 1 η)))
set_option maxHeartbeats 4000000 in
theorem ok_takers {k : Nat} (tx : Tx K mg t) {k_painted : Nat} {fn_painted : List PyData → Option PyData} (G_painted : FnOk Pr w K mg base CX0 k_painted t.painted t.d_painted ["scene"] (spP K fn_painted)) (hk_painted : k_painted ≤ k) {k_is_shown : Nat} {fn_is_shown : List PyData → Option PyData} (G_is_shown : FnOk Pr w K mg base CX0 k_is_shown t.is_shown t.d_is_shown ["scene", "name"] (spP K fn_is_shown)) (hk_is_shown : k_is_shown ≤ k) {k_has_mark : Nat} {fn_has_mark : List PyData → Option PyData} (G_has_mark : FnOk Pr w K mg base CX0 k_has_mark t.has_mark t.d_has_mark ["scene", "name", "mark"] (spP K fn_has_mark)) (hk_has_mark : k_has_mark ≤ k) {k_window_of : Nat} {fn_window_of : List PyData → Option PyData} (G_window_of : FnOk Pr w K mg base CX0 k_window_of t.window_of t.d_window_of ["scene", "name"] (spP K fn_window_of)) (hk_window_of : k_window_of ≤ k) : FnOk Pr w K mg base CX0 (k + 1) t.takers t.d_takers ["scene"] (spP K (runF 1 2 (g_takers fn_painted fn_is_shown fn_has_mark fn_window_of))) :=
  fnP tx.F_takers sc_takers fun _ _ _ _ _ _ _ hr =>
    (@Ss.cons _ _ _ _ _ _ (S.setC 1 (N' := ["name", "scene"]) (mp := [none, some 0]) rfl sc_takers.nd (CompSc.of' N_takers (defScope s_takers) rfl rfl (by decide +kernel)) (TgP.name (i := 0)) (by decide) (I.rev rfl tx.z_reversed (A.cons (E.call G_painted hr (by omega) tx.m_painted tx.F_painted.kp tx.b_painted (A.cons (E.v 0) A.nil)) A.nil)) (fun _ _ _ => ⟨(pg_name (i := 0) (show (["name", "scene"] : List Str).Nodup by decide +kernel) rfl (Or.inl rfl) (.inr rfl)), (Ts.one (T.val (E.call G_is_shown hr (by omega) tx.m_is_shown tx.F_is_shown.kp tx.b_is_shown (A.cons (E.v 1) (A.cons (E.v 0) A.nil))))), (E.v 0)⟩))
    (@Ss.frz _ _ _ _ 1 (@Ss.one _ _ _ _ (S.ret (EO.toE (EO.comp (N' := ["name", "scene"]) (mp := [none, some 0]) rfl (CompSc.of' N_takers (defScope s_takers) rfl rfl (by decide +kernel)) (TgP.name (i := 0)) (by decide) (I.list (E.v 1)) (fun _ _ _ => ⟨(pg_name (i := 0) (show (["name", "scene"] : List Str).Nodup by decide +kernel) rfl (Or.inl rfl) (.inr rfl)), (Ts.one (T.not (T.val (E.call G_has_mark hr (by omega) tx.m_has_mark tx.F_has_mark.kp tx.b_has_mark (A.cons (E.v 1) (A.cons (E.v 0) (A.cons (E.globS tx.c_LETS_BY) A.nil))))))), (E.tup (A.cons (E.v 0) (A.cons (E.call G_window_of hr (by omega) tx.m_window_of tx.F_window_of.kp tx.b_window_of (A.cons (E.v 1) (A.cons (E.v 0) A.nil))) A.nil)))⟩)))))))
noncomputable abbrev N_has_point : List Str := ["area", "x", "y"]
theorem sc_has_point : FnScope ["area", "x", "y"] ["area", "x", "y"] (defScope s_has_point) := ⟨rfl, rfl, rfl, by decide +kernel, rfl, by decide +kernel, by decide +kernel⟩
noncomputable def g_has_point  : En → Option Out :=
  (sRet (vAnd (lch pLe pLt (l2 pIx (eV 0) (eC (.int 0))) (eV 1) (l2 pIx (eV 0) (eC (.int 2)))) (lch pLe pLt (l2 pIx (eV 0) (eC (.int 1))) (eV 2) (l2 pIx (eV 0) (eC (.int 3))))))
set_option maxHeartbeats 4000000 in
theorem ok_has_point {k : Nat} (tx : Tx K mg t)  : FnOk Pr w K mg base CX0 (k + 1) t.has_point t.d_has_point ["area", "x", "y"] (spP K (runF 3 3 (g_has_point))) :=
  fnP tx.F_has_point sc_has_point fun _ _ _ _ _ _ _ hr =>
    (@Ss.one _ _ _ _ (S.ret (E.and (E.chain op_le (ad_I0 fun _ _ _ => rel_bl) op_lt (ad_I0 fun _ _ _ => rel_bl) (E.at (E.v 0) E.int) (E.v 1) (E.at (E.v 0) E.int)) (E.one (E.chain op_le (ad_I0 fun _ _ _ => rel_bl) op_lt (ad_I0 fun _ _ _ => rel_bl) (E.at (E.v 0) E.int) (E.v 2) (E.at (E.v 0) E.int))))))
noncomputable abbrev N_all_hits : List Str := ["scene", "x", "y"]
theorem sc_all_hits : FnScope ["scene", "x", "y"] ["scene", "x", "y"] (defScope s_all_hits) := ⟨rfl, rfl, rfl, by decide +kernel, rfl, by decide +kernel, by decide +kernel⟩
noncomputable def g_all_hits (fn_takers : List PyData → Option PyData) (fn_has_point : List PyData → Option PyData) : En → Option Out :=
  (sRet (oE (sComp [none, none, some 1, some 2] (lI asL (lA fn_takers (aC (eV 0) aN))) (tgT (tgCons (tgN 0) (tgCons (tgN 1) tgNil))) (bT (lA fn_has_point (aC (eV 1) (aC (eV 2) (aC (eV 3) aN))))) (eV 0))))
set_option maxHeartbeats 4000000 in
theorem ok_all_hits {k : Nat} (tx : Tx K mg t) {k_takers : Nat} {fn_takers : List PyData → Option PyData} (G_takers : FnOk Pr w K mg base CX0 k_takers t.takers t.d_takers ["scene"] (spP K fn_takers)) (hk_takers : k_takers ≤ k) {k_has_point : Nat} {fn_has_point : List PyData → Option PyData} (G_has_point : FnOk Pr w K mg base CX0 k_has_point t.has_point t.d_has_point ["area", "x", "y"] (spP K fn_has_point)) (hk_has_point : k_has_point ≤ k) : FnOk Pr w K mg base CX0 (k + 1) t.all_hits t.d_all_hits ["scene", "x", "y"] (spP K (runF 3 3 (g_all_hits fn_takers fn_has_point))) :=
  fnP tx.F_all_hits sc_all_hits fun _ _ _ _ _ _ _ hr =>
    (@Ss.one _ _ _ _ (S.ret (EO.toE (EO.comp (N' := ["name", "window", "x", "y"]) (mp := [none, none, some 1, some 2]) rfl (CompSc.of' N_all_hits (defScope s_all_hits) rfl rfl (by decide +kernel)) (TgP.tup (n := 2) (TgsP.cons (TgP.name (i := 0)) (TgsP.cons (TgP.name (i := 1)) TgsP.nil)) (tg_len2)) (by decide) (I.list (E.call G_takers hr (by omega) tx.m_takers tx.F_takers.kp tx.b_takers (A.cons (E.v 0) A.nil))) (fun _ _ _ => ⟨(pg_tup (n := 2) rfl (pgs_cons (pg_name (i := 0) (show (["name", "window", "x", "y"] : List Str).Nodup by decide +kernel) rfl (Or.inl rfl) (.inr rfl)) (pgs_cons (pg_name (i := 1) (show (["name", "window", "x", "y"] : List Str).Nodup by decide +kernel) rfl (Or.inl rfl) (.inr rfl)) pgs_nil))), (Ts.one (T.val (E.call G_has_point hr (by omega) tx.m_has_point tx.F_has_point.kp tx.b_has_point (A.cons (E.v 1) (A.cons (E.v 2) (A.cons (E.v 3) A.nil)))))), (E.v 0)⟩)))))
noncomputable abbrev N_first_at : List Str := ["rows", "x", "y", "name", "window"]
theorem sc_first_at : FnScope ["rows", "x", "y", "name", "window"] ["rows", "x", "y"] (defScope s_first_at) := ⟨rfl, rfl, rfl, by decide +kernel, rfl, by decide +kernel, by decide +kernel⟩
noncomputable def g_first_at (fn_has_point : List PyData → Option PyData) : En → Option Out :=
  (sSeq (sFor (lI asL (eV 0)) (tgT (tgCons (tgN 3) (tgCons (tgN 4) tgNil)))
    (sIf (bT (lA fn_has_point (aC (eV 4) (aC (eV 1) (aC (eV 2) aN))))) (sRet (eV 3)) sNx))
    (sRet (eC .none)))
set_option maxHeartbeats 4000000 in
theorem ok_first_at {k : Nat} (tx : Tx K mg t) {k_has_point : Nat} {fn_has_point : List PyData → Option PyData} (G_has_point : FnOk Pr w K mg base CX0 k_has_point t.has_point t.d_has_point ["area", "x", "y"] (spP K fn_has_point)) (hk_has_point : k_has_point ≤ k) : FnOk Pr w K mg base CX0 (k + 1) t.first_at t.d_first_at ["rows", "x", "y"] (spP K (runF 3 5 (g_first_at fn_has_point))) :=
  fnP tx.F_first_at sc_first_at fun _ _ _ _ _ _ _ hr =>
    (@Ss.cons _ _ _ _ _ _ (@S.for _ _ _ _ _ _ _ _ _ _ _ PassesOwn.never rfl (I.list (E.v 0)) (pg_tup (n := 2) rfl (pgs_cons (pg_name (i := 3) sc_first_at.nd rfl (by first | exact Or.inl rfl | exact Or.inr rfl) ) (pgs_cons (pg_name (i := 4) sc_first_at.nd rfl (by first | exact Or.inl rfl | exact Or.inr rfl) ) pgs_nil))) (TgP.tup (n := 2) (TgsP.cons (TgP.name (i := 3)) (TgsP.cons (TgP.name (i := 4)) TgsP.nil)) (tg_len2))
    (@Ss.one _ _ _ _ (@S.ifS _ _ _ _ _ _ _ _ _ (T.val (E.call G_has_point hr (by omega) tx.m_has_point tx.F_has_point.kp tx.b_has_point (A.cons (E.v 4) (A.cons (E.v 1) (A.cons (E.v 2) A.nil))))) (@Ss.one _ _ _ _ (S.ret (E.v 3))) Ss.nil)) (fun _ => rfl))
    (@Ss.one _ _ _ _ (S.ret E.non)))
noncomputable abbrev N_hit : List Str := ["scene", "x", "y"]
theorem sc_hit : FnScope ["scene", "x", "y"] ["scene", "x", "y"] (defScope s_hit) := ⟨rfl, rfl, rfl, by decide +kernel, rfl, by decide +kernel, by decide +kernel⟩
noncomputable def g_hit (fn_takers : List PyData → Option PyData) (fn_first_at : List PyData → Option PyData) : En → Option Out :=
  (sRet (lA fn_first_at (aC (lA fn_takers (aC (eV 0) aN)) (aC (eV 1) (aC (eV 2) aN)))))
set_option maxHeartbeats 4000000 in
theorem ok_hit {k : Nat} (tx : Tx K mg t) {k_takers : Nat} {fn_takers : List PyData → Option PyData} (G_takers : FnOk Pr w K mg base CX0 k_takers t.takers t.d_takers ["scene"] (spP K fn_takers)) (hk_takers : k_takers ≤ k) {k_first_at : Nat} {fn_first_at : List PyData → Option PyData} (G_first_at : FnOk Pr w K mg base CX0 k_first_at t.first_at t.d_first_at ["rows", "x", "y"] (spP K fn_first_at)) (hk_first_at : k_first_at ≤ k) : FnOk Pr w K mg base CX0 (k + 1) t.hit t.d_hit ["scene", "x", "y"] (spP K (runF 3 3 (g_hit fn_takers fn_first_at))) :=
  fnP tx.F_hit sc_hit fun _ _ _ _ _ _ _ hr =>
    (@Ss.one _ _ _ _ (S.ret (E.call G_first_at hr (by omega) tx.m_first_at tx.F_first_at.kp tx.b_first_at (A.cons (E.call G_takers hr (by omega) tx.m_takers tx.F_takers.kp tx.b_takers (A.cons (E.v 0) A.nil)) (A.cons (E.v 1) (A.cons (E.v 2) A.nil))))))
noncomputable abbrev N_is_touched : List Str := ["scene", "name", "x", "y"]
theorem sc_is_touched : FnScope ["scene", "name", "x", "y"] ["scene", "name", "x", "y"] (defScope s_is_touched) := ⟨rfl, rfl, rfl, by decide +kernel, rfl, by decide +kernel, by decide +kernel⟩
noncomputable def g_is_touched (fn_window_of : List PyData → Option PyData) (fn_has_point : List PyData → Option PyData) (fn_is_shown : List PyData → Option PyData) : En → Option Out :=
  (sRet (vAnd (lA fn_is_shown (aC (eV 0) (aC (eV 1) aN))) (lA fn_has_point (aC (lA fn_window_of (aC (eV 0) (aC (eV 1) aN))) (aC (eV 2) (aC (eV 3) aN))))))
set_option maxHeartbeats 4000000 in
theorem ok_is_touched {k : Nat} (tx : Tx K mg t) {k_window_of : Nat} {fn_window_of : List PyData → Option PyData} (G_window_of : FnOk Pr w K mg base CX0 k_window_of t.window_of t.d_window_of ["scene", "name"] (spP K fn_window_of)) (hk_window_of : k_window_of ≤ k) {k_has_point : Nat} {fn_has_point : List PyData → Option PyData} (G_has_point : FnOk Pr w K mg base CX0 k_has_point t.has_point t.d_has_point ["area", "x", "y"] (spP K fn_has_point)) (hk_has_point : k_has_point ≤ k) {k_is_shown : Nat} {fn_is_shown : List PyData → Option PyData} (G_is_shown : FnOk Pr w K mg base CX0 k_is_shown t.is_shown t.d_is_shown ["scene", "name"] (spP K fn_is_shown)) (hk_is_shown : k_is_shown ≤ k) : FnOk Pr w K mg base CX0 (k + 1) t.is_touched t.d_is_touched ["scene", "name", "x", "y"] (spP K (runF 4 4 (g_is_touched fn_window_of fn_has_point fn_is_shown))) :=
  fnP tx.F_is_touched sc_is_touched fun _ _ _ _ _ _ _ hr =>
    (@Ss.one _ _ _ _ (S.ret (E.and (E.call G_is_shown hr (by omega) tx.m_is_shown tx.F_is_shown.kp tx.b_is_shown (A.cons (E.v 0) (A.cons (E.v 1) A.nil))) (E.one (E.call G_has_point hr (by omega) tx.m_has_point tx.F_has_point.kp tx.b_has_point (A.cons (E.call G_window_of hr (by omega) tx.m_window_of tx.F_window_of.kp tx.b_window_of (A.cons (E.v 0) (A.cons (E.v 1) A.nil))) (A.cons (E.v 2) (A.cons (E.v 3) A.nil))))))))
noncomputable abbrev N_marked : List Str := ["scene", "name", "marks", "box"]
theorem sc_marked : FnScope ["scene", "name", "marks", "box"] ["scene", "name", "marks"] (defScope s_marked) := ⟨rfl, rfl, rfl, by decide +kernel, rfl, by decide +kernel, by decide +kernel⟩
noncomputable def g_marked (fn_box_of : List PyData → Option PyData) (fn_with_other : List PyData → Option PyData) : En → Option Out :=
  (sSeq (sSet 3 (lA fn_box_of (aC (eV 0) (aC (eV 1) aN))))
    (sRet (lA fn_with_other (aC (eV 0) (aC (l2 pAdd (eSl (eV 3) pN (pS (eC (.int 6)))) (lA (fun ds => if ds.length ≤ sizeLine then some (.tuple ds) else none) (aC (eV 2) aN))) aN)))))
set_option maxHeartbeats 4000000 in
theorem ok_marked {k : Nat} (tx : Tx K mg t) {k_box_of : Nat} {fn_box_of : List PyData → Option PyData} (G_box_of : FnOk Pr w K mg base CX0 k_box_of t.box_of t.d_box_of ["scene", "name"] (spP K fn_box_of)) (hk_box_of : k_box_of ≤ k) {k_with_other : Nat} {fn_with_other : List PyData → Option PyData} (G_with_other : FnOk Pr w K mg base CX0 k_with_other t.with_other t.d_with_other ["scene", "other"] (spP K fn_with_other)) (hk_with_other : k_with_other ≤ k) : FnOk Pr w K mg base CX0 (k + 1) t.marked t.d_marked ["scene", "name", "marks"] (spP K (runF 3 4 (g_marked fn_box_of fn_with_other))) :=
  fnP tx.F_marked sc_marked fun _ _ _ _ _ _ _ hr =>
    (@Ss.cons _ _ _ _ _ _ (S.set 3 sc_marked.nd (E.call G_box_of hr (by omega) tx.m_box_of tx.F_box_of.kp tx.b_box_of (A.cons (E.v 0) (A.cons (E.v 1) A.nil))))
    (@Ss.one _ _ _ _ (S.ret (E.call G_with_other hr (by omega) tx.m_with_other tx.F_with_other.kp tx.b_with_other (A.cons (E.v 0) (A.cons (E.add (E.sl (E.v 3) P.none (P.some (E.globI tx.c_MARKS))) (E.tup (A.cons (E.v 2) A.nil))) A.nil))))))
noncomputable abbrev N_cut : List Str := ["scene", "name", "gone"]
theorem sc_cut : FnScope ["scene", "name", "gone"] ["scene", "name"] (defScope s_cut) := ⟨rfl, rfl, rfl, by decide +kernel, rfl, by decide +kernel, by decide +kernel⟩
noncomputable def g_cut (fn_below : List PyData → Option PyData) : En → Option Out :=
  (sSeq (sSet 2 (lA fn_below (aC (eV 0) (aC (eV 1) aN))))
    (sRet (lA pTup (aC (oE (sComp [none, some 2] (lI asTu (eV 0)) (tgN 0) (bT (l2 (pIn true) (l2 pIx (eV 0) (eC (.int 0))) (eV 1))) (eV 0))) aN))))
set_option maxHeartbeats 4000000 in
theorem ok_cut {k : Nat} (tx : Tx K mg t) {k_below : Nat} {fn_below : List PyData → Option PyData} (G_below : FnOk Pr w K mg base CX0 k_below t.below t.d_below ["scene", "name"] (spP K fn_below)) (hk_below : k_below ≤ k) : FnOk Pr w K mg base CX0 (k + 1) t.cut t.d_cut ["scene", "name"] (spP K (runF 2 3 (g_cut fn_below))) :=
  fnP tx.F_cut sc_cut fun _ _ _ _ _ _ _ hr =>
    (@Ss.cons _ _ _ _ _ _ (S.set 2 sc_cut.nd (E.call G_below hr (by omega) tx.m_below tx.F_below.kp tx.b_below (A.cons (E.v 0) (A.cons (E.v 1) A.nil))))
    (@Ss.one _ _ _ _ (S.ret (E.tuple tx.z_tuple (A.cons (EO.toE (EO.comp (N' := ["box", "gone"]) (mp := [none, some 2]) rfl (CompSc.of' N_cut (defScope s_cut) rfl rfl (by decide +kernel)) (TgP.name (i := 0)) (by decide) (I.tup (E.v 0)) (fun _ _ _ => ⟨(pg_name (i := 0) (show (["box", "gone"] : List Str).Nodup by decide +kernel) rfl (Or.inl rfl) (.inr rfl)), (Ts.one (T.notIn (E.at (E.v 0) (E.globI tx.c_NAME)) (E.v 1))), (E.v 0)⟩))) A.nil)))))
noncomputable abbrev N_raised : List Str := ["scene", "name", "lifted"]
theorem sc_raised : FnScope ["scene", "name", "lifted"] ["scene", "name"] (defScope s_raised) := ⟨rfl, rfl, rfl, by decide +kernel, rfl, by decide +kernel, by decide +kernel⟩
noncomputable def g_raised (fn_below : List PyData → Option PyData) (fn_cut : List PyData → Option PyData) : En → Option Out :=
  (sSeq (sSet 2 (lA fn_below (aC (eV 0) (aC (eV 1) aN))))
    (sRet (l2 pAdd (lA fn_cut (aC (eV 0) (aC (eV 1) aN))) (lA pTup (aC (oE (sComp [none, some 2] (lI asTu (eV 0)) (tgN 0) (bT (l2 (pIn false) (l2 pIx (eV 0) (eC (.int 0))) (eV 1))) (eV 0))) aN)))))
set_option maxHeartbeats 4000000 in
theorem ok_raised {k : Nat} (tx : Tx K mg t) {k_below : Nat} {fn_below : List PyData → Option PyData} (G_below : FnOk Pr w K mg base CX0 k_below t.below t.d_below ["scene", "name"] (spP K fn_below)) (hk_below : k_below ≤ k) {k_cut : Nat} {fn_cut : List PyData → Option PyData} (G_cut : FnOk Pr w K mg base CX0 k_cut t.cut t.d_cut ["scene", "name"] (spP K fn_cut)) (hk_cut : k_cut ≤ k) : FnOk Pr w K mg base CX0 (k + 1) t.raised t.d_raised ["scene", "name"] (spP K (runF 2 3 (g_raised fn_below fn_cut))) :=
  fnP tx.F_raised sc_raised fun _ _ _ _ _ _ _ hr =>
    (@Ss.cons _ _ _ _ _ _ (S.set 2 sc_raised.nd (E.call G_below hr (by omega) tx.m_below tx.F_below.kp tx.b_below (A.cons (E.v 0) (A.cons (E.v 1) A.nil))))
    (@Ss.one _ _ _ _ (S.ret (E.add (E.call G_cut hr (by omega) tx.m_cut tx.F_cut.kp tx.b_cut (A.cons (E.v 0) (A.cons (E.v 1) A.nil))) (E.tuple tx.z_tuple (A.cons (EO.toE (EO.comp (N' := ["box", "lifted"]) (mp := [none, some 2]) rfl (CompSc.of' N_raised (defScope s_raised) rfl rfl (by decide +kernel)) (TgP.name (i := 0)) (by decide) (I.tup (E.v 0)) (fun _ _ _ => ⟨(pg_name (i := 0) (show (["box", "lifted"] : List Str).Nodup by decide +kernel) rfl (Or.inl rfl) (.inr rfl)), (Ts.one (T.in (E.at (E.v 0) (E.globI tx.c_NAME)) (E.v 1))), (E.v 0)⟩))) A.nil))))))
noncomputable abbrev N_law : List Str := ["_law_script", "_law_scene_here", "_law_shifted", "_law_box_here", "_law_every", "_law_k", "_law_x", "_law_y", "_law_row", "_law_places", "_law_name", "_law_marks", "_law_inner", "_law_hidden", "_law_is_top", "_law_left", "_law_top", "_law_right", "_law_bottom", "_law_is_out"]
theorem sc_law : FnScope ["_law_script", "_law_scene_here", "_law_shifted", "_law_box_here", "_law_every", "_law_k", "_law_x", "_law_y", "_law_row", "_law_places", "_law_name", "_law_marks", "_law_inner", "_law_hidden", "_law_is_top", "_law_left", "_law_top", "_law_right", "_law_bottom", "_law_is_out"] ["_law_script"] (defScope s_law) := ⟨rfl, rfl, rfl, by decide +kernel, rfl, by decide +kernel, by decide +kernel⟩
noncomputable def g_law (fn__law_scene : List PyData → Option PyData) (fn_put_at : List PyData → Option PyData) (fn_painted : List PyData → Option PyData) (fn__law_drawn : List PyData → Option PyData) (fn_all_hits : List PyData → Option PyData) (fn_hit : List PyData → Option PyData) (fn_box_of : List PyData → Option PyData) (fn_is_touched : List PyData → Option PyData) (fn_below : List PyData → Option PyData) (fn_marked : List PyData → Option PyData) (fn_cut : List PyData → Option PyData) (fn_path_of : List PyData → Option PyData) (fn_raised : List PyData → Option PyData) (fn_area_of : List PyData → Option PyData) : En → Option Out :=
  (sSeq (sSet 1 (lA fn__law_scene (aC (eV 0) (aC (eC (.int 0)) aN))))
    (sSeq (sSet 2 (eV 1))
    (sSeq (sFor (lI asTu (eV 1)) (tgN 3)
    (sIf (bT (l2 pEq (l2 pIx (eV 3) (eC (.int 1))) (eC (.str "")))) (sSet 2 (lA fn_put_at (aC (eV 2) (aC (l2 pIx (eV 3) (eC (.int 0))) (aC (l2 pAdd (l2 pIx (eV 3) (eC (.int 2))) (eC (.int 5))) (aC (l2 pSub (l2 pIx (eV 3) (eC (.int 3))) (eC (.int 4))) aN)))))) sNx))
    (sSeq (sSet 4 (lA fn_painted (aC (eV 1) aN)))
    (sSeq (sFor (fun η => ((aC (eC (.int 2)) aN) η).bind rng1) (tgN 5)
    (sSeq (sSet 6 (l2 pSub (lA fn__law_drawn (aC (eV 0) (aC (l2 pAdd (eC (.int 100)) (l2 pMul (eC (.int 2)) (eV 5))) (aC (eC (.int 16)) aN)))) (eC (.int 4))))
    (sSeq (sSet 7 (l2 pSub (lA fn__law_drawn (aC (eV 0) (aC (l2 pAdd (eC (.int 101)) (l2 pMul (eC (.int 2)) (eV 5))) (aC (eC (.int 16)) aN)))) (eC (.int 4))))
    (sSeq (sSet 8 (lA fn_all_hits (aC (eV 1) (aC (eV 6) (aC (eV 7) aN)))))
    (sSeq (sSetO 9 (sComp [none, some 4] (lI asL (eV 8)) (tgN 0) tTrue (l2 pIdx (eV 1) (eV 0))))
    (fun η => (sSeq (sIf (bOr (bT (l2 pNe (eV 9) (l2 pRv (lA pSort (aC (eV 9) aN)) (l1 pNeg (eC (.int 1)))))) (bT (l2 pNe (lA fn_hit (aC (eV 1) (aC (eV 6) (aC (eV 7) aN)))) (l2 pIx (l2 pAdd (eV 8) (oE (fun η => ((aC (eC .none) aN) η).bind gL))) (eC (.int 0)))))) (sRet (eC (.bool false))) sNx)
    (sSeq (sIf (bT (l2 pNe (lA fn_all_hits (aC (eV 2) (aC (l2 pAdd (eV 6) (eC (.int 5))) (aC (l2 pSub (eV 7) (eC (.int 4))) aN)))) (eV 8))) (sRet (eC (.bool false))) sNx)
    (sFor (lI asL (eV 4)) (tgN 10)
    (sSeq (sSet 11 (l2 pIx (lA fn_box_of (aC (eV 1) (aC (eV 10) aN))) (eC (.int 6))))
    (sSeq (sIf (bT (l2 pNe (l2 (pIn false) (eV 10) (eV 8)) (vAnd (lA fn_is_touched (aC (eV 1) (aC (eV 10) (aC (eV 6) (aC (eV 7) aN))))) (l2 (pIn true) (eC (.str "l")) (eV 11))))) (sRet (eC (.bool false))) sNx)
    (sSeq (sSet 12 (lA fn_below (aC (eV 1) (aC (eV 10) aN))))
    (sSeq (sSet 13 (lA fn_all_hits (aC (lA fn_marked (aC (eV 1) (aC (eV 10) (aC (l2 pJoin (eC (.str "")) (lA pSortSetT (aC (l2 pAdd (eV 11) (eC (.str "h"))) aN))) aN)))) (aC (eV 6) (aC (eV 7) aN)))))
    (sSeq (sIf (bOr (bT (l2 pNe (eV 13) (oE (sComp [none, some 12] (lI asL (eV 8)) (tgN 0) (bT (l2 (pIn true) (eV 0) (eV 1))) (eV 0))))) (bT (l2 pNe (eV 13) (lA fn_all_hits (aC (lA fn_cut (aC (eV 1) (aC (eV 10) aN))) (aC (eV 6) (aC (eV 7) aN))))))) (sRet (eC (.bool false))) sNx)
    (sSeq (sSet 14 (vAnd (l2 pEq (lA fn_hit (aC (eV 1) (aC (eV 6) (aC (eV 7) aN)))) (eV 10)) (l2 pEq (lA fn_path_of (aC (eV 1) (aC (eV 10) aN))) (oE (fun η => ((aC (eV 10) aN) η).bind gL)))))
    (sSeq (sIf (bAnd (bT (eV 14)) (bT (l2 (pIn true) (lA fn_hit (aC (lA fn_raised (aC (eV 1) (aC (eV 10) aN))) (aC (eV 6) (aC (eV 7) aN)))) (eV 12)))) (sRet (eC (.bool false))) sNx)
    (sSeq (sUnp (lA fn_area_of (aC (eV 1) (aC (eV 10) aN))) (tgT (tgCons (tgN 15) (tgCons (tgN 16) (tgCons (tgN 17) (tgCons (tgN 18) tgNil))))))
    (sSeq (sSet 19 (vNot (vAnd (lch pLe pLt (eV 15) (eV 6) (eV 17)) (lch pLe pLt (eV 16) (eV 7) (eV 18)))))
    (sIf (bAnd (bT (l2 (pIn false) (eC (.str "c")) (eV 11))) (bAnd (bT (eV 19)) (bT (l2 pNe (oE (sComp [none, some 12] (lI asL (eV 8)) (tgN 0) (bT (l2 (pIn false) (eV 0) (eV 1))) (eV 0))) (oE (fun η => (aN η).bind gL)))))) (sRet (eC (.bool false))) sNx))))))))))))) (frz 9 η)))))))
    (sRet (eC (.bool true))))))))
set_option maxHeartbeats 4000000 in
theorem ok_law {k : Nat} (tx : Tx K mg t) {k__law_scene : Nat} {fn__law_scene : List PyData → Option PyData} (G__law_scene : FnOk Pr w K mg base CX0 k__law_scene t._law_scene t.d__law_scene ["_law_script", "_law_at"] (spP K fn__law_scene)) (hk__law_scene : k__law_scene ≤ k) {k_put_at : Nat} {fn_put_at : List PyData → Option PyData} (G_put_at : FnOk Pr w K mg base CX0 k_put_at t.put_at t.d_put_at ["scene", "name", "left", "top"] (spP K fn_put_at)) (hk_put_at : k_put_at ≤ k) {k_painted : Nat} {fn_painted : List PyData → Option PyData} (G_painted : FnOk Pr w K mg base CX0 k_painted t.painted t.d_painted ["scene"] (spP K fn_painted)) (hk_painted : k_painted ≤ k) {k__law_drawn : Nat} {fn__law_drawn : List PyData → Option PyData} (G__law_drawn : FnOk Pr w K mg base CX0 k__law_drawn t._law_drawn t.d__law_drawn ["_law_script", "_law_k", "_law_many"] (spP K fn__law_drawn)) (hk__law_drawn : k__law_drawn ≤ k) {k_all_hits : Nat} {fn_all_hits : List PyData → Option PyData} (G_all_hits : FnOk Pr w K mg base CX0 k_all_hits t.all_hits t.d_all_hits ["scene", "x", "y"] (spP K fn_all_hits)) (hk_all_hits : k_all_hits ≤ k) {k_hit : Nat} {fn_hit : List PyData → Option PyData} (G_hit : FnOk Pr w K mg base CX0 k_hit t.hit t.d_hit ["scene", "x", "y"] (spP K fn_hit)) (hk_hit : k_hit ≤ k) {k_box_of : Nat} {fn_box_of : List PyData → Option PyData} (G_box_of : FnOk Pr w K mg base CX0 k_box_of t.box_of t.d_box_of ["scene", "name"] (spP K fn_box_of)) (hk_box_of : k_box_of ≤ k) {k_is_touched : Nat} {fn_is_touched : List PyData → Option PyData} (G_is_touched : FnOk Pr w K mg base CX0 k_is_touched t.is_touched t.d_is_touched ["scene", "name", "x", "y"] (spP K fn_is_touched)) (hk_is_touched : k_is_touched ≤ k) {k_below : Nat} {fn_below : List PyData → Option PyData} (G_below : FnOk Pr w K mg base CX0 k_below t.below t.d_below ["scene", "name"] (spP K fn_below)) (hk_below : k_below ≤ k) {k_marked : Nat} {fn_marked : List PyData → Option PyData} (G_marked : FnOk Pr w K mg base CX0 k_marked t.marked t.d_marked ["scene", "name", "marks"] (spP K fn_marked)) (hk_marked : k_marked ≤ k) {k_cut : Nat} {fn_cut : List PyData → Option PyData} (G_cut : FnOk Pr w K mg base CX0 k_cut t.cut t.d_cut ["scene", "name"] (spP K fn_cut)) (hk_cut : k_cut ≤ k) {k_path_of : Nat} {fn_path_of : List PyData → Option PyData} (G_path_of : FnOk Pr w K mg base CX0 k_path_of t.path_of t.d_path_of ["scene", "name"] (spP K fn_path_of)) (hk_path_of : k_path_of ≤ k) {k_raised : Nat} {fn_raised : List PyData → Option PyData} (G_raised : FnOk Pr w K mg base CX0 k_raised t.raised t.d_raised ["scene", "name"] (spP K fn_raised)) (hk_raised : k_raised ≤ k) {k_area_of : Nat} {fn_area_of : List PyData → Option PyData} (G_area_of : FnOk Pr w K mg base CX0 k_area_of t.area_of t.d_area_of ["scene", "name"] (spP K fn_area_of)) (hk_area_of : k_area_of ≤ k) : FnOk Pr w K mg base CX0 (k + 1) t.law t.d_law ["_law_script"] (spP K (runF 1 20 (g_law fn__law_scene fn_put_at fn_painted fn__law_drawn fn_all_hits fn_hit fn_box_of fn_is_touched fn_below fn_marked fn_cut fn_path_of fn_raised fn_area_of))) :=
  fnP tx.F_law sc_law fun _ _ _ _ _ _ _ hr =>
    (@Ss.cons _ _ _ _ _ _ (S.set 1 sc_law.nd (E.call G__law_scene hr (by omega) tx.m__law_scene tx.F__law_scene.kp tx.b__law_scene (A.cons (E.v 0) (A.cons E.int A.nil))))
    (@Ss.cons _ _ _ _ _ _ (S.set 2 sc_law.nd (E.v 1))
    (@Ss.cons _ _ _ _ _ _ (@S.for _ _ _ _ _ _ _ _ _ _ _ PassesOwn.never rfl (I.tup (E.v 1)) (pg_name (i := 3) sc_law.nd rfl (by first | exact Or.inl rfl | exact Or.inr rfl) ) (TgP.name (i := 3))
    (@Ss.one _ _ _ _ (@S.ifS _ _ _ _ _ _ _ _ _ (T.eq hr (E.at (E.v 3) E.int) E.str) (@Ss.one _ _ _ _ (S.set 2 sc_law.nd (E.call G_put_at hr (by omega) tx.m_put_at tx.F_put_at.kp tx.b_put_at (A.cons (E.v 2) (A.cons (E.at (E.v 3) E.int) (A.cons (E.add (E.at (E.v 3) E.int) E.int) (A.cons (E.sub (E.at (E.v 3) E.int) E.int) A.nil))))))) Ss.nil)) (fun _ => rfl))
    (@Ss.cons _ _ _ _ _ _ (S.set 4 sc_law.nd (E.call G_painted hr (by omega) tx.m_painted tx.F_painted.kp tx.b_painted (A.cons (E.v 1) A.nil)))
    (@Ss.cons _ _ _ _ _ _ (@S.for _ _ _ _ _ _ _ _ _ _ _ PassesOwn.never rfl (I.rng1 tx.z_range (A.cons E.int A.nil)) (pg_name (i := 5) sc_law.nd rfl (by first | exact Or.inl rfl | exact Or.inr rfl) ) (TgP.name (i := 5))
    (@Ss.cons _ _ _ _ _ _ (S.set 6 sc_law.nd (E.sub (E.call G__law_drawn hr (by omega) tx.m__law_drawn tx.F__law_drawn.kp tx.b__law_drawn (A.cons (E.v 0) (A.cons (E.add E.int (E.mul E.int (E.v 5))) (A.cons E.int A.nil)))) E.int))
    (@Ss.cons _ _ _ _ _ _ (S.set 7 sc_law.nd (E.sub (E.call G__law_drawn hr (by omega) tx.m__law_drawn tx.F__law_drawn.kp tx.b__law_drawn (A.cons (E.v 0) (A.cons (E.add E.int (E.mul E.int (E.v 5))) (A.cons E.int A.nil)))) E.int))
    (@Ss.cons _ _ _ _ _ _ (S.set 8 sc_law.nd (E.call G_all_hits hr (by omega) tx.m_all_hits tx.F_all_hits.kp tx.b_all_hits (A.cons (E.v 1) (A.cons (E.v 6) (A.cons (E.v 7) A.nil)))))
    (@Ss.cons _ _ _ _ _ _ (S.setC 9 (N' := ["_law_name", "_law_every"]) (mp := [none, some 4]) rfl sc_law.nd (CompSc.of' N_law (defScope s_law) rfl rfl (by decide +kernel)) (TgP.name (i := 0)) (by decide) (I.list (E.v 8)) (fun _ _ _ => ⟨(pg_name (i := 0) (show (["_law_name", "_law_every"] : List Str).Nodup by decide +kernel) rfl (Or.inl rfl) (.inr rfl)), Ts.nil, (E.index (E.v 1) (E.v 0))⟩))
    (@Ss.frz _ _ _ _ 9 (@Ss.cons _ _ _ _ _ _ (@S.ifS _ _ _ _ _ _ _ _ _ (TW.t (TW.or (T.ne hr (E.v 9) (E.slRev (E.sorted tx.z_sorted (A.cons (E.v 9) A.nil)) (E.neg E.int))) (TW.or1 (T.ne hr (E.call G_hit hr (by omega) tx.m_hit tx.F_hit.kp tx.b_hit (A.cons (E.v 1) (A.cons (E.v 6) (A.cons (E.v 7) A.nil)))) (E.at (E.add (E.v 8) (EO.toE (EO.lst (A.cons E.non A.nil)))) E.int))))) (@Ss.one _ _ _ _ (S.ret E.bl)) Ss.nil)
    (@Ss.cons _ _ _ _ _ _ (@S.ifS _ _ _ _ _ _ _ _ _ (T.ne hr (E.call G_all_hits hr (by omega) tx.m_all_hits tx.F_all_hits.kp tx.b_all_hits (A.cons (E.v 2) (A.cons (E.add (E.v 6) E.int) (A.cons (E.sub (E.v 7) E.int) A.nil)))) (E.v 8)) (@Ss.one _ _ _ _ (S.ret E.bl)) Ss.nil)
    (@Ss.one _ _ _ _ (@S.for _ _ _ _ _ _ _ _ _ _ _ PassesOwn.never rfl (I.list (E.v 4)) (pg_name (i := 10) sc_law.nd rfl (by first | exact Or.inl rfl | exact Or.inr rfl) ) (TgP.name (i := 10))
    (@Ss.cons _ _ _ _ _ _ (S.set 11 sc_law.nd (E.at (E.call G_box_of hr (by omega) tx.m_box_of tx.F_box_of.kp tx.b_box_of (A.cons (E.v 1) (A.cons (E.v 10) A.nil))) E.int))
    (@Ss.cons _ _ _ _ _ _ (@S.ifS _ _ _ _ _ _ _ _ _ (T.ne hr (E.in (E.v 10) (E.v 8)) (E.and (E.call G_is_touched hr (by omega) tx.m_is_touched tx.F_is_touched.kp tx.b_is_touched (A.cons (E.v 1) (A.cons (E.v 10) (A.cons (E.v 6) (A.cons (E.v 7) A.nil))))) (E.one (E.notIn E.str (E.v 11))))) (@Ss.one _ _ _ _ (S.ret E.bl)) Ss.nil)
    (@Ss.cons _ _ _ _ _ _ (S.set 12 sc_law.nd (E.call G_below hr (by omega) tx.m_below tx.F_below.kp tx.b_below (A.cons (E.v 1) (A.cons (E.v 10) A.nil))))
    (@Ss.cons _ _ _ _ _ _ (S.set 13 sc_law.nd (E.call G_all_hits hr (by omega) tx.m_all_hits tx.F_all_hits.kp tx.b_all_hits (A.cons (E.call G_marked hr (by omega) tx.m_marked tx.F_marked.kp tx.b_marked (A.cons (E.v 1) (A.cons (E.v 10) (A.cons (E.join E.str (E.sortedSetT hr tx.z_sorted tx.z_set (A.cons (E.add (E.v 11) E.str) A.nil))) A.nil)))) (A.cons (E.v 6) (A.cons (E.v 7) A.nil)))))
    (@Ss.cons _ _ _ _ _ _ (@S.ifS _ _ _ _ _ _ _ _ _ (TW.t (TW.or (T.ne hr (E.v 13) (EO.toE (EO.comp (N' := ["_law_one", "_law_inner"]) (mp := [none, some 12]) rfl (CompSc.of' N_law (defScope s_law) rfl rfl (by decide +kernel)) (TgP.name (i := 0)) (by decide) (I.list (E.v 8)) (fun _ _ _ => ⟨(pg_name (i := 0) (show (["_law_one", "_law_inner"] : List Str).Nodup by decide +kernel) rfl (Or.inl rfl) (.inr rfl)), (Ts.one (T.notIn (E.v 0) (E.v 1))), (E.v 0)⟩)))) (TW.or1 (T.ne hr (E.v 13) (E.call G_all_hits hr (by omega) tx.m_all_hits tx.F_all_hits.kp tx.b_all_hits (A.cons (E.call G_cut hr (by omega) tx.m_cut tx.F_cut.kp tx.b_cut (A.cons (E.v 1) (A.cons (E.v 10) A.nil))) (A.cons (E.v 6) (A.cons (E.v 7) A.nil)))))))) (@Ss.one _ _ _ _ (S.ret E.bl)) Ss.nil)
    (@Ss.cons _ _ _ _ _ _ (S.set 14 sc_law.nd (E.and (E.eq hr (E.call G_hit hr (by omega) tx.m_hit tx.F_hit.kp tx.b_hit (A.cons (E.v 1) (A.cons (E.v 6) (A.cons (E.v 7) A.nil)))) (E.v 10)) (E.one (E.eq hr (E.call G_path_of hr (by omega) tx.m_path_of tx.F_path_of.kp tx.b_path_of (A.cons (E.v 1) (A.cons (E.v 10) A.nil))) (EO.toE (EO.lst (A.cons (E.v 10) A.nil)))))))
    (@Ss.cons _ _ _ _ _ _ (@S.ifS _ _ _ _ _ _ _ _ _ (TW.t (TW.and (T.val (E.v 14)) (TW.and1 (T.notIn (E.call G_hit hr (by omega) tx.m_hit tx.F_hit.kp tx.b_hit (A.cons (E.call G_raised hr (by omega) tx.m_raised tx.F_raised.kp tx.b_raised (A.cons (E.v 1) (A.cons (E.v 10) A.nil))) (A.cons (E.v 6) (A.cons (E.v 7) A.nil)))) (E.v 12))))) (@Ss.one _ _ _ _ (S.ret E.bl)) Ss.nil)
    (@Ss.cons _ _ _ _ _ _ (S.unp (E.call G_area_of hr (by omega) tx.m_area_of tx.F_area_of.kp tx.b_area_of (A.cons (E.v 1) (A.cons (E.v 10) A.nil))) (pg_tup (n := 4) rfl (pgs_cons (pg_name (i := 15) sc_law.nd rfl (by first | exact Or.inl rfl | exact Or.inr rfl) ) (pgs_cons (pg_name (i := 16) sc_law.nd rfl (by first | exact Or.inl rfl | exact Or.inr rfl) ) (pgs_cons (pg_name (i := 17) sc_law.nd rfl (by first | exact Or.inl rfl | exact Or.inr rfl) ) (pgs_cons (pg_name (i := 18) sc_law.nd rfl (by first | exact Or.inl rfl | exact Or.inr rfl) ) pgs_nil))))) (TgP.tup (n := 4) (TgsP.cons (TgP.name (i := 15)) (TgsP.cons (TgP.name (i := 16)) (TgsP.cons (TgP.name (i := 17)) (TgsP.cons (TgP.name (i := 18)) TgsP.nil)))) (tg_len4)))
    (@Ss.cons _ _ _ _ _ _ (S.set 19 sc_law.nd (E.not (E.and (E.chain op_le (ad_I0 fun _ _ _ => rel_bl) op_lt (ad_I0 fun _ _ _ => rel_bl) (E.v 15) (E.v 6) (E.v 17)) (E.one (E.chain op_le (ad_I0 fun _ _ _ => rel_bl) op_lt (ad_I0 fun _ _ _ => rel_bl) (E.v 16) (E.v 7) (E.v 18))))))
    (@Ss.one _ _ _ _ (@S.ifS _ _ _ _ _ _ _ _ _ (TW.t (TW.and (T.in E.str (E.v 11)) (TW.and (T.val (E.v 19)) (TW.and1 (T.ne hr (EO.toE (EO.comp (N' := ["_law_one", "_law_inner"]) (mp := [none, some 12]) rfl (CompSc.of' N_law (defScope s_law) rfl rfl (by decide +kernel)) (TgP.name (i := 0)) (by decide) (I.list (E.v 8)) (fun _ _ _ => ⟨(pg_name (i := 0) (show (["_law_one", "_law_inner"] : List Str).Nodup by decide +kernel) rfl (Or.inl rfl) (.inr rfl)), (Ts.one (T.in (E.v 0) (E.v 1))), (E.v 0)⟩))) (EO.toE (EO.lst A.nil))))))) (@Ss.one _ _ _ _ (S.ret E.bl)) Ss.nil))))))))))) (fun _ => rfl)))))))))) (fun _ => rfl))
    (@Ss.one _ _ _ _ (S.ret E.bl)))))))
noncomputable def F__law_cell : List PyData → Option PyData := runF 2 2 (g__law_cell )
theorem G__law_cell (tx : Tx K mg t) : FnOk Pr w K mg base CX0 1 t._law_cell t.d__law_cell ["_law_script", "_law_k"] (spP K F__law_cell) := ok__law_cell (k := 0) tx 
noncomputable def F__law_drawn : List PyData → Option PyData := runF 3 4 (g__law_drawn F__law_cell)
theorem G__law_drawn (tx : Tx K mg t) : FnOk Pr w K mg base CX0 2 t._law_drawn t.d__law_drawn ["_law_script", "_law_k", "_law_many"] (spP K F__law_drawn) := ok__law_drawn (k := 1) tx (G__law_cell tx) (by omega)
noncomputable def F__law_scene : List PyData → Option PyData := runF 2 13 (g__law_scene F__law_drawn)
theorem G__law_scene (tx : Tx K mg t) : FnOk Pr w K mg base CX0 3 t._law_scene t.d__law_scene ["_law_script", "_law_at"] (spP K F__law_scene) := ok__law_scene (k := 2) tx (G__law_drawn tx) (by omega)
noncomputable def F_box_of : List PyData → Option PyData := runF 2 3 (g_box_of )
theorem G_box_of (tx : Tx K mg t) : FnOk Pr w K mg base CX0 1 t.box_of t.d_box_of ["scene", "name"] (spP K F_box_of) := ok_box_of (k := 0) tx 
noncomputable def F_with_other : List PyData → Option PyData := runF 2 2 (g_with_other )
theorem G_with_other (tx : Tx K mg t) : FnOk Pr w K mg base CX0 1 t.with_other t.d_with_other ["scene", "other"] (spP K F_with_other) := ok_with_other (k := 0) tx 
noncomputable def F_put_at : List PyData → Option PyData := runF 4 5 (g_put_at F_box_of F_with_other)
theorem G_put_at (tx : Tx K mg t) : FnOk Pr w K mg base CX0 2 t.put_at t.d_put_at ["scene", "name", "left", "top"] (spP K F_put_at) := ok_put_at (k := 1) tx (G_box_of tx) (by omega) (G_with_other tx) (by omega)
noncomputable def F_children : List PyData → Option PyData := runF 2 2 (g_children )
theorem G_children (tx : Tx K mg t) : FnOk Pr w K mg base CX0 1 t.children t.d_children ["scene", "name"] (spP K F_children) := ok_children (k := 0) tx 
noncomputable def F_below : Nat → List PyData → Option PyData
  | 0 => fun _ => none
  | n + 1 => runF 2 4 (g_below F_box_of F_children (F_below n))
theorem G_below (tx : Tx K mg t) : ∀ n : Nat, FnOk Pr w K mg base CX0 (n + 1) t.below t.d_below ["scene", "name"] (spP K (F_below n))
  | 0 => fn0
  | n + 1 => (ok_below (k := n + 1) tx (G_box_of tx) (by omega) (G_children tx) (by omega) (G_below tx n) (by omega)).mono (by omega)
noncomputable def F_painted : List PyData → Option PyData := runF 1 3 (g_painted F_children (F_below 13))
theorem G_painted (tx : Tx K mg t) : FnOk Pr w K mg base CX0 15 t.painted t.d_painted ["scene"] (spP K F_painted) := ok_painted (k := 14) tx (G_children tx) (by omega) (G_below tx 13) (by omega)
noncomputable def F_path_of : Nat → List PyData → Option PyData
  | 0 => fun _ => none
  | n + 1 => runF 2 3 (g_path_of F_box_of (F_path_of n))
theorem G_path_of (tx : Tx K mg t) : ∀ n : Nat, FnOk Pr w K mg base CX0 (n + 1) t.path_of t.d_path_of ["scene", "name"] (spP K (F_path_of n))
  | 0 => fn0
  | n + 1 => (ok_path_of (k := n + 1) tx (G_box_of tx) (by omega) (G_path_of tx n) (by omega)).mono (by omega)
noncomputable def F_has_mark : List PyData → Option PyData := runF 3 3 (g_has_mark F_box_of)
theorem G_has_mark (tx : Tx K mg t) : FnOk Pr w K mg base CX0 2 t.has_mark t.d_has_mark ["scene", "name", "mark"] (spP K F_has_mark) := ok_has_mark (k := 1) tx (G_box_of tx) (by omega)
noncomputable def F_is_shown : List PyData → Option PyData := runF 2 2 (g_is_shown (F_path_of 13) F_has_mark)
theorem G_is_shown (tx : Tx K mg t) : FnOk Pr w K mg base CX0 15 t.is_shown t.d_is_shown ["scene", "name"] (spP K F_is_shown) := ok_is_shown (k := 14) tx (G_path_of tx 13) (by omega) (G_has_mark tx) (by omega)
noncomputable def F_area_of : List PyData → Option PyData := runF 2 6 (g_area_of (F_path_of 13) F_box_of)
theorem G_area_of (tx : Tx K mg t) : FnOk Pr w K mg base CX0 15 t.area_of t.d_area_of ["scene", "name"] (spP K F_area_of) := ok_area_of (k := 14) tx (G_path_of tx 13) (by omega) (G_box_of tx) (by omega)
noncomputable def F_overlap : List PyData → Option PyData := runF 2 4 (g_overlap )
theorem G_overlap (tx : Tx K mg t) : FnOk Pr w K mg base CX0 1 t.overlap t.d_overlap ["one", "other"] (spP K F_overlap) := ok_overlap (k := 0) tx 
noncomputable def F_window_of : List PyData → Option PyData := runF 2 4 (g_window_of F_area_of (F_path_of 13) F_has_mark F_overlap)
theorem G_window_of (tx : Tx K mg t) : FnOk Pr w K mg base CX0 16 t.window_of t.d_window_of ["scene", "name"] (spP K F_window_of) := ok_window_of (k := 15) tx (G_area_of tx) (by omega) (G_path_of tx 13) (by omega) (G_has_mark tx) (by omega) (G_overlap tx) (by omega)
noncomputable def F_takers : List PyData → Option PyData := runF 1 2 (g_takers F_painted F_is_shown F_has_mark F_window_of)
theorem G_takers (tx : Tx K mg t) : FnOk Pr w K mg base CX0 17 t.takers t.d_takers ["scene"] (spP K F_takers) := ok_takers (k := 16) tx (G_painted tx) (by omega) (G_is_shown tx) (by omega) (G_has_mark tx) (by omega) (G_window_of tx) (by omega)
noncomputable def F_has_point : List PyData → Option PyData := runF 3 3 (g_has_point )
theorem G_has_point (tx : Tx K mg t) : FnOk Pr w K mg base CX0 1 t.has_point t.d_has_point ["area", "x", "y"] (spP K F_has_point) := ok_has_point (k := 0) tx 
noncomputable def F_all_hits : List PyData → Option PyData := runF 3 3 (g_all_hits F_takers F_has_point)
theorem G_all_hits (tx : Tx K mg t) : FnOk Pr w K mg base CX0 18 t.all_hits t.d_all_hits ["scene", "x", "y"] (spP K F_all_hits) := ok_all_hits (k := 17) tx (G_takers tx) (by omega) (G_has_point tx) (by omega)
noncomputable def F_first_at : List PyData → Option PyData := runF 3 5 (g_first_at F_has_point)
theorem G_first_at (tx : Tx K mg t) : FnOk Pr w K mg base CX0 2 t.first_at t.d_first_at ["rows", "x", "y"] (spP K F_first_at) := ok_first_at (k := 1) tx (G_has_point tx) (by omega)
noncomputable def F_hit : List PyData → Option PyData := runF 3 3 (g_hit F_takers F_first_at)
theorem G_hit (tx : Tx K mg t) : FnOk Pr w K mg base CX0 18 t.hit t.d_hit ["scene", "x", "y"] (spP K F_hit) := ok_hit (k := 17) tx (G_takers tx) (by omega) (G_first_at tx) (by omega)
noncomputable def F_is_touched : List PyData → Option PyData := runF 4 4 (g_is_touched F_window_of F_has_point F_is_shown)
theorem G_is_touched (tx : Tx K mg t) : FnOk Pr w K mg base CX0 17 t.is_touched t.d_is_touched ["scene", "name", "x", "y"] (spP K F_is_touched) := ok_is_touched (k := 16) tx (G_window_of tx) (by omega) (G_has_point tx) (by omega) (G_is_shown tx) (by omega)
noncomputable def F_marked : List PyData → Option PyData := runF 3 4 (g_marked F_box_of F_with_other)
theorem G_marked (tx : Tx K mg t) : FnOk Pr w K mg base CX0 2 t.marked t.d_marked ["scene", "name", "marks"] (spP K F_marked) := ok_marked (k := 1) tx (G_box_of tx) (by omega) (G_with_other tx) (by omega)
noncomputable def F_cut : List PyData → Option PyData := runF 2 3 (g_cut (F_below 13))
theorem G_cut (tx : Tx K mg t) : FnOk Pr w K mg base CX0 15 t.cut t.d_cut ["scene", "name"] (spP K F_cut) := ok_cut (k := 14) tx (G_below tx 13) (by omega)
noncomputable def F_raised : List PyData → Option PyData := runF 2 3 (g_raised (F_below 13) F_cut)
theorem G_raised (tx : Tx K mg t) : FnOk Pr w K mg base CX0 16 t.raised t.d_raised ["scene", "name"] (spP K F_raised) := ok_raised (k := 15) tx (G_below tx 13) (by omega) (G_cut tx) (by omega)
noncomputable def F_law : List PyData → Option PyData := runF 1 20 (g_law F__law_scene F_put_at F_painted F__law_drawn F_all_hits F_hit F_box_of F_is_touched (F_below 13) F_marked F_cut (F_path_of 13) F_raised F_area_of)
theorem G_law (tx : Tx K mg t) : FnOk Pr w K mg base CX0 19 t.law t.d_law ["_law_script"] (spP K F_law) := ok_law (k := 18) tx (G__law_scene tx) (by omega) (G_put_at tx) (by omega) (G_painted tx) (by omega) (G__law_drawn tx) (by omega) (G_all_hits tx) (by omega) (G_hit tx) (by omega) (G_box_of tx) (by omega) (G_is_touched tx) (by omega) (G_below tx 13) (by omega) (G_marked tx) (by omega) (G_cut tx) (by omega) (G_path_of tx 13) (by omega) (G_raised tx) (by omega) (G_area_of tx) (by omega)
end
theorem all_mk {l : PySem.W.OpenLaw} {w : World} {K : PySem.W.Frag} {h : Heap} {mg : Str → Option Value} {fa : Addr} (X : K.In h) (G : h.Ns mainGlobals mg) (hfa : mg "law" = some (.ref fa))
    {f__law_cell : Addr} {od__law_cell an__law_cell : Option Addr} {sl__law_cell : Array (Option Value)} {oc__law_cell kV__law_cell dc__law_cell pm__law_cell cd__law_cell ct__law_cell : Value}
    {f__law_drawn : Addr} {od__law_drawn an__law_drawn : Option Addr} {sl__law_drawn : Array (Option Value)} {oc__law_drawn kV__law_drawn dc__law_drawn pm__law_drawn cd__law_drawn ct__law_drawn : Value}
    {f__law_scene : Addr} {od__law_scene an__law_scene : Option Addr} {sl__law_scene : Array (Option Value)} {oc__law_scene kV__law_scene dc__law_scene pm__law_scene cd__law_scene ct__law_scene : Value}
    {f_box_of : Addr} {od_box_of an_box_of : Option Addr} {sl_box_of : Array (Option Value)} {oc_box_of kV_box_of dc_box_of pm_box_of cd_box_of ct_box_of : Value}
    {f_with_other : Addr} {od_with_other an_with_other : Option Addr} {sl_with_other : Array (Option Value)} {oc_with_other kV_with_other dc_with_other pm_with_other cd_with_other ct_with_other : Value}
    {f_put_at : Addr} {od_put_at an_put_at : Option Addr} {sl_put_at : Array (Option Value)} {oc_put_at kV_put_at dc_put_at pm_put_at cd_put_at ct_put_at : Value}
    {f_children : Addr} {od_children an_children : Option Addr} {sl_children : Array (Option Value)} {oc_children kV_children dc_children pm_children cd_children ct_children : Value}
    {f_below : Addr} {od_below an_below : Option Addr} {sl_below : Array (Option Value)} {oc_below kV_below dc_below pm_below cd_below ct_below : Value}
    {f_painted : Addr} {od_painted an_painted : Option Addr} {sl_painted : Array (Option Value)} {oc_painted kV_painted dc_painted pm_painted cd_painted ct_painted : Value}
    {f_path_of : Addr} {od_path_of an_path_of : Option Addr} {sl_path_of : Array (Option Value)} {oc_path_of kV_path_of dc_path_of pm_path_of cd_path_of ct_path_of : Value}
    {f_has_mark : Addr} {od_has_mark an_has_mark : Option Addr} {sl_has_mark : Array (Option Value)} {oc_has_mark kV_has_mark dc_has_mark pm_has_mark cd_has_mark ct_has_mark : Value}
    {f_is_shown : Addr} {od_is_shown an_is_shown : Option Addr} {sl_is_shown : Array (Option Value)} {oc_is_shown kV_is_shown dc_is_shown pm_is_shown cd_is_shown ct_is_shown : Value}
    {f_area_of : Addr} {od_area_of an_area_of : Option Addr} {sl_area_of : Array (Option Value)} {oc_area_of kV_area_of dc_area_of pm_area_of cd_area_of ct_area_of : Value}
    {f_overlap : Addr} {od_overlap an_overlap : Option Addr} {sl_overlap : Array (Option Value)} {oc_overlap kV_overlap dc_overlap pm_overlap cd_overlap ct_overlap : Value}
    {f_window_of : Addr} {od_window_of an_window_of : Option Addr} {sl_window_of : Array (Option Value)} {oc_window_of kV_window_of dc_window_of pm_window_of cd_window_of ct_window_of : Value}
    {f_takers : Addr} {od_takers an_takers : Option Addr} {sl_takers : Array (Option Value)} {oc_takers kV_takers dc_takers pm_takers cd_takers ct_takers : Value}
    {f_has_point : Addr} {od_has_point an_has_point : Option Addr} {sl_has_point : Array (Option Value)} {oc_has_point kV_has_point dc_has_point pm_has_point cd_has_point ct_has_point : Value}
    {f_all_hits : Addr} {od_all_hits an_all_hits : Option Addr} {sl_all_hits : Array (Option Value)} {oc_all_hits kV_all_hits dc_all_hits pm_all_hits cd_all_hits ct_all_hits : Value}
    {f_first_at : Addr} {od_first_at an_first_at : Option Addr} {sl_first_at : Array (Option Value)} {oc_first_at kV_first_at dc_first_at pm_first_at cd_first_at ct_first_at : Value}
    {f_hit : Addr} {od_hit an_hit : Option Addr} {sl_hit : Array (Option Value)} {oc_hit kV_hit dc_hit pm_hit cd_hit ct_hit : Value}
    {f_is_touched : Addr} {od_is_touched an_is_touched : Option Addr} {sl_is_touched : Array (Option Value)} {oc_is_touched kV_is_touched dc_is_touched pm_is_touched cd_is_touched ct_is_touched : Value}
    {f_marked : Addr} {od_marked an_marked : Option Addr} {sl_marked : Array (Option Value)} {oc_marked kV_marked dc_marked pm_marked cd_marked ct_marked : Value}
    {f_cut : Addr} {od_cut an_cut : Option Addr} {sl_cut : Array (Option Value)} {oc_cut kV_cut dc_cut pm_cut cd_cut ct_cut : Value}
    {f_raised : Addr} {od_raised an_raised : Option Addr} {sl_raised : Array (Option Value)} {oc_raised kV_raised dc_raised pm_raised cd_raised ct_raised : Value}
    {f_law : Addr} {od_law an_law : Option Addr} {sl_law : Array (Option Value)} {oc_law kV_law dc_law pm_law cd_law ct_law : Value}
    {t_AROUND : Tok}
    {t_CUTS_OFF : Tok}
    {t_HEIGHT : Tok}
    {t_HIDDEN : Tok}
    {t_LEFT : Tok}
    {t_LETS_BY : Tok}
    {t_MARKS : Tok}
    {t_NAME : Tok}
    {t_TOP : Tok}
    {t_WIDTH : Tok}
    (a__law_cell : PySem.W.nsIn K mainGlobals "_law_cell" = some (some (.ref f__law_cell))) (l__law_cell : K.lookup f__law_cell = some ⟨oc__law_cell, od__law_cell, .func (PySem.W.fnOf "_law_cell" "_law_cell" (defArgs s__law_cell) (defBody s__law_cell) (defScope s__law_cell) .none kV__law_cell dc__law_cell pm__law_cell an__law_cell cd__law_cell ct__law_cell), sl__law_cell⟩) (c__law_cell : PySem.W.codeIn K cd__law_cell "_law_cell" = true) (k__law_cell : PySem.W.keepIn K (.ref f__law_cell) = true)
    (a__law_drawn : PySem.W.nsIn K mainGlobals "_law_drawn" = some (some (.ref f__law_drawn))) (l__law_drawn : K.lookup f__law_drawn = some ⟨oc__law_drawn, od__law_drawn, .func (PySem.W.fnOf "_law_drawn" "_law_drawn" (defArgs s__law_drawn) (defBody s__law_drawn) (defScope s__law_drawn) .none kV__law_drawn dc__law_drawn pm__law_drawn an__law_drawn cd__law_drawn ct__law_drawn), sl__law_drawn⟩) (c__law_drawn : PySem.W.codeIn K cd__law_drawn "_law_drawn" = true) (k__law_drawn : PySem.W.keepIn K (.ref f__law_drawn) = true)
    (a__law_scene : PySem.W.nsIn K mainGlobals "_law_scene" = some (some (.ref f__law_scene))) (l__law_scene : K.lookup f__law_scene = some ⟨oc__law_scene, od__law_scene, .func (PySem.W.fnOf "_law_scene" "_law_scene" (defArgs s__law_scene) (defBody s__law_scene) (defScope s__law_scene) .none kV__law_scene dc__law_scene pm__law_scene an__law_scene cd__law_scene ct__law_scene), sl__law_scene⟩) (c__law_scene : PySem.W.codeIn K cd__law_scene "_law_scene" = true) (k__law_scene : PySem.W.keepIn K (.ref f__law_scene) = true)
    (a_box_of : PySem.W.nsIn K mainGlobals "box_of" = some (some (.ref f_box_of))) (l_box_of : K.lookup f_box_of = some ⟨oc_box_of, od_box_of, .func (PySem.W.fnOf "box_of" "box_of" (defArgs s_box_of) (defBody s_box_of) (defScope s_box_of) .none kV_box_of dc_box_of pm_box_of an_box_of cd_box_of ct_box_of), sl_box_of⟩) (c_box_of : PySem.W.codeIn K cd_box_of "box_of" = true) (k_box_of : PySem.W.keepIn K (.ref f_box_of) = true)
    (a_with_other : PySem.W.nsIn K mainGlobals "with_other" = some (some (.ref f_with_other))) (l_with_other : K.lookup f_with_other = some ⟨oc_with_other, od_with_other, .func (PySem.W.fnOf "with_other" "with_other" (defArgs s_with_other) (defBody s_with_other) (defScope s_with_other) .none kV_with_other dc_with_other pm_with_other an_with_other cd_with_other ct_with_other), sl_with_other⟩) (c_with_other : PySem.W.codeIn K cd_with_other "with_other" = true) (k_with_other : PySem.W.keepIn K (.ref f_with_other) = true)
    (a_put_at : PySem.W.nsIn K mainGlobals "put_at" = some (some (.ref f_put_at))) (l_put_at : K.lookup f_put_at = some ⟨oc_put_at, od_put_at, .func (PySem.W.fnOf "put_at" "put_at" (defArgs s_put_at) (defBody s_put_at) (defScope s_put_at) .none kV_put_at dc_put_at pm_put_at an_put_at cd_put_at ct_put_at), sl_put_at⟩) (c_put_at : PySem.W.codeIn K cd_put_at "put_at" = true) (k_put_at : PySem.W.keepIn K (.ref f_put_at) = true)
    (a_children : PySem.W.nsIn K mainGlobals "children" = some (some (.ref f_children))) (l_children : K.lookup f_children = some ⟨oc_children, od_children, .func (PySem.W.fnOf "children" "children" (defArgs s_children) (defBody s_children) (defScope s_children) .none kV_children dc_children pm_children an_children cd_children ct_children), sl_children⟩) (c_children : PySem.W.codeIn K cd_children "children" = true) (k_children : PySem.W.keepIn K (.ref f_children) = true)
    (a_below : PySem.W.nsIn K mainGlobals "below" = some (some (.ref f_below))) (l_below : K.lookup f_below = some ⟨oc_below, od_below, .func (PySem.W.fnOf "below" "below" (defArgs s_below) (defBody s_below) (defScope s_below) .none kV_below dc_below pm_below an_below cd_below ct_below), sl_below⟩) (c_below : PySem.W.codeIn K cd_below "below" = true) (k_below : PySem.W.keepIn K (.ref f_below) = true)
    (a_painted : PySem.W.nsIn K mainGlobals "painted" = some (some (.ref f_painted))) (l_painted : K.lookup f_painted = some ⟨oc_painted, od_painted, .func (PySem.W.fnOf "painted" "painted" (defArgs s_painted) (defBody s_painted) (defScope s_painted) .none kV_painted dc_painted pm_painted an_painted cd_painted ct_painted), sl_painted⟩) (c_painted : PySem.W.codeIn K cd_painted "painted" = true) (k_painted : PySem.W.keepIn K (.ref f_painted) = true)
    (a_path_of : PySem.W.nsIn K mainGlobals "path_of" = some (some (.ref f_path_of))) (l_path_of : K.lookup f_path_of = some ⟨oc_path_of, od_path_of, .func (PySem.W.fnOf "path_of" "path_of" (defArgs s_path_of) (defBody s_path_of) (defScope s_path_of) .none kV_path_of dc_path_of pm_path_of an_path_of cd_path_of ct_path_of), sl_path_of⟩) (c_path_of : PySem.W.codeIn K cd_path_of "path_of" = true) (k_path_of : PySem.W.keepIn K (.ref f_path_of) = true)
    (a_has_mark : PySem.W.nsIn K mainGlobals "has_mark" = some (some (.ref f_has_mark))) (l_has_mark : K.lookup f_has_mark = some ⟨oc_has_mark, od_has_mark, .func (PySem.W.fnOf "has_mark" "has_mark" (defArgs s_has_mark) (defBody s_has_mark) (defScope s_has_mark) .none kV_has_mark dc_has_mark pm_has_mark an_has_mark cd_has_mark ct_has_mark), sl_has_mark⟩) (c_has_mark : PySem.W.codeIn K cd_has_mark "has_mark" = true) (k_has_mark : PySem.W.keepIn K (.ref f_has_mark) = true)
    (a_is_shown : PySem.W.nsIn K mainGlobals "is_shown" = some (some (.ref f_is_shown))) (l_is_shown : K.lookup f_is_shown = some ⟨oc_is_shown, od_is_shown, .func (PySem.W.fnOf "is_shown" "is_shown" (defArgs s_is_shown) (defBody s_is_shown) (defScope s_is_shown) .none kV_is_shown dc_is_shown pm_is_shown an_is_shown cd_is_shown ct_is_shown), sl_is_shown⟩) (c_is_shown : PySem.W.codeIn K cd_is_shown "is_shown" = true) (k_is_shown : PySem.W.keepIn K (.ref f_is_shown) = true)
    (a_area_of : PySem.W.nsIn K mainGlobals "area_of" = some (some (.ref f_area_of))) (l_area_of : K.lookup f_area_of = some ⟨oc_area_of, od_area_of, .func (PySem.W.fnOf "area_of" "area_of" (defArgs s_area_of) (defBody s_area_of) (defScope s_area_of) .none kV_area_of dc_area_of pm_area_of an_area_of cd_area_of ct_area_of), sl_area_of⟩) (c_area_of : PySem.W.codeIn K cd_area_of "area_of" = true) (k_area_of : PySem.W.keepIn K (.ref f_area_of) = true)
    (a_overlap : PySem.W.nsIn K mainGlobals "overlap" = some (some (.ref f_overlap))) (l_overlap : K.lookup f_overlap = some ⟨oc_overlap, od_overlap, .func (PySem.W.fnOf "overlap" "overlap" (defArgs s_overlap) (defBody s_overlap) (defScope s_overlap) .none kV_overlap dc_overlap pm_overlap an_overlap cd_overlap ct_overlap), sl_overlap⟩) (c_overlap : PySem.W.codeIn K cd_overlap "overlap" = true) (k_overlap : PySem.W.keepIn K (.ref f_overlap) = true)
    (a_window_of : PySem.W.nsIn K mainGlobals "window_of" = some (some (.ref f_window_of))) (l_window_of : K.lookup f_window_of = some ⟨oc_window_of, od_window_of, .func (PySem.W.fnOf "window_of" "window_of" (defArgs s_window_of) (defBody s_window_of) (defScope s_window_of) .none kV_window_of dc_window_of pm_window_of an_window_of cd_window_of ct_window_of), sl_window_of⟩) (c_window_of : PySem.W.codeIn K cd_window_of "window_of" = true) (k_window_of : PySem.W.keepIn K (.ref f_window_of) = true)
    (a_takers : PySem.W.nsIn K mainGlobals "takers" = some (some (.ref f_takers))) (l_takers : K.lookup f_takers = some ⟨oc_takers, od_takers, .func (PySem.W.fnOf "takers" "takers" (defArgs s_takers) (defBody s_takers) (defScope s_takers) .none kV_takers dc_takers pm_takers an_takers cd_takers ct_takers), sl_takers⟩) (c_takers : PySem.W.codeIn K cd_takers "takers" = true) (k_takers : PySem.W.keepIn K (.ref f_takers) = true)
    (a_has_point : PySem.W.nsIn K mainGlobals "has_point" = some (some (.ref f_has_point))) (l_has_point : K.lookup f_has_point = some ⟨oc_has_point, od_has_point, .func (PySem.W.fnOf "has_point" "has_point" (defArgs s_has_point) (defBody s_has_point) (defScope s_has_point) .none kV_has_point dc_has_point pm_has_point an_has_point cd_has_point ct_has_point), sl_has_point⟩) (c_has_point : PySem.W.codeIn K cd_has_point "has_point" = true) (k_has_point : PySem.W.keepIn K (.ref f_has_point) = true)
    (a_all_hits : PySem.W.nsIn K mainGlobals "all_hits" = some (some (.ref f_all_hits))) (l_all_hits : K.lookup f_all_hits = some ⟨oc_all_hits, od_all_hits, .func (PySem.W.fnOf "all_hits" "all_hits" (defArgs s_all_hits) (defBody s_all_hits) (defScope s_all_hits) .none kV_all_hits dc_all_hits pm_all_hits an_all_hits cd_all_hits ct_all_hits), sl_all_hits⟩) (c_all_hits : PySem.W.codeIn K cd_all_hits "all_hits" = true) (k_all_hits : PySem.W.keepIn K (.ref f_all_hits) = true)
    (a_first_at : PySem.W.nsIn K mainGlobals "first_at" = some (some (.ref f_first_at))) (l_first_at : K.lookup f_first_at = some ⟨oc_first_at, od_first_at, .func (PySem.W.fnOf "first_at" "first_at" (defArgs s_first_at) (defBody s_first_at) (defScope s_first_at) .none kV_first_at dc_first_at pm_first_at an_first_at cd_first_at ct_first_at), sl_first_at⟩) (c_first_at : PySem.W.codeIn K cd_first_at "first_at" = true) (k_first_at : PySem.W.keepIn K (.ref f_first_at) = true)
    (a_hit : PySem.W.nsIn K mainGlobals "hit" = some (some (.ref f_hit))) (l_hit : K.lookup f_hit = some ⟨oc_hit, od_hit, .func (PySem.W.fnOf "hit" "hit" (defArgs s_hit) (defBody s_hit) (defScope s_hit) .none kV_hit dc_hit pm_hit an_hit cd_hit ct_hit), sl_hit⟩) (c_hit : PySem.W.codeIn K cd_hit "hit" = true) (k_hit : PySem.W.keepIn K (.ref f_hit) = true)
    (a_is_touched : PySem.W.nsIn K mainGlobals "is_touched" = some (some (.ref f_is_touched))) (l_is_touched : K.lookup f_is_touched = some ⟨oc_is_touched, od_is_touched, .func (PySem.W.fnOf "is_touched" "is_touched" (defArgs s_is_touched) (defBody s_is_touched) (defScope s_is_touched) .none kV_is_touched dc_is_touched pm_is_touched an_is_touched cd_is_touched ct_is_touched), sl_is_touched⟩) (c_is_touched : PySem.W.codeIn K cd_is_touched "is_touched" = true) (k_is_touched : PySem.W.keepIn K (.ref f_is_touched) = true)
    (a_marked : PySem.W.nsIn K mainGlobals "marked" = some (some (.ref f_marked))) (l_marked : K.lookup f_marked = some ⟨oc_marked, od_marked, .func (PySem.W.fnOf "marked" "marked" (defArgs s_marked) (defBody s_marked) (defScope s_marked) .none kV_marked dc_marked pm_marked an_marked cd_marked ct_marked), sl_marked⟩) (c_marked : PySem.W.codeIn K cd_marked "marked" = true) (k_marked : PySem.W.keepIn K (.ref f_marked) = true)
    (a_cut : PySem.W.nsIn K mainGlobals "cut" = some (some (.ref f_cut))) (l_cut : K.lookup f_cut = some ⟨oc_cut, od_cut, .func (PySem.W.fnOf "cut" "cut" (defArgs s_cut) (defBody s_cut) (defScope s_cut) .none kV_cut dc_cut pm_cut an_cut cd_cut ct_cut), sl_cut⟩) (c_cut : PySem.W.codeIn K cd_cut "cut" = true) (k_cut : PySem.W.keepIn K (.ref f_cut) = true)
    (a_raised : PySem.W.nsIn K mainGlobals "raised" = some (some (.ref f_raised))) (l_raised : K.lookup f_raised = some ⟨oc_raised, od_raised, .func (PySem.W.fnOf "raised" "raised" (defArgs s_raised) (defBody s_raised) (defScope s_raised) .none kV_raised dc_raised pm_raised an_raised cd_raised ct_raised), sl_raised⟩) (c_raised : PySem.W.codeIn K cd_raised "raised" = true) (k_raised : PySem.W.keepIn K (.ref f_raised) = true)
    (a_law : PySem.W.nsIn K mainGlobals "law" = some (some (.ref f_law))) (l_law : K.lookup f_law = some ⟨oc_law, od_law, .func (PySem.W.fnOf "law" "law" (defArgs s_law) (defBody s_law) (defScope s_law) .none kV_law dc_law pm_law an_law cd_law ct_law), sl_law⟩) (c_law : PySem.W.codeIn K cd_law "law" = true) (k_law : PySem.W.keepIn K (.ref f_law) = true)
    (c_AROUND : PySem.W.nsIn K mainGlobals "AROUND" = some (some (.int (1) t_AROUND)))
    (c_CUTS_OFF : PySem.W.nsIn K mainGlobals "CUTS_OFF" = some (some (.str "c" t_CUTS_OFF)))
    (c_HEIGHT : PySem.W.nsIn K mainGlobals "HEIGHT" = some (some (.int (5) t_HEIGHT)))
    (c_HIDDEN : PySem.W.nsIn K mainGlobals "HIDDEN" = some (some (.str "h" t_HIDDEN)))
    (c_LEFT : PySem.W.nsIn K mainGlobals "LEFT" = some (some (.int (2) t_LEFT)))
    (c_LETS_BY : PySem.W.nsIn K mainGlobals "LETS_BY" = some (some (.str "l" t_LETS_BY)))
    (c_MARKS : PySem.W.nsIn K mainGlobals "MARKS" = some (some (.int (6) t_MARKS)))
    (c_NAME : PySem.W.nsIn K mainGlobals "NAME" = some (some (.int (0) t_NAME)))
    (c_TOP : PySem.W.nsIn K mainGlobals "TOP" = some (some (.int (3) t_TOP)))
    (c_WIDTH : PySem.W.nsIn K mainGlobals "WIDTH" = some (some (.int (4) t_WIDTH)))
    (z_any : PySem.W.nsIn K mainGlobals "any" = some none)
    (z_enumerate : PySem.W.nsIn K mainGlobals "enumerate" = some none)
    (z_len : PySem.W.nsIn K mainGlobals "len" = some none)
    (z_max : PySem.W.nsIn K mainGlobals "max" = some none)
    (z_min : PySem.W.nsIn K mainGlobals "min" = some none)
    (z_range : PySem.W.nsIn K mainGlobals "range" = some none)
    (z_reversed : PySem.W.nsIn K mainGlobals "reversed" = some none)
    (z_set : PySem.W.nsIn K mainGlobals "set" = some none)
    (z_sorted : PySem.W.nsIn K mainGlobals "sorted" = some none)
    (z_sum : PySem.W.nsIn K mainGlobals "sum" = some none)
    (z_tuple : PySem.W.nsIn K mainGlobals "tuple" = some none)
    : ∃ fd : FuncData, (∀ (s : Shared) (v : Value), BindsTo s fd ⟨[v], []⟩ [("_law_script", v)]) ∧ ∀ base : Heap, K.In base → base.Ns mainGlobals mg → FnOk l.prog w K mg base CX0 19 fa fd ["_law_script"] (spP K F_law) := by
  have e := hfa.symm.trans (PySem.W.mg_of X G a_law)
  cases e
  have F__law_cell := fun_mk (st := s__law_cell) l__law_cell c__law_cell k__law_cell
  have F__law_drawn := fun_mk (st := s__law_drawn) l__law_drawn c__law_drawn k__law_drawn
  have F__law_scene := fun_mk (st := s__law_scene) l__law_scene c__law_scene k__law_scene
  have F_box_of := fun_mk (st := s_box_of) l_box_of c_box_of k_box_of
  have F_with_other := fun_mk (st := s_with_other) l_with_other c_with_other k_with_other
  have F_put_at := fun_mk (st := s_put_at) l_put_at c_put_at k_put_at
  have F_children := fun_mk (st := s_children) l_children c_children k_children
  have F_below := fun_mk (st := s_below) l_below c_below k_below
  have F_painted := fun_mk (st := s_painted) l_painted c_painted k_painted
  have F_path_of := fun_mk (st := s_path_of) l_path_of c_path_of k_path_of
  have F_has_mark := fun_mk (st := s_has_mark) l_has_mark c_has_mark k_has_mark
  have F_is_shown := fun_mk (st := s_is_shown) l_is_shown c_is_shown k_is_shown
  have F_area_of := fun_mk (st := s_area_of) l_area_of c_area_of k_area_of
  have F_overlap := fun_mk (st := s_overlap) l_overlap c_overlap k_overlap
  have F_window_of := fun_mk (st := s_window_of) l_window_of c_window_of k_window_of
  have F_takers := fun_mk (st := s_takers) l_takers c_takers k_takers
  have F_has_point := fun_mk (st := s_has_point) l_has_point c_has_point k_has_point
  have F_all_hits := fun_mk (st := s_all_hits) l_all_hits c_all_hits k_all_hits
  have F_first_at := fun_mk (st := s_first_at) l_first_at c_first_at k_first_at
  have F_hit := fun_mk (st := s_hit) l_hit c_hit k_hit
  have F_is_touched := fun_mk (st := s_is_touched) l_is_touched c_is_touched k_is_touched
  have F_marked := fun_mk (st := s_marked) l_marked c_marked k_marked
  have F_cut := fun_mk (st := s_cut) l_cut c_cut k_cut
  have F_raised := fun_mk (st := s_raised) l_raised c_raised k_raised
  have F_law := fun_mk (st := s_law) l_law c_law k_law
  have b__law_cell := F__law_cell.binds (ps := ["_law_script", "_law_k"]) fun _ _ _ _ _ _ us hl => match us, hl with | [_, _], _ => rfl
  have b__law_drawn := F__law_drawn.binds (ps := ["_law_script", "_law_k", "_law_many"]) fun _ _ _ _ _ _ us hl => match us, hl with | [_, _, _], _ => rfl
  have b__law_scene := F__law_scene.binds (ps := ["_law_script", "_law_at"]) fun _ _ _ _ _ _ us hl => match us, hl with | [_, _], _ => rfl
  have b_box_of := F_box_of.binds (ps := ["scene", "name"]) fun _ _ _ _ _ _ us hl => match us, hl with | [_, _], _ => rfl
  have b_with_other := F_with_other.binds (ps := ["scene", "other"]) fun _ _ _ _ _ _ us hl => match us, hl with | [_, _], _ => rfl
  have b_put_at := F_put_at.binds (ps := ["scene", "name", "left", "top"]) fun _ _ _ _ _ _ us hl => match us, hl with | [_, _, _, _], _ => rfl
  have b_children := F_children.binds (ps := ["scene", "name"]) fun _ _ _ _ _ _ us hl => match us, hl with | [_, _], _ => rfl
  have b_below := F_below.binds (ps := ["scene", "name"]) fun _ _ _ _ _ _ us hl => match us, hl with | [_, _], _ => rfl
  have b_painted := F_painted.binds (ps := ["scene"]) fun _ _ _ _ _ _ us hl => match us, hl with | [_], _ => rfl
  have b_path_of := F_path_of.binds (ps := ["scene", "name"]) fun _ _ _ _ _ _ us hl => match us, hl with | [_, _], _ => rfl
  have b_has_mark := F_has_mark.binds (ps := ["scene", "name", "mark"]) fun _ _ _ _ _ _ us hl => match us, hl with | [_, _, _], _ => rfl
  have b_is_shown := F_is_shown.binds (ps := ["scene", "name"]) fun _ _ _ _ _ _ us hl => match us, hl with | [_, _], _ => rfl
  have b_area_of := F_area_of.binds (ps := ["scene", "name"]) fun _ _ _ _ _ _ us hl => match us, hl with | [_, _], _ => rfl
  have b_overlap := F_overlap.binds (ps := ["one", "other"]) fun _ _ _ _ _ _ us hl => match us, hl with | [_, _], _ => rfl
  have b_window_of := F_window_of.binds (ps := ["scene", "name"]) fun _ _ _ _ _ _ us hl => match us, hl with | [_, _], _ => rfl
  have b_takers := F_takers.binds (ps := ["scene"]) fun _ _ _ _ _ _ us hl => match us, hl with | [_], _ => rfl
  have b_has_point := F_has_point.binds (ps := ["area", "x", "y"]) fun _ _ _ _ _ _ us hl => match us, hl with | [_, _, _], _ => rfl
  have b_all_hits := F_all_hits.binds (ps := ["scene", "x", "y"]) fun _ _ _ _ _ _ us hl => match us, hl with | [_, _, _], _ => rfl
  have b_first_at := F_first_at.binds (ps := ["rows", "x", "y"]) fun _ _ _ _ _ _ us hl => match us, hl with | [_, _, _], _ => rfl
  have b_hit := F_hit.binds (ps := ["scene", "x", "y"]) fun _ _ _ _ _ _ us hl => match us, hl with | [_, _, _], _ => rfl
  have b_is_touched := F_is_touched.binds (ps := ["scene", "name", "x", "y"]) fun _ _ _ _ _ _ us hl => match us, hl with | [_, _, _, _], _ => rfl
  have b_marked := F_marked.binds (ps := ["scene", "name", "marks"]) fun _ _ _ _ _ _ us hl => match us, hl with | [_, _, _], _ => rfl
  have b_cut := F_cut.binds (ps := ["scene", "name"]) fun _ _ _ _ _ _ us hl => match us, hl with | [_, _], _ => rfl
  have b_raised := F_raised.binds (ps := ["scene", "name"]) fun _ _ _ _ _ _ us hl => match us, hl with | [_, _], _ => rfl
  have b_law := F_law.binds (ps := ["_law_script"]) fun _ _ _ _ _ _ us hl => match us, hl with | [_], _ => rfl
  have tx : Tx K mg ⟨_, _, _, _, _, _, _, _, _, _, _, _, _, _, _, _, _, _, _, _, _, _, _, _, _, _, _, _, _, _, _, _, _, _, _, _, _, _, _, _, _, _, _, _, _, _, _, _, _, _, t_AROUND, t_CUTS_OFF, t_HEIGHT, t_HIDDEN, t_LEFT, t_LETS_BY, t_MARKS, t_NAME, t_TOP, t_WIDTH⟩ := ⟨F__law_cell, PySem.W.mg_of X G a__law_cell, b__law_cell, F__law_drawn, PySem.W.mg_of X G a__law_drawn, b__law_drawn, F__law_scene, PySem.W.mg_of X G a__law_scene, b__law_scene, F_box_of, PySem.W.mg_of X G a_box_of, b_box_of, F_with_other, PySem.W.mg_of X G a_with_other, b_with_other, F_put_at, PySem.W.mg_of X G a_put_at, b_put_at, F_children, PySem.W.mg_of X G a_children, b_children, F_below, PySem.W.mg_of X G a_below, b_below, F_painted, PySem.W.mg_of X G a_painted, b_painted, F_path_of, PySem.W.mg_of X G a_path_of, b_path_of, F_has_mark, PySem.W.mg_of X G a_has_mark, b_has_mark, F_is_shown, PySem.W.mg_of X G a_is_shown, b_is_shown, F_area_of, PySem.W.mg_of X G a_area_of, b_area_of, F_overlap, PySem.W.mg_of X G a_overlap, b_overlap, F_window_of, PySem.W.mg_of X G a_window_of, b_window_of, F_takers, PySem.W.mg_of X G a_takers, b_takers, F_has_point, PySem.W.mg_of X G a_has_point, b_has_point, F_all_hits, PySem.W.mg_of X G a_all_hits, b_all_hits, F_first_at, PySem.W.mg_of X G a_first_at, b_first_at, F_hit, PySem.W.mg_of X G a_hit, b_hit, F_is_touched, PySem.W.mg_of X G a_is_touched, b_is_touched, F_marked, PySem.W.mg_of X G a_marked, b_marked, F_cut, PySem.W.mg_of X G a_cut, b_cut, F_raised, PySem.W.mg_of X G a_raised, b_raised, F_law, PySem.W.mg_of X G a_law, b_law, PySem.W.mg_of X G c_AROUND, PySem.W.mg_of X G c_CUTS_OFF, PySem.W.mg_of X G c_HEIGHT, PySem.W.mg_of X G c_HIDDEN, PySem.W.mg_of X G c_LEFT, PySem.W.mg_of X G c_LETS_BY, PySem.W.mg_of X G c_MARKS, PySem.W.mg_of X G c_NAME, PySem.W.mg_of X G c_TOP, PySem.W.mg_of X G c_WIDTH, PySem.W.mg_none_of X G z_any, PySem.W.mg_none_of X G z_enumerate, PySem.W.mg_none_of X G z_len, PySem.W.mg_none_of X G z_max, PySem.W.mg_none_of X G z_min, PySem.W.mg_none_of X G z_range, PySem.W.mg_none_of X G z_reversed, PySem.W.mg_none_of X G z_set, PySem.W.mg_none_of X G z_sorted, PySem.W.mg_none_of X G z_sum, PySem.W.mg_none_of X G z_tuple⟩
  exact ⟨_, fun s v => .of_eq rfl, fun base _ _ => G_law tx⟩
theorem walk (main : ∀ ns : List Int, ns.length ≤ 63 → F_law [.list (ns.map PyData.int)] = some (.bool true)) {l : PySem.W.OpenLaw} {q : Program} {loose : List Str} {XP : (Str → Option Value) → Heap → Prop} {YP : World → Heap → Prop} {d : DefRec} {K : Params → PySem.W.Frag} (hn : l.most = some 63) (hdf : d.params.defaults = [])
    (hY : ∀ (w : World) (h : Heap), YP w h → (K w.params).In h)
    (F : ∀ (w : World) (mg : Str → Option Value) (fa : Addr) (h : Heap), (K w.params).In h → h.Ns mainGlobals mg → mg d.name = some (.ref fa) →
      ∃ fd : FuncData, (∀ (s : Shared) (u : Value), BindsTo s fd ⟨[u], []⟩ [("_law_script", u)]) ∧ ∀ base : Heap, (K w.params).In base → base.Ns mainGlobals mg → FnOk l.prog w (K w.params) mg base CX0 19 fa fd ["_law_script"] (spP (K w.params) F_law)) :
    PySem.W.WalkO q loose XP YP l.row.toRowW d [] (fun f vs => PySem.call f vs) :=
  L2.walk_of (n := 63) (k := 19) (x := "_law_script") (CX := fun _ => CX0) (sp := fun w => spP (K w.params) F_law) hn (by decide) hdf ⟨rfl, by decide, by decide⟩ hY F
    (fun _ H a ns hl _ hS => ⟨H, [.list (ns.map PyData.int)], .bool true, .refl _, .cons (rel_lst hS (RelL.ints ns)) .nil, main ns hl, fun _ _ _ _ r => r.bl⟩) fun _ _ _ _ _ z => z
end K07
namespace K07
noncomputable def chN (st : List (Nat × Nat)) (q : Nat) : List Nat := (st.filter fun x => decide (x.2 = q)).map (·.1)
noncomputable def parN : List (Nat × Nat) → Nat → Option Nat
  | [], _ => none
  | x :: r, q => if x.1 = q then some x.2 else parN r q
noncomputable def catN (f : Nat → Option (List Nat)) : List Nat → Option (List Nat)
  | [] => some []
  | x :: r => (f x).bind fun a => (catN f r).bind fun b => some (a ++ b)
noncomputable def pthN (st : List (Nat × Nat)) : Nat → Nat → Option (List Nat)
  | 0, _ => none
  | n + 1, q => (parN st q).bind fun p => if p = 0 then some [q] else (pthN st n p).bind fun l => if l.length + 1 ≤ 3000000 then some (l ++ [q]) else none
noncomputable def blwN (st : List (Nat × Nat)) : Nat → Nat → Option (List Nat)
  | 0, _ => none
  | n + 1, q => (parN st q).bind fun _ => (catN (blwN st n) (chN st q)).bind fun r => if r.length + 1 ≤ 3000000 then some (q :: r) else none
noncomputable def pntN (st : List (Nat × Nat)) : Option (List Nat) := (catN (blwN st 13) (chN st 0)).bind fun r => if r.length ≤ 3000000 then some r else none
noncomputable def stF (ps : List Nat) : List (Nat × Nat) := (List.range ps.length).map fun i => (i + 1, ps.getD i 0)
noncomputable def par (ps : List Nat) (q : Nat) : Nat := ps.getD (q - 1) 0
structure PsOk (ps : List Nat) : Prop where
  len : ps.length ≤ 7
  par : ∀ i, ps.getD i 0 ≤ i
noncomputable def pF (ps : List Nat) : Nat → Nat → List Nat
  | 0, _ => []
  | n + 1, q => if q = 0 then [] else pF ps n (par ps q) ++ [q]
noncomputable def P (ps : List Nat) (q : Nat) : List Nat := pF ps q q
noncomputable def blF (st : List (Nat × Nat)) : Nat → Nat → List Nat
  | 0, _ => []
  | n + 1, q => q :: (chN st q).flatMap (blF st n)
noncomputable def kids (st : List (Nat × Nat)) (n a : Nat) : List Nat := (chN st a).flatMap (blF st n)
theorem flat_congr {α β : Type} {f g : α → List β} : ∀ {l : List α}, (∀ x ∈ l, f x = g x) → l.flatMap f = l.flatMap g
  | [], _ => rfl
  | x :: r, h => by
    rw [List.flatMap_cons, List.flatMap_cons, h x List.mem_cons_self, flat_congr fun y hy => h y (List.mem_cons_of_mem _ hy)]
theorem flat_nil {α β : Type} {f : α → List β} : ∀ {l : List α}, (∀ x ∈ l, f x = []) → l.flatMap f = []
  | [], _ => rfl
  | x :: r, h => by
    rw [List.flatMap_cons, h x List.mem_cons_self, flat_nil fun y hy => h y (List.mem_cons_of_mem _ hy)]; rfl
theorem flat_len {α β : Type} {f : α → List β} {b : Nat} : ∀ {l : List α}, (∀ x ∈ l, (f x).length ≤ b) → (l.flatMap f).length ≤ l.length * b
  | [], _ => by simp
  | x :: r, h => by
    have h1 := h x List.mem_cons_self
    have h2 := flat_len (l := r) fun y hy => h y (List.mem_cons_of_mem _ hy)
    rw [List.flatMap_cons, List.length_append, List.length_cons, Nat.add_mul]
    omega
section
variable {ps : List Nat} (ok : PsOk ps)
theorem pF_zero (n : Nat) : pF ps n 0 = [] := by
  cases n with
  | zero => rfl
  | succ n => rfl
theorem par_lt (ok : PsOk ps) {q : Nat} (h : 1 ≤ q) : par ps q < q := by
  have := ok.par (q - 1)
  unfold par
  omega
include ok
theorem pF_st : ∀ q n, q ≤ n → pF ps n q = pF ps q q := by
  intro q
  induction q using Nat.strongRecOn with
  | _ q ih =>
    intro n hn
    cases q with
    | zero => rw [pF_zero, pF_zero]
    | succ j =>
      cases n with
      | zero => omega
      | succ m =>
        have hp := par_lt ok (q := j + 1) (by omega)
        unfold pF
        rw [if_neg (by omega), if_neg (by omega), ih _ hp m (by omega), ih _ hp j (by omega)]
theorem P_succ {q : Nat} (h : 1 ≤ q) : P ps q = P ps (par ps q) ++ [q] := by
  obtain ⟨j, rfl⟩ : ∃ j, q = j + 1 := ⟨q - 1, by omega⟩
  have hp := par_lt ok (q := j + 1) h
  unfold P
  rw [pF, if_neg (by omega), pF_st ok _ j (by omega)]
omit ok in
theorem P_zero : P ps 0 = [] := rfl
omit ok in
theorem pF_len : ∀ n q, (pF ps n q).length ≤ n
  | 0, _ => by simp [pF]
  | n + 1, q => by
    have := pF_len n (par ps q)
    unfold pF
    split
    · simp
    · simp; omega
omit ok in
theorem st_mem {x : Nat × Nat} (h : x ∈ stF ps) : 1 ≤ x.1 ∧ x.1 ≤ ps.length ∧ x.2 = par ps x.1 := by
  obtain ⟨i, hi, rfl⟩ := List.mem_map.mp h
  have := List.mem_range.mp hi
  refine ⟨by simp, by show i + 1 ≤ _; omega, ?_⟩
  show _ = ps.getD (i + 1 - 1) 0
  rfl
omit ok in
theorem mem_st {q : Nat} (h1 : 1 ≤ q) (h2 : q ≤ ps.length) : (q, par ps q) ∈ stF ps := by
  refine List.mem_map.mpr ⟨q - 1, List.mem_range.mpr (by omega), ?_⟩
  unfold par
  rw [show q - 1 + 1 = q by omega]
omit ok in
theorem parN_of {q p : Nat} : ∀ {st : List (Nat × Nat)}, (∀ y ∈ st, y.1 = q → y.2 = p) → (q, p) ∈ st → parN st q = some p
  | x :: r, hu, hm => by
    unfold parN
    by_cases e : x.1 = q
    · rw [if_pos e, hu x List.mem_cons_self e]
    · rw [if_neg e]
      rcases List.mem_cons.mp hm with z | z
      · exact absurd (by rw [← z]) e
      · exact parN_of (fun y hy => hu y (List.mem_cons_of_mem _ hy)) z
omit ok in
theorem parN_st {q : Nat} (h1 : 1 ≤ q) (h2 : q ≤ ps.length) : parN (stF ps) q = some (par ps q) :=
  parN_of (fun y hy e => by rw [(st_mem hy).2.2, e]) (mem_st h1 h2)
theorem pthN_eq : ∀ n q, n ≤ 13 → 1 ≤ q → q ≤ ps.length → q ≤ n → pthN (stF ps) n q = some (pF ps n q)
  | 0, q, _, h1, _, h3 => by omega
  | n + 1, q, hn, h1, h2, h3 => by
    have hp := par_lt ok h1
    unfold pthN pF
    rw [parN_st h1 h2, Option.bind_some, if_neg (show ¬ q = 0 by omega)]
    by_cases e : par ps q = 0
    · rw [if_pos e, e, pF_zero]; rfl
    · rw [if_neg e, pthN_eq n _ (by omega) (by omega) (by omega) (by omega), Option.bind_some]
      have := pF_len (ps := ps) n (par ps q)
      rw [if_pos (by omega)]
theorem path_eq {q : Nat} (h1 : 1 ≤ q) (h2 : q ≤ ps.length) : pthN (stF ps) 13 q = some (P ps q) := by
  have := ok.len
  rw [pthN_eq ok 13 q (by omega) h1 h2 (by omega), pF_st ok q 13 (by omega)]; rfl
theorem ch_mem {a x : Nat} (h : x ∈ chN (stF ps) a) : 1 ≤ x ∧ x ≤ ps.length ∧ par ps x = a ∧ a < x := by
  obtain ⟨y, hy, rfl⟩ := List.mem_map.mp h
  obtain ⟨h1, h2⟩ := List.mem_filter.mp hy
  have h3 := st_mem h1
  have h4 := par_lt ok h3.1
  have h5 : y.2 = a := by simpa using h2
  exact ⟨h3.1, h3.2.1, by rw [← h3.2.2, h5], by rw [← h5, h3.2.2]; exact h4⟩
omit ok in
theorem mem_ch {x : Nat} (h1 : 1 ≤ x) (h2 : x ≤ ps.length) : x ∈ chN (stF ps) (par ps x) :=
  List.mem_map.mpr ⟨(x, par ps x), List.mem_filter.mpr ⟨mem_st h1 h2, by simp⟩, rfl⟩
theorem ch_len (a : Nat) : (chN (stF ps) a).length ≤ 7 := by
  unfold chN
  rw [List.length_map]
  refine Nat.le_trans (List.length_filter_le ..) ?_
  unfold stF
  rw [List.length_map, List.length_range]
  exact ok.len
omit ok in
theorem catN_eq {f : Nat → Option (List Nat)} {g : Nat → List Nat} : ∀ {xs : List Nat}, (∀ x ∈ xs, f x = some (g x)) → catN f xs = some (xs.flatMap g)
  | [], _ => rfl
  | x :: r, h => by
    unfold catN
    rw [h x List.mem_cons_self, Option.bind_some, catN_eq fun y hy => h y (List.mem_cons_of_mem _ hy)]
    simp
theorem blF_len : ∀ n q, 1 ≤ q → q ≤ ps.length → ps.length < n + q → (blF (stF ps) n q).length ≤ 8 ^ (ps.length - q)
  | 0, q, _, h2, h3 => by omega
  | n + 1, q, h1, h2, h3 => by
    unfold blF
    rw [List.length_cons]
    by_cases e : q = ps.length
    · have : (chN (stF ps) q) = [] := by
        rw [List.eq_nil_iff_forall_not_mem]
        intro x hx
        have := ch_mem ok hx
        omega
      rw [this, e]; simp
    · obtain ⟨k, hk⟩ : ∃ k, ps.length - q = k + 1 := ⟨ps.length - q - 1, by omega⟩
      have h4 := flat_len (f := blF (stF ps) n) (b := 8 ^ k) (l := chN (stF ps) q) fun x hx => by
        have hm := ch_mem ok hx
        exact Nat.le_trans (blF_len n x hm.1 hm.2.1 (by omega)) (Nat.pow_le_pow_right (by decide) (by omega))
      have h5 := ch_len ok q
      have h6 : (chN (stF ps) q).length * 8 ^ k ≤ 7 * 8 ^ k := Nat.mul_le_mul_right _ h5
      have h7 : 0 < 8 ^ k := Nat.pow_pos (by decide)
      rw [hk, Nat.pow_succ]
      omega
theorem pow_lim {q : Nat} (h1 : 1 ≤ q) : 8 ^ (ps.length - q) ≤ 262144 := by
  have := ok.len
  exact Nat.le_trans (Nat.pow_le_pow_right (by decide) (show ps.length - q ≤ 6 by omega)) (by decide)
theorem blwN_eq : ∀ n q, 1 ≤ q → q ≤ ps.length → ps.length < n + q → blwN (stF ps) n q = some (blF (stF ps) n q)
  | 0, q, _, h2, h3 => by omega
  | n + 1, q, h1, h2, h3 => by
    have hl := blF_len ok (n + 1) q h1 h2 h3
    unfold blF at hl
    rw [List.length_cons] at hl
    have hp := pow_lim ok h1
    unfold blwN blF
    rw [parN_st h1 h2, Option.bind_some, catN_eq (g := blF (stF ps) n) fun x hx => blwN_eq n x (ch_mem ok hx).1 (ch_mem ok hx).2.1 (by have := ch_mem ok hx; omega), Option.bind_some, if_pos (by omega)]
theorem kids_len : (kids (stF ps) 13 0).length ≤ 3000000 := by
  have := ok.len
  have h4 := flat_len (f := blF (stF ps) 13) (b := 262144) (l := chN (stF ps) 0) fun x hx => Nat.le_trans (blF_len ok 13 x (ch_mem ok hx).1 (ch_mem ok hx).2.1 (by omega)) (pow_lim ok (ch_mem ok hx).1)
  have h5 := ch_len ok 0
  unfold kids
  omega
theorem pnt_eq : pntN (stF ps) = some (kids (stF ps) 13 0) := by
  have := ok.len
  have hl := kids_len ok
  unfold kids at hl
  unfold pntN
  rw [catN_eq (g := blF (stF ps) 13) fun x hx => blwN_eq ok 13 x (ch_mem ok hx).1 (ch_mem ok hx).2.1 (by have := ch_mem ok hx; omega), Option.bind_some, if_pos hl]
  rfl
theorem kids_mem {x n a : Nat} (h : x ∈ kids (stF ps) n a) : 1 ≤ x ∧ x ≤ ps.length := by
  induction n generalizing a x with
  | zero =>
    obtain ⟨y, _, hy⟩ := List.mem_flatMap.mp h
    cases hy
  | succ n ih =>
    obtain ⟨y, hy, hx⟩ := List.mem_flatMap.mp h
    rcases List.mem_cons.mp hx with rfl | z
    · exact ⟨(ch_mem ok hy).1, (ch_mem ok hy).2.1⟩
    · exact ih z
omit ok in
theorem kids_step {q p : Nat} (hq : q ∈ chN (stF ps) p) : ∀ (m a : Nat), p ∈ kids (stF ps) m a → q ∈ kids (stF ps) (m + 1) a := by
  intro m
  induction m with
  | zero =>
    intro a h
    obtain ⟨y, _, hy⟩ := List.mem_flatMap.mp h
    cases hy
  | succ m ih =>
    intro a h
    obtain ⟨y, hy, hx⟩ := List.mem_flatMap.mp h
    refine List.mem_flatMap.mpr ⟨y, hy, List.mem_cons_of_mem _ ?_⟩
    rcases List.mem_cons.mp hx with rfl | z
    · exact List.mem_flatMap.mpr ⟨q, hq, List.mem_cons_self⟩
    · exact ih y z
theorem mem_kids : ∀ (n q : Nat), 1 ≤ q → q ≤ ps.length → q ≤ n → q ∈ kids (stF ps) n 0
  | 0, q, h1, _, h3 => by omega
  | n + 1, q, h1, h2, h3 => by
    have hp := par_lt ok h1
    have hc := mem_ch h1 h2
    by_cases e : par ps q = 0
    · rw [e] at hc
      exact List.mem_flatMap.mpr ⟨q, hc, List.mem_cons_self⟩
    · exact kids_step hc n 0 (mem_kids n _ (by omega) (by omega) (by omega))
end
noncomputable abbrev Ar := Int × Int × Int × Int
noncomputable abbrev Row := Nat × Ar × List Ar
structure Geo where
  L : Nat → Int
  T : Nat → Int
  W : Nat → Int
  H : Nat → Int
  c : Nat → Bool
  h : Nat → Bool
  l : Nat → Bool
noncomputable def Geo.at (g : Geo) (l t : Int) (x : Nat) : Ar := (l + g.L x, t + g.T x, l + g.L x + g.W x, t + g.T x + g.H x)
noncomputable def spF (g : Geo) (st : List (Nat × Nat)) : Nat → Nat → Int → Int → List Ar → List Row
  | 0, _, _, _, _ => []
  | n + 1, a, l, t, cu => (chN st a).flatMap fun x => if g.h x = true then [] else (x, g.at l t x, cu ++ [g.at l t x]) :: spF g st n x (l + g.L x) (t + g.T x) (cu ++ if g.c x = true then [g.at l t x] else [])
section
variable (g : Geo) (ps : List Nat)
noncomputable def Geo.sL (q : Nat) : Int := ((P ps q).map g.L).sum
noncomputable def Geo.sT (q : Nat) : Int := ((P ps q).map g.T).sum
noncomputable def Geo.area (q : Nat) : Ar := (g.sL ps q, g.sT ps q, g.sL ps q + g.W q, g.sT ps q + g.H q)
noncomputable def Geo.cuts (a : Nat) : List Ar := ((P ps a).filter g.c).map (g.area ps)
noncomputable def Geo.shown (q : Nat) : Bool := (P ps q).all fun x => !g.h x
noncomputable def Geo.row (x : Nat) : Row := (x, g.area ps x, g.cuts ps (par ps x) ++ [g.area ps x])
end
section
variable {g : Geo} {ps : List Nat} (ok : PsOk ps)
include ok
theorem sL_ch {x : Nat} (h : 1 ≤ x) : g.sL ps x = g.sL ps (par ps x) + g.L x := by
  unfold Geo.sL
  rw [P_succ ok h, List.map_append, List.sum_append]; simp
theorem sT_ch {x : Nat} (h : 1 ≤ x) : g.sT ps x = g.sT ps (par ps x) + g.T x := by
  unfold Geo.sT
  rw [P_succ ok h, List.map_append, List.sum_append]; simp
theorem cuts_ch {x : Nat} (h : 1 ≤ x) : g.cuts ps x = g.cuts ps (par ps x) ++ if g.c x = true then [g.area ps x] else [] := by
  unfold Geo.cuts
  rw [P_succ ok h, List.filter_append, List.map_append]
  congr 1
  cases hc : g.c x <;> simp [hc]
end
noncomputable def hasP (a : Ar) (x y : Int) : Bool := decide (a.1 ≤ x) && decide (x < a.2.2.1) && (decide (a.2.1 ≤ y) && decide (y < a.2.2.2))
noncomputable def ovl (a b : Ar) : Ar := (max a.1 b.1, max a.2.1 b.2.1, min a.2.2.1 b.2.2.1, min a.2.2.2 b.2.2.2)
theorem and4 : ∀ a b c d : Bool, ((a && b) && (c && d)) = ((a && c) && (b && d)) := by decide
theorem hasP_ovl (a b : Ar) (x y : Int) : hasP (ovl a b) x y = (hasP a x y && hasP b x y) := by
  have h1 : ∀ p q r : Int, decide (max p q ≤ r) = (decide (p ≤ r) && decide (q ≤ r)) := fun p q r => by
    rw [Bool.eq_iff_iff, Bool.and_eq_true, decide_eq_true_eq, decide_eq_true_eq, decide_eq_true_eq]
    exact Int.max_le
  have h2 : ∀ p q r : Int, decide (r < min p q) = (decide (r < p) && decide (r < q)) := fun p q r => by
    rw [Bool.eq_iff_iff, Bool.and_eq_true, decide_eq_true_eq, decide_eq_true_eq, decide_eq_true_eq]
    exact Int.lt_min
  unfold hasP ovl
  dsimp only
  rw [h1, h1, h2, h2, and4 (decide (a.1 ≤ x)), and4 (decide (a.2.1 ≤ y)), and4]
noncomputable def wndL (g : Geo) (ps : List Nat) : List Nat → Ar → Ar
  | [], w => w
  | s :: r, w => wndL g ps r (if g.c s = true then ovl w (g.area ps s) else w)
noncomputable def Geo.wnd (g : Geo) (ps : List Nat) (q : Nat) : Ar := wndL g ps (P ps q) (g.area ps q)
theorem wndL_has (g : Geo) (ps : List Nat) (x y : Int) : ∀ l w, hasP (wndL g ps l w) x y = (hasP w x y && ((l.filter g.c).map (g.area ps)).all fun a => hasP a x y)
  | [], w => by simp [wndL]
  | s :: r, w => by
    unfold wndL
    rw [wndL_has g ps x y r, List.filter_cons]
    cases hc : g.c s with
    | false => rfl
    | true =>
      rw [if_pos rfl, if_pos rfl, hasP_ovl, List.map_cons, List.all_cons, Bool.and_assoc]
noncomputable def Geo.tch (g : Geo) (ps : List Nat) (x y : Int) (q : Nat) : Bool := (g.row ps q).2.2.all fun a => hasP a x y
theorem wnd_has {g : Geo} {ps : List Nat} (ok : PsOk ps) {q : Nat} (h : 1 ≤ q) (x y : Int) : hasP (g.wnd ps q) x y = g.tch ps x y q := by
  unfold Geo.wnd Geo.tch Geo.row
  rw [wndL_has]
  show (_ && (g.cuts ps q).all _) = _
  rw [cuts_ch ok h, List.all_append]
  dsimp only
  rw [List.all_append]
  generalize (g.cuts ps (par ps q)).all (fun a => hasP a x y) = u
  cases g.c q
  · simp [Bool.and_comm]
  · cases h2 : hasP (g.area ps q) x y <;> simp [h2]
noncomputable def Geo.hits (g : Geo) (ps : List Nat) (x y : Int) : List Nat := (((kids (stF ps) 13 0).reverse.filter (g.shown ps)).filter fun q => !g.l q).filter (g.tch ps x y)
noncomputable def cutN (st : List (Nat × Nat)) (q : Nat) : Option (List (Nat × Nat)) := (blwN st 13 q).bind fun g => some (st.filter fun x => !decide (x.1 ∈ g))
noncomputable def raiN (st : List (Nat × Nat)) (q : Nat) : Option (List (Nat × Nat)) := (blwN st 13 q).bind fun g => some (st.filter (fun x => !decide (x.1 ∈ g)) ++ st.filter fun x => decide (x.1 ∈ g))
noncomputable def okPath (ps : List Nat) (st' : List (Nat × Nat)) (gone : List Nat) : Bool := (List.range ps.length).all fun i => decide (i + 1 ∈ gone) || (decide (pthN st' 13 (i + 1) = some (P ps (i + 1))) && (decide (parN st' (i + 1) = some (par ps (i + 1))) && (P ps (i + 1)).all fun x => !decide (x ∈ gone)))
noncomputable def pntF (ps : List Nat) : List Nat := kids (stF ps) 13 0
noncomputable def okSt09 (ps : List Nat) (st' : List (Nat × Nat)) (pnt' inner gone : List Nat) (q : Nat) : Bool := decide (st'.length ≤ 12) && (decide (pntN st' = some pnt') && (decide (blwN st' 13 q = some inner) && (okPath ps st' gone && inner.all fun x => !decide (x ∈ gone))))
noncomputable def allPs : Nat → List (List Nat)
  | 0 => [[]]
  | n + 1 => (allPs n).flatMap fun ps => (List.range (n + 1)).map fun p => ps ++ [p]
noncomputable abbrev In (ps : List Nat) (q : Nat) : Prop := 1 ≤ q ∧ q ≤ ps.length
theorem P_in' {ps : List Nat} (ok : PsOk ps) {x : Nat} : ∀ q, In ps q → x ∈ P ps q → In ps x := by
  intro q
  induction q using Nat.strongRecOn with
  | _ q ih =>
    intro hq hx
    rw [P_succ ok hq.1] at hx
    rcases List.mem_append.mp hx with z | z
    · have hp := par_lt ok hq.1
      by_cases e : par ps q = 0
      · rw [e] at z
        cases z
      · exact ih _ hp ⟨by omega, by have := hq.2; omega⟩ z
    · have : x = q := by simpa using z
      rw [this]; exact hq
theorem kids_2 {ps : List Nat} (ok : PsOk ps) : (pntF ps).length ≤ 2000000 := by
  have := ok.len
  have h4 := flat_len (f := blF (stF ps) 13) (b := 262144) (l := chN (stF ps) 0) fun x hx => Nat.le_trans (blF_len ok 13 x (ch_mem ok hx).1 (ch_mem ok hx).2.1 (by omega)) (pow_lim ok (ch_mem ok hx).1)
  have h5 := ch_len ok 0
  unfold pntF kids
  omega
noncomputable def tkL (g : Geo) (ps pnt : List Nat) : List Nat := (pnt.reverse.filter (g.shown ps)).filter fun q => !g.l q
noncomputable def hitL (g : Geo) (ps pnt : List Nat) (x y : Int) : List Nat := (tkL g ps pnt).filter (g.tch ps x y)
end K07
namespace K07
open PySem L2 L2.PU
theorem cGo_map {ι : Type} {t : En → PyData → Option En} {p : En → Option Bool} {f : En → Option PyData} {η : En} (D : ι → PyData) (P : ι → Bool) (Y : ι → PyData) :
    ∀ xs : List ι, (∀ x ∈ xs, ∃ η1, t η (D x) = some η1 ∧ p η1 = some (P x) ∧ (P x = true → f η1 = some (Y x))) → cGo t p f η (xs.map D) = some ((xs.filter P).map Y)
  | [], _ => rfl
  | x :: r, h => by
    obtain ⟨η1, h1, h2, h3⟩ := h x List.mem_cons_self
    have ih := cGo_map D P Y r fun y hy => h y (List.mem_cons_of_mem _ hy)
    rw [List.map_cons]
    unfold cGo
    rw [h1, Option.bind_some, h2, Option.bind_some, ih, List.filter_cons]
    cases hP : P x with
    | false => rfl
    | true => rw [if_pos rfl, h3 hP]; rfl
theorem sGo_inv {ι : Type} {t : En → PyData → Option En} {body : En → Option Out} (D : ι → PyData) (Inv : List ι → En → Prop) :
    ∀ (xs done : List ι) (η : En), Inv done η → (∀ done x η, x ∈ xs → Inv done η → ∃ η1 η2, t η (D x) = some η1 ∧ body η1 = some (.nx η2) ∧ Inv (done ++ [x]) η2) → ∃ η', sGo t body (xs.map D) η = some (.nx η') ∧ Inv (done ++ xs) η'
  | [], done, η, h, _ => ⟨η, rfl, by simpa using h⟩
  | x :: r, done, η, h, st => by
    obtain ⟨η1, η2, h1, h2, h3⟩ := st done x η List.mem_cons_self h
    obtain ⟨η', e1, e2⟩ := sGo_inv D Inv r (done ++ [x]) η2 h3 fun d y η hy => st d y η (List.mem_cons_of_mem _ hy)
    refine ⟨η', ?_, by simpa using e2⟩
    rw [List.map_cons]
    unfold sGo
    rw [h1, Option.bind_some, h2, Option.bind_some]
    exact e1
structure Sc where
  st : List (Nat × Nat)
  nm : Nat → Str
  L : Nat → Int
  T : Nat → Int
  W : Nat → Int
  H : Nat → Int
  mr : Nat → Str
structure Sc.Ok (c : Sc) : Prop where
  inj : ∀ a b, c.nm a = c.nm b → a = b
  top : c.nm 0 = ""
  ok : ∀ a, PyData.strOk (c.nm a) = true
  okm : ∀ a, PyData.strOk (c.mr a) = true
  len : c.st.length ≤ 12
noncomputable def Sc.box (c : Sc) (x : Nat × Nat) : PyData := .tuple [.str (c.nm x.1), .str (c.nm x.2), .int (c.L x.1), .int (c.T x.1), .int (c.W x.1), .int (c.H x.1), .str (c.mr x.1)]
noncomputable def Sc.d (c : Sc) : PyData := .tuple (c.st.map c.box)
noncomputable def Sc.s (c : Sc) (q : Nat) : PyData := .str (c.nm q)
noncomputable def Sc.S (c : Sc) (l : List Nat) : PyData := .list (l.map c.s)
theorem str_dec (a b : Str) : (a == b) = decide (a = b) := rfl
theorem shaped_str {a : Str} (h : PyData.strOk a = true) : SeqAt.shaped (.str a) = true := by
  simp [SeqAt.shaped, PyData.canLay0, PyData.depth, h]
theorem pEq_str {a b : Str} (ha : PyData.strOk a = true) (hb : PyData.strOk b = true) : pEq (.str a) (.str b) = some (.bool (decide (a = b))) := by
  unfold pEq
  rw [if_pos ⟨shaped_str ha, shaped_str hb⟩]
  simp [PyData.eqv, str_dec]
section
variable {c : Sc} (h : c.Ok)
include h
theorem Sc.Ok.dec (a b : Nat) : decide (c.nm a = c.nm b) = decide (a = b) := by
  by_cases e : a = b
  · subst e; simp
  · have : ¬ c.nm a = c.nm b := fun z => e (h.inj _ _ z)
    rw [decide_eq_false this, decide_eq_false e]
theorem Sc.Ok.eqs (a b : Nat) : pEq (c.s a) (c.s b) = some (.bool (decide (a = b))) := by
  unfold Sc.s
  rw [pEq_str (h.ok a) (h.ok b), h.dec]
theorem Sc.Ok.eq0 (a : Nat) : pEq (c.s a) (.str "") = some (.bool (decide (a = 0))) := by
  have := h.eqs a 0
  unfold Sc.s at this ⊢
  rw [h.top] at this
  exact this
theorem Sc.Ok.canAll (l : List Nat) : PyData.canLayAll0 (l.map c.s) = true := by
  induction l with
  | nil => rfl
  | cons x r ih => simp [PyData.canLayAll0, Sc.s, PyData.canLay0, h.ok x]; simpa [Sc.s] using ih
omit h in
theorem depthAll_s (l : List Nat) : PyData.depthAll (l.map c.s) = 0 := by
  induction l with
  | nil => rfl
  | cons x r ih => simp [PyData.depthAll, Sc.s, PyData.depth]; simpa [Sc.s] using ih
theorem Sc.Ok.shS (l : List Nat) : SeqAt.shaped (c.S l) = true := by
  simp [SeqAt.shaped, Sc.S, PyData.canLay0, PyData.depth, h.canAll l, depthAll_s]
theorem Sc.Ok.eqvS : ∀ (l m : List Nat), PyData.eqvAll (l.map c.s) (m.map c.s) = decide (l = m)
  | [], [] => by simp [PyData.eqvAll]
  | [], _ :: _ => by simp [PyData.eqvAll]
  | _ :: _, [] => by simp [PyData.eqvAll]
  | x :: r, y :: t => by
    have ih := Sc.Ok.eqvS r t
    rw [List.map_cons, List.map_cons]
    unfold PyData.eqvAll
    rw [ih]
    unfold Sc.s PyData.eqv
    rw [str_dec, h.dec]
    by_cases e : x = y
    · subst e; simp
    · simp [e]
end
end K07
namespace K07
open PySem L2 L2.PU
theorem big {n : Nat} (h : n ≤ 3000000) : n ≤ sizeLine := Nat.le_trans h (by show 3000000 ≤ 2 ^ 24; decide)
section
variable {c : Sc} (h : c.Ok)
include h
theorem size_d : (c.st.map c.box).length ≤ sizeLine := by
  rw [List.length_map]
  exact big (Nat.le_trans h.len (by decide))
theorem F_children_eq (q : Nat) : F_children [c.d, c.s q] = some (c.S (chN c.st q)) := by
  unfold F_children runF
  rw [if_pos (by rfl)]
  show (g_children [.val c.d, .val (c.s q)]).bind _ = _
  have e : cGo (tgN 0) (bT (l2 pEq (l2 pIx (eV 0) (eC (.int 1))) (eV 1))) (l2 pIx (eV 0) (eC (.int 0))) [.un, .val (c.s q)] (c.st.map c.box) = some ((c.st.filter fun x => decide (x.2 = q)).map fun x => c.s x.1) := by
    refine cGo_map c.box (fun x => decide (x.2 = q)) (fun x => c.s x.1) _ fun x _ => ⟨_, rfl, ?_, fun _ => rfl⟩
    show (pEq (c.s x.2) (c.s q)).bind asB = _
    rw [h.eqs]; rfl
  have e2 : sComp [none, some 1] (lI asTu (eV 0)) (tgN 0) (bT (l2 pEq (l2 pIx (eV 0) (eC (.int 1))) (eV 1))) (l2 pIx (eV 0) (eC (.int 0))) [.val c.d, .val (c.s q)] = some ((c.st.filter fun x => decide (x.2 = q)).map fun x => c.s x.1) := by
    show (if (c.st.map c.box).length ≤ sizeLine then cGo _ _ _ _ _ else none) = _
    rw [if_pos (size_d h)]
    exact e
  unfold g_children sRet oE
  rw [e2]
  show some (PyData.list _) = some (PyData.list _)
  unfold chN
  rw [List.map_map]; rfl
theorem box_go (q p : Nat) : ∀ (l : List (Nat × Nat)), parN l q = some p → ∀ s : Sl, sGo (tgN 2) (sIf (bT (l2 pEq (l2 pIx (eV 2) (eC (.int 0))) (eV 1))) (sRet (eV 2)) sNx) (l.map c.box) [.val c.d, .val (c.s q), s] = some (.rt (c.box (q, p)))
  | x :: r, hm, s => by
    rw [List.map_cons]
    unfold sGo
    have et : tgN 2 [.val c.d, .val (c.s q), s] (c.box x) = some [.val c.d, .val (c.s q), .val (c.box x)] := rfl
    rw [et, Option.bind_some]
    have eb : (bT (l2 pEq (l2 pIx (eV 2) (eC (.int 0))) (eV 1))) [.val c.d, .val (c.s q), .val (c.box x)] = some (decide (x.1 = q)) := by
      show (pEq (c.s x.1) (c.s q)).bind asB = _
      rw [h.eqs]; rfl
    unfold sIf
    rw [eb, Option.bind_some]
    unfold parN at hm
    by_cases e : x.1 = q
    · rw [if_pos e] at hm
      cases hm
      rw [if_pos (by simpa using e)]
      subst e
      rfl
    · rw [if_neg e] at hm
      rw [if_neg (by simpa using e)]
      show sGo _ _ (r.map c.box) _ = _
      exact box_go q p r hm _
theorem F_box_eq {q p : Nat} (h1 : parN c.st q = some p) : F_box_of [c.d, c.s q] = some (c.box (q, p)) := by
  unfold F_box_of runF
  rw [if_pos (by rfl)]
  show (g_box_of [.val c.d, .val (c.s q), .un]).bind _ = _
  have e2 : sFor (lI asTu (eV 0)) (tgN 2) (sIf (bT (l2 pEq (l2 pIx (eV 2) (eC (.int 0))) (eV 1))) (sRet (eV 2)) sNx) [.val c.d, .val (c.s q), .un] = some (.rt (c.box (q, p))) := box_go h q p c.st h1 .un
  unfold g_box_of sSeq
  rw [e2]; rfl
theorem F_path_eq : ∀ (n q : Nat) (l : List Nat), pthN c.st n q = some l → F_path_of n [c.d, c.s q] = some (c.S l)
  | n + 1, q, l, e => by
    unfold pthN at e
    obtain ⟨p, hq, e⟩ := bind_some e
    · unfold F_path_of runF
      rw [if_pos (by rfl)]
      show (g_path_of F_box_of (F_path_of n) [.val c.d, .val (c.s q), .un]).bind _ = _
      have eb := F_box_eq h hq
      have e1 : sSet 2 (l2 pIx (lA F_box_of (aC (eV 0) (aC (eV 1) aN))) (eC (.int 1))) [.val c.d, .val (c.s q), .un] = some (.nx [.val c.d, .val (c.s q), .val (c.s (p))]) := by
        show ((F_box_of [c.d, c.s q]).bind fun x => _).bind _ = _
        rw [eb]; rfl
      have e2 : (bT (l2 pEq (eV 2) (eC (.str "")))) [.val c.d, .val (c.s q), .val (c.s (p))] = some (decide (p = 0)) := by
        show (pEq (c.s (p)) (.str "")).bind asB = _
        rw [h.eq0]; rfl
      unfold g_path_of sSeq
      rw [e1, Option.bind_some]
      show Option.bind (Option.bind (sIf _ _ _ _) _) _ = _
      unfold sIf
      rw [e2, Option.bind_some]
      split at e
      · rename_i h0
        cases e
        rw [if_pos (by simpa using h0)]
        rfl
      · rename_i h0
        rw [if_neg (by simpa using h0)]
        obtain ⟨m, hm, e⟩ := bind_some e
        split at e
        · rename_i hl
          cases e
          have ih := F_path_eq n _ m hm
          show Option.bind (sRet _ _) _ = _
          have e3 : sRet (l2 pAdd (lA (F_path_of n) (aC (eV 0) (aC (eV 2) aN))) (oE (fun η => ((aC (eV 1) aN) η).bind gL))) [.val c.d, .val (c.s q), .val (c.s (p))] = some (.rt (c.S (m ++ [q]))) := by
            show (((F_path_of n) [c.d, c.s (p)]).bind fun x => (oE _ _).bind fun y => pAdd x y).bind _ = _
            rw [ih, Option.bind_some]
            show ((pAdd (c.S m) (.list [c.s q])).bind _) = _
            unfold Sc.S pAdd
            dsimp only
            rw [if_pos (by rw [List.length_map]; exact big hl)]
            simp [Sc.S]
          rw [e3]; rfl
        · cases e
theorem below_go {F : List PyData → Option PyData} {f : Nat → Option (List Nat)} (hF : ∀ x l, f x = some l → F [c.d, c.s x] = some (c.S l)) (q : Nat) :
    ∀ (xs r : List Nat), catN f xs = some r → ∀ (done : List Nat) (s3 : Sl), done.length + r.length ≤ 3000000 → ∃ s3', sGo (tgN 3) (sExt 2 (lI asL (lA F (aC (eV 0) (aC (eV 3) aN))))) (xs.map c.s) [.val c.d, .val (c.s q), .own (done.map c.s), s3] = some (.nx [.val c.d, .val (c.s q), .own ((done ++ r).map c.s), s3'])
  | [], r, e, done, s3, _ => by
    cases e
    exact ⟨s3, by rw [List.append_nil]; rfl⟩
  | x :: xs, r, e, done, s3, hl => by
    obtain ⟨a, ea, e⟩ := bind_some e
    obtain ⟨b, eb, e⟩ := bind_some e
    cases e
    rw [List.length_append] at hl
    obtain ⟨s3', ih⟩ := below_go hF q xs b eb (done ++ a) (.val (c.s x)) (by rw [List.length_append]; omega)
    refine ⟨s3', ?_⟩
    have e1 : sExt 2 (lI asL (lA F (aC (eV 0) (aC (eV 3) aN)))) [.val c.d, .val (c.s q), .own (done.map c.s), .val (c.s x)] = some (.nx [.val c.d, .val (c.s q), .own ((done ++ a).map c.s), .val (c.s x)]) := by
      show Option.bind (Option.bind (F [c.d, c.s x]) asL) _ = _
      rw [hF x a ea]
      show (if (done.map c.s).length + (a.map c.s).length ≤ sizeLine then _ else _) = _
      rw [if_pos (by rw [List.length_map, List.length_map]; exact big (by omega)), List.map_append]
      rfl
    rw [List.map_cons]
    unfold sGo
    show Option.bind (sExt 2 _ [.val c.d, .val (c.s q), .own (done.map c.s), .val (c.s x)]) _ = _
    rw [e1, Option.bind_some]
    show sGo _ _ _ _ = _
    rw [ih, List.append_assoc]
theorem paint_go {F : List PyData → Option PyData} {f : Nat → Option (List Nat)} (hF : ∀ x l, f x = some l → F [c.d, c.s x] = some (c.S l)) :
    ∀ (xs r : List Nat), catN f xs = some r → ∀ (done : List Nat) (s3 : Sl), done.length + r.length ≤ 3000000 → ∃ s3', sGo (tgN 2) (sExt 1 (lI asL (lA F (aC (eV 0) (aC (eV 2) aN))))) (xs.map c.s) [.val c.d, .own (done.map c.s), s3] = some (.nx [.val c.d, .own ((done ++ r).map c.s), s3'])
  | [], r, e, done, s3, _ => by
    cases e
    exact ⟨s3, by rw [List.append_nil]; rfl⟩
  | x :: xs, r, e, done, s3, hl => by
    obtain ⟨a, ea, e⟩ := bind_some e
    obtain ⟨b, eb, e⟩ := bind_some e
    cases e
    rw [List.length_append] at hl
    obtain ⟨s3', ih⟩ := paint_go hF xs b eb (done ++ a) (.val (c.s x)) (by rw [List.length_append]; omega)
    refine ⟨s3', ?_⟩
    have e1 : sExt 1 (lI asL (lA F (aC (eV 0) (aC (eV 2) aN)))) [.val c.d, .own (done.map c.s), .val (c.s x)] = some (.nx [.val c.d, .own ((done ++ a).map c.s), .val (c.s x)]) := by
      show Option.bind (Option.bind (F [c.d, c.s x]) asL) _ = _
      rw [hF x a ea]
      show (if (done.map c.s).length + (a.map c.s).length ≤ sizeLine then _ else _) = _
      rw [if_pos (by rw [List.length_map, List.length_map]; exact big (by omega)), List.map_append]
      rfl
    rw [List.map_cons]
    unfold sGo
    show Option.bind (sExt 1 _ [.val c.d, .own (done.map c.s), .val (c.s x)]) _ = _
    rw [e1, Option.bind_some]
    show sGo _ _ _ _ = _
    rw [ih, List.append_assoc]
theorem F_below_eq : ∀ (n q : Nat) (l : List Nat), blwN c.st n q = some l → F_below n [c.d, c.s q] = some (c.S l)
  | n + 1, q, l, e => by
    unfold blwN at e
    obtain ⟨p, hq, e⟩ := bind_some e
    · obtain ⟨r, hr, e⟩ := bind_some e
      split at e
      · rename_i hl
        cases e
        unfold F_below runF
        rw [if_pos (by rfl)]
        show (g_below F_box_of F_children (F_below n) [.val c.d, .val (c.s q), .un, .un]).bind _ = _
        have eb := F_box_eq h hq
        have e1 : sSetO 2 (fun η => ((aC (l2 pIx (lA F_box_of (aC (eV 0) (aC (eV 1) aN))) (eC (.int 0))) aN) η).bind gL) [.val c.d, .val (c.s q), .un, .un] = some (.nx [.val c.d, .val (c.s q), .own [c.s q], .un]) := by
          show Option.bind (Option.bind (Option.bind (Option.bind (F_box_of [c.d, c.s q]) _) _) _) _ = _
          rw [eb]
          rfl
        obtain ⟨s3', e2⟩ := below_go h (F_below_eq n) q (chN c.st q) r hr [q] .un (by simpa [Nat.add_comm] using hl)
        have e3 : sFor (lI asL (lA F_children (aC (eV 0) (aC (eV 1) aN)))) (tgN 3) (sExt 2 (lI asL (lA (F_below n) (aC (eV 0) (aC (eV 3) aN))))) [.val c.d, .val (c.s q), .own [c.s q], .un] = some (.nx [.val c.d, .val (c.s q), .own (([q] ++ r).map c.s), s3']) := by
          show Option.bind (Option.bind (F_children [c.d, c.s q]) asL) _ = _
          rw [F_children_eq h]
          exact e2
        unfold g_below sSeq
        rw [e1, Option.bind_some]
        show Option.bind (Option.bind (sFor _ _ _ _) _) _ = _
        rw [e3]
        rfl
      · cases e
theorem F_painted_eq {l : List Nat} (e : pntN c.st = some l) : F_painted [c.d] = some (c.S l) := by
  unfold pntN at e
  obtain ⟨r, hr, e⟩ := bind_some e
  split at e
  · rename_i hl
    cases e
    unfold F_painted runF
    rw [if_pos (by rfl)]
    show (g_painted F_children (F_below 13) [.val c.d, .un, .un]).bind _ = _
    obtain ⟨s3', e2⟩ := paint_go h (F_below_eq h 13) (chN c.st 0) l hr [] .un (by simpa using hl)
    have e3 : sFor (lI asL (lA F_children (aC (eV 0) (aC (eC (.str "")) aN)))) (tgN 2) (sExt 1 (lI asL (lA (F_below 13) (aC (eV 0) (aC (eV 2) aN))))) [.val c.d, .own [], .un] = some (.nx [.val c.d, .own (l.map c.s), s3']) := by
      show Option.bind (Option.bind (F_children [c.d, .str ""]) asL) _ = _
      have := F_children_eq h 0
      unfold Sc.s at this
      rw [h.top] at this
      rw [this]
      exact e2
    unfold g_painted sSeq
    show Option.bind (Option.bind (sFor _ _ _ [.val c.d, .own [], .un]) _) _ = _
    rw [e3]
    rfl
  · cases e
end
end K07
namespace K07
open PySem L2 L2.PU
noncomputable def Sd (ns : List Int) : PyData := .list (ns.map PyData.int)
theorem can_ints : ∀ ns : List Int, PyData.canLayAll0 (ns.map PyData.int) = true
  | [] => rfl
  | _ :: r => by
    have ih := can_ints r
    simpa [PyData.canLayAll0, PyData.canLay0] using ih
theorem dep_ints : ∀ ns : List Int, PyData.depthAll (ns.map PyData.int) = 0
  | [] => rfl
  | _ :: r => by
    have ih := dep_ints r
    simpa [PyData.depthAll, PyData.depth] using ih
theorem shaped_ints (ns : List Int) : SeqAt.shaped (.list (ns.map PyData.int)) = true := by
  simp [SeqAt.shaped, PyData.canLay0, PyData.depth, can_ints, dep_ints]
theorem shaped_int (i : Int) : SeqAt.shaped (.int i) = true := by simp [SeqAt.shaped, PyData.canLay0, PyData.depth]
theorem pEq_int (i j : Int) : pEq (.int i) (.int j) = some (.bool (i == j)) := by
  unfold pEq
  rw [if_pos ⟨shaped_int i, shaped_int j⟩]
  simp [PyData.eqv]
theorem l2_of {o : PyData → PyData → Option PyData} {f g : En → Option PyData} {η : En} {x y z : PyData} (hf : f η = some x) (hg : g η = some y) (ho : o x y = some z) : l2 o f g η = some z := by
  unfold l2
  rw [hf, Option.bind_some, hg, Option.bind_some, ho]
theorem pMul_ok {i j : Int} (h : CMul i j) : pMul (.int i) (.int j) = some (.int (i * j)) := if_pos h
theorem pMod_ok {i j : Int} (h : 0 < j) : pMod (.int i) (.int j) = some (.int (i % j)) := if_pos h
theorem pFdiv_ok {i j : Int} (h : CDiv i j) : pFdiv (.int i) (.int j) = some (.int (i / j)) := if_pos h
theorem mulL {i j : Int} (h1 : -(2 ^ 64) < i) (h2 : i < 2 ^ 64) : CMul i j := Or.inl ⟨h1, h2⟩
theorem mulR {i j : Int} (h1 : -(2 ^ 64) < j) (h2 : j < 2 ^ 64) : CMul i j := Or.inr ⟨h1, h2⟩
section
variable {ns : List Int}
theorem cell_ok (hn : ns.length ≤ 63) {k : Int} (hk : 0 ≤ k) : ∃ v : Int, F__law_cell [Sd ns, .int k] = some (.int v) := by
  unfold F__law_cell runF
  rw [if_pos (by rfl)]
  have et : (bT (l2 pEq (eV 0) (oE (fun η => (aN η).bind gL)))) [.val (Sd ns), .val (.int k)] = some (decide (ns = [])) := by
    show Option.bind (pEq (Sd ns) (.list [])) asB = _
    unfold pEq
    rw [if_pos ⟨shaped_ints ns, by rfl⟩]
    cases ns <;> simp [Sd, PyData.eqv, PyData.eqvAll, asB]
  show ∃ v, Option.bind (g__law_cell [.val (Sd ns), .val (.int k)]) _ = _
  unfold g__law_cell sSeq sIf
  rw [et, Option.bind_some]
  by_cases h0 : ns = []
  · rw [if_pos (by simpa using h0)]
    refine ⟨7 * k, ?_⟩
    have : l2 pMul (eC (.int 7)) (eV 1) [.val (Sd ns), .val (.int k)] = some (.int (7 * k)) := l2_of rfl rfl (pMul_ok (mulL (by decide) (by decide)))
    unfold sRet
    rw [this]; rfl
  · rw [if_neg (by simpa using h0)]
    have hp : 0 < ns.length := by cases ns with | nil => exact absurd rfl h0 | cons => simp
    have hlen : lA pLen (aC (eV 0) aN) [.val (Sd ns), .val (.int k)] = some (.int (ns.length : Int)) := by
      show some (PyData.int ((ns.map PyData.int).length : Int)) = _
      rw [List.length_map]
    have hm : l2 pMod (eV 1) (lA pLen (aC (eV 0) aN)) [.val (Sd ns), .val (.int k)] = some (.int (k % (ns.length : Int))) := l2_of rfl hlen (pMod_ok (by omega))
    have hd : l2 pFdiv (eV 1) (lA pLen (aC (eV 0) aN)) [.val (Sd ns), .val (.int k)] = some (.int (k / (ns.length : Int))) := l2_of rfl hlen (pFdiv_ok ⟨by omega, by omega⟩)
    obtain ⟨j, hj⟩ : ∃ j : Nat, k % (ns.length : Int) = (j : Int) := ⟨(k % (ns.length : Int)).toNat, by have := Int.emod_nonneg k (show (ns.length : Int) ≠ 0 by omega); omega⟩
    have hjl : j < ns.length := by have := Int.emod_lt_of_pos k (show (0 : Int) < ns.length by omega); omega
    refine ⟨ns[j] + 6553 * (k / (ns.length : Int)), ?_⟩
    have hx : l2 pIx (eV 0) (l2 pMod (eV 1) (lA pLen (aC (eV 0) aN))) [.val (Sd ns), .val (.int k)] = some (.int ns[j]) := by
      refine l2_of rfl hm ?_
      rw [hj]
      show atI (ns.map PyData.int) (j : Int) = _
      exact atI_nat (by rw [List.getElem?_map, List.getElem?_eq_getElem hjl]; rfl)
    have hy : l2 pMul (eC (.int 6553)) (l2 pFdiv (eV 1) (lA pLen (aC (eV 0) aN))) [.val (Sd ns), .val (.int k)] = some (.int (6553 * (k / (ns.length : Int)))) := l2_of rfl hd (pMul_ok (mulL (by decide) (by decide)))
    have hz := l2_of (o := pAdd) hx hy rfl
    show Option.bind (sRet _ [.val (Sd ns), .val (.int k)]) _ = _
    unfold sRet
    rw [hz]
    rfl
theorem drawn_ok (hn : ns.length ≤ 63) {k m : Int} (hk : 0 ≤ k) (hm : 0 < m) : ∃ r : Nat, (r : Int) < m ∧ F__law_drawn [Sd ns, .int k, .int m] = some (.int r) := by
  obtain ⟨v, hv⟩ := cell_ok hn hk
  unfold F__law_drawn runF
  rw [if_pos (by rfl)]
  have hc : lA F__law_cell (aC (eV 0) (aC (eV 1) aN)) [.val (Sd ns), .val (.int k), .val (.int m), .un] = some (.int v) := hv
  have x1 : l2 pMod (l2 pAdd (l2 pMul (l2 pMod (lA F__law_cell (aC (eV 0) (aC (eV 1) aN))) (eC (.int 2147483563))) (eC (.int 69069))) (l2 pMul (eC (.int 104723)) (l2 pAdd (eV 1) (eC (.int 1))))) (eC (.int 2147483563)) [.val (Sd ns), .val (.int k), .val (.int m), .un] = some (.int ((v % 2147483563 * 69069 + 104723 * (k + 1)) % 2147483563)) :=
    l2_of (l2_of (l2_of (l2_of hc rfl (pMod_ok (by decide))) rfl (pMul_ok (mulR (by decide) (by decide)))) (l2_of rfl (l2_of rfl rfl rfl) (pMul_ok (mulL (by decide) (by decide)))) rfl) rfl (pMod_ok (by decide))
  generalize hx : (v % 2147483563 * 69069 + 104723 * (k + 1)) % 2147483563 = x at x1
  have bx : 0 ≤ x ∧ x < 2147483563 := by rw [← hx]; exact ⟨Int.emod_nonneg _ (by decide), Int.emod_lt_of_pos _ (by decide)⟩
  have x2 : l2 pMod (l2 pAdd (l2 pMul (eV 3) (eV 3)) (l2 pFdiv (eV 3) (eC (.int 3)))) (eC (.int 2147483399)) [.val (Sd ns), .val (.int k), .val (.int m), .val (.int x)] = some (.int ((x * x + x / 3) % 2147483399)) :=
    l2_of (l2_of (l2_of rfl rfl (pMul_ok (mulL (by omega) (by omega)))) (l2_of rfl rfl (pFdiv_ok ⟨by decide, by decide⟩)) rfl) rfl (pMod_ok (by decide))
  generalize hy : (x * x + x / 3) % 2147483399 = y at x2
  have byy : 0 ≤ y ∧ y < 2147483399 := by rw [← hy]; exact ⟨Int.emod_nonneg _ (by decide), Int.emod_lt_of_pos _ (by decide)⟩
  have x3 : l2 pMod (l2 pFdiv (l2 pMod (l2 pAdd (l2 pMul (eV 3) (eV 3)) (l2 pFdiv (eV 3) (eC (.int 7)))) (eC (.int 2147483647))) (eC (.int 11))) (eV 2) [.val (Sd ns), .val (.int k), .val (.int m), .val (.int y)] = some (.int ((y * y + y / 7) % 2147483647 / 11 % m)) :=
    l2_of (l2_of (l2_of (l2_of (l2_of rfl rfl (pMul_ok (mulL (by omega) (by omega)))) (l2_of rfl rfl (pFdiv_ok ⟨by decide, by decide⟩)) rfl) rfl (pMod_ok (by decide))) rfl (pFdiv_ok ⟨by decide, by decide⟩)) rfl (pMod_ok hm)
  refine ⟨((y * y + y / 7) % 2147483647 / 11 % m).toNat, ?_, ?_⟩
  · have h1 := Int.emod_nonneg ((y * y + y / 7) % 2147483647 / 11) (show m ≠ 0 by omega)
    have h2 := Int.emod_lt_of_pos ((y * y + y / 7) % 2147483647 / 11) hm
    omega
  · have h1 := Int.emod_nonneg ((y * y + y / 7) % 2147483647 / 11) (show m ≠ 0 by omega)
    have e : (((y * y + y / 7) % 2147483647 / 11 % m).toNat : Int) = (y * y + y / 7) % 2147483647 / 11 % m := by omega
    rw [e]
    show Option.bind (g__law_drawn F__law_cell [.val (Sd ns), .val (.int k), .val (.int m), .un]) _ = _
    unfold g__law_drawn sSeq sSet sRet
    rw [x1, Option.bind_some, Option.bind_some]
    show Option.bind (Option.bind (Option.bind (l2 pMod _ _ [.val (Sd ns), .val (.int k), .val (.int m), .val (.int x)]) _) _) _ = _
    rw [x2, Option.bind_some, Option.bind_some]
    show Option.bind (Option.bind (l2 pMod _ _ [.val (Sd ns), .val (.int k), .val (.int m), .val (.int y)]) _) _ = _
    rw [x3]
    rfl
end
end K07
namespace K07
open PySem L2 L2.PU
theorem seq_of {f g : En → Option Out} {η η1 : En} {r : Option Out} (h1 : f η = some (.nx η1)) (h2 : g η1 = r) : sSeq f g η = r := by
  unfold sSeq
  rw [h1]; exact h2
theorem set_of {i : Nat} {f : En → Option PyData} {η : En} {d : PyData} (h : f η = some d) : sSet i f η = some (.nx (η.set i (.val d))) := by
  unfold sSet
  rw [h]; rfl
theorem setO_of {i : Nat} {f : En → Option (List PyData)} {η : En} {d : List PyData} (h : f η = some d) : sSetO i f η = some (.nx (η.set i (.own d))) := by
  unfold sSetO
  rw [h]; rfl
theorem lA_of {o : List PyData → Option PyData} {fs : En → Option (List PyData)} {η : En} {ds : List PyData} {d : PyData} (h1 : fs η = some ds) (h2 : o ds = some d) : lA o fs η = some d := by
  unfold lA
  rw [h1]; exact h2
theorem aC_of {f : En → Option PyData} {g : En → Option (List PyData)} {η : En} {d : PyData} {ds : List PyData} (h1 : f η = some d) (h2 : g η = some ds) : aC f g η = some (d :: ds) := by
  unfold aC
  rw [h1, Option.bind_some, h2]; rfl
theorem if_of {c : En → Option Bool} {f g : En → Option Out} {η : En} {b : Bool} (h : c η = some b) : sIf c f g η = if b = true then f η else g η := by
  unfold sIf
  rw [h]; rfl
theorem bT_of {f : En → Option PyData} {η : En} {b : Bool} (h : f η = some (.bool b)) : bT f η = some b := by
  unfold bT
  rw [h]; rfl
theorem for_of {it : En → Option (List PyData)} {t : En → PyData → Option En} {body : En → Option Out} {η : En} {ds : List PyData} {r : Option Out} (h : it η = some ds) (h2 : sGo t body ds η = r) : sFor it t body η = r := by
  unfold sFor
  rw [h]; exact h2
theorem rng1_ok {j : Int} (h1 : -(2 ^ 62) ≤ j) (h2 : j < 2 ^ 62) : rng1 [.int j] = some (rngL 0 j.toNat) := if_pos ⟨h1, h2⟩
theorem sGo_rng {t : En → PyData → Option En} {body : En → Option Out} (Inv : Nat → En → Prop) (n : Nat)
    (st : ∀ k η, k < n → Inv k η → ∃ η1 η2, t η (.int (0 + (k : Nat))) = some η1 ∧ body η1 = some (.nx η2) ∧ Inv (k + 1) η2) {η : En} (h0 : Inv 0 η) : ∃ η', sGo t body (rngL 0 n) η = some (.nx η') ∧ Inv n η' := by
  have key : ∀ (m k : Nat) (η : En), k + m = n → Inv k η → ∃ η', sGo t body ((List.range' k m).map fun (k : Nat) => PyData.int (0 + (k : Nat))) η = some (.nx η') ∧ Inv n η' := by
    intro m
    induction m with
    | zero => intro k η e h; exact ⟨η, rfl, by rw [← e]; exact h⟩
    | succ m ih =>
      intro k η e h
      obtain ⟨η1, η2, h1, h2, h3⟩ := st k η (by omega) h
      obtain ⟨η', e1, e2⟩ := ih (k + 1) η2 (by omega) h3
      refine ⟨η', ?_, e2⟩
      rw [List.range'_succ, List.map_cons]
      unfold sGo
      rw [h1, Option.bind_some, h2, Option.bind_some]
      exact e1
  unfold rngL
  rw [List.range_eq_range']
  exact key n 0 η (by omega) h0
theorem sGo_all {ι : Type} {t : En → PyData → Option En} {body : En → Option Out} (D : ι → PyData) (Inv : List ι → En → Prop) (all : List ι)
    (st : ∀ done x rest η, all = done ++ x :: rest → Inv done η → ∃ η1 η2, t η (D x) = some η1 ∧ body η1 = some (.nx η2) ∧ Inv (done ++ [x]) η2) {η : En} (h0 : Inv [] η) : ∃ η', sGo t body (all.map D) η = some (.nx η') ∧ Inv all η' := by
  have key : ∀ (rest done : List ι) (η : En), all = done ++ rest → Inv done η → ∃ η', sGo t body (rest.map D) η = some (.nx η') ∧ Inv all η' := by
    intro rest
    induction rest with
    | nil => intro done η e h; exact ⟨η, rfl, by rw [e, List.append_nil]; exact h⟩
    | cons x r ih =>
      intro done η e h
      obtain ⟨η1, η2, h1, h2, h3⟩ := st done x r η e h
      obtain ⟨η', e1, e2⟩ := ih (done ++ [x]) η2 (by rw [e]; simp) h3
      refine ⟨η', ?_, e2⟩
      rw [List.map_cons]
      unfold sGo
      rw [h1, Option.bind_some, h2, Option.bind_some]
      exact e1
  exact key all [] η rfl h0
noncomputable def let8 : List Nat := [100, 98, 103, 97, 104, 99, 102, 101]
noncomputable def nmT (t : Nat) : Nat → Str
  | 0 => ""
  | j + 1 => if j < 8 then ⟨#[let8.getD ((j + t) % 8) 0]⟩ else ⟨(List.replicate (j + 1) 97).toArray⟩
theorem let8_inj : ∀ x : Fin 8, ∀ y : Fin 8, let8.getD x.val 0 = let8.getD y.val 0 → x = y := by decide
theorem nmT_lo {t j : Nat} (h : j < 8) : nmT t (j + 1) = ⟨#[let8.getD ((j + t) % 8) 0]⟩ := if_pos h
theorem nmT_hi {t j : Nat} (h : ¬ j < 8) : nmT t (j + 1) = ⟨(List.replicate (j + 1) 97).toArray⟩ := if_neg h
theorem empty_size : ("" : Str).cps.size = 0 := by decide
theorem nmT_inj (t : Nat) : ∀ a b, nmT t a = nmT t b → a = b := by
  have sz : ∀ a, (nmT t a).cps.size = if a = 0 then 0 else if a - 1 < 8 then 1 else a := fun a => by
    cases a with
    | zero => exact empty_size
    | succ j =>
      by_cases h : j < 8
      · rw [nmT_lo h]; simp [h]
      · rw [nmT_hi h]; simp [h]
  intro a b e
  have s1 := sz a
  have s2 := sz b
  rw [e, s2] at s1
  cases a with
  | zero =>
    cases b with
    | zero => rfl
    | succ k =>
      simp at s1
      split at s1 <;> omega
  | succ j =>
    cases b with
    | zero =>
      simp at s1
      split at s1 <;> omega
    | succ k =>
      by_cases hj : j < 8
      · by_cases hk : k < 8
        · rw [nmT_lo hj, nmT_lo hk] at e
          have e1 : (#[let8.getD ((j + t) % 8) 0] : Array Nat) = #[let8.getD ((k + t) % 8) 0] := by injection e
          have e2 : let8.getD ((j + t) % 8) 0 = let8.getD ((k + t) % 8) 0 := by simpa using e1
          have e3 := let8_inj ⟨(j + t) % 8, Nat.mod_lt _ (by decide)⟩ ⟨(k + t) % 8, Nat.mod_lt _ (by decide)⟩ e2
          have e4 : (j + t) % 8 = (k + t) % 8 := by injection e3
          omega
        · simp [hj, hk] at s1; omega
      · by_cases hk : k < 8
        · simp [hj, hk] at s1; omega
        · simp [hj, hk] at s1; omega
theorem let8_lt : ∀ x : Fin 8, let8.getD x.val 0 < 0x110000 := by decide
theorem nmT_ok (t : Nat) : ∀ a, PyData.strOk (nmT t a) = true := fun a => by
  cases a with
  | zero => exact (by decide +kernel : PyData.strOk ("" : Str) = true)
  | succ j =>
    by_cases h : j < 8
    · rw [nmT_lo h]
      have := let8_lt ⟨(j + t) % 8, Nat.mod_lt _ (by decide)⟩
      simp only [List.getD_eq_getElem?_getD] at this
      simp [PyData.strOk, this]
    · rw [nmT_hi h]
      unfold PyData.strOk
      rw [Array.all_eq_true]
      intro i hi
      simp
structure Dr where
  ps : List Nat
  nm : Nat → Str
  L : Nat → Int
  T : Nat → Int
  W : Nat → Int
  H : Nat → Int
  mr : Nat → Str
noncomputable def bd (l t w h : Int) : Prop := (-3 ≤ l ∧ l ≤ 5) ∧ (-3 ≤ t ∧ t ≤ 5) ∧ (0 ≤ w ∧ w ≤ 8) ∧ (0 ≤ h ∧ h ≤ 8)
noncomputable def mkS : List Bool → Str
  | [] => ""
  | b :: r => mkS r ++ (if b then (⟨#[[99, 102, 104, 108].getD r.length 0]⟩ : Str) else ("" : Str))
noncomputable def mkOk (m : Str) : Prop := ∃ bs : List Bool, bs.length = 4 ∧ m = mkS bs
structure Dr.Ok (c : Dr) : Prop where
  inj : ∀ a b, c.nm a = c.nm b → a = b
  top : c.nm 0 = ""
  ok : ∀ a, PyData.strOk (c.nm a) = true
  okm : ∀ a, PyData.strOk (c.mr a) = true
  len : c.ps.length ≤ 12
  par : ∀ i, c.ps.getD i 0 ≤ i
  bds : ∀ i, bd (c.L i) (c.T i) (c.W i) (c.H i)
  mks : ∀ i, mkOk (c.mr i)
noncomputable def Dr.box (c : Dr) (i : Nat) : PyData := .tuple [.str (c.nm (i + 1)), .str (c.nm (c.ps.getD i 0)), .int (c.L i), .int (c.T i), .int (c.W i), .int (c.H i), .str (c.mr i)]
noncomputable def Dr.d (c : Dr) : PyData := .tuple ((List.range c.ps.length).map c.box)
noncomputable def Dr.s (c : Dr) (q : Nat) : PyData := .str (c.nm q)
noncomputable def Dr.more (c : Dr) (p : Nat) (l t w h : Int) (m : Str) : Dr :=
  { ps := c.ps ++ [p], nm := c.nm, L := fun i => if i = c.ps.length then l else c.L i, T := fun i => if i = c.ps.length then t else c.T i, W := fun i => if i = c.ps.length then w else c.W i,
    H := fun i => if i = c.ps.length then h else c.H i, mr := fun i => if i = c.ps.length then m else c.mr i }
theorem Dr.more_d (c : Dr) (p : Nat) (l t w h : Int) (m : Str) : (c.more p l t w h m).d = .tuple ((List.range c.ps.length).map c.box ++ [.tuple [.str (c.nm (c.ps.length + 1)), .str (c.nm p), .int l, .int t, .int w, .int h, .str m]]) := by
  unfold Dr.d
  have e : (c.more p l t w h m).ps.length = c.ps.length + 1 := by unfold Dr.more; simp
  rw [e, List.range_succ, List.map_append]
  congr 2
  · refine List.map_congr_left fun i hi => ?_
    have hlt := List.mem_range.mp hi
    have hne : i ≠ c.ps.length := Nat.ne_of_lt hlt
    have hps : (c.ps ++ [p])[i]? = c.ps[i]? := List.getElem?_append_left hlt
    unfold Dr.box Dr.more
    simp only [hne, if_false, List.getD_eq_getElem?_getD, hps]
  · unfold Dr.box Dr.more
    simp
theorem Dr.more_ok {c : Dr} (h : c.Ok) (hl : c.ps.length < 12) {p : Nat} (hp : p ≤ c.ps.length) (l t w g : Int) {m : Str} (hm : PyData.strOk m = true) (hb : bd l t w g) (hk : mkOk m) : (c.more p l t w g m).Ok where
  inj := h.inj
  top := h.top
  ok := h.ok
  okm := fun i => by
    unfold Dr.more
    dsimp only
    split
    · exact hm
    · exact h.okm i
  len := by unfold Dr.more; simp; omega
  par := fun i => by
    unfold Dr.more
    dsimp only
    rw [List.getD_eq_getElem?_getD]
    by_cases hi : i < c.ps.length
    · rw [List.getElem?_append_left hi, ← List.getD_eq_getElem?_getD]
      exact h.par i
    · by_cases he : i = c.ps.length
      · subst he
        rw [List.getElem?_append_right (Nat.le_refl _)]
        simpa using hp
      · rw [List.getElem?_eq_none (by simp; omega)]
        exact Nat.zero_le _
  bds := fun i => by
    unfold Dr.more
    dsimp only
    by_cases e : i = c.ps.length
    · rw [if_pos e, if_pos e, if_pos e, if_pos e]; exact hb
    · rw [if_neg e, if_neg e, if_neg e, if_neg e]; exact h.bds i
  mks := fun i => by
    unfold Dr.more
    dsimp only
    split
    · exact hk
    · exact h.mks i
end K07
namespace K07
open PySem L2 L2.PU
noncomputable def sg4 : Nat → Str := fun j => ⟨#[[99, 102, 104, 108].getD j 0]⟩
theorem cfhl : enS [.str "cfhl"] = some ([0, 1, 2, 3].map fun (j : Nat) => PyData.tuple [.int (j : Nat), .str (sg4 j)]) := by
  have e : ("cfhl" : Str).cps.toList = [99, 102, 104, 108] := by decide +kernel
  unfold enS
  dsimp only
  unfold signD
  rw [e]
  rfl
theorem dbg : ("dbgahcfe" : Str).cps.toList = let8 := by decide +kernel
theorem dbg_len : ("dbgahcfe" : Str).length ≤ sizeLine := by decide +kernel
theorem strOk_app {a b : Str} (ha : PyData.strOk a = true) (hb : PyData.strOk b = true) : PyData.strOk (a ++ b) = true := by
  unfold PyData.strOk at ha hb ⊢
  show (a.cps ++ b.cps).all _ = true
  rw [Array.all_append, ha, hb]; rfl
theorem len_app (a b : Str) : (a ++ b).length = a.length + b.length := by
  show (a.cps ++ b.cps).size = _
  rw [Array.size_append]; rfl
theorem sg4_ok (j : Nat) (h : j ∈ [0, 1, 2, 3]) : PyData.strOk (sg4 j) = true := by
  simp at h
  rcases h with rfl | rfl | rfl | rfl <;> decide +kernel
theorem mkS_false (bs : List Bool) : mkS bs = mkS (false :: bs) := by
  show mkS bs = mkS bs ++ ("" : Str)
  apply str_ext
  show _ = ((mkS bs).cps ++ ("" : Str).cps).toList
  have : ("" : Str).cps = #[] := by decide +kernel
  rw [this]; simp
theorem sg4_len (j : Nat) : (sg4 j).length = 1 := rfl
section
variable {ns : List Int} (hn : ns.length ≤ 63)
include hn
theorem marks_ok {x1 x2 x3 x4 x6 x7 x8 : Sl} {hh : Int} (h0 : 0 ≤ hh) (s10 s11 s12 : Sl) : ∃ (m : Str) (u v : Sl), (PyData.strOk m = true ∧ mkOk m) ∧
    sFor (fun η => ((aC (eC (.str "cfhl")) aN) η).bind enS) (tgT (tgCons (tgN 10) (tgCons (tgN 11) tgNil)))
    (sIf (bT (l2 pEq (lA F__law_drawn (aC (eV 0) (aC (l2 pAdd (l2 pAdd (eV 5) (eC (.int 5))) (eV 10)) (aC (l2 pIx (oE (fun η => ((aC (eC (.int 4)) (aC (eC (.int 2)) (aC (eC (.int 9)) (aC (eC (.int 6)) aN)))) η).bind gL)) (eV 10)) aN)))) (eC (.int 0)))) (sSet 9 (l2 pAdd (eV 9) (eV 11))) sNx)
      [.val (Sd ns), x1, x2, x3, x4, .val (.int hh), x6, x7, x8, .val (.str ""), s10, s11, s12] = some (.nx [.val (Sd ns), x1, x2, x3, x4, .val (.int hh), x6, x7, x8, .val (.str m), u, v, s12]) := by
  have inv := sGo_all (t := tgT (tgCons (tgN 10) (tgCons (tgN 11) tgNil)))
    (body := (sIf (bT (l2 pEq (lA F__law_drawn (aC (eV 0) (aC (l2 pAdd (l2 pAdd (eV 5) (eC (.int 5))) (eV 10)) (aC (l2 pIx (oE (fun η => ((aC (eC (.int 4)) (aC (eC (.int 2)) (aC (eC (.int 9)) (aC (eC (.int 6)) aN)))) η).bind gL)) (eV 10)) aN)))) (eC (.int 0)))) (sSet 9 (l2 pAdd (eV 9) (eV 11))) sNx))
    (fun (j : Nat) => PyData.tuple [.int (j : Nat), .str (sg4 j)])
    (fun done η => ∃ (m : Str) (u v : Sl), (PyData.strOk m = true ∧ ∃ bs : List Bool, bs.length = done.length ∧ m = mkS bs) ∧ m.length ≤ done.length ∧ η = [.val (Sd ns), x1, x2, x3, x4, .val (.int hh), x6, x7, x8, .val (.str m), u, v, s12])
    [0, 1, 2, 3] ?_ (η := [.val (Sd ns), x1, x2, x3, x4, .val (.int hh), x6, x7, x8, .val (.str ""), s10, s11, s12]) ⟨"", s10, s11, ⟨by decide +kernel, [], rfl, rfl⟩, by decide +kernel, rfl⟩
  · obtain ⟨η', e1, m, u, v, hm, _, rfl⟩ := inv
    refine ⟨m, u, v, ⟨hm.1, hm.2⟩, for_of (ds := [0, 1, 2, 3].map fun (j : Nat) => PyData.tuple [.int (j : Nat), .str (sg4 j)]) cfhl e1⟩
  · rintro done j rest η hall ⟨m, u, v, hm, hml, rfl⟩
    have hj : j ∈ [0, 1, 2, 3] := by rw [hall]; simp
    have hdl : done.length ≤ 3 := by
      have := congrArg List.length hall
      simp at this
      omega
    have hjd : j = done.length := by
      match done, hall, hdl with
      | [], hall, _ => simp at hall; simp [hall.1]
      | [_], hall, _ => simp at hall; simp [hall.2.1]
      | [_, _], hall, _ => simp at hall; simp [hall.2.2.1]
      | [_, _, _], hall, _ => simp at hall; simp [hall.2.2.2.1]
    obtain ⟨hm, bs, hbs, hmm⟩ := hm
    have hmod : ∃ q : Int, 0 < q ∧ l2 pIx (oE (fun η => ((aC (eC (.int 4)) (aC (eC (.int 2)) (aC (eC (.int 9)) (aC (eC (.int 6)) aN)))) η).bind gL)) (eV 10) [.val (Sd ns), x1, x2, x3, x4, .val (.int hh), x6, x7, x8, .val (.str m), .val (.int (j : Nat)), .val (.str (sg4 j)), s12] = some (.int q) := by
      have eo : oE (fun η => ((aC (eC (.int 4)) (aC (eC (.int 2)) (aC (eC (.int 9)) (aC (eC (.int 6)) aN)))) η).bind gL) [.val (Sd ns), x1, x2, x3, x4, .val (.int hh), x6, x7, x8, .val (.str m), .val (.int (j : Nat)), .val (.str (sg4 j)), s12] = some (.list [.int 4, .int 2, .int 9, .int 6]) := by
        have : gL [.int 4, .int 2, .int 9, .int 6] = some [.int 4, .int 2, .int 9, .int 6] := if_pos (by show 4 ≤ sizeLine; decide)
        show Option.bind (gL [.int 4, .int 2, .int 9, .int 6]) _ = _
        rw [this]; rfl
      simp at hj
      rcases hj with rfl | rfl | rfl | rfl
      · exact ⟨4, by decide, l2_of eo rfl rfl⟩
      · exact ⟨2, by decide, l2_of eo rfl rfl⟩
      · exact ⟨9, by decide, l2_of eo rfl rfl⟩
      · exact ⟨6, by decide, l2_of eo rfl rfl⟩
    obtain ⟨q, hq, eq⟩ := hmod
    obtain ⟨r, hr, er⟩ := drawn_ok hn (k := hh + 5 + (j : Nat)) (m := q) (by omega) hq
    have eb : bT (l2 pEq (lA F__law_drawn (aC (eV 0) (aC (l2 pAdd (l2 pAdd (eV 5) (eC (.int 5))) (eV 10)) (aC (l2 pIx (oE (fun η => ((aC (eC (.int 4)) (aC (eC (.int 2)) (aC (eC (.int 9)) (aC (eC (.int 6)) aN)))) η).bind gL)) (eV 10)) aN)))) (eC (.int 0)))
        [.val (Sd ns), x1, x2, x3, x4, .val (.int hh), x6, x7, x8, .val (.str m), .val (.int (j : Nat)), .val (.str (sg4 j)), s12] = some ((r : Int) == 0) :=
      bT_of (l2_of (lA_of (aC_of rfl (aC_of (l2_of (l2_of rfl rfl rfl) rfl rfl) (aC_of eq rfl))) er) rfl (pEq_int _ _))
    refine ⟨[.val (Sd ns), x1, x2, x3, x4, .val (.int hh), x6, x7, x8, .val (.str m), .val (.int (j : Nat)), .val (.str (sg4 j)), s12], ?_⟩
    by_cases h0 : (r : Int) == 0
    · refine ⟨[.val (Sd ns), x1, x2, x3, x4, .val (.int hh), x6, x7, x8, .val (.str (m ++ sg4 j)), .val (.int (j : Nat)), .val (.str (sg4 j)), s12], rfl, ?_, m ++ sg4 j, _, _, ⟨strOk_app hm (sg4_ok j hj), true :: bs, by simp [hbs], by rw [hmm, hjd, ← hbs]; rfl⟩, ?_, rfl⟩
      · rw [if_of eb, if_pos h0]
        refine set_of (d := .str (m ++ sg4 j)) (l2_of rfl rfl ?_)
        show (if m.length + (sg4 j).length ≤ sizeLine then some (PyData.str (m ++ sg4 j)) else none) = _
        rw [if_pos (by rw [sg4_len]; exact big (by omega))]
      · rw [len_app, sg4_len, List.length_append]
        simpa using hml
    · refine ⟨[.val (Sd ns), x1, x2, x3, x4, .val (.int hh), x6, x7, x8, .val (.str m), .val (.int (j : Nat)), .val (.str (sg4 j)), s12], rfl, ?_, m, _, _, ⟨hm, false :: bs, by simp [hbs], by rw [hmm]; exact mkS_false bs⟩, ?_, rfl⟩
      · rw [if_of eb, if_neg h0]; rfl
      · rw [List.length_append]; simp; omega
end
end K07
namespace K07
open PySem L2 L2.PU
noncomputable def tup1 : List PyData → Option PyData := fun ds => if ds.length ≤ sizeLine then some (.tuple ds) else none
theorem tup1_ok {ds : List PyData} (h : ds.length ≤ 3000000) : (if ds.length ≤ sizeLine then some (PyData.tuple ds) else none) = some (.tuple ds) := if_pos (big h)
theorem gL_ok {ds : List PyData} (h : ds.length ≤ 3000000) : gL ds = some ds := if_pos (big h)
theorem addL {a b : List PyData} (h : a.length + b.length ≤ 3000000) : pAdd (.list a) (.list b) = some (.list (a ++ b)) := if_pos (big h)
theorem addT {a b : List PyData} (h : a.length + b.length ≤ 3000000) : pAdd (.tuple a) (.tuple b) = some (.tuple (a ++ b)) := if_pos (big h)
theorem oE_of {f : En → Option (List PyData)} {η : En} {ds : List PyData} (h : f η = some ds) : oE f η = some (.list ds) := by
  unfold oE
  rw [h]; rfl
theorem comp_eq {mp : List (Option Nat)} {fi : En → Option (List PyData)} {t : En → PyData → Option En} {p : En → Option Bool} {f : En → Option PyData} {η : En} {ds : List PyData} {r : Option (List PyData)} (h1 : fi η = some ds) (hz : ds.length ≤ 3000000) (h2 : cGo t p f (inEn mp η) ds = r) : sComp mp fi t p f η = r := by
  unfold sComp
  rw [h1, Option.bind_some, if_pos (big hz)]
  exact h2
noncomputable def sBody (fn__law_drawn : List PyData → Option PyData) : En → Option Out :=
  (sSeq (sSet 5 (l2 pAdd (l2 pAdd (eV 1) (eC (.int 3))) (l2 pMul (eC (.int 9)) (eV 4))))
    (sSeq (sSet 6 (l2 pIx (l2 pAdd (oE (fun η => ((aC (eC (.str "")) aN) η).bind gL)) (oE (sComp [none] (lI asTu (eV 2)) (tgN 0) tTrue (l2 pIx (eV 0) (eC (.int 0)))))) (lA fn__law_drawn (aC (eV 0) (aC (eV 5) (aC (l2 pAdd (eV 4) (eC (.int 1))) aN))))))
    (sSeq (sSetO 7 (sComp [none, some 0, some 5] (fun η => ((aC (eC (.int 2)) aN) η).bind rng1) (tgN 0) tTrue (l2 pSub (lA fn__law_drawn (aC (eV 1) (aC (l2 pAdd (l2 pAdd (eV 2) (eC (.int 1))) (eV 0)) (aC (eC (.int 9)) aN)))) (eC (.int 3)))))
    (fun η => (sSeq (sSetO 8 (sComp [none, some 0, some 5] (fun η => ((aC (eC (.int 2)) aN) η).bind rng1) (tgN 0) tTrue (lA fn__law_drawn (aC (eV 1) (aC (l2 pAdd (l2 pAdd (eV 2) (eC (.int 3))) (eV 0)) (aC (eC (.int 9)) aN))))))
    (fun η => (sSeq (sSet 9 (eC (.str "")))
    (sSeq (sFor (fun η => ((aC (eC (.str "cfhl")) aN) η).bind enS) (tgT (tgCons (tgN 10) (tgCons (tgN 11) tgNil)))
    (sIf (bT (l2 pEq (lA fn__law_drawn (aC (eV 0) (aC (l2 pAdd (l2 pAdd (eV 5) (eC (.int 5))) (eV 10)) (aC (l2 pIx (oE (fun η => ((aC (eC (.int 4)) (aC (eC (.int 2)) (aC (eC (.int 9)) (aC (eC (.int 6)) aN)))) η).bind gL)) (eV 10)) aN)))) (eC (.int 0)))) (sSet 9 (l2 pAdd (eV 9) (eV 11))) sNx))
    (sSeq (sSet 12 (l2 pIx (eC (.str "dbgahcfe")) (l2 pMod (l2 pAdd (eV 4) (eV 3)) (eC (.int 8)))))
    (sSet 2 (l2 pAdd (eV 2) (lA (fun ds => if ds.length ≤ sizeLine then some (.tuple ds) else none) (aC (l2 pAdd (l2 pAdd (lA (fun ds => if ds.length ≤ sizeLine then some (.tuple ds) else none) (aC (eV 12) (aC (eV 6) aN))) (lA pTup (aC (l2 pAdd (eV 7) (eV 8)) aN))) (lA (fun ds => if ds.length ≤ sizeLine then some (.tuple ds) else none) (aC (eV 9) aN))) aN))))))) (frz 8 η))) (frz 7 η)))))
section
variable {ns : List Int} (hn : ns.length ≤ 63)
include hn
theorem two_ok {f : En → Option PyData} {η : En} {mp : List (Option Nat)} (lo hi : Int) (h : ∀ k : Nat, k < 2 → ∃ y, (lo ≤ y ∧ y ≤ hi) ∧ f ((inEn mp η).set 0 (.val (.int (0 + (k : Nat))))) = some (.int y)) : ∃ a b : Int, ((lo ≤ a ∧ a ≤ hi) ∧ (lo ≤ b ∧ b ≤ hi)) ∧ sComp mp (fun η => ((aC (eC (.int 2)) aN) η).bind rng1) (tgN 0) tTrue f η = some [.int a, .int b] := by
  obtain ⟨a, ha, ea⟩ := h 0 (by decide)
  obtain ⟨b, hb, eb⟩ := h 1 (by decide)
  refine ⟨a, b, ⟨ha, hb⟩, comp_eq (ds := rngL 0 2) (rng1_ok (j := 2) (by decide) (by decide)) (by decide) ?_⟩
  have := cGo_map (t := tgN 0) (p := tTrue) (f := f) (η := inEn mp η) (fun (k : Nat) => PyData.int (0 + (k : Nat))) (fun _ => true) (fun k => .int (if k = 0 then a else b)) (List.range 2) fun k hk => by
    refine ⟨_, rfl, rfl, fun _ => ?_⟩
    have hk := List.mem_range.mp hk
    rcases (show k = 0 ∨ k = 1 by omega) with rfl | rfl
    · exact ea
    · exact eb
  exact this
theorem scene_ok : ∃ (c : Dr) (tn : Nat), c.Ok ∧ c.nm = nmT tn ∧ c.ps.length ≤ 7 ∧ F__law_scene [Sd ns, .int 0] = some c.d := by
  obtain ⟨tn, htn, et⟩ := drawn_ok hn (k := 0 + 1) (m := 8) (by decide) (by decide)
  obtain ⟨n, hnn, en⟩ := drawn_ok hn (k := 0) (m := 8) (by decide) (by decide)
  have main := sGo_rng (t := tgN 4) (body := sBody F__law_drawn) (fun k η => ∃ (c : Dr) (s4 s5 s6 s7 s8 s9 s10 s11 s12 : Sl), c.Ok ∧ c.nm = nmT tn ∧ c.ps.length = k ∧ η = [.val (Sd ns), .val (.int 0), .val c.d, .val (.int tn), s4, s5, s6, s7, s8, s9, s10, s11, s12]) n ?st
    (η := [.val (Sd ns), .val (.int 0), .val (.tuple []), .val (.int tn), .un, .un, .un, .un, .un, .un, .un, .un, .un]) ⟨⟨[], nmT tn, fun _ => 0, fun _ => 0, fun _ => 0, fun _ => 0, fun _ => ""⟩, .un, .un, .un, .un, .un, .un, .un, .un, .un,
      ⟨nmT_inj tn, rfl, nmT_ok tn, fun _ => nmT_ok 0 0, by simp, fun _ => by simp, fun _ => by show bd 0 0 0 0; unfold bd; decide, fun _ => ⟨[false, false, false, false], rfl, by show ("" : Str) = mkS [false, false, false, false]; decide +kernel⟩⟩, rfl, rfl, rfl⟩
  case st =>
    rintro k η hk ⟨c, s4, s5, s6, s7, s8, s9, s10, s11, s12, hc, hnm, hlen, rfl⟩
    have hk7 : k < 7 := by omega
    refine ⟨[.val (Sd ns), .val (.int 0), .val c.d, .val (.int tn), .val (.int (0 + (k : Nat))), s5, s6, s7, s8, s9, s10, s11, s12], ?_⟩
    have hh : l2 pAdd (l2 pAdd (eV 1) (eC (.int 3))) (l2 pMul (eC (.int 9)) (eV 4)) [.val (Sd ns), .val (.int 0), .val c.d, .val (.int tn), .val (.int (0 + (k : Nat))), s5, s6, s7, s8, s9, s10, s11, s12] = some (.int (0 + 3 + 9 * (0 + (k : Nat)))) :=
      l2_of (l2_of rfl rfl rfl) (l2_of rfl rfl (pMul_ok (mulL (by decide) (by decide)))) rfl
    generalize hhe : (0 + 3 + 9 * (0 + (k : Nat)) : Int) = hr at hh
    have hr0 : 0 ≤ hr := by omega
    obtain ⟨p, hp, ep⟩ := drawn_ok hn (k := hr) (m := 0 + (k : Nat) + 1) hr0 (by omega)
    have hp' : p ≤ k := by omega
    have ea : l2 pIx (l2 pAdd (oE (fun η => ((aC (eC (.str "")) aN) η).bind gL)) (oE (sComp [none] (lI asTu (eV 2)) (tgN 0) tTrue (l2 pIx (eV 0) (eC (.int 0)))))) (lA F__law_drawn (aC (eV 0) (aC (eV 5) (aC (l2 pAdd (eV 4) (eC (.int 1))) aN))))
        [.val (Sd ns), .val (.int 0), .val c.d, .val (.int tn), .val (.int (0 + (k : Nat))), .val (.int hr), s6, s7, s8, s9, s10, s11, s12] = some (c.s p) := by
      have e1 : oE (fun η => ((aC (eC (.str "")) aN) η).bind gL) [.val (Sd ns), .val (.int 0), .val c.d, .val (.int tn), .val (.int (0 + (k : Nat))), .val (.int hr), s6, s7, s8, s9, s10, s11, s12] = some (.list [c.s 0]) := by
        refine oE_of ?_
        show gL [.str ""] = _
        rw [gL_ok (by decide)]
        unfold Dr.s
        rw [hc.top]
      have e2 : oE (sComp [none] (lI asTu (eV 2)) (tgN 0) tTrue (l2 pIx (eV 0) (eC (.int 0)))) [.val (Sd ns), .val (.int 0), .val c.d, .val (.int tn), .val (.int (0 + (k : Nat))), .val (.int hr), s6, s7, s8, s9, s10, s11, s12] = some (.list ((List.range k).map fun i => c.s (i + 1))) := by
        refine oE_of (comp_eq (ds := (List.range c.ps.length).map c.box) rfl (by rw [List.length_map, List.length_range]; omega) ?_)
        rw [hlen]
        have := cGo_map (t := tgN 0) (p := tTrue) (f := l2 pIx (eV 0) (eC (.int 0))) (η := [.un]) c.box (fun _ => true) (fun i => c.s (i + 1)) (List.range k) fun i _ => ⟨_, rfl, rfl, fun _ => rfl⟩
        rw [show (List.range k).filter (fun _ => true) = List.range k by simp] at this
        exact this
      refine l2_of (l2_of e1 e2 (addL (by simp; omega))) (lA_of (aC_of rfl (aC_of rfl (aC_of (l2_of rfl rfl rfl) rfl))) ep) ?_
      show atI ([c.s 0] ++ (List.range k).map fun i => c.s (i + 1)) (p : Int) = _
      refine atI_nat ?_
      cases p with
      | zero => rfl
      | succ j =>
        show ((List.range k).map fun i => c.s (i + 1))[j]? = _
        rw [List.getElem?_map, List.getElem?_range (by omega)]
        rfl
    obtain ⟨pa, pb, hbp, epl⟩ := two_ok hn (-3) 5 (mp := [none, some 0, some 5]) (f := l2 pSub (lA F__law_drawn (aC (eV 1) (aC (l2 pAdd (l2 pAdd (eV 2) (eC (.int 1))) (eV 0)) (aC (eC (.int 9)) aN)))) (eC (.int 3)))
      (η := [.val (Sd ns), .val (.int 0), .val c.d, .val (.int tn), .val (.int (0 + (k : Nat))), .val (.int hr), .val (c.s p), s7, s8, s9, s10, s11, s12]) fun j hj => by
        obtain ⟨r, hr9, er⟩ := drawn_ok hn (k := hr + 1 + (0 + (j : Nat))) (m := 9) (by omega) (by decide)
        exact ⟨(r : Int) - 3, by omega, l2_of (lA_of (aC_of rfl (aC_of (l2_of (l2_of rfl rfl rfl) rfl rfl) (aC_of rfl rfl))) er) rfl rfl⟩
    obtain ⟨sa, sb, hbs, esz⟩ := two_ok hn 0 8 (mp := [none, some 0, some 5]) (f := lA F__law_drawn (aC (eV 1) (aC (l2 pAdd (l2 pAdd (eV 2) (eC (.int 3))) (eV 0)) (aC (eC (.int 9)) aN))))
      (η := [.val (Sd ns), .val (.int 0), .val c.d, .val (.int tn), .val (.int (0 + (k : Nat))), .val (.int hr), .val (c.s p), .val (.list [.int pa, .int pb]), s8, s9, s10, s11, s12]) fun j hj => by
        obtain ⟨r, hr9, er⟩ := drawn_ok hn (k := hr + 3 + (0 + (j : Nat))) (m := 9) (by omega) (by decide)
        exact ⟨(r : Int), by omega, lA_of (aC_of rfl (aC_of (l2_of (l2_of rfl rfl rfl) rfl rfl) (aC_of rfl rfl))) er⟩
    obtain ⟨m, u, v, hm, em⟩ := marks_ok hn (x1 := .val (.int 0)) (x2 := .val c.d) (x3 := .val (.int tn)) (x4 := .val (.int (0 + (k : Nat)))) (x6 := .val (c.s p)) (x7 := .val (.list [.int pa, .int pb])) (x8 := .val (.list [.int sa, .int sb])) hr0 s10 s11 s12
    have enm : l2 pIx (eC (.str "dbgahcfe")) (l2 pMod (l2 pAdd (eV 4) (eV 3)) (eC (.int 8))) [.val (Sd ns), .val (.int 0), .val c.d, .val (.int tn), .val (.int (0 + (k : Nat))), .val (.int hr), .val (c.s p), .val (.list [.int pa, .int pb]), .val (.list [.int sa, .int sb]), .val (.str m), u, v, s12] = some (c.s (k + 1)) := by
      refine l2_of rfl (l2_of (l2_of rfl rfl rfl) rfl (pMod_ok (by decide))) ?_
      show (if ("dbgahcfe" : Str).length ≤ sizeLine then (atI ("dbgahcfe" : Str).cps.toList ((0 + (k : Nat) + (tn : Int)) % 8)).bind _ else none) = _
      rw [if_pos dbg_len, dbg]
      have e8 : ((0 + (k : Nat) + (tn : Int)) % 8 : Int) = (((k + tn) % 8 : Nat) : Int) := by omega
      have hlt : (k + tn) % 8 < 8 := Nat.mod_lt _ (by decide)
      rw [e8, atI_nat (v := let8.getD ((k + tn) % 8) 0) (by rw [List.getD_eq_getElem?_getD, List.getElem?_eq_getElem (show (k + tn) % 8 < let8.length from hlt)]; rfl)]
      unfold Dr.s
      rw [hnm, nmT_lo (by omega)]
      rfl
    have hcd : c.d = .tuple ((List.range c.ps.length).map c.box) := rfl
    have efin : l2 pAdd (eV 2) (lA (fun ds => if ds.length ≤ sizeLine then some (.tuple ds) else none) (aC (l2 pAdd (l2 pAdd (lA (fun ds => if ds.length ≤ sizeLine then some (.tuple ds) else none) (aC (eV 12) (aC (eV 6) aN))) (lA pTup (aC (l2 pAdd (eV 7) (eV 8)) aN))) (lA (fun ds => if ds.length ≤ sizeLine then some (.tuple ds) else none) (aC (eV 9) aN))) aN))
        [.val (Sd ns), .val (.int 0), .val c.d, .val (.int tn), .val (.int (0 + (k : Nat))), .val (.int hr), .val (c.s p), .val (.list [.int pa, .int pb]), .val (.list [.int sa, .int sb]), .val (.str m), u, v, .val (c.s (k + 1))] = some (c.more p pa pb sa sb m).d := by
      rw [Dr.more_d]
      refine l2_of (x := c.d) rfl (lA_of (aC_of (l2_of (l2_of (lA_of (aC_of rfl (aC_of rfl rfl)) (tup1_ok (by simp))) (lA_of (aC_of (l2_of rfl rfl (addL (by simp))) rfl) rfl) (addT (by simp))) (lA_of (aC_of rfl rfl) (tup1_ok (by simp))) (addT (by simp))) rfl) (tup1_ok (by simp))) ?_
      rw [hcd]
      refine (addT (by simp; omega)).trans ?_
      rw [hlen]
      rfl
    refine ⟨[.val (Sd ns), .val (.int 0), .val (c.more p pa pb sa sb m).d, .val (.int tn), .val (.int (0 + (k : Nat))), .val (.int hr), .val (c.s p), .val (.list [.int pa, .int pb]), .val (.list [.int sa, .int sb]), .val (.str m), u, v, .val (c.s (k + 1))], rfl, ?_,
      c.more p pa pb sa sb m, _, _, _, _, _, _, _, _, _, Dr.more_ok hc (by omega) (by omega) pa pb sa sb hm.1 ⟨hbp.1, hbp.2, hbs.1, hbs.2⟩ hm.2, hnm, by simp [Dr.more, hlen], rfl⟩
    refine seq_of (set_of hh) (seq_of (set_of ea) (seq_of (setO_of epl) ?_))
    refine seq_of (setO_of esz) ?_
    refine seq_of (set_of rfl) (seq_of em (seq_of (set_of enm) (set_of efin)))
  obtain ⟨η', e1, c, s4, s5, s6, s7, s8, s9, s10, s11, s12, hc, hnm, hlen, rfl⟩ := main
  refine ⟨c, tn, hc, hnm, by omega, ?_⟩
  unfold F__law_scene runF
  rw [if_pos (by rfl)]
  show Option.bind (g__law_scene F__law_drawn [.val (Sd ns), .val (.int 0), .un, .un, .un, .un, .un, .un, .un, .un, .un, .un, .un]) _ = _
  have e2 : g__law_scene F__law_drawn [.val (Sd ns), .val (.int 0), .un, .un, .un, .un, .un, .un, .un, .un, .un, .un, .un] = some (.rt c.d) := by
    refine seq_of (set_of (lA_of rfl (tup1_ok (by decide)))) (seq_of (set_of (lA_of (aC_of rfl (aC_of (l2_of rfl rfl rfl) (aC_of rfl rfl))) et)) (seq_of (for_of ?_ e1) rfl))
    show Option.bind (aC (lA F__law_drawn _) aN _) rng1 = _
    rw [aC_of (lA_of (aC_of rfl (aC_of rfl (aC_of rfl rfl))) en) rfl]
    rw [Option.bind_some, rng1_ok (by omega) (by omega), Int.toNat_natCast]
  rw [e2]; rfl
end
end K07
namespace K07
open PySem L2 L2.PU
theorem eqvAll_refl_int : ∀ ss : List Int, PyData.eqvAll (ss.map PyData.int) (ss.map PyData.int) = true
  | [] => by simp [PyData.eqvAll]
  | s :: r => by
    have ih := eqvAll_refl_int r
    rw [List.map_cons]
    unfold PyData.eqvAll PyData.eqv
    rw [ih]; simp
theorem pNe_ints (ns : List Int) : pNe (.list (ns.map PyData.int)) (.list (ns.map PyData.int)) = some (.bool false) := by
  unfold pNe
  rw [if_pos ⟨shaped_ints ns, shaped_ints ns⟩]
  unfold PyData.eqv
  rw [eqvAll_refl_int]; rfl
theorem bOr_of {f g : En → Option Bool} {η : En} {b : Bool} (h1 : f η = some false) (h2 : g η = some b) : bOr f g η = some b := by
  unfold bOr
  rw [h1]; exact h2
theorem bAndF {f g : En → Option Bool} {η : En} (h1 : f η = some false) : bAnd f g η = some false := by
  unfold bAnd
  rw [h1]; rfl
theorem bAndT {f g : En → Option Bool} {η : En} {b : Bool} (h1 : f η = some true) (h2 : g η = some b) : bAnd f g η = some b := by
  unfold bAnd
  rw [h1]; exact h2
theorem ifF {c : En → Option Bool} {f g : En → Option Out} {η : En} (h : c η = some false) : sIf c f g η = g η := by
  rw [if_of h]; rfl
theorem vIf_of {c : En → Option Bool} {f g : En → Option PyData} {η : En} {b : Bool} (h : c η = some b) : vIf c f g η = if b = true then f η else g η := by
  unfold vIf
  rw [h]; rfl
theorem lI_of {k : PyData → Option (List PyData)} {f : En → Option PyData} {η : En} {d : PyData} {ds : List PyData} (h : f η = some d) (h2 : k d = some ds) : lI k f η = some ds := by
  unfold lI
  rw [h]; exact h2
section
variable {c : Sc} (h : c.Ok)
theorem flat_all (l : List Nat) : (l.map c.s).all flatD = true := by
  rw [List.all_map, List.all_eq_true]
  intro x _
  rfl
include h
theorem eqv_s (a b : Nat) : PyData.eqv (c.s a) (c.s b) = decide (a = b) := by
  unfold Sc.s PyData.eqv
  rw [str_dec, h.dec]
theorem any_s (x : Nat) (l : List Nat) : ((l.map c.s).any fun y => PyData.eqv y (c.s x)) = decide (x ∈ l) := by
  induction l with
  | nil => simp
  | cons y r ih =>
    rw [List.map_cons, List.any_cons, ih, eqv_s h]
    by_cases e : y = x
    · subst e; simp
    · have : ¬ x = y := fun z => e z.symm
      simp [e, this]
theorem pIn_s (neg : Bool) (x : Nat) (l : List Nat) : pIn neg (c.s x) (c.S l) = some (.bool (if neg then !decide (x ∈ l) else decide (x ∈ l))) := by
  unfold pIn Sc.S
  dsimp only
  rw [if_pos ⟨rfl, flat_all l⟩, any_s h]
theorem pIdx_s {x : Nat} {l : List Nat} (hx : x ∈ l) : pIdx (c.S l) (c.s x) = some (.int ((l.idxOf x : Nat) : Int)) := by
  unfold pIdx Sc.S
  dsimp only
  rw [if_pos ⟨rfl, flat_all l⟩]
  have : (l.map c.s).findIdx? (fun z => PyData.eqv z (c.s x)) = some (l.idxOf x) := by
    induction l with
    | nil => cases hx
    | cons y r ih =>
      rw [List.map_cons, List.findIdx?_cons, eqv_s h, List.idxOf_cons]
      by_cases e : y = x
      · subst e; simp
      · have hr : x ∈ r := by
          rcases List.mem_cons.mp hx with z | z
          · exact absurd z.symm e
          · exact z
        rw [ih hr]
        have e' : (y == x) = false := by simpa using e
        simp [e, e']
  rw [this]; rfl
end
end K07
namespace K07
open PySem L2 L2.PU
section
variable {c : Sc} (h : c.Ok)
include h
theorem F_area_eq {q p : Nat} {l : List Nat} (h1 : parN c.st q = some p) (e : pthN c.st 13 q = some l) (pr : Nat → Nat) (hl : ∀ x ∈ l, parN c.st x = some (pr x)) (hz : l.length ≤ 3000000) :
    F_area_of [c.d, c.s q] = some (.tuple [.int ((l.map fun x => c.L x).sum), .int ((l.map fun x => c.T x).sum), .int ((l.map fun x => c.L x).sum + c.W q), .int ((l.map fun x => c.T x).sum + c.H q)]) := by
  unfold F_area_of runF
  rw [if_pos (by rfl)]
  show (g_area_of (F_path_of 13) F_box_of [.val c.d, .val (c.s q), .un, .un, .un, .un]).bind _ = _
  have all : ∀ l : List Nat, l.filter (fun _ => true) = l := fun l => by simp
  have e0 : sComp [none, some 0] (lI asL (lA (F_path_of 13) (aC (eV 0) (aC (eV 1) aN)))) (tgN 0) tTrue (lA F_box_of (aC (eV 1) (aC (eV 0) aN))) [.val c.d, .val (c.s q), .un, .un, .un, .un] = some (l.map fun x => c.box (x, pr x)) := by
    show Option.bind (Option.bind (F_path_of 13 [c.d, c.s q]) asL) _ = _
    rw [F_path_eq h 13 q l e]
    show (if (l.map c.s).length ≤ sizeLine then _ else _) = _
    rw [if_pos (by rw [List.length_map]; exact big hz)]
    have := cGo_map (t := tgN 0) (p := tTrue) (f := lA F_box_of (aC (eV 1) (aC (eV 0) aN))) (η := [.un, .val c.d]) c.s (fun _ => true) (fun x => c.box (x, pr x)) l fun x hx => ⟨_, rfl, rfl, fun _ => F_box_eq h (hl x hx)⟩
    rw [all] at this
    exact this
  have sm : ∀ (k : Int) (Y : Nat → Int) (η : En), (∀ x, (l2 pIx (eV 0) (eC (.int k))) [.val (c.box (x, pr x))] = some (.int (Y x))) → eV 2 η = some (.list (l.map fun x => c.box (x, pr x))) →
      lA pSum (aC (oE (sComp [none] (lI asL (eV 2)) (tgN 0) tTrue (l2 pIx (eV 0) (eC (.int k))))) aN) η = some (.int ((l.map fun x => Y x).sum)) := fun k Y η hY hη => by
    have e1 : sComp [none] (lI asL (eV 2)) (tgN 0) tTrue (l2 pIx (eV 0) (eC (.int k))) η = some ((l.map fun x => Y x).map PyData.int) := by
      show Option.bind (Option.bind (eV 2 η) asL) _ = _
      rw [hη]
      show (if (l.map fun x => c.box (x, pr x)).length ≤ sizeLine then _ else _) = _
      rw [if_pos (by rw [List.length_map]; exact big hz)]
      have := cGo_map (t := tgN 0) (p := tTrue) (f := l2 pIx (eV 0) (eC (.int k))) (η := inEn [none] η) (fun x => c.box (x, pr x)) (fun _ => true) (fun x => .int (Y x)) l fun x hx => ⟨_, rfl, rfl, fun _ => hY x⟩
      rw [all] at this
      rw [List.map_map]
      exact this
    show Option.bind (Option.bind (Option.bind (sComp _ _ _ _ _ η) _) _) _ = _
    rw [e1]
    show pSum [.list ((l.map fun x => Y x).map PyData.int)] = _
    unfold pSum
    dsimp only
    rw [asIs_ints]; rfl
  unfold g_area_of sSeq sSetO
  rw [e0]
  have s1 := sm 2 c.L [.val c.d, .val (c.s q), .val (.list (l.map fun x => c.box (x, pr x))), .un, .un, .un] (fun _ => rfl) rfl
  have s2 := sm 3 c.T [.val c.d, .val (c.s q), .val (.list (l.map fun x => c.box (x, pr x))), .val (.int ((l.map fun x => c.L x).sum)), .un, .un] (fun _ => rfl) rfl
  have s3 := F_box_eq h h1
  show Option.bind (Option.bind (sSet 3 _ [.val c.d, .val (c.s q), .val (.list (l.map fun x => c.box (x, pr x))), .un, .un, .un]) _) _ = _
  unfold sSet
  rw [s1, Option.bind_some, Option.bind_some]
  show Option.bind (Option.bind (Option.bind (lA pSum _ [.val c.d, .val (c.s q), .val (.list (l.map fun x => c.box (x, pr x))), .val (.int ((l.map fun x => c.L x).sum)), .un, .un]) _) _) _ = _
  rw [s2, Option.bind_some, Option.bind_some]
  show Option.bind (Option.bind (Option.bind (F_box_of [c.d, c.s q]) _) _) _ = _
  rw [s3]
  rfl
end
end K07
namespace K07
open PySem L2 L2.PU
theorem bind_of {α β : Type} {o : Option α} {k : α → Option β} {x : α} {r : Option β} (h : o = some x) (h2 : k x = r) : o.bind k = r := by
  rw [h]; exact h2
theorem l1_of {o : PyData → Option PyData} {f : En → Option PyData} {η : En} {x d : PyData} (h1 : f η = some x) (h2 : o x = some d) : l1 o f η = some d := by
  unfold l1
  rw [h1]; exact h2
theorem pNe_self {d : PyData} (h : SeqAt.shaped d = true) : pNe d d = some (.bool false) := by
  unfold pNe
  rw [if_pos ⟨h, h⟩, SeqAt.eqv_refl d (SeqAt.canLay_of_shaped h)]; rfl
theorem ifN {c : En → Option Bool} {f : En → Option Out} {η : En} (h : c η = some false) : sIf c f sNx η = some (.nx η) := by
  rw [ifF h]; rfl
theorem bNot_of {f : En → Option Bool} {η : En} {b : Bool} (h : f η = some b) : bNot f η = some (!b) := by
  unfold bNot
  rw [h]; rfl
theorem vNot_of {f : En → Option PyData} {η : En} {b : Bool} (h : f η = some (.bool b)) : vNot f η = some (.bool (!b)) := by
  unfold vNot
  rw [h]; rfl
theorem vAnd_of {f g : En → Option PyData} {η : En} {a b : Bool} (h1 : f η = some (.bool a)) (h2 : g η = some (.bool b)) : vAnd f g η = some (.bool (a && b)) := by
  unfold vAnd
  rw [h1]
  cases a with
  | false => rfl
  | true => exact h2
theorem lch_of {f g h : En → Option PyData} {η : En} {i j k : Int} (hf : f η = some (.int i)) (hg : g η = some (.int j)) (hh : h η = some (.int k)) : lch pLe pLt f g h η = some (.bool (decide (i ≤ j) && decide (j < k))) := by
  have e1 : pLe (.int i) (.int j) = some (.bool (decide (i ≤ j))) := rfl
  have e2 : pLt (.int j) (.int k) = some (.bool (decide (j < k))) := rfl
  unfold lch
  rw [hf, Option.bind_some, hg, Option.bind_some, e1, Option.bind_some]
  show (if decide (i ≤ j) = true then (h η).bind fun w => pLt (.int j) w else some (.bool false)) = _
  cases decide (i ≤ j) with
  | false => rfl
  | true => rw [if_pos rfl, hh, Option.bind_some, e2]; rfl
theorem run_of {n m : Nat} {g : En → Option Out} {ds : List PyData} {d : PyData} (hl : ds.length = n) (h : g (ds.map Sl.val ++ List.replicate (m - n) .un) = some (.rt d)) : runF n m g ds = some d := by
  unfold runF
  rw [if_pos hl, h]; rfl
theorem ret_of {f : En → Option PyData} {η : En} {d : PyData} (h : f η = some d) : sRet f η = some (.rt d) := by
  unfold sRet
  rw [h]; rfl
theorem cGo_mapT {ι : Type} {t : En → PyData → Option En} {f : En → Option PyData} {η : En} (D : ι → PyData) (Y : ι → PyData) (xs : List ι) (h : ∀ x ∈ xs, ∃ η1, t η (D x) = some η1 ∧ f η1 = some (Y x)) : cGo t tTrue f η (xs.map D) = some (xs.map Y) := by
  have := cGo_map (t := t) (p := tTrue) (f := f) (η := η) D (fun _ => true) Y xs fun x hx => by
    obtain ⟨η1, h1, h2⟩ := h x hx
    exact ⟨η1, h1, rfl, fun _ => h2⟩
  rw [show xs.filter (fun _ => true) = xs by simp] at this
  exact this
theorem pAny_of (bs : List Bool) : pAny [.list (bs.map PyData.bool)] = some (.bool (bs.any id)) := by
  unfold pAny pBools
  dsimp only
  rw [asBs_bools]; rfl
theorem pMax_of (i j : Int) : pMax [.int i, .int j] = some (.int (max i j)) := by
  show some (PyData.int (if j > i then j else i)) = _
  have : (if j > i then j else i) = max i j := by split <;> omega
  rw [this]
theorem pMin_of (i j : Int) : pMin [.int i, .int j] = some (.int (min i j)) := by
  show some (PyData.int (if j < i then j else i)) = _
  have : (if j < i then j else i) = min i j := by split <;> omega
  rw [this]
noncomputable def inM (s m : Str) : Bool := !(Builtin.Str.occurrences m s 0 m.length 1).isEmpty
theorem pIn_m (neg : Bool) (s m : Str) : pIn neg (.str s) (.str m) = some (.bool (if neg then !inM s m else inM s m)) := rfl
noncomputable def Sc.geo (c : Sc) : Geo := ⟨c.L, c.T, c.W, c.H, fun q => inM "c" (c.mr q), fun q => inM "h" (c.mr q), fun q => inM "l" (c.mr q)⟩
noncomputable def arD (a : Ar) : PyData := .tuple [.int a.1, .int a.2.1, .int a.2.2.1, .int a.2.2.2]
structure Tr (c : Sc) (ps : List Nat) (D : Nat → Prop) (pnt : List Nat) : Prop where
  ok : c.Ok
  din : ∀ q, D q → In ps q
  par : ∀ q, D q → parN c.st q = some (K07.par ps q)
  path : ∀ q, D q → pthN c.st 13 q = some (P ps q)
  up : ∀ q, D q → ∀ x ∈ P ps q, D x
  pn : pntN c.st = some pnt
  pd : ∀ q ∈ pnt, D q
  pl : pnt.length ≤ 2000000
  ps : PsOk ps
theorem P_len {ps : List Nat} (q : Nat) : (P ps q).length ≤ q := pF_len q q
theorem not_any (h : Nat → Bool) : ∀ l : List Nat, (!(l.map h).any id) = l.all fun x => !h x
  | [] => rfl
  | x :: r => by
    have := not_any h r
    rw [List.map_cons, List.any_cons, List.all_cons, ← this]
    cases h x <;> simp
section
variable {c : Sc} {ps : List Nat} {D : Nat → Prop} {pnt : List Nat} (t : Tr c ps D pnt)
include t
theorem T_box {q : Nat} (hq : D q) : F_box_of [c.d, c.s q] = some (c.box (q, par ps q)) := F_box_eq t.ok (t.par q hq)
theorem T_path {q : Nat} (hq : D q) : F_path_of 13 [c.d, c.s q] = some (c.S (P ps q)) := F_path_eq t.ok 13 q _ (t.path q hq)
theorem in_7 {q : Nat} (hq : D q) : q ≤ 7 := Nat.le_trans (t.din q hq).2 t.ps.len
theorem P_7 {q : Nat} (hq : D q) : (P ps q).length ≤ 7 := Nat.le_trans (P_len q) (in_7 t hq)
theorem T_area {q : Nat} (hq : D q) : F_area_of [c.d, c.s q] = some (arD (c.geo.area ps q)) :=
  F_area_eq t.ok (t.par q hq) (t.path q hq) (par ps) (fun x hx => t.par x (t.up q hq x hx)) (by have := P_7 t hq; omega)
theorem T_painted : F_painted [c.d] = some (c.S pnt) := F_painted_eq t.ok t.pn
theorem T_mark {q : Nat} (hq : D q) (m : Str) : F_has_mark [c.d, c.s q, .str m] = some (.bool (inM m (c.mr q))) :=
  run_of rfl (show g_has_mark F_box_of [.val c.d, .val (c.s q), .val (.str m)] = _ from ret_of (l2_of rfl (l2_of (lA_of (aC_of rfl (aC_of rfl rfl)) (T_box t hq)) rfl rfl) rfl))
theorem T_shown {q : Nat} (hq : D q) : F_is_shown [c.d, c.s q] = some (.bool (c.geo.shown ps q)) := by
  have e : sComp [none, some 0] (lI asL (lA (F_path_of 13) (aC (eV 0) (aC (eV 1) aN)))) (tgN 0) tTrue (lA F_has_mark (aC (eV 1) (aC (eV 0) (aC (eC (.str "h")) aN)))) [.val c.d, .val (c.s q)] = some (((P ps q).map c.geo.h).map PyData.bool) := by
    refine comp_eq (ds := (P ps q).map c.s) (lI_of (lA_of (aC_of rfl (aC_of rfl rfl)) (T_path t hq)) rfl) (by rw [List.length_map]; have := P_7 t hq; omega) ?_
    rw [List.map_map]
    exact cGo_mapT (η := [.un, .val c.d]) c.s (fun x => .bool (c.geo.h x)) (P ps q) fun x hx => ⟨[.val (c.s x), .val c.d], rfl, lA_of (aC_of rfl (aC_of rfl (aC_of rfl rfl))) (T_mark t (t.up q hq x hx) "h")⟩
  have e2 := vNot_of (lA_of (aC_of (g := aN) (oE_of e) rfl) (pAny_of _))
  rw [not_any] at e2
  exact run_of rfl (show g_is_shown (F_path_of 13) F_has_mark [.val c.d, .val (c.s q)] = _ from ret_of e2)
omit t in
theorem T_over (a b : Ar) : F_overlap [arD a, arD b] = some (arD (ovl a b)) :=
  run_of rfl (show g_overlap [.val (arD a), .val (arD b), .un, .un] = _ from
    seq_of (set_of (lA_of (aC_of (l2_of rfl rfl rfl) (aC_of (l2_of rfl rfl rfl) rfl)) (pMax_of _ _)))
      (seq_of (set_of (lA_of (aC_of (l2_of rfl rfl rfl) (aC_of (l2_of rfl rfl rfl) rfl)) (pMax_of _ _)))
        (ret_of (lA_of (aC_of rfl (aC_of rfl (aC_of (lA_of (aC_of (l2_of rfl rfl rfl) (aC_of (l2_of rfl rfl rfl) rfl)) (pMin_of _ _)) (aC_of (lA_of (aC_of (l2_of rfl rfl rfl) (aC_of (l2_of rfl rfl rfl) rfl)) (pMin_of _ _)) rfl)))) (tup1_ok (by simp))))))
omit t in
theorem T_point (a : Ar) (x y : Int) : F_has_point [arD a, .int x, .int y] = some (.bool (hasP a x y)) :=
  run_of rfl (show g_has_point [.val (arD a), .val (.int x), .val (.int y)] = _ from
    ret_of (vAnd_of (lch_of (l2_of rfl rfl rfl) rfl (l2_of rfl rfl rfl)) (lch_of (l2_of rfl rfl rfl) rfl (l2_of rfl rfl rfl))))
theorem wnd_go {x1 : Sl} : ∀ (l : List Nat) (w : Ar) (s3 : Sl), (∀ x ∈ l, D x) → ∃ s3', sGo (tgN 3) (sIf (bT (lA F_has_mark (aC (eV 0) (aC (eV 3) (aC (eC (.str "c")) aN))))) (sSet 2 (lA F_overlap (aC (eV 2) (aC (lA F_area_of (aC (eV 0) (aC (eV 3) aN))) aN)))) sNx)
    (l.map c.s) [.val c.d, x1, .val (arD w), s3] = some (.nx [.val c.d, x1, .val (arD (wndL c.geo ps l w)), s3'])
  | [], w, s3, _ => ⟨s3, rfl⟩
  | x :: r, w, s3, h => by
    have hx := h x List.mem_cons_self
    obtain ⟨s3', ih⟩ := wnd_go r (if c.geo.c x = true then ovl w (c.geo.area ps x) else w) (.val (c.s x)) fun y hy => h y (List.mem_cons_of_mem _ hy)
    refine ⟨s3', ?_⟩
    rw [List.map_cons]
    unfold sGo wndL
    have eb : bT (lA F_has_mark (aC (eV 0) (aC (eV 3) (aC (eC (.str "c")) aN)))) [.val c.d, x1, .val (arD w), .val (c.s x)] = some (c.geo.c x) := bT_of (lA_of (aC_of rfl (aC_of rfl (aC_of rfl rfl))) (T_mark t hx "c"))
    show Option.bind (sIf _ _ _ [.val c.d, x1, .val (arD w), .val (c.s x)]) _ = _
    have e1 : sIf (bT (lA F_has_mark (aC (eV 0) (aC (eV 3) (aC (eC (.str "c")) aN))))) (sSet 2 (lA F_overlap (aC (eV 2) (aC (lA F_area_of (aC (eV 0) (aC (eV 3) aN))) aN)))) sNx [.val c.d, x1, .val (arD w), .val (c.s x)]
        = some (.nx [.val c.d, x1, .val (arD (if c.geo.c x = true then ovl w (c.geo.area ps x) else w)), .val (c.s x)]) := by
      rw [if_of eb]
      cases c.geo.c x with
      | false => rfl
      | true =>
        rw [if_pos rfl, if_pos rfl]
        exact set_of (lA_of (aC_of rfl (aC_of (lA_of (aC_of rfl (aC_of rfl rfl)) (T_area t hx)) rfl)) (T_over w _))
    rw [e1, Option.bind_some]
    exact ih
theorem T_window {q : Nat} (hq : D q) : F_window_of [c.d, c.s q] = some (arD (c.geo.wnd ps q)) := by
  obtain ⟨s3, e⟩ := wnd_go t (x1 := .val (c.s q)) (P ps q) (c.geo.area ps q) .un fun x hx => t.up q hq x hx
  exact run_of rfl (show g_window_of F_area_of (F_path_of 13) F_has_mark F_overlap [.val c.d, .val (c.s q), .un, .un] = _ from
    seq_of (set_of (lA_of (aC_of rfl (aC_of rfl rfl)) (T_area t hq))) (seq_of (for_of (lI_of (lA_of (aC_of rfl (aC_of rfl rfl)) (T_path t hq)) rfl) e) (ret_of rfl)))
omit t in
noncomputable def tkD (c : Sc) (ps : List Nat) (q : Nat) : PyData := .tuple [c.s q, arD (c.geo.wnd ps q)]
theorem kid_in {q : Nat} (h : q ∈ pnt.reverse.filter (c.geo.shown ps)) : D q := t.pd q (List.mem_reverse.mp (List.mem_filter.mp h).1)
theorem tk_in {q : Nat} (h : q ∈ tkL c.geo ps pnt) : D q := kid_in t (List.mem_filter.mp h).1
theorem T_takers : F_takers [c.d] = some (.list ((tkL c.geo ps pnt).map (tkD c ps))) := by
  have hk : pnt.length ≤ 3000000 := Nat.le_trans t.pl (by decide)
  have e1 : sComp [none, some 0] (fun η => ((aC (lA F_painted (aC (eV 0) aN)) aN) η).bind rvS) (tgN 0) (bT (lA F_is_shown (aC (eV 1) (aC (eV 0) aN)))) (eV 0) [.val c.d, .un] = some ((pnt.reverse.filter (c.geo.shown ps)).map c.s) := by
    refine comp_eq (ds := pnt.reverse.map c.s) ?_ (by rw [List.length_map, List.length_reverse]; exact hk) ?_
    · refine bind_of (aC_of (lA_of (aC_of rfl rfl) (T_painted t)) rfl) ?_
      show some ((List.map c.s _).reverse) = _
      rw [List.map_reverse]
    · exact cGo_map (η := [.un, .val c.d]) c.s (c.geo.shown ps) c.s _ fun x hx => ⟨[.val (c.s x), .val c.d], rfl, bT_of (lA_of (aC_of rfl (aC_of rfl rfl)) (T_shown t (t.pd x (List.mem_reverse.mp hx)))), fun _ => rfl⟩
  have e2 : sComp [none, some 0] (lI asL (eV 1)) (tgN 0) (bNot (bT (lA F_has_mark (aC (eV 1) (aC (eV 0) (aC (eC (.str "l")) aN)))))) (lA (fun ds => if ds.length ≤ sizeLine then some (.tuple ds) else none) (aC (eV 0) (aC (lA F_window_of (aC (eV 1) (aC (eV 0) aN))) aN)))
      [.val c.d, .val (.list ((pnt.reverse.filter (c.geo.shown ps)).map c.s))] = some ((tkL c.geo ps pnt).map (tkD c ps)) := by
    refine comp_eq (ds := (pnt.reverse.filter (c.geo.shown ps)).map c.s) (lI_of rfl rfl) ?_ ?_
    · rw [List.length_map]
      refine Nat.le_trans (List.length_filter_le ..) ?_
      rw [List.length_reverse]; exact hk
    · exact cGo_map (η := [.un, .val c.d]) c.s (fun q => !c.geo.l q) (tkD c ps) _ fun x hx => ⟨[.val (c.s x), .val c.d], rfl, bNot_of (bT_of (lA_of (aC_of rfl (aC_of rfl (aC_of rfl rfl))) (T_mark t (kid_in t hx) "l"))), fun _ => lA_of (aC_of rfl (aC_of (lA_of (aC_of rfl (aC_of rfl rfl)) (T_window t (kid_in t hx))) rfl)) (tup1_ok (by simp))⟩
  exact run_of rfl (show g_takers F_painted F_is_shown F_has_mark F_window_of [.val c.d, .un] = _ from seq_of (setO_of e1) (ret_of (oE_of e2)))
theorem tk_len : (tkL c.geo ps pnt).length ≤ 3000000 := by
  have hk : pnt.length ≤ 3000000 := Nat.le_trans t.pl (by decide)
  refine Nat.le_trans (List.length_filter_le ..) (Nat.le_trans (List.length_filter_le ..) ?_)
  rw [List.length_reverse]; exact hk
omit t in
noncomputable def hdD (c : Sc) : List Nat → PyData
  | [] => .none
  | q :: _ => c.s q
theorem first_go (x y : Int) {x0 : Sl} : ∀ (l : List Nat) (s3 s4 : Sl), (∀ q ∈ l, D q) →
    (l.filter (c.geo.tch ps x y) = [] → ∃ s3' s4', sGo (tgT (tgCons (tgN 3) (tgCons (tgN 4) tgNil))) (sIf (bT (lA F_has_point (aC (eV 4) (aC (eV 1) (aC (eV 2) aN))))) (sRet (eV 3)) sNx) (l.map (tkD c ps)) [x0, .val (.int x), .val (.int y), s3, s4] = some (.nx [x0, .val (.int x), .val (.int y), s3', s4']))
    ∧ (∀ q r, l.filter (c.geo.tch ps x y) = q :: r → sGo (tgT (tgCons (tgN 3) (tgCons (tgN 4) tgNil))) (sIf (bT (lA F_has_point (aC (eV 4) (aC (eV 1) (aC (eV 2) aN))))) (sRet (eV 3)) sNx) (l.map (tkD c ps)) [x0, .val (.int x), .val (.int y), s3, s4] = some (.rt (c.s q)))
  | [], s3, s4, _ => ⟨fun _ => ⟨s3, s4, rfl⟩, fun q r e => by cases e⟩
  | p :: l, s3, s4, h => by
    have hp := h p List.mem_cons_self
    have ih := first_go x y (x0 := x0) l (.val (c.s p)) (.val (arD (c.geo.wnd ps p))) fun q hq => h q (List.mem_cons_of_mem _ hq)
    have eb : bT (lA F_has_point (aC (eV 4) (aC (eV 1) (aC (eV 2) aN)))) [x0, .val (.int x), .val (.int y), .val (c.s p), .val (arD (c.geo.wnd ps p))] = some (c.geo.tch ps x y p) := by
      rw [← wnd_has t.ps (t.din p hp).1]
      exact bT_of (lA_of (aC_of rfl (aC_of rfl (aC_of rfl rfl))) (T_point _ x y))
    have es : sGo (tgT (tgCons (tgN 3) (tgCons (tgN 4) tgNil))) (sIf (bT (lA F_has_point (aC (eV 4) (aC (eV 1) (aC (eV 2) aN))))) (sRet (eV 3)) sNx) ((p :: l).map (tkD c ps)) [x0, .val (.int x), .val (.int y), s3, s4]
        = if c.geo.tch ps x y p = true then some (.rt (c.s p)) else sGo (tgT (tgCons (tgN 3) (tgCons (tgN 4) tgNil))) (sIf (bT (lA F_has_point (aC (eV 4) (aC (eV 1) (aC (eV 2) aN))))) (sRet (eV 3)) sNx) (l.map (tkD c ps)) [x0, .val (.int x), .val (.int y), .val (c.s p), .val (arD (c.geo.wnd ps p))] := by
      rw [List.map_cons]
      conv => lhs; unfold sGo
      show Option.bind (sIf _ _ _ [x0, .val (.int x), .val (.int y), .val (c.s p), .val (arD (c.geo.wnd ps p))]) _ = _
      rw [if_of eb]
      cases c.geo.tch ps x y p <;> rfl
    rw [es, List.filter_cons]
    cases c.geo.tch ps x y p with
    | false =>
      rw [if_neg Bool.false_ne_true, if_neg Bool.false_ne_true]
      exact ih
    | true =>
      rw [if_pos rfl, if_pos rfl]
      exact ⟨fun e => (by cases e), fun q r e => (by cases e; rfl)⟩
theorem T_first (x y : Int) : F_first_at [.list ((tkL c.geo ps pnt).map (tkD c ps)), .int x, .int y] = some (hdD c (hitL c.geo ps pnt x y)) := by
  have := first_go t x y (x0 := .val (.list ((tkL c.geo ps pnt).map (tkD c ps)))) (tkL c.geo ps pnt) .un .un fun q hq => tk_in t hq
  have eh : hitL c.geo ps pnt x y = (tkL c.geo ps pnt).filter (c.geo.tch ps x y) := rfl
  rw [eh]
  cases hh : (tkL c.geo ps pnt).filter (c.geo.tch ps x y) with
  | nil =>
    obtain ⟨s3, s4, e⟩ := this.1 hh
    exact run_of rfl (show g_first_at F_has_point [.val (.list ((tkL c.geo ps pnt).map (tkD c ps))), .val (.int x), .val (.int y), .un, .un] = _ from seq_of (for_of (lI_of rfl rfl) e) (ret_of rfl))
  | cons q r =>
    have e := this.2 q r hh
    refine run_of rfl (show g_first_at F_has_point [.val (.list ((tkL c.geo ps pnt).map (tkD c ps))), .val (.int x), .val (.int y), .un, .un] = _ from ?_)
    unfold g_first_at sSeq
    rw [for_of (r := some (.rt (c.s q))) (lI_of rfl rfl) e]
    rfl
end
end K07
namespace K07
open PySem L2 L2.PU
noncomputable def Sc.on (c : Sc) (st : List (Nat × Nat)) : Sc := { c with st := st }
noncomputable def updI (f : Nat → Int) (q : Nat) (v : Int) : Nat → Int := fun x => if x = q then v else f x
noncomputable def Sc.put (c : Sc) (q : Nat) (l t : Int) : Sc := { c with L := updI c.L q l, T := updI c.T q t }
noncomputable def Sc.mark (c : Sc) (q : Nat) (m : Str) : Sc := { c with mr := fun x => if x = q then m else c.mr x }
theorem Sc.Ok.on {c : Sc} (h : c.Ok) {st : List (Nat × Nat)} (hl : st.length ≤ 12) : (c.on st).Ok := ⟨h.inj, h.top, h.ok, h.okm, hl⟩
theorem Sc.Ok.put {c : Sc} (h : c.Ok) (q : Nat) (l t : Int) : (c.put q l t).Ok := ⟨h.inj, h.top, h.ok, h.okm, h.len⟩
theorem Sc.Ok.mark {c : Sc} (h : c.Ok) (q : Nat) (m : Str) (hm : PyData.strOk m = true) : (c.mark q m).Ok := ⟨h.inj, h.top, h.ok, fun a => by
  show PyData.strOk (if a = q then m else c.mr a) = true
  split
  · exact hm
  · exact h.okm a, h.len⟩
section
variable {c : Sc} (h : c.Ok)
include h
theorem pick_eq (neg : Bool) (g : List Nat) (η : En) (h0 : eV 0 η = some c.d) (h2 : eV 2 η = some (c.S g)) (hi : inEn [none, some 2] η = [.un, .val (c.S g)]) :
    lA pTup (aC (oE (sComp [none, some 2] (lI asTu (eV 0)) (tgN 0) (bT (l2 (pIn neg) (l2 pIx (eV 0) (eC (.int 0))) (eV 1))) (eV 0))) aN) η = some (.tuple ((c.st.filter fun x => if neg then !decide (x.1 ∈ g) else decide (x.1 ∈ g)).map c.box)) := by
  have e : sComp [none, some 2] (lI asTu (eV 0)) (tgN 0) (bT (l2 (pIn neg) (l2 pIx (eV 0) (eC (.int 0))) (eV 1))) (eV 0) η = some ((c.st.filter fun x => if neg then !decide (x.1 ∈ g) else decide (x.1 ∈ g)).map c.box) := by
    show Option.bind (Option.bind (eV 0 η) asTu) _ = _
    rw [h0]
    show (if (c.st.map c.box).length ≤ sizeLine then cGo _ _ _ (inEn [none, some 2] η) _ else none) = _
    rw [if_pos (size_d h), hi]
    refine cGo_map c.box (fun x => if neg then !decide (x.1 ∈ g) else decide (x.1 ∈ g)) c.box _ fun x _ => ⟨_, rfl, ?_, fun _ => rfl⟩
    show (pIn neg (c.s x.1) (c.S g)).bind asB = _
    rw [pIn_s h]; rfl
  show Option.bind (Option.bind (Option.bind (sComp _ _ _ _ _ η) _) _) _ = _
  rw [e]; rfl
theorem F_cut_eq {q : Nat} {st : List (Nat × Nat)} (e : cutN c.st q = some st) : F_cut [c.d, c.s q] = some (c.on st).d := by
  obtain ⟨g, hg, e⟩ := bind_some e
  cases e
  unfold F_cut runF
  rw [if_pos (by rfl)]
  show (g_cut (F_below 13) [.val c.d, .val (c.s q), .un]).bind _ = _
  have e1 : sSet 2 (lA (F_below 13) (aC (eV 0) (aC (eV 1) aN))) [.val c.d, .val (c.s q), .un] = some (.nx [.val c.d, .val (c.s q), .val (c.S g)]) := by
    show ((F_below 13 [c.d, c.s q])).bind _ = _
    rw [F_below_eq h 13 q g hg]; rfl
  unfold g_cut sSeq
  rw [e1, Option.bind_some]
  have e2 := pick_eq h true g [.val c.d, .val (c.s q), .val (c.S g)] rfl rfl rfl
  show Option.bind (Option.bind (lA _ _ _) _) _ = _
  rw [e2]; rfl
theorem F_raised_eq {q : Nat} {st : List (Nat × Nat)} (e : raiN c.st q = some st) : F_raised [c.d, c.s q] = some (c.on st).d := by
  obtain ⟨g, hg, e⟩ := bind_some e
  cases e
  unfold F_raised runF
  rw [if_pos (by rfl)]
  show (g_raised (F_below 13) F_cut [.val c.d, .val (c.s q), .un]).bind _ = _
  have e1 : sSet 2 (lA (F_below 13) (aC (eV 0) (aC (eV 1) aN))) [.val c.d, .val (c.s q), .un] = some (.nx [.val c.d, .val (c.s q), .val (c.S g)]) := by
    show ((F_below 13 [c.d, c.s q])).bind _ = _
    rw [F_below_eq h 13 q g hg]; rfl
  unfold g_raised sSeq
  rw [e1, Option.bind_some]
  have e2 := pick_eq h false g [.val c.d, .val (c.s q), .val (c.S g)] rfl rfl rfl
  have e3 : F_cut [c.d, c.s q] = some (c.on (c.st.filter fun x => !decide (x.1 ∈ g))).d := F_cut_eq h (by unfold cutN; rw [hg]; rfl)
  show Option.bind (Option.bind (Option.bind (F_cut [c.d, c.s q]) _) _) _ = _
  rw [e3, Option.bind_some, e2]
  show Option.bind (Option.bind (pAdd (.tuple (List.map c.box (c.st.filter fun x => !decide (x.1 ∈ g)))) (.tuple (List.map c.box (c.st.filter fun x => decide (x.1 ∈ g))))) _) _ = _
  have l1 := List.length_filter_le (fun x : Nat × Nat => !decide (x.1 ∈ g)) c.st
  have l2 := List.length_filter_le (fun x : Nat × Nat => decide (x.1 ∈ g)) c.st
  have l3 := h.len
  unfold pAdd
  dsimp only
  rw [if_pos (by rw [List.length_map, List.length_map]; exact big (by omega)), ← List.map_append]
  rfl
theorem F_other_eq {c' : Sc} {q p : Nat} (hs : c'.st = c.st) (hn : c'.nm = c.nm) (hu : ∀ x ∈ c.st, x.1 = q → x.2 = p) (hb : ∀ x ∈ c.st, x.1 ≠ q → c'.box x = c.box x) : F_with_other [c.d, c'.box (q, p)] = some c'.d := by
  unfold F_with_other runF
  rw [if_pos (by rfl)]
  show (g_with_other [.val c.d, .val (c'.box (q, p))]).bind _ = _
  have e : sComp [none, some 1] (lI asTu (eV 0)) (tgN 0) tTrue (vIf (bT (l2 pEq (l2 pIx (eV 0) (eC (.int 0))) (l2 pIx (eV 1) (eC (.int 0))))) (eV 1) (eV 0)) [.val c.d, .val (c'.box (q, p))] = some (c.st.map c'.box) := by
    show (if (c.st.map c.box).length ≤ sizeLine then cGo _ _ _ _ _ else none) = _
    rw [if_pos (size_d h)]
    have := cGo_map (t := tgN 0) (p := tTrue) (f := vIf (bT (l2 pEq (l2 pIx (eV 0) (eC (.int 0))) (l2 pIx (eV 1) (eC (.int 0))))) (eV 1) (eV 0)) (η := [.un, .val (c'.box (q, p))]) c.box (fun _ => true) c'.box c.st fun x hx => ⟨_, rfl, rfl, fun _ => ?_⟩
    · rw [show c.st.filter (fun _ => true) = c.st by simp] at this
      exact this
    · have eb : bT (l2 pEq (l2 pIx (eV 0) (eC (.int 0))) (l2 pIx (eV 1) (eC (.int 0)))) [.val (c.box x), .val (c'.box (q, p))] = some (decide (x.1 = q)) := by
        show (pEq (c.s x.1) (.str (c'.nm q))).bind asB = _
        rw [hn]
        show (pEq (c.s x.1) (c.s q)).bind asB = _
        rw [h.eqs]; rfl
      show vIf _ _ _ [.val (c.box x), .val (c'.box (q, p))] = _
      rw [vIf_of eb]
      by_cases e : x.1 = q
      · rw [if_pos (by simpa using e)]
        have : x = (q, p) := by
          have := hu x hx e
          cases x; simp at e this; simp [e, this]
        rw [this]; rfl
      · rw [if_neg (by simpa using e), hb x hx e]; rfl
  unfold g_with_other sRet
  show Option.bind (Option.bind (Option.bind (Option.bind (Option.bind (sComp _ _ _ _ _ _) _) _) _) _) _ = _
  rw [e]
  show some (PyData.tuple _) = some (Sc.d c')
  unfold Sc.d
  rw [hs]
theorem F_put_eq {q p : Nat} {l t : Int} (hp : parN c.st q = some p) (hu : ∀ x ∈ c.st, x.1 = q → x.2 = p) : F_put_at [c.d, c.s q, .int l, .int t] = some (c.put q l t).d := by
  have e1 := F_box_eq h hp
  have e2 : F_with_other [c.d, (c.put q l t).box (q, p)] = some (c.put q l t).d := F_other_eq h rfl rfl hu fun x _ hx => by
    unfold Sc.box Sc.put updI
    dsimp only
    rw [if_neg hx, if_neg hx]
  unfold F_put_at runF
  rw [if_pos (by rfl)]
  show (g_put_at F_box_of F_with_other [.val c.d, .val (c.s q), .val (.int l), .val (.int t), .un]).bind _ = _
  unfold g_put_at sSeq
  show Option.bind (Option.bind (Option.bind (F_box_of [c.d, c.s q]) _) _) _ = _
  rw [e1]
  have e3 : (c.put q l t).box (q, p) = .tuple [.str (c.nm q), .str (c.nm p), .int l, .int t, .int (c.W q), .int (c.H q), .str (c.mr q)] := by
    unfold Sc.box Sc.put updI
    dsimp only
    rw [if_pos rfl, if_pos rfl]
  rw [e3] at e2
  show Option.bind (Option.bind (F_with_other [c.d, .tuple [.str (c.nm q), .str (c.nm p), .int l, .int t, .int (c.W q), .int (c.H q), .str (c.mr q)]]) _) _ = _
  rw [e2]; rfl
theorem F_mark_eq {q p : Nat} {m : Str} (hp : parN c.st q = some p) (hu : ∀ x ∈ c.st, x.1 = q → x.2 = p) : F_marked [c.d, c.s q, .str m] = some (c.mark q m).d := by
  have e1 := F_box_eq h hp
  have e2 : F_with_other [c.d, (c.mark q m).box (q, p)] = some (c.mark q m).d := F_other_eq h rfl rfl hu fun x _ hx => by
    unfold Sc.box Sc.mark
    dsimp only
    rw [if_neg hx]
  unfold F_marked runF
  rw [if_pos (by rfl)]
  show (g_marked F_box_of F_with_other [.val c.d, .val (c.s q), .val (.str m), .un]).bind _ = _
  unfold g_marked sSeq
  show Option.bind (Option.bind (Option.bind (F_box_of [c.d, c.s q]) _) _) _ = _
  rw [e1]
  have e3 : (c.mark q m).box (q, p) = .tuple [.str (c.nm q), .str (c.nm p), .int (c.L q), .int (c.T q), .int (c.W q), .int (c.H q), .str m] := by
    unfold Sc.box Sc.mark
    dsimp only
    rw [if_pos rfl]
  rw [e3] at e2
  show Option.bind (Option.bind (F_with_other [c.d, .tuple [.str (c.nm q), .str (c.nm p), .int (c.L q), .int (c.T q), .int (c.W q), .int (c.H q), .str m]]) _) _ = _
  rw [e2]; rfl
end
end K07
namespace K07
open PySem L2 L2.PU
noncomputable def Dr.sc (c : Dr) : Sc := ⟨stF c.ps, c.nm, fun i => c.L (i - 1), fun i => c.T (i - 1), fun i => c.W (i - 1), fun i => c.H (i - 1), fun i => c.mr (i - 1)⟩
theorem Dr.sc_d (c : Dr) : c.sc.d = c.d := by
  unfold Sc.d Dr.d Dr.sc stF
  dsimp only
  rw [List.map_map]
  rfl
end K07
namespace K07
open PySem L2 L2.PU
section
variable {ps : List Nat} (ok : PsOk ps)
include ok
theorem blF_st : ∀ n m q, 1 ≤ q → ps.length < n + q → ps.length < m + q → q ≤ ps.length → blF (stF ps) n q = blF (stF ps) m q
  | 0, m, q, _, h, _, h2 => by omega
  | n + 1, 0, q, _, _, h, h2 => by omega
  | n + 1, m + 1, q, h1, h2, h3, h4 => by
    show q :: (chN (stF ps) q).flatMap (blF (stF ps) n) = q :: (chN (stF ps) q).flatMap (blF (stF ps) m)
    rw [flat_congr fun x hx => ?_]
    have := ch_mem ok hx
    exact blF_st n m x this.1 (by omega) (by omega) this.2.1
theorem P_le : ∀ r x, x ∈ P ps r → x ≤ r := by
  intro r
  induction r using Nat.strongRecOn with
  | _ r ih =>
    intro x hx
    by_cases hr : 1 ≤ r
    · rw [P_succ ok hr] at hx
      have := par_lt ok hr
      rcases List.mem_append.mp hx with z | z
      · have := ih _ this x z; omega
      · rw [List.mem_singleton] at z; omega
    · have : r = 0 := by omega
      subst this
      rw [P_zero] at hx; cases hx
theorem P_self {q : Nat} (h : 1 ≤ q) : q ∈ P ps q := by rw [P_succ ok h]; simp
theorem P_one : ∀ r x, x ∈ P ps r → 1 ≤ x := by
  intro r
  induction r using Nat.strongRecOn with
  | _ r ih =>
    intro x hx
    by_cases hr : 1 ≤ r
    · rw [P_succ ok hr] at hx
      rcases List.mem_append.mp hx with z | z
      · exact ih _ (par_lt ok hr) x z
      · rw [List.mem_singleton] at z; omega
    · have : r = 0 := by omega
      subst this
      rw [P_zero] at hx; cases hx
theorem P_next : ∀ q, 1 ≤ q → ∀ a, (a = 0 ∨ a ∈ P ps q) → a ≠ q → ∃ x ∈ P ps q, par ps x = a := by
  intro q
  induction q using Nat.strongRecOn with
  | _ q ih =>
    intro hq a ha hne
    by_cases hp : a = par ps q
    · exact ⟨q, P_self ok hq, hp.symm⟩
    · have ha' : a = 0 ∨ a ∈ P ps (par ps q) := by
        rcases ha with z | z
        · exact .inl z
        · rw [P_succ ok hq] at z
          rcases List.mem_append.mp z with z | z
          · exact .inr z
          · rw [List.mem_singleton] at z; exact absurd z hne
      by_cases h0 : 1 ≤ par ps q
      · obtain ⟨x, hx, e⟩ := ih _ (par_lt ok hq) h0 a ha' hp
        exact ⟨x, by rw [P_succ ok hq]; exact List.mem_append_left _ hx, e⟩
      · have z : par ps q = 0 := by omega
        rw [z, P_zero] at ha'
        rcases ha' with y | y
        · exact absurd (y.trans z.symm) hp
        · cases y
theorem P_par : ∀ q x, x ∈ P ps q → par ps x = 0 ∨ par ps x ∈ P ps q := by
  intro q
  induction q using Nat.strongRecOn with
  | _ q ih =>
    intro x hx
    by_cases hq : 1 ≤ q
    · rw [P_succ ok hq] at hx
      rcases List.mem_append.mp hx with z | z
      · rcases ih _ (par_lt ok hq) x z with y | y
        · exact .inl y
        · exact .inr (by rw [P_succ ok hq]; exact List.mem_append_left _ y)
      · rw [List.mem_singleton] at z
        subst z
        by_cases h0 : 1 ≤ par ps x
        · exact .inr (by rw [P_succ ok hq]; exact List.mem_append_left _ (P_self ok h0))
        · exact .inl (by omega)
    · have : q = 0 := by omega
      subst this
      rw [P_zero] at hx; cases hx
theorem P_uniq : ∀ q x y, x ∈ P ps q → y ∈ P ps q → par ps x = par ps y → x = y := by
  intro q
  induction q using Nat.strongRecOn with
  | _ q ih =>
    intro x y hx hy e
    by_cases hq : 1 ≤ q
    · have hlt := par_lt ok hq
      have hx1 := P_one ok _ _ hx
      have hy1 := P_one ok _ _ hy
      have px := par_lt ok hx1
      have py := par_lt ok hy1
      rw [P_succ ok hq] at hx hy
      rcases List.mem_append.mp hx with zx | zx <;> rcases List.mem_append.mp hy with zy | zy
      · exact ih _ hlt x y zx zy e
      · rw [List.mem_singleton] at zy
        have := P_le ok _ _ zx
        rw [zy] at e; omega
      · rw [List.mem_singleton] at zx
        have := P_le ok _ _ zy
        rw [zx] at e; omega
      · rw [List.mem_singleton] at zx zy; rw [zx, zy]
    · have : q = 0 := by omega
      subst this
      rw [P_zero] at hx; cases hx
omit ok in
theorem ch_nodup (a : Nat) : (chN (stF ps) a).Nodup := by
  have h : ((stF ps).map (·.1)).Nodup := by
    unfold stF
    rw [List.map_map]
    exact List.Pairwise.map _ (fun i j hij => by show i + 1 ≠ j + 1; omega) (List.nodup_range (n := ps.length))
  exact h.sublist ((List.filter_sublist).map _)
omit ok in
theorem flat_one {α β : Type} {p : α → Prop} [DecidablePred p] {B : List β} {x : α} : ∀ {l : List α}, l.Nodup → x ∈ l → p x → (∀ y ∈ l, p y → y = x) → l.flatMap (fun y => if p y then B else []) = B
  | [], _, h, _, _ => by cases h
  | y :: l, nd, h, hp, hu => by
    rw [List.flatMap_cons]
    have nd' := List.nodup_cons.mp nd
    by_cases hy : y = x
    · subst hy
      rw [if_pos hp, flat_nil (f := fun y => if p y then B else []) fun z hz => ?_, List.append_nil]
      rw [if_neg fun hz' => ?_]
      have := hu z (List.mem_cons_of_mem _ hz) hz'
      subst this
      exact nd'.1 hz
    · rw [if_neg fun hz => hy (hu y List.mem_cons_self hz), List.nil_append]
      refine flat_one nd'.2 ?_ hp fun z hz => hu z (List.mem_cons_of_mem _ hz)
      rcases List.mem_cons.mp h with z | z
      · exact absurd z.symm hy
      · exact z
theorem bl_all {q : Nat} : ∀ n a, 1 ≤ a → a ≤ ps.length → q ∈ P ps a → ∀ x ∈ blF (stF ps) n a, q ∈ P ps x
  | 0, _, _, _, _, x, hx => by cases hx
  | n + 1, a, h1, h2, hq, x, hx => by
    rcases List.mem_cons.mp hx with z | z
    · rw [z]; exact hq
    · obtain ⟨y, hy, hx⟩ := List.mem_flatMap.mp z
      have m := ch_mem ok hy
      exact bl_all n y m.1 m.2.1 (by rw [P_succ ok m.1, m.2.2.1]; exact List.mem_append_left _ hq) x hx
theorem kids_filter {q : Nat} (hq : In ps q) : ∀ n a, q ∉ P ps a → ps.length ≤ n + a → a ≤ ps.length →
    (kids (stF ps) n a).filter (fun x => decide (q ∈ P ps x)) = if a = 0 ∨ a ∈ P ps q then blF (stF ps) 13 q else [] := by
  intro n
  induction n with
  | zero =>
    intro a hn hl ha
    have e : a = ps.length := by omega
    have hk : kids (stF ps) 0 a = [] := by unfold kids; exact flat_nil fun x _ => rfl
    rw [hk, List.filter_nil, if_neg]
    rintro (z | z)
    · have := hq.1; have := hq.2; omega
    · have := P_le ok _ _ z
      have e2 : a = q := by have := hq.2; omega
      exact hn (by rw [e2]; exact P_self ok hq.1)
  | succ n ih =>
    intro a hn hl ha
    have one : ∀ x ∈ chN (stF ps) a, (blF (stF ps) (n + 1) x).filter (fun x => decide (q ∈ P ps x)) = if x ∈ P ps q then blF (stF ps) 13 q else [] := fun x hx => by
      have m := ch_mem ok hx
      by_cases hxq : x = q
      · subst hxq
        rw [if_pos (P_self ok m.1), List.filter_eq_self.mpr fun y hy => decide_eq_true (bl_all ok _ _ m.1 m.2.1 (P_self ok m.1) y hy)]
        have := ok.len
        exact blF_st ok _ _ _ m.1 (by omega) (by omega) m.2.1
      · have hnx : q ∉ P ps x := by
          rw [P_succ ok m.1, m.2.2.1]
          intro z
          rcases List.mem_append.mp z with z | z
          · exact hn z
          · rw [List.mem_singleton] at z; exact hxq z.symm
        show (x :: kids (stF ps) n x).filter _ = _
        rw [List.filter_cons_of_neg (by simpa using hnx), ih x hnx (by omega) m.2.1]
        have : x ≠ 0 := by have := m.1; omega
        simp only [this, false_or]
    unfold kids
    rw [List.filter_flatMap, flat_congr one]
    by_cases hc : a = 0 ∨ a ∈ P ps q
    · rw [if_pos hc]
      have hne : a ≠ q := by
        rintro rfl
        exact hn (P_self ok hq.1)
      obtain ⟨x, hx, e⟩ := P_next ok q hq.1 a hc hne
      have hx1 := P_one ok _ _ hx
      have hxl : x ≤ ps.length := Nat.le_trans (P_le ok _ _ hx) hq.2
      refine flat_one (x := x) (ch_nodup a) (by rw [← e]; exact mem_ch hx1 hxl) hx fun y hy hyq => ?_
      have m := ch_mem ok hy
      exact P_uniq ok q y x hyq hx (m.2.2.1.trans e.symm)
    · rw [if_neg hc]
      refine flat_nil fun x hx => ?_
      have m := ch_mem ok hx
      rw [if_neg fun hxq => ?_]
      have := P_par ok q x hxq
      rw [m.2.2.1] at this
      exact hc this
theorem below_eq {q : Nat} (hq : In ps q) : (kids (stF ps) 13 0).filter (fun x => decide (q ∈ P ps x)) = blF (stF ps) 13 q := by
  have := ok.len
  rw [kids_filter ok hq 13 0 (by rw [P_zero]; exact fun z => by cases z) (by omega) (by omega), if_pos (.inl rfl)]
end
end K07
namespace K07
open PySem L2 L2.PU
noncomputable def kq (ps : List Nat) (q x : Nat) : Bool := !decide (q ∈ P ps x)
theorem flat_filter {α β : Type} {k : α → Bool} {p : β → Bool} {f f' : α → List β} : ∀ {l : List α}, (∀ x ∈ l, k x = true → f' x = (f x).filter p) → (∀ x ∈ l, k x = false → (f x).filter p = []) → (l.filter k).flatMap f' = (l.flatMap f).filter p
  | [], _, _ => rfl
  | x :: r, h1, h2 => by
    have ih := flat_filter (l := r) (fun y hy => h1 y (List.mem_cons_of_mem _ hy)) (fun y hy => h2 y (List.mem_cons_of_mem _ hy))
    rw [List.flatMap_cons, List.filter_append, List.filter_cons]
    cases hk : k x with
    | true => rw [if_pos rfl, List.flatMap_cons, h1 x List.mem_cons_self hk, ih]
    | false => rw [if_neg (by decide), h2 x List.mem_cons_self hk, ih]; rfl
theorem ch_filter (st : List (Nat × Nat)) (k : Nat → Bool) (a : Nat) : chN (st.filter fun x => k x.1) a = (chN st a).filter k := by
  unfold chN
  rw [List.filter_map, List.filter_filter, List.filter_filter]
  congr 1
  exact List.filter_congr fun x _ => Bool.and_comm _ _
theorem ch_append (s1 s2 : List (Nat × Nat)) (a : Nat) : chN (s1 ++ s2) a = chN s1 a ++ chN s2 a := by
  unfold chN
  rw [List.filter_append, List.map_append]
section
variable {ps : List Nat} (ok : PsOk ps)
include ok
theorem par_sub {st : List (Nat × Nat)} (hs : ∀ y ∈ st, y ∈ stF ps) {x : Nat} (hx : (x, par ps x) ∈ st) : parN st x = some (par ps x) := parN_of (fun y hy e => by
  obtain ⟨_, _, h⟩ := st_mem (hs y hy)
  rw [h, e]) hx
theorem P_sub {x y : Nat} : ∀ q, x ∈ P ps q → y ∈ P ps x → y ∈ P ps q := fun q => by
  induction q using Nat.strongRecOn with
  | ind q ih =>
    intro hx hy
    by_cases h : 1 ≤ q
    · rw [P_succ ok h] at hx ⊢
      rcases List.mem_append.mp hx with z | z
      · exact List.mem_append_left _ (ih _ (par_lt ok h) z hy)
      · rw [List.mem_singleton.mp z, P_succ ok h] at hy
        exact hy
    · have : q = 0 := by omega
      subst this
      cases hx
theorem path_sub {st : List (Nat × Nat)} (hs : ∀ y ∈ st, y ∈ stF ps) : ∀ n q, n ≤ 13 → 1 ≤ q → q ≤ n → (∀ y ∈ P ps q, (y, par ps y) ∈ st) → pthN st n q = some (pF ps n q)
  | 0, q, _, h1, h3, _ => by omega
  | n + 1, q, hn, h1, h3, hy => by
    have hp := par_lt ok h1
    unfold pthN pF
    rw [par_sub ok hs (hy q (P_self ok h1)), Option.bind_some, if_neg (show ¬ q = 0 by omega)]
    by_cases e : par ps q = 0
    · rw [if_pos e, e, pF_zero]; rfl
    · rw [if_neg e, path_sub hs n _ (by omega) (by omega) (by omega) (fun y hy' => hy y (by rw [P_succ ok h1]; exact List.mem_append_left _ hy')), Option.bind_some]
      have := pF_len (ps := ps) n (par ps q)
      rw [if_pos (by omega)]
theorem path_sub13 {st : List (Nat × Nat)} (hs : ∀ y ∈ st, y ∈ stF ps) {q : Nat} (hq : In ps q) (hy : ∀ y ∈ P ps q, (y, par ps y) ∈ st) : pthN st 13 q = some (P ps q) := by
  have := ok.len
  have h2 := hq.2
  rw [path_sub ok hs 13 q (by omega) hq.1 (by omega) hy, pF_st ok q 13 (by omega)]; rfl
theorem kq_ch {q a x : Nat} (hx : x ∈ chN (stF ps) a) : kq ps q x = (kq ps q a && !decide (x = q)) := by
  obtain ⟨h1, h2, h3, h4⟩ := ch_mem ok hx
  unfold kq
  rw [P_succ ok h1, h3]
  by_cases e : q ∈ P ps a
  · simp [e]
  · by_cases z : x = q
    · subst z; simp
    · have : ¬ q = x := fun y => z y.symm
      simp [e, z, this]
noncomputable def stC (ps : List Nat) (q : Nat) : List (Nat × Nat) := (stF ps).filter fun x => kq ps q x.1
theorem bl_cut {q : Nat} : ∀ n a, (a = 0 ∨ In ps a) → kq ps q a = true → (chN (stC ps q) a).flatMap (blF (stC ps q) n) = ((chN (stF ps) a).flatMap (blF (stF ps) n)).filter (kq ps q) := by
  intro n
  induction n with
  | zero =>
    intro a _ _
    have h1 : ∀ (l : List Nat) (s : List (Nat × Nat)), l.flatMap (blF s 0) = [] := fun l s => flat_nil fun x _ => rfl
    rw [h1, h1]; rfl
  | succ n ih =>
    intro a ha hk
    have e : chN (stC ps q) a = (chN (stF ps) a).filter (kq ps q) := ch_filter (stF ps) (kq ps q) a
    rw [e]
    refine flat_filter (fun x hx hkx => ?_) (fun x hx hkx => ?_)
    · obtain ⟨h1, h2, _, _⟩ := ch_mem ok hx
      unfold blF
      rw [List.filter_cons, if_pos hkx, ih x (.inr ⟨h1, h2⟩) hkx]
    · obtain ⟨h1, h2, _, _⟩ := ch_mem ok hx
      rw [List.filter_eq_nil_iff]
      intro y hy
      have hq : q ∈ P ps x := by
        unfold kq at hkx
        simpa using hkx
      have := bl_all ok (q := q) (n + 1) x h1 h2 hq y hy
      unfold kq
      simp [this]
theorem stC_sub {q : Nat} : ∀ y ∈ stC ps q, y ∈ stF ps := fun y hy => (List.mem_filter.mp hy).1
theorem stC_in {q x : Nat} (hx : In ps x) (hk : kq ps q x = true) : (x, par ps x) ∈ stC ps q := List.mem_filter.mpr ⟨mem_st hx.1 hx.2, hk⟩
theorem blw_cut {q : Nat} : ∀ n a, In ps a → kq ps q a = true → ps.length < n + a → blwN (stC ps q) n a = some (blF (stC ps q) n a)
  | 0, a, h, _, h3 => by
    have := h.2
    omega
  | n + 1, a, h, hk, h3 => by
    have hl := blF_len ok (n + 1) a h.1 h.2 h3
    unfold blF at hl
    rw [List.length_cons] at hl
    have hp := pow_lim ok h.1
    have e := bl_cut ok (q := q) n a (.inr h) hk
    have hle := List.length_filter_le (kq ps q) ((chN (stF ps) a).flatMap (blF (stF ps) n))
    unfold blwN blF
    rw [par_sub ok (stC_sub ok) (stC_in ok h hk), Option.bind_some, catN_eq (g := blF (stC ps q) n) fun x hx => ?_, Option.bind_some, if_pos (by rw [e]; omega)]
    have hx' : x ∈ (chN (stF ps) a).filter (kq ps q) := by rw [← ch_filter]; exact hx
    obtain ⟨h1, h2⟩ := List.mem_filter.mp hx'
    have h4 := ch_mem ok h1
    exact blw_cut n x ⟨h4.1, h4.2.1⟩ h2 (by omega)
theorem kq_zero (q : Nat) : kq ps q 0 = true := by
  unfold kq
  rw [P_zero]; simp
theorem pnt_cut (q : Nat) : pntN (stC ps q) = some ((pntF ps).filter (kq ps q)) := by
  have hl := ok.len
  have e := bl_cut ok (q := q) 13 0 (.inl rfl) (kq_zero ok q)
  have hk := kids_len ok
  unfold kids at hk
  have hle := List.length_filter_le (kq ps q) ((chN (stF ps) 0).flatMap (blF (stF ps) 13))
  unfold pntN
  rw [catN_eq (g := blF (stC ps q) 13) fun x hx => ?_, Option.bind_some, if_pos (by rw [e]; omega), e]
  · rfl
  · have hx' : x ∈ (chN (stF ps) 0).filter (kq ps q) := by rw [← ch_filter]; exact hx
    obtain ⟨h1, h2⟩ := List.mem_filter.mp hx'
    have h4 := ch_mem ok h1
    exact blw_cut ok 13 x ⟨h4.1, h4.2.1⟩ h2 (by omega)
theorem below_mem {q x : Nat} (hq : In ps q) (hx : In ps x) : decide (x ∈ blF (stF ps) 13 q) = decide (q ∈ P ps x) := by
  rw [← below_eq ok hq]
  refine decide_eq_decide.mpr ⟨fun h => ?_, fun h => List.mem_filter.mpr ⟨mem_kids ok 13 x hx.1 hx.2 (by have := ok.len; have := hx.2; omega), decide_eq_true h⟩⟩
  exact of_decide_eq_true (List.mem_filter.mp h).2
theorem blw13 {q : Nat} (hq : In ps q) : blwN (stF ps) 13 q = some (blF (stF ps) 13 q) := blwN_eq ok 13 q hq.1 hq.2 (by have := ok.len; have := hq.1; omega)
theorem cut_st {q : Nat} (hq : In ps q) : cutN (stF ps) q = some (stC ps q) := by
  unfold cutN
  rw [blw13 ok hq, Option.bind_some]
  congr 1
  refine List.filter_congr fun x hx => ?_
  obtain ⟨h1, h2, _⟩ := st_mem hx
  rw [below_mem ok hq ⟨h1, h2⟩]; rfl
noncomputable def stR (ps : List Nat) (q : Nat) : List (Nat × Nat) := (stF ps).filter (fun x => kq ps q x.1) ++ (stF ps).filter fun x => !kq ps q x.1
theorem rai_st {q : Nat} (hq : In ps q) : raiN (stF ps) q = some (stR ps q) := by
  unfold raiN stR
  rw [blw13 ok hq, Option.bind_some]
  congr 2
  · refine List.filter_congr fun x hx => ?_
    obtain ⟨h1, h2, _⟩ := st_mem hx
    rw [below_mem ok hq ⟨h1, h2⟩]; rfl
  · refine List.filter_congr fun x hx => ?_
    obtain ⟨h1, h2, _⟩ := st_mem hx
    rw [below_mem ok hq ⟨h1, h2⟩]
    unfold kq
    rw [Bool.not_not]
theorem stR_sub {q : Nat} : ∀ y ∈ stR ps q, y ∈ stF ps := fun y hy => by
  rcases List.mem_append.mp hy with z | z
  · exact (List.mem_filter.mp z).1
  · exact (List.mem_filter.mp z).1
theorem stR_in {q x : Nat} (hx : In ps x) : (x, par ps x) ∈ stR ps q := by
  cases hk : kq ps q x with
  | true => exact List.mem_append_left _ (List.mem_filter.mpr ⟨mem_st hx.1 hx.2, hk⟩)
  | false => exact List.mem_append_right _ (List.mem_filter.mpr ⟨mem_st hx.1 hx.2, by rw [hk]; rfl⟩)
theorem ch_rai {q a : Nat} (htop : par ps q = 0) (ha : 1 ≤ a) : chN (stR ps q) a = chN (stF ps) a := by
  unfold stR
  rw [ch_append, ch_filter (stF ps) (kq ps q) a, ch_filter (stF ps) (fun x => !kq ps q x) a]
  have key : ∀ x ∈ chN (stF ps) a, kq ps q x = kq ps q a := fun x hx => by
    rw [kq_ch ok hx]
    obtain ⟨_, _, h3, _⟩ := ch_mem ok hx
    have : ¬ x = q := fun z => by
      rw [z, htop] at h3
      omega
    simp [this]
  cases hk : kq ps q a with
  | true =>
    rw [List.filter_eq_self.mpr fun x hx => by rw [key x hx, hk], List.filter_eq_nil_iff.mpr fun x hx => by rw [key x hx, hk]; decide, List.append_nil]
  | false =>
    rw [List.filter_eq_nil_iff.mpr fun x hx => by rw [key x hx, hk]; decide, List.filter_eq_self.mpr fun x hx => by rw [key x hx, hk]; rfl, List.nil_append]
theorem bl_rai {q : Nat} (htop : par ps q = 0) : ∀ n a, 1 ≤ a → blF (stR ps q) n a = blF (stF ps) n a
  | 0, _, _ => rfl
  | n + 1, a, ha => by
    unfold blF
    rw [ch_rai ok htop ha]
    congr 1
    exact flat_congr fun x hx => bl_rai htop n x (ch_mem ok hx).1
theorem blw_rai {q : Nat} (htop : par ps q = 0) : ∀ n a, In ps a → ps.length < n + a → blwN (stR ps q) n a = some (blF (stR ps q) n a)
  | 0, a, h, h3 => by
    have := h.2
    omega
  | n + 1, a, h, h3 => by
    have hl := blF_len ok (n + 1) a h.1 h.2 h3
    rw [← bl_rai ok htop (n + 1) a h.1] at hl
    unfold blF at hl
    rw [List.length_cons] at hl
    have hp := pow_lim ok h.1
    unfold blwN blF
    rw [par_sub ok (stR_sub ok) (stR_in ok h), Option.bind_some, catN_eq (g := blF (stR ps q) n) fun x hx => ?_, Option.bind_some, if_pos (by omega)]
    rw [ch_rai ok htop h.1] at hx
    have h4 := ch_mem ok hx
    exact blw_rai htop n x ⟨h4.1, h4.2.1⟩ (by omega)
theorem kids_rai {q : Nat} (hq : In ps q) (htop : par ps q = 0) : (chN (stR ps q) 0).flatMap (blF (stR ps q) 13) = (pntF ps).filter (kq ps q) ++ (pntF ps).filter fun x => !kq ps q x := by
  have e0 : (chN (stR ps q) 0).flatMap (blF (stR ps q) 13) = (chN (stR ps q) 0).flatMap (blF (stF ps) 13) := flat_congr fun x hx => by
    unfold stR at hx
    rw [ch_append, ch_filter (stF ps) (kq ps q) 0, ch_filter (stF ps) (fun x => !kq ps q x) 0] at hx
    have : x ∈ chN (stF ps) 0 := by
      rcases List.mem_append.mp hx with z | z
      · exact (List.mem_filter.mp z).1
      · exact (List.mem_filter.mp z).1
    exact bl_rai ok htop 13 x (ch_mem ok this).1
  rw [e0]
  unfold stR
  rw [ch_append, ch_filter (stF ps) (kq ps q) 0, ch_filter (stF ps) (fun x => !kq ps q x) 0, List.flatMap_append]
  have out : ∀ x ∈ chN (stF ps) 0, kq ps q x = true → ∀ y ∈ blF (stF ps) 13 x, kq ps q y = true := fun x hx hk y hy => by
    obtain ⟨h1, h2, h3, _⟩ := ch_mem ok hx
    have hxy := bl_all ok (q := x) 13 x h1 h2 (P_self ok h1) y hy
    cases hz : kq ps q y with
    | true => rfl
    | false =>
      exfalso
      have hqy : q ∈ P ps y := by
        unfold kq at hz
        simpa using hz
      have := P_uniq ok y x q hxy hqy (by rw [h3, htop])
      subst this
      unfold kq at hk
      rw [decide_eq_true (P_self ok h1)] at hk
      cases hk
  have inn : ∀ x ∈ chN (stF ps) 0, kq ps q x = false → ∀ y ∈ blF (stF ps) 13 x, kq ps q y = false := fun x hx hk y hy => by
    obtain ⟨h1, h2, _, _⟩ := ch_mem ok hx
    have hqx : q ∈ P ps x := by
      unfold kq at hk
      simpa using hk
    have := bl_all ok (q := q) 13 x h1 h2 hqx y hy
    unfold kq
    simp [this]
  congr 1
  · refine flat_filter (fun x hx hk => ?_) (fun x hx hk => ?_)
    · exact (List.filter_eq_self.mpr fun y hy => out x hx hk y hy).symm
    · exact List.filter_eq_nil_iff.mpr fun y hy => by rw [inn x hx hk y hy]; decide
  · refine flat_filter (fun x hx hk => ?_) (fun x hx hk => ?_)
    · have hk' : kq ps q x = false := by simpa using hk
      exact (List.filter_eq_self.mpr fun y hy => by rw [inn x hx hk' y hy]; rfl).symm
    · have hk' : kq ps q x = true := by simpa using hk
      exact List.filter_eq_nil_iff.mpr fun y hy => by rw [out x hx hk' y hy]; decide
theorem pnt_rai {q : Nat} (hq : In ps q) (htop : par ps q = 0) : pntN (stR ps q) = some ((pntF ps).filter (kq ps q) ++ (pntF ps).filter fun x => !kq ps q x) := by
  have hl := ok.len
  have e := kids_rai ok hq htop
  have hk := kids_len ok
  have hlen : ((pntF ps).filter (kq ps q) ++ (pntF ps).filter fun x => !kq ps q x).length ≤ 3000000 := by
    have h1 := kids_2 ok
    have h2 := List.length_filter_le (kq ps q) (pntF ps)
    rw [List.length_append]
    have h3 : ∀ l : List Nat, (l.filter (kq ps q)).length + (l.filter fun x => !kq ps q x).length = l.length := fun l => by
      induction l with
      | nil => rfl
      | cons x r ih =>
        rw [List.filter_cons, List.filter_cons]
        cases kq ps q x <;> simp <;> omega
    have := h3 (pntF ps)
    omega
  unfold pntN
  rw [catN_eq (g := blF (stR ps q) 13) fun x hx => ?_, Option.bind_some, e, if_pos hlen]
  unfold stR at hx
  rw [ch_append, ch_filter (stF ps) (kq ps q) 0, ch_filter (stF ps) (fun x => !kq ps q x) 0] at hx
  have h1 : x ∈ chN (stF ps) 0 := by
    rcases List.mem_append.mp hx with z | z
    · exact (List.mem_filter.mp z).1
    · exact (List.mem_filter.mp z).1
  have h4 := ch_mem ok h1
  exact blw_rai ok htop 13 x ⟨h4.1, h4.2.1⟩ (by omega)
end
end K07
namespace K07
open PySem L2 L2.PU
theorem sub_len {α : Type} [DecidableEq α] : ∀ (l m : List α), l.Nodup → (∀ x ∈ l, x ∈ m) → l.length ≤ m.length
  | [], _, _, _ => Nat.zero_le _
  | x :: r, m, h1, h2 => by
    obtain ⟨n1, n2⟩ := List.nodup_cons.mp h1
    have hx := h2 x List.mem_cons_self
    have ih := sub_len r (m.erase x) n2 fun y hy => (List.mem_erase_of_ne fun e => n1 (by rw [← e]; exact hy)).mpr (h2 y (List.mem_cons_of_mem _ hy))
    rw [List.length_erase_of_mem hx] at ih
    have : 0 < m.length := List.length_pos_of_mem hx
    rw [List.length_cons]
    omega
section
variable {ps : List Nat} (ok : PsOk ps)
include ok
theorem kids_nd : ∀ n a, ((chN (stF ps) a).flatMap (blF (stF ps) n)).Nodup := by
  intro n
  induction n with
  | zero =>
    intro a
    rw [flat_nil (f := blF (stF ps) 0) fun x _ => rfl]
    exact List.nodup_nil
  | succ n ih =>
    intro a
    refine List.pairwise_flatMap.mpr ⟨fun x hx => ?_, ?_⟩
    · obtain ⟨h1, h2, _, _⟩ := ch_mem ok hx
      unfold blF
      refine List.nodup_cons.mpr ⟨fun z => ?_, ih x⟩
      obtain ⟨y, hy, hz⟩ := List.mem_flatMap.mp z
      obtain ⟨g1, g2, _, g4⟩ := ch_mem ok hy
      have := P_le ok x y (bl_all ok (q := y) n y g1 g2 (P_self ok g1) x hz)
      omega
    · refine (ch_nodup (ps := ps) a).imp_of_mem fun {x1 x2} m1 m2 hne => ?_
      obtain ⟨h1, h2, h3, _⟩ := ch_mem ok m1
      obtain ⟨g1, g2, g3, _⟩ := ch_mem ok m2
      intro y hy1 y2 hy2 hyy
      subst hyy
      have e1 := bl_all ok (q := x1) (n + 1) x1 h1 h2 (P_self ok h1) y hy1
      have e2 := bl_all ok (q := x2) (n + 1) x2 g1 g2 (P_self ok g1) y hy2
      exact hne (P_uniq ok y x1 x2 e1 e2 (by rw [h3, g3]))
theorem pnt_nd : (pntF ps).Nodup := kids_nd ok 13 0
theorem pnt_in {x : Nat} (h : x ∈ pntF ps) : In ps x := kids_mem ok h
theorem in_pnt {x : Nat} (h : In ps x) : x ∈ pntF ps := mem_kids ok 13 x h.1 h.2 (by have := ok.len; have := h.2; omega)
theorem pnt_7 : (pntF ps).length ≤ 7 := by
  have := sub_len (pntF ps) ((List.range ps.length).map (· + 1)) (pnt_nd ok) fun x hx => by
    obtain ⟨h1, h2⟩ := pnt_in ok hx
    exact List.mem_map.mpr ⟨x - 1, List.mem_range.mpr (by omega), by omega⟩
  rw [List.length_map, List.length_range] at this
  have := ok.len
  omega
end
theorem hitL_eq (g : Geo) (ps pnt : List Nat) (x y : Int) : hitL g ps pnt x y = pnt.reverse.filter fun q => g.tch ps x y q && (!g.l q && g.shown ps q) := by
  unfold hitL tkL
  rw [List.filter_filter, List.filter_filter]
  exact List.filter_congr fun q _ => Bool.and_assoc _ _ _
theorem hit_sub {g : Geo} {ps pnt : List Nat} {x y : Int} {q : Nat} (h : q ∈ hitL g ps pnt x y) : q ∈ pnt := by
  rw [hitL_eq] at h
  exact List.mem_reverse.mp (List.mem_filter.mp h).1
theorem hit_iff {g : Geo} {ps pnt : List Nat} {x y : Int} {q : Nat} (h : q ∈ pnt) : decide (q ∈ hitL g ps pnt x y) = (g.tch ps x y q && (!g.l q && g.shown ps q)) := by
  rw [hitL_eq]
  cases e : (g.tch ps x y q && (!g.l q && g.shown ps q)) with
  | true => exact decide_eq_true (List.mem_filter.mpr ⟨List.mem_reverse.mpr h, e⟩)
  | false =>
    refine decide_eq_false fun z => ?_
    have := (List.mem_filter.mp z).2
    rw [e] at this
    cases this
theorem hit_cut (g : Geo) (ps pnt : List Nat) (k : Nat → Bool) (x y : Int) : hitL g ps (pnt.filter k) x y = (hitL g ps pnt x y).filter k := by
  rw [hitL_eq, hitL_eq, ← List.filter_reverse, List.filter_filter, List.filter_filter]
  exact List.filter_congr fun _ _ => Bool.and_comm _ _
theorem tch_eq (g : Geo) (ps : List Nat) (x y : Int) (q : Nat) : g.tch ps x y q = (((P ps (par ps q)).filter g.c).all (fun z => hasP (g.area ps z) x y) && hasP (g.area ps q) x y) := by
  unfold Geo.tch Geo.row Geo.cuts
  dsimp only
  rw [List.all_append, List.all_map, List.all_cons, List.all_nil, Bool.and_true]; rfl
section
variable {ps : List Nat} (ok : PsOk ps)
include ok
theorem par_P {q x : Nat} (hq : 1 ≤ q) (h : x ∈ P ps (par ps q)) : x ∈ P ps q := by
  rw [P_succ ok hq]
  exact List.mem_append_left _ h
theorem hit_mark {g g' : Geo} {q : Nat} (hL : g'.L = g.L) (hT : g'.T = g.T) (hW : g'.W = g.W) (hH : g'.H = g.H) (hc : ∀ x, x ≠ q → g'.c x = g.c x) (hh : ∀ x, x ≠ q → g'.h x = g.h x) (hl : ∀ x, x ≠ q → g'.l x = g.l x) (hq : g'.h q = true) (x y : Int) :
    hitL g' ps (pntF ps) x y = (hitL g ps (pntF ps) x y).filter (kq ps q) := by
  have ha : ∀ z, g'.area ps z = g.area ps z := fun z => by
    unfold Geo.area Geo.sL Geo.sT
    rw [hL, hT, hW, hH]
  rw [hitL_eq, hitL_eq, List.filter_filter]
  refine List.filter_congr fun z hz => ?_
  have hin := pnt_in ok (List.mem_reverse.mp hz)
  by_cases e : q ∈ P ps z
  · have h1 : g'.shown ps z = false := by
      unfold Geo.shown
      rw [List.all_eq_false]
      exact ⟨q, e, by rw [hq]; decide⟩
    have h2 : kq ps q z = false := by unfold kq; simp [e]
    rw [h1, h2]; simp
  · have hne : ∀ w ∈ P ps z, w ≠ q := fun w hw e2 => e (by rw [← e2]; exact hw)
    have h1 : g'.shown ps z = g.shown ps z := by
      unfold Geo.shown
      rw [Bool.eq_iff_iff, List.all_eq_true, List.all_eq_true]
      exact ⟨fun h w hw => by rw [← hh w (hne w hw)]; exact h w hw, fun h w hw => by rw [hh w (hne w hw)]; exact h w hw⟩
    have h2 : kq ps q z = true := by unfold kq; simp [e]
    have h3 : g'.tch ps x y z = g.tch ps x y z := by
      rw [tch_eq, tch_eq, ha]
      congr 1
      rw [List.filter_congr fun w hw => hc w (hne w (par_P ok hin.1 hw))]
      congr 1
      funext w
      rw [ha]
    rw [h1, h2, h3, hl z (hne z (P_self ok hin.1))]; simp
theorem hit_shift {g g' : Geo} (hL : ∀ x, In ps x → g'.L x = g.L x + if par ps x = 0 then 5 else 0) (hT : ∀ x, In ps x → g'.T x = g.T x - if par ps x = 0 then 4 else 0) (hW : g'.W = g.W) (hH : g'.H = g.H) (hc : g'.c = g.c) (hh : g'.h = g.h) (hl : g'.l = g.l) (x y : Int) :
    hitL g' ps (pntF ps) (x + 5) (y - 4) = hitL g ps (pntF ps) x y := by
  have hs : ∀ z, In ps z → g'.sL ps z = g.sL ps z + 5 ∧ g'.sT ps z = g.sT ps z - 4 := fun z => by
    induction z using Nat.strongRecOn with
    | ind z ih =>
      intro hz
      rw [sL_ch ok hz.1, sL_ch (g := g) ok hz.1, sT_ch ok hz.1, sT_ch (g := g) ok hz.1, hL z hz, hT z hz]
      by_cases e : par ps z = 0
      · rw [if_pos e, if_pos e, e]
        have h1 : ∀ f : Geo, f.sL ps 0 = 0 := fun f => rfl
        have h2 : ∀ f : Geo, f.sT ps 0 = 0 := fun f => rfl
        rw [h1, h1, h2, h2]
        omega
      · rw [if_neg e, if_neg e]
        have hp := par_lt ok hz.1
        obtain ⟨h1, h2⟩ := ih (par ps z) hp ⟨by omega, by have := hz.2; omega⟩
        rw [h1, h2]
        omega
  have ha : ∀ z, In ps z → hasP (g'.area ps z) (x + 5) (y - 4) = hasP (g.area ps z) x y := fun z hz => by
    obtain ⟨h1, h2⟩ := hs z hz
    unfold hasP Geo.area
    dsimp only
    rw [h1, h2, hW, hH]
    congr 1
    · congr 1
      · exact decide_eq_decide.mpr (by omega)
      · exact decide_eq_decide.mpr (by omega)
    · congr 1
      · exact decide_eq_decide.mpr (by omega)
      · exact decide_eq_decide.mpr (by omega)
  rw [hitL_eq, hitL_eq]
  refine List.filter_congr fun z hz => ?_
  have hin := pnt_in ok (List.mem_reverse.mp hz)
  have h1 : g'.shown ps z = g.shown ps z := by unfold Geo.shown; rw [hh]
  have h3 : g'.tch ps (x + 5) (y - 4) z = g.tch ps x y z := by
    rw [tch_eq, tch_eq, ha z hin, hc]
    congr 1
    rw [Bool.eq_iff_iff, List.all_eq_true, List.all_eq_true]
    have hm : ∀ w ∈ (P ps (par ps z)).filter g.c, In ps w := fun w hw => P_in' ok z hin (par_P ok hin.1 (List.mem_filter.mp hw).1)
    exact ⟨fun h w hw => by rw [← ha w (hm w hw)]; exact h w hw, fun h w hw => by rw [ha w (hm w hw)]; exact h w hw⟩
  rw [h1, h3, hl]
theorem hit_out {g : Geo} {q z : Nat} {x y : Int} (hc : g.c q = true) (ho : hasP (g.area ps q) x y = false) (hz : In ps z) (hq : q ∈ P ps z) : g.tch ps x y z = false := by
  rw [tch_eq]
  by_cases e : z = q
  · subst e
    rw [ho, Bool.and_false]
  · have : q ∈ P ps (par ps z) := by
      rw [P_succ ok hz.1] at hq
      rcases List.mem_append.mp hq with h | h
      · exact h
      · exact absurd (List.mem_singleton.mp h).symm e
    have h2 : ((P ps (par ps z)).filter g.c).all (fun w => hasP (g.area ps w) x y) = false := by
      rw [List.all_eq_false]
      exact ⟨q, List.mem_filter.mpr ⟨this, hc⟩, by rw [ho]; decide⟩
    rw [h2]; rfl
theorem hit_rai {g : Geo} {q : Nat} (hq : In ps q) {x y : Int} (h : (hitL g ps (pntF ps) x y).head? = some q) : ∃ z r, hitL g ps ((pntF ps).filter (kq ps q) ++ (pntF ps).filter fun x => !kq ps q x) x y = z :: r ∧ q ∈ P ps z ∧ In ps z := by
  have hm : q ∈ hitL g ps (pntF ps) x y := List.mem_of_mem_head? (by rw [h]; rfl)
  rw [hitL_eq] at hm
  obtain ⟨h1, h2⟩ := List.mem_filter.mp hm
  rw [hitL_eq, List.reverse_append, List.filter_append]
  have hq2 : q ∈ ((pntF ps).filter fun x => !kq ps q x).reverse.filter (fun q => g.tch ps x y q && (!g.l q && g.shown ps q)) := List.mem_filter.mpr ⟨List.mem_reverse.mpr (List.mem_filter.mpr ⟨List.mem_reverse.mp h1, by unfold kq; simp [P_self ok hq.1]⟩), h2⟩
  cases hl : ((pntF ps).filter fun x => !kq ps q x).reverse.filter (fun q => g.tch ps x y q && (!g.l q && g.shown ps q)) with
  | nil => rw [hl] at hq2; cases hq2
  | cons z r =>
    have hz : z ∈ ((pntF ps).filter fun x => !kq ps q x).reverse.filter (fun q => g.tch ps x y q && (!g.l q && g.shown ps q)) := by rw [hl]; exact List.mem_cons_self
    obtain ⟨g1, g2⟩ := List.mem_filter.mp (List.mem_reverse.mp (List.mem_filter.mp hz).1)
    refine ⟨z, _, rfl, ?_, pnt_in ok g1⟩
    unfold kq at g2
    simpa using g2
end
end K07
namespace K07
open PySem L2 L2.PU
theorem Tr.same {c c' : Sc} {ps pnt : List Nat} {D : Nat → Prop} (t : Tr c ps D pnt) (hs : c'.st = c.st) (ok' : c'.Ok) : Tr c' ps D pnt :=
  ⟨ok', t.din, fun q h => by rw [hs]; exact t.par q h, fun q h => by rw [hs]; exact t.path q h, t.up, by rw [hs]; exact t.pn, t.pd, t.pl, t.ps⟩
section
variable {c : Sc} {ps : List Nat} (t : Tr c ps (In ps) (pntF ps))
include t
theorem Tr.cut {q : Nat} (hq : In ps q) : Tr (c.on (stC ps q)) ps (fun x => In ps x ∧ kq ps q x = true) ((pntF ps).filter (kq ps q)) := by
  have hl : (stC ps q).length ≤ 12 := by
    have h1 := List.length_filter_le (fun x : Nat × Nat => kq ps q x.1) (stF ps)
    have h2 : (stF ps).length = ps.length := by unfold stF; rw [List.length_map, List.length_range]
    have h3 := t.ps.len
    unfold stC
    omega
  have up : ∀ x, (In ps x ∧ kq ps q x = true) → ∀ y ∈ P ps x, In ps y ∧ kq ps q y = true := fun x hx y hy => ⟨P_in' t.ps x hx.1 hy, by
    have h1 := hx.2
    unfold kq at h1 ⊢
    have h2 : ¬ q ∈ P ps x := by simpa using h1
    have h3 : ¬ q ∈ P ps y := fun z => h2 (P_sub t.ps x hy z)
    simp [h3]⟩
  refine ⟨t.ok.on hl, fun x h => h.1, fun x h => par_sub t.ps (stC_sub t.ps) (stC_in t.ps h.1 h.2), fun x h => path_sub13 t.ps (stC_sub t.ps) h.1 fun y hy => stC_in t.ps (up x h y hy).1 (up x h y hy).2, up, pnt_cut t.ps q, fun x hx => ?_, ?_, t.ps⟩
  · obtain ⟨h1, h2⟩ := List.mem_filter.mp hx
    exact ⟨pnt_in t.ps h1, h2⟩
  · have h1 := List.length_filter_le (kq ps q) (pntF ps)
    have h2 := pnt_7 t.ps
    omega
theorem Tr.rai {q : Nat} (hq : In ps q) (htop : K07.par ps q = 0) : Tr (c.on (stR ps q)) ps (In ps) ((pntF ps).filter (kq ps q) ++ (pntF ps).filter fun x => !kq ps q x) := by
  have hl : (stR ps q).length ≤ 12 := by
    have h1 := List.length_filter_le (fun x : Nat × Nat => kq ps q x.1) (stF ps)
    have h0 := List.length_filter_le (fun x : Nat × Nat => !kq ps q x.1) (stF ps)
    have h4 : ∀ l : List (Nat × Nat), (l.filter fun x => kq ps q x.1).length + (l.filter fun x => !kq ps q x.1).length = l.length := fun l => by
      induction l with
      | nil => rfl
      | cons x r ih =>
        rw [List.filter_cons, List.filter_cons]
        cases kq ps q x.1 <;> simp <;> omega
    have h5 := h4 (stF ps)
    have h2 : (stF ps).length = ps.length := by unfold stF; rw [List.length_map, List.length_range]
    have h3 := t.ps.len
    unfold stR
    rw [List.length_append]
    omega
  refine ⟨t.ok.on hl, fun x h => h, fun x h => par_sub t.ps (stR_sub t.ps) (stR_in t.ps h), fun x h => path_sub13 t.ps (stR_sub t.ps) h fun y hy => stR_in t.ps (P_in' t.ps x h hy), fun x h y hy => P_in' t.ps x h hy, pnt_rai t.ps hq htop, fun x hx => ?_, ?_, t.ps⟩
  · rcases List.mem_append.mp hx with z | z
    · exact pnt_in t.ps (List.mem_filter.mp z).1
    · exact pnt_in t.ps (List.mem_filter.mp z).1
  · have h1 := List.length_filter_le (kq ps q) (pntF ps)
    have h3 := List.length_filter_le (fun x => !kq ps q x) (pntF ps)
    have h2 := pnt_7 t.ps
    rw [List.length_append]
    omega
end
section
variable {c : Sc} {ps : List Nat} {D : Nat → Prop} {pnt : List Nat} (t : Tr c ps D pnt)
include t
theorem T_hits (x y : Int) : F_all_hits [c.d, .int x, .int y] = some (c.S (hitL c.geo ps pnt x y)) := by
  refine run_of rfl (show g_all_hits F_takers F_has_point [.val c.d, .val (.int x), .val (.int y)] = _ from ret_of (oE_of (comp_eq (ds := (tkL c.geo ps pnt).map (tkD c ps)) (lI_of (lA_of (aC_of rfl rfl) (T_takers t)) rfl) (by rw [List.length_map]; exact tk_len t) ?_)))
  unfold hitL
  exact cGo_map (t := tgT (tgCons (tgN 0) (tgCons (tgN 1) tgNil))) (f := eV 0) (η := [.un, .un, .val (.int x), .val (.int y)]) (tkD c ps) (c.geo.tch ps x y) c.s (tkL c.geo ps pnt) fun q hq => ⟨[.val (c.s q), .val (arD (c.geo.wnd ps q)), .val (.int x), .val (.int y)], rfl, by
    rw [← wnd_has t.ps (t.din q (tk_in t hq)).1]
    exact bT_of (lA_of (aC_of rfl (aC_of rfl (aC_of rfl rfl))) (T_point _ x y)), fun _ => rfl⟩
theorem T_hit (x y : Int) : F_hit [c.d, .int x, .int y] = some (hdD c (hitL c.geo ps pnt x y)) := run_of rfl (show g_hit F_takers F_first_at [.val c.d, .val (.int x), .val (.int y)] = _ from ret_of (lA_of (aC_of (lA_of (aC_of rfl rfl) (T_takers t)) (aC_of rfl (aC_of rfl rfl))) (T_first t x y)))
theorem T_touch {q : Nat} (hq : D q) (x y : Int) : F_is_touched [c.d, c.s q, .int x, .int y] = some (.bool (c.geo.shown ps q && c.geo.tch ps x y q)) := by
  rw [← wnd_has t.ps (t.din q hq).1]
  exact run_of rfl (show g_is_touched F_window_of F_has_point F_is_shown [.val c.d, .val (c.s q), .val (.int x), .val (.int y)] = _ from ret_of (vAnd_of (lA_of (aC_of rfl (aC_of rfl rfl)) (T_shown t hq)) (lA_of (aC_of (lA_of (aC_of rfl (aC_of rfl rfl)) (T_window t hq)) (aC_of rfl (aC_of rfl rfl))) (T_point _ x y))))
end
noncomputable def b16 : List (List Bool) := [false, true].flatMap fun a => [false, true].flatMap fun b => [false, true].flatMap fun d => [false, true].map fun e => [a, b, d, e]
noncomputable def hidB : List Bool → List Bool
  | [a, _, d, e] => [a, true, d, e]
  | l => l
theorem mem16 : ∀ {bs : List Bool}, bs.length = 4 → bs ∈ b16
  | [a, b, d, e], _ => by cases a <;> cases b <;> cases d <;> cases e <;> decide
  | [], h => by cases h
  | [_], h => by cases h
  | [_, _], h => by cases h
  | [_, _, _], h => by cases h
  | _ :: _ :: _ :: _ :: _ :: _, h => by simp at h
theorem mk_all : ∀ bs ∈ b16, (chS (mkS (hidB bs))).Perm ((chS (mkS bs ++ "h")).foldl sd []) ∧ PyProof.Rows.sortedS (chS (mkS (hidB bs))) = true ∧ (mkS bs ++ "h").cps.size < 64 ∧ PyData.strOk (mkS (hidB bs)) = true ∧ inM "h" (mkS (hidB bs)) = true ∧ JoinOk "" (chS (mkS (hidB bs))) = true ∧ Txt.join "" (chS (mkS (hidB bs))) = mkS (hidB bs) := by decide +kernel
theorem asSs_strs : ∀ l : List Str, asSs (l.map PyData.str) = some l
  | [] => rfl
  | x :: r => by
    rw [List.map_cons]
    unfold asSs
    rw [asSs_strs r]; rfl
theorem mark_h {m : Str} (h : mkOk m) : ∃ m', PyData.strOk m' = true ∧ inM "h" m' = true ∧ pAdd (.str m) (.str "h") = some (.str (m ++ "h")) ∧ ∃ d, pSortSetT [.str (m ++ "h")] = some d ∧ pJoin (.str "") d = some (.str m') := by
  obtain ⟨bs, hb, rfl⟩ := h
  obtain ⟨h1, h2, h3, h4, h5, h6, h7⟩ := mk_all bs (mem16 hb)
  refine ⟨mkS (hidB bs), h4, h5, ?_, .list ((chS (mkS (hidB bs))).map PyData.str), ?_, ?_⟩
  · unfold pAdd
    dsimp only
    rw [if_pos]
    have : (mkS bs ++ "h").length = (mkS bs).length + ("h" : Str).length := len_app _ _
    rw [← this]
    exact big (Nat.le_trans (Nat.le_of_lt h3) (by decide))
  · unfold pSortSetT
    dsimp only
    rw [if_pos h3, ← srtS_uniq h1 h2]
  · unfold pJoin
    dsimp only
    rw [asSs_strs, Option.bind_some, if_pos h6, h7]
end K07
namespace K07
open PySem L2 L2.PU
noncomputable abbrev E3 (ns : List Int) (c : Sc) (s2 s3 : Sl) : En := [.val (Sd ns), .val c.d, s2, s3, .un, .un, .un, .un, .un, .un, .un, .un, .un, .un, .un, .un, .un, .un, .un, .un]
noncomputable def shB : En → Option Out := sIf (bT (l2 pEq (l2 pIx (eV 3) (eC (.int 1))) (eC (.str "")))) (sSet 2 (lA F_put_at (aC (eV 2) (aC (l2 pIx (eV 3) (eC (.int 0))) (aC (l2 pAdd (l2 pIx (eV 3) (eC (.int 2))) (eC (.int 5))) (aC (l2 pSub (l2 pIx (eV 3) (eC (.int 3))) (eC (.int 4))) aN)))))) sNx
structure Sh (c c' : Sc) (ps : List Nat) (done : List (Nat × Nat)) : Prop where
  st : c'.st = c.st
  nm : c'.nm = c.nm
  w : c'.W = c.W
  h : c'.H = c.H
  mr : c'.mr = c.mr
  ok : c'.Ok
  l : ∀ x, In ps x → c'.L x = c.L x + if x ∈ done.map (·.1) ∧ par ps x = 0 then 5 else 0
  t : ∀ x, In ps x → c'.T x = c.T x - if x ∈ done.map (·.1) ∧ par ps x = 0 then 4 else 0
theorem ite_iff {A B : Prop} [Decidable A] [Decidable B] {u v : Int} (h : A ↔ B) : (if A then u else v) = if B then u else v := by
  by_cases a : A
  · rw [if_pos a, if_pos (h.mp a)]
  · rw [if_neg a, if_neg fun b => a (h.mpr b)]
theorem mem_sn {z : Nat} {x : Nat × Nat} {done : List (Nat × Nat)} {A : Prop} (ez : ¬ z = x.1) : (z ∈ done.map (·.1) ∧ A) ↔ (z ∈ (done ++ [x]).map (·.1) ∧ A) := by
  rw [List.map_append, List.mem_append]
  constructor
  · exact fun w => ⟨.inl w.1, w.2⟩
  · rintro ⟨w | w, a⟩
    · exact ⟨w, a⟩
    · exact absurd (List.mem_singleton.mp w) ez
theorem shift_ok {c : Sc} {ps : List Nat} {ns : List Int} (t : Tr c ps (In ps) (pntF ps)) (hst : c.st = stF ps) :
    ∃ (c' : Sc) (s3 : Sl), Sh c c' ps c.st ∧ sFor (lI asTu (eV 1)) (tgN 3) shB (E3 ns c (.val c.d) .un) = some (.nx (E3 ns c (.val c'.d) s3)) := by
  obtain ⟨η', e, c', s3, h, rfl⟩ := sGo_all (t := tgN 3) (body := shB) c.box (fun done η => ∃ (c' : Sc) (s3 : Sl), Sh c c' ps done ∧ η = E3 ns c (.val c'.d) s3) c.st (fun done x rest η hall ⟨c', s3, h, hη⟩ => by
    subst hη
    have hx : x ∈ stF ps := by rw [← hst, hall]; simp
    obtain ⟨h1, h2, h3⟩ := st_mem hx
    have hin : In ps x.1 := ⟨h1, h2⟩
    have t1 : bT (l2 pEq (l2 pIx (eV 3) (eC (.int 1))) (eC (.str ""))) (E3 ns c (.val c'.d) (.val (c.box x))) = some (decide (x.2 = 0)) := bT_of (l2_of (x := c.s x.2) (l2_of rfl rfl rfl) rfl (t.ok.eq0 x.2))
    by_cases e : x.2 = 0
    · rw [decide_eq_true e] at t1
      have hp : parN c'.st x.1 = some 0 := by
        rw [h.st, t.par x.1 hin, ← h3, e]
      have hu : ∀ y ∈ c'.st, y.1 = x.1 → y.2 = 0 := fun y hy ey => by
        rw [h.st, hst] at hy
        obtain ⟨_, _, g3⟩ := st_mem hy
        rw [g3, ey, ← h3, e]
      have ep := F_put_eq h.ok (l := c.L x.1 + 5) (t := c.T x.1 - 4) hp hu
      have es : c'.s x.1 = c.s x.1 := by unfold Sc.s; rw [h.nm]
      rw [es] at ep
      have hpar : par ps x.1 = 0 := by rw [← h3, e]
      refine ⟨E3 ns c (.val c'.d) (.val (c.box x)), E3 ns c (.val (c'.put x.1 (c.L x.1 + 5) (c.T x.1 - 4)).d) (.val (c.box x)), rfl, ?_, c'.put x.1 (c.L x.1 + 5) (c.T x.1 - 4), .val (c.box x), ⟨h.st, h.nm, h.w, h.h, h.mr, h.ok.put _ _ _, fun z hz => ?_, fun z hz => ?_⟩, rfl⟩
      · unfold shB
        rw [if_of t1, if_pos rfl]
        exact set_of (lA_of (aC_of rfl (aC_of (l2_of rfl rfl rfl) (aC_of (l2_of (l2_of rfl rfl rfl) rfl rfl) (aC_of (l2_of (l2_of rfl rfl rfl) rfl rfl) rfl)))) ep)
      · show (if z = x.1 then c.L x.1 + 5 else c'.L z) = _
        by_cases ez : z = x.1
        · rw [if_pos ez, ez, if_pos ⟨by simp, hpar⟩]
        · rw [if_neg ez, h.l z hz]
          exact congrArg (c.L z + ·) (ite_iff (mem_sn ez))
      · show (if z = x.1 then c.T x.1 - 4 else c'.T z) = _
        by_cases ez : z = x.1
        · rw [if_pos ez, ez, if_pos ⟨by simp, hpar⟩]
        · rw [if_neg ez, h.t z hz]
          exact congrArg (c.T z - ·) (ite_iff (mem_sn ez))
    · rw [decide_eq_false e] at t1
      have hpar : par ps x.1 ≠ 0 := by rw [← h3]; exact e
      refine ⟨E3 ns c (.val c'.d) (.val (c.box x)), E3 ns c (.val c'.d) (.val (c.box x)), rfl, ifN t1, c', .val (c.box x), ⟨h.st, h.nm, h.w, h.h, h.mr, h.ok, fun z hz => ?_, fun z hz => ?_⟩, rfl⟩
      · rw [h.l z hz]
        refine congrArg (c.L z + ·) (ite_iff ?_)
        by_cases ez : z = x.1
        · subst ez
          exact ⟨fun w => absurd w.2 hpar, fun w => absurd w.2 hpar⟩
        · exact mem_sn ez
      · rw [h.t z hz]
        refine congrArg (c.T z - ·) (ite_iff ?_)
        by_cases ez : z = x.1
        · subst ez
          exact ⟨fun w => absurd w.2 hpar, fun w => absurd w.2 hpar⟩
        · exact mem_sn ez) (η := E3 ns c (.val c.d) .un) ⟨c, .un, ⟨rfl, rfl, rfl, rfl, rfl, t.ok, fun x _ => by simp, fun x _ => by simp⟩, rfl⟩
  exact ⟨c', s3, h, for_of (ds := c.st.map c.box) (lI_of rfl rfl) e⟩
theorem shift_hits {c c' : Sc} {ps : List Nat} (t : Tr c ps (In ps) (pntF ps)) (hst : c.st = stF ps) (h : Sh c c' ps c.st) (x y : Int) : F_all_hits [c'.d, .int (x + 5), .int (y - 4)] = some (c.S (hitL c.geo ps (pntF ps) x y)) := by
  have t' := t.same h.st h.ok
  rw [T_hits t' (x + 5) (y - 4)]
  have hm : ∀ z, In ps z → z ∈ c.st.map (·.1) := fun z hz => by
    rw [hst]
    exact List.mem_map.mpr ⟨(z, par ps z), mem_st hz.1 hz.2, rfl⟩
  have e := hit_shift t.ps (g := c.geo) (g' := c'.geo) (fun z hz => by
    show c'.L z = c.L z + _
    rw [h.l z hz]
    simp [hm z hz]) (fun z hz => by
    show c'.T z = c.T z - _
    rw [h.t z hz]
    simp [hm z hz]) h.w h.h (by show (fun q => inM "c" (c'.mr q)) = _; rw [h.mr]; rfl) (by show (fun q => inM "h" (c'.mr q)) = _; rw [h.mr]; rfl) (by show (fun q => inM "l" (c'.mr q)) = _; rw [h.mr]; rfl) x y
  rw [e]
  unfold Sc.S Sc.s
  rw [h.nm]
end K07
namespace K07
open PySem L2 L2.PU
theorem Sc.Ok.eqS {c : Sc} (h : c.Ok) (l m : List Nat) : pEq (c.S l) (c.S m) = some (.bool (decide (l = m))) := by
  unfold pEq
  rw [if_pos ⟨h.shS l, h.shS m⟩]
  unfold Sc.S PyData.eqv
  rw [h.eqvS]
theorem hd_eq {c : Sc} (h : c.Ok) (R : List Nat) (q : Nat) : pEq (hdD c R) (c.s q) = some (.bool (decide (R.head? = some q))) := by
  cases R with
  | nil =>
    unfold pEq
    rw [if_pos ⟨by show SeqAt.shaped .none = true; decide, shaped_str (h.ok q)⟩]
    rfl
  | cons z r =>
    show pEq (c.s z) (c.s q) = _
    rw [h.eqs]
    congr 2
    simp
theorem unp_of {f : En → Option PyData} {t : En → PyData → Option En} {η η1 : En} {d : PyData} (h : f η = some d) (h2 : t η d = some η1) : sUnp f t η = some (.nx η1) := by
  unfold sUnp
  rw [h, Option.bind_some, h2]; rfl
theorem ne_nil (l : List PyData) (h : l = []) : pNe (.list l) (.list []) = some (.bool false) := by
  subst h
  exact pNe_self (by decide)
noncomputable abbrev V (ns : List Int) (c : Sc) (d2 : PyData) (ps : List Nat) (s3 s5 : Sl) (x y : Int) (R : List Nat) (s9 s10 s11 s12 s13 s14 s15 s16 s17 s18 s19 : Sl) : En :=
  [.val (Sd ns), .val c.d, .val d2, s3, .val (c.S (pntF ps)), s5, .val (.int x), .val (.int y), .val (c.S R), s9, s10, s11, s12, s13, s14, s15, s16, s17, s18, s19]
section
variable {c : Sc} {ps : List Nat} {ns : List Int} {d2 : PyData} (t : Tr c ps (In ps) (pntF ps)) (hst : c.st = stF ps) (hmk : ∀ q, mkOk (c.mr q))
include t hst hmk
theorem inner {q : Nat} (hq : In ps q) (x y : Int) (s3 s5 s9 s11 s12 s13 s14 s15 s16 s17 s18 s19 : Sl) :
    ∃ t11 t12 t13 t14 t15 t16 t17 t18 t19, (sSeq (sSet 11 (l2 pIx (lA F_box_of (aC (eV 1) (aC (eV 10) aN))) (eC (.int 6))))
    (sSeq (sIf (bT (l2 pNe (l2 (pIn false) (eV 10) (eV 8)) (vAnd (lA F_is_touched (aC (eV 1) (aC (eV 10) (aC (eV 6) (aC (eV 7) aN))))) (l2 (pIn true) (eC (.str "l")) (eV 11))))) (sRet (eC (.bool false))) sNx)
    (sSeq (sSet 12 (lA (F_below 13) (aC (eV 1) (aC (eV 10) aN))))
    (sSeq (sSet 13 (lA F_all_hits (aC (lA F_marked (aC (eV 1) (aC (eV 10) (aC (l2 pJoin (eC (.str "")) (lA pSortSetT (aC (l2 pAdd (eV 11) (eC (.str "h"))) aN))) aN)))) (aC (eV 6) (aC (eV 7) aN)))))
    (sSeq (sIf (bOr (bT (l2 pNe (eV 13) (oE (sComp [none, some 12] (lI asL (eV 8)) (tgN 0) (bT (l2 (pIn true) (eV 0) (eV 1))) (eV 0))))) (bT (l2 pNe (eV 13) (lA F_all_hits (aC (lA F_cut (aC (eV 1) (aC (eV 10) aN))) (aC (eV 6) (aC (eV 7) aN))))))) (sRet (eC (.bool false))) sNx)
    (sSeq (sSet 14 (vAnd (l2 pEq (lA F_hit (aC (eV 1) (aC (eV 6) (aC (eV 7) aN)))) (eV 10)) (l2 pEq (lA (F_path_of 13) (aC (eV 1) (aC (eV 10) aN))) (oE (fun η => ((aC (eV 10) aN) η).bind gL)))))
    (sSeq (sIf (bAnd (bT (eV 14)) (bT (l2 (pIn true) (lA F_hit (aC (lA F_raised (aC (eV 1) (aC (eV 10) aN))) (aC (eV 6) (aC (eV 7) aN)))) (eV 12)))) (sRet (eC (.bool false))) sNx)
    (sSeq (sUnp (lA F_area_of (aC (eV 1) (aC (eV 10) aN))) (tgT (tgCons (tgN 15) (tgCons (tgN 16) (tgCons (tgN 17) (tgCons (tgN 18) tgNil))))))
    (sSeq (sSet 19 (vNot (vAnd (lch pLe pLt (eV 15) (eV 6) (eV 17)) (lch pLe pLt (eV 16) (eV 7) (eV 18)))))
    (sIf (bAnd (bT (l2 (pIn false) (eC (.str "c")) (eV 11))) (bAnd (bT (eV 19)) (bT (l2 pNe (oE (sComp [none, some 12] (lI asL (eV 8)) (tgN 0) (bT (l2 (pIn false) (eV 0) (eV 1))) (eV 0))) (oE (fun η => (aN η).bind gL)))))) (sRet (eC (.bool false))) sNx)))))))))) (V ns c d2 ps s3 s5 x y (hitL c.geo ps (pntF ps) x y) s9 (.val (c.s q)) s11 s12 s13 s14 s15 s16 s17 s18 s19)
      = some (.nx (V ns c d2 ps s3 s5 x y (hitL c.geo ps (pntF ps) x y) s9 (.val (c.s q)) t11 t12 t13 t14 t15 t16 t17 t18 t19)) := by
  have hR : ∀ z ∈ hitL c.geo ps (pntF ps) x y, In ps z := fun z hz => pnt_in t.ps (hit_sub hz)
  have lR : (hitL c.geo ps (pntF ps) x y).length ≤ 7 := by
    rw [hitL_eq]
    refine Nat.le_trans (List.length_filter_le _ _) ?_
    rw [List.length_reverse]
    exact pnt_7 t.ps
  have hI : (hitL c.geo ps (pntF ps) x y).filter (fun z => !decide (z ∈ blF (stF ps) 13 q)) = (hitL c.geo ps (pntF ps) x y).filter (kq ps q) := List.filter_congr fun z hz => by
    rw [below_mem t.ps hq (hR z hz)]; rfl
  have cp : ∀ (neg : Bool) (s9 s10 s11 s13 s14 s15 s16 s17 s18 s19 : Sl), sComp [none, some 12] (lI asL (eV 8)) (tgN 0) (bT (l2 (pIn neg) (eV 0) (eV 1))) (eV 0) (V ns c d2 ps s3 s5 x y (hitL c.geo ps (pntF ps) x y) s9 s10 s11 (.val (c.S (blF (stF ps) 13 q))) s13 s14 s15 s16 s17 s18 s19) = some (((hitL c.geo ps (pntF ps) x y).filter fun z => if neg then !decide (z ∈ blF (stF ps) 13 q) else decide (z ∈ blF (stF ps) 13 q)).map c.s) := fun neg s9 s10 s11 s13 s14 s15 s16 s17 s18 s19 => by
    refine comp_eq (ds := (hitL c.geo ps (pntF ps) x y).map c.s) (lI_of rfl rfl) (by rw [List.length_map]; omega) ?_
    exact cGo_map (t := tgN 0) (f := eV 0) (η := [.un, .val (c.S (blF (stF ps) 13 q))]) c.s (fun z => if neg then !decide (z ∈ blF (stF ps) 13 q) else decide (z ∈ blF (stF ps) 13 q)) c.s (hitL c.geo ps (pntF ps) x y) fun z _ => ⟨[.val (c.s z), .val (c.S (blF (stF ps) 13 q))], rfl, bT_of (l2_of rfl rfl (pIn_s t.ok neg z _)), fun _ => rfl⟩
  refine ⟨.val (.str (c.mr q)), .val (c.S (blF (stF ps) 13 q)), .val (c.S ((hitL c.geo ps (pntF ps) x y).filter (kq ps q))), .val (.bool (decide ((hitL c.geo ps (pntF ps) x y).head? = some q) && decide (P ps q = [q]))), .val (.int (c.geo.area ps q).1), .val (.int (c.geo.area ps q).2.1), .val (.int (c.geo.area ps q).2.2.1), .val (.int (c.geo.area ps q).2.2.2), .val (.bool (!hasP (c.geo.area ps q) x y)), ?_⟩
  refine seq_of (η1 := V ns c d2 ps s3 s5 x y (hitL c.geo ps (pntF ps) x y) s9 (.val (c.s q)) (.val (.str (c.mr q))) s12 s13 s14 s15 s16 s17 s18 s19) (set_of (l2_of (lA_of (aC_of rfl (aC_of rfl rfl)) (T_box t hq)) rfl rfl)) ?_
  refine seq_of (η1 := V ns c d2 ps s3 s5 x y (hitL c.geo ps (pntF ps) x y) s9 (.val (c.s q)) (.val (.str (c.mr q))) s12 s13 s14 s15 s16 s17 s18 s19) (ifN (bT_of (l2_of (x := .bool (decide (q ∈ hitL c.geo ps (pntF ps) x y))) (y := .bool (decide (q ∈ hitL c.geo ps (pntF ps) x y))) (l2_of rfl rfl (pIn_s t.ok false q _)) ?_ (pNe_self ?_)))) ?_
  · rw [hit_iff (in_pnt t.ps hq)]
    refine (vAnd_of (lA_of (aC_of rfl (aC_of rfl (aC_of rfl (aC_of rfl rfl)))) (T_touch t hq x y)) (l2_of rfl rfl (pIn_m true "l" (c.mr q)))).trans ?_
    show some (PyData.bool ((c.geo.shown ps q && c.geo.tch ps x y q) && !c.geo.l q)) = _
    cases c.geo.shown ps q <;> cases c.geo.tch ps x y q <;> cases c.geo.l q <;> rfl
  · cases decide (q ∈ hitL c.geo ps (pntF ps) x y) <;> decide
  refine seq_of (η1 := V ns c d2 ps s3 s5 x y (hitL c.geo ps (pntF ps) x y) s9 (.val (c.s q)) (.val (.str (c.mr q))) (.val (c.S (blF (stF ps) 13 q))) s13 s14 s15 s16 s17 s18 s19) (set_of (lA_of (aC_of rfl (aC_of rfl rfl)) (F_below_eq t.ok 13 q _ (by rw [hst]; exact blw13 t.ps hq)))) ?_
  obtain ⟨m', hm1, hm2, hm3, dd, hm4, hm5⟩ := mark_h (hmk q)
  have hu : ∀ z ∈ c.st, z.1 = q → z.2 = par ps q := fun z hz e => by
    rw [hst] at hz
    rw [(st_mem hz).2.2, e]
  have em : F_all_hits [(c.mark q m').d, .int x, .int y] = some (c.S ((hitL c.geo ps (pntF ps) x y).filter (kq ps q))) := by
    have t' : Tr (c.mark q m') ps (In ps) (pntF ps) := t.same rfl (t.ok.mark q m' hm1)
    rw [T_hits t' x y]
    have e := hit_mark t.ps (g := c.geo) (g' := (c.mark q m').geo) (q := q) rfl rfl rfl rfl (fun z hz => by
      show inM "c" (if z = q then m' else c.mr z) = inM "c" (c.mr z)
      rw [if_neg hz]) (fun z hz => by
      show inM "h" (if z = q then m' else c.mr z) = inM "h" (c.mr z)
      rw [if_neg hz]) (fun z hz => by
      show inM "l" (if z = q then m' else c.mr z) = inM "l" (c.mr z)
      rw [if_neg hz]) (by
      show inM "h" (if q = q then m' else c.mr q) = true
      rw [if_pos rfl]; exact hm2) x y
    rw [e]; rfl
  refine seq_of (η1 := V ns c d2 ps s3 s5 x y (hitL c.geo ps (pntF ps) x y) s9 (.val (c.s q)) (.val (.str (c.mr q))) (.val (c.S (blF (stF ps) 13 q))) (.val (c.S ((hitL c.geo ps (pntF ps) x y).filter (kq ps q)))) s14 s15 s16 s17 s18 s19) (set_of (lA_of (aC_of (lA_of (aC_of rfl (aC_of rfl (aC_of (l2_of rfl (lA_of (aC_of (l2_of rfl rfl hm3) rfl) hm4) hm5) rfl))) (F_mark_eq t.ok (t.par q hq) hu)) (aC_of rfl (aC_of rfl rfl))) em)) ?_
  have ec : F_all_hits [(c.on (stC ps q)).d, .int x, .int y] = some (c.S ((hitL c.geo ps (pntF ps) x y).filter (kq ps q))) := by
    rw [T_hits (t.cut hq) x y, hit_cut]; rfl
  refine seq_of (η1 := V ns c d2 ps s3 s5 x y (hitL c.geo ps (pntF ps) x y) s9 (.val (c.s q)) (.val (.str (c.mr q))) (.val (c.S (blF (stF ps) 13 q))) (.val (c.S ((hitL c.geo ps (pntF ps) x y).filter (kq ps q)))) s14 s15 s16 s17 s18 s19) (ifN (bOr_of (bT_of (l2_of (y := c.S ((hitL c.geo ps (pntF ps) x y).filter (kq ps q))) rfl ((oE_of (cp true _ _ _ _ _ _ _ _ _ _)).trans ?_) (pNe_self (t.ok.shS _)))) (bT_of (l2_of (y := c.S ((hitL c.geo ps (pntF ps) x y).filter (kq ps q))) rfl (lA_of (aC_of (lA_of (aC_of rfl (aC_of rfl rfl)) (F_cut_eq t.ok (by rw [hst]; exact cut_st t.ps hq))) (aC_of rfl (aC_of rfl rfl))) ec) (pNe_self (t.ok.shS _)))))) ?_
  · show some (PyData.list (((hitL c.geo ps (pntF ps) x y).filter (fun z => !decide (z ∈ blF (stF ps) 13 q))).map c.s)) = _
    rw [hI]; rfl
  refine seq_of (η1 := V ns c d2 ps s3 s5 x y (hitL c.geo ps (pntF ps) x y) s9 (.val (c.s q)) (.val (.str (c.mr q))) (.val (c.S (blF (stF ps) 13 q))) (.val (c.S ((hitL c.geo ps (pntF ps) x y).filter (kq ps q)))) (.val (.bool (decide ((hitL c.geo ps (pntF ps) x y).head? = some q) && decide (P ps q = [q])))) s15 s16 s17 s18 s19) (set_of (vAnd_of (l2_of (lA_of (aC_of rfl (aC_of rfl (aC_of rfl rfl))) (T_hit t x y)) rfl (hd_eq t.ok _ q)) (l2_of (y := c.S [q]) (lA_of (aC_of rfl (aC_of rfl rfl)) (T_path t hq)) (oE_of (bind_of (aC_of rfl rfl) (gL_ok (by simp)))) (t.ok.eqS _ _)))) ?_
  refine seq_of (η1 := V ns c d2 ps s3 s5 x y (hitL c.geo ps (pntF ps) x y) s9 (.val (c.s q)) (.val (.str (c.mr q))) (.val (c.S (blF (stF ps) 13 q))) (.val (c.S ((hitL c.geo ps (pntF ps) x y).filter (kq ps q)))) (.val (.bool (decide ((hitL c.geo ps (pntF ps) x y).head? = some q) && decide (P ps q = [q])))) s15 s16 s17 s18 s19) (ifN ?_) ?_
  · cases hb : (decide ((hitL c.geo ps (pntF ps) x y).head? = some q) && decide (P ps q = [q])) with
    | false => exact bAndF (bT_of rfl)
    | true =>
      rw [Bool.and_eq_true] at hb
      have h1 := of_decide_eq_true hb.1
      have h2 := of_decide_eq_true hb.2
      have htop : par ps q = 0 := by
        rw [P_succ t.ps hq.1] at h2
        cases h0 : par ps q with
        | zero => rfl
        | succ k =>
          have := P_self t.ps (q := par ps q) (by omega)
          have h3 : P ps (par ps q) = [] := by
            have := congrArg List.length h2
            rw [List.length_append, List.length_singleton] at this
            exact List.eq_nil_of_length_eq_zero (by omega)
          rw [h3] at this
          cases this
      obtain ⟨z, r, hz1, hz2, hz3⟩ := hit_rai t.ps (g := c.geo) hq h1
      have er : F_hit [(c.on (stR ps q)).d, .int x, .int y] = some (c.s z) := by
        rw [T_hit (t.rai hq htop) x y]
        show some (hdD _ (hitL c.geo ps _ x y)) = _
        rw [hz1]; rfl
      refine bAndT (bT_of rfl) (bT_of (l2_of (lA_of (aC_of (lA_of (aC_of rfl (aC_of rfl rfl)) (F_raised_eq t.ok (by rw [hst]; exact rai_st t.ps hq))) (aC_of rfl (aC_of rfl rfl))) er) rfl ((pIn_s t.ok true z _).trans ?_)))
      have : decide (z ∈ blF (stF ps) 13 q) = true := by rw [below_mem t.ps hq hz3]; exact decide_eq_true hz2
      rw [this]; rfl
  refine seq_of (η1 := V ns c d2 ps s3 s5 x y (hitL c.geo ps (pntF ps) x y) s9 (.val (c.s q)) (.val (.str (c.mr q))) (.val (c.S (blF (stF ps) 13 q))) (.val (c.S ((hitL c.geo ps (pntF ps) x y).filter (kq ps q)))) (.val (.bool (decide ((hitL c.geo ps (pntF ps) x y).head? = some q) && decide (P ps q = [q])))) (.val (.int (c.geo.area ps q).1)) (.val (.int (c.geo.area ps q).2.1)) (.val (.int (c.geo.area ps q).2.2.1)) (.val (.int (c.geo.area ps q).2.2.2)) s19) (unp_of (lA_of (aC_of rfl (aC_of rfl rfl)) (T_area t hq)) rfl) ?_
  refine seq_of (η1 := V ns c d2 ps s3 s5 x y (hitL c.geo ps (pntF ps) x y) s9 (.val (c.s q)) (.val (.str (c.mr q))) (.val (c.S (blF (stF ps) 13 q))) (.val (c.S ((hitL c.geo ps (pntF ps) x y).filter (kq ps q)))) (.val (.bool (decide ((hitL c.geo ps (pntF ps) x y).head? = some q) && decide (P ps q = [q])))) (.val (.int (c.geo.area ps q).1)) (.val (.int (c.geo.area ps q).2.1)) (.val (.int (c.geo.area ps q).2.2.1)) (.val (.int (c.geo.area ps q).2.2.2)) (.val (.bool (!hasP (c.geo.area ps q) x y)))) (set_of (vNot_of (vAnd_of (lch_of rfl rfl rfl) (lch_of rfl rfl rfl)))) (ifN ?_)
  have tc : bT (l2 (pIn false) (eC (.str "c")) (eV 11)) (V ns c d2 ps s3 s5 x y (hitL c.geo ps (pntF ps) x y) s9 (.val (c.s q)) (.val (.str (c.mr q))) (.val (c.S (blF (stF ps) 13 q))) (.val (c.S ((hitL c.geo ps (pntF ps) x y).filter (kq ps q)))) (.val (.bool (decide ((hitL c.geo ps (pntF ps) x y).head? = some q) && decide (P ps q = [q])))) (.val (.int (c.geo.area ps q).1)) (.val (.int (c.geo.area ps q).2.1)) (.val (.int (c.geo.area ps q).2.2.1)) (.val (.int (c.geo.area ps q).2.2.2)) (.val (.bool (!hasP (c.geo.area ps q) x y)))) = some (c.geo.c q) := bT_of (l2_of rfl rfl (pIn_m false "c" (c.mr q)))
  cases hc : c.geo.c q with
  | false => rw [hc] at tc; exact bAndF tc
  | true =>
    rw [hc] at tc
    refine bAndT tc ?_
    cases ho : hasP (c.geo.area ps q) x y with
    | true => exact bAndF (bT_of rfl)
    | false =>
      refine bAndT (bT_of rfl) (bT_of (l2_of (oE_of (cp false _ _ _ _ _ _ _ _ _ _)) (oE_of (bind_of rfl (gL_ok (by simp)))) (ne_nil _ ?_)))
      rw [List.filter_eq_nil_iff.mpr fun z hz => ?_]
      · rfl
      · show ¬ decide (z ∈ blF (stF ps) 13 q) = true
        rw [below_mem t.ps hq (hR z hz)]
        intro hd
        have h1 := hit_out t.ps (g := c.geo) hc ho (hR z hz) (of_decide_eq_true hd)
        rw [hitL_eq] at hz
        have h2 := (List.mem_filter.mp hz).2
        rw [h1] at h2
        cases h2
end
end K07
namespace K07
open PySem L2 L2.PU
theorem asIs_ints : ∀ ns : List Int, asIs (ns.map PyData.int) = some ns
  | [] => rfl
  | x :: r => by
    rw [List.map_cons]
    unfold asIs
    rw [asIs_ints r]; rfl
theorem sort_down {l : List Int} (hl : l.length < 64) (h : l.Pairwise fun a b => b ≤ a) : pSort [.list (l.map PyData.int)] = some (.list (l.reverse.map PyData.int)) := by
  unfold pSort
  dsimp only
  rw [if_pos (by rw [List.length_map]; exact hl)]
  cases l with
  | nil =>
    have z : srtS [] = [] := (srtS_uniq (List.Perm.refl _) rfl).symm
    show some (PyData.list ((srtS []).map PyData.str)) = _
    rw [z]; rfl
  | cons i r =>
    have e : asSs ((i :: r).map PyData.int) = none := rfl
    rw [e]
    dsimp only
    rw [asIs_ints, Option.bind_some, ← srtI_uniq (List.reverse_perm _) (List.pairwise_reverse.mpr h)]
section
variable {c c' : Sc} {ps : List Nat} {ns : List Int} (t : Tr c ps (In ps) (pntF ps)) (hst : c.st = stF ps) (hmk : ∀ q, mkOk (c.mr q)) (h : Sh c c' ps c.st)
include t
theorem places (x y : Int) : ((hitL c.geo ps (pntF ps) x y).map fun q => (((pntF ps).idxOf q : Nat) : Int)).Pairwise fun a b => b ≤ a := by
  rw [List.pairwise_map, hitL_eq]
  refine List.Pairwise.filter _ ?_
  rw [List.pairwise_reverse, List.pairwise_iff_getElem]
  intro i j hi hj hij
  have nd := pnt_nd t.ps
  rw [nd.idxOf_getElem, nd.idxOf_getElem]
  omega
theorem row_7 (x y : Int) : (hitL c.geo ps (pntF ps) x y).length ≤ 7 := by
  rw [hitL_eq]
  refine Nat.le_trans (List.length_filter_le _ _) ?_
  rw [List.length_reverse]
  exact pnt_7 t.ps
noncomputable abbrev nB : En → Option Out := (sSeq (sSet 11 (l2 pIx (lA F_box_of (aC (eV 1) (aC (eV 10) aN))) (eC (.int 6))))
    (sSeq (sIf (bT (l2 pNe (l2 (pIn false) (eV 10) (eV 8)) (vAnd (lA F_is_touched (aC (eV 1) (aC (eV 10) (aC (eV 6) (aC (eV 7) aN))))) (l2 (pIn true) (eC (.str "l")) (eV 11))))) (sRet (eC (.bool false))) sNx)
    (sSeq (sSet 12 (lA (F_below 13) (aC (eV 1) (aC (eV 10) aN))))
    (sSeq (sSet 13 (lA F_all_hits (aC (lA F_marked (aC (eV 1) (aC (eV 10) (aC (l2 pJoin (eC (.str "")) (lA pSortSetT (aC (l2 pAdd (eV 11) (eC (.str "h"))) aN))) aN)))) (aC (eV 6) (aC (eV 7) aN)))))
    (sSeq (sIf (bOr (bT (l2 pNe (eV 13) (oE (sComp [none, some 12] (lI asL (eV 8)) (tgN 0) (bT (l2 (pIn true) (eV 0) (eV 1))) (eV 0))))) (bT (l2 pNe (eV 13) (lA F_all_hits (aC (lA F_cut (aC (eV 1) (aC (eV 10) aN))) (aC (eV 6) (aC (eV 7) aN))))))) (sRet (eC (.bool false))) sNx)
    (sSeq (sSet 14 (vAnd (l2 pEq (lA F_hit (aC (eV 1) (aC (eV 6) (aC (eV 7) aN)))) (eV 10)) (l2 pEq (lA (F_path_of 13) (aC (eV 1) (aC (eV 10) aN))) (oE (fun η => ((aC (eV 10) aN) η).bind gL)))))
    (sSeq (sIf (bAnd (bT (eV 14)) (bT (l2 (pIn true) (lA F_hit (aC (lA F_raised (aC (eV 1) (aC (eV 10) aN))) (aC (eV 6) (aC (eV 7) aN)))) (eV 12)))) (sRet (eC (.bool false))) sNx)
    (sSeq (sUnp (lA F_area_of (aC (eV 1) (aC (eV 10) aN))) (tgT (tgCons (tgN 15) (tgCons (tgN 16) (tgCons (tgN 17) (tgCons (tgN 18) tgNil))))))
    (sSeq (sSet 19 (vNot (vAnd (lch pLe pLt (eV 15) (eV 6) (eV 17)) (lch pLe pLt (eV 16) (eV 7) (eV 18)))))
    (sIf (bAnd (bT (l2 (pIn false) (eC (.str "c")) (eV 11))) (bAnd (bT (eV 19)) (bT (l2 pNe (oE (sComp [none, some 12] (lI asL (eV 8)) (tgN 0) (bT (l2 (pIn false) (eV 0) (eV 1))) (eV 0))) (oE (fun η => (aN η).bind gL)))))) (sRet (eC (.bool false))) sNx))))))))))
noncomputable abbrev U (ns : List Int) (c : Sc) (d2 : PyData) (ps : List Nat) (s3 s5 s6 s7 s8 s9 s10 s11 s12 s13 s14 s15 s16 s17 s18 s19 : Sl) : En :=
  [.val (Sd ns), .val c.d, .val d2, s3, .val (c.S (pntF ps)), s5, s6, s7, s8, s9, s10, s11, s12, s13, s14, s15, s16, s17, s18, s19]
noncomputable abbrev kB : En → Option Out := (sSeq (sSet 6 (l2 pSub (lA F__law_drawn (aC (eV 0) (aC (l2 pAdd (eC (.int 100)) (l2 pMul (eC (.int 2)) (eV 5))) (aC (eC (.int 16)) aN)))) (eC (.int 4))))
    (sSeq (sSet 7 (l2 pSub (lA F__law_drawn (aC (eV 0) (aC (l2 pAdd (eC (.int 101)) (l2 pMul (eC (.int 2)) (eV 5))) (aC (eC (.int 16)) aN)))) (eC (.int 4))))
    (sSeq (sSet 8 (lA F_all_hits (aC (eV 1) (aC (eV 6) (aC (eV 7) aN)))))
    (sSeq (sSetO 9 (sComp [none, some 4] (lI asL (eV 8)) (tgN 0) tTrue (l2 pIdx (eV 1) (eV 0))))
    (fun η => (sSeq (sIf (bOr (bT (l2 pNe (eV 9) (l2 pRv (lA pSort (aC (eV 9) aN)) (l1 pNeg (eC (.int 1)))))) (bT (l2 pNe (lA F_hit (aC (eV 1) (aC (eV 6) (aC (eV 7) aN)))) (l2 pIx (l2 pAdd (eV 8) (oE (fun η => ((aC (eC .none) aN) η).bind gL))) (eC (.int 0)))))) (sRet (eC (.bool false))) sNx)
    (sSeq (sIf (bT (l2 pNe (lA F_all_hits (aC (eV 2) (aC (l2 pAdd (eV 6) (eC (.int 5))) (aC (l2 pSub (eV 7) (eC (.int 4))) aN)))) (eV 8))) (sRet (eC (.bool false))) sNx)
    (sFor (lI asL (eV 4)) (tgN 10) nB))) (frz 9 η))))))
include hst hmk h
theorem turn (hn : ns.length ≤ 63) {k : Nat} (hk : k < 2) (s3 s6 s7 s8 s9 s10 s11 s12 s13 s14 s15 s16 s17 s18 s19 : Sl) :
    ∃ t6 t7 t8 t9 t10 t11 t12 t13 t14 t15 t16 t17 t18 t19, kB (U ns c c'.d ps s3 (.val (.int (0 + (k : Nat)))) s6 s7 s8 s9 s10 s11 s12 s13 s14 s15 s16 s17 s18 s19) = some (.nx (U ns c c'.d ps s3 (.val (.int (0 + (k : Nat)))) t6 t7 t8 t9 t10 t11 t12 t13 t14 t15 t16 t17 t18 t19)) := by
  have mk : CMul 2 (0 + (k : Int)) := mulL (by decide) (by decide)
  obtain ⟨a, ha, ea⟩ := drawn_ok hn (k := 100 + 2 * (0 + (k : Int))) (m := 16) (by omega) (by decide)
  obtain ⟨b, hb, eb⟩ := drawn_ok hn (k := 101 + 2 * (0 + (k : Int))) (m := 16) (by omega) (by decide)
  generalize hx : (a : Int) - 4 = x
  generalize hy : (b : Int) - 4 = y
  have lR := row_7 t x y
  have hR : ∀ z ∈ hitL c.geo ps (pntF ps) x y, z ∈ pntF ps := fun z hz => hit_sub hz
  obtain ⟨η', e, t10, t11, t12, t13, t14, t15, t16, t17, t18, t19, rfl⟩ := sGo_inv (t := tgN 10) (body := nB) c.s (fun _ η => ∃ t10 t11 t12 t13 t14 t15 t16 t17 t18 t19, η = V ns c c'.d ps s3 (.val (.int (0 + (k : Nat)))) x y (hitL c.geo ps (pntF ps) x y) (.val (.list (((hitL c.geo ps (pntF ps) x y).map fun q => (((pntF ps).idxOf q : Nat) : Int)).map PyData.int))) t10 t11 t12 t13 t14 t15 t16 t17 t18 t19) (pntF ps) [] (V ns c c'.d ps s3 (.val (.int (0 + (k : Nat)))) x y (hitL c.geo ps (pntF ps) x y) (.val (.list (((hitL c.geo ps (pntF ps) x y).map fun q => (((pntF ps).idxOf q : Nat) : Int)).map PyData.int))) s10 s11 s12 s13 s14 s15 s16 s17 s18 s19) ⟨_, _, _, _, _, _, _, _, _, _, rfl⟩ (fun done q η hq hh => by
    obtain ⟨t10, t11, t12, t13, t14, t15, t16, t17, t18, t19, rfl⟩ := hh
    obtain ⟨u11, u12, u13, u14, u15, u16, u17, u18, u19, eu⟩ := inner t hst hmk (ns := ns) (d2 := c'.d) (pnt_in t.ps hq) x y s3 (.val (.int (0 + (k : Nat)))) (.val (.list (((hitL c.geo ps (pntF ps) x y).map fun q => (((pntF ps).idxOf q : Nat) : Int)).map PyData.int))) t11 t12 t13 t14 t15 t16 t17 t18 t19
    exact ⟨_, _, rfl, eu, .val (c.s q), u11, u12, u13, u14, u15, u16, u17, u18, u19, rfl⟩)
  refine ⟨.val (.int x), .val (.int y), .val (c.S (hitL c.geo ps (pntF ps) x y)), .val (.list (((hitL c.geo ps (pntF ps) x y).map fun q => (((pntF ps).idxOf q : Nat) : Int)).map PyData.int)), t10, t11, t12, t13, t14, t15, t16, t17, t18, t19, ?_⟩
  refine seq_of (η1 := U ns c c'.d ps s3 (.val (.int (0 + (k : Nat)))) (.val (.int x)) s7 s8 s9 s10 s11 s12 s13 s14 s15 s16 s17 s18 s19) (set_of (l2_of (x := .int (a : Nat)) (lA_of (aC_of rfl (aC_of (l2_of rfl (l2_of rfl rfl (pMul_ok mk)) rfl) (aC_of rfl rfl))) ea) rfl (by show some (PyData.int ((a : Int) - 4)) = _; rw [hx]))) ?_
  refine seq_of (η1 := U ns c c'.d ps s3 (.val (.int (0 + (k : Nat)))) (.val (.int x)) (.val (.int y)) s8 s9 s10 s11 s12 s13 s14 s15 s16 s17 s18 s19) (set_of (l2_of (x := .int (b : Nat)) (lA_of (aC_of rfl (aC_of (l2_of rfl (l2_of rfl rfl (pMul_ok mk)) rfl) (aC_of rfl rfl))) eb) rfl (by show some (PyData.int ((b : Int) - 4)) = _; rw [hy]))) ?_
  refine seq_of (η1 := V ns c c'.d ps s3 (.val (.int (0 + (k : Nat)))) x y (hitL c.geo ps (pntF ps) x y) s9 s10 s11 s12 s13 s14 s15 s16 s17 s18 s19) (set_of (lA_of (aC_of rfl (aC_of rfl (aC_of rfl rfl))) (T_hits t x y))) ?_
  refine seq_of (setO_of (d := ((hitL c.geo ps (pntF ps) x y).map fun q => (((pntF ps).idxOf q : Nat) : Int)).map PyData.int) (comp_eq (ds := (hitL c.geo ps (pntF ps) x y).map c.s) (lI_of rfl rfl) (by rw [List.length_map]; omega) ?_)) ?_
  · rw [List.map_map]
    exact cGo_mapT (t := tgN 0) (f := l2 pIdx (eV 1) (eV 0)) (η := [.un, .val (c.S (pntF ps))]) c.s (PyData.int ∘ fun q => (((pntF ps).idxOf q : Nat) : Int)) (hitL c.geo ps (pntF ps) x y) fun z hz => ⟨[.val (c.s z), .val (c.S (pntF ps))], rfl, l2_of rfl rfl (pIdx_s t.ok (hR z hz))⟩
  have hadd : pAdd (c.S (hitL c.geo ps (pntF ps) x y)) (.list [.none]) = some (.list ((hitL c.geo ps (pntF ps) x y).map c.s ++ [.none])) := addL (a := (hitL c.geo ps (pntF ps) x y).map c.s) (b := [.none]) (by rw [List.length_map, List.length_singleton]; omega)
  have hs := sort_down (l := (hitL c.geo ps (pntF ps) x y).map fun q => (((pntF ps).idxOf q : Nat) : Int)) (by rw [List.length_map]; omega) (places t x y)
  refine seq_of (η1 := V ns c c'.d ps s3 (.val (.int (0 + (k : Nat)))) x y (hitL c.geo ps (pntF ps) x y) (.val (.list (((hitL c.geo ps (pntF ps) x y).map fun q => (((pntF ps).idxOf q : Nat) : Int)).map PyData.int))) s10 s11 s12 s13 s14 s15 s16 s17 s18 s19) (ifN (bOr_of (bT_of (l2_of (y := .list (((hitL c.geo ps (pntF ps) x y).map fun q => (((pntF ps).idxOf q : Nat) : Int)).map PyData.int)) rfl (l2_of (lA_of (aC_of rfl rfl) hs) (l1_of rfl rfl) ?_) (pNe_ints _))) (bT_of (l2_of (x := hdD c (hitL c.geo ps (pntF ps) x y)) (y := hdD c (hitL c.geo ps (pntF ps) x y)) (lA_of (aC_of rfl (aC_of rfl (aC_of rfl rfl))) (T_hit t x y)) (l2_of (x := .list ((hitL c.geo ps (pntF ps) x y).map c.s ++ [.none])) (l2_of (y := .list [.none]) rfl (oE_of (bind_of (aC_of rfl rfl) (gL_ok (by simp)))) hadd) rfl ?_) (pNe_self ?_))))) ?_
  · show some (PyData.list ((((hitL c.geo ps (pntF ps) x y).map fun q => (((pntF ps).idxOf q : Nat) : Int)).reverse).map PyData.int).reverse) = _
    rw [← List.map_reverse, List.reverse_reverse]
  · cases hitL c.geo ps (pntF ps) x y with
    | nil => rfl
    | cons z r => exact atI_nat (xs := (z :: r).map c.s ++ [.none]) (j := 0) rfl
  · cases hitL c.geo ps (pntF ps) x y with
    | nil => show SeqAt.shaped .none = true; decide
    | cons z r => exact shaped_str (t.ok.ok z)
  refine seq_of (η1 := V ns c c'.d ps s3 (.val (.int (0 + (k : Nat)))) x y (hitL c.geo ps (pntF ps) x y) (.val (.list (((hitL c.geo ps (pntF ps) x y).map fun q => (((pntF ps).idxOf q : Nat) : Int)).map PyData.int))) s10 s11 s12 s13 s14 s15 s16 s17 s18 s19) (ifN (bT_of (l2_of (lA_of (aC_of rfl (aC_of (l2_of rfl rfl rfl) (aC_of (l2_of rfl rfl rfl) rfl))) (shift_hits t hst h x y)) rfl (pNe_self (t.ok.shS _))))) ?_
  exact for_of (ds := (pntF ps).map c.s) (lI_of rfl rfl) e
end
theorem main (ns : List Int) (hn : ns.length ≤ 63) : F_law [.list (ns.map PyData.int)] = some (.bool true) := by
  obtain ⟨d, tn, hd, hnm, hlen, es⟩ := scene_ok hn
  have okp : PsOk d.ps := ⟨by omega, hd.par⟩
  have okc : d.sc.Ok := ⟨hd.inj, hd.top, hd.ok, fun a => hd.okm _, by
    show (stF d.ps).length ≤ 12
    unfold stF
    rw [List.length_map, List.length_range]; omega⟩
  have t : Tr d.sc d.ps (In d.ps) (pntF d.ps) := ⟨okc, fun q h => h, fun q h => parN_st h.1 h.2, fun q h => path_eq okp h.1 h.2, fun q h x hx => P_in' okp q h hx, pnt_eq okp, fun q h => kids_mem okp h, kids_2 okp, okp⟩
  have hmk : ∀ q, mkOk (d.sc.mr q) := fun q => hd.mks _
  rw [← Dr.sc_d d] at es
  have hst : d.sc.st = stF d.ps := rfl
  generalize d.sc = c at *
  generalize d.ps = ps at *
  refine run_of rfl (show g_law F__law_scene F_put_at F_painted F__law_drawn F_all_hits F_hit F_box_of F_is_touched (F_below 13) F_marked F_cut (F_path_of 13) F_raised F_area_of [.val (Sd ns), .un, .un, .un, .un, .un, .un, .un, .un, .un, .un, .un, .un, .un, .un, .un, .un, .un, .un, .un] = _ from ?_)
  refine seq_of (set_of (lA_of (aC_of rfl (aC_of rfl rfl)) es)) ?_
  refine seq_of (η1 := E3 ns c (.val c.d) .un) (set_of rfl) ?_
  obtain ⟨c', s3, hsh, e1⟩ := shift_ok (ns := ns) t hst
  refine seq_of e1 ?_
  refine seq_of (η1 := U ns c c'.d ps s3 .un .un .un .un .un .un .un .un .un .un .un .un .un .un .un) (set_of (lA_of (aC_of rfl rfl) (T_painted t))) ?_
  obtain ⟨η', e, t5, t6, t7, t8, t9, t10, t11, t12, t13, t14, t15, t16, t17, t18, t19, rfl⟩ := sGo_inv (t := tgN 5) (body := kB) (fun k : Nat => PyData.int (0 + (k : Nat))) (fun _ η => ∃ t5 t6 t7 t8 t9 t10 t11 t12 t13 t14 t15 t16 t17 t18 t19, η = U ns c c'.d ps s3 t5 t6 t7 t8 t9 t10 t11 t12 t13 t14 t15 t16 t17 t18 t19) [0, 1] [] (U ns c c'.d ps s3 .un .un .un .un .un .un .un .un .un .un .un .un .un .un .un) ⟨_, _, _, _, _, _, _, _, _, _, _, _, _, _, _, rfl⟩ (fun done k η hk hh => by
    obtain ⟨t5, t6, t7, t8, t9, t10, t11, t12, t13, t14, t15, t16, t17, t18, t19, rfl⟩ := hh
    have hk2 : k < 2 := by
      simp at hk
      omega
    obtain ⟨u6, u7, u8, u9, u10, u11, u12, u13, u14, u15, u16, u17, u18, u19, eu⟩ := turn t hst hmk hsh hn hk2 s3 t6 t7 t8 t9 t10 t11 t12 t13 t14 t15 t16 t17 t18 t19
    exact ⟨_, _, rfl, eu, .val (.int (0 + (k : Nat))), u6, u7, u8, u9, u10, u11, u12, u13, u14, u15, u16, u17, u18, u19, rfl⟩)
  exact seq_of (for_of (ds := [0, 1].map fun k : Nat => PyData.int (0 + (k : Nat))) (bind_of (aC_of rfl rfl) (rng1_ok (by decide) (by decide))) e) rfl
end K07
open PySem PySem.W PyProof.Rows
noncomputable def K07.view : Program := { PySem.Challenge.pw_touchtree_k07_whole_hits with main := { PySem.Challenge.pw_touchtree_k07_whole_hits.main with body := [36, 22, 3, 0].foldl (fun l i => l.eraseIdx i) PySem.Challenge.pw_touchtree_k07_whole_hits.main.body } }
set_option hygiene false in
local macro_rules
  | `(tactic| o_head $H) => `(tactic| (
      refine holds_open (q := K07.view) (loose := []) (Xt := fun s => xlAt K07.view [] s && recOk (RowW.records (OpenRow.toRowW (OpenLaw.row PySem.Challenge.rw_touchtree_k07_whole_hits))) s) (XP := XL K07.view []) (Yf := Hook.obs $H) (Ya := Hook.val $H) (YP := Hook.says $H) (N := 2822) ?hl (Hook.of $H) (Hook.keeps $H) (fun s e => xl_of s (Bool.and_eq_true_iff.mp e).1) XL.keeps (by rfl) (by rfl) (by rfl) (fun s e => recFacts_of (Bool.and_eq_true_iff.mp e).2) (by rfl) (by assumption) (by decide +kernel) ⟨rfl, rfl, rfl, rfl, rfl, by decide +kernel⟩ ?hw ?hc
      (case hl => (intro w; unfold openEnds fencedOpening topFrom; rewrite [PySem.W.Fast.te10274390034422433532, PySem.W.Fast.te14082659384304107361, PySem.W.Fast.te14364793385576792824, PySem.W.Fast.te14289696077712309145, PySem.W.Fast.te1435165496053646825, PySem.W.Fast.te4187177175401517315, PySem.W.Fast.te15048311464011465635]; kernel_rfl))))
set_option maxRecDepth 100000 in
set_option maxHeartbeats 0 in
theorem PySem.Challenge.cw_touchtree_k07_whole_hits_holds : PySem.Challenge.rw_touchtree_k07_whole_hits.Holds := by
  w_on; o_law; k_head; (case hw => w_witness2)
  k_fill
  refine K07.walk K07.main (l := PySem.Challenge.rw_touchtree_k07_whole_hits) rfl rfl (fun w h Y => PySem.W.kIn_of Y) ?F
  case F =>
    intro w mg fa h KX G hmg
    refine' K07.all_mk KX G hmg ?a__law_cell ?l__law_cell ?c__law_cell ?k__law_cell ?a__law_drawn ?l__law_drawn ?c__law_drawn ?k__law_drawn ?a__law_scene ?l__law_scene ?c__law_scene ?k__law_scene ?a_box_of ?l_box_of ?c_box_of ?k_box_of ?a_with_other ?l_with_other ?c_with_other ?k_with_other ?a_put_at ?l_put_at ?c_put_at ?k_put_at ?a_children ?l_children ?c_children ?k_children ?a_below ?l_below ?c_below ?k_below ?a_painted ?l_painted ?c_painted ?k_painted ?a_path_of ?l_path_of ?c_path_of ?k_path_of ?a_has_mark ?l_has_mark ?c_has_mark ?k_has_mark ?a_is_shown ?l_is_shown ?c_is_shown ?k_is_shown ?a_area_of ?l_area_of ?c_area_of ?k_area_of ?a_overlap ?l_overlap ?c_overlap ?k_overlap ?a_window_of ?l_window_of ?c_window_of ?k_window_of ?a_takers ?l_takers ?c_takers ?k_takers ?a_has_point ?l_has_point ?c_has_point ?k_has_point ?a_all_hits ?l_all_hits ?c_all_hits ?k_all_hits ?a_first_at ?l_first_at ?c_first_at ?k_first_at ?a_hit ?l_hit ?c_hit ?k_hit ?a_is_touched ?l_is_touched ?c_is_touched ?k_is_touched ?a_marked ?l_marked ?c_marked ?k_marked ?a_cut ?l_cut ?c_cut ?k_cut ?a_raised ?l_raised ?c_raised ?k_raised ?a_law ?l_law ?c_law ?k_law ?c_AROUND ?c_CUTS_OFF ?c_HEIGHT ?c_HIDDEN ?c_LEFT ?c_LETS_BY ?c_MARKS ?c_NAME ?c_TOP ?c_WIDTH ?z_any ?z_enumerate ?z_len ?z_max ?z_min ?z_range ?z_reversed ?z_set ?z_sorted ?z_sum ?z_tuple
    (case a__law_cell => k_is); (case l__law_cell => k_is); (case c__law_cell => k_is); (case k__law_cell => k_is)
    (case a__law_drawn => k_is); (case l__law_drawn => k_is); (case c__law_drawn => k_is); (case k__law_drawn => k_is)
    (case a__law_scene => k_is); (case l__law_scene => k_is); (case c__law_scene => k_is); (case k__law_scene => k_is)
    (case a_box_of => k_is); (case l_box_of => k_is); (case c_box_of => k_is); (case k_box_of => k_is)
    (case a_with_other => k_is); (case l_with_other => k_is); (case c_with_other => k_is); (case k_with_other => k_is)
    (case a_put_at => k_is); (case l_put_at => k_is); (case c_put_at => k_is); (case k_put_at => k_is)
    (case a_children => k_is); (case l_children => k_is); (case c_children => k_is); (case k_children => k_is)
    (case a_below => k_is); (case l_below => k_is); (case c_below => k_is); (case k_below => k_is)
    (case a_painted => k_is); (case l_painted => k_is); (case c_painted => k_is); (case k_painted => k_is)
    (case a_path_of => k_is); (case l_path_of => k_is); (case c_path_of => k_is); (case k_path_of => k_is)
    (case a_has_mark => k_is); (case l_has_mark => k_is); (case c_has_mark => k_is); (case k_has_mark => k_is)
    (case a_is_shown => k_is); (case l_is_shown => k_is); (case c_is_shown => k_is); (case k_is_shown => k_is)
    (case a_area_of => k_is); (case l_area_of => k_is); (case c_area_of => k_is); (case k_area_of => k_is)
    (case a_overlap => k_is); (case l_overlap => k_is); (case c_overlap => k_is); (case k_overlap => k_is)
    (case a_window_of => k_is); (case l_window_of => k_is); (case c_window_of => k_is); (case k_window_of => k_is)
    (case a_takers => k_is); (case l_takers => k_is); (case c_takers => k_is); (case k_takers => k_is)
    (case a_has_point => k_is); (case l_has_point => k_is); (case c_has_point => k_is); (case k_has_point => k_is)
    (case a_all_hits => k_is); (case l_all_hits => k_is); (case c_all_hits => k_is); (case k_all_hits => k_is)
    (case a_first_at => k_is); (case l_first_at => k_is); (case c_first_at => k_is); (case k_first_at => k_is)
    (case a_hit => k_is); (case l_hit => k_is); (case c_hit => k_is); (case k_hit => k_is)
    (case a_is_touched => k_is); (case l_is_touched => k_is); (case c_is_touched => k_is); (case k_is_touched => k_is)
    (case a_marked => k_is); (case l_marked => k_is); (case c_marked => k_is); (case k_marked => k_is)
    (case a_cut => k_is); (case l_cut => k_is); (case c_cut => k_is); (case k_cut => k_is)
    (case a_raised => k_is); (case l_raised => k_is); (case c_raised => k_is); (case k_raised => k_is)
    (case a_law => k_is); (case l_law => k_is); (case c_law => k_is); (case k_law => k_is)
    (case c_AROUND => k_is)
    (case c_CUTS_OFF => k_is)
    (case c_HEIGHT => k_is)
    (case c_HIDDEN => k_is)
    (case c_LEFT => k_is)
    (case c_LETS_BY => k_is)
    (case c_MARKS => k_is)
    (case c_NAME => k_is)
    (case c_TOP => k_is)
    (case c_WIDTH => k_is)
    (case z_any => k_is)
    (case z_enumerate => k_is)
    (case z_len => k_is)
    (case z_max => k_is)
    (case z_min => k_is)
    (case z_range => k_is)
    (case z_reversed => k_is)
    (case z_set => k_is)
    (case z_sorted => k_is)
    (case z_sum => k_is)
    (case z_tuple => k_is)
#print axioms PySem.Challenge.cw_touchtree_k07_whole_hits_holds
