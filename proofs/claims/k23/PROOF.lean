import PyProof.Rows.All
import Wide.All
import OpenK.AllK
import Wide.FinOn
import PyProof.EqAt
import PyProof.EqKinds
import PyProof.TupleCall
import PyProof.CompFree
import PyProof.Cells
import KE.KDictList
import KE.KDictLaws
import PyProof.Rows.SetFrom
import PyProof.ZipIter
import PyProof.AttrMissHeap
import Lean
import PySem.Challenge.RW_touchtree_k23_whole_clicks
set_option Elab.async false
set_option linter.all false
set_option maxRecDepth 100000
namespace L2
open PySem PySem.Spec PyProof.Rows
noncomputable abbrev Key:=Sum Int Str
noncomputable def keyIs:Key→Value→Bool
  | .inl k,v=>Value.isInt k v
  | .inr x,v=>Value.isStrOf x v
noncomputable def keyH (w:World):Key→Int
  | .inl k=>hashInt k
  | .inr x=>hashStr w x
theorem keyIs_shape:∀ {k:Key} {v:Value},keyIs k v=true→(∃ i t,k=Sum.inl i∧v=Value.int i t)∨(∃ x t,k=Sum.inr x∧v=Value.str x t)
  | .inl i,v,h=>by
    obtain ⟨t,e⟩:=Value.isInt_shape (k:=i) (v:=v) h
    exact .inl ⟨i,t,rfl,e⟩
  | .inr x,v,h=>by
    obtain ⟨t,e⟩:=Value.isStrOf_shape (x:=x) (v:=v) h
    exact .inr ⟨x,t,rfl,e⟩
theorem keyIs_int (i:Int) (t:Tok):keyIs (.inl i) (.int i t)=true:=by simp [keyIs,Value.isInt]
theorem keyIs_str (x:Str) (t:Tok):keyIs (.inr x) (.str x t)=true:=by simp [keyIs,Value.isStrOf]
theorem key_ll (a b:Int):decide ((Sum.inl a:Key)=Sum.inl b)=(a==b):=by
  by_cases e:a=b
  · subst e; simp
  · have h:¬ (Sum.inl a:Key)=Sum.inl b:=fun q=>e (Sum.inl.inj q)
    rw [decide_eq_false h]
    exact (beq_eq_false_iff_ne.mpr e).symm
theorem key_rr (a b:Str):decide ((Sum.inr a:Key)=Sum.inr b)=decide (a=b):=by
  by_cases e:a=b
  · subst e; simp
  · have h:¬ (Sum.inr a:Key)=Sum.inr b:=fun q=>e (Sum.inr.inj q)
    rw [decide_eq_false h,decide_eq_false e]
theorem key_lr (a:Int) (b:Str):decide ((Sum.inl a:Key)=Sum.inr b)=false:=decide_eq_false (fun q=>nomatch q)
theorem key_rl (a:Str) (b:Int):decide ((Sum.inr a:Key)=Sum.inl b)=false:=decide_eq_false (fun q=>nomatch q)
noncomputable def mixKind (prog:Program) (w:World):PySem.KeyKind prog w Key where
  is:=keyIs
  hash:=keyH w
  inj:=fun v a b ha hb=>by
    rcases keyIs_shape ha with ⟨i,t,rfl,rfl⟩ | ⟨x,t,rfl,rfl⟩
    · rcases keyIs_shape hb with ⟨j,u,rfl,e⟩ | ⟨y,u,rfl,e⟩
      · injection e with e1 _; rw [e1]
      · exact nomatch e
    · rcases keyIs_shape hb with ⟨j,u,rfl,e⟩ | ⟨y,u,rfl,e⟩
      · exact nomatch e
      · injection e with e1 _; rw [e1]
  byValue:=fun k v h=>by
    rcases keyIs_shape h with ⟨i,t,rfl,rfl⟩ | ⟨x,t,rfl,rfl⟩ <;> rfl
  pyHash:=fun hv h=>by
    rcases keyIs_shape hv with ⟨i,t,rfl,rfl⟩ | ⟨x,t,rfl,rfl⟩
    · exact wpAny_pyHash_int h
    · exact wpAny_pyHash_str h
  eqBool:=fun hu hv h=>by
    rcases keyIs_shape hu with ⟨i,t,rfl,rfl⟩ | ⟨x,t,rfl,rfl⟩
    · rcases keyIs_shape hv with ⟨j,u,rfl,rfl⟩ | ⟨y,u,rfl,rfl⟩
      · rw [key_ll] at h; exact wpAny_eqBool_int h
      · rw [key_lr] at h; exact SeqAt.EqAt.int_str i t y u _ _ _ _ h
    · rcases keyIs_shape hv with ⟨j,u,rfl,rfl⟩ | ⟨y,u,rfl,rfl⟩
      · rw [key_rl] at h; exact SeqAt.EqAt.str_int x t j u _ _ _ _ h
      · rw [key_rr] at h; exact wpAny_eqBool_str h
  «strs»:=fun k x t v h=>by
    rcases keyIs_shape h with ⟨i,u,rfl,e⟩ | ⟨y,u,rfl,e⟩
    · exact nomatch e
    · injection e with e1 _
      subst e1
      cases v <;> rfl
theorem mixKind_int (prog:Program) (w:World) (i:Int) (t:Tok):(mixKind prog w).is (.inl i) (.int i t)=true:=keyIs_int i t
theorem mixKind_str (prog:Program) (w:World) (x:Str) (t:Tok):(mixKind prog w).is (.inr x) (.str x t)=true:=keyIs_str x t
end L2
namespace L2
open PySem PySem.Spec PyProof.Rows
inductive V where
  | non | bl (b:Bool) | int (i:Int) | str (x:Str) | byt (b:Array UInt8) | flt (b:UInt64) | ref (a:Addr) | ty (n:String)
  deriving DecidableEq
noncomputable def RelV:V→Value→Prop
  | .non,u=>u=Value.none
  | .bl b,u=>u=Value.bool b
  | .int i,u=>∃ t,u=Value.int i t
  | .str x,u=>∃ t,u=Value.str x t
  | .byt b,u=>∃ t,u=Value.bytes b t
  | .flt b,u=>∃ t,u=Value.float b t
  | .ref a,u=>u=Value.ref a
  | .ty n,u=>u=Value.type n
noncomputable abbrev Vals:List V→List Value→Prop:=Paired RelV
theorem Vals.length {xs:List V} {us:List Value} (r:Vals xs us):xs.length=us.length:=Paired.length r
theorem Vals.get:∀ {xs:List V} {us:List Value} {i:Nat} {x:V},Vals xs us→xs[i]?=some x→∃ u,us[i]?=some u∧RelV x u
  | _,_,_,_,.nil,e=>by simp at e
  | _,_,0,_,.cons r _,e=>by simp at e; subst e; exact ⟨_,rfl,r⟩
  | _,_,i+1,x,.cons _ t,e=>by
    obtain ⟨u,h1,h2⟩:=Vals.get (i:=i) (x:=x) t (by simpa using e)
    exact ⟨u,by simpa using h1,h2⟩
theorem Vals.append:∀ {xs ys:List V} {us ws:List Value},Vals xs us→Vals ys ws→Vals (xs++ys) (us++ws)
  | _,_,_,_,.nil,s=>s
  | _,_,_,_,.cons r t,s=>.cons r (Vals.append t s)
theorem Vals.take:∀ {xs:List V} {us:List Value} (n:Nat),Vals xs us→Vals (xs.take n) (us.take n)
  | _,_,0,_=>.nil
  | _,_,_+1,.nil=>.nil
  | _,_,n+1,.cons r t=>.cons r (Vals.take n t)
theorem Vals.drop:∀ {xs:List V} {us:List Value} (n:Nat),Vals xs us→Vals (xs.drop n) (us.drop n)
  | _,_,0,r=>r
  | _,_,_+1,.nil=>.nil
  | _,_,n+1,.cons _ t=>Vals.drop n t
noncomputable def RelO:Option V→Option Value→Prop
  | some v,some u=>RelV v u
  | none,none=>True
  | _,_=>False
noncomputable def KV {κ:Type}:List (κ×V)→List (κ×Value)→Prop:=Paired fun (p:κ×V) (q:κ×Value)=>p.1=q.1∧RelV p.2 q.2
noncomputable def kV:Key→V
  | .inl i=>.int i
  | .inr x=>.str x
inductive HO where
  | lst (xs:List V)
  | tup (xs:List V)
  | dK (kvs:List (Key×V)) | dT (kvs:List (List Key×V))
  | set (S:Int→Bool) (n:Nat)
  | ins (C dx:Addr) (fs:List (Str×V))
  | own (x:Addr)
  | xd (fs:List (Str×V))
  | met (f x:Addr)
  | rng (lo hi:Int)
  | frz (o:Obj) (u:HO)
  | tbl (ps:Array Value)
  | ext (φ:Heap→Prop)
noncomputable abbrev Hp:=Addr→Option HO
noncomputable def upd (H:Hp) (a:Addr) (o:HO):Hp:=fun b=>if b=a then some o else H b
theorem upd_same {H:Hp} {a:Addr} {o:HO}:upd H a o a=some o:=by unfold upd; rw [if_pos rfl]
theorem upd_ne {H:Hp} {a b:Addr} {o:HO} (h:b≠a):upd H a o b=H b:=by unfold upd; rw [if_neg h]
theorem ne_of_none {H:Hp} {a b:Addr} {o:HO} (h:H a=some o) (h':H b=none):a≠b:=by
  intro e; subst e; rw [h] at h'; cases h'
section
variable (P:Program) (w:World)
noncomputable def ObjOk (H:Hp) (h:Heap) (a:Addr):HO→Prop
  | .lst xs=>xs.length≤sizeLine∧∃ (its:List Value) (n:Nat),Vals xs its∧h.get? a=some { cls:=.type "list", data:=.seq its.toArray n }
  | .tup xs=>xs.length≤sizeLine∧∃ its:List Value,Vals xs its∧IsTup h a its.toArray
  | .dK kvs=>kvs.length≤sizeLine∧(a==sysModules)=false∧∃ vs,KV kvs vs∧h.DictOf (mixKind P w) a vs
  | .dT kvs=>kvs.length≤sizeLine∧(a==sysModules)=false∧∃ xs:List (List Key×Addr×Value),
      Paired (fun (p:List Key×V) (q:List Key×Addr×Value)=>p.1=q.1∧H q.2.1=some (.tup (p.1.map kV))∧RelV p.2 q.2.2) kvs xs ∧
      ∃ o es ep,h.get? a=some o∧o.ExactDict∧o.data=.dict es ep∧es.toList=xs.map (entryOfKey (tupleKind (mixKind P w)))∧(xs.map (·.1)).Nodup
  | .set S n=>h.SetOf (intKind P w) a S n
  | .ins C dx fs=>H dx=some (.own a)∧fs.length≤1000∧dx≠a∧h.get? a=some (PySem.W.instObj C dx) ∧
      ∃ mA,h.Ns1 dx mA∧(∀ f,RelO (fs.lookup f) (mA f))∧PySem.Within mA (fs.map (·.1))
  | .own _=>∃ o,h.get? a=some o
  | .xd fs=>∃ mA,h.Ns1 a mA∧∀ f,RelO (fs.lookup f) (mA f)
  | .rng lo hi=>∃ t u v,h.get? a=some { cls:=.type "range", data:=.fields #[.int lo t,.int hi u,.int 1 v] }
  | .frz o u=>h.get? a=some o∧ObjOk H h a u
  | .tbl ps=>h.get? a=some { cls:=.none,data:=.fields ps }
  | .met f x=>h.get? a=some (PySem.W.methodObj (.ref f) (.ref x))
  | .ext φ=>φ h∧(∃ o,h.get? a=some o)∧∀ h1 h2:Heap,φ h1→(∀ o,h1.get? a=some o→h2.get? a=some o)→φ h2
noncomputable def HOk (H:Hp) (h:Heap):Prop:=∀ a o,H a=some o→ObjOk P w H h a o
end
section
variable {P:Program} {w:World} {H H':Hp} {h h':Heap} {a:Addr} {o:HO}
theorem ObjOk.lt (x:ObjOk P w H h a o):a < h.objs.size:=by
  cases o with
  | lst xs=>obtain ⟨_,_,_,_,e⟩:=x; exact Heap.lt_size e
  | tup xs=>obtain ⟨_,_,_,p⟩:=x; exact p.lt
  | dK kvs=>obtain ⟨_,_,_,_,o,_,_,e,_⟩:=x; exact Heap.lt_size e
  | dT kvs=>obtain ⟨_,_,_,_,o,_,_,e,_⟩:=x; exact Heap.lt_size e
  | set S n=>obtain ⟨o,_,_,_,e,_⟩:=x; exact Heap.lt_size e
  | ins C dx fs=>obtain ⟨_,_,_,e,_⟩:=x; exact Heap.lt_size e
  | own y=>obtain ⟨_,e⟩:=x; exact Heap.lt_size e
  | xd fs=>obtain ⟨_,⟨_,_,_,e,_⟩,_⟩:=x; exact Heap.lt_size e
  | rng lo hi=>obtain ⟨_,_,_,e⟩:=x; exact Heap.lt_size e
  | frz ob u=>obtain ⟨e,_⟩:=x; exact Heap.lt_size e
  | tbl ps=>exact Heap.lt_size (show h.get? a=some _ from x)
  | met f y=>exact Heap.lt_size (show h.get? a=some _ from x)
  | ext φ=>obtain ⟨_,⟨_,e⟩,_⟩:=x; exact Heap.lt_size e
theorem Paired.mapP {α β:Type} {F G:α→β→Prop}:∀ {l₁:List α} {l₂:List β},Paired F l₁ l₂→(∀ a b,F a b→G a b)→Paired G l₁ l₂
  | _,_,.nil,_=>.nil
  | _,_,.cons r t,f=>.cons (f _ _ r) (Paired.mapP t f)
theorem ObjOk.stay (x:ObjOk P w H h a o) (k:∀ b u,(b=a∨H b=some (.own a))→h.get? b=some u→h'.get? b=some u)
    (ho:∀ b,H b=some (.own a)→H' b=some (.own a)) (ht:∀ b xs,H b=some (.tup xs)→H' b=some (.tup xs)):ObjOk P w H' h' a o:=by
  induction o with
  | lst xs=>obtain ⟨z,its,n,r,e⟩:=x; exact ⟨z,its,n,r,k _ _ (.inl rfl) e⟩
  | tup xs=>obtain ⟨z,its,r,ob,e,c⟩:=x; exact ⟨z,its,r,ob,k _ _ (.inl rfl) e,c⟩
  | dK kvs=>obtain ⟨z,y,vs,r,ob,es,ep,e,c⟩:=x; exact ⟨z,y,vs,r,ob,es,ep,k _ _ (.inl rfl) e,c⟩
  | dT kvs =>
    obtain ⟨z,y,xs,r,ob,es,ep,e,c⟩:=x
    exact ⟨z,y,xs,Paired.mapP r fun p q z=>⟨z.1,ht _ _ z.2.1,z.2.2⟩,ob,es,ep,k _ _ (.inl rfl) e,c⟩
  | set S n=>obtain ⟨ob,es,ep,t,e,c⟩:=x; exact ⟨ob,es,ep,t,k _ _ (.inl rfl) e,c⟩
  | ins C dx fs =>
    obtain ⟨d,z,ne,e,mA,⟨od,es,ep,e2,c⟩,r⟩:=x
    exact ⟨ho _ d,z,ne,k _ _ (.inl rfl) e,mA,⟨od,es,ep,k _ _ (.inr d) e2,c⟩,r⟩
  | own y=>obtain ⟨ob,e⟩:=x; exact ⟨ob,k _ _ (.inl rfl) e⟩
  | xd fs=>obtain ⟨mA,⟨od,es,ep,e,c⟩,r⟩:=x; exact ⟨mA,⟨od,es,ep,k _ _ (.inl rfl) e,c⟩,r⟩
  | rng lo hi=>obtain ⟨t,u,v,e⟩:=x; exact ⟨t,u,v,k _ _ (.inl rfl) e⟩
  | frz ob u ih=>obtain ⟨e,q⟩:=x; exact ⟨k _ _ (.inl rfl) e,ih q⟩
  | tbl ps =>
    have e:h.get? a=some { cls:=.none,data:=.fields ps }:=x
    show h'.get? a=some { cls:=.none,data:=.fields ps }
    exact k a _ (.inl rfl) e
  | met f y =>
    have e:h.get? a=some (PySem.W.methodObj (.ref f) (.ref y)):=x
    show h'.get? a=some (PySem.W.methodObj (.ref f) (.ref y))
    exact k a _ (.inl rfl) e
  | ext φ=>obtain ⟨p,⟨o,e⟩,st⟩:=x; exact ⟨st _ _ p fun o q=>k _ _ (.inl rfl) q,⟨o,k _ _ (.inl rfl) e⟩,st⟩
theorem HOk.lt (x:HOk P w H h) (e:H a=some o):a < h.objs.size:=(x a o e).lt
theorem HOk.fresh (x:HOk P w H h) (e:h.objs.size≤a):H a=none:=by
  cases q:H a with
  | none=>rfl
  | some u=>exact absurd (Nat.lt_of_lt_of_le (x.lt q) e) (Nat.lt_irrefl _)
theorem HOk.kept (x:HOk P w H h) (k:∀ b u,h.get? b=some u→h'.get? b=some u):HOk P w H h':=fun a o e =>
  (x a o e).stay (fun b u _ q=>k b u q) (fun _ q=>q) fun _ _ q=>q
theorem HOk.laid (x:HOk P w H h) (k:∀ b u,h.get? b=some u→h'.get? b=some u) (hp:h.objs.size≤a) (new:ObjOk P w (upd H a o) h' a o):HOk P w (upd H a o) h':=fun b u e=>by
  have hn:=x.fresh hp
  by_cases hb:b=a
  · subst hb; rw [upd_same] at e; cases e; exact new
  · rw [upd_ne hb] at e
    exact (x b u e).stay (fun c v _ q=>k c v q) (fun c q=>by rw [upd_ne (ne_of_none q hn)]; exact q) fun c xs q=>by rw [upd_ne (ne_of_none q hn)]; exact q
end
noncomputable def Rd (H:Hp) (a:Addr) (u:HO):Prop:=H a=some u∨∃ o,H a=some (.frz o u)
theorem Rd.ok {P:Program} {w:World} {H:Hp} {h:Heap} {a:Addr} {u:HO} (r:Rd H a u) (x:HOk P w H h):ObjOk P w H h a u:=by
  rcases r with r | ⟨o,r⟩
  · exact x a u r
  · obtain ⟨_,q⟩:=x a _ r
    exact q
noncomputable def Mut:Option HO→Prop
  | some (.lst _)=>True
  | some (.dK _)=>True
  | some (.dT _)=>True
  | some (.set _ _)=>True
  | some (.ins _ _ _)=>True
  | some (.ext _)=>True
  | _=>False
section
variable {P:Program} {w:World} {H:Hp} {h h':Heap} {x e:Addr} {o':HO}
theorem HOk.write (ok:HOk P w H h) (mu:Mut (H x)) (he:e=x∨H e=some (.own x)) (k:∀ b u,b≠e→h.get? b=some u→h'.get? b=some u) (heo:∃ u,h'.get? e=some u)
    (new:ObjOk P w (upd H x o') h' x o'):HOk P w (upd H x o') h':=fun b u q=>by
  have nown:∀ c y,H c=some (.own y)→c≠x:=fun c y r z=>by subst z; rw [r] at mu; exact mu
  have ntup:∀ c xs,H c=some (.tup xs)→c≠x:=fun c xs r z=>by subst z; rw [r] at mu; exact mu
  by_cases hb:b=x
  · subst hb; rw [upd_same] at q; cases q; exact new
  · rw [upd_ne hb] at q
    by_cases hbe:b=e
    · have q':H b=some (.own x):=by
        rcases he with z | z
        · exact absurd (hbe.trans z) hb
        · rw [hbe]; exact z
      rw [q] at q'; cases q'
      obtain ⟨v,hv⟩:=heo
      exact ⟨v,by rw [hbe]; exact hv⟩
    · refine (ok b u q).stay (fun c v hc r=>k c v ?_ r) (fun c r=>by rw [upd_ne (nown c b r)]; exact r) fun c xs r=>by rw [upd_ne (ntup c xs r)]; exact r
      rcases hc with rfl | hc
      · exact hbe
      · rintro rfl
        rcases he with z | z
        · exact nown c b hc z
        · rw [hc] at z; cases z; exact hb rfl
end
structure Un (fs ex:List Addr) (H H':Hp) (h h':Heap):Prop where
  keep:∀ b o,h.get? b=some o→H b=none→b∉fs→b∉ex→h'.get? b=some o
  slot:∀ b o,h.get? b=some o→H b=none→b∈fs→b∉ex→∃ sl,h'.get? b=some { o with slots:=sl }
  free:∀ b o,h.get? b=some o→H b=none→b∉ex→H' b=none
  there:∀ b o,h.get? b=some o→b∉ex→∃ o',h'.get? b=some o'
  tups:∀ b xs,H b=some (.tup xs)→H' b=some (.tup xs)
  frzs:∀ b o u,H b=some (.frz o u)→H' b=some (.frz o u)
  tbls:∀ b ps,H b=some (.tbl ps)→∃ more,H' b=some (.tbl (ps++more))
section
variable {fs fs' ex ex':List Addr} {H H1 H2:Hp} {h h1 h2 h':Heap} {a x e:Addr} {o:HO}
theorem Un.any (u:Un fs ex H H1 h h1) {b:Addr} {ob:Obj} (q:h.get? b=some ob) (n:H b=none) (hx:b∉ex):∃ sl,h1.get? b=some { ob with slots:=sl }:=by
  by_cases hb:b∈fs
  · exact u.slot b ob q n hb hx
  · exact ⟨ob.slots,u.keep b ob q n hb hx⟩
theorem Un.kept (k:∀ b u,h.get? b=some u→h'.get? b=some u):Un fs ex H H h h' :=
  ⟨fun b ob q _ _ _=>k b ob q,fun b ob q _ _ _=>⟨ob.slots,k b ob q⟩,fun _ _ _ n _=>n,fun b ob q _=>⟨ob,k b ob q⟩,fun _ _ q=>q,fun _ _ _ q=>q,fun _ ps q=>⟨#[],by rw [q]; simp⟩⟩
theorem Un.refl:Un fs ex H H h h:=Un.kept fun _ _ q=>q
theorem Un.laid (k:∀ b u,h.get? b=some u→h'.get? b=some u) (hp:h.objs.size≤a) (hn:H a=none):Un fs ex H (upd H a o) h h' where
  keep:=fun b u q _ _ _=>k b u q
  slot:=fun b u q _ _ _=>⟨u.slots,k b u q⟩
  free:=fun b u q n _=>by rw [upd_ne (Nat.ne_of_lt (Nat.lt_of_lt_of_le (Heap.lt_size q) hp))]; exact n
  there:=fun b u q _=>⟨u,k b u q⟩
  tups:=fun b xs q=>by rw [upd_ne (ne_of_none q hn)]; exact q
  frzs:=fun b u xs q=>by rw [upd_ne (ne_of_none q hn)]; exact q
  tbls:=fun b ps q=>⟨#[],by rw [upd_ne (ne_of_none q hn),q]; simp⟩
theorem Un.write (mu:Mut (H x)) (he:e=x∨H e=some (.own x)) (k:∀ b u,b≠e→h.get? b=some u→h'.get? b=some u) (heo:∃ u,h'.get? e=some u):Un fs ex H (upd H x o) h h':=by
  have hx:∀ b,H b=none→b≠x:=fun b n z=>by subst z; rw [n] at mu; exact mu
  have hb:∀ b,H b=none→b≠e:=fun b n z=>by
    subst z
    rcases he with r | r
    · exact hx b n r
    · rw [n] at r; cases r
  have hm:∀ b u,H b=some u→¬ Mut (some u)→b≠x:=fun b u q nm z=>by subst z; rw [q] at mu; exact nm mu
  refine ⟨fun b u q n _ _=>k b u (hb b n) q,fun b u q n _ _=>⟨u.slots,k b u (hb b n) q⟩,fun b u q n _=>by rw [upd_ne (hx b n)]; exact n,fun b u q _=>?_,
    fun b xs q=>by rw [upd_ne (hm b _ q fun z=>z)]; exact q,fun b u xs q=>by rw [upd_ne (hm b _ q fun z=>z)]; exact q,fun b ps q=>⟨#[],by rw [upd_ne (hm b _ q fun z=>z),q]; simp⟩⟩
  by_cases hbe:b=e
  · subst hbe; exact heo
  · exact ⟨u,k b u hbe q⟩
end
noncomputable def trk (h:Heap) (H:Hp):List Addr:=(List.range h.objs.size).filter fun a=>(H a).isSome
noncomputable def hidT (h:Heap) (H:Hp):Heap:=PySem.W.hideAll h (trk h H)
theorem hidT_size (h:Heap) (H:Hp):(hidT h H).objs.size=h.objs.size:=PySem.W.hideAll_size _ _
theorem hidT_get {h:Heap} {H:Hp} {b:Addr} {o:Obj} (e:h.get? b=some o) (n:H b=none):(hidT h H).get? b=some o :=
  PySem.W.hideAll_get _ e fun hm=>by
    have q:(H b).isSome=true:=(List.mem_filter.mp hm).2
    rw [n] at q; simp at q
theorem of_hidT {h:Heap} {H:Hp} {b:Addr} {o:Obj} (e:(hidT h H).get? b=some o):h.get? b=some o∧H b=none:=by
  have e':h.get? b=some o:=PySem.W.of_hideAll (trk h H) e
  refine ⟨e',?_⟩
  cases q:H b with
  | none=>rfl
  | some x =>
    have hm:b∈trk h H:=List.mem_filter.mpr ⟨List.mem_range.mpr (Heap.lt_size e'),by simp [q]⟩
    have z:(hidT h H).get? b=none:=PySem.W.hideAll_none (trk h H) hm
    rw [z] at e; cases e
noncomputable def allNews (g h:Heap) (L:Addr):List (Addr×Obj):=(List.range h.objs.size).filterMap fun a=>if a=L∨(g.get? a).isSome=true then none else (h.get? a).map fun o=>(a,o)
noncomputable def rest (g h:Heap) (L d:Addr):List (Addr×Obj):=(allNews g h L).filter fun p=>decide (p.1≠d)
end L2
namespace L2
open PySem PySem.Spec PyProof.Rows
structure Mod (K:PySem.W.Frag) (mg:Str→Option Value) (base:Heap):Prop where
  kin:K.In base
  glob:base.Ns mainGlobals mg
  blt:∃ mb,base.Ns builtinsNs mb∧∀ x:Str,x ≠ "__name__" → mb x=bootBuiltins x
  nolimit:base.NoLimit
structure Cx where
  prog:Program
  w:World
  K:PySem.W.Frag
  mg:Str→Option Value
  base:Heap
  A:Around
  N:List Str
  s₀:Shared
  H₀:Hp
  env:Env
  outer:List Env
  stack:List Env
  ex:List Addr
  fn:Str→Bool
  calm:Bool
  pn:List (Addr×Obj)
  xe:Value→Shared→Prop
noncomputable def frs (l:List Env):List Addr:=l.filterMap (·.frame)
noncomputable abbrev Cx.fs (X:Cx):List Addr:=frs X.outer
noncomputable def Vis (sc:Scope) (x:Str):Prop:=sc.names.lookup x=some .local∨sc.names.lookup x=some .cell∨sc.names.lookup x=some .free
noncomputable def Loc (sc:Scope) (x:Str):Prop:=sc.names.lookup x=some .local∨sc.names.lookup x=some .cell
noncomputable def Look (env:Env) (h:Heap) (m:Str→Option Value) (x:Str) (u:Value):Prop :=
  (env.kindOf x=some .local∧m x=some u)∨((env.kindOf x=some .cell∨env.kindOf x=some .free)∧∃ c,env.cells.lookup x=some c∧h.IsCell c (some u))
structure Cx.Ok (X:Cx):Prop where
  mod:Mod X.K X.mg X.base
  kind:X.env.scope.kind=.function
  glob:X.env.globals=mainGlobals
  blt:X.env.builtins=builtinsNs
  above:X.s₀.heap.objs.size≤X.env.locals
  inj:∀ x y c,X.env.cells.lookup x=some c→X.env.cells.lookup y=some c→x=y
  has:∀ x,(X.env.kindOf x=some .cell∨X.env.kindOf x=some .free)→∃ c,X.env.cells.lookup x=some c
  cab:∀ x c,X.fn x=true→X.env.cells.lookup x=some c→X.s₀.heap.objs.size≤c
  hd:X.calm=true→X.A.handled=none
  frames:X.A.frames=some X.stack
  stk:X.stack=X.outer∨(X.stack=X.env::X.outer∧X.env.frame=some X.env.locals)
  exf:∀ b∈X.ex,b≠X.env.locals∧∀ x c,X.env.cells.lookup x=some c→c≠b
  bs:∀ b o,X.base.get? b=some o→X.s₀.heap.get? b=some o∧X.H₀ b=none
  bsz:X.base.objs.size≤X.s₀.heap.objs.size
  noex:∀ b o,X.base.get? b=some o→b∉X.ex
  exfs:∀ b∈X.ex,b∉X.fs
  funs:X.s₀.heap.FunFrames X.base X.outer
  frf:∀ b∈X.fs,X.H₀ b=none
structure Inv (X:Cx) (pins:List (Addr×Obj)) (σ:List (Option V)) (H:Hp) (s:Shared):Prop where
  ok:X.Ok
  os:s.os=X.s₀.os
  bare:AllBare s.gens
  base:Un X.fs X.ex X.H₀ H X.s₀.heap s.heap
  loc:∃ m,s.heap.Ns X.env.locals m∧∀ (i:Nat) (x:Str) (v:V),X.N[i]?=some x→σ[i]?=some (some v)→Vis X.env.scope x→∃ u,RelV v u∧Look X.env s.heap m x u
  cell:∀ x c,X.env.cells.lookup x=some c→∃ v,s.heap.IsCell c v
  free:H X.env.locals=none
  freeC:∀ x c,X.env.cells.lookup x=some c→H c=none
  pin:∀ p∈X.pn++pins,s.heap.get? p.1=some p.2∧H p.1=none∧p.1≠X.env.locals∧p.1∉X.fs∧∀ v,p.2.data≠.cell v
  hok:HOk X.prog X.w H s.heap
  len:σ.length=X.N.length
section
variable {X:Cx} {pins:List (Addr×Obj)} {σ:List (Option V)} {H H':Hp} {s:Shared} {h':Heap}
theorem Cx.Ok.nofr (ok:X.Ok) {b:Addr} {o:Obj} (e:X.base.get? b=some o):b∉X.fs:=fun hb=>by
  have:=(ok.funs.mem hb).1
  rw [e] at this; cases this
theorem Inv.bs (I:Inv X pins σ H s):∀ b o,X.base.get? b=some o→s.heap.get? b=some o∧H b=none:=fun b o e =>
  ⟨I.base.keep b o (I.ok.bs b o e).1 (I.ok.bs b o e).2 (I.ok.nofr e) (I.ok.noex b o e),I.base.free b o (I.ok.bs b o e).1 (I.ok.bs b o e).2 (I.ok.noex b o e)⟩
theorem Inv.bk (I:Inv X pins σ H s):∀ b o,X.base.get? b=some o→s.heap.get? b=some o:=fun b o e=>(I.bs b o e).1
theorem Inv.mod (I:Inv X pins σ H s):Mod X.K X.mg X.base:=I.ok.mod
theorem Inv.kIn (I:Inv X pins σ H s):X.K.In s.heap:=I.ok.mod.kin.keeps I.bk
theorem Inv.lt (I:Inv X pins σ H s):X.env.locals < s.heap.objs.size:=let ⟨_,hn,_⟩:=I.loc; hn.lt
theorem Inv.sz (I:Inv X pins σ H s):X.s₀.heap.objs.size≤s.heap.objs.size:=Nat.le_trans I.ok.above (Nat.le_of_lt I.lt)
theorem Inv.nofs (I:Inv X pins σ H s) {a:Addr} (h:s.heap.objs.size≤a):a∉X.fs:=fun hb=>by
  obtain ⟨_,o,ho,_⟩:=I.ok.funs.mem hb
  exact absurd (Nat.lt_of_lt_of_le (Heap.lt_size ho) (Nat.le_trans I.sz h)) (Nat.lt_irrefl _)
theorem Inv.cne (I:Inv X pins σ H s):∀ x c,X.env.cells.lookup x=some c→c≠X.env.locals:=fun x c e z=>by
  obtain ⟨v,o,ho,hd⟩:=I.cell x c e
  obtain ⟨m,⟨o',es,ep,ho',hd',_⟩,_⟩:=I.loc
  rw [z,ho'] at ho; cases ho; rw [hd'] at hd; cases hd
theorem Inv.funs (I:Inv X pins σ H s):s.heap.FunFrames X.base X.outer:=by
  have all:∀ (l:List Env),(∀ b∈frs l,b∈X.fs)→X.s₀.heap.FunFrames X.base l→s.heap.FunFrames X.base l:=by
    intro l
    induction l with
    | nil=>intro _ _; trivial
    | cons env r ih =>
      intro hs hl
      obtain ⟨hk,⟨L,o,hf,hn,ho,hd⟩,hr⟩:=hl
      have hL:L∈X.fs:=hs L (by unfold frs; rw [List.filterMap_cons,hf]; exact List.mem_cons_self)
      obtain ⟨sl,e⟩:=I.base.slot L o ho (I.ok.frf L hL) hL fun z=>I.ok.exfs L z hL
      exact ⟨hk,⟨L,_,hf,hn,e,hd⟩,ih (fun b hb=>hs b (by unfold frs; rw [List.filterMap_cons,hf]; exact List.mem_cons_of_mem _ hb)) hr⟩
  exact all X.outer (fun _ hb=>hb) I.ok.funs
theorem Inv.stack (I:Inv X pins σ H s):s.heap.FunFrames X.base X.stack:=by
  rcases I.ok.stk with e | ⟨e,hf⟩
  · rw [e]; exact I.funs
  · rw [e]
    obtain ⟨m,hn,_⟩:=I.loc
    refine .cons (by rw [I.ok.kind]; decide) hf hn ?_ I.funs
    exact Heap.get?_none_of_le (Nat.le_trans I.ok.bsz I.ok.above)
theorem Inv.stkSub (I:Inv X pins σ H s):∀ b∈frs X.stack,b∈X.env.locals::X.fs:=fun b hb=>by
  rcases I.ok.stk with e | ⟨e,hf⟩
  · rw [e] at hb; exact List.mem_cons_of_mem _ hb
  · rw [e] at hb
    unfold frs at hb
    rw [List.filterMap_cons,hf] at hb
    exact hb
theorem Inv.stkFree (I:Inv X pins σ H s):∀ b∈frs X.stack,H b=none:=fun b hb=>by
  rcases List.mem_cons.mp (I.stkSub b hb) with e | hb
  · rw [e]; exact I.free
  · obtain ⟨_,o,ho,_⟩:=I.ok.funs.mem hb
    exact I.base.free b o ho (I.ok.frf b hb) fun z=>I.ok.exfs b z hb
theorem Inv.step {g':Array GenState} {t':Nat} {d':Drawn} {ch:List Addr} (I:Inv X pins σ H s)
    (hch:∀ b∈ch,(b∈X.ex∨X.s₀.heap.objs.size≤b)∧b≠X.env.locals∧(∀ x c,X.env.cells.lookup x=some c→c≠b)∧∀ p∈X.pn++pins,p.1≠b)
    (keep:∀ b o,b≠X.env.locals→b∉X.fs→b∉ch→s.heap.get? b=some o→H b=none→h'.get? b=some o)
    (slot:∀ b o,b≠X.env.locals→b∈X.fs→b∉ch→s.heap.get? b=some o→H b=none→∃ sl,h'.get? b=some { o with slots:=sl }) (free:∀ b o,b∉ch→s.heap.get? b=some o→H b=none→H' b=none)
    (there:∀ b o,b∉ch→s.heap.get? b=some o→∃ o',h'.get? b=some o')
    (tups:∀ b xs,H b=some (.tup xs)→H' b=some (.tup xs)) (frzs:∀ b o u,H b=some (.frz o u)→H' b=some (.frz o u)) (tbls:∀ b ps,H b=some (.tbl ps)→∃ more,H' b=some (.tbl (ps++more)))
    (ns:∀ m,s.heap.Ns X.env.locals m→h'.Ns X.env.locals m) (hok:HOk X.prog X.w H' h') (hg:AllBare g') :
    Inv X pins σ H' { s with heap:=h',gens:=g',drawn:=d',toks:=t' }:=by
  have neL:∀ b o,X.s₀.heap.get? b=some o→b≠X.env.locals:=fun b o e=>Nat.ne_of_lt (Nat.lt_of_lt_of_le (Heap.lt_size e) I.ok.above)
  have neC:∀ b o,X.s₀.heap.get? b=some o→b∉X.ex→b∉ch:=fun b o e hx hb=>by
    rcases (hch b hb).1 with z | z
    · exact hx z
    · exact absurd (Nat.lt_of_lt_of_le (Heap.lt_size e) z) (Nat.lt_irrefl _)
  have cellK:∀ x c,X.env.cells.lookup x=some c→∀ v,s.heap.IsCell c v→h'.IsCell c v:=fun x c e v ⟨o,ho,hd⟩=>by
    have nch:c∉ch:=fun z=>(hch c z).2.2.1 x c e rfl
    by_cases hc:c∈X.fs
    · obtain ⟨sl,q⟩:=slot c o (I.cne x c e) hc nch ho (I.freeC x c e)
      exact ⟨_,q,hd⟩
    · exact ⟨o,keep c o (I.cne x c e) hc nch ho (I.freeC x c e),hd⟩
  refine ⟨I.ok,I.os,hg,⟨fun b o e n hb hx=>?_,fun b o e n hb hx=>?_,fun b o e n hx=>?_,fun b o e hx=>?_,fun b xs e=>tups b xs (I.base.tups b xs e),fun b o xs e=>frzs b o xs (I.base.frzs b o xs e),fun b ps e=>?_⟩,?_,fun x c e=>?_,?_,fun x c e=>?_,fun p hp=>?_,hok,I.len⟩
  · exact keep b o (neL b o e) hb (neC b o e hx) (I.base.keep b o e n hb hx) (I.base.free b o e n hx)
  · obtain ⟨sl,e1⟩:=I.base.slot b o e n hb hx
    obtain ⟨sl',e2⟩:=slot b _ (neL b o e) hb (neC b o e hx) e1 (I.base.free b o e n hx)
    exact ⟨sl',e2⟩
  · obtain ⟨o',e1⟩:=I.base.there b o e hx
    exact free b o' (neC b o e hx) e1 (I.base.free b o e n hx)
  · obtain ⟨o',e1⟩:=I.base.there b o e hx
    exact there b o' (neC b o e hx) e1
  · obtain ⟨m1,e1⟩:=I.base.tbls b ps e
    obtain ⟨m2,e2⟩:=tbls b _ e1
    exact ⟨m1++m2,by rw [e2,Array.append_assoc]⟩
  · obtain ⟨m,hn,hl⟩:=I.loc
    refine ⟨m,ns m hn,fun i x v e1 e2 e3=>?_⟩
    obtain ⟨u,r,l⟩:=hl i x v e1 e2 e3
    refine ⟨u,r,?_⟩
    rcases l with l | ⟨k,c,e,z⟩
    · exact .inl l
    · exact .inr ⟨k,c,e,cellK x c e _ z⟩
  · obtain ⟨v,z⟩:=I.cell x c e
    exact ⟨v,cellK x c e v z⟩
  · obtain ⟨m,⟨o,_,_,ho,_⟩,_⟩:=I.loc
    exact free _ o (fun z=>(hch _ z).2.1 rfl) ho I.free
  · obtain ⟨v,o,ho,hd⟩:=I.cell x c e
    exact free c o (fun z=>(hch c z).2.2.1 x c e rfl) ho (I.freeC x c e)
  · obtain ⟨e,n,ne,nf,d⟩:=I.pin p hp
    have nch:p.1∉ch:=fun z=>(hch p.1 z).2.2.2 p hp rfl
    exact ⟨keep p.1 p.2 ne nf nch e n,free p.1 p.2 nch e n,ne,nf,d⟩
theorem Inv.un {t':Nat} (I:Inv X pins σ H s) (u:Un X.fs [] H H' s.heap h') (hok:HOk X.prog X.w H' h'):Inv X pins σ H' { s with heap:=h',toks:=t' }:=by
  obtain ⟨m,⟨o,es,ep,ho,r⟩,_⟩:=id I.loc
  obtain ⟨sl,hL⟩:=u.any ho I.free (by simp)
  exact I.step (g':=s.gens) (d':=s.drawn) (ch:=[]) (fun _ z=>nomatch z) (fun b o _ hb _ e n=>u.keep b o e n hb (by simp)) (fun b o _ hb _ e n=>u.slot b o e n hb (by simp)) (fun b o _ e n=>u.free b o e n (by simp)) (fun b o _ e=>u.there b o e (by simp)) u.tups u.frzs u.tbls (fun m' hm=>by
    obtain ⟨o',es',ep',ho',r'⟩:=hm
    rw [ho] at ho'; cases ho'
    exact ⟨_,es',ep',hL,r'⟩) hok I.bare
theorem Inv.call {g':Array GenState} {t':Nat} {d':Drawn} {ch:List Addr} (I:Inv X pins σ H s) (u:Un (frs X.stack) ch H H' s.heap h') (hok:HOk X.prog X.w H' h') (hg:AllBare g')
    (hch:∀ b∈ch,(b∈X.ex∨X.s₀.heap.objs.size≤b)∧b≠X.env.locals∧(∀ x c,X.env.cells.lookup x=some c→c≠b)∧∀ p∈X.pn++pins,p.1≠b) :
    Inv X pins σ H' { s with heap:=h',gens:=g',drawn:=d',toks:=t' }:=by
  obtain ⟨m,⟨o,es,ep,ho,r⟩,_⟩:=id I.loc
  obtain ⟨sl,hL⟩:=u.any ho I.free fun z=>(hch _ z).2.1 rfl
  exact I.step (ch:=ch) hch (fun b o hL hb hc e n=>u.keep b o e n (fun z=>(List.mem_cons.mp (I.stkSub b z)).elim hL hb) hc) (fun b o _ _ hc e n=>u.any e n hc) (fun b o hc e n=>u.free b o e n hc) (fun b o hc e=>u.there b o e hc) u.tups u.frzs u.tbls (fun m' hm=>by
    obtain ⟨o',es',ep',ho',r'⟩:=hm
    rw [ho] at ho'; cases ho'
    exact ⟨_,es',ep',hL,r'⟩) hok hg
theorem Inv.turned {t':Nat} {it:Addr} (I:Inv X pins σ H s) (k:∀ b o,b≠it→s.heap.get? b=some o→h'.get? b=some o) (hn:H it=none) (hL:it≠X.env.locals)
    (h1:it∈X.ex∨X.s₀.heap.objs.size≤it) (h2:∀ x c,X.env.cells.lookup x=some c→c≠it) (h3:∀ p∈X.pn++pins,p.1≠it):Inv X pins σ H { s with heap:=h',toks:=t' }:=by
  have nit:∀ b u,H b=some u→b≠it:=fun b u e z=>by rw [z,hn] at e; cases e
  refine I.step (g':=s.gens) (d':=s.drawn) (ch:=[it]) (fun b hb=>?_) (fun b o _ _ hc e _=>k b o (fun z=>hc (by simp [z])) e) (fun b o _ _ hc e _=>⟨o.slots,k b o (fun z=>hc (by simp [z])) e⟩) (fun _ _ _ _ n=>n)
    (fun b o hc e=>⟨o,k b o (fun z=>hc (by simp [z])) e⟩) (fun _ _ e=>e) (fun _ _ _ e=>e) (fun b ps e=>⟨#[],by rw [e]; simp⟩) (fun m hm=>?_) (fun b u e=>?_) I.bare
  · have e:b=it:=by simpa using hb
    subst e
    exact ⟨h1,hL,h2,h3⟩
  · obtain ⟨o,es,ep,ho,r⟩:=hm
    exact ⟨o,es,ep,k _ o (Ne.symm hL) ho,r⟩
  · refine (I.hok b u e).stay (fun c v hc q=>k c v ?_ q) (fun _ q=>q) fun _ _ q=>q
    rcases hc with z | z
    · rw [z]; exact nit b u e
    · exact nit c _ z
theorem Inv.tok (I:Inv X pins σ H s) (t:Nat):Inv X pins σ H { s with toks:=t }:=I.un (h':=s.heap) (t':=t) Un.refl I.hok
theorem Inv.kept {t':Nat} (I:Inv X pins σ H s) (k:∀ b u,s.heap.get? b=some u→h'.get? b=some u):Inv X pins σ H { s with heap:=h',toks:=t' }:=I.un (Un.kept k) (I.hok.kept k)
theorem Inv.laid {a:Addr} {o:HO} {t':Nat} (I:Inv X pins σ H s) (k:∀ b u,s.heap.get? b=some u→h'.get? b=some u) (hp:s.heap.objs.size≤a) (new:ObjOk X.prog X.w (upd H a o) h' a o) :
    Inv X pins σ (upd H a o) { s with heap:=h',toks:=t' }:=I.un (Un.laid k hp (I.hok.fresh hp)) (I.hok.laid k hp new)
theorem Inv.write {x e:Addr} {o:HO} {t':Nat} (I:Inv X pins σ H s) (mu:Mut (H x)) (he:e=x∨H e=some (.own x)) (k:∀ b u,b≠e→s.heap.get? b=some u→h'.get? b=some u) (heo:∃ u,h'.get? e=some u)
    (new:ObjOk X.prog X.w (upd H x o) h' x o):Inv X pins σ (upd H x o) { s with heap:=h',toks:=t' }:=I.un (Un.write mu he k heo) (I.hok.write mu he k heo new)
theorem Inv.weak {σ':List (Option V)} (I:Inv X pins σ H s) (hl:σ'.length=σ.length) (w:∀ (i:Nat) v,σ'[i]?=some (some v)→σ[i]?=some (some v)):Inv X pins σ' H s :=
  ⟨I.ok,I.os,I.bare,I.base,let ⟨m,hn,hl'⟩:=I.loc; ⟨m,hn,fun i x v e1 e2 e3=>hl' i x v e1 (w i v e2) e3⟩,I.cell,I.free,I.freeC,I.pin,I.hok,hl.trans I.len⟩
theorem Inv.pins_of {pins':List (Addr×Obj)} (I:Inv X pins σ H s) (h:∀ p∈pins',s.heap.get? p.1=some p.2∧H p.1=none∧p.1≠X.env.locals∧p.1∉X.fs∧∀ v,p.2.data≠.cell v):Inv X pins' σ H s :=
  ⟨I.ok,I.os,I.bare,I.base,I.loc,I.cell,I.free,I.freeC,fun p hp=>(List.mem_append.mp hp).elim (fun z=>I.pin p (List.mem_append_left _ z)) (h p),I.hok,I.len⟩
theorem nodup_ix {N:List Str} (hN:N.Nodup) {i j:Nat} {x:Str} (a:N[i]?=some x) (b:N[j]?=some x):i=j:=by
  obtain ⟨h1,e1⟩:=List.getElem?_eq_some_iff.mp a
  obtain ⟨h2,e2⟩:=List.getElem?_eq_some_iff.mp b
  exact (List.getElem_inj hN).mp (e1.trans e2.symm)
theorem store_ok2 {M:Model} {A:Around} {E:Value→Shared→Prop} {i:Nat} {x:Str} {v:V} {u:Value} {Q:Unit→Shared→Prop} (I:Inv X pins σ H s) (hN:X.N.Nodup) (hi:X.N[i]?=some x) (hx:Loc X.env.scope x) (r:RelV v u)
    (h:∀ s',Inv X pins (σ.set i (some v)) H s'→(∃ a,Heap.SameBut a s.heap s'.heap∧(a=X.env.locals∨X.env.cells.lookup x=some a))→Q () s') (hf:X.fn x=true∨X.env.scope.names.lookup x=some .local:=by first | exact .inl rfl | exact .inr rfl | assumption):wpAny M A (storeName X.env x u) Q E s:=by
  obtain ⟨m,hn,hl⟩:=id I.loc
  have hcls:(X.env.scope.kind==.class||(X.env.scope.kind==.module&&X.env.locals != X.env.globals))=false:=by rw [I.ok.kind]; rfl
  have hiσ:i < σ.length:=by rw [I.len]; exact (List.getElem?_eq_some_iff.mp hi).1
  have cne:=I.cne
  have tracked:∀ {a:Addr} {h':Heap},(∃ o,s.heap.get? a=some o∧H a=none)→Heap.SameBut a s.heap h'→HOk X.prog X.w H h':=fun {a h'} ha hs b ob e=>by
    obtain ⟨_,_,hfree⟩:=ha
    refine (I.hok b ob e).stay (fun c w' hc q=>(hs.2 c ?_).trans q) (fun _ q=>q) fun _ _ q=>q
    rintro rfl
    rcases hc with rfl | hc
    · rw [hfree] at e; cases e
    · rw [hfree] at hc; cases hc
  rcases hx with hk | hk
  · refine wpAny_storeName_local hk hn (fun h' hn' hs=>?_) hcls
    obtain ⟨oL,_,_,hoL,_⟩:=id hn
    refine h _ ⟨I.ok,I.os,I.bare,⟨fun b o e n hb hx=>?_,fun b o e n hb hx=>?_,I.base.free,fun b o e hx=>?_,I.base.tups,I.base.frzs,I.base.tbls⟩,⟨_,hn',fun j y v' e1 e2 e3=>?_⟩,fun y c e=>?_,I.free,I.freeC,fun p hp=>?_,tracked ⟨oL,hoL,I.free⟩ hs,by simpa using I.len⟩ ⟨_,hs,.inl rfl⟩
    · exact (hs.2 b (Nat.ne_of_lt (Nat.lt_of_lt_of_le (Heap.lt_size e) I.ok.above))).trans (I.base.keep b o e n hb hx)
    · obtain ⟨sl,e1⟩:=I.base.slot b o e n hb hx
      exact ⟨sl,(hs.2 b (Nat.ne_of_lt (Nat.lt_of_lt_of_le (Heap.lt_size e) I.ok.above))).trans e1⟩
    · obtain ⟨o',e1⟩:=I.base.there b o e hx
      exact ⟨o',(hs.2 b (Nat.ne_of_lt (Nat.lt_of_lt_of_le (Heap.lt_size e) I.ok.above))).trans e1⟩
    · by_cases hj:j=i
      · subst hj
        rw [hi] at e1; cases e1
        rw [List.getElem?_set_self hiσ] at e2
        cases e2
        exact ⟨u,r,.inl ⟨hk,by simp⟩⟩
      · rw [List.getElem?_set_ne (Ne.symm hj)] at e2
        obtain ⟨u',r',q⟩:=hl j y v' e1 e2 e3
        refine ⟨u',r',?_⟩
        rcases q with ⟨k,e⟩ | ⟨k,c,e,z⟩
        · refine .inl ⟨k,?_⟩
          have:y≠x:=fun e=>hj (nodup_ix hN e1 (e ▸ hi))
          simp [this,e]
        · exact .inr ⟨k,c,e,z.sameBut hs (cne y c e)⟩
    · obtain ⟨w',z⟩:=I.cell y c e
      exact ⟨w',z.sameBut hs (cne y c e)⟩
    · obtain ⟨e,n,ne,nf,d⟩:=I.pin p hp
      exact ⟨(hs.2 p.1 ne).trans e,n,ne,nf,d⟩
  · have hfn:X.fn x=true:=by
      rcases hf with z | z
      · exact z
      · rw [z] at hk; cases hk
    obtain ⟨c,hc⟩:=I.ok.has x (.inl hk)
    obtain ⟨w',z⟩:=I.cell x c hc
    refine wpAny_storeName_cell I.ok.kind hk hc z (fun h' hc' hs=>?_)
    obtain ⟨oc,hoc,hocd⟩:=id z
    refine h { s with heap:=h' } ⟨I.ok,I.os,I.bare,⟨fun b o e n hb hx=>?_,fun b o e n hb hx=>?_,I.base.free,fun b o e hx=>?_,I.base.tups,I.base.frzs,I.base.tbls⟩,⟨m,hn.sameBut hs (Ne.symm (cne x c hc)),fun j y v' e1 e2 e3=>?_⟩,fun y c' e=>?_,I.free,I.freeC,fun p hp=>?_,tracked ⟨oc,hoc,I.freeC x c hc⟩ hs,by simpa using I.len⟩ ⟨c,hs,.inr hc⟩
    · exact (hs.2 b (Nat.ne_of_lt (Nat.lt_of_lt_of_le (Heap.lt_size e) (I.ok.cab x c hfn hc)))).trans (I.base.keep b o e n hb hx)
    · obtain ⟨sl,e1⟩:=I.base.slot b o e n hb hx
      exact ⟨sl,(hs.2 b (Nat.ne_of_lt (Nat.lt_of_lt_of_le (Heap.lt_size e) (I.ok.cab x c hfn hc)))).trans e1⟩
    · obtain ⟨o',e1⟩:=I.base.there b o e hx
      exact ⟨o',(hs.2 b (Nat.ne_of_lt (Nat.lt_of_lt_of_le (Heap.lt_size e) (I.ok.cab x c hfn hc)))).trans e1⟩
    · by_cases hj:j=i
      · subst hj
        rw [hi] at e1; cases e1
        rw [List.getElem?_set_self hiσ] at e2
        cases e2
        exact ⟨u,r,.inr ⟨.inl hk,c,hc,hc'⟩⟩
      · rw [List.getElem?_set_ne (Ne.symm hj)] at e2
        obtain ⟨u',r',q⟩:=hl j y v' e1 e2 e3
        refine ⟨u',r',?_⟩
        rcases q with q | ⟨k,c',e,z'⟩
        · exact .inl q
        · refine .inr ⟨k,c',e,z'.sameBut hs ?_⟩
          rintro rfl
          exact hj (nodup_ix hN e1 (I.ok.inj _ _ _ e hc ▸ hi))
    · by_cases hcc:c'=c
      · subst hcc; exact ⟨_,hc'⟩
      · obtain ⟨w2,z2⟩:=I.cell y c' e
        exact ⟨w2,z2.sameBut hs hcc⟩
    · obtain ⟨e,n,ne,nf,d⟩:=I.pin p hp
      refine ⟨(hs.2 p.1 ?_).trans e,n,ne,nf,d⟩
      intro q
      rw [q,hoc] at e
      have q':oc=p.2:=Option.some.inj e
      exact d w' (by rw [← q']; exact hocd)
theorem store_ok {M:Model} {A:Around} {E:Value→Shared→Prop} {i:Nat} {x:Str} {v:V} {u:Value} {Q:Unit→Shared→Prop} (I:Inv X pins σ H s) (hN:X.N.Nodup) (hi:X.N[i]?=some x) (hx:Loc X.env.scope x) (r:RelV v u)
    (h:∀ s',Inv X pins (σ.set i (some v)) H s'→Q () s') (hf:X.fn x=true∨X.env.scope.names.lookup x=some .local:=by first | exact .inl rfl | exact .inr rfl | assumption):wpAny M A (storeName X.env x u) Q E s :=
  store_ok2 I hN hi hx r (fun s' I' _=>h s' I') hf
theorem Inv.call' {s':Shared} {ch:List Addr} (I:Inv X pins σ H s) (ho:s'.os=s.os) (u:Un (frs X.stack) ch H H' s.heap s'.heap) (hok:HOk X.prog X.w H' s'.heap) (hg:AllBare s'.gens)
    (hch:∀ b∈ch,(b∈X.ex∨X.s₀.heap.objs.size≤b)∧b≠X.env.locals∧(∀ x c,X.env.cells.lookup x=some c→c≠b)∧∀ p∈X.pn++pins,p.1≠b):Inv X pins σ H' s':=by
  obtain ⟨h',g',d',t',o'⟩:=s'
  have e:o'=s.os:=ho
  subst e
  exact I.call (g':=g') (t':=t') (d':=d') u hok hg hch
end
noncomputable abbrev XK:=Value→Option Addr→Hp→Prop
noncomputable abbrev St:=List (Option V)
noncomputable abbrev VK:=V→Hp→Prop
noncomputable abbrev TE:=St→Hp→VK→Prop
noncomputable abbrev TT:=St→Hp→(Bool→Hp→Prop)→Prop
noncomputable abbrev TA:=St→Hp→(List V→Hp→Prop)→Prop
structure Ends where
  nx:St→Hp→Prop
  rt:VK
  bk:St→Hp→Prop:=fun _ _=>False
  ct:St→Hp→Prop:=fun _ _=>False
noncomputable abbrev TS:=Ends→St→Hp→Prop
noncomputable def EP (X:Cx) (pins:List (Addr×Obj)) (σ:St) (Q:VK) (u:Value) (s':Shared):Prop:=∃ v H',Inv X pins σ H' s'∧RelV v u∧Q v H'
noncomputable def TP (X:Cx) (pins:List (Addr×Obj)) (σ:St) (Q:Bool→Hp→Prop) (b:Bool) (s':Shared):Prop:=∃ H',Inv X pins σ H' s'∧Q b H'
noncomputable def AP (X:Cx) (pins:List (Addr×Obj)) (σ:St) (Q:List V→Hp→Prop) (us:List Value) (s':Shared):Prop:=∃ vs H',Inv X pins σ H' s'∧Vals vs us∧Q vs H'
noncomputable def SP (X:Cx) (pins:List (Addr×Obj)) (D:Ends) (f:Flow) (s':Shared):Prop :=
  match f with
  | .next=>∃ σ' H',Inv X pins σ' H' s'∧D.nx σ' H'
  | .brk=>∃ σ' H',Inv X pins σ' H' s'∧D.bk σ' H'
  | .cont=>∃ σ' H',Inv X pins σ' H' s'∧D.ct σ' H'
  | .ret u=>∃ v σ' H',Inv X pins σ' H' s'∧RelV v u∧D.rt v H'
noncomputable def PE (X:Cx) (e:Expr) (t:TE):Prop :=
  ∀ (pins:List (Addr×Obj)) (s:Shared) (σ:St) (H:Hp) (Q:VK),Inv X pins σ H s→t σ H Q→wpAny (model X.prog X.w) X.A (eval e X.env) (EP X pins σ Q) X.xe s
noncomputable def PT (X:Cx) (e:Expr) (t:TT):Prop :=
  ∀ (pins:List (Addr×Obj)) (s:Shared) (σ:St) (H:Hp) (Q:Bool→Hp→Prop),Inv X pins σ H s→t σ H Q→wpAny (model X.prog X.w) X.A (isTrue e X.env (eval e X.env)) (TP X pins σ Q) X.xe s
noncomputable def PW (X:Cx) (e:Expr) (t:TT):Prop :=
  ∀ (whole:Sem Value) (pins:List (Addr×Obj)) (s:Shared) (σ:St) (H:Hp) (Q:Bool→Hp→Prop),Inv X pins σ H s→t σ H Q→wpAny (model X.prog X.w) X.A (isTrue e X.env whole) (TP X pins σ Q) X.xe s
theorem PW.pt {X:Cx} {e:Expr} {t:TT} (h:PW X e t):PT X e t:=h _
noncomputable def PA (X:Cx) (es:List Expr) (t:TA):Prop :=
  ∀ (pos:Pos) (pins:List (Addr×Obj)) (s:Shared) (σ:St) (H:Hp) (Q:List V→Hp→Prop),Inv X pins σ H s→t σ H Q→wpAny (model X.prog X.w) X.A (spliced (backTo pos (starEach es X.env))) (AP X pins σ Q) X.xe s
noncomputable def PS (X:Cx) (st:Stmt) (t:TS):Prop :=
  ∀ (pins:List (Addr×Obj)) (s:Shared) (σ:St) (H:Hp) (D:Ends),Inv X pins σ H s→t D σ H→wpAny (model X.prog X.w) X.A (exec st X.env) (SP X pins D) X.xe s
noncomputable def PSs (X:Cx) (st:List Stmt) (t:TS):Prop :=
  ∀ (pins:List (Addr×Obj)) (s:Shared) (σ:St) (H:Hp) (D:Ends),Inv X pins σ H s→t D σ H→wpAny (model X.prog X.w) X.A (execs st X.env) (SP X pins D) X.xe s
theorem thn {α:Type} {t:Sem α} {Q Q':α→Shared→Prop} {M:Model} {A:Around} {E:Value→Shared→Prop} {s:Shared} (h:wpAny M A t Q E s) (hQ:∀ a s,Q a s→Q' a s):wpAny M A t Q' E s:=wpAny_mono h hQ fun _ _ x=>x
end L2
namespace L2
open PySem PySem.Spec PyProof.Rows
section
variable {X:Cx}
noncomputable def tVar (i:Nat):TE:=fun σ H Q=>∃ v,σ[i]?=some (some v)∧Q v H
noncomputable def tC (v:V):TE:=fun _ H Q=>Q v H
theorem pe_var {i:Nat} {x:Str} {pos:Pos} (hN:X.N[i]?=some x) (hv:Vis X.env.scope x) (hd:(x==("__debug__" : Str))=false:=by decide) (hcd:(x==("__classdict__" : Str))=false:=by decide):PE X (.Name x pos) (tVar i):=by
  intro pins s σ H Q I h
  obtain ⟨v,e,h⟩:=h
  obtain ⟨m,hn,hl⟩:=I.loc
  obtain ⟨u,r,l⟩:=hl i x v hN e hv
  have fin:EP X pins σ Q u s:=⟨v,H,I,r,h⟩
  rcases l with ⟨hk,hm⟩ | ⟨hk,c,hc,hcell⟩
  · exact wpAny_Name (wpAny_loadName_local I.ok.kind hk hn hm fin) hd
  · rcases hk with hk | hk
    · exact wpAny_Name (wpAny_loadName_cell I.ok.kind hk hc hcell fin) hd
    · exact wpAny_Name (wpAny_loadName_free I.ok.kind hk hc hcell fin hcd) hd
theorem pe_int {i j pos}:PE X (.Constant (.int i) j pos) (tC (.int i)):=fun _ _ _ H _ I h=>wpAny_Constant_int ⟨.int i,H,I.tok _,⟨_,rfl⟩,h⟩
theorem pe_bl {b j pos}:PE X (.Constant (.bool b) j pos) (tC (.bl b)):=fun _ _ _ H _ I h=>Constant_bool ⟨.bl b,H,I,rfl,h⟩
theorem pe_non {j pos}:PE X (.Constant .none j pos) (tC .non):=fun _ _ _ H _ I h=>Constant_none ⟨.non,H,I,rfl,h⟩
theorem pe_str {x j pos}:PE X (.Constant (.str x) j pos) (tC (.str x)):=fun _ _ _ H _ I h=>Calls.Constant_str ⟨.str x,H,I.tok _,⟨_,rfl⟩,h⟩
noncomputable def Gl (X:Cx) (x:Str):Prop:=X.env.kindOf x=some .globalImplicit
theorem ld_glob {E:Value→Shared→Prop} {pins:List (Addr×Obj)} {s:Shared} {σ:St} {H:Hp} {x:Str} {u:Value} {pos:Pos} {Q:Value→Shared→Prop} (I:Inv X pins σ H s) (hg:Gl X x) (hm:X.mg x=some u) (h:Q u s)
    (hd:(x==("__debug__" : Str))=false:=by decide):wpAny (model X.prog X.w) X.A (eval (.Name x pos) X.env) Q E s :=
  Calls.Name_function_global I.ok.kind hg (Calls.loadGlobal_global (by rw [I.ok.glob]; exact I.mod.glob.keeps I.bk) hm h) hd
theorem ld_blt {E:Value→Shared→Prop} {pins:List (Addr×Obj)} {s:Shared} {σ:St} {H:Hp} {x:Str} {u:Value} {pos:Pos} {Q:Value→Shared→Prop} (I:Inv X pins σ H s) (hg:Gl X x) (hm:X.mg x=none) (hv:bootBuiltins x=some u) (h:Q u s)
    (hn:x ≠ "__name__" := by decide) (hd:(x==("__debug__" : Str))=false:=by decide):wpAny (model X.prog X.w) X.A (eval (.Name x pos) X.env) Q E s:=by
  obtain ⟨mb,h1,h2⟩:=I.mod.blt
  exact Calls.Name_function_global I.ok.kind hg (Calls.loadGlobal_builtin (by rw [I.ok.glob]; exact I.mod.glob.keeps I.bk) hm (by rw [I.ok.blt]; exact h1.keeps I.bk) ((h2 x hn).trans hv) h) hd
theorem pe_glob {x:Str} {v:V} {u:Value} {pos:Pos} (hg:Gl X x) (hm:X.mg x=some u) (r:RelV v u) (hd:(x==("__debug__" : Str))=false:=by decide):PE X (.Name x pos) (tC v) :=
  fun _ _ _ H _ I h=>ld_glob I hg hm ⟨v,H,I,r,h⟩ hd
noncomputable def t2I (ta tb:TE) (k:Int→Int→Hp→Prop):St→Hp→Prop:=fun σ H=>ta σ H fun x H1=>tb σ H1 fun y H2=>∃ i j,x=.int i∧y=.int j∧k i j H2
noncomputable def tAdd (ta tb:TE):TE:=fun σ H Q=>t2I ta tb (fun i j H2=>Q (.int (i+j)) H2) σ H
noncomputable def tSub (ta tb:TE):TE:=fun σ H Q=>t2I ta tb (fun i j H2=>Q (.int (i - j)) H2) σ H
noncomputable def tMul (ta tb:TE):TE:=fun σ H Q=>t2I ta tb (fun i j H2=>(-(2 ^ 64) < i∧i < 2 ^ 64)∧Q (.int (i*j)) H2) σ H
variable {a b:Expr} {ta tb:TE} {pos:Pos}
noncomputable def PC (X:Cx) (op:CmpOp) (a b:Expr) (t:TE):Prop :=
  ∀ (pins:List (Addr×Obj)) (s:Shared) (σ:St) (H:Hp) (Q:VK),Inv X pins σ H s→t σ H Q →
    wpAny (model X.prog X.w) X.A (eval a X.env) (fun v s₁=>wpAny (model X.prog X.w) X.A (eval b X.env) (fun u s₂=>wpAny (model X.prog X.w) X.A (compareOp op v u) (EP X pins σ Q) X.xe s₂) X.xe s₁) X.xe s
noncomputable def tCmp (p:Int→Int→Bool) (ta tb:TE):TE:=fun σ H Q=>t2I ta tb (fun i j H2=>Q (.bl (p i j)) H2) σ H
noncomputable abbrev tLt:TE→TE→TE:=tCmp fun i j=>decide (i < j)
noncomputable abbrev tLe:TE→TE→TE:=tCmp fun i j=>decide (i≤j)
noncomputable abbrev tGt:TE→TE→TE:=tCmp fun i j=>decide (j < i)
noncomputable abbrev tGe:TE→TE→TE:=tCmp fun i j=>decide (j≤i)
noncomputable abbrev tEqI:TE→TE→TE:=tCmp fun i j=>decide (i=j)
noncomputable abbrev tNeI:TE→TE→TE:=tCmp fun i j=>!decide (i=j)
noncomputable def tIsN (ta:TE):TE:=fun σ H Q=>ta σ H fun x H1=>Q (.bl (decide (x=.non))) H1
noncomputable def tNotN (ta:TE):TE:=fun σ H Q=>ta σ H fun x H1=>Q (.bl (!decide (x=.non))) H1
noncomputable def tB (t:TE):TT:=fun σ H Q=>t σ H fun x H1=>∃ c,x=.bl c∧Q c H1
theorem pt_val {e:Expr} {t:TE} (h:PE X e t) (he:∀ whole,isTrue e X.env whole=(do let v ← whole; standAt e.pos; holding [v] (truthy v)):=by intro _; rfl):PT X e (tB t):=by
  intro pins s σ H Q I hw
  refine isTrue_plain (thn (h pins s σ H _ I hw) fun v s1 ⟨x,H1,I1,r1,q1⟩=>?_) (he _)
  obtain ⟨d,rfl,q⟩:=q1
  cases r1
  exact wpAny_truthy_bool ⟨H1,I1,q⟩
variable {tA tB':TT} {rest:List Expr}
noncomputable def tAnd (t u:TT):TT:=fun σ H Q=>t σ H fun c H1=>if c=true then u σ H1 Q else Q false H1
noncomputable def tOr (t u:TT):TT:=fun σ H Q=>t σ H fun c H1=>if c=true then Q true H1 else u σ H1 Q
noncomputable def tNot (t:TT):TT:=fun σ H Q=>t σ H fun c H1=>Q (!c) H1
theorem pw_and1 (ha:PT X a tA):PW X (.BoolOp .And [a] pos) tA:=by
  intro wh pins s σ H Q I h
  refine isTrue_and (thn (ha pins s σ H Q I h) fun c s1 e=>?_)
  cases c with
  | true=>exact isTrue_and_nil e
  | false=>exact e
theorem pw_and (ha:PT X a tA) (hb:PW X (.BoolOp .And (b::rest) pos) tB'):PW X (.BoolOp .And (a::b::rest) pos) (tAnd tA tB'):=by
  intro wh pins s σ H Q I h
  refine isTrue_and (thn (ha pins s σ H _ I h) fun c s1 ⟨H1,I1,q1⟩=>?_)
  cases c with
  | true=>exact hb wh pins s1 σ H1 Q I1 q1
  | false=>exact ⟨H1,I1,q1⟩
theorem pt_not (ha:PT X a tA):PT X (.UnaryOp .Not a pos) (tNot tA):=by
  intro pins s σ H Q I h
  exact isTrue_not (ha pins s σ H (fun c H1=>Q (!c) H1) I h)
noncomputable def tAndV (ta tb:TE):TE:=fun σ H Q=>ta σ H fun x H1=>∃ c,x=.bl c∧if c=true then tb σ H1 Q else Q (.bl false) H1
noncomputable def tOrV (ta tb:TE):TE:=fun σ H Q=>ta σ H fun x H1=>∃ c,x=.bl c∧if c=true then Q (.bl true) H1 else tb σ H1 Q
noncomputable def tNotV (ta:TE):TE:=fun σ H Q=>ta σ H fun x H1=>∃ c,x=.bl c∧Q (.bl (!c)) H1
theorem pe_one {op} {t:TE} (h:PE X a t):PE X (.BoolOp op [a] pos) t:=fun pins s σ H Q I hw=>BoolOp_one (h pins s σ H Q I hw)
theorem pe_and (ha:PE X a ta) (hb:PE X (.BoolOp .And (b::rest) pos) tb):PE X (.BoolOp .And (a::b::rest) pos) (tAndV ta tb):=by
  intro pins s σ H Q I h
  refine BoolOp_and (thn (ha pins s σ H _ I h) fun v s1 ⟨x,H1,I1,r1,q1⟩=>?_)
  obtain ⟨c,rfl,q1⟩:=q1
  cases r1
  refine wpAny_truthy_bool ?_
  cases c with
  | true=>exact hb pins s1 σ H1 Q I1 q1
  | false=>exact ⟨.bl false,H1,I1,rfl,q1⟩
theorem pe_not (ha:PE X a ta):PE X (.UnaryOp .Not a pos) (tNotV ta):=by
  intro pins s σ H Q I h
  refine UnaryOp_ (thn (ha pins s σ H _ I h) fun v s1 ⟨x,H1,I1,r1,q1⟩=>?_)
  obtain ⟨c,rfl,q1⟩:=q1
  cases r1
  exact not_of (wpAny_truthy_bool ⟨.bl (!c),H1,I1,rfl,q1⟩)
noncomputable def tIf (t:TT) (ta tb:TE):TE:=fun σ H Q=>t σ H fun c H1=>if c=true then ta σ H1 Q else tb σ H1 Q
theorem pe_ifExp {c:Expr} (hc:PT X c tA) (ha:PE X a ta) (hb:PE X b tb):PE X (.IfExp c a b pos) (tIf tA ta tb):=by
  intro pins s σ H Q I h
  refine wpAny_IfExp (thn (hc pins s σ H _ I h) fun d s1 ⟨H1,I1,q1⟩=>?_)
  cases d with
  | true=>exact ha pins s1 σ H1 Q I1 q1
  | false=>exact hb pins s1 σ H1 Q I1 q1
end
end L2
namespace L2
open PySem PySem.Spec PyProof.Rows
noncomputable def SqL (K:PySem.W.Frag) (H:Hp) (a:Addr) (xs:List V):Prop :=
  Rd H a (.lst xs) ∨
    ∃ (o:Obj) (its:Array Value) (n:Nat),K.lookup a=some o∧o.cls=.type "list" ∧ o.dict=none∧o.data=.seq its n∧its.size≤sizeLine∧Vals xs its.toList
noncomputable def SqT (K:PySem.W.Frag) (H:Hp) (a:Addr) (xs:List V):Prop :=
  Rd H a (.tup xs) ∨
    ∃ (o:Obj) (its:Array Value) (n:Nat),K.lookup a=some o∧o.cls=.type "tuple" ∧ o.data=.seq its n∧its.size≤sizeLine∧Vals xs its.toList
noncomputable def absV:Value→Option V
  | .none=>some .non
  | .bool b=>some (.bl b)
  | .int i _=>some (.int i)
  | .str x _=>some (.str x)
  | .bytes b _=>some (.byt b)
  | .float b _=>some (.flt b)
  | .ref a=>some (.ref a)
  | .type n=>some (.ty n)
  | _=>none
theorem RelV.abs {x:V} {u:Value} (r:RelV x u):absV u=some x:=by
  cases x with
  | non=>cases r; rfl
  | bl _=>cases r; rfl
  | int _=>obtain ⟨t,rfl⟩:=r; rfl
  | str _=>obtain ⟨t,rfl⟩:=r; rfl
  | byt _=>obtain ⟨t,rfl⟩:=r; rfl
  | flt _=>obtain ⟨t,rfl⟩:=r; rfl
  | ref _=>cases r; rfl
  | ty _=>cases r; rfl
theorem RelV.inj {x y:V} {u:Value} (r:RelV x u) (q:RelV y u):x=y:=Option.some.inj (r.abs.symm.trans q.abs)
theorem Vals.inj:∀ {xs ys:List V} {us:List Value},Vals xs us→Vals ys us→xs=ys
  | _,_,_,.nil,.nil=>rfl
  | _,_,_,.cons r t,.cons r' t'=>by rw [r.inj r',Vals.inj t t']
section
variable {X:Cx} {pins:List (Addr×Obj)} {σ:St} {H:Hp} {s:Shared} {a:Addr} {xs ys:List V}
theorem SqL.of {K:PySem.W.Frag} (h:H a=some (.lst xs)):SqL K H a xs:=.inl (.inl h)
theorem SqT.of {K:PySem.W.Frag} (h:H a=some (.tup xs)):SqT K H a xs:=.inl (.inl h)
theorem Inv.list (I:Inv X pins σ H s) (h:SqL X.K H a xs):∃ its:List Value,Vals xs its∧PlainL s.heap a its.toArray∧xs.length≤sizeLine:=by
  rcases h with h | ⟨o,its,n,hk,hc,hd,hs,hz,r⟩
  · obtain ⟨z,its,n,r,e⟩:=h.ok I.hok
    exact ⟨its,r,⟨_,n,e,rfl,rfl,rfl⟩,z⟩
  · refine ⟨its.toList,r,⟨o,n,I.kIn a o hk,hc,hd,by simpa using hs⟩,?_⟩
    have e:=r.length
    simp only [Array.length_toList] at e
    omega
theorem Inv.tuple (I:Inv X pins σ H s) (h:SqT X.K H a xs):∃ its:List Value,Vals xs its∧IsTup s.heap a its.toArray∧xs.length≤sizeLine:=by
  rcases h with h | ⟨o,its,n,hk,hc,hs,hz,r⟩
  · obtain ⟨z,its,r,p⟩:=h.ok I.hok
    exact ⟨its,r,p,z⟩
  · refine ⟨its.toList,r,⟨o,I.kIn a o hk,hc,n,by simpa using hs⟩,?_⟩
    have e:=r.length
    simp only [Array.length_toList] at e
    omega
theorem Inv.list_inj (I:Inv X pins σ H s) (h:SqL X.K H a xs) (h':SqL X.K H a ys):xs=ys:=by
  obtain ⟨its,r,⟨o,n,e,_,_,d⟩,_⟩:=I.list h
  obtain ⟨its',r',⟨o',n',e',_,_,d'⟩,_⟩:=I.list h'
  rw [e] at e'; cases e'
  rw [d] at d'
  injection d' with d1 _
  have:its=its':=by simpa using congrArg Array.toList d1
  subst this
  exact r.inj r'
theorem Inv.tuple_inj (I:Inv X pins σ H s) (h:SqT X.K H a xs) (h':SqT X.K H a ys):xs=ys:=by
  obtain ⟨its,r,⟨o,e,_,n,d⟩,_⟩:=I.tuple h
  obtain ⟨its',r',⟨o',e',_,n',d'⟩,_⟩:=I.tuple h'
  rw [e] at e'; cases e'
  rw [d] at d'
  injection d' with d1 _
  have:its=its':=by simpa using congrArg Array.toList d1
  subst this
  exact r.inj r'
end
noncomputable abbrev Cx.wish (X:Cx) (E:Value→Shared→Prop):Cx:={ X with xe:=E }
noncomputable abbrev Cx.nox (X:Cx):Cx:=X.wish fun _ _=>False
theorem Cx.Ok.wish {X:Cx} (ok:X.Ok) (E:Value→Shared→Prop):(X.wish E).Ok :=
  ⟨ok.mod,ok.kind,ok.glob,ok.blt,ok.above,ok.inj,ok.has,ok.cab,ok.hd,ok.frames,ok.stk,ok.exf,ok.bs,ok.bsz,ok.noex,ok.exfs,ok.funs,ok.frf⟩
theorem Cx.Ok.unwish {X:Cx} {E:Value→Shared→Prop} (ok:(X.wish E).Ok):X.Ok :=
  ⟨ok.mod,ok.kind,ok.glob,ok.blt,ok.above,ok.inj,ok.has,ok.cab,ok.hd,ok.frames,ok.stk,ok.exf,ok.bs,ok.bsz,ok.noex,ok.exfs,ok.funs,ok.frf⟩
section
variable {X:Cx} {pins:List (Addr×Obj)} {σ:St} {H:Hp} {s:Shared} {E:Value→Shared→Prop}
theorem Inv.wish (I:Inv X pins σ H s) (E:Value→Shared→Prop):Inv (X.wish E) pins σ H s:=⟨I.ok.wish E,I.os,I.bare,I.base,I.loc,I.cell,I.free,I.freeC,I.pin,I.hok,I.len⟩
theorem Inv.unwish (I:Inv (X.wish E) pins σ H s):Inv X pins σ H s:=⟨I.ok.unwish,I.os,I.bare,I.base,I.loc,I.cell,I.free,I.freeC,I.pin,I.hok,I.len⟩
theorem SP.unwish {D:Ends} {f:Flow} {s':Shared} (h:SP (X.wish E) pins D f s'):SP X pins D f s':=by
  cases f with
  | next=>obtain ⟨σ',H',I,q⟩:=h; exact ⟨σ',H',I.unwish,q⟩
  | brk=>obtain ⟨σ',H',I,q⟩:=h; exact ⟨σ',H',I.unwish,q⟩
  | cont=>obtain ⟨σ',H',I,q⟩:=h; exact ⟨σ',H',I.unwish,q⟩
  | ret u=>obtain ⟨v,σ',H',I,r,q⟩:=h; exact ⟨v,σ',H',I.unwish,r,q⟩
theorem PSs.nox {st:List Stmt} {t:TS} (h:PSs X.nox st t):PSs X st t:=fun pins s σ H D I hw =>
  wpAny_mono (h pins s σ H D (I.wish _) hw) (fun _ _ q=>q.unwish) fun _ _ z=>False.elim z
end
section
variable {X:Cx} {st:Stmt} {rest:List Stmt} {t u:TS} {e:Expr} {te:TE} {pos:Pos}
noncomputable def tNext:TS:=fun D σ H=>D.nx σ H
noncomputable def tSeq (t u:TS):TS:=fun D σ H=>t { D with nx:=u D } σ H
theorem pss_nil:PSs X [] tNext:=fun _ _ σ H _ I h=>wpAny_execs_nil ⟨σ,H,I,h⟩
theorem pss_cons (h1:PS X st t) (h2:PSs X rest u):PSs X (st::rest) (tSeq t u):=by
  intro pins s σ H D I h
  refine wpAny_execs_cons (thn (h1 pins s σ H { D with nx:=u D } I h) fun f s1 q=>?_)
  cases f with
  | next =>
    obtain ⟨σ',H',I',q⟩:=q
    exact h2 pins s1 σ' H' D I' q
  | ret v=>exact q
  | brk=>exact q
  | cont=>exact q
theorem pss_one (h1:PS X st t):PSs X [st] t:=by
  intro pins s σ H D I h
  refine wpAny_execs_cons (thn (h1 pins s σ H D I h) fun f s1 q=>?_)
  cases f with
  | next=>exact wpAny_execs_nil q
  | ret v=>exact q
  | brk=>exact q
  | cont=>exact q
noncomputable def tBreak:TS:=fun D σ H=>D.bk σ H
noncomputable def tCont:TS:=fun D σ H=>D.ct σ H
theorem ps_break:PS X (.Break pos) tBreak:=fun _ _ σ H _ I h=>wpAny_Break ⟨σ,H,I,h⟩
theorem Inv.quiet {pins:List (Addr×Obj)} {σ:St} {H:Hp} {s:Shared} (I:Inv X pins σ H s):interactive X.env=false:=by simp [interactive,I.ok.kind]
noncomputable def tDrop (te:TE):TS:=fun D σ H=>te σ H fun _ H1=>D.nx σ H1
theorem ps_expr (he:PE X e te) (hs:swapsWith e none pos.line X.env=pure false:=by rfl):PS X (.Expr e pos) (tDrop te):=by
  intro pins s σ H D I h
  exact wpAny_Expr_any (thn (he pins s σ H _ I h) fun v s1 ⟨x,H1,I1,r1,q1⟩=>⟨σ,H1,I1,q1⟩) I.quiet hs
noncomputable def tRet (te:TE):TS:=fun D σ H=>te σ H D.rt
theorem ps_ret (he:PE X e te):PS X (.Return (some e) pos) (tRet te):=by
  intro pins s σ H D I h
  exact wpAny_Return_some (thn (he pins s σ H _ I h) fun v s1 ⟨x,H1,I1,r1,q1⟩=>⟨x,σ,H1,I1,r1,q1⟩)
noncomputable def tRetN:TS:=fun D _ H=>D.rt .non H
noncomputable def tIfS (c:TT) (t u:TS):TS:=fun D σ H=>c σ H fun b H1=>if b=true then t D σ H1 else u D σ H1
theorem ps_if {c:Expr} {a b:List Stmt} {tc:TT} (hc:PT X c tc) (ha:PSs X a t) (hb:PSs X b u):PS X (.If c a b pos) (tIfS tc t u):=by
  intro pins s σ H D I h
  refine wpAny_If (thn (hc pins s σ H _ I h) fun d s1 ⟨H1,I1,q1⟩=>?_)
  cases d with
  | true=>exact ha pins s1 σ H1 D I1 q1
  | false=>exact hb pins s1 σ H1 D I1 q1
noncomputable def tNever:TS:=fun _ _ _=>False
theorem ps_never:PS X st tNever:=fun _ _ _ _ _ _ h=>h.elim
end
noncomputable abbrev TG:=V→St→Hp→(St→Hp→Prop)→Prop
noncomputable abbrev TGs:=List V→St→Hp→(St→Hp→Prop)→Prop
noncomputable def PG (X:Cx) (target:Expr) (t:TG):Prop :=
  ∀ (pins:List (Addr×Obj)) (s:Shared) (σ:St) (H:Hp) (v:V) (u:Value) (Q:St→Hp→Prop),Inv X pins σ H s→RelV v u→t v σ H Q →
    wpAny (model X.prog X.w) X.A (assign target X.env u) (fun _ s'=>∃ σ' H',Inv X pins σ' H' s'∧Q σ' H') X.xe s
noncomputable def PGs (X:Cx) (ts:List Expr) (t:TGs):Prop :=
  ∀ (pins:List (Addr×Obj)) (s:Shared) (σ:St) (H:Hp) (vs:List V) (us:List Value) (Q:St→Hp→Prop),Inv X pins σ H s→Vals vs us→t vs σ H Q →
    wpAny (model X.prog X.w) X.A (assignInOrder ((assignEach ts X.env).map (·.2)) us) (fun _ s'=>∃ σ' H',Inv X pins σ' H' s'∧Q σ' H') X.xe s
noncomputable abbrev TSet:=V→V→V→Hp→(Hp→Prop)→Prop
noncomputable def PSet (X:Cx) (t:TSet):Prop :=
  ∀ (pins:List (Addr×Obj)) (s:Shared) (σ:St) (H:Hp) (o i v:V) (ov iv u:Value) (Q:Hp→Prop),Inv X pins σ H s→RelV o ov→RelV i iv→RelV v u→t o i v H Q →
    wpAny (model X.prog X.w) X.A (setItem ov iv u) (fun _ s'=>∃ H',Inv X pins σ H' s'∧Q H') X.xe s
noncomputable abbrev TIp:=V→V→Hp→VK→Prop
noncomputable def PIp (X:Cx) (op:Operator) (t:TIp):Prop :=
  ∀ (pins:List (Addr×Obj)) (s:Shared) (σ:St) (H:Hp) (x y:V) (v u:Value) (Q:VK),Inv X pins σ H s→RelV x v→RelV y u→t x y H Q →
    wpAny (model X.prog X.w) X.A (inplaceOp op v u) (EP X pins σ Q) X.xe s
section
variable {X:Cx} {pos:Pos}
noncomputable def gName (i:Nat):TG:=fun v σ H Q=>Q (σ.set i (some v)) H
theorem pg_name {i:Nat} {x:Str} (hN:X.N.Nodup) (hi:X.N[i]?=some x) (hx:Loc X.env.scope x) (hf:X.fn x=true∨X.env.scope.names.lookup x=some .local:=by first | exact .inl rfl | exact .inr rfl | assumption):PG X (.Name x pos) (gName i):=by
  intro pins s σ H v u Q I r h
  exact wpAny_assign_Name (store_ok I hN hi hx r (fun s' I'=>⟨_,H,I',h⟩) hf)
noncomputable def gNil:TGs:=fun vs σ H Q=>vs=[]∧Q σ H
noncomputable def gCons (t:TG) (u:TGs):TGs:=fun vs σ H Q=>∃ v r,vs=v::r∧t v σ H fun σ' H'=>u r σ' H' Q
theorem pgs_nil:PGs X [] gNil:=by
  intro pins s σ H vs us Q I r h
  obtain ⟨e,h⟩:=h
  subst e
  cases r
  exact assignInOrder_nil ⟨σ,H,I,h⟩
theorem pgs_cons {e:Expr} {es:List Expr} {t:TG} {u:TGs} (h1:PG X e t) (h2:PGs X es u)
    (hs:(assignEach (e::es) X.env).map (·.2)=assign e X.env::(assignEach es X.env).map (·.2):=by rfl):PGs X (e::es) (gCons t u):=by
  intro pins s σ H vs us Q I r h
  obtain ⟨v,vr,e1,h⟩:=h
  subst e1
  cases r with
  | cons r rr =>
    rw [hs]
    refine assignInOrder_cons (thn (h1 pins s σ H _ _ _ I r h) fun _ s1 ⟨σ1,H1,I1,q1⟩=>?_)
    exact h2 pins s1 σ1 H1 _ _ Q I1 rr q1
noncomputable def gTup (K:PySem.W.Frag) (n:Nat) (t:TGs):TG:=fun v σ H Q=>∃ a xs,v=.ref a∧SqT K H a xs∧xs.length=n∧t xs σ H Q
theorem pg_tup {es:List Expr} {k:Nat} {t:TGs} {n:Nat} (hc:X.calm=true) (h:PGs X es t)
    (hn:(assignEach es X.env).length=n:=by rfl) (hst:(assignEach es X.env).findIdx? (·.1)=none:=by rfl):PG X (.Tuple es k pos) (gTup X.K n t):=by
  intro pins s σ H v u Q I r hw
  obtain ⟨a,xs,e1,hq,hl,hw⟩:=hw
  subst e1
  cases r
  obtain ⟨its,rv,ht,hz⟩:=I.tuple hq
  refine assign_Tuple_tuple (I.ok.hd hc) ht (by simp [hn,← hl,rv.length]) hst fun h' hx=>?_
  have I1:Inv X pins σ H { s with heap:=h' }:=I.kept (t':=s.toks) fun b o e=>hx b o (Nat.ne_of_lt (Heap.lt_size e)) e
  exact h pins _ σ H xs _ Q I1 (by simpa using rv) hw
noncomputable def gSub (to ti:TE) (t:TSet):TG:=fun v σ H Q=>to σ H fun o H1=>ti σ H1 fun i H2=>t o i v H2 fun H3=>Q σ H3
noncomputable def tAsg (te:TE) (g:TG):TS:=fun D σ H=>te σ H fun x H1=>g x σ H1 D.nx
theorem ps_set {i:Nat} {x:Str} {e:Expr} {te:TE} {pos':Pos} (hN:X.N.Nodup) (hi:X.N[i]?=some x) (hx:Loc X.env.scope x) (he:PE X e te) (hs:swapsWith e (some (.Name x pos')) pos.line X.env=pure false:=by rfl) (hf:X.fn x=true∨X.env.scope.names.lookup x=some .local:=by first | exact .inl rfl | exact .inr rfl | assumption) :
    PS X (.Assign [.Name x pos'] e pos) (tAsg te (gName i)):=by
  intro pins s σ H D I h
  refine wpAny_Assign_Name (thn (he pins s σ H _ I h) fun v s1 ⟨y,H1,I1,r1,q1⟩=>?_) hs
  exact store_ok I1 hN hi hx r1 (fun s2 I2=>⟨_,H1,I2,q1⟩) hf
noncomputable def tPar (i j:Nat) (ta:TA):TS:=fun D σ H=>ta σ H fun vs H1=>∃ v w,vs=[v,w]∧D.nx ((σ.set i (some v)).set j (some w)) H1
noncomputable def tAug (i:Nat) (te:TE) (ti:TIp):TS:=fun D σ H=>∃ x,σ[i]?=some (some x)∧te σ H fun y H1=>ti x y H1 fun z H2=>D.nx (σ.set i (some z)) H2
noncomputable def tAugS (to ti te:TE) (tget:V→V→Hp→VK→Prop) (tip:TIp) (tset:TSet):TS:=fun D σ H=>to σ H fun o H1=>ti σ H1 fun i H2=>tget o i H2 fun x H3=>te σ H3 fun y H4=>tip x y H4 fun z H5=>tset o i z H5 fun H6=>D.nx σ H6
noncomputable def PGet (X:Cx) (t:V→V→Hp→VK→Prop):Prop :=
  ∀ (pins:List (Addr×Obj)) (s:Shared) (σ:St) (H:Hp) (o i:V) (ov iv:Value) (Q:VK),Inv X pins σ H s→RelV o ov→RelV i iv→t o i H Q →
    wpAny (model X.prog X.w) X.A (getItem ov iv) (EP X pins σ Q) X.xe s
noncomputable def ipI (f:Int→Int→Int):TIp:=fun x y H Q=>∃ i j,x=.int i∧y=.int j∧Q (.int (f i j)) H
end
section
variable {X:Cx} {pos:Pos}
noncomputable def tWhile (c:TT) (tb:TS):TS:=fun D σ H=>∃ W:Nat→St→Hp→Prop,(∃ m,W m σ H)∧∀ m σ H,W m σ H →
  c σ H fun b H1=>if b=true then ∃ N:St→Hp→Prop,(∀ σ' H',N σ' H'→∃ m',m' < m∧W m' σ' H')∧tb { D with nx:=N,ct:=N,bk:=D.nx } σ H1 else D.nx σ H1
end
structure It where
  go:Nat→Hp→Prop
  yld:Nat→Hp→V→Hp→Prop
  stop:Nat→Hp→Prop
noncomputable def FpOk (X:Cx) (pins:List (Addr×Obj)) (H:Hp) (b:Addr):Prop :=
  H b=none∧b≠X.env.locals∧b∉X.fs∧(b∈X.ex∨X.s₀.heap.objs.size≤b)∧(∀ x c,X.env.cells.lookup x=some c→c≠b)∧∀ p∈X.pn++pins,p.1≠b
theorem Inv.fpOk {X:Cx} {pins:List (Addr×Obj)} {σ:St} {H H':Hp} {s:Shared} {b:Addr} (I:Inv X pins σ H s) (hb:s.heap.objs.size≤b) (hn:H' b=none):FpOk X pins H' b:=by
  refine ⟨hn,Nat.ne_of_gt (Nat.lt_of_lt_of_le I.lt hb),I.nofs hb,.inr (Nat.le_trans I.sz hb),fun x c e z=>?_,fun p hp z=>?_⟩
  · obtain ⟨v,q⟩:=I.cell x c e
    exact absurd (Nat.lt_of_lt_of_le q.lt (by rw [z]; exact hb)) (Nat.lt_irrefl _)
  · exact absurd (Nat.lt_of_lt_of_le (Heap.lt_size (I.pin p hp).1) (by rw [z]; exact hb)) (Nat.lt_irrefl _)
structure Turn (P:Program) (w:World) (K:PySem.W.Frag) (tg:Expr) (J:It) (fp:List Addr) (it:Addr) (tn:Nat→Heap→Prop):Prop where
  mem:it∈fp
  obj:∀ i h,tn i h→∀ b∈fp,∃ o,h.get? b=some o∧∀ v,o.data≠.cell v
  keep:∀ i h h',tn i h→(∀ b∈fp,∀ o,h.get? b=some o→h'.get? b=some o)→tn i h'
  item:∀ (X:Cx),X.prog=P→X.w=w→X.K=K→X.calm=true→∀ (i:Nat) (pins:List (Addr×Obj)) (s:Shared) (σ:St) (H:Hp) (E:Value→Shared→Prop),Inv X pins σ H s→(∀ b∈fp,FpOk X pins H b)→tn i s.heap→J.go i H →
    wpAny (model P w) X.A (pyNext (.ref it)) (fun r s1=>∃ u,r=some u ∧
      wpAny (model P w) X.A (letOwnedTupleGo tg (.ref it) u) (fun _ s2=>∃ x H',Inv X pins σ H' s2∧RelV x u∧J.yld i H x H'∧tn (i+1) s2.heap∧∀ b∈fp,H' b=none) E s1) E s
  done:∀ (X:Cx),X.prog=P→X.w=w→X.K=K→X.calm=true→∀ (i:Nat) (pins:List (Addr×Obj)) (s:Shared) (σ:St) (H:Hp) (E:Value→Shared→Prop),Inv X pins σ H s→(∀ b∈fp,FpOk X pins H b)→tn i s.heap→J.stop i H →
    wpAny (model P w) X.A (pyNext (.ref it)) (fun r s1=>r=none∧Inv X pins σ H s1) E s
  self:∀ (A:Around) (i:Nat) (s:Shared) (Q:Value→Shared→Prop) (E:Value→Shared→Prop),tn i s.heap→Q (.ref it) s→wpAny (model P w) A (pyIter (.ref it)) Q E s
noncomputable abbrev TI:=St→Hp→(It→Hp→Prop)→Prop
noncomputable def PIE (X:Cx) (pins:List (Addr×Obj)) (σ:St) (tg:Expr) (R:It→Hp→Prop) (itv:Value) (s2:Shared):Prop :=
  ∃ (it:Addr) (fp:List Addr) (tn:Nat→Heap→Prop) (J:It) (H':Hp),itv=.ref it∧Inv X pins σ H' s2∧Turn X.prog X.w X.K tg J fp it tn∧tn 0 s2.heap∧(∀ b∈fp,FpOk X pins H' b)∧R J H'
noncomputable def PI (X:Cx) (tg iter:Expr) (wi:TI):Prop :=
  ∀ (pins:List (Addr×Obj)) (s:Shared) (σ:St) (H:Hp) (R:It→Hp→Prop),Inv X pins σ H s→wi σ H R →
    wpAny (model X.prog X.w) X.A (eval iter X.env) (fun v s1=>wpAny (model X.prog X.w) X.A (pyIter v) (PIE X pins σ tg R) X.xe s1) X.xe s
theorem go_of {M:Model} {A:Around} {E:Value→Shared→Prop} {s:Shared} {tg:Expr} {it:Addr} {u:Value} {o:Obj} {n:String} {vs:Array Value} {Q:Unit→Shared→Prop} (ho:s.heap.get? it=some o) (hc:o.cls=.type n) (hd:o.data=.fields vs)
    (hn:["enumerate", "zip", "dict_itemiterator", "dict_reverseitemiterator", "odict_iterator", "itertools.zip_longest", "itertools.pairwise"].contains n=false) (hQ:Q () s):wpAny M A (letOwnedTupleGo tg (.ref it) u) Q E s:=by
  unfold letOwnedTupleGo
  cases tg <;> first
    | exact wpAny_pure hQ
    | (cases u <;> first
        | exact wpAny_pure hQ
        | (refine wpAny_bind (wpAny_load ho ?_)
           rw [hc,hd]
           show wpAny M A (if (["enumerate", "zip", "dict_itemiterator", "dict_reverseitemiterator", "odict_iterator", "itertools.zip_longest", "itertools.pairwise"].contains n&&vs[0]?==some (rawInt _))=true then _ else _) Q E s
           rw [if_neg (by intro h; rw [hn,Bool.false_and] at h; cases h)]
           exact wpAny_pure hQ))
noncomputable def Itl (K:PySem.W.Frag) (a:Addr):It :=
  ⟨fun i H=>∃ xs x,SqL K H a xs∧xs[i]?=some x,fun i H x H'=>H'=H∧∀ xs,SqL K H a xs→xs[i]?=some x,fun i H=>∃ xs,SqL K H a xs∧xs.length≤i⟩
noncomputable def Itt (K:PySem.W.Frag) (a:Addr):It :=
  ⟨fun i H=>∃ xs x,SqT K H a xs∧xs[i]?=some x,fun i H x H'=>H'=H∧∀ xs,SqT K H a xs→xs[i]?=some x,fun i H=>∃ xs,SqT K H a xs∧xs.length≤i⟩
noncomputable def Itr (lo:Int) (n:Nat):It:=⟨fun i _=>i < n,fun i H x H'=>H'=H∧x=.int (lo+i),fun i _=>n≤i⟩
theorem turn_list {P:Program} {w:World} {K:PySem.W.Frag} {tg:Expr} (a it:Addr):Turn P w K tg (Itl K a) [it] it (fun i h=>h.IsListIter it a i) where
  mem:=by simp
  obj:=fun i h st b hb=>by
    have e:b=it:=by simpa using hb
    subst e
    obtain ⟨o,e,c,d⟩:=st
    exact ⟨o,e,fun v z=>by rw [d] at z; cases z⟩
  keep:=fun i h h' st k=>st.at fun o e=>k it (by simp) o e
  item:=by
    intro X hP hw hK hc i pins s σ H E I hf st hg
    subst hP hw hK
    obtain ⟨xs,x,hq,hx⟩:=hg
    obtain ⟨its,rv,p,hz⟩:=I.list hq
    obtain ⟨u,hu,ru⟩:=rv.get hx
    obtain ⟨f0,f1,f2,f3,f4,f5⟩:=hf it (by simp)
    refine wpAny_pyNext_list_item st p.isList (x:=u) (by simpa using hu) fun h' st' sb=>?_
    have I1:Inv X pins σ H { s with heap:=h' }:=I.turned (t':=s.toks) (fun b o hb e=>(sb.2 b hb).trans e) f0 f1 f3 f4 f5
    obtain ⟨o,e,c,d⟩:=id st'
    exact ⟨u,rfl,go_of (s:={ s with heap:=h' }) e c d (by decide) ⟨x,H,I1,ru,⟨rfl,fun ys hy=>by rw [I.list_inj hy hq]; exact hx⟩,st',fun b hb=>(hf b hb).1⟩⟩
  done:=by
    intro X hP hw hK hc i pins s σ H E I hf st hg
    subst hP hw hK
    obtain ⟨xs,hq,hx⟩:=hg
    obtain ⟨its,rv,p,hz⟩:=I.list hq
    obtain ⟨f0,f1,f2,f3,f4,f5⟩:=hf it (by simp)
    have hl:=rv.length
    exact wpAny_pyNext_list_end (I.ok.hd hc) st p.isList (by simp; omega) fun h' eb=>⟨rfl,I.turned (t':=s.toks) (fun b o hb e=>eb b o hb e) f0 f1 f3 f4 f5⟩
  self:=fun _ _ _ _ _ st h=>wpAny_pyIter_listiter st h
theorem turn_tuple {P:Program} {w:World} {K:PySem.W.Frag} {tg:Expr} (a it:Addr):Turn P w K tg (Itt K a) [it] it (fun i h=>h.IsTupleIter it a i) where
  mem:=by simp
  obj:=fun i h st b hb=>by
    have e:b=it:=by simpa using hb
    subst e
    obtain ⟨o,e,c,d⟩:=st
    exact ⟨o,e,fun v z=>by rw [d] at z; cases z⟩
  keep:=fun i h h' st k=>st.at fun o e=>k it (by simp) o e
  item:=by
    intro X hP hw hK hc i pins s σ H E I hf st hg
    subst hP hw hK
    obtain ⟨xs,x,hq,hx⟩:=hg
    obtain ⟨its,rv,p,hz⟩:=I.tuple hq
    obtain ⟨u,hu,ru⟩:=rv.get hx
    obtain ⟨f0,f1,f2,f3,f4,f5⟩:=hf it (by simp)
    refine wpAny_pyNext_tuple_item st (show s.heap.IsTuple a its.toArray from p) (x:=u) (by simpa using hu) fun h' st' sb=>?_
    have I1:Inv X pins σ H { s with heap:=h' }:=I.turned (t':=s.toks) (fun b o hb e=>(sb.2 b hb).trans e) f0 f1 f3 f4 f5
    obtain ⟨o,e,c,d⟩:=id st'
    exact ⟨u,rfl,go_of (s:={ s with heap:=h' }) e c d (by decide) ⟨x,H,I1,ru,⟨rfl,fun ys hy=>by rw [I.tuple_inj hy hq]; exact hx⟩,st',fun b hb=>(hf b hb).1⟩⟩
  done:=by
    intro X hP hw hK hc i pins s σ H E I hf st hg
    subst hP hw hK
    obtain ⟨xs,hq,hx⟩:=hg
    obtain ⟨its,rv,p,hz⟩:=I.tuple hq
    obtain ⟨f0,f1,f2,f3,f4,f5⟩:=hf it (by simp)
    have hl:=rv.length
    exact wpAny_pyNext_tuple_end (I.ok.hd hc) st (show s.heap.IsTuple a its.toArray from p) (by simp; omega) fun h' eb=>⟨rfl,I.turned (t':=s.toks) (fun b o hb e=>eb b o hb e) f0 f1 f3 f4 f5⟩
  self:=fun _ _ _ _ _ st h=>wpAny_pyIter_tupleiter st h
theorem turn_range {P:Program} {w:World} {K:PySem.W.Frag} {tg:Expr} (it:Addr) (lo:Int) (n:Nat):Turn P w K tg (Itr lo n) [it] it (fun i h=>IsRangeIter h it (lo+(i:Nat)*1) ((n:Int) - (i:Nat)) 1) where
  mem:=by simp
  obj:=fun i h st b hb=>by
    have e:b=it:=by simpa using hb
    subst e
    exact ⟨_,st,fun v z=>by
      have z':Data.fields _=Data.cell v:=z
      cases z'⟩
  keep:=fun i h h' st k=>k it (by simp) _ st
  item:=by
    intro X hP hw hK hc i pins s σ H E I hf st hg
    subst hP hw hK
    obtain ⟨f0,f1,f2,f3,f4,f5⟩:=hf it (by simp)
    have W:=Walks.range (prog:=X.prog) (w:=X.w) (I.ok.hd hc) it lo 1 n
    refine W.item i s _ _ hg st fun v h' tk hv st' kk=>?_
    obtain ⟨t,rfl⟩:=hv
    have I1:Inv X pins σ H { s with heap:=h',toks:=tk }:=I.turned (fun b o hb e=>kk b o (by simpa using hb) e) f0 f1 f3 f4 f5
    refine ⟨_,rfl,go_of (s:={ s with heap:=h',toks:=tk }) (n := "range_iterator") st' rfl rfl (by decide) ⟨.int (lo+i),H,I1,⟨t,?_⟩,⟨rfl,rfl⟩,st',fun b hb=>(hf b hb).1⟩⟩
    rw [Int.mul_one]
  done:=by
    intro X hP hw hK hc i pins s σ H E I hf st hg
    subst hP hw hK
    obtain ⟨f0,f1,f2,f3,f4,f5⟩:=hf it (by simp)
    exact wpAny_pyNext_range_end (I.ok.hd hc) st (by have:n≤i:=hg; omega) fun h' eb=>⟨rfl,I.turned (t':=s.toks) (fun b o hb e=>eb b o hb e) f0 f1 f3 f4 f5⟩
  self:=fun _ _ _ _ _ st h=>wpAny_pyIter_rangeiter st h
end L2
namespace L2
open PySem PySem.Spec PyProof.Rows
section
variable {X:Cx} {tg:Expr}
noncomputable def iList (K:PySem.W.Frag) (tl:TE):TI:=fun σ H R=>tl σ H fun x H1=>∃ a,x=.ref a∧(∃ xs,SqL K H1 a xs)∧R (Itl K a) H1
noncomputable def iTup (K:PySem.W.Frag) (tl:TE):TI:=fun σ H R=>tl σ H fun x H1=>∃ a,x=.ref a∧(∃ xs,SqT K H1 a xs)∧R (Itt K a) H1
theorem pi_list {l:Expr} {tl:TE} (hl:PE X l tl):PI X tg l (iList X.K tl):=by
  intro pins s σ H R I h
  refine thn (hl pins s σ H _ I h) fun v s1 ⟨x,H1,I1,r1,q1⟩=>?_
  obtain ⟨a,e,⟨xs,hq⟩,q⟩:=q1
  subst e
  cases r1
  obtain ⟨its,rv,p,hz⟩:=I1.list hq
  refine wpAny_pyIter_list p.isList ?_
  refine ⟨s1.heap.objs.size,[s1.heap.objs.size],_,_,H1,rfl,I1.kept (t':=s1.toks) fun b o e=>Heap.get?_push_of_some _ e,turn_list a _,⟨_,Heap.get?_push_size _ rfl,rfl,rfl⟩,fun b hb=>?_,q⟩
  have e:b=s1.heap.objs.size:=by simpa using hb
  subst e
  exact I1.fpOk (Nat.le_refl _) (I1.hok.fresh (Nat.le_refl _))
theorem pi_tup {l:Expr} {tl:TE} (hl:PE X l tl):PI X tg l (iTup X.K tl):=by
  intro pins s σ H R I h
  refine thn (hl pins s σ H _ I h) fun v s1 ⟨x,H1,I1,r1,q1⟩=>?_
  obtain ⟨a,e,⟨xs,hq⟩,q⟩:=q1
  subst e
  cases r1
  obtain ⟨its,rv,p,hz⟩:=I1.tuple hq
  refine wpAny_pyIter_tuple (show s1.heap.IsTuple a its.toArray from p) ?_
  refine ⟨s1.heap.objs.size,[s1.heap.objs.size],_,_,H1,rfl,I1.kept (t':=s1.toks) fun b o e=>Heap.get?_push_of_some _ e,turn_tuple a _,⟨_,Heap.get?_push_size _ rfl,rfl,rfl⟩,fun b hb=>?_,q⟩
  have e:b=s1.heap.objs.size:=by simpa using hb
  subst e
  exact I1.fpOk (Nat.le_refl _) (I1.hok.fresh (Nat.le_refl _))
theorem range_it {pins:List (Addr×Obj)} {σ:St} {H:Hp} {s:Shared} {R:It→Hp→Prop} {E:Value→Shared→Prop} {lo hi:Int} {t u v:Tok} {tk:Nat} (I:Inv X pins σ H s) (h1:-(2 ^ 62)≤lo) (h2:lo < 2 ^ 62) (h3:-(2 ^ 62)≤hi) (h4:hi < 2 ^ 62)
    (q:R (Itr lo (hi - lo).toNat) H):wpAny (model X.prog X.w) X.A (pyIter (.ref s.heap.objs.size)) (PIE X pins σ tg R) E { s with heap:=s.heap.push { cls:=.type "range", data:=.fields #[.int lo t,.int hi u,.int 1 v] },toks:=tk }:=by
  refine wpAny_pyIter_range (IsRange.new ..) (small_one h1 h2 h3 h4) ?_
  have I1:Inv X pins σ H { s with heap:=s.heap.push { cls:=.type "range", data:=.fields #[.int lo t,.int hi u,.int 1 v] },toks:=tk }:=I.kept fun b o e=>Heap.get?_push_of_some _ e
  refine ⟨(s.heap.push { cls:=.type "range", data:=.fields #[.int lo t,.int hi u,.int 1 v] }).objs.size,[(s.heap.push { cls:=.type "range", data:=.fields #[.int lo t,.int hi u,.int 1 v] }).objs.size],_,_,H,rfl,
    I1.kept (t':=tk) fun b o e=>Heap.get?_push_of_some _ e,turn_range _ lo (hi - lo).toNat,?_,fun b hb=>?_,q⟩
  · have e1:lo+((0:Nat):Int)*1=lo:=by simp
    have e2:(((hi - lo).toNat:Nat):Int) - ((0:Nat):Int)=Builtin.Range.rangeSize lo hi 1:=by rw [rangeSize_one]; split <;> omega
    show IsRangeIter _ _ (lo+((0:Nat):Int)*1) ((((hi - lo).toNat:Nat):Int) - ((0:Nat):Int)) 1
    rw [e1,e2]
    exact Heap.get?_push_size _ rfl
  · have e:b=(s.heap.push { cls:=.type "range", data:=.fields #[.int lo t,.int hi u,.int 1 v] }).objs.size:=by simpa using hb
    subst e
    exact I1.fpOk (Nat.le_refl _) (I1.hok.fresh (Nat.le_refl _))
noncomputable def iRng1 (ta:TA):TI:=fun σ H R=>ta σ H fun vs H1=>∃ j:Int,vs=[.int j]∧-(2 ^ 62)≤j∧j < 2 ^ 62∧R (Itr 0 j.toNat) H1
noncomputable def iRng2 (ta:TA):TI:=fun σ H R=>ta σ H fun vs H1=>∃ i j:Int,vs=[.int i,.int j]∧(-(2 ^ 62)≤i∧i < 2 ^ 62∧-(2 ^ 62)≤j∧j < 2 ^ 62)∧R (Itr i (j - i).toNat) H1
theorem pi_range1 {a:Expr} {ta:TA} {p pos:Pos} (hg:Gl X "range") (hm:X.mg "range" = none) (ha:PA X [a] ta) (hs:starEach [a] X.env=[(false,eval a X.env)]:=by rfl):PI X tg (.Call (.Name "range" p) [a] [] pos) (iRng1 ta):=by
  intro pins s σ H R I h
  refine Call_ (ld_blt I hg hm boot_range (PyProof.Rows.callWith_type1 (thn (ha pos pins s σ H _ I h) fun us s1 ⟨vs,H1,I1,r1,q1⟩=>?_) hs rfl))
  obtain ⟨j,e,q1,q2,q⟩:=q1
  subst e
  cases r1 with
  | cons r rr =>
    cases rr
    obtain ⟨t,rfl⟩:=r
    exact call_range_1 (range_it I1 (by omega) (by omega) q1 q2 (by simpa using q))
noncomputable def tFor (wi:TI) (g:TG) (tb:TS):TS:=fun D σ H=>wi σ H fun J H1=>∃ W:Nat→Nat→St→Hp→Prop,(∃ m,W 0 m σ H1)∧∀ i m σ H,W i m σ H →
  (J.stop i H∧D.nx σ H)∨(J.go i H∧∃ N:St→Hp→Prop,(∀ σ' H',N σ' H'→∃ m',m' < m∧W (i+1) m' σ' H')∧∀ x H',J.yld i H x H'→g x σ H' fun σ2 H2=>tb { D with nx:=N,ct:=N,bk:=D.nx } σ2 H2)
noncomputable def pinsAt (fp:List Addr) (h:Heap):List (Addr×Obj):=fp.filterMap fun b=>(h.get? b).map fun o=>(b,o)
theorem mem_pinsAt {fp:List Addr} {h:Heap} {b:Addr} {o:Obj} (hb:b∈fp) (e:h.get? b=some o):(b,o)∈pinsAt fp h:=List.mem_filterMap.mpr ⟨b,hb,by rw [e]; rfl⟩
theorem of_pinsAt {fp:List Addr} {h:Heap} {p:Addr×Obj} (hp:p∈pinsAt fp h):p.1∈fp∧h.get? p.1=some p.2:=by
  obtain ⟨b,hb,e⟩:=List.mem_filterMap.mp hp
  cases q:h.get? b with
  | none=>rw [q] at e; cases e
  | some o =>
    rw [q] at e
    have e':(b,o)=p:=Option.some.inj e
    subst e'
    exact ⟨hb,q⟩
theorem Inv.pinned {pins:List (Addr×Obj)} {σ:St} {H:Hp} {s:Shared} {fp:List Addr} (I:Inv X pins σ H s) (hf:∀ b∈fp,FpOk X pins H b) (ho:∀ b∈fp,∃ o,s.heap.get? b=some o∧∀ v,o.data≠.cell v):Inv X (pins++pinsAt fp s.heap) σ H s :=
  I.pins_of fun p hp=>(List.mem_append.mp hp).elim (fun z=>I.pin p (List.mem_append_right _ z)) fun z=>by
    obtain ⟨hb,e⟩:=of_pinsAt z
    obtain ⟨f0,f1,f2,_⟩:=hf p.1 hb
    obtain ⟨o,e',d⟩:=ho p.1 hb
    rw [e] at e'; cases e'
    exact ⟨e,f0,f1,f2,d⟩
theorem Inv.unpinned {pins pl:List (Addr×Obj)} {σ:St} {H:Hp} {s:Shared} (I:Inv X (pins++pl) σ H s):Inv X pins σ H s:=I.pins_of fun p hp=>I.pin p (List.mem_append_right _ (List.mem_append_left _ hp))
theorem ps_for {iter:Expr} {body:List Stmt} {wi:TI} {g:TG} {tb:TS} {pos:Pos} (hp:PassesOwn (model X.prog X.w) X.A X.env X.xe) (hc:X.calm=true) (hi:PI X tg iter wi) (hg:PG X tg g) (hb:PSs X body tb)
    (hs:∀ x,foldedSetIterable iter X.env x=pure x:=by intro _; rfl):PS X (.For tg iter body [] pos) (tFor wi g tb):=by
  intro pins s σ H D I h
  refine wpAny_For (thn (hi pins s σ H _ I h) fun v s1 h1=>thn h1 fun itv s2 h2=>?_) hs
  obtain ⟨it,fp,tn,J,H2,e,I2,T,st2,f2,W,⟨m0,w0⟩,turn⟩:=h2
  subst e
  have stat:∀ {H':Hp},(∀ b∈fp,H' b=none)→∀ b∈fp,FpOk X pins H' b:=fun hn b hb=>⟨hn b hb,(f2 b hb).2⟩
  refine codeAny_forLoop_any (fun n s'=>∃ i σ' H',Inv X pins σ' H' s'∧tn i s'.heap∧(∀ b∈fp,H' b=none)∧W i n σ' H') ?_ m0 ⟨0,σ,H2,I2,st2,fun b hb=>(f2 b hb).1,w0⟩
  rintro n s3 ⟨i,σ3,H3,I3,st3,fr3,w3⟩
  rcases turn i n σ3 H3 w3 with ⟨stop,qn⟩ | ⟨go,N,hN,step⟩
  · refine wpAny_passesOwn hp (thn (T.done X rfl rfl rfl hc i pins s3 σ3 H3 X.xe I3 (stat fr3) st3 stop) fun r s4 ⟨hr,I4⟩=>?_)
    subst hr
    exact wpAny_execs_nil ⟨σ3,H3,I4,qn⟩
  · refine wpAny_passesOwn hp (thn (T.item X rfl rfl rfl hc i pins s3 σ3 H3 X.xe I3 (stat fr3) st3 go) fun r s4 ⟨u,hr,h4⟩=>?_)
    subst hr
    refine wpAny_passesOwn hp (thn h4 fun _ s5 ⟨x,H5,I5,r5,y5,st5,fr5⟩=>?_)
    have I5':=I5.pinned (stat fr5) (T.obj _ _ st5)
    refine wpAny_passesOwn hp (thn (hg _ s5 σ3 H5 x u _ I5' r5 (step x H5 y5)) fun _ s6 ⟨σ6,H6,I6,q6⟩=>?_)
    refine wpAny_passesOwn hp (thn (hb _ s6 σ6 H6 _ I6 q6) fun f s7 q7=>?_)
    have again:∀ {σ7:St} {H7:Hp},Inv X (pins++pinsAt fp s5.heap) σ7 H7 s7→N σ7 H7→∃ m,m < n∧∃ i σ' H',Inv X pins σ' H' s7∧tn i s7.heap∧(∀ b∈fp,H' b=none)∧W i m σ' H':=fun {σ7 H7} I7 n7=>by
      obtain ⟨m',hm,w7⟩:=hN σ7 H7 n7
      refine ⟨m',hm,i+1,σ7,H7,I7.unpinned,T.keep _ _ _ st5 fun b hb o e=>(I7.pin (b,o) (List.mem_append_right _ (List.mem_append_right _ (mem_pinsAt hb e)))).1,fun b hb=>?_,w7⟩
      obtain ⟨o,e,d⟩:=T.obj _ _ st5 b hb
      exact (I7.pin (b,o) (List.mem_append_right _ (List.mem_append_right _ (mem_pinsAt hb e)))).2.1
    cases f with
    | next=>obtain ⟨σ7,H7,I7,n7⟩:=q7; exact again I7 n7
    | cont=>obtain ⟨σ7,H7,I7,n7⟩:=q7; exact again I7 n7
    | brk=>obtain ⟨σ7,H7,I7,q7⟩:=q7; exact ⟨σ7,H7,I7.unpinned,q7⟩
    | ret v=>obtain ⟨x7,σ7,H7,I7,r7,q7⟩:=q7; exact ⟨x7,σ7,H7,I7.unpinned,r7,q7⟩
end
end L2
namespace L2
open PySem PySem.Spec PyProof.Rows
noncomputable abbrev R2:=V→V→Hp→VK→Prop
noncomputable def OpR (X:Cx) (f:Value→Value→Sem Value) (r:R2):Prop :=
  ∀ (pins:List (Addr×Obj)) (s:Shared) (σ:St) (H:Hp) (x y:V) (v u:Value) (Q:VK),Inv X pins σ H s→RelV x v→RelV y u→r x y H Q →
    wpAny (model X.prog X.w) X.A (f v u) (EP X pins σ Q) X.xe s
noncomputable def UnR (X:Cx) (f:Value→Sem Value) (r:V→Hp→VK→Prop):Prop :=
  ∀ (pins:List (Addr×Obj)) (s:Shared) (σ:St) (H:Hp) (x:V) (v:Value) (Q:VK),Inv X pins σ H s→RelV x v→r x H Q →
    wpAny (model X.prog X.w) X.A (f v) (EP X pins σ Q) X.xe s
noncomputable def CallR (X:Cx) (f:Value) (r:List V→Hp→VK→Prop):Prop :=
  ∀ (pins:List (Addr×Obj)) (s:Shared) (σ:St) (H:Hp) (xs:List V) (us:List Value) (Q:VK),Inv X pins σ H s→Vals xs us→r xs H Q →
    wpAny (model X.prog X.w) X.A (call f us) (EP X pins σ Q) X.xe s
noncomputable def TruR (X:Cx) (r:V→Hp→(Bool→Hp→Prop)→Prop):Prop :=
  ∀ (pins:List (Addr×Obj)) (s:Shared) (σ:St) (H:Hp) (x:V) (v:Value) (Q:Bool→Hp→Prop),Inv X pins σ H s→RelV x v→r x H Q →
    wpAny (model X.prog X.w) X.A (truthy v) (TP X pins σ Q) X.xe s
noncomputable def tOp (r:R2) (ta tb:TE):TE:=fun σ H Q=>ta σ H fun x H1=>tb σ H1 fun y H2=>r x y H2 Q
noncomputable def tUn (r:V→Hp→VK→Prop) (ta:TE):TE:=fun σ H Q=>ta σ H fun x H1=>r x H1 Q
noncomputable def rI (C:Int→Int→Prop) (g:Int→Int→V):R2:=fun x y H Q=>∃ i j,x=.int i∧y=.int j∧C i j∧Q (g i j) H
noncomputable def rI0 (g:Int→Int→V):R2:=fun x y H Q=>∃ i j,x=.int i∧y=.int j∧Q (g i j) H
noncomputable def rU (g:Int→V):V→Hp→VK→Prop:=fun x H Q=>∃ i,x=.int i∧Q (g i) H
section
variable {X:Cx} {a b c:Expr} {ta tb tc:TE} {pos:Pos}
theorem binT (ha:PE X a ta) (hb:PE X b tb) {pins:List (Addr×Obj)} {s:Shared} {σ:St} {H:Hp} {R:V→V→Hp→Prop} (I:Inv X pins σ H s)
    (h:ta σ H fun x H1=>tb σ H1 fun y H2=>R x y H2) {Q:Value→Shared→Prop} {f:Value→Value→Sem Value}
    (hf:∀ v u s2 x y H2,Inv X pins σ H2 s2→RelV x v→RelV y u→R x y H2→wpAny (model X.prog X.w) X.A (f v u) Q X.xe s2) :
    wpAny (model X.prog X.w) X.A (eval a X.env) (fun v s₁=>wpAny (model X.prog X.w) X.A (eval b X.env) (fun u s₂=>wpAny (model X.prog X.w) X.A (f v u) Q X.xe s₂) X.xe s₁) X.xe s:=by
  refine thn (ha pins s σ H _ I h) fun v s1 ⟨x,H1,I1,r1,q1⟩=>?_
  refine thn (hb pins s1 σ H1 _ I1 q1) fun u s2 ⟨y,H2,I2,r2,q2⟩=>?_
  exact hf v u s2 x y H2 I2 r1 r2 q2
theorem pe_op {op:Operator} {r:R2} (ho:OpR X (binaryOp op) r) (ha:PE X a ta) (hb:PE X b tb):PE X (.BinOp a op b pos) (tOp r ta tb):=by
  intro pins s σ H Q I h
  exact wpAny_BinOp (binT ha hb I h fun v u s2 x y H2 I2 rx ry q=>ho pins s2 σ H2 x y v u Q I2 rx ry q)
theorem pe_un {op:UnaryOp} {r:V→Hp→VK→Prop} (ho:UnR X (unaryOp op) r) (ha:PE X a ta):PE X (.UnaryOp op a pos) (tUn r ta):=by
  intro pins s σ H Q I h
  exact UnaryOp_ (thn (ha pins s σ H _ I h) fun v s1 ⟨x,H1,I1,r1,q1⟩=>ho pins s1 σ H1 x v Q I1 r1 q1)
theorem opI {f:Value→Value→Sem Value} {C:Int→Int→Prop} {g:Int→Int→Int}
    (rule:∀ (i j:Int) (t u:Tok) (s:Shared) (Q:Value→Shared→Prop) (E:Value→Shared→Prop),C i j→Q (.int (g i j) s.toks) { s with toks:=s.toks+1 }→wpAny (model X.prog X.w) X.A (f (.int i t) (.int j u)) Q E s) :
    OpR X f (rI C fun i j=>.int (g i j)):=by
  intro pins s σ H x y v u Q I rx ry h
  obtain ⟨i,j,rfl,rfl,hc,q⟩:=h
  obtain ⟨t,rfl⟩:=rx
  obtain ⟨t',rfl⟩:=ry
  exact rule i j t t' s _ _ hc ⟨.int (g i j),H,I.tok _,⟨_,rfl⟩,q⟩
theorem opI0 {f:Value→Value→Sem Value} {g:Int→Int→Int}
    (rule:∀ (i j:Int) (t u:Tok) (s:Shared) (Q:Value→Shared→Prop) (E:Value→Shared→Prop),Q (.int (g i j) s.toks) { s with toks:=s.toks+1 }→wpAny (model X.prog X.w) X.A (f (.int i t) (.int j u)) Q E s) :
    OpR X f (rI0 fun i j=>.int (g i j)):=by
  intro pins s σ H x y v u Q I rx ry h
  obtain ⟨i,j,rfl,rfl,q⟩:=h
  obtain ⟨t,rfl⟩:=rx
  obtain ⟨t',rfl⟩:=ry
  exact rule i j t t' s _ _ ⟨.int (g i j),H,I.tok _,⟨_,rfl⟩,q⟩
theorem opB0 {f:Value→Value→Sem Value} {g:Int→Int→Bool}
    (rule:∀ (i j:Int) (t u:Tok) (s:Shared) (Q:Value→Shared→Prop) (E:Value→Shared→Prop),Q (.bool (g i j)) s→wpAny (model X.prog X.w) X.A (f (.int i t) (.int j u)) Q E s) :
    OpR X f (rI0 fun i j=>.bl (g i j)):=by
  intro pins s σ H x y v u Q I rx ry h
  obtain ⟨i,j,rfl,rfl,q⟩:=h
  obtain ⟨t,rfl⟩:=rx
  obtain ⟨t',rfl⟩:=ry
  exact rule i j t t' s _ _ ⟨.bl (g i j),H,I,rfl,q⟩
noncomputable def CDiv (i j:Int):Prop:=0 < j∧j < 1073741824
noncomputable def CDivN (i j:Int):Prop:=j≠0∧j.natAbs < 1073741824
noncomputable def CPow (i j:Int):Prop:=0≤j∧j≤1000000∧i.natAbs < 2 ^ 64
noncomputable def CMul (i j:Int):Prop:=(-(2 ^ 64) < i∧i < 2 ^ 64)∨(-(2 ^ 64) < j∧j < 2 ^ 64)
theorem CMul.ok {i j:Int} (h:CMul i j):IntMulOk i j:=by
  rcases h with ⟨h1,h2⟩ | ⟨h1,h2⟩
  · exact .of_left (intBits_le_64 h1 h2)
  · exact .of_right (intBits_le_64 h1 h2)
theorem op_add:OpR X (binaryOp .Add) (rI0 fun i j=>.int (i+j)):=opI0 fun _ _ _ _ _ _ _ q=>add_int q
theorem op_sub:OpR X (binaryOp .Sub) (rI0 fun i j=>.int (i - j)):=opI0 fun _ _ _ _ _ _ _ q=>sub_int q
theorem op_mul:OpR X (binaryOp .Mult) (rI CMul fun i j=>.int (i*j)):=opI fun _ _ _ _ _ _ _ hc q=>mul_int q hc.ok
theorem op_fdiv:OpR X (binaryOp .FloorDiv) (rI CDiv fun i j=>.int (i / j)):=opI fun i j _ _ _ _ _ hc q=>by
  have h1:(0:Int) < j:=hc.1
  have h2:j < 1073741824:=hc.2
  exact floordiv_int (by omega) (by rw [Int.fdiv_eq_ediv_of_nonneg i (by omega)]; exact q) (.inl (PyProof.noPylong_small (by omega)))
theorem op_mod:OpR X (binaryOp .Mod) (rI (fun _ j=>0 < j) fun i j=>.int (i % j)):=opI fun i j _ _ _ _ _ hc q=>by
  have h1:(0:Int) < j:=hc
  exact mod_int' (by omega) (by rw [Int.fmod_eq_emod_of_nonneg i (by omega)]; exact q)
theorem unI {f:Value→Sem Value} {g:Int→Int}
    (rule:∀ (i:Int) (t:Tok) (s:Shared) (Q:Value→Shared→Prop) (E:Value→Shared→Prop),Q (.int (g i) s.toks) { s with toks:=s.toks+1 }→wpAny (model X.prog X.w) X.A (f (.int i t)) Q E s) :
    UnR X f (rU fun i=>.int (g i)):=by
  intro pins s σ H x v Q I rx h
  obtain ⟨i,rfl,q⟩:=h
  obtain ⟨t,rfl⟩:=rx
  exact rule i t s _ _ ⟨.int (g i),H,I.tok _,⟨_,rfl⟩,q⟩
theorem un_neg:UnR X (unaryOp .USub) (rU fun i=>.int (-i)):=unI fun _ _ _ _ _ q=>neg_int q
end
noncomputable def scal:V→V→Bool
  | .non,.non=>true | .non,.int _=>true | .int _,.non=>true | .non,.bl _=>true | .bl _,.non=>true | .non,.str _=>true | .str _,.non=>true
  | .int _,.int _=>true | .bl _,.bl _=>true | .str _,.str _=>true | .byt _,.byt _=>true
  | .int _,.str _=>true | .str _,.int _=>true | .bl _,.str _=>true | .str _,.bl _=>true
  | _,_=>false
noncomputable def rEq:R2:=fun x y H Q=>scal x y=true∧Q (.bl (decide (x=y))) H
noncomputable def rNe:R2:=fun x y H Q=>scal x y=true∧Q (.bl (!decide (x=y))) H
section
variable {X:Cx} {a b c:Expr} {ta tb tc:TE} {pos:Pos}
theorem fin_bl {pins:List (Addr×Obj)} {σ:St} {H:Hp} {s:Shared} {Q:VK} {k k':Bool} (I:Inv X pins σ H s) (q:Q (.bl k) H) (e:k=k'):EP X pins σ Q (.bool k') s:=by
  subst e
  exact ⟨.bl k,H,I,rfl,q⟩
theorem op_lt:OpR X (compareOp .Lt) (rI0 fun i j=>.bl (decide (i < j))):=opB0 fun _ _ _ _ _ _ _ q=>lt_int q
theorem op_le:OpR X (compareOp .LtE) (rI0 fun i j=>.bl (decide (i≤j))):=opB0 fun _ _ _ _ _ _ _ q=>le_int q
theorem op_in_str:OpR X (compareOp .In) (fun x y H Q=>∃ i j,x=.str i∧y=.str j∧Q (.bl (!(Builtin.Str.occurrences j i 0 j.length 1).isEmpty)) H):=by
  intro pins s σ H x y v u Q I rx ry h
  obtain ⟨i,j,rfl,rfl,q⟩:=h
  obtain ⟨t,rfl⟩:=rx
  obtain ⟨t',rfl⟩:=ry
  exact in_str (fin_bl I q rfl)
theorem op_isN:OpR X (compareOp .Is) (fun x y H Q=>y=.non∧Q (.bl (decide (x=.non))) H):=by
  intro pins s σ H x y v u Q I rx ry h
  obtain ⟨rfl,q⟩:=h
  cases ry
  refine is_none_gen (fin_bl I q ?_)
  cases x <;> first
    | (cases rx; rfl)
    | (obtain ⟨t,rfl⟩:=rx; rfl)
theorem op_notN:OpR X (compareOp .IsNot) (fun x y H Q=>y=.non∧Q (.bl (!decide (x=.non))) H):=by
  intro pins s σ H x y v u Q I rx ry h
  obtain ⟨rfl,q⟩:=h
  cases ry
  refine isnot_none_gen (fin_bl I q ?_)
  cases x <;> first
    | (cases rx; rfl)
    | (obtain ⟨t,rfl⟩:=rx; rfl)
noncomputable def isObj:HO→Bool
  | .lst _=>true
  | .ins _ _ _=>true
  | _=>false
theorem OpR.or {f:Value→Value→Sem Value} {r r':R2} (h:OpR X f r) (h':OpR X f r'):OpR X f (fun x y H Q=>r x y H Q∨r' x y H Q):=by
  intro pins s σ H x y v u Q I rx ry q
  rcases q with q | q
  · exact h pins s σ H x y v u Q I rx ry q
  · exact h' pins s σ H x y v u Q I rx ry q
theorem nomark (b:Expr) {op:CmpOp} (h:op≠.In:=by decide) (h2:op≠.NotIn:=by decide):behindInMarks op b=false:=by
  have e1:(op==CmpOp.In)=false:=by cases op <;> first | rfl | exact absurd rfl h
  have e2:(op==CmpOp.NotIn)=false:=by cases op <;> first | rfl | exact absurd rfl h2
  cases b <;> simp [behindInMarks,e1,e2]
theorem pe_cmpR {op:CmpOp} {r:R2} (ho:OpR X (compareOp op) r) (ha:PE X a ta) (hb:PE X b tb) (hm:behindInMarks op b=false):PE X (.Compare a [op] [b] pos) (tOp r ta tb):=by
  intro pins s σ H Q I h
  exact wpAny_Compare1 (binT ha hb I h fun v u s2 x y H2 I2 rx ry q=>ho pins s2 σ H2 x y v u Q I2 rx ry q) hm
noncomputable def tTest (t:TE):TT:=fun σ H Q=>t σ H fun x H'=>∃ k,x=.bl k∧Q k H'
theorem pt_cmpR {op:CmpOp} {r:R2} (ho:OpR X (compareOp op) r) (ha:PE X a ta) (hb:PE X b tb) (hm:behindInMarks op b=false):PT X (.Compare a [op] [b] pos) (tTest (tOp r ta tb)):=by
  intro pins s σ H Q I h
  refine wpAny_isTrue_Compare1 (thn (ha pins s σ H _ I h) fun v s1 ⟨x,H1,I1,r1,q1⟩=>thn (hb pins s1 σ H1 _ I1 q1) fun u s2 ⟨y,H2,I2,r2,q2⟩ =>
    thn (ho pins s2 σ H2 x y v u _ I2 r1 r2 q2) fun c s3 ⟨z,H3,I3,r3,k,e,q3⟩=>?_) hm
  subst e
  cases r3
  exact wpAny_truthy_bool ⟨H3,I3,q3⟩
noncomputable def tChain (r r':R2) (ta tb tc:TE):TE:=fun σ H Q=>ta σ H fun x H1=>tb σ H1 fun y H2=>r x y H2 fun z H3=>∃ k,z=.bl k ∧
  (if k=true then tc σ H3 fun w' H4=>r' y w' H4 Q else Q (.bl false) H3)
theorem pe_chain {op op':CmpOp} {r r':R2} (ho:OpR X (compareOp op) r) (ho':OpR X (compareOp op') r') (ha:PE X a ta) (hb:PE X b tb) (hc:PE X c tc)
    (hm:lastMarks [op,op'] [b,c]=false:=by with_unfolding_all rfl):PE X (.Compare a [op,op'] [b,c] pos) (tChain r r' ta tb tc):=by
  intro pins s σ H Q I h
  refine Compare_chain (thn (ha pins s σ H _ I h) fun v s1 ⟨x,H1,I1,r1,q1⟩=>chain_link (thn (hb pins s1 σ H1 _ I1 q1) fun u s2 ⟨y,H2,I2,r2,q2⟩ =>
    thn (ho pins s2 σ H2 x y v u _ I2 r1 r2 q2) fun d s3 ⟨z,H3,I3,r3,k,e,q3⟩=>?_)) hm
  subst e
  cases r3
  refine wpAny_truthy_bool ?_
  cases k with
  | false=>exact ite_ff ⟨.bl false,H3,I3,rfl,q3⟩
  | true=>exact ite_tt (chain_last (thn (hc pins s3 σ H3 _ I3 q3) fun w' s4 ⟨z',H4,I4,r4,q4⟩=>ho' pins s4 σ H4 y z' u w' Q I4 r2 r4 q4))
theorem pt_chain {op op':CmpOp} {r r':R2} (ho:OpR X (compareOp op) r) (ho':OpR X (compareOp op') r') (ha:PE X a ta) (hb:PE X b tb) (hc:PE X c tc)
    (hm:lastMarks [op,op'] [b,c]=false:=by with_unfolding_all rfl):PT X (.Compare a [op,op'] [b,c] pos) (tTest (tChain r r' ta tb tc)):=by
  intro pins s σ H Q I h
  refine isTrue_chain (thn (ha pins s σ H _ I h) fun v s1 ⟨x,H1,I1,r1,q1⟩=>test_link (thn (hb pins s1 σ H1 _ I1 q1) fun u s2 ⟨y,H2,I2,r2,q2⟩ =>
    thn (ho pins s2 σ H2 x y v u _ I2 r1 r2 q2) fun d s3 ⟨z,H3,I3,r3,k,e,q3⟩=>?_)) hm
  subst e
  cases r3
  refine wpAny_truthy_bool ?_
  cases k with
  | false =>
    obtain ⟨k',e',q'⟩:=q3
    cases e'
    exact ite_ff ⟨H3,I3,q'⟩
  | true =>
    refine ite_tt (test_last (thn (hc pins s3 σ H3 _ I3 q3) fun w' s4 ⟨z',H4,I4,r4,q4⟩=>thn (ho' pins s4 σ H4 y z' u w' _ I4 r2 r4 q4) fun d' s5 ⟨z2,H5,I5,r5,k2,e2,q5⟩=>?_))
    subst e2
    cases r5
    exact wpAny_truthy_bool ⟨H5,I5,q5⟩
noncomputable def TruV (K:PySem.W.Frag) (x:V) (H:Hp) (k:Bool):Prop :=
  match x with
  | .non=>k=false
  | .bl b=>k=b
  | .int i=>k=(i != 0)
  | .str y=>y.length≤sizeLine∧k=((y.length:Int) != 0)
  | .byt y=>y.size≤sizeLine∧k=((y.size:Int) != 0)
  | .ref p=>(∃ xs,SqL K H p xs∧k=!xs.isEmpty)∨(∃ xs,SqT K H p xs∧k=!xs.isEmpty)∨∃ kvs,H p=some (.dK kvs)∧k=!kvs.isEmpty
  | _=>False
theorem isEmpty_kv {κ:Type} {kvs:List (κ×V)} {vs:List (κ×Value)} (r:KV kvs vs):(!vs.isEmpty)=!kvs.isEmpty:=by
  cases r <;> rfl
theorem isEmpty_of {xs:List V} {its:List Value} (r:Vals xs its):(!its.toArray.isEmpty)=!xs.isEmpty:=by
  cases r <;> simp
theorem line63:(sizeLine:Nat) < 2 ^ 63:=by rw [sizeLine_eq]; decide
theorem tru_ok:TruR X (fun x H Q=>∃ k,TruV X.K x H k∧Q k H):=by
  intro pins s σ H x v Q I rx h
  obtain ⟨k,e,q⟩:=h
  have hl:=line63
  have hs:sizeLine=16777216:=sizeLine_eq
  cases x with
  | non =>
    cases rx
    have e':k=false:=e
    subst e'
    exact truthy_none ⟨H,I,q⟩
  | bl b =>
    cases rx
    have e':k=b:=e
    subst e'
    exact wpAny_truthy_bool ⟨H,I,q⟩
  | int i =>
    obtain ⟨t,rfl⟩:=rx
    have e':k=(i != 0):=e
    subst e'
    exact PySem.P.truthy_int ⟨H,I,q⟩
  | str y =>
    obtain ⟨t,rfl⟩:=rx
    obtain ⟨hy,e'⟩:y.length≤sizeLine∧k=((y.length:Int) != 0):=e
    subst e'
    exact PySem.P.truthy_str (by omega) ⟨H,I.tok _,q⟩
  | byt y =>
    obtain ⟨t,rfl⟩:=rx
    obtain ⟨hy,e'⟩:y.size≤sizeLine∧k=((y.size:Int) != 0):=e
    subst e'
    exact PySem.W.truthy_bytes (by omega) ⟨H,I.tok _,q⟩
  | ref p =>
    cases rx
    have e':(∃ xs,SqL X.K H p xs∧k=!xs.isEmpty)∨(∃ xs,SqT X.K H p xs∧k=!xs.isEmpty)∨∃ kvs,H p=some (.dK kvs)∧k=!kvs.isEmpty:=e
    rcases e' with ⟨xs,hx,e'⟩ | ⟨xs,hx,e'⟩ | ⟨kvs,hx,e'⟩
    · subst e'
      obtain ⟨its,r,pl,hz⟩:=I.list hx
      have hlen:=r.length
      exact wpAny_truthy_list pl.isList (by simp only [List.size_toArray]; omega) ⟨H,I.tok _,by rw [isEmpty_of r]; exact q⟩
    · subst e'
      obtain ⟨its,r,pl,hz⟩:=I.tuple hx
      have hlen:=r.length
      exact truthy_tuple pl (by simp only [List.size_toArray]; omega) ⟨H,I.tok _,by rw [isEmpty_of r]; exact q⟩
    · subst e'
      obtain ⟨hz,hS,vs,r,m⟩:kvs.length≤sizeLine∧(p==sysModules)=false∧∃ vs,KV kvs vs∧s.heap.DictOf (mixKind X.prog X.w) p vs:=I.hok p _ hx
      have hlen:kvs.length=vs.length:=Paired.length r
      exact wpAny_truthy_dict hS m (by omega) ⟨H,I.tok _,by rw [isEmpty_kv r]; exact q⟩
  | _=>exact (show False from e).elim
theorem pt_truth (ha:PE X a ta) (he:∀ whole,isTrue a X.env whole=(do let v ← whole; standAt a.pos; holding [v] (truthy v))) :
    PT X a (fun σ H Q=>ta σ H fun x H'=>∃ k,TruV X.K x H' k∧Q k H'):=by
  intro pins s σ H Q I h
  exact isTrue_plain (thn (ha pins s σ H _ I h) fun v s1 ⟨x,H1,I1,r1,q1⟩=>tru_ok pins s1 σ H1 x v Q I1 r1 q1) (he _)
theorem op_add_str:OpR X (binaryOp .Add) (fun x y H Q=>∃ i j,x=.str i∧y=.str j∧i.length+j.length≤sizeLine∧Q (.str (i++j)) H):=by
  intro pins s σ H x y v u Q I rx ry h
  obtain ⟨i,j,rfl,rfl,hz,q⟩:=h
  obtain ⟨t,rfl⟩:=rx
  obtain ⟨t',rfl⟩:=ry
  exact add_str (fun t' tk=>⟨.str (i++j),H,I.tok _,⟨_,rfl⟩,q⟩) hz
noncomputable def PlainIxT (b:Expr):Prop:=∀ o i,subscripted b false o i=operate [o,i] (getItem o i)
theorem vals1 {x:V} {us:List Value} (r:Vals [x] us):∃ u,us=[u]∧RelV x u:=by
  cases r with
  | cons r1 r2=>cases r2; exact ⟨_,rfl,r1⟩
theorem vals2 {x y:V} {us:List Value} (r:Vals [x,y] us):∃ u w',us=[u,w']∧RelV x u∧RelV y w':=by
  cases r with
  | cons r1 r2 =>
    cases r2 with
    | cons r3 r4=>cases r4; exact ⟨_,_,rfl,r1,r3⟩
theorem call_max2 (hc:X.calm=true):CallR X (.builtin "max") (fun xs H Q=>∃ i j,xs=[.int i,.int j]∧Q (.int (if j > i then j else i)) H):=by
  intro pins s σ H xs us Q I r h
  obtain ⟨i,j,rfl,q⟩:=h
  obtain ⟨u,w',rfl,⟨t,rfl⟩,⟨t',rfl⟩⟩:=vals2 r
  refine max_two_ints (I.ok.hd hc) fun h' tk k=>⟨_,H,I.kept k,?_,q⟩
  by_cases hj:j > i
  · rw [if_pos hj,if_pos hj]; exact ⟨_,rfl⟩
  · rw [if_neg hj,if_neg hj]; exact ⟨_,rfl⟩
theorem call_min2 (hc:X.calm=true):CallR X (.builtin "min") (fun xs H Q=>∃ i j,xs=[.int i,.int j]∧Q (.int (if j < i then j else i)) H):=by
  intro pins s σ H xs us Q I r h
  obtain ⟨i,j,rfl,q⟩:=h
  obtain ⟨u,w',rfl,⟨t,rfl⟩,⟨t',rfl⟩⟩:=vals2 r
  refine min_two_ints (I.ok.hd hc) fun h' tk k=>⟨_,H,I.kept k,?_,q⟩
  by_cases hj:j < i
  · rw [if_pos hj,if_pos hj]; exact ⟨_,rfl⟩
  · rw [if_neg hj,if_neg hj]; exact ⟨_,rfl⟩
noncomputable def LenV (K:PySem.W.Frag) (x:V) (H:Hp) (n:Nat):Prop :=
  match x with
  | .str y=>y.length≤sizeLine∧n=y.length
  | .byt y=>y.size≤sizeLine∧n=y.size
  | .ref p=>(∃ xs,SqL K H p xs∧n=xs.length)∨∃ xs,SqT K H p xs∧n=xs.length
  | _=>False
end
end L2
namespace L2
open PySem PySem.Spec PyProof.Rows
structure ObjM (h:Heap) (x dx C:Addr) (mA:Str→Option Value):Prop where
  obj:h.get? x=some (PySem.W.instObj C dx)
  ns:h.Ns1 dx mA
  ne:dx≠x
theorem lookIn_ns {h:Heap} {dx:Addr} {mA:Str→Option Value} (n:h.Ns1 dx mA):∃ od,h.get? dx=some od∧∀ name,PySem.W.lookIn name od=some (mA name):=by
  obtain ⟨o,es,ep,ho,hd,hk,_,hm⟩:=n
  refine ⟨o,ho,fun name=>?_⟩
  have e:=hm name
  unfold nsFind findBy at e
  rw [← Array.find?_toList] at e
  unfold PySem.W.lookIn
  rw [hd]
  dsimp only
  split
  · rename_i y q
    rw [q] at e
    exact congrArg some e
  · rename_i q
    rw [q] at e
    have a:es.toList.any (·.refKey)=false:=by
      rw [List.any_eq_false]
      intro y hy
      obtain ⟨z,t,hkey⟩:=hk y (Array.mem_toList_iff.mp hy)
      simp [DictEntry.refKey,hkey]
    have a':¬ es.toList.any (·.refKey)=true:=by rw [a]; exact Bool.false_ne_true
    rw [if_neg a']
    exact congrArg some e
theorem ObjM.look {h:Heap} {x dx C:Addr} {mA:Str→Option Value} (I:ObjM h x dx C mA):∃ od,PySem.W.InstAt h x (PySem.W.instObj C dx) C (some od)∧∀ name,PySem.W.lookIn name od=some (mA name) :=
  let ⟨od,ho,hl⟩:=lookIn_ns I.ns
  ⟨od,⟨I.obj,rfl,rfl,ho⟩,hl⟩
section
variable {prog:Program} {w:World} {A:Around} {E:Value→Shared→Prop} {s:Shared} {K:PySem.W.Frag} {x dx C f:Addr} {mA:Str→Option Value} {name:Str} {v:Value}
theorem get_map {expr:Bool} {Q:Value→Shared→Prop} (X:K.In s.heap) (I:ObjM s.heap x dx C mA) (hg:PySem.W.plainGet K C name=true) (hh:PySem.W.hasDictIn K C=true)
    (ha:PySem.W.findIn K (.ref C) name=some none) (hv:mA name=some v) (hv':PySem.W.handedIn v=true) (h:Q v { s with toks:=s.toks+1 }) :
    wpAny (model prog w) A (getAttr (.ref x) name expr) Q E s:=by
  obtain ⟨od,J,hl⟩:=I.look
  exact PySem.W.get_value X J (PySem.W.plainGet_of hg).1 (PySem.W.findObj_own hh ha rfl (by rw [hl,hv])) hv' h
theorem get_meth {pl:Sem Bool} {Q:Value×List Value→Shared→Prop} (X:K.In s.heap) (I:ObjM s.heap x dx C mA) (hg:PySem.W.plainGet K C name=true)
    (hf:PySem.W.findIn K (.ref C) name=some (some (.ref f))) (ht:PySem.W.isFn K (.ref f)=true) (hv:mA name=none) (h:Q (.ref f,[.ref x]) s) :
    wpAny (model prog w) A (getMethod (.ref x) name pl) Q E s:=by
  obtain ⟨od,J,hl⟩:=I.look
  exact PySem.W.method_fn X J (PySem.W.plainGet_of hg).1 (PySem.W.plainGet_of hg).2 hf (beq_iff_eq.mp ht) (by show (PySem.W.lookIn name od).map (·.isSome)=some false; rw [hl,hv]; rfl) h
theorem set_map {ns:List Str} {Q:Unit→Shared→Prop} (X:K.In s.heap) (I:ObjM s.heap x dx C mA)
    (hs:PySem.W.findIn K (.ref C) "__setattr__" = some (some (.builtin "object.__setattr__"))) (hp:PySem.W.plainOver K C=true) (ht:PySem.W.takerIn K C name=some none) (hh:PySem.W.hasDictIn K C=true)
    (hw:PySem.Within mA ns) (hsz:ns.length≤sizeLine)
    (h:∀ h',ObjM h' x dx C (fun y=>if y=name then some v else mA y)→Heap.SameBut dx s.heap h'→Q () { s with heap:=h',toks:=s.toks+2 }) :
    wpAny (model prog w) A (setAttr (.ref x) name v) Q E s:=by
  obtain ⟨od,J,hl⟩:=I.look
  refine PySem.W.set_plain X J hs (PySem.W.osa_open (s:={ s with toks:=s.toks+1 }) (r:=none) X J hp ht fun b=>?_)
  obtain ⟨cd,hc,hd'⟩:=PySem.W.any_some hh
  have hx:s.heap.get? x=some ⟨.ref C,some dx,.plain,#[]⟩:=I.obj
  refine wpAny_bind (wpAny_pure (wpAny_bind (wpAny_bind (wpAny_loadPart hx (wpAny_bind (PySem.W.Looks.here (s:={ s with toks:=s.toks+1 }) (PySem.W.looks_clsIn X hc) ?_))))))
  rw [hd']
  refine wpAny_pure (a:=some dx) (wpAny_bind (wpAny_pure (wpAny_bind ?_)))
  refine wpAny_nsSet1 (s:={ s with toks:=s.toks+1 }) I.ns fun h' hn2 hs2=>?_
  obtain ⟨oD,esD,epD,hoD,hdD,hcD⟩:=hn2.count (PySem.Within.cons name v hw)
  refine wpAny_bind (wpAny_lookBehind hoD (by rw [hdD]; exact pastItsLine_dict (Nat.le_trans hcD (by rw [List.length_cons]; omega))) ?_)
  exact wpAny_pure (h _ ⟨(hs2.2 _ (Ne.symm I.ne)).trans I.obj,hn2,I.ne⟩ hs2)
theorem make_map {R:Result→Shared→Prop} {vs:List Value} {kw:List (Str×Value)} (X:K.In s.heap) (hm:PySem.W.makesIn K C=true)
    (hi:PySem.W.findIn K (.ref C) "__init__" = some (some (.ref f))) (hf:PySem.W.typeIn K (.ref f)=some (.type "function"))
    (h:codeAny (model prog w) (A.under (.builtin "type.__call__" ⟨.ref C::vs,kw⟩)) (.call (.ref f) ⟨.ref (s.heap.objs.size+1)::vs,kw⟩) (PySem.W.InitBack (s.heap.objs.size+1) R)
      { s with heap:=(s.heap.push PySem.W.emptyDict).push (PySem.W.instObj C s.heap.objs.size) }) :
    codeAny (model prog w) A (.call (.ref C) ⟨vs,kw⟩) R s:=by
  obtain ⟨hh,g,d,t,os⟩:=s
  exact PySem.W.make_core (PySem.W.makes_of X hm) (PySem.W.looks_findIn X hi) (fun self=>PySem.W.bind_fn X self hf) (.inl rfl) h
end
noncomputable def putF (f:Str) (v:V):List (Str×V)→List (Str×V)
  | []=>[(f,v)]
  | (g,x)::r=>if g=f then (g,v)::r else (g,x)::putF f v r
theorem lookup_putF (f g:Str) (v:V):∀ fs:List (Str×V),(putF f v fs).lookup g=if g=f then some v else fs.lookup g
  | []=>by
    show List.lookup g [(f,v)]=_
    by_cases h:g=f
    · have hb:(g==f)=true:=beq_iff_eq.mpr h
      simp only [List.lookup,hb,if_pos h]
    · have hb:(g==f)=false:=beq_eq_false_iff_ne.mpr h
      simp only [List.lookup,hb,if_neg h]
  | (k,x)::r=>by
    have ih:=lookup_putF f g v r
    rw [show putF f v ((k,x)::r)=(if k=f then (k,v)::r else (k,x)::putF f v r) from rfl]
    by_cases hk:k=f
    · rw [if_pos hk]
      by_cases h:g=k
      · have hb:(g==k)=true:=beq_iff_eq.mpr h
        simp only [List.lookup,hb,if_pos (h.trans hk)]
      · have hb:(g==k)=false:=beq_eq_false_iff_ne.mpr h
        simp only [List.lookup,hb,if_neg (fun e:g=f=>h (e.trans hk.symm))]
    · rw [if_neg hk]
      by_cases h:g=k
      · have hb:(g==k)=true:=beq_iff_eq.mpr h
        simp only [List.lookup,hb,if_neg (fun e:g=f=>hk (h.symm.trans e))]
      · have hb:(g==k)=false:=beq_eq_false_iff_ne.mpr h
        simp only [List.lookup,hb]
        exact ih
theorem keys_putF (f:Str) (v:V):∀ fs:List (Str×V),f∈(putF f v fs).map (·.1)∧∀ g,g∈fs.map (·.1)→g∈(putF f v fs).map (·.1)
  | []=>⟨by simp [putF],fun g h=>by simp at h⟩
  | (k,x)::r=>by
    obtain ⟨i1,i2⟩:=keys_putF f v r
    rw [show putF f v ((k,x)::r)=(if k=f then (k,v)::r else (k,x)::putF f v r) from rfl]
    by_cases hk:k=f
    · rw [if_pos hk]
      subst hk
      exact ⟨by simp,fun g h=>by simpa using h⟩
    · rw [if_neg hk]
      refine ⟨?_,fun g h=>?_⟩
      · rw [List.map_cons]
        exact List.mem_cons_of_mem _ i1
      · rw [List.map_cons] at h ⊢
        rcases List.mem_cons.mp h with e | e
        · exact List.mem_cons.mpr (.inl e)
        · exact List.mem_cons_of_mem _ (i2 g e)
theorem length_putF (f:Str) (v:V):∀ fs:List (Str×V),(putF f v fs).length≤fs.length+1
  | []=>by simp [putF]
  | (k,x)::r=>by
    have ih:=length_putF f v r
    rw [show putF f v ((k,x)::r)=(if k=f then (k,v)::r else (k,x)::putF f v r) from rfl]
    by_cases hk:k=f
    · rw [if_pos hk,List.length_cons,List.length_cons]; omega
    · rw [if_neg hk,List.length_cons,List.length_cons]; omega
theorem RelO.some_of {v:V} {o:Option Value} (r:RelO (some v) o):∃ u,o=some u∧RelV v u:=by
  cases o with
  | none=>exact (show False from r).elim
  | some u=>exact ⟨u,rfl,r⟩
theorem RelO.none_of {o:Option Value} (r:RelO none o):o=none:=by
  cases o with
  | none=>rfl
  | some u=>exact (show False from r).elim
theorem handed_of {v:V} {u:Value} (r:RelV v u):PySem.W.handedIn u=true:=by
  cases v with
  | non=>cases (show u=Value.none from r); rfl
  | bl b=>cases (show u=Value.bool b from r); rfl
  | int i=>obtain ⟨t,e⟩:=(show ∃ t,u=Value.int i t from r); cases e; rfl
  | str x=>obtain ⟨t,e⟩:=(show ∃ t,u=Value.str x t from r); cases e; rfl
  | byt b=>obtain ⟨t,e⟩:=(show ∃ t,u=Value.bytes b t from r); cases e; rfl
  | flt b=>obtain ⟨t,e⟩:=(show ∃ t,u=Value.float b t from r); cases e; rfl
  | ref a=>cases (show u=Value.ref a from r); rfl
  | ty n=>cases (show u=Value.type n from r); rfl
section
variable {P:Program} {w:World} {H H':Hp} {h h':Heap} {a C dx:Addr} {fs fs':List (Str×V)}
theorem ins_get (hok:HOk P w H h) (e:H a=some (.ins C dx fs)):∃ mA,ObjM h a dx C mA∧(∀ f,RelO (fs.lookup f) (mA f))∧PySem.Within mA (fs.map (·.1))∧fs.length≤1000∧H dx=some (.own a):=by
  obtain ⟨d,z,ne,ob,mA,n,r,q⟩:=(show ObjOk P w H h a (.ins C dx fs) from hok a _ e)
  exact ⟨mA,⟨ob,n,ne⟩,r,q,z,d⟩
end
structure Cls (K:PySem.W.Frag) (C:Addr):Prop where
  pg:PySem.W.plainGet K C Str.empty=true
  hd:PySem.W.hasDictIn K C=true
  po:PySem.W.plainOver K C=true
  sa:PySem.W.findIn K (.ref C) "__setattr__" = some (some (.builtin "object.__setattr__"))
theorem Cls.get {K:PySem.W.Frag} {C:Addr} (c:Cls K C) (f:Str):PySem.W.plainGet K C f=true:=c.pg
noncomputable def NoAttr (K:PySem.W.Frag) (C:Addr) (f:Str):Prop:=PySem.W.findIn K (.ref C) f=some none
theorem NoAttr.taker {K:PySem.W.Frag} {C:Addr} {f:Str} (n:NoAttr K C f):PySem.W.takerIn K C f=some none:=by
  unfold PySem.W.takerIn
  rw [show PySem.W.findIn K (.ref C) f=some none from n]
  rfl
structure Con (K:PySem.W.Frag) (C:Addr) (f:Str) (v:V) (u:Value):Prop where
  at_:PySem.W.findIn K (.ref C) f=some (some u)
  rel:RelV v u
  get:PySem.W.specialIn K u "__get__" = some none
  cp:PySem.W.copiedNames.contains f=false
structure Meth (K:PySem.W.Frag) (C:Addr) (m:Str) (f:Addr):Prop where
  at_:PySem.W.findIn K (.ref C) m=some (some (.ref f))
  fn:PySem.W.isFn K (.ref f)=true
  kp:PySem.W.keepIn K (.ref f)=true
section
variable {X:Cx} {pins:List (Addr×Obj)} {σ:St} {H:Hp} {s:Shared} {a C dx:Addr} {fs:List (Str×V)} {f:Str} {v:V} {A:Around} {E:Value→Shared→Prop}
theorem getattr_ok {b:Bool} {Q:Value→Shared→Prop} (I:Inv X pins σ H s) (e:H a=some (.ins C dx fs)) (c:Cls X.K C) (n:NoAttr X.K C f) (l:fs.lookup f=some v)
    (h:∀ u s',Inv X pins σ H s'→RelV v u→Q u s'):wpAny (model X.prog X.w) A (getAttr (.ref a) f b) Q E s:=by
  obtain ⟨mA,O,r,_,_,_⟩:=ins_get I.hok e
  obtain ⟨u,hu,ru⟩:=RelO.some_of (v:=v) (o:=mA f) (by rw [← l]; exact r f)
  exact get_map I.kIn O (c.get f) c.hd n hu (handed_of ru) (h u _ (I.tok _) ru)
theorem getmeth_ok {m:Str} {g:Addr} {pl:Sem Bool} {Q:Value×List Value→Shared→Prop} (I:Inv X pins σ H s) (e:H a=some (.ins C dx fs)) (c:Cls X.K C) (k:Meth X.K C m g) (l:fs.lookup m=none)
    (h:Q (.ref g,[.ref a]) s):wpAny (model X.prog X.w) A (getMethod (.ref a) m pl) Q E s:=by
  obtain ⟨mA,O,r,_,_,_⟩:=ins_get I.hok e
  have hn:mA m=none:=RelO.none_of (by rw [← l]; exact r m)
  exact get_meth I.kIn O (c.get m) k.at_ k.fn hn h
theorem setattr_ok {y:V} {u:Value} {Q:Unit→Shared→Prop} (I:Inv X pins σ H s) (e:H a=some (.ins C dx fs)) (c:Cls X.K C) (n:NoAttr X.K C f) (hl:fs.length < 1000) (ry:RelV y u)
    (h:∀ s',Inv X pins σ (upd H a (.ins C dx (putF f y fs))) s'→Q () s'):wpAny (model X.prog X.w) A (setAttr (.ref a) f u) Q E s:=by
  obtain ⟨mA,O,r,wi,_,ho⟩:=ins_get I.hok e
  have hz:(fs.map (·.1)).length≤sizeLine:=by rw [List.length_map,sizeLine_eq]; omega
  refine set_map I.kIn O c.sa c.po n.taker c.hd wi hz fun h' O' sb=>h _ ?_
  have hd:∃ o,h'.get? dx=some o:=let ⟨o,_,_,e',_⟩:=O'.ns; ⟨o,e'⟩
  refine I.write (x:=a) (e:=dx) (by rw [e]; exact True.intro) (.inr ho) (fun b q hb z=>(sb.2 b hb).trans z) hd ?_
  refine ⟨by rw [upd_ne O.ne]; exact ho,?_,O.ne,O'.obj,_,O'.ns,fun g=>?_,fun g hg=>?_⟩
  · have:=length_putF f y fs; omega
  · show RelO ((putF f y fs).lookup g) (if g=f then some u else mA g)
    rw [lookup_putF]
    by_cases q:g=f
    · rw [if_pos q,if_pos q]; exact ry
    · rw [if_neg q,if_neg q]; exact r g
  · by_cases q:g=f
    · rw [q]; exact (keys_putF f y fs).1
    · refine (keys_putF f y fs).2 g (wi g fun z=>hg ?_)
      show (if g=f then some u else mA g)=none
      rw [if_neg q]; exact z
theorem Inv.made (I:Inv X pins σ H s):Inv X pins σ (upd (upd H s.heap.objs.size (.own (s.heap.objs.size+1))) (s.heap.objs.size+1) (.ins C s.heap.objs.size []))
    { s with heap:=(s.heap.push PySem.W.emptyDict).push (PySem.W.instObj C s.heap.objs.size) }:=by
  have e1:(s.heap.push PySem.W.emptyDict).get? s.heap.objs.size=some PySem.W.emptyDict:=Heap.get?_push_size s.heap rfl
  have e2:((s.heap.push PySem.W.emptyDict).push (PySem.W.instObj C s.heap.objs.size)).get? (s.heap.objs.size+1)=some (PySem.W.instObj C s.heap.objs.size):=by
    have:=Heap.get?_push_size (s.heap.push PySem.W.emptyDict) (o:=PySem.W.instObj C s.heap.objs.size) rfl
    rwa [Heap.size_push] at this
  have e3:(s.heap.push PySem.W.emptyDict).Ns s.heap.objs.size (fun _=>none):=⟨PySem.W.emptyDict,#[],_,e1,rfl,(fun e he=>absurd he (by simp)),fun _=>rfl⟩
  have I1:=I.laid (a:=s.heap.objs.size) (o:=.own (s.heap.objs.size+1)) (h':=s.heap.push PySem.W.emptyDict) (t':=s.toks) (fun b u q=>Heap.get?_push_of_some _ q) (Nat.le_refl _) ⟨_,e1⟩
  refine I1.laid (a:=s.heap.objs.size+1) (o:=.ins C s.heap.objs.size []) (t':=s.toks) (fun b u q=>Heap.get?_push_of_some _ q) (Nat.le_of_eq (Heap.size_push _ _)) ?_
  have ne:s.heap.objs.size≠s.heap.objs.size+1:=Nat.ne_of_lt (Nat.lt_succ_self _)
  refine ⟨by rw [upd_ne ne,upd_same],Nat.zero_le _,ne,e2,fun _=>none,(Heap.Ns1.of_empty e3).at fun o q=>Heap.get?_push_of_some _ q,fun _=>True.intro,fun y hy=>absurd rfl hy⟩
theorem attr_of {prog:Program} {w:World} {env:Env} {e:Expr} {f:Str} {pos:Pos} {s:Shared} {Q:Value→Shared→Prop} (hb:attributeBase e f env (eval e env)=eval e env)
    (h:wpAny (model prog w) A (eval e env) (fun o s₁=>wpAny (model prog w) A (getAttr o f true) Q E s₁) E s):wpAny (model prog w) A (eval (.Attribute e f pos) env) Q E s :=
  Attribute_any_ h (by rw [arm_eval_Attribute,hb])
end
noncomputable def tFld (K:PySem.W.Frag) (ta:TE) (f:Str):TE:=fun σ H Q=>ta σ H fun x H1=>∃ a C dx fs v,x=.ref a∧H1 a=some (.ins C dx fs)∧Cls K C∧NoAttr K C f∧fs.lookup f=some v∧Q v H1
noncomputable def tCon (K:PySem.W.Frag) (ta:TE) (f:Str):TE:=fun σ H Q=>ta σ H fun x H1=>∃ a C dx fs v u,x=.ref a∧H1 a=some (.ins C dx fs)∧Cls K C∧Con K C f v u∧fs.lookup f=none∧Q v H1
noncomputable def sFld (K:PySem.W.Frag) (ta tv:TE) (f:Str):TS:=fun D σ H=>tv σ H fun y H1=>ta σ H1 fun x H2=>∃ a C dx fs,x=.ref a∧H2 a=some (.ins C dx fs)∧Cls K C∧NoAttr K C f∧fs.length < 1000 ∧
  D.nx σ (upd H2 a (.ins C dx (putF f y fs)))
noncomputable def InOp (X:Cx) (op:Operator) (rd:V→V→Hp→VK→Prop):Prop :=
  ∀ (pins:List (Addr×Obj)) (s:Shared) (σ:St) (H:Hp) (x y:V) (u v:Value) (Q:VK),Inv X pins σ H s→RelV x u→RelV y v→rd x y H Q→wpAny (model X.prog X.w) X.A (inplaceOp op u v) (EP X pins σ Q) X.xe s
noncomputable def sFldAug (K:PySem.W.Frag) (ta tv:TE) (rd:V→V→Hp→VK→Prop) (f:Str):TS:=fun D σ H=>ta σ H fun x H1=>∃ a C dx fs v,x=.ref a∧H1 a=some (.ins C dx fs)∧Cls K C∧NoAttr K C f∧fs.lookup f=some v ∧
  tv σ H1 fun y H2=>rd v y H2 fun z H3=>∃ dx' fs',H3 a=some (.ins C dx' fs')∧fs'.length < 1000∧D.nx σ (upd H3 a (.ins C dx' (putF f z fs')))
section
variable {X:Cx} {o e value:Expr} {f:Str} {pos pos' tpos:Pos} {ta tv:TE}
theorem pe_fld (he:PE X e ta) (hb:attributeBase e f X.env (eval e X.env)=eval e X.env):PE X (.Attribute e f pos) (tFld X.K ta f):=by
  intro pins s σ H Q I h
  refine attr_of hb (thn (he pins s σ H _ I h) fun u s1 ⟨x,H1,I1,rx,a,C,dx,fs,v,ex,ea,c,n,l,q⟩=>?_)
  subst ex
  obtain rfl:u=Value.ref a:=rx
  exact getattr_ok I1 ea c n l fun u' s2 I2 ru=>⟨v,H1,I2,ru,q⟩
theorem ps_fld (ha:PE X o ta) (hv:PE X value tv) (hs:swapsWith value (some (.Attribute o f pos')) pos.line X.env=pure false):PS X (.Assign [.Attribute o f pos'] value pos) (sFld X.K ta tv f):=by
  intro pins s σ H D I h
  refine plainObj_wpAny_Assign_Attribute (thn (hv pins s σ H _ I h) fun u s1 ⟨y,H1,I1,ry,q⟩=>thn (ha pins s1 σ H1 _ I1 q) fun ov s2 ⟨x,H2,I2,rx,a,C,dx,fs,ex,ea,c,n,l,q2⟩=>?_) hs
  subst ex
  obtain rfl:ov=Value.ref a:=rx
  exact setattr_ok I2 ea c n l ry fun s3 I3=>⟨σ,_,I3,q2⟩
noncomputable def rAdd:V→V→Hp→VK→Prop:=fun x y H Q=>∃ i j,x=.int i∧y=.int j∧Q (.int (i+j)) H
noncomputable def rSub:V→V→Hp→VK→Prop:=fun x y H Q=>∃ i j,x=.int i∧y=.int j∧Q (.int (i - j)) H
end
section
variable {X:Cx} {pins:List (Addr×Obj)} {σ:St} {H:Hp} {s:Shared} {A:Around} {E:Value→Shared→Prop} {Q:Value→Shared→Prop} {c:Value} {b:Bool}
inductive TyOf (K:PySem.W.Frag) (H:Hp):V→Value→Prop where
  | non:TyOf K H .non (.type "NoneType")
  | bl (x:Bool):TyOf K H (.bl x) (.type "bool")
  | int (i:Int):TyOf K H (.int i) (.type "int")
  | str (x:Str):TyOf K H (.str x) (.type "str")
  | flt (x:UInt64):TyOf K H (.flt x) (.type "float")
  | lst {a:Addr} {xs:List V} (e:H a=some (.lst xs)):TyOf K H (.ref a) (.type "list")
  | frz {a:Addr} {o:Obj} {xs:List V} (e:H a=some (.frz o (.lst xs))):TyOf K H (.ref a) (.type "list")
  | tup {a:Addr} {xs:List V} (e:H a=some (.tup xs)):TyOf K H (.ref a) (.type "tuple")
  | dK {a:Addr} {kvs:List (Key×V)} (e:H a=some (.dK kvs)):TyOf K H (.ref a) (.type "dict")
  | dT {a:Addr} {kvs:List (List Key×V)} (e:H a=some (.dT kvs)):TyOf K H (.ref a) (.type "dict")
  | ins {a C dx:Addr} {fs:List (Str×V)} (e:H a=some (.ins C dx fs)) (cl:Cls K C) (ha:PySem.W.findIn K (.ref C) "__class__" = some (some (.builtin "object.__class__")))
      (hn:PySem.W.specialIn K (.builtin "object.__class__") "__get__" = some (some (.builtin "getset_descriptor.__get__"))) (htk:PySem.W.takesIn K (.builtin "object.__class__")=some true)
      (hm:PySem.W.mroIn K C (.type "object")=some true):TyOf K H (.ref a) (.ref C)
end
end L2
namespace L2
open PySem PySem.Spec PyProof.Rows
structure Room (k:Nat) (A:Around):Prop where
  hd:A.handled=none
  dp:A.depth+3*k+5 < recursionLimit
  un:A.units+16*k+200 < cLine
theorem Room.mono {j k:Nat} {A:Around} (r:Room k A) (h:j≤k):Room j A:=⟨r.hd,by have:=r.dp; omega,by have:=r.un; omega⟩
theorem Room.deeper {k:Nat} {A:Around} (r:Room (k+1) A) (env:Env):Room k (A.deeper env) :=
  ⟨r.hd,by have:=r.dp; show A.depth+1+3*k+5 < _; omega,by have:=r.un; show A.units+3+16*k+200 < _; omega⟩
theorem make_depth {A:Around} {C:Addr} {us:List Value} {kw:List (Str×Value)}:(A.under (.builtin "type.__call__" ⟨.ref C::us,kw⟩)).depth=A.depth+1:=by
  first | rfl | simp [Around.under,Code.weight,Code.isCreation,Code.isGuard,Code.isCaller,Code.frames,Code.isFrame,guardIds]
theorem make_units {A:Around} {C:Addr} {us:List Value} {kw:List (Str×Value)}:(A.under (.builtin "type.__call__" ⟨.ref C::us,kw⟩)).units=A.units+1:=by
  first | rfl | simp [Around.under,Code.cUnits,Code.frames,Code.isFrame]
theorem Room.make {k:Nat} {A:Around} (r:Room (k+1) A) (C:Addr) (us:List Value) (kw:List (Str×Value)):Room k (A.under (.builtin "type.__call__" ⟨.ref C::us,kw⟩)) :=
  ⟨r.hd,by have:=r.dp; rw [make_depth]; omega,by have:=r.un; rw [make_units]; omega⟩
theorem Room.depth {k:Nat} {A:Around} (r:Room k A):A.depth < recursionLimit:=by have:=r.dp; omega
theorem Room.units {k:Nat} {A:Around} (r:Room k A):A.units+64 < cLine:=by have:=r.un; omega
noncomputable def tNil:TA:=fun _ H Q=>Q [] H
noncomputable def tCons (ta:TE) (tr:TA):TA:=fun σ H Q=>ta σ H fun x H1=>tr σ H1 fun xs H2=>Q (x::xs) H2
section
variable {X:Cx} {e:Expr} {es:List Expr} {te:TE} {t:TA} {pos:Pos}
theorem pa_nil:PA X [] tNil:=fun _ _ _ _ H Q I h=>Calls.spliced_nil ⟨[],H,I,.nil,h⟩
theorem pa_cons (ha:PE X e te) (hr:PA X es t) (hs:starEach (e::es) X.env=(false,eval e X.env)::starEach es X.env:=by rfl):PA X (e::es) (tCons te t):=by
  intro pos pins s σ H Q I h
  rw [hs]
  show wpAny _ _ (spliced ((false,eval e X.env)::backTo pos (starEach es X.env))) _ _ s
  refine Calls.spliced_cons (thn (ha pins s σ H _ I h) fun u s1 ⟨x,H1,I1,r1,q1⟩=>?_)
  exact thn (hr pos pins s1 σ H1 _ I1 q1) fun us s2 ⟨xs,H2,I2,r2,q2⟩=>⟨x::xs,H2,I2,.cons r1 r2,q2⟩
noncomputable def tTup (t:TA):TE:=fun σ H Q=>t σ H fun xs H1=>xs.length≤sizeLine∧∀ p,H1 p=none→Q (.ref p) (upd H1 p (.tup xs))
noncomputable def tLst (t:TA):TE:=fun σ H Q=>t σ H fun xs H1=>xs.length≤sizeLine∧∀ p,H1 p=none→Q (.ref p) (upd H1 p (.lst xs))
theorem pe_tup {x1} (h:PA X es t):PE X (.Tuple es x1 pos) (tTup t):=by
  intro pins s σ H Q I hq
  refine wpAny_Tuple_spliced (thn (h pos pins s σ H _ I hq) fun us s1 ⟨xs,H1,I1,r,z,q⟩=>⟨by rw [← r.length]; exact z,?_⟩)
  have hf:H1 s1.heap.objs.size=none:=I1.hok.fresh (Nat.le_refl _)
  refine ⟨.ref s1.heap.objs.size,upd H1 s1.heap.objs.size (.tup xs),I1.laid (t':=s1.toks) (fun b u e=>Heap.get?_push_of_some _ e) (Nat.le_refl _) ?_,rfl,q _ hf⟩
  exact ⟨z,us,r,⟨_,Heap.get?_push_size _ rfl,rfl,_,rfl⟩⟩
theorem pe_lst (h:PA X es t):PE X (.List es pos) (tLst t):=by
  intro pins s σ H Q I hq
  refine wpAny_List_spliced (thn (h pos pins s σ H _ I hq) fun us s1 ⟨xs,H1,I1,r,z,q⟩=>⟨by rw [← r.length]; exact z,?_⟩)
  have hf:H1 s1.heap.objs.size=none:=I1.hok.fresh (Nat.le_refl _)
  refine ⟨.ref s1.heap.objs.size,upd H1 s1.heap.objs.size (.lst xs),I1.laid (t':=s1.toks) (fun b u e=>Heap.get?_push_of_some _ e) (Nat.le_refl _) ?_,rfl,q _ hf⟩
  exact ⟨z,us,0,r,Heap.get?_push_size _ rfl⟩
end
noncomputable abbrev Sp:=List V→Hp→VK→XK→Prop
noncomputable abbrev CXT:=List Env→Hp→Shared→XK→Value→Shared→Prop
structure Env0 (P:Program) (w:World) (K:PySem.W.Frag) (mg:Str→Option Value) (base:Heap) (A:Around) (outer:List Env) (s:Shared) (H:Hp):Prop where
  frames:A.frames=some outer
  mod:Mod K mg base
  bs:∀ b o,base.get? b=some o→s.heap.get? b=some o∧H b=none
  bsz:base.objs.size≤s.heap.objs.size
  funs:s.heap.FunFrames base outer
  frf:∀ b∈frs outer,H b=none
  hok:HOk P w H s.heap
  bare:AllBare s.gens
noncomputable def CE (outer:List Env) (P:Program) (w:World) (H:Hp) (s:Shared) (Q:VK) (u:Value) (s':Shared):Prop :=
  ∃ v H',s'.os=s.os∧AllBare s'.gens∧Un (frs outer) [] H H' s.heap s'.heap∧HOk P w H' s'.heap∧RelV v u∧Q v H'
noncomputable def CR (CX:CXT) (outer:List Env) (P:Program) (w:World) (H:Hp) (s:Shared) (Q:VK) (E:XK) (r:Result) (s':Shared):Prop :=
  match r with
  | .ok (.ret u)=>CE outer P w H s Q u s'
  | .ok _=>False
  | .error e=>CX outer H s E e s'
structure FnOk (P:Program) (w:World) (K:PySem.W.Frag) (mg:Str→Option Value) (base:Heap) (CX:CXT) (k:Nat) (f:Addr) (fd:FuncData) (ps:List Str) (sp:Sp):Prop where
  len:∀ vs H Q E,sp vs H Q E→vs.length=ps.length
  run:∀ (A:Around) (outer:List Env) (s:Shared) (H:Hp) (args:Args) (us:List Value) (vs:List V) (Q:VK) (E:XK),Room k A→Env0 P w K mg base A outer s H→BindsTo s fd args (ps.zip us)→Vals vs us→sp vs H Q E →
    codeAny (model P w) A (.call (.ref f) args) (CR CX outer P w H s Q E) s
theorem FnOk.mono {P:Program} {w:World} {K:PySem.W.Frag} {mg:Str→Option Value} {base:Heap} {CX:CXT} {j k:Nat} {f:Addr} {fd:FuncData} {ps:List Str} {sp:Sp} (F:FnOk P w K mg base CX j f fd ps sp) (h:j≤k) :
    FnOk P w K mg base CX k f fd ps sp:=⟨F.len,fun A outer s H args us vs Q E hr=>F.run A outer s H args us vs Q E (hr.mono h)⟩
theorem FnOk.imp {P:Program} {w:World} {K:PySem.W.Frag} {mg:Str→Option Value} {base:Heap} {CX:CXT} {k:Nat} {f:Addr} {fd:FuncData} {ps:List Str} {sp sp':Sp} (F:FnOk P w K mg base CX k f fd ps sp)
    (h:∀ vs H Q E,sp' vs H Q E→sp vs H Q E):FnOk P w K mg base CX k f fd ps sp' :=
  ⟨fun vs H Q E q=>F.len vs H Q E (h _ _ _ _ q),fun A outer s H args us vs Q E hr he hb hv hs=>F.run A outer s H args us vs Q E hr he hb hv (h _ _ _ _ hs)⟩
theorem Env0.make {P:Program} {w:World} {K:PySem.W.Frag} {mg:Str→Option Value} {base:Heap} {A:Around} {outer:List Env} {s:Shared} {H:Hp} (e:Env0 P w K mg base A outer s H) (C:Addr) (us:List Value) (kw:List (Str×Value)) :
    Env0 P w K mg base (A.under (.builtin "type.__call__" ⟨.ref C::us,kw⟩)) outer s H:=⟨by first | exact e.frames | (simpa [Around.under,Code.envs,Code.isFrame,pushEnvs] using e.frames),e.mod,e.bs,e.bsz,e.funs,e.frf,e.hok,e.bare⟩
section
variable {X:Cx} {pins:List (Addr×Obj)} {σ:St} {H:Hp} {s s':Shared}
theorem Inv.env0 (I:Inv X pins σ H s):Env0 X.prog X.w X.K X.mg X.base X.A X.stack s H :=
  ⟨I.ok.frames,I.ok.mod,I.bs,Nat.le_trans I.ok.bsz I.sz,I.stack,I.stkFree,I.hok,I.bare⟩
theorem Inv.after {Q:VK} {u:Value} (I:Inv X pins σ H s) (h:CE X.stack X.prog X.w H s Q u s'):EP X pins σ Q u s':=by
  obtain ⟨v,H',os,bare,un,hok,r,q⟩:=h
  obtain ⟨hh,g,d,t,os'⟩:=s'
  obtain rfl:os'=s.os:=os
  exact ⟨v,H',I.call (h':=hh) (g':=g) (d':=d) (t':=t) (ch:=[]) un hok bare (fun b z=>absurd z (by simp)),r,q⟩
end
noncomputable def tCall (sp:Sp) (dvs:List V) (E:XK) (t:TA):TE:=fun σ H Q=>t σ H fun vs H1=>sp (vs++dvs) H1 Q E
noncomputable def tMeth (C:Addr) (m:Str) (sp:Sp) (dvs:List V) (E:XK) (ta:TE) (t:TA):TE:=fun σ H Q=>ta σ H fun x H1=>∃ a dx fs,x=.ref a∧H1 a=some (.ins C dx fs)∧fs.lookup m=none ∧
  t σ H1 fun vs H2=>sp (x::(vs++dvs)) H2 Q E
noncomputable def tMake (C:Addr) (sp:Sp) (dvs:List V) (E:XK) (t:TA):TE:=fun σ H Q=>t σ H fun vs H1=>∀ x dx,H1 x=none→H1 dx=none→dx≠x →
  sp (.ref x::(vs++dvs)) (upd (upd H1 dx (.own x)) x (.ins C dx [])) (fun v H2=>v=.non∧Q (.ref x) H2) E
noncomputable def Binds (K:PySem.W.Frag) (fd:FuncData) (ps:List Str) (ds:List Value):Prop :=
  ∀ (s:Shared) (us:List Value),K.In s.heap→(us++ds).length=ps.length→BindsTo s fd ⟨us,[]⟩ (ps.zip (us++ds))
theorem Binds.all {K:PySem.W.Frag} {fd:FuncData} {ps:List Str} (h:∀ us:List Value,us.length=ps.length→bindArgs fd ⟨us,[]⟩=pure (ps.zip us)):Binds K fd ps []:=fun s us _ hl=>by
  rw [List.append_nil] at hl ⊢
  exact .of_eq (h us hl)
noncomputable def Passes (CX:CXT) (X:Cx) (E:XK):Prop:=∀ (pins:List (Addr×Obj)) (σ:St) (H:Hp) (s:Shared) (e:Value) (s':Shared),Inv X pins σ H s→CX X.stack H s E e s'→X.xe e s'
section
variable {X:Cx} {CX:CXT} {k:Nat} {f C:Addr} {fd:FuncData} {ps:List Str} {sp:Sp} {dvs:List V} {ds:List Value} {E:XK} {x m:Str} {p pos apos:Pos} {e o:Expr} {es:List Expr} {ta:TE} {t:TA}
theorem run_fn {pins:List (Addr×Obj)} {σ:St} {H:Hp} {s:Shared} {Q:VK} {us:List Value} {vs:List V} (F:FnOk X.prog X.w X.K X.mg X.base CX k f fd ps sp) (hr:Room k X.A) (hb:Binds X.K fd ps ds) (hd:Vals dvs ds) (hx:Passes CX X E)
    (I:Inv X pins σ H s) (r:Vals vs us) (h:sp (vs++dvs) H Q E):wpAny (model X.prog X.w) X.A (call (.ref f) us) (EP X pins σ Q) X.xe s:=by
  have r2:Vals (vs++dvs) (us++ds):=r.append hd
  have hl:(us++ds).length=ps.length:=by rw [← r2.length]; exact F.len _ _ _ _ h
  refine wpAny_call (codeAny_mono (F.run X.A X.stack s H ⟨us,[]⟩ (us++ds) (vs++dvs) Q E hr I.env0 (hb s us I.kIn hl) r2 h) fun r s' hq=>?_)
  cases r with
  | error e=>exact hx pins σ H s e s' I hq
  | ok fl =>
    cases fl with
    | ret u=>exact I.after hq
    | next=>exact False.elim hq
    | brk=>exact False.elim hq
    | cont=>exact False.elim hq
theorem pe_call (F:FnOk X.prog X.w X.K X.mg X.base CX k f fd ps sp) (hr:Room k X.A) (hg:Gl X x) (hm:X.mg x=some (.ref f)) (hk:PySem.W.keepIn X.K (.ref f)=true) (hb:Binds X.K fd ps ds) (hd:Vals dvs ds) (hx:Passes CX X E)
    (ha:PA X (e::es) t) (hdb:(x==("__debug__" : Str))=false:=by decide) (he:starEach (e::es) X.env=(false,eval e X.env)::starEach es X.env:=by rfl) (hpl:(backTo pos (starEach es X.env)).any (·.1)=false:=by rfl) :
    PE X (.Call (.Name x p) (e::es) [] pos) (tCall sp dvs E t):=by
  intro pins s σ H Q I h
  refine wpAny_Call_Name_kw (ld_glob I hg hm ?_ hdb)
  refine PySem.W.callWith_K (h₀:=X.base) I.ok.mod.kin hk (thn (ha pos pins s σ H _ I h) fun us s1 ⟨vs,H1,I1,r,q⟩=>⟨I1.kIn,?_⟩) he hpl
  exact run_fn F hr hb hd hx I1 r q
theorem pe_meth {pl:Sem Bool} (he:PE X o ta) (c:Cls X.K C) (hm:Meth X.K C m f) (F:FnOk X.prog X.w X.K X.mg X.base CX k f fd ps sp) (hr:Room k X.A) (hb:Binds X.K fd ps ds) (hd:Vals dvs ds) (hx:Passes CX X E) (ha:PA X (e::es) t)
    (hst:starEach (e::es) X.env=(false,eval e X.env)::starEach es X.env:=by rfl) (hpl:(backTo pos (starEach es X.env)).any (·.1)=false:=by rfl)
    (ht:eval (.Call (.Attribute o m apos) (e::es) [] pos) X.env=(do
      let ov ← eval o X.env
      standAt apos.atName
      let (f,first) ← holding [ov] (getMethod ov m pl)
      callWith pos f first (backTo pos (starEach (e::es) X.env)) (backToKw pos (keywordEach [] X.env))):=by rfl) :
    PE X (.Call (.Attribute o m apos) (e::es) [] pos) (tMeth C m sp dvs E ta t):=by
  intro pins s σ H Q I h
  refine PySem.W.methodCall_KW (pl:=pl) (thn (he pins s σ H _ I h) fun u s1 ⟨x,H1,I1,rx,a,dx,fs,ex,ea,l,q⟩=>?_) ht
  subst ex
  obtain rfl:u=Value.ref a:=rx
  refine getmeth_ok I1 ea c hm l ?_
  refine PySem.W.callWith_K (first:=[.ref a]) (h₀:=X.base) I.ok.mod.kin hm.kp (thn (ha pos pins s1 σ H1 _ I1 q) fun us s2 ⟨vs,H2,I2,r,q2⟩=>⟨I2.kIn,?_⟩) hst hpl
  exact run_fn (us:=.ref a::us) (vs:=.ref a::vs) F hr hb hd hx I2 (.cons rfl r) q2
structure Mk (K:PySem.W.Frag) (C f:Addr):Prop where
  makes:PySem.W.makesIn K C=true
  init:PySem.W.findIn K (.ref C) "__init__" = some (some (.ref f))
  fn:PySem.W.isFn K (.ref f)=true
  kp:PySem.W.keepIn K (.ref C)=true
theorem run_make {pins:List (Addr×Obj)} {σ:St} {H:Hp} {s:Shared} {Q:VK} {us:List Value} {vs:List V} (M:Mk X.K C f) (F:FnOk X.prog X.w X.K X.mg X.base CX k f fd ps sp) (hr:Room (k+1) X.A) (hb:Binds X.K fd ps ds) (hd:Vals dvs ds)
    (hx:Passes CX X E) (I:Inv X pins σ H s) (r:Vals vs us)
    (h:∀ x dx,H x=none→H dx=none→dx≠x→sp (.ref x::(vs++dvs)) (upd (upd H dx (.own x)) x (.ins C dx [])) (fun v H2=>v=.non∧Q (.ref x) H2) E) :
    wpAny (model X.prog X.w) X.A (call (.ref C) us) (EP X pins σ Q) X.xe s:=by
  have hq:=h (s.heap.objs.size+1) s.heap.objs.size (I.hok.fresh (Nat.le_succ _)) (I.hok.fresh (Nat.le_refl _)) (Nat.ne_of_lt (Nat.lt_succ_self _))
  have I2:=Inv.made (C:=C) I
  have r2:Vals (V.ref (s.heap.objs.size+1)::(vs++dvs)) (Value.ref (s.heap.objs.size+1)::(us++ds)):=.cons rfl (r.append hd)
  have hl:(Value.ref (s.heap.objs.size+1)::us++ds).length=ps.length:=by
    have e:=r2.length
    rw [F.len _ _ _ _ hq] at e
    exact e.symm
  refine wpAny_call (make_map (f:=f) I.kIn M.makes M.init (beq_iff_eq.mp M.fn) (codeAny_mono (F.run _ X.stack _ _ ⟨Value.ref (s.heap.objs.size+1)::us,[]⟩ (Value.ref (s.heap.objs.size+1)::(us++ds)) _ _ E (hr.make C us [])
    (I2.env0.make C us []) (hb _ (Value.ref (s.heap.objs.size+1)::us) I2.kIn hl) r2 hq) fun r s' hq'=>?_))
  cases r with
  | error e=>exact hx pins σ _ _ e s' I2 hq'
  | ok fl =>
    cases fl with
    | ret u =>
      obtain ⟨v,H',I3,rv,ev,q3⟩:=I2.after hq'
      subst ev
      exact ⟨rv,⟨V.ref (s.heap.objs.size+1),H',I3,rfl,q3⟩⟩
    | next=>exact False.elim hq'
    | brk=>exact False.elim hq'
    | cont=>exact False.elim hq'
theorem pe_make (M:Mk X.K C f) (F:FnOk X.prog X.w X.K X.mg X.base CX k f fd ps sp) (hr:Room (k+1) X.A) (hg:Gl X x) (hm:X.mg x=some (.ref C)) (hb:Binds X.K fd ps ds) (hd:Vals dvs ds) (hx:Passes CX X E)
    (ha:PA X (e::es) t) (hdb:(x==("__debug__" : Str))=false:=by decide) (he:starEach (e::es) X.env=(false,eval e X.env)::starEach es X.env:=by rfl) (hpl:(backTo pos (starEach es X.env)).any (·.1)=false:=by rfl) :
    PE X (.Call (.Name x p) (e::es) [] pos) (tMake C sp dvs E t):=by
  intro pins s σ H Q I h
  refine wpAny_Call_Name_kw (ld_glob I hg hm ?_ hdb)
  refine PySem.W.callWith_K (h₀:=X.base) I.ok.mod.kin M.kp (thn (ha pos pins s σ H _ I h) fun us s1 ⟨vs,H1,I1,r,q⟩=>⟨I1.kIn,?_⟩) he hpl
  exact run_make M F hr hb hd hx I1 r q
theorem pe_make0 (M:Mk X.K C f) (F:FnOk X.prog X.w X.K X.mg X.base CX k f fd ps sp) (hr:Room (k+1) X.A) (hg:Gl X x) (hm:X.mg x=some (.ref C)) (hb:Binds X.K fd ps ds) (hd:Vals dvs ds) (hx:Passes CX X E)
    (hdb:(x==("__debug__" : Str))=false:=by decide):PE X (.Call (.Name x p) [] [] pos) (tMake C sp dvs E tNil):=by
  intro pins s σ H Q I h
  refine wpAny_Call_Name_kw (ld_glob I hg hm ?_ hdb)
  exact PySem.W.callWith_K0 I.kIn M.kp (run_make (us:=[]) M F hr hb hd hx I .nil h)
end
noncomputable def PK (X:Cx) (kws:List Keyword) (t:TA):Prop :=
  ∀ (pos:Pos) (pins:List (Addr×Obj)) (s:Shared) (σ:St) (H:Hp) (Q:List V→Hp→Prop),Inv X pins σ H s→t σ H Q→wpAny (model X.prog X.w) X.A (evalAll ((backToKw pos (keywordEach kws X.env)).map (·.2))) (AP X pins σ Q) X.xe s
section
variable {X:Cx} {CX:CXT} {k:Nat} {f C:Addr} {fd:FuncData} {ps ks:List Str} {sp:Sp} {E:XK} {x m:Str} {p pos apos kpos:Pos} {e o:Expr} {es:List Expr} {kws:List Keyword} {te ta:TE} {t tk:TA} {nm:Option Str}
structure KBinds (K:PySem.W.Frag) (fd:FuncData) (ps ks:List Str) (g:List Value→List Value→List Value) (gV:List V→List V→List V):Prop where
  to:∀ (s:Shared) (us ws:List Value),K.In s.heap→(g us ws).length=ps.length→BindsTo s fd ⟨us,ks.zip ws⟩ (ps.zip (g us ws))
  rel:∀ {vs:List V} {us:List Value} {zs:List V} {ws:List Value},Vals vs us→Vals zs ws→Vals (gV vs zs) (g us ws)
noncomputable def tCallK (sp:Sp) (gV:List V→List V→List V) (E:XK) (t tk:TA):TE:=fun σ H Q=>t σ H fun vs H1=>tk σ H1 fun zs H2=>sp (gV vs zs) H2 Q E
variable {g:List Value→List Value→List Value} {gV:List V→List V→List V}
end
structure FnScope (N P:List Str) (sc:Scope):Prop where
  kind:sc.kind=.function
  co:sc.isCoroutine=false
  gen:sc.isGenerator=false
  nd:N.Nodup
  pre:N.take P.length=P
  par:∀ x∈P,sc.names.lookup x=some .local∨sc.names.lookup x=some .cell
  nofree:∀ y∈sc.names,y.2≠.free
theorem bindL_out {kindOf:Str→Option NameKind} {x:Str}:∀ {binds:List (Str×Value)} {m:Str→Option Value},(∀ v,(x,v)∉binds)→bindL kindOf binds m x=m x
  | [],_,_=>rfl
  | (n,v)::r,m,h=>by
    unfold bindL
    rw [bindL_out fun w hw=>h w (List.mem_cons_of_mem _ hw)]
    split
    · have:x≠n:=by rintro rfl; exact h v List.mem_cons_self
      simp [this]
    · rfl
theorem bindC_out {kindOf:Str→Option NameKind} {x:Str}:∀ {binds:List (Str×Value)} {m:Str→Option Value},(∀ v,(x,v)∉binds)→bindC kindOf binds m x=m x
  | [],_,_=>rfl
  | (n,v)::r,m,h=>by
    unfold bindC
    rw [bindC_out fun w hw=>h w (List.mem_cons_of_mem _ hw)]
    split
    · rfl
    · have:x≠n:=by rintro rfl; exact h v List.mem_cons_self
      simp [this]
theorem bindL_get {kindOf:Str→Option NameKind} {x:Str} {v:Value}:∀ {P:List Str} {vs:List Value} {i:Nat} {m:Str→Option Value},P.Nodup→P[i]?=some x→vs[i]?=some v→kindOf x=some .local →
    bindL kindOf (P.zip vs) m x=some v
  | [],_,_,_,_,h,_,_=>by simp at h
  | _::_,[],_,_,_,_,h,_=>by simp at h
  | p::P,w::vs,0,m,nd,h1,h2,hk=>by
    simp at h1 h2; subst h1; subst h2
    show bindL kindOf ((p,w)::P.zip vs) m p=_
    unfold bindL
    rw [bindL_out fun v hv=>(List.nodup_cons.mp nd).1 (List.of_mem_zip hv).1,if_pos hk]
    simp
  | p::P,w::vs,i+1,m,nd,h1,h2,hk=>by
    show bindL kindOf ((p,w)::P.zip vs) m x=_
    unfold bindL
    exact bindL_get (i:=i) (List.nodup_cons.mp nd).2 (by simpa using h1) (by simpa using h2) hk
theorem bindC_get {kindOf:Str→Option NameKind} {x:Str} {v:Value}:∀ {P:List Str} {vs:List Value} {i:Nat} {m:Str→Option Value},P.Nodup→P[i]?=some x→vs[i]?=some v→kindOf x≠some .local →
    bindC kindOf (P.zip vs) m x=some v
  | [],_,_,_,_,h,_,_=>by simp at h
  | _::_,[],_,_,_,_,h,_=>by simp at h
  | p::P,w::vs,0,m,nd,h1,h2,hk=>by
    simp at h1 h2; subst h1; subst h2
    show bindC kindOf ((p,w)::P.zip vs) m p=_
    unfold bindC
    rw [bindC_out fun v hv=>(List.nodup_cons.mp nd).1 (List.of_mem_zip hv).1,if_neg hk]
    simp
  | p::P,w::vs,i+1,m,nd,h1,h2,hk=>by
    show bindC kindOf ((p,w)::P.zip vs) m x=_
    unfold bindC
    exact bindC_get (i:=i) (List.nodup_cons.mp nd).2 (by simpa using h1) (by simpa using h2) hk
noncomputable def start (N:List Str) (vs:List V):St:=vs.map some++List.replicate (N.length - vs.length) none
noncomputable def cxOf (CX:CXT) (P:Program) (w:World) (K:PySem.W.Frag) (mg:Str→Option Value) (base:Heap) (N:List Str) (qual:Str) (scope:Scope) (f:Addr) (cd:Value) (A:Around) (outer:List Env) (s:Shared) (H:Hp) (E:XK):Cx where
  prog:=P
  w:=w
  K:=K
  mg:=mg
  base:=base
  A:=A.deeper (envOfC qual scope s.heap.objs.size f cd)
  N:=N
  s₀:=s
  H₀:=H
  env:=envOfC qual scope s.heap.objs.size f cd
  outer:=outer
  stack:=envOfC qual scope s.heap.objs.size f cd::outer
  ex:=[]
  calm:=true
  fn:=fun _=>true
  pn:=[]
  xe:=fun e s'=>wpAny (model P w) (A.deeper (envOfC qual scope s.heap.objs.size f cd)) (leaving (envOfC qual scope s.heap.objs.size f cd) e) (fun _ s''=>CX outer H s E e s'') (fun e' s''=>CX outer H s E e' s'') s'
theorem cell_has {sc:Scope} {n:Nat} {x:Str} (h:sc.names.lookup x=some .cell):∃ c,(cellsFrom n sc.names []).lookup x=some c:=by
  have q:=PySem.W.cellsFrom_some sc.names n [] (.inl h)
  exact Option.isSome_iff_exists.mp q
theorem inv_start {CX:CXT} {P:Program} {w:World} {K:PySem.W.Frag} {mg:Str→Option Value} {base:Heap} {N ps:List Str} {qual:Str} {scope:Scope} {f:Addr} {cd:Value} {A:Around} {outer:List Env} {s s1:Shared} {H:Hp} {E:XK} {us:List Value} {vs:List V}
    (S:FnScope N ps scope) (hd:A.handled=none) (e0:Env0 P w K mg base A outer s H) (hl:vs.length=ps.length) (r:Vals vs us)
    (x:InCallC s s.heap.objs.size (bindL (envOfC qual scope s.heap.objs.size f cd).kindOf (ps.zip us) fun _=>none) (cellsFrom (s.heap.objs.size+1) scope.names []) (bindC (envOfC qual scope s.heap.objs.size f cd).kindOf (ps.zip us) fun _=>none) s1) :
    Inv (cxOf CX P w K mg base N qual scope f cd A outer s H E) [] (start N vs) H s1:=by
  have hpl:ps.length≤N.length:=by have:=congrArg List.length S.pre; rw [List.length_take] at this; omega
  obtain ⟨h1,tk,rfl,hk⟩:=x.done
  have noA:∀ b:Addr,b∉(cxOf CX P w K mg base N qual scope f cd A outer s H E).ex:=fun b z=>absurd (show b∈([]:List Addr) from z) (by simp)
  refine ⟨⟨e0.mod,S.kind,rfl,rfl,Nat.le_refl _,fun y z c h1 h2=>?_,fun y hy=>?_,fun y c _ h=>?_,fun _=>hd,Around.frames_deeper e0.frames,.inr ⟨rfl,rfl⟩,fun b z=>absurd z (noA b),e0.bs,e0.bsz,fun b _ _=>noA b,fun b z=>absurd z (noA b),e0.funs,e0.frf⟩,
    rfl,e0.bare,Un.kept hk,⟨_,x.toInCall.ns,fun i y v h1 h2 h3=>?_⟩,fun y c h=>⟨_,x.cell y c h⟩,e0.hok.fresh (Nat.le_refl _),fun y c h=>?_,fun p hp=>absurd (show p∈([]:List (Addr×Obj)) from hp) (by simp),e0.hok.kept hk,?_⟩
  · exact name_of_addr x.apart (PySem.mem_of_lookup h1) (PySem.mem_of_lookup h2)
  · have hy:scope.names.lookup y=some .cell∨scope.names.lookup y=some .free:=hy
    rcases hy with hy | hy
    · exact cell_has hy
    · exact absurd rfl (S.nofree _ (PySem.mem_of_lookup hy))
  · exact Nat.le_of_lt (x.above y c (PySem.mem_of_lookup h))
  · have hi:i < vs.length:=by
      unfold start at h2
      by_cases hi:i < vs.length
      · exact hi
      · rw [List.getElem?_append_right (by simpa using hi)] at h2
        rw [List.getElem?_replicate] at h2
        split at h2 <;> cases h2
    have ha:vs[i]?=some v:=by
      unfold start at h2
      rw [List.getElem?_append_left (by simpa using hi),List.getElem?_map] at h2
      cases e:vs[i]? with
      | none=>rw [e] at h2; cases h2
      | some a=>rw [e] at h2; cases h2; rfl
    obtain ⟨u,hu,rv⟩:=r.get ha
    have hp:ps[i]?=some y:=by
      rw [← S.pre,List.getElem?_take_of_lt (by omega)]; exact h1
    have ndP:ps.Nodup:=by rw [← S.pre]; exact S.nd.sublist (List.take_sublist _ _)
    refine ⟨u,rv,?_⟩
    rcases S.par y (List.mem_of_getElem? hp) with k | k
    · exact .inl ⟨k,bindL_get ndP hp hu k⟩
    · obtain ⟨c,e⟩:=cell_has (n:=s.heap.objs.size+1) k
      refine .inr ⟨.inl k,c,e,?_⟩
      have q:=x.cell y c e
      rw [bindC_get ndP hp hu (by show scope.names.lookup y≠_; rw [k]; decide)] at q
      exact q
  · exact e0.hok.fresh (Nat.le_of_lt (x.above y c (PySem.mem_of_lookup h)))
  · unfold start
    show _=N.length
    rw [List.length_append,List.length_map,List.length_replicate]
    omega
theorem fn_of {CX:CXT} {P:Program} {w:World} {K:PySem.W.Frag} {mg:Str→Option Value} {base:Heap} {k:Nat} {f:Addr} {name qual:Str} {params:Arguments} {body:List Stmt} {scope:Scope} {dV kV doc pm cdv ct oc:Value} {an od:Option Addr}
    {osl:Array (Option Value)} {N ps:List Str} {sp:Sp} (lk:K.lookup f=some ⟨oc,od,.func (PySem.W.fnOf name qual params body scope dV kV doc pm an cdv ct),osl⟩) (hcd:PySem.W.codeIn K cdv qual=true) (S:FnScope N ps scope)
    (len:∀ vs H Q E,sp vs H Q E→vs.length=ps.length)
    (hbody:∀ (A:Around) (outer:List Env) (s:Shared) (H:Hp) (vs:List V) (Q:VK) (E:XK),Room k (A.deeper (envOfC qual scope s.heap.objs.size f cdv))→sp vs H Q E →
      ∃ t,PSs (cxOf CX P w K mg base N qual scope f cdv A outer s H E) body t∧t { nx:=fun _ H'=>Q .non H',rt:=Q } (start N vs) H) :
    FnOk P w K mg base CX (k+1) f (PySem.W.fnOf name qual params body scope dV kV doc pm an cdv ct) ps sp:=by
  refine ⟨len,fun A outer s H args us vs Q E hr e0 hb r hsp=>?_⟩
  have hl:=len _ _ _ _ hsp
  have KX:K.In s.heap:=e0.mod.kin.keeps fun b o e=>(e0.bs b o e).1
  have lim:s.heap.NoLimit:=e0.mod.nolimit.keeps fun b o e=>(e0.bs b o e).1
  have hkind:∀ y∈ps.zip us,scope.names.lookup y.1=some .local∨(scope.names.lookup y.1=some .cell∧((cellsFrom (s.heap.objs.size+1) scope.names []).lookup y.1).isSome=true):=fun ⟨n,v⟩ hy=>by
    rcases S.par n (List.of_mem_zip hy).1 with q | q
    · exact .inl q
    · exact .inr ⟨q,PySem.W.cellsFrom_some _ _ _ (.inl q)⟩
  refine codeAny_call_function hr.depth (KX _ _ lk) rfl S.co S.gen rfl (PySem.W.codeRec_of KX hcd) (hb _ _ _ _ ?_)
  refine wpAny_newFunctionEnv_cells S.kind hkind fun env he s1 x=>?_
  subst he
  refine ⟨lim.keeps x.toInCall.keep,codeAny_func ?_⟩
  obtain ⟨t,ht,hq⟩:=hbody A outer s H vs Q E (hr.deeper _) hsp
  have I:Inv (cxOf CX P w K mg base N qual scope f cdv A outer s H E) [] (start N vs) H s1:=inv_start S hr.hd e0 hl r x
  refine wpAny_mono (ht [] s1 (start N vs) H _ I hq) (fun fl s' hs=>?_) fun e s' hs=>hs
  have fin:∀ {σ':St} {H':Hp} {v:V} {u:Value},Inv (cxOf CX P w K mg base N qual scope f cdv A outer s H E) [] σ' H' s'→RelV v u→Q v H'→CE outer P w H s Q u s' :=
    fun {σ' H' v u} J rv q=>⟨v,H',J.os,J.bare,J.base,J.hok,rv,q⟩
  cases fl with
  | ret u =>
    obtain ⟨v,σ',H',J,rv,q⟩:=hs
    exact fin J rv q
  | next =>
    obtain ⟨σ',H',J,q⟩:=hs
    exact fin (v:=V.non) (u:=Value.none) J rfl q
  | brk =>
    obtain ⟨_,_,_,q⟩:=hs
    exact False.elim q
  | cont =>
    obtain ⟨_,_,_,q⟩:=hs
    exact False.elim q
end L2
namespace L2
open PySem PySem.Spec PyProof.Rows
section
variable {X:Cx} {x:Str} {p pos:Pos} {e:Expr} {es:List Expr} {t:TA} {id T:String} {r:List V→Hp→VK→Prop}
noncomputable def tCB (r:List V→Hp→VK→Prop) (t:TA):TE:=fun σ H Q=>t σ H fun vs H1=>r vs H1 Q
theorem pe_callB (hc:CallR X (.builtin id) r) (hg:Gl X x) (hm:X.mg x=none) (hv:bootBuiltins x=some (.builtin id)) (ha:PA X (e::es) t) (hn:x ≠ "__name__" := by decide) (hdb:(x==("__debug__" : Str))=false:=by decide)
    (he:starEach (e::es) X.env=(false,eval e X.env)::starEach es X.env:=by rfl) (hpl:(backTo pos (starEach es X.env)).any (·.1)=false:=by rfl):PE X (.Call (.Name x p) (e::es) [] pos) (tCB r t):=by
  intro pins s σ H Q I h
  refine wpAny_Call_Name_kw (ld_blt I hg hm hv ?_ hn hdb)
  exact PyProof.Rows.callWith_builtin1 (thn (ha pos pins s σ H _ I h) fun us s1 ⟨vs,H1,I1,r1,q1⟩=>hc pins s1 σ H1 vs us Q I1 r1 q1) he hpl
theorem pe_callTy (hc:CallR X (.type T) r) (hg:Gl X x) (hm:X.mg x=none) (hv:bootBuiltins x=some (.type T)) (ha:PA X (e::es) t) (hn:x ≠ "__name__" := by decide) (hdb:(x==("__debug__" : Str))=false:=by decide)
    (he:starEach (e::es) X.env=(false,eval e X.env)::starEach es X.env:=by rfl) (hpl:(backTo pos (starEach es X.env)).any (·.1)=false:=by rfl):PE X (.Call (.Name x p) (e::es) [] pos) (tCB r t):=by
  intro pins s σ H Q I h
  refine wpAny_Call_Name_kw (ld_blt I hg hm hv ?_ hn hdb)
  exact PyProof.Rows.callWith_type1 (thn (ha pos pins s σ H _ I h) fun us s1 ⟨vs,H1,I1,r1,q1⟩=>hc pins s1 σ H1 vs us Q I1 r1 q1) he hpl
end
end L2
namespace HT
open PySem PyProof.Rows
noncomputable def lexLt:List Int→List Int→Bool
  | [],[]=>false
  | [],_::_=>true
  | _::_,[]=>false
  | x::xs,y::ys=>if x=y then lexLt xs ys else decide (x < y)
section
open PySem.SeqAt
open PySem.AutoSeq1 (wpAny_loadPart')
open PySem.MeetsSeq PySem.MeetsSeq2 PySem.MeetsSeq3
end
section
variable {prog:Program} {w:World} {A:Around} {E:Value→Shared→Prop} {s:Shared}
theorem cat_tup {t b:Addr} {vs ws:List Value} {Q:Value→Shared→Prop} (ht:IsTup s.heap t vs.toArray) (hb:IsTup s.heap b ws.toArray) (hv:vs≠[])
    (h1:ws=[]→Q (.ref t) s) (h2:ws≠[]→Q (.ref s.heap.objs.size) { s with heap:=s.heap.push { cls:=.type "tuple", data:=.seq (vs++ws).toArray } })
    (hsz:vs.length+ws.length≤sizeLine):wpAny (model prog w) A (binaryOp .Add (.ref t) (.ref b)) Q E s:=by
  obtain ⟨⟨cls,dd,data,sl⟩,ho,hc,n,hd⟩:=id ht
  obtain ⟨⟨cls2,dd2,data2,sl2⟩,ho2,hc2,n2,hd2⟩:=id hb
  simp only at hc hd hc2 hd2
  subst hc hd hc2 hd2
  have e:vs.toArray++ws.toArray=(vs++ws).toArray:=by simp
  by_cases hw:ws=[]
  · exact concat_meets ⟨_,ho,rfl⟩ ⟨_,ho2,rfl⟩ noFill_tuple_add seq_tuple_add PySem.F.slot_tuple_add PySem.F.entry_tuple_add (PySem.F.args_tuple_add_2 _ _)
      (tuple_addW1 t b vs.toArray ws.toArray n n2 dd dd2 sl sl2 (by simpa using hv) (by simp [hw])) ⟨ho,ho2,h1 hw⟩
  · refine concat_meets ⟨_,ho,rfl⟩ ⟨_,ho2,rfl⟩ noFill_tuple_add seq_tuple_add PySem.F.slot_tuple_add PySem.F.entry_tuple_add (PySem.F.args_tuple_add_2 _ _)
      (tuple_addW2 t b vs.toArray ws.toArray n n2 dd dd2 sl sl2 (by simpa using hv) (by simpa using hw) (by rw [List.size_toArray,List.size_toArray]; exact hsz)) ⟨ho,ho2,?_⟩
    rw [e]
    exact h2 hw
noncomputable def sIx (n d:Nat):Option Int→Nat
  | none=>d
  | some v=>if v < 0 then (v+(n:Int)).toNat else min v.toNat n
theorem sIx_none (n d:Nat):sIx n d none=d:=rfl
theorem sIx_nat (n d k:Nat):sIx n d (some (k:Int))=min k n:=by
  show (if (k:Int) < 0 then ((k:Int)+(n:Int)).toNat else min (k:Int).toNat n)=min k n
  rw [if_neg (by omega),Int.toNat_natCast]
theorem sIx_le (n d:Nat) (hd:d≤n) (o:Option Int):sIx n d o≤n:=by
  cases o with
  | none=>exact hd
  | some v =>
    show (if v < 0 then (v+(n:Int)).toNat else min v.toNat n)≤n
    by_cases hv:v < 0
    · rw [if_pos hv]; omega
    · rw [if_neg hv]; exact Nat.min_le_right _ _
theorem clip_eq (v:Int) (n d:Nat):(if v < 0 then max (v+(n:Int)) 0 else min v (n:Int))=((sIx n d (some v):Nat):Int):=by
  show (if v < 0 then max (v+(n:Int)) 0 else min v (n:Int))=(((if v < 0 then (v+(n:Int)).toNat else min v.toNat n):Nat):Int)
  by_cases hv:v < 0
  · simp only [if_pos hv]; omega
  · simp only [if_neg hv]; omega
theorem adjust_gen (lo hi:Option Int) (n:Nat):Builtin.Slice.sliceAdjust lo hi 1 (n:Int)=(((sIx n 0 lo:Nat):Int),((sIx n n hi:Nat):Int)):=by
  have h1:¬ ((1:Int) < 0):=by omega
  unfold Builtin.Slice.sliceAdjust
  simp only [h1,if_false]
  refine Prod.ext ?_ ?_
  · cases lo with
    | none=>rfl
    | some v=>exact clip_eq v n 0
  · cases hi with
    | none=>rfl
    | some v=>exact clip_eq v n n
theorem places_gen (i j:Nat):Builtin.Slice.slicePlaces (i:Int) (j:Int) 1=j - i:=by
  unfold Builtin.Slice.slicePlaces
  have h1:(1:Int) > 0:=by omega
  simp only [h1,if_true,Int.ediv_one]
  split <;> omega
theorem slicePart_ {v:Value} {o:Option Int} {Q:Option Int→Shared→Prop} (p:IsPart v o) (h:Q o s):wpAny (model prog w) A (Builtin.Slice.slicePartIndex v) Q E s:=by
  cases p with
  | none=>exact slicePart_none h
  | int i t=>exact slicePart_int h
theorem sliceApplied_gen {sl:Addr} {vl vu:Value} {lo hi:Option Int} {n:Nat} {Q:Int×Int×Nat→Shared→Prop} (hs:s.heap.IsSliceOf sl vl vu .none) (pl:IsPart vl lo) (pu:IsPart vu hi)
    (h:Q (((sIx n 0 lo:Nat):Int),1,sIx n n hi - sIx n 0 lo) s):wpAny (model prog w) A (Builtin.Slice.sliceApplied (.ref sl) (pure (n:Int))) Q E s:=by
  obtain ⟨os,hos,hcs,hds⟩:=id hs
  unfold Builtin.Slice.sliceApplied Builtin.Slice.sliceFields
  refine wpAny_bind (wpAny_bind (wpAny_field hos hds (x:=vl) rfl (wpAny_bind (wpAny_field hos hds (x:=vu) rfl (wpAny_bind (wpAny_field hos hds (x:=.none) rfl (wpAny_pure ?_)))))))
  refine wpAny_bind (slicePart_none ?_)
  show wpAny _ _ (if ((1:Int)==0)=true then _ else _) _ _ s
  rw [if_neg (by decide)]
  refine wpAny_bind (slicePart_ pl (wpAny_bind (slicePart_ pu (wpAny_bind (wpAny_pure ?_)))))
  show wpAny _ _ (match Builtin.Slice.sliceAdjust lo hi 1 (n:Int) with | (lo,hi)=>pure (lo,(1:Int),Builtin.Slice.slicePlaces lo hi 1)) _ _ s
  rw [adjust_gen lo hi n]
  show wpAny _ _ (pure (((sIx n 0 lo:Nat):Int),(1:Int),Builtin.Slice.slicePlaces ((sIx n 0 lo:Nat):Int) ((sIx n n hi:Nat):Int) 1)) _ _ s
  rw [places_gen]
  exact wpAny_pure h
theorem pick_gen (xs:Array Value) (i k:Nat):((List.range k).filterMap fun (m:Nat)=>xs[((i:Int)+(m:Int)*1).toNat]?).toArray=((xs.toList.drop i).take k).toArray:=by
  have e:(fun (m:Nat)=>xs[((i:Int)+(m:Int)*1).toNat]?)=fun m=>xs[i+m]?:=by
    funext m
    have:((i:Int)+(m:Int)*1).toNat=i+m:=by omega
    rw [this]
  rw [e]
  have:=pick_run xs i k
  rw [List.filterMap_map] at this
  have e2:((fun x=>xs[x]?)∘fun x=>i+x)=fun m=>xs[i+m]?:=rfl
  rw [e2] at this
  rw [this]
theorem getItem_tuple_cut {t sl:Addr} {items:Array Value} {vl vu:Value} {lo hi:Option Int} {Q:Value→Shared→Prop} (ht:IsTup s.heap t items) (hs:s.heap.IsSliceOf sl vl vu .none) (pl:IsPart vl lo) (pu:IsPart vu hi)
    (hw:¬ (sIx items.size 0 lo=0∧sIx items.size items.size hi=items.size))
    (h:Q (.ref s.heap.objs.size) { s with heap:=s.heap.push { cls:=.type "tuple", data:=.seq ((items.toList.drop (sIx items.size 0 lo)).take (sIx items.size items.size hi - sIx items.size 0 lo)).toArray } })
    (hsz:items.size≤sizeLine):wpAny (model prog w) A (getItem (.ref t) (.ref sl)) Q E s:=by
  have htake:sizeOk (.seq ((items.toList.drop (sIx items.size 0 lo)).take (sIx items.size items.size hi - sIx items.size 0 lo)).toArray):=by
    show ((items.toList.drop (sIx items.size 0 lo)).take (sIx items.size items.size hi - sIx items.size 0 lo)).toArray.size≤sizeLine
    rw [List.size_toArray,List.length_take,List.length_drop,Array.length_toList]
    omega
  have hj:sIx items.size items.size hi≤items.size:=sIx_le _ _ (Nat.le_refl _) hi
  obtain ⟨os,hos,hcs,hds⟩:=id hs
  have hTs:s.TypeIs (.ref sl) "slice" := ⟨os,hos,hcs⟩
  unfold getItem
  try with_reducible refine wpAny_holding ?_
  first | refine wpAny_bind (wpAny_pure ?_) | skip
  refine wpAny_bind (wpAny_sequenceKey ht.typeIs (by decide) ?_)
  refine wpAny_bind (wpAny_callSpecial?_slot (name:=Str.ofString "__getitem__") ht.typeIs PyProof.Rows.slot_tuple_getitem
    (wpAny_call_entry PyProof.Rows.slot_tuple_getitem ht.typeIs entry_tuple_getitem ?_ (args_tuple_getitem _ _)))
  show wpAny _ _ (Builtin.Tuple.tupleItemsOf (.ref t) >>= _) _ _ s
  refine wpAny_bind (tupleItemsOf_ ht ?_)
  refine wpAny_bind (wpAny_typeOf hTs ?_)
  rw [if_pos (by decide)]
  refine wpAny_bind (sliceApplied_gen hs pl pu ?_)
  have hno:¬ ((((sIx items.size 0 lo:Nat):Int)==0&&(1:Int)==1&&(sIx items.size items.size hi - sIx items.size 0 lo)==items.size)=true):=by
    intro q
    rw [Bool.and_eq_true,Bool.and_eq_true] at q
    have q1:((sIx items.size 0 lo:Nat):Int)=0:=eq_of_beq q.1.1
    have q2:sIx items.size items.size hi - sIx items.size 0 lo=items.size:=eq_of_beq q.2
    exact hw ⟨by omega,by omega⟩
  show wpAny _ _ (if (((sIx items.size 0 lo:Nat):Int)==0&&(1:Int)==1&&(sIx items.size items.size hi - sIx items.size 0 lo)==items.size)=true then _ else _) _ _ s
  rw [if_neg hno,pick_gen]
  first
    | exact wpAny_bind (m:=Builtin.Tuple.tupleExact _) (wpAny_newObj_type (wpAny_pure ⟨_,rfl,wpAny_pure h⟩) htake)
    | exact wpAny_bind (m:=Builtin.Tuple.tupleExact _) (wpAny_newObj_type (wpAny_bind (wpAny_pure (wpAny_pure ⟨_,rfl,wpAny_pure h⟩))) htake)
    | exact wpAny_bind (wpAny_bind (m:=Builtin.Tuple.tupleExact _) (wpAny_newObj_type (wpAny_pure (wpAny_pure ⟨_,rfl,wpAny_pure h⟩)) htake))
    | exact wpAny_bind (wpAny_bind (m:=Builtin.Tuple.tupleExact _) (wpAny_newObj_type (wpAny_pure ⟨_,rfl,wpAny_pure h⟩) htake))
end
end HT
namespace L2
open PySem PySem.Spec PyProof.Rows
noncomputable abbrev TO:=St→Hp→(Option Int→Hp→Prop)→Prop
noncomputable def PO (X:Cx) (e:Option Expr) (t:TO):Prop :=
  ∀ (pins:List (Addr×Obj)) (s:Shared) (σ:St) (H:Hp) (Q:Option Int→Hp→Prop),Inv X pins σ H s→t σ H Q →
    wpAny (model X.prog X.w) X.A (evalPart e X.env) (fun u s'=>∃ o H',Inv X pins σ H' s'∧IsPart u o∧Q o H') X.xe s
noncomputable def tNoPart:TO:=fun _ H Q=>Q none H
noncomputable def tPart (t:TE):TO:=fun σ H Q=>t σ H fun x H1=>∃ i,x=.int i∧Q (some i) H1
theorem intsAre_of {ns:List Int}:∀ {us:List Value},Vals (ns.map V.int) us→IntsAre us ns:=by
  induction ns with
  | nil=>intro us r; rw [List.map_nil] at r; cases r; exact .nil
  | cons n ns ih =>
    intro us r
    rw [List.map_cons] at r
    cases r with
    | cons r1 r2 =>
      obtain ⟨t,e⟩:=r1
      subst e
      exact .cons n t (ih r2)
section
variable {X:Cx} {e:Expr} {te:TE} {lo hi:Option Expr} {tl th:TO} {pos p2:Pos}
theorem po_none:PO X none tNoPart:=by
  intro pins s σ H Q I h
  rw [evalPart_none]
  exact wpAny_pure ⟨none,H,I,.none,h⟩
theorem po_some (h:PE X e te):PO X (some e) (tPart te):=by
  intro pins s σ H Q I hw
  rw [evalPart_some]
  refine thn (h pins s σ H _ I hw) fun u s1 ⟨x,H1,I1,r1,q1⟩=>?_
  obtain ⟨i,rfl,q⟩:=q1
  obtain ⟨t,rfl⟩:=r1
  exact ⟨some i,H1,I1,.int i t,q⟩
noncomputable def SlR (X:Cx) (r:V→Option Int→Option Int→Hp→VK→Prop):Prop :=
  ∀ (pins:List (Addr×Obj)) (s:Shared) (σ:St) (H:Hp) (x:V) (v vl vu:Value) (lo hi:Option Int) (sl:Addr) (Q:VK),Inv X pins σ H s→RelV x v→s.heap.IsSliceOf sl vl vu .none→IsPart vl lo→IsPart vu hi→r x lo hi H Q →
    ∃ T id,typeLookup (.type T) "__getitem__" = pure (some (.builtin id))∧s.TypeIs v T∧wpAny (model X.prog X.w) X.A (getItem v (.ref sl)) (EP X pins σ Q) X.xe s
theorem SlR.or {r r':V→Option Int→Option Int→Hp→VK→Prop} (h:SlR X r) (h':SlR X r'):SlR X (fun x lo hi H Q=>r x lo hi H Q∨r' x lo hi H Q):=by
  intro pins s σ H x v vl vu lo hi sl Q I rx hs pl pu q
  rcases q with q | q
  · exact h pins s σ H x v vl vu lo hi sl Q I rx hs pl pu q
  · exact h' pins s σ H x v vl vu lo hi sl Q I rx hs pl pu q
noncomputable def tSl (r:V→Option Int→Option Int→Hp→VK→Prop) (te:TE) (tl th:TO):TE:=fun σ H Q=>te σ H fun x H1=>tl σ H1 fun l H2=>th σ H2 fun u H3=>r x l u H3 Q
theorem pe_slice {r:V→Option Int→Option Int→Hp→VK→Prop} (hr:SlR X r) (he:PE X e te) (hl:PO X lo tl) (hu:PO X hi th):PE X (.Subscript e (.Slice lo hi none p2) pos) (tSl r te tl th):=by
  intro pins s σ H Q I h
  refine Subscript_ (thn (he pins s σ H _ I h) fun v s1 ⟨x,H1,I1,r1,q1⟩=>?_)
  refine wpAny_Slice (thn (hl pins s1 σ H1 _ I1 q1) fun vl s2 ⟨l,H2,I2,pl,q2⟩=>thn (hu pins s2 σ H2 _ I2 q2) fun vu s3 ⟨u,H3,I3,pu,q3⟩=>?_)
  rw [evalPart_none]
  refine wpAny_pure ?_
  have I4:Inv X pins σ H3 { s3 with heap:=s3.heap.push { cls:=.type "slice", data:=.fields #[vl,vu,.none] } }:=I3.kept (t':=s3.toks) fun b ob q=>Heap.get?_push_of_some _ q
  obtain ⟨T,id,hT,ht,hg⟩:=hr pins { s3 with heap:=s3.heap.push { cls:=.type "slice", data:=.fields #[vl,vu,.none] } } σ H3 x v vl vu l u s3.heap.objs.size Q I4 r1 (Heap.IsSliceOf.new ..) pl pu q3
  show wpAny (model X.prog X.w) X.A (subscriptTail e (.Slice lo hi none p2) v (.ref s3.heap.objs.size)) (EP X pins σ Q) X.xe { s3 with heap:=s3.heap.push { cls:=.type "slice", data:=.fields #[vl,vu,.none] } }
  exact tail_any (ops:=[.ref s3.heap.objs.size,v]) ht hT hg (by with_unfolding_all rfl)
noncomputable def cutV (xs:List V) (lo hi:Option Int):List V:=(xs.drop (HT.sIx xs.length 0 lo)).take (HT.sIx xs.length xs.length hi - HT.sIx xs.length 0 lo)
theorem cutV_length (xs:List V) (lo hi:Option Int):(cutV xs lo hi).length≤xs.length:=by
  unfold cutV
  rw [List.length_take,List.length_drop]
  omega
noncomputable def rSlT (K:PySem.W.Frag):V→Option Int→Option Int→Hp→VK→Prop:=fun x lo hi H Q=>∃ a xs,x=.ref a∧SqT K H a xs ∧
  ¬ (HT.sIx xs.length 0 lo=0∧HT.sIx xs.length xs.length hi=xs.length)∧∀ p,H p=none→Q (.ref p) (upd H p (.tup (cutV xs lo hi)))
theorem sl_tup:SlR X (rSlT X.K):=by
  intro pins s σ H x v vl vu lo hi sl Q I rx hs pl pu h
  obtain ⟨a,xs,rfl,hx,hw,q⟩:=h
  cases rx
  obtain ⟨its,r,ht,hz⟩:=I.tuple hx
  have hlen:its.toArray.size=xs.length:=by rw [List.size_toArray]; exact r.length.symm
  refine ⟨"tuple", _,PyProof.Rows.slot_tuple_getitem.lookup,ht.typeIs,?_⟩
  refine HT.getItem_tuple_cut ht hs pl pu (by rw [hlen]; exact hw) ?_ (by rw [hlen]; exact hz)
  rw [hlen]
  refine ⟨.ref s.heap.objs.size,_,I.laid (t':=s.toks) (o:=.tup (cutV xs lo hi)) (fun b ob q=>Heap.get?_push_of_some _ q) (Nat.le_refl _) ?_,rfl,q _ (I.hok.fresh (Nat.le_refl _))⟩
  exact ⟨Nat.le_trans (cutV_length xs lo hi) hz,_,(r.drop (HT.sIx xs.length 0 lo)).take (HT.sIx xs.length xs.length hi - HT.sIx xs.length 0 lo),IsTup.new _ _⟩
noncomputable def rLtT (K:PySem.W.Frag):R2:=fun x y H Q=>∃ a b ns ms,x=.ref a∧y=.ref b∧SqT K H a (ns.map V.int)∧SqT K H b (ms.map V.int)∧Q (.bl (HT.lexLt ns ms)) H
noncomputable def rCatT (K:PySem.W.Frag):R2:=fun x y H Q=>∃ a b xs ys,x=.ref a∧y=.ref b∧SqT K H a xs∧SqT K H b ys∧xs≠[]∧xs.length+ys.length≤sizeLine ∧
  (ys=[]→Q (.ref a) H)∧(ys≠[]→∀ p,H p=none→Q (.ref p) (upd H p (.tup (xs++ys))))
theorem Vals.nil_iff {xs:List V} {us:List Value} (r:Vals xs us):us=[]↔xs=[]:=by
  cases r with
  | nil=>simp
  | cons _ _=>simp
end
end L2
namespace L2
open PySem PySem.Spec PyProof.Rows
noncomputable def ixN (n:Nat) (i:Int):Option Nat:=if 0≤i then (if i < n then some i.toNat else none) else if -(n:Int)≤i then some (i+n).toNat else none
noncomputable def atI {α:Type} (xs:List α) (i:Int):Option α:=(ixN xs.length i).bind fun j=>xs[j]?
theorem ixN_seq {n:Nat} {i:Int} {j:Nat} (h:ixN n i=some j):seqIndex? i n=some j∧j < n∧-(n:Int)≤i∧i < n:=by
  unfold ixN at h
  by_cases h0:0≤i
  · rw [if_pos h0] at h
    by_cases h1:i < n
    · rw [if_pos h1] at h
      have e:i.toNat=j:=Option.some.inj h
      exact ⟨by rw [seqIndex_of h0 h1,e],by omega,by omega,h1⟩
    · rw [if_neg h1] at h; cases h
  · rw [if_neg h0] at h
    by_cases h1:-(n:Int)≤i
    · rw [if_pos h1] at h
      have e:(i+n).toNat=j:=Option.some.inj h
      exact ⟨by rw [seqIndex_neg (by omega) h1,e],by omega,h1,by omega⟩
    · rw [if_neg h1] at h; cases h
theorem atI_get {α:Type} {xs:List α} {i:Int} {v:α} (h:atI xs i=some v):∃ j,seqIndex? i xs.length=some j∧xs[j]?=some v∧j < xs.length∧-(xs.length:Int)≤i∧i < xs.length:=by
  unfold atI at h
  cases e:ixN xs.length i with
  | none=>rw [e] at h; cases h
  | some j =>
    rw [e] at h
    obtain ⟨h1,h2,h3,h4⟩:=ixN_seq e
    exact ⟨j,h1,h,h2,h3,h4⟩
theorem atI_nat {α:Type} {xs:List α} {j:Nat} {v:α} (h:xs[j]?=some v):atI xs (j:Int)=some v:=by
  have hj:j < xs.length:=(List.getElem?_eq_some_iff.mp h).1
  have e:ixN xs.length (j:Int)=some j:=by
    unfold ixN
    rw [if_pos (by omega),if_pos (by omega)]; simp
  unfold atI; rw [e]; exact h
noncomputable def PlainIx (b:Expr):Prop:=∀ o i,subscripted b false o i=operate [o,i] (getItem o i)
noncomputable def IxR (X:Cx) (r:R2):Prop :=
  ∀ (value slice:Expr) (pins:List (Addr×Obj)) (s:Shared) (σ:St) (H:Hp) (x y:V) (v u:Value) (Q:VK),Inv X pins σ H s→RelV x v→RelV y u→r x y H Q →
    subscripted slice false v u=operate [v,u] (getItem v u)→wpAny (model X.prog X.w) X.A (subscriptTail value slice v u) (EP X pins σ Q) X.xe s
noncomputable def MtR (X:Cx) (id:String) (r:V→List V→Hp→VK→Prop):Prop :=
  ∀ (pins:List (Addr×Obj)) (s:Shared) (σ:St) (H:Hp) (x:V) (xs:List V) (v:Value) (us:List Value) (Q:VK),Inv X pins σ H s→RelV x v→Vals xs us→r x xs H Q →
    wpAny (model X.prog X.w) X.A (call (.builtin id) (v::us)) (EP X pins σ Q) X.xe s
section
variable {X:Cx} {a b:Expr} {ta tb:TE} {pos:Pos}
theorem IxR.or {r r':R2} (h:IxR X r) (h':IxR X r'):IxR X (fun x y H Q=>r x y H Q∨r' x y H Q):=by
  intro value slice pins s σ H x y v u Q I rx ry q hs
  rcases q with q | q
  · exact h value slice pins s σ H x y v u Q I rx ry q hs
  · exact h' value slice pins s σ H x y v u Q I rx ry q hs
theorem pe_ix {r:R2} (hr:IxR X r) (ha:PE X a ta) (hb:PE X b tb) (hs:PlainIx b):PE X (.Subscript a b pos) (tOp r ta tb):=by
  intro pins s σ H Q I h
  exact Subscript_ (binT ha hb I h fun v u s2 x y H2 I2 rx ry q=>hr a b pins s2 σ H2 x y v u Q I2 rx ry q (hs _ _))
noncomputable def rIxL (K:PySem.W.Frag):R2:=fun x y H Q=>∃ p xs i v,x=.ref p∧y=.int i∧SqL K H p xs∧atI xs i=some v∧Q v H
noncomputable def rIxT (K:PySem.W.Frag):R2:=fun x y H Q=>∃ p xs i v,x=.ref p∧y=.int i∧SqT K H p xs∧atI xs i=some v∧Q v H
noncomputable def rIxS:R2:=fun x y H Q=>∃ z i c,x=.str z∧y=.int i∧z.length≤sizeLine∧atI z.cps.toList i=some c∧Q (.str ⟨#[c]⟩) H
theorem ix_list:IxR X (rIxL X.K):=by
  intro value slice pins s σ H x y v u Q I rx ry h hs
  obtain ⟨p,xs,i,z,rfl,rfl,hq,he,q⟩:=h
  cases rx
  obtain ⟨t,rfl⟩:=ry
  obtain ⟨its,r,pl,hz⟩:=I.list hq
  obtain ⟨j,h1,h2,h3,h4,h5⟩:=atI_get he
  obtain ⟨w,ew,rw'⟩:=r.get h2
  have hl:=r.length
  have hn:=line63
  have fin:EP X pins σ Q w s:=⟨z,H,I,rw',q⟩
  by_cases h0:0≤i
  · have hj:i.toNat=j:=by
      rw [seqIndex_of h0 h5] at h1
      exact Option.some.inj h1
    exact item_listR pl.isList h0 (by omega) (by rw [hj]; simpa using ew) fin hs
  · have hj:(i+(its.toArray.size:Int)).toNat=j:=by
      rw [seqIndex_neg (by omega) h4] at h1
      rw [List.size_toArray,← hl]
      exact Option.some.inj h1
    exact subscriptTail_builtinR (x:=w) pl.isList.typeIs slot_list_getitem.lookup
      (wpAny_getItem_list_neg (Q:=fun r s'=>r=w∧EP X pins σ Q r s') pl.isList (by omega) (by rw [List.size_toArray] <;> omega) (by omega) (by rw [hj]; simpa using ew) ⟨rfl,fin⟩) hs
theorem ix_tup:IxR X (rIxT X.K):=by
  intro value slice pins s σ H x y v u Q I rx ry h hs
  obtain ⟨p,xs,i,z,rfl,rfl,hq,he,q⟩:=h
  cases rx
  obtain ⟨t,rfl⟩:=ry
  obtain ⟨its,r,pl,hz⟩:=I.tuple hq
  obtain ⟨j,h1,h2,h3,h4,h5⟩:=atI_get he
  obtain ⟨w,ew,rw'⟩:=r.get h2
  have hl:=r.length
  have hn:=line63
  have fin:EP X pins σ Q w s:=⟨z,H,I,rw',q⟩
  exact subscriptTail_builtinR (x:=w) pl.typeIs slot_tuple_getitem.lookup
    (getItem_tuple (j:=j) (Q:=fun r s'=>r=w∧EP X pins σ Q r s') pl (by omega) (by omega) (by rw [List.size_toArray,← hl]; exact h1) (by simpa using ew) ⟨rfl,fin⟩) hs
theorem ix_str:IxR X rIxS:=by
  intro value slice pins s σ H x y v u Q I rx ry h hs
  obtain ⟨z,i,c,rfl,rfl,hz,he,q⟩:=h
  obtain ⟨t,rfl⟩:=rx
  obtain ⟨t',rfl⟩:=ry
  obtain ⟨j,h1,h2,h3,h4,h5⟩:=atI_get he
  have hl:z.cps.toList.length=z.length:=by simp [Str.length]
  rw [hl] at h1 h4 h5
  have hn:=line63
  exact tail_any (typeIs_str s z t) slot_str_getitem.lookup (getItem_str (c:=c) (by
    have e1:decide (i < -(2 ^ 63:Int))=false:=decide_eq_false (by omega)
    have e2:decide (i ≥ 2 ^ 63)=false:=decide_eq_false (by omega)
    rw [e1,e2,Bool.or_false]) (by rw [h1]; simpa using h2) ⟨.str ⟨#[c]⟩,H,I.tok _,⟨_,rfl⟩,q⟩) hs
noncomputable def rIx (K:PySem.W.Frag):R2:=fun x y H Q=>rIxL K x y H Q∨rIxT K x y H Q∨rIxS x y H Q
theorem ix_seq:IxR X (rIx X.K):=ix_list.or (ix_tup.or ix_str)
noncomputable def rSetL:V→V→V→Hp→(Hp→Prop)→Prop:=fun o i v H Q=>∃ p xs k j,o=.ref p∧i=.int k∧H p=some (.lst xs)∧ixN xs.length k=some j∧Q (upd H p (.lst (xs.set j v)))
theorem slice_bounds (lo hi:Option Int) (n:Nat):(sliceBounds lo hi none n).1=((HT.sIx n 0 lo:Nat):Int)∧(sliceBounds lo hi none n).2.1=((HT.sIx n n hi:Nat):Int)∧(sliceBounds lo hi none n).2.2=1:=by
  refine ⟨?_,?_,rfl⟩
  · cases lo with
    | none=>simp [sliceBounds,HT.sIx]
    | some i =>
      simp only [sliceBounds,HT.sIx,Option.getD_none,show (1:Int) > 0 by decide,if_true]
      by_cases h:i < 0
      · simp only [h,if_true] <;> omega
      · simp only [h,if_false] <;> omega
  · cases hi with
    | none=>simp [sliceBounds,HT.sIx]
    | some i =>
      simp only [sliceBounds,HT.sIx,Option.getD_none,show (1:Int) > 0 by decide,if_true]
      by_cases h:i < 0
      · simp only [h,if_true] <;> omega
      · simp only [h,if_false] <;> omega
theorem slicePick_cut (its:List Value) (lo hi:Option Int):slicePick its.toArray lo hi none=((its.drop (HT.sIx its.length 0 lo)).take (HT.sIx its.length its.length hi - HT.sIx its.length 0 lo)).toArray:=by
  obtain ⟨h1,h2,h3⟩:=slice_bounds lo hi its.toArray.size
  unfold slicePick
  rw [h1,h2,h3]
  simp only [sliceRange_one,pick_run,List.size_toArray] <;> rfl
noncomputable def rSlL (K:PySem.W.Frag):V→Option Int→Option Int→Hp→VK→Prop:=fun x lo hi H Q=>∃ a xs,x=.ref a∧SqL K H a xs∧∀ p,H p=none→Q (.ref p) (upd H p (.lst (cutV xs lo hi)))
theorem sl_list:SlR X (rSlL X.K):=by
  intro pins s σ H x v vl vu lo hi sl Q I rx hs pl pu h
  obtain ⟨a,xs,rfl,hx,q⟩:=h
  cases rx
  obtain ⟨its,r,ht,hz⟩:=I.list hx
  have hlen:=r.length
  refine ⟨"list", _,slot_list_getitem.lookup,ht.isList.typeIs,?_⟩
  refine wpAny_getItem_list_slice ht.isList hs pl pu .none (by simp) ?_ (by rw [List.size_toArray] <;> omega)
  rw [slicePick_cut,← hlen]
  refine ⟨.ref s.heap.objs.size,_,I.laid (t':=s.toks) (o:=.lst (cutV xs lo hi)) (fun b ob q=>Heap.get?_push_of_some _ q) (Nat.le_refl _) ?_,rfl,q _ (I.hok.fresh (Nat.le_refl _))⟩
  exact ⟨Nat.le_trans (cutV_length xs lo hi) hz,_,0,(r.drop (HT.sIx xs.length 0 lo)).take (HT.sIx xs.length xs.length hi - HT.sIx xs.length 0 lo),Heap.get?_push_size _ rfl⟩
noncomputable def flatV:V→Bool
  | .non=>true
  | .bl _=>true
  | .int _=>true
  | .str _=>true
  | _=>false
noncomputable def eqV:V→V→Bool
  | .non,.non=>true
  | .bl a,.bl b=>a==b
  | .bl a,.int b=>(if a then 1 else 0)==b
  | .int a,.bl b=>a==(if b then 1 else 0)
  | .int a,.int b=>a==b
  | .str a,.str b=>a==b
  | _,_=>false
theorem eqAt_V {A:Around} {s:Shared} {y x:V} {u v:Value} (ry:RelV y u) (rx:RelV x v) (fy:flatV y=true) (fx:flatV x=true):SeqAt.EqAt A s u v (eqV y x):=by
  cases y with
  | non =>
    cases ry
    cases x with
    | non=>cases rx; exact SeqAt.EqAt.same _
    | bl b=>cases rx; exact SeqAt.EqAt.none_bool b
    | int b=>obtain ⟨t,rfl⟩:=rx; exact SeqAt.EqAt.none_int b t
    | str b=>obtain ⟨t,rfl⟩:=rx; exact SeqAt.EqAt.none_str b t
    | _=>exact absurd (show false=true from fx) Bool.false_ne_true
  | bl a =>
    cases ry
    cases x with
    | non=>cases rx; exact SeqAt.EqAt.bool_none a
    | bl b=>cases rx; exact SeqAt.EqAt.bool_bool a b
    | int b=>obtain ⟨t,rfl⟩:=rx; exact SeqAt.EqAt.bool_int a b t
    | str b=>obtain ⟨t,rfl⟩:=rx; exact SeqAt.EqAt.bool_str a b t
    | _=>exact absurd (show false=true from fx) Bool.false_ne_true
  | int a =>
    obtain ⟨t',rfl⟩:=ry
    cases x with
    | non=>cases rx; exact SeqAt.EqAt.int_none a t'
    | bl b=>cases rx; exact SeqAt.EqAt.int_bool a t' b
    | int b=>obtain ⟨t,rfl⟩:=rx; exact SeqAt.EqAt.int_int a t' b t
    | str b=>obtain ⟨t,rfl⟩:=rx; exact SeqAt.EqAt.int_str a t' b t
    | _=>exact absurd (show false=true from fx) Bool.false_ne_true
  | str a =>
    obtain ⟨t',rfl⟩:=ry
    cases x with
    | non=>cases rx; exact SeqAt.EqAt.str_none a t'
    | bl b=>cases rx; exact SeqAt.EqAt.str_bool a t' b
    | int b=>obtain ⟨t,rfl⟩:=rx; exact SeqAt.EqAt.str_int a t' b t
    | str b=>obtain ⟨t,rfl⟩:=rx; exact SeqAt.EqAt.str_str a t' b t
    | _=>exact absurd (show false=true from fx) Bool.false_ne_true
  | _=>exact absurd (show false=true from fy) Bool.false_ne_true
noncomputable def eqU (x:V) (u:Value):Bool:=match u with
  | .none=>eqV .non x
  | .bool b=>eqV (.bl b) x
  | .int i _=>eqV (.int i) x
  | .str z _=>eqV (.str z) x
  | _=>false
theorem eqU_of {x y:V} {u:Value} (r:RelV y u) (f:flatV y=true):eqU x u=eqV y x:=by
  cases y with
  | non=>cases r; rfl
  | bl b=>cases r; rfl
  | int i=>obtain ⟨t,rfl⟩:=r; rfl
  | str z=>obtain ⟨t,rfl⟩:=r; rfl
  | _=>exact absurd (show false=true from f) Bool.false_ne_true
theorem any_eqU {x:V}:∀ {xs:List V} {us:List Value},Vals xs us→xs.all flatV=true→us.any (eqU x)=xs.any fun y=>eqV y x
  | _,_,.nil,_=>rfl
  | y::xs,u::us,.cons r t,f=>by
    rw [List.all_cons,Bool.and_eq_true] at f
    rw [List.any_cons,List.any_cons,eqU_of r f.1,any_eqU t f.2]
theorem mem_eqAt {A:Around} {s:Shared} {x:V} {v:Value} (rx:RelV x v) (fx:flatV x=true):∀ {xs:List V} {us:List Value},Vals xs us→xs.all flatV=true→∀ u∈us,SeqAt.EqAt A s u v (eqU x u)
  | _,_,.nil,_=>fun u hu=>by cases hu
  | y::xs,u::us,.cons r t,f=>fun u' hu=>by
    rw [List.all_cons,Bool.and_eq_true] at f
    rcases List.mem_cons.mp hu with rfl | hu
    · rw [eqU_of r f.1]; exact eqAt_V r rx f.1 fx
    · exact mem_eqAt rx fx t f.2 u' hu
noncomputable def inV (x:V) (xs:List V):Bool:=xs.any fun y=>eqV y x
noncomputable def rIn (K:PySem.W.Frag) (neg:Bool):R2:=fun x y H Q=>∃ p xs,y=.ref p∧(SqL K H p xs∨SqT K H p xs)∧flatV x=true∧xs.all flatV=true∧Q (.bl (if neg then !inV x xs else inV x xs)) H
theorem op_in_seq:OpR X (compareOp .In) (rIn X.K false):=by
  intro pins s σ H x y v u Q I rx ry h
  obtain ⟨p,xs,rfl,hq,fx,fs,q⟩:=h
  cases ry
  rcases hq with hq | hq
  · obtain ⟨its,r,pl,hz⟩:=I.list hq
    refine SeqAt.in_listAt (eqU x) pl.isList (fun w hw=>mem_eqAt rx fx r fs w (by simpa using hw)) ⟨.bl _,H,I,rfl,?_⟩
    rw [show its.toArray.any (eqU x)=its.any (eqU x) by simp,any_eqU r fs]
    exact q
  · obtain ⟨its,r,pl,hz⟩:=I.tuple hq
    refine SeqAt.in_tupleAt (eqU x) pl (fun w hw=>mem_eqAt rx fx r fs w (by simpa using hw)) ⟨.bl _,H,I,rfl,?_⟩
    rw [show its.toArray.any (eqU x)=its.any (eqU x) by simp,any_eqU r fs]
    exact q
theorem call_len_seq:CallR X (.builtin "len") (fun xs H Q=>∃ p ys,xs=[.ref p]∧(SqL X.K H p ys∨SqT X.K H p ys)∧Q (.int ys.length) H):=by
  intro pins s σ H xs us Q I r h
  obtain ⟨p,ys,rfl,hq,q⟩:=h
  obtain ⟨u,rfl,rx⟩:=vals1 r
  cases rx
  have hn:=line63
  rcases hq with hq | hq
  · obtain ⟨its,r',pl,hz⟩:=I.list hq
    have hlen:=r'.length
    exact Calls.call_len_list pl.isList (by simp only [List.size_toArray] <;> omega) ⟨.int ys.length,H,I.tok _,⟨s.toks+1,by rw [List.size_toArray,hlen]⟩,q⟩
  · obtain ⟨its,r',pl,hz⟩:=I.tuple hq
    have hlen:=r'.length
    exact len_tuple pl (by simp only [List.size_toArray] <;> omega) ⟨.int ys.length,H,I.tok _,⟨s.toks+1,by rw [List.size_toArray,hlen]⟩,q⟩
theorem call_len_str:CallR X (.builtin "len") (fun xs H Q=>∃ z,xs=[.str z]∧z.length≤sizeLine∧Q (.int z.length) H):=by
  intro pins s σ H xs us Q I r h
  obtain ⟨z,rfl,hz,q⟩:=h
  obtain ⟨u,rfl,t,rfl⟩:=vals1 r
  have hn:=line63
  exact len_str (by omega) ⟨.int z.length,H,I.tok _,⟨_,rfl⟩,q⟩
theorem CallR.or {f:Value} {r r':List V→Hp→VK→Prop} (h:CallR X f r) (h':CallR X f r'):CallR X f (fun xs H Q=>r xs H Q∨r' xs H Q):=by
  intro pins s σ H xs us Q I rs q
  rcases q with q | q
  · exact h pins s σ H xs us Q I rs q
  · exact h' pins s σ H xs us Q I rs q
theorem call_tuple_of:CallR X (.type "tuple") (fun xs H Q=>∃ p ys,xs=[.ref p]∧((SqL X.K H p ys∧∀ l,H l=none→Q (.ref l) (upd H l (.tup ys)))∨(SqT X.K H p ys∧Q (.ref p) H))):=by
  intro pins s σ H xs us Q I r h
  obtain ⟨p,ys,rfl,h⟩:=h
  obtain ⟨u,rfl,rx⟩:=vals1 r
  cases rx
  rcases h with ⟨hq,q⟩ | ⟨hq,q⟩
  · obtain ⟨its,r',pl,hz⟩:=I.list hq
    have hlen:=r'.length
    refine call_tuple_list pl.isList (fun h' kp=>?_) (by simp only [List.size_toArray] <;> omega)
    have I1:Inv X pins σ H { s with heap:=h' }:=I.kept (t':=s.toks) kp
    have I2:Inv X pins σ (upd H h'.objs.size (.tup ys)) { s with heap:=h'.push { cls:=.type "tuple", data:=.seq its.toArray } } :=
      I1.laid (t':=s.toks) (fun b o e=>Heap.get?_push_of_some _ e) (Nat.le_refl _) (show ObjOk X.prog X.w _ _ _ (.tup ys) from ⟨hz,its,r',IsTup.new _ _⟩)
    exact ⟨.ref h'.objs.size,_,I2,rfl,q _ (I1.hok.fresh (Nat.le_refl _))⟩
  · obtain ⟨its,r',pl,hz⟩:=I.tuple hq
    exact call_tuple_same pl ⟨.ref p,H,I,rfl,q⟩
noncomputable def tyV (K:PySem.W.Frag) (T:String) (x:V) (H:Hp):Prop:=match x with
  | .str _=>T = "str"
  | .int _=>T = "int"
  | .ref p=>(T = "list" ∧ ∃ xs,SqL K H p xs)∨(T = "tuple" ∧ ∃ o,K.lookup p=some o∧o.cls=.type "tuple" ∧ o.dict=none) ∨
      (T = "dict" ∧ ((∃ kvs,H p=some (.dK kvs))∨∃ kvs,H p=some (.dT kvs)))∨(T = "set" ∧ ∃ S n,H p=some (.set S n))
  | _=>False
theorem tyV_is {pins:List (Addr×Obj)} {σ:St} {H:Hp} {s:Shared} {T:String} {x:V} {v:Value} (I:Inv X pins σ H s) (r:RelV x v) (ty:tyV X.K T x H) :
    s.TypeIs v T∧∀ a,v=.ref a→∃ ob,s.heap.get? a=some ob∧ob.dict=none:=by
  cases x with
  | str z =>
    obtain ⟨t,rfl⟩:=r
    cases (show T = "str" from ty)
    exact ⟨typeIs_str s z t,fun _ e=>nomatch e⟩
  | int i =>
    obtain ⟨t,rfl⟩:=r
    cases (show T = "int" from ty)
    exact ⟨typeIs_int s i t,fun _ e=>nomatch e⟩
  | ref p =>
    cases r
    rcases ty with ⟨rfl,xs,hq⟩ | ⟨rfl,o,hk,hc,hd⟩ | ⟨rfl,hk⟩ | ⟨rfl,S,n,hk⟩
    · obtain ⟨its,_,pl,_⟩:=I.list hq
      refine ⟨pl.isList.typeIs,fun a e=>?_⟩
      cases e
      obtain ⟨o,n,e,c,hd,_⟩:=pl
      exact ⟨o,e,hd⟩
    · refine ⟨⟨o,I.kIn p o hk,hc⟩,fun a e=>?_⟩
      cases e
      exact ⟨o,I.kIn _ o hk,hd⟩
    · have z:∃ o,s.heap.get? p=some o∧o.ExactDict:=by
        rcases hk with ⟨kvs,hk⟩ | ⟨kvs,hk⟩
        · obtain ⟨_,_,_,_,o,_,_,e,ex,_⟩:=I.hok p _ hk
          exact ⟨o,e,ex⟩
        · obtain ⟨_,_,_,_,o,_,_,e,ex,_⟩:=I.hok p _ hk
          exact ⟨o,e,ex⟩
      obtain ⟨o,e,ex⟩:=z
      refine ⟨⟨o,e,ex.1⟩,fun a e2=>?_⟩
      cases e2
      exact ⟨o,e,ex.2.1⟩
    · obtain ⟨o,_,_,_,e,ex,_⟩:=I.hok p _ hk
      refine ⟨⟨o,e,ex.1⟩,fun a e2=>?_⟩
      cases e2
      exact ⟨o,e,ex.2.1⟩
  | _=>exact False.elim ty
noncomputable def tBM0 (K:PySem.W.Frag) (T:String) (r:V→List V→Hp→VK→Prop) (to:TE):TE:=fun σ H Q=>to σ H fun x H1=>tyV K T x H1∧r x [] H1 Q
noncomputable def tBM (K:PySem.W.Frag) (T:String) (r:V→List V→Hp→VK→Prop) (to:TE) (t:TA):TE:=fun σ H Q=>to σ H fun x H1=>tyV K T x H1∧t σ H1 fun xs H2=>r x xs H2 Q
variable {o e:Expr} {es:List Expr} {to:TE} {t:TA} {name:Str} {apos cpos:Pos} {T id:String} {r:V→List V→Hp→VK→Prop}
theorem pe_bm (pa:PlainAttrs T) (slot:Slot T name id) (hty:typeOf (.builtin id)=pure (.type "method_descriptor")) (hm:MtR X id r) (ho:PE X o to) (ha:PA X (e::es) t)
    (hbase:attributeBase o name X.env (eval o X.env)=eval o X.env:=by rfl)
    (hfew:((backTo cpos (starEach (e::es) X.env)).all (fun x=>!x.1)&&(backToKw cpos (keywordEach [] X.env)).all (fun x=>x.1.isSome)
      && decide ((e::es).length+([]:List Keyword).length+(if ([]:List Keyword).isEmpty then 0 else 1) < 30))=true:=by rfl)
    (hline:(apos.endLine==cpos.line)=true:=by rfl) (hs:starEach (e::es) X.env=(false,eval e X.env)::starEach es X.env:=by rfl) (hplain:(backTo cpos (starEach es X.env)).any (·.1)=false:=by rfl) :
    PE X (.Call (.Attribute o name apos) (e::es) [] cpos) (tBM X.K T r to t):=by
  intro pins s σ H Q I h
  refine wpAny_Call_method_late hbase hfew hline rfl (thn (ho pins s σ H _ I h) fun v s1 ⟨x,H1,I1,r1,ty,q1⟩=>?_)
  obtain ⟨h1,h2⟩:=tyV_is I1 r1 ty
  refine ⟨T,id,pa,slot,hty,h1,h2,?_⟩
  have hA:=ha cpos pins s1 σ H1 _ I1 q1
  rw [hs] at hA ⊢
  refine Calls.callWith_builtin (by show (false||(backTo cpos (starEach es X.env)).any (·.1))=false; rw [hplain] <;> rfl) (Calls.evalArgs_plain ?_)
  exact thn hA fun us s2 ⟨vs,H2,I2,r2,q2⟩=>hm pins s2 σ H2 x vs v us Q I2 r1 r2 q2
/- xs.append(e),list.index on a module's tuple .. are MtR facts of 06m -/
end
end L2
namespace L2
open PySem PySem.Spec PyProof.Rows
noncomputable def MtM (X:Cx) (id:String) (r:V→List V→Hp→VK→Prop):Prop :=
  ∀ (pins:List (Addr×Obj)) (s:Shared) (σ:St) (H:Hp) (x:V) (xs:List V) (v:Value) (us:List Value) (Q:VK),Inv X pins σ H s→RelV x v→Vals xs us→r x xs H Q →
    wpAny (model X.prog X.w) X.A (call (.builtin id) (v::us)) (EP X pins σ Q) X.xe s
theorem Vals.one:∀ {x:V} {us:List Value},Vals [x] us→∃ u,us=[u]∧RelV x u
  | _,_,.cons r .nil=>⟨_,rfl,r⟩
theorem Vals.reverse {xs:List V} {us:List Value} (h:Vals xs us):Vals xs.reverse us.reverse:=by
  induction h with
  | nil=>exact .nil
  | cons r t ih=>rw [List.reverse_cons,List.reverse_cons]; exact Vals.append ih (.cons r .nil)
section
variable {X:Cx} {pins:List (Addr×Obj)} {σ:St} {H:Hp} {s:Shared} {l b:Addr} {xs ys zs:List V}
theorem Inv.lset {its its':List Value} {n:Nat} {f:Array Value→Array Value} {t':Nat} (I:Inv X pins σ H s) (hH:H l=some (.lst xs))
    (e:s.heap.get? l=some { cls:=.type "list", data:=.seq its.toArray n }) (hf:f its.toArray=its'.toArray) (hv:Vals ys its') (hz:ys.length≤sizeLine) :
    Inv X pins σ (upd H l (.lst ys)) { s with heap:=s.heap.update l (Obj.mapSeq f),toks:=t' }:=by
  have q:=PySem.IsL.update e f
  rw [hf] at q
  refine I.write (x:=l) (e:=l) (by rw [hH]; exact trivial) (.inl rfl) (fun b' u hb hu=>(Heap.get?_update_other s.heap (Obj.mapSeq f) (Ne.symm hb)).trans hu) ⟨_,q⟩ ?_
  exact ⟨hz,its',_,hv,q⟩
theorem Inv.lnew {its:List Value} {t':Nat} (I:Inv X pins σ H s) (hv:Vals ys its) (hz:ys.length≤sizeLine) :
    Inv X pins σ (upd H s.heap.objs.size (.lst ys)) { s with heap:=s.heap.push { cls:=.type "list", data:=.seq its.toArray },toks:=t' } :=
  I.laid (fun _ _ q=>Heap.get?_push_of_some _ q) (Nat.le_refl _) ⟨hz,its,0,hv,Heap.get?_push_size _ rfl⟩
theorem Inv.fresh (I:Inv X pins σ H s):H s.heap.objs.size=none:=I.hok.fresh (Nat.le_refl _)
theorem Inv.lstM (I:Inv X pins σ H s) (hH:H l=some (.lst xs)):xs.length≤sizeLine∧∃ (its:List Value) (n:Nat),Vals xs its∧xs.length=its.length∧s.heap.get? l=some { cls:=.type "list", data:=.seq its.toArray n }:=by
  obtain ⟨z,its,n,r,e⟩:=I.hok l _ hH
  exact ⟨z,its,n,r,r.length,e⟩
theorem notLongL {n:Nat} (h:n≤sizeLine):Builtin.List.listTooLong n=false:=by
  unfold Builtin.List.listTooLong
  exact decide_eq_false (by omega)
end
section
variable {X:Cx}
noncomputable def rAppend:V→List V→Hp→VK→Prop:=fun x vs H Q=>∃ l xs y,x=.ref l∧vs=[y]∧H l=some (.lst xs)∧xs.length < sizeLine∧Q .non (upd H l (.lst (xs++[y])))
theorem mt_append:MtM X "list.append" rAppend:=by
  intro pins s σ H x vs v us Q I rx rv h
  obtain ⟨l,xs,y,rfl,rfl,hH,hz,q⟩:=h
  cases rx
  obtain ⟨u,rfl,ru⟩:=rv.one
  obtain ⟨z,its,n,r,hl,e⟩:=I.lstM hH
  refine call_meets F.slot_list_append ⟨_,e,rfl⟩ F.entry_list_append (F.args_list_append_2 _ _) (PySem.list_append l its.toArray n u (by rw [List.size_toArray]; omega)) ⟨e,?_⟩
  refine ⟨.non,_,I.lset (its':=its++[u]) hH e (by simp) (r.append (.cons ru .nil)) ?_,rfl,q⟩
  rw [List.length_append,List.length_singleton]
  omega
noncomputable def rExtend:V→List V→Hp→VK→Prop:=fun x vs H Q=>∃ l b xs zs,x=.ref l∧vs=[.ref b]∧H l=some (.lst xs)∧H b=some (.lst zs)∧xs.length+zs.length≤sizeLine∧Q .non (upd H l (.lst (xs++zs)))
noncomputable def rPop:V→List V→Hp→VK→Prop:=fun x vs H Q=>∃ l xs y,x=.ref l∧vs=[]∧H l=some (.lst xs)∧xs[xs.length - 1]?=some y∧Q y (upd H l (.lst xs.dropLast))
noncomputable def rPopAt:V→List V→Hp→VK→Prop:=fun x vs H Q=>∃ l xs i k y,x=.ref l∧vs=[.int i]∧H l=some (.lst xs)∧-(2 ^ 63)≤i∧i < 2 ^ 63∧seqIndex? i xs.length=some k∧xs[k]?=some y∧Q y (upd H l (.lst (xs.eraseIdx k)))
noncomputable def rReverse:V→List V→Hp→VK→Prop:=fun x vs H Q=>∃ l xs,x=.ref l∧vs=[]∧H l=some (.lst xs)∧Q .non (upd H l (.lst xs.reverse))
noncomputable def rClear:V→List V→Hp→VK→Prop:=fun x vs H Q=>∃ l xs,x=.ref l∧vs=[]∧H l=some (.lst xs)∧Q .non (upd H l (.lst []))
noncomputable def rCat:R2:=fun x y H Q=>∃ l b xs zs,x=.ref l∧y=.ref b∧H l=some (.lst xs)∧H b=some (.lst zs)∧xs.length+zs.length≤sizeLine∧∀ p,H p=none→Q (.ref p) (upd H p (.lst (xs++zs)))
noncomputable def rRep:R2:=fun x y H Q=>∃ l k xs,x=.ref l∧y=.int k∧H l=some (.lst xs)∧-(2 ^ 63)≤k∧k < 2 ^ 63∧xs.length*k.toNat≤sizeLine ∧
  ∀ p,H p=none→Q (.ref p) (upd H p (.lst (List.replicate k.toNat xs).flatten))
end
end L2
namespace Att
open PySem PySem.W PySem.Calls PyProof.Rows
theorem ints_of_wellAll {P:Params} {h:Heap}:∀ (ns:List Int) (vs:List Value),WellAll P h vs (ns.map WData.int)→IntsAre vs ns:=by
  intro ns
  induction ns with
  | nil =>
    intro vs w
    rw [List.map_nil] at w
    cases w
    exact .nil
  | cons n ns ih =>
    intro vs w
    rw [List.map_cons] at w
    cases w with
    | cons a b =>
      cases a
      exact .cons _ _ (ih _ b)
theorem script_of {l:OpenLaw} {n:Nat} (hn:l.most=some n) {P:Params} {h:Heap} {args:List WData} {vals:List Value}
    (hpre:l.row.toRowW.claim.pre args=true) (hwl:WellAll P h vals args) :
    ∃ a vs ns,vals=[Value.ref a]∧args=[WData.list (ns.map WData.int)]∧h.get? a=some { cls:=.type "list", data:=.seq vs.toArray }∧IntsAre vs ns∧ns.length≤n:=by
  have hsh:WShape.hasAll [] args [.list .int]=true:=(pre_splitW hpre).1
  have hc:l.pre.holds [] { args:=args }=true:=(pre_splitW hpre).2
  obtain ⟨d,r,rfl,h1,h2⟩:=hasAllW_cons hsh
  obtain rfl:=hasAllW_nil h2
  obtain ⟨xs,rfl,h3⟩:=hasW_list h1
  obtain ⟨ns,rfl⟩:=items_int h3
  have hlen:ns.length≤n:=by
    unfold OpenLaw.pre at hc
    have h4:(WTm.not (.lt (.lit (.int (n:Int))) (.len (.arg 0)))).holds [] { args:=[.list (ns.map .int)] }=true:=by
      have h4:=(holds_andW hc).1
      rw [hn] at h4
      exact h4
    have h5:=condW_of h4 (w_not (w_lt w_lit (w_len_list (w_arg rfl))))
    rw [List.length_map] at h5
    refine Nat.le_of_not_lt fun q=>?_
    have q':(n:Int) < ((ns.length:Nat):Int):=by omega
    first
      | (rw [decide_eq_true q'] at h5; exact absurd h5 (by decide))
      | (simp at h5; omega)
  cases hwl with
  | cons w1 w2 =>
    cases w2
    cases w1 with
    | list ho hall=>exact ⟨_,_,ns,rfl,rfl,ho,ints_of_wellAll ns _ hall,hlen⟩
theorem post_true (l:OpenLaw) (args:List WData):l.row.toRowW.claim.post args (.bool true) args=true :=
  postW_of (r:=l.row.toRowW) (X:=(true==true))
    (show WShape.has [] (.bool true) .bool=true by first | rfl | decide | simp [WShape.has,WShape.arms,WShape.armsAll])
    (show (WTm.eq .res (.lit (.bool true))).value [] { args:=args,res:=some (.bool true),after:=args }=some (.bool (true==true)) from w_eq_bool (w_res rfl) w_lit) rfl
theorem attach_call {l:OpenLaw} {n:Nat} {q:Program} {loose:List Str} {XP:(Str→Option Value)→Heap→Prop} {YP:World→Heap→Prop} {d:DefRec}
    (hn:l.most=some n) (hdf:d.params.defaults=[])
    (call:∀ (w:World) (s₀ s₁:Shared) (mg mb:Str→Option Value) (fa:Addr) (o:Obj) (pm cd doc:Value) (a:Addr) (vs:List Value) (ns:List Int),
      Ground q loose [] XP w s₀ mg mb s₁.heap→YP w s₁.heap →
      s₁.heap.get? fa=some o→o.data=.func (docDef d.name d.params d.body d.scope pm cd doc)→s₁.heap.CodeRec cd d.name→mg d.name=some (.ref fa) →
      s₁.heap.get? a=some { cls:=.type "list", data:=.seq vs.toArray }→IntsAre vs ns→ns.length≤n→s₁.gens=#[] →
      codeAny (model l.prog w) callerA (.call (.ref fa) ⟨[.ref a],[]⟩) (fun r s'=>r=.ok (.ret (.bool true))∧OldK s₁.heap s'.heap∧s'.os=s₁.os∧AllBare s'.gens) s₁) :
    WalkO q loose XP YP l.row.toRowW d [] (fun f vs=>PySem.call f vs):=by
  intro w s₀ s₁ mg mb G Y fa o pm cd doc dV kV ho hd hcd hD hmg hg args vals as hpre hlay hrd hwl hlo
  obtain rfl:dV=.none:=Dflts.none hD hdf
  obtain rfl:kV=.none:=Dflts.noKw hD
  obtain ⟨a,vs,ns,rfl,rfl,hobj,hints,hlen⟩:=script_of hn hpre hwl
  refine enter_call (codeAny_mono (call w s₀ s₁ mg mb fa o pm cd doc a vs ns G Y ho (fd_plain hd) hcd hmg hobj hints hlen hg) fun r s' hq=>?_)
  obtain ⟨rfl,h2,h3,h4⟩:=hq
  exact ⟨.inl ⟨.bool true,.bool true,[],rfl,fun _=>rfl,.bool true,post_true l _,fun _=>⟨List.Pairwise.nil,fun _ hm=>(nomatch hm)⟩⟩,h2,h3,h4⟩
section
variable {prog:Program} {w:World} {A:Around} {E:Value→Shared→Prop} {s:Shared} {K:Frag}
noncomputable def noObjs (h:Heap):Heap:={ h with objs:=#[] }
noncomputable def ledger (h:Heap) (L d:Addr):List (Addr×Obj):=(List.range h.objs.size).filterMap fun a=>if a=L∨a=d then none else (h.get? a).map fun o=>(a,o)
end
end Att
namespace L2
open PySem PySem.Spec PyProof.Rows
theorem vals_ints:∀ {vs:List Value} {ns:List Int},IntsAre vs ns→Vals (ns.map V.int) vs
  | _,_,.nil=>.nil
  | _,_,.cons n t h=>.cons ⟨t,rfl⟩ (vals_ints h)
noncomputable def Only (H:Hp):Prop:=∀ b,H b=none∨∃ o xs,H b=some (.frz o (.lst xs))
theorem law_call {P:Program} {w:World} {K:PySem.W.Frag} {mg mb:Str→Option Value} {CX:CXT} {k:Nat} {fa a:Addr} {fd:FuncData} {x:Str} {sp:Sp} {s₁:Shared} {vs:List Value} {ns:List Int}
    (KX:K.In s₁.heap) (hns:s₁.heap.Ns mainGlobals mg) (hb:s₁.heap.Ns builtinsNs mb) (hbb:∀ x:Str,x ≠ "__name__" → mb x=bootBuiltins x) (hlim:s₁.heap.NoLimit) (hg:s₁.gens=#[])
    (ha:s₁.heap.get? a=some { cls:=.type "list", data:=.seq vs.toArray }) (hi:IntsAre vs ns) (hl:ns.length≤sizeLine) (hr:Room k callerA)
    (F:∀ base:Heap,K.In base→base.Ns mainGlobals mg→FnOk P w K mg base CX k fa fd [x] sp) (hbind:∀ (s:Shared) (u:Value),BindsTo s fd ⟨[u],[]⟩ [(x,u)])
    (hsp:∀ H:Hp,Only H→SqL K H a (ns.map V.int)→sp [.ref a] H (fun v _=>v=.bl true) fun _ _ _=>False)
    (hCX:∀ H e s',CX [] H s₁ (fun _ _ _=>False) e s'→False) :
    codeAny (model P w) callerA (.call (.ref fa) ⟨[.ref a],[]⟩) (fun r s'=>r=.ok (.ret (.bool true))∧OldK s₁.heap s'.heap∧s'.os=s₁.os∧AllBare s'.gens) s₁:=by
  have rv:=vals_ints hi
  have lenV:=hi.length
  have core:∀ H:Hp,Only H→SqL K H a (ns.map V.int)→HOk P w H s₁.heap→(∀ b,H b≠none→b=a)→(H a≠none→K.lookup a=none) →
      codeAny (model P w) callerA (.call (.ref fa) ⟨[.ref a],[]⟩) (fun r s'=>r=.ok (.ret (.bool true))∧OldK s₁.heap s'.heap∧s'.os=s₁.os∧AllBare s'.gens) s₁:=by
    intro H hO hS hok hA hK
    have base_of:∀ {b:Addr} {o:Obj},s₁.heap.get? b=some o→H b=none→(hidT s₁.heap H).get? b=some o:=fun e n=>hidT_get e n
    have noA:∀ {b:Addr} {o:Obj} {es:Array DictEntry} {ep:Nat},s₁.heap.get? b=some o→o.data=.dict es ep→H b=none:=fun {b o es ep} e d=>by
      cases q:H b with
      | none=>rfl
      | some u =>
        have e':b=a:=hA b (by rw [q]; simp)
        subst e'
        rw [ha] at e; cases e
        have d':Data.seq vs.toArray _=Data.dict es ep:=d
        cases d'
    have nsK:∀ {b:Addr} {m:Str→Option Value},s₁.heap.Ns b m→(hidT s₁.heap H).Ns b m:=fun {b m} ⟨o,es,ep,e,d,r⟩=>⟨o,es,ep,base_of e (noA e d),d,r⟩
    have hKb:K.In (hidT s₁.heap H):=fun b o e=>base_of (KX b o e) (by
      cases q:H b with
      | none=>rfl
      | some u =>
        have e':b=a:=hA b (by rw [q]; simp)
        subst e'
        rw [hK (by rw [q]; simp)] at e; cases e)
    have hM:Mod K mg (hidT s₁.heap H):=⟨hKb,nsK hns,⟨mb,nsK hb,hbb⟩,let ⟨mc,h1,h2⟩:=hlim; ⟨mc,nsK h1,h2⟩⟩
    have e0:Env0 P w K mg (hidT s₁.heap H) callerA [] s₁ H:=⟨rfl,hM,fun b o e=>of_hidT e,Nat.le_of_eq (hidT_size _ _),trivial,fun b hb=>absurd (show b∈([]:List Addr) from hb) (by simp),hok,.of_eq hg⟩
    refine codeAny_mono ((F _ hKb (nsK hns)).run callerA [] s₁ H ⟨[.ref a],[]⟩ [.ref a] [.ref a] _ _ hr e0 (hbind s₁ (.ref a)) (.cons rfl .nil) (hsp H hO hS)) fun r s' h=>?_
    cases r with
    | error e=>exact (hCX H e s' h).elim
    | ok fl =>
      cases fl with
      | next=>exact False.elim h
      | brk=>exact False.elim h
      | cont=>exact False.elim h
      | ret u =>
        obtain ⟨v,H',os,bare,un,hok',r',q⟩:=h
        have q':v=.bl true:=q
        subst q'
        obtain rfl:u=Value.bool true:=r'
        refine ⟨rfl,OldK.of_keep fun b o e=>?_,os,bare⟩
        cases q:H b with
        | none=>exact un.keep b o e q (by intro z; exact absurd (show b∈([]:List Addr) from z) (by simp)) (by simp)
        | some u =>
          rcases hO b with z | ⟨ob,xs,z⟩
          · rw [q] at z; cases z
          · have z2:=un.frzs b ob _ z
            obtain ⟨e1,_⟩:=hok b _ z
            obtain ⟨e2,_⟩:=hok' b _ z2
            rw [e] at e1; cases e1
            exact e2
  cases hk:K.lookup a with
  | some o =>
    have e:=KX a o hk
    rw [ha] at e
    cases e
    refine core (fun _=>none) (fun _=>.inl rfl) (.inr ⟨_,vs.toArray,_,hk,rfl,rfl,rfl,by rw [List.size_toArray,lenV]; exact hl,by simpa using rv⟩) (fun b u z=>by have z':(none:Option HO)=some u:=z; cases z') (fun b z=>absurd rfl z) fun z=>absurd rfl z
  | none =>
    refine core (fun b=>if b=a then some (.frz { cls:=.type "list", data:=.seq vs.toArray } (.lst (ns.map V.int))) else none) (fun b=>?_) (.inl (.inr ⟨{ cls:=.type "list", data:=.seq vs.toArray },if_pos rfl⟩)) (fun b u z=>?_) (fun b z=>?_) fun _=>hk
    · by_cases hb:b=a
      · exact .inr ⟨_,_,if_pos hb⟩
      · exact .inl (if_neg hb)
    · by_cases hb:b=a
      · have z':=(if_pos hb).symm.trans z
        cases z'
        subst hb
        exact ⟨ha,by rw [List.length_map]; exact hl,vs,_,rv,ha⟩
      · have z':=(if_neg hb).symm.trans z
        cases z'
    · by_cases hb:b=a
      · exact hb
      · exact absurd (if_neg hb) z
end L2
namespace L2
open PySem PySem.Spec PyProof.Rows
noncomputable abbrev KOf {K:PySem.W.Frag} {h:Heap} (_:K.In h):PySem.W.Frag:=K
theorem walk_of {l:PySem.W.OpenLaw} {n k:Nat} {q:Program} {loose:List Str} {XP:(Str→Option Value)→Heap→Prop} {YP:World→Heap→Prop} {d:DefRec} {K:Params→PySem.W.Frag} {CX:World→CXT} {sp:World→Sp} {x:Str}
    (hn:l.most=some n) (hn2:n≤sizeLine) (hdf:d.params.defaults=[]) (hr:Room k callerA)
    (hY:∀ (w:World) (h:Heap),YP w h→(K w.params).In h)
    (F:∀ (w:World) (mg:Str→Option Value) (fa:Addr) (h:Heap),(K w.params).In h→h.Ns mainGlobals mg→mg d.name=some (.ref fa) →
      ∃ fd:FuncData,(∀ (s:Shared) (u:Value),BindsTo s fd ⟨[u],[]⟩ [(x,u)]) ∧
        ∀ base:Heap,(K w.params).In base→base.Ns mainGlobals mg→FnOk l.prog w (K w.params) mg base (CX w) k fa fd [x] (sp w))
    (hsp:∀ (w:World) (H:Hp) (a:Addr) (ns:List Int),ns.length≤n→Only H→SqL (K w.params) H a (ns.map V.int)→sp w [.ref a] H (fun v _=>v=.bl true) fun _ _ _=>False)
    (hCX:∀ (w:World) (H:Hp) (s:Shared) (e:Value) (s':Shared),CX w [] H s (fun _ _ _=>False) e s'→False) :
    PySem.W.WalkO q loose XP YP l.row.toRowW d [] (fun f vs=>PySem.call f vs):=by
  refine Att.attach_call hn hdf fun w s₀ s₁ mg mb fa o pm cd doc a vs ns G Y ho hd hcd hmg hobj hints hlen hg=>?_
  have KX:=hY w _ Y
  obtain ⟨fd,hb,hF⟩:=F w mg fa _ KX G.T.g hmg
  exact law_call KX G.T.g G.T.b G.T.builtins G.T.nolimit hg hobj hints (Nat.le_trans hlen hn2) hr hF hb (fun H hO hS=>hsp w H a ns hlen hO hS) fun H e s'=>hCX w H s₁ e s'
end L2
/- THE LAST THEOREM (shape; LID,My.* are yours):
   My.Adr: a structure of the addresses that your layer names (classes,functions); My.Txt K t: a structure (Prop) of the equations over K;
   My.txt_mk:{K} {implicit addresses ..} (e1:nsIn K mainGlobals "law" = some (some (.ref f))) (e2:K.lookup f=some ⟨oc,od,.func (fnOf "law" "law" params body scope dV kV doc pm an cdv ct),sl⟩) (e3:codeIn K cdv "law" = true) ..:∃ t,My.Txt K t
set_option maxRecDepth 100000 in
set_option maxHeartbeats 0 in
theorem PySem.Challenge.cw_LID_holds:PySem.Challenge.rw_LID.Holds:=by
  w_on; o_law; k_head; (case hw=>w_witness2)
  k_fill
  refine L2.walk_of (l:=PySem.Challenge.rw_LID) (n:=63) (k:=40) (x := "script") (CX:=fun w=>..) (sp:=fun _=>My.sp_law) rfl (by decide) rfl ⟨rfl,by decide,by decide⟩ (fun w h Y=>PySem.W.kIn_of Y) ?F ?S ?C
  case F =>
    intro w mg fa h KX G hmg
    have T:∃ t,My.Txt (L2.KOf KX) t:=by
      dsimp only [L2.KOf]                          -- K must stand as «<heap const> w.params» for k_is
      refine' My.txt_mk ?e1 ?e2 ?e3 ..
      (case e1=>PySem.W.k_is)                    -- in the order: a name -> its address -> its object -> its parts
      (case e2=>PySem.W.k_is)
      ..
    obtain ⟨t,T⟩:=T
    have e0:=hmg.symm.trans (PySem.W.mg_of KX G T.law)
    cases e0                                       -- fa is the law's own address
    exact ⟨_,fun s u=>.of_eq rfl,fun base kb nb=>My.law_fn T kb nb⟩     -- if «.of_eq rfl» comes too early: refine' ⟨_,?b,fun base kb nb=>My.law_fn T kb nb⟩; exact fun s u=>.of_eq rfl
  case S=>exact fun w H a ns hl hO hS=>..
  case C=>exact ..
(the tactic k_is has no namespace: write k_is) -/
namespace L2
open PySem PySem.Spec PyProof.Rows
noncomputable def inClass (s:Stmt) (j:Nat):Stmt:=match s with
  | .ClassDef _ _ _ body _ _ _ _ _ _ _=>body.getD j (.Pass ⟨0,0,0,0⟩)
  | _=>.Pass ⟨0,0,0,0⟩
noncomputable def defArgs (s:Stmt):Arguments:=match s with
  | .FunctionDef _ a _ _ _ _ _ _ _ _=>a
  | _=>{ posonlyargs:=[],args:=[],vararg:=none,kwonlyargs:=[],kw_defaults:=[],kwarg:=none,defaults:=[] }
noncomputable def defBody (s:Stmt):List Stmt:=match s with
  | .FunctionDef _ _ b _ _ _ _ _ _ _=>b
  | _=>[]
noncomputable def defScope (s:Stmt):Scope:=match s with
  | .FunctionDef _ _ _ _ _ _ sc _ _ _=>sc
  | _=>{ kind:=.function,names:=[],isGenerator:=false,isCoroutine:=false }
noncomputable abbrev CX0:CXT:=fun _ _ _ _ _ _=>False
noncomputable abbrev E0:XK:=fun _ _ _=>False
theorem pass0 {X:Cx}:Passes CX0 X E0:=fun _ _ _ _ _ _ _ h=>h.elim
structure Fun (K:PySem.W.Frag) (x qual:Str) (st:Stmt) (f:Addr) (fd:FuncData):Prop where
  ex:∃ (oc:Value) (od:Option Addr) (kV doc pm:Value) (an:Option Addr) (cdv ct:Value) (osl:Array (Option Value)),
    fd=PySem.W.fnOf x qual (defArgs st) (defBody st) (defScope st) .none kV doc pm an cdv ct∧K.lookup f=some ⟨oc,od,.func fd,osl⟩∧PySem.W.codeIn K cdv qual=true
  kp:PySem.W.keepIn K (.ref f)=true
section
variable {P:Program} {w:World} {K:PySem.W.Frag} {mg:Str→Option Value} {base:Heap}
theorem Fun.ok {x qual:Str} {st:Stmt} {f:Addr} {fd:FuncData} {N ps:List Str} {k:Nat} {sp:Sp} (F:Fun K x qual st f fd) (S:FnScope N ps (defScope st)) (len:∀ vs H Q E,sp vs H Q E→vs.length=ps.length)
    (hbody:∀ (cdv:Value) (A:Around) (outer:List Env) (s:Shared) (H:Hp) (vs:List V) (Q:VK) (E:XK),Room k (A.deeper (envOfC qual (defScope st) s.heap.objs.size f cdv))→sp vs H Q E →
      ∃ t,PSs (cxOf CX0 P w K mg base N qual (defScope st) f cdv A outer s H E).nox (defBody st) t∧t { nx:=fun _ H'=>Q .non H',rt:=Q } (start N vs) H):FnOk P w K mg base CX0 (k+1) f fd ps sp:=by
  obtain ⟨oc,od,kV,doc,pm,an,cdv,ct,osl,rfl,lk,hcd⟩:=F.ex
  refine fn_of lk hcd S len fun A outer s H vs Q E hr hsp=>?_
  obtain ⟨t,h,q⟩:=hbody cdv A outer s H vs Q E hr hsp
  exact ⟨t,h.nox,q⟩
theorem Fun.binds {x qual:Str} {st:Stmt} {f:Addr} {fd:FuncData} {ps:List Str} (F:Fun K x qual st f fd)
    (h:∀ (kV doc pm:Value) (an:Option Addr) (cdv ct:Value) (us:List Value),us.length=ps.length→bindArgs (PySem.W.fnOf x qual (defArgs st) (defBody st) (defScope st) .none kV doc pm an cdv ct) ⟨us,[]⟩=pure (ps.zip us)):Binds K fd ps []:=by
  obtain ⟨oc,od,kV,doc,pm,an,cdv,ct,osl,rfl,lk,hcd⟩:=F.ex
  exact .all (h kV doc pm an cdv ct)
theorem fun_mk {x qual:Str} {st:Stmt} {f:Addr} {oc:Value} {od an:Option Addr} {osl:Array (Option Value)} {kV doc pm cdv ct:Value} (l:K.lookup f=some ⟨oc,od,.func (PySem.W.fnOf x qual (defArgs st) (defBody st) (defScope st) .none kV doc pm an cdv ct),osl⟩)
    (c:PySem.W.codeIn K cdv qual=true) (k:PySem.W.keepIn K (.ref f)=true):Fun K x qual st f (PySem.W.fnOf x qual (defArgs st) (defBody st) (defScope st) .none kV doc pm an cdv ct):=⟨⟨oc,od,kV,doc,pm,an,cdv,ct,osl,rfl,l,c⟩,k⟩
end
theorem iteF {A B:Prop} (h:B):if false=true then A else B:=by
  rw [if_neg Bool.false_ne_true]
  exact h
theorem iteT {A B:Prop} (h:A):if true=true then A else B:=by
  rw [if_pos rfl]
  exact h
noncomputable def Same (H H':Hp):Prop:=∀ b o,H b=some o→H' b=some o
theorem Same.refl (H:Hp):Same H H:=fun _ _ h=>h
theorem Same.trans {H H1 H2:Hp} (a:Same H H1) (b:Same H1 H2):Same H H2:=fun c o h=>b c o (a c o h)
theorem Same.free {H H':Hp} (e:Same H H') {l:Addr} (h:H' l=Option.none):H l=Option.none:=by
  cases q:H l with
  | none=>rfl
  | some o =>
    rw [e l o q] at h
    cases h
theorem Same.seq {K:PySem.W.Frag} {H H':Hp} {a:Addr} {xs:List V} (e:Same H H') (h:SqL K H a xs):SqL K H' a xs:=by
  rcases h with (h | ⟨o,h⟩) | h
  · exact .inl (.inl (e _ _ h))
  · exact .inl (.inr ⟨o,e _ _ h⟩)
  · exact .inr h
end L2
set_option autoImplicit false
namespace L2
open PySem PySem.Spec PyProof.Rows
section
variable {κ:Type} [DecidableEq κ]
noncomputable def valV (kvs:List (κ×V)) (k:κ):Option V:=(kvs.find? fun kv=>decide (kv.1=k)).map (·.2)
noncomputable def putK (kvs:List (κ×V)) (k:κ) (v:V):List (κ×V) :=
  if (kvs.any fun kv=>decide (kv.1=k))=true then kvs.map (fun kv=>if kv.1=k then (kv.1,v) else kv) else kvs++[(k,v)]
noncomputable def dropK (kvs:List (κ×V)) (k:κ):List (κ×V):=kvs.filter fun kv=>decide (kv.1≠k)
theorem valV_pos {p:κ×V} {r:List (κ×V)} {k:κ} (e:p.1=k):valV (p::r) k=some p.2:=by simp [valV,List.find?_cons,e]
theorem valV_neg {p:κ×V} {r:List (κ×V)} {k:κ} (e:¬ p.1=k):valV (p::r) k=valV r k:=by simp [valV,List.find?_cons,e]
theorem length_putK (kvs:List (κ×V)) (k:κ) (v:V):(putK kvs k v).length≤kvs.length+1:=by
  unfold putK
  split
  · rw [List.length_map]; omega
  · rw [List.length_append,List.length_cons,List.length_nil]; omega
theorem KV.val {kvs:List (κ×V)} {vs:List (κ×Value)} (r:KV kvs vs) (k:κ):RelO (valV kvs k) (valueAt vs k):=by
  unfold KV at r
  induction r with
  | nil=>exact True.intro
  | @cons p q ps qs h t ih =>
    obtain ⟨h1,h2⟩:=h
    by_cases e:p.1=k
    · have e':q.1=k:=h1.symm.trans e
      have b:valueAt (q::qs) k=some q.2:=by simp [valueAt,List.find?_cons,e']
      rw [valV_pos e,b]; exact h2
    · have e':¬ q.1=k:=fun z=>e (h1.trans z)
      have b:valueAt (q::qs) k=valueAt qs k:=by simp [valueAt,List.find?_cons,e']
      rw [valV_neg e,b]; exact ih
theorem KV.any {kvs:List (κ×V)} {vs:List (κ×Value)} (r:KV kvs vs) (k:κ):(kvs.any fun kv=>decide (kv.1=k))=vs.any fun kv=>decide (kv.1=k):=by
  unfold KV at r
  induction r with
  | nil=>rfl
  | cons h t ih=>rw [List.any_cons,List.any_cons,ih,h.1]
theorem KV.repl {kvs:List (κ×V)} {vs:List (κ×Value)} (r:KV kvs vs) (k:κ) {y:V} {u:Value} (ry:RelV y u) :
    KV (kvs.map fun kv=>if kv.1=k then (kv.1,y) else kv) (vs.map fun kv=>if kv.1=k then (kv.1,u) else kv):=by
  unfold KV at r ⊢
  induction r with
  | nil=>exact .nil
  | @cons p q ps qs h t ih =>
    rw [List.map_cons,List.map_cons]
    refine .cons ?_ ih
    obtain ⟨h1,h2⟩:=h
    by_cases e:p.1=k
    · rw [if_pos e,if_pos (h1.symm.trans e)]; exact ⟨h1,ry⟩
    · rw [if_neg e,if_neg (fun z=>e (h1.trans z))]; exact ⟨h1,h2⟩
theorem KV.put {kvs:List (κ×V)} {vs:List (κ×Value)} (r:KV kvs vs) (k:κ) {y:V} {u:Value} (ry:RelV y u):KV (putK kvs k y) (stored vs k u):=by
  unfold putK stored
  rw [r.any k]
  by_cases e:(vs.any fun kv=>decide (kv.1=k))=true
  · rw [if_pos e,if_pos e]; exact r.repl k ry
  · rw [if_neg e,if_neg e]; exact Paired.snoc r ⟨rfl,ry⟩
theorem KV.length {kvs:List (κ×V)} {vs:List (κ×Value)} (r:KV kvs vs):kvs.length=vs.length:=Paired.length r
end
theorem kV_is {P:Program} {w:World} {k:Key} {u:Value} (r:RelV (kV k) u):(mixKind P w).is k u=true:=by
  cases k with
  | inl i=>obtain ⟨t,e⟩:=(show ∃ t,u=Value.int i t from r); subst e; exact mixKind_int P w i t
  | inr x=>obtain ⟨t,e⟩:=(show ∃ t,u=Value.str x t from r); subst e; exact mixKind_str P w x t
theorem items_are {P:Program} {w:World}:∀ {ks:List Key} {us:List Value},Vals (ks.map kV) us→ItemsAre (mixKind P w) ks us
  | [],_,r=>by rw [List.map_nil] at r; cases r; exact .nil
  | k::ks,_,r=>by
    rw [List.map_cons] at r
    cases r with
    | cons h t=>exact .cons (kV_is h) (items_are t)
noncomputable abbrev KT (H:Hp):List (List Key×V)→List (List Key×Addr×Value)→Prop:=Paired fun p q=>p.1=q.1∧H q.2.1=some (.tup (p.1.map kV))∧RelV p.2 q.2.2
section
variable {P:Program} {w:World} {H:Hp} {h:Heap} {a:Addr}
theorem rd_of {u:HO} (ok:HOk P w H h) (e:Rd H a u):ObjOk P w H h a u:=e.ok ok
theorem dk_rd {kvs:List (Key×V)} (ok:HOk P w H h) (e:Rd H a (.dK kvs)):kvs.length≤sizeLine∧(a==sysModules)=false∧∃ vs,KV kvs vs∧h.DictOf (mixKind P w) a vs :=
  show ObjOk P w H h a (.dK kvs) from rd_of ok e
theorem dk_of {kvs:List (Key×V)} (ok:HOk P w H h) (e:H a=some (.dK kvs)):kvs.length≤sizeLine∧(a==sysModules)=false∧∃ vs,KV kvs vs∧h.DictOf (mixKind P w) a vs:=dk_rd ok (.inl e)
theorem key_of {ks:List Key} (ok:HOk P w H h) (e:H a=some (.tup (ks.map kV))):(tupleKind (mixKind P w)).is h ks a:=by
  obtain ⟨_,its,r,o,h1,h2,n,h3⟩:=(show ObjOk P w H h a (.tup (ks.map kV)) from ok a _ e)
  exact ⟨o,its.toArray,n,h1,h2,h3,by simpa using items_are r⟩
theorem dt_rd {kvs:List (List Key×V)} (ok:HOk P w H h) (e:Rd H a (.dT kvs)):kvs.length≤sizeLine∧(a==sysModules)=false ∧
    ∃ xs,KT H kvs xs∧h.DictOfH (tupleKind (mixKind P w)) a xs:=by
  obtain ⟨z,y,xs,r,o,es,ep,h1,h2,h3,h4,h5⟩:=(show ObjOk P w H h a (.dT kvs) from rd_of ok e)
  refine ⟨z,y,xs,r,o,es,ep,h1,h2,h3,h4,fun x hx=>?_,h5⟩
  have all:∀ {l:List (List Key×V)} {m:List (List Key×Addr×Value)},KT H l m→∀ x∈m,(tupleKind (mixKind P w)).is h x.1 x.2.1:=by
    intro l m q
    induction q with
    | nil=>intro x hx; exact nomatch hx
    | @cons p q ps qs hq t ih =>
      intro x hx
      rcases List.mem_cons.mp hx with e | hx
      · subst e
        exact key_of ok (by rw [← hq.1]; exact hq.2.1)
      · exact ih x hx
  exact all r x hx
end
noncomputable def DGet (H:Hp) (a:Addr) (y:V) (r:Option V):Prop :=
  (∃ kvs k,Rd H a (.dK kvs)∧y=kV k∧r=valV kvs k)∨∃ kvs k b,Rd H a (.dT kvs)∧y=.ref b∧H b=some (.tup (k.map kV))∧r=valV kvs k
noncomputable def DPut (H:Hp) (a:Addr) (y v:V) (H':Hp):Prop :=
  (∃ kvs k,H a=some (.dK kvs)∧y=kV k∧kvs.length < sizeLine∧H'=upd H a (.dK (putK kvs k v))) ∨
  ∃ kvs k b,H a=some (.dT kvs)∧y=.ref b∧H b=some (.tup (k.map kV))∧kvs.length < sizeLine∧H'=upd H a (.dT (putK kvs k v))
section
variable {X:Cx} {pins:List (Addr×Obj)} {σ:St} {H:Hp} {s:Shared} {a:Addr} {y v:V} {u r:Value} {o:Option V} {A:Around} {E:Value→Shared→Prop}
theorem Inv.big (I:Inv X pins σ H s):sysModules < s.heap.objs.size:=by
  have h:mainGlobals < s.heap.objs.size:=(I.mod.glob.keeps I.bk).lt
  exact Nat.lt_trans (by decide) h
theorem d_write {h':Heap} {t':Nat} {ob:HO} (I:Inv X pins σ H s) (mu:Mut (H a)) (hs:Heap.SameBut a s.heap h') (he:∃ q,h'.get? a=some q) (new:ObjOk X.prog X.w (upd H a ob) h' a ob) :
    Inv X pins σ (upd H a ob) { s with heap:=h',toks:=t' } :=
  I.write (x:=a) (e:=a) mu (.inl rfl) (fun b q hb z=>(hs.2 b hb).trans z) he new
theorem dk_new {P:Program} {w:World} {H':Hp} {h':Heap} {kvs:List (Key×V)} {vs:List (Key×Value)} (z:kvs.length≤sizeLine) (hd:(a==sysModules)=false) (rel:KV kvs vs) (dd:h'.DictOf (mixKind P w) a vs) :
    ObjOk P w H' h' a (.dK kvs):=⟨z,hd,vs,rel,dd⟩
end
noncomputable def NoSl (i:Expr):Prop:=∀ ov iv,subscripted i false ov iv=operate [ov,iv] (getItem ov iv)
noncomputable def tDGet (td ty:TE):TE:=fun σ H Q=>td σ H fun x H1=>ty σ H1 fun y H2=>∃ a v,x=.ref a∧DGet H2 a y (some v)∧Q v H2
noncomputable def tDIn (ty td:TE):TE:=fun σ H Q=>ty σ H fun y H1=>td σ H1 fun x H2=>∃ a o,x=.ref a∧DGet H2 a y o∧Q (.bl o.isSome) H2
noncomputable def tDNotIn (ty td:TE):TE:=fun σ H Q=>ty σ H fun y H1=>td σ H1 fun x H2=>∃ a o,x=.ref a∧DGet H2 a y o∧Q (.bl (!o.isSome)) H2
noncomputable def sDPut (td ty tv:TE):TS:=fun D σ H=>tv σ H fun v H1=>td σ H1 fun x H2=>ty σ H2 fun y H3=>∃ a H4,x=.ref a∧DPut H3 a y v H4∧D.nx σ H4
noncomputable def sDAug (td ty tv:TE) (rd:V→V→Hp→VK→Prop):TS:=fun D σ H=>td σ H fun x H1=>ty σ H1 fun y H2=>∃ a v,x=.ref a∧DGet H2 a y (some v) ∧
  tv σ H2 fun y2 H3=>rd v y2 H3 fun z H4=>∃ H5,DPut H4 a y z H5∧D.nx σ H5
noncomputable def sDDel (td ty:TE):TS:=fun D σ H=>td σ H fun x H1=>ty σ H1 fun y H2=>∃ a kvs k,x=.ref a∧H2 a=some (.dK kvs)∧y=kV k∧(valV kvs k).isSome=true∧D.nx σ (upd H2 a (.dK (dropK kvs k)))
theorem dk_empty {P:Program} {w:World} {H:Hp} (h:Heap) (hb:sysModules < h.objs.size):ObjOk P w H (h.push { cls:=.type "dict", data:=.dict #[] }) h.objs.size (.dK []) :=
  ⟨Nat.zero_le _,beq_eq_false_iff_ne.mpr (Ne.symm (Nat.ne_of_lt hb)),[],.nil,Heap.DictOf.new h⟩
noncomputable def tDNewK:TE:=fun _ H Q=>∀ p,H p=none→Q (.ref p) (upd H p (.dK []))
noncomputable def tDNewT:TE:=fun _ H Q=>∀ p,H p=none→Q (.ref p) (upd H p (.dT []))
section
variable {X:Cx} {pos:Pos}
theorem pe_dnewK:PE X (.Dict [] [] pos) tDNewK:=fun pins s σ H Q I h =>
  wpAny_Dict_empty ⟨.ref s.heap.objs.size,_,I.laid (a:=s.heap.objs.size) (o:=.dK []) (t':=s.toks) (fun _ _ q=>Heap.get?_push_of_some _ q) (Nat.le_refl _) (dk_empty s.heap I.big),rfl,h _ (I.hok.fresh (Nat.le_refl _))⟩
end
noncomputable def tPairs:List (TE×TE)→St→Hp→(List (V×V)→Hp→Prop)→Prop
  | [],_,H,Q=>Q [] H
  | (tk,tv)::r,σ,H,Q=>tk σ H fun x H1=>tv σ H1 fun y H2=>tPairs r σ H2 fun ps H3=>Q ((x,y)::ps) H3
noncomputable abbrev VV:List (V×V)→List (Value×Value)→Prop:=Paired fun p q=>RelV p.1 q.1∧RelV p.2 q.2
noncomputable def PPs (X:Cx) (pos:Pos) (keys:List (Option Expr)) (values:List Expr) (trs:List (TE×TE)):Prop :=
  ∀ (pins:List (Addr×Obj)) (s:Shared) (σ:St) (H:Hp) (Q:List (V×V)→Hp→Prop),Inv X pins σ H s→tPairs trs σ H Q →
    wpAny (model X.prog X.w) X.A (evalPairs (pairTrees keys values X.env pos)) (fun vs s'=>∃ ps H',Inv X pins σ H' s'∧VV ps vs∧Q ps H') X.xe s
noncomputable def mergeK (kvs more:List (Key×V)):List (Key×V):=more.foldl (fun acc kv=>putK acc kv.1 kv.2) kvs
noncomputable def tDisp (trs:List (TE×TE)):TE:=fun σ H Q=>∀ p,H p=none→tPairs trs σ (upd H p (.dK [])) fun ps H2=>H2 p=some (.dK [])∧∃ kvs:List (Key×V),ps=kvs.map (fun kv=>(kV kv.1,kv.2))∧kvs.length≤15∧Q (.ref p) (upd H2 p (.dK (mergeK [] kvs)))
structure M1 (X:Cx) (o:Expr) (m:Str) (apos:Pos) (e:Expr) (cpos:Pos):Prop where
  base:attributeBase o m X.env (eval o X.env)=eval o X.env
  few:((backTo cpos (starEach [e] X.env)).all (fun x=>!x.1)&&(backToKw cpos (keywordEach [] X.env)).all (fun x=>x.1.isSome)
    && decide (([e]:List Expr).length+([]:List Keyword).length+(if ([]:List Keyword).isEmpty then 0 else 1) < 30))=true
  line:(apos.endLine==cpos.line)=true
  trees:backTo cpos (starEach [e] X.env)=[(false,eval e X.env)]
structure M2 (X:Cx) (o:Expr) (m:Str) (apos:Pos) (e f:Expr) (cpos:Pos):Prop where
  base:attributeBase o m X.env (eval o X.env)=eval o X.env
  few:((backTo cpos (starEach [e,f] X.env)).all (fun x=>!x.1)&&(backToKw cpos (keywordEach [] X.env)).all (fun x=>x.1.isSome)
    && decide (([e,f]:List Expr).length+([]:List Keyword).length+(if ([]:List Keyword).isEmpty then 0 else 1) < 30))=true
  line:(apos.endLine==cpos.line)=true
  trees:backTo cpos (starEach [e,f] X.env)=[(false,eval e X.env),(false,eval f X.env)]
noncomputable def IsD (H:Hp) (a:Addr):Prop:=(∃ kvs,Rd H a (.dK kvs))∨∃ kvs,Rd H a (.dT kvs)
theorem isD_at {X:Cx} {pins:List (Addr×Obj)} {σ:St} {H:Hp} {s:Shared} {a:Addr} (I:Inv X pins σ H s) (d:IsD H a) :
    s.TypeIs (.ref a) "dict" ∧ (∀ b,Value.ref a=.ref b→∃ ob,s.heap.get? b=some ob∧ob.dict=none)∧(a==sysModules)=false:=by
  rcases d with ⟨kvs,e⟩ | ⟨kvs,e⟩
  · obtain ⟨_,hd,vs,_,dd⟩:=dk_rd I.hok e
    refine ⟨dd.typeIs,fun b q=>?_,hd⟩
    cases q
    obtain ⟨ob,_,_,h1,h2,_⟩:=dd
    exact ⟨ob,h1,h2.2.1⟩
  · obtain ⟨_,hd,xs,_,dd⟩:=dt_rd I.hok e
    refine ⟨dd.typeIs,fun b q=>?_,hd⟩
    cases q
    obtain ⟨ob,_,_,h1,h2,_⟩:=dd
    exact ⟨ob,h1,h2.2.1⟩
noncomputable def tDGet1 (td ty:TE):TE:=fun σ H Q=>td σ H fun x H1=>∃ a,x=.ref a∧IsD H1 a∧ty σ H1 fun y H2=>∃ o,DGet H2 a y o∧Q (o.getD .non) H2
noncomputable def tDGet2 (td ty tx:TE):TE:=fun σ H Q=>td σ H fun x H1=>∃ a,x=.ref a∧IsD H1 a∧ty σ H1 fun y H2=>tx σ H2 fun z H3=>∃ o,DGet H3 a y o∧Q (o.getD z) H3
noncomputable def tDPop1 (td ty:TE):TE:=fun σ H Q=>td σ H fun x H1=>∃ a,x=.ref a∧IsD H1 a∧ty σ H1 fun y H2=>∃ kvs k v,H2 a=some (.dK kvs)∧y=kV k∧valV kvs k=some v∧Q v (upd H2 a (.dK (dropK kvs k)))
noncomputable def tDPop2 (td ty tx:TE):TE:=fun σ H Q=>td σ H fun x H1=>∃ a,x=.ref a∧IsD H1 a∧ty σ H1 fun y H2=>tx σ H2 fun z H3=>∃ kvs k,H3 a=some (.dK kvs)∧y=kV k ∧
  (∀ v,valV kvs k=some v→Q v (upd H3 a (.dK (dropK kvs k))))∧(valV kvs k=none→Q z H3)
end L2
namespace L2
open PySem
noncomputable def clGo (env:Env):List (Str×NameKind)→List (Str×Addr)→List (Str×Addr)
  | [],cs=>cs
  | (n,k)::r,cs=>clGo env r (if k==.free then (n,(env.cells.lookup n).getD 0)::cs else cs)
noncomputable def clOf (scope:Scope) (env:Env):List (Str×Addr):=clGo env scope.names []
theorem closureFor_eq {scope:Scope} {env:Env} (h:∀ x∈scope.names,x.2=.free→∃ c,env.cells.lookup x.1=some c):closureFor scope env=pure (clOf scope env):=by
  unfold closureFor clOf
  have key:∀ (l:List (Str×NameKind)) (cs:List (Str×Addr)),(∀ x∈l,x.2=.free→∃ c,env.cells.lookup x.1=some c) →
      (forIn l cs (fun x (r:List (Str×Addr))=>match x with
        | (name,kind)=>if (kind==NameKind.free)=true then do let a ← cellOf env name; pure (ForInStep.yield ((name,a)::r)) else pure (ForInStep.yield r)):Sem (List (Str×Addr)))=pure (clGo env l cs):=by
    intro l
    induction l with
    | nil=>intro cs _; rfl
    | cons x r ih =>
      intro cs hx
      obtain ⟨n,k⟩:=x
      rw [List.forIn_cons]
      by_cases hk:(k==NameKind.free)=true
      · obtain ⟨c,hc⟩:=hx (n,k) List.mem_cons_self (by simpa using hk)
        have e:cellOf env n=pure c:=by unfold cellOf; rw [show env.cells.lookup n=some c from hc]
        simp only [hk,if_true,e,pure_bind]
        rw [ih _ fun y hy=>hx y (List.mem_cons_of_mem _ hy)]
        have hc':env.cells.lookup n=some c:=hc
        simp only [clGo,hk,if_true,hc',Option.getD_some]
      · simp only [hk,Bool.false_eq_true,if_false,pure_bind]
        rw [ih _ fun y hy=>hx y (List.mem_cons_of_mem _ hy)]
        simp only [clGo,hk,Bool.false_eq_true,if_false]
  have:=key scope.names [] h
  dsimp only
  rw [this]
  rfl
theorem clGo_mem (env:Env):∀ (l:List (Str×NameKind)) (cs:List (Str×Addr)) (p:Str×Addr),p∈clGo env l cs→p∈cs∨((p.1,NameKind.free)∈l∧p.2=(env.cells.lookup p.1).getD 0)
  | [],cs,p,h=>.inl h
  | (n,k)::r,cs,p,h=>by
    unfold clGo at h
    rcases clGo_mem env r _ p h with h | ⟨h1,h2⟩
    · by_cases hk:(k==NameKind.free)=true
      · rw [if_pos hk] at h
        rcases List.mem_cons.mp h with h | h
        · have e:k=.free:=by simpa using hk
          subst h; subst e
          exact .inr ⟨List.mem_cons_self,rfl⟩
        · exact .inl h
      · rw [if_neg hk] at h; exact .inl h
    · exact .inr ⟨List.mem_cons_of_mem _ h1,h2⟩
theorem clGo_has (env:Env):∀ (l:List (Str×NameKind)) (cs:List (Str×Addr)) (n:Str),((n,NameKind.free)∈l∨∃ a,(n,a)∈cs)→∃ a,(n,a)∈clGo env l cs
  | [],cs,n,h=>by
    rcases h with h | h
    · cases h
    · exact h
  | (m,k)::r,cs,n,h=>by
    unfold clGo
    refine clGo_has env r _ n ?_
    rcases h with h | ⟨a,h⟩
    · rcases List.mem_cons.mp h with h | h
      · cases h
        exact .inr ⟨_,by rw [if_pos (by simp)]; exact List.mem_cons_self⟩
      · exact .inl h
    · refine .inr ⟨a,?_⟩
      split
      · exact List.mem_cons_of_mem _ h
      · exact h
theorem lookup_of_mem_some {β:Type}:∀ {l:List (Str×β)} {n:Str} {a:β},(n,a)∈l→∃ b,l.lookup n=some b
  | [],_,_,h=>by cases h
  | (m,b)::r,n,a,h=>by
    rw [List.lookup_cons]
    by_cases e:n=m
    · subst e; simp
    · have hb:(n==m)=false:=by simpa using e
      rw [hb]
      rcases List.mem_cons.mp h with h | h
      · cases h; exact absurd rfl e
      · exact lookup_of_mem_some h
theorem clOf_in {scope:Scope} {env:Env} (h:∀ x∈scope.names,x.2=.free→∃ c,env.cells.lookup x.1=some c) {x:Str} {c:Addr} (e:(clOf scope env).lookup x=some c):env.cells.lookup x=some c:=by
  have m:=PySem.mem_of_lookup e
  rcases clGo_mem env scope.names [] (x,c) m with h' | ⟨h1,h2⟩
  · cases h'
  · obtain ⟨d,hd⟩:=h _ h1 rfl
    have hd':env.cells.lookup x=some d:=hd
    have h2':c=(env.cells.lookup x).getD 0:=h2
    rw [hd'] at h2' ⊢
    rw [h2']; rfl
theorem clOf_has {scope:Scope} {env:Env} {x:Str} (h:(x,NameKind.free)∈scope.names):∃ c,(clOf scope env).lookup x=some c:=by
  obtain ⟨a,ha⟩:=clGo_has env scope.names [] x (.inl h)
  exact lookup_of_mem_some ha
end L2
namespace L2
open PySem PySem.Spec PyProof.Rows
structure CompSc (X:Cx) (scope:Scope) (N':List Str) (mp:List (Option Nat)):Prop where
  kind:scope.kind=.function
  nocell:∀ x∈scope.names,x.2≠.cell
  names:∀ x∈scope.names,x.2=.local→scope.names.lookup x.1=some .local
  fr:∀ x∈scope.names,x.2=.free→X.env.scope.names.lookup x.1=some .cell∨X.env.scope.names.lookup x.1=some .free
  len:mp.length=N'.length
  map:∀ (i:Nat) (x:Str) (j:Nat),N'[i]?=some x→mp[i]?=some (some j)→X.N[j]?=some x∧(x,NameKind.free)∈scope.names∧((relabel scope X.env).names.lookup x=some .cell∨(relabel scope X.env).names.lookup x=some .free)
noncomputable def inSt (mp:List (Option Nat)) (σ:St):St:=mp.map fun o=>o.bind fun j=>(σ[j]?).join
noncomputable def compCx (X:Cx) (scope:Scope) (N':List Str) (s:Shared) (H:Hp) (fp:List Addr):Cx :=
  { X with N:=N',s₀:=s,H₀:=H,env:=compEnvC scope (clOf scope X.env) s.heap.objs.size X.env,outer:=X.stack,ex:=fp,fn:=fun _=>false,pn:=[],xe:=fun _ _=>False }
theorem relabel_free {scope:Scope} {env:Env} {x:Str} (nc:∀ y∈scope.names,y.2≠.cell) (h:(relabel scope env).names.lookup x=some .cell∨(relabel scope env).names.lookup x=some .free):(x,NameKind.free)∈scope.names:=by
  have m:∃ k,(x,k)∈(relabel scope env).names∧(k=.cell∨k=.free):=by
    rcases h with h | h
    · exact ⟨_,PySem.mem_of_lookup h,.inl rfl⟩
    · exact ⟨_,PySem.mem_of_lookup h,.inr rfl⟩
  obtain ⟨k,hm,hk⟩:=m
  unfold relabel at hm
  obtain ⟨⟨n,k'⟩,hin,e⟩:=List.mem_map.mp hm
  dsimp only at e
  split at e
  · rename_i hc
    have e1:n=x:=congrArg Prod.fst e
    have e2:k'=.free:=by
      have:=(Bool.and_eq_true_iff.mp (Bool.and_eq_true_iff.mp hc).1).1
      simpa using this
    rw [← e1,← e2]; exact hin
  · have e1:n=x:=congrArg Prod.fst e
    have e2:k'=k:=congrArg Prod.snd e
    rcases hk with hk | hk
    · exact absurd (e2.trans hk) (nc _ hin)
    · rw [← e1,← hk,← e2]; exact hin
section
variable {X:Cx} {pins:List (Addr×Obj)} {σ:St} {H:Hp} {s:Shared} {scope:Scope} {N':List Str} {mp:List (Option Nat)} {fp:List Addr}
theorem CompSc.cells (ck:CompSc X scope N' mp) (ok:X.Ok):∀ x∈scope.names,x.2=.free→∃ c,X.env.cells.lookup x.1=some c:=fun x hx hf=>ok.has x.1 (ck.fr x hx hf)
theorem Inv.inner (I:Inv X pins σ H s) (ck:CompSc X scope N' mp) (hf:∀ b∈fp,FpOk X pins H b) (hlt:∀ b∈fp,b < s.heap.objs.size) {h₁:Heap} {tk:Nat}
    (hn:h₁.Ns s.heap.objs.size (fun _=>none)) (hk:∀ b o,s.heap.get? b=some o→h₁.get? b=some o) :
    Inv (compCx X scope N' s H fp) [] (inSt mp σ) H { s with heap:=h₁,toks:=tk }:=by
  have hfree:=ck.cells I.ok
  have cin:∀ x c,(clOf scope X.env).lookup x=some c→X.env.cells.lookup x=some c:=fun x c e=>clOf_in hfree e
  have clt:∀ x c,X.env.cells.lookup x=some c→c < s.heap.objs.size:=fun x c e=>by
    obtain ⟨v,q⟩:=I.cell x c e
    exact q.lt
  refine ⟨⟨I.ok.mod,ck.kind,I.ok.glob,I.ok.blt,Nat.le_refl _,fun x y c h1 h2=>I.ok.inj x y c (cin x c h1) (cin y c h2),fun x hx=>?_,fun x c h _=>?_,I.ok.hd,I.ok.frames,.inl rfl,fun b hb=>⟨?_,fun x c e=>?_⟩,I.bs,Nat.le_trans I.ok.bsz I.sz,fun b o e hb=>?_,fun b hb hs=>?_,I.stack,I.stkFree⟩,
    rfl,I.bare,Un.kept hk,⟨_,hn,fun i x v h1 h2 h3=>?_⟩,fun x c e=>?_,I.hok.fresh (Nat.le_refl _),fun x c e=>?_,fun p hp=>absurd (show p∈([]:List (Addr×Obj)) from hp) (by simp),I.hok.kept hk,?_⟩
  · exact clOf_has (relabel_free ck.nocell hx)
  · exact absurd (show false=true from h) (by decide)
  · exact Nat.ne_of_lt (hlt b hb)
  · exact (hf b hb).2.2.2.2.1 x c (cin x c e)
  · have q:=(hf b hb).2.2.2.1
    rcases q with q | q
    · exact I.ok.noex b o e q
    · exact absurd (Nat.lt_of_lt_of_le (Heap.lt_size e) (Nat.le_trans I.ok.bsz q)) (Nat.lt_irrefl _)
  · rcases List.mem_cons.mp (I.stkSub b hs) with z | z
    · exact (hf b hb).2.1 z
    · exact (hf b hb).2.2.1 z
  · have hi:∃ j,mp[i]?=some (some j)∧σ[j]?=some (some v):=by
      unfold inSt at h2
      rw [List.getElem?_map] at h2
      cases q:mp[i]? with
      | none=>rw [q] at h2; cases h2
      | some o =>
        rw [q] at h2
        have h2':(o.bind fun j=>(σ[j]?).join)=some v:=Option.some.inj h2
        cases o with
        | none=>cases h2'
        | some j =>
          have h2'':(σ[j]?).join=some v:=h2'
          refine ⟨j,rfl,?_⟩
          cases r:σ[j]? with
          | none=>rw [r] at h2''; cases h2''
          | some w' =>
            rw [r] at h2''
            have:w'=some v:=h2''
            rw [this]
    obtain ⟨j,hj,hσ⟩:=hi
    obtain ⟨m1,m2,m3⟩:=ck.map i x j h1 hj
    obtain ⟨m,hm,hl⟩:=I.loc
    have vis:Vis X.env.scope x:=by
      rcases ck.fr _ m2 rfl with q | q
      · exact .inr (.inl q)
      · exact .inr (.inr q)
    obtain ⟨u,ru,l⟩:=hl j x v m1 hσ vis
    refine ⟨u,ru,.inr ⟨m3,?_⟩⟩
    obtain ⟨c,hc⟩:=clOf_has (env:=X.env) m2
    refine ⟨c,hc,?_⟩
    rcases l with ⟨k,_⟩ | ⟨_,c',e',z⟩
    · rcases ck.fr _ m2 rfl with q | q
      · have k':X.env.scope.names.lookup x=some .local:=k
        have q':X.env.scope.names.lookup x=some .cell:=q
        rw [k'] at q'; cases q'
      · have k':X.env.scope.names.lookup x=some .local:=k
        have q':X.env.scope.names.lookup x=some .free:=q
        rw [k'] at q'; cases q'
    · have e2:=cin x c hc
      rw [e'] at e2
      cases e2
      obtain ⟨o,ho,hd⟩:=z
      exact ⟨o,hk _ o ho,hd⟩
  · obtain ⟨v,o,ho,hd⟩:=I.cell x c (cin x c e)
    exact ⟨v,o,hk _ o ho,hd⟩
  · exact I.freeC x c (cin x c e)
  · show (inSt mp σ).length=N'.length
    unfold inSt
    rw [List.length_map]
    exact ck.len
theorem Inv.outer {σ':St} {H':Hp} {s':Shared} (I:Inv X pins σ H s) (hf:∀ b∈fp,FpOk X pins H b) (J:Inv (compCx X scope N' s H fp) [] σ' H' s'):Inv X pins σ H' s' :=
  I.call' (ch:=fp) J.os J.base J.hok J.bare fun b hb=>⟨(hf b hb).2.2.2.1,(hf b hb).2.1,(hf b hb).2.2.2.2.1,(hf b hb).2.2.2.2.2⟩
end
noncomputable def KeepsSt (σ σ':St):Prop:=σ'.length=σ.length∧∀ (i:Nat) v,σ[i]?=some (some v)→σ'[i]?=some (some v)
noncomputable def PTs (X:Cx) (ifs:List Expr) (t:TT):Prop :=
  ∀ (pins:List (Addr×Obj)) (s:Shared) (σ:St) (H:Hp) (Q:Bool→Hp→Prop),Inv X pins σ H s→t σ H Q →
    wpAny (model X.prog X.w) X.A (forIn ifs true fun c r=>if r=true then do let ok ← isTrue c X.env (eval c X.env); pure (ForInStep.yield ok) else pure (ForInStep.yield r)) (TP X pins σ Q) X.xe s
theorem pts_nil {X:Cx}:PTs X [] (fun _ H Q=>Q true H):=fun _ _ _ H _ I h=>wpAny_tests_nil ⟨H,I,h⟩
theorem pts_one {X:Cx} {c:Expr} {t:TT} (hc:PT X c t):PTs X [c] t:=fun pins s σ H Q I h=>wpAny_tests_one (hc pins s σ H Q I h)
noncomputable def CompW (J:It) (σ':St) (g:TG) (tt:TT) (te:TE) (D:Addr) (Fin:Hp→Prop) (H1:Hp):Prop :=
  ∃ W:Nat→Nat→Hp→Prop,(∃ m,W 0 m (upd H1 D (.lst [])))∧∀ i m H,W i m H →
    (J.stop i H∧Fin H)∨(J.go i H∧∃ Nx:Hp→Prop,(∀ H',Nx H'→∃ m',m' < m∧W (i+1) m' H')∧∀ x H',J.yld i H x H'→g x σ' H' fun σ2 H2=>KeepsSt σ' σ2 ∧
      tt σ2 H2 fun ok H3=>if ok=true then te σ2 H3 fun y H4=>∃ ys,H4 D=some (.lst ys)∧ys.length < sizeLine∧Nx (upd H4 D (.lst (ys++[y]))) else Nx H3)
noncomputable def tComp (mp:List (Option Nat)) (wi:TI) (g:TG) (tt:TT) (te:TE):TE:=fun σ H Q=>wi σ H fun J H1=>∀ D,H1 D=none→CompW J (inSt mp σ) g tt te D (fun H=>Q (.ref D) H) H1
theorem codeAny_compLoop_gen {prog:Program} {w:World} {A:Around} {R:Result→Shared→Prop} {s:Shared} {elt target iter:Expr} {ifs:List Expr} {scope:Scope} {pos:Pos} {it acc:Value} {env:Env} (I:Nat→Shared→Prop)
    (turn:∀ n s,I n s→wpAny (model prog w) A (pyNext it) (fun r s₁=>match r with
      | none=>R (.ok .next) s₁
      | some v=>wpAny (model prog w) A (letOwnedTupleGo target it v) (fun _ s₀=>wpAny (model prog w) A (assign target env v) (fun _ s₂ =>
          wpAny (model prog w) A (forIn ifs true fun c r=>if r=true then do let ok ← isTrue c env (eval c env); pure (ForInStep.yield ok) else pure (ForInStep.yield r)) (fun ok s₃ =>
            if ok=true then wpAny (model prog w) A (eval elt env) (fun x s₄ =>
              wpAny (model prog w) A (call (.builtin "list.append") [acc,x]) (fun _ s₅=>∃ m,m < n∧I m s₅) (fun _ _=>False) s₄) (fun _ _=>False) s₃
            else ∃ m,m < n∧I m s₃) (fun _ _=>False) s₂) (fun _ _=>False) s₀) (fun _ _=>False) s₁) (fun _ _=>False) s)
    (n:Nat) (h:I n s) :
    codeAny (model prog w) A (.compLoop (.ListComp elt [⟨target,iter,ifs,0⟩] scope pos) 0 it acc env) R s:=by
  refine codeAny_loop rfl I (fun n s hI=>?_) n h
  show wpAny _ A ((compTurn (.ListComp elt [⟨target,iter,ifs,0⟩] scope pos) 0 it acc env).onRaise (fun x=>do noteFrame x env; theTreesLotGoes x)) _ _ s
  refine wpAny_noted ?_
  rw [compTurn_list]
  have no:∀ {P:Value→Shared→Prop} (e:Value) (s':Shared),False→P e s':=fun _ _ f=>f.elim
  refine wpAny_bind (wpAny_standAt (wpAny_bind (wpAny_mono (turn n s hI) (fun r s₁ h₁=>?_) no)))
  cases r with
  | none=>exact wpAny_pure h₁
  | some v =>
    refine wpAny_bind (wpAny_mono h₁ (fun _ s₀ h₀=>?_) no)
    refine wpAny_bind (wpAny_mono h₀ (fun _ s₂ h₂=>wpAny_bind (wpAny_mono h₂ (fun ok s₃ h₃=>?_) no)) no)
    cases ok with
    | false=>exact wpAny_pure ⟨rfl,h₃⟩
    | true =>
      exact wpAny_bind (wpAny_bind (wpAny_mono h₃ (fun x s₄ h₄=>wpAny_bind (wpAny_mono h₄ (fun _ s₅ h₅=>wpAny_pure (wpAny_pure ⟨rfl,h₅⟩)) no)) no))
section
variable {X:Cx} {elt iter tg:Expr} {ifs:List Expr} {scope:Scope} {pos:Pos} {N':List Str} {mp:List (Option Nat)} {wi:TI} {g:TG} {tt:TT} {te:TE}
theorem comp_block {pins:List (Addr×Obj)} {σ:St} {H:Hp} {s:Shared} {J:It} {it:Addr} {fp:List Addr} {tn:Nat→Heap→Prop} {Fin:Hp→Prop} {E:Value→Shared→Prop} {RR:Value→Addr→Result→Shared→Prop}
    (hc:X.calm=true) (ck:CompSc X scope N' mp) (hb:∀ s H fp,PG (compCx X scope N' s H fp) tg g∧PTs (compCx X scope N' s H fp) ifs tt∧PE (compCx X scope N' s H fp) elt te)
    (I:Inv X pins σ H s) (T:Turn X.prog X.w X.K tg J fp it tn) (st:tn 0 s.heap) (hf:∀ b∈fp,FpOk X pins H b) (hq:CompW J (inSt mp σ) g tt te s.heap.objs.size Fin H)
    (hRR:∀ (C:Addr) (s':Shared) (H':Hp),Inv X pins σ H' s'→Fin H'→(∃ m,s'.heap.Ns C m)→H' C=none→C≠X.env.locals→X.s₀.heap.objs.size≤C→(∀ x c,X.env.cells.lookup x=some c→c≠C)→(∀ p∈X.pn++pins,p.1≠C)→RR (.ref s.heap.objs.size) C (.ok .next) s') :
    wpAny (model X.prog X.w) X.A (newList []) (fun acc s₃=>wpAny (model X.prog X.w) X.A (newFunctionEnv scope X.env.globals (clOf scope X.env) [] X.env.qual none .none (some X.env)) (fun cenv s₄ =>
      codeAny (model X.prog X.w) X.A (.compStart (.ListComp elt [⟨tg,iter,ifs,0⟩] scope pos) 0 (.ref it) acc { cenv with scope:=relabel scope X.env }) (RR acc cenv.locals) s₄) E s₃) E s:=by
  refine wpAny_newObj_type (wpAny_newFunctionEnv ck.nocell (by intro y hy; simp at hy) (fun h₁ hns₁ hsb₁=>?_) ck.kind)
  dsimp only at hns₁ hsb₁ ⊢
  have I3:Inv X pins σ (upd H s.heap.objs.size (.lst [])) { s with heap:=s.heap.push { cls:=.type "list", dict:=none,data:=.seq ([]:List Value).toArray } }:=I.lnew (its:=[]) (t':=s.toks) .nil (Nat.zero_le _)
  generalize hs3:({ s with heap:=s.heap.push { cls:=.type "list", dict:=none,data:=.seq ([]:List Value).toArray } }:Shared)=s3 at I3
  have e3:s.heap.push { cls:=.type "list", dict:=none,data:=.seq ([]:List Value).toArray }=s3.heap:=by rw [← hs3]
  rw [e3] at hns₁ hsb₁ ⊢
  have sz3:s3.heap.objs.size=s.heap.objs.size+1:=by rw [← e3,Heap.size_push]
  have le3:s.heap.objs.size≤s3.heap.objs.size:=by rw [sz3]; exact Nat.le_succ _
  have fplt:∀ b∈fp,b < s.heap.objs.size:=fun b hb=>by
    obtain ⟨o,e,_⟩:=T.obj 0 _ st b hb
    exact Heap.lt_size e
  have hf3:∀ b∈fp,FpOk X pins (upd H s.heap.objs.size (.lst [])) b:=fun b hb=>⟨by rw [upd_ne (Nat.ne_of_lt (fplt b hb))]; exact (hf b hb).1,(hf b hb).2⟩
  have k1:∀ b o,s3.heap.get? b=some o→h₁.get? b=some o:=fun b o e=>by
    rw [hsb₁.2 b (Nat.ne_of_lt (Heap.lt_size e))]
    exact Heap.get?_push_of_some _ e
  have k0:∀ b o,s.heap.get? b=some o→h₁.get? b=some o:=fun b o e=>k1 b o (by rw [← e3]; exact Heap.get?_push_of_some _ e)
  obtain ⟨W,⟨m0,w0⟩,turn⟩:=hq
  obtain ⟨hg,ht,he⟩:=hb s3 (upd H s.heap.objs.size (.lst [])) fp
  have no:∀ {P:Value→Shared→Prop} (e:Value) (s':Shared),False→P e s':=fun _ _ f=>f.elim
  have stat:∀ {H':Hp},(∀ b∈fp,H' b=none)→∀ b∈fp,FpOk (compCx X scope N' s3 (upd H s.heap.objs.size (.lst [])) fp) [] H' b:=fun hn b hb =>
    ⟨hn b hb,Nat.ne_of_lt (Nat.lt_of_lt_of_le (fplt b hb) le3),fun z=>by
      rcases List.mem_cons.mp (I3.stkSub b z) with z | z
      · exact (hf b hb).2.1 z
      · exact (hf b hb).2.2.1 z,.inl hb,fun x c e=>(hf b hb).2.2.2.2.1 x c (clOf_in (ck.cells I.ok) e),fun p hp=>absurd (show p∈([]:List (Addr×Obj)) from hp) (by simp)⟩
  have loop:∀ tk:Nat,codeAny (model X.prog X.w) X.A (.compLoop (.ListComp elt [⟨tg,iter,ifs,0⟩] scope pos) 0 (.ref it) (.ref s.heap.objs.size) (compEnvC scope (clOf scope X.env) s3.heap.objs.size X.env))
      (RR (.ref s.heap.objs.size) s3.heap.objs.size) { s3 with heap:=h₁,toks:=tk }:=by
    intro tk
    have I4:Inv (compCx X scope N' s3 (upd H s.heap.objs.size (.lst [])) fp) [] (inSt mp σ) (upd H s.heap.objs.size (.lst [])) { s3 with heap:=h₁,toks:=tk } :=
      I3.inner ck hf3 (fun b hb=>Nat.lt_of_lt_of_le (fplt b hb) le3) (by simpa using hns₁) k1
    refine codeAny_compLoop_gen (fun n s'=>∃ i H',Inv (compCx X scope N' s3 (upd H s.heap.objs.size (.lst [])) fp) [] (inSt mp σ) H' s'∧tn i s'.heap∧(∀ b∈fp,H' b=none)∧W i n H') ?_ m0
      ⟨0,_,I4,T.keep _ _ _ st fun b _ o e=>k0 b o e,fun b hb=>(hf3 b hb).1,w0⟩
    rintro n s5 ⟨i,H5,I5,st5,fr5,w5⟩
    rcases turn i n H5 w5 with ⟨stop,fin⟩ | ⟨go,Nx,hN,step⟩
    · refine thn (T.done (compCx X scope N' s3 (upd H s.heap.objs.size (.lst [])) fp) rfl rfl rfl hc i [] s5 (inSt mp σ) H5 _ I5 (stat fr5) st5 stop) fun r s6 ⟨hr,I6⟩=>?_
      subst hr
      have IO:Inv X pins σ H5 s6:=I3.outer hf3 I6
      obtain ⟨m,hm,_⟩:=I6.loc
      refine hRR _ s6 H5 IO fin ⟨m,hm⟩ I6.free (Nat.ne_of_gt I3.lt) I3.sz (fun x c e=>?_) fun p hp=>?_
      · obtain ⟨v,q⟩:=I3.cell x c e
        exact Nat.ne_of_lt q.lt
      · exact Nat.ne_of_lt (Heap.lt_size (I3.pin p hp).1)
    · refine thn (T.item (compCx X scope N' s3 (upd H s.heap.objs.size (.lst [])) fp) rfl rfl rfl hc i [] s5 (inSt mp σ) H5 _ I5 (stat fr5) st5 go) fun r s6 ⟨u,hr,h6⟩=>?_
      subst hr
      refine thn h6 fun _ s7 ⟨x,H7,I7,r7,y7,st7,fr7⟩=>?_
      have I7':=I7.pinned (stat fr7) (T.obj _ _ st7)
      have back:∀ {σ9:St} {H9:Hp} {s9:Shared},Inv (compCx X scope N' s3 (upd H s.heap.objs.size (.lst [])) fp) ([]++pinsAt fp s7.heap) σ9 H9 s9→KeepsSt (inSt mp σ) σ9→Nx H9 →
          ∃ m,m < n∧∃ i H',Inv (compCx X scope N' s3 (upd H s.heap.objs.size (.lst [])) fp) [] (inSt mp σ) H' s9∧tn i s9.heap∧(∀ b∈fp,H' b=none)∧W i m H':=fun {σ9 H9 s9} I9 ks n9=>by
        obtain ⟨m',hm,w9⟩:=hN H9 n9
        refine ⟨m',hm,i+1,H9,(Inv.unpinned (pins:=[]) I9).weak ks.1.symm ks.2,T.keep _ _ _ st7 fun b hb o e=>(I9.pin (b,o) (List.mem_append_right _ (List.mem_append_right _ (mem_pinsAt hb e)))).1,fun b hb=>?_,w9⟩
        obtain ⟨o,e,d⟩:=T.obj _ _ st7 b hb
        exact (I9.pin (b,o) (List.mem_append_right _ (List.mem_append_right _ (mem_pinsAt hb e)))).2.1
      refine thn (hg _ s7 (inSt mp σ) H7 x u _ I7' r7 (step x H7 y7)) fun _ s8 ⟨σ8,H8,I8,ks,q8⟩=>?_
      refine thn (ht _ s8 σ8 H8 _ I8 q8) fun ok s9 ⟨H9,I9,q9⟩=>?_
      cases ok with
      | false =>
        rw [if_neg Bool.false_ne_true] at q9 ⊢
        exact back I9 ks q9
      | true =>
        rw [if_pos rfl] at q9 ⊢
        refine thn (he _ s9 σ8 H9 _ I9 q9) fun y s10 ⟨yv,H10,I10,r10,ys,hD,hlen,nx⟩=>?_
        refine thn (mt_append _ s10 σ8 H10 (.ref s.heap.objs.size) [yv] (.ref s.heap.objs.size) [y] (fun _ H'=>Nx H') I10 rfl (.cons r10 .nil) ⟨_,ys,yv,rfl,rfl,hD,hlen,nx⟩) fun z s11 ⟨zv,H11,I11,_,n11⟩=>?_
        exact back I11 ks n11
  subst hs3
  exact codeAny_compStart_list (loop _) (T.self _ 0 _ _ _ (T.keep _ _ _ st fun b _ o e=>k0 b o e) (loop _))
theorem pe_comp (hc:X.calm=true) (ck:CompSc X scope N' mp) (hi:PI X tg iter wi)
    (hb:∀ s H fp,PG (compCx X scope N' s H fp) tg g∧PTs (compCx X scope N' s H fp) ifs tt∧PE (compCx X scope N' s H fp) elt te)
    (hs:∀ x,foldedSetIterable iter X.env x=pure x:=by intro _; rfl):PE X (.ListComp elt [⟨tg,iter,ifs,0⟩] scope pos) (tComp mp wi g tt te):=by
  intro pins s σ H Q I h
  rw [eval_ListComp]
  refine wpAny_comprehension_free (use:=none) rfl hs (closureFor_eq (ck.cells I.ok)) ck.kind ck.names ?_
  refine thn (hi pins s σ H _ I h) fun v s1 h1=>thn h1 fun itv s2 h2=>?_
  obtain ⟨it,fp,tn,J,H2,e,I2,T,st2,f2,q2⟩:=h2
  subst e
  refine comp_block hc ck hb I2 T st2 f2 (q2 _ (I2.hok.fresh (Nat.le_refl _))) fun C s' H' I' fin hm hC h1 h2 h3 h4=>?_
  obtain ⟨m,hm⟩:=hm
  refine ⟨m,hm,fun h' sb=>⟨.ref _,H',?_,rfl,fin⟩⟩
  exact I'.turned (t':=s'.toks) (fun b o hb e=>(sb.2 b hb).trans e) hC h1 (.inr h2) h3 h4
theorem ps_setComp {i:Nat} {y:Str} {py spos:Pos} (hc:X.calm=true) (hN:X.N.Nodup) (hiy:X.N[i]?=some y) (hy:X.env.scope.names.lookup y=some .local) (ck:CompSc X scope N' mp) (hi:PI X tg iter wi)
    (hb:∀ s H fp,PG (compCx X scope N' s H fp) tg g∧PTs (compCx X scope N' s H fp) ifs tt∧PE (compCx X scope N' s H fp) elt te)
    (hsw:swapsWith (.ListComp elt [⟨tg,iter,ifs,0⟩] scope pos) (some (.Name y py)) spos.line X.env=pure true:=by rfl)
    (hs:∀ x,foldedSetIterable iter X.env x=pure x:=by intro _; rfl) :
    PS X (.Assign [.Name y py] (.ListComp elt [⟨tg,iter,ifs,0⟩] scope pos) spos) (tAsg (tComp mp wi g tt te) (gName i)):=by
  intro pins s σ H D I h
  rw [exec_Assign_Name_used _ _ _ _ hsw]
  refine wpAny_bind (wpAny_standAt (wpAny_bind ?_))
  show wpAny _ X.A (do let _ ← comprehension (.ListComp elt [⟨tg,iter,ifs,0⟩] scope pos) scope X.env _ (newList []) false (eval iter X.env) (some (assign (.Name y py) X.env))) _ _ s
  refine wpAny_bind (wpAny_mono (wpAny_comprehension_free (use:=some (assign (.Name y py) X.env)) (Q:=fun _ s'=>SP X pins D .next s') rfl hs (closureFor_eq (ck.cells I.ok)) ck.kind ck.names ?_) (fun _ s' hq=>wpAny_pure (wpAny_pure hq)) fun _ _ e=>e)
  refine thn (hi pins s σ H _ I h) fun v s1 h1=>thn h1 fun itv s2 h2=>?_
  obtain ⟨it,fp,tn,J,H2,e,I2,T,st2,f2,q2⟩:=h2
  subst e
  refine comp_block hc ck hb I2 T st2 f2 (q2 _ (I2.hok.fresh (Nat.le_refl _))) fun C s' H' I' fin hm hC h1 h2 h3 h4=>?_
  obtain ⟨m,hm⟩:=hm
  refine wpAny_assign_Name (store_ok2 (v:=.ref s2.heap.objs.size) I' hN hiy (.inl hy) rfl (fun s'' I'' ⟨a,sb,ha⟩=>?_) (.inr hy))
  have hCa:C≠a:=by
    rcases ha with ha | ha
    · rw [ha]; exact h1
    · exact fun z=>h3 _ _ ha z.symm
  refine ⟨m,hm.sameBut sb hCa,fun h' sb'=>⟨_,H',?_,fin⟩⟩
  exact I''.turned (t':=s''.toks) (fun b o hb e=>(sb'.2 b hb).trans e) hC h1 (.inr h2) h3 h4
end
end L2
namespace L2.PU
open PySem PySem.Spec PyProof.Rows
noncomputable def nst:Expr→Bool
  | .Starred _ _=>false
  | _=>true
theorem star_of {e:Expr} {es:List Expr} {env:Env} (h:nst e=true):starEach (e::es) env=(false,eval e env)::starEach es env:=by
  cases e <;> first | rfl | cases h
theorem plain_of {pos:Pos} {env:Env}:∀ {es:List Expr},es.all nst=true→(backTo pos (starEach es env)).any (·.1)=false
  | [],_=>rfl
  | e::es,h=>by
    rw [List.all_cons,Bool.and_eq_true] at h
    rw [star_of h.1]
    show (false||(backTo pos (starEach es env)).any (·.1))=false
    rw [plain_of h.2]; rfl
noncomputable def kD:Key→PyData
  | .inl i=>.int i
  | .inr x=>.str x
mutual
noncomputable def Rel (K:PySem.W.Frag) (F:Hp):PyData→V→Prop
  | .none,v=>v=.non
  | .bool b,v=>v=.bl b
  | .int i,v=>v=.int i
  | .str x,v=>v=.str x
  | .tuple ds,v=>∃ a xs,v=.ref a∧SqT K F a xs∧RelL K F ds xs
  | .list ds,v=>∃ a xs,v=.ref a∧SqL K F a xs∧RelL K F ds xs
  | .dict es,v=>∃ a ks,v=.ref a∧Rd F a (.dK ks)∧RelD K F es ks
noncomputable def RelL (K:PySem.W.Frag) (F:Hp):List PyData→List V→Prop
  | [],xs=>xs=[]
  | d::ds,xs=>∃ x r,xs=x::r∧Rel K F d x∧RelL K F ds r
noncomputable def RelD (K:PySem.W.Frag) (F:Hp):List (PyData×PyData)→List (Key×V)→Prop
  | [],ks=>ks=[]
  | (d,e)::es,ks=>∃ k x r,ks=(k,x)::r∧d=kD k∧Rel K F e x∧RelD K F es r
end
section
variable {K:PySem.W.Frag} {F F' H H':Hp}
theorem same_seqT {a:Addr} {xs:List V} (e:Same H H') (h:SqT K H a xs):SqT K H' a xs:=by
  rcases h with (h | ⟨o,h⟩) | h
  · exact .inl (.inl (e _ _ h))
  · exact .inl (.inr ⟨o,e _ _ h⟩)
  · exact .inr h
theorem rd_mono {a:Addr} {u:HO} (e:Same F F') (h:Rd F a u):Rd F' a u:=h.elim (fun h=>.inl (e _ _ h)) fun ⟨o,h⟩=>.inr ⟨o,e _ _ h⟩
theorem same_new {p:Addr} (h:H p=none) (o:HO):Same H (upd H p o):=fun b u q=>by rw [upd_ne (ne_of_none q h)]; exact q
mutual
theorem Rel.mono (e:Same F F'):∀ {d:PyData} {v:V},Rel K F d v→Rel K F' d v
  | .none,v,h=>by unfold Rel at h ⊢; exact h
  | .bool b,v,h=>by unfold Rel at h ⊢; exact h
  | .int i,v,h=>by unfold Rel at h ⊢; exact h
  | .str x,v,h=>by unfold Rel at h ⊢; exact h
  | .tuple ds,v,h=>by
    unfold Rel at h ⊢
    obtain ⟨a,xs,h1,h2,h3⟩:=h
    exact ⟨a,xs,h1,same_seqT e h2,RelL.mono e h3⟩
  | .list ds,v,h=>by
    unfold Rel at h ⊢
    obtain ⟨a,xs,h1,h2,h3⟩:=h
    exact ⟨a,xs,h1,e.seq h2,RelL.mono e h3⟩
  | .dict es,v,h=>by
    unfold Rel at h ⊢
    obtain ⟨a,ks,h1,h2,h3⟩:=h
    exact ⟨a,ks,h1,rd_mono e h2,RelD.mono e h3⟩
theorem RelL.mono (e:Same F F'):∀ {ds:List PyData} {xs:List V},RelL K F ds xs→RelL K F' ds xs
  | [],xs,h=>by unfold RelL at h ⊢; exact h
  | d::ds,xs,h=>by
    unfold RelL at h ⊢
    obtain ⟨x,r,h1,h2,h3⟩:=h
    exact ⟨x,r,h1,Rel.mono e h2,RelL.mono e h3⟩
theorem RelD.mono (e:Same F F'):∀ {es:List (PyData×PyData)} {ks:List (Key×V)},RelD K F es ks→RelD K F' es ks
  | [],ks,h=>by unfold RelD at h ⊢; exact h
  | (d,e')::es,ks,h=>by
    unfold RelD at h ⊢
    obtain ⟨k,x,r,h1,h2,h3,h4⟩:=h
    exact ⟨k,x,r,h1,h2,Rel.mono e h3,RelD.mono e h4⟩
end
theorem Rel.dct {es:List (PyData×PyData)} {v:V} (h:Rel K F (.dict es) v):∃ a ks,v=.ref a∧Rd F a (.dK ks)∧RelD K F es ks:=by unfold Rel at h; exact h
theorem rel_dct {es:List (PyData×PyData)} {a:Addr} {ks:List (Key×V)} (h:Rd F a (.dK ks)) (r:RelD K F es ks):Rel K F (.dict es) (.ref a):=by unfold Rel; exact ⟨a,ks,rfl,h,r⟩
theorem RelD.nil:RelD K F [] []:=by unfold RelD; rfl
theorem RelD.cons {k:Key} {e:PyData} {x:V} {es:List (PyData×PyData)} {ks:List (Key×V)} (h:Rel K F e x) (t:RelD K F es ks):RelD K F ((kD k,e)::es) ((k,x)::ks):=by unfold RelD; exact ⟨k,x,ks,rfl,rfl,h,t⟩
noncomputable def prs (kvs:List (Key×PyData)):List (PyData×PyData):=kvs.map fun e=>(kD e.1,e.2)
theorem RelL.nil:RelL K F [] []:=by unfold RelL; rfl
theorem RelL.cons {d:PyData} {ds:List PyData} {x:V} {xs:List V} (h:Rel K F d x) (t:RelL K F ds xs):RelL K F (d::ds) (x::xs):=by unfold RelL; exact ⟨x,xs,rfl,h,t⟩
theorem RelL.nil_of {xs:List V} (h:RelL K F [] xs):xs=[]:=by unfold RelL at h; exact h
theorem RelL.cons_of {d:PyData} {ds:List PyData} {xs:List V} (h:RelL K F (d::ds) xs):∃ x r,xs=x::r∧Rel K F d x∧RelL K F ds r:=by unfold RelL at h; exact h
theorem RelL.length:∀ {ds:List PyData} {xs:List V},RelL K F ds xs→xs.length=ds.length
  | [],xs,h=>by rw [h.nil_of]; rfl
  | d::ds,xs,h=>by
    obtain ⟨x,r,rfl,_,h3⟩:=h.cons_of
    rw [List.length_cons,List.length_cons,RelL.length h3]
theorem RelL.append:∀ {ds es:List PyData} {xs ys:List V},RelL K F ds xs→RelL K F es ys→RelL K F (ds++es) (xs++ys)
  | [],es,xs,ys,h,k=>by rw [h.nil_of]; exact k
  | d::ds,es,xs,ys,h,k=>by
    obtain ⟨x,r,rfl,h2,h3⟩:=h.cons_of
    exact RelL.cons h2 (RelL.append h3 k)
theorem RelL.get:∀ {ds:List PyData} {xs:List V} {i:Nat} {d:PyData},RelL K F ds xs→ds[i]?=some d→∃ x,xs[i]?=some x∧Rel K F d x
  | [],_,_,_,_,e=>by simp at e
  | d::ds,xs,0,_,h,e=>by
    obtain ⟨x,r,rfl,h2,h3⟩:=h.cons_of
    have e':d=_:=Option.some.inj e
    exact ⟨x,rfl,e' ▸ h2⟩
  | d::ds,xs,i+1,d',h,e=>by
    obtain ⟨x,r,rfl,h2,h3⟩:=h.cons_of
    exact RelL.get (i:=i) h3 (by simpa using e)
theorem RelL.take:∀ {ds:List PyData} {xs:List V} (n:Nat),RelL K F ds xs→RelL K F (ds.take n) (xs.take n)
  | _,_,0,_=>by rw [List.take_zero,List.take_zero]; exact .nil
  | [],xs,n+1,h=>by rw [h.nil_of]; exact .nil
  | d::ds,xs,n+1,h=>by
    obtain ⟨x,r,rfl,h2,h3⟩:=h.cons_of
    exact RelL.cons h2 (RelL.take n h3)
theorem RelL.drop:∀ {ds:List PyData} {xs:List V} (n:Nat),RelL K F ds xs→RelL K F (ds.drop n) (xs.drop n)
  | _,_,0,h=>by simpa using h
  | [],xs,n+1,h=>by rw [h.nil_of]; exact .nil
  | d::ds,xs,n+1,h=>by
    obtain ⟨x,r,rfl,h2,h3⟩:=h.cons_of
    exact RelL.drop n h3
theorem RelL.reverse:∀ {ds:List PyData} {xs:List V},RelL K F ds xs→RelL K F ds.reverse xs.reverse
  | [],xs,h=>by rw [h.nil_of]; exact .nil
  | d::ds,xs,h=>by
    obtain ⟨x,r,rfl,h2,h3⟩:=h.cons_of
    rw [List.reverse_cons,List.reverse_cons]
    exact RelL.append (RelL.reverse h3) (.cons h2 .nil)
theorem Rel.non {v:V} (h:Rel K F .none v):v=.non:=by unfold Rel at h; exact h
theorem Rel.bl {b:Bool} {v:V} (h:Rel K F (.bool b) v):v=.bl b:=by unfold Rel at h; exact h
theorem Rel.int {i:Int} {v:V} (h:Rel K F (.int i) v):v=.int i:=by unfold Rel at h; exact h
theorem Rel.str {x:Str} {v:V} (h:Rel K F (.str x) v):v=.str x:=by unfold Rel at h; exact h
theorem Rel.tup {ds:List PyData} {v:V} (h:Rel K F (.tuple ds) v):∃ a xs,v=.ref a∧SqT K F a xs∧RelL K F ds xs:=by unfold Rel at h; exact h
theorem Rel.lst {ds:List PyData} {v:V} (h:Rel K F (.list ds) v):∃ a xs,v=.ref a∧SqL K F a xs∧RelL K F ds xs:=by unfold Rel at h; exact h
theorem rel_non:Rel K F .none .non:=by unfold Rel; rfl
theorem rel_bl {b:Bool}:Rel K F (.bool b) (.bl b):=by unfold Rel; rfl
theorem rel_int {i:Int}:Rel K F (.int i) (.int i):=by unfold Rel; rfl
theorem rel_str {x:Str}:Rel K F (.str x) (.str x):=by unfold Rel; rfl
theorem rel_tup {ds:List PyData} {a:Addr} {xs:List V} (h:SqT K F a xs) (r:RelL K F ds xs):Rel K F (.tuple ds) (.ref a):=by unfold Rel; exact ⟨a,xs,rfl,h,r⟩
theorem rel_lst {ds:List PyData} {a:Addr} {xs:List V} (h:SqL K F a xs) (r:RelL K F ds xs):Rel K F (.list ds) (.ref a):=by unfold Rel; exact ⟨a,xs,rfl,h,r⟩
theorem RelL.ints:∀ (ns:List Int),RelL K F (ns.map PyData.int) (ns.map V.int)
  | []=>.nil
  | _::r=>.cons rel_int (RelL.ints r)
structure Gr (F H F' H':Hp):Prop where
  ff:Same F F'
  hh:Same H H'
  fh:Same F' H'
  new:∀ b,F' b≠none→F b≠none∨H b=none
theorem Gr.refl (h:Same F H):Gr F H F H:=⟨.refl _,.refl _,h,fun _ q=>.inl q⟩
theorem Gr.trans {F1 H1 F2 H2:Hp} (a:Gr F H F1 H1) (b:Gr F1 H1 F2 H2):Gr F H F2 H2 :=
  ⟨a.ff.trans b.ff,a.hh.trans b.hh,b.fh,fun c q=>(b.new c q).elim (fun q=>a.new c q) fun q=>.inr (a.hh.free q)⟩
theorem Gr.one {p:Addr} {o:HO} (h:Same F H) (hp:H p=none):Gr F H (upd F p o) (upd H p o) where
  ff:=same_new (h.free hp) o
  hh:=same_new hp o
  fh:=fun b u q=>by
    by_cases e:b=p
    · subst e; rw [upd_same] at q ⊢; exact q
    · rw [upd_ne e] at q ⊢; exact h _ _ q
  new:=fun b q=>by
    by_cases e:b=p
    · subst e; exact .inr hp
    · rw [upd_ne e] at q; exact .inl q
end
inductive Sl where
  | un
  | val (d:PyData)
  | own (ds:List PyData)
  | odc (kvs:List (Key×PyData))
  | ob (fs:Str→Option PyData)
noncomputable abbrev En:=List Sl
noncomputable def isOwn:Sl→Bool
  | .own _=>true
  | .odc _=>true
  | _=>false
noncomputable def CellR (K:PySem.W.Frag) (F:Hp):Sl→HO→Prop
  | .own ds,o=>∃ xs,o=.lst xs∧RelL K F ds xs
  | .odc kvs,o=>∃ ks,o=.dK ks∧RelD K F (prs kvs) ks
  | _,_=>False
noncomputable def ObF (K:PySem.W.Frag) (C:Addr) (F:Hp) (fs:Str→Option PyData) (xs:List (Str×V)):Prop:=∀ f d,fs f=some d→NoAttr K C f∧∃ v,xs.lookup f=some v∧Rel K F d v
structure EnR (K:PySem.W.Frag) (He F H:Hp) (σ:St) (η:En):Prop where
  len:η.length=σ.length
  val:∀ (i:Nat) d,η[i]?=some (.val d)→∃ v,σ[i]?=some (some v)∧Rel K F d v
  cel:∀ (i:Nat) sl,η[i]?=some sl→isOwn sl=true→∃ p o,σ[i]?=some (some (.ref p))∧F p=none∧He p=none∧H p=some o∧CellR K F sl o
  apart:∀ (i j:Nat) a b,η[i]?=some a→η[j]?=some b→isOwn a=true→isOwn b=true→i≠j→σ[i]?≠σ[j]?
  obs:∀ (i:Nat) fs,η[i]?=some (.ob fs)→∃ p C dx xs,σ[i]?=some (some (.ref p))∧H p=some (.ins C dx xs)∧Cls K C∧ObF K C F fs xs
structure Bd where
  F:Hp
  H:Hp
structure SR (K:PySem.W.Frag) (B:Bd) (F H:Hp) (σ:St) (η:En):Prop where
  gr:Gr B.F B.H F H
  en:EnR K B.H F H σ η
section
variable {K:PySem.W.Frag} {B:Bd} {F H F' H':Hp} {σ:St} {η:En}
theorem CellR.mono (e:Same F F'):∀ {sl:Sl} {o:HO},CellR K F sl o→CellR K F' sl o
  | .own _,_,⟨xs,h1,h2⟩=>⟨xs,h1,h2.mono e⟩
  | .odc _,_,⟨xs,h1,h2⟩=>⟨xs,h1,h2.mono e⟩
  | .un,_,h=>h.elim
  | .val _,_,h=>h.elim
  | .ob _,_,h=>h.elim
theorem ObF.mono {C:Addr} {fs:Str→Option PyData} {xs:List (Str×V)} (e:Same F F') (h:ObF K C F fs xs):ObF K C F' fs xs:=fun f d q=>let ⟨a,v,b,c⟩:=h f d q; ⟨a,v,b,c.mono e⟩
theorem CellR.noins {sl:Sl} {o:HO} (h:CellR K F sl o) (C dx:Addr) (xs:List (Str×V)):o≠.ins C dx xs:=by
  cases sl with
  | own ds=>obtain ⟨ys,rfl,_⟩:=h; intro z; cases z
  | odc ds=>obtain ⟨ys,rfl,_⟩:=h; intro z; cases z
  | un=>exact h.elim
  | val _=>exact h.elim
  | ob _=>exact h.elim
theorem EnR.own {He:Hp} (r:EnR K He F H σ η) (i:Nat) (ds:List PyData) (e:η[i]?=some (.own ds)):∃ p xs,σ[i]?=some (some (.ref p))∧F p=none∧He p=none∧H p=some (.lst xs)∧RelL K F ds xs:=by
  obtain ⟨p,o,h1,h2,h3,h4,xs,rfl,h5⟩:=r.cel i _ e rfl
  exact ⟨p,xs,h1,h2,h3,h4,h5⟩
theorem EnR.odc {He:Hp} (r:EnR K He F H σ η) (i:Nat) (kvs:List (Key×PyData)) (e:η[i]?=some (.odc kvs)):∃ p ks,σ[i]?=some (some (.ref p))∧F p=none∧He p=none∧H p=some (.dK ks)∧RelD K F (prs kvs) ks:=by
  obtain ⟨p,o,h1,h2,h3,h4,xs,rfl,h5⟩:=r.cel i _ e rfl
  exact ⟨p,xs,h1,h2,h3,h4,h5⟩
theorem EnR.grow {He:Hp} (r:EnR K He F H σ η) (g:Gr F H F' H'):EnR K He F' H' σ η where
  len:=r.len
  val:=fun i d e=>let ⟨v,e1,e2⟩:=r.val i d e; ⟨v,e1,e2.mono g.ff⟩
  cel:=fun i sl e hs=>by
    obtain ⟨p,o,e1,e2,e3,e4,e5⟩:=r.cel i sl e hs
    refine ⟨p,o,e1,?_,e3,g.hh _ _ e4,e5.mono g.ff⟩
    cases q:F' p with
    | none=>rfl
    | some o =>
      rcases g.new p (by rw [q]; simp) with z | z
      · exact absurd e2 z
      · rw [e4] at z; cases z
  apart:=r.apart
  obs:=fun i fs e=>let ⟨p,C,dx,xs,e1,e2,e3,e4⟩:=r.obs i fs e; ⟨p,C,dx,xs,e1,g.hh _ _ e2,e3,e4.mono g.ff⟩
theorem SR.grow (r:SR K B F H σ η) (g:Gr F H F' H'):SR K B F' H' σ η:=⟨r.gr.trans g,r.en.grow g⟩
theorem SR.same (r:SR K B F H σ η):Same F H:=r.gr.fh
theorem EnR.set {He:Hp} (r:EnR K He F H σ η) (i:Nat) {d:PyData} {v:V} (h:Rel K F d v):EnR K He F H (σ.set i (some v)) (η.set i (.val d)) where
  len:=by rw [List.length_set,List.length_set]; exact r.len
  val:=fun j d' e=>by
    by_cases hj:i=j
    · subst hj
      by_cases hl:i < η.length
      · rw [List.getElem?_set_self hl] at e
        have e':d=d':=by injection (Option.some.inj e)
        subst e'
        exact ⟨v,by rw [List.getElem?_set_self (by rw [← r.len]; exact hl)],h⟩
      · rw [List.getElem?_eq_none (by rw [List.length_set]; omega)] at e; cases e
    · rw [List.getElem?_set_ne hj] at e ⊢; exact r.val j d' e
  cel:=fun j sl e hs=>by
    by_cases hj:i=j
    · subst hj
      by_cases hl:i < η.length
      · rw [List.getElem?_set_self hl] at e
        have e':Sl.val d=sl:=Option.some.inj e
        subst e'
        cases hs
      · rw [List.getElem?_eq_none (by rw [List.length_set]; omega)] at e; cases e
    · rw [List.getElem?_set_ne hj] at e ⊢; exact r.cel j sl e hs
  apart:=fun j k a b ej ek ha hb hjk=>by
    have no:∀ (j:Nat) a,(η.set i (.val d))[j]?=some a→isOwn a=true→i≠j:=fun j a ej ha hj=>by
      subst hj
      by_cases hl:i < η.length
      · rw [List.getElem?_set_self hl] at ej
        have e':Sl.val d=a:=Option.some.inj ej
        subst e'
        cases ha
      · rw [List.getElem?_eq_none (by rw [List.length_set]; omega)] at ej; cases ej
    have nj:=no j a ej ha
    have nk:=no k b ek hb
    rw [List.getElem?_set_ne nj] at ej ⊢
    rw [List.getElem?_set_ne nk] at ek ⊢
    exact r.apart j k a b ej ek ha hb hjk
  obs:=fun j fs e=>by
    by_cases hj:i=j
    · subst hj
      by_cases hl:i < η.length
      · rw [List.getElem?_set_self hl] at e; cases e
      · rw [List.getElem?_eq_none (by rw [List.length_set]; omega)] at e; cases e
    · rw [List.getElem?_set_ne hj] at e ⊢; exact r.obs j fs e
theorem EnR.setCell {He:Hp} (r:EnR K He F H σ η) (i:Nat) {sl:Sl} {p:Addr} {o:HO} (hsl:isOwn sl=true) (h1:F p=none) (h2:He p=none) (h3:H p=some o) (h4:CellR K F sl o)
    (h5:∀ (j:Nat),σ[j]?=some (some (.ref p))→∀ a,η[j]?=some a→isOwn a=false):EnR K He F H (σ.set i (some (.ref p))) (η.set i sl) where
  len:=by rw [List.length_set,List.length_set]; exact r.len
  val:=fun j d' e=>by
    by_cases hj:i=j
    · subst hj
      by_cases hl:i < η.length
      · rw [List.getElem?_set_self hl] at e
        have e':sl=.val d':=Option.some.inj e
        subst e'
        cases hsl
      · rw [List.getElem?_eq_none (by rw [List.length_set]; omega)] at e; cases e
    · rw [List.getElem?_set_ne hj] at e ⊢; exact r.val j d' e
  cel:=fun j a e ha=>by
    by_cases hj:i=j
    · subst hj
      by_cases hl:i < η.length
      · rw [List.getElem?_set_self hl] at e
        have e':sl=a:=Option.some.inj e
        subst e'
        exact ⟨p,o,by rw [List.getElem?_set_self (by rw [← r.len]; exact hl)],h1,h2,h3,h4⟩
      · rw [List.getElem?_eq_none (by rw [List.length_set]; omega)] at e; cases e
    · rw [List.getElem?_set_ne hj] at e ⊢; exact r.cel j a e ha
  apart:=fun j k a b ej ek ha hb hjk=>by
    by_cases hj:i=j
    · subst hj
      have hl:i < η.length:=by
        by_cases hl:i < η.length
        · exact hl
        · rw [List.getElem?_eq_none (by rw [List.length_set]; omega)] at ej; cases ej
      rw [List.getElem?_set_ne hjk] at ek ⊢
      rw [List.getElem?_set_self (by rw [← r.len]; exact hl)]
      exact fun z=>by rw [h5 k z.symm b ek] at hb; cases hb
    · by_cases hk:i=k
      · subst hk
        have hl:i < η.length:=by
          by_cases hl:i < η.length
          · exact hl
          · rw [List.getElem?_eq_none (by rw [List.length_set]; omega)] at ek; cases ek
        rw [List.getElem?_set_ne hj] at ej ⊢
        rw [List.getElem?_set_self (by rw [← r.len]; exact hl)]
        exact fun z=>by rw [h5 j z a ej] at ha; cases ha
      · rw [List.getElem?_set_ne hj] at ej ⊢
        rw [List.getElem?_set_ne hk] at ek ⊢
        exact r.apart j k a b ej ek ha hb hjk
  obs:=fun j fs e=>by
    by_cases hj:i=j
    · subst hj
      by_cases hl:i < η.length
      · rw [List.getElem?_set_self hl] at e
        have e':sl=.ob fs:=Option.some.inj e
        subst e'
        cases hsl
      · rw [List.getElem?_eq_none (by rw [List.length_set]; omega)] at e; cases e
    · rw [List.getElem?_set_ne hj] at e ⊢; exact r.obs j fs e
theorem EnR.setOwn {He:Hp} (r:EnR K He F H σ η) (i:Nat) {ds:List PyData} {p:Addr} {xs:List V} (h1:F p=none) (h2:He p=none) (h3:H p=some (.lst xs)) (h4:RelL K F ds xs)
    (h5:∀ (j:Nat),σ[j]?=some (some (.ref p))→∀ a,η[j]?=some a→isOwn a=false):EnR K He F H (σ.set i (some (.ref p))) (η.set i (.own ds)):=r.setCell i rfl h1 h2 h3 ⟨xs,rfl,h4⟩ h5
theorem EnR.notown {He:Hp} (r:EnR K He F H σ η) {p:Addr} (h:H p=none):∀ (j:Nat),σ[j]?=some (some (.ref p))→∀ a,η[j]?=some a→isOwn a=false:=fun j e a z=>by
  cases ha:isOwn a with
  | false=>rfl
  | true =>
    obtain ⟨q,o,e1,_,_,e4,_⟩:=r.cel j a z ha
    rw [e] at e1
    have:p=q:=by injection (Option.some.inj (Option.some.inj e1))
    rw [this,e4] at h; cases h
theorem EnR.putCell {He:Hp} (r:EnR K He F H σ η) {i:Nat} {sl sl':Sl} {p:Addr} {o:HO} (hi:η[i]?=some sl) (hs:isOwn sl=true) (hs':isOwn sl'=true) (hσ:σ[i]?=some (some (.ref p))) (h4:CellR K F sl' o) :
    EnR K He F (upd H p o) σ (η.set i sl') where
  len:=by rw [List.length_set]; exact r.len
  val:=fun j d' e=>by
    by_cases hj:i=j
    · subst hj
      rw [List.getElem?_set_self (List.getElem?_eq_some_iff.mp hi).1] at e
      have e':sl'=.val d':=Option.some.inj e
      subst e'
      cases hs'
    · rw [List.getElem?_set_ne hj] at e; exact r.val j d' e
  cel:=fun j a e ha=>by
    by_cases hj:i=j
    · subst hj
      rw [List.getElem?_set_self (List.getElem?_eq_some_iff.mp hi).1] at e
      have e':sl'=a:=Option.some.inj e
      subst e'
      obtain ⟨q,o1,e1,e2,e3,e4,e5⟩:=r.cel i sl hi hs
      rw [hσ] at e1
      have:p=q:=by injection (Option.some.inj (Option.some.inj e1))
      subst this
      exact ⟨p,o,hσ,e2,e3,upd_same,h4⟩
    · rw [List.getElem?_set_ne hj] at e
      obtain ⟨q,o1,e1,e2,e3,e4,e5⟩:=r.cel j a e ha
      refine ⟨q,o1,e1,e2,e3,?_,e5⟩
      rw [upd_ne]
      · exact e4
      · intro z
        subst z
        exact r.apart i j sl a hi e hs ha hj (by rw [hσ,e1])
  apart:=fun j k a b ej ek ha hb hjk=>by
    have aa:∀ (j:Nat) a,(η.set i sl')[j]?=some a→isOwn a=true→∃ a',η[j]?=some a'∧isOwn a'=true:=fun j a e ha=>by
      by_cases hj:i=j
      · subst hj; exact ⟨sl,hi,hs⟩
      · rw [List.getElem?_set_ne hj] at e; exact ⟨a,e,ha⟩
    obtain ⟨a',e1,f1⟩:=aa j a ej ha
    obtain ⟨b',e2,f2⟩:=aa k b ek hb
    exact r.apart j k a' b' e1 e2 f1 f2 hjk
  obs:=fun j fs e=>by
    by_cases hj:i=j
    · subst hj
      rw [List.getElem?_set_self (List.getElem?_eq_some_iff.mp hi).1] at e
      have e':sl'=.ob fs:=Option.some.inj e
      subst e'
      cases hs'
    · rw [List.getElem?_set_ne hj] at e
      obtain ⟨q,C,dx,xs,e1,e2,e3,e4⟩:=r.obs j fs e
      refine ⟨q,C,dx,xs,e1,?_,e3,e4⟩
      obtain ⟨p',o1,f1,_,_,f4,f5⟩:=r.cel i sl hi hs
      rw [hσ] at f1
      have:p=p':=by injection (Option.some.inj (Option.some.inj f1))
      subst this
      rw [upd_ne]
      · exact e2
      · intro z
        subst z
        rw [f4] at e2
        exact f5.noins _ _ _ (Option.some.inj e2)
theorem EnR.putOwn {He:Hp} (r:EnR K He F H σ η) {i:Nat} {ds es:List PyData} {p:Addr} {ys:List V} (hi:η[i]?=some (.own ds)) (hσ:σ[i]?=some (some (.ref p))) (h4:RelL K F es ys) :
    EnR K He F (upd H p (.lst ys)) σ (η.set i (.own es)):=r.putCell hi rfl rfl hσ ⟨ys,rfl,h4⟩
theorem SR.freezeCell (r:SR K B F H σ η) {i:Nat} {sl:Sl} {d:PyData} {p:Addr} {o:HO} (hi:η[i]?=some sl) (hs:isOwn sl=true) (e1:σ[i]?=some (some (.ref p))) (e2:F p=none) (e3:B.H p=none) (e4:H p=some o) (rel:Rel K (upd F p o) d (.ref p)) :
    Same F (upd F p o)∧SR K B (upd F p o) H σ (η.set i (.val d)):=by
  have sn:=same_new (H:=F) e2 o
  refine ⟨sn,⟨⟨r.gr.ff.trans sn,r.gr.hh,?_,?_⟩,?_⟩⟩
  · intro b u q
    by_cases e:b=p
    · subst e; rw [upd_same] at q; rw [← q]; exact e4
    · rw [upd_ne e] at q; exact r.gr.fh _ _ q
  · intro b q
    by_cases e:b=p
    · subst e; exact .inr e3
    · rw [upd_ne e] at q; exact r.gr.new b q
  · refine ⟨by rw [List.length_set]; exact r.en.len,fun j d' e=>?_,fun j a e ha=>?_,fun j k a b ej ek ha hb hjk=>?_,fun j fs e=>?_⟩
    · by_cases hj:i=j
      · subst hj
        rw [List.getElem?_set_self (List.getElem?_eq_some_iff.mp hi).1] at e
        have e':d=d':=by injection (Option.some.inj e)
        subst e'
        exact ⟨_,e1,rel⟩
      · rw [List.getElem?_set_ne hj] at e
        obtain ⟨v,q1,q2⟩:=r.en.val j d' e
        exact ⟨v,q1,q2.mono sn⟩
    · by_cases hj:i=j
      · subst hj
        rw [List.getElem?_set_self (List.getElem?_eq_some_iff.mp hi).1] at e
        have e':Sl.val d=a:=Option.some.inj e
        subst e'
        cases ha
      · rw [List.getElem?_set_ne hj] at e
        obtain ⟨q,o1,q1,q2,q3,q4,q5⟩:=r.en.cel j a e ha
        refine ⟨q,o1,q1,?_,q3,q4,q5.mono sn⟩
        rw [upd_ne]
        · exact q2
        · intro z
          subst z
          exact r.en.apart i j sl a hi e hs ha hj (by rw [e1,q1])
    · have no:∀ (j:Nat) a,(η.set i (.val d))[j]?=some a→isOwn a=true→i≠j:=fun j a ej ha hj=>by
        subst hj
        rw [List.getElem?_set_self (List.getElem?_eq_some_iff.mp hi).1] at ej
        have e':Sl.val d=a:=Option.some.inj ej
        subst e'
        cases ha
      have nj:=no j a ej ha
      have nk:=no k b ek hb
      rw [List.getElem?_set_ne nj] at ej
      rw [List.getElem?_set_ne nk] at ek
      exact r.en.apart j k a b ej ek ha hb hjk
    · by_cases hj:i=j
      · subst hj
        rw [List.getElem?_set_self (List.getElem?_eq_some_iff.mp hi).1] at e; cases e
      · rw [List.getElem?_set_ne hj] at e
        obtain ⟨q,C,dx,xs,q1,q2,q3,q4⟩:=r.en.obs j fs e
        exact ⟨q,C,dx,xs,q1,q2,q3,q4.mono sn⟩
theorem SR.freeze (r:SR K B F H σ η) {i:Nat} {ds:List PyData} (hi:η[i]?=some (.own ds)):∃ F' p,σ[i]?=some (some (.ref p))∧Same F F'∧SR K B F' H σ (η.set i (.val (.list ds)))∧Rel K F' (.list ds) (.ref p):=by
  obtain ⟨p,xs,e1,e2,e3,e4,e5⟩:=r.en.own i ds hi
  have rel:Rel K (upd F p (.lst xs)) (.list ds) (.ref p):=rel_lst (SqL.of upd_same) (e5.mono (same_new (H:=F) e2 (.lst xs)))
  obtain ⟨h1,h2⟩:=r.freezeCell hi rfl e1 e2 e3 e4 rel
  exact ⟨_,p,e1,h1,h2,rel⟩
theorem SR.freezeD (r:SR K B F H σ η) {i:Nat} {kvs:List (Key×PyData)} (hi:η[i]?=some (.odc kvs)):∃ F' p,σ[i]?=some (some (.ref p))∧Same F F'∧SR K B F' H σ (η.set i (.val (.dict (prs kvs))))∧Rel K F' (.dict (prs kvs)) (.ref p):=by
  obtain ⟨p,ks,e1,e2,e3,e4,e5⟩:=r.en.odc i kvs hi
  have rel:Rel K (upd F p (.dK ks)) (.dict (prs kvs)) (.ref p):=rel_dct (.inl upd_same) (e5.mono (same_new (H:=F) e2 (.dK ks)))
  obtain ⟨h1,h2⟩:=r.freezeCell hi rfl e1 e2 e3 e4 rel
  exact ⟨_,p,e1,h1,h2,rel⟩
end
section
variable (K:PySem.W.Frag) (B:Bd)
noncomputable def tE (f:En→Option PyData):TE:=fun σ H Q=>∃ F η d,SR K B F H σ η∧f η=some d∧∀ v F' H',Gr F H F' H'→Rel K F' d v→Q v H'
noncomputable def tO (f:En→Option (List PyData)):TE:=fun σ H Q=>∃ F η ds,SR K B F H σ η∧f η=some ds∧∀ p xs F' H',Gr F H F' H'→H p=none→F' p=none→H' p=some (.lst xs)→RelL K F' ds xs→Q (.ref p) H'
noncomputable def tT (f:En→Option Bool):TT:=fun σ H Q=>∃ F η b,SR K B F H σ η∧f η=some b∧∀ F' H',Gr F H F' H'→Q b H'
noncomputable def tA (f:En→Option (List PyData)):TA:=fun σ H Q=>∃ F η ds,SR K B F H σ η∧f η=some ds∧∀ vs F' H',Gr F H F' H'→RelL K F' ds vs→Q vs H'
end
noncomputable def E (X:Cx) (B:Bd) (e:Expr) (f:En→Option PyData):Prop:=PE X e (tE X.K B f)
noncomputable def EO (X:Cx) (B:Bd) (e:Expr) (f:En→Option (List PyData)):Prop:=PE X e (tO X.K B f)
noncomputable def T (X:Cx) (B:Bd) (e:Expr) (f:En→Option Bool):Prop:=PT X e (tT X.K B f)
noncomputable def TW (X:Cx) (B:Bd) (e:Expr) (f:En→Option Bool):Prop:=PW X e (tT X.K B f)
noncomputable def A (X:Cx) (B:Bd) (es:List Expr) (f:En→Option (List PyData)):Prop:=PA X es (tA X.K B f)
theorem PE.imp {X:Cx} {e:Expr} {t t':TE} (h:PE X e t) (i:∀ σ H Q,t' σ H Q→t σ H Q):PE X e t':=fun pins s σ H Q I q=>h pins s σ H Q I (i σ H Q q)
theorem PT.imp {X:Cx} {e:Expr} {t t':TT} (h:PT X e t) (i:∀ σ H Q,t' σ H Q→t σ H Q):PT X e t':=fun pins s σ H Q I q=>h pins s σ H Q I (i σ H Q q)
theorem PW.imp {X:Cx} {e:Expr} {t t':TT} (h:PW X e t) (i:∀ σ H Q,t' σ H Q→t σ H Q):PW X e t':=fun wh pins s σ H Q I q=>h wh pins s σ H Q I (i σ H Q q)
theorem PA.imp {X:Cx} {e:List Expr} {t t':TA} (h:PA X e t) (i:∀ σ H Q,t' σ H Q→t σ H Q):PA X e t':=fun pos pins s σ H Q I q=>h pos pins s σ H Q I (i σ H Q q)
noncomputable def eV (i:Nat):En→Option PyData:=fun η=>match η[i]? with | some (.val d)=>some d | _=>none
noncomputable def eC (d:PyData):En→Option PyData:=fun _=>some d
noncomputable def l1 (o:PyData→Option PyData) (f:En→Option PyData):En→Option PyData:=fun η=>(f η).bind o
noncomputable def l2 (o:PyData→PyData→Option PyData) (f g:En→Option PyData):En→Option PyData:=fun η=>(f η).bind fun x=>(g η).bind fun y=>o x y
noncomputable def aN:En→Option (List PyData):=fun _=>some []
noncomputable def aC (f:En→Option PyData) (g:En→Option (List PyData)):En→Option (List PyData):=fun η=>(f η).bind fun x=>(g η).bind fun xs=>some (x::xs)
noncomputable def lA (o:List PyData→Option PyData) (f:En→Option (List PyData)):En→Option PyData:=fun η=>(f η).bind o
section
variable {X:Cx} {B:Bd} {a b c e:Expr} {es:List Expr} {f g h:En→Option PyData} {fs:En→Option (List PyData)} {pos:Pos}
theorem bind_some {α β:Type} {o:Option α} {k:α→Option β} {y:β} (h:o.bind k=some y):∃ x,o=some x∧k x=some y:=by
  cases o with
  | none=>cases h
  | some x=>exact ⟨x,rfl,h⟩
noncomputable def Ad2 (K:PySem.W.Frag) (r:R2) (o:PyData→PyData→Option PyData):Prop :=
  ∀ F H x y dx dy d Q,Same F H→Rel K F dx x→Rel K F dy y→o dx dy=some d→(∀ v F' H',Gr F H F' H'→Rel K F' d v→Q v H')→r x y H Q
theorem t2 {K:PySem.W.Frag} {r:R2} {o:PyData→PyData→Option PyData} (ad:Ad2 K r o):∀ σ H Q,tE K B (l2 o f g) σ H Q→tOp r (tE K B f) (tE K B g) σ H Q:=by
  intro σ H Q ⟨F,η,d,sr,hd,q⟩
  obtain ⟨x,hx,hd⟩:=bind_some hd
  obtain ⟨y,hy,hd⟩:=bind_some hd
  refine ⟨F,η,x,sr,hx,fun v F1 H1 g1 rv=>⟨F1,η,y,sr.grow g1,hy,fun u F2 H2 g2 ru=>?_⟩⟩
  exact ad F2 H2 v u x y d Q g2.fh (rv.mono g2.ff) ru hd fun w F3 H3 g3 rw'=>q w F3 H3 ((g1.trans g2).trans g3) rw'
theorem E.op {op:Operator} {r:R2} {o:PyData→PyData→Option PyData} (ho:OpR X (binaryOp op) r) (ad:Ad2 X.K r o) (ha:E X B a f) (hb:E X B b g):E X B (.BinOp a op b pos) (l2 o f g) :=
  PE.imp (pe_op ho ha hb) (t2 ad)
theorem E.cmp {op:CmpOp} {r:R2} {o:PyData→PyData→Option PyData} (ho:OpR X (compareOp op) r) (ad:Ad2 X.K r o) (hm:behindInMarks op b=false) (ha:E X B a f) (hb:E X B b g):E X B (.Compare a [op] [b] pos) (l2 o f g) :=
  PE.imp (pe_cmpR ho ha hb hm) (t2 ad)
theorem E.ix {r:R2} {o:PyData→PyData→Option PyData} (hr:IxR X r) (ad:Ad2 X.K r o) (ha:E X B a f) (hb:E X B b g) (hs:PlainIx b:=by intro _ _; rfl):E X B (.Subscript a b pos) (l2 o f g) :=
  PE.imp (pe_ix hr ha hb hs) (t2 ad)
theorem E.v (i:Nat) {x:Str} (hN:X.N[i]?=some x:=by rfl) (hv:Vis X.env.scope x:=by first | exact Or.inl rfl | exact Or.inr (Or.inl rfl) | exact Or.inr (Or.inr rfl)) (hd:(x==("__debug__" : Str))=false:=by decide)
    (hcd:(x==("__classdict__" : Str))=false:=by decide):E X B (.Name x pos) (eV i) :=
  PE.imp (pe_var hN hv hd hcd) fun σ H Q ⟨F,η,d,sr,hd,q⟩=>by
    unfold eV at hd
    split at hd
    · rename_i d' e
      cases hd
      obtain ⟨v,e1,e2⟩:=sr.en.val i d e
      exact ⟨v,e1,q v F H (.refl sr.same) e2⟩
    · cases hd
theorem tC_of {K:PySem.W.Frag} {v:V} {d:PyData} (h:∀ F,Rel K F d v):∀ σ H Q,tE K B (eC d) σ H Q→tC v σ H Q:=fun σ H Q ⟨F,η,d',sr,hd,q⟩=>by
  have e:d=d':=Option.some.inj hd
  subst e
  exact q v F H (.refl sr.same) (h F)
theorem E.int {i:Int} {j}:E X B (.Constant (.int i) j pos) (eC (.int i)):=PE.imp pe_int (tC_of fun _=>rel_int)
theorem E.bl {i:Bool} {j}:E X B (.Constant (.bool i) j pos) (eC (.bool i)):=PE.imp pe_bl (tC_of fun _=>rel_bl)
theorem E.non {j}:E X B (.Constant .none j pos) (eC .none):=PE.imp pe_non (tC_of fun _=>rel_non)
theorem E.str {i:Str} {j}:E X B (.Constant (.str i) j pos) (eC (.str i)):=PE.imp pe_str (tC_of fun _=>rel_str)
theorem E.glob {x:Str} {v:V} {u:Value} {d:PyData} (hm:X.mg x=some u) (r:RelV v u) (h:∀ F,Rel X.K F d v) (hg:Gl X x:=by rfl) (hd:(x==("__debug__" : Str))=false:=by decide):E X B (.Name x pos) (eC d) :=
  PE.imp (pe_glob hg hm r hd) (tC_of h)
theorem A.nil:A X B [] aN:=PA.imp pa_nil fun σ H Q ⟨F,η,d,sr,hd,q⟩=>by
  cases hd
  exact q [] F H (.refl sr.same) .nil
theorem A.cons (ha:E X B e f) (hr:A X B es fs) (hs:starEach (e::es) X.env=(false,eval e X.env)::starEach es X.env:=by exact star_of rfl):A X B (e::es) (aC f fs):=PA.imp (pa_cons ha hr hs) fun σ H Q ⟨F,η,d,sr,hd,q⟩=>by
  obtain ⟨x,hx,hd⟩:=bind_some hd
  obtain ⟨y,hy,hd⟩:=bind_some hd
  cases hd
  exact ⟨F,η,x,sr,hx,fun v F1 H1 g1 rv=>⟨F1,η,y,sr.grow g1,hy,fun vs F2 H2 g2 rs=>q (v::vs) F2 H2 (g1.trans g2) (.cons (rv.mono g2.ff) rs)⟩⟩
noncomputable def gL (ds:List PyData):Option (List PyData):=if ds.length≤sizeLine then some ds else none
theorem E.tup {x1} (hs:A X B es fs):E X B (.Tuple es x1 pos) (lA (fun ds=>if ds.length≤sizeLine then some (.tuple ds) else none) fs):=PE.imp (pe_tup hs) fun σ H Q ⟨F,η,d,sr,hd,q⟩=>by
  obtain ⟨ds,hx,hd⟩:=bind_some hd
  split at hd
  · rename_i hl
    cases hd
    refine ⟨F,η,ds,sr,hx,fun vs F1 H1 g1 rs=>⟨by rw [rs.length]; exact hl,fun p hp=>?_⟩⟩
    have g2:Gr F1 H1 (upd F1 p (.tup vs)) (upd H1 p (.tup vs)):=Gr.one g1.fh hp
    exact q _ _ _ (g1.trans g2) (rel_tup (SqT.of upd_same) (rs.mono g2.ff))
  · cases hd
theorem EO.lst (hs:A X B es fs):EO X B (.List es pos) (fun η=>(fs η).bind gL):=PE.imp (pe_lst hs) fun σ H Q ⟨F,η,ds,sr,hd,q⟩=>by
  obtain ⟨ds',hx,hd⟩:=bind_some hd
  unfold gL at hd
  split at hd
  · rename_i hl
    cases hd
    refine ⟨F,η,ds,sr,hx,fun vs F1 H1 g1 rs=>⟨by rw [rs.length]; exact hl,fun p hp=>?_⟩⟩
    refine q p vs F1 (upd H1 p (.lst vs)) ?_ (g1.hh.free hp) (g1.fh.free hp) upd_same rs
    refine ⟨g1.ff,g1.hh.trans (same_new hp _),fun b u z=>?_,g1.new⟩
    exact same_new hp _ b u (g1.fh b u z)
  · cases hd
noncomputable def oE (f:En→Option (List PyData)):En→Option PyData:=fun η=>(f η).bind fun ds=>some (.list ds)
theorem EO.toE (he:EO X B e fs):E X B e (oE fs):=PE.imp he fun σ H Q ⟨F,η,d,sr,hd,q⟩=>by
  obtain ⟨ds,hx,hd⟩:=bind_some hd
  cases hd
  refine ⟨F,η,ds,sr,hx,fun p xs F' H' g1 hp fp hp' rs=>?_⟩
  have sn:=same_new (H:=F') fp (.lst xs)
  refine q (.ref p) (upd F' p (.lst xs)) H' ⟨g1.ff.trans sn,g1.hh,fun b u z=>?_,fun b z=>?_⟩ (rel_lst (SqL.of upd_same) (rs.mono sn))
  · by_cases e:b=p
    · subst e; rw [upd_same] at z; rw [← z]; exact hp'
    · rw [upd_ne e] at z; exact g1.fh _ _ z
  · by_cases e:b=p
    · subst e; exact .inr hp
    · rw [upd_ne e] at z; exact g1.new b z
noncomputable def asB:PyData→Option Bool
  | .bool b=>some b
  | _=>none
noncomputable def bT (f:En→Option PyData):En→Option Bool:=fun η=>(f η).bind asB
theorem asB_some {d:PyData} {b:Bool} (h:asB d=some b):d=.bool b:=by
  cases d <;> simp [asB] at h
  rw [h]
theorem T.val (he:E X B e f) (hi:∀ whole,isTrue e X.env whole=(do let v ← whole; standAt e.pos; holding [v] (truthy v)):=by intro _; rfl):T X B e (bT f):=PT.imp (pt_val he hi) fun σ H Q ⟨F,η,b,sr,hd,q⟩=>by
  obtain ⟨x,hx,hd⟩:=bind_some hd
  obtain rfl:=asB_some hd
  exact ⟨F,η,_,sr,hx,fun v F1 H1 g1 rv=>⟨b,rv.bl,q F1 H1 g1⟩⟩
theorem T.cmp {op:CmpOp} {r:R2} {o:PyData→PyData→Option PyData} (ho:OpR X (compareOp op) r) (ad:Ad2 X.K r o) (hm:behindInMarks op b=false) (ha:E X B a f) (hb:E X B b g):T X B (.Compare a [op] [b] pos) (bT (l2 o f g)) :=
  PT.imp (pt_cmpR ho ha hb hm) fun σ H Q ⟨F,η,b,sr,hd,q⟩=>by
    obtain ⟨x,hx,hd⟩:=bind_some hd
    obtain rfl:=asB_some hd
    exact t2 ad σ H _ ⟨F,η,_,sr,hx,fun v F1 H1 g1 rv=>⟨b,rv.bl,q F1 H1 g1⟩⟩
noncomputable def lch (o o':PyData→PyData→Option PyData) (f g h:En→Option PyData):En→Option PyData:=fun η=>(f η).bind fun x=>(g η).bind fun y=>(o x y).bind fun z=>(asB z).bind fun k =>
  if k=true then (h η).bind fun w=>o' y w else some (.bool false)
theorem E.chain {op op':CmpOp} {r r':R2} {o o':PyData→PyData→Option PyData} (ho:OpR X (compareOp op) r) (ad:Ad2 X.K r o) (ho':OpR X (compareOp op') r') (ad':Ad2 X.K r' o') (ha:E X B a f) (hb:E X B b g) (hc:E X B c h)
    (hm:lastMarks [op,op'] [b,c]=false:=by with_unfolding_all rfl):E X B (.Compare a [op,op'] [b,c] pos) (lch o o' f g h):=PE.imp (pe_chain ho ho' ha hb hc hm) fun σ H Q ⟨F,η,d,sr,hd,q⟩=>by
  obtain ⟨x,hx,hd⟩:=bind_some hd
  obtain ⟨y,hy,hd⟩:=bind_some hd
  obtain ⟨z,hz,hd⟩:=bind_some hd
  obtain ⟨k,hk,hd2⟩:=bind_some hd
  clear hd
  obtain rfl:=asB_some hk
  have hd:=hd2
  refine ⟨F,η,x,sr,hx,fun v F1 H1 g1 rv=>⟨F1,η,y,sr.grow g1,hy,fun u F2 H2 g2 ru=>?_⟩⟩
  refine ad F2 H2 v u x y _ _ g2.fh (rv.mono g2.ff) ru hz fun w F3 H3 g3 rw'=>⟨k,rw'.bl,?_⟩
  cases k with
  | false =>
    rw [if_neg Bool.false_ne_true] at hd ⊢
    cases hd
    exact q _ F3 H3 ((g1.trans g2).trans g3) rel_bl
  | true =>
    rw [if_pos rfl] at hd ⊢
    obtain ⟨w2,hw2,hd⟩:=bind_some hd
    refine ⟨F3,η,w2,(sr.grow (g1.trans g2)).grow g3,hw2,fun t F4 H4 g4 rt=>?_⟩
    exact ad' F4 H4 u t y w2 d Q g4.fh (ru.mono (g3.ff.trans g4.ff)) rt hd fun w5 F5 H5 g5 r5=>q w5 F5 H5 (((g1.trans g2).trans g3).trans (g4.trans g5)) r5
theorem T.chain {op op':CmpOp} {r r':R2} {o o':PyData→PyData→Option PyData} (ho:OpR X (compareOp op) r) (ad:Ad2 X.K r o) (ho':OpR X (compareOp op') r') (ad':Ad2 X.K r' o') (ha:E X B a f) (hb:E X B b g) (hc:E X B c h)
    (hm:lastMarks [op,op'] [b,c]=false:=by with_unfolding_all rfl):T X B (.Compare a [op,op'] [b,c] pos) (bT (lch o o' f g h)):=PT.imp (pt_chain ho ho' ha hb hc hm) fun σ H Q ⟨F,η,d',sr,hd',q'⟩=>by
  obtain ⟨d,hd,hdb⟩:=bind_some hd'
  obtain rfl:=asB_some hdb
  obtain ⟨x,hx,hd⟩:=bind_some hd
  obtain ⟨y,hy,hd⟩:=bind_some hd
  obtain ⟨z,hz,hd⟩:=bind_some hd
  obtain ⟨k,hk,hd2⟩:=bind_some hd
  clear hd
  obtain rfl:=asB_some hk
  have hd:=hd2
  refine ⟨F,η,x,sr,hx,fun v F1 H1 g1 rv=>⟨F1,η,y,sr.grow g1,hy,fun u F2 H2 g2 ru=>?_⟩⟩
  refine ad F2 H2 v u x y _ _ g2.fh (rv.mono g2.ff) ru hz fun w F3 H3 g3 rw'=>⟨k,rw'.bl,?_⟩
  cases k with
  | false =>
    rw [if_neg Bool.false_ne_true] at hd ⊢
    cases hd
    exact ⟨_,rfl,q' F3 H3 ((g1.trans g2).trans g3)⟩
  | true =>
    rw [if_pos rfl] at hd ⊢
    obtain ⟨w2,hw2,hd⟩:=bind_some hd
    refine ⟨F3,η,w2,(sr.grow (g1.trans g2)).grow g3,hw2,fun t F4 H4 g4 rt=>?_⟩
    exact ad' F4 H4 u t y w2 _ _ g4.fh (ru.mono (g3.ff.trans g4.ff)) rt hd fun w5 F5 H5 g5 r5=>⟨_,r5.bl,q' F5 H5 (((g1.trans g2).trans g3).trans (g4.trans g5))⟩
noncomputable def bAnd (f g:En→Option Bool):En→Option Bool:=fun η=>(f η).bind fun c=>if c=true then g η else some false
noncomputable def bOr (f g:En→Option Bool):En→Option Bool:=fun η=>(f η).bind fun c=>if c=true then some true else g η
noncomputable def bNot (f:En→Option Bool):En→Option Bool:=fun η=>(f η).bind fun c=>some (!c)
variable {p q r:En→Option Bool} {rest:List Expr}
theorem T.not (ha:T X B a p):T X B (.UnaryOp .Not a pos) (bNot p):=PT.imp (pt_not ha) fun σ H Q ⟨F,η,b,sr,hd,q⟩=>by
  obtain ⟨x,hx,hd⟩:=bind_some hd
  cases hd
  exact ⟨F,η,x,sr,hx,q⟩
theorem TW.t (h:TW X B a p):T X B a p:=PW.pt h
theorem TW.and1 (ha:T X B a p):TW X B (.BoolOp .And [a] pos) p:=pw_and1 ha
theorem TW.and (ha:T X B a p) (hb:TW X B (.BoolOp .And (b::rest) pos) q):TW X B (.BoolOp .And (a::b::rest) pos) (bAnd p q):=PW.imp (pw_and ha hb) fun σ H Q ⟨F,η,b,sr,hd,k⟩=>by
  obtain ⟨x,hx,hd⟩:=bind_some hd
  refine ⟨F,η,x,sr,hx,fun F1 H1 g1=>?_⟩
  cases x with
  | false =>
    rw [if_neg Bool.false_ne_true] at hd ⊢
    cases hd
    exact k F1 H1 g1
  | true =>
    rw [if_pos rfl] at hd ⊢
    exact ⟨F1,η,b,sr.grow g1,hd,fun F2 H2 g2=>k F2 H2 (g1.trans g2)⟩
noncomputable def vAnd (f g:En→Option PyData):En→Option PyData:=fun η=>(f η).bind fun x=>(asB x).bind fun c=>if c=true then g η else some (.bool false)
noncomputable def vOr (f g:En→Option PyData):En→Option PyData:=fun η=>(f η).bind fun x=>(asB x).bind fun c=>if c=true then some (.bool true) else g η
noncomputable def vNot (f:En→Option PyData):En→Option PyData:=fun η=>(f η).bind fun x=>(asB x).bind fun c=>some (.bool (!c))
theorem E.one {op} (ha:E X B a f):E X B (.BoolOp op [a] pos) f:=pe_one ha
theorem E.and (ha:E X B a f) (hb:E X B (.BoolOp .And (b::rest) pos) g):E X B (.BoolOp .And (a::b::rest) pos) (vAnd f g):=PE.imp (pe_and ha hb) fun σ H Q ⟨F,η,b,sr,hd,k⟩=>by
  obtain ⟨x,hx,hd⟩:=bind_some hd
  obtain ⟨c,hc,hd2⟩:=bind_some hd
  clear hd
  obtain rfl:=asB_some hc
  have hd:=hd2
  refine ⟨F,η,_,sr,hx,fun v F1 H1 g1 rv=>⟨c,rv.bl,?_⟩⟩
  cases c with
  | false =>
    rw [if_neg Bool.false_ne_true] at hd ⊢
    cases hd
    exact k _ F1 H1 g1 rel_bl
  | true =>
    rw [if_pos rfl] at hd ⊢
    exact ⟨F1,η,b,sr.grow g1,hd,fun u F2 H2 g2=>k u F2 H2 (g1.trans g2)⟩
theorem E.not (ha:E X B a f):E X B (.UnaryOp .Not a pos) (vNot f):=PE.imp (pe_not ha) fun σ H Q ⟨F,η,b,sr,hd,k⟩=>by
  obtain ⟨x,hx,hd⟩:=bind_some hd
  obtain ⟨c,hc,hd2⟩:=bind_some hd
  clear hd
  obtain rfl:=asB_some hc
  have hd:=hd2
  cases hd
  exact ⟨F,η,_,sr,hx,fun v F1 H1 g1 rv=>⟨c,rv.bl,k _ F1 H1 g1 rel_bl⟩⟩
noncomputable def vIf (c:En→Option Bool) (f g:En→Option PyData):En→Option PyData:=fun η=>(c η).bind fun c=>if c=true then f η else g η
theorem E.ifE (hc:T X B c p) (ha:E X B a f) (hb:E X B b g):E X B (.IfExp c a b pos) (vIf p f g):=PE.imp (pe_ifExp hc ha hb) fun σ H Q ⟨F,η,d,sr,hd,k⟩=>by
  obtain ⟨x,hx,hd⟩:=bind_some hd
  refine ⟨F,η,x,sr,hx,fun F1 H1 g1=>?_⟩
  cases x with
  | false =>
    rw [if_neg Bool.false_ne_true] at hd ⊢
    exact ⟨F1,η,d,sr.grow g1,hd,fun u F2 H2 g2=>k u F2 H2 (g1.trans g2)⟩
  | true =>
    rw [if_pos rfl] at hd ⊢
    exact ⟨F1,η,d,sr.grow g1,hd,fun u F2 H2 g2=>k u F2 H2 (g1.trans g2)⟩
noncomputable def spP (K:PySem.W.Frag) (fn:List PyData→Option PyData):Sp:=fun vs H Q _=>∃ F ds d,Same F H∧RelL K F ds vs∧fn ds=some d∧∀ v F' H',Gr F H F' H'→Rel K F' d v→Q v H'
theorem E.call {k k':Nat} {fa:Addr} {fd:FuncData} {ps:List Str} {x:Str} {ppos:Pos} {fn:List PyData→Option PyData} (G:FnOk X.prog X.w X.K X.mg X.base CX0 k fa fd ps (spP X.K fn)) (hr:Room k' X.A) (hkk:k≤k') (hm:X.mg x=some (.ref fa)) (hk:PySem.W.keepIn X.K (.ref fa)=true) (hb:Binds X.K fd ps [])
    (ha:A X B (e::es) fs) (hg:Gl X x:=by rfl) (hdb:(x==("__debug__" : Str))=false:=by decide) (he:starEach (e::es) X.env=(false,eval e X.env)::starEach es X.env:=by exact star_of rfl) (hpl:(backTo pos (starEach es X.env)).any (·.1)=false:=by exact plain_of rfl) :
    E X B (.Call (.Name x ppos) (e::es) [] pos) (lA fn fs):=PE.imp (pe_call G (hr.mono hkk) hg hm hk hb .nil pass0 ha hdb he hpl) fun σ H Q ⟨F,η,d,sr,hd,q⟩=>by
  obtain ⟨ds,hx,hd⟩:=bind_some hd
  refine ⟨F,η,ds,sr,hx,fun vs F1 H1 g1 rs=>?_⟩
  show spP X.K fn (vs++[]) H1 Q E0
  rw [List.append_nil]
  exact ⟨F1,ds,d,g1.fh,rs,hd,fun v F2 H2 g2 rv=>q v F2 H2 (g1.trans g2) rv⟩
end
inductive Out where
  | nx (η:En)
  | rt (d:PyData)
  | bk (η:En)
  | ct (η:En)
noncomputable def OutOk (K:PySem.W.Frag) (B:Bd) (F:Hp) (D:Ends):Out→Prop
  | .nx η=>∀ σ' F' H',SR K B F' H' σ' η→Same F F'→D.nx σ' H'
  | .rt d=>∀ v F' H',Gr B.F B.H F' H'→Rel K F' d v→D.rt v H'
  | .bk η=>∀ σ' F' H',SR K B F' H' σ' η→Same F F'→D.bk σ' H'
  | .ct η=>∀ σ' F' H',SR K B F' H' σ' η→Same F F'→D.ct σ' H'
noncomputable def tS (K:PySem.W.Frag) (B:Bd) (f:En→Option Out):TS:=fun D σ H=>∃ F η o,SR K B F H σ η∧f η=some o∧OutOk K B F D o
noncomputable def S (X:Cx) (B:Bd) (st:Stmt) (f:En→Option Out):Prop:=PS X st (tS X.K B f)
noncomputable def Ss (X:Cx) (B:Bd) (st:List Stmt) (f:En→Option Out):Prop:=PSs X st (tS X.K B f)
theorem PS.imp {X:Cx} {e:Stmt} {t t':TS} (h:PS X e t) (i:∀ D σ H,t' D σ H→t D σ H):PS X e t':=fun pins s σ H D I q=>h pins s σ H D I (i D σ H q)
theorem PSs.imp {X:Cx} {e:List Stmt} {t t':TS} (h:PSs X e t) (i:∀ D σ H,t' D σ H→t D σ H):PSs X e t':=fun pins s σ H D I q=>h pins s σ H D I (i D σ H q)
theorem OutOk.up {K:PySem.W.Frag} {B:Bd} {F F1:Hp} {D:Ends} {o:Out} (h:OutOk K B F D o) (s:Same F F1):OutOk K B F1 D o:=by
  cases o with
  | nx η=>exact fun σ' F' H' r e=>h σ' F' H' r (s.trans e)
  | rt d=>exact h
  | bk η=>exact fun σ' F' H' r e=>h σ' F' H' r (s.trans e)
  | ct η=>exact fun σ' F' H' r e=>h σ' F' H' r (s.trans e)
noncomputable def sNx:En→Option Out:=fun η=>some (.nx η)
noncomputable def sSeq (f g:En→Option Out):En→Option Out:=fun η=>(f η).bind fun o=>match o with
  | .nx η'=>g η'
  | o=>some o
noncomputable def sRet (f:En→Option PyData):En→Option Out:=fun η=>(f η).bind fun d=>some (.rt d)
noncomputable def sRetN:En→Option Out:=fun _=>some (.rt .none)
noncomputable def sRetO (i:Nat):En→Option Out:=fun η=>match η[i]? with | some (.own ds)=>some (.rt (.list ds)) | _=>none
noncomputable def sIf (c:En→Option Bool) (f g:En→Option Out):En→Option Out:=fun η=>(c η).bind fun b=>if b=true then f η else g η
noncomputable def sSet (i:Nat) (f:En→Option PyData):En→Option Out:=fun η=>(f η).bind fun d=>some (.nx (η.set i (.val d)))
noncomputable def sSetO (i:Nat) (f:En→Option (List PyData)):En→Option Out:=fun η=>(f η).bind fun ds=>some (.nx (η.set i (.own ds)))
noncomputable def sApp (i:Nat) (f:En→Option PyData):En→Option Out:=fun η=>(f η).bind fun d=>match η[i]? with
  | some (.own ds)=>if ds.length < sizeLine then some (.nx (η.set i (.own (ds++[d])))) else none
  | _=>none
noncomputable def sExt (i:Nat) (f:En→Option (List PyData)):En→Option Out:=fun η=>(f η).bind fun es=>match η[i]? with
  | some (.own ds)=>if ds.length+es.length≤sizeLine then some (.nx (η.set i (.own (ds++es)))) else none
  | _=>none
noncomputable def frz (i:Nat) (η:En):En:=match η[i]? with | some (.own ds)=>η.set i (.val (.list ds)) | some (.odc kvs)=>η.set i (.val (.dict (prs kvs))) | _=>η
section
variable {X:Cx} {B:Bd} {st:Stmt} {sts sts':List Stmt} {u v:En→Option Out} {a b c e:Expr} {f g:En→Option PyData} {fs:En→Option (List PyData)} {p:En→Option Bool} {pos pos':Pos}
theorem Ss.nil:Ss X B [] sNx:=PSs.imp pss_nil fun D σ H ⟨F,η,o,sr,hd,q⟩=>by
  cases hd
  exact q σ F H sr (.refl _)
theorem Ss.one (h:S X B st u):Ss X B [st] u:=pss_one h
theorem Ss.cons (h:S X B st u) (k:Ss X B sts v):Ss X B (st::sts) (sSeq u v):=PSs.imp (pss_cons h k) fun D σ H ⟨F,η,o,sr,hd,q⟩=>by
  obtain ⟨o1,h1,hd⟩:=bind_some hd
  refine ⟨F,η,o1,sr,h1,?_⟩
  cases o1 with
  | nx η'=>exact fun σ' F' H' r e=>⟨F',η',o,r,hd,q.up e⟩
  | rt d=>cases hd; exact q
  | bk η'=>cases hd; exact q
  | ct η'=>cases hd; exact q
theorem S.never:S X B st (fun _=>none):=PS.imp ps_never fun D σ H ⟨F,η,o,sr,hd,q⟩=>by cases hd
theorem S.ret (he:E X B e f):S X B (.Return (some e) pos) (sRet f):=PS.imp (ps_ret he) fun D σ H ⟨F,η,o,sr,hd,q⟩=>by
  obtain ⟨d,h1,hd⟩:=bind_some hd
  cases hd
  exact ⟨F,η,d,sr,h1,fun v F' H' g rv=>q v F' H' (sr.gr.trans g) rv⟩
theorem S.retO (i:Nat) {x:Str} (hN:X.N[i]?=some x:=by rfl) (hv:Vis X.env.scope x:=by first | exact Or.inl rfl | exact Or.inr (Or.inl rfl) | exact Or.inr (Or.inr rfl)) (hd:(x==("__debug__" : Str))=false:=by decide)
    (hcd:(x==("__classdict__" : Str))=false:=by decide):S X B (.Return (some (.Name x pos')) pos) (sRetO i):=PS.imp (ps_ret (pe_var hN hv hd hcd)) fun D σ H ⟨F,η,o,sr,hd,q⟩=>by
  unfold sRetO at hd
  split at hd
  · rename_i ds e
    cases hd
    obtain ⟨F',p,e1,sf,sr',rel⟩:=sr.freeze e
    exact ⟨_,e1,q _ F' H sr'.gr rel⟩
  · cases hd
theorem S.ifS (hc:T X B c p) (ha:Ss X B sts u) (hb:Ss X B sts' v):S X B (.If c sts sts' pos) (sIf p u v):=PS.imp (ps_if hc ha hb) fun D σ H ⟨F,η,o,sr,hd,q⟩=>by
  obtain ⟨b,h1,hd⟩:=bind_some hd
  refine ⟨F,η,b,sr,h1,fun F1 H1 g1=>?_⟩
  cases b with
  | false =>
    rw [if_neg Bool.false_ne_true] at hd ⊢
    exact ⟨F1,η,o,sr.grow g1,hd,q.up g1.ff⟩
  | true =>
    rw [if_pos rfl] at hd ⊢
    exact ⟨F1,η,o,sr.grow g1,hd,q.up g1.ff⟩
theorem asg_of {K:PySem.W.Frag} {i:Nat}:∀ D σ H,tS K B (sSet i f) D σ H→tAsg (tE K B f) (gName i) D σ H:=fun D σ H ⟨F,η,o,sr,hd,q⟩=>by
  obtain ⟨d,h1,hd⟩:=bind_some hd
  cases hd
  refine ⟨F,η,d,sr,h1,fun v F1 H1 g1 rv=>q _ F1 H1 ⟨sr.gr.trans g1,(sr.en.grow g1).set i rv⟩ g1.ff⟩
theorem asgO_of {K:PySem.W.Frag} {i:Nat}:∀ D σ H,tS K B (sSetO i fs) D σ H→tAsg (tO K B fs) (gName i) D σ H:=fun D σ H ⟨F,η,o,sr,hd,q⟩=>by
  obtain ⟨d,h1,hd⟩:=bind_some hd
  cases hd
  refine ⟨F,η,d,sr,h1,fun p xs F1 H1 g1 hp fp hp' rs=>q _ F1 H1 ⟨sr.gr.trans g1,(sr.en.grow g1).setOwn i fp (sr.gr.hh.free hp) hp' rs fun j ej=>sr.en.notown hp j ej⟩ g1.ff⟩
theorem S.set (i:Nat) {x:Str} (hN:X.N.Nodup) (he:E X B e f) (hi:X.N[i]?=some x:=by rfl) (hx:Loc X.env.scope x:=by first | exact Or.inl rfl | exact Or.inr rfl) (hs:swapsWith e (some (.Name x pos')) pos.line X.env=pure false:=by rfl)
    (hf:X.fn x=true∨X.env.scope.names.lookup x=some .local:=by first | exact .inl rfl | exact .inr rfl):S X B (.Assign [.Name x pos'] e pos) (sSet i f):=PS.imp (ps_set hN hi hx he hs hf) asg_of
theorem S.setO (i:Nat) {x:Str} (hN:X.N.Nodup) (he:EO X B e fs) (hi:X.N[i]?=some x:=by rfl) (hx:Loc X.env.scope x:=by first | exact Or.inl rfl | exact Or.inr rfl) (hs:swapsWith e (some (.Name x pos')) pos.line X.env=pure false:=by rfl)
    (hf:X.fn x=true∨X.env.scope.names.lookup x=some .local:=by first | exact .inl rfl | exact .inr rfl):S X B (.Assign [.Name x pos'] e pos) (sSetO i fs):=PS.imp (ps_set hN hi hx he hs hf) asgO_of
theorem Ss.frz (i:Nat) (h:Ss X B sts u):Ss X B sts (fun η=>u (frz i η)):=PSs.imp h fun D σ H ⟨F,η,o,sr,hd,q⟩=>by
  have hd:u (PU.frz i η)=some o:=hd
  unfold PU.frz at hd
  split at hd
  · rename_i ds e
    obtain ⟨F',p,e1,sf,sr',rel⟩:=sr.freeze e
    exact ⟨F',_,o,sr',hd,q.up sf⟩
  · rename_i kvs e
    obtain ⟨F',p,e1,sf,sr',rel⟩:=sr.freezeD e
    exact ⟨F',_,o,sr',hd,q.up sf⟩
  · exact ⟨F,η,o,sr,hd,q⟩
noncomputable def ItP (K:PySem.W.Frag) (J:It) (F:Hp) (ds:List PyData):Prop:=∀ F1 H1 (i:Nat),Same F F1→Same F1 H1 →
  (∀ d,ds[i]?=some d→J.go i H1∧∀ x H2,J.yld i H1 x H2→∃ F2,Gr F1 H1 F2 H2∧Rel K F2 d x)∧(i=ds.length→J.stop i H1)
noncomputable def tI (K:PySem.W.Frag) (B:Bd) (f:En→Option (List PyData)):TI:=fun σ H R=>∃ F η ds,SR K B F H σ η∧f η=some ds∧∀ J F' H',Gr F H F' H'→ItP K J F' ds→R J H'
noncomputable def I (X:Cx) (B:Bd) (tg iter:Expr) (f:En→Option (List PyData)):Prop:=PI X tg iter (tI X.K B f)
theorem PI.imp {X:Cx} {tg it:Expr} {t t':TI} (h:PI X tg it t) (i:∀ σ H Q,t' σ H Q→t σ H Q):PI X tg it t':=fun pins s σ H Q I q=>h pins s σ H Q I (i σ H Q q)
noncomputable def TgP (K:PySem.W.Frag) (ks:List Nat) (g:TG) (t:En→PyData→Option En):Prop:=∀ (B:Bd) F H σ η d x η',SR K B F H σ η→Rel K F d x→t η d=some η'→∀ Q:St→Hp→Prop,
  (∀ σ' F' H',SR K B F' H' σ' η'→Gr F H F' H'→σ'.length=σ.length→(∀ i,i∉ks→σ'[i]?=σ[i]?)→Q σ' H')→g x σ H Q
noncomputable def tgN (i:Nat):En→PyData→Option En:=fun η d=>some (η.set i (.val d))
theorem TgP.name {K:PySem.W.Frag} {i:Nat}:TgP K [i] (gName i) (tgN i):=fun B F H σ η d x η' sr rx e Q q=>by
  cases e
  exact q _ F H ⟨sr.gr,sr.en.set i rx⟩ (.refl sr.same) (List.length_set ..) fun j hj=>List.getElem?_set_ne (fun e=>hj (by simp [e])) ..
noncomputable def TgsP (K:PySem.W.Frag) (ks:List Nat) (g:TGs) (t:En→List PyData→Option En):Prop:=∀ (B:Bd) F H σ η ds xs η',SR K B F H σ η→RelL K F ds xs→t η ds=some η'→∀ Q:St→Hp→Prop,
  (∀ σ' F' H',SR K B F' H' σ' η'→Gr F H F' H'→σ'.length=σ.length→(∀ i,i∉ks→σ'[i]?=σ[i]?)→Q σ' H')→g xs σ H Q
noncomputable def tgNil:En→List PyData→Option En:=fun η ds=>match ds with | []=>some η | _=>none
noncomputable def tgCons (t:En→PyData→Option En) (r:En→List PyData→Option En):En→List PyData→Option En:=fun η ds=>match ds with | []=>none | d::ds=>(t η d).bind fun η1=>r η1 ds
theorem TgsP.nil {K:PySem.W.Frag}:TgsP K [] gNil tgNil:=fun B F H σ η ds xs η' sr rx e Q q=>by
  cases ds with
  | nil =>
    cases e
    exact ⟨rx.nil_of,q _ F H sr (.refl sr.same) rfl fun _ _=>rfl⟩
  | cons d ds=>cases e
theorem TgsP.cons {K:PySem.W.Frag} {ks ls:List Nat} {g:TG} {gs:TGs} {t:En→PyData→Option En} {r:En→List PyData→Option En} (h:TgP K ks g t) (k:TgsP K ls gs r):TgsP K (ks++ls) (gCons g gs) (tgCons t r):=fun B F H σ η ds xs η' sr rx e Q q=>by
  cases ds with
  | nil=>cases e
  | cons d ds =>
    obtain ⟨x,r',rfl,h1,h2⟩:=rx.cons_of
    obtain ⟨η1,e1,e2⟩:=bind_some e
    refine ⟨x,r',rfl,h B F H σ η d x η1 sr h1 e1 _ fun σ1 F1 H1 sr1 g1 l1 n1=>?_⟩
    refine k B F1 H1 σ1 η1 ds r' η' sr1 (h2.mono g1.ff) e2 _ fun σ2 F2 H2 sr2 g2 l2 n2=>?_
    exact q σ2 F2 H2 sr2 (g1.trans g2) (l2.trans l1) fun i hi=>(n2 i fun z=>hi (List.mem_append_right _ z)).trans (n1 i fun z=>hi (List.mem_append_left _ z))
noncomputable def tgT (t:En→List PyData→Option En):En→PyData→Option En:=fun η d=>match d with | .tuple ds=>t η ds | _=>none
theorem TgP.tup {K:PySem.W.Frag} {ks:List Nat} {n:Nat} {g:TGs} {t:En→List PyData→Option En} (h:TgsP K ks g t) (hn:∀ η ds η',t η ds=some η'→ds.length=n):TgP K ks (gTup K n g) (tgT t):=fun B F H σ η d x η' sr rx e Q q=>by
  cases d with
  | tuple ds =>
    obtain ⟨a,xs,rfl,hq,rs⟩:=rx.tup
    exact ⟨a,xs,rfl,same_seqT sr.same hq,by rw [rs.length]; exact hn η ds η' e,h B F H σ η ds xs η' sr rs e Q q⟩
  | none=>cases e
  | bool _=>cases e
  | int _=>cases e
  | str _=>cases e
  | list _=>cases e
  | dict _=>cases e
noncomputable def sGo (t:En→PyData→Option En) (body:En→Option Out):List PyData→En→Option Out
  | [],η=>some (.nx η)
  | d::ds,η=>(t η d).bind fun η1=>(body η1).bind fun o=>match o with
    | .nx η2=>sGo t body ds η2
    | .ct η2=>sGo t body ds η2
    | .bk η2=>some (.nx η2)
    | .rt d=>some (.rt d)
noncomputable def sFor (it:En→Option (List PyData)) (t:En→PyData→Option En) (body:En→Option Out):En→Option Out:=fun η=>(it η).bind fun ds=>sGo t body ds η
theorem S.for {tg iter:Expr} {body:List Stmt} {gt:TG} {ks:List Nat} {t:En→PyData→Option En} (hp:PassesOwn (model X.prog X.w) X.A X.env X.xe) (hc:X.calm=true) (hi:I X B tg iter fs) (hg:PG X tg gt) (ht:TgP X.K ks gt t) (hb:Ss X B body u)
    (hs:∀ x,foldedSetIterable iter X.env x=pure x:=by intro _; rfl):S X B (.For tg iter body [] pos) (sFor fs t u):=PS.imp (ps_for hp hc hi hg hb hs) fun D σ H ⟨F,η,o,sr,hd,q⟩=>by
  obtain ⟨ds,h1,hd⟩:=bind_some hd
  refine ⟨F,η,ds,sr,h1,fun J F1 H1 g1 ip=>?_⟩
  refine ⟨fun i m σ H=>m=ds.length - i∧i≤ds.length∧∃ Fc ηc,SR X.K B Fc H σ ηc∧Same F1 Fc∧sGo t u (ds.drop i) ηc=some o,⟨_,rfl,Nat.zero_le _,F1,η,sr.grow g1,.refl _,by simpa using hd⟩,?_⟩
  rintro i m σc Hc ⟨rfl,hi,Fc,ηc,src,sc,hgo⟩
  obtain ⟨ip1,ip2⟩:=ip Fc Hc i sc src.same
  by_cases hlt:i < ds.length
  · have e:ds[i]?=some ds[i]:=List.getElem?_eq_getElem hlt
    obtain ⟨go,yl⟩:=ip1 _ e
    rw [List.drop_eq_getElem_cons hlt] at hgo
    unfold sGo at hgo
    obtain ⟨η1,e1,hgo⟩:=bind_some hgo
    obtain ⟨o1,e2,hgo⟩:=bind_some hgo
    have cont:∀ (η2:En),sGo t u (ds.drop (i+1)) η2=some o→∀ σ' F' H',SR X.K B F' H' σ' η2→Same F1 F' →
        ∃ m',m' < ds.length - i∧(fun i m σ H=>m=ds.length - i∧i≤ds.length∧∃ Fc ηc,SR X.K B Fc H σ ηc∧Same F1 Fc∧sGo t u (ds.drop i) ηc=some o) (i+1) m' σ' H':=fun η2 h2 σ' F' H' r s =>
      ⟨ds.length - (i+1),by omega,rfl,hlt,F',η2,r,s,h2⟩
    refine .inr ⟨go,fun σ' H'=>∃ m',m' < ds.length - i∧(fun i m σ H=>m=ds.length - i∧i≤ds.length∧∃ Fc ηc,SR X.K B Fc H σ ηc∧Same F1 Fc∧sGo t u (ds.drop i) ηc=some o) (i+1) m' σ' H',fun σ' H' n=>n,fun x H' y=>?_⟩
    obtain ⟨F2,g2,rx⟩:=yl x H' y
    refine ht B F2 H' σc ηc _ x η1 (src.grow g2) rx e1 _ fun σ3 F3 H3 sr3 g3 _ _=>?_
    refine ⟨F3,η1,o1,sr3,e2,?_⟩
    have s3:Same F1 F3:=sc.trans (g2.ff.trans g3.ff)
    cases o1 with
    | nx η2=>exact fun σ' F' H' r s=>cont η2 hgo σ' F' H' r (s3.trans s)
    | ct η2=>exact fun σ' F' H' r s=>cont η2 hgo σ' F' H' r (s3.trans s)
    | bk η2 =>
      cases hgo
      exact fun σ' F' H' r s=>q σ' F' H' r (g1.ff.trans (s3.trans s))
    | rt d =>
      cases hgo
      exact q
  · have ei:i=ds.length:=by omega
    subst ei
    rw [List.drop_length] at hgo
    cases hgo
    exact .inl ⟨ip2 rfl,q σc Fc Hc src (g1.ff.trans sc)⟩
noncomputable def asL:PyData→Option (List PyData)
  | .list ds=>some ds
  | _=>none
noncomputable def asTu:PyData→Option (List PyData)
  | .tuple ds=>some ds
  | _=>none
noncomputable def lI (k:PyData→Option (List PyData)) (f:En→Option PyData):En→Option (List PyData):=fun η=>(f η).bind k
theorem itp_list {K:PySem.W.Frag} {F:Hp} {a:Addr} {xs:List V} {ds:List PyData} (h:SqL K F a xs) (r:RelL K F ds xs):ItP K (Itl K a) F ds:=fun F1 H1 i s1 s2=>by
  have q:=s2.seq (s1.seq h)
  refine ⟨fun d e=>?_,fun e=>⟨xs,q,by rw [r.length,e]; exact Nat.le_refl _⟩⟩
  obtain ⟨x,ex,rx⟩:=r.get e
  refine ⟨⟨xs,x,q,ex⟩,fun x' H2 y=>?_⟩
  obtain ⟨e2,y⟩:=y
  subst e2
  have z:=y xs q
  rw [ex] at z
  cases z
  exact ⟨F1,.refl s2,rx.mono s1⟩
theorem itp_tup {K:PySem.W.Frag} {F:Hp} {a:Addr} {xs:List V} {ds:List PyData} (h:SqT K F a xs) (r:RelL K F ds xs):ItP K (Itt K a) F ds:=fun F1 H1 i s1 s2=>by
  have q:=same_seqT s2 (same_seqT s1 h)
  refine ⟨fun d e=>?_,fun e=>⟨xs,q,by rw [r.length,e]; exact Nat.le_refl _⟩⟩
  obtain ⟨x,ex,rx⟩:=r.get e
  refine ⟨⟨xs,x,q,ex⟩,fun x' H2 y=>?_⟩
  obtain ⟨e2,y⟩:=y
  subst e2
  have z:=y xs q
  rw [ex] at z
  cases z
  exact ⟨F1,.refl s2,rx.mono s1⟩
theorem I.list {tg:Expr} (he:E X B e f):I X B tg e (lI asL f):=PI.imp (pi_list he) fun σ H Q ⟨F,η,ds,sr,hd,q⟩=>by
  obtain ⟨d,h1,hd⟩:=bind_some hd
  cases d <;> simp only [asL,Option.some.injEq,reduceCtorEq] at hd
  subst hd
  refine ⟨F,η,_,sr,h1,fun v F1 H1 g1 rv=>?_⟩
  obtain ⟨a,xs,rfl,hq,rs⟩:=rv.lst
  exact ⟨a,rfl,⟨xs,g1.fh.seq hq⟩,q _ F1 H1 g1 (itp_list hq rs)⟩
theorem I.tup {tg:Expr} (he:E X B e f):I X B tg e (lI asTu f):=PI.imp (pi_tup he) fun σ H Q ⟨F,η,ds,sr,hd,q⟩=>by
  obtain ⟨d,h1,hd⟩:=bind_some hd
  cases d <;> simp only [asTu,Option.some.injEq,reduceCtorEq] at hd
  subst hd
  refine ⟨F,η,_,sr,h1,fun v F1 H1 g1 rv=>?_⟩
  obtain ⟨a,xs,rfl,hq,rs⟩:=rv.tup
  exact ⟨a,rfl,⟨xs,same_seqT g1.fh hq⟩,q _ F1 H1 g1 (itp_tup hq rs)⟩
noncomputable def rngL (lo:Int) (n:Nat):List PyData:=(List.range n).map fun (k:Nat)=>PyData.int (lo+k)
theorem itp_rng {K:PySem.W.Frag} {F:Hp} {lo:Int} {n:Nat}:ItP K (Itr lo n) F (rngL lo n):=fun F1 H1 i s1 s2=>by
  have hl:(rngL lo n).length=n:=by unfold rngL; rw [List.length_map,List.length_range]
  refine ⟨fun d e=>?_,fun e=>by show n≤i; omega⟩
  have hi:i < n:=by rw [← hl]; exact (List.getElem?_eq_some_iff.mp e).1
  refine ⟨hi,fun x H2 y=>?_⟩
  obtain ⟨e2,e3⟩:=y
  subst e2 e3
  have:d=.int (lo+i):=by
    unfold rngL at e
    rw [List.getElem?_map,List.getElem?_range hi] at e
    exact (Option.some.inj e).symm
  subst this
  exact ⟨F1,.refl s2,rel_int⟩
noncomputable def rng1 (ds:List PyData):Option (List PyData):=match ds with
  | [.int j]=>if -(2 ^ 62)≤j∧j < 2 ^ 62 then some (rngL 0 j.toNat) else none
  | _=>none
noncomputable def rng2 (ds:List PyData):Option (List PyData):=match ds with
  | [.int i,.int j]=>if (-(2 ^ 62)≤i∧i < 2 ^ 62)∧(-(2 ^ 62)≤j∧j < 2 ^ 62) then some (rngL i (j - i).toNat) else none
  | _=>none
theorem I.rng1 {tg:Expr} {pp:Pos} (hm:X.mg "range" = none) (ha:A X B [a] fs) (hg:Gl X "range" := by rfl) (hs:starEach [a] X.env=[(false,eval a X.env)]:=by exact star_of rfl):I X B tg (.Call (.Name "range" pp) [a] [] pos) (fun η=>(fs η).bind PU.rng1) :=
  PI.imp (pi_range1 hg hm ha hs) fun σ H Q ⟨F,η,ds,sr,hd,q⟩=>by
    obtain ⟨es,h1,hd⟩:=bind_some hd
    unfold PU.rng1 at hd
    split at hd
    · rename_i j
      split at hd
      · rename_i hj
        cases hd
        refine ⟨F,η,_,sr,h1,fun vs F1 H1 g1 rs=>?_⟩
        obtain ⟨x,r,rfl,rx,rr⟩:=rs.cons_of
        obtain rfl:=rr.nil_of
        exact ⟨j,by rw [rx.int],hj.1,hj.2,q _ F1 H1 g1 itp_rng⟩
      · cases hd
    · cases hd
end
noncomputable def inEn (mp:List (Option Nat)) (η:En):En:=mp.map fun o=>match o with
  | some j=>(match η[j]? with | some (.val d)=>.val d | some (.ob fs)=>.ob fs | _=>.un)
  | none=>.un
noncomputable def cGo (t:En→PyData→Option En) (p:En→Option Bool) (f:En→Option PyData) (η:En):List PyData→Option (List PyData)
  | []=>some []
  | d::ds=>(t η d).bind fun η1=>(p η1).bind fun ok=>if ok=true then (f η1).bind fun y=>(cGo t p f η ds).bind fun r=>some (y::r) else cGo t p f η ds
noncomputable def sComp (mp:List (Option Nat)) (fi:En→Option (List PyData)) (t:En→PyData→Option En) (p:En→Option Bool) (f:En→Option PyData):En→Option (List PyData):=fun η =>
  (fi η).bind fun ds=>if ds.length≤sizeLine then cGo t p f (inEn mp η) ds else none
noncomputable def Ts (X:Cx) (B:Bd) (ifs:List Expr) (p:En→Option Bool):Prop:=PTs X ifs (tT X.K B p)
noncomputable def tTrue:En→Option Bool:=fun _=>some true
section
variable {X:Cx} {B:Bd}
theorem Ts.nil:Ts X B [] tTrue:=fun pins s σ H Q I ⟨F,η,b,sr,hd,q⟩=>by
  cases hd
  exact pts_nil pins s σ H Q I (q F H (.refl sr.same))
theorem Ts.one {c:Expr} {p:En→Option Bool} (h:T X B c p):Ts X B [c] p:=pts_one h
theorem inEn_no {mp:List (Option Nat)} {η:En} {i:Nat} {a:Sl} (e:(inEn mp η)[i]?=some a):isOwn a=false:=by
  unfold inEn at e
  rw [List.getElem?_map] at e
  cases q:mp[i]? with
  | none=>rw [q] at e; cases e
  | some o =>
    rw [q] at e
    cases o with
    | none=>cases e; rfl
    | some j =>
      have e':(match η[j]? with | some (.val d)=>Sl.val d | some (.ob fs)=>.ob fs | _=>.un)=a:=Option.some.inj e
      split at e' <;> (subst e'; rfl)
theorem EnR.inner {K:PySem.W.Frag} {He F H:Hp} {σ:St} {η:En} (r:EnR K He F H σ η) (mp:List (Option Nat)):EnR K He F H (inSt mp σ) (inEn mp η) where
  len:=by unfold inEn inSt; rw [List.length_map,List.length_map]
  val:=fun i d e=>by
    unfold inEn at e
    rw [List.getElem?_map] at e
    cases q:mp[i]? with
    | none=>rw [q] at e; cases e
    | some o =>
      rw [q] at e
      cases o with
      | none=>cases e
      | some j =>
        have e':(match η[j]? with | some (.val d)=>Sl.val d | some (.ob fs)=>.ob fs | _=>.un)=.val d:=Option.some.inj e
        split at e'
        · rename_i d' ed
          have:d'=d:=by injection e'
          subst this
          obtain ⟨v,e1,e2⟩:=r.val j d' ed
          refine ⟨v,?_,e2⟩
          unfold inSt
          rw [List.getElem?_map,q]
          show some ((σ[j]?).join)=_
          rw [e1]
          rfl
        · cases e'
        · cases e'
  obs:=fun i fs e=>by
    unfold inEn at e
    rw [List.getElem?_map] at e
    cases q:mp[i]? with
    | none=>rw [q] at e; cases e
    | some o =>
      rw [q] at e
      cases o with
      | none=>cases e
      | some j =>
        have e':(match η[j]? with | some (.val d)=>Sl.val d | some (.ob fs)=>.ob fs | _=>.un)=.ob fs:=Option.some.inj e
        split at e'
        · cases e'
        · rename_i d' ed
          have:d'=fs:=by injection e'
          subst this
          obtain ⟨p,C,dx,xs,e1,e2⟩:=r.obs j d' ed
          refine ⟨p,C,dx,xs,?_,e2⟩
          unfold inSt
          rw [List.getElem?_map,q]
          show some ((σ[j]?).join)=_
          rw [e1]
          rfl
        · cases e'
  cel:=fun i a e ha=>by rw [inEn_no e] at ha; cases ha
  apart:=fun i j a b e _ ha _ _=>by rw [inEn_no e] at ha; cases ha
variable {elt iter tg:Expr} {ifs:List Expr} {scope:Scope} {pos:Pos} {N':List Str} {mp:List (Option Nat)} {ks:List Nat} {gt:TG} {t:En→PyData→Option En} {fi:En→Option (List PyData)} {p:En→Option Bool} {f:En→Option PyData}
theorem comp_of {K:PySem.W.Frag} (ht:TgP K ks gt t) (hks:∀ k∈ks,mp[k]?=some none):∀ σ H Q,tO K B (sComp mp fi t p f) σ H Q→tComp mp (tI K B fi) gt (tT K B p) (tE K B f) σ H Q:=fun σ H Q ⟨F,η,rs,sr,hd,q⟩=>by
  obtain ⟨ds,h1,hd⟩:=bind_some hd
  split at hd
  rotate_left
  · cases hd
  rename_i hz
  refine ⟨F,η,ds,sr,h1,fun J F1 H1 g1 ip D hD=>?_⟩
  have fD:F1 D=none:=g1.fh.free hD
  have kept:∀ {σ2:St},σ2.length=(inSt mp σ).length→(∀ i,i∉ks→σ2[i]?=(inSt mp σ)[i]?)→KeepsSt (inSt mp σ) σ2:=fun {σ2} hl hn=>⟨hl,fun i v e=>by
    by_cases hi:i∈ks
    · have z:=hks i hi
      unfold inSt at e
      rw [List.getElem?_map,z] at e
      cases e
    · rw [hn i hi]; exact e⟩
  refine ⟨fun i m Hc=>m=ds.length - i∧i≤ds.length∧∃ Fc ys done rest,Gr F1 H1 Fc Hc∧Fc D=none∧Hc D=some (.lst ys)∧RelL K Fc done ys∧done.length≤i∧cGo t p f (inEn mp η) (ds.drop i)=some rest∧rs=done++rest,
    ⟨_,rfl,Nat.zero_le _,F1,[],[],rs,⟨.refl _,same_new hD _,fun b u z=>same_new hD _ b u (g1.fh b u z),fun b z=>.inl z⟩,fD,upd_same,.nil,Nat.le_refl _,by simpa using hd,rfl⟩,?_⟩
  rintro i m Hc ⟨rfl,hi,Fc,ys,done,rest,gc,fcD,hcD,rd,hdl,hgo,hrs⟩
  obtain ⟨ip1,ip2⟩:=ip Fc Hc i gc.ff gc.fh
  by_cases hlt:i < ds.length
  · have e:ds[i]?=some ds[i]:=List.getElem?_eq_getElem hlt
    obtain ⟨go,yl⟩:=ip1 _ e
    rw [List.drop_eq_getElem_cons hlt] at hgo
    unfold cGo at hgo
    obtain ⟨η1,e1,hgo⟩:=bind_some hgo
    obtain ⟨ok,e2,hgo⟩:=bind_some hgo
    refine .inr ⟨go,fun H'=>∃ m',m' < ds.length - i∧(m'=ds.length - (i+1)∧i+1≤ds.length∧∃ Fc ys done rest,Gr F1 H1 Fc H'∧Fc D=none∧H' D=some (.lst ys)∧RelL K Fc done ys∧done.length≤i+1∧cGo t p f (inEn mp η) (ds.drop (i+1))=some rest∧rs=done++rest),fun H' n=>n,fun x H' y=>?_⟩
    obtain ⟨F2,g2,rx⟩:=yl x H' y
    have sin:SR K B F2 H' (inSt mp σ) (inEn mp η):=⟨(sr.gr.trans g1).trans (gc.trans g2),((sr.en.grow g1).inner mp).grow (gc.trans g2)⟩
    refine ht B F2 H' (inSt mp σ) (inEn mp η) _ x η1 sin rx e1 _ fun σ3 F3 H3 sr3 g3 l3 n3=>⟨kept l3 n3,F3,η1,ok,sr3,e2,fun F4 H4 g4=>?_⟩
    have gall:Gr Fc Hc F4 H4:=(g2.trans g3).trans g4
    have nD:∀ {F5 H5:Hp},Gr Fc Hc F5 H5→F5 D=none:=fun {F5 H5} g=>by
      cases z:F5 D with
      | none=>rfl
      | some o =>
        rcases g.new D (by rw [z]; simp) with w | w
        · exact absurd fcD w
        · rw [hcD] at w; cases w
    cases ok with
    | false =>
      rw [if_neg Bool.false_ne_true] at hgo
      refine iteF ?_
      exact ⟨ds.length - (i+1),by omega,rfl,hlt,F4,ys,done,rest,gc.trans gall,nD gall,gall.hh _ _ hcD,rd.mono gall.ff,Nat.le_succ_of_le hdl,hgo,hrs⟩
    | true =>
      rw [if_pos rfl] at hgo
      refine iteT ?_
      obtain ⟨yv,e3,hgo⟩:=bind_some hgo
      obtain ⟨r,e4,hgo⟩:=bind_some hgo
      cases hgo
      refine ⟨F4,η1,yv,sr3.grow g4,e3,fun v F5 H5 g5 rv=>?_⟩
      have ga:=gall.trans g5
      have h5D:=ga.hh _ _ hcD
      refine ⟨ys,h5D,by rw [rd.length]; omega,ds.length - (i+1),by omega,rfl,hlt,F5,ys++[v],done++[yv],r,?_,nD ga,upd_same,(rd.mono ga.ff).append (.cons rv .nil),by rw [List.length_append,List.length_singleton]; omega,e4,by rw [hrs,List.append_assoc]; rfl⟩
      have gt':=gc.trans ga
      refine ⟨gt'.ff,fun b u z=>?_,fun b u z=>?_,gt'.new⟩
      · have nb:b≠D:=ne_of_none z hD
        rw [upd_ne nb]; exact gt'.hh b u z
      · have nb:b≠D:=ne_of_none z (nD ga)
        rw [upd_ne nb]; exact gt'.fh b u z
  · have ei:i=ds.length:=by omega
    subst ei
    rw [List.drop_length] at hgo
    cases hgo
    rw [List.append_nil] at hrs
    subst hrs
    exact .inl ⟨ip2 rfl,q D ys Fc Hc (g1.trans gc) (g1.hh.free hD) fcD hcD rd⟩
theorem EO.comp (hc:X.calm=true) (ck:CompSc X scope N' mp) (ht:TgP X.K ks gt t) (hks:∀ k∈ks,mp[k]?=some none) (hi:I X B tg iter fi)
    (hb:∀ s H fp,PG (compCx X scope N' s H fp) tg gt∧Ts (compCx X scope N' s H fp) B ifs p∧E (compCx X scope N' s H fp) B elt f)
    (hs:∀ x,foldedSetIterable iter X.env x=pure x:=by intro _; rfl):EO X B (.ListComp elt [⟨tg,iter,ifs,0⟩] scope pos) (sComp mp fi t p f):=PE.imp (pe_comp hc ck hi hb hs) (comp_of ht hks)
theorem S.setC (i:Nat) {y:Str} {py spos:Pos} (hc:X.calm=true) (hN:X.N.Nodup) (ck:CompSc X scope N' mp) (ht:TgP X.K ks gt t) (hks:∀ k∈ks,mp[k]?=some none) (hi:I X B tg iter fi)
    (hb:∀ s H fp,PG (compCx X scope N' s H fp) tg gt∧Ts (compCx X scope N' s H fp) B ifs p∧E (compCx X scope N' s H fp) B elt f)
    (hiy:X.N[i]?=some y:=by rfl) (hy:X.env.scope.names.lookup y=some .local:=by rfl) (hsw:swapsWith (.ListComp elt [⟨tg,iter,ifs,0⟩] scope pos) (some (.Name y py)) spos.line X.env=pure true:=by rfl)
    (hs:∀ x,foldedSetIterable iter X.env x=pure x:=by intro _; rfl):S X B (.Assign [.Name y py] (.ListComp elt [⟨tg,iter,ifs,0⟩] scope pos) spos) (sSetO i (sComp mp fi t p f)) :=
  PS.imp (ps_setComp hc hN hiy hy ck hi hb hsw hs) fun D σ H h=>by
    have h':=asgO_of D σ H h
    exact comp_of ht hks σ H _ h'
end
noncomputable def runF (n m:Nat) (g:En→Option Out) (ds:List PyData):Option PyData:=if ds.length=n then (g (ds.map Sl.val++List.replicate (m - n) .un)).bind fun o=>match o with
  | .rt d=>some d
  | .nx _=>some .none
  | _=>none else none
section
variable {P:Program} {w:World} {K:PySem.W.Frag} {mg:Str→Option Value} {base:Heap}
theorem start_no {n:Nat} {ds:List PyData} {i:Nat} {a:Sl} (e:(ds.map Sl.val++List.replicate n .un)[i]?=some a):isOwn a=false:=by
  by_cases hi:i < ds.length
  · rw [List.getElem?_append_left (by rw [List.length_map]; exact hi),List.getElem?_map] at e
    cases q:ds[i]? with
    | none=>rw [q] at e; cases e
    | some d'=>rw [q] at e; cases e; rfl
  · rw [List.getElem?_append_right (by rw [List.length_map]; omega),List.getElem?_replicate] at e
    split at e <;> cases e
    rfl
theorem EnR.start {F H:Hp} {N:List Str} {ds:List PyData} {vs:List V} (r:RelL K F ds vs):EnR K H F H (L2.start N vs) (ds.map Sl.val++List.replicate (N.length - ds.length) .un) where
  len:=by unfold L2.start; rw [List.length_append,List.length_append,List.length_map,List.length_map,List.length_replicate,List.length_replicate,r.length]
  val:=fun i d e=>by
    unfold L2.start
    by_cases hi:i < ds.length
    · rw [List.getElem?_append_left (by rw [List.length_map]; exact hi),List.getElem?_map] at e
      rw [List.getElem?_append_left (by rw [List.length_map,r.length]; exact hi),List.getElem?_map]
      cases q:ds[i]? with
      | none=>rw [q] at e; cases e
      | some d' =>
        rw [q] at e
        have:d'=d:=by injection (Option.some.inj e)
        subst this
        obtain ⟨x,e1,e2⟩:=r.get q
        exact ⟨x,by rw [e1]; rfl,e2⟩
    · rw [List.getElem?_append_right (by rw [List.length_map]; omega),List.getElem?_replicate] at e
      split at e <;> cases e
  cel:=fun i a e ha=>by rw [start_no e] at ha; cases ha
  obs:=fun i fs e=>by
    by_cases hi:i < ds.length
    · rw [List.getElem?_append_left (by rw [List.length_map]; exact hi),List.getElem?_map] at e
      cases q:ds[i]? with
      | none=>rw [q] at e; cases e
      | some d'=>rw [q] at e; cases e
    · rw [List.getElem?_append_right (by rw [List.length_map]; omega),List.getElem?_replicate] at e
      split at e <;> cases e
  apart:=fun i _ a _ e _ ha _ _=>by rw [start_no e] at ha; cases ha
theorem fnP {x qual:Str} {st:Stmt} {f:Addr} {fd:FuncData} {N ps:List Str} {k:Nat} {g:En→Option Out} (Fn:Fun K x qual st f fd) (Sc:FnScope N ps (defScope st))
    (hb:∀ (cdv:Value) (A:Around) (outer:List Env) (s:Shared) (H:Hp) (E:XK) (F:Hp),Room k (A.deeper (envOfC qual (defScope st) s.heap.objs.size f cdv)) →
      Ss (cxOf CX0 P w K mg base N qual (defScope st) f cdv A outer s H E).nox ⟨F,H⟩ (defBody st) g) :
    FnOk P w K mg base CX0 (k+1) f fd ps (spP K (runF ps.length N.length g)):=by
  have len:∀ {F:Hp} {ds:List PyData} {vs:List V} {d:PyData},RelL K F ds vs→runF ps.length N.length g ds=some d→ds.length=ps.length∧vs.length=ps.length:=fun {F ds vs d} r e=>by
    unfold runF at e
    split at e
    · rename_i hl
      exact ⟨hl,by rw [r.length]; exact hl⟩
    · cases e
  refine Fn.ok Sc (fun vs H Q E h=>?_) (fun cdv A outer s H vs Q E hr h=>?_)
  · obtain ⟨F,ds,d,_,r,e,_⟩:=h
    exact (len r e).2
  · obtain ⟨F,ds,d,sm,r,e,q⟩:=h
    obtain ⟨l1,l2⟩:=len r e
    refine ⟨_,hb cdv A outer s H E F hr,?_⟩
    unfold runF at e
    rw [if_pos l1] at e
    obtain ⟨o,e1,e2⟩:=bind_some e
    refine ⟨F,_,o,⟨.refl sm,?_⟩,e1,?_⟩
    · have z:=EnR.start (K:=K) (H:=H) (N:=N) r
      rw [l1] at z
      exact z
    · cases o with
      | rt d' =>
        cases e2
        exact fun v F' H' g rv=>q v F' H' g rv
      | nx η' =>
        cases e2
        exact fun σ' F' H' sr _=>q .non F' H' sr.gr rel_non
      | bk η'=>cases e2
      | ct η'=>cases e2
theorem fn0 {f:Addr} {fd:FuncData} {ps:List Str} {k:Nat}:FnOk P w K mg base CX0 k f fd ps (spP K (fun _=>none)) :=
  ⟨fun vs H Q E h=>(by obtain ⟨_,_,_,_,_,e,_⟩:=h; cases e),fun A outer s H args us vs Q E _ _ _ _ h=>(by obtain ⟨_,_,_,_,_,e,_⟩:=h; cases e)⟩
end
section
variable {X:Cx}
mutual
theorem Rel.reads {pins:List (Addr×Obj)} {σ:St} {F H:Hp} {s:Shared} (I:Inv X pins σ H s) (sm:Same F H):∀ {d:PyData} {v:V} {u:Value},PyData.canLay0 d=true→Rel X.K F d v→RelV v u→∃ as,Reads s.heap u d as
  | .none,v,u,_,h,r=>by
    rw [h.non] at r; cases r
    exact ⟨_,.none⟩
  | .bool b,v,u,_,h,r=>by
    rw [h.bl] at r; cases r
    exact ⟨_,.bool b⟩
  | .int i,v,u,_,h,r=>by
    rw [h.int] at r; obtain ⟨t,rfl⟩:=r
    exact ⟨_,.int i t⟩
  | .str x,v,u,_,h,r=>by
    rw [h.str] at r; obtain ⟨t,rfl⟩:=r
    exact ⟨_,.str x t⟩
  | .tuple ds,v,u,c,h,r=>by
    unfold PyData.canLay0 at c
    obtain ⟨a,xs,rfl,hq,rs⟩:=h.tup
    cases r
    obtain ⟨its,rv,⟨o,ho,hc,n,hd⟩,_⟩:=I.tuple (same_seqT sm hq)
    obtain ⟨as,h'⟩:=RelL.reads I sm c rs rv
    exact ⟨as,.tuple ho hc hd (by simpa using h')⟩
  | .list ds,v,u,c,h,r=>by
    unfold PyData.canLay0 at c
    obtain ⟨a,xs,rfl,hq,rs⟩:=h.lst
    cases r
    obtain ⟨its,rv,p,_⟩:=I.list (sm.seq hq)
    obtain ⟨o,ho,hc,n,hd⟩:=p.isList
    obtain ⟨as,h'⟩:=RelL.reads I sm c rs rv
    exact ⟨a::as,.list ho hc hd (by simpa using h')⟩
  | .dict _,v,u,c,h,r=>by unfold PyData.canLay0 at c; cases c
theorem RelL.reads {pins:List (Addr×Obj)} {σ:St} {F H:Hp} {s:Shared} (I:Inv X pins σ H s) (sm:Same F H):∀ {ds:List PyData} {vs:List V} {us:List Value},PyData.canLayAll0 ds=true→RelL X.K F ds vs→Vals vs us→∃ as,ReadsAll s.heap us ds as
  | [],vs,us,_,h,r=>by
    rw [h.nil_of] at r; cases r
    exact ⟨_,.nil⟩
  | d::ds,vs,us,c,h,r=>by
    unfold PyData.canLayAll0 at c
    obtain ⟨c1,c2⟩:=Bool.and_eq_true_iff.mp c
    obtain ⟨x,xs,rfl,h1,h2⟩:=h.cons_of
    cases r with
    | cons r1 r2 =>
      obtain ⟨as,e1⟩:=Rel.reads I sm c1 h1 r1
      obtain ⟨bs,e2⟩:=RelL.reads I sm c2 h2 r2
      exact ⟨as++bs,.cons e1 e2⟩
end
noncomputable def rEqD (K:PySem.W.Frag) (neg:Bool):R2:=fun x y H Q=>∃ F dx dy,Same F H∧Rel K F dx x∧Rel K F dy y∧SeqAt.shaped dx=true∧SeqAt.shaped dy=true∧Q (.bl (if neg then !PyData.eqv dx dy else PyData.eqv dx dy)) H
theorem op_eqD (hu:X.A.units+64 < cLine):OpR X (compareOp .Eq) (rEqD X.K false):=by
  intro pins s σ H x y v u Q I rx ry h
  obtain ⟨F,dx,dy,sm,h1,h2,s1,s2,q⟩:=h
  obtain ⟨as,ra⟩:=Rel.reads I sm (SeqAt.canLay_of_shaped s1) h1 rx
  obtain ⟨bs,rb⟩:=Rel.reads I sm (SeqAt.canLay_of_shaped s2) h2 ry
  exact SeqAt.compareEq_shaped ra rb s1 s2 hu ⟨.bl _,H,I,rfl,q⟩
theorem op_neD (hu:X.A.units+64 < cLine):OpR X (compareOp .NotEq) (rEqD X.K true):=by
  intro pins s σ H x y v u Q I rx ry h
  obtain ⟨F,dx,dy,sm,h1,h2,s1,s2,q⟩:=h
  obtain ⟨as,ra⟩:=Rel.reads I sm (SeqAt.canLay_of_shaped s1) h1 rx
  obtain ⟨bs,rb⟩:=Rel.reads I sm (SeqAt.canLay_of_shaped s2) h2 ry
  exact SeqAt.compareNe_shaped ra rb s1 s2 hu ⟨.bl _,H,I,rfl,q⟩
noncomputable def pEq (x y:PyData):Option PyData:=if SeqAt.shaped x=true∧SeqAt.shaped y=true then some (.bool (PyData.eqv x y)) else none
noncomputable def pNe (x y:PyData):Option PyData:=if SeqAt.shaped x=true∧SeqAt.shaped y=true then some (.bool (!PyData.eqv x y)) else none
theorem ad_eq {K:PySem.W.Frag}:Ad2 K (rEqD K false) pEq:=fun F H x y dx dy d Q sm rx ry e q=>by
  unfold pEq at e
  split at e
  · rename_i hs
    cases e
    exact ⟨F,dx,dy,sm,rx,ry,hs.1,hs.2,q _ F H (.refl sm) rel_bl⟩
  · cases e
theorem ad_ne {K:PySem.W.Frag}:Ad2 K (rEqD K true) pNe:=fun F H x y dx dy d Q sm rx ry e q=>by
  unfold pNe at e
  split at e
  · rename_i hs
    cases e
    exact ⟨F,dx,dy,sm,rx,ry,hs.1,hs.2,q _ F H (.refl sm) rel_bl⟩
  · cases e
noncomputable def pI (C:Int→Int→Prop) [∀ i j,Decidable (C i j)] (g:Int→Int→PyData) (x y:PyData):Option PyData:=match x,y with
  | .int i,.int j=>if C i j then some (g i j) else none
  | _,_=>none
instance:∀ i j,Decidable (CMul i j):=fun i j=>by unfold CMul; infer_instance
instance:∀ i j,Decidable (CDiv i j):=fun i j=>by unfold CDiv; infer_instance
theorem ad_I {K:PySem.W.Frag} {C:Int→Int→Prop} [∀ i j,Decidable (C i j)] {g:Int→Int→PyData} {gv:Int→Int→V} (hg:∀ F i j,Rel K F (g i j) (gv i j)):Ad2 K (rI C gv) (pI C g):=fun F H x y dx dy d Q sm rx ry e q=>by
  cases dx <;> cases dy <;> simp only [pI,reduceCtorEq] at e
  split at e
  · rename_i hc
    cases e
    exact ⟨_,_,rx.int,ry.int,hc,q _ F H (.refl sm) (hg F _ _)⟩
  · cases e
theorem ad_I0 {K:PySem.W.Frag} {g:Int→Int→PyData} {gv:Int→Int→V} (hg:∀ F i j,Rel K F (g i j) (gv i j)):Ad2 K (rI0 gv) (pI (fun _ _=>True) g):=fun F H x y dx dy d Q sm rx ry e q=>by
  cases dx <;> cases dy <;> simp only [pI,reduceCtorEq,if_true] at e
  cases e
  exact ⟨_,_,rx.int,ry.int,q _ F H (.refl sm) (hg F _ _)⟩
noncomputable def pSub:=pI (fun _ _=>True) fun i j=>.int (i - j)
noncomputable def pMul:=pI CMul fun i j=>.int (i*j)
noncomputable def pFdiv:=pI CDiv fun i j=>.int (i / j)
noncomputable def pMod:=pI (fun _ j=>0 < j) fun i j=>.int (i % j)
noncomputable def pLt:=pI (fun _ _=>True) fun i j=>.bool (decide (i < j))
noncomputable def pLe:=pI (fun _ _=>True) fun i j=>.bool (decide (i≤j))
noncomputable def pGt:=pI (fun _ _=>True) fun i j=>.bool (decide (j < i))
noncomputable def pGe:=pI (fun _ _=>True) fun i j=>.bool (decide (j≤i))
section
variable {B:Bd} {a b:Expr} {f g:En→Option PyData} {pos:Pos}
theorem E.sub (ha:E X B a f) (hb:E X B b g):E X B (.BinOp a .Sub b pos) (l2 pSub f g):=E.op op_sub (ad_I0 fun _ _ _=>rel_int) ha hb
theorem E.mul (ha:E X B a f) (hb:E X B b g):E X B (.BinOp a .Mult b pos) (l2 pMul f g):=E.op op_mul (ad_I fun _ _ _=>rel_int) ha hb
theorem E.fdiv (ha:E X B a f) (hb:E X B b g):E X B (.BinOp a .FloorDiv b pos) (l2 pFdiv f g):=E.op op_fdiv (ad_I fun _ _ _=>rel_int) ha hb
theorem E.mod (ha:E X B a f) (hb:E X B b g):E X B (.BinOp a .Mod b pos) (l2 pMod f g):=E.op op_mod (ad_I fun _ _ _=>rel_int) ha hb
theorem E.eq {k:Nat} (hr:Room k X.A) (ha:E X B a f) (hb:E X B b g):E X B (.Compare a [.Eq] [b] pos) (l2 pEq f g):=E.cmp (op_eqD hr.units) ad_eq (nomark b) ha hb
theorem T.eq {k:Nat} (hr:Room k X.A) (ha:E X B a f) (hb:E X B b g):T X B (.Compare a [.Eq] [b] pos) (bT (l2 pEq f g)):=T.cmp (op_eqD hr.units) ad_eq (nomark b) ha hb
theorem T.ne {k:Nat} (hr:Room k X.A) (ha:E X B a f) (hb:E X B b g):T X B (.Compare a [.NotEq] [b] pos) (bT (l2 pNe f g)):=T.cmp (op_neD hr.units) ad_ne (nomark b) ha hb
theorem T.le (ha:E X B a f) (hb:E X B b g):T X B (.Compare a [.LtE] [b] pos) (bT (l2 pLe f g)):=T.cmp op_le (ad_I0 fun _ _ _=>rel_bl) (nomark b) ha hb
end
noncomputable def rCatS (K:PySem.W.Frag):R2:=fun x y H Q=>∃ l b xs zs,x=.ref l∧y=.ref b∧SqL K H l xs∧SqL K H b zs∧xs.length+zs.length≤sizeLine∧∀ p,H p=none→Q (.ref p) (upd H p (.lst (xs++zs)))
theorem op_catS:OpR X (binaryOp .Add) (rCatS X.K):=by
  intro pins s σ H x y v u Q I rx ry h
  obtain ⟨l,b,xs,zs,rfl,rfl,hH,hB,hz,q⟩:=h
  cases rx
  cases ry
  obtain ⟨its,r,⟨⟨c1,d1,t1,sl1⟩,n,e,ec,ed,es⟩,z⟩:=I.list hH
  obtain ⟨its2,r2,⟨⟨c2,d2,t2,sl2⟩,n2,e2,ec2,ed2,es2⟩,z2⟩:=I.list hB
  have hl:=r.length
  have hl2:=r2.length
  simp only at ec ed es ec2 ed2 es2
  subst ec ed es ec2 ed2 es2
  have ea:its.toArray++its2.toArray=(its++its2).toArray:=by simp
  refine concat_meets ⟨_,e,rfl⟩ ⟨_,e2,rfl⟩ PySem.noFill_list_add PySem.seq_list_add PySem.F.slot_list_add PySem.F.entry_list_add (PySem.F.args_list_add_2 _ _)
      (list_addW l b its.toArray its2.toArray n n2 none none sl1 sl2 (by rw [List.size_toArray,List.size_toArray]; omega)) ⟨e,e2,?_⟩
  rw [ea]
  exact ⟨.ref _,_,I.lnew (t':=s.toks) (r.append r2) (by rw [List.length_append]; omega),rfl,q _ I.fresh⟩
noncomputable def rCatTT (K:PySem.W.Frag):R2:=fun x y H Q=>∃ a b xs ys,x=.ref a∧y=.ref b∧SqT K H a xs∧SqT K H b ys∧xs.length+ys.length≤sizeLine ∧
  (xs=[]→Q (.ref b) H)∧(xs≠[]→ys=[]→Q (.ref a) H)∧(∀ p,H p=none→Q (.ref p) (upd H p (.tup (xs++ys))))
theorem op_catTT:OpR X (binaryOp .Add) (rCatTT X.K):=by
  intro pins s σ H x y v u Q I rx ry h
  obtain ⟨a,b,xs,ys,rfl,rfl,ha,hb,hz,q0,q1,q2⟩:=h
  cases rx
  cases ry
  obtain ⟨its,r1,p1,_⟩:=I.tuple ha
  obtain ⟨its2,r2,p2,_⟩:=I.tuple hb
  by_cases hx:xs=[]
  · have hi:its=[]:=r1.nil_iff.mpr hx
    obtain ⟨⟨cls,dd,data,sl⟩,ho,hc,n,hd⟩:=id p1
    obtain ⟨⟨cls2,dd2,data2,sl2⟩,ho2,hc2,n2,hd2⟩:=id p2
    simp only at hc hd hc2 hd2
    subst hc hd hc2 hd2
    exact concat_meets ⟨_,ho,rfl⟩ ⟨_,ho2,rfl⟩ noFill_tuple_add seq_tuple_add PySem.F.slot_tuple_add PySem.F.entry_tuple_add (PySem.F.args_tuple_add_2 _ _)
      (tuple_addW0 a b its.toArray its2.toArray n n2 dd dd2 sl sl2 (by simp [hi])) ⟨ho,ho2,⟨.ref b,H,I,rfl,q0 hx⟩⟩
  · refine HT.cat_tup p1 p2 (fun z=>hx (r1.nil_iff.mp z)) (fun z=>⟨.ref a,H,I,rfl,q1 hx (r2.nil_iff.mp z)⟩) (fun z=>?_) (by rw [← r1.length,← r2.length]; exact hz)
    refine ⟨.ref s.heap.objs.size,_,I.laid (t':=s.toks) (o:=.tup (xs++ys)) (fun b ob q=>Heap.get?_push_of_some _ q) (Nat.le_refl _) ?_,rfl,q2 _ (I.hok.fresh (Nat.le_refl _))⟩
    exact ⟨by rw [List.length_append]; exact hz,_,r1.append r2,IsTup.new _ _⟩
noncomputable def pAdd (x y:PyData):Option PyData:=match x,y with
  | .int i,.int j=>some (.int (i+j))
  | .str i,.str j=>if i.length+j.length≤sizeLine then some (.str (i++j)) else none
  | .list i,.list j=>if i.length+j.length≤sizeLine then some (.list (i++j)) else none
  | .tuple i,.tuple j=>if i.length+j.length≤sizeLine then some (.tuple (i++j)) else none
  | _,_=>none
theorem op_addA:OpR X (binaryOp .Add) (fun x y H Q=>(∃ i j,x=.int i∧y=.int j∧Q (.int (i+j)) H)∨(∃ i j,x=.str i∧y=.str j∧i.length+j.length≤sizeLine∧Q (.str (i++j)) H)∨rCatS X.K x y H Q∨rCatTT X.K x y H Q) :=
  op_add.or (op_add_str.or (op_catS.or op_catTT))
theorem ad_add {K:PySem.W.Frag}:Ad2 K (fun x y H Q=>(∃ i j,x=.int i∧y=.int j∧Q (.int (i+j)) H)∨(∃ i j,x=.str i∧y=.str j∧i.length+j.length≤sizeLine∧Q (.str (i++j)) H)∨rCatS K x y H Q∨rCatTT K x y H Q) pAdd:=fun F H x y dx dy d Q sm rx ry e q=>by
  unfold pAdd at e
  split at e
  · cases e
    exact .inl ⟨_,_,rx.int,ry.int,q _ F H (.refl sm) rel_int⟩
  · split at e
    · rename_i hz
      cases e
      exact .inr (.inl ⟨_,_,rx.str,ry.str,hz,q _ F H (.refl sm) rel_str⟩)
    · cases e
  · split at e
    · rename_i hz
      cases e
      obtain ⟨a,xs,rfl,h1,r1⟩:=rx.lst
      obtain ⟨b,ys,rfl,h2,r2⟩:=ry.lst
      refine .inr (.inr (.inl ⟨a,b,xs,ys,rfl,rfl,sm.seq h1,sm.seq h2,by rw [r1.length,r2.length]; exact hz,fun p hp=>?_⟩))
      have g:=Gr.one (o:=.lst (xs++ys)) sm hp
      exact q _ _ _ g (rel_lst (SqL.of upd_same) ((r1.append r2).mono g.ff))
    · cases e
  · rename_i i j
    split at e
    · rename_i hz
      cases e
      obtain ⟨a,xs,rfl,h1,r1⟩:=rx.tup
      obtain ⟨b,ys,rfl,h2,r2⟩:=ry.tup
      refine .inr (.inr (.inr ⟨a,b,xs,ys,rfl,rfl,same_seqT sm h1,same_seqT sm h2,by rw [r1.length,r2.length]; exact hz,fun z=>?_,fun z1 z2=>?_,fun p hp=>?_⟩))
      · subst z
        have:=List.eq_nil_of_length_eq_zero r1.length.symm
        subst this
        exact q _ F H (.refl sm) (rel_tup h2 (by simpa using r2))
      · subst z2
        have:=List.eq_nil_of_length_eq_zero r2.length.symm
        subst this
        exact q _ F H (.refl sm) (rel_tup h1 (by simpa using r1))
      · have g:=Gr.one (o:=.tup (xs++ys)) sm hp
        exact q _ _ _ g (rel_tup (SqT.of upd_same) ((r1.append r2).mono g.ff))
    · cases e
  · cases e
section
variable {B:Bd} {a b e:Expr} {es:List Expr} {f g:En→Option PyData} {fs:En→Option (List PyData)} {pos pp:Pos}
theorem E.add (ha:E X B a f) (hb:E X B b g):E X B (.BinOp a .Add b pos) (l2 pAdd f g):=E.op op_addA ad_add ha hb
noncomputable def pNeg:PyData→Option PyData
  | .int i=>some (.int (-i))
  | _=>none
theorem E.neg (ha:E X B a f):E X B (.UnaryOp .USub a pos) (l1 pNeg f):=PE.imp (pe_un un_neg ha) fun σ H Q ⟨F,η,d,sr,hd,q⟩=>by
  obtain ⟨x,hx,hd⟩:=bind_some hd
  cases x <;> simp only [pNeg,reduceCtorEq,Option.some.injEq] at hd
  subst hd
  exact ⟨F,η,_,sr,hx,fun v F1 H1 g1 rv=>⟨_,rv.int,q _ F1 H1 g1 rel_int⟩⟩
noncomputable def pIx (x y:PyData):Option PyData:=match x,y with
  | .list ds,.int i=>atI ds i
  | .tuple ds,.int i=>atI ds i
  | .str z,.int i=>if z.length≤sizeLine then (atI z.cps.toList i).bind fun c=>some (.str ⟨#[c]⟩) else none
  | _,_=>none
theorem atI_rel {K:PySem.W.Frag} {F:Hp} {ds:List PyData} {xs:List V} {i:Int} {d:PyData} (r:RelL K F ds xs) (e:atI ds i=some d):∃ x,atI xs i=some x∧Rel K F d x:=by
  unfold atI at e ⊢
  rw [r.length]
  obtain ⟨j,h1,h2⟩:=bind_some e
  rw [h1]
  obtain ⟨x,h3,h4⟩:=r.get h2
  exact ⟨x,h3,h4⟩
theorem ad_ix {K:PySem.W.Frag}:Ad2 K (rIx K) pIx:=fun F H x y dx dy d Q sm rx ry e q=>by
  unfold pIx at e
  split at e
  · obtain ⟨a,xs,rfl,h1,r1⟩:=rx.lst
    obtain ⟨v,h2,h3⟩:=atI_rel r1 e
    exact .inl ⟨a,xs,_,v,rfl,ry.int,sm.seq h1,h2,q _ F H (.refl sm) h3⟩
  · obtain ⟨a,xs,rfl,h1,r1⟩:=rx.tup
    obtain ⟨v,h2,h3⟩:=atI_rel r1 e
    exact .inr (.inl ⟨a,xs,_,v,rfl,ry.int,same_seqT sm h1,h2,q _ F H (.refl sm) h3⟩)
  · split at e
    · rename_i hz
      obtain ⟨c,h1,h2⟩:=bind_some e
      cases h2
      exact .inr (.inr ⟨_,_,c,rx.str,ry.int,hz,h1,q _ F H (.refl sm) rel_str⟩)
    · cases e
  · cases e
theorem E.at (ha:E X B a f) (hb:E X B b g) (hs:PlainIx b:=by intro _ _; rfl):E X B (.Subscript a b pos) (l2 pIx f g):=E.ix ix_seq ad_ix ha hb hs
noncomputable def flatD:PyData→Bool
  | .none=>true
  | .bool _=>true
  | .int _=>true
  | .str _=>true
  | _=>false
theorem flat_of {K:PySem.W.Frag} {F:Hp} {d:PyData} {v:V} (h:flatD d=true) (r:Rel K F d v):flatV v=true:=by
  cases d <;> simp [flatD] at h
  · rw [r.non]; rfl
  · rw [r.bl]; rfl
  · rw [r.int]; rfl
  · rw [r.str]; rfl
theorem flats_of {K:PySem.W.Frag} {F:Hp}:∀ {ds:List PyData} {vs:List V},ds.all flatD=true→RelL K F ds vs→vs.all flatV=true
  | [],vs,_,r=>by rw [r.nil_of]; rfl
  | d::ds,vs,h,r=>by
    obtain ⟨x,xs,rfl,r1,r2⟩:=r.cons_of
    rw [List.all_cons,Bool.and_eq_true] at h ⊢
    exact ⟨flat_of h.1 r1,flats_of h.2 r2⟩
theorem eqV_of {K:PySem.W.Frag} {F:Hp} {d e:PyData} {x y:V} (hd:flatD d=true) (he:flatD e=true) (r:Rel K F d x) (s:Rel K F e y):eqV x y=PyData.eqv d e:=by
  cases d <;> simp [flatD] at hd <;> cases e <;> simp [flatD] at he
  all_goals (first | rw [r.non] | rw [r.bl] | rw [r.int] | rw [r.str]) <;> (first | rw [s.non] | rw [s.bl] | rw [s.int] | rw [s.str])
  all_goals first | rfl | simp [eqV,PyData.eqv]
theorem inV_of {K:PySem.W.Frag} {F:Hp} {d:PyData} {x:V} (hd:flatD d=true) (r:Rel K F d x):∀ {ds:List PyData} {vs:List V},ds.all flatD=true→RelL K F ds vs→inV x vs=ds.any fun y=>PyData.eqv y d
  | [],vs,_,rs=>by rw [rs.nil_of]; rfl
  | e::ds,vs,h,rs=>by
    obtain ⟨y,xs,rfl,r1,r2⟩:=rs.cons_of
    rw [List.all_cons,Bool.and_eq_true] at h
    have ih:=inV_of hd r h.2 r2
    unfold inV at ih ⊢
    rw [List.any_cons,List.any_cons,ih,eqV_of h.1 hd r1 r]
noncomputable def pIn (neg:Bool) (x y:PyData):Option PyData:=match y with
  | .list ds=>if flatD x=true∧ds.all flatD=true then some (.bool (if neg then !(ds.any fun y=>PyData.eqv y x) else ds.any fun y=>PyData.eqv y x)) else none
  | .tuple ds=>if flatD x=true∧ds.all flatD=true then some (.bool (if neg then !(ds.any fun y=>PyData.eqv y x) else ds.any fun y=>PyData.eqv y x)) else none
  | .str j=>match x with
    | .str i=>some (.bool (if neg then !(!(Builtin.Str.occurrences j i 0 j.length 1).isEmpty) else !(Builtin.Str.occurrences j i 0 j.length 1).isEmpty))
    | _=>none
  | _=>none
noncomputable def rInA (K:PySem.W.Frag) (neg:Bool):R2:=fun x y H Q=>rIn K neg x y H Q∨(∃ i j,x=.str i∧y=.str j∧Q (.bl (if neg then !(!(Builtin.Str.occurrences j i 0 j.length 1).isEmpty) else !(Builtin.Str.occurrences j i 0 j.length 1).isEmpty)) H)
theorem op_inA:OpR X (compareOp .In) (rInA X.K false):=op_in_seq.or op_in_str
theorem ad_in {K:PySem.W.Frag} {neg:Bool}:Ad2 K (rInA K neg) (pIn neg):=fun F H x y dx dy d Q sm rx ry e q=>by
  unfold pIn at e
  split at e
  · split at e
    · rename_i hf
      cases e
      obtain ⟨b,ys,rfl,h2,r2⟩:=ry.lst
      refine .inl ⟨b,ys,rfl,.inl (sm.seq h2),flat_of hf.1 rx,flats_of hf.2 r2,?_⟩
      rw [inV_of hf.1 rx hf.2 r2]
      exact q _ F H (.refl sm) rel_bl
    · cases e
  · split at e
    · rename_i hf
      cases e
      obtain ⟨b,ys,rfl,h2,r2⟩:=ry.tup
      refine .inl ⟨b,ys,rfl,.inr (same_seqT sm h2),flat_of hf.1 rx,flats_of hf.2 r2,?_⟩
      rw [inV_of hf.1 rx hf.2 r2]
      exact q _ F H (.refl sm) rel_bl
    · cases e
  · split at e
    · cases e
      exact .inr ⟨_,_,rx.str,ry.str,q _ F H (.refl sm) rel_bl⟩
    · cases e
  · cases e
theorem T.in (ha:E X B a f) (hb:E X B b g) (hm:behindInMarks .In b=false:=by with_unfolding_all rfl):T X B (.Compare a [.In] [b] pos) (bT (l2 (pIn false) f g)):=T.cmp op_inA ad_in hm ha hb
theorem E.in (ha:E X B a f) (hb:E X B b g) (hm:behindInMarks .In b=false:=by with_unfolding_all rfl):E X B (.Compare a [.In] [b] pos) (l2 (pIn false) f g):=E.cmp op_inA ad_in hm ha hb
noncomputable def AdA (K:PySem.W.Frag) (r:List V→Hp→VK→Prop) (o:List PyData→Option PyData):Prop :=
  ∀ F H xs ds d Q,Same F H→RelL K F ds xs→o ds=some d→(∀ v F' H',Gr F H F' H'→Rel K F' d v→Q v H')→r xs H Q
theorem tCB_of {K:PySem.W.Frag} {r:List V→Hp→VK→Prop} {o:List PyData→Option PyData} (ad:AdA K r o):∀ σ H Q,tE K B (lA o fs) σ H Q→tCB r (tA K B fs) σ H Q:=fun σ H Q ⟨F,η,d,sr,hd,q⟩=>by
  obtain ⟨ds,hx,hd⟩:=bind_some hd
  exact ⟨F,η,ds,sr,hx,fun vs F1 H1 g1 rs=>ad F1 H1 vs ds d Q g1.fh rs hd fun v F2 H2 g2 rv=>q v F2 H2 (g1.trans g2) rv⟩
theorem E.callB {x:Str} {id:String} {r:List V→Hp→VK→Prop} {o:List PyData→Option PyData} (hc:CallR X (.builtin id) r) (ad:AdA X.K r o) (hm:X.mg x=none) (hv:bootBuiltins x=some (.builtin id)) (ha:A X B (e::es) fs) (hg:Gl X x:=by rfl) (hn:x ≠ "__name__" := by decide) (hdb:(x==("__debug__" : Str))=false:=by decide)
    (he:starEach (e::es) X.env=(false,eval e X.env)::starEach es X.env:=by exact star_of rfl) (hpl:(backTo pos (starEach es X.env)).any (·.1)=false:=by exact plain_of rfl):E X B (.Call (.Name x pp) (e::es) [] pos) (lA o fs) :=
  PE.imp (pe_callB hc hg hm hv ha hn hdb he hpl) (tCB_of ad)
theorem E.callTy {x:Str} {id:String} {r:List V→Hp→VK→Prop} {o:List PyData→Option PyData} (hc:CallR X (.type id) r) (ad:AdA X.K r o) (hm:X.mg x=none) (hv:bootBuiltins x=some (.type id)) (ha:A X B (e::es) fs) (hg:Gl X x:=by rfl) (hn:x ≠ "__name__" := by decide) (hdb:(x==("__debug__" : Str))=false:=by decide)
    (he:starEach (e::es) X.env=(false,eval e X.env)::starEach es X.env:=by exact star_of rfl) (hpl:(backTo pos (starEach es X.env)).any (·.1)=false:=by exact plain_of rfl):E X B (.Call (.Name x pp) (e::es) [] pos) (lA o fs) :=
  PE.imp (pe_callTy hc hg hm hv ha hn hdb he hpl) (tCB_of ad)
noncomputable def pLen (ds:List PyData):Option PyData:=match ds with
  | [.list xs]=>some (.int xs.length)
  | [.tuple xs]=>some (.int xs.length)
  | [.str z]=>if z.length≤sizeLine then some (.int z.length) else none
  | _=>none
theorem ad_len {K:PySem.W.Frag}:AdA K (fun xs H Q=>(∃ p ys,xs=[.ref p]∧(SqL K H p ys∨SqT K H p ys)∧Q (.int ys.length) H)∨(∃ z,xs=[.str z]∧z.length≤sizeLine∧Q (.int z.length) H)) pLen:=fun F H xs ds d Q sm rs e q=>by
  unfold pLen at e
  split at e
  · cases e
    obtain ⟨x,r,rfl,rx,rr⟩:=rs.cons_of
    obtain rfl:=rr.nil_of
    obtain ⟨a,ys,rfl,h1,r1⟩:=rx.lst
    exact .inl ⟨a,ys,rfl,.inl (sm.seq h1),by rw [r1.length]; exact q _ F H (.refl sm) rel_int⟩
  · cases e
    obtain ⟨x,r,rfl,rx,rr⟩:=rs.cons_of
    obtain rfl:=rr.nil_of
    obtain ⟨a,ys,rfl,h1,r1⟩:=rx.tup
    exact .inl ⟨a,ys,rfl,.inr (same_seqT sm h1),by rw [r1.length]; exact q _ F H (.refl sm) rel_int⟩
  · split at e
    · rename_i hz
      cases e
      obtain ⟨x,r,rfl,rx,rr⟩:=rs.cons_of
      obtain rfl:=rr.nil_of
      exact .inr ⟨_,by rw [rx.str],hz,q _ F H (.refl sm) rel_int⟩
    · cases e
  · cases e
theorem E.len (hm:X.mg "len" = none) (ha:A X B [e] fs) (hg:Gl X "len" := by rfl) (he:starEach [e] X.env=(false,eval e X.env)::starEach [] X.env:=by exact star_of rfl) (hpl:(backTo pos (starEach [] X.env)).any (·.1)=false:=by rfl):E X B (.Call (.Name "len" pp) [e] [] pos) (lA pLen fs) :=
  E.callB (call_len_seq.or call_len_str) ad_len hm PySem.boot_len ha hg (by decide) (by decide) he hpl
noncomputable def pTup (ds:List PyData):Option PyData:=match ds with
  | [.list xs]=>some (.tuple xs)
  | [.tuple xs]=>some (.tuple xs)
  | _=>none
theorem ad_tup {K:PySem.W.Frag}:AdA K (fun xs H Q=>∃ p ys,xs=[.ref p]∧((SqL K H p ys∧∀ l,H l=none→Q (.ref l) (upd H l (.tup ys)))∨(SqT K H p ys∧Q (.ref p) H))) pTup:=fun F H xs ds d Q sm rs e q=>by
  unfold pTup at e
  split at e
  · cases e
    obtain ⟨x,r,rfl,rx,rr⟩:=rs.cons_of
    obtain rfl:=rr.nil_of
    obtain ⟨a,ys,rfl,h1,r1⟩:=rx.lst
    refine ⟨a,ys,rfl,.inl ⟨sm.seq h1,fun p hp=>?_⟩⟩
    have g:=Gr.one (o:=.tup ys) sm hp
    exact q _ _ _ g (rel_tup (SqT.of upd_same) (r1.mono g.ff))
  · cases e
    obtain ⟨x,r,rfl,rx,rr⟩:=rs.cons_of
    obtain rfl:=rr.nil_of
    obtain ⟨a,ys,rfl,h1,r1⟩:=rx.tup
    exact ⟨a,ys,rfl,.inr ⟨same_seqT sm h1,q _ F H (.refl sm) (rel_tup h1 r1)⟩⟩
  · cases e
theorem E.tuple (hm:X.mg "tuple" = none) (ha:A X B [e] fs) (hg:Gl X "tuple" := by rfl) (he:starEach [e] X.env=(false,eval e X.env)::starEach [] X.env:=by exact star_of rfl) (hpl:(backTo pos (starEach [] X.env)).any (·.1)=false:=by rfl):E X B (.Call (.Name "tuple" pp) [e] [] pos) (lA pTup fs) :=
  E.callTy call_tuple_of ad_tup hm (by decide +kernel) ha hg (by decide) (by decide) he hpl
end
end
noncomputable def cutL {α:Type} (xs:List α) (lo hi:Option Int):List α:=(xs.drop (HT.sIx xs.length 0 lo)).take (HT.sIx xs.length xs.length hi - HT.sIx xs.length 0 lo)
section
variable {X:Cx}
theorem RelL.cut {K:PySem.W.Frag} {F:Hp} {ds:List PyData} {xs:List V} (r:RelL K F ds xs) (lo hi:Option Int):RelL K F (cutL ds lo hi) (cutV xs lo hi):=by
  unfold cutL cutV
  rw [r.length]
  exact (r.drop _).take _
theorem sl_tupW:SlR X (fun x lo hi H Q=>∃ a xs,x=.ref a∧SqT X.K H a xs∧(HT.sIx xs.length 0 lo=0∧HT.sIx xs.length xs.length hi=xs.length)∧Q (.ref a) H):=by
  intro pins s σ H x v vl vu lo hi sl Q I rx hs pl pu h
  obtain ⟨a,xs,rfl,hx,hw,q⟩:=h
  cases rx
  obtain ⟨its,r,ht,hz⟩:=I.tuple hx
  have hlen:its.toArray.size=xs.length:=by rw [List.size_toArray]; exact r.length.symm
  refine ⟨"tuple", _,PyProof.Rows.slot_tuple_getitem.lookup,ht.typeIs,?_⟩
  obtain ⟨os,hos,hcs,hds⟩:=id hs
  have hTs:s.TypeIs (.ref sl) "slice" := ⟨os,hos,hcs⟩
  unfold getItem
  try with_reducible refine wpAny_holding ?_
  first | refine wpAny_bind (wpAny_pure ?_) | skip
  refine wpAny_bind (wpAny_sequenceKey ht.typeIs (by decide) ?_)
  refine wpAny_bind (wpAny_callSpecial?_slot (name:=Str.ofString "__getitem__") ht.typeIs PyProof.Rows.slot_tuple_getitem
    (wpAny_call_entry PyProof.Rows.slot_tuple_getitem ht.typeIs entry_tuple_getitem ?_ (args_tuple_getitem _ _)))
  show wpAny _ _ (Builtin.Tuple.tupleItemsOf (.ref a) >>= _) _ _ s
  refine wpAny_bind (tupleItemsOf_ ht ?_)
  refine wpAny_bind (wpAny_typeOf hTs ?_)
  rw [if_pos (by decide)]
  refine wpAny_bind (HT.sliceApplied_gen hs pl pu ?_)
  rw [hlen]
  have hyes:((((HT.sIx xs.length 0 lo:Nat):Int)==0&&(1:Int)==1&&(HT.sIx xs.length xs.length hi - HT.sIx xs.length 0 lo)==xs.length)=true):=by
    rw [hw.1,hw.2]; simp
  show wpAny _ _ (if (((HT.sIx xs.length 0 lo:Nat):Int)==0&&(1:Int)==1&&(HT.sIx xs.length xs.length hi - HT.sIx xs.length 0 lo)==xs.length)=true then _ else _) _ _ s
  rw [if_pos hyes]
  have fin:EP X pins σ Q (.ref a) s:=⟨.ref a,H,I,rfl,q⟩
  refine wpAny_bind ?_
  unfold Builtin.Tuple.tupleIsExact
  refine wpAny_bind (wpAny_typeOf ht.typeIs (wpAny_pure ?_))
  rw [if_pos (by decide)]
  exact wpAny_bind (wpAny_rule (wpAny_pure ⟨_,rfl,wpAny_pure fin⟩))
noncomputable def pSl (x:PyData) (lo hi:Option Int):Option PyData:=match x with
  | .list ds=>some (.list (cutL ds lo hi))
  | .tuple ds=>some (.tuple (cutL ds lo hi))
  | _=>none
noncomputable def rSlA (K:PySem.W.Frag):V→Option Int→Option Int→Hp→VK→Prop:=fun x lo hi H Q=>rSlL K x lo hi H Q∨rSlT K x lo hi H Q∨(∃ a xs,x=.ref a∧SqT K H a xs∧(HT.sIx xs.length 0 lo=0∧HT.sIx xs.length xs.length hi=xs.length)∧Q (.ref a) H)
theorem sl_A:SlR X (rSlA X.K):=sl_list.or (sl_tup.or sl_tupW)
theorem ad_sl {K:PySem.W.Frag} {F H:Hp} {x:V} {dx d:PyData} {lo hi:Option Int} {Q:VK} (sm:Same F H) (rx:Rel K F dx x) (e:pSl dx lo hi=some d) (q:∀ v F' H',Gr F H F' H'→Rel K F' d v→Q v H'):rSlA K x lo hi H Q:=by
  unfold pSl at e
  split at e
  · cases e
    obtain ⟨a,xs,rfl,h1,r1⟩:=rx.lst
    refine .inl ⟨a,xs,rfl,sm.seq h1,fun p hp=>?_⟩
    have g:=Gr.one (o:=.lst (cutV xs lo hi)) sm hp
    exact q _ _ _ g (rel_lst (SqL.of upd_same) ((r1.cut lo hi).mono g.ff))
  · cases e
    obtain ⟨a,xs,rfl,h1,r1⟩:=rx.tup
    by_cases hw:HT.sIx xs.length 0 lo=0∧HT.sIx xs.length xs.length hi=xs.length
    · refine .inr (.inr ⟨a,xs,rfl,same_seqT sm h1,hw,q _ F H (.refl sm) (rel_tup h1 ?_)⟩)
      have:=r1.cut lo hi
      have e2:cutV xs lo hi=xs:=by
        unfold cutV
        rw [hw.1,hw.2]
        simp
      rw [e2] at this
      exact this
    · refine .inr (.inl ⟨a,xs,rfl,same_seqT sm h1,hw,fun p hp=>?_⟩)
      have g:=Gr.one (o:=.tup (cutV xs lo hi)) sm hp
      exact q _ _ _ g (rel_tup (SqT.of upd_same) ((r1.cut lo hi).mono g.ff))
  · cases e
section
variable {B:Bd} {a b e:Expr} {es:List Expr} {f g:En→Option PyData} {fs:En→Option (List PyData)} {pos pp p2:Pos} {lo hi:Option Expr} {fl fh:En→Option (Option Int)}
noncomputable def tP (K:PySem.W.Frag) (B:Bd) (f:En→Option (Option Int)):TO:=fun σ H Q=>∃ F η o,SR K B F H σ η∧f η=some o∧∀ F' H',Gr F H F' H'→Q o H'
noncomputable def P (X:Cx) (B:Bd) (e:Option Expr) (f:En→Option (Option Int)):Prop:=PO X e (tP X.K B f)
noncomputable def pN:En→Option (Option Int):=fun _=>some none
noncomputable def asI:PyData→Option Int
  | .int i=>some i
  | _=>none
theorem asI_some {d:PyData} {i:Int} (h:asI d=some i):d=.int i:=by
  cases d <;> simp [asI] at h
  rw [h]
noncomputable def pS (f:En→Option PyData):En→Option (Option Int):=fun η=>(f η).bind fun d=>(asI d).bind fun i=>some (some i)
theorem PO.imp {X:Cx} {e:Option Expr} {t t':TO} (h:PO X e t) (i:∀ σ H Q,t' σ H Q→t σ H Q):PO X e t':=fun pins s σ H Q I q=>h pins s σ H Q I (i σ H Q q)
theorem P.none:P X B none pN:=PO.imp po_none fun σ H Q ⟨F,η,d,sr,hd,q⟩=>by
  cases hd
  exact q F H (.refl sr.same)
theorem P.some (h:E X B e f):P X B (some e) (pS f):=PO.imp (po_some h) fun σ H Q ⟨F,η,d,sr,hd,q⟩=>by
  obtain ⟨x,hx,hd⟩:=bind_some hd
  obtain ⟨i,hi,hd⟩:=bind_some hd
  cases hd
  obtain rfl:=asI_some hi
  exact ⟨F,η,_,sr,hx,fun v F1 H1 g1 rv=>⟨i,rv.int,q F1 H1 g1⟩⟩
noncomputable def eSl (f:En→Option PyData) (fl fh:En→Option (Option Int)):En→Option PyData:=fun η=>(f η).bind fun x=>(fl η).bind fun l=>(fh η).bind fun h=>pSl x l h
theorem E.sl (he:E X B e f) (hl:P X B lo fl) (hu:P X B hi fh):E X B (.Subscript e (.Slice lo hi none p2) pos) (eSl f fl fh):=PE.imp (pe_slice sl_A he hl hu) fun σ H Q ⟨F,η,d,sr,hd,q⟩=>by
  obtain ⟨x,hx,hd⟩:=bind_some hd
  obtain ⟨l,hl,hd⟩:=bind_some hd
  obtain ⟨h,hh,hd⟩:=bind_some hd
  refine ⟨F,η,x,sr,hx,fun v F1 H1 g1 rv=>⟨F1,η,l,sr.grow g1,hl,fun F2 H2 g2=>⟨F2,η,h,(sr.grow g1).grow g2,hh,fun F3 H3 g3=>?_⟩⟩⟩
  exact ad_sl g3.fh (rv.mono (g2.ff.trans g3.ff)) hd fun w F4 H4 g4 rw'=>q w F4 H4 (((g1.trans g2).trans g3).trans g4) rw'
noncomputable def rSum (K:PySem.W.Frag):List V→Hp→VK→Prop:=fun xs H Q=>∃ (p:Addr) (ns:List Int),xs=[.ref p]∧SqL K H p (ns.map V.int)∧Q (.int ns.sum) H
theorem preSum_sum:∀ (ns:List Int) (n:Nat),n≤ns.length→preSum (fun i=>ns.getD i 0) n=(ns.take n).sum
  | ns,0,_=>by simp [preSum]
  | ns,n+1,h=>by
    have hn:n < ns.length:=by omega
    rw [preSum,preSum_sum ns n (by omega),List.take_succ_eq_append_getElem hn,List.sum_append]
    show _+ns.getD n 0=_
    rw [List.getD_eq_getElem?_getD,List.getElem?_eq_getElem hn]
    simp
theorem call_sum (hc:X.calm=true):CallR X (.builtin "sum") (rSum X.K):=by
  intro pins s σ H xs us Q I r h
  obtain ⟨p,ns,rfl,hq,q⟩:=h
  obtain ⟨u,rfl,rx⟩:=vals1 r
  cases rx
  obtain ⟨its,rv,pl,hz⟩:=I.list hq
  have iv:IntsAre its ns:=intsAre_of rv
  have hlt:p < s.heap.objs.size:=by
    obtain ⟨o,ho,_⟩:=pl.isList
    exact Heap.lt_size ho
  refine call_sum_walkG (wpAny_pyIter_list pl.isList ?_)
  refine ⟨s.heap.objs.size,_,_,_,_,_,fun i=>ns.getD i 0,rfl,Walks.list (A:=X.A.in1) (I.ok.hd hc) s.heap.objs.size p (Nat.ne_of_lt hlt) its.toArray,⟨⟨_,Heap.get?_push_size _ rfl,rfl,rfl⟩,pl.isList.at fun o e=>Heap.get?_push_of_some _ e⟩,?_,?_,fun h' tk t' hk=>?_⟩
  · intro b hb
    show b < (s.heap.push _).objs.size
    rw [Heap.size_push]
    rcases List.mem_cons.mp hb with e | hb
    · rw [e]; exact Nat.lt_succ_self _
    · rw [List.mem_singleton.mp hb]; exact Nat.lt_succ_of_lt hlt
  · intro i v hv
    have hv':its[i]?=some v:=by simpa using hv
    obtain ⟨hi,e⟩:=List.getElem?_eq_some_iff.mp hv'
    have hl:=rv.length
    rw [List.length_map] at hl
    have hn:ns[i]?=some ns[i]:=List.getElem?_eq_getElem (by omega)
    obtain ⟨u,hu,ru⟩:=rv.get (i:=i) (x:=.int ns[i]) (by rw [List.getElem?_map,hn]; rfl)
    rw [hv'] at hu
    cases hu
    obtain ⟨t,rfl⟩:=ru
    exact ⟨t,by show Value.int ns[i] t=Value.int (ns.getD i 0) t; rw [List.getD_eq_getElem?_getD,hn]; rfl⟩
  · have hl:=rv.length
    rw [List.length_map] at hl
    have e:preSum (fun i=>ns.getD i 0) its.toArray.size=ns.sum:=by
      rw [List.size_toArray,preSum_sum ns _ (by omega),List.take_of_length_le (by omega)]
    rw [e]
    refine ⟨.int ns.sum,H,I.kept (t':=tk) fun b o eb=>hk b o ?_ (Heap.get?_push_of_some _ eb),⟨t',rfl⟩,q⟩
    intro hb
    exact absurd (Heap.lt_size eb) (by rw [List.mem_singleton.mp hb]; exact Nat.lt_irrefl _)
noncomputable def asIs:List PyData→Option (List Int)
  | []=>some []
  | .int i::r=>(asIs r).bind fun ns=>some (i::ns)
  | _::_=>none
theorem asIs_some:∀ {ds:List PyData} {ns:List Int},asIs ds=some ns→ds=ns.map PyData.int
  | [],ns,h=>by cases h; rfl
  | .int i::r,ns,h=>by
    obtain ⟨ms,h1,h2⟩:=bind_some h
    cases h2
    rw [asIs_some h1]; rfl
  | .none::_,_,h=>by cases h
  | .bool _::_,_,h=>by cases h
  | .str _::_,_,h=>by cases h
  | .list _::_,_,h=>by cases h
  | .tuple _::_,_,h=>by cases h
  | .dict _::_,_,h=>by cases h
theorem asIs_ints (ns:List Int):asIs (ns.map PyData.int)=some ns:=by
  induction ns with
  | nil=>rfl
  | cons n r ih=>rw [List.map_cons]; unfold asIs; rw [ih]; rfl
theorem RelL.ints_of {K:PySem.W.Frag} {F:Hp}:∀ {ns:List Int} {xs:List V},RelL K F (ns.map PyData.int) xs→xs=ns.map V.int
  | [],xs,h=>h.nil_of
  | n::r,xs,h=>by
    obtain ⟨x,ys,rfl,h1,h2⟩:=h.cons_of
    rw [h1.int,RelL.ints_of h2]; rfl
noncomputable def pSum (ds:List PyData):Option PyData:=match ds with
  | [.list xs]=>(asIs xs).bind fun ns=>some (.int ns.sum)
  | _=>none
theorem ad_sum {K:PySem.W.Frag}:AdA K (rSum K) pSum:=fun F H xs ds d Q sm rs e q=>by
  unfold pSum at e
  split at e
  · obtain ⟨ns,h1,h2⟩:=bind_some e
    cases h2
    have:=asIs_some h1
    subst this
    obtain ⟨x,r,rfl,rx,rr⟩:=rs.cons_of
    obtain rfl:=rr.nil_of
    obtain ⟨a,ys,rfl,hq,r1⟩:=rx.lst
    have:=r1.ints_of
    subst this
    exact ⟨a,ns,rfl,sm.seq hq,q _ F H (.refl sm) rel_int⟩
  · cases e
theorem E.sum (hc:X.calm=true) (hm:X.mg "sum" = none) (ha:A X B [e] fs) (hg:Gl X "sum" := by rfl) (he:starEach [e] X.env=(false,eval e X.env)::starEach [] X.env:=by exact star_of rfl) (hpl:(backTo pos (starEach [] X.env)).any (·.1)=false:=by rfl):E X B (.Call (.Name "sum" pp) [e] [] pos) (lA pSum fs) :=
  E.callB (call_sum hc) ad_sum hm (by decide +kernel) ha hg (by decide) (by decide) he hpl
theorem list_extendW (l b:Addr) (items items2:Array Value) (n n2:Nat) (dd2:Option Addr) (sl2:Array (Option Value)) (hc0:¬(!items.isEmpty&&Builtin.List.listTooLong (items.size+items2.size))=true) (hc1:items.size≤sizeLine) (hs2:items.size+items2.size≤sizeLine+1) :
    Meets (Builtin.«list.extend» ⟨[.ref l,.ref b],[]⟩) (fun _ R s=>s.heap.get? l=some { cls:=.type "list", dict:=none,data:=.seq items n,slots:=#[] }∧s.heap.get? b=some { cls:=.type "list", dict:=dd2,data:=.seq items2 n2,slots:=sl2 }∧R (.ok (.ret Value.none)) { s with heap:=s.heap.update l (Obj.mapSeq fun x=>x++items2),toks:=s.toks }) :=
  .of_wp fun prog w A R s h=>by
    obtain ⟨hp,g,d,tk,os⟩:=s; obtain ⟨hl,hb,h⟩:=h; have f1:=AutoSeq1.idx_int; have f2:=AutoSeq1.sub_tuple_tuple; have f3:=AutoSeq1.sub_list_list; have f4:=AutoSeq1.sub_tuple_list; have f5:=AutoSeq1.sub_list_tuple
    have hz':(items++items2).size≤sizeLine+1:=by rw [Array.size_append]; exact hs2
    wp_walk using (wpAny_updateSeq hl rfl (hz:=hc1) (_hz':=hz')),AutoSeq1.wpAny_loadPart' hl,AutoSeq1.wpAny_loadPart' hb; exact ⟨_,rfl,h⟩
noncomputable def rExtS (K:PySem.W.Frag):V→List V→Hp→VK→Prop:=fun x vs H Q=>∃ l b xs zs,x=.ref l∧vs=[.ref b]∧H l=some (.lst xs)∧SqL K H b zs∧xs.length+zs.length≤sizeLine∧Q .non (upd H l (.lst (xs++zs)))
theorem mt_extS:MtM X "list.extend" (rExtS X.K):=by
  intro pins s σ H x vs v us Q I rx rv h
  obtain ⟨l,b,xs,zs,rfl,rfl,hH,hB,hz,q⟩:=h
  cases rx
  obtain ⟨u,rfl,ru⟩:=rv.one
  cases ru
  obtain ⟨z,its,n,r,hl,e⟩:=I.lstM hH
  obtain ⟨its2,r2,⟨⟨c2,d2,t2,sl2⟩,n2,e2,ec2,ed2,es2⟩,z2⟩:=I.list hB
  simp only at ec2 ed2 es2
  subst ec2 ed2 es2
  have hl2:=r2.length
  have hsz:its.toArray.size+its2.toArray.size≤sizeLine:=by rw [List.size_toArray,List.size_toArray]; omega
  have hlong:¬ (!its.toArray.isEmpty&&Builtin.List.listTooLong (its.toArray.size+its2.toArray.size))=true:=by
    rw [notLongL hsz,Bool.and_false]
    exact Bool.false_ne_true
  refine call_meets F.slot_list_extend ⟨_,e,rfl⟩ F.entry_list_extend (F.args_list_extend_2 _ _)
    (list_extendW l b its.toArray its2.toArray n n2 none sl2 hlong (by rw [List.size_toArray]; omega) (by omega)) ⟨e,e2,?_⟩
  refine ⟨.non,_,I.lset (its':=its++its2) hH e (by simp) (r.append r2) ?_,rfl,q⟩
  rw [List.length_append]
  omega
variable {apos cpos:Pos}
theorem S.ext (i:Nat) {x:Str} {npos:Pos} (he:E X B e f) (hN:X.N[i]?=some x:=by rfl) (hv:Vis X.env.scope x:=by first | exact Or.inl rfl | exact Or.inr (Or.inl rfl) | exact Or.inr (Or.inr rfl)) (hd:(x==("__debug__" : Str))=false:=by decide) (hcd:(x==("__classdict__" : Str))=false:=by decide)
    (hbase:attributeBase (.Name x npos) "extend" X.env (eval (.Name x npos) X.env)=eval (.Name x npos) X.env:=by rfl)
    (hfew:((backTo cpos (starEach [e] X.env)).all (fun x=>!x.1)&&(backToKw cpos (keywordEach [] X.env)).all (fun x=>x.1.isSome)
      && decide ([e].length+([]:List Keyword).length+(if ([]:List Keyword).isEmpty then 0 else 1) < 30))=true:=by rfl)
    (hline:(apos.endLine==cpos.line)=true:=by rfl) (hs:starEach [e] X.env=(false,eval e X.env)::starEach [] X.env:=by exact star_of rfl) (hplain:(backTo cpos (starEach [] X.env)).any (·.1)=false:=by rfl)
    (hsw:swapsWith (.Call (.Attribute (.Name x npos) "extend" apos) [e] [] cpos) none pos.line X.env=pure false:=by rfl) :
    S X B (.Expr (.Call (.Attribute (.Name x npos) "extend" apos) [e] [] cpos) pos) (sExt i (lI asL f)) :=
  PS.imp (ps_expr (pe_bm PySem.F.plainAttrs_list PySem.F.slot_list_extend PySem.F.type_list_extend mt_extS (pe_var hN hv hd hcd) (A.cons he A.nil hs) hbase hfew hline hs hplain) hsw) fun D σ H ⟨F,η,o,sr,hd,q⟩=>by
    obtain ⟨es,h1,hd⟩:=bind_some hd
    split at hd
    · rename_i ds ed
      split at hd
      · rename_i hz
        cases hd
        obtain ⟨dl,h2,h3⟩:=bind_some h1
        cases dl <;> simp only [asL,Option.some.injEq,reduceCtorEq] at h3
        subst h3
        obtain ⟨p,xs,e1,e2,e3,e4,e5⟩:=sr.en.own i ds ed
        refine ⟨_,e1,.inl ⟨rfl,xs,SqL.of e4⟩,F,η,_,sr,(by show (f η).bind _=_; rw [h2]; rfl),fun vs F1 H1 g1 rs=>?_⟩
        obtain ⟨y,r,rfl,ry,rr⟩:=rs.cons_of
        obtain rfl:=rr.nil_of
        obtain ⟨b,zs,rfl,hq,r1⟩:=ry.lst
        have sr1:=sr.grow g1
        obtain ⟨p',xs',q1,q2,q3,q4,q5⟩:=sr1.en.own i ds ed
        rw [e1] at q1
        have ep:p=p':=by injection (Option.some.inj (Option.some.inj q1))
        subst ep
        refine ⟨p,b,xs',zs,rfl,rfl,q4,g1.fh.seq hq,by rw [q5.length,r1.length]; exact hz,?_⟩
        refine q σ F1 _ ⟨⟨sr1.gr.ff,fun c u z=>?_,fun c u z=>?_,sr1.gr.new⟩,sr1.en.putOwn ed e1 (q5.append r1)⟩ g1.ff
        · have nb:c≠p:=ne_of_none z q3
          rw [upd_ne nb]; exact sr1.gr.hh c u z
        · have nb:c≠p:=ne_of_none z q2
          rw [upd_ne nb]; exact sr1.gr.fh c u z
      · cases hd
    · cases hd
theorem S.app (i:Nat) {x:Str} {npos:Pos} (he:E X B e f) (hN:X.N[i]?=some x:=by rfl) (hv:Vis X.env.scope x:=by first | exact Or.inl rfl | exact Or.inr (Or.inl rfl) | exact Or.inr (Or.inr rfl)) (hd:(x==("__debug__" : Str))=false:=by decide) (hcd:(x==("__classdict__" : Str))=false:=by decide)
    (hbase:attributeBase (.Name x npos) "append" X.env (eval (.Name x npos) X.env)=eval (.Name x npos) X.env:=by rfl)
    (hfew:((backTo cpos (starEach [e] X.env)).all (fun x=>!x.1)&&(backToKw cpos (keywordEach [] X.env)).all (fun x=>x.1.isSome)
      && decide ([e].length+([]:List Keyword).length+(if ([]:List Keyword).isEmpty then 0 else 1) < 30))=true:=by rfl)
    (hline:(apos.endLine==cpos.line)=true:=by rfl) (hs:starEach [e] X.env=(false,eval e X.env)::starEach [] X.env:=by exact star_of rfl) (hplain:(backTo cpos (starEach [] X.env)).any (·.1)=false:=by rfl)
    (hsw:swapsWith (.Call (.Attribute (.Name x npos) "append" apos) [e] [] cpos) none pos.line X.env=pure false:=by rfl) :
    S X B (.Expr (.Call (.Attribute (.Name x npos) "append" apos) [e] [] cpos) pos) (sApp i f) :=
  PS.imp (ps_expr (pe_bm PySem.F.plainAttrs_list PySem.F.slot_list_append PySem.F.type_list_append mt_append (pe_var hN hv hd hcd) (A.cons he A.nil hs) hbase hfew hline hs hplain) hsw) fun D σ H ⟨F,η,o,sr,hd,q⟩=>by
    obtain ⟨dv,h1,hd⟩:=bind_some hd
    split at hd
    · rename_i ds ed
      split at hd
      · rename_i hz
        cases hd
        obtain ⟨p,xs,e1,e2,e3,e4,e5⟩:=sr.en.own i ds ed
        refine ⟨_,e1,.inl ⟨rfl,xs,SqL.of e4⟩,F,η,_,sr,(by show (f η).bind _=_; rw [h1]; rfl),fun vs F1 H1 g1 rs=>?_⟩
        obtain ⟨y,r,rfl,ry,rr⟩:=rs.cons_of
        obtain rfl:=rr.nil_of
        have sr1:=sr.grow g1
        obtain ⟨p',xs',q1,q2,q3,q4,q5⟩:=sr1.en.own i ds ed
        rw [e1] at q1
        have ep:p=p':=by injection (Option.some.inj (Option.some.inj q1))
        subst ep
        refine ⟨p,xs',y,rfl,rfl,q4,by rw [q5.length]; exact hz,?_⟩
        refine q σ F1 _ ⟨⟨sr1.gr.ff,fun c u z=>?_,fun c u z=>?_,sr1.gr.new⟩,sr1.en.putOwn ed e1 (q5.append (.cons ry .nil))⟩ g1.ff
        · have nb:c≠p:=ne_of_none z q3
          rw [upd_ne nb]; exact sr1.gr.hh c u z
        · have nb:c≠p:=ne_of_none z q2
          rw [upd_ne nb]; exact sr1.gr.fh c u z
      · cases hd
    · cases hd
end
end
noncomputable def signD (x:Str):List PyData:=x.cps.toList.map fun c=>PyData.str ⟨#[c]⟩
noncomputable def enumD (ds:List PyData) (i:Nat):List PyData:=match ds with
  | []=>[]
  | d::r=>.tuple [.int i,d]::enumD r (i+1)
theorem enumD_get:∀ (ds:List PyData) (k i:Nat) (d:PyData),(enumD ds k)[i]?=some d→∃ c,ds[i]?=some c∧d=.tuple [.int ((k+i:Nat):Int),c]
  | [],k,i,d,h=>by simp [enumD] at h
  | c::r,k,0,d,h=>by
    simp [enumD] at h
    exact ⟨c,rfl,h.symm⟩
  | c::r,k,i+1,d,h=>by
    have h':(enumD r (k+1))[i]?=some d:=by simpa [enumD] using h
    obtain ⟨c',h1,h2⟩:=enumD_get r (k+1) i d h'
    exact ⟨c',by simpa using h1,by rw [h2,show k+1+i=k+(i+1) by omega]⟩
theorem enumD_len:∀ (ds:List PyData) (k:Nat),(enumD ds k).length=ds.length
  | [],_=>rfl
  | _::r,k=>by rw [enumD,List.length_cons,List.length_cons,enumD_len r]
noncomputable def Ite (x:Str):It:=⟨fun i _=>i < x.cps.size,fun i H v H'=>∃ T c,H T=none∧x.cps[i]?=some c∧v=.ref T∧H'=upd H T (.tup [.int (i:Nat),.str ⟨#[c]⟩]),fun i _=>i=x.cps.size⟩
section
theorem turn_enum {P:Program} {w:World} {K:PySem.W.Frag} {elts:List Expr} {k:Nat} {tp:Pos} {e it:Addr} {x:Str} {St:Nat→Heap→Prop} (hei:e≠it)
    (D:∀ A:Around,A.handled=none→Draws P w A it [it] x.cps.size (fun i v=>∃ c u,x.cps[i]?=some c∧v=.str ⟨#[c]⟩ u) St) (hcell:∀ i h,St i h→∃ o,h.get? it=some o∧∀ v,o.data≠.cell v) :
    Turn P w K (.Tuple elts k tp) (Ite x) [e,it] e (fun i h=>(∃ old,IsEnum h e it i old)∧St i h) where
  mem:=by simp
  obj:=fun i h st b hb=>by
    obtain ⟨⟨old,he⟩,hs⟩:=st
    rcases List.mem_cons.mp hb with rfl | hb
    · exact ⟨_,he,fun v z=>by cases z⟩
    · rw [List.mem_singleton.mp hb]
      exact hcell i h hs
  keep:=fun i h h' st kk=>by
    obtain ⟨⟨old,he⟩,hs⟩:=st
    refine ⟨⟨old,kk e (by simp) _ he⟩,?_⟩
    exact (D { frames:=none,units:=0,depth:=0,handled:=none } rfl).frame i h h' hs fun b hb o q=>kk b (by rw [List.mem_singleton.mp hb]; simp) o q
  item:=by
    intro X hP hw hK hc i pins s σ H E I hf st hg
    subst hP hw hK
    have W:=WalksT.enumerateD (prog:=X.prog) (w:=X.w) (A:=X.A) (D X.A.in1 (I.ok.hd hc)) e hei (by simpa using hei) (by simp)
    refine W.item i s _ _ hg st fun T vals h' tk Pt hT hIs Md kp=>⟨.ref T,rfl,?_⟩
    refine W.go elts k tp i T _ _ _ Md fun h'' st'' kp''=>?_
    obtain ⟨t,xv,⟨c,u,hcx,rfl⟩,rfl⟩:=Pt
    have nT:H T=none:=I.hok.fresh hT
    have aT:T∉[e,it]:=W.apart i T _ Md
    have kall:∀ b o,b∉[e,it]→s.heap.get? b=some o→h''.get? b=some o:=fun b o hb q=>kp'' b o hb (kp b o hb q)
    have hIs'':IsTup h'' T #[.int i t,.str ⟨#[c]⟩ u]:=by
      obtain ⟨o,ho,hcl,n,hd⟩:=hIs
      exact ⟨o,kp'' T o aT ho,hcl,n,hd⟩
    have ltT:∀ b o,s.heap.get? b=some o→b≠T:=fun b o q=>Nat.ne_of_lt (Nat.lt_of_lt_of_le (Heap.lt_size q) hT)
    have nfp:∀ b o,H b=some o→b∉[e,it]:=fun b o q hb=>by rw [(hf b hb).1] at q; cases q
    have J:Inv X pins σ (upd H T (.tup [.int (i:Nat),.str ⟨#[c]⟩])) { s with heap:=h'',toks:=tk }:=by
      refine I.step (h':=h'') (g':=s.gens) (d':=s.drawn) (t':=tk) (ch:=[e,it]) (fun b hb=>⟨(hf b hb).2.2.2.1,(hf b hb).2.1,(hf b hb).2.2.2.2.1,(hf b hb).2.2.2.2.2⟩)
        (fun b o _ _ hb q _=>kall b o hb q) (fun b o _ _ hb q _=>⟨o.slots,kall b o hb q⟩) (fun b o _ q n=>by rw [upd_ne (ltT b o q)]; exact n) (fun b o hb q=>⟨o,kall b o hb q⟩)
        (fun b xs q=>by rw [upd_ne (ne_of_none q nT)]; exact q) (fun b o xs q=>by rw [upd_ne (ne_of_none q nT)]; exact q) (fun b ps q=>⟨#[],by rw [upd_ne (ne_of_none q nT),q]; simp⟩) (fun m hm=>?_) (fun b o q=>?_) I.bare
      · obtain ⟨o,es,ep,ho,r⟩:=hm
        refine ⟨o,es,ep,kall _ o (fun hb=>?_) ho,r⟩
        exact (hf _ hb).2.1 rfl
      · by_cases hb:b=T
        · subst hb
          rw [upd_same] at q
          cases q
          exact ⟨by show 2≤sizeLine; decide,[.int i t,.str ⟨#[c]⟩ u],.cons ⟨t,rfl⟩ (.cons ⟨u,rfl⟩ .nil),hIs''⟩
        · rw [upd_ne hb] at q
          refine (I.hok b o q).stay (fun c' v hc' z=>kall c' v ?_ z) (fun c' z=>by rw [upd_ne (ne_of_none z nT)]; exact z) fun c' xs z=>by rw [upd_ne (ne_of_none z nT)]; exact z
          rcases hc' with rfl | hc'
          · exact nfp _ _ q
          · exact nfp _ _ hc'
    refine ⟨.ref T,upd H T (.tup [.int (i:Nat),.str ⟨#[c]⟩]),J,rfl,⟨T,c,nT,hcx,rfl,rfl⟩,st'',fun b hb=>?_⟩
    have nb:b≠T:=fun z=>aT (by rw [← z]; exact hb)
    rw [upd_ne nb]; exact (hf b hb).1
  done:=by
    intro X hP hw hK hc i pins s σ H E I hf st hg
    subst hP hw hK
    have W:=WalksT.enumerateD (prog:=X.prog) (w:=X.w) (A:=X.A) (D X.A.in1 (I.ok.hd hc)) e hei (by simpa using hei) (by simp)
    have hg':i=x.cps.size:=hg
    rw [hg'] at st
    refine W.done s _ _ st fun h' tk kp=>⟨rfl,?_⟩
    have nfp:∀ b o,H b=some o→b∉[e,it]:=fun b o q hb=>by rw [(hf b hb).1] at q; cases q
    refine I.step (h':=h') (g':=s.gens) (d':=s.drawn) (t':=tk) (ch:=[e,it]) (fun b hb=>⟨(hf b hb).2.2.2.1,(hf b hb).2.1,(hf b hb).2.2.2.2.1,(hf b hb).2.2.2.2.2⟩)
      (fun b o _ _ hb q _=>kp b o hb q) (fun b o _ _ hb q _=>⟨o.slots,kp b o hb q⟩) (fun _ _ _ _ n=>n) (fun b o hb q=>⟨o,kp b o hb q⟩)
      (fun _ _ q=>q) (fun _ _ _ q=>q) (fun b ps q=>⟨#[],by rw [q]; simp⟩) (fun m hm=>?_) (fun b o q=>?_) I.bare
    · obtain ⟨o,es,ep,ho,r⟩:=hm
      exact ⟨o,es,ep,kp _ o (fun hb=>(hf _ hb).2.1 rfl) ho,r⟩
    · refine (I.hok b o q).stay (fun c' v hc' z=>kp c' v ?_ z) (fun _ z=>z) fun _ _ z=>z
      rcases hc' with rfl | hc'
      · exact nfp _ _ q
      · exact nfp _ _ hc'
  self:=fun A i s Q E st h=>by
    obtain ⟨⟨old,he⟩,hs⟩:=st
    exact wpAny_pyIter_enum he h
variable {X:Cx} {B:Bd} {a:Expr} {fs:En→Option (List PyData)} {pos pp:Pos}
noncomputable def enS (ds:List PyData):Option (List PyData):=match ds with
  | [.str x]=>some (enumD (signD x) 0)
  | _=>none
theorem itp_enum {K:PySem.W.Frag} {F:Hp} {x:Str}:ItP K (Ite x) F (enumD (signD x) 0):=fun F1 H1 i s1 s2=>by
  have hl:(enumD (signD x) 0).length=x.cps.size:=by rw [enumD_len]; unfold signD; rw [List.length_map,Array.length_toList]
  refine ⟨fun d e=>?_,fun e=>by show i=_; rw [e,hl]⟩
  have hi:i < x.cps.size:=by rw [← hl]; exact (List.getElem?_eq_some_iff.mp e).1
  refine ⟨hi,fun v H2 y=>?_⟩
  obtain ⟨T,c,hT,hc,rfl,rfl⟩:=y
  obtain ⟨cd,h1,h2⟩:=enumD_get _ _ _ _ e
  have:cd=.str ⟨#[c]⟩:=by
    unfold signD at h1
    rw [List.getElem?_map] at h1
    have hc':x.cps.toList[i]?=some c:=by simpa using hc
    rw [hc'] at h1
    exact (Option.some.inj h1).symm
  subst this
  rw [Nat.zero_add] at h2
  subst h2
  have g:=Gr.one (o:=.tup [.int (i:Nat),.str ⟨#[c]⟩]) s2 hT
  exact ⟨_,g,rel_tup (SqT.of upd_same) (.cons rel_int (.cons rel_str .nil))⟩
theorem I.enum {elts:List Expr} {k:Nat} {tp:Pos} (hc:X.calm=true) (hm:X.mg "enumerate" = none) (ha:A X B [a] fs) (hg:Gl X "enumerate" := by rfl) (hs:starEach [a] X.env=[(false,eval a X.env)]:=by exact star_of rfl) :
    I X B (.Tuple elts k tp) (.Call (.Name "enumerate" pp) [a] [] pos) (fun η=>(fs η).bind enS):=by
  intro pins s σ H R I ⟨F,η,ds,sr,hd,q⟩
  obtain ⟨es,h1,hd⟩:=bind_some hd
  unfold enS at hd
  split at hd
  · rename_i x
    cases hd
    refine Call_ (ld_blt I hg hm boot_enumerate (PyProof.Rows.callWith_type1 (thn (ha pos pins s σ H (fun vs H1=>∃ F',Gr F H F' H1∧RelL X.K F' [.str x] vs) I ⟨F,η,_,sr,h1,fun vs F' H' g r=>⟨F',g,r⟩⟩) fun us s1 ⟨vs,H1,I1,r1,F1,g1,rl⟩=>?_) hs rfl))
    obtain ⟨y,r,rfl,ry,rr⟩:=rl.cons_of
    obtain rfl:=rr.nil_of
    obtain ⟨u,rfl,ru⟩:=vals1 r1
    rw [ry.str] at ru
    obtain ⟨t,rfl⟩:=ru
    refine call_enumerate_str fun h' he hit hsz hk=>?_
    refine wpAny_pyIter_enum he ?_
    have I2:Inv X pins σ H1 { s1 with heap:=h' }:=I1.kept (t':=s1.toks) hk
    have nw:∀ b,s1.heap.objs.size≤b→FpOk X pins H1 b:=fun b hb=>I1.fpOk hb (I1.hok.fresh hb)
    have fpo:∀ b∈[s1.heap.objs.size+1,s1.heap.objs.size],FpOk X pins H1 b:=fun b hb=>by
      rcases List.mem_cons.mp hb with rfl | hb
      · exact nw _ (Nat.le_succ _)
      · rw [List.mem_singleton.mp hb]; exact nw _ (Nat.le_refl _)
    have cel:∀ (ty:String) (i:Nat) (h:Heap),h.IsStrIter s1.heap.objs.size ty x t i→∃ o,h.get? s1.heap.objs.size=some o∧∀ v,o.data≠.cell v:=fun ty i h st=>by
      obtain ⟨o,ho,hcl,hd⟩:=st
      exact ⟨o,ho,fun v z=>by rw [hd] at z; cases z⟩
    cases ha':x.cps.all (· < 128)
    · have hit':h'.IsStrIter s1.heap.objs.size "str_iterator" x t 0:=by simpa [strIterType,ha'] using hit
      exact ⟨_,_,_,_,H1,rfl,I2,turn_enum (Nat.succ_ne_self _) (fun A hA=>Draws.strWide hA _ x t) (cel _),⟨⟨_,he⟩,hit'⟩,fpo,q _ F1 H1 g1 itp_enum⟩
    · have hit':h'.IsStrIter s1.heap.objs.size "str_ascii_iterator" x t 0:=by simpa [strIterType,ha'] using hit
      exact ⟨_,_,_,_,H1,rfl,I2,turn_enum (Nat.succ_ne_self _) (fun A hA=>Draws.strAscii hA _ x t) (cel _),⟨⟨_,he⟩,hit'⟩,fpo,q _ F1 H1 g1 itp_enum⟩
  · cases hd
end
noncomputable def leS (a b:Str):Bool:=!ltCps b.cps.toList a.cps.toList
theorem str_ext {a b:Str} (h:a.cps.toList=b.cps.toList):a=b:=by
  obtain ⟨a⟩:=a
  obtain ⟨b⟩:=b
  have:a=b:=Array.toList_inj.mp h
  rw [this]
noncomputable def srtS (ss:List Str):List Str:=ss.mergeSort leS
noncomputable def srtI (ns:List Int):List Int:=ns.mergeSort fun a b=>decide (a≤b)
section
variable {X:Cx}
noncomputable def rSrtS (K:PySem.W.Frag):List V→Hp→VK→Prop:=fun xs H Q=>∃ (p:Addr) (ss:List Str),xs=[.ref p]∧SqL K H p (ss.map V.str)∧ss.length < 64∧∀ l,H l=none→Q (.ref l) (upd H l (.lst ((srtS ss).map V.str)))
noncomputable def rSrtI (K:PySem.W.Frag):List V→Hp→VK→Prop:=fun xs H Q=>∃ (p:Addr) (ns:List Int),xs=[.ref p]∧SqL K H p (ns.map V.int)∧ns.length < 64∧∀ l,H l=none→Q (.ref l) (upd H l (.lst ((srtI ns).map V.int)))
noncomputable def asSs:List PyData→Option (List Str)
  | []=>some []
  | .str i::r=>(asSs r).bind fun ns=>some (i::ns)
  | _::_=>none
noncomputable def pSort (ds:List PyData):Option PyData:=match ds with
  | [.list xs]=>if xs.length < 64 then (match asSs xs with
    | some ss=>some (.list ((srtS ss).map PyData.str))
    | none=>(asIs xs).bind fun ns=>some (.list ((srtI ns).map PyData.int))) else none
  | _=>none
variable {B:Bd} {a b e:Expr} {es:List Expr} {f g:En→Option PyData} {fs:En→Option (List PyData)} {pos pp apos cpos:Pos}
noncomputable def rIdx (K:PySem.W.Frag):V→List V→Hp→VK→Prop:=fun x vs H Q=>∃ l xs y j,x=.ref l∧vs=[y]∧SqL K H l xs∧flatV y=true∧xs.all flatV=true∧xs.findIdx? (fun z=>eqV z y)=some j∧Q (.int (j:Nat)) H
noncomputable def pIdx (x y:PyData):Option PyData:=match x with
  | .list ds=>if flatD y=true∧ds.all flatD=true then (ds.findIdx? fun z=>PyData.eqv z y).bind fun j=>some (.int (j:Nat)) else none
  | _=>none
end
noncomputable def compChk (N:List Str) (sc scope:Scope) (N':List Str) (mp:List (Option Nat)):Bool :=
  decide (scope.kind=.function)&&decide (sc.kind=.function)&&decide (∀ x∈scope.names,x.2≠.cell)&&decide (∀ x∈scope.names,x.2=.local→scope.names.lookup x.1=some .local) &&
  decide (∀ x∈scope.names,x.2=.free→sc.names.lookup x.1=some .cell)&&decide (mp.length=N'.length) &&
  (N'.zip mp).all fun p=>match p.2 with
    | none=>true
    | some j=>decide (N[j]?=some p.1)&&decide (scope.names.lookup p.1=some .free)
theorem lookup_relabel_free {env:Env} (hk:env.scope.kind=.function):∀ {names:List (Str×NameKind)} {x:Str},names.lookup x=some .free→env.kindOf x=some .cell →
    (names.map fun (n,k)=>if (k==NameKind.free&&env.scope.kind==.function&&env.kindOf n==some .cell) then (n,NameKind.cell) else (n,k)).lookup x=some .cell
  | [],_,h,_=>by simp at h
  | (n,k)::r,x,h,hc=>by
    have ih:=@lookup_relabel_free env hk r x
    show List.lookup x ((if (k==NameKind.free&&env.scope.kind==.function&&env.kindOf n==some .cell)=true then (n,NameKind.cell) else (n,k))::_)=_
    cases hx:x==n with
    | true =>
      have en:x=n:=by simpa using hx
      subst en
      simp only [List.lookup_cons,hx] at h
      cases h
      rw [if_pos (by rw [hk,hc]; rfl)]
      simp [List.lookup_cons]
    | false =>
      simp only [List.lookup_cons,hx] at h
      split <;> simp only [List.lookup_cons,hx] <;> exact ih h hc
theorem CompSc.of {X:Cx} {scope:Scope} {N':List Str} {mp:List (Option Nat)} (h:compChk X.N X.env.scope scope N' mp=true):CompSc X scope N' mp:=by
  unfold compChk at h
  simp only [Bool.and_eq_true,decide_eq_true_eq] at h
  obtain ⟨⟨⟨⟨⟨⟨h1,h0⟩,h2⟩,h3⟩,h4⟩,h5⟩,h6⟩:=h
  refine ⟨h1,h2,h3,fun x hx hf=>.inl (h4 x hx hf),h5,fun i x j e1 e2=>?_⟩
  have hm:(x,some j)∈N'.zip mp:=by
    have:(N'.zip mp)[i]?=some (x,some j):=by rw [List.getElem?_zip_eq_some]; exact ⟨e1,e2⟩
    exact List.mem_of_getElem? this
  have h7:=List.all_eq_true.mp h6 _ hm
  simp only [Bool.and_eq_true,decide_eq_true_eq] at h7
  have hmem:(x,NameKind.free)∈scope.names:=PySem.mem_of_lookup h7.2
  exact ⟨h7.1,hmem,.inl (lookup_relabel_free h0 h7.2 (h4 _ hmem rfl))⟩
theorem E.globI {X:Cx} {B:Bd} {x:Str} {i:Int} {t:Tok} {pos:Pos} (hm:X.mg x=some (.int i t)) (hg:Gl X x:=by rfl) (hd:(x==("__debug__" : Str))=false:=by decide):E X B (.Name x pos) (eC (.int i)):=E.glob hm (v:=.int i) ⟨t,rfl⟩ (fun _=>rel_int) hg hd
theorem E.globS {X:Cx} {B:Bd} {x:Str} {i:Str} {t:Tok} {pos:Pos} (hm:X.mg x=some (.str i t)) (hg:Gl X x:=by rfl) (hd:(x==("__debug__" : Str))=false:=by decide):E X B (.Name x pos) (eC (.str i)):=E.glob hm (v:=.str i) ⟨t,rfl⟩ (fun _=>rel_str) hg hd
theorem tg_len1 {t:En→PyData→Option En}:∀ η ds η',tgCons t tgNil η ds=some η'→ds.length=1:=fun η ds η' h=>by
  match ds,h with
  | [_],_=>rfl
  | _::_::_,h=>obtain ⟨_,_,h⟩:=bind_some h; cases h
theorem tg_len2 {t u:En→PyData→Option En}:∀ η ds η',tgCons t (tgCons u tgNil) η ds=some η'→ds.length=2:=fun η ds η' h=>by
  match ds,h with
  | d::r,h =>
    obtain ⟨η1,_,h⟩:=bind_some h
    rw [List.length_cons,tg_len1 _ _ _ h]
theorem CompSc.of' {X:Cx} {scope:Scope} {N':List Str} {mp:List (Option Nat)} (N:List Str) (sc:Scope) (hN:X.N=N) (hs:X.env.scope=sc) (h:compChk N sc scope N' mp=true):CompSc X scope N' mp:=CompSc.of (by rw [hN,hs]; exact h)
noncomputable def tyD:PyData→String
  | .none => "NoneType"
  | .bool _ => "bool"
  | .int _ => "int"
  | .str _ => "str"
  | .list _ => "list"
  | .tuple _ => "tuple"
  | .dict _ => "dict"
noncomputable def isB (T:String) (d:PyData):Bool:=match d with
  | .bool _=>T == "bool" || T == "int"
  | d=>tyD d==T
section
variable {X:Cx}
noncomputable def rIsin (K:PySem.W.Frag) (T:String):List V→Hp→VK→Prop:=fun xs H Q=>∃ x F d,xs=[x,.ty T]∧Same F H∧Rel K F d x∧Q (.bl (isB T d)) H
variable {B:Bd} {a b e:Expr} {es:List Expr} {f g:En→Option PyData} {fs:En→Option (List PyData)} {pos pp tp apos cpos pos':Pos} {sts:List Stmt} {u:En→Option Out} {p:En→Option Bool}
noncomputable def pIsin (T:String) (d:PyData):Option PyData:=some (.bool (isB T d))
noncomputable def asBs:List PyData→Option (List Bool)
  | []=>some []
  | .bool i::r=>(asBs r).bind fun ns=>some (i::ns)
  | _::_=>none
theorem asBs_some:∀ {ds:List PyData} {ns:List Bool},asBs ds=some ns→ds=ns.map PyData.bool
  | [],ns,h=>by cases h; rfl
  | .bool i::r,ns,h=>by
    obtain ⟨ms,h1,h2⟩:=bind_some h
    cases h2
    rw [asBs_some h1]; rfl
  | .none::_,_,h=>by cases h
  | .str _::_,_,h=>by cases h
  | .int _::_,_,h=>by cases h
  | .list _::_,_,h=>by cases h
  | .tuple _::_,_,h=>by cases h
  | .dict _::_,_,h=>by cases h
theorem asBs_bools (ns:List Bool):asBs (ns.map PyData.bool)=some ns:=by
  induction ns with
  | nil=>rfl
  | cons n r ih=>rw [List.map_cons]; unfold asBs; rw [ih]; rfl
theorem RelL.bools_of {K:PySem.W.Frag} {F:Hp}:∀ {ns:List Bool} {xs:List V},RelL K F (ns.map PyData.bool) xs→xs=ns.map V.bl
  | [],xs,h=>h.nil_of
  | n::r,xs,h=>by
    obtain ⟨x,ys,rfl,h1,h2⟩:=h.cons_of
    rw [h1.bl,RelL.bools_of h2]; rfl
theorem range_any (bs:List Bool):(List.range bs.length).any (fun i=>bs.getD i false)=bs.any id:=by
  rw [Bool.eq_iff_iff,List.any_eq_true,List.any_eq_true]
  constructor
  · rintro ⟨i,hi,h⟩
    have hi:=List.mem_range.mp hi
    rw [List.getD_eq_getElem?_getD,List.getElem?_eq_getElem hi] at h
    exact ⟨_,List.getElem_mem hi,h⟩
  · rintro ⟨x,hx,h⟩
    obtain ⟨i,hi,rfl⟩:=List.mem_iff_getElem.mp hx
    exact ⟨i,List.mem_range.mpr hi,by rw [List.getD_eq_getElem?_getD,List.getElem?_eq_getElem hi]; exact h⟩
noncomputable def rBools (K:PySem.W.Frag) (r:List Bool→Bool):List V→Hp→VK→Prop:=fun xs H Q=>∃ (p:Addr) (bs:List Bool),xs=[.ref p]∧SqL K H p (bs.map V.bl)∧Q (.bl (r bs)) H
theorem bools_walk (hc:X.calm=true) {pins:List (Addr×Obj)} {s:Shared} {σ:St} {H:Hp} {p:Addr} {bs:List Bool} {Q:Bool→Value→Shared→Prop} {r:(Nat→Bool)→Nat→Bool} (I:Inv X pins σ H s) (hq:SqL X.K H p (bs.map V.bl))
    (hQ:∀ h' tk,(∀ b o,s.heap.get? b=some o→h'.get? b=some o)→Q true (.bool (r (fun i=>bs.getD i false) bs.length)) { s with heap:=h',toks:=tk }) :
    wpAny (model X.prog X.w) X.A.in1 (pyIter (.ref p)) (fun it s₂=>∃ I fp wr n P St tr,it=.ref I∧Walks X.prog X.w X.A.in1 I fp wr n P St∧St 0 s₂.heap∧TruthOf X.prog X.w X.A.in1 P tr ∧
      ∀ h' tk,(∀ b o,b∉wr→s₂.heap.get? b=some o→h'.get? b=some o)→Q true (.bool (r tr n)) { s₂ with heap:=h',toks:=tk }) X.xe s:=by
  obtain ⟨its,rv,pl,hz⟩:=I.list hq
  have hl:=rv.length
  rw [List.length_map] at hl
  have hlt:p < s.heap.objs.size:=by
    obtain ⟨o,ho,_⟩:=pl.isList
    exact Heap.lt_size ho
  refine wpAny_pyIter_list pl.isList ?_
  refine ⟨s.heap.objs.size,_,_,_,_,_,fun i=>bs.getD i false,rfl,Walks.list (A:=X.A.in1) (I.ok.hd hc) s.heap.objs.size p (Nat.ne_of_lt hlt) its.toArray,⟨⟨_,Heap.get?_push_size _ rfl,rfl,rfl⟩,pl.isList.at fun o e=>Heap.get?_push_of_some _ e⟩,?_,fun h' tk hk=>?_⟩
  · intro i v s' Q' E' hv hq'
    have hv':its[i]?=some v:=by simpa using hv
    obtain ⟨hi,_⟩:=List.getElem?_eq_some_iff.mp hv'
    have hn:bs[i]?=some bs[i]:=List.getElem?_eq_getElem (by omega)
    obtain ⟨w,hw,rw'⟩:=rv.get (i:=i) (x:=.bl bs[i]) (by rw [List.getElem?_map,hn]; rfl)
    rw [hv'] at hw
    cases hw
    cases rw'
    have e:bs.getD i false=bs[i]:=by rw [List.getD_eq_getElem?_getD,hn]; rfl
    rw [show (fun i=>bs.getD i false) i=bs[i] from e] at hq'
    exact wpAny_truthy_bool hq'
  · have e:its.toArray.size=bs.length:=by rw [List.size_toArray]; exact hl.symm
    rw [e]
    refine hQ h' tk fun b o eb=>hk b o ?_ (Heap.get?_push_of_some _ eb)
    intro hb
    exact absurd (Heap.lt_size eb) (by rw [List.mem_singleton.mp hb]; exact Nat.lt_irrefl _)
theorem call_any (hc:X.calm=true):CallR X (.builtin "any") (rBools X.K fun bs=>bs.any id):=by
  intro pins s σ H xs us Q I r h
  obtain ⟨p,bs,rfl,hq,q⟩:=h
  obtain ⟨u,rfl,rx⟩:=vals1 r
  cases rx
  refine call_any_walk (bools_walk hc (Q:=fun _ v s'=>EP X pins σ Q v s') (r:=fun tr n=>(List.range n).any tr) I hq fun h' tk k=>?_)
  rw [range_any]
  exact ⟨.bl _,H,I.kept k,rfl,q⟩
noncomputable def pBools (r:List Bool→Bool) (ds:List PyData):Option PyData:=match ds with
  | [.list xs]=>(asBs xs).bind fun bs=>some (.bool (r bs))
  | _=>none
theorem ad_bools {K:PySem.W.Frag} {r:List Bool→Bool}:AdA K (rBools K r) (pBools r):=fun F H xs ds d Q sm rs e q=>by
  unfold pBools at e
  split at e
  · obtain ⟨bs,h1,h2⟩:=bind_some e
    cases h2
    have:=asBs_some h1
    subst this
    obtain ⟨x,r,rfl,rx,rr⟩:=rs.cons_of
    obtain rfl:=rr.nil_of
    obtain ⟨a,ys,rfl,hq,r1⟩:=rx.lst
    have:=r1.bools_of
    subst this
    exact ⟨a,bs,rfl,sm.seq hq,q _ F H (.refl sm) rel_bl⟩
  · cases e
noncomputable def pAll:=pBools fun bs=>bs.all id
noncomputable def pAny:=pBools fun bs=>bs.any id
theorem E.any (hc:X.calm=true) (hm:X.mg "any" = none) (ha:A X B [e] fs) (hg:Gl X "any" := by rfl) (he:starEach [e] X.env=(false,eval e X.env)::starEach [] X.env:=by exact star_of rfl) (hpl:(backTo pos (starEach [] X.env)).any (·.1)=false:=by rfl):E X B (.Call (.Name "any" pp) [e] [] pos) (lA pAny fs) :=
  E.callB (call_any hc) ad_bools hm (by decide +kernel) ha hg (by decide) (by decide) he hpl
noncomputable def pMax (ds:List PyData):Option PyData:=match ds with
  | [.int i,.int j]=>some (.int (if j > i then j else i))
  | _=>none
noncomputable def pMin (ds:List PyData):Option PyData:=match ds with
  | [.int i,.int j]=>some (.int (if j < i then j else i))
  | _=>none
theorem ad_two {K:PySem.W.Frag} {g:Int→Int→Int}:AdA K (fun xs H Q=>∃ i j,xs=[.int i,.int j]∧Q (.int (g i j)) H) (fun ds=>match ds with | [.int i,.int j]=>some (.int (g i j)) | _=>none):=fun F H xs ds d Q sm rs e q=>by
  dsimp only at e
  split at e
  · cases e
    obtain ⟨x,r,rfl,rx,rr⟩:=rs.cons_of
    obtain ⟨y,r2,rfl,ry,rr2⟩:=rr.cons_of
    obtain rfl:=rr2.nil_of
    exact ⟨_,_,by rw [rx.int,ry.int],q _ F H (.refl sm) rel_int⟩
  · cases e
theorem E.max (hc:X.calm=true) (hm:X.mg "max" = none) (ha:A X B [a,b] fs) (hg:Gl X "max" := by rfl) (he:starEach [a,b] X.env=(false,eval a X.env)::starEach [b] X.env:=by rfl) (hpl:(backTo pos (starEach [b] X.env)).any (·.1)=false:=by rfl):E X B (.Call (.Name "max" pp) [a,b] [] pos) (lA pMax fs) :=
  E.callB (call_max2 hc) ad_two hm (by decide +kernel) ha hg (by decide) (by decide) he hpl
theorem E.min (hc:X.calm=true) (hm:X.mg "min" = none) (ha:A X B [a,b] fs) (hg:Gl X "min" := by rfl) (he:starEach [a,b] X.env=(false,eval a X.env)::starEach [b] X.env:=by rfl) (hpl:(backTo pos (starEach [b] X.env)).any (·.1)=false:=by rfl):E X B (.Call (.Name "min" pp) [a,b] [] pos) (lA pMin fs) :=
  E.callB (call_min2 hc) ad_two hm (by decide +kernel) ha hg (by decide) (by decide) he hpl
noncomputable def pInt (ds:List PyData):Option PyData:=match ds with
  | [.int i]=>some (.int i)
  | [.bool k]=>some (.int (if k then 1 else 0))
  | _=>none
noncomputable def sAug (i:Nat) (f:En→Option PyData):En→Option Out:=fun η=>(eV i η).bind fun x=>(f η).bind fun y=>match x,y with
  | .int n,.int m=>some (.nx (η.set i (.val (.int (n+m)))))
  | _,_=>none
noncomputable def sWh (c:En→Option Bool) (body:En→Option Out):Nat→En→Option Out
  | 0,_=>none
  | n+1,η=>(c η).bind fun b=>if b=true then (body η).bind fun o=>match o with
    | .nx η'=>sWh c body n η'
    | .ct η'=>sWh c body n η'
    | .bk η'=>some (.nx η')
    | .rt d=>some (.rt d) else some (.nx η)
noncomputable def tInO (neg:Bool) (f:En→Option PyData) (i:Nat):En→Option Bool:=fun η=>(f η).bind fun x=>match η[i]? with
  | some (.own ds)=>(pIn neg x (.list ds)).bind asB
  | _=>none
end
noncomputable def Its (x:Str):It:=⟨fun i _=>i < x.cps.size,fun i H v H'=>H'=H∧∃ c,x.cps[i]?=some c∧v=.str ⟨#[c]⟩,fun i _=>i=x.cps.size⟩
section
variable {X:Cx} {B:Bd} {e:Expr} {f:En→Option PyData} {tg:Expr}
noncomputable def asSg:PyData→Option (List PyData)
  | .str x=>some (signD x)
  | _=>none
end
section
variable {X:Cx} {B:Bd} {a b e:Expr} {f g:En→Option PyData} {apos cpos:Pos}
noncomputable def rJoin (K:PySem.W.Frag):V→List V→Hp→VK→Prop:=fun x vs H Q=>∃ z p ss,x=.str z∧vs=[.ref p]∧SqL K H p (ss.map V.str)∧JoinOk z ss=true∧Q (.str (Txt.join z ss)) H
noncomputable def pJoin (x y:PyData):Option PyData:=match x,y with
  | .str z,.list ds=>(asSs ds).bind fun ss=>if JoinOk z ss=true then some (.str (Txt.join z ss)) else none
  | _,_=>none
end
section
variable {X:Cx} {B:Bd} {a b e:Expr} {f g:En→Option PyData} {pos:Pos}
noncomputable def sUnp (f:En→Option PyData) (t:En→PyData→Option En):En→Option Out:=fun η=>(f η).bind fun d=>(t η d).bind fun η'=>some (.nx η')
noncomputable def isNn:PyData→Bool
  | .none=>true
  | _=>false
noncomputable def pIsN (neg:Bool) (x y:PyData):Option PyData:=match y with
  | .none=>some (.bool (if neg then !isNn x else isNn x))
  | _=>none
theorem non_iff {K:PySem.W.Frag} {F:Hp} {d:PyData} {x:V} (r:Rel K F d x):decide (x=.non)=isNn d:=by
  cases d with
  | none=>rw [r.non]; rfl
  | bool b=>rw [r.bl]; rfl
  | int i=>rw [r.int]; rfl
  | str s=>rw [r.str]; rfl
  | list ds=>obtain ⟨a,xs,rfl,_⟩:=r.lst; rfl
  | tuple ds=>obtain ⟨a,xs,rfl,_⟩:=r.tup; rfl
  | dict es=>obtain ⟨a,xs,rfl,_⟩:=r.dct; rfl
theorem ad_isN {K:PySem.W.Frag}:Ad2 K (fun x y H Q=>y=.non∧Q (.bl (decide (x=.non))) H) (pIsN false):=fun F H x y dx dy d Q sm rx ry e q=>by
  unfold pIsN at e
  split at e
  · cases e
    refine ⟨ry.non,?_⟩
    rw [non_iff rx]
    exact q _ F H (.refl sm) rel_bl
  · cases e
theorem ad_notN {K:PySem.W.Frag}:Ad2 K (fun x y H Q=>y=.non∧Q (.bl (!decide (x=.non))) H) (pIsN true):=fun F H x y dx dy d Q sm rx ry e q=>by
  unfold pIsN at e
  split at e
  · cases e
    refine ⟨ry.non,?_⟩
    rw [non_iff rx]
    exact q _ F H (.refl sm) rel_bl
  · cases e
theorem T.isN (ha:E X B a f) (hb:E X B b g) (hm:behindInMarks .Is b=false:=by rfl):T X B (.Compare a [.Is] [b] pos) (bT (l2 (pIsN false) f g)):=T.cmp op_isN ad_isN hm ha hb
theorem T.notN (ha:E X B a f) (hb:E X B b g) (hm:behindInMarks .IsNot b=false:=by rfl):T X B (.Compare a [.IsNot] [b] pos) (bT (l2 (pIsN true) f g)):=T.cmp op_notN ad_notN hm ha hb
end
noncomputable def Itv (K:PySem.W.Frag) (a:Addr) (n:Nat):It :=
  ⟨fun i H=>i < n∧∃ xs x,SqL K H a xs∧xs[n - 1 - i]?=some x,fun i H x H'=>H'=H∧∀ xs,SqL K H a xs→xs[n - 1 - i]?=some x,fun i _=>i=n⟩
theorem turn_rev {P:Program} {w:World} {K:PySem.W.Frag} {tg:Expr} (a it:Addr) (n:Nat):Turn P w K tg (Itv K a n) [it] it (fun i h=>h.IsRevIter it a ((n:Int) - 1 - (i:Nat))) where
  mem:=by simp
  obj:=fun i h st b hb=>by
    have e:b=it:=by simpa using hb
    subst e
    obtain ⟨o,e,c,d⟩:=st
    exact ⟨o,e,fun v z=>by rw [d] at z; cases z⟩
  keep:=fun i h h' st k=>st.at fun o e=>k it (by simp) o e
  item:=by
    intro X hP hw hK hc i pins s σ H E I hf st hg
    subst hP hw hK
    obtain ⟨hi,xs,x,hq,hx⟩:=hg
    obtain ⟨its,rv,p,hz⟩:=I.list hq
    obtain ⟨u,hu,ru⟩:=rv.get hx
    obtain ⟨f0,f1,f2,f3,f4,f5⟩:=hf it (by simp)
    have ei:(n:Int) - 1 - (i:Nat)=((n - 1 - i:Nat):Int):=by omega
    rw [ei] at st
    refine wpAny_pyNext_rev_item st p.isList (x:=u) (by simpa using hu) fun h' st' sb=>?_
    have I1:Inv X pins σ H { s with heap:=h' }:=I.turned (t':=s.toks) (fun b o hb e=>(sb.2 b hb).trans e) f0 f1 f3 f4 f5
    have st2:h'.IsRevIter it a ((n:Int) - 1 - ((i+1:Nat):Nat)):=by
      have e2:((n - 1 - i:Nat):Int) - 1=(n:Int) - 1 - ((i+1:Nat):Nat):=by omega
      rw [← e2]; exact st'
    obtain ⟨o,e,c,d⟩:=id st'
    exact ⟨u,rfl,go_of (s:={ s with heap:=h' }) e c d (by decide) ⟨x,H,I1,ru,⟨rfl,fun ys hy=>by rw [I.list_inj hy hq]; exact hx⟩,st2,fun b hb=>(hf b hb).1⟩⟩
  done:=by
    intro X hP hw hK hc i pins s σ H E I hf st hg
    subst hP hw hK
    obtain ⟨f0,f1,f2,f3,f4,f5⟩:=hf it (by simp)
    have hg:i=n:=hg
    have ei:(n:Int) - 1 - (i:Nat)=-1:=by omega
    rw [ei] at st
    exact wpAny_pyNext_rev_end (I.ok.hd hc) st fun h' eb=>⟨rfl,I.turned (t':=s.toks) (fun b o hb e=>eb b o hb e) f0 f1 f3 f4 f5⟩
  self:=fun _ _ _ _ _ st h=>wpAny_pyIter_revIter st h
section
variable {X:Cx} {B:Bd} {a:Expr} {fs:En→Option (List PyData)} {pos pp:Pos}
noncomputable def rvS (ds:List PyData):Option (List PyData):=match ds with
  | [.list xs]=>some xs.reverse
  | _=>none
theorem itp_rev {K:PySem.W.Frag} {F:Hp} {p:Addr} {ds:List PyData} {xs:List V} (hq:SqL K F p xs) (rs:RelL K F ds xs):ItP K (Itv K p ds.length) F ds.reverse:=fun F1 H1 i s1 s2=>by
  refine ⟨fun d e=>?_,fun e=>by show i=ds.length; rw [e,List.length_reverse]⟩
  have hi:i < ds.length:=by
    have:=(List.getElem?_eq_some_iff.mp e).1
    rwa [List.length_reverse] at this
  rw [List.getElem?_reverse hi] at e
  obtain ⟨x,hx,rx⟩:=rs.get e
  have hq1:SqL K H1 p xs:=s2.seq (s1.seq hq)
  refine ⟨⟨hi,xs,x,hq1,hx⟩,fun v H2 y=>?_⟩
  obtain ⟨rfl,y⟩:=y
  have:=(y xs hq1).symm.trans hx
  cases this
  exact ⟨F1,.refl s2,rx.mono s1⟩
theorem I.rev {tg:Expr} (hc:X.calm=true) (hm:X.mg "reversed" = none) (ha:A X B [a] fs) (hg:Gl X "reversed" := by rfl) (hs:starEach [a] X.env=[(false,eval a X.env)]:=by exact star_of rfl) :
    I X B tg (.Call (.Name "reversed" pp) [a] [] pos) (fun η=>(fs η).bind rvS):=by
  intro pins s σ H R I ⟨F,η,ds,sr,hd,q⟩
  obtain ⟨es,h1,hd⟩:=bind_some hd
  unfold rvS at hd
  split at hd
  · rename_i x
    cases hd
    refine Call_ (ld_blt I hg hm (show bootBuiltins "reversed" = some (.type "reversed") by decide +kernel) (PyProof.Rows.callWith_type1 (thn (ha pos pins s σ H (fun vs H1=>∃ F',Gr F H F' H1∧RelL X.K F' [.list x] vs) I ⟨F,η,_,sr,h1,fun vs F' H' g r=>⟨F',g,r⟩⟩) fun us s1 ⟨vs,H1,I1,r1,F1,g1,rl⟩=>?_) hs rfl))
    obtain ⟨y,r,rfl,ry,rr⟩:=rl.cons_of
    obtain rfl:=rr.nil_of
    obtain ⟨u,rfl,ru⟩:=vals1 r1
    obtain ⟨p,xs,rfl,hq,rs⟩:=ry.lst
    cases ru
    obtain ⟨its,rv,pl,hz⟩:=I1.list (g1.fh.seq hq)
    refine call_reversed_list pl.isList ?_
    have hl:its.toArray.size=x.length:=by
      have h1:=rv.length
      have h2:=rs.length
      rw [List.size_toArray]
      omega
    have st:(s1.heap.push (revObj p ((its.toArray.size:Int) - 1))).IsRevIter s1.heap.objs.size p ((x.length:Int) - 1 - ((0:Nat):Nat)):=by
      refine ⟨_,Heap.get?_push_size _ rfl,rfl,?_⟩
      have e2:(its.toArray.size:Int) - 1=(x.length:Int) - 1 - ((0:Nat):Nat):=by rw [hl]; omega
      rw [← e2]; rfl
    refine wpAny_pyIter_revIter st ?_
    refine ⟨_,[s1.heap.objs.size],_,_,H1,rfl,I1.kept (t':=s1.toks) fun b o e=>Heap.get?_push_of_some _ e,turn_rev p _ x.length,st,fun b hb=>?_,q _ F1 H1 g1 (itp_rev hq rs)⟩
    rw [List.mem_singleton.mp hb]
    exact I1.fpOk (Nat.le_refl _) (I1.hok.fresh (Nat.le_refl _))
  · cases hd
end
section
variable {X:Cx} {B:Bd} {a b e:Expr} {f g:En→Option PyData} {fs:En→Option (List PyData)} {pos:Pos}
noncomputable def eRep (fs:En→Option (List PyData)) (g:En→Option PyData):En→Option PyData:=fun η=>(fs η).bind fun ds=>(g η).bind fun y=>(asI y).bind fun k =>
  if 0≤k∧k < 1000∧ds.length*k.toNat≤1000 then some (.list (List.replicate k.toNat ds).flatten) else none
end
section
variable {X:Cx} {B:Bd} {e st:Expr} {f g:En→Option PyData} {pos p2:Pos}
noncomputable def pRv (x y:PyData):Option PyData:=match x with
  | .list ds=>(asI y).bind fun k=>if k=-1 then some (.list ds.reverse) else none
  | _=>none
theorem pS_some {g:En→Option PyData} {η:En} {k:Int} (h:g η=some (.int k)):pS g η=some (some k):=by
  unfold pS
  rw [h]; rfl
theorem E.slRev (he:E X B e f) (hs:E X B st g) (hsub:∀ o i,subscripted (.Slice none none (some st) p2) false o i=operate [o,i] (getItem o i):=by intro _ _; with_unfolding_all rfl):E X B (.Subscript e (.Slice none none (some st) p2) pos) (l2 pRv f g):=by
  intro pins s σ H Q I ⟨F,η,d,sr,hd,q⟩
  obtain ⟨x,hx,hd⟩:=bind_some hd
  obtain ⟨y,hy,hd2⟩:=bind_some hd
  unfold pRv at hd2
  split at hd2
  · rename_i ds
    obtain ⟨k,hk,hd3⟩:=bind_some hd2
    obtain rfl:=asI_some hk
    split at hd3
    · rename_i hk1
      subst hk1
      cases hd3
      refine Subscript_ (thn (he pins s σ H (fun v H1=>∃ F1,Gr F H F1 H1∧Rel X.K F1 (.list ds) v) I ⟨F,η,_,sr,hx,fun v F1 H1 g1 r=>⟨F1,g1,r⟩⟩) fun v s1 ⟨x,H1,I1,r1,F1,g1,rx⟩=>?_)
      refine wpAny_Slice ?_
      rw [evalPart_none]
      refine wpAny_pure (wpAny_pure ?_)
      refine thn ((P.some hs) pins s1 σ H1 (fun o H2=>∃ F2,Gr F1 H1 F2 H2∧o=some (-1)) I1 ⟨F1,η,some (-1),sr.grow g1,pS_some hy,fun F2 H2 g2=>⟨F2,g2,rfl⟩⟩) fun vs s2 ⟨o,H2,I2,ps,F2,g2,eo⟩=>?_
      subst eo
      have I4:Inv X pins σ H2 { s2 with heap:=s2.heap.push { cls:=.type "slice", data:=.fields #[.none,.none,vs] } }:=I2.kept (t':=s2.toks) fun b ob q=>Heap.get?_push_of_some _ q
      obtain ⟨a,xs,rfl,hq,rs⟩:=rx.lst
      cases r1
      obtain ⟨its,r,ht,hz⟩:=I4.list (g2.hh.seq (g1.fh.seq hq))
      have hlen:=r.length
      show wpAny (model X.prog X.w) X.A (subscriptTail e (.Slice none none (some st) p2) (.ref a) (.ref s2.heap.objs.size)) (EP X pins σ Q) X.xe { s2 with heap:=s2.heap.push { cls:=.type "slice", data:=.fields #[.none,.none,vs] } }
      refine tail_any (ops:=[.ref a,.ref s2.heap.objs.size]) ht.isList.typeIs slot_list_getitem.lookup ?_ (hsub _ _)
      refine wpAny_getItem_list_slice ht.isList (Heap.IsSliceOf.new ..) .none .none ps (by decide) ?_ (by rw [List.size_toArray] <;> omega)
      rw [PySem.W.krv_pick,show its.toArray.toList.reverse=its.reverse by simp]
      have g3:∀ l,H2 l=none→Gr F2 H2 (upd F2 l (.lst xs.reverse)) (upd H2 l (.lst xs.reverse)):=fun l hl=>Gr.one g2.fh hl
      refine ⟨.ref _,_,I4.laid (t':=s2.toks) (o:=.lst xs.reverse) (fun b ob q=>Heap.get?_push_of_some _ q) (Nat.le_refl _) ?_,rfl,q _ _ _ ((g1.trans g2).trans (g3 _ (I4.hok.fresh (Nat.le_refl _)))) (rel_lst (SqL.of upd_same) (rs.reverse.mono (g2.ff.trans (g3 _ (I4.hok.fresh (Nat.le_refl _))).ff)))⟩
      refine ⟨by rw [List.length_reverse]; exact hz,its.reverse,0,?_,Heap.get?_push_size _ rfl⟩
      exact r.reverse
    · cases hd3
  · cases hd2
end
section
variable {X:Cx} {B:Bd} {pos pp:Pos}
noncomputable def eLenO (i:Nat):En→Option PyData:=fun η=>match η[i]? with
  | some (.own ds)=>some (.int ds.length)
  | _=>none
end
noncomputable def keyOf:PyData→Option Key
  | .int i=>some (.inl i)
  | .str x=>some (.inr x)
  | _=>none
noncomputable def lookD (es:List (PyData×PyData)) (k:Key):Option PyData:=(es.find? fun e=>decide (keyOf e.1=some k)).map (·.2)
noncomputable def putP (kvs:List (Key×PyData)) (k:Key) (d:PyData):List (Key×PyData) :=
  if (kvs.any fun kv=>decide (kv.1=k))=true then kvs.map (fun kv=>if kv.1=k then (kv.1,d) else kv) else kvs++[(k,d)]
section
variable {X:Cx} {B:Bd} {o e e2 a b:Expr} {f g h:En→Option PyData} {pos pos' apos cpos npos:Pos}
noncomputable def pGet2 (x y z:PyData):Option PyData:=match x with
  | .dict es=>(keyOf y).bind fun k=>some ((lookD es k).getD z)
  | _=>none
noncomputable def eGet2 (f g h:En→Option PyData):En→Option PyData:=fun η=>(f η).bind fun x=>(g η).bind fun y=>(h η).bind fun z=>pGet2 x y z
noncomputable def pInD (neg:Bool) (x y:PyData):Option Bool:=match y with
  | .dict es=>(keyOf x).bind fun k=>some (if neg then !(lookD es k).isSome else (lookD es k).isSome)
  | _=>none
noncomputable def tInD (neg:Bool) (f g:En→Option PyData):En→Option Bool:=fun η=>(f η).bind fun x=>(g η).bind fun y=>pInD neg x y
noncomputable def sSetD (i:Nat):En→Option Out:=fun η=>some (.nx (η.set i (.odc [])))
noncomputable def eGet2O (i:Nat) (g h:En→Option PyData):En→Option PyData:=fun η=>match η[i]? with
  | some (.odc kvs)=>(g η).bind fun y=>(h η).bind fun z=>(keyOf y).bind fun k=>some ((lookD (prs kvs) k).getD z)
  | _=>none
noncomputable def sPutD (i:Nat) (g h:En→Option PyData):En→Option Out:=fun η=>(h η).bind fun d=>(g η).bind fun y=>(keyOf y).bind fun k=>match η[i]? with
  | some (.odc kvs)=>if kvs.length < sizeLine then some (.nx (η.set i (.odc (putP kvs k d)))) else none
  | _=>none
end
section
variable {X:Cx}
open Classical in
noncomputable def eOf (h:Heap) (dx:PyData) (w:Value):Bool:=if q:∃ d as,Reads h w d as∧d.canLay0=true then PyData.eqv q.choose dx else false
noncomputable def lowD (d:PyData):Bool:=d.canLay0&&decide (d.depth≤8)
noncomputable def rInS (K:PySem.W.Frag) (neg:Bool):R2:=fun x y H Q=>∃ F dx ds p xs,Same F H∧Rel K F dx x∧y=.ref p∧SqL K H p xs∧RelL K F ds xs∧dx.canLay0=true∧ds.all lowD=true∧Q (.bl (if neg then !(ds.any fun d=>PyData.eqv d dx) else ds.any fun d=>PyData.eqv d dx)) H
variable {B:Bd} {a:Expr} {f:En→Option PyData} {pos:Pos}
noncomputable def tInS (neg:Bool) (f:En→Option PyData) (i:Nat):En→Option Bool:=fun η=>(f η).bind fun x=>match η[i]? with
  | some (.own ds)=>if x.canLay0=true∧ds.all lowD=true then some (if neg then !(ds.any fun d=>PyData.eqv d x) else ds.any fun d=>PyData.eqv d x) else none
  | _=>none
end
section
variable {K:PySem.W.Frag} {F F':Hp}
theorem flat_rel {d:PyData} {v:V} (h:flatD d=true) (r:Rel K F' d v):Rel K F d v:=by
  cases d with
  | none=>rw [r.non]; exact rel_non
  | bool b=>rw [r.bl]; exact rel_bl
  | int i=>rw [r.int]; exact rel_int
  | str x=>rw [r.str]; exact rel_str
  | list ds=>cases h
  | tuple ds=>cases h
  | dict es=>cases h
end
theorem Gr.back {F H F1 F' H':Hp} (sm:Same F H) (g:Gr F1 H F' H'):Gr F H F H':=⟨.refl _,g.hh,sm.trans g.hh,fun _ z=>.inl z⟩
section
variable {X:Cx} {B:Bd} {e:Expr} {f:En→Option PyData} {fs:En→Option (List PyData)} {p:En→Option Bool}
noncomputable def lendE (j:Nat) (f:En→Option PyData):En→Option PyData:=fun η=>(f (frz j η)).bind fun d=>if flatD d=true then some d else none
noncomputable def lendO (j:Nat) (f:En→Option (List PyData)):En→Option (List PyData):=fun η=>(f (frz j η)).bind fun ds=>if ds.all flatD=true then some ds else none
noncomputable def lendT (j:Nat) (f:En→Option Bool):En→Option Bool:=fun η=>f (frz j η)
end
section
variable {X:Cx} {B:Bd} {e o:Expr} {f g:En→Option PyData} {fs:En→Option (List PyData)} {pos pp rp rpos:Pos}
noncomputable def pAbs (ds:List PyData):Option PyData:=match ds with
  | [.int i]=>some (.int (if i < 0 then -i else i))
  | _=>none
noncomputable def rRng:List V→Hp→VK→Prop:=fun xs H Q=>∃ j:Int,xs=[.int j]∧∀ l,H l=none→Q (.ref l) (upd H l (.rng 0 j))
noncomputable def intsV (n:Nat):List V:=(List.range n).map fun (k:Nat)=>V.int (0+(k:Int))
noncomputable def rLRng:List V→Hp→VK→Prop:=fun xs H Q=>∃ (p:Addr) (j:Int),xs=[.ref p]∧H p=some (.rng 0 j)∧-(2 ^ 62)≤j∧j < 2 ^ 62∧j.toNat≤1000∧∀ l,H l=none→Q (.ref l) (upd H l (.lst (intsV j.toNat)))
end
end L2.PU
namespace L2.PU
open PySem PySem.Spec PyProof.Rows
noncomputable def Itd (p:Addr) (ob:Obj) (ks:List (Key×V)):It :=
  ⟨fun i H=>i < ks.length∧H p=some (.frz ob (.dK ks)),fun i H x H'=>H'=H∧∃ k v,ks[i]?=some (k,v)∧x=kV k,fun i H=>i=ks.length∧H p=some (.frz ob (.dK ks))⟩
section
variable {X:Cx} {B:Bd} {pos npos:Pos} {tg:Expr}
noncomputable def iDict (i:Nat):TI:=fun σ H R=>∃ p ob ks,σ[i]?=some (some (.ref p))∧H p=some (.frz ob (.dK ks))∧R (Itd p ob ks) H
noncomputable def keysD (kvs:List (Key×PyData)):List PyData:=kvs.map fun e=>kD e.1
noncomputable def sForD (i:Nat) (t:En→PyData→Option En) (body:En→Option Out):En→Option Out:=fun η=>match η[i]? with
  | some (.odc kvs)=>sGo t body (keysD kvs) (frz i η)
  | _=>none
end
end L2.PU
namespace L2.PU
open PySem PySem.Spec PyProof.Rows
section
variable {X:Cx} {B:Bd} {e o:Expr} {f g:En→Option PyData} {fs:En→Option (List PyData)} {pos pos' pp rp rpos:Pos}
noncomputable def lrS (ds:List PyData):Option (List PyData):=match ds with
  | [.int j]=>if -(2 ^ 62)≤j∧j < 2 ^ 62∧j.toNat≤1000 then some (rngL 0 j.toNat) else none
  | _=>none
noncomputable def pAtD (x y:PyData):Option PyData:=match x with
  | .dict es=>(keyOf y).bind fun k=>lookD es k
  | _=>none
end
section
variable {X:Cx} {B:Bd}
noncomputable abbrev PF:=(En→Option PyData)×(En→Option PyData)
noncomputable def DP (X:Cx) (B:Bd) (pos:Pos) (keys:List (Option Expr)) (values:List Expr) (ps:List PF):Prop:=PPs X pos keys values (ps.map fun p=>(tE X.K B p.1,tE X.K B p.2))
noncomputable def evP:List PF→En→Option (List (PyData×PyData))
  | [],_=>some []
  | (f,g)::r,η=>(f η).bind fun x=>(g η).bind fun y=>(evP r η).bind fun l=>some ((x,y)::l)
noncomputable def keysOf:List (PyData×PyData)→Option (List (Key×PyData))
  | []=>some []
  | (x,y)::r=>(keyOf x).bind fun k=>(keysOf r).bind fun l=>some ((k,y)::l)
noncomputable def RelP (K:PySem.W.Frag) (F:Hp):List (PyData×PyData)→List (V×V)→Prop
  | [],ps=>ps=[]
  | (x,y)::r,ps=>∃ u v t,ps=(u,v)::t∧Rel K F x u∧Rel K F y v∧RelP K F r t
noncomputable def mergeP (acc more:List (Key×PyData)):List (Key×PyData):=more.foldl (fun acc kv=>putP acc kv.1 kv.2) acc
noncomputable def sSetDL (i:Nat) (ps:List PF):En→Option Out:=fun η=>(evP ps η).bind fun es=>(keysOf es).bind fun kvs=>if kvs.length≤15 then some (.nx (η.set i (.odc (mergeP [] kvs)))) else none
end
section
variable {X:Cx} {B:Bd} {a b:Expr} {f g:En→Option PyData} {pos:Pos}
theorem E.le (ha:E X B a f) (hb:E X B b g):E X B (.Compare a [.LtE] [b] pos) (l2 pLe f g):=E.cmp op_le (ad_I0 fun _ _ _=>rel_bl) (nomark b) ha hb
end
end L2.PU
namespace L2.PU
open PySem PySem.Spec PyProof.Rows
noncomputable def Itel (K:PySem.W.Frag) (l:Addr) (n:Nat):It :=
  ⟨fun i H=>i < n∧∃ xs x,SqL K H l xs∧xs.length=n∧xs[i]?=some x,fun i H v H'=>∃ T x,H T=none∧(∀ xs,SqL K H l xs→xs[i]?=some x)∧v=.ref T∧H'=upd H T (.tup [.int (i:Nat),x]),fun i H=>i=n∧∃ xs,SqL K H l xs∧xs.length=n⟩
section
variable {X:Cx} {B:Bd} {a:Expr} {fs:En→Option (List PyData)} {pos pp:Pos}
noncomputable def enL (ds:List PyData):Option (List PyData):=match ds with
  | [.list xs]=>some (enumD xs 0)
  | _=>none
end
end L2.PU
namespace L2.PU
open PySem PySem.Spec PyProof.Rows
section
variable {X:Cx} {B:Bd} {e:Expr} {f g:En→Option PyData} {fs:En→Option (List PyData)} {pos pp:Pos}
noncomputable def keysP (es:List (PyData×PyData)):List PyData:=es.map (·.1)
noncomputable def rListD:List V→Hp→VK→Prop:=fun xs H Q=>∃ (p:Addr) (ks:List (Key×V)),xs=[.ref p]∧Rd H p (.dK ks)∧∀ l,H l=none→Q (.ref l) (upd H l (.lst (ks.map fun kv=>kV kv.1)))
noncomputable def pListD (ds:List PyData):Option PyData:=match ds with
  | [.dict es]=>some (.list (keysP es))
  | _=>none
noncomputable def rSortDI:List V→Hp→VK→Prop:=fun xs H Q=>∃ (p:Addr) (ks:List (Key×V)) (ns:List Int),xs=[.ref p]∧Rd H p (.dK ks)∧ks.map (·.1)=ns.map Sum.inl∧ns.length < 64∧∀ l,H l=none→Q (.ref l) (upd H l (.lst ((srtI ns).map V.int)))
noncomputable def pSortD (ds:List PyData):Option PyData:=match ds with
  | [.dict es]=>(asIs (keysP es)).bind fun ns=>if ns.length < 64 then some (.list ((srtI ns).map PyData.int)) else none
  | _=>none
noncomputable def delP (kvs:List (Key×PyData)) (k:Key):List (Key×PyData):=kvs.filter fun kv=>decide (kv.1≠k)
noncomputable def sPopD (i:Nat) (g:En→Option PyData):En→Option Out:=fun η=>(g η).bind fun y=>(keyOf y).bind fun k=>match η[i]? with
  | some (.odc kvs)=>if (lookD (prs kvs) k).isSome=true then some (.nx (η.set i (.odc (delP kvs k)))) else none
  | _=>none
end
end L2.PU
namespace L2.PU
open PySem PySem.Spec PyProof.Rows
mutual
noncomputable def cst:Expr→Option PyData
  | .Constant (.int i) _ _=>some (.int i)
  | .Constant (.str x) _ _=>some (.str x)
  | .Constant (.bool b) _ _=>some (.bool b)
  | .Constant .none _ _=>some .none
  | .UnaryOp .USub a _=>(cst a).bind pNeg
  | .Tuple es _ _=>(csts es).bind fun ds=>if ds.length≤1000 then some (.tuple ds) else none
  | .List es _=>(csts es).bind fun ds=>if ds.length≤1000 then some (.list ds) else none
  | _=>none
noncomputable def csts:List Expr→Option (List PyData)
  | []=>some []
  | e::r=>(cst e).bind fun d=>(csts r).bind fun ds=>some (d::ds)
end
theorem cst_nst {e:Expr} {d:PyData} (h:cst e=some d):nst e=true:=by
  cases e <;> first | rfl | (unfold cst at h; cases h)
section
variable {X:Cx} {B:Bd}
theorem big1000 {n:Nat} (h:n≤1000):n≤sizeLine:=Nat.le_trans h (by show 1000≤2 ^ 24; decide)
theorem E.same {e:Expr} {f g:En→Option PyData} (h:E X B e f) (k:∀ η,g η=f η):E X B e g:=by
  have:g=f:=funext k
  rw [this]; exact h
theorem A.same {e:List Expr} {f g:En→Option (List PyData)} (h:A X B e f) (k:∀ η,g η=f η):A X B e g:=by
  have:g=f:=funext k
  rw [this]; exact h
mutual
theorem cst_ok:∀ {e:Expr} {d:PyData},cst e=some d→E X B e (eC d)
  | .Constant (.int i) _ _,d,h=>by unfold cst at h; cases h; exact E.int
  | .Constant (.str x) _ _,d,h=>by unfold cst at h; cases h; exact E.str
  | .Constant (.bool b) _ _,d,h=>by unfold cst at h; cases h; exact E.bl
  | .Constant .none _ _,d,h=>by unfold cst at h; cases h; exact E.non
  | .UnaryOp .USub a _,d,h=>by
    unfold cst at h
    obtain ⟨x,h1,h2⟩:=bind_some h
    exact E.same (E.neg (cst_ok h1)) fun η=>h2.symm
  | .Tuple es _ _,d,h=>by
    unfold cst at h
    obtain ⟨ds,h1,h2⟩:=bind_some h
    split at h2
    · rename_i hl
      cases h2
      exact E.same (E.tup (csts_ok h1)) fun η=>(if_pos (big1000 hl)).symm
    · cases h2
  | .List es _,d,h=>by
    unfold cst at h
    obtain ⟨ds,h1,h2⟩:=bind_some h
    split at h2
    · rename_i hl
      cases h2
      refine E.same (EO.toE (EO.lst (csts_ok h1))) fun η=>?_
      show some (PyData.list ds)=((gL ds).bind fun ds=>some (PyData.list ds))
      unfold gL
      rw [if_pos (big1000 hl)]; rfl
    · cases h2
theorem csts_ok:∀ {es:List Expr} {ds:List PyData},csts es=some ds→A X B es (fun _=>some ds)
  | [],ds,h=>by unfold csts at h; cases h; exact A.nil
  | e::r,ds,h=>by
    unfold csts at h
    obtain ⟨d,h1,h⟩:=bind_some h
    obtain ⟨ds',h2,h⟩:=bind_some h
    cases h
    exact A.same (A.cons (cst_ok h1) (csts_ok h2) (star_of (cst_nst h1))) fun η=>rfl
end
theorem E.cst {e:Expr} {d:PyData} (h:PU.cst e=some d):E X B e (eC d):=cst_ok h
end
end L2.PU
namespace L2.PU
open PySem PySem.Spec PyProof.Rows
noncomputable def Itz (K:PySem.W.Frag) (l1 l2:Addr) (n:Nat):It :=
  ⟨fun i H=>i < n∧∃ xs ys x y,SqL K H l1 xs∧SqL K H l2 ys∧min xs.length ys.length=n∧xs[i]?=some x∧ys[i]?=some y,
   fun i H v H'=>∃ T x y,H T=none∧(∀ xs,SqL K H l1 xs→xs[i]?=some x)∧(∀ ys,SqL K H l2 ys→ys[i]?=some y)∧v=.ref T∧H'=upd H T (.tup [x,y]),
   fun i H=>i=n∧∃ xs ys,SqL K H l1 xs∧SqL K H l2 ys∧min xs.length ys.length=n⟩
theorem turn_zip {P:Program} {w:World} {K:PySem.W.Frag} {elts:List Expr} {k:Nat} {tp:Pos} {z TI TO i1 i2 l1 l2:Addr} {n:Nat} (D:ZipApart z TI TO i1 i2 l1 l2) :
    Turn P w K (.Tuple elts k tp) (Itz K l1 l2 n) [z,TI,TO,i1,i2] z (fun i h=>IsZip h z TI TO .none∧IsPair h TI (.ref i1) (.ref i2)∧(∃ a b,IsPair h TO a b)∧h.IsListIter i1 l1 i∧h.IsListIter i2 l2 i) where
  mem:=by simp
  obj:=fun i h st b hb=>by
    obtain ⟨hz,h1,⟨a,c,h2⟩,h3,h4⟩:=st
    simp only [List.mem_cons,List.not_mem_nil,or_false] at hb
    rcases hb with rfl | rfl | rfl | rfl | rfl
    · exact ⟨_,hz,fun v z=>by cases z⟩
    · exact ⟨_,h1,fun v z=>by cases z⟩
    · exact ⟨_,h2,fun v z=>by cases z⟩
    · obtain ⟨o,ho,hcl,hd⟩:=h3
      exact ⟨o,ho,fun v z=>by rw [hd] at z; cases z⟩
    · obtain ⟨o,ho,hcl,hd⟩:=h4
      exact ⟨o,ho,fun v z=>by rw [hd] at z; cases z⟩
  keep:=fun i h h' st kk=>by
    obtain ⟨hz,h1,⟨a,c,h2⟩,h3,h4⟩:=st
    exact ⟨kk z (by simp) _ hz,kk TI (by simp) _ h1,⟨a,c,kk TO (by simp) _ h2⟩,h3.at fun o q=>kk i1 (by simp) o q,h4.at fun o q=>kk i2 (by simp) o q⟩
  item:=by
    intro X hP hw hK hc i pins s σ H E I hf st hg
    subst hP hw hK
    obtain ⟨hin,xs,ys,x,y,hq1,hq2,hxl,hx,hy⟩:=hg
    obtain ⟨its1,rv1,pl1,hz1⟩:=I.list hq1
    obtain ⟨its2,rv2,pl2,hz2⟩:=I.list hq2
    obtain ⟨u1,hu1,ru1⟩:=rv1.get hx
    obtain ⟨u2,hu2,ru2⟩:=rv2.get hy
    have hlen:min its1.toArray.size its2.toArray.size=n:=by rw [List.size_toArray,List.size_toArray,← rv1.length,← rv2.length]; exact hxl
    have W:=WalksT.zip2 (prog:=X.prog) (w:=X.w) (A:=X.A) (I.ok.hd hc) z TI TO i1 i2 l1 l2 D its1.toArray its2.toArray
    obtain ⟨s1,s2,s3,s4,s5⟩:=st
    refine W.item i s _ _ (by rw [hlen]; exact hin) ⟨s1,s2,s3,s4,s5,pl1.isList,pl2.isList⟩ fun T vals h' tk Pt hT hIs Md kp=>⟨.ref T,rfl,?_⟩
    refine W.go elts k tp i T _ _ _ Md fun h'' st'' kp''=>?_
    obtain ⟨xv,yv,hxv,hyv,rfl⟩:=Pt
    have exu:xv=u1:=by
      have:its1.toArray[i]?=some u1:=by simpa using hu1
      rw [this] at hxv
      exact (Option.some.inj hxv).symm
    have eyu:yv=u2:=by
      have:its2.toArray[i]?=some u2:=by simpa using hu2
      rw [this] at hyv
      exact (Option.some.inj hyv).symm
    subst exu eyu
    have nT:H T=none:=I.hok.fresh hT
    have aT0:T∉[z,TO,i1,i2]:=W.apart i T _ Md
    have ltT:∀ b o,s.heap.get? b=some o→b≠T:=fun b o q=>Nat.ne_of_lt (Nat.lt_of_lt_of_le (Heap.lt_size q) hT)
    have aT:T∉[z,TI,TO,i1,i2]:=fun hb=>by
      simp only [List.mem_cons,List.not_mem_nil,or_false,not_or] at hb aT0
      rcases hb with e | e | e | e | e
      · exact aT0.1 e
      · exact ltT TI _ s2 e.symm
      · exact aT0.2.1 e
      · exact aT0.2.2.1 e
      · exact aT0.2.2.2 e
    have wr:∀ b,b∉[z,TI,TO,i1,i2]→b∉[z,TO,i1,i2]:=fun b hb hm=>hb (by simp only [List.mem_cons,List.not_mem_nil,or_false] at hm ⊢; rcases hm with e | e | e | e <;> simp [e])
    have kall:∀ b o,b∉[z,TI,TO,i1,i2]→s.heap.get? b=some o→h''.get? b=some o:=fun b o hb q=>kp'' b o (wr b hb) (kp b o (wr b hb) q)
    have hIs'':IsTup h'' T #[xv,yv]:=by
      obtain ⟨o,ho,hcl,n,hd⟩:=hIs
      exact ⟨o,kp'' T o aT0 ho,hcl,n,hd⟩
    have nfp:∀ b o,H b=some o→b∉[z,TI,TO,i1,i2]:=fun b o q hb=>by rw [(hf b hb).1] at q; cases q
    have J:Inv X pins σ (upd H T (.tup [x,y])) { s with heap:=h'',toks:=tk }:=by
      refine I.step (h':=h'') (g':=s.gens) (d':=s.drawn) (t':=tk) (ch:=[z,TI,TO,i1,i2]) (fun b hb=>⟨(hf b hb).2.2.2.1,(hf b hb).2.1,(hf b hb).2.2.2.2.1,(hf b hb).2.2.2.2.2⟩)
        (fun b o _ _ hb q _=>kall b o hb q) (fun b o _ _ hb q _=>⟨o.slots,kall b o hb q⟩) (fun b o _ q n=>by rw [upd_ne (ltT b o q)]; exact n) (fun b o hb q=>⟨o,kall b o hb q⟩)
        (fun b xs q=>by rw [upd_ne (ne_of_none q nT)]; exact q) (fun b o xs q=>by rw [upd_ne (ne_of_none q nT)]; exact q) (fun b ps q=>⟨#[],by rw [upd_ne (ne_of_none q nT),q]; simp⟩) (fun m hm=>?_) (fun b o q=>?_) I.bare
      · obtain ⟨o,es,ep,ho,r⟩:=hm
        refine ⟨o,es,ep,kall _ o (fun hb=>?_) ho,r⟩
        exact (hf _ hb).2.1 rfl
      · by_cases hb:b=T
        · subst hb
          rw [upd_same] at q
          cases q
          exact ⟨by show 2≤sizeLine; decide,[xv,yv],.cons ru1 (.cons ru2 .nil),hIs''⟩
        · rw [upd_ne hb] at q
          refine (I.hok b o q).stay (fun c' v hc' z=>kall c' v ?_ z) (fun c' z=>by rw [upd_ne (ne_of_none z nT)]; exact z) fun c' xs z=>by rw [upd_ne (ne_of_none z nT)]; exact z
          rcases hc' with rfl | hc'
          · exact nfp _ _ q
          · exact nfp _ _ hc'
    refine ⟨.ref T,upd H T (.tup [x,y]),J,rfl,⟨T,x,y,nT,fun zs hz=>by rw [I.list_inj hz hq1]; exact hx,fun zs hz=>by rw [I.list_inj hz hq2]; exact hy,rfl,rfl⟩,⟨st''.1,st''.2.1,st''.2.2.1,st''.2.2.2.1,st''.2.2.2.2.1⟩,fun b hb=>?_⟩
    have nb:b≠T:=fun z=>aT (by rw [← z]; exact hb)
    rw [upd_ne nb]; exact (hf b hb).1
  done:=by
    intro X hP hw hK hc i pins s σ H E I hf st hg
    subst hP hw hK
    obtain ⟨hin,xs,ys,hq1,hq2,hxl⟩:=hg
    obtain ⟨its1,rv1,pl1,hz1⟩:=I.list hq1
    obtain ⟨its2,rv2,pl2,hz2⟩:=I.list hq2
    have hlen:min its1.toArray.size its2.toArray.size=n:=by rw [List.size_toArray,List.size_toArray,← rv1.length,← rv2.length]; exact hxl
    have W:=WalksT.zip2 (prog:=X.prog) (w:=X.w) (A:=X.A) (I.ok.hd hc) z TI TO i1 i2 l1 l2 D its1.toArray its2.toArray
    rw [hin,← hlen] at st
    obtain ⟨s1,s2,s3,s4,s5⟩:=st
    have wr:∀ b,b∉[z,TI,TO,i1,i2]→b∉[z,TO,i1,i2]:=fun b hb hm=>hb (by simp only [List.mem_cons,List.not_mem_nil,or_false] at hm ⊢; rcases hm with e | e | e | e <;> simp [e])
    refine W.done s _ _ ⟨s1,s2,s3,s4,s5,pl1.isList,pl2.isList⟩ fun h' tk kp=>⟨rfl,?_⟩
    have nfp:∀ b o,H b=some o→b∉[z,TI,TO,i1,i2]:=fun b o q hb=>by rw [(hf b hb).1] at q; cases q
    refine I.step (h':=h') (g':=s.gens) (d':=s.drawn) (t':=tk) (ch:=[z,TI,TO,i1,i2]) (fun b hb=>⟨(hf b hb).2.2.2.1,(hf b hb).2.1,(hf b hb).2.2.2.2.1,(hf b hb).2.2.2.2.2⟩)
      (fun b o _ _ hb q _=>kp b o (wr b hb) q) (fun b o _ _ hb q _=>⟨o.slots,kp b o (wr b hb) q⟩) (fun _ _ _ _ n=>n) (fun b o hb q=>⟨o,kp b o (wr b hb) q⟩)
      (fun _ _ q=>q) (fun _ _ _ q=>q) (fun b ps q=>⟨#[],by rw [q]; simp⟩) (fun m hm=>?_) (fun b o q=>?_) I.bare
    · obtain ⟨o,es,ep,ho,r⟩:=hm
      exact ⟨o,es,ep,kp _ o (wr _ fun hb=>(hf _ hb).2.1 rfl) ho,r⟩
    · refine (I.hok b o q).stay (fun c' v hc' z=>kp c' v (wr _ ?_) z) (fun _ z=>z) fun _ _ z=>z
      rcases hc' with rfl | hc'
      · exact nfp _ _ q
      · exact nfp _ _ hc'
  self:=fun A i s Q E st h=>wpAny_pyIter_zip st.1 h
section
variable {X:Cx} {B:Bd} {a b:Expr} {fs:En→Option (List PyData)} {pos pp:Pos}
noncomputable def zpD:List PyData→List PyData→List PyData
  | x::xs,y::ys=>.tuple [x,y]::zpD xs ys
  | _,_=>[]
noncomputable def zpL (ds:List PyData):Option (List PyData):=match ds with
  | [.list xs,.list ys]=>some (zpD xs ys)
  | _=>none
theorem zpD_len:∀ xs ys:List PyData,(zpD xs ys).length=min xs.length ys.length
  | [],ys=>by simp [zpD]
  | x::xs,[]=>by simp [zpD]
  | x::xs,y::ys=>by rw [zpD,List.length_cons,zpD_len xs ys,List.length_cons,List.length_cons]; omega
theorem zpD_get:∀ (xs ys:List PyData) (i:Nat) (d:PyData),(zpD xs ys)[i]?=some d→∃ x y,xs[i]?=some x∧ys[i]?=some y∧d=.tuple [x,y]
  | [],ys,i,d,h=>by simp [zpD] at h
  | x::xs,[],i,d,h=>by simp [zpD] at h
  | x::xs,y::ys,0,d,h=>by simp [zpD] at h; exact ⟨x,y,rfl,rfl,h.symm⟩
  | x::xs,y::ys,i+1,d,h=>by
    rw [zpD,List.getElem?_cons_succ] at h
    obtain ⟨a,b,h1,h2,h3⟩:=zpD_get xs ys i d h
    exact ⟨a,b,by simpa using h1,by simpa using h2,h3⟩
theorem itp_zip {K:PySem.W.Frag} {F:Hp} {l1 l2:Addr} {ds es:List PyData} {xs ys:List V} (hq1:SqL K F l1 xs) (hq2:SqL K F l2 ys) (r1:RelL K F ds xs) (r2:RelL K F es ys):ItP K (Itz K l1 l2 (min ds.length es.length)) F (zpD ds es):=fun F1 H1 i s1 s2=>by
  have q1:SqL K H1 l1 xs:=s2.seq (s1.seq hq1)
  have q2:SqL K H1 l2 ys:=s2.seq (s1.seq hq2)
  have hl:min xs.length ys.length=min ds.length es.length:=by rw [r1.length,r2.length]
  refine ⟨fun d e=>?_,fun e=>⟨by rw [e,zpD_len],xs,ys,q1,q2,hl⟩⟩
  have hi:i < min ds.length es.length:=by
    have:=(List.getElem?_eq_some_iff.mp e).1
    rwa [zpD_len] at this
  obtain ⟨x,y,h1,h2,h3⟩:=zpD_get _ _ _ _ e
  obtain ⟨vx,hx,rx⟩:=r1.get h1
  obtain ⟨vy,hy,ry⟩:=r2.get h2
  refine ⟨⟨hi,xs,ys,vx,vy,q1,q2,hl,hx,hy⟩,fun v H2 z=>?_⟩
  obtain ⟨T,x',y',hT,hxx,hyy,rfl,rfl⟩:=z
  have e1:=(hxx xs q1).symm.trans hx
  have e2:=(hyy ys q2).symm.trans hy
  cases e1
  cases e2
  subst h3
  have g:=Gr.one (o:=.tup [vx,vy]) s2 hT
  exact ⟨_,g,rel_tup (SqT.of upd_same) (.cons (rx.mono (s1.trans g.ff)) (.cons (ry.mono (s1.trans g.ff)) .nil))⟩
end
section
variable {X:Cx} {B:Bd} {a b:Expr} {fs:En→Option (List PyData)} {pos pp:Pos}
theorem I.zip {elts:List Expr} {k:Nat} {tp:Pos} (hm:X.mg "zip" = none) (ha:A X B [a,b] fs) (hg:Gl X "zip" := by rfl) (hs:starEach [a,b] X.env=(false,eval a X.env)::starEach [b] X.env:=by exact star_of rfl) (hpl:(backTo pos (starEach [b] X.env)).any (·.1)=false:=by exact plain_of rfl) :
    I X B (.Tuple elts k tp) (.Call (.Name "zip" pp) [a,b] [] pos) (fun η=>(fs η).bind zpL):=by
  intro pins s σ H R I ⟨F,η,ds,sr,hd,q⟩
  obtain ⟨es,h1,hd⟩:=bind_some hd
  unfold zpL at hd
  split at hd
  · rename_i x y
    cases hd
    refine Call_ (ld_blt I hg hm boot_zip (PyProof.Rows.callWith_type1 (thn (ha pos pins s σ H (fun vs H1=>∃ F',Gr F H F' H1∧RelL X.K F' [.list x,.list y] vs) I ⟨F,η,_,sr,h1,fun vs F' H' g r=>⟨F',g,r⟩⟩) fun us s1 ⟨vs,H1,I1,r1,F1,g1,rl⟩=>?_) hs hpl))
    obtain ⟨v1,r,rfl,ry1,rr⟩:=rl.cons_of
    obtain ⟨v2,r',rfl,ry2,rr⟩:=rr.cons_of
    obtain rfl:=rr.nil_of
    obtain ⟨p1,xs,rfl,hq1,rs1⟩:=ry1.lst
    obtain ⟨p2,ys,rfl,hq2,rs2⟩:=ry2.lst
    obtain ⟨u1,u2,rfl,ru1,ru2⟩:=vals2 r1
    cases ru1
    cases ru2
    obtain ⟨its1,rv1,pl1,hz1⟩:=I1.list (g1.fh.seq hq1)
    obtain ⟨its2,rv2,pl2,hz2⟩:=I1.list (g1.fh.seq hq2)
    have hpl1:p1 < s1.heap.objs.size:=by
      obtain ⟨o,ho,_⟩:=pl1.isList
      exact Heap.lt_size ho
    have hpl2:p2 < s1.heap.objs.size:=by
      obtain ⟨o,ho,_⟩:=pl2.isList
      exact Heap.lt_size ho
    refine call_zip_2 pl1.isList pl2.isList fun h' hz hTI hTO hi1 hi2 hsz hk=>?_
    refine wpAny_pyIter_zip hz ?_
    have I2:Inv X pins σ H1 { s1 with heap:=h' }:=I1.kept (t':=s1.toks) hk
    have nw:∀ b,s1.heap.objs.size≤b→FpOk X pins H1 b:=fun b hb=>I1.fpOk hb (I1.hok.fresh hb)
    have fpo:∀ b∈[s1.heap.objs.size+4,s1.heap.objs.size+2,s1.heap.objs.size+3,s1.heap.objs.size,s1.heap.objs.size+1],FpOk X pins H1 b:=fun b hb=>nw b (by
      simp only [List.mem_cons,List.not_mem_nil,or_false] at hb
      rcases hb with rfl | rfl | rfl | rfl | rfl <;> omega)
    exact ⟨_,_,_,_,H1,rfl,I2,turn_zip (n:=min x.length y.length) (zipApart_new hpl1 hpl2),⟨hz,hTI,⟨_,_,hTO⟩,hi1,hi2⟩,fpo,q _ F1 H1 g1 (itp_zip hq1 hq2 rs1 rs2)⟩
  · cases hd
end
section
variable {X:Cx} {B:Bd} {e:Expr} {fs:En→Option (List PyData)} {pos pp:Pos}
noncomputable def rListL (K:PySem.W.Frag):List V→Hp→VK→Prop:=fun xs H Q=>∃ (p:Addr) (ys:List V),xs=[.ref p]∧SqL K H p ys∧∀ l,H l=none→Q (.ref l) (upd H l (.lst ys))
theorem call_listL:CallR X (.type "list") (rListL X.K):=by
  intro pins s σ H xs us Q I r h
  obtain ⟨p,ys,rfl,hp,q⟩:=h
  obtain ⟨u,rfl,ru⟩:=vals1 r
  cases ru
  obtain ⟨its,rv,pl,hz⟩:=I.list hp
  obtain ⟨o,ho,hc,n,hd⟩:=pl.isList
  have hz':ys.length≤sizeLine:=by first | exact hz | (rw [rv.length]; exact hz)
  refine call_list_seq (hsz:=by rw [List.size_toArray,← rv.length]; exact hz') p (.inl rfl) ho hc hd fun h' c' hk hD=>?_
  exact ⟨.ref s.heap.objs.size,_,I.laid (t':=s.toks) hk (Nat.le_refl _) (o:=.lst ys) ⟨hz',its,c',rv,hD⟩,rfl,q _ (I.hok.fresh (Nat.le_refl _))⟩
noncomputable def pListL (ds:List PyData):Option PyData:=match ds with
  | [.list xs]=>some (.list xs)
  | _=>none
theorem ad_listL {K:PySem.W.Frag}:AdA K (rListL K) pListL:=fun F H xs ds d Q sm rs e q=>by
  unfold pListL at e
  split at e
  · rename_i es
    cases e
    obtain ⟨x,r,rfl,rx,rr⟩:=rs.cons_of
    obtain rfl:=rr.nil_of
    obtain ⟨a,ys,rfl,hq,r1⟩:=rx.lst
    refine ⟨a,ys,rfl,sm.seq hq,fun p hp=>?_⟩
    have g:=Gr.one (o:=.lst ys) sm hp
    exact q _ _ _ g (rel_lst (SqL.of upd_same) (r1.mono g.ff))
  · cases e
theorem E.listL (hm:X.mg "list" = none) (ha:A X B [e] fs) (hg:Gl X "list" := by rfl) (he:starEach [e] X.env=(false,eval e X.env)::starEach [] X.env:=by exact star_of rfl) (hpl:(backTo pos (starEach [] X.env)).any (·.1)=false:=by rfl):E X B (.Call (.Name "list" pp) [e] [] pos) (lA pListL fs) :=
  E.callTy call_listL ad_listL hm (by decide +kernel) ha hg (by decide) (by decide) he hpl
noncomputable def sBk:En→Option Out:=fun η=>some (.bk η)
theorem S.brk:S X B (.Break pos) sBk:=PS.imp ps_break fun D σ H ⟨F,η,o,sr,hd,q⟩=>by
  cases hd
  exact q σ F H sr (.refl _)
end
end L2.PU
namespace L2.PU
open PySem PySem.Spec PyProof.Rows
inductive D where
  | d (x:PyData)
  | r (n:Nat)
inductive Cell where
  | obj (k:Nat) (fs:List (Str×D))
  | lst (ds:List D)
  | dct (kvs:List (Key×D))
  | fz (x:PyData)
noncomputable abbrev Sto:=List Cell
noncomputable abbrev MEn:=List (Option D)
noncomputable def DR (K:PySem.W.Frag) (θ:List Addr) (F:Hp):D→V→Prop
  | .d x,v=>Rel K F x v
  | .r n,v=>∃ a,θ[n]?=some a∧v=.ref a
noncomputable abbrev DRs (K:PySem.W.Frag) (θ:List Addr) (F:Hp):List D→List V→Prop:=Paired (DR K θ F)
noncomputable abbrev DRf (K:PySem.W.Frag) (θ:List Addr) (F:Hp):List (Str×D)→List (Str×V)→Prop:=Paired fun p q=>p.1=q.1∧DR K θ F p.2 q.2
noncomputable abbrev DRk (K:PySem.W.Frag) (θ:List Addr) (F:Hp):List (Key×D)→List (Key×V)→Prop:=Paired fun p q=>p.1=q.1∧DR K θ F p.2 q.2
noncomputable def CelR (K:PySem.W.Frag) (cl:Nat→Addr) (θ:List Addr) (F H:Hp) (a:Addr):Cell→Prop
  | .obj k fs=>F a=none∧Cls K (cl k)∧(∀ f∈fs.map (·.1),NoAttr K (cl k) f)∧∃ dx xs,H a=some (.ins (cl k) dx xs)∧DRf K θ F fs xs
  | .lst ds=>F a=none∧∃ xs,H a=some (.lst xs)∧DRs K θ F ds xs
  | .dct kvs=>F a=none∧∃ ks,H a=some (.dK ks)∧DRk K θ F kvs ks
  | .fz x=>Rel K F x (.ref a)∧∃ o,H a=some o
structure MR (K:PySem.W.Frag) (cl:Nat→Addr) (θ:List Addr) (F H:Hp) (s:Sto):Prop where
  sm:Same F H
  len:θ.length=s.length
  nd:θ.Nodup
  cel:∀ (n:Nat) a c,θ[n]?=some a→s[n]?=some c→CelR K cl θ F H a c
structure MV (K:PySem.W.Frag) (θ:List Addr) (F:Hp) (σ:St) (η:MEn):Prop where
  len:η.length=σ.length
  val:∀ (i:Nat) d,η[i]?=some (some d)→∃ v,σ[i]?=some (some v)∧DR K θ F d v
section
variable {K:PySem.W.Frag} {cl:Nat→Addr} {θ θ':List Addr} {F F' H H':Hp} {s:Sto} {σ:St} {η:MEn}
theorem pre_get {α:Type} {l l':List α} (h:l <+: l') {n:Nat} {a:α} (e:l[n]?=some a):l'[n]?=some a:=by
  obtain ⟨t,rfl⟩:=h
  rw [List.getElem?_append_left (List.getElem?_eq_some_iff.mp e).1]; exact e
theorem DR.mono (hp:θ <+: θ') (hs:Same F F'):∀ {d:D} {v:V},DR K θ F d v→DR K θ' F' d v
  | .d _,_,h=>Rel.mono hs h
  | .r _,_,⟨a,e1,e2⟩=>⟨a,pre_get hp e1,e2⟩
theorem DRs.mono (hp:θ <+: θ') (hs:Same F F') {ds:List D} {vs:List V} (h:DRs K θ F ds vs):DRs K θ' F' ds vs:=Paired.mapP h fun _ _ r=>DR.mono hp hs r
theorem DRf.mono (hp:θ <+: θ') (hs:Same F F') {ds:List (Str×D)} {vs:List (Str×V)} (h:DRf K θ F ds vs):DRf K θ' F' ds vs:=Paired.mapP h fun _ _ r=>⟨r.1,DR.mono hp hs r.2⟩
theorem DRk.mono (hp:θ <+: θ') (hs:Same F F') {ds:List (Key×D)} {vs:List (Key×V)} (h:DRk K θ F ds vs):DRk K θ' F' ds vs:=Paired.mapP h fun _ _ r=>⟨r.1,DR.mono hp hs r.2⟩
theorem MV.mono (hp:θ <+: θ') (hs:Same F F') (h:MV K θ F σ η):MV K θ' F' σ η:=⟨h.len,fun i d e=>let ⟨v,e1,e2⟩:=h.val i d e; ⟨v,e1,e2.mono hp hs⟩⟩
theorem MV.set (h:MV K θ F σ η) (i:Nat) {d:D} {v:V} (r:DR K θ F d v):MV K θ F (σ.set i (some v)) (η.set i (some d)):=by
  refine ⟨by rw [List.length_set,List.length_set]; exact h.len,fun j d' e=>?_⟩
  by_cases hj:i=j
  · subst hj
    by_cases hl:i < η.length
    · rw [List.getElem?_set_self hl] at e
      have e':d=d':=Option.some.inj (Option.some.inj e)
      subst e'
      exact ⟨v,by rw [List.getElem?_set_self (by rw [← h.len]; exact hl)],r⟩
    · rw [List.getElem?_eq_none (by rw [List.length_set]; omega)] at e; cases e
  · rw [List.getElem?_set_ne hj] at e ⊢; exact h.val j d' e
theorem DRs.get {ds:List D} {vs:List V} (h:DRs K θ F ds vs) {i:Nat} {d:D} (e:ds[i]?=some d):∃ v,vs[i]?=some v∧DR K θ F d v:=by
  induction h generalizing i with
  | nil=>simp at e
  | @cons a b as bs r t ih =>
    cases i with
    | zero=>simp at e; subst e; exact ⟨b,rfl,r⟩
    | succ i=>exact ih (by simpa using e)
theorem MR.grow (m:MR K cl θ F H s) (g:Gr F H F' H'):MR K cl θ F' H' s where
  sm:=g.fh
  len:=m.len
  nd:=m.nd
  cel:=fun n a c e1 e2=>by
    have q:=m.cel n a c e1 e2
    have fr:F a=none→∀ o,H a=some o→F' a=none:=fun hF o hH=>by
      cases z:F' a with
      | none=>rfl
      | some u =>
        rcases g.new a (by rw [z]; simp) with y | y
        · exact absurd hF y
        · rw [hH] at y; cases y
    cases c with
    | obj k fs =>
      obtain ⟨h1,h2,h3,dx,xs,h4,h5⟩:=q
      exact ⟨fr h1 _ h4,h2,h3,dx,xs,g.hh _ _ h4,h5.mono (List.prefix_refl _) g.ff⟩
    | lst ds =>
      obtain ⟨h1,xs,h4,h5⟩:=q
      exact ⟨fr h1 _ h4,xs,g.hh _ _ h4,h5.mono (List.prefix_refl _) g.ff⟩
    | dct kvs =>
      obtain ⟨h1,xs,h4,h5⟩:=q
      exact ⟨fr h1 _ h4,xs,g.hh _ _ h4,h5.mono (List.prefix_refl _) g.ff⟩
    | fz x=>exact ⟨Rel.mono g.ff q.1,let ⟨o,e⟩:=q.2; ⟨o,g.hh _ _ e⟩⟩
noncomputable def Mu:Cell→Bool
  | .fz _=>false
  | _=>true
theorem CelR.mut {a:Addr} {c:Cell} (h:CelR K cl θ F H a c) (hm:Mu c=true):F a=none∧∃ o,H a=some o:=by
  cases c with
  | obj k fs=>obtain ⟨h1,_,_,dx,xs,h4,_⟩:=h; exact ⟨h1,_,h4⟩
  | lst ds=>obtain ⟨h1,xs,h4,_⟩:=h; exact ⟨h1,_,h4⟩
  | dct kvs=>obtain ⟨h1,xs,h4,_⟩:=h; exact ⟨h1,_,h4⟩
  | fz x=>cases hm
theorem CelR.else {a b:Addr} {o:HO} {c:Cell} (h:CelR K cl θ F H a c) (hne:a≠b):CelR K cl θ F (upd H b o) a c:=by
  cases c with
  | obj k fs=>obtain ⟨h1,h2,h3,dx,xs,h4,h5⟩:=h; exact ⟨h1,h2,h3,dx,xs,by rw [upd_ne hne]; exact h4,h5⟩
  | lst ds=>obtain ⟨h1,xs,h4,h5⟩:=h; exact ⟨h1,xs,by rw [upd_ne hne]; exact h4,h5⟩
  | dct kvs=>obtain ⟨h1,xs,h4,h5⟩:=h; exact ⟨h1,xs,by rw [upd_ne hne]; exact h4,h5⟩
  | fz x=>exact ⟨h.1,let ⟨o,e⟩:=h.2; ⟨o,by rw [upd_ne hne]; exact e⟩⟩
theorem CelR.pre {a:Addr} {c:Cell} (hp:θ <+: θ') (h:CelR K cl θ F H a c):CelR K cl θ' F H a c:=by
  cases c with
  | obj k fs=>obtain ⟨h1,h2,h3,dx,xs,h4,h5⟩:=h; exact ⟨h1,h2,h3,dx,xs,h4,h5.mono hp (.refl _)⟩
  | lst ds=>obtain ⟨h1,xs,h4,h5⟩:=h; exact ⟨h1,xs,h4,h5.mono hp (.refl _)⟩
  | dct kvs=>obtain ⟨h1,xs,h4,h5⟩:=h; exact ⟨h1,xs,h4,h5.mono hp (.refl _)⟩
  | fz x=>exact h
theorem nd_ne {l:List Addr} (h:l.Nodup) {i j:Nat} {a b:Addr} (e1:l[i]?=some a) (e2:l[j]?=some b) (hne:i≠j):a≠b:=fun z=>by
  subst z
  obtain ⟨l1,q1⟩:=List.getElem?_eq_some_iff.mp e1
  obtain ⟨l2,q2⟩:=List.getElem?_eq_some_iff.mp e2
  have pw:=List.pairwise_iff_getElem.mp h
  rcases Nat.lt_or_gt_of_ne hne with z | z
  · exact pw i j l1 l2 z (q1.trans q2.symm)
  · exact pw j i l2 l1 z (q2.trans q1.symm)
theorem MR.put (m:MR K cl θ F H s) {n:Nat} {a:Addr} {c c':Cell} {o:HO} (e1:θ[n]?=some a) (e2:s[n]?=some c) (hm:Mu c=true) (h:CelR K cl θ F (upd H a o) a c'):MR K cl θ F (upd H a o) (s.set n c') where
  sm:=fun b u q=>by
    have nb:b≠a:=ne_of_none q (CelR.mut (m.cel n a c e1 e2) hm).1
    rw [upd_ne nb]; exact m.sm b u q
  len:=by rw [List.length_set]; exact m.len
  nd:=m.nd
  cel:=fun k b c2 f1 f2=>by
    by_cases hk:n=k
    · subst hk
      rw [List.getElem?_set_self (List.getElem?_eq_some_iff.mp e2).1] at f2
      cases f2
      rw [e1] at f1
      cases f1
      exact h
    · rw [List.getElem?_set_ne hk] at f2
      exact (m.cel k b c2 f1 f2).else (nd_ne m.nd f1 e1 (Ne.symm hk))
theorem CelR.there {a:Addr} {c:Cell} (h:CelR K cl θ F H a c):∃ o,H a=some o:=by
  cases c with
  | obj k fs=>obtain ⟨_,_,_,dx,xs,h4,_⟩:=h; exact ⟨_,h4⟩
  | lst ds=>obtain ⟨_,xs,h4,_⟩:=h; exact ⟨_,h4⟩
  | dct kvs=>obtain ⟨_,xs,h4,_⟩:=h; exact ⟨_,h4⟩
  | fz x=>exact h.2
theorem MR.ne (m:MR K cl θ F H s) {a:Addr} (ha:H a=none) {k:Nat} {b:Addr} (e:θ[k]?=some b):b≠a:=fun z=>by
  subst z
  have hk:k < s.length:=by rw [← m.len]; exact (List.getElem?_eq_some_iff.mp e).1
  obtain ⟨o,h⟩:=(m.cel k b _ e (List.getElem?_eq_getElem hk)).there
  rw [ha] at h; cases h
theorem MR.new (m:MR K cl θ F H s) {a:Addr} {c:Cell} {o:HO} (ha:H a=none) (h:CelR K cl (θ++[a]) F (upd H a o) a c):MR K cl (θ++[a]) F (upd H a o) (s++[c]) where
  sm:=fun b u q=>by
    have nb:b≠a:=ne_of_none q (m.sm.free ha)
    rw [upd_ne nb]; exact m.sm b u q
  len:=by rw [List.length_append,List.length_append,m.len]; rfl
  nd:=by
    rw [List.nodup_append]
    refine ⟨m.nd,by simp,fun b hb b' hb'=>?_⟩
    rw [List.mem_singleton.mp hb']
    obtain ⟨k,hk⟩:=List.getElem?_of_mem hb
    exact m.ne ha hk
  cel:=fun k b c2 f1 f2=>by
    by_cases hk:k < θ.length
    · rw [List.getElem?_append_left hk] at f1
      rw [List.getElem?_append_left (by rw [← m.len]; exact hk)] at f2
      exact ((m.cel k b c2 f1 f2).else (m.ne ha f1)).pre (List.prefix_append _ _)
    · have hk1:k=θ.length:=by
        have:=(List.getElem?_eq_some_iff.mp f1).1
        rw [List.length_append] at this
        have e1:[a].length=1:=rfl
        omega
      subst hk1
      rw [List.getElem?_append_right (Nat.le_refl _),Nat.sub_self] at f1
      rw [List.getElem?_append_right (by rw [m.len]; exact Nat.le_refl _),m.len,Nat.sub_self] at f2
      cases f1
      cases f2
      exact h
theorem MR.more (m:MR K cl θ F H s) {a:Addr} {o:HO} (ha:H a=none):MR K cl θ F (upd H a o) s where
  sm:=fun b u q=>by
    have nb:b≠a:=ne_of_none q (m.sm.free ha)
    rw [upd_ne nb]; exact m.sm b u q
  len:=m.len
  nd:=m.nd
  cel:=fun k b c f1 f2=>(m.cel k b c f1 f2).else (m.ne ha f1)
end
end L2.PU
namespace L2.PU
open PySem PySem.Spec PyProof.Rows
structure Wd where
  η:MEn
  s:Sto
noncomputable def pD (s:Sto):D→Option PyData
  | .d x=>some x
  | .r n=>match s[n]? with | some (.fz x)=>some x | _=>none
noncomputable def dOnly:D→Option PyData
  | .d x=>some x
  | .r _=>none
noncomputable def dAll:List D→Option (List PyData)
  | []=>some []
  | d::r=>(dOnly d).bind fun x=>(dAll r).bind fun xs=>some (x::xs)
noncomputable def dKvs:List (Key×D)→Option (List (Key×PyData))
  | []=>some []
  | (k,d)::r=>(dOnly d).bind fun x=>(dKvs r).bind fun xs=>some ((k,x)::xs)
noncomputable def lD (s:Sto):D→Option PyData
  | .d x=>some x
  | .r n=>match s[n]? with
    | some (.fz x)=>some x
    | some (.lst ds)=>(dAll ds).bind fun xs=>some (.list xs)
    | some (.dct kvs)=>(dKvs kvs).bind fun xs=>some (.dict (prs xs))
    | _=>none
noncomputable def vwS (g:D→Option PyData) (s:Sto):Option D→Sl
  | none=>.un
  | some (.d x)=>.val x
  | some (.r n)=>match s[n]? with
    | some (.obj _ fs)=>.ob fun f=>(fs.lookup f).bind g
    | _=>match g (.r n) with | some x=>.val x | none=>.un
noncomputable def vw (w:Wd):En:=w.η.map (vwS (pD w.s) w.s)
noncomputable def vwL (w:Wd):En:=w.η.map (vwS (lD w.s) w.s)
section
variable {K:PySem.W.Frag} {cl:Nat→Addr} {θ θ':List Addr} {F F' H H':Hp} {s:Sto} {σ:St} {η:MEn} {w:Wd}
theorem DRf.look {fs:List (Str×D)} {xs:List (Str×V)} (h:DRf K θ F fs xs) (f:Str):(∀ d,fs.lookup f=some d→∃ v,xs.lookup f=some v∧DR K θ F d v)∧(fs.lookup f=none→xs.lookup f=none):=by
  induction h with
  | nil=>exact ⟨fun d e=>(by cases e),fun _=>rfl⟩
  | @cons a b as bs r t ih =>
    obtain ⟨ka,da⟩:=a
    obtain ⟨kb,vb⟩:=b
    have e:ka=kb:=r.1
    subst e
    by_cases hk:f=ka
    · subst hk
      simp only [List.lookup_cons_self]
      exact ⟨fun d e=>(by cases e; exact ⟨vb,rfl,r.2⟩),fun e=>(by cases e)⟩
    · have hb:(f==ka)=false:=by simpa using hk
      simp only [List.lookup_cons,hb]
      exact ih
theorem look_mem {fs:List (Str×D)} {f:Str} {d:D} (h:fs.lookup f=some d):f∈fs.map (·.1):=by
  induction fs with
  | nil=>cases h
  | cons a r ih =>
    obtain ⟨k,x⟩:=a
    by_cases hk:f=k
    · subst hk; simp
    · have hb:(f==k)=false:=by simpa using hk
      simp only [List.lookup_cons,hb] at h
      exact List.mem_cons_of_mem _ (ih h)
noncomputable def Sees (K:PySem.W.Frag) (θ:List Addr) (F Fv:Hp) (g:D→Option PyData):Prop:=∀ d x v,g d=some x→DR K θ F d v→Rel K Fv x v
theorem vw_sr {g:D→Option PyData} {Fv:Hp} (m:MR K cl θ F H s) (e:MV K θ F σ η) (hs:Same Fv H) (hg:Sees K θ F Fv g) (hd:∀ x,g (.d x)=some x):SR K ⟨Fv,H⟩ Fv H σ (η.map (vwS g s)):=by
  have no:∀ (i:Nat) a,(η.map (vwS g s))[i]?=some a→isOwn a=false:=fun i a q=>by
    rw [List.getElem?_map] at q
    cases h:η[i]? with
    | none=>rw [h] at q; cases q
    | some o =>
      rw [h] at q
      have q':vwS g s o=a:=Option.some.inj q
      subst q'
      unfold vwS
      split
      · rfl
      · rfl
      · split
        · rfl
        · split <;> rfl
  refine ⟨.refl hs,⟨by rw [List.length_map]; exact e.len,fun i x q=>?_,fun i a q ha=>(by rw [no i a q] at ha; cases ha),fun i _ a _ q _ ha _ _=>(by rw [no i a q] at ha; cases ha),fun i fs q=>?_⟩⟩
  · rw [List.getElem?_map] at q
    cases h:η[i]? with
    | none=>rw [h] at q; cases q
    | some o =>
      rw [h] at q
      have q':vwS g s o=.val x:=Option.some.inj q
      unfold vwS at q'
      split at q'
      · cases q'
      · rename_i y
        have:y=x:=by injection q'
        subst this
        obtain ⟨v,e1,e2⟩:=e.val i _ h
        exact ⟨v,e1,hg _ _ _ (hd y) e2⟩
      · rename_i n
        split at q'
        · cases q'
        · split at q'
          · rename_i y hy
            have:y=x:=by injection q'
            subst this
            obtain ⟨v,e1,e2⟩:=e.val i _ h
            exact ⟨v,e1,hg _ _ _ hy e2⟩
          · cases q'
  · rw [List.getElem?_map] at q
    cases h:η[i]? with
    | none=>rw [h] at q; cases q
    | some o =>
      rw [h] at q
      have q':vwS g s o=.ob fs:=Option.some.inj q
      unfold vwS at q'
      split at q'
      · cases q'
      · cases q'
      · rename_i n
        split at q'
        · rename_i k fs0 hc
          have:(fun f=>(fs0.lookup f).bind g)=fs:=by injection q'
          subst this
          obtain ⟨v,e1,a,e2,e3⟩:=e.val i _ h
          subst e3
          obtain ⟨h1,h2,h3,dx,xs,h4,h5⟩:=m.cel n a _ e2 hc
          refine ⟨a,cl k,dx,xs,e1,h4,h2,fun f d hf=>?_⟩
          obtain ⟨D',hl,hx⟩:=bind_some hf
          obtain ⟨v,e5,e6⟩:=(h5.look f).1 D' hl
          exact ⟨h3 f (look_mem hl),v,e5,hg _ _ _ hx e6⟩
        · split at q' <;> cases q'
theorem sees_p (m:MR K cl θ F H s):Sees K θ F F (pD s):=fun d x v h r=>by
  cases d with
  | d y=>cases h; exact r
  | r n =>
    have h:(match s[n]? with | some (.fz x)=>some x | _=>none)=some x:=h
    split at h
    · rename_i y hy
      cases h
      obtain ⟨a,e1,e2⟩:=r
      subst e2
      exact (m.cel n a _ e1 hy).1
    · cases h
theorem MR.vw (m:MR K cl θ F H w.s) (e:MV K θ F σ w.η):SR K ⟨F,H⟩ F H σ (vw w):=vw_sr m e m.sm (sees_p m) fun _=>rfl
noncomputable def lentH (θ:List Addr) (F H:Hp):Hp:=fun b=>match F b with | some o=>some o | none=>if b∈θ then H b else none
theorem lent_of (θ:List Addr) (F H:Hp):Same F (lentH θ F H):=fun b u q=>by unfold lentH; rw [q]
theorem lent_in {θ:List Addr} {F H:Hp} (h:Same F H):Same (lentH θ F H) H:=fun b u q=>by
  unfold lentH at q
  split at q
  · rename_i o ho; rw [← q]; exact h _ _ ho
  · split at q
    · exact q
    · cases q
theorem lent_at {θ:List Addr} {F H:Hp} {n:Nat} {a:Addr} {o:HO} (e:θ[n]?=some a) (hF:F a=none) (hH:H a=some o):lentH θ F H a=some o:=by
  unfold lentH
  rw [hF]
  dsimp only
  rw [if_pos (List.mem_of_getElem? e)]; exact hH
theorem dAll_rel {ds:List D} {xs:List V} (h:DRs K θ F ds xs):∀ {ys:List PyData},dAll ds=some ys→RelL K F ys xs:=by
  induction h with
  | nil=>intro ys e; cases e; exact .nil
  | @cons a b as bs r t ih =>
    intro ys e
    unfold dAll at e
    obtain ⟨x,h1,e⟩:=bind_some e
    obtain ⟨zs,h2,e⟩:=bind_some e
    cases e
    cases a with
    | d y=>cases h1; exact .cons r (ih h2)
    | r n=>cases h1
theorem dKvs_rel {ds:List (Key×D)} {xs:List (Key×V)} (h:DRk K θ F ds xs):∀ {ys:List (Key×PyData)},dKvs ds=some ys→RelD K F (prs ys) xs:=by
  induction h with
  | nil=>intro ys e; cases e; exact .nil
  | @cons a b as bs r t ih =>
    intro ys e
    obtain ⟨ka,da⟩:=a
    obtain ⟨kb,vb⟩:=b
    have hk:ka=kb:=r.1
    subst hk
    unfold dKvs at e
    obtain ⟨x,h1,e⟩:=bind_some e
    obtain ⟨zs,h2,e⟩:=bind_some e
    cases e
    cases da with
    | d y=>cases h1; exact RelD.cons r.2 (ih h2)
    | r n=>cases h1
theorem sees_l (m:MR K cl θ F H s):Sees K θ F (lentH θ F H) (lD s):=fun d x v h r=>by
  have sm:=lent_of θ F H
  cases d with
  | d y=>cases h; exact Rel.mono sm r
  | r n =>
    have h:(match s[n]? with | some (.fz x)=>some x | some (.lst ds)=>(dAll ds).bind fun xs=>some (.list xs) | some (.dct kvs)=>(dKvs kvs).bind fun xs=>some (.dict (prs xs)) | _=>none)=some x:=h
    obtain ⟨a,e1,e2⟩:=r
    subst e2
    split at h
    · rename_i y hy
      cases h
      exact Rel.mono sm (m.cel n a _ e1 hy).1
    · rename_i ds hy
      obtain ⟨ys,h1,h2⟩:=bind_some h
      cases h2
      obtain ⟨q1,xs,q2,q3⟩:=m.cel n a _ e1 hy
      exact rel_lst (SqL.of (lent_at e1 q1 q2)) ((dAll_rel q3 h1).mono sm)
    · rename_i kvs hy
      obtain ⟨ys,h1,h2⟩:=bind_some h
      cases h2
      obtain ⟨q1,ks,q2,q3⟩:=m.cel n a _ e1 hy
      exact rel_dct (.inl (lent_at e1 q1 q2)) ((dKvs_rel q3 h1).mono sm)
    · cases h
end
end L2.PU
namespace L2.PU
open PySem PySem.Spec PyProof.Rows
noncomputable abbrev MF:=Wd→Option (D×Sto)
noncomputable abbrev MFs:=Wd→Option (List D×Sto)
section
variable (K:PySem.W.Frag) (cl:Nat→Addr)
noncomputable def tM (f:MF):TE:=fun σ H Q=>∃ θ F w d s',MR K cl θ F H w.s∧MV K θ F σ w.η∧f w=some (d,s')∧∀ v θ' F' H',θ <+: θ'→Same F F'→MR K cl θ' F' H' s'→DR K θ' F' d v→Q v H'
noncomputable def tMT (f:Wd→Option (Bool×Sto)):TT:=fun σ H Q=>∃ θ F w b s',MR K cl θ F H w.s∧MV K θ F σ w.η∧f w=some (b,s')∧∀ θ' F' H',θ <+: θ'→Same F F'→MR K cl θ' F' H' s'→Q b H'
noncomputable def tMA (f:MFs):TA:=fun σ H Q=>∃ θ F w ds s',MR K cl θ F H w.s∧MV K θ F σ w.η∧f w=some (ds,s')∧∀ vs θ' F' H',θ <+: θ'→Same F F'→MR K cl θ' F' H' s'→DRs K θ' F' ds vs→Q vs H'
end
noncomputable def ME (X:Cx) (cl:Nat→Addr) (e:Expr) (f:MF):Prop:=PE X e (tM X.K cl f)
noncomputable abbrev MTF:=Wd→Option (Bool×Sto)
noncomputable def MT (X:Cx) (cl:Nat→Addr) (e:Expr) (f:MTF):Prop:=PT X e (tMT X.K cl f)
noncomputable def MTW (X:Cx) (cl:Nat→Addr) (e:Expr) (f:MTF):Prop:=PW X e (tMT X.K cl f)
noncomputable def MA (X:Cx) (cl:Nat→Addr) (es:List Expr) (f:MFs):Prop:=PA X es (tMA X.K cl f)
noncomputable def mP (f:En→Option PyData):MF:=fun w=>(f (vw w)).bind fun x=>some (.d x,w.s)
noncomputable def mL (f:En→Option PyData):MF:=fun w=>(f (vwL w)).bind fun x=>if flatD x=true then some (.d x,w.s) else none
noncomputable def mLO (f:En→Option (List PyData)):MF:=fun w=>(f (vwL w)).bind fun xs=>if xs.all flatD=true then some (.d (.list xs),w.s) else none
noncomputable def mN (f:En→Option (List PyData)):MF:=fun w=>(f (vw w)).bind fun xs=>some (.r w.s.length,w.s++[.lst (xs.map .d)])
noncomputable def mV (i:Nat):MF:=fun w=>match w.η[i]? with | some (some d)=>some (d,w.s) | _=>none
noncomputable def tPv (f:En→Option Bool):MTF:=fun w=>(f (vw w)).bind fun b=>some (b,w.s)
noncomputable def tPl (f:En→Option Bool):MTF:=fun w=>(f (vwL w)).bind fun b=>some (b,w.s)
section
variable {X:Cx} {cl:Nat→Addr} {a b c e o:Expr} {es:List Expr} {f g:MF} {fs:MFs} {p:En→Option PyData} {ps:En→Option (List PyData)} {pt:En→Option Bool} {pos:Pos}
theorem ME.pu (h:∀ B,E X B e p):ME X cl e (mP p):=fun pins s σ H Q I ⟨θ,F,w,d,s',m,v,hf,q⟩=>by
  obtain ⟨x,hx,hf⟩:=bind_some hf
  cases hf
  exact h ⟨F,H⟩ pins s σ H Q I ⟨F,vw w,x,m.vw v,hx,fun u F' H' g r=>q u θ F' H' (List.prefix_refl _) g.ff (m.grow g) r⟩
theorem list_in {K:PySem.W.Frag} {F H F' H':Hp} {p:Addr} {xs:List V} {ds:List PyData} (sm:Same F H) (g:Gr F H F' H') (hp:H p=none) (fp:F' p=none) (hp':H' p=some (.lst xs)) (rs:RelL K F' ds xs):Gr F H (upd F' p (.lst xs)) H'∧Rel K (upd F' p (.lst xs)) (.list ds) (.ref p):=by
  have sn:=same_new (H:=F') fp (.lst xs)
  refine ⟨⟨g.ff.trans sn,g.hh,fun b u z=>?_,fun b z=>?_⟩,rel_lst (SqL.of upd_same) (rs.mono sn)⟩
  · by_cases e:b=p
    · subst e; rw [upd_same] at z; rw [← z]; exact hp'
    · rw [upd_ne e] at z; exact g.fh _ _ z
  · by_cases e:b=p
    · subst e; exact .inr hp
    · rw [upd_ne e] at z; exact g.new b z
theorem rel_ds {K:PySem.W.Frag} {θ:List Addr} {F:Hp}:∀ {xs:List PyData} {vs:List V},RelL K F xs vs→DRs K θ F (xs.map .d) vs
  | [],_,h=>by rw [h.nil_of]; exact .nil
  | x::xs,vs,h=>by
    obtain ⟨v,r,rfl,h1,h2⟩:=h.cons_of
    exact .cons h1 (rel_ds h2)
theorem ME.nw (h:∀ B,EO X B e ps):ME X cl e (mN ps):=fun pins s σ H Q I ⟨θ,F,w,d,s',m,v,hf,q⟩=>by
  obtain ⟨x,hx,hf⟩:=bind_some hf
  cases hf
  refine h ⟨F,H⟩ pins s σ H Q I ⟨F,vw w,x,m.vw v,hx,fun p xs F' H' g hp fp hp' rs=>?_⟩
  have m1:=m.grow g
  have na:∀ (k:Nat) b,θ[k]?=some b→b≠p:=fun k b e=>m.ne hp e
  have pre:θ <+: θ++[p]:=List.prefix_append _ _
  refine q _ (θ++[p]) F' H' pre g.ff ⟨m1.sm,by rw [List.length_append,List.length_append,m1.len]; rfl,?_,fun k b c2 f1 f2=>?_⟩ ⟨p,by rw [← m.len,List.getElem?_append_right (Nat.le_refl _),Nat.sub_self]; rfl,rfl⟩
  · rw [List.nodup_append]
    refine ⟨m.nd,by simp,fun b hb b' hb'=>?_⟩
    rw [List.mem_singleton.mp hb']
    obtain ⟨k,hk⟩:=List.getElem?_of_mem hb
    exact na k b hk
  · by_cases hk:k < θ.length
    · rw [List.getElem?_append_left hk] at f1
      rw [List.getElem?_append_left (by rw [← m.len]; exact hk)] at f2
      exact (m1.cel k b c2 f1 f2).pre pre
    · have hk1:k=θ.length:=by
        have:=(List.getElem?_eq_some_iff.mp f1).1
        rw [List.length_append] at this
        have e1:[p].length=1:=rfl
        omega
      subst hk1
      rw [List.getElem?_append_right (Nat.le_refl _),Nat.sub_self] at f1
      rw [List.getElem?_append_right (by rw [m.len]; exact Nat.le_refl _),m.len,Nat.sub_self] at f2
      cases f1
      cases f2
      exact ⟨fp,xs,hp',rel_ds rs⟩
theorem ME.v (i:Nat) {x:Str} (hN:X.N[i]?=some x:=by rfl) (hv:Vis X.env.scope x:=by first | exact Or.inl rfl | exact Or.inr (Or.inl rfl) | exact Or.inr (Or.inr rfl)) (hd:(x==("__debug__" : Str))=false:=by decide)
    (hcd:(x==("__classdict__" : Str))=false:=by decide):ME X cl (.Name x pos) (mV i) :=
  PE.imp (pe_var hN hv hd hcd) fun σ H Q ⟨θ,F,w,d,s',m,v,hf,q⟩=>by
    unfold mV at hf
    split at hf
    · rename_i d' e
      cases hf
      obtain ⟨u,e1,e2⟩:=v.val i _ e
      exact ⟨u,e1,q u θ F H (List.prefix_refl _) (.refl _) m e2⟩
    · cases hf
theorem MT.pu (h:∀ B,T X B e pt):MT X cl e (tPv pt):=fun pins s σ H Q I ⟨θ,F,w,b,s',m,v,hf,q⟩=>by
  obtain ⟨c,hx,hf⟩:=bind_some hf
  cases hf
  exact h ⟨F,H⟩ pins s σ H Q I ⟨F,vw w,_,m.vw v,hx,fun F' H' g=>q θ F' H' (List.prefix_refl _) g.ff (m.grow g)⟩
noncomputable def tmNot (f:MTF):MTF:=fun w=>(f w).bind fun r=>some (!r.1,r.2)
noncomputable def tmAnd (f g:MTF):MTF:=fun w=>(f w).bind fun r=>if r.1=true then g ⟨w.η,r.2⟩ else some (false,r.2)
noncomputable def tmOr (f g:MTF):MTF:=fun w=>(f w).bind fun r=>if r.1=true then some (true,r.2) else g ⟨w.η,r.2⟩
variable {ta tb:MTF} {rest:List Expr}
noncomputable def mOp (o:PyData→PyData→Option PyData) (f g:MF):MF:=fun w=>(f w).bind fun r=>(g ⟨w.η,r.2⟩).bind fun q=>(pD q.2 r.1).bind fun x=>(pD q.2 q.1).bind fun y=>(o x y).bind fun z=>some (.d z,q.2)
noncomputable def mOpL (o:PyData→PyData→Option PyData) (f g:MF):MF:=fun w=>(f w).bind fun r=>(g ⟨w.η,r.2⟩).bind fun q=>(lD q.2 r.1).bind fun x=>(lD q.2 q.1).bind fun y=>(o x y).bind fun z=>if flatD z=true then some (.d z,q.2) else none
theorem op_of {r:R2} {o:PyData→PyData→Option PyData} (ad:Ad2 X.K r o):∀ σ H Q,tM X.K cl (mOp o f g) σ H Q→tOp r (tM X.K cl f) (tM X.K cl g) σ H Q:=fun σ H Q ⟨θ,F,w,d,s',m,v,hf,q⟩=>by
  obtain ⟨⟨d1,s1⟩,h1,hf⟩:=bind_some hf
  obtain ⟨⟨d2,s2⟩,h2,hf⟩:=bind_some hf
  obtain ⟨x,hx,hf⟩:=bind_some hf
  obtain ⟨y,hy,hf⟩:=bind_some hf
  obtain ⟨z,hz,hf⟩:=bind_some hf
  cases hf
  refine ⟨θ,F,w,d1,s1,m,v,h1,fun u θ1 F1 H1 p1 q1 m1 r1=>⟨θ1,F1,⟨w.η,s1⟩,d2,_,m1,v.mono p1 q1,h2,fun u2 θ2 F2 H2 p2 q2 m2 r2=>?_⟩⟩
  exact ad F2 H2 u u2 x y z Q m2.sm (sees_p m2 _ _ _ hx (r1.mono p2 q2)) (sees_p m2 _ _ _ hy r2) hz fun t F3 H3 g3 rt=>q t θ2 F3 H3 (p1.trans p2) (q1.trans (q2.trans g3.ff)) (m2.grow g3) rt
theorem opL_of {r:R2} {o:PyData→PyData→Option PyData} (ad:Ad2 X.K r o):∀ σ H Q,tM X.K cl (mOpL o f g) σ H Q→tOp r (tM X.K cl f) (tM X.K cl g) σ H Q:=fun σ H Q ⟨θ,F,w,d,s',m,v,hf,q⟩=>by
  obtain ⟨⟨d1,s1⟩,h1,hf⟩:=bind_some hf
  obtain ⟨⟨d2,s2⟩,h2,hf⟩:=bind_some hf
  obtain ⟨x,hx,hf⟩:=bind_some hf
  obtain ⟨y,hy,hf⟩:=bind_some hf
  obtain ⟨z,hz,hf⟩:=bind_some hf
  split at hf
  · rename_i hfl
    cases hf
    refine ⟨θ,F,w,d1,s1,m,v,h1,fun u θ1 F1 H1 p1 q1 m1 r1=>⟨θ1,F1,⟨w.η,s1⟩,d2,_,m1,v.mono p1 q1,h2,fun u2 θ2 F2 H2 p2 q2 m2 r2=>?_⟩⟩
    exact ad (lentH θ2 F2 H2) H2 u u2 x y z Q (lent_in m2.sm) (sees_l m2 _ _ _ hx (r1.mono p2 q2)) (sees_l m2 _ _ _ hy r2) hz fun t F3 H3 g3 rt=>q t θ2 F2 H3 (p1.trans p2) (q1.trans q2) (m2.grow (Gr.back m2.sm g3)) (flat_rel hfl rt)
  · cases hf
theorem ME.op {op:Operator} {r:R2} {oo:PyData→PyData→Option PyData} (ho:OpR X (binaryOp op) r) (ad:Ad2 X.K r oo) (ha:ME X cl a f) (hb:ME X cl b g):ME X cl (.BinOp a op b pos) (mOp oo f g):=PE.imp (pe_op ho ha hb) (op_of ad)
noncomputable def mB (f:MF):MTF:=fun w=>(f w).bind fun r=>match r.1 with | .d x=>(asB x).bind fun b=>some (b,r.2) | _=>none
theorem MT.cmp {op:CmpOp} {r:R2} {oo:PyData→PyData→Option PyData} (ho:OpR X (compareOp op) r) (ad:Ad2 X.K r oo) (hm:behindInMarks op b=false) (ha:ME X cl a f) (hb:ME X cl b g):MT X cl (.Compare a [op] [b] pos) (mB (mOpL oo f g)) :=
  PT.imp (pt_cmpR ho ha hb hm) fun σ H Q ⟨θ,F,w,c,s',m,v,hf,q⟩=>by
    obtain ⟨⟨d,s1⟩,h1,hf⟩:=bind_some hf
    cases d with
    | r n=>cases hf
    | d x =>
      dsimp only at hf
      obtain ⟨b,hb,hf⟩:=bind_some hf
      cases hf
      obtain rfl:=asB_some hb
      exact opL_of ad σ H _ ⟨θ,F,w,_,_,m,v,h1,fun u θ1 F1 H1 p1 q1 m1 r1=>⟨c,(show Rel X.K F1 (.bool c) u from r1).bl,q θ1 F1 H1 p1 q1 m1⟩⟩
noncomputable def maN:MFs:=fun w=>some ([],w.s)
noncomputable def maC (f:MF) (fs:MFs):MFs:=fun w=>(f w).bind fun r=>(fs ⟨w.η,r.2⟩).bind fun rs=>some (r.1::rs.1,rs.2)
theorem MA.nil:MA X cl [] maN:=PA.imp pa_nil fun σ H Q ⟨θ,F,w,ds,s',m,v,hf,q⟩=>by
  cases hf
  exact q [] θ F H (List.prefix_refl _) (.refl _) m .nil
theorem MA.cons (ha:ME X cl e f) (hr:MA X cl es fs) (hs:starEach (e::es) X.env=(false,eval e X.env)::starEach es X.env:=by exact star_of rfl):MA X cl (e::es) (maC f fs):=PA.imp (pa_cons ha hr hs) fun σ H Q ⟨θ,F,w,ds,s',m,v,hf,q⟩=>by
  obtain ⟨⟨d,s1⟩,h1,hf⟩:=bind_some hf
  obtain ⟨⟨ds2,s2⟩,h2,hf⟩:=bind_some hf
  cases hf
  refine ⟨θ,F,w,d,s1,m,v,h1,fun u θ1 F1 H1 p1 q1 m1 r1=>⟨θ1,F1,⟨w.η,s1⟩,ds2,s2,m1,v.mono p1 q1,h2,fun us θ2 F2 H2 p2 q2 m2 r2=>?_⟩⟩
  exact q (u::us) θ2 F2 H2 (p1.trans p2) (q1.trans q2) m2 (.cons (r1.mono p2 q2) r2)
noncomputable def mFld (o:MF) (f:Str):MF:=fun w=>(o w).bind fun r=>match r.1 with
  | .r n=>(match r.2[n]? with | some (.obj _ fs)=>(fs.lookup f).bind fun d=>some (d,r.2) | _=>none)
  | _=>none
theorem ME.fld {f:Str} {g:MF} (ho:ME X cl o g) (hb:attributeBase o f X.env (eval o X.env)=eval o X.env:=by rfl):ME X cl (.Attribute o f pos) (mFld g f) :=
  PE.imp (pe_fld ho hb) fun σ H Q ⟨θ,F,w,d,s',m,v,hf,q⟩=>by
    obtain ⟨⟨d0,s0⟩,h0,hf⟩:=bind_some hf
    cases d0 with
    | d x=>cases hf
    | r n =>
      dsimp only at hf
      split at hf
      · rename_i k fs hc
        obtain ⟨d1,hl,hf⟩:=bind_some hf
        cases hf
        refine ⟨θ,F,w,.r n,_,m,v,h0,fun u θ1 F1 H1 p1 q1 m1 r1=>?_⟩
        obtain ⟨a,e1,rfl⟩:=r1
        obtain ⟨h1,h2,h3,dx,xs,h4,h5⟩:=m1.cel n a _ e1 hc
        obtain ⟨u,e5,e6⟩:=(h5.look f).1 _ hl
        exact ⟨a,cl k,dx,xs,u,rfl,h4,h2,h3 f (look_mem hl),e5,q u θ1 F1 H1 p1 q1 m1 e6⟩
      · cases hf
end
noncomputable def eFld (i:Nat) (f:Str):En→Option PyData:=fun η=>match η[i]? with | some (.ob fs)=>fs f | _=>none
theorem E.fld (i:Nat) {X:Cx} {B:Bd} {x f:Str} {npos pos:Pos} (hN:X.N[i]?=some x:=by rfl) (hv:Vis X.env.scope x:=by first | exact Or.inl rfl | exact Or.inr (Or.inl rfl) | exact Or.inr (Or.inr rfl)) (hd:(x==("__debug__" : Str))=false:=by decide)
    (hcd:(x==("__classdict__" : Str))=false:=by decide) (hb:attributeBase (.Name x npos) f X.env (eval (.Name x npos) X.env)=eval (.Name x npos) X.env:=by rfl):E X B (.Attribute (.Name x npos) f pos) (eFld i f) :=
  PE.imp (pe_fld (pe_var hN hv hd hcd) hb) fun σ H Q ⟨F,η,d,sr,hd,q⟩=>by
    unfold eFld at hd
    split at hd
    · rename_i fs e
      obtain ⟨p,C,dx,xs,e1,e2,e3,e4⟩:=sr.en.obs i fs e
      obtain ⟨n,v,h1,h2⟩:=e4 f d hd
      exact ⟨_,e1,p,C,dx,xs,v,rfl,e2,e3,n,h1,q v F H (.refl sr.same) h2⟩
    · cases hd
end L2.PU
namespace L2.PU
open PySem PySem.Spec PyProof.Rows
noncomputable def spM (K:PySem.W.Frag) (cl:Nat→Addr) (fn:List D→Sto→Option (D×Sto)):Sp:=fun vs H Q _=>∃ θ F s ds d s',MR K cl θ F H s∧DRs K θ F ds vs∧fn ds s=some (d,s')∧∀ v θ' F' H',θ <+: θ'→Same F F'→MR K cl θ' F' H' s'→DR K θ' F' d v→Q v H'
noncomputable def mCall (fn:List D→Sto→Option (D×Sto)) (fs:MFs):MF:=fun w=>(fs w).bind fun r=>fn r.1 r.2
noncomputable def upP (fn:List PyData→Option PyData):List D→Sto→Option (D×Sto):=fun ds s=>(dAll ds).bind fun xs=>(fn xs).bind fun x=>some (.d x,s)
section
variable {X:Cx} {cl:Nat→Addr} {e o:Expr} {es:List Expr} {g:MF} {fs:MFs} {pos:Pos}
noncomputable def mMeth (k:Nat) (nm:Str) (fn:List D→Sto→Option (D×Sto)) (o:MF) (fs:MFs):MF:=fun w=>(o w).bind fun r=>match r.1 with
  | .r n=>(match r.2[n]? with
    | some (.obj k' as)=>if k'=k∧as.lookup nm=none then (fs ⟨w.η,r.2⟩).bind fun rs=>fn (.r n::rs.1) rs.2 else none
    | _=>none)
  | _=>none
theorem meth_of {nm:Str} {k:Nat} {fn:List D→Sto→Option (D×Sto)}:∀ σ H Q,tM X.K cl (mMeth k nm fn g fs) σ H Q→tMeth (cl k) nm (spM X.K cl fn) [] E0 (tM X.K cl g) (tMA X.K cl fs) σ H Q:=fun σ H Q ⟨θ,F,w,d,s',m,v,hf,q⟩=>by
  obtain ⟨⟨d0,s0⟩,h0,hf⟩:=bind_some hf
  cases d0 with
  | d x=>cases hf
  | r n =>
    dsimp only at hf
    split at hf
    · rename_i k' as hc
      split at hf
      · rename_i hk
        obtain ⟨⟨ds,s1⟩,h1,hf⟩:=bind_some hf
        obtain ⟨hk1,hk2⟩:=hk
        rw [hk1] at hc
        refine ⟨θ,F,w,.r n,s0,m,v,h0,fun u θ1 F1 H1 p1 q1 m1 r1=>?_⟩
        obtain ⟨a,e1,rfl⟩:=id r1
        obtain ⟨c1,c2,c3,dx,xs,c4,c5⟩:=m1.cel n a _ e1 hc
        refine ⟨a,dx,xs,rfl,c4,(c5.look nm).2 hk2,θ1,F1,⟨w.η,s0⟩,ds,s1,m1,v.mono p1 q1,h1,fun vs θ2 F2 H2 p2 q2 m2 r2=>?_⟩
        show spM X.K cl fn (.ref a::(vs++[])) H2 Q E0
        rw [List.append_nil]
        exact ⟨θ2,F2,s1,.r n::ds,d,s',m2,.cons (DR.mono p2 q2 r1) r2,hf,fun u θ3 F3 H3 p3 q3 m3 r3=>q u θ3 F3 H3 (p1.trans (p2.trans p3)) (q1.trans (q2.trans q3)) m3 r3⟩
      · cases hf
    · cases hf
theorem ME.meth {pl:Sem Bool} {k k' kc:Nat} {fa:Addr} {fd:FuncData} {ps:List Str} {nm:Str} {apos:Pos} {fn:List D→Sto→Option (D×Sto)} (ho:ME X cl o g) (c:Cls X.K (cl kc)) (hm:Meth X.K (cl kc) nm fa) (G:FnOk X.prog X.w X.K X.mg X.base CX0 k fa fd ps (spM X.K cl fn)) (hr:Room k' X.A) (hkk:k≤k') (hb:Binds X.K fd ps [])
    (ha:MA X cl (e::es) fs) (hst:starEach (e::es) X.env=(false,eval e X.env)::starEach es X.env:=by exact star_of rfl) (hpl:(backTo pos (starEach es X.env)).any (·.1)=false:=by exact plain_of rfl)
    (ht:eval (.Call (.Attribute o nm apos) (e::es) [] pos) X.env=(do
      let ov ← eval o X.env
      standAt apos.atName
      let (f,first) ← holding [ov] (getMethod ov nm pl)
      callWith pos f first (backTo pos (starEach (e::es) X.env)) (backToKw pos (keywordEach [] X.env))):=by rfl):ME X cl (.Call (.Attribute o nm apos) (e::es) [] pos) (mMeth kc nm fn g fs) :=
  PE.imp (pe_meth (pl:=pl) ho c hm G (hr.mono hkk) hb .nil pass0 ha hst hpl ht) meth_of
noncomputable def mMake (k:Nat) (fn:List D→Sto→Option (D×Sto)) (fs:MFs):MF:=fun w=>(fs w).bind fun r=>(fn (.r r.2.length::r.1) (r.2++[.obj k []])).bind fun q=>match q.1 with
  | .d .none=>some (.r r.2.length,q.2)
  | _=>none
theorem made_of {K:PySem.W.Frag} {θ:List Addr} {F H:Hp} {s:Sto} {kc:Nat} (c:Cls K (cl kc)) (m:MR K cl θ F H s) {x dx:Addr} (hx:H x=none) (hdx:H dx=none) (hne:dx≠x) :
    MR K cl (θ++[x]) F (upd (upd H dx (.own x)) x (.ins (cl kc) dx [])) (s++[.obj kc []]):=by
  have m1:=m.more (o:=.own x) hdx
  have hx1:upd H dx (.own x) x=none:=by rw [upd_ne (Ne.symm hne)]; exact hx
  exact m1.new hx1 ⟨m1.sm.free hx1,c,fun f hf=>(by cases hf),dx,[],upd_same,.nil⟩
theorem make_of {kc:Nat} {fn:List D→Sto→Option (D×Sto)} (c:Cls X.K (cl kc)) {θ:List Addr} {F H:Hp} {s s':Sto} {ds:List D} {d:D} {vs:List V} {Q:VK} (m:MR X.K cl θ F H s) (r:DRs X.K θ F ds vs)
    (hf:((fn (.r s.length::ds) (s++[.obj kc []])).bind fun q=>match q.1 with | .d .none=>some (D.r s.length,q.2) | _=>none)=some (d,s'))
    (q:∀ v θ' F' H',θ <+: θ'→Same F F'→MR X.K cl θ' F' H' s'→DR X.K θ' F' d v→Q v H') (x dx:Addr) (hx:H x=none) (hdx:H dx=none) (hne:dx≠x) :
    spM X.K cl fn (.ref x::vs) (upd (upd H dx (.own x)) x (.ins (cl kc) dx [])) (fun v H2=>v=.non∧Q (.ref x) H2) E0:=by
  obtain ⟨⟨d1,s1⟩,h1,hf⟩:=bind_some hf
  have pre:θ <+: θ++[x]:=List.prefix_append _ _
  have hix:(θ++[x])[s.length]?=some x:=by rw [← m.len,List.getElem?_append_right (Nat.le_refl _),Nat.sub_self]; rfl
  refine ⟨θ++[x],F,s++[.obj kc []],.r s.length::ds,d1,s1,made_of c m hx hdx hne,.cons ⟨x,hix,rfl⟩ (r.mono pre (.refl _)),h1,fun v θ2 F2 H2 p2 q2 m2 r2=>?_⟩
  dsimp only at hf
  split at hf
  · rename_i hd
    cases hf
    have r2':Rel X.K F2 .none v:=r2
    exact ⟨r2'.non,q _ θ2 F2 H2 (pre.trans p2) q2 m2 ⟨x,pre_get p2 hix,rfl⟩⟩
  · cases hf
theorem ME.make {k k' kc:Nat} {fa:Addr} {fd:FuncData} {ps:List Str} {x:Str} {ppos:Pos} {fn:List D→Sto→Option (D×Sto)} (c:Cls X.K (cl kc)) (M:Mk X.K (cl kc) fa) (G:FnOk X.prog X.w X.K X.mg X.base CX0 k fa fd ps (spM X.K cl fn)) (hr:Room k' X.A) (hkk:k+1≤k') (hm:X.mg x=some (.ref (cl kc))) (hb:Binds X.K fd ps [])
    (ha:MA X cl (e::es) fs) (hg:Gl X x:=by rfl) (hdb:(x==("__debug__" : Str))=false:=by decide) (he:starEach (e::es) X.env=(false,eval e X.env)::starEach es X.env:=by exact star_of rfl) (hpl:(backTo pos (starEach es X.env)).any (·.1)=false:=by exact plain_of rfl) :
    ME X cl (.Call (.Name x ppos) (e::es) [] pos) (mMake kc fn fs):=PE.imp (pe_make M G (hr.mono hkk) hg hm hb .nil pass0 ha hdb he hpl) fun σ H Q ⟨θ,F,w,d,s',m,v,hf,q⟩=>by
  obtain ⟨⟨ds,s1⟩,h1,hf⟩:=bind_some hf
  refine ⟨θ,F,w,ds,s1,m,v,h1,fun vs θ1 F1 H1 p1 q1 m1 r1=>fun x dx hx hdx hne=>?_⟩
  show spM X.K cl fn (.ref x::(vs++[])) _ _ E0
  rw [List.append_nil]
  exact make_of c m1 r1 hf (fun u θ2 F2 H2 p2 q2 m2 r2=>q u θ2 F2 H2 (p1.trans p2) (q1.trans q2) m2 r2) x dx hx hdx hne
theorem ME.make0 {k k' kc:Nat} {fa:Addr} {fd:FuncData} {ps:List Str} {x:Str} {ppos:Pos} {fn:List D→Sto→Option (D×Sto)} (c:Cls X.K (cl kc)) (M:Mk X.K (cl kc) fa) (G:FnOk X.prog X.w X.K X.mg X.base CX0 k fa fd ps (spM X.K cl fn)) (hr:Room k' X.A) (hkk:k+1≤k') (hm:X.mg x=some (.ref (cl kc))) (hb:Binds X.K fd ps [])
    (hg:Gl X x:=by rfl) (hdb:(x==("__debug__" : Str))=false:=by decide) :
    ME X cl (.Call (.Name x ppos) [] [] pos) (mMake kc fn maN):=PE.imp (pe_make0 M G (hr.mono hkk) hg hm hb .nil pass0 hdb) fun σ H Q ⟨θ,F,w,d,s',m,v,hf,q⟩=>by
  obtain ⟨⟨ds,s1⟩,h1,hf⟩:=bind_some hf
  cases h1
  exact fun x dx hx hdx hne=>make_of c m .nil hf q x dx hx hdx hne
end
end L2.PU
namespace L2.PU
open PySem PySem.Spec PyProof.Rows
inductive MOut where
  | nx (w:Wd)
  | rt (d:D) (s:Sto)
  | bk (w:Wd)
  | ct (w:Wd)
section
variable (K:PySem.W.Frag) (cl:Nat→Addr)
noncomputable def MNx (θ:List Addr) (F:Hp) (N:St→Hp→Prop) (w:Wd):Prop:=∀ σ' θ' F' H',θ <+: θ'→Same F F'→MR K cl θ' F' H' w.s→MV K θ' F' σ' w.η→N σ' H'
noncomputable def MOk (θ:List Addr) (F:Hp) (Z:Ends):MOut→Prop
  | .nx w=>MNx K cl θ F Z.nx w
  | .rt d s=>∀ v θ' F' H',θ <+: θ'→Same F F'→MR K cl θ' F' H' s→DR K θ' F' d v→Z.rt v H'
  | .bk w=>MNx K cl θ F Z.bk w
  | .ct w=>MNx K cl θ F Z.ct w
noncomputable def tMS (f:Wd→Option MOut):TS:=fun Z σ H=>∃ θ F w o,MR K cl θ F H w.s∧MV K θ F σ w.η∧f w=some o∧MOk K cl θ F Z o
end
noncomputable def MS (X:Cx) (cl:Nat→Addr) (st:Stmt) (f:Wd→Option MOut):Prop:=PS X st (tMS X.K cl f)
noncomputable def MSs (X:Cx) (cl:Nat→Addr) (st:List Stmt) (f:Wd→Option MOut):Prop:=PSs X st (tMS X.K cl f)
theorem MNx.up {K:PySem.W.Frag} {cl:Nat→Addr} {θ θ1:List Addr} {F F1:Hp} {N:St→Hp→Prop} {w:Wd} (h:MNx K cl θ F N w) (p:θ <+: θ1) (s:Same F F1):MNx K cl θ1 F1 N w:=fun σ' θ' F' H' p' s'=>h σ' θ' F' H' (p.trans p') (s.trans s')
theorem MOk.up {K:PySem.W.Frag} {cl:Nat→Addr} {θ θ1:List Addr} {F F1:Hp} {Z:Ends} {o:MOut} (h:MOk K cl θ F Z o) (p:θ <+: θ1) (s:Same F F1):MOk K cl θ1 F1 Z o:=by
  cases o with
  | nx w=>exact MNx.up h p s
  | rt d s2=>exact fun v θ' F' H' p' s'=>h v θ' F' H' (p.trans p') (s.trans s')
  | bk w=>exact MNx.up h p s
  | ct w=>exact MNx.up h p s
noncomputable def mNx:Wd→Option MOut:=fun w=>some (.nx w)
noncomputable def mSeq (f g:Wd→Option MOut):Wd→Option MOut:=fun w=>(f w).bind fun o=>match o with
  | .nx w'=>g w'
  | o=>some o
noncomputable def mRet (f:MF):Wd→Option MOut:=fun w=>(f w).bind fun r=>some (.rt r.1 r.2)
noncomputable def mIf (c:MTF) (f g:Wd→Option MOut):Wd→Option MOut:=fun w=>(c w).bind fun r=>if r.1=true then f ⟨w.η,r.2⟩ else g ⟨w.η,r.2⟩
noncomputable def mSet (i:Nat) (f:MF):Wd→Option MOut:=fun w=>(f w).bind fun r=>some (.nx ⟨w.η.set i (some r.1),r.2⟩)
noncomputable def mExp (f:MF):Wd→Option MOut:=fun w=>(f w).bind fun r=>some (.nx ⟨w.η,r.2⟩)
noncomputable def putA (f:Str) (v:D):List (Str×D)→List (Str×D)
  | []=>[(f,v)]
  | (g,x)::r=>if g=f then (g,v)::r else (g,x)::putA f v r
noncomputable def mPut (k:Nat) (nm:Str) (o e:MF):Wd→Option MOut:=fun w=>(e w).bind fun r=>(o ⟨w.η,r.2⟩).bind fun q=>match q.1 with
  | .r n=>(match q.2[n]? with
    | some (.obj k' fs)=>if k'=k∧fs.length < 999 then some (.nx ⟨w.η,q.2.set n (.obj k (putA nm r.1 fs))⟩) else none
    | _=>none)
  | _=>none
section
variable {X:Cx} {cl:Nat→Addr} {st:Stmt} {sts sts':List Stmt} {u v:Wd→Option MOut} {a b c e o:Expr} {f g:MF} {p:MTF} {pos pos':Pos}
theorem MSs.nil:MSs X cl [] mNx:=PSs.imp pss_nil fun Z σ H ⟨θ,F,w,o,m,v,hf,q⟩=>by
  cases hf
  exact q σ θ F H (List.prefix_refl _) (.refl _) m v
theorem MSs.one (h:MS X cl st u):MSs X cl [st] u:=pss_one h
theorem MSs.cons (h:MS X cl st u) (k:MSs X cl sts v):MSs X cl (st::sts) (mSeq u v):=PSs.imp (pss_cons h k) fun Z σ H ⟨θ,F,w,o,m,v,hf,q⟩=>by
  obtain ⟨o1,h1,hf⟩:=bind_some hf
  refine ⟨θ,F,w,o1,m,v,h1,?_⟩
  cases o1 with
  | nx w'=>exact fun σ' θ' F' H' p s m' v'=>⟨θ',F',w',o,m',v',hf,q.up p s⟩
  | rt d s=>cases hf; exact q
  | bk w'=>cases hf; exact q
  | ct w'=>cases hf; exact q
theorem MS.ret (he:ME X cl e f):MS X cl (.Return (some e) pos) (mRet f):=PS.imp (ps_ret he) fun Z σ H ⟨θ,F,w,o,m,v,hf,q⟩=>by
  obtain ⟨⟨d,s⟩,h1,hf⟩:=bind_some hf
  cases hf
  exact ⟨θ,F,w,d,s,m,v,h1,q⟩
theorem MS.exp (he:ME X cl e f) (hs:swapsWith e none pos.line X.env=pure false:=by rfl):MS X cl (.Expr e pos) (mExp f):=PS.imp (ps_expr he hs) fun Z σ H ⟨θ,F,w,o,m,v,hf,q⟩=>by
  obtain ⟨⟨d,s⟩,h1,hf⟩:=bind_some hf
  cases hf
  exact ⟨θ,F,w,d,s,m,v,h1,fun u θ' F' H' p' s' m' _=>q σ θ' F' H' p' s' m' (v.mono p' s')⟩
theorem MS.ifS (hc:MT X cl c p) (ha:MSs X cl sts u) (hb:MSs X cl sts' v):MS X cl (.If c sts sts' pos) (mIf p u v):=PS.imp (ps_if hc ha hb) fun Z σ H ⟨θ,F,w,o,m,v,hf,q⟩=>by
  obtain ⟨⟨b,s1⟩,h1,hf⟩:=bind_some hf
  refine ⟨θ,F,w,b,s1,m,v,h1,fun θ' F' H' p' s' m'=>?_⟩
  cases b with
  | false =>
    rw [if_neg Bool.false_ne_true] at hf ⊢
    exact ⟨θ',F',⟨w.η,s1⟩,o,m',v.mono p' s',hf,q.up p' s'⟩
  | true =>
    rw [if_pos rfl] at hf ⊢
    exact ⟨θ',F',⟨w.η,s1⟩,o,m',v.mono p' s',hf,q.up p' s'⟩
theorem MS.set (i:Nat) {x:Str} (hN:X.N.Nodup) (he:ME X cl e f) (hi:X.N[i]?=some x:=by rfl) (hx:Loc X.env.scope x:=by first | exact Or.inl rfl | exact Or.inr rfl) (hs:swapsWith e (some (.Name x pos')) pos.line X.env=pure false:=by rfl)
    (hf:X.fn x=true∨X.env.scope.names.lookup x=some .local:=by first | exact .inl rfl | exact .inr rfl):MS X cl (.Assign [.Name x pos'] e pos) (mSet i f):=PS.imp (ps_set hN hi hx he hs hf) fun Z σ H ⟨θ,F,w,o,m,v,hf,q⟩=>by
  obtain ⟨⟨d,s⟩,h1,hf⟩:=bind_some hf
  cases hf
  exact ⟨θ,F,w,d,s,m,v,h1,fun u θ' F' H' p' s' m' r'=>q _ θ' F' H' p' s' m' ((v.mono p' s').set i r')⟩
theorem DRf.put {K:PySem.W.Frag} {θ:List Addr} {F:Hp} {fs:List (Str×D)} {xs:List (Str×V)} (h:DRf K θ F fs xs) (f:Str) {d:D} {v:V} (r:DR K θ F d v):DRf K θ F (putA f d fs) (putF f v xs):=by
  induction h with
  | nil=>exact .cons ⟨rfl,r⟩ .nil
  | @cons a b as bs q t ih =>
    obtain ⟨ka,da⟩:=a
    obtain ⟨kb,vb⟩:=b
    have e:ka=kb:=q.1
    subst e
    unfold putA putF
    by_cases hk:ka=f
    · rw [if_pos hk,if_pos hk]; exact .cons ⟨rfl,r⟩ t
    · rw [if_neg hk,if_neg hk]; exact .cons q ih
theorem putA_keys {f:Str} {d:D}:∀ {fs:List (Str×D)} {g:Str},g∈(putA f d fs).map (·.1)→g=f∨g∈fs.map (·.1)
  | [],g,h=>.inl (by simpa [putA] using h)
  | (k,x)::r,g,h=>by
    unfold putA at h
    by_cases hk:k=f
    · rw [if_pos hk] at h
      rcases List.mem_cons.mp h with z | z
      · exact .inr (by rw [z]; exact List.mem_cons_self)
      · exact .inr (List.mem_cons_of_mem _ z)
    · rw [if_neg hk] at h
      rcases List.mem_cons.mp h with z | z
      · exact .inr (by rw [z]; exact List.mem_cons_self)
      · rcases putA_keys z with y | y
        · exact .inl y
        · exact .inr (List.mem_cons_of_mem _ y)
theorem MS.put {k:Nat} {nm:Str} (ho:ME X cl o g) (he:ME X cl e f) (hn:NoAttr X.K (cl k) nm) (hs:swapsWith e (some (.Attribute o nm pos')) pos.line X.env=pure false:=by rfl):MS X cl (.Assign [.Attribute o nm pos'] e pos) (mPut k nm g f) :=
  PS.imp (ps_fld ho he hs) fun Z σ H ⟨θ,F,w,o,m,v,hf,q⟩=>by
    obtain ⟨⟨d,s1⟩,h1,hf⟩:=bind_some hf
    obtain ⟨⟨d2,s2⟩,h2,hf⟩:=bind_some hf
    cases d2 with
    | d x=>cases hf
    | r n =>
      dsimp only at hf h2
      split at hf
      · rename_i k' fs hc
        split at hf
        · rename_i hk
          cases hf
          obtain ⟨hk1,hk2⟩:=hk
          rw [hk1] at hc
          refine ⟨θ,F,w,d,s1,m,v,h1,fun y θ1 F1 H1 p1 q1 m1 r1=>⟨θ1,F1,⟨w.η,s1⟩,.r n,s2,m1,v.mono p1 q1,h2,fun x θ2 F2 H2 p2 q2 m2 r2=>?_⟩⟩
          obtain ⟨a,e1,rfl⟩:=r2
          obtain ⟨c1,c2,c3,dx,xs,c4,c5⟩:=m2.cel n a _ e1 hc
          have hl:xs.length < 1000:=by
            have:=Paired.length c5
            omega
          refine ⟨a,cl k,dx,xs,rfl,c4,c2,hn,hl,q _ θ2 F2 _ (p1.trans p2) (q1.trans q2) (m2.put e1 hc rfl ⟨c1,c2,fun f hf=>?_,dx,_,upd_same,c5.put nm (r1.mono p2 q2)⟩) ((v.mono p1 q1).mono p2 q2)⟩
          rcases putA_keys hf with z | z
          · rw [z]; exact hn
          · exact c3 f z
        · cases hf
      · cases hf
end
noncomputable def runM (n m:Nat) (g:Wd→Option MOut):List D→Sto→Option (D×Sto):=fun ds s=>if ds.length=n then (g ⟨ds.map some++List.replicate (m - n) none,s⟩).bind fun o=>match o with
  | .rt d s'=>some (d,s')
  | .nx w=>some (.d .none,w.s)
  | _=>none else none
section
variable {P:Program} {w:World} {K:PySem.W.Frag} {mg:Str→Option Value} {base:Heap} {cl:Nat→Addr}
theorem MV.start {θ:List Addr} {F:Hp} {N:List Str} {ds:List D} {vs:List V} (r:DRs K θ F ds vs):MV K θ F (L2.start N vs) (ds.map some++List.replicate (N.length - ds.length) none) where
  len:=by unfold L2.start; rw [List.length_append,List.length_append,List.length_map,List.length_map,List.length_replicate,List.length_replicate,Paired.length r]
  val:=fun i d e=>by
    unfold L2.start
    by_cases hi:i < ds.length
    · rw [List.getElem?_append_left (by rw [List.length_map]; exact hi),List.getElem?_map] at e
      rw [List.getElem?_append_left (by rw [List.length_map,← Paired.length r]; exact hi),List.getElem?_map]
      cases q:ds[i]? with
      | none=>rw [q] at e; cases e
      | some d' =>
        rw [q] at e
        have:d'=d:=Option.some.inj (Option.some.inj e)
        subst this
        obtain ⟨x,e1,e2⟩:=r.get q
        exact ⟨x,by rw [e1]; rfl,e2⟩
    · rw [List.getElem?_append_right (by rw [List.length_map]; omega),List.getElem?_replicate] at e
      split at e <;> cases e
theorem fnM {x qual:Str} {st:Stmt} {f:Addr} {fd:FuncData} {N ps:List Str} {k:Nat} {g:Wd→Option MOut} (Fn:Fun K x qual st f fd) (Sc:FnScope N ps (defScope st))
    (hb:∀ (cdv:Value) (A:Around) (outer:List Env) (s:Shared) (H:Hp) (E:XK),Room k (A.deeper (envOfC qual (defScope st) s.heap.objs.size f cdv)) →
      MSs (cxOf CX0 P w K mg base N qual (defScope st) f cdv A outer s H E).nox cl (defBody st) g) :
    FnOk P w K mg base CX0 (k+1) f fd ps (spM K cl (runM ps.length N.length g)):=by
  refine Fn.ok Sc (fun vs H Q E h=>?_) (fun cdv A outer s H vs Q E hr h=>?_)
  · obtain ⟨θ,F,s,ds,d,s',_,r,e,_⟩:=h
    unfold runM at e
    split at e
    · rename_i hl
      rw [← Paired.length r]; exact hl
    · cases e
  · obtain ⟨θ,F,s0,ds,d,s',m,r,e,q⟩:=h
    refine ⟨_,hb cdv A outer s H E hr,?_⟩
    unfold runM at e
    split at e
    · rename_i hl
      obtain ⟨o,h1,e⟩:=bind_some e
      have z:=MV.start (K:=K) (N:=N) r
      rw [hl] at z
      refine ⟨θ,F,⟨_,s0⟩,o,m,z,h1,?_⟩
      cases o with
      | rt d' s2 =>
        cases e
        exact q
      | nx w' =>
        cases e
        exact fun σ' θ' F' H' p' s' m' _=>q .non θ' F' H' p' s' m' (show Rel K F' .none .non from rel_non)
      | bk w'=>cases e
      | ct w'=>cases e
    · cases e
end
end L2.PU
namespace L2.PU
open PySem PySem.Spec PyProof.Rows
noncomputable def tMI (K:PySem.W.Frag) (cl:Nat→Addr) (f:Wd→Option (List PyData×Sto)):TI:=fun σ H R=>∃ θ F w ds s',MR K cl θ F H w.s∧MV K θ F σ w.η∧f w=some (ds,s')∧∀ J θ' F' H',θ <+: θ'→Same F F'→MR K cl θ' F' H' s'→ItP K J F' ds→R J H'
noncomputable def MI (X:Cx) (cl:Nat→Addr) (tg iter:Expr) (f:Wd→Option (List PyData×Sto)):Prop:=PI X tg iter (tMI X.K cl f)
noncomputable def iPu (f:En→Option (List PyData)):Wd→Option (List PyData×Sto):=fun w=>(f (vw w)).bind fun ds=>some (ds,w.s)
noncomputable def iM (f:MF):Wd→Option (List PyData×Sto):=fun w=>(f w).bind fun r=>match r.1 with | .d (.list ds)=>some (ds,r.2) | _=>none
noncomputable def back:List Nat→MEn→En→Option MEn
  | [],η,_=>some η
  | k::ks,η,ζ=>match ζ[k]? with | some (.val x)=>back ks (η.set k (some (.d x))) ζ | _=>none
noncomputable def mTg (ks:List Nat) (t:En→PyData→Option En) (w:Wd) (d:PyData):Option Wd:=(t (vw w) d).bind fun ζ=>(back ks w.η ζ).bind fun η=>some ⟨η,w.s⟩
noncomputable def mGo (ks:List Nat) (t:En→PyData→Option En) (body:Wd→Option MOut):List PyData→Wd→Option MOut
  | [],w=>some (.nx w)
  | d::ds,w=>(mTg ks t w d).bind fun w1=>(body w1).bind fun o=>match o with
    | .nx w2=>mGo ks t body ds w2
    | .ct w2=>mGo ks t body ds w2
    | .bk w2=>some (.nx w2)
    | .rt d s=>some (.rt d s)
noncomputable def mFor (ks:List Nat) (it:Wd→Option (List PyData×Sto)) (t:En→PyData→Option En) (body:Wd→Option MOut):Wd→Option MOut:=fun w=>(it w).bind fun r=>mGo ks t body r.1 ⟨w.η,r.2⟩
section
variable {X:Cx} {cl:Nat→Addr} {tg iter e:Expr} {f:MF} {fi:En→Option (List PyData)} {pos:Pos}
theorem MI.pu (h:∀ B,I X B tg iter fi):MI X cl tg iter (iPu fi):=fun pins s σ H R I ⟨θ,F,w,ds,s',m,v,hf,q⟩=>by
  obtain ⟨x,hx,hf⟩:=bind_some hf
  cases hf
  exact h ⟨F,H⟩ pins s σ H R I ⟨F,vw w,_,m.vw v,hx,fun J F' H' g ip=>q J θ F' H' (List.prefix_refl _) g.ff (m.grow g) ip⟩
theorem MI.list (h:ME X cl e f):MI X cl tg e (iM f):=PI.imp (pi_list h) fun σ H R ⟨θ,F,w,ds,s',m,v,hf,q⟩=>by
  obtain ⟨⟨d,s1⟩,h1,hf⟩:=bind_some hf
  dsimp only at hf
  split at hf
  · rename_i ys hd
    cases hf
    refine ⟨θ,F,w,_,_,m,v,h1,fun u θ' F' H' p' s' m' r'=>?_⟩
    have r2:Rel X.K F' (.list ds) u:=r'
    obtain ⟨a,xs,rfl,hq,rs⟩:=r2.lst
    exact ⟨a,rfl,⟨xs,m'.sm.seq hq⟩,q _ θ' F' H' p' s' m' (itp_list hq rs)⟩
  · cases hf
theorem back_ok {K:PySem.W.Frag} {θ:List Addr} {B:Bd} {F H:Hp} {σ':St} {ζ:En} (sr:SR K B F H σ' ζ):∀ (ks:List Nat) {η η':MEn},back ks η ζ=some η'→η.length=σ'.length →
    (∀ (i:Nat) d,η[i]?=some (some d)→i∈ks∨∃ v,σ'[i]?=some (some v)∧DR K θ F d v)→MV K θ F σ' η'
  | [],η,η',h,hl,hv=>by
    cases h
    exact ⟨hl,fun i d e=>(hv i d e).elim (fun z=>(by cases z)) id⟩
  | k::ks,η,η',h,hl,hv=>by
    unfold back at h
    split at h
    · rename_i x hx
      refine back_ok sr ks h (by rw [List.length_set]; exact hl) fun i d e=>?_
      by_cases hk:k=i
      · subst hk
        by_cases hlt:k < η.length
        · rw [List.getElem?_set_self hlt] at e
          have e':D.d x=d:=Option.some.inj (Option.some.inj e)
          subst e'
          exact .inr (sr.en.val k x hx)
        · rw [List.getElem?_eq_none (by rw [List.length_set]; omega)] at e; cases e
      · rw [List.getElem?_set_ne hk] at e
        rcases hv i d e with z | z
        · rcases List.mem_cons.mp z with y | y
          · exact absurd y.symm hk
          · exact .inl y
        · exact .inr z
    · cases h
theorem tg_ok {K:PySem.W.Frag} {cl:Nat→Addr} {ks:List Nat} {gt:TG} {t:En→PyData→Option En} (ht:TgP K ks gt t) {θ:List Addr} {F H:Hp} {σ:St} {w w1:Wd} {d:PyData} {x:V} (m:MR K cl θ F H w.s) (v:MV K θ F σ w.η) (rx:Rel K F d x) (h:mTg ks t w d=some w1) {Q:St→Hp→Prop}
    (q:∀ σ' F' H',Same F F'→MR K cl θ F' H' w1.s→MV K θ F' σ' w1.η→Q σ' H'):gt x σ H Q:=by
  obtain ⟨ζ,h1,h⟩:=bind_some h
  obtain ⟨η,h2,h⟩:=bind_some h
  cases h
  refine ht ⟨F,H⟩ F H σ (vw w) d x ζ (m.vw v) rx h1 Q fun σ' F' H' sr g hl hn=>q σ' F' H' g.ff (m.grow g) (back_ok sr ks h2 (by rw [v.len,hl]) fun i d' e=>?_)
  by_cases hi:i∈ks
  · exact .inl hi
  · obtain ⟨u,e1,e2⟩:=v.val i d' e
    exact .inr ⟨u,by rw [hn i hi]; exact e1,e2.mono (List.prefix_refl _) g.ff⟩
theorem MS.for {body:List Stmt} {gt:TG} {ks:List Nat} {t:En→PyData→Option En} {fi:Wd→Option (List PyData×Sto)} {u:Wd→Option MOut} (hp:PassesOwn (model X.prog X.w) X.A X.env X.xe) (hc:X.calm=true) (hi:MI X cl tg iter fi) (hg:PG X tg gt) (ht:TgP X.K ks gt t) (hb:MSs X cl body u)
    (hs:∀ x,foldedSetIterable iter X.env x=pure x:=by intro _; rfl):MS X cl (.For tg iter body [] pos) (mFor ks fi t u):=PS.imp (ps_for hp hc hi hg hb hs) fun Z σ H ⟨θ,F,w,o,m,v,hf,q⟩=>by
  obtain ⟨⟨ds,s1⟩,h1,hd⟩:=bind_some hf
  refine ⟨θ,F,w,ds,s1,m,v,h1,fun J θ1 F1 H1 p1 q1 m1 ip=>?_⟩
  refine ⟨fun i n σ H=>n=ds.length - i∧i≤ds.length∧∃ θc Fc wc,θ1 <+: θc∧Same F1 Fc∧MR X.K cl θc Fc H wc.s∧MV X.K θc Fc σ wc.η∧mGo ks t u (ds.drop i) wc=some o,⟨_,rfl,Nat.zero_le _,θ1,F1,⟨w.η,s1⟩,List.prefix_refl _,.refl _,m1,v.mono p1 q1,by simpa using hd⟩,?_⟩
  rintro i n σc Hc ⟨rfl,hi,θc,Fc,wc,pc,sc,mc,vc,hgo⟩
  obtain ⟨ip1,ip2⟩:=ip Fc Hc i sc mc.sm
  by_cases hlt:i < ds.length
  · have e:ds[i]?=some ds[i]:=List.getElem?_eq_getElem hlt
    obtain ⟨go,yl⟩:=ip1 _ e
    rw [List.drop_eq_getElem_cons hlt] at hgo
    unfold mGo at hgo
    obtain ⟨w1,e1,hgo⟩:=bind_some hgo
    obtain ⟨o1,e2,hgo⟩:=bind_some hgo
    have cont:∀ (w2:Wd),mGo ks t u (ds.drop (i+1)) w2=some o→∀ σ' θ' F' H',θ1 <+: θ'→Same F1 F'→MR X.K cl θ' F' H' w2.s→MV X.K θ' F' σ' w2.η →
        ∃ n',n' < ds.length - i∧(fun i n σ H=>n=ds.length - i∧i≤ds.length∧∃ θc Fc wc,θ1 <+: θc∧Same F1 Fc∧MR X.K cl θc Fc H wc.s∧MV X.K θc Fc σ wc.η∧mGo ks t u (ds.drop i) wc=some o) (i+1) n' σ' H':=fun w2 h2 σ' θ' F' H' p s m v =>
      ⟨ds.length - (i+1),by omega,rfl,hlt,θ',F',w2,p,s,m,v,h2⟩
    refine .inr ⟨go,fun σ' H'=>∃ n',n' < ds.length - i∧(fun i n σ H=>n=ds.length - i∧i≤ds.length∧∃ θc Fc wc,θ1 <+: θc∧Same F1 Fc∧MR X.K cl θc Fc H wc.s∧MV X.K θc Fc σ wc.η∧mGo ks t u (ds.drop i) wc=some o) (i+1) n' σ' H',fun σ' H' n=>n,fun x H' y=>?_⟩
    obtain ⟨F2,g2,rx⟩:=yl x H' y
    refine tg_ok ht (mc.grow g2) (vc.mono (List.prefix_refl _) g2.ff) rx e1 fun σ3 F3 H3 s3 m3 v3=>?_
    refine ⟨θc,F3,w1,o1,m3,v3,e2,?_⟩
    have s4:Same F1 F3:=sc.trans (g2.ff.trans s3)
    cases o1 with
    | nx w2=>exact fun σ' θ' F' H' p' s' m' v'=>cont w2 hgo σ' θ' F' H' (pc.trans p') (s4.trans s') m' v'
    | ct w2=>exact fun σ' θ' F' H' p' s' m' v'=>cont w2 hgo σ' θ' F' H' (pc.trans p') (s4.trans s') m' v'
    | bk w2 =>
      cases hgo
      exact fun σ' θ' F' H' p' s' m' v'=>q σ' θ' F' H' (p1.trans (pc.trans p')) (q1.trans (s4.trans s')) m' v'
    | rt d s2 =>
      cases hgo
      exact fun u θ' F' H' p' s' m' r'=>q u θ' F' H' (p1.trans (pc.trans p')) (q1.trans (s4.trans s')) m' r'
  · have ei:i=ds.length:=by omega
    subst ei
    rw [List.drop_length] at hgo
    cases hgo
    exact .inl ⟨ip2 rfl,q σc θc Fc Hc (p1.trans pc) (q1.trans sc) mc vc⟩
end
section
variable {X:Cx} {cl:Nat→Addr} {tg iter elt:Expr} {ifs:List Expr} {scope:Scope} {N':List Str} {mp:List (Option Nat)} {ks:List Nat} {gt:TG} {t:En→PyData→Option En} {fi:En→Option (List PyData)} {p:En→Option Bool} {f:En→Option PyData} {pos:Pos}
noncomputable def mC (fs:En→Option (List PyData)):MF:=fun w=>(fs (vw w)).bind fun xs=>some (.d (.list xs),w.s)
theorem MS.setC (i:Nat) {y:Str} {py spos:Pos} (hc:X.calm=true) (hN:X.N.Nodup) (ck:CompSc X scope N' mp) (ht:TgP X.K ks gt t) (hks:∀ k∈ks,mp[k]?=some none) (hi:∀ B,I X B tg iter fi)
    (hb:∀ B s H fp,PG (compCx X scope N' s H fp) tg gt∧Ts (compCx X scope N' s H fp) B ifs p∧E (compCx X scope N' s H fp) B elt f)
    (hiy:X.N[i]?=some y:=by rfl) (hy:X.env.scope.names.lookup y=some .local:=by rfl) (hsw:swapsWith (.ListComp elt [⟨tg,iter,ifs,0⟩] scope pos) (some (.Name y py)) spos.line X.env=pure true:=by rfl)
    (hs:∀ x,foldedSetIterable iter X.env x=pure x:=by intro _; rfl):MS X cl (.Assign [.Name y py] (.ListComp elt [⟨tg,iter,ifs,0⟩] scope pos) spos) (mSet i (mC (sComp mp fi t p f))):=fun pins s σ H Z I ⟨θ,F,w,o,m,v,hf,q⟩=>by
  obtain ⟨⟨d,s1⟩,h1,hf⟩:=bind_some hf
  cases hf
  obtain ⟨xs,hx,h1⟩:=bind_some h1
  cases h1
  refine ps_setComp (g:=gt) (tt:=tT X.K ⟨F,H⟩ p) (te:=tE X.K ⟨F,H⟩ f) hc hN hiy hy ck (hi ⟨F,H⟩) (hb ⟨F,H⟩) hsw hs pins s σ H Z I ?_
  refine comp_of ht hks σ H _ ⟨F,vw w,xs,m.vw v,hx,fun p zs F' H' g hp fp hp' rs=>?_⟩
  obtain ⟨g2,r2⟩:=list_in m.sm g hp fp hp' rs
  exact q _ θ _ H' (List.prefix_refl _) g2.ff (m.grow g2) ((v.mono (List.prefix_refl _) g2.ff).set i r2)
end
end L2.PU
namespace L2.PU
open PySem PySem.Spec PyProof.Rows
noncomputable def truD:PyData→Option Bool
  | .none=>some false
  | .bool b=>some b
  | .int i=>some (i != 0)
  | .list ds=>some (!ds.isEmpty)
  | .tuple ds=>some (!ds.isEmpty)
  | _=>none
noncomputable def bTr (f:En→Option PyData):En→Option Bool:=fun η=>(f η).bind truD
theorem relL_empty {K:PySem.W.Frag} {F:Hp} {ds:List PyData} {xs:List V} (h:RelL K F ds xs):(!ds.isEmpty)=!xs.isEmpty:=by
  cases ds with
  | nil=>rw [h.nil_of]; rfl
  | cons d ds =>
    obtain ⟨x,r,rfl,_,_⟩:=h.cons_of
    rfl
theorem tru_of {K:PySem.W.Frag} {F H:Hp} {d:PyData} {b:Bool} {v:V} (h:truD d=some b) (sm:Same F H) (r:Rel K F d v):TruV K v H b:=by
  cases d with
  | none=>cases h; rw [r.non]; rfl
  | bool k=>cases h; rw [r.bl]; rfl
  | int i=>cases h; rw [r.int]; rfl
  | str x=>cases h
  | dict es=>cases h
  | list ds =>
    cases h
    obtain ⟨a,xs,rfl,hq,rs⟩:=r.lst
    exact .inl ⟨xs,sm.seq hq,relL_empty rs⟩
  | tuple ds =>
    cases h
    obtain ⟨a,xs,rfl,hq,rs⟩:=r.tup
    exact .inr (.inl ⟨xs,same_seqT sm hq,relL_empty rs⟩)
section
variable {X:Cx} {B:Bd} {e:Expr} {f:En→Option PyData}
theorem T.tru (he:E X B e f) (hi:∀ whole,isTrue e X.env whole=(do let v ← whole; standAt e.pos; holding [v] (truthy v)):=by intro _; rfl):T X B e (bTr f):=PT.imp (pt_truth he hi) fun σ H Q ⟨F,η,b,sr,hd,q⟩=>by
  obtain ⟨x,hx,hd⟩:=bind_some hd
  exact ⟨F,η,x,sr,hx,fun v F1 H1 g1 rv=>⟨b,tru_of hd g1.fh rv,q F1 H1 g1⟩⟩
end
noncomputable def pDs (s:Sto):List D→Option (List PyData)
  | []=>some []
  | d::r=>(pD s d).bind fun x=>(pDs s r).bind fun xs=>some (x::xs)
noncomputable def mCB (o:List PyData→Option PyData) (fs:MFs):MF:=fun w=>(fs w).bind fun r=>(pDs r.2 r.1).bind fun xs=>(o xs).bind fun x=>some (.d x,r.2)
section
variable {X:Cx} {cl:Nat→Addr} {a b:Expr} {f g:MF} {pos:Pos}
theorem MT.ne {k:Nat} (hr:Room k X.A) (ha:ME X cl a f) (hb:ME X cl b g):MT X cl (.Compare a [.NotEq] [b] pos) (mB (mOpL pNe f g)):=MT.cmp (op_neD hr.units) ad_ne (nomark b) ha hb
theorem ME.add (ha:ME X cl a f) (hb:ME X cl b g):ME X cl (.BinOp a .Add b pos) (mOp pAdd f g):=ME.op op_addA ad_add ha hb
end
noncomputable def spL (K:PySem.W.Frag):Sp:=fun vs H Q _=>∃ (a:Addr) (ns:List Int),vs=[.ref a]∧SqL K H a (ns.map V.int)∧ns.length≤63∧∀ H',Q (.bl true) H'
theorem spM_law {K:PySem.W.Frag} {cl:Nat→Addr} {fn:List D→Sto→Option (D×Sto)} (main:∀ ns:List Int,ns.length≤63→∃ s',fn [.d (.list (ns.map PyData.int))] []=some (.d (.bool true),s')):∀ vs H Q E,spL K vs H Q E→spM K cl fn vs H Q E:=fun vs H Q E ⟨a,ns,e,hS,hl,q⟩=>by
  subst e
  obtain ⟨s',hm⟩:=main ns hl
  exact ⟨[],H,[],[.d (.list (ns.map PyData.int))],.d (.bool true),s',⟨.refl _,rfl,by simp,fun n a c h=>by simp at h⟩,.cons (show Rel K H (.list (ns.map PyData.int)) (.ref a) from rel_lst hS (RelL.ints ns)) .nil,hm,fun v θ' F' H' _ _ _ r=>by rw [(show Rel K F' (.bool true) v from r).bl]; exact q H'⟩
end L2.PU
namespace L2.PU
open PySem PySem.Spec PyProof.Rows
section
variable {w w1:Wd} {s s1 s2:Sto} {d d1 d2:D} {ds:List D} {n i k:Nat} {nm:Str}
theorem mSeq_of {f g:Wd→Option MOut} {r:Option MOut} (h1:f w=some (.nx w1)) (h2:g w1=r):mSeq f g w=r:=by
  unfold mSeq
  rw [h1]; exact h2
theorem mSeq_rt {f g:Wd→Option MOut} (h1:f w=some (.rt d s)):mSeq f g w=some (.rt d s):=by
  unfold mSeq
  rw [h1]; rfl
theorem mSet_of {f:MF} (h:f w=some (d,s)):mSet i f w=some (.nx ⟨w.η.set i (some d),s⟩):=by
  unfold mSet
  rw [h]; rfl
theorem mRet_of {f:MF} (h:f w=some (d,s)):mRet f w=some (.rt d s):=by
  unfold mRet
  rw [h]; rfl
theorem mExp_of {f:MF} (h:f w=some (d,s)):mExp f w=some (.nx ⟨w.η,s⟩):=by
  unfold mExp
  rw [h]; rfl
theorem mP_of {f:En→Option PyData} {x:PyData} (h:f (vw w)=some x):mP f w=some (.d x,w.s):=by
  unfold mP
  rw [h]; rfl
theorem mC_of {f:En→Option (List PyData)} {x:List PyData} (h:f (vw w)=some x):mC f w=some (.d (.list x),w.s):=by
  unfold mC
  rw [h]; rfl
theorem tPv_of {f:En→Option Bool} {b:Bool} (h:f (vw w)=some b):tPv f w=some (b,w.s):=by
  unfold tPv
  rw [h]; rfl
theorem mIfT {c:MTF} {f g:Wd→Option MOut} {r:Option MOut} (h:c w=some (true,s)) (h2:f ⟨w.η,s⟩=r):mIf c f g w=r:=by
  unfold mIf
  rw [h]; exact h2
theorem mIfF {c:MTF} {f g:Wd→Option MOut} {r:Option MOut} (h:c w=some (false,s)) (h2:g ⟨w.η,s⟩=r):mIf c f g w=r:=by
  unfold mIf
  rw [h]; exact h2
theorem mIfN {c:MTF} {f:Wd→Option MOut} (h:c w=some (false,s)):mIf c f mNx w=some (.nx ⟨w.η,s⟩):=mIfF h rfl
theorem maN_of:maN w=some ([],w.s):=rfl
theorem maC_of {f:MF} {fs:MFs} (h1:f w=some (d,s1)) (h2:fs ⟨w.η,s1⟩=some (ds,s2)):maC f fs w=some (d::ds,s2):=by
  unfold maC
  rw [h1,Option.bind_some,h2]; rfl
theorem mMeth_of {fn:List D→Sto→Option (D×Sto)} {o:MF} {fs:MFs} {as:List (Str×D)} (h0:o w=some (.r n,s)) (hc:s[n]?=some (.obj k as)) (hl:as.lookup nm=none) (h1:fs ⟨w.η,s⟩=some (ds,s1)) (h2:fn (.r n::ds) s1=some (d,s2)):mMeth k nm fn o fs w=some (d,s2):=by
  unfold mMeth
  rw [h0,Option.bind_some]
  dsimp only
  rw [hc]
  dsimp only
  rw [if_pos ⟨rfl,hl⟩,h1]; exact h2
theorem mMake_of {fn:List D→Sto→Option (D×Sto)} {fs:MFs} (h1:fs w=some (ds,s)) (h2:fn (.r s.length::ds) (s++[.obj k []])=some (.d .none,s2)):mMake k fn fs w=some (.r s.length,s2):=by
  unfold mMake
  rw [h1,Option.bind_some,h2]; rfl
theorem mPut_of {o e:MF} {fs:List (Str×D)} (h1:e w=some (d,s1)) (h2:o ⟨w.η,s1⟩=some (.r n,s2)) (hc:s2[n]?=some (.obj k fs)) (hl:fs.length < 999):mPut k nm o e w=some (.nx ⟨w.η,s2.set n (.obj k (putA nm d fs))⟩):=by
  unfold mPut
  rw [h1,Option.bind_some,h2,Option.bind_some]
  dsimp only
  rw [hc]
  dsimp only
  rw [if_pos ⟨rfl,hl⟩]
theorem mB_of {f:MF} {b:Bool} (h:f w=some (.d (.bool b),s)):mB f w=some (b,s):=by
  unfold mB
  rw [h]; rfl
theorem mOpL_of {o:PyData→PyData→Option PyData} {f g:MF} {x y z:PyData} (h1:f w=some (d1,s1)) (h2:g ⟨w.η,s1⟩=some (d2,s2)) (hx:lD s2 d1=some x) (hy:lD s2 d2=some y) (ho:o x y=some z) (hf:flatD z=true):mOpL o f g w=some (.d z,s2):=by
  unfold mOpL
  rw [h1,Option.bind_some,h2,Option.bind_some,hx,Option.bind_some,hy,Option.bind_some,ho,Option.bind_some,if_pos hf]
theorem mOp_of {o:PyData→PyData→Option PyData} {f g:MF} {x y z:PyData} (h1:f w=some (d1,s1)) (h2:g ⟨w.η,s1⟩=some (d2,s2)) (hx:pD s2 d1=some x) (hy:pD s2 d2=some y) (ho:o x y=some z):mOp o f g w=some (.d z,s2):=by
  unfold mOp
  rw [h1,Option.bind_some,h2,Option.bind_some,hx,Option.bind_some,hy,Option.bind_some,ho,Option.bind_some]
theorem mRun_of {a b:Nat} {g:Wd→Option MOut} (hl:ds.length=a) (h:g ⟨ds.map some++List.replicate (b - a) none,s⟩=some (.rt d s1)):runM a b g ds s=some (d,s1):=by
  unfold runM
  rw [if_pos hl,h]; rfl
theorem mRunN {a b:Nat} {g:Wd→Option MOut} (hl:ds.length=a) (h:g ⟨ds.map some++List.replicate (b - a) none,s⟩=some (.nx w1)):runM a b g ds s=some (.d .none,w1.s):=by
  unfold runM
  rw [if_pos hl,h]; rfl
theorem mFor_of {ks:List Nat} {it:Wd→Option (List PyData×Sto)} {t:En→PyData→Option En} {body:Wd→Option MOut} {xs:List PyData} {r:Option MOut} (h:it w=some (xs,s)) (h2:mGo ks t body xs ⟨w.η,s⟩=r):mFor ks it t body w=r:=by
  unfold mFor
  rw [h]; exact h2
theorem mTg_name {x:PyData} (h:i < w.η.length):mTg [i] (tgN i) w x=some ⟨w.η.set i (some (.d x)),w.s⟩:=by
  have e:((vw w).set i (.val x))[i]?=some (.val x):=List.getElem?_set_self (by unfold vw; rw [List.length_map]; exact h)
  show (some ((vw w).set i (.val x))).bind _=_
  rw [Option.bind_some]
  unfold back
  rw [e]
  rfl
theorem mGo_all {ι:Type} {ks:List Nat} {t:En→PyData→Option En} {body:Wd→Option MOut} (Z:ι→PyData) (Inv:List ι→Wd→Prop) (all:List ι)
    (st:∀ done x rest w,all=done++x::rest→Inv done w→∃ w1 w2,mTg ks t w (Z x)=some w1∧body w1=some (.nx w2)∧Inv (done++[x]) w2) {w:Wd} (h0:Inv [] w):∃ w',mGo ks t body (all.map Z) w=some (.nx w')∧Inv all w':=by
  have key:∀ (rest done:List ι) (w:Wd),all=done++rest→Inv done w→∃ w',mGo ks t body (rest.map Z) w=some (.nx w')∧Inv all w':=by
    intro rest
    induction rest with
    | nil=>intro done w e h; exact ⟨w,rfl,by rw [e,List.append_nil]; exact h⟩
    | cons x r ih =>
      intro done w e h
      obtain ⟨w1,w2,h1,h2,h3⟩:=st done x r w e h
      obtain ⟨w',e1,e2⟩:=ih (done++[x]) w2 (by rw [e]; simp) h3
      refine ⟨w',?_,e2⟩
      rw [List.map_cons]
      unfold mGo
      rw [h1,Option.bind_some,h2,Option.bind_some]
      exact e1
  exact key all [] w rfl h0
theorem vwS_obj {g:D→Option PyData} {fs:List (Str×D)} (hc:s[n]?=some (.obj k fs)):vwS g s (some (.r n))=.ob fun f=>(fs.lookup f).bind g:=by
  unfold vwS
  dsimp only
  rw [hc]
end
end L2.PU
namespace L2.PU
open PySem PySem.Spec PyProof.Rows
noncomputable def mcIn (mp:List (Option Nat)) (η:MEn):MEn:=mp.map fun o=>o.bind fun j=>(η[j]?).join
noncomputable def mcGo (ks:List Nat) (t:En→PyData→Option En) (p:MTF) (f:MF) (n:Nat) (η:MEn):List PyData→Sto→Option Sto
  | [],s=>some s
  | d::ds,s=>(mTg ks t ⟨η,s⟩ d).bind fun w1=>(p w1).bind fun r=>if r.1=true then
      (f ⟨w1.η,r.2⟩).bind fun q=>match q.2[n]? with
        | some (.lst acc)=>if acc.length < sizeLine then mcGo ks t p f n η ds (q.2.set n (.lst (acc++[q.1]))) else none
        | _=>none
    else mcGo ks t p f n η ds r.2
noncomputable def mcL (mp:List (Option Nat)) (it:Wd→Option (List PyData×Sto)) (ks:List Nat) (t:En→PyData→Option En) (p:MTF) (f:MF):MF:=fun w=>(it w).bind fun r =>
  (mcGo ks t p f r.2.length (mcIn mp w.η) r.1 (r.2++[.lst []])).bind fun s=>some (.r r.2.length,s)
noncomputable def MTs (X:Cx) (cl:Nat→Addr) (ifs:List Expr) (f:MTF):Prop:=PTs X ifs (tMT X.K cl f)
noncomputable def tmTrue:MTF:=fun w=>some (true,w.s)
section
variable {X:Cx} {cl:Nat→Addr} {tg iter elt c:Expr} {ifs:List Expr} {scope:Scope} {N':List Str} {mp:List (Option Nat)} {ks:List Nat} {gt:TG} {t:En→PyData→Option En} {fi:Wd→Option (List PyData×Sto)} {p:MTF} {f:MF} {pos:Pos}
theorem paired_app {α β:Type} {R:α→β→Prop} {as:List α} {bs:List β} (h:Paired R as bs) {a:α} {b:β} (r:R a b):Paired R (as++[a]) (bs++[b]):=by
  induction h with
  | nil=>exact .cons r .nil
  | cons q _ ih=>exact .cons q ih
theorem paired_len {α β:Type} {R:α→β→Prop} {as:List α} {bs:List β} (h:Paired R as bs):as.length=bs.length:=by
  induction h with
  | nil=>rfl
  | cons q _ ih=>rw [List.length_cons,List.length_cons,ih]
end
end L2.PU
namespace L2.PU
open PySem PySem.Spec PyProof.Rows
noncomputable def tPM (K:PySem.W.Frag) (cl:Nat→Addr) (f:En→Option (Option Int)):TO:=fun σ H Q=>∃ θ F w o,MR K cl θ F H w.s∧MV K θ F σ w.η∧f (vw w)=some o∧∀ F' H',Same F F'→MR K cl θ F' H' w.s→Q o H'
noncomputable def mSl (f:MF) (fl fh:En→Option (Option Int)):MF:=fun w=>(f w).bind fun r=>(pD r.2 r.1).bind fun x=>(fl (vw ⟨w.η,r.2⟩)).bind fun l=>(fh (vw ⟨w.η,r.2⟩)).bind fun h=>(pSl x l h).bind fun z=>some (.d z,r.2)
end L2.PU
namespace L2.PU
open PySem PySem.Spec PyProof.Rows
noncomputable def mFz (f:MF):MF:=fun w=>(f w).bind fun r=>match r.1 with
  | .d x=>some (.d x,r.2)
  | .r n=>match r.2[n]? with
    | some (.lst ds)=>(dAll ds).bind fun xs=>some (.d (.list xs),r.2.set n (.fz (.list xs)))
    | some (.fz x)=>some (.d x,r.2)
    | _=>none
noncomputable def mIfx (c:MTF) (f g:MF):MF:=fun w=>(c w).bind fun r=>if r.1=true then f ⟨w.η,r.2⟩ else g ⟨w.η,r.2⟩
noncomputable def mLst (fs:MFs):MF:=fun w=>(fs w).bind fun r=>if r.1.length≤sizeLine then some (.r r.2.length,r.2++[.lst r.1]) else none
noncomputable def mIxL (f g:MF):MF:=fun w=>(f w).bind fun r=>(g ⟨w.η,r.2⟩).bind fun q=>match r.1,q.1 with
  | .r n,.d (.int i)=>(match q.2[n]? with | some (.lst ds)=>(atI ds i).bind fun d=>some (d,q.2) | _=>none)
  | _,_=>none
noncomputable def mNewD:MF:=fun w=>some (.r w.s.length,w.s++[.dct []])
section
variable {X:Cx} {cl:Nat→Addr} {a b c e o:Expr} {es:List Expr} {f g:MF} {fs:MFs} {tc:MTF} {pos:Pos}
theorem CelR.frz {K:PySem.W.Frag} {θ:List Addr} {F H:Hp} {a b:Addr} {o:HO} {c:Cell} (h:CelR K cl θ F H b c) (hne:b≠a) (hF:F a=none):CelR K cl θ (upd F a o) H b c:=by
  have sn:Same F (upd F a o):=same_new hF o
  cases c with
  | obj k fs=>obtain ⟨h1,h2,h3,dx,xs,h4,h5⟩:=h; exact ⟨by rw [upd_ne hne]; exact h1,h2,h3,dx,xs,h4,h5.mono (List.prefix_refl _) sn⟩
  | lst ds=>obtain ⟨h1,xs,h4,h5⟩:=h; exact ⟨by rw [upd_ne hne]; exact h1,xs,h4,h5.mono (List.prefix_refl _) sn⟩
  | dct kvs=>obtain ⟨h1,xs,h4,h5⟩:=h; exact ⟨by rw [upd_ne hne]; exact h1,xs,h4,h5.mono (List.prefix_refl _) sn⟩
  | fz x=>exact ⟨Rel.mono sn h.1,h.2⟩
theorem MR.frz {K:PySem.W.Frag} {θ:List Addr} {F H:Hp} {s:Sto} (m:MR K cl θ F H s) {n:Nat} {ad:Addr} {ds:List D} {xs:List PyData} (e1:θ[n]?=some ad) (e2:s[n]?=some (.lst ds)) (hx:dAll ds=some xs) :
    ∃ F',Same F F'∧MR K cl θ F' H (s.set n (.fz (.list xs)))∧Rel K F' (.list xs) (.ref ad):=by
  obtain ⟨h1,vs,h4,h5⟩:=m.cel n ad _ e1 e2
  have sn:Same F (upd F ad (.lst vs)):=same_new h1 _
  have rl:Rel K (upd F ad (.lst vs)) (.list xs) (.ref ad):=rel_lst (SqL.of upd_same) ((dAll_rel h5 hx).mono sn)
  refine ⟨upd F ad (.lst vs),sn,⟨fun b u q=>?_,by rw [List.length_set]; exact m.len,m.nd,fun k b c f1 f2=>?_⟩,rl⟩
  · by_cases hb:b=ad
    · subst hb; rw [upd_same] at q; rw [← q]; exact h4
    · rw [upd_ne hb] at q; exact m.sm b u q
  · by_cases hk:n=k
    · subst hk
      rw [List.getElem?_set_self (List.getElem?_eq_some_iff.mp e2).1] at f2
      cases f2
      rw [e1] at f1
      cases f1
      exact ⟨rl,_,h4⟩
    · rw [List.getElem?_set_ne hk] at f2
      exact (m.cel k b c f1 f2).frz (nd_ne m.nd f1 e1 (Ne.symm hk)) h1
theorem fz_of:∀ σ H Q,tM X.K cl (mFz f) σ H Q→tM X.K cl f σ H Q:=fun σ H Q ⟨θ,F,w,d,s',m,v,hf,q⟩=>by
  obtain ⟨⟨d1,s1⟩,h1,hf⟩:=bind_some hf
  refine ⟨θ,F,w,d1,s1,m,v,h1,fun u θ1 F1 H1 p1 q1 m1 r1=>?_⟩
  cases d1 with
  | d x=>cases hf; exact q u θ1 F1 H1 p1 q1 m1 r1
  | r n =>
    dsimp only at hf
    obtain ⟨ad,e1,rfl⟩:=r1
    split at hf
    · rename_i ds e2
      obtain ⟨xs,hx,hf⟩:=bind_some hf
      cases hf
      obtain ⟨F2,sn,m2,rl⟩:=m1.frz e1 e2 hx
      exact q _ θ1 F2 H1 p1 (q1.trans sn) m2 rl
    · rename_i x e2
      cases hf
      exact q _ θ1 F1 H1 p1 q1 m1 (m1.cel n ad _ e1 e2).1
    · cases hf
theorem ME.fz (h:ME X cl e f):ME X cl e (mFz f):=PE.imp h fz_of
theorem ME.ifx (hc:MT X cl c tc) (ha:ME X cl a f) (hb:ME X cl b g):ME X cl (.IfExp c a b pos) (mIfx tc f g):=PE.imp (pe_ifExp hc ha hb) fun σ H Q ⟨θ,F,w,d,s',m,v,hf,q⟩=>by
  obtain ⟨⟨x,s1⟩,h1,hf⟩:=bind_some hf
  refine ⟨θ,F,w,x,s1,m,v,h1,fun θ1 F1 H1 p1 q1 m1=>?_⟩
  cases x with
  | true =>
    rw [if_pos rfl] at hf ⊢
    exact ⟨θ1,F1,⟨w.η,s1⟩,d,s',m1,v.mono p1 q1,hf,fun u θ2 F2 H2 p2 q2 m2 r2=>q u θ2 F2 H2 (p1.trans p2) (q1.trans q2) m2 r2⟩
  | false =>
    rw [if_neg Bool.false_ne_true] at hf ⊢
    exact ⟨θ1,F1,⟨w.η,s1⟩,d,s',m1,v.mono p1 q1,hf,fun u θ2 F2 H2 p2 q2 m2 r2=>q u θ2 F2 H2 (p1.trans p2) (q1.trans q2) m2 r2⟩
theorem new_last {θ:List Addr} {s:Sto} {p:Addr} (h:θ.length=s.length):(θ++[p])[s.length]?=some p:=by rw [← h,List.getElem?_append_right (Nat.le_refl _),Nat.sub_self]; rfl
theorem ME.dict0:ME X cl (.Dict [] [] pos) mNewD:=PE.imp pe_dnewK fun σ H Q ⟨θ,F,w,d,s',m,v,hf,q⟩ p hp=>by
  cases hf
  have pp:θ <+: θ++[p]:=List.prefix_append _ _
  exact q _ (θ++[p]) F _ pp (.refl _) (m.new hp ⟨m.sm.free hp,[],upd_same,.nil⟩) ⟨p,new_last m.len,rfl⟩
end
noncomputable def mExtC (o g:MF):MF:=fun w=>(o w).bind fun r=>match r.1 with
  | .r n=>(match r.2[n]? with
    | some (.lst _)=>(g ⟨w.η,r.2⟩).bind fun q=>(pD q.2 q.1).bind fun x=>match x,q.2[n]? with
      | .list ys,some (.lst ds)=>if ds.length+ys.length≤sizeLine then some (.d .none,q.2.set n (.lst (ds++ys.map .d))) else none
      | _,_=>none
    | _=>none)
  | _=>none
noncomputable def mAppC (o g:MF):MF:=fun w=>(o w).bind fun r=>match r.1 with
  | .r n=>(match r.2[n]? with
    | some (.lst _)=>(g ⟨w.η,r.2⟩).bind fun q=>match q.2[n]? with
      | some (.lst ds)=>if ds.length < sizeLine then some (.d .none,q.2.set n (.lst (ds++[q.1]))) else none
      | _=>none
    | _=>none)
  | _=>none
section
variable {X:Cx} {cl:Nat→Addr} {o e:Expr} {f g:MF} {apos cpos:Pos}
theorem paired_apps {α β:Type} {R:α→β→Prop} {as as':List α} {bs bs':List β} (h:Paired R as bs) (h':Paired R as' bs'):Paired R (as++as') (bs++bs'):=by
  induction h with
  | nil=>exact h'
  | cons q _ ih=>exact .cons q ih
theorem ME.extC (ho:ME X cl o f) (he:ME X cl e g) (hbase:attributeBase o "extend" X.env (eval o X.env)=eval o X.env:=by rfl)
    (hfew:((backTo cpos (starEach [e] X.env)).all (fun x=>!x.1)&&(backToKw cpos (keywordEach [] X.env)).all (fun x=>x.1.isSome)
      && decide ([e].length+([]:List Keyword).length+(if ([]:List Keyword).isEmpty then 0 else 1) < 30))=true:=by rfl)
    (hline:(apos.endLine==cpos.line)=true:=by rfl) (hs:starEach [e] X.env=(false,eval e X.env)::starEach [] X.env:=by exact star_of rfl) (hplain:(backTo cpos (starEach [] X.env)).any (·.1)=false:=by rfl) :
    ME X cl (.Call (.Attribute o "extend" apos) [e] [] cpos) (mExtC f g) :=
  PE.imp (pe_bm PySem.F.plainAttrs_list PySem.F.slot_list_extend PySem.F.type_list_extend mt_extS ho (MA.cons he MA.nil hs) hbase hfew hline hs hplain) fun σ H Q ⟨θ,F,w,d,s',m,v,hf,q⟩=>by
    obtain ⟨⟨d1,s1⟩,h1,hf⟩:=bind_some hf
    cases d1 with
    | d x=>cases hf
    | r n =>
      dsimp only at hf
      split at hf
      · rename_i ds0 hc0
        obtain ⟨⟨d2,s2⟩,h2,hf⟩:=bind_some hf
        obtain ⟨x,hx,hf⟩:=bind_some hf
        dsimp only at hf hx
        split at hf
        · rename_i ys ds hc
          split at hf
          · rename_i hl
            cases hf
            refine ⟨θ,F,w,_,s1,m,v,h1,fun u θ1 F1 H1 p1 q1 m1 r1=>?_⟩
            obtain ⟨ad,z1,rfl⟩:=r1
            obtain ⟨w1,xs0,w3,w4⟩:=m1.cel n ad _ z1 hc0
            refine ⟨.inl ⟨rfl,xs0,SqL.of w3⟩,θ1,F1,⟨w.η,s1⟩,[d2],s2,m1,v.mono p1 q1,maC_of h2 maN_of,fun vs θ2 F2 H2 p2 q2 m2 r2=>?_⟩
            cases r2 with
            | cons ra rn =>
              cases rn
              have rx:=sees_p m2 _ _ _ hx ra
              obtain ⟨b,zs,rfl,hq,r3⟩:=rx.lst
              have z2:=pre_get p2 z1
              obtain ⟨w5,xs,w6,w7⟩:=m2.cel n ad _ z2 hc
              have hlx:=paired_len w7
              refine ⟨ad,b,xs,zs,rfl,rfl,w6,m2.sm.seq hq,by rw [← hlx,r3.length]; exact hl,?_⟩
              exact q _ θ2 F2 _ (p1.trans p2) (q1.trans q2) (m2.put (c':=.lst (ds++ys.map .d)) z2 hc rfl ⟨w5,xs++zs,upd_same,paired_apps w7 (rel_ds r3)⟩) (show Rel X.K F2 .none .non from rel_non)
          · cases hf
        · cases hf
      · cases hf
theorem ME.appC (ho:ME X cl o f) (he:ME X cl e g) (hbase:attributeBase o "append" X.env (eval o X.env)=eval o X.env:=by rfl)
    (hfew:((backTo cpos (starEach [e] X.env)).all (fun x=>!x.1)&&(backToKw cpos (keywordEach [] X.env)).all (fun x=>x.1.isSome)
      && decide ([e].length+([]:List Keyword).length+(if ([]:List Keyword).isEmpty then 0 else 1) < 30))=true:=by rfl)
    (hline:(apos.endLine==cpos.line)=true:=by rfl) (hs:starEach [e] X.env=(false,eval e X.env)::starEach [] X.env:=by exact star_of rfl) (hplain:(backTo cpos (starEach [] X.env)).any (·.1)=false:=by rfl) :
    ME X cl (.Call (.Attribute o "append" apos) [e] [] cpos) (mAppC f g) :=
  PE.imp (pe_bm PySem.F.plainAttrs_list PySem.F.slot_list_append PySem.F.type_list_append mt_append ho (MA.cons he MA.nil hs) hbase hfew hline hs hplain) fun σ H Q ⟨θ,F,w,d,s',m,v,hf,q⟩=>by
    obtain ⟨⟨d1,s1⟩,h1,hf⟩:=bind_some hf
    cases d1 with
    | d x=>cases hf
    | r n =>
      dsimp only at hf
      split at hf
      · rename_i ds0 hc0
        obtain ⟨⟨d2,s2⟩,h2,hf⟩:=bind_some hf
        dsimp only at hf
        split at hf
        · rename_i ds hc
          split at hf
          · rename_i hl
            cases hf
            refine ⟨θ,F,w,_,s1,m,v,h1,fun u θ1 F1 H1 p1 q1 m1 r1=>?_⟩
            obtain ⟨ad,z1,rfl⟩:=r1
            obtain ⟨w1,xs0,w3,w4⟩:=m1.cel n ad _ z1 hc0
            refine ⟨.inl ⟨rfl,xs0,SqL.of w3⟩,θ1,F1,⟨w.η,s1⟩,[d2],s2,m1,v.mono p1 q1,maC_of h2 maN_of,fun vs θ2 F2 H2 p2 q2 m2 r2=>?_⟩
            cases r2 with
            | @cons _ y _ _ ra rn =>
              cases rn
              have z2:=pre_get p2 z1
              obtain ⟨w5,xs,w6,w7⟩:=m2.cel n ad _ z2 hc
              have hlx:=paired_len w7
              refine ⟨ad,xs,y,rfl,rfl,w6,by rw [← hlx]; exact hl,?_⟩
              exact q _ θ2 F2 _ (p1.trans p2) (q1.trans q2) (m2.put (c':=.lst (ds++[d2])) z2 hc rfl ⟨w5,xs++[y],upd_same,paired_app w7 ra⟩) (show Rel X.K F2 .none .non from rel_non)
          · cases hf
        · cases hf
      · cases hf
end
end L2.PU
namespace L2.PU
open PySem PySem.Spec PyProof.Rows
theorem d_setdef {X:Cx} {pins:List (Addr×Obj)} {σ:St} {H:Hp} {s:Shared} {a:Addr} {kvs:List (Key×V)} {k:Key} {u r:Value} {z:V} {A:Around} {E:Value→Shared→Prop} {Q:Value→Shared→Prop} (I:Inv X pins σ H s) (e:H a=some (.dK kvs)) (ry:RelV (kV k) u) (rz:RelV z r)
    (there:∀ v,valV kvs k=some v→∀ w' s',Inv X pins σ H s'→RelV v w'→Q w' s') (new:valV kvs k=none→kvs.length < sizeLine∧∀ s',Inv X pins σ (upd H a (.dK (putK kvs k z))) s'→Q r s'):wpAny (model X.prog X.w) A (call (.builtin "dict.setdefault") [.ref a,u,r]) Q E s:=by
  obtain ⟨zz,hd,vs,rel,dd⟩:=dk_of I.hok e
  refine call_meetsIn PySem.F.slot_dict_setdefault dd.typeIs PySem.F.entry_dict_setdefault (PySem.F.args_dict_setdefault_3 _ _ _) (PySem.kt_meets_setdefault (mixKind X.prog X.w) a (kV_is ry) hd r) ⟨vs,dd,by rw [← rel.length]; exact zz,fun v hv=>?_,fun hn h' dd' hs=>?_⟩
  · cases l:valV kvs k with
    | none =>
      have hn:valueAt vs k=none:=RelO.none_of (by rw [← l]; exact rel.val k)
      rw [hn] at hv; cases hv
    | some x =>
      obtain ⟨w',hw,rw'⟩:=RelO.some_of (v:=x) (o:=valueAt vs k) (by rw [← l]; exact rel.val k)
      rw [hw] at hv
      cases hv
      exact there x l _ _ (I.tok _) rw'
  · cases l:valV kvs k with
    | some x =>
      obtain ⟨w',hw,rw'⟩:=RelO.some_of (v:=x) (o:=valueAt vs k) (by rw [← l]; exact rel.val k)
      rw [hw] at hn; cases hn
    | none =>
      obtain ⟨hl,q⟩:=new l
      have he:∃ q,h'.get? a=some q:=let ⟨q,_,_,hq,_⟩:=dd'; ⟨q,hq⟩
      exact q _ (d_write I (by rw [e]; exact True.intro) hs he (dk_new (by have:=length_putK kvs k z; omega) hd (rel.put k rz) dd'))
noncomputable def tDSd (td ty tx:TE):TE:=fun σ H Q=>td σ H fun x H1=>∃ a,x=.ref a∧IsD H1 a∧ty σ H1 fun y H2=>tx σ H2 fun z H3=>∃ kvs k,H3 a=some (.dK kvs)∧y=kV k ∧
  (∀ v,valV kvs k=some v→Q v H3)∧(valV kvs k=none→kvs.length < sizeLine∧Q z (upd H3 a (.dK (putK kvs k z))))
theorem pe_dsd {X:Cx} {o e f:Expr} {apos cpos:Pos} {td ty tx:TE} (ho:PE X o td) (he:PE X e ty) (hf:PE X f tx) (m:M2 X o "setdefault" apos e f cpos):PE X (.Call (.Attribute o "setdefault" apos) [e,f] [] cpos) (tDSd td ty tx):=by
  intro pins s σ H Q I h
  refine wpAny_Call_method m.base m.few m.line PySem.F.plainAttrs_dict PySem.F.slot_dict_setdefault PySem.F.type_dict_setdefault (thn (ho pins s σ H _ I h) fun u s1 ⟨x,H1,I1,rx,a,ex,d,q1⟩=>?_)
  subst ex
  obtain rfl:u=Value.ref a:=rx
  obtain ⟨t1,t2,_⟩:=isD_at I1 d
  refine ⟨t1,t2,?_⟩
  rw [m.trees]
  refine Calls.callWith_builtin rfl (Calls.evalArgs_plain (Calls.spliced_cons (thn (he pins s1 σ H1 _ I1 q1) fun iv s2 ⟨y,H2,I2,ry,q2⟩ =>
    Calls.spliced_cons (thn (hf pins s2 σ H2 _ I2 q2) fun fv s3 ⟨z,H3,I3,rz,kvs,k,ea,ey,q3,q4⟩=>Calls.spliced_nil ?_))))
  subst ey
  exact d_setdef I3 ea ry rz (fun v l w' s4 I4 rw'=>⟨v,H3,I4,rw',q3 v l⟩) fun l=>⟨(q4 l).1,fun s4 I4=>⟨z,_,I4,rz,(q4 l).2⟩⟩
noncomputable def keyP:PyData→Option Key
  | .int i=>some (.inl i)
  | .str x=>some (.inr x)
  | _=>none
noncomputable def lookK (kvs:List (Key×D)) (k:Key):Option D:=(kvs.find? fun kv=>decide (kv.1=k)).map (·.2)
theorem DRk.look {K:PySem.W.Frag} {θ:List Addr} {F:Hp} {kvs:List (Key×D)} {vs:List (Key×V)} (h:DRk K θ F kvs vs) (k:Key):(∀ d,lookK kvs k=some d→∃ v,valV vs k=some v∧DR K θ F d v)∧(lookK kvs k=none→valV vs k=none):=by
  induction h with
  | nil=>exact ⟨fun d e=>(by cases e),fun _=>rfl⟩
  | @cons a b as bs r t ih =>
    by_cases hk:a.1=k
    · have hb:b.1=k:=by rw [← r.1]; exact hk
      have e1:lookK (a::as) k=some a.2:=by simp [lookK,List.find?_cons,hk]
      rw [e1,valV_pos hb]
      exact ⟨fun d e=>(by cases e; exact ⟨_,rfl,r.2⟩),fun e=>(by cases e)⟩
    · have hb:¬ b.1=k:=by rw [← r.1]; exact hk
      have e1:lookK (a::as) k=lookK as k:=by simp [lookK,List.find?_cons,hk]
      rw [e1,valV_neg hb]
      exact ih
theorem putK_new {kvs:List (Key×V)} {k:Key} {z:V} (h:valV kvs k=none):putK kvs k z=kvs++[(k,z)]:=by
  unfold putK
  rw [if_neg]
  intro hc
  obtain ⟨p,hp,hk⟩:=List.any_eq_true.mp hc
  unfold valV at h
  rw [Option.map_eq_none_iff] at h
  exact absurd hk (List.find?_eq_none.mp h p hp)
noncomputable def mSetD (o g f:MF):MF:=fun w=>(o w).bind fun r=>match r.1 with
  | .r n=>(match r.2[n]? with
    | some (.dct _)=>(g ⟨w.η,r.2⟩).bind fun q=>match q.1 with
      | .d x=>(keyP x).bind fun k=>(f ⟨w.η,q.2⟩).bind fun z=>match z.2[n]? with
        | some (.dct kvs)=>(match lookK kvs k with
          | some d=>some (d,z.2)
          | none=>if kvs.length < sizeLine then some (z.1,z.2.set n (.dct (kvs++[(k,z.1)]))) else none)
        | _=>none
      | _=>none
    | _=>none)
  | _=>none
theorem ME.setdef {X:Cx} {cl:Nat→Addr} {o e c:Expr} {f g h:MF} {apos cpos:Pos} (ho:ME X cl o f) (he:ME X cl e g) (hc:ME X cl c h) (mm:M2 X o "setdefault" apos e c cpos:=by exact ⟨rfl,rfl,rfl,rfl⟩) :
    ME X cl (.Call (.Attribute o "setdefault" apos) [e,c] [] cpos) (mSetD f g h):=PE.imp (pe_dsd ho he hc mm) fun σ H Q ⟨θ,F,w,d,s',m,v,hf,q⟩=>by
  obtain ⟨⟨d1,s1⟩,h1,hf⟩:=bind_some hf
  cases d1 with
  | d x=>cases hf
  | r n =>
    dsimp only at hf
    split at hf
    · rename_i kv0 hc0
      obtain ⟨⟨d2,s2⟩,h2,hf⟩:=bind_some hf
      cases d2 with
      | r n2=>cases hf
      | d x =>
        dsimp only at hf
        obtain ⟨k,hk,hf⟩:=bind_some hf
        obtain ⟨⟨d3,s3⟩,h3,hf⟩:=bind_some hf
        dsimp only at hf
        split at hf
        · rename_i kvs hc3
          refine ⟨θ,F,w,_,s1,m,v,h1,fun u θ1 F1 H1 p1 q1 m1 r1=>?_⟩
          obtain ⟨ad,z1,rfl⟩:=r1
          obtain ⟨w1,ks0,w3,w4⟩:=m1.cel n ad _ z1 hc0
          refine ⟨ad,rfl,.inl ⟨ks0,.inl w3⟩,θ1,F1,⟨w.η,s1⟩,.d x,s2,m1,v.mono p1 q1,h2,fun u2 θ2 F2 H2 p2 q2 m2 r2=>?_⟩
          refine ⟨θ2,F2,⟨w.η,s2⟩,d3,s3,m2,v.mono (p1.trans p2) (q1.trans q2),h3,fun u3 θ3 F3 H3 p3 q3 m3 r3=>?_⟩
          have z3:=pre_get p3 (pre_get p2 z1)
          obtain ⟨w5,ks,w6,w7⟩:=m3.cel n ad _ z3 hc3
          have ey:u2=kV k:=by
            cases x <;> simp only [keyP,Option.some.injEq,reduceCtorEq] at hk
            · subst hk; exact (show Rel X.K F2 (.int _) u2 from r2).int
            · subst hk; exact (show Rel X.K F2 (.str _) u2 from r2).str
          refine ⟨ks,k,w6,ey,fun vv hv=>?_,fun hn=>?_⟩
          · cases l:lookK kvs k with
            | none=>rw [(w7.look k).2 l] at hv; cases hv
            | some dd =>
              rw [l] at hf
              cases hf
              obtain ⟨v',e1,e2⟩:=(w7.look k).1 _ l
              rw [hv] at e1
              cases e1
              exact q _ θ3 F3 H3 (p1.trans (p2.trans p3)) (q1.trans (q2.trans q3)) m3 e2
          · cases l:lookK kvs k with
            | some dd =>
              obtain ⟨v',e1,_⟩:=(w7.look k).1 _ l
              rw [hn] at e1; cases e1
            | none =>
              rw [l] at hf
              dsimp only at hf
              split at hf
              · rename_i hl
                cases hf
                rw [putK_new hn]
                refine ⟨by rw [← paired_len w7]; exact hl,q _ θ3 F3 _ (p1.trans (p2.trans p3)) (q1.trans (q2.trans q3)) (m3.put (c':=.dct (kvs++[(k,d)])) z3 hc3 rfl ⟨w5,ks++[(k,u3)],upd_same,paired_app w7 ⟨rfl,r3⟩⟩) r3⟩
              · cases hf
        · cases hf
    · cases hf
end L2.PU
namespace L2.PU
open PySem PySem.Spec PyProof.Rows
noncomputable def mAnd (f g:MF):MF:=fun w=>(f w).bind fun r=>match r.1 with | .d x=>(asB x).bind fun c=>if c=true then g ⟨w.η,r.2⟩ else some (.d (.bool false),r.2) | _=>none
noncomputable def mOr (f g:MF):MF:=fun w=>(f w).bind fun r=>match r.1 with | .d x=>(asB x).bind fun c=>if c=true then some (.d (.bool true),r.2) else g ⟨w.η,r.2⟩ | _=>none
end L2.PU
namespace L2.PU
open PySem PySem.Spec PyProof.Rows
section
variable {X:Cx} {cl:Nat→Addr} {tg e:Expr} {f:MF} {pos:Pos}
noncomputable def mUnp (ks:List Nat) (f:MF) (t:En→PyData→Option En):Wd→Option MOut:=fun w=>(f w).bind fun r=>match r.1 with | .d d=>(mTg ks t ⟨w.η,r.2⟩ d).bind fun w'=>some (.nx w') | _=>none
end
end L2.PU
namespace L2.PU
open PySem PySem.Spec PyProof.Rows
noncomputable def mTruL (f:MF):MTF:=fun w=>(f w).bind fun r=>match r.1 with
  | .r n=>(match r.2[n]? with
    | some (.lst ds)=>some (!ds.isEmpty,r.2)
    | _=>none)
  | _=>none
noncomputable def mLenL (f:MF):MF:=fun w=>(f w).bind fun r=>match r.1 with
  | .r n=>(match r.2[n]? with
    | some (.lst ds)=>some (.d (.int ds.length),r.2)
    | _=>none)
  | _=>none
noncomputable def mPopL (f:MF):MF:=fun w=>(f w).bind fun r=>match r.1 with
  | .r n=>(match r.2[n]? with
    | some (.lst ds)=>(ds[ds.length - 1]?).bind fun d=>some (d,r.2.set n (.lst ds.dropLast))
    | _=>none)
  | _=>none
noncomputable def mCopyL (f:MF):MF:=fun w=>(f w).bind fun r=>match r.1 with
  | .r n=>(match r.2[n]? with
    | some (.lst ds)=>some (.r r.2.length,r.2++[.lst ds])
    | _=>none)
  | _=>none
noncomputable def mTupD (fs:MFs):MF:=fun w=>(fs w).bind fun r=>(pDs r.2 r.1).bind fun xs=>if xs.length≤sizeLine then some (.d (.tuple xs),r.2) else none
end L2.PU
namespace L2.PU
open PySem PySem.Spec PyProof.Rows
noncomputable def Itdn (lo:Int) (n:Nat):It:=⟨fun i _=>i < n,fun i H x H'=>H'=H∧x=.int (lo - i),fun i _=>n≤i⟩
section
variable {X:Cx} {tg a b c:Expr} {B:Bd} {fs:En→Option (List PyData)} {pos:Pos}
noncomputable def iRngD (ta:TA):TI:=fun σ H R=>ta σ H fun vs H1=>∃ i j:Int,vs=[.int i,.int j,.int (-1)]∧(-(2 ^ 58)≤i∧i < 2 ^ 58∧-(2 ^ 58)≤j∧j < 2 ^ 58)∧R (Itdn i (i - j).toNat) H1
noncomputable def rngLd (lo:Int) (n:Nat):List PyData:=(List.range n).map fun (k:Nat)=>PyData.int (lo - k)
noncomputable def rngD (ds:List PyData):Option (List PyData):=match ds with
  | [.int i,.int j,.int (-1)]=>if (-(2 ^ 58)≤i∧i < 2 ^ 58)∧(-(2 ^ 58)≤j∧j < 2 ^ 58) then some (rngLd i (i - j).toNat) else none
  | _=>none
end
section
variable {X:Cx} {cl:Nat→Addr} {tg a b e:Expr} {f g:MF} {pos:Pos}
noncomputable def iMT (f:MF):Wd→Option (List PyData×Sto):=fun w=>(f w).bind fun r=>match r.1 with | .d (.tuple ds)=>some (ds,r.2) | _=>none
end
end L2.PU
namespace L2.PU
open PySem PySem.Spec PyProof.Rows
end L2.PU
namespace L2.PU
open PySem PySem.Spec PyProof.Rows
noncomputable def Iti (p:Addr) (ob:Obj) (ks:List (Key×V)):It :=
  ⟨fun i H=>i < ks.length∧H p=some (.frz ob (.dK ks)),
   fun i H v H'=>∃ T k x,H T=none∧ks[i]?=some (k,x)∧v=.ref T∧H'=upd H T (.tup [kV k,x]),
   fun i H=>i=ks.length∧H p=some (.frz ob (.dK ks))⟩
end L2.PU
namespace L2.PU
open PySem PySem.Spec PyProof.Rows
section
variable {X:Cx} {cl:Nat→Addr} {elts:List Expr} {kk:Nat} {tp np ap ip cp pos:Pos} {elt:Expr} {ifs:List Expr} {scope:Scope} {N':List Str} {mp:List (Option Nat)} {ks:List Nat} {gt:TG} {t:En→PyData→Option En} {p:En→Option Bool} {f:En→Option PyData}
noncomputable def iItems (K:PySem.W.Frag) (i:Nat) (fld:Str):TI:=fun σ H R=>∃ a C dx fs p ob ks,σ[i]?=some (some (.ref a))∧H a=some (.ins C dx fs)∧Cls K C∧NoAttr K C fld∧fs.lookup fld=some (.ref p)∧H p=some (.frz ob (.dK ks))∧R (Iti p ob ks) H
noncomputable def itemsD (xs:List (Key×PyData)):List PyData:=xs.map fun kv=>.tuple [kD kv.1,kv.2]
noncomputable def mItC (i:Nat) (fld:Str) (mp:List (Option Nat)) (t:En→PyData→Option En) (p:En→Option Bool) (f:En→Option PyData):MF:=fun w=>match w.η[i]? with
  | some (some (.r n))=>(match w.s[n]? with
    | some (.obj _ fs)=>(match fs.lookup fld with
      | some (.r m)=>(match w.s[m]? with
        | some (.dct kvs)=>(dKvs kvs).bind fun xs=>(sComp mp (fun _=>some (itemsD xs)) t p f (vw w)).bind fun ys=>if ys.all flatD=true then some (.d (.list ys),w.s) else none
        | _=>none)
      | _=>none)
    | _=>none)
  | _=>none
end
end L2.PU
namespace L2.PU
open PySem PySem.Spec PyProof.Rows
noncomputable def mAtC (o g:MF):MF:=fun w=>(o w).bind fun r=>(g ⟨w.η,r.2⟩).bind fun q=>match r.1,q.1 with
  | .r n,.d x=>(keyP x).bind fun k=>(match q.2[n]? with
    | some (.dct kvs)=>(lookK kvs k).bind fun d=>some (d,q.2)
    | _=>none)
  | _,_=>none
noncomputable def mInC (neg:Bool) (g o:MF):MTF:=fun w=>(g w).bind fun r=>(o ⟨w.η,r.2⟩).bind fun q=>match r.1,q.1 with
  | .d x,.r n=>(keyP x).bind fun k=>(match q.2[n]? with
    | some (.dct kvs)=>some (if neg then !(lookK kvs k).isSome else (lookK kvs k).isSome,q.2)
    | _=>none)
  | _,_=>none
noncomputable def putKD (kvs:List (Key×D)) (k:Key) (d:D):List (Key×D):=if (kvs.any fun kv=>decide (kv.1=k))=true then kvs.map (fun kv=>if kv.1=k then (kv.1,d) else kv) else kvs++[(k,d)]
noncomputable def dropKD (kvs:List (Key×D)) (k:Key):List (Key×D):=kvs.filter fun kv=>decide (kv.1≠k)
noncomputable def mPutC (o g e:MF):Wd→Option MOut:=fun w=>(e w).bind fun r=>(o ⟨w.η,r.2⟩).bind fun q=>(g ⟨w.η,q.2⟩).bind fun z=>match q.1,z.1 with
  | .r n,.d x=>(keyP x).bind fun k=>(match z.2[n]? with
    | some (.dct kvs)=>if kvs.length < sizeLine then some (.nx ⟨w.η,z.2.set n (.dct (putKD kvs k r.1))⟩) else none
    | _=>none)
  | _,_=>none
noncomputable def mPopC (o g:MF):MF:=fun w=>(o w).bind fun r=>match r.1 with
  | .r n=>(match r.2[n]? with
    | some (.dct _)=>(g ⟨w.η,r.2⟩).bind fun q=>match q.1 with
      | .d x=>(keyP x).bind fun k=>(match q.2[n]? with
        | some (.dct kvs)=>(lookK kvs k).bind fun d=>some (d,q.2.set n (.dct (dropKD kvs k)))
        | _=>none)
      | _=>none
    | _=>none)
  | _=>none
noncomputable def mAugF (k:Nat) (nm:Str) (o e:MF):Wd→Option MOut:=fun w=>(o w).bind fun r=>match r.1 with
  | .r n=>(match r.2[n]? with
    | some (.obj k' fs)=>if k'=k then (match fs.lookup nm with
      | some (.d (.int i))=>(e ⟨w.η,r.2⟩).bind fun q=>match q.1 with
        | .d (.int j)=>(match q.2[n]? with
          | some (.obj k2 fs2)=>if k2=k∧fs2.length < 999 then some (.nx ⟨w.η,q.2.set n (.obj k (putA nm (.d (.int (i+j))) fs2))⟩) else none
          | _=>none)
        | _=>none
      | _=>none) else none
    | _=>none)
  | _=>none
end L2.PU
namespace L2.PU
open PySem PySem.Spec PyProof.Rows
noncomputable def pInY (neg:Bool) (x y:PyData):Option PyData:=match y with
  | .list ds=>if SeqAt.shaped x=true∧PyData.depth x≤60∧PyData.canLayAll0 ds=true then some (.bool (if neg then !(ds.any fun y=>PyData.eqv y x) else ds.any fun y=>PyData.eqv y x)) else none
  | .tuple ds=>if SeqAt.shaped x=true∧PyData.depth x≤60∧PyData.canLayAll0 ds=true then some (.bool (if neg then !(ds.any fun y=>PyData.eqv y x) else ds.any fun y=>PyData.eqv y x)) else none
  | _=>none
noncomputable def rInY (K:PySem.W.Frag) (neg:Bool):R2:=fun x y H Q=>∃ F dx ds,Same F H∧Rel K F dx x∧(Rel K F (.list ds) y∨Rel K F (.tuple ds) y)∧SeqAt.shaped dx=true∧PyData.depth dx≤60∧PyData.canLayAll0 ds=true∧Q (.bl (if neg then !(ds.any fun y=>PyData.eqv y dx) else ds.any fun y=>PyData.eqv y dx)) H
end L2.PU
namespace L2.PU
open PySem PySem.Spec PyProof.Rows
noncomputable def mAddC (f g:MF):MF:=fun w=>(f w).bind fun r=>(g ⟨w.η,r.2⟩).bind fun q=>match r.1,q.1 with
  | .r n,.d (.list ys)=>(match q.2[n]? with
    | some (.lst ds)=>if ds.length+ys.length≤sizeLine then some (.r q.2.length,q.2++[.lst (ds++ys.map .d)]) else none
    | _=>none)
  | _,_=>none
end L2.PU
namespace L2.PU
open PySem PySem.Spec PyProof.Rows
noncomputable def rIdxY (K:PySem.W.Frag):V→List V→Hp→VK→Prop:=fun x vs H Q=>∃ F y ds d j,vs=[y]∧Same F H∧Rel K F (.list ds) x∧Rel K F d y∧SeqAt.shaped d=true∧PyData.depth d≤60∧PyData.canLayAll0 ds=true∧ds.findIdx? (fun z=>PyData.eqv z d)=some j∧Q (.int (j:Nat)) H
section
variable {X:Cx}
noncomputable def pIdxY (x y:PyData):Option PyData:=match x with
  | .list ds=>if SeqAt.shaped y=true∧PyData.depth y≤60∧PyData.canLayAll0 ds=true then (ds.findIdx? fun z=>PyData.eqv z y).bind fun j=>some (.int (j:Nat)) else none
  | _=>none
variable {B:Bd} {a e:Expr} {f g:En→Option PyData} {apos cpos:Pos}
end
end L2.PU
namespace L2.PU
open PySem PySem.Spec PyProof.Rows
section
variable {X:Cx} {B:Bd} {e:Expr} {fs:En→Option (List PyData)} {p1 p2 q1 q2:Pos}
noncomputable def pLenSet (ds:List PyData):Option PyData:=match ds with
  | [.list xs]=>if xs.length+1 < 4096 then (asIs xs).bind fun ns=>some (.int ((ns.foldl step_dedup []).length:Nat)) else none
  | _=>none
end
end L2.PU
namespace L2.PU
open PySem PySem.Spec PyProof.Rows
section
variable {prog:Program} {w:World} {K:Type} [DecidableEq K] {knd:KeyKind prog w K} {kf:Value→K} {J:SetTable→Nat→Prop}
variable {A:Around} {E:Value→Shared→Prop} {s:Shared}
noncomputable def SetJ (knd:KeyKind prog w K) (kf:Value→K) (J:SetTable→Nat→Prop) (h:Heap) (a:Addr) (σ:List K):Prop :=
  ∃ o es ep t,h.get? a=some o∧o.ExactSet∧o.data=.set es ep t∧ElemsOf knd es.toList∧(es.toList.map fun e=>kf e.2).Perm σ∧es.size < scanBound∧t.fits es.size=true∧J t es.size
noncomputable def tbl2 (t:SetTable) (es:Array (Int×Value)) (h:Int) (x:Value):SetTable :=
  if (if (layNew t es h x).2.1.plain then plainKind x else true) then (layNew t es h x).2.1 else { (layNew t es h x).2.1 with plain:=false }
structure Jok (J:SetTable→Nat→Prop) (Px:Value→Prop):Prop where
  new:∀ t es h x,Px x→t.fits es.size=true→J t es.size→J (tbl2 t es h x) (es.size+1)
  rel:∀ t es m,t.fits es.size=true→J t es.size→J (relayAll t es m).2.1 es.size
noncomputable def sd [BEq K] (σ:List K) (k:K):List K:=if σ.any (·==k) then σ else σ++[k]
end
end L2.PU
namespace L2.PU
open PySem PySem.Spec PyProof.Rows
noncomputable def Js (b:Bool) (t:SetTable) (n:Nat):Prop:=t.led=b∧(n=0∨t.plain=false)
section
variable {prog:Program} {w:World} {K:Type} [DecidableEq K] [BEq K] [LawfulBEq K] {knd:KeyKind prog w K} {kf:Value→K} {J:SetTable→Nat→Prop} {Px:Value→Prop}
variable {A:Around} {E:Value→Shared→Prop} {s:Shared} {R:Result→Shared→Prop} {I:Addr} {fp wr:List Addr} {G:Array GenState→Array GenState→Prop} {n:Nat} {P:Nat→Value→Prop} {St:Nat→Shared→Prop}
noncomputable def fmet (val:Nat→K) (i:Nat):List K:=((List.range i).map val).foldl sd []
end
section
variable {prog:Program} {w:World} {A:Around} {E:Value→Shared→Prop} {s:Shared}
noncomputable abbrev byTx (w:World):Bool:=w.params.followText "set-order"
variable {K:Type} [DecidableEq K] [BEq K] [LawfulBEq K] {knd:KeyKind prog w K} {kf:Value→K} {J:SetTable→Nat→Prop} {Px:Value→Prop}
end
end L2.PU
namespace L2.PU
open PySem PySem.Spec PyProof.Rows
noncomputable def IsSi (h:Heap) (it a:Addr) (first:Value) (i n ep:Nat):Prop:=∃ o,h.get? it=some o∧o.cls=.type "set_iterator" ∧ o.data=.fields #[first,.int i 0,.ref a,.int n 0,.int ep 0]
section
variable {prog:Program} {w:World} {A:Around} {E:Value→Shared→Prop} {s:Shared} {it a:Addr} {first:Value} {i n ep slot:Nat} {o:Obj} {es:Array (Int×Value)} {t:SetTable}
noncomputable def IsPl (h:Heap) (P:Addr) (pl:List Nat):Prop:=∃ o c,h.get? P=some o∧o.data=.seq (pl.map fun i:Nat=>rawInt i).toArray c
end
end L2.PU
namespace L2.PU
open PySem PySem.Spec PyProof.Rows
noncomputable def slN (pl:Array Nat) (i:Nat):Nat:=if i=0 then 0 else pl.getD (i - 1) 0+1
noncomputable def Rise (pl:Array Nat):Prop:=∀ i,i≤pl.size→SetTable.below pl (slN pl i)=i
end L2.PU
namespace L2.PU
open PySem PySem.Spec PyProof.Rows
noncomputable def Jwalk (w:World) (J:SetTable→Nat→Prop):Prop:=∀ t n,J t n→t.fits n=true→byTx w=false→t.led=true∧((!t.plain&&decide (n > 1))=false→Rise t.place)
end L2.PU
namespace L2.PU
open PySem PySem.Spec PyProof.Rows
noncomputable def kfS:Value→Str
  | .str s _=>s
  | _ => ""
end L2.PU
namespace L2.PU
open PySem PySem.Spec PyProof.Rows
section
variable {X:Cx} {B:Bd} {e:Expr} {fs:En→Option (List PyData)} {p1 p2 q1 q2:Pos}
noncomputable def pSortSet (ds:List PyData):Option PyData:=match ds with
  | [.list xs]=>if xs.length < 64 then (asSs xs).bind fun ss=>some (.list ((srtS (ss.foldl sd [])).map PyData.str)) else none
  | _=>none
end
end L2.PU
namespace L2.PU
open PySem PySem.Spec PyProof.Rows
noncomputable def Ris (pl:Array Nat):Prop:=pl.toList.Pairwise (· < ·)
noncomputable def Ji (b:Bool) (t:SetTable) (_:Nat):Prop:=t.led=b∧Ris t.place
noncomputable def kfI:Value→Int
  | .int i _=>i
  | _=>0
section
variable {X:Cx} {B:Bd} {e:Expr} {fs:En→Option (List PyData)} {p1 p2 q1 q2:Pos}
noncomputable def pSortSetI (ds:List PyData):Option PyData:=match ds with
  | [.list xs]=>if xs.length < 64 then (asIs xs).bind fun ss=>some (.list ((srtI (ss.foldl sd [])).map PyData.int)) else none
  | _=>none
end
end L2.PU
namespace L2.PU
open PySem PySem.Spec PyProof.Rows
section
variable {X:Cx} {B:Bd}
noncomputable def eDisp (ps:List PF):En→Option PyData:=fun η=>(evP ps η).bind fun es=>(keysOf es).bind fun kvs=>if kvs.length≤15 then some (.dict (prs (mergeP [] kvs))) else none
end
end L2.PU
namespace L2.PU
open PySem PySem.Spec PyProof.Rows
end L2.PU
namespace L2.PU
open PySem PySem.Spec PyProof.Rows
end L2.PU
namespace L2.PU
open PySem PySem.Spec PyProof.Rows
end L2.PU
namespace L2.PU
open PySem PySem.Spec PyProof.Rows
section
variable {X:Cx} {B:Bd} {e:Expr} {fs:En→Option (List PyData)} {pp pos:Pos}
noncomputable def PV (K:PySem.W.Frag) (H:Hp):List V→List (Key×V)→Prop
  | [],ks=>ks=[]
  | t::ts,ks=>∃ (p:Addr) (k:Key) (x:V) (r:List (Key×V)),t=.ref p∧SqT K H p [kV k,x]∧ks=(k,x)::r∧PV K H ts r
noncomputable def rDictP (K:PySem.W.Frag):List V→Hp→VK→Prop:=fun xs H Q=>∃ (l:Addr) (ts:List V) (ks:List (Key×V)),xs=[.ref l]∧SqL K H l ts∧PV K H ts ks∧ts.length≤3000000∧∀ p,H p=none→Q (.ref p) (upd H p (.dK (mergeK [] ks)))
noncomputable def asPr:List PyData→Option (List (PyData×PyData))
  | []=>some []
  | .tuple [x,y]::r=>(asPr r).bind fun l=>some ((x,y)::l)
  | _=>none
noncomputable def pDictP (ds:List PyData):Option PyData:=match ds with
  | [.list es]=>if es.length≤3000000 then (asPr es).bind fun ps=>(keysOf ps).bind fun kvs=>some (.dict (prs (mergeP [] kvs))) else none
  | _=>none
end
end L2.PU
namespace L2.PU
open PySem PySem.Spec PyProof.Rows
noncomputable def Itet (K:PySem.W.Frag) (l:Addr) (n:Nat):It :=
  ⟨fun i H=>i < n∧∃ xs x,SqT K H l xs∧xs.length=n∧xs[i]?=some x,fun i H v H'=>∃ T x,H T=none∧(∀ xs,SqT K H l xs→xs[i]?=some x)∧v=.ref T∧H'=upd H T (.tup [.int (i:Nat),x]),fun i H=>i=n∧∃ xs,SqT K H l xs∧xs.length=n⟩
section
variable {X:Cx} {B:Bd} {a:Expr} {fs:En→Option (List PyData)} {pos pp:Pos}
noncomputable def enT (ds:List PyData):Option (List PyData):=match ds with
  | [.tuple xs]=>some (enumD xs 0)
  | _=>none
end
end L2.PU
namespace L2.PU
open PySem PySem.Spec PyProof.Rows
section
variable {X:Cx} {B:Bd} {e:Expr} {fs:En→Option (List PyData)} {p1 p2 q1 q2:Pos}
noncomputable def chS (x:Str):List Str:=x.cps.toList.map fun c=>⟨#[c]⟩
noncomputable def pSortSetT (ds:List PyData):Option PyData:=match ds with
  | [.str x]=>if x.cps.size < 64 then some (.list ((srtS ((chS x).foldl sd [])).map PyData.str)) else none
  | _=>none
end
end L2.PU
namespace L2.PU
open PySem PySem.Spec PyProof.Rows
section
variable {prog:Program} {w:World} {A:Around} {E:Value→Shared→Prop} {s:Shared}
noncomputable abbrev ZipO (h:Heap) (z TI TO T0:Addr) (b:Bool):Prop :=
  h.get? z=some { cls:=.type "zip", dict:=none,data:=.fields #[rawInt T0,.bool b,.bool false,.ref TI,.ref TO],slots:=#[] }
theorem alive_of {a:Addr} {o:Obj} {Q:Option Obj→Shared→Prop} (ho:s.heap.get? a=some o) (h:Q (some o) s):wpAny (model prog w) A (loadIfAlive a) Q E s:=fun Γ p hΓ=>by
  show Sem.wp _ _ (.loadIfAlive a _) _ _ _ _
  rw [Sem.wp_loadIfAlive,ho]
  exact h
theorem owned_out {z TI TO T0:Addr} {b:Bool} {Q:Bool→Shared→Prop} (hz:ZipO s.heap z TI TO T0 b) (hT:∃ o,s.heap.get? T0=some o)
    (h:∀ h',ZipO h' z TI TO T0 true→(∀ c o,c≠z→s.heap.get? c=some o→h'.get? c=some o)→h'.objs.size=s.heap.objs.size→Q false { s with heap:=h' }) :
    wpAny (model prog w) A (Builtin.SmallTypes.ownedTupleIsFree (.ref z)) Q E s:=by
  obtain ⟨o,ho⟩:=hT
  unfold Builtin.SmallTypes.ownedTupleIsFree
  refine wpAny_bind (wpAny_field hz rfl (x:=rawInt T0) rfl ?_)
  show wpAny _ _ (loadIfAlive ((T0:Int).toNat) >>= _) _ _ _
  rw [Int.toNat_natCast]
  refine wpAny_bind (alive_of ho ?_)
  simp only [Option.isNone_some,Bool.false_eq_true,if_false]
  refine wpAny_bind (wpAny_field hz rfl (x:=.bool b) rfl ?_)
  cases b with
  | true =>
    show wpAny _ _ (pure false) _ _ _
    exact wpAny_pure (h s.heap hz (fun _ _ _ e=>e) rfl)
  | false =>
    show wpAny _ _ (setField (.ref z) 1 (.bool true) >>= _) _ _ _
    refine wpAny_bind (wpAny_setField_rec hz (by simp) fun h1 hz1 hs1=>wpAny_pure ?_)
    exact h h1 hz1 (fun c o hc e=>hs1.extBut _ _ hc e) hs1.1
end
section
variable {prog:Program} {w:World} {A:Around} {E:Value→Shared→Prop} {s:Shared}
set_option maxHeartbeats 3200000 in
theorem zip_out_item {z TI TO T0 i1 i2 l1 l2:Addr} {bb:Bool} {k1 k2:Nat} {xs ys:Array Value} {x y:Value} {Q:Value→Shared→Prop} (D:ZipApart z TI TO i1 i2 l1 l2)
    (hz:ZipO s.heap z TI TO T0 bb) (hT:∃ o,s.heap.get? T0=some o) (hTI:IsPair s.heap TI (.ref i1) (.ref i2))
    (h1:s.heap.IsListIter i1 l1 k1) (h2:s.heap.IsListIter i2 l2 k2) (hl1:s.heap.IsList l1 xs) (hl2:s.heap.IsList l2 ys) (hx:xs[k1]?=some x) (hy:ys[k2]?=some y)
    (hQ:∀ h',ZipO h' z TI TO T0 true→h'.IsListIter i1 l1 (k1+1)→h'.IsListIter i2 l2 (k2+1)→IsPair h' s.heap.objs.size x y→h'.objs.size=s.heap.objs.size+1 →
      (∀ c o,c≠z→c≠i1→c≠i2→s.heap.get? c=some o→h'.get? c=some o)→Q (.ref s.heap.objs.size) { s with heap:=h' }) :
    wpAny (model prog w) A (Builtin.«zip.__next__» ⟨[.ref z],[]⟩) (fun fin s'=>∃ v,fin=.done (.ret v)∧Q v s') E s:=by
  show wpAny _ _ (field (.ref z) 2 >>= _) _ _ _
  refine wpAny_bind (wpAny_field hz rfl (x:=.bool false) rfl ?_)
  show wpAny _ _ (field (.ref z) 3 >>= _) _ _ _
  refine wpAny_bind (wpAny_field hz rfl (x:=.ref TI) rfl ?_)
  refine wpAny_bind (wpAny_seqItems hTI rfl ?_)
  show wpAny _ _ (Builtin.SmallTypes.ownedTupleIsFree (.ref z) >>= _) _ _ _
  refine wpAny_bind (owned_out hz hT fun h₁ hz₁ hk₁ hsz₁=>?_)
  simp only [Bool.false_eq_true,if_false]
  refine wpAny_bind ?_
  simp only [List.forIn_toArray,List.forIn_cons,List.forIn_nil]
  refine wpAny_bind (wpAny_bind (wpAny_holding ?_))
  show wpAny _ _ (Builtin.SmallTypes.nextOf (.ref i1) >>= _) _ _ _
  have e1:∀ {a:Addr} {l:Addr} {k:Nat},s.heap.IsListIter a l k→a≠z→h₁.IsListIter a l k:=fun h hn=>h.at fun o e=>hk₁ _ o hn e
  have e2:∀ {l:Addr} {v:Array Value},s.heap.IsList l v→l≠z→h₁.IsList l v:=fun h hn=>h.at fun o e=>hk₁ _ o hn e
  refine wpAny_bind (wpAny_nextOf_list_item (e1 h1 D.i1z) (e2 hl1 D.l1z) hx fun h₂ h1₂ hs₂=>wpAny_pure ?_)
  refine wpAny_pure ?_
  refine wpAny_bind (wpAny_bind (wpAny_holding ?_))
  show wpAny _ _ (Builtin.SmallTypes.nextOf (.ref i2) >>= _) _ _ _
  refine wpAny_bind (wpAny_nextOf_list_item ((e1 h2 D.i2z).extBut hs₂.extBut D.i12.symm) ((e2 hl2 D.l2z).extBut hs₂.extBut D.l2i1) hy fun h₃ h2₃ hs₃=>wpAny_pure ?_)
  refine wpAny_pure (wpAny_pure ?_)
  refine wpAny_bind (wpAny_newTuple ?_ (hsz:=by show 2≤2 ^ 24; decide))
  have hsz:h₃.objs.size=s.heap.objs.size:=by rw [hs₃.1,hs₂.1,hsz₁]
  have hz₃:ZipO h₃ z TI TO T0 true:=hs₃.extBut _ _ D.i2z.symm (hs₂.extBut _ _ D.i1z.symm hz₁)
  refine wpAny_pure ⟨_,rfl,?_⟩
  show Q (.ref h₃.objs.size) _
  have hp:IsPair (h₃.push { cls:=.type "tuple", data:=.seq #[x,y] }) h₃.objs.size x y:=Heap.get?_push_size _ rfl
  have hz4:(h₃.push { cls:=.type "tuple", data:=.seq #[x,y] }).objs.size=h₃.objs.size+1:=Heap.size_push ..
  have h1₃:h₃.IsListIter i1 l1 (k1+1):=h1₂.extBut hs₃.extBut D.i12
  rw [hsz] at hp hz4 ⊢
  exact hQ _ (Heap.get?_push_of_some _ hz₃) (h1₃.at fun o e=>Heap.get?_push_of_some _ e) (h2₃.at fun o e=>Heap.get?_push_of_some _ e) hp hz4 fun c o c1 c2 c3 e=>Heap.get?_push_of_some _ (hs₃.extBut _ _ c3 (hs₂.extBut _ _ c2 (hk₁ c o c1 e)))
set_option maxHeartbeats 3200000 in
theorem zip_out_end {z TI TO T0 i1 i2 l1 l2:Addr} {bb:Bool} {k1 k2:Nat} {xs ys:Array Value} {Q:Fin→Shared→Prop} (hh:A.handled=none) (D:ZipApart z TI TO i1 i2 l1 l2)
    (hz:ZipO s.heap z TI TO T0 bb) (hT:∃ o,s.heap.get? T0=some o) (hTI:IsPair s.heap TI (.ref i1) (.ref i2))
    (h1:s.heap.IsListIter i1 l1 k1) (h2:s.heap.IsListIter i2 l2 k2) (hl1:s.heap.IsList l1 xs) (hl2:s.heap.IsList l2 ys) (hend:xs[k1]?=none∨ys[k2]?=none)
    (hE:∀ h' e,(∀ c o,c≠z→c≠i1→c≠i2→s.heap.get? c=some o→h'.get? c=some o)→(∃ o,h'.get? e=some o∧o.cls=.type "StopIteration")→E (.ref e) { s with heap:=h' }) :
    wpAny (model prog w) A (Builtin.«zip.__next__» ⟨[.ref z],[]⟩) Q E s:=by
  show wpAny _ _ (field (.ref z) 2 >>= _) _ _ _
  refine wpAny_bind (wpAny_field hz rfl (x:=.bool false) rfl ?_)
  show wpAny _ _ (field (.ref z) 3 >>= _) _ _ _
  refine wpAny_bind (wpAny_field hz rfl (x:=.ref TI) rfl ?_)
  refine wpAny_bind (wpAny_seqItems hTI rfl ?_)
  show wpAny _ _ (Builtin.SmallTypes.ownedTupleIsFree (.ref z) >>= _) _ _ _
  refine wpAny_bind (owned_out hz hT fun h₁ hz₁ hk₁ hsz₁=>?_)
  simp only [Bool.false_eq_true,if_false]
  refine wpAny_bind ?_
  simp only [List.forIn_toArray,List.forIn_cons,List.forIn_nil]
  refine wpAny_bind (wpAny_bind (wpAny_holding ?_))
  show wpAny _ _ (Builtin.SmallTypes.nextOf (.ref i1) >>= _) _ _ _
  have e1:∀ {a:Addr} {l:Addr} {k:Nat},s.heap.IsListIter a l k→a≠z→h₁.IsListIter a l k:=fun h hn=>h.at fun o e=>hk₁ _ o hn e
  have e2:∀ {l:Addr} {v:Array Value},s.heap.IsList l v→l≠z→h₁.IsList l v:=fun h hn=>h.at fun o e=>hk₁ _ o hn e
  cases hx:xs[k1]? with
  | none =>
    refine wpAny_bind (wpAny_nextOf_list_end hh (e1 h1 D.i1z) (e2 hl1 D.l1z) hx fun h₂ e hs₂ he=>?_)
    exact hE h₂ e (fun c o c1 c2 _ x=>hs₂ _ _ c2 (hk₁ c o c1 x)) he
  | some x =>
    have hy:ys[k2]?=none:=by rcases hend with h | h; rw [hx] at h; cases h; exact h
    refine wpAny_bind (wpAny_nextOf_list_item (e1 h1 D.i1z) (e2 hl1 D.l1z) hx fun h₂ h1₂ hs₂=>wpAny_pure ?_)
    refine wpAny_pure ?_
    refine wpAny_bind (wpAny_bind (wpAny_holding ?_))
    show wpAny _ _ (Builtin.SmallTypes.nextOf (.ref i2) >>= _) _ _ _
    refine wpAny_bind (wpAny_nextOf_list_end hh ((e1 h2 D.i2z).extBut hs₂.extBut D.i12.symm) ((e2 hl2 D.l2z).extBut hs₂.extBut D.l2i1) hy fun h₃ e hs₃ he=>?_)
    exact hE h₃ e (fun c o c1 c2 c3 x=>hs₃ _ _ c3 (hs₂.extBut _ _ c2 (hk₁ c o c1 x))) he
end
end L2.PU
namespace L2.PU
open PySem PySem.Spec PyProof.Rows
section
variable {prog:Program} {w:World} {A:Around} {E:Value→Shared→Prop} {s:Shared}
theorem next_zip_out {z TI TO T0 i1 i2 l1 l2:Addr} {bb:Bool} {k1 k2:Nat} {xs ys:Array Value} {x y:Value} {Q:Option Value→Shared→Prop} (D:ZipApart z TI TO i1 i2 l1 l2)
    (hz:ZipO s.heap z TI TO T0 bb) (hT0:∃ o,s.heap.get? T0=some o) (hTI:IsPair s.heap TI (.ref i1) (.ref i2))
    (h1:s.heap.IsListIter i1 l1 k1) (h2:s.heap.IsListIter i2 l2 k2) (hl1:s.heap.IsList l1 xs) (hl2:s.heap.IsList l2 ys) (hx:xs[k1]?=some x) (hy:ys[k2]?=some y)
    (hQ:∀ h',ZipO h' z TI TO T0 true→h'.IsListIter i1 l1 (k1+1)→h'.IsListIter i2 l2 (k2+1)→IsPair h' s.heap.objs.size x y→h'.objs.size=s.heap.objs.size+1 →
      (∀ c o,c≠z→c≠i1→c≠i2→s.heap.get? c=some o→h'.get? c=some o)→Q (some (.ref s.heap.objs.size)) { s with heap:=h' }) :
    wpAny (model prog w) A (pyNext (.ref z)) Q E s:=by
  have hT:s.TypeIs (.ref z) "zip" := ⟨_,hz,rfl⟩
  unfold pyNext
  exact wpAny_bind (wpAny_attempt (wpAny_callSpecial?_slot (name:=Str.ofString "__next__") hT PySem.F.slot_zip_next
    (wpAny_call_entry PySem.F.slot_zip_next hT PySem.F.entry_zip_next
      (zip_out_item D hz hT0 hTI h1 h2 hl1 hl2 hx hy fun h' a1 a3 a4 a5 a6 a7=>wpAny_pure (hQ h' a1 a3 a4 a5 a6 a7)) (PySem.F.args_zip_next_1 _))))
theorem next_zip_oend {z TI TO T0 i1 i2 l1 l2:Addr} {bb:Bool} {k1 k2:Nat} {xs ys:Array Value} {Q:Option Value→Shared→Prop} (hh:A.handled=none) (D:ZipApart z TI TO i1 i2 l1 l2)
    (hz:ZipO s.heap z TI TO T0 bb) (hT0:∃ o,s.heap.get? T0=some o) (hTI:IsPair s.heap TI (.ref i1) (.ref i2))
    (h1:s.heap.IsListIter i1 l1 k1) (h2:s.heap.IsListIter i2 l2 k2) (hl1:s.heap.IsList l1 xs) (hl2:s.heap.IsList l2 ys) (hend:xs[k1]?=none∨ys[k2]?=none)
    (hQ:∀ h',(∀ c o,c≠z→c≠i1→c≠i2→s.heap.get? c=some o→h'.get? c=some o)→Q none { s with heap:=h' }):wpAny (model prog w) A (pyNext (.ref z)) Q E s:=by
  have hT:s.TypeIs (.ref z) "zip" := ⟨_,hz,rfl⟩
  unfold pyNext
  refine wpAny_bind (wpAny_attempt (wpAny_callSpecial?_slot (name:=Str.ofString "__next__") hT PySem.F.slot_zip_next
    (wpAny_call_entry PySem.F.slot_zip_next hT PySem.F.entry_zip_next (zip_out_end hh D hz hT0 hTI h1 h2 hl1 hl2 hend fun h' e hk he=>?_) (PySem.F.args_zip_next_1 _))))
  obtain ⟨o,ho,hc⟩:=he
  refine wpAny_bind (wpAny_isInstance (T := "StopIteration") (b:=true) ⟨o,ho,hc⟩ isSubtype_stop ?_)
  exact wpAny_pure (hQ _ hk)
noncomputable def LaidP (m:Nat) (h:Heap) (acc:Array Value) (ps:List (Value×Value)):Prop:=acc.size=ps.length∧∀ (i:Nat) (a b:Value),ps[i]?=some (a,b)→∃ T:Addr,m≤T∧acc[i]?=some (.ref T)∧IsPair h T a b
theorem LaidP.keep {m:Nat} {h h':Heap} {acc:Array Value} {ps:List (Value×Value)} (x:LaidP m h acc ps) (k:∀ c o,(∃ i:Nat,acc[i]?=some (.ref c))→h.get? c=some o→h'.get? c=some o):LaidP m h' acc ps :=
  ⟨x.1,fun i a b e=>by
    obtain ⟨T,h0,h1,h2⟩:=x.2 i a b e
    exact ⟨T,h0,h1,k T _ ⟨i,h1⟩ h2⟩⟩
theorem LaidP.push {m:Nat} {h:Heap} {acc:Array Value} {ps:List (Value×Value)} (x:LaidP m h acc ps) {T:Addr} {a b:Value} (hm:m≤T) (hT:IsPair h T a b):LaidP m h (acc.push (.ref T)) (ps++[(a,b)]):=by
  refine ⟨by rw [Array.size_push,x.1,List.length_append,List.length_singleton],fun i u v e=>?_⟩
  by_cases hi:i < ps.length
  · rw [List.getElem?_append_left hi] at e
    obtain ⟨T',h0,h1,h2⟩:=x.2 i u v e
    refine ⟨T',h0,?_,h2⟩
    rw [Array.getElem?_push,if_neg (by rw [x.1]; omega)]
    exact h1
  · have hl:i=ps.length:=by
      have:=(List.getElem?_eq_some_iff.mp e).1
      rw [List.length_append,List.length_singleton] at this
      omega
    subst hl
    rw [List.getElem?_append_right (Nat.le_refl _),Nat.sub_self] at e
    injection e with e
    injection e with e1 e2
    subst e1; subst e2
    exact ⟨T,hm,by rw [Array.getElem?_push,if_pos (by rw [x.1])],hT⟩
end
end L2.PU
namespace L2.PU
open PySem PySem.Spec PyProof.Rows
section
variable {prog:Program} {w:World} {A:Around} {E:Value→Shared→Prop} {R:Result→Shared→Prop}
theorem LaidP.at {m:Nat} {h:Heap} {acc:Array Value} {ps:List (Value×Value)} (x:LaidP m h acc ps) {c:Addr} (hc:∃ i:Nat,acc[i]?=some (.ref c)):∃ a b,IsPair h c a b:=by
  obtain ⟨i,hi⟩:=hc
  have hl:i < ps.length:=by
    rw [← x.1]
    exact (Array.getElem?_eq_some_iff.mp hi).1
  obtain ⟨T,_,h1,h2⟩:=x.2 i ps[i].1 ps[i].2 (by rw [List.getElem?_eq_getElem hl])
  rw [hi] at h1
  injection h1 with h1
  injection h1 with h1
  subst h1
  exact ⟨_,_,h2⟩
theorem pair_ne {h:Heap} {c d:Addr} {a b:Value} {o:Obj} (hp:IsPair h c a b) (ho:h.get? d=some o) (hc:(o.cls==Value.type "tuple")=false):c≠d:=fun e=>by
  subst e
  rw [hp] at ho
  cases ho
  have hc':(Value.type "tuple" == Value.type "tuple")=false:=hc
  exact absurd hc' (by decide)
structure ZSt (h:Heap) (z TI TO T0 i1 i2 l1 l2:Addr) (xs ys:Array Value) (bb:Bool) (i:Nat):Prop where
  zip:ZipO h z TI TO T0 bb
  t0:∃ a b,IsPair h T0 a b
  ti:IsPair h TI (.ref i1) (.ref i2)
  j1:h.IsListIter i1 l1 i
  j2:h.IsListIter i2 l2 i
  m1:h.IsList l1 xs
  m2:h.IsList l2 ys
theorem zip_ne {h:Heap} {z TI TO T0 i1 i2 l1 l2:Addr} {xs ys:Array Value} {bb:Bool} {i:Nat} (x:ZSt h z TI TO T0 i1 i2 l1 l2 xs ys bb i) {c:Addr} {a b:Value} (hp:IsPair h c a b):c≠z∧c≠i1∧c≠i2:=by
  refine ⟨pair_ne hp x.zip rfl,?_,?_⟩
  · obtain ⟨o,ho,hc,_⟩:=x.j1
    exact pair_ne hp ho (by rw [hc]; decide)
  · obtain ⟨o,ho,hc,_⟩:=x.j2
    exact pair_ne hp ho (by rw [hc]; decide)
set_option maxHeartbeats 3200000 in
theorem zip_loop (hh:A.handled=none) {z TI TO T0 i1 i2 l1 l2:Addr} (D:ZipApart z TI TO i1 i2 l1 l2) (S:Addr) (hSz:S≠z) (hS1:S≠i1) (hS2:S≠i2) (hSl1:S≠l1) (hSl2:S≠l2) (xs ys:Array Value) (n:Nat) (hn:n=min xs.size ys.size) (hz:n≤3000000) (res:Value) (m:Nat) :
    ∀ (k i:Nat) (s:Shared) (bb:Bool) (acc:Array Value) (c:Nat),n - i=k→i≤n→m≤s.heap.objs.size→ZSt s.heap z TI TO T0 i1 i2 l1 l2 xs ys bb i→s.heap.get? S=some { cls:=.type "list", dict:=none,data:=.seq acc c,slots:=#[] }→LaidP m s.heap acc ((xs.toList.zip ys.toList).take i) →
      (∀ h' acc' c',(∀ b o,b≠S→b≠z→b≠i1→b≠i2→s.heap.get? b=some o→h'.get? b=some o)→h'.get? S=some { cls:=.type "list", dict:=none,data:=.seq acc' c',slots:=#[] }→LaidP m h' acc' (xs.toList.zip ys.toList)→R (.ok (.ret res)) { s with heap:=h' }) →
      codeAny (model prog w) A (.builtin "list.extend.loop" ⟨[.ref S,.ref z,res],[]⟩) R s:=by
  intro k
  induction k with
  | zero =>
    intro i s bb acc c hk hi hmm st hS hacc hR
    have hin:i=n:=by omega
    refine codeAny_builtin PySem.F.entry_extend_loop ?_
    rw [Around.under_plainId PySem.F.plain_extend_loop _]
    show wpAny _ A.in1 (pyNext (.ref z) >>= _) _ _ s
    obtain ⟨a0,b0,h0⟩:=st.t0
    refine wpAny_bind (next_zip_oend (by simp [hh]) D st.zip ⟨_,h0⟩ st.ti st.j1 st.j2 st.m1 st.m2 ?_ fun h' hk'=>?_)
    · subst hin
      rcases Nat.le_total xs.size ys.size with hle | hle
      · exact .inl (Array.getElem?_eq_none (by omega))
      · exact .inr (Array.getElem?_eq_none (by omega))
    · have htk:(xs.toList.zip ys.toList).take i=xs.toList.zip ys.toList:=List.take_of_length_le (by rw [List.length_zip,Array.length_toList,Array.length_toList]; omega)
      rw [htk] at hacc
      refine wpAny_pure (hR h' acc c (fun b o _ b1 b2 b3 e=>hk' b o b1 b2 b3 e) (hk' S _ hSz hS1 hS2 hS) (hacc.keep fun d o hd e=>?_))
      obtain ⟨a,b,hp⟩:=hacc.at hd
      obtain ⟨n1,n2,n3⟩:=zip_ne st hp
      exact hk' d o n1 n2 n3 e
  | succ k ih =>
    intro i s bb acc c hk hi hmm st hS hacc hR
    have hlt:i < n:=by omega
    have hx:i < xs.size:=by omega
    have hy:i < ys.size:=by omega
    refine codeAny_builtin PySem.F.entry_extend_loop ?_
    rw [Around.under_plainId PySem.F.plain_extend_loop _]
    show wpAny _ A.in1 (pyNext (.ref z) >>= _) _ _ s
    obtain ⟨a0,b0,h0⟩:=st.t0
    obtain ⟨z1,z2,z3⟩:=zip_ne st h0
    refine wpAny_bind (next_zip_out D st.zip ⟨_,h0⟩ st.ti st.j1 st.j2 st.m1 st.m2 (x:=xs[i]) (y:=ys[i]) (by simp [hx]) (by simp [hy]) fun h1 q1 q2 q3 q4 q5 q6=>?_)
    have hS1':=q6 S _ hSz hS1 hS2 hS
    show wpAny _ A.in1 (updateSeq S (·.push (.ref s.heap.objs.size)) >>= _) _ _ _
    refine wpAny_bind ?_
    have hsize:acc.size=i:=by
      rw [hacc.1,List.length_take,List.length_zip,Array.length_toList,Array.length_toList]; omega
    refine wpAny_updateSeq hS1' rfl ?_ (hz:=by show acc.size≤sizeLine; rw [hsize]; exact Nat.le_trans (show i≤3000000 by omega) (by show 3000000≤2 ^ 24; decide))
    refine wpAny_pure ⟨plainId_quiet PySem.F.plain_extend_loop _,?_⟩
    have hS2':=Heap.get?_update_self (Obj.mapSeq (·.push (Value.ref s.heap.objs.size))) hS1' rfl
    have oth:∀ b o,b≠S→h1.get? b=some o→(h1.update S (Obj.mapSeq (·.push (Value.ref s.heap.objs.size)))).get? b=some o:=fun b o hb e=>(Heap.get?_update_other _ _ (Ne.symm hb)).trans e
    have hpS:∀ {d:Addr} {a b:Value},IsPair s.heap d a b→d≠S:=fun hp=>pair_ne hp hS rfl
    have hnS:s.heap.objs.size≠S:=fun e=>absurd (Heap.lt_size hS) (by rw [← e]; exact Nat.lt_irrefl _)
    have st2:ZSt (h1.update S (Obj.mapSeq (·.push (Value.ref s.heap.objs.size)))) z TI TO T0 i1 i2 l1 l2 xs ys true (i+1):=by
      obtain ⟨n1,n2,n3⟩:=zip_ne st st.ti
      refine ⟨oth _ _ hSz.symm q1,⟨a0,b0,oth _ _ (hpS h0) (q6 _ _ z1 z2 z3 h0)⟩,oth _ _ (hpS st.ti) (q6 _ _ n1 n2 n3 st.ti),q2.at fun o e=>oth _ o hS1.symm e,q3.at fun o e=>oth _ o hS2.symm e,st.m1.at fun o e=>oth _ o hSl1.symm (q6 _ o D.l1z D.l1i1 D.l1i2 e),st.m2.at fun o e=>oth _ o hSl2.symm (q6 _ o D.l2z D.l2i1 D.l2i2 e)⟩
    refine ih (i+1) _ true (acc.push (.ref s.heap.objs.size)) _ (by omega) hlt (by show m≤(h1.update S _).objs.size; rw [Heap.size_update,q5]; omega) st2 hS2' ?_ fun h' acc' c' hk' hS' hacc'=>?_
    · have htk:(xs.toList.zip ys.toList).take (i+1)=(xs.toList.zip ys.toList).take i++[(xs[i],ys[i])]:=by
        rw [List.take_succ]
        congr 1
        have e1:xs.toList[i]?=some xs[i]:=by rw [Array.getElem?_toList]; simp [hx]
        have e2:ys.toList[i]?=some ys[i]:=by rw [Array.getElem?_toList]; simp [hy]
        rw [(List.getElem?_zip_eq_some (z:=(xs[i],ys[i]))).mpr ⟨e1,e2⟩]; rfl
      rw [htk]
      refine LaidP.push (hacc.keep fun d o hd e=>?_) hmm (oth _ _ hnS q4)
      obtain ⟨a,b,hp⟩:=hacc.at hd
      obtain ⟨n1,n2,n3⟩:=zip_ne st hp
      exact oth _ _ (hpS hp) (q6 d o n1 n2 n3 e)
    · exact hR h' acc' c' (fun b o b0 b1 b2 b3 e=>hk' b o b0 b1 b2 b3 (oth b o b0 (q6 b o b1 b2 b3 e))) hS' hacc'
end
end L2.PU
namespace L2.PU
open PySem PySem.Spec PyProof.Rows
section
variable {prog:Program} {w:World} {A:Around} {E:Value→Shared→Prop} {R:Result→Shared→Prop}
structure ZS0 (h:Heap) (z TI TO i1 i2 l1 l2:Addr) (xs ys:Array Value):Prop where
  zip:IsZip h z TI TO .none
  ti:IsPair h TI (.ref i1) (.ref i2)
  to:∃ a b,IsPair h TO a b
  j1:h.IsListIter i1 l1 0
  j2:h.IsListIter i2 l2 0
  m1:h.IsList l1 xs
  m2:h.IsList l2 ys
theorem ZS0.keep {h h':Heap} {z TI TO i1 i2 l1 l2:Addr} {xs ys:Array Value} (x:ZS0 h z TI TO i1 i2 l1 l2 xs ys) (k:∀ b o,b=z∨b=TI∨b=TO∨b=i1∨b=i2∨b=l1∨b=l2→h.get? b=some o→h'.get? b=some o):ZS0 h' z TI TO i1 i2 l1 l2 xs ys:=by
  obtain ⟨a,b,ht⟩:=x.to
  exact ⟨k _ _ (by simp) x.zip,k _ _ (by simp) x.ti,⟨a,b,k _ _ (by simp) ht⟩,x.j1.at fun o e=>k _ o (by simp) e,x.j2.at fun o e=>k _ o (by simp) e,x.m1.at fun o e=>k _ o (by simp) e,x.m2.at fun o e=>k _ o (by simp) e⟩
set_option maxHeartbeats 3200000 in
theorem zip_loop0 (hh:A.handled=none) {z TI TO i1 i2 l1 l2:Addr} (D:ZipApart z TI TO i1 i2 l1 l2) (S:Addr) (hSn:S≠z∧S≠TI∧S≠TO∧S≠i1∧S≠i2∧S≠l1∧S≠l2) (xs ys:Array Value) (hz:min xs.size ys.size≤3000000) (res:Value) (m:Nat) (s:Shared) (hmm:m≤s.heap.objs.size) (c:Nat)
    (st:ZS0 s.heap z TI TO i1 i2 l1 l2 xs ys) (hS:s.heap.get? S=some { cls:=.type "list", dict:=none,data:=.seq #[] c,slots:=#[] })
    (hR:∀ h' acc' c',(∀ b o,b≠S→b≠z→b≠TO→b≠i1→b≠i2→s.heap.get? b=some o→h'.get? b=some o)→h'.get? S=some { cls:=.type "list", dict:=none,data:=.seq acc' c',slots:=#[] }→LaidP m h' acc' (xs.toList.zip ys.toList)→R (.ok (.ret res)) { s with heap:=h' }) :
    codeAny (model prog w) A (.builtin "list.extend.loop" ⟨[.ref S,.ref z,res],[]⟩) R s:=by
  obtain ⟨hSz,hSI,hSO,hS1,hS2,hSl1,hSl2⟩:=hSn
  obtain ⟨ta,tb,hTO⟩:=st.to
  refine codeAny_builtin PySem.F.entry_extend_loop ?_
  rw [Around.under_plainId PySem.F.plain_extend_loop _]
  show wpAny _ A.in1 (pyNext (.ref z) >>= _) _ _ s
  by_cases h0:0 < xs.size∧0 < ys.size
  · obtain ⟨hx,hy⟩:=h0
    refine wpAny_bind (wpAny_pyNext_zip_item D st.zip st.ti hTO st.j1 st.j2 st.m1 st.m2 (x:=xs[0]) (y:=ys[0]) (by simp [hx]) (by simp [hy]) fun h1 q1 q0 q2 q3 q4 q5 q6=>?_)
    have hS1':=q6 S _ hSz hSO hS1 hS2 hS
    show wpAny _ A.in1 (updateSeq S (·.push (.ref s.heap.objs.size)) >>= _) _ _ _
    refine wpAny_bind ?_
    refine wpAny_updateSeq hS1' rfl ?_ (hz:=Nat.zero_le _)
    refine wpAny_pure ⟨plainId_quiet PySem.F.plain_extend_loop _,?_⟩
    have hS2':=Heap.get?_update_self (Obj.mapSeq (·.push (Value.ref s.heap.objs.size))) hS1' rfl
    have oth:∀ b o,b≠S→h1.get? b=some o→(h1.update S (Obj.mapSeq (·.push (Value.ref s.heap.objs.size)))).get? b=some o:=fun b o hb e=>(Heap.get?_update_other _ _ (Ne.symm hb)).trans e
    have hnS:s.heap.objs.size≠S:=fun e=>absurd (Heap.lt_size hS) (by rw [← e]; exact Nat.lt_irrefl _)
    have hTI1:IsPair h1 TI (.ref i1) (.ref i2):=q6 _ _ D.TIz D.TITO D.TIi1 D.TIi2 st.ti
    have st2:ZSt (h1.update S (Obj.mapSeq (·.push (Value.ref s.heap.objs.size)))) z TI TO s.heap.objs.size i1 i2 l1 l2 xs ys false 1 :=
      ⟨oth _ _ hSz.symm q1,⟨_,_,oth _ _ hnS q4⟩,oth _ _ hSI.symm hTI1,q2.at fun o e=>oth _ o hS1.symm e,q3.at fun o e=>oth _ o hS2.symm e,st.m1.at fun o e=>oth _ o hSl1.symm (q6 _ o D.l1z D.l1TO D.l1i1 D.l1i2 e),st.m2.at fun o e=>oth _ o hSl2.symm (q6 _ o D.l2z D.l2TO D.l2i1 D.l2i2 e)⟩
    refine zip_loop hh D S hSz hS1 hS2 hSl1 hSl2 xs ys (min xs.size ys.size) rfl hz res m (min xs.size ys.size - 1) 1 _ false (#[].push (.ref s.heap.objs.size)) _ rfl (by omega) (by show m≤(h1.update S _).objs.size; rw [Heap.size_update,q5]; omega) st2 hS2' ?_ fun h' acc' c' hk' hS' hacc'=>?_
    · have htk:(xs.toList.zip ys.toList).take 1=[]++[(xs[0],ys[0])]:=by
        have e1:xs.toList[0]?=some xs[0]:=by rw [Array.getElem?_toList]; simp [hx]
        have e2:ys.toList[0]?=some ys[0]:=by rw [Array.getElem?_toList]; simp [hy]
        rw [List.take_succ,(List.getElem?_zip_eq_some (z:=(xs[0],ys[0]))).mpr ⟨e1,e2⟩]; rfl
      rw [htk]
      exact LaidP.push (ps:=[]) ⟨rfl,fun i a b e=>by simp at e⟩ hmm (oth _ _ hnS q4)
    · exact hR h' acc' c' (fun b o b0 b1 b2 b3 b4 e=>hk' b o b0 b1 b3 b4 (oth b o b0 (q6 b o b1 b2 b3 b4 e))) hS' hacc'
  · have hend:xs[0]?=none∨ys[0]?=none:=by
      by_cases hx:0 < xs.size
      · exact .inr (Array.getElem?_eq_none (by
          have:¬ 0 < ys.size:=fun z=>h0 ⟨hx,z⟩
          omega))
      · exact .inl (Array.getElem?_eq_none (by omega))
    refine wpAny_bind (wpAny_pyNext_zip_end (by simp [hh]) D st.zip st.ti hTO st.j1 st.j2 st.m1 st.m2 hend fun h' hk'=>?_)
    have hnil:xs.toList.zip ys.toList=[]:=List.eq_nil_of_length_eq_zero (by
      rw [List.length_zip,Array.length_toList,Array.length_toList]
      by_cases hx:0 < xs.size
      · have:¬ 0 < ys.size:=fun z=>h0 ⟨hx,z⟩
        omega
      · omega)
    exact wpAny_pure (hR h' #[] c (fun b o _ b1 b2 b3 b4 e=>hk' b o b1 b2 b3 b4 e) (hk' S _ hSz hSO hS1 hS2 hS) ⟨by rw [hnil]; rfl,fun i a b e=>by rw [hnil] at e; simp at e⟩)
theorem zip_nolen:typeLookup (.type "zip") "__len__" = pure none:=am_miss_of_fast (by decide +kernel)
theorem zip_nohint:typeLookup (.type "zip") "__length_hint__" = pure none:=am_miss_of_fast (by decide +kernel)
variable {s:Shared}
theorem zip_hint {r:Addr} {Q:Bool→Shared→Prop} (hT:s.TypeIs (.ref r) "zip") (h:Q true s):wpAny (model prog w) A (Builtin.List.listLengthHint (.ref r)) Q E s:=by
  unfold Builtin.List.listLengthHint
  refine wpAny_bind (wpAny_specialOf hT zip_nolen ?_)
  refine wpAny_ite_split (fun hab=>absurd hab (by decide)) (fun _=>?_)
  refine wpAny_ite_split (fun hab=>absurd hab (by decide)) (fun _=>?_)
  refine wpAny_bind (wpAny_specialOf hT zip_nohint ?_)
  exact wpAny_pure h
end
end L2.PU
namespace L2.PU
open PySem PySem.Spec PyProof.Rows
section
variable {prog:Program} {w:World} {A:Around} {E:Value→Shared→Prop} {s:Shared}
set_option maxHeartbeats 3200000 in
theorem zip_extend {R:Result→Shared→Prop} {z TI TO i1 i2 l1 l2:Addr} {xs ys:Array Value} (hh:A.handled=none) (D:ZipApart z TI TO i1 i2 l1 l2) (S:Addr) (hSn:S≠z∧S≠TI∧S≠TO∧S≠i1∧S≠i2∧S≠l1∧S≠l2) (hz:min xs.size ys.size≤3000000) (res:Value) (m:Nat) (hmm:m≤s.heap.objs.size) (c:Nat)
    (st:ZS0 s.heap z TI TO i1 i2 l1 l2 xs ys) (hS:s.heap.get? S=some { cls:=.type "list", data:=.seq #[] c })
    (hR:∀ h' acc' c',(∀ b o,b≠S→b≠z→b≠TO→b≠i1→b≠i2→s.heap.get? b=some o→h'.get? b=some o)→h'.get? S=some { cls:=.type "list", dict:=none,data:=.seq acc' c',slots:=#[] }→LaidP m h' acc' (xs.toList.zip ys.toList)→R (.ok (.ret res)) { s with heap:=h' }) :
    wpAny (model prog w) A.in1 (Builtin.List.listExtendWith (.ref S) (.ref z) res)
      (fun fin s'=>match fin with | .done f=>R (.ok f) s' | .again c'=>c'.quiet=true∧codeAny (model prog w) A c' R s') (fun e s'=>R (.error e) s') s:=by
  have hT:s.TypeIs (.ref z) "zip" := ⟨_,st.zip,rfl⟩
  unfold Builtin.List.listExtendWith
  refine wpAny_bind (wpAny_typeOf (T := "zip") hT ?_)
  have h1:Builtin.List.listSameRef (.ref S) (.ref z)=false:=by simp [Builtin.List.listSameRef,hSn.1]
  have n1:(Value.type "zip" == Value.type "list")=false:=by decide
  have n2:(Value.type "zip" == Value.type "tuple")=false:=by decide
  simp only [h1,n1,n2,Bool.or_false,Bool.false_eq_true,if_false]
  refine wpAny_bind (wpAny_pyIter_zip st.zip ?_)
  refine wpAny_bind (wpAny_holding (zip_hint hT ?_))
  refine wpAny_ite_split (fun _=>?_) (fun _=>wpAny_pure ⟨plainId_quiet PySem.F.plain_extend_loop _,zip_loop0 hh D S hSn xs ys hz res m s hmm c st hS hR⟩)
  refine wpAny_bind (wpAny_rule ?_)
  refine wpAny_bind ?_
  show wpAny _ _ (updateSeq S (·.push .none) >>= fun _=>updateSeq S (·.pop)) _ _ _
  refine wpAny_bind (wpAny_updateSeq hS rfl ?_ (hz:=Nat.zero_le _))
  have hS₂:=Heap.get?_update_self (Obj.mapSeq (·.push Value.none)) hS rfl
  refine wpAny_updateSeq (hz:=by seq_fits) hS₂ rfl ?_
  have hS₃:=Heap.get?_update_self (Obj.mapSeq (·.pop)) hS₂ rfl
  have oth:∀ b o,b≠S→s.heap.get? b=some o→((s.heap.update S (Obj.mapSeq (·.push Value.none))).update S (Obj.mapSeq (·.pop))).get? b=some o:=fun b o hb e=>(Heap.get?_update_other _ _ (Ne.symm hb)).trans ((Heap.get?_update_other _ _ (Ne.symm hb)).trans e)
  obtain ⟨a1,a2,a3,a4,a5,a6,a7⟩:=hSn
  refine wpAny_pure ⟨plainId_quiet PySem.F.plain_extend_loop _,zip_loop0 hh D S ⟨a1,a2,a3,a4,a5,a6,a7⟩ xs ys hz res m _ (by show m≤(Heap.update (Heap.update _ _ _) _ _).objs.size; rw [Heap.size_update,Heap.size_update]; exact hmm) _ (st.keep fun b o hb e=>oth b o ?_ e) hS₃ fun h' acc' c' hk hS' hl=>hR h' acc' c' (fun b o b0 b1 b2 b3 b4 e=>hk b o b0 b1 b2 b3 b4 (oth b o b0 e)) hS' hl⟩
  rcases hb with rfl | rfl | rfl | rfl | rfl | rfl | rfl
  · exact a1.symm
  · exact a2.symm
  · exact a3.symm
  · exact a4.symm
  · exact a5.symm
  · exact a6.symm
  · exact a7.symm
set_option maxHeartbeats 3200000 in
theorem zip_init {R:Result→Shared→Prop} {z TI TO i1 i2 l1 l2:Addr} {xs ys:Array Value} (hh:A.handled=none) (D:ZipApart z TI TO i1 i2 l1 l2) (S:Addr) (hSn:S≠z∧S≠TI∧S≠TO∧S≠i1∧S≠i2∧S≠l1∧S≠l2) (hz:min xs.size ys.size≤3000000) (m:Nat) (hmm:m≤s.heap.objs.size)
    (st:ZS0 s.heap z TI TO i1 i2 l1 l2 xs ys) (hS:s.heap.get? S=some { cls:=.type "list", data:=.seq #[] })
    (hR:∀ h' acc' c',(∀ b o,b≠S→b≠z→b≠TO→b≠i1→b≠i2→s.heap.get? b=some o→h'.get? b=some o)→h'.get? S=some { cls:=.type "list", dict:=none,data:=.seq acc' c',slots:=#[] }→LaidP m h' acc' (xs.toList.zip ys.toList)→R (.ok (.ret .none)) { s with heap:=h' }) :
    wpAny (model prog w) A.in1 (Builtin.«list.__init__» ⟨[.ref S,.ref z],[]⟩)
      (fun fin s'=>match fin with | .done f=>R (.ok f) s' | .again c'=>c'.quiet=true∧codeAny (model prog w) A c' R s') (fun e s'=>R (.error e) s') s:=by
  show wpAny _ _ (do let old ← Builtin.List.listItems (.ref S); Builtin.List.listUpdate (.ref S) (fun _=>#[]); letGo old.toList.reverse; Builtin.List.listExtendWith (.ref S) (.ref z) .none) _ _ s
  refine wpAny_bind ?_
  unfold Builtin.List.listItems
  refine wpAny_bind (wpAny_seqItems hS rfl (wpAny_pure ?_))
  show wpAny _ _ (updateSeq S (fun _=>#[]) >>= fun _=>letGo (#[]:Array Value).toList.reverse >>= fun _=>Builtin.List.listExtendWith (.ref S) (.ref z) .none) _ _ s
  refine wpAny_bind (wpAny_updateSeq hS rfl ?_)
  have hS₂:=Heap.get?_update_self (Obj.mapSeq (fun _=>(#[]:Array Value))) hS rfl
  have oth:∀ b o,b≠S→s.heap.get? b=some o→(s.heap.update S (Obj.mapSeq (fun _=>(#[]:Array Value)))).get? b=some o :=
    fun b o hb e=>(Heap.get?_update_other _ _ (Ne.symm hb)).trans e
  refine wpAny_bind (wpAny_letGo ?_)
  obtain ⟨a1,a2,a3,a4,a5,a6,a7⟩:=hSn
  refine zip_extend hh D S ⟨a1,a2,a3,a4,a5,a6,a7⟩ hz .none m (by show m≤(Heap.update _ _ _).objs.size; rw [Heap.size_update]; exact hmm) _ (st.keep fun b o hb e=>oth b o ?_ e) hS₂ fun h' acc' c' hk hS' hacc=>hR h' acc' c' (fun b o b0 b1 b2 b3 b4 e=>hk b o b0 b1 b2 b3 b4 (oth b o b0 e)) hS' hacc
  rcases hb with rfl | rfl | rfl | rfl | rfl | rfl | rfl
  · exact a1.symm
  · exact a2.symm
  · exact a3.symm
  · exact a4.symm
  · exact a5.symm
  · exact a6.symm
  · exact a7.symm
set_option maxHeartbeats 3200000 in
theorem zip_list {Q:Value→Shared→Prop} {z TI TO i1 i2 l1 l2:Addr} {xs ys:Array Value} (hh:A.handled=none) (D:ZipApart z TI TO i1 i2 l1 l2) (hz:min xs.size ys.size≤3000000) (m:Nat) (hmm:m≤s.heap.objs.size) (st:ZS0 s.heap z TI TO i1 i2 l1 l2 xs ys)
    (hQ:∀ h' acc' c',(∀ b o,b≠z→b≠TO→b≠i1→b≠i2→s.heap.get? b=some o→h'.get? b=some o)→h'.get? s.heap.objs.size=some { cls:=.type "list", dict:=none,data:=.seq acc' c',slots:=#[] }→LaidP m h' acc' (xs.toList.zip ys.toList)→Q (.ref s.heap.objs.size) { s with heap:=h' }) :
    wpAny (model prog w) A (call (.type "list") [.ref z]) Q E s:=by
  refine callType_codes (Q₁:=fun obj s₁=>obj=.ref s.heap.objs.size∧s₁={ s with heap:=s.heap.push { cls:=.type "list", data:=.seq #[] } }) PySem.F.called_list (PySem.F.typeCall_list_1 _) PySem.F.entry_list_init
    (code_list_new _ ⟨rfl,rfl⟩) fun obj s₁ h₁=>?_
  obtain ⟨rfl,rfl⟩:=h₁
  have hS:(s.heap.push { cls:=.type "list", data:=.seq #[] }).get? s.heap.objs.size=some { cls:=.type "list", data:=.seq #[] }:=Heap.get?_push_size _ rfl
  have ne:∀ {b:Addr} {o:Obj},s.heap.get? b=some o→s.heap.objs.size≠b:=fun e=>Nat.ne_of_gt (Heap.lt_size e)
  obtain ⟨ta,tb,hTO⟩:=st.to
  obtain ⟨o1,e1,_⟩:=id st.j1
  obtain ⟨o2,e2,_⟩:=id st.j2
  obtain ⟨o3,e3,_⟩:=id st.m1
  obtain ⟨o4,e4,_⟩:=id st.m2
  refine ⟨⟨_,hS,rfl⟩,PySem.F.args_list_init_2 _ _,zip_init (A:=A.in1) (by simp [hh]) D _ ⟨ne st.zip,ne st.ti,ne hTO,ne e1,ne e2,ne e3,ne e4⟩ hz m (by show m≤(Heap.push _ _).objs.size; rw [Heap.size_push]; exact Nat.le_succ_of_le hmm) (st.keep fun b o _ e=>Heap.get?_push_of_some _ e) hS fun h' acc' c' hk hS' hacc=>?_⟩
  exact ⟨rfl,hQ h' acc' c' (fun b o b1 b2 b3 b4 e=>hk b o (ne e).symm b1 b2 b3 b4 (Heap.get?_push_of_some _ e)) hS' hacc⟩
theorem call_list_zip {Q:Value→Shared→Prop} {l1 l2:Addr} {xs ys:Array Value} (hh:A.handled=none) (hl1:s.heap.IsList l1 xs) (hl2:s.heap.IsList l2 ys) (hz:min xs.size ys.size≤3000000) {B:Around} (hB:B.handled=none)
    (hQ:∀ h' acc' c' p,(∀ b o,s.heap.get? b=some o→h'.get? b=some o)→s.heap.objs.size≤p→h'.get? p=some { cls:=.type "list", dict:=none,data:=.seq acc' c',slots:=#[] }→LaidP s.heap.objs.size h' acc' (xs.toList.zip ys.toList)→Q (.ref p) { s with heap:=h' }) :
    wpAny (model prog w) A (call (.type "zip") [.ref l1,.ref l2]) (fun v s'=>wpAny (model prog w) B (call (.type "list") [v]) Q E s') E s:=by
  refine call_zip_2 hl1 hl2 fun h1 q1 q2 q3 q4 q5 q6 q7=>?_
  have lt:∀ {b:Addr} {o:Obj},s.heap.get? b=some o→(b:Nat) < s.heap.objs.size:=fun e=>Heap.lt_size e
  obtain ⟨o3,e3,_⟩:=id hl1
  obtain ⟨o4,e4,_⟩:=id hl2
  have n1:=lt e3
  have n2:=lt e4
  have ne:∀ {a b:Nat},a < b→(a:Addr)≠b:=fun h=>Nat.ne_of_lt h
  have D:ZipApart (s.heap.objs.size+4) (s.heap.objs.size+2) (s.heap.objs.size+3) s.heap.objs.size (s.heap.objs.size+1) l1 l2:=by
    constructor
    all_goals first | exact Nat.ne_of_lt n1 | exact Nat.ne_of_lt n2 | exact Nat.ne_of_lt (Nat.lt_of_lt_of_le n1 (Nat.le_add_right _ _)) | exact Nat.ne_of_lt (Nat.lt_of_lt_of_le n2 (Nat.le_add_right _ _)) | exact Nat.ne_of_lt (by omega) | exact Nat.ne_of_gt (by omega)
  refine zip_list (s:={ s with heap:=h1 }) hB D hz s.heap.objs.size (by show s.heap.objs.size≤h1.objs.size; rw [q6]; exact Nat.le_add_right _ _) ⟨q1,q2,⟨_,_,q3⟩,q4,q5,hl1.at fun o e=>q7 _ o e,hl2.at fun o e=>q7 _ o e⟩ fun h' acc' c' hk hS' hacc=>?_
  refine hQ h' acc' c' h1.objs.size (fun b o e=>?_) ?_ hS' hacc
  · have hb:=lt e
    exact hk b o (Nat.ne_of_lt (Nat.lt_of_lt_of_le hb (Nat.le_add_right _ _))) (Nat.ne_of_lt (Nat.lt_of_lt_of_le hb (Nat.le_add_right _ _))) (Nat.ne_of_lt hb) (Nat.ne_of_lt (Nat.lt_of_lt_of_le hb (Nat.le_add_right _ _))) (q7 b o e)
  · rw [q6]; exact Nat.le_add_right _ _
end
end L2.PU
namespace L2.PU
open PySem PySem.Spec PyProof.Rows
noncomputable def lay (H:Hp) (m:Nat) (N:Hp):Hp:=fun b=>if m≤b then N b else H b
theorem lay_old {H N:Hp} {m:Nat} {b:Addr} (h:¬ m≤b):lay H m N b=H b:=if_neg h
theorem lay_new {H N:Hp} {m:Nat} {b:Addr} (h:m≤b):lay H m N b=N b:=if_pos h
theorem inv_lays {X:Cx} {pins:List (Addr×Obj)} {σ:St} {H:Hp} {s:Shared} {h':Heap} {N:Hp} (I:Inv X pins σ H s) (k:∀ b u,s.heap.get? b=some u→h'.get? b=some u)
    (new:∀ b o,s.heap.objs.size≤b→N b=some o→ObjOk X.prog X.w (lay H s.heap.objs.size N) h' b o):Inv X pins σ (lay H s.heap.objs.size N) { s with heap:=h' }:=by
  have old:∀ b o,H b=some o→¬ s.heap.objs.size≤b:=fun b o e z=>by rw [I.hok.fresh z] at e; cases e
  refine I.step (h':=h') (g':=s.gens) (d':=s.drawn) (t':=s.toks) (ch:=[]) (fun b hb=>by cases hb) (fun b o _ _ _ q _=>k b o q) (fun b o _ _ _ q _=>⟨o.slots,k b o q⟩) (fun b o _ q n=>?_) (fun b o _ q=>⟨o,k b o q⟩) (fun b xs q=>?_) (fun b o u q=>?_) (fun b ps q=>⟨#[],?_⟩) (fun m hm=>?_) (fun b o q=>?_) I.bare
  · rw [lay_old (Nat.not_le.mpr (Heap.lt_size q))]; exact n
  · rw [lay_old (old b _ q)]; exact q
  · rw [lay_old (old b _ q)]; exact q
  · rw [lay_old (old b _ q),q]; simp
  · obtain ⟨o,es,ep,ho,r⟩:=hm
    exact ⟨o,es,ep,k _ o ho,r⟩
  · by_cases hb:s.heap.objs.size≤b
    · rw [lay_new hb] at q
      exact new b o hb q
    · rw [lay_old hb] at q
      exact (I.hok b o q).stay (fun c u _ z=>k c u z) (fun c z=>by rw [lay_old (old _ _ z)]; exact z) fun c xs z=>by rw [lay_old (old _ _ z)]; exact z
theorem gr_lay {F H N:Hp} {m:Nat} (sm:Same F H) (fr:∀ b,m≤b→H b=none):Gr F H (lay F m N) (lay H m N):=by
  have fF:∀ b o,F b=some o→¬ m≤b:=fun b o e z=>absurd (sm b o e) (by rw [fr b z]; simp)
  have fH:∀ b o,H b=some o→¬ m≤b:=fun b o e z=>by rw [fr b z] at e; cases e
  refine ⟨fun c u z=>?_,fun c u z=>?_,fun c u z=>?_,fun c z=>?_⟩
  · rw [lay_old (fF c u z)]; exact z
  · rw [lay_old (fH c u z)]; exact z
  · by_cases hc:m≤c
    · rw [lay_new hc] at z ⊢; exact z
    · rw [lay_old hc] at z ⊢; exact sm c u z
  · by_cases hc:m≤c
    · exact .inr (fr c hc)
    · rw [lay_old hc] at z; exact .inl z
theorem relL_get {K:PySem.W.Frag} {F:Hp}:∀ {ds:List PyData} {vs:List V},ds.length=vs.length→(∀ (i:Nat) (d:PyData),ds[i]?=some d→∃ v,vs[i]?=some v∧Rel K F d v)→RelL K F ds vs
  | [],[],_,_=>.nil
  | [],_::_,h,_=>by simp at h
  | _::_,[],h,_=>by simp at h
  | d::ds,v::vs,h,hr=>by
    obtain ⟨v',e,r⟩:=hr 0 d rfl
    simp at e
    subst e
    exact .cons r (relL_get (by simpa using h) fun i d' e=>by
      obtain ⟨v',e',r'⟩:=hr (i+1) d' (by simpa using e)
      exact ⟨v',by simpa using e',r'⟩)
noncomputable def pZipL (ds:List PyData):Option PyData:=match ds with
  | [.list x,.list y]=>if min x.length y.length≤3000000 then some (.list ((x.zip y).map fun e=>PyData.tuple [e.1,e.2])) else none
  | _=>none
section
variable {X:Cx} {B:Bd} {a b:Expr} {fs:En→Option (List PyData)} {p1 p2 q1 q2:Pos}
open Classical in
theorem E.listZip {k:Nat} (hr:Room k X.A) (hl:X.mg "list" = none) (hm:X.mg "zip" = none) (ha:A X B [a,b] fs) (hg:Gl X "list" := by rfl) (hg2:Gl X "zip" := by rfl)
    (he:starEach [a,b] X.env=(false,eval a X.env)::starEach [b] X.env:=by exact star_of rfl) (hpl:(backTo q2 (starEach [b] X.env)).any (·.1)=false:=by exact plain_of rfl)
    (he2:starEach [.Call (.Name "zip" p2) [a,b] [] q2] X.env=(false,eval (.Call (.Name "zip" p2) [a,b] [] q2) X.env)::starEach [] X.env:=by exact star_of rfl) (hpl2:(backTo q1 (starEach [] X.env)).any (·.1)=false:=by rfl) :
    E X B (.Call (.Name "list" p1) [.Call (.Name "zip" p2) [a,b] [] q2] [] q1) (lA pZipL fs):=by
  intro pins s σ H Q I ⟨F,η,d,sr,hd,q⟩
  obtain ⟨ds,h1,hd⟩:=bind_some hd
  unfold pZipL at hd
  split at hd
  · rename_i x y
    split at hd
    · rename_i hlen
      cases hd
      refine wpAny_Call_Name_kw (ld_blt I hg hl (show bootBuiltins "list" = some (.type "list") by decide +kernel) ?_ (by decide) (by decide))
      refine PyProof.Rows.callWith_type1 ?_ he2 hpl2
      rw [he2]
      show wpAny _ _ (spliced ((false,eval (.Call (.Name "zip" p2) [a,b] [] q2) X.env)::backTo q1 (starEach [] X.env))) _ _ s
      refine Calls.spliced_cons ?_
      refine wpAny_Call_Name_kw (ld_blt I hg2 hm boot_zip ?_ (by decide) (by decide))
      refine PyProof.Rows.callWith_type1 (thn (ha q2 pins s σ H (fun vs H1=>∃ F',Gr F H F' H1∧RelL X.K F' [.list x,.list y] vs) I ⟨F,η,_,sr,h1,fun vs F' H' g r=>⟨F',g,r⟩⟩) fun us s1 ⟨vs,H1,I1,r1,F1,g1,rl⟩=>?_) he hpl
      obtain ⟨v1,r,rfl,ry1,rr⟩:=rl.cons_of
      obtain ⟨v2,r',rfl,ry2,rr⟩:=rr.cons_of
      obtain rfl:=rr.nil_of
      obtain ⟨l1,xs,rfl,hq1,rs1⟩:=ry1.lst
      obtain ⟨l2,ys,rfl,hq2,rs2⟩:=ry2.lst
      obtain ⟨u1,u2,rfl,ru1,ru2⟩:=vals2 r1
      cases ru1
      cases ru2
      obtain ⟨its1,rv1,pl1,hz1⟩:=I1.list (g1.fh.seq hq1)
      obtain ⟨its2,rv2,pl2,hz2⟩:=I1.list (g1.fh.seq hq2)
      have n1:its1.length=x.length:=by rw [← rv1.length,rs1.length]
      have n2:its2.length=y.length:=by rw [← rv2.length,rs2.length]
      refine wpAny_mono (call_list_zip (B:=X.A) hr.hd pl1.isList pl2.isList (by rw [List.size_toArray,List.size_toArray,n1,n2]; exact hlen) hr.hd (Q:=fun v s'=>∃ h' acc' c' p,v=.ref p∧s'={ s1 with heap:=h' }∧(∀ b o,s1.heap.get? b=some o→h'.get? b=some o)∧s1.heap.objs.size≤p∧h'.get? p=some { cls:=.type "list", dict:=none,data:=.seq acc' c',slots:=#[] }∧LaidP s1.heap.objs.size h' acc' (its1.zip its2)) fun h' acc' c' p a1 a2 a3 a4=>⟨h',acc',c',p,rfl,rfl,a1,a2,a3,by simpa using a4⟩) (fun v s2 hv=>?_) (fun _ _ z=>z)
      refine Calls.spliced_nil ?_
      refine wpAny_mono hv (fun v3 s3 hv3=>?_) (fun _ _ z=>z)
      obtain ⟨h',acc',c',p,rfl,rfl,kp,hp,hat,hla⟩:=hv3
      have hsz:acc'.size=(its1.zip its2).length:=hla.1
      let N:Hp:=fun t=>if t=p then some (.lst (acc'.toList.map fun v=>match v with | .ref t=>V.ref t | _=>.non)) else
        if hh:∃ (i:Nat) (u v:V),xs[i]?=some u∧ys[i]?=some v∧acc'[i]?=some (.ref t) then some (.tup [hh.choose_spec.choose,hh.choose_spec.choose_spec.choose]) else none
      have at_:∀ (i:Nat) (u v:V),xs[i]?=some u→ys[i]?=some v→∃ (T:Addr) (ua va:Value),s1.heap.objs.size≤T∧acc'[i]?=some (.ref T)∧IsPair h' T ua va∧RelV u ua∧RelV v va:=fun i u v hu hv=>by
        obtain ⟨ua,e1,r1⟩:=rv1.get hu
        obtain ⟨va,e2,r2⟩:=rv2.get hv
        obtain ⟨T,t0,t1,t2⟩:=hla.2 i ua va ((List.getElem?_zip_eq_some (z:=(ua,va))).mpr ⟨e1,e2⟩)
        exact ⟨T,ua,va,t0,t1,t2,r1,r2⟩
      have hN:∀ (i:Nat) (u v:V) (T:Addr),xs[i]?=some u→ys[i]?=some v→acc'[i]?=some (.ref T)→N T=some (.tup [u,v]):=fun i u v T hu hv ht=>by
        obtain ⟨T',ua,va,_,e1,e2,r1,r2⟩:=at_ i u v hu hv
        rw [ht] at e1
        injection e1 with e1
        injection e1 with e1
        subst e1
        have hne:T≠p:=pair_ne e2 hat rfl
        have hex:∃ (i:Nat) (u v:V),xs[i]?=some u∧ys[i]?=some v∧acc'[i]?=some (.ref T):=⟨i,u,v,hu,hv,ht⟩
        show (if T=p then _ else if hh:_ then _ else _)=_
        rw [if_neg hne,dif_pos hex]
        obtain ⟨f1,f2,f3⟩:=hex.choose_spec.choose_spec.choose_spec
        obtain ⟨T2,ua2,va2,_,g1,g2,s1',s2'⟩:=at_ _ _ _ f1 f2
        rw [f3] at g1
        injection g1 with g1
        injection g1 with g1
        subst g1
        have g3:=e2.symm.trans g2
        cases g3
        have two:∀ (c1 c2:V),c1=u→c2=v→some (HO.tup [c1,c2])=some (HO.tup [u,v]):=by
          rintro _ _ rfl rfl; rfl
        exact two _ _ (s1'.inj r1) (s2'.inj r2)
      have href:∀ (i:Nat) (v:Value),acc'[i]?=some v→∃ u w T,xs[i]?=some u∧ys[i]?=some w∧v=.ref T:=fun i v hv=>by
        have hi:i < (its1.zip its2).length:=by rw [← hsz]; exact (Array.getElem?_eq_some_iff.mp hv).1
        rw [List.length_zip] at hi
        have l1':=rv1.length
        have l2':=rv2.length
        obtain ⟨T,ua,va,_,e1,_⟩:=at_ i (xs[i]'(by omega)) (ys[i]'(by omega)) (List.getElem?_eq_getElem _) (List.getElem?_eq_getElem _)
        rw [hv] at e1
        injection e1 with e1
        exact ⟨_,_,T,List.getElem?_eq_getElem (by omega),List.getElem?_eq_getElem (by omega),e1⟩
      have I2:Inv X pins σ (lay H1 s1.heap.objs.size N) { s1 with heap:=h' }:=inv_lays I1 kp fun t o ht ho=>by
        by_cases e:t=p
        · have:N t=some (.lst (acc'.toList.map fun v=>match v with | .ref t=>V.ref t | _=>.non)):=if_pos e
          rw [this] at ho
          cases ho
          subst e
          refine ⟨?_,acc'.toList,c',?_,by simpa using hat⟩
          · rw [List.length_map,Array.length_toList,hsz,List.length_zip]
            exact Nat.le_trans (show _≤3000000 by omega) (by show 3000000≤2 ^ 24; decide)
          · have gen:∀ l:List Value,(∀ v∈l,∃ T,v=Value.ref T)→Vals (l.map fun v=>match v with | .ref t=>V.ref t | _=>.non) l:=fun l=>by
              induction l with
              | nil=>intro _; exact .nil
              | cons v r ih =>
                intro hl
                obtain ⟨T,rfl⟩:=hl v List.mem_cons_self
                exact .cons rfl (ih fun v hv=>hl v (List.mem_cons_of_mem _ hv))
            refine gen _ fun v hv=>?_
            obtain ⟨i,hi⟩:=List.getElem?_of_mem hv
            rw [Array.getElem?_toList] at hi
            obtain ⟨_,_,T,_,_,e⟩:=href i v hi
            exact ⟨T,e⟩
        · have hd:N t=if hh:∃ (i:Nat) (u v:V),xs[i]?=some u∧ys[i]?=some v∧acc'[i]?=some (.ref t) then some (.tup [hh.choose_spec.choose,hh.choose_spec.choose_spec.choose]) else none:=if_neg e
          by_cases hex:∃ (i:Nat) (u v:V),xs[i]?=some u∧ys[i]?=some v∧acc'[i]?=some (.ref t)
          · obtain ⟨i,u,v,hu,hv,hi⟩:=hex
            rw [hN i u v t hu hv hi] at ho
            cases ho
            obtain ⟨T,ua,va,_,e1,e2,r1,r2⟩:=at_ i u v hu hv
            rw [hi] at e1
            injection e1 with e1
            injection e1 with e1
            subst e1
            exact ⟨by show 2≤sizeLine; decide,[ua,va],.cons r1 (.cons r2 .nil),⟨_,e2,rfl,_,rfl⟩⟩
          · rw [hd,dif_neg hex] at ho
            cases ho
      refine ⟨.ref p,lay H1 s1.heap.objs.size N,I2,rfl,?_⟩
      have g2:Gr F1 H1 (lay F1 s1.heap.objs.size N) (lay H1 s1.heap.objs.size N):=gr_lay g1.fh fun t ht=>I1.hok.fresh ht
      have hNp:N p=some (.lst (acc'.toList.map fun v=>match v with | .ref t=>V.ref t | _=>.non)):=if_pos rfl
      refine q _ _ _ (g1.trans g2) (rel_lst (SqL.of (by rw [lay_new hp]; exact hNp)) (relL_get ?_ fun i d hd=>?_))
      · have e1:acc'.size=Min.min its1.length its2.length:=by rw [hsz,List.length_zip]
        have e2:acc'.toList.length=acc'.size:=Array.length_toList
        rw [List.length_map,List.length_zip,List.length_map,e2,e1,n1,n2]
      · rw [List.getElem?_map] at hd
        cases hz:(x.zip y)[i]? with
        | none=>rw [hz] at hd; cases hd
        | some e =>
          rw [hz] at hd
          cases hd
          obtain ⟨hx,hy⟩:=List.getElem?_zip_eq_some.mp hz
          obtain ⟨u,eu,ru⟩:=rs1.get hx
          obtain ⟨v,ev,rv⟩:=rs2.get hy
          obtain ⟨T,ua,va,t0,t1,_⟩:=at_ i u v eu ev
          refine ⟨.ref T,by rw [List.getElem?_map,Array.getElem?_toList,t1]; rfl,?_⟩
          exact rel_tup (SqT.of (by rw [lay_new t0]; exact hN i u v T eu ev t1)) (.cons (ru.mono g2.ff) (.cons (rv.mono g2.ff) .nil))
    · cases hd
  · cases hd
end
end L2.PU
namespace K23
open PySem L2 L2.PU
noncomputable def top (i:Nat):Stmt:=PySem.Challenge.pw_touchtree_k23_whole_clicks.main.body.getD i (.Pass ⟨0,0,0,0⟩)
noncomputable abbrev s__law_cell:Stmt:=top 37
noncomputable abbrev s__law_drawn:Stmt:=top 38
noncomputable abbrev s__law_scene:Stmt:=top 39
noncomputable abbrev s_Hands____init__:Stmt:=inClass (top 35) 0
noncomputable abbrev s_Hand____init__:Stmt:=inClass (top 34) 0
noncomputable abbrev s_Hands__hand_of:Stmt:=inClass (top 35) 1
noncomputable abbrev s_children:Stmt:=top 14
noncomputable abbrev s_box_of:Stmt:=top 12
noncomputable abbrev s_below:Stmt:=top 15
noncomputable abbrev s_painted:Stmt:=top 16
noncomputable abbrev s_path_of:Stmt:=top 13
noncomputable abbrev s_has_mark:Stmt:=top 22
noncomputable abbrev s_is_shown:Stmt:=top 26
noncomputable abbrev s_area_of:Stmt:=top 17
noncomputable abbrev s_overlap:Stmt:=top 24
noncomputable abbrev s_window_of:Stmt:=top 25
noncomputable abbrev s_takers:Stmt:=top 27
noncomputable abbrev s_has_point:Stmt:=top 23
noncomputable abbrev s_first_at:Stmt:=top 28
noncomputable abbrev s_hit:Stmt:=top 29
noncomputable abbrev s_hit_path:Stmt:=top 30
noncomputable abbrev s_shared:Stmt:=top 33
noncomputable abbrev s_Hand__lead:Stmt:=inClass (top 34) 2
noncomputable abbrev s_Hand__tell_holder:Stmt:=inClass (top 34) 1
noncomputable abbrev s_Hands__down:Stmt:=inClass (top 35) 3
noncomputable abbrev s_Hand__let_go:Stmt:=inClass (top 34) 3
noncomputable abbrev s_Hand__click:Stmt:=inClass (top 34) 4
noncomputable abbrev s_Hands__up:Stmt:=inClass (top 35) 4
noncomputable abbrev s_law:Stmt:=top 43
structure Adr where
  C_Hand:Addr
  C_Hands:Addr
  _law_cell:Addr
  d__law_cell:FuncData
  _law_drawn:Addr
  d__law_drawn:FuncData
  _law_scene:Addr
  d__law_scene:FuncData
  Hands____init__:Addr
  d_Hands____init__:FuncData
  Hand____init__:Addr
  d_Hand____init__:FuncData
  Hands__hand_of:Addr
  d_Hands__hand_of:FuncData
  children:Addr
  d_children:FuncData
  box_of:Addr
  d_box_of:FuncData
  below:Addr
  d_below:FuncData
  painted:Addr
  d_painted:FuncData
  path_of:Addr
  d_path_of:FuncData
  has_mark:Addr
  d_has_mark:FuncData
  is_shown:Addr
  d_is_shown:FuncData
  area_of:Addr
  d_area_of:FuncData
  overlap:Addr
  d_overlap:FuncData
  window_of:Addr
  d_window_of:FuncData
  takers:Addr
  d_takers:FuncData
  has_point:Addr
  d_has_point:FuncData
  first_at:Addr
  d_first_at:FuncData
  hit:Addr
  d_hit:FuncData
  hit_path:Addr
  d_hit_path:FuncData
  shared:Addr
  d_shared:FuncData
  Hand__lead:Addr
  d_Hand__lead:FuncData
  Hand__tell_holder:Addr
  d_Hand__tell_holder:FuncData
  Hands__down:Addr
  d_Hands__down:FuncData
  Hand__let_go:Addr
  d_Hand__let_go:FuncData
  Hand__click:Addr
  d_Hand__click:FuncData
  Hands__up:Addr
  d_Hands__up:FuncData
  law:Addr
  d_law:FuncData
  t_AROUND:Tok
  t_CUTS_OFF:Tok
  t_HEIGHT:Tok
  t_HIDDEN:Tok
  t_LEFT:Tok
  t_LETS_BY:Tok
  t_LONGEST_DOUBLE:Tok
  t_MARKS:Tok
  t_NAME:Tok
  t_TOP:Tok
  t_WIDTH:Tok
noncomputable def cl (t:Adr):Nat→Addr
  | 0=>t.C_Hand
  | _=>t.C_Hands
structure Tx (K:PySem.W.Frag) (mg:Str→Option Value) (t:Adr):Prop where
  cl_Hand:Cls K (cl t 0)
  mk_Hand:Mk K (cl t 0) t.Hand____init__
  mg_Hand:mg "Hand" = some (.ref (cl t 0))
  cl_Hands:Cls K (cl t 1)
  mk_Hands:Mk K (cl t 1) t.Hands____init__
  mg_Hands:mg "Hands" = some (.ref (cl t 1))
  na_Hand_clicked:NoAttr K (cl t 0) "clicked"
  na_Hand_clicked_moment:NoAttr K (cl t 0) "clicked_moment"
  na_Hand_held_by:NoAttr K (cl t 0) "held_by"
  na_Hand_pressed_at:NoAttr K (cl t 0) "pressed_at"
  na_Hand_trail:NoAttr K (cl t 0) "trail"
  na_Hand_was_double:NoAttr K (cl t 0) "was_double"
  na_Hands_known:NoAttr K (cl t 1) "known"
  na_Hands_scene:NoAttr K (cl t 1) "scene"
  F__law_cell:Fun K "_law_cell" "_law_cell" s__law_cell t._law_cell t.d__law_cell
  m__law_cell:mg "_law_cell" = some (.ref t._law_cell)
  b__law_cell:Binds K t.d__law_cell ["_law_script", "_law_k"] []
  F__law_drawn:Fun K "_law_drawn" "_law_drawn" s__law_drawn t._law_drawn t.d__law_drawn
  m__law_drawn:mg "_law_drawn" = some (.ref t._law_drawn)
  b__law_drawn:Binds K t.d__law_drawn ["_law_script", "_law_k", "_law_many"] []
  F__law_scene:Fun K "_law_scene" "_law_scene" s__law_scene t._law_scene t.d__law_scene
  m__law_scene:mg "_law_scene" = some (.ref t._law_scene)
  b__law_scene:Binds K t.d__law_scene ["_law_script", "_law_at"] []
  F_Hands____init__:Fun K "__init__" "Hands.__init__" s_Hands____init__ t.Hands____init__ t.d_Hands____init__
  b_Hands____init__:Binds K t.d_Hands____init__ ["self", "scene"] []
  F_Hand____init__:Fun K "__init__" "Hand.__init__" s_Hand____init__ t.Hand____init__ t.d_Hand____init__
  b_Hand____init__:Binds K t.d_Hand____init__ ["self"] []
  F_Hands__hand_of:Fun K "hand_of" "Hands.hand_of" s_Hands__hand_of t.Hands__hand_of t.d_Hands__hand_of
  me_Hands__hand_of:Meth K (cl t 1) "hand_of" t.Hands__hand_of
  b_Hands__hand_of:Binds K t.d_Hands__hand_of ["self", "hand"] []
  F_children:Fun K "children" "children" s_children t.children t.d_children
  m_children:mg "children" = some (.ref t.children)
  b_children:Binds K t.d_children ["scene", "name"] []
  F_box_of:Fun K "box_of" "box_of" s_box_of t.box_of t.d_box_of
  m_box_of:mg "box_of" = some (.ref t.box_of)
  b_box_of:Binds K t.d_box_of ["scene", "name"] []
  F_below:Fun K "below" "below" s_below t.below t.d_below
  m_below:mg "below" = some (.ref t.below)
  b_below:Binds K t.d_below ["scene", "name"] []
  F_painted:Fun K "painted" "painted" s_painted t.painted t.d_painted
  m_painted:mg "painted" = some (.ref t.painted)
  b_painted:Binds K t.d_painted ["scene"] []
  F_path_of:Fun K "path_of" "path_of" s_path_of t.path_of t.d_path_of
  m_path_of:mg "path_of" = some (.ref t.path_of)
  b_path_of:Binds K t.d_path_of ["scene", "name"] []
  F_has_mark:Fun K "has_mark" "has_mark" s_has_mark t.has_mark t.d_has_mark
  m_has_mark:mg "has_mark" = some (.ref t.has_mark)
  b_has_mark:Binds K t.d_has_mark ["scene", "name", "mark"] []
  F_is_shown:Fun K "is_shown" "is_shown" s_is_shown t.is_shown t.d_is_shown
  m_is_shown:mg "is_shown" = some (.ref t.is_shown)
  b_is_shown:Binds K t.d_is_shown ["scene", "name"] []
  F_area_of:Fun K "area_of" "area_of" s_area_of t.area_of t.d_area_of
  m_area_of:mg "area_of" = some (.ref t.area_of)
  b_area_of:Binds K t.d_area_of ["scene", "name"] []
  F_overlap:Fun K "overlap" "overlap" s_overlap t.overlap t.d_overlap
  m_overlap:mg "overlap" = some (.ref t.overlap)
  b_overlap:Binds K t.d_overlap ["one", "other"] []
  F_window_of:Fun K "window_of" "window_of" s_window_of t.window_of t.d_window_of
  m_window_of:mg "window_of" = some (.ref t.window_of)
  b_window_of:Binds K t.d_window_of ["scene", "name"] []
  F_takers:Fun K "takers" "takers" s_takers t.takers t.d_takers
  m_takers:mg "takers" = some (.ref t.takers)
  b_takers:Binds K t.d_takers ["scene"] []
  F_has_point:Fun K "has_point" "has_point" s_has_point t.has_point t.d_has_point
  m_has_point:mg "has_point" = some (.ref t.has_point)
  b_has_point:Binds K t.d_has_point ["area", "x", "y"] []
  F_first_at:Fun K "first_at" "first_at" s_first_at t.first_at t.d_first_at
  m_first_at:mg "first_at" = some (.ref t.first_at)
  b_first_at:Binds K t.d_first_at ["rows", "x", "y"] []
  F_hit:Fun K "hit" "hit" s_hit t.hit t.d_hit
  m_hit:mg "hit" = some (.ref t.hit)
  b_hit:Binds K t.d_hit ["scene", "x", "y"] []
  F_hit_path:Fun K "hit_path" "hit_path" s_hit_path t.hit_path t.d_hit_path
  m_hit_path:mg "hit_path" = some (.ref t.hit_path)
  b_hit_path:Binds K t.d_hit_path ["scene", "x", "y"] []
  F_shared:Fun K "shared" "shared" s_shared t.shared t.d_shared
  m_shared:mg "shared" = some (.ref t.shared)
  b_shared:Binds K t.d_shared ["one", "other"] []
  F_Hand__lead:Fun K "lead" "Hand.lead" s_Hand__lead t.Hand__lead t.d_Hand__lead
  me_Hand__lead:Meth K (cl t 0) "lead" t.Hand__lead
  b_Hand__lead:Binds K t.d_Hand__lead ["self", "path"] []
  F_Hand__tell_holder:Fun K "tell_holder" "Hand.tell_holder" s_Hand__tell_holder t.Hand__tell_holder t.d_Hand__tell_holder
  me_Hand__tell_holder:Meth K (cl t 0) "tell_holder" t.Hand__tell_holder
  b_Hand__tell_holder:Binds K t.d_Hand__tell_holder ["self", "word"] []
  F_Hands__down:Fun K "down" "Hands.down" s_Hands__down t.Hands__down t.d_Hands__down
  me_Hands__down:Meth K (cl t 1) "down" t.Hands__down
  b_Hands__down:Binds K t.d_Hands__down ["self", "hand", "moment", "x", "y"] []
  F_Hand__let_go:Fun K "let_go" "Hand.let_go" s_Hand__let_go t.Hand__let_go t.d_Hand__let_go
  me_Hand__let_go:Meth K (cl t 0) "let_go" t.Hand__let_go
  b_Hand__let_go:Binds K t.d_Hand__let_go ["self", "path"] []
  F_Hand__click:Fun K "click" "Hand.click" s_Hand__click t.Hand__click t.d_Hand__click
  me_Hand__click:Meth K (cl t 0) "click" t.Hand__click
  b_Hand__click:Binds K t.d_Hand__click ["self", "name", "moment"] []
  F_Hands__up:Fun K "up" "Hands.up" s_Hands__up t.Hands__up t.d_Hands__up
  me_Hands__up:Meth K (cl t 1) "up" t.Hands__up
  b_Hands__up:Binds K t.d_Hands__up ["self", "hand", "moment", "x", "y"] []
  F_law:Fun K "law" "law" s_law t.law t.d_law
  m_law:mg "law" = some (.ref t.law)
  b_law:Binds K t.d_law ["_law_script"] []
  c_AROUND:mg "AROUND" = some (.int (1) t.t_AROUND)
  c_CUTS_OFF:mg "CUTS_OFF" = some (.str "c" t.t_CUTS_OFF)
  c_HEIGHT:mg "HEIGHT" = some (.int (5) t.t_HEIGHT)
  c_HIDDEN:mg "HIDDEN" = some (.str "h" t.t_HIDDEN)
  c_LEFT:mg "LEFT" = some (.int (2) t.t_LEFT)
  c_LETS_BY:mg "LETS_BY" = some (.str "l" t.t_LETS_BY)
  c_LONGEST_DOUBLE:mg "LONGEST_DOUBLE" = some (.int (20) t.t_LONGEST_DOUBLE)
  c_MARKS:mg "MARKS" = some (.int (6) t.t_MARKS)
  c_NAME:mg "NAME" = some (.int (0) t.t_NAME)
  c_TOP:mg "TOP" = some (.int (3) t.t_TOP)
  c_WIDTH:mg "WIDTH" = some (.int (4) t.t_WIDTH)
  z_any:mg "any" = none
  z_enumerate:mg "enumerate" = none
  z_len:mg "len" = none
  z_list:mg "list" = none
  z_max:mg "max" = none
  z_min:mg "min" = none
  z_range:mg "range" = none
  z_reversed:mg "reversed" = none
  z_sum:mg "sum" = none
  z_tuple:mg "tuple" = none
  z_zip:mg "zip" = none
section
variable {Pr:Program} {w:World} {K:PySem.W.Frag} {mg:Str→Option Value} {base:Heap} {t:Adr}
noncomputable abbrev N__law_cell:List Str:=["_law_script", "_law_k"]
theorem sc__law_cell:FnScope ["_law_script", "_law_k"] ["_law_script", "_law_k"] (defScope s__law_cell):=⟨rfl,rfl,rfl,by decide +kernel,rfl,by decide +kernel,by decide +kernel⟩
noncomputable def g__law_cell  : En→Option Out :=
  (sSeq (sIf (bT (l2 pEq (eV 0) (oE (fun η=>(aN η).bind gL)))) (sRet (l2 pMul (eC (.int 7)) (eV 1))) sNx)
    (sRet (l2 pAdd (l2 pIx (eV 0) (l2 pMod (eV 1) (lA pLen (aC (eV 0) aN)))) (l2 pMul (eC (.int 6553)) (l2 pFdiv (eV 1) (lA pLen (aC (eV 0) aN)))))))
set_option maxHeartbeats 4000000 in
theorem ok__law_cell {k:Nat} (tx:Tx K mg t)  : FnOk Pr w K mg base CX0 (k+1) t._law_cell t.d__law_cell ["_law_script", "_law_k"] (spP K (runF 2 2 (g__law_cell))) :=
  fnP tx.F__law_cell sc__law_cell fun _ _ _ _ _ _ _ hr =>
    (@Ss.cons _ _ _ _ _ _ (@S.ifS _ _ _ _ _ _ _ _ _ (T.eq hr (E.v 0) (EO.toE (EO.lst A.nil))) (@Ss.one _ _ _ _ (S.ret (E.mul E.int (E.v 1)))) Ss.nil)
    (@Ss.one _ _ _ _ (S.ret (E.add (E.at (E.v 0) (E.mod (E.v 1) (E.len tx.z_len (A.cons (E.v 0) A.nil)))) (E.mul E.int (E.fdiv (E.v 1) (E.len tx.z_len (A.cons (E.v 0) A.nil))))))))
noncomputable abbrev N__law_drawn:List Str:=["_law_script", "_law_k", "_law_many", "_law_cell_here"]
theorem sc__law_drawn:FnScope ["_law_script", "_law_k", "_law_many", "_law_cell_here"] ["_law_script", "_law_k", "_law_many"] (defScope s__law_drawn):=⟨rfl,rfl,rfl,by decide +kernel,rfl,by decide +kernel,by decide +kernel⟩
noncomputable def g__law_drawn (fn__law_cell:List PyData→Option PyData):En→Option Out :=
  (sSeq (sSet 3 (l2 pMod (l2 pAdd (l2 pMul (l2 pMod (lA fn__law_cell (aC (eV 0) (aC (eV 1) aN))) (eC (.int 2147483563))) (eC (.int 69069))) (l2 pMul (eC (.int 104723)) (l2 pAdd (eV 1) (eC (.int 1))))) (eC (.int 2147483563))))
    (sSeq (sSet 3 (l2 pMod (l2 pAdd (l2 pMul (eV 3) (eV 3)) (l2 pFdiv (eV 3) (eC (.int 3)))) (eC (.int 2147483399))))
    (sRet (l2 pMod (l2 pFdiv (l2 pMod (l2 pAdd (l2 pMul (eV 3) (eV 3)) (l2 pFdiv (eV 3) (eC (.int 7)))) (eC (.int 2147483647))) (eC (.int 11))) (eV 2)))))
set_option maxHeartbeats 4000000 in
theorem ok__law_drawn {k:Nat} (tx:Tx K mg t) {k__law_cell:Nat} {fn__law_cell:List PyData→Option PyData} (G__law_cell:FnOk Pr w K mg base CX0 k__law_cell t._law_cell t.d__law_cell ["_law_script", "_law_k"] (spP K fn__law_cell)) (hk__law_cell:k__law_cell≤k):FnOk Pr w K mg base CX0 (k+1) t._law_drawn t.d__law_drawn ["_law_script", "_law_k", "_law_many"] (spP K (runF 3 4 (g__law_drawn fn__law_cell))) :=
  fnP tx.F__law_drawn sc__law_drawn fun _ _ _ _ _ _ _ hr =>
    (@Ss.cons _ _ _ _ _ _ (S.set 3 sc__law_drawn.nd (E.mod (E.add (E.mul (E.mod (E.call G__law_cell hr (by omega) tx.m__law_cell tx.F__law_cell.kp tx.b__law_cell (A.cons (E.v 0) (A.cons (E.v 1) A.nil))) E.int) E.int) (E.mul E.int (E.add (E.v 1) E.int))) E.int))
    (@Ss.cons _ _ _ _ _ _ (S.set 3 sc__law_drawn.nd (E.mod (E.add (E.mul (E.v 3) (E.v 3)) (E.fdiv (E.v 3) E.int)) E.int))
    (@Ss.one _ _ _ _ (S.ret (E.mod (E.fdiv (E.mod (E.add (E.mul (E.v 3) (E.v 3)) (E.fdiv (E.v 3) E.int)) E.int) E.int) (E.v 2))))))
noncomputable abbrev N__law_scene:List Str:=["_law_script", "_law_at", "_law_found", "_law_turn", "_law_k", "_law_here", "_law_around", "_law_places", "_law_sizes", "_law_marks", "_law_j", "_law_sign", "_law_name"]
theorem sc__law_scene:FnScope ["_law_script", "_law_at", "_law_found", "_law_turn", "_law_k", "_law_here", "_law_around", "_law_places", "_law_sizes", "_law_marks", "_law_j", "_law_sign", "_law_name"] ["_law_script", "_law_at"] (defScope s__law_scene):=⟨rfl,rfl,rfl,by decide +kernel,rfl,by decide +kernel,by decide +kernel⟩
noncomputable def g__law_scene (fn__law_drawn:List PyData→Option PyData):En→Option Out :=
  (sSeq (sSet 2 (lA (fun ds=>if ds.length≤sizeLine then some (.tuple ds) else none) aN))
    (sSeq (sSet 3 (lA fn__law_drawn (aC (eV 0) (aC (l2 pAdd (eV 1) (eC (.int 1))) (aC (eC (.int 8)) aN)))))
    (sSeq (sFor (fun η=>((aC (lA fn__law_drawn (aC (eV 0) (aC (eV 1) (aC (eC (.int 8)) aN)))) aN) η).bind rng1) (tgN 4)
    (sSeq (sSet 5 (l2 pAdd (l2 pAdd (eV 1) (eC (.int 3))) (l2 pMul (eC (.int 9)) (eV 4))))
    (sSeq (sSet 6 (l2 pIx (l2 pAdd (oE (fun η=>((aC (eC (.str "")) aN) η).bind gL)) (oE (sComp [none] (lI asTu (eV 2)) (tgN 0) tTrue (l2 pIx (eV 0) (eC (.int 0)))))) (lA fn__law_drawn (aC (eV 0) (aC (eV 5) (aC (l2 pAdd (eV 4) (eC (.int 1))) aN))))))
    (sSeq (sSetO 7 (sComp [none,some 0,some 5] (fun η=>((aC (eC (.int 2)) aN) η).bind rng1) (tgN 0) tTrue (l2 pSub (lA fn__law_drawn (aC (eV 1) (aC (l2 pAdd (l2 pAdd (eV 2) (eC (.int 1))) (eV 0)) (aC (eC (.int 9)) aN)))) (eC (.int 3)))))
    (fun η=>(sSeq (sSetO 8 (sComp [none,some 0,some 5] (fun η=>((aC (eC (.int 2)) aN) η).bind rng1) (tgN 0) tTrue (lA fn__law_drawn (aC (eV 1) (aC (l2 pAdd (l2 pAdd (eV 2) (eC (.int 3))) (eV 0)) (aC (eC (.int 9)) aN))))))
    (fun η=>(sSeq (sSet 9 (eC (.str "")))
    (sSeq (sFor (fun η=>((aC (eC (.str "cfhl")) aN) η).bind enS) (tgT (tgCons (tgN 10) (tgCons (tgN 11) tgNil)))
    (sIf (bT (l2 pEq (lA fn__law_drawn (aC (eV 0) (aC (l2 pAdd (l2 pAdd (eV 5) (eC (.int 5))) (eV 10)) (aC (l2 pIx (oE (fun η=>((aC (eC (.int 4)) (aC (eC (.int 2)) (aC (eC (.int 9)) (aC (eC (.int 6)) aN)))) η).bind gL)) (eV 10)) aN)))) (eC (.int 0)))) (sSet 9 (l2 pAdd (eV 9) (eV 11))) sNx))
    (sSeq (sSet 12 (l2 pIx (eC (.str "dbgahcfe")) (l2 pMod (l2 pAdd (eV 4) (eV 3)) (eC (.int 8)))))
    (sSet 2 (l2 pAdd (eV 2) (lA (fun ds=>if ds.length≤sizeLine then some (.tuple ds) else none) (aC (l2 pAdd (l2 pAdd (lA (fun ds=>if ds.length≤sizeLine then some (.tuple ds) else none) (aC (eV 12) (aC (eV 6) aN))) (lA pTup (aC (l2 pAdd (eV 7) (eV 8)) aN))) (lA (fun ds=>if ds.length≤sizeLine then some (.tuple ds) else none) (aC (eV 9) aN))) aN))))))) (frz 8 η))) (frz 7 η))))))
    (sRet (eV 2)))))
set_option maxHeartbeats 4000000 in
theorem ok__law_scene {k:Nat} (tx:Tx K mg t) {k__law_drawn:Nat} {fn__law_drawn:List PyData→Option PyData} (G__law_drawn:FnOk Pr w K mg base CX0 k__law_drawn t._law_drawn t.d__law_drawn ["_law_script", "_law_k", "_law_many"] (spP K fn__law_drawn)) (hk__law_drawn:k__law_drawn≤k):FnOk Pr w K mg base CX0 (k+1) t._law_scene t.d__law_scene ["_law_script", "_law_at"] (spP K (runF 2 13 (g__law_scene fn__law_drawn))) :=
  fnP tx.F__law_scene sc__law_scene fun _ _ _ _ _ _ _ hr =>
    (@Ss.cons _ _ _ _ _ _ (S.set 2 sc__law_scene.nd (E.tup A.nil))
    (@Ss.cons _ _ _ _ _ _ (S.set 3 sc__law_scene.nd (E.call G__law_drawn hr (by omega) tx.m__law_drawn tx.F__law_drawn.kp tx.b__law_drawn (A.cons (E.v 0) (A.cons (E.add (E.v 1) E.int) (A.cons E.int A.nil)))))
    (@Ss.cons _ _ _ _ _ _ (@S.for _ _ _ _ _ _ _ _ _ _ _ PassesOwn.never rfl (I.rng1 tx.z_range (A.cons (E.call G__law_drawn hr (by omega) tx.m__law_drawn tx.F__law_drawn.kp tx.b__law_drawn (A.cons (E.v 0) (A.cons (E.v 1) (A.cons E.int A.nil)))) A.nil)) (pg_name (i:=4) sc__law_scene.nd rfl (by first | exact Or.inl rfl | exact Or.inr rfl) ) (TgP.name (i:=4))
    (@Ss.cons _ _ _ _ _ _ (S.set 5 sc__law_scene.nd (E.add (E.add (E.v 1) E.int) (E.mul E.int (E.v 4))))
    (@Ss.cons _ _ _ _ _ _ (S.set 6 sc__law_scene.nd (E.at (E.add (EO.toE (EO.lst (A.cons E.str A.nil))) (EO.toE (EO.comp (N':=["_law_box_here"]) (mp:=[none]) rfl (CompSc.of' N__law_scene (defScope s__law_scene) rfl rfl (by decide +kernel)) (TgP.name (i:=0)) (by decide) (I.tup (E.v 2)) (fun _ _ _=>⟨(pg_name (i:=0) (show (["_law_box_here"]:List Str).Nodup by decide +kernel) rfl (Or.inl rfl) (.inr rfl)),Ts.nil,(E.at (E.v 0) E.int)⟩)))) (E.call G__law_drawn hr (by omega) tx.m__law_drawn tx.F__law_drawn.kp tx.b__law_drawn (A.cons (E.v 0) (A.cons (E.v 5) (A.cons (E.add (E.v 4) E.int) A.nil))))))
    (@Ss.cons _ _ _ _ _ _ (S.setC 7 (N':=["_law_j", "_law_script", "_law_here"]) (mp:=[none,some 0,some 5]) rfl sc__law_scene.nd (CompSc.of' N__law_scene (defScope s__law_scene) rfl rfl (by decide +kernel)) (TgP.name (i:=0)) (by decide) (I.rng1 tx.z_range (A.cons E.int A.nil)) (fun _ _ _=>⟨(pg_name (i:=0) (show (["_law_j", "_law_script", "_law_here"]:List Str).Nodup by decide +kernel) rfl (Or.inl rfl) (.inr rfl)),Ts.nil,(E.sub (E.call G__law_drawn hr (by omega) tx.m__law_drawn tx.F__law_drawn.kp tx.b__law_drawn (A.cons (E.v 1) (A.cons (E.add (E.add (E.v 2) E.int) (E.v 0)) (A.cons E.int A.nil)))) E.int)⟩))
    (@Ss.frz _ _ _ _ 7 (@Ss.cons _ _ _ _ _ _ (S.setC 8 (N':=["_law_j", "_law_script", "_law_here"]) (mp:=[none,some 0,some 5]) rfl sc__law_scene.nd (CompSc.of' N__law_scene (defScope s__law_scene) rfl rfl (by decide +kernel)) (TgP.name (i:=0)) (by decide) (I.rng1 tx.z_range (A.cons E.int A.nil)) (fun _ _ _=>⟨(pg_name (i:=0) (show (["_law_j", "_law_script", "_law_here"]:List Str).Nodup by decide +kernel) rfl (Or.inl rfl) (.inr rfl)),Ts.nil,(E.call G__law_drawn hr (by omega) tx.m__law_drawn tx.F__law_drawn.kp tx.b__law_drawn (A.cons (E.v 1) (A.cons (E.add (E.add (E.v 2) E.int) (E.v 0)) (A.cons E.int A.nil))))⟩))
    (@Ss.frz _ _ _ _ 8 (@Ss.cons _ _ _ _ _ _ (S.set 9 sc__law_scene.nd E.str)
    (@Ss.cons _ _ _ _ _ _ (@S.for _ _ _ _ _ _ _ _ _ _ _ PassesOwn.never rfl (I.enum rfl tx.z_enumerate (A.cons E.str A.nil)) (pg_tup (n:=2) rfl (pgs_cons (pg_name (i:=10) sc__law_scene.nd rfl (by first | exact Or.inl rfl | exact Or.inr rfl) ) (pgs_cons (pg_name (i:=11) sc__law_scene.nd rfl (by first | exact Or.inl rfl | exact Or.inr rfl) ) pgs_nil))) (TgP.tup (n:=2) (TgsP.cons (TgP.name (i:=10)) (TgsP.cons (TgP.name (i:=11)) TgsP.nil)) (tg_len2))
    (@Ss.one _ _ _ _ (@S.ifS _ _ _ _ _ _ _ _ _ (T.eq hr (E.call G__law_drawn hr (by omega) tx.m__law_drawn tx.F__law_drawn.kp tx.b__law_drawn (A.cons (E.v 0) (A.cons (E.add (E.add (E.v 5) E.int) (E.v 10)) (A.cons (E.at (EO.toE (EO.lst (A.cons E.int (A.cons E.int (A.cons E.int (A.cons E.int A.nil)))))) (E.v 10)) A.nil)))) E.int) (@Ss.one _ _ _ _ (S.set 9 sc__law_scene.nd (E.add (E.v 9) (E.v 11)))) Ss.nil)) (fun _=>rfl))
    (@Ss.cons _ _ _ _ _ _ (S.set 12 sc__law_scene.nd (E.at E.str (E.mod (E.add (E.v 4) (E.v 3)) E.int)))
    (@Ss.one _ _ _ _ (S.set 2 sc__law_scene.nd (E.add (E.v 2) (E.tup (A.cons (E.add (E.add (E.tup (A.cons (E.v 12) (A.cons (E.v 6) A.nil))) (E.tuple tx.z_tuple (A.cons (E.add (E.v 7) (E.v 8)) A.nil))) (E.tup (A.cons (E.v 9) A.nil))) A.nil)))))))))))))) (fun _=>rfl))
    (@Ss.one _ _ _ _ (S.ret (E.v 2))))))
noncomputable abbrev N_Hands____init__:List Str:=["self", "scene"]
theorem sc_Hands____init__:FnScope ["self", "scene"] ["self", "scene"] (defScope s_Hands____init__):=⟨rfl,rfl,rfl,by decide +kernel,rfl,by decide +kernel,by decide +kernel⟩
noncomputable def g_Hands____init__  : Wd→Option MOut :=
  (mSeq (mPut 1 "scene" (mV 0) (mP (eV 1)))
    (mPut 1 "known" (mV 0) mNewD))
set_option maxHeartbeats 4000000 in
theorem ok_Hands____init__ {k:Nat} (tx:Tx K mg t)  : FnOk Pr w K mg base CX0 (k+1) t.Hands____init__ t.d_Hands____init__ ["self", "scene"] (spM K (cl t) (runM 2 2 (g_Hands____init__))) :=
  fnM tx.F_Hands____init__ sc_Hands____init__ fun _ _ _ _ _ _ hr =>
    (@MSs.cons _ _ _ _ _ _ (MS.put (k:=1) (ME.v 0) (ME.pu fun _=>(E.v 1)) tx.na_Hands_scene)
    (@MSs.one _ _ _ _ (MS.put (k:=1) (ME.v 0) ME.dict0 tx.na_Hands_known)))
noncomputable abbrev N_Hand____init__:List Str:=["self"]
theorem sc_Hand____init__:FnScope ["self"] ["self"] (defScope s_Hand____init__):=⟨rfl,rfl,rfl,by decide +kernel,rfl,by decide +kernel,by decide +kernel⟩
noncomputable def g_Hand____init__  : Wd→Option MOut :=
  (mSeq (mPut 0 "trail" (mV 0) (mP (oE (fun η=>(aN η).bind gL))))
    (mSeq (mPut 0 "pressed_at" (mV 0) (mP (eC .none)))
    (mSeq (mPut 0 "held_by" (mV 0) (mP (eC .none)))
    (mSeq (mPut 0 "clicked" (mV 0) (mP (eC .none)))
    (mSeq (mPut 0 "clicked_moment" (mV 0) (mP (eC (.int 0))))
    (mPut 0 "was_double" (mV 0) (mP (eC (.bool false)))))))))
set_option maxHeartbeats 4000000 in
theorem ok_Hand____init__ {k:Nat} (tx:Tx K mg t)  : FnOk Pr w K mg base CX0 (k+1) t.Hand____init__ t.d_Hand____init__ ["self"] (spM K (cl t) (runM 1 1 (g_Hand____init__))) :=
  fnM tx.F_Hand____init__ sc_Hand____init__ fun _ _ _ _ _ _ hr =>
    (@MSs.cons _ _ _ _ _ _ (MS.put (k:=0) (ME.v 0) (ME.pu fun _=>(EO.toE (EO.lst A.nil))) tx.na_Hand_trail)
    (@MSs.cons _ _ _ _ _ _ (MS.put (k:=0) (ME.v 0) (ME.pu fun _=>E.non) tx.na_Hand_pressed_at)
    (@MSs.cons _ _ _ _ _ _ (MS.put (k:=0) (ME.v 0) (ME.pu fun _=>E.non) tx.na_Hand_held_by)
    (@MSs.cons _ _ _ _ _ _ (MS.put (k:=0) (ME.v 0) (ME.pu fun _=>E.non) tx.na_Hand_clicked)
    (@MSs.cons _ _ _ _ _ _ (MS.put (k:=0) (ME.v 0) (ME.pu fun _=>E.int) tx.na_Hand_clicked_moment)
    (@MSs.one _ _ _ _ (MS.put (k:=0) (ME.v 0) (ME.pu fun _=>E.bl) tx.na_Hand_was_double)))))))
noncomputable abbrev N_Hands__hand_of:List Str:=["self", "hand"]
theorem sc_Hands__hand_of:FnScope ["self", "hand"] ["self", "hand"] (defScope s_Hands__hand_of):=⟨rfl,rfl,rfl,by decide +kernel,rfl,by decide +kernel,by decide +kernel⟩
noncomputable def g_Hands__hand_of (fn_Hand____init__:List D→Sto→Option (D×Sto)):Wd→Option MOut :=
  (mRet (mSetD (mFld (mV 0) "known") (mP (eV 1)) (mMake 0 fn_Hand____init__ maN)))
set_option maxHeartbeats 4000000 in
theorem ok_Hands__hand_of {k:Nat} (tx:Tx K mg t) {k_Hand____init__:Nat} {fn_Hand____init__:List D→Sto→Option (D×Sto)} (G_Hand____init__:FnOk Pr w K mg base CX0 k_Hand____init__ t.Hand____init__ t.d_Hand____init__ ["self"] (spM K (cl t) fn_Hand____init__)) (hk_Hand____init__:k_Hand____init__+1≤k):FnOk Pr w K mg base CX0 (k+1) t.Hands__hand_of t.d_Hands__hand_of ["self", "hand"] (spM K (cl t) (runM 2 2 (g_Hands__hand_of fn_Hand____init__))) :=
  fnM tx.F_Hands__hand_of sc_Hands__hand_of fun _ _ _ _ _ _ hr =>
    (@MSs.one _ _ _ _ (MS.ret (ME.setdef (ME.fld (ME.v 0)) (ME.pu fun _=>(E.v 1)) (ME.make0 (kc:=0) tx.cl_Hand tx.mk_Hand G_Hand____init__ hr (by omega) tx.mg_Hand tx.b_Hand____init__))))
noncomputable abbrev N_children:List Str:=["scene", "name"]
theorem sc_children:FnScope ["scene", "name"] ["scene", "name"] (defScope s_children):=⟨rfl,rfl,rfl,by decide +kernel,rfl,by decide +kernel,by decide +kernel⟩
noncomputable def g_children  : En→Option Out :=
  (sRet (oE (sComp [none,some 1] (lI asTu (eV 0)) (tgN 0) (bT (l2 pEq (l2 pIx (eV 0) (eC (.int 1))) (eV 1))) (l2 pIx (eV 0) (eC (.int 0))))))
set_option maxHeartbeats 4000000 in
theorem ok_children {k:Nat} (tx:Tx K mg t)  : FnOk Pr w K mg base CX0 (k+1) t.children t.d_children ["scene", "name"] (spP K (runF 2 2 (g_children))) :=
  fnP tx.F_children sc_children fun _ _ _ _ _ _ _ hr =>
    (@Ss.one _ _ _ _ (S.ret (EO.toE (EO.comp (N':=["box", "name"]) (mp:=[none,some 1]) rfl (CompSc.of' N_children (defScope s_children) rfl rfl (by decide +kernel)) (TgP.name (i:=0)) (by decide) (I.tup (E.v 0)) (fun _ _ _=>⟨(pg_name (i:=0) (show (["box", "name"]:List Str).Nodup by decide +kernel) rfl (Or.inl rfl) (.inr rfl)),(Ts.one (T.eq hr (E.at (E.v 0) (E.globI tx.c_AROUND)) (E.v 1))),(E.at (E.v 0) (E.globI tx.c_NAME))⟩)))))
noncomputable abbrev N_box_of:List Str:=["scene", "name", "box"]
theorem sc_box_of:FnScope ["scene", "name", "box"] ["scene", "name"] (defScope s_box_of):=⟨rfl,rfl,rfl,by decide +kernel,rfl,by decide +kernel,by decide +kernel⟩
noncomputable def g_box_of  : En→Option Out :=
  (sSeq (sFor (lI asTu (eV 0)) (tgN 2)
    (sIf (bT (l2 pEq (l2 pIx (eV 2) (eC (.int 0))) (eV 1))) (sRet (eV 2)) sNx))
    (fun _=>none))
set_option maxHeartbeats 4000000 in
theorem ok_box_of {k:Nat} (tx:Tx K mg t)  : FnOk Pr w K mg base CX0 (k+1) t.box_of t.d_box_of ["scene", "name"] (spP K (runF 2 3 (g_box_of))) :=
  fnP tx.F_box_of sc_box_of fun _ _ _ _ _ _ _ hr =>
    (@Ss.cons _ _ _ _ _ _ (@S.for _ _ _ _ _ _ _ _ _ _ _ PassesOwn.never rfl (I.tup (E.v 0)) (pg_name (i:=2) sc_box_of.nd rfl (by first | exact Or.inl rfl | exact Or.inr rfl) ) (TgP.name (i:=2))
    (@Ss.one _ _ _ _ (@S.ifS _ _ _ _ _ _ _ _ _ (T.eq hr (E.at (E.v 2) (E.globI tx.c_NAME)) (E.v 1)) (@Ss.one _ _ _ _ (S.ret (E.v 2))) Ss.nil)) (fun _=>rfl))
    (@Ss.one _ _ _ _ S.never))
noncomputable abbrev N_below:List Str:=["scene", "name", "names", "child"]
theorem sc_below:FnScope ["scene", "name", "names", "child"] ["scene", "name"] (defScope s_below):=⟨rfl,rfl,rfl,by decide +kernel,rfl,by decide +kernel,by decide +kernel⟩
noncomputable def g_below (fn_box_of:List PyData→Option PyData) (fn_children:List PyData→Option PyData) (fn_below:List PyData→Option PyData):En→Option Out :=
  (sSeq (sSetO 2 (fun η=>((aC (l2 pIx (lA fn_box_of (aC (eV 0) (aC (eV 1) aN))) (eC (.int 0))) aN) η).bind gL))
    (sSeq (sFor (lI asL (lA fn_children (aC (eV 0) (aC (eV 1) aN)))) (tgN 3)
    (sExt 2 (lI asL (lA fn_below (aC (eV 0) (aC (eV 3) aN))))))
    (sRetO 2)))
set_option maxHeartbeats 4000000 in
theorem ok_below {k:Nat} (tx:Tx K mg t) {k_box_of:Nat} {fn_box_of:List PyData→Option PyData} (G_box_of:FnOk Pr w K mg base CX0 k_box_of t.box_of t.d_box_of ["scene", "name"] (spP K fn_box_of)) (hk_box_of:k_box_of≤k) {k_children:Nat} {fn_children:List PyData→Option PyData} (G_children:FnOk Pr w K mg base CX0 k_children t.children t.d_children ["scene", "name"] (spP K fn_children)) (hk_children:k_children≤k) {k_below:Nat} {fn_below:List PyData→Option PyData} (G_below:FnOk Pr w K mg base CX0 k_below t.below t.d_below ["scene", "name"] (spP K fn_below)) (hk_below:k_below≤k):FnOk Pr w K mg base CX0 (k+1) t.below t.d_below ["scene", "name"] (spP K (runF 2 4 (g_below fn_box_of fn_children fn_below))) :=
  fnP tx.F_below sc_below fun _ _ _ _ _ _ _ hr =>
    (@Ss.cons _ _ _ _ _ _ (S.setO 2 sc_below.nd (EO.lst (A.cons (E.at (E.call G_box_of hr (by omega) tx.m_box_of tx.F_box_of.kp tx.b_box_of (A.cons (E.v 0) (A.cons (E.v 1) A.nil))) (E.globI tx.c_NAME)) A.nil)))
    (@Ss.cons _ _ _ _ _ _ (@S.for _ _ _ _ _ _ _ _ _ _ _ PassesOwn.never rfl (I.list (E.call G_children hr (by omega) tx.m_children tx.F_children.kp tx.b_children (A.cons (E.v 0) (A.cons (E.v 1) A.nil)))) (pg_name (i:=3) sc_below.nd rfl (by first | exact Or.inl rfl | exact Or.inr rfl) ) (TgP.name (i:=3))
    (@Ss.one _ _ _ _ (S.ext 2 (E.call G_below hr (by omega) tx.m_below tx.F_below.kp tx.b_below (A.cons (E.v 0) (A.cons (E.v 3) A.nil))))) (fun _=>rfl))
    (@Ss.one _ _ _ _ (S.retO 2))))
noncomputable abbrev N_painted:List Str:=["scene", "names", "name"]
theorem sc_painted:FnScope ["scene", "names", "name"] ["scene"] (defScope s_painted):=⟨rfl,rfl,rfl,by decide +kernel,rfl,by decide +kernel,by decide +kernel⟩
noncomputable def g_painted (fn_children:List PyData→Option PyData) (fn_below:List PyData→Option PyData):En→Option Out :=
  (sSeq (sSetO 1 (fun η=>(aN η).bind gL))
    (sSeq (sFor (lI asL (lA fn_children (aC (eV 0) (aC (eC (.str "")) aN)))) (tgN 2)
    (sExt 1 (lI asL (lA fn_below (aC (eV 0) (aC (eV 2) aN))))))
    (sRetO 1)))
set_option maxHeartbeats 4000000 in
theorem ok_painted {k:Nat} (tx:Tx K mg t) {k_children:Nat} {fn_children:List PyData→Option PyData} (G_children:FnOk Pr w K mg base CX0 k_children t.children t.d_children ["scene", "name"] (spP K fn_children)) (hk_children:k_children≤k) {k_below:Nat} {fn_below:List PyData→Option PyData} (G_below:FnOk Pr w K mg base CX0 k_below t.below t.d_below ["scene", "name"] (spP K fn_below)) (hk_below:k_below≤k):FnOk Pr w K mg base CX0 (k+1) t.painted t.d_painted ["scene"] (spP K (runF 1 3 (g_painted fn_children fn_below))) :=
  fnP tx.F_painted sc_painted fun _ _ _ _ _ _ _ hr =>
    (@Ss.cons _ _ _ _ _ _ (S.setO 1 sc_painted.nd (EO.lst A.nil))
    (@Ss.cons _ _ _ _ _ _ (@S.for _ _ _ _ _ _ _ _ _ _ _ PassesOwn.never rfl (I.list (E.call G_children hr (by omega) tx.m_children tx.F_children.kp tx.b_children (A.cons (E.v 0) (A.cons E.str A.nil)))) (pg_name (i:=2) sc_painted.nd rfl (by first | exact Or.inl rfl | exact Or.inr rfl) ) (TgP.name (i:=2))
    (@Ss.one _ _ _ _ (S.ext 1 (E.call G_below hr (by omega) tx.m_below tx.F_below.kp tx.b_below (A.cons (E.v 0) (A.cons (E.v 2) A.nil))))) (fun _=>rfl))
    (@Ss.one _ _ _ _ (S.retO 1))))
noncomputable abbrev N_path_of:List Str:=["scene", "name", "around"]
theorem sc_path_of:FnScope ["scene", "name", "around"] ["scene", "name"] (defScope s_path_of):=⟨rfl,rfl,rfl,by decide +kernel,rfl,by decide +kernel,by decide +kernel⟩
noncomputable def g_path_of (fn_box_of:List PyData→Option PyData) (fn_path_of:List PyData→Option PyData):En→Option Out :=
  (sSeq (sSet 2 (l2 pIx (lA fn_box_of (aC (eV 0) (aC (eV 1) aN))) (eC (.int 1))))
    (sSeq (sIf (bT (l2 pEq (eV 2) (eC (.str "")))) (sRet (oE (fun η=>((aC (eV 1) aN) η).bind gL))) sNx)
    (sRet (l2 pAdd (lA fn_path_of (aC (eV 0) (aC (eV 2) aN))) (oE (fun η=>((aC (eV 1) aN) η).bind gL))))))
set_option maxHeartbeats 4000000 in
theorem ok_path_of {k:Nat} (tx:Tx K mg t) {k_box_of:Nat} {fn_box_of:List PyData→Option PyData} (G_box_of:FnOk Pr w K mg base CX0 k_box_of t.box_of t.d_box_of ["scene", "name"] (spP K fn_box_of)) (hk_box_of:k_box_of≤k) {k_path_of:Nat} {fn_path_of:List PyData→Option PyData} (G_path_of:FnOk Pr w K mg base CX0 k_path_of t.path_of t.d_path_of ["scene", "name"] (spP K fn_path_of)) (hk_path_of:k_path_of≤k):FnOk Pr w K mg base CX0 (k+1) t.path_of t.d_path_of ["scene", "name"] (spP K (runF 2 3 (g_path_of fn_box_of fn_path_of))) :=
  fnP tx.F_path_of sc_path_of fun _ _ _ _ _ _ _ hr =>
    (@Ss.cons _ _ _ _ _ _ (S.set 2 sc_path_of.nd (E.at (E.call G_box_of hr (by omega) tx.m_box_of tx.F_box_of.kp tx.b_box_of (A.cons (E.v 0) (A.cons (E.v 1) A.nil))) (E.globI tx.c_AROUND)))
    (@Ss.cons _ _ _ _ _ _ (@S.ifS _ _ _ _ _ _ _ _ _ (T.eq hr (E.v 2) E.str) (@Ss.one _ _ _ _ (S.ret (EO.toE (EO.lst (A.cons (E.v 1) A.nil))))) Ss.nil)
    (@Ss.one _ _ _ _ (S.ret (E.add (E.call G_path_of hr (by omega) tx.m_path_of tx.F_path_of.kp tx.b_path_of (A.cons (E.v 0) (A.cons (E.v 2) A.nil))) (EO.toE (EO.lst (A.cons (E.v 1) A.nil))))))))
noncomputable abbrev N_has_mark:List Str:=["scene", "name", "mark"]
theorem sc_has_mark:FnScope ["scene", "name", "mark"] ["scene", "name", "mark"] (defScope s_has_mark):=⟨rfl,rfl,rfl,by decide +kernel,rfl,by decide +kernel,by decide +kernel⟩
noncomputable def g_has_mark (fn_box_of:List PyData→Option PyData):En→Option Out :=
  (sRet (l2 (pIn false) (eV 2) (l2 pIx (lA fn_box_of (aC (eV 0) (aC (eV 1) aN))) (eC (.int 6)))))
set_option maxHeartbeats 4000000 in
theorem ok_has_mark {k:Nat} (tx:Tx K mg t) {k_box_of:Nat} {fn_box_of:List PyData→Option PyData} (G_box_of:FnOk Pr w K mg base CX0 k_box_of t.box_of t.d_box_of ["scene", "name"] (spP K fn_box_of)) (hk_box_of:k_box_of≤k):FnOk Pr w K mg base CX0 (k+1) t.has_mark t.d_has_mark ["scene", "name", "mark"] (spP K (runF 3 3 (g_has_mark fn_box_of))) :=
  fnP tx.F_has_mark sc_has_mark fun _ _ _ _ _ _ _ hr =>
    (@Ss.one _ _ _ _ (S.ret (E.in (E.v 2) (E.at (E.call G_box_of hr (by omega) tx.m_box_of tx.F_box_of.kp tx.b_box_of (A.cons (E.v 0) (A.cons (E.v 1) A.nil))) (E.globI tx.c_MARKS)))))
noncomputable abbrev N_is_shown:List Str:=["scene", "name"]
theorem sc_is_shown:FnScope ["scene", "name"] ["scene", "name"] (defScope s_is_shown):=⟨rfl,rfl,rfl,by decide +kernel,rfl,by decide +kernel,by decide +kernel⟩
noncomputable def g_is_shown (fn_path_of:List PyData→Option PyData) (fn_has_mark:List PyData→Option PyData):En→Option Out :=
  (sRet (vNot (lA pAny (aC (oE (sComp [none,some 0] (lI asL (lA fn_path_of (aC (eV 0) (aC (eV 1) aN)))) (tgN 0) tTrue (lA fn_has_mark (aC (eV 1) (aC (eV 0) (aC (eC (.str "h")) aN)))))) aN))))
set_option maxHeartbeats 4000000 in
theorem ok_is_shown {k:Nat} (tx:Tx K mg t) {k_path_of:Nat} {fn_path_of:List PyData→Option PyData} (G_path_of:FnOk Pr w K mg base CX0 k_path_of t.path_of t.d_path_of ["scene", "name"] (spP K fn_path_of)) (hk_path_of:k_path_of≤k) {k_has_mark:Nat} {fn_has_mark:List PyData→Option PyData} (G_has_mark:FnOk Pr w K mg base CX0 k_has_mark t.has_mark t.d_has_mark ["scene", "name", "mark"] (spP K fn_has_mark)) (hk_has_mark:k_has_mark≤k):FnOk Pr w K mg base CX0 (k+1) t.is_shown t.d_is_shown ["scene", "name"] (spP K (runF 2 2 (g_is_shown fn_path_of fn_has_mark))) :=
  fnP tx.F_is_shown sc_is_shown fun _ _ _ _ _ _ _ hr =>
    (@Ss.one _ _ _ _ (S.ret (E.not (E.any rfl tx.z_any (A.cons (EO.toE (EO.comp (N':=["step", "scene"]) (mp:=[none,some 0]) rfl (CompSc.of' N_is_shown (defScope s_is_shown) rfl rfl (by decide +kernel)) (TgP.name (i:=0)) (by decide) (I.list (E.call G_path_of hr (by omega) tx.m_path_of tx.F_path_of.kp tx.b_path_of (A.cons (E.v 0) (A.cons (E.v 1) A.nil)))) (fun _ _ _=>⟨(pg_name (i:=0) (show (["step", "scene"]:List Str).Nodup by decide +kernel) rfl (Or.inl rfl) (.inr rfl)),Ts.nil,(E.call G_has_mark hr (by omega) tx.m_has_mark tx.F_has_mark.kp tx.b_has_mark (A.cons (E.v 1) (A.cons (E.v 0) (A.cons (E.globS tx.c_HIDDEN) A.nil))))⟩))) A.nil)))))
noncomputable abbrev N_area_of:List Str:=["scene", "name", "path", "left", "top", "last"]
theorem sc_area_of:FnScope ["scene", "name", "path", "left", "top", "last"] ["scene", "name"] (defScope s_area_of):=⟨rfl,rfl,rfl,by decide +kernel,rfl,by decide +kernel,by decide +kernel⟩
noncomputable def g_area_of (fn_path_of:List PyData→Option PyData) (fn_box_of:List PyData→Option PyData):En→Option Out :=
  (sSeq (sSetO 2 (sComp [none,some 0] (lI asL (lA fn_path_of (aC (eV 0) (aC (eV 1) aN)))) (tgN 0) tTrue (lA fn_box_of (aC (eV 1) (aC (eV 0) aN)))))
    (fun η=>(sSeq (sSet 3 (lA pSum (aC (oE (sComp [none] (lI asL (eV 2)) (tgN 0) tTrue (l2 pIx (eV 0) (eC (.int 2))))) aN)))
    (sSeq (sSet 4 (lA pSum (aC (oE (sComp [none] (lI asL (eV 2)) (tgN 0) tTrue (l2 pIx (eV 0) (eC (.int 3))))) aN)))
    (sSeq (sSet 5 (lA fn_box_of (aC (eV 0) (aC (eV 1) aN))))
    (sRet (lA (fun ds=>if ds.length≤sizeLine then some (.tuple ds) else none) (aC (eV 3) (aC (eV 4) (aC (l2 pAdd (eV 3) (l2 pIx (eV 5) (eC (.int 4)))) (aC (l2 pAdd (eV 4) (l2 pIx (eV 5) (eC (.int 5)))) aN))))))))) (frz 2 η)))
set_option maxHeartbeats 4000000 in
theorem ok_area_of {k:Nat} (tx:Tx K mg t) {k_path_of:Nat} {fn_path_of:List PyData→Option PyData} (G_path_of:FnOk Pr w K mg base CX0 k_path_of t.path_of t.d_path_of ["scene", "name"] (spP K fn_path_of)) (hk_path_of:k_path_of≤k) {k_box_of:Nat} {fn_box_of:List PyData→Option PyData} (G_box_of:FnOk Pr w K mg base CX0 k_box_of t.box_of t.d_box_of ["scene", "name"] (spP K fn_box_of)) (hk_box_of:k_box_of≤k):FnOk Pr w K mg base CX0 (k+1) t.area_of t.d_area_of ["scene", "name"] (spP K (runF 2 6 (g_area_of fn_path_of fn_box_of))) :=
  fnP tx.F_area_of sc_area_of fun _ _ _ _ _ _ _ hr =>
    (@Ss.cons _ _ _ _ _ _ (S.setC 2 (N':=["step", "scene"]) (mp:=[none,some 0]) rfl sc_area_of.nd (CompSc.of' N_area_of (defScope s_area_of) rfl rfl (by decide +kernel)) (TgP.name (i:=0)) (by decide) (I.list (E.call G_path_of hr (by omega) tx.m_path_of tx.F_path_of.kp tx.b_path_of (A.cons (E.v 0) (A.cons (E.v 1) A.nil)))) (fun _ _ _=>⟨(pg_name (i:=0) (show (["step", "scene"]:List Str).Nodup by decide +kernel) rfl (Or.inl rfl) (.inr rfl)),Ts.nil,(E.call G_box_of hr (by omega) tx.m_box_of tx.F_box_of.kp tx.b_box_of (A.cons (E.v 1) (A.cons (E.v 0) A.nil)))⟩))
    (@Ss.frz _ _ _ _ 2 (@Ss.cons _ _ _ _ _ _ (S.set 3 sc_area_of.nd (E.sum rfl tx.z_sum (A.cons (EO.toE (EO.comp (N':=["box"]) (mp:=[none]) rfl (CompSc.of' N_area_of (defScope s_area_of) rfl rfl (by decide +kernel)) (TgP.name (i:=0)) (by decide) (I.list (E.v 2)) (fun _ _ _=>⟨(pg_name (i:=0) (show (["box"]:List Str).Nodup by decide +kernel) rfl (Or.inl rfl) (.inr rfl)),Ts.nil,(E.at (E.v 0) (E.globI tx.c_LEFT))⟩))) A.nil)))
    (@Ss.cons _ _ _ _ _ _ (S.set 4 sc_area_of.nd (E.sum rfl tx.z_sum (A.cons (EO.toE (EO.comp (N':=["box"]) (mp:=[none]) rfl (CompSc.of' N_area_of (defScope s_area_of) rfl rfl (by decide +kernel)) (TgP.name (i:=0)) (by decide) (I.list (E.v 2)) (fun _ _ _=>⟨(pg_name (i:=0) (show (["box"]:List Str).Nodup by decide +kernel) rfl (Or.inl rfl) (.inr rfl)),Ts.nil,(E.at (E.v 0) (E.globI tx.c_TOP))⟩))) A.nil)))
    (@Ss.cons _ _ _ _ _ _ (S.set 5 sc_area_of.nd (E.call G_box_of hr (by omega) tx.m_box_of tx.F_box_of.kp tx.b_box_of (A.cons (E.v 0) (A.cons (E.v 1) A.nil))))
    (@Ss.one _ _ _ _ (S.ret (E.tup (A.cons (E.v 3) (A.cons (E.v 4) (A.cons (E.add (E.v 3) (E.at (E.v 5) (E.globI tx.c_WIDTH))) (A.cons (E.add (E.v 4) (E.at (E.v 5) (E.globI tx.c_HEIGHT))) A.nil))))))))))))
noncomputable abbrev N_overlap:List Str:=["one", "other", "left", "top"]
theorem sc_overlap:FnScope ["one", "other", "left", "top"] ["one", "other"] (defScope s_overlap):=⟨rfl,rfl,rfl,by decide +kernel,rfl,by decide +kernel,by decide +kernel⟩
noncomputable def g_overlap  : En→Option Out :=
  (sSeq (sSet 2 (lA pMax (aC (l2 pIx (eV 0) (eC (.int 0))) (aC (l2 pIx (eV 1) (eC (.int 0))) aN))))
    (sSeq (sSet 3 (lA pMax (aC (l2 pIx (eV 0) (eC (.int 1))) (aC (l2 pIx (eV 1) (eC (.int 1))) aN))))
    (sRet (lA (fun ds=>if ds.length≤sizeLine then some (.tuple ds) else none) (aC (eV 2) (aC (eV 3) (aC (lA pMin (aC (l2 pIx (eV 0) (eC (.int 2))) (aC (l2 pIx (eV 1) (eC (.int 2))) aN))) (aC (lA pMin (aC (l2 pIx (eV 0) (eC (.int 3))) (aC (l2 pIx (eV 1) (eC (.int 3))) aN))) aN))))))))
set_option maxHeartbeats 4000000 in
theorem ok_overlap {k:Nat} (tx:Tx K mg t)  : FnOk Pr w K mg base CX0 (k+1) t.overlap t.d_overlap ["one", "other"] (spP K (runF 2 4 (g_overlap))) :=
  fnP tx.F_overlap sc_overlap fun _ _ _ _ _ _ _ hr =>
    (@Ss.cons _ _ _ _ _ _ (S.set 2 sc_overlap.nd (E.max rfl tx.z_max (A.cons (E.at (E.v 0) E.int) (A.cons (E.at (E.v 1) E.int) A.nil))))
    (@Ss.cons _ _ _ _ _ _ (S.set 3 sc_overlap.nd (E.max rfl tx.z_max (A.cons (E.at (E.v 0) E.int) (A.cons (E.at (E.v 1) E.int) A.nil))))
    (@Ss.one _ _ _ _ (S.ret (E.tup (A.cons (E.v 2) (A.cons (E.v 3) (A.cons (E.min rfl tx.z_min (A.cons (E.at (E.v 0) E.int) (A.cons (E.at (E.v 1) E.int) A.nil))) (A.cons (E.min rfl tx.z_min (A.cons (E.at (E.v 0) E.int) (A.cons (E.at (E.v 1) E.int) A.nil))) A.nil)))))))))
noncomputable abbrev N_window_of:List Str:=["scene", "name", "window", "step"]
theorem sc_window_of:FnScope ["scene", "name", "window", "step"] ["scene", "name"] (defScope s_window_of):=⟨rfl,rfl,rfl,by decide +kernel,rfl,by decide +kernel,by decide +kernel⟩
noncomputable def g_window_of (fn_area_of:List PyData→Option PyData) (fn_path_of:List PyData→Option PyData) (fn_has_mark:List PyData→Option PyData) (fn_overlap:List PyData→Option PyData):En→Option Out :=
  (sSeq (sSet 2 (lA fn_area_of (aC (eV 0) (aC (eV 1) aN))))
    (sSeq (sFor (lI asL (lA fn_path_of (aC (eV 0) (aC (eV 1) aN)))) (tgN 3)
    (sIf (bT (lA fn_has_mark (aC (eV 0) (aC (eV 3) (aC (eC (.str "c")) aN))))) (sSet 2 (lA fn_overlap (aC (eV 2) (aC (lA fn_area_of (aC (eV 0) (aC (eV 3) aN))) aN)))) sNx))
    (sRet (eV 2))))
set_option maxHeartbeats 4000000 in
theorem ok_window_of {k:Nat} (tx:Tx K mg t) {k_area_of:Nat} {fn_area_of:List PyData→Option PyData} (G_area_of:FnOk Pr w K mg base CX0 k_area_of t.area_of t.d_area_of ["scene", "name"] (spP K fn_area_of)) (hk_area_of:k_area_of≤k) {k_path_of:Nat} {fn_path_of:List PyData→Option PyData} (G_path_of:FnOk Pr w K mg base CX0 k_path_of t.path_of t.d_path_of ["scene", "name"] (spP K fn_path_of)) (hk_path_of:k_path_of≤k) {k_has_mark:Nat} {fn_has_mark:List PyData→Option PyData} (G_has_mark:FnOk Pr w K mg base CX0 k_has_mark t.has_mark t.d_has_mark ["scene", "name", "mark"] (spP K fn_has_mark)) (hk_has_mark:k_has_mark≤k) {k_overlap:Nat} {fn_overlap:List PyData→Option PyData} (G_overlap:FnOk Pr w K mg base CX0 k_overlap t.overlap t.d_overlap ["one", "other"] (spP K fn_overlap)) (hk_overlap:k_overlap≤k):FnOk Pr w K mg base CX0 (k+1) t.window_of t.d_window_of ["scene", "name"] (spP K (runF 2 4 (g_window_of fn_area_of fn_path_of fn_has_mark fn_overlap))) :=
  fnP tx.F_window_of sc_window_of fun _ _ _ _ _ _ _ hr =>
    (@Ss.cons _ _ _ _ _ _ (S.set 2 sc_window_of.nd (E.call G_area_of hr (by omega) tx.m_area_of tx.F_area_of.kp tx.b_area_of (A.cons (E.v 0) (A.cons (E.v 1) A.nil))))
    (@Ss.cons _ _ _ _ _ _ (@S.for _ _ _ _ _ _ _ _ _ _ _ PassesOwn.never rfl (I.list (E.call G_path_of hr (by omega) tx.m_path_of tx.F_path_of.kp tx.b_path_of (A.cons (E.v 0) (A.cons (E.v 1) A.nil)))) (pg_name (i:=3) sc_window_of.nd rfl (by first | exact Or.inl rfl | exact Or.inr rfl) ) (TgP.name (i:=3))
    (@Ss.one _ _ _ _ (@S.ifS _ _ _ _ _ _ _ _ _ (T.val (E.call G_has_mark hr (by omega) tx.m_has_mark tx.F_has_mark.kp tx.b_has_mark (A.cons (E.v 0) (A.cons (E.v 3) (A.cons (E.globS tx.c_CUTS_OFF) A.nil))))) (@Ss.one _ _ _ _ (S.set 2 sc_window_of.nd (E.call G_overlap hr (by omega) tx.m_overlap tx.F_overlap.kp tx.b_overlap (A.cons (E.v 2) (A.cons (E.call G_area_of hr (by omega) tx.m_area_of tx.F_area_of.kp tx.b_area_of (A.cons (E.v 0) (A.cons (E.v 3) A.nil))) A.nil))))) Ss.nil)) (fun _=>rfl))
    (@Ss.one _ _ _ _ (S.ret (E.v 2)))))
noncomputable abbrev N_takers:List Str:=["scene", "names"]
theorem sc_takers:FnScope ["scene", "names"] ["scene"] (defScope s_takers):=⟨rfl,rfl,rfl,by decide +kernel,rfl,by decide +kernel,by decide +kernel⟩
noncomputable def g_takers (fn_painted:List PyData→Option PyData) (fn_is_shown:List PyData→Option PyData) (fn_has_mark:List PyData→Option PyData) (fn_window_of:List PyData→Option PyData):En→Option Out :=
  (sSeq (sSetO 1 (sComp [none,some 0] (fun η=>((aC (lA fn_painted (aC (eV 0) aN)) aN) η).bind rvS) (tgN 0) (bT (lA fn_is_shown (aC (eV 1) (aC (eV 0) aN)))) (eV 0)))
    (fun η=>(sRet (oE (sComp [none,some 0] (lI asL (eV 1)) (tgN 0) (bNot (bT (lA fn_has_mark (aC (eV 1) (aC (eV 0) (aC (eC (.str "l")) aN)))))) (lA (fun ds=>if ds.length≤sizeLine then some (.tuple ds) else none) (aC (eV 0) (aC (lA fn_window_of (aC (eV 1) (aC (eV 0) aN))) aN)))))) (frz 1 η)))
set_option maxHeartbeats 4000000 in
theorem ok_takers {k:Nat} (tx:Tx K mg t) {k_painted:Nat} {fn_painted:List PyData→Option PyData} (G_painted:FnOk Pr w K mg base CX0 k_painted t.painted t.d_painted ["scene"] (spP K fn_painted)) (hk_painted:k_painted≤k) {k_is_shown:Nat} {fn_is_shown:List PyData→Option PyData} (G_is_shown:FnOk Pr w K mg base CX0 k_is_shown t.is_shown t.d_is_shown ["scene", "name"] (spP K fn_is_shown)) (hk_is_shown:k_is_shown≤k) {k_has_mark:Nat} {fn_has_mark:List PyData→Option PyData} (G_has_mark:FnOk Pr w K mg base CX0 k_has_mark t.has_mark t.d_has_mark ["scene", "name", "mark"] (spP K fn_has_mark)) (hk_has_mark:k_has_mark≤k) {k_window_of:Nat} {fn_window_of:List PyData→Option PyData} (G_window_of:FnOk Pr w K mg base CX0 k_window_of t.window_of t.d_window_of ["scene", "name"] (spP K fn_window_of)) (hk_window_of:k_window_of≤k):FnOk Pr w K mg base CX0 (k+1) t.takers t.d_takers ["scene"] (spP K (runF 1 2 (g_takers fn_painted fn_is_shown fn_has_mark fn_window_of))) :=
  fnP tx.F_takers sc_takers fun _ _ _ _ _ _ _ hr =>
    (@Ss.cons _ _ _ _ _ _ (S.setC 1 (N':=["name", "scene"]) (mp:=[none,some 0]) rfl sc_takers.nd (CompSc.of' N_takers (defScope s_takers) rfl rfl (by decide +kernel)) (TgP.name (i:=0)) (by decide) (I.rev rfl tx.z_reversed (A.cons (E.call G_painted hr (by omega) tx.m_painted tx.F_painted.kp tx.b_painted (A.cons (E.v 0) A.nil)) A.nil)) (fun _ _ _=>⟨(pg_name (i:=0) (show (["name", "scene"]:List Str).Nodup by decide +kernel) rfl (Or.inl rfl) (.inr rfl)),(Ts.one (T.val (E.call G_is_shown hr (by omega) tx.m_is_shown tx.F_is_shown.kp tx.b_is_shown (A.cons (E.v 1) (A.cons (E.v 0) A.nil))))),(E.v 0)⟩))
    (@Ss.frz _ _ _ _ 1 (@Ss.one _ _ _ _ (S.ret (EO.toE (EO.comp (N':=["name", "scene"]) (mp:=[none,some 0]) rfl (CompSc.of' N_takers (defScope s_takers) rfl rfl (by decide +kernel)) (TgP.name (i:=0)) (by decide) (I.list (E.v 1)) (fun _ _ _=>⟨(pg_name (i:=0) (show (["name", "scene"]:List Str).Nodup by decide +kernel) rfl (Or.inl rfl) (.inr rfl)),(Ts.one (T.not (T.val (E.call G_has_mark hr (by omega) tx.m_has_mark tx.F_has_mark.kp tx.b_has_mark (A.cons (E.v 1) (A.cons (E.v 0) (A.cons (E.globS tx.c_LETS_BY) A.nil))))))),(E.tup (A.cons (E.v 0) (A.cons (E.call G_window_of hr (by omega) tx.m_window_of tx.F_window_of.kp tx.b_window_of (A.cons (E.v 1) (A.cons (E.v 0) A.nil))) A.nil)))⟩)))))))
noncomputable abbrev N_has_point:List Str:=["area", "x", "y"]
theorem sc_has_point:FnScope ["area", "x", "y"] ["area", "x", "y"] (defScope s_has_point):=⟨rfl,rfl,rfl,by decide +kernel,rfl,by decide +kernel,by decide +kernel⟩
noncomputable def g_has_point  : En→Option Out :=
  (sRet (vAnd (lch pLe pLt (l2 pIx (eV 0) (eC (.int 0))) (eV 1) (l2 pIx (eV 0) (eC (.int 2)))) (lch pLe pLt (l2 pIx (eV 0) (eC (.int 1))) (eV 2) (l2 pIx (eV 0) (eC (.int 3))))))
set_option maxHeartbeats 4000000 in
theorem ok_has_point {k:Nat} (tx:Tx K mg t)  : FnOk Pr w K mg base CX0 (k+1) t.has_point t.d_has_point ["area", "x", "y"] (spP K (runF 3 3 (g_has_point))) :=
  fnP tx.F_has_point sc_has_point fun _ _ _ _ _ _ _ hr =>
    (@Ss.one _ _ _ _ (S.ret (E.and (E.chain op_le (ad_I0 fun _ _ _=>rel_bl) op_lt (ad_I0 fun _ _ _=>rel_bl) (E.at (E.v 0) E.int) (E.v 1) (E.at (E.v 0) E.int)) (E.one (E.chain op_le (ad_I0 fun _ _ _=>rel_bl) op_lt (ad_I0 fun _ _ _=>rel_bl) (E.at (E.v 0) E.int) (E.v 2) (E.at (E.v 0) E.int))))))
noncomputable abbrev N_first_at:List Str:=["rows", "x", "y", "name", "window"]
theorem sc_first_at:FnScope ["rows", "x", "y", "name", "window"] ["rows", "x", "y"] (defScope s_first_at):=⟨rfl,rfl,rfl,by decide +kernel,rfl,by decide +kernel,by decide +kernel⟩
noncomputable def g_first_at (fn_has_point:List PyData→Option PyData):En→Option Out :=
  (sSeq (sFor (lI asL (eV 0)) (tgT (tgCons (tgN 3) (tgCons (tgN 4) tgNil)))
    (sIf (bT (lA fn_has_point (aC (eV 4) (aC (eV 1) (aC (eV 2) aN))))) (sRet (eV 3)) sNx))
    (sRet (eC .none)))
set_option maxHeartbeats 4000000 in
theorem ok_first_at {k:Nat} (tx:Tx K mg t) {k_has_point:Nat} {fn_has_point:List PyData→Option PyData} (G_has_point:FnOk Pr w K mg base CX0 k_has_point t.has_point t.d_has_point ["area", "x", "y"] (spP K fn_has_point)) (hk_has_point:k_has_point≤k):FnOk Pr w K mg base CX0 (k+1) t.first_at t.d_first_at ["rows", "x", "y"] (spP K (runF 3 5 (g_first_at fn_has_point))) :=
  fnP tx.F_first_at sc_first_at fun _ _ _ _ _ _ _ hr =>
    (@Ss.cons _ _ _ _ _ _ (@S.for _ _ _ _ _ _ _ _ _ _ _ PassesOwn.never rfl (I.list (E.v 0)) (pg_tup (n:=2) rfl (pgs_cons (pg_name (i:=3) sc_first_at.nd rfl (by first | exact Or.inl rfl | exact Or.inr rfl) ) (pgs_cons (pg_name (i:=4) sc_first_at.nd rfl (by first | exact Or.inl rfl | exact Or.inr rfl) ) pgs_nil))) (TgP.tup (n:=2) (TgsP.cons (TgP.name (i:=3)) (TgsP.cons (TgP.name (i:=4)) TgsP.nil)) (tg_len2))
    (@Ss.one _ _ _ _ (@S.ifS _ _ _ _ _ _ _ _ _ (T.val (E.call G_has_point hr (by omega) tx.m_has_point tx.F_has_point.kp tx.b_has_point (A.cons (E.v 4) (A.cons (E.v 1) (A.cons (E.v 2) A.nil))))) (@Ss.one _ _ _ _ (S.ret (E.v 3))) Ss.nil)) (fun _=>rfl))
    (@Ss.one _ _ _ _ (S.ret E.non)))
noncomputable abbrev N_hit:List Str:=["scene", "x", "y"]
theorem sc_hit:FnScope ["scene", "x", "y"] ["scene", "x", "y"] (defScope s_hit):=⟨rfl,rfl,rfl,by decide +kernel,rfl,by decide +kernel,by decide +kernel⟩
noncomputable def g_hit (fn_takers:List PyData→Option PyData) (fn_first_at:List PyData→Option PyData):En→Option Out :=
  (sRet (lA fn_first_at (aC (lA fn_takers (aC (eV 0) aN)) (aC (eV 1) (aC (eV 2) aN)))))
set_option maxHeartbeats 4000000 in
theorem ok_hit {k:Nat} (tx:Tx K mg t) {k_takers:Nat} {fn_takers:List PyData→Option PyData} (G_takers:FnOk Pr w K mg base CX0 k_takers t.takers t.d_takers ["scene"] (spP K fn_takers)) (hk_takers:k_takers≤k) {k_first_at:Nat} {fn_first_at:List PyData→Option PyData} (G_first_at:FnOk Pr w K mg base CX0 k_first_at t.first_at t.d_first_at ["rows", "x", "y"] (spP K fn_first_at)) (hk_first_at:k_first_at≤k):FnOk Pr w K mg base CX0 (k+1) t.hit t.d_hit ["scene", "x", "y"] (spP K (runF 3 3 (g_hit fn_takers fn_first_at))) :=
  fnP tx.F_hit sc_hit fun _ _ _ _ _ _ _ hr =>
    (@Ss.one _ _ _ _ (S.ret (E.call G_first_at hr (by omega) tx.m_first_at tx.F_first_at.kp tx.b_first_at (A.cons (E.call G_takers hr (by omega) tx.m_takers tx.F_takers.kp tx.b_takers (A.cons (E.v 0) A.nil)) (A.cons (E.v 1) (A.cons (E.v 2) A.nil))))))
noncomputable abbrev N_hit_path:List Str:=["scene", "x", "y", "name"]
theorem sc_hit_path:FnScope ["scene", "x", "y", "name"] ["scene", "x", "y"] (defScope s_hit_path):=⟨rfl,rfl,rfl,by decide +kernel,rfl,by decide +kernel,by decide +kernel⟩
noncomputable def g_hit_path (fn_hit:List PyData→Option PyData) (fn_path_of:List PyData→Option PyData):En→Option Out :=
  (sSeq (sSet 3 (lA fn_hit (aC (eV 0) (aC (eV 1) (aC (eV 2) aN)))))
    (sRet (vIf (bT (l2 (pIsN false) (eV 3) (eC .none))) (oE (fun η=>(aN η).bind gL)) (lA fn_path_of (aC (eV 0) (aC (eV 3) aN))))))
set_option maxHeartbeats 4000000 in
theorem ok_hit_path {k:Nat} (tx:Tx K mg t) {k_hit:Nat} {fn_hit:List PyData→Option PyData} (G_hit:FnOk Pr w K mg base CX0 k_hit t.hit t.d_hit ["scene", "x", "y"] (spP K fn_hit)) (hk_hit:k_hit≤k) {k_path_of:Nat} {fn_path_of:List PyData→Option PyData} (G_path_of:FnOk Pr w K mg base CX0 k_path_of t.path_of t.d_path_of ["scene", "name"] (spP K fn_path_of)) (hk_path_of:k_path_of≤k):FnOk Pr w K mg base CX0 (k+1) t.hit_path t.d_hit_path ["scene", "x", "y"] (spP K (runF 3 4 (g_hit_path fn_hit fn_path_of))) :=
  fnP tx.F_hit_path sc_hit_path fun _ _ _ _ _ _ _ hr =>
    (@Ss.cons _ _ _ _ _ _ (S.set 3 sc_hit_path.nd (E.call G_hit hr (by omega) tx.m_hit tx.F_hit.kp tx.b_hit (A.cons (E.v 0) (A.cons (E.v 1) (A.cons (E.v 2) A.nil)))))
    (@Ss.one _ _ _ _ (S.ret (E.ifE (T.isN (E.v 3) E.non) (EO.toE (EO.lst A.nil)) (E.call G_path_of hr (by omega) tx.m_path_of tx.F_path_of.kp tx.b_path_of (A.cons (E.v 0) (A.cons (E.v 3) A.nil)))))))
noncomputable abbrev N_shared:List Str:=["one", "other", "names", "name", "counterpart"]
theorem sc_shared:FnScope ["one", "other", "names", "name", "counterpart"] ["one", "other"] (defScope s_shared):=⟨rfl,rfl,rfl,by decide +kernel,rfl,by decide +kernel,by decide +kernel⟩
noncomputable def g_shared  : En→Option Out :=
  (sSeq (sSetO 2 (fun η=>(aN η).bind gL))
    (sSeq (sFor (fun η=>((aC (eV 0) (aC (eV 1) aN)) η).bind zpL) (tgT (tgCons (tgN 3) (tgCons (tgN 4) tgNil)))
    (sSeq (sIf (bT (l2 pNe (eV 3) (eV 4))) sBk sNx)
    (sApp 2 (eV 3))))
    (sRetO 2)))
set_option maxHeartbeats 4000000 in
theorem ok_shared {k:Nat} (tx:Tx K mg t)  : FnOk Pr w K mg base CX0 (k+1) t.shared t.d_shared ["one", "other"] (spP K (runF 2 5 (g_shared))) :=
  fnP tx.F_shared sc_shared fun _ _ _ _ _ _ _ hr =>
    (@Ss.cons _ _ _ _ _ _ (S.setO 2 sc_shared.nd (EO.lst A.nil))
    (@Ss.cons _ _ _ _ _ _ (@S.for _ _ _ _ _ _ _ _ _ _ _ PassesOwn.never rfl (I.zip tx.z_zip (A.cons (E.v 0) (A.cons (E.v 1) A.nil))) (pg_tup (n:=2) rfl (pgs_cons (pg_name (i:=3) sc_shared.nd rfl (by first | exact Or.inl rfl | exact Or.inr rfl) ) (pgs_cons (pg_name (i:=4) sc_shared.nd rfl (by first | exact Or.inl rfl | exact Or.inr rfl) ) pgs_nil))) (TgP.tup (n:=2) (TgsP.cons (TgP.name (i:=3)) (TgsP.cons (TgP.name (i:=4)) TgsP.nil)) (tg_len2))
    (@Ss.cons _ _ _ _ _ _ (@S.ifS _ _ _ _ _ _ _ _ _ (T.ne hr (E.v 3) (E.v 4)) (@Ss.one _ _ _ _ S.brk) Ss.nil)
    (@Ss.one _ _ _ _ (S.app 2 (E.v 3)))) (fun _=>rfl))
    (@Ss.one _ _ _ _ (S.retO 2))))
noncomputable abbrev N_Hand__lead:List Str:=["self", "path", "stays", "leaves"]
theorem sc_Hand__lead:FnScope ["self", "path", "stays", "leaves"] ["self", "path"] (defScope s_Hand__lead):=⟨rfl,rfl,rfl,by decide +kernel,rfl,by decide +kernel,by decide +kernel⟩
noncomputable def g_Hand__lead (fn_shared:List PyData→Option PyData):Wd→Option MOut :=
  (mSeq (mSet 2 (mP (lA pLen (aC (lA fn_shared (aC (eFld 0 "trail") (aC (eV 1) aN))) aN))))
    (mSeq (mSet 3 (mC (sComp [none] (fun η=>((aC (eSl (eFld 0 "trail") (pS (eV 2)) pN) aN) η).bind rvS) (tgN 0) tTrue (lA (fun ds=>if ds.length≤sizeLine then some (.tuple ds) else none) (aC (eC (.str "leave")) (aC (eV 0) aN))))))
    (mSeq (mPut 0 "trail" (mV 0) (mP (lA pListL (aC (eV 1) aN))))
    (mRet (mP (l2 pAdd (eV 3) (oE (sComp [none] (lI asL (eSl (eV 1) (pS (eV 2)) pN)) (tgN 0) tTrue (lA (fun ds=>if ds.length≤sizeLine then some (.tuple ds) else none) (aC (eC (.str "enter")) (aC (eV 0) aN)))))))))))
set_option maxHeartbeats 4000000 in
theorem ok_Hand__lead {k:Nat} (tx:Tx K mg t) {k_shared:Nat} {fn_shared:List PyData→Option PyData} (G_shared:FnOk Pr w K mg base CX0 k_shared t.shared t.d_shared ["one", "other"] (spP K fn_shared)) (hk_shared:k_shared≤k):FnOk Pr w K mg base CX0 (k+1) t.Hand__lead t.d_Hand__lead ["self", "path"] (spM K (cl t) (runM 2 4 (g_Hand__lead fn_shared))) :=
  fnM tx.F_Hand__lead sc_Hand__lead fun _ _ _ _ _ _ hr =>
    (@MSs.cons _ _ _ _ _ _ (MS.set 2 sc_Hand__lead.nd (ME.pu fun _=>(E.len tx.z_len (A.cons (E.call G_shared hr (by omega) tx.m_shared tx.F_shared.kp tx.b_shared (A.cons (E.fld 0) (A.cons (E.v 1) A.nil))) A.nil))))
    (@MSs.cons _ _ _ _ _ _ (@MS.setC _ _ _ _ _ _ _ ["name"] [none] _ _ _ _ _ _ _ 3 _ _ _ rfl sc_Hand__lead.nd (CompSc.of' N_Hand__lead (defScope s_Hand__lead) rfl rfl (by decide +kernel)) (TgP.name (i:=0)) (by decide) (fun _=>(I.rev rfl tx.z_reversed (A.cons (E.sl (E.fld 0) (P.some (E.v 2)) P.none) A.nil))) (fun _ _ _ _=>⟨(pg_name (i:=0) (show (["name"]:List Str).Nodup by decide +kernel) rfl (Or.inl rfl) (.inr rfl)),Ts.nil,(E.tup (A.cons E.str (A.cons (E.v 0) A.nil)))⟩) rfl rfl rfl (fun _=>rfl))
    (@MSs.cons _ _ _ _ _ _ (MS.put (k:=0) (ME.v 0) (ME.pu fun _=>(E.listL tx.z_list (A.cons (E.v 1) A.nil))) tx.na_Hand_trail)
    (@MSs.one _ _ _ _ (MS.ret (ME.pu fun _=>(E.add (E.v 3) (EO.toE (EO.comp (N':=["name"]) (mp:=[none]) rfl (CompSc.of' N_Hand__lead (defScope s_Hand__lead) rfl rfl (by decide +kernel)) (TgP.name (i:=0)) (by decide) (I.list (E.sl (E.v 1) (P.some (E.v 2)) P.none)) (fun _ _ _=>⟨(pg_name (i:=0) (show (["name"]:List Str).Nodup by decide +kernel) rfl (Or.inl rfl) (.inr rfl)),Ts.nil,(E.tup (A.cons E.str (A.cons (E.v 0) A.nil)))⟩))))))))))
noncomputable abbrev N_Hand__tell_holder:List Str:=["self", "word"]
theorem sc_Hand__tell_holder:FnScope ["self", "word"] ["self", "word"] (defScope s_Hand__tell_holder):=⟨rfl,rfl,rfl,by decide +kernel,rfl,by decide +kernel,by decide +kernel⟩
noncomputable def g_Hand__tell_holder  : Wd→Option MOut :=
  (mRet (mIfx (tPv (bT (l2 (pIsN false) (eFld 0 "held_by") (eC .none)))) (mN (fun η=>(aN η).bind gL)) (mN (fun η=>((aC (lA (fun ds=>if ds.length≤sizeLine then some (.tuple ds) else none) (aC (eV 1) (aC (eFld 0 "held_by") aN))) aN) η).bind gL))))
set_option maxHeartbeats 4000000 in
theorem ok_Hand__tell_holder {k:Nat} (tx:Tx K mg t)  : FnOk Pr w K mg base CX0 (k+1) t.Hand__tell_holder t.d_Hand__tell_holder ["self", "word"] (spM K (cl t) (runM 2 2 (g_Hand__tell_holder))) :=
  fnM tx.F_Hand__tell_holder sc_Hand__tell_holder fun _ _ _ _ _ _ hr =>
    (@MSs.one _ _ _ _ (MS.ret (ME.ifx (MT.pu fun _=>(T.isN (E.fld 0) E.non)) (ME.nw fun _=>(EO.lst A.nil)) (ME.nw fun _=>(EO.lst (A.cons (E.tup (A.cons (E.v 1) (A.cons (E.fld 0) A.nil))) A.nil))))))
noncomputable abbrev N_Hands__down:List Str:=["self", "hand", "moment", "x", "y", "one", "path", "rows"]
theorem sc_Hands__down:FnScope ["self", "hand", "moment", "x", "y", "one", "path", "rows"] ["self", "hand", "moment", "x", "y"] (defScope s_Hands__down):=⟨rfl,rfl,rfl,by decide +kernel,rfl,by decide +kernel,by decide +kernel⟩
noncomputable def g_Hands__down (fn_Hands__hand_of:List D→Sto→Option (D×Sto)) (fn_hit_path:List PyData→Option PyData) (fn_Hand__lead:List D→Sto→Option (D×Sto)) (fn_Hand__tell_holder:List D→Sto→Option (D×Sto)):Wd→Option MOut :=
  (mSeq (mSet 5 (mMeth 1 "hand_of" fn_Hands__hand_of (mV 0) (maC (mP (eV 1)) maN)))
    (mSeq (mIf (tPv (bT (l2 (pIsN true) (eFld 5 "pressed_at") (eC .none)))) (mRet (mP (oE (fun η=>(aN η).bind gL)))) mNx)
    (mSeq (mSet 6 (mP (lA fn_hit_path (aC (eFld 0 "scene") (aC (eV 3) (aC (eV 4) aN))))))
    (mSeq (mPut 0 "pressed_at" (mV 5) (mP (eV 6)))
    (mSeq (mSet 7 (mP (oE (fun η=>(aN η).bind gL))))
    (mSeq (mIf (tPv (bT (l2 (pIsN false) (eFld 5 "held_by") (eC .none)))) (mSeq (mSet 7 (mMeth 0 "lead" fn_Hand__lead (mV 5) (maC (mP (eV 6)) maN)))
    (mPut 0 "held_by" (mV 5) (mP (vIf (bTr (eV 6)) (l2 pIx (eV 6) (l1 pNeg (eC (.int 1)))) (eC .none))))) mNx)
    (mRet (mOp pAdd (mP (eV 7)) (mFz (mMeth 0 "tell_holder" fn_Hand__tell_holder (mV 5) (maC (mP (eC (.str "down"))) maN)))))))))))
set_option maxHeartbeats 4000000 in
theorem ok_Hands__down {k:Nat} (tx:Tx K mg t) {k_Hands__hand_of:Nat} {fn_Hands__hand_of:List D→Sto→Option (D×Sto)} (G_Hands__hand_of:FnOk Pr w K mg base CX0 k_Hands__hand_of t.Hands__hand_of t.d_Hands__hand_of ["self", "hand"] (spM K (cl t) fn_Hands__hand_of)) (hk_Hands__hand_of:k_Hands__hand_of≤k) {k_hit_path:Nat} {fn_hit_path:List PyData→Option PyData} (G_hit_path:FnOk Pr w K mg base CX0 k_hit_path t.hit_path t.d_hit_path ["scene", "x", "y"] (spP K fn_hit_path)) (hk_hit_path:k_hit_path≤k) {k_Hand__lead:Nat} {fn_Hand__lead:List D→Sto→Option (D×Sto)} (G_Hand__lead:FnOk Pr w K mg base CX0 k_Hand__lead t.Hand__lead t.d_Hand__lead ["self", "path"] (spM K (cl t) fn_Hand__lead)) (hk_Hand__lead:k_Hand__lead≤k) {k_Hand__tell_holder:Nat} {fn_Hand__tell_holder:List D→Sto→Option (D×Sto)} (G_Hand__tell_holder:FnOk Pr w K mg base CX0 k_Hand__tell_holder t.Hand__tell_holder t.d_Hand__tell_holder ["self", "word"] (spM K (cl t) fn_Hand__tell_holder)) (hk_Hand__tell_holder:k_Hand__tell_holder≤k):FnOk Pr w K mg base CX0 (k+1) t.Hands__down t.d_Hands__down ["self", "hand", "moment", "x", "y"] (spM K (cl t) (runM 5 8 (g_Hands__down fn_Hands__hand_of fn_hit_path fn_Hand__lead fn_Hand__tell_holder))) :=
  fnM tx.F_Hands__down sc_Hands__down fun _ _ _ _ _ _ hr =>
    (@MSs.cons _ _ _ _ _ _ (MS.set 5 sc_Hands__down.nd (ME.meth (kc:=1) (ME.v 0) tx.cl_Hands tx.me_Hands__hand_of G_Hands__hand_of hr (by omega) tx.b_Hands__hand_of (MA.cons (ME.pu fun _=>(E.v 1)) MA.nil)))
    (@MSs.cons _ _ _ _ _ _ (@MS.ifS _ _ _ _ _ _ _ _ _ (MT.pu fun _=>(T.notN (E.fld 5) E.non)) (@MSs.one _ _ _ _ (MS.ret (ME.pu fun _=>(EO.toE (EO.lst A.nil))))) MSs.nil)
    (@MSs.cons _ _ _ _ _ _ (MS.set 6 sc_Hands__down.nd (ME.pu fun _=>(E.call G_hit_path hr (by omega) tx.m_hit_path tx.F_hit_path.kp tx.b_hit_path (A.cons (E.fld 0) (A.cons (E.v 3) (A.cons (E.v 4) A.nil))))))
    (@MSs.cons _ _ _ _ _ _ (MS.put (k:=0) (ME.v 5) (ME.pu fun _=>(E.v 6)) tx.na_Hand_pressed_at)
    (@MSs.cons _ _ _ _ _ _ (MS.set 7 sc_Hands__down.nd (ME.pu fun _=>(EO.toE (EO.lst A.nil))))
    (@MSs.cons _ _ _ _ _ _ (@MS.ifS _ _ _ _ _ _ _ _ _ (MT.pu fun _=>(T.isN (E.fld 5) E.non)) (@MSs.cons _ _ _ _ _ _ (MS.set 7 sc_Hands__down.nd (ME.meth (kc:=0) (ME.v 5) tx.cl_Hand tx.me_Hand__lead G_Hand__lead hr (by omega) tx.b_Hand__lead (MA.cons (ME.pu fun _=>(E.v 6)) MA.nil)))
    (@MSs.one _ _ _ _ (MS.put (k:=0) (ME.v 5) (ME.pu fun _=>(E.ifE (T.tru (E.v 6)) (E.at (E.v 6) (E.neg E.int)) E.non)) tx.na_Hand_held_by))) MSs.nil)
    (@MSs.one _ _ _ _ (MS.ret (ME.add (ME.pu fun _=>(E.v 7)) (ME.fz (ME.meth (kc:=0) (ME.v 5) tx.cl_Hand tx.me_Hand__tell_holder G_Hand__tell_holder hr (by omega) tx.b_Hand__tell_holder (MA.cons (ME.pu fun _=>E.str) MA.nil))))))))))))
noncomputable abbrev N_Hand__let_go:List Str:=["self", "path", "names"]
theorem sc_Hand__let_go:FnScope ["self", "path", "names"] ["self", "path"] (defScope s_Hand__let_go):=⟨rfl,rfl,rfl,by decide +kernel,rfl,by decide +kernel,by decide +kernel⟩
noncomputable def g_Hand__let_go (fn_shared:List PyData→Option PyData):Wd→Option MOut :=
  (mSeq (mSet 2 (mP (lA fn_shared (aC (eFld 0 "pressed_at") (aC (eV 1) aN)))))
    (mSeq (mPut 0 "pressed_at" (mV 0) (mP (eC .none)))
    (mSeq (mPut 0 "held_by" (mV 0) (mP (eC .none)))
    (mRet (mP (eSl (eV 2) (pS (l1 pNeg (eC (.int 1)))) pN))))))
set_option maxHeartbeats 4000000 in
theorem ok_Hand__let_go {k:Nat} (tx:Tx K mg t) {k_shared:Nat} {fn_shared:List PyData→Option PyData} (G_shared:FnOk Pr w K mg base CX0 k_shared t.shared t.d_shared ["one", "other"] (spP K fn_shared)) (hk_shared:k_shared≤k):FnOk Pr w K mg base CX0 (k+1) t.Hand__let_go t.d_Hand__let_go ["self", "path"] (spM K (cl t) (runM 2 3 (g_Hand__let_go fn_shared))) :=
  fnM tx.F_Hand__let_go sc_Hand__let_go fun _ _ _ _ _ _ hr =>
    (@MSs.cons _ _ _ _ _ _ (MS.set 2 sc_Hand__let_go.nd (ME.pu fun _=>(E.call G_shared hr (by omega) tx.m_shared tx.F_shared.kp tx.b_shared (A.cons (E.fld 0) (A.cons (E.v 1) A.nil)))))
    (@MSs.cons _ _ _ _ _ _ (MS.put (k:=0) (ME.v 0) (ME.pu fun _=>E.non) tx.na_Hand_pressed_at)
    (@MSs.cons _ _ _ _ _ _ (MS.put (k:=0) (ME.v 0) (ME.pu fun _=>E.non) tx.na_Hand_held_by)
    (@MSs.one _ _ _ _ (MS.ret (ME.pu fun _=>(E.sl (E.v 2) (P.some (E.neg E.int)) P.none)))))))
noncomputable abbrev N_Hand__click:List Str:=["self", "name", "moment", "is_soon", "is_double"]
theorem sc_Hand__click:FnScope ["self", "name", "moment", "is_soon", "is_double"] ["self", "name", "moment"] (defScope s_Hand__click):=⟨rfl,rfl,rfl,by decide +kernel,rfl,by decide +kernel,by decide +kernel⟩
noncomputable def g_Hand__click  : Wd→Option MOut :=
  (mSeq (mSet 3 (mP (l2 pLe (l2 pSub (eV 2) (eFld 0 "clicked_moment")) (eC (.int 20)))))
    (mSeq (mSet 4 (mP (vAnd (l2 pEq (eFld 0 "clicked") (eV 1)) (vAnd (eV 3) (vNot (eFld 0 "was_double"))))))
    (mSeq (mPut 0 "clicked" (mV 0) (mP (eV 1)))
    (mSeq (mPut 0 "clicked_moment" (mV 0) (mP (eV 2)))
    (mSeq (mPut 0 "was_double" (mV 0) (mP (eV 4)))
    (mRet (mP (vIf (bTr (eV 4)) (oE (fun η=>((aC (lA (fun ds=>if ds.length≤sizeLine then some (.tuple ds) else none) (aC (eC (.str "click")) (aC (eV 1) aN))) (aC (lA (fun ds=>if ds.length≤sizeLine then some (.tuple ds) else none) (aC (eC (.str "double")) (aC (eV 1) aN))) aN)) η).bind gL)) (oE (fun η=>((aC (lA (fun ds=>if ds.length≤sizeLine then some (.tuple ds) else none) (aC (eC (.str "click")) (aC (eV 1) aN))) aN) η).bind gL))))))))))
set_option maxHeartbeats 4000000 in
theorem ok_Hand__click {k:Nat} (tx:Tx K mg t)  : FnOk Pr w K mg base CX0 (k+1) t.Hand__click t.d_Hand__click ["self", "name", "moment"] (spM K (cl t) (runM 3 5 (g_Hand__click))) :=
  fnM tx.F_Hand__click sc_Hand__click fun _ _ _ _ _ _ hr =>
    (@MSs.cons _ _ _ _ _ _ (MS.set 3 sc_Hand__click.nd (ME.pu fun _=>(E.le (E.sub (E.v 2) (E.fld 0)) (E.globI tx.c_LONGEST_DOUBLE))))
    (@MSs.cons _ _ _ _ _ _ (MS.set 4 sc_Hand__click.nd (ME.pu fun _=>(E.and (E.eq hr (E.fld 0) (E.v 1)) (E.and (E.v 3) (E.one (E.not (E.fld 0)))))))
    (@MSs.cons _ _ _ _ _ _ (MS.put (k:=0) (ME.v 0) (ME.pu fun _=>(E.v 1)) tx.na_Hand_clicked)
    (@MSs.cons _ _ _ _ _ _ (MS.put (k:=0) (ME.v 0) (ME.pu fun _=>(E.v 2)) tx.na_Hand_clicked_moment)
    (@MSs.cons _ _ _ _ _ _ (MS.put (k:=0) (ME.v 0) (ME.pu fun _=>(E.v 4)) tx.na_Hand_was_double)
    (@MSs.one _ _ _ _ (MS.ret (ME.pu fun _=>(E.ifE (T.tru (E.v 4)) (EO.toE (EO.lst (A.cons (E.tup (A.cons E.str (A.cons (E.v 1) A.nil))) (A.cons (E.tup (A.cons E.str (A.cons (E.v 1) A.nil))) A.nil)))) (EO.toE (EO.lst (A.cons (E.tup (A.cons E.str (A.cons (E.v 1) A.nil))) A.nil))))))))))))
noncomputable abbrev N_Hands__up:List Str:=["self", "hand", "moment", "x", "y", "one", "path", "rows", "name"]
theorem sc_Hands__up:FnScope ["self", "hand", "moment", "x", "y", "one", "path", "rows", "name"] ["self", "hand", "moment", "x", "y"] (defScope s_Hands__up):=⟨rfl,rfl,rfl,by decide +kernel,rfl,by decide +kernel,by decide +kernel⟩
noncomputable def g_Hands__up (fn_Hands__hand_of:List D→Sto→Option (D×Sto)) (fn_hit_path:List PyData→Option PyData) (fn_Hand__tell_holder:List D→Sto→Option (D×Sto)) (fn_Hand__let_go:List D→Sto→Option (D×Sto)) (fn_Hand__click:List D→Sto→Option (D×Sto)) (fn_Hand__lead:List D→Sto→Option (D×Sto)):Wd→Option MOut :=
  (mSeq (mSet 5 (mMeth 1 "hand_of" fn_Hands__hand_of (mV 0) (maC (mP (eV 1)) maN)))
    (mSeq (mIf (tPv (bT (l2 (pIsN false) (eFld 5 "pressed_at") (eC .none)))) (mRet (mP (oE (fun η=>(aN η).bind gL)))) mNx)
    (mSeq (mSet 6 (mP (lA fn_hit_path (aC (eFld 0 "scene") (aC (eV 3) (aC (eV 4) aN))))))
    (mSeq (mSet 7 (mMeth 0 "tell_holder" fn_Hand__tell_holder (mV 5) (maC (mP (eC (.str "up"))) maN)))
    (mSeq (mFor [8] (iM (mMeth 0 "let_go" fn_Hand__let_go (mV 5) (maC (mP (eV 6)) maN))) (tgN 8)
    (mExp (mExtC (mV 7) (mMeth 0 "click" fn_Hand__click (mV 5) (maC (mP (eV 8)) (maC (mP (eV 2)) maN))))))
    (mRet (mOp pAdd (mFz (mV 7)) (mMeth 0 "lead" fn_Hand__lead (mV 5) (maC (mP (eV 6)) maN)))))))))
set_option maxHeartbeats 4000000 in
theorem ok_Hands__up {k:Nat} (tx:Tx K mg t) {k_Hands__hand_of:Nat} {fn_Hands__hand_of:List D→Sto→Option (D×Sto)} (G_Hands__hand_of:FnOk Pr w K mg base CX0 k_Hands__hand_of t.Hands__hand_of t.d_Hands__hand_of ["self", "hand"] (spM K (cl t) fn_Hands__hand_of)) (hk_Hands__hand_of:k_Hands__hand_of≤k) {k_hit_path:Nat} {fn_hit_path:List PyData→Option PyData} (G_hit_path:FnOk Pr w K mg base CX0 k_hit_path t.hit_path t.d_hit_path ["scene", "x", "y"] (spP K fn_hit_path)) (hk_hit_path:k_hit_path≤k) {k_Hand__tell_holder:Nat} {fn_Hand__tell_holder:List D→Sto→Option (D×Sto)} (G_Hand__tell_holder:FnOk Pr w K mg base CX0 k_Hand__tell_holder t.Hand__tell_holder t.d_Hand__tell_holder ["self", "word"] (spM K (cl t) fn_Hand__tell_holder)) (hk_Hand__tell_holder:k_Hand__tell_holder≤k) {k_Hand__let_go:Nat} {fn_Hand__let_go:List D→Sto→Option (D×Sto)} (G_Hand__let_go:FnOk Pr w K mg base CX0 k_Hand__let_go t.Hand__let_go t.d_Hand__let_go ["self", "path"] (spM K (cl t) fn_Hand__let_go)) (hk_Hand__let_go:k_Hand__let_go≤k) {k_Hand__click:Nat} {fn_Hand__click:List D→Sto→Option (D×Sto)} (G_Hand__click:FnOk Pr w K mg base CX0 k_Hand__click t.Hand__click t.d_Hand__click ["self", "name", "moment"] (spM K (cl t) fn_Hand__click)) (hk_Hand__click:k_Hand__click≤k) {k_Hand__lead:Nat} {fn_Hand__lead:List D→Sto→Option (D×Sto)} (G_Hand__lead:FnOk Pr w K mg base CX0 k_Hand__lead t.Hand__lead t.d_Hand__lead ["self", "path"] (spM K (cl t) fn_Hand__lead)) (hk_Hand__lead:k_Hand__lead≤k):FnOk Pr w K mg base CX0 (k+1) t.Hands__up t.d_Hands__up ["self", "hand", "moment", "x", "y"] (spM K (cl t) (runM 5 9 (g_Hands__up fn_Hands__hand_of fn_hit_path fn_Hand__tell_holder fn_Hand__let_go fn_Hand__click fn_Hand__lead))) :=
  fnM tx.F_Hands__up sc_Hands__up fun _ _ _ _ _ _ hr =>
    (@MSs.cons _ _ _ _ _ _ (MS.set 5 sc_Hands__up.nd (ME.meth (kc:=1) (ME.v 0) tx.cl_Hands tx.me_Hands__hand_of G_Hands__hand_of hr (by omega) tx.b_Hands__hand_of (MA.cons (ME.pu fun _=>(E.v 1)) MA.nil)))
    (@MSs.cons _ _ _ _ _ _ (@MS.ifS _ _ _ _ _ _ _ _ _ (MT.pu fun _=>(T.isN (E.fld 5) E.non)) (@MSs.one _ _ _ _ (MS.ret (ME.pu fun _=>(EO.toE (EO.lst A.nil))))) MSs.nil)
    (@MSs.cons _ _ _ _ _ _ (MS.set 6 sc_Hands__up.nd (ME.pu fun _=>(E.call G_hit_path hr (by omega) tx.m_hit_path tx.F_hit_path.kp tx.b_hit_path (A.cons (E.fld 0) (A.cons (E.v 3) (A.cons (E.v 4) A.nil))))))
    (@MSs.cons _ _ _ _ _ _ (MS.set 7 sc_Hands__up.nd (ME.meth (kc:=0) (ME.v 5) tx.cl_Hand tx.me_Hand__tell_holder G_Hand__tell_holder hr (by omega) tx.b_Hand__tell_holder (MA.cons (ME.pu fun _=>E.str) MA.nil)))
    (@MSs.cons _ _ _ _ _ _ (@MS.for _ _ _ _ _ _ _ _ _ _ _ PassesOwn.never rfl (MI.list (ME.meth (kc:=0) (ME.v 5) tx.cl_Hand tx.me_Hand__let_go G_Hand__let_go hr (by omega) tx.b_Hand__let_go (MA.cons (ME.pu fun _=>(E.v 6)) MA.nil))) (pg_name (i:=8) sc_Hands__up.nd rfl (by first | exact Or.inl rfl | exact Or.inr rfl) ) (TgP.name (i:=8))
    (@MSs.one _ _ _ _ (MS.exp (ME.extC (ME.v 7) (ME.meth (kc:=0) (ME.v 5) tx.cl_Hand tx.me_Hand__click G_Hand__click hr (by omega) tx.b_Hand__click (MA.cons (ME.pu fun _=>(E.v 8)) (MA.cons (ME.pu fun _=>(E.v 2)) MA.nil)))))) (fun _=>rfl))
    (@MSs.one _ _ _ _ (MS.ret (ME.add (ME.fz (ME.v 7)) (ME.meth (kc:=0) (ME.v 5) tx.cl_Hand tx.me_Hand__lead G_Hand__lead hr (by omega) tx.b_Hand__lead (MA.cons (ME.pu fun _=>(E.v 6)) MA.nil))))))))))
noncomputable abbrev N_law:List Str:=["_law_script", "_law_scene_here", "_law_hands", "_law_moment", "_law_last", "_law_k", "_law_start", "_law_end", "_law_rows", "_law_words", "_law_before", "_law_after", "_law_name", "_law_one", "_law_other", "_law_due"]
theorem sc_law:FnScope ["_law_script", "_law_scene_here", "_law_hands", "_law_moment", "_law_last", "_law_k", "_law_start", "_law_end", "_law_rows", "_law_words", "_law_before", "_law_after", "_law_name", "_law_one", "_law_other", "_law_due"] ["_law_script"] (defScope s_law):=⟨rfl,rfl,rfl,by decide +kernel,rfl,by decide +kernel,by decide +kernel⟩
noncomputable def g_law (fn__law_scene:List PyData→Option PyData) (fn_Hands____init__:List D→Sto→Option (D×Sto)) (fn__law_drawn:List PyData→Option PyData) (fn_Hands__down:List D→Sto→Option (D×Sto)) (fn_Hands__up:List D→Sto→Option (D×Sto)) (fn_hit_path:List PyData→Option PyData) (fn_hit:List PyData→Option PyData):Wd→Option MOut :=
  (mSeq (mSet 1 (mP (lA fn__law_scene (aC (eV 0) (aC (eC (.int 0)) aN)))))
    (mSeq (mSet 2 (mMake 1 fn_Hands____init__ (maC (mP (eV 1)) maN)))
    (mSeq (mSet 3 (mP (eC (.int 0))))
    (mSeq (mSet 4 (mP (eC .none)))
    (mSeq (mFor [5] (iPu (fun η=>((aC (lA pMax (aC (eC (.int 1)) (aC (lA pMin (aC (eC (.int 8)) (aC (lA pLen (aC (eV 0) aN)) aN))) aN))) aN) η).bind rng1)) (tgN 5)
    (mSeq (mSet 6 (mP (lA (fun ds=>if ds.length≤sizeLine then some (.tuple ds) else none) (aC (l2 pSub (lA fn__law_drawn (aC (eV 0) (aC (l2 pAdd (eC (.int 100)) (l2 pMul (eC (.int 9)) (eV 5))) (aC (eC (.int 8)) aN)))) (eC (.int 1))) (aC (l2 pSub (lA fn__law_drawn (aC (eV 0) (aC (l2 pAdd (eC (.int 101)) (l2 pMul (eC (.int 9)) (eV 5))) (aC (eC (.int 8)) aN)))) (eC (.int 1))) aN)))))
    (mSeq (mSet 7 (mP (lA (fun ds=>if ds.length≤sizeLine then some (.tuple ds) else none) (aC (l2 pSub (lA fn__law_drawn (aC (eV 0) (aC (l2 pAdd (eC (.int 102)) (l2 pMul (eC (.int 9)) (eV 5))) (aC (eC (.int 8)) aN)))) (eC (.int 1))) (aC (l2 pSub (lA fn__law_drawn (aC (eV 0) (aC (l2 pAdd (eC (.int 103)) (l2 pMul (eC (.int 9)) (eV 5))) (aC (eC (.int 8)) aN)))) (eC (.int 1))) aN)))))
    (mSeq (mIf (tPv (bT (l2 pEq (lA fn__law_drawn (aC (eV 0) (aC (l2 pAdd (eC (.int 104)) (l2 pMul (eC (.int 9)) (eV 5))) (aC (eC (.int 2)) aN)))) (eC (.int 0))))) (mSet 7 (mP (eV 6))) mNx)
    (mSeq (mSet 3 (mP (l2 pAdd (eV 3) (l2 pIx (eC (.list [(.int 1),(.int 10),(.int 19),(.int 20),(.int 21),(.int 40)])) (lA fn__law_drawn (aC (eV 0) (aC (l2 pAdd (eC (.int 105)) (l2 pMul (eC (.int 9)) (eV 5))) (aC (eC (.int 6)) aN))))))))
    (mSeq (mExp (mMeth 1 "down" fn_Hands__down (mV 2) (maC (mP (eC (.int 0))) (maC (mP (eV 3)) (maC (mP (l2 pIx (eV 6) (eC (.int 0)))) (maC (mP (l2 pIx (eV 6) (eC (.int 1)))) maN))))))
    (mSeq (mSet 8 (mMeth 1 "up" fn_Hands__up (mV 2) (maC (mP (eC (.int 0))) (maC (mP (eV 3)) (maC (mP (l2 pIx (eV 7) (eC (.int 0)))) (maC (mP (l2 pIx (eV 7) (eC (.int 1)))) maN))))))
    (mSeq (mSet 9 (mC (sComp [none] (lI asL (eV 8)) (tgN 0) (bT (l2 (pIn false) (l2 pIx (eV 0) (eC (.int 0))) (lA (fun ds=>if ds.length≤sizeLine then some (.tuple ds) else none) (aC (eC (.str "click")) (aC (eC (.str "double")) aN))))) (eV 0))))
    (mSeq (mSet 10 (mP (lA fn_hit_path (aC (eV 1) (aC (l2 pIx (eV 6) (eC (.int 0))) (aC (l2 pIx (eV 6) (eC (.int 1))) aN))))))
    (mSeq (mSet 11 (mP (lA fn_hit_path (aC (eV 1) (aC (l2 pIx (eV 7) (eC (.int 0))) (aC (l2 pIx (eV 7) (eC (.int 1))) aN))))))
    (mSeq (mSet 12 (mP (eC .none)))
    (mSeq (mFor [13,14] (iPu (lI asL (l2 pRv (lA pZipL (aC (eV 10) (aC (eV 11) aN))) (l1 pNeg (eC (.int 1)))))) (tgT (tgCons (tgN 13) (tgCons (tgN 14) tgNil)))
    (mIf (tPv (bAnd (bT (l2 (pIsN false) (eV 12) (eC .none))) (bT (l2 pEq (eV 13) (eV 14))))) (mSet 12 (mP (eV 13))) mNx))
    (mSeq (mIf (tPv (bT (lch pEq pNe (lA fn_hit (aC (eV 1) (aC (l2 pIx (eV 6) (eC (.int 0))) (aC (l2 pIx (eV 6) (eC (.int 1))) aN)))) (lA fn_hit (aC (eV 1) (aC (l2 pIx (eV 7) (eC (.int 0))) (aC (l2 pIx (eV 7) (eC (.int 1))) aN)))) (eV 12)))) (mRet (mP (eC (.bool false)))) mNx)
    (mSeq (mSet 15 (mN (fun η=>(aN η).bind gL)))
    (mSeq (mIf (tPv (bT (l2 (pIsN true) (eV 12) (eC .none)))) (mSeq (mSet 15 (mN (fun η=>((aC (lA (fun ds=>if ds.length≤sizeLine then some (.tuple ds) else none) (aC (eC (.str "click")) (aC (eV 12) aN))) aN) η).bind gL)))
    (mIf (tPv (bAnd (bT (l2 (pIsN true) (eV 4) (eC .none))) (bAnd (bT (l2 pEq (l2 pIx (eV 4) (eC (.int 0))) (eV 12))) (bT (l2 pLe (l2 pSub (eV 3) (l2 pIx (eV 4) (eC (.int 1)))) (eC (.int 20))))))) (mSeq (mExp (mAppC (mV 15) (mP (lA (fun ds=>if ds.length≤sizeLine then some (.tuple ds) else none) (aC (eC (.str "double")) (aC (eV 12) aN))))))
    (mSet 4 (mP (eC .none)))) (mSet 4 (mP (lA (fun ds=>if ds.length≤sizeLine then some (.tuple ds) else none) (aC (eV 12) (aC (eV 3) aN))))))) mNx)
    (mIf (mB (mOpL pNe (mP (eV 9)) (mV 15))) (mRet (mP (eC (.bool false)))) mNx))))))))))))))))
    (mRet (mP (eC (.bool true)))))))))
set_option maxHeartbeats 4000000 in
theorem ok_law {k:Nat} (tx:Tx K mg t) {k__law_scene:Nat} {fn__law_scene:List PyData→Option PyData} (G__law_scene:FnOk Pr w K mg base CX0 k__law_scene t._law_scene t.d__law_scene ["_law_script", "_law_at"] (spP K fn__law_scene)) (hk__law_scene:k__law_scene≤k) {k_Hands____init__:Nat} {fn_Hands____init__:List D→Sto→Option (D×Sto)} (G_Hands____init__:FnOk Pr w K mg base CX0 k_Hands____init__ t.Hands____init__ t.d_Hands____init__ ["self", "scene"] (spM K (cl t) fn_Hands____init__)) (hk_Hands____init__:k_Hands____init__+1≤k) {k__law_drawn:Nat} {fn__law_drawn:List PyData→Option PyData} (G__law_drawn:FnOk Pr w K mg base CX0 k__law_drawn t._law_drawn t.d__law_drawn ["_law_script", "_law_k", "_law_many"] (spP K fn__law_drawn)) (hk__law_drawn:k__law_drawn≤k) {k_Hands__down:Nat} {fn_Hands__down:List D→Sto→Option (D×Sto)} (G_Hands__down:FnOk Pr w K mg base CX0 k_Hands__down t.Hands__down t.d_Hands__down ["self", "hand", "moment", "x", "y"] (spM K (cl t) fn_Hands__down)) (hk_Hands__down:k_Hands__down≤k) {k_Hands__up:Nat} {fn_Hands__up:List D→Sto→Option (D×Sto)} (G_Hands__up:FnOk Pr w K mg base CX0 k_Hands__up t.Hands__up t.d_Hands__up ["self", "hand", "moment", "x", "y"] (spM K (cl t) fn_Hands__up)) (hk_Hands__up:k_Hands__up≤k) {k_hit_path:Nat} {fn_hit_path:List PyData→Option PyData} (G_hit_path:FnOk Pr w K mg base CX0 k_hit_path t.hit_path t.d_hit_path ["scene", "x", "y"] (spP K fn_hit_path)) (hk_hit_path:k_hit_path≤k) {k_hit:Nat} {fn_hit:List PyData→Option PyData} (G_hit:FnOk Pr w K mg base CX0 k_hit t.hit t.d_hit ["scene", "x", "y"] (spP K fn_hit)) (hk_hit:k_hit≤k):FnOk Pr w K mg base CX0 (k+1) t.law t.d_law ["_law_script"] (spM K (cl t) (runM 1 16 (g_law fn__law_scene fn_Hands____init__ fn__law_drawn fn_Hands__down fn_Hands__up fn_hit_path fn_hit))) :=
  fnM tx.F_law sc_law fun _ _ _ _ _ _ hr =>
    (@MSs.cons _ _ _ _ _ _ (MS.set 1 sc_law.nd (ME.pu fun _=>(E.call G__law_scene hr (by omega) tx.m__law_scene tx.F__law_scene.kp tx.b__law_scene (A.cons (E.v 0) (A.cons E.int A.nil)))))
    (@MSs.cons _ _ _ _ _ _ (MS.set 2 sc_law.nd (ME.make (kc:=1) tx.cl_Hands tx.mk_Hands G_Hands____init__ hr (by omega) tx.mg_Hands tx.b_Hands____init__ (MA.cons (ME.pu fun _=>(E.v 1)) MA.nil)))
    (@MSs.cons _ _ _ _ _ _ (MS.set 3 sc_law.nd (ME.pu fun _=>E.int))
    (@MSs.cons _ _ _ _ _ _ (MS.set 4 sc_law.nd (ME.pu fun _=>E.non))
    (@MSs.cons _ _ _ _ _ _ (@MS.for _ _ _ _ _ _ _ _ _ _ _ PassesOwn.never rfl (MI.pu fun _=>(I.rng1 tx.z_range (A.cons (E.max rfl tx.z_max (A.cons E.int (A.cons (E.min rfl tx.z_min (A.cons E.int (A.cons (E.len tx.z_len (A.cons (E.v 0) A.nil)) A.nil))) A.nil))) A.nil))) (pg_name (i:=5) sc_law.nd rfl (by first | exact Or.inl rfl | exact Or.inr rfl) ) (TgP.name (i:=5))
    (@MSs.cons _ _ _ _ _ _ (MS.set 6 sc_law.nd (ME.pu fun _=>(E.tup (A.cons (E.sub (E.call G__law_drawn hr (by omega) tx.m__law_drawn tx.F__law_drawn.kp tx.b__law_drawn (A.cons (E.v 0) (A.cons (E.add E.int (E.mul E.int (E.v 5))) (A.cons E.int A.nil)))) E.int) (A.cons (E.sub (E.call G__law_drawn hr (by omega) tx.m__law_drawn tx.F__law_drawn.kp tx.b__law_drawn (A.cons (E.v 0) (A.cons (E.add E.int (E.mul E.int (E.v 5))) (A.cons E.int A.nil)))) E.int) A.nil)))))
    (@MSs.cons _ _ _ _ _ _ (MS.set 7 sc_law.nd (ME.pu fun _=>(E.tup (A.cons (E.sub (E.call G__law_drawn hr (by omega) tx.m__law_drawn tx.F__law_drawn.kp tx.b__law_drawn (A.cons (E.v 0) (A.cons (E.add E.int (E.mul E.int (E.v 5))) (A.cons E.int A.nil)))) E.int) (A.cons (E.sub (E.call G__law_drawn hr (by omega) tx.m__law_drawn tx.F__law_drawn.kp tx.b__law_drawn (A.cons (E.v 0) (A.cons (E.add E.int (E.mul E.int (E.v 5))) (A.cons E.int A.nil)))) E.int) A.nil)))))
    (@MSs.cons _ _ _ _ _ _ (@MS.ifS _ _ _ _ _ _ _ _ _ (MT.pu fun _=>(T.eq hr (E.call G__law_drawn hr (by omega) tx.m__law_drawn tx.F__law_drawn.kp tx.b__law_drawn (A.cons (E.v 0) (A.cons (E.add E.int (E.mul E.int (E.v 5))) (A.cons E.int A.nil)))) E.int)) (@MSs.one _ _ _ _ (MS.set 7 sc_law.nd (ME.pu fun _=>(E.v 6)))) MSs.nil)
    (@MSs.cons _ _ _ _ _ _ (MS.set 3 sc_law.nd (ME.pu fun _=>(E.add (E.v 3) (E.at (@E.cst _ _ _ _ rfl) (E.call G__law_drawn hr (by omega) tx.m__law_drawn tx.F__law_drawn.kp tx.b__law_drawn (A.cons (E.v 0) (A.cons (E.add E.int (E.mul E.int (E.v 5))) (A.cons E.int A.nil))))))))
    (@MSs.cons _ _ _ _ _ _ (MS.exp (ME.meth (kc:=1) (ME.v 2) tx.cl_Hands tx.me_Hands__down G_Hands__down hr (by omega) tx.b_Hands__down (MA.cons (ME.pu fun _=>E.int) (MA.cons (ME.pu fun _=>(E.v 3)) (MA.cons (ME.pu fun _=>(E.at (E.v 6) E.int)) (MA.cons (ME.pu fun _=>(E.at (E.v 6) E.int)) MA.nil))))))
    (@MSs.cons _ _ _ _ _ _ (MS.set 8 sc_law.nd (ME.meth (kc:=1) (ME.v 2) tx.cl_Hands tx.me_Hands__up G_Hands__up hr (by omega) tx.b_Hands__up (MA.cons (ME.pu fun _=>E.int) (MA.cons (ME.pu fun _=>(E.v 3)) (MA.cons (ME.pu fun _=>(E.at (E.v 7) E.int)) (MA.cons (ME.pu fun _=>(E.at (E.v 7) E.int)) MA.nil))))))
    (@MSs.cons _ _ _ _ _ _ (@MS.setC _ _ _ _ _ _ _ ["_law_row"] [none] _ _ _ _ _ _ _ 9 _ _ _ rfl sc_law.nd (CompSc.of' N_law (defScope s_law) rfl rfl (by decide +kernel)) (TgP.name (i:=0)) (by decide) (fun _=>(I.list (E.v 8))) (fun _ _ _ _=>⟨(pg_name (i:=0) (show (["_law_row"]:List Str).Nodup by decide +kernel) rfl (Or.inl rfl) (.inr rfl)),(Ts.one (T.in (E.at (E.v 0) E.int) (E.tup (A.cons E.str (A.cons E.str A.nil))))),(E.v 0)⟩) rfl rfl rfl (fun _=>rfl))
    (@MSs.cons _ _ _ _ _ _ (MS.set 10 sc_law.nd (ME.pu fun _=>(E.call G_hit_path hr (by omega) tx.m_hit_path tx.F_hit_path.kp tx.b_hit_path (A.cons (E.v 1) (A.cons (E.at (E.v 6) E.int) (A.cons (E.at (E.v 6) E.int) A.nil))))))
    (@MSs.cons _ _ _ _ _ _ (MS.set 11 sc_law.nd (ME.pu fun _=>(E.call G_hit_path hr (by omega) tx.m_hit_path tx.F_hit_path.kp tx.b_hit_path (A.cons (E.v 1) (A.cons (E.at (E.v 7) E.int) (A.cons (E.at (E.v 7) E.int) A.nil))))))
    (@MSs.cons _ _ _ _ _ _ (MS.set 12 sc_law.nd (ME.pu fun _=>E.non))
    (@MSs.cons _ _ _ _ _ _ (@MS.for _ _ _ _ _ _ _ _ _ _ _ PassesOwn.never rfl (MI.pu fun _=>(I.list (E.slRev (E.listZip hr tx.z_list tx.z_zip (A.cons (E.v 10) (A.cons (E.v 11) A.nil))) (E.neg E.int)))) (pg_tup (n:=2) rfl (pgs_cons (pg_name (i:=13) sc_law.nd rfl (by first | exact Or.inl rfl | exact Or.inr rfl) ) (pgs_cons (pg_name (i:=14) sc_law.nd rfl (by first | exact Or.inl rfl | exact Or.inr rfl) ) pgs_nil))) (TgP.tup (n:=2) (TgsP.cons (TgP.name (i:=13)) (TgsP.cons (TgP.name (i:=14)) TgsP.nil)) (tg_len2))
    (@MSs.one _ _ _ _ (@MS.ifS _ _ _ _ _ _ _ _ _ (MT.pu fun _=>(TW.t (TW.and (T.isN (E.v 12) E.non) (TW.and1 (T.eq hr (E.v 13) (E.v 14)))))) (@MSs.one _ _ _ _ (MS.set 12 sc_law.nd (ME.pu fun _=>(E.v 13)))) MSs.nil)) (fun _=>rfl))
    (@MSs.cons _ _ _ _ _ _ (@MS.ifS _ _ _ _ _ _ _ _ _ (MT.pu fun _=>(T.chain (op_eqD hr.units) ad_eq (op_neD hr.units) ad_ne (E.call G_hit hr (by omega) tx.m_hit tx.F_hit.kp tx.b_hit (A.cons (E.v 1) (A.cons (E.at (E.v 6) E.int) (A.cons (E.at (E.v 6) E.int) A.nil)))) (E.call G_hit hr (by omega) tx.m_hit tx.F_hit.kp tx.b_hit (A.cons (E.v 1) (A.cons (E.at (E.v 7) E.int) (A.cons (E.at (E.v 7) E.int) A.nil)))) (E.v 12))) (@MSs.one _ _ _ _ (MS.ret (ME.pu fun _=>E.bl))) MSs.nil)
    (@MSs.cons _ _ _ _ _ _ (MS.set 15 sc_law.nd (ME.nw fun _=>(EO.lst A.nil)))
    (@MSs.cons _ _ _ _ _ _ (@MS.ifS _ _ _ _ _ _ _ _ _ (MT.pu fun _=>(T.notN (E.v 12) E.non)) (@MSs.cons _ _ _ _ _ _ (MS.set 15 sc_law.nd (ME.nw fun _=>(EO.lst (A.cons (E.tup (A.cons E.str (A.cons (E.v 12) A.nil))) A.nil))))
    (@MSs.one _ _ _ _ (@MS.ifS _ _ _ _ _ _ _ _ _ (MT.pu fun _=>(TW.t (TW.and (T.notN (E.v 4) E.non) (TW.and (T.eq hr (E.at (E.v 4) E.int) (E.v 12)) (TW.and1 (T.le (E.sub (E.v 3) (E.at (E.v 4) E.int)) E.int)))))) (@MSs.cons _ _ _ _ _ _ (MS.exp (ME.appC (ME.v 15) (ME.pu fun _=>(E.tup (A.cons E.str (A.cons (E.v 12) A.nil))))))
    (@MSs.one _ _ _ _ (MS.set 4 sc_law.nd (ME.pu fun _=>E.non)))) (@MSs.one _ _ _ _ (MS.set 4 sc_law.nd (ME.pu fun _=>(E.tup (A.cons (E.v 12) (A.cons (E.v 3) A.nil))))))))) MSs.nil)
    (@MSs.one _ _ _ _ (@MS.ifS _ _ _ _ _ _ _ _ _ (MT.ne hr (ME.pu fun _=>(E.v 9)) (ME.v 15)) (@MSs.one _ _ _ _ (MS.ret (ME.pu fun _=>E.bl))) MSs.nil)))))))))))))))) (fun _=>rfl))
    (@MSs.one _ _ _ _ (MS.ret (ME.pu fun _=>E.bl))))))))
noncomputable def F__law_cell:List PyData→Option PyData:=runF 2 2 (g__law_cell )
theorem G__law_cell (tx:Tx K mg t):FnOk Pr w K mg base CX0 1 t._law_cell t.d__law_cell ["_law_script", "_law_k"] (spP K F__law_cell):=ok__law_cell (k:=0) tx 
noncomputable def F__law_drawn:List PyData→Option PyData:=runF 3 4 (g__law_drawn F__law_cell)
theorem G__law_drawn (tx:Tx K mg t):FnOk Pr w K mg base CX0 2 t._law_drawn t.d__law_drawn ["_law_script", "_law_k", "_law_many"] (spP K F__law_drawn):=ok__law_drawn (k:=1) tx (G__law_cell tx) (by omega)
noncomputable def F__law_scene:List PyData→Option PyData:=runF 2 13 (g__law_scene F__law_drawn)
theorem G__law_scene (tx:Tx K mg t):FnOk Pr w K mg base CX0 3 t._law_scene t.d__law_scene ["_law_script", "_law_at"] (spP K F__law_scene):=ok__law_scene (k:=2) tx (G__law_drawn tx) (by omega)
noncomputable def F_Hands____init__:List D→Sto→Option (D×Sto):=runM 2 2 (g_Hands____init__ )
theorem G_Hands____init__ (tx:Tx K mg t):FnOk Pr w K mg base CX0 1 t.Hands____init__ t.d_Hands____init__ ["self", "scene"] (spM K (cl t) F_Hands____init__):=ok_Hands____init__ (k:=0) tx 
noncomputable def F_Hand____init__:List D→Sto→Option (D×Sto):=runM 1 1 (g_Hand____init__ )
theorem G_Hand____init__ (tx:Tx K mg t):FnOk Pr w K mg base CX0 1 t.Hand____init__ t.d_Hand____init__ ["self"] (spM K (cl t) F_Hand____init__):=ok_Hand____init__ (k:=0) tx 
noncomputable def F_Hands__hand_of:List D→Sto→Option (D×Sto):=runM 2 2 (g_Hands__hand_of F_Hand____init__)
theorem G_Hands__hand_of (tx:Tx K mg t):FnOk Pr w K mg base CX0 3 t.Hands__hand_of t.d_Hands__hand_of ["self", "hand"] (spM K (cl t) F_Hands__hand_of):=ok_Hands__hand_of (k:=2) tx (G_Hand____init__ tx) (by omega)
noncomputable def F_children:List PyData→Option PyData:=runF 2 2 (g_children )
theorem G_children (tx:Tx K mg t):FnOk Pr w K mg base CX0 1 t.children t.d_children ["scene", "name"] (spP K F_children):=ok_children (k:=0) tx 
noncomputable def F_box_of:List PyData→Option PyData:=runF 2 3 (g_box_of )
theorem G_box_of (tx:Tx K mg t):FnOk Pr w K mg base CX0 1 t.box_of t.d_box_of ["scene", "name"] (spP K F_box_of):=ok_box_of (k:=0) tx 
noncomputable def F_below:Nat→List PyData→Option PyData
  | 0=>fun _=>none
  | n+1=>runF 2 4 (g_below F_box_of F_children (F_below n))
theorem G_below (tx:Tx K mg t):∀ n:Nat,FnOk Pr w K mg base CX0 (n+1) t.below t.d_below ["scene", "name"] (spP K (F_below n))
  | 0=>fn0
  | n+1=>(ok_below (k:=n+1) tx (G_box_of tx) (by omega) (G_children tx) (by omega) (G_below tx n) (by omega)).mono (by omega)
noncomputable def F_painted:List PyData→Option PyData:=runF 1 3 (g_painted F_children (F_below 13))
theorem G_painted (tx:Tx K mg t):FnOk Pr w K mg base CX0 15 t.painted t.d_painted ["scene"] (spP K F_painted):=ok_painted (k:=14) tx (G_children tx) (by omega) (G_below tx 13) (by omega)
noncomputable def F_path_of:Nat→List PyData→Option PyData
  | 0=>fun _=>none
  | n+1=>runF 2 3 (g_path_of F_box_of (F_path_of n))
theorem G_path_of (tx:Tx K mg t):∀ n:Nat,FnOk Pr w K mg base CX0 (n+1) t.path_of t.d_path_of ["scene", "name"] (spP K (F_path_of n))
  | 0=>fn0
  | n+1=>(ok_path_of (k:=n+1) tx (G_box_of tx) (by omega) (G_path_of tx n) (by omega)).mono (by omega)
noncomputable def F_has_mark:List PyData→Option PyData:=runF 3 3 (g_has_mark F_box_of)
theorem G_has_mark (tx:Tx K mg t):FnOk Pr w K mg base CX0 2 t.has_mark t.d_has_mark ["scene", "name", "mark"] (spP K F_has_mark):=ok_has_mark (k:=1) tx (G_box_of tx) (by omega)
noncomputable def F_is_shown:List PyData→Option PyData:=runF 2 2 (g_is_shown (F_path_of 13) F_has_mark)
theorem G_is_shown (tx:Tx K mg t):FnOk Pr w K mg base CX0 15 t.is_shown t.d_is_shown ["scene", "name"] (spP K F_is_shown):=ok_is_shown (k:=14) tx (G_path_of tx 13) (by omega) (G_has_mark tx) (by omega)
noncomputable def F_area_of:List PyData→Option PyData:=runF 2 6 (g_area_of (F_path_of 13) F_box_of)
theorem G_area_of (tx:Tx K mg t):FnOk Pr w K mg base CX0 15 t.area_of t.d_area_of ["scene", "name"] (spP K F_area_of):=ok_area_of (k:=14) tx (G_path_of tx 13) (by omega) (G_box_of tx) (by omega)
noncomputable def F_overlap:List PyData→Option PyData:=runF 2 4 (g_overlap )
theorem G_overlap (tx:Tx K mg t):FnOk Pr w K mg base CX0 1 t.overlap t.d_overlap ["one", "other"] (spP K F_overlap):=ok_overlap (k:=0) tx 
noncomputable def F_window_of:List PyData→Option PyData:=runF 2 4 (g_window_of F_area_of (F_path_of 13) F_has_mark F_overlap)
theorem G_window_of (tx:Tx K mg t):FnOk Pr w K mg base CX0 16 t.window_of t.d_window_of ["scene", "name"] (spP K F_window_of):=ok_window_of (k:=15) tx (G_area_of tx) (by omega) (G_path_of tx 13) (by omega) (G_has_mark tx) (by omega) (G_overlap tx) (by omega)
noncomputable def F_takers:List PyData→Option PyData:=runF 1 2 (g_takers F_painted F_is_shown F_has_mark F_window_of)
theorem G_takers (tx:Tx K mg t):FnOk Pr w K mg base CX0 17 t.takers t.d_takers ["scene"] (spP K F_takers):=ok_takers (k:=16) tx (G_painted tx) (by omega) (G_is_shown tx) (by omega) (G_has_mark tx) (by omega) (G_window_of tx) (by omega)
noncomputable def F_has_point:List PyData→Option PyData:=runF 3 3 (g_has_point )
theorem G_has_point (tx:Tx K mg t):FnOk Pr w K mg base CX0 1 t.has_point t.d_has_point ["area", "x", "y"] (spP K F_has_point):=ok_has_point (k:=0) tx 
noncomputable def F_first_at:List PyData→Option PyData:=runF 3 5 (g_first_at F_has_point)
theorem G_first_at (tx:Tx K mg t):FnOk Pr w K mg base CX0 2 t.first_at t.d_first_at ["rows", "x", "y"] (spP K F_first_at):=ok_first_at (k:=1) tx (G_has_point tx) (by omega)
noncomputable def F_hit:List PyData→Option PyData:=runF 3 3 (g_hit F_takers F_first_at)
theorem G_hit (tx:Tx K mg t):FnOk Pr w K mg base CX0 18 t.hit t.d_hit ["scene", "x", "y"] (spP K F_hit):=ok_hit (k:=17) tx (G_takers tx) (by omega) (G_first_at tx) (by omega)
noncomputable def F_hit_path:List PyData→Option PyData:=runF 3 4 (g_hit_path F_hit (F_path_of 13))
theorem G_hit_path (tx:Tx K mg t):FnOk Pr w K mg base CX0 19 t.hit_path t.d_hit_path ["scene", "x", "y"] (spP K F_hit_path):=ok_hit_path (k:=18) tx (G_hit tx) (by omega) (G_path_of tx 13) (by omega)
noncomputable def F_shared:List PyData→Option PyData:=runF 2 5 (g_shared )
theorem G_shared (tx:Tx K mg t):FnOk Pr w K mg base CX0 1 t.shared t.d_shared ["one", "other"] (spP K F_shared):=ok_shared (k:=0) tx 
noncomputable def F_Hand__lead:List D→Sto→Option (D×Sto):=runM 2 4 (g_Hand__lead F_shared)
theorem G_Hand__lead (tx:Tx K mg t):FnOk Pr w K mg base CX0 2 t.Hand__lead t.d_Hand__lead ["self", "path"] (spM K (cl t) F_Hand__lead):=ok_Hand__lead (k:=1) tx (G_shared tx) (by omega)
noncomputable def F_Hand__tell_holder:List D→Sto→Option (D×Sto):=runM 2 2 (g_Hand__tell_holder )
theorem G_Hand__tell_holder (tx:Tx K mg t):FnOk Pr w K mg base CX0 1 t.Hand__tell_holder t.d_Hand__tell_holder ["self", "word"] (spM K (cl t) F_Hand__tell_holder):=ok_Hand__tell_holder (k:=0) tx 
noncomputable def F_Hands__down:List D→Sto→Option (D×Sto):=runM 5 8 (g_Hands__down F_Hands__hand_of F_hit_path F_Hand__lead F_Hand__tell_holder)
theorem G_Hands__down (tx:Tx K mg t):FnOk Pr w K mg base CX0 20 t.Hands__down t.d_Hands__down ["self", "hand", "moment", "x", "y"] (spM K (cl t) F_Hands__down):=ok_Hands__down (k:=19) tx (G_Hands__hand_of tx) (by omega) (G_hit_path tx) (by omega) (G_Hand__lead tx) (by omega) (G_Hand__tell_holder tx) (by omega)
noncomputable def F_Hand__let_go:List D→Sto→Option (D×Sto):=runM 2 3 (g_Hand__let_go F_shared)
theorem G_Hand__let_go (tx:Tx K mg t):FnOk Pr w K mg base CX0 2 t.Hand__let_go t.d_Hand__let_go ["self", "path"] (spM K (cl t) F_Hand__let_go):=ok_Hand__let_go (k:=1) tx (G_shared tx) (by omega)
noncomputable def F_Hand__click:List D→Sto→Option (D×Sto):=runM 3 5 (g_Hand__click )
theorem G_Hand__click (tx:Tx K mg t):FnOk Pr w K mg base CX0 1 t.Hand__click t.d_Hand__click ["self", "name", "moment"] (spM K (cl t) F_Hand__click):=ok_Hand__click (k:=0) tx 
noncomputable def F_Hands__up:List D→Sto→Option (D×Sto):=runM 5 9 (g_Hands__up F_Hands__hand_of F_hit_path F_Hand__tell_holder F_Hand__let_go F_Hand__click F_Hand__lead)
theorem G_Hands__up (tx:Tx K mg t):FnOk Pr w K mg base CX0 20 t.Hands__up t.d_Hands__up ["self", "hand", "moment", "x", "y"] (spM K (cl t) F_Hands__up):=ok_Hands__up (k:=19) tx (G_Hands__hand_of tx) (by omega) (G_hit_path tx) (by omega) (G_Hand__tell_holder tx) (by omega) (G_Hand__let_go tx) (by omega) (G_Hand__click tx) (by omega) (G_Hand__lead tx) (by omega)
noncomputable def F_law:List D→Sto→Option (D×Sto):=runM 1 16 (g_law F__law_scene F_Hands____init__ F__law_drawn F_Hands__down F_Hands__up F_hit_path F_hit)
theorem G_law (tx:Tx K mg t):FnOk Pr w K mg base CX0 21 t.law t.d_law ["_law_script"] (spM K (cl t) F_law):=ok_law (k:=20) tx (G__law_scene tx) (by omega) (G_Hands____init__ tx) (by omega) (G__law_drawn tx) (by omega) (G_Hands__down tx) (by omega) (G_Hands__up tx) (by omega) (G_hit_path tx) (by omega) (G_hit tx) (by omega)
end
end K23
namespace K23
noncomputable def chN (st:List (Nat×Nat)) (q:Nat):List Nat:=(st.filter fun x=>decide (x.2=q)).map (·.1)
noncomputable def parN:List (Nat×Nat)→Nat→Option Nat
  | [],_=>none
  | x::r,q=>if x.1=q then some x.2 else parN r q
noncomputable def catN (f:Nat→Option (List Nat)):List Nat→Option (List Nat)
  | []=>some []
  | x::r=>(f x).bind fun a=>(catN f r).bind fun b=>some (a++b)
noncomputable def pthN (st:List (Nat×Nat)):Nat→Nat→Option (List Nat)
  | 0,_=>none
  | n+1,q=>(parN st q).bind fun p=>if p=0 then some [q] else (pthN st n p).bind fun l=>if l.length+1≤3000000 then some (l++[q]) else none
noncomputable def blwN (st:List (Nat×Nat)):Nat→Nat→Option (List Nat)
  | 0,_=>none
  | n+1,q=>(parN st q).bind fun _=>(catN (blwN st n) (chN st q)).bind fun r=>if r.length+1≤3000000 then some (q::r) else none
noncomputable def pntN (st:List (Nat×Nat)):Option (List Nat):=(catN (blwN st 13) (chN st 0)).bind fun r=>if r.length≤3000000 then some r else none
noncomputable def stF (ps:List Nat):List (Nat×Nat):=(List.range ps.length).map fun i=>(i+1,ps.getD i 0)
noncomputable def par (ps:List Nat) (q:Nat):Nat:=ps.getD (q - 1) 0
structure PsOk (ps:List Nat):Prop where
  len:ps.length≤7
  par:∀ i,ps.getD i 0≤i
noncomputable def pF (ps:List Nat):Nat→Nat→List Nat
  | 0,_=>[]
  | n+1,q=>if q=0 then [] else pF ps n (par ps q)++[q]
noncomputable def P (ps:List Nat) (q:Nat):List Nat:=pF ps q q
noncomputable def blF (st:List (Nat×Nat)):Nat→Nat→List Nat
  | 0,_=>[]
  | n+1,q=>q::(chN st q).flatMap (blF st n)
noncomputable def kids (st:List (Nat×Nat)) (n a:Nat):List Nat:=(chN st a).flatMap (blF st n)
theorem flat_len {α β:Type} {f:α→List β} {b:Nat}:∀ {l:List α},(∀ x∈l,(f x).length≤b)→(l.flatMap f).length≤l.length*b
  | [],_=>by simp
  | x::r,h=>by
    have h1:=h x List.mem_cons_self
    have h2:=flat_len (l:=r) fun y hy=>h y (List.mem_cons_of_mem _ hy)
    rw [List.flatMap_cons,List.length_append,List.length_cons,Nat.add_mul]
    omega
section
variable {ps:List Nat} (ok:PsOk ps)
theorem pF_zero (n:Nat):pF ps n 0=[]:=by
  cases n with
  | zero=>rfl
  | succ n=>rfl
theorem par_lt (ok:PsOk ps) {q:Nat} (h:1≤q):par ps q < q:=by
  have:=ok.par (q - 1)
  unfold par
  omega
include ok
theorem pF_st:∀ q n,q≤n→pF ps n q=pF ps q q:=by
  intro q
  induction q using Nat.strongRecOn with
  | _ q ih =>
    intro n hn
    cases q with
    | zero=>rw [pF_zero,pF_zero]
    | succ j =>
      cases n with
      | zero=>omega
      | succ m =>
        have hp:=par_lt ok (q:=j+1) (by omega)
        unfold pF
        rw [if_neg (by omega),if_neg (by omega),ih _ hp m (by omega),ih _ hp j (by omega)]
theorem P_succ {q:Nat} (h:1≤q):P ps q=P ps (par ps q)++[q]:=by
  obtain ⟨j,rfl⟩:∃ j,q=j+1:=⟨q - 1,by omega⟩
  have hp:=par_lt ok (q:=j+1) h
  unfold P
  rw [pF,if_neg (by omega),pF_st ok _ j (by omega)]
omit ok in
theorem pF_len:∀ n q,(pF ps n q).length≤n
  | 0,_=>by simp [pF]
  | n+1,q=>by
    have:=pF_len n (par ps q)
    unfold pF
    split
    · simp
    · simp; omega
omit ok in
theorem st_mem {x:Nat×Nat} (h:x∈stF ps):1≤x.1∧x.1≤ps.length∧x.2=par ps x.1:=by
  obtain ⟨i,hi,rfl⟩:=List.mem_map.mp h
  have:=List.mem_range.mp hi
  refine ⟨by simp,by show i+1≤_; omega,?_⟩
  show _=ps.getD (i+1 - 1) 0
  rfl
omit ok in
theorem mem_st {q:Nat} (h1:1≤q) (h2:q≤ps.length):(q,par ps q)∈stF ps:=by
  refine List.mem_map.mpr ⟨q - 1,List.mem_range.mpr (by omega),?_⟩
  unfold par
  rw [show q - 1+1=q by omega]
omit ok in
theorem parN_of {q p:Nat}:∀ {st:List (Nat×Nat)},(∀ y∈st,y.1=q→y.2=p)→(q,p)∈st→parN st q=some p
  | x::r,hu,hm=>by
    unfold parN
    by_cases e:x.1=q
    · rw [if_pos e,hu x List.mem_cons_self e]
    · rw [if_neg e]
      rcases List.mem_cons.mp hm with z | z
      · exact absurd (by rw [← z]) e
      · exact parN_of (fun y hy=>hu y (List.mem_cons_of_mem _ hy)) z
omit ok in
theorem parN_st {q:Nat} (h1:1≤q) (h2:q≤ps.length):parN (stF ps) q=some (par ps q) :=
  parN_of (fun y hy e=>by rw [(st_mem hy).2.2,e]) (mem_st h1 h2)
theorem pthN_eq:∀ n q,n≤13→1≤q→q≤ps.length→q≤n→pthN (stF ps) n q=some (pF ps n q)
  | 0,q,_,h1,_,h3=>by omega
  | n+1,q,hn,h1,h2,h3=>by
    have hp:=par_lt ok h1
    unfold pthN pF
    rw [parN_st h1 h2,Option.bind_some,if_neg (show ¬ q=0 by omega)]
    by_cases e:par ps q=0
    · rw [if_pos e,e,pF_zero]; rfl
    · rw [if_neg e,pthN_eq n _ (by omega) (by omega) (by omega) (by omega),Option.bind_some]
      have:=pF_len (ps:=ps) n (par ps q)
      rw [if_pos (by omega)]
theorem path_eq {q:Nat} (h1:1≤q) (h2:q≤ps.length):pthN (stF ps) 13 q=some (P ps q):=by
  have:=ok.len
  rw [pthN_eq ok 13 q (by omega) h1 h2 (by omega),pF_st ok q 13 (by omega)]; rfl
theorem ch_mem {a x:Nat} (h:x∈chN (stF ps) a):1≤x∧x≤ps.length∧par ps x=a∧a < x:=by
  obtain ⟨y,hy,rfl⟩:=List.mem_map.mp h
  obtain ⟨h1,h2⟩:=List.mem_filter.mp hy
  have h3:=st_mem h1
  have h4:=par_lt ok h3.1
  have h5:y.2=a:=by simpa using h2
  exact ⟨h3.1,h3.2.1,by rw [← h3.2.2,h5],by rw [← h5,h3.2.2]; exact h4⟩
theorem ch_len (a:Nat):(chN (stF ps) a).length≤7:=by
  unfold chN
  rw [List.length_map]
  refine Nat.le_trans (List.length_filter_le ..) ?_
  unfold stF
  rw [List.length_map,List.length_range]
  exact ok.len
omit ok in
theorem catN_eq {f:Nat→Option (List Nat)} {g:Nat→List Nat}:∀ {xs:List Nat},(∀ x∈xs,f x=some (g x))→catN f xs=some (xs.flatMap g)
  | [],_=>rfl
  | x::r,h=>by
    unfold catN
    rw [h x List.mem_cons_self,Option.bind_some,catN_eq fun y hy=>h y (List.mem_cons_of_mem _ hy)]
    simp
theorem blF_len:∀ n q,1≤q→q≤ps.length→ps.length < n+q→(blF (stF ps) n q).length≤8 ^ (ps.length - q)
  | 0,q,_,h2,h3=>by omega
  | n+1,q,h1,h2,h3=>by
    unfold blF
    rw [List.length_cons]
    by_cases e:q=ps.length
    · have:(chN (stF ps) q)=[]:=by
        rw [List.eq_nil_iff_forall_not_mem]
        intro x hx
        have:=ch_mem ok hx
        omega
      rw [this,e]; simp
    · obtain ⟨k,hk⟩:∃ k,ps.length - q=k+1:=⟨ps.length - q - 1,by omega⟩
      have h4:=flat_len (f:=blF (stF ps) n) (b:=8 ^ k) (l:=chN (stF ps) q) fun x hx=>by
        have hm:=ch_mem ok hx
        exact Nat.le_trans (blF_len n x hm.1 hm.2.1 (by omega)) (Nat.pow_le_pow_right (by decide) (by omega))
      have h5:=ch_len ok q
      have h6:(chN (stF ps) q).length*8 ^ k≤7*8 ^ k:=Nat.mul_le_mul_right _ h5
      have h7:0 < 8 ^ k:=Nat.pow_pos (by decide)
      rw [hk,Nat.pow_succ]
      omega
theorem pow_lim {q:Nat} (h1:1≤q):8 ^ (ps.length - q)≤262144:=by
  have:=ok.len
  exact Nat.le_trans (Nat.pow_le_pow_right (by decide) (show ps.length - q≤6 by omega)) (by decide)
theorem blwN_eq:∀ n q,1≤q→q≤ps.length→ps.length < n+q→blwN (stF ps) n q=some (blF (stF ps) n q)
  | 0,q,_,h2,h3=>by omega
  | n+1,q,h1,h2,h3=>by
    have hl:=blF_len ok (n+1) q h1 h2 h3
    unfold blF at hl
    rw [List.length_cons] at hl
    have hp:=pow_lim ok h1
    unfold blwN blF
    rw [parN_st h1 h2,Option.bind_some,catN_eq (g:=blF (stF ps) n) fun x hx=>blwN_eq n x (ch_mem ok hx).1 (ch_mem ok hx).2.1 (by have:=ch_mem ok hx; omega),Option.bind_some,if_pos (by omega)]
theorem kids_len:(kids (stF ps) 13 0).length≤3000000:=by
  have:=ok.len
  have h4:=flat_len (f:=blF (stF ps) 13) (b:=262144) (l:=chN (stF ps) 0) fun x hx=>Nat.le_trans (blF_len ok 13 x (ch_mem ok hx).1 (ch_mem ok hx).2.1 (by omega)) (pow_lim ok (ch_mem ok hx).1)
  have h5:=ch_len ok 0
  unfold kids
  omega
theorem pnt_eq:pntN (stF ps)=some (kids (stF ps) 13 0):=by
  have:=ok.len
  have hl:=kids_len ok
  unfold kids at hl
  unfold pntN
  rw [catN_eq (g:=blF (stF ps) 13) fun x hx=>blwN_eq ok 13 x (ch_mem ok hx).1 (ch_mem ok hx).2.1 (by have:=ch_mem ok hx; omega),Option.bind_some,if_pos hl]
  rfl
theorem kids_mem {x n a:Nat} (h:x∈kids (stF ps) n a):1≤x∧x≤ps.length:=by
  induction n generalizing a x with
  | zero =>
    obtain ⟨y,_,hy⟩:=List.mem_flatMap.mp h
    cases hy
  | succ n ih =>
    obtain ⟨y,hy,hx⟩:=List.mem_flatMap.mp h
    rcases List.mem_cons.mp hx with rfl | z
    · exact ⟨(ch_mem ok hy).1,(ch_mem ok hy).2.1⟩
    · exact ih z
end
noncomputable abbrev Ar:=Int×Int×Int×Int
noncomputable abbrev Row:=Nat×Ar×List Ar
structure Geo where
  L:Nat→Int
  T:Nat→Int
  W:Nat→Int
  H:Nat→Int
  c:Nat→Bool
  h:Nat→Bool
  l:Nat→Bool
noncomputable def Geo.at (g:Geo) (l t:Int) (x:Nat):Ar:=(l+g.L x,t+g.T x,l+g.L x+g.W x,t+g.T x+g.H x)
noncomputable def spF (g:Geo) (st:List (Nat×Nat)):Nat→Nat→Int→Int→List Ar→List Row
  | 0,_,_,_,_=>[]
  | n+1,a,l,t,cu=>(chN st a).flatMap fun x=>if g.h x=true then [] else (x,g.at l t x,cu++[g.at l t x])::spF g st n x (l+g.L x) (t+g.T x) (cu++if g.c x=true then [g.at l t x] else [])
section
variable (g:Geo) (ps:List Nat)
noncomputable def Geo.sL (q:Nat):Int:=((P ps q).map g.L).sum
noncomputable def Geo.sT (q:Nat):Int:=((P ps q).map g.T).sum
noncomputable def Geo.area (q:Nat):Ar:=(g.sL ps q,g.sT ps q,g.sL ps q+g.W q,g.sT ps q+g.H q)
noncomputable def Geo.cuts (a:Nat):List Ar:=((P ps a).filter g.c).map (g.area ps)
noncomputable def Geo.shown (q:Nat):Bool:=(P ps q).all fun x=>!g.h x
noncomputable def Geo.row (x:Nat):Row:=(x,g.area ps x,g.cuts ps (par ps x)++[g.area ps x])
end
section
variable {g:Geo} {ps:List Nat} (ok:PsOk ps)
include ok
theorem cuts_ch {x:Nat} (h:1≤x):g.cuts ps x=g.cuts ps (par ps x)++if g.c x=true then [g.area ps x] else []:=by
  unfold Geo.cuts
  rw [P_succ ok h,List.filter_append,List.map_append]
  congr 1
  cases hc:g.c x <;> simp [hc]
end
noncomputable def hasP (a:Ar) (x y:Int):Bool:=decide (a.1≤x)&&decide (x < a.2.2.1)&&(decide (a.2.1≤y)&&decide (y < a.2.2.2))
noncomputable def ovl (a b:Ar):Ar:=(max a.1 b.1,max a.2.1 b.2.1,min a.2.2.1 b.2.2.1,min a.2.2.2 b.2.2.2)
theorem and4:∀ a b c d:Bool,((a&&b)&&(c&&d))=((a&&c)&&(b&&d)):=by decide
theorem hasP_ovl (a b:Ar) (x y:Int):hasP (ovl a b) x y=(hasP a x y&&hasP b x y):=by
  have h1:∀ p q r:Int,decide (max p q≤r)=(decide (p≤r)&&decide (q≤r)):=fun p q r=>by
    rw [Bool.eq_iff_iff,Bool.and_eq_true,decide_eq_true_eq,decide_eq_true_eq,decide_eq_true_eq]
    exact Int.max_le
  have h2:∀ p q r:Int,decide (r < min p q)=(decide (r < p)&&decide (r < q)):=fun p q r=>by
    rw [Bool.eq_iff_iff,Bool.and_eq_true,decide_eq_true_eq,decide_eq_true_eq,decide_eq_true_eq]
    exact Int.lt_min
  unfold hasP ovl
  dsimp only
  rw [h1,h1,h2,h2,and4 (decide (a.1≤x)),and4 (decide (a.2.1≤y)),and4]
noncomputable def wndL (g:Geo) (ps:List Nat):List Nat→Ar→Ar
  | [],w=>w
  | s::r,w=>wndL g ps r (if g.c s=true then ovl w (g.area ps s) else w)
noncomputable def Geo.wnd (g:Geo) (ps:List Nat) (q:Nat):Ar:=wndL g ps (P ps q) (g.area ps q)
theorem wndL_has (g:Geo) (ps:List Nat) (x y:Int):∀ l w,hasP (wndL g ps l w) x y=(hasP w x y&&((l.filter g.c).map (g.area ps)).all fun a=>hasP a x y)
  | [],w=>by simp [wndL]
  | s::r,w=>by
    unfold wndL
    rw [wndL_has g ps x y r,List.filter_cons]
    cases hc:g.c s with
    | false=>rfl
    | true =>
      rw [if_pos rfl,if_pos rfl,hasP_ovl,List.map_cons,List.all_cons,Bool.and_assoc]
noncomputable def Geo.tch (g:Geo) (ps:List Nat) (x y:Int) (q:Nat):Bool:=(g.row ps q).2.2.all fun a=>hasP a x y
theorem wnd_has {g:Geo} {ps:List Nat} (ok:PsOk ps) {q:Nat} (h:1≤q) (x y:Int):hasP (g.wnd ps q) x y=g.tch ps x y q:=by
  unfold Geo.wnd Geo.tch Geo.row
  rw [wndL_has]
  show (_&&(g.cuts ps q).all _)=_
  rw [cuts_ch ok h,List.all_append]
  dsimp only
  rw [List.all_append]
  generalize (g.cuts ps (par ps q)).all (fun a=>hasP a x y)=u
  cases g.c q
  · simp [Bool.and_comm]
  · cases h2:hasP (g.area ps q) x y <;> simp [h2]
noncomputable def Geo.hits (g:Geo) (ps:List Nat) (x y:Int):List Nat:=(((kids (stF ps) 13 0).reverse.filter (g.shown ps)).filter fun q=>!g.l q).filter (g.tch ps x y)
noncomputable def cutN (st:List (Nat×Nat)) (q:Nat):Option (List (Nat×Nat)):=(blwN st 13 q).bind fun g=>some (st.filter fun x=>!decide (x.1∈g))
noncomputable def raiN (st:List (Nat×Nat)) (q:Nat):Option (List (Nat×Nat)):=(blwN st 13 q).bind fun g=>some (st.filter (fun x=>!decide (x.1∈g))++st.filter fun x=>decide (x.1∈g))
noncomputable def okPath (ps:List Nat) (st':List (Nat×Nat)) (gone:List Nat):Bool:=(List.range ps.length).all fun i=>decide (i+1∈gone)||(decide (pthN st' 13 (i+1)=some (P ps (i+1)))&&(decide (parN st' (i+1)=some (par ps (i+1)))&&(P ps (i+1)).all fun x=>!decide (x∈gone)))
noncomputable def pntF (ps:List Nat):List Nat:=kids (stF ps) 13 0
noncomputable def okSt09 (ps:List Nat) (st':List (Nat×Nat)) (pnt' inner gone:List Nat) (q:Nat):Bool:=decide (st'.length≤12)&&(decide (pntN st'=some pnt')&&(decide (blwN st' 13 q=some inner)&&(okPath ps st' gone&&inner.all fun x=>!decide (x∈gone))))
noncomputable def allPs:Nat→List (List Nat)
  | 0=>[[]]
  | n+1=>(allPs n).flatMap fun ps=>(List.range (n+1)).map fun p=>ps++[p]
noncomputable abbrev In (ps:List Nat) (q:Nat):Prop:=1≤q∧q≤ps.length
theorem P_in' {ps:List Nat} (ok:PsOk ps) {x:Nat}:∀ q,In ps q→x∈P ps q→In ps x:=by
  intro q
  induction q using Nat.strongRecOn with
  | _ q ih =>
    intro hq hx
    rw [P_succ ok hq.1] at hx
    rcases List.mem_append.mp hx with z | z
    · have hp:=par_lt ok hq.1
      by_cases e:par ps q=0
      · rw [e] at z
        cases z
      · exact ih _ hp ⟨by omega,by have:=hq.2; omega⟩ z
    · have:x=q:=by simpa using z
      rw [this]; exact hq
theorem kids_2 {ps:List Nat} (ok:PsOk ps):(pntF ps).length≤2000000:=by
  have:=ok.len
  have h4:=flat_len (f:=blF (stF ps) 13) (b:=262144) (l:=chN (stF ps) 0) fun x hx=>Nat.le_trans (blF_len ok 13 x (ch_mem ok hx).1 (ch_mem ok hx).2.1 (by omega)) (pow_lim ok (ch_mem ok hx).1)
  have h5:=ch_len ok 0
  unfold pntF kids
  omega
noncomputable def tkL (g:Geo) (ps pnt:List Nat):List Nat:=(pnt.reverse.filter (g.shown ps)).filter fun q=>!g.l q
noncomputable def hitL (g:Geo) (ps pnt:List Nat) (x y:Int):List Nat:=(tkL g ps pnt).filter (g.tch ps x y)
end K23
namespace K23
open PySem L2 L2.PU
theorem cGo_map {ι:Type} {t:En→PyData→Option En} {p:En→Option Bool} {f:En→Option PyData} {η:En} (D:ι→PyData) (P:ι→Bool) (Y:ι→PyData) :
    ∀ xs:List ι,(∀ x∈xs,∃ η1,t η (D x)=some η1∧p η1=some (P x)∧(P x=true→f η1=some (Y x)))→cGo t p f η (xs.map D)=some ((xs.filter P).map Y)
  | [],_=>rfl
  | x::r,h=>by
    obtain ⟨η1,h1,h2,h3⟩:=h x List.mem_cons_self
    have ih:=cGo_map D P Y r fun y hy=>h y (List.mem_cons_of_mem _ hy)
    rw [List.map_cons]
    unfold cGo
    rw [h1,Option.bind_some,h2,Option.bind_some,ih,List.filter_cons]
    cases hP:P x with
    | false=>rfl
    | true=>rw [if_pos rfl,h3 hP]; rfl
structure Sc where
  st:List (Nat×Nat)
  nm:Nat→Str
  L:Nat→Int
  T:Nat→Int
  W:Nat→Int
  H:Nat→Int
  mr:Nat→Str
structure Sc.Ok (c:Sc):Prop where
  inj:∀ a b,c.nm a=c.nm b→a=b
  top:c.nm 0 = ""
  ok:∀ a,PyData.strOk (c.nm a)=true
  okm:∀ a,PyData.strOk (c.mr a)=true
  len:c.st.length≤12
noncomputable def Sc.box (c:Sc) (x:Nat×Nat):PyData:=.tuple [.str (c.nm x.1),.str (c.nm x.2),.int (c.L x.1),.int (c.T x.1),.int (c.W x.1),.int (c.H x.1),.str (c.mr x.1)]
noncomputable def Sc.d (c:Sc):PyData:=.tuple (c.st.map c.box)
noncomputable def Sc.s (c:Sc) (q:Nat):PyData:=.str (c.nm q)
noncomputable def Sc.S (c:Sc) (l:List Nat):PyData:=.list (l.map c.s)
theorem str_dec (a b:Str):(a==b)=decide (a=b):=rfl
theorem shaped_str {a:Str} (h:PyData.strOk a=true):SeqAt.shaped (.str a)=true:=by
  simp [SeqAt.shaped,PyData.canLay0,PyData.depth,h]
theorem pEq_str {a b:Str} (ha:PyData.strOk a=true) (hb:PyData.strOk b=true):pEq (.str a) (.str b)=some (.bool (decide (a=b))):=by
  unfold pEq
  rw [if_pos ⟨shaped_str ha,shaped_str hb⟩]
  simp [PyData.eqv,str_dec]
theorem pNe_str {a b:Str} (ha:PyData.strOk a=true) (hb:PyData.strOk b=true):pNe (.str a) (.str b)=some (.bool (!decide (a=b))):=by
  unfold pNe
  rw [if_pos ⟨shaped_str ha,shaped_str hb⟩]
  simp [PyData.eqv,str_dec]
section
variable {c:Sc} (h:c.Ok)
include h
theorem Sc.Ok.dec (a b:Nat):decide (c.nm a=c.nm b)=decide (a=b):=by
  by_cases e:a=b
  · subst e; simp
  · have:¬ c.nm a=c.nm b:=fun z=>e (h.inj _ _ z)
    rw [decide_eq_false this,decide_eq_false e]
theorem Sc.Ok.eqs (a b:Nat):pEq (c.s a) (c.s b)=some (.bool (decide (a=b))):=by
  unfold Sc.s
  rw [pEq_str (h.ok a) (h.ok b),h.dec]
theorem Sc.Ok.eq0 (a:Nat):pEq (c.s a) (.str "")=some (.bool (decide (a=0))):=by
  have:=h.eqs a 0
  unfold Sc.s at this ⊢
  rw [h.top] at this
  exact this
end
end K23
namespace K23
open PySem L2 L2.PU
theorem big {n:Nat} (h:n≤3000000):n≤sizeLine:=Nat.le_trans h (by show 3000000≤2 ^ 24; decide)
section
variable {c:Sc} (h:c.Ok)
include h
theorem size_d:(c.st.map c.box).length≤sizeLine:=by
  rw [List.length_map]
  exact big (Nat.le_trans h.len (by decide))
theorem F_children_eq (q:Nat):F_children [c.d,c.s q]=some (c.S (chN c.st q)):=by
  unfold F_children runF
  rw [if_pos (by rfl)]
  show (g_children [.val c.d,.val (c.s q)]).bind _=_
  have e:cGo (tgN 0) (bT (l2 pEq (l2 pIx (eV 0) (eC (.int 1))) (eV 1))) (l2 pIx (eV 0) (eC (.int 0))) [.un,.val (c.s q)] (c.st.map c.box)=some ((c.st.filter fun x=>decide (x.2=q)).map fun x=>c.s x.1):=by
    refine cGo_map c.box (fun x=>decide (x.2=q)) (fun x=>c.s x.1) _ fun x _=>⟨_,rfl,?_,fun _=>rfl⟩
    show (pEq (c.s x.2) (c.s q)).bind asB=_
    rw [h.eqs]; rfl
  have e2:sComp [none,some 1] (lI asTu (eV 0)) (tgN 0) (bT (l2 pEq (l2 pIx (eV 0) (eC (.int 1))) (eV 1))) (l2 pIx (eV 0) (eC (.int 0))) [.val c.d,.val (c.s q)]=some ((c.st.filter fun x=>decide (x.2=q)).map fun x=>c.s x.1):=by
    show (if (c.st.map c.box).length≤sizeLine then cGo _ _ _ _ _ else none)=_
    rw [if_pos (size_d h)]
    exact e
  unfold g_children sRet oE
  rw [e2]
  show some (PyData.list _)=some (PyData.list _)
  unfold chN
  rw [List.map_map]; rfl
theorem box_go (q p:Nat):∀ (l:List (Nat×Nat)),parN l q=some p→∀ s:Sl,sGo (tgN 2) (sIf (bT (l2 pEq (l2 pIx (eV 2) (eC (.int 0))) (eV 1))) (sRet (eV 2)) sNx) (l.map c.box) [.val c.d,.val (c.s q),s]=some (.rt (c.box (q,p)))
  | x::r,hm,s=>by
    rw [List.map_cons]
    unfold sGo
    have et:tgN 2 [.val c.d,.val (c.s q),s] (c.box x)=some [.val c.d,.val (c.s q),.val (c.box x)]:=rfl
    rw [et,Option.bind_some]
    have eb:(bT (l2 pEq (l2 pIx (eV 2) (eC (.int 0))) (eV 1))) [.val c.d,.val (c.s q),.val (c.box x)]=some (decide (x.1=q)):=by
      show (pEq (c.s x.1) (c.s q)).bind asB=_
      rw [h.eqs]; rfl
    unfold sIf
    rw [eb,Option.bind_some]
    unfold parN at hm
    by_cases e:x.1=q
    · rw [if_pos e] at hm
      cases hm
      rw [if_pos (by simpa using e)]
      subst e
      rfl
    · rw [if_neg e] at hm
      rw [if_neg (by simpa using e)]
      show sGo _ _ (r.map c.box) _=_
      exact box_go q p r hm _
theorem F_box_eq {q p:Nat} (h1:parN c.st q=some p):F_box_of [c.d,c.s q]=some (c.box (q,p)):=by
  unfold F_box_of runF
  rw [if_pos (by rfl)]
  show (g_box_of [.val c.d,.val (c.s q),.un]).bind _=_
  have e2:sFor (lI asTu (eV 0)) (tgN 2) (sIf (bT (l2 pEq (l2 pIx (eV 2) (eC (.int 0))) (eV 1))) (sRet (eV 2)) sNx) [.val c.d,.val (c.s q),.un]=some (.rt (c.box (q,p))):=box_go h q p c.st h1 .un
  unfold g_box_of sSeq
  rw [e2]; rfl
theorem F_path_eq:∀ (n q:Nat) (l:List Nat),pthN c.st n q=some l→F_path_of n [c.d,c.s q]=some (c.S l)
  | n+1,q,l,e=>by
    unfold pthN at e
    obtain ⟨p,hq,e⟩:=bind_some e
    · unfold F_path_of runF
      rw [if_pos (by rfl)]
      show (g_path_of F_box_of (F_path_of n) [.val c.d,.val (c.s q),.un]).bind _=_
      have eb:=F_box_eq h hq
      have e1:sSet 2 (l2 pIx (lA F_box_of (aC (eV 0) (aC (eV 1) aN))) (eC (.int 1))) [.val c.d,.val (c.s q),.un]=some (.nx [.val c.d,.val (c.s q),.val (c.s (p))]):=by
        show ((F_box_of [c.d,c.s q]).bind fun x=>_).bind _=_
        rw [eb]; rfl
      have e2:(bT (l2 pEq (eV 2) (eC (.str "")))) [.val c.d,.val (c.s q),.val (c.s (p))]=some (decide (p=0)):=by
        show (pEq (c.s (p)) (.str "")).bind asB=_
        rw [h.eq0]; rfl
      unfold g_path_of sSeq
      rw [e1,Option.bind_some]
      show Option.bind (Option.bind (sIf _ _ _ _) _) _=_
      unfold sIf
      rw [e2,Option.bind_some]
      split at e
      · rename_i h0
        cases e
        rw [if_pos (by simpa using h0)]
        rfl
      · rename_i h0
        rw [if_neg (by simpa using h0)]
        obtain ⟨m,hm,e⟩:=bind_some e
        split at e
        · rename_i hl
          cases e
          have ih:=F_path_eq n _ m hm
          show Option.bind (sRet _ _) _=_
          have e3:sRet (l2 pAdd (lA (F_path_of n) (aC (eV 0) (aC (eV 2) aN))) (oE (fun η=>((aC (eV 1) aN) η).bind gL))) [.val c.d,.val (c.s q),.val (c.s (p))]=some (.rt (c.S (m++[q]))):=by
            show (((F_path_of n) [c.d,c.s (p)]).bind fun x=>(oE _ _).bind fun y=>pAdd x y).bind _=_
            rw [ih,Option.bind_some]
            show ((pAdd (c.S m) (.list [c.s q])).bind _)=_
            unfold Sc.S pAdd
            dsimp only
            rw [if_pos (by rw [List.length_map]; exact big hl)]
            simp [Sc.S]
          rw [e3]; rfl
        · cases e
theorem below_go {F:List PyData→Option PyData} {f:Nat→Option (List Nat)} (hF:∀ x l,f x=some l→F [c.d,c.s x]=some (c.S l)) (q:Nat) :
    ∀ (xs r:List Nat),catN f xs=some r→∀ (done:List Nat) (s3:Sl),done.length+r.length≤3000000→∃ s3',sGo (tgN 3) (sExt 2 (lI asL (lA F (aC (eV 0) (aC (eV 3) aN))))) (xs.map c.s) [.val c.d,.val (c.s q),.own (done.map c.s),s3]=some (.nx [.val c.d,.val (c.s q),.own ((done++r).map c.s),s3'])
  | [],r,e,done,s3,_=>by
    cases e
    exact ⟨s3,by rw [List.append_nil]; rfl⟩
  | x::xs,r,e,done,s3,hl=>by
    obtain ⟨a,ea,e⟩:=bind_some e
    obtain ⟨b,eb,e⟩:=bind_some e
    cases e
    rw [List.length_append] at hl
    obtain ⟨s3',ih⟩:=below_go hF q xs b eb (done++a) (.val (c.s x)) (by rw [List.length_append]; omega)
    refine ⟨s3',?_⟩
    have e1:sExt 2 (lI asL (lA F (aC (eV 0) (aC (eV 3) aN)))) [.val c.d,.val (c.s q),.own (done.map c.s),.val (c.s x)]=some (.nx [.val c.d,.val (c.s q),.own ((done++a).map c.s),.val (c.s x)]):=by
      show Option.bind (Option.bind (F [c.d,c.s x]) asL) _=_
      rw [hF x a ea]
      show (if (done.map c.s).length+(a.map c.s).length≤sizeLine then _ else _)=_
      rw [if_pos (by rw [List.length_map,List.length_map]; exact big (by omega)),List.map_append]
      rfl
    rw [List.map_cons]
    unfold sGo
    show Option.bind (sExt 2 _ [.val c.d,.val (c.s q),.own (done.map c.s),.val (c.s x)]) _=_
    rw [e1,Option.bind_some]
    show sGo _ _ _ _=_
    rw [ih,List.append_assoc]
theorem paint_go {F:List PyData→Option PyData} {f:Nat→Option (List Nat)} (hF:∀ x l,f x=some l→F [c.d,c.s x]=some (c.S l)) :
    ∀ (xs r:List Nat),catN f xs=some r→∀ (done:List Nat) (s3:Sl),done.length+r.length≤3000000→∃ s3',sGo (tgN 2) (sExt 1 (lI asL (lA F (aC (eV 0) (aC (eV 2) aN))))) (xs.map c.s) [.val c.d,.own (done.map c.s),s3]=some (.nx [.val c.d,.own ((done++r).map c.s),s3'])
  | [],r,e,done,s3,_=>by
    cases e
    exact ⟨s3,by rw [List.append_nil]; rfl⟩
  | x::xs,r,e,done,s3,hl=>by
    obtain ⟨a,ea,e⟩:=bind_some e
    obtain ⟨b,eb,e⟩:=bind_some e
    cases e
    rw [List.length_append] at hl
    obtain ⟨s3',ih⟩:=paint_go hF xs b eb (done++a) (.val (c.s x)) (by rw [List.length_append]; omega)
    refine ⟨s3',?_⟩
    have e1:sExt 1 (lI asL (lA F (aC (eV 0) (aC (eV 2) aN)))) [.val c.d,.own (done.map c.s),.val (c.s x)]=some (.nx [.val c.d,.own ((done++a).map c.s),.val (c.s x)]):=by
      show Option.bind (Option.bind (F [c.d,c.s x]) asL) _=_
      rw [hF x a ea]
      show (if (done.map c.s).length+(a.map c.s).length≤sizeLine then _ else _)=_
      rw [if_pos (by rw [List.length_map,List.length_map]; exact big (by omega)),List.map_append]
      rfl
    rw [List.map_cons]
    unfold sGo
    show Option.bind (sExt 1 _ [.val c.d,.own (done.map c.s),.val (c.s x)]) _=_
    rw [e1,Option.bind_some]
    show sGo _ _ _ _=_
    rw [ih,List.append_assoc]
theorem F_below_eq:∀ (n q:Nat) (l:List Nat),blwN c.st n q=some l→F_below n [c.d,c.s q]=some (c.S l)
  | n+1,q,l,e=>by
    unfold blwN at e
    obtain ⟨p,hq,e⟩:=bind_some e
    · obtain ⟨r,hr,e⟩:=bind_some e
      split at e
      · rename_i hl
        cases e
        unfold F_below runF
        rw [if_pos (by rfl)]
        show (g_below F_box_of F_children (F_below n) [.val c.d,.val (c.s q),.un,.un]).bind _=_
        have eb:=F_box_eq h hq
        have e1:sSetO 2 (fun η=>((aC (l2 pIx (lA F_box_of (aC (eV 0) (aC (eV 1) aN))) (eC (.int 0))) aN) η).bind gL) [.val c.d,.val (c.s q),.un,.un]=some (.nx [.val c.d,.val (c.s q),.own [c.s q],.un]):=by
          show Option.bind (Option.bind (Option.bind (Option.bind (F_box_of [c.d,c.s q]) _) _) _) _=_
          rw [eb]
          rfl
        obtain ⟨s3',e2⟩:=below_go h (F_below_eq n) q (chN c.st q) r hr [q] .un (by simpa [Nat.add_comm] using hl)
        have e3:sFor (lI asL (lA F_children (aC (eV 0) (aC (eV 1) aN)))) (tgN 3) (sExt 2 (lI asL (lA (F_below n) (aC (eV 0) (aC (eV 3) aN))))) [.val c.d,.val (c.s q),.own [c.s q],.un]=some (.nx [.val c.d,.val (c.s q),.own (([q]++r).map c.s),s3']):=by
          show Option.bind (Option.bind (F_children [c.d,c.s q]) asL) _=_
          rw [F_children_eq h]
          exact e2
        unfold g_below sSeq
        rw [e1,Option.bind_some]
        show Option.bind (Option.bind (sFor _ _ _ _) _) _=_
        rw [e3]
        rfl
      · cases e
theorem F_painted_eq {l:List Nat} (e:pntN c.st=some l):F_painted [c.d]=some (c.S l):=by
  unfold pntN at e
  obtain ⟨r,hr,e⟩:=bind_some e
  split at e
  · rename_i hl
    cases e
    unfold F_painted runF
    rw [if_pos (by rfl)]
    show (g_painted F_children (F_below 13) [.val c.d,.un,.un]).bind _=_
    obtain ⟨s3',e2⟩:=paint_go h (F_below_eq h 13) (chN c.st 0) l hr [] .un (by simpa using hl)
    have e3:sFor (lI asL (lA F_children (aC (eV 0) (aC (eC (.str "")) aN)))) (tgN 2) (sExt 1 (lI asL (lA (F_below 13) (aC (eV 0) (aC (eV 2) aN))))) [.val c.d,.own [],.un]=some (.nx [.val c.d,.own (l.map c.s),s3']):=by
      show Option.bind (Option.bind (F_children [c.d,.str ""]) asL) _=_
      have:=F_children_eq h 0
      unfold Sc.s at this
      rw [h.top] at this
      rw [this]
      exact e2
    unfold g_painted sSeq
    show Option.bind (Option.bind (sFor _ _ _ [.val c.d,.own [],.un]) _) _=_
    rw [e3]
    rfl
  · cases e
end
end K23
namespace K23
open PySem L2 L2.PU
noncomputable def Sd (ns:List Int):PyData:=.list (ns.map PyData.int)
theorem can_ints:∀ ns:List Int,PyData.canLayAll0 (ns.map PyData.int)=true
  | []=>rfl
  | _::r=>by
    have ih:=can_ints r
    simpa [PyData.canLayAll0,PyData.canLay0] using ih
theorem dep_ints:∀ ns:List Int,PyData.depthAll (ns.map PyData.int)=0
  | []=>rfl
  | _::r=>by
    have ih:=dep_ints r
    simpa [PyData.depthAll,PyData.depth] using ih
theorem shaped_ints (ns:List Int):SeqAt.shaped (.list (ns.map PyData.int))=true:=by
  simp [SeqAt.shaped,PyData.canLay0,PyData.depth,can_ints,dep_ints]
theorem shaped_int (i:Int):SeqAt.shaped (.int i)=true:=by simp [SeqAt.shaped,PyData.canLay0,PyData.depth]
theorem pEq_int (i j:Int):pEq (.int i) (.int j)=some (.bool (i==j)):=by
  unfold pEq
  rw [if_pos ⟨shaped_int i,shaped_int j⟩]
  simp [PyData.eqv]
theorem l2_of {o:PyData→PyData→Option PyData} {f g:En→Option PyData} {η:En} {x y z:PyData} (hf:f η=some x) (hg:g η=some y) (ho:o x y=some z):l2 o f g η=some z:=by
  unfold l2
  rw [hf,Option.bind_some,hg,Option.bind_some,ho]
theorem pMul_ok {i j:Int} (h:CMul i j):pMul (.int i) (.int j)=some (.int (i*j)):=if_pos h
theorem pMod_ok {i j:Int} (h:0 < j):pMod (.int i) (.int j)=some (.int (i % j)):=if_pos h
theorem pFdiv_ok {i j:Int} (h:CDiv i j):pFdiv (.int i) (.int j)=some (.int (i / j)):=if_pos h
theorem mulL {i j:Int} (h1:-(2 ^ 64) < i) (h2:i < 2 ^ 64):CMul i j:=Or.inl ⟨h1,h2⟩
theorem mulR {i j:Int} (h1:-(2 ^ 64) < j) (h2:j < 2 ^ 64):CMul i j:=Or.inr ⟨h1,h2⟩
section
variable {ns:List Int}
theorem cell_ok (hn:ns.length≤63) {k:Int} (hk:0≤k):∃ v:Int,F__law_cell [Sd ns,.int k]=some (.int v):=by
  unfold F__law_cell runF
  rw [if_pos (by rfl)]
  have et:(bT (l2 pEq (eV 0) (oE (fun η=>(aN η).bind gL)))) [.val (Sd ns),.val (.int k)]=some (decide (ns=[])):=by
    show Option.bind (pEq (Sd ns) (.list [])) asB=_
    unfold pEq
    rw [if_pos ⟨shaped_ints ns,by rfl⟩]
    cases ns <;> simp [Sd,PyData.eqv,PyData.eqvAll,asB]
  show ∃ v,Option.bind (g__law_cell [.val (Sd ns),.val (.int k)]) _=_
  unfold g__law_cell sSeq sIf
  rw [et,Option.bind_some]
  by_cases h0:ns=[]
  · rw [if_pos (by simpa using h0)]
    refine ⟨7*k,?_⟩
    have:l2 pMul (eC (.int 7)) (eV 1) [.val (Sd ns),.val (.int k)]=some (.int (7*k)):=l2_of rfl rfl (pMul_ok (mulL (by decide) (by decide)))
    unfold sRet
    rw [this]; rfl
  · rw [if_neg (by simpa using h0)]
    have hp:0 < ns.length:=by cases ns with | nil=>exact absurd rfl h0 | cons=>simp
    have hlen:lA pLen (aC (eV 0) aN) [.val (Sd ns),.val (.int k)]=some (.int (ns.length:Int)):=by
      show some (PyData.int ((ns.map PyData.int).length:Int))=_
      rw [List.length_map]
    have hm:l2 pMod (eV 1) (lA pLen (aC (eV 0) aN)) [.val (Sd ns),.val (.int k)]=some (.int (k % (ns.length:Int))):=l2_of rfl hlen (pMod_ok (by omega))
    have hd:l2 pFdiv (eV 1) (lA pLen (aC (eV 0) aN)) [.val (Sd ns),.val (.int k)]=some (.int (k / (ns.length:Int))):=l2_of rfl hlen (pFdiv_ok ⟨by omega,by omega⟩)
    obtain ⟨j,hj⟩:∃ j:Nat,k % (ns.length:Int)=(j:Int):=⟨(k % (ns.length:Int)).toNat,by have:=Int.emod_nonneg k (show (ns.length:Int)≠0 by omega); omega⟩
    have hjl:j < ns.length:=by have:=Int.emod_lt_of_pos k (show (0:Int) < ns.length by omega); omega
    refine ⟨ns[j]+6553*(k / (ns.length:Int)),?_⟩
    have hx:l2 pIx (eV 0) (l2 pMod (eV 1) (lA pLen (aC (eV 0) aN))) [.val (Sd ns),.val (.int k)]=some (.int ns[j]):=by
      refine l2_of rfl hm ?_
      rw [hj]
      show atI (ns.map PyData.int) (j:Int)=_
      exact atI_nat (by rw [List.getElem?_map,List.getElem?_eq_getElem hjl]; rfl)
    have hy:l2 pMul (eC (.int 6553)) (l2 pFdiv (eV 1) (lA pLen (aC (eV 0) aN))) [.val (Sd ns),.val (.int k)]=some (.int (6553*(k / (ns.length:Int)))):=l2_of rfl hd (pMul_ok (mulL (by decide) (by decide)))
    have hz:=l2_of (o:=pAdd) hx hy rfl
    show Option.bind (sRet _ [.val (Sd ns),.val (.int k)]) _=_
    unfold sRet
    rw [hz]
    rfl
theorem drawn_ok (hn:ns.length≤63) {k m:Int} (hk:0≤k) (hm:0 < m):∃ r:Nat,(r:Int) < m∧F__law_drawn [Sd ns,.int k,.int m]=some (.int r):=by
  obtain ⟨v,hv⟩:=cell_ok hn hk
  unfold F__law_drawn runF
  rw [if_pos (by rfl)]
  have hc:lA F__law_cell (aC (eV 0) (aC (eV 1) aN)) [.val (Sd ns),.val (.int k),.val (.int m),.un]=some (.int v):=hv
  have x1:l2 pMod (l2 pAdd (l2 pMul (l2 pMod (lA F__law_cell (aC (eV 0) (aC (eV 1) aN))) (eC (.int 2147483563))) (eC (.int 69069))) (l2 pMul (eC (.int 104723)) (l2 pAdd (eV 1) (eC (.int 1))))) (eC (.int 2147483563)) [.val (Sd ns),.val (.int k),.val (.int m),.un]=some (.int ((v % 2147483563*69069+104723*(k+1)) % 2147483563)) :=
    l2_of (l2_of (l2_of (l2_of hc rfl (pMod_ok (by decide))) rfl (pMul_ok (mulR (by decide) (by decide)))) (l2_of rfl (l2_of rfl rfl rfl) (pMul_ok (mulL (by decide) (by decide)))) rfl) rfl (pMod_ok (by decide))
  generalize hx:(v % 2147483563*69069+104723*(k+1)) % 2147483563=x at x1
  have bx:0≤x∧x < 2147483563:=by rw [← hx]; exact ⟨Int.emod_nonneg _ (by decide),Int.emod_lt_of_pos _ (by decide)⟩
  have x2:l2 pMod (l2 pAdd (l2 pMul (eV 3) (eV 3)) (l2 pFdiv (eV 3) (eC (.int 3)))) (eC (.int 2147483399)) [.val (Sd ns),.val (.int k),.val (.int m),.val (.int x)]=some (.int ((x*x+x / 3) % 2147483399)) :=
    l2_of (l2_of (l2_of rfl rfl (pMul_ok (mulL (by omega) (by omega)))) (l2_of rfl rfl (pFdiv_ok ⟨by decide,by decide⟩)) rfl) rfl (pMod_ok (by decide))
  generalize hy:(x*x+x / 3) % 2147483399=y at x2
  have byy:0≤y∧y < 2147483399:=by rw [← hy]; exact ⟨Int.emod_nonneg _ (by decide),Int.emod_lt_of_pos _ (by decide)⟩
  have x3:l2 pMod (l2 pFdiv (l2 pMod (l2 pAdd (l2 pMul (eV 3) (eV 3)) (l2 pFdiv (eV 3) (eC (.int 7)))) (eC (.int 2147483647))) (eC (.int 11))) (eV 2) [.val (Sd ns),.val (.int k),.val (.int m),.val (.int y)]=some (.int ((y*y+y / 7) % 2147483647 / 11 % m)) :=
    l2_of (l2_of (l2_of (l2_of (l2_of rfl rfl (pMul_ok (mulL (by omega) (by omega)))) (l2_of rfl rfl (pFdiv_ok ⟨by decide,by decide⟩)) rfl) rfl (pMod_ok (by decide))) rfl (pFdiv_ok ⟨by decide,by decide⟩)) rfl (pMod_ok hm)
  refine ⟨((y*y+y / 7) % 2147483647 / 11 % m).toNat,?_,?_⟩
  · have h1:=Int.emod_nonneg ((y*y+y / 7) % 2147483647 / 11) (show m≠0 by omega)
    have h2:=Int.emod_lt_of_pos ((y*y+y / 7) % 2147483647 / 11) hm
    omega
  · have h1:=Int.emod_nonneg ((y*y+y / 7) % 2147483647 / 11) (show m≠0 by omega)
    have e:(((y*y+y / 7) % 2147483647 / 11 % m).toNat:Int)=(y*y+y / 7) % 2147483647 / 11 % m:=by omega
    rw [e]
    show Option.bind (g__law_drawn F__law_cell [.val (Sd ns),.val (.int k),.val (.int m),.un]) _=_
    unfold g__law_drawn sSeq sSet sRet
    rw [x1,Option.bind_some,Option.bind_some]
    show Option.bind (Option.bind (Option.bind (l2 pMod _ _ [.val (Sd ns),.val (.int k),.val (.int m),.val (.int x)]) _) _) _=_
    rw [x2,Option.bind_some,Option.bind_some]
    show Option.bind (Option.bind (l2 pMod _ _ [.val (Sd ns),.val (.int k),.val (.int m),.val (.int y)]) _) _=_
    rw [x3]
    rfl
end
end K23
namespace K23
open PySem L2 L2.PU
theorem seq_of {f g:En→Option Out} {η η1:En} {r:Option Out} (h1:f η=some (.nx η1)) (h2:g η1=r):sSeq f g η=r:=by
  unfold sSeq
  rw [h1]; exact h2
theorem set_of {i:Nat} {f:En→Option PyData} {η:En} {d:PyData} (h:f η=some d):sSet i f η=some (.nx (η.set i (.val d))):=by
  unfold sSet
  rw [h]; rfl
theorem setO_of {i:Nat} {f:En→Option (List PyData)} {η:En} {d:List PyData} (h:f η=some d):sSetO i f η=some (.nx (η.set i (.own d))):=by
  unfold sSetO
  rw [h]; rfl
theorem lA_of {o:List PyData→Option PyData} {fs:En→Option (List PyData)} {η:En} {ds:List PyData} {d:PyData} (h1:fs η=some ds) (h2:o ds=some d):lA o fs η=some d:=by
  unfold lA
  rw [h1]; exact h2
theorem aC_of {f:En→Option PyData} {g:En→Option (List PyData)} {η:En} {d:PyData} {ds:List PyData} (h1:f η=some d) (h2:g η=some ds):aC f g η=some (d::ds):=by
  unfold aC
  rw [h1,Option.bind_some,h2]; rfl
theorem if_of {c:En→Option Bool} {f g:En→Option Out} {η:En} {b:Bool} (h:c η=some b):sIf c f g η=if b=true then f η else g η:=by
  unfold sIf
  rw [h]; rfl
theorem bT_of {f:En→Option PyData} {η:En} {b:Bool} (h:f η=some (.bool b)):bT f η=some b:=by
  unfold bT
  rw [h]; rfl
theorem for_of {it:En→Option (List PyData)} {t:En→PyData→Option En} {body:En→Option Out} {η:En} {ds:List PyData} {r:Option Out} (h:it η=some ds) (h2:sGo t body ds η=r):sFor it t body η=r:=by
  unfold sFor
  rw [h]; exact h2
theorem rng1_ok {j:Int} (h1:-(2 ^ 62)≤j) (h2:j < 2 ^ 62):rng1 [.int j]=some (rngL 0 j.toNat):=if_pos ⟨h1,h2⟩
theorem sGo_rng {t:En→PyData→Option En} {body:En→Option Out} (Inv:Nat→En→Prop) (n:Nat)
    (st:∀ k η,k < n→Inv k η→∃ η1 η2,t η (.int (0+(k:Nat)))=some η1∧body η1=some (.nx η2)∧Inv (k+1) η2) {η:En} (h0:Inv 0 η):∃ η',sGo t body (rngL 0 n) η=some (.nx η')∧Inv n η':=by
  have key:∀ (m k:Nat) (η:En),k+m=n→Inv k η→∃ η',sGo t body ((List.range' k m).map fun (k:Nat)=>PyData.int (0+(k:Nat))) η=some (.nx η')∧Inv n η':=by
    intro m
    induction m with
    | zero=>intro k η e h; exact ⟨η,rfl,by rw [← e]; exact h⟩
    | succ m ih =>
      intro k η e h
      obtain ⟨η1,η2,h1,h2,h3⟩:=st k η (by omega) h
      obtain ⟨η',e1,e2⟩:=ih (k+1) η2 (by omega) h3
      refine ⟨η',?_,e2⟩
      rw [List.range'_succ,List.map_cons]
      unfold sGo
      rw [h1,Option.bind_some,h2,Option.bind_some]
      exact e1
  unfold rngL
  rw [List.range_eq_range']
  exact key n 0 η (by omega) h0
theorem sGo_all {ι:Type} {t:En→PyData→Option En} {body:En→Option Out} (D:ι→PyData) (Inv:List ι→En→Prop) (all:List ι)
    (st:∀ done x rest η,all=done++x::rest→Inv done η→∃ η1 η2,t η (D x)=some η1∧body η1=some (.nx η2)∧Inv (done++[x]) η2) {η:En} (h0:Inv [] η):∃ η',sGo t body (all.map D) η=some (.nx η')∧Inv all η':=by
  have key:∀ (rest done:List ι) (η:En),all=done++rest→Inv done η→∃ η',sGo t body (rest.map D) η=some (.nx η')∧Inv all η':=by
    intro rest
    induction rest with
    | nil=>intro done η e h; exact ⟨η,rfl,by rw [e,List.append_nil]; exact h⟩
    | cons x r ih =>
      intro done η e h
      obtain ⟨η1,η2,h1,h2,h3⟩:=st done x r η e h
      obtain ⟨η',e1,e2⟩:=ih (done++[x]) η2 (by rw [e]; simp) h3
      refine ⟨η',?_,e2⟩
      rw [List.map_cons]
      unfold sGo
      rw [h1,Option.bind_some,h2,Option.bind_some]
      exact e1
  exact key all [] η rfl h0
noncomputable def let8:List Nat:=[100,98,103,97,104,99,102,101]
noncomputable def nmT (t:Nat):Nat→Str
  | 0 => ""
  | j+1=>if j < 8 then ⟨#[let8.getD ((j+t) % 8) 0]⟩ else ⟨(List.replicate (j+1) 97).toArray⟩
theorem let8_inj:∀ x:Fin 8,∀ y:Fin 8,let8.getD x.val 0=let8.getD y.val 0→x=y:=by decide
theorem nmT_lo {t j:Nat} (h:j < 8):nmT t (j+1)=⟨#[let8.getD ((j+t) % 8) 0]⟩:=if_pos h
theorem nmT_hi {t j:Nat} (h:¬ j < 8):nmT t (j+1)=⟨(List.replicate (j+1) 97).toArray⟩:=if_neg h
theorem empty_size:("" : Str).cps.size=0:=by decide
theorem nmT_inj (t:Nat):∀ a b,nmT t a=nmT t b→a=b:=by
  have sz:∀ a,(nmT t a).cps.size=if a=0 then 0 else if a - 1 < 8 then 1 else a:=fun a=>by
    cases a with
    | zero=>exact empty_size
    | succ j =>
      by_cases h:j < 8
      · rw [nmT_lo h]; simp [h]
      · rw [nmT_hi h]; simp [h]
  intro a b e
  have s1:=sz a
  have s2:=sz b
  rw [e,s2] at s1
  cases a with
  | zero =>
    cases b with
    | zero=>rfl
    | succ k =>
      simp at s1
      split at s1 <;> omega
  | succ j =>
    cases b with
    | zero =>
      simp at s1
      split at s1 <;> omega
    | succ k =>
      by_cases hj:j < 8
      · by_cases hk:k < 8
        · rw [nmT_lo hj,nmT_lo hk] at e
          have e1:(#[let8.getD ((j+t) % 8) 0]:Array Nat)=#[let8.getD ((k+t) % 8) 0]:=by injection e
          have e2:let8.getD ((j+t) % 8) 0=let8.getD ((k+t) % 8) 0:=by simpa using e1
          have e3:=let8_inj ⟨(j+t) % 8,Nat.mod_lt _ (by decide)⟩ ⟨(k+t) % 8,Nat.mod_lt _ (by decide)⟩ e2
          have e4:(j+t) % 8=(k+t) % 8:=by injection e3
          omega
        · simp [hj,hk] at s1; omega
      · by_cases hk:k < 8
        · simp [hj,hk] at s1; omega
        · simp [hj,hk] at s1; omega
theorem let8_lt:∀ x:Fin 8,let8.getD x.val 0 < 0x110000:=by decide
theorem nmT_ok (t:Nat):∀ a,PyData.strOk (nmT t a)=true:=fun a=>by
  cases a with
  | zero=>exact (by decide +kernel:PyData.strOk ("" : Str)=true)
  | succ j =>
    by_cases h:j < 8
    · rw [nmT_lo h]
      have:=let8_lt ⟨(j+t) % 8,Nat.mod_lt _ (by decide)⟩
      simp only [List.getD_eq_getElem?_getD] at this
      simp [PyData.strOk,this]
    · rw [nmT_hi h]
      unfold PyData.strOk
      rw [Array.all_eq_true]
      intro i hi
      simp
structure Dr where
  ps:List Nat
  nm:Nat→Str
  L:Nat→Int
  T:Nat→Int
  W:Nat→Int
  H:Nat→Int
  mr:Nat→Str
noncomputable def bd (l t w h:Int):Prop:=(-3≤l∧l≤5)∧(-3≤t∧t≤5)∧(0≤w∧w≤8)∧(0≤h∧h≤8)
noncomputable def mkS:List Bool→Str
  | [] => ""
  | b::r=>mkS r++(if b then (⟨#[[99,102,104,108].getD r.length 0]⟩:Str) else ("" : Str))
noncomputable def mkOk (m:Str):Prop:=∃ bs:List Bool,bs.length=4∧m=mkS bs
structure Dr.Ok (c:Dr):Prop where
  inj:∀ a b,c.nm a=c.nm b→a=b
  top:c.nm 0 = ""
  ok:∀ a,PyData.strOk (c.nm a)=true
  okm:∀ a,PyData.strOk (c.mr a)=true
  len:c.ps.length≤12
  par:∀ i,c.ps.getD i 0≤i
  bds:∀ i,bd (c.L i) (c.T i) (c.W i) (c.H i)
  mks:∀ i,mkOk (c.mr i)
noncomputable def Dr.box (c:Dr) (i:Nat):PyData:=.tuple [.str (c.nm (i+1)),.str (c.nm (c.ps.getD i 0)),.int (c.L i),.int (c.T i),.int (c.W i),.int (c.H i),.str (c.mr i)]
noncomputable def Dr.d (c:Dr):PyData:=.tuple ((List.range c.ps.length).map c.box)
noncomputable def Dr.s (c:Dr) (q:Nat):PyData:=.str (c.nm q)
noncomputable def Dr.more (c:Dr) (p:Nat) (l t w h:Int) (m:Str):Dr :=
  { ps:=c.ps++[p],nm:=c.nm,L:=fun i=>if i=c.ps.length then l else c.L i,T:=fun i=>if i=c.ps.length then t else c.T i,W:=fun i=>if i=c.ps.length then w else c.W i,
    H:=fun i=>if i=c.ps.length then h else c.H i,mr:=fun i=>if i=c.ps.length then m else c.mr i }
theorem Dr.more_d (c:Dr) (p:Nat) (l t w h:Int) (m:Str):(c.more p l t w h m).d=.tuple ((List.range c.ps.length).map c.box++[.tuple [.str (c.nm (c.ps.length+1)),.str (c.nm p),.int l,.int t,.int w,.int h,.str m]]):=by
  unfold Dr.d
  have e:(c.more p l t w h m).ps.length=c.ps.length+1:=by unfold Dr.more; simp
  rw [e,List.range_succ,List.map_append]
  congr 2
  · refine List.map_congr_left fun i hi=>?_
    have hlt:=List.mem_range.mp hi
    have hne:i≠c.ps.length:=Nat.ne_of_lt hlt
    have hps:(c.ps++[p])[i]?=c.ps[i]?:=List.getElem?_append_left hlt
    unfold Dr.box Dr.more
    simp only [hne,if_false,List.getD_eq_getElem?_getD,hps]
  · unfold Dr.box Dr.more
    simp
theorem Dr.more_ok {c:Dr} (h:c.Ok) (hl:c.ps.length < 12) {p:Nat} (hp:p≤c.ps.length) (l t w g:Int) {m:Str} (hm:PyData.strOk m=true) (hb:bd l t w g) (hk:mkOk m):(c.more p l t w g m).Ok where
  inj:=h.inj
  top:=h.top
  ok:=h.ok
  okm:=fun i=>by
    unfold Dr.more
    dsimp only
    split
    · exact hm
    · exact h.okm i
  len:=by unfold Dr.more; simp; omega
  par:=fun i=>by
    unfold Dr.more
    dsimp only
    rw [List.getD_eq_getElem?_getD]
    by_cases hi:i < c.ps.length
    · rw [List.getElem?_append_left hi,← List.getD_eq_getElem?_getD]
      exact h.par i
    · by_cases he:i=c.ps.length
      · subst he
        rw [List.getElem?_append_right (Nat.le_refl _)]
        simpa using hp
      · rw [List.getElem?_eq_none (by simp; omega)]
        exact Nat.zero_le _
  bds:=fun i=>by
    unfold Dr.more
    dsimp only
    by_cases e:i=c.ps.length
    · rw [if_pos e,if_pos e,if_pos e,if_pos e]; exact hb
    · rw [if_neg e,if_neg e,if_neg e,if_neg e]; exact h.bds i
  mks:=fun i=>by
    unfold Dr.more
    dsimp only
    split
    · exact hk
    · exact h.mks i
end K23
namespace K23
open PySem L2 L2.PU
noncomputable def sg4:Nat→Str:=fun j=>⟨#[[99,102,104,108].getD j 0]⟩
theorem cfhl:enS [.str "cfhl"]=some ([0,1,2,3].map fun (j:Nat)=>PyData.tuple [.int (j:Nat),.str (sg4 j)]):=by
  have e:("cfhl" : Str).cps.toList=[99,102,104,108]:=by decide +kernel
  unfold enS
  dsimp only
  unfold signD
  rw [e]
  rfl
theorem dbg:("dbgahcfe" : Str).cps.toList=let8:=by decide +kernel
theorem dbg_len:("dbgahcfe" : Str).length≤sizeLine:=by decide +kernel
theorem strOk_app {a b:Str} (ha:PyData.strOk a=true) (hb:PyData.strOk b=true):PyData.strOk (a++b)=true:=by
  unfold PyData.strOk at ha hb ⊢
  show (a.cps++b.cps).all _=true
  rw [Array.all_append,ha,hb]; rfl
theorem len_app (a b:Str):(a++b).length=a.length+b.length:=by
  show (a.cps++b.cps).size=_
  rw [Array.size_append]; rfl
theorem sg4_ok (j:Nat) (h:j∈[0,1,2,3]):PyData.strOk (sg4 j)=true:=by
  simp at h
  rcases h with rfl | rfl | rfl | rfl <;> decide +kernel
theorem mkS_false (bs:List Bool):mkS bs=mkS (false::bs):=by
  show mkS bs=mkS bs++("" : Str)
  apply str_ext
  show _=((mkS bs).cps++("" : Str).cps).toList
  have:("" : Str).cps=#[]:=by decide +kernel
  rw [this]; simp
theorem sg4_len (j:Nat):(sg4 j).length=1:=rfl
section
variable {ns:List Int} (hn:ns.length≤63)
include hn
theorem marks_ok {x1 x2 x3 x4 x6 x7 x8:Sl} {hh:Int} (h0:0≤hh) (s10 s11 s12:Sl):∃ (m:Str) (u v:Sl),(PyData.strOk m=true∧mkOk m) ∧
    sFor (fun η=>((aC (eC (.str "cfhl")) aN) η).bind enS) (tgT (tgCons (tgN 10) (tgCons (tgN 11) tgNil)))
    (sIf (bT (l2 pEq (lA F__law_drawn (aC (eV 0) (aC (l2 pAdd (l2 pAdd (eV 5) (eC (.int 5))) (eV 10)) (aC (l2 pIx (oE (fun η=>((aC (eC (.int 4)) (aC (eC (.int 2)) (aC (eC (.int 9)) (aC (eC (.int 6)) aN)))) η).bind gL)) (eV 10)) aN)))) (eC (.int 0)))) (sSet 9 (l2 pAdd (eV 9) (eV 11))) sNx)
      [.val (Sd ns),x1,x2,x3,x4,.val (.int hh),x6,x7,x8,.val (.str ""),s10,s11,s12]=some (.nx [.val (Sd ns),x1,x2,x3,x4,.val (.int hh),x6,x7,x8,.val (.str m),u,v,s12]):=by
  have inv:=sGo_all (t:=tgT (tgCons (tgN 10) (tgCons (tgN 11) tgNil)))
    (body:=(sIf (bT (l2 pEq (lA F__law_drawn (aC (eV 0) (aC (l2 pAdd (l2 pAdd (eV 5) (eC (.int 5))) (eV 10)) (aC (l2 pIx (oE (fun η=>((aC (eC (.int 4)) (aC (eC (.int 2)) (aC (eC (.int 9)) (aC (eC (.int 6)) aN)))) η).bind gL)) (eV 10)) aN)))) (eC (.int 0)))) (sSet 9 (l2 pAdd (eV 9) (eV 11))) sNx))
    (fun (j:Nat)=>PyData.tuple [.int (j:Nat),.str (sg4 j)])
    (fun done η=>∃ (m:Str) (u v:Sl),(PyData.strOk m=true∧∃ bs:List Bool,bs.length=done.length∧m=mkS bs)∧m.length≤done.length∧η=[.val (Sd ns),x1,x2,x3,x4,.val (.int hh),x6,x7,x8,.val (.str m),u,v,s12])
    [0,1,2,3] ?_ (η:=[.val (Sd ns),x1,x2,x3,x4,.val (.int hh),x6,x7,x8,.val (.str ""),s10,s11,s12]) ⟨"", s10,s11,⟨by decide +kernel,[],rfl,rfl⟩,by decide +kernel,rfl⟩
  · obtain ⟨η',e1,m,u,v,hm,_,rfl⟩:=inv
    refine ⟨m,u,v,⟨hm.1,hm.2⟩,for_of (ds:=[0,1,2,3].map fun (j:Nat)=>PyData.tuple [.int (j:Nat),.str (sg4 j)]) cfhl e1⟩
  · rintro done j rest η hall ⟨m,u,v,hm,hml,rfl⟩
    have hj:j∈[0,1,2,3]:=by rw [hall]; simp
    have hdl:done.length≤3:=by
      have:=congrArg List.length hall
      simp at this
      omega
    have hjd:j=done.length:=by
      match done,hall,hdl with
      | [],hall,_=>simp at hall; simp [hall.1]
      | [_],hall,_=>simp at hall; simp [hall.2.1]
      | [_,_],hall,_=>simp at hall; simp [hall.2.2.1]
      | [_,_,_],hall,_=>simp at hall; simp [hall.2.2.2.1]
    obtain ⟨hm,bs,hbs,hmm⟩:=hm
    have hmod:∃ q:Int,0 < q∧l2 pIx (oE (fun η=>((aC (eC (.int 4)) (aC (eC (.int 2)) (aC (eC (.int 9)) (aC (eC (.int 6)) aN)))) η).bind gL)) (eV 10) [.val (Sd ns),x1,x2,x3,x4,.val (.int hh),x6,x7,x8,.val (.str m),.val (.int (j:Nat)),.val (.str (sg4 j)),s12]=some (.int q):=by
      have eo:oE (fun η=>((aC (eC (.int 4)) (aC (eC (.int 2)) (aC (eC (.int 9)) (aC (eC (.int 6)) aN)))) η).bind gL) [.val (Sd ns),x1,x2,x3,x4,.val (.int hh),x6,x7,x8,.val (.str m),.val (.int (j:Nat)),.val (.str (sg4 j)),s12]=some (.list [.int 4,.int 2,.int 9,.int 6]):=by
        have:gL [.int 4,.int 2,.int 9,.int 6]=some [.int 4,.int 2,.int 9,.int 6]:=if_pos (by show 4≤sizeLine; decide)
        show Option.bind (gL [.int 4,.int 2,.int 9,.int 6]) _=_
        rw [this]; rfl
      simp at hj
      rcases hj with rfl | rfl | rfl | rfl
      · exact ⟨4,by decide,l2_of eo rfl rfl⟩
      · exact ⟨2,by decide,l2_of eo rfl rfl⟩
      · exact ⟨9,by decide,l2_of eo rfl rfl⟩
      · exact ⟨6,by decide,l2_of eo rfl rfl⟩
    obtain ⟨q,hq,eq⟩:=hmod
    obtain ⟨r,hr,er⟩:=drawn_ok hn (k:=hh+5+(j:Nat)) (m:=q) (by omega) hq
    have eb:bT (l2 pEq (lA F__law_drawn (aC (eV 0) (aC (l2 pAdd (l2 pAdd (eV 5) (eC (.int 5))) (eV 10)) (aC (l2 pIx (oE (fun η=>((aC (eC (.int 4)) (aC (eC (.int 2)) (aC (eC (.int 9)) (aC (eC (.int 6)) aN)))) η).bind gL)) (eV 10)) aN)))) (eC (.int 0)))
        [.val (Sd ns),x1,x2,x3,x4,.val (.int hh),x6,x7,x8,.val (.str m),.val (.int (j:Nat)),.val (.str (sg4 j)),s12]=some ((r:Int)==0) :=
      bT_of (l2_of (lA_of (aC_of rfl (aC_of (l2_of (l2_of rfl rfl rfl) rfl rfl) (aC_of eq rfl))) er) rfl (pEq_int _ _))
    refine ⟨[.val (Sd ns),x1,x2,x3,x4,.val (.int hh),x6,x7,x8,.val (.str m),.val (.int (j:Nat)),.val (.str (sg4 j)),s12],?_⟩
    by_cases h0:(r:Int)==0
    · refine ⟨[.val (Sd ns),x1,x2,x3,x4,.val (.int hh),x6,x7,x8,.val (.str (m++sg4 j)),.val (.int (j:Nat)),.val (.str (sg4 j)),s12],rfl,?_,m++sg4 j,_,_,⟨strOk_app hm (sg4_ok j hj),true::bs,by simp [hbs],by rw [hmm,hjd,← hbs]; rfl⟩,?_,rfl⟩
      · rw [if_of eb,if_pos h0]
        refine set_of (d:=.str (m++sg4 j)) (l2_of rfl rfl ?_)
        show (if m.length+(sg4 j).length≤sizeLine then some (PyData.str (m++sg4 j)) else none)=_
        rw [if_pos (by rw [sg4_len]; exact big (by omega))]
      · rw [len_app,sg4_len,List.length_append]
        simpa using hml
    · refine ⟨[.val (Sd ns),x1,x2,x3,x4,.val (.int hh),x6,x7,x8,.val (.str m),.val (.int (j:Nat)),.val (.str (sg4 j)),s12],rfl,?_,m,_,_,⟨hm,false::bs,by simp [hbs],by rw [hmm]; exact mkS_false bs⟩,?_,rfl⟩
      · rw [if_of eb,if_neg h0]; rfl
      · rw [List.length_append]; simp; omega
end
end K23
namespace K23
open PySem L2 L2.PU
noncomputable def tup1:List PyData→Option PyData:=fun ds=>if ds.length≤sizeLine then some (.tuple ds) else none
theorem tup1_ok {ds:List PyData} (h:ds.length≤3000000):(if ds.length≤sizeLine then some (PyData.tuple ds) else none)=some (.tuple ds):=if_pos (big h)
theorem gL_ok {ds:List PyData} (h:ds.length≤3000000):gL ds=some ds:=if_pos (big h)
theorem addL {a b:List PyData} (h:a.length+b.length≤3000000):pAdd (.list a) (.list b)=some (.list (a++b)):=if_pos (big h)
theorem addT {a b:List PyData} (h:a.length+b.length≤3000000):pAdd (.tuple a) (.tuple b)=some (.tuple (a++b)):=if_pos (big h)
theorem oE_of {f:En→Option (List PyData)} {η:En} {ds:List PyData} (h:f η=some ds):oE f η=some (.list ds):=by
  unfold oE
  rw [h]; rfl
theorem comp_eq {mp:List (Option Nat)} {fi:En→Option (List PyData)} {t:En→PyData→Option En} {p:En→Option Bool} {f:En→Option PyData} {η:En} {ds:List PyData} {r:Option (List PyData)} (h1:fi η=some ds) (hz:ds.length≤3000000) (h2:cGo t p f (inEn mp η) ds=r):sComp mp fi t p f η=r:=by
  unfold sComp
  rw [h1,Option.bind_some,if_pos (big hz)]
  exact h2
noncomputable def sBody (fn__law_drawn:List PyData→Option PyData):En→Option Out :=
  (sSeq (sSet 5 (l2 pAdd (l2 pAdd (eV 1) (eC (.int 3))) (l2 pMul (eC (.int 9)) (eV 4))))
    (sSeq (sSet 6 (l2 pIx (l2 pAdd (oE (fun η=>((aC (eC (.str "")) aN) η).bind gL)) (oE (sComp [none] (lI asTu (eV 2)) (tgN 0) tTrue (l2 pIx (eV 0) (eC (.int 0)))))) (lA fn__law_drawn (aC (eV 0) (aC (eV 5) (aC (l2 pAdd (eV 4) (eC (.int 1))) aN))))))
    (sSeq (sSetO 7 (sComp [none,some 0,some 5] (fun η=>((aC (eC (.int 2)) aN) η).bind rng1) (tgN 0) tTrue (l2 pSub (lA fn__law_drawn (aC (eV 1) (aC (l2 pAdd (l2 pAdd (eV 2) (eC (.int 1))) (eV 0)) (aC (eC (.int 9)) aN)))) (eC (.int 3)))))
    (fun η=>(sSeq (sSetO 8 (sComp [none,some 0,some 5] (fun η=>((aC (eC (.int 2)) aN) η).bind rng1) (tgN 0) tTrue (lA fn__law_drawn (aC (eV 1) (aC (l2 pAdd (l2 pAdd (eV 2) (eC (.int 3))) (eV 0)) (aC (eC (.int 9)) aN))))))
    (fun η=>(sSeq (sSet 9 (eC (.str "")))
    (sSeq (sFor (fun η=>((aC (eC (.str "cfhl")) aN) η).bind enS) (tgT (tgCons (tgN 10) (tgCons (tgN 11) tgNil)))
    (sIf (bT (l2 pEq (lA fn__law_drawn (aC (eV 0) (aC (l2 pAdd (l2 pAdd (eV 5) (eC (.int 5))) (eV 10)) (aC (l2 pIx (oE (fun η=>((aC (eC (.int 4)) (aC (eC (.int 2)) (aC (eC (.int 9)) (aC (eC (.int 6)) aN)))) η).bind gL)) (eV 10)) aN)))) (eC (.int 0)))) (sSet 9 (l2 pAdd (eV 9) (eV 11))) sNx))
    (sSeq (sSet 12 (l2 pIx (eC (.str "dbgahcfe")) (l2 pMod (l2 pAdd (eV 4) (eV 3)) (eC (.int 8)))))
    (sSet 2 (l2 pAdd (eV 2) (lA (fun ds=>if ds.length≤sizeLine then some (.tuple ds) else none) (aC (l2 pAdd (l2 pAdd (lA (fun ds=>if ds.length≤sizeLine then some (.tuple ds) else none) (aC (eV 12) (aC (eV 6) aN))) (lA pTup (aC (l2 pAdd (eV 7) (eV 8)) aN))) (lA (fun ds=>if ds.length≤sizeLine then some (.tuple ds) else none) (aC (eV 9) aN))) aN))))))) (frz 8 η))) (frz 7 η)))))
section
variable {ns:List Int} (hn:ns.length≤63)
include hn
theorem two_ok {f:En→Option PyData} {η:En} {mp:List (Option Nat)} (lo hi:Int) (h:∀ k:Nat,k < 2→∃ y,(lo≤y∧y≤hi)∧f ((inEn mp η).set 0 (.val (.int (0+(k:Nat)))))=some (.int y)):∃ a b:Int,((lo≤a∧a≤hi)∧(lo≤b∧b≤hi))∧sComp mp (fun η=>((aC (eC (.int 2)) aN) η).bind rng1) (tgN 0) tTrue f η=some [.int a,.int b]:=by
  obtain ⟨a,ha,ea⟩:=h 0 (by decide)
  obtain ⟨b,hb,eb⟩:=h 1 (by decide)
  refine ⟨a,b,⟨ha,hb⟩,comp_eq (ds:=rngL 0 2) (rng1_ok (j:=2) (by decide) (by decide)) (by decide) ?_⟩
  have:=cGo_map (t:=tgN 0) (p:=tTrue) (f:=f) (η:=inEn mp η) (fun (k:Nat)=>PyData.int (0+(k:Nat))) (fun _=>true) (fun k=>.int (if k=0 then a else b)) (List.range 2) fun k hk=>by
    refine ⟨_,rfl,rfl,fun _=>?_⟩
    have hk:=List.mem_range.mp hk
    rcases (show k=0∨k=1 by omega) with rfl | rfl
    · exact ea
    · exact eb
  exact this
theorem scene_ok:∃ (c:Dr) (tn:Nat),c.Ok∧c.nm=nmT tn∧c.ps.length≤7∧F__law_scene [Sd ns,.int 0]=some c.d:=by
  obtain ⟨tn,htn,et⟩:=drawn_ok hn (k:=0+1) (m:=8) (by decide) (by decide)
  obtain ⟨n,hnn,en⟩:=drawn_ok hn (k:=0) (m:=8) (by decide) (by decide)
  have main:=sGo_rng (t:=tgN 4) (body:=sBody F__law_drawn) (fun k η=>∃ (c:Dr) (s4 s5 s6 s7 s8 s9 s10 s11 s12:Sl),c.Ok∧c.nm=nmT tn∧c.ps.length=k∧η=[.val (Sd ns),.val (.int 0),.val c.d,.val (.int tn),s4,s5,s6,s7,s8,s9,s10,s11,s12]) n ?st
    (η:=[.val (Sd ns),.val (.int 0),.val (.tuple []),.val (.int tn),.un,.un,.un,.un,.un,.un,.un,.un,.un]) ⟨⟨[],nmT tn,fun _=>0,fun _=>0,fun _=>0,fun _=>0,fun _ => ""⟩,.un,.un,.un,.un,.un,.un,.un,.un,.un,
      ⟨nmT_inj tn,rfl,nmT_ok tn,fun _=>nmT_ok 0 0,by simp,fun _=>by simp,fun _=>by show bd 0 0 0 0; unfold bd; decide,fun _=>⟨[false,false,false,false],rfl,by show ("" : Str)=mkS [false,false,false,false]; decide +kernel⟩⟩,rfl,rfl,rfl⟩
  case st =>
    rintro k η hk ⟨c,s4,s5,s6,s7,s8,s9,s10,s11,s12,hc,hnm,hlen,rfl⟩
    have hk7:k < 7:=by omega
    refine ⟨[.val (Sd ns),.val (.int 0),.val c.d,.val (.int tn),.val (.int (0+(k:Nat))),s5,s6,s7,s8,s9,s10,s11,s12],?_⟩
    have hh:l2 pAdd (l2 pAdd (eV 1) (eC (.int 3))) (l2 pMul (eC (.int 9)) (eV 4)) [.val (Sd ns),.val (.int 0),.val c.d,.val (.int tn),.val (.int (0+(k:Nat))),s5,s6,s7,s8,s9,s10,s11,s12]=some (.int (0+3+9*(0+(k:Nat)))) :=
      l2_of (l2_of rfl rfl rfl) (l2_of rfl rfl (pMul_ok (mulL (by decide) (by decide)))) rfl
    generalize hhe:(0+3+9*(0+(k:Nat)):Int)=hr at hh
    have hr0:0≤hr:=by omega
    obtain ⟨p,hp,ep⟩:=drawn_ok hn (k:=hr) (m:=0+(k:Nat)+1) hr0 (by omega)
    have hp':p≤k:=by omega
    have ea:l2 pIx (l2 pAdd (oE (fun η=>((aC (eC (.str "")) aN) η).bind gL)) (oE (sComp [none] (lI asTu (eV 2)) (tgN 0) tTrue (l2 pIx (eV 0) (eC (.int 0)))))) (lA F__law_drawn (aC (eV 0) (aC (eV 5) (aC (l2 pAdd (eV 4) (eC (.int 1))) aN))))
        [.val (Sd ns),.val (.int 0),.val c.d,.val (.int tn),.val (.int (0+(k:Nat))),.val (.int hr),s6,s7,s8,s9,s10,s11,s12]=some (c.s p):=by
      have e1:oE (fun η=>((aC (eC (.str "")) aN) η).bind gL) [.val (Sd ns),.val (.int 0),.val c.d,.val (.int tn),.val (.int (0+(k:Nat))),.val (.int hr),s6,s7,s8,s9,s10,s11,s12]=some (.list [c.s 0]):=by
        refine oE_of ?_
        show gL [.str ""]=_
        rw [gL_ok (by decide)]
        unfold Dr.s
        rw [hc.top]
      have e2:oE (sComp [none] (lI asTu (eV 2)) (tgN 0) tTrue (l2 pIx (eV 0) (eC (.int 0)))) [.val (Sd ns),.val (.int 0),.val c.d,.val (.int tn),.val (.int (0+(k:Nat))),.val (.int hr),s6,s7,s8,s9,s10,s11,s12]=some (.list ((List.range k).map fun i=>c.s (i+1))):=by
        refine oE_of (comp_eq (ds:=(List.range c.ps.length).map c.box) rfl (by rw [List.length_map,List.length_range]; omega) ?_)
        rw [hlen]
        have:=cGo_map (t:=tgN 0) (p:=tTrue) (f:=l2 pIx (eV 0) (eC (.int 0))) (η:=[.un]) c.box (fun _=>true) (fun i=>c.s (i+1)) (List.range k) fun i _=>⟨_,rfl,rfl,fun _=>rfl⟩
        rw [show (List.range k).filter (fun _=>true)=List.range k by simp] at this
        exact this
      refine l2_of (l2_of e1 e2 (addL (by simp; omega))) (lA_of (aC_of rfl (aC_of rfl (aC_of (l2_of rfl rfl rfl) rfl))) ep) ?_
      show atI ([c.s 0]++(List.range k).map fun i=>c.s (i+1)) (p:Int)=_
      refine atI_nat ?_
      cases p with
      | zero=>rfl
      | succ j =>
        show ((List.range k).map fun i=>c.s (i+1))[j]?=_
        rw [List.getElem?_map,List.getElem?_range (by omega)]
        rfl
    obtain ⟨pa,pb,hbp,epl⟩:=two_ok hn (-3) 5 (mp:=[none,some 0,some 5]) (f:=l2 pSub (lA F__law_drawn (aC (eV 1) (aC (l2 pAdd (l2 pAdd (eV 2) (eC (.int 1))) (eV 0)) (aC (eC (.int 9)) aN)))) (eC (.int 3)))
      (η:=[.val (Sd ns),.val (.int 0),.val c.d,.val (.int tn),.val (.int (0+(k:Nat))),.val (.int hr),.val (c.s p),s7,s8,s9,s10,s11,s12]) fun j hj=>by
        obtain ⟨r,hr9,er⟩:=drawn_ok hn (k:=hr+1+(0+(j:Nat))) (m:=9) (by omega) (by decide)
        exact ⟨(r:Int) - 3,by omega,l2_of (lA_of (aC_of rfl (aC_of (l2_of (l2_of rfl rfl rfl) rfl rfl) (aC_of rfl rfl))) er) rfl rfl⟩
    obtain ⟨sa,sb,hbs,esz⟩:=two_ok hn 0 8 (mp:=[none,some 0,some 5]) (f:=lA F__law_drawn (aC (eV 1) (aC (l2 pAdd (l2 pAdd (eV 2) (eC (.int 3))) (eV 0)) (aC (eC (.int 9)) aN))))
      (η:=[.val (Sd ns),.val (.int 0),.val c.d,.val (.int tn),.val (.int (0+(k:Nat))),.val (.int hr),.val (c.s p),.val (.list [.int pa,.int pb]),s8,s9,s10,s11,s12]) fun j hj=>by
        obtain ⟨r,hr9,er⟩:=drawn_ok hn (k:=hr+3+(0+(j:Nat))) (m:=9) (by omega) (by decide)
        exact ⟨(r:Int),by omega,lA_of (aC_of rfl (aC_of (l2_of (l2_of rfl rfl rfl) rfl rfl) (aC_of rfl rfl))) er⟩
    obtain ⟨m,u,v,hm,em⟩:=marks_ok hn (x1:=.val (.int 0)) (x2:=.val c.d) (x3:=.val (.int tn)) (x4:=.val (.int (0+(k:Nat)))) (x6:=.val (c.s p)) (x7:=.val (.list [.int pa,.int pb])) (x8:=.val (.list [.int sa,.int sb])) hr0 s10 s11 s12
    have enm:l2 pIx (eC (.str "dbgahcfe")) (l2 pMod (l2 pAdd (eV 4) (eV 3)) (eC (.int 8))) [.val (Sd ns),.val (.int 0),.val c.d,.val (.int tn),.val (.int (0+(k:Nat))),.val (.int hr),.val (c.s p),.val (.list [.int pa,.int pb]),.val (.list [.int sa,.int sb]),.val (.str m),u,v,s12]=some (c.s (k+1)):=by
      refine l2_of rfl (l2_of (l2_of rfl rfl rfl) rfl (pMod_ok (by decide))) ?_
      show (if ("dbgahcfe" : Str).length≤sizeLine then (atI ("dbgahcfe" : Str).cps.toList ((0+(k:Nat)+(tn:Int)) % 8)).bind _ else none)=_
      rw [if_pos dbg_len,dbg]
      have e8:((0+(k:Nat)+(tn:Int)) % 8:Int)=(((k+tn) % 8:Nat):Int):=by omega
      have hlt:(k+tn) % 8 < 8:=Nat.mod_lt _ (by decide)
      rw [e8,atI_nat (v:=let8.getD ((k+tn) % 8) 0) (by rw [List.getD_eq_getElem?_getD,List.getElem?_eq_getElem (show (k+tn) % 8 < let8.length from hlt)]; rfl)]
      unfold Dr.s
      rw [hnm,nmT_lo (by omega)]
      rfl
    have hcd:c.d=.tuple ((List.range c.ps.length).map c.box):=rfl
    have efin:l2 pAdd (eV 2) (lA (fun ds=>if ds.length≤sizeLine then some (.tuple ds) else none) (aC (l2 pAdd (l2 pAdd (lA (fun ds=>if ds.length≤sizeLine then some (.tuple ds) else none) (aC (eV 12) (aC (eV 6) aN))) (lA pTup (aC (l2 pAdd (eV 7) (eV 8)) aN))) (lA (fun ds=>if ds.length≤sizeLine then some (.tuple ds) else none) (aC (eV 9) aN))) aN))
        [.val (Sd ns),.val (.int 0),.val c.d,.val (.int tn),.val (.int (0+(k:Nat))),.val (.int hr),.val (c.s p),.val (.list [.int pa,.int pb]),.val (.list [.int sa,.int sb]),.val (.str m),u,v,.val (c.s (k+1))]=some (c.more p pa pb sa sb m).d:=by
      rw [Dr.more_d]
      refine l2_of (x:=c.d) rfl (lA_of (aC_of (l2_of (l2_of (lA_of (aC_of rfl (aC_of rfl rfl)) (tup1_ok (by simp))) (lA_of (aC_of (l2_of rfl rfl (addL (by simp))) rfl) rfl) (addT (by simp))) (lA_of (aC_of rfl rfl) (tup1_ok (by simp))) (addT (by simp))) rfl) (tup1_ok (by simp))) ?_
      rw [hcd]
      refine (addT (by simp; omega)).trans ?_
      rw [hlen]
      rfl
    refine ⟨[.val (Sd ns),.val (.int 0),.val (c.more p pa pb sa sb m).d,.val (.int tn),.val (.int (0+(k:Nat))),.val (.int hr),.val (c.s p),.val (.list [.int pa,.int pb]),.val (.list [.int sa,.int sb]),.val (.str m),u,v,.val (c.s (k+1))],rfl,?_,
      c.more p pa pb sa sb m,_,_,_,_,_,_,_,_,_,Dr.more_ok hc (by omega) (by omega) pa pb sa sb hm.1 ⟨hbp.1,hbp.2,hbs.1,hbs.2⟩ hm.2,hnm,by simp [Dr.more,hlen],rfl⟩
    refine seq_of (set_of hh) (seq_of (set_of ea) (seq_of (setO_of epl) ?_))
    refine seq_of (setO_of esz) ?_
    refine seq_of (set_of rfl) (seq_of em (seq_of (set_of enm) (set_of efin)))
  obtain ⟨η',e1,c,s4,s5,s6,s7,s8,s9,s10,s11,s12,hc,hnm,hlen,rfl⟩:=main
  refine ⟨c,tn,hc,hnm,by omega,?_⟩
  unfold F__law_scene runF
  rw [if_pos (by rfl)]
  show Option.bind (g__law_scene F__law_drawn [.val (Sd ns),.val (.int 0),.un,.un,.un,.un,.un,.un,.un,.un,.un,.un,.un]) _=_
  have e2:g__law_scene F__law_drawn [.val (Sd ns),.val (.int 0),.un,.un,.un,.un,.un,.un,.un,.un,.un,.un,.un]=some (.rt c.d):=by
    refine seq_of (set_of (lA_of rfl (tup1_ok (by decide)))) (seq_of (set_of (lA_of (aC_of rfl (aC_of (l2_of rfl rfl rfl) (aC_of rfl rfl))) et)) (seq_of (for_of ?_ e1) rfl))
    show Option.bind (aC (lA F__law_drawn _) aN _) rng1=_
    rw [aC_of (lA_of (aC_of rfl (aC_of rfl (aC_of rfl rfl))) en) rfl]
    rw [Option.bind_some,rng1_ok (by omega) (by omega),Int.toNat_natCast]
  rw [e2]; rfl
end
end K23
namespace K23
open PySem L2 L2.PU
theorem bAndF {f g:En→Option Bool} {η:En} (h1:f η=some false):bAnd f g η=some false:=by
  unfold bAnd
  rw [h1]; rfl
theorem bAndT {f g:En→Option Bool} {η:En} {b:Bool} (h1:f η=some true) (h2:g η=some b):bAnd f g η=some b:=by
  unfold bAnd
  rw [h1]; exact h2
theorem ifF {c:En→Option Bool} {f g:En→Option Out} {η:En} (h:c η=some false):sIf c f g η=g η:=by
  rw [if_of h]; rfl
theorem vIf_of {c:En→Option Bool} {f g:En→Option PyData} {η:En} {b:Bool} (h:c η=some b):vIf c f g η=if b=true then f η else g η:=by
  unfold vIf
  rw [h]; rfl
theorem eSl_of {f:En→Option PyData} {fl fh:En→Option (Option Int)} {η:En} {x d:PyData} {l h:Option Int} (h1:f η=some x) (h2:fl η=some l) (h3:fh η=some h) (h4:pSl x l h=some d):eSl f fl fh η=some d:=by
  unfold eSl
  rw [h1,Option.bind_some,h2,Option.bind_some,h3]; exact h4
theorem pS_of {f:En→Option PyData} {η:En} {i:Int} (h:f η=some (.int i)):pS f η=some (some i):=by
  unfold pS
  rw [h]; rfl
theorem lI_of {k:PyData→Option (List PyData)} {f:En→Option PyData} {η:En} {d:PyData} {ds:List PyData} (h:f η=some d) (h2:k d=some ds):lI k f η=some ds:=by
  unfold lI
  rw [h]; exact h2
section
variable {c:Sc} (h:c.Ok)
include h
omit h in
theorem at_s {l:List Nat} {i:Int} {x:Nat} (e:atI l i=some x):atI (l.map c.s) i=some (c.s x):=by
  unfold atI at e ⊢
  obtain ⟨j,h1,h2⟩:=bind_some e
  rw [List.length_map,h1,Option.bind_some,List.getElem?_map,h2]; rfl
omit h in
theorem cut_map {α β:Type} (f:α→β) (xs:List α) (lo hi:Option Int):cutL (xs.map f) lo hi=(cutL xs lo hi).map f:=by
  unfold cutL
  rw [List.length_map,List.map_take,List.map_drop]
end
end K23
namespace K23
open PySem L2 L2.PU
section
variable {c:Sc} (h:c.Ok)
include h
theorem F_area_eq {q p:Nat} {l:List Nat} (h1:parN c.st q=some p) (e:pthN c.st 13 q=some l) (pr:Nat→Nat) (hl:∀ x∈l,parN c.st x=some (pr x)) (hz:l.length≤3000000) :
    F_area_of [c.d,c.s q]=some (.tuple [.int ((l.map fun x=>c.L x).sum),.int ((l.map fun x=>c.T x).sum),.int ((l.map fun x=>c.L x).sum+c.W q),.int ((l.map fun x=>c.T x).sum+c.H q)]):=by
  unfold F_area_of runF
  rw [if_pos (by rfl)]
  show (g_area_of (F_path_of 13) F_box_of [.val c.d,.val (c.s q),.un,.un,.un,.un]).bind _=_
  have all:∀ l:List Nat,l.filter (fun _=>true)=l:=fun l=>by simp
  have e0:sComp [none,some 0] (lI asL (lA (F_path_of 13) (aC (eV 0) (aC (eV 1) aN)))) (tgN 0) tTrue (lA F_box_of (aC (eV 1) (aC (eV 0) aN))) [.val c.d,.val (c.s q),.un,.un,.un,.un]=some (l.map fun x=>c.box (x,pr x)):=by
    show Option.bind (Option.bind (F_path_of 13 [c.d,c.s q]) asL) _=_
    rw [F_path_eq h 13 q l e]
    show (if (l.map c.s).length≤sizeLine then _ else _)=_
    rw [if_pos (by rw [List.length_map]; exact big hz)]
    have:=cGo_map (t:=tgN 0) (p:=tTrue) (f:=lA F_box_of (aC (eV 1) (aC (eV 0) aN))) (η:=[.un,.val c.d]) c.s (fun _=>true) (fun x=>c.box (x,pr x)) l fun x hx=>⟨_,rfl,rfl,fun _=>F_box_eq h (hl x hx)⟩
    rw [all] at this
    exact this
  have sm:∀ (k:Int) (Y:Nat→Int) (η:En),(∀ x,(l2 pIx (eV 0) (eC (.int k))) [.val (c.box (x,pr x))]=some (.int (Y x)))→eV 2 η=some (.list (l.map fun x=>c.box (x,pr x))) →
      lA pSum (aC (oE (sComp [none] (lI asL (eV 2)) (tgN 0) tTrue (l2 pIx (eV 0) (eC (.int k))))) aN) η=some (.int ((l.map fun x=>Y x).sum)):=fun k Y η hY hη=>by
    have e1:sComp [none] (lI asL (eV 2)) (tgN 0) tTrue (l2 pIx (eV 0) (eC (.int k))) η=some ((l.map fun x=>Y x).map PyData.int):=by
      show Option.bind (Option.bind (eV 2 η) asL) _=_
      rw [hη]
      show (if (l.map fun x=>c.box (x,pr x)).length≤sizeLine then _ else _)=_
      rw [if_pos (by rw [List.length_map]; exact big hz)]
      have:=cGo_map (t:=tgN 0) (p:=tTrue) (f:=l2 pIx (eV 0) (eC (.int k))) (η:=inEn [none] η) (fun x=>c.box (x,pr x)) (fun _=>true) (fun x=>.int (Y x)) l fun x hx=>⟨_,rfl,rfl,fun _=>hY x⟩
      rw [all] at this
      rw [List.map_map]
      exact this
    show Option.bind (Option.bind (Option.bind (sComp _ _ _ _ _ η) _) _) _=_
    rw [e1]
    show pSum [.list ((l.map fun x=>Y x).map PyData.int)]=_
    unfold pSum
    dsimp only
    rw [asIs_ints]; rfl
  unfold g_area_of sSeq sSetO
  rw [e0]
  have s1:=sm 2 c.L [.val c.d,.val (c.s q),.val (.list (l.map fun x=>c.box (x,pr x))),.un,.un,.un] (fun _=>rfl) rfl
  have s2:=sm 3 c.T [.val c.d,.val (c.s q),.val (.list (l.map fun x=>c.box (x,pr x))),.val (.int ((l.map fun x=>c.L x).sum)),.un,.un] (fun _=>rfl) rfl
  have s3:=F_box_eq h h1
  show Option.bind (Option.bind (sSet 3 _ [.val c.d,.val (c.s q),.val (.list (l.map fun x=>c.box (x,pr x))),.un,.un,.un]) _) _=_
  unfold sSet
  rw [s1,Option.bind_some,Option.bind_some]
  show Option.bind (Option.bind (Option.bind (lA pSum _ [.val c.d,.val (c.s q),.val (.list (l.map fun x=>c.box (x,pr x))),.val (.int ((l.map fun x=>c.L x).sum)),.un,.un]) _) _) _=_
  rw [s2,Option.bind_some,Option.bind_some]
  show Option.bind (Option.bind (Option.bind (F_box_of [c.d,c.s q]) _) _) _=_
  rw [s3]
  rfl
end
end K23
namespace K23
open PySem L2 L2.PU
theorem bind_of {α β:Type} {o:Option α} {k:α→Option β} {x:α} {r:Option β} (h:o=some x) (h2:k x=r):o.bind k=r:=by
  rw [h]; exact h2
theorem l1_of {o:PyData→Option PyData} {f:En→Option PyData} {η:En} {x d:PyData} (h1:f η=some x) (h2:o x=some d):l1 o f η=some d:=by
  unfold l1
  rw [h1]; exact h2
theorem pNe_self {d:PyData} (h:SeqAt.shaped d=true):pNe d d=some (.bool false):=by
  unfold pNe
  rw [if_pos ⟨h,h⟩,SeqAt.eqv_refl d (SeqAt.canLay_of_shaped h)]; rfl
theorem ifN {c:En→Option Bool} {f:En→Option Out} {η:En} (h:c η=some false):sIf c f sNx η=some (.nx η):=by
  rw [ifF h]; rfl
theorem bNot_of {f:En→Option Bool} {η:En} {b:Bool} (h:f η=some b):bNot f η=some (!b):=by
  unfold bNot
  rw [h]; rfl
theorem bAnd_of {f g:En→Option Bool} {η:En} {a b:Bool} (h1:f η=some a) (h2:g η=some b):bAnd f g η=some (a&&b):=by
  unfold bAnd
  rw [h1]
  cases a with
  | false=>rfl
  | true=>exact h2
theorem vNot_of {f:En→Option PyData} {η:En} {b:Bool} (h:f η=some (.bool b)):vNot f η=some (.bool (!b)):=by
  unfold vNot
  rw [h]; rfl
theorem vAnd_of {f g:En→Option PyData} {η:En} {a b:Bool} (h1:f η=some (.bool a)) (h2:g η=some (.bool b)):vAnd f g η=some (.bool (a&&b)):=by
  unfold vAnd
  rw [h1]
  cases a with
  | false=>rfl
  | true=>exact h2
theorem lch_of {f g h:En→Option PyData} {η:En} {i j k:Int} (hf:f η=some (.int i)) (hg:g η=some (.int j)) (hh:h η=some (.int k)):lch pLe pLt f g h η=some (.bool (decide (i≤j)&&decide (j < k))):=by
  have e1:pLe (.int i) (.int j)=some (.bool (decide (i≤j))):=rfl
  have e2:pLt (.int j) (.int k)=some (.bool (decide (j < k))):=rfl
  unfold lch
  rw [hf,Option.bind_some,hg,Option.bind_some,e1,Option.bind_some]
  show (if decide (i≤j)=true then (h η).bind fun w=>pLt (.int j) w else some (.bool false))=_
  cases decide (i≤j) with
  | false=>rfl
  | true=>rw [if_pos rfl,hh,Option.bind_some,e2]; rfl
theorem run_of {n m:Nat} {g:En→Option Out} {ds:List PyData} {d:PyData} (hl:ds.length=n) (h:g (ds.map Sl.val++List.replicate (m - n) .un)=some (.rt d)):runF n m g ds=some d:=by
  unfold runF
  rw [if_pos hl,h]; rfl
theorem ret_of {f:En→Option PyData} {η:En} {d:PyData} (h:f η=some d):sRet f η=some (.rt d):=by
  unfold sRet
  rw [h]; rfl
theorem cGo_mapT {ι:Type} {t:En→PyData→Option En} {f:En→Option PyData} {η:En} (D:ι→PyData) (Y:ι→PyData) (xs:List ι) (h:∀ x∈xs,∃ η1,t η (D x)=some η1∧f η1=some (Y x)):cGo t tTrue f η (xs.map D)=some (xs.map Y):=by
  have:=cGo_map (t:=t) (p:=tTrue) (f:=f) (η:=η) D (fun _=>true) Y xs fun x hx=>by
    obtain ⟨η1,h1,h2⟩:=h x hx
    exact ⟨η1,h1,rfl,fun _=>h2⟩
  rw [show xs.filter (fun _=>true)=xs by simp] at this
  exact this
theorem pAny_of (bs:List Bool):pAny [.list (bs.map PyData.bool)]=some (.bool (bs.any id)):=by
  unfold pAny pBools
  dsimp only
  rw [asBs_bools]; rfl
theorem pMax_of (i j:Int):pMax [.int i,.int j]=some (.int (max i j)):=by
  show some (PyData.int (if j > i then j else i))=_
  have:(if j > i then j else i)=max i j:=by split <;> omega
  rw [this]
theorem pMin_of (i j:Int):pMin [.int i,.int j]=some (.int (min i j)):=by
  show some (PyData.int (if j < i then j else i))=_
  have:(if j < i then j else i)=min i j:=by split <;> omega
  rw [this]
noncomputable def inM (s m:Str):Bool:=!(Builtin.Str.occurrences m s 0 m.length 1).isEmpty
noncomputable def Sc.geo (c:Sc):Geo:=⟨c.L,c.T,c.W,c.H,fun q=>inM "c" (c.mr q),fun q=>inM "h" (c.mr q),fun q=>inM "l" (c.mr q)⟩
noncomputable def arD (a:Ar):PyData:=.tuple [.int a.1,.int a.2.1,.int a.2.2.1,.int a.2.2.2]
structure Tr (c:Sc) (ps:List Nat) (D:Nat→Prop) (pnt:List Nat):Prop where
  ok:c.Ok
  din:∀ q,D q→In ps q
  par:∀ q,D q→parN c.st q=some (K23.par ps q)
  path:∀ q,D q→pthN c.st 13 q=some (P ps q)
  up:∀ q,D q→∀ x∈P ps q,D x
  pn:pntN c.st=some pnt
  pd:∀ q∈pnt,D q
  pl:pnt.length≤2000000
  ps:PsOk ps
theorem P_len {ps:List Nat} (q:Nat):(P ps q).length≤q:=pF_len q q
theorem not_any (h:Nat→Bool):∀ l:List Nat,(!(l.map h).any id)=l.all fun x=>!h x
  | []=>rfl
  | x::r=>by
    have:=not_any h r
    rw [List.map_cons,List.any_cons,List.all_cons,← this]
    cases h x <;> simp
section
variable {c:Sc} {ps:List Nat} {D:Nat→Prop} {pnt:List Nat} (t:Tr c ps D pnt)
include t
theorem T_box {q:Nat} (hq:D q):F_box_of [c.d,c.s q]=some (c.box (q,par ps q)):=F_box_eq t.ok (t.par q hq)
theorem T_path {q:Nat} (hq:D q):F_path_of 13 [c.d,c.s q]=some (c.S (P ps q)):=F_path_eq t.ok 13 q _ (t.path q hq)
theorem in_7 {q:Nat} (hq:D q):q≤7:=Nat.le_trans (t.din q hq).2 t.ps.len
theorem P_7 {q:Nat} (hq:D q):(P ps q).length≤7:=Nat.le_trans (P_len q) (in_7 t hq)
theorem T_area {q:Nat} (hq:D q):F_area_of [c.d,c.s q]=some (arD (c.geo.area ps q)) :=
  F_area_eq t.ok (t.par q hq) (t.path q hq) (par ps) (fun x hx=>t.par x (t.up q hq x hx)) (by have:=P_7 t hq; omega)
theorem T_painted:F_painted [c.d]=some (c.S pnt):=F_painted_eq t.ok t.pn
theorem T_mark {q:Nat} (hq:D q) (m:Str):F_has_mark [c.d,c.s q,.str m]=some (.bool (inM m (c.mr q))) :=
  run_of rfl (show g_has_mark F_box_of [.val c.d,.val (c.s q),.val (.str m)]=_ from ret_of (l2_of rfl (l2_of (lA_of (aC_of rfl (aC_of rfl rfl)) (T_box t hq)) rfl rfl) rfl))
theorem T_shown {q:Nat} (hq:D q):F_is_shown [c.d,c.s q]=some (.bool (c.geo.shown ps q)):=by
  have e:sComp [none,some 0] (lI asL (lA (F_path_of 13) (aC (eV 0) (aC (eV 1) aN)))) (tgN 0) tTrue (lA F_has_mark (aC (eV 1) (aC (eV 0) (aC (eC (.str "h")) aN)))) [.val c.d,.val (c.s q)]=some (((P ps q).map c.geo.h).map PyData.bool):=by
    refine comp_eq (ds:=(P ps q).map c.s) (lI_of (lA_of (aC_of rfl (aC_of rfl rfl)) (T_path t hq)) rfl) (by rw [List.length_map]; have:=P_7 t hq; omega) ?_
    rw [List.map_map]
    exact cGo_mapT (η:=[.un,.val c.d]) c.s (fun x=>.bool (c.geo.h x)) (P ps q) fun x hx=>⟨[.val (c.s x),.val c.d],rfl,lA_of (aC_of rfl (aC_of rfl (aC_of rfl rfl))) (T_mark t (t.up q hq x hx) "h")⟩
  have e2:=vNot_of (lA_of (aC_of (g:=aN) (oE_of e) rfl) (pAny_of _))
  rw [not_any] at e2
  exact run_of rfl (show g_is_shown (F_path_of 13) F_has_mark [.val c.d,.val (c.s q)]=_ from ret_of e2)
omit t in
theorem T_over (a b:Ar):F_overlap [arD a,arD b]=some (arD (ovl a b)) :=
  run_of rfl (show g_overlap [.val (arD a),.val (arD b),.un,.un]=_ from
    seq_of (set_of (lA_of (aC_of (l2_of rfl rfl rfl) (aC_of (l2_of rfl rfl rfl) rfl)) (pMax_of _ _)))
      (seq_of (set_of (lA_of (aC_of (l2_of rfl rfl rfl) (aC_of (l2_of rfl rfl rfl) rfl)) (pMax_of _ _)))
        (ret_of (lA_of (aC_of rfl (aC_of rfl (aC_of (lA_of (aC_of (l2_of rfl rfl rfl) (aC_of (l2_of rfl rfl rfl) rfl)) (pMin_of _ _)) (aC_of (lA_of (aC_of (l2_of rfl rfl rfl) (aC_of (l2_of rfl rfl rfl) rfl)) (pMin_of _ _)) rfl)))) (tup1_ok (by simp))))))
omit t in
theorem T_point (a:Ar) (x y:Int):F_has_point [arD a,.int x,.int y]=some (.bool (hasP a x y)) :=
  run_of rfl (show g_has_point [.val (arD a),.val (.int x),.val (.int y)]=_ from
    ret_of (vAnd_of (lch_of (l2_of rfl rfl rfl) rfl (l2_of rfl rfl rfl)) (lch_of (l2_of rfl rfl rfl) rfl (l2_of rfl rfl rfl))))
theorem wnd_go {x1:Sl}:∀ (l:List Nat) (w:Ar) (s3:Sl),(∀ x∈l,D x)→∃ s3',sGo (tgN 3) (sIf (bT (lA F_has_mark (aC (eV 0) (aC (eV 3) (aC (eC (.str "c")) aN))))) (sSet 2 (lA F_overlap (aC (eV 2) (aC (lA F_area_of (aC (eV 0) (aC (eV 3) aN))) aN)))) sNx)
    (l.map c.s) [.val c.d,x1,.val (arD w),s3]=some (.nx [.val c.d,x1,.val (arD (wndL c.geo ps l w)),s3'])
  | [],w,s3,_=>⟨s3,rfl⟩
  | x::r,w,s3,h=>by
    have hx:=h x List.mem_cons_self
    obtain ⟨s3',ih⟩:=wnd_go r (if c.geo.c x=true then ovl w (c.geo.area ps x) else w) (.val (c.s x)) fun y hy=>h y (List.mem_cons_of_mem _ hy)
    refine ⟨s3',?_⟩
    rw [List.map_cons]
    unfold sGo wndL
    have eb:bT (lA F_has_mark (aC (eV 0) (aC (eV 3) (aC (eC (.str "c")) aN)))) [.val c.d,x1,.val (arD w),.val (c.s x)]=some (c.geo.c x):=bT_of (lA_of (aC_of rfl (aC_of rfl (aC_of rfl rfl))) (T_mark t hx "c"))
    show Option.bind (sIf _ _ _ [.val c.d,x1,.val (arD w),.val (c.s x)]) _=_
    have e1:sIf (bT (lA F_has_mark (aC (eV 0) (aC (eV 3) (aC (eC (.str "c")) aN))))) (sSet 2 (lA F_overlap (aC (eV 2) (aC (lA F_area_of (aC (eV 0) (aC (eV 3) aN))) aN)))) sNx [.val c.d,x1,.val (arD w),.val (c.s x)]
        = some (.nx [.val c.d,x1,.val (arD (if c.geo.c x=true then ovl w (c.geo.area ps x) else w)),.val (c.s x)]):=by
      rw [if_of eb]
      cases c.geo.c x with
      | false=>rfl
      | true =>
        rw [if_pos rfl,if_pos rfl]
        exact set_of (lA_of (aC_of rfl (aC_of (lA_of (aC_of rfl (aC_of rfl rfl)) (T_area t hx)) rfl)) (T_over w _))
    rw [e1,Option.bind_some]
    exact ih
theorem T_window {q:Nat} (hq:D q):F_window_of [c.d,c.s q]=some (arD (c.geo.wnd ps q)):=by
  obtain ⟨s3,e⟩:=wnd_go t (x1:=.val (c.s q)) (P ps q) (c.geo.area ps q) .un fun x hx=>t.up q hq x hx
  exact run_of rfl (show g_window_of F_area_of (F_path_of 13) F_has_mark F_overlap [.val c.d,.val (c.s q),.un,.un]=_ from
    seq_of (set_of (lA_of (aC_of rfl (aC_of rfl rfl)) (T_area t hq))) (seq_of (for_of (lI_of (lA_of (aC_of rfl (aC_of rfl rfl)) (T_path t hq)) rfl) e) (ret_of rfl)))
omit t in
noncomputable def tkD (c:Sc) (ps:List Nat) (q:Nat):PyData:=.tuple [c.s q,arD (c.geo.wnd ps q)]
theorem kid_in {q:Nat} (h:q∈pnt.reverse.filter (c.geo.shown ps)):D q:=t.pd q (List.mem_reverse.mp (List.mem_filter.mp h).1)
theorem tk_in {q:Nat} (h:q∈tkL c.geo ps pnt):D q:=kid_in t (List.mem_filter.mp h).1
theorem T_takers:F_takers [c.d]=some (.list ((tkL c.geo ps pnt).map (tkD c ps))):=by
  have hk:pnt.length≤3000000:=Nat.le_trans t.pl (by decide)
  have e1:sComp [none,some 0] (fun η=>((aC (lA F_painted (aC (eV 0) aN)) aN) η).bind rvS) (tgN 0) (bT (lA F_is_shown (aC (eV 1) (aC (eV 0) aN)))) (eV 0) [.val c.d,.un]=some ((pnt.reverse.filter (c.geo.shown ps)).map c.s):=by
    refine comp_eq (ds:=pnt.reverse.map c.s) ?_ (by rw [List.length_map,List.length_reverse]; exact hk) ?_
    · refine bind_of (aC_of (lA_of (aC_of rfl rfl) (T_painted t)) rfl) ?_
      show some ((List.map c.s _).reverse)=_
      rw [List.map_reverse]
    · exact cGo_map (η:=[.un,.val c.d]) c.s (c.geo.shown ps) c.s _ fun x hx=>⟨[.val (c.s x),.val c.d],rfl,bT_of (lA_of (aC_of rfl (aC_of rfl rfl)) (T_shown t (t.pd x (List.mem_reverse.mp hx)))),fun _=>rfl⟩
  have e2:sComp [none,some 0] (lI asL (eV 1)) (tgN 0) (bNot (bT (lA F_has_mark (aC (eV 1) (aC (eV 0) (aC (eC (.str "l")) aN)))))) (lA (fun ds=>if ds.length≤sizeLine then some (.tuple ds) else none) (aC (eV 0) (aC (lA F_window_of (aC (eV 1) (aC (eV 0) aN))) aN)))
      [.val c.d,.val (.list ((pnt.reverse.filter (c.geo.shown ps)).map c.s))]=some ((tkL c.geo ps pnt).map (tkD c ps)):=by
    refine comp_eq (ds:=(pnt.reverse.filter (c.geo.shown ps)).map c.s) (lI_of rfl rfl) ?_ ?_
    · rw [List.length_map]
      refine Nat.le_trans (List.length_filter_le ..) ?_
      rw [List.length_reverse]; exact hk
    · exact cGo_map (η:=[.un,.val c.d]) c.s (fun q=>!c.geo.l q) (tkD c ps) _ fun x hx=>⟨[.val (c.s x),.val c.d],rfl,bNot_of (bT_of (lA_of (aC_of rfl (aC_of rfl (aC_of rfl rfl))) (T_mark t (kid_in t hx) "l"))),fun _=>lA_of (aC_of rfl (aC_of (lA_of (aC_of rfl (aC_of rfl rfl)) (T_window t (kid_in t hx))) rfl)) (tup1_ok (by simp))⟩
  exact run_of rfl (show g_takers F_painted F_is_shown F_has_mark F_window_of [.val c.d,.un]=_ from seq_of (setO_of e1) (ret_of (oE_of e2)))
omit t in
noncomputable def hdD (c:Sc):List Nat→PyData
  | []=>.none
  | q::_=>c.s q
theorem first_go (x y:Int) {x0:Sl}:∀ (l:List Nat) (s3 s4:Sl),(∀ q∈l,D q) →
    (l.filter (c.geo.tch ps x y)=[]→∃ s3' s4',sGo (tgT (tgCons (tgN 3) (tgCons (tgN 4) tgNil))) (sIf (bT (lA F_has_point (aC (eV 4) (aC (eV 1) (aC (eV 2) aN))))) (sRet (eV 3)) sNx) (l.map (tkD c ps)) [x0,.val (.int x),.val (.int y),s3,s4]=some (.nx [x0,.val (.int x),.val (.int y),s3',s4']))
    ∧ (∀ q r,l.filter (c.geo.tch ps x y)=q::r→sGo (tgT (tgCons (tgN 3) (tgCons (tgN 4) tgNil))) (sIf (bT (lA F_has_point (aC (eV 4) (aC (eV 1) (aC (eV 2) aN))))) (sRet (eV 3)) sNx) (l.map (tkD c ps)) [x0,.val (.int x),.val (.int y),s3,s4]=some (.rt (c.s q)))
  | [],s3,s4,_=>⟨fun _=>⟨s3,s4,rfl⟩,fun q r e=>by cases e⟩
  | p::l,s3,s4,h=>by
    have hp:=h p List.mem_cons_self
    have ih:=first_go x y (x0:=x0) l (.val (c.s p)) (.val (arD (c.geo.wnd ps p))) fun q hq=>h q (List.mem_cons_of_mem _ hq)
    have eb:bT (lA F_has_point (aC (eV 4) (aC (eV 1) (aC (eV 2) aN)))) [x0,.val (.int x),.val (.int y),.val (c.s p),.val (arD (c.geo.wnd ps p))]=some (c.geo.tch ps x y p):=by
      rw [← wnd_has t.ps (t.din p hp).1]
      exact bT_of (lA_of (aC_of rfl (aC_of rfl (aC_of rfl rfl))) (T_point _ x y))
    have es:sGo (tgT (tgCons (tgN 3) (tgCons (tgN 4) tgNil))) (sIf (bT (lA F_has_point (aC (eV 4) (aC (eV 1) (aC (eV 2) aN))))) (sRet (eV 3)) sNx) ((p::l).map (tkD c ps)) [x0,.val (.int x),.val (.int y),s3,s4]
        = if c.geo.tch ps x y p=true then some (.rt (c.s p)) else sGo (tgT (tgCons (tgN 3) (tgCons (tgN 4) tgNil))) (sIf (bT (lA F_has_point (aC (eV 4) (aC (eV 1) (aC (eV 2) aN))))) (sRet (eV 3)) sNx) (l.map (tkD c ps)) [x0,.val (.int x),.val (.int y),.val (c.s p),.val (arD (c.geo.wnd ps p))]:=by
      rw [List.map_cons]
      conv=>lhs; unfold sGo
      show Option.bind (sIf _ _ _ [x0,.val (.int x),.val (.int y),.val (c.s p),.val (arD (c.geo.wnd ps p))]) _=_
      rw [if_of eb]
      cases c.geo.tch ps x y p <;> rfl
    rw [es,List.filter_cons]
    cases c.geo.tch ps x y p with
    | false =>
      rw [if_neg Bool.false_ne_true,if_neg Bool.false_ne_true]
      exact ih
    | true =>
      rw [if_pos rfl,if_pos rfl]
      exact ⟨fun e=>(by cases e),fun q r e=>(by cases e; rfl)⟩
theorem T_first (x y:Int):F_first_at [.list ((tkL c.geo ps pnt).map (tkD c ps)),.int x,.int y]=some (hdD c (hitL c.geo ps pnt x y)):=by
  have:=first_go t x y (x0:=.val (.list ((tkL c.geo ps pnt).map (tkD c ps)))) (tkL c.geo ps pnt) .un .un fun q hq=>tk_in t hq
  have eh:hitL c.geo ps pnt x y=(tkL c.geo ps pnt).filter (c.geo.tch ps x y):=rfl
  rw [eh]
  cases hh:(tkL c.geo ps pnt).filter (c.geo.tch ps x y) with
  | nil =>
    obtain ⟨s3,s4,e⟩:=this.1 hh
    exact run_of rfl (show g_first_at F_has_point [.val (.list ((tkL c.geo ps pnt).map (tkD c ps))),.val (.int x),.val (.int y),.un,.un]=_ from seq_of (for_of (lI_of rfl rfl) e) (ret_of rfl))
  | cons q r =>
    have e:=this.2 q r hh
    refine run_of rfl (show g_first_at F_has_point [.val (.list ((tkL c.geo ps pnt).map (tkD c ps))),.val (.int x),.val (.int y),.un,.un]=_ from ?_)
    unfold g_first_at sSeq
    rw [for_of (r:=some (.rt (c.s q))) (lI_of rfl rfl) e]
    rfl
end
end K23
namespace K23
open PySem L2 L2.PU
noncomputable def kD (c:Sc):Option Nat→PyData
  | some x=>c.s x
  | none=>.none
noncomputable def oL (c:Sc):Option (List Nat)→PyData
  | some l=>c.S l
  | none=>.none
structure Hd where
  trail:List Nat
  pr:Option (List Nat)
  held:Option Nat
  clk:Option Nat
  mom:Int
  dbl:Bool
noncomputable def hd0:Hd:=⟨[],none,none,none,0,false⟩
noncomputable def hf (c:Sc) (h:Hd):List (Str×D):=[("trail", .d (c.S h.trail)),("pressed_at", .d (oL c h.pr)),("held_by", .d (kD c h.held)),("clicked", .d (kD c h.clk)),("clicked_moment", .d (.int h.mom)),("was_double", .d (.bool h.dbl))]
noncomputable abbrev Ho (c:Sc) (s:Sto) (m:Nat) (h:Hd):Prop:=s[m]?=some (.obj 0 (hf c h))
noncomputable def rD (c:Sc) (r:Str×Nat):PyData:=.tuple [.str r.1,c.s r.2]
noncomputable def Rw (c:Sc) (l:List (Str×Nat)):PyData:=.list (l.map (rD c))
noncomputable def shN:List Nat→List Nat→List Nat
  | x::xs,y::ys=>if x=y then x::shN xs ys else []
  | _,_=>[]
theorem fld_of {w:Wd} {i m k:Nat} {fs:List (Str×D)} {f:Str} {x:PyData} (h1:w.η[i]?=some (some (.r m))) (h2:w.s[m]?=some (.obj k fs)) (h3:fs.lookup f=some (.d x)):eFld i f (vw w)=some x:=by
  unfold eFld vw
  rw [List.getElem?_map,h1]
  show (match some (vwS (pD w.s) w.s (some (.r m))) with | some (.ob fs)=>fs f | _=>none)=_
  rw [vwS_obj h2]
  show (fs.lookup f).bind (pD w.s)=_
  rw [h3]; rfl
theorem cat_r {c:Sc} {l m:List (Str×Nat)} (hl:l.length≤1000) (hm:m.length≤1000):pAdd (Rw c l) (Rw c m)=some (Rw c (l++m)):=by
  unfold pAdd Rw
  dsimp only
  rw [if_pos (by rw [List.length_map,List.length_map]; exact big (by omega)),← List.map_append]
theorem cut_from {α:Type} (xs:List α) (k:Nat):cutL xs (some (k:Int)) none=xs.drop k:=by
  unfold cutL
  rw [HT.sIx_nat,HT.sIx_none]
  rcases Nat.le_total k xs.length with h | h
  · rw [Nat.min_eq_left h]
    exact List.take_of_length_le (by rw [List.length_drop]; omega)
  · rw [Nat.min_eq_right h,List.drop_eq_nil_of_le (Nat.le_refl _),List.drop_eq_nil_of_le h,List.take_nil]
theorem from_s {c:Sc} (l:List Nat) (k:Nat):pSl (c.S l) (some (k:Int)) none=some (c.S (l.drop k)):=by
  show some (PyData.list _)=_
  rw [cut_map,cut_from]; rfl
theorem last_s {c:Sc} (l:List Nat):pSl (c.S l) (some (-1)) none=some (c.S (l.drop (l.length - 1))):=by
  show some (PyData.list (cutL (l.map c.s) (some (-1)) none))=_
  rw [cut_map]
  have:cutL l (some (-1)) none=l.drop (l.length - 1):=by
    unfold cutL
    rw [HT.sIx_none]
    have e:HT.sIx l.length 0 (some (-1))=l.length - 1:=by
      unfold HT.sIx
      first | (dsimp only; split <;> omega) | (dsimp only; omega) | (simp; omega) | skip
    rw [e]
    exact List.take_of_length_le (by rw [List.length_drop]; omega)
  rw [this]; rfl
section
variable {c:Sc} (h:c.Ok)
include h
theorem nes (a b:Nat):pNe (c.s a) (c.s b)=some (.bool (!decide (a=b))):=by
  have:=pNe_str (h.ok a) (h.ok b)
  rw [h.dec] at this
  exact this
theorem sh_go {A B:Sl}:∀ (a b acc:List Nat) (s3 s4:Sl),acc.length+a.length≤1000→∃ s3' s4',sGo (tgT (tgCons (tgN 3) (tgCons (tgN 4) tgNil))) (sSeq (sIf (bT (l2 pNe (eV 3) (eV 4))) sBk sNx) (sApp 2 (eV 3))) (zpD (a.map c.s) (b.map c.s)) [A,B,.own (acc.map c.s),s3,s4]=some (.nx [A,B,.own ((acc++shN a b).map c.s),s3',s4'])
  | [],b,acc,s3,s4,_=>⟨s3,s4,by simp [zpD,sGo,shN]⟩
  | x::xs,[],acc,s3,s4,_=>⟨s3,s4,by simp [zpD,sGo,shN]⟩
  | x::xs,y::ys,acc,s3,s4,hl=>by
    rw [List.map_cons,List.map_cons,zpD]
    unfold sGo shN
    show ∃ s3' s4',Option.bind (some [A,B,.own (acc.map c.s),.val (c.s x),.val (c.s y)]) _=_
    by_cases e:x=y
    · subst e
      obtain ⟨s3',s4',ih⟩:=sh_go xs ys (acc++[x]) (.val (c.s x)) (.val (c.s x)) (by rw [List.length_append]; simp at hl ⊢; omega)
      refine ⟨s3',s4',?_⟩
      have hne:=nes h x x
      rw [decide_eq_true rfl] at hne
      have hb:sSeq (sIf (bT (l2 pNe (eV 3) (eV 4))) sBk sNx) (sApp 2 (eV 3)) [A,B,.own (acc.map c.s),.val (c.s x),.val (c.s x)]=some (.nx [A,B,.own ((acc++[x]).map c.s),.val (c.s x),.val (c.s x)]):=by
        refine seq_of (η1:=[A,B,.own (acc.map c.s),.val (c.s x),.val (c.s x)]) (ifN (bT_of (l2_of rfl rfl hne))) ?_
        show (if (acc.map c.s).length < sizeLine then some (Out.nx [A,B,.own (acc.map c.s++[c.s x]),.val (c.s x),.val (c.s x)]) else none)=_
        rw [if_pos (Nat.lt_of_lt_of_le (show (acc.map c.s).length < 1001 by rw [List.length_map]; omega) (big (by decide))),List.map_append]; rfl
      rw [Option.bind_some,hb,Option.bind_some,if_pos rfl]
      dsimp only
      rw [ih]
      simp
    · refine ⟨.val (c.s x),.val (c.s y),?_⟩
      have hne:=nes h x y
      rw [decide_eq_false e] at hne
      have hb:sSeq (sIf (bT (l2 pNe (eV 3) (eV 4))) sBk sNx) (sApp 2 (eV 3)) [A,B,.own (acc.map c.s),.val (c.s x),.val (c.s y)]=some (.bk [A,B,.own (acc.map c.s),.val (c.s x),.val (c.s y)]):=by
        unfold sSeq
        rw [if_of (b:=true) (bT_of (l2_of rfl rfl hne)),if_pos rfl]; rfl
      rw [Option.bind_some,hb,Option.bind_some,if_neg e]
      simp
theorem F_sh {a b:List Nat} (ha:a.length≤1000):F_shared [c.S a,c.S b]=some (c.S (shN a b)):=by
  obtain ⟨s3,s4,e⟩:=sh_go h (A:=.val (c.S a)) (B:=.val (c.S b)) a b [] .un .un (by simpa using ha)
  refine run_of rfl (show g_shared [.val (c.S a),.val (c.S b),.un,.un,.un]=_ from ?_)
  refine seq_of (η1:=[.val (c.S a),.val (c.S b),.own [],.un,.un]) (setO_of (bind_of rfl (gL_ok (by simp)))) (seq_of (η1:=[.val (c.S a),.val (c.S b),.own ((shN a b).map c.s),s3,s4]) (for_of (bind_of rfl rfl) ?_) rfl)
  simpa using e
end
end K23
namespace K23
open PySem L2 L2.PU
noncomputable def wr (w:Str) (l:List Nat):List (Str×Nat):=l.map fun x=>(w,x)
noncomputable def lead (h:Hd) (p:List Nat):List (Str×Nat):=wr "leave" (h.trail.drop (shN h.trail p).length).reverse++wr "enter" (p.drop (shN h.trail p).length)
noncomputable def tell (h:Hd) (w:Str):List (Str×Nat):=match h.held with | some x=>[(w,x)] | none=>[]
noncomputable def dblC (h:Hd) (x:Nat) (mo:Int):Bool:=decide (h.clk=some x)&&(decide (mo - h.mom≤20)&&!h.dbl)
noncomputable def clickR (h:Hd) (x:Nat) (mo:Int):List (Str×Nat):=if dblC h x mo=true then [("click", x),("double", x)] else [("click", x)]
noncomputable def clickH (h:Hd) (x:Nat) (mo:Int):Hd:={ h with clk:=some x,mom:=mo,dbl:=dblC h x mo }
theorem set_set {l:Sto} {n:Nat} {c c':Cell}:(l.set n c).set n c'=l.set n c':=List.set_set ..
theorem Ho.set {c:Sc} {s:Sto} {m:Nat} {h:Hd} (hc:Ho c s m h) (h':Hd):Ho c (s.set m (.obj 0 (hf c h'))) m h':=List.getElem?_set_self (List.getElem?_eq_some_iff.mp hc).1
theorem tupL (w:Str) {c:Sc} (x:Nat) (η:En) (h:eV 0 η=some (c.s x)):lA (fun ds=>if ds.length≤sizeLine then some (.tuple ds) else none) (aC (eC (.str w)) (aC (eV 0) aN)) η=some (rD c (w,x)) :=
  lA_of (aC_of rfl (aC_of h rfl)) (tup1_ok (by simp))
section
variable {c:Sc} {s:Sto} {m:Nat} {h:Hd}
theorem F_lead (ok:c.Ok) (hc:Ho c s m h) {p:List Nat} (ht:h.trail.length≤1000) (hp:p.length≤1000):F_Hand__lead [.r m,.d (c.S p)] s=some (.d (Rw c (lead h p)),s.set m (.obj 0 (hf c { h with trail:=p }))):=by
  refine mRun_of rfl (show g_Hand__lead F_shared ⟨[some (.r m),some (.d (c.S p)),none,none],s⟩=_ from ?_)
  have ft:∀ (x2 x3:Option D),eFld 0 "trail" (vw ⟨[some (.r m),some (.d (c.S p)),x2,x3],s⟩)=some (c.S h.trail):=fun x2 x3=>fld_of rfl hc rfl
  refine mSeq_of (w1:=⟨[some (.r m),some (.d (c.S p)),some (.d (.int ((shN h.trail p).length:Nat))),none],s⟩) (mSet_of (mP_of (lA_of (aC_of (lA_of (aC_of (ft _ _) (aC_of rfl rfl)) (F_sh ok ht)) rfl) ?_))) ?_
  · show some (PyData.int (((shN h.trail p).map c.s).length:Nat))=_
    rw [List.length_map]
  have e3:sComp [none] (fun η=>((aC (eSl (eFld 0 "trail") (pS (eV 2)) pN) aN) η).bind rvS) (tgN 0) tTrue (lA (fun ds=>if ds.length≤sizeLine then some (.tuple ds) else none) (aC (eC (.str "leave")) (aC (eV 0) aN))) (vw ⟨[some (.r m),some (.d (c.S p)),some (.d (.int ((shN h.trail p).length:Nat))),none],s⟩)=some ((wr "leave" (h.trail.drop (shN h.trail p).length).reverse).map (rD c)):=by
    refine comp_eq (ds:=(h.trail.drop (shN h.trail p).length).reverse.map c.s) (bind_of (aC_of (eSl_of (ft _ _) (pS_of rfl) rfl (from_s _ _)) rfl) ?_) (by rw [List.length_map,List.length_reverse,List.length_drop]; omega) ?_
    · show some ((h.trail.drop (shN h.trail p).length).map c.s).reverse=_
      rw [List.map_reverse]
    · unfold wr
      rw [List.map_map]
      exact cGo_mapT (η:=[.un]) c.s (fun x=>rD c ("leave", x)) _ fun x hx=>⟨[.val (c.s x)],rfl,tupL "leave" x _ rfl⟩
  refine mSeq_of (w1:=⟨[some (.r m),some (.d (c.S p)),some (.d (.int ((shN h.trail p).length:Nat))),some (.d (Rw c (wr "leave" (h.trail.drop (shN h.trail p).length).reverse)))],s⟩) (mSet_of (mC_of e3)) ?_
  refine mSeq_of (w1:=⟨[some (.r m),some (.d (c.S p)),some (.d (.int ((shN h.trail p).length:Nat))),some (.d (Rw c (wr "leave" (h.trail.drop (shN h.trail p).length).reverse)))],s.set m (.obj 0 (hf c { h with trail:=p }))⟩) ?_ (mRet_of (mP_of ?_))
  · rw [mPut_of (d:=.d (c.S p)) (n:=m) (fs:=hf c h) (mP_of (lA_of (aC_of rfl rfl) rfl)) rfl hc (by simp [hf])]
    rfl
  · refine l2_of rfl (oE_of (comp_eq (ds:=(p.drop (shN h.trail p).length).map c.s) (lI_of (eSl_of rfl (pS_of rfl) rfl (from_s _ _)) rfl) (by rw [List.length_map,List.length_drop]; omega) ?_)) (cat_r (l:=wr "leave" (h.trail.drop (shN h.trail p).length).reverse) (m:=wr "enter" (p.drop (shN h.trail p).length)) (by unfold wr; rw [List.length_map,List.length_reverse,List.length_drop]; omega) (by unfold wr; rw [List.length_map,List.length_drop]; omega))
    unfold wr
    rw [List.map_map]
    exact cGo_mapT (η:=[.un]) c.s (fun x=>rD c ("enter", x)) _ fun x hx=>⟨[.val (c.s x)],rfl,tupL "enter" x _ rfl⟩
theorem F_tell (hc:Ho c s m h) (w:Str):F_Hand__tell_holder [.r m,.d (.str w)] s=some (.r s.length,s++[.lst ((tell h w).map fun r=>D.d (rD c r))]):=by
  refine mRun_of rfl (show g_Hand__tell_holder ⟨[some (.r m),some (.d (.str w))],s⟩=_ from mRet_of ?_)
  have fh:eFld 0 "held_by" (vw ⟨[some (.r m),some (.d (.str w))],s⟩)=some (kD c h.held):=fld_of rfl hc rfl
  unfold mIfx tell
  cases hh:h.held with
  | none =>
    rw [hh] at fh
    rw [tPv_of (b:=true) (bT_of (l2_of fh rfl rfl)),Option.bind_some,if_pos rfl]
    rfl
  | some x =>
    rw [hh] at fh
    rw [tPv_of (b:=false) (bT_of (l2_of fh rfl rfl)),Option.bind_some,if_neg Bool.false_ne_true]
    unfold mN
    have e:aC (lA (fun ds=>if ds.length≤sizeLine then some (.tuple ds) else none) (aC (eV 1) (aC (eFld 0 "held_by") aN))) aN (vw ⟨[some (.r m),some (.d (.str w))],s⟩)=some [rD c (w,x)]:=aC_of (lA_of (aC_of rfl (aC_of fh rfl)) (tup1_ok (by simp))) rfl
    show Option.bind (Option.bind (aC _ aN _) gL) _=_
    rw [e,Option.bind_some,gL_ok (by simp)]
    rfl
theorem F_let_go (ok:c.Ok) (hc:Ho c s m h) {q p:List Nat} (hq:h.pr=some q) (hl:q.length≤1000):F_Hand__let_go [.r m,.d (c.S p)] s=some (.d (c.S ((shN q p).drop ((shN q p).length - 1))),s.set m (.obj 0 (hf c { h with pr:=none,held:=none }))):=by
  refine mRun_of rfl (show g_Hand__let_go F_shared ⟨[some (.r m),some (.d (c.S p)),none],s⟩=_ from ?_)
  have fp:eFld 0 "pressed_at" (vw ⟨[some (.r m),some (.d (c.S p)),none],s⟩)=some (c.S q):=(fld_of rfl hc rfl).trans (by rw [hq]; rfl)
  have hc1:Ho c (s.set m (.obj 0 (hf c { h with pr:=none }))) m { h with pr:=none }:=hc.set _
  refine mSeq_of (w1:=⟨[some (.r m),some (.d (c.S p)),some (.d (c.S (shN q p)))],s⟩) (mSet_of (mP_of (lA_of (aC_of fp (aC_of rfl rfl)) (F_sh ok hl)))) ?_
  refine mSeq_of (w1:=⟨[some (.r m),some (.d (c.S p)),some (.d (c.S (shN q p)))],s.set m (.obj 0 (hf c { h with pr:=none }))⟩) ?_ ?_
  · rw [mPut_of (d:=.d .none) (n:=m) (fs:=hf c h) (mP_of rfl) rfl hc (by simp [hf])]
    rfl
  refine mSeq_of (w1:=⟨[some (.r m),some (.d (c.S p)),some (.d (c.S (shN q p)))],s.set m (.obj 0 (hf c { h with pr:=none,held:=none }))⟩) ?_ (mRet_of (mP_of (eSl_of rfl (pS_of rfl) rfl (last_s _))))
  rw [mPut_of (d:=.d .none) (n:=m) (fs:=hf c { h with pr:=none }) (mP_of rfl) rfl hc1 (by simp [hf])]
  show some (MOut.nx ⟨_,(s.set m _).set m _⟩)=_
  rw [set_set]; rfl
theorem eq_k (ok:c.Ok) (K:Option Nat) (x:Nat):pEq (kD c K) (c.s x)=some (.bool (decide (K=some x))):=by
  cases K with
  | none =>
    show pEq .none (.str (c.nm x))=_
    unfold pEq
    rw [if_pos ⟨by rfl,shaped_str (ok.ok x)⟩]
    simp [PyData.eqv]
  | some y =>
    show pEq (c.s y) (c.s x)=_
    rw [ok.eqs]; simp
theorem F_click (ok:c.Ok) (hc:Ho c s m h) (x:Nat) (mo:Int):F_Hand__click [.r m,.d (c.s x),.d (.int mo)] s=some (.d (Rw c (clickR h x mo)),s.set m (.obj 0 (hf c (clickH h x mo)))):=by
  refine mRun_of rfl (show g_Hand__click ⟨[some (.r m),some (.d (c.s x)),some (.d (.int mo)),none,none],s⟩=_ from ?_)
  refine mSeq_of (w1:=⟨[some (.r m),some (.d (c.s x)),some (.d (.int mo)),some (.d (.bool (decide (mo - h.mom≤20)))),none],s⟩) (mSet_of (mP_of (l2_of (l2_of rfl (fld_of rfl hc rfl) rfl) rfl rfl))) ?_
  have e4:vAnd (l2 pEq (eFld 0 "clicked") (eV 1)) (vAnd (eV 3) (vNot (eFld 0 "was_double"))) (vw ⟨[some (.r m),some (.d (c.s x)),some (.d (.int mo)),some (.d (.bool (decide (mo - h.mom≤20)))),none],s⟩)=some (.bool (dblC h x mo)) :=
    vAnd_of (l2_of (fld_of rfl hc rfl) rfl (eq_k ok _ _)) (vAnd_of rfl (vNot_of (fld_of rfl hc rfl)))
  refine mSeq_of (w1:=⟨[some (.r m),some (.d (c.s x)),some (.d (.int mo)),some (.d (.bool (decide (mo - h.mom≤20)))),some (.d (.bool (dblC h x mo)))],s⟩) (mSet_of (mP_of e4)) ?_
  have hc1:=hc.set { h with clk:=some x }
  have hc2:=hc.set { h with clk:=some x,mom:=mo }
  refine mSeq_of (w1:=⟨[some (.r m),some (.d (c.s x)),some (.d (.int mo)),some (.d (.bool (decide (mo - h.mom≤20)))),some (.d (.bool (dblC h x mo)))],s.set m (.obj 0 (hf c { h with clk:=some x }))⟩) ?_ ?_
  · rw [mPut_of (d:=.d (c.s x)) (n:=m) (fs:=hf c h) (mP_of rfl) rfl hc (by simp [hf])]
    rfl
  refine mSeq_of (w1:=⟨[some (.r m),some (.d (c.s x)),some (.d (.int mo)),some (.d (.bool (decide (mo - h.mom≤20)))),some (.d (.bool (dblC h x mo)))],s.set m (.obj 0 (hf c { h with clk:=some x,mom:=mo }))⟩) ?_ ?_
  · rw [mPut_of (d:=.d (.int mo)) (n:=m) (fs:=hf c { h with clk:=some x }) (mP_of rfl) rfl hc1 (by simp [hf])]
    show some (MOut.nx ⟨_,(s.set m _).set m _⟩)=_
    rw [set_set]; rfl
  refine mSeq_of (w1:=⟨[some (.r m),some (.d (c.s x)),some (.d (.int mo)),some (.d (.bool (decide (mo - h.mom≤20)))),some (.d (.bool (dblC h x mo)))],s.set m (.obj 0 (hf c (clickH h x mo)))⟩) ?_ (mRet_of (mP_of ?_))
  · rw [mPut_of (d:=.d (.bool (dblC h x mo))) (n:=m) (fs:=hf c { h with clk:=some x,mom:=mo }) (mP_of rfl) rfl hc2 (by simp [hf])]
    show some (MOut.nx ⟨_,(s.set m _).set m _⟩)=_
    rw [set_set]; rfl
  · have et:∀ w:Str,∀ η:En,eV 1 η=some (c.s x)→lA (fun ds=>if ds.length≤sizeLine then some (.tuple ds) else none) (aC (eC (.str w)) (aC (eV 1) aN)) η=some (rD c (w,x)):=fun w η hη=>lA_of (aC_of rfl (aC_of hη rfl)) (tup1_ok (by simp))
    rw [vIf_of (b:=dblC h x mo) rfl]
    unfold clickR
    cases dblC h x mo with
    | true =>
      rw [if_pos rfl,if_pos rfl]
      exact oE_of (bind_of (aC_of (et _ _ rfl) (aC_of (et _ _ rfl) rfl)) (gL_ok (by simp)))
    | false =>
      rw [if_neg Bool.false_ne_true,if_neg Bool.false_ne_true]
      exact oE_of (bind_of (aC_of (et _ _ rfl) rfl) (gL_ok (by simp)))
end
end K23
namespace K23
open PySem L2 L2.PU
noncomputable def nf (c:Sc) (kd:Nat):List (Str×D):=[("scene", .d c.d),("known", .r kd)]
noncomputable def Bd (h:Hd):Prop:=h.trail.length≤7∧∀ q,h.pr=some q→q.length≤7
structure HOk (c:Sc) (s:Sto) (n kd:Nat) (kvs:List (Key×D)) (K:Int→Hd):Prop where
  ob:s[n]?=some (.obj 1 (nf c kd))
  dc:s[kd]?=some (.dct kvs)
  dflt:∀ j:Int,lookK kvs (.inl j)=none→K j=hd0
  hand:∀ (j:Int) d,lookK kvs (.inl j)=some d→∃ m,d=.r m∧Ho c s m (K j)
  inj:∀ (j j':Int) m,lookK kvs (.inl j)=some (.r m)→lookK kvs (.inl j')=some (.r m)→j=j'
  bd:∀ j,Bd (K j)
noncomputable def Own (n kd:Nat) (kvs:List (Key×D)) (i:Nat):Prop:=i=n∨i=kd∨∃ j:Int,lookK kvs (.inl j)=some (.r i)
structure Stp (s s':Sto) (O O':Nat→Prop):Prop where
  len:s.length≤s'.length
  kp:∀ i,i < s.length→¬ O i→s'[i]?=s[i]?
  ow:∀ i,O' i→O i∨s.length≤i
noncomputable def upK (K:Int→Hd) (j:Int) (h:Hd):Int→Hd:=fun i=>if i=j then h else K i
theorem lt_of {s:Sto} {i:Nat} {x:Cell} (h:s[i]?=some x):i < s.length:=(List.getElem?_eq_some_iff.mp h).1
theorem Stp.trans {s s1 s2:Sto} {O O1 O2:Nat→Prop} (a:Stp s s1 O O1) (b:Stp s1 s2 O1 O2):Stp s s2 O O2:=⟨Nat.le_trans a.len b.len,fun i hi ho=>by
  have n1:¬ O1 i:=fun z=>by
    rcases a.ow i z with y | y
    · exact ho y
    · omega
  rw [b.kp i (Nat.lt_of_lt_of_le hi a.len) n1,a.kp i hi ho],fun i h=>by
  rcases b.ow i h with y | y
  · exact a.ow i y
  · exact .inr (Nat.le_trans a.len y)⟩
section
variable {c:Sc} {s:Sto} {n kd:Nat} {kvs:List (Key×D)} {K:Int→Hd}
theorem HOk.lt (H:HOk c s n kd kvs K) {i:Nat} (h:Own n kd kvs i):i < s.length:=by
  rcases h with rfl | rfl | ⟨j,hj⟩
  · exact lt_of H.ob
  · exact lt_of H.dc
  · obtain ⟨m,e,hm⟩:=H.hand j _ hj
    cases e
    exact lt_of hm
theorem HOk.frame (H:HOk c s n kd kvs K) {s':Sto} (hk:∀ i,Own n kd kvs i→s'[i]?=s[i]?):HOk c s' n kd kvs K where
  ob:=(hk n (.inl rfl)).trans H.ob
  dc:=(hk kd (.inr (.inl rfl))).trans H.dc
  dflt:=H.dflt
  hand:=fun j d h=>by
    obtain ⟨m,rfl,hm⟩:=H.hand j d h
    exact ⟨m,rfl,(hk m (.inr (.inr ⟨j,h⟩))).trans hm⟩
  inj:=H.inj
  bd:=H.bd
theorem HOk.app (H:HOk c s n kd kvs K) (t:Sto):HOk c (s++t) n kd kvs K:=H.frame fun i hi=>List.getElem?_append_left (H.lt hi)
theorem stp_app {O:Nat→Prop} (t:Sto):Stp s (s++t) O O:=⟨by rw [List.length_append]; omega,fun i hi _=>List.getElem?_append_left hi,fun _ h=>.inl h⟩
theorem stp_set {O:Nat→Prop} {i:Nat} {x:Cell} (h:O i):Stp s (s.set i x) O O:=⟨by rw [List.length_set]; exact Nat.le_refl _,fun k _ hk=>List.getElem?_set_ne (by intro e; exact hk (by rw [← e]; exact h)),fun _ h=>.inl h⟩
theorem HOk.setX (H:HOk c s n kd kvs K) {i:Nat} {x:Cell} (h:¬ Own n kd kvs i):HOk c (s.set i x) n kd kvs K:=H.frame fun k hk=>List.getElem?_set_ne (by intro e; exact h (by rw [e]; exact hk))
theorem HOk.put (H:HOk c s n kd kvs K) {j:Int} {m:Nat} (hj:lookK kvs (.inl j)=some (.r m)) {h':Hd} (hb:Bd h'):HOk c (s.set m (.obj 0 (hf c h'))) n kd kvs (upK K j h'):=by
  obtain ⟨m',e,hm⟩:=H.hand j _ hj
  cases e
  have hn:m≠n:=fun e=>by have:=H.ob; rw [← e] at this; rw [hm] at this; cases this
  have hk:m≠kd:=fun e=>by have:=H.dc; rw [← e] at this; rw [hm] at this; cases this
  refine ⟨by rw [List.getElem?_set_ne hn]; exact H.ob,by rw [List.getElem?_set_ne hk]; exact H.dc,fun i hi=>?_,fun i d hi=>?_,H.inj,fun i=>?_⟩
  · unfold upK
    rw [if_neg (fun e=>by rw [e,hj] at hi; cases hi)]
    exact H.dflt i hi
  · obtain ⟨mi,rfl,hmi⟩:=H.hand i d hi
    refine ⟨mi,rfl,?_⟩
    unfold upK
    by_cases e:i=j
    · subst e
      rw [hj] at hi
      cases hi
      rw [if_pos rfl]
      exact hm.set h'
    · rw [if_neg e]
      unfold Ho
      rw [List.getElem?_set_ne fun z=>e (H.inj i j mi hi (by rw [← z]; exact hj))]
      exact hmi
  · unfold upK
    split
    · exact hb
    · exact H.bd i
theorem look_app (kvs:List (Key×D)) (k k':Key) (d:D):lookK (kvs++[(k,d)]) k'=match lookK kvs k' with | some x=>some x | none=>if k=k' then some d else none:=by
  unfold lookK
  rw [List.find?_append]
  cases kvs.find? fun kv=>decide (kv.1=k') with
  | some x=>rfl
  | none =>
    by_cases e:k=k'
    · simp [e]
    · simp [e]
theorem F_hinit (c:Sc) (s0:Sto):F_Hand____init__ [.r s0.length] (s0++[.obj 0 []])=some (.d .none,s0++[.obj 0 (hf c hd0)]):=by
  have st:∀ c c':Cell,(s0++[c]).set s0.length c'=s0++[c']:=fun c c'=>by rw [List.set_append_right _ _ (Nat.le_refl _),Nat.sub_self]; rfl
  have ge:∀ c:Cell,(s0++[c])[s0.length]?=some c:=fun c=>by rw [List.getElem?_append_right (Nat.le_refl _),Nat.sub_self]; rfl
  have p:∀ (f:Str) (e:En→Option PyData) (x:PyData) (fs:List (Str×D)),e (vw ⟨[some (.r s0.length)],s0++[.obj 0 fs]⟩)=some x→fs.length < 999→mPut 0 f (mV 0) (mP e) ⟨[some (.r s0.length)],s0++[.obj 0 fs]⟩=some (.nx ⟨[some (.r s0.length)],s0++[.obj 0 (putA f (.d x) fs)]⟩):=fun f e x fs he hl=>by
    rw [mPut_of (d:=.d x) (n:=s0.length) (fs:=fs) (mP_of he) rfl (ge _) hl]
    dsimp only
    rw [st]
  show runM 1 1 g_Hand____init__ [.r s0.length] (s0++[.obj 0 []])=_
  refine mRunN (w1:=⟨[some (.r s0.length)],s0++[.obj 0 (hf c hd0)]⟩) rfl ?_
  show g_Hand____init__ ⟨[some (.r s0.length)],s0++[.obj 0 []]⟩=_
  refine mSeq_of (p _ _ (.list []) _ (oE_of (bind_of rfl (gL_ok (by simp)))) (by simp)) ?_
  refine mSeq_of (p _ _ .none _ rfl (by decide +kernel)) ?_
  refine mSeq_of (p _ _ .none _ rfl (by decide +kernel)) ?_
  refine mSeq_of (p _ _ .none _ rfl (by decide +kernel)) ?_
  refine mSeq_of (p _ _ (.int 0) _ rfl (by decide +kernel)) ?_
  rw [p _ _ (.bool false) _ rfl (by decide +kernel)]
  rfl
theorem F_hand (H:HOk c s n kd kvs K) (hl:kvs.length < 1000) (j:Int):∃ s' m kvs',F_Hands__hand_of [.r n,.d (.int j)] s=some (.r m,s')∧HOk c s' n kd kvs' K∧lookK kvs' (.inl j)=some (.r m)∧Stp s s' (Own n kd kvs) (Own n kd kvs')∧kvs'.length≤kvs.length+1:=by
  have em:mMake 0 F_Hand____init__ maN ⟨[some (.r n),some (.d (.int j))],s⟩=some (.r s.length,s++[.obj 0 (hf c hd0)]):=mMake_of maN_of (F_hinit c s)
  have hdc:(s++[Cell.obj 0 (hf c hd0)])[kd]?=some (.dct kvs):=by rw [List.getElem?_append_left (lt_of H.dc)]; exact H.dc
  have e0:mFld (mV 0) "known" ⟨[some (.r n),some (.d (.int j))],s⟩=some (.r kd,s):=by
    unfold mFld
    show Option.bind (some (D.r n,s)) _=_
    rw [Option.bind_some]
    dsimp only
    rw [H.ob]
    rfl
  have run:∀ d s',(match lookK kvs (.inl j) with | some d=>some (d,s++[Cell.obj 0 (hf c hd0)]) | none=>if kvs.length < sizeLine then some (D.r s.length,(s++[Cell.obj 0 (hf c hd0)]).set kd (.dct (kvs++[(.inl j,.r s.length)]))) else none)=some (d,s')→F_Hands__hand_of [.r n,.d (.int j)] s=some (d,s'):=fun d s' h=>by
    refine mRun_of rfl (show g_Hands__hand_of F_Hand____init__ ⟨[some (.r n),some (.d (.int j))],s⟩=_ from mRet_of ?_)
    unfold mSetD
    rw [e0,Option.bind_some]
    dsimp only
    rw [H.dc]
    dsimp only
    rw [show mP (eV 1) (⟨[some (.r n),some (.d (.int j))],s⟩:Wd)=some (.d (.int j),s) from mP_of rfl,Option.bind_some]
    dsimp only
    show Option.bind (some (Sum.inl j)) _=_
    rw [Option.bind_some,em,Option.bind_some]
    dsimp only
    rw [hdc]
    exact h
  cases hj:lookK kvs (.inl j) with
  | some d =>
    obtain ⟨m,rfl,hm⟩:=H.hand j d hj
    exact ⟨_,m,kvs,run _ _ (by rw [hj]),H.app _,hj,stp_app _,Nat.le_succ _⟩
  | none =>
    have hn:n≠kd:=fun e=>by have:=H.dc; rw [← e,H.ob] at this; cases this
    have hk:kd < s.length:=lt_of H.dc
    have lk:∀ i:Int,lookK (kvs++[(Sum.inl j,D.r s.length)]) (.inl i)=match lookK kvs (.inl i) with | some x=>some x | none=>if i=j then some (.r s.length) else none:=fun i=>by
      rw [look_app]
      cases lookK kvs (.inl i) with
      | some x=>rfl
      | none =>
        by_cases e:i=j
        · simp [e]
        · have:¬ (Sum.inl j:Key)=Sum.inl i:=fun z=>e (by cases z; rfl)
          simp [e,this]
    refine ⟨(s++[Cell.obj 0 (hf c hd0)]).set kd (.dct (kvs++[(.inl j,.r s.length)])),s.length,kvs++[(.inl j,.r s.length)],run _ _ ?_,?_,?_,?_,by simp⟩
    · rw [hj]
      dsimp only
      rw [if_pos (Nat.lt_of_lt_of_le hl (big (by decide)))]
    · refine ⟨?_,?_,fun i hi=>?_,fun i d hi=>?_,fun i i' m h1 h2=>?_,H.bd⟩
      · rw [List.getElem?_set_ne (Ne.symm hn),List.getElem?_append_left (lt_of H.ob)]; exact H.ob
      · exact List.getElem?_set_self (by rw [List.length_append]; omega)
      · rw [lk] at hi
        cases q:lookK kvs (.inl i) with
        | some x=>rw [q] at hi; cases hi
        | none=>exact H.dflt i q
      · rw [lk] at hi
        cases q:lookK kvs (.inl i) with
        | some x =>
          rw [q] at hi
          cases hi
          obtain ⟨m,rfl,hm⟩:=H.hand i _ q
          have hmk:kd≠m:=fun e=>by have:=H.dc; rw [e,hm] at this; cases this
          refine ⟨m,rfl,?_⟩
          unfold Ho
          rw [List.getElem?_set_ne hmk,List.getElem?_append_left (lt_of hm)]; exact hm
        | none =>
          rw [q] at hi
          dsimp only at hi
          split at hi
          · rename_i e
            cases hi
            refine ⟨s.length,rfl,?_⟩
            unfold Ho
            rw [List.getElem?_set_ne (Nat.ne_of_lt hk),List.getElem?_append_right (Nat.le_refl _),Nat.sub_self,H.dflt i q]; rfl
          · cases hi
      · rw [lk] at h1 h2
        cases q1:lookK kvs (.inl i) with
        | some x =>
          rw [q1] at h1
          cases h1
          cases q2:lookK kvs (.inl i') with
          | some x' =>
            rw [q2] at h2
            cases h2
            exact H.inj i i' m q1 q2
          | none =>
            rw [q2] at h2
            dsimp only at h2
            split at h2
            · cases h2
              have:=H.lt (.inr (.inr ⟨i,q1⟩))
              omega
            · cases h2
        | none =>
          rw [q1] at h1
          dsimp only at h1
          split at h1
          · rename_i e1
            cases h1
            cases q2:lookK kvs (.inl i') with
            | some x' =>
              rw [q2] at h2
              cases h2
              have:=H.lt (.inr (.inr ⟨i',q2⟩))
              omega
            | none =>
              rw [q2] at h2
              dsimp only at h2
              split at h2
              · rename_i e2
                rw [e1,e2]
              · cases h2
          · cases h1
    · rw [lk,hj]
      simp
    · refine ⟨by rw [List.length_set,List.length_append]; omega,fun i hi ho=>?_,fun i hi=>?_⟩
      · rw [List.getElem?_set_ne (fun e=>ho (.inr (.inl e.symm))),List.getElem?_append_left hi]
      · rcases hi with e | e | ⟨i',hi⟩
        · exact .inl (.inl e)
        · exact .inl (.inr (.inl e))
        · rw [lk] at hi
          cases q:lookK kvs (.inl i') with
          | some x=>rw [q] at hi; cases hi; exact .inl (.inr (.inr ⟨i',q⟩))
          | none =>
            rw [q] at hi
            dsimp only at hi
            split at hi
            · cases hi; exact .inr (Nat.le_refl _)
            · cases hi
end
end K23
namespace K23
open PySem L2 L2.PU
noncomputable def hpth (ps:List Nat):List Nat→List Nat
  | []=>[]
  | q::_=>P ps q
theorem T_hp {c:Sc} {ps pnt:List Nat} {Dm:Nat→Prop} (t:Tr c ps Dm pnt) (x y:Int):F_hit_path [c.d,.int x,.int y]=some (c.S (hpth ps (hitL c.geo ps pnt x y)))∧(hpth ps (hitL c.geo ps pnt x y)).length≤7:=by
  have e1:F_hit [c.d,.int x,.int y]=some (hdD c (hitL c.geo ps pnt x y)):=run_of rfl (show g_hit F_takers F_first_at [.val c.d,.val (.int x),.val (.int y)]=_ from ret_of (lA_of (aC_of (lA_of (aC_of rfl rfl) (T_takers t)) (aC_of rfl (aC_of rfl rfl))) (T_first t x y)))
  have hin:∀ q∈hitL c.geo ps pnt x y,Dm q:=fun q hq=>tk_in t (List.mem_filter.mp hq).1
  generalize hitL c.geo ps pnt x y=l at *
  refine ⟨run_of rfl (show g_hit_path F_hit (F_path_of 13) [.val c.d,.val (.int x),.val (.int y),.un]=_ from seq_of (η1:=[.val c.d,.val (.int x),.val (.int y),.val (hdD c l)]) (set_of (lA_of (aC_of rfl (aC_of rfl (aC_of rfl rfl))) e1)) (ret_of ?_)),?_⟩
  · cases l with
    | nil =>
      rw [vIf_of (b:=true) (bT_of (l2_of rfl rfl rfl)),if_pos rfl]
      exact oE_of (bind_of rfl (gL_ok (by simp)))
    | cons q r =>
      rw [vIf_of (b:=false) (bT_of (l2_of rfl rfl rfl)),if_neg Bool.false_ne_true]
      exact lA_of (aC_of rfl (aC_of rfl rfl)) (T_path t (hin q List.mem_cons_self))
  · cases l with
    | nil=>simp [hpth]
    | cons q r=>exact P_7 t (hin q List.mem_cons_self)
noncomputable def Res (c:Sc) (s:Sto) (n kd:Nat) (kvs:List (Key×D)) (K':Int→Hd) (out:Option (D×Sto)) (d:D):Prop :=
  ∃ s' kvs',out=some (d,s')∧HOk c s' n kd kvs' K'∧Stp s s' (Own n kd kvs) (Own n kd kvs')∧kvs'.length≤kvs.length+1
theorem upK_same (K:Int→Hd) (j:Int):upK K j (K j)=K:=by
  funext i
  unfold upK
  split
  · rename_i e; rw [e]
  · rfl
noncomputable def mvR (h:Hd) (p:List Nat):List (Str×Nat):=if h.held=none then lead h p++wr "move" (p.drop (p.length - 1)) else tell h "move"
noncomputable def mvH (h:Hd) (p:List Nat):Hd:=if h.held=none then { h with trail:=p } else h
noncomputable def dnH1 (h:Hd) (p:List Nat):Hd:=if h.held=none then { h with pr:=some p,trail:=p,held:=p.getLast? } else { h with pr:=some p }
noncomputable def dnR (h:Hd) (p:List Nat):List (Str×Nat):=if h.pr=none then (if h.held=none then lead { h with pr:=some p } p else [])++tell (dnH1 h p) "down" else []
noncomputable def dnH (h:Hd) (p:List Nat):Hd:=if h.pr=none then dnH1 h p else h
theorem dAll_r {c:Sc}:∀ l:List (Str×Nat),dAll (l.map fun r=>D.d (rD c r))=some (l.map (rD c))
  | []=>rfl
  | x::r=>by
    rw [List.map_cons]
    show ((some (rD c x)).bind fun y=>(dAll (r.map fun r=>D.d (rD c r))).bind fun xs=>some (y::xs))=_
    rw [dAll_r r]; rfl
theorem tell_len (h:Hd) (w:Str):(tell h w).length≤1:=by
  unfold tell
  split <;> simp
theorem lead_len {h:Hd} {p:List Nat} (ht:h.trail.length≤7) (hp:p.length≤7):(lead h p).length≤14:=by
  unfold lead wr
  rw [List.length_append,List.length_map,List.length_map,List.length_reverse,List.length_drop,List.length_drop]; omega
section
variable {c:Sc} {s:Sto} {n kd m:Nat} {kvs:List (Key×D)} {K:Int→Hd} {h:Hd}
theorem fzT (hc:Ho c s m h) {w:Str} {η:MEn} {i:Nat} (hi:η[i]?=some (some (.r m))):mFz (mMeth 0 "tell_holder" F_Hand__tell_holder (mV i) (maC (mP (eC (.str w))) maN)) ⟨η,s⟩=some (.d (Rw c (tell h w)),s++[.fz (Rw c (tell h w))]):=by
  have em:mMeth 0 "tell_holder" F_Hand__tell_holder (mV i) (maC (mP (eC (.str w))) maN) ⟨η,s⟩=some (.r s.length,s++[.lst ((tell h w).map fun r=>D.d (rD c r))]):=mMeth_of (n:=m) (by unfold mV; rw [hi]) hc rfl (maC_of (s1:=s) (mP_of rfl) maN_of) (F_tell hc w)
  unfold mFz
  rw [em,Option.bind_some]
  dsimp only
  rw [show (s++[Cell.lst ((tell h w).map fun r=>D.d (rD c r))])[s.length]?=some (.lst ((tell h w).map fun r=>D.d (rD c r))) by rw [List.getElem?_append_right (Nat.le_refl _),Nat.sub_self]; rfl]
  dsimp only
  rw [dAll_r,Option.bind_some,List.set_append_right _ _ (Nat.le_refl _),Nat.sub_self]
  rfl
end
end K23
namespace K23
open PySem L2 L2.PU
noncomputable def upH1 (h:Hd) (mo:Int):List Nat→Hd
  | []=>{ h with pr:=none,held:=none }
  | k::_=>clickH { h with pr:=none,held:=none } k mo
noncomputable def upC (h:Hd) (mo:Int):List Nat→List (Str×Nat)
  | []=>[]
  | k::_=>clickR { h with pr:=none,held:=none } k mo
noncomputable def upN (q p:List Nat):List Nat:=(shN q p).drop ((shN q p).length - 1)
noncomputable def upR (h:Hd) (p:List Nat) (mo:Int):List (Str×Nat):=match h.pr with | none=>[] | some q=>(tell h "up" ++ upC h mo (upN q p))++lead (upH1 h mo (upN q p)) p
noncomputable def upH (h:Hd) (p:List Nat) (mo:Int):Hd:=match h.pr with | none=>h | some q=>{ upH1 h mo (upN q p) with trail:=p }
theorem upK_upK (K:Int→Hd) (j:Int) (a b:Hd):upK (upK K j a) j b=upK K j b:=by
  funext i
  unfold upK
  split <;> rfl
theorem upN_len (q p:List Nat):(upN q p).length≤1:=by
  unfold upN
  rw [List.length_drop]; omega
theorem stp_setL {s s':Sto} {O:Nat→Prop} {L:Nat} {x:Cell} (a:Stp s s' O O) (h:s.length≤L):Stp s (s'.set L x) O O:=⟨by rw [List.length_set]; exact a.len,fun i hi ho=>by rw [List.getElem?_set_ne (by omega)]; exact a.kp i hi ho,a.ow⟩
theorem last_ix {c:Sc} (p:List Nat):(if decide (p≠[])=true then pIx (c.S p) (.int (-1)) else some .none)=some (kD c p.getLast?):=by
  cases p with
  | nil=>rfl
  | cons a r =>
    rw [if_pos (by simp)]
    show atI ((a::r).map c.s) (-1)=_
    have:atI (a::r) (-1)=some ((a::r).getLast (by simp)):=by
      unfold atI ixN
      rw [if_neg (by decide),if_pos (by rw [List.length_cons]; omega),Option.bind_some]
      rw [show (-1+((a::r).length:Int)).toNat=(a::r).length - 1 by rw [List.length_cons]; omega,← List.getLast?_eq_getElem?,List.getLast?_eq_some_getLast (by simp)]
    rw [at_s this,List.getLast?_eq_some_getLast (by simp)]
    rfl
section
variable {c:Sc} {s:Sto} {n kd:Nat} {kvs:List (Key×D)} {K:Int→Hd}
theorem F_dn (ok:c.Ok) (H:HOk c s n kd kvs K) (hl:kvs.length < 1000) (j:Int) {mo:PyData} {x y:Int} {p:List Nat} (hp:F_hit_path [c.d,.int x,.int y]=some (c.S p)) (lp:p.length≤7) :
    Res c s n kd kvs (upK K j (dnH (K j) p)) (F_Hands__down [.r n,.d (.int j),.d mo,.d (.int x),.d (.int y)] s) (.d (Rw c (dnR (K j) p))):=by
  obtain ⟨s1,m,kvs1,e1,H1,hj,st,hl1⟩:=F_hand H hl j
  obtain ⟨m',em,hm⟩:=H1.hand j _ hj
  cases em
  have hb:=H1.bd j
  have hown:Own n kd kvs1 m:=.inr (.inr ⟨j,hj⟩)
  have hs5:mMeth 1 "hand_of" F_Hands__hand_of (mV 0) (maC (mP (eV 1)) maN) ⟨[some (.r n),some (.d (.int j)),some (.d mo),some (.d (.int x)),some (.d (.int y)),none,none,none],s⟩=some (.r m,s1):=mMeth_of (n:=n) rfl H.ob rfl (maC_of (s1:=s) (mP_of rfl) maN_of) e1
  have fp:eFld 5 "pressed_at" (vw ⟨[some (.r n),some (.d (.int j)),some (.d mo),some (.d (.int x)),some (.d (.int y)),some (.r m),none,none],s1⟩)=some (oL c (K j).pr):=fld_of rfl hm rfl
  cases hpr:(K j).pr with
  | some q =>
    rw [hpr] at fp
    refine ⟨s1,kvs1,?_,?_,st,hl1⟩
    · unfold dnR
      rw [if_neg (by rw [hpr]; simp)]
      refine mRun_of rfl (show g_Hands__down F_Hands__hand_of F_hit_path F_Hand__lead F_Hand__tell_holder ⟨[some (.r n),some (.d (.int j)),some (.d mo),some (.d (.int x)),some (.d (.int y)),none,none,none],s⟩=_ from ?_)
      exact mSeq_of (mSet_of hs5) (mSeq_rt (mIfT (s:=s1) (tPv_of (bT_of (l2_of fp rfl rfl))) (mRet_of (mP_of (oE_of (bind_of rfl (gL_ok (by simp))))))))
    · unfold dnH
      rw [if_neg (by rw [hpr]; simp),upK_same]
      exact H1
  | none =>
    rw [hpr] at fp
    have hm2:=hm.set { K j with pr:=some p }
    have fin:∀ (h2:Hd) (rows:List (Str×Nat)),rows.length≤14→Bd h2→h2=dnH1 (K j) p→rows=(if (K j).held=none then lead { K j with pr:=some p } p else []) →
        (mIf (tPv (bT (l2 (pIsN false) (eFld 5 "held_by") (eC .none)))) (mSeq (mSet 7 (mMeth 0 "lead" F_Hand__lead (mV 5) (maC (mP (eV 6)) maN)))
          (mPut 0 "held_by" (mV 5) (mP (vIf (bTr (eV 6)) (l2 pIx (eV 6) (l1 pNeg (eC (.int 1)))) (eC .none))))) mNx)
          ⟨[some (.r n),some (.d (.int j)),some (.d mo),some (.d (.int x)),some (.d (.int y)),some (.r m),some (.d (c.S p)),some (.d (.list []))],s1.set m (.obj 0 (hf c { K j with pr:=some p }))⟩
          = some (.nx ⟨[some (.r n),some (.d (.int j)),some (.d mo),some (.d (.int x)),some (.d (.int y)),some (.r m),some (.d (c.S p)),some (.d (Rw c rows))],s1.set m (.obj 0 (hf c h2))⟩) →
        Res c s n kd kvs (upK K j (dnH (K j) p)) (F_Hands__down [.r n,.d (.int j),.d mo,.d (.int x),.d (.int y)] s) (.d (Rw c (dnR (K j) p))):=fun h2 rows lr b2 eh er ei=>by
      have hm3:=hm.set h2
      refine ⟨s1.set m (.obj 0 (hf c h2))++[.fz (Rw c (tell h2 "down"))],kvs1,?_,?_,(st.trans (stp_set hown)).trans (stp_app _),hl1⟩
      · unfold dnR
        rw [if_pos hpr,← er,← eh]
        refine mRun_of rfl (show g_Hands__down F_Hands__hand_of F_hit_path F_Hand__lead F_Hand__tell_holder ⟨[some (.r n),some (.d (.int j)),some (.d mo),some (.d (.int x)),some (.d (.int y)),none,none,none],s⟩=_ from ?_)
        refine mSeq_of (mSet_of hs5) (mSeq_of (mIfN (s:=s1) (tPv_of (bT_of (l2_of fp rfl rfl)))) ?_)
        refine mSeq_of (w1:=⟨[some (.r n),some (.d (.int j)),some (.d mo),some (.d (.int x)),some (.d (.int y)),some (.r m),some (.d (c.S p)),none],s1⟩) (mSet_of (mP_of (lA_of (aC_of (fld_of rfl H1.ob rfl) (aC_of rfl (aC_of rfl rfl))) hp))) ?_
        refine mSeq_of (w1:=⟨[some (.r n),some (.d (.int j)),some (.d mo),some (.d (.int x)),some (.d (.int y)),some (.r m),some (.d (c.S p)),none],s1.set m (.obj 0 (hf c { K j with pr:=some p }))⟩) ?_ ?_
        · rw [mPut_of (d:=.d (c.S p)) (n:=m) (fs:=hf c (K j)) (mP_of rfl) rfl hm (by simp [hf])]
          rfl
        refine mSeq_of (w1:=⟨[some (.r n),some (.d (.int j)),some (.d mo),some (.d (.int x)),some (.d (.int y)),some (.r m),some (.d (c.S p)),some (.d (.list []))],s1.set m (.obj 0 (hf c { K j with pr:=some p }))⟩) (mSet_of (mP_of (oE_of (bind_of rfl (gL_ok (by simp)))))) ?_
        refine mSeq_of ei (mRet_of ?_)
        exact mOp_of (mP_of rfl) (fzT hm3 rfl) rfl rfl (cat_r (by omega) (by have:=tell_len h2 "down"; omega))
      · unfold dnH
        rw [if_pos hpr,← eh]
        exact (H1.put hj b2).app _
    have fh:eFld 5 "held_by" (vw ⟨[some (.r n),some (.d (.int j)),some (.d mo),some (.d (.int x)),some (.d (.int y)),some (.r m),some (.d (c.S p)),some (.d (.list []))],s1.set m (.obj 0 (hf c { K j with pr:=some p }))⟩)=some (kD c (K j).held):=fld_of rfl hm2 rfl
    cases hh:(K j).held with
    | some k =>
      rw [hh] at fh
      refine fin { K j with pr:=some p } [] (by simp) ⟨hb.1,fun q e=>by cases e; exact lp⟩ (by unfold dnH1; rw [if_neg (by rw [hh]; simp)]) (by rw [if_neg (by rw [hh]; simp)]) ?_
      exact mIfN (tPv_of (bT_of (l2_of fh rfl rfl)))
    | none =>
      rw [hh] at fh
      have el:=F_lead ok hm2 (p:=p) (by have:=hb.1; show (K j).trail.length≤1000; omega) (by omega)
      have hm3:=hm.set { K j with pr:=some p,trail:=p }
      rw [set_set] at el
      refine fin { K j with pr:=some p,trail:=p,held:=p.getLast? } (lead { K j with pr:=some p } p) (lead_len (h:={ K j with pr:=some p }) hb.1 lp) ⟨lp,fun q e=>by cases e; exact lp⟩ (by unfold dnH1; rw [if_pos hh]) (by rw [if_pos hh]) ?_
      refine mIfT (s:=s1.set m (.obj 0 (hf c { K j with pr:=some p }))) (tPv_of (bT_of (l2_of fh rfl rfl))) ?_
      refine mSeq_of (w1:=⟨[some (.r n),some (.d (.int j)),some (.d mo),some (.d (.int x)),some (.d (.int y)),some (.r m),some (.d (c.S p)),some (.d (Rw c (lead { K j with pr:=some p } p)))],s1.set m (.obj 0 (hf c { K j with pr:=some p,trail:=p }))⟩) (mSet_of (mMeth_of (n:=m) rfl hm2 rfl (maC_of (mP_of rfl) maN_of) el)) ?_
      rw [mPut_of (d:=.d (kD c p.getLast?)) (n:=m) (fs:=hf c { K j with pr:=some p,trail:=p }) (mP_of ?_) rfl hm3 (by simp [hf])]
      · show some (MOut.nx ⟨_,(s1.set m _).set m _⟩)=_
        rw [set_set]
        show some (MOut.nx ⟨_,s1.set m (.obj 0 (putA "held_by" (.d (kD c p.getLast?)) (hf c { K j with pr:=some p,trail:=p })))⟩)=_
        rfl
      · rw [vIf_of (b:=decide (p≠[])) (by cases p <;> rfl)]
        exact last_ix p
end
end K23
namespace K23
open PySem L2 L2.PU
theorem clickR_len (h:Hd) (k:Nat) (mo:Int):(clickR h k mo).length≤2:=by
  unfold clickR
  split <;> simp
section
variable {c:Sc} {s:Sto} {n kd:Nat} {kvs:List (Key×D)} {K:Int→Hd}
theorem F_up (ok:c.Ok) (H:HOk c s n kd kvs K) (hl:kvs.length < 1000) (j:Int) {mo:Int} {x y:Int} {p:List Nat} (hp:F_hit_path [c.d,.int x,.int y]=some (c.S p)) (lp:p.length≤7) :
    Res c s n kd kvs (upK K j (upH (K j) p mo)) (F_Hands__up [.r n,.d (.int j),.d (.int mo),.d (.int x),.d (.int y)] s) (.d (Rw c (upR (K j) p mo))):=by
  obtain ⟨s1,m,kvs1,e1,H1,hj,st,hl1⟩:=F_hand H hl j
  obtain ⟨m',em,hm⟩:=H1.hand j _ hj
  cases em
  have hb:=H1.bd j
  have hown:Own n kd kvs1 m:=.inr (.inr ⟨j,hj⟩)
  have hs5:mMeth 1 "hand_of" F_Hands__hand_of (mV 0) (maC (mP (eV 1)) maN) ⟨[some (.r n),some (.d (.int j)),some (.d (.int mo)),some (.d (.int x)),some (.d (.int y)),none,none,none,none],s⟩=some (.r m,s1):=mMeth_of (n:=n) rfl H.ob rfl (maC_of (s1:=s) (mP_of rfl) maN_of) e1
  have fp:eFld 5 "pressed_at" (vw ⟨[some (.r n),some (.d (.int j)),some (.d (.int mo)),some (.d (.int x)),some (.d (.int y)),some (.r m),none,none,none],s1⟩)=some (oL c (K j).pr):=fld_of rfl hm rfl
  cases hpr:(K j).pr with
  | none =>
    rw [hpr] at fp
    refine ⟨s1,kvs1,?_,?_,st,hl1⟩
    · unfold upR
      rw [hpr]
      refine mRun_of rfl (show g_Hands__up F_Hands__hand_of F_hit_path F_Hand__tell_holder F_Hand__let_go F_Hand__click F_Hand__lead ⟨[some (.r n),some (.d (.int j)),some (.d (.int mo)),some (.d (.int x)),some (.d (.int y)),none,none,none,none],s⟩=_ from ?_)
      exact mSeq_of (mSet_of hs5) (mSeq_rt (mIfT (s:=s1) (tPv_of (bT_of (l2_of fp rfl rfl))) (mRet_of (mP_of (oE_of (bind_of rfl (gL_ok (by simp))))))))
    · unfold upH
      rw [hpr]
      dsimp only
      rw [upK_same]
      exact H1
  | some q =>
    rw [hpr] at fp
    have lq:=hb.2 q hpr
    have hmL:m < s1.length:=lt_of hm
    have hnL:¬ Own n kd kvs1 s1.length:=fun z=>Nat.lt_irrefl _ (H1.lt z)
    have hm2:Ho c (s1++[Cell.lst ((tell (K j) "up").map fun r=>D.d (rD c r))]) m (K j):=by
      unfold Ho
      rw [List.getElem?_append_left hmL]; exact hm
    have elg:=F_let_go ok hm2 (p:=p) hpr (by omega)
    have hm3:=hm2.set { K j with pr:=none,held:=none }
    have H3:HOk c ((s1++[Cell.lst ((tell (K j) "up").map fun r=>D.d (rD c r))]).set m (.obj 0 (hf c { K j with pr:=none,held:=none }))) n kd kvs1 (upK K j { K j with pr:=none,held:=none }):=(H1.app _).put hj ⟨hb.1,fun q e=>by cases e⟩
    have S3:Stp s1 ((s1++[Cell.lst ((tell (K j) "up").map fun r=>D.d (rD c r))]).set m (.obj 0 (hf c { K j with pr:=none,held:=none }))) (Own n kd kvs1) (Own n kd kvs1):=(stp_app _).trans (stp_set hown)
    have L3:((s1++[Cell.lst ((tell (K j) "up").map fun r=>D.d (rD c r))]).set m (.obj 0 (hf c { K j with pr:=none,held:=none })))[s1.length]?=some (.lst ((tell (K j) "up").map fun r=>D.d (rD c r))):=by
      rw [List.getElem?_set_ne (Nat.ne_of_lt hmL),List.getElem?_append_right (Nat.le_refl _),Nat.sub_self]; rfl
    obtain ⟨s3,hs3⟩:∃ s3:Sto,s3=(s1++[Cell.lst ((tell (K j) "up").map fun r=>D.d (rD c r))]).set m (.obj 0 (hf c { K j with pr:=none,held:=none })):=⟨_,rfl⟩
    rw [← hs3] at elg hm3 H3 S3 L3
    have loop:∃ (x8:Option D) (s4:Sto),mGo [8] (tgN 8) (mExp (mExtC (mV 7) (mMeth 0 "click" F_Hand__click (mV 5) (maC (mP (eV 8)) (maC (mP (eV 2)) maN))))) ((upN q p).map c.s) ⟨[some (.r n),some (.d (.int j)),some (.d (.int mo)),some (.d (.int x)),some (.d (.int y)),some (.r m),some (.d (c.S p)),some (.r s1.length),none],s3⟩
        = some (.nx ⟨[some (.r n),some (.d (.int j)),some (.d (.int mo)),some (.d (.int x)),some (.d (.int y)),some (.r m),some (.d (c.S p)),some (.r s1.length),x8],s4⟩)
        ∧ s4[s1.length]?=some (.lst ((tell (K j) "up" ++ upC (K j) mo (upN q p)).map fun r=>D.d (rD c r)))∧Ho c s4 m (upH1 (K j) mo (upN q p))∧HOk c s4 n kd kvs1 (upK K j (upH1 (K j) mo (upN q p)))∧Stp s1 s4 (Own n kd kvs1) (Own n kd kvs1):=by
      have hlen:=upN_len q p
      cases hN:upN q p with
      | nil=>exact ⟨none,s3,rfl,by simpa [upC] using L3,hm3,H3,S3⟩
      | cons k r =>
        have hr:r=[]:=by
          rw [hN] at hlen
          simp at hlen
          exact hlen
        subst hr
        have ec:=F_click ok hm3 k mo
        have hm4:=hm3.set (clickH { K j with pr:=none,held:=none } k mo)
        have L4:(s3.set m (.obj 0 (hf c (clickH { K j with pr:=none,held:=none } k mo))))[s1.length]?=some (.lst ((tell (K j) "up").map fun r=>D.d (rD c r))):=by
          rw [List.getElem?_set_ne (Nat.ne_of_lt hmL)]; exact L3
        have H4:=H3.put (h':=clickH { K j with pr:=none,held:=none } k mo) hj ⟨hb.1,fun q e=>by cases e⟩
        rw [upK_upK] at H4
        have S4:Stp s1 (s3.set m (.obj 0 (hf c (clickH { K j with pr:=none,held:=none } k mo)))) (Own n kd kvs1) (Own n kd kvs1):=S3.trans (stp_set hown)
        generalize s3.set m (.obj 0 (hf c (clickH { K j with pr:=none,held:=none } k mo)))=s4 at *
        have hlt:s1.length < s4.length:=lt_of L4
        refine ⟨some (.d (c.s k)),s4.set s1.length (.lst ((tell (K j) "up" ++ clickR { K j with pr:=none,held:=none } k mo).map fun r=>D.d (rD c r))),?_,List.getElem?_set_self hlt,?_,H4.setX hnL,stp_setL S4 (Nat.le_refl _)⟩
        · rw [List.map_cons,List.map_nil]
          unfold mGo
          rw [mTg_name (by simp),Option.bind_some]
          have ex:mExp (mExtC (mV 7) (mMeth 0 "click" F_Hand__click (mV 5) (maC (mP (eV 8)) (maC (mP (eV 2)) maN)))) ⟨[some (.r n),some (.d (.int j)),some (.d (.int mo)),some (.d (.int x)),some (.d (.int y)),some (.r m),some (.d (c.S p)),some (.r s1.length),some (.d (c.s k))],s3⟩
              = some (.nx ⟨[some (.r n),some (.d (.int j)),some (.d (.int mo)),some (.d (.int x)),some (.d (.int y)),some (.r m),some (.d (c.S p)),some (.r s1.length),some (.d (c.s k))],s4.set s1.length (.lst ((tell (K j) "up" ++ clickR { K j with pr:=none,held:=none } k mo).map fun r=>D.d (rD c r)))⟩):=by
            refine mExp_of (d:=.d .none) ?_
            unfold mExtC
            show Option.bind (some (D.r s1.length,s3)) _=_
            rw [Option.bind_some]
            dsimp only
            rw [L3]
            dsimp only
            rw [mMeth_of (n:=m) (d:=.d (Rw c (clickR { K j with pr:=none,held:=none } k mo))) (s2:=s4) rfl hm3 rfl (maC_of (s1:=s3) (mP_of rfl) (maC_of (s1:=s3) (mP_of rfl) maN_of)) ec,Option.bind_some]
            show Option.bind (some (Rw c (clickR { K j with pr:=none,held:=none } k mo))) _=_
            rw [Option.bind_some]
            unfold Rw
            dsimp only
            rw [L4]
            dsimp only
            rw [if_pos (big (by rw [List.length_map,List.length_map]; exact Nat.le_trans (Nat.add_le_add (tell_len _ _) (clickR_len _ _ _)) (by decide))),List.map_append,List.map_map]
            rfl
          show Option.bind (mExp _ ⟨[some (.r n),some (.d (.int j)),some (.d (.int mo)),some (.d (.int x)),some (.d (.int y)),some (.r m),some (.d (c.S p)),some (.r s1.length),some (.d (c.s k))],s3⟩) _=_
          rw [ex]
          rfl
        · unfold Ho
          rw [List.getElem?_set_ne (Nat.ne_of_gt hmL)]; exact hm4
    obtain ⟨x8,s4,eg,L4,hm4,H4,S4⟩:=loop
    have hlt:s1.length < s4.length:=lt_of L4
    have lt14:(upH1 (K j) mo (upN q p)).trail.length≤7:=by
      cases upN q p with
      | nil=>exact hb.1
      | cons k r=>exact hb.1
    have lC:(upC (K j) mo (upN q p)).length≤2:=by
      cases upN q p with
      | nil=>simp [upC]
      | cons k r=>exact clickR_len _ _ _
    have hm5:Ho c (s4.set s1.length (.fz (Rw c (tell (K j) "up" ++ upC (K j) mo (upN q p))))) m (upH1 (K j) mo (upN q p)):=by
      unfold Ho
      rw [List.getElem?_set_ne (Nat.ne_of_gt hmL)]; exact hm4
    have ef:∀ x8:Option D,mFz (mV 7) ⟨[some (.r n),some (.d (.int j)),some (.d (.int mo)),some (.d (.int x)),some (.d (.int y)),some (.r m),some (.d (c.S p)),some (.r s1.length),x8],s4⟩=some (.d (Rw c (tell (K j) "up" ++ upC (K j) mo (upN q p))),s4.set s1.length (.fz (Rw c (tell (K j) "up" ++ upC (K j) mo (upN q p))))):=fun x8=>by
      unfold mFz
      show Option.bind (some (D.r s1.length,s4)) _=_
      rw [Option.bind_some]
      dsimp only
      rw [L4]
      dsimp only
      rw [dAll_r]; rfl
    have H5:=H4.setX (x:=.fz (Rw c (tell (K j) "up" ++ upC (K j) mo (upN q p)))) hnL
    have S5:Stp s1 (s4.set s1.length (.fz (Rw c (tell (K j) "up" ++ upC (K j) mo (upN q p))))) (Own n kd kvs1) (Own n kd kvs1):=stp_setL S4 (Nat.le_refl _)
    have el:=F_lead ok hm5 (p:=p) (by omega) (by omega)
    generalize s4.set s1.length (.fz (Rw c (tell (K j) "up" ++ upC (K j) mo (upN q p))))=s5 at *
    have H6:=H5.put (h':={ upH1 (K j) mo (upN q p) with trail:=p }) hj ⟨lp,fun q' e=>by
      have:(upH1 (K j) mo (upN q p)).pr=none:=by
        cases upN q p with
        | nil=>rfl
        | cons k r=>rfl
      have e':(upH1 (K j) mo (upN q p)).pr=some q':=e
      rw [this] at e'; cases e'⟩
    rw [upK_upK] at H6
    refine ⟨s5.set m (.obj 0 (hf c { upH1 (K j) mo (upN q p) with trail:=p })),kvs1,?_,?_,st.trans (S5.trans (stp_set hown)),hl1⟩
    · unfold upR
      rw [hpr]
      dsimp only
      refine mRun_of rfl (show g_Hands__up F_Hands__hand_of F_hit_path F_Hand__tell_holder F_Hand__let_go F_Hand__click F_Hand__lead ⟨[some (.r n),some (.d (.int j)),some (.d (.int mo)),some (.d (.int x)),some (.d (.int y)),none,none,none,none],s⟩=_ from ?_)
      refine mSeq_of (mSet_of hs5) (mSeq_of (mIfN (s:=s1) (tPv_of (bT_of (l2_of fp rfl rfl)))) ?_)
      refine mSeq_of (w1:=⟨[some (.r n),some (.d (.int j)),some (.d (.int mo)),some (.d (.int x)),some (.d (.int y)),some (.r m),some (.d (c.S p)),none,none],s1⟩) (mSet_of (mP_of (lA_of (aC_of (fld_of rfl H1.ob rfl) (aC_of rfl (aC_of rfl rfl))) hp))) ?_
      refine mSeq_of (w1:=⟨[some (.r n),some (.d (.int j)),some (.d (.int mo)),some (.d (.int x)),some (.d (.int y)),some (.r m),some (.d (c.S p)),some (.r s1.length),none],s1++[Cell.lst ((tell (K j) "up").map fun r=>D.d (rD c r))]⟩) (mSet_of (mMeth_of (n:=m) rfl hm rfl (maC_of (s1:=s1) (mP_of rfl) maN_of) (F_tell hm "up"))) ?_
      refine mSeq_of (mFor_of (s:=s3) (xs:=(upN q p).map c.s) ?_ eg) (mRet_of ?_)
      · unfold iM
        rw [mMeth_of (n:=m) (d:=.d (c.S (upN q p))) (s2:=s3) rfl hm2 rfl (maC_of (mP_of rfl) maN_of) elg]
        rfl
      · exact mOp_of (ef x8) (mMeth_of (n:=m) rfl hm5 rfl (maC_of (s1:=s5) (mP_of rfl) maN_of) el) rfl rfl (cat_r (by rw [List.length_append]; have:=tell_len (K j) "up"; omega) (by have:=lead_len (h:=upH1 (K j) mo (upN q p)) lt14 lp; omega))
    · unfold upH
      rw [hpr]
      exact H6
end
end K23
namespace K23
open PySem L2 L2.PU
theorem take_P {ps:List Nat} (ok:PsOk ps):∀ q i x,(P ps q)[i]?=some x→(P ps q).take (i+1)=P ps x:=fun q=>by
  induction q using Nat.strongRecOn with
  | ind q ih =>
    intro i x h
    by_cases hq:1≤q
    · have hs:=P_succ ok hq
      rw [hs] at h ⊢
      by_cases hi:i < (P ps (par ps q)).length
      · rw [List.getElem?_append_left hi] at h
        rw [List.take_append_of_le_length (by omega)]
        exact ih _ (par_lt ok hq) i x h
      · have hl:=(List.getElem?_eq_some_iff.mp h).1
        rw [List.length_append,List.length_singleton] at hl
        have e:i=(P ps (par ps q)).length:=by omega
        subst e
        rw [List.getElem?_append_right (Nat.le_refl _),Nat.sub_self] at h
        injection h with h
        subst h
        rw [hs,List.take_of_length_le (by rw [List.length_append,List.length_singleton]; omega)]
    · have:q=0:=by omega
      subst this
      cases h
theorem sh_ge:∀ (a b:List Nat) (i:Nat),i < a.length→i < b.length→a.take (i+1)=b.take (i+1)→i < (shN a b).length
  | [],_,i,h,_,_=>by simp at h
  | _::_,[],i,_,h,_=>by simp at h
  | x::xs,y::ys,i,h1,h2,h=>by
    rw [List.take_succ_cons,List.take_succ_cons] at h
    injection h with e1 e2
    unfold shN
    rw [if_pos e1,List.length_cons]
    cases i with
    | zero=>omega
    | succ j =>
      have:=sh_ge xs ys j (by simpa using h1) (by simpa using h2) e2
      omega
theorem zip_sh:∀ (a b:List Nat),a.zip b=(shN a b).map (fun x=>(x,x))++(a.drop (shN a b).length).zip (b.drop (shN a b).length)
  | [],_=>by simp [shN]
  | _::_,[]=>by simp [shN]
  | x::xs,y::ys=>by
    unfold shN
    by_cases e:x=y
    · subst e
      rw [if_pos rfl,List.zip_cons_cons,zip_sh xs ys]
      simp
    · rw [if_neg e]; simp
noncomputable def nmS (acc:Option Nat) (e:Nat×Nat):Option Nat:=match acc with
  | some x=>some x
  | none=>if e.1=e.2 then some e.1 else none
theorem nm_none:∀ l:List (Nat×Nat),(∀ e∈l,e.1≠e.2)→l.foldl nmS none=none
  | [],_=>rfl
  | e::r,h=>by
    rw [List.foldl_cons,show nmS none e=none from if_neg (h e List.mem_cons_self)]
    exact nm_none r fun x hx=>h x (List.mem_cons_of_mem _ hx)
theorem nm_some (x:Nat):∀ l:List (Nat×Nat),l.foldl nmS (some x)=some x
  | []=>rfl
  | e::r=>nm_some x r
theorem nm_last:∀ l:List Nat,((l.map fun x=>(x,x)).reverse).foldl nmS none=l.getLast?:=fun l=>by
  rcases List.eq_nil_or_concat l with e | ⟨l',q,e⟩
  · subst e; rfl
  · rw [List.concat_eq_append] at e
    subst e
    rw [List.map_append,List.reverse_append]
    show ([(q,q)]++_).foldl nmS none=_
    rw [List.foldl_append]
    show (List.foldl nmS (nmS none (q,q)) _)=_
    rw [show nmS none (q,q)=some q from if_pos rfl,nm_some]
    simp
noncomputable def Way (ps p:List Nat):Prop:=∀ i x,p[i]?=some x→p.take (i+1)=P ps x
theorem nm_eq {ps p1 p2:List Nat} (h1:Way ps p1) (h2:Way ps p2):((p1.zip p2).reverse).foldl nmS none=(shN p1 p2).getLast?:=by
  rw [zip_sh,List.reverse_append,List.foldl_append,nm_none,nm_last]
  intro e he hee
  obtain ⟨i,hi⟩:=List.getElem?_of_mem (List.mem_reverse.mp he)
  obtain ⟨e1,e2⟩:=List.getElem?_zip_eq_some.mp hi
  rw [List.getElem?_drop] at e1 e2
  have t1:=h1 _ _ e1
  have t2:=h2 _ _ e2
  rw [hee] at t1
  have:=sh_ge p1 p2 _ (List.getElem?_eq_some_iff.mp e1).1 (List.getElem?_eq_some_iff.mp e2).1 (t1.trans t2.symm)
  omega
theorem way_hp {c:Sc} {ps pnt:List Nat} (ok:PsOk ps) (l:List Nat):Way ps (hpth ps l):=fun i x h=>by
  cases l with
  | nil=>cases h
  | cons q r=>exact take_P ok q i x h
noncomputable def okL (last:Option (Nat×Int)) (h:Hd):Prop:=match last with
  | none=>h.clk=none∨h.dbl=true
  | some (x,m)=>h.clk=some x∧h.mom=m∧h.dbl=false
noncomputable def lDb (last:Option (Nat×Int)) (x:Nat) (mo:Int):Bool:=match last with
  | none=>false
  | some (y,m)=>decide (y=x)&&decide (mo - m≤20)
theorem dbl_eq {last:Option (Nat×Int)} {h:Hd} (ok:okL last h) (x:Nat) (mo:Int):dblC h x mo=lDb last x mo:=by
  unfold dblC lDb
  cases last with
  | none =>
    rcases ok with e | e
    · rw [e]; simp
    · rw [e]; simp
  | some e =>
    obtain ⟨y,m⟩:=e
    obtain ⟨e1,e2,e3⟩:=ok
    rw [e1,e2,e3]
    simp
noncomputable def nxL (last:Option (Nat×Int)) (mo:Int):Option Nat→Option (Nat×Int)
  | none=>last
  | some x=>if lDb last x mo=true then none else some (x,mo)
noncomputable def dueL (last:Option (Nat×Int)) (mo:Int):Option Nat→List (Str×Nat)
  | none=>[]
  | some x=>if lDb last x mo=true then [("click", x),("double", x)] else [("click", x)]
theorem upN_eq (q p:List Nat):upN q p=match (shN q p).getLast? with | none=>[] | some x=>[x]:=by
  unfold upN
  rcases List.eq_nil_or_concat (shN q p) with e | ⟨l,x,e⟩
  · rw [e]; rfl
  · rw [List.concat_eq_append] at e
    rw [e]; simp
noncomputable def isCl (r:Str×Nat):Bool:=decide (r.1=("click" : Str))||decide (r.1=("double" : Str))
theorem turn_hd {last:Option (Nat×Int)} {h:Hd} (ok:okL last h) (hp:h.pr=none) (hh:h.held=none) (p1 p2:List Nat) (mo:Int) :
    (upR (dnH h p1) p2 mo).filter isCl=dueL last mo (shN p1 p2).getLast?∧okL (nxL last mo (shN p1 p2).getLast?) (upH (dnH h p1) p2 mo)∧(upH (dnH h p1) p2 mo).pr=none∧(upH (dnH h p1) p2 mo).held=none:=by
  have ed:dnH h p1={ h with pr:=some p1,trail:=p1,held:=p1.getLast? }:=by
    unfold dnH dnH1
    rw [if_pos hp,if_pos hh]
  have er:upR (dnH h p1) p2 mo=(tell (dnH h p1) "up" ++ upC (dnH h p1) mo (upN p1 p2))++lead (upH1 (dnH h p1) mo (upN p1 p2)) p2:=by
    unfold upR
    rw [ed]
  have eh:upH (dnH h p1) p2 mo={ upH1 (dnH h p1) mo (upN p1 p2) with trail:=p2 }:=by
    unfold upH
    rw [ed]
  have ft:∀ (w:Str) (l:List Nat),decide (w=("click" : Str))=false→decide (w=("double" : Str))=false→(wr w l).filter isCl=[]:=fun w l h1 h2=>by
    rw [List.filter_eq_nil_iff]
    intro r hr
    obtain ⟨x,_,rfl⟩:=List.mem_map.mp hr
    show ¬ (decide (w=("click" : Str))||decide (w=("double" : Str)))=true
    rw [h1,h2]; decide
  have f1:(tell (dnH h p1) "up").filter isCl=[]:=by
    unfold tell
    split
    · exact ft "up" [_] (by decide +kernel) (by decide +kernel)
    · rfl
  have f2:(lead (upH1 (dnH h p1) mo (upN p1 p2)) p2).filter isCl=[]:=by
    unfold lead
    rw [List.filter_append,ft "leave" _ (by decide +kernel) (by decide +kernel),ft "enter" _ (by decide +kernel) (by decide +kernel)]; rfl
  rw [er,eh,List.filter_append,List.filter_append,f1,f2,List.append_nil,List.nil_append,upN_eq]
  cases hs:(shN p1 p2).getLast? with
  | none=>exact ⟨rfl,by rw [ed]; exact ok,rfl,rfl⟩
  | some x =>
    have ok2:okL last { dnH h p1 with pr:=none,held:=none }:=by rw [ed]; exact ok
    have hd:=dbl_eq ok2 x mo
    refine ⟨?_,?_,rfl,rfl⟩
    · show (clickR { dnH h p1 with pr:=none,held:=none } x mo).filter _=dueL last mo (some x)
      unfold clickR dueL
      rw [hd]
      have h1:decide (("click" : Str) = "click")=true:=by decide +kernel
      have h2:decide (("double" : Str) = "double")=true:=by decide +kernel
      have c1:isCl ("click", x)=true:=by unfold isCl; rw [h1]; rfl
      have c2:isCl ("double", x)=true:=by unfold isCl; rw [h2,Bool.or_true]
      cases hb:lDb last x mo <;> simp [c1,c2,hb]
    · show okL (nxL last mo (some x)) { clickH { dnH h p1 with pr:=none,held:=none } x mo with trail:=p2 }
      unfold nxL clickH
      dsimp only
      cases hb:lDb last x mo with
      | true =>
        rw [if_pos rfl]
        exact .inr (by show dblC _ x mo=true; rw [hd,hb])
      | false =>
        rw [if_neg (by decide)]
        exact ⟨rfl,rfl,by show dblC _ x mo=false; rw [hd,hb]⟩
end K23
namespace K23
open PySem L2 L2.PU
theorem in_cl {w:Str}:pIn false (.str w) (.tuple [.str "click", .str "double"])=some (.bool (decide (w=("click" : Str))||decide (w=("double" : Str)))):=by
  have e:∀ a b:Str,PyData.eqv (.str a) (.str b)=decide (b=a):=fun a b=>by
    unfold PyData.eqv
    rw [str_dec]
    by_cases h:a=b
    · subst h; rfl
    · rw [decide_eq_false h,decide_eq_false fun z=>h z.symm]
  unfold pIn
  dsimp only
  rw [if_pos ⟨rfl,by decide⟩]
  rw [if_neg (by decide)]
  simp only [List.any_cons,List.any_nil,Bool.or_false,e]
theorem pEq_hd {c:Sc} (h:c.Ok) (A B:List Nat):pEq (hdD c A) (hdD c B)=some (.bool (decide (A.head?=B.head?))):=by
  cases A with
  | nil =>
    cases B with
    | nil=>rfl
    | cons b B =>
      unfold pEq
      rw [if_pos ⟨by show SeqAt.shaped .none=true; decide,shaped_str (h.ok b)⟩]; rfl
  | cons a A =>
    cases B with
    | nil =>
      unfold pEq
      rw [if_pos ⟨shaped_str (h.ok a),by show SeqAt.shaped .none=true; decide⟩]; rfl
    | cons b B =>
      show pEq (c.s a) (c.s b)=_
      rw [h.eqs]
      congr 2
      simp
theorem shN_same:∀ a:List Nat,shN a a=a
  | []=>rfl
  | x::r=>by
    unfold shN
    rw [if_pos rfl,shN_same r]
theorem chain_ok {c:Sc} {ps:List Nat} (h:c.Ok) (okp:PsOk ps) {A B:List Nat} (hA:∀ q∈A,1≤q) {f g k:En→Option PyData} {η:En} (hf:f η=some (hdD c A)) (hg:g η=some (hdD c B)) (hk:k η=some (kD c (shN (hpth ps A) (hpth ps B)).getLast?)):lch pEq pNe f g k η=some (.bool false):=by
  unfold lch
  rw [hf,Option.bind_some,hg,Option.bind_some,pEq_hd h,Option.bind_some]
  by_cases e:A.head?=B.head?
  · rw [decide_eq_true e]
    show (k η).bind _=_
    rw [hk,Option.bind_some]
    have:hdD c B=kD c (shN (hpth ps A) (hpth ps B)).getLast?:=by
      cases A with
      | nil =>
        cases B with
        | nil=>rfl
        | cons b B=>simp at e
      | cons a A =>
        cases B with
        | nil=>simp at e
        | cons b B =>
          simp at e
          subst e
          show c.s a=kD c (shN (P ps a) (P ps a)).getLast?
          rw [shN_same,P_succ okp (hA a List.mem_cons_self)]
          simp [kD]
    rw [← this]
    refine pNe_self ?_
    cases B with
    | nil=>show SeqAt.shaped .none=true; decide
    | cons b B=>exact shaped_str (h.ok b)
  · rw [decide_eq_false e]; rfl
noncomputable def laD (c:Sc):Option (Nat×Int)→PyData
  | none=>.none
  | some e=>.tuple [c.s e.1,.int e.2]
end K23
namespace K23
open PySem L2 L2.PU
noncomputable def okW (w:Str):Prop:=PyData.strOk w=true
theorem row_ok {c:Sc} (h:c.Ok):∀ l:List (Str×Nat),(∀ r∈l,okW r.1)→PyData.canLayAll0 (l.map (rD c))=true∧PyData.depthAll (l.map (rD c))≤1
  | [],_=>⟨rfl,by simp [PyData.depthAll]⟩
  | r::l,hl=>by
    obtain ⟨h1,h2⟩:=row_ok h l fun x hx=>hl x (List.mem_cons_of_mem _ hx)
    have hr:PyData.strOk r.1=true:=hl r List.mem_cons_self
    refine ⟨?_,?_⟩
    · simp [rD,Sc.s,PyData.canLayAll0,PyData.canLay0,hr,h.ok,h1]
    · simp [rD,Sc.s,PyData.depthAll,PyData.depth]
      omega
theorem pNe_R {c:Sc} (h:c.Ok) {l:List (Str×Nat)} (hl:∀ r∈l,okW r.1):pNe (Rw c l) (Rw c l)=some (.bool false):=by
  obtain ⟨h1,h2⟩:=row_ok h l hl
  refine pNe_self ?_
  have h3:PyData.depthAll (l.map (rD c))=0∨PyData.depthAll (l.map (rD c))=1:=by omega
  rcases h3 with h3 | h3
  · simp [Rw,SeqAt.shaped,PyData.canLay0,PyData.depth,h1,h3]
  · simp [Rw,SeqAt.shaped,PyData.canLay0,PyData.depth,h1,h3]
noncomputable def Dr.sc (c:Dr):Sc:=⟨stF c.ps,c.nm,fun i=>c.L (i - 1),fun i=>c.T (i - 1),fun i=>c.W (i - 1),fun i=>c.H (i - 1),fun i=>c.mr (i - 1)⟩
theorem Dr.sc_d (c:Dr):c.sc.d=c.d:=by
  unfold Sc.d Dr.d Dr.sc stF
  dsimp only
  rw [List.map_map]
  rfl
theorem F_ninit (c:Sc) (s0:Sto):F_Hands____init__ [.r s0.length,.d c.d] (s0++[.obj 1 []])=some (.d .none,s0++[.obj 1 (nf c (s0.length+1)),.dct []]):=by
  have ge:(s0++[Cell.obj 1 []])[s0.length]?=some (.obj 1 []):=by rw [List.getElem?_append_right (Nat.le_refl _),Nat.sub_self]; rfl
  have ge2:(s0++[Cell.obj 1 [("scene", .d c.d)],.dct []])[s0.length]?=some (.obj 1 [("scene", .d c.d)]):=by rw [List.getElem?_append_right (Nat.le_refl _),Nat.sub_self]; rfl
  show runM 2 2 g_Hands____init__ [.r s0.length,.d c.d] (s0++[.obj 1 []])=_
  refine mRunN (w1:=⟨[some (.r s0.length),some (.d c.d)],s0++[.obj 1 (nf c (s0.length+1)),.dct []]⟩) rfl ?_
  show g_Hands____init__ ⟨[some (.r s0.length),some (.d c.d)],s0++[.obj 1 []]⟩=_
  refine mSeq_of (w1:=⟨[some (.r s0.length),some (.d c.d)],s0++[.obj 1 [("scene", .d c.d)]]⟩) ?_ ?_
  · rw [mPut_of (d:=.d c.d) (n:=s0.length) (fs:=[]) (mP_of rfl) rfl ge (by simp)]
    dsimp only
    rw [List.set_append_right _ _ (Nat.le_refl _),Nat.sub_self]; rfl
  · have ed:mNewD ⟨[some (.r s0.length),some (.d c.d)],s0++[.obj 1 [("scene", .d c.d)]]⟩=some (.r (s0.length+1),s0++[.obj 1 [("scene", .d c.d)],.dct []]):=by
      unfold mNewD
      dsimp only
      rw [List.length_append,List.append_assoc]; rfl
    rw [mPut_of (d:=.r (s0.length+1)) (n:=s0.length) (fs:=[("scene", .d c.d)]) ed rfl ge2 (by simp)]
    dsimp only
    rw [List.set_append_right _ _ (Nat.le_refl _),Nat.sub_self]; rfl
theorem mAppC_of {w:Wd} {s s1:Sto} {n:Nat} {d:D} {ds:List D} {o g:MF} {ds0:List D} (h1:o w=some (.r n,s)) (h2:s[n]?=some (.lst ds0)) (h3:g ⟨w.η,s⟩=some (d,s1)) (h4:s1[n]?=some (.lst ds)) (hl:ds.length≤3000000):mAppC o g w=some (.d .none,s1.set n (.lst (ds++[d]))):=by
  unfold mAppC
  rw [h1,Option.bind_some]
  dsimp only
  rw [h2]
  dsimp only
  rw [h3,Option.bind_some]
  dsimp only
  rw [h4]
  dsimp only
  rw [if_pos (Nat.lt_of_le_of_lt hl (by show 3000000 < 2 ^ 24; decide))]
end K23
namespace K23
open PySem L2 L2.PU
section
variable {c:Sc} {ps pnt:List Nat} {ns:List Int}
theorem due_w (last:Option (Nat×Int)) (mo:Int) (o:Option Nat):∀ r∈dueL last mo o,okW r.1:=fun r hr=>by
  have h1:okW ("click" : Str):=by show PyData.strOk ("click" : Str)=true; decide +kernel
  have h2:okW ("double" : Str):=by show PyData.strOk ("double" : Str)=true; decide +kernel
  cases o with
  | none=>cases hr
  | some x =>
    unfold dueL at hr
    dsimp only at hr
    split at hr
    · simp at hr
      rcases hr with rfl | rfl
      · exact h1
      · exact h2
    · simp at hr
      subst hr
      exact h1
noncomputable abbrev G (ns:List Int) (c:Sc) (mo:Int) (last:Option (Nat×Int)) (x5 x6 x7 x8 x9 x10 x11 x12 x13 x14 x15:Option D):MEn :=
  [some (.d (Sd ns)),some (.d c.d),some (.r 0),some (.d (.int mo)),some (.d (laD c last)),x5,x6,x7,x8,x9,x10,x11,x12,x13,x14,x15]
noncomputable abbrev pt (x y:Int):PyData:=.tuple [.int x,.int y]
theorem name_ok (ok:c.Ok) {p1 p2:List Nat} (l1:p1.length≤7) (l2:p2.length≤7) (mo:Int) (last:Option (Nat×Int)) (s:Sto) (x5 x6 x7 x8 x9 x13 x14 x15:Option D) :
    ∃ y13 y14,mFor [13,14] (iPu (lI asL (L2.PU.l2 pRv (lA pZipL (aC (eV 10) (aC (eV 11) aN))) (L2.PU.l1 pNeg (eC (.int 1)))))) (tgT (tgCons (tgN 13) (tgCons (tgN 14) tgNil)))
    (mIf (tPv (bAnd (bT (L2.PU.l2 (pIsN false) (eV 12) (eC .none))) (bT (L2.PU.l2 pEq (eV 13) (eV 14))))) (mSet 12 (mP (eV 13))) mNx) ⟨G ns c mo last x5 x6 x7 x8 x9 (some (.d (c.S p1))) (some (.d (c.S p2))) (some (.d .none)) x13 x14 x15,s⟩
      = some (.nx ⟨G ns c mo last x5 x6 x7 x8 x9 (some (.d (c.S p1))) (some (.d (c.S p2))) (some (.d (kD c ((p1.zip p2).reverse.foldl nmS none)))) y13 y14 x15,s⟩):=by
  obtain ⟨w',e,y13,y14,rfl⟩:=mGo_all (ks:=[13,14]) (t:=tgT (tgCons (tgN 13) (tgCons (tgN 14) tgNil))) (body:=mIf (tPv (bAnd (bT (L2.PU.l2 (pIsN false) (eV 12) (eC .none))) (bT (L2.PU.l2 pEq (eV 13) (eV 14))))) (mSet 12 (mP (eV 13))) mNx) (fun e:Nat×Nat=>PyData.tuple [c.s e.1,c.s e.2])
    (fun done w=>∃ y13 y14,w=⟨G ns c mo last x5 x6 x7 x8 x9 (some (.d (c.S p1))) (some (.d (c.S p2))) (some (.d (kD c (done.foldl nmS none)))) y13 y14 x15,s⟩) (p1.zip p2).reverse (fun done e rest w hall ⟨y13,y14,hw⟩=>by
      subst hw
      refine ⟨⟨G ns c mo last x5 x6 x7 x8 x9 (some (.d (c.S p1))) (some (.d (c.S p2))) (some (.d (kD c (done.foldl nmS none)))) (some (.d (c.s e.1))) (some (.d (c.s e.2))) x15,s⟩,⟨G ns c mo last x5 x6 x7 x8 x9 (some (.d (c.S p1))) (some (.d (c.S p2))) (some (.d (kD c ((done++[e]).foldl nmS none)))) (some (.d (c.s e.1))) (some (.d (c.s e.2))) x15,s⟩,rfl,?_,_,_,rfl⟩
      rw [List.foldl_append]
      show _=some (MOut.nx ⟨G ns c mo last x5 x6 x7 x8 x9 (some (.d (c.S p1))) (some (.d (c.S p2))) (some (.d (kD c (nmS (done.foldl nmS none) e)))) (some (.d (c.s e.1))) (some (.d (c.s e.2))) x15,s⟩)
      cases done.foldl nmS none with
      | some x=>exact mIfN (s:=s) (tPv_of (bAndF (bT_of (l2_of rfl rfl rfl))))
      | none =>
        have t1:=ok.eqs e.1 e.2
        by_cases he:e.1=e.2
        · rw [decide_eq_true he] at t1
          rw [show nmS none e=some e.1 from if_pos he]
          exact mIfT (s:=s) (tPv_of (bAndT (bT_of (l2_of rfl rfl rfl)) (bT_of (l2_of rfl rfl t1)))) (mSet_of (mP_of rfl))
        · rw [decide_eq_false he] at t1
          rw [show nmS none e=none from if_neg he]
          exact mIfN (s:=s) (tPv_of (bAndT (bT_of (l2_of rfl rfl rfl)) (bT_of (l2_of rfl rfl t1))))) (w:=⟨G ns c mo last x5 x6 x7 x8 x9 (some (.d (c.S p1))) (some (.d (c.S p2))) (some (.d .none)) x13 x14 x15,s⟩) ⟨x13,x14,rfl⟩
  refine ⟨y13,y14,mFor_of (xs:=(p1.zip p2).reverse.map fun e:Nat×Nat=>PyData.tuple [c.s e.1,c.s e.2]) ?_ e⟩
  have hz:pZipL [c.S p1,c.S p2]=some (.list ((p1.zip p2).map fun e:Nat×Nat=>PyData.tuple [c.s e.1,c.s e.2])):=by
    unfold pZipL Sc.S
    dsimp only
    rw [if_pos (by rw [List.length_map,List.length_map]; omega),List.zip_map,List.map_map]; rfl
  refine bind_of (x:=((p1.zip p2).map fun e:Nat×Nat=>PyData.tuple [c.s e.1,c.s e.2]).reverse) (lI_of (d:=.list ((p1.zip p2).map fun e:Nat×Nat=>PyData.tuple [c.s e.1,c.s e.2]).reverse) (l2_of (lA_of (aC_of rfl (aC_of rfl rfl)) hz) (l1_of (x:=.int 1) rfl rfl) rfl) rfl) ?_
  rw [← List.map_reverse]
end
end K23
namespace K23
open PySem L2 L2.PU
noncomputable abbrev tB:Wd→Option MOut:=(mSeq (mSet 6 (mP (lA (fun ds=>if ds.length≤sizeLine then some (.tuple ds) else none) (aC (l2 pSub (lA F__law_drawn (aC (eV 0) (aC (l2 pAdd (eC (.int 100)) (l2 pMul (eC (.int 9)) (eV 5))) (aC (eC (.int 8)) aN)))) (eC (.int 1))) (aC (l2 pSub (lA F__law_drawn (aC (eV 0) (aC (l2 pAdd (eC (.int 101)) (l2 pMul (eC (.int 9)) (eV 5))) (aC (eC (.int 8)) aN)))) (eC (.int 1))) aN)))))
    (mSeq (mSet 7 (mP (lA (fun ds=>if ds.length≤sizeLine then some (.tuple ds) else none) (aC (l2 pSub (lA F__law_drawn (aC (eV 0) (aC (l2 pAdd (eC (.int 102)) (l2 pMul (eC (.int 9)) (eV 5))) (aC (eC (.int 8)) aN)))) (eC (.int 1))) (aC (l2 pSub (lA F__law_drawn (aC (eV 0) (aC (l2 pAdd (eC (.int 103)) (l2 pMul (eC (.int 9)) (eV 5))) (aC (eC (.int 8)) aN)))) (eC (.int 1))) aN)))))
    (mSeq (mIf (tPv (bT (l2 pEq (lA F__law_drawn (aC (eV 0) (aC (l2 pAdd (eC (.int 104)) (l2 pMul (eC (.int 9)) (eV 5))) (aC (eC (.int 2)) aN)))) (eC (.int 0))))) (mSet 7 (mP (eV 6))) mNx)
    (mSeq (mSet 3 (mP (l2 pAdd (eV 3) (l2 pIx (eC (.list [(.int 1),(.int 10),(.int 19),(.int 20),(.int 21),(.int 40)])) (lA F__law_drawn (aC (eV 0) (aC (l2 pAdd (eC (.int 105)) (l2 pMul (eC (.int 9)) (eV 5))) (aC (eC (.int 6)) aN))))))))
    (mSeq (mExp (mMeth 1 "down" F_Hands__down (mV 2) (maC (mP (eC (.int 0))) (maC (mP (eV 3)) (maC (mP (l2 pIx (eV 6) (eC (.int 0)))) (maC (mP (l2 pIx (eV 6) (eC (.int 1)))) maN))))))
    (mSeq (mSet 8 (mMeth 1 "up" F_Hands__up (mV 2) (maC (mP (eC (.int 0))) (maC (mP (eV 3)) (maC (mP (l2 pIx (eV 7) (eC (.int 0)))) (maC (mP (l2 pIx (eV 7) (eC (.int 1)))) maN))))))
    (mSeq (mSet 9 (mC (sComp [none] (lI asL (eV 8)) (tgN 0) (bT (l2 (pIn false) (l2 pIx (eV 0) (eC (.int 0))) (lA (fun ds=>if ds.length≤sizeLine then some (.tuple ds) else none) (aC (eC (.str "click")) (aC (eC (.str "double")) aN))))) (eV 0))))
    (mSeq (mSet 10 (mP (lA F_hit_path (aC (eV 1) (aC (l2 pIx (eV 6) (eC (.int 0))) (aC (l2 pIx (eV 6) (eC (.int 1))) aN))))))
    (mSeq (mSet 11 (mP (lA F_hit_path (aC (eV 1) (aC (l2 pIx (eV 7) (eC (.int 0))) (aC (l2 pIx (eV 7) (eC (.int 1))) aN))))))
    (mSeq (mSet 12 (mP (eC .none)))
    (mSeq (mFor [13,14] (iPu (lI asL (l2 pRv (lA pZipL (aC (eV 10) (aC (eV 11) aN))) (l1 pNeg (eC (.int 1)))))) (tgT (tgCons (tgN 13) (tgCons (tgN 14) tgNil)))
    (mIf (tPv (bAnd (bT (l2 (pIsN false) (eV 12) (eC .none))) (bT (l2 pEq (eV 13) (eV 14))))) (mSet 12 (mP (eV 13))) mNx))
    (mSeq (mIf (tPv (bT (lch pEq pNe (lA F_hit (aC (eV 1) (aC (l2 pIx (eV 6) (eC (.int 0))) (aC (l2 pIx (eV 6) (eC (.int 1))) aN)))) (lA F_hit (aC (eV 1) (aC (l2 pIx (eV 7) (eC (.int 0))) (aC (l2 pIx (eV 7) (eC (.int 1))) aN)))) (eV 12)))) (mRet (mP (eC (.bool false)))) mNx)
    (mSeq (mSet 15 (mN (fun η=>(aN η).bind gL)))
    (mSeq (mIf (tPv (bT (l2 (pIsN true) (eV 12) (eC .none)))) (mSeq (mSet 15 (mN (fun η=>((aC (lA (fun ds=>if ds.length≤sizeLine then some (.tuple ds) else none) (aC (eC (.str "click")) (aC (eV 12) aN))) aN) η).bind gL)))
    (mIf (tPv (bAnd (bT (l2 (pIsN true) (eV 4) (eC .none))) (bAnd (bT (l2 pEq (l2 pIx (eV 4) (eC (.int 0))) (eV 12))) (bT (l2 pLe (l2 pSub (eV 3) (l2 pIx (eV 4) (eC (.int 1)))) (eC (.int 20))))))) (mSeq (mExp (mAppC (mV 15) (mP (lA (fun ds=>if ds.length≤sizeLine then some (.tuple ds) else none) (aC (eC (.str "double")) (aC (eV 12) aN))))))
    (mSet 4 (mP (eC .none)))) (mSet 4 (mP (lA (fun ds=>if ds.length≤sizeLine then some (.tuple ds) else none) (aC (eV 12) (aC (eV 3) aN))))))) mNx)
    (mIf (mB (mOpL pNe (mP (eV 9)) (mV 15))) (mRet (mP (eC (.bool false)))) mNx)))))))))))))))
theorem mN_of {f:En→Option (List PyData)} {w:Wd} {xs:List PyData} (h:f (vw w)=some xs):mN f w=some (.r w.s.length,w.s++[.lst (xs.map .d)]):=by
  unfold mN
  rw [h]; rfl
theorem T_hit {c:Sc} {ps pnt:List Nat} {Dm:Nat→Prop} (t:Tr c ps Dm pnt) (x y:Int):F_hit [c.d,.int x,.int y]=some (hdD c (hitL c.geo ps pnt x y)):=run_of rfl (show g_hit F_takers F_first_at [.val c.d,.val (.int x),.val (.int y)]=_ from ret_of (lA_of (aC_of (lA_of (aC_of rfl rfl) (T_takers t)) (aC_of rfl (aC_of rfl rfl))) (T_first t x y)))
theorem six {r:Nat} (h:r < 6):∃ v:Int,pIx (.list [.int 1,.int 10,.int 19,.int 20,.int 21,.int 40]) (.int (r:Nat))=some (.int v):=by
  match r,h with
  | 0,_=>exact ⟨_,rfl⟩
  | 1,_=>exact ⟨_,rfl⟩
  | 2,_=>exact ⟨_,rfl⟩
  | 3,_=>exact ⟨_,rfl⟩
  | 4,_=>exact ⟨_,rfl⟩
  | 5,_=>exact ⟨_,rfl⟩
section
variable {c:Sc} {ps:List Nat} {ns:List Int} (t:Tr c ps (In ps) (pntF ps))
include t
theorem rows_len {h:Hd} (hp:h.pr=none) (hh:h.held=none) {p1 p2:List Nat} (l1:p1.length≤7) (l2:p2.length≤7) (mo:Int):(upR (dnH h p1) p2 mo).length≤20:=by
  have ed:dnH h p1={ h with pr:=some p1,trail:=p1,held:=p1.getLast? }:=by
    unfold dnH dnH1
    rw [if_pos hp,if_pos hh]
  have er:upR (dnH h p1) p2 mo=(tell (dnH h p1) "up" ++ upC (dnH h p1) mo (upN p1 p2))++lead (upH1 (dnH h p1) mo (upN p1 p2)) p2:=by
    unfold upR
    rw [ed]
  have a1:=tell_len (dnH h p1) "up"
  have a2:(upC (dnH h p1) mo (upN p1 p2)).length≤2:=by
    unfold upC
    split
    · simp
    · exact clickR_len _ _ _
  have a3:(lead (upH1 (dnH h p1) mo (upN p1 p2)) p2).length≤14:=lead_len (by
    unfold upH1
    split
    · rw [ed]; exact l1
    · rw [ed]; exact l1) l2
  rw [er,List.length_append,List.length_append]
  omega
theorem turn_ok (hn:ns.length≤63) {s:Sto} {kvs:List (Key×D)} {K:Int→Hd} (H:HOk c s 0 1 kvs K) (hl:kvs.length+2 < 1000) {mo:Int} {last:Option (Nat×Int)} (hL:okL last (K 0)) (hpr:(K 0).pr=none) (hhe:(K 0).held=none) (k:Nat) (x6 x7 x8 x9 x10 x11 x12 x13 x14 x15:Option D) :
    ∃ mo' last' y6 y7 y8 y9 y10 y11 y12 y13 y14 y15 s' kvs' K',tB ⟨G ns c mo last (some (.d (.int (0+(k:Nat))))) x6 x7 x8 x9 x10 x11 x12 x13 x14 x15,s⟩=some (.nx ⟨G ns c mo' last' (some (.d (.int (0+(k:Nat))))) y6 y7 y8 y9 y10 y11 y12 y13 y14 y15,s'⟩)∧HOk c s' 0 1 kvs' K'∧kvs'.length≤kvs.length+2∧okL last' (K' 0)∧(K' 0).pr=none∧(K' 0).held=none:=by
  have mk:CMul 9 (0+(k:Int)):=mulL (by decide) (by decide)
  obtain ⟨a0,_,d0⟩:=drawn_ok hn (k:=100+9*(0+(k:Int))) (m:=8) (by omega) (by decide)
  obtain ⟨a1,_,d1⟩:=drawn_ok hn (k:=101+9*(0+(k:Int))) (m:=8) (by omega) (by decide)
  obtain ⟨a2,_,d2⟩:=drawn_ok hn (k:=102+9*(0+(k:Int))) (m:=8) (by omega) (by decide)
  obtain ⟨a3,_,d3⟩:=drawn_ok hn (k:=103+9*(0+(k:Int))) (m:=8) (by omega) (by decide)
  obtain ⟨a4,_,d4⟩:=drawn_ok hn (k:=104+9*(0+(k:Int))) (m:=2) (by omega) (by decide)
  obtain ⟨a5,h5,d5⟩:=drawn_ok hn (k:=105+9*(0+(k:Int))) (m:=6) (by omega) (by decide)
  obtain ⟨v,hv⟩:=six (r:=a5) (by omega)
  generalize hx1:(a0:Int) - 1=x1
  generalize hy1:(a1:Int) - 1=y1
  have f1:∀ (x6 x7:Option D),mSet 6 (mP (lA (fun ds=>if ds.length≤sizeLine then some (.tuple ds) else none) (aC (L2.PU.l2 pSub (lA F__law_drawn (aC (eV 0) (aC (L2.PU.l2 pAdd (eC (.int 100)) (L2.PU.l2 pMul (eC (.int 9)) (eV 5))) (aC (eC (.int 8)) aN)))) (eC (.int 1))) (aC (L2.PU.l2 pSub (lA F__law_drawn (aC (eV 0) (aC (L2.PU.l2 pAdd (eC (.int 101)) (L2.PU.l2 pMul (eC (.int 9)) (eV 5))) (aC (eC (.int 8)) aN)))) (eC (.int 1))) aN)))) ⟨G ns c mo last (some (.d (.int (0+(k:Nat))))) x6 x7 x8 x9 x10 x11 x12 x13 x14 x15,s⟩=some (.nx ⟨G ns c mo last (some (.d (.int (0+(k:Nat))))) (some (.d (pt x1 y1))) x7 x8 x9 x10 x11 x12 x13 x14 x15,s⟩):=fun x6 x7 =>
    mSet_of (mP_of (lA_of (ds:=[.int x1,.int y1]) (aC_of (l2_of (x:=.int (a0:Nat)) (lA_of (aC_of rfl (aC_of (l2_of rfl (l2_of rfl rfl (pMul_ok mk)) rfl) (aC_of rfl rfl))) d0) rfl (by show some (PyData.int ((a0:Int) - 1))=_; rw [hx1])) (aC_of (l2_of (x:=.int (a1:Nat)) (lA_of (aC_of rfl (aC_of (l2_of rfl (l2_of rfl rfl (pMul_ok mk)) rfl) (aC_of rfl rfl))) d1) rfl (by show some (PyData.int ((a1:Int) - 1))=_; rw [hy1])) rfl)) (tup1_ok (by simp))))
  have f2:∃ x2 y2,∀ (r:Option MOut) (g:Wd→Option MOut),g ⟨G ns c mo last (some (.d (.int (0+(k:Nat))))) (some (.d (pt x1 y1))) (some (.d (pt x2 y2))) x8 x9 x10 x11 x12 x13 x14 x15,s⟩=r→(mSeq (mSet 7 (mP (lA (fun ds=>if ds.length≤sizeLine then some (.tuple ds) else none) (aC (L2.PU.l2 pSub (lA F__law_drawn (aC (eV 0) (aC (L2.PU.l2 pAdd (eC (.int 102)) (L2.PU.l2 pMul (eC (.int 9)) (eV 5))) (aC (eC (.int 8)) aN)))) (eC (.int 1))) (aC (L2.PU.l2 pSub (lA F__law_drawn (aC (eV 0) (aC (L2.PU.l2 pAdd (eC (.int 103)) (L2.PU.l2 pMul (eC (.int 9)) (eV 5))) (aC (eC (.int 8)) aN)))) (eC (.int 1))) aN)))))
    (mSeq (mIf (tPv (bT (L2.PU.l2 pEq (lA F__law_drawn (aC (eV 0) (aC (L2.PU.l2 pAdd (eC (.int 104)) (L2.PU.l2 pMul (eC (.int 9)) (eV 5))) (aC (eC (.int 2)) aN)))) (eC (.int 0))))) (mSet 7 (mP (eV 6))) mNx) g)) ⟨G ns c mo last (some (.d (.int (0+(k:Nat))))) (some (.d (pt x1 y1))) x7 x8 x9 x10 x11 x12 x13 x14 x15,s⟩=r:=by
    have q1:mSet 7 (mP (lA (fun ds=>if ds.length≤sizeLine then some (.tuple ds) else none) (aC (L2.PU.l2 pSub (lA F__law_drawn (aC (eV 0) (aC (L2.PU.l2 pAdd (eC (.int 102)) (L2.PU.l2 pMul (eC (.int 9)) (eV 5))) (aC (eC (.int 8)) aN)))) (eC (.int 1))) (aC (L2.PU.l2 pSub (lA F__law_drawn (aC (eV 0) (aC (L2.PU.l2 pAdd (eC (.int 103)) (L2.PU.l2 pMul (eC (.int 9)) (eV 5))) (aC (eC (.int 8)) aN)))) (eC (.int 1))) aN)))) ⟨G ns c mo last (some (.d (.int (0+(k:Nat))))) (some (.d (pt x1 y1))) x7 x8 x9 x10 x11 x12 x13 x14 x15,s⟩=some (.nx ⟨G ns c mo last (some (.d (.int (0+(k:Nat))))) (some (.d (pt x1 y1))) (some (.d (pt ((a2:Int) - 1) ((a3:Int) - 1)))) x8 x9 x10 x11 x12 x13 x14 x15,s⟩) :=
      mSet_of (mP_of (lA_of (ds:=[.int ((a2:Int) - 1),.int ((a3:Int) - 1)]) (aC_of (l2_of (x:=.int (a2:Nat)) (lA_of (aC_of rfl (aC_of (l2_of rfl (l2_of rfl rfl (pMul_ok mk)) rfl) (aC_of rfl rfl))) d2) rfl rfl) (aC_of (l2_of (x:=.int (a3:Nat)) (lA_of (aC_of rfl (aC_of (l2_of rfl (l2_of rfl rfl (pMul_ok mk)) rfl) (aC_of rfl rfl))) d3) rfl rfl) rfl)) (tup1_ok (by simp))))
    have q2:tPv (bT (L2.PU.l2 pEq (lA F__law_drawn (aC (eV 0) (aC (L2.PU.l2 pAdd (eC (.int 104)) (L2.PU.l2 pMul (eC (.int 9)) (eV 5))) (aC (eC (.int 2)) aN)))) (eC (.int 0)))) ⟨G ns c mo last (some (.d (.int (0+(k:Nat))))) (some (.d (pt x1 y1))) (some (.d (pt ((a2:Int) - 1) ((a3:Int) - 1)))) x8 x9 x10 x11 x12 x13 x14 x15,s⟩=some (((a4:Int)==0),s):=tPv_of (bT_of (l2_of (lA_of (aC_of rfl (aC_of (l2_of rfl (l2_of rfl rfl (pMul_ok mk)) rfl) (aC_of rfl rfl))) d4) rfl (pEq_int _ _)))
    cases hb:((a4:Int)==0) with
    | true =>
      rw [hb] at q2
      exact ⟨x1,y1,fun r g hg=>mSeq_of q1 (mSeq_of (mIfT q2 (mSet_of (mP_of rfl))) hg)⟩
    | false =>
      rw [hb] at q2
      exact ⟨_,_,fun r g hg=>mSeq_of q1 (mSeq_of (mIfN q2) hg)⟩
  obtain ⟨x2,y2,f2⟩:=f2
  obtain ⟨e1,lp1⟩:=T_hp t x1 y1
  obtain ⟨e2,lp2⟩:=T_hp t x2 y2
  have w1:Way ps (hpth ps (hitL c.geo ps (pntF ps) x1 y1)):=way_hp (c:=c) (pnt:=pntF ps) t.ps _
  have w2:Way ps (hpth ps (hitL c.geo ps (pntF ps) x2 y2)):=way_hp (c:=c) (pnt:=pntF ps) t.ps _
  have hA:∀ q∈hitL c.geo ps (pntF ps) x1 y1,1≤q:=fun q hq=>(t.din q (tk_in t (List.mem_filter.mp hq).1)).1
  have g1:=T_hit t x1 y1
  have g2:=T_hit t x2 y2
  have hne:=nm_eq w1 w2
  have hch:∀ {f g k:En→Option PyData} {η:En},f η=some (hdD c (hitL c.geo ps (pntF ps) x1 y1))→g η=some (hdD c (hitL c.geo ps (pntF ps) x2 y2))→k η=some (kD c (shN (hpth ps (hitL c.geo ps (pntF ps) x1 y1)) (hpth ps (hitL c.geo ps (pntF ps) x2 y2))).getLast?)→lch pEq pNe f g k η=some (.bool false):=fun hf hg hk=>chain_ok t.ok t.ps hA hf hg hk
  generalize hpth ps (hitL c.geo ps (pntF ps) x1 y1)=p1 at *
  generalize hpth ps (hitL c.geo ps (pntF ps) x2 y2)=p2 at *
  obtain ⟨s1,kvs1,r1,H1,_,lx1⟩:=F_dn t.ok H (by omega) 0 (mo:=.int (mo+v)) e1 lp1
  obtain ⟨s2,kvs2,r2,H2,_,lx2⟩:=F_up t.ok H1 (by omega) 0 (mo:=mo+v) e2 lp2
  have k1:upK K 0 (dnH (K 0) p1) 0=dnH (K 0) p1:=if_pos rfl
  rw [k1] at r2 H2
  obtain ⟨u1,u2,u3,u4⟩:=turn_hd hL hpr hhe p1 p2 (mo+v)
  have lr:=rows_len t hpr hhe lp1 lp2 (mo+v)
  generalize hrows:upR (dnH (K 0) p1) p2 (mo+v)=rows at *
  generalize hnew:upH (dnH (K 0) p1) p2 (mo+v)=hd' at *
  generalize hnm:(shN p1 p2).getLast?=nm at *
  have hK0:∀ K2:Int→Hd,upK K2 0 hd' 0=hd':=fun K2=>if_pos rfl
  obtain ⟨y13,y14,en⟩:=name_ok (ns:=ns) t.ok lp1 lp2 (mo+v) last s2 (some (.d (.int (0+(k:Nat))))) (some (.d (pt x1 y1))) (some (.d (pt x2 y2))) (some (.d (Rw c rows))) (some (.d (Rw c (dueL last (mo+v) nm)))) x13 x14 x15
  rw [hne] at en
  have pre:∀ (r:Option MOut) (g:Wd→Option MOut),g ⟨G ns c (mo+v) last (some (.d (.int (0+(k:Nat))))) (some (.d (pt x1 y1))) (some (.d (pt x2 y2))) (some (.d (Rw c rows))) (some (.d (Rw c (dueL last (mo+v) nm)))) (some (.d (c.S p1))) (some (.d (c.S p2))) (some (.d (kD c nm))) y13 y14 x15,s2⟩=r→((mSeq (mSet 6 (mP (lA (fun ds=>if ds.length≤sizeLine then some (.tuple ds) else none) (aC (L2.PU.l2 pSub (lA F__law_drawn (aC (eV 0) (aC (L2.PU.l2 pAdd (eC (.int 100)) (L2.PU.l2 pMul (eC (.int 9)) (eV 5))) (aC (eC (.int 8)) aN)))) (eC (.int 1))) (aC (L2.PU.l2 pSub (lA F__law_drawn (aC (eV 0) (aC (L2.PU.l2 pAdd (eC (.int 101)) (L2.PU.l2 pMul (eC (.int 9)) (eV 5))) (aC (eC (.int 8)) aN)))) (eC (.int 1))) aN)))))
    (mSeq (mSet 7 (mP (lA (fun ds=>if ds.length≤sizeLine then some (.tuple ds) else none) (aC (L2.PU.l2 pSub (lA F__law_drawn (aC (eV 0) (aC (L2.PU.l2 pAdd (eC (.int 102)) (L2.PU.l2 pMul (eC (.int 9)) (eV 5))) (aC (eC (.int 8)) aN)))) (eC (.int 1))) (aC (L2.PU.l2 pSub (lA F__law_drawn (aC (eV 0) (aC (L2.PU.l2 pAdd (eC (.int 103)) (L2.PU.l2 pMul (eC (.int 9)) (eV 5))) (aC (eC (.int 8)) aN)))) (eC (.int 1))) aN)))))
    (mSeq (mIf (tPv (bT (L2.PU.l2 pEq (lA F__law_drawn (aC (eV 0) (aC (L2.PU.l2 pAdd (eC (.int 104)) (L2.PU.l2 pMul (eC (.int 9)) (eV 5))) (aC (eC (.int 2)) aN)))) (eC (.int 0))))) (mSet 7 (mP (eV 6))) mNx)
    (mSeq (mSet 3 (mP (L2.PU.l2 pAdd (eV 3) (L2.PU.l2 pIx (eC (.list [(.int 1),(.int 10),(.int 19),(.int 20),(.int 21),(.int 40)])) (lA F__law_drawn (aC (eV 0) (aC (L2.PU.l2 pAdd (eC (.int 105)) (L2.PU.l2 pMul (eC (.int 9)) (eV 5))) (aC (eC (.int 6)) aN))))))))
    (mSeq (mExp (mMeth 1 "down" F_Hands__down (mV 2) (maC (mP (eC (.int 0))) (maC (mP (eV 3)) (maC (mP (L2.PU.l2 pIx (eV 6) (eC (.int 0)))) (maC (mP (L2.PU.l2 pIx (eV 6) (eC (.int 1)))) maN))))))
    (mSeq (mSet 8 (mMeth 1 "up" F_Hands__up (mV 2) (maC (mP (eC (.int 0))) (maC (mP (eV 3)) (maC (mP (L2.PU.l2 pIx (eV 7) (eC (.int 0)))) (maC (mP (L2.PU.l2 pIx (eV 7) (eC (.int 1)))) maN))))))
    (mSeq (mSet 9 (mC (sComp [none] (lI asL (eV 8)) (tgN 0) (bT (L2.PU.l2 (pIn false) (L2.PU.l2 pIx (eV 0) (eC (.int 0))) (lA (fun ds=>if ds.length≤sizeLine then some (.tuple ds) else none) (aC (eC (.str "click")) (aC (eC (.str "double")) aN))))) (eV 0))))
    (mSeq (mSet 10 (mP (lA F_hit_path (aC (eV 1) (aC (L2.PU.l2 pIx (eV 6) (eC (.int 0))) (aC (L2.PU.l2 pIx (eV 6) (eC (.int 1))) aN))))))
    (mSeq (mSet 11 (mP (lA F_hit_path (aC (eV 1) (aC (L2.PU.l2 pIx (eV 7) (eC (.int 0))) (aC (L2.PU.l2 pIx (eV 7) (eC (.int 1))) aN))))))
    (mSeq (mSet 12 (mP (eC .none)))
    (mSeq (mFor [13,14] (iPu (lI asL (L2.PU.l2 pRv (lA pZipL (aC (eV 10) (aC (eV 11) aN))) (L2.PU.l1 pNeg (eC (.int 1)))))) (tgT (tgCons (tgN 13) (tgCons (tgN 14) tgNil)))
    (mIf (tPv (bAnd (bT (L2.PU.l2 (pIsN false) (eV 12) (eC .none))) (bT (L2.PU.l2 pEq (eV 13) (eV 14))))) (mSet 12 (mP (eV 13))) mNx))
    (mSeq (mIf (tPv (bT (lch pEq pNe (lA F_hit (aC (eV 1) (aC (L2.PU.l2 pIx (eV 6) (eC (.int 0))) (aC (L2.PU.l2 pIx (eV 6) (eC (.int 1))) aN)))) (lA F_hit (aC (eV 1) (aC (L2.PU.l2 pIx (eV 7) (eC (.int 0))) (aC (L2.PU.l2 pIx (eV 7) (eC (.int 1))) aN)))) (eV 12)))) (mRet (mP (eC (.bool false)))) mNx)
     g))))))))))))) ⟨G ns c mo last (some (.d (.int (0+(k:Nat))))) x6 x7 x8 x9 x10 x11 x12 x13 x14 x15,s⟩=r:=fun r g hg=>by
    refine mSeq_of (f1 x6 x7) (f2 r _ ?_)
    refine mSeq_of (w1:=⟨G ns c (mo+v) last (some (.d (.int (0+(k:Nat))))) (some (.d (pt x1 y1))) (some (.d (pt x2 y2))) x8 x9 x10 x11 x12 x13 x14 x15,s⟩) (mSet_of (mP_of (l2_of (x:=.int mo) (y:=.int v) rfl (l2_of rfl (lA_of (aC_of rfl (aC_of (l2_of rfl (l2_of rfl rfl (pMul_ok mk)) rfl) (aC_of rfl rfl))) d5) hv) rfl))) ?_
    refine mSeq_of (mExp_of (mMeth_of (n:=0) rfl H.ob rfl (maC_of (s1:=s) (mP_of rfl) (maC_of (s1:=s) (mP_of rfl) (maC_of (s1:=s) (mP_of (l2_of rfl rfl rfl)) (maC_of (s1:=s) (mP_of (l2_of rfl rfl rfl)) maN_of)))) r1)) ?_
    refine mSeq_of (mSet_of (mMeth_of (n:=0) rfl H1.ob rfl (maC_of (s1:=s1) (mP_of rfl) (maC_of (s1:=s1) (mP_of rfl) (maC_of (s1:=s1) (mP_of (l2_of rfl rfl rfl)) (maC_of (s1:=s1) (mP_of (l2_of rfl rfl rfl)) maN_of)))) r2)) ?_
    refine mSeq_of (w1:=⟨G ns c (mo+v) last (some (.d (.int (0+(k:Nat))))) (some (.d (pt x1 y1))) (some (.d (pt x2 y2))) (some (.d (Rw c rows))) (some (.d (Rw c (dueL last (mo+v) nm)))) x10 x11 x12 x13 x14 x15,s2⟩) (mSet_of (mC_of (comp_eq (ds:=rows.map (rD c)) (lI_of rfl rfl) (by rw [List.length_map]; omega) ?_))) ?_
    · rw [← u1]
      exact cGo_map (t:=tgN 0) (f:=eV 0) (η:=[.un]) (rD c) isCl (rD c) rows fun e _=>⟨[.val (rD c e)],rfl,bT_of (l2_of (x:=.str e.1) (l2_of rfl rfl rfl) (lA_of (aC_of rfl (aC_of rfl rfl)) (tup1_ok (by simp))) in_cl),fun _=>rfl⟩
    refine mSeq_of (mSet_of (mP_of (lA_of (aC_of rfl (aC_of (l2_of rfl rfl rfl) (aC_of (l2_of rfl rfl rfl) rfl))) e1))) ?_
    refine mSeq_of (mSet_of (mP_of (lA_of (aC_of rfl (aC_of (l2_of rfl rfl rfl) (aC_of (l2_of rfl rfl rfl) rfl))) e2))) ?_
    refine mSeq_of (mSet_of (mP_of rfl)) ?_
    refine mSeq_of en ?_
    refine mSeq_of (mIfN (s:=s2) (tPv_of (bT_of (hch (lA_of (aC_of rfl (aC_of (l2_of rfl rfl rfl) (aC_of (l2_of rfl rfl rfl) rfl))) g1) (lA_of (aC_of rfl (aC_of (l2_of rfl rfl rfl) (aC_of (l2_of rfl rfl rfl) rfl))) g2) rfl)))) ?_
    exact hg
  have lst_at:∀ (S:Sto) (X:Cell),(S++[X])[S.length]?=some X:=fun S X=>by rw [List.getElem?_append_right (Nat.le_refl _),Nat.sub_self]; rfl
  have lD_at:∀ (S:Sto) (l:List (Str×Nat)),lD (S++[.lst ((l.map (rD c)).map .d)]) (.r S.length)=some (Rw c l):=fun S l=>by
    unfold lD
    dsimp only
    rw [lst_at]
    dsimp only
    rw [List.map_map]
    have:=dAll_r (c:=c) l
    show (dAll (l.map fun r=>D.d (rD c r))).bind _=_
    rw [this]; rfl
  cases nm with
  | none =>
    refine ⟨mo+v,last,_,_,_,_,_,_,_,_,_,_,s2++[.lst []],kvs2,_,pre _ _ (mSeq_of (mSet_of (mN_of (xs:=[]) (bind_of rfl (gL_ok (by simp))))) (mSeq_of (mIfN (s:=s2++[.lst []]) (tPv_of (bT_of (l2_of (x:=.none) rfl rfl rfl)))) (mIfN (s:=s2++[.lst []]) (mB_of (mOpL_of (mP_of rfl) rfl rfl (lD_at s2 []) (pNe_R t.ok (due_w last (mo+v) none)) rfl))))),H2.app _,by omega,by rw [hK0]; exact u2,by rw [hK0]; exact u3,by rw [hK0]; exact u4⟩
  | some x =>
    have tc:∀ (b:Bool) (hb:lDb last x (mo+v)=b) (S:Sto) (y15:Option D),tPv (bAnd (bT (L2.PU.l2 (pIsN true) (eV 4) (eC .none))) (bAnd (bT (L2.PU.l2 pEq (L2.PU.l2 pIx (eV 4) (eC (.int 0))) (eV 12))) (bT (L2.PU.l2 pLe (L2.PU.l2 pSub (eV 3) (L2.PU.l2 pIx (eV 4) (eC (.int 1)))) (eC (.int 20)))))) ⟨G ns c (mo+v) last (some (.d (.int (0+(k:Nat))))) (some (.d (pt x1 y1))) (some (.d (pt x2 y2))) (some (.d (Rw c rows))) (some (.d (Rw c (dueL last (mo+v) (some x))))) (some (.d (c.S p1))) (some (.d (c.S p2))) (some (.d (kD c (some x)))) y13 y14 y15,S⟩=some (b,S):=fun b hb S y15=>by
      rw [← hb]
      cases last with
      | none=>exact tPv_of (bAndF (bT_of (l2_of (x:=.none) rfl rfl rfl)))
      | some e =>
        obtain ⟨z,m⟩:=e
        exact tPv_of (bAndT (bT_of (l2_of rfl rfl rfl)) (bAnd_of (bT_of (l2_of (l2_of rfl rfl rfl) rfl (t.ok.eqs z x))) (bT_of (l2_of (l2_of (x:=.int (mo+v)) rfl (l2_of rfl rfl rfl) rfl) rfl rfl))))
    have tn:∀ (S:Sto) (y15:Option D),tPv (bT (L2.PU.l2 (pIsN true) (eV 12) (eC .none))) ⟨G ns c (mo+v) last (some (.d (.int (0+(k:Nat))))) (some (.d (pt x1 y1))) (some (.d (pt x2 y2))) (some (.d (Rw c rows))) (some (.d (Rw c (dueL last (mo+v) (some x))))) (some (.d (c.S p1))) (some (.d (c.S p2))) (some (.d (kD c (some x)))) y13 y14 y15,S⟩=some (true,S):=fun S y15=>tPv_of (bT_of (l2_of (x:=c.s x) rfl rfl rfl))
    have cl:∀ (w:Str) (η:En),eV 12 η=some (c.s x)→lA (fun ds=>if ds.length≤sizeLine then some (.tuple ds) else none) (aC (eC (.str w)) (aC (eV 12) aN)) η=some (rD c (w,x)):=fun w η h=>lA_of (aC_of rfl (aC_of h rfl)) (tup1_ok (by simp))
    cases hb:lDb last x (mo+v) with
    | true =>
      have edue:dueL last (mo+v) (some x)=[(("click" : Str),x),(("double" : Str),x)]:=by unfold dueL; dsimp only; rw [if_pos hb]
      have enx:nxL last (mo+v) (some x)=none:=by unfold nxL; dsimp only; rw [if_pos hb]
      have eset:((s2++[Cell.lst []])++[Cell.lst [D.d (rD c (("click" : Str),x))]]).set (s2++[Cell.lst []]).length (Cell.lst ([D.d (rD c (("click" : Str),x))]++[D.d (rD c (("double" : Str),x))]))=(s2++[Cell.lst []])++[Cell.lst (((dueL last (mo+v) (some x)).map (rD c)).map D.d)]:=by
        rw [List.set_append_right _ _ (Nat.le_refl _),Nat.sub_self,edue]; rfl
      refine ⟨mo+v,none,_,_,_,_,_,_,_,_,_,_,(s2++[Cell.lst []])++[Cell.lst (((dueL last (mo+v) (some x)).map (rD c)).map D.d)],kvs2,upK (upK K 0 (dnH (K 0) p1)) 0 hd',pre _ _ (mSeq_of (mSet_of (mN_of (xs:=[]) (bind_of rfl (gL_ok (by simp))))) (mSeq_of (mIfT (tn _ _) (mSeq_of (mSet_of (mN_of (xs:=[rD c (("click" : Str),x)]) (bind_of (aC_of (cl "click" _ rfl) rfl) (gL_ok (by simp))))) (mIfT (tc _ hb _ _) (mSeq_of (mExp_of ((mAppC_of (n:=(s2++[Cell.lst []]).length) (d:=.d (rD c (("double" : Str),x))) (ds:=[.d (rD c (("click" : Str),x))]) rfl (lst_at _ _) (mP_of (cl "double" _ rfl)) (lst_at _ _) (by simp)).trans (by rw [eset]))) (mSet_of (mP_of rfl)))))) (mIfN (mB_of (mOpL_of (mP_of rfl) rfl rfl (lD_at (s2++[.lst []]) (dueL last (mo+v) (some x))) (pNe_R t.ok (due_w last (mo+v) (some x))) rfl))))),?_,by omega,by rw [hK0,← enx]; exact u2,by rw [hK0]; exact u3,by rw [hK0]; exact u4⟩
      exact (H2.app _).app _
    | false =>
      have edue:dueL last (mo+v) (some x)=[(("click" : Str),x)]:=by unfold dueL; dsimp only; rw [hb]; rfl
      have enx:nxL last (mo+v) (some x)=some (x,mo+v):=by unfold nxL; dsimp only; rw [hb]; rfl
      refine ⟨mo+v,some (x,mo+v),_,_,_,_,_,_,_,_,_,_,(s2++[Cell.lst []])++[Cell.lst (([(("click" : Str),x)].map (rD c)).map D.d)],kvs2,upK (upK K 0 (dnH (K 0) p1)) 0 hd',pre _ _ (mSeq_of (mSet_of (mN_of (xs:=[]) (bind_of rfl (gL_ok (by simp))))) (mSeq_of (mIfT (tn _ _) (mSeq_of (mSet_of (mN_of (xs:=[rD c (("click" : Str),x)]) (bind_of (aC_of (cl "click" _ rfl) rfl) (gL_ok (by simp))))) (mIfF (tc _ hb _ _) (mSet_of (mP_of (lA_of (aC_of rfl (aC_of rfl rfl)) (tup1_ok (by simp)))))))) (mIfN (mB_of (mOpL_of (x:=Rw c [(("click" : Str),x)]) (mP_of (by rw [← edue]; rfl)) rfl rfl (lD_at (s2++[.lst []]) [(("click" : Str),x)]) (pNe_R t.ok (by rw [← edue]; exact due_w last (mo+v) (some x))) rfl))))),?_,by omega,by rw [hK0,← enx]; exact u2,by rw [hK0]; exact u3,by rw [hK0]; exact u4⟩
      exact (H2.app _).app _
end
theorem main:∀ ns:List Int,ns.length≤63→∃ s',F_law [.d (.list (ns.map PyData.int))] []=some (.d (.bool true),s'):=fun ns hn=>by
  obtain ⟨d,tn,hd,hnm,hlen,es⟩:=scene_ok hn
  have ok:PsOk d.ps:=⟨by omega,hd.par⟩
  have okc:d.sc.Ok:=⟨hd.inj,hd.top,hd.ok,fun a=>hd.okm _,by
    show (stF d.ps).length≤12
    unfold stF
    rw [List.length_map,List.length_range]; omega⟩
  have t:Tr d.sc d.ps (In d.ps) (pntF d.ps):=⟨okc,fun q h=>h,fun q h=>parN_st h.1 h.2,fun q h=>path_eq ok h.1 h.2,fun q h x hx=>P_in' ok q h hx,pnt_eq ok,fun q h=>kids_mem ok h,kids_2 ok,ok⟩
  rw [← Dr.sc_d d] at es
  generalize d.sc=c at *
  generalize d.ps=ps at *
  have H0:HOk c [.obj 1 (nf c 1),.dct []] 0 1 [] (fun _=>hd0):=⟨rfl,rfl,fun _ _=>rfl,fun j d h=>(by cases h),fun j j' m h=>(by cases h),fun _=>⟨by simp [hd0],fun q e=>(by cases e)⟩⟩
  obtain ⟨T,hT⟩:∃ T:Int,T=max 1 (min 8 (ns.length:Int)):=⟨_,rfl⟩
  have hT1:T≤8:=by rw [hT]; exact Int.max_le.mpr ⟨by decide,Int.min_le_left _ _⟩
  have hT2:1≤T:=by rw [hT]; exact Int.le_max_left _ _
  obtain ⟨w',eL,mo',last',y5,y6,y7,y8,y9,y10,y11,y12,y13,y14,y15,s8,kv8,K8,rfl,H8,hb8,_,_,_⟩:=mGo_all (ks:=[5]) (t:=tgN 5) (body:=tB) (fun (k:Nat)=>PyData.int (0+(k:Nat)))
    (fun done w=>∃ (mo:Int) (last:Option (Nat×Int)) (x5 x6 x7 x8 x9 x10 x11 x12 x13 x14 x15:Option D) (s:Sto) (kvs:List (Key×D)) (K:Int→Hd),w=⟨G ns c mo last x5 x6 x7 x8 x9 x10 x11 x12 x13 x14 x15,s⟩∧HOk c s 0 1 kvs K∧kvs.length≤2*done.length∧okL last (K 0)∧(K 0).pr=none∧(K 0).held=none) (List.range T.toNat)
    (fun done k rest w hall ⟨mo,last,x5,x6,x7,x8,x9,x10,x11,x12,x13,x14,x15,s,kvs,K,hw,H,hb,hL,hp,hh⟩=>by
      subst hw
      have hl:done.length+1≤8:=by
        have:=congrArg List.length hall
        rw [List.length_range,List.length_append,List.length_cons] at this
        omega
      obtain ⟨mo2,last2,z6,z7,z8,z9,z10,z11,z12,z13,z14,z15,s2,kvs2,K2,e,H2,l2,hL2,hp2,hh2⟩:=turn_ok t hn H (by omega) hL hp hh k x6 x7 x8 x9 x10 x11 x12 x13 x14 x15 (mo:=mo)
      exact ⟨_,_,mTg_name (by simp),e,mo2,last2,_,z6,z7,z8,z9,z10,z11,z12,z13,z14,z15,s2,kvs2,K2,rfl,H2,by rw [List.length_append,List.length_singleton]; omega,hL2,hp2,hh2⟩)
    (w:=⟨G ns c 0 none none none none none none none none none none none none,[.obj 1 (nf c 1),.dct []]⟩) ⟨0,none,none,none,none,none,none,none,none,none,none,none,none,_,[],fun _=>hd0,rfl,H0,by simp,.inl rfl,rfl,rfl⟩
  refine ⟨s8,mRun_of rfl (show g_law F__law_scene F_Hands____init__ F__law_drawn F_Hands__down F_Hands__up F_hit_path F_hit ⟨[some (.d (Sd ns)),none,none,none,none,none,none,none,none,none,none,none,none,none,none,none],[]⟩=_ from ?_)⟩
  refine mSeq_of (mSet_of (mP_of (lA_of (aC_of rfl (aC_of rfl rfl)) es))) ?_
  refine mSeq_of (mSet_of (mMake_of (maC_of (s1:=[]) (mP_of rfl) maN_of) (F_ninit c []))) ?_
  refine mSeq_of (mSet_of (mP_of rfl)) (mSeq_of (mSet_of (mP_of rfl)) ?_)
  refine mSeq_of (mFor_of (xs:=(List.range T.toNat).map fun (k:Nat)=>PyData.int (0+(k:Nat))) ?_ eL) (mRet_of (mP_of rfl))
  show Option.bind _ _=_
  refine bind_of (x:=(List.range T.toNat).map fun (k:Nat)=>PyData.int (0+(k:Nat))) (bind_of (aC_of (lA_of (aC_of rfl (aC_of (lA_of (aC_of rfl (aC_of (lA_of (aC_of rfl rfl) (show pLen [Sd ns]=some (.int (ns.length:Int)) by show some (PyData.int ((ns.map PyData.int).length:Int))=_; rw [List.length_map])) rfl)) (pMin_of _ _)) rfl)) (pMax_of _ _)) rfl) ?_) rfl
  rw [← hT,rng1_ok (by omega) (by omega)]
  rfl
end K23
namespace K23
open PySem L2 L2.PU
set_option maxHeartbeats 4000000 in
theorem all_mk (main:∀ ns:List Int,ns.length≤63→∃ s',F_law [.d (.list (ns.map PyData.int))] []=some (.d (.bool true),s')) {l:PySem.W.OpenLaw} {w:World} {K:PySem.W.Frag} {h:Heap} {mg:Str→Option Value} {fa:Addr} (X:K.In h) (G:h.Ns mainGlobals mg) (hfa:mg "law" = some (.ref fa))
    {C_Hand:Addr}
    {C_Hands:Addr}
    {f__law_cell:Addr} {od__law_cell an__law_cell:Option Addr} {sl__law_cell:Array (Option Value)} {oc__law_cell kV__law_cell dc__law_cell pm__law_cell cd__law_cell ct__law_cell:Value}
    {f__law_drawn:Addr} {od__law_drawn an__law_drawn:Option Addr} {sl__law_drawn:Array (Option Value)} {oc__law_drawn kV__law_drawn dc__law_drawn pm__law_drawn cd__law_drawn ct__law_drawn:Value}
    {f__law_scene:Addr} {od__law_scene an__law_scene:Option Addr} {sl__law_scene:Array (Option Value)} {oc__law_scene kV__law_scene dc__law_scene pm__law_scene cd__law_scene ct__law_scene:Value}
    {f_Hands____init__:Addr} {od_Hands____init__ an_Hands____init__:Option Addr} {sl_Hands____init__:Array (Option Value)} {oc_Hands____init__ kV_Hands____init__ dc_Hands____init__ pm_Hands____init__ cd_Hands____init__ ct_Hands____init__:Value}
    {f_Hand____init__:Addr} {od_Hand____init__ an_Hand____init__:Option Addr} {sl_Hand____init__:Array (Option Value)} {oc_Hand____init__ kV_Hand____init__ dc_Hand____init__ pm_Hand____init__ cd_Hand____init__ ct_Hand____init__:Value}
    {f_Hands__hand_of:Addr} {od_Hands__hand_of an_Hands__hand_of:Option Addr} {sl_Hands__hand_of:Array (Option Value)} {oc_Hands__hand_of kV_Hands__hand_of dc_Hands__hand_of pm_Hands__hand_of cd_Hands__hand_of ct_Hands__hand_of:Value}
    {f_children:Addr} {od_children an_children:Option Addr} {sl_children:Array (Option Value)} {oc_children kV_children dc_children pm_children cd_children ct_children:Value}
    {f_box_of:Addr} {od_box_of an_box_of:Option Addr} {sl_box_of:Array (Option Value)} {oc_box_of kV_box_of dc_box_of pm_box_of cd_box_of ct_box_of:Value}
    {f_below:Addr} {od_below an_below:Option Addr} {sl_below:Array (Option Value)} {oc_below kV_below dc_below pm_below cd_below ct_below:Value}
    {f_painted:Addr} {od_painted an_painted:Option Addr} {sl_painted:Array (Option Value)} {oc_painted kV_painted dc_painted pm_painted cd_painted ct_painted:Value}
    {f_path_of:Addr} {od_path_of an_path_of:Option Addr} {sl_path_of:Array (Option Value)} {oc_path_of kV_path_of dc_path_of pm_path_of cd_path_of ct_path_of:Value}
    {f_has_mark:Addr} {od_has_mark an_has_mark:Option Addr} {sl_has_mark:Array (Option Value)} {oc_has_mark kV_has_mark dc_has_mark pm_has_mark cd_has_mark ct_has_mark:Value}
    {f_is_shown:Addr} {od_is_shown an_is_shown:Option Addr} {sl_is_shown:Array (Option Value)} {oc_is_shown kV_is_shown dc_is_shown pm_is_shown cd_is_shown ct_is_shown:Value}
    {f_area_of:Addr} {od_area_of an_area_of:Option Addr} {sl_area_of:Array (Option Value)} {oc_area_of kV_area_of dc_area_of pm_area_of cd_area_of ct_area_of:Value}
    {f_overlap:Addr} {od_overlap an_overlap:Option Addr} {sl_overlap:Array (Option Value)} {oc_overlap kV_overlap dc_overlap pm_overlap cd_overlap ct_overlap:Value}
    {f_window_of:Addr} {od_window_of an_window_of:Option Addr} {sl_window_of:Array (Option Value)} {oc_window_of kV_window_of dc_window_of pm_window_of cd_window_of ct_window_of:Value}
    {f_takers:Addr} {od_takers an_takers:Option Addr} {sl_takers:Array (Option Value)} {oc_takers kV_takers dc_takers pm_takers cd_takers ct_takers:Value}
    {f_has_point:Addr} {od_has_point an_has_point:Option Addr} {sl_has_point:Array (Option Value)} {oc_has_point kV_has_point dc_has_point pm_has_point cd_has_point ct_has_point:Value}
    {f_first_at:Addr} {od_first_at an_first_at:Option Addr} {sl_first_at:Array (Option Value)} {oc_first_at kV_first_at dc_first_at pm_first_at cd_first_at ct_first_at:Value}
    {f_hit:Addr} {od_hit an_hit:Option Addr} {sl_hit:Array (Option Value)} {oc_hit kV_hit dc_hit pm_hit cd_hit ct_hit:Value}
    {f_hit_path:Addr} {od_hit_path an_hit_path:Option Addr} {sl_hit_path:Array (Option Value)} {oc_hit_path kV_hit_path dc_hit_path pm_hit_path cd_hit_path ct_hit_path:Value}
    {f_shared:Addr} {od_shared an_shared:Option Addr} {sl_shared:Array (Option Value)} {oc_shared kV_shared dc_shared pm_shared cd_shared ct_shared:Value}
    {f_Hand__lead:Addr} {od_Hand__lead an_Hand__lead:Option Addr} {sl_Hand__lead:Array (Option Value)} {oc_Hand__lead kV_Hand__lead dc_Hand__lead pm_Hand__lead cd_Hand__lead ct_Hand__lead:Value}
    {f_Hand__tell_holder:Addr} {od_Hand__tell_holder an_Hand__tell_holder:Option Addr} {sl_Hand__tell_holder:Array (Option Value)} {oc_Hand__tell_holder kV_Hand__tell_holder dc_Hand__tell_holder pm_Hand__tell_holder cd_Hand__tell_holder ct_Hand__tell_holder:Value}
    {f_Hands__down:Addr} {od_Hands__down an_Hands__down:Option Addr} {sl_Hands__down:Array (Option Value)} {oc_Hands__down kV_Hands__down dc_Hands__down pm_Hands__down cd_Hands__down ct_Hands__down:Value}
    {f_Hand__let_go:Addr} {od_Hand__let_go an_Hand__let_go:Option Addr} {sl_Hand__let_go:Array (Option Value)} {oc_Hand__let_go kV_Hand__let_go dc_Hand__let_go pm_Hand__let_go cd_Hand__let_go ct_Hand__let_go:Value}
    {f_Hand__click:Addr} {od_Hand__click an_Hand__click:Option Addr} {sl_Hand__click:Array (Option Value)} {oc_Hand__click kV_Hand__click dc_Hand__click pm_Hand__click cd_Hand__click ct_Hand__click:Value}
    {f_Hands__up:Addr} {od_Hands__up an_Hands__up:Option Addr} {sl_Hands__up:Array (Option Value)} {oc_Hands__up kV_Hands__up dc_Hands__up pm_Hands__up cd_Hands__up ct_Hands__up:Value}
    {f_law:Addr} {od_law an_law:Option Addr} {sl_law:Array (Option Value)} {oc_law kV_law dc_law pm_law cd_law ct_law:Value}
    {t_AROUND:Tok}
    {t_CUTS_OFF:Tok}
    {t_HEIGHT:Tok}
    {t_HIDDEN:Tok}
    {t_LEFT:Tok}
    {t_LETS_BY:Tok}
    {t_LONGEST_DOUBLE:Tok}
    {t_MARKS:Tok}
    {t_NAME:Tok}
    {t_TOP:Tok}
    {t_WIDTH:Tok}
    (aC_Hand:PySem.W.nsIn K mainGlobals "Hand" = some (some (.ref C_Hand)))
    (pg_Hand:PySem.W.plainGet K C_Hand Str.empty=true)
    (hd_Hand:PySem.W.hasDictIn K C_Hand=true)
    (po_Hand:PySem.W.plainOver K C_Hand=true)
    (sa_Hand:PySem.W.findIn K (.ref C_Hand) "__setattr__" = some (some (.builtin "object.__setattr__")))
    (mk_Hand:PySem.W.makesIn K C_Hand=true)
    (kc_Hand:PySem.W.keepIn K (.ref C_Hand)=true)
    (aC_Hands:PySem.W.nsIn K mainGlobals "Hands" = some (some (.ref C_Hands)))
    (pg_Hands:PySem.W.plainGet K C_Hands Str.empty=true)
    (hd_Hands:PySem.W.hasDictIn K C_Hands=true)
    (po_Hands:PySem.W.plainOver K C_Hands=true)
    (sa_Hands:PySem.W.findIn K (.ref C_Hands) "__setattr__" = some (some (.builtin "object.__setattr__")))
    (mk_Hands:PySem.W.makesIn K C_Hands=true)
    (kc_Hands:PySem.W.keepIn K (.ref C_Hands)=true)
    (na_Hand_clicked:PySem.W.findIn K (.ref C_Hand) "clicked" = some none)
    (na_Hand_clicked_moment:PySem.W.findIn K (.ref C_Hand) "clicked_moment" = some none)
    (na_Hand_held_by:PySem.W.findIn K (.ref C_Hand) "held_by" = some none)
    (na_Hand_pressed_at:PySem.W.findIn K (.ref C_Hand) "pressed_at" = some none)
    (na_Hand_trail:PySem.W.findIn K (.ref C_Hand) "trail" = some none)
    (na_Hand_was_double:PySem.W.findIn K (.ref C_Hand) "was_double" = some none)
    (na_Hands_known:PySem.W.findIn K (.ref C_Hands) "known" = some none)
    (na_Hands_scene:PySem.W.findIn K (.ref C_Hands) "scene" = some none)
    (a__law_cell:PySem.W.nsIn K mainGlobals "_law_cell" = some (some (.ref f__law_cell)))
    (l__law_cell:K.lookup f__law_cell=some ⟨oc__law_cell,od__law_cell,.func (PySem.W.fnOf "_law_cell" "_law_cell" (defArgs s__law_cell) (defBody s__law_cell) (defScope s__law_cell) .none kV__law_cell dc__law_cell pm__law_cell an__law_cell cd__law_cell ct__law_cell),sl__law_cell⟩) (c__law_cell:PySem.W.codeIn K cd__law_cell "_law_cell" = true) (k__law_cell:PySem.W.keepIn K (.ref f__law_cell)=true)
    (a__law_drawn:PySem.W.nsIn K mainGlobals "_law_drawn" = some (some (.ref f__law_drawn)))
    (l__law_drawn:K.lookup f__law_drawn=some ⟨oc__law_drawn,od__law_drawn,.func (PySem.W.fnOf "_law_drawn" "_law_drawn" (defArgs s__law_drawn) (defBody s__law_drawn) (defScope s__law_drawn) .none kV__law_drawn dc__law_drawn pm__law_drawn an__law_drawn cd__law_drawn ct__law_drawn),sl__law_drawn⟩) (c__law_drawn:PySem.W.codeIn K cd__law_drawn "_law_drawn" = true) (k__law_drawn:PySem.W.keepIn K (.ref f__law_drawn)=true)
    (a__law_scene:PySem.W.nsIn K mainGlobals "_law_scene" = some (some (.ref f__law_scene)))
    (l__law_scene:K.lookup f__law_scene=some ⟨oc__law_scene,od__law_scene,.func (PySem.W.fnOf "_law_scene" "_law_scene" (defArgs s__law_scene) (defBody s__law_scene) (defScope s__law_scene) .none kV__law_scene dc__law_scene pm__law_scene an__law_scene cd__law_scene ct__law_scene),sl__law_scene⟩) (c__law_scene:PySem.W.codeIn K cd__law_scene "_law_scene" = true) (k__law_scene:PySem.W.keepIn K (.ref f__law_scene)=true)
    (a_Hands____init__:PySem.W.findIn K (.ref C_Hands) "__init__" = some (some (.ref f_Hands____init__))) (i_Hands____init__:PySem.W.isFn K (.ref f_Hands____init__)=true)
    (l_Hands____init__:K.lookup f_Hands____init__=some ⟨oc_Hands____init__,od_Hands____init__,.func (PySem.W.fnOf "__init__" "Hands.__init__" (defArgs s_Hands____init__) (defBody s_Hands____init__) (defScope s_Hands____init__) .none kV_Hands____init__ dc_Hands____init__ pm_Hands____init__ an_Hands____init__ cd_Hands____init__ ct_Hands____init__),sl_Hands____init__⟩) (c_Hands____init__:PySem.W.codeIn K cd_Hands____init__ "Hands.__init__" = true) (k_Hands____init__:PySem.W.keepIn K (.ref f_Hands____init__)=true)
    (a_Hand____init__:PySem.W.findIn K (.ref C_Hand) "__init__" = some (some (.ref f_Hand____init__))) (i_Hand____init__:PySem.W.isFn K (.ref f_Hand____init__)=true)
    (l_Hand____init__:K.lookup f_Hand____init__=some ⟨oc_Hand____init__,od_Hand____init__,.func (PySem.W.fnOf "__init__" "Hand.__init__" (defArgs s_Hand____init__) (defBody s_Hand____init__) (defScope s_Hand____init__) .none kV_Hand____init__ dc_Hand____init__ pm_Hand____init__ an_Hand____init__ cd_Hand____init__ ct_Hand____init__),sl_Hand____init__⟩) (c_Hand____init__:PySem.W.codeIn K cd_Hand____init__ "Hand.__init__" = true) (k_Hand____init__:PySem.W.keepIn K (.ref f_Hand____init__)=true)
    (a_Hands__hand_of:PySem.W.findIn K (.ref C_Hands) "hand_of" = some (some (.ref f_Hands__hand_of))) (i_Hands__hand_of:PySem.W.isFn K (.ref f_Hands__hand_of)=true)
    (l_Hands__hand_of:K.lookup f_Hands__hand_of=some ⟨oc_Hands__hand_of,od_Hands__hand_of,.func (PySem.W.fnOf "hand_of" "Hands.hand_of" (defArgs s_Hands__hand_of) (defBody s_Hands__hand_of) (defScope s_Hands__hand_of) .none kV_Hands__hand_of dc_Hands__hand_of pm_Hands__hand_of an_Hands__hand_of cd_Hands__hand_of ct_Hands__hand_of),sl_Hands__hand_of⟩) (c_Hands__hand_of:PySem.W.codeIn K cd_Hands__hand_of "Hands.hand_of" = true) (k_Hands__hand_of:PySem.W.keepIn K (.ref f_Hands__hand_of)=true)
    (a_children:PySem.W.nsIn K mainGlobals "children" = some (some (.ref f_children)))
    (l_children:K.lookup f_children=some ⟨oc_children,od_children,.func (PySem.W.fnOf "children" "children" (defArgs s_children) (defBody s_children) (defScope s_children) .none kV_children dc_children pm_children an_children cd_children ct_children),sl_children⟩) (c_children:PySem.W.codeIn K cd_children "children" = true) (k_children:PySem.W.keepIn K (.ref f_children)=true)
    (a_box_of:PySem.W.nsIn K mainGlobals "box_of" = some (some (.ref f_box_of)))
    (l_box_of:K.lookup f_box_of=some ⟨oc_box_of,od_box_of,.func (PySem.W.fnOf "box_of" "box_of" (defArgs s_box_of) (defBody s_box_of) (defScope s_box_of) .none kV_box_of dc_box_of pm_box_of an_box_of cd_box_of ct_box_of),sl_box_of⟩) (c_box_of:PySem.W.codeIn K cd_box_of "box_of" = true) (k_box_of:PySem.W.keepIn K (.ref f_box_of)=true)
    (a_below:PySem.W.nsIn K mainGlobals "below" = some (some (.ref f_below)))
    (l_below:K.lookup f_below=some ⟨oc_below,od_below,.func (PySem.W.fnOf "below" "below" (defArgs s_below) (defBody s_below) (defScope s_below) .none kV_below dc_below pm_below an_below cd_below ct_below),sl_below⟩) (c_below:PySem.W.codeIn K cd_below "below" = true) (k_below:PySem.W.keepIn K (.ref f_below)=true)
    (a_painted:PySem.W.nsIn K mainGlobals "painted" = some (some (.ref f_painted)))
    (l_painted:K.lookup f_painted=some ⟨oc_painted,od_painted,.func (PySem.W.fnOf "painted" "painted" (defArgs s_painted) (defBody s_painted) (defScope s_painted) .none kV_painted dc_painted pm_painted an_painted cd_painted ct_painted),sl_painted⟩) (c_painted:PySem.W.codeIn K cd_painted "painted" = true) (k_painted:PySem.W.keepIn K (.ref f_painted)=true)
    (a_path_of:PySem.W.nsIn K mainGlobals "path_of" = some (some (.ref f_path_of)))
    (l_path_of:K.lookup f_path_of=some ⟨oc_path_of,od_path_of,.func (PySem.W.fnOf "path_of" "path_of" (defArgs s_path_of) (defBody s_path_of) (defScope s_path_of) .none kV_path_of dc_path_of pm_path_of an_path_of cd_path_of ct_path_of),sl_path_of⟩) (c_path_of:PySem.W.codeIn K cd_path_of "path_of" = true) (k_path_of:PySem.W.keepIn K (.ref f_path_of)=true)
    (a_has_mark:PySem.W.nsIn K mainGlobals "has_mark" = some (some (.ref f_has_mark)))
    (l_has_mark:K.lookup f_has_mark=some ⟨oc_has_mark,od_has_mark,.func (PySem.W.fnOf "has_mark" "has_mark" (defArgs s_has_mark) (defBody s_has_mark) (defScope s_has_mark) .none kV_has_mark dc_has_mark pm_has_mark an_has_mark cd_has_mark ct_has_mark),sl_has_mark⟩) (c_has_mark:PySem.W.codeIn K cd_has_mark "has_mark" = true) (k_has_mark:PySem.W.keepIn K (.ref f_has_mark)=true)
    (a_is_shown:PySem.W.nsIn K mainGlobals "is_shown" = some (some (.ref f_is_shown)))
    (l_is_shown:K.lookup f_is_shown=some ⟨oc_is_shown,od_is_shown,.func (PySem.W.fnOf "is_shown" "is_shown" (defArgs s_is_shown) (defBody s_is_shown) (defScope s_is_shown) .none kV_is_shown dc_is_shown pm_is_shown an_is_shown cd_is_shown ct_is_shown),sl_is_shown⟩) (c_is_shown:PySem.W.codeIn K cd_is_shown "is_shown" = true) (k_is_shown:PySem.W.keepIn K (.ref f_is_shown)=true)
    (a_area_of:PySem.W.nsIn K mainGlobals "area_of" = some (some (.ref f_area_of)))
    (l_area_of:K.lookup f_area_of=some ⟨oc_area_of,od_area_of,.func (PySem.W.fnOf "area_of" "area_of" (defArgs s_area_of) (defBody s_area_of) (defScope s_area_of) .none kV_area_of dc_area_of pm_area_of an_area_of cd_area_of ct_area_of),sl_area_of⟩) (c_area_of:PySem.W.codeIn K cd_area_of "area_of" = true) (k_area_of:PySem.W.keepIn K (.ref f_area_of)=true)
    (a_overlap:PySem.W.nsIn K mainGlobals "overlap" = some (some (.ref f_overlap)))
    (l_overlap:K.lookup f_overlap=some ⟨oc_overlap,od_overlap,.func (PySem.W.fnOf "overlap" "overlap" (defArgs s_overlap) (defBody s_overlap) (defScope s_overlap) .none kV_overlap dc_overlap pm_overlap an_overlap cd_overlap ct_overlap),sl_overlap⟩) (c_overlap:PySem.W.codeIn K cd_overlap "overlap" = true) (k_overlap:PySem.W.keepIn K (.ref f_overlap)=true)
    (a_window_of:PySem.W.nsIn K mainGlobals "window_of" = some (some (.ref f_window_of)))
    (l_window_of:K.lookup f_window_of=some ⟨oc_window_of,od_window_of,.func (PySem.W.fnOf "window_of" "window_of" (defArgs s_window_of) (defBody s_window_of) (defScope s_window_of) .none kV_window_of dc_window_of pm_window_of an_window_of cd_window_of ct_window_of),sl_window_of⟩) (c_window_of:PySem.W.codeIn K cd_window_of "window_of" = true) (k_window_of:PySem.W.keepIn K (.ref f_window_of)=true)
    (a_takers:PySem.W.nsIn K mainGlobals "takers" = some (some (.ref f_takers)))
    (l_takers:K.lookup f_takers=some ⟨oc_takers,od_takers,.func (PySem.W.fnOf "takers" "takers" (defArgs s_takers) (defBody s_takers) (defScope s_takers) .none kV_takers dc_takers pm_takers an_takers cd_takers ct_takers),sl_takers⟩) (c_takers:PySem.W.codeIn K cd_takers "takers" = true) (k_takers:PySem.W.keepIn K (.ref f_takers)=true)
    (a_has_point:PySem.W.nsIn K mainGlobals "has_point" = some (some (.ref f_has_point)))
    (l_has_point:K.lookup f_has_point=some ⟨oc_has_point,od_has_point,.func (PySem.W.fnOf "has_point" "has_point" (defArgs s_has_point) (defBody s_has_point) (defScope s_has_point) .none kV_has_point dc_has_point pm_has_point an_has_point cd_has_point ct_has_point),sl_has_point⟩) (c_has_point:PySem.W.codeIn K cd_has_point "has_point" = true) (k_has_point:PySem.W.keepIn K (.ref f_has_point)=true)
    (a_first_at:PySem.W.nsIn K mainGlobals "first_at" = some (some (.ref f_first_at)))
    (l_first_at:K.lookup f_first_at=some ⟨oc_first_at,od_first_at,.func (PySem.W.fnOf "first_at" "first_at" (defArgs s_first_at) (defBody s_first_at) (defScope s_first_at) .none kV_first_at dc_first_at pm_first_at an_first_at cd_first_at ct_first_at),sl_first_at⟩) (c_first_at:PySem.W.codeIn K cd_first_at "first_at" = true) (k_first_at:PySem.W.keepIn K (.ref f_first_at)=true)
    (a_hit:PySem.W.nsIn K mainGlobals "hit" = some (some (.ref f_hit)))
    (l_hit:K.lookup f_hit=some ⟨oc_hit,od_hit,.func (PySem.W.fnOf "hit" "hit" (defArgs s_hit) (defBody s_hit) (defScope s_hit) .none kV_hit dc_hit pm_hit an_hit cd_hit ct_hit),sl_hit⟩) (c_hit:PySem.W.codeIn K cd_hit "hit" = true) (k_hit:PySem.W.keepIn K (.ref f_hit)=true)
    (a_hit_path:PySem.W.nsIn K mainGlobals "hit_path" = some (some (.ref f_hit_path)))
    (l_hit_path:K.lookup f_hit_path=some ⟨oc_hit_path,od_hit_path,.func (PySem.W.fnOf "hit_path" "hit_path" (defArgs s_hit_path) (defBody s_hit_path) (defScope s_hit_path) .none kV_hit_path dc_hit_path pm_hit_path an_hit_path cd_hit_path ct_hit_path),sl_hit_path⟩) (c_hit_path:PySem.W.codeIn K cd_hit_path "hit_path" = true) (k_hit_path:PySem.W.keepIn K (.ref f_hit_path)=true)
    (a_shared:PySem.W.nsIn K mainGlobals "shared" = some (some (.ref f_shared)))
    (l_shared:K.lookup f_shared=some ⟨oc_shared,od_shared,.func (PySem.W.fnOf "shared" "shared" (defArgs s_shared) (defBody s_shared) (defScope s_shared) .none kV_shared dc_shared pm_shared an_shared cd_shared ct_shared),sl_shared⟩) (c_shared:PySem.W.codeIn K cd_shared "shared" = true) (k_shared:PySem.W.keepIn K (.ref f_shared)=true)
    (a_Hand__lead:PySem.W.findIn K (.ref C_Hand) "lead" = some (some (.ref f_Hand__lead))) (i_Hand__lead:PySem.W.isFn K (.ref f_Hand__lead)=true)
    (l_Hand__lead:K.lookup f_Hand__lead=some ⟨oc_Hand__lead,od_Hand__lead,.func (PySem.W.fnOf "lead" "Hand.lead" (defArgs s_Hand__lead) (defBody s_Hand__lead) (defScope s_Hand__lead) .none kV_Hand__lead dc_Hand__lead pm_Hand__lead an_Hand__lead cd_Hand__lead ct_Hand__lead),sl_Hand__lead⟩) (c_Hand__lead:PySem.W.codeIn K cd_Hand__lead "Hand.lead" = true) (k_Hand__lead:PySem.W.keepIn K (.ref f_Hand__lead)=true)
    (a_Hand__tell_holder:PySem.W.findIn K (.ref C_Hand) "tell_holder" = some (some (.ref f_Hand__tell_holder))) (i_Hand__tell_holder:PySem.W.isFn K (.ref f_Hand__tell_holder)=true)
    (l_Hand__tell_holder:K.lookup f_Hand__tell_holder=some ⟨oc_Hand__tell_holder,od_Hand__tell_holder,.func (PySem.W.fnOf "tell_holder" "Hand.tell_holder" (defArgs s_Hand__tell_holder) (defBody s_Hand__tell_holder) (defScope s_Hand__tell_holder) .none kV_Hand__tell_holder dc_Hand__tell_holder pm_Hand__tell_holder an_Hand__tell_holder cd_Hand__tell_holder ct_Hand__tell_holder),sl_Hand__tell_holder⟩) (c_Hand__tell_holder:PySem.W.codeIn K cd_Hand__tell_holder "Hand.tell_holder" = true) (k_Hand__tell_holder:PySem.W.keepIn K (.ref f_Hand__tell_holder)=true)
    (a_Hands__down:PySem.W.findIn K (.ref C_Hands) "down" = some (some (.ref f_Hands__down))) (i_Hands__down:PySem.W.isFn K (.ref f_Hands__down)=true)
    (l_Hands__down:K.lookup f_Hands__down=some ⟨oc_Hands__down,od_Hands__down,.func (PySem.W.fnOf "down" "Hands.down" (defArgs s_Hands__down) (defBody s_Hands__down) (defScope s_Hands__down) .none kV_Hands__down dc_Hands__down pm_Hands__down an_Hands__down cd_Hands__down ct_Hands__down),sl_Hands__down⟩) (c_Hands__down:PySem.W.codeIn K cd_Hands__down "Hands.down" = true) (k_Hands__down:PySem.W.keepIn K (.ref f_Hands__down)=true)
    (a_Hand__let_go:PySem.W.findIn K (.ref C_Hand) "let_go" = some (some (.ref f_Hand__let_go))) (i_Hand__let_go:PySem.W.isFn K (.ref f_Hand__let_go)=true)
    (l_Hand__let_go:K.lookup f_Hand__let_go=some ⟨oc_Hand__let_go,od_Hand__let_go,.func (PySem.W.fnOf "let_go" "Hand.let_go" (defArgs s_Hand__let_go) (defBody s_Hand__let_go) (defScope s_Hand__let_go) .none kV_Hand__let_go dc_Hand__let_go pm_Hand__let_go an_Hand__let_go cd_Hand__let_go ct_Hand__let_go),sl_Hand__let_go⟩) (c_Hand__let_go:PySem.W.codeIn K cd_Hand__let_go "Hand.let_go" = true) (k_Hand__let_go:PySem.W.keepIn K (.ref f_Hand__let_go)=true)
    (a_Hand__click:PySem.W.findIn K (.ref C_Hand) "click" = some (some (.ref f_Hand__click))) (i_Hand__click:PySem.W.isFn K (.ref f_Hand__click)=true)
    (l_Hand__click:K.lookup f_Hand__click=some ⟨oc_Hand__click,od_Hand__click,.func (PySem.W.fnOf "click" "Hand.click" (defArgs s_Hand__click) (defBody s_Hand__click) (defScope s_Hand__click) .none kV_Hand__click dc_Hand__click pm_Hand__click an_Hand__click cd_Hand__click ct_Hand__click),sl_Hand__click⟩) (c_Hand__click:PySem.W.codeIn K cd_Hand__click "Hand.click" = true) (k_Hand__click:PySem.W.keepIn K (.ref f_Hand__click)=true)
    (a_Hands__up:PySem.W.findIn K (.ref C_Hands) "up" = some (some (.ref f_Hands__up))) (i_Hands__up:PySem.W.isFn K (.ref f_Hands__up)=true)
    (l_Hands__up:K.lookup f_Hands__up=some ⟨oc_Hands__up,od_Hands__up,.func (PySem.W.fnOf "up" "Hands.up" (defArgs s_Hands__up) (defBody s_Hands__up) (defScope s_Hands__up) .none kV_Hands__up dc_Hands__up pm_Hands__up an_Hands__up cd_Hands__up ct_Hands__up),sl_Hands__up⟩) (c_Hands__up:PySem.W.codeIn K cd_Hands__up "Hands.up" = true) (k_Hands__up:PySem.W.keepIn K (.ref f_Hands__up)=true)
    (a_law:PySem.W.nsIn K mainGlobals "law" = some (some (.ref f_law)))
    (l_law:K.lookup f_law=some ⟨oc_law,od_law,.func (PySem.W.fnOf "law" "law" (defArgs s_law) (defBody s_law) (defScope s_law) .none kV_law dc_law pm_law an_law cd_law ct_law),sl_law⟩) (c_law:PySem.W.codeIn K cd_law "law" = true) (k_law:PySem.W.keepIn K (.ref f_law)=true)
    (c_AROUND:PySem.W.nsIn K mainGlobals "AROUND" = some (some (.int (1) t_AROUND)))
    (c_CUTS_OFF:PySem.W.nsIn K mainGlobals "CUTS_OFF" = some (some (.str "c" t_CUTS_OFF)))
    (c_HEIGHT:PySem.W.nsIn K mainGlobals "HEIGHT" = some (some (.int (5) t_HEIGHT)))
    (c_HIDDEN:PySem.W.nsIn K mainGlobals "HIDDEN" = some (some (.str "h" t_HIDDEN)))
    (c_LEFT:PySem.W.nsIn K mainGlobals "LEFT" = some (some (.int (2) t_LEFT)))
    (c_LETS_BY:PySem.W.nsIn K mainGlobals "LETS_BY" = some (some (.str "l" t_LETS_BY)))
    (c_LONGEST_DOUBLE:PySem.W.nsIn K mainGlobals "LONGEST_DOUBLE" = some (some (.int (20) t_LONGEST_DOUBLE)))
    (c_MARKS:PySem.W.nsIn K mainGlobals "MARKS" = some (some (.int (6) t_MARKS)))
    (c_NAME:PySem.W.nsIn K mainGlobals "NAME" = some (some (.int (0) t_NAME)))
    (c_TOP:PySem.W.nsIn K mainGlobals "TOP" = some (some (.int (3) t_TOP)))
    (c_WIDTH:PySem.W.nsIn K mainGlobals "WIDTH" = some (some (.int (4) t_WIDTH)))
    (z_any:PySem.W.nsIn K mainGlobals "any" = some none)
    (z_enumerate:PySem.W.nsIn K mainGlobals "enumerate" = some none)
    (z_len:PySem.W.nsIn K mainGlobals "len" = some none)
    (z_list:PySem.W.nsIn K mainGlobals "list" = some none)
    (z_max:PySem.W.nsIn K mainGlobals "max" = some none)
    (z_min:PySem.W.nsIn K mainGlobals "min" = some none)
    (z_range:PySem.W.nsIn K mainGlobals "range" = some none)
    (z_reversed:PySem.W.nsIn K mainGlobals "reversed" = some none)
    (z_sum:PySem.W.nsIn K mainGlobals "sum" = some none)
    (z_tuple:PySem.W.nsIn K mainGlobals "tuple" = some none)
    (z_zip:PySem.W.nsIn K mainGlobals "zip" = some none)
    : ∃ fd:FuncData,(∀ (s:Shared) (v:Value),BindsTo s fd ⟨[v],[]⟩ [("_law_script", v)])∧∀ base:Heap,K.In base→base.Ns mainGlobals mg→FnOk l.prog w K mg base CX0 21 fa fd ["_law_script"] (spL K):=by
  have e:=hfa.symm.trans (PySem.W.mg_of X G a_law)
  cases e
  have F__law_cell:=fun_mk (st:=s__law_cell) l__law_cell c__law_cell k__law_cell
  have F__law_drawn:=fun_mk (st:=s__law_drawn) l__law_drawn c__law_drawn k__law_drawn
  have F__law_scene:=fun_mk (st:=s__law_scene) l__law_scene c__law_scene k__law_scene
  have F_Hands____init__:=fun_mk (st:=s_Hands____init__) l_Hands____init__ c_Hands____init__ k_Hands____init__
  have F_Hand____init__:=fun_mk (st:=s_Hand____init__) l_Hand____init__ c_Hand____init__ k_Hand____init__
  have F_Hands__hand_of:=fun_mk (st:=s_Hands__hand_of) l_Hands__hand_of c_Hands__hand_of k_Hands__hand_of
  have F_children:=fun_mk (st:=s_children) l_children c_children k_children
  have F_box_of:=fun_mk (st:=s_box_of) l_box_of c_box_of k_box_of
  have F_below:=fun_mk (st:=s_below) l_below c_below k_below
  have F_painted:=fun_mk (st:=s_painted) l_painted c_painted k_painted
  have F_path_of:=fun_mk (st:=s_path_of) l_path_of c_path_of k_path_of
  have F_has_mark:=fun_mk (st:=s_has_mark) l_has_mark c_has_mark k_has_mark
  have F_is_shown:=fun_mk (st:=s_is_shown) l_is_shown c_is_shown k_is_shown
  have F_area_of:=fun_mk (st:=s_area_of) l_area_of c_area_of k_area_of
  have F_overlap:=fun_mk (st:=s_overlap) l_overlap c_overlap k_overlap
  have F_window_of:=fun_mk (st:=s_window_of) l_window_of c_window_of k_window_of
  have F_takers:=fun_mk (st:=s_takers) l_takers c_takers k_takers
  have F_has_point:=fun_mk (st:=s_has_point) l_has_point c_has_point k_has_point
  have F_first_at:=fun_mk (st:=s_first_at) l_first_at c_first_at k_first_at
  have F_hit:=fun_mk (st:=s_hit) l_hit c_hit k_hit
  have F_hit_path:=fun_mk (st:=s_hit_path) l_hit_path c_hit_path k_hit_path
  have F_shared:=fun_mk (st:=s_shared) l_shared c_shared k_shared
  have F_Hand__lead:=fun_mk (st:=s_Hand__lead) l_Hand__lead c_Hand__lead k_Hand__lead
  have F_Hand__tell_holder:=fun_mk (st:=s_Hand__tell_holder) l_Hand__tell_holder c_Hand__tell_holder k_Hand__tell_holder
  have F_Hands__down:=fun_mk (st:=s_Hands__down) l_Hands__down c_Hands__down k_Hands__down
  have F_Hand__let_go:=fun_mk (st:=s_Hand__let_go) l_Hand__let_go c_Hand__let_go k_Hand__let_go
  have F_Hand__click:=fun_mk (st:=s_Hand__click) l_Hand__click c_Hand__click k_Hand__click
  have F_Hands__up:=fun_mk (st:=s_Hands__up) l_Hands__up c_Hands__up k_Hands__up
  have F_law:=fun_mk (st:=s_law) l_law c_law k_law
  have b__law_cell:=F__law_cell.binds (ps:=["_law_script", "_law_k"]) fun _ _ _ _ _ _ us hl=>match us,hl with | [_,_],_=>rfl
  have b__law_drawn:=F__law_drawn.binds (ps:=["_law_script", "_law_k", "_law_many"]) fun _ _ _ _ _ _ us hl=>match us,hl with | [_,_,_],_=>rfl
  have b__law_scene:=F__law_scene.binds (ps:=["_law_script", "_law_at"]) fun _ _ _ _ _ _ us hl=>match us,hl with | [_,_],_=>rfl
  have b_Hands____init__:=F_Hands____init__.binds (ps:=["self", "scene"]) fun _ _ _ _ _ _ us hl=>match us,hl with | [_,_],_=>rfl
  have b_Hand____init__:=F_Hand____init__.binds (ps:=["self"]) fun _ _ _ _ _ _ us hl=>match us,hl with | [_],_=>rfl
  have b_Hands__hand_of:=F_Hands__hand_of.binds (ps:=["self", "hand"]) fun _ _ _ _ _ _ us hl=>match us,hl with | [_,_],_=>rfl
  have b_children:=F_children.binds (ps:=["scene", "name"]) fun _ _ _ _ _ _ us hl=>match us,hl with | [_,_],_=>rfl
  have b_box_of:=F_box_of.binds (ps:=["scene", "name"]) fun _ _ _ _ _ _ us hl=>match us,hl with | [_,_],_=>rfl
  have b_below:=F_below.binds (ps:=["scene", "name"]) fun _ _ _ _ _ _ us hl=>match us,hl with | [_,_],_=>rfl
  have b_painted:=F_painted.binds (ps:=["scene"]) fun _ _ _ _ _ _ us hl=>match us,hl with | [_],_=>rfl
  have b_path_of:=F_path_of.binds (ps:=["scene", "name"]) fun _ _ _ _ _ _ us hl=>match us,hl with | [_,_],_=>rfl
  have b_has_mark:=F_has_mark.binds (ps:=["scene", "name", "mark"]) fun _ _ _ _ _ _ us hl=>match us,hl with | [_,_,_],_=>rfl
  have b_is_shown:=F_is_shown.binds (ps:=["scene", "name"]) fun _ _ _ _ _ _ us hl=>match us,hl with | [_,_],_=>rfl
  have b_area_of:=F_area_of.binds (ps:=["scene", "name"]) fun _ _ _ _ _ _ us hl=>match us,hl with | [_,_],_=>rfl
  have b_overlap:=F_overlap.binds (ps:=["one", "other"]) fun _ _ _ _ _ _ us hl=>match us,hl with | [_,_],_=>rfl
  have b_window_of:=F_window_of.binds (ps:=["scene", "name"]) fun _ _ _ _ _ _ us hl=>match us,hl with | [_,_],_=>rfl
  have b_takers:=F_takers.binds (ps:=["scene"]) fun _ _ _ _ _ _ us hl=>match us,hl with | [_],_=>rfl
  have b_has_point:=F_has_point.binds (ps:=["area", "x", "y"]) fun _ _ _ _ _ _ us hl=>match us,hl with | [_,_,_],_=>rfl
  have b_first_at:=F_first_at.binds (ps:=["rows", "x", "y"]) fun _ _ _ _ _ _ us hl=>match us,hl with | [_,_,_],_=>rfl
  have b_hit:=F_hit.binds (ps:=["scene", "x", "y"]) fun _ _ _ _ _ _ us hl=>match us,hl with | [_,_,_],_=>rfl
  have b_hit_path:=F_hit_path.binds (ps:=["scene", "x", "y"]) fun _ _ _ _ _ _ us hl=>match us,hl with | [_,_,_],_=>rfl
  have b_shared:=F_shared.binds (ps:=["one", "other"]) fun _ _ _ _ _ _ us hl=>match us,hl with | [_,_],_=>rfl
  have b_Hand__lead:=F_Hand__lead.binds (ps:=["self", "path"]) fun _ _ _ _ _ _ us hl=>match us,hl with | [_,_],_=>rfl
  have b_Hand__tell_holder:=F_Hand__tell_holder.binds (ps:=["self", "word"]) fun _ _ _ _ _ _ us hl=>match us,hl with | [_,_],_=>rfl
  have b_Hands__down:=F_Hands__down.binds (ps:=["self", "hand", "moment", "x", "y"]) fun _ _ _ _ _ _ us hl=>match us,hl with | [_,_,_,_,_],_=>rfl
  have b_Hand__let_go:=F_Hand__let_go.binds (ps:=["self", "path"]) fun _ _ _ _ _ _ us hl=>match us,hl with | [_,_],_=>rfl
  have b_Hand__click:=F_Hand__click.binds (ps:=["self", "name", "moment"]) fun _ _ _ _ _ _ us hl=>match us,hl with | [_,_,_],_=>rfl
  have b_Hands__up:=F_Hands__up.binds (ps:=["self", "hand", "moment", "x", "y"]) fun _ _ _ _ _ _ us hl=>match us,hl with | [_,_,_,_,_],_=>rfl
  have b_law:=F_law.binds (ps:=["_law_script"]) fun _ _ _ _ _ _ us hl=>match us,hl with | [_],_=>rfl
  have tx:Tx K mg ⟨C_Hand,C_Hands,f__law_cell,_,f__law_drawn,_,f__law_scene,_,f_Hands____init__,_,f_Hand____init__,_,f_Hands__hand_of,_,f_children,_,f_box_of,_,f_below,_,f_painted,_,f_path_of,_,f_has_mark,_,f_is_shown,_,f_area_of,_,f_overlap,_,f_window_of,_,f_takers,_,f_has_point,_,f_first_at,_,f_hit,_,f_hit_path,_,f_shared,_,f_Hand__lead,_,f_Hand__tell_holder,_,f_Hands__down,_,f_Hand__let_go,_,f_Hand__click,_,f_Hands__up,_,_,_,t_AROUND,t_CUTS_OFF,t_HEIGHT,t_HIDDEN,t_LEFT,t_LETS_BY,t_LONGEST_DOUBLE,t_MARKS,t_NAME,t_TOP,t_WIDTH⟩:=⟨⟨pg_Hand,hd_Hand,po_Hand,sa_Hand⟩,⟨mk_Hand,a_Hand____init__,i_Hand____init__,kc_Hand⟩,PySem.W.mg_of X G aC_Hand,⟨pg_Hands,hd_Hands,po_Hands,sa_Hands⟩,⟨mk_Hands,a_Hands____init__,i_Hands____init__,kc_Hands⟩,PySem.W.mg_of X G aC_Hands,na_Hand_clicked,na_Hand_clicked_moment,na_Hand_held_by,na_Hand_pressed_at,na_Hand_trail,na_Hand_was_double,na_Hands_known,na_Hands_scene,F__law_cell,PySem.W.mg_of X G a__law_cell,b__law_cell,F__law_drawn,PySem.W.mg_of X G a__law_drawn,b__law_drawn,F__law_scene,PySem.W.mg_of X G a__law_scene,b__law_scene,F_Hands____init__,b_Hands____init__,F_Hand____init__,b_Hand____init__,F_Hands__hand_of,⟨a_Hands__hand_of,i_Hands__hand_of,k_Hands__hand_of⟩,b_Hands__hand_of,F_children,PySem.W.mg_of X G a_children,b_children,F_box_of,PySem.W.mg_of X G a_box_of,b_box_of,F_below,PySem.W.mg_of X G a_below,b_below,F_painted,PySem.W.mg_of X G a_painted,b_painted,F_path_of,PySem.W.mg_of X G a_path_of,b_path_of,F_has_mark,PySem.W.mg_of X G a_has_mark,b_has_mark,F_is_shown,PySem.W.mg_of X G a_is_shown,b_is_shown,F_area_of,PySem.W.mg_of X G a_area_of,b_area_of,F_overlap,PySem.W.mg_of X G a_overlap,b_overlap,F_window_of,PySem.W.mg_of X G a_window_of,b_window_of,F_takers,PySem.W.mg_of X G a_takers,b_takers,F_has_point,PySem.W.mg_of X G a_has_point,b_has_point,F_first_at,PySem.W.mg_of X G a_first_at,b_first_at,F_hit,PySem.W.mg_of X G a_hit,b_hit,F_hit_path,PySem.W.mg_of X G a_hit_path,b_hit_path,F_shared,PySem.W.mg_of X G a_shared,b_shared,F_Hand__lead,⟨a_Hand__lead,i_Hand__lead,k_Hand__lead⟩,b_Hand__lead,F_Hand__tell_holder,⟨a_Hand__tell_holder,i_Hand__tell_holder,k_Hand__tell_holder⟩,b_Hand__tell_holder,F_Hands__down,⟨a_Hands__down,i_Hands__down,k_Hands__down⟩,b_Hands__down,F_Hand__let_go,⟨a_Hand__let_go,i_Hand__let_go,k_Hand__let_go⟩,b_Hand__let_go,F_Hand__click,⟨a_Hand__click,i_Hand__click,k_Hand__click⟩,b_Hand__click,F_Hands__up,⟨a_Hands__up,i_Hands__up,k_Hands__up⟩,b_Hands__up,F_law,PySem.W.mg_of X G a_law,b_law,PySem.W.mg_of X G c_AROUND,PySem.W.mg_of X G c_CUTS_OFF,PySem.W.mg_of X G c_HEIGHT,PySem.W.mg_of X G c_HIDDEN,PySem.W.mg_of X G c_LEFT,PySem.W.mg_of X G c_LETS_BY,PySem.W.mg_of X G c_LONGEST_DOUBLE,PySem.W.mg_of X G c_MARKS,PySem.W.mg_of X G c_NAME,PySem.W.mg_of X G c_TOP,PySem.W.mg_of X G c_WIDTH,PySem.W.mg_none_of X G z_any,PySem.W.mg_none_of X G z_enumerate,PySem.W.mg_none_of X G z_len,PySem.W.mg_none_of X G z_list,PySem.W.mg_none_of X G z_max,PySem.W.mg_none_of X G z_min,PySem.W.mg_none_of X G z_range,PySem.W.mg_none_of X G z_reversed,PySem.W.mg_none_of X G z_sum,PySem.W.mg_none_of X G z_tuple,PySem.W.mg_none_of X G z_zip⟩
  exact ⟨_,fun s v=>.of_eq rfl,fun base _ _=>(G_law tx).imp (spM_law main)⟩
theorem walk {l:PySem.W.OpenLaw} {q:Program} {loose:List Str} {XP:(Str→Option Value)→Heap→Prop} {YP:World→Heap→Prop} {d:DefRec} {K:Params→PySem.W.Frag} (hn:l.most=some 63) (hdf:d.params.defaults=[])
    (hY:∀ (w:World) (h:Heap),YP w h→(K w.params).In h)
    (F:∀ (w:World) (mg:Str→Option Value) (fa:Addr) (h:Heap),(K w.params).In h→h.Ns mainGlobals mg→mg d.name=some (.ref fa) →
      ∃ fd:FuncData,(∀ (s:Shared) (u:Value),BindsTo s fd ⟨[u],[]⟩ [("_law_script", u)])∧∀ base:Heap,(K w.params).In base→base.Ns mainGlobals mg→FnOk l.prog w (K w.params) mg base CX0 21 fa fd ["_law_script"] (spL (K w.params))) :
    PySem.W.WalkO q loose XP YP l.row.toRowW d [] (fun f vs=>PySem.call f vs) :=
  L2.walk_of (n:=63) (k:=21) (x := "_law_script") (CX:=fun _=>CX0) (sp:=fun w=>spL (K w.params)) hn (by decide) hdf ⟨rfl,by decide,by decide⟩ hY F (fun _ _ a ns hl _ hS=>⟨a,ns,rfl,hS,hl,fun _=>rfl⟩) fun _ _ _ _ _ z=>z
end K23
open PySem PySem.W PyProof.Rows
noncomputable def K23.view:Program:={ PySem.Challenge.pw_touchtree_k23_whole_clicks with main:={ PySem.Challenge.pw_touchtree_k23_whole_clicks.main with body:=[36,31,18,4,1].foldl (fun l i=>l.eraseIdx i) PySem.Challenge.pw_touchtree_k23_whole_clicks.main.body } }
set_option hygiene false in
local macro_rules
  | `(tactic| o_head $H)=>`(tactic| (
      refine holds_open (q:=K23.view) (loose:=[]) (Xt:=fun s=>xlAt K23.view [] s&&recOk (RowW.records (OpenRow.toRowW (OpenLaw.row PySem.Challenge.rw_touchtree_k23_whole_clicks))) s) (XP:=XL K23.view []) (Yf:=Hook.obs $H) (Ya:=Hook.val $H) (YP:=Hook.says $H) (N:=4472) ?hl (Hook.of $H) (Hook.keeps $H) (fun s e=>xl_of s (Bool.and_eq_true_iff.mp e).1) XL.keeps (by rfl) (by rfl) (by rfl) (fun s e=>recFacts_of (Bool.and_eq_true_iff.mp e).2) (by rfl) (by assumption) (by decide +kernel) ⟨rfl,rfl,rfl,rfl,rfl,by decide +kernel⟩ ?hw ?hc
      (case hl=>(intro w; unfold openEnds fencedOpening topFrom; rewrite [PySem.W.Fast.te10274390034422433532,PySem.W.Fast.te14082659384304107361,PySem.W.Fast.te14364793385576792824,PySem.W.Fast.te14289696077712309145,PySem.W.Fast.te1435165496053646825,PySem.W.Fast.te4187177175401517315,PySem.W.Fast.te2279647611273862201]; kernel_rfl))))
set_option maxRecDepth 100000 in
set_option maxHeartbeats 0 in
theorem PySem.Challenge.cw_touchtree_k23_whole_clicks_holds : PySem.Challenge.rw_touchtree_k23_whole_clicks.Holds := by
  w_on; o_law; k_head; (case hw=>w_witness2)
  k_fill
  refine K23.walk (l := PySem.Challenge.rw_touchtree_k23_whole_clicks) rfl rfl (fun w h Y=>PySem.W.kIn_of Y) ?F
  case F =>
    intro w mg fa h KX G hmg
    refine' K23.all_mk K23.main KX G hmg ?aC_Hand ?pg_Hand ?hd_Hand ?po_Hand ?sa_Hand ?mk_Hand ?kc_Hand ?aC_Hands ?pg_Hands ?hd_Hands ?po_Hands ?sa_Hands ?mk_Hands ?kc_Hands ?na_Hand_clicked ?na_Hand_clicked_moment ?na_Hand_held_by ?na_Hand_pressed_at ?na_Hand_trail ?na_Hand_was_double ?na_Hands_known ?na_Hands_scene ?a__law_cell ?l__law_cell ?c__law_cell ?k__law_cell ?a__law_drawn ?l__law_drawn ?c__law_drawn ?k__law_drawn ?a__law_scene ?l__law_scene ?c__law_scene ?k__law_scene ?a_Hands____init__ ?i_Hands____init__ ?l_Hands____init__ ?c_Hands____init__ ?k_Hands____init__ ?a_Hand____init__ ?i_Hand____init__ ?l_Hand____init__ ?c_Hand____init__ ?k_Hand____init__ ?a_Hands__hand_of ?i_Hands__hand_of ?l_Hands__hand_of ?c_Hands__hand_of ?k_Hands__hand_of ?a_children ?l_children ?c_children ?k_children ?a_box_of ?l_box_of ?c_box_of ?k_box_of ?a_below ?l_below ?c_below ?k_below ?a_painted ?l_painted ?c_painted ?k_painted ?a_path_of ?l_path_of ?c_path_of ?k_path_of ?a_has_mark ?l_has_mark ?c_has_mark ?k_has_mark ?a_is_shown ?l_is_shown ?c_is_shown ?k_is_shown ?a_area_of ?l_area_of ?c_area_of ?k_area_of ?a_overlap ?l_overlap ?c_overlap ?k_overlap ?a_window_of ?l_window_of ?c_window_of ?k_window_of ?a_takers ?l_takers ?c_takers ?k_takers ?a_has_point ?l_has_point ?c_has_point ?k_has_point ?a_first_at ?l_first_at ?c_first_at ?k_first_at ?a_hit ?l_hit ?c_hit ?k_hit ?a_hit_path ?l_hit_path ?c_hit_path ?k_hit_path ?a_shared ?l_shared ?c_shared ?k_shared ?a_Hand__lead ?i_Hand__lead ?l_Hand__lead ?c_Hand__lead ?k_Hand__lead ?a_Hand__tell_holder ?i_Hand__tell_holder ?l_Hand__tell_holder ?c_Hand__tell_holder ?k_Hand__tell_holder ?a_Hands__down ?i_Hands__down ?l_Hands__down ?c_Hands__down ?k_Hands__down ?a_Hand__let_go ?i_Hand__let_go ?l_Hand__let_go ?c_Hand__let_go ?k_Hand__let_go ?a_Hand__click ?i_Hand__click ?l_Hand__click ?c_Hand__click ?k_Hand__click ?a_Hands__up ?i_Hands__up ?l_Hands__up ?c_Hands__up ?k_Hands__up ?a_law ?l_law ?c_law ?k_law ?c_AROUND ?c_CUTS_OFF ?c_HEIGHT ?c_HIDDEN ?c_LEFT ?c_LETS_BY ?c_LONGEST_DOUBLE ?c_MARKS ?c_NAME ?c_TOP ?c_WIDTH ?z_any ?z_enumerate ?z_len ?z_list ?z_max ?z_min ?z_range ?z_reversed ?z_sum ?z_tuple ?z_zip
    (case aC_Hand=>k_is)
    (case pg_Hand=>k_is)
    (case hd_Hand=>k_is)
    (case po_Hand=>k_is)
    (case sa_Hand=>k_is)
    (case mk_Hand=>k_is)
    (case kc_Hand=>k_is)
    (case aC_Hands=>k_is)
    (case pg_Hands=>k_is)
    (case hd_Hands=>k_is)
    (case po_Hands=>k_is)
    (case sa_Hands=>k_is)
    (case mk_Hands=>k_is)
    (case kc_Hands=>k_is)
    (case na_Hand_clicked=>k_is)
    (case na_Hand_clicked_moment=>k_is)
    (case na_Hand_held_by=>k_is)
    (case na_Hand_pressed_at=>k_is)
    (case na_Hand_trail=>k_is)
    (case na_Hand_was_double=>k_is)
    (case na_Hands_known=>k_is)
    (case na_Hands_scene=>k_is)
    (case a__law_cell=>k_is)
    (case l__law_cell=>k_is)
    (case c__law_cell=>k_is)
    (case k__law_cell=>k_is)
    (case a__law_drawn=>k_is)
    (case l__law_drawn=>k_is)
    (case c__law_drawn=>k_is)
    (case k__law_drawn=>k_is)
    (case a__law_scene=>k_is)
    (case l__law_scene=>k_is)
    (case c__law_scene=>k_is)
    (case k__law_scene=>k_is)
    (case a_Hands____init__=>k_is)
    (case i_Hands____init__=>k_is)
    (case l_Hands____init__=>k_is)
    (case c_Hands____init__=>k_is)
    (case k_Hands____init__=>k_is)
    (case a_Hand____init__=>k_is)
    (case i_Hand____init__=>k_is)
    (case l_Hand____init__=>k_is)
    (case c_Hand____init__=>k_is)
    (case k_Hand____init__=>k_is)
    (case a_Hands__hand_of=>k_is)
    (case i_Hands__hand_of=>k_is)
    (case l_Hands__hand_of=>k_is)
    (case c_Hands__hand_of=>k_is)
    (case k_Hands__hand_of=>k_is)
    (case a_children=>k_is)
    (case l_children=>k_is)
    (case c_children=>k_is)
    (case k_children=>k_is)
    (case a_box_of=>k_is)
    (case l_box_of=>k_is)
    (case c_box_of=>k_is)
    (case k_box_of=>k_is)
    (case a_below=>k_is)
    (case l_below=>k_is)
    (case c_below=>k_is)
    (case k_below=>k_is)
    (case a_painted=>k_is)
    (case l_painted=>k_is)
    (case c_painted=>k_is)
    (case k_painted=>k_is)
    (case a_path_of=>k_is)
    (case l_path_of=>k_is)
    (case c_path_of=>k_is)
    (case k_path_of=>k_is)
    (case a_has_mark=>k_is)
    (case l_has_mark=>k_is)
    (case c_has_mark=>k_is)
    (case k_has_mark=>k_is)
    (case a_is_shown=>k_is)
    (case l_is_shown=>k_is)
    (case c_is_shown=>k_is)
    (case k_is_shown=>k_is)
    (case a_area_of=>k_is)
    (case l_area_of=>k_is)
    (case c_area_of=>k_is)
    (case k_area_of=>k_is)
    (case a_overlap=>k_is)
    (case l_overlap=>k_is)
    (case c_overlap=>k_is)
    (case k_overlap=>k_is)
    (case a_window_of=>k_is)
    (case l_window_of=>k_is)
    (case c_window_of=>k_is)
    (case k_window_of=>k_is)
    (case a_takers=>k_is)
    (case l_takers=>k_is)
    (case c_takers=>k_is)
    (case k_takers=>k_is)
    (case a_has_point=>k_is)
    (case l_has_point=>k_is)
    (case c_has_point=>k_is)
    (case k_has_point=>k_is)
    (case a_first_at=>k_is)
    (case l_first_at=>k_is)
    (case c_first_at=>k_is)
    (case k_first_at=>k_is)
    (case a_hit=>k_is)
    (case l_hit=>k_is)
    (case c_hit=>k_is)
    (case k_hit=>k_is)
    (case a_hit_path=>k_is)
    (case l_hit_path=>k_is)
    (case c_hit_path=>k_is)
    (case k_hit_path=>k_is)
    (case a_shared=>k_is)
    (case l_shared=>k_is)
    (case c_shared=>k_is)
    (case k_shared=>k_is)
    (case a_Hand__lead=>k_is)
    (case i_Hand__lead=>k_is)
    (case l_Hand__lead=>k_is)
    (case c_Hand__lead=>k_is)
    (case k_Hand__lead=>k_is)
    (case a_Hand__tell_holder=>k_is)
    (case i_Hand__tell_holder=>k_is)
    (case l_Hand__tell_holder=>k_is)
    (case c_Hand__tell_holder=>k_is)
    (case k_Hand__tell_holder=>k_is)
    (case a_Hands__down=>k_is)
    (case i_Hands__down=>k_is)
    (case l_Hands__down=>k_is)
    (case c_Hands__down=>k_is)
    (case k_Hands__down=>k_is)
    (case a_Hand__let_go=>k_is)
    (case i_Hand__let_go=>k_is)
    (case l_Hand__let_go=>k_is)
    (case c_Hand__let_go=>k_is)
    (case k_Hand__let_go=>k_is)
    (case a_Hand__click=>k_is)
    (case i_Hand__click=>k_is)
    (case l_Hand__click=>k_is)
    (case c_Hand__click=>k_is)
    (case k_Hand__click=>k_is)
    (case a_Hands__up=>k_is)
    (case i_Hands__up=>k_is)
    (case l_Hands__up=>k_is)
    (case c_Hands__up=>k_is)
    (case k_Hands__up=>k_is)
    (case a_law=>k_is)
    (case l_law=>k_is)
    (case c_law=>k_is)
    (case k_law=>k_is)
    (case c_AROUND=>k_is)
    (case c_CUTS_OFF=>k_is)
    (case c_HEIGHT=>k_is)
    (case c_HIDDEN=>k_is)
    (case c_LEFT=>k_is)
    (case c_LETS_BY=>k_is)
    (case c_LONGEST_DOUBLE=>k_is)
    (case c_MARKS=>k_is)
    (case c_NAME=>k_is)
    (case c_TOP=>k_is)
    (case c_WIDTH=>k_is)
    (case z_any=>k_is)
    (case z_enumerate=>k_is)
    (case z_len=>k_is)
    (case z_list=>k_is)
    (case z_max=>k_is)
    (case z_min=>k_is)
    (case z_range=>k_is)
    (case z_reversed=>k_is)
    (case z_sum=>k_is)
    (case z_tuple=>k_is)
    (case z_zip=>k_is)
#print axioms PySem.Challenge.cw_touchtree_k23_whole_clicks_holds
