import PyProof.Rows.All
import Wide.All
import OpenK.AllK
import Wide.FinOn
import PyProof.EqAt
import PyProof.EqKinds
import PyProof.TupleCall
import PyProof.CompFree
import PyProof.Cells
import KE.KDictList
import KE.KDictLaws
import Lean
import PySem.Challenge.RW_touchtree_k24_changes
open Option renaming bind_some → LM, bind → L0
open PySem.W renaming Frag → LN, emptyDict → MC, findIn → MD, keepIn → MM, instObj → MO, fnOf → Nh, openEnds → No, plainGet → Np, OpenLaw → Nt, lookIn → Ny, plainGet_of → Nz, WalkO → ND, callWith_K → NE
open List renaming length_map → LO, getElem?_set_ne → LP, length_append → LQ, getElem?_append_left → LR, getElem?_eq_some_iff → LT, getElem?_set_self → LV, map_cons → LW, mem_cons_of_mem → LX, getElem?_append_right → LY, size_toArray → LZ, length_cons → L1, length_set → L6, mem_cons_self → L7, getElem?_map → L8, replicate → Ma, mem_cons → Mb, getD_eq_getElem?_getD → Mc, getElem?_eq_getElem → Me, prefix_refl → Mf, length_drop → Mh, mem_singleton → Mi, getElem?_eq_none → Mj, map_map → Ml, mem_append_right → Mm, append_nil → Mn, map_append → Mo, length_reverse → Mq, mem_filter → Mr, any_cons → Mt, replicate_succ → Mv, append_assoc → Mw, length_range → Mx, prefix_append → My, filter_cons → MB, flatMap_cons → MG, mem_append → MH, length_filter_le → MJ, flatten_cons → MK, find?_cons → ML, mem_range → MN, getElem?_replicate → MP, lookup_cons → MU, length_replicate → MX, all_cons → MY, drop_eq_getElem_cons → M0, not_mem_nil → M3, mergeSort_perm → M4, map_nil → M5, mem_map → M6, lookup → M7, nodup_append → M8, set_set → M9, set_append_right → Na, eq_nil_of_length_eq_zero → Nc, getLast?_eq_some_getLast → Nd, zipIdx_cons → Nf, nodup_cons → Ng, take_succ_cons → Ni, pairwise_cons → Nk, reverse_cons → Nq, filter_cons_of_pos → Nr, drop_length → Nu, map_reverse → Nv, take_of_length_le → Nw, mem_append_left → NA, mem_of_getElem? → NB, getElem?_of_mem → NC, filterMap_cons → NF, getElem?_range → NG, map_congr_left → NH, drop_succ_cons → NI
open Nat renaming le_refl → LS, lt_of_lt_of_le → L5, le_trans → L9, ne_of_lt → Mg, sub_self → Mp, zero_le → Mz, lt_irrefl → MQ, lt_succ_self → MW, ne_of_gt → Nb, le_of_lt → Nl, lt_of_le_of_lt → Nm
open Bool renaming false_ne_true → LU, and_eq_true → Ms, and_eq_true_iff → MZ
open Int renaming emod_nonneg → Nj, emod_lt_of_pos → Nn
set_option Elab.async false
set_option linter.all false
set_option maxRecDepth 100000
set_option maxHeartbeats 4000000
namespace L2.PU
open PySem PySem.W PySem.Spec PyProof.Rows
noncomputable def HLf (p q:Program) (loose:List Str) (Xt:Shared→Bool) (N:Nat) (H:PySem.W.Hook):Prop:=∀ w,(No treeTable p w N).map (fun s=>(PySem.W.openSeen q loose (importedModules p.main.body) Xt true s,H.obs s))=some (PySem.W.openGood q loose,H.val w)
structure HK (l:Nt) (p q:Program) (loose:List Str) (XP:(Str→Option Value)→Heap→Prop) (Xt:Shared→Bool) (N:Nat) where
 H:PySem.W.Hook
 d:DefRec
 dd:d.params.defaults=[]
 dn:d.name = "law"
 go:(∀ H',H'=H→HLf p q loose Xt N H'∧ND q loose XP H'.says l.row.toRowW d [] (fun f vs=>PySem.call f vs))→l.Holds
noncomputable def hk_mk {l:Nt} {p q:Program} {loose:List Str} {XP:(Str→Option Value)→Heap→Prop} {Xt:Shared→Bool} {N:Nat} {H:PySem.W.Hook} {d:DefRec} (dd:d.params.defaults=[]) (dn:d.name = "law")
  (go:(∀ H',H'=H→HLf p q loose Xt N H'∧ND q loose XP H'.says l.row.toRowW d [] (fun f vs=>PySem.call f vs))→l.Holds):HK l p q loose XP Xt N:=⟨H,d,dd,dn,go⟩
theorem Kz {l:Nt} {p q:Program} {loose:List Str} {XP:(Str→Option Value)→Heap→Prop} {Xt:Shared→Bool} {N:Nat} (k:HK l p q loose XP Xt N) (h1:∀ w,(No treeTable p w N).map (fun s=>PySem.W.openSeen q loose (importedModules p.main.body) Xt true s)=some (PySem.W.openGood q loose))
  (h2:∀ w,(No treeTable p w N).map (fun s=>k.H.obs s)=some (k.H.val w)) (h3:ND q loose XP k.H.says l.row.toRowW k.d [] (fun f vs=>PySem.call f vs)):l.Holds :=
 k.go fun H' e=>by
  subst e;refine ⟨fun w=>?_,h3⟩;have a:=h1 w;have b:=h2 w;cases o:No treeTable p w N with
  | none=>rw [o] at a; cases a
  | some s =>
   rw [o] at a b;have a':=Option.some.inj a;have b':=Option.some.inj b;show some (_,_)=some (_,_);dsimp only at a' b';rw [a',b']
theorem tx_mk {H:PySem.W.Hook} {K:Params→LN} {T:LN→(Str→Option Value)→Prop} (hY:∀ w h,H.says w h→(K w.params).In h) (tx:∀ (P:Params) (mg:Str→Option Value) (h:Heap),(K P).In h→h.Ns mainGlobals mg→T (K P) mg) :
  ∃ K:Params→LN,(∀ w h,H.says w h→(K w.params).In h)∧∀ (P:Params) (mg:Str→Option Value) (h:Heap),(K P).In h→h.Ns mainGlobals mg→T (K P) mg:=⟨K,hY,tx⟩
end L2.PU
section
open PySem PySem.W PyProof.Rows
noncomputable def K24.view:Program:={ PySem.Challenge.pw_touchtree_k24_changes with main:={ PySem.Challenge.pw_touchtree_k24_changes.main with body:=[38,32,19,4,1].foldl (fun l i=>l.eraseIdx i) PySem.Challenge.pw_touchtree_k24_changes.main.body } }
set_option hygiene false in
local macro_rules
 | `(tactic| o_head $H)=>`(tactic| (
   refine holds_open (q:=K24.view) (loose:=[]) (Xt:=(fun s=>xlAt K24.view [] s&&recOk (RowW.records (OpenRow.toRowW (OpenLaw.row PySem.Challenge.rw_touchtree_k24_changes))) s)) (XP:=XL K24.view []) (Yf:=Hook.obs $H) (Ya:=Hook.val $H) (YP:=Hook.says $H) (N:=5148) (k $H rfl).1 (Hook.of $H) (Hook.keeps $H) (fun s e=>xl_of s (MZ.mp e).1) XL.keeps (by rfl) (by rfl) (by rfl) (fun s e=>recFacts_of (MZ.mp e).2) (by rfl) (by assumption) (by decide +kernel) ⟨rfl,rfl,rfl,rfl,rfl,by decide +kernel⟩ ?hw (k $H rfl).2))
set_option maxRecDepth 100000 in
set_option maxHeartbeats 0 in
noncomputable def K24.hk:L2.PU.HK PySem.Challenge.rw_touchtree_k24_changes PySem.Challenge.pw_touchtree_k24_changes K24.view [] (XL K24.view []) (fun s=>xlAt K24.view [] s&&recOk (RowW.records (OpenRow.toRowW (OpenLaw.row PySem.Challenge.rw_touchtree_k24_changes))) s) 5148:=by
 refine' L2.PU.hk_mk ?dd ?dn (fun k=>?go)
 (case go =>
  w_on; o_law; k_head; (case hw=>w_witness2))
 (case dd=>rfl)
 (case dn=>rfl)
set_option maxRecDepth 100000 in
set_option maxHeartbeats 0 in
theorem K24.hlA (w:World):(openEnds treeTable PySem.Challenge.pw_touchtree_k24_changes w 5148).map (fun s=>openSeen K24.view [] (importedModules PySem.Challenge.pw_touchtree_k24_changes.main.body) (fun s=>xlAt K24.view [] s&&recOk (RowW.records (OpenRow.toRowW (OpenLaw.row PySem.Challenge.rw_touchtree_k24_changes))) s) true s)=some (openGood K24.view []):=by
 unfold openEnds fencedOpening topFrom; rewrite [PySem.W.Fast.te10274390034422433532,PySem.W.Fast.te14082659384304107361,PySem.W.Fast.te14364793385576792824,PySem.W.Fast.te14289696077712309145,PySem.W.Fast.te1435165496053646825,PySem.W.Fast.te4187177175401517315]; kernel_rfl
set_option maxRecDepth 100000 in
set_option maxHeartbeats 0 in
theorem K24.hlB (w:World):(openEnds treeTable PySem.Challenge.pw_touchtree_k24_changes w 5148).map (fun s=>K24.hk.H.obs s)=some (K24.hk.H.val w):=by
 unfold openEnds fencedOpening topFrom; rewrite [PySem.W.Fast.te10274390034422433532,PySem.W.Fast.te14082659384304107361,PySem.W.Fast.te14364793385576792824,PySem.W.Fast.te14289696077712309145,PySem.W.Fast.te1435165496053646825]; kernel_rfl
end
namespace L2
open PySem PySem.Spec PyProof.Rows
noncomputable abbrev Key:=Sum Int Str
noncomputable def vE:Key→Value→Bool
 | .inl k,v=>Value.isInt k v
 | .inr x,v=>Value.isStrOf x v
noncomputable def Ls (w:World):Key→Int
 | .inl k=>hashInt k
 | .inr x=>hashStr w x
theorem eQ:∀ {k:Key} {v:Value},vE k v=true→(∃ i t,k=Sum.inl i∧v=Value.int i t)∨(∃ x t,k=Sum.inr x∧v=Value.str x t)
 | .inl i,v,h=>by
  obtain ⟨t,e⟩:=Value.isInt_shape (k:=i) (v:=v) h;exact .inl ⟨i,t,rfl,e⟩
 | .inr x,v,h=>by
  obtain ⟨t,e⟩:=Value.isStrOf_shape (x:=x) (v:=v) h;exact .inr ⟨x,t,rfl,e⟩
theorem Df (i:Int) (t:Tok):vE (.inl i) (.int i t)=true:=by simp [vE,Value.isInt]
theorem De (x:Str) (t:Tok):vE (.inr x) (.str x t)=true:=by simp [vE,Value.isStrOf]
theorem Ja (a b:Int):decide ((Sum.inl a:Key)=Sum.inl b)=(a==b):=by
 by_cases e:a=b
 ·subst e; simp
 ·have h:¬ (Sum.inl a:Key)=Sum.inl b:=fun q=>e (Sum.inl.inj q);rw [decide_eq_false h];exact (beq_eq_false_iff_ne.mpr e).symm
theorem IY (a b:Str):decide ((Sum.inr a:Key)=Sum.inr b)=decide (a=b):=by
 by_cases e:a=b
 ·subst e; simp
 ·have h:¬ (Sum.inr a:Key)=Sum.inr b:=fun q=>e (Sum.inr.inj q);rw [decide_eq_false h,decide_eq_false e]
theorem I0 (a:Int) (b:Str):decide ((Sum.inl a:Key)=Sum.inr b)=false:=decide_eq_false (fun q=>nomatch q)
theorem IZ (a:Str) (b:Int):decide ((Sum.inr a:Key)=Sum.inl b)=false:=decide_eq_false (fun q=>nomatch q)
noncomputable def eM (prog:Program) (w:World):PySem.KeyKind prog w Key where
 is:=vE
 hash:=Ls w
 inj:=fun v a b ha hb=>by
  rcases eQ ha with ⟨i,t,rfl,rfl⟩ | ⟨x,t,rfl,rfl⟩
  ·rcases eQ hb with ⟨j,u,rfl,e⟩ | ⟨y,u,rfl,e⟩
   ·injection e with e1 _; rw [e1]
   ·exact nomatch e
  ·rcases eQ hb with ⟨j,u,rfl,e⟩ | ⟨y,u,rfl,e⟩
   ·exact nomatch e
   ·injection e with e1 _; rw [e1]
 byValue:=fun k v h=>by
  rcases eQ h with ⟨i,t,rfl,rfl⟩ | ⟨x,t,rfl,rfl⟩ <;> rfl
 pyHash:=fun hv h=>by
  rcases eQ hv with ⟨i,t,rfl,rfl⟩ | ⟨x,t,rfl,rfl⟩
  ·exact wpAny_pyHash_int h
  ·exact wpAny_pyHash_str h
 eqBool:=fun hu hv h=>by
  rcases eQ hu with ⟨i,t,rfl,rfl⟩ | ⟨x,t,rfl,rfl⟩
  ·rcases eQ hv with ⟨j,u,rfl,rfl⟩ | ⟨y,u,rfl,rfl⟩
   ·rw [Ja] at h; exact wpAny_eqBool_int h
   ·rw [I0] at h; exact SeqAt.EqAt.int_str i t y u _ _ _ _ h
  ·rcases eQ hv with ⟨j,u,rfl,rfl⟩ | ⟨y,u,rfl,rfl⟩
   ·rw [IZ] at h; exact SeqAt.EqAt.str_int x t j u _ _ _ _ h
   ·rw [IY] at h; exact wpAny_eqBool_str h
 «strs»:=fun k x t v h=>by
  rcases eQ h with ⟨i,u,rfl,e⟩ | ⟨y,u,rfl,e⟩
  ·exact nomatch e
  ·injection e with e1 _
   subst e1;cases v <;> rfl
theorem Aj (prog:Program) (w:World) (i:Int) (t:Tok):(eM prog w).is (.inl i) (.int i t)=true:=Df i t
theorem Ai (prog:Program) (w:World) (x:Str) (t:Tok):(eM prog w).is (.inr x) (.str x t)=true:=De x t
inductive V where
 | non | bl (b:Bool) | int (i:Int) | str (x:Str) | byt (b:Array UInt8) | flt (b:UInt64) | ref (a:Addr) | ty (n:String)
 deriving DecidableEq
noncomputable def RelV:V→Value→Prop
 | .non,u=>u=Value.none
 | .bl b,u=>u=Value.bool b
 | .int i,u=>∃ t,u=Value.int i t
 | .str x,u=>∃ t,u=Value.str x t
 | .byt b,u=>∃ t,u=Value.bytes b t
 | .flt b,u=>∃ t,u=Value.float b t
 | .ref a,u=>u=Value.ref a
 | .ty n,u=>u=Value.type n
noncomputable abbrev Vals:List V→List Value→Prop:=Paired RelV
theorem Vals.length {xs:List V} {us:List Value} (r:Vals xs us):xs.length=us.length:=Paired.length r
theorem Vals.get:∀ {xs:List V} {us:List Value} {i:Nat} {x:V},Vals xs us→xs[i]?=some x→∃ u,us[i]?=some u∧RelV x u
 | _,_,_,_,.nil,e=>by simp at e
 | _,_,0,_,.cons r _,e=>by simp at e; subst e; exact ⟨_,rfl,r⟩
 | _,_,i+1,x,.cons _ t,e=>by
  obtain ⟨u,h1,h2⟩:=Vals.get (i:=i) (x:=x) t (by simpa using e);exact ⟨u,by simpa using h1,h2⟩
theorem Vals.append:∀ {xs ys:List V} {us ws:List Value},Vals xs us→Vals ys ws→Vals (xs++ys) (us++ws)
 | _,_,_,_,.nil,s=>s
 | _,_,_,_,.cons r t,s=>.cons r (Vals.append t s)
theorem Vals.take:∀ {xs:List V} {us:List Value} (n:Nat),Vals xs us→Vals (xs.take n) (us.take n)
 | _,_,0,_=>.nil
 | _,_,_+1,.nil=>.nil
 | _,_,n+1,.cons r t=>.cons r (Vals.take n t)
theorem Vals.drop:∀ {xs:List V} {us:List Value} (n:Nat),Vals xs us→Vals (xs.drop n) (us.drop n)
 | _,_,0,r=>r
 | _,_,_+1,.nil=>.nil
 | _,_,n+1,.cons _ t=>Vals.drop n t
noncomputable def RelO:Option V→Option Value→Prop
 | some v,some u=>RelV v u
 | none,none=>True
 | _,_=>False
noncomputable def KV {κ:Type}:List (κ×V)→List (κ×Value)→Prop:=Paired fun (p:κ×V) (q:κ×Value)=>p.1=q.1∧RelV p.2 q.2
noncomputable def kV:Key→V
 | .inl i=>.int i
 | .inr x=>.str x
inductive HO where
 | lst (xs:List V)
 | tup (xs:List V)
 | dK (kvs:List (Key×V)) | dT (kvs:List (List Key×V))
 | set (S:Int→Bool) (n:Nat)
 | ins (C dx:Addr) (fs:List (Str×V))
 | own (x:Addr)
 | xd (fs:List (Str×V))
 | met (f x:Addr)
 | rng (lo hi:Int)
 | frz (o:Obj) (u:HO)
 | tbl (ps:Array Value)
 | ext (φ:Heap→Prop)
noncomputable abbrev Hp:=Addr→Option HO
noncomputable def upd (H:Hp) (a:Addr) (o:HO):Hp:=fun b=>if b=a then some o else H b
theorem aD {H:Hp} {a:Addr} {o:HO}:upd H a o a=some o:=by unfold upd; rw [if_pos rfl]
theorem aE {H:Hp} {a b:Addr} {o:HO} (h:b≠a):upd H a o b=H b:=by unfold upd; rw [if_neg h]
theorem Kl {H:Hp} {a b:Addr} {o u:HO} (h:H a=some o) (h':H b=some u) (d:o≠u):a≠b:=by
 intro e; subst e; rw [h] at h'; exact d (Option.some.inj h')
theorem aM {H:Hp} {a b:Addr} {o:HO} (h:H a=some o) (h':H b=none):a≠b:=by
 intro e; subst e; rw [h] at h'; cases h'
section
variable (P:Program) (w:World)
noncomputable def ObjOk (H:Hp) (h:Heap) (a:Addr):HO→Prop
 | .lst xs=>xs.length≤sizeLine∧∃ (its:List Value) (n:Nat),Vals xs its∧h.get? a=some { cls:=.type "list", data:=.seq its.toArray n }
 | .tup xs=>xs.length≤sizeLine∧∃ its:List Value,Vals xs its∧IsTup h a its.toArray
 | .dK kvs=>kvs.length≤sizeLine∧(a==sysModules)=false∧∃ vs,KV kvs vs∧h.DictOf (eM P w) a vs
 | .dT kvs=>kvs.length≤sizeLine∧(a==sysModules)=false∧∃ xs:List (List Key×Addr×Value),Paired (fun (p:List Key×V) (q:List Key×Addr×Value)=>p.1=q.1∧H q.2.1=some (.tup (p.1.map kV))∧RelV p.2 q.2.2) kvs xs ∧
   ∃ o es ep,h.get? a=some o∧o.ExactDict∧o.data=.dict es ep∧es.toList=xs.map (entryOfKey (tupleKind (eM P w)))∧(xs.map (·.1)).Nodup
 | .set S n=>h.SetOf (intKind P w) a S n
 | .ins C dx fs=>H dx=some (.own a)∧fs.length≤1000∧dx≠a∧h.get? a=some (MO C dx) ∧
   ∃ mA,h.Ns1 dx mA∧(∀ f,RelO (fs.lookup f) (mA f))∧PySem.Within mA (fs.map (·.1))
 | .own _=>∃ o,h.get? a=some o
 | .xd fs=>∃ mA,h.Ns1 a mA∧∀ f,RelO (fs.lookup f) (mA f)
 | .rng lo hi=>∃ t u v,h.get? a=some { cls:=.type "range", data:=.fields #[.int lo t,.int hi u,.int 1 v] }
 | .frz o u=>h.get? a=some o∧ObjOk H h a u
 | .tbl ps=>h.get? a=some { cls:=.none,data:=.fields ps }
 | .met f x=>h.get? a=some (PySem.W.methodObj (.ref f) (.ref x))
 | .ext φ=>φ h∧(∃ o,h.get? a=some o)∧∀ h1 h2:Heap,φ h1→(∀ o,h1.get? a=some o→h2.get? a=some o)→φ h2
noncomputable def HOk (H:Hp) (h:Heap):Prop:=∀ a o,H a=some o→ObjOk P w H h a o
end
section
variable {P:Program} {w:World} {H H':Hp} {h h':Heap} {a:Addr} {o:HO}
theorem ObjOk.lt (x:ObjOk P w H h a o):a < h.objs.size:=by
 cases o with
 | lst xs=>obtain ⟨_,_,_,_,e⟩:=x; exact Heap.lt_size e
 | tup xs=>obtain ⟨_,_,_,p⟩:=x; exact p.lt
 | dK kvs=>obtain ⟨_,_,_,_,o,_,_,e,_⟩:=x; exact Heap.lt_size e
 | dT kvs=>obtain ⟨_,_,_,_,o,_,_,e,_⟩:=x; exact Heap.lt_size e
 | set S n=>obtain ⟨o,_,_,_,e,_⟩:=x; exact Heap.lt_size e
 | ins C dx fs=>obtain ⟨_,_,_,e,_⟩:=x; exact Heap.lt_size e
 | own y=>obtain ⟨_,e⟩:=x; exact Heap.lt_size e
 | xd fs=>obtain ⟨_,⟨_,_,_,e,_⟩,_⟩:=x; exact Heap.lt_size e
 | rng lo hi=>obtain ⟨_,_,_,e⟩:=x; exact Heap.lt_size e
 | frz ob u=>obtain ⟨e,_⟩:=x; exact Heap.lt_size e
 | tbl ps=>exact Heap.lt_size (show h.get? a=some _ from x)
 | met f y=>exact Heap.lt_size (show h.get? a=some _ from x)
 | ext φ=>obtain ⟨_,⟨_,e⟩,_⟩:=x; exact Heap.lt_size e
theorem Paired.mapP {α β:Type} {F G:α→β→Prop}:∀ {l₁:List α} {l₂:List β},Paired F l₁ l₂→(∀ a b,F a b→G a b)→Paired G l₁ l₂
 | _,_,.nil,_=>.nil
 | _,_,.cons r t,f=>.cons (f _ _ r) (Paired.mapP t f)
theorem ObjOk.stay (x:ObjOk P w H h a o) (k:∀ b u,(b=a∨H b=some (.own a))→h.get? b=some u→h'.get? b=some u)
  (ho:∀ b,H b=some (.own a)→H' b=some (.own a)) (ht:∀ b xs,H b=some (.tup xs)→H' b=some (.tup xs)):ObjOk P w H' h' a o:=by
 induction o with
 | lst xs=>obtain ⟨z,its,n,r,e⟩:=x; exact ⟨z,its,n,r,k _ _ (.inl rfl) e⟩
 | tup xs=>obtain ⟨z,its,r,ob,e,c⟩:=x; exact ⟨z,its,r,ob,k _ _ (.inl rfl) e,c⟩
 | dK kvs=>obtain ⟨z,y,vs,r,ob,es,ep,e,c⟩:=x; exact ⟨z,y,vs,r,ob,es,ep,k _ _ (.inl rfl) e,c⟩
 | dT kvs =>
  obtain ⟨z,y,xs,r,ob,es,ep,e,c⟩:=x;exact ⟨z,y,xs,Paired.mapP r fun p q z=>⟨z.1,ht _ _ z.2.1,z.2.2⟩,ob,es,ep,k _ _ (.inl rfl) e,c⟩
 | set S n=>obtain ⟨ob,es,ep,t,e,c⟩:=x; exact ⟨ob,es,ep,t,k _ _ (.inl rfl) e,c⟩
 | ins C dx fs =>
  obtain ⟨d,z,ne,e,mA,⟨od,es,ep,e2,c⟩,r⟩:=x;exact ⟨ho _ d,z,ne,k _ _ (.inl rfl) e,mA,⟨od,es,ep,k _ _ (.inr d) e2,c⟩,r⟩
 | own y=>obtain ⟨ob,e⟩:=x; exact ⟨ob,k _ _ (.inl rfl) e⟩
 | xd fs=>obtain ⟨mA,⟨od,es,ep,e,c⟩,r⟩:=x; exact ⟨mA,⟨od,es,ep,k _ _ (.inl rfl) e,c⟩,r⟩
 | rng lo hi=>obtain ⟨t,u,v,e⟩:=x; exact ⟨t,u,v,k _ _ (.inl rfl) e⟩
 | frz ob u ih=>obtain ⟨e,q⟩:=x; exact ⟨k _ _ (.inl rfl) e,ih q⟩
 | tbl ps =>
  have e:h.get? a=some { cls:=.none,data:=.fields ps }:=x;show h'.get? a=some { cls:=.none,data:=.fields ps };exact k a _ (.inl rfl) e
 | met f y =>
  have e:h.get? a=some (PySem.W.methodObj (.ref f) (.ref y)):=x;show h'.get? a=some (PySem.W.methodObj (.ref f) (.ref y));exact k a _ (.inl rfl) e
 | ext φ=>obtain ⟨p,⟨o,e⟩,st⟩:=x; exact ⟨st _ _ p fun o q=>k _ _ (.inl rfl) q,⟨o,k _ _ (.inl rfl) e⟩,st⟩
theorem HOk.lt (x:HOk P w H h) (e:H a=some o):a < h.objs.size:=(x a o e).lt
theorem HOk.fresh (x:HOk P w H h) (e:h.objs.size≤a):H a=none:=by
 cases q:H a with
 | none=>rfl
 | some u=>exact absurd (L5 (x.lt q) e) (MQ _)
theorem HOk.kept (x:HOk P w H h) (k:∀ b u,h.get? b=some u→h'.get? b=some u):HOk P w H h':=fun a o e =>
 (x a o e).stay (fun b u _ q=>k b u q) (fun _ q=>q) fun _ _ q=>q
theorem HOk.laid (x:HOk P w H h) (k:∀ b u,h.get? b=some u→h'.get? b=some u) (hp:h.objs.size≤a) (new:ObjOk P w (upd H a o) h' a o):HOk P w (upd H a o) h':=fun b u e=>by
 have hn:=x.fresh hp;by_cases hb:b=a
 ·subst hb; rw [aD] at e; cases e; exact new
 ·rw [aE hb] at e;exact (x b u e).stay (fun c v _ q=>k c v q) (fun c q=>by rw [aE (aM q hn)]; exact q) fun c xs q=>by rw [aE (aM q hn)]; exact q
end
noncomputable def Rd (H:Hp) (a:Addr) (u:HO):Prop:=H a=some u∨∃ o,H a=some (.frz o u)
theorem Rd.ok {P:Program} {w:World} {H:Hp} {h:Heap} {a:Addr} {u:HO} (r:Rd H a u) (x:HOk P w H h):ObjOk P w H h a u:=by
 rcases r with r | ⟨o,r⟩
 ·exact x a u r
 ·obtain ⟨_,q⟩:=x a _ r;exact q
noncomputable def Mut:Option HO→Prop
 | some (.lst _)=>True
 | some (.dK _)=>True
 | some (.dT _)=>True
 | some (.set _ _)=>True
 | some (.ins _ _ _)=>True
 | some (.ext _)=>True
 | _=>False
section
variable {P:Program} {w:World} {H:Hp} {h h':Heap} {x e:Addr} {o':HO}
theorem HOk.write (ok:HOk P w H h) (mu:Mut (H x)) (he:e=x∨H e=some (.own x)) (k:∀ b u,b≠e→h.get? b=some u→h'.get? b=some u) (heo:∃ u,h'.get? e=some u)
  (new:ObjOk P w (upd H x o') h' x o'):HOk P w (upd H x o') h':=fun b u q=>by
 have nown:∀ c y,H c=some (.own y)→c≠x:=fun c y r z=>by subst z; rw [r] at mu; exact mu
 have ntup:∀ c xs,H c=some (.tup xs)→c≠x:=fun c xs r z=>by subst z; rw [r] at mu; exact mu
 by_cases hb:b=x
 ·subst hb; rw [aD] at q; cases q; exact new
 ·rw [aE hb] at q;by_cases hbe:b=e
  ·have q':H b=some (.own x):=by
    rcases he with z | z
    ·exact absurd (hbe.trans z) hb
    ·rw [hbe]; exact z
   rw [q] at q'; cases q';obtain ⟨v,hv⟩:=heo;exact ⟨v,by rw [hbe]; exact hv⟩
  ·refine (ok b u q).stay (fun c v hc r=>k c v ?_ r) (fun c r=>by rw [aE (nown c b r)]; exact r) fun c xs r=>by rw [aE (ntup c xs r)]; exact r
   rcases hc with rfl | hc
   ·exact hbe
   ·rintro rfl
    rcases he with z | z
    ·exact nown c b hc z
    ·rw [hc] at z; cases z; exact hb rfl
end
structure Un (fs ex:List Addr) (H H':Hp) (h h':Heap):Prop where
 keep:∀ b o,h.get? b=some o→H b=none→b∉fs→b∉ex→h'.get? b=some o
 slot:∀ b o,h.get? b=some o→H b=none→b∈fs→b∉ex→∃ sl,h'.get? b=some { o with slots:=sl }
 free:∀ b o,h.get? b=some o→H b=none→b∉ex→H' b=none
 there:∀ b o,h.get? b=some o→b∉ex→∃ o',h'.get? b=some o'
 tups:∀ b xs,H b=some (.tup xs)→H' b=some (.tup xs)
 frzs:∀ b o u,H b=some (.frz o u)→H' b=some (.frz o u)
 tbls:∀ b ps,H b=some (.tbl ps)→∃ more,H' b=some (.tbl (ps++more))
section
variable {fs fs' ex ex':List Addr} {H H1 H2:Hp} {h h1 h2 h':Heap} {a x e:Addr} {o:HO}
theorem Un.any (u:Un fs ex H H1 h h1) {b:Addr} {ob:Obj} (q:h.get? b=some ob) (n:H b=none) (hx:b∉ex):∃ sl,h1.get? b=some { ob with slots:=sl }:=by
 by_cases hb:b∈fs
 ·exact u.slot b ob q n hb hx
 ·exact ⟨ob.slots,u.keep b ob q n hb hx⟩
theorem Un.kept (k:∀ b u,h.get? b=some u→h'.get? b=some u):Un fs ex H H h h' :=
 ⟨fun b ob q _ _ _=>k b ob q,fun b ob q _ _ _=>⟨ob.slots,k b ob q⟩,fun _ _ _ n _=>n,fun b ob q _=>⟨ob,k b ob q⟩,fun _ _ q=>q,fun _ _ _ q=>q,fun _ ps q=>⟨#[],by rw [q]; simp⟩⟩
theorem Un.refl:Un fs ex H H h h:=Un.kept fun _ _ q=>q
theorem Un.laid (k:∀ b u,h.get? b=some u→h'.get? b=some u) (hp:h.objs.size≤a) (hn:H a=none):Un fs ex H (upd H a o) h h' where
 keep:=fun b u q _ _ _=>k b u q
 slot:=fun b u q _ _ _=>⟨u.slots,k b u q⟩
 free:=fun b u q n _=>by rw [aE (Mg (L5 (Heap.lt_size q) hp))]; exact n
 there:=fun b u q _=>⟨u,k b u q⟩
 tups:=fun b xs q=>by rw [aE (aM q hn)]; exact q
 frzs:=fun b u xs q=>by rw [aE (aM q hn)]; exact q
 tbls:=fun b ps q=>⟨#[],by rw [aE (aM q hn),q]; simp⟩
theorem Un.write (mu:Mut (H x)) (he:e=x∨H e=some (.own x)) (k:∀ b u,b≠e→h.get? b=some u→h'.get? b=some u) (heo:∃ u,h'.get? e=some u):Un fs ex H (upd H x o) h h':=by
 have hx:∀ b,H b=none→b≠x:=fun b n z=>by subst z; rw [n] at mu; exact mu
 have hb:∀ b,H b=none→b≠e:=fun b n z=>by
  subst z;rcases he with r | r
  ·exact hx b n r
  ·rw [n] at r; cases r
 have hm:∀ b u,H b=some u→¬ Mut (some u)→b≠x:=fun b u q nm z=>by subst z; rw [q] at mu; exact nm mu
 refine ⟨fun b u q n _ _=>k b u (hb b n) q,fun b u q n _ _=>⟨u.slots,k b u (hb b n) q⟩,fun b u q n _=>by rw [aE (hx b n)]; exact n,fun b u q _=>?_,fun b xs q=>by rw [aE (hm b _ q fun z=>z)]; exact q,fun b u xs q=>by rw [aE (hm b _ q fun z=>z)]; exact q,fun b ps q=>⟨#[],by rw [aE (hm b _ q fun z=>z),q]; simp⟩⟩;by_cases hbe:b=e
 ·subst hbe; exact heo
 ·exact ⟨u,k b u hbe q⟩
end
noncomputable def trk (h:Heap) (H:Hp):List Addr:=(List.range h.objs.size).filter fun a=>(H a).isSome
noncomputable def zc (h:Heap) (H:Hp):Heap:=PySem.W.hideAll h (trk h H)
theorem Dj (h:Heap) (H:Hp):(zc h H).objs.size=h.objs.size:=PySem.W.hideAll_size _ _
theorem EU {h:Heap} {H:Hp} {b:Addr} {o:Obj} (e:h.get? b=some o) (n:H b=none):(zc h H).get? b=some o :=
 PySem.W.hideAll_get _ e fun hm=>by
  have q:(H b).isSome=true:=(Mr.mp hm).2;rw [n] at q; simp at q
theorem Gw {h:Heap} {H:Hp} {b:Addr} {o:Obj} (e:(zc h H).get? b=some o):h.get? b=some o∧H b=none:=by
 have e':h.get? b=some o:=PySem.W.of_hideAll (trk h H) e;refine ⟨e',?_⟩;cases q:H b with
 | none=>rfl
 | some x =>
  have hm:b∈trk h H:=Mr.mpr ⟨MN.mpr (Heap.lt_size e'),by simp [q]⟩;have z:(zc h H).get? b=none:=PySem.W.hideAll_none (trk h H) hm;rw [z] at e; cases e
noncomputable def G7 (g h:Heap) (L:Addr):List (Addr×Obj):=(List.range h.objs.size).filterMap fun a=>if a=L∨(g.get? a).isSome=true then none else (h.get? a).map fun o=>(a,o)
noncomputable def rest (g h:Heap) (L d:Addr):List (Addr×Obj):=(G7 g h L).filter fun p=>decide (p.1≠d)
structure Mod (K:LN) (mg:Str→Option Value) (base:Heap):Prop where
 kin:K.In base
 glob:base.Ns mainGlobals mg
 blt:∃ mb,base.Ns builtinsNs mb∧∀ x:Str,x ≠ "__name__" → mb x=bootBuiltins x
 nolimit:base.NoLimit
structure Cx where
 prog:Program
 w:World
 K:LN
 mg:Str→Option Value
 base:Heap
 A:Around
 N:List Str
 s₀:Shared
 H₀:Hp
 env:Env
 outer:List Env
 stack:List Env
 ex:List Addr
 fn:Str→Bool
 calm:Bool
 pn:List (Addr×Obj)
 xe:Value→Shared→Prop
noncomputable def frs (l:List Env):List Addr:=l.filterMap (·.frame)
noncomputable abbrev Cx.fs (X:Cx):List Addr:=frs X.outer
noncomputable def Vis (sc:Scope) (x:Str):Prop:=sc.names.lookup x=some .local∨sc.names.lookup x=some .cell∨sc.names.lookup x=some .free
noncomputable def Loc (sc:Scope) (x:Str):Prop:=sc.names.lookup x=some .local∨sc.names.lookup x=some .cell
noncomputable def Look (env:Env) (h:Heap) (m:Str→Option Value) (x:Str) (u:Value):Prop :=
 (env.kindOf x=some .local∧m x=some u)∨((env.kindOf x=some .cell∨env.kindOf x=some .free)∧∃ c,env.cells.lookup x=some c∧h.IsCell c (some u))
structure Cx.Ok (X:Cx):Prop where
 mod:Mod X.K X.mg X.base
 kind:X.env.scope.kind=.function
 glob:X.env.globals=mainGlobals
 blt:X.env.builtins=builtinsNs
 above:X.s₀.heap.objs.size≤X.env.locals
 inj:∀ x y c,X.env.cells.lookup x=some c→X.env.cells.lookup y=some c→x=y
 has:∀ x,(X.env.kindOf x=some .cell∨X.env.kindOf x=some .free)→∃ c,X.env.cells.lookup x=some c
 cab:∀ x c,X.fn x=true→X.env.cells.lookup x=some c→X.s₀.heap.objs.size≤c
 hd:X.calm=true→X.A.handled=none
 frames:X.A.frames=some X.stack
 stk:X.stack=X.outer∨(X.stack=X.env::X.outer∧X.env.frame=some X.env.locals)
 exf:∀ b∈X.ex,b≠X.env.locals∧∀ x c,X.env.cells.lookup x=some c→c≠b
 bs:∀ b o,X.base.get? b=some o→X.s₀.heap.get? b=some o∧X.H₀ b=none
 bsz:X.base.objs.size≤X.s₀.heap.objs.size
 noex:∀ b o,X.base.get? b=some o→b∉X.ex
 exfs:∀ b∈X.ex,b∉X.fs
 funs:X.s₀.heap.FunFrames X.base X.outer
 frf:∀ b∈X.fs,X.H₀ b=none
structure Inv (X:Cx) (pins:List (Addr×Obj)) (σ:List (Option V)) (H:Hp) (s:Shared):Prop where
 ok:X.Ok
 os:s.os=X.s₀.os
 bare:AllBare s.gens
 base:Un X.fs X.ex X.H₀ H X.s₀.heap s.heap
 loc:∃ m,s.heap.Ns X.env.locals m∧∀ (i:Nat) (x:Str) (v:V),X.N[i]?=some x→σ[i]?=some (some v)→Vis X.env.scope x→∃ u,RelV v u∧Look X.env s.heap m x u
 cell:∀ x c,X.env.cells.lookup x=some c→∃ v,s.heap.IsCell c v
 free:H X.env.locals=none
 freeC:∀ x c,X.env.cells.lookup x=some c→H c=none
 pin:∀ p∈X.pn++pins,s.heap.get? p.1=some p.2∧H p.1=none∧p.1≠X.env.locals∧p.1∉X.fs∧∀ v,p.2.data≠.cell v
 hok:HOk X.prog X.w H s.heap
 len:σ.length=X.N.length
section
variable {X:Cx} {pins:List (Addr×Obj)} {σ:List (Option V)} {H H':Hp} {s:Shared} {h':Heap}
theorem Cx.Ok.nofr (ok:X.Ok) {b:Addr} {o:Obj} (e:X.base.get? b=some o):b∉X.fs:=fun hb=>by
 have:=(ok.funs.mem hb).1
 rw [e] at this; cases this
theorem Inv.bs (I:Inv X pins σ H s):∀ b o,X.base.get? b=some o→s.heap.get? b=some o∧H b=none:=fun b o e =>
 ⟨I.base.keep b o (I.ok.bs b o e).1 (I.ok.bs b o e).2 (I.ok.nofr e) (I.ok.noex b o e),I.base.free b o (I.ok.bs b o e).1 (I.ok.bs b o e).2 (I.ok.noex b o e)⟩
theorem Inv.bk (I:Inv X pins σ H s):∀ b o,X.base.get? b=some o→s.heap.get? b=some o:=fun b o e=>(I.bs b o e).1
theorem Inv.mod (I:Inv X pins σ H s):Mod X.K X.mg X.base:=I.ok.mod
theorem Inv.kIn (I:Inv X pins σ H s):X.K.In s.heap:=I.ok.mod.kin.keeps I.bk
theorem Inv.lt (I:Inv X pins σ H s):X.env.locals < s.heap.objs.size:=let ⟨_,hn,_⟩:=I.loc; hn.lt
theorem Inv.sz (I:Inv X pins σ H s):X.s₀.heap.objs.size≤s.heap.objs.size:=L9 I.ok.above (Nl I.lt)
theorem Inv.nofs (I:Inv X pins σ H s) {a:Addr} (h:s.heap.objs.size≤a):a∉X.fs:=fun hb=>by
 obtain ⟨_,o,ho,_⟩:=I.ok.funs.mem hb;exact absurd (L5 (Heap.lt_size ho) (L9 I.sz h)) (MQ _)
theorem Inv.cne (I:Inv X pins σ H s):∀ x c,X.env.cells.lookup x=some c→c≠X.env.locals:=fun x c e z=>by
 obtain ⟨v,o,ho,hd⟩:=I.cell x c e;obtain ⟨m,⟨o',es,ep,ho',hd',_⟩,_⟩:=I.loc;rw [z,ho'] at ho; cases ho; rw [hd'] at hd; cases hd
theorem Inv.funs (I:Inv X pins σ H s):s.heap.FunFrames X.base X.outer:=by
 have all:∀ (l:List Env),(∀ b∈frs l,b∈X.fs)→X.s₀.heap.FunFrames X.base l→s.heap.FunFrames X.base l:=by
  intro l
  induction l with
  | nil=>intro _ _; trivial
  | cons env r ih =>
   intro hs hl;obtain ⟨hk,⟨L,o,hf,hn,ho,hd⟩,hr⟩:=hl;have hL:L∈X.fs:=hs L (by unfold frs; rw [NF,hf]; exact L7);obtain ⟨sl,e⟩:=I.base.slot L o ho (I.ok.frf L hL) hL fun z=>I.ok.exfs L z hL;exact ⟨hk,⟨L,_,hf,hn,e,hd⟩,ih (fun b hb=>hs b (by unfold frs; rw [NF,hf]; exact LX _ hb)) hr⟩
 exact all X.outer (fun _ hb=>hb) I.ok.funs
theorem Inv.stack (I:Inv X pins σ H s):s.heap.FunFrames X.base X.stack:=by
 rcases I.ok.stk with e | ⟨e,hf⟩
 ·rw [e]; exact I.funs
 ·rw [e];obtain ⟨m,hn,_⟩:=I.loc;refine .cons (by rw [I.ok.kind]; decide) hf hn ?_ I.funs;exact Heap.get?_none_of_le (L9 I.ok.bsz I.ok.above)
theorem Inv.stkSub (I:Inv X pins σ H s):∀ b∈frs X.stack,b∈X.env.locals::X.fs:=fun b hb=>by
 rcases I.ok.stk with e | ⟨e,hf⟩
 ·rw [e] at hb; exact LX _ hb
 ·rw [e] at hb;unfold frs at hb;rw [NF,hf] at hb;exact hb
theorem Inv.stkFree (I:Inv X pins σ H s):∀ b∈frs X.stack,H b=none:=fun b hb=>by
 rcases Mb.mp (I.stkSub b hb) with e | hb
 ·rw [e]; exact I.free
 ·obtain ⟨_,o,ho,_⟩:=I.ok.funs.mem hb;exact I.base.free b o ho (I.ok.frf b hb) fun z=>I.ok.exfs b z hb
theorem Inv.step {g':Array GenState} {t':Nat} {d':Drawn} {ch:List Addr} (I:Inv X pins σ H s)
  (hch:∀ b∈ch,(b∈X.ex∨X.s₀.heap.objs.size≤b)∧b≠X.env.locals∧(∀ x c,X.env.cells.lookup x=some c→c≠b)∧∀ p∈X.pn++pins,p.1≠b)
  (keep:∀ b o,b≠X.env.locals→b∉X.fs→b∉ch→s.heap.get? b=some o→H b=none→h'.get? b=some o)
  (slot:∀ b o,b≠X.env.locals→b∈X.fs→b∉ch→s.heap.get? b=some o→H b=none→∃ sl,h'.get? b=some { o with slots:=sl }) (free:∀ b o,b∉ch→s.heap.get? b=some o→H b=none→H' b=none)
  (there:∀ b o,b∉ch→s.heap.get? b=some o→∃ o',h'.get? b=some o')
  (tups:∀ b xs,H b=some (.tup xs)→H' b=some (.tup xs)) (frzs:∀ b o u,H b=some (.frz o u)→H' b=some (.frz o u)) (tbls:∀ b ps,H b=some (.tbl ps)→∃ more,H' b=some (.tbl (ps++more)))
  (ns:∀ m,s.heap.Ns X.env.locals m→h'.Ns X.env.locals m) (hok:HOk X.prog X.w H' h') (hg:AllBare g') :
  Inv X pins σ H' { s with heap:=h',gens:=g',drawn:=d',toks:=t' }:=by
 have neL:∀ b o,X.s₀.heap.get? b=some o→b≠X.env.locals:=fun b o e=>Mg (L5 (Heap.lt_size e) I.ok.above);have neC:∀ b o,X.s₀.heap.get? b=some o→b∉X.ex→b∉ch:=fun b o e hx hb=>by
  rcases (hch b hb).1 with z | z
  ·exact hx z
  ·exact absurd (L5 (Heap.lt_size e) z) (MQ _)
 have cellK:∀ x c,X.env.cells.lookup x=some c→∀ v,s.heap.IsCell c v→h'.IsCell c v:=fun x c e v ⟨o,ho,hd⟩=>by
  have nch:c∉ch:=fun z=>(hch c z).2.2.1 x c e rfl;by_cases hc:c∈X.fs
  ·obtain ⟨sl,q⟩:=slot c o (I.cne x c e) hc nch ho (I.freeC x c e);exact ⟨_,q,hd⟩
  ·exact ⟨o,keep c o (I.cne x c e) hc nch ho (I.freeC x c e),hd⟩
 refine ⟨I.ok,I.os,hg,⟨fun b o e n hb hx=>?_,fun b o e n hb hx=>?_,fun b o e n hx=>?_,fun b o e hx=>?_,fun b xs e=>tups b xs (I.base.tups b xs e),fun b o xs e=>frzs b o xs (I.base.frzs b o xs e),fun b ps e=>?_⟩,?_,fun x c e=>?_,?_,fun x c e=>?_,fun p hp=>?_,hok,I.len⟩
 ·exact keep b o (neL b o e) hb (neC b o e hx) (I.base.keep b o e n hb hx) (I.base.free b o e n hx)
 ·obtain ⟨sl,e1⟩:=I.base.slot b o e n hb hx;obtain ⟨sl',e2⟩:=slot b _ (neL b o e) hb (neC b o e hx) e1 (I.base.free b o e n hx);exact ⟨sl',e2⟩
 ·obtain ⟨o',e1⟩:=I.base.there b o e hx;exact free b o' (neC b o e hx) e1 (I.base.free b o e n hx)
 ·obtain ⟨o',e1⟩:=I.base.there b o e hx;exact there b o' (neC b o e hx) e1
 ·obtain ⟨m1,e1⟩:=I.base.tbls b ps e;obtain ⟨m2,e2⟩:=tbls b _ e1;exact ⟨m1++m2,by rw [e2,Array.append_assoc]⟩
 ·obtain ⟨m,hn,hl⟩:=I.loc;refine ⟨m,ns m hn,fun i x v e1 e2 e3=>?_⟩;obtain ⟨u,r,l⟩:=hl i x v e1 e2 e3;refine ⟨u,r,?_⟩;rcases l with l | ⟨k,c,e,z⟩
  ·exact .inl l
  ·exact .inr ⟨k,c,e,cellK x c e _ z⟩
 ·obtain ⟨v,z⟩:=I.cell x c e;exact ⟨v,cellK x c e v z⟩
 ·obtain ⟨m,⟨o,_,_,ho,_⟩,_⟩:=I.loc;exact free _ o (fun z=>(hch _ z).2.1 rfl) ho I.free
 ·obtain ⟨v,o,ho,hd⟩:=I.cell x c e;exact free c o (fun z=>(hch c z).2.2.1 x c e rfl) ho (I.freeC x c e)
 ·obtain ⟨e,n,ne,nf,d⟩:=I.pin p hp;have nch:p.1∉ch:=fun z=>(hch p.1 z).2.2.2 p hp rfl;exact ⟨keep p.1 p.2 ne nf nch e n,free p.1 p.2 nch e n,ne,nf,d⟩
theorem Inv.un {t':Nat} (I:Inv X pins σ H s) (u:Un X.fs [] H H' s.heap h') (hok:HOk X.prog X.w H' h'):Inv X pins σ H' { s with heap:=h',toks:=t' }:=by
 obtain ⟨m,⟨o,es,ep,ho,r⟩,_⟩:=id I.loc;obtain ⟨sl,hL⟩:=u.any ho I.free (by simp);exact I.step (g':=s.gens) (d':=s.drawn) (ch:=[]) (fun _ z=>nomatch z) (fun b o _ hb _ e n=>u.keep b o e n hb (by simp)) (fun b o _ hb _ e n=>u.slot b o e n hb (by simp)) (fun b o _ e n=>u.free b o e n (by simp)) (fun b o _ e=>u.there b o e (by simp)) u.tups u.frzs u.tbls (fun m' hm=>by
  obtain ⟨o',es',ep',ho',r'⟩:=hm;rw [ho] at ho'; cases ho';exact ⟨_,es',ep',hL,r'⟩) hok I.bare
theorem Inv.call {g':Array GenState} {t':Nat} {d':Drawn} {ch:List Addr} (I:Inv X pins σ H s) (u:Un (frs X.stack) ch H H' s.heap h') (hok:HOk X.prog X.w H' h') (hg:AllBare g')
  (hch:∀ b∈ch,(b∈X.ex∨X.s₀.heap.objs.size≤b)∧b≠X.env.locals∧(∀ x c,X.env.cells.lookup x=some c→c≠b)∧∀ p∈X.pn++pins,p.1≠b) :
  Inv X pins σ H' { s with heap:=h',gens:=g',drawn:=d',toks:=t' }:=by
 obtain ⟨m,⟨o,es,ep,ho,r⟩,_⟩:=id I.loc;obtain ⟨sl,hL⟩:=u.any ho I.free fun z=>(hch _ z).2.1 rfl;exact I.step (ch:=ch) hch (fun b o hL hb hc e n=>u.keep b o e n (fun z=>(Mb.mp (I.stkSub b z)).elim hL hb) hc) (fun b o _ _ hc e n=>u.any e n hc) (fun b o hc e n=>u.free b o e n hc) (fun b o hc e=>u.there b o e hc) u.tups u.frzs u.tbls (fun m' hm=>by
  obtain ⟨o',es',ep',ho',r'⟩:=hm;rw [ho] at ho'; cases ho';exact ⟨_,es',ep',hL,r'⟩) hok hg
theorem Inv.turned {t':Nat} {it:Addr} (I:Inv X pins σ H s) (k:∀ b o,b≠it→s.heap.get? b=some o→h'.get? b=some o) (hn:H it=none) (hL:it≠X.env.locals)
  (h1:it∈X.ex∨X.s₀.heap.objs.size≤it) (h2:∀ x c,X.env.cells.lookup x=some c→c≠it) (h3:∀ p∈X.pn++pins,p.1≠it):Inv X pins σ H { s with heap:=h',toks:=t' }:=by
 have nit:∀ b u,H b=some u→b≠it:=fun b u e z=>by rw [z,hn] at e; cases e
 refine I.step (g':=s.gens) (d':=s.drawn) (ch:=[it]) (fun b hb=>?_) (fun b o _ _ hc e _=>k b o (fun z=>hc (by simp [z])) e) (fun b o _ _ hc e _=>⟨o.slots,k b o (fun z=>hc (by simp [z])) e⟩) (fun _ _ _ _ n=>n)
  (fun b o hc e=>⟨o,k b o (fun z=>hc (by simp [z])) e⟩) (fun _ _ e=>e) (fun _ _ _ e=>e) (fun b ps e=>⟨#[],by rw [e]; simp⟩) (fun m hm=>?_) (fun b u e=>?_) I.bare
 ·have e:b=it:=by simpa using hb
  subst e;exact ⟨h1,hL,h2,h3⟩
 ·obtain ⟨o,es,ep,ho,r⟩:=hm;exact ⟨o,es,ep,k _ o (Ne.symm hL) ho,r⟩
 ·refine (I.hok b u e).stay (fun c v hc q=>k c v ?_ q) (fun _ q=>q) fun _ _ q=>q;rcases hc with z | z
  ·rw [z]; exact nit b u e
  ·exact nit c _ z
theorem Inv.tok (I:Inv X pins σ H s) (t:Nat):Inv X pins σ H { s with toks:=t }:=I.un (h':=s.heap) (t':=t) Un.refl I.hok
theorem Inv.kept {t':Nat} (I:Inv X pins σ H s) (k:∀ b u,s.heap.get? b=some u→h'.get? b=some u):Inv X pins σ H { s with heap:=h',toks:=t' }:=I.un (Un.kept k) (I.hok.kept k)
theorem Inv.laid {a:Addr} {o:HO} {t':Nat} (I:Inv X pins σ H s) (k:∀ b u,s.heap.get? b=some u→h'.get? b=some u) (hp:s.heap.objs.size≤a) (new:ObjOk X.prog X.w (upd H a o) h' a o) :
  Inv X pins σ (upd H a o) { s with heap:=h',toks:=t' }:=I.un (Un.laid k hp (I.hok.fresh hp)) (I.hok.laid k hp new)
theorem Inv.write {x e:Addr} {o:HO} {t':Nat} (I:Inv X pins σ H s) (mu:Mut (H x)) (he:e=x∨H e=some (.own x)) (k:∀ b u,b≠e→s.heap.get? b=some u→h'.get? b=some u) (heo:∃ u,h'.get? e=some u)
  (new:ObjOk X.prog X.w (upd H x o) h' x o):Inv X pins σ (upd H x o) { s with heap:=h',toks:=t' }:=I.un (Un.write mu he k heo) (I.hok.write mu he k heo new)
theorem Inv.weak {σ':List (Option V)} (I:Inv X pins σ H s) (hl:σ'.length=σ.length) (w:∀ (i:Nat) v,σ'[i]?=some (some v)→σ[i]?=some (some v)):Inv X pins σ' H s :=
 ⟨I.ok,I.os,I.bare,I.base,let ⟨m,hn,hl'⟩:=I.loc; ⟨m,hn,fun i x v e1 e2 e3=>hl' i x v e1 (w i v e2) e3⟩,I.cell,I.free,I.freeC,I.pin,I.hok,hl.trans I.len⟩
theorem Inv.pins_of {pins':List (Addr×Obj)} (I:Inv X pins σ H s) (h:∀ p∈pins',s.heap.get? p.1=some p.2∧H p.1=none∧p.1≠X.env.locals∧p.1∉X.fs∧∀ v,p.2.data≠.cell v):Inv X pins' σ H s :=
 ⟨I.ok,I.os,I.bare,I.base,I.loc,I.cell,I.free,I.freeC,fun p hp=>(MH.mp hp).elim (fun z=>I.pin p (NA _ z)) (h p),I.hok,I.len⟩
theorem Ah {N:List Str} (hN:N.Nodup) {i j:Nat} {x:Str} (a:N[i]?=some x) (b:N[j]?=some x):i=j:=by
 obtain ⟨h1,e1⟩:=LT.mp a;obtain ⟨h2,e2⟩:=LT.mp b;exact (List.getElem_inj hN).mp (e1.trans e2.symm)
theorem yc {M:Model} {A:Around} {E:Value→Shared→Prop} {i:Nat} {x:Str} {v:V} {u:Value} {Q:Unit→Shared→Prop} (I:Inv X pins σ H s) (hN:X.N.Nodup) (hi:X.N[i]?=some x) (hx:Loc X.env.scope x) (r:RelV v u)
  (h:∀ s',Inv X pins (σ.set i (some v)) H s'→(∃ a,Heap.SameBut a s.heap s'.heap∧(a=X.env.locals∨X.env.cells.lookup x=some a))→Q () s') (hf:X.fn x=true∨X.env.scope.names.lookup x=some .local:=by first | exact .inl rfl | exact .inr rfl | assumption):wpAny M A (storeName X.env x u) Q E s:=by
 obtain ⟨m,hn,hl⟩:=id I.loc;have hcls:(X.env.scope.kind==.class||(X.env.scope.kind==.module&&X.env.locals != X.env.globals))=false:=by rw [I.ok.kind]; rfl
 have hiσ:i < σ.length:=by rw [I.len]; exact (LT.mp hi).1
 have cne:=I.cne;have tracked:∀ {a:Addr} {h':Heap},(∃ o,s.heap.get? a=some o∧H a=none)→Heap.SameBut a s.heap h'→HOk X.prog X.w H h':=fun {a h'} ha hs b ob e=>by
  obtain ⟨_,_,hfree⟩:=ha;refine (I.hok b ob e).stay (fun c w' hc q=>(hs.2 c ?_).trans q) (fun _ q=>q) fun _ _ q=>q
  rintro rfl
  rcases hc with rfl | hc
  ·rw [hfree] at e; cases e
  ·rw [hfree] at hc; cases hc
 rcases hx with hk | hk
 ·refine wpAny_storeName_local hk hn (fun h' hn' hs=>?_) hcls;obtain ⟨oL,_,_,hoL,_⟩:=id hn;refine h _ ⟨I.ok,I.os,I.bare,⟨fun b o e n hb hx=>?_,fun b o e n hb hx=>?_,I.base.free,fun b o e hx=>?_,I.base.tups,I.base.frzs,I.base.tbls⟩,⟨_,hn',fun j y v' e1 e2 e3=>?_⟩,fun y c e=>?_,I.free,I.freeC,fun p hp=>?_,tracked ⟨oL,hoL,I.free⟩ hs,by simpa using I.len⟩ ⟨_,hs,.inl rfl⟩
  ·exact (hs.2 b (Mg (L5 (Heap.lt_size e) I.ok.above))).trans (I.base.keep b o e n hb hx)
  ·obtain ⟨sl,e1⟩:=I.base.slot b o e n hb hx;exact ⟨sl,(hs.2 b (Mg (L5 (Heap.lt_size e) I.ok.above))).trans e1⟩
  ·obtain ⟨o',e1⟩:=I.base.there b o e hx;exact ⟨o',(hs.2 b (Mg (L5 (Heap.lt_size e) I.ok.above))).trans e1⟩
  ·by_cases hj:j=i
   ·subst hj;rw [hi] at e1; cases e1;rw [LV hiσ] at e2;cases e2;exact ⟨u,r,.inl ⟨hk,by simp⟩⟩
   ·rw [LP (Ne.symm hj)] at e2;obtain ⟨u',r',q⟩:=hl j y v' e1 e2 e3;refine ⟨u',r',?_⟩;rcases q with ⟨k,e⟩ | ⟨k,c,e,z⟩
    ·refine .inl ⟨k,?_⟩
     have:y≠x:=fun e=>hj (Ah hN e1 (e ▸ hi))
     simp [this,e]
    ·exact .inr ⟨k,c,e,z.sameBut hs (cne y c e)⟩
  ·obtain ⟨w',z⟩:=I.cell y c e;exact ⟨w',z.sameBut hs (cne y c e)⟩
  ·obtain ⟨e,n,ne,nf,d⟩:=I.pin p hp;exact ⟨(hs.2 p.1 ne).trans e,n,ne,nf,d⟩
 ·have hfn:X.fn x=true:=by
   rcases hf with z | z
   ·exact z
   ·rw [z] at hk; cases hk
  obtain ⟨c,hc⟩:=I.ok.has x (.inl hk);obtain ⟨w',z⟩:=I.cell x c hc;refine wpAny_storeName_cell I.ok.kind hk hc z (fun h' hc' hs=>?_);obtain ⟨oc,hoc,hocd⟩:=id z;refine h { s with heap:=h' } ⟨I.ok,I.os,I.bare,⟨fun b o e n hb hx=>?_,fun b o e n hb hx=>?_,I.base.free,fun b o e hx=>?_,I.base.tups,I.base.frzs,I.base.tbls⟩,⟨m,hn.sameBut hs (Ne.symm (cne x c hc)),fun j y v' e1 e2 e3=>?_⟩,fun y c' e=>?_,I.free,I.freeC,fun p hp=>?_,tracked ⟨oc,hoc,I.freeC x c hc⟩ hs,by simpa using I.len⟩ ⟨c,hs,.inr hc⟩
  ·exact (hs.2 b (Mg (L5 (Heap.lt_size e) (I.ok.cab x c hfn hc)))).trans (I.base.keep b o e n hb hx)
  ·obtain ⟨sl,e1⟩:=I.base.slot b o e n hb hx;exact ⟨sl,(hs.2 b (Mg (L5 (Heap.lt_size e) (I.ok.cab x c hfn hc)))).trans e1⟩
  ·obtain ⟨o',e1⟩:=I.base.there b o e hx;exact ⟨o',(hs.2 b (Mg (L5 (Heap.lt_size e) (I.ok.cab x c hfn hc)))).trans e1⟩
  ·by_cases hj:j=i
   ·subst hj;rw [hi] at e1; cases e1;rw [LV hiσ] at e2;cases e2;exact ⟨u,r,.inr ⟨.inl hk,c,hc,hc'⟩⟩
   ·rw [LP (Ne.symm hj)] at e2;obtain ⟨u',r',q⟩:=hl j y v' e1 e2 e3;refine ⟨u',r',?_⟩;rcases q with q | ⟨k,c',e,z'⟩
    ·exact .inl q
    ·refine .inr ⟨k,c',e,z'.sameBut hs ?_⟩
     rintro rfl
     exact hj (Ah hN e1 (I.ok.inj _ _ _ e hc ▸ hi))
  ·by_cases hcc:c'=c
   ·subst hcc; exact ⟨_,hc'⟩
   ·obtain ⟨w2,z2⟩:=I.cell y c' e;exact ⟨w2,z2.sameBut hs hcc⟩
  ·obtain ⟨e,n,ne,nf,d⟩:=I.pin p hp;refine ⟨(hs.2 p.1 ?_).trans e,n,ne,nf,d⟩;intro q;rw [q,hoc] at e;have q':oc=p.2:=Option.some.inj e;exact d w' (by rw [← q']; exact hocd)
theorem zI {M:Model} {A:Around} {E:Value→Shared→Prop} {i:Nat} {x:Str} {v:V} {u:Value} {Q:Unit→Shared→Prop} (I:Inv X pins σ H s) (hN:X.N.Nodup) (hi:X.N[i]?=some x) (hx:Loc X.env.scope x) (r:RelV v u)
  (h:∀ s',Inv X pins (σ.set i (some v)) H s'→Q () s') (hf:X.fn x=true∨X.env.scope.names.lookup x=some .local:=by first | exact .inl rfl | exact .inr rfl | assumption):wpAny M A (storeName X.env x u) Q E s :=
 yc I hN hi hx r (fun s' I' _=>h s' I') hf
theorem Inv.call' {s':Shared} {ch:List Addr} (I:Inv X pins σ H s) (ho:s'.os=s.os) (u:Un (frs X.stack) ch H H' s.heap s'.heap) (hok:HOk X.prog X.w H' s'.heap) (hg:AllBare s'.gens)
  (hch:∀ b∈ch,(b∈X.ex∨X.s₀.heap.objs.size≤b)∧b≠X.env.locals∧(∀ x c,X.env.cells.lookup x=some c→c≠b)∧∀ p∈X.pn++pins,p.1≠b):Inv X pins σ H' s':=by
 obtain ⟨h',g',d',t',o'⟩:=s';have e:o'=s.os:=ho;subst e;exact I.call (g':=g') (t':=t') (d':=d') u hok hg hch
end
noncomputable abbrev XK:=Value→Option Addr→Hp→Prop
noncomputable abbrev St:=List (Option V)
noncomputable abbrev VK:=V→Hp→Prop
noncomputable abbrev TE:=St→Hp→VK→Prop
noncomputable abbrev TT:=St→Hp→(Bool→Hp→Prop)→Prop
noncomputable abbrev TA:=St→Hp→(List V→Hp→Prop)→Prop
structure Ends where
 nx:St→Hp→Prop
 rt:VK
 bk:St→Hp→Prop:=fun _ _=>False
 ct:St→Hp→Prop:=fun _ _=>False
noncomputable abbrev TS:=Ends→St→Hp→Prop
noncomputable def EP (X:Cx) (pins:List (Addr×Obj)) (σ:St) (Q:VK) (u:Value) (s':Shared):Prop:=∃ v H',Inv X pins σ H' s'∧RelV v u∧Q v H'
noncomputable def TP (X:Cx) (pins:List (Addr×Obj)) (σ:St) (Q:Bool→Hp→Prop) (b:Bool) (s':Shared):Prop:=∃ H',Inv X pins σ H' s'∧Q b H'
noncomputable def AP (X:Cx) (pins:List (Addr×Obj)) (σ:St) (Q:List V→Hp→Prop) (us:List Value) (s':Shared):Prop:=∃ vs H',Inv X pins σ H' s'∧Vals vs us∧Q vs H'
noncomputable def SP (X:Cx) (pins:List (Addr×Obj)) (D:Ends) (f:Flow) (s':Shared):Prop :=
 match f with
 | .next=>∃ σ' H',Inv X pins σ' H' s'∧D.nx σ' H'
 | .brk=>∃ σ' H',Inv X pins σ' H' s'∧D.bk σ' H'
 | .cont=>∃ σ' H',Inv X pins σ' H' s'∧D.ct σ' H'
 | .ret u=>∃ v σ' H',Inv X pins σ' H' s'∧RelV v u∧D.rt v H'
noncomputable def PE (X:Cx) (e:Expr) (t:TE):Prop :=
 ∀ (pins:List (Addr×Obj)) (s:Shared) (σ:St) (H:Hp) (Q:VK),Inv X pins σ H s→t σ H Q→wpAny (model X.prog X.w) X.A (eval e X.env) (EP X pins σ Q) X.xe s
noncomputable def PT (X:Cx) (e:Expr) (t:TT):Prop :=
 ∀ (pins:List (Addr×Obj)) (s:Shared) (σ:St) (H:Hp) (Q:Bool→Hp→Prop),Inv X pins σ H s→t σ H Q→wpAny (model X.prog X.w) X.A (isTrue e X.env (eval e X.env)) (TP X pins σ Q) X.xe s
noncomputable def PW (X:Cx) (e:Expr) (t:TT):Prop :=
 ∀ (whole:Sem Value) (pins:List (Addr×Obj)) (s:Shared) (σ:St) (H:Hp) (Q:Bool→Hp→Prop),Inv X pins σ H s→t σ H Q→wpAny (model X.prog X.w) X.A (isTrue e X.env whole) (TP X pins σ Q) X.xe s
theorem PW.pt {X:Cx} {e:Expr} {t:TT} (h:PW X e t):PT X e t:=h _
noncomputable def PA (X:Cx) (es:List Expr) (t:TA):Prop :=
 ∀ (pos:Pos) (pins:List (Addr×Obj)) (s:Shared) (σ:St) (H:Hp) (Q:List V→Hp→Prop),Inv X pins σ H s→t σ H Q→wpAny (model X.prog X.w) X.A (spliced (backTo pos (starEach es X.env))) (AP X pins σ Q) X.xe s
noncomputable def PS (X:Cx) (st:Stmt) (t:TS):Prop :=
 ∀ (pins:List (Addr×Obj)) (s:Shared) (σ:St) (H:Hp) (D:Ends),Inv X pins σ H s→t D σ H→wpAny (model X.prog X.w) X.A (exec st X.env) (SP X pins D) X.xe s
noncomputable def PSs (X:Cx) (st:List Stmt) (t:TS):Prop :=
 ∀ (pins:List (Addr×Obj)) (s:Shared) (σ:St) (H:Hp) (D:Ends),Inv X pins σ H s→t D σ H→wpAny (model X.prog X.w) X.A (execs st X.env) (SP X pins D) X.xe s
theorem thn {α:Type} {t:Sem α} {Q Q':α→Shared→Prop} {M:Model} {A:Around} {E:Value→Shared→Prop} {s:Shared} (h:wpAny M A t Q E s) (hQ:∀ a s,Q a s→Q' a s):wpAny M A t Q' E s:=wpAny_mono h hQ fun _ _ x=>x
section
variable {X:Cx}
noncomputable def K0 (i:Nat):TE:=fun σ H Q=>∃ v,σ[i]?=some (some v)∧Q v H
noncomputable def tC (v:V):TE:=fun _ H Q=>Q v H
theorem uL {i:Nat} {x:Str} {pos:Pos} (hN:X.N[i]?=some x) (hv:Vis X.env.scope x) (hd:(x==("__debug__" : Str))=false:=by decide) (hcd:(x==("__classdict__" : Str))=false:=by decide):PE X (.Name x pos) (K0 i):=by
 intro pins s σ H Q I h;obtain ⟨v,e,h⟩:=h;obtain ⟨m,hn,hl⟩:=I.loc;obtain ⟨u,r,l⟩:=hl i x v hN e hv;have fin:EP X pins σ Q u s:=⟨v,H,I,r,h⟩;rcases l with ⟨hk,hm⟩ | ⟨hk,c,hc,hcell⟩
 ·exact wpAny_Name (wpAny_loadName_local I.ok.kind hk hn hm fin) hd
 ·rcases hk with hk | hk
  ·exact wpAny_Name (wpAny_loadName_cell I.ok.kind hk hc hcell fin) hd
  ·exact wpAny_Name (wpAny_loadName_free I.ok.kind hk hc hcell fin hcd) hd
theorem IH {i j pos}:PE X (.Constant (.int i) j pos) (tC (.int i)):=fun _ _ _ H _ I h=>wpAny_Constant_int ⟨.int i,H,I.tok _,⟨_,rfl⟩,h⟩
theorem Ke {b j pos}:PE X (.Constant (.bool b) j pos) (tC (.bl b)):=fun _ _ _ H _ I h=>Constant_bool ⟨.bl b,H,I,rfl,h⟩
theorem IG {j pos}:PE X (.Constant .none j pos) (tC .non):=fun _ _ _ H _ I h=>Constant_none ⟨.non,H,I,rfl,h⟩
theorem IE {x j pos}:PE X (.Constant (.str x) j pos) (tC (.str x)):=fun _ _ _ H _ I h=>Calls.Constant_str ⟨.str x,H,I.tok _,⟨_,rfl⟩,h⟩
noncomputable def Gl (X:Cx) (x:Str):Prop:=X.env.kindOf x=some .globalImplicit
theorem ui {E:Value→Shared→Prop} {pins:List (Addr×Obj)} {s:Shared} {σ:St} {H:Hp} {x:Str} {u:Value} {pos:Pos} {Q:Value→Shared→Prop} (I:Inv X pins σ H s) (hg:Gl X x) (hm:X.mg x=some u) (h:Q u s)
  (hd:(x==("__debug__" : Str))=false:=by decide):wpAny (model X.prog X.w) X.A (eval (.Name x pos) X.env) Q E s :=
 Calls.Name_function_global I.ok.kind hg (Calls.loadGlobal_global (by rw [I.ok.glob]; exact I.mod.glob.keeps I.bk) hm h) hd
theorem sR {E:Value→Shared→Prop} {pins:List (Addr×Obj)} {s:Shared} {σ:St} {H:Hp} {x:Str} {u:Value} {pos:Pos} {Q:Value→Shared→Prop} (I:Inv X pins σ H s) (hg:Gl X x) (hm:X.mg x=none) (hv:bootBuiltins x=some u) (h:Q u s)
  (hn:x ≠ "__name__" := by decide) (hd:(x==("__debug__" : Str))=false:=by decide):wpAny (model X.prog X.w) X.A (eval (.Name x pos) X.env) Q E s:=by
 obtain ⟨mb,h1,h2⟩:=I.mod.blt;exact Calls.Name_function_global I.ok.kind hg (Calls.loadGlobal_builtin (by rw [I.ok.glob]; exact I.mod.glob.keeps I.bk) hm (by rw [I.ok.blt]; exact h1.keeps I.bk) ((h2 x hn).trans hv) h) hd
theorem Gm {x:Str} {v:V} {u:Value} {pos:Pos} (hg:Gl X x) (hm:X.mg x=some u) (r:RelV v u) (hd:(x==("__debug__" : Str))=false:=by decide):PE X (.Name x pos) (tC v) :=
 fun _ _ _ H _ I h=>ui I hg hm ⟨v,H,I,r,h⟩ hd
variable {a b:Expr} {ta tb:TE} {pos:Pos}
noncomputable def tB (t:TE):TT:=fun σ H Q=>t σ H fun x H1=>∃ c,x=.bl c∧Q c H1
theorem Iy {e:Expr} {t:TE} (h:PE X e t) (he:∀ whole,isTrue e X.env whole=(do let v ← whole; standAt e.pos; holding [v] (truthy v)):=by intro _; rfl):PT X e (tB t):=by
 intro pins s σ H Q I hw;refine isTrue_plain (thn (h pins s σ H _ I hw) fun v s1 ⟨x,H1,I1,r1,q1⟩=>?_) (he _);obtain ⟨d,rfl,q⟩:=q1;cases r1;exact wpAny_truthy_bool ⟨H1,I1,q⟩
variable {tA tB':TT} {rest:List Expr}
noncomputable def Lc (t u:TT):TT:=fun σ H Q=>t σ H fun c H1=>if c=true then u σ H1 Q else Q false H1
noncomputable def tOr (t u:TT):TT:=fun σ H Q=>t σ H fun c H1=>if c=true then Q true H1 else u σ H1 Q
noncomputable def K6 (t:TT):TT:=fun σ H Q=>t σ H fun c H1=>Q (!c) H1
theorem pw_and1 (ha:PT X a tA):PW X (.BoolOp .And [a] pos) tA:=by
 intro wh pins s σ H Q I h;refine isTrue_and (thn (ha pins s σ H Q I h) fun c s1 e=>?_);cases c with
 | true=>exact isTrue_and_nil e
 | false=>exact e
theorem pw_or1 (ha:PT X a tA):PW X (.BoolOp .Or [a] pos) tA:=by
 intro wh pins s σ H Q I h;refine isTrue_or (thn (ha pins s σ H Q I h) fun c s1 e=>?_);cases c with
 | false=>exact isTrue_or_nil e
 | true=>exact e
theorem pw_and (ha:PT X a tA) (hb:PW X (.BoolOp .And (b::rest) pos) tB'):PW X (.BoolOp .And (a::b::rest) pos) (Lc tA tB'):=by
 intro wh pins s σ H Q I h;refine isTrue_and (thn (ha pins s σ H _ I h) fun c s1 ⟨H1,I1,q1⟩=>?_);cases c with
 | true=>exact hb wh pins s1 σ H1 Q I1 q1
 | false=>exact ⟨H1,I1,q1⟩
theorem pw_or (ha:PT X a tA) (hb:PW X (.BoolOp .Or (b::rest) pos) tB'):PW X (.BoolOp .Or (a::b::rest) pos) (tOr tA tB'):=by
 intro wh pins s σ H Q I h;refine isTrue_or (thn (ha pins s σ H _ I h) fun c s1 ⟨H1,I1,q1⟩=>?_);cases c with
 | true=>exact ⟨H1,I1,q1⟩
 | false=>exact hb wh pins s1 σ H1 Q I1 q1
theorem Iz (ha:PT X a tA):PT X (.UnaryOp .Not a pos) (K6 tA):=by
 intro pins s σ H Q I h;exact isTrue_not (ha pins s σ H (fun c H1=>Q (!c) H1) I h)
noncomputable def JX (ta tb:TE):TE:=fun σ H Q=>ta σ H fun x H1=>∃ c,x=.bl c∧if c=true then tb σ H1 Q else Q (.bl false) H1
noncomputable def JR (ta:TE):TE:=fun σ H Q=>ta σ H fun x H1=>∃ c,x=.bl c∧Q (.bl (!c)) H1
theorem D5 {op} {t:TE} (h:PE X a t):PE X (.BoolOp op [a] pos) t:=fun pins s σ H Q I hw=>BoolOp_one (h pins s σ H Q I hw)
theorem Ed (ha:PE X a ta) (hb:PE X (.BoolOp .And (b::rest) pos) tb):PE X (.BoolOp .And (a::b::rest) pos) (JX ta tb):=by
 intro pins s σ H Q I h;refine BoolOp_and (thn (ha pins s σ H _ I h) fun v s1 ⟨x,H1,I1,r1,q1⟩=>?_);obtain ⟨c,rfl,q1⟩:=q1;cases r1;refine wpAny_truthy_bool ?_;cases c with
 | true=>exact hb pins s1 σ H1 Q I1 q1
 | false=>exact ⟨.bl false,H1,I1,rfl,q1⟩
theorem IF (ha:PE X a ta):PE X (.UnaryOp .Not a pos) (JR ta):=by
 intro pins s σ H Q I h;refine UnaryOp_ (thn (ha pins s σ H _ I h) fun v s1 ⟨x,H1,I1,r1,q1⟩=>?_);obtain ⟨c,rfl,q1⟩:=q1;cases r1;exact not_of (wpAny_truthy_bool ⟨.bl (!c),H1,I1,rfl,q1⟩)
noncomputable def tIf (t:TT) (ta tb:TE):TE:=fun σ H Q=>t σ H fun c H1=>if c=true then ta σ H1 Q else tb σ H1 Q
theorem Aa {c:Expr} (hc:PT X c tA) (ha:PE X a ta) (hb:PE X b tb):PE X (.IfExp c a b pos) (tIf tA ta tb):=by
 intro pins s σ H Q I h;refine wpAny_IfExp (thn (hc pins s σ H _ I h) fun d s1 ⟨H1,I1,q1⟩=>?_);cases d with
 | true=>exact ha pins s1 σ H1 Q I1 q1
 | false=>exact hb pins s1 σ H1 Q I1 q1
end
noncomputable def SqL (K:LN) (H:Hp) (a:Addr) (xs:List V):Prop :=
 Rd H a (.lst xs) ∨
  ∃ (o:Obj) (its:Array Value) (n:Nat),K.lookup a=some o∧o.cls=.type "list" ∧ o.dict=none∧o.data=.seq its n∧its.size≤sizeLine∧Vals xs its.toList
noncomputable def SqT (K:LN) (H:Hp) (a:Addr) (xs:List V):Prop :=
 Rd H a (.tup xs) ∨
  ∃ (o:Obj) (its:Array Value) (n:Nat),K.lookup a=some o∧o.cls=.type "tuple" ∧ o.data=.seq its n∧its.size≤sizeLine∧Vals xs its.toList
noncomputable def LE:Value→Option V
 | .none=>some .non
 | .bool b=>some (.bl b)
 | .int i _=>some (.int i)
 | .str x _=>some (.str x)
 | .bytes b _=>some (.byt b)
 | .float b _=>some (.flt b)
 | .ref a=>some (.ref a)
 | .type n=>some (.ty n)
 | _=>none
theorem RelV.abs {x:V} {u:Value} (r:RelV x u):LE u=some x:=by
 cases x with
 | non=>cases r; rfl
 | bl _=>cases r; rfl
 | int _=>obtain ⟨t,rfl⟩:=r; rfl
 | str _=>obtain ⟨t,rfl⟩:=r; rfl
 | byt _=>obtain ⟨t,rfl⟩:=r; rfl
 | flt _=>obtain ⟨t,rfl⟩:=r; rfl
 | ref _=>cases r; rfl
 | ty _=>cases r; rfl
theorem RelV.inj {x y:V} {u:Value} (r:RelV x u) (q:RelV y u):x=y:=Option.some.inj (r.abs.symm.trans q.abs)
theorem Vals.inj:∀ {xs ys:List V} {us:List Value},Vals xs us→Vals ys us→xs=ys
 | _,_,_,.nil,.nil=>rfl
 | _,_,_,.cons r t,.cons r' t'=>by rw [r.inj r',Vals.inj t t']
section
variable {X:Cx} {pins:List (Addr×Obj)} {σ:St} {H:Hp} {s:Shared} {a:Addr} {xs ys:List V}
theorem SqL.of {K:LN} (h:H a=some (.lst xs)):SqL K H a xs:=.inl (.inl h)
theorem SqT.of {K:LN} (h:H a=some (.tup xs)):SqT K H a xs:=.inl (.inl h)
theorem Inv.list (I:Inv X pins σ H s) (h:SqL X.K H a xs):∃ its:List Value,Vals xs its∧PlainL s.heap a its.toArray∧xs.length≤sizeLine:=by
 rcases h with h | ⟨o,its,n,hk,hc,hd,hs,hz,r⟩
 ·obtain ⟨z,its,n,r,e⟩:=h.ok I.hok;exact ⟨its,r,⟨_,n,e,rfl,rfl,rfl⟩,z⟩
 ·refine ⟨its.toList,r,⟨o,n,I.kIn a o hk,hc,hd,by simpa using hs⟩,?_⟩;have e:=r.length;simp only [Array.length_toList] at e;omega
theorem Inv.tuple (I:Inv X pins σ H s) (h:SqT X.K H a xs):∃ its:List Value,Vals xs its∧IsTup s.heap a its.toArray∧xs.length≤sizeLine:=by
 rcases h with h | ⟨o,its,n,hk,hc,hs,hz,r⟩
 ·obtain ⟨z,its,r,p⟩:=h.ok I.hok;exact ⟨its,r,p,z⟩
 ·refine ⟨its.toList,r,⟨o,I.kIn a o hk,hc,n,by simpa using hs⟩,?_⟩;have e:=r.length;simp only [Array.length_toList] at e;omega
theorem Inv.list_inj (I:Inv X pins σ H s) (h:SqL X.K H a xs) (h':SqL X.K H a ys):xs=ys:=by
 obtain ⟨its,r,⟨o,n,e,_,_,d⟩,_⟩:=I.list h;obtain ⟨its',r',⟨o',n',e',_,_,d'⟩,_⟩:=I.list h';rw [e] at e'; cases e';rw [d] at d';injection d' with d1 _
 have:its=its':=by simpa using congrArg Array.toList d1
 subst this;exact r.inj r'
theorem Inv.tuple_inj (I:Inv X pins σ H s) (h:SqT X.K H a xs) (h':SqT X.K H a ys):xs=ys:=by
 obtain ⟨its,r,⟨o,e,_,n,d⟩,_⟩:=I.tuple h;obtain ⟨its',r',⟨o',e',_,n',d'⟩,_⟩:=I.tuple h';rw [e] at e'; cases e';rw [d] at d';injection d' with d1 _
 have:its=its':=by simpa using congrArg Array.toList d1
 subst this;exact r.inj r'
end
noncomputable abbrev Cx.wish (X:Cx) (E:Value→Shared→Prop):Cx:={ X with xe:=E }
noncomputable abbrev Cx.nox (X:Cx):Cx:=X.wish fun _ _=>False
theorem Cx.Ok.wish {X:Cx} (ok:X.Ok) (E:Value→Shared→Prop):(X.wish E).Ok :=
 ⟨ok.mod,ok.kind,ok.glob,ok.blt,ok.above,ok.inj,ok.has,ok.cab,ok.hd,ok.frames,ok.stk,ok.exf,ok.bs,ok.bsz,ok.noex,ok.exfs,ok.funs,ok.frf⟩
theorem Cx.Ok.unwish {X:Cx} {E:Value→Shared→Prop} (ok:(X.wish E).Ok):X.Ok :=
 ⟨ok.mod,ok.kind,ok.glob,ok.blt,ok.above,ok.inj,ok.has,ok.cab,ok.hd,ok.frames,ok.stk,ok.exf,ok.bs,ok.bsz,ok.noex,ok.exfs,ok.funs,ok.frf⟩
section
variable {X:Cx} {pins:List (Addr×Obj)} {σ:St} {H:Hp} {s:Shared} {E:Value→Shared→Prop}
theorem Inv.wish (I:Inv X pins σ H s) (E:Value→Shared→Prop):Inv (X.wish E) pins σ H s:=⟨I.ok.wish E,I.os,I.bare,I.base,I.loc,I.cell,I.free,I.freeC,I.pin,I.hok,I.len⟩
theorem Inv.unwish (I:Inv (X.wish E) pins σ H s):Inv X pins σ H s:=⟨I.ok.unwish,I.os,I.bare,I.base,I.loc,I.cell,I.free,I.freeC,I.pin,I.hok,I.len⟩
theorem SP.unwish {D:Ends} {f:Flow} {s':Shared} (h:SP (X.wish E) pins D f s'):SP X pins D f s':=by
 cases f with
 | next=>obtain ⟨σ',H',I,q⟩:=h; exact ⟨σ',H',I.unwish,q⟩
 | brk=>obtain ⟨σ',H',I,q⟩:=h; exact ⟨σ',H',I.unwish,q⟩
 | cont=>obtain ⟨σ',H',I,q⟩:=h; exact ⟨σ',H',I.unwish,q⟩
 | ret u=>obtain ⟨v,σ',H',I,r,q⟩:=h; exact ⟨v,σ',H',I.unwish,r,q⟩
theorem PSs.nox {st:List Stmt} {t:TS} (h:PSs X.nox st t):PSs X st t:=fun pins s σ H D I hw =>
 wpAny_mono (h pins s σ H D (I.wish _) hw) (fun _ _ q=>q.unwish) fun _ _ z=>False.elim z
end
section
variable {X:Cx} {st:Stmt} {rest:List Stmt} {t u:TS} {e:Expr} {te:TE} {pos:Pos}
noncomputable def JS:TS:=fun D σ H=>D.nx σ H
noncomputable def K4 (t u:TS):TS:=fun D σ H=>t { D with nx:=u D } σ H
theorem B3:PSs X [] JS:=fun _ _ σ H _ I h=>wpAny_execs_nil ⟨σ,H,I,h⟩
theorem zY (h1:PS X st t) (h2:PSs X rest u):PSs X (st::rest) (K4 t u):=by
 intro pins s σ H D I h;refine wpAny_execs_cons (thn (h1 pins s σ H { D with nx:=u D } I h) fun f s1 q=>?_);cases f with
 | next =>
  obtain ⟨σ',H',I',q⟩:=q;exact h2 pins s1 σ' H' D I' q
 | ret v=>exact q
 | brk=>exact q
 | cont=>exact q
theorem B2 (h1:PS X st t):PSs X [st] t:=by
 intro pins s σ H D I h;refine wpAny_execs_cons (thn (h1 pins s σ H D I h) fun f s1 q=>?_);cases f with
 | next=>exact wpAny_execs_nil q
 | ret v=>exact q
 | brk=>exact q
 | cont=>exact q
noncomputable def Ii:TS:=fun D σ H=>D.bk σ H
theorem DX:PS X (.Break pos) Ii:=fun _ _ σ H _ I h=>wpAny_Break ⟨σ,H,I,h⟩
theorem Inv.quiet {pins:List (Addr×Obj)} {σ:St} {H:Hp} {s:Shared} (I:Inv X pins σ H s):interactive X.env=false:=by simp [interactive,I.ok.kind]
noncomputable def JT (te:TE):TS:=fun D σ H=>te σ H fun _ H1=>D.nx σ H1
theorem yN (he:PE X e te) (hs:swapsWith e none pos.line X.env=pure false:=by rfl):PS X (.Expr e pos) (JT te):=by
 intro pins s σ H D I h;exact wpAny_Expr_any (thn (he pins s σ H _ I h) fun v s1 ⟨x,H1,I1,r1,q1⟩=>⟨σ,H1,I1,q1⟩) I.quiet hs
noncomputable def K5 (te:TE):TS:=fun D σ H=>te σ H D.rt
theorem Be (he:PE X e te):PS X (.Return (some e) pos) (K5 te):=by
 intro pins s σ H D I h;exact wpAny_Return_some (thn (he pins s σ H _ I h) fun v s1 ⟨x,H1,I1,r1,q1⟩=>⟨x,σ,H1,I1,r1,q1⟩)
noncomputable def K8 (c:TT) (t u:TS):TS:=fun D σ H=>c σ H fun b H1=>if b=true then t D σ H1 else u D σ H1
theorem Hz {c:Expr} {a b:List Stmt} {tc:TT} (hc:PT X c tc) (ha:PSs X a t) (hb:PSs X b u):PS X (.If c a b pos) (K8 tc t u):=by
 intro pins s σ H D I h;refine wpAny_If (thn (hc pins s σ H _ I h) fun d s1 ⟨H1,I1,q1⟩=>?_);cases d with
 | true=>exact ha pins s1 σ H1 D I1 q1
 | false=>exact hb pins s1 σ H1 D I1 q1
noncomputable def Ig:TS:=fun _ _ _=>False
theorem DV:PS X st Ig:=fun _ _ _ _ _ _ h=>h.elim
end
noncomputable abbrev TG:=V→St→Hp→(St→Hp→Prop)→Prop
noncomputable abbrev TGs:=List V→St→Hp→(St→Hp→Prop)→Prop
noncomputable def PG (X:Cx) (target:Expr) (t:TG):Prop :=
 ∀ (pins:List (Addr×Obj)) (s:Shared) (σ:St) (H:Hp) (v:V) (u:Value) (Q:St→Hp→Prop),Inv X pins σ H s→RelV v u→t v σ H Q →
  wpAny (model X.prog X.w) X.A (assign target X.env u) (fun _ s'=>∃ σ' H',Inv X pins σ' H' s'∧Q σ' H') X.xe s
noncomputable def PGs (X:Cx) (ts:List Expr) (t:TGs):Prop :=
 ∀ (pins:List (Addr×Obj)) (s:Shared) (σ:St) (H:Hp) (vs:List V) (us:List Value) (Q:St→Hp→Prop),Inv X pins σ H s→Vals vs us→t vs σ H Q →
  wpAny (model X.prog X.w) X.A (assignInOrder ((assignEach ts X.env).map (·.2)) us) (fun _ s'=>∃ σ' H',Inv X pins σ' H' s'∧Q σ' H') X.xe s
section
variable {X:Cx} {pos:Pos}
noncomputable def yq (i:Nat):TG:=fun v σ H Q=>Q (σ.set i (some v)) H
theorem aQ {i:Nat} {x:Str} (hN:X.N.Nodup) (hi:X.N[i]?=some x) (hx:Loc X.env.scope x) (hf:X.fn x=true∨X.env.scope.names.lookup x=some .local:=by first | exact .inl rfl | exact .inr rfl | assumption):PG X (.Name x pos) (yq i):=by
 intro pins s σ H v u Q I r h;exact wpAny_assign_Name (zI I hN hi hx r (fun s' I'=>⟨_,H,I',h⟩) hf)
noncomputable def KB:TGs:=fun vs σ H Q=>vs=[]∧Q σ H
noncomputable def HI (t:TG) (u:TGs):TGs:=fun vs σ H Q=>∃ v r,vs=v::r∧t v σ H fun σ' H'=>u r σ' H' Q
theorem tK:PGs X [] KB:=by
 intro pins s σ H vs us Q I r h;obtain ⟨e,h⟩:=h;subst e;cases r;exact assignInOrder_nil ⟨σ,H,I,h⟩
theorem jE {e:Expr} {es:List Expr} {t:TG} {u:TGs} (h1:PG X e t) (h2:PGs X es u)
  (hs:(assignEach (e::es) X.env).map (·.2)=assign e X.env::(assignEach es X.env).map (·.2):=by rfl):PGs X (e::es) (HI t u):=by
 intro pins s σ H vs us Q I r h;obtain ⟨v,vr,e1,h⟩:=h;subst e1;cases r with
 | cons r rr =>
  rw [hs];refine assignInOrder_cons (thn (h1 pins s σ H _ _ _ I r h) fun _ s1 ⟨σ1,H1,I1,q1⟩=>?_);exact h2 pins s1 σ1 H1 _ _ Q I1 rr q1
noncomputable def KA (K:LN) (n:Nat) (t:TGs):TG:=fun v σ H Q=>∃ a xs,v=.ref a∧SqT K H a xs∧xs.length=n∧t xs σ H Q
theorem wG {es:List Expr} {k:Nat} {t:TGs} {n:Nat} (hc:X.calm=true) (h:PGs X es t)
  (hn:(assignEach es X.env).length=n:=by rfl) (hst:(assignEach es X.env).findIdx? (·.1)=none:=by rfl):PG X (.Tuple es k pos) (KA X.K n t):=by
 intro pins s σ H v u Q I r hw;obtain ⟨a,xs,e1,hq,hl,hw⟩:=hw;subst e1;cases r;obtain ⟨its,rv,ht,hz⟩:=I.tuple hq;refine assign_Tuple_tuple (I.ok.hd hc) ht (by simp [hn,← hl,rv.length]) hst fun h' hx=>?_;have I1:Inv X pins σ H { s with heap:=h' }:=I.kept (t':=s.toks) fun b o e=>hx b o (Mg (Heap.lt_size e)) e;exact h pins _ σ H xs _ Q I1 (by simpa using rv) hw
noncomputable def FQ (te:TE) (g:TG):TS:=fun D σ H=>te σ H fun x H1=>g x σ H1 D.nx
theorem Bc {i:Nat} {x:Str} {e:Expr} {te:TE} {pos':Pos} (hN:X.N.Nodup) (hi:X.N[i]?=some x) (hx:Loc X.env.scope x) (he:PE X e te) (hs:swapsWith e (some (.Name x pos')) pos.line X.env=pure false:=by rfl) (hf:X.fn x=true∨X.env.scope.names.lookup x=some .local:=by first | exact .inl rfl | exact .inr rfl | assumption) :
  PS X (.Assign [.Name x pos'] e pos) (FQ te (yq i)):=by
 intro pins s σ H D I h;refine wpAny_Assign_Name (thn (he pins s σ H _ I h) fun v s1 ⟨y,H1,I1,r1,q1⟩=>?_) hs;exact zI I1 hN hi hx r1 (fun s2 I2=>⟨_,H1,I2,q1⟩) hf
end
section
variable {X:Cx} {pos:Pos}
noncomputable def Id (c:TT) (tb:TS):TS:=fun D σ H=>∃ W:Nat→St→Hp→Prop,(∃ m,W m σ H)∧∀ m σ H,W m σ H →
 c σ H fun b H1=>if b=true then ∃ N:St→Hp→Prop,(∀ σ' H',N σ' H'→∃ m',m' < m∧W m' σ' H')∧tb { D with nx:=N,ct:=N,bk:=D.nx } σ H1 else D.nx σ H1
theorem zZ {c:Expr} {body:List Stmt} {tc:TT} {tb:TS} (hp:PassesOwn (model X.prog X.w) X.A X.env X.xe) (hc:PT X c tc) (hb:PSs X body tb):PS X (.While c body [] pos) (Id tc tb):=by
 intro pins s σ H D I h;obtain ⟨W,⟨m0,w0⟩,turn⟩:=h;refine wpAny_While (codeAny_whileLoop (fun n s'=>∃ σ' H',Inv X pins σ' H' s'∧W n σ' H') ?_ m0 ⟨σ,H,I,w0⟩)
 rintro n s1 ⟨σ1,H1,I1,w1⟩
 refine wpAny_passesOwn hp (thn (hc pins s1 σ1 H1 _ I1 (turn n σ1 H1 w1)) fun b s2 ⟨H2,I2,q2⟩=>?_);cases b with
 | true =>
  obtain ⟨N,hN,q2⟩:=q2;rw [if_pos rfl];refine wpAny_passesOwn hp (thn (hb pins s2 σ1 H2 _ I2 q2) fun f s3 q3=>?_);cases f with
  | next =>
   obtain ⟨σ3,H3,I3,n3⟩:=q3;obtain ⟨m',hm,w3⟩:=hN σ3 H3 n3;exact ⟨m',hm,σ3,H3,I3,w3⟩
  | cont =>
   obtain ⟨σ3,H3,I3,n3⟩:=q3;obtain ⟨m',hm,w3⟩:=hN σ3 H3 n3;exact ⟨m',hm,σ3,H3,I3,w3⟩
  | brk=>exact q3
  | ret v=>exact q3
 | false =>
  rw [if_neg LU];exact wpAny_execs_nil ⟨σ1,H2,I2,q2⟩
end
structure It where
 go:Nat→Hp→Prop
 yld:Nat→Hp→V→Hp→Prop
 stop:Nat→Hp→Prop
noncomputable def rf (X:Cx) (pins:List (Addr×Obj)) (H:Hp) (b:Addr):Prop :=
 H b=none∧b≠X.env.locals∧b∉X.fs∧(b∈X.ex∨X.s₀.heap.objs.size≤b)∧(∀ x c,X.env.cells.lookup x=some c→c≠b)∧∀ p∈X.pn++pins,p.1≠b
theorem Inv.fpOk {X:Cx} {pins:List (Addr×Obj)} {σ:St} {H H':Hp} {s:Shared} {b:Addr} (I:Inv X pins σ H s) (hb:s.heap.objs.size≤b) (hn:H' b=none):rf X pins H' b:=by
 refine ⟨hn,Nb (L5 I.lt hb),I.nofs hb,.inr (L9 I.sz hb),fun x c e z=>?_,fun p hp z=>?_⟩
 ·obtain ⟨v,q⟩:=I.cell x c e;exact absurd (L5 q.lt (by rw [z]; exact hb)) (MQ _)
 ·exact absurd (L5 (Heap.lt_size (I.pin p hp).1) (by rw [z]; exact hb)) (MQ _)
structure Turn (P:Program) (w:World) (K:LN) (tg:Expr) (J:It) (fp:List Addr) (it:Addr) (tn:Nat→Heap→Prop):Prop where
 mem:it∈fp
 obj:∀ i h,tn i h→∀ b∈fp,∃ o,h.get? b=some o∧∀ v,o.data≠.cell v
 keep:∀ i h h',tn i h→(∀ b∈fp,∀ o,h.get? b=some o→h'.get? b=some o)→tn i h'
 item:∀ (X:Cx),X.prog=P→X.w=w→X.K=K→X.calm=true→∀ (i:Nat) (pins:List (Addr×Obj)) (s:Shared) (σ:St) (H:Hp) (E:Value→Shared→Prop),Inv X pins σ H s→(∀ b∈fp,rf X pins H b)→tn i s.heap→J.go i H →
  wpAny (model P w) X.A (pyNext (.ref it)) (fun r s1=>∃ u,r=some u ∧
   wpAny (model P w) X.A (letOwnedTupleGo tg (.ref it) u) (fun _ s2=>∃ x H',Inv X pins σ H' s2∧RelV x u∧J.yld i H x H'∧tn (i+1) s2.heap∧∀ b∈fp,H' b=none) E s1) E s
 done:∀ (X:Cx),X.prog=P→X.w=w→X.K=K→X.calm=true→∀ (i:Nat) (pins:List (Addr×Obj)) (s:Shared) (σ:St) (H:Hp) (E:Value→Shared→Prop),Inv X pins σ H s→(∀ b∈fp,rf X pins H b)→tn i s.heap→J.stop i H →
  wpAny (model P w) X.A (pyNext (.ref it)) (fun r s1=>r=none∧Inv X pins σ H s1) E s
 self:∀ (A:Around) (i:Nat) (s:Shared) (Q:Value→Shared→Prop) (E:Value→Shared→Prop),tn i s.heap→Q (.ref it) s→wpAny (model P w) A (pyIter (.ref it)) Q E s
noncomputable abbrev TI:=St→Hp→(It→Hp→Prop)→Prop
noncomputable def PIE (X:Cx) (pins:List (Addr×Obj)) (σ:St) (tg:Expr) (R:It→Hp→Prop) (itv:Value) (s2:Shared):Prop :=
 ∃ (it:Addr) (fp:List Addr) (tn:Nat→Heap→Prop) (J:It) (H':Hp),itv=.ref it∧Inv X pins σ H' s2∧Turn X.prog X.w X.K tg J fp it tn∧tn 0 s2.heap∧(∀ b∈fp,rf X pins H' b)∧R J H'
noncomputable def PI (X:Cx) (tg iter:Expr) (wi:TI):Prop :=
 ∀ (pins:List (Addr×Obj)) (s:Shared) (σ:St) (H:Hp) (R:It→Hp→Prop),Inv X pins σ H s→wi σ H R →
  wpAny (model X.prog X.w) X.A (eval iter X.env) (fun v s1=>wpAny (model X.prog X.w) X.A (pyIter v) (PIE X pins σ tg R) X.xe s1) X.xe s
theorem CC {M:Model} {A:Around} {E:Value→Shared→Prop} {s:Shared} {tg:Expr} {it:Addr} {u:Value} {o:Obj} {n:String} {vs:Array Value} {Q:Unit→Shared→Prop} (ho:s.heap.get? it=some o) (hc:o.cls=.type n) (hd:o.data=.fields vs)
  (hn:["enumerate", "zip", "dict_itemiterator", "dict_reverseitemiterator", "odict_iterator", "itertools.zip_longest", "itertools.pairwise"].contains n=false) (hQ:Q () s):wpAny M A (letOwnedTupleGo tg (.ref it) u) Q E s:=by
 unfold letOwnedTupleGo;cases tg <;> first
  | exact wpAny_pure hQ
  | (cases u <;> first
    | exact wpAny_pure hQ
    | (refine wpAny_bind (wpAny_load ho ?_)
       rw [hc,hd];show wpAny M A (if (["enumerate", "zip", "dict_itemiterator", "dict_reverseitemiterator", "odict_iterator", "itertools.zip_longest", "itertools.pairwise"].contains n&&vs[0]?==some (rawInt _))=true then _ else _) Q E s;rw [if_neg (by intro h; rw [hn,Bool.false_and] at h; cases h)];exact wpAny_pure hQ))
noncomputable def Itl (K:LN) (a:Addr):It :=
 ⟨fun i H=>∃ xs x,SqL K H a xs∧xs[i]?=some x,fun i H x H'=>H'=H∧∀ xs,SqL K H a xs→xs[i]?=some x,fun i H=>∃ xs,SqL K H a xs∧xs.length≤i⟩
noncomputable def Itt (K:LN) (a:Addr):It :=
 ⟨fun i H=>∃ xs x,SqT K H a xs∧xs[i]?=some x,fun i H x H'=>H'=H∧∀ xs,SqT K H a xs→xs[i]?=some x,fun i H=>∃ xs,SqT K H a xs∧xs.length≤i⟩
noncomputable def Itr (lo:Int) (n:Nat):It:=⟨fun i _=>i < n,fun i H x H'=>H'=H∧x=.int (lo+i),fun i _=>n≤i⟩
theorem CV {P:Program} {w:World} {K:LN} {tg:Expr} (a it:Addr):Turn P w K tg (Itl K a) [it] it (fun i h=>h.IsListIter it a i) where
 mem:=by simp
 obj:=fun i h st b hb=>by
  have e:b=it:=by simpa using hb
  subst e;obtain ⟨o,e,c,d⟩:=st;exact ⟨o,e,fun v z=>by rw [d] at z; cases z⟩
 keep:=fun i h h' st k=>st.at fun o e=>k it (by simp) o e
 item:=by
  intro X hP hw hK hc i pins s σ H E I hf st hg;subst hP hw hK;obtain ⟨xs,x,hq,hx⟩:=hg;obtain ⟨its,rv,p,hz⟩:=I.list hq;obtain ⟨u,hu,ru⟩:=rv.get hx;obtain ⟨f0,f1,f2,f3,f4,f5⟩:=hf it (by simp);refine wpAny_pyNext_list_item st p.isList (x:=u) (by simpa using hu) fun h' st' sb=>?_;have I1:Inv X pins σ H { s with heap:=h' }:=I.turned (t':=s.toks) (fun b o hb e=>(sb.2 b hb).trans e) f0 f1 f3 f4 f5;obtain ⟨o,e,c,d⟩:=id st';exact ⟨u,rfl,CC (s:={ s with heap:=h' }) e c d (by decide) ⟨x,H,I1,ru,⟨rfl,fun ys hy=>by rw [I.list_inj hy hq]; exact hx⟩,st',fun b hb=>(hf b hb).1⟩⟩
 done:=by
  intro X hP hw hK hc i pins s σ H E I hf st hg;subst hP hw hK;obtain ⟨xs,hq,hx⟩:=hg;obtain ⟨its,rv,p,hz⟩:=I.list hq;obtain ⟨f0,f1,f2,f3,f4,f5⟩:=hf it (by simp);have hl:=rv.length;exact wpAny_pyNext_list_end (I.ok.hd hc) st p.isList (by simp; omega) fun h' eb=>⟨rfl,I.turned (t':=s.toks) (fun b o hb e=>eb b o hb e) f0 f1 f3 f4 f5⟩
 self:=fun _ _ _ _ _ st h=>wpAny_pyIter_listiter st h
theorem A5 {P:Program} {w:World} {K:LN} {tg:Expr} (a it:Addr):Turn P w K tg (Itt K a) [it] it (fun i h=>h.IsTupleIter it a i) where
 mem:=by simp
 obj:=fun i h st b hb=>by
  have e:b=it:=by simpa using hb
  subst e;obtain ⟨o,e,c,d⟩:=st;exact ⟨o,e,fun v z=>by rw [d] at z; cases z⟩
 keep:=fun i h h' st k=>st.at fun o e=>k it (by simp) o e
 item:=by
  intro X hP hw hK hc i pins s σ H E I hf st hg;subst hP hw hK;obtain ⟨xs,x,hq,hx⟩:=hg;obtain ⟨its,rv,p,hz⟩:=I.tuple hq;obtain ⟨u,hu,ru⟩:=rv.get hx;obtain ⟨f0,f1,f2,f3,f4,f5⟩:=hf it (by simp);refine wpAny_pyNext_tuple_item st (show s.heap.IsTuple a its.toArray from p) (x:=u) (by simpa using hu) fun h' st' sb=>?_;have I1:Inv X pins σ H { s with heap:=h' }:=I.turned (t':=s.toks) (fun b o hb e=>(sb.2 b hb).trans e) f0 f1 f3 f4 f5;obtain ⟨o,e,c,d⟩:=id st';exact ⟨u,rfl,CC (s:={ s with heap:=h' }) e c d (by decide) ⟨x,H,I1,ru,⟨rfl,fun ys hy=>by rw [I.tuple_inj hy hq]; exact hx⟩,st',fun b hb=>(hf b hb).1⟩⟩
 done:=by
  intro X hP hw hK hc i pins s σ H E I hf st hg;subst hP hw hK;obtain ⟨xs,hq,hx⟩:=hg;obtain ⟨its,rv,p,hz⟩:=I.tuple hq;obtain ⟨f0,f1,f2,f3,f4,f5⟩:=hf it (by simp);have hl:=rv.length;exact wpAny_pyNext_tuple_end (I.ok.hd hc) st (show s.heap.IsTuple a its.toArray from p) (by simp; omega) fun h' eb=>⟨rfl,I.turned (t':=s.toks) (fun b o hb e=>eb b o hb e) f0 f1 f3 f4 f5⟩
 self:=fun _ _ _ _ _ st h=>wpAny_pyIter_tupleiter st h
theorem A6 {P:Program} {w:World} {K:LN} {tg:Expr} (it:Addr) (lo:Int) (n:Nat):Turn P w K tg (Itr lo n) [it] it (fun i h=>IsRangeIter h it (lo+(i:Nat)*1) ((n:Int) - (i:Nat)) 1) where
 mem:=by simp
 obj:=fun i h st b hb=>by
  have e:b=it:=by simpa using hb
  subst e;exact ⟨_,st,fun v z=>by
   have z':Data.fields _=Data.cell v:=z;cases z'⟩
 keep:=fun i h h' st k=>k it (by simp) _ st
 item:=by
  intro X hP hw hK hc i pins s σ H E I hf st hg;subst hP hw hK;obtain ⟨f0,f1,f2,f3,f4,f5⟩:=hf it (by simp);have W:=Walks.range (prog:=X.prog) (w:=X.w) (I.ok.hd hc) it lo 1 n;refine W.item i s _ _ hg st fun v h' tk hv st' kk=>?_;obtain ⟨t,rfl⟩:=hv;have I1:Inv X pins σ H { s with heap:=h',toks:=tk }:=I.turned (fun b o hb e=>kk b o (by simpa using hb) e) f0 f1 f3 f4 f5;refine ⟨_,rfl,CC (s:={ s with heap:=h',toks:=tk }) (n := "range_iterator") st' rfl rfl (by decide) ⟨.int (lo+i),H,I1,⟨t,?_⟩,⟨rfl,rfl⟩,st',fun b hb=>(hf b hb).1⟩⟩;rw [Int.mul_one]
 done:=by
  intro X hP hw hK hc i pins s σ H E I hf st hg;subst hP hw hK;obtain ⟨f0,f1,f2,f3,f4,f5⟩:=hf it (by simp);exact wpAny_pyNext_range_end (I.ok.hd hc) st (by have:n≤i:=hg; omega) fun h' eb=>⟨rfl,I.turned (t':=s.toks) (fun b o hb e=>eb b o hb e) f0 f1 f3 f4 f5⟩
 self:=fun _ _ _ _ _ st h=>wpAny_pyIter_rangeiter st h
section
variable {X:Cx} {tg:Expr}
noncomputable def Kx (K:LN) (tl:TE):TI:=fun σ H R=>tl σ H fun x H1=>∃ a,x=.ref a∧(∃ xs,SqL K H1 a xs)∧R (Itl K a) H1
noncomputable def Lv (K:LN) (tl:TE):TI:=fun σ H R=>tl σ H fun x H1=>∃ a,x=.ref a∧(∃ xs,SqT K H1 a xs)∧R (Itt K a) H1
theorem B4 {l:Expr} {tl:TE} (hl:PE X l tl):PI X tg l (Kx X.K tl):=by
 intro pins s σ H R I h;refine thn (hl pins s σ H _ I h) fun v s1 ⟨x,H1,I1,r1,q1⟩=>?_;obtain ⟨a,e,⟨xs,hq⟩,q⟩:=q1;subst e;cases r1;obtain ⟨its,rv,p,hz⟩:=I1.list hq;refine wpAny_pyIter_list p.isList ?_;refine ⟨s1.heap.objs.size,[s1.heap.objs.size],_,_,H1,rfl,I1.kept (t':=s1.toks) fun b o e=>Heap.get?_push_of_some _ e,CV a _,⟨_,Heap.get?_push_size _ rfl,rfl,rfl⟩,fun b hb=>?_,q⟩;have e:b=s1.heap.objs.size:=by simpa using hb
 subst e;exact I1.fpOk (LS _) (I1.hok.fresh (LS _))
theorem ID {l:Expr} {tl:TE} (hl:PE X l tl):PI X tg l (Lv X.K tl):=by
 intro pins s σ H R I h;refine thn (hl pins s σ H _ I h) fun v s1 ⟨x,H1,I1,r1,q1⟩=>?_;obtain ⟨a,e,⟨xs,hq⟩,q⟩:=q1;subst e;cases r1;obtain ⟨its,rv,p,hz⟩:=I1.tuple hq;refine wpAny_pyIter_tuple (show s1.heap.IsTuple a its.toArray from p) ?_;refine ⟨s1.heap.objs.size,[s1.heap.objs.size],_,_,H1,rfl,I1.kept (t':=s1.toks) fun b o e=>Heap.get?_push_of_some _ e,A5 a _,⟨_,Heap.get?_push_size _ rfl,rfl,rfl⟩,fun b hb=>?_,q⟩;have e:b=s1.heap.objs.size:=by simpa using hb
 subst e;exact I1.fpOk (LS _) (I1.hok.fresh (LS _))
theorem DL {pins:List (Addr×Obj)} {σ:St} {H:Hp} {s:Shared} {R:It→Hp→Prop} {E:Value→Shared→Prop} {lo hi:Int} {t u v:Tok} {tk:Nat} (I:Inv X pins σ H s) (h1:-(2 ^ 62)≤lo) (h2:lo < 2 ^ 62) (h3:-(2 ^ 62)≤hi) (h4:hi < 2 ^ 62)
  (q:R (Itr lo (hi - lo).toNat) H):wpAny (model X.prog X.w) X.A (pyIter (.ref s.heap.objs.size)) (PIE X pins σ tg R) E { s with heap:=s.heap.push { cls:=.type "range", data:=.fields #[.int lo t,.int hi u,.int 1 v] },toks:=tk }:=by
 refine wpAny_pyIter_range (IsRange.new ..) (small_one h1 h2 h3 h4) ?_;have I1:Inv X pins σ H { s with heap:=s.heap.push { cls:=.type "range", data:=.fields #[.int lo t,.int hi u,.int 1 v] },toks:=tk }:=I.kept fun b o e=>Heap.get?_push_of_some _ e;refine ⟨(s.heap.push { cls:=.type "range", data:=.fields #[.int lo t,.int hi u,.int 1 v] }).objs.size,[(s.heap.push { cls:=.type "range", data:=.fields #[.int lo t,.int hi u,.int 1 v] }).objs.size],_,_,H,rfl,I1.kept (t':=tk) fun b o e=>Heap.get?_push_of_some _ e,A6 _ lo (hi - lo).toNat,?_,fun b hb=>?_,q⟩
 ·have e1:lo+((0:Nat):Int)*1=lo:=by simp
  have e2:(((hi - lo).toNat:Nat):Int) - ((0:Nat):Int)=Builtin.Range.rangeSize lo hi 1:=by rw [rangeSize_one]; split <;> omega
  show IsRangeIter _ _ (lo+((0:Nat):Int)*1) ((((hi - lo).toNat:Nat):Int) - ((0:Nat):Int)) 1;rw [e1,e2];exact Heap.get?_push_size _ rfl
 ·have e:b=(s.heap.push { cls:=.type "range", data:=.fields #[.int lo t,.int hi u,.int 1 v] }).objs.size:=by simpa using hb
  subst e;exact I1.fpOk (LS _) (I1.hok.fresh (LS _))
noncomputable def Kw (ta:TA):TI:=fun σ H R=>ta σ H fun vs H1=>∃ j:Int,vs=[.int j]∧-(2 ^ 62)≤j∧j < 2 ^ 62∧R (Itr 0 j.toNat) H1
theorem C5 {a:Expr} {ta:TA} {p pos:Pos} (hg:Gl X "range") (hm:X.mg "range" = none) (ha:PA X [a] ta) (hs:starEach [a] X.env=[(false,eval a X.env)]:=by rfl):PI X tg (.Call (.Name "range" p) [a] [] pos) (Kw ta):=by
 intro pins s σ H R I h;refine Call_ (sR I hg hm boot_range (PyProof.Rows.callWith_type1 (thn (ha pos pins s σ H _ I h) fun us s1 ⟨vs,H1,I1,r1,q1⟩=>?_) hs rfl));obtain ⟨j,e,q1,q2,q⟩:=q1;subst e;cases r1 with
 | cons r rr =>
  cases rr;obtain ⟨t,rfl⟩:=r;exact call_range_1 (DL I1 (by omega) (by omega) q1 q2 (by simpa using q))
noncomputable def K9 (wi:TI) (g:TG) (tb:TS):TS:=fun D σ H=>wi σ H fun J H1=>∃ W:Nat→Nat→St→Hp→Prop,(∃ m,W 0 m σ H1)∧∀ i m σ H,W i m σ H →
 (J.stop i H∧D.nx σ H)∨(J.go i H∧∃ N:St→Hp→Prop,(∀ σ' H',N σ' H'→∃ m',m' < m∧W (i+1) m' σ' H')∧∀ x H',J.yld i H x H'→g x σ H' fun σ2 H2=>tb { D with nx:=N,ct:=N,bk:=D.nx } σ2 H2)
noncomputable def wF (fp:List Addr) (h:Heap):List (Addr×Obj):=fp.filterMap fun b=>(h.get? b).map fun o=>(b,o)
theorem pE {fp:List Addr} {h:Heap} {b:Addr} {o:Obj} (hb:b∈fp) (e:h.get? b=some o):(b,o)∈wF fp h:=List.mem_filterMap.mpr ⟨b,hb,by rw [e]; rfl⟩
theorem C9 {fp:List Addr} {h:Heap} {p:Addr×Obj} (hp:p∈wF fp h):p.1∈fp∧h.get? p.1=some p.2:=by
 obtain ⟨b,hb,e⟩:=List.mem_filterMap.mp hp;cases q:h.get? b with
 | none=>rw [q] at e; cases e
 | some o =>
  rw [q] at e;have e':(b,o)=p:=Option.some.inj e;subst e';exact ⟨hb,q⟩
theorem Inv.pinned {pins:List (Addr×Obj)} {σ:St} {H:Hp} {s:Shared} {fp:List Addr} (I:Inv X pins σ H s) (hf:∀ b∈fp,rf X pins H b) (ho:∀ b∈fp,∃ o,s.heap.get? b=some o∧∀ v,o.data≠.cell v):Inv X (pins++wF fp s.heap) σ H s :=
 I.pins_of fun p hp=>(MH.mp hp).elim (fun z=>I.pin p (Mm _ z)) fun z=>by
  obtain ⟨hb,e⟩:=C9 z;obtain ⟨f0,f1,f2,_⟩:=hf p.1 hb;obtain ⟨o,e',d⟩:=ho p.1 hb;rw [e] at e'; cases e';exact ⟨e,f0,f1,f2,d⟩
theorem Inv.unpinned {pins pl:List (Addr×Obj)} {σ:St} {H:Hp} {s:Shared} (I:Inv X (pins++pl) σ H s):Inv X pins σ H s:=I.pins_of fun p hp=>I.pin p (Mm _ (NA _ hp))
theorem DW {iter:Expr} {body:List Stmt} {wi:TI} {g:TG} {tb:TS} {pos:Pos} (hp:PassesOwn (model X.prog X.w) X.A X.env X.xe) (hc:X.calm=true) (hi:PI X tg iter wi) (hg:PG X tg g) (hb:PSs X body tb)
  (hs:∀ x,foldedSetIterable iter X.env x=pure x:=by intro _; rfl):PS X (.For tg iter body [] pos) (K9 wi g tb):=by
 intro pins s σ H D I h;refine wpAny_For (thn (hi pins s σ H _ I h) fun v s1 h1=>thn h1 fun itv s2 h2=>?_) hs;obtain ⟨it,fp,tn,J,H2,e,I2,T,st2,f2,W,⟨m0,w0⟩,turn⟩:=h2;subst e;have stat:∀ {H':Hp},(∀ b∈fp,H' b=none)→∀ b∈fp,rf X pins H' b:=fun hn b hb=>⟨hn b hb,(f2 b hb).2⟩;refine codeAny_forLoop_any (fun n s'=>∃ i σ' H',Inv X pins σ' H' s'∧tn i s'.heap∧(∀ b∈fp,H' b=none)∧W i n σ' H') ?_ m0 ⟨0,σ,H2,I2,st2,fun b hb=>(f2 b hb).1,w0⟩
 rintro n s3 ⟨i,σ3,H3,I3,st3,fr3,w3⟩
 rcases turn i n σ3 H3 w3 with ⟨stop,qn⟩ | ⟨go,N,hN,step⟩
 ·refine wpAny_passesOwn hp (thn (T.done X rfl rfl rfl hc i pins s3 σ3 H3 X.xe I3 (stat fr3) st3 stop) fun r s4 ⟨hr,I4⟩=>?_);subst hr;exact wpAny_execs_nil ⟨σ3,H3,I4,qn⟩
 ·refine wpAny_passesOwn hp (thn (T.item X rfl rfl rfl hc i pins s3 σ3 H3 X.xe I3 (stat fr3) st3 go) fun r s4 ⟨u,hr,h4⟩=>?_);subst hr;refine wpAny_passesOwn hp (thn h4 fun _ s5 ⟨x,H5,I5,r5,y5,st5,fr5⟩=>?_);have I5':=I5.pinned (stat fr5) (T.obj _ _ st5);refine wpAny_passesOwn hp (thn (hg _ s5 σ3 H5 x u _ I5' r5 (step x H5 y5)) fun _ s6 ⟨σ6,H6,I6,q6⟩=>?_);refine wpAny_passesOwn hp (thn (hb _ s6 σ6 H6 _ I6 q6) fun f s7 q7=>?_);have again:∀ {σ7:St} {H7:Hp},Inv X (pins++wF fp s5.heap) σ7 H7 s7→N σ7 H7→∃ m,m < n∧∃ i σ' H',Inv X pins σ' H' s7∧tn i s7.heap∧(∀ b∈fp,H' b=none)∧W i m σ' H':=fun {σ7 H7} I7 n7=>by
   obtain ⟨m',hm,w7⟩:=hN σ7 H7 n7;refine ⟨m',hm,i+1,σ7,H7,I7.unpinned,T.keep _ _ _ st5 fun b hb o e=>(I7.pin (b,o) (Mm _ (Mm _ (pE hb e)))).1,fun b hb=>?_,w7⟩;obtain ⟨o,e,d⟩:=T.obj _ _ st5 b hb;exact (I7.pin (b,o) (Mm _ (Mm _ (pE hb e)))).2.1
  cases f with
  | next=>obtain ⟨σ7,H7,I7,n7⟩:=q7; exact again I7 n7
  | cont=>obtain ⟨σ7,H7,I7,n7⟩:=q7; exact again I7 n7
  | brk=>obtain ⟨σ7,H7,I7,q7⟩:=q7; exact ⟨σ7,H7,I7.unpinned,q7⟩
  | ret v=>obtain ⟨x7,σ7,H7,I7,r7,q7⟩:=q7; exact ⟨x7,σ7,H7,I7.unpinned,r7,q7⟩
end
noncomputable abbrev R2:=V→V→Hp→VK→Prop
noncomputable def OpR (X:Cx) (f:Value→Value→Sem Value) (r:R2):Prop :=
 ∀ (pins:List (Addr×Obj)) (s:Shared) (σ:St) (H:Hp) (x y:V) (v u:Value) (Q:VK),Inv X pins σ H s→RelV x v→RelV y u→r x y H Q →
  wpAny (model X.prog X.w) X.A (f v u) (EP X pins σ Q) X.xe s
noncomputable def UnR (X:Cx) (f:Value→Sem Value) (r:V→Hp→VK→Prop):Prop :=
 ∀ (pins:List (Addr×Obj)) (s:Shared) (σ:St) (H:Hp) (x:V) (v:Value) (Q:VK),Inv X pins σ H s→RelV x v→r x H Q →
  wpAny (model X.prog X.w) X.A (f v) (EP X pins σ Q) X.xe s
noncomputable def CallR (X:Cx) (f:Value) (r:List V→Hp→VK→Prop):Prop :=
 ∀ (pins:List (Addr×Obj)) (s:Shared) (σ:St) (H:Hp) (xs:List V) (us:List Value) (Q:VK),Inv X pins σ H s→Vals xs us→r xs H Q →
  wpAny (model X.prog X.w) X.A (call f us) (EP X pins σ Q) X.xe s
noncomputable def LF (X:Cx) (r:V→Hp→(Bool→Hp→Prop)→Prop):Prop :=
 ∀ (pins:List (Addr×Obj)) (s:Shared) (σ:St) (H:Hp) (x:V) (v:Value) (Q:Bool→Hp→Prop),Inv X pins σ H s→RelV x v→r x H Q →
  wpAny (model X.prog X.w) X.A (truthy v) (TP X pins σ Q) X.xe s
noncomputable def tOp (r:R2) (ta tb:TE):TE:=fun σ H Q=>ta σ H fun x H1=>tb σ H1 fun y H2=>r x y H2 Q
noncomputable def tUn (r:V→Hp→VK→Prop) (ta:TE):TE:=fun σ H Q=>ta σ H fun x H1=>r x H1 Q
noncomputable def rI (C:Int→Int→Prop) (g:Int→Int→V):R2:=fun x y H Q=>∃ i j,x=.int i∧y=.int j∧C i j∧Q (g i j) H
noncomputable def rI0 (g:Int→Int→V):R2:=fun x y H Q=>∃ i j,x=.int i∧y=.int j∧Q (g i j) H
noncomputable def rU (g:Int→V):V→Hp→VK→Prop:=fun x H Q=>∃ i,x=.int i∧Q (g i) H
section
variable {X:Cx} {a b c:Expr} {ta tb tc:TE} {pos:Pos}
theorem Jo (ha:PE X a ta) (hb:PE X b tb) {pins:List (Addr×Obj)} {s:Shared} {σ:St} {H:Hp} {R:V→V→Hp→Prop} (I:Inv X pins σ H s)
  (h:ta σ H fun x H1=>tb σ H1 fun y H2=>R x y H2) {Q:Value→Shared→Prop} {f:Value→Value→Sem Value}
  (hf:∀ v u s2 x y H2,Inv X pins σ H2 s2→RelV x v→RelV y u→R x y H2→wpAny (model X.prog X.w) X.A (f v u) Q X.xe s2) :
  wpAny (model X.prog X.w) X.A (eval a X.env) (fun v s₁=>wpAny (model X.prog X.w) X.A (eval b X.env) (fun u s₂=>wpAny (model X.prog X.w) X.A (f v u) Q X.xe s₂) X.xe s₁) X.xe s:=by
 refine thn (ha pins s σ H _ I h) fun v s1 ⟨x,H1,I1,r1,q1⟩=>?_;refine thn (hb pins s1 σ H1 _ I1 q1) fun u s2 ⟨y,H2,I2,r2,q2⟩=>?_;exact hf v u s2 x y H2 I2 r1 r2 q2
theorem B5 {op:Operator} {r:R2} (ho:OpR X (binaryOp op) r) (ha:PE X a ta) (hb:PE X b tb):PE X (.BinOp a op b pos) (tOp r ta tb):=by
 intro pins s σ H Q I h;exact wpAny_BinOp (Jo ha hb I h fun v u s2 x y H2 I2 rx ry q=>ho pins s2 σ H2 x y v u Q I2 rx ry q)
theorem Kd {op:UnaryOp} {r:V→Hp→VK→Prop} (ho:UnR X (unaryOp op) r) (ha:PE X a ta):PE X (.UnaryOp op a pos) (tUn r ta):=by
 intro pins s σ H Q I h;exact UnaryOp_ (thn (ha pins s σ H _ I h) fun v s1 ⟨x,H1,I1,r1,q1⟩=>ho pins s1 σ H1 x v Q I1 r1 q1)
theorem opI {f:Value→Value→Sem Value} {C:Int→Int→Prop} {g:Int→Int→Int}
  (rule:∀ (i j:Int) (t u:Tok) (s:Shared) (Q:Value→Shared→Prop) (E:Value→Shared→Prop),C i j→Q (.int (g i j) s.toks) { s with toks:=s.toks+1 }→wpAny (model X.prog X.w) X.A (f (.int i t) (.int j u)) Q E s) :
  OpR X f (rI C fun i j=>.int (g i j)):=by
 intro pins s σ H x y v u Q I rx ry h;obtain ⟨i,j,rfl,rfl,hc,q⟩:=h;obtain ⟨t,rfl⟩:=rx;obtain ⟨t',rfl⟩:=ry;exact rule i j t t' s _ _ hc ⟨.int (g i j),H,I.tok _,⟨_,rfl⟩,q⟩
theorem Kk {f:Value→Value→Sem Value} {g:Int→Int→Int}
  (rule:∀ (i j:Int) (t u:Tok) (s:Shared) (Q:Value→Shared→Prop) (E:Value→Shared→Prop),Q (.int (g i j) s.toks) { s with toks:=s.toks+1 }→wpAny (model X.prog X.w) X.A (f (.int i t) (.int j u)) Q E s) :
  OpR X f (rI0 fun i j=>.int (g i j)):=by
 intro pins s σ H x y v u Q I rx ry h;obtain ⟨i,j,rfl,rfl,q⟩:=h;obtain ⟨t,rfl⟩:=rx;obtain ⟨t',rfl⟩:=ry;exact rule i j t t' s _ _ ⟨.int (g i j),H,I.tok _,⟨_,rfl⟩,q⟩
theorem IM {f:Value→Value→Sem Value} {g:Int→Int→Bool}
  (rule:∀ (i j:Int) (t u:Tok) (s:Shared) (Q:Value→Shared→Prop) (E:Value→Shared→Prop),Q (.bool (g i j)) s→wpAny (model X.prog X.w) X.A (f (.int i t) (.int j u)) Q E s) :
  OpR X f (rI0 fun i j=>.bl (g i j)):=by
 intro pins s σ H x y v u Q I rx ry h;obtain ⟨i,j,rfl,rfl,q⟩:=h;obtain ⟨t,rfl⟩:=rx;obtain ⟨t',rfl⟩:=ry;exact rule i j t t' s _ _ ⟨.bl (g i j),H,I,rfl,q⟩
noncomputable def CDiv (i j:Int):Prop:=0 < j∧j < 1073741824
noncomputable def CMul (i j:Int):Prop:=(-(2 ^ 64) < i∧i < 2 ^ 64)∨(-(2 ^ 64) < j∧j < 2 ^ 64)
theorem CMul.ok {i j:Int} (h:CMul i j):IntMulOk i j:=by
 rcases h with ⟨h1,h2⟩ | ⟨h1,h2⟩
 ·exact .of_left (intBits_le_64 h1 h2)
 ·exact .of_right (intBits_le_64 h1 h2)
theorem op_add:OpR X (binaryOp .Add) (rI0 fun i j=>.int (i+j)):=Kk fun _ _ _ _ _ _ _ q=>add_int q
theorem Ej:OpR X (binaryOp .Sub) (rI0 fun i j=>.int (i - j)):=Kk fun _ _ _ _ _ _ _ q=>sub_int q
theorem IK:OpR X (binaryOp .Mult) (rI CMul fun i j=>.int (i*j)):=opI fun _ _ _ _ _ _ _ hc q=>mul_int q hc.ok
theorem Gv:OpR X (binaryOp .FloorDiv) (rI CDiv fun i j=>.int (i / j)):=opI fun i j _ _ _ _ _ hc q=>by
 have h1:(0:Int) < j:=hc.1;have h2:j < 1073741824:=hc.2;exact floordiv_int (by omega) (by rw [Int.fdiv_eq_ediv_of_nonneg i (by omega)]; exact q) (.inl (PyProof.noPylong_small (by omega)))
theorem IL:OpR X (binaryOp .Mod) (rI (fun _ j=>0 < j) fun i j=>.int (i % j)):=opI fun i j _ _ _ _ _ hc q=>by
 have h1:(0:Int) < j:=hc;exact mod_int' (by omega) (by rw [Int.fmod_eq_emod_of_nonneg i (by omega)]; exact q)
theorem unI {f:Value→Sem Value} {g:Int→Int}
  (rule:∀ (i:Int) (t:Tok) (s:Shared) (Q:Value→Shared→Prop) (E:Value→Shared→Prop),Q (.int (g i) s.toks) { s with toks:=s.toks+1 }→wpAny (model X.prog X.w) X.A (f (.int i t)) Q E s) :
  UnR X f (rU fun i=>.int (g i)):=by
 intro pins s σ H x v Q I rx h;obtain ⟨i,rfl,q⟩:=h;obtain ⟨t,rfl⟩:=rx;exact rule i t s _ _ ⟨.int (g i),H,I.tok _,⟨_,rfl⟩,q⟩
theorem HY:UnR X (unaryOp .USub) (rU fun i=>.int (-i)):=unI fun _ _ _ _ _ q=>neg_int q
end
section
variable {X:Cx} {a b c:Expr} {ta tb tc:TE} {pos:Pos}
theorem Bw {pins:List (Addr×Obj)} {σ:St} {H:Hp} {s:Shared} {Q:VK} {k k':Bool} (I:Inv X pins σ H s) (q:Q (.bl k) H) (e:k=k'):EP X pins σ Q (.bool k') s:=by
 subst e;exact ⟨.bl k,H,I,rfl,q⟩
theorem Cj:OpR X (compareOp .Lt) (rI0 fun i j=>.bl (decide (i < j))):=IM fun _ _ _ _ _ _ _ q=>lt_int q
theorem yj:OpR X (compareOp .LtE) (rI0 fun i j=>.bl (decide (i≤j))):=IM fun _ _ _ _ _ _ _ q=>le_int q
theorem Kj:OpR X (compareOp .Gt) (rI0 fun i j=>.bl (decide (j < i))):=IM fun _ _ _ _ _ _ _ q=>gt_int q
theorem C6:OpR X (compareOp .In) (fun x y H Q=>∃ i j,x=.str i∧y=.str j∧Q (.bl (!(Builtin.Str.occurrences j i 0 j.length 1).isEmpty)) H):=by
 intro pins s σ H x y v u Q I rx ry h;obtain ⟨i,j,rfl,rfl,q⟩:=h;obtain ⟨t,rfl⟩:=rx;obtain ⟨t',rfl⟩:=ry;exact in_str (Bw I q rfl)
theorem El:OpR X (compareOp .Is) (fun x y H Q=>y=.non∧Q (.bl (decide (x=.non))) H):=by
 intro pins s σ H x y v u Q I rx ry h;obtain ⟨rfl,q⟩:=h;cases ry;refine is_none_gen (Bw I q ?_);cases x <;> first
  | (cases rx; rfl)
  | (obtain ⟨t,rfl⟩:=rx; rfl)
theorem yR:OpR X (compareOp .IsNot) (fun x y H Q=>y=.non∧Q (.bl (!decide (x=.non))) H):=by
 intro pins s σ H x y v u Q I rx ry h;obtain ⟨rfl,q⟩:=h;cases ry;refine isnot_none_gen (Bw I q ?_);cases x <;> first
  | (cases rx; rfl)
  | (obtain ⟨t,rfl⟩:=rx; rfl)
theorem OpR.or {f:Value→Value→Sem Value} {r r':R2} (h:OpR X f r) (h':OpR X f r'):OpR X f (fun x y H Q=>r x y H Q∨r' x y H Q):=by
 intro pins s σ H x y v u Q I rx ry q;rcases q with q | q
 ·exact h pins s σ H x y v u Q I rx ry q
 ·exact h' pins s σ H x y v u Q I rx ry q
theorem nomark (b:Expr) {op:CmpOp} (h:op≠.In:=by decide) (h2:op≠.NotIn:=by decide):behindInMarks op b=false:=by
 have e1:(op==CmpOp.In)=false:=by cases op <;> first | rfl | exact absurd rfl h
 have e2:(op==CmpOp.NotIn)=false:=by cases op <;> first | rfl | exact absurd rfl h2
 cases b <;> simp [behindInMarks,e1,e2]
theorem B7 {op:CmpOp} {r:R2} (ho:OpR X (compareOp op) r) (ha:PE X a ta) (hb:PE X b tb) (hm:behindInMarks op b=false):PE X (.Compare a [op] [b] pos) (tOp r ta tb):=by
 intro pins s σ H Q I h;exact wpAny_Compare1 (Jo ha hb I h fun v u s2 x y H2 I2 rx ry q=>ho pins s2 σ H2 x y v u Q I2 rx ry q) hm
noncomputable def Hk (t:TE):TT:=fun σ H Q=>t σ H fun x H'=>∃ k,x=.bl k∧Q k H'
theorem B1 {op:CmpOp} {r:R2} (ho:OpR X (compareOp op) r) (ha:PE X a ta) (hb:PE X b tb) (hm:behindInMarks op b=false):PT X (.Compare a [op] [b] pos) (Hk (tOp r ta tb)):=by
 intro pins s σ H Q I h;refine wpAny_isTrue_Compare1 (thn (ha pins s σ H _ I h) fun v s1 ⟨x,H1,I1,r1,q1⟩=>thn (hb pins s1 σ H1 _ I1 q1) fun u s2 ⟨y,H2,I2,r2,q2⟩ =>
  thn (ho pins s2 σ H2 x y v u _ I2 r1 r2 q2) fun c s3 ⟨z,H3,I3,r3,k,e,q3⟩=>?_) hm
 subst e;cases r3;exact wpAny_truthy_bool ⟨H3,I3,q3⟩
noncomputable def DB (r r':R2) (ta tb tc:TE):TE:=fun σ H Q=>ta σ H fun x H1=>tb σ H1 fun y H2=>r x y H2 fun z H3=>∃ k,z=.bl k ∧
 (if k=true then tc σ H3 fun w' H4=>r' y w' H4 Q else Q (.bl false) H3)
theorem Eb {op op':CmpOp} {r r':R2} (ho:OpR X (compareOp op) r) (ho':OpR X (compareOp op') r') (ha:PE X a ta) (hb:PE X b tb) (hc:PE X c tc)
  (hm:lastMarks [op,op'] [b,c]=false:=by with_unfolding_all rfl):PE X (.Compare a [op,op'] [b,c] pos) (DB r r' ta tb tc):=by
 intro pins s σ H Q I h;refine Compare_chain (thn (ha pins s σ H _ I h) fun v s1 ⟨x,H1,I1,r1,q1⟩=>chain_link (thn (hb pins s1 σ H1 _ I1 q1) fun u s2 ⟨y,H2,I2,r2,q2⟩ =>
  thn (ho pins s2 σ H2 x y v u _ I2 r1 r2 q2) fun d s3 ⟨z,H3,I3,r3,k,e,q3⟩=>?_)) hm
 subst e;cases r3;refine wpAny_truthy_bool ?_;cases k with
 | false=>exact ite_ff ⟨.bl false,H3,I3,rfl,q3⟩
 | true=>exact ite_tt (chain_last (thn (hc pins s3 σ H3 _ I3 q3) fun w' s4 ⟨z',H4,I4,r4,q4⟩=>ho' pins s4 σ H4 y z' u w' Q I4 r2 r4 q4))
theorem zX {op op':CmpOp} {r r':R2} (ho:OpR X (compareOp op) r) (ho':OpR X (compareOp op') r') (ha:PE X a ta) (hb:PE X b tb) (hc:PE X c tc)
  (hm:lastMarks [op,op'] [b,c]=false:=by with_unfolding_all rfl):PT X (.Compare a [op,op'] [b,c] pos) (Hk (DB r r' ta tb tc)):=by
 intro pins s σ H Q I h;refine isTrue_chain (thn (ha pins s σ H _ I h) fun v s1 ⟨x,H1,I1,r1,q1⟩=>test_link (thn (hb pins s1 σ H1 _ I1 q1) fun u s2 ⟨y,H2,I2,r2,q2⟩ =>
  thn (ho pins s2 σ H2 x y v u _ I2 r1 r2 q2) fun d s3 ⟨z,H3,I3,r3,k,e,q3⟩=>?_)) hm
 subst e;cases r3;refine wpAny_truthy_bool ?_;cases k with
 | false =>
  obtain ⟨k',e',q'⟩:=q3;cases e';exact ite_ff ⟨H3,I3,q'⟩
 | true =>
  refine ite_tt (test_last (thn (hc pins s3 σ H3 _ I3 q3) fun w' s4 ⟨z',H4,I4,r4,q4⟩=>thn (ho' pins s4 σ H4 y z' u w' _ I4 r2 r4 q4) fun d' s5 ⟨z2,H5,I5,r5,k2,e2,q5⟩=>?_));subst e2;cases r5;exact wpAny_truthy_bool ⟨H5,I5,q5⟩
noncomputable def JB (K:LN) (x:V) (H:Hp) (k:Bool):Prop :=
 match x with
 | .non=>k=false
 | .bl b=>k=b
 | .int i=>k=(i != 0)
 | .str y=>y.length≤sizeLine∧k=((y.length:Int) != 0)
 | .byt y=>y.size≤sizeLine∧k=((y.size:Int) != 0)
 | .ref p=>(∃ xs,SqL K H p xs∧k=!xs.isEmpty)∨(∃ xs,SqT K H p xs∧k=!xs.isEmpty)∨∃ kvs,H p=some (.dK kvs)∧k=!kvs.isEmpty
 | _=>False
theorem Bq {κ:Type} {kvs:List (κ×V)} {vs:List (κ×Value)} (r:KV kvs vs):(!vs.isEmpty)=!kvs.isEmpty:=by
 cases r <;> rfl
theorem xc {xs:List V} {its:List Value} (r:Vals xs its):(!its.toArray.isEmpty)=!xs.isEmpty:=by
 cases r <;> simp
theorem uW:(sizeLine:Nat) < 2 ^ 63:=by rw [sizeLine_eq]; decide
theorem Ib:LF X (fun x H Q=>∃ k,JB X.K x H k∧Q k H):=by
 intro pins s σ H x v Q I rx h;obtain ⟨k,e,q⟩:=h;have hl:=uW;have hs:sizeLine=16777216:=sizeLine_eq;cases x with
 | non =>
  cases rx;have e':k=false:=e;subst e';exact truthy_none ⟨H,I,q⟩
 | bl b =>
  cases rx;have e':k=b:=e;subst e';exact wpAny_truthy_bool ⟨H,I,q⟩
 | int i =>
  obtain ⟨t,rfl⟩:=rx;have e':k=(i != 0):=e;subst e';exact PySem.P.truthy_int ⟨H,I,q⟩
 | str y =>
  obtain ⟨t,rfl⟩:=rx;obtain ⟨hy,e'⟩:y.length≤sizeLine∧k=((y.length:Int) != 0):=e;subst e';exact PySem.P.truthy_str (by omega) ⟨H,I.tok _,q⟩
 | byt y =>
  obtain ⟨t,rfl⟩:=rx;obtain ⟨hy,e'⟩:y.size≤sizeLine∧k=((y.size:Int) != 0):=e;subst e';exact PySem.W.truthy_bytes (by omega) ⟨H,I.tok _,q⟩
 | ref p =>
  cases rx;have e':(∃ xs,SqL X.K H p xs∧k=!xs.isEmpty)∨(∃ xs,SqT X.K H p xs∧k=!xs.isEmpty)∨∃ kvs,H p=some (.dK kvs)∧k=!kvs.isEmpty:=e;rcases e' with ⟨xs,hx,e'⟩ | ⟨xs,hx,e'⟩ | ⟨kvs,hx,e'⟩
  ·subst e';obtain ⟨its,r,pl,hz⟩:=I.list hx;have hlen:=r.length;exact wpAny_truthy_list pl.isList (by simp only [LZ]; omega) ⟨H,I.tok _,by rw [xc r]; exact q⟩
  ·subst e';obtain ⟨its,r,pl,hz⟩:=I.tuple hx;have hlen:=r.length;exact truthy_tuple pl (by simp only [LZ]; omega) ⟨H,I.tok _,by rw [xc r]; exact q⟩
  ·subst e';obtain ⟨hz,hS,vs,r,m⟩:kvs.length≤sizeLine∧(p==sysModules)=false∧∃ vs,KV kvs vs∧s.heap.DictOf (eM X.prog X.w) p vs:=I.hok p _ hx;have hlen:kvs.length=vs.length:=Paired.length r;exact wpAny_truthy_dict hS m (by omega) ⟨H,I.tok _,by rw [Bq r]; exact q⟩
 | _=>exact (show False from e).elim
theorem DU (ha:PE X a ta) (he:∀ whole,isTrue a X.env whole=(do let v ← whole; standAt a.pos; holding [v] (truthy v))) :
  PT X a (fun σ H Q=>ta σ H fun x H'=>∃ k,JB X.K x H' k∧Q k H'):=by
 intro pins s σ H Q I h;exact isTrue_plain (thn (ha pins s σ H _ I h) fun v s1 ⟨x,H1,I1,r1,q1⟩=>Ib pins s1 σ H1 x v Q I1 r1 q1) (he _)
theorem op_add_str:OpR X (binaryOp .Add) (fun x y H Q=>∃ i j,x=.str i∧y=.str j∧i.length+j.length≤sizeLine∧Q (.str (i++j)) H):=by
 intro pins s σ H x y v u Q I rx ry h;obtain ⟨i,j,rfl,rfl,hz,q⟩:=h;obtain ⟨t,rfl⟩:=rx;obtain ⟨t',rfl⟩:=ry;exact add_str (fun t' tk=>⟨.str (i++j),H,I.tok _,⟨_,rfl⟩,q⟩) hz
theorem pQ {x:V} {us:List Value} (r:Vals [x] us):∃ u,us=[u]∧RelV x u:=by
 cases r with
 | cons r1 r2=>cases r2; exact ⟨_,rfl,r1⟩
theorem Dw {x y:V} {us:List Value} (r:Vals [x,y] us):∃ u w',us=[u,w']∧RelV x u∧RelV y w':=by
 cases r with
 | cons r1 r2 =>
  cases r2 with
  | cons r3 r4=>cases r4; exact ⟨_,_,rfl,r1,r3⟩
theorem Dp (hc:X.calm=true):CallR X (.builtin "max") (fun xs H Q=>∃ i j,xs=[.int i,.int j]∧Q (.int (if j > i then j else i)) H):=by
 intro pins s σ H xs us Q I r h;obtain ⟨i,j,rfl,q⟩:=h;obtain ⟨u,w',rfl,⟨t,rfl⟩,⟨t',rfl⟩⟩:=Dw r;refine max_two_ints (I.ok.hd hc) fun h' tk k=>⟨_,H,I.kept k,?_,q⟩;by_cases hj:j > i
 ·rw [if_pos hj,if_pos hj]; exact ⟨_,rfl⟩
 ·rw [if_neg hj,if_neg hj]; exact ⟨_,rfl⟩
theorem Do (hc:X.calm=true):CallR X (.builtin "min") (fun xs H Q=>∃ i j,xs=[.int i,.int j]∧Q (.int (if j < i then j else i)) H):=by
 intro pins s σ H xs us Q I r h;obtain ⟨i,j,rfl,q⟩:=h;obtain ⟨u,w',rfl,⟨t,rfl⟩,⟨t',rfl⟩⟩:=Dw r;refine min_two_ints (I.ok.hd hc) fun h' tk k=>⟨_,H,I.kept k,?_,q⟩;by_cases hj:j < i
 ·rw [if_pos hj,if_pos hj]; exact ⟨_,rfl⟩
 ·rw [if_neg hj,if_neg hj]; exact ⟨_,rfl⟩
theorem yt:CallR X (.type "int") (fun xs H Q=>(∃ i,xs=[.int i]∧Q (.int i) H)∨∃ k,xs=[.bl k]∧Q (.int (if k then 1 else 0)) H):=by
 intro pins s σ H xs us Q I r h;rcases h with ⟨i,rfl,q⟩ | ⟨k,rfl,q⟩
 ·obtain ⟨u,rfl,t,rfl⟩:=pQ r;exact call_int_int ⟨.int i,H,I,⟨_,rfl⟩,q⟩
 ·obtain ⟨u,rfl,r1⟩:=pQ r;cases r1;exact call_int_bool ⟨.int (if k then 1 else 0),H,I.tok _,⟨_,rfl⟩,q⟩
end
structure ObjM (h:Heap) (x dx C:Addr) (mA:Str→Option Value):Prop where
 obj:h.get? x=some (MO C dx)
 ns:h.Ns1 dx mA
 ne:dx≠x
theorem Dd {h:Heap} {dx:Addr} {mA:Str→Option Value} (n:h.Ns1 dx mA):∃ od,h.get? dx=some od∧∀ name,Ny name od=some (mA name):=by
 obtain ⟨o,es,ep,ho,hd,hk,_,hm⟩:=n;refine ⟨o,ho,fun name=>?_⟩;have e:=hm name;unfold nsFind findBy at e;rw [← Array.find?_toList] at e;unfold Ny;rw [hd];dsimp only
 split
 ·rename_i y q;rw [q] at e;exact congrArg some e
 ·rename_i q;rw [q] at e;have a:es.toList.any (·.refKey)=false:=by
   rw [List.any_eq_false];intro y hy;obtain ⟨z,t,hkey⟩:=hk y (Array.mem_toList_iff.mp hy);simp [DictEntry.refKey,hkey]
  have a':¬ es.toList.any (·.refKey)=true:=by rw [a]; exact LU
  rw [if_neg a'];exact congrArg some e
theorem ObjM.look {h:Heap} {x dx C:Addr} {mA:Str→Option Value} (I:ObjM h x dx C mA):∃ od,PySem.W.InstAt h x (MO C dx) C (some od)∧∀ name,Ny name od=some (mA name) :=
 let ⟨od,ho,hl⟩:=Dd I.ns
 ⟨od,⟨I.obj,rfl,rfl,ho⟩,hl⟩
section
variable {prog:Program} {w:World} {A:Around} {E:Value→Shared→Prop} {s:Shared} {K:LN} {x dx C f:Addr} {mA:Str→Option Value} {name:Str} {v:Value}
theorem GR {expr:Bool} {Q:Value→Shared→Prop} (X:K.In s.heap) (I:ObjM s.heap x dx C mA) (hg:Np K C name=true) (hh:PySem.W.hasDictIn K C=true)
  (ha:MD K (.ref C) name=some none) (hv:mA name=some v) (hv':PySem.W.handedIn v=true) (h:Q v { s with toks:=s.toks+1 }) :
  wpAny (model prog w) A (getAttr (.ref x) name expr) Q E s:=by
 obtain ⟨od,J,hl⟩:=I.look;exact PySem.W.get_value X J (Nz hg).1 (PySem.W.findObj_own hh ha rfl (by rw [hl,hv])) hv' h
theorem EX {pl:Sem Bool} {Q:Value×List Value→Shared→Prop} (X:K.In s.heap) (I:ObjM s.heap x dx C mA) (hg:Np K C name=true)
  (hf:MD K (.ref C) name=some (some (.ref f))) (ht:PySem.W.isFn K (.ref f)=true) (hv:mA name=none) (h:Q (.ref f,[.ref x]) s) :
  wpAny (model prog w) A (getMethod (.ref x) name pl) Q E s:=by
 obtain ⟨od,J,hl⟩:=I.look;exact PySem.W.method_fn X J (Nz hg).1 (Nz hg).2 hf (beq_iff_eq.mp ht) (by show (Ny name od).map (·.isSome)=some false; rw [hl,hv]; rfl) h
theorem FZ {ns:List Str} {Q:Unit→Shared→Prop} (X:K.In s.heap) (I:ObjM s.heap x dx C mA)
  (hs:MD K (.ref C) "__setattr__" = some (some (.builtin "object.__setattr__"))) (hp:PySem.W.plainOver K C=true) (ht:PySem.W.takerIn K C name=some none) (hh:PySem.W.hasDictIn K C=true)
  (hw:PySem.Within mA ns) (hsz:ns.length≤sizeLine)
  (h:∀ h',ObjM h' x dx C (fun y=>if y=name then some v else mA y)→Heap.SameBut dx s.heap h'→Q () { s with heap:=h',toks:=s.toks+2 }) :
  wpAny (model prog w) A (setAttr (.ref x) name v) Q E s:=by
 obtain ⟨od,J,hl⟩:=I.look;refine PySem.W.set_plain X J hs (PySem.W.osa_open (s:={ s with toks:=s.toks+1 }) (r:=none) X J hp ht fun b=>?_);obtain ⟨cd,hc,hd'⟩:=PySem.W.any_some hh;have hx:s.heap.get? x=some ⟨.ref C,some dx,.plain,#[]⟩:=I.obj;refine wpAny_bind (wpAny_pure (wpAny_bind (wpAny_bind (wpAny_loadPart hx (wpAny_bind (PySem.W.Looks.here (s:={ s with toks:=s.toks+1 }) (PySem.W.looks_clsIn X hc) ?_))))));rw [hd'];refine wpAny_pure (a:=some dx) (wpAny_bind (wpAny_pure (wpAny_bind ?_)));refine wpAny_nsSet1 (s:={ s with toks:=s.toks+1 }) I.ns fun h' hn2 hs2=>?_;obtain ⟨oD,esD,epD,hoD,hdD,hcD⟩:=hn2.count (PySem.Within.cons name v hw);refine wpAny_bind (wpAny_lookBehind hoD (by rw [hdD]; exact pastItsLine_dict (L9 hcD (by rw [L1]; omega))) ?_);exact wpAny_pure (h _ ⟨(hs2.2 _ (Ne.symm I.ne)).trans I.obj,hn2,I.ne⟩ hs2)
theorem Eu {R:Result→Shared→Prop} {vs:List Value} {kw:List (Str×Value)} (X:K.In s.heap) (hm:PySem.W.makesIn K C=true)
  (hi:MD K (.ref C) "__init__" = some (some (.ref f))) (hf:PySem.W.typeIn K (.ref f)=some (.type "function"))
  (h:codeAny (model prog w) (A.under (.builtin "type.__call__" ⟨.ref C::vs,kw⟩)) (.call (.ref f) ⟨.ref (s.heap.objs.size+1)::vs,kw⟩) (PySem.W.InitBack (s.heap.objs.size+1) R)
   { s with heap:=(s.heap.push MC).push (MO C s.heap.objs.size) }) :
  codeAny (model prog w) A (.call (.ref C) ⟨vs,kw⟩) R s:=by
 obtain ⟨hh,g,d,t,os⟩:=s;exact PySem.W.make_core (PySem.W.makes_of X hm) (PySem.W.looks_findIn X hi) (fun self=>PySem.W.bind_fn X self hf) (.inl rfl) h
end
noncomputable def qi (f:Str) (v:V):List (Str×V)→List (Str×V)
 | []=>[(f,v)]
 | (g,x)::r=>if g=f then (g,v)::r else (g,x)::qi f v r
theorem vB (f g:Str) (v:V):∀ fs:List (Str×V),(qi f v fs).lookup g=if g=f then some v else fs.lookup g
 | []=>by
  show M7 g [(f,v)]=_;by_cases h:g=f
  ·have hb:(g==f)=true:=beq_iff_eq.mpr h;simp only [M7,hb,if_pos h]
  ·have hb:(g==f)=false:=beq_eq_false_iff_ne.mpr h;simp only [M7,hb,if_neg h]
 | (k,x)::r=>by
  have ih:=vB f g v r;rw [show qi f v ((k,x)::r)=(if k=f then (k,v)::r else (k,x)::qi f v r) from rfl];by_cases hk:k=f
  ·rw [if_pos hk];by_cases h:g=k
   ·have hb:(g==k)=true:=beq_iff_eq.mpr h;simp only [M7,hb,if_pos (h.trans hk)]
   ·have hb:(g==k)=false:=beq_eq_false_iff_ne.mpr h;simp only [M7,hb,if_neg (fun e:g=f=>h (e.trans hk.symm))]
  ·rw [if_neg hk];by_cases h:g=k
   ·have hb:(g==k)=true:=beq_iff_eq.mpr h;simp only [M7,hb,if_neg (fun e:g=f=>hk (h.symm.trans e))]
   ·have hb:(g==k)=false:=beq_eq_false_iff_ne.mpr h;simp only [M7,hb];exact ih
theorem uX (f:Str) (v:V):∀ fs:List (Str×V),f∈(qi f v fs).map (·.1)∧∀ g,g∈fs.map (·.1)→g∈(qi f v fs).map (·.1)
 | []=>⟨by simp [qi],fun g h=>by simp at h⟩
 | (k,x)::r=>by
  obtain ⟨i1,i2⟩:=uX f v r;rw [show qi f v ((k,x)::r)=(if k=f then (k,v)::r else (k,x)::qi f v r) from rfl];by_cases hk:k=f
  ·rw [if_pos hk];subst hk;exact ⟨by simp,fun g h=>by simpa using h⟩
  ·rw [if_neg hk];refine ⟨?_,fun g h=>?_⟩
   ·rw [LW];exact LX _ i1
   ·rw [LW] at h ⊢;rcases Mb.mp h with e | e
    ·exact Mb.mpr (.inl e)
    ·exact LX _ (i2 g e)
theorem vD (f:Str) (v:V):∀ fs:List (Str×V),(qi f v fs).length≤fs.length+1
 | []=>by simp [qi]
 | (k,x)::r=>by
  have ih:=vD f v r;rw [show qi f v ((k,x)::r)=(if k=f then (k,v)::r else (k,x)::qi f v r) from rfl];by_cases hk:k=f
  ·rw [if_pos hk,L1,L1]; omega
  ·rw [if_neg hk,L1,L1]; omega
theorem RelO.some_of {v:V} {o:Option Value} (r:RelO (some v) o):∃ u,o=some u∧RelV v u:=by
 cases o with
 | none=>exact (show False from r).elim
 | some u=>exact ⟨u,rfl,r⟩
theorem RelO.none_of {o:Option Value} (r:RelO none o):o=none:=by
 cases o with
 | none=>rfl
 | some u=>exact (show False from r).elim
theorem Dk {v:V} {u:Value} (r:RelV v u):PySem.W.handedIn u=true:=by
 cases v with
 | non=>cases (show u=Value.none from r); rfl
 | bl b=>cases (show u=Value.bool b from r); rfl
 | int i=>obtain ⟨t,e⟩:=(show ∃ t,u=Value.int i t from r); cases e; rfl
 | str x=>obtain ⟨t,e⟩:=(show ∃ t,u=Value.str x t from r); cases e; rfl
 | byt b=>obtain ⟨t,e⟩:=(show ∃ t,u=Value.bytes b t from r); cases e; rfl
 | flt b=>obtain ⟨t,e⟩:=(show ∃ t,u=Value.float b t from r); cases e; rfl
 | ref a=>cases (show u=Value.ref a from r); rfl
 | ty n=>cases (show u=Value.type n from r); rfl
section
variable {P:Program} {w:World} {H H':Hp} {h h':Heap} {a C dx:Addr} {fs fs':List (Str×V)}
theorem za (hok:HOk P w H h) (e:H a=some (.ins C dx fs)):∃ mA,ObjM h a dx C mA∧(∀ f,RelO (fs.lookup f) (mA f))∧PySem.Within mA (fs.map (·.1))∧fs.length≤1000∧H dx=some (.own a):=by
 obtain ⟨d,z,ne,ob,mA,n,r,q⟩:=(show ObjOk P w H h a (.ins C dx fs) from hok a _ e);exact ⟨mA,⟨ob,n,ne⟩,r,q,z,d⟩
end
structure Cls (K:LN) (C:Addr):Prop where
 pg:Np K C Str.empty=true
 hd:PySem.W.hasDictIn K C=true
 po:PySem.W.plainOver K C=true
 sa:MD K (.ref C) "__setattr__" = some (some (.builtin "object.__setattr__"))
theorem Cls.get {K:LN} {C:Addr} (c:Cls K C) (f:Str):Np K C f=true:=c.pg
noncomputable def NoAttr (K:LN) (C:Addr) (f:Str):Prop:=MD K (.ref C) f=some none
theorem NoAttr.taker {K:LN} {C:Addr} {f:Str} (n:NoAttr K C f):PySem.W.takerIn K C f=some none:=by
 unfold PySem.W.takerIn;rw [show MD K (.ref C) f=some none from n];rfl
structure Con (K:LN) (C:Addr) (f:Str) (v:V) (u:Value):Prop where
 at_:MD K (.ref C) f=some (some u)
 rel:RelV v u
 get:PySem.W.specialIn K u "__get__" = some none
 cp:PySem.W.copiedNames.contains f=false
structure Meth (K:LN) (C:Addr) (m:Str) (f:Addr):Prop where
 at_:MD K (.ref C) m=some (some (.ref f))
 fn:PySem.W.isFn K (.ref f)=true
 kp:MM K (.ref f)=true
section
variable {X:Cx} {pins:List (Addr×Obj)} {σ:St} {H:Hp} {s:Shared} {a C dx:Addr} {fs:List (Str×V)} {f:Str} {v:V} {A:Around} {E:Value→Shared→Prop}
theorem Bv {b:Bool} {Q:Value→Shared→Prop} (I:Inv X pins σ H s) (e:H a=some (.ins C dx fs)) (c:Cls X.K C) (n:NoAttr X.K C f) (l:fs.lookup f=some v)
  (h:∀ u s',Inv X pins σ H s'→RelV v u→Q u s'):wpAny (model X.prog X.w) A (getAttr (.ref a) f b) Q E s:=by
 obtain ⟨mA,O,r,_,_,_⟩:=za I.hok e;obtain ⟨u,hu,ru⟩:=RelO.some_of (v:=v) (o:=mA f) (by rw [← l]; exact r f);exact GR I.kIn O (c.get f) c.hd n hu (Dk ru) (h u _ (I.tok _) ru)
theorem Bu {m:Str} {g:Addr} {pl:Sem Bool} {Q:Value×List Value→Shared→Prop} (I:Inv X pins σ H s) (e:H a=some (.ins C dx fs)) (c:Cls X.K C) (k:Meth X.K C m g) (l:fs.lookup m=none)
  (h:Q (.ref g,[.ref a]) s):wpAny (model X.prog X.w) A (getMethod (.ref a) m pl) Q E s:=by
 obtain ⟨mA,O,r,_,_,_⟩:=za I.hok e;have hn:mA m=none:=RelO.none_of (by rw [← l]; exact r m);exact EX I.kIn O (c.get m) k.at_ k.fn hn h
theorem A8 {y:V} {u:Value} {Q:Unit→Shared→Prop} (I:Inv X pins σ H s) (e:H a=some (.ins C dx fs)) (c:Cls X.K C) (n:NoAttr X.K C f) (hl:fs.length < 1000) (ry:RelV y u)
  (h:∀ s',Inv X pins σ (upd H a (.ins C dx (qi f y fs))) s'→Q () s'):wpAny (model X.prog X.w) A (setAttr (.ref a) f u) Q E s:=by
 obtain ⟨mA,O,r,wi,_,ho⟩:=za I.hok e;have hz:(fs.map (·.1)).length≤sizeLine:=by rw [LO,sizeLine_eq]; omega
 refine FZ I.kIn O c.sa c.po n.taker c.hd wi hz fun h' O' sb=>h _ ?_;have hd:∃ o,h'.get? dx=some o:=let ⟨o,_,_,e',_⟩:=O'.ns; ⟨o,e'⟩;refine I.write (x:=a) (e:=dx) (by rw [e]; exact True.intro) (.inr ho) (fun b q hb z=>(sb.2 b hb).trans z) hd ?_;refine ⟨by rw [aE O.ne]; exact ho,?_,O.ne,O'.obj,_,O'.ns,fun g=>?_,fun g hg=>?_⟩
 ·have:=vD f y fs; omega
 ·show RelO ((qi f y fs).lookup g) (if g=f then some u else mA g);rw [vB];by_cases q:g=f
  ·rw [if_pos q,if_pos q]; exact ry
  ·rw [if_neg q,if_neg q]; exact r g
 ·by_cases q:g=f
  ·rw [q]; exact (uX f y fs).1
  ·refine (uX f y fs).2 g (wi g fun z=>hg ?_);show (if g=f then some u else mA g)=none;rw [if_neg q]; exact z
theorem Inv.made (I:Inv X pins σ H s):Inv X pins σ (upd (upd H s.heap.objs.size (.own (s.heap.objs.size+1))) (s.heap.objs.size+1) (.ins C s.heap.objs.size []))
  { s with heap:=(s.heap.push MC).push (MO C s.heap.objs.size) }:=by
 have e1:(s.heap.push MC).get? s.heap.objs.size=some MC:=Heap.get?_push_size s.heap rfl;have e2:((s.heap.push MC).push (MO C s.heap.objs.size)).get? (s.heap.objs.size+1)=some (MO C s.heap.objs.size):=by
  have:=Heap.get?_push_size (s.heap.push MC) (o:=MO C s.heap.objs.size) rfl
  rwa [Heap.size_push] at this
 have e3:(s.heap.push MC).Ns s.heap.objs.size (fun _=>none):=⟨MC,#[],_,e1,rfl,(fun e he=>absurd he (by simp)),fun _=>rfl⟩;have I1:=I.laid (a:=s.heap.objs.size) (o:=.own (s.heap.objs.size+1)) (h':=s.heap.push MC) (t':=s.toks) (fun b u q=>Heap.get?_push_of_some _ q) (LS _) ⟨_,e1⟩;refine I1.laid (a:=s.heap.objs.size+1) (o:=.ins C s.heap.objs.size []) (t':=s.toks) (fun b u q=>Heap.get?_push_of_some _ q) (Nat.le_of_eq (Heap.size_push _ _)) ?_;have ne:s.heap.objs.size≠s.heap.objs.size+1:=Mg (MW _);refine ⟨by rw [aE ne,aD],Mz _,ne,e2,fun _=>none,(Heap.Ns1.of_empty e3).at fun o q=>Heap.get?_push_of_some _ q,fun _=>True.intro,fun y hy=>absurd rfl hy⟩
theorem G5 {prog:Program} {w:World} {env:Env} {e:Expr} {f:Str} {pos:Pos} {s:Shared} {Q:Value→Shared→Prop} (hb:attributeBase e f env (eval e env)=eval e env)
  (h:wpAny (model prog w) A (eval e env) (fun o s₁=>wpAny (model prog w) A (getAttr o f true) Q E s₁) E s):wpAny (model prog w) A (eval (.Attribute e f pos) env) Q E s :=
 Attribute_any_ h (by rw [arm_eval_Attribute,hb])
end
noncomputable def La (K:LN) (ta:TE) (f:Str):TE:=fun σ H Q=>ta σ H fun x H1=>∃ a C dx fs v,x=.ref a∧H1 a=some (.ins C dx fs)∧Cls K C∧NoAttr K C f∧fs.lookup f=some v∧Q v H1
noncomputable def Le (K:LN) (ta tv:TE) (f:Str):TS:=fun D σ H=>tv σ H fun y H1=>ta σ H1 fun x H2=>∃ a C dx fs,x=.ref a∧H2 a=some (.ins C dx fs)∧Cls K C∧NoAttr K C f∧fs.length < 1000 ∧
 D.nx σ (upd H2 a (.ins C dx (qi f y fs)))
section
variable {X:Cx} {o e value:Expr} {f:Str} {pos pos' tpos:Pos} {ta tv:TE}
theorem D9 (he:PE X e ta) (hb:attributeBase e f X.env (eval e X.env)=eval e X.env):PE X (.Attribute e f pos) (La X.K ta f):=by
 intro pins s σ H Q I h;refine G5 hb (thn (he pins s σ H _ I h) fun u s1 ⟨x,H1,I1,rx,a,C,dx,fs,v,ex,ea,c,n,l,q⟩=>?_);subst ex;obtain rfl:u=Value.ref a:=rx;exact Bv I1 ea c n l fun u' s2 I2 ru=>⟨v,H1,I2,ru,q⟩
theorem IA (ha:PE X o ta) (hv:PE X value tv) (hs:swapsWith value (some (.Attribute o f pos')) pos.line X.env=pure false):PS X (.Assign [.Attribute o f pos'] value pos) (Le X.K ta tv f):=by
 intro pins s σ H D I h;refine plainObj_wpAny_Assign_Attribute (thn (hv pins s σ H _ I h) fun u s1 ⟨y,H1,I1,ry,q⟩=>thn (ha pins s1 σ H1 _ I1 q) fun ov s2 ⟨x,H2,I2,rx,a,C,dx,fs,ex,ea,c,n,l,q2⟩=>?_) hs;subst ex;obtain rfl:ov=Value.ref a:=rx;exact A8 I2 ea c n l ry fun s3 I3=>⟨σ,_,I3,q2⟩
end
section
variable {X:Cx} {pins:List (Addr×Obj)} {σ:St} {H:Hp} {s:Shared} {A:Around} {E:Value→Shared→Prop} {Q:Value→Shared→Prop} {c:Value} {b:Bool}
inductive xx (K:LN) (H:Hp):V→Value→Prop where
 | non:xx K H .non (.type "NoneType")
 | bl (x:Bool):xx K H (.bl x) (.type "bool")
 | int (i:Int):xx K H (.int i) (.type "int")
 | str (x:Str):xx K H (.str x) (.type "str")
 | flt (x:UInt64):xx K H (.flt x) (.type "float")
 | lst {a:Addr} {xs:List V} (e:H a=some (.lst xs)):xx K H (.ref a) (.type "list")
 | frz {a:Addr} {o:Obj} {xs:List V} (e:H a=some (.frz o (.lst xs))):xx K H (.ref a) (.type "list")
 | tup {a:Addr} {xs:List V} (e:H a=some (.tup xs)):xx K H (.ref a) (.type "tuple")
 | dK {a:Addr} {kvs:List (Key×V)} (e:H a=some (.dK kvs)):xx K H (.ref a) (.type "dict")
 | dT {a:Addr} {kvs:List (List Key×V)} (e:H a=some (.dT kvs)):xx K H (.ref a) (.type "dict")
 | ins {a C dx:Addr} {fs:List (Str×V)} (e:H a=some (.ins C dx fs)) (cl:Cls K C) (ha:MD K (.ref C) "__class__" = some (some (.builtin "object.__class__")))
   (hn:PySem.W.specialIn K (.builtin "object.__class__") "__get__" = some (some (.builtin "getset_descriptor.__get__"))) (htk:PySem.W.takesIn K (.builtin "object.__class__")=some true)
   (hm:PySem.W.mroIn K C (.type "object")=some true):xx K H (.ref a) (.ref C)
end
structure Room (k:Nat) (A:Around):Prop where
 hd:A.handled=none
 dp:A.depth+3*k+5 < recursionLimit
 un:A.units+16*k+200 < cLine
theorem Room.mono {j k:Nat} {A:Around} (r:Room k A) (h:j≤k):Room j A:=⟨r.hd,by have:=r.dp; omega,by have:=r.un; omega⟩
theorem Room.deeper {k:Nat} {A:Around} (r:Room (k+1) A) (env:Env):Room k (A.deeper env) :=
 ⟨r.hd,by have:=r.dp; show A.depth+1+3*k+5 < _; omega,by have:=r.un; show A.units+3+16*k+200 < _; omega⟩
theorem Bj {A:Around} {C:Addr} {us:List Value} {kw:List (Str×Value)}:(A.under (.builtin "type.__call__" ⟨.ref C::us,kw⟩)).depth=A.depth+1:=by
 first | rfl | simp [Around.under,Code.weight,Code.isCreation,Code.isGuard,Code.isCaller,Code.frames,Code.isFrame,guardIds]
theorem Bi {A:Around} {C:Addr} {us:List Value} {kw:List (Str×Value)}:(A.under (.builtin "type.__call__" ⟨.ref C::us,kw⟩)).units=A.units+1:=by
 first | rfl | simp [Around.under,Code.cUnits,Code.frames,Code.isFrame]
theorem Room.make {k:Nat} {A:Around} (r:Room (k+1) A) (C:Addr) (us:List Value) (kw:List (Str×Value)):Room k (A.under (.builtin "type.__call__" ⟨.ref C::us,kw⟩)) :=
 ⟨r.hd,by have:=r.dp; rw [Bj]; omega,by have:=r.un; rw [Bi]; omega⟩
theorem Room.depth {k:Nat} {A:Around} (r:Room k A):A.depth < recursionLimit:=by have:=r.dp; omega
theorem Room.units {k:Nat} {A:Around} (r:Room k A):A.units+64 < cLine:=by have:=r.un; omega
noncomputable def Ie:TA:=fun _ H Q=>Q [] H
noncomputable def JW (ta:TE) (tr:TA):TA:=fun σ H Q=>ta σ H fun x H1=>tr σ H1 fun xs H2=>Q (x::xs) H2
section
variable {X:Cx} {e:Expr} {es:List Expr} {te:TE} {t:TA} {pos:Pos}
theorem Ee:PA X [] Ie:=fun _ _ _ _ H Q I h=>Calls.spliced_nil ⟨[],H,I,.nil,h⟩
theorem Cc (ha:PE X e te) (hr:PA X es t) (hs:starEach (e::es) X.env=(false,eval e X.env)::starEach es X.env:=by rfl):PA X (e::es) (JW te t):=by
 intro pos pins s σ H Q I h;rw [hs];show wpAny _ _ (spliced ((false,eval e X.env)::backTo pos (starEach es X.env))) _ _ s;refine Calls.spliced_cons (thn (ha pins s σ H _ I h) fun u s1 ⟨x,H1,I1,r1,q1⟩=>?_);exact thn (hr pos pins s1 σ H1 _ I1 q1) fun us s2 ⟨xs,H2,I2,r2,q2⟩=>⟨x::xs,H2,I2,.cons r1 r2,q2⟩
noncomputable def K3 (t:TA):TE:=fun σ H Q=>t σ H fun xs H1=>xs.length≤sizeLine∧∀ p,H1 p=none→Q (.ref p) (upd H1 p (.tup xs))
noncomputable def K7 (t:TA):TE:=fun σ H Q=>t σ H fun xs H1=>xs.length≤sizeLine∧∀ p,H1 p=none→Q (.ref p) (upd H1 p (.lst xs))
theorem D4 {x1} (h:PA X es t):PE X (.Tuple es x1 pos) (K3 t):=by
 intro pins s σ H Q I hq;refine wpAny_Tuple_spliced (thn (h pos pins s σ H _ I hq) fun us s1 ⟨xs,H1,I1,r,z,q⟩=>⟨by rw [← r.length]; exact z,?_⟩);have hf:H1 s1.heap.objs.size=none:=I1.hok.fresh (LS _);refine ⟨.ref s1.heap.objs.size,upd H1 s1.heap.objs.size (.tup xs),I1.laid (t':=s1.toks) (fun b u e=>Heap.get?_push_of_some _ e) (LS _) ?_,rfl,q _ hf⟩;exact ⟨z,us,r,⟨_,Heap.get?_push_size _ rfl,rfl,_,rfl⟩⟩
theorem D7 (h:PA X es t):PE X (.List es pos) (K7 t):=by
 intro pins s σ H Q I hq;refine wpAny_List_spliced (thn (h pos pins s σ H _ I hq) fun us s1 ⟨xs,H1,I1,r,z,q⟩=>⟨by rw [← r.length]; exact z,?_⟩);have hf:H1 s1.heap.objs.size=none:=I1.hok.fresh (LS _);refine ⟨.ref s1.heap.objs.size,upd H1 s1.heap.objs.size (.lst xs),I1.laid (t':=s1.toks) (fun b u e=>Heap.get?_push_of_some _ e) (LS _) ?_,rfl,q _ hf⟩;exact ⟨z,us,0,r,Heap.get?_push_size _ rfl⟩
end
noncomputable abbrev Sp:=List V→Hp→VK→XK→Prop
noncomputable abbrev CXT:=List Env→Hp→Shared→XK→Value→Shared→Prop
structure Env0 (P:Program) (w:World) (K:LN) (mg:Str→Option Value) (base:Heap) (A:Around) (outer:List Env) (s:Shared) (H:Hp):Prop where
 frames:A.frames=some outer
 mod:Mod K mg base
 bs:∀ b o,base.get? b=some o→s.heap.get? b=some o∧H b=none
 bsz:base.objs.size≤s.heap.objs.size
 funs:s.heap.FunFrames base outer
 frf:∀ b∈frs outer,H b=none
 hok:HOk P w H s.heap
 bare:AllBare s.gens
noncomputable def CE (outer:List Env) (P:Program) (w:World) (H:Hp) (s:Shared) (Q:VK) (u:Value) (s':Shared):Prop :=
 ∃ v H',s'.os=s.os∧AllBare s'.gens∧Un (frs outer) [] H H' s.heap s'.heap∧HOk P w H' s'.heap∧RelV v u∧Q v H'
noncomputable def CR (CX:CXT) (outer:List Env) (P:Program) (w:World) (H:Hp) (s:Shared) (Q:VK) (E:XK) (r:Result) (s':Shared):Prop :=
 match r with
 | .ok (.ret u)=>CE outer P w H s Q u s'
 | .ok _=>False
 | .error e=>CX outer H s E e s'
structure FnOk (P:Program) (w:World) (K:LN) (mg:Str→Option Value) (base:Heap) (CX:CXT) (k:Nat) (f:Addr) (fd:FuncData) (ps:List Str) (sp:Sp):Prop where
 len:∀ vs H Q E,sp vs H Q E→vs.length=ps.length
 run:∀ (A:Around) (outer:List Env) (s:Shared) (H:Hp) (args:Args) (us:List Value) (vs:List V) (Q:VK) (E:XK),Room k A→Env0 P w K mg base A outer s H→BindsTo s fd args (ps.zip us)→Vals vs us→sp vs H Q E →
  codeAny (model P w) A (.call (.ref f) args) (CR CX outer P w H s Q E) s
theorem FnOk.mono {P:Program} {w:World} {K:LN} {mg:Str→Option Value} {base:Heap} {CX:CXT} {j k:Nat} {f:Addr} {fd:FuncData} {ps:List Str} {sp:Sp} (F:FnOk P w K mg base CX j f fd ps sp) (h:j≤k) :
  FnOk P w K mg base CX k f fd ps sp:=⟨F.len,fun A outer s H args us vs Q E hr=>F.run A outer s H args us vs Q E (hr.mono h)⟩
theorem FnOk.imp {P:Program} {w:World} {K:LN} {mg:Str→Option Value} {base:Heap} {CX:CXT} {k:Nat} {f:Addr} {fd:FuncData} {ps:List Str} {sp sp':Sp} (F:FnOk P w K mg base CX k f fd ps sp)
  (h:∀ vs H Q E,sp' vs H Q E→sp vs H Q E):FnOk P w K mg base CX k f fd ps sp' :=
 ⟨fun vs H Q E q=>F.len vs H Q E (h _ _ _ _ q),fun A outer s H args us vs Q E hr he hb hv hs=>F.run A outer s H args us vs Q E hr he hb hv (h _ _ _ _ hs)⟩
theorem Env0.make {P:Program} {w:World} {K:LN} {mg:Str→Option Value} {base:Heap} {A:Around} {outer:List Env} {s:Shared} {H:Hp} (e:Env0 P w K mg base A outer s H) (C:Addr) (us:List Value) (kw:List (Str×Value)) :
  Env0 P w K mg base (A.under (.builtin "type.__call__" ⟨.ref C::us,kw⟩)) outer s H:=⟨by first | exact e.frames | (simpa [Around.under,Code.envs,Code.isFrame,pushEnvs] using e.frames),e.mod,e.bs,e.bsz,e.funs,e.frf,e.hok,e.bare⟩
section
variable {X:Cx} {pins:List (Addr×Obj)} {σ:St} {H:Hp} {s s':Shared}
theorem Inv.env0 (I:Inv X pins σ H s):Env0 X.prog X.w X.K X.mg X.base X.A X.stack s H :=
 ⟨I.ok.frames,I.ok.mod,I.bs,L9 I.ok.bsz I.sz,I.stack,I.stkFree,I.hok,I.bare⟩
theorem Inv.after {Q:VK} {u:Value} (I:Inv X pins σ H s) (h:CE X.stack X.prog X.w H s Q u s'):EP X pins σ Q u s':=by
 obtain ⟨v,H',os,bare,un,hok,r,q⟩:=h;obtain ⟨hh,g,d,t,os'⟩:=s';obtain rfl:os'=s.os:=os;exact ⟨v,H',I.call (h':=hh) (g':=g) (d':=d) (t':=t) (ch:=[]) un hok bare (fun b z=>absurd z (by simp)),r,q⟩
end
noncomputable def Hn (sp:Sp) (dvs:List V) (E:XK) (t:TA):TE:=fun σ H Q=>t σ H fun vs H1=>sp (vs++dvs) H1 Q E
noncomputable def Hl (C:Addr) (m:Str) (sp:Sp) (dvs:List V) (E:XK) (ta:TE) (t:TA):TE:=fun σ H Q=>ta σ H fun x H1=>∃ a dx fs,x=.ref a∧H1 a=some (.ins C dx fs)∧fs.lookup m=none ∧
 t σ H1 fun vs H2=>sp (x::(vs++dvs)) H2 Q E
noncomputable def Hm (C:Addr) (sp:Sp) (dvs:List V) (E:XK) (t:TA):TE:=fun σ H Q=>t σ H fun vs H1=>∀ x dx,H1 x=none→H1 dx=none→dx≠x →
 sp (.ref x::(vs++dvs)) (upd (upd H1 dx (.own x)) x (.ins C dx [])) (fun v H2=>v=.non∧Q (.ref x) H2) E
noncomputable def Binds (K:LN) (fd:FuncData) (ps:List Str) (ds:List Value):Prop :=
 ∀ (s:Shared) (us:List Value),K.In s.heap→(us++ds).length=ps.length→BindsTo s fd ⟨us,[]⟩ (ps.zip (us++ds))
theorem Binds.all {K:LN} {fd:FuncData} {ps:List Str} (h:∀ us:List Value,us.length=ps.length→bindArgs fd ⟨us,[]⟩=pure (ps.zip us)):Binds K fd ps []:=fun s us _ hl=>by
 rw [Mn] at hl ⊢;exact .of_eq (h us hl)
noncomputable def Passes (CX:CXT) (X:Cx) (E:XK):Prop:=∀ (pins:List (Addr×Obj)) (σ:St) (H:Hp) (s:Shared) (e:Value) (s':Shared),Inv X pins σ H s→CX X.stack H s E e s'→X.xe e s'
section
variable {X:Cx} {CX:CXT} {k:Nat} {f C:Addr} {fd:FuncData} {ps:List Str} {sp:Sp} {dvs:List V} {ds:List Value} {E:XK} {x m:Str} {p pos apos:Pos} {e o:Expr} {es:List Expr} {ta:TE} {t:TA}
theorem A9 {pins:List (Addr×Obj)} {σ:St} {H:Hp} {s:Shared} {Q:VK} {us:List Value} {vs:List V} (F:FnOk X.prog X.w X.K X.mg X.base CX k f fd ps sp) (hr:Room k X.A) (hb:Binds X.K fd ps ds) (hd:Vals dvs ds) (hx:Passes CX X E)
  (I:Inv X pins σ H s) (r:Vals vs us) (h:sp (vs++dvs) H Q E):wpAny (model X.prog X.w) X.A (call (.ref f) us) (EP X pins σ Q) X.xe s:=by
 have r2:Vals (vs++dvs) (us++ds):=r.append hd;have hl:(us++ds).length=ps.length:=by rw [← r2.length]; exact F.len _ _ _ _ h
 refine wpAny_call (codeAny_mono (F.run X.A X.stack s H ⟨us,[]⟩ (us++ds) (vs++dvs) Q E hr I.env0 (hb s us I.kIn hl) r2 h) fun r s' hq=>?_);cases r with
 | error e=>exact hx pins σ H s e s' I hq
 | ok fl =>
  cases fl with
  | ret u=>exact I.after hq
  | next=>exact False.elim hq
  | brk=>exact False.elim hq
  | cont=>exact False.elim hq
theorem B8 (F:FnOk X.prog X.w X.K X.mg X.base CX k f fd ps sp) (hr:Room k X.A) (hg:Gl X x) (hm:X.mg x=some (.ref f)) (hk:MM X.K (.ref f)=true) (hb:Binds X.K fd ps ds) (hd:Vals dvs ds) (hx:Passes CX X E)
  (ha:PA X (e::es) t) (hdb:(x==("__debug__" : Str))=false:=by decide) (he:starEach (e::es) X.env=(false,eval e X.env)::starEach es X.env:=by rfl) (hpl:(backTo pos (starEach es X.env)).any (·.1)=false:=by rfl) :
  PE X (.Call (.Name x p) (e::es) [] pos) (Hn sp dvs E t):=by
 intro pins s σ H Q I h;refine wpAny_Call_Name_kw (ui I hg hm ?_ hdb);refine NE (h₀:=X.base) I.ok.mod.kin hk (thn (ha pos pins s σ H _ I h) fun us s1 ⟨vs,H1,I1,r,q⟩=>⟨I1.kIn,?_⟩) he hpl;exact A9 F hr hb hd hx I1 r q
theorem Ec (F:FnOk X.prog X.w X.K X.mg X.base CX k f fd ps sp) (hr:Room k X.A) (hg:Gl X x) (hm:X.mg x=some (.ref f)) (hk:MM X.K (.ref f)=true) (hb:Binds X.K fd ps ds) (hd:Vals dvs ds) (hx:Passes CX X E)
  (hdb:(x==("__debug__" : Str))=false:=by decide):PE X (.Call (.Name x p) [] [] pos) (Hn sp dvs E Ie):=by
 intro pins s σ H Q I h;refine wpAny_Call_Name_kw (ui I hg hm ?_ hdb);exact PySem.W.callWith_K0 I.kIn hk (A9 (us:=[]) F hr hb hd hx I .nil h)
theorem Gj {pl:Sem Bool} (he:PE X o ta) (c:Cls X.K C) (hm:Meth X.K C m f) (F:FnOk X.prog X.w X.K X.mg X.base CX k f fd ps sp) (hr:Room k X.A) (hb:Binds X.K fd ps ds) (hd:Vals dvs ds) (hx:Passes CX X E) (ha:PA X (e::es) t)
  (hst:starEach (e::es) X.env=(false,eval e X.env)::starEach es X.env:=by rfl) (hpl:(backTo pos (starEach es X.env)).any (·.1)=false:=by rfl)
  (ht:eval (.Call (.Attribute o m apos) (e::es) [] pos) X.env=(do
   let ov ← eval o X.env
   standAt apos.atName
   let (f,first) ← holding [ov] (getMethod ov m pl)
   callWith pos f first (backTo pos (starEach (e::es) X.env)) (backToKw pos (keywordEach [] X.env))):=by rfl) :
  PE X (.Call (.Attribute o m apos) (e::es) [] pos) (Hl C m sp dvs E ta t):=by
 intro pins s σ H Q I h;refine PySem.W.methodCall_KW (pl:=pl) (thn (he pins s σ H _ I h) fun u s1 ⟨x,H1,I1,rx,a,dx,fs,ex,ea,l,q⟩=>?_) ht;subst ex;obtain rfl:u=Value.ref a:=rx;refine Bu I1 ea c hm l ?_;refine NE (first:=[.ref a]) (h₀:=X.base) I.ok.mod.kin hm.kp (thn (ha pos pins s1 σ H1 _ I1 q) fun us s2 ⟨vs,H2,I2,r,q2⟩=>⟨I2.kIn,?_⟩) hst hpl;exact A9 (us:=.ref a::us) (vs:=.ref a::vs) F hr hb hd hx I2 (.cons rfl r) q2
structure Mk (K:LN) (C f:Addr):Prop where
 makes:PySem.W.makesIn K C=true
 init:MD K (.ref C) "__init__" = some (some (.ref f))
 fn:PySem.W.isFn K (.ref f)=true
 kp:MM K (.ref C)=true
theorem zU {pins:List (Addr×Obj)} {σ:St} {H:Hp} {s:Shared} {Q:VK} {us:List Value} {vs:List V} (M:Mk X.K C f) (F:FnOk X.prog X.w X.K X.mg X.base CX k f fd ps sp) (hr:Room (k+1) X.A) (hb:Binds X.K fd ps ds) (hd:Vals dvs ds)
  (hx:Passes CX X E) (I:Inv X pins σ H s) (r:Vals vs us)
  (h:∀ x dx,H x=none→H dx=none→dx≠x→sp (.ref x::(vs++dvs)) (upd (upd H dx (.own x)) x (.ins C dx [])) (fun v H2=>v=.non∧Q (.ref x) H2) E) :
  wpAny (model X.prog X.w) X.A (call (.ref C) us) (EP X pins σ Q) X.xe s:=by
 have hq:=h (s.heap.objs.size+1) s.heap.objs.size (I.hok.fresh (Nat.le_succ _)) (I.hok.fresh (LS _)) (Mg (MW _));have I2:=Inv.made (C:=C) I;have r2:Vals (V.ref (s.heap.objs.size+1)::(vs++dvs)) (Value.ref (s.heap.objs.size+1)::(us++ds)):=.cons rfl (r.append hd);have hl:(Value.ref (s.heap.objs.size+1)::us++ds).length=ps.length:=by
  have e:=r2.length;rw [F.len _ _ _ _ hq] at e;exact e.symm
 refine wpAny_call (Eu (f:=f) I.kIn M.makes M.init (beq_iff_eq.mp M.fn) (codeAny_mono (F.run _ X.stack _ _ ⟨Value.ref (s.heap.objs.size+1)::us,[]⟩ (Value.ref (s.heap.objs.size+1)::(us++ds)) _ _ E (hr.make C us [])
  (I2.env0.make C us []) (hb _ (Value.ref (s.heap.objs.size+1)::us) I2.kIn hl) r2 hq) fun r s' hq'=>?_))
 cases r with
 | error e=>exact hx pins σ _ _ e s' I2 hq'
 | ok fl =>
  cases fl with
  | ret u =>
   obtain ⟨v,H',I3,rv,ev,q3⟩:=I2.after hq';subst ev;exact ⟨rv,⟨V.ref (s.heap.objs.size+1),H',I3,rfl,q3⟩⟩
  | next=>exact False.elim hq'
  | brk=>exact False.elim hq'
  | cont=>exact False.elim hq'
theorem Gk (M:Mk X.K C f) (F:FnOk X.prog X.w X.K X.mg X.base CX k f fd ps sp) (hr:Room (k+1) X.A) (hg:Gl X x) (hm:X.mg x=some (.ref C)) (hb:Binds X.K fd ps ds) (hd:Vals dvs ds) (hx:Passes CX X E)
  (ha:PA X (e::es) t) (hdb:(x==("__debug__" : Str))=false:=by decide) (he:starEach (e::es) X.env=(false,eval e X.env)::starEach es X.env:=by rfl) (hpl:(backTo pos (starEach es X.env)).any (·.1)=false:=by rfl) :
  PE X (.Call (.Name x p) (e::es) [] pos) (Hm C sp dvs E t):=by
 intro pins s σ H Q I h;refine wpAny_Call_Name_kw (ui I hg hm ?_ hdb);refine NE (h₀:=X.base) I.ok.mod.kin M.kp (thn (ha pos pins s σ H _ I h) fun us s1 ⟨vs,H1,I1,r,q⟩=>⟨I1.kIn,?_⟩) he hpl;exact zU M F hr hb hd hx I1 r q
theorem D6 (M:Mk X.K C f) (F:FnOk X.prog X.w X.K X.mg X.base CX k f fd ps sp) (hr:Room (k+1) X.A) (hg:Gl X x) (hm:X.mg x=some (.ref C)) (hb:Binds X.K fd ps ds) (hd:Vals dvs ds) (hx:Passes CX X E)
  (hdb:(x==("__debug__" : Str))=false:=by decide):PE X (.Call (.Name x p) [] [] pos) (Hm C sp dvs E Ie):=by
 intro pins s σ H Q I h;refine wpAny_Call_Name_kw (ui I hg hm ?_ hdb);exact PySem.W.callWith_K0 I.kIn M.kp (zU (us:=[]) M F hr hb hd hx I .nil h)
end
section
variable {X:Cx} {CX:CXT} {k:Nat} {f C:Addr} {fd:FuncData} {ps ks:List Str} {sp:Sp} {E:XK} {x m:Str} {p pos apos kpos:Pos} {e o:Expr} {es:List Expr} {kws:List Keyword} {te ta:TE} {t tk:TA} {nm:Option Str}
structure KBinds (K:LN) (fd:FuncData) (ps ks:List Str) (g:List Value→List Value→List Value) (gV:List V→List V→List V):Prop where
 to:∀ (s:Shared) (us ws:List Value),K.In s.heap→(g us ws).length=ps.length→BindsTo s fd ⟨us,ks.zip ws⟩ (ps.zip (g us ws))
 rel:∀ {vs:List V} {us:List Value} {zs:List V} {ws:List Value},Vals vs us→Vals zs ws→Vals (gV vs zs) (g us ws)
variable {g:List Value→List Value→List Value} {gV:List V→List V→List V}
end
structure aI (N P:List Str) (sc:Scope):Prop where
 kind:sc.kind=.function
 co:sc.isCoroutine=false
 gen:sc.isGenerator=false
 nd:N.Nodup
 pre:N.take P.length=P
 par:∀ x∈P,sc.names.lookup x=some .local∨sc.names.lookup x=some .cell
 nofree:∀ y∈sc.names,y.2≠.free
theorem yu {kindOf:Str→Option NameKind} {x:Str}:∀ {binds:List (Str×Value)} {m:Str→Option Value},(∀ v,(x,v)∉binds)→bindL kindOf binds m x=m x
 | [],_,_=>rfl
 | (n,v)::r,m,h=>by
  unfold bindL;rw [yu fun w hw=>h w (LX _ hw)]
  split
  ·have:x≠n:=by rintro rfl; exact h v L7
   simp [this]
  ·rfl
theorem yx {kindOf:Str→Option NameKind} {x:Str}:∀ {binds:List (Str×Value)} {m:Str→Option Value},(∀ v,(x,v)∉binds)→bindC kindOf binds m x=m x
 | [],_,_=>rfl
 | (n,v)::r,m,h=>by
  unfold bindC;rw [yx fun w hw=>h w (LX _ hw)]
  split
  ·rfl
  ·have:x≠n:=by rintro rfl; exact h v L7
   simp [this]
theorem yw {kindOf:Str→Option NameKind} {x:Str} {v:Value}:∀ {P:List Str} {vs:List Value} {i:Nat} {m:Str→Option Value},P.Nodup→P[i]?=some x→vs[i]?=some v→kindOf x=some .local →
  bindL kindOf (P.zip vs) m x=some v
 | [],_,_,_,_,h,_,_=>by simp at h
 | _::_,[],_,_,_,_,h,_=>by simp at h
 | p::P,w::vs,0,m,nd,h1,h2,hk=>by
  simp at h1 h2; subst h1; subst h2;show bindL kindOf ((p,w)::P.zip vs) m p=_;unfold bindL;rw [yu fun v hv=>(Ng.mp nd).1 (List.of_mem_zip hv).1,if_pos hk]
  simp
 | p::P,w::vs,i+1,m,nd,h1,h2,hk=>by
  show bindL kindOf ((p,w)::P.zip vs) m x=_;unfold bindL;exact yw (i:=i) (Ng.mp nd).2 (by simpa using h1) (by simpa using h2) hk
theorem yy {kindOf:Str→Option NameKind} {x:Str} {v:Value}:∀ {P:List Str} {vs:List Value} {i:Nat} {m:Str→Option Value},P.Nodup→P[i]?=some x→vs[i]?=some v→kindOf x≠some .local →
  bindC kindOf (P.zip vs) m x=some v
 | [],_,_,_,_,h,_,_=>by simp at h
 | _::_,[],_,_,_,_,h,_=>by simp at h
 | p::P,w::vs,0,m,nd,h1,h2,hk=>by
  simp at h1 h2; subst h1; subst h2;show bindC kindOf ((p,w)::P.zip vs) m p=_;unfold bindC;rw [yx fun v hv=>(Ng.mp nd).1 (List.of_mem_zip hv).1,if_neg hk]
  simp
 | p::P,w::vs,i+1,m,nd,h1,h2,hk=>by
  show bindC kindOf ((p,w)::P.zip vs) m x=_;unfold bindC;exact yy (i:=i) (Ng.mp nd).2 (by simpa using h1) (by simpa using h2) hk
noncomputable def start (N:List Str) (vs:List V):St:=vs.map some++Ma (N.length - vs.length) none
noncomputable def AM (CX:CXT) (P:Program) (w:World) (K:LN) (mg:Str→Option Value) (base:Heap) (N:List Str) (qual:Str) (scope:Scope) (f:Addr) (cd:Value) (A:Around) (outer:List Env) (s:Shared) (H:Hp) (E:XK):Cx where
 prog:=P
 w:=w
 K:=K
 mg:=mg
 base:=base
 A:=A.deeper (envOfC qual scope s.heap.objs.size f cd)
 N:=N
 s₀:=s
 H₀:=H
 env:=envOfC qual scope s.heap.objs.size f cd
 outer:=outer
 stack:=envOfC qual scope s.heap.objs.size f cd::outer
 ex:=[]
 calm:=true
 fn:=fun _=>true
 pn:=[]
 xe:=fun e s'=>wpAny (model P w) (A.deeper (envOfC qual scope s.heap.objs.size f cd)) (leaving (envOfC qual scope s.heap.objs.size f cd) e) (fun _ s''=>CX outer H s E e s'') (fun e' s''=>CX outer H s E e' s'') s'
theorem AT {sc:Scope} {n:Nat} {x:Str} (h:sc.names.lookup x=some .cell):∃ c,(cellsFrom n sc.names []).lookup x=some c:=by
 have q:=PySem.W.cellsFrom_some sc.names n [] (.inl h);exact Option.isSome_iff_exists.mp q
theorem Di {CX:CXT} {P:Program} {w:World} {K:LN} {mg:Str→Option Value} {base:Heap} {N ps:List Str} {qual:Str} {scope:Scope} {f:Addr} {cd:Value} {A:Around} {outer:List Env} {s s1:Shared} {H:Hp} {E:XK} {us:List Value} {vs:List V}
  (S:aI N ps scope) (hd:A.handled=none) (e0:Env0 P w K mg base A outer s H) (hl:vs.length=ps.length) (r:Vals vs us)
  (x:InCallC s s.heap.objs.size (bindL (envOfC qual scope s.heap.objs.size f cd).kindOf (ps.zip us) fun _=>none) (cellsFrom (s.heap.objs.size+1) scope.names []) (bindC (envOfC qual scope s.heap.objs.size f cd).kindOf (ps.zip us) fun _=>none) s1) :
  Inv (AM CX P w K mg base N qual scope f cd A outer s H E) [] (start N vs) H s1:=by
 have hpl:ps.length≤N.length:=by have:=congrArg List.length S.pre; rw [List.length_take] at this; omega
 obtain ⟨h1,tk,rfl,hk⟩:=x.done;have noA:∀ b:Addr,b∉(AM CX P w K mg base N qual scope f cd A outer s H E).ex:=fun b z=>absurd (show b∈([]:List Addr) from z) (by simp);refine ⟨⟨e0.mod,S.kind,rfl,rfl,LS _,fun y z c h1 h2=>?_,fun y hy=>?_,fun y c _ h=>?_,fun _=>hd,Around.frames_deeper e0.frames,.inr ⟨rfl,rfl⟩,fun b z=>absurd z (noA b),e0.bs,e0.bsz,fun b _ _=>noA b,fun b z=>absurd z (noA b),e0.funs,e0.frf⟩,rfl,e0.bare,Un.kept hk,⟨_,x.toInCall.ns,fun i y v h1 h2 h3=>?_⟩,fun y c h=>⟨_,x.cell y c h⟩,e0.hok.fresh (LS _),fun y c h=>?_,fun p hp=>absurd (show p∈([]:List (Addr×Obj)) from hp) (by simp),e0.hok.kept hk,?_⟩
 ·exact name_of_addr x.apart (PySem.mem_of_lookup h1) (PySem.mem_of_lookup h2)
 ·have hy:scope.names.lookup y=some .cell∨scope.names.lookup y=some .free:=hy;rcases hy with hy | hy
  ·exact AT hy
  ·exact absurd rfl (S.nofree _ (PySem.mem_of_lookup hy))
 ·exact Nl (x.above y c (PySem.mem_of_lookup h))
 ·have hi:i < vs.length:=by
   unfold start at h2;by_cases hi:i < vs.length
   ·exact hi
   ·rw [LY (by simpa using hi)] at h2;rw [MP] at h2;split at h2 <;> cases h2
  have ha:vs[i]?=some v:=by
   unfold start at h2;rw [LR (by simpa using hi),L8] at h2;cases e:vs[i]? with
   | none=>rw [e] at h2; cases h2
   | some a=>rw [e] at h2; cases h2; rfl
  obtain ⟨u,hu,rv⟩:=r.get ha;have hp:ps[i]?=some y:=by
   rw [← S.pre,List.getElem?_take_of_lt (by omega)]; exact h1
  have ndP:ps.Nodup:=by rw [← S.pre]; exact S.nd.sublist (List.take_sublist _ _)
  refine ⟨u,rv,?_⟩;rcases S.par y (NB hp) with k | k
  ·exact .inl ⟨k,yw ndP hp hu k⟩
  ·obtain ⟨c,e⟩:=AT (n:=s.heap.objs.size+1) k;refine .inr ⟨.inl k,c,e,?_⟩;have q:=x.cell y c e;rw [yy ndP hp hu (by show scope.names.lookup y≠_; rw [k]; decide)] at q;exact q
 ·exact e0.hok.fresh (Nl (x.above y c (PySem.mem_of_lookup h)))
 ·unfold start;show _=N.length;rw [LQ,LO,MX];omega
theorem KD {CX:CXT} {P:Program} {w:World} {K:LN} {mg:Str→Option Value} {base:Heap} {k:Nat} {f:Addr} {name qual:Str} {params:Arguments} {body:List Stmt} {scope:Scope} {dV kV doc pm cdv ct oc:Value} {an od:Option Addr}
  {osl:Array (Option Value)} {N ps:List Str} {sp:Sp} (lk:K.lookup f=some ⟨oc,od,.func (Nh name qual params body scope dV kV doc pm an cdv ct),osl⟩) (hcd:PySem.W.codeIn K cdv qual=true) (S:aI N ps scope)
  (len:∀ vs H Q E,sp vs H Q E→vs.length=ps.length)
  (hbody:∀ (A:Around) (outer:List Env) (s:Shared) (H:Hp) (vs:List V) (Q:VK) (E:XK),Room k (A.deeper (envOfC qual scope s.heap.objs.size f cdv))→sp vs H Q E →
   ∃ t,PSs (AM CX P w K mg base N qual scope f cdv A outer s H E) body t∧t { nx:=fun _ H'=>Q .non H',rt:=Q } (start N vs) H) :
  FnOk P w K mg base CX (k+1) f (Nh name qual params body scope dV kV doc pm an cdv ct) ps sp:=by
 refine ⟨len,fun A outer s H args us vs Q E hr e0 hb r hsp=>?_⟩;have hl:=len _ _ _ _ hsp;have KX:K.In s.heap:=e0.mod.kin.keeps fun b o e=>(e0.bs b o e).1;have lim:s.heap.NoLimit:=e0.mod.nolimit.keeps fun b o e=>(e0.bs b o e).1;have hkind:∀ y∈ps.zip us,scope.names.lookup y.1=some .local∨(scope.names.lookup y.1=some .cell∧((cellsFrom (s.heap.objs.size+1) scope.names []).lookup y.1).isSome=true):=fun ⟨n,v⟩ hy=>by
  rcases S.par n (List.of_mem_zip hy).1 with q | q
  ·exact .inl q
  ·exact .inr ⟨q,PySem.W.cellsFrom_some _ _ _ (.inl q)⟩
 refine codeAny_call_function hr.depth (KX _ _ lk) rfl S.co S.gen rfl (PySem.W.codeRec_of KX hcd) (hb _ _ _ _ ?_);refine wpAny_newFunctionEnv_cells S.kind hkind fun env he s1 x=>?_;subst he;refine ⟨lim.keeps x.toInCall.keep,codeAny_func ?_⟩;obtain ⟨t,ht,hq⟩:=hbody A outer s H vs Q E (hr.deeper _) hsp;have I:Inv (AM CX P w K mg base N qual scope f cdv A outer s H E) [] (start N vs) H s1:=Di S hr.hd e0 hl r x;refine wpAny_mono (ht [] s1 (start N vs) H _ I hq) (fun fl s' hs=>?_) fun e s' hs=>hs;have fin:∀ {σ':St} {H':Hp} {v:V} {u:Value},Inv (AM CX P w K mg base N qual scope f cdv A outer s H E) [] σ' H' s'→RelV v u→Q v H'→CE outer P w H s Q u s' :=
  fun {σ' H' v u} J rv q=>⟨v,H',J.os,J.bare,J.base,J.hok,rv,q⟩
 cases fl with
 | ret u =>
  obtain ⟨v,σ',H',J,rv,q⟩:=hs;exact fin J rv q
 | next =>
  obtain ⟨σ',H',J,q⟩:=hs;exact fin (v:=V.non) (u:=Value.none) J rfl q
 | brk =>
  obtain ⟨_,_,_,q⟩:=hs;exact False.elim q
 | cont =>
  obtain ⟨_,_,_,q⟩:=hs;exact False.elim q
section
variable {X:Cx} {x:Str} {p pos:Pos} {e:Expr} {es:List Expr} {t:TA} {id T:String} {r:List V→Hp→VK→Prop}
noncomputable def tCB (r:List V→Hp→VK→Prop) (t:TA):TE:=fun σ H Q=>t σ H fun vs H1=>r vs H1 Q
theorem Ab (hc:CallR X (.builtin id) r) (hg:Gl X x) (hm:X.mg x=none) (hv:bootBuiltins x=some (.builtin id)) (ha:PA X (e::es) t) (hn:x ≠ "__name__" := by decide) (hdb:(x==("__debug__" : Str))=false:=by decide)
  (he:starEach (e::es) X.env=(false,eval e X.env)::starEach es X.env:=by rfl) (hpl:(backTo pos (starEach es X.env)).any (·.1)=false:=by rfl):PE X (.Call (.Name x p) (e::es) [] pos) (tCB r t):=by
 intro pins s σ H Q I h;refine wpAny_Call_Name_kw (sR I hg hm hv ?_ hn hdb);exact PyProof.Rows.callWith_builtin1 (thn (ha pos pins s σ H _ I h) fun us s1 ⟨vs,H1,I1,r1,q1⟩=>hc pins s1 σ H1 vs us Q I1 r1 q1) he hpl
theorem uM (hc:CallR X (.type T) r) (hg:Gl X x) (hm:X.mg x=none) (hv:bootBuiltins x=some (.type T)) (ha:PA X (e::es) t) (hn:x ≠ "__name__" := by decide) (hdb:(x==("__debug__" : Str))=false:=by decide)
  (he:starEach (e::es) X.env=(false,eval e X.env)::starEach es X.env:=by rfl) (hpl:(backTo pos (starEach es X.env)).any (·.1)=false:=by rfl):PE X (.Call (.Name x p) (e::es) [] pos) (tCB r t):=by
 intro pins s σ H Q I h;refine wpAny_Call_Name_kw (sR I hg hm hv ?_ hn hdb);exact PyProof.Rows.callWith_type1 (thn (ha pos pins s σ H _ I h) fun us s1 ⟨vs,H1,I1,r1,q1⟩=>hc pins s1 σ H1 vs us Q I1 r1 q1) he hpl
end
end L2
namespace HT
open PySem PyProof.Rows
section
open PySem.SeqAt
open PySem.AutoSeq1 (wpAny_loadPart')
open PySem.MeetsSeq PySem.MeetsSeq2 PySem.MeetsSeq3
end
section
variable {prog:Program} {w:World} {A:Around} {E:Value→Shared→Prop} {s:Shared}
theorem cat_tup {t b:Addr} {vs ws:List Value} {Q:Value→Shared→Prop} (ht:IsTup s.heap t vs.toArray) (hb:IsTup s.heap b ws.toArray) (hv:vs≠[])
  (h1:ws=[]→Q (.ref t) s) (h2:ws≠[]→Q (.ref s.heap.objs.size) { s with heap:=s.heap.push { cls:=.type "tuple", data:=.seq (vs++ws).toArray } })
  (hsz:vs.length+ws.length≤sizeLine):wpAny (model prog w) A (binaryOp .Add (.ref t) (.ref b)) Q E s:=by
 obtain ⟨⟨cls,dd,data,sl⟩,ho,hc,n,hd⟩:=id ht;obtain ⟨⟨cls2,dd2,data2,sl2⟩,ho2,hc2,n2,hd2⟩:=id hb;simp only at hc hd hc2 hd2;subst hc hd hc2 hd2;have e:vs.toArray++ws.toArray=(vs++ws).toArray:=by simp
 by_cases hw:ws=[]
 ·exact concat_meets ⟨_,ho,rfl⟩ ⟨_,ho2,rfl⟩ noFill_tuple_add seq_tuple_add PySem.F.slot_tuple_add PySem.F.entry_tuple_add (PySem.F.args_tuple_add_2 _ _)
   (tuple_addW1 t b vs.toArray ws.toArray n n2 dd dd2 sl sl2 (by simpa using hv) (by simp [hw])) ⟨ho,ho2,h1 hw⟩
 ·refine concat_meets ⟨_,ho,rfl⟩ ⟨_,ho2,rfl⟩ noFill_tuple_add seq_tuple_add PySem.F.slot_tuple_add PySem.F.entry_tuple_add (PySem.F.args_tuple_add_2 _ _)
   (tuple_addW2 t b vs.toArray ws.toArray n n2 dd dd2 sl sl2 (by simpa using hv) (by simpa using hw) (by rw [LZ,LZ]; exact hsz)) ⟨ho,ho2,?_⟩
  rw [e];exact h2 hw
noncomputable def sIx (n d:Nat):Option Int→Nat
 | none=>d
 | some v=>if v < 0 then (v+(n:Int)).toNat else min v.toNat n
theorem sIx_none (n d:Nat):sIx n d none=d:=rfl
theorem sIx_nat (n d k:Nat):sIx n d (some (k:Int))=min k n:=by
 show (if (k:Int) < 0 then ((k:Int)+(n:Int)).toNat else min (k:Int).toNat n)=min k n;rw [if_neg (by omega),Int.toNat_natCast]
theorem Iv (n d:Nat) (hd:d≤n) (o:Option Int):sIx n d o≤n:=by
 cases o with
 | none=>exact hd
 | some v =>
  show (if v < 0 then (v+(n:Int)).toNat else min v.toNat n)≤n;by_cases hv:v < 0
  ·rw [if_pos hv]; omega
  ·rw [if_neg hv]; exact Nat.min_le_right _ _
theorem CG (v:Int) (n d:Nat):(if v < 0 then max (v+(n:Int)) 0 else min v (n:Int))=((sIx n d (some v):Nat):Int):=by
 show (if v < 0 then max (v+(n:Int)) 0 else min v (n:Int))=(((if v < 0 then (v+(n:Int)).toNat else min v.toNat n):Nat):Int);by_cases hv:v < 0
 ·simp only [if_pos hv]; omega
 ·simp only [if_neg hv]; omega
theorem BI (lo hi:Option Int) (n:Nat):Builtin.Slice.sliceAdjust lo hi 1 (n:Int)=(((sIx n 0 lo:Nat):Int),((sIx n n hi:Nat):Int)):=by
 have h1:¬ ((1:Int) < 0):=by omega
 unfold Builtin.Slice.sliceAdjust;simp only [h1,if_false];refine Prod.ext ?_ ?_
 ·cases lo with
  | none=>rfl
  | some v=>exact CG v n 0
 ·cases hi with
  | none=>rfl
  | some v=>exact CG v n n
theorem Bf (i j:Nat):Builtin.Slice.slicePlaces (i:Int) (j:Int) 1=j - i:=by
 unfold Builtin.Slice.slicePlaces;have h1:(1:Int) > 0:=by omega
 simp only [h1,if_true,Int.ediv_one]
 split <;> omega
theorem wu {v:Value} {o:Option Int} {Q:Option Int→Shared→Prop} (p:IsPart v o) (h:Q o s):wpAny (model prog w) A (Builtin.Slice.slicePartIndex v) Q E s:=by
 cases p with
 | none=>exact slicePart_none h
 | int i t=>exact slicePart_int h
theorem sliceApplied_gen {sl:Addr} {vl vu:Value} {lo hi:Option Int} {n:Nat} {Q:Int×Int×Nat→Shared→Prop} (hs:s.heap.IsSliceOf sl vl vu .none) (pl:IsPart vl lo) (pu:IsPart vu hi)
  (h:Q (((sIx n 0 lo:Nat):Int),1,sIx n n hi - sIx n 0 lo) s):wpAny (model prog w) A (Builtin.Slice.sliceApplied (.ref sl) (pure (n:Int))) Q E s:=by
 obtain ⟨os,hos,hcs,hds⟩:=id hs;unfold Builtin.Slice.sliceApplied Builtin.Slice.sliceFields;refine wpAny_bind (wpAny_bind (wpAny_field hos hds (x:=vl) rfl (wpAny_bind (wpAny_field hos hds (x:=vu) rfl (wpAny_bind (wpAny_field hos hds (x:=.none) rfl (wpAny_pure ?_)))))));refine wpAny_bind (slicePart_none ?_);show wpAny _ _ (if ((1:Int)==0)=true then _ else _) _ _ s;rw [if_neg (by decide)];refine wpAny_bind (wu pl (wpAny_bind (wu pu (wpAny_bind (wpAny_pure ?_)))));show wpAny _ _ (match Builtin.Slice.sliceAdjust lo hi 1 (n:Int) with | (lo,hi)=>pure (lo,(1:Int),Builtin.Slice.slicePlaces lo hi 1)) _ _ s;rw [BI lo hi n];show wpAny _ _ (pure (((sIx n 0 lo:Nat):Int),(1:Int),Builtin.Slice.slicePlaces ((sIx n 0 lo:Nat):Int) ((sIx n n hi:Nat):Int) 1)) _ _ s;rw [Bf];exact wpAny_pure h
theorem D2 (xs:Array Value) (i k:Nat):((List.range k).filterMap fun (m:Nat)=>xs[((i:Int)+(m:Int)*1).toNat]?).toArray=((xs.toList.drop i).take k).toArray:=by
 have e:(fun (m:Nat)=>xs[((i:Int)+(m:Int)*1).toNat]?)=fun m=>xs[i+m]?:=by
  funext m
  have:((i:Int)+(m:Int)*1).toNat=i+m:=by omega
  rw [this]
 rw [e]
 have:=pick_run xs i k
 rw [List.filterMap_map] at this;have e2:((fun x=>xs[x]?)∘fun x=>i+x)=fun m=>xs[i+m]?:=rfl;rw [e2] at this;rw [this]
theorem getItem_tuple_cut {t sl:Addr} {items:Array Value} {vl vu:Value} {lo hi:Option Int} {Q:Value→Shared→Prop} (ht:IsTup s.heap t items) (hs:s.heap.IsSliceOf sl vl vu .none) (pl:IsPart vl lo) (pu:IsPart vu hi)
  (hw:¬ (sIx items.size 0 lo=0∧sIx items.size items.size hi=items.size))
  (h:Q (.ref s.heap.objs.size) { s with heap:=s.heap.push { cls:=.type "tuple", data:=.seq ((items.toList.drop (sIx items.size 0 lo)).take (sIx items.size items.size hi - sIx items.size 0 lo)).toArray } })
  (hsz:items.size≤sizeLine):wpAny (model prog w) A (getItem (.ref t) (.ref sl)) Q E s:=by
 have htake:sizeOk (.seq ((items.toList.drop (sIx items.size 0 lo)).take (sIx items.size items.size hi - sIx items.size 0 lo)).toArray):=by
  show ((items.toList.drop (sIx items.size 0 lo)).take (sIx items.size items.size hi - sIx items.size 0 lo)).toArray.size≤sizeLine;rw [LZ,List.length_take,Mh,Array.length_toList];omega
 have hj:sIx items.size items.size hi≤items.size:=Iv _ _ (LS _) hi;obtain ⟨os,hos,hcs,hds⟩:=id hs;have hTs:s.TypeIs (.ref sl) "slice" := ⟨os,hos,hcs⟩;unfold getItem
 try with_reducible refine wpAny_holding ?_
 first | refine wpAny_bind (wpAny_pure ?_) | skip
 refine wpAny_bind (wpAny_sequenceKey ht.typeIs (by decide) ?_);refine wpAny_bind (wpAny_callSpecial?_slot (name:=Str.ofString "__getitem__") ht.typeIs PyProof.Rows.slot_tuple_getitem
  (wpAny_call_entry PyProof.Rows.slot_tuple_getitem ht.typeIs entry_tuple_getitem ?_ (args_tuple_getitem _ _)))
 show wpAny _ _ (Builtin.Tuple.tupleItemsOf (.ref t) >>= _) _ _ s;refine wpAny_bind (tupleItemsOf_ ht ?_);refine wpAny_bind (wpAny_typeOf hTs ?_);rw [if_pos (by decide)];refine wpAny_bind (sliceApplied_gen hs pl pu ?_);have hno:¬ ((((sIx items.size 0 lo:Nat):Int)==0&&(1:Int)==1&&(sIx items.size items.size hi - sIx items.size 0 lo)==items.size)=true):=by
  intro q;rw [Ms,Ms] at q;have q1:((sIx items.size 0 lo:Nat):Int)=0:=eq_of_beq q.1.1;have q2:sIx items.size items.size hi - sIx items.size 0 lo=items.size:=eq_of_beq q.2;exact hw ⟨by omega,by omega⟩
 show wpAny _ _ (if (((sIx items.size 0 lo:Nat):Int)==0&&(1:Int)==1&&(sIx items.size items.size hi - sIx items.size 0 lo)==items.size)=true then _ else _) _ _ s;rw [if_neg hno,D2]
 first
  | exact wpAny_bind (m:=Builtin.Tuple.tupleExact _) (wpAny_newObj_type (wpAny_pure ⟨_,rfl,wpAny_pure h⟩) htake)
  | exact wpAny_bind (m:=Builtin.Tuple.tupleExact _) (wpAny_newObj_type (wpAny_bind (wpAny_pure (wpAny_pure ⟨_,rfl,wpAny_pure h⟩))) htake)
  | exact wpAny_bind (wpAny_bind (m:=Builtin.Tuple.tupleExact _) (wpAny_newObj_type (wpAny_pure (wpAny_pure ⟨_,rfl,wpAny_pure h⟩)) htake))
  | exact wpAny_bind (wpAny_bind (m:=Builtin.Tuple.tupleExact _) (wpAny_newObj_type (wpAny_pure ⟨_,rfl,wpAny_pure h⟩) htake))
end
end HT
namespace L2
open PySem PySem.Spec PyProof.Rows
noncomputable abbrev TO:=St→Hp→(Option Int→Hp→Prop)→Prop
noncomputable def PO (X:Cx) (e:Option Expr) (t:TO):Prop :=
 ∀ (pins:List (Addr×Obj)) (s:Shared) (σ:St) (H:Hp) (Q:Option Int→Hp→Prop),Inv X pins σ H s→t σ H Q →
  wpAny (model X.prog X.w) X.A (evalPart e X.env) (fun u s'=>∃ o H',Inv X pins σ H' s'∧IsPart u o∧Q o H') X.xe s
noncomputable def FP:TO:=fun _ H Q=>Q none H
noncomputable def JQ (t:TE):TO:=fun σ H Q=>t σ H fun x H1=>∃ i,x=.int i∧Q (some i) H1
theorem Br {ns:List Int}:∀ {us:List Value},Vals (ns.map V.int) us→IntsAre us ns:=by
 induction ns with
 | nil=>intro us r; rw [M5] at r; cases r; exact .nil
 | cons n ns ih =>
  intro us r;rw [LW] at r;cases r with
  | cons r1 r2 =>
   obtain ⟨t,e⟩:=r1;subst e;exact .cons n t (ih r2)
section
variable {X:Cx} {e:Expr} {te:TE} {lo hi:Option Expr} {tl th:TO} {pos p2:Pos}
theorem Gi:PO X none FP:=by
 intro pins s σ H Q I h;rw [evalPart_none];exact wpAny_pure ⟨none,H,I,.none,h⟩
theorem Gh (h:PE X e te):PO X (some e) (JQ te):=by
 intro pins s σ H Q I hw;rw [evalPart_some];refine thn (h pins s σ H _ I hw) fun u s1 ⟨x,H1,I1,r1,q1⟩=>?_;obtain ⟨i,rfl,q⟩:=q1;obtain ⟨t,rfl⟩:=r1;exact ⟨some i,H1,I1,.int i t,q⟩
noncomputable def SlR (X:Cx) (r:V→Option Int→Option Int→Hp→VK→Prop):Prop :=
 ∀ (pins:List (Addr×Obj)) (s:Shared) (σ:St) (H:Hp) (x:V) (v vl vu:Value) (lo hi:Option Int) (sl:Addr) (Q:VK),Inv X pins σ H s→RelV x v→s.heap.IsSliceOf sl vl vu .none→IsPart vl lo→IsPart vu hi→r x lo hi H Q →
  ∃ T id,typeLookup (.type T) "__getitem__" = pure (some (.builtin id))∧s.TypeIs v T∧wpAny (model X.prog X.w) X.A (getItem v (.ref sl)) (EP X pins σ Q) X.xe s
theorem SlR.or {r r':V→Option Int→Option Int→Hp→VK→Prop} (h:SlR X r) (h':SlR X r'):SlR X (fun x lo hi H Q=>r x lo hi H Q∨r' x lo hi H Q):=by
 intro pins s σ H x v vl vu lo hi sl Q I rx hs pl pu q;rcases q with q | q
 ·exact h pins s σ H x v vl vu lo hi sl Q I rx hs pl pu q
 ·exact h' pins s σ H x v vl vu lo hi sl Q I rx hs pl pu q
noncomputable def tSl (r:V→Option Int→Option Int→Hp→VK→Prop) (te:TE) (tl th:TO):TE:=fun σ H Q=>te σ H fun x H1=>tl σ H1 fun l H2=>th σ H2 fun u H3=>r x l u H3 Q
theorem z4 {r:V→Option Int→Option Int→Hp→VK→Prop} (hr:SlR X r) (he:PE X e te) (hl:PO X lo tl) (hu:PO X hi th):PE X (.Subscript e (.Slice lo hi none p2) pos) (tSl r te tl th):=by
 intro pins s σ H Q I h;refine Subscript_ (thn (he pins s σ H _ I h) fun v s1 ⟨x,H1,I1,r1,q1⟩=>?_);refine wpAny_Slice (thn (hl pins s1 σ H1 _ I1 q1) fun vl s2 ⟨l,H2,I2,pl,q2⟩=>thn (hu pins s2 σ H2 _ I2 q2) fun vu s3 ⟨u,H3,I3,pu,q3⟩=>?_);rw [evalPart_none];refine wpAny_pure ?_;have I4:Inv X pins σ H3 { s3 with heap:=s3.heap.push { cls:=.type "slice", data:=.fields #[vl,vu,.none] } }:=I3.kept (t':=s3.toks) fun b ob q=>Heap.get?_push_of_some _ q;obtain ⟨T,id,hT,ht,hg⟩:=hr pins { s3 with heap:=s3.heap.push { cls:=.type "slice", data:=.fields #[vl,vu,.none] } } σ H3 x v vl vu l u s3.heap.objs.size Q I4 r1 (Heap.IsSliceOf.new ..) pl pu q3;show wpAny (model X.prog X.w) X.A (subscriptTail e (.Slice lo hi none p2) v (.ref s3.heap.objs.size)) (EP X pins σ Q) X.xe { s3 with heap:=s3.heap.push { cls:=.type "slice", data:=.fields #[vl,vu,.none] } };exact tail_any (ops:=[.ref s3.heap.objs.size,v]) ht hT hg (by with_unfolding_all rfl)
noncomputable def v6 (xs:List V) (lo hi:Option Int):List V:=(xs.drop (HT.sIx xs.length 0 lo)).take (HT.sIx xs.length xs.length hi - HT.sIx xs.length 0 lo)
theorem vJ (xs:List V) (lo hi:Option Int):(v6 xs lo hi).length≤xs.length:=by
 unfold v6;rw [List.length_take,Mh];omega
noncomputable def J6 (K:LN):V→Option Int→Option Int→Hp→VK→Prop:=fun x lo hi H Q=>∃ a xs,x=.ref a∧SqT K H a xs ∧
 ¬ (HT.sIx xs.length 0 lo=0∧HT.sIx xs.length xs.length hi=xs.length)∧∀ p,H p=none→Q (.ref p) (upd H p (.tup (v6 xs lo hi)))
theorem sl_tup:SlR X (J6 X.K):=by
 intro pins s σ H x v vl vu lo hi sl Q I rx hs pl pu h;obtain ⟨a,xs,rfl,hx,hw,q⟩:=h;cases rx;obtain ⟨its,r,ht,hz⟩:=I.tuple hx;have hlen:its.toArray.size=xs.length:=by rw [LZ]; exact r.length.symm
 refine ⟨"tuple", _,PyProof.Rows.slot_tuple_getitem.lookup,ht.typeIs,?_⟩;refine HT.getItem_tuple_cut ht hs pl pu (by rw [hlen]; exact hw) ?_ (by rw [hlen]; exact hz);rw [hlen];refine ⟨.ref s.heap.objs.size,_,I.laid (t':=s.toks) (o:=.tup (v6 xs lo hi)) (fun b ob q=>Heap.get?_push_of_some _ q) (LS _) ?_,rfl,q _ (I.hok.fresh (LS _))⟩;exact ⟨L9 (vJ xs lo hi) hz,_,(r.drop (HT.sIx xs.length 0 lo)).take (HT.sIx xs.length xs.length hi - HT.sIx xs.length 0 lo),IsTup.new _ _⟩
theorem Vals.nil_iff {xs:List V} {us:List Value} (r:Vals xs us):us=[]↔xs=[]:=by
 cases r with
 | nil=>simp
 | cons _ _=>simp
end
noncomputable def ixN (n:Nat) (i:Int):Option Nat:=if 0≤i then (if i < n then some i.toNat else none) else if -(n:Int)≤i then some (i+n).toNat else none
noncomputable def atI {α:Type} (xs:List α) (i:Int):Option α:=(ixN xs.length i).bind fun j=>xs[j]?
theorem GL {n:Nat} {i:Int} {j:Nat} (h:ixN n i=some j):seqIndex? i n=some j∧j < n∧-(n:Int)≤i∧i < n:=by
 unfold ixN at h;by_cases h0:0≤i
 ·rw [if_pos h0] at h;by_cases h1:i < n
  ·rw [if_pos h1] at h;have e:i.toNat=j:=Option.some.inj h;exact ⟨by rw [seqIndex_of h0 h1,e],by omega,by omega,h1⟩
  ·rw [if_neg h1] at h; cases h
 ·rw [if_neg h0] at h;by_cases h1:-(n:Int)≤i
  ·rw [if_pos h1] at h;have e:(i+n).toNat=j:=Option.some.inj h;exact ⟨by rw [seqIndex_neg (by omega) h1,e],by omega,h1,by omega⟩
  ·rw [if_neg h1] at h; cases h
theorem zt {α:Type} {xs:List α} {i:Int} {v:α} (h:atI xs i=some v):∃ j,seqIndex? i xs.length=some j∧xs[j]?=some v∧j < xs.length∧-(xs.length:Int)≤i∧i < xs.length:=by
 unfold atI at h;cases e:ixN xs.length i with
 | none=>rw [e] at h; cases h
 | some j =>
  rw [e] at h;obtain ⟨h1,h2,h3,h4⟩:=GL e;exact ⟨j,h1,h,h2,h3,h4⟩
theorem wo {α:Type} {xs:List α} {j:Nat} {v:α} (h:xs[j]?=some v):atI xs (j:Int)=some v:=by
 have hj:j < xs.length:=(LT.mp h).1;have e:ixN xs.length (j:Int)=some j:=by
  unfold ixN;rw [if_pos (by omega),if_pos (by omega)]; simp
 unfold atI; rw [e]; exact h
noncomputable def rB (b:Expr):Prop:=∀ o i,subscripted b false o i=operate [o,i] (getItem o i)
noncomputable def IxR (X:Cx) (r:R2):Prop :=
 ∀ (value slice:Expr) (pins:List (Addr×Obj)) (s:Shared) (σ:St) (H:Hp) (x y:V) (v u:Value) (Q:VK),Inv X pins σ H s→RelV x v→RelV y u→r x y H Q →
  subscripted slice false v u=operate [v,u] (getItem v u)→wpAny (model X.prog X.w) X.A (subscriptTail value slice v u) (EP X pins σ Q) X.xe s
noncomputable def MtR (X:Cx) (id:String) (r:V→List V→Hp→VK→Prop):Prop :=
 ∀ (pins:List (Addr×Obj)) (s:Shared) (σ:St) (H:Hp) (x:V) (xs:List V) (v:Value) (us:List Value) (Q:VK),Inv X pins σ H s→RelV x v→Vals xs us→r x xs H Q →
  wpAny (model X.prog X.w) X.A (call (.builtin id) (v::us)) (EP X pins σ Q) X.xe s
section
variable {X:Cx} {a b:Expr} {ta tb:TE} {pos:Pos}
theorem IxR.or {r r':R2} (h:IxR X r) (h':IxR X r'):IxR X (fun x y H Q=>r x y H Q∨r' x y H Q):=by
 intro value slice pins s σ H x y v u Q I rx ry q hs;rcases q with q | q
 ·exact h value slice pins s σ H x y v u Q I rx ry q hs
 ·exact h' value slice pins s σ H x y v u Q I rx ry q hs
theorem D8 {r:R2} (hr:IxR X r) (ha:PE X a ta) (hb:PE X b tb) (hs:rB b):PE X (.Subscript a b pos) (tOp r ta tb):=by
 intro pins s σ H Q I h;exact Subscript_ (Jo ha hb I h fun v u s2 x y H2 I2 rx ry q=>hr a b pins s2 σ H2 x y v u Q I2 rx ry q (hs _ _))
noncomputable def Kb (K:LN):R2:=fun x y H Q=>∃ p xs i v,x=.ref p∧y=.int i∧SqL K H p xs∧atI xs i=some v∧Q v H
noncomputable def J9 (K:LN):R2:=fun x y H Q=>∃ p xs i v,x=.ref p∧y=.int i∧SqT K H p xs∧atI xs i=some v∧Q v H
noncomputable def Ka:R2:=fun x y H Q=>∃ z i c,x=.str z∧y=.int i∧z.length≤sizeLine∧atI z.cps.toList i=some c∧Q (.str ⟨#[c]⟩) H
theorem ix_list:IxR X (Kb X.K):=by
 intro value slice pins s σ H x y v u Q I rx ry h hs;obtain ⟨p,xs,i,z,rfl,rfl,hq,he,q⟩:=h;cases rx;obtain ⟨t,rfl⟩:=ry;obtain ⟨its,r,pl,hz⟩:=I.list hq;obtain ⟨j,h1,h2,h3,h4,h5⟩:=zt he;obtain ⟨w,ew,rw'⟩:=r.get h2;have hl:=r.length;have hn:=uW;have fin:EP X pins σ Q w s:=⟨z,H,I,rw',q⟩;by_cases h0:0≤i
 ·have hj:i.toNat=j:=by
   rw [seqIndex_of h0 h5] at h1;exact Option.some.inj h1
  exact item_listR pl.isList h0 (by omega) (by rw [hj]; simpa using ew) fin hs
 ·have hj:(i+(its.toArray.size:Int)).toNat=j:=by
   rw [seqIndex_neg (by omega) h4] at h1;rw [LZ,← hl];exact Option.some.inj h1
  exact subscriptTail_builtinR (x:=w) pl.isList.typeIs slot_list_getitem.lookup
   (wpAny_getItem_list_neg (Q:=fun r s'=>r=w∧EP X pins σ Q r s') pl.isList (by omega) (by rw [LZ] <;> omega) (by omega) (by rw [hj]; simpa using ew) ⟨rfl,fin⟩) hs
theorem ix_tup:IxR X (J9 X.K):=by
 intro value slice pins s σ H x y v u Q I rx ry h hs;obtain ⟨p,xs,i,z,rfl,rfl,hq,he,q⟩:=h;cases rx;obtain ⟨t,rfl⟩:=ry;obtain ⟨its,r,pl,hz⟩:=I.tuple hq;obtain ⟨j,h1,h2,h3,h4,h5⟩:=zt he;obtain ⟨w,ew,rw'⟩:=r.get h2;have hl:=r.length;have hn:=uW;have fin:EP X pins σ Q w s:=⟨z,H,I,rw',q⟩;exact subscriptTail_builtinR (x:=w) pl.typeIs slot_tuple_getitem.lookup
  (getItem_tuple (j:=j) (Q:=fun r s'=>r=w∧EP X pins σ Q r s') pl (by omega) (by omega) (by rw [LZ,← hl]; exact h1) (by simpa using ew) ⟨rfl,fin⟩) hs
theorem Jb:IxR X Ka:=by
 intro value slice pins s σ H x y v u Q I rx ry h hs;obtain ⟨z,i,c,rfl,rfl,hz,he,q⟩:=h;obtain ⟨t,rfl⟩:=rx;obtain ⟨t',rfl⟩:=ry;obtain ⟨j,h1,h2,h3,h4,h5⟩:=zt he;have hl:z.cps.toList.length=z.length:=by simp [Str.length]
 rw [hl] at h1 h4 h5;have hn:=uW;exact tail_any (typeIs_str s z t) slot_str_getitem.lookup (getItem_str (c:=c) (by
  have e1:decide (i < -(2 ^ 63:Int))=false:=decide_eq_false (by omega);have e2:decide (i ≥ 2 ^ 63)=false:=decide_eq_false (by omega);rw [e1,e2,Bool.or_false]) (by rw [h1]; simpa using h2) ⟨.str ⟨#[c]⟩,H,I.tok _,⟨_,rfl⟩,q⟩) hs
noncomputable def rIx (K:LN):R2:=fun x y H Q=>Kb K x y H Q∨J9 K x y H Q∨Ka x y H Q
theorem EM:IxR X (rIx X.K):=ix_list.or (ix_tup.or Jb)
theorem yH (lo hi:Option Int) (n:Nat):(sliceBounds lo hi none n).1=((HT.sIx n 0 lo:Nat):Int)∧(sliceBounds lo hi none n).2.1=((HT.sIx n n hi:Nat):Int)∧(sliceBounds lo hi none n).2.2=1:=by
 refine ⟨?_,?_,rfl⟩
 ·cases lo with
  | none=>simp [sliceBounds,HT.sIx]
  | some i =>
   simp only [sliceBounds,HT.sIx,Option.getD_none,show (1:Int) > 0 by decide,if_true];by_cases h:i < 0
   ·simp only [h,if_true] <;> omega
   ·simp only [h,if_false] <;> omega
 ·cases hi with
  | none=>simp [sliceBounds,HT.sIx]
  | some i =>
   simp only [sliceBounds,HT.sIx,Option.getD_none,show (1:Int) > 0 by decide,if_true];by_cases h:i < 0
   ·simp only [h,if_true] <;> omega
   ·simp only [h,if_false] <;> omega
theorem xG (its:List Value) (lo hi:Option Int):slicePick its.toArray lo hi none=((its.drop (HT.sIx its.length 0 lo)).take (HT.sIx its.length its.length hi - HT.sIx its.length 0 lo)).toArray:=by
 obtain ⟨h1,h2,h3⟩:=yH lo hi its.toArray.size;unfold slicePick;rw [h1,h2,h3];simp only [sliceRange_one,pick_run,LZ] <;> rfl
noncomputable def J7 (K:LN):V→Option Int→Option Int→Hp→VK→Prop:=fun x lo hi H Q=>∃ a xs,x=.ref a∧SqL K H a xs∧∀ p,H p=none→Q (.ref p) (upd H p (.lst (v6 xs lo hi)))
theorem sl_list:SlR X (J7 X.K):=by
 intro pins s σ H x v vl vu lo hi sl Q I rx hs pl pu h;obtain ⟨a,xs,rfl,hx,q⟩:=h;cases rx;obtain ⟨its,r,ht,hz⟩:=I.list hx;have hlen:=r.length;refine ⟨"list", _,slot_list_getitem.lookup,ht.isList.typeIs,?_⟩;refine wpAny_getItem_list_slice ht.isList hs pl pu .none (by simp) ?_ (by rw [LZ] <;> omega);rw [xG,← hlen];refine ⟨.ref s.heap.objs.size,_,I.laid (t':=s.toks) (o:=.lst (v6 xs lo hi)) (fun b ob q=>Heap.get?_push_of_some _ q) (LS _) ?_,rfl,q _ (I.hok.fresh (LS _))⟩;exact ⟨L9 (vJ xs lo hi) hz,_,0,(r.drop (HT.sIx xs.length 0 lo)).take (HT.sIx xs.length xs.length hi - HT.sIx xs.length 0 lo),Heap.get?_push_size _ rfl⟩
noncomputable def sw:V→Bool
 | .non=>true
 | .bl _=>true
 | .int _=>true
 | .str _=>true
 | _=>false
noncomputable def eqV:V→V→Bool
 | .non,.non=>true
 | .bl a,.bl b=>a==b
 | .bl a,.int b=>(if a then 1 else 0)==b
 | .int a,.bl b=>a==(if b then 1 else 0)
 | .int a,.int b=>a==b
 | .str a,.str b=>a==b
 | _,_=>false
theorem Jj {A:Around} {s:Shared} {y x:V} {u v:Value} (ry:RelV y u) (rx:RelV x v) (fy:sw y=true) (fx:sw x=true):SeqAt.EqAt A s u v (eqV y x):=by
 cases y with
 | non =>
  cases ry;cases x with
  | non=>cases rx; exact SeqAt.EqAt.same _
  | bl b=>cases rx; exact SeqAt.EqAt.none_bool b
  | int b=>obtain ⟨t,rfl⟩:=rx; exact SeqAt.EqAt.none_int b t
  | str b=>obtain ⟨t,rfl⟩:=rx; exact SeqAt.EqAt.none_str b t
  | _=>exact absurd (show false=true from fx) LU
 | bl a =>
  cases ry;cases x with
  | non=>cases rx; exact SeqAt.EqAt.bool_none a
  | bl b=>cases rx; exact SeqAt.EqAt.bool_bool a b
  | int b=>obtain ⟨t,rfl⟩:=rx; exact SeqAt.EqAt.bool_int a b t
  | str b=>obtain ⟨t,rfl⟩:=rx; exact SeqAt.EqAt.bool_str a b t
  | _=>exact absurd (show false=true from fx) LU
 | int a =>
  obtain ⟨t',rfl⟩:=ry;cases x with
  | non=>cases rx; exact SeqAt.EqAt.int_none a t'
  | bl b=>cases rx; exact SeqAt.EqAt.int_bool a t' b
  | int b=>obtain ⟨t,rfl⟩:=rx; exact SeqAt.EqAt.int_int a t' b t
  | str b=>obtain ⟨t,rfl⟩:=rx; exact SeqAt.EqAt.int_str a t' b t
  | _=>exact absurd (show false=true from fx) LU
 | str a =>
  obtain ⟨t',rfl⟩:=ry;cases x with
  | non=>cases rx; exact SeqAt.EqAt.str_none a t'
  | bl b=>cases rx; exact SeqAt.EqAt.str_bool a t' b
  | int b=>obtain ⟨t,rfl⟩:=rx; exact SeqAt.EqAt.str_int a t' b t
  | str b=>obtain ⟨t,rfl⟩:=rx; exact SeqAt.EqAt.str_str a t' b t
  | _=>exact absurd (show false=true from fx) LU
 | _=>exact absurd (show false=true from fy) LU
noncomputable def eqU (x:V) (u:Value):Bool:=match u with
 | .none=>eqV .non x
 | .bool b=>eqV (.bl b) x
 | .int i _=>eqV (.int i) x
 | .str z _=>eqV (.str z) x
 | _=>false
theorem E1 {x y:V} {u:Value} (r:RelV y u) (f:sw y=true):eqU x u=eqV y x:=by
 cases y with
 | non=>cases r; rfl
 | bl b=>cases r; rfl
 | int i=>obtain ⟨t,rfl⟩:=r; rfl
 | str z=>obtain ⟨t,rfl⟩:=r; rfl
 | _=>exact absurd (show false=true from f) LU
theorem uB {x:V}:∀ {xs:List V} {us:List Value},Vals xs us→xs.all sw=true→us.any (eqU x)=xs.any fun y=>eqV y x
 | _,_,.nil,_=>rfl
 | y::xs,u::us,.cons r t,f=>by
  rw [MY,Ms] at f;rw [Mt,Mt,E1 r f.1,uB t f.2]
theorem qF {A:Around} {s:Shared} {x:V} {v:Value} (rx:RelV x v) (fx:sw x=true):∀ {xs:List V} {us:List Value},Vals xs us→xs.all sw=true→∀ u∈us,SeqAt.EqAt A s u v (eqU x u)
 | _,_,.nil,_=>fun u hu=>by cases hu
 | y::xs,u::us,.cons r t,f=>fun u' hu=>by
  rw [MY,Ms] at f;rcases Mb.mp hu with rfl | hu
  ·rw [E1 r f.1]; exact Jj r rx f.1 fx
  ·exact qF rx fx t f.2 u' hu
noncomputable def inV (x:V) (xs:List V):Bool:=xs.any fun y=>eqV y x
noncomputable def rIn (K:LN) (neg:Bool):R2:=fun x y H Q=>∃ p xs,y=.ref p∧(SqL K H p xs∨SqT K H p xs)∧sw x=true∧xs.all sw=true∧Q (.bl (if neg then !inV x xs else inV x xs)) H
theorem op_in_seq:OpR X (compareOp .In) (rIn X.K false):=by
 intro pins s σ H x y v u Q I rx ry h;obtain ⟨p,xs,rfl,hq,fx,fs,q⟩:=h;cases ry;rcases hq with hq | hq
 ·obtain ⟨its,r,pl,hz⟩:=I.list hq;refine SeqAt.in_listAt (eqU x) pl.isList (fun w hw=>qF rx fx r fs w (by simpa using hw)) ⟨.bl _,H,I,rfl,?_⟩;rw [show its.toArray.any (eqU x)=its.any (eqU x) by simp,uB r fs];exact q
 ·obtain ⟨its,r,pl,hz⟩:=I.tuple hq;refine SeqAt.in_tupleAt (eqU x) pl (fun w hw=>qF rx fx r fs w (by simpa using hw)) ⟨.bl _,H,I,rfl,?_⟩;rw [show its.toArray.any (eqU x)=its.any (eqU x) by simp,uB r fs];exact q
theorem op_notIn_seq:OpR X (compareOp .NotIn) (rIn X.K true):=by
 intro pins s σ H x y v u Q I rx ry h;obtain ⟨p,xs,rfl,hq,fx,fs,q⟩:=h;cases ry;rcases hq with hq | hq
 ·obtain ⟨its,r,pl,hz⟩:=I.list hq;refine SeqAt.notIn_listAt (eqU x) pl.isList (fun w hw=>qF rx fx r fs w (by simpa using hw)) ⟨.bl _,H,I,rfl,?_⟩;rw [show its.toArray.any (eqU x)=its.any (eqU x) by simp,uB r fs];exact q
 ·obtain ⟨its,r,pl,hz⟩:=I.tuple hq;refine SeqAt.notIn_tupleAt (eqU x) pl (fun w hw=>qF rx fx r fs w (by simpa using hw)) ⟨.bl _,H,I,rfl,?_⟩;rw [show its.toArray.any (eqU x)=its.any (eqU x) by simp,uB r fs];exact q
theorem yS:OpR X (compareOp .NotIn) (fun x y H Q=>∃ i j,x=.str i∧y=.str j∧Q (.bl (!(!(Builtin.Str.occurrences j i 0 j.length 1).isEmpty))) H):=by
 intro pins s σ H x y v u Q I rx ry h;obtain ⟨i,j,rfl,rfl,q⟩:=h;obtain ⟨t,rfl⟩:=rx;obtain ⟨t',rfl⟩:=ry;exact notIn_str ⟨.bl _,H,I,rfl,q⟩
theorem call_len_seq:CallR X (.builtin "len") (fun xs H Q=>∃ p ys,xs=[.ref p]∧(SqL X.K H p ys∨SqT X.K H p ys)∧Q (.int ys.length) H):=by
 intro pins s σ H xs us Q I r h;obtain ⟨p,ys,rfl,hq,q⟩:=h;obtain ⟨u,rfl,rx⟩:=pQ r;cases rx;have hn:=uW;rcases hq with hq | hq
 ·obtain ⟨its,r',pl,hz⟩:=I.list hq;have hlen:=r'.length;exact Calls.call_len_list pl.isList (by simp only [LZ] <;> omega) ⟨.int ys.length,H,I.tok _,⟨s.toks+1,by rw [LZ,hlen]⟩,q⟩
 ·obtain ⟨its,r',pl,hz⟩:=I.tuple hq;have hlen:=r'.length;exact len_tuple pl (by simp only [LZ] <;> omega) ⟨.int ys.length,H,I.tok _,⟨s.toks+1,by rw [LZ,hlen]⟩,q⟩
theorem zn:CallR X (.builtin "len") (fun xs H Q=>∃ z,xs=[.str z]∧z.length≤sizeLine∧Q (.int z.length) H):=by
 intro pins s σ H xs us Q I r h;obtain ⟨z,rfl,hz,q⟩:=h;obtain ⟨u,rfl,t,rfl⟩:=pQ r;have hn:=uW;exact len_str (by omega) ⟨.int z.length,H,I.tok _,⟨_,rfl⟩,q⟩
theorem CallR.or {f:Value} {r r':List V→Hp→VK→Prop} (h:CallR X f r) (h':CallR X f r'):CallR X f (fun xs H Q=>r xs H Q∨r' xs H Q):=by
 intro pins s σ H xs us Q I rs q;rcases q with q | q
 ·exact h pins s σ H xs us Q I rs q
 ·exact h' pins s σ H xs us Q I rs q
theorem xU:CallR X (.type "tuple") (fun xs H Q=>∃ p ys,xs=[.ref p]∧((SqL X.K H p ys∧∀ l,H l=none→Q (.ref l) (upd H l (.tup ys)))∨(SqT X.K H p ys∧Q (.ref p) H))):=by
 intro pins s σ H xs us Q I r h;obtain ⟨p,ys,rfl,h⟩:=h;obtain ⟨u,rfl,rx⟩:=pQ r;cases rx;rcases h with ⟨hq,q⟩ | ⟨hq,q⟩
 ·obtain ⟨its,r',pl,hz⟩:=I.list hq;have hlen:=r'.length;refine call_tuple_list pl.isList (fun h' kp=>?_) (by simp only [LZ] <;> omega);have I1:Inv X pins σ H { s with heap:=h' }:=I.kept (t':=s.toks) kp;have I2:Inv X pins σ (upd H h'.objs.size (.tup ys)) { s with heap:=h'.push { cls:=.type "tuple", data:=.seq its.toArray } } :=
   I1.laid (t':=s.toks) (fun b o e=>Heap.get?_push_of_some _ e) (LS _) (show ObjOk X.prog X.w _ _ _ (.tup ys) from ⟨hz,its,r',IsTup.new _ _⟩)
  exact ⟨.ref h'.objs.size,_,I2,rfl,q _ (I1.hok.fresh (LS _))⟩
 ·obtain ⟨its,r',pl,hz⟩:=I.tuple hq;exact call_tuple_same pl ⟨.ref p,H,I,rfl,q⟩
noncomputable def tyV (K:LN) (T:String) (x:V) (H:Hp):Prop:=match x with
 | .str _=>T = "str"
 | .int _=>T = "int"
 | .ref p=>(T = "list" ∧ ∃ xs,SqL K H p xs)∨(T = "tuple" ∧ ∃ o,K.lookup p=some o∧o.cls=.type "tuple" ∧ o.dict=none) ∨
   (T = "dict" ∧ ((∃ kvs,H p=some (.dK kvs))∨∃ kvs,H p=some (.dT kvs)))∨(T = "set" ∧ ∃ S n,H p=some (.set S n))
 | _=>False
theorem HZ {pins:List (Addr×Obj)} {σ:St} {H:Hp} {s:Shared} {T:String} {x:V} {v:Value} (I:Inv X pins σ H s) (r:RelV x v) (ty:tyV X.K T x H) :
  s.TypeIs v T∧∀ a,v=.ref a→∃ ob,s.heap.get? a=some ob∧ob.dict=none:=by
 cases x with
 | str z =>
  obtain ⟨t,rfl⟩:=r;cases (show T = "str" from ty);exact ⟨typeIs_str s z t,fun _ e=>nomatch e⟩
 | int i =>
  obtain ⟨t,rfl⟩:=r;cases (show T = "int" from ty);exact ⟨typeIs_int s i t,fun _ e=>nomatch e⟩
 | ref p =>
  cases r;rcases ty with ⟨rfl,xs,hq⟩ | ⟨rfl,o,hk,hc,hd⟩ | ⟨rfl,hk⟩ | ⟨rfl,S,n,hk⟩
  ·obtain ⟨its,_,pl,_⟩:=I.list hq;refine ⟨pl.isList.typeIs,fun a e=>?_⟩;cases e;obtain ⟨o,n,e,c,hd,_⟩:=pl;exact ⟨o,e,hd⟩
  ·refine ⟨⟨o,I.kIn p o hk,hc⟩,fun a e=>?_⟩;cases e;exact ⟨o,I.kIn _ o hk,hd⟩
  ·have z:∃ o,s.heap.get? p=some o∧o.ExactDict:=by
    rcases hk with ⟨kvs,hk⟩ | ⟨kvs,hk⟩
    ·obtain ⟨_,_,_,_,o,_,_,e,ex,_⟩:=I.hok p _ hk;exact ⟨o,e,ex⟩
    ·obtain ⟨_,_,_,_,o,_,_,e,ex,_⟩:=I.hok p _ hk;exact ⟨o,e,ex⟩
   obtain ⟨o,e,ex⟩:=z;refine ⟨⟨o,e,ex.1⟩,fun a e2=>?_⟩;cases e2;exact ⟨o,e,ex.2.1⟩
  ·obtain ⟨o,_,_,_,e,ex,_⟩:=I.hok p _ hk;refine ⟨⟨o,e,ex.1⟩,fun a e2=>?_⟩;cases e2;exact ⟨o,e,ex.2.1⟩
 | _=>exact False.elim ty
noncomputable def tBM (K:LN) (T:String) (r:V→List V→Hp→VK→Prop) (to:TE) (t:TA):TE:=fun σ H Q=>to σ H fun x H1=>tyV K T x H1∧t σ H1 fun xs H2=>r x xs H2 Q
variable {o e:Expr} {es:List Expr} {to:TE} {t:TA} {name:Str} {apos cpos:Pos} {T id:String} {r:V→List V→Hp→VK→Prop}
theorem B9 (pa:PlainAttrs T) (slot:Slot T name id) (hty:typeOf (.builtin id)=pure (.type "method_descriptor")) (hm:MtR X id r) (ho:PE X o to) (ha:PA X (e::es) t)
  (hbase:attributeBase o name X.env (eval o X.env)=eval o X.env:=by rfl)
  (hfew:((backTo cpos (starEach (e::es) X.env)).all (fun x=>!x.1)&&(backToKw cpos (keywordEach [] X.env)).all (fun x=>x.1.isSome)
   && decide ((e::es).length+([]:List Keyword).length+(if ([]:List Keyword).isEmpty then 0 else 1) < 30))=true:=by rfl)
  (hline:(apos.endLine==cpos.line)=true:=by rfl) (hs:starEach (e::es) X.env=(false,eval e X.env)::starEach es X.env:=by rfl) (hplain:(backTo cpos (starEach es X.env)).any (·.1)=false:=by rfl) :
  PE X (.Call (.Attribute o name apos) (e::es) [] cpos) (tBM X.K T r to t):=by
 intro pins s σ H Q I h;refine wpAny_Call_method_late hbase hfew hline rfl (thn (ho pins s σ H _ I h) fun v s1 ⟨x,H1,I1,r1,ty,q1⟩=>?_);obtain ⟨h1,h2⟩:=HZ I1 r1 ty;refine ⟨T,id,pa,slot,hty,h1,h2,?_⟩;have hA:=ha cpos pins s1 σ H1 _ I1 q1;rw [hs] at hA ⊢;refine Calls.callWith_builtin (by show (false||(backTo cpos (starEach es X.env)).any (·.1))=false; rw [hplain] <;> rfl) (Calls.evalArgs_plain ?_);exact thn hA fun us s2 ⟨vs,H2,I2,r2,q2⟩=>hm pins s2 σ H2 x vs v us Q I2 r1 r2 q2
end
noncomputable def MtM (X:Cx) (id:String) (r:V→List V→Hp→VK→Prop):Prop :=
 ∀ (pins:List (Addr×Obj)) (s:Shared) (σ:St) (H:Hp) (x:V) (xs:List V) (v:Value) (us:List Value) (Q:VK),Inv X pins σ H s→RelV x v→Vals xs us→r x xs H Q →
  wpAny (model X.prog X.w) X.A (call (.builtin id) (v::us)) (EP X pins σ Q) X.xe s
theorem Vals.one:∀ {x:V} {us:List Value},Vals [x] us→∃ u,us=[u]∧RelV x u
 | _,_,.cons r .nil=>⟨_,rfl,r⟩
theorem Vals.reverse {xs:List V} {us:List Value} (h:Vals xs us):Vals xs.reverse us.reverse:=by
 induction h with
 | nil=>exact .nil
 | cons r t ih=>rw [Nq,Nq]; exact Vals.append ih (.cons r .nil)
theorem Vals.rep {xs:List V} {us:List Value} (h:Vals xs us):∀ k:Nat,Vals (Ma k xs).flatten (Ma k us).flatten
 | 0=>.nil
 | k+1=>by
  rw [Mv,Mv,MK,MK];exact Vals.append h (Vals.rep h k)
theorem yr (its:List Value):∀ (k:Nat) (acc:List Value),List.foldl (fun x1 x2=>x1++x2) acc.toArray (Ma k its.toArray)=(acc++(Ma k its).flatten).toArray
 | 0,acc=>by simp
 | k+1,acc=>by
  have e:acc.toArray++its.toArray=(acc++its).toArray:=by simp
  have e2:(acc++its)++(Ma k its).flatten=acc++(Ma (k+1) its).flatten:=by
   rw [Mv,MK,Mw]
  rw [← e2,← yr its k (acc++its),← e,Mv,List.foldl_cons]
section
variable {X:Cx} {pins:List (Addr×Obj)} {σ:St} {H:Hp} {s:Shared} {l b:Addr} {xs ys zs:List V}
theorem Inv.lset {its its':List Value} {n:Nat} {f:Array Value→Array Value} {t':Nat} (I:Inv X pins σ H s) (hH:H l=some (.lst xs))
  (e:s.heap.get? l=some { cls:=.type "list", data:=.seq its.toArray n }) (hf:f its.toArray=its'.toArray) (hv:Vals ys its') (hz:ys.length≤sizeLine) :
  Inv X pins σ (upd H l (.lst ys)) { s with heap:=s.heap.update l (Obj.mapSeq f),toks:=t' }:=by
 have q:=PySem.IsL.update e f;rw [hf] at q;refine I.write (x:=l) (e:=l) (by rw [hH]; exact trivial) (.inl rfl) (fun b' u hb hu=>(Heap.get?_update_other s.heap (Obj.mapSeq f) (Ne.symm hb)).trans hu) ⟨_,q⟩ ?_;exact ⟨hz,its',_,hv,q⟩
theorem Inv.lnew {its:List Value} {t':Nat} (I:Inv X pins σ H s) (hv:Vals ys its) (hz:ys.length≤sizeLine) :
  Inv X pins σ (upd H s.heap.objs.size (.lst ys)) { s with heap:=s.heap.push { cls:=.type "list", data:=.seq its.toArray },toks:=t' } :=
 I.laid (fun _ _ q=>Heap.get?_push_of_some _ q) (LS _) ⟨hz,its,0,hv,Heap.get?_push_size _ rfl⟩
theorem Inv.fresh (I:Inv X pins σ H s):H s.heap.objs.size=none:=I.hok.fresh (LS _)
theorem Inv.lstM (I:Inv X pins σ H s) (hH:H l=some (.lst xs)):xs.length≤sizeLine∧∃ (its:List Value) (n:Nat),Vals xs its∧xs.length=its.length∧s.heap.get? l=some { cls:=.type "list", data:=.seq its.toArray n }:=by
 obtain ⟨z,its,n,r,e⟩:=I.hok l _ hH;exact ⟨z,its,n,r,r.length,e⟩
theorem Ag {n:Nat} (h:n≤sizeLine):Builtin.List.listTooLong n=false:=by
 unfold Builtin.List.listTooLong;exact decide_eq_false (by omega)
end
section
variable {X:Cx}
noncomputable def Gd:V→List V→Hp→VK→Prop:=fun x vs H Q=>∃ l xs y,x=.ref l∧vs=[y]∧H l=some (.lst xs)∧xs.length < sizeLine∧Q .non (upd H l (.lst (xs++[y])))
theorem uT:MtM X "list.append" Gd:=by
 intro pins s σ H x vs v us Q I rx rv h;obtain ⟨l,xs,y,rfl,rfl,hH,hz,q⟩:=h;cases rx;obtain ⟨u,rfl,ru⟩:=rv.one;obtain ⟨z,its,n,r,hl,e⟩:=I.lstM hH;refine call_meets F.slot_list_append ⟨_,e,rfl⟩ F.entry_list_append (F.args_list_append_2 _ _) (PySem.list_append l its.toArray n u (by rw [LZ]; omega)) ⟨e,?_⟩;refine ⟨.non,_,I.lset (its':=its++[u]) hH e (by simp) (r.append (.cons ru .nil)) ?_,rfl,q⟩;rw [LQ,List.length_singleton];omega
noncomputable def Lf:R2:=fun x y H Q=>∃ l k xs,x=.ref l∧y=.int k∧H l=some (.lst xs)∧-(2 ^ 63)≤k∧k < 2 ^ 63∧xs.length*k.toNat≤sizeLine ∧
 ∀ p,H p=none→Q (.ref p) (upd H p (.lst (Ma k.toNat xs).flatten))
theorem GG {α:Type} (xs:List α) (k:Nat):(Ma k xs).flatten.length=k*xs.length:=by
 induction k with
 | zero=>simp
 | succ k ih=>rw [Mv,MK,LQ,ih,Nat.succ_mul,Nat.add_comm]
theorem Ek:OpR X (binaryOp .Mult) Lf:=by
 intro pins s σ H x y v u Q I rx ry h;obtain ⟨l,k,xs,rfl,rfl,hH,h1,h2,hz,q⟩:=h;cases rx;obtain ⟨t,rfl⟩:=ry;obtain ⟨z,its,n,r,hl,e⟩:=I.lstM hH;have hlen:its.toArray.size*k.toNat≤sizeLine:=by rw [LZ,← hl]; exact hz
 have hcap:¬ its.toArray.size*k.toNat > (2 ^ 63 - 1) / 8:=by
  have:(sizeLine:Nat)≤(2 ^ 63 - 1) / 8:=by decide
  omega
 have hfit:¬ (!Builtin.List.listFitsIndex k)=true:=by
  rw [fitsIndex_both h1 h2];exact LU
 have hlong:¬ Builtin.List.listTooLong (its.toArray.size*k.toNat)=true:=by
  rw [Ag hlen];exact LU
 have hnew:List.foldl (fun x1 x2=>x1++x2) #[] (Ma (if its.toArray.isEmpty=true then 0 else k.toNat) its.toArray)=(Ma k.toNat its).flatten.toArray:=by
  have f0:∀ m:Nat,List.foldl (fun x1 x2=>x1++x2) #[] (Ma m its.toArray)=(Ma m its).flatten.toArray:=fun m=>by
   have:=yr its m []
   rw [List.nil_append] at this;exact this
  rw [f0];cases its with
  | nil=>simp
  | cons a r'=>rw [if_neg (by simp)]
 refine wpAny_binaryOp_repeat_ref (T := "list") (U := "int") (by decide) ⟨_,e,rfl⟩ (fun s'=>typeIs_int s' k t) noFill_list_mul F.fills_int_mul F.slot_int_rmul repeat_list F.slot_int_index.lookup
  (call_meets F.slot_int_rmul (typeIs_int s k t) F.entry_int_rmul (F.args_int_rmul_2 _ _) (int___rmul___int_list k t l its.toArray n)
   ⟨e,rfl,⟨_,e,rfl⟩,call_meets F.slot_list_mul ⟨_,e,rfl⟩ F.entry_list_mul (F.args_list_mul_2 _ _) (AutoListH.list___mul___list_int_3 l its.toArray n k t hfit hcap hlong) ⟨e,?_⟩⟩)
 rw [hnew];exact ⟨.ref _,_,I.lnew (t':=s.toks) (r.rep k.toNat) (by rw [GG,Nat.mul_comm]; exact hz),rfl,q _ I.fresh⟩
end
end L2
namespace Att
open PySem PySem.W PySem.Calls PyProof.Rows
theorem vZ {P:Params} {h:Heap}:∀ (ns:List Int) (vs:List Value),WellAll P h vs (ns.map WData.int)→IntsAre vs ns:=by
 intro ns
 induction ns with
 | nil =>
  intro vs w;rw [M5] at w;cases w;exact .nil
 | cons n ns ih =>
  intro vs w;rw [LW] at w;cases w with
  | cons a b =>
   cases a;exact .cons _ _ (ih _ b)
theorem C0 {l:OpenLaw} {n:Nat} (hn:l.most=some n) {P:Params} {h:Heap} {args:List WData} {vals:List Value}
  (hpre:l.row.toRowW.claim.pre args=true) (hwl:WellAll P h vals args) :
  ∃ a vs ns,vals=[Value.ref a]∧args=[WData.list (ns.map WData.int)]∧h.get? a=some { cls:=.type "list", data:=.seq vs.toArray }∧IntsAre vs ns∧ns.length≤n:=by
 have hsh:WShape.hasAll [] args [.list .int]=true:=(pre_splitW hpre).1;have hc:l.pre.holds [] { args:=args }=true:=(pre_splitW hpre).2;obtain ⟨d,r,rfl,h1,h2⟩:=hasAllW_cons hsh;obtain rfl:=hasAllW_nil h2;obtain ⟨xs,rfl,h3⟩:=hasW_list h1;obtain ⟨ns,rfl⟩:=items_int h3;have hlen:ns.length≤n:=by
  unfold OpenLaw.pre at hc;have h4:(WTm.not (.lt (.lit (.int (n:Int))) (.len (.arg 0)))).holds [] { args:=[.list (ns.map .int)] }=true:=by
   have h4:=(holds_andW hc).1;rw [hn] at h4;exact h4
  have h5:=condW_of h4 (w_not (w_lt w_lit (w_len_list (w_arg rfl))));rw [LO] at h5;refine Nat.le_of_not_lt fun q=>?_;have q':(n:Int) < ((ns.length:Nat):Int):=by omega
  first
   | (rw [decide_eq_true q'] at h5; exact absurd h5 (by decide))
   | (simp at h5; omega)
 cases hwl with
 | cons w1 w2 =>
  cases w2;cases w1 with
  | list ho hall=>exact ⟨_,_,ns,rfl,rfl,ho,vZ ns _ hall,hlen⟩
theorem C4 (l:OpenLaw) (args:List WData):l.row.toRowW.claim.post args (.bool true) args=true :=
 postW_of (r:=l.row.toRowW) (X:=(true==true))
  (show WShape.has [] (.bool true) .bool=true by first | rfl | decide | simp [WShape.has,WShape.arms,WShape.armsAll])
  (show (WTm.eq .res (.lit (.bool true))).value [] { args:=args,res:=some (.bool true),after:=args }=some (.bool (true==true)) from w_eq_bool (w_res rfl) w_lit) rfl
theorem attach_call {l:OpenLaw} {n:Nat} {q:Program} {loose:List Str} {XP:(Str→Option Value)→Heap→Prop} {YP:World→Heap→Prop} {d:DefRec}
  (hn:l.most=some n) (hdf:d.params.defaults=[])
  (call:∀ (w:World) (s₀ s₁:Shared) (mg mb:Str→Option Value) (fa:Addr) (o:Obj) (pm cd doc:Value) (a:Addr) (vs:List Value) (ns:List Int),Ground q loose [] XP w s₀ mg mb s₁.heap→YP w s₁.heap →
   s₁.heap.get? fa=some o→o.data=.func (docDef d.name d.params d.body d.scope pm cd doc)→s₁.heap.CodeRec cd d.name→mg d.name=some (.ref fa) →
   s₁.heap.get? a=some { cls:=.type "list", data:=.seq vs.toArray }→IntsAre vs ns→ns.length≤n→s₁.gens=#[] →
   codeAny (model l.prog w) callerA (.call (.ref fa) ⟨[.ref a],[]⟩) (fun r s'=>r=.ok (.ret (.bool true))∧OldK s₁.heap s'.heap∧s'.os=s₁.os∧AllBare s'.gens) s₁) :
  WalkO q loose XP YP l.row.toRowW d [] (fun f vs=>PySem.call f vs):=by
 intro w s₀ s₁ mg mb G Y fa o pm cd doc dV kV ho hd hcd hD hmg hg args vals as hpre hlay hrd hwl hlo;obtain rfl:dV=.none:=Dflts.none hD hdf;obtain rfl:kV=.none:=Dflts.noKw hD;obtain ⟨a,vs,ns,rfl,rfl,hobj,hints,hlen⟩:=C0 hn hpre hwl;refine enter_call (codeAny_mono (call w s₀ s₁ mg mb fa o pm cd doc a vs ns G Y ho (fd_plain hd) hcd hmg hobj hints hlen hg) fun r s' hq=>?_);obtain ⟨rfl,h2,h3,h4⟩:=hq;exact ⟨.inl ⟨.bool true,.bool true,[],rfl,fun _=>rfl,.bool true,C4 l _,fun _=>⟨List.Pairwise.nil,fun _ hm=>(nomatch hm)⟩⟩,h2,h3,h4⟩
section
variable {prog:Program} {w:World} {A:Around} {E:Value→Shared→Prop} {s:Shared} {K:Frag}
end
end Att
namespace L2
open PySem PySem.Spec PyProof.Rows
theorem uH:∀ {vs:List Value} {ns:List Int},IntsAre vs ns→Vals (ns.map V.int) vs
 | _,_,.nil=>.nil
 | _,_,.cons n t h=>.cons ⟨t,rfl⟩ (uH h)
noncomputable def Only (H:Hp):Prop:=∀ b,H b=none∨∃ o xs,H b=some (.frz o (.lst xs))
theorem EH {P:Program} {w:World} {K:LN} {mg mb:Str→Option Value} {CX:CXT} {k:Nat} {fa a:Addr} {fd:FuncData} {x:Str} {sp:Sp} {s₁:Shared} {vs:List Value} {ns:List Int}
  (KX:K.In s₁.heap) (hns:s₁.heap.Ns mainGlobals mg) (hb:s₁.heap.Ns builtinsNs mb) (hbb:∀ x:Str,x ≠ "__name__" → mb x=bootBuiltins x) (hlim:s₁.heap.NoLimit) (hg:s₁.gens=#[])
  (ha:s₁.heap.get? a=some { cls:=.type "list", data:=.seq vs.toArray }) (hi:IntsAre vs ns) (hl:ns.length≤sizeLine) (hr:Room k callerA)
  (F:∀ base:Heap,K.In base→base.Ns mainGlobals mg→FnOk P w K mg base CX k fa fd [x] sp) (hbind:∀ (s:Shared) (u:Value),BindsTo s fd ⟨[u],[]⟩ [(x,u)])
  (hsp:∀ H:Hp,Only H→SqL K H a (ns.map V.int)→sp [.ref a] H (fun v _=>v=.bl true) fun _ _ _=>False)
  (hCX:∀ H e s',CX [] H s₁ (fun _ _ _=>False) e s'→False) :
  codeAny (model P w) callerA (.call (.ref fa) ⟨[.ref a],[]⟩) (fun r s'=>r=.ok (.ret (.bool true))∧OldK s₁.heap s'.heap∧s'.os=s₁.os∧AllBare s'.gens) s₁:=by
 have rv:=uH hi;have lenV:=hi.length;have core:∀ H:Hp,Only H→SqL K H a (ns.map V.int)→HOk P w H s₁.heap→(∀ b,H b≠none→b=a)→(H a≠none→K.lookup a=none) →
   codeAny (model P w) callerA (.call (.ref fa) ⟨[.ref a],[]⟩) (fun r s'=>r=.ok (.ret (.bool true))∧OldK s₁.heap s'.heap∧s'.os=s₁.os∧AllBare s'.gens) s₁:=by
  intro H hO hS hok hA hK;have base_of:∀ {b:Addr} {o:Obj},s₁.heap.get? b=some o→H b=none→(zc s₁.heap H).get? b=some o:=fun e n=>EU e n;have noA:∀ {b:Addr} {o:Obj} {es:Array DictEntry} {ep:Nat},s₁.heap.get? b=some o→o.data=.dict es ep→H b=none:=fun {b o es ep} e d=>by
   cases q:H b with
   | none=>rfl
   | some u =>
    have e':b=a:=hA b (by rw [q]; simp);subst e';rw [ha] at e; cases e;have d':Data.seq vs.toArray _=Data.dict es ep:=d;cases d'
  have nsK:∀ {b:Addr} {m:Str→Option Value},s₁.heap.Ns b m→(zc s₁.heap H).Ns b m:=fun {b m} ⟨o,es,ep,e,d,r⟩=>⟨o,es,ep,base_of e (noA e d),d,r⟩;have hKb:K.In (zc s₁.heap H):=fun b o e=>base_of (KX b o e) (by
   cases q:H b with
   | none=>rfl
   | some u =>
    have e':b=a:=hA b (by rw [q]; simp);subst e';rw [hK (by rw [q]; simp)] at e; cases e)
  have hM:Mod K mg (zc s₁.heap H):=⟨hKb,nsK hns,⟨mb,nsK hb,hbb⟩,let ⟨mc,h1,h2⟩:=hlim; ⟨mc,nsK h1,h2⟩⟩;have e0:Env0 P w K mg (zc s₁.heap H) callerA [] s₁ H:=⟨rfl,hM,fun b o e=>Gw e,Nat.le_of_eq (Dj _ _),trivial,fun b hb=>absurd (show b∈([]:List Addr) from hb) (by simp),hok,.of_eq hg⟩;refine codeAny_mono ((F _ hKb (nsK hns)).run callerA [] s₁ H ⟨[.ref a],[]⟩ [.ref a] [.ref a] _ _ hr e0 (hbind s₁ (.ref a)) (.cons rfl .nil) (hsp H hO hS)) fun r s' h=>?_;cases r with
  | error e=>exact (hCX H e s' h).elim
  | ok fl =>
   cases fl with
   | next=>exact False.elim h
   | brk=>exact False.elim h
   | cont=>exact False.elim h
   | ret u =>
    obtain ⟨v,H',os,bare,un,hok',r',q⟩:=h;have q':v=.bl true:=q;subst q';obtain rfl:u=Value.bool true:=r';refine ⟨rfl,OldK.of_keep fun b o e=>?_,os,bare⟩;cases q:H b with
    | none=>exact un.keep b o e q (by intro z; exact absurd (show b∈([]:List Addr) from z) (by simp)) (by simp)
    | some u =>
     rcases hO b with z | ⟨ob,xs,z⟩
     ·rw [q] at z; cases z
     ·have z2:=un.frzs b ob _ z;obtain ⟨e1,_⟩:=hok b _ z;obtain ⟨e2,_⟩:=hok' b _ z2;rw [e] at e1; cases e1;exact e2
 cases hk:K.lookup a with
 | some o =>
  have e:=KX a o hk;rw [ha] at e;cases e;refine core (fun _=>none) (fun _=>.inl rfl) (.inr ⟨_,vs.toArray,_,hk,rfl,rfl,rfl,by rw [LZ,lenV]; exact hl,by simpa using rv⟩) (fun b u z=>by have z':(none:Option HO)=some u:=z; cases z') (fun b z=>absurd rfl z) fun z=>absurd rfl z
 | none =>
  refine core (fun b=>if b=a then some (.frz { cls:=.type "list", data:=.seq vs.toArray } (.lst (ns.map V.int))) else none) (fun b=>?_) (.inl (.inr ⟨{ cls:=.type "list", data:=.seq vs.toArray },if_pos rfl⟩)) (fun b u z=>?_) (fun b z=>?_) fun _=>hk
  ·by_cases hb:b=a
   ·exact .inr ⟨_,_,if_pos hb⟩
   ·exact .inl (if_neg hb)
  ·by_cases hb:b=a
   ·have z':=(if_pos hb).symm.trans z;cases z';subst hb;exact ⟨ha,by rw [LO]; exact hl,vs,_,rv,ha⟩
   ·have z':=(if_neg hb).symm.trans z;cases z'
  ·by_cases hb:b=a
   ·exact hb
   ·exact absurd (if_neg hb) z
noncomputable abbrev KOf {K:LN} {h:Heap} (_:K.In h):LN:=K
theorem FL {l:Nt} {n k:Nat} {q:Program} {loose:List Str} {XP:(Str→Option Value)→Heap→Prop} {YP:World→Heap→Prop} {d:DefRec} {K:Params→LN} {CX:World→CXT} {sp:World→Sp} {x:Str}
  (hn:l.most=some n) (hn2:n≤sizeLine) (hdf:d.params.defaults=[]) (hr:Room k callerA)
  (hY:∀ (w:World) (h:Heap),YP w h→(K w.params).In h)
  (F:∀ (w:World) (mg:Str→Option Value) (fa:Addr) (h:Heap),(K w.params).In h→h.Ns mainGlobals mg→mg d.name=some (.ref fa) →
   ∃ fd:FuncData,(∀ (s:Shared) (u:Value),BindsTo s fd ⟨[u],[]⟩ [(x,u)]) ∧
    ∀ base:Heap,(K w.params).In base→base.Ns mainGlobals mg→FnOk l.prog w (K w.params) mg base (CX w) k fa fd [x] (sp w))
  (hsp:∀ (w:World) (H:Hp) (a:Addr) (ns:List Int),ns.length≤n→Only H→SqL (K w.params) H a (ns.map V.int)→sp w [.ref a] H (fun v _=>v=.bl true) fun _ _ _=>False)
  (hCX:∀ (w:World) (H:Hp) (s:Shared) (e:Value) (s':Shared),CX w [] H s (fun _ _ _=>False) e s'→False) :
  ND q loose XP YP l.row.toRowW d [] (fun f vs=>PySem.call f vs):=by
 refine Att.attach_call hn hdf fun w s₀ s₁ mg mb fa o pm cd doc a vs ns G Y ho hd hcd hmg hobj hints hlen hg=>?_;have KX:=hY w _ Y;obtain ⟨fd,hb,hF⟩:=F w mg fa _ KX G.T.g hmg;exact EH KX G.T.g G.T.b G.T.builtins G.T.nolimit hg hobj hints (L9 hlen hn2) hr hF hb (fun H hO hS=>hsp w H a ns hlen hO hS) fun H e s'=>hCX w H s₁ e s'
noncomputable def hU (s:Stmt) (j:Nat):Stmt:=match s with
 | .ClassDef _ _ _ body _ _ _ _ _ _ _=>body.getD j (.Pass ⟨0,0,0,0⟩)
 | _=>.Pass ⟨0,0,0,0⟩
noncomputable def wl (s:Stmt):Arguments:=match s with
 | .FunctionDef _ a _ _ _ _ _ _ _ _=>a
 | _=>{ posonlyargs:=[],args:=[],vararg:=none,kwonlyargs:=[],kw_defaults:=[],kwarg:=none,defaults:=[] }
noncomputable def pO (s:Stmt):List Stmt:=match s with
 | .FunctionDef _ _ b _ _ _ _ _ _ _=>b
 | _=>[]
noncomputable def aj (s:Stmt):Scope:=match s with
 | .FunctionDef _ _ _ _ _ _ sc _ _ _=>sc
 | _=>{ kind:=.function,names:=[],isGenerator:=false,isCoroutine:=false }
noncomputable abbrev CX0:CXT:=fun _ _ _ _ _ _=>False
noncomputable abbrev E0:XK:=fun _ _ _=>False
theorem yh {X:Cx}:Passes CX0 X E0:=fun _ _ _ _ _ _ _ h=>h.elim
structure Fun (K:LN) (x qual:Str) (st:Stmt) (f:Addr) (fd:FuncData):Prop where
 ex:∃ (oc:Value) (od:Option Addr) (kV doc pm:Value) (an:Option Addr) (cdv ct:Value) (osl:Array (Option Value)),fd=Nh x qual (wl st) (pO st) (aj st) .none kV doc pm an cdv ct∧K.lookup f=some ⟨oc,od,.func fd,osl⟩∧PySem.W.codeIn K cdv qual=true
 kp:MM K (.ref f)=true
section
variable {P:Program} {w:World} {K:LN} {mg:Str→Option Value} {base:Heap}
theorem Fun.ok {x qual:Str} {st:Stmt} {f:Addr} {fd:FuncData} {N ps:List Str} {k:Nat} {sp:Sp} (F:Fun K x qual st f fd) (S:aI N ps (aj st)) (len:∀ vs H Q E,sp vs H Q E→vs.length=ps.length)
  (hbody:∀ (cdv:Value) (A:Around) (outer:List Env) (s:Shared) (H:Hp) (vs:List V) (Q:VK) (E:XK),Room k (A.deeper (envOfC qual (aj st) s.heap.objs.size f cdv))→sp vs H Q E →
   ∃ t,PSs (AM CX0 P w K mg base N qual (aj st) f cdv A outer s H E).nox (pO st) t∧t { nx:=fun _ H'=>Q .non H',rt:=Q } (start N vs) H):FnOk P w K mg base CX0 (k+1) f fd ps sp:=by
 obtain ⟨oc,od,kV,doc,pm,an,cdv,ct,osl,rfl,lk,hcd⟩:=F.ex;refine KD lk hcd S len fun A outer s H vs Q E hr hsp=>?_;obtain ⟨t,h,q⟩:=hbody cdv A outer s H vs Q E hr hsp;exact ⟨t,h.nox,q⟩
theorem fun_mk {x qual:Str} {st:Stmt} {f:Addr} {oc:Value} {od an:Option Addr} {osl:Array (Option Value)} {kV doc pm cdv ct:Value} (l:K.lookup f=some ⟨oc,od,.func (Nh x qual (wl st) (pO st) (aj st) .none kV doc pm an cdv ct),osl⟩)
  (c:PySem.W.codeIn K cdv qual=true) (k:MM K (.ref f)=true):Fun K x qual st f (Nh x qual (wl st) (pO st) (aj st) .none kV doc pm an cdv ct):=⟨⟨oc,od,kV,doc,pm,an,cdv,ct,osl,rfl,l,c⟩,k⟩
end
theorem ye {n:Nat} (h:n≤1000):n < sizeLine:=Nm h (by decide)
theorem Jd {A B:Prop} (h:B):if false=true then A else B:=by
 rw [if_neg LU];exact h
theorem Jc {A B:Prop} (h:A):if true=true then A else B:=by
 rw [if_pos rfl];exact h
noncomputable def Same (H H':Hp):Prop:=∀ b o,H b=some o→H' b=some o
theorem Same.refl (H:Hp):Same H H:=fun _ _ h=>h
theorem Same.trans {H H1 H2:Hp} (a:Same H H1) (b:Same H1 H2):Same H H2:=fun c o h=>b c o (a c o h)
theorem Same.free {H H':Hp} (e:Same H H') {l:Addr} (h:H' l=Option.none):H l=Option.none:=by
 cases q:H l with
 | none=>rfl
 | some o =>
  rw [e l o q] at h;cases h
theorem Same.seq {K:LN} {H H':Hp} {a:Addr} {xs:List V} (e:Same H H') (h:SqL K H a xs):SqL K H' a xs:=by
 rcases h with (h | ⟨o,h⟩) | h
 ·exact .inl (.inl (e _ _ h))
 ·exact .inl (.inr ⟨o,e _ _ h⟩)
 ·exact .inr h
end L2
set_option autoImplicit false
namespace L2.PU
open PySem PySem.Spec PyProof.Rows
noncomputable def AL:Nat→(List Value→Prop)→Prop
 | 0,P=>P []
 | n+1,P=>∀ a,AL n fun l=>P (a::l)
theorem AL.all:∀ {n:Nat} {P:List Value→Prop},AL n P→∀ us:List Value,us.length=n→P us
 | 0,_,h,[],_=>h
 | n+1,_,h,a::us,e=>AL.all (n:=n) (h a) us (Nat.succ.inj e)
theorem bi_mk {K:LN} {fd:FuncData} {ps:List Str} (h:AL ps.length fun us=>bindArgs fd ⟨us,[]⟩=pure (ps.zip us)):Binds K fd ps []:=.all h.all
theorem IW {Pr:Program} {w:World} {K:LN} {mg:Str→Option Value} {fa f:Addr} {d:FuncData} {x q:Str} {st:Stmt} {k:Nat} {y:Str} {sp:Sp} (hfa:mg "law" = some (.ref fa)) (m:mg "law" = some (.ref f)) (F:Fun K x q st f d)
  (G:∀ base:Heap,FnOk Pr w K mg base CX0 k f d [y] sp) (hb:∀ (kV doc pm:Value) (an:Option Addr) (cdv ct v:Value),bindArgs (Nh x q (wl st) (pO st) (aj st) .none kV doc pm an cdv ct) ⟨[v],[]⟩=pure [(y,v)]) :
  ∃ fd:FuncData,(∀ (s:Shared) (v:Value),BindsTo s fd ⟨[v],[]⟩ [(y,v)])∧∀ base:Heap,K.In base→base.Ns mainGlobals mg→FnOk Pr w K mg base CX0 k fa fd [y] sp:=by
 cases hfa.symm.trans m;obtain ⟨oc,od,kV,doc,pm,an,cdv,ct,osl,rfl,lk,hcd⟩:=F.ex;exact ⟨_,fun s v=>.of_eq (hb kV doc pm an cdv ct v),fun base _ _=>G base⟩
theorem bR {N P:List Str} {sc:Scope} (h1:sc.kind=.function:=by rfl) (h2:sc.isCoroutine=false:=by rfl) (h3:sc.isGenerator=false:=by rfl) (h4:N.Nodup:=by decide +kernel) (h5:N.take P.length=P:=by rfl)
  (h6:∀ x∈P,sc.names.lookup x=some .local∨sc.names.lookup x=some .cell:=by decide +kernel) (h7:∀ y∈sc.names,y.2≠.free:=by decide +kernel):aI N P sc:=⟨h1,h2,h3,h4,h5,h6,h7⟩
end L2.PU
namespace L2
open PySem PySem.Spec PyProof.Rows
section
variable {κ:Type} [DecidableEq κ]
noncomputable def oF (kvs:List (κ×V)) (k:κ):Option V:=(kvs.find? fun kv=>decide (kv.1=k)).map (·.2)
noncomputable def mY (kvs:List (κ×V)) (k:κ) (v:V):List (κ×V) :=
 if (kvs.any fun kv=>decide (kv.1=k))=true then kvs.map (fun kv=>if kv.1=k then (kv.1,v) else kv) else kvs++[(k,v)]
theorem tm {p:κ×V} {r:List (κ×V)} {k:κ} (e:p.1=k):oF (p::r) k=some p.2:=by simp [oF,ML,e]
theorem tq {p:κ×V} {r:List (κ×V)} {k:κ} (e:¬ p.1=k):oF (p::r) k=oF r k:=by simp [oF,ML,e]
theorem zD (k:κ):∀ kvs:List (κ×V),(kvs.any fun kv=>decide (kv.1=k))=(oF kvs k).isSome
 | []=>rfl
 | p::r=>by
  rw [Mt];by_cases e:p.1=k
  ·simp only [tm e,decide_eq_true e,Bool.true_or,Option.isSome_some]
  ·rw [tq e,decide_eq_false e,Bool.false_or]; exact zD k r
theorem nM (kvs:List (κ×V)) (k:κ) (v:V):(mY kvs k v).length≤kvs.length+1:=by
 unfold mY
 split
 ·rw [LO]; omega
 ·rw [LQ,L1,List.length_nil]; omega
theorem RelO.isSome_eq {o:Option V} {u:Option Value} (r:RelO o u):o.isSome=u.isSome:=by
 cases o with
 | none=>cases u with
  | none=>rfl
  | some _=>exact (show False from r).elim
 | some _=>cases u with
  | none=>exact (show False from r).elim
  | some _=>rfl
theorem KV.val {kvs:List (κ×V)} {vs:List (κ×Value)} (r:KV kvs vs) (k:κ):RelO (oF kvs k) (valueAt vs k):=by
 unfold KV at r
 induction r with
 | nil=>exact True.intro
 | @cons p q ps qs h t ih =>
  obtain ⟨h1,h2⟩:=h;by_cases e:p.1=k
  ·have e':q.1=k:=h1.symm.trans e;have b:valueAt (q::qs) k=some q.2:=by simp [valueAt,ML,e']
   rw [tm e,b]; exact h2
  ·have e':¬ q.1=k:=fun z=>e (h1.trans z);have b:valueAt (q::qs) k=valueAt qs k:=by simp [valueAt,ML,e']
   rw [tq e,b]; exact ih
theorem KV.any {kvs:List (κ×V)} {vs:List (κ×Value)} (r:KV kvs vs) (k:κ):(kvs.any fun kv=>decide (kv.1=k))=vs.any fun kv=>decide (kv.1=k):=by
 unfold KV at r
 induction r with
 | nil=>rfl
 | cons h t ih=>rw [Mt,Mt,ih,h.1]
theorem KV.repl {kvs:List (κ×V)} {vs:List (κ×Value)} (r:KV kvs vs) (k:κ) {y:V} {u:Value} (ry:RelV y u) :
  KV (kvs.map fun kv=>if kv.1=k then (kv.1,y) else kv) (vs.map fun kv=>if kv.1=k then (kv.1,u) else kv):=by
 unfold KV at r ⊢
 induction r with
 | nil=>exact .nil
 | @cons p q ps qs h t ih =>
  rw [LW,LW];refine .cons ?_ ih;obtain ⟨h1,h2⟩:=h;by_cases e:p.1=k
  ·rw [if_pos e,if_pos (h1.symm.trans e)]; exact ⟨h1,ry⟩
  ·rw [if_neg e,if_neg (fun z=>e (h1.trans z))]; exact ⟨h1,h2⟩
theorem KV.put {kvs:List (κ×V)} {vs:List (κ×Value)} (r:KV kvs vs) (k:κ) {y:V} {u:Value} (ry:RelV y u):KV (mY kvs k y) (stored vs k u):=by
 unfold mY stored;rw [r.any k];by_cases e:(vs.any fun kv=>decide (kv.1=k))=true
 ·rw [if_pos e,if_pos e]; exact r.repl k ry
 ·rw [if_neg e,if_neg e]; exact Paired.snoc r ⟨rfl,ry⟩
theorem KV.keys {kvs:List (κ×V)} {vs:List (κ×Value)} (r:KV kvs vs):kvs.map (·.1)=vs.map (·.1):=by
 unfold KV at r
 induction r with
 | nil=>rfl
 | cons h t ih=>rw [LW,LW,ih,h.1]
theorem KV.length {kvs:List (κ×V)} {vs:List (κ×Value)} (r:KV kvs vs):kvs.length=vs.length:=Paired.length r
end
theorem Ay {P:Program} {w:World} {k:Key} {u:Value} (r:RelV (kV k) u):(eM P w).is k u=true:=by
 cases k with
 | inl i=>obtain ⟨t,e⟩:=(show ∃ t,u=Value.int i t from r); subst e; exact Aj P w i t
 | inr x=>obtain ⟨t,e⟩:=(show ∃ t,u=Value.str x t from r); subst e; exact Ai P w x t
theorem yn {P:Program} {w:World}:∀ {ks:List Key} {us:List Value},Vals (ks.map kV) us→ItemsAre (eM P w) ks us
 | [],_,r=>by rw [M5] at r; cases r; exact .nil
 | k::ks,_,r=>by
  rw [LW] at r;cases r with
  | cons h t=>exact .cons (Ay h) (yn t)
noncomputable abbrev KT (H:Hp):List (List Key×V)→List (List Key×Addr×Value)→Prop:=Paired fun p q=>p.1=q.1∧H q.2.1=some (.tup (p.1.map kV))∧RelV p.2 q.2.2
theorem KT.val {H:Hp} {kvs:List (List Key×V)} {xs:List (List Key×Addr×Value)} (r:KT H kvs xs) (k:List Key):RelO (oF kvs k) ((atKey xs k).map (·.2)):=by
 induction r with
 | nil=>exact True.intro
 | @cons p q ps qs h t ih =>
  obtain ⟨h1,_,h2⟩:=h;by_cases e:p.1=k
  ·have e':q.1=k:=h1.symm.trans e;have b:atKey (q::qs) k=some q.2:=by simp [atKey,ML,e']
   rw [tm e,b]; exact h2
  ·have e':¬ q.1=k:=fun z=>e (h1.trans z);have b:atKey (q::qs) k=atKey qs k:=by simp [atKey,ML,e']
   rw [tq e,b]; exact ih
theorem KT.repl {H:Hp} {kvs:List (List Key×V)} {xs:List (List Key×Addr×Value)} (r:KT H kvs xs) (k:List Key) {y:V} {u:Value} (ry:RelV y u) :
  KT H (kvs.map fun kv=>if kv.1=k then (kv.1,y) else kv) (xs.map (putAt k u)):=by
 induction r with
 | nil=>exact .nil
 | @cons p q ps qs h t ih =>
  rw [LW,LW];refine .cons ?_ ih;obtain ⟨h1,h2,h3⟩:=h;unfold putAt;by_cases e:p.1=k
  ·rw [if_pos e,if_pos (h1.symm.trans e)]; exact ⟨h1,h2,ry⟩
  ·rw [if_neg e,if_neg (fun z=>e (h1.trans z))]; exact ⟨h1,h2,h3⟩
theorem KT.put {H:Hp} {kvs:List (List Key×V)} {xs:List (List Key×Addr×Value)} (r:KT H kvs xs) (k:List Key) {b:Addr} {y:V} {u:Value} (hb:H b=some (.tup (k.map kV))) (ry:RelV y u) :
  KT H (mY kvs k y) (storedH xs k b u):=by
 have e:(kvs.any fun kv=>decide (kv.1=k))=(atKey xs k).isSome:=by
  rw [zD,(r.val k).isSome_eq,Option.isSome_map]
 unfold mY storedH;rw [e];by_cases q:(atKey xs k).isSome=true
 ·rw [if_pos q,if_pos q]; exact r.repl k ry
 ·rw [if_neg q,if_neg q]; exact Paired.snoc r ⟨rfl,hb,ry⟩
theorem KT.keeps {H H':Hp} {kvs:List (List Key×V)} {xs:List (List Key×Addr×Value)} (r:KT H kvs xs) (ht:∀ b ys,H b=some (.tup ys)→H' b=some (.tup ys)):KT H' kvs xs :=
 Paired.mapP r fun _ _ z=>⟨z.1,ht _ _ z.2.1,z.2.2⟩
section
variable {P:Program} {w:World} {H:Hp} {h:Heap} {a:Addr}
theorem Hw {u:HO} (ok:HOk P w H h) (e:Rd H a u):ObjOk P w H h a u:=e.ok ok
theorem AG {kvs:List (Key×V)} (ok:HOk P w H h) (e:Rd H a (.dK kvs)):kvs.length≤sizeLine∧(a==sysModules)=false∧∃ vs,KV kvs vs∧h.DictOf (eM P w) a vs :=
 show ObjOk P w H h a (.dK kvs) from Hw ok e
theorem E5 {kvs:List (Key×V)} (ok:HOk P w H h) (e:H a=some (.dK kvs)):kvs.length≤sizeLine∧(a==sysModules)=false∧∃ vs,KV kvs vs∧h.DictOf (eM P w) a vs:=AG ok (.inl e)
theorem Bp {ks:List Key} (ok:HOk P w H h) (e:H a=some (.tup (ks.map kV))):(tupleKind (eM P w)).is h ks a:=by
 obtain ⟨_,its,r,o,h1,h2,n,h3⟩:=(show ObjOk P w H h a (.tup (ks.map kV)) from ok a _ e);exact ⟨o,its.toArray,n,h1,h2,h3,by simpa using yn r⟩
theorem CD {kvs:List (List Key×V)} (ok:HOk P w H h) (e:Rd H a (.dT kvs)):kvs.length≤sizeLine∧(a==sysModules)=false ∧
  ∃ xs,KT H kvs xs∧h.DictOfH (tupleKind (eM P w)) a xs:=by
 obtain ⟨z,y,xs,r,o,es,ep,h1,h2,h3,h4,h5⟩:=(show ObjOk P w H h a (.dT kvs) from Hw ok e);refine ⟨z,y,xs,r,o,es,ep,h1,h2,h3,h4,fun x hx=>?_,h5⟩;have all:∀ {l:List (List Key×V)} {m:List (List Key×Addr×Value)},KT H l m→∀ x∈m,(tupleKind (eM P w)).is h x.1 x.2.1:=by
  intro l m q
  induction q with
  | nil=>intro x hx; exact nomatch hx
  | @cons p q ps qs hq t ih =>
   intro x hx;rcases Mb.mp hx with e | hx
   ·subst e;exact Bp ok (by rw [← hq.1]; exact hq.2.1)
   ·exact ih x hx
 exact all r x hx
theorem KG {kvs:List (List Key×V)} (ok:HOk P w H h) (e:H a=some (.dT kvs)):kvs.length≤sizeLine∧(a==sysModules)=false ∧
  ∃ xs,KT H kvs xs∧h.DictOfH (tupleKind (eM P w)) a xs:=CD ok (.inl e)
end
noncomputable def DGet (H:Hp) (a:Addr) (y:V) (r:Option V):Prop :=
 (∃ kvs k,Rd H a (.dK kvs)∧y=kV k∧r=oF kvs k)∨∃ kvs k b,Rd H a (.dT kvs)∧y=.ref b∧H b=some (.tup (k.map kV))∧r=oF kvs k
noncomputable def DPut (H:Hp) (a:Addr) (y v:V) (H':Hp):Prop :=
 (∃ kvs k,H a=some (.dK kvs)∧y=kV k∧kvs.length < sizeLine∧H'=upd H a (.dK (mY kvs k v))) ∨
 ∃ kvs k b,H a=some (.dT kvs)∧y=.ref b∧H b=some (.tup (k.map kV))∧kvs.length < sizeLine∧H'=upd H a (.dT (mY kvs k v))
section
variable {X:Cx} {pins:List (Addr×Obj)} {σ:St} {H:Hp} {s:Shared} {a:Addr} {y v:V} {u r:Value} {o:Option V} {A:Around} {E:Value→Shared→Prop}
theorem Inv.big (I:Inv X pins σ H s):sysModules < s.heap.objs.size:=by
 have h:mainGlobals < s.heap.objs.size:=(I.mod.glob.keeps I.bk).lt;exact Nat.lt_trans (by decide) h
theorem Dn {Q:Value→Shared→Prop} (hu:A.units+1 < cLine) (I:Inv X pins σ H s) (g:DGet H a y (some v)) (ry:RelV y u) (h:∀ w' s',Inv X pins σ H s'→RelV v w'→Q w' s') :
  wpAny (model X.prog X.w) A (getItem (.ref a) u) Q E s:=by
 rcases g with ⟨kvs,k,e,ey,l⟩ | ⟨kvs,k,b,e,ey,eb,l⟩
 ·subst ey;obtain ⟨z,hd,vs,rel,dd⟩:=AG I.hok e;obtain ⟨w',hw,rw'⟩:=RelO.some_of (v:=v) (o:=valueAt vs k) (by rw [l]; exact rel.val k);exact wpAny_getItem_of (Ay ry) dd.mapOf hw (h w' _ (I.tok _) rw')
 ·subst ey;cases (show u=Value.ref b from ry);obtain ⟨z,hd,xs,rel,dd⟩:=CD I.hok e;obtain ⟨w',hw,rw'⟩:=RelO.some_of (v:=v) (o:=(atKey xs k).map (·.2)) (by rw [l]; exact rel.val k);obtain ⟨p,hp,hp2⟩:=Option.map_eq_some_iff.mp hw;refine wpAny_getItem_heap (tupleKind_room_in1 hu) (Bp I.hok eb) dd hp ?_;rw [hp2];exact h w' _ (I.tok _) rw'
theorem wm {h':Heap} {t':Nat} {ob:HO} (I:Inv X pins σ H s) (mu:Mut (H a)) (hs:Heap.SameBut a s.heap h') (he:∃ q,h'.get? a=some q) (new:ObjOk X.prog X.w (upd H a ob) h' a ob) :
  Inv X pins σ (upd H a ob) { s with heap:=h',toks:=t' } :=
 I.write (x:=a) (e:=a) mu (.inl rfl) (fun b q hb z=>(hs.2 b hb).trans z) he new
theorem Bz {P:Program} {w:World} {H':Hp} {h':Heap} {kvs:List (Key×V)} {vs:List (Key×Value)} (z:kvs.length≤sizeLine) (hd:(a==sysModules)=false) (rel:KV kvs vs) (dd:h'.DictOf (eM P w) a vs) :
  ObjOk P w H' h' a (.dK kvs):=⟨z,hd,vs,rel,dd⟩
theorem Dl {H':Hp} {Q:Unit→Shared→Prop} (hu:A.units+1 < cLine) (I:Inv X pins σ H s) (g:DPut H a y v H') (ry:RelV y u) (rv:RelV v r) (h:∀ s',Inv X pins σ H' s'→Q () s') :
  wpAny (model X.prog X.w) A (setItem (.ref a) u r) Q E s:=by
 rcases g with ⟨kvs,k,e,ey,l,eH⟩ | ⟨kvs,k,b,e,ey,eb,l,eH⟩
 ·subst ey eH;obtain ⟨z,hd,vs,rel,dd⟩:=E5 I.hok e;have hz:vs.length≤sizeLine:=by rw [← rel.length]; exact z
  have hl:(mY kvs k v).length≤sizeLine:=by have:=nM kvs k v; omega
  refine wpAny_setItem_pairs (hsz:=hz) (Ay ry) dd fun h' dd' hs=>h _ ?_;have he:∃ q,h'.get? a=some q:=let ⟨q,_,_,hq,_⟩:=dd'; ⟨q,hq⟩;exact wm I (by rw [e]; exact True.intro) hs he (Bz hl hd (rel.put k rv) dd')
 ·subst ey eH;cases (show u=Value.ref b from ry);obtain ⟨z,hd,xs,rel,dd⟩:=KG I.hok e;have hz:xs.length≤sizeLine:=by rw [← Paired.length rel]; exact z
  have hl:(mY kvs k v).length≤sizeLine:=by have:=nM kvs k v; omega
  refine wpAny_setItem_heap (hsz:=hz) (tupleKind_room_in1 hu) (Bp I.hok eb) dd fun h' dd' hs=>h _ ?_;obtain ⟨q,es,ep,hq,h2,h3,h4,_,h5⟩:=dd';refine wm I (by rw [e]; exact True.intro) hs ⟨q,hq⟩ ⟨hl,hd,_,(rel.put k eb rv).keeps fun c ys ec=>?_,q,es,ep,hq,h2,h3,h4,h5⟩;rw [aE (Kl ec e (fun z=>nomatch z))];exact ec
end
noncomputable def JE (i:Expr):Prop:=∀ ov iv,subscripted i false ov iv=operate [ov,iv] (getItem ov iv)
theorem FS {prog:Program} {w:World} {A:Around} {E:Value→Shared→Prop} {s:Shared} {env:Env} {value slice:Expr} {pos:Pos} {T id:String} {Q:Value→Shared→Prop}
  (hl:typeLookup (.type T) "__getitem__" = pure (some (.builtin id))) (hs:JE slice)
  (h:wpAny (model prog w) A (eval value env) (fun o s₁=>wpAny (model prog w) A (eval slice env) (fun i s₂=>s₂.TypeIs o T∧wpAny (model prog w) A (getItem o i) Q E s₂) E s₁) E s) :
  wpAny (model prog w) A (eval (.Subscript value slice pos) env) Q E s:=by
 refine Subscript_ (wpAny_mono h (fun o s₁ h₁=>wpAny_mono h₁ (fun i s₂ h₂=>?_) fun _ _ x=>x) fun _ _ x=>x);obtain ⟨hT,h₂⟩:=h₂;unfold subscriptTail;refine wpAny_bind ?_;rw [getitemInPython_of_ne hT.not_modules];refine wpAny_bind (wpAny_specialOf hT hl ?_);have fin:wpAny (model prog w) A (subscripted slice false o i) (fun r s₃=>wpAny (model prog w) A (letTemporaryGo value o r >>= fun _=>pure r) Q E s₃) E s₂:=by
  rw [hs o i];exact wpAny_operating (wpAny_mono h₂ (fun r s₃ h₃=>wpAny_bind (wpAny_letTemporaryGo (wpAny_pure h₃))) fun _ _ x=>x)
 first
  | exact wpAny_pure (wpAny_bind fin)
  | exact wpAny_bind (wpAny_pure (wpAny_bind fin))
  | exact wpAny_bind fin
theorem AI {X:Cx} {pins:List (Addr×Obj)} {σ:St} {H:Hp} {s:Shared} {a:Addr} {y:V} {o:Option V} (I:Inv X pins σ H s) (g:DGet H a y o):s.TypeIs (.ref a) "dict" := by
 rcases g with ⟨kvs,k,e,_,_⟩ | ⟨kvs,k,b,e,_,_,_⟩
 ·obtain ⟨_,_,vs,_,dd⟩:=AG I.hok e;exact dd.typeIs
 ·obtain ⟨_,_,xs,_,dd⟩:=CD I.hok e;exact dd.typeIs
noncomputable def JV (td ty:TE):TE:=fun σ H Q=>td σ H fun x H1=>ty σ H1 fun y H2=>∃ a v,x=.ref a∧DGet H2 a y (some v)∧Q v H2
noncomputable def J1 (td ty tv:TE):TS:=fun D σ H=>tv σ H fun v H1=>td σ H1 fun x H2=>ty σ H2 fun y H3=>∃ a H4,x=.ref a∧DPut H3 a y v H4∧D.nx σ H4
section
variable {X:Cx} {o i e value:Expr} {pos pos' tpos:Pos} {td ty tv:TE}
theorem Go (hu:X.A.units+1 < cLine) (ho:PE X o td) (hi:PE X i ty) (hs:JE i):PE X (.Subscript o i pos) (JV td ty):=by
 intro pins s σ H Q I h;refine FS PySem.F.slot_dict_getitem.lookup hs (thn (ho pins s σ H _ I h) fun u s1 ⟨x,H1,I1,rx,q1⟩=>thn (hi pins s1 σ H1 _ I1 q1) fun iv s2 ⟨y,H2,I2,ry,a,v,ex,g,q2⟩=>?_);subst ex;obtain rfl:u=Value.ref a:=rx;exact ⟨AI I2 g,Dn hu I2 g ry fun w' s3 I3 rw'=>⟨v,H2,I3,rw',q2⟩⟩
theorem Gf (hu:X.A.units+1 < cLine) (ho:PE X o td) (hi:PE X i ty) (hv:PE X value tv) (hs:swapsWith value (some (.Subscript o i pos')) pos.line X.env=pure false) :
  PS X (.Assign [.Subscript o i pos'] value pos) (J1 td ty tv):=by
 intro pins s σ H D I h;refine wpAny_Assign_Subscript (thn (hv pins s σ H _ I h) fun r s1 ⟨v,H1,I1,rv,q1⟩=>thn (ho pins s1 σ H1 _ I1 q1) fun u s2 ⟨x,H2,I2,rx,q2⟩=>thn (hi pins s2 σ H2 _ I2 q2) fun iv s3 ⟨y,H3,I3,ry,a,H4,ex,g,q3⟩=>?_) hs;subst ex;obtain rfl:u=Value.ref a:=rx;exact Dl hu I3 g ry rv fun s4 I4=>⟨σ,H4,I4,q3⟩
end
theorem AH {P:Program} {w:World} {H:Hp} (h:Heap) (hb:sysModules < h.objs.size):ObjOk P w H (h.push { cls:=.type "dict", data:=.dict #[] }) h.objs.size (.dK []) :=
 ⟨Mz _,beq_eq_false_iff_ne.mpr (Ne.symm (Mg hb)),[],.nil,Heap.DictOf.new h⟩
noncomputable def Ih:TE:=fun _ H Q=>∀ p,H p=none→Q (.ref p) (upd H p (.dK []))
section
variable {X:Cx} {pos:Pos}
theorem Ea:PE X (.Dict [] [] pos) Ih:=fun pins s σ H Q I h =>
 wpAny_Dict_empty ⟨.ref s.heap.objs.size,_,I.laid (a:=s.heap.objs.size) (o:=.dK []) (t':=s.toks) (fun _ _ q=>Heap.get?_push_of_some _ q) (LS _) (AH s.heap I.big),rfl,h _ (I.hok.fresh (LS _))⟩
end
noncomputable def yF:List (TE×TE)→St→Hp→(List (V×V)→Hp→Prop)→Prop
 | [],_,H,Q=>Q [] H
 | (tk,tv)::r,σ,H,Q=>tk σ H fun x H1=>tv σ H1 fun y H2=>yF r σ H2 fun ps H3=>Q ((x,y)::ps) H3
noncomputable abbrev VV:List (V×V)→List (Value×Value)→Prop:=Paired fun p q=>RelV p.1 q.1∧RelV p.2 q.2
noncomputable def PPs (X:Cx) (pos:Pos) (keys:List (Option Expr)) (values:List Expr) (trs:List (TE×TE)):Prop :=
 ∀ (pins:List (Addr×Obj)) (s:Shared) (σ:St) (H:Hp) (Q:List (V×V)→Hp→Prop),Inv X pins σ H s→yF trs σ H Q →
  wpAny (model X.prog X.w) X.A (evalPairs (pairTrees keys values X.env pos)) (fun vs s'=>∃ ps H',Inv X pins σ H' s'∧VV ps vs∧Q ps H') X.xe s
theorem Gg {X:Cx} {pos:Pos}:PPs X pos [] [] []:=fun pins s σ H Q I h=>pairTrees_nil_walk ⟨[],H,I,.nil,h⟩
theorem D0 {X:Cx} {pos:Pos} {k v:Expr} {ks:List (Option Expr)} {vs:List Expr} {tk tv:TE} {trs:List (TE×TE)} (hk:PE X k tk) (hv:PE X v tv) (hr:PPs X pos ks vs trs) :
  PPs X pos (some k::ks) (v::vs) ((tk,tv)::trs):=fun pins s σ H Q I h =>
 pairTrees_cons_walk (thn (hk pins s σ H _ I h) fun u s1 ⟨x,H1,I1,rx,q1⟩=>thn (hv pins s1 σ H1 _ I1 q1) fun w2 s2 ⟨y,H2,I2,ry,q2⟩ =>
  thn (hr pins s2 σ H2 _ I2 q2) fun ws s3 ⟨ps,H3,I3,rel,q3⟩=>⟨(x,y)::ps,H3,I3,.cons ⟨rx,ry⟩ rel,q3⟩)
noncomputable def sM (kvs more:List (Key×V)):List (Key×V):=more.foldl (fun acc kv=>mY acc kv.1 kv.2) kvs
theorem KV.merge:∀ {more:List (Key×V)} {rs:List (Key×Value)} {kvs:List (Key×V)} {vs:List (Key×Value)},KV more rs→KV kvs vs→KV (sM kvs more) (merged vs rs):=by
 intro more rs kvs vs r;unfold KV at r
 induction r generalizing kvs vs with
 | nil=>intro q; exact q
 | @cons p q ps qs h t ih =>
  intro r0;have e:KV (mY kvs p.1 p.2) (stored vs q.1 q.2):=by
   have:=r0.put p.1 h.2
   rw [← h.1]; exact this
  exact ih e
theorem sd:∀ (more kvs:List (Key×V)),(sM kvs more).length≤kvs.length+more.length
 | [],kvs=>by show kvs.length≤kvs.length+0; omega
 | p::r,kvs=>by
  have h1:=sd r (mY kvs p.1 p.2);have h2:=nM kvs p.1 p.2;show (sM (mY kvs p.1 p.2) r).length≤_;rw [L1]; omega
theorem xn {P:Program} {w:World}:∀ {kvs:List (Key×V)} {ws:List (Value×Value)},VV (kvs.map fun kv=>(kV kv.1,kv.2)) ws→∃ rs,Carries (eM P w) ws rs∧KV kvs rs
 | [],_,r=>by rw [M5] at r; cases r; exact ⟨[],True.intro,.nil⟩
 | p::kvs,_,r=>by
  rw [LW] at r;cases r with
  | @cons a b as bs h t =>
   obtain ⟨rs,c,q⟩:=xn (P:=P) (w:=w) t;obtain ⟨b1,b2⟩:=b;exact ⟨(p.1,b2)::rs,⟨Ay h.1,rfl,c⟩,.cons ⟨rfl,h.2⟩ q⟩
noncomputable def JU (trs:List (TE×TE)):TE:=fun σ H Q=>∀ p,H p=none→yF trs σ (upd H p (.dK [])) fun ps H2=>H2 p=some (.dK [])∧∃ kvs:List (Key×V),ps=kvs.map (fun kv=>(kV kv.1,kv.2))∧kvs.length≤15∧Q (.ref p) (upd H2 p (.dK (sM [] kvs)))
theorem Gn {X:Cx} {pos:Pos} {keys:List (Option Expr)} {values:List Expr} {trs:List (TE×TE)} (h:PPs X pos keys values trs) (hall:keys.all (·.isSome)=true) (hl:keys.length=values.length) (h0:keys≠[])
  (h15:keys.length≤15):PE X (.Dict keys values pos) (JU trs):=by
 intro pins s σ H Q I q;have hn:=I.hok.fresh (LS s.heap.objs.size);have I1:=I.laid (a:=s.heap.objs.size) (o:=.dK []) (h':=s.heap.push { cls:=.type "dict", data:=.dict #[] }) (t':=s.toks) (fun _ _ q=>Heap.get?_push_of_some _ q) (LS _) (AH s.heap I.big);refine wpAny_Dict_walk (knd:=eM X.prog X.w) hall hl h0 h15 (thn (h pins _ σ _ _ I1 (q _ hn)) fun ws s2 ⟨ps,H2,I2,rel,e,kvs,ep,lk,q2⟩=>?_);subst ep;obtain ⟨rs,c,rk⟩:=xn (P:=X.prog) (w:=X.w) rel;obtain ⟨z,hd,vs0,r0,dd⟩:=E5 I2.hok e;cases r0;refine ⟨rs,c,dd,fun h' dd' hs=>⟨.ref s.heap.objs.size,_,?_,rfl,q2⟩⟩;have hz:(sM [] kvs).length≤sizeLine:=by
  have h1:=sd kvs [];rw [List.length_nil] at h1;rw [sizeLine_eq]; omega
 have he:∃ q,h'.get? s.heap.objs.size=some q:=let ⟨q,_,_,hq,_⟩:=dd'; ⟨q,hq⟩;exact wm I2 (by rw [e]; exact True.intro) hs he (Bz hz hd (rk.merge .nil) dd')
structure M1 (X:Cx) (o:Expr) (m:Str) (apos:Pos) (e:Expr) (cpos:Pos):Prop where
 base:attributeBase o m X.env (eval o X.env)=eval o X.env
 few:((backTo cpos (starEach [e] X.env)).all (fun x=>!x.1)&&(backToKw cpos (keywordEach [] X.env)).all (fun x=>x.1.isSome)
  && decide (([e]:List Expr).length+([]:List Keyword).length+(if ([]:List Keyword).isEmpty then 0 else 1) < 30))=true
 line:(apos.endLine==cpos.line)=true
 trees:backTo cpos (starEach [e] X.env)=[(false,eval e X.env)]
structure M2 (X:Cx) (o:Expr) (m:Str) (apos:Pos) (e f:Expr) (cpos:Pos):Prop where
 base:attributeBase o m X.env (eval o X.env)=eval o X.env
 few:((backTo cpos (starEach [e,f] X.env)).all (fun x=>!x.1)&&(backToKw cpos (keywordEach [] X.env)).all (fun x=>x.1.isSome)
  && decide (([e,f]:List Expr).length+([]:List Keyword).length+(if ([]:List Keyword).isEmpty then 0 else 1) < 30))=true
 line:(apos.endLine==cpos.line)=true
 trees:backTo cpos (starEach [e,f] X.env)=[(false,eval e X.env),(false,eval f X.env)]
noncomputable def IsD (H:Hp) (a:Addr):Prop:=(∃ kvs,Rd H a (.dK kvs))∨∃ kvs,Rd H a (.dT kvs)
theorem Jf {X:Cx} {pins:List (Addr×Obj)} {σ:St} {H:Hp} {s:Shared} {a:Addr} (I:Inv X pins σ H s) (d:IsD H a) :
  s.TypeIs (.ref a) "dict" ∧ (∀ b,Value.ref a=.ref b→∃ ob,s.heap.get? b=some ob∧ob.dict=none)∧(a==sysModules)=false:=by
 rcases d with ⟨kvs,e⟩ | ⟨kvs,e⟩
 ·obtain ⟨_,hd,vs,_,dd⟩:=AG I.hok e;refine ⟨dd.typeIs,fun b q=>?_,hd⟩;cases q;obtain ⟨ob,_,_,h1,h2,_⟩:=dd;exact ⟨ob,h1,h2.2.1⟩
 ·obtain ⟨_,hd,xs,_,dd⟩:=CD I.hok e;refine ⟨dd.typeIs,fun b q=>?_,hd⟩;cases q;obtain ⟨ob,_,_,h1,h2,_⟩:=dd;exact ⟨ob,h1,h2.2.1⟩
end L2
namespace L2
open PySem
noncomputable def zk (env:Env):List (Str×NameKind)→List (Str×Addr)→List (Str×Addr)
 | [],cs=>cs
 | (n,k)::r,cs=>zk env r (if k==.free then (n,(env.cells.lookup n).getD 0)::cs else cs)
noncomputable def AQ (scope:Scope) (env:Env):List (Str×Addr):=zk env scope.names []
theorem sx {scope:Scope} {env:Env} (h:∀ x∈scope.names,x.2=.free→∃ c,env.cells.lookup x.1=some c):closureFor scope env=pure (AQ scope env):=by
 unfold closureFor AQ;have key:∀ (l:List (Str×NameKind)) (cs:List (Str×Addr)),(∀ x∈l,x.2=.free→∃ c,env.cells.lookup x.1=some c) →
   (forIn l cs (fun x (r:List (Str×Addr))=>match x with
    | (name,kind)=>if (kind==NameKind.free)=true then do let a ← cellOf env name; pure (ForInStep.yield ((name,a)::r)) else pure (ForInStep.yield r)):Sem (List (Str×Addr)))=pure (zk env l cs):=by
  intro l
  induction l with
  | nil=>intro cs _; rfl
  | cons x r ih =>
   intro cs hx;obtain ⟨n,k⟩:=x;rw [List.forIn_cons];by_cases hk:(k==NameKind.free)=true
   ·obtain ⟨c,hc⟩:=hx (n,k) L7 (by simpa using hk);have e:cellOf env n=pure c:=by unfold cellOf; rw [show env.cells.lookup n=some c from hc]
    simp only [hk,if_true,e,pure_bind];rw [ih _ fun y hy=>hx y (LX _ hy)];have hc':env.cells.lookup n=some c:=hc;simp only [zk,hk,if_true,hc',Option.getD_some]
   ·simp only [hk,Bool.false_eq_true,if_false,pure_bind];rw [ih _ fun y hy=>hx y (LX _ hy)];simp only [zk,hk,Bool.false_eq_true,if_false]
 have:=key scope.names [] h
 dsimp only;rw [this];rfl
theorem AR (env:Env):∀ (l:List (Str×NameKind)) (cs:List (Str×Addr)) (p:Str×Addr),p∈zk env l cs→p∈cs∨((p.1,NameKind.free)∈l∧p.2=(env.cells.lookup p.1).getD 0)
 | [],cs,p,h=>.inl h
 | (n,k)::r,cs,p,h=>by
  unfold zk at h;rcases AR env r _ p h with h | ⟨h1,h2⟩
  ·by_cases hk:(k==NameKind.free)=true
   ·rw [if_pos hk] at h;rcases Mb.mp h with h | h
    ·have e:k=.free:=by simpa using hk
     subst h; subst e;exact .inr ⟨L7,rfl⟩
    ·exact .inl h
   ·rw [if_neg hk] at h; exact .inl h
  ·exact .inr ⟨LX _ h1,h2⟩
theorem AS (env:Env):∀ (l:List (Str×NameKind)) (cs:List (Str×Addr)) (n:Str),((n,NameKind.free)∈l∨∃ a,(n,a)∈cs)→∃ a,(n,a)∈zk env l cs
 | [],cs,n,h=>by
  rcases h with h | h
  ·cases h
  ·exact h
 | (m,k)::r,cs,n,h=>by
  unfold zk;refine AS env r _ n ?_;rcases h with h | ⟨a,h⟩
  ·rcases Mb.mp h with h | h
   ·cases h;exact .inr ⟨_,by rw [if_pos (by simp)]; exact L7⟩
   ·exact .inl h
  ·refine .inr ⟨a,?_⟩
   split
   ·exact LX _ h
   ·exact h
theorem m6 {β:Type}:∀ {l:List (Str×β)} {n:Str} {a:β},(n,a)∈l→∃ b,l.lookup n=some b
 | [],_,_,h=>by cases h
 | (m,b)::r,n,a,h=>by
  rw [MU];by_cases e:n=m
  ·subst e; simp
  ·have hb:(n==m)=false:=by simpa using e
   rw [hb];rcases Mb.mp h with h | h
   ·cases h; exact absurd rfl e
   ·exact m6 h
theorem CH {scope:Scope} {env:Env} (h:∀ x∈scope.names,x.2=.free→∃ c,env.cells.lookup x.1=some c) {x:Str} {c:Addr} (e:(AQ scope env).lookup x=some c):env.cells.lookup x=some c:=by
 have m:=PySem.mem_of_lookup e;rcases AR env scope.names [] (x,c) m with h' | ⟨h1,h2⟩
 ·cases h'
 ·obtain ⟨d,hd⟩:=h _ h1 rfl;have hd':env.cells.lookup x=some d:=hd;have h2':c=(env.cells.lookup x).getD 0:=h2;rw [hd'] at h2' ⊢;rw [h2']; rfl
theorem AO {scope:Scope} {env:Env} {x:Str} (h:(x,NameKind.free)∈scope.names):∃ c,(AQ scope env).lookup x=some c:=by
 obtain ⟨a,ha⟩:=AS env scope.names [] x (.inl h);exact m6 ha
end L2
namespace L2
open PySem PySem.Spec PyProof.Rows
structure CompSc (X:Cx) (scope:Scope) (N':List Str) (mp:List (Option Nat)):Prop where
 kind:scope.kind=.function
 nocell:∀ x∈scope.names,x.2≠.cell
 names:∀ x∈scope.names,x.2=.local→scope.names.lookup x.1=some .local
 fr:∀ x∈scope.names,x.2=.free→X.env.scope.names.lookup x.1=some .cell∨X.env.scope.names.lookup x.1=some .free
 len:mp.length=N'.length
 map:∀ (i:Nat) (x:Str) (j:Nat),N'[i]?=some x→mp[i]?=some (some j)→X.N[j]?=some x∧(x,NameKind.free)∈scope.names∧((relabel scope X.env).names.lookup x=some .cell∨(relabel scope X.env).names.lookup x=some .free)
noncomputable def jA (mp:List (Option Nat)) (σ:St):St:=mp.map fun o=>o.bind fun j=>(σ[j]?).join
noncomputable def ci (X:Cx) (scope:Scope) (N':List Str) (s:Shared) (H:Hp) (fp:List Addr):Cx :=
 { X with N:=N',s₀:=s,H₀:=H,env:=compEnvC scope (AQ scope X.env) s.heap.objs.size X.env,outer:=X.stack,ex:=fp,fn:=fun _=>false,pn:=[],xe:=fun _ _=>False }
theorem yM {scope:Scope} {env:Env} {x:Str} (nc:∀ y∈scope.names,y.2≠.cell) (h:(relabel scope env).names.lookup x=some .cell∨(relabel scope env).names.lookup x=some .free):(x,NameKind.free)∈scope.names:=by
 have m:∃ k,(x,k)∈(relabel scope env).names∧(k=.cell∨k=.free):=by
  rcases h with h | h
  ·exact ⟨_,PySem.mem_of_lookup h,.inl rfl⟩
  ·exact ⟨_,PySem.mem_of_lookup h,.inr rfl⟩
 obtain ⟨k,hm,hk⟩:=m;unfold relabel at hm;obtain ⟨⟨n,k'⟩,hin,e⟩:=M6.mp hm;dsimp only at e;split at e
 ·rename_i hc;have e1:n=x:=congrArg Prod.fst e;have e2:k'=.free:=by
   have:=(MZ.mp (MZ.mp hc).1).1
   simpa using this
  rw [← e1,← e2]; exact hin
 ·have e1:n=x:=congrArg Prod.fst e;have e2:k'=k:=congrArg Prod.snd e;rcases hk with hk | hk
  ·exact absurd (e2.trans hk) (nc _ hin)
  ·rw [← e1,← hk,← e2]; exact hin
section
variable {X:Cx} {pins:List (Addr×Obj)} {σ:St} {H:Hp} {s:Shared} {scope:Scope} {N':List Str} {mp:List (Option Nat)} {fp:List Addr}
theorem CompSc.cells (ck:CompSc X scope N' mp) (ok:X.Ok):∀ x∈scope.names,x.2=.free→∃ c,X.env.cells.lookup x.1=some c:=fun x hx hf=>ok.has x.1 (ck.fr x hx hf)
theorem Inv.inner (I:Inv X pins σ H s) (ck:CompSc X scope N' mp) (hf:∀ b∈fp,rf X pins H b) (hlt:∀ b∈fp,b < s.heap.objs.size) {h₁:Heap} {tk:Nat}
  (hn:h₁.Ns s.heap.objs.size (fun _=>none)) (hk:∀ b o,s.heap.get? b=some o→h₁.get? b=some o) :
  Inv (ci X scope N' s H fp) [] (jA mp σ) H { s with heap:=h₁,toks:=tk }:=by
 have hfree:=ck.cells I.ok;have cin:∀ x c,(AQ scope X.env).lookup x=some c→X.env.cells.lookup x=some c:=fun x c e=>CH hfree e;have clt:∀ x c,X.env.cells.lookup x=some c→c < s.heap.objs.size:=fun x c e=>by
  obtain ⟨v,q⟩:=I.cell x c e;exact q.lt
 refine ⟨⟨I.ok.mod,ck.kind,I.ok.glob,I.ok.blt,LS _,fun x y c h1 h2=>I.ok.inj x y c (cin x c h1) (cin y c h2),fun x hx=>?_,fun x c h _=>?_,I.ok.hd,I.ok.frames,.inl rfl,fun b hb=>⟨?_,fun x c e=>?_⟩,I.bs,L9 I.ok.bsz I.sz,fun b o e hb=>?_,fun b hb hs=>?_,I.stack,I.stkFree⟩,rfl,I.bare,Un.kept hk,⟨_,hn,fun i x v h1 h2 h3=>?_⟩,fun x c e=>?_,I.hok.fresh (LS _),fun x c e=>?_,fun p hp=>absurd (show p∈([]:List (Addr×Obj)) from hp) (by simp),I.hok.kept hk,?_⟩
 ·exact AO (yM ck.nocell hx)
 ·exact absurd (show false=true from h) (by decide)
 ·exact Mg (hlt b hb)
 ·exact (hf b hb).2.2.2.2.1 x c (cin x c e)
 ·have q:=(hf b hb).2.2.2.1;rcases q with q | q
  ·exact I.ok.noex b o e q
  ·exact absurd (L5 (Heap.lt_size e) (L9 I.ok.bsz q)) (MQ _)
 ·rcases Mb.mp (I.stkSub b hs) with z | z
  ·exact (hf b hb).2.1 z
  ·exact (hf b hb).2.2.1 z
 ·have hi:∃ j,mp[i]?=some (some j)∧σ[j]?=some (some v):=by
   unfold jA at h2;rw [L8] at h2;cases q:mp[i]? with
   | none=>rw [q] at h2; cases h2
   | some o =>
    rw [q] at h2;have h2':(o.bind fun j=>(σ[j]?).join)=some v:=Option.some.inj h2;cases o with
    | none=>cases h2'
    | some j =>
     have h2'':(σ[j]?).join=some v:=h2';refine ⟨j,rfl,?_⟩;cases r:σ[j]? with
     | none=>rw [r] at h2''; cases h2''
     | some w' =>
      rw [r] at h2''
      have:w'=some v:=h2''
      rw [this]
  obtain ⟨j,hj,hσ⟩:=hi;obtain ⟨m1,m2,m3⟩:=ck.map i x j h1 hj;obtain ⟨m,hm,hl⟩:=I.loc;have vis:Vis X.env.scope x:=by
   rcases ck.fr _ m2 rfl with q | q
   ·exact .inr (.inl q)
   ·exact .inr (.inr q)
  obtain ⟨u,ru,l⟩:=hl j x v m1 hσ vis;refine ⟨u,ru,.inr ⟨m3,?_⟩⟩;obtain ⟨c,hc⟩:=AO (env:=X.env) m2;refine ⟨c,hc,?_⟩;rcases l with ⟨k,_⟩ | ⟨_,c',e',z⟩
  ·rcases ck.fr _ m2 rfl with q | q
   ·have k':X.env.scope.names.lookup x=some .local:=k;have q':X.env.scope.names.lookup x=some .cell:=q;rw [k'] at q'; cases q'
   ·have k':X.env.scope.names.lookup x=some .local:=k;have q':X.env.scope.names.lookup x=some .free:=q;rw [k'] at q'; cases q'
  ·have e2:=cin x c hc;rw [e'] at e2;cases e2;obtain ⟨o,ho,hd⟩:=z;exact ⟨o,hk _ o ho,hd⟩
 ·obtain ⟨v,o,ho,hd⟩:=I.cell x c (cin x c e);exact ⟨v,o,hk _ o ho,hd⟩
 ·exact I.freeC x c (cin x c e)
 ·show (jA mp σ).length=N'.length;unfold jA;rw [LO];exact ck.len
theorem Inv.outer {σ':St} {H':Hp} {s':Shared} (I:Inv X pins σ H s) (hf:∀ b∈fp,rf X pins H b) (J:Inv (ci X scope N' s H fp) [] σ' H' s'):Inv X pins σ H' s' :=
 I.call' (ch:=fp) J.os J.base J.hok J.bare fun b hb=>⟨(hf b hb).2.2.2.1,(hf b hb).2.1,(hf b hb).2.2.2.2.1,(hf b hb).2.2.2.2.2⟩
end
noncomputable def wp (σ σ':St):Prop:=σ'.length=σ.length∧∀ (i:Nat) v,σ[i]?=some (some v)→σ'[i]?=some (some v)
noncomputable def PTs (X:Cx) (ifs:List Expr) (t:TT):Prop :=
 ∀ (pins:List (Addr×Obj)) (s:Shared) (σ:St) (H:Hp) (Q:Bool→Hp→Prop),Inv X pins σ H s→t σ H Q →
  wpAny (model X.prog X.w) X.A (forIn ifs true fun c r=>if r=true then do let ok ← isTrue c X.env (eval c X.env); pure (ForInStep.yield ok) else pure (ForInStep.yield r)) (TP X pins σ Q) X.xe s
theorem BZ {X:Cx}:PTs X [] (fun _ H Q=>Q true H):=fun _ _ _ H _ I h=>wpAny_tests_nil ⟨H,I,h⟩
theorem BY {X:Cx} {c:Expr} {t:TT} (hc:PT X c t):PTs X [c] t:=fun pins s σ H Q I h=>wpAny_tests_one (hc pins s σ H Q I h)
noncomputable def HV (J:It) (σ':St) (g:TG) (tt:TT) (te:TE) (D:Addr) (Fin:Hp→Prop) (H1:Hp):Prop :=
 ∃ W:Nat→Nat→Hp→Prop,(∃ m,W 0 m (upd H1 D (.lst [])))∧∀ i m H,W i m H →
  (J.stop i H∧Fin H)∨(J.go i H∧∃ Nx:Hp→Prop,(∀ H',Nx H'→∃ m',m' < m∧W (i+1) m' H')∧∀ x H',J.yld i H x H'→g x σ' H' fun σ2 H2=>wp σ' σ2 ∧
   tt σ2 H2 fun ok H3=>if ok=true then te σ2 H3 fun y H4=>∃ ys,H4 D=some (.lst ys)∧ys.length < sizeLine∧Nx (upd H4 D (.lst (ys++[y]))) else Nx H3)
noncomputable def BR (mp:List (Option Nat)) (wi:TI) (g:TG) (tt:TT) (te:TE):TE:=fun σ H Q=>wi σ H fun J H1=>∀ D,H1 D=none→HV J (jA mp σ) g tt te D (fun H=>Q (.ref D) H) H1
theorem qW {prog:Program} {w:World} {A:Around} {R:Result→Shared→Prop} {s:Shared} {elt target iter:Expr} {ifs:List Expr} {scope:Scope} {pos:Pos} {it acc:Value} {env:Env} (I:Nat→Shared→Prop)
  (turn:∀ n s,I n s→wpAny (model prog w) A (pyNext it) (fun r s₁=>match r with
   | none=>R (.ok .next) s₁
   | some v=>wpAny (model prog w) A (letOwnedTupleGo target it v) (fun _ s₀=>wpAny (model prog w) A (assign target env v) (fun _ s₂ =>
     wpAny (model prog w) A (forIn ifs true fun c r=>if r=true then do let ok ← isTrue c env (eval c env); pure (ForInStep.yield ok) else pure (ForInStep.yield r)) (fun ok s₃ =>
      if ok=true then wpAny (model prog w) A (eval elt env) (fun x s₄ =>
       wpAny (model prog w) A (call (.builtin "list.append") [acc,x]) (fun _ s₅=>∃ m,m < n∧I m s₅) (fun _ _=>False) s₄) (fun _ _=>False) s₃
      else ∃ m,m < n∧I m s₃) (fun _ _=>False) s₂) (fun _ _=>False) s₀) (fun _ _=>False) s₁) (fun _ _=>False) s)
  (n:Nat) (h:I n s) :
  codeAny (model prog w) A (.compLoop (.ListComp elt [⟨target,iter,ifs,0⟩] scope pos) 0 it acc env) R s:=by
 refine codeAny_loop rfl I (fun n s hI=>?_) n h;show wpAny _ A ((compTurn (.ListComp elt [⟨target,iter,ifs,0⟩] scope pos) 0 it acc env).onRaise (fun x=>do noteFrame x env; theTreesLotGoes x)) _ _ s;refine wpAny_noted ?_;rw [compTurn_list];have no:∀ {P:Value→Shared→Prop} (e:Value) (s':Shared),False→P e s':=fun _ _ f=>f.elim;refine wpAny_bind (wpAny_standAt (wpAny_bind (wpAny_mono (turn n s hI) (fun r s₁ h₁=>?_) no)));cases r with
 | none=>exact wpAny_pure h₁
 | some v =>
  refine wpAny_bind (wpAny_mono h₁ (fun _ s₀ h₀=>?_) no);refine wpAny_bind (wpAny_mono h₀ (fun _ s₂ h₂=>wpAny_bind (wpAny_mono h₂ (fun ok s₃ h₃=>?_) no)) no);cases ok with
  | false=>exact wpAny_pure ⟨rfl,h₃⟩
  | true =>
   exact wpAny_bind (wpAny_bind (wpAny_mono h₃ (fun x s₄ h₄=>wpAny_bind (wpAny_mono h₄ (fun _ s₅ h₅=>wpAny_pure (wpAny_pure ⟨rfl,h₅⟩)) no)) no))
section
variable {X:Cx} {elt iter tg:Expr} {ifs:List Expr} {scope:Scope} {pos:Pos} {N':List Str} {mp:List (Option Nat)} {wi:TI} {g:TG} {tt:TT} {te:TE}
theorem xk {pins:List (Addr×Obj)} {σ:St} {H:Hp} {s:Shared} {J:It} {it:Addr} {fp:List Addr} {tn:Nat→Heap→Prop} {Fin:Hp→Prop} {E:Value→Shared→Prop} {RR:Value→Addr→Result→Shared→Prop}
  (hc:X.calm=true) (ck:CompSc X scope N' mp) (hb:∀ s H fp,PG (ci X scope N' s H fp) tg g∧PTs (ci X scope N' s H fp) ifs tt∧PE (ci X scope N' s H fp) elt te)
  (I:Inv X pins σ H s) (T:Turn X.prog X.w X.K tg J fp it tn) (st:tn 0 s.heap) (hf:∀ b∈fp,rf X pins H b) (hq:HV J (jA mp σ) g tt te s.heap.objs.size Fin H)
  (hRR:∀ (C:Addr) (s':Shared) (H':Hp),Inv X pins σ H' s'→Fin H'→(∃ m,s'.heap.Ns C m)→H' C=none→C≠X.env.locals→X.s₀.heap.objs.size≤C→(∀ x c,X.env.cells.lookup x=some c→c≠C)→(∀ p∈X.pn++pins,p.1≠C)→RR (.ref s.heap.objs.size) C (.ok .next) s') :
  wpAny (model X.prog X.w) X.A (newList []) (fun acc s₃=>wpAny (model X.prog X.w) X.A (newFunctionEnv scope X.env.globals (AQ scope X.env) [] X.env.qual none .none (some X.env)) (fun cenv s₄ =>
   codeAny (model X.prog X.w) X.A (.compStart (.ListComp elt [⟨tg,iter,ifs,0⟩] scope pos) 0 (.ref it) acc { cenv with scope:=relabel scope X.env }) (RR acc cenv.locals) s₄) E s₃) E s:=by
 refine wpAny_newObj_type (wpAny_newFunctionEnv ck.nocell (by intro y hy; simp at hy) (fun h₁ hns₁ hsb₁=>?_) ck.kind);dsimp only at hns₁ hsb₁ ⊢;have I3:Inv X pins σ (upd H s.heap.objs.size (.lst [])) { s with heap:=s.heap.push { cls:=.type "list", dict:=none,data:=.seq ([]:List Value).toArray } }:=I.lnew (its:=[]) (t':=s.toks) .nil (Mz _);generalize hs3:({ s with heap:=s.heap.push { cls:=.type "list", dict:=none,data:=.seq ([]:List Value).toArray } }:Shared)=s3 at I3;have e3:s.heap.push { cls:=.type "list", dict:=none,data:=.seq ([]:List Value).toArray }=s3.heap:=by rw [← hs3]
 rw [e3] at hns₁ hsb₁ ⊢;have sz3:s3.heap.objs.size=s.heap.objs.size+1:=by rw [← e3,Heap.size_push]
 have le3:s.heap.objs.size≤s3.heap.objs.size:=by rw [sz3]; exact Nat.le_succ _
 have fplt:∀ b∈fp,b < s.heap.objs.size:=fun b hb=>by
  obtain ⟨o,e,_⟩:=T.obj 0 _ st b hb;exact Heap.lt_size e
 have hf3:∀ b∈fp,rf X pins (upd H s.heap.objs.size (.lst [])) b:=fun b hb=>⟨by rw [aE (Mg (fplt b hb))]; exact (hf b hb).1,(hf b hb).2⟩;have k1:∀ b o,s3.heap.get? b=some o→h₁.get? b=some o:=fun b o e=>by
  rw [hsb₁.2 b (Mg (Heap.lt_size e))];exact Heap.get?_push_of_some _ e
 have k0:∀ b o,s.heap.get? b=some o→h₁.get? b=some o:=fun b o e=>k1 b o (by rw [← e3]; exact Heap.get?_push_of_some _ e);obtain ⟨W,⟨m0,w0⟩,turn⟩:=hq;obtain ⟨hg,ht,he⟩:=hb s3 (upd H s.heap.objs.size (.lst [])) fp;have no:∀ {P:Value→Shared→Prop} (e:Value) (s':Shared),False→P e s':=fun _ _ f=>f.elim;have stat:∀ {H':Hp},(∀ b∈fp,H' b=none)→∀ b∈fp,rf (ci X scope N' s3 (upd H s.heap.objs.size (.lst [])) fp) [] H' b:=fun hn b hb =>
  ⟨hn b hb,Mg (L5 (fplt b hb) le3),fun z=>by
   rcases Mb.mp (I3.stkSub b z) with z | z
   ·exact (hf b hb).2.1 z
   ·exact (hf b hb).2.2.1 z,.inl hb,fun x c e=>(hf b hb).2.2.2.2.1 x c (CH (ck.cells I.ok) e),fun p hp=>absurd (show p∈([]:List (Addr×Obj)) from hp) (by simp)⟩
 have loop:∀ tk:Nat,codeAny (model X.prog X.w) X.A (.compLoop (.ListComp elt [⟨tg,iter,ifs,0⟩] scope pos) 0 (.ref it) (.ref s.heap.objs.size) (compEnvC scope (AQ scope X.env) s3.heap.objs.size X.env))
   (RR (.ref s.heap.objs.size) s3.heap.objs.size) { s3 with heap:=h₁,toks:=tk }:=by
  intro tk;have I4:Inv (ci X scope N' s3 (upd H s.heap.objs.size (.lst [])) fp) [] (jA mp σ) (upd H s.heap.objs.size (.lst [])) { s3 with heap:=h₁,toks:=tk } :=
   I3.inner ck hf3 (fun b hb=>L5 (fplt b hb) le3) (by simpa using hns₁) k1
  refine qW (fun n s'=>∃ i H',Inv (ci X scope N' s3 (upd H s.heap.objs.size (.lst [])) fp) [] (jA mp σ) H' s'∧tn i s'.heap∧(∀ b∈fp,H' b=none)∧W i n H') ?_ m0
   ⟨0,_,I4,T.keep _ _ _ st fun b _ o e=>k0 b o e,fun b hb=>(hf3 b hb).1,w0⟩
  rintro n s5 ⟨i,H5,I5,st5,fr5,w5⟩
  rcases turn i n H5 w5 with ⟨stop,fin⟩ | ⟨go,Nx,hN,step⟩
  ·refine thn (T.done (ci X scope N' s3 (upd H s.heap.objs.size (.lst [])) fp) rfl rfl rfl hc i [] s5 (jA mp σ) H5 _ I5 (stat fr5) st5 stop) fun r s6 ⟨hr,I6⟩=>?_;subst hr;have IO:Inv X pins σ H5 s6:=I3.outer hf3 I6;obtain ⟨m,hm,_⟩:=I6.loc;refine hRR _ s6 H5 IO fin ⟨m,hm⟩ I6.free (Nb I3.lt) I3.sz (fun x c e=>?_) fun p hp=>?_
   ·obtain ⟨v,q⟩:=I3.cell x c e;exact Mg q.lt
   ·exact Mg (Heap.lt_size (I3.pin p hp).1)
  ·refine thn (T.item (ci X scope N' s3 (upd H s.heap.objs.size (.lst [])) fp) rfl rfl rfl hc i [] s5 (jA mp σ) H5 _ I5 (stat fr5) st5 go) fun r s6 ⟨u,hr,h6⟩=>?_;subst hr;refine thn h6 fun _ s7 ⟨x,H7,I7,r7,y7,st7,fr7⟩=>?_;have I7':=I7.pinned (stat fr7) (T.obj _ _ st7);have back:∀ {σ9:St} {H9:Hp} {s9:Shared},Inv (ci X scope N' s3 (upd H s.heap.objs.size (.lst [])) fp) ([]++wF fp s7.heap) σ9 H9 s9→wp (jA mp σ) σ9→Nx H9 →
     ∃ m,m < n∧∃ i H',Inv (ci X scope N' s3 (upd H s.heap.objs.size (.lst [])) fp) [] (jA mp σ) H' s9∧tn i s9.heap∧(∀ b∈fp,H' b=none)∧W i m H':=fun {σ9 H9 s9} I9 ks n9=>by
    obtain ⟨m',hm,w9⟩:=hN H9 n9;refine ⟨m',hm,i+1,H9,(Inv.unpinned (pins:=[]) I9).weak ks.1.symm ks.2,T.keep _ _ _ st7 fun b hb o e=>(I9.pin (b,o) (Mm _ (Mm _ (pE hb e)))).1,fun b hb=>?_,w9⟩;obtain ⟨o,e,d⟩:=T.obj _ _ st7 b hb;exact (I9.pin (b,o) (Mm _ (Mm _ (pE hb e)))).2.1
   refine thn (hg _ s7 (jA mp σ) H7 x u _ I7' r7 (step x H7 y7)) fun _ s8 ⟨σ8,H8,I8,ks,q8⟩=>?_;refine thn (ht _ s8 σ8 H8 _ I8 q8) fun ok s9 ⟨H9,I9,q9⟩=>?_;cases ok with
   | false =>
    rw [if_neg LU] at q9 ⊢;exact back I9 ks q9
   | true =>
    rw [if_pos rfl] at q9 ⊢;refine thn (he _ s9 σ8 H9 _ I9 q9) fun y s10 ⟨yv,H10,I10,r10,ys,hD,hlen,nx⟩=>?_;refine thn (uT _ s10 σ8 H10 (.ref s.heap.objs.size) [yv] (.ref s.heap.objs.size) [y] (fun _ H'=>Nx H') I10 rfl (.cons r10 .nil) ⟨_,ys,yv,rfl,rfl,hD,hlen,nx⟩) fun z s11 ⟨zv,H11,I11,_,n11⟩=>?_;exact back I11 ks n11
 subst hs3;exact codeAny_compStart_list (loop _) (T.self _ 0 _ _ _ (T.keep _ _ _ st fun b _ o e=>k0 b o e) (loop _))
theorem B6 (hc:X.calm=true) (ck:CompSc X scope N' mp) (hi:PI X tg iter wi)
  (hb:∀ s H fp,PG (ci X scope N' s H fp) tg g∧PTs (ci X scope N' s H fp) ifs tt∧PE (ci X scope N' s H fp) elt te)
  (hs:∀ x,foldedSetIterable iter X.env x=pure x:=by intro _; rfl):PE X (.ListComp elt [⟨tg,iter,ifs,0⟩] scope pos) (BR mp wi g tt te):=by
 intro pins s σ H Q I h;rw [eval_ListComp];refine wpAny_comprehension_free (use:=none) rfl hs (sx (ck.cells I.ok)) ck.kind ck.names ?_;refine thn (hi pins s σ H _ I h) fun v s1 h1=>thn h1 fun itv s2 h2=>?_;obtain ⟨it,fp,tn,J,H2,e,I2,T,st2,f2,q2⟩:=h2;subst e;refine xk hc ck hb I2 T st2 f2 (q2 _ (I2.hok.fresh (LS _))) fun C s' H' I' fin hm hC h1 h2 h3 h4=>?_;obtain ⟨m,hm⟩:=hm;refine ⟨m,hm,fun h' sb=>⟨.ref _,H',?_,rfl,fin⟩⟩;exact I'.turned (t':=s'.toks) (fun b o hb e=>(sb.2 b hb).trans e) hC h1 (.inr h2) h3 h4
theorem sG {i:Nat} {y:Str} {py spos:Pos} (hc:X.calm=true) (hN:X.N.Nodup) (hiy:X.N[i]?=some y) (hy:X.env.scope.names.lookup y=some .local) (ck:CompSc X scope N' mp) (hi:PI X tg iter wi)
  (hb:∀ s H fp,PG (ci X scope N' s H fp) tg g∧PTs (ci X scope N' s H fp) ifs tt∧PE (ci X scope N' s H fp) elt te)
  (hsw:swapsWith (.ListComp elt [⟨tg,iter,ifs,0⟩] scope pos) (some (.Name y py)) spos.line X.env=pure true:=by rfl)
  (hs:∀ x,foldedSetIterable iter X.env x=pure x:=by intro _; rfl) :
  PS X (.Assign [.Name y py] (.ListComp elt [⟨tg,iter,ifs,0⟩] scope pos) spos) (FQ (BR mp wi g tt te) (yq i)):=by
 intro pins s σ H D I h;rw [exec_Assign_Name_used _ _ _ _ hsw];refine wpAny_bind (wpAny_standAt (wpAny_bind ?_));show wpAny _ X.A (do let _ ← comprehension (.ListComp elt [⟨tg,iter,ifs,0⟩] scope pos) scope X.env _ (newList []) false (eval iter X.env) (some (assign (.Name y py) X.env))) _ _ s;refine wpAny_bind (wpAny_mono (wpAny_comprehension_free (use:=some (assign (.Name y py) X.env)) (Q:=fun _ s'=>SP X pins D .next s') rfl hs (sx (ck.cells I.ok)) ck.kind ck.names ?_) (fun _ s' hq=>wpAny_pure (wpAny_pure hq)) fun _ _ e=>e);refine thn (hi pins s σ H _ I h) fun v s1 h1=>thn h1 fun itv s2 h2=>?_;obtain ⟨it,fp,tn,J,H2,e,I2,T,st2,f2,q2⟩:=h2;subst e;refine xk hc ck hb I2 T st2 f2 (q2 _ (I2.hok.fresh (LS _))) fun C s' H' I' fin hm hC h1 h2 h3 h4=>?_;obtain ⟨m,hm⟩:=hm;refine wpAny_assign_Name (yc (v:=.ref s2.heap.objs.size) I' hN hiy (.inl hy) rfl (fun s'' I'' ⟨a,sb,ha⟩=>?_) (.inr hy));have hCa:C≠a:=by
  rcases ha with ha | ha
  ·rw [ha]; exact h1
  ·exact fun z=>h3 _ _ ha z.symm
 refine ⟨m,hm.sameBut sb hCa,fun h' sb'=>⟨_,H',?_,fin⟩⟩;exact I''.turned (t':=s''.toks) (fun b o hb e=>(sb'.2 b hb).trans e) hC h1 (.inr h2) h3 h4
end
end L2
namespace L2.PU
open PySem PySem.Spec PyProof.Rows
noncomputable def nst:Expr→Bool
 | .Starred _ _=>false
 | _=>true
theorem bW {e:Expr} {es:List Expr} {env:Env} (h:nst e=true):starEach (e::es) env=(false,eval e env)::starEach es env:=by
 cases e <;> first | rfl | cases h
theorem iW {pos:Pos} {env:Env}:∀ {es:List Expr},es.all nst=true→(backTo pos (starEach es env)).any (·.1)=false
 | [],_=>rfl
 | e::es,h=>by
  rw [MY,Ms] at h;rw [bW h.1];show (false||(backTo pos (starEach es env)).any (·.1))=false;rw [iW h.2]; rfl
noncomputable def kD:Key→PyData
 | .inl i=>.int i
 | .inr x=>.str x
mutual
noncomputable def Rel (K:LN) (F:Hp):PyData→V→Prop
 | .none,v=>v=.non
 | .bool b,v=>v=.bl b
 | .int i,v=>v=.int i
 | .str x,v=>v=.str x
 | .tuple ds,v=>∃ a xs,v=.ref a∧SqT K F a xs∧RelL K F ds xs
 | .list ds,v=>∃ a xs,v=.ref a∧SqL K F a xs∧RelL K F ds xs
 | .dict es,v=>∃ a ks,v=.ref a∧Rd F a (.dK ks)∧RelD K F es ks
noncomputable def RelL (K:LN) (F:Hp):List PyData→List V→Prop
 | [],xs=>xs=[]
 | d::ds,xs=>∃ x r,xs=x::r∧Rel K F d x∧RelL K F ds r
noncomputable def RelD (K:LN) (F:Hp):List (PyData×PyData)→List (Key×V)→Prop
 | [],ks=>ks=[]
 | (d,e)::es,ks=>∃ k x r,ks=(k,x)::r∧d=kD k∧Rel K F e x∧RelD K F es r
end
section
variable {K:LN} {F F' H H':Hp}
theorem dh {a:Addr} {xs:List V} (e:Same H H') (h:SqT K H a xs):SqT K H' a xs:=by
 rcases h with (h | ⟨o,h⟩) | h
 ·exact .inl (.inl (e _ _ h))
 ·exact .inl (.inr ⟨o,e _ _ h⟩)
 ·exact .inr h
theorem Ga {a:Addr} {u:HO} (e:Same F F') (h:Rd F a u):Rd F' a u:=h.elim (fun h=>.inl (e _ _ h)) fun ⟨o,h⟩=>.inr ⟨o,e _ _ h⟩
theorem fb {p:Addr} (h:H p=none) (o:HO):Same H (upd H p o):=fun b u q=>by rw [aE (aM q h)]; exact q
mutual
theorem Rel.mono (e:Same F F'):∀ {d:PyData} {v:V},Rel K F d v→Rel K F' d v
 | .none,v,h=>by unfold Rel at h ⊢; exact h
 | .bool b,v,h=>by unfold Rel at h ⊢; exact h
 | .int i,v,h=>by unfold Rel at h ⊢; exact h
 | .str x,v,h=>by unfold Rel at h ⊢; exact h
 | .tuple ds,v,h=>by
  unfold Rel at h ⊢;obtain ⟨a,xs,h1,h2,h3⟩:=h;exact ⟨a,xs,h1,dh e h2,RelL.mono e h3⟩
 | .list ds,v,h=>by
  unfold Rel at h ⊢;obtain ⟨a,xs,h1,h2,h3⟩:=h;exact ⟨a,xs,h1,e.seq h2,RelL.mono e h3⟩
 | .dict es,v,h=>by
  unfold Rel at h ⊢;obtain ⟨a,ks,h1,h2,h3⟩:=h;exact ⟨a,ks,h1,Ga e h2,RelD.mono e h3⟩
theorem RelL.mono (e:Same F F'):∀ {ds:List PyData} {xs:List V},RelL K F ds xs→RelL K F' ds xs
 | [],xs,h=>by unfold RelL at h ⊢; exact h
 | d::ds,xs,h=>by
  unfold RelL at h ⊢;obtain ⟨x,r,h1,h2,h3⟩:=h;exact ⟨x,r,h1,Rel.mono e h2,RelL.mono e h3⟩
theorem RelD.mono (e:Same F F'):∀ {es:List (PyData×PyData)} {ks:List (Key×V)},RelD K F es ks→RelD K F' es ks
 | [],ks,h=>by unfold RelD at h ⊢; exact h
 | (d,e')::es,ks,h=>by
  unfold RelD at h ⊢;obtain ⟨k,x,r,h1,h2,h3,h4⟩:=h;exact ⟨k,x,r,h1,h2,Rel.mono e h3,RelD.mono e h4⟩
end
theorem Rel.dct {es:List (PyData×PyData)} {v:V} (h:Rel K F (.dict es) v):∃ a ks,v=.ref a∧Rd F a (.dK ks)∧RelD K F es ks:=by unfold Rel at h; exact h
theorem BX {es:List (PyData×PyData)} {a:Addr} {ks:List (Key×V)} (h:Rd F a (.dK ks)) (r:RelD K F es ks):Rel K F (.dict es) (.ref a):=by unfold Rel; exact ⟨a,ks,rfl,h,r⟩
theorem RelD.nil:RelD K F [] []:=by unfold RelD; rfl
theorem RelD.nil_of {ks:List (Key×V)} (h:RelD K F [] ks):ks=[]:=by unfold RelD at h; exact h
theorem RelD.cons_of {d e:PyData} {es:List (PyData×PyData)} {ks:List (Key×V)} (h:RelD K F ((d,e)::es) ks):∃ k x r,ks=(k,x)::r∧d=kD k∧Rel K F e x∧RelD K F es r:=by unfold RelD at h; exact h
theorem RelD.cons {k:Key} {e:PyData} {x:V} {es:List (PyData×PyData)} {ks:List (Key×V)} (h:Rel K F e x) (t:RelD K F es ks):RelD K F ((kD k,e)::es) ((k,x)::ks):=by unfold RelD; exact ⟨k,x,ks,rfl,rfl,h,t⟩
noncomputable def prs (kvs:List (Key×PyData)):List (PyData×PyData):=kvs.map fun e=>(kD e.1,e.2)
theorem RelL.nil:RelL K F [] []:=by unfold RelL; rfl
theorem RelL.cons {d:PyData} {ds:List PyData} {x:V} {xs:List V} (h:Rel K F d x) (t:RelL K F ds xs):RelL K F (d::ds) (x::xs):=by unfold RelL; exact ⟨x,xs,rfl,h,t⟩
theorem RelL.nil_of {xs:List V} (h:RelL K F [] xs):xs=[]:=by unfold RelL at h; exact h
theorem RelL.cons_of {d:PyData} {ds:List PyData} {xs:List V} (h:RelL K F (d::ds) xs):∃ x r,xs=x::r∧Rel K F d x∧RelL K F ds r:=by unfold RelL at h; exact h
theorem RelL.length:∀ {ds:List PyData} {xs:List V},RelL K F ds xs→xs.length=ds.length
 | [],xs,h=>by rw [h.nil_of]; rfl
 | d::ds,xs,h=>by
  obtain ⟨x,r,rfl,_,h3⟩:=h.cons_of;rw [L1,L1,RelL.length h3]
theorem RelL.append:∀ {ds es:List PyData} {xs ys:List V},RelL K F ds xs→RelL K F es ys→RelL K F (ds++es) (xs++ys)
 | [],es,xs,ys,h,k=>by rw [h.nil_of]; exact k
 | d::ds,es,xs,ys,h,k=>by
  obtain ⟨x,r,rfl,h2,h3⟩:=h.cons_of;exact RelL.cons h2 (RelL.append h3 k)
theorem RelL.get:∀ {ds:List PyData} {xs:List V} {i:Nat} {d:PyData},RelL K F ds xs→ds[i]?=some d→∃ x,xs[i]?=some x∧Rel K F d x
 | [],_,_,_,_,e=>by simp at e
 | d::ds,xs,0,_,h,e=>by
  obtain ⟨x,r,rfl,h2,h3⟩:=h.cons_of;have e':d=_:=Option.some.inj e;exact ⟨x,rfl,e' ▸ h2⟩
 | d::ds,xs,i+1,d',h,e=>by
  obtain ⟨x,r,rfl,h2,h3⟩:=h.cons_of;exact RelL.get (i:=i) h3 (by simpa using e)
theorem RelL.take:∀ {ds:List PyData} {xs:List V} (n:Nat),RelL K F ds xs→RelL K F (ds.take n) (xs.take n)
 | _,_,0,_=>by rw [List.take_zero,List.take_zero]; exact .nil
 | [],xs,n+1,h=>by rw [h.nil_of]; exact .nil
 | d::ds,xs,n+1,h=>by
  obtain ⟨x,r,rfl,h2,h3⟩:=h.cons_of;exact RelL.cons h2 (RelL.take n h3)
theorem RelL.drop:∀ {ds:List PyData} {xs:List V} (n:Nat),RelL K F ds xs→RelL K F (ds.drop n) (xs.drop n)
 | _,_,0,h=>by simpa using h
 | [],xs,n+1,h=>by rw [h.nil_of]; exact .nil
 | d::ds,xs,n+1,h=>by
  obtain ⟨x,r,rfl,h2,h3⟩:=h.cons_of;exact RelL.drop n h3
theorem RelL.reverse:∀ {ds:List PyData} {xs:List V},RelL K F ds xs→RelL K F ds.reverse xs.reverse
 | [],xs,h=>by rw [h.nil_of]; exact .nil
 | d::ds,xs,h=>by
  obtain ⟨x,r,rfl,h2,h3⟩:=h.cons_of;rw [Nq,Nq];exact RelL.append (RelL.reverse h3) (.cons h2 .nil)
theorem Rel.non {v:V} (h:Rel K F .none v):v=.non:=by unfold Rel at h; exact h
theorem Rel.bl {b:Bool} {v:V} (h:Rel K F (.bool b) v):v=.bl b:=by unfold Rel at h; exact h
theorem Rel.int {i:Int} {v:V} (h:Rel K F (.int i) v):v=.int i:=by unfold Rel at h; exact h
theorem Rel.str {x:Str} {v:V} (h:Rel K F (.str x) v):v=.str x:=by unfold Rel at h; exact h
theorem Rel.tup {ds:List PyData} {v:V} (h:Rel K F (.tuple ds) v):∃ a xs,v=.ref a∧SqT K F a xs∧RelL K F ds xs:=by unfold Rel at h; exact h
theorem Rel.lst {ds:List PyData} {v:V} (h:Rel K F (.list ds) v):∃ a xs,v=.ref a∧SqL K F a xs∧RelL K F ds xs:=by unfold Rel at h; exact h
theorem ro:Rel K F .none .non:=by unfold Rel; rfl
theorem dZ {b:Bool}:Rel K F (.bool b) (.bl b):=by unfold Rel; rfl
theorem dO {i:Int}:Rel K F (.int i) (.int i):=by unfold Rel; rfl
theorem rj {x:Str}:Rel K F (.str x) (.str x):=by unfold Rel; rfl
theorem jT {ds:List PyData} {a:Addr} {xs:List V} (h:SqT K F a xs) (r:RelL K F ds xs):Rel K F (.tuple ds) (.ref a):=by unfold Rel; exact ⟨a,xs,rfl,h,r⟩
theorem jk {ds:List PyData} {a:Addr} {xs:List V} (h:SqL K F a xs) (r:RelL K F ds xs):Rel K F (.list ds) (.ref a):=by unfold Rel; exact ⟨a,xs,rfl,h,r⟩
theorem RelL.ints:∀ (ns:List Int),RelL K F (ns.map PyData.int) (ns.map V.int)
 | []=>.nil
 | _::r=>.cons dO (RelL.ints r)
structure Gr (F H F' H':Hp):Prop where
 ff:Same F F'
 hh:Same H H'
 fh:Same F' H'
 new:∀ b,F' b≠none→F b≠none∨H b=none
theorem Gr.refl (h:Same F H):Gr F H F H:=⟨.refl _,.refl _,h,fun _ q=>.inl q⟩
theorem Gr.trans {F1 H1 F2 H2:Hp} (a:Gr F H F1 H1) (b:Gr F1 H1 F2 H2):Gr F H F2 H2 :=
 ⟨a.ff.trans b.ff,a.hh.trans b.hh,b.fh,fun c q=>(b.new c q).elim (fun q=>a.new c q) fun q=>.inr (a.hh.free q)⟩
theorem Gr.one {p:Addr} {o:HO} (h:Same F H) (hp:H p=none):Gr F H (upd F p o) (upd H p o) where
 ff:=fb (h.free hp) o
 hh:=fb hp o
 fh:=fun b u q=>by
  by_cases e:b=p
  ·subst e; rw [aD] at q ⊢; exact q
  ·rw [aE e] at q ⊢; exact h _ _ q
 new:=fun b q=>by
  by_cases e:b=p
  ·subst e; exact .inr hp
  ·rw [aE e] at q; exact .inl q
end
inductive Sl where
 | un
 | val (d:PyData)
 | own (ds:List PyData)
 | odc (kvs:List (Key×PyData))
 | ob (fs:Str→Option PyData)
noncomputable abbrev En:=List Sl
noncomputable def lb:Sl→Bool
 | .own _=>true
 | .odc _=>true
 | _=>false
noncomputable def CellR (K:LN) (F:Hp):Sl→HO→Prop
 | .own ds,o=>∃ xs,o=.lst xs∧RelL K F ds xs
 | .odc kvs,o=>∃ ks,o=.dK ks∧RelD K F (prs kvs) ks
 | _,_=>False
noncomputable def ObF (K:LN) (C:Addr) (F:Hp) (fs:Str→Option PyData) (xs:List (Str×V)):Prop:=∀ f d,fs f=some d→NoAttr K C f∧∃ v,xs.lookup f=some v∧Rel K F d v
structure EnR (K:LN) (He F H:Hp) (σ:St) (η:En):Prop where
 len:η.length=σ.length
 val:∀ (i:Nat) d,η[i]?=some (.val d)→∃ v,σ[i]?=some (some v)∧Rel K F d v
 cel:∀ (i:Nat) sl,η[i]?=some sl→lb sl=true→∃ p o,σ[i]?=some (some (.ref p))∧F p=none∧He p=none∧H p=some o∧CellR K F sl o
 apart:∀ (i j:Nat) a b,η[i]?=some a→η[j]?=some b→lb a=true→lb b=true→i≠j→σ[i]?≠σ[j]?
 obs:∀ (i:Nat) fs,η[i]?=some (.ob fs)→∃ p C dx xs,σ[i]?=some (some (.ref p))∧H p=some (.ins C dx xs)∧Cls K C∧ObF K C F fs xs
structure Bd where
 F:Hp
 H:Hp
structure SR (K:LN) (B:Bd) (F H:Hp) (σ:St) (η:En):Prop where
 gr:Gr B.F B.H F H
 en:EnR K B.H F H σ η
section
variable {K:LN} {B:Bd} {F H F' H':Hp} {σ:St} {η:En}
theorem CellR.mono (e:Same F F'):∀ {sl:Sl} {o:HO},CellR K F sl o→CellR K F' sl o
 | .own _,_,⟨xs,h1,h2⟩=>⟨xs,h1,h2.mono e⟩
 | .odc _,_,⟨xs,h1,h2⟩=>⟨xs,h1,h2.mono e⟩
 | .un,_,h=>h.elim
 | .val _,_,h=>h.elim
 | .ob _,_,h=>h.elim
theorem ObF.mono {C:Addr} {fs:Str→Option PyData} {xs:List (Str×V)} (e:Same F F') (h:ObF K C F fs xs):ObF K C F' fs xs:=fun f d q=>let ⟨a,v,b,c⟩:=h f d q; ⟨a,v,b,c.mono e⟩
theorem CellR.noins {sl:Sl} {o:HO} (h:CellR K F sl o) (C dx:Addr) (xs:List (Str×V)):o≠.ins C dx xs:=by
 cases sl with
 | own ds=>obtain ⟨ys,rfl,_⟩:=h; intro z; cases z
 | odc ds=>obtain ⟨ys,rfl,_⟩:=h; intro z; cases z
 | un=>exact h.elim
 | val _=>exact h.elim
 | ob _=>exact h.elim
theorem EnR.own {He:Hp} (r:EnR K He F H σ η) (i:Nat) (ds:List PyData) (e:η[i]?=some (.own ds)):∃ p xs,σ[i]?=some (some (.ref p))∧F p=none∧He p=none∧H p=some (.lst xs)∧RelL K F ds xs:=by
 obtain ⟨p,o,h1,h2,h3,h4,xs,rfl,h5⟩:=r.cel i _ e rfl;exact ⟨p,xs,h1,h2,h3,h4,h5⟩
theorem EnR.odc {He:Hp} (r:EnR K He F H σ η) (i:Nat) (kvs:List (Key×PyData)) (e:η[i]?=some (.odc kvs)):∃ p ks,σ[i]?=some (some (.ref p))∧F p=none∧He p=none∧H p=some (.dK ks)∧RelD K F (prs kvs) ks:=by
 obtain ⟨p,o,h1,h2,h3,h4,xs,rfl,h5⟩:=r.cel i _ e rfl;exact ⟨p,xs,h1,h2,h3,h4,h5⟩
theorem EnR.grow {He:Hp} (r:EnR K He F H σ η) (g:Gr F H F' H'):EnR K He F' H' σ η where
 len:=r.len
 val:=fun i d e=>let ⟨v,e1,e2⟩:=r.val i d e; ⟨v,e1,e2.mono g.ff⟩
 cel:=fun i sl e hs=>by
  obtain ⟨p,o,e1,e2,e3,e4,e5⟩:=r.cel i sl e hs;refine ⟨p,o,e1,?_,e3,g.hh _ _ e4,e5.mono g.ff⟩;cases q:F' p with
  | none=>rfl
  | some o =>
   rcases g.new p (by rw [q]; simp) with z | z
   ·exact absurd e2 z
   ·rw [e4] at z; cases z
 apart:=r.apart
 obs:=fun i fs e=>let ⟨p,C,dx,xs,e1,e2,e3,e4⟩:=r.obs i fs e; ⟨p,C,dx,xs,e1,g.hh _ _ e2,e3,e4.mono g.ff⟩
theorem SR.grow (r:SR K B F H σ η) (g:Gr F H F' H'):SR K B F' H' σ η:=⟨r.gr.trans g,r.en.grow g⟩
theorem SR.same (r:SR K B F H σ η):Same F H:=r.gr.fh
theorem EnR.set {He:Hp} (r:EnR K He F H σ η) (i:Nat) {d:PyData} {v:V} (h:Rel K F d v):EnR K He F H (σ.set i (some v)) (η.set i (.val d)) where
 len:=by rw [L6,L6]; exact r.len
 val:=fun j d' e=>by
  by_cases hj:i=j
  ·subst hj;by_cases hl:i < η.length
   ·rw [LV hl] at e;have e':d=d':=by injection (Option.some.inj e)
    subst e';exact ⟨v,by rw [LV (by rw [← r.len]; exact hl)],h⟩
   ·rw [Mj (by rw [L6]; omega)] at e; cases e
  ·rw [LP hj] at e ⊢; exact r.val j d' e
 cel:=fun j sl e hs=>by
  by_cases hj:i=j
  ·subst hj;by_cases hl:i < η.length
   ·rw [LV hl] at e;have e':Sl.val d=sl:=Option.some.inj e;subst e';cases hs
   ·rw [Mj (by rw [L6]; omega)] at e; cases e
  ·rw [LP hj] at e ⊢; exact r.cel j sl e hs
 apart:=fun j k a b ej ek ha hb hjk=>by
  have no:∀ (j:Nat) a,(η.set i (.val d))[j]?=some a→lb a=true→i≠j:=fun j a ej ha hj=>by
   subst hj;by_cases hl:i < η.length
   ·rw [LV hl] at ej;have e':Sl.val d=a:=Option.some.inj ej;subst e';cases ha
   ·rw [Mj (by rw [L6]; omega)] at ej; cases ej
  have nj:=no j a ej ha;have nk:=no k b ek hb;rw [LP nj] at ej ⊢;rw [LP nk] at ek ⊢;exact r.apart j k a b ej ek ha hb hjk
 obs:=fun j fs e=>by
  by_cases hj:i=j
  ·subst hj;by_cases hl:i < η.length
   ·rw [LV hl] at e; cases e
   ·rw [Mj (by rw [L6]; omega)] at e; cases e
  ·rw [LP hj] at e ⊢; exact r.obs j fs e
theorem EnR.setCell {He:Hp} (r:EnR K He F H σ η) (i:Nat) {sl:Sl} {p:Addr} {o:HO} (hsl:lb sl=true) (h1:F p=none) (h2:He p=none) (h3:H p=some o) (h4:CellR K F sl o)
  (h5:∀ (j:Nat),σ[j]?=some (some (.ref p))→∀ a,η[j]?=some a→lb a=false):EnR K He F H (σ.set i (some (.ref p))) (η.set i sl) where
 len:=by rw [L6,L6]; exact r.len
 val:=fun j d' e=>by
  by_cases hj:i=j
  ·subst hj;by_cases hl:i < η.length
   ·rw [LV hl] at e;have e':sl=.val d':=Option.some.inj e;subst e';cases hsl
   ·rw [Mj (by rw [L6]; omega)] at e; cases e
  ·rw [LP hj] at e ⊢; exact r.val j d' e
 cel:=fun j a e ha=>by
  by_cases hj:i=j
  ·subst hj;by_cases hl:i < η.length
   ·rw [LV hl] at e;have e':sl=a:=Option.some.inj e;subst e';exact ⟨p,o,by rw [LV (by rw [← r.len]; exact hl)],h1,h2,h3,h4⟩
   ·rw [Mj (by rw [L6]; omega)] at e; cases e
  ·rw [LP hj] at e ⊢; exact r.cel j a e ha
 apart:=fun j k a b ej ek ha hb hjk=>by
  by_cases hj:i=j
  ·subst hj;have hl:i < η.length:=by
    by_cases hl:i < η.length
    ·exact hl
    ·rw [Mj (by rw [L6]; omega)] at ej; cases ej
   rw [LP hjk] at ek ⊢;rw [LV (by rw [← r.len]; exact hl)];exact fun z=>by rw [h5 k z.symm b ek] at hb; cases hb
  ·by_cases hk:i=k
   ·subst hk;have hl:i < η.length:=by
     by_cases hl:i < η.length
     ·exact hl
     ·rw [Mj (by rw [L6]; omega)] at ek; cases ek
    rw [LP hj] at ej ⊢;rw [LV (by rw [← r.len]; exact hl)];exact fun z=>by rw [h5 j z a ej] at ha; cases ha
   ·rw [LP hj] at ej ⊢;rw [LP hk] at ek ⊢;exact r.apart j k a b ej ek ha hb hjk
 obs:=fun j fs e=>by
  by_cases hj:i=j
  ·subst hj;by_cases hl:i < η.length
   ·rw [LV hl] at e;have e':sl=.ob fs:=Option.some.inj e;subst e';cases hsl
   ·rw [Mj (by rw [L6]; omega)] at e; cases e
  ·rw [LP hj] at e ⊢; exact r.obs j fs e
theorem EnR.setOwn {He:Hp} (r:EnR K He F H σ η) (i:Nat) {ds:List PyData} {p:Addr} {xs:List V} (h1:F p=none) (h2:He p=none) (h3:H p=some (.lst xs)) (h4:RelL K F ds xs)
  (h5:∀ (j:Nat),σ[j]?=some (some (.ref p))→∀ a,η[j]?=some a→lb a=false):EnR K He F H (σ.set i (some (.ref p))) (η.set i (.own ds)):=r.setCell i rfl h1 h2 h3 ⟨xs,rfl,h4⟩ h5
theorem EnR.notown {He:Hp} (r:EnR K He F H σ η) {p:Addr} (h:H p=none):∀ (j:Nat),σ[j]?=some (some (.ref p))→∀ a,η[j]?=some a→lb a=false:=fun j e a z=>by
 cases ha:lb a with
 | false=>rfl
 | true =>
  obtain ⟨q,o,e1,_,_,e4,_⟩:=r.cel j a z ha;rw [e] at e1
  have:p=q:=by injection (Option.some.inj (Option.some.inj e1))
  rw [this,e4] at h; cases h
theorem EnR.putCell {He:Hp} (r:EnR K He F H σ η) {i:Nat} {sl sl':Sl} {p:Addr} {o:HO} (hi:η[i]?=some sl) (hs:lb sl=true) (hs':lb sl'=true) (hσ:σ[i]?=some (some (.ref p))) (h4:CellR K F sl' o) :
  EnR K He F (upd H p o) σ (η.set i sl') where
 len:=by rw [L6]; exact r.len
 val:=fun j d' e=>by
  by_cases hj:i=j
  ·subst hj;rw [LV (LT.mp hi).1] at e;have e':sl'=.val d':=Option.some.inj e;subst e';cases hs'
  ·rw [LP hj] at e; exact r.val j d' e
 cel:=fun j a e ha=>by
  by_cases hj:i=j
  ·subst hj;rw [LV (LT.mp hi).1] at e;have e':sl'=a:=Option.some.inj e;subst e';obtain ⟨q,o1,e1,e2,e3,e4,e5⟩:=r.cel i sl hi hs;rw [hσ] at e1
   have:p=q:=by injection (Option.some.inj (Option.some.inj e1))
   subst this;exact ⟨p,o,hσ,e2,e3,aD,h4⟩
  ·rw [LP hj] at e;obtain ⟨q,o1,e1,e2,e3,e4,e5⟩:=r.cel j a e ha;refine ⟨q,o1,e1,e2,e3,?_,e5⟩;rw [aE]
   ·exact e4
   ·intro z;subst z;exact r.apart i j sl a hi e hs ha hj (by rw [hσ,e1])
 apart:=fun j k a b ej ek ha hb hjk=>by
  have aa:∀ (j:Nat) a,(η.set i sl')[j]?=some a→lb a=true→∃ a',η[j]?=some a'∧lb a'=true:=fun j a e ha=>by
   by_cases hj:i=j
   ·subst hj; exact ⟨sl,hi,hs⟩
   ·rw [LP hj] at e; exact ⟨a,e,ha⟩
  obtain ⟨a',e1,f1⟩:=aa j a ej ha;obtain ⟨b',e2,f2⟩:=aa k b ek hb;exact r.apart j k a' b' e1 e2 f1 f2 hjk
 obs:=fun j fs e=>by
  by_cases hj:i=j
  ·subst hj;rw [LV (LT.mp hi).1] at e;have e':sl'=.ob fs:=Option.some.inj e;subst e';cases hs'
  ·rw [LP hj] at e;obtain ⟨q,C,dx,xs,e1,e2,e3,e4⟩:=r.obs j fs e;refine ⟨q,C,dx,xs,e1,?_,e3,e4⟩;obtain ⟨p',o1,f1,_,_,f4,f5⟩:=r.cel i sl hi hs;rw [hσ] at f1
   have:p=p':=by injection (Option.some.inj (Option.some.inj f1))
   subst this;rw [aE]
   ·exact e2
   ·intro z;subst z;rw [f4] at e2;exact f5.noins _ _ _ (Option.some.inj e2)
theorem EnR.putOwn {He:Hp} (r:EnR K He F H σ η) {i:Nat} {ds es:List PyData} {p:Addr} {ys:List V} (hi:η[i]?=some (.own ds)) (hσ:σ[i]?=some (some (.ref p))) (h4:RelL K F es ys) :
  EnR K He F (upd H p (.lst ys)) σ (η.set i (.own es)):=r.putCell hi rfl rfl hσ ⟨ys,rfl,h4⟩
theorem SR.freezeCell (r:SR K B F H σ η) {i:Nat} {sl:Sl} {d:PyData} {p:Addr} {o:HO} (hi:η[i]?=some sl) (hs:lb sl=true) (e1:σ[i]?=some (some (.ref p))) (e2:F p=none) (e3:B.H p=none) (e4:H p=some o) (rel:Rel K (upd F p o) d (.ref p)) :
  Same F (upd F p o)∧SR K B (upd F p o) H σ (η.set i (.val d)):=by
 have sn:=fb (H:=F) e2 o;refine ⟨sn,⟨⟨r.gr.ff.trans sn,r.gr.hh,?_,?_⟩,?_⟩⟩
 ·intro b u q;by_cases e:b=p
  ·subst e; rw [aD] at q; rw [← q]; exact e4
  ·rw [aE e] at q; exact r.gr.fh _ _ q
 ·intro b q;by_cases e:b=p
  ·subst e; exact .inr e3
  ·rw [aE e] at q; exact r.gr.new b q
 ·refine ⟨by rw [L6]; exact r.en.len,fun j d' e=>?_,fun j a e ha=>?_,fun j k a b ej ek ha hb hjk=>?_,fun j fs e=>?_⟩
  ·by_cases hj:i=j
   ·subst hj;rw [LV (LT.mp hi).1] at e;have e':d=d':=by injection (Option.some.inj e)
    subst e';exact ⟨_,e1,rel⟩
   ·rw [LP hj] at e;obtain ⟨v,q1,q2⟩:=r.en.val j d' e;exact ⟨v,q1,q2.mono sn⟩
  ·by_cases hj:i=j
   ·subst hj;rw [LV (LT.mp hi).1] at e;have e':Sl.val d=a:=Option.some.inj e;subst e';cases ha
   ·rw [LP hj] at e;obtain ⟨q,o1,q1,q2,q3,q4,q5⟩:=r.en.cel j a e ha;refine ⟨q,o1,q1,?_,q3,q4,q5.mono sn⟩;rw [aE]
    ·exact q2
    ·intro z;subst z;exact r.en.apart i j sl a hi e hs ha hj (by rw [e1,q1])
  ·have no:∀ (j:Nat) a,(η.set i (.val d))[j]?=some a→lb a=true→i≠j:=fun j a ej ha hj=>by
    subst hj;rw [LV (LT.mp hi).1] at ej;have e':Sl.val d=a:=Option.some.inj ej;subst e';cases ha
   have nj:=no j a ej ha;have nk:=no k b ek hb;rw [LP nj] at ej;rw [LP nk] at ek;exact r.en.apart j k a b ej ek ha hb hjk
  ·by_cases hj:i=j
   ·subst hj;rw [LV (LT.mp hi).1] at e; cases e
   ·rw [LP hj] at e;obtain ⟨q,C,dx,xs,q1,q2,q3,q4⟩:=r.en.obs j fs e;exact ⟨q,C,dx,xs,q1,q2,q3,q4.mono sn⟩
theorem SR.freeze (r:SR K B F H σ η) {i:Nat} {ds:List PyData} (hi:η[i]?=some (.own ds)):∃ F' p,σ[i]?=some (some (.ref p))∧Same F F'∧SR K B F' H σ (η.set i (.val (.list ds)))∧Rel K F' (.list ds) (.ref p):=by
 obtain ⟨p,xs,e1,e2,e3,e4,e5⟩:=r.en.own i ds hi;have rel:Rel K (upd F p (.lst xs)) (.list ds) (.ref p):=jk (SqL.of aD) (e5.mono (fb (H:=F) e2 (.lst xs)));obtain ⟨h1,h2⟩:=r.freezeCell hi rfl e1 e2 e3 e4 rel;exact ⟨_,p,e1,h1,h2,rel⟩
theorem SR.freezeD (r:SR K B F H σ η) {i:Nat} {kvs:List (Key×PyData)} (hi:η[i]?=some (.odc kvs)):∃ F' p,σ[i]?=some (some (.ref p))∧Same F F'∧SR K B F' H σ (η.set i (.val (.dict (prs kvs))))∧Rel K F' (.dict (prs kvs)) (.ref p):=by
 obtain ⟨p,ks,e1,e2,e3,e4,e5⟩:=r.en.odc i kvs hi;have rel:Rel K (upd F p (.dK ks)) (.dict (prs kvs)) (.ref p):=BX (.inl aD) (e5.mono (fb (H:=F) e2 (.dK ks)));obtain ⟨h1,h2⟩:=r.freezeCell hi rfl e1 e2 e3 e4 rel;exact ⟨_,p,e1,h1,h2,rel⟩
end
section
variable (K:LN) (B:Bd)
noncomputable def tE (f:En→Option PyData):TE:=fun σ H Q=>∃ F η d,SR K B F H σ η∧f η=some d∧∀ v F' H',Gr F H F' H'→Rel K F' d v→Q v H'
noncomputable def tO (f:En→Option (List PyData)):TE:=fun σ H Q=>∃ F η ds,SR K B F H σ η∧f η=some ds∧∀ p xs F' H',Gr F H F' H'→H p=none→F' p=none→H' p=some (.lst xs)→RelL K F' ds xs→Q (.ref p) H'
noncomputable def tT (f:En→Option Bool):TT:=fun σ H Q=>∃ F η b,SR K B F H σ η∧f η=some b∧∀ F' H',Gr F H F' H'→Q b H'
noncomputable def tA (f:En→Option (List PyData)):TA:=fun σ H Q=>∃ F η ds,SR K B F H σ η∧f η=some ds∧∀ vs F' H',Gr F H F' H'→RelL K F' ds vs→Q vs H'
end
noncomputable def E (X:Cx) (B:Bd) (e:Expr) (f:En→Option PyData):Prop:=PE X e (tE X.K B f)
noncomputable def EO (X:Cx) (B:Bd) (e:Expr) (f:En→Option (List PyData)):Prop:=PE X e (tO X.K B f)
noncomputable def T (X:Cx) (B:Bd) (e:Expr) (f:En→Option Bool):Prop:=PT X e (tT X.K B f)
noncomputable def TW (X:Cx) (B:Bd) (e:Expr) (f:En→Option Bool):Prop:=PW X e (tT X.K B f)
noncomputable def A (X:Cx) (B:Bd) (es:List Expr) (f:En→Option (List PyData)):Prop:=PA X es (tA X.K B f)
theorem PE.imp {X:Cx} {e:Expr} {t t':TE} (h:PE X e t) (i:∀ σ H Q,t' σ H Q→t σ H Q):PE X e t':=fun pins s σ H Q I q=>h pins s σ H Q I (i σ H Q q)
theorem PT.imp {X:Cx} {e:Expr} {t t':TT} (h:PT X e t) (i:∀ σ H Q,t' σ H Q→t σ H Q):PT X e t':=fun pins s σ H Q I q=>h pins s σ H Q I (i σ H Q q)
theorem PW.imp {X:Cx} {e:Expr} {t t':TT} (h:PW X e t) (i:∀ σ H Q,t' σ H Q→t σ H Q):PW X e t':=fun wh pins s σ H Q I q=>h wh pins s σ H Q I (i σ H Q q)
theorem PA.imp {X:Cx} {e:List Expr} {t t':TA} (h:PA X e t) (i:∀ σ H Q,t' σ H Q→t σ H Q):PA X e t':=fun pos pins s σ H Q I q=>h pos pins s σ H Q I (i σ H Q q)
noncomputable def eV (i:Nat):En→Option PyData:=fun η=>match η[i]? with | some (.val d)=>some d | _=>none
noncomputable def eC (d:PyData):En→Option PyData:=fun _=>some d
noncomputable def l1 (o:PyData→Option PyData) (f:En→Option PyData):En→Option PyData:=fun η=>(f η).bind o
noncomputable def l2 (o:PyData→PyData→Option PyData) (f g:En→Option PyData):En→Option PyData:=fun η=>(f η).bind fun x=>(g η).bind fun y=>o x y
noncomputable def aN:En→Option (List PyData):=fun _=>some []
noncomputable def aC (f:En→Option PyData) (g:En→Option (List PyData)):En→Option (List PyData):=fun η=>(f η).bind fun x=>(g η).bind fun xs=>some (x::xs)
noncomputable def lA (o:List PyData→Option PyData) (f:En→Option (List PyData)):En→Option PyData:=fun η=>(f η).bind o
section
variable {X:Cx} {B:Bd} {a b c e:Expr} {es:List Expr} {f g h:En→Option PyData} {fs:En→Option (List PyData)} {pos:Pos}
theorem bind_some {α β:Type} {o:Option α} {k:α→Option β} {y:β} (h:o.bind k=some y):∃ x,o=some x∧k x=some y:=by
 cases o with
 | none=>cases h
 | some x=>exact ⟨x,rfl,h⟩
noncomputable def Ad2 (K:LN) (r:R2) (o:PyData→PyData→Option PyData):Prop :=
 ∀ F H x y dx dy d Q,Same F H→Rel K F dx x→Rel K F dy y→o dx dy=some d→(∀ v F' H',Gr F H F' H'→Rel K F' d v→Q v H')→r x y H Q
theorem t2 {K:LN} {r:R2} {o:PyData→PyData→Option PyData} (ad:Ad2 K r o):∀ σ H Q,tE K B (l2 o f g) σ H Q→tOp r (tE K B f) (tE K B g) σ H Q:=by
 intro σ H Q ⟨F,η,d,sr,hd,q⟩;obtain ⟨x,hx,hd⟩:=bind_some hd;obtain ⟨y,hy,hd⟩:=bind_some hd;refine ⟨F,η,x,sr,hx,fun v F1 H1 g1 rv=>⟨F1,η,y,sr.grow g1,hy,fun u F2 H2 g2 ru=>?_⟩⟩;exact ad F2 H2 v u x y d Q g2.fh (rv.mono g2.ff) ru hd fun w F3 H3 g3 rw'=>q w F3 H3 ((g1.trans g2).trans g3) rw'
theorem E.op {op:Operator} {r:R2} {o:PyData→PyData→Option PyData} (ho:OpR X (binaryOp op) r) (ad:Ad2 X.K r o) (ha:E X B a f) (hb:E X B b g):E X B (.BinOp a op b pos) (l2 o f g) :=
 PE.imp (B5 ho ha hb) (t2 ad)
theorem E.cmp {op:CmpOp} {r:R2} {o:PyData→PyData→Option PyData} (ho:OpR X (compareOp op) r) (ad:Ad2 X.K r o) (hm:behindInMarks op b=false) (ha:E X B a f) (hb:E X B b g):E X B (.Compare a [op] [b] pos) (l2 o f g) :=
 PE.imp (B7 ho ha hb hm) (t2 ad)
theorem E.ix {r:R2} {o:PyData→PyData→Option PyData} (hr:IxR X r) (ad:Ad2 X.K r o) (ha:E X B a f) (hb:E X B b g) (hs:rB b:=by intro _ _; rfl):E X B (.Subscript a b pos) (l2 o f g) :=
 PE.imp (D8 hr ha hb hs) (t2 ad)
theorem av (i:Nat) {x:Str} (hN:X.N[i]?=some x:=by rfl) (hv:Vis X.env.scope x:=by first | exact Or.inl rfl | exact Or.inr (Or.inl rfl) | exact Or.inr (Or.inr rfl)) (hd:(x==("__debug__" : Str))=false:=by decide)
  (hcd:(x==("__classdict__" : Str))=false:=by decide):E X B (.Name x pos) (eV i) :=
 PE.imp (uL hN hv hd hcd) fun σ H Q ⟨F,η,d,sr,hd,q⟩=>by
  unfold eV at hd;split at hd
  ·rename_i d' e;cases hd;obtain ⟨v,e1,e2⟩:=sr.en.val i d e;exact ⟨v,e1,q v F H (.refl sr.same) e2⟩
  ·cases hd
theorem zG {K:LN} {v:V} {d:PyData} (h:∀ F,Rel K F d v):∀ σ H Q,tE K B (eC d) σ H Q→tC v σ H Q:=fun σ H Q ⟨F,η,d',sr,hd,q⟩=>by
 have e:d=d':=Option.some.inj hd;subst e;exact q v F H (.refl sr.same) (h F)
theorem ao {i:Int} {j}:E X B (.Constant (.int i) j pos) (eC (.int i)):=PE.imp IH (zG fun _=>dO)
theorem E.bl {i:Bool} {j}:E X B (.Constant (.bool i) j pos) (eC (.bool i)):=PE.imp Ke (zG fun _=>dZ)
theorem dX {j}:E X B (.Constant .none j pos) (eC .none):=PE.imp IG (zG fun _=>ro)
theorem aX {i:Str} {j}:E X B (.Constant (.str i) j pos) (eC (.str i)):=PE.imp IE (zG fun _=>rj)
theorem E.glob {x:Str} {v:V} {u:Value} {d:PyData} (hm:X.mg x=some u) (r:RelV v u) (h:∀ F,Rel X.K F d v) (hg:Gl X x:=by rfl) (hd:(x==("__debug__" : Str))=false:=by decide):E X B (.Name x pos) (eC d) :=
 PE.imp (Gm hg hm r hd) (zG h)
theorem am:A X B [] aN:=PA.imp Ee fun σ H Q ⟨F,η,d,sr,hd,q⟩=>by
 cases hd;exact q [] F H (.refl sr.same) .nil
theorem ab (ha:E X B e f) (hr:A X B es fs) (hs:starEach (e::es) X.env=(false,eval e X.env)::starEach es X.env:=by exact bW rfl):A X B (e::es) (aC f fs):=PA.imp (Cc ha hr hs) fun σ H Q ⟨F,η,d,sr,hd,q⟩=>by
 obtain ⟨x,hx,hd⟩:=bind_some hd;obtain ⟨y,hy,hd⟩:=bind_some hd;cases hd;exact ⟨F,η,x,sr,hx,fun v F1 H1 g1 rv=>⟨F1,η,y,sr.grow g1,hy,fun vs F2 H2 g2 rs=>q (v::vs) F2 H2 (g1.trans g2) (.cons (rv.mono g2.ff) rs)⟩⟩
noncomputable def gL (ds:List PyData):Option (List PyData):=if ds.length≤sizeLine then some ds else none
theorem f7 {x1} (hs:A X B es fs):E X B (.Tuple es x1 pos) (lA (fun ds=>if ds.length≤sizeLine then some (.tuple ds) else none) fs):=PE.imp (D4 hs) fun σ H Q ⟨F,η,d,sr,hd,q⟩=>by
 obtain ⟨ds,hx,hd⟩:=bind_some hd;split at hd
 ·rename_i hl;cases hd;refine ⟨F,η,ds,sr,hx,fun vs F1 H1 g1 rs=>⟨by rw [rs.length]; exact hl,fun p hp=>?_⟩⟩;have g2:Gr F1 H1 (upd F1 p (.tup vs)) (upd H1 p (.tup vs)):=Gr.one g1.fh hp;exact q _ _ _ (g1.trans g2) (jT (SqT.of aD) (rs.mono g2.ff))
 ·cases hd
theorem bt (hs:A X B es fs):EO X B (.List es pos) (fun η=>(fs η).bind gL):=PE.imp (D7 hs) fun σ H Q ⟨F,η,ds,sr,hd,q⟩=>by
 obtain ⟨ds',hx,hd⟩:=bind_some hd;unfold gL at hd;split at hd
 ·rename_i hl;cases hd;refine ⟨F,η,ds,sr,hx,fun vs F1 H1 g1 rs=>⟨by rw [rs.length]; exact hl,fun p hp=>?_⟩⟩;refine q p vs F1 (upd H1 p (.lst vs)) ?_ (g1.hh.free hp) (g1.fh.free hp) aD rs;refine ⟨g1.ff,g1.hh.trans (fb hp _),fun b u z=>?_,g1.new⟩;exact fb hp _ b u (g1.fh b u z)
 ·cases hd
noncomputable def oE (f:En→Option (List PyData)):En→Option PyData:=fun η=>(f η).bind fun ds=>some (.list ds)
theorem bb (he:EO X B e fs):E X B e (oE fs):=PE.imp he fun σ H Q ⟨F,η,d,sr,hd,q⟩=>by
 obtain ⟨ds,hx,hd⟩:=bind_some hd;cases hd;refine ⟨F,η,ds,sr,hx,fun p xs F' H' g1 hp fp hp' rs=>?_⟩;have sn:=fb (H:=F') fp (.lst xs);refine q (.ref p) (upd F' p (.lst xs)) H' ⟨g1.ff.trans sn,g1.hh,fun b u z=>?_,fun b z=>?_⟩ (jk (SqL.of aD) (rs.mono sn))
 ·by_cases e:b=p
  ·subst e; rw [aD] at z; rw [← z]; exact hp'
  ·rw [aE e] at z; exact g1.fh _ _ z
 ·by_cases e:b=p
  ·subst e; exact .inr hp
  ·rw [aE e] at z; exact g1.new b z
noncomputable def asB:PyData→Option Bool
 | .bool b=>some b
 | _=>none
noncomputable def bT (f:En→Option PyData):En→Option Bool:=fun η=>(f η).bind asB
theorem jc {d:PyData} {b:Bool} (h:asB d=some b):d=.bool b:=by
 cases d <;> simp [asB] at h;rw [h]
theorem T.val (he:E X B e f) (hi:∀ whole,isTrue e X.env whole=(do let v ← whole; standAt e.pos; holding [v] (truthy v)):=by intro _; rfl):T X B e (bT f):=PT.imp (Iy he hi) fun σ H Q ⟨F,η,b,sr,hd,q⟩=>by
 obtain ⟨x,hx,hd⟩:=bind_some hd;obtain rfl:=jc hd;exact ⟨F,η,_,sr,hx,fun v F1 H1 g1 rv=>⟨b,rv.bl,q F1 H1 g1⟩⟩
theorem T.cmp {op:CmpOp} {r:R2} {o:PyData→PyData→Option PyData} (ho:OpR X (compareOp op) r) (ad:Ad2 X.K r o) (hm:behindInMarks op b=false) (ha:E X B a f) (hb:E X B b g):T X B (.Compare a [op] [b] pos) (bT (l2 o f g)) :=
 PT.imp (B1 ho ha hb hm) fun σ H Q ⟨F,η,b,sr,hd,q⟩=>by
  obtain ⟨x,hx,hd⟩:=bind_some hd;obtain rfl:=jc hd;exact t2 ad σ H _ ⟨F,η,_,sr,hx,fun v F1 H1 g1 rv=>⟨b,rv.bl,q F1 H1 g1⟩⟩
noncomputable def lch (o o':PyData→PyData→Option PyData) (f g h:En→Option PyData):En→Option PyData:=fun η=>(f η).bind fun x=>(g η).bind fun y=>(o x y).bind fun z=>(asB z).bind fun k =>
 if k=true then (h η).bind fun w=>o' y w else some (.bool false)
theorem E.chain {op op':CmpOp} {r r':R2} {o o':PyData→PyData→Option PyData} (ho:OpR X (compareOp op) r) (ad:Ad2 X.K r o) (ho':OpR X (compareOp op') r') (ad':Ad2 X.K r' o') (ha:E X B a f) (hb:E X B b g) (hc:E X B c h)
  (hm:lastMarks [op,op'] [b,c]=false:=by with_unfolding_all rfl):E X B (.Compare a [op,op'] [b,c] pos) (lch o o' f g h):=PE.imp (Eb ho ho' ha hb hc hm) fun σ H Q ⟨F,η,d,sr,hd,q⟩=>by
 obtain ⟨x,hx,hd⟩:=bind_some hd;obtain ⟨y,hy,hd⟩:=bind_some hd;obtain ⟨z,hz,hd⟩:=bind_some hd;obtain ⟨k,hk,hd2⟩:=bind_some hd;clear hd;obtain rfl:=jc hk;have hd:=hd2;refine ⟨F,η,x,sr,hx,fun v F1 H1 g1 rv=>⟨F1,η,y,sr.grow g1,hy,fun u F2 H2 g2 ru=>?_⟩⟩;refine ad F2 H2 v u x y _ _ g2.fh (rv.mono g2.ff) ru hz fun w F3 H3 g3 rw'=>⟨k,rw'.bl,?_⟩;cases k with
 | false =>
  rw [if_neg LU] at hd ⊢;cases hd;exact q _ F3 H3 ((g1.trans g2).trans g3) dZ
 | true =>
  rw [if_pos rfl] at hd ⊢;obtain ⟨w2,hw2,hd⟩:=bind_some hd;refine ⟨F3,η,w2,(sr.grow (g1.trans g2)).grow g3,hw2,fun t F4 H4 g4 rt=>?_⟩;exact ad' F4 H4 u t y w2 d Q g4.fh (ru.mono (g3.ff.trans g4.ff)) rt hd fun w5 F5 H5 g5 r5=>q w5 F5 H5 (((g1.trans g2).trans g3).trans (g4.trans g5)) r5
theorem T.chain {op op':CmpOp} {r r':R2} {o o':PyData→PyData→Option PyData} (ho:OpR X (compareOp op) r) (ad:Ad2 X.K r o) (ho':OpR X (compareOp op') r') (ad':Ad2 X.K r' o') (ha:E X B a f) (hb:E X B b g) (hc:E X B c h)
  (hm:lastMarks [op,op'] [b,c]=false:=by with_unfolding_all rfl):T X B (.Compare a [op,op'] [b,c] pos) (bT (lch o o' f g h)):=PT.imp (zX ho ho' ha hb hc hm) fun σ H Q ⟨F,η,d',sr,hd',q'⟩=>by
 obtain ⟨d,hd,hdb⟩:=bind_some hd';obtain rfl:=jc hdb;obtain ⟨x,hx,hd⟩:=bind_some hd;obtain ⟨y,hy,hd⟩:=bind_some hd;obtain ⟨z,hz,hd⟩:=bind_some hd;obtain ⟨k,hk,hd2⟩:=bind_some hd;clear hd;obtain rfl:=jc hk;have hd:=hd2;refine ⟨F,η,x,sr,hx,fun v F1 H1 g1 rv=>⟨F1,η,y,sr.grow g1,hy,fun u F2 H2 g2 ru=>?_⟩⟩;refine ad F2 H2 v u x y _ _ g2.fh (rv.mono g2.ff) ru hz fun w F3 H3 g3 rw'=>⟨k,rw'.bl,?_⟩;cases k with
 | false =>
  rw [if_neg LU] at hd ⊢;cases hd;exact ⟨_,rfl,q' F3 H3 ((g1.trans g2).trans g3)⟩
 | true =>
  rw [if_pos rfl] at hd ⊢;obtain ⟨w2,hw2,hd⟩:=bind_some hd;refine ⟨F3,η,w2,(sr.grow (g1.trans g2)).grow g3,hw2,fun t F4 H4 g4 rt=>?_⟩;exact ad' F4 H4 u t y w2 _ _ g4.fh (ru.mono (g3.ff.trans g4.ff)) rt hd fun w5 F5 H5 g5 r5=>⟨_,r5.bl,q' F5 H5 (((g1.trans g2).trans g3).trans (g4.trans g5))⟩
noncomputable def rQ (f g:En→Option Bool):En→Option Bool:=fun η=>(f η).bind fun c=>if c=true then g η else some false
noncomputable def bOr (f g:En→Option Bool):En→Option Bool:=fun η=>(f η).bind fun c=>if c=true then some true else g η
noncomputable def BG (f:En→Option Bool):En→Option Bool:=fun η=>(f η).bind fun c=>some (!c)
variable {p q r:En→Option Bool} {rest:List Expr}
theorem T.not (ha:T X B a p):T X B (.UnaryOp .Not a pos) (BG p):=PT.imp (Iz ha) fun σ H Q ⟨F,η,b,sr,hd,q⟩=>by
 obtain ⟨x,hx,hd⟩:=bind_some hd;cases hd;exact ⟨F,η,x,sr,hx,q⟩
theorem TW.t (h:TW X B a p):T X B a p:=PW.pt h
theorem TW.and1 (ha:T X B a p):TW X B (.BoolOp .And [a] pos) p:=pw_and1 ha
theorem TW.or1 (ha:T X B a p):TW X B (.BoolOp .Or [a] pos) p:=pw_or1 ha
theorem TW.and (ha:T X B a p) (hb:TW X B (.BoolOp .And (b::rest) pos) q):TW X B (.BoolOp .And (a::b::rest) pos) (rQ p q):=PW.imp (pw_and ha hb) fun σ H Q ⟨F,η,b,sr,hd,k⟩=>by
 obtain ⟨x,hx,hd⟩:=bind_some hd;refine ⟨F,η,x,sr,hx,fun F1 H1 g1=>?_⟩;cases x with
 | false =>
  rw [if_neg LU] at hd ⊢;cases hd;exact k F1 H1 g1
 | true =>
  rw [if_pos rfl] at hd ⊢;exact ⟨F1,η,b,sr.grow g1,hd,fun F2 H2 g2=>k F2 H2 (g1.trans g2)⟩
theorem TW.or (ha:T X B a p) (hb:TW X B (.BoolOp .Or (b::rest) pos) q):TW X B (.BoolOp .Or (a::b::rest) pos) (bOr p q):=PW.imp (pw_or ha hb) fun σ H Q ⟨F,η,b,sr,hd,k⟩=>by
 obtain ⟨x,hx,hd⟩:=bind_some hd;refine ⟨F,η,x,sr,hx,fun F1 H1 g1=>?_⟩;cases x with
 | false =>
  rw [if_neg LU] at hd ⊢;exact ⟨F1,η,b,sr.grow g1,hd,fun F2 H2 g2=>k F2 H2 (g1.trans g2)⟩
 | true =>
  rw [if_pos rfl] at hd ⊢;cases hd;exact k F1 H1 g1
noncomputable def zE (f g:En→Option PyData):En→Option PyData:=fun η=>(f η).bind fun x=>(asB x).bind fun c=>if c=true then g η else some (.bool false)
noncomputable def CU (f:En→Option PyData):En→Option PyData:=fun η=>(f η).bind fun x=>(asB x).bind fun c=>some (.bool (!c))
theorem E.one {op} (ha:E X B a f):E X B (.BoolOp op [a] pos) f:=D5 ha
theorem E.and (ha:E X B a f) (hb:E X B (.BoolOp .And (b::rest) pos) g):E X B (.BoolOp .And (a::b::rest) pos) (zE f g):=PE.imp (Ed ha hb) fun σ H Q ⟨F,η,b,sr,hd,k⟩=>by
 obtain ⟨x,hx,hd⟩:=bind_some hd;obtain ⟨c,hc,hd2⟩:=bind_some hd;clear hd;obtain rfl:=jc hc;have hd:=hd2;refine ⟨F,η,_,sr,hx,fun v F1 H1 g1 rv=>⟨c,rv.bl,?_⟩⟩;cases c with
 | false =>
  rw [if_neg LU] at hd ⊢;cases hd;exact k _ F1 H1 g1 dZ
 | true =>
  rw [if_pos rfl] at hd ⊢;exact ⟨F1,η,b,sr.grow g1,hd,fun u F2 H2 g2=>k u F2 H2 (g1.trans g2)⟩
theorem E.not (ha:E X B a f):E X B (.UnaryOp .Not a pos) (CU f):=PE.imp (IF ha) fun σ H Q ⟨F,η,b,sr,hd,k⟩=>by
 obtain ⟨x,hx,hd⟩:=bind_some hd;obtain ⟨c,hc,hd2⟩:=bind_some hd;clear hd;obtain rfl:=jc hc;have hd:=hd2;cases hd;exact ⟨F,η,_,sr,hx,fun v F1 H1 g1 rv=>⟨c,rv.bl,k _ F1 H1 g1 dZ⟩⟩
noncomputable def vIf (c:En→Option Bool) (f g:En→Option PyData):En→Option PyData:=fun η=>(c η).bind fun c=>if c=true then f η else g η
theorem E.ifE (hc:T X B c p) (ha:E X B a f) (hb:E X B b g):E X B (.IfExp c a b pos) (vIf p f g):=PE.imp (Aa hc ha hb) fun σ H Q ⟨F,η,d,sr,hd,k⟩=>by
 obtain ⟨x,hx,hd⟩:=bind_some hd;refine ⟨F,η,x,sr,hx,fun F1 H1 g1=>?_⟩;cases x with
 | false =>
  rw [if_neg LU] at hd ⊢;exact ⟨F1,η,d,sr.grow g1,hd,fun u F2 H2 g2=>k u F2 H2 (g1.trans g2)⟩
 | true =>
  rw [if_pos rfl] at hd ⊢;exact ⟨F1,η,d,sr.grow g1,hd,fun u F2 H2 g2=>k u F2 H2 (g1.trans g2)⟩
noncomputable def spP (K:LN) (fn:List PyData→Option PyData):Sp:=fun vs H Q _=>∃ F ds d,Same F H∧RelL K F ds vs∧fn ds=some d∧∀ v F' H',Gr F H F' H'→Rel K F' d v→Q v H'
theorem aP {k k':Nat} {fa:Addr} {fd:FuncData} {ps:List Str} {x:Str} {ppos:Pos} {fn:List PyData→Option PyData} (G:FnOk X.prog X.w X.K X.mg X.base CX0 k fa fd ps (spP X.K fn)) (hr:Room k' X.A) (hkk:k≤k') (hm:X.mg x=some (.ref fa)) (hk:MM X.K (.ref fa)=true) (hb:Binds X.K fd ps [])
  (ha:A X B (e::es) fs) (hg:Gl X x:=by rfl) (hdb:(x==("__debug__" : Str))=false:=by decide) (he:starEach (e::es) X.env=(false,eval e X.env)::starEach es X.env:=by exact bW rfl) (hpl:(backTo pos (starEach es X.env)).any (·.1)=false:=by exact iW rfl) :
  E X B (.Call (.Name x ppos) (e::es) [] pos) (lA fn fs):=PE.imp (B8 G (hr.mono hkk) hg hm hk hb .nil yh ha hdb he hpl) fun σ H Q ⟨F,η,d,sr,hd,q⟩=>by
 obtain ⟨ds,hx,hd⟩:=bind_some hd;refine ⟨F,η,ds,sr,hx,fun vs F1 H1 g1 rs=>?_⟩;show spP X.K fn (vs++[]) H1 Q E0;rw [Mn];exact ⟨F1,ds,d,g1.fh,rs,hd,fun v F2 H2 g2 rv=>q v F2 H2 (g1.trans g2) rv⟩
end
inductive Out where
 | nx (η:En)
 | rt (d:PyData)
 | bk (η:En)
 | ct (η:En)
noncomputable def OutOk (K:LN) (B:Bd) (F:Hp) (D:Ends):Out→Prop
 | .nx η=>∀ σ' F' H',SR K B F' H' σ' η→Same F F'→D.nx σ' H'
 | .rt d=>∀ v F' H',Gr B.F B.H F' H'→Rel K F' d v→D.rt v H'
 | .bk η=>∀ σ' F' H',SR K B F' H' σ' η→Same F F'→D.bk σ' H'
 | .ct η=>∀ σ' F' H',SR K B F' H' σ' η→Same F F'→D.ct σ' H'
noncomputable def tS (K:LN) (B:Bd) (f:En→Option Out):TS:=fun D σ H=>∃ F η o,SR K B F H σ η∧f η=some o∧OutOk K B F D o
noncomputable def S (X:Cx) (B:Bd) (st:Stmt) (f:En→Option Out):Prop:=PS X st (tS X.K B f)
noncomputable def Ss (X:Cx) (B:Bd) (st:List Stmt) (f:En→Option Out):Prop:=PSs X st (tS X.K B f)
theorem PS.imp {X:Cx} {e:Stmt} {t t':TS} (h:PS X e t) (i:∀ D σ H,t' D σ H→t D σ H):PS X e t':=fun pins s σ H D I q=>h pins s σ H D I (i D σ H q)
theorem PSs.imp {X:Cx} {e:List Stmt} {t t':TS} (h:PSs X e t) (i:∀ D σ H,t' D σ H→t D σ H):PSs X e t':=fun pins s σ H D I q=>h pins s σ H D I (i D σ H q)
theorem OutOk.up {K:LN} {B:Bd} {F F1:Hp} {D:Ends} {o:Out} (h:OutOk K B F D o) (s:Same F F1):OutOk K B F1 D o:=by
 cases o with
 | nx η=>exact fun σ' F' H' r e=>h σ' F' H' r (s.trans e)
 | rt d=>exact h
 | bk η=>exact fun σ' F' H' r e=>h σ' F' H' r (s.trans e)
 | ct η=>exact fun σ' F' H' r e=>h σ' F' H' r (s.trans e)
noncomputable def sNx:En→Option Out:=fun η=>some (.nx η)
noncomputable def cw (f g:En→Option Out):En→Option Out:=fun η=>(f η).bind fun o=>match o with
 | .nx η'=>g η'
 | o=>some o
noncomputable def f9 (f:En→Option PyData):En→Option Out:=fun η=>(f η).bind fun d=>some (.rt d)
noncomputable def zT (i:Nat):En→Option Out:=fun η=>match η[i]? with | some (.own ds)=>some (.rt (.list ds)) | _=>none
noncomputable def sIf (c:En→Option Bool) (f g:En→Option Out):En→Option Out:=fun η=>(c η).bind fun b=>if b=true then f η else g η
noncomputable def dY (i:Nat) (f:En→Option PyData):En→Option Out:=fun η=>(f η).bind fun d=>some (.nx (η.set i (.val d)))
noncomputable def ml (i:Nat) (f:En→Option (List PyData)):En→Option Out:=fun η=>(f η).bind fun ds=>some (.nx (η.set i (.own ds)))
noncomputable def DH (i:Nat) (f:En→Option PyData):En→Option Out:=fun η=>(f η).bind fun d=>match η[i]? with
 | some (.own ds)=>if ds.length < sizeLine then some (.nx (η.set i (.own (ds++[d])))) else none
 | _=>none
noncomputable def wC (i:Nat) (f:En→Option (List PyData)):En→Option Out:=fun η=>(f η).bind fun es=>match η[i]? with
 | some (.own ds)=>if ds.length+es.length≤sizeLine then some (.nx (η.set i (.own (ds++es)))) else none
 | _=>none
noncomputable def frz (i:Nat) (η:En):En:=match η[i]? with | some (.own ds)=>η.set i (.val (.list ds)) | some (.odc kvs)=>η.set i (.val (.dict (prs kvs))) | _=>η
section
variable {X:Cx} {B:Bd} {st:Stmt} {sts sts':List Stmt} {u v:En→Option Out} {a b c e:Expr} {f g:En→Option PyData} {fs:En→Option (List PyData)} {p:En→Option Bool} {pos pos':Pos}
theorem Ss.nil:Ss X B [] sNx:=PSs.imp B3 fun D σ H ⟨F,η,o,sr,hd,q⟩=>by
 cases hd;exact q σ F H sr (.refl _)
theorem bn (h:S X B st u):Ss X B [st] u:=B2 h
theorem a7 (h:S X B st u) (k:Ss X B sts v):Ss X B (st::sts) (cw u v):=PSs.imp (zY h k) fun D σ H ⟨F,η,o,sr,hd,q⟩=>by
 obtain ⟨o1,h1,hd⟩:=bind_some hd;refine ⟨F,η,o1,sr,h1,?_⟩;cases o1 with
 | nx η'=>exact fun σ' F' H' r e=>⟨F',η',o,r,hd,q.up e⟩
 | rt d=>cases hd; exact q
 | bk η'=>cases hd; exact q
 | ct η'=>cases hd; exact q
theorem S.never:S X B st (fun _=>none):=PS.imp DV fun D σ H ⟨F,η,o,sr,hd,q⟩=>by cases hd
theorem g7 (he:E X B e f):S X B (.Return (some e) pos) (f9 f):=PS.imp (Be he) fun D σ H ⟨F,η,o,sr,hd,q⟩=>by
 obtain ⟨d,h1,hd⟩:=bind_some hd;cases hd;exact ⟨F,η,d,sr,h1,fun v F' H' g rv=>q v F' H' (sr.gr.trans g) rv⟩
theorem S.retO (i:Nat) {x:Str} (hN:X.N[i]?=some x:=by rfl) (hv:Vis X.env.scope x:=by first | exact Or.inl rfl | exact Or.inr (Or.inl rfl) | exact Or.inr (Or.inr rfl)) (hd:(x==("__debug__" : Str))=false:=by decide)
  (hcd:(x==("__classdict__" : Str))=false:=by decide):S X B (.Return (some (.Name x pos')) pos) (zT i):=PS.imp (Be (uL hN hv hd hcd)) fun D σ H ⟨F,η,o,sr,hd,q⟩=>by
 unfold zT at hd;split at hd
 ·rename_i ds e;cases hd;obtain ⟨F',p,e1,sf,sr',rel⟩:=sr.freeze e;exact ⟨_,e1,q _ F' H sr'.gr rel⟩
 ·cases hd
theorem S.ifS (hc:T X B c p) (ha:Ss X B sts u) (hb:Ss X B sts' v):S X B (.If c sts sts' pos) (sIf p u v):=PS.imp (Hz hc ha hb) fun D σ H ⟨F,η,o,sr,hd,q⟩=>by
 obtain ⟨b,h1,hd⟩:=bind_some hd;refine ⟨F,η,b,sr,h1,fun F1 H1 g1=>?_⟩;cases b with
 | false =>
  rw [if_neg LU] at hd ⊢;exact ⟨F1,η,o,sr.grow g1,hd,q.up g1.ff⟩
 | true =>
  rw [if_pos rfl] at hd ⊢;exact ⟨F1,η,o,sr.grow g1,hd,q.up g1.ff⟩
theorem Jt {K:LN} {i:Nat}:∀ D σ H,tS K B (dY i f) D σ H→FQ (tE K B f) (yq i) D σ H:=fun D σ H ⟨F,η,o,sr,hd,q⟩=>by
 obtain ⟨d,h1,hd⟩:=bind_some hd;cases hd;refine ⟨F,η,d,sr,h1,fun v F1 H1 g1 rv=>q _ F1 H1 ⟨sr.gr.trans g1,(sr.en.grow g1).set i rv⟩ g1.ff⟩
theorem CN {K:LN} {i:Nat}:∀ D σ H,tS K B (ml i fs) D σ H→FQ (tO K B fs) (yq i) D σ H:=fun D σ H ⟨F,η,o,sr,hd,q⟩=>by
 obtain ⟨d,h1,hd⟩:=bind_some hd;cases hd;refine ⟨F,η,d,sr,h1,fun p xs F1 H1 g1 hp fp hp' rs=>q _ F1 H1 ⟨sr.gr.trans g1,(sr.en.grow g1).setOwn i fp (sr.gr.hh.free hp) hp' rs fun j ej=>sr.en.notown hp j ej⟩ g1.ff⟩
theorem g6 (i:Nat) {x:Str} (hN:X.N.Nodup) (he:E X B e f) (hi:X.N[i]?=some x:=by rfl) (hx:Loc X.env.scope x:=by first | exact Or.inl rfl | exact Or.inr rfl) (hs:swapsWith e (some (.Name x pos')) pos.line X.env=pure false:=by rfl)
  (hf:X.fn x=true∨X.env.scope.names.lookup x=some .local:=by first | exact .inl rfl | exact .inr rfl):S X B (.Assign [.Name x pos'] e pos) (dY i f):=PS.imp (Bc hN hi hx he hs hf) Jt
theorem S.setO (i:Nat) {x:Str} (hN:X.N.Nodup) (he:EO X B e fs) (hi:X.N[i]?=some x:=by rfl) (hx:Loc X.env.scope x:=by first | exact Or.inl rfl | exact Or.inr rfl) (hs:swapsWith e (some (.Name x pos')) pos.line X.env=pure false:=by rfl)
  (hf:X.fn x=true∨X.env.scope.names.lookup x=some .local:=by first | exact .inl rfl | exact .inr rfl):S X B (.Assign [.Name x pos'] e pos) (ml i fs):=PS.imp (Bc hN hi hx he hs hf) CN
theorem Ss.frz (i:Nat) (h:Ss X B sts u):Ss X B sts (fun η=>u (frz i η)):=PSs.imp h fun D σ H ⟨F,η,o,sr,hd,q⟩=>by
 have hd:u (PU.frz i η)=some o:=hd;unfold PU.frz at hd;split at hd
 ·rename_i ds e;obtain ⟨F',p,e1,sf,sr',rel⟩:=sr.freeze e;exact ⟨F',_,o,sr',hd,q.up sf⟩
 ·rename_i kvs e;obtain ⟨F',p,e1,sf,sr',rel⟩:=sr.freezeD e;exact ⟨F',_,o,sr',hd,q.up sf⟩
 ·exact ⟨F,η,o,sr,hd,q⟩
noncomputable def ItP (K:LN) (J:It) (F:Hp) (ds:List PyData):Prop:=∀ F1 H1 (i:Nat),Same F F1→Same F1 H1 →
 (∀ d,ds[i]?=some d→J.go i H1∧∀ x H2,J.yld i H1 x H2→∃ F2,Gr F1 H1 F2 H2∧Rel K F2 d x)∧(i=ds.length→J.stop i H1)
noncomputable def tI (K:LN) (B:Bd) (f:En→Option (List PyData)):TI:=fun σ H R=>∃ F η ds,SR K B F H σ η∧f η=some ds∧∀ J F' H',Gr F H F' H'→ItP K J F' ds→R J H'
noncomputable def I (X:Cx) (B:Bd) (tg iter:Expr) (f:En→Option (List PyData)):Prop:=PI X tg iter (tI X.K B f)
theorem PI.imp {X:Cx} {tg it:Expr} {t t':TI} (h:PI X tg it t) (i:∀ σ H Q,t' σ H Q→t σ H Q):PI X tg it t':=fun pins s σ H Q I q=>h pins s σ H Q I (i σ H Q q)
noncomputable def TgP (K:LN) (ks:List Nat) (g:TG) (t:En→PyData→Option En):Prop:=∀ (B:Bd) F H σ η d x η',SR K B F H σ η→Rel K F d x→t η d=some η'→∀ Q:St→Hp→Prop,(∀ σ' F' H',SR K B F' H' σ' η'→Gr F H F' H'→σ'.length=σ.length→(∀ i,i∉ks→σ'[i]?=σ[i]?)→Q σ' H')→g x σ H Q
noncomputable def tgN (i:Nat):En→PyData→Option En:=fun η d=>some (η.set i (.val d))
theorem aF {K:LN} {i:Nat}:TgP K [i] (yq i) (tgN i):=fun B F H σ η d x η' sr rx e Q q=>by
 cases e;exact q _ F H ⟨sr.gr,sr.en.set i rx⟩ (.refl sr.same) (L6 ..) fun j hj=>LP (fun e=>hj (by simp [e])) ..
noncomputable def TgsP (K:LN) (ks:List Nat) (g:TGs) (t:En→List PyData→Option En):Prop:=∀ (B:Bd) F H σ η ds xs η',SR K B F H σ η→RelL K F ds xs→t η ds=some η'→∀ Q:St→Hp→Prop,(∀ σ' F' H',SR K B F' H' σ' η'→Gr F H F' H'→σ'.length=σ.length→(∀ i,i∉ks→σ'[i]?=σ[i]?)→Q σ' H')→g xs σ H Q
noncomputable def kn:En→List PyData→Option En:=fun η ds=>match ds with | []=>some η | _=>none
noncomputable def bU (t:En→PyData→Option En) (r:En→List PyData→Option En):En→List PyData→Option En:=fun η ds=>match ds with | []=>none | d::ds=>(t η d).bind fun η1=>r η1 ds
theorem TgsP.nil {K:LN}:TgsP K [] KB kn:=fun B F H σ η ds xs η' sr rx e Q q=>by
 cases ds with
 | nil =>
  cases e;exact ⟨rx.nil_of,q _ F H sr (.refl sr.same) rfl fun _ _=>rfl⟩
 | cons d ds=>cases e
theorem TgsP.cons {K:LN} {ks ls:List Nat} {g:TG} {gs:TGs} {t:En→PyData→Option En} {r:En→List PyData→Option En} (h:TgP K ks g t) (k:TgsP K ls gs r):TgsP K (ks++ls) (HI g gs) (bU t r):=fun B F H σ η ds xs η' sr rx e Q q=>by
 cases ds with
 | nil=>cases e
 | cons d ds =>
  obtain ⟨x,r',rfl,h1,h2⟩:=rx.cons_of;obtain ⟨η1,e1,e2⟩:=bind_some e;refine ⟨x,r',rfl,h B F H σ η d x η1 sr h1 e1 _ fun σ1 F1 H1 sr1 g1 l1 n1=>?_⟩;refine k B F1 H1 σ1 η1 ds r' η' sr1 (h2.mono g1.ff) e2 _ fun σ2 F2 H2 sr2 g2 l2 n2=>?_;exact q σ2 F2 H2 sr2 (g1.trans g2) (l2.trans l1) fun i hi=>(n2 i fun z=>hi (Mm _ z)).trans (n1 i fun z=>hi (NA _ z))
noncomputable def tgT (t:En→List PyData→Option En):En→PyData→Option En:=fun η d=>match d with | .tuple ds=>t η ds | _=>none
theorem TgP.tup {K:LN} {ks:List Nat} {n:Nat} {g:TGs} {t:En→List PyData→Option En} (h:TgsP K ks g t) (hn:∀ η ds η',t η ds=some η'→ds.length=n):TgP K ks (KA K n g) (tgT t):=fun B F H σ η d x η' sr rx e Q q=>by
 cases d with
 | tuple ds =>
  obtain ⟨a,xs,rfl,hq,rs⟩:=rx.tup;exact ⟨a,xs,rfl,dh sr.same hq,by rw [rs.length]; exact hn η ds η' e,h B F H σ η ds xs η' sr rs e Q q⟩
 | none=>cases e
 | bool _=>cases e
 | int _=>cases e
 | str _=>cases e
 | list _=>cases e
 | dict _=>cases e
noncomputable def sGo (t:En→PyData→Option En) (body:En→Option Out):List PyData→En→Option Out
 | [],η=>some (.nx η)
 | d::ds,η=>(t η d).bind fun η1=>(body η1).bind fun o=>match o with
  | .nx η2=>sGo t body ds η2
  | .ct η2=>sGo t body ds η2
  | .bk η2=>some (.nx η2)
  | .rt d=>some (.rt d)
noncomputable def pz (it:En→Option (List PyData)) (t:En→PyData→Option En) (body:En→Option Out):En→Option Out:=fun η=>(it η).bind fun ds=>sGo t body ds η
theorem S.for {tg iter:Expr} {body:List Stmt} {gt:TG} {ks:List Nat} {t:En→PyData→Option En} (hp:PassesOwn (model X.prog X.w) X.A X.env X.xe) (hc:X.calm=true) (hi:I X B tg iter fs) (hg:PG X tg gt) (ht:TgP X.K ks gt t) (hb:Ss X B body u)
  (hs:∀ x,foldedSetIterable iter X.env x=pure x:=by intro _; rfl):S X B (.For tg iter body [] pos) (pz fs t u):=PS.imp (DW hp hc hi hg hb hs) fun D σ H ⟨F,η,o,sr,hd,q⟩=>by
 obtain ⟨ds,h1,hd⟩:=bind_some hd;refine ⟨F,η,ds,sr,h1,fun J F1 H1 g1 ip=>?_⟩;refine ⟨fun i m σ H=>m=ds.length - i∧i≤ds.length∧∃ Fc ηc,SR X.K B Fc H σ ηc∧Same F1 Fc∧sGo t u (ds.drop i) ηc=some o,⟨_,rfl,Mz _,F1,η,sr.grow g1,.refl _,by simpa using hd⟩,?_⟩
 rintro i m σc Hc ⟨rfl,hi,Fc,ηc,src,sc,hgo⟩
 obtain ⟨ip1,ip2⟩:=ip Fc Hc i sc src.same;by_cases hlt:i < ds.length
 ·have e:ds[i]?=some ds[i]:=Me hlt;obtain ⟨go,yl⟩:=ip1 _ e;rw [M0 hlt] at hgo;unfold sGo at hgo;obtain ⟨η1,e1,hgo⟩:=bind_some hgo;obtain ⟨o1,e2,hgo⟩:=bind_some hgo;have cont:∀ (η2:En),sGo t u (ds.drop (i+1)) η2=some o→∀ σ' F' H',SR X.K B F' H' σ' η2→Same F1 F' →
    ∃ m',m' < ds.length - i∧(fun i m σ H=>m=ds.length - i∧i≤ds.length∧∃ Fc ηc,SR X.K B Fc H σ ηc∧Same F1 Fc∧sGo t u (ds.drop i) ηc=some o) (i+1) m' σ' H':=fun η2 h2 σ' F' H' r s =>
   ⟨ds.length - (i+1),by omega,rfl,hlt,F',η2,r,s,h2⟩
  refine .inr ⟨go,fun σ' H'=>∃ m',m' < ds.length - i∧(fun i m σ H=>m=ds.length - i∧i≤ds.length∧∃ Fc ηc,SR X.K B Fc H σ ηc∧Same F1 Fc∧sGo t u (ds.drop i) ηc=some o) (i+1) m' σ' H',fun σ' H' n=>n,fun x H' y=>?_⟩;obtain ⟨F2,g2,rx⟩:=yl x H' y;refine ht B F2 H' σc ηc _ x η1 (src.grow g2) rx e1 _ fun σ3 F3 H3 sr3 g3 _ _=>?_;refine ⟨F3,η1,o1,sr3,e2,?_⟩;have s3:Same F1 F3:=sc.trans (g2.ff.trans g3.ff);cases o1 with
  | nx η2=>exact fun σ' F' H' r s=>cont η2 hgo σ' F' H' r (s3.trans s)
  | ct η2=>exact fun σ' F' H' r s=>cont η2 hgo σ' F' H' r (s3.trans s)
  | bk η2 =>
   cases hgo;exact fun σ' F' H' r s=>q σ' F' H' r (g1.ff.trans (s3.trans s))
  | rt d =>
   cases hgo;exact q
 ·have ei:i=ds.length:=by omega
  subst ei;rw [Nu] at hgo;cases hgo;exact .inl ⟨ip2 rfl,q σc Fc Hc src (g1.ff.trans sc)⟩
noncomputable def asL:PyData→Option (List PyData)
 | .list ds=>some ds
 | _=>none
noncomputable def oB:PyData→Option (List PyData)
 | .tuple ds=>some ds
 | _=>none
noncomputable def lI (k:PyData→Option (List PyData)) (f:En→Option PyData):En→Option (List PyData):=fun η=>(f η).bind k
theorem Az {K:LN} {F:Hp} {a:Addr} {xs:List V} {ds:List PyData} (h:SqL K F a xs) (r:RelL K F ds xs):ItP K (Itl K a) F ds:=fun F1 H1 i s1 s2=>by
 have q:=s2.seq (s1.seq h);refine ⟨fun d e=>?_,fun e=>⟨xs,q,by rw [r.length,e]; exact LS _⟩⟩;obtain ⟨x,ex,rx⟩:=r.get e;refine ⟨⟨xs,x,q,ex⟩,fun x' H2 y=>?_⟩;obtain ⟨e2,y⟩:=y;subst e2;have z:=y xs q;rw [ex] at z;cases z;exact ⟨F1,.refl s2,rx.mono s1⟩
theorem GN {K:LN} {F:Hp} {a:Addr} {xs:List V} {ds:List PyData} (h:SqT K F a xs) (r:RelL K F ds xs):ItP K (Itt K a) F ds:=fun F1 H1 i s1 s2=>by
 have q:=dh s2 (dh s1 h);refine ⟨fun d e=>?_,fun e=>⟨xs,q,by rw [r.length,e]; exact LS _⟩⟩;obtain ⟨x,ex,rx⟩:=r.get e;refine ⟨⟨xs,x,q,ex⟩,fun x' H2 y=>?_⟩;obtain ⟨e2,y⟩:=y;subst e2;have z:=y xs q;rw [ex] at z;cases z;exact ⟨F1,.refl s2,rx.mono s1⟩
theorem I.list {tg:Expr} (he:E X B e f):I X B tg e (lI asL f):=PI.imp (B4 he) fun σ H Q ⟨F,η,ds,sr,hd,q⟩=>by
 obtain ⟨d,h1,hd⟩:=bind_some hd;cases d <;> simp only [asL,Option.some.injEq,reduceCtorEq] at hd;subst hd;refine ⟨F,η,_,sr,h1,fun v F1 H1 g1 rv=>?_⟩;obtain ⟨a,xs,rfl,hq,rs⟩:=rv.lst;exact ⟨a,rfl,⟨xs,g1.fh.seq hq⟩,q _ F1 H1 g1 (Az hq rs)⟩
theorem I.tup {tg:Expr} (he:E X B e f):I X B tg e (lI oB f):=PI.imp (ID he) fun σ H Q ⟨F,η,ds,sr,hd,q⟩=>by
 obtain ⟨d,h1,hd⟩:=bind_some hd;cases d <;> simp only [oB,Option.some.injEq,reduceCtorEq] at hd;subst hd;refine ⟨F,η,_,sr,h1,fun v F1 H1 g1 rv=>?_⟩;obtain ⟨a,xs,rfl,hq,rs⟩:=rv.tup;exact ⟨a,rfl,⟨xs,dh g1.fh hq⟩,q _ F1 H1 g1 (GN hq rs)⟩
noncomputable def xI (lo:Int) (n:Nat):List PyData:=(List.range n).map fun (k:Nat)=>PyData.int (lo+k)
theorem GO {K:LN} {F:Hp} {lo:Int} {n:Nat}:ItP K (Itr lo n) F (xI lo n):=fun F1 H1 i s1 s2=>by
 have hl:(xI lo n).length=n:=by unfold xI; rw [LO,Mx]
 refine ⟨fun d e=>?_,fun e=>by show n≤i; omega⟩;have hi:i < n:=by rw [← hl]; exact (LT.mp e).1
 refine ⟨hi,fun x H2 y=>?_⟩;obtain ⟨e2,e3⟩:=y;subst e2 e3
 have:d=.int (lo+i):=by
  unfold xI at e;rw [L8,NG hi] at e;exact (Option.some.inj e).symm
 subst this;exact ⟨F1,.refl s2,dO⟩
noncomputable def rng1 (ds:List PyData):Option (List PyData):=match ds with
 | [.int j]=>if -(2 ^ 62)≤j∧j < 2 ^ 62 then some (xI 0 j.toNat) else none
 | _=>none
noncomputable def DJ (ds:List PyData):Option (List PyData):=match ds with
 | [.int i,.int j]=>if (-(2 ^ 62)≤i∧i < 2 ^ 62)∧(-(2 ^ 62)≤j∧j < 2 ^ 62) then some (xI i (j - i).toNat) else none
 | _=>none
theorem I.rng1 {tg:Expr} {pp:Pos} (hm:X.mg "range" = none) (ha:A X B [a] fs) (hg:Gl X "range" := by rfl) (hs:starEach [a] X.env=[(false,eval a X.env)]:=by exact bW rfl):I X B tg (.Call (.Name "range" pp) [a] [] pos) (fun η=>(fs η).bind PU.rng1) :=
 PI.imp (C5 hg hm ha hs) fun σ H Q ⟨F,η,ds,sr,hd,q⟩=>by
  obtain ⟨es,h1,hd⟩:=bind_some hd;unfold PU.rng1 at hd;split at hd
  ·rename_i j;split at hd
   ·rename_i hj;cases hd;refine ⟨F,η,_,sr,h1,fun vs F1 H1 g1 rs=>?_⟩;obtain ⟨x,r,rfl,rx,rr⟩:=rs.cons_of;obtain rfl:=rr.nil_of;exact ⟨j,by rw [rx.int],hj.1,hj.2,q _ F1 H1 g1 GO⟩
   ·cases hd
  ·cases hd
end
noncomputable def sS (mp:List (Option Nat)) (η:En):En:=mp.map fun o=>match o with
 | some j=>(match η[j]? with | some (.val d)=>.val d | some (.ob fs)=>.ob fs | _=>.un)
 | none=>.un
noncomputable def cGo (t:En→PyData→Option En) (p:En→Option Bool) (f:En→Option PyData) (η:En):List PyData→Option (List PyData)
 | []=>some []
 | d::ds=>(t η d).bind fun η1=>(p η1).bind fun ok=>if ok=true then (f η1).bind fun y=>(cGo t p f η ds).bind fun r=>some (y::r) else cGo t p f η ds
noncomputable def bH (mp:List (Option Nat)) (fi:En→Option (List PyData)) (t:En→PyData→Option En) (p:En→Option Bool) (f:En→Option PyData):En→Option (List PyData):=fun η =>
 (fi η).bind fun ds=>if ds.length≤sizeLine then cGo t p f (sS mp η) ds else none
noncomputable def Ts (X:Cx) (B:Bd) (ifs:List Expr) (p:En→Option Bool):Prop:=PTs X ifs (tT X.K B p)
noncomputable def dM:En→Option Bool:=fun _=>some true
section
variable {X:Cx} {B:Bd}
theorem Ts.nil:Ts X B [] dM:=fun pins s σ H Q I ⟨F,η,b,sr,hd,q⟩=>by
 cases hd;exact BZ pins s σ H Q I (q F H (.refl sr.same))
theorem Ts.one {c:Expr} {p:En→Option Bool} (h:T X B c p):Ts X B [c] p:=BY h
theorem CA {mp:List (Option Nat)} {η:En} {i:Nat} {a:Sl} (e:(sS mp η)[i]?=some a):lb a=false:=by
 unfold sS at e;rw [L8] at e;cases q:mp[i]? with
 | none=>rw [q] at e; cases e
 | some o =>
  rw [q] at e;cases o with
  | none=>cases e; rfl
  | some j =>
   have e':(match η[j]? with | some (.val d)=>Sl.val d | some (.ob fs)=>.ob fs | _=>.un)=a:=Option.some.inj e;split at e' <;> (subst e'; rfl)
theorem EnR.inner {K:LN} {He F H:Hp} {σ:St} {η:En} (r:EnR K He F H σ η) (mp:List (Option Nat)):EnR K He F H (jA mp σ) (sS mp η) where
 len:=by unfold sS jA; rw [LO,LO]
 val:=fun i d e=>by
  unfold sS at e;rw [L8] at e;cases q:mp[i]? with
  | none=>rw [q] at e; cases e
  | some o =>
   rw [q] at e;cases o with
   | none=>cases e
   | some j =>
    have e':(match η[j]? with | some (.val d)=>Sl.val d | some (.ob fs)=>.ob fs | _=>.un)=.val d:=Option.some.inj e;split at e'
    ·rename_i d' ed
     have:d'=d:=by injection e'
     subst this;obtain ⟨v,e1,e2⟩:=r.val j d' ed;refine ⟨v,?_,e2⟩;unfold jA;rw [L8,q];show some ((σ[j]?).join)=_;rw [e1];rfl
    ·cases e'
    ·cases e'
 obs:=fun i fs e=>by
  unfold sS at e;rw [L8] at e;cases q:mp[i]? with
  | none=>rw [q] at e; cases e
  | some o =>
   rw [q] at e;cases o with
   | none=>cases e
   | some j =>
    have e':(match η[j]? with | some (.val d)=>Sl.val d | some (.ob fs)=>.ob fs | _=>.un)=.ob fs:=Option.some.inj e;split at e'
    ·cases e'
    ·rename_i d' ed
     have:d'=fs:=by injection e'
     subst this;obtain ⟨p,C,dx,xs,e1,e2⟩:=r.obs j d' ed;refine ⟨p,C,dx,xs,?_,e2⟩;unfold jA;rw [L8,q];show some ((σ[j]?).join)=_;rw [e1];rfl
    ·cases e'
 cel:=fun i a e ha=>by rw [CA e] at ha; cases ha
 apart:=fun i j a b e _ ha _ _=>by rw [CA e] at ha; cases ha
variable {elt iter tg:Expr} {ifs:List Expr} {scope:Scope} {pos:Pos} {N':List Str} {mp:List (Option Nat)} {ks:List Nat} {gt:TG} {t:En→PyData→Option En} {fi:En→Option (List PyData)} {p:En→Option Bool} {f:En→Option PyData}
theorem zi {K:LN} (ht:TgP K ks gt t) (hks:∀ k∈ks,mp[k]?=some none):∀ σ H Q,tO K B (bH mp fi t p f) σ H Q→BR mp (tI K B fi) gt (tT K B p) (tE K B f) σ H Q:=fun σ H Q ⟨F,η,rs,sr,hd,q⟩=>by
 obtain ⟨ds,h1,hd⟩:=bind_some hd;split at hd
 rotate_left
 ·cases hd
 rename_i hz;refine ⟨F,η,ds,sr,h1,fun J F1 H1 g1 ip D hD=>?_⟩;have fD:F1 D=none:=g1.fh.free hD;have kept:∀ {σ2:St},σ2.length=(jA mp σ).length→(∀ i,i∉ks→σ2[i]?=(jA mp σ)[i]?)→wp (jA mp σ) σ2:=fun {σ2} hl hn=>⟨hl,fun i v e=>by
  by_cases hi:i∈ks
  ·have z:=hks i hi;unfold jA at e;rw [L8,z] at e;cases e
  ·rw [hn i hi]; exact e⟩
 refine ⟨fun i m Hc=>m=ds.length - i∧i≤ds.length∧∃ Fc ys done rest,Gr F1 H1 Fc Hc∧Fc D=none∧Hc D=some (.lst ys)∧RelL K Fc done ys∧done.length≤i∧cGo t p f (sS mp η) (ds.drop i)=some rest∧rs=done++rest,⟨_,rfl,Mz _,F1,[],[],rs,⟨.refl _,fb hD _,fun b u z=>fb hD _ b u (g1.fh b u z),fun b z=>.inl z⟩,fD,aD,.nil,LS _,by simpa using hd,rfl⟩,?_⟩
 rintro i m Hc ⟨rfl,hi,Fc,ys,done,rest,gc,fcD,hcD,rd,hdl,hgo,hrs⟩
 obtain ⟨ip1,ip2⟩:=ip Fc Hc i gc.ff gc.fh;by_cases hlt:i < ds.length
 ·have e:ds[i]?=some ds[i]:=Me hlt;obtain ⟨go,yl⟩:=ip1 _ e;rw [M0 hlt] at hgo;unfold cGo at hgo;obtain ⟨η1,e1,hgo⟩:=bind_some hgo;obtain ⟨ok,e2,hgo⟩:=bind_some hgo;refine .inr ⟨go,fun H'=>∃ m',m' < ds.length - i∧(m'=ds.length - (i+1)∧i+1≤ds.length∧∃ Fc ys done rest,Gr F1 H1 Fc H'∧Fc D=none∧H' D=some (.lst ys)∧RelL K Fc done ys∧done.length≤i+1∧cGo t p f (sS mp η) (ds.drop (i+1))=some rest∧rs=done++rest),fun H' n=>n,fun x H' y=>?_⟩;obtain ⟨F2,g2,rx⟩:=yl x H' y;have sin:SR K B F2 H' (jA mp σ) (sS mp η):=⟨(sr.gr.trans g1).trans (gc.trans g2),((sr.en.grow g1).inner mp).grow (gc.trans g2)⟩;refine ht B F2 H' (jA mp σ) (sS mp η) _ x η1 sin rx e1 _ fun σ3 F3 H3 sr3 g3 l3 n3=>⟨kept l3 n3,F3,η1,ok,sr3,e2,fun F4 H4 g4=>?_⟩;have gall:Gr Fc Hc F4 H4:=(g2.trans g3).trans g4;have nD:∀ {F5 H5:Hp},Gr Fc Hc F5 H5→F5 D=none:=fun {F5 H5} g=>by
   cases z:F5 D with
   | none=>rfl
   | some o =>
    rcases g.new D (by rw [z]; simp) with w | w
    ·exact absurd fcD w
    ·rw [hcD] at w; cases w
  cases ok with
  | false =>
   rw [if_neg LU] at hgo;refine Jd ?_;exact ⟨ds.length - (i+1),by omega,rfl,hlt,F4,ys,done,rest,gc.trans gall,nD gall,gall.hh _ _ hcD,rd.mono gall.ff,Nat.le_succ_of_le hdl,hgo,hrs⟩
  | true =>
   rw [if_pos rfl] at hgo;refine Jc ?_;obtain ⟨yv,e3,hgo⟩:=bind_some hgo;obtain ⟨r,e4,hgo⟩:=bind_some hgo;cases hgo;refine ⟨F4,η1,yv,sr3.grow g4,e3,fun v F5 H5 g5 rv=>?_⟩;have ga:=gall.trans g5;have h5D:=ga.hh _ _ hcD;refine ⟨ys,h5D,by rw [rd.length]; omega,ds.length - (i+1),by omega,rfl,hlt,F5,ys++[v],done++[yv],r,?_,nD ga,aD,(rd.mono ga.ff).append (.cons rv .nil),by rw [LQ,List.length_singleton]; omega,e4,by rw [hrs,Mw]; rfl⟩;have gt':=gc.trans ga;refine ⟨gt'.ff,fun b u z=>?_,fun b u z=>?_,gt'.new⟩
   ·have nb:b≠D:=aM z hD;rw [aE nb]; exact gt'.hh b u z
   ·have nb:b≠D:=aM z (nD ga);rw [aE nb]; exact gt'.fh b u z
 ·have ei:i=ds.length:=by omega
  subst ei;rw [Nu] at hgo;cases hgo;rw [Mn] at hrs;subst hrs;exact .inl ⟨ip2 rfl,q D ys Fc Hc (g1.trans gc) (g1.hh.free hD) fcD hcD rd⟩
theorem f6 (hc:X.calm=true) (ck:CompSc X scope N' mp) (ht:TgP X.K ks gt t) (hks:∀ k∈ks,mp[k]?=some none) (hi:I X B tg iter fi)
  (hb:∀ s H fp,PG (ci X scope N' s H fp) tg gt∧Ts (ci X scope N' s H fp) B ifs p∧E (ci X scope N' s H fp) B elt f)
  (hs:∀ x,foldedSetIterable iter X.env x=pure x:=by intro _; rfl):EO X B (.ListComp elt [⟨tg,iter,ifs,0⟩] scope pos) (bH mp fi t p f):=PE.imp (B6 hc ck hi hb hs) (zi ht hks)
theorem S.setC (i:Nat) {y:Str} {py spos:Pos} (hc:X.calm=true) (hN:X.N.Nodup) (ck:CompSc X scope N' mp) (ht:TgP X.K ks gt t) (hks:∀ k∈ks,mp[k]?=some none) (hi:I X B tg iter fi)
  (hb:∀ s H fp,PG (ci X scope N' s H fp) tg gt∧Ts (ci X scope N' s H fp) B ifs p∧E (ci X scope N' s H fp) B elt f)
  (hiy:X.N[i]?=some y:=by rfl) (hy:X.env.scope.names.lookup y=some .local:=by rfl) (hsw:swapsWith (.ListComp elt [⟨tg,iter,ifs,0⟩] scope pos) (some (.Name y py)) spos.line X.env=pure true:=by rfl)
  (hs:∀ x,foldedSetIterable iter X.env x=pure x:=by intro _; rfl):S X B (.Assign [.Name y py] (.ListComp elt [⟨tg,iter,ifs,0⟩] scope pos) spos) (ml i (bH mp fi t p f)) :=
 PS.imp (sG hc hN hiy hy ck hi hb hsw hs) fun D σ H h=>by
  have h':=CN D σ H h;exact zi ht hks σ H _ h'
end
noncomputable def b9 (n m:Nat) (g:En→Option Out) (ds:List PyData):Option PyData:=if ds.length=n then (g (ds.map Sl.val++Ma (m - n) .un)).bind fun o=>match o with
 | .rt d=>some d
 | .nx _=>some .none
 | _=>none else none
section
variable {P:Program} {w:World} {K:LN} {mg:Str→Option Value} {base:Heap}
theorem zJ {n:Nat} {ds:List PyData} {i:Nat} {a:Sl} (e:(ds.map Sl.val++Ma n .un)[i]?=some a):lb a=false:=by
 by_cases hi:i < ds.length
 ·rw [LR (by rw [LO]; exact hi),L8] at e;cases q:ds[i]? with
  | none=>rw [q] at e; cases e
  | some d'=>rw [q] at e; cases e; rfl
 ·rw [LY (by rw [LO]; omega),MP] at e;split at e <;> cases e;rfl
theorem EnR.start {F H:Hp} {N:List Str} {ds:List PyData} {vs:List V} (r:RelL K F ds vs):EnR K H F H (L2.start N vs) (ds.map Sl.val++Ma (N.length - ds.length) .un) where
 len:=by unfold L2.start; rw [LQ,LQ,LO,LO,MX,MX,r.length]
 val:=fun i d e=>by
  unfold L2.start;by_cases hi:i < ds.length
  ·rw [LR (by rw [LO]; exact hi),L8] at e;rw [LR (by rw [LO,r.length]; exact hi),L8];cases q:ds[i]? with
   | none=>rw [q] at e; cases e
   | some d' =>
    rw [q] at e
    have:d'=d:=by injection (Option.some.inj e)
    subst this;obtain ⟨x,e1,e2⟩:=r.get q;exact ⟨x,by rw [e1]; rfl,e2⟩
  ·rw [LY (by rw [LO]; omega),MP] at e;split at e <;> cases e
 cel:=fun i a e ha=>by rw [zJ e] at ha; cases ha
 obs:=fun i fs e=>by
  by_cases hi:i < ds.length
  ·rw [LR (by rw [LO]; exact hi),L8] at e;cases q:ds[i]? with
   | none=>rw [q] at e; cases e
   | some d'=>rw [q] at e; cases e
  ·rw [LY (by rw [LO]; omega),MP] at e;split at e <;> cases e
 apart:=fun i _ a _ e _ ha _ _=>by rw [zJ e] at ha; cases ha
theorem fnP {x qual:Str} {st:Stmt} {f:Addr} {fd:FuncData} {N ps:List Str} {k:Nat} {g:En→Option Out} (Fn:Fun K x qual st f fd) (Sc:aI N ps (aj st))
  (hb:∀ (cdv:Value) (A:Around) (outer:List Env) (s:Shared) (H:Hp) (E:XK) (F:Hp),Room k (A.deeper (envOfC qual (aj st) s.heap.objs.size f cdv)) →
   Ss (AM CX0 P w K mg base N qual (aj st) f cdv A outer s H E).nox ⟨F,H⟩ (pO st) g) :
  FnOk P w K mg base CX0 (k+1) f fd ps (spP K (b9 ps.length N.length g)):=by
 have len:∀ {F:Hp} {ds:List PyData} {vs:List V} {d:PyData},RelL K F ds vs→b9 ps.length N.length g ds=some d→ds.length=ps.length∧vs.length=ps.length:=fun {F ds vs d} r e=>by
  unfold b9 at e;split at e
  ·rename_i hl;exact ⟨hl,by rw [r.length]; exact hl⟩
  ·cases e
 refine Fn.ok Sc (fun vs H Q E h=>?_) (fun cdv A outer s H vs Q E hr h=>?_)
 ·obtain ⟨F,ds,d,_,r,e,_⟩:=h;exact (len r e).2
 ·obtain ⟨F,ds,d,sm,r,e,q⟩:=h;obtain ⟨l1,l2⟩:=len r e;refine ⟨_,hb cdv A outer s H E F hr,?_⟩;unfold b9 at e;rw [if_pos l1] at e;obtain ⟨o,e1,e2⟩:=bind_some e;refine ⟨F,_,o,⟨.refl sm,?_⟩,e1,?_⟩
  ·have z:=EnR.start (K:=K) (H:=H) (N:=N) r;rw [l1] at z;exact z
  ·cases o with
   | rt d' =>
    cases e2;exact fun v F' H' g rv=>q v F' H' g rv
   | nx η' =>
    cases e2;exact fun σ' F' H' sr _=>q .non F' H' sr.gr ro
   | bk η'=>cases e2
   | ct η'=>cases e2
theorem fn0 {f:Addr} {fd:FuncData} {ps:List Str} {k:Nat}:FnOk P w K mg base CX0 k f fd ps (spP K (fun _=>none)) :=
 ⟨fun vs H Q E h=>(by obtain ⟨_,_,_,_,_,e,_⟩:=h; cases e),fun A outer s H args us vs Q E _ _ _ _ h=>(by obtain ⟨_,_,_,_,_,e,_⟩:=h; cases e)⟩
end
section
variable {X:Cx}
mutual
theorem Rel.reads {pins:List (Addr×Obj)} {σ:St} {F H:Hp} {s:Shared} (I:Inv X pins σ H s) (sm:Same F H):∀ {d:PyData} {v:V} {u:Value},PyData.canLay0 d=true→Rel X.K F d v→RelV v u→∃ as,Reads s.heap u d as
 | .none,v,u,_,h,r=>by
  rw [h.non] at r; cases r;exact ⟨_,.none⟩
 | .bool b,v,u,_,h,r=>by
  rw [h.bl] at r; cases r;exact ⟨_,.bool b⟩
 | .int i,v,u,_,h,r=>by
  rw [h.int] at r; obtain ⟨t,rfl⟩:=r;exact ⟨_,.int i t⟩
 | .str x,v,u,_,h,r=>by
  rw [h.str] at r; obtain ⟨t,rfl⟩:=r;exact ⟨_,.str x t⟩
 | .tuple ds,v,u,c,h,r=>by
  unfold PyData.canLay0 at c;obtain ⟨a,xs,rfl,hq,rs⟩:=h.tup;cases r;obtain ⟨its,rv,⟨o,ho,hc,n,hd⟩,_⟩:=I.tuple (dh sm hq);obtain ⟨as,h'⟩:=RelL.reads I sm c rs rv;exact ⟨as,.tuple ho hc hd (by simpa using h')⟩
 | .list ds,v,u,c,h,r=>by
  unfold PyData.canLay0 at c;obtain ⟨a,xs,rfl,hq,rs⟩:=h.lst;cases r;obtain ⟨its,rv,p,_⟩:=I.list (sm.seq hq);obtain ⟨o,ho,hc,n,hd⟩:=p.isList;obtain ⟨as,h'⟩:=RelL.reads I sm c rs rv;exact ⟨a::as,.list ho hc hd (by simpa using h')⟩
 | .dict _,v,u,c,h,r=>by unfold PyData.canLay0 at c; cases c
theorem RelL.reads {pins:List (Addr×Obj)} {σ:St} {F H:Hp} {s:Shared} (I:Inv X pins σ H s) (sm:Same F H):∀ {ds:List PyData} {vs:List V} {us:List Value},PyData.canLayAll0 ds=true→RelL X.K F ds vs→Vals vs us→∃ as,ReadsAll s.heap us ds as
 | [],vs,us,_,h,r=>by
  rw [h.nil_of] at r; cases r;exact ⟨_,.nil⟩
 | d::ds,vs,us,c,h,r=>by
  unfold PyData.canLayAll0 at c;obtain ⟨c1,c2⟩:=MZ.mp c;obtain ⟨x,xs,rfl,h1,h2⟩:=h.cons_of;cases r with
  | cons r1 r2 =>
   obtain ⟨as,e1⟩:=Rel.reads I sm c1 h1 r1;obtain ⟨bs,e2⟩:=RelL.reads I sm c2 h2 r2;exact ⟨as++bs,.cons e1 e2⟩
end
noncomputable def Gc (K:LN) (neg:Bool):R2:=fun x y H Q=>∃ F dx dy,Same F H∧Rel K F dx x∧Rel K F dy y∧SeqAt.shaped dx=true∧SeqAt.shaped dy=true∧Q (.bl (if neg then !PyData.eqv dx dy else PyData.eqv dx dy)) H
theorem wJ (hu:X.A.units+64 < cLine):OpR X (compareOp .Eq) (Gc X.K false):=by
 intro pins s σ H x y v u Q I rx ry h;obtain ⟨F,dx,dy,sm,h1,h2,s1,s2,q⟩:=h;obtain ⟨as,ra⟩:=Rel.reads I sm (SeqAt.canLay_of_shaped s1) h1 rx;obtain ⟨bs,rb⟩:=Rel.reads I sm (SeqAt.canLay_of_shaped s2) h2 ry;exact SeqAt.compareEq_shaped ra rb s1 s2 hu ⟨.bl _,H,I,rfl,q⟩
theorem yT (hu:X.A.units+64 < cLine):OpR X (compareOp .NotEq) (Gc X.K true):=by
 intro pins s σ H x y v u Q I rx ry h;obtain ⟨F,dx,dy,sm,h1,h2,s1,s2,q⟩:=h;obtain ⟨as,ra⟩:=Rel.reads I sm (SeqAt.canLay_of_shaped s1) h1 rx;obtain ⟨bs,rb⟩:=Rel.reads I sm (SeqAt.canLay_of_shaped s2) h2 ry;exact SeqAt.compareNe_shaped ra rb s1 s2 hu ⟨.bl _,H,I,rfl,q⟩
noncomputable def pEq (x y:PyData):Option PyData:=if SeqAt.shaped x=true∧SeqAt.shaped y=true then some (.bool (PyData.eqv x y)) else none
noncomputable def pNe (x y:PyData):Option PyData:=if SeqAt.shaped x=true∧SeqAt.shaped y=true then some (.bool (!PyData.eqv x y)) else none
theorem A0 {K:LN}:Ad2 K (Gc K false) pEq:=fun F H x y dx dy d Q sm rx ry e q=>by
 unfold pEq at e;split at e
 ·rename_i hs;cases e;exact ⟨F,dx,dy,sm,rx,ry,hs.1,hs.2,q _ F H (.refl sm) dZ⟩
 ·cases e
theorem CP {K:LN}:Ad2 K (Gc K true) pNe:=fun F H x y dx dy d Q sm rx ry e q=>by
 unfold pNe at e;split at e
 ·rename_i hs;cases e;exact ⟨F,dx,dy,sm,rx,ry,hs.1,hs.2,q _ F H (.refl sm) dZ⟩
 ·cases e
noncomputable def pI (C:Int→Int→Prop) [∀ i j,Decidable (C i j)] (g:Int→Int→PyData) (x y:PyData):Option PyData:=match x,y with
 | .int i,.int j=>if C i j then some (g i j) else none
 | _,_=>none
instance:∀ i j,Decidable (CMul i j):=fun i j=>by unfold CMul; infer_instance
instance:∀ i j,Decidable (CDiv i j):=fun i j=>by unfold CDiv; infer_instance
theorem JA {K:LN} {C:Int→Int→Prop} [∀ i j,Decidable (C i j)] {g:Int→Int→PyData} {gv:Int→Int→V} (hg:∀ F i j,Rel K F (g i j) (gv i j)):Ad2 K (rI C gv) (pI C g):=fun F H x y dx dy d Q sm rx ry e q=>by
 cases dx <;> cases dy <;> simp only [pI,reduceCtorEq] at e;split at e
 ·rename_i hc;cases e;exact ⟨_,_,rx.int,ry.int,hc,q _ F H (.refl sm) (hg F _ _)⟩
 ·cases e
theorem pi {K:LN} {g:Int→Int→PyData} {gv:Int→Int→V} (hg:∀ F i j,Rel K F (g i j) (gv i j)):Ad2 K (rI0 gv) (pI (fun _ _=>True) g):=fun F H x y dx dy d Q sm rx ry e q=>by
 cases dx <;> cases dy <;> simp only [pI,reduceCtorEq,if_true] at e;cases e;exact ⟨_,_,rx.int,ry.int,q _ F H (.refl sm) (hg F _ _)⟩
noncomputable def tN:=pI (fun _ _=>True) fun i j=>.int (i - j)
noncomputable def kZ:=pI CMul fun i j=>.int (i*j)
noncomputable def qB:=pI CDiv fun i j=>.int (i / j)
noncomputable def oS:=pI (fun _ j=>0 < j) fun i j=>.int (i % j)
noncomputable def pLt:=pI (fun _ _=>True) fun i j=>.bool (decide (i < j))
noncomputable def pLe:=pI (fun _ _=>True) fun i j=>.bool (decide (i≤j))
noncomputable def pGt:=pI (fun _ _=>True) fun i j=>.bool (decide (j < i))
section
variable {B:Bd} {a b:Expr} {f g:En→Option PyData} {pos:Pos}
theorem E.sub (ha:E X B a f) (hb:E X B b g):E X B (.BinOp a .Sub b pos) (l2 tN f g):=E.op Ej (pi fun _ _ _=>dO) ha hb
theorem ri (ha:E X B a f) (hb:E X B b g):E X B (.BinOp a .Mult b pos) (l2 kZ f g):=E.op IK (JA fun _ _ _=>dO) ha hb
theorem E.fdiv (ha:E X B a f) (hb:E X B b g):E X B (.BinOp a .FloorDiv b pos) (l2 qB f g):=E.op Gv (JA fun _ _ _=>dO) ha hb
theorem E.mod (ha:E X B a f) (hb:E X B b g):E X B (.BinOp a .Mod b pos) (l2 oS f g):=E.op IL (JA fun _ _ _=>dO) ha hb
theorem E.eq {k:Nat} (hr:Room k X.A) (ha:E X B a f) (hb:E X B b g):E X B (.Compare a [.Eq] [b] pos) (l2 pEq f g):=E.cmp (wJ hr.units) A0 (nomark b) ha hb
theorem E.ne {k:Nat} (hr:Room k X.A) (ha:E X B a f) (hb:E X B b g):E X B (.Compare a [.NotEq] [b] pos) (l2 pNe f g):=E.cmp (yT hr.units) CP (nomark b) ha hb
theorem v9 {k:Nat} (hr:Room k X.A) (ha:E X B a f) (hb:E X B b g):T X B (.Compare a [.Eq] [b] pos) (bT (l2 pEq f g)):=T.cmp (wJ hr.units) A0 (nomark b) ha hb
theorem T.ne {k:Nat} (hr:Room k X.A) (ha:E X B a f) (hb:E X B b g):T X B (.Compare a [.NotEq] [b] pos) (bT (l2 pNe f g)):=T.cmp (yT hr.units) CP (nomark b) ha hb
theorem T.gt (ha:E X B a f) (hb:E X B b g):T X B (.Compare a [.Gt] [b] pos) (bT (l2 pGt f g)):=T.cmp Kj (pi fun _ _ _=>dZ) (nomark b) ha hb
end
noncomputable def DN (K:LN):R2:=fun x y H Q=>∃ l b xs zs,x=.ref l∧y=.ref b∧SqL K H l xs∧SqL K H b zs∧xs.length+zs.length≤sizeLine∧∀ p,H p=none→Q (.ref p) (upd H p (.lst (xs++zs)))
theorem op_catS:OpR X (binaryOp .Add) (DN X.K):=by
 intro pins s σ H x y v u Q I rx ry h;obtain ⟨l,b,xs,zs,rfl,rfl,hH,hB,hz,q⟩:=h;cases rx;cases ry;obtain ⟨its,r,⟨⟨c1,d1,t1,sl1⟩,n,e,ec,ed,es⟩,z⟩:=I.list hH;obtain ⟨its2,r2,⟨⟨c2,d2,t2,sl2⟩,n2,e2,ec2,ed2,es2⟩,z2⟩:=I.list hB;have hl:=r.length;have hl2:=r2.length;simp only at ec ed es ec2 ed2 es2;subst ec ed es ec2 ed2 es2;have ea:its.toArray++its2.toArray=(its++its2).toArray:=by simp
 refine concat_meets ⟨_,e,rfl⟩ ⟨_,e2,rfl⟩ PySem.noFill_list_add PySem.seq_list_add PySem.F.slot_list_add PySem.F.entry_list_add (PySem.F.args_list_add_2 _ _)
   (list_addW l b its.toArray its2.toArray n n2 none none sl1 sl2 (by rw [LZ,LZ]; omega)) ⟨e,e2,?_⟩
 rw [ea];exact ⟨.ref _,_,I.lnew (t':=s.toks) (r.append r2) (by rw [LQ]; omega),rfl,q _ I.fresh⟩
noncomputable def Bb (K:LN):R2:=fun x y H Q=>∃ a b xs ys,x=.ref a∧y=.ref b∧SqT K H a xs∧SqT K H b ys∧xs.length+ys.length≤sizeLine ∧
 (xs=[]→Q (.ref b) H)∧(xs≠[]→ys=[]→Q (.ref a) H)∧(∀ p,H p=none→Q (.ref p) (upd H p (.tup (xs++ys))))
theorem Eo:OpR X (binaryOp .Add) (Bb X.K):=by
 intro pins s σ H x y v u Q I rx ry h;obtain ⟨a,b,xs,ys,rfl,rfl,ha,hb,hz,q0,q1,q2⟩:=h;cases rx;cases ry;obtain ⟨its,r1,p1,_⟩:=I.tuple ha;obtain ⟨its2,r2,p2,_⟩:=I.tuple hb;by_cases hx:xs=[]
 ·have hi:its=[]:=r1.nil_iff.mpr hx;obtain ⟨⟨cls,dd,data,sl⟩,ho,hc,n,hd⟩:=id p1;obtain ⟨⟨cls2,dd2,data2,sl2⟩,ho2,hc2,n2,hd2⟩:=id p2;simp only at hc hd hc2 hd2;subst hc hd hc2 hd2;exact concat_meets ⟨_,ho,rfl⟩ ⟨_,ho2,rfl⟩ noFill_tuple_add seq_tuple_add PySem.F.slot_tuple_add PySem.F.entry_tuple_add (PySem.F.args_tuple_add_2 _ _)
   (tuple_addW0 a b its.toArray its2.toArray n n2 dd dd2 sl sl2 (by simp [hi])) ⟨ho,ho2,⟨.ref b,H,I,rfl,q0 hx⟩⟩
 ·refine HT.cat_tup p1 p2 (fun z=>hx (r1.nil_iff.mp z)) (fun z=>⟨.ref a,H,I,rfl,q1 hx (r2.nil_iff.mp z)⟩) (fun z=>?_) (by rw [← r1.length,← r2.length]; exact hz);refine ⟨.ref s.heap.objs.size,_,I.laid (t':=s.toks) (o:=.tup (xs++ys)) (fun b ob q=>Heap.get?_push_of_some _ q) (LS _) ?_,rfl,q2 _ (I.hok.fresh (LS _))⟩;exact ⟨by rw [LQ]; exact hz,_,r1.append r2,IsTup.new _ _⟩
noncomputable def aG (x y:PyData):Option PyData:=match x,y with
 | .int i,.int j=>some (.int (i+j))
 | .str i,.str j=>if i.length+j.length≤sizeLine then some (.str (i++j)) else none
 | .list i,.list j=>if i.length+j.length≤sizeLine then some (.list (i++j)) else none
 | .tuple i,.tuple j=>if i.length+j.length≤sizeLine then some (.tuple (i++j)) else none
 | _,_=>none
theorem Ck:OpR X (binaryOp .Add) (fun x y H Q=>(∃ i j,x=.int i∧y=.int j∧Q (.int (i+j)) H)∨(∃ i j,x=.str i∧y=.str j∧i.length+j.length≤sizeLine∧Q (.str (i++j)) H)∨DN X.K x y H Q∨Bb X.K x y H Q) :=
 op_add.or (op_add_str.or (op_catS.or Eo))
theorem Fu {K:LN}:Ad2 K (fun x y H Q=>(∃ i j,x=.int i∧y=.int j∧Q (.int (i+j)) H)∨(∃ i j,x=.str i∧y=.str j∧i.length+j.length≤sizeLine∧Q (.str (i++j)) H)∨DN K x y H Q∨Bb K x y H Q) aG:=fun F H x y dx dy d Q sm rx ry e q=>by
 unfold aG at e;split at e
 ·cases e;exact .inl ⟨_,_,rx.int,ry.int,q _ F H (.refl sm) dO⟩
 ·split at e
  ·rename_i hz;cases e;exact .inr (.inl ⟨_,_,rx.str,ry.str,hz,q _ F H (.refl sm) rj⟩)
  ·cases e
 ·split at e
  ·rename_i hz;cases e;obtain ⟨a,xs,rfl,h1,r1⟩:=rx.lst;obtain ⟨b,ys,rfl,h2,r2⟩:=ry.lst;refine .inr (.inr (.inl ⟨a,b,xs,ys,rfl,rfl,sm.seq h1,sm.seq h2,by rw [r1.length,r2.length]; exact hz,fun p hp=>?_⟩));have g:=Gr.one (o:=.lst (xs++ys)) sm hp;exact q _ _ _ g (jk (SqL.of aD) ((r1.append r2).mono g.ff))
  ·cases e
 ·rename_i i j;split at e
  ·rename_i hz;cases e;obtain ⟨a,xs,rfl,h1,r1⟩:=rx.tup;obtain ⟨b,ys,rfl,h2,r2⟩:=ry.tup;refine .inr (.inr (.inr ⟨a,b,xs,ys,rfl,rfl,dh sm h1,dh sm h2,by rw [r1.length,r2.length]; exact hz,fun z=>?_,fun z1 z2=>?_,fun p hp=>?_⟩))
   ·subst z
    have:=Nc r1.length.symm
    subst this;exact q _ F H (.refl sm) (jT h2 (by simpa using r2))
   ·subst z2
    have:=Nc r2.length.symm
    subst this;exact q _ F H (.refl sm) (jT h1 (by simpa using r1))
   ·have g:=Gr.one (o:=.tup (xs++ys)) sm hp;exact q _ _ _ g (jT (SqT.of aD) ((r1.append r2).mono g.ff))
  ·cases e
 ·cases e
section
variable {B:Bd} {a b e:Expr} {es:List Expr} {f g:En→Option PyData} {fs:En→Option (List PyData)} {pos pp:Pos}
theorem bP (ha:E X B a f) (hb:E X B b g):E X B (.BinOp a .Add b pos) (l2 aG f g):=E.op Ck Fu ha hb
noncomputable def pA:PyData→Option PyData
 | .int i=>some (.int (-i))
 | _=>none
theorem qf (ha:E X B a f):E X B (.UnaryOp .USub a pos) (l1 pA f):=PE.imp (Kd HY ha) fun σ H Q ⟨F,η,d,sr,hd,q⟩=>by
 obtain ⟨x,hx,hd⟩:=bind_some hd;cases x <;> simp only [pA,reduceCtorEq,Option.some.injEq] at hd;subst hd;exact ⟨F,η,_,sr,hx,fun v F1 H1 g1 rv=>⟨_,rv.int,q _ F1 H1 g1 dO⟩⟩
noncomputable def pIx (x y:PyData):Option PyData:=match x,y with
 | .list ds,.int i=>atI ds i
 | .tuple ds,.int i=>atI ds i
 | .str z,.int i=>if z.length≤sizeLine then (atI z.cps.toList i).bind fun c=>some (.str ⟨#[c]⟩) else none
 | _,_=>none
theorem CM {K:LN} {F:Hp} {ds:List PyData} {xs:List V} {i:Int} {d:PyData} (r:RelL K F ds xs) (e:atI ds i=some d):∃ x,atI xs i=some x∧Rel K F d x:=by
 unfold atI at e ⊢;rw [r.length];obtain ⟨j,h1,h2⟩:=bind_some e;rw [h1];obtain ⟨x,h3,h4⟩:=r.get h2;exact ⟨x,h3,h4⟩
theorem HS {K:LN}:Ad2 K (rIx K) pIx:=fun F H x y dx dy d Q sm rx ry e q=>by
 unfold pIx at e;split at e
 ·obtain ⟨a,xs,rfl,h1,r1⟩:=rx.lst;obtain ⟨v,h2,h3⟩:=CM r1 e;exact .inl ⟨a,xs,_,v,rfl,ry.int,sm.seq h1,h2,q _ F H (.refl sm) h3⟩
 ·obtain ⟨a,xs,rfl,h1,r1⟩:=rx.tup;obtain ⟨v,h2,h3⟩:=CM r1 e;exact .inr (.inl ⟨a,xs,_,v,rfl,ry.int,dh sm h1,h2,q _ F H (.refl sm) h3⟩)
 ·split at e
  ·rename_i hz;obtain ⟨c,h1,h2⟩:=bind_some e;cases h2;exact .inr (.inr ⟨_,_,c,rx.str,ry.int,hz,h1,q _ F H (.refl sm) rj⟩)
  ·cases e
 ·cases e
theorem cM (ha:E X B a f) (hb:E X B b g) (hs:rB b:=by intro _ _; rfl):E X B (.Subscript a b pos) (l2 pIx f g):=E.ix EM HS ha hb hs
noncomputable def lY:PyData→Bool
 | .none=>true
 | .bool _=>true
 | .int _=>true
 | .str _=>true
 | _=>false
theorem zf {K:LN} {F:Hp} {d:PyData} {v:V} (h:lY d=true) (r:Rel K F d v):sw v=true:=by
 cases d <;> simp [lY] at h
 ·rw [r.non]; rfl
 ·rw [r.bl]; rfl
 ·rw [r.int]; rfl
 ·rw [r.str]; rfl
theorem xj {K:LN} {F:Hp}:∀ {ds:List PyData} {vs:List V},ds.all lY=true→RelL K F ds vs→vs.all sw=true
 | [],vs,_,r=>by rw [r.nil_of]; rfl
 | d::ds,vs,h,r=>by
  obtain ⟨x,xs,rfl,r1,r2⟩:=r.cons_of;rw [MY,Ms] at h ⊢;exact ⟨zf h.1 r1,xj h.2 r2⟩
theorem Ji {K:LN} {F:Hp} {d e:PyData} {x y:V} (hd:lY d=true) (he:lY e=true) (r:Rel K F d x) (s:Rel K F e y):eqV x y=PyData.eqv d e:=by
 cases d <;> simp [lY] at hd <;> cases e <;> simp [lY] at he
 all_goals (first | rw [r.non] | rw [r.bl] | rw [r.int] | rw [r.str]) <;> (first | rw [s.non] | rw [s.bl] | rw [s.int] | rw [s.str])
 all_goals first | rfl | simp [eqV,PyData.eqv]
theorem Bt {K:LN} {F:Hp} {d:PyData} {x:V} (hd:lY d=true) (r:Rel K F d x):∀ {ds:List PyData} {vs:List V},ds.all lY=true→RelL K F ds vs→inV x vs=ds.any fun y=>PyData.eqv y d
 | [],vs,_,rs=>by rw [rs.nil_of]; rfl
 | e::ds,vs,h,rs=>by
  obtain ⟨y,xs,rfl,r1,r2⟩:=rs.cons_of;rw [MY,Ms] at h;have ih:=Bt hd r h.2 r2;unfold inV at ih ⊢;rw [Mt,Mt,ih,Ji h.1 hd r1 r]
noncomputable def pIn (neg:Bool) (x y:PyData):Option PyData:=match y with
 | .list ds=>if lY x=true∧ds.all lY=true then some (.bool (if neg then !(ds.any fun y=>PyData.eqv y x) else ds.any fun y=>PyData.eqv y x)) else none
 | .tuple ds=>if lY x=true∧ds.all lY=true then some (.bool (if neg then !(ds.any fun y=>PyData.eqv y x) else ds.any fun y=>PyData.eqv y x)) else none
 | .str j=>match x with
  | .str i=>some (.bool (if neg then !(!(Builtin.Str.occurrences j i 0 j.length 1).isEmpty) else !(Builtin.Str.occurrences j i 0 j.length 1).isEmpty))
  | _=>none
 | _=>none
noncomputable def Ix (K:LN) (neg:Bool):R2:=fun x y H Q=>rIn K neg x y H Q∨(∃ i j,x=.str i∧y=.str j∧Q (.bl (if neg then !(!(Builtin.Str.occurrences j i 0 j.length 1).isEmpty) else !(Builtin.Str.occurrences j i 0 j.length 1).isEmpty)) H)
theorem Em:OpR X (compareOp .In) (Ix X.K false):=op_in_seq.or C6
theorem yi:OpR X (compareOp .NotIn) (Ix X.K true):=op_notIn_seq.or yS
theorem CQ {K:LN} {neg:Bool}:Ad2 K (Ix K neg) (pIn neg):=fun F H x y dx dy d Q sm rx ry e q=>by
 unfold pIn at e;split at e
 ·split at e
  ·rename_i hf;cases e;obtain ⟨b,ys,rfl,h2,r2⟩:=ry.lst;refine .inl ⟨b,ys,rfl,.inl (sm.seq h2),zf hf.1 rx,xj hf.2 r2,?_⟩;rw [Bt hf.1 rx hf.2 r2];exact q _ F H (.refl sm) dZ
  ·cases e
 ·split at e
  ·rename_i hf;cases e;obtain ⟨b,ys,rfl,h2,r2⟩:=ry.tup;refine .inl ⟨b,ys,rfl,.inr (dh sm h2),zf hf.1 rx,xj hf.2 r2,?_⟩;rw [Bt hf.1 rx hf.2 r2];exact q _ F H (.refl sm) dZ
  ·cases e
 ·split at e
  ·cases e;exact .inr ⟨_,_,rx.str,ry.str,q _ F H (.refl sm) dZ⟩
  ·cases e
 ·cases e
theorem T.in (ha:E X B a f) (hb:E X B b g) (hm:behindInMarks .In b=false:=by with_unfolding_all rfl):T X B (.Compare a [.In] [b] pos) (bT (l2 (pIn false) f g)):=T.cmp Em CQ hm ha hb
theorem T.notIn (ha:E X B a f) (hb:E X B b g) (hm:behindInMarks .NotIn b=false:=by with_unfolding_all rfl):T X B (.Compare a [.NotIn] [b] pos) (bT (l2 (pIn true) f g)):=T.cmp yi CQ hm ha hb
theorem E.in (ha:E X B a f) (hb:E X B b g) (hm:behindInMarks .In b=false:=by with_unfolding_all rfl):E X B (.Compare a [.In] [b] pos) (l2 (pIn false) f g):=E.cmp Em CQ hm ha hb
noncomputable def AdA (K:LN) (r:List V→Hp→VK→Prop) (o:List PyData→Option PyData):Prop :=
 ∀ F H xs ds d Q,Same F H→RelL K F ds xs→o ds=some d→(∀ v F' H',Gr F H F' H'→Rel K F' d v→Q v H')→r xs H Q
theorem DC {K:LN} {r:List V→Hp→VK→Prop} {o:List PyData→Option PyData} (ad:AdA K r o):∀ σ H Q,tE K B (lA o fs) σ H Q→tCB r (tA K B fs) σ H Q:=fun σ H Q ⟨F,η,d,sr,hd,q⟩=>by
 obtain ⟨ds,hx,hd⟩:=bind_some hd;exact ⟨F,η,ds,sr,hx,fun vs F1 H1 g1 rs=>ad F1 H1 vs ds d Q g1.fh rs hd fun v F2 H2 g2 rv=>q v F2 H2 (g1.trans g2) rv⟩
theorem E.callB {x:Str} {id:String} {r:List V→Hp→VK→Prop} {o:List PyData→Option PyData} (hc:CallR X (.builtin id) r) (ad:AdA X.K r o) (hm:X.mg x=none) (hv:bootBuiltins x=some (.builtin id)) (ha:A X B (e::es) fs) (hg:Gl X x:=by rfl) (hn:x ≠ "__name__" := by decide) (hdb:(x==("__debug__" : Str))=false:=by decide)
  (he:starEach (e::es) X.env=(false,eval e X.env)::starEach es X.env:=by exact bW rfl) (hpl:(backTo pos (starEach es X.env)).any (·.1)=false:=by exact iW rfl):E X B (.Call (.Name x pp) (e::es) [] pos) (lA o fs) :=
 PE.imp (Ab hc hg hm hv ha hn hdb he hpl) (DC ad)
theorem E.callTy {x:Str} {id:String} {r:List V→Hp→VK→Prop} {o:List PyData→Option PyData} (hc:CallR X (.type id) r) (ad:AdA X.K r o) (hm:X.mg x=none) (hv:bootBuiltins x=some (.type id)) (ha:A X B (e::es) fs) (hg:Gl X x:=by rfl) (hn:x ≠ "__name__" := by decide) (hdb:(x==("__debug__" : Str))=false:=by decide)
  (he:starEach (e::es) X.env=(false,eval e X.env)::starEach es X.env:=by exact bW rfl) (hpl:(backTo pos (starEach es X.env)).any (·.1)=false:=by exact iW rfl):E X B (.Call (.Name x pp) (e::es) [] pos) (lA o fs) :=
 PE.imp (uM hc hg hm hv ha hn hdb he hpl) (DC ad)
noncomputable def rE (ds:List PyData):Option PyData:=match ds with
 | [.list xs]=>some (.int xs.length)
 | [.tuple xs]=>some (.int xs.length)
 | [.str z]=>if z.length≤sizeLine then some (.int z.length) else none
 | _=>none
theorem Jz {K:LN}:AdA K (fun xs H Q=>(∃ p ys,xs=[.ref p]∧(SqL K H p ys∨SqT K H p ys)∧Q (.int ys.length) H)∨(∃ z,xs=[.str z]∧z.length≤sizeLine∧Q (.int z.length) H)) rE:=fun F H xs ds d Q sm rs e q=>by
 unfold rE at e;split at e
 ·cases e;obtain ⟨x,r,rfl,rx,rr⟩:=rs.cons_of;obtain rfl:=rr.nil_of;obtain ⟨a,ys,rfl,h1,r1⟩:=rx.lst;exact .inl ⟨a,ys,rfl,.inl (sm.seq h1),by rw [r1.length]; exact q _ F H (.refl sm) dO⟩
 ·cases e;obtain ⟨x,r,rfl,rx,rr⟩:=rs.cons_of;obtain rfl:=rr.nil_of;obtain ⟨a,ys,rfl,h1,r1⟩:=rx.tup;exact .inl ⟨a,ys,rfl,.inr (dh sm h1),by rw [r1.length]; exact q _ F H (.refl sm) dO⟩
 ·split at e
  ·rename_i hz;cases e;obtain ⟨x,r,rfl,rx,rr⟩:=rs.cons_of;obtain rfl:=rr.nil_of;exact .inr ⟨_,by rw [rx.str],hz,q _ F H (.refl sm) dO⟩
  ·cases e
 ·cases e
theorem E.len (hm:X.mg "len" = none) (ha:A X B [e] fs) (hg:Gl X "len" := by rfl) (he:starEach [e] X.env=(false,eval e X.env)::starEach [] X.env:=by exact bW rfl) (hpl:(backTo pos (starEach [] X.env)).any (·.1)=false:=by rfl):E X B (.Call (.Name "len" pp) [e] [] pos) (lA rE fs) :=
 E.callB (call_len_seq.or zn) Jz hm PySem.boot_len ha hg (by decide) (by decide) he hpl
noncomputable def Ae (ds:List PyData):Option PyData:=match ds with
 | [.list xs]=>some (.tuple xs)
 | [.tuple xs]=>some (.tuple xs)
 | _=>none
theorem Jx {K:LN}:AdA K (fun xs H Q=>∃ p ys,xs=[.ref p]∧((SqL K H p ys∧∀ l,H l=none→Q (.ref l) (upd H l (.tup ys)))∨(SqT K H p ys∧Q (.ref p) H))) Ae:=fun F H xs ds d Q sm rs e q=>by
 unfold Ae at e;split at e
 ·cases e;obtain ⟨x,r,rfl,rx,rr⟩:=rs.cons_of;obtain rfl:=rr.nil_of;obtain ⟨a,ys,rfl,h1,r1⟩:=rx.lst;refine ⟨a,ys,rfl,.inl ⟨sm.seq h1,fun p hp=>?_⟩⟩;have g:=Gr.one (o:=.tup ys) sm hp;exact q _ _ _ g (jT (SqT.of aD) (r1.mono g.ff))
 ·cases e;obtain ⟨x,r,rfl,rx,rr⟩:=rs.cons_of;obtain rfl:=rr.nil_of;obtain ⟨a,ys,rfl,h1,r1⟩:=rx.tup;exact ⟨a,ys,rfl,.inr ⟨dh sm h1,q _ F H (.refl sm) (jT h1 r1)⟩⟩
 ·cases e
theorem E.tuple (hm:X.mg "tuple" = none) (ha:A X B [e] fs) (hg:Gl X "tuple" := by rfl) (he:starEach [e] X.env=(false,eval e X.env)::starEach [] X.env:=by exact bW rfl) (hpl:(backTo pos (starEach [] X.env)).any (·.1)=false:=by rfl):E X B (.Call (.Name "tuple" pp) [e] [] pos) (lA Ae fs) :=
 E.callTy xU Jx hm (by decide +kernel) ha hg (by decide) (by decide) he hpl
end
end
noncomputable def rN {α:Type} (xs:List α) (lo hi:Option Int):List α:=(xs.drop (HT.sIx xs.length 0 lo)).take (HT.sIx xs.length xs.length hi - HT.sIx xs.length 0 lo)
section
variable {X:Cx}
theorem RelL.cut {K:LN} {F:Hp} {ds:List PyData} {xs:List V} (r:RelL K F ds xs) (lo hi:Option Int):RelL K F (rN ds lo hi) (v6 xs lo hi):=by
 unfold rN v6;rw [r.length];exact (r.drop _).take _
theorem FW:SlR X (fun x lo hi H Q=>∃ a xs,x=.ref a∧SqT X.K H a xs∧(HT.sIx xs.length 0 lo=0∧HT.sIx xs.length xs.length hi=xs.length)∧Q (.ref a) H):=by
 intro pins s σ H x v vl vu lo hi sl Q I rx hs pl pu h;obtain ⟨a,xs,rfl,hx,hw,q⟩:=h;cases rx;obtain ⟨its,r,ht,hz⟩:=I.tuple hx;have hlen:its.toArray.size=xs.length:=by rw [LZ]; exact r.length.symm
 refine ⟨"tuple", _,PyProof.Rows.slot_tuple_getitem.lookup,ht.typeIs,?_⟩;obtain ⟨os,hos,hcs,hds⟩:=id hs;have hTs:s.TypeIs (.ref sl) "slice" := ⟨os,hos,hcs⟩;unfold getItem
 try with_reducible refine wpAny_holding ?_
 first | refine wpAny_bind (wpAny_pure ?_) | skip
 refine wpAny_bind (wpAny_sequenceKey ht.typeIs (by decide) ?_);refine wpAny_bind (wpAny_callSpecial?_slot (name:=Str.ofString "__getitem__") ht.typeIs PyProof.Rows.slot_tuple_getitem
  (wpAny_call_entry PyProof.Rows.slot_tuple_getitem ht.typeIs entry_tuple_getitem ?_ (args_tuple_getitem _ _)))
 show wpAny _ _ (Builtin.Tuple.tupleItemsOf (.ref a) >>= _) _ _ s;refine wpAny_bind (tupleItemsOf_ ht ?_);refine wpAny_bind (wpAny_typeOf hTs ?_);rw [if_pos (by decide)];refine wpAny_bind (HT.sliceApplied_gen hs pl pu ?_);rw [hlen];have hyes:((((HT.sIx xs.length 0 lo:Nat):Int)==0&&(1:Int)==1&&(HT.sIx xs.length xs.length hi - HT.sIx xs.length 0 lo)==xs.length)=true):=by
  rw [hw.1,hw.2]; simp
 show wpAny _ _ (if (((HT.sIx xs.length 0 lo:Nat):Int)==0&&(1:Int)==1&&(HT.sIx xs.length xs.length hi - HT.sIx xs.length 0 lo)==xs.length)=true then _ else _) _ _ s;rw [if_pos hyes];have fin:EP X pins σ Q (.ref a) s:=⟨.ref a,H,I,rfl,q⟩;refine wpAny_bind ?_;unfold Builtin.Tuple.tupleIsExact;refine wpAny_bind (wpAny_typeOf ht.typeIs (wpAny_pure ?_));rw [if_pos (by decide)];exact wpAny_bind (wpAny_rule (wpAny_pure ⟨_,rfl,wpAny_pure fin⟩))
noncomputable def pSl (x:PyData) (lo hi:Option Int):Option PyData:=match x with
 | .list ds=>some (.list (rN ds lo hi))
 | .tuple ds=>some (.tuple (rN ds lo hi))
 | _=>none
noncomputable def J8 (K:LN):V→Option Int→Option Int→Hp→VK→Prop:=fun x lo hi H Q=>J7 K x lo hi H Q∨J6 K x lo hi H Q∨(∃ a xs,x=.ref a∧SqT K H a xs∧(HT.sIx xs.length 0 lo=0∧HT.sIx xs.length xs.length hi=xs.length)∧Q (.ref a) H)
theorem JZ:SlR X (J8 X.K):=sl_list.or (sl_tup.or FW)
theorem HR {K:LN} {F H:Hp} {x:V} {dx d:PyData} {lo hi:Option Int} {Q:VK} (sm:Same F H) (rx:Rel K F dx x) (e:pSl dx lo hi=some d) (q:∀ v F' H',Gr F H F' H'→Rel K F' d v→Q v H'):J8 K x lo hi H Q:=by
 unfold pSl at e;split at e
 ·cases e;obtain ⟨a,xs,rfl,h1,r1⟩:=rx.lst;refine .inl ⟨a,xs,rfl,sm.seq h1,fun p hp=>?_⟩;have g:=Gr.one (o:=.lst (v6 xs lo hi)) sm hp;exact q _ _ _ g (jk (SqL.of aD) ((r1.cut lo hi).mono g.ff))
 ·cases e;obtain ⟨a,xs,rfl,h1,r1⟩:=rx.tup;by_cases hw:HT.sIx xs.length 0 lo=0∧HT.sIx xs.length xs.length hi=xs.length
  ·refine .inr (.inr ⟨a,xs,rfl,dh sm h1,hw,q _ F H (.refl sm) (jT h1 ?_)⟩)
   have:=r1.cut lo hi
   have e2:v6 xs lo hi=xs:=by
    unfold v6;rw [hw.1,hw.2]
    simp
   rw [e2] at this;exact this
  ·refine .inr (.inl ⟨a,xs,rfl,dh sm h1,hw,fun p hp=>?_⟩);have g:=Gr.one (o:=.tup (v6 xs lo hi)) sm hp;exact q _ _ _ g (jT (SqT.of aD) ((r1.cut lo hi).mono g.ff))
 ·cases e
section
variable {B:Bd} {a b e:Expr} {es:List Expr} {f g:En→Option PyData} {fs:En→Option (List PyData)} {pos pp p2:Pos} {lo hi:Option Expr} {fl fh:En→Option (Option Int)}
noncomputable def tP (K:LN) (B:Bd) (f:En→Option (Option Int)):TO:=fun σ H Q=>∃ F η o,SR K B F H σ η∧f η=some o∧∀ F' H',Gr F H F' H'→Q o H'
noncomputable def P (X:Cx) (B:Bd) (e:Option Expr) (f:En→Option (Option Int)):Prop:=PO X e (tP X.K B f)
noncomputable def pN:En→Option (Option Int):=fun _=>some none
noncomputable def asI:PyData→Option Int
 | .int i=>some i
 | _=>none
theorem uA {d:PyData} {i:Int} (h:asI d=some i):d=.int i:=by
 cases d <;> simp [asI] at h;rw [h]
noncomputable def pS (f:En→Option PyData):En→Option (Option Int):=fun η=>(f η).bind fun d=>(asI d).bind fun i=>some (some i)
theorem PO.imp {X:Cx} {e:Option Expr} {t t':TO} (h:PO X e t) (i:∀ σ H Q,t' σ H Q→t σ H Q):PO X e t':=fun pins s σ H Q I q=>h pins s σ H Q I (i σ H Q q)
theorem P.none:P X B none pN:=PO.imp Gi fun σ H Q ⟨F,η,d,sr,hd,q⟩=>by
 cases hd;exact q F H (.refl sr.same)
theorem kh (h:E X B e f):P X B (some e) (pS f):=PO.imp (Gh h) fun σ H Q ⟨F,η,d,sr,hd,q⟩=>by
 obtain ⟨x,hx,hd⟩:=bind_some hd;obtain ⟨i,hi,hd⟩:=bind_some hd;cases hd;obtain rfl:=uA hi;exact ⟨F,η,_,sr,hx,fun v F1 H1 g1 rv=>⟨i,rv.int,q F1 H1 g1⟩⟩
noncomputable def eSl (f:En→Option PyData) (fl fh:En→Option (Option Int)):En→Option PyData:=fun η=>(f η).bind fun x=>(fl η).bind fun l=>(fh η).bind fun h=>pSl x l h
theorem E.sl (he:E X B e f) (hl:P X B lo fl) (hu:P X B hi fh):E X B (.Subscript e (.Slice lo hi none p2) pos) (eSl f fl fh):=PE.imp (z4 JZ he hl hu) fun σ H Q ⟨F,η,d,sr,hd,q⟩=>by
 obtain ⟨x,hx,hd⟩:=bind_some hd;obtain ⟨l,hl,hd⟩:=bind_some hd;obtain ⟨h,hh,hd⟩:=bind_some hd;refine ⟨F,η,x,sr,hx,fun v F1 H1 g1 rv=>⟨F1,η,l,sr.grow g1,hl,fun F2 H2 g2=>⟨F2,η,h,(sr.grow g1).grow g2,hh,fun F3 H3 g3=>?_⟩⟩⟩;exact HR g3.fh (rv.mono (g2.ff.trans g3.ff)) hd fun w F4 H4 g4 rw'=>q w F4 H4 (((g1.trans g2).trans g3).trans g4) rw'
noncomputable def J5 (K:LN):List V→Hp→VK→Prop:=fun xs H Q=>∃ (p:Addr) (ns:List Int),xs=[.ref p]∧SqL K H p (ns.map V.int)∧Q (.int ns.sum) H
theorem wE:∀ (ns:List Int) (n:Nat),n≤ns.length→preSum (fun i=>ns.getD i 0) n=(ns.take n).sum
 | ns,0,_=>by simp [preSum]
 | ns,n+1,h=>by
  have hn:n < ns.length:=by omega
  rw [preSum,wE ns n (by omega),List.take_succ_eq_append_getElem hn,List.sum_append];show _+ns.getD n 0=_;rw [Mc,Me hn]
  simp
theorem Fg (hc:X.calm=true):CallR X (.builtin "sum") (J5 X.K):=by
 intro pins s σ H xs us Q I r h;obtain ⟨p,ns,rfl,hq,q⟩:=h;obtain ⟨u,rfl,rx⟩:=pQ r;cases rx;obtain ⟨its,rv,pl,hz⟩:=I.list hq;have iv:IntsAre its ns:=Br rv;have hlt:p < s.heap.objs.size:=by
  obtain ⟨o,ho,_⟩:=pl.isList;exact Heap.lt_size ho
 refine call_sum_walkG (wpAny_pyIter_list pl.isList ?_);refine ⟨s.heap.objs.size,_,_,_,_,_,fun i=>ns.getD i 0,rfl,Walks.list (A:=X.A.in1) (I.ok.hd hc) s.heap.objs.size p (Mg hlt) its.toArray,⟨⟨_,Heap.get?_push_size _ rfl,rfl,rfl⟩,pl.isList.at fun o e=>Heap.get?_push_of_some _ e⟩,?_,?_,fun h' tk t' hk=>?_⟩
 ·intro b hb;show b < (s.heap.push _).objs.size;rw [Heap.size_push];rcases Mb.mp hb with e | hb
  ·rw [e]; exact MW _
  ·rw [Mi.mp hb]; exact Nat.lt_succ_of_lt hlt
 ·intro i v hv;have hv':its[i]?=some v:=by simpa using hv
  obtain ⟨hi,e⟩:=LT.mp hv';have hl:=rv.length;rw [LO] at hl;have hn:ns[i]?=some ns[i]:=Me (by omega);obtain ⟨u,hu,ru⟩:=rv.get (i:=i) (x:=.int ns[i]) (by rw [L8,hn]; rfl);rw [hv'] at hu;cases hu;obtain ⟨t,rfl⟩:=ru;exact ⟨t,by show Value.int ns[i] t=Value.int (ns.getD i 0) t; rw [Mc,hn]; rfl⟩
 ·have hl:=rv.length;rw [LO] at hl;have e:preSum (fun i=>ns.getD i 0) its.toArray.size=ns.sum:=by
   rw [LZ,wE ns _ (by omega),Nw (by omega)]
  rw [e];refine ⟨.int ns.sum,H,I.kept (t':=tk) fun b o eb=>hk b o ?_ (Heap.get?_push_of_some _ eb),⟨t',rfl⟩,q⟩;intro hb;exact absurd (Heap.lt_size eb) (by rw [Mi.mp hb]; exact MQ _)
noncomputable def Fl:List PyData→Option (List Int)
 | []=>some []
 | .int i::r=>(Fl r).bind fun ns=>some (i::ns)
 | _::_=>none
theorem yz:∀ {ds:List PyData} {ns:List Int},Fl ds=some ns→ds=ns.map PyData.int
 | [],ns,h=>by cases h; rfl
 | .int i::r,ns,h=>by
  obtain ⟨ms,h1,h2⟩:=bind_some h;cases h2;rw [yz h1]; rfl
 | .none::_,_,h=>by cases h
 | .bool _::_,_,h=>by cases h
 | .str _::_,_,h=>by cases h
 | .list _::_,_,h=>by cases h
 | .tuple _::_,_,h=>by cases h
 | .dict _::_,_,h=>by cases h
theorem Ds (ns:List Int):Fl (ns.map PyData.int)=some ns:=by
 induction ns with
 | nil=>rfl
 | cons n r ih=>rw [LW]; unfold Fl; rw [ih]; rfl
theorem RelL.ints_of {K:LN} {F:Hp}:∀ {ns:List Int} {xs:List V},RelL K F (ns.map PyData.int) xs→xs=ns.map V.int
 | [],xs,h=>h.nil_of
 | n::r,xs,h=>by
  obtain ⟨x,ys,rfl,h1,h2⟩:=h.cons_of;rw [h1.int,RelL.ints_of h2]; rfl
noncomputable def yO (ds:List PyData):Option PyData:=match ds with
 | [.list xs]=>(Fl xs).bind fun ns=>some (.int ns.sum)
 | _=>none
theorem Jy {K:LN}:AdA K (J5 K) yO:=fun F H xs ds d Q sm rs e q=>by
 unfold yO at e;split at e
 ·obtain ⟨ns,h1,h2⟩:=bind_some e;cases h2
  have:=yz h1
  subst this;obtain ⟨x,r,rfl,rx,rr⟩:=rs.cons_of;obtain rfl:=rr.nil_of;obtain ⟨a,ys,rfl,hq,r1⟩:=rx.lst
  have:=r1.ints_of
  subst this;exact ⟨a,ns,rfl,sm.seq hq,q _ F H (.refl sm) dO⟩
 ·cases e
theorem E.sum (hc:X.calm=true) (hm:X.mg "sum" = none) (ha:A X B [e] fs) (hg:Gl X "sum" := by rfl) (he:starEach [e] X.env=(false,eval e X.env)::starEach [] X.env:=by exact bW rfl) (hpl:(backTo pos (starEach [] X.env)).any (·.1)=false:=by rfl):E X B (.Call (.Name "sum" pp) [e] [] pos) (lA yO fs) :=
 E.callB (Fg hc) Jy hm (by decide +kernel) ha hg (by decide) (by decide) he hpl
theorem y3 (l b:Addr) (items items2:Array Value) (n n2:Nat) (dd2:Option Addr) (sl2:Array (Option Value)) (hc0:¬(!items.isEmpty&&Builtin.List.listTooLong (items.size+items2.size))=true) (hc1:items.size≤sizeLine) (hs2:items.size+items2.size≤sizeLine+1) :
  Meets (Builtin.«list.extend» ⟨[.ref l,.ref b],[]⟩) (fun _ R s=>s.heap.get? l=some { cls:=.type "list", dict:=none,data:=.seq items n,slots:=#[] }∧s.heap.get? b=some { cls:=.type "list", dict:=dd2,data:=.seq items2 n2,slots:=sl2 }∧R (.ok (.ret Value.none)) { s with heap:=s.heap.update l (Obj.mapSeq fun x=>x++items2),toks:=s.toks }) :=
 .of_wp fun prog w A R s h=>by
  obtain ⟨hp,g,d,tk,os⟩:=s; obtain ⟨hl,hb,h⟩:=h; have f1:=AutoSeq1.idx_int; have f2:=AutoSeq1.sub_tuple_tuple; have f3:=AutoSeq1.sub_list_list; have f4:=AutoSeq1.sub_tuple_list; have f5:=AutoSeq1.sub_list_tuple;have hz':(items++items2).size≤sizeLine+1:=by rw [Array.size_append]; exact hs2
  wp_walk using (wpAny_updateSeq hl rfl (hz:=hc1) (_hz':=hz')),AutoSeq1.wpAny_loadPart' hl,AutoSeq1.wpAny_loadPart' hb; exact ⟨_,rfl,h⟩
noncomputable def Kc (K:LN):V→List V→Hp→VK→Prop:=fun x vs H Q=>∃ l b xs zs,x=.ref l∧vs=[.ref b]∧H l=some (.lst xs)∧SqL K H b zs∧xs.length+zs.length≤sizeLine∧Q .non (upd H l (.lst (xs++zs)))
theorem Co:MtM X "list.extend" (Kc X.K):=by
 intro pins s σ H x vs v us Q I rx rv h;obtain ⟨l,b,xs,zs,rfl,rfl,hH,hB,hz,q⟩:=h;cases rx;obtain ⟨u,rfl,ru⟩:=rv.one;cases ru;obtain ⟨z,its,n,r,hl,e⟩:=I.lstM hH;obtain ⟨its2,r2,⟨⟨c2,d2,t2,sl2⟩,n2,e2,ec2,ed2,es2⟩,z2⟩:=I.list hB;simp only at ec2 ed2 es2;subst ec2 ed2 es2;have hl2:=r2.length;have hsz:its.toArray.size+its2.toArray.size≤sizeLine:=by rw [LZ,LZ]; omega
 have hlong:¬ (!its.toArray.isEmpty&&Builtin.List.listTooLong (its.toArray.size+its2.toArray.size))=true:=by
  rw [Ag hsz,Bool.and_false];exact LU
 refine call_meets F.slot_list_extend ⟨_,e,rfl⟩ F.entry_list_extend (F.args_list_extend_2 _ _)
  (y3 l b its.toArray its2.toArray n n2 none sl2 hlong (by rw [LZ]; omega) (by omega)) ⟨e,e2,?_⟩
 refine ⟨.non,_,I.lset (its':=its++its2) hH e (by simp) (r.append r2) ?_,rfl,q⟩;rw [LQ];omega
variable {apos cpos:Pos}
theorem S.ext (i:Nat) {x:Str} {npos:Pos} (he:E X B e f) (hN:X.N[i]?=some x:=by rfl) (hv:Vis X.env.scope x:=by first | exact Or.inl rfl | exact Or.inr (Or.inl rfl) | exact Or.inr (Or.inr rfl)) (hd:(x==("__debug__" : Str))=false:=by decide) (hcd:(x==("__classdict__" : Str))=false:=by decide)
  (hbase:attributeBase (.Name x npos) "extend" X.env (eval (.Name x npos) X.env)=eval (.Name x npos) X.env:=by rfl)
  (hfew:((backTo cpos (starEach [e] X.env)).all (fun x=>!x.1)&&(backToKw cpos (keywordEach [] X.env)).all (fun x=>x.1.isSome)
   && decide ([e].length+([]:List Keyword).length+(if ([]:List Keyword).isEmpty then 0 else 1) < 30))=true:=by rfl)
  (hline:(apos.endLine==cpos.line)=true:=by rfl) (hs:starEach [e] X.env=(false,eval e X.env)::starEach [] X.env:=by exact bW rfl) (hplain:(backTo cpos (starEach [] X.env)).any (·.1)=false:=by rfl)
  (hsw:swapsWith (.Call (.Attribute (.Name x npos) "extend" apos) [e] [] cpos) none pos.line X.env=pure false:=by rfl) :
  S X B (.Expr (.Call (.Attribute (.Name x npos) "extend" apos) [e] [] cpos) pos) (wC i (lI asL f)) :=
 PS.imp (yN (B9 PySem.F.plainAttrs_list PySem.F.slot_list_extend PySem.F.type_list_extend Co (uL hN hv hd hcd) (ab he am hs) hbase hfew hline hs hplain) hsw) fun D σ H ⟨F,η,o,sr,hd,q⟩=>by
  obtain ⟨es,h1,hd⟩:=bind_some hd;split at hd
  ·rename_i ds ed;split at hd
   ·rename_i hz;cases hd;obtain ⟨dl,h2,h3⟩:=bind_some h1;cases dl <;> simp only [asL,Option.some.injEq,reduceCtorEq] at h3;subst h3;obtain ⟨p,xs,e1,e2,e3,e4,e5⟩:=sr.en.own i ds ed;refine ⟨_,e1,.inl ⟨rfl,xs,SqL.of e4⟩,F,η,_,sr,(by show (f η).bind _=_; rw [h2]; rfl),fun vs F1 H1 g1 rs=>?_⟩;obtain ⟨y,r,rfl,ry,rr⟩:=rs.cons_of;obtain rfl:=rr.nil_of;obtain ⟨b,zs,rfl,hq,r1⟩:=ry.lst;have sr1:=sr.grow g1;obtain ⟨p',xs',q1,q2,q3,q4,q5⟩:=sr1.en.own i ds ed;rw [e1] at q1;have ep:p=p':=by injection (Option.some.inj (Option.some.inj q1))
    subst ep;refine ⟨p,b,xs',zs,rfl,rfl,q4,g1.fh.seq hq,by rw [q5.length,r1.length]; exact hz,?_⟩;refine q σ F1 _ ⟨⟨sr1.gr.ff,fun c u z=>?_,fun c u z=>?_,sr1.gr.new⟩,sr1.en.putOwn ed e1 (q5.append r1)⟩ g1.ff
    ·have nb:c≠p:=aM z q3;rw [aE nb]; exact sr1.gr.hh c u z
    ·have nb:c≠p:=aM z q2;rw [aE nb]; exact sr1.gr.fh c u z
   ·cases hd
  ·cases hd
theorem S.app (i:Nat) {x:Str} {npos:Pos} (he:E X B e f) (hN:X.N[i]?=some x:=by rfl) (hv:Vis X.env.scope x:=by first | exact Or.inl rfl | exact Or.inr (Or.inl rfl) | exact Or.inr (Or.inr rfl)) (hd:(x==("__debug__" : Str))=false:=by decide) (hcd:(x==("__classdict__" : Str))=false:=by decide)
  (hbase:attributeBase (.Name x npos) "append" X.env (eval (.Name x npos) X.env)=eval (.Name x npos) X.env:=by rfl)
  (hfew:((backTo cpos (starEach [e] X.env)).all (fun x=>!x.1)&&(backToKw cpos (keywordEach [] X.env)).all (fun x=>x.1.isSome)
   && decide ([e].length+([]:List Keyword).length+(if ([]:List Keyword).isEmpty then 0 else 1) < 30))=true:=by rfl)
  (hline:(apos.endLine==cpos.line)=true:=by rfl) (hs:starEach [e] X.env=(false,eval e X.env)::starEach [] X.env:=by exact bW rfl) (hplain:(backTo cpos (starEach [] X.env)).any (·.1)=false:=by rfl)
  (hsw:swapsWith (.Call (.Attribute (.Name x npos) "append" apos) [e] [] cpos) none pos.line X.env=pure false:=by rfl) :
  S X B (.Expr (.Call (.Attribute (.Name x npos) "append" apos) [e] [] cpos) pos) (DH i f) :=
 PS.imp (yN (B9 PySem.F.plainAttrs_list PySem.F.slot_list_append PySem.F.type_list_append uT (uL hN hv hd hcd) (ab he am hs) hbase hfew hline hs hplain) hsw) fun D σ H ⟨F,η,o,sr,hd,q⟩=>by
  obtain ⟨dv,h1,hd⟩:=bind_some hd;split at hd
  ·rename_i ds ed;split at hd
   ·rename_i hz;cases hd;obtain ⟨p,xs,e1,e2,e3,e4,e5⟩:=sr.en.own i ds ed;refine ⟨_,e1,.inl ⟨rfl,xs,SqL.of e4⟩,F,η,_,sr,(by show (f η).bind _=_; rw [h1]; rfl),fun vs F1 H1 g1 rs=>?_⟩;obtain ⟨y,r,rfl,ry,rr⟩:=rs.cons_of;obtain rfl:=rr.nil_of;have sr1:=sr.grow g1;obtain ⟨p',xs',q1,q2,q3,q4,q5⟩:=sr1.en.own i ds ed;rw [e1] at q1;have ep:p=p':=by injection (Option.some.inj (Option.some.inj q1))
    subst ep;refine ⟨p,xs',y,rfl,rfl,q4,by rw [q5.length]; exact hz,?_⟩;refine q σ F1 _ ⟨⟨sr1.gr.ff,fun c u z=>?_,fun c u z=>?_,sr1.gr.new⟩,sr1.en.putOwn ed e1 (q5.append (.cons ry .nil))⟩ g1.ff
    ·have nb:c≠p:=aM z q3;rw [aE nb]; exact sr1.gr.hh c u z
    ·have nb:c≠p:=aM z q2;rw [aE nb]; exact sr1.gr.fh c u z
   ·cases hd
  ·cases hd
end
end
noncomputable def yf (x:Str):List PyData:=x.cps.toList.map fun c=>PyData.str ⟨#[c]⟩
noncomputable def nv (ds:List PyData) (i:Nat):List PyData:=match ds with
 | []=>[]
 | d::r=>.tuple [.int i,d]::nv r (i+1)
theorem u0:∀ (ds:List PyData) (k i:Nat) (d:PyData),(nv ds k)[i]?=some d→∃ c,ds[i]?=some c∧d=.tuple [.int ((k+i:Nat):Int),c]
 | [],k,i,d,h=>by simp [nv] at h
 | c::r,k,0,d,h=>by
  simp [nv] at h;exact ⟨c,rfl,h.symm⟩
 | c::r,k,i+1,d,h=>by
  have h':(nv r (k+1))[i]?=some d:=by simpa [nv] using h
  obtain ⟨c',h1,h2⟩:=u0 r (k+1) i d h';exact ⟨c',by simpa using h1,by rw [h2,show k+1+i=k+(i+1) by omega]⟩
theorem rA:∀ (ds:List PyData) (k:Nat),(nv ds k).length=ds.length
 | [],_=>rfl
 | _::r,k=>by rw [nv,L1,L1,rA r]
noncomputable def Ite (x:Str):It:=⟨fun i _=>i < x.cps.size,fun i H v H'=>∃ T c,H T=none∧x.cps[i]?=some c∧v=.ref T∧H'=upd H T (.tup [.int (i:Nat),.str ⟨#[c]⟩]),fun i _=>i=x.cps.size⟩
section
theorem yb {P:Program} {w:World} {K:LN} {elts:List Expr} {k:Nat} {tp:Pos} {e it:Addr} {x:Str} {St:Nat→Heap→Prop} (hei:e≠it)
  (D:∀ A:Around,A.handled=none→Draws P w A it [it] x.cps.size (fun i v=>∃ c u,x.cps[i]?=some c∧v=.str ⟨#[c]⟩ u) St) (hcell:∀ i h,St i h→∃ o,h.get? it=some o∧∀ v,o.data≠.cell v) :
  Turn P w K (.Tuple elts k tp) (Ite x) [e,it] e (fun i h=>(∃ old,IsEnum h e it i old)∧St i h) where
 mem:=by simp
 obj:=fun i h st b hb=>by
  obtain ⟨⟨old,he⟩,hs⟩:=st;rcases Mb.mp hb with rfl | hb
  ·exact ⟨_,he,fun v z=>by cases z⟩
  ·rw [Mi.mp hb];exact hcell i h hs
 keep:=fun i h h' st kk=>by
  obtain ⟨⟨old,he⟩,hs⟩:=st;refine ⟨⟨old,kk e (by simp) _ he⟩,?_⟩;exact (D { frames:=none,units:=0,depth:=0,handled:=none } rfl).frame i h h' hs fun b hb o q=>kk b (by rw [Mi.mp hb]; simp) o q
 item:=by
  intro X hP hw hK hc i pins s σ H E I hf st hg;subst hP hw hK;have W:=WalksT.enumerateD (prog:=X.prog) (w:=X.w) (A:=X.A) (D X.A.in1 (I.ok.hd hc)) e hei (by simpa using hei) (by simp);refine W.item i s _ _ hg st fun T vals h' tk Pt hT hIs Md kp=>⟨.ref T,rfl,?_⟩;refine W.go elts k tp i T _ _ _ Md fun h'' st'' kp''=>?_;obtain ⟨t,xv,⟨c,u,hcx,rfl⟩,rfl⟩:=Pt;have nT:H T=none:=I.hok.fresh hT;have aT:T∉[e,it]:=W.apart i T _ Md;have kall:∀ b o,b∉[e,it]→s.heap.get? b=some o→h''.get? b=some o:=fun b o hb q=>kp'' b o hb (kp b o hb q);have hIs'':IsTup h'' T #[.int i t,.str ⟨#[c]⟩ u]:=by
   obtain ⟨o,ho,hcl,n,hd⟩:=hIs;exact ⟨o,kp'' T o aT ho,hcl,n,hd⟩
  have ltT:∀ b o,s.heap.get? b=some o→b≠T:=fun b o q=>Mg (L5 (Heap.lt_size q) hT);have nfp:∀ b o,H b=some o→b∉[e,it]:=fun b o q hb=>by rw [(hf b hb).1] at q; cases q
  have J:Inv X pins σ (upd H T (.tup [.int (i:Nat),.str ⟨#[c]⟩])) { s with heap:=h'',toks:=tk }:=by
   refine I.step (h':=h'') (g':=s.gens) (d':=s.drawn) (t':=tk) (ch:=[e,it]) (fun b hb=>⟨(hf b hb).2.2.2.1,(hf b hb).2.1,(hf b hb).2.2.2.2.1,(hf b hb).2.2.2.2.2⟩)
    (fun b o _ _ hb q _=>kall b o hb q) (fun b o _ _ hb q _=>⟨o.slots,kall b o hb q⟩) (fun b o _ q n=>by rw [aE (ltT b o q)]; exact n) (fun b o hb q=>⟨o,kall b o hb q⟩)
    (fun b xs q=>by rw [aE (aM q nT)]; exact q) (fun b o xs q=>by rw [aE (aM q nT)]; exact q) (fun b ps q=>⟨#[],by rw [aE (aM q nT),q]; simp⟩) (fun m hm=>?_) (fun b o q=>?_) I.bare
   ·obtain ⟨o,es,ep,ho,r⟩:=hm;refine ⟨o,es,ep,kall _ o (fun hb=>?_) ho,r⟩;exact (hf _ hb).2.1 rfl
   ·by_cases hb:b=T
    ·subst hb;rw [aD] at q;cases q;exact ⟨by show 2≤sizeLine; decide,[.int i t,.str ⟨#[c]⟩ u],.cons ⟨t,rfl⟩ (.cons ⟨u,rfl⟩ .nil),hIs''⟩
    ·rw [aE hb] at q;refine (I.hok b o q).stay (fun c' v hc' z=>kall c' v ?_ z) (fun c' z=>by rw [aE (aM z nT)]; exact z) fun c' xs z=>by rw [aE (aM z nT)]; exact z
     rcases hc' with rfl | hc'
     ·exact nfp _ _ q
     ·exact nfp _ _ hc'
  refine ⟨.ref T,upd H T (.tup [.int (i:Nat),.str ⟨#[c]⟩]),J,rfl,⟨T,c,nT,hcx,rfl,rfl⟩,st'',fun b hb=>?_⟩;have nb:b≠T:=fun z=>aT (by rw [← z]; exact hb);rw [aE nb]; exact (hf b hb).1
 done:=by
  intro X hP hw hK hc i pins s σ H E I hf st hg;subst hP hw hK;have W:=WalksT.enumerateD (prog:=X.prog) (w:=X.w) (A:=X.A) (D X.A.in1 (I.ok.hd hc)) e hei (by simpa using hei) (by simp);have hg':i=x.cps.size:=hg;rw [hg'] at st;refine W.done s _ _ st fun h' tk kp=>⟨rfl,?_⟩;have nfp:∀ b o,H b=some o→b∉[e,it]:=fun b o q hb=>by rw [(hf b hb).1] at q; cases q
  refine I.step (h':=h') (g':=s.gens) (d':=s.drawn) (t':=tk) (ch:=[e,it]) (fun b hb=>⟨(hf b hb).2.2.2.1,(hf b hb).2.1,(hf b hb).2.2.2.2.1,(hf b hb).2.2.2.2.2⟩)
   (fun b o _ _ hb q _=>kp b o hb q) (fun b o _ _ hb q _=>⟨o.slots,kp b o hb q⟩) (fun _ _ _ _ n=>n) (fun b o hb q=>⟨o,kp b o hb q⟩)
   (fun _ _ q=>q) (fun _ _ _ q=>q) (fun b ps q=>⟨#[],by rw [q]; simp⟩) (fun m hm=>?_) (fun b o q=>?_) I.bare
  ·obtain ⟨o,es,ep,ho,r⟩:=hm;exact ⟨o,es,ep,kp _ o (fun hb=>(hf _ hb).2.1 rfl) ho,r⟩
  ·refine (I.hok b o q).stay (fun c' v hc' z=>kp c' v ?_ z) (fun _ z=>z) fun _ _ z=>z;rcases hc' with rfl | hc'
   ·exact nfp _ _ q
   ·exact nfp _ _ hc'
 self:=fun A i s Q E st h=>by
  obtain ⟨⟨old,he⟩,hs⟩:=st;exact wpAny_pyIter_enum he h
variable {X:Cx} {B:Bd} {a:Expr} {fs:En→Option (List PyData)} {pos pp:Pos}
noncomputable def enS (ds:List PyData):Option (List PyData):=match ds with
 | [.str x]=>some (nv (yf x) 0)
 | _=>none
theorem AA {K:LN} {F:Hp} {x:Str}:ItP K (Ite x) F (nv (yf x) 0):=fun F1 H1 i s1 s2=>by
 have hl:(nv (yf x) 0).length=x.cps.size:=by rw [rA]; unfold yf; rw [LO,Array.length_toList]
 refine ⟨fun d e=>?_,fun e=>by show i=_; rw [e,hl]⟩;have hi:i < x.cps.size:=by rw [← hl]; exact (LT.mp e).1
 refine ⟨hi,fun v H2 y=>?_⟩;obtain ⟨T,c,hT,hc,rfl,rfl⟩:=y;obtain ⟨cd,h1,h2⟩:=u0 _ _ _ _ e
 have:cd=.str ⟨#[c]⟩:=by
  unfold yf at h1;rw [L8] at h1;have hc':x.cps.toList[i]?=some c:=by simpa using hc
  rw [hc'] at h1;exact (Option.some.inj h1).symm
 subst this;rw [Nat.zero_add] at h2;subst h2;have g:=Gr.one (o:=.tup [.int (i:Nat),.str ⟨#[c]⟩]) s2 hT;exact ⟨_,g,jT (SqT.of aD) (.cons dO (.cons rj .nil))⟩
theorem I.enum {elts:List Expr} {k:Nat} {tp:Pos} (hc:X.calm=true) (hm:X.mg "enumerate" = none) (ha:A X B [a] fs) (hg:Gl X "enumerate" := by rfl) (hs:starEach [a] X.env=[(false,eval a X.env)]:=by exact bW rfl) :
  I X B (.Tuple elts k tp) (.Call (.Name "enumerate" pp) [a] [] pos) (fun η=>(fs η).bind enS):=by
 intro pins s σ H R I ⟨F,η,ds,sr,hd,q⟩;obtain ⟨es,h1,hd⟩:=bind_some hd;unfold enS at hd;split at hd
 ·rename_i x;cases hd;refine Call_ (sR I hg hm boot_enumerate (PyProof.Rows.callWith_type1 (thn (ha pos pins s σ H (fun vs H1=>∃ F',Gr F H F' H1∧RelL X.K F' [.str x] vs) I ⟨F,η,_,sr,h1,fun vs F' H' g r=>⟨F',g,r⟩⟩) fun us s1 ⟨vs,H1,I1,r1,F1,g1,rl⟩=>?_) hs rfl));obtain ⟨y,r,rfl,ry,rr⟩:=rl.cons_of;obtain rfl:=rr.nil_of;obtain ⟨u,rfl,ru⟩:=pQ r1;rw [ry.str] at ru;obtain ⟨t,rfl⟩:=ru;refine call_enumerate_str fun h' he hit hsz hk=>?_;refine wpAny_pyIter_enum he ?_;have I2:Inv X pins σ H1 { s1 with heap:=h' }:=I1.kept (t':=s1.toks) hk;have nw:∀ b,s1.heap.objs.size≤b→rf X pins H1 b:=fun b hb=>I1.fpOk hb (I1.hok.fresh hb);have fpo:∀ b∈[s1.heap.objs.size+1,s1.heap.objs.size],rf X pins H1 b:=fun b hb=>by
   rcases Mb.mp hb with rfl | hb
   ·exact nw _ (Nat.le_succ _)
   ·rw [Mi.mp hb]; exact nw _ (LS _)
  have cel:∀ (ty:String) (i:Nat) (h:Heap),h.IsStrIter s1.heap.objs.size ty x t i→∃ o,h.get? s1.heap.objs.size=some o∧∀ v,o.data≠.cell v:=fun ty i h st=>by
   obtain ⟨o,ho,hcl,hd⟩:=st;exact ⟨o,ho,fun v z=>by rw [hd] at z; cases z⟩
  cases ha':x.cps.all (· < 128)
  ·have hit':h'.IsStrIter s1.heap.objs.size "str_iterator" x t 0:=by simpa [strIterType,ha'] using hit
   exact ⟨_,_,_,_,H1,rfl,I2,yb (Nat.succ_ne_self _) (fun A hA=>Draws.strWide hA _ x t) (cel _),⟨⟨_,he⟩,hit'⟩,fpo,q _ F1 H1 g1 AA⟩
  ·have hit':h'.IsStrIter s1.heap.objs.size "str_ascii_iterator" x t 0:=by simpa [strIterType,ha'] using hit
   exact ⟨_,_,_,_,H1,rfl,I2,yb (Nat.succ_ne_self _) (fun A hA=>Draws.strAscii hA _ x t) (cel _),⟨⟨_,he⟩,hit'⟩,fpo,q _ F1 H1 g1 AA⟩
 ·cases hd
end
theorem FT {a b:Str} (h:a.cps.toList=b.cps.toList):a=b:=by
 obtain ⟨a⟩:=a;obtain ⟨b⟩:=b
 have:a=b:=Array.toList_inj.mp h
 rw [this]
noncomputable def qg (ns:List Int):List Int:=ns.mergeSort fun a b=>decide (a≤b)
theorem BS (ns:List Int):(qg ns).Pairwise (·≤·):=by
 have h:=List.pairwise_mergeSort (le:=fun (a b:Int)=>decide (a≤b)) (fun a b c h k=>by simp at h k ⊢; omega) (fun a b=>by simp; omega) ns;exact h.imp fun h=>by simpa using h
theorem yd {ns ms:List Int} (p:ms.Perm ns) (h:ms.Pairwise (·≤·)):ms=qg ns :=
 List.Perm.eq_of_pairwise (le:=(·≤·)) (fun a b _ _ h k=>by omega) h (BS ns) (p.trans (M4 ns _).symm)
section
variable {X:Cx}
variable {B:Bd} {a b e:Expr} {es:List Expr} {f g:En→Option PyData} {fs:En→Option (List PyData)} {pos pp apos cpos:Pos}
end
noncomputable def zj (N:List Str) (sc scope:Scope) (N':List Str) (mp:List (Option Nat)):Bool :=
 decide (scope.kind=.function)&&decide (sc.kind=.function)&&decide (∀ x∈scope.names,x.2≠.cell)&&decide (∀ x∈scope.names,x.2=.local→scope.names.lookup x.1=some .local) &&
 decide (∀ x∈scope.names,x.2=.free→sc.names.lookup x.1=some .cell)&&decide (mp.length=N'.length) &&
 (N'.zip mp).all fun p=>match p.2 with
  | none=>true
  | some j=>decide (N[j]?=some p.1)&&decide (scope.names.lookup p.1=some .free)
theorem mt {env:Env} (hk:env.scope.kind=.function):∀ {names:List (Str×NameKind)} {x:Str},names.lookup x=some .free→env.kindOf x=some .cell →
  (names.map fun (n,k)=>if (k==NameKind.free&&env.scope.kind==.function&&env.kindOf n==some .cell) then (n,NameKind.cell) else (n,k)).lookup x=some .cell
 | [],_,h,_=>by simp at h
 | (n,k)::r,x,h,hc=>by
  have ih:=@mt env hk r x;show M7 x ((if (k==NameKind.free&&env.scope.kind==.function&&env.kindOf n==some .cell)=true then (n,NameKind.cell) else (n,k))::_)=_;cases hx:x==n with
  | true =>
   have en:x=n:=by simpa using hx
   subst en;simp only [MU,hx] at h;cases h;rw [if_pos (by rw [hk,hc]; rfl)];simp [MU]
  | false =>
   simp only [MU,hx] at h
   split <;> simp only [MU,hx] <;> exact ih h hc
theorem CompSc.of {X:Cx} {scope:Scope} {N':List Str} {mp:List (Option Nat)} (h:zj X.N X.env.scope scope N' mp=true):CompSc X scope N' mp:=by
 unfold zj at h;simp only [Ms,decide_eq_true_eq] at h;obtain ⟨⟨⟨⟨⟨⟨h1,h0⟩,h2⟩,h3⟩,h4⟩,h5⟩,h6⟩:=h;refine ⟨h1,h2,h3,fun x hx hf=>.inl (h4 x hx hf),h5,fun i x j e1 e2=>?_⟩;have hm:(x,some j)∈N'.zip mp:=by
  have:(N'.zip mp)[i]?=some (x,some j):=by rw [List.getElem?_zip_eq_some]; exact ⟨e1,e2⟩
  exact NB this
 have h7:=List.all_eq_true.mp h6 _ hm;simp only [Ms,decide_eq_true_eq] at h7;have hmem:(x,NameKind.free)∈scope.names:=PySem.mem_of_lookup h7.2;exact ⟨h7.1,hmem,.inl (mt h0 h7.2 (h4 _ hmem rfl))⟩
theorem j5 {X:Cx} {B:Bd} {x:Str} {i:Int} {t:Tok} {pos:Pos} (hm:X.mg x=some (.int i t)) (hg:Gl X x:=by rfl) (hd:(x==("__debug__" : Str))=false:=by decide):E X B (.Name x pos) (eC (.int i)):=E.glob hm (v:=.int i) ⟨t,rfl⟩ (fun _=>dO) hg hd
theorem E.globS {X:Cx} {B:Bd} {x:Str} {i:Str} {t:Tok} {pos:Pos} (hm:X.mg x=some (.str i t)) (hg:Gl X x:=by rfl) (hd:(x==("__debug__" : Str))=false:=by decide):E X B (.Name x pos) (eC (.str i)):=E.glob hm (v:=.str i) ⟨t,rfl⟩ (fun _=>rj) hg hd
theorem FO {t:En→PyData→Option En}:∀ η ds η',bU t kn η ds=some η'→ds.length=1:=fun η ds η' h=>by
 match ds,h with
 | [_],_=>rfl
 | _::_::_,h=>obtain ⟨_,_,h⟩:=bind_some h; cases h
theorem tu {t u:En→PyData→Option En}:∀ η ds η',bU t (bU u kn) η ds=some η'→ds.length=2:=fun η ds η' h=>by
 match ds,h with
 | d::r,h =>
  obtain ⟨η1,_,h⟩:=bind_some h;rw [L1,FO _ _ _ h]
theorem aZ {X:Cx} {scope:Scope} {N':List Str} {mp:List (Option Nat)} (N:List Str) (sc:Scope) (hN:X.N=N) (hs:X.env.scope=sc) (h:zj N sc scope N' mp=true):CompSc X scope N' mp:=CompSc.of (by rw [hN,hs]; exact h)
noncomputable def tyD:PyData→String
 | .none => "NoneType"
 | .bool _ => "bool"
 | .int _ => "int"
 | .str _ => "str"
 | .list _ => "list"
 | .tuple _ => "tuple"
 | .dict _ => "dict"
noncomputable def isB (T:String) (d:PyData):Bool:=match d with
 | .bool _=>T == "bool" || T == "int"
 | d=>tyD d==T
section
variable {X:Cx}
variable {B:Bd} {a b e:Expr} {es:List Expr} {f g:En→Option PyData} {fs:En→Option (List PyData)} {pos pp tp apos cpos pos':Pos} {sts:List Stmt} {u:En→Option Out} {p:En→Option Bool}
noncomputable def Fm:List PyData→Option (List Bool)
 | []=>some []
 | .bool i::r=>(Fm r).bind fun ns=>some (i::ns)
 | _::_=>none
theorem yA:∀ {ds:List PyData} {ns:List Bool},Fm ds=some ns→ds=ns.map PyData.bool
 | [],ns,h=>by cases h; rfl
 | .bool i::r,ns,h=>by
  obtain ⟨ms,h1,h2⟩:=bind_some h;cases h2;rw [yA h1]; rfl
 | .none::_,_,h=>by cases h
 | .str _::_,_,h=>by cases h
 | .int _::_,_,h=>by cases h
 | .list _::_,_,h=>by cases h
 | .tuple _::_,_,h=>by cases h
 | .dict _::_,_,h=>by cases h
theorem BH (ns:List Bool):Fm (ns.map PyData.bool)=some ns:=by
 induction ns with
 | nil=>rfl
 | cons n r ih=>rw [LW]; unfold Fm; rw [ih]; rfl
theorem RelL.bools_of {K:LN} {F:Hp}:∀ {ns:List Bool} {xs:List V},RelL K F (ns.map PyData.bool) xs→xs=ns.map V.bl
 | [],xs,h=>h.nil_of
 | n::r,xs,h=>by
  obtain ⟨x,ys,rfl,h1,h2⟩:=h.cons_of;rw [h1.bl,RelL.bools_of h2]; rfl
theorem C3 (bs:List Bool):(List.range bs.length).any (fun i=>bs.getD i false)=bs.any id:=by
 rw [Bool.eq_iff_iff,List.any_eq_true,List.any_eq_true]
 constructor
 ·rintro ⟨i,hi,h⟩
  have hi:=MN.mp hi;rw [Mc,Me hi] at h;exact ⟨_,List.getElem_mem hi,h⟩
 ·rintro ⟨x,hx,h⟩
  obtain ⟨i,hi,rfl⟩:=List.mem_iff_getElem.mp hx;exact ⟨i,MN.mpr hi,by rw [Mc,Me hi]; exact h⟩
noncomputable def DO (K:LN) (r:List Bool→Bool):List V→Hp→VK→Prop:=fun xs H Q=>∃ (p:Addr) (bs:List Bool),xs=[.ref p]∧SqL K H p (bs.map V.bl)∧Q (.bl (r bs)) H
theorem BE (hc:X.calm=true) {pins:List (Addr×Obj)} {s:Shared} {σ:St} {H:Hp} {p:Addr} {bs:List Bool} {Q:Bool→Value→Shared→Prop} {r:(Nat→Bool)→Nat→Bool} (I:Inv X pins σ H s) (hq:SqL X.K H p (bs.map V.bl))
  (hQ:∀ h' tk,(∀ b o,s.heap.get? b=some o→h'.get? b=some o)→Q true (.bool (r (fun i=>bs.getD i false) bs.length)) { s with heap:=h',toks:=tk }) :
  wpAny (model X.prog X.w) X.A.in1 (pyIter (.ref p)) (fun it s₂=>∃ I fp wr n P St tr,it=.ref I∧Walks X.prog X.w X.A.in1 I fp wr n P St∧St 0 s₂.heap∧TruthOf X.prog X.w X.A.in1 P tr ∧
   ∀ h' tk,(∀ b o,b∉wr→s₂.heap.get? b=some o→h'.get? b=some o)→Q true (.bool (r tr n)) { s₂ with heap:=h',toks:=tk }) X.xe s:=by
 obtain ⟨its,rv,pl,hz⟩:=I.list hq;have hl:=rv.length;rw [LO] at hl;have hlt:p < s.heap.objs.size:=by
  obtain ⟨o,ho,_⟩:=pl.isList;exact Heap.lt_size ho
 refine wpAny_pyIter_list pl.isList ?_;refine ⟨s.heap.objs.size,_,_,_,_,_,fun i=>bs.getD i false,rfl,Walks.list (A:=X.A.in1) (I.ok.hd hc) s.heap.objs.size p (Mg hlt) its.toArray,⟨⟨_,Heap.get?_push_size _ rfl,rfl,rfl⟩,pl.isList.at fun o e=>Heap.get?_push_of_some _ e⟩,?_,fun h' tk hk=>?_⟩
 ·intro i v s' Q' E' hv hq';have hv':its[i]?=some v:=by simpa using hv
  obtain ⟨hi,_⟩:=LT.mp hv';have hn:bs[i]?=some bs[i]:=Me (by omega);obtain ⟨w,hw,rw'⟩:=rv.get (i:=i) (x:=.bl bs[i]) (by rw [L8,hn]; rfl);rw [hv'] at hw;cases hw;cases rw';have e:bs.getD i false=bs[i]:=by rw [Mc,hn]; rfl
  rw [show (fun i=>bs.getD i false) i=bs[i] from e] at hq';exact wpAny_truthy_bool hq'
 ·have e:its.toArray.size=bs.length:=by rw [LZ]; exact hl.symm
  rw [e];refine hQ h' tk fun b o eb=>hk b o ?_ (Heap.get?_push_of_some _ eb);intro hb;exact absurd (Heap.lt_size eb) (by rw [Mi.mp hb]; exact MQ _)
theorem Fh (hc:X.calm=true):CallR X (.builtin "any") (DO X.K fun bs=>bs.any id):=by
 intro pins s σ H xs us Q I r h;obtain ⟨p,bs,rfl,hq,q⟩:=h;obtain ⟨u,rfl,rx⟩:=pQ r;cases rx;refine call_any_walk (BE hc (Q:=fun _ v s'=>EP X pins σ Q v s') (r:=fun tr n=>(List.range n).any tr) I hq fun h' tk k=>?_);rw [C3];exact ⟨.bl _,H,I.kept k,rfl,q⟩
noncomputable def yQ (r:List Bool→Bool) (ds:List PyData):Option PyData:=match ds with
 | [.list xs]=>(Fm xs).bind fun bs=>some (.bool (r bs))
 | _=>none
theorem Ft {K:LN} {r:List Bool→Bool}:AdA K (DO K r) (yQ r):=fun F H xs ds d Q sm rs e q=>by
 unfold yQ at e;split at e
 ·obtain ⟨bs,h1,h2⟩:=bind_some e;cases h2
  have:=yA h1
  subst this;obtain ⟨x,r,rfl,rx,rr⟩:=rs.cons_of;obtain rfl:=rr.nil_of;obtain ⟨a,ys,rfl,hq,r1⟩:=rx.lst
  have:=r1.bools_of
  subst this;exact ⟨a,bs,rfl,sm.seq hq,q _ F H (.refl sm) dZ⟩
 ·cases e
noncomputable def Ei:=yQ fun bs=>bs.any id
theorem E.any (hc:X.calm=true) (hm:X.mg "any" = none) (ha:A X B [e] fs) (hg:Gl X "any" := by rfl) (he:starEach [e] X.env=(false,eval e X.env)::starEach [] X.env:=by exact bW rfl) (hpl:(backTo pos (starEach [] X.env)).any (·.1)=false:=by rfl):E X B (.Call (.Name "any" pp) [e] [] pos) (lA Ei fs) :=
 E.callB (Fh hc) Ft hm (by decide +kernel) ha hg (by decide) (by decide) he hpl
noncomputable def Gs (ds:List PyData):Option PyData:=match ds with
 | [.int i,.int j]=>some (.int (if j > i then j else i))
 | _=>none
noncomputable def Gq (ds:List PyData):Option PyData:=match ds with
 | [.int i,.int j]=>some (.int (if j < i then j else i))
 | _=>none
theorem Fp {K:LN} {g:Int→Int→Int}:AdA K (fun xs H Q=>∃ i j,xs=[.int i,.int j]∧Q (.int (g i j)) H) (fun ds=>match ds with | [.int i,.int j]=>some (.int (g i j)) | _=>none):=fun F H xs ds d Q sm rs e q=>by
 dsimp only at e;split at e
 ·cases e;obtain ⟨x,r,rfl,rx,rr⟩:=rs.cons_of;obtain ⟨y,r2,rfl,ry,rr2⟩:=rr.cons_of;obtain rfl:=rr2.nil_of;exact ⟨_,_,by rw [rx.int,ry.int],q _ F H (.refl sm) dO⟩
 ·cases e
theorem E.max (hc:X.calm=true) (hm:X.mg "max" = none) (ha:A X B [a,b] fs) (hg:Gl X "max" := by rfl) (he:starEach [a,b] X.env=(false,eval a X.env)::starEach [b] X.env:=by rfl) (hpl:(backTo pos (starEach [b] X.env)).any (·.1)=false:=by rfl):E X B (.Call (.Name "max" pp) [a,b] [] pos) (lA Gs fs) :=
 E.callB (Dp hc) Fp hm (by decide +kernel) ha hg (by decide) (by decide) he hpl
theorem E.min (hc:X.calm=true) (hm:X.mg "min" = none) (ha:A X B [a,b] fs) (hg:Gl X "min" := by rfl) (he:starEach [a,b] X.env=(false,eval a X.env)::starEach [b] X.env:=by rfl) (hpl:(backTo pos (starEach [b] X.env)).any (·.1)=false:=by rfl):E X B (.Call (.Name "min" pp) [a,b] [] pos) (lA Gq fs) :=
 E.callB (Do hc) Fp hm (by decide +kernel) ha hg (by decide) (by decide) he hpl
noncomputable def qA (ds:List PyData):Option PyData:=match ds with
 | [.int i]=>some (.int i)
 | [.bool k]=>some (.int (if k then 1 else 0))
 | _=>none
theorem Fs {K:LN}:AdA K (fun xs H Q=>(∃ i,xs=[.int i]∧Q (.int i) H)∨∃ k,xs=[.bl k]∧Q (.int (if k then 1 else 0)) H) qA:=fun F H xs ds d Q sm rs e q=>by
 unfold qA at e;split at e
 ·cases e;obtain ⟨x,r,rfl,rx,rr⟩:=rs.cons_of;obtain rfl:=rr.nil_of;exact .inl ⟨_,by rw [rx.int],q _ F H (.refl sm) dO⟩
 ·cases e;obtain ⟨x,r,rfl,rx,rr⟩:=rs.cons_of;obtain rfl:=rr.nil_of;exact .inr ⟨_,by rw [rx.bl],q _ F H (.refl sm) dO⟩
 ·cases e
theorem E.toInt (hm:X.mg "int" = none) (ha:A X B [e] fs) (hg:Gl X "int" := by rfl) (he:starEach [e] X.env=(false,eval e X.env)::starEach [] X.env:=by exact bW rfl) (hpl:(backTo pos (starEach [] X.env)).any (·.1)=false:=by rfl):E X B (.Call (.Name "int" pp) [e] [] pos) (lA qA fs) :=
 E.callTy yt Fs hm (by decide +kernel) ha hg (by decide) (by decide) he hpl
noncomputable def sWh (c:En→Option Bool) (body:En→Option Out):Nat→En→Option Out
 | 0,_=>none
 | n+1,η=>(c η).bind fun b=>if b=true then (body η).bind fun o=>match o with
  | .nx η'=>sWh c body n η'
  | .ct η'=>sWh c body n η'
  | .bk η'=>some (.nx η')
  | .rt d=>some (.rt d) else some (.nx η)
theorem S.while (n:Nat) {c:Expr} (hp:PassesOwn (model X.prog X.w) X.A X.env X.xe) (hc:T X B c p) (hb:Ss X B sts u):S X B (.While c sts [] pos) (sWh p u n):=PS.imp (zZ hp hc hb) fun D σ H ⟨F,η,o,sr,hd,q⟩=>by
 refine ⟨fun m σ H=>∃ Fc ηc,SR X.K B Fc H σ ηc∧Same F Fc∧sWh p u m ηc=some o,⟨n,F,η,sr,.refl _,hd⟩,?_⟩
 rintro m σc Hc ⟨Fc,ηc,src,sc,hgo⟩
 cases m with
 | zero=>cases hgo
 | succ m =>
  unfold sWh at hgo;obtain ⟨b,hb',hgo⟩:=bind_some hgo;refine ⟨Fc,ηc,b,src,hb',fun F1 H1 g1=>?_⟩;cases b with
  | false =>
   rw [if_neg LU] at hgo;cases hgo;refine Jd ?_;exact q σc F1 H1 (src.grow g1) (sc.trans g1.ff)
  | true =>
   rw [if_pos rfl] at hgo;refine Jc ?_;obtain ⟨o1,e2,hgo⟩:=bind_some hgo;refine ⟨fun σ' H'=>∃ m',m' < m+1∧∃ Fc ηc,SR X.K B Fc H' σ' ηc∧Same F Fc∧sWh p u m' ηc=some o,fun σ' H' z=>z,F1,ηc,o1,src.grow g1,e2,?_⟩;have s1:Same F F1:=sc.trans g1.ff;cases o1 with
   | nx η2=>exact fun σ' F' H' r s=>⟨m,MW _,F',η2,r,s1.trans s,hgo⟩
   | ct η2=>exact fun σ' F' H' r s=>⟨m,MW _,F',η2,r,s1.trans s,hgo⟩
   | bk η2 =>
    cases hgo;exact fun σ' F' H' r s=>q σ' F' H' r (s1.trans s)
   | rt d =>
    cases hgo;exact q
end
section
variable {X:Cx} {B:Bd} {e:Expr} {f:En→Option PyData} {tg:Expr}
end
section
variable {X:Cx} {B:Bd} {a b e:Expr} {f g:En→Option PyData} {apos cpos:Pos}
end
section
variable {X:Cx} {B:Bd} {a b e:Expr} {f g:En→Option PyData} {pos:Pos}
noncomputable def Je:PyData→Bool
 | .none=>true
 | _=>false
noncomputable def iD (neg:Bool) (x y:PyData):Option PyData:=match y with
 | .none=>some (.bool (if neg then !Je x else Je x))
 | _=>none
theorem Cn {K:LN} {F:Hp} {d:PyData} {x:V} (r:Rel K F d x):decide (x=.non)=Je d:=by
 cases d with
 | none=>rw [r.non]; rfl
 | bool b=>rw [r.bl]; rfl
 | int i=>rw [r.int]; rfl
 | str s=>rw [r.str]; rfl
 | list ds=>obtain ⟨a,xs,rfl,_⟩:=r.lst; rfl
 | tuple ds=>obtain ⟨a,xs,rfl,_⟩:=r.tup; rfl
 | dict es=>obtain ⟨a,xs,rfl,_⟩:=r.dct; rfl
theorem Fq {K:LN}:Ad2 K (fun x y H Q=>y=.non∧Q (.bl (decide (x=.non))) H) (iD false):=fun F H x y dx dy d Q sm rx ry e q=>by
 unfold iD at e;split at e
 ·cases e;refine ⟨ry.non,?_⟩;rw [Cn rx];exact q _ F H (.refl sm) dZ
 ·cases e
theorem zu {K:LN}:Ad2 K (fun x y H Q=>y=.non∧Q (.bl (!decide (x=.non))) H) (iD true):=fun F H x y dx dy d Q sm rx ry e q=>by
 unfold iD at e;split at e
 ·cases e;refine ⟨ry.non,?_⟩;rw [Cn rx];exact q _ F H (.refl sm) dZ
 ·cases e
theorem T.isN (ha:E X B a f) (hb:E X B b g) (hm:behindInMarks .Is b=false:=by rfl):T X B (.Compare a [.Is] [b] pos) (bT (l2 (iD false) f g)):=T.cmp El Fq hm ha hb
theorem T.notN (ha:E X B a f) (hb:E X B b g) (hm:behindInMarks .IsNot b=false:=by rfl):T X B (.Compare a [.IsNot] [b] pos) (bT (l2 (iD true) f g)):=T.cmp yR zu hm ha hb
end
noncomputable def Itv (K:LN) (a:Addr) (n:Nat):It :=
 ⟨fun i H=>i < n∧∃ xs x,SqL K H a xs∧xs[n - 1 - i]?=some x,fun i H x H'=>H'=H∧∀ xs,SqL K H a xs→xs[n - 1 - i]?=some x,fun i _=>i=n⟩
theorem Dz {P:Program} {w:World} {K:LN} {tg:Expr} (a it:Addr) (n:Nat):Turn P w K tg (Itv K a n) [it] it (fun i h=>h.IsRevIter it a ((n:Int) - 1 - (i:Nat))) where
 mem:=by simp
 obj:=fun i h st b hb=>by
  have e:b=it:=by simpa using hb
  subst e;obtain ⟨o,e,c,d⟩:=st;exact ⟨o,e,fun v z=>by rw [d] at z; cases z⟩
 keep:=fun i h h' st k=>st.at fun o e=>k it (by simp) o e
 item:=by
  intro X hP hw hK hc i pins s σ H E I hf st hg;subst hP hw hK;obtain ⟨hi,xs,x,hq,hx⟩:=hg;obtain ⟨its,rv,p,hz⟩:=I.list hq;obtain ⟨u,hu,ru⟩:=rv.get hx;obtain ⟨f0,f1,f2,f3,f4,f5⟩:=hf it (by simp);have ei:(n:Int) - 1 - (i:Nat)=((n - 1 - i:Nat):Int):=by omega
  rw [ei] at st;refine wpAny_pyNext_rev_item st p.isList (x:=u) (by simpa using hu) fun h' st' sb=>?_;have I1:Inv X pins σ H { s with heap:=h' }:=I.turned (t':=s.toks) (fun b o hb e=>(sb.2 b hb).trans e) f0 f1 f3 f4 f5;have st2:h'.IsRevIter it a ((n:Int) - 1 - ((i+1:Nat):Nat)):=by
   have e2:((n - 1 - i:Nat):Int) - 1=(n:Int) - 1 - ((i+1:Nat):Nat):=by omega
   rw [← e2]; exact st'
  obtain ⟨o,e,c,d⟩:=id st';exact ⟨u,rfl,CC (s:={ s with heap:=h' }) e c d (by decide) ⟨x,H,I1,ru,⟨rfl,fun ys hy=>by rw [I.list_inj hy hq]; exact hx⟩,st2,fun b hb=>(hf b hb).1⟩⟩
 done:=by
  intro X hP hw hK hc i pins s σ H E I hf st hg;subst hP hw hK;obtain ⟨f0,f1,f2,f3,f4,f5⟩:=hf it (by simp);have hg:i=n:=hg;have ei:(n:Int) - 1 - (i:Nat)=-1:=by omega
  rw [ei] at st;exact wpAny_pyNext_rev_end (I.ok.hd hc) st fun h' eb=>⟨rfl,I.turned (t':=s.toks) (fun b o hb e=>eb b o hb e) f0 f1 f3 f4 f5⟩
 self:=fun _ _ _ _ _ st h=>wpAny_pyIter_revIter st h
section
variable {X:Cx} {B:Bd} {a:Expr} {fs:En→Option (List PyData)} {pos pp:Pos}
noncomputable def rvS (ds:List PyData):Option (List PyData):=match ds with
 | [.list xs]=>some xs.reverse
 | _=>none
theorem GP {K:LN} {F:Hp} {p:Addr} {ds:List PyData} {xs:List V} (hq:SqL K F p xs) (rs:RelL K F ds xs):ItP K (Itv K p ds.length) F ds.reverse:=fun F1 H1 i s1 s2=>by
 refine ⟨fun d e=>?_,fun e=>by show i=ds.length; rw [e,Mq]⟩;have hi:i < ds.length:=by
  have:=(LT.mp e).1
  rwa [Mq] at this
 rw [List.getElem?_reverse hi] at e;obtain ⟨x,hx,rx⟩:=rs.get e;have hq1:SqL K H1 p xs:=s2.seq (s1.seq hq);refine ⟨⟨hi,xs,x,hq1,hx⟩,fun v H2 y=>?_⟩;obtain ⟨rfl,y⟩:=y
 have:=(y xs hq1).symm.trans hx
 cases this;exact ⟨F1,.refl s2,rx.mono s1⟩
theorem I.rev {tg:Expr} (hc:X.calm=true) (hm:X.mg "reversed" = none) (ha:A X B [a] fs) (hg:Gl X "reversed" := by rfl) (hs:starEach [a] X.env=[(false,eval a X.env)]:=by exact bW rfl) :
  I X B tg (.Call (.Name "reversed" pp) [a] [] pos) (fun η=>(fs η).bind rvS):=by
 intro pins s σ H R I ⟨F,η,ds,sr,hd,q⟩;obtain ⟨es,h1,hd⟩:=bind_some hd;unfold rvS at hd;split at hd
 ·rename_i x;cases hd;refine Call_ (sR I hg hm (show bootBuiltins "reversed" = some (.type "reversed") by decide +kernel) (PyProof.Rows.callWith_type1 (thn (ha pos pins s σ H (fun vs H1=>∃ F',Gr F H F' H1∧RelL X.K F' [.list x] vs) I ⟨F,η,_,sr,h1,fun vs F' H' g r=>⟨F',g,r⟩⟩) fun us s1 ⟨vs,H1,I1,r1,F1,g1,rl⟩=>?_) hs rfl));obtain ⟨y,r,rfl,ry,rr⟩:=rl.cons_of;obtain rfl:=rr.nil_of;obtain ⟨u,rfl,ru⟩:=pQ r1;obtain ⟨p,xs,rfl,hq,rs⟩:=ry.lst;cases ru;obtain ⟨its,rv,pl,hz⟩:=I1.list (g1.fh.seq hq);refine call_reversed_list pl.isList ?_;have hl:its.toArray.size=x.length:=by
   have h1:=rv.length;have h2:=rs.length;rw [LZ];omega
  have st:(s1.heap.push (revObj p ((its.toArray.size:Int) - 1))).IsRevIter s1.heap.objs.size p ((x.length:Int) - 1 - ((0:Nat):Nat)):=by
   refine ⟨_,Heap.get?_push_size _ rfl,rfl,?_⟩;have e2:(its.toArray.size:Int) - 1=(x.length:Int) - 1 - ((0:Nat):Nat):=by rw [hl]; omega
   rw [← e2]; rfl
  refine wpAny_pyIter_revIter st ?_;refine ⟨_,[s1.heap.objs.size],_,_,H1,rfl,I1.kept (t':=s1.toks) fun b o e=>Heap.get?_push_of_some _ e,Dz p _ x.length,st,fun b hb=>?_,q _ F1 H1 g1 (GP hq rs)⟩;rw [Mi.mp hb];exact I1.fpOk (LS _) (I1.hok.fresh (LS _))
 ·cases hd
end
section
variable {X:Cx} {B:Bd} {a b e:Expr} {f g:En→Option PyData} {fs:En→Option (List PyData)} {pos:Pos}
theorem RelL.rep {K:LN} {F:Hp} {ds:List PyData} {xs:List V} (r:RelL K F ds xs):∀ k:Nat,RelL K F (Ma k ds).flatten (Ma k xs).flatten
 | 0=>by simpa using RelL.nil
 | k+1=>by
  rw [Mv,MK,Mv,MK];exact r.append (r.rep k)
noncomputable def By (fs:En→Option (List PyData)) (g:En→Option PyData):En→Option PyData:=fun η=>(fs η).bind fun ds=>(g η).bind fun y=>(asI y).bind fun k =>
 if 0≤k∧k < 1000∧ds.length*k.toNat≤1000 then some (.list (Ma k.toNat ds).flatten) else none
theorem E.rep (ha:EO X B a fs) (hb:E X B b g):E X B (.BinOp a .Mult b pos) (By fs g):=PE.imp (B5 Ek ha hb) fun σ H Q ⟨F,η,d,sr,hd,q⟩=>by
 obtain ⟨ds,hx,hd⟩:=bind_some hd;obtain ⟨y,hy,hd⟩:=bind_some hd;obtain ⟨k,hk,hd3⟩:=bind_some hd;obtain rfl:=uA hk;split at hd3
 ·rename_i hc;cases hd3;refine ⟨F,η,ds,sr,hx,fun p xs F1 H1 g1 hp fp hp' rs=>⟨F1,η,_,sr.grow g1,hy,fun v F2 H2 g2 rv=>?_⟩⟩;have hH:H2 p=some (.lst xs):=g2.hh p _ hp';have hz:xs.length*k.toNat≤1000:=by rw [rs.length]; exact hc.2.2
  refine ⟨p,k,xs,rfl,rv.int,hH,by omega,by omega,Nl (ye hz),fun l hl=>?_⟩;have g3:=Gr.one (o:=.lst (Ma k.toNat xs).flatten) g2.fh hl;exact q _ _ _ ((g1.trans g2).trans g3) (jk (SqL.of aD) ((rs.rep k.toNat).mono (g2.ff.trans g3.ff)))
 ·cases hd3
end
section
variable {X:Cx} {B:Bd} {e st:Expr} {f g:En→Option PyData} {pos p2:Pos}
noncomputable def pRv (x y:PyData):Option PyData:=match x with
 | .list ds=>(asI y).bind fun k=>if k=-1 then some (.list ds.reverse) else none
 | _=>none
theorem Cd {g:En→Option PyData} {η:En} {k:Int} (h:g η=some (.int k)):pS g η=some (some k):=by
 unfold pS;rw [h]; rfl
theorem E.slRev (he:E X B e f) (hs:E X B st g) (hsub:∀ o i,subscripted (.Slice none none (some st) p2) false o i=operate [o,i] (getItem o i):=by intro _ _; with_unfolding_all rfl):E X B (.Subscript e (.Slice none none (some st) p2) pos) (l2 pRv f g):=by
 intro pins s σ H Q I ⟨F,η,d,sr,hd,q⟩;obtain ⟨x,hx,hd⟩:=bind_some hd;obtain ⟨y,hy,hd2⟩:=bind_some hd;unfold pRv at hd2;split at hd2
 ·rename_i ds;obtain ⟨k,hk,hd3⟩:=bind_some hd2;obtain rfl:=uA hk;split at hd3
  ·rename_i hk1;subst hk1;cases hd3;refine Subscript_ (thn (he pins s σ H (fun v H1=>∃ F1,Gr F H F1 H1∧Rel X.K F1 (.list ds) v) I ⟨F,η,_,sr,hx,fun v F1 H1 g1 r=>⟨F1,g1,r⟩⟩) fun v s1 ⟨x,H1,I1,r1,F1,g1,rx⟩=>?_);refine wpAny_Slice ?_;rw [evalPart_none];refine wpAny_pure (wpAny_pure ?_);refine thn ((kh hs) pins s1 σ H1 (fun o H2=>∃ F2,Gr F1 H1 F2 H2∧o=some (-1)) I1 ⟨F1,η,some (-1),sr.grow g1,Cd hy,fun F2 H2 g2=>⟨F2,g2,rfl⟩⟩) fun vs s2 ⟨o,H2,I2,ps,F2,g2,eo⟩=>?_;subst eo;have I4:Inv X pins σ H2 { s2 with heap:=s2.heap.push { cls:=.type "slice", data:=.fields #[.none,.none,vs] } }:=I2.kept (t':=s2.toks) fun b ob q=>Heap.get?_push_of_some _ q;obtain ⟨a,xs,rfl,hq,rs⟩:=rx.lst;cases r1;obtain ⟨its,r,ht,hz⟩:=I4.list (g2.hh.seq (g1.fh.seq hq));have hlen:=r.length;show wpAny (model X.prog X.w) X.A (subscriptTail e (.Slice none none (some st) p2) (.ref a) (.ref s2.heap.objs.size)) (EP X pins σ Q) X.xe { s2 with heap:=s2.heap.push { cls:=.type "slice", data:=.fields #[.none,.none,vs] } };refine tail_any (ops:=[.ref a,.ref s2.heap.objs.size]) ht.isList.typeIs slot_list_getitem.lookup ?_ (hsub _ _);refine wpAny_getItem_list_slice ht.isList (Heap.IsSliceOf.new ..) .none .none ps (by decide) ?_ (by rw [LZ] <;> omega);rw [PySem.W.krv_pick,show its.toArray.toList.reverse=its.reverse by simp];have g3:∀ l,H2 l=none→Gr F2 H2 (upd F2 l (.lst xs.reverse)) (upd H2 l (.lst xs.reverse)):=fun l hl=>Gr.one g2.fh hl;refine ⟨.ref _,_,I4.laid (t':=s2.toks) (o:=.lst xs.reverse) (fun b ob q=>Heap.get?_push_of_some _ q) (LS _) ?_,rfl,q _ _ _ ((g1.trans g2).trans (g3 _ (I4.hok.fresh (LS _)))) (jk (SqL.of aD) (rs.reverse.mono (g2.ff.trans (g3 _ (I4.hok.fresh (LS _))).ff)))⟩;refine ⟨by rw [Mq]; exact hz,its.reverse,0,?_,Heap.get?_push_size _ rfl⟩;exact r.reverse
  ·cases hd3
 ·cases hd2
end
section
variable {X:Cx} {B:Bd} {pos pp:Pos}
end
noncomputable def Cw:PyData→Option Key
 | .int i=>some (.inl i)
 | .str x=>some (.inr x)
 | _=>none
theorem Av (k:Key):Cw (kD k)=some k:=by cases k <;> rfl
theorem F9 {K:LN} {F:Hp} {d:PyData} {k:Key} {v:V} (h:Cw d=some k) (r:Rel K F d v):v=kV k:=by
 cases d with
 | int i=>cases h; rw [r.int]; rfl
 | str x=>cases h; rw [r.str]; rfl
 | none=>cases h
 | bool b=>cases h
 | list ds=>cases h
 | tuple ds=>cases h
 | dict es=>cases h
noncomputable def Ge (kvs:List (Key×PyData)) (k:Key) (d:PyData):List (Key×PyData) :=
 if (kvs.any fun kv=>decide (kv.1=k))=true then kvs.map (fun kv=>if kv.1=k then (kv.1,d) else kv) else kvs++[(k,d)]
theorem xb {a b:Key} (h:kD a=kD b):a=b:=by
 have:=congrArg Cw h
 rw [Av,Av] at this;exact Option.some.inj this
section
variable {K:LN} {F:Hp}
theorem RelD.any:∀ {kvs:List (Key×PyData)} {ks:List (Key×V)},RelD K F (prs kvs) ks→∀ k,(kvs.any fun kv=>decide (kv.1=k))=ks.any fun kv=>decide (kv.1=k)
 | [],ks,h,k=>by rw [h.nil_of]; rfl
 | (k',d)::kvs,ks,h,k=>by
  obtain ⟨k2,x,r,rfl,e,h3,h4⟩:=RelD.cons_of (d:=kD k') (e:=d) (es:=prs kvs) h
  have:=xb e
  subst this;rw [Mt,Mt,RelD.any h4 k]
theorem RelD.length:∀ {kvs:List (Key×PyData)} {ks:List (Key×V)},RelD K F (prs kvs) ks→ks.length=kvs.length
 | [],ks,h=>by rw [h.nil_of]; rfl
 | (k',d)::kvs,ks,h=>by
  obtain ⟨k2,x,r,rfl,e,h3,h4⟩:=RelD.cons_of (d:=kD k') (e:=d) (es:=prs kvs) h;rw [L1,L1,RelD.length h4]
theorem RelD.repl {k:Key} {d:PyData} {x:V} (hd:Rel K F d x):∀ {kvs:List (Key×PyData)} {ks:List (Key×V)},RelD K F (prs kvs) ks→RelD K F (prs (kvs.map fun kv=>if kv.1=k then (kv.1,d) else kv)) (ks.map fun kv=>if kv.1=k then (kv.1,x) else kv)
 | [],ks,h=>by rw [h.nil_of]; exact .nil
 | (k',d')::kvs,ks,h=>by
  obtain ⟨k2,x',r,rfl,e,h3,h4⟩:=RelD.cons_of (d:=kD k') (e:=d') (es:=prs kvs) h
  have:=xb e
  subst this;have ih:=RelD.repl (k:=k) hd h4;rw [LW,LW];by_cases hk:k'=k
  ·rw [if_pos hk,if_pos hk];exact RelD.cons hd ih
  ·rw [if_neg hk,if_neg hk];exact RelD.cons h3 ih
theorem RelD.snoc {k:Key} {d:PyData} {x:V} (hd:Rel K F d x):∀ {kvs:List (Key×PyData)} {ks:List (Key×V)},RelD K F (prs kvs) ks→RelD K F (prs (kvs++[(k,d)])) (ks++[(k,x)])
 | [],ks,h=>by rw [h.nil_of]; exact RelD.cons hd .nil
 | (k',d')::kvs,ks,h=>by
  obtain ⟨k2,x',r,rfl,e,h3,h4⟩:=RelD.cons_of (d:=kD k') (e:=d') (es:=prs kvs) h
  have:=xb e
  subst this;exact RelD.cons h3 (RelD.snoc hd h4)
theorem RelD.put {k:Key} {d:PyData} {x:V} (hd:Rel K F d x) {kvs:List (Key×PyData)} {ks:List (Key×V)} (h:RelD K F (prs kvs) ks):RelD K F (prs (Ge kvs k d)) (mY ks k x):=by
 unfold Ge mY;rw [h.any k]
 split
 ·exact RelD.repl hd h
 ·exact RelD.snoc hd h
end
section
variable {X:Cx} {B:Bd} {o e e2 a b:Expr} {f g h:En→Option PyData} {pos pos' apos cpos npos:Pos}
theorem Room.one {k:Nat} {A:Around} (hr:Room k A):A.units+1 < cLine:=by have:=hr.units; omega
end
section
variable {X:Cx}
variable {B:Bd} {a:Expr} {f:En→Option PyData} {pos:Pos}
end
section
variable {K:LN} {F F':Hp}
theorem EY {d:PyData} {v:V} (h:lY d=true) (r:Rel K F' d v):Rel K F d v:=by
 cases d with
 | none=>rw [r.non]; exact ro
 | bool b=>rw [r.bl]; exact dZ
 | int i=>rw [r.int]; exact dO
 | str x=>rw [r.str]; exact rj
 | list ds=>cases h
 | tuple ds=>cases h
 | dict es=>cases h
end
theorem Gr.back {F H F1 F' H':Hp} (sm:Same F H) (g:Gr F1 H F' H'):Gr F H F H':=⟨.refl _,g.hh,sm.trans g.hh,fun _ z=>.inl z⟩
section
variable {X:Cx} {B:Bd} {e:Expr} {f:En→Option PyData} {fs:En→Option (List PyData)} {p:En→Option Bool}
end
section
variable {X:Cx} {B:Bd} {e o:Expr} {f g:En→Option PyData} {fs:En→Option (List PyData)} {pos pp rp rpos:Pos}
end
theorem GJ {k:Key} {v:Value} (h:vE k v=true):RelV (kV k) v:=by
 rcases eQ h with ⟨i,t,rfl,rfl⟩ | ⟨x,t,rfl,rfl⟩
 ·exact ⟨t,rfl⟩
 ·exact ⟨t,rfl⟩
section
variable {X:Cx} {B:Bd} {pos npos:Pos} {tg:Expr}
end
section
variable {X:Cx} {B:Bd} {e o:Expr} {f g:En→Option PyData} {fs:En→Option (List PyData)} {pos pos' pp rp rpos:Pos}
end
section
variable {X:Cx} {B:Bd}
noncomputable abbrev PF:=(En→Option PyData)×(En→Option PyData)
noncomputable def DP (X:Cx) (B:Bd) (pos:Pos) (keys:List (Option Expr)) (values:List Expr) (ps:List PF):Prop:=PPs X pos keys values (ps.map fun p=>(tE X.K B p.1,tE X.K B p.2))
theorem DP.nil {pos:Pos}:DP X B pos [] [] []:=Gg
theorem DP.cons {pos:Pos} {k v:Expr} {keys:List (Option Expr)} {values:List Expr} {f g:En→Option PyData} {ps:List PF} (hk:E X B k f) (hv:E X B v g) (h:DP X B pos keys values ps):DP X B pos (some k::keys) (v::values) ((f,g)::ps):=D0 hk hv h
noncomputable def evP:List PF→En→Option (List (PyData×PyData))
 | [],_=>some []
 | (f,g)::r,η=>(f η).bind fun x=>(g η).bind fun y=>(evP r η).bind fun l=>some ((x,y)::l)
noncomputable def Bo:List (PyData×PyData)→Option (List (Key×PyData))
 | []=>some []
 | (x,y)::r=>(Cw x).bind fun k=>(Bo r).bind fun l=>some ((k,y)::l)
noncomputable def JD (K:LN) (F:Hp):List (PyData×PyData)→List (V×V)→Prop
 | [],ps=>ps=[]
 | (x,y)::r,ps=>∃ u v t,ps=(u,v)::t∧Rel K F x u∧Rel K F y v∧JD K F r t
theorem Ac {K:LN}:∀ {ps:List PF} {σ:St} {F H:Hp} {η:En} {es:List (PyData×PyData)} {Q:List (V×V)→Hp→Prop},SR K B F H σ η→evP ps η=some es→(∀ pvs F' H',Gr F H F' H'→JD K F' es pvs→Q pvs H')→yF (ps.map fun p=>(tE K B p.1,tE K B p.2)) σ H Q
 | [],σ,F,H,η,es,Q,sr,h,q=>by
  cases h;exact q [] F H (.refl sr.same) rfl
 | (f,g)::r,σ,F,H,η,es,Q,sr,h,q=>by
  obtain ⟨x,hx,h⟩:=bind_some h;obtain ⟨y,hy,h⟩:=bind_some h;obtain ⟨l,hl,h⟩:=bind_some h;cases h;exact ⟨F,η,x,sr,hx,fun u F1 H1 g1 ru=>⟨F1,η,y,sr.grow g1,hy,fun v F2 H2 g2 rv=>Ac ((sr.grow g1).grow g2) hl fun pvs F3 H3 g3 rp =>
   q ((u,v)::pvs) F3 H3 (g1.trans (g2.trans g3)) ⟨u,v,pvs,rfl,ru.mono (g2.ff.trans g3.ff),rv.mono g3.ff,rp⟩⟩⟩
theorem At {K:LN} {F:Hp}:∀ {es:List (PyData×PyData)} {kvs:List (Key×PyData)} {pvs:List (V×V)},Bo es=some kvs→JD K F es pvs→∃ ks:List (Key×V),pvs=ks.map (fun kv=>(kV kv.1,kv.2))∧RelD K F (prs kvs) ks
 | [],kvs,pvs,h,r=>by
  cases h;exact ⟨[],r,.nil⟩
 | (x,y)::es,kvs,pvs,h,r=>by
  obtain ⟨k,hk,h⟩:=bind_some h;obtain ⟨l,hl,h⟩:=bind_some h;cases h;obtain ⟨u,v,t,rfl,h2,h3,h4⟩:=r;obtain ⟨ks,rfl,rd⟩:=At hl h4
  have:=F9 hk h2
  subst this;exact ⟨(k,v)::ks,rfl,RelD.cons h3 rd⟩
noncomputable def Bh (acc more:List (Key×PyData)):List (Key×PyData):=more.foldl (fun acc kv=>Ge acc kv.1 kv.2) acc
theorem RelD.merge {K:LN} {F:Hp}:∀ {more:List (Key×PyData)} {ms:List (Key×V)} {acc:List (Key×PyData)} {as:List (Key×V)},RelD K F (prs more) ms→RelD K F (prs acc) as→RelD K F (prs (Bh acc more)) (sM as ms)
 | [],ms,acc,as,h,h0=>by rw [h.nil_of]; exact h0
 | (k,d)::more,ms,acc,as,h,h0=>by
  obtain ⟨k2,x,r,rfl,e,h3,h4⟩:=RelD.cons_of (d:=kD k) (e:=d) (es:=prs more) h
  have:=xb e
  subst this;show RelD K F (prs (Bh (Ge acc k d) more)) (sM (mY as k x) r);exact RelD.merge h4 (RelD.put h3 h0)
end
section
variable {X:Cx} {B:Bd} {a b:Expr} {f g:En→Option PyData} {pos:Pos}
theorem E.le (ha:E X B a f) (hb:E X B b g):E X B (.Compare a [.LtE] [b] pos) (l2 pLe f g):=E.cmp yj (pi fun _ _ _=>dZ) (nomark b) ha hb
end
noncomputable def Itel (K:LN) (l:Addr) (n:Nat):It :=
 ⟨fun i H=>i < n∧∃ xs x,SqL K H l xs∧xs.length=n∧xs[i]?=some x,fun i H v H'=>∃ T x,H T=none∧(∀ xs,SqL K H l xs→xs[i]?=some x)∧v=.ref T∧H'=upd H T (.tup [.int (i:Nat),x]),fun i H=>i=n∧∃ xs,SqL K H l xs∧xs.length=n⟩
theorem A7 {P:Program} {w:World} {K:LN} {elts:List Expr} {k:Nat} {tp:Pos} {e it l:Addr} {n:Nat} (hei:e≠it) (hel:e≠l) (hli:l≠it) :
  Turn P w K (.Tuple elts k tp) (Itel K l n) [e,it] e (fun i h=>(∃ old,IsEnum h e it i old)∧h.IsListIter it l i) where
 mem:=by simp
 obj:=fun i h st b hb=>by
  obtain ⟨⟨old,he⟩,hs⟩:=st;rcases Mb.mp hb with rfl | hb
  ·exact ⟨_,he,fun v z=>by cases z⟩
  ·rw [Mi.mp hb];obtain ⟨o,ho,hcl,hd⟩:=hs;exact ⟨o,ho,fun v z=>by rw [hd] at z; cases z⟩
 keep:=fun i h h' st kk=>by
  obtain ⟨⟨old,he⟩,hs⟩:=st;exact ⟨⟨old,kk e (by simp) _ he⟩,hs.at fun o q=>kk it (by simp) o q⟩
 item:=by
  intro X hP hw hK hc i pins s σ H E I hf st hg;subst hP hw hK;obtain ⟨hin,xs,x,hq,hxl,hx⟩:=hg;obtain ⟨its,rv,pl,hz⟩:=I.list hq;obtain ⟨u,hu,ru⟩:=rv.get hx;have hlen:its.toArray.size=n:=by rw [LZ,← rv.length]; exact hxl
  have W:=WalksT.enumerateD (prog:=X.prog) (w:=X.w) (A:=X.A) (Draws.list (A:=X.A.in1) (I.ok.hd hc) it l hli its.toArray) e hei (by simp; exact ⟨hei,hel⟩) (by simp);refine W.item i s _ _ (by rw [hlen]; exact hin) ⟨st.1,st.2,pl.isList⟩ fun T vals h' tk Pt hT hIs Md kp=>⟨.ref T,rfl,?_⟩;refine W.go elts k tp i T _ _ _ Md fun h'' st'' kp''=>?_;obtain ⟨t,xv,hxv,rfl⟩:=Pt;have exu:xv=u:=by
   have:its.toArray[i]?=some u:=by simpa using hu
   rw [this] at hxv;exact (Option.some.inj hxv).symm
  subst exu;have nT:H T=none:=I.hok.fresh hT;have aT:T∉[e,it]:=fun hb=>by
   have:=W.apart i T _ Md
   refine this ?_;rcases Mb.mp hb with z | z
   ·rw [z]; simp
   ·rw [Mi.mp z]; simp
  have kall:∀ b o,b∉[e,it]→s.heap.get? b=some o→h''.get? b=some o:=fun b o hb q=>kp'' b o hb (kp b o hb q);have hIs'':IsTup h'' T #[.int i t,xv]:=by
   obtain ⟨o,ho,hcl,n,hd⟩:=hIs;exact ⟨o,kp'' T o aT ho,hcl,n,hd⟩
  have ltT:∀ b o,s.heap.get? b=some o→b≠T:=fun b o q=>Mg (L5 (Heap.lt_size q) hT);have nfp:∀ b o,H b=some o→b∉[e,it]:=fun b o q hb=>by rw [(hf b hb).1] at q; cases q
  have J:Inv X pins σ (upd H T (.tup [.int (i:Nat),x])) { s with heap:=h'',toks:=tk }:=by
   refine I.step (h':=h'') (g':=s.gens) (d':=s.drawn) (t':=tk) (ch:=[e,it]) (fun b hb=>⟨(hf b hb).2.2.2.1,(hf b hb).2.1,(hf b hb).2.2.2.2.1,(hf b hb).2.2.2.2.2⟩)
    (fun b o _ _ hb q _=>kall b o hb q) (fun b o _ _ hb q _=>⟨o.slots,kall b o hb q⟩) (fun b o _ q n=>by rw [aE (ltT b o q)]; exact n) (fun b o hb q=>⟨o,kall b o hb q⟩)
    (fun b xs q=>by rw [aE (aM q nT)]; exact q) (fun b o xs q=>by rw [aE (aM q nT)]; exact q) (fun b ps q=>⟨#[],by rw [aE (aM q nT),q]; simp⟩) (fun m hm=>?_) (fun b o q=>?_) I.bare
   ·obtain ⟨o,es,ep,ho,r⟩:=hm;refine ⟨o,es,ep,kall _ o (fun hb=>?_) ho,r⟩;exact (hf _ hb).2.1 rfl
   ·by_cases hb:b=T
    ·subst hb;rw [aD] at q;cases q;exact ⟨by show 2≤sizeLine; decide,[.int i t,xv],.cons ⟨t,rfl⟩ (.cons ru .nil),hIs''⟩
    ·rw [aE hb] at q;refine (I.hok b o q).stay (fun c' v hc' z=>kall c' v ?_ z) (fun c' z=>by rw [aE (aM z nT)]; exact z) fun c' xs z=>by rw [aE (aM z nT)]; exact z
     rcases hc' with rfl | hc'
     ·exact nfp _ _ q
     ·exact nfp _ _ hc'
  refine ⟨.ref T,upd H T (.tup [.int (i:Nat),x]),J,rfl,⟨T,x,nT,fun ys hy=>by rw [I.list_inj hy hq]; exact hx,rfl,rfl⟩,⟨st''.1,st''.2.1⟩,fun b hb=>?_⟩;have nb:b≠T:=fun z=>aT (by rw [← z]; exact hb);rw [aE nb]; exact (hf b hb).1
 done:=by
  intro X hP hw hK hc i pins s σ H E I hf st hg;subst hP hw hK;obtain ⟨hin,xs,hq,hxl⟩:=hg;obtain ⟨its,rv,pl,hz⟩:=I.list hq;have hlen:its.toArray.size=n:=by rw [LZ,← rv.length]; exact hxl
  have W:=WalksT.enumerateD (prog:=X.prog) (w:=X.w) (A:=X.A) (Draws.list (A:=X.A.in1) (I.ok.hd hc) it l hli its.toArray) e hei (by simp; exact ⟨hei,hel⟩) (by simp);rw [hin,← hlen] at st;refine W.done s _ _ ⟨st.1,st.2,pl.isList⟩ fun h' tk kp=>⟨rfl,?_⟩;have nfp:∀ b o,H b=some o→b∉[e,it]:=fun b o q hb=>by rw [(hf b hb).1] at q; cases q
  refine I.step (h':=h') (g':=s.gens) (d':=s.drawn) (t':=tk) (ch:=[e,it]) (fun b hb=>⟨(hf b hb).2.2.2.1,(hf b hb).2.1,(hf b hb).2.2.2.2.1,(hf b hb).2.2.2.2.2⟩)
   (fun b o _ _ hb q _=>kp b o hb q) (fun b o _ _ hb q _=>⟨o.slots,kp b o hb q⟩) (fun _ _ _ _ n=>n) (fun b o hb q=>⟨o,kp b o hb q⟩)
   (fun _ _ q=>q) (fun _ _ _ q=>q) (fun b ps q=>⟨#[],by rw [q]; simp⟩) (fun m hm=>?_) (fun b o q=>?_) I.bare
  ·obtain ⟨o,es,ep,ho,r⟩:=hm;exact ⟨o,es,ep,kp _ o (fun hb=>(hf _ hb).2.1 rfl) ho,r⟩
  ·refine (I.hok b o q).stay (fun c' v hc' z=>kp c' v ?_ z) (fun _ z=>z) fun _ _ z=>z;rcases hc' with rfl | hc'
   ·exact nfp _ _ q
   ·exact nfp _ _ hc'
 self:=fun A i s Q E st h=>by
  obtain ⟨⟨old,he⟩,hs⟩:=st;exact wpAny_pyIter_enum he h
section
variable {X:Cx} {B:Bd} {a:Expr} {fs:En→Option (List PyData)} {pos pp:Pos}
noncomputable def enL (ds:List PyData):Option (List PyData):=match ds with
 | [.list xs]=>some (nv xs 0)
 | _=>none
theorem Dh {K:LN} {F:Hp} {l:Addr} {ds:List PyData} {xs:List V} (hq:SqL K F l xs) (rs:RelL K F ds xs):ItP K (Itel K l ds.length) F (nv ds 0):=fun F1 H1 i s1 s2=>by
 have hq1:SqL K H1 l xs:=s2.seq (s1.seq hq);refine ⟨fun d e=>?_,fun e=>⟨by rw [e,rA],xs,hq1,rs.length⟩⟩;have hi:i < ds.length:=by
  have:=(LT.mp e).1
  rwa [rA] at this
 obtain ⟨cd,h1,h2⟩:=u0 _ _ _ _ e;obtain ⟨x,hx,rx⟩:=rs.get h1;refine ⟨⟨hi,xs,x,hq1,rs.length,hx⟩,fun v H2 y=>?_⟩;obtain ⟨T,x',hT,hxx,rfl,rfl⟩:=y
 have:=(hxx xs hq1).symm.trans hx
 cases this;rw [Nat.zero_add] at h2;subst h2;have g:=Gr.one (o:=.tup [.int (i:Nat),x]) s2 hT;exact ⟨_,g,jT (SqT.of aD) (.cons dO (.cons (rx.mono (s1.trans g.ff)) .nil))⟩
theorem I.enumL {elts:List Expr} {k:Nat} {tp:Pos} (hc:X.calm=true) (hm:X.mg "enumerate" = none) (ha:A X B [a] fs) (hg:Gl X "enumerate" := by rfl) (hs:starEach [a] X.env=[(false,eval a X.env)]:=by exact bW rfl) :
  I X B (.Tuple elts k tp) (.Call (.Name "enumerate" pp) [a] [] pos) (fun η=>(fs η).bind enL):=by
 intro pins s σ H R I ⟨F,η,ds,sr,hd,q⟩;obtain ⟨es,h1,hd⟩:=bind_some hd;unfold enL at hd;split at hd
 ·rename_i x;cases hd;refine Call_ (sR I hg hm boot_enumerate (PyProof.Rows.callWith_type1 (thn (ha pos pins s σ H (fun vs H1=>∃ F',Gr F H F' H1∧RelL X.K F' [.list x] vs) I ⟨F,η,_,sr,h1,fun vs F' H' g r=>⟨F',g,r⟩⟩) fun us s1 ⟨vs,H1,I1,r1,F1,g1,rl⟩=>?_) hs rfl));obtain ⟨y,r,rfl,ry,rr⟩:=rl.cons_of;obtain rfl:=rr.nil_of;obtain ⟨u,rfl,ru⟩:=pQ r1;obtain ⟨p,xs,rfl,hq,rs⟩:=ry.lst;cases ru;obtain ⟨its,rv,pl,hz⟩:=I1.list (g1.fh.seq hq);have hpl:p < s1.heap.objs.size:=by
   obtain ⟨o,ho,_⟩:=pl.isList;exact Heap.lt_size ho
  refine call_enumerate_list pl.isList fun h' he hit hsz hk=>?_;refine wpAny_pyIter_enum he ?_;have I2:Inv X pins σ H1 { s1 with heap:=h' }:=I1.kept (t':=s1.toks) hk;have nw:∀ b,s1.heap.objs.size≤b→rf X pins H1 b:=fun b hb=>I1.fpOk hb (I1.hok.fresh hb);have fpo:∀ b∈[s1.heap.objs.size+1,s1.heap.objs.size],rf X pins H1 b:=fun b hb=>by
   rcases Mb.mp hb with rfl | hb
   ·exact nw _ (Nat.le_succ _)
   ·rw [Mi.mp hb]; exact nw _ (LS _)
  exact ⟨_,_,_,_,H1,rfl,I2,A7 (e:=s1.heap.objs.size+1) (it:=s1.heap.objs.size) (l:=p) (n:=x.length) (Nat.succ_ne_self _) (Nb (Nat.lt_succ_of_lt hpl)) (Mg hpl),⟨⟨_,he⟩,hit⟩,fpo,q _ F1 H1 g1 (Dh hq rs)⟩
 ·cases hd
end
section
variable {prog:Program} {w:World} {A:Around} {E:Value→Shared→Prop} {s:Shared} {T:String} {r d:Addr} {n:Nat} {P:Nat→Value→Prop} {OK:Heap→Prop}
theorem AN {Q:List Value→Shared→Prop} (K:PySem.W.KdlSrc prog w T r d n P OK) (hh:A.handled=none) (hok:OK s.heap) (hn:n≤sizeLine)
  (hQ:∀ h' tk (acc':Array Value),(∀ b o,s.heap.get? b=some o→h'.get? b=some o)→s.heap.objs.size < h'.objs.size→ItemsOf P acc' n→Q acc'.toList { s with heap:=h',toks:=tk }) :
  wpAny (model prog w) A (collect (.ref r)) Q E s:=by
 unfold collect;refine wpAny_bind (wpAny_runValue (codeAny_builtin entry_proto_collect' ?_));show wpAny _ _ (do again (.builtin "list.__iadd__" ⟨[← newList [],.ref r],[]⟩)) _ _ s;refine wpAny_bind (wpAny_newList (wpAny_pure ⟨Code.quiet_builtin _ (by decide +kernel),codeAny_builtin entry_list_iadd' ?_⟩));show wpAny _ _ (Builtin.List.listExtendWith (.ref s.heap.objs.size) (.ref r) (.ref s.heap.objs.size)) _ _ { s with heap:=s.heap.push (seqObj "list" #[] 0) };have hlt:=K.there _ hok;rw [Around.under_plainId (by decide +kernel)];have fin:∀ h' tk (acc':Array Value) c',(∀ b o,s.heap.get? b=some o→h'.get? b=some o)→h'.get? s.heap.objs.size=some { cls:=.type "list", dict:=none,data:=.seq acc' c',slots:=#[] }→ItemsOf P acc' n →
   wpAny (model prog w) A (do
   let o ← load s.heap.objs.size
   match o.data with
   | .seq xs _=>pure xs.toList
   | _=>unsupported "internal:collect") Q E { s with heap:=h',toks:=tk }:=fun h' tk acc' c' hk hS' hacc=>wpAny_bind (wpAny_load hS' (wpAny_pure (hQ h' tk acc' hk (Heap.lt_size hS') hacc)))
 refine wpAny_mono (PySem.W.kdl_extend (s:={ s with heap:=s.heap.push (seqObj "list" #[] 0) }) (R:=fun r s'=>∃ h' tk acc' c',r=.ok (.ret (.ref s.heap.objs.size))∧s'={ s with heap:=h',toks:=tk }∧(∀ b o,s.heap.get? b=some o→h'.get? b=some o) ∧
   h'.get? s.heap.objs.size=some { cls:=.type "list", dict:=none,data:=.seq acc' c',slots:=#[] }∧ItemsOf P acc' n) K hh (K.keep _ _ hok fun b _ o e=>Heap.get?_push_of_some _ e) s.heap.objs.size (Nb hlt.1) (Nb hlt.2) (.ref s.heap.objs.size) 0 (Heap.get?_push_size _ rfl)
   (fun h' tk acc' c' hk hS' hacc=>⟨h',tk,acc',c',rfl,rfl,fun b o e=>hk b o (Mg (Heap.lt_size e)) (Heap.get?_push_of_some _ e),hS',hacc⟩) hn) (fun f s' hf=>?_) fun e s' he=>?_
 ·cases f with
  | done f =>
   obtain ⟨h',tk,acc',c',e1,e2,e3,e4,e5⟩:=hf;cases e1;subst e2;exact fin h' tk acc' c' e3 e4 e5
  | again c =>
   refine ⟨hf.1,codeAny_mono hf.2 fun r s' hr=>?_⟩;obtain ⟨h',tk,acc',c',e1,e2,e3,e4,e5⟩:=hr;subst e1 e2;exact fin h' tk acc' c' e3 e4 e5
 ·obtain ⟨h',tk,acc',c',e1,_⟩:=he;cases e1
end
section
variable {prog:Program} {w:World} {A:Around} {E:Value→Shared→Prop} {s:Shared} {T:String} {r d:Addr} {n:Nat} {P:Nat→Value→Prop} {OK:Heap→Prop}
theorem zL {Q:Value→Shared→Prop} {ns:List Int} (K:PySem.W.KdlSrc prog w T r d n P OK) (hh:A.handled=none) (hok:OK s.heap) (h64:n < 64)
  (hP:∀ acc:Array Value,ItemsOf P acc n→IntsAre acc.toList ns)
  (h:∀ (h':Heap) (p:Addr) (tk c:Nat) (out:Array Value) (ns':List Int),IntsAre out.toList ns'→ns'.Perm ns→ns'.Pairwise (·≤·)→(∀ b o,s.heap.get? b=some o→h'.get? b=some o)→s.heap.objs.size≤p→h'.get? p=some (seqObj "list" out c)→Q (.ref p) { s with heap:=h',toks:=tk }) :
  wpAny (model prog w) A (call (.builtin "sorted") [.ref r]) Q E s:=by
 refine Calls.call_function_entry kind_sorted plain_sorted entry_sorted (args_sorted1 _) ?_;unfold Builtin.«sorted»;refine wpAny_bind (m:=checkCount "sorted" 1 1 _) (wpAny_pure ?_);refine wpAny_bind (AN K hh hok (by rw [sizeLine_eq]; omega) fun h' tk acc' kp hsz hit=>?_);have hl:acc'.toList.length < 64:=by rw [Array.length_toList,hit.1]; exact h64
 refine wpAny_bind (wpAny_newList ?_ (hsz:=by rw [sizeLine_eq]; omega));have hoL:(h'.push (seqObj "list" acc'.toList.toArray 0)).get? h'.objs.size=some (seqObj "list" acc'.toList.toArray 0):=Heap.get?_push_size _ rfl;show wpAny _ _ _ _ _ { s with heap:=h'.push (seqObj "list" acc'.toList.toArray 0),toks:=tk };refine wpAny_bind (wpAny_holding (wpAny_call_entry slot_list_sort ⟨_,hoL,rfl⟩ entry_list_sort (list_sort_tree hoL (hP acc' hit) hl fun out ns' a1 a2 a3=>⟨_,rfl,?_⟩) (args_list_sort _)));obtain ⟨c,hc⟩:=sortedHeap_at (out:=out) hoL;refine wpAny_pure ⟨_,rfl,h _ _ tk c out ns' a1 a2 a3 (fun b o e=>?_) ?_ hc⟩
 ·have h1:=kp b o e;have lt:=Heap.lt_size h1;show (sortedHeap (h'.push (seqObj "list" acc'.toList.toArray 0)) h'.objs.size acc'.toList out).get? b=some o;rw [sortedHeap_old (Mg lt) (by rw [size_push']; exact Nat.lt_succ_of_lt lt)];exact Heap.get?_push_of_some _ h1
 ·exact Nl hsz
end
section
variable {X:Cx} {B:Bd} {e:Expr} {f g:En→Option PyData} {fs:En→Option (List PyData)} {pos pp:Pos}
noncomputable def Gb:List V→Hp→VK→Prop:=fun xs H Q=>∃ (p:Addr) (ks:List (Key×V)) (ns:List Int),xs=[.ref p]∧Rd H p (.dK ks)∧ks.map (·.1)=ns.map Sum.inl∧ns.length < 64∧∀ l,H l=none→Q (.ref l) (upd H l (.lst ((qg ns).map V.int)))
theorem yo {P:Program} {w:World}:∀ (ns:List Int) (vs:List (Key×Value)) (l:List Value),vs.map (·.1)=ns.map Sum.inl→l.length=vs.length→(∀ (j:Nat) v,l[j]?=some v→∃ k x,vs[j]?=some (k,x)∧(eM P w).is k v=true)→IntsAre l ns
 | [],vs,l,h1,h2,_=>by
  have:vs=[]:=by simpa using h1
  subst this
  have:l=[]:=Nc h2
  subst this;exact .nil
 | n::ns,vs,l,h1,h2,h3=>by
  cases vs with
  | nil=>simp at h1
  | cons b bs =>
   cases l with
   | nil=>simp at h2
   | cons v l =>
    obtain ⟨k,x,e1,e2⟩:=h3 0 v rfl;have eb:b=(k,x):=by simpa using e1
    rw [LW,LW] at h1;injection h1 with h4 h5
    have hk:k=Sum.inl n:=by rw [eb] at h4; exact h4
    subst hk;obtain ⟨t,rfl⟩:=(show ∃ t,v=Value.int n t from GJ (k:=Sum.inl n) (show vE (Sum.inl n) v=true from e2));refine .cons n t (yo (P:=P) (w:=w) ns bs l h5 (by simpa using h2) fun j v' hv=>?_);obtain ⟨k',x',f1,f2⟩:=h3 (j+1) v' (by simpa using hv);exact ⟨k',x',by simpa using f1,f2⟩
theorem AV (hh:X.A.handled=none):CallR X (.builtin "sorted") Gb:=by
 intro pins s σ H xs us Q I r h;obtain ⟨p,ks,ns,rfl,hp,hk,h64,q⟩:=h;obtain ⟨u,rfl,ru⟩:=pQ r;cases ru;obtain ⟨z,hd,vs,rel,o,es,ep,g,c⟩:=AG I.hok hp;have hl:ks.length=vs.length:=rel.length;have da:s.heap.DictAt (eM X.prog X.w) p vs ep:=⟨o,es,g,c.1,c.2.1,c.2.2⟩;have hkv:vs.map (·.1)=ns.map Sum.inl:=by rw [← rel.keys]; exact hk
 have hln:vs.length=ns.length:=by have:=congrArg List.length hkv; simpa using this
 refine zL (ns:=ns) (PySem.W.kdl_dict hd) hh da (by rw [hln]; exact h64) (fun acc hit=>yo ns vs acc.toList hkv (by rw [Array.length_toList]; exact hit.1) fun k v hv=>hit.2 k v (by simpa using hv)) fun h' l tk c out ns' hS hpm hs kp hle hat=>?_;have e:=yd hpm hs;subst e;have hv:=uH hS;refine ⟨.ref l,_,I.laid (t':=tk) (o:=.lst ((qg ns).map V.int)) kp hle ?_,rfl,q _ (I.hok.fresh hle)⟩;refine ⟨?_,out.toList,c,hv,by simpa using hat⟩;rw [LO,hpm.length_eq,← hln,← hl];exact z
end
mutual
noncomputable def cst:Expr→Option PyData
 | .Constant (.int i) _ _=>some (.int i)
 | .Constant (.str x) _ _=>some (.str x)
 | .Constant (.bool b) _ _=>some (.bool b)
 | .Constant .none _ _=>some .none
 | .UnaryOp .USub a _=>(cst a).bind pA
 | .Tuple es _ _=>(csts es).bind fun ds=>if ds.length≤1000 then some (.tuple ds) else none
 | .List es _=>(csts es).bind fun ds=>if ds.length≤1000 then some (.list ds) else none
 | _=>none
noncomputable def csts:List Expr→Option (List PyData)
 | []=>some []
 | e::r=>(cst e).bind fun d=>(csts r).bind fun ds=>some (d::ds)
end
theorem G0 {e:Expr} {d:PyData} (h:cst e=some d):nst e=true:=by
 cases e <;> first | rfl | (unfold cst at h; cases h)
section
variable {X:Cx} {B:Bd}
theorem CK {n:Nat} (h:n≤1000):n≤sizeLine:=L9 h (by show 1000≤2 ^ 24; decide)
theorem E.same {e:Expr} {f g:En→Option PyData} (h:E X B e f) (k:∀ η,g η=f η):E X B e g:=by
 have:g=f:=funext k
 rw [this]; exact h
theorem A.same {e:List Expr} {f g:En→Option (List PyData)} (h:A X B e f) (k:∀ η,g η=f η):A X B e g:=by
 have:g=f:=funext k
 rw [this]; exact h
mutual
theorem BC:∀ {e:Expr} {d:PyData},cst e=some d→E X B e (eC d)
 | .Constant (.int i) _ _,d,h=>by unfold cst at h; cases h; exact ao
 | .Constant (.str x) _ _,d,h=>by unfold cst at h; cases h; exact aX
 | .Constant (.bool b) _ _,d,h=>by unfold cst at h; cases h; exact E.bl
 | .Constant .none _ _,d,h=>by unfold cst at h; cases h; exact dX
 | .UnaryOp .USub a _,d,h=>by
  unfold cst at h;obtain ⟨x,h1,h2⟩:=bind_some h;exact E.same (qf (BC h1)) fun η=>h2.symm
 | .Tuple es _ _,d,h=>by
  unfold cst at h;obtain ⟨ds,h1,h2⟩:=bind_some h;split at h2
  ·rename_i hl;cases h2;exact E.same (f7 (zh h1)) fun η=>(if_pos (CK hl)).symm
  ·cases h2
 | .List es _,d,h=>by
  unfold cst at h;obtain ⟨ds,h1,h2⟩:=bind_some h;split at h2
  ·rename_i hl;cases h2;refine E.same (bb (bt (zh h1))) fun η=>?_;show some (PyData.list ds)=((gL ds).bind fun ds=>some (PyData.list ds));unfold gL;rw [if_pos (CK hl)]; rfl
  ·cases h2
theorem zh:∀ {es:List Expr} {ds:List PyData},csts es=some ds→A X B es (fun _=>some ds)
 | [],ds,h=>by unfold csts at h; cases h; exact am
 | e::r,ds,h=>by
  unfold csts at h;obtain ⟨d,h1,h⟩:=bind_some h;obtain ⟨ds',h2,h⟩:=bind_some h;cases h;exact A.same (ab (BC h1) (zh h2) (bW (G0 h1))) fun η=>rfl
end
theorem E.cst {e:Expr} {d:PyData} (h:PU.cst e=some d):E X B e (eC d):=BC h
end
noncomputable def Itz (K:LN) (l1 l2:Addr) (n:Nat):It :=
 ⟨fun i H=>i < n∧∃ xs ys x y,SqL K H l1 xs∧SqL K H l2 ys∧min xs.length ys.length=n∧xs[i]?=some x∧ys[i]?=some y,fun i H v H'=>∃ T x y,H T=none∧(∀ xs,SqL K H l1 xs→xs[i]?=some x)∧(∀ ys,SqL K H l2 ys→ys[i]?=some y)∧v=.ref T∧H'=upd H T (.tup [x,y]),fun i H=>i=n∧∃ xs ys,SqL K H l1 xs∧SqL K H l2 ys∧min xs.length ys.length=n⟩
theorem Dy {P:Program} {w:World} {K:LN} {elts:List Expr} {k:Nat} {tp:Pos} {z TI TO i1 i2 l1 l2:Addr} {n:Nat} (D:ZipApart z TI TO i1 i2 l1 l2) :
  Turn P w K (.Tuple elts k tp) (Itz K l1 l2 n) [z,TI,TO,i1,i2] z (fun i h=>IsZip h z TI TO .none∧IsPair h TI (.ref i1) (.ref i2)∧(∃ a b,IsPair h TO a b)∧h.IsListIter i1 l1 i∧h.IsListIter i2 l2 i) where
 mem:=by simp
 obj:=fun i h st b hb=>by
  obtain ⟨hz,h1,⟨a,c,h2⟩,h3,h4⟩:=st;simp only [Mb,M3,or_false] at hb;rcases hb with rfl | rfl | rfl | rfl | rfl
  ·exact ⟨_,hz,fun v z=>by cases z⟩
  ·exact ⟨_,h1,fun v z=>by cases z⟩
  ·exact ⟨_,h2,fun v z=>by cases z⟩
  ·obtain ⟨o,ho,hcl,hd⟩:=h3;exact ⟨o,ho,fun v z=>by rw [hd] at z; cases z⟩
  ·obtain ⟨o,ho,hcl,hd⟩:=h4;exact ⟨o,ho,fun v z=>by rw [hd] at z; cases z⟩
 keep:=fun i h h' st kk=>by
  obtain ⟨hz,h1,⟨a,c,h2⟩,h3,h4⟩:=st;exact ⟨kk z (by simp) _ hz,kk TI (by simp) _ h1,⟨a,c,kk TO (by simp) _ h2⟩,h3.at fun o q=>kk i1 (by simp) o q,h4.at fun o q=>kk i2 (by simp) o q⟩
 item:=by
  intro X hP hw hK hc i pins s σ H E I hf st hg;subst hP hw hK;obtain ⟨hin,xs,ys,x,y,hq1,hq2,hxl,hx,hy⟩:=hg;obtain ⟨its1,rv1,pl1,hz1⟩:=I.list hq1;obtain ⟨its2,rv2,pl2,hz2⟩:=I.list hq2;obtain ⟨u1,hu1,ru1⟩:=rv1.get hx;obtain ⟨u2,hu2,ru2⟩:=rv2.get hy;have hlen:min its1.toArray.size its2.toArray.size=n:=by rw [LZ,LZ,← rv1.length,← rv2.length]; exact hxl
  have W:=WalksT.zip2 (prog:=X.prog) (w:=X.w) (A:=X.A) (I.ok.hd hc) z TI TO i1 i2 l1 l2 D its1.toArray its2.toArray;obtain ⟨s1,s2,s3,s4,s5⟩:=st;refine W.item i s _ _ (by rw [hlen]; exact hin) ⟨s1,s2,s3,s4,s5,pl1.isList,pl2.isList⟩ fun T vals h' tk Pt hT hIs Md kp=>⟨.ref T,rfl,?_⟩;refine W.go elts k tp i T _ _ _ Md fun h'' st'' kp''=>?_;obtain ⟨xv,yv,hxv,hyv,rfl⟩:=Pt;have exu:xv=u1:=by
   have:its1.toArray[i]?=some u1:=by simpa using hu1
   rw [this] at hxv;exact (Option.some.inj hxv).symm
  have eyu:yv=u2:=by
   have:its2.toArray[i]?=some u2:=by simpa using hu2
   rw [this] at hyv;exact (Option.some.inj hyv).symm
  subst exu eyu;have nT:H T=none:=I.hok.fresh hT;have aT0:T∉[z,TO,i1,i2]:=W.apart i T _ Md;have ltT:∀ b o,s.heap.get? b=some o→b≠T:=fun b o q=>Mg (L5 (Heap.lt_size q) hT);have aT:T∉[z,TI,TO,i1,i2]:=fun hb=>by
   simp only [Mb,M3,or_false,not_or] at hb aT0;rcases hb with e | e | e | e | e
   ·exact aT0.1 e
   ·exact ltT TI _ s2 e.symm
   ·exact aT0.2.1 e
   ·exact aT0.2.2.1 e
   ·exact aT0.2.2.2 e
  have wr:∀ b,b∉[z,TI,TO,i1,i2]→b∉[z,TO,i1,i2]:=fun b hb hm=>hb (by simp only [Mb,M3,or_false] at hm ⊢; rcases hm with e | e | e | e <;> simp [e]);have kall:∀ b o,b∉[z,TI,TO,i1,i2]→s.heap.get? b=some o→h''.get? b=some o:=fun b o hb q=>kp'' b o (wr b hb) (kp b o (wr b hb) q);have hIs'':IsTup h'' T #[xv,yv]:=by
   obtain ⟨o,ho,hcl,n,hd⟩:=hIs;exact ⟨o,kp'' T o aT0 ho,hcl,n,hd⟩
  have nfp:∀ b o,H b=some o→b∉[z,TI,TO,i1,i2]:=fun b o q hb=>by rw [(hf b hb).1] at q; cases q
  have J:Inv X pins σ (upd H T (.tup [x,y])) { s with heap:=h'',toks:=tk }:=by
   refine I.step (h':=h'') (g':=s.gens) (d':=s.drawn) (t':=tk) (ch:=[z,TI,TO,i1,i2]) (fun b hb=>⟨(hf b hb).2.2.2.1,(hf b hb).2.1,(hf b hb).2.2.2.2.1,(hf b hb).2.2.2.2.2⟩)
    (fun b o _ _ hb q _=>kall b o hb q) (fun b o _ _ hb q _=>⟨o.slots,kall b o hb q⟩) (fun b o _ q n=>by rw [aE (ltT b o q)]; exact n) (fun b o hb q=>⟨o,kall b o hb q⟩)
    (fun b xs q=>by rw [aE (aM q nT)]; exact q) (fun b o xs q=>by rw [aE (aM q nT)]; exact q) (fun b ps q=>⟨#[],by rw [aE (aM q nT),q]; simp⟩) (fun m hm=>?_) (fun b o q=>?_) I.bare
   ·obtain ⟨o,es,ep,ho,r⟩:=hm;refine ⟨o,es,ep,kall _ o (fun hb=>?_) ho,r⟩;exact (hf _ hb).2.1 rfl
   ·by_cases hb:b=T
    ·subst hb;rw [aD] at q;cases q;exact ⟨by show 2≤sizeLine; decide,[xv,yv],.cons ru1 (.cons ru2 .nil),hIs''⟩
    ·rw [aE hb] at q;refine (I.hok b o q).stay (fun c' v hc' z=>kall c' v ?_ z) (fun c' z=>by rw [aE (aM z nT)]; exact z) fun c' xs z=>by rw [aE (aM z nT)]; exact z
     rcases hc' with rfl | hc'
     ·exact nfp _ _ q
     ·exact nfp _ _ hc'
  refine ⟨.ref T,upd H T (.tup [x,y]),J,rfl,⟨T,x,y,nT,fun zs hz=>by rw [I.list_inj hz hq1]; exact hx,fun zs hz=>by rw [I.list_inj hz hq2]; exact hy,rfl,rfl⟩,⟨st''.1,st''.2.1,st''.2.2.1,st''.2.2.2.1,st''.2.2.2.2.1⟩,fun b hb=>?_⟩;have nb:b≠T:=fun z=>aT (by rw [← z]; exact hb);rw [aE nb]; exact (hf b hb).1
 done:=by
  intro X hP hw hK hc i pins s σ H E I hf st hg;subst hP hw hK;obtain ⟨hin,xs,ys,hq1,hq2,hxl⟩:=hg;obtain ⟨its1,rv1,pl1,hz1⟩:=I.list hq1;obtain ⟨its2,rv2,pl2,hz2⟩:=I.list hq2;have hlen:min its1.toArray.size its2.toArray.size=n:=by rw [LZ,LZ,← rv1.length,← rv2.length]; exact hxl
  have W:=WalksT.zip2 (prog:=X.prog) (w:=X.w) (A:=X.A) (I.ok.hd hc) z TI TO i1 i2 l1 l2 D its1.toArray its2.toArray;rw [hin,← hlen] at st;obtain ⟨s1,s2,s3,s4,s5⟩:=st;have wr:∀ b,b∉[z,TI,TO,i1,i2]→b∉[z,TO,i1,i2]:=fun b hb hm=>hb (by simp only [Mb,M3,or_false] at hm ⊢; rcases hm with e | e | e | e <;> simp [e]);refine W.done s _ _ ⟨s1,s2,s3,s4,s5,pl1.isList,pl2.isList⟩ fun h' tk kp=>⟨rfl,?_⟩;have nfp:∀ b o,H b=some o→b∉[z,TI,TO,i1,i2]:=fun b o q hb=>by rw [(hf b hb).1] at q; cases q
  refine I.step (h':=h') (g':=s.gens) (d':=s.drawn) (t':=tk) (ch:=[z,TI,TO,i1,i2]) (fun b hb=>⟨(hf b hb).2.2.2.1,(hf b hb).2.1,(hf b hb).2.2.2.2.1,(hf b hb).2.2.2.2.2⟩)
   (fun b o _ _ hb q _=>kp b o (wr b hb) q) (fun b o _ _ hb q _=>⟨o.slots,kp b o (wr b hb) q⟩) (fun _ _ _ _ n=>n) (fun b o hb q=>⟨o,kp b o (wr b hb) q⟩)
   (fun _ _ q=>q) (fun _ _ _ q=>q) (fun b ps q=>⟨#[],by rw [q]; simp⟩) (fun m hm=>?_) (fun b o q=>?_) I.bare
  ·obtain ⟨o,es,ep,ho,r⟩:=hm;exact ⟨o,es,ep,kp _ o (wr _ fun hb=>(hf _ hb).2.1 rfl) ho,r⟩
  ·refine (I.hok b o q).stay (fun c' v hc' z=>kp c' v (wr _ ?_) z) (fun _ z=>z) fun _ _ z=>z;rcases hc' with rfl | hc'
   ·exact nfp _ _ q
   ·exact nfp _ _ hc'
 self:=fun A i s Q E st h=>wpAny_pyIter_zip st.1 h
section
variable {X:Cx} {B:Bd} {a b:Expr} {fs:En→Option (List PyData)} {pos pp:Pos}
noncomputable def zpD:List PyData→List PyData→List PyData
 | x::xs,y::ys=>.tuple [x,y]::zpD xs ys
 | _,_=>[]
noncomputable def zpL (ds:List PyData):Option (List PyData):=match ds with
 | [.list xs,.list ys]=>some (zpD xs ys)
 | _=>none
theorem yB:∀ xs ys:List PyData,(zpD xs ys).length=min xs.length ys.length
 | [],ys=>by simp [zpD]
 | x::xs,[]=>by simp [zpD]
 | x::xs,y::ys=>by rw [zpD,L1,yB xs ys,L1,L1]; omega
theorem BO:∀ (xs ys:List PyData) (i:Nat) (d:PyData),(zpD xs ys)[i]?=some d→∃ x y,xs[i]?=some x∧ys[i]?=some y∧d=.tuple [x,y]
 | [],ys,i,d,h=>by simp [zpD] at h
 | x::xs,[],i,d,h=>by simp [zpD] at h
 | x::xs,y::ys,0,d,h=>by simp [zpD] at h; exact ⟨x,y,rfl,rfl,h.symm⟩
 | x::xs,y::ys,i+1,d,h=>by
  rw [zpD,List.getElem?_cons_succ] at h;obtain ⟨a,b,h1,h2,h3⟩:=BO xs ys i d h;exact ⟨a,b,by simpa using h1,by simpa using h2,h3⟩
theorem GM {K:LN} {F:Hp} {l1 l2:Addr} {ds es:List PyData} {xs ys:List V} (hq1:SqL K F l1 xs) (hq2:SqL K F l2 ys) (r1:RelL K F ds xs) (r2:RelL K F es ys):ItP K (Itz K l1 l2 (min ds.length es.length)) F (zpD ds es):=fun F1 H1 i s1 s2=>by
 have q1:SqL K H1 l1 xs:=s2.seq (s1.seq hq1);have q2:SqL K H1 l2 ys:=s2.seq (s1.seq hq2);have hl:min xs.length ys.length=min ds.length es.length:=by rw [r1.length,r2.length]
 refine ⟨fun d e=>?_,fun e=>⟨by rw [e,yB],xs,ys,q1,q2,hl⟩⟩;have hi:i < min ds.length es.length:=by
  have:=(LT.mp e).1
  rwa [yB] at this
 obtain ⟨x,y,h1,h2,h3⟩:=BO _ _ _ _ e;obtain ⟨vx,hx,rx⟩:=r1.get h1;obtain ⟨vy,hy,ry⟩:=r2.get h2;refine ⟨⟨hi,xs,ys,vx,vy,q1,q2,hl,hx,hy⟩,fun v H2 z=>?_⟩;obtain ⟨T,x',y',hT,hxx,hyy,rfl,rfl⟩:=z;have e1:=(hxx xs q1).symm.trans hx;have e2:=(hyy ys q2).symm.trans hy;cases e1;cases e2;subst h3;have g:=Gr.one (o:=.tup [vx,vy]) s2 hT;exact ⟨_,g,jT (SqT.of aD) (.cons (rx.mono (s1.trans g.ff)) (.cons (ry.mono (s1.trans g.ff)) .nil))⟩
end
section
variable {X:Cx} {B:Bd} {a b:Expr} {fs:En→Option (List PyData)} {pos pp:Pos}
theorem I.zip {elts:List Expr} {k:Nat} {tp:Pos} (hm:X.mg "zip" = none) (ha:A X B [a,b] fs) (hg:Gl X "zip" := by rfl) (hs:starEach [a,b] X.env=(false,eval a X.env)::starEach [b] X.env:=by exact bW rfl) (hpl:(backTo pos (starEach [b] X.env)).any (·.1)=false:=by exact iW rfl) :
  I X B (.Tuple elts k tp) (.Call (.Name "zip" pp) [a,b] [] pos) (fun η=>(fs η).bind zpL):=by
 intro pins s σ H R I ⟨F,η,ds,sr,hd,q⟩;obtain ⟨es,h1,hd⟩:=bind_some hd;unfold zpL at hd;split at hd
 ·rename_i x y;cases hd;refine Call_ (sR I hg hm boot_zip (PyProof.Rows.callWith_type1 (thn (ha pos pins s σ H (fun vs H1=>∃ F',Gr F H F' H1∧RelL X.K F' [.list x,.list y] vs) I ⟨F,η,_,sr,h1,fun vs F' H' g r=>⟨F',g,r⟩⟩) fun us s1 ⟨vs,H1,I1,r1,F1,g1,rl⟩=>?_) hs hpl));obtain ⟨v1,r,rfl,ry1,rr⟩:=rl.cons_of;obtain ⟨v2,r',rfl,ry2,rr⟩:=rr.cons_of;obtain rfl:=rr.nil_of;obtain ⟨p1,xs,rfl,hq1,rs1⟩:=ry1.lst;obtain ⟨p2,ys,rfl,hq2,rs2⟩:=ry2.lst;obtain ⟨u1,u2,rfl,ru1,ru2⟩:=Dw r1;cases ru1;cases ru2;obtain ⟨its1,rv1,pl1,hz1⟩:=I1.list (g1.fh.seq hq1);obtain ⟨its2,rv2,pl2,hz2⟩:=I1.list (g1.fh.seq hq2);have hpl1:p1 < s1.heap.objs.size:=by
   obtain ⟨o,ho,_⟩:=pl1.isList;exact Heap.lt_size ho
  have hpl2:p2 < s1.heap.objs.size:=by
   obtain ⟨o,ho,_⟩:=pl2.isList;exact Heap.lt_size ho
  refine call_zip_2 pl1.isList pl2.isList fun h' hz hTI hTO hi1 hi2 hsz hk=>?_;refine wpAny_pyIter_zip hz ?_;have I2:Inv X pins σ H1 { s1 with heap:=h' }:=I1.kept (t':=s1.toks) hk;have nw:∀ b,s1.heap.objs.size≤b→rf X pins H1 b:=fun b hb=>I1.fpOk hb (I1.hok.fresh hb);have fpo:∀ b∈[s1.heap.objs.size+4,s1.heap.objs.size+2,s1.heap.objs.size+3,s1.heap.objs.size,s1.heap.objs.size+1],rf X pins H1 b:=fun b hb=>nw b (by
   simp only [Mb,M3,or_false] at hb;rcases hb with rfl | rfl | rfl | rfl | rfl <;> omega)
  exact ⟨_,_,_,_,H1,rfl,I2,Dy (n:=min x.length y.length) (zipApart_new hpl1 hpl2),⟨hz,hTI,⟨_,_,hTO⟩,hi1,hi2⟩,fpo,q _ F1 H1 g1 (GM hq1 hq2 rs1 rs2)⟩
 ·cases hd
end
section
variable {X:Cx} {B:Bd} {e:Expr} {fs:En→Option (List PyData)} {pos pp:Pos}
noncomputable def DM (K:LN):List V→Hp→VK→Prop:=fun xs H Q=>∃ (p:Addr) (ys:List V),xs=[.ref p]∧SqL K H p ys∧∀ l,H l=none→Q (.ref l) (upd H l (.lst ys))
theorem xo:CallR X (.type "list") (DM X.K):=by
 intro pins s σ H xs us Q I r h;obtain ⟨p,ys,rfl,hp,q⟩:=h;obtain ⟨u,rfl,ru⟩:=pQ r;cases ru;obtain ⟨its,rv,pl,hz⟩:=I.list hp;obtain ⟨o,ho,hc,n,hd⟩:=pl.isList;have hz':ys.length≤sizeLine:=by first | exact hz | (rw [rv.length]; exact hz)
 refine call_list_seq (hsz:=by rw [LZ,← rv.length]; exact hz') p (.inl rfl) ho hc hd fun h' c' hk hD=>?_;exact ⟨.ref s.heap.objs.size,_,I.laid (t':=s.toks) hk (LS _) (o:=.lst ys) ⟨hz',its,c',rv,hD⟩,rfl,q _ (I.hok.fresh (LS _))⟩
noncomputable def uN (ds:List PyData):Option PyData:=match ds with
 | [.list xs]=>some (.list xs)
 | _=>none
theorem AZ {K:LN}:AdA K (DM K) uN:=fun F H xs ds d Q sm rs e q=>by
 unfold uN at e;split at e
 ·rename_i es;cases e;obtain ⟨x,r,rfl,rx,rr⟩:=rs.cons_of;obtain rfl:=rr.nil_of;obtain ⟨a,ys,rfl,hq,r1⟩:=rx.lst;refine ⟨a,ys,rfl,sm.seq hq,fun p hp=>?_⟩;have g:=Gr.one (o:=.lst ys) sm hp;exact q _ _ _ g (jk (SqL.of aD) (r1.mono g.ff))
 ·cases e
theorem E.listL (hm:X.mg "list" = none) (ha:A X B [e] fs) (hg:Gl X "list" := by rfl) (he:starEach [e] X.env=(false,eval e X.env)::starEach [] X.env:=by exact bW rfl) (hpl:(backTo pos (starEach [] X.env)).any (·.1)=false:=by rfl):E X B (.Call (.Name "list" pp) [e] [] pos) (lA uN fs) :=
 E.callTy xo AZ hm (by decide +kernel) ha hg (by decide) (by decide) he hpl
noncomputable def sBk:En→Option Out:=fun η=>some (.bk η)
theorem S.brk:S X B (.Break pos) sBk:=PS.imp DX fun D σ H ⟨F,η,o,sr,hd,q⟩=>by
 cases hd;exact q σ F H sr (.refl _)
end
inductive D where
 | d (x:PyData)
 | r (n:Nat)
inductive Cell where
 | obj (k:Nat) (fs:List (Str×D))
 | lst (ds:List D)
 | dct (kvs:List (Key×D))
 | fz (x:PyData)
noncomputable abbrev Sto:=List Cell
noncomputable abbrev MEn:=List (Option D)
noncomputable def DR (K:LN) (θ:List Addr) (F:Hp):D→V→Prop
 | .d x,v=>Rel K F x v
 | .r n,v=>∃ a,θ[n]?=some a∧v=.ref a
noncomputable abbrev DRs (K:LN) (θ:List Addr) (F:Hp):List D→List V→Prop:=Paired (DR K θ F)
noncomputable abbrev DRf (K:LN) (θ:List Addr) (F:Hp):List (Str×D)→List (Str×V)→Prop:=Paired fun p q=>p.1=q.1∧DR K θ F p.2 q.2
noncomputable abbrev DRk (K:LN) (θ:List Addr) (F:Hp):List (Key×D)→List (Key×V)→Prop:=Paired fun p q=>p.1=q.1∧DR K θ F p.2 q.2
noncomputable def CelR (K:LN) (cl:Nat→Addr) (θ:List Addr) (F H:Hp) (a:Addr):Cell→Prop
 | .obj k fs=>F a=none∧Cls K (cl k)∧(∀ f∈fs.map (·.1),NoAttr K (cl k) f)∧∃ dx xs,H a=some (.ins (cl k) dx xs)∧DRf K θ F fs xs
 | .lst ds=>F a=none∧∃ xs,H a=some (.lst xs)∧DRs K θ F ds xs
 | .dct kvs=>F a=none∧∃ ks,H a=some (.dK ks)∧DRk K θ F kvs ks
 | .fz x=>Rel K F x (.ref a)∧∃ o,H a=some o
structure MR (K:LN) (cl:Nat→Addr) (θ:List Addr) (F H:Hp) (s:Sto):Prop where
 sm:Same F H
 len:θ.length=s.length
 nd:θ.Nodup
 cel:∀ (n:Nat) a c,θ[n]?=some a→s[n]?=some c→CelR K cl θ F H a c
structure MV (K:LN) (θ:List Addr) (F:Hp) (σ:St) (η:MEn):Prop where
 len:η.length=σ.length
 val:∀ (i:Nat) d,η[i]?=some (some d)→∃ v,σ[i]?=some (some v)∧DR K θ F d v
section
variable {K:LN} {cl:Nat→Addr} {θ θ':List Addr} {F F' H H':Hp} {s:Sto} {σ:St} {η:MEn}
theorem lH {α:Type} {l l':List α} (h:l<+:l') {n:Nat} {a:α} (e:l[n]?=some a):l'[n]?=some a:=by
 obtain ⟨t,rfl⟩:=h;rw [LR (LT.mp e).1]; exact e
theorem DR.mono (hp:θ<+:θ') (hs:Same F F'):∀ {d:D} {v:V},DR K θ F d v→DR K θ' F' d v
 | .d _,_,h=>Rel.mono hs h
 | .r _,_,⟨a,e1,e2⟩=>⟨a,lH hp e1,e2⟩
theorem DRs.mono (hp:θ<+:θ') (hs:Same F F') {ds:List D} {vs:List V} (h:DRs K θ F ds vs):DRs K θ' F' ds vs:=Paired.mapP h fun _ _ r=>DR.mono hp hs r
theorem DRf.mono (hp:θ<+:θ') (hs:Same F F') {ds:List (Str×D)} {vs:List (Str×V)} (h:DRf K θ F ds vs):DRf K θ' F' ds vs:=Paired.mapP h fun _ _ r=>⟨r.1,DR.mono hp hs r.2⟩
theorem DRk.mono (hp:θ<+:θ') (hs:Same F F') {ds:List (Key×D)} {vs:List (Key×V)} (h:DRk K θ F ds vs):DRk K θ' F' ds vs:=Paired.mapP h fun _ _ r=>⟨r.1,DR.mono hp hs r.2⟩
theorem MV.mono (hp:θ<+:θ') (hs:Same F F') (h:MV K θ F σ η):MV K θ' F' σ η:=⟨h.len,fun i d e=>let ⟨v,e1,e2⟩:=h.val i d e; ⟨v,e1,e2.mono hp hs⟩⟩
theorem MV.set (h:MV K θ F σ η) (i:Nat) {d:D} {v:V} (r:DR K θ F d v):MV K θ F (σ.set i (some v)) (η.set i (some d)):=by
 refine ⟨by rw [L6,L6]; exact h.len,fun j d' e=>?_⟩;by_cases hj:i=j
 ·subst hj;by_cases hl:i < η.length
  ·rw [LV hl] at e;have e':d=d':=Option.some.inj (Option.some.inj e);subst e';exact ⟨v,by rw [LV (by rw [← h.len]; exact hl)],r⟩
  ·rw [Mj (by rw [L6]; omega)] at e; cases e
 ·rw [LP hj] at e ⊢; exact h.val j d' e
theorem DRs.get {ds:List D} {vs:List V} (h:DRs K θ F ds vs) {i:Nat} {d:D} (e:ds[i]?=some d):∃ v,vs[i]?=some v∧DR K θ F d v:=by
 induction h generalizing i with
 | nil=>simp at e
 | @cons a b as bs r t ih =>
  cases i with
  | zero=>simp at e; subst e; exact ⟨b,rfl,r⟩
  | succ i=>exact ih (by simpa using e)
theorem MR.grow (m:MR K cl θ F H s) (g:Gr F H F' H'):MR K cl θ F' H' s where
 sm:=g.fh
 len:=m.len
 nd:=m.nd
 cel:=fun n a c e1 e2=>by
  have q:=m.cel n a c e1 e2;have fr:F a=none→∀ o,H a=some o→F' a=none:=fun hF o hH=>by
   cases z:F' a with
   | none=>rfl
   | some u =>
    rcases g.new a (by rw [z]; simp) with y | y
    ·exact absurd hF y
    ·rw [hH] at y; cases y
  cases c with
  | obj k fs =>
   obtain ⟨h1,h2,h3,dx,xs,h4,h5⟩:=q;exact ⟨fr h1 _ h4,h2,h3,dx,xs,g.hh _ _ h4,h5.mono (Mf _) g.ff⟩
  | lst ds =>
   obtain ⟨h1,xs,h4,h5⟩:=q;exact ⟨fr h1 _ h4,xs,g.hh _ _ h4,h5.mono (Mf _) g.ff⟩
  | dct kvs =>
   obtain ⟨h1,xs,h4,h5⟩:=q;exact ⟨fr h1 _ h4,xs,g.hh _ _ h4,h5.mono (Mf _) g.ff⟩
  | fz x=>exact ⟨Rel.mono g.ff q.1,let ⟨o,e⟩:=q.2; ⟨o,g.hh _ _ e⟩⟩
noncomputable def Mu:Cell→Bool
 | .fz _=>false
 | _=>true
theorem CelR.mut {a:Addr} {c:Cell} (h:CelR K cl θ F H a c) (hm:Mu c=true):F a=none∧∃ o,H a=some o:=by
 cases c with
 | obj k fs=>obtain ⟨h1,_,_,dx,xs,h4,_⟩:=h; exact ⟨h1,_,h4⟩
 | lst ds=>obtain ⟨h1,xs,h4,_⟩:=h; exact ⟨h1,_,h4⟩
 | dct kvs=>obtain ⟨h1,xs,h4,_⟩:=h; exact ⟨h1,_,h4⟩
 | fz x=>cases hm
theorem CelR.else {a b:Addr} {o:HO} {c:Cell} (h:CelR K cl θ F H a c) (hne:a≠b):CelR K cl θ F (upd H b o) a c:=by
 cases c with
 | obj k fs=>obtain ⟨h1,h2,h3,dx,xs,h4,h5⟩:=h; exact ⟨h1,h2,h3,dx,xs,by rw [aE hne]; exact h4,h5⟩
 | lst ds=>obtain ⟨h1,xs,h4,h5⟩:=h; exact ⟨h1,xs,by rw [aE hne]; exact h4,h5⟩
 | dct kvs=>obtain ⟨h1,xs,h4,h5⟩:=h; exact ⟨h1,xs,by rw [aE hne]; exact h4,h5⟩
 | fz x=>exact ⟨h.1,let ⟨o,e⟩:=h.2; ⟨o,by rw [aE hne]; exact e⟩⟩
theorem CelR.pre {a:Addr} {c:Cell} (hp:θ<+:θ') (h:CelR K cl θ F H a c):CelR K cl θ' F H a c:=by
 cases c with
 | obj k fs=>obtain ⟨h1,h2,h3,dx,xs,h4,h5⟩:=h; exact ⟨h1,h2,h3,dx,xs,h4,h5.mono hp (.refl _)⟩
 | lst ds=>obtain ⟨h1,xs,h4,h5⟩:=h; exact ⟨h1,xs,h4,h5.mono hp (.refl _)⟩
 | dct kvs=>obtain ⟨h1,xs,h4,h5⟩:=h; exact ⟨h1,xs,h4,h5.mono hp (.refl _)⟩
 | fz x=>exact h
theorem HF {l:List Addr} (h:l.Nodup) {i j:Nat} {a b:Addr} (e1:l[i]?=some a) (e2:l[j]?=some b) (hne:i≠j):a≠b:=fun z=>by
 subst z;obtain ⟨l1,q1⟩:=LT.mp e1;obtain ⟨l2,q2⟩:=LT.mp e2;have pw:=List.pairwise_iff_getElem.mp h;rcases Nat.lt_or_gt_of_ne hne with z | z
 ·exact pw i j l1 l2 z (q1.trans q2.symm)
 ·exact pw j i l2 l1 z (q2.trans q1.symm)
theorem MR.put (m:MR K cl θ F H s) {n:Nat} {a:Addr} {c c':Cell} {o:HO} (e1:θ[n]?=some a) (e2:s[n]?=some c) (hm:Mu c=true) (h:CelR K cl θ F (upd H a o) a c'):MR K cl θ F (upd H a o) (s.set n c') where
 sm:=fun b u q=>by
  have nb:b≠a:=aM q (CelR.mut (m.cel n a c e1 e2) hm).1;rw [aE nb]; exact m.sm b u q
 len:=by rw [L6]; exact m.len
 nd:=m.nd
 cel:=fun k b c2 f1 f2=>by
  by_cases hk:n=k
  ·subst hk;rw [LV (LT.mp e2).1] at f2;cases f2;rw [e1] at f1;cases f1;exact h
  ·rw [LP hk] at f2;exact (m.cel k b c2 f1 f2).else (HF m.nd f1 e1 (Ne.symm hk))
theorem CelR.there {a:Addr} {c:Cell} (h:CelR K cl θ F H a c):∃ o,H a=some o:=by
 cases c with
 | obj k fs=>obtain ⟨_,_,_,dx,xs,h4,_⟩:=h; exact ⟨_,h4⟩
 | lst ds=>obtain ⟨_,xs,h4,_⟩:=h; exact ⟨_,h4⟩
 | dct kvs=>obtain ⟨_,xs,h4,_⟩:=h; exact ⟨_,h4⟩
 | fz x=>exact h.2
theorem MR.ne (m:MR K cl θ F H s) {a:Addr} (ha:H a=none) {k:Nat} {b:Addr} (e:θ[k]?=some b):b≠a:=fun z=>by
 subst z;have hk:k < s.length:=by rw [← m.len]; exact (LT.mp e).1
 obtain ⟨o,h⟩:=(m.cel k b _ e (Me hk)).there;rw [ha] at h; cases h
theorem MR.new (m:MR K cl θ F H s) {a:Addr} {c:Cell} {o:HO} (ha:H a=none) (h:CelR K cl (θ++[a]) F (upd H a o) a c):MR K cl (θ++[a]) F (upd H a o) (s++[c]) where
 sm:=fun b u q=>by
  have nb:b≠a:=aM q (m.sm.free ha);rw [aE nb]; exact m.sm b u q
 len:=by rw [LQ,LQ,m.len]; rfl
 nd:=by
  rw [M8];refine ⟨m.nd,by simp,fun b hb b' hb'=>?_⟩;rw [Mi.mp hb'];obtain ⟨k,hk⟩:=NC hb;exact m.ne ha hk
 cel:=fun k b c2 f1 f2=>by
  by_cases hk:k < θ.length
  ·rw [LR hk] at f1;rw [LR (by rw [← m.len]; exact hk)] at f2;exact ((m.cel k b c2 f1 f2).else (m.ne ha f1)).pre (My _ _)
  ·have hk1:k=θ.length:=by
    have:=(LT.mp f1).1
    rw [LQ] at this;have e1:[a].length=1:=rfl;omega
   subst hk1;rw [LY (LS _),Mp] at f1;rw [LY (by rw [m.len]; exact LS _),m.len,Mp] at f2;cases f1;cases f2;exact h
theorem MR.more (m:MR K cl θ F H s) {a:Addr} {o:HO} (ha:H a=none):MR K cl θ F (upd H a o) s where
 sm:=fun b u q=>by
  have nb:b≠a:=aM q (m.sm.free ha);rw [aE nb]; exact m.sm b u q
 len:=m.len
 nd:=m.nd
 cel:=fun k b c f1 f2=>(m.cel k b c f1 f2).else (m.ne ha f1)
end
structure Wd where
 η:MEn
 s:Sto
noncomputable def pD (s:Sto):D→Option PyData
 | .d x=>some x
 | .r n=>match s[n]? with | some (.fz x)=>some x | _=>none
noncomputable def HJ:D→Option PyData
 | .d x=>some x
 | .r _=>none
noncomputable def v5:List D→Option (List PyData)
 | []=>some []
 | d::r=>(HJ d).bind fun x=>(v5 r).bind fun xs=>some (x::xs)
noncomputable def Fa:List (Key×D)→Option (List (Key×PyData))
 | []=>some []
 | (k,d)::r=>(HJ d).bind fun x=>(Fa r).bind fun xs=>some ((k,x)::xs)
noncomputable def lD (s:Sto):D→Option PyData
 | .d x=>some x
 | .r n=>match s[n]? with
  | some (.fz x)=>some x
  | some (.lst ds)=>(v5 ds).bind fun xs=>some (.list xs)
  | some (.dct kvs)=>(Fa kvs).bind fun xs=>some (.dict (prs xs))
  | _=>none
noncomputable def vwS (g:D→Option PyData) (s:Sto):Option D→Sl
 | none=>.un
 | some (.d x)=>.val x
 | some (.r n)=>match s[n]? with
  | some (.obj _ fs)=>.ob fun f=>(fs.lookup f).bind g
  | _=>match g (.r n) with | some x=>.val x | none=>.un
noncomputable def vw (w:Wd):En:=w.η.map (vwS (pD w.s) w.s)
section
variable {K:LN} {cl:Nat→Addr} {θ θ':List Addr} {F F' H H':Hp} {s:Sto} {σ:St} {η:MEn} {w:Wd}
theorem DRf.look {fs:List (Str×D)} {xs:List (Str×V)} (h:DRf K θ F fs xs) (f:Str):(∀ d,fs.lookup f=some d→∃ v,xs.lookup f=some v∧DR K θ F d v)∧(fs.lookup f=none→xs.lookup f=none):=by
 induction h with
 | nil=>exact ⟨fun d e=>(by cases e),fun _=>rfl⟩
 | @cons a b as bs r t ih =>
  obtain ⟨ka,da⟩:=a;obtain ⟨kb,vb⟩:=b;have e:ka=kb:=r.1;subst e;by_cases hk:f=ka
  ·subst hk;simp only [List.lookup_cons_self];exact ⟨fun d e=>(by cases e; exact ⟨vb,rfl,r.2⟩),fun e=>(by cases e)⟩
  ·have hb:(f==ka)=false:=by simpa using hk
   simp only [MU,hb];exact ih
theorem Ap {fs:List (Str×D)} {f:Str} {d:D} (h:fs.lookup f=some d):f∈fs.map (·.1):=by
 induction fs with
 | nil=>cases h
 | cons a r ih =>
  obtain ⟨k,x⟩:=a;by_cases hk:f=k
  ·subst hk; simp
  ·have hb:(f==k)=false:=by simpa using hk
   simp only [MU,hb] at h;exact LX _ (ih h)
noncomputable def Sees (K:LN) (θ:List Addr) (F Fv:Hp) (g:D→Option PyData):Prop:=∀ d x v,g d=some x→DR K θ F d v→Rel K Fv x v
theorem JI {g:D→Option PyData} {Fv:Hp} (m:MR K cl θ F H s) (e:MV K θ F σ η) (hs:Same Fv H) (hg:Sees K θ F Fv g) (hd:∀ x,g (.d x)=some x):SR K ⟨Fv,H⟩ Fv H σ (η.map (vwS g s)):=by
 have no:∀ (i:Nat) a,(η.map (vwS g s))[i]?=some a→lb a=false:=fun i a q=>by
  rw [L8] at q;cases h:η[i]? with
  | none=>rw [h] at q; cases q
  | some o =>
   rw [h] at q;have q':vwS g s o=a:=Option.some.inj q;subst q';unfold vwS
   split
   ·rfl
   ·rfl
   ·split
    ·rfl
    ·split <;> rfl
 refine ⟨.refl hs,⟨by rw [LO]; exact e.len,fun i x q=>?_,fun i a q ha=>(by rw [no i a q] at ha; cases ha),fun i _ a _ q _ ha _ _=>(by rw [no i a q] at ha; cases ha),fun i fs q=>?_⟩⟩
 ·rw [L8] at q;cases h:η[i]? with
  | none=>rw [h] at q; cases q
  | some o =>
   rw [h] at q;have q':vwS g s o=.val x:=Option.some.inj q;unfold vwS at q';split at q'
   ·cases q'
   ·rename_i y
    have:y=x:=by injection q'
    subst this;obtain ⟨v,e1,e2⟩:=e.val i _ h;exact ⟨v,e1,hg _ _ _ (hd y) e2⟩
   ·rename_i n;split at q'
    ·cases q'
    ·split at q'
     ·rename_i y hy
      have:y=x:=by injection q'
      subst this;obtain ⟨v,e1,e2⟩:=e.val i _ h;exact ⟨v,e1,hg _ _ _ hy e2⟩
     ·cases q'
 ·rw [L8] at q;cases h:η[i]? with
  | none=>rw [h] at q; cases q
  | some o =>
   rw [h] at q;have q':vwS g s o=.ob fs:=Option.some.inj q;unfold vwS at q';split at q'
   ·cases q'
   ·cases q'
   ·rename_i n;split at q'
    ·rename_i k fs0 hc
     have:(fun f=>(fs0.lookup f).bind g)=fs:=by injection q'
     subst this;obtain ⟨v,e1,a,e2,e3⟩:=e.val i _ h;subst e3;obtain ⟨h1,h2,h3,dx,xs,h4,h5⟩:=m.cel n a _ e2 hc;refine ⟨a,cl k,dx,xs,e1,h4,h2,fun f d hf=>?_⟩;obtain ⟨D',hl,hx⟩:=bind_some hf;obtain ⟨v,e5,e6⟩:=(h5.look f).1 D' hl;exact ⟨h3 f (Ap hl),v,e5,hg _ _ _ hx e6⟩
    ·split at q' <;> cases q'
theorem nZ (m:MR K cl θ F H s):Sees K θ F F (pD s):=fun d x v h r=>by
 cases d with
 | d y=>cases h; exact r
 | r n =>
  have h:(match s[n]? with | some (.fz x)=>some x | _=>none)=some x:=h;split at h
  ·rename_i y hy;cases h;obtain ⟨a,e1,e2⟩:=r;subst e2;exact (m.cel n a _ e1 hy).1
  ·cases h
theorem MR.vw (m:MR K cl θ F H w.s) (e:MV K θ F σ w.η):SR K ⟨F,H⟩ F H σ (vw w):=JI m e m.sm (nZ m) fun _=>rfl
noncomputable def vC (θ:List Addr) (F H:Hp):Hp:=fun b=>match F b with | some o=>some o | none=>if b∈θ then H b else none
theorem GE (θ:List Addr) (F H:Hp):Same F (vC θ F H):=fun b u q=>by unfold vC; rw [q]
theorem GF {θ:List Addr} {F H:Hp} (h:Same F H):Same (vC θ F H) H:=fun b u q=>by
 unfold vC at q;split at q
 ·rename_i o ho; rw [← q]; exact h _ _ ho
 ·split at q
  ·exact q
  ·cases q
theorem Ct {θ:List Addr} {F H:Hp} {n:Nat} {a:Addr} {o:HO} (e:θ[n]?=some a) (hF:F a=none) (hH:H a=some o):vC θ F H a=some o:=by
 unfold vC;rw [hF];dsimp only;rw [if_pos (NB e)]; exact hH
theorem AK {ds:List D} {xs:List V} (h:DRs K θ F ds xs):∀ {ys:List PyData},v5 ds=some ys→RelL K F ys xs:=by
 induction h with
 | nil=>intro ys e; cases e; exact .nil
 | @cons a b as bs r t ih =>
  intro ys e;unfold v5 at e;obtain ⟨x,h1,e⟩:=bind_some e;obtain ⟨zs,h2,e⟩:=bind_some e;cases e;cases a with
  | d y=>cases h1; exact .cons r (ih h2)
  | r n=>cases h1
theorem E9 {ds:List (Key×D)} {xs:List (Key×V)} (h:DRk K θ F ds xs):∀ {ys:List (Key×PyData)},Fa ds=some ys→RelD K F (prs ys) xs:=by
 induction h with
 | nil=>intro ys e; cases e; exact .nil
 | @cons a b as bs r t ih =>
  intro ys e;obtain ⟨ka,da⟩:=a;obtain ⟨kb,vb⟩:=b;have hk:ka=kb:=r.1;subst hk;unfold Fa at e;obtain ⟨x,h1,e⟩:=bind_some e;obtain ⟨zs,h2,e⟩:=bind_some e;cases e;cases da with
  | d y=>cases h1; exact RelD.cons r.2 (ih h2)
  | r n=>cases h1
theorem DF (m:MR K cl θ F H s):Sees K θ F (vC θ F H) (lD s):=fun d x v h r=>by
 have sm:=GE θ F H;cases d with
 | d y=>cases h; exact Rel.mono sm r
 | r n =>
  have h:(match s[n]? with | some (.fz x)=>some x | some (.lst ds)=>(v5 ds).bind fun xs=>some (.list xs) | some (.dct kvs)=>(Fa kvs).bind fun xs=>some (.dict (prs xs)) | _=>none)=some x:=h;obtain ⟨a,e1,e2⟩:=r;subst e2;split at h
  ·rename_i y hy;cases h;exact Rel.mono sm (m.cel n a _ e1 hy).1
  ·rename_i ds hy;obtain ⟨ys,h1,h2⟩:=bind_some h;cases h2;obtain ⟨q1,xs,q2,q3⟩:=m.cel n a _ e1 hy;exact jk (SqL.of (Ct e1 q1 q2)) ((AK q3 h1).mono sm)
  ·rename_i kvs hy;obtain ⟨ys,h1,h2⟩:=bind_some h;cases h2;obtain ⟨q1,ks,q2,q3⟩:=m.cel n a _ e1 hy;exact BX (.inl (Ct e1 q1 q2)) ((E9 q3 h1).mono sm)
  ·cases h
end
noncomputable abbrev MF:=Wd→Option (D×Sto)
noncomputable abbrev MFs:=Wd→Option (List D×Sto)
section
variable (K:LN) (cl:Nat→Addr)
noncomputable def tM (f:MF):TE:=fun σ H Q=>∃ θ F w d s',MR K cl θ F H w.s∧MV K θ F σ w.η∧f w=some (d,s')∧∀ v θ' F' H',θ<+:θ'→Same F F'→MR K cl θ' F' H' s'→DR K θ' F' d v→Q v H'
noncomputable def tMT (f:Wd→Option (Bool×Sto)):TT:=fun σ H Q=>∃ θ F w b s',MR K cl θ F H w.s∧MV K θ F σ w.η∧f w=some (b,s')∧∀ θ' F' H',θ<+:θ'→Same F F'→MR K cl θ' F' H' s'→Q b H'
noncomputable def tMA (f:MFs):TA:=fun σ H Q=>∃ θ F w ds s',MR K cl θ F H w.s∧MV K θ F σ w.η∧f w=some (ds,s')∧∀ vs θ' F' H',θ<+:θ'→Same F F'→MR K cl θ' F' H' s'→DRs K θ' F' ds vs→Q vs H'
end
noncomputable def ME (X:Cx) (cl:Nat→Addr) (e:Expr) (f:MF):Prop:=PE X e (tM X.K cl f)
noncomputable abbrev MTF:=Wd→Option (Bool×Sto)
noncomputable def MT (X:Cx) (cl:Nat→Addr) (e:Expr) (f:MTF):Prop:=PT X e (tMT X.K cl f)
noncomputable def MTW (X:Cx) (cl:Nat→Addr) (e:Expr) (f:MTF):Prop:=PW X e (tMT X.K cl f)
noncomputable def MA (X:Cx) (cl:Nat→Addr) (es:List Expr) (f:MFs):Prop:=PA X es (tMA X.K cl f)
noncomputable def mP (f:En→Option PyData):MF:=fun w=>(f (vw w)).bind fun x=>some (.d x,w.s)
noncomputable def mN (f:En→Option (List PyData)):MF:=fun w=>(f (vw w)).bind fun xs=>some (.r w.s.length,w.s++[.lst (xs.map .d)])
noncomputable def mV (i:Nat):MF:=fun w=>match w.η[i]? with | some (some d)=>some (d,w.s) | _=>none
noncomputable def tPv (f:En→Option Bool):MTF:=fun w=>(f (vw w)).bind fun b=>some (b,w.s)
section
variable {X:Cx} {cl:Nat→Addr} {a b c e o:Expr} {es:List Expr} {f g:MF} {fs:MFs} {p:En→Option PyData} {ps:En→Option (List PyData)} {pt:En→Option Bool} {pos:Pos}
theorem ac (h:∀ B,E X B e p):ME X cl e (mP p):=fun pins s σ H Q I ⟨θ,F,w,d,s',m,v,hf,q⟩=>by
 obtain ⟨x,hx,hf⟩:=bind_some hf;cases hf;exact h ⟨F,H⟩ pins s σ H Q I ⟨F,vw w,x,m.vw v,hx,fun u F' H' g r=>q u θ F' H' (Mf _) g.ff (m.grow g) r⟩
theorem GC {K:LN} {F H F' H':Hp} {p:Addr} {xs:List V} {ds:List PyData} (sm:Same F H) (g:Gr F H F' H') (hp:H p=none) (fp:F' p=none) (hp':H' p=some (.lst xs)) (rs:RelL K F' ds xs):Gr F H (upd F' p (.lst xs)) H'∧Rel K (upd F' p (.lst xs)) (.list ds) (.ref p):=by
 have sn:=fb (H:=F') fp (.lst xs);refine ⟨⟨g.ff.trans sn,g.hh,fun b u z=>?_,fun b z=>?_⟩,jk (SqL.of aD) (rs.mono sn)⟩
 ·by_cases e:b=p
  ·subst e; rw [aD] at z; rw [← z]; exact hp'
  ·rw [aE e] at z; exact g.fh _ _ z
 ·by_cases e:b=p
  ·subst e; exact .inr hp
  ·rw [aE e] at z; exact g.new b z
theorem Ba {K:LN} {θ:List Addr} {F:Hp}:∀ {xs:List PyData} {vs:List V},RelL K F xs vs→DRs K θ F (xs.map .d) vs
 | [],_,h=>by rw [h.nil_of]; exact .nil
 | x::xs,vs,h=>by
  obtain ⟨v,r,rfl,h1,h2⟩:=h.cons_of;exact .cons h1 (Ba h2)
theorem ME.nw (h:∀ B,EO X B e ps):ME X cl e (mN ps):=fun pins s σ H Q I ⟨θ,F,w,d,s',m,v,hf,q⟩=>by
 obtain ⟨x,hx,hf⟩:=bind_some hf;cases hf;refine h ⟨F,H⟩ pins s σ H Q I ⟨F,vw w,x,m.vw v,hx,fun p xs F' H' g hp fp hp' rs=>?_⟩;have m1:=m.grow g;have na:∀ (k:Nat) b,θ[k]?=some b→b≠p:=fun k b e=>m.ne hp e;have pre:θ<+:θ++[p]:=My _ _;refine q _ (θ++[p]) F' H' pre g.ff ⟨m1.sm,by rw [LQ,LQ,m1.len]; rfl,?_,fun k b c2 f1 f2=>?_⟩ ⟨p,by rw [← m.len,LY (LS _),Mp]; rfl,rfl⟩
 ·rw [M8];refine ⟨m.nd,by simp,fun b hb b' hb'=>?_⟩;rw [Mi.mp hb'];obtain ⟨k,hk⟩:=NC hb;exact na k b hk
 ·by_cases hk:k < θ.length
  ·rw [LR hk] at f1;rw [LR (by rw [← m.len]; exact hk)] at f2;exact (m1.cel k b c2 f1 f2).pre pre
  ·have hk1:k=θ.length:=by
    have:=(LT.mp f1).1
    rw [LQ] at this;have e1:[p].length=1:=rfl;omega
   subst hk1;rw [LY (LS _),Mp] at f1;rw [LY (by rw [m.len]; exact LS _),m.len,Mp] at f2;cases f1;cases f2;exact ⟨fp,xs,hp',Ba rs⟩
theorem bc (i:Nat) {x:Str} (hN:X.N[i]?=some x:=by rfl) (hv:Vis X.env.scope x:=by first | exact Or.inl rfl | exact Or.inr (Or.inl rfl) | exact Or.inr (Or.inr rfl)) (hd:(x==("__debug__" : Str))=false:=by decide)
  (hcd:(x==("__classdict__" : Str))=false:=by decide):ME X cl (.Name x pos) (mV i) :=
 PE.imp (uL hN hv hd hcd) fun σ H Q ⟨θ,F,w,d,s',m,v,hf,q⟩=>by
  unfold mV at hf;split at hf
  ·rename_i d' e;cases hf;obtain ⟨u,e1,e2⟩:=v.val i _ e;exact ⟨u,e1,q u θ F H (Mf _) (.refl _) m e2⟩
  ·cases hf
theorem nC (h:∀ B,T X B e pt):MT X cl e (tPv pt):=fun pins s σ H Q I ⟨θ,F,w,b,s',m,v,hf,q⟩=>by
 obtain ⟨c,hx,hf⟩:=bind_some hf;cases hf;exact h ⟨F,H⟩ pins s σ H Q I ⟨F,vw w,_,m.vw v,hx,fun F' H' g=>q θ F' H' (Mf _) g.ff (m.grow g)⟩
noncomputable def oG (f g:MTF):MTF:=fun w=>(f w).bind fun r=>if r.1=true then g ⟨w.η,r.2⟩ else some (false,r.2)
noncomputable def DA (f g:MTF):MTF:=fun w=>(f w).bind fun r=>if r.1=true then some (true,r.2) else g ⟨w.η,r.2⟩
variable {ta tb:MTF} {rest:List Expr}
theorem MTW.t (h:MTW X cl a ta):MT X cl a ta:=PW.pt h
theorem MTW.and1 (ha:MT X cl a ta):MTW X cl (.BoolOp .And [a] pos) ta:=pw_and1 ha
theorem MTW.or1 (ha:MT X cl a ta):MTW X cl (.BoolOp .Or [a] pos) ta:=pw_or1 ha
theorem MTW.and (ha:MT X cl a ta) (hb:MTW X cl (.BoolOp .And (b::rest) pos) tb):MTW X cl (.BoolOp .And (a::b::rest) pos) (oG ta tb):=PW.imp (pw_and ha hb) fun σ H Q ⟨θ,F,w,b,s',m,v,hf,q⟩=>by
 obtain ⟨⟨c,s1⟩,hx,hf⟩:=bind_some hf;refine ⟨θ,F,w,c,s1,m,v,hx,fun θ1 F1 H1 p1 q1 m1=>?_⟩;cases c with
 | false =>
  rw [if_neg LU] at hf ⊢;cases hf;exact q θ1 F1 H1 p1 q1 m1
 | true =>
  rw [if_pos rfl] at hf ⊢;exact ⟨θ1,F1,⟨w.η,s1⟩,b,s',m1,v.mono p1 q1,hf,fun θ2 F2 H2 p2 q2 m2=>q θ2 F2 H2 (p1.trans p2) (q1.trans q2) m2⟩
theorem MTW.or (ha:MT X cl a ta) (hb:MTW X cl (.BoolOp .Or (b::rest) pos) tb):MTW X cl (.BoolOp .Or (a::b::rest) pos) (DA ta tb):=PW.imp (pw_or ha hb) fun σ H Q ⟨θ,F,w,b,s',m,v,hf,q⟩=>by
 obtain ⟨⟨c,s1⟩,hx,hf⟩:=bind_some hf;refine ⟨θ,F,w,c,s1,m,v,hx,fun θ1 F1 H1 p1 q1 m1=>?_⟩;cases c with
 | true =>
  rw [if_pos rfl] at hf ⊢;cases hf;exact q θ1 F1 H1 p1 q1 m1
 | false =>
  rw [if_neg LU] at hf ⊢;exact ⟨θ1,F1,⟨w.η,s1⟩,b,s',m1,v.mono p1 q1,hf,fun θ2 F2 H2 p2 q2 m2=>q θ2 F2 H2 (p1.trans p2) (q1.trans q2) m2⟩
noncomputable def mOp (o:PyData→PyData→Option PyData) (f g:MF):MF:=fun w=>(f w).bind fun r=>(g ⟨w.η,r.2⟩).bind fun q=>(pD q.2 r.1).bind fun x=>(pD q.2 q.1).bind fun y=>(o x y).bind fun z=>some (.d z,q.2)
noncomputable def dP (o:PyData→PyData→Option PyData) (f g:MF):MF:=fun w=>(f w).bind fun r=>(g ⟨w.η,r.2⟩).bind fun q=>(lD q.2 r.1).bind fun x=>(lD q.2 q.1).bind fun y=>(o x y).bind fun z=>if lY z=true then some (.d z,q.2) else none
theorem HD {r:R2} {o:PyData→PyData→Option PyData} (ad:Ad2 X.K r o):∀ σ H Q,tM X.K cl (mOp o f g) σ H Q→tOp r (tM X.K cl f) (tM X.K cl g) σ H Q:=fun σ H Q ⟨θ,F,w,d,s',m,v,hf,q⟩=>by
 obtain ⟨⟨d1,s1⟩,h1,hf⟩:=bind_some hf;obtain ⟨⟨d2,s2⟩,h2,hf⟩:=bind_some hf;obtain ⟨x,hx,hf⟩:=bind_some hf;obtain ⟨y,hy,hf⟩:=bind_some hf;obtain ⟨z,hz,hf⟩:=bind_some hf;cases hf;refine ⟨θ,F,w,d1,s1,m,v,h1,fun u θ1 F1 H1 p1 q1 m1 r1=>⟨θ1,F1,⟨w.η,s1⟩,d2,_,m1,v.mono p1 q1,h2,fun u2 θ2 F2 H2 p2 q2 m2 r2=>?_⟩⟩;exact ad F2 H2 u u2 x y z Q m2.sm (nZ m2 _ _ _ hx (r1.mono p2 q2)) (nZ m2 _ _ _ hy r2) hz fun t F3 H3 g3 rt=>q t θ2 F3 H3 (p1.trans p2) (q1.trans (q2.trans g3.ff)) (m2.grow g3) rt
theorem Ep {r:R2} {o:PyData→PyData→Option PyData} (ad:Ad2 X.K r o):∀ σ H Q,tM X.K cl (dP o f g) σ H Q→tOp r (tM X.K cl f) (tM X.K cl g) σ H Q:=fun σ H Q ⟨θ,F,w,d,s',m,v,hf,q⟩=>by
 obtain ⟨⟨d1,s1⟩,h1,hf⟩:=bind_some hf;obtain ⟨⟨d2,s2⟩,h2,hf⟩:=bind_some hf;obtain ⟨x,hx,hf⟩:=bind_some hf;obtain ⟨y,hy,hf⟩:=bind_some hf;obtain ⟨z,hz,hf⟩:=bind_some hf;split at hf
 ·rename_i hfl;cases hf;refine ⟨θ,F,w,d1,s1,m,v,h1,fun u θ1 F1 H1 p1 q1 m1 r1=>⟨θ1,F1,⟨w.η,s1⟩,d2,_,m1,v.mono p1 q1,h2,fun u2 θ2 F2 H2 p2 q2 m2 r2=>?_⟩⟩;exact ad (vC θ2 F2 H2) H2 u u2 x y z Q (GF m2.sm) (DF m2 _ _ _ hx (r1.mono p2 q2)) (DF m2 _ _ _ hy r2) hz fun t F3 H3 g3 rt=>q t θ2 F2 H3 (p1.trans p2) (q1.trans q2) (m2.grow (Gr.back m2.sm g3)) (EY hfl rt)
 ·cases hf
theorem ME.op {op:Operator} {r:R2} {oo:PyData→PyData→Option PyData} (ho:OpR X (binaryOp op) r) (ad:Ad2 X.K r oo) (ha:ME X cl a f) (hb:ME X cl b g):ME X cl (.BinOp a op b pos) (mOp oo f g):=PE.imp (B5 ho ha hb) (HD ad)
theorem ME.cmp {op:CmpOp} {r:R2} {oo:PyData→PyData→Option PyData} (ho:OpR X (compareOp op) r) (ad:Ad2 X.K r oo) (hm:behindInMarks op b=false) (ha:ME X cl a f) (hb:ME X cl b g):ME X cl (.Compare a [op] [b] pos) (dP oo f g):=PE.imp (B7 ho ha hb hm) (Ep ad)
theorem ME.ix {r:R2} {oo:PyData→PyData→Option PyData} (hr:IxR X r) (ad:Ad2 X.K r oo) (ha:ME X cl a f) (hb:ME X cl b g) (hs:rB b:=by intro _ _; rfl):ME X cl (.Subscript a b pos) (mOp oo f g):=PE.imp (D8 hr ha hb hs) (HD ad)
noncomputable def mB (f:MF):MTF:=fun w=>(f w).bind fun r=>match r.1 with | .d x=>(asB x).bind fun b=>some (b,r.2) | _=>none
theorem MT.cmp {op:CmpOp} {r:R2} {oo:PyData→PyData→Option PyData} (ho:OpR X (compareOp op) r) (ad:Ad2 X.K r oo) (hm:behindInMarks op b=false) (ha:ME X cl a f) (hb:ME X cl b g):MT X cl (.Compare a [op] [b] pos) (mB (dP oo f g)) :=
 PT.imp (B1 ho ha hb hm) fun σ H Q ⟨θ,F,w,c,s',m,v,hf,q⟩=>by
  obtain ⟨⟨d,s1⟩,h1,hf⟩:=bind_some hf;cases d with
  | r n=>cases hf
  | d x =>
   dsimp only at hf;obtain ⟨b,hb,hf⟩:=bind_some hf;cases hf;obtain rfl:=jc hb;exact Ep ad σ H _ ⟨θ,F,w,_,_,m,v,h1,fun u θ1 F1 H1 p1 q1 m1 r1=>⟨c,(show Rel X.K F1 (.bool c) u from r1).bl,q θ1 F1 H1 p1 q1 m1⟩⟩
noncomputable def maN:MFs:=fun w=>some ([],w.s)
noncomputable def maC (f:MF) (fs:MFs):MFs:=fun w=>(f w).bind fun r=>(fs ⟨w.η,r.2⟩).bind fun rs=>some (r.1::rs.1,rs.2)
theorem bg:MA X cl [] maN:=PA.imp Ee fun σ H Q ⟨θ,F,w,ds,s',m,v,hf,q⟩=>by
 cases hf;exact q [] θ F H (Mf _) (.refl _) m .nil
theorem aq (ha:ME X cl e f) (hr:MA X cl es fs) (hs:starEach (e::es) X.env=(false,eval e X.env)::starEach es X.env:=by exact bW rfl):MA X cl (e::es) (maC f fs):=PA.imp (Cc ha hr hs) fun σ H Q ⟨θ,F,w,ds,s',m,v,hf,q⟩=>by
 obtain ⟨⟨d,s1⟩,h1,hf⟩:=bind_some hf;obtain ⟨⟨ds2,s2⟩,h2,hf⟩:=bind_some hf;cases hf;refine ⟨θ,F,w,d,s1,m,v,h1,fun u θ1 F1 H1 p1 q1 m1 r1=>⟨θ1,F1,⟨w.η,s1⟩,ds2,s2,m1,v.mono p1 q1,h2,fun us θ2 F2 H2 p2 q2 m2 r2=>?_⟩⟩;exact q (u::us) θ2 F2 H2 (p1.trans p2) (q1.trans q2) m2 (.cons (r1.mono p2 q2) r2)
noncomputable def rL (o:MF) (f:Str):MF:=fun w=>(o w).bind fun r=>match r.1 with
 | .r n=>(match r.2[n]? with | some (.obj _ fs)=>(fs.lookup f).bind fun d=>some (d,r.2) | _=>none)
 | _=>none
theorem ME.fld {f:Str} {g:MF} (ho:ME X cl o g) (hb:attributeBase o f X.env (eval o X.env)=eval o X.env:=by rfl):ME X cl (.Attribute o f pos) (rL g f) :=
 PE.imp (D9 ho hb) fun σ H Q ⟨θ,F,w,d,s',m,v,hf,q⟩=>by
  obtain ⟨⟨d0,s0⟩,h0,hf⟩:=bind_some hf;cases d0 with
  | d x=>cases hf
  | r n =>
   dsimp only at hf;split at hf
   ·rename_i k fs hc;obtain ⟨d1,hl,hf⟩:=bind_some hf;cases hf;refine ⟨θ,F,w,.r n,_,m,v,h0,fun u θ1 F1 H1 p1 q1 m1 r1=>?_⟩;obtain ⟨a,e1,rfl⟩:=r1;obtain ⟨h1,h2,h3,dx,xs,h4,h5⟩:=m1.cel n a _ e1 hc;obtain ⟨u,e5,e6⟩:=(h5.look f).1 _ hl;exact ⟨a,cl k,dx,xs,u,rfl,h4,h2,h3 f (Ap hl),e5,q u θ1 F1 H1 p1 q1 m1 e6⟩
   ·cases hf
end
noncomputable def gd (i:Nat) (f:Str):En→Option PyData:=fun η=>match η[i]? with | some (.ob fs)=>fs f | _=>none
theorem jy (i:Nat) {X:Cx} {B:Bd} {x f:Str} {npos pos:Pos} (hN:X.N[i]?=some x:=by rfl) (hv:Vis X.env.scope x:=by first | exact Or.inl rfl | exact Or.inr (Or.inl rfl) | exact Or.inr (Or.inr rfl)) (hd:(x==("__debug__" : Str))=false:=by decide)
  (hcd:(x==("__classdict__" : Str))=false:=by decide) (hb:attributeBase (.Name x npos) f X.env (eval (.Name x npos) X.env)=eval (.Name x npos) X.env:=by rfl):E X B (.Attribute (.Name x npos) f pos) (gd i f) :=
 PE.imp (D9 (uL hN hv hd hcd) hb) fun σ H Q ⟨F,η,d,sr,hd,q⟩=>by
  unfold gd at hd;split at hd
  ·rename_i fs e;obtain ⟨p,C,dx,xs,e1,e2,e3,e4⟩:=sr.en.obs i fs e;obtain ⟨n,v,h1,h2⟩:=e4 f d hd;exact ⟨_,e1,p,C,dx,xs,v,rfl,e2,e3,n,h1,q v F H (.refl sr.same) h2⟩
  ·cases hd
noncomputable def spM (K:LN) (cl:Nat→Addr) (fn:List D→Sto→Option (D×Sto)):Sp:=fun vs H Q _=>∃ θ F s ds d s',MR K cl θ F H s∧DRs K θ F ds vs∧fn ds s=some (d,s')∧∀ v θ' F' H',θ<+:θ'→Same F F'→MR K cl θ' F' H' s'→DR K θ' F' d v→Q v H'
noncomputable def la (fn:List D→Sto→Option (D×Sto)) (fs:MFs):MF:=fun w=>(fs w).bind fun r=>fn r.1 r.2
section
variable {X:Cx} {cl:Nat→Addr} {e o:Expr} {es:List Expr} {g:MF} {fs:MFs} {pos:Pos}
theorem ME.call {k k':Nat} {fa:Addr} {fd:FuncData} {ps:List Str} {x:Str} {ppos:Pos} {fn:List D→Sto→Option (D×Sto)} (G:FnOk X.prog X.w X.K X.mg X.base CX0 k fa fd ps (spM X.K cl fn)) (hr:Room k' X.A) (hkk:k≤k') (hm:X.mg x=some (.ref fa)) (hk:MM X.K (.ref fa)=true) (hb:Binds X.K fd ps [])
  (ha:MA X cl (e::es) fs) (hg:Gl X x:=by rfl) (hdb:(x==("__debug__" : Str))=false:=by decide) (he:starEach (e::es) X.env=(false,eval e X.env)::starEach es X.env:=by exact bW rfl) (hpl:(backTo pos (starEach es X.env)).any (·.1)=false:=by exact iW rfl) :
  ME X cl (.Call (.Name x ppos) (e::es) [] pos) (la fn fs):=PE.imp (B8 G (hr.mono hkk) hg hm hk hb .nil yh ha hdb he hpl) fun σ H Q ⟨θ,F,w,d,s',m,v,hf,q⟩=>by
 obtain ⟨⟨ds,s1⟩,h1,hf⟩:=bind_some hf;refine ⟨θ,F,w,ds,s1,m,v,h1,fun vs θ1 F1 H1 p1 q1 m1 r1=>?_⟩;show spM X.K cl fn (vs++[]) H1 Q E0;rw [Mn];exact ⟨θ1,F1,s1,ds,d,s',m1,r1,hf,fun u θ2 F2 H2 p2 q2 m2 r2=>q u θ2 F2 H2 (p1.trans p2) (q1.trans q2) m2 r2⟩
theorem ME.call0 {k k':Nat} {fa:Addr} {fd:FuncData} {ps:List Str} {x:Str} {ppos:Pos} {fn:List D→Sto→Option (D×Sto)} (G:FnOk X.prog X.w X.K X.mg X.base CX0 k fa fd ps (spM X.K cl fn)) (hr:Room k' X.A) (hkk:k≤k') (hm:X.mg x=some (.ref fa)) (hk:MM X.K (.ref fa)=true) (hb:Binds X.K fd ps [])
  (hg:Gl X x:=by rfl) (hdb:(x==("__debug__" : Str))=false:=by decide) :
  ME X cl (.Call (.Name x ppos) [] [] pos) (la fn maN):=PE.imp (Ec G (hr.mono hkk) hg hm hk hb .nil yh hdb) fun σ H Q ⟨θ,F,w,d,s',m,v,hf,q⟩=>by
 obtain ⟨⟨ds,s1⟩,h1,hf⟩:=bind_some hf;cases h1;exact ⟨θ,F,w.s,[],d,s',m,.nil,hf,q⟩
noncomputable def cO (k:Nat) (nm:Str) (fn:List D→Sto→Option (D×Sto)) (o:MF) (fs:MFs):MF:=fun w=>(o w).bind fun r=>match r.1 with
 | .r n=>(match r.2[n]? with
  | some (.obj k' as)=>if k'=k∧as.lookup nm=none then (fs ⟨w.η,r.2⟩).bind fun rs=>fn (.r n::rs.1) rs.2 else none
  | _=>none)
 | _=>none
theorem Gy {nm:Str} {k:Nat} {fn:List D→Sto→Option (D×Sto)}:∀ σ H Q,tM X.K cl (cO k nm fn g fs) σ H Q→Hl (cl k) nm (spM X.K cl fn) [] E0 (tM X.K cl g) (tMA X.K cl fs) σ H Q:=fun σ H Q ⟨θ,F,w,d,s',m,v,hf,q⟩=>by
 obtain ⟨⟨d0,s0⟩,h0,hf⟩:=bind_some hf;cases d0 with
 | d x=>cases hf
 | r n =>
  dsimp only at hf;split at hf
  ·rename_i k' as hc;split at hf
   ·rename_i hk;obtain ⟨⟨ds,s1⟩,h1,hf⟩:=bind_some hf;obtain ⟨hk1,hk2⟩:=hk;rw [hk1] at hc;refine ⟨θ,F,w,.r n,s0,m,v,h0,fun u θ1 F1 H1 p1 q1 m1 r1=>?_⟩;obtain ⟨a,e1,rfl⟩:=id r1;obtain ⟨c1,c2,c3,dx,xs,c4,c5⟩:=m1.cel n a _ e1 hc;refine ⟨a,dx,xs,rfl,c4,(c5.look nm).2 hk2,θ1,F1,⟨w.η,s0⟩,ds,s1,m1,v.mono p1 q1,h1,fun vs θ2 F2 H2 p2 q2 m2 r2=>?_⟩;show spM X.K cl fn (.ref a::(vs++[])) H2 Q E0;rw [Mn];exact ⟨θ2,F2,s1,.r n::ds,d,s',m2,.cons (DR.mono p2 q2 r1) r2,hf,fun u θ3 F3 H3 p3 q3 m3 r3=>q u θ3 F3 H3 (p1.trans (p2.trans p3)) (q1.trans (q2.trans q3)) m3 r3⟩
   ·cases hf
  ·cases hf
theorem c6 {pl:Sem Bool} {k k' kc:Nat} {fa:Addr} {fd:FuncData} {ps:List Str} {nm:Str} {apos:Pos} {fn:List D→Sto→Option (D×Sto)} (ho:ME X cl o g) (c:Cls X.K (cl kc)) (hm:Meth X.K (cl kc) nm fa) (G:FnOk X.prog X.w X.K X.mg X.base CX0 k fa fd ps (spM X.K cl fn)) (hr:Room k' X.A) (hkk:k≤k') (hb:Binds X.K fd ps [])
  (ha:MA X cl (e::es) fs) (hst:starEach (e::es) X.env=(false,eval e X.env)::starEach es X.env:=by exact bW rfl) (hpl:(backTo pos (starEach es X.env)).any (·.1)=false:=by exact iW rfl)
  (ht:eval (.Call (.Attribute o nm apos) (e::es) [] pos) X.env=(do
   let ov ← eval o X.env
   standAt apos.atName
   let (f,first) ← holding [ov] (getMethod ov nm pl)
   callWith pos f first (backTo pos (starEach (e::es) X.env)) (backToKw pos (keywordEach [] X.env))):=by rfl):ME X cl (.Call (.Attribute o nm apos) (e::es) [] pos) (cO kc nm fn g fs) :=
 PE.imp (Gj (pl:=pl) ho c hm G (hr.mono hkk) hb .nil yh ha hst hpl ht) Gy
noncomputable def vz (k:Nat) (fn:List D→Sto→Option (D×Sto)) (fs:MFs):MF:=fun w=>(fs w).bind fun r=>(fn (.r r.2.length::r.1) (r.2++[.obj k []])).bind fun q=>match q.1 with
 | .d .none=>some (.r r.2.length,q.2)
 | _=>none
theorem GA {K:LN} {θ:List Addr} {F H:Hp} {s:Sto} {kc:Nat} (c:Cls K (cl kc)) (m:MR K cl θ F H s) {x dx:Addr} (hx:H x=none) (hdx:H dx=none) (hne:dx≠x) :
  MR K cl (θ++[x]) F (upd (upd H dx (.own x)) x (.ins (cl kc) dx [])) (s++[.obj kc []]):=by
 have m1:=m.more (o:=.own x) hdx;have hx1:upd H dx (.own x) x=none:=by rw [aE (Ne.symm hne)]; exact hx
 exact m1.new hx1 ⟨m1.sm.free hx1,c,fun f hf=>(by cases hf),dx,[],aD,.nil⟩
theorem Cp {kc:Nat} {fn:List D→Sto→Option (D×Sto)} (c:Cls X.K (cl kc)) {θ:List Addr} {F H:Hp} {s s':Sto} {ds:List D} {d:D} {vs:List V} {Q:VK} (m:MR X.K cl θ F H s) (r:DRs X.K θ F ds vs)
  (hf:((fn (.r s.length::ds) (s++[.obj kc []])).bind fun q=>match q.1 with | .d .none=>some (D.r s.length,q.2) | _=>none)=some (d,s'))
  (q:∀ v θ' F' H',θ<+:θ'→Same F F'→MR X.K cl θ' F' H' s'→DR X.K θ' F' d v→Q v H') (x dx:Addr) (hx:H x=none) (hdx:H dx=none) (hne:dx≠x) :
  spM X.K cl fn (.ref x::vs) (upd (upd H dx (.own x)) x (.ins (cl kc) dx [])) (fun v H2=>v=.non∧Q (.ref x) H2) E0:=by
 obtain ⟨⟨d1,s1⟩,h1,hf⟩:=bind_some hf;have pre:θ<+:θ++[x]:=My _ _;have hix:(θ++[x])[s.length]?=some x:=by rw [← m.len,LY (LS _),Mp]; rfl
 refine ⟨θ++[x],F,s++[.obj kc []],.r s.length::ds,d1,s1,GA c m hx hdx hne,.cons ⟨x,hix,rfl⟩ (r.mono pre (.refl _)),h1,fun v θ2 F2 H2 p2 q2 m2 r2=>?_⟩;dsimp only at hf;split at hf
 ·rename_i hd;cases hf;have r2':Rel X.K F2 .none v:=r2;exact ⟨r2'.non,q _ θ2 F2 H2 (pre.trans p2) q2 m2 ⟨x,lH p2 hix,rfl⟩⟩
 ·cases hf
theorem ME.make {k k' kc:Nat} {fa:Addr} {fd:FuncData} {ps:List Str} {x:Str} {ppos:Pos} {fn:List D→Sto→Option (D×Sto)} (c:Cls X.K (cl kc)) (M:Mk X.K (cl kc) fa) (G:FnOk X.prog X.w X.K X.mg X.base CX0 k fa fd ps (spM X.K cl fn)) (hr:Room k' X.A) (hkk:k+1≤k') (hm:X.mg x=some (.ref (cl kc))) (hb:Binds X.K fd ps [])
  (ha:MA X cl (e::es) fs) (hg:Gl X x:=by rfl) (hdb:(x==("__debug__" : Str))=false:=by decide) (he:starEach (e::es) X.env=(false,eval e X.env)::starEach es X.env:=by exact bW rfl) (hpl:(backTo pos (starEach es X.env)).any (·.1)=false:=by exact iW rfl) :
  ME X cl (.Call (.Name x ppos) (e::es) [] pos) (vz kc fn fs):=PE.imp (Gk M G (hr.mono hkk) hg hm hb .nil yh ha hdb he hpl) fun σ H Q ⟨θ,F,w,d,s',m,v,hf,q⟩=>by
 obtain ⟨⟨ds,s1⟩,h1,hf⟩:=bind_some hf;refine ⟨θ,F,w,ds,s1,m,v,h1,fun vs θ1 F1 H1 p1 q1 m1 r1=>fun x dx hx hdx hne=>?_⟩;show spM X.K cl fn (.ref x::(vs++[])) _ _ E0;rw [Mn];exact Cp c m1 r1 hf (fun u θ2 F2 H2 p2 q2 m2 r2=>q u θ2 F2 H2 (p1.trans p2) (q1.trans q2) m2 r2) x dx hx hdx hne
theorem ME.make0 {k k' kc:Nat} {fa:Addr} {fd:FuncData} {ps:List Str} {x:Str} {ppos:Pos} {fn:List D→Sto→Option (D×Sto)} (c:Cls X.K (cl kc)) (M:Mk X.K (cl kc) fa) (G:FnOk X.prog X.w X.K X.mg X.base CX0 k fa fd ps (spM X.K cl fn)) (hr:Room k' X.A) (hkk:k+1≤k') (hm:X.mg x=some (.ref (cl kc))) (hb:Binds X.K fd ps [])
  (hg:Gl X x:=by rfl) (hdb:(x==("__debug__" : Str))=false:=by decide) :
  ME X cl (.Call (.Name x ppos) [] [] pos) (vz kc fn maN):=PE.imp (D6 M G (hr.mono hkk) hg hm hb .nil yh hdb) fun σ H Q ⟨θ,F,w,d,s',m,v,hf,q⟩=>by
 obtain ⟨⟨ds,s1⟩,h1,hf⟩:=bind_some hf;cases h1;exact fun x dx hx hdx hne=>Cp c m .nil hf q x dx hx hdx hne
end
inductive MOut where
 | nx (w:Wd)
 | rt (d:D) (s:Sto)
 | bk (w:Wd)
 | ct (w:Wd)
section
variable (K:LN) (cl:Nat→Addr)
noncomputable def MNx (θ:List Addr) (F:Hp) (N:St→Hp→Prop) (w:Wd):Prop:=∀ σ' θ' F' H',θ<+:θ'→Same F F'→MR K cl θ' F' H' w.s→MV K θ' F' σ' w.η→N σ' H'
noncomputable def MOk (θ:List Addr) (F:Hp) (Z:Ends):MOut→Prop
 | .nx w=>MNx K cl θ F Z.nx w
 | .rt d s=>∀ v θ' F' H',θ<+:θ'→Same F F'→MR K cl θ' F' H' s→DR K θ' F' d v→Z.rt v H'
 | .bk w=>MNx K cl θ F Z.bk w
 | .ct w=>MNx K cl θ F Z.ct w
noncomputable def tMS (f:Wd→Option MOut):TS:=fun Z σ H=>∃ θ F w o,MR K cl θ F H w.s∧MV K θ F σ w.η∧f w=some o∧MOk K cl θ F Z o
end
noncomputable def MS (X:Cx) (cl:Nat→Addr) (st:Stmt) (f:Wd→Option MOut):Prop:=PS X st (tMS X.K cl f)
noncomputable def MSs (X:Cx) (cl:Nat→Addr) (st:List Stmt) (f:Wd→Option MOut):Prop:=PSs X st (tMS X.K cl f)
theorem MNx.up {K:LN} {cl:Nat→Addr} {θ θ1:List Addr} {F F1:Hp} {N:St→Hp→Prop} {w:Wd} (h:MNx K cl θ F N w) (p:θ<+:θ1) (s:Same F F1):MNx K cl θ1 F1 N w:=fun σ' θ' F' H' p' s'=>h σ' θ' F' H' (p.trans p') (s.trans s')
theorem MOk.up {K:LN} {cl:Nat→Addr} {θ θ1:List Addr} {F F1:Hp} {Z:Ends} {o:MOut} (h:MOk K cl θ F Z o) (p:θ<+:θ1) (s:Same F F1):MOk K cl θ1 F1 Z o:=by
 cases o with
 | nx w=>exact MNx.up h p s
 | rt d s2=>exact fun v θ' F' H' p' s'=>h v θ' F' H' (p.trans p') (s.trans s')
 | bk w=>exact MNx.up h p s
 | ct w=>exact MNx.up h p s
noncomputable def mNx:Wd→Option MOut:=fun w=>some (.nx w)
noncomputable def aH (f g:Wd→Option MOut):Wd→Option MOut:=fun w=>(f w).bind fun o=>match o with
 | .nx w'=>g w'
 | o=>some o
noncomputable def fU (f:MF):Wd→Option MOut:=fun w=>(f w).bind fun r=>some (.rt r.1 r.2)
noncomputable def mIf (c:MTF) (f g:Wd→Option MOut):Wd→Option MOut:=fun w=>(c w).bind fun r=>if r.1=true then f ⟨w.η,r.2⟩ else g ⟨w.η,r.2⟩
noncomputable def bI (i:Nat) (f:MF):Wd→Option MOut:=fun w=>(f w).bind fun r=>some (.nx ⟨w.η.set i (some r.1),r.2⟩)
noncomputable def qk (f:MF):Wd→Option MOut:=fun w=>(f w).bind fun r=>some (.nx ⟨w.η,r.2⟩)
noncomputable def xJ (f:Str) (v:D):List (Str×D)→List (Str×D)
 | []=>[(f,v)]
 | (g,x)::r=>if g=f then (g,v)::r else (g,x)::xJ f v r
noncomputable def km (k:Nat) (nm:Str) (o e:MF):Wd→Option MOut:=fun w=>(e w).bind fun r=>(o ⟨w.η,r.2⟩).bind fun q=>match q.1 with
 | .r n=>(match q.2[n]? with
  | some (.obj k' fs)=>if k'=k∧fs.length < 999 then some (.nx ⟨w.η,q.2.set n (.obj k (xJ nm r.1 fs))⟩) else none
  | _=>none)
 | _=>none
section
variable {X:Cx} {cl:Nat→Addr} {st:Stmt} {sts sts':List Stmt} {u v:Wd→Option MOut} {a b c e o:Expr} {f g:MF} {p:MTF} {pos pos':Pos}
theorem dg:MSs X cl [] mNx:=PSs.imp B3 fun Z σ H ⟨θ,F,w,o,m,v,hf,q⟩=>by
 cases hf;exact q σ θ F H (Mf _) (.refl _) m v
theorem aJ (h:MS X cl st u):MSs X cl [st] u:=B2 h
theorem ag (h:MS X cl st u) (k:MSs X cl sts v):MSs X cl (st::sts) (aH u v):=PSs.imp (zY h k) fun Z σ H ⟨θ,F,w,o,m,v,hf,q⟩=>by
 obtain ⟨o1,h1,hf⟩:=bind_some hf;refine ⟨θ,F,w,o1,m,v,h1,?_⟩;cases o1 with
 | nx w'=>exact fun σ' θ' F' H' p s m' v'=>⟨θ',F',w',o,m',v',hf,q.up p s⟩
 | rt d s=>cases hf; exact q
 | bk w'=>cases hf; exact q
 | ct w'=>cases hf; exact q
theorem cq (he:ME X cl e f):MS X cl (.Return (some e) pos) (fU f):=PS.imp (Be he) fun Z σ H ⟨θ,F,w,o,m,v,hf,q⟩=>by
 obtain ⟨⟨d,s⟩,h1,hf⟩:=bind_some hf;cases hf;exact ⟨θ,F,w,d,s,m,v,h1,q⟩
theorem MS.exp (he:ME X cl e f) (hs:swapsWith e none pos.line X.env=pure false:=by rfl):MS X cl (.Expr e pos) (qk f):=PS.imp (yN he hs) fun Z σ H ⟨θ,F,w,o,m,v,hf,q⟩=>by
 obtain ⟨⟨d,s⟩,h1,hf⟩:=bind_some hf;cases hf;exact ⟨θ,F,w,d,s,m,v,h1,fun u θ' F' H' p' s' m' _=>q σ θ' F' H' p' s' m' (v.mono p' s')⟩
theorem fL (hc:MT X cl c p) (ha:MSs X cl sts u) (hb:MSs X cl sts' v):MS X cl (.If c sts sts' pos) (mIf p u v):=PS.imp (Hz hc ha hb) fun Z σ H ⟨θ,F,w,o,m,v,hf,q⟩=>by
 obtain ⟨⟨b,s1⟩,h1,hf⟩:=bind_some hf;refine ⟨θ,F,w,b,s1,m,v,h1,fun θ' F' H' p' s' m'=>?_⟩;cases b with
 | false =>
  rw [if_neg LU] at hf ⊢;exact ⟨θ',F',⟨w.η,s1⟩,o,m',v.mono p' s',hf,q.up p' s'⟩
 | true =>
  rw [if_pos rfl] at hf ⊢;exact ⟨θ',F',⟨w.η,s1⟩,o,m',v.mono p' s',hf,q.up p' s'⟩
theorem bC (i:Nat) {x:Str} (hN:X.N.Nodup) (he:ME X cl e f) (hi:X.N[i]?=some x:=by rfl) (hx:Loc X.env.scope x:=by first | exact Or.inl rfl | exact Or.inr rfl) (hs:swapsWith e (some (.Name x pos')) pos.line X.env=pure false:=by rfl)
  (hf:X.fn x=true∨X.env.scope.names.lookup x=some .local:=by first | exact .inl rfl | exact .inr rfl):MS X cl (.Assign [.Name x pos'] e pos) (bI i f):=PS.imp (Bc hN hi hx he hs hf) fun Z σ H ⟨θ,F,w,o,m,v,hf,q⟩=>by
 obtain ⟨⟨d,s⟩,h1,hf⟩:=bind_some hf;cases hf;exact ⟨θ,F,w,d,s,m,v,h1,fun u θ' F' H' p' s' m' r'=>q _ θ' F' H' p' s' m' ((v.mono p' s').set i r')⟩
theorem DRf.put {K:LN} {θ:List Addr} {F:Hp} {fs:List (Str×D)} {xs:List (Str×V)} (h:DRf K θ F fs xs) (f:Str) {d:D} {v:V} (r:DR K θ F d v):DRf K θ F (xJ f d fs) (qi f v xs):=by
 induction h with
 | nil=>exact .cons ⟨rfl,r⟩ .nil
 | @cons a b as bs q t ih =>
  obtain ⟨ka,da⟩:=a;obtain ⟨kb,vb⟩:=b;have e:ka=kb:=q.1;subst e;unfold xJ qi;by_cases hk:ka=f
  ·rw [if_pos hk,if_pos hk]; exact .cons ⟨rfl,r⟩ t
  ·rw [if_neg hk,if_neg hk]; exact .cons q ih
theorem yg {f:Str} {d:D}:∀ {fs:List (Str×D)} {g:Str},g∈(xJ f d fs).map (·.1)→g=f∨g∈fs.map (·.1)
 | [],g,h=>.inl (by simpa [xJ] using h)
 | (k,x)::r,g,h=>by
  unfold xJ at h;by_cases hk:k=f
  ·rw [if_pos hk] at h;rcases Mb.mp h with z | z
   ·exact .inr (by rw [z]; exact L7)
   ·exact .inr (LX _ z)
  ·rw [if_neg hk] at h;rcases Mb.mp h with z | z
   ·exact .inr (by rw [z]; exact L7)
   ·rcases yg z with y | y
    ·exact .inl y
    ·exact .inr (LX _ y)
theorem gB {k:Nat} {nm:Str} (ho:ME X cl o g) (he:ME X cl e f) (hn:NoAttr X.K (cl k) nm) (hs:swapsWith e (some (.Attribute o nm pos')) pos.line X.env=pure false:=by rfl):MS X cl (.Assign [.Attribute o nm pos'] e pos) (km k nm g f) :=
 PS.imp (IA ho he hs) fun Z σ H ⟨θ,F,w,o,m,v,hf,q⟩=>by
  obtain ⟨⟨d,s1⟩,h1,hf⟩:=bind_some hf;obtain ⟨⟨d2,s2⟩,h2,hf⟩:=bind_some hf;cases d2 with
  | d x=>cases hf
  | r n =>
   dsimp only at hf h2;split at hf
   ·rename_i k' fs hc;split at hf
    ·rename_i hk;cases hf;obtain ⟨hk1,hk2⟩:=hk;rw [hk1] at hc;refine ⟨θ,F,w,d,s1,m,v,h1,fun y θ1 F1 H1 p1 q1 m1 r1=>⟨θ1,F1,⟨w.η,s1⟩,.r n,s2,m1,v.mono p1 q1,h2,fun x θ2 F2 H2 p2 q2 m2 r2=>?_⟩⟩;obtain ⟨a,e1,rfl⟩:=r2;obtain ⟨c1,c2,c3,dx,xs,c4,c5⟩:=m2.cel n a _ e1 hc;have hl:xs.length < 1000:=by
      have:=Paired.length c5
      omega
     refine ⟨a,cl k,dx,xs,rfl,c4,c2,hn,hl,q _ θ2 F2 _ (p1.trans p2) (q1.trans q2) (m2.put e1 hc rfl ⟨c1,c2,fun f hf=>?_,dx,_,aD,c5.put nm (r1.mono p2 q2)⟩) ((v.mono p1 q1).mono p2 q2)⟩;rcases yg hf with z | z
     ·rw [z]; exact hn
     ·exact c3 f z
    ·cases hf
   ·cases hf
end
noncomputable def dN (n m:Nat) (g:Wd→Option MOut):List D→Sto→Option (D×Sto):=fun ds s=>if ds.length=n then (g ⟨ds.map some++Ma (m - n) none,s⟩).bind fun o=>match o with
 | .rt d s'=>some (d,s')
 | .nx w=>some (.d .none,w.s)
 | _=>none else none
section
variable {P:Program} {w:World} {K:LN} {mg:Str→Option Value} {base:Heap} {cl:Nat→Addr}
theorem MV.start {θ:List Addr} {F:Hp} {N:List Str} {ds:List D} {vs:List V} (r:DRs K θ F ds vs):MV K θ F (L2.start N vs) (ds.map some++Ma (N.length - ds.length) none) where
 len:=by unfold L2.start; rw [LQ,LQ,LO,LO,MX,MX,Paired.length r]
 val:=fun i d e=>by
  unfold L2.start;by_cases hi:i < ds.length
  ·rw [LR (by rw [LO]; exact hi),L8] at e;rw [LR (by rw [LO,← Paired.length r]; exact hi),L8];cases q:ds[i]? with
   | none=>rw [q] at e; cases e
   | some d' =>
    rw [q] at e
    have:d'=d:=Option.some.inj (Option.some.inj e)
    subst this;obtain ⟨x,e1,e2⟩:=r.get q;exact ⟨x,by rw [e1]; rfl,e2⟩
  ·rw [LY (by rw [LO]; omega),MP] at e;split at e <;> cases e
theorem fnM {x qual:Str} {st:Stmt} {f:Addr} {fd:FuncData} {N ps:List Str} {k:Nat} {g:Wd→Option MOut} (Fn:Fun K x qual st f fd) (Sc:aI N ps (aj st))
  (hb:∀ (cdv:Value) (A:Around) (outer:List Env) (s:Shared) (H:Hp) (E:XK),Room k (A.deeper (envOfC qual (aj st) s.heap.objs.size f cdv)) →
   MSs (AM CX0 P w K mg base N qual (aj st) f cdv A outer s H E).nox cl (pO st) g) :
  FnOk P w K mg base CX0 (k+1) f fd ps (spM K cl (dN ps.length N.length g)):=by
 refine Fn.ok Sc (fun vs H Q E h=>?_) (fun cdv A outer s H vs Q E hr h=>?_)
 ·obtain ⟨θ,F,s,ds,d,s',_,r,e,_⟩:=h;unfold dN at e;split at e
  ·rename_i hl;rw [← Paired.length r]; exact hl
  ·cases e
 ·obtain ⟨θ,F,s0,ds,d,s',m,r,e,q⟩:=h;refine ⟨_,hb cdv A outer s H E hr,?_⟩;unfold dN at e;split at e
  ·rename_i hl;obtain ⟨o,h1,e⟩:=bind_some e;have z:=MV.start (K:=K) (N:=N) r;rw [hl] at z;refine ⟨θ,F,⟨_,s0⟩,o,m,z,h1,?_⟩;cases o with
   | rt d' s2 =>
    cases e;exact q
   | nx w' =>
    cases e;exact fun σ' θ' F' H' p' s' m' _=>q .non θ' F' H' p' s' m' (show Rel K F' .none .non from ro)
   | bk w'=>cases e
   | ct w'=>cases e
  ·cases e
end
noncomputable def tMI (K:LN) (cl:Nat→Addr) (f:Wd→Option (List PyData×Sto)):TI:=fun σ H R=>∃ θ F w ds s',MR K cl θ F H w.s∧MV K θ F σ w.η∧f w=some (ds,s')∧∀ J θ' F' H',θ<+:θ'→Same F F'→MR K cl θ' F' H' s'→ItP K J F' ds→R J H'
noncomputable def MI (X:Cx) (cl:Nat→Addr) (tg iter:Expr) (f:Wd→Option (List PyData×Sto)):Prop:=PI X tg iter (tMI X.K cl f)
noncomputable def iPu (f:En→Option (List PyData)):Wd→Option (List PyData×Sto):=fun w=>(f (vw w)).bind fun ds=>some (ds,w.s)
noncomputable def iM (f:MF):Wd→Option (List PyData×Sto):=fun w=>(f w).bind fun r=>match r.1 with | .d (.list ds)=>some (ds,r.2) | _=>none
noncomputable def back:List Nat→MEn→En→Option MEn
 | [],η,_=>some η
 | k::ks,η,ζ=>match ζ[k]? with | some (.val x)=>back ks (η.set k (some (.d x))) ζ | _=>none
noncomputable def mTg (ks:List Nat) (t:En→PyData→Option En) (w:Wd) (d:PyData):Option Wd:=(t (vw w) d).bind fun ζ=>(back ks w.η ζ).bind fun η=>some ⟨η,w.s⟩
noncomputable def mGo (ks:List Nat) (t:En→PyData→Option En) (body:Wd→Option MOut):List PyData→Wd→Option MOut
 | [],w=>some (.nx w)
 | d::ds,w=>(mTg ks t w d).bind fun w1=>(body w1).bind fun o=>match o with
  | .nx w2=>mGo ks t body ds w2
  | .ct w2=>mGo ks t body ds w2
  | .bk w2=>some (.nx w2)
  | .rt d s=>some (.rt d s)
noncomputable def sQ (ks:List Nat) (it:Wd→Option (List PyData×Sto)) (t:En→PyData→Option En) (body:Wd→Option MOut):Wd→Option MOut:=fun w=>(it w).bind fun r=>mGo ks t body r.1 ⟨w.η,r.2⟩
section
variable {X:Cx} {cl:Nat→Addr} {tg iter e:Expr} {f:MF} {fi:En→Option (List PyData)} {pos:Pos}
theorem MI.pu (h:∀ B,I X B tg iter fi):MI X cl tg iter (iPu fi):=fun pins s σ H R I ⟨θ,F,w,ds,s',m,v,hf,q⟩=>by
 obtain ⟨x,hx,hf⟩:=bind_some hf;cases hf;exact h ⟨F,H⟩ pins s σ H R I ⟨F,vw w,_,m.vw v,hx,fun J F' H' g ip=>q J θ F' H' (Mf _) g.ff (m.grow g) ip⟩
theorem MI.list (h:ME X cl e f):MI X cl tg e (iM f):=PI.imp (B4 h) fun σ H R ⟨θ,F,w,ds,s',m,v,hf,q⟩=>by
 obtain ⟨⟨d,s1⟩,h1,hf⟩:=bind_some hf;dsimp only at hf;split at hf
 ·rename_i ys hd;cases hf;refine ⟨θ,F,w,_,_,m,v,h1,fun u θ' F' H' p' s' m' r'=>?_⟩;have r2:Rel X.K F' (.list ds) u:=r';obtain ⟨a,xs,rfl,hq,rs⟩:=r2.lst;exact ⟨a,rfl,⟨xs,m'.sm.seq hq⟩,q _ θ' F' H' p' s' m' (Az hq rs)⟩
 ·cases hf
theorem zo {K:LN} {θ:List Addr} {B:Bd} {F H:Hp} {σ':St} {ζ:En} (sr:SR K B F H σ' ζ):∀ (ks:List Nat) {η η':MEn},back ks η ζ=some η'→η.length=σ'.length →
  (∀ (i:Nat) d,η[i]?=some (some d)→i∈ks∨∃ v,σ'[i]?=some (some v)∧DR K θ F d v)→MV K θ F σ' η'
 | [],η,η',h,hl,hv=>by
  cases h;exact ⟨hl,fun i d e=>(hv i d e).elim (fun z=>(by cases z)) id⟩
 | k::ks,η,η',h,hl,hv=>by
  unfold back at h;split at h
  ·rename_i x hx;refine zo sr ks h (by rw [L6]; exact hl) fun i d e=>?_;by_cases hk:k=i
   ·subst hk;by_cases hlt:k < η.length
    ·rw [LV hlt] at e;have e':D.d x=d:=Option.some.inj (Option.some.inj e);subst e';exact .inr (sr.en.val k x hx)
    ·rw [Mj (by rw [L6]; omega)] at e; cases e
   ·rw [LP hk] at e;rcases hv i d e with z | z
    ·rcases Mb.mp z with y | y
     ·exact absurd y.symm hk
     ·exact .inl y
    ·exact .inr z
  ·cases h
theorem JP {K:LN} {cl:Nat→Addr} {ks:List Nat} {gt:TG} {t:En→PyData→Option En} (ht:TgP K ks gt t) {θ:List Addr} {F H:Hp} {σ:St} {w w1:Wd} {d:PyData} {x:V} (m:MR K cl θ F H w.s) (v:MV K θ F σ w.η) (rx:Rel K F d x) (h:mTg ks t w d=some w1) {Q:St→Hp→Prop}
  (q:∀ σ' F' H',Same F F'→MR K cl θ F' H' w1.s→MV K θ F' σ' w1.η→Q σ' H'):gt x σ H Q:=by
 obtain ⟨ζ,h1,h⟩:=bind_some h;obtain ⟨η,h2,h⟩:=bind_some h;cases h;refine ht ⟨F,H⟩ F H σ (vw w) d x ζ (m.vw v) rx h1 Q fun σ' F' H' sr g hl hn=>q σ' F' H' g.ff (m.grow g) (zo sr ks h2 (by rw [v.len,hl]) fun i d' e=>?_);by_cases hi:i∈ks
 ·exact .inl hi
 ·obtain ⟨u,e1,e2⟩:=v.val i d' e;exact .inr ⟨u,by rw [hn i hi]; exact e1,e2.mono (Mf _) g.ff⟩
theorem MS.for {body:List Stmt} {gt:TG} {ks:List Nat} {t:En→PyData→Option En} {fi:Wd→Option (List PyData×Sto)} {u:Wd→Option MOut} (hp:PassesOwn (model X.prog X.w) X.A X.env X.xe) (hc:X.calm=true) (hi:MI X cl tg iter fi) (hg:PG X tg gt) (ht:TgP X.K ks gt t) (hb:MSs X cl body u)
  (hs:∀ x,foldedSetIterable iter X.env x=pure x:=by intro _; rfl):MS X cl (.For tg iter body [] pos) (sQ ks fi t u):=PS.imp (DW hp hc hi hg hb hs) fun Z σ H ⟨θ,F,w,o,m,v,hf,q⟩=>by
 obtain ⟨⟨ds,s1⟩,h1,hd⟩:=bind_some hf;refine ⟨θ,F,w,ds,s1,m,v,h1,fun J θ1 F1 H1 p1 q1 m1 ip=>?_⟩;refine ⟨fun i n σ H=>n=ds.length - i∧i≤ds.length∧∃ θc Fc wc,θ1<+:θc∧Same F1 Fc∧MR X.K cl θc Fc H wc.s∧MV X.K θc Fc σ wc.η∧mGo ks t u (ds.drop i) wc=some o,⟨_,rfl,Mz _,θ1,F1,⟨w.η,s1⟩,Mf _,.refl _,m1,v.mono p1 q1,by simpa using hd⟩,?_⟩
 rintro i n σc Hc ⟨rfl,hi,θc,Fc,wc,pc,sc,mc,vc,hgo⟩
 obtain ⟨ip1,ip2⟩:=ip Fc Hc i sc mc.sm;by_cases hlt:i < ds.length
 ·have e:ds[i]?=some ds[i]:=Me hlt;obtain ⟨go,yl⟩:=ip1 _ e;rw [M0 hlt] at hgo;unfold mGo at hgo;obtain ⟨w1,e1,hgo⟩:=bind_some hgo;obtain ⟨o1,e2,hgo⟩:=bind_some hgo;have cont:∀ (w2:Wd),mGo ks t u (ds.drop (i+1)) w2=some o→∀ σ' θ' F' H',θ1<+:θ'→Same F1 F'→MR X.K cl θ' F' H' w2.s→MV X.K θ' F' σ' w2.η →
    ∃ n',n' < ds.length - i∧(fun i n σ H=>n=ds.length - i∧i≤ds.length∧∃ θc Fc wc,θ1<+:θc∧Same F1 Fc∧MR X.K cl θc Fc H wc.s∧MV X.K θc Fc σ wc.η∧mGo ks t u (ds.drop i) wc=some o) (i+1) n' σ' H':=fun w2 h2 σ' θ' F' H' p s m v =>
   ⟨ds.length - (i+1),by omega,rfl,hlt,θ',F',w2,p,s,m,v,h2⟩
  refine .inr ⟨go,fun σ' H'=>∃ n',n' < ds.length - i∧(fun i n σ H=>n=ds.length - i∧i≤ds.length∧∃ θc Fc wc,θ1<+:θc∧Same F1 Fc∧MR X.K cl θc Fc H wc.s∧MV X.K θc Fc σ wc.η∧mGo ks t u (ds.drop i) wc=some o) (i+1) n' σ' H',fun σ' H' n=>n,fun x H' y=>?_⟩;obtain ⟨F2,g2,rx⟩:=yl x H' y;refine JP ht (mc.grow g2) (vc.mono (Mf _) g2.ff) rx e1 fun σ3 F3 H3 s3 m3 v3=>?_;refine ⟨θc,F3,w1,o1,m3,v3,e2,?_⟩;have s4:Same F1 F3:=sc.trans (g2.ff.trans s3);cases o1 with
  | nx w2=>exact fun σ' θ' F' H' p' s' m' v'=>cont w2 hgo σ' θ' F' H' (pc.trans p') (s4.trans s') m' v'
  | ct w2=>exact fun σ' θ' F' H' p' s' m' v'=>cont w2 hgo σ' θ' F' H' (pc.trans p') (s4.trans s') m' v'
  | bk w2 =>
   cases hgo;exact fun σ' θ' F' H' p' s' m' v'=>q σ' θ' F' H' (p1.trans (pc.trans p')) (q1.trans (s4.trans s')) m' v'
  | rt d s2 =>
   cases hgo;exact fun u θ' F' H' p' s' m' r'=>q u θ' F' H' (p1.trans (pc.trans p')) (q1.trans (s4.trans s')) m' r'
 ·have ei:i=ds.length:=by omega
  subst ei;rw [Nu] at hgo;cases hgo;exact .inl ⟨ip2 rfl,q σc θc Fc Hc (p1.trans pc) (q1.trans sc) mc vc⟩
end
section
variable {X:Cx} {cl:Nat→Addr} {tg iter elt:Expr} {ifs:List Expr} {scope:Scope} {N':List Str} {mp:List (Option Nat)} {ks:List Nat} {gt:TG} {t:En→PyData→Option En} {fi:En→Option (List PyData)} {p:En→Option Bool} {f:En→Option PyData} {pos:Pos}
noncomputable def mC (fs:En→Option (List PyData)):MF:=fun w=>(fs (vw w)).bind fun xs=>some (.d (.list xs),w.s)
theorem MS.setC (i:Nat) {y:Str} {py spos:Pos} (hc:X.calm=true) (hN:X.N.Nodup) (ck:CompSc X scope N' mp) (ht:TgP X.K ks gt t) (hks:∀ k∈ks,mp[k]?=some none) (hi:∀ B,I X B tg iter fi)
  (hb:∀ B s H fp,PG (ci X scope N' s H fp) tg gt∧Ts (ci X scope N' s H fp) B ifs p∧E (ci X scope N' s H fp) B elt f)
  (hiy:X.N[i]?=some y:=by rfl) (hy:X.env.scope.names.lookup y=some .local:=by rfl) (hsw:swapsWith (.ListComp elt [⟨tg,iter,ifs,0⟩] scope pos) (some (.Name y py)) spos.line X.env=pure true:=by rfl)
  (hs:∀ x,foldedSetIterable iter X.env x=pure x:=by intro _; rfl):MS X cl (.Assign [.Name y py] (.ListComp elt [⟨tg,iter,ifs,0⟩] scope pos) spos) (bI i (mC (bH mp fi t p f))):=fun pins s σ H Z I ⟨θ,F,w,o,m,v,hf,q⟩=>by
 obtain ⟨⟨d,s1⟩,h1,hf⟩:=bind_some hf;cases hf;obtain ⟨xs,hx,h1⟩:=bind_some h1;cases h1;refine sG (g:=gt) (tt:=tT X.K ⟨F,H⟩ p) (te:=tE X.K ⟨F,H⟩ f) hc hN hiy hy ck (hi ⟨F,H⟩) (hb ⟨F,H⟩) hsw hs pins s σ H Z I ?_;refine zi ht hks σ H _ ⟨F,vw w,xs,m.vw v,hx,fun p zs F' H' g hp fp hp' rs=>?_⟩;obtain ⟨g2,r2⟩:=GC m.sm g hp fp hp' rs;exact q _ θ _ H' (Mf _) g2.ff (m.grow g2) ((v.mono (Mf _) g2.ff).set i r2)
end
noncomputable def JM:PyData→Option Bool
 | .none=>some false
 | .bool b=>some b
 | .int i=>some (i != 0)
 | .list ds=>some (!ds.isEmpty)
 | .tuple ds=>some (!ds.isEmpty)
 | _=>none
noncomputable def bTr (f:En→Option PyData):En→Option Bool:=fun η=>(f η).bind JM
theorem wD {K:LN} {F:Hp} {ds:List PyData} {xs:List V} (h:RelL K F ds xs):(!ds.isEmpty)=!xs.isEmpty:=by
 cases ds with
 | nil=>rw [h.nil_of]; rfl
 | cons d ds =>
  obtain ⟨x,r,rfl,_,_⟩:=h.cons_of;rfl
theorem Ic {K:LN} {F H:Hp} {d:PyData} {b:Bool} {v:V} (h:JM d=some b) (sm:Same F H) (r:Rel K F d v):JB K v H b:=by
 cases d with
 | none=>cases h; rw [r.non]; rfl
 | bool k=>cases h; rw [r.bl]; rfl
 | int i=>cases h; rw [r.int]; rfl
 | str x=>cases h
 | dict es=>cases h
 | list ds =>
  cases h;obtain ⟨a,xs,rfl,hq,rs⟩:=r.lst;exact .inl ⟨xs,sm.seq hq,wD rs⟩
 | tuple ds =>
  cases h;obtain ⟨a,xs,rfl,hq,rs⟩:=r.tup;exact .inr (.inl ⟨xs,dh sm hq,wD rs⟩)
section
variable {X:Cx} {B:Bd} {e:Expr} {f:En→Option PyData}
theorem T.tru (he:E X B e f) (hi:∀ whole,isTrue e X.env whole=(do let v ← whole; standAt e.pos; holding [v] (truthy v)):=by intro _; rfl):T X B e (bTr f):=PT.imp (DU he hi) fun σ H Q ⟨F,η,b,sr,hd,q⟩=>by
 obtain ⟨x,hx,hd⟩:=bind_some hd;exact ⟨F,η,x,sr,hx,fun v F1 H1 g1 rv=>⟨b,Ic hd g1.fh rv,q F1 H1 g1⟩⟩
end
noncomputable def pDs (s:Sto):List D→Option (List PyData)
 | []=>some []
 | d::r=>(pD s d).bind fun x=>(pDs s r).bind fun xs=>some (x::xs)
noncomputable def mCB (o:List PyData→Option PyData) (fs:MFs):MF:=fun w=>(fs w).bind fun r=>(pDs r.2 r.1).bind fun xs=>(o xs).bind fun x=>some (.d x,r.2)
section
variable {X:Cx} {cl:Nat→Addr} {e:Expr} {es:List Expr} {fs:MFs} {pos pp:Pos}
theorem Ch {K:LN} {θ:List Addr} {F H:Hp} {s:Sto} (m:MR K cl θ F H s) {ds:List D} {vs:List V} (h:DRs K θ F ds vs):∀ {xs:List PyData},pDs s ds=some xs→RelL K F xs vs:=by
 induction h with
 | nil=>intro xs e; cases e; exact .nil
 | @cons a b as bs r t ih =>
  intro xs e;unfold pDs at e;obtain ⟨x,h1,e⟩:=bind_some e;obtain ⟨zs,h2,e⟩:=bind_some e;cases e;exact .cons (nZ m _ _ _ h1 r) (ih h2)
theorem HM {r:List V→Hp→VK→Prop} {o:List PyData→Option PyData} (ad:AdA X.K r o):∀ σ H Q,tM X.K cl (mCB o fs) σ H Q→tCB r (tMA X.K cl fs) σ H Q:=fun σ H Q ⟨θ,F,w,d,s',m,v,hf,q⟩=>by
 obtain ⟨⟨ds,s1⟩,h1,hf⟩:=bind_some hf;obtain ⟨xs,h2,hf⟩:=bind_some hf;obtain ⟨x,h3,hf⟩:=bind_some hf;cases hf;exact ⟨θ,F,w,ds,_,m,v,h1,fun vs θ1 F1 H1 p1 q1 m1 r1=>ad F1 H1 vs xs x Q m1.sm (Ch m1 r1 h2) h3 fun u F2 H2 g2 r2=>q u θ1 F2 H2 p1 (q1.trans g2.ff) (m1.grow g2) r2⟩
end
section
variable {X:Cx} {cl:Nat→Addr} {a b:Expr} {f g:MF} {pos:Pos}
theorem MT.eq {k:Nat} (hr:Room k X.A) (ha:ME X cl a f) (hb:ME X cl b g):MT X cl (.Compare a [.Eq] [b] pos) (mB (dP pEq f g)):=MT.cmp (wJ hr.units) A0 (nomark b) ha hb
theorem ME.eq {k:Nat} (hr:Room k X.A) (ha:ME X cl a f) (hb:ME X cl b g):ME X cl (.Compare a [.Eq] [b] pos) (dP pEq f g):=ME.cmp (wJ hr.units) A0 (nomark b) ha hb
theorem MT.ne {k:Nat} (hr:Room k X.A) (ha:ME X cl a f) (hb:ME X cl b g):MT X cl (.Compare a [.NotEq] [b] pos) (mB (dP pNe f g)):=MT.cmp (yT hr.units) CP (nomark b) ha hb
theorem MT.le (ha:ME X cl a f) (hb:ME X cl b g):MT X cl (.Compare a [.LtE] [b] pos) (mB (dP pLe f g)):=MT.cmp yj (pi fun _ _ _=>dZ) (nomark b) ha hb
theorem MT.notIn (ha:ME X cl a f) (hb:ME X cl b g) (hm:behindInMarks .NotIn b=false:=by with_unfolding_all rfl):MT X cl (.Compare a [.NotIn] [b] pos) (mB (dP (pIn true) f g)):=MT.cmp yi CQ hm ha hb
theorem MT.isN (ha:ME X cl a f) (hb:ME X cl b g) (hm:behindInMarks .Is b=false:=by rfl):MT X cl (.Compare a [.Is] [b] pos) (mB (dP (iD false) f g)):=MT.cmp El Fq hm ha hb
theorem MT.notN (ha:ME X cl a f) (hb:ME X cl b g) (hm:behindInMarks .IsNot b=false:=by rfl):MT X cl (.Compare a [.IsNot] [b] pos) (mB (dP (iD true) f g)):=MT.cmp yR zu hm ha hb
theorem ME.notN (ha:ME X cl a f) (hb:ME X cl b g) (hm:behindInMarks .IsNot b=false:=by rfl):ME X cl (.Compare a [.IsNot] [b] pos) (dP (iD true) f g):=ME.cmp yR zu hm ha hb
theorem ME.add (ha:ME X cl a f) (hb:ME X cl b g):ME X cl (.BinOp a .Add b pos) (mOp aG f g):=ME.op Ck Fu ha hb
theorem ME.at (ha:ME X cl a f) (hb:ME X cl b g) (hs:rB b:=by intro _ _; rfl):ME X cl (.Subscript a b pos) (mOp pIx f g):=ME.ix EM HS ha hb hs
end
noncomputable def spL (K:LN):Sp:=fun vs H Q _=>∃ (a:Addr) (ns:List Int),vs=[.ref a]∧SqL K H a (ns.map V.int)∧ns.length≤63∧∀ H',Q (.bl true) H'
theorem FV {K:LN} {cl:Nat→Addr} {fn:List D→Sto→Option (D×Sto)} (main:∀ ns:List Int,ns.length≤63→∃ s',fn [.d (.list (ns.map PyData.int))] []=some (.d (.bool true),s')):∀ vs H Q E,spL K vs H Q E→spM K cl fn vs H Q E:=fun vs H Q E ⟨a,ns,e,hS,hl,q⟩=>by
 subst e;obtain ⟨s',hm⟩:=main ns hl;exact ⟨[],H,[],[.d (.list (ns.map PyData.int))],.d (.bool true),s',⟨.refl _,rfl,by simp,fun n a c h=>by simp at h⟩,.cons (show Rel K H (.list (ns.map PyData.int)) (.ref a) from jk hS (RelL.ints ns)) .nil,hm,fun v θ' F' H' _ _ _ r=>by rw [(show Rel K F' (.bool true) v from r).bl]; exact q H'⟩
section
variable {w w1:Wd} {s s1 s2:Sto} {d d1 d2:D} {ds:List D} {n i k:Nat} {nm:Str}
theorem ai {f g:Wd→Option MOut} {r:Option MOut} (h1:f w=some (.nx w1)) (h2:g w1=r):aH f g w=r:=by
 unfold aH;rw [h1]; exact h2
theorem hG {f g:Wd→Option MOut} (h1:f w=some (.rt d s)):aH f g w=some (.rt d s):=by
 unfold aH;rw [h1]; rfl
theorem aY {f:MF} (h:f w=some (d,s)):bI i f w=some (.nx ⟨w.η.set i (some d),s⟩):=by
 unfold bI;rw [h]; rfl
theorem bE {f:MF} (h:f w=some (d,s)):fU f w=some (.rt d s):=by
 unfold fU;rw [h]; rfl
theorem wk {f:MF} (h:f w=some (d,s)):qk f w=some (.nx ⟨w.η,s⟩):=by
 unfold qk;rw [h]; rfl
theorem au {f:En→Option PyData} {x:PyData} (h:f (vw w)=some x):mP f w=some (.d x,w.s):=by
 unfold mP;rw [h]; rfl
theorem Kn {f:En→Option (List PyData)} {x:List PyData} (h:f (vw w)=some x):mC f w=some (.d (.list x),w.s):=by
 unfold mC;rw [h]; rfl
theorem bB {f:En→Option Bool} {b:Bool} (h:f (vw w)=some b):tPv f w=some (b,w.s):=by
 unfold tPv;rw [h]; rfl
theorem mG {c:MTF} {f g:Wd→Option MOut} {r:Option MOut} (h:c w=some (true,s)) (h2:f ⟨w.η,s⟩=r):mIf c f g w=r:=by
 unfold mIf;rw [h]; exact h2
theorem Km {c:MTF} {f g:Wd→Option MOut} {r:Option MOut} (h:c w=some (false,s)) (h2:g ⟨w.η,s⟩=r):mIf c f g w=r:=by
 unfold mIf;rw [h]; exact h2
theorem j7 {c:MTF} {f:Wd→Option MOut} (h:c w=some (false,s)):mIf c f mNx w=some (.nx ⟨w.η,s⟩):=Km h rfl
theorem gU:maN w=some ([],w.s):=rfl
theorem aO {f:MF} {fs:MFs} (h1:f w=some (d,s1)) (h2:fs ⟨w.η,s1⟩=some (ds,s2)):maC f fs w=some (d::ds,s2):=by
 unfold maC;rw [h1,LM,h2]; rfl
theorem cV {fn:List D→Sto→Option (D×Sto)} {o:MF} {fs:MFs} {as:List (Str×D)} (h0:o w=some (.r n,s)) (hc:s[n]?=some (.obj k as)) (hl:as.lookup nm=none) (h1:fs ⟨w.η,s⟩=some (ds,s1)) (h2:fn (.r n::ds) s1=some (d,s2)):cO k nm fn o fs w=some (d,s2):=by
 unfold cO;rw [h0,LM];dsimp only;rw [hc];dsimp only;rw [if_pos ⟨rfl,hl⟩,h1]; exact h2
theorem An {fn:List D→Sto→Option (D×Sto)} {fs:MFs} (h1:fs w=some (ds,s)) (h2:fn (.r s.length::ds) (s++[.obj k []])=some (.d .none,s2)):vz k fn fs w=some (.r s.length,s2):=by
 unfold vz;rw [h1,LM,h2]; rfl
theorem hJ {o e:MF} {fs:List (Str×D)} (h1:e w=some (d,s1)) (h2:o ⟨w.η,s1⟩=some (.r n,s2)) (hc:s2[n]?=some (.obj k fs)) (hl:fs.length < 999):km k nm o e w=some (.nx ⟨w.η,s2.set n (.obj k (xJ nm d fs))⟩):=by
 unfold km;rw [h1,LM,h2,LM];dsimp only;rw [hc];dsimp only;rw [if_pos ⟨rfl,hl⟩]
theorem iJ {f:MF} {b:Bool} (h:f w=some (.d (.bool b),s)):mB f w=some (b,s):=by
 unfold mB;rw [h]; rfl
theorem jl {o:PyData→PyData→Option PyData} {f g:MF} {x y z:PyData} (h1:f w=some (d1,s1)) (h2:g ⟨w.η,s1⟩=some (d2,s2)) (hx:lD s2 d1=some x) (hy:lD s2 d2=some y) (ho:o x y=some z) (hf:lY z=true):dP o f g w=some (.d z,s2):=by
 unfold dP;rw [h1,LM,h2,LM,hx,LM,hy,LM,ho,LM,if_pos hf]
theorem ln {o:PyData→PyData→Option PyData} {f g:MF} {x y z:PyData} (h1:f w=some (d1,s1)) (h2:g ⟨w.η,s1⟩=some (d2,s2)) (hx:pD s2 d1=some x) (hy:pD s2 d2=some y) (ho:o x y=some z):mOp o f g w=some (.d z,s2):=by
 unfold mOp;rw [h1,LM,h2,LM,hx,LM,hy,LM,ho,LM]
theorem ED {o:List PyData→Option PyData} {fs:MFs} {xs:List PyData} {x:PyData} (h1:fs w=some (ds,s)) (h2:pDs s ds=some xs) (h3:o xs=some x):mCB o fs w=some (.d x,s):=by
 unfold mCB;rw [h1,LM,h2,LM,h3]; rfl
theorem bJ {a b:Nat} {g:Wd→Option MOut} (hl:ds.length=a) (h:g ⟨ds.map some++Ma (b - a) none,s⟩=some (.rt d s1)):dN a b g ds s=some (d,s1):=by
 unfold dN;rw [if_pos hl,h]; rfl
theorem HG {a b:Nat} {g:Wd→Option MOut} (hl:ds.length=a) (h:g ⟨ds.map some++Ma (b - a) none,s⟩=some (.nx w1)):dN a b g ds s=some (.d .none,w1.s):=by
 unfold dN;rw [if_pos hl,h]; rfl
theorem nL {ks:List Nat} {it:Wd→Option (List PyData×Sto)} {t:En→PyData→Option En} {body:Wd→Option MOut} {xs:List PyData} {r:Option MOut} (h:it w=some (xs,s)) (h2:mGo ks t body xs ⟨w.η,s⟩=r):sQ ks it t body w=r:=by
 unfold sQ;rw [h]; exact h2
theorem sU {f:En→Option (List PyData)} {xs:List PyData} (h:f (vw w)=some xs):iPu f w=some (xs,w.s):=by
 unfold iPu;rw [h]; rfl
theorem i6 {x:PyData} (h:i < w.η.length):mTg [i] (tgN i) w x=some ⟨w.η.set i (some (.d x)),w.s⟩:=by
 have e:((vw w).set i (.val x))[i]?=some (.val x):=LV (by unfold vw; rw [LO]; exact h);show (some ((vw w).set i (.val x))).bind _=_;rw [LM];unfold back;rw [e];rfl
theorem FM {g:D→Option PyData} {fs:List (Str×D)} (hc:s[n]?=some (.obj k fs)):vwS g s (some (.r n))=.ob fun f=>(fs.lookup f).bind g:=by
 unfold vwS;dsimp only;rw [hc]
end
noncomputable def xP (mp:List (Option Nat)) (η:MEn):MEn:=mp.map fun o=>o.bind fun j=>(η[j]?).join
noncomputable def Al (ks:List Nat) (t:En→PyData→Option En) (p:MTF) (f:MF) (n:Nat) (η:MEn):List PyData→Sto→Option Sto
 | [],s=>some s
 | d::ds,s=>(mTg ks t ⟨η,s⟩ d).bind fun w1=>(p w1).bind fun r=>if r.1=true then
   (f ⟨w1.η,r.2⟩).bind fun q=>match q.2[n]? with
    | some (.lst acc)=>if acc.length < sizeLine then Al ks t p f n η ds (q.2.set n (.lst (acc++[q.1]))) else none
    | _=>none
  else Al ks t p f n η ds r.2
noncomputable def mcL (mp:List (Option Nat)) (it:Wd→Option (List PyData×Sto)) (ks:List Nat) (t:En→PyData→Option En) (p:MTF) (f:MF):MF:=fun w=>(it w).bind fun r =>
 (Al ks t p f r.2.length (xP mp w.η) r.1 (r.2++[.lst []])).bind fun s=>some (.r r.2.length,s)
noncomputable def MTs (X:Cx) (cl:Nat→Addr) (ifs:List Expr) (f:MTF):Prop:=PTs X ifs (tMT X.K cl f)
noncomputable def uJ:MTF:=fun w=>some (true,w.s)
section
variable {X:Cx} {cl:Nat→Addr} {tg iter elt c:Expr} {ifs:List Expr} {scope:Scope} {N':List Str} {mp:List (Option Nat)} {ks:List Nat} {gt:TG} {t:En→PyData→Option En} {fi:Wd→Option (List PyData×Sto)} {p:MTF} {f:MF} {pos:Pos}
theorem MTs.nil:MTs X cl [] uJ:=fun pins s σ H Q I ⟨θ,F,w,b,s',m,v,hf,q⟩=>by
 cases hf;exact BZ pins s σ H Q I (q θ F H (Mf _) (.refl _) m)
theorem MTs.one (h:MT X cl c p):MTs X cl [c] p:=BY h
theorem sH {α β:Type} {R:α→β→Prop} {as:List α} {bs:List β} (h:Paired R as bs) {a:α} {b:β} (r:R a b):Paired R (as++[a]) (bs++[b]):=by
 induction h with
 | nil=>exact .cons r .nil
 | cons q _ ih=>exact .cons q ih
theorem iX {α β:Type} {R:α→β→Prop} {as:List α} {bs:List β} (h:Paired R as bs):as.length=bs.length:=by
 induction h with
 | nil=>rfl
 | cons q _ ih=>rw [L1,L1,ih]
theorem Gz {K:LN} {θ:List Addr} {F:Hp} {σ:St} {η:MEn} (v:MV K θ F σ η) (mp:List (Option Nat)):MV K θ F (jA mp σ) (xP mp η):=by
 refine ⟨by unfold xP jA; rw [LO,LO],fun i d e=>?_⟩;unfold xP at e;unfold jA;rw [L8] at e ⊢;cases hm:mp[i]? with
 | none=>rw [hm] at e; cases e
 | some o =>
  rw [hm] at e;have e':(o.bind fun j=>(η[j]?).join)=some d:=Option.some.inj e;cases o with
  | none=>cases e'
  | some j =>
   have e2:(η[j]?).join=some d:=e';cases hj:η[j]? with
   | none=>rw [hj] at e2; cases e2
   | some y =>
    rw [hj] at e2;have e3:y=some d:=e2;subst e3;obtain ⟨u,h1,h2⟩:=v.val j d hj;refine ⟨u,?_,h2⟩;show some ((σ[j]?).join)=some (some u);rw [h1]; rfl
theorem Aq (ht:TgP X.K ks gt t) (hks:∀ k∈ks,mp[k]?=some none):∀ σ H Q,tM X.K cl (mcL mp fi ks t p f) σ H Q→BR mp (tMI X.K cl fi) gt (tMT X.K cl p) (tM X.K cl f) σ H Q:=fun σ H Q ⟨θ,F,w,d,s',m,v,hf,q⟩=>by
 obtain ⟨⟨ds,s1⟩,h1,hf⟩:=bind_some hf;obtain ⟨s2,h2,hf⟩:=bind_some hf;cases hf;dsimp only at h2;refine ⟨θ,F,w,ds,s1,m,v,h1,fun J θ1 F1 H1 p1 q1 m1 ip D hD=>?_⟩;have kept:∀ {σ2:St},σ2.length=(jA mp σ).length→(∀ i,i∉ks→σ2[i]?=(jA mp σ)[i]?)→wp (jA mp σ) σ2:=fun {σ2} hl hn=>⟨hl,fun i v e=>by
  by_cases hi:i∈ks
  ·have z:=hks i hi;unfold jA at e;rw [L8,z] at e;cases e
  ·rw [hn i hi]; exact e⟩
 have v1:MV X.K θ1 F1 (jA mp σ) (xP mp w.η):=Gz (v.mono p1 q1) mp;have pD:θ1<+:θ1++[D]:=My _ _;have mD:MR X.K cl (θ1++[D]) F1 (upd H1 D (.lst [])) (s1++[.lst []]):=m1.new hD ⟨m1.sm.free hD,[],aD,.nil⟩;have hDn:∀ {θ'},(θ1++[D])<+:θ'→θ'[s1.length]?=some D:=fun {θ'} hp=>lH hp (by rw [← m1.len,LY (LS _),Mp]; rfl);refine ⟨fun i k Hc=>k=ds.length - i∧i≤ds.length∧∃ θc Fc sc,(θ1++[D])<+:θc∧Same F1 Fc∧MR X.K cl θc Fc Hc sc∧Al ks t p f s1.length (xP mp w.η) (ds.drop i) sc=some s',⟨_,rfl,Mz _,θ1++[D],F1,_,Mf _,.refl _,mD,by simpa using h2⟩,?_⟩
 rintro i k Hc ⟨rfl,hi,θc,Fc,sc,pc,fc,mc,hgo⟩
 obtain ⟨ip1,ip2⟩:=ip Fc Hc i fc mc.sm;by_cases hlt:i < ds.length
 ·have e:ds[i]?=some ds[i]:=Me hlt;obtain ⟨go,yl⟩:=ip1 _ e;rw [M0 hlt] at hgo;unfold Al at hgo;obtain ⟨w1,e1,hgo⟩:=bind_some hgo;obtain ⟨⟨ok,s3⟩,e2,hgo⟩:=bind_some hgo;dsimp only at hgo;refine .inr ⟨go,fun H'=>∃ m',m' < ds.length - i∧(m'=ds.length - (i+1)∧i+1≤ds.length∧∃ θc Fc sc,(θ1++[D])<+:θc∧Same F1 Fc∧MR X.K cl θc Fc H' sc∧Al ks t p f s1.length (xP mp w.η) (ds.drop (i+1)) sc=some s'),fun H' n=>n,fun x H' y=>?_⟩;obtain ⟨F2,g2,rx⟩:=yl x H' y;have m2:=mc.grow g2;have v2:MV X.K θc F2 (jA mp σ) (xP mp w.η):=v1.mono (pD.trans pc) (fc.trans g2.ff);obtain ⟨ζ,e3,e1⟩:=bind_some e1;obtain ⟨η1,e4,e1⟩:=bind_some e1;cases e1;refine ht ⟨F2,H'⟩ F2 H' (jA mp σ) _ _ x ζ (MR.vw (w:=⟨xP mp w.η,sc⟩) m2 v2) rx e3 _ fun σ3 F3 H3 sr3 g3 l3 n3=>⟨kept l3 n3,?_⟩;have m3:=m2.grow g3;have v3:MV X.K θc F3 σ3 η1:=zo sr3 ks e4 (by rw [v2.len,l3]) fun i d' e=>by
   by_cases hi:i∈ks
   ·exact .inl hi
   ·obtain ⟨u,e1,e2⟩:=v2.val i d' e;exact .inr ⟨u,by rw [n3 i hi]; exact e1,e2.mono (Mf _) g3.ff⟩
  have f3:Same F1 F3:=fc.trans (g2.ff.trans g3.ff);refine ⟨θc,F3,⟨η1,sc⟩,ok,s3,m3,v3,e2,fun θ4 F4 H4 p4 q4 m4=>?_⟩;cases ok with
  | false =>
   rw [if_neg LU] at hgo;rw [if_neg LU];exact ⟨_,by omega,rfl,hlt,θ4,F4,s3,pc.trans p4,f3.trans q4,m4,hgo⟩
  | true =>
   rw [if_pos rfl] at hgo;rw [if_pos rfl];obtain ⟨⟨d5,s5⟩,e5,hgo⟩:=bind_some hgo;refine ⟨θ4,F4,⟨η1,s3⟩,d5,s5,m4,v3.mono p4 q4,e5,fun u θ5 F5 H5 p5 q5 m5 r5=>?_⟩;dsimp only at hgo;split at hgo
   ·rename_i acc hacc;split at hgo
    ·rename_i hlen;have hp5:(θ1++[D])<+:θ5:=pc.trans (p4.trans p5);obtain ⟨z1,xs,z2,z3⟩:=m5.cel _ D _ (hDn hp5) hacc;refine ⟨xs,z2,by rw [← iX z3]; exact hlen,_,by omega,rfl,hlt,θ5,F5,_,hp5,f3.trans (q4.trans q5),m5.put (c':=.lst (acc++[d5])) (hDn hp5) hacc rfl ⟨z1,xs++[u],aD,sH z3 r5⟩,hgo⟩
    ·cases hgo
   ·cases hgo
 ·have ei:i=ds.length:=by omega
  subst ei;rw [Nu] at hgo;cases hgo;exact .inl ⟨ip2 rfl,q _ θc Fc Hc (p1.trans (pD.trans pc)) (q1.trans fc) mc ⟨D,hDn pc,rfl⟩⟩
theorem ME.lcomp (hc:X.calm=true) (ck:CompSc X scope N' mp) (ht:TgP X.K ks gt t) (hks:∀ k∈ks,mp[k]?=some none) (hi:MI X cl tg iter fi)
  (hb:∀ s H fp,PG (ci X scope N' s H fp) tg gt∧MTs (ci X scope N' s H fp) cl ifs p∧ME (ci X scope N' s H fp) cl elt f)
  (hs:∀ x,foldedSetIterable iter X.env x=pure x:=by intro _; rfl):ME X cl (.ListComp elt [⟨tg,iter,ifs,0⟩] scope pos) (mcL mp fi ks t p f):=PE.imp (B6 hc ck hi hb hs) (Aq ht hks)
theorem MS.setM (i:Nat) {y:Str} {py spos:Pos} (hc:X.calm=true) (hN:X.N.Nodup) (ck:CompSc X scope N' mp) (ht:TgP X.K ks gt t) (hks:∀ k∈ks,mp[k]?=some none) (hi:MI X cl tg iter fi)
  (hb:∀ s H fp,PG (ci X scope N' s H fp) tg gt∧MTs (ci X scope N' s H fp) cl ifs p∧ME (ci X scope N' s H fp) cl elt f)
  (hiy:X.N[i]?=some y:=by rfl) (hy:X.env.scope.names.lookup y=some .local:=by rfl) (hsw:swapsWith (.ListComp elt [⟨tg,iter,ifs,0⟩] scope pos) (some (.Name y py)) spos.line X.env=pure true:=by rfl)
  (hs:∀ x,foldedSetIterable iter X.env x=pure x:=by intro _; rfl):MS X cl (.Assign [.Name y py] (.ListComp elt [⟨tg,iter,ifs,0⟩] scope pos) spos) (bI i (mcL mp fi ks t p f)):=PS.imp (sG hc hN hiy hy ck hi hb hsw hs) fun Z σ H ⟨θ,F,w,o,m,v,hf,q⟩=>by
 obtain ⟨⟨d,s⟩,h1,hf⟩:=bind_some hf;cases hf;exact Aq ht hks σ H _ ⟨θ,F,w,d,s,m,v,h1,fun u θ' F' H' p' s' m' r'=>q _ θ' F' H' p' s' m' ((v.mono p' s').set i r')⟩
end
noncomputable def tPM (K:LN) (cl:Nat→Addr) (f:En→Option (Option Int)):TO:=fun σ H Q=>∃ θ F w o,MR K cl θ F H w.s∧MV K θ F σ w.η∧f (vw w)=some o∧∀ F' H',Same F F'→MR K cl θ F' H' w.s→Q o H'
noncomputable def mSl (f:MF) (fl fh:En→Option (Option Int)):MF:=fun w=>(f w).bind fun r=>(pD r.2 r.1).bind fun x=>(fl (vw ⟨w.η,r.2⟩)).bind fun l=>(fh (vw ⟨w.η,r.2⟩)).bind fun h=>(pSl x l h).bind fun z=>some (.d z,r.2)
section
variable {X:Cx} {cl:Nat→Addr} {e:Expr} {f:MF} {pos p2:Pos} {lo hi:Option Expr} {fl fh:En→Option (Option Int)}
theorem IB {e:Option Expr} (h:∀ B,P X B e fl):PO X e (tPM X.K cl fl):=fun pins s σ H Q I ⟨θ,F,w,o,m,v,hf,q⟩ =>
 h ⟨F,H⟩ pins s σ H Q I ⟨F,vw w,o,m.vw v,hf,fun F' H' g=>q F' H' g.ff (m.grow g)⟩
theorem ME.sl (he:ME X cl e f) (hl:∀ B,P X B lo fl) (hu:∀ B,P X B hi fh):ME X cl (.Subscript e (.Slice lo hi none p2) pos) (mSl f fl fh):=PE.imp (z4 JZ he (IB (cl:=cl) hl) (IB (cl:=cl) hu)) fun σ H Q ⟨θ,F,w,d,s',m,v,hf,q⟩=>by
 obtain ⟨⟨d1,s1⟩,h1,hf⟩:=bind_some hf;obtain ⟨x,hx,hf⟩:=bind_some hf;obtain ⟨l,hl,hf⟩:=bind_some hf;obtain ⟨h,hh,hf⟩:=bind_some hf;obtain ⟨z,hz,hf⟩:=bind_some hf;cases hf;refine ⟨θ,F,w,d1,s1,m,v,h1,fun u θ1 F1 H1 p1 q1 m1 r1=>⟨θ1,F1,⟨w.η,s1⟩,l,m1,v.mono p1 q1,hl,fun F2 H2 q2 m2=>⟨θ1,F2,⟨w.η,s1⟩,h,m2,v.mono p1 (q1.trans q2),hh,fun F3 H3 q3 m3=>?_⟩⟩⟩;exact HR m3.sm (nZ m3 _ _ _ hx (r1.mono (Mf _) (q2.trans q3))) hz fun t F4 H4 g4 rt=>q t θ1 F4 H4 p1 (q1.trans (q2.trans (q3.trans g4.ff))) (m3.grow g4) rt
end
theorem Bk {w:Wd} {f:MF} {fl fh:En→Option (Option Int)} {d:D} {s:Sto} {x z:PyData} {l h:Option Int} (h1:f w=some (d,s)) (hx:pD s d=some x) (hl:fl (vw ⟨w.η,s⟩)=some l) (hh:fh (vw ⟨w.η,s⟩)=some h) (hz:pSl x l h=some z):mSl f fl fh w=some (.d z,s):=by
 unfold mSl;rw [h1,LM,hx,LM,hl,LM,hh,LM,hz]; rfl
noncomputable def mFz (f:MF):MF:=fun w=>(f w).bind fun r=>match r.1 with
 | .d x=>some (.d x,r.2)
 | .r n=>match r.2[n]? with
  | some (.lst ds)=>(v5 ds).bind fun xs=>some (.d (.list xs),r.2.set n (.fz (.list xs)))
  | some (.fz x)=>some (.d x,r.2)
  | _=>none
noncomputable def IT (c:MTF) (f g:MF):MF:=fun w=>(c w).bind fun r=>if r.1=true then f ⟨w.η,r.2⟩ else g ⟨w.η,r.2⟩
noncomputable def xT (fs:MFs):MF:=fun w=>(fs w).bind fun r=>if r.1.length≤sizeLine then some (.r r.2.length,r.2++[.lst r.1]) else none
noncomputable def vY (f g:MF):MF:=fun w=>(f w).bind fun r=>(g ⟨w.η,r.2⟩).bind fun q=>match r.1,q.1 with
 | .r n,.d (.int i)=>(match q.2[n]? with | some (.lst ds)=>(atI ds i).bind fun d=>some (d,q.2) | _=>none)
 | _,_=>none
noncomputable def Cq:MF:=fun w=>some (.r w.s.length,w.s++[.dct []])
section
variable {X:Cx} {cl:Nat→Addr} {a b c e o:Expr} {es:List Expr} {f g:MF} {fs:MFs} {tc:MTF} {pos:Pos}
theorem CelR.frz {K:LN} {θ:List Addr} {F H:Hp} {a b:Addr} {o:HO} {c:Cell} (h:CelR K cl θ F H b c) (hne:b≠a) (hF:F a=none):CelR K cl θ (upd F a o) H b c:=by
 have sn:Same F (upd F a o):=fb hF o;cases c with
 | obj k fs=>obtain ⟨h1,h2,h3,dx,xs,h4,h5⟩:=h; exact ⟨by rw [aE hne]; exact h1,h2,h3,dx,xs,h4,h5.mono (Mf _) sn⟩
 | lst ds=>obtain ⟨h1,xs,h4,h5⟩:=h; exact ⟨by rw [aE hne]; exact h1,xs,h4,h5.mono (Mf _) sn⟩
 | dct kvs=>obtain ⟨h1,xs,h4,h5⟩:=h; exact ⟨by rw [aE hne]; exact h1,xs,h4,h5.mono (Mf _) sn⟩
 | fz x=>exact ⟨Rel.mono sn h.1,h.2⟩
theorem MR.frz {K:LN} {θ:List Addr} {F H:Hp} {s:Sto} (m:MR K cl θ F H s) {n:Nat} {ad:Addr} {ds:List D} {xs:List PyData} (e1:θ[n]?=some ad) (e2:s[n]?=some (.lst ds)) (hx:v5 ds=some xs) :
  ∃ F',Same F F'∧MR K cl θ F' H (s.set n (.fz (.list xs)))∧Rel K F' (.list xs) (.ref ad):=by
 obtain ⟨h1,vs,h4,h5⟩:=m.cel n ad _ e1 e2;have sn:Same F (upd F ad (.lst vs)):=fb h1 _;have rl:Rel K (upd F ad (.lst vs)) (.list xs) (.ref ad):=jk (SqL.of aD) ((AK h5 hx).mono sn);refine ⟨upd F ad (.lst vs),sn,⟨fun b u q=>?_,by rw [L6]; exact m.len,m.nd,fun k b c f1 f2=>?_⟩,rl⟩
 ·by_cases hb:b=ad
  ·subst hb; rw [aD] at q; rw [← q]; exact h4
  ·rw [aE hb] at q; exact m.sm b u q
 ·by_cases hk:n=k
  ·subst hk;rw [LV (LT.mp e2).1] at f2;cases f2;rw [e1] at f1;cases f1;exact ⟨rl,_,h4⟩
  ·rw [LP hk] at f2;exact (m.cel k b c f1 f2).frz (HF m.nd f1 e1 (Ne.symm hk)) h1
theorem KC:∀ σ H Q,tM X.K cl (mFz f) σ H Q→tM X.K cl f σ H Q:=fun σ H Q ⟨θ,F,w,d,s',m,v,hf,q⟩=>by
 obtain ⟨⟨d1,s1⟩,h1,hf⟩:=bind_some hf;refine ⟨θ,F,w,d1,s1,m,v,h1,fun u θ1 F1 H1 p1 q1 m1 r1=>?_⟩;cases d1 with
 | d x=>cases hf; exact q u θ1 F1 H1 p1 q1 m1 r1
 | r n =>
  dsimp only at hf;obtain ⟨ad,e1,rfl⟩:=r1;split at hf
  ·rename_i ds e2;obtain ⟨xs,hx,hf⟩:=bind_some hf;cases hf;obtain ⟨F2,sn,m2,rl⟩:=m1.frz e1 e2 hx;exact q _ θ1 F2 H1 p1 (q1.trans sn) m2 rl
  ·rename_i x e2;cases hf;exact q _ θ1 F1 H1 p1 q1 m1 (m1.cel n ad _ e1 e2).1
  ·cases hf
theorem nE (h:ME X cl e f):ME X cl e (mFz f):=PE.imp h KC
theorem ME.ifx (hc:MT X cl c tc) (ha:ME X cl a f) (hb:ME X cl b g):ME X cl (.IfExp c a b pos) (IT tc f g):=PE.imp (Aa hc ha hb) fun σ H Q ⟨θ,F,w,d,s',m,v,hf,q⟩=>by
 obtain ⟨⟨x,s1⟩,h1,hf⟩:=bind_some hf;refine ⟨θ,F,w,x,s1,m,v,h1,fun θ1 F1 H1 p1 q1 m1=>?_⟩;cases x with
 | true =>
  rw [if_pos rfl] at hf ⊢;exact ⟨θ1,F1,⟨w.η,s1⟩,d,s',m1,v.mono p1 q1,hf,fun u θ2 F2 H2 p2 q2 m2 r2=>q u θ2 F2 H2 (p1.trans p2) (q1.trans q2) m2 r2⟩
 | false =>
  rw [if_neg LU] at hf ⊢;exact ⟨θ1,F1,⟨w.η,s1⟩,d,s',m1,v.mono p1 q1,hf,fun u θ2 F2 H2 p2 q2 m2 r2=>q u θ2 F2 H2 (p1.trans p2) (q1.trans q2) m2 r2⟩
theorem t4 {θ:List Addr} {s:Sto} {p:Addr} (h:θ.length=s.length):(θ++[p])[s.length]?=some p:=by rw [← h,LY (LS _),Mp]; rfl
theorem ME.lstM (h:MA X cl es fs):ME X cl (.List es pos) (xT fs):=PE.imp (D7 h) fun σ H Q ⟨θ,F,w,d,s',m,v,hf,q⟩=>by
 obtain ⟨⟨ds,s1⟩,h1,hf⟩:=bind_some hf;dsimp only at hf;split at hf
 ·rename_i hl;cases hf;refine ⟨θ,F,w,ds,s1,m,v,h1,fun vs θ1 F1 H1 p1 q1 m1 r1=>⟨by rw [← iX r1]; exact hl,fun p hp=>?_⟩⟩;have pp:θ1<+:θ1++[p]:=My _ _;exact q _ (θ1++[p]) F1 _ (p1.trans pp) q1 (m1.new hp ⟨m1.sm.free hp,vs,aD,r1.mono pp (.refl _)⟩) ⟨p,t4 m1.len,rfl⟩
 ·cases hf
theorem ME.dict0:ME X cl (.Dict [] [] pos) Cq:=PE.imp Ea fun σ H Q ⟨θ,F,w,d,s',m,v,hf,q⟩ p hp=>by
 cases hf;have pp:θ<+:θ++[p]:=My _ _;exact q _ (θ++[p]) F _ pp (.refl _) (m.new hp ⟨m.sm.free hp,[],aD,.nil⟩) ⟨p,t4 m.len,rfl⟩
theorem DRs.atI {K:LN} {θ:List Addr} {F:Hp} {ds:List D} {vs:List V} (h:DRs K θ F ds vs) {i:Int} {d:D} (e:L2.atI ds i=some d):∃ v,L2.atI vs i=some v∧DR K θ F d v:=by
 unfold L2.atI at e ⊢;obtain ⟨j,h1,h2⟩:=bind_some e;rw [← iX h,h1,LM];exact h.get h2
theorem ME.ixL (ha:ME X cl a f) (hb:ME X cl b g) (hs:rB b:=by intro _ _; rfl):ME X cl (.Subscript a b pos) (vY f g):=PE.imp (D8 ix_list ha hb hs) fun σ H Q ⟨θ,F,w,d,s',m,v,hf,q⟩=>by
 obtain ⟨⟨d1,s1⟩,h1,hf⟩:=bind_some hf;obtain ⟨⟨d2,s2⟩,h2,hf⟩:=bind_some hf;dsimp only at hf;split at hf
 ·rename_i _ n i _;split at hf
  ·rename_i ds hc;obtain ⟨d3,hd,hf⟩:=bind_some hf;cases hf;refine ⟨θ,F,w,_,s1,m,v,h1,fun u θ1 F1 H1 p1 q1 m1 r1=>⟨θ1,F1,⟨w.η,s1⟩,_,_,m1,v.mono p1 q1,h2,fun u2 θ2 F2 H2 p2 q2 m2 r2=>?_⟩⟩;obtain ⟨ad,z1,rfl⟩:=r1.mono p2 q2;have r2':Rel X.K F2 (.int i) u2:=r2;obtain ⟨w1,xs,w3,w4⟩:=m2.cel _ ad _ z1 hc;obtain ⟨x,y1,y2⟩:=DRs.atI w4 hd;exact ⟨ad,xs,i,x,rfl,r2'.int,SqL.of w3,y1,q x θ2 F2 H2 (p1.trans p2) (q1.trans q2) m2 y2⟩
  ·cases hf
 ·cases hf
end
noncomputable def uh (o g:MF):MF:=fun w=>(o w).bind fun r=>match r.1 with
 | .r n=>(match r.2[n]? with
  | some (.lst _)=>(g ⟨w.η,r.2⟩).bind fun q=>(pD q.2 q.1).bind fun x=>match x,q.2[n]? with
   | .list ys,some (.lst ds)=>if ds.length+ys.length≤sizeLine then some (.d .none,q.2.set n (.lst (ds++ys.map .d))) else none
   | _,_=>none
  | _=>none)
 | _=>none
noncomputable def vA (o g:MF):MF:=fun w=>(o w).bind fun r=>match r.1 with
 | .r n=>(match r.2[n]? with
  | some (.lst _)=>(g ⟨w.η,r.2⟩).bind fun q=>match q.2[n]? with
   | some (.lst ds)=>if ds.length < sizeLine then some (.d .none,q.2.set n (.lst (ds++[q.1]))) else none
   | _=>none
  | _=>none)
 | _=>none
section
variable {X:Cx} {cl:Nat→Addr} {o e:Expr} {f g:MF} {apos cpos:Pos}
theorem qy {α β:Type} {R:α→β→Prop} {as as':List α} {bs bs':List β} (h:Paired R as bs) (h':Paired R as' bs'):Paired R (as++as') (bs++bs'):=by
 induction h with
 | nil=>exact h'
 | cons q _ ih=>exact .cons q ih
theorem ME.extC (ho:ME X cl o f) (he:ME X cl e g) (hbase:attributeBase o "extend" X.env (eval o X.env)=eval o X.env:=by rfl)
  (hfew:((backTo cpos (starEach [e] X.env)).all (fun x=>!x.1)&&(backToKw cpos (keywordEach [] X.env)).all (fun x=>x.1.isSome)
   && decide ([e].length+([]:List Keyword).length+(if ([]:List Keyword).isEmpty then 0 else 1) < 30))=true:=by rfl)
  (hline:(apos.endLine==cpos.line)=true:=by rfl) (hs:starEach [e] X.env=(false,eval e X.env)::starEach [] X.env:=by exact bW rfl) (hplain:(backTo cpos (starEach [] X.env)).any (·.1)=false:=by rfl) :
  ME X cl (.Call (.Attribute o "extend" apos) [e] [] cpos) (uh f g) :=
 PE.imp (B9 PySem.F.plainAttrs_list PySem.F.slot_list_extend PySem.F.type_list_extend Co ho (aq he bg hs) hbase hfew hline hs hplain) fun σ H Q ⟨θ,F,w,d,s',m,v,hf,q⟩=>by
  obtain ⟨⟨d1,s1⟩,h1,hf⟩:=bind_some hf;cases d1 with
  | d x=>cases hf
  | r n =>
   dsimp only at hf;split at hf
   ·rename_i ds0 hc0;obtain ⟨⟨d2,s2⟩,h2,hf⟩:=bind_some hf;obtain ⟨x,hx,hf⟩:=bind_some hf;dsimp only at hf hx;split at hf
    ·rename_i ys ds hc;split at hf
     ·rename_i hl;cases hf;refine ⟨θ,F,w,_,s1,m,v,h1,fun u θ1 F1 H1 p1 q1 m1 r1=>?_⟩;obtain ⟨ad,z1,rfl⟩:=r1;obtain ⟨w1,xs0,w3,w4⟩:=m1.cel n ad _ z1 hc0;refine ⟨.inl ⟨rfl,xs0,SqL.of w3⟩,θ1,F1,⟨w.η,s1⟩,[d2],s2,m1,v.mono p1 q1,aO h2 gU,fun vs θ2 F2 H2 p2 q2 m2 r2=>?_⟩;cases r2 with
      | cons ra rn =>
       cases rn;have rx:=nZ m2 _ _ _ hx ra;obtain ⟨b,zs,rfl,hq,r3⟩:=rx.lst;have z2:=lH p2 z1;obtain ⟨w5,xs,w6,w7⟩:=m2.cel n ad _ z2 hc;have hlx:=iX w7;refine ⟨ad,b,xs,zs,rfl,rfl,w6,m2.sm.seq hq,by rw [← hlx,r3.length]; exact hl,?_⟩;exact q _ θ2 F2 _ (p1.trans p2) (q1.trans q2) (m2.put (c':=.lst (ds++ys.map .d)) z2 hc rfl ⟨w5,xs++zs,aD,qy w7 (Ba r3)⟩) (show Rel X.K F2 .none .non from ro)
     ·cases hf
    ·cases hf
   ·cases hf
theorem ME.appC (ho:ME X cl o f) (he:ME X cl e g) (hbase:attributeBase o "append" X.env (eval o X.env)=eval o X.env:=by rfl)
  (hfew:((backTo cpos (starEach [e] X.env)).all (fun x=>!x.1)&&(backToKw cpos (keywordEach [] X.env)).all (fun x=>x.1.isSome)
   && decide ([e].length+([]:List Keyword).length+(if ([]:List Keyword).isEmpty then 0 else 1) < 30))=true:=by rfl)
  (hline:(apos.endLine==cpos.line)=true:=by rfl) (hs:starEach [e] X.env=(false,eval e X.env)::starEach [] X.env:=by exact bW rfl) (hplain:(backTo cpos (starEach [] X.env)).any (·.1)=false:=by rfl) :
  ME X cl (.Call (.Attribute o "append" apos) [e] [] cpos) (vA f g) :=
 PE.imp (B9 PySem.F.plainAttrs_list PySem.F.slot_list_append PySem.F.type_list_append uT ho (aq he bg hs) hbase hfew hline hs hplain) fun σ H Q ⟨θ,F,w,d,s',m,v,hf,q⟩=>by
  obtain ⟨⟨d1,s1⟩,h1,hf⟩:=bind_some hf;cases d1 with
  | d x=>cases hf
  | r n =>
   dsimp only at hf;split at hf
   ·rename_i ds0 hc0;obtain ⟨⟨d2,s2⟩,h2,hf⟩:=bind_some hf;dsimp only at hf;split at hf
    ·rename_i ds hc;split at hf
     ·rename_i hl;cases hf;refine ⟨θ,F,w,_,s1,m,v,h1,fun u θ1 F1 H1 p1 q1 m1 r1=>?_⟩;obtain ⟨ad,z1,rfl⟩:=r1;obtain ⟨w1,xs0,w3,w4⟩:=m1.cel n ad _ z1 hc0;refine ⟨.inl ⟨rfl,xs0,SqL.of w3⟩,θ1,F1,⟨w.η,s1⟩,[d2],s2,m1,v.mono p1 q1,aO h2 gU,fun vs θ2 F2 H2 p2 q2 m2 r2=>?_⟩;cases r2 with
      | @cons _ y _ _ ra rn =>
       cases rn;have z2:=lH p2 z1;obtain ⟨w5,xs,w6,w7⟩:=m2.cel n ad _ z2 hc;have hlx:=iX w7;refine ⟨ad,xs,y,rfl,rfl,w6,by rw [← hlx]; exact hl,?_⟩;exact q _ θ2 F2 _ (p1.trans p2) (q1.trans q2) (m2.put (c':=.lst (ds++[d2])) z2 hc rfl ⟨w5,xs++[y],aD,sH w7 ra⟩) (show Rel X.K F2 .none .non from ro)
     ·cases hf
    ·cases hf
   ·cases hf
end
theorem E7 {X:Cx} {pins:List (Addr×Obj)} {σ:St} {H:Hp} {s:Shared} {a:Addr} {kvs:List (Key×V)} {k:Key} {u r:Value} {z:V} {A:Around} {E:Value→Shared→Prop} {Q:Value→Shared→Prop} (I:Inv X pins σ H s) (e:H a=some (.dK kvs)) (ry:RelV (kV k) u) (rz:RelV z r)
  (there:∀ v,oF kvs k=some v→∀ w' s',Inv X pins σ H s'→RelV v w'→Q w' s') (new:oF kvs k=none→kvs.length < sizeLine∧∀ s',Inv X pins σ (upd H a (.dK (mY kvs k z))) s'→Q r s'):wpAny (model X.prog X.w) A (call (.builtin "dict.setdefault") [.ref a,u,r]) Q E s:=by
 obtain ⟨zz,hd,vs,rel,dd⟩:=E5 I.hok e;refine call_meetsIn PySem.F.slot_dict_setdefault dd.typeIs PySem.F.entry_dict_setdefault (PySem.F.args_dict_setdefault_3 _ _ _) (PySem.kt_meets_setdefault (eM X.prog X.w) a (Ay ry) hd r) ⟨vs,dd,by rw [← rel.length]; exact zz,fun v hv=>?_,fun hn h' dd' hs=>?_⟩
 ·cases l:oF kvs k with
  | none =>
   have hn:valueAt vs k=none:=RelO.none_of (by rw [← l]; exact rel.val k);rw [hn] at hv; cases hv
  | some x =>
   obtain ⟨w',hw,rw'⟩:=RelO.some_of (v:=x) (o:=valueAt vs k) (by rw [← l]; exact rel.val k);rw [hw] at hv;cases hv;exact there x l _ _ (I.tok _) rw'
 ·cases l:oF kvs k with
  | some x =>
   obtain ⟨w',hw,rw'⟩:=RelO.some_of (v:=x) (o:=valueAt vs k) (by rw [← l]; exact rel.val k);rw [hw] at hn; cases hn
  | none =>
   obtain ⟨hl,q⟩:=new l;have he:∃ q,h'.get? a=some q:=let ⟨q,_,_,hq,_⟩:=dd'; ⟨q,hq⟩;exact q _ (wm I (by rw [e]; exact True.intro) hs he (Bz (by have:=nM kvs k z; omega) hd (rel.put k rz) dd'))
noncomputable def Lb (td ty tx:TE):TE:=fun σ H Q=>td σ H fun x H1=>∃ a,x=.ref a∧IsD H1 a∧ty σ H1 fun y H2=>tx σ H2 fun z H3=>∃ kvs k,H3 a=some (.dK kvs)∧y=kV k ∧
 (∀ v,oF kvs k=some v→Q v H3)∧(oF kvs k=none→kvs.length < sizeLine∧Q z (upd H3 a (.dK (mY kvs k z))))
theorem II {X:Cx} {o e f:Expr} {apos cpos:Pos} {td ty tx:TE} (ho:PE X o td) (he:PE X e ty) (hf:PE X f tx) (m:M2 X o "setdefault" apos e f cpos):PE X (.Call (.Attribute o "setdefault" apos) [e,f] [] cpos) (Lb td ty tx):=by
 intro pins s σ H Q I h;refine wpAny_Call_method m.base m.few m.line PySem.F.plainAttrs_dict PySem.F.slot_dict_setdefault PySem.F.type_dict_setdefault (thn (ho pins s σ H _ I h) fun u s1 ⟨x,H1,I1,rx,a,ex,d,q1⟩=>?_);subst ex;obtain rfl:u=Value.ref a:=rx;obtain ⟨t1,t2,_⟩:=Jf I1 d;refine ⟨t1,t2,?_⟩;rw [m.trees];refine Calls.callWith_builtin rfl (Calls.evalArgs_plain (Calls.spliced_cons (thn (he pins s1 σ H1 _ I1 q1) fun iv s2 ⟨y,H2,I2,ry,q2⟩ =>
  Calls.spliced_cons (thn (hf pins s2 σ H2 _ I2 q2) fun fv s3 ⟨z,H3,I3,rz,kvs,k,ea,ey,q3,q4⟩=>Calls.spliced_nil ?_))))
 subst ey;exact E7 I3 ea ry rz (fun v l w' s4 I4 rw'=>⟨v,H3,I4,rw',q3 v l⟩) fun l=>⟨(q4 l).1,fun s4 I4=>⟨z,_,I4,rz,(q4 l).2⟩⟩
noncomputable def Au:PyData→Option Key
 | .int i=>some (.inl i)
 | .str x=>some (.inr x)
 | _=>none
noncomputable def bN (kvs:List (Key×D)) (k:Key):Option D:=(kvs.find? fun kv=>decide (kv.1=k)).map (·.2)
theorem DRk.look {K:LN} {θ:List Addr} {F:Hp} {kvs:List (Key×D)} {vs:List (Key×V)} (h:DRk K θ F kvs vs) (k:Key):(∀ d,bN kvs k=some d→∃ v,oF vs k=some v∧DR K θ F d v)∧(bN kvs k=none→oF vs k=none):=by
 induction h with
 | nil=>exact ⟨fun d e=>(by cases e),fun _=>rfl⟩
 | @cons a b as bs r t ih =>
  by_cases hk:a.1=k
  ·have hb:b.1=k:=by rw [← r.1]; exact hk
   have e1:bN (a::as) k=some a.2:=by simp [bN,ML,hk]
   rw [e1,tm hb];exact ⟨fun d e=>(by cases e; exact ⟨_,rfl,r.2⟩),fun e=>(by cases e)⟩
  ·have hb:¬ b.1=k:=by rw [← r.1]; exact hk
   have e1:bN (a::as) k=bN as k:=by simp [bN,ML,hk]
   rw [e1,tq hb];exact ih
theorem DT {kvs:List (Key×V)} {k:Key} {z:V} (h:oF kvs k=none):mY kvs k z=kvs++[(k,z)]:=by
 unfold mY;rw [if_neg];intro hc;obtain ⟨p,hp,hk⟩:=List.any_eq_true.mp hc;unfold oF at h;rw [Option.map_eq_none_iff] at h;exact absurd hk (List.find?_eq_none.mp h p hp)
noncomputable def Ey (o g f:MF):MF:=fun w=>(o w).bind fun r=>match r.1 with
 | .r n=>(match r.2[n]? with
  | some (.dct _)=>(g ⟨w.η,r.2⟩).bind fun q=>match q.1 with
   | .d x=>(Au x).bind fun k=>(f ⟨w.η,q.2⟩).bind fun z=>match z.2[n]? with
    | some (.dct kvs)=>(match bN kvs k with
     | some d=>some (d,z.2)
     | none=>if kvs.length < sizeLine then some (z.1,z.2.set n (.dct (kvs++[(k,z.1)]))) else none)
    | _=>none
   | _=>none
  | _=>none)
 | _=>none
theorem ME.setdef {X:Cx} {cl:Nat→Addr} {o e c:Expr} {f g h:MF} {apos cpos:Pos} (ho:ME X cl o f) (he:ME X cl e g) (hc:ME X cl c h) (mm:M2 X o "setdefault" apos e c cpos:=by exact ⟨rfl,rfl,rfl,rfl⟩) :
  ME X cl (.Call (.Attribute o "setdefault" apos) [e,c] [] cpos) (Ey f g h):=PE.imp (II ho he hc mm) fun σ H Q ⟨θ,F,w,d,s',m,v,hf,q⟩=>by
 obtain ⟨⟨d1,s1⟩,h1,hf⟩:=bind_some hf;cases d1 with
 | d x=>cases hf
 | r n =>
  dsimp only at hf;split at hf
  ·rename_i kv0 hc0;obtain ⟨⟨d2,s2⟩,h2,hf⟩:=bind_some hf;cases d2 with
   | r n2=>cases hf
   | d x =>
    dsimp only at hf;obtain ⟨k,hk,hf⟩:=bind_some hf;obtain ⟨⟨d3,s3⟩,h3,hf⟩:=bind_some hf;dsimp only at hf;split at hf
    ·rename_i kvs hc3;refine ⟨θ,F,w,_,s1,m,v,h1,fun u θ1 F1 H1 p1 q1 m1 r1=>?_⟩;obtain ⟨ad,z1,rfl⟩:=r1;obtain ⟨w1,ks0,w3,w4⟩:=m1.cel n ad _ z1 hc0;refine ⟨ad,rfl,.inl ⟨ks0,.inl w3⟩,θ1,F1,⟨w.η,s1⟩,.d x,s2,m1,v.mono p1 q1,h2,fun u2 θ2 F2 H2 p2 q2 m2 r2=>?_⟩;refine ⟨θ2,F2,⟨w.η,s2⟩,d3,s3,m2,v.mono (p1.trans p2) (q1.trans q2),h3,fun u3 θ3 F3 H3 p3 q3 m3 r3=>?_⟩;have z3:=lH p3 (lH p2 z1);obtain ⟨w5,ks,w6,w7⟩:=m3.cel n ad _ z3 hc3;have ey:u2=kV k:=by
      cases x <;> simp only [Au,Option.some.injEq,reduceCtorEq] at hk
      ·subst hk; exact (show Rel X.K F2 (.int _) u2 from r2).int
      ·subst hk; exact (show Rel X.K F2 (.str _) u2 from r2).str
     refine ⟨ks,k,w6,ey,fun vv hv=>?_,fun hn=>?_⟩
     ·cases l:bN kvs k with
      | none=>rw [(w7.look k).2 l] at hv; cases hv
      | some dd =>
       rw [l] at hf;cases hf;obtain ⟨v',e1,e2⟩:=(w7.look k).1 _ l;rw [hv] at e1;cases e1;exact q _ θ3 F3 H3 (p1.trans (p2.trans p3)) (q1.trans (q2.trans q3)) m3 e2
     ·cases l:bN kvs k with
      | some dd =>
       obtain ⟨v',e1,_⟩:=(w7.look k).1 _ l;rw [hn] at e1; cases e1
      | none =>
       rw [l] at hf;dsimp only at hf;split at hf
       ·rename_i hl;cases hf;rw [DT hn];refine ⟨by rw [← iX w7]; exact hl,q _ θ3 F3 _ (p1.trans (p2.trans p3)) (q1.trans (q2.trans q3)) (m3.put (c':=.dct (kvs++[(k,d)])) z3 hc3 rfl ⟨w5,ks++[(k,u3)],aD,sH w7 ⟨rfl,r3⟩⟩) r3⟩
       ·cases hf
    ·cases hf
  ·cases hf
noncomputable def IV (f g:MF):MF:=fun w=>(f w).bind fun r=>match r.1 with | .d x=>(asB x).bind fun c=>if c=true then g ⟨w.η,r.2⟩ else some (.d (.bool false),r.2) | _=>none
section
variable {X:Cx} {cl:Nat→Addr} {a b e:Expr} {rest es:List Expr} {f g:MF} {fs:MFs} {pos pp:Pos}
theorem ME.listL (hm:X.mg "list" = none) (ha:MA X cl [e] fs) (hg:Gl X "list" := by rfl) (he:starEach [e] X.env=(false,eval e X.env)::starEach [] X.env:=by exact bW rfl):ME X cl (.Call (.Name "list" pp) [e] [] pos) (mCB uN fs) :=
 PE.imp (uM xo hg hm (by decide +kernel) ha (by decide) (by decide) he (iW rfl)) (HM AZ)
theorem ME.one {op} (ha:ME X cl a f):ME X cl (.BoolOp op [a] pos) f:=D5 ha
theorem ME.and (ha:ME X cl a f) (hb:ME X cl (.BoolOp .And (b::rest) pos) g):ME X cl (.BoolOp .And (a::b::rest) pos) (IV f g):=PE.imp (Ed ha hb) fun σ H Q ⟨θ,F,w,d,s',m,v,hf,q⟩=>by
 obtain ⟨⟨d1,s1⟩,h1,hf⟩:=bind_some hf;cases d1 with
 | r n=>cases hf
 | d x =>
  dsimp only at hf;obtain ⟨c,hc,hf2⟩:=bind_some hf;clear hf;obtain rfl:=jc hc;have hf:=hf2;clear hf2;refine ⟨θ,F,w,_,s1,m,v,h1,fun u θ1 F1 H1 p1 q1 m1 r1=>⟨c,(show Rel X.K F1 (.bool c) u from r1).bl,?_⟩⟩;cases c with
  | false =>
   rw [if_neg LU] at hf ⊢;cases hf;exact q _ θ1 F1 H1 p1 q1 m1 (show Rel X.K F1 (.bool false) _ from dZ)
  | true =>
   rw [if_pos rfl] at hf ⊢;exact ⟨θ1,F1,⟨w.η,s1⟩,d,s',m1,v.mono p1 q1,hf,fun u θ2 F2 H2 p2 q2 m2 r2=>q u θ2 F2 H2 (p1.trans p2) (q1.trans q2) m2 r2⟩
end
section
variable {X:Cx} {cl:Nat→Addr} {tg e:Expr} {f:MF} {pos:Pos}
end
noncomputable def mq (fs:MFs):MF:=fun w=>(fs w).bind fun r=>(pDs r.2 r.1).bind fun xs=>if xs.length≤sizeLine then some (.d (.tuple xs),r.2) else none
section
variable {X:Cx} {cl:Nat→Addr} {o e:Expr} {f:MF} {apos cpos pos pp:Pos}
theorem ME.tupM {x1} {es:List Expr} {fs:MFs} (h:MA X cl es fs):ME X cl (.Tuple es x1 pos) (mq fs):=PE.imp (D4 h) fun σ H Q ⟨θ,F,w,d,s',m,v,hf,q⟩=>by
 obtain ⟨⟨ds,s1⟩,h1,hf⟩:=bind_some hf;obtain ⟨xs,h2,hf⟩:=bind_some hf;split at hf
 ·rename_i hl;cases hf;refine ⟨θ,F,w,ds,_,m,v,h1,fun vs θ1 F1 H1 p1 q1 m1 r1=>?_⟩;have rs:=Ch m1 r1 h2;refine ⟨by rw [rs.length]; exact hl,fun p hp=>?_⟩;have g2:Gr F1 H1 (upd F1 p (.tup vs)) (upd H1 p (.tup vs)):=Gr.one m1.sm hp;exact q _ θ1 _ _ p1 (q1.trans g2.ff) (m1.grow g2) (show Rel X.K _ (.tuple xs) (.ref p) from jT (SqT.of aD) (rs.mono g2.ff))
 ·cases hf
end
section
variable {X:Cx} {tg a b c:Expr} {B:Bd} {fs:En→Option (List PyData)} {pos:Pos}
end
section
variable {X:Cx} {cl:Nat→Addr} {tg a b e:Expr} {f g:MF} {pos:Pos}
theorem ME.sub (ha:ME X cl a f) (hb:ME X cl b g):ME X cl (.BinOp a .Sub b pos) (mOp tN f g):=ME.op Ej (pi fun _ _ _=>dO) ha hb
end
section
variable {X:Cx} {cl:Nat→Addr} {elts:List Expr} {kk:Nat} {tp np ap ip cp pos:Pos} {elt:Expr} {ifs:List Expr} {scope:Scope} {N':List Str} {mp:List (Option Nat)} {ks:List Nat} {gt:TG} {t:En→PyData→Option En} {p:En→Option Bool} {f:En→Option PyData}
end
noncomputable def cQ (o g:MF):MF:=fun w=>(o w).bind fun r=>(g ⟨w.η,r.2⟩).bind fun q=>match r.1,q.1 with
 | .r n,.d x=>(Au x).bind fun k=>(match q.2[n]? with
  | some (.dct kvs)=>(bN kvs k).bind fun d=>some (d,q.2)
  | _=>none)
 | _,_=>none
noncomputable def pV (kvs:List (Key×D)) (k:Key) (d:D):List (Key×D):=if (kvs.any fun kv=>decide (kv.1=k))=true then kvs.map (fun kv=>if kv.1=k then (kv.1,d) else kv) else kvs++[(k,d)]
noncomputable def gW (o g e:MF):Wd→Option MOut:=fun w=>(e w).bind fun r=>(o ⟨w.η,r.2⟩).bind fun q=>(g ⟨w.η,q.2⟩).bind fun z=>match q.1,z.1 with
 | .r n,.d x=>(Au x).bind fun k=>(match z.2[n]? with
  | some (.dct kvs)=>if kvs.length < sizeLine then some (.nx ⟨w.η,z.2.set n (.dct (pV kvs k r.1))⟩) else none
  | _=>none)
 | _,_=>none
theorem GW {K:LN} {θ:List Addr} {F:Hp} {kvs:List (Key×D)} {vs:List (Key×V)} (h:DRk K θ F kvs vs) (k:Key):(kvs.any fun kv=>decide (kv.1=k))=vs.any fun kv=>decide (kv.1=k):=by
 induction h with
 | nil=>rfl
 | cons r t ih=>rw [Mt,Mt,ih,r.1]
theorem GV {K:LN} {θ:List Addr} {F:Hp} {kvs:List (Key×D)} {vs:List (Key×V)} (h:DRk K θ F kvs vs) (k:Key) {d:D} {v:V} (r:DR K θ F d v):DRk K θ F (kvs.map fun kv=>if kv.1=k then (kv.1,d) else kv) (vs.map fun kv=>if kv.1=k then (kv.1,v) else kv):=by
 induction h with
 | nil=>exact .nil
 | @cons a b as bs q t ih =>
  refine .cons ?_ ih;dsimp only;by_cases hk:a.1=k
  ·rw [if_pos hk,if_pos (by rw [← q.1]; exact hk)];exact ⟨q.1,r⟩
  ·rw [if_neg hk,if_neg (by rw [← q.1]; exact hk)];exact q
theorem GU {K:LN} {θ:List Addr} {F:Hp} {kvs:List (Key×D)} {vs:List (Key×V)} (h:DRk K θ F kvs vs) (k:Key) {d:D} {v:V} (r:DR K θ F d v):DRk K θ F (pV kvs k d) (mY vs k v):=by
 unfold pV mY;rw [GW h k]
 split
 ·exact GV h k r
 ·exact qy h (.cons ⟨rfl,r⟩ .nil)
theorem key_of' {K:LN} {F:Hp} {x:PyData} {k:Key} {u:V} (hk:Au x=some k) (r:Rel K F x u):u=kV k:=by
 cases x <;> simp only [Au,Option.some.injEq,reduceCtorEq] at hk
 ·subst hk; exact (show Rel K F (.int _) u from r).int
 ·subst hk; exact (show Rel K F (.str _) u from r).str
section
variable {X:Cx} {cl:Nat→Addr} {o e i value:Expr} {f g h:MF} {pos pos' tpos apos cpos:Pos}
theorem eO {k:Nat} (hr:Room k X.A) (ho:ME X cl o f) (hi:ME X cl e g) (hs:JE e:=by intro _ _; rfl):ME X cl (.Subscript o e pos) (cQ f g):=PE.imp (Go (Room.one hr) ho hi hs) fun σ H Q ⟨θ,F,w,d,s',m,v,hf,q⟩=>by
 obtain ⟨⟨d1,s1⟩,h1,hf⟩:=bind_some hf;obtain ⟨⟨d2,s2⟩,h2,hf⟩:=bind_some hf;dsimp only at hf;split at hf
 ·rename_i _ n x _;obtain ⟨k,hk,hf⟩:=bind_some hf;split at hf
  ·rename_i kvs hc;obtain ⟨d3,hl,hf⟩:=bind_some hf;cases hf;refine ⟨θ,F,w,_,s1,m,v,h1,fun u θ1 F1 H1 p1 q1 m1 r1=>⟨θ1,F1,⟨w.η,s1⟩,_,_,m1,v.mono p1 q1,h2,fun u2 θ2 F2 H2 p2 q2 m2 r2=>?_⟩⟩;obtain ⟨ad,z1,rfl⟩:=r1;have z3:=lH p2 z1;obtain ⟨w5,ks,w6,w7⟩:=m2.cel n ad _ z3 hc;obtain ⟨v',e1,e2⟩:=(w7.look k).1 _ hl;exact ⟨ad,v',rfl,.inl ⟨ks,k,.inl w6,key_of' hk r2,e1.symm⟩,q _ θ2 F2 H2 (p1.trans p2) (q1.trans q2) m2 e2⟩
  ·cases hf
 ·cases hf
theorem MS.putC {k:Nat} (hr:Room k X.A) (ho:ME X cl o f) (hi:ME X cl e g) (hv:ME X cl value h) (hs:swapsWith value (some (.Subscript o e pos')) pos.line X.env=pure false:=by rfl):MS X cl (.Assign [.Subscript o e pos'] value pos) (gW f g h):=PS.imp (Gf (Room.one hr) ho hi hv hs) fun Z σ H ⟨θ,F,w,out,m,v,hf,q⟩=>by
 obtain ⟨⟨d1,s1⟩,h1,hf⟩:=bind_some hf;obtain ⟨⟨d2,s2⟩,h2,hf⟩:=bind_some hf;obtain ⟨⟨d3,s3⟩,h3,hf⟩:=bind_some hf;dsimp only at hf;split at hf
 ·rename_i _ n x _;obtain ⟨k,hk,hf⟩:=bind_some hf;split at hf
  ·rename_i kvs hc;split at hf
   ·rename_i hl;cases hf;refine ⟨θ,F,w,_,s1,m,v,h1,fun u θ1 F1 H1 p1 q1 m1 r1=>⟨θ1,F1,⟨w.η,s1⟩,_,s2,m1,v.mono p1 q1,h2,fun u2 θ2 F2 H2 p2 q2 m2 r2=>⟨θ2,F2,⟨w.η,s2⟩,_,s3,m2,v.mono (p1.trans p2) (q1.trans q2),h3,fun u3 θ3 F3 H3 p3 q3 m3 r3=>?_⟩⟩⟩;obtain ⟨ad,z1,rfl⟩:=r2;have z3:=lH p3 z1;obtain ⟨w5,ks,w6,w7⟩:=m3.cel n ad _ z3 hc;have hll:ks.length < sizeLine:=by rw [← iX w7]; exact hl
    refine ⟨ad,_,rfl,.inl ⟨ks,k,w6,key_of' hk r3,hll,rfl⟩,?_⟩;exact q σ θ3 F3 _ (p1.trans (p2.trans p3)) (q1.trans (q2.trans q3)) (m3.put z3 hc rfl ⟨w5,_,aD,GU w7 k (r1.mono (p2.trans p3) (q2.trans q3))⟩) (v.mono (p1.trans (p2.trans p3)) (q1.trans (q2.trans q3)))
   ·cases hf
  ·cases hf
 ·cases hf
end
section
variable {K:LN} {cl:Nat→Addr} {θ:List Addr} {F H:Hp} {s:Sto}
theorem MR.lay (m:MR K cl θ F H s) {a:Addr} {c:Cell} {o:HO} (na:∀ (k:Nat) b,θ[k]?=some b→b≠a) (fa:F a=none) (h:CelR K cl (θ++[a]) F (upd H a o) a c):MR K cl (θ++[a]) F (upd H a o) (s++[c]) where
 sm:=fun b u q=>by
  have nb:b≠a:=aM q fa;rw [aE nb]; exact m.sm b u q
 len:=by rw [LQ,LQ,m.len]; rfl
 nd:=by
  rw [M8];refine ⟨m.nd,by simp,fun b hb b' hb'=>?_⟩;rw [Mi.mp hb'];obtain ⟨k,hk⟩:=NC hb;exact na k b hk
 cel:=fun k b c2 f1 f2=>by
  by_cases hk:k < θ.length
  ·rw [LR hk] at f1;rw [LR (by rw [← m.len]; exact hk)] at f2;exact ((m.cel k b c2 f1 f2).else (na k b f1)).pre (My _ _)
  ·have hk1:k=θ.length:=by
    have:=(LT.mp f1).1
    rw [LQ] at this;have e1:[a].length=1:=rfl;omega
   subst hk1;rw [LY (LS _),Mp] at f1;rw [LY (by rw [m.len]; exact LS _),m.len,Mp] at f2;cases f1;cases f2;exact h
theorem E3:∀ {kvs:List (Key×PyData)} {ks:List (Key×V)},RelD K F (prs kvs) ks→DRk K θ F (kvs.map fun kv=>(kv.1,D.d kv.2)) ks
 | [],ks,h=>by rw [h.nil_of]; exact .nil
 | (k',d')::kvs,ks,h=>by
  obtain ⟨k2,x',r,rfl,e,h3,h4⟩:=RelD.cons_of (d:=kD k') (e:=d') (es:=prs kvs) h
  have:=xb e
  subst this;exact .cons ⟨rfl,h3⟩ (E3 h4)
end
section
variable {X:Cx} {cl:Nat→Addr} {a b c e o st:Expr} {es:List Expr} {sts:List Stmt} {f g h:MF} {fs:MFs} {p:MTF} {u:Wd→Option MOut} {pos p2 pp:Pos}
noncomputable def EC (ps:List PF):MF:=fun w=>(evP ps (vw w)).bind fun es=>(Bo es).bind fun kvs=>if kvs.length≤15 then some (.r w.s.length,w.s++[.dct ((Bh [] kvs).map fun kv=>(kv.1,D.d kv.2))]) else none
theorem ME.dispC {dp:Pos} {keys:List (Option Expr)} {values:List Expr} {ps:List PF} (h:∀ B,DP X B dp keys values ps) (hall:keys.all (·.isSome)=true:=by rfl) (hl:keys.length=values.length:=by rfl) (h0:keys≠[]:=by intro z; cases z) (h15:keys.length≤15:=by decide) :
  ME X cl (.Dict keys values dp) (EC ps):=fun pins s σ H Q I ⟨θ,F,w,d,s',m,v,hf,q⟩=>by
 refine Gn (h ⟨F,H⟩) hall hl h0 h15 pins s σ H Q I ?_;obtain ⟨es,h1,hd⟩:=bind_some hf;obtain ⟨kvs,h2,hd⟩:=bind_some hd;split at hd
 ·rename_i hz;cases hd;intro p hp;have sr:=m.vw v;have g1:Gr F H F (upd H p (.dK [])):=⟨.refl _,fb hp _,m.sm.trans (fb hp _),fun _ z=>.inl z⟩;refine Ac (sr.grow g1) h1 fun pvs F2 H2 g2 rp=>?_;obtain ⟨ks,e,rd⟩:=At h2 rp;have hp2:H2 p=some (.dK []):=g2.hh _ _ aD;have fp:F p=none:=m.sm.free hp;have fp2:F2 p=none:=by
   cases z:F2 p with
   | none=>rfl
   | some o =>
    rcases g2.new p (by rw [z]; simp) with y | y
    ·exact absurd fp y
    ·rw [aD] at y; cases y
  refine ⟨hp2,ks,e,by rw [rd.length]; exact hz,?_⟩;have rm:=RelD.merge rd (acc:=[]) (as:=[]) .nil;have m2:MR X.K cl θ F2 H2 w.s:=m.grow (g1.trans g2);have pp:θ<+:θ++[p]:=My _ _;exact q _ (θ++[p]) F2 _ pp g2.ff (m2.lay (fun k b e=>m.ne hp e) fp2 ⟨fp2,_,aD,E3 rm⟩) ⟨p,t4 m.len,rfl⟩
 ·cases hd
noncomputable def mWh (c:MTF) (body:Wd→Option MOut):Nat→Wd→Option MOut
 | 0,_=>none
 | n+1,w=>(c w).bind fun r=>if r.1=true then (body ⟨w.η,r.2⟩).bind fun o=>match o with
  | .nx w'=>mWh c body n w'
  | .ct w'=>mWh c body n w'
  | .bk w'=>some (.nx w')
  | .rt d s=>some (.rt d s) else some (.nx ⟨w.η,r.2⟩)
theorem MS.while (n:Nat) (hp:PassesOwn (model X.prog X.w) X.A X.env X.xe) (hc:MT X cl c p) (hb:MSs X cl sts u):MS X cl (.While c sts [] pos) (mWh p u n):=PS.imp (zZ hp hc hb) fun Z σ H ⟨θ,F,w,o,m,v,hf,q⟩=>by
 refine ⟨fun k σ H=>∃ θc Fc wc,θ<+:θc∧Same F Fc∧MR X.K cl θc Fc H wc.s∧MV X.K θc Fc σ wc.η∧mWh p u k wc=some o,⟨n,θ,F,w,Mf _,.refl _,m,v,hf⟩,?_⟩
 rintro k σc Hc ⟨θc,Fc,wc,pc,sc,mc,vc,hgo⟩
 cases k with
 | zero=>cases hgo
 | succ k =>
  unfold mWh at hgo;obtain ⟨⟨b,s1⟩,hb',hgo⟩:=bind_some hgo;refine ⟨θc,Fc,wc,b,s1,mc,vc,hb',fun θ1 F1 H1 p1 q1 m1=>?_⟩;cases b with
  | false =>
   rw [if_neg LU] at hgo;cases hgo;refine Jd ?_;exact q σc θ1 F1 H1 (pc.trans p1) (sc.trans q1) m1 (vc.mono p1 q1)
  | true =>
   rw [if_pos rfl] at hgo;refine Jc ?_;obtain ⟨o1,e2,hgo⟩:=bind_some hgo;refine ⟨fun σ' H'=>∃ k',k' < k+1∧∃ θc Fc wc,θ<+:θc∧Same F Fc∧MR X.K cl θc Fc H' wc.s∧MV X.K θc Fc σ' wc.η∧mWh p u k' wc=some o,fun σ' H' z=>z,θ1,F1,⟨wc.η,s1⟩,o1,m1,vc.mono p1 q1,e2,?_⟩;have pp1:=pc.trans p1;have ss1:=sc.trans q1;cases o1 with
   | nx w2=>exact fun σ' θ' F' H' p' s' m' v'=>⟨k,MW _,θ',F',w2,pp1.trans p',ss1.trans s',m',v',hgo⟩
   | ct w2=>exact fun σ' θ' F' H' p' s' m' v'=>⟨k,MW _,θ',F',w2,pp1.trans p',ss1.trans s',m',v',hgo⟩
   | bk w2 =>
    cases hgo;exact fun σ' θ' F' H' p' s' m' v'=>q σ' θ' F' H' (pp1.trans p') (ss1.trans s') m' v'
   | rt d s2 =>
    cases hgo;exact fun v' θ' F' H' p' s' m' r'=>q v' θ' F' H' (pp1.trans p') (ss1.trans s') m' r'
noncomputable def mCh (o o':PyData→PyData→Option PyData) (f g h:MF):MTF:=fun w=>(f w).bind fun r=>(g ⟨w.η,r.2⟩).bind fun q=>(pD q.2 r.1).bind fun x=>(pD q.2 q.1).bind fun y=>(o x y).bind fun z=>(asB z).bind fun k =>
 if k=true then (h ⟨w.η,q.2⟩).bind fun t=>(pD t.2 t.1).bind fun x'=>(o' y x').bind fun z'=>(asB z').bind fun k'=>some (k',t.2) else some (false,q.2)
theorem MT.chain {op op':CmpOp} {r r':R2} {oo oo':PyData→PyData→Option PyData} (ho:OpR X (compareOp op) r) (ad:Ad2 X.K r oo) (ho':OpR X (compareOp op') r') (ad':Ad2 X.K r' oo') (ha:ME X cl a f) (hb:ME X cl b g) (hc:ME X cl c h)
  (hm:lastMarks [op,op'] [b,c]=false:=by with_unfolding_all rfl):MT X cl (.Compare a [op,op'] [b,c] pos) (mCh oo oo' f g h):=PT.imp (zX ho ho' ha hb hc hm) fun σ H Q ⟨θ,F,w,k0,s',m,v,hf,q⟩=>by
 obtain ⟨⟨d1,s1⟩,h1,hf⟩:=bind_some hf;obtain ⟨⟨d2,s2⟩,h2,hf⟩:=bind_some hf;obtain ⟨x,hx,hf⟩:=bind_some hf;obtain ⟨y,hy,hf⟩:=bind_some hf;obtain ⟨z,hz,hf⟩:=bind_some hf;obtain ⟨k,hk,hf2⟩:=bind_some hf;clear hf;obtain rfl:=jc hk;have hf:=hf2;refine ⟨θ,F,w,d1,s1,m,v,h1,fun u θ1 F1 H1 p1 q1 m1 r1=>⟨θ1,F1,⟨w.η,s1⟩,d2,s2,m1,v.mono p1 q1,h2,fun u2 θ2 F2 H2 p2 q2 m2 r2=>?_⟩⟩;have ry:=nZ m2 _ _ _ hy r2;refine ad F2 H2 u u2 x y _ _ m2.sm (nZ m2 _ _ _ hx (r1.mono p2 q2)) ry hz fun t F3 H3 g3 rt=>⟨k,rt.bl,?_⟩;have m3:=m2.grow g3;cases k with
 | false =>
  rw [if_neg LU] at hf ⊢;cases hf;exact ⟨false,rfl,q θ2 F3 H3 (p1.trans p2) (q1.trans (q2.trans g3.ff)) m3⟩
 | true =>
  rw [if_pos rfl] at hf ⊢;obtain ⟨⟨d4,s4⟩,h4,hf⟩:=bind_some hf;obtain ⟨x',hx',hf⟩:=bind_some hf;obtain ⟨z',hz',hf⟩:=bind_some hf;obtain ⟨k',hk',hf3⟩:=bind_some hf;clear hf;obtain rfl:=jc hk';cases hf3;refine ⟨θ2,F3,⟨w.η,s2⟩,d4,_,m3,v.mono (p1.trans p2) (q1.trans (q2.trans g3.ff)),h4,fun u4 θ4 F4 H4 p4 q4 m4 r4=>?_⟩;exact ad' F4 H4 u2 u4 y x' _ _ m4.sm (Rel.mono (g3.ff.trans q4) ry) (nZ m4 _ _ _ hx' r4) hz' fun t5 F5 H5 g5 r5=>⟨_,r5.bl,q θ4 F5 H5 ((p1.trans p2).trans p4) (q1.trans (q2.trans (g3.ff.trans (q4.trans g5.ff)))) (m4.grow g5)⟩
theorem MT.eqNe {k:Nat} (hr:Room k X.A) (ha:ME X cl a f) (hb:ME X cl b g) (hc:ME X cl c h) (hm:lastMarks [.Eq,.NotEq] [b,c]=false:=by with_unfolding_all rfl):MT X cl (.Compare a [.Eq,.NotEq] [b,c] pos) (mCh pEq pNe f g h):=MT.chain (wJ hr.units) A0 (yT hr.units) CP ha hb hc hm
noncomputable def yk (f g:MF):MF:=fun w=>(f w).bind fun r=>(g ⟨w.η,r.2⟩).bind fun q=>match r.1,q.1 with
 | .r n,.d (.int k)=>(match q.2[n]? with
  | some (.lst ds)=>if 0≤k∧k < 1000∧ds.length*k.toNat≤1000 then some (.r q.2.length,q.2++[.lst (Ma k.toNat ds).flatten]) else none
  | _=>none)
 | _,_=>none
theorem wH {α β:Type} {R:α→β→Prop} {as:List α} {bs:List β} (h:Paired R as bs):∀ k:Nat,Paired R (Ma k as).flatten (Ma k bs).flatten
 | 0=>.nil
 | k+1=>by
  rw [Mv,MK,Mv,MK];exact qy h (wH h k)
theorem ME.repC (ha:ME X cl a f) (hb:ME X cl b g):ME X cl (.BinOp a .Mult b pos) (yk f g):=PE.imp (B5 Ek ha hb) fun σ H Q ⟨θ,F,w,d,s',m,v,hf,q⟩=>by
 obtain ⟨⟨d1,s1⟩,h1,hf⟩:=bind_some hf;obtain ⟨⟨d2,s2⟩,h2,hf⟩:=bind_some hf;dsimp only at hf;split at hf
 ·rename_i _ n k _;split at hf
  ·rename_i ds hc;split at hf
   ·rename_i hz;cases hf;refine ⟨θ,F,w,.r n,s1,m,v,h1,fun u θ1 F1 H1 p1 q1 m1 r1=>⟨θ1,F1,⟨w.η,s1⟩,.d (.int k),s2,m1,v.mono p1 q1,h2,fun u2 θ2 F2 H2 p2 q2 m2 r2=>?_⟩⟩;obtain ⟨ad,z1,rfl⟩:=r1;have z2:θ2[n]?=some ad:=lH p2 z1;obtain ⟨w1,xs,w3,w4⟩:=m2.cel n ad _ z2 hc;have hl:xs.length*k.toNat≤1000:=by rw [← iX w4]; exact hz.2.2
    refine ⟨ad,k,xs,rfl,(show Rel X.K F2 (.int k) u2 from r2).int,w3,by omega,by omega,Nl (ye hl),fun p hp=>?_⟩;have pp:θ2<+:θ2++[p]:=My _ _;exact q _ (θ2++[p]) F2 _ ((p1.trans p2).trans pp) (q1.trans q2) (m2.new hp ⟨m2.sm.free hp,_,aD,(show DRs X.K θ2 F2 _ _ from wH w4 k.toNat).mono pp (.refl _)⟩) ⟨p,t4 m2.len,rfl⟩
   ·cases hf
  ·cases hf
 ·cases hf
theorem ME.toInt (hm:X.mg "int" = none) (ha:MA X cl [e] fs) (hg:Gl X "int" := by rfl) (he:starEach [e] X.env=(false,eval e X.env)::starEach [] X.env:=by exact bW rfl):ME X cl (.Call (.Name "int" pp) [e] [] pos) (mCB qA fs) :=
 PE.imp (uM yt hg hm (by decide +kernel) ha (by decide) (by decide) he (iW rfl)) (HM Fs)
noncomputable def keyIs':List (Key×D)→Option (List Int)
 | []=>some []
 | (.inl n,_)::r=>(keyIs' r).bind fun l=>some (n::l)
 | _=>none
theorem pJ:∀ {kvs:List (Key×D)} {ns:List Int},keyIs' kvs=some ns→kvs.map (·.1)=ns.map Sum.inl
 | [],_,h=>by cases h; rfl
 | (.inl n,_)::r,_,h=>by
  obtain ⟨l,h1,h2⟩:=bind_some h;cases h2;rw [LW,LW,pJ h1]
 | (.inr _,_)::r,_,h=>by cases h
theorem E4 {K:LN} {θ:List Addr} {F:Hp} {kvs:List (Key×D)} {ks:List (Key×V)} (h:DRk K θ F kvs ks):ks.map (·.1)=kvs.map (·.1):=by
 induction h with
 | nil=>rfl
 | cons r t ih=>rw [LW,LW,ih,r.1]
noncomputable def wY (f:MF):MF:=fun w=>(f w).bind fun r=>match r.1 with
 | .r n=>(match r.2[n]? with
  | some (.dct kvs)=>(keyIs' kvs).bind fun ns=>if ns.length < 64 then some (.d (.list ((qg ns).map PyData.int)),r.2) else none
  | _=>none)
 | _=>none
theorem ME.sortC {k:Nat} (hr:Room k X.A) (hm:X.mg "sorted" = none) (h1:ME X cl e f) (hg:Gl X "sorted" := by rfl) (he:starEach [e] X.env=(false,eval e X.env)::starEach [] X.env:=by exact bW rfl):ME X cl (.Call (.Name "sorted" pp) [e] [] pos) (wY f) :=
 PE.imp (Ab (AV hr.hd) hg hm boot_sorted (aq h1 bg he) (by decide) (by decide) he (iW rfl)) fun σ H Q ⟨θ,F,w,d,s',m,v,hf,q⟩=>by
  obtain ⟨⟨d1,s1⟩,h1,hf⟩:=bind_some hf;cases d1 with
  | d x=>cases hf
  | r n =>
   dsimp only at hf;split at hf
   ·rename_i kvs hc;obtain ⟨ns,hn,hf⟩:=bind_some hf;split at hf
    ·rename_i h64;cases hf;refine ⟨θ,F,w,[.r n],_,m,v,by unfold maC maN; rw [h1]; rfl,fun vs θ1 F1 H1 p1 q1 m1 r1=>?_⟩;cases r1 with
     | @cons _ vv _ t r2 r3 =>
      cases r3;obtain ⟨ad,z1,rfl⟩:=r2;obtain ⟨w5,ks,w6,w7⟩:=m1.cel n ad _ z1 hc;have hk:ks.map (·.1)=ns.map Sum.inl:=(E4 w7).trans (pJ hn);refine ⟨ad,ks,ns,rfl,.inl w6,hk,h64,fun p hp=>?_⟩;have g:=Gr.one (o:=.lst ((qg ns).map V.int)) m1.sm hp;exact q _ θ1 _ _ p1 (q1.trans g.ff) (m1.grow g) (show Rel X.K _ (.list _) _ from jk (SqL.of aD) (RelL.ints _))
    ·cases hf
   ·cases hf
noncomputable def mRv (f:MF) (g:En→Option PyData):MF:=fun w=>(f w).bind fun r=>(pD r.2 r.1).bind fun x=>(g (vw ⟨w.η,r.2⟩)).bind fun y=>(pRv x y).bind fun z=>some (.d z,r.2)
theorem ME.slRev {gs:En→Option PyData} (he:ME X cl e f) (hs:∀ B,E X B st gs) (hsub:∀ o i,subscripted (.Slice none none (some st) p2) false o i=operate [o,i] (getItem o i):=by intro _ _; with_unfolding_all rfl):ME X cl (.Subscript e (.Slice none none (some st) p2) pos) (mRv f gs):=by
 intro pins s σ H Q I ⟨θ,F,w,d,s',m,v,hf,q⟩;obtain ⟨⟨d1,s1⟩,h1,hf⟩:=bind_some hf;obtain ⟨x,hx,hf⟩:=bind_some hf;obtain ⟨y,hy,hf⟩:=bind_some hf;obtain ⟨z,hz,hf⟩:=bind_some hf;cases hf
 match x,hx,hz with
 | .list ds,hx,hz =>
  obtain ⟨k,hk,hd3⟩:=bind_some hz;obtain rfl:=uA hk;split at hd3
  ·rename_i hk1;subst hk1;cases hd3;refine Subscript_ (thn (he pins s σ H (fun vv H1=>∃ θ1 F1,θ<+:θ1∧Same F F1∧MR X.K cl θ1 F1 H1 s1∧DR X.K θ1 F1 d1 vv) I ⟨θ,F,w,d1,s1,m,v,h1,fun u θ1 F1 H1 p1 q1 m1 r1=>⟨θ1,F1,p1,q1,m1,r1⟩⟩) fun vv s2 ⟨x,H1,I1,r1,θ1,F1,p1,q1,m1,rx0⟩=>?_);have rx:Rel X.K F1 (.list ds) x:=nZ m1 _ _ _ hx rx0;refine wpAny_Slice ?_;rw [evalPart_none];refine wpAny_pure (wpAny_pure ?_);refine thn ((IB (cl:=cl) fun B=>kh (hs B)) pins s2 σ H1 (fun o H2=>∃ F2,Same F1 F2∧MR X.K cl θ1 F2 H2 s1∧o=some (-1)) I1 ⟨θ1,F1,⟨w.η,s1⟩,some (-1),m1,v.mono p1 q1,Cd hy,fun F2 H2 q2 m2=>⟨F2,q2,m2,rfl⟩⟩) fun vs s3 ⟨o,H2,I2,ps,F2,q2,m2,eo⟩=>?_;subst eo;have I4:Inv X pins σ H2 { s3 with heap:=s3.heap.push { cls:=.type "slice", data:=.fields #[.none,.none,vs] } }:=I2.kept (t':=s3.toks) fun b ob q=>Heap.get?_push_of_some _ q;obtain ⟨a,xs,rfl,hq,rs⟩:=rx.lst;cases r1;obtain ⟨its,r,ht,hz⟩:=I4.list (m2.sm.seq (q2.seq hq));have hlen:=r.length;show wpAny (model X.prog X.w) X.A (subscriptTail e (.Slice none none (some st) p2) (.ref a) (.ref s3.heap.objs.size)) (EP X pins σ Q) X.xe { s3 with heap:=s3.heap.push { cls:=.type "slice", data:=.fields #[.none,.none,vs] } };refine tail_any (ops:=[.ref a,.ref s3.heap.objs.size]) ht.isList.typeIs slot_list_getitem.lookup ?_ (hsub _ _);refine wpAny_getItem_list_slice ht.isList (Heap.IsSliceOf.new ..) .none .none ps (by decide) ?_ (by rw [LZ] <;> omega);rw [PySem.W.krv_pick,show its.toArray.toList.reverse=its.reverse by simp];have g3:∀ l,H2 l=none→Gr F2 H2 (upd F2 l (.lst xs.reverse)) (upd H2 l (.lst xs.reverse)):=fun l hl=>Gr.one m2.sm hl;have fr:=I4.hok.fresh (LS _);refine ⟨.ref _,_,I4.laid (t':=s3.toks) (o:=.lst xs.reverse) (fun b ob q=>Heap.get?_push_of_some _ q) (LS _) ?_,rfl,q _ θ1 _ _ p1 (q1.trans (q2.trans (g3 _ fr).ff)) (m2.grow (g3 _ fr)) (show Rel X.K _ (.list _) _ from jk (SqL.of aD) (rs.reverse.mono (q2.trans (g3 _ fr).ff)))⟩;refine ⟨by rw [Mq]; exact hz,its.reverse,0,?_,Heap.get?_push_size _ rfl⟩;exact r.reverse
  ·cases hd3
end
end L2.PU
namespace K24
open PySem L2 L2.PU
abbrev DFn:=List D→Sto→Option (D×Sto)
abbrev PFn:=List PyData→Option PyData
noncomputable def top (i:Nat):Stmt:=PySem.Challenge.pw_touchtree_k24_changes.main.body.getD i (.Pass ⟨0,0,0,0⟩)
noncomputable abbrev qv:Stmt:=top 39
noncomputable abbrev pT:Stmt:=top 40
noncomputable abbrev iw:Stmt:=top 41
noncomputable abbrev lQ:Stmt:=hU (top 37) 0
noncomputable abbrev qu:Stmt:=top 51
noncomputable abbrev oJ:Stmt:=top 45
noncomputable abbrev oa:Stmt:=top 46
noncomputable abbrev mU:Stmt:=top 47
noncomputable abbrev oe:Stmt:=top 42
noncomputable abbrev qt:Stmt:=top 43
noncomputable abbrev mW:Stmt:=top 48
noncomputable abbrev lG:Stmt:=top 49
noncomputable abbrev jR:Stmt:=top 50
noncomputable abbrev mk:Stmt:=hU (top 36) 0
noncomputable abbrev mj:Stmt:=hU (top 37) 1
noncomputable abbrev ku:Stmt:=hU (top 36) 1
noncomputable abbrev n8:Stmt:=top 15
noncomputable abbrev vp:Stmt:=top 13
noncomputable abbrev wB:Stmt:=top 16
noncomputable abbrev tH:Stmt:=top 17
noncomputable abbrev tG:Stmt:=top 14
noncomputable abbrev rZ:Stmt:=top 23
noncomputable abbrev n6:Stmt:=top 27
noncomputable abbrev kt:Stmt:=top 18
noncomputable abbrev tJ:Stmt:=top 25
noncomputable abbrev qq:Stmt:=top 26
noncomputable abbrev nI:Stmt:=top 28
noncomputable abbrev qr:Stmt:=top 24
noncomputable abbrev r6:Stmt:=top 29
noncomputable abbrev zS:Stmt:=top 30
noncomputable abbrev rY:Stmt:=top 31
noncomputable abbrev vo:Stmt:=top 34
noncomputable abbrev jS:Stmt:=hU (top 36) 2
noncomputable abbrev lj:Stmt:=hU (top 37) 2
noncomputable abbrev oN:Stmt:=hU (top 37) 3
noncomputable abbrev nJ:Stmt:=hU (top 36) 3
noncomputable abbrev oO:Stmt:=hU (top 36) 4
noncomputable abbrev qw:Stmt:=hU (top 37) 4
noncomputable abbrev pU:Stmt:=top 52
noncomputable abbrev px:Stmt:=top 12
noncomputable abbrev lh:Stmt:=top 35
noncomputable abbrev nK:Stmt:=hU (top 36) 5
noncomputable abbrev j6:Stmt:=hU (top 37) 9
noncomputable abbrev mX:Stmt:=hU (top 37) 7
noncomputable abbrev oK:Stmt:=hU (top 37) 8
noncomputable abbrev eZ:Stmt:=top 54
noncomputable abbrev oM:Stmt:=hU (top 37) 5
noncomputable abbrev mh:Stmt:=top 53
noncomputable abbrev zR:Stmt:=top 55
structure Adr where
 (C_Hand C_Hands fJ eE eB bY fI dB gz fH gA fG cH gy eD cn cm bG gx jf kg ij ii gu gp im ik fE jd fF gw nA gq je eI dD dF cZ dG fK eG il dz c0 cJ cI dC dA dE cj pj:Addr)
 (fA d9 d7 bX fw dm gm fu gn fq cE gk d8 cg cf bF gj jb kf ia h9 gh gf ie ib fm i9 fo gi ny gg ja eA dr du cX dw fB ee ic dj cY cG cF dq dk dt ce pe:FuncData)
 (t_AROUND t_CUTS_OFF t_HEIGHT t_HIDDEN t_LEFT t_LETS_BY t_LONGEST_DOUBLE t_MARKS t_NAME t_TOP t_WIDTH:Tok)
noncomputable abbrev i4:List Str:=["_law_script", "_law_k"]
noncomputable abbrev iA:List Str:=["_law_script", "_law_k", "_law_many"]
noncomputable abbrev iy:List Str:=["_law_script", "_law_at"]
noncomputable abbrev dR:List Str:=["self", "scene"]
noncomputable abbrev gN:List Str:=["_law_scene_here", "_law_around", "_law_left", "_law_top", "_law_cuts"]
noncomputable abbrev jL:List Str:=["_law_areas", "_law_x", "_law_y"]
noncomputable abbrev i3:List Str:=["_law_scene_here", "_law_x", "_law_y"]
noncomputable abbrev jM:List Str:=["_law_scene_here", "_law_name"]
noncomputable abbrev i0:List Str:=["_law_scene_here", "_law_name"]
noncomputable abbrev fe:List Str:=["_law_scene_here", "_law_x", "_law_y"]
noncomputable abbrev jK:List Str:=["_law_hand_here", "_law_path_here"]
noncomputable abbrev iz:List Str:=["_law_scene_here", "_law_hand_here", "_law_way", "_law_moment", "_law_x", "_law_y"]
noncomputable abbrev eL:List Str:=["self"]
noncomputable abbrev eJ:List Str:=["self", "hand"]
noncomputable abbrev cU:List Str:=["self", "word"]
noncomputable abbrev jJ:List Str:=["scene", "name"]
noncomputable abbrev lT:List Str:=["scene", "name"]
noncomputable abbrev mZ:List Str:=["scene", "name"]
noncomputable abbrev kz:List Str:=["scene"]
noncomputable abbrev kx:List Str:=["scene", "name"]
noncomputable abbrev jH:List Str:=["scene", "name", "mark"]
noncomputable abbrev jF:List Str:=["scene", "name"]
noncomputable abbrev kC:List Str:=["scene", "name"]
noncomputable abbrev kA:List Str:=["one", "other"]
noncomputable abbrev iY:List Str:=["scene", "name"]
noncomputable abbrev lR:List Str:=["scene"]
noncomputable abbrev iZ:List Str:=["area", "x", "y"]
noncomputable abbrev jI:List Str:=["rows", "x", "y"]
noncomputable abbrev qz:List Str:=["scene", "x", "y"]
noncomputable abbrev jG:List Str:=["scene", "x", "y"]
noncomputable abbrev lS:List Str:=["one", "other"]
noncomputable abbrev iC:List Str:=["self", "path"]
noncomputable abbrev gP:List Str:=["self", "hand", "moment", "x", "y"]
noncomputable abbrev gR:List Str:=["self", "hand", "moment", "x", "y"]
noncomputable abbrev fS:List Str:=["self", "path"]
noncomputable abbrev gS:List Str:=["self", "name", "moment"]
noncomputable abbrev i5:List Str:=["self", "hand", "moment", "x", "y"]
noncomputable abbrev iB:List Str:=["_law_hands", "_law_way", "_law_number", "_law_moment", "_law_x", "_law_y"]
noncomputable abbrev kB:List Str:=["scene", "name"]
noncomputable abbrev gK:List Str:=["scene", "names"]
noncomputable abbrev fT:List Str:=["self", "scene"]
noncomputable abbrev fj:List Str:=["self", "scene"]
noncomputable abbrev fg:List Str:=["self", "hand"]
noncomputable abbrev gO:List Str:=["self", "hand"]
noncomputable abbrev gM:List Str:=["_law_script"]
noncomputable abbrev gQ:List Str:=["self", "hand", "name"]
structure Tx (K:LN) (mg:Str→Option Value) (t:Adr):Prop where
 mg_Hand:mg "Hand" = some (.ref t.C_Hand)
 mg_Hands:mg "Hands" = some (.ref t.C_Hands)
 mk_Hand:Mk K t.C_Hand t.cn
 mk_Hands:Mk K t.C_Hands t.bY
 wX:mg "_law_cell" = some (.ref t.fJ)
 bv:mg "_law_drawn" = some (.ref t.eE)
 pW:mg "_law_scene" = some (.ref t.eB)
 qH:mg "_law_hand" = some (.ref t.fI)
 oV:mg "_law_spread" = some (.ref t.dB)
 xS:mg "_law_has" = some (.ref t.gz)
 wW:mg "_law_hits" = some (.ref t.fH)
 r9:mg "_law_box" = some (.ref t.gA)
 qG:mg "_law_path" = some (.ref t.fG)
 sP:mg "_law_hit_path" = some (.ref t.cH)
 oi:mg "_law_led" = some (.ref t.gy)
 vW:mg "_law_event" = some (.ref t.eD)
 cN:Meth K t.C_Hands "hand_of" t.cm
 gT:Meth K t.C_Hand "tell_holder" t.bG
 r8:mg "children" = some (.ref t.gx)
 kj:mg "box_of" = some (.ref t.jf)
 wV:mg "below" = some (.ref t.kg)
 yY:mg "painted" = some (.ref t.ij)
 kE:mg "path_of" = some (.ref t.ii)
 oh:mg "has_mark" = some (.ref t.gu)
 xQ:mg "is_shown" = some (.ref t.gp)
 ud:mg "area_of" = some (.ref t.im)
 yZ:mg "overlap" = some (.ref t.ik)
 wT:mg "window_of" = some (.ref t.fE)
 Am:mg "takers" = some (.ref t.jd)
 wU:mg "has_point" = some (.ref t.fF)
 xR:mg "first_at" = some (.ref t.gw)
 Ex:mg "hit" = some (.ref t.nA)
 og:mg "hit_path" = some (.ref t.gq)
 vt:mg "shared" = some (.ref t.je)
 lm:Meth K t.C_Hand "lead" t.eI
 t7:Meth K t.C_Hands "move" t.dD
 t9:Meth K t.C_Hands "down" t.dF
 sN:Meth K t.C_Hand "let_go" t.cZ
 ua:Meth K t.C_Hand "click" t.dG
 vV:Meth K t.C_Hands "up" t.fK
 vX:mg "_law_asked" = some (.ref t.eG)
 uc:mg "has_box" = some (.ref t.il)
 oU:mg "still_there" = some (.ref t.dz)
 sO:Meth K t.C_Hand "forget" t.c0
 mn:Meth K t.C_Hands "change" t.cJ
 rJ:Meth K t.C_Hands "holder" t.cI
 t6:Meth K t.C_Hands "over" t.dC
 uV:mg "_law_stands" = some (.ref t.dA)
 t8:Meth K t.C_Hands "hold" t.dE
 rK:mg "_law_known_one" = some (.ref t.cj)
 Ew:mg "law" = some (.ref t.pj)
 c_AROUND:mg "AROUND" = some (.int (1) t.t_AROUND)
 c_CUTS_OFF:mg "CUTS_OFF" = some (.str "c" t.t_CUTS_OFF)
 c_HEIGHT:mg "HEIGHT" = some (.int (5) t.t_HEIGHT)
 c_HIDDEN:mg "HIDDEN" = some (.str "h" t.t_HIDDEN)
 c_LEFT:mg "LEFT" = some (.int (2) t.t_LEFT)
 c_LETS_BY:mg "LETS_BY" = some (.str "l" t.t_LETS_BY)
 c_LONGEST_DOUBLE:mg "LONGEST_DOUBLE" = some (.int (20) t.t_LONGEST_DOUBLE)
 c_MARKS:mg "MARKS" = some (.int (6) t.t_MARKS)
 c_NAME:mg "NAME" = some (.int (0) t.t_NAME)
 c_TOP:mg "TOP" = some (.int (3) t.t_TOP)
 c_WIDTH:mg "WIDTH" = some (.int (4) t.t_WIDTH)
 z_any:mg "any" = none
 z_enumerate:mg "enumerate" = none
 z_int:mg "int" = none
 z_len:mg "len" = none
 z_list:mg "list" = none
 z_max:mg "max" = none
 z_min:mg "min" = none
 z_range:mg "range" = none
 z_reversed:mg "reversed" = none
 z_sorted:mg "sorted" = none
 z_sum:mg "sum" = none
 z_tuple:mg "tuple" = none
 z_zip:mg "zip" = none
 cl_Hand:Cls K t.C_Hand
 cl_Hands:Cls K t.C_Hands
 na_Hand_clicked:NoAttr K t.C_Hand "clicked"
 na_Hand_clicked_moment:NoAttr K t.C_Hand "clicked_moment"
 na_Hand_held_by:NoAttr K t.C_Hand "held_by"
 na_Hand_pressed_at:NoAttr K t.C_Hand "pressed_at"
 na_Hand_trail:NoAttr K t.C_Hand "trail"
 na_Hand_was_double:NoAttr K t.C_Hand "was_double"
 na_Hands_known:NoAttr K t.C_Hands "known"
 na_Hands_scene:NoAttr K t.C_Hands "scene"
 cB:Fun K "_law_cell" "_law_cell" qv t.fJ t.fA
 ak:Fun K "_law_drawn" "_law_drawn" pT t.eE t.d9
 bp:Fun K "_law_scene" "_law_scene" iw t.eB t.d7
 b6:Fun K "__init__" "Hands.__init__" lQ t.bY t.bX
 cA:Fun K "_law_hand" "_law_hand" qu t.fI t.fw
 bo:Fun K "_law_spread" "_law_spread" oJ t.dB t.dm
 eX:Fun K "_law_has" "_law_has" oa t.gz t.gm
 fN:Fun K "_law_hits" "_law_hits" mU t.fH t.fu
 bM:Fun K "_law_box" "_law_box" oe t.gA t.gn
 b0:Fun K "_law_path" "_law_path" qt t.fG t.fq
 ax:Fun K "_law_hit_path" "_law_hit_path" mW t.cH t.cE
 bf:Fun K "_law_led" "_law_led" lG t.gy t.gk
 bz:Fun K "_law_event" "_law_event" jR t.eD t.d8
 cr:Fun K "__init__" "Hand.__init__" mk t.cn t.cg
 ar:Fun K "hand_of" "Hands.hand_of" mj t.cm t.cf
 aB:Fun K "tell_holder" "Hand.tell_holder" ku t.bG t.bF
 br:Fun K "children" "children" n8 t.gx t.gj
 aL:Fun K "box_of" "box_of" vp t.jf t.jb
 dI:Fun K "below" "below" wB t.kg t.kf
 dQ:Fun K "painted" "painted" tH t.ij t.ia
 aK:Fun K "path_of" "path_of" tG t.ii t.h9
 ba:Fun K "has_mark" "has_mark" rZ t.gu t.gh
 eW:Fun K "is_shown" "is_shown" n6 t.gp t.gf
 cC:Fun K "area_of" "area_of" kt t.im t.ie
 eP:Fun K "overlap" "overlap" tJ t.ik t.ib
 dS:Fun K "window_of" "window_of" qq t.fE t.fm
 ji:Fun K "takers" "takers" nI t.jd t.i9
 bA:Fun K "has_point" "has_point" qr t.fF t.fo
 gD:Fun K "first_at" "first_at" r6 t.gw t.gi
 nF:Fun K "hit" "hit" zS t.nA t.ny
 aV:Fun K "hit_path" "hit_path" rY t.gq t.gg
 eU:Fun K "shared" "shared" vo t.je t.ja
 bh:Fun K "lead" "Hand.lead" jS t.eI t.eA
 cP:Fun K "move" "Hands.move" lj t.dD t.dr
 ca:Fun K "down" "Hands.down" oN t.dF t.du
 c8:Fun K "let_go" "Hand.let_go" nJ t.cZ t.cX
 cb:Fun K "click" "Hand.click" oO t.dG t.dw
 dU:Fun K "up" "Hands.up" qw t.fK t.fB
 cD:Fun K "_law_asked" "_law_asked" pU t.eG t.ee
 c7:Fun K "has_box" "has_box" px t.il t.ic
 bL:Fun K "still_there" "still_there" lh t.dz t.dj
 cv:Fun K "forget" "Hand.forget" nK t.c0 t.cY
 bi:Fun K "change" "Hands.change" j6 t.cJ t.cG
 cL:Fun K "holder" "Hands.holder" mX t.cI t.cF
 dL:Fun K "over" "Hands.over" oK t.dC t.dq
 dJ:Fun K "_law_stands" "_law_stands" eZ t.dA t.dk
 jx:Fun K "hold" "Hands.hold" oM t.dE t.dt
 bO:Fun K "_law_known_one" "_law_known_one" mh t.cj t.ce
 rh:Fun K "law" "law" zR t.pj t.pe
 xu:Binds K t.fA i4 []
 bw:Binds K t.d9 iA []
 qe:Binds K t.d7 iy []
 l6:Binds K t.bX dR []
 qY:Binds K t.fw [] []
 ph:Binds K t.dm gN []
 xX:Binds K t.gm jL []
 xt:Binds K t.fu i3 []
 sA:Binds K t.gn jM []
 qX:Binds K t.fq i0 []
 sY:Binds K t.cE fe []
 oA:Binds K t.gk jK []
 v7:Binds K t.d8 iz []
 rP:Binds K t.cg eL []
 c9:Binds K t.cf eJ []
 ig:Binds K t.bF cU []
 sy:Binds K t.gj jJ []
 kl:Binds K t.jb lT []
 xr:Binds K t.kf mZ []
 zp:Binds K t.ia kz []
 kR:Binds K t.h9 kx []
 oz:Binds K t.gh jH []
 xV:Binds K t.gf jF []
 ux:Binds K t.ie kC []
 zq:Binds K t.ib kA []
 xp:Binds K t.fm iY []
 AX:Binds K t.i9 lR []
 xq:Binds K t.fo iZ []
 xW:Binds K t.gi jI []
 Fj:Binds K t.ny qz []
 oy:Binds K t.gg jG []
 vK:Binds K t.ja lS []
 ma:Binds K t.eA iC []
 va:Binds K t.dr gP []
 ve:Binds K t.du gR []
 uy:Binds K t.cX fS []
 vf:Binds K t.dw gS []
 xw:Binds K t.fB i5 []
 v8:Binds K t.ee iB []
 uw:Binds K t.ic kB []
 pf:Binds K t.dj gK []
 uz:Binds K t.cY fT []
 nz:Binds K t.cG fj []
 sZ:Binds K t.cF fg []
 u9:Binds K t.dq gO []
 u5:Binds K t.dk gM []
 vd:Binds K t.dt gQ []
 rO:Binds K t.ce [] []
 KI:Binds K t.pe ["_law_script"] []
theorem tx_ex {K:LN} {mg:Str→Option Value} {C_Hand C_Hands fJ eE eB bY fI dB gz fH gA fG cH gy eD cn cm bG gx jf kg ij ii gu gp im ik fE jd fF gw nA gq je eI dD dF cZ dG fK eG il dz c0 cJ cI dC dA dE cj pj:Addr} {fA d9 d7 bX fw dm gm fu gn fq cE gk d8 cg cf bF gj jb kf ia h9 gh gf ie ib fm i9 fo gi ny gg ja eA dr du cX dw fB ee ic dj cY cG cF dq dk dt ce pe:FuncData} {t_AROUND t_CUTS_OFF t_HEIGHT t_HIDDEN t_LEFT t_LETS_BY t_LONGEST_DOUBLE t_MARKS t_NAME t_TOP t_WIDTH:Tok} (tx:Tx K mg ⟨C_Hand,C_Hands,fJ,eE,eB,bY,fI,dB,gz,fH,gA,fG,cH,gy,eD,cn,cm,bG,gx,jf,kg,ij,ii,gu,gp,im,ik,fE,jd,fF,gw,nA,gq,je,eI,dD,dF,cZ,dG,fK,eG,il,dz,c0,cJ,cI,dC,dA,dE,cj,pj,fA,d9,d7,bX,fw,dm,gm,fu,gn,fq,cE,gk,d8,cg,cf,bF,gj,jb,kf,ia,h9,gh,gf,ie,ib,fm,i9,fo,gi,ny,gg,ja,eA,dr,du,cX,dw,fB,ee,ic,dj,cY,cG,cF,dq,dk,dt,ce,pe,t_AROUND,t_CUTS_OFF,t_HEIGHT,t_HIDDEN,t_LEFT,t_LETS_BY,t_LONGEST_DOUBLE,t_MARKS,t_NAME,t_TOP,t_WIDTH⟩):∃ t,Tx K mg t:=⟨_,tx⟩
end K24
section
open PySem PySem.W PyProof.Rows
set_option maxRecDepth 100000 in
set_option maxHeartbeats 0 in
theorem K24.tx:∃ K:Params→Frag,(∀ w h,K24.hk.H.says w h→(K w.params).In h)∧∀ (P:Params) (mg:Str→Option Value) (h:Heap),(K P).In h→h.Ns mainGlobals mg→∃ t,K24.Tx (K P) mg t:=by
 refine' L2.PU.tx_mk (H:=K24.hk.H) (T:=fun K mg=>∃ t,K24.Tx K mg t) (fun w h Y=>show InK _ w h from Y) ?tx
 (case tx =>
  refine (fun (f:PySem.Challenge.rw_touchtree_k24_changes=PySem.Challenge.rw_touchtree_k24_changes→_)=>f rfl) ?_
  k_fill
  intro _ P mg h KX G
  refine' K24.tx_ex ?t2
  case t2 =>
   constructor
   all_goals first
   | exact mg_of KX G (by k_is)
   | exact mg_none_of KX G (by k_is)
   | exact L2.PU.na_mk (by k_is)
   | exact L2.fun_mk (by k_is) (by k_is) (by (try dsimp only); k_is)
   | exact L2.PU.bi_mk (by (repeat' intro _); exact rfl)
   | (constructor <;> (try dsimp only) <;> k_is)
)
end
namespace K24
open PySem L2 L2.PU
noncomputable def cl (t:Adr):Nat→Addr
 | 0=>t.C_Hand
 | _=>t.C_Hands
section
variable {Pr:Program} {w:World} {K:LN} {mg:Str→Option Value} {base:Heap} {t:Adr}
section
variable {k:Nat} {qN pZ oZ so sq qL qK m7 sk mx vH sj xa uj sh uo ul uk se qI qJ vF si Ax vG mw kG sg p7 nN o6 o3 o5 qO um oX nO pX lV qM pY p6 m9 m8 o2 o4 oY mv:Nat}
variable {j0 aA bS kQ i8 jZ d6 gG bq fk i7 bj cz jO lM lL kO jX jY mL kP rq hW cy gb fW gZ:PFn}
variable {g0 fY aw aU bK hZ iR iO iQ j1 h8 bQ iF jo jp cc gH iN iP iL fX:DFn}
variable (tx:Tx K mg t)
variable (kX:FnOk Pr w K mg base CX0 qN t.fJ t.fA i4 (spP K j0)) (qb:qN≤k)
variable (aS:FnOk Pr w K mg base CX0 pZ t.eE t.d9 iA (spP K aA)) (a9:pZ≤k)
variable (dH:FnOk Pr w K mg base CX0 oZ t.dB t.dm gN (spP K bS)) (iK:oZ≤k)
variable (lP:FnOk Pr w K mg base CX0 so t.gz t.gm jL (spP K kQ)) (qR:so≤k)
variable (jP:FnOk Pr w K mg base CX0 sq t.gA t.gn jM (spP K i8)) (ng:sq≤k)
variable (kW:FnOk Pr w K mg base CX0 qL t.fH t.fu i3 (spP K jZ)) (qa:qL≤k)
variable (fM:FnOk Pr w K mg base CX0 qK t.fG t.fq i0 (spP K d6)) (jU:qK≤k)
variable (iq:FnOk Pr w K mg base CX0 m7 t.cH t.cE fe (spP K gG)) (my:m7≤k)
variable (iI:FnOk Pr w K mg base CX0 sk t.gy t.gk jK (spM K (cl t) g0)) (kJ:sk≤k)
variable (gJ:FnOk Pr w K mg base CX0 mx t.cn t.cg eL (spM K (cl t) fY)) (lX:mx+1≤k)
variable (bD:FnOk Pr w K mg base CX0 vH t.jf t.jb lT (spP K bq)) (cW:vH≤k)
variable (gC:FnOk Pr w K mg base CX0 sj t.gx t.gj jJ (spP K fk)) (kI:sj≤k)
variable (ki:FnOk Pr w K mg base CX0 xa t.kg t.kf mZ (spP K i7)) (nP:xa≤k)
variable (bu:FnOk Pr w K mg base CX0 uj t.ii t.h9 kx (spP K bj)) (cR:uj≤k)
variable (cT:FnOk Pr w K mg base CX0 sh t.gu t.gh jH (spP K cz)) (gY:sh≤k)
variable (kU:FnOk Pr w K mg base CX0 uo t.im t.ie kC (spP K jO)) (oj:uo≤k)
variable (mQ:FnOk Pr w K mg base CX0 ul t.ik t.ib kA (spP K lM)) (sv:ul≤k)
variable (mO:FnOk Pr w K mg base CX0 uk t.ij t.ia kz (spP K lL)) (su:uk≤k)
variable (lN:FnOk Pr w K mg base CX0 se t.gp t.gf jF (spP K kO)) (qP:se≤k)
variable (kS:FnOk Pr w K mg base CX0 qI t.fE t.fm iY (spP K jX)) (p8:qI≤k)
variable (kT:FnOk Pr w K mg base CX0 qJ t.fF t.fo iZ (spP K jY)) (p9:qJ≤k)
variable (nY:FnOk Pr w K mg base CX0 vF t.jd t.i9 lR (spP K mL)) (uq:vF≤k)
variable (lO:FnOk Pr w K mg base CX0 si t.gw t.gi jI (spP K kP)) (qQ:si≤k)
variable (uG:FnOk Pr w K mg base CX0 Ax t.nA t.ny qz (spP K rq)) (yp:Ax≤k)
variable (jg:FnOk Pr w K mg base CX0 vG t.je t.ja lS (spP K hW)) (mH:vG≤k)
variable (ay:FnOk Pr w K mg base CX0 mw t.cm t.cf eJ (spM K (cl t) aw)) (aR:mw≤k)
variable (a6:FnOk Pr w K mg base CX0 kG t.bG t.bF cU (spM K (cl t) aU)) (bV:kG≤k)
variable (cS:FnOk Pr w K mg base CX0 sg t.gq t.gg jG (spP K cy)) (gX:sg≤k)
variable (b8:FnOk Pr w K mg base CX0 p7 t.eI t.eA iC (spM K (cl t) bK)) (e9:p7≤k)
variable (iT:FnOk Pr w K mg base CX0 nN t.cZ t.cX fS (spM K (cl t) hZ)) (nh:nN≤k)
variable (jw:FnOk Pr w K mg base CX0 o6 t.dG t.dw gS (spM K (cl t) iR)) (nW:o6≤k)
variable (jt:FnOk Pr w K mg base CX0 o3 t.dD t.dr gP (spM K (cl t) iO)) (nS:o3≤k)
variable (jv:FnOk Pr w K mg base CX0 o5 t.dF t.du gR (spM K (cl t) iQ)) (nV:o5≤k)
variable (kY:FnOk Pr w K mg base CX0 qO t.fK t.fB i5 (spM K (cl t) j1)) (qc:qO≤k)
variable (io:FnOk Pr w K mg base CX0 um t.il t.ic kB (spP K gb)) (lJ:um≤k)
variable (g9:FnOk Pr w K mg base CX0 oX t.dz t.dj gK (spP K fW)) (kH:oX≤k)
variable (iU:FnOk Pr w K mg base CX0 nO t.c0 t.cY fT (spM K (cl t) h8)) (ni:nO≤k)
variable (iH:FnOk Pr w K mg base CX0 pX t.eB t.d7 iy (spP K gZ)) (lu:pX≤k)
variable (bZ:FnOk Pr w K mg base CX0 lV t.bY t.bX dR (spM K (cl t) bQ)) (fO:lV+1≤k)
variable (jh:FnOk Pr w K mg base CX0 qM t.fI t.fw [] (spM K (cl t) iF)) (l8:qM≤k)
variable (j3:FnOk Pr w K mg base CX0 pY t.eD t.d8 iz (spM K (cl t) jo)) (o7:pY≤k)
variable (j4:FnOk Pr w K mg base CX0 p6 t.eG t.ee iB (spM K (cl t) jp)) (o8:p6≤k)
variable (cK:FnOk Pr w K mg base CX0 m9 t.cJ t.cG fj (spM K (cl t) cc)) (gE:m9≤k)
variable (ir:FnOk Pr w K mg base CX0 m8 t.cI t.cF fg (spM K (cl t) gH)) (mz:m8≤k)
variable (jr:FnOk Pr w K mg base CX0 o2 t.dC t.dq gO (spM K (cl t) iN)) (nR:o2≤k)
variable (ju:FnOk Pr w K mg base CX0 o4 t.dE t.dt gQ (spM K (cl t) iP)) (nU:o4≤k)
variable (jq:FnOk Pr w K mg base CX0 oY t.dA t.dk gM (spM K (cl t) iL)) (nQ:oY≤k)
variable (gI:FnOk Pr w K mg base CX0 mv t.cj t.ce [] (spM K (cl t) fX)) (lW:mv≤k)
noncomputable abbrev xC:List Str:=["_law_script", "_law_k"]
theorem vN:aI xC i4 (aj qv):=bR
noncomputable def kK  : En→Option Out :=
 (cw (sIf (bT (l2 pEq (eV 0) (oE (fun η=>(aN η).bind gL)))) (f9 (l2 kZ (eC (.int 7)) (eV 1))) sNx)
  (f9 (l2 aG (l2 pIx (eV 0) (l2 oS (eV 1) (lA rE (aC (eV 0) aN)))) (l2 kZ (eC (.int 6553)) (l2 qB (eV 1) (lA rE (aC (eV 0) aN)))))))
include tx in
theorem vT:FnOk Pr w K mg base CX0 (k+1) t.fJ t.fA i4 (spP K (b9 2 2 (kK))) :=
 fnP tx.cB vN fun _ _ _ _ _ _ _ hr =>
  (@a7 _ _ _ _ _ _ (@S.ifS _ _ _ _ _ _ _ _ _ (v9 hr (av 0) (bb (bt am))) (@bn _ _ _ _ (g7 (ri ao (av 1)))) Ss.nil)
  (@bn _ _ _ _ (g7 (bP (cM (av 0) (E.mod (av 1) (E.len tx.z_len (ab (av 0) am)))) (ri ao (E.fdiv (av 1) (E.len tx.z_len (ab (av 0) am))))))))
noncomputable abbrev wa:List Str:=["_law_script", "_law_k", "_law_many", "_law_cell_here"]
theorem lf:aI wa iA (aj pT):=bR
noncomputable def jW (j0:PFn):En→Option Out :=
 (cw (dY 3 (l2 oS (l2 aG (l2 kZ (l2 oS (lA j0 (aC (eV 0) (aC (eV 1) aN))) (eC (.int 2147483563))) (eC (.int 69069))) (l2 kZ (eC (.int 104723)) (l2 aG (eV 1) (eC (.int 1))))) (eC (.int 2147483563))))
  (cw (dY 3 (l2 oS (l2 aG (l2 kZ (eV 3) (eV 3)) (l2 qB (eV 3) (eC (.int 3)))) (eC (.int 2147483399))))
  (f9 (l2 oS (l2 qB (l2 oS (l2 aG (l2 kZ (eV 3) (eV 3)) (l2 qB (eV 3) (eC (.int 7)))) (eC (.int 2147483647))) (eC (.int 11))) (eV 2)))))
include tx kX qb in
theorem uQ:FnOk Pr w K mg base CX0 (k+1) t.eE t.d9 iA (spP K (b9 3 4 (jW j0))) :=
 fnP tx.ak lf fun _ _ _ _ _ _ _ hr =>
  (@a7 _ _ _ _ _ _ (g6 3 lf.nd (E.mod (bP (ri (E.mod (aP kX hr qb tx.wX tx.cB.kp tx.xu (ab (av 0) (ab (av 1) am))) ao) ao) (ri ao (bP (av 1) ao))) ao))
  (@a7 _ _ _ _ _ _ (g6 3 lf.nd (E.mod (bP (ri (av 3) (av 3)) (E.fdiv (av 3) ao)) ao))
  (@bn _ _ _ _ (g7 (E.mod (E.fdiv (E.mod (bP (ri (av 3) (av 3)) (E.fdiv (av 3) ao)) ao) ao) (av 2))))))
noncomputable abbrev j2:List Str:=["_law_script", "_law_at", "_law_found", "_law_turn", "_law_k", "_law_here", "_law_around", "_law_places", "_law_sizes", "_law_marks", "_law_j", "_law_sign", "_law_name"]
theorem a8:aI j2 iy (aj iw):=bR
noncomputable def jV (aA:PFn):En→Option Out :=
 (cw (dY 2 (lA (fun ds=>if ds.length≤sizeLine then some (.tuple ds) else none) aN))
  (cw (dY 3 (lA aA (aC (eV 0) (aC (l2 aG (eV 1) (eC (.int 1))) (aC (eC (.int 8)) aN)))))
  (cw (pz (fun η=>((aC (lA aA (aC (eV 0) (aC (eV 1) (aC (eC (.int 8)) aN)))) aN) η).bind rng1) (tgN 4)
  (cw (dY 5 (l2 aG (l2 aG (eV 1) (eC (.int 3))) (l2 kZ (eC (.int 9)) (eV 4))))
  (cw (dY 6 (l2 pIx (l2 aG (oE (fun η=>((aC (eC (.str "")) aN) η).bind gL)) (oE (bH [none] (lI oB (eV 2)) (tgN 0) dM (l2 pIx (eV 0) (eC (.int 0)))))) (lA aA (aC (eV 0) (aC (eV 5) (aC (l2 aG (eV 4) (eC (.int 1))) aN))))))
  (cw (ml 7 (bH [none,some 0,some 5] (fun η=>((aC (eC (.int 2)) aN) η).bind rng1) (tgN 0) dM (l2 tN (lA aA (aC (eV 1) (aC (l2 aG (l2 aG (eV 2) (eC (.int 1))) (eV 0)) (aC (eC (.int 9)) aN)))) (eC (.int 3)))))
  (fun η=>(cw (ml 8 (bH [none,some 0,some 5] (fun η=>((aC (eC (.int 2)) aN) η).bind rng1) (tgN 0) dM (lA aA (aC (eV 1) (aC (l2 aG (l2 aG (eV 2) (eC (.int 3))) (eV 0)) (aC (eC (.int 9)) aN))))))
  (fun η=>(cw (dY 9 (eC (.str "")))
  (cw (pz (fun η=>((aC (eC (.str "cfhl")) aN) η).bind enS) (tgT (bU (tgN 10) (bU (tgN 11) kn)))
  (sIf (bT (l2 pEq (lA aA (aC (eV 0) (aC (l2 aG (l2 aG (eV 5) (eC (.int 5))) (eV 10)) (aC (l2 pIx (oE (fun η=>((aC (eC (.int 4)) (aC (eC (.int 2)) (aC (eC (.int 9)) (aC (eC (.int 6)) aN)))) η).bind gL)) (eV 10)) aN)))) (eC (.int 0)))) (dY 9 (l2 aG (eV 9) (eV 11))) sNx))
  (cw (dY 12 (l2 pIx (eC (.str "dbgahcfe")) (l2 oS (l2 aG (eV 4) (eV 3)) (eC (.int 8)))))
  (dY 2 (l2 aG (eV 2) (lA (fun ds=>if ds.length≤sizeLine then some (.tuple ds) else none) (aC (l2 aG (l2 aG (lA (fun ds=>if ds.length≤sizeLine then some (.tuple ds) else none) (aC (eV 12) (aC (eV 6) aN))) (lA Ae (aC (l2 aG (eV 7) (eV 8)) aN))) (lA (fun ds=>if ds.length≤sizeLine then some (.tuple ds) else none) (aC (eV 9) aN))) aN))))))) (frz 8 η))) (frz 7 η))))))
  (f9 (eV 2)))))
include tx aS a9 in
theorem uO:FnOk Pr w K mg base CX0 (k+1) t.eB t.d7 iy (spP K (b9 2 13 (jV aA))) :=
 fnP tx.bp a8 fun _ _ _ _ _ _ _ hr =>
  (@a7 _ _ _ _ _ _ (g6 2 a8.nd (f7 am))
  (@a7 _ _ _ _ _ _ (g6 3 a8.nd (aP aS hr a9 tx.bv tx.ak.kp tx.bw (ab (av 0) (ab (bP (av 1) ao) (ab ao am)))))
  (@a7 _ _ _ _ _ _ (@S.for _ _ _ _ _ _ _ _ _ _ _ PassesOwn.never rfl (I.rng1 tx.z_range (ab (aP aS hr a9 tx.bv tx.ak.kp tx.bw (ab (av 0) (ab (av 1) (ab ao am)))) am)) (aQ (i:=4) a8.nd rfl (by first | exact Or.inl rfl | exact Or.inr rfl) ) (aF (i:=4))
  (@a7 _ _ _ _ _ _ (g6 5 a8.nd (bP (bP (av 1) ao) (ri ao (av 4))))
  (@a7 _ _ _ _ _ _ (g6 6 a8.nd (cM (bP (bb (bt (ab aX am))) (bb (f6 (N':=["_law_box_here"]) (mp:=[none]) rfl (aZ j2 (aj iw) rfl rfl (by decide +kernel)) (aF (i:=0)) (by decide) (I.tup (av 2)) (fun _ _ _=>⟨(aQ (i:=0) (show (["_law_box_here"]:List Str).Nodup by decide +kernel) rfl (Or.inl rfl) (.inr rfl)),Ts.nil,(cM (av 0) ao)⟩)))) (aP aS hr a9 tx.bv tx.ak.kp tx.bw (ab (av 0) (ab (av 5) (ab (bP (av 4) ao) am))))))
  (@a7 _ _ _ _ _ _ (S.setC 7 (N':=["_law_j", "_law_script", "_law_here"]) (mp:=[none,some 0,some 5]) rfl a8.nd (aZ j2 (aj iw) rfl rfl (by decide +kernel)) (aF (i:=0)) (by decide) (I.rng1 tx.z_range (ab ao am)) (fun _ _ _=>⟨(aQ (i:=0) (show (["_law_j", "_law_script", "_law_here"]:List Str).Nodup by decide +kernel) rfl (Or.inl rfl) (.inr rfl)),Ts.nil,(E.sub (aP aS hr a9 tx.bv tx.ak.kp tx.bw (ab (av 1) (ab (bP (bP (av 2) ao) (av 0)) (ab ao am)))) ao)⟩))
  (@Ss.frz _ _ _ _ 7 (@a7 _ _ _ _ _ _ (S.setC 8 (N':=["_law_j", "_law_script", "_law_here"]) (mp:=[none,some 0,some 5]) rfl a8.nd (aZ j2 (aj iw) rfl rfl (by decide +kernel)) (aF (i:=0)) (by decide) (I.rng1 tx.z_range (ab ao am)) (fun _ _ _=>⟨(aQ (i:=0) (show (["_law_j", "_law_script", "_law_here"]:List Str).Nodup by decide +kernel) rfl (Or.inl rfl) (.inr rfl)),Ts.nil,(aP aS hr a9 tx.bv tx.ak.kp tx.bw (ab (av 1) (ab (bP (bP (av 2) ao) (av 0)) (ab ao am))))⟩))
  (@Ss.frz _ _ _ _ 8 (@a7 _ _ _ _ _ _ (g6 9 a8.nd aX)
  (@a7 _ _ _ _ _ _ (@S.for _ _ _ _ _ _ _ _ _ _ _ PassesOwn.never rfl (I.enum rfl tx.z_enumerate (ab aX am)) (wG (n:=2) rfl (jE (aQ (i:=10) a8.nd rfl (by first | exact Or.inl rfl | exact Or.inr rfl) ) (jE (aQ (i:=11) a8.nd rfl (by first | exact Or.inl rfl | exact Or.inr rfl) ) tK))) (TgP.tup (n:=2) (TgsP.cons (aF (i:=10)) (TgsP.cons (aF (i:=11)) TgsP.nil)) (tu))
  (@bn _ _ _ _ (@S.ifS _ _ _ _ _ _ _ _ _ (v9 hr (aP aS hr a9 tx.bv tx.ak.kp tx.bw (ab (av 0) (ab (bP (bP (av 5) ao) (av 10)) (ab (cM (bb (bt (ab ao (ab ao (ab ao (ab ao am)))))) (av 10)) am)))) ao) (@bn _ _ _ _ (g6 9 a8.nd (bP (av 9) (av 11)))) Ss.nil)) (fun _=>rfl))
  (@a7 _ _ _ _ _ _ (g6 12 a8.nd (cM aX (E.mod (bP (av 4) (av 3)) ao)))
  (@bn _ _ _ _ (g6 2 a8.nd (bP (av 2) (f7 (ab (bP (bP (f7 (ab (av 12) (ab (av 6) am))) (E.tuple tx.z_tuple (ab (bP (av 7) (av 8)) am))) (f7 (ab (av 9) am))) am)))))))))))))) (fun _=>rfl))
  (@bn _ _ _ _ (g7 (av 2))))))
noncomputable abbrev re:List Str:=["self", "scene"]
theorem qh:aI re dR (aj lQ):=bR
noncomputable def fV  : Wd→Option MOut :=
 (aH (km 1 "scene" (mV 0) (mP (eV 1)))
  (km 1 "known" (mV 0) Cq))
include tx in
theorem qj:FnOk Pr w K mg base CX0 (k+1) t.bY t.bX dR (spM K (cl t) (dN 2 2 (fV))) :=
 fnM tx.b6 qh fun _ _ _ _ _ _ hr =>
  (@ag _ _ _ _ _ _ (gB (k:=1) (bc 0) (ac fun _=>(av 1)) tx.na_Hands_scene)
  (@aJ _ _ _ _ (gB (k:=1) (bc 0) ME.dict0 tx.na_Hands_known)))
noncomputable abbrev xB:List Str:=[]
theorem vM:aI xB [] (aj qu):=bR
noncomputable def nu  : Wd→Option MOut :=
 (fU (EC (((eC (.str "over")),(oE (fun η=>(aN η).bind gL)))::((eC (.str "pressed")),(eC .none))::((eC (.str "held")),(eC .none))::((eC (.str "last")),(eC .none))::[])))
include tx in
theorem vS:FnOk Pr w K mg base CX0 (k+1) t.fI t.fw [] (spM K (cl t) (dN 0 0 (nu))) :=
 fnM tx.cA vM fun _ _ _ _ _ _ hr =>
  (@aJ _ _ _ _ (cq (ME.dispC (fun _=>(DP.cons aX (bb (bt am)) (DP.cons aX dX (DP.cons aX dX (DP.cons aX dX DP.nil))))))))
noncomputable abbrev vg:List Str:=["_law_scene_here", "_law_around", "_law_left", "_law_top", "_law_cuts", "_law_found", "_law_box_here", "_law_area", "_law_inner"]
theorem dW:aI vg gN (aj oJ):=bR
noncomputable def ly (bS:PFn):En→Option Out :=
 (cw (dY 5 (oE (fun η=>(aN η).bind gL)))
  (cw (pz (lI oB (eV 0)) (tgN 6)
  (sIf (rQ (bT (l2 pEq (l2 pIx (eV 6) (eC (.int 1))) (eV 1))) (bT (l2 (pIn true) (eC (.str "h")) (l2 pIx (eV 6) (eC (.int 6)))))) (cw (dY 7 (lA (fun ds=>if ds.length≤sizeLine then some (.tuple ds) else none) (aC (l2 aG (eV 2) (l2 pIx (eV 6) (eC (.int 2)))) (aC (l2 aG (eV 3) (l2 pIx (eV 6) (eC (.int 3)))) (aC (l2 aG (l2 aG (eV 2) (l2 pIx (eV 6) (eC (.int 2)))) (l2 pIx (eV 6) (eC (.int 4)))) (aC (l2 aG (l2 aG (eV 3) (l2 pIx (eV 6) (eC (.int 3)))) (l2 pIx (eV 6) (eC (.int 5)))) aN))))))
  (cw (dY 8 (l2 aG (eV 4) (By (fun η=>((aC (eV 7) aN) η).bind gL) (lA qA (aC (l2 (pIn false) (eC (.str "c")) (l2 pIx (eV 6) (eC (.int 6)))) aN)))))
  (dY 5 (l2 aG (l2 aG (eV 5) (oE (fun η=>((aC (lA (fun ds=>if ds.length≤sizeLine then some (.tuple ds) else none) (aC (eV 6) (aC (eV 7) (aC (l2 aG (eV 4) (oE (fun η=>((aC (eV 7) aN) η).bind gL))) aN)))) aN) η).bind gL))) (lA bS (aC (eV 0) (aC (l2 pIx (eV 6) (eC (.int 0))) (aC (l2 pIx (eV 7) (eC (.int 0))) (aC (l2 pIx (eV 7) (eC (.int 1))) (aC (eV 8) aN)))))))))) sNx))
  (f9 (eV 5))))
include tx dH iK in
theorem tV:FnOk Pr w K mg base CX0 (k+1) t.dB t.dm gN (spP K (b9 5 9 (ly bS))) :=
 fnP tx.bo dW fun _ _ _ _ _ _ _ hr =>
  (@a7 _ _ _ _ _ _ (g6 5 dW.nd (bb (bt am)))
  (@a7 _ _ _ _ _ _ (@S.for _ _ _ _ _ _ _ _ _ _ _ PassesOwn.never rfl (I.tup (av 0)) (aQ (i:=6) dW.nd rfl (by first | exact Or.inl rfl | exact Or.inr rfl) ) (aF (i:=6))
  (@bn _ _ _ _ (@S.ifS _ _ _ _ _ _ _ _ _ (TW.t (TW.and (v9 hr (cM (av 6) ao) (av 1)) (TW.and1 (T.notIn aX (cM (av 6) ao))))) (@a7 _ _ _ _ _ _ (g6 7 dW.nd (f7 (ab (bP (av 2) (cM (av 6) ao)) (ab (bP (av 3) (cM (av 6) ao)) (ab (bP (bP (av 2) (cM (av 6) ao)) (cM (av 6) ao)) (ab (bP (bP (av 3) (cM (av 6) ao)) (cM (av 6) ao)) am))))))
  (@a7 _ _ _ _ _ _ (g6 8 dW.nd (bP (av 4) (E.rep (bt (ab (av 7) am)) (E.toInt tx.z_int (ab (E.in aX (cM (av 6) ao)) am)))))
  (@bn _ _ _ _ (g6 5 dW.nd (bP (bP (av 5) (bb (bt (ab (f7 (ab (av 6) (ab (av 7) (ab (bP (av 4) (bb (bt (ab (av 7) am)))) am)))) am)))) (aP dH hr iK tx.oV tx.bo.kp tx.ph (ab (av 0) (ab (cM (av 6) ao) (ab (cM (av 7) ao) (ab (cM (av 7) ao) (ab (av 8) am))))))))))) Ss.nil)) (fun _=>rfl))
  (@bn _ _ _ _ (g7 (av 5)))))
noncomputable abbrev sD:List Str:=["_law_areas", "_law_x", "_law_y"]
theorem wz:aI sD jL (aj oa):=bR
noncomputable def ot  : En→Option Out :=
 (f9 (l2 pEq (oE (bH [none,some 1,some 2] (lI asL (eV 0)) (tgN 0) (BG (rQ (bT (lch pLe pLt (l2 pIx (eV 0) (eC (.int 0))) (eV 1) (l2 pIx (eV 0) (eC (.int 2))))) (bT (lch pLe pLt (l2 pIx (eV 0) (eC (.int 1))) (eV 2) (l2 pIx (eV 0) (eC (.int 3))))))) (eV 0))) (oE (fun η=>(aN η).bind gL))))
include tx in
theorem wQ:FnOk Pr w K mg base CX0 (k+1) t.gz t.gm jL (spP K (b9 3 3 (ot))) :=
 fnP tx.eX wz fun _ _ _ _ _ _ _ hr =>
  (@bn _ _ _ _ (g7 (E.eq hr (bb (f6 (N':=["_law_area", "_law_x", "_law_y"]) (mp:=[none,some 1,some 2]) rfl (aZ sD (aj oa) rfl rfl (by decide +kernel)) (aF (i:=0)) (by decide) (I.list (av 0)) (fun _ _ _=>⟨(aQ (i:=0) (show (["_law_area", "_law_x", "_law_y"]:List Str).Nodup by decide +kernel) rfl (Or.inl rfl) (.inr rfl)),(Ts.one (T.not (TW.t (TW.and (T.chain yj (pi fun _ _ _=>dZ) Cj (pi fun _ _ _=>dZ) (cM (av 0) ao) (av 1) (cM (av 0) ao)) (TW.and1 (T.chain yj (pi fun _ _ _=>dZ) Cj (pi fun _ _ _=>dZ) (cM (av 0) ao) (av 2) (cM (av 0) ao))))))),(av 0)⟩))) (bb (bt am)))))
noncomputable abbrev rc:List Str:=["_law_scene_here", "_law_x", "_law_y", "_law_rows"]
theorem pR:aI rc i3 (aj mU):=bR
noncomputable def nt (bS:PFn) (kQ:PFn):En→Option Out :=
 (cw (dY 3 (lA bS (aC (eV 0) (aC (eC (.str "")) (aC (eC (.int 0)) (aC (eC (.int 0)) (aC (oE (fun η=>(aN η).bind gL)) aN)))))))
  (f9 (l2 pRv (oE (bH [none,some 1,some 2] (lI asL (eV 3)) (tgN 0) (rQ (bT (l2 (pIn true) (eC (.str "l")) (l2 pIx (l2 pIx (eV 0) (eC (.int 0))) (eC (.int 6))))) (bT (lA kQ (aC (l2 pIx (eV 0) (eC (.int 2))) (aC (eV 1) (aC (eV 2) aN)))))) (l2 pIx (l2 pIx (eV 0) (eC (.int 0))) (eC (.int 0))))) (l1 pA (eC (.int 1))))))
include tx dH iK lP qR in
theorem vR:FnOk Pr w K mg base CX0 (k+1) t.fH t.fu i3 (spP K (b9 3 4 (nt bS kQ))) :=
 fnP tx.fN pR fun _ _ _ _ _ _ _ hr =>
  (@a7 _ _ _ _ _ _ (g6 3 pR.nd (aP dH hr iK tx.oV tx.bo.kp tx.ph (ab (av 0) (ab aX (ab ao (ab ao (ab (bb (bt am)) am)))))))
  (@bn _ _ _ _ (g7 (E.slRev (bb (f6 (N':=["_law_row", "_law_x", "_law_y"]) (mp:=[none,some 1,some 2]) rfl (aZ rc (aj mU) rfl rfl (by decide +kernel)) (aF (i:=0)) (by decide) (I.list (av 3)) (fun _ _ _=>⟨(aQ (i:=0) (show (["_law_row", "_law_x", "_law_y"]:List Str).Nodup by decide +kernel) rfl (Or.inl rfl) (.inr rfl)),(Ts.one (TW.t (TW.and (T.notIn aX (cM (cM (av 0) ao) ao)) (TW.and1 (T.val (aP lP hr qR tx.xS tx.eX.kp tx.xX (ab (cM (av 0) ao) (ab (av 1) (ab (av 2) am))))))))),(cM (cM (av 0) ao) ao)⟩))) (qf ao)))))
noncomputable abbrev sE:List Str:=["_law_scene_here", "_law_name"]
theorem wA:aI sE jM (aj oe):=bR
noncomputable def ou  : En→Option Out :=
 (f9 (l2 pIx (oE (bH [none,some 1] (lI oB (eV 0)) (tgN 0) (bT (l2 pEq (l2 pIx (eV 0) (eC (.int 0))) (eV 1))) (eV 0))) (eC (.int 0))))
include tx in
theorem wR:FnOk Pr w K mg base CX0 (k+1) t.gA t.gn jM (spP K (b9 2 2 (ou))) :=
 fnP tx.bM wA fun _ _ _ _ _ _ _ hr =>
  (@bn _ _ _ _ (g7 (cM (bb (f6 (N':=["_law_box_here", "_law_name"]) (mp:=[none,some 1]) rfl (aZ sE (aj oe) rfl rfl (by decide +kernel)) (aF (i:=0)) (by decide) (I.tup (av 0)) (fun _ _ _=>⟨(aQ (i:=0) (show (["_law_box_here", "_law_name"]:List Str).Nodup by decide +kernel) rfl (Or.inl rfl) (.inr rfl)),(Ts.one (v9 hr (cM (av 0) ao) (av 1))),(av 0)⟩))) ao)))
noncomputable abbrev xA:List Str:=["_law_scene_here", "_law_name", "_law_found"]
theorem l7:aI xA i0 (aj qt):=bR
noncomputable def nr (i8:PFn):En→Option Out :=
 (cw (dY 2 (oE (fun η=>((aC (eV 1) aN) η).bind gL)))
  (cw (sWh (bT (l2 pNe (l2 pIx (lA i8 (aC (eV 0) (aC (l2 pIx (eV 2) (eC (.int 0))) aN))) (eC (.int 1))) (eC (.str "")))) (dY 2 (l2 aG (oE (fun η=>((aC (l2 pIx (lA i8 (aC (eV 0) (aC (l2 pIx (eV 2) (eC (.int 0))) aN))) (eC (.int 1))) aN) η).bind gL)) (eV 2))) 13)
  (f9 (eV 2))))
include tx jP ng in
theorem vQ:FnOk Pr w K mg base CX0 (k+1) t.fG t.fq i0 (spP K (b9 2 3 (nr i8))) :=
 fnP tx.b0 l7 fun _ _ _ _ _ _ _ hr =>
  (@a7 _ _ _ _ _ _ (g6 2 l7.nd (bb (bt (ab (av 1) am))))
  (@a7 _ _ _ _ _ _ (S.while 13 PassesOwn.never (T.ne hr (cM (aP jP hr ng tx.r9 tx.bM.kp tx.sA (ab (av 0) (ab (cM (av 2) ao) am))) ao) aX) (@bn _ _ _ _ (g6 2 l7.nd (bP (bb (bt (ab (cM (aP jP hr ng tx.r9 tx.bM.kp tx.sA (ab (av 0) (ab (cM (av 2) ao) am))) ao) am))) (av 2)))))
  (@bn _ _ _ _ (g7 (av 2)))))
noncomputable abbrev ti:List Str:=["_law_scene_here", "_law_x", "_law_y", "_law_some"]
theorem mf:aI ti fe (aj mW):=bR
noncomputable def j8 (jZ:PFn) (d6:PFn):En→Option Out :=
 (cw (dY 3 (lA jZ (aC (eV 0) (aC (eV 1) (aC (eV 2) aN)))))
  (f9 (vIf (bT (l2 pNe (eV 3) (oE (fun η=>(aN η).bind gL)))) (lA d6 (aC (eV 0) (aC (l2 pIx (eV 3) (eC (.int 0))) aN))) (oE (fun η=>(aN η).bind gL)))))
include tx kW qa fM jU in
theorem rF:FnOk Pr w K mg base CX0 (k+1) t.cH t.cE fe (spP K (b9 3 4 (j8 jZ d6))) :=
 fnP tx.ax mf fun _ _ _ _ _ _ _ hr =>
  (@a7 _ _ _ _ _ _ (g6 3 mf.nd (aP kW hr qa tx.wW tx.fN.kp tx.xt (ab (av 0) (ab (av 1) (ab (av 2) am)))))
  (@bn _ _ _ _ (g7 (E.ifE (T.ne hr (av 3) (bb (bt am))) (aP fM hr jU tx.qG tx.b0.kp tx.qX (ab (av 0) (ab (cM (av 3) ao) am))) (bb (bt am))))))
noncomputable abbrev oC:List Str:=["_law_hand_here", "_law_path_here", "_law_same", "_law_found"]
theorem ko:aI oC jK (aj lG):=bR
noncomputable def oq  : Wd→Option MOut :=
 (aH (bI 2 (mP (eC (.int 0))))
  (aH (mWh (mCh pEq pNe (mSl (cQ (mV 0) (mP (eC (.str "over")))) (pS (eV 2)) (pS (l2 aG (eV 2) (eC (.int 1))))) (mP (eSl (eV 1) (pS (eV 2)) (pS (l2 aG (eV 2) (eC (.int 1)))))) (mP (oE (fun η=>(aN η).bind gL)))) (bI 2 (mP (l2 aG (eV 2) (eC (.int 1))))) 13)
  (aH (bI 3 (mOp aG (mFz (mcL [none] (iM (mRv (mSl (cQ (mV 0) (mP (eC (.str "over")))) (pS (eV 2)) pN) (l1 pA (eC (.int 1))))) [0] (tgN 0) uJ (mP (lA (fun ds=>if ds.length≤sizeLine then some (.tuple ds) else none) (aC (eC (.str "leave")) (aC (eV 0) aN)))))) (mP (oE (bH [none] (lI asL (eSl (eV 1) (pS (eV 2)) pN)) (tgN 0) dM (lA (fun ds=>if ds.length≤sizeLine then some (.tuple ds) else none) (aC (eC (.str "enter")) (aC (eV 0) aN))))))))
  (aH (gW (mV 0) (mP (eC (.str "over"))) (mP (eV 1)))
  (fU (mP (eV 3)))))))
include tx in
theorem wP:FnOk Pr w K mg base CX0 (k+1) t.gy t.gk jK (spM K (cl t) (dN 2 4 (oq))) :=
 fnM tx.bf ko fun _ _ _ _ _ _ hr =>
  (@ag _ _ _ _ _ _ (bC 2 ko.nd (ac fun _=>ao))
  (@ag _ _ _ _ _ _ (MS.while 13 PassesOwn.never (MT.eqNe hr (ME.sl (eO hr (bc 0) (ac fun _=>aX)) (fun _=>kh (av 2)) (fun _=>kh (bP (av 2) ao))) (ac fun _=>(E.sl (av 1) (kh (av 2)) (kh (bP (av 2) ao)))) (ac fun _=>(bb (bt am)))) (@aJ _ _ _ _ (bC 2 ko.nd (ac fun _=>(bP (av 2) ao)))))
  (@ag _ _ _ _ _ _ (bC 3 ko.nd (ME.add (nE (ME.lcomp (N':=["_law_name"]) (mp:=[none]) rfl (aZ oC (aj lG) rfl rfl (by decide +kernel)) (aF (i:=0)) (by decide) (MI.list (ME.slRev (ME.sl (eO hr (bc 0) (ac fun _=>aX)) (fun _=>kh (av 2)) (fun _=>P.none)) (fun _=>(qf ao)))) (fun _ _ _=>⟨(aQ (i:=0) (show (["_law_name"]:List Str).Nodup by decide +kernel) rfl (Or.inl rfl) (.inr rfl)),MTs.nil,(ac fun _=>(f7 (ab aX (ab (av 0) am))))⟩))) (ac fun _=>(bb (f6 (N':=["_law_name"]) (mp:=[none]) rfl (aZ oC (aj lG) rfl rfl (by decide +kernel)) (aF (i:=0)) (by decide) (I.list (E.sl (av 1) (kh (av 2)) P.none)) (fun _ _ _=>⟨(aQ (i:=0) (show (["_law_name"]:List Str).Nodup by decide +kernel) rfl (Or.inl rfl) (.inr rfl)),Ts.nil,(f7 (ab aX (ab (av 0) am)))⟩))))))
  (@ag _ _ _ _ _ _ (MS.putC hr (bc 0) (ac fun _=>aX) (ac fun _=>(av 1)))
  (@aJ _ _ _ _ (cq (ac fun _=>(av 3))))))))
noncomputable abbrev md:List Str:=["_law_scene_here", "_law_hand_here", "_law_way", "_law_moment", "_law_x", "_law_y", "_law_path_here", "_law_found", "_law_both"]
theorem eY:aI md iz (aj jR):=bR
noncomputable def b7 (gG:PFn) (g0:DFn):Wd→Option MOut :=
 (aH (bI 6 (mP (lA gG (aC (eV 0) (aC (eV 4) (aC (eV 5) aN))))))
  (aH (mIf (tPv (bT (l2 pEq (eV 2) (eC (.int 0))))) (aH (mIf (mB (dP (iD true) (cQ (mV 1) (mP (eC (.str "held")))) (mP (eC .none)))) (fU (mFz (xT (maC (mq (maC (mP (eC (.str "move"))) (maC (cQ (mV 1) (mP (eC (.str "held")))) maN))) maN)))) mNx)
  (fU (mOp aG (la g0 (maC (mV 1) (maC (mP (eV 6)) maN))) (mP (oE (bH [none] (lI asL (eSl (eV 6) (pS (l1 pA (eC (.int 1)))) pN)) (tgN 0) dM (lA (fun ds=>if ds.length≤sizeLine then some (.tuple ds) else none) (aC (eC (.str "move")) (aC (eV 0) aN))))))))) mNx)
  (aH (mIf (tPv (bT (l2 pEq (eV 2) (eC (.int 1))))) (aH (bI 7 (mP (oE (fun η=>(aN η).bind gL))))
  (aH (mIf (mB (dP (iD true) (cQ (mV 1) (mP (eC (.str "pressed")))) (mP (eC .none)))) (fU (mP (oE (fun η=>(aN η).bind gL)))) mNx)
  (aH (gW (mV 1) (mP (eC (.str "pressed"))) (mP (eV 6)))
  (aH (mIf (mB (dP (iD false) (cQ (mV 1) (mP (eC (.str "held")))) (mP (eC .none)))) (aH (bI 7 (la g0 (maC (mV 1) (maC (mP (eV 6)) maN))))
  (gW (mV 1) (mP (eC (.str "held"))) (mP (l2 pIx (l2 aG (eV 6) (oE (fun η=>((aC (eC .none) aN) η).bind gL))) (l2 tN (l1 pA (eC (.int 1))) (lA qA (aC (l2 pNe (eV 6) (oE (fun η=>(aN η).bind gL))) aN))))))) mNx)
  (fU (mOp aG (mP (eV 7)) (mFz (yk (xT (maC (mq (maC (mP (eC (.str "down"))) (maC (cQ (mV 1) (mP (eC (.str "held")))) maN))) maN)) (mCB qA (maC (dP (iD true) (cQ (mV 1) (mP (eC (.str "held")))) (mP (eC .none))) maN)))))))))) mNx)
  (aH (mIf (mB (dP (iD false) (cQ (mV 1) (mP (eC (.str "pressed")))) (mP (eC .none)))) (fU (mP (oE (fun η=>(aN η).bind gL)))) mNx)
  (aH (bI 7 (yk (xT (maC (mq (maC (mP (eC (.str "up"))) (maC (cQ (mV 1) (mP (eC (.str "held")))) maN))) maN)) (mCB qA (maC (dP (iD true) (cQ (mV 1) (mP (eC (.str "held")))) (mP (eC .none))) maN))))
  (aH (bI 8 (mcL [none,none,some 1,some 6] (iPu (fun η=>((aC (eV 6) aN) η).bind enL)) [0,1] (tgT (bU (tgN 0) (bU (tgN 1) kn))) (mB (dP pEq (mP (eSl (eV 3) pN (pS (l2 aG (eV 0) (eC (.int 1)))))) (mSl (cQ (mV 2) (mP (eC (.str "pressed")))) pN (pS (l2 aG (eV 0) (eC (.int 1))))))) (mP (eV 1))))
  (aH (gW (mV 1) (mP (eC (.str "pressed"))) (mP (eC .none)))
  (aH (gW (mV 1) (mP (eC (.str "held"))) (mP (eC .none)))
  (aH (mIf (mB (dP pNe (mV 8) (mP (oE (fun η=>(aN η).bind gL))))) (aH (qk (vA (mV 7) (mq (maC (mP (eC (.str "click"))) (maC (mOp pIx (mFz (mV 8)) (mP (l1 pA (eC (.int 1))))) maN)))))
  (mIf (oG (mB (dP (iD true) (cQ (mV 1) (mP (eC (.str "last")))) (mP (eC .none)))) (oG (mB (dP pEq (mOp pIx (cQ (mV 1) (mP (eC (.str "last")))) (mP (eC (.int 0)))) (mOp pIx (mFz (mV 8)) (mP (l1 pA (eC (.int 1))))))) (mB (dP pLe (mOp tN (mP (eV 3)) (mOp pIx (cQ (mV 1) (mP (eC (.str "last")))) (mP (eC (.int 1))))) (mP (eC (.int 20))))))) (aH (qk (vA (mV 7) (mq (maC (mP (eC (.str "double"))) (maC (mOp pIx (mFz (mV 8)) (mP (l1 pA (eC (.int 1))))) maN)))))
  (gW (mV 1) (mP (eC (.str "last"))) (mP (eC .none)))) (gW (mV 1) (mP (eC (.str "last"))) (mq (maC (mOp pIx (mFz (mV 8)) (mP (l1 pA (eC (.int 1))))) (maC (mP (eV 3)) maN)))))) mNx)
  (fU (mOp aG (mFz (mV 7)) (la g0 (maC (mV 1) (maC (mP (eV 6)) maN))))))))))))))
include tx iq my iI kJ in
theorem uP:FnOk Pr w K mg base CX0 (k+1) t.eD t.d8 iz (spM K (cl t) (dN 6 9 (b7 gG g0))) :=
 fnM tx.bz eY fun _ _ _ _ _ _ hr =>
  (@ag _ _ _ _ _ _ (bC 6 eY.nd (ac fun _=>(aP iq hr my tx.sP tx.ax.kp tx.sY (ab (av 0) (ab (av 4) (ab (av 5) am))))))
  (@ag _ _ _ _ _ _ (@fL _ _ _ _ _ _ _ _ _ (nC fun _=>(v9 hr (av 2) ao)) (@ag _ _ _ _ _ _ (@fL _ _ _ _ _ _ _ _ _ (MT.notN (eO hr (bc 1) (ac fun _=>aX)) (ac fun _=>dX)) (@aJ _ _ _ _ (cq (nE (ME.lstM (aq (ME.tupM (aq (ac fun _=>aX) (aq (eO hr (bc 1) (ac fun _=>aX)) bg))) bg))))) dg)
  (@aJ _ _ _ _ (cq (ME.add (ME.call iI hr kJ tx.oi tx.bf.kp tx.oA (aq (bc 1) (aq (ac fun _=>(av 6)) bg))) (ac fun _=>(bb (f6 (N':=["_law_name"]) (mp:=[none]) rfl (aZ md (aj jR) rfl rfl (by decide +kernel)) (aF (i:=0)) (by decide) (I.list (E.sl (av 6) (kh (qf ao)) P.none)) (fun _ _ _=>⟨(aQ (i:=0) (show (["_law_name"]:List Str).Nodup by decide +kernel) rfl (Or.inl rfl) (.inr rfl)),Ts.nil,(f7 (ab aX (ab (av 0) am)))⟩)))))))) dg)
  (@ag _ _ _ _ _ _ (@fL _ _ _ _ _ _ _ _ _ (nC fun _=>(v9 hr (av 2) ao)) (@ag _ _ _ _ _ _ (bC 7 eY.nd (ac fun _=>(bb (bt am))))
  (@ag _ _ _ _ _ _ (@fL _ _ _ _ _ _ _ _ _ (MT.notN (eO hr (bc 1) (ac fun _=>aX)) (ac fun _=>dX)) (@aJ _ _ _ _ (cq (ac fun _=>(bb (bt am))))) dg)
  (@ag _ _ _ _ _ _ (MS.putC hr (bc 1) (ac fun _=>aX) (ac fun _=>(av 6)))
  (@ag _ _ _ _ _ _ (@fL _ _ _ _ _ _ _ _ _ (MT.isN (eO hr (bc 1) (ac fun _=>aX)) (ac fun _=>dX)) (@ag _ _ _ _ _ _ (bC 7 eY.nd (ME.call iI hr kJ tx.oi tx.bf.kp tx.oA (aq (bc 1) (aq (ac fun _=>(av 6)) bg))))
  (@aJ _ _ _ _ (MS.putC hr (bc 1) (ac fun _=>aX) (ac fun _=>(cM (bP (av 6) (bb (bt (ab dX am)))) (E.sub (qf ao) (E.toInt tx.z_int (ab (E.ne hr (av 6) (bb (bt am))) am)))))))) dg)
  (@aJ _ _ _ _ (cq (ME.add (ac fun _=>(av 7)) (nE (ME.repC (ME.lstM (aq (ME.tupM (aq (ac fun _=>aX) (aq (eO hr (bc 1) (ac fun _=>aX)) bg))) bg)) (ME.toInt tx.z_int (aq (ME.notN (eO hr (bc 1) (ac fun _=>aX)) (ac fun _=>dX)) bg))))))))))) dg)
  (@ag _ _ _ _ _ _ (@fL _ _ _ _ _ _ _ _ _ (MT.isN (eO hr (bc 1) (ac fun _=>aX)) (ac fun _=>dX)) (@aJ _ _ _ _ (cq (ac fun _=>(bb (bt am))))) dg)
  (@ag _ _ _ _ _ _ (bC 7 eY.nd (ME.repC (ME.lstM (aq (ME.tupM (aq (ac fun _=>aX) (aq (eO hr (bc 1) (ac fun _=>aX)) bg))) bg)) (ME.toInt tx.z_int (aq (ME.notN (eO hr (bc 1) (ac fun _=>aX)) (ac fun _=>dX)) bg))))
  (@ag _ _ _ _ _ _ (MS.setM 8 (N':=["_law_k", "_law_one", "_law_hand_here", "_law_path_here"]) (mp:=[none,none,some 1,some 6]) rfl eY.nd (aZ md (aj jR) rfl rfl (by decide +kernel)) (TgP.tup (n:=2) (TgsP.cons (aF (i:=0)) (TgsP.cons (aF (i:=1)) TgsP.nil)) (tu)) (by decide) (MI.pu fun _=>(I.enumL rfl tx.z_enumerate (ab (av 6) am))) (fun _ _ _=>⟨(wG (n:=2) rfl (jE (aQ (i:=0) (show (["_law_k", "_law_one", "_law_hand_here", "_law_path_here"]:List Str).Nodup by decide +kernel) rfl (Or.inl rfl) (.inr rfl)) (jE (aQ (i:=1) (show (["_law_k", "_law_one", "_law_hand_here", "_law_path_here"]:List Str).Nodup by decide +kernel) rfl (Or.inl rfl) (.inr rfl)) tK))),(MTs.one (MT.eq hr (ac fun _=>(E.sl (av 3) P.none (kh (bP (av 0) ao)))) (ME.sl (eO hr (bc 2) (ac fun _=>aX)) (fun _=>P.none) (fun _=>kh (bP (av 0) ao))))),(ac fun _=>(av 1))⟩))
  (@ag _ _ _ _ _ _ (MS.putC hr (bc 1) (ac fun _=>aX) (ac fun _=>dX))
  (@ag _ _ _ _ _ _ (MS.putC hr (bc 1) (ac fun _=>aX) (ac fun _=>dX))
  (@ag _ _ _ _ _ _ (@fL _ _ _ _ _ _ _ _ _ (MT.ne hr (bc 8) (ac fun _=>(bb (bt am)))) (@ag _ _ _ _ _ _ (MS.exp (ME.appC (bc 7) (ME.tupM (aq (ac fun _=>aX) (aq (ME.at (nE (bc 8)) (ac fun _=>(qf ao))) bg)))))
  (@aJ _ _ _ _ (@fL _ _ _ _ _ _ _ _ _ (MTW.t (MTW.and (MT.notN (eO hr (bc 1) (ac fun _=>aX)) (ac fun _=>dX)) (MTW.and (MT.eq hr (ME.at (eO hr (bc 1) (ac fun _=>aX)) (ac fun _=>ao)) (ME.at (nE (bc 8)) (ac fun _=>(qf ao)))) (MTW.and1 (MT.le (ME.sub (ac fun _=>(av 3)) (ME.at (eO hr (bc 1) (ac fun _=>aX)) (ac fun _=>ao))) (ac fun _=>ao)))))) (@ag _ _ _ _ _ _ (MS.exp (ME.appC (bc 7) (ME.tupM (aq (ac fun _=>aX) (aq (ME.at (nE (bc 8)) (ac fun _=>(qf ao))) bg)))))
  (@aJ _ _ _ _ (MS.putC hr (bc 1) (ac fun _=>aX) (ac fun _=>dX)))) (@aJ _ _ _ _ (MS.putC hr (bc 1) (ac fun _=>aX) (ME.tupM (aq (ME.at (nE (bc 8)) (ac fun _=>(qf ao))) (aq (ac fun _=>(av 3)) bg)))))))) dg)
  (@aJ _ _ _ _ (cq (ME.add (nE (bc 7)) (ME.call iI hr kJ tx.oi tx.bf.kp tx.oA (aq (bc 1) (aq (ac fun _=>(av 6)) bg)))))))))))))))
noncomputable abbrev rW:List Str:=["self"]
theorem qp:aI rW eL (aj mk):=bR
noncomputable def gF  : Wd→Option MOut :=
 (aH (km 0 "trail" (mV 0) (mP (oE (fun η=>(aN η).bind gL))))
  (aH (km 0 "pressed_at" (mV 0) (mP (eC .none)))
  (aH (km 0 "held_by" (mV 0) (mP (eC .none)))
  (aH (km 0 "clicked" (mV 0) (mP (eC .none)))
  (aH (km 0 "clicked_moment" (mV 0) (mP (eC (.int 0))))
  (km 0 "was_double" (mV 0) (mP (eC (.bool false)))))))))
include tx in
theorem qE:FnOk Pr w K mg base CX0 (k+1) t.cn t.cg eL (spM K (cl t) (dN 1 1 (gF))) :=
 fnM tx.cr qp fun _ _ _ _ _ _ hr =>
  (@ag _ _ _ _ _ _ (gB (k:=0) (bc 0) (ac fun _=>(bb (bt am))) tx.na_Hand_trail)
  (@ag _ _ _ _ _ _ (gB (k:=0) (bc 0) (ac fun _=>dX) tx.na_Hand_pressed_at)
  (@ag _ _ _ _ _ _ (gB (k:=0) (bc 0) (ac fun _=>dX) tx.na_Hand_held_by)
  (@ag _ _ _ _ _ _ (gB (k:=0) (bc 0) (ac fun _=>dX) tx.na_Hand_clicked)
  (@ag _ _ _ _ _ _ (gB (k:=0) (bc 0) (ac fun _=>ao) tx.na_Hand_clicked_moment)
  (@aJ _ _ _ _ (gB (k:=0) (bc 0) (ac fun _=>E.bl) tx.na_Hand_was_double)))))))
noncomputable abbrev rV:List Str:=["self", "hand"]
theorem qo:aI rV eJ (aj mj):=bR
noncomputable def jB (fY:DFn):Wd→Option MOut :=
 (fU (Ey (rL (mV 0) "known") (mP (eV 1)) (vz 0 fY maN)))
include tx gJ lX in
theorem qD:FnOk Pr w K mg base CX0 (k+1) t.cm t.cf eJ (spM K (cl t) (dN 2 2 (jB fY))) :=
 fnM tx.ar qo fun _ _ _ _ _ _ hr =>
  (@aJ _ _ _ _ (cq (ME.setdef (ME.fld (bc 0)) (ac fun _=>(av 1)) (ME.make0 (kc:=0) tx.cl_Hand tx.mk_Hand gJ hr lX tx.mg_Hand tx.rP))))
noncomputable abbrev pP:List Str:=["self", "word"]
theorem oI:aI pP cU (aj ku):=bR
noncomputable def hV  : Wd→Option MOut :=
 (fU (IT (tPv (bT (l2 (iD false) (gd 0 "held_by") (eC .none)))) (mN (fun η=>(aN η).bind gL)) (mN (fun η=>((aC (lA (fun ds=>if ds.length≤sizeLine then some (.tuple ds) else none) (aC (eV 1) (aC (gd 0 "held_by") aN))) aN) η).bind gL))))
include tx in
theorem oT:FnOk Pr w K mg base CX0 (k+1) t.bG t.bF cU (spM K (cl t) (dN 2 2 (hV))) :=
 fnM tx.aB oI fun _ _ _ _ _ _ hr =>
  (@aJ _ _ _ _ (cq (ME.ifx (nC fun _=>(T.isN (jy 0) dX)) (ME.nw fun _=>(bt am)) (ME.nw fun _=>(bt (ab (f7 (ab (av 1) (ab (jy 0) am))) am))))))
noncomputable abbrev sC:List Str:=["scene", "name"]
theorem wy:aI sC jJ (aj n8):=bR
noncomputable def lK  : En→Option Out :=
 (f9 (oE (bH [none,some 1] (lI oB (eV 0)) (tgN 0) (bT (l2 pEq (l2 pIx (eV 0) (eC (.int 1))) (eV 1))) (l2 pIx (eV 0) (eC (.int 0))))))
include tx in
theorem wO:FnOk Pr w K mg base CX0 (k+1) t.gx t.gj jJ (spP K (b9 2 2 (lK))) :=
 fnP tx.br wy fun _ _ _ _ _ _ _ hr =>
  (@bn _ _ _ _ (g7 (bb (f6 (N':=["box", "name"]) (mp:=[none,some 1]) rfl (aZ sC (aj n8) rfl rfl (by decide +kernel)) (aF (i:=0)) (by decide) (I.tup (av 0)) (fun _ _ _=>⟨(aQ (i:=0) (show (["box", "name"]:List Str).Nodup by decide +kernel) rfl (Or.inl rfl) (.inr rfl)),(Ts.one (v9 hr (cM (av 0) (j5 tx.c_AROUND)) (av 1))),(cM (av 0) (j5 tx.c_NAME))⟩)))))
noncomputable abbrev A2:List Str:=["scene", "name", "box"]
theorem tD:aI A2 lT (aj vp):=bR
noncomputable def nX  : En→Option Out :=
 (cw (pz (lI oB (eV 0)) (tgN 2)
  (sIf (bT (l2 pEq (l2 pIx (eV 2) (eC (.int 0))) (eV 1))) (f9 (eV 2)) sNx))
  (fun _=>none))
include tx in
theorem yW:FnOk Pr w K mg base CX0 (k+1) t.jf t.jb lT (spP K (b9 2 3 (nX))) :=
 fnP tx.aL tD fun _ _ _ _ _ _ _ hr =>
  (@a7 _ _ _ _ _ _ (@S.for _ _ _ _ _ _ _ _ _ _ _ PassesOwn.never rfl (I.tup (av 0)) (aQ (i:=2) tD.nd rfl (by first | exact Or.inl rfl | exact Or.inr rfl) ) (aF (i:=2))
  (@bn _ _ _ _ (@S.ifS _ _ _ _ _ _ _ _ _ (v9 hr (cM (av 2) (j5 tx.c_NAME)) (av 1)) (@bn _ _ _ _ (g7 (av 2))) Ss.nil)) (fun _=>rfl))
  (@bn _ _ _ _ S.never))
noncomputable abbrev BL:List Str:=["scene", "name", "names", "child"]
theorem qm:aI BL mZ (aj wB):=bR
noncomputable def pM (bq:PFn) (fk:PFn) (i7:PFn):En→Option Out :=
 (cw (ml 2 (fun η=>((aC (l2 pIx (lA bq (aC (eV 0) (aC (eV 1) aN))) (eC (.int 0))) aN) η).bind gL))
  (cw (pz (lI asL (lA fk (aC (eV 0) (aC (eV 1) aN)))) (tgN 3)
  (wC 2 (lI asL (lA i7 (aC (eV 0) (aC (eV 3) aN))))))
  (zT 2)))
include tx bD cW gC kI ki nP in
theorem Af:FnOk Pr w K mg base CX0 (k+1) t.kg t.kf mZ (spP K (b9 2 4 (pM bq fk i7))) :=
 fnP tx.dI qm fun _ _ _ _ _ _ _ hr =>
  (@a7 _ _ _ _ _ _ (S.setO 2 qm.nd (bt (ab (cM (aP bD hr cW tx.kj tx.aL.kp tx.kl (ab (av 0) (ab (av 1) am))) (j5 tx.c_NAME)) am)))
  (@a7 _ _ _ _ _ _ (@S.for _ _ _ _ _ _ _ _ _ _ _ PassesOwn.never rfl (I.list (aP gC hr kI tx.r8 tx.br.kp tx.sy (ab (av 0) (ab (av 1) am)))) (aQ (i:=3) qm.nd rfl (by first | exact Or.inl rfl | exact Or.inr rfl) ) (aF (i:=3))
  (@bn _ _ _ _ (S.ext 2 (aP ki hr nP tx.wV tx.dI.kp tx.xr (ab (av 0) (ab (av 3) am))))) (fun _=>rfl))
  (@bn _ _ _ _ (S.retO 2))))
noncomputable abbrev zx:List Str:=["scene", "names", "name"]
theorem n4:aI zx kz (aj tH):=bR
noncomputable def mJ (fk:PFn) (i7:PFn):En→Option Out :=
 (cw (ml 1 (fun η=>(aN η).bind gL))
  (cw (pz (lI asL (lA fk (aC (eV 0) (aC (eC (.str "")) aN)))) (tgN 2)
  (wC 1 (lI asL (lA i7 (aC (eV 0) (aC (eV 2) aN))))))
  (zT 1)))
include tx gC kI ki nP in
theorem xL:FnOk Pr w K mg base CX0 (k+1) t.ij t.ia kz (spP K (b9 1 3 (mJ fk i7))) :=
 fnP tx.dQ n4 fun _ _ _ _ _ _ _ hr =>
  (@a7 _ _ _ _ _ _ (S.setO 1 n4.nd (bt am))
  (@a7 _ _ _ _ _ _ (@S.for _ _ _ _ _ _ _ _ _ _ _ PassesOwn.never rfl (I.list (aP gC hr kI tx.r8 tx.br.kp tx.sy (ab (av 0) (ab aX am)))) (aQ (i:=2) n4.nd rfl (by first | exact Or.inl rfl | exact Or.inr rfl) ) (aF (i:=2))
  (@bn _ _ _ _ (S.ext 1 (aP ki hr nP tx.wV tx.dI.kp tx.xr (ab (av 0) (ab (av 2) am))))) (fun _=>rfl))
  (@bn _ _ _ _ (S.retO 1))))
noncomputable abbrev zw:List Str:=["scene", "name", "around"]
theorem rX:aI zw kx (aj tG):=bR
noncomputable def mI (bq:PFn) (bj:PFn):En→Option Out :=
 (cw (dY 2 (l2 pIx (lA bq (aC (eV 0) (aC (eV 1) aN))) (eC (.int 1))))
  (cw (sIf (bT (l2 pEq (eV 2) (eC (.str "")))) (f9 (oE (fun η=>((aC (eV 1) aN) η).bind gL))) sNx)
  (f9 (l2 aG (lA bj (aC (eV 0) (aC (eV 2) aN))) (oE (fun η=>((aC (eV 1) aN) η).bind gL))))))
include tx bD cW bu cR in
theorem xK:FnOk Pr w K mg base CX0 (k+1) t.ii t.h9 kx (spP K (b9 2 3 (mI bq bj))) :=
 fnP tx.aK rX fun _ _ _ _ _ _ _ hr =>
  (@a7 _ _ _ _ _ _ (g6 2 rX.nd (cM (aP bD hr cW tx.kj tx.aL.kp tx.kl (ab (av 0) (ab (av 1) am))) (j5 tx.c_AROUND)))
  (@a7 _ _ _ _ _ _ (@S.ifS _ _ _ _ _ _ _ _ _ (v9 hr (av 2) aX) (@bn _ _ _ _ (g7 (bb (bt (ab (av 1) am))))) Ss.nil)
  (@bn _ _ _ _ (g7 (bP (aP bu hr cR tx.kE tx.aK.kp tx.kR (ab (av 0) (ab (av 2) am))) (bb (bt (ab (av 1) am))))))))
noncomputable abbrev xZ:List Str:=["scene", "name", "mark"]
theorem wx:aI xZ jH (aj rZ):=bR
noncomputable def on (bq:PFn):En→Option Out :=
 (f9 (l2 (pIn false) (eV 2) (l2 pIx (lA bq (aC (eV 0) (aC (eV 1) aN))) (eC (.int 6)))))
include tx bD cW in
theorem wM:FnOk Pr w K mg base CX0 (k+1) t.gu t.gh jH (spP K (b9 3 3 (on bq))) :=
 fnP tx.ba wx fun _ _ _ _ _ _ _ hr =>
  (@bn _ _ _ _ (g7 (E.in (av 2) (cM (aP bD hr cW tx.kj tx.aL.kp tx.kl (ab (av 0) (ab (av 1) am))) (j5 tx.c_MARKS)))))
noncomputable abbrev sB:List Str:=["scene", "name"]
theorem ww:aI sB jF (aj n6):=bR
noncomputable def ol (bj:PFn) (cz:PFn):En→Option Out :=
 (f9 (CU (lA Ei (aC (oE (bH [none,some 0] (lI asL (lA bj (aC (eV 0) (aC (eV 1) aN)))) (tgN 0) dM (lA cz (aC (eV 1) (aC (eV 0) (aC (eC (.str "h")) aN)))))) aN))))
include tx bu cR cT gY in
theorem wK:FnOk Pr w K mg base CX0 (k+1) t.gp t.gf jF (spP K (b9 2 2 (ol bj cz))) :=
 fnP tx.eW ww fun _ _ _ _ _ _ _ hr =>
  (@bn _ _ _ _ (g7 (E.not (E.any rfl tx.z_any (ab (bb (f6 (N':=["step", "scene"]) (mp:=[none,some 0]) rfl (aZ sB (aj n6) rfl rfl (by decide +kernel)) (aF (i:=0)) (by decide) (I.list (aP bu hr cR tx.kE tx.aK.kp tx.kR (ab (av 0) (ab (av 1) am)))) (fun _ _ _=>⟨(aQ (i:=0) (show (["step", "scene"]:List Str).Nodup by decide +kernel) rfl (Or.inl rfl) (.inr rfl)),Ts.nil,(aP cT hr gY tx.oh tx.ba.kp tx.oz (ab (av 1) (ab (av 0) (ab (E.globS tx.c_HIDDEN) am))))⟩))) am)))))
noncomputable abbrev mM:List Str:=["scene", "name", "path", "left", "top", "last"]
theorem jD:aI mM kC (aj kt):=bR
noncomputable def mK (bj:PFn) (bq:PFn):En→Option Out :=
 (cw (ml 2 (bH [none,some 0] (lI asL (lA bj (aC (eV 0) (aC (eV 1) aN)))) (tgN 0) dM (lA bq (aC (eV 1) (aC (eV 0) aN)))))
  (fun η=>(cw (dY 3 (lA yO (aC (oE (bH [none] (lI asL (eV 2)) (tgN 0) dM (l2 pIx (eV 0) (eC (.int 2))))) aN)))
  (cw (dY 4 (lA yO (aC (oE (bH [none] (lI asL (eV 2)) (tgN 0) dM (l2 pIx (eV 0) (eC (.int 3))))) aN)))
  (cw (dY 5 (lA bq (aC (eV 0) (aC (eV 1) aN))))
  (f9 (lA (fun ds=>if ds.length≤sizeLine then some (.tuple ds) else none) (aC (eV 3) (aC (eV 4) (aC (l2 aG (eV 3) (l2 pIx (eV 5) (eC (.int 4)))) (aC (l2 aG (eV 4) (l2 pIx (eV 5) (eC (.int 5)))) aN))))))))) (frz 2 η)))
include tx bD cW bu cR in
theorem xO:FnOk Pr w K mg base CX0 (k+1) t.im t.ie kC (spP K (b9 2 6 (mK bj bq))) :=
 fnP tx.cC jD fun _ _ _ _ _ _ _ hr =>
  (@a7 _ _ _ _ _ _ (S.setC 2 (N':=["step", "scene"]) (mp:=[none,some 0]) rfl jD.nd (aZ mM (aj kt) rfl rfl (by decide +kernel)) (aF (i:=0)) (by decide) (I.list (aP bu hr cR tx.kE tx.aK.kp tx.kR (ab (av 0) (ab (av 1) am)))) (fun _ _ _=>⟨(aQ (i:=0) (show (["step", "scene"]:List Str).Nodup by decide +kernel) rfl (Or.inl rfl) (.inr rfl)),Ts.nil,(aP bD hr cW tx.kj tx.aL.kp tx.kl (ab (av 1) (ab (av 0) am)))⟩))
  (@Ss.frz _ _ _ _ 2 (@a7 _ _ _ _ _ _ (g6 3 jD.nd (E.sum rfl tx.z_sum (ab (bb (f6 (N':=["box"]) (mp:=[none]) rfl (aZ mM (aj kt) rfl rfl (by decide +kernel)) (aF (i:=0)) (by decide) (I.list (av 2)) (fun _ _ _=>⟨(aQ (i:=0) (show (["box"]:List Str).Nodup by decide +kernel) rfl (Or.inl rfl) (.inr rfl)),Ts.nil,(cM (av 0) (j5 tx.c_LEFT))⟩))) am)))
  (@a7 _ _ _ _ _ _ (g6 4 jD.nd (E.sum rfl tx.z_sum (ab (bb (f6 (N':=["box"]) (mp:=[none]) rfl (aZ mM (aj kt) rfl rfl (by decide +kernel)) (aF (i:=0)) (by decide) (I.list (av 2)) (fun _ _ _=>⟨(aQ (i:=0) (show (["box"]:List Str).Nodup by decide +kernel) rfl (Or.inl rfl) (.inr rfl)),Ts.nil,(cM (av 0) (j5 tx.c_TOP))⟩))) am)))
  (@a7 _ _ _ _ _ _ (g6 5 jD.nd (aP bD hr cW tx.kj tx.aL.kp tx.kl (ab (av 0) (ab (av 1) am))))
  (@bn _ _ _ _ (g7 (f7 (ab (av 3) (ab (av 4) (ab (bP (av 3) (cM (av 5) (j5 tx.c_WIDTH))) (ab (bP (av 4) (cM (av 5) (j5 tx.c_HEIGHT))) am))))))))))))
noncomputable abbrev zy:List Str:=["one", "other", "left", "top"]
theorem n5:aI zy kA (aj tJ):=bR
noncomputable def pK  : En→Option Out :=
 (cw (dY 2 (lA Gs (aC (l2 pIx (eV 0) (eC (.int 0))) (aC (l2 pIx (eV 1) (eC (.int 0))) aN))))
  (cw (dY 3 (lA Gs (aC (l2 pIx (eV 0) (eC (.int 1))) (aC (l2 pIx (eV 1) (eC (.int 1))) aN))))
  (f9 (lA (fun ds=>if ds.length≤sizeLine then some (.tuple ds) else none) (aC (eV 2) (aC (eV 3) (aC (lA Gq (aC (l2 pIx (eV 0) (eC (.int 2))) (aC (l2 pIx (eV 1) (eC (.int 2))) aN))) (aC (lA Gq (aC (l2 pIx (eV 0) (eC (.int 3))) (aC (l2 pIx (eV 1) (eC (.int 3))) aN))) aN))))))))
include tx in
theorem xM:FnOk Pr w K mg base CX0 (k+1) t.ik t.ib kA (spP K (b9 2 4 (pK))) :=
 fnP tx.eP n5 fun _ _ _ _ _ _ _ hr =>
  (@a7 _ _ _ _ _ _ (g6 2 n5.nd (E.max rfl tx.z_max (ab (cM (av 0) ao) (ab (cM (av 1) ao) am))))
  (@a7 _ _ _ _ _ _ (g6 3 n5.nd (E.max rfl tx.z_max (ab (cM (av 0) ao) (ab (cM (av 1) ao) am))))
  (@bn _ _ _ _ (g7 (f7 (ab (av 2) (ab (av 3) (ab (E.min rfl tx.z_min (ab (cM (av 0) ao) (ab (cM (av 1) ao) am))) (ab (E.min rfl tx.z_min (ab (cM (av 0) ao) (ab (cM (av 1) ao) am))) am)))))))))
noncomputable abbrev xy:List Str:=["scene", "name", "window", "step"]
theorem jQ:aI xy iY (aj qq):=bR
noncomputable def nn (jO:PFn) (bj:PFn) (cz:PFn) (lM:PFn):En→Option Out :=
 (cw (dY 2 (lA jO (aC (eV 0) (aC (eV 1) aN))))
  (cw (pz (lI asL (lA bj (aC (eV 0) (aC (eV 1) aN)))) (tgN 3)
  (sIf (bT (lA cz (aC (eV 0) (aC (eV 3) (aC (eC (.str "c")) aN))))) (dY 2 (lA lM (aC (eV 2) (aC (lA jO (aC (eV 0) (aC (eV 3) aN))) aN)))) sNx))
  (f9 (eV 2))))
include tx bu cR cT gY kU oj mQ sv in
theorem vO:FnOk Pr w K mg base CX0 (k+1) t.fE t.fm iY (spP K (b9 2 4 (nn jO bj cz lM))) :=
 fnP tx.dS jQ fun _ _ _ _ _ _ _ hr =>
  (@a7 _ _ _ _ _ _ (g6 2 jQ.nd (aP kU hr oj tx.ud tx.cC.kp tx.ux (ab (av 0) (ab (av 1) am))))
  (@a7 _ _ _ _ _ _ (@S.for _ _ _ _ _ _ _ _ _ _ _ PassesOwn.never rfl (I.list (aP bu hr cR tx.kE tx.aK.kp tx.kR (ab (av 0) (ab (av 1) am)))) (aQ (i:=3) jQ.nd rfl (by first | exact Or.inl rfl | exact Or.inr rfl) ) (aF (i:=3))
  (@bn _ _ _ _ (@S.ifS _ _ _ _ _ _ _ _ _ (T.val (aP cT hr gY tx.oh tx.ba.kp tx.oz (ab (av 0) (ab (av 3) (ab (E.globS tx.c_CUTS_OFF) am))))) (@bn _ _ _ _ (g6 2 jQ.nd (aP mQ hr sv tx.yZ tx.eP.kp tx.zq (ab (av 2) (ab (aP kU hr oj tx.ud tx.cC.kp tx.ux (ab (av 0) (ab (av 3) am))) am))))) Ss.nil)) (fun _=>rfl))
  (@bn _ _ _ _ (g7 (av 2)))))
noncomputable abbrev qZ:List Str:=["scene", "names"]
theorem tw:aI qZ lR (aj nI):=bR
noncomputable def qS (lL:PFn) (kO:PFn) (cz:PFn) (jX:PFn):En→Option Out :=
 (cw (ml 1 (bH [none,some 0] (fun η=>((aC (lA lL (aC (eV 0) aN)) aN) η).bind rvS) (tgN 0) (bT (lA kO (aC (eV 1) (aC (eV 0) aN)))) (eV 0)))
  (fun η=>(f9 (oE (bH [none,some 0] (lI asL (eV 1)) (tgN 0) (BG (bT (lA cz (aC (eV 1) (aC (eV 0) (aC (eC (.str "l")) aN)))))) (lA (fun ds=>if ds.length≤sizeLine then some (.tuple ds) else none) (aC (eV 0) (aC (lA jX (aC (eV 1) (aC (eV 0) aN))) aN)))))) (frz 1 η)))
include tx cT gY mO su lN qP kS p8 in
theorem yU:FnOk Pr w K mg base CX0 (k+1) t.jd t.i9 lR (spP K (b9 1 2 (qS lL kO cz jX))) :=
 fnP tx.ji tw fun _ _ _ _ _ _ _ hr =>
  (@a7 _ _ _ _ _ _ (S.setC 1 (N':=["name", "scene"]) (mp:=[none,some 0]) rfl tw.nd (aZ qZ (aj nI) rfl rfl (by decide +kernel)) (aF (i:=0)) (by decide) (I.rev rfl tx.z_reversed (ab (aP mO hr su tx.yY tx.dQ.kp tx.zp (ab (av 0) am)) am)) (fun _ _ _=>⟨(aQ (i:=0) (show (["name", "scene"]:List Str).Nodup by decide +kernel) rfl (Or.inl rfl) (.inr rfl)),(Ts.one (T.val (aP lN hr qP tx.xQ tx.eW.kp tx.xV (ab (av 1) (ab (av 0) am))))),(av 0)⟩))
  (@Ss.frz _ _ _ _ 1 (@bn _ _ _ _ (g7 (bb (f6 (N':=["name", "scene"]) (mp:=[none,some 0]) rfl (aZ qZ (aj nI) rfl rfl (by decide +kernel)) (aF (i:=0)) (by decide) (I.list (av 1)) (fun _ _ _=>⟨(aQ (i:=0) (show (["name", "scene"]:List Str).Nodup by decide +kernel) rfl (Or.inl rfl) (.inr rfl)),(Ts.one (T.not (T.val (aP cT hr gY tx.oh tx.ba.kp tx.oz (ab (av 1) (ab (av 0) (ab (E.globS tx.c_LETS_BY) am))))))),(f7 (ab (av 0) (ab (aP kS hr p8 tx.wT tx.dS.kp tx.xp (ab (av 1) (ab (av 0) am))) am)))⟩)))))))
noncomputable abbrev xz:List Str:=["area", "x", "y"]
theorem vL:aI xz iZ (aj qr):=bR
noncomputable def nq  : En→Option Out :=
 (f9 (zE (lch pLe pLt (l2 pIx (eV 0) (eC (.int 0))) (eV 1) (l2 pIx (eV 0) (eC (.int 2)))) (lch pLe pLt (l2 pIx (eV 0) (eC (.int 1))) (eV 2) (l2 pIx (eV 0) (eC (.int 3))))))
include tx in
theorem vP:FnOk Pr w K mg base CX0 (k+1) t.fF t.fo iZ (spP K (b9 3 3 (nq))) :=
 fnP tx.bA vL fun _ _ _ _ _ _ _ hr =>
  (@bn _ _ _ _ (g7 (E.and (E.chain yj (pi fun _ _ _=>dZ) Cj (pi fun _ _ _=>dZ) (cM (av 0) ao) (av 1) (cM (av 0) ao)) (E.one (E.chain yj (pi fun _ _ _=>dZ) Cj (pi fun _ _ _=>dZ) (cM (av 0) ao) (av 2) (cM (av 0) ao))))))
noncomputable abbrev ya:List Str:=["rows", "x", "y", "name", "window"]
theorem mR:aI ya jI (aj r6):=bR
noncomputable def jN (jY:PFn):En→Option Out :=
 (cw (pz (lI asL (eV 0)) (tgT (bU (tgN 3) (bU (tgN 4) kn)))
  (sIf (bT (lA jY (aC (eV 4) (aC (eV 1) (aC (eV 2) aN))))) (f9 (eV 3)) sNx))
  (f9 (eC .none)))
include tx kT p9 in
theorem wN:FnOk Pr w K mg base CX0 (k+1) t.gw t.gi jI (spP K (b9 3 5 (jN jY))) :=
 fnP tx.gD mR fun _ _ _ _ _ _ _ hr =>
  (@a7 _ _ _ _ _ _ (@S.for _ _ _ _ _ _ _ _ _ _ _ PassesOwn.never rfl (I.list (av 0)) (wG (n:=2) rfl (jE (aQ (i:=3) mR.nd rfl (by first | exact Or.inl rfl | exact Or.inr rfl) ) (jE (aQ (i:=4) mR.nd rfl (by first | exact Or.inl rfl | exact Or.inr rfl) ) tK))) (TgP.tup (n:=2) (TgsP.cons (aF (i:=3)) (TgsP.cons (aF (i:=4)) TgsP.nil)) (tu))
  (@bn _ _ _ _ (@S.ifS _ _ _ _ _ _ _ _ _ (T.val (aP kT hr p9 tx.wU tx.bA.kp tx.xq (ab (av 4) (ab (av 1) (ab (av 2) am))))) (@bn _ _ _ _ (g7 (av 3))) Ss.nil)) (fun _=>rfl))
  (@bn _ _ _ _ (g7 dX)))
noncomputable abbrev FC:List Str:=["scene", "x", "y"]
theorem C2:aI FC qz (aj zS):=bR
noncomputable def xi (mL:PFn) (kP:PFn):En→Option Out :=
 (f9 (lA kP (aC (lA mL (aC (eV 0) aN)) (aC (eV 1) (aC (eV 2) aN)))))
include tx nY uq lO qQ in
theorem C8:FnOk Pr w K mg base CX0 (k+1) t.nA t.ny qz (spP K (b9 3 3 (xi mL kP))) :=
 fnP tx.nF C2 fun _ _ _ _ _ _ _ hr =>
  (@bn _ _ _ _ (g7 (aP lO hr qQ tx.xR tx.gD.kp tx.xW (ab (aP nY hr uq tx.Am tx.ji.kp tx.AX (ab (av 0) am)) (ab (av 1) (ab (av 2) am))))))
noncomputable abbrev xY:List Str:=["scene", "x", "y", "name"]
theorem ql:aI xY jG (aj rY):=bR
noncomputable def om (rq:PFn) (bj:PFn):En→Option Out :=
 (cw (dY 3 (lA rq (aC (eV 0) (aC (eV 1) (aC (eV 2) aN)))))
  (f9 (vIf (bT (l2 (iD false) (eV 3) (eC .none))) (oE (fun η=>(aN η).bind gL)) (lA bj (aC (eV 0) (aC (eV 3) aN))))))
include tx bu cR uG yp in
theorem wL:FnOk Pr w K mg base CX0 (k+1) t.gq t.gg jG (spP K (b9 3 4 (om rq bj))) :=
 fnP tx.aV ql fun _ _ _ _ _ _ _ hr =>
  (@a7 _ _ _ _ _ _ (g6 3 ql.nd (aP uG hr yp tx.Ex tx.nF.kp tx.Fj (ab (av 0) (ab (av 1) (ab (av 2) am)))))
  (@bn _ _ _ _ (g7 (E.ifE (T.isN (av 3) dX) (bb (bt am)) (aP bu hr cR tx.kE tx.aK.kp tx.kR (ab (av 0) (ab (av 3) am)))))))
noncomputable abbrev A1:List Str:=["one", "other", "names", "name", "counterpart"]
theorem mF:aI A1 lS (aj vo):=bR
noncomputable def qT  : En→Option Out :=
 (cw (ml 2 (fun η=>(aN η).bind gL))
  (cw (pz (fun η=>((aC (eV 0) (aC (eV 1) aN)) η).bind zpL) (tgT (bU (tgN 3) (bU (tgN 4) kn)))
  (cw (sIf (bT (l2 pNe (eV 3) (eV 4))) sBk sNx)
  (DH 2 (eV 3))))
  (zT 2)))
include tx in
theorem yV:FnOk Pr w K mg base CX0 (k+1) t.je t.ja lS (spP K (b9 2 5 (qT))) :=
 fnP tx.eU mF fun _ _ _ _ _ _ _ hr =>
  (@a7 _ _ _ _ _ _ (S.setO 2 mF.nd (bt am))
  (@a7 _ _ _ _ _ _ (@S.for _ _ _ _ _ _ _ _ _ _ _ PassesOwn.never rfl (I.zip tx.z_zip (ab (av 0) (ab (av 1) am))) (wG (n:=2) rfl (jE (aQ (i:=3) mF.nd rfl (by first | exact Or.inl rfl | exact Or.inr rfl) ) (jE (aQ (i:=4) mF.nd rfl (by first | exact Or.inl rfl | exact Or.inr rfl) ) tK))) (TgP.tup (n:=2) (TgsP.cons (aF (i:=3)) (TgsP.cons (aF (i:=4)) TgsP.nil)) (tu))
  (@a7 _ _ _ _ _ _ (@S.ifS _ _ _ _ _ _ _ _ _ (T.ne hr (av 3) (av 4)) (@bn _ _ _ _ S.brk) Ss.nil)
  (@bn _ _ _ _ (S.app 2 (av 3)))) (fun _=>rfl))
  (@bn _ _ _ _ (S.retO 2))))
noncomputable abbrev me:List Str:=["self", "path", "stays", "leaves"]
theorem lg:aI me iC (aj jS):=bR
noncomputable def l9 (hW:PFn):Wd→Option MOut :=
 (aH (bI 2 (mP (lA rE (aC (lA hW (aC (gd 0 "trail") (aC (eV 1) aN))) aN))))
  (aH (bI 3 (mC (bH [none] (fun η=>((aC (eSl (gd 0 "trail") (pS (eV 2)) pN) aN) η).bind rvS) (tgN 0) dM (lA (fun ds=>if ds.length≤sizeLine then some (.tuple ds) else none) (aC (eC (.str "leave")) (aC (eV 0) aN))))))
  (aH (km 0 "trail" (mV 0) (mP (lA uN (aC (eV 1) aN))))
  (fU (mP (l2 aG (eV 3) (oE (bH [none] (lI asL (eSl (eV 1) (pS (eV 2)) pN)) (tgN 0) dM (lA (fun ds=>if ds.length≤sizeLine then some (.tuple ds) else none) (aC (eC (.str "enter")) (aC (eV 0) aN)))))))))))
include tx jg mH in
theorem uS:FnOk Pr w K mg base CX0 (k+1) t.eI t.eA iC (spM K (cl t) (dN 2 4 (l9 hW))) :=
 fnM tx.bh lg fun _ _ _ _ _ _ hr =>
  (@ag _ _ _ _ _ _ (bC 2 lg.nd (ac fun _=>(E.len tx.z_len (ab (aP jg hr mH tx.vt tx.eU.kp tx.vK (ab (jy 0) (ab (av 1) am))) am))))
  (@ag _ _ _ _ _ _ (@MS.setC _ _ _ _ _ _ _ ["name"] [none] _ _ _ _ _ _ _ 3 _ _ _ rfl lg.nd (aZ me (aj jS) rfl rfl (by decide +kernel)) (aF (i:=0)) (by decide) (fun _=>(I.rev rfl tx.z_reversed (ab (E.sl (jy 0) (kh (av 2)) P.none) am))) (fun _ _ _ _=>⟨(aQ (i:=0) (show (["name"]:List Str).Nodup by decide +kernel) rfl (Or.inl rfl) (.inr rfl)),Ts.nil,(f7 (ab aX (ab (av 0) am)))⟩) rfl rfl rfl (fun _=>rfl))
  (@ag _ _ _ _ _ _ (gB (k:=0) (bc 0) (ac fun _=>(E.listL tx.z_list (ab (av 1) am))) tx.na_Hand_trail)
  (@aJ _ _ _ _ (cq (ac fun _=>(bP (av 3) (bb (f6 (N':=["name"]) (mp:=[none]) rfl (aZ me (aj jS) rfl rfl (by decide +kernel)) (aF (i:=0)) (by decide) (I.list (E.sl (av 1) (kh (av 2)) P.none)) (fun _ _ _=>⟨(aQ (i:=0) (show (["name"]:List Str).Nodup by decide +kernel) rfl (Or.inl rfl) (.inr rfl)),Ts.nil,(f7 (ab aX (ab (av 0) am)))⟩))))))))))
noncomputable abbrev pv:List Str:=["self", "hand", "moment", "x", "y", "one", "path"]
theorem kq:aI pv gP (aj lj):=bR
noncomputable def jm (aw:DFn) (aU:DFn) (cy:PFn) (bK:DFn):Wd→Option MOut :=
 (aH (bI 5 (cO 1 "hand_of" aw (mV 0) (maC (mP (eV 1)) maN)))
  (aH (mIf (tPv (bT (l2 (iD true) (gd 5 "held_by") (eC .none)))) (fU (mFz (cO 0 "tell_holder" aU (mV 5) (maC (mP (eC (.str "move"))) maN)))) mNx)
  (aH (bI 6 (mP (lA cy (aC (gd 0 "scene") (aC (eV 3) (aC (eV 4) aN))))))
  (fU (mOp aG (cO 0 "lead" bK (mV 5) (maC (mP (eV 6)) maN)) (mP (oE (bH [none] (lI asL (eSl (eV 6) (pS (l1 pA (eC (.int 1)))) pN)) (tgN 0) dM (lA (fun ds=>if ds.length≤sizeLine then some (.tuple ds) else none) (aC (eC (.str "move")) (aC (eV 0) aN)))))))))))
include tx ay aR a6 bV cS gX b8 e9 in
theorem tX:FnOk Pr w K mg base CX0 (k+1) t.dD t.dr gP (spM K (cl t) (dN 5 7 (jm aw aU cy bK))) :=
 fnM tx.cP kq fun _ _ _ _ _ _ hr =>
  (@ag _ _ _ _ _ _ (bC 5 kq.nd (c6 (kc:=1) (bc 0) tx.cl_Hands tx.cN ay hr aR tx.c9 (aq (ac fun _=>(av 1)) bg)))
  (@ag _ _ _ _ _ _ (@fL _ _ _ _ _ _ _ _ _ (nC fun _=>(T.notN (jy 5) dX)) (@aJ _ _ _ _ (cq (nE (c6 (kc:=0) (bc 5) tx.cl_Hand tx.gT a6 hr bV tx.ig (aq (ac fun _=>aX) bg))))) dg)
  (@ag _ _ _ _ _ _ (bC 6 kq.nd (ac fun _=>(aP cS hr gX tx.og tx.aV.kp tx.oy (ab (jy 0) (ab (av 3) (ab (av 4) am))))))
  (@aJ _ _ _ _ (cq (ME.add (c6 (kc:=0) (bc 5) tx.cl_Hand tx.lm b8 hr e9 tx.ma (aq (ac fun _=>(av 6)) bg)) (ac fun _=>(bb (f6 (N':=["name"]) (mp:=[none]) rfl (aZ pv (aj lj) rfl rfl (by decide +kernel)) (aF (i:=0)) (by decide) (I.list (E.sl (av 6) (kh (qf ao)) P.none)) (fun _ _ _=>⟨(aQ (i:=0) (show (["name"]:List Str).Nodup by decide +kernel) rfl (Or.inl rfl) (.inr rfl)),Ts.nil,(f7 (ab aX (ab (av 0) am)))⟩))))))))))
noncomputable abbrev vj:List Str:=["self", "hand", "moment", "x", "y", "one", "path", "rows"]
theorem fR:aI vj gR (aj oN):=bR
noncomputable def jn (aw:DFn) (cy:PFn) (bK:DFn) (aU:DFn):Wd→Option MOut :=
 (aH (bI 5 (cO 1 "hand_of" aw (mV 0) (maC (mP (eV 1)) maN)))
  (aH (mIf (tPv (bT (l2 (iD true) (gd 5 "pressed_at") (eC .none)))) (fU (mP (oE (fun η=>(aN η).bind gL)))) mNx)
  (aH (bI 6 (mP (lA cy (aC (gd 0 "scene") (aC (eV 3) (aC (eV 4) aN))))))
  (aH (km 0 "pressed_at" (mV 5) (mP (eV 6)))
  (aH (bI 7 (mP (oE (fun η=>(aN η).bind gL))))
  (aH (mIf (tPv (bT (l2 (iD false) (gd 5 "held_by") (eC .none)))) (aH (bI 7 (cO 0 "lead" bK (mV 5) (maC (mP (eV 6)) maN)))
  (km 0 "held_by" (mV 5) (mP (vIf (bTr (eV 6)) (l2 pIx (eV 6) (l1 pA (eC (.int 1)))) (eC .none))))) mNx)
  (fU (mOp aG (mP (eV 7)) (mFz (cO 0 "tell_holder" aU (mV 5) (maC (mP (eC (.str "down"))) maN)))))))))))
include tx ay aR a6 bV cS gX b8 e9 in
theorem tZ:FnOk Pr w K mg base CX0 (k+1) t.dF t.du gR (spM K (cl t) (dN 5 8 (jn aw cy bK aU))) :=
 fnM tx.ca fR fun _ _ _ _ _ _ hr =>
  (@ag _ _ _ _ _ _ (bC 5 fR.nd (c6 (kc:=1) (bc 0) tx.cl_Hands tx.cN ay hr aR tx.c9 (aq (ac fun _=>(av 1)) bg)))
  (@ag _ _ _ _ _ _ (@fL _ _ _ _ _ _ _ _ _ (nC fun _=>(T.notN (jy 5) dX)) (@aJ _ _ _ _ (cq (ac fun _=>(bb (bt am))))) dg)
  (@ag _ _ _ _ _ _ (bC 6 fR.nd (ac fun _=>(aP cS hr gX tx.og tx.aV.kp tx.oy (ab (jy 0) (ab (av 3) (ab (av 4) am))))))
  (@ag _ _ _ _ _ _ (gB (k:=0) (bc 5) (ac fun _=>(av 6)) tx.na_Hand_pressed_at)
  (@ag _ _ _ _ _ _ (bC 7 fR.nd (ac fun _=>(bb (bt am))))
  (@ag _ _ _ _ _ _ (@fL _ _ _ _ _ _ _ _ _ (nC fun _=>(T.isN (jy 5) dX)) (@ag _ _ _ _ _ _ (bC 7 fR.nd (c6 (kc:=0) (bc 5) tx.cl_Hand tx.lm b8 hr e9 tx.ma (aq (ac fun _=>(av 6)) bg)))
  (@aJ _ _ _ _ (gB (k:=0) (bc 5) (ac fun _=>(E.ifE (T.tru (av 6)) (cM (av 6) (qf ao)) dX)) tx.na_Hand_held_by))) dg)
  (@aJ _ _ _ _ (cq (ME.add (ac fun _=>(av 7)) (nE (c6 (kc:=0) (bc 5) tx.cl_Hand tx.gT a6 hr bV tx.ig (aq (ac fun _=>aX) bg))))))))))))
noncomputable abbrev uE:List Str:=["self", "path", "names"]
theorem mS:aI uE fS (aj nJ):=bR
noncomputable def kM (hW:PFn):Wd→Option MOut :=
 (aH (bI 2 (mP (lA hW (aC (gd 0 "pressed_at") (aC (eV 1) aN)))))
  (aH (km 0 "pressed_at" (mV 0) (mP (eC .none)))
  (aH (km 0 "held_by" (mV 0) (mP (eC .none)))
  (fU (mP (eSl (eV 2) (pS (l1 pA (eC (.int 1)))) pN))))))
include tx jg mH in
theorem sI:FnOk Pr w K mg base CX0 (k+1) t.cZ t.cX fS (spM K (cl t) (dN 2 3 (kM hW))) :=
 fnM tx.c8 mS fun _ _ _ _ _ _ hr =>
  (@ag _ _ _ _ _ _ (bC 2 mS.nd (ac fun _=>(aP jg hr mH tx.vt tx.eU.kp tx.vK (ab (jy 0) (ab (av 1) am)))))
  (@ag _ _ _ _ _ _ (gB (k:=0) (bc 0) (ac fun _=>dX) tx.na_Hand_pressed_at)
  (@ag _ _ _ _ _ _ (gB (k:=0) (bc 0) (ac fun _=>dX) tx.na_Hand_held_by)
  (@aJ _ _ _ _ (cq (ac fun _=>(E.sl (av 2) (kh (qf ao)) P.none)))))))
noncomputable abbrev vk:List Str:=["self", "name", "moment", "is_soon", "is_double"]
theorem kr:aI vk gS (aj oO):=bR
noncomputable def lB  : Wd→Option MOut :=
 (aH (bI 3 (mP (l2 pLe (l2 tN (eV 2) (gd 0 "clicked_moment")) (eC (.int 20)))))
  (aH (bI 4 (mP (zE (l2 pEq (gd 0 "clicked") (eV 1)) (zE (eV 3) (CU (gd 0 "was_double"))))))
  (aH (km 0 "clicked" (mV 0) (mP (eV 1)))
  (aH (km 0 "clicked_moment" (mV 0) (mP (eV 2)))
  (aH (km 0 "was_double" (mV 0) (mP (eV 4)))
  (fU (mP (vIf (bTr (eV 4)) (oE (fun η=>((aC (lA (fun ds=>if ds.length≤sizeLine then some (.tuple ds) else none) (aC (eC (.str "click")) (aC (eV 1) aN))) (aC (lA (fun ds=>if ds.length≤sizeLine then some (.tuple ds) else none) (aC (eC (.str "double")) (aC (eV 1) aN))) aN)) η).bind gL)) (oE (fun η=>((aC (lA (fun ds=>if ds.length≤sizeLine then some (.tuple ds) else none) (aC (eC (.str "click")) (aC (eV 1) aN))) aN) η).bind gL))))))))))
include tx in
theorem t3:FnOk Pr w K mg base CX0 (k+1) t.dG t.dw gS (spM K (cl t) (dN 3 5 (lB))) :=
 fnM tx.cb kr fun _ _ _ _ _ _ hr =>
  (@ag _ _ _ _ _ _ (bC 3 kr.nd (ac fun _=>(E.le (E.sub (av 2) (jy 0)) (j5 tx.c_LONGEST_DOUBLE))))
  (@ag _ _ _ _ _ _ (bC 4 kr.nd (ac fun _=>(E.and (E.eq hr (jy 0) (av 1)) (E.and (av 3) (E.one (E.not (jy 0)))))))
  (@ag _ _ _ _ _ _ (gB (k:=0) (bc 0) (ac fun _=>(av 1)) tx.na_Hand_clicked)
  (@ag _ _ _ _ _ _ (gB (k:=0) (bc 0) (ac fun _=>(av 2)) tx.na_Hand_clicked_moment)
  (@ag _ _ _ _ _ _ (gB (k:=0) (bc 0) (ac fun _=>(av 4)) tx.na_Hand_was_double)
  (@aJ _ _ _ _ (cq (ac fun _=>(E.ifE (T.tru (av 4)) (bb (bt (ab (f7 (ab aX (ab (av 1) am))) (ab (f7 (ab aX (ab (av 1) am))) am)))) (bb (bt (ab (f7 (ab aX (ab (av 1) am))) am))))))))))))
noncomputable abbrev xD:List Str:=["self", "hand", "moment", "x", "y", "one", "path", "rows", "name"]
theorem iu:aI xD i5 (aj qw):=bR
noncomputable def kL (aw:DFn) (cy:PFn) (aU:DFn) (hZ:DFn) (iR:DFn) (bK:DFn):Wd→Option MOut :=
 (aH (bI 5 (cO 1 "hand_of" aw (mV 0) (maC (mP (eV 1)) maN)))
  (aH (mIf (tPv (bT (l2 (iD false) (gd 5 "pressed_at") (eC .none)))) (fU (mP (oE (fun η=>(aN η).bind gL)))) mNx)
  (aH (bI 6 (mP (lA cy (aC (gd 0 "scene") (aC (eV 3) (aC (eV 4) aN))))))
  (aH (bI 7 (cO 0 "tell_holder" aU (mV 5) (maC (mP (eC (.str "up"))) maN)))
  (aH (sQ [8] (iM (cO 0 "let_go" hZ (mV 5) (maC (mP (eV 6)) maN))) (tgN 8)
  (qk (uh (mV 7) (cO 0 "click" iR (mV 5) (maC (mP (eV 8)) (maC (mP (eV 2)) maN))))))
  (fU (mOp aG (mFz (mV 7)) (cO 0 "lead" bK (mV 5) (maC (mP (eV 6)) maN)))))))))
include tx ay aR a6 bV cS gX b8 e9 iT nh jw nW in
theorem vU:FnOk Pr w K mg base CX0 (k+1) t.fK t.fB i5 (spM K (cl t) (dN 5 9 (kL aw cy aU hZ iR bK))) :=
 fnM tx.dU iu fun _ _ _ _ _ _ hr =>
  (@ag _ _ _ _ _ _ (bC 5 iu.nd (c6 (kc:=1) (bc 0) tx.cl_Hands tx.cN ay hr aR tx.c9 (aq (ac fun _=>(av 1)) bg)))
  (@ag _ _ _ _ _ _ (@fL _ _ _ _ _ _ _ _ _ (nC fun _=>(T.isN (jy 5) dX)) (@aJ _ _ _ _ (cq (ac fun _=>(bb (bt am))))) dg)
  (@ag _ _ _ _ _ _ (bC 6 iu.nd (ac fun _=>(aP cS hr gX tx.og tx.aV.kp tx.oy (ab (jy 0) (ab (av 3) (ab (av 4) am))))))
  (@ag _ _ _ _ _ _ (bC 7 iu.nd (c6 (kc:=0) (bc 5) tx.cl_Hand tx.gT a6 hr bV tx.ig (aq (ac fun _=>aX) bg)))
  (@ag _ _ _ _ _ _ (@MS.for _ _ _ _ _ _ _ _ _ _ _ PassesOwn.never rfl (MI.list (c6 (kc:=0) (bc 5) tx.cl_Hand tx.sN iT hr nh tx.uy (aq (ac fun _=>(av 6)) bg))) (aQ (i:=8) iu.nd rfl (by first | exact Or.inl rfl | exact Or.inr rfl) ) (aF (i:=8))
  (@aJ _ _ _ _ (MS.exp (ME.extC (bc 7) (c6 (kc:=0) (bc 5) tx.cl_Hand tx.ua jw hr nW tx.vf (aq (ac fun _=>(av 8)) (aq (ac fun _=>(av 2)) bg)))))) (fun _=>rfl))
  (@aJ _ _ _ _ (cq (ME.add (nE (bc 7)) (c6 (kc:=0) (bc 5) tx.cl_Hand tx.lm b8 hr e9 tx.ma (aq (ac fun _=>(av 6)) bg))))))))))
noncomputable abbrev wb:List Str:=["_law_hands", "_law_way", "_law_number", "_law_moment", "_law_x", "_law_y"]
theorem uK:aI wb iB (aj pU):=bR
noncomputable def iE (iO:DFn) (iQ:DFn) (j1:DFn):Wd→Option MOut :=
 (aH (mIf (tPv (bT (l2 pEq (eV 1) (eC (.int 0))))) (fU (cO 1 "move" iO (mV 0) (maC (mP (eV 2)) (maC (mP (eV 3)) (maC (mP (eV 4)) (maC (mP (eV 5)) maN)))))) mNx)
  (aH (mIf (tPv (bT (l2 pEq (eV 1) (eC (.int 1))))) (fU (cO 1 "down" iQ (mV 0) (maC (mP (eV 2)) (maC (mP (eV 3)) (maC (mP (eV 4)) (maC (mP (eV 5)) maN)))))) mNx)
  (fU (cO 1 "up" j1 (mV 0) (maC (mP (eV 2)) (maC (mP (eV 3)) (maC (mP (eV 4)) (maC (mP (eV 5)) maN))))))))
include tx jt nS jv nV kY qc in
theorem uR:FnOk Pr w K mg base CX0 (k+1) t.eG t.ee iB (spM K (cl t) (dN 6 6 (iE iO iQ j1))) :=
 fnM tx.cD uK fun _ _ _ _ _ _ hr =>
  (@ag _ _ _ _ _ _ (@fL _ _ _ _ _ _ _ _ _ (nC fun _=>(v9 hr (av 1) ao)) (@aJ _ _ _ _ (cq (c6 (kc:=1) (bc 0) tx.cl_Hands tx.t7 jt hr nS tx.va (aq (ac fun _=>(av 2)) (aq (ac fun _=>(av 3)) (aq (ac fun _=>(av 4)) (aq (ac fun _=>(av 5)) bg))))))) dg)
  (@ag _ _ _ _ _ _ (@fL _ _ _ _ _ _ _ _ _ (nC fun _=>(v9 hr (av 1) ao)) (@aJ _ _ _ _ (cq (c6 (kc:=1) (bc 0) tx.cl_Hands tx.t9 jv hr nV tx.ve (aq (ac fun _=>(av 2)) (aq (ac fun _=>(av 3)) (aq (ac fun _=>(av 4)) (aq (ac fun _=>(av 5)) bg))))))) dg)
  (@aJ _ _ _ _ (cq (c6 (kc:=1) (bc 0) tx.cl_Hands tx.vV kY hr qc tx.xw (aq (ac fun _=>(av 2)) (aq (ac fun _=>(av 3)) (aq (ac fun _=>(av 4)) (aq (ac fun _=>(av 5)) bg)))))))))
noncomputable abbrev uD:List Str:=["scene", "name"]
theorem xH:aI uD kB (aj px):=bR
noncomputable def pL  : En→Option Out :=
 (f9 (lA Ei (aC (oE (bH [none,some 1] (lI oB (eV 0)) (tgN 0) dM (l2 pEq (l2 pIx (eV 0) (eC (.int 0))) (eV 1)))) aN)))
include tx in
theorem xN:FnOk Pr w K mg base CX0 (k+1) t.il t.ic kB (spP K (b9 2 2 (pL))) :=
 fnP tx.c7 xH fun _ _ _ _ _ _ _ hr =>
  (@bn _ _ _ _ (g7 (E.any rfl tx.z_any (ab (bb (f6 (N':=["box", "name"]) (mp:=[none,some 1]) rfl (aZ uD (aj px) rfl rfl (by decide +kernel)) (aF (i:=0)) (by decide) (I.tup (av 0)) (fun _ _ _=>⟨(aQ (i:=0) (show (["box", "name"]:List Str).Nodup by decide +kernel) rfl (Or.inl rfl) (.inr rfl)),Ts.nil,(E.eq hr (cM (av 0) (j5 tx.c_NAME)) (av 1))⟩))) am))))
noncomputable abbrev pq:List Str:=["scene", "names"]
theorem tz:aI pq gK (aj lh):=bR
noncomputable def lv (gb:PFn):En→Option Out :=
 (f9 (oE (bH [none,some 0] (lI asL (eV 1)) (tgN 0) (bT (lA gb (aC (eV 1) (aC (eV 0) aN)))) (eV 0))))
include tx io lJ in
theorem tR:FnOk Pr w K mg base CX0 (k+1) t.dz t.dj gK (spP K (b9 2 2 (lv gb))) :=
 fnP tx.bL tz fun _ _ _ _ _ _ _ hr =>
  (@bn _ _ _ _ (g7 (bb (f6 (N':=["name", "scene"]) (mp:=[none,some 0]) rfl (aZ pq (aj lh) rfl rfl (by decide +kernel)) (aF (i:=0)) (by decide) (I.list (av 1)) (fun _ _ _=>⟨(aQ (i:=0) (show (["name", "scene"]:List Str).Nodup by decide +kernel) rfl (Or.inl rfl) (.inr rfl)),(Ts.one (T.val (aP io hr lJ tx.uc tx.c7.kp tx.uw (ab (av 1) (ab (av 0) am))))),(av 0)⟩)))))
noncomputable abbrev uF:List Str:=["self", "scene", "lost"]
theorem mT:aI uF fT (aj nK):=bR
noncomputable def kN (fW:PFn) (gb:PFn):Wd→Option MOut :=
 (aH (km 0 "trail" (mV 0) (mP (lA fW (aC (eV 1) (aC (gd 0 "trail") aN)))))
  (aH (mIf (tPv (bT (l2 (iD true) (gd 0 "pressed_at") (eC .none)))) (km 0 "pressed_at" (mV 0) (mP (lA fW (aC (eV 1) (aC (gd 0 "pressed_at") aN))))) mNx)
  (aH (mIf (tPv (bOr (bT (l2 (iD false) (gd 0 "held_by") (eC .none))) (bT (lA gb (aC (eV 1) (aC (gd 0 "held_by") aN)))))) (fU (mP (oE (fun η=>(aN η).bind gL)))) mNx)
  (aH (bI 2 (mP (gd 0 "held_by")))
  (aH (km 0 "held_by" (mV 0) (mP (eC .none)))
  (fU (mP (oE (fun η=>((aC (eV 2) aN) η).bind gL)))))))))
include tx io lJ g9 kH in
theorem sJ:FnOk Pr w K mg base CX0 (k+1) t.c0 t.cY fT (spM K (cl t) (dN 2 3 (kN fW gb))) :=
 fnM tx.cv mT fun _ _ _ _ _ _ hr =>
  (@ag _ _ _ _ _ _ (gB (k:=0) (bc 0) (ac fun _=>(aP g9 hr kH tx.oU tx.bL.kp tx.pf (ab (av 1) (ab (jy 0) am)))) tx.na_Hand_trail)
  (@ag _ _ _ _ _ _ (@fL _ _ _ _ _ _ _ _ _ (nC fun _=>(T.notN (jy 0) dX)) (@aJ _ _ _ _ (gB (k:=0) (bc 0) (ac fun _=>(aP g9 hr kH tx.oU tx.bL.kp tx.pf (ab (av 1) (ab (jy 0) am)))) tx.na_Hand_pressed_at)) dg)
  (@ag _ _ _ _ _ _ (@fL _ _ _ _ _ _ _ _ _ (nC fun _=>(TW.t (TW.or (T.isN (jy 0) dX) (TW.or1 (T.val (aP io hr lJ tx.uc tx.c7.kp tx.uw (ab (av 1) (ab (jy 0) am)))))))) (@aJ _ _ _ _ (cq (ac fun _=>(bb (bt am))))) dg)
  (@ag _ _ _ _ _ _ (bC 2 mT.nd (ac fun _=>(jy 0)))
  (@ag _ _ _ _ _ _ (gB (k:=0) (bc 0) (ac fun _=>dX) tx.na_Hand_held_by)
  (@aJ _ _ _ _ (cq (ac fun _=>(bb (bt (ab (av 2) am)))))))))))
noncomputable abbrev nB:List Str:=["self", "scene", "rows", "hand"]
theorem jz:aI nB fj (aj j6):=bR
noncomputable def ke (h8:DFn):Wd→Option MOut :=
 (aH (km 1 "scene" (mV 0) (mP (eV 1)))
  (aH (bI 2 (mN (fun η=>(aN η).bind gL)))
  (aH (sQ [3] (iM (wY (rL (mV 0) "known"))) (tgN 3)
  (qk (uh (mV 2) (mFz (mcL [none,some 3] (iM (cO 0 "forget" h8 (cQ (rL (mV 0) "known") (mP (eV 3))) (maC (mP (eV 1)) maN))) [0] (tgN 0) uJ (mP (lA (fun ds=>if ds.length≤sizeLine then some (.tuple ds) else none) (aC (eV 1) (aC (eV 0) aN)))))))))
  (fU (mFz (mV 2))))))
include tx iU ni in
theorem rH:FnOk Pr w K mg base CX0 (k+1) t.cJ t.cG fj (spM K (cl t) (dN 2 4 (ke h8))) :=
 fnM tx.bi jz fun _ _ _ _ _ _ hr =>
  (@ag _ _ _ _ _ _ (gB (k:=1) (bc 0) (ac fun _=>(av 1)) tx.na_Hands_scene)
  (@ag _ _ _ _ _ _ (bC 2 jz.nd (ME.nw fun _=>(bt am)))
  (@ag _ _ _ _ _ _ (@MS.for _ _ _ _ _ _ _ _ _ _ _ PassesOwn.never rfl (MI.list (ME.sortC hr tx.z_sorted (ME.fld (bc 0)))) (aQ (i:=3) jz.nd rfl (by first | exact Or.inl rfl | exact Or.inr rfl) ) (aF (i:=3))
  (@aJ _ _ _ _ (MS.exp (ME.extC (bc 2) (nE (ME.lcomp (N':=["name", "hand"]) (mp:=[none,some 3]) rfl (aZ nB (aj j6) rfl rfl (by decide +kernel)) (aF (i:=0)) (by decide) (MI.list (c6 (kc:=0) (eO hr (ME.fld (bc 0)) (ac fun _=>(av 3))) tx.cl_Hand tx.sO iU hr ni tx.uz (aq (ac fun _=>(av 1)) bg))) (fun _ _ _=>⟨(aQ (i:=0) (show (["name", "hand"]:List Str).Nodup by decide +kernel) rfl (Or.inl rfl) (.inr rfl)),MTs.nil,(ac fun _=>(f7 (ab (av 1) (ab (av 0) am))))⟩)))))) (fun _=>rfl))
  (@aJ _ _ _ _ (cq (nE (bc 2)))))))
noncomputable abbrev tj:List Str:=["self", "hand"]
theorem rC:aI tj fg (aj mX):=bR
noncomputable def j9 (aw:DFn):Wd→Option MOut :=
 (fU (rL (cO 1 "hand_of" aw (mV 0) (maC (mP (eV 1)) maN)) "held_by"))
include tx ay aR in
theorem rG:FnOk Pr w K mg base CX0 (k+1) t.cI t.cF fg (spM K (cl t) (dN 2 2 (j9 aw))) :=
 fnM tx.cL rC fun _ _ _ _ _ _ hr =>
  (@aJ _ _ _ _ (cq (ME.fld (c6 (kc:=1) (bc 0) tx.cl_Hands tx.cN ay hr aR tx.c9 (aq (ac fun _=>(av 1)) bg)))))
noncomputable abbrev vh:List Str:=["self", "hand"]
theorem tF:aI vh gO (aj oK):=bR
noncomputable def lz (aw:DFn):Wd→Option MOut :=
 (fU (mCB uN (maC (rL (cO 1 "hand_of" aw (mV 0) (maC (mP (eV 1)) maN)) "trail") maN)))
include tx ay aR in
theorem tW:FnOk Pr w K mg base CX0 (k+1) t.dC t.dq gO (spM K (cl t) (dN 2 2 (lz aw))) :=
 fnM tx.dL tF fun _ _ _ _ _ _ hr =>
  (@aJ _ _ _ _ (cq (ME.listL tx.z_list (aq (ME.fld (c6 (kc:=1) (bc 0) tx.cl_Hands tx.cN ay hr aR tx.c9 (aq (ac fun _=>(av 1)) bg))) bg))))
noncomputable abbrev g8:List Str:=["_law_script", "_law_scene_here", "_law_hands", "_law_mine", "_law_turn", "_law_k", "_law_here", "_law_number", "_law_way", "_law_x", "_law_y", "_law_due", "_law_other", "_law_name", "_law_names", "_law_hand_here"]
theorem az:aI g8 gM (aj eZ):=bR
noncomputable def lx (gZ:PFn) (bQ:DFn) (iF:DFn) (aA:PFn) (jo:DFn) (jp:DFn) (d6:PFn) (cc:DFn) (gH:DFn) (iN:DFn):Wd→Option MOut :=
 (aH (bI 1 (mP (lA gZ (aC (eV 0) (aC (eC (.int 0)) aN)))))
  (aH (bI 2 (vz 1 bQ (maC (mP (eV 1)) maN)))
  (aH (bI 3 (xT (maC (la iF maN) (maC (la iF maN) maN))))
  (aH (sQ [4] (iPu (fun η=>((aC (eC (.int 2)) aN) η).bind rng1)) (tgN 4)
  (aH (sQ [5] (iPu (fun η=>((aC (eC (.int 4)) aN) η).bind rng1)) (tgN 5)
  (aH (bI 6 (mP (l2 aG (l2 aG (eC (.int 100)) (l2 kZ (eC (.int 60)) (eV 4))) (l2 kZ (eC (.int 9)) (eV 5)))))
  (aH (bI 7 (mP (lA aA (aC (eV 0) (aC (eV 6) (aC (eC (.int 2)) aN))))))
  (aH (bI 8 (mP (l2 pIx (oE (fun η=>((aC (eC (.int 0)) (aC (eC (.int 1)) (aC (eC (.int 1)) (aC (eC (.int 2)) aN)))) η).bind gL)) (lA aA (aC (eV 0) (aC (l2 aG (eV 6) (eC (.int 1))) (aC (eC (.int 4)) aN)))))))
  (aH (bI 9 (mP (l2 tN (lA aA (aC (eV 0) (aC (l2 aG (eV 6) (eC (.int 2))) (aC (eC (.int 9)) aN)))) (eC (.int 1)))))
  (aH (bI 10 (mP (l2 tN (lA aA (aC (eV 0) (aC (l2 aG (eV 6) (eC (.int 3))) (aC (eC (.int 9)) aN)))) (eC (.int 1)))))
  (aH (bI 11 (la jo (maC (mP (eV 1)) (maC (vY (mV 3) (mP (eV 7))) (maC (mP (eV 8)) (maC (mP (l2 aG (l2 kZ (eC (.int 10)) (eV 4)) (eV 5))) (maC (mP (eV 9)) (maC (mP (eV 10)) maN))))))))
  (mIf (mB (dP pNe (la jp (maC (mV 2) (maC (mP (eV 8)) (maC (mP (eV 7)) (maC (mP (l2 aG (l2 kZ (eC (.int 10)) (eV 4)) (eV 5))) (maC (mP (eV 9)) (maC (mP (eV 10)) maN))))))) (mP (eV 11)))) (fU (mP (eC (.bool false)))) mNx))))))))
  (aH (mIf (tPv (bT (l2 pEq (eV 4) (eC (.int 0))))) (aH (bI 12 (mP (lA gZ (aC (eV 0) (aC (eC (.int 300)) aN)))))
  (aH (mIf (tPv (rQ (bT (l2 pNe (eV 1) (lA (fun ds=>if ds.length≤sizeLine then some (.tuple ds) else none) aN))) (bT (l2 pGt (lA aA (aC (eV 0) (aC (eC (.int 290)) (aC (eC (.int 3)) aN)))) (eC (.int 0)))))) (aH (bI 13 (mP (l2 pIx (l2 pIx (eV 1) (lA aA (aC (eV 0) (aC (eC (.int 291)) (aC (lA rE (aC (eV 1) aN)) aN))))) (eC (.int 0)))))
  (bI 12 (mP (lA Ae (aC (oE (bH [none,some 1,some 13] (lI oB (eV 1)) (tgN 0) (bT (l2 (pIn true) (eV 2) (lA d6 (aC (eV 1) (aC (l2 pIx (eV 0) (eC (.int 0))) aN))))) (eV 0))) aN))))) mNx)
  (aH (bI 14 (mP (oE (bH [none] (lI oB (eV 12)) (tgN 0) dM (l2 pIx (eV 0) (eC (.int 0)))))))
  (aH (bI 11 (mN (fun η=>(aN η).bind gL)))
  (aH (sQ [7] (iPu (fun η=>((aC (eC (.int 2)) aN) η).bind rng1)) (tgN 7)
  (aH (bI 15 (vY (mV 3) (mP (eV 7))))
  (aH (gW (mV 15) (mP (eC (.str "over"))) (mFz (mcL [none,some 14] (iM (cQ (mV 15) (mP (eC (.str "over"))))) [0] (tgN 0) (tPv (bT (l2 (pIn false) (eV 0) (eV 1)))) (mP (eV 0)))))
  (aH (mIf (mB (dP (iD true) (cQ (mV 15) (mP (eC (.str "pressed")))) (mP (eC .none)))) (gW (mV 15) (mP (eC (.str "pressed"))) (mFz (mcL [none,some 14] (iM (cQ (mV 15) (mP (eC (.str "pressed"))))) [0] (tgN 0) (tPv (bT (l2 (pIn false) (eV 0) (eV 1)))) (mP (eV 0))))) mNx)
  (mIf (oG (mB (dP (iD true) (cQ (mV 15) (mP (eC (.str "held")))) (mP (eC .none)))) (mB (dP (pIn true) (cQ (mV 15) (mP (eC (.str "held")))) (mP (eV 14))))) (aH (qk (vA (mV 11) (mq (maC (mP (eV 7)) (maC (cQ (mV 15) (mP (eC (.str "held")))) maN)))))
  (gW (mV 15) (mP (eC (.str "held"))) (mP (eC .none)))) mNx)))))
  (aH (mIf (mB (dP pNe (cO 1 "change" cc (mV 2) (maC (mP (eV 12)) maN)) (mV 11))) (fU (mP (eC (.bool false)))) mNx)
  (bI 1 (mP (eV 12))))))))) mNx)
  (sQ [7] (iPu (fun η=>((aC (eC (.int 2)) aN) η).bind rng1)) (tgN 7)
  (mIf (DA (mB (dP pNe (cO 1 "over" iN (mV 2) (maC (mP (eV 7)) maN)) (cQ (vY (mV 3) (mP (eV 7))) (mP (eC (.str "over")))))) (mB (dP pNe (cO 1 "holder" gH (mV 2) (maC (mP (eV 7)) maN)) (cQ (vY (mV 3) (mP (eV 7))) (mP (eC (.str "held"))))))) (fU (mP (eC (.bool false)))) mNx)))))
  (fU (mP (eC (.bool true))))))))
include tx aS a9 fM jU iH lu bZ fO jh l8 j3 o7 j4 o8 cK gE ir mz jr nR in
theorem tU:FnOk Pr w K mg base CX0 (k+1) t.dA t.dk gM (spM K (cl t) (dN 1 16 (lx gZ bQ iF aA jo jp d6 cc gH iN))) :=
 fnM tx.dJ az fun _ _ _ _ _ _ hr =>
  (@ag _ _ _ _ _ _ (bC 1 az.nd (ac fun _=>(aP iH hr lu tx.pW tx.bp.kp tx.qe (ab (av 0) (ab ao am)))))
  (@ag _ _ _ _ _ _ (bC 2 az.nd (ME.make (kc:=1) tx.cl_Hands tx.mk_Hands bZ hr fO tx.mg_Hands tx.l6 (aq (ac fun _=>(av 1)) bg)))
  (@ag _ _ _ _ _ _ (bC 3 az.nd (ME.lstM (aq (ME.call0 jh hr l8 tx.qH tx.cA.kp tx.qY) (aq (ME.call0 jh hr l8 tx.qH tx.cA.kp tx.qY) bg))))
  (@ag _ _ _ _ _ _ (@MS.for _ _ _ _ _ _ _ _ _ _ _ PassesOwn.never rfl (MI.pu fun _=>(I.rng1 tx.z_range (ab ao am))) (aQ (i:=4) az.nd rfl (by first | exact Or.inl rfl | exact Or.inr rfl) ) (aF (i:=4))
  (@ag _ _ _ _ _ _ (@MS.for _ _ _ _ _ _ _ _ _ _ _ PassesOwn.never rfl (MI.pu fun _=>(I.rng1 tx.z_range (ab ao am))) (aQ (i:=5) az.nd rfl (by first | exact Or.inl rfl | exact Or.inr rfl) ) (aF (i:=5))
  (@ag _ _ _ _ _ _ (bC 6 az.nd (ac fun _=>(bP (bP ao (ri ao (av 4))) (ri ao (av 5)))))
  (@ag _ _ _ _ _ _ (bC 7 az.nd (ac fun _=>(aP aS hr a9 tx.bv tx.ak.kp tx.bw (ab (av 0) (ab (av 6) (ab ao am))))))
  (@ag _ _ _ _ _ _ (bC 8 az.nd (ac fun _=>(cM (bb (bt (ab ao (ab ao (ab ao (ab ao am)))))) (aP aS hr a9 tx.bv tx.ak.kp tx.bw (ab (av 0) (ab (bP (av 6) ao) (ab ao am)))))))
  (@ag _ _ _ _ _ _ (bC 9 az.nd (ac fun _=>(E.sub (aP aS hr a9 tx.bv tx.ak.kp tx.bw (ab (av 0) (ab (bP (av 6) ao) (ab ao am)))) ao)))
  (@ag _ _ _ _ _ _ (bC 10 az.nd (ac fun _=>(E.sub (aP aS hr a9 tx.bv tx.ak.kp tx.bw (ab (av 0) (ab (bP (av 6) ao) (ab ao am)))) ao)))
  (@ag _ _ _ _ _ _ (bC 11 az.nd (ME.call j3 hr o7 tx.vW tx.bz.kp tx.v7 (aq (ac fun _=>(av 1)) (aq (ME.ixL (bc 3) (ac fun _=>(av 7))) (aq (ac fun _=>(av 8)) (aq (ac fun _=>(bP (ri ao (av 4)) (av 5))) (aq (ac fun _=>(av 9)) (aq (ac fun _=>(av 10)) bg))))))))
  (@aJ _ _ _ _ (@fL _ _ _ _ _ _ _ _ _ (MT.ne hr (ME.call j4 hr o8 tx.vX tx.cD.kp tx.v8 (aq (bc 2) (aq (ac fun _=>(av 8)) (aq (ac fun _=>(av 7)) (aq (ac fun _=>(bP (ri ao (av 4)) (av 5))) (aq (ac fun _=>(av 9)) (aq (ac fun _=>(av 10)) bg))))))) (ac fun _=>(av 11))) (@aJ _ _ _ _ (cq (ac fun _=>E.bl))) dg)))))))) (fun _=>rfl))
  (@ag _ _ _ _ _ _ (@fL _ _ _ _ _ _ _ _ _ (nC fun _=>(v9 hr (av 4) ao)) (@ag _ _ _ _ _ _ (bC 12 az.nd (ac fun _=>(aP iH hr lu tx.pW tx.bp.kp tx.qe (ab (av 0) (ab ao am)))))
  (@ag _ _ _ _ _ _ (@fL _ _ _ _ _ _ _ _ _ (nC fun _=>(TW.t (TW.and (T.ne hr (av 1) (f7 am)) (TW.and1 (T.gt (aP aS hr a9 tx.bv tx.ak.kp tx.bw (ab (av 0) (ab ao (ab ao am)))) ao))))) (@ag _ _ _ _ _ _ (bC 13 az.nd (ac fun _=>(cM (cM (av 1) (aP aS hr a9 tx.bv tx.ak.kp tx.bw (ab (av 0) (ab ao (ab (E.len tx.z_len (ab (av 1) am)) am))))) ao)))
  (@aJ _ _ _ _ (bC 12 az.nd (ac fun _=>(E.tuple tx.z_tuple (ab (bb (f6 (N':=["_law_box_here", "_law_scene_here", "_law_name"]) (mp:=[none,some 1,some 13]) rfl (aZ g8 (aj eZ) rfl rfl (by decide +kernel)) (aF (i:=0)) (by decide) (I.tup (av 1)) (fun _ _ _=>⟨(aQ (i:=0) (show (["_law_box_here", "_law_scene_here", "_law_name"]:List Str).Nodup by decide +kernel) rfl (Or.inl rfl) (.inr rfl)),(Ts.one (T.notIn (av 2) (aP fM hr jU tx.qG tx.b0.kp tx.qX (ab (av 1) (ab (cM (av 0) ao) am))))),(av 0)⟩))) am)))))) dg)
  (@ag _ _ _ _ _ _ (bC 14 az.nd (ac fun _=>(bb (f6 (N':=["_law_box_here"]) (mp:=[none]) rfl (aZ g8 (aj eZ) rfl rfl (by decide +kernel)) (aF (i:=0)) (by decide) (I.tup (av 12)) (fun _ _ _=>⟨(aQ (i:=0) (show (["_law_box_here"]:List Str).Nodup by decide +kernel) rfl (Or.inl rfl) (.inr rfl)),Ts.nil,(cM (av 0) ao)⟩)))))
  (@ag _ _ _ _ _ _ (bC 11 az.nd (ME.nw fun _=>(bt am)))
  (@ag _ _ _ _ _ _ (@MS.for _ _ _ _ _ _ _ _ _ _ _ PassesOwn.never rfl (MI.pu fun _=>(I.rng1 tx.z_range (ab ao am))) (aQ (i:=7) az.nd rfl (by first | exact Or.inl rfl | exact Or.inr rfl) ) (aF (i:=7))
  (@ag _ _ _ _ _ _ (bC 15 az.nd (ME.ixL (bc 3) (ac fun _=>(av 7))))
  (@ag _ _ _ _ _ _ (MS.putC hr (bc 15) (ac fun _=>aX) (nE (ME.lcomp (N':=["_law_name", "_law_names"]) (mp:=[none,some 14]) rfl (aZ g8 (aj eZ) rfl rfl (by decide +kernel)) (aF (i:=0)) (by decide) (MI.list (eO hr (bc 15) (ac fun _=>aX))) (fun _ _ _=>⟨(aQ (i:=0) (show (["_law_name", "_law_names"]:List Str).Nodup by decide +kernel) rfl (Or.inl rfl) (.inr rfl)),(MTs.one (nC fun _=>(T.in (av 0) (av 1)))),(ac fun _=>(av 0))⟩))))
  (@ag _ _ _ _ _ _ (@fL _ _ _ _ _ _ _ _ _ (MT.notN (eO hr (bc 15) (ac fun _=>aX)) (ac fun _=>dX)) (@aJ _ _ _ _ (MS.putC hr (bc 15) (ac fun _=>aX) (nE (ME.lcomp (N':=["_law_name", "_law_names"]) (mp:=[none,some 14]) rfl (aZ g8 (aj eZ) rfl rfl (by decide +kernel)) (aF (i:=0)) (by decide) (MI.list (eO hr (bc 15) (ac fun _=>aX))) (fun _ _ _=>⟨(aQ (i:=0) (show (["_law_name", "_law_names"]:List Str).Nodup by decide +kernel) rfl (Or.inl rfl) (.inr rfl)),(MTs.one (nC fun _=>(T.in (av 0) (av 1)))),(ac fun _=>(av 0))⟩))))) dg)
  (@aJ _ _ _ _ (@fL _ _ _ _ _ _ _ _ _ (MTW.t (MTW.and (MT.notN (eO hr (bc 15) (ac fun _=>aX)) (ac fun _=>dX)) (MTW.and1 (MT.notIn (eO hr (bc 15) (ac fun _=>aX)) (ac fun _=>(av 14)))))) (@ag _ _ _ _ _ _ (MS.exp (ME.appC (bc 11) (ME.tupM (aq (ac fun _=>(av 7)) (aq (eO hr (bc 15) (ac fun _=>aX)) bg)))))
  (@aJ _ _ _ _ (MS.putC hr (bc 15) (ac fun _=>aX) (ac fun _=>dX)))) dg))))) (fun _=>rfl))
  (@ag _ _ _ _ _ _ (@fL _ _ _ _ _ _ _ _ _ (MT.ne hr (c6 (kc:=1) (bc 2) tx.cl_Hands tx.mn cK hr gE tx.nz (aq (ac fun _=>(av 12)) bg)) (bc 11)) (@aJ _ _ _ _ (cq (ac fun _=>E.bl))) dg)
  (@aJ _ _ _ _ (bC 1 az.nd (ac fun _=>(av 12)))))))))) dg)
  (@aJ _ _ _ _ (@MS.for _ _ _ _ _ _ _ _ _ _ _ PassesOwn.never rfl (MI.pu fun _=>(I.rng1 tx.z_range (ab ao am))) (aQ (i:=7) az.nd rfl (by first | exact Or.inl rfl | exact Or.inr rfl) ) (aF (i:=7))
  (@aJ _ _ _ _ (@fL _ _ _ _ _ _ _ _ _ (MTW.t (MTW.or (MT.ne hr (c6 (kc:=1) (bc 2) tx.cl_Hands tx.t6 jr hr nR tx.u9 (aq (ac fun _=>(av 7)) bg)) (eO hr (ME.ixL (bc 3) (ac fun _=>(av 7))) (ac fun _=>aX))) (MTW.or1 (MT.ne hr (c6 (kc:=1) (bc 2) tx.cl_Hands tx.rJ ir hr mz tx.sZ (aq (ac fun _=>(av 7)) bg)) (eO hr (ME.ixL (bc 3) (ac fun _=>(av 7))) (ac fun _=>aX)))))) (@aJ _ _ _ _ (cq (ac fun _=>E.bl))) dg)) (fun _=>rfl))))) (fun _=>rfl))
  (@aJ _ _ _ _ (cq (ac fun _=>E.bl)))))))
noncomputable abbrev vi:List Str:=["self", "hand", "name", "one"]
theorem nH:aI vi gQ (aj oM):=bR
noncomputable def o9 (bq:PFn) (aw:DFn):Wd→Option MOut :=
 (aH (qk (mP (lA bq (aC (gd 0 "scene") (aC (eV 2) aN)))))
  (aH (bI 3 (cO 1 "hand_of" aw (mV 0) (maC (mP (eV 1)) maN)))
  (km 0 "held_by" (mV 3) (mP (eV 2)))))
include tx bD cW ay aR in
theorem tY:FnOk Pr w K mg base CX0 (k+1) t.dE t.dt gQ (spM K (cl t) (dN 3 4 (o9 bq aw))) :=
 fnM tx.jx nH fun _ _ _ _ _ _ hr =>
  (@ag _ _ _ _ _ _ (MS.exp (ac fun _=>(aP bD hr cW tx.kj tx.aL.kp tx.kl (ab (jy 0) (ab (av 2) am)))))
  (@ag _ _ _ _ _ _ (bC 3 nH.nd (c6 (kc:=1) (bc 0) tx.cl_Hands tx.cN ay hr aR tx.c9 (aq (ac fun _=>(av 1)) bg)))
  (@aJ _ _ _ _ (gB (k:=0) (bc 3) (ac fun _=>(av 2)) tx.na_Hand_held_by))))
noncomputable abbrev rT:List Str:=["_law_hands", "_law_number", "_law_name"]
theorem fQ:aI rT [] (aj mh):=bR
noncomputable def mE (bQ:DFn) (iP:DFn) (cc:DFn):Wd→Option MOut :=
 (aH (bI 0 (vz 1 bQ (maC (mP (lA (fun ds=>if ds.length≤sizeLine then some (.tuple ds) else none) (aC (lA (fun ds=>if ds.length≤sizeLine then some (.tuple ds) else none) (aC (eC (.str "a")) (aC (eC (.str "")) (aC (eC (.int 0)) (aC (eC (.int 0)) (aC (eC (.int 5)) (aC (eC (.int 5)) (aC (eC (.str "")) aN)))))))) (aC (lA (fun ds=>if ds.length≤sizeLine then some (.tuple ds) else none) (aC (eC (.str "b")) (aC (eC (.str "")) (aC (eC (.int 10)) (aC (eC (.int 0)) (aC (eC (.int 5)) (aC (eC (.int 5)) (aC (eC (.str "")) aN)))))))) aN)))) maN)))
  (aH (sQ [1,2] (iPu (lI oB (eC (.tuple [(.tuple [(.int 7),(.str "b")]),(.tuple [(.int 1),(.str "a")]),(.tuple [(.int 3),(.str "b")])])))) (tgT (bU (tgN 1) (bU (tgN 2) kn)))
  (qk (cO 1 "hold" iP (mV 0) (maC (mP (eV 1)) (maC (mP (eV 2)) maN)))))
  (fU (dP pEq (cO 1 "change" cc (mV 0) (maC (mP (lA (fun ds=>if ds.length≤sizeLine then some (.tuple ds) else none) aN)) maN)) (mP (oE (fun η=>((aC (lA (fun ds=>if ds.length≤sizeLine then some (.tuple ds) else none) (aC (eC (.int 1)) (aC (eC (.str "a")) aN))) (aC (lA (fun ds=>if ds.length≤sizeLine then some (.tuple ds) else none) (aC (eC (.int 3)) (aC (eC (.str "b")) aN))) (aC (lA (fun ds=>if ds.length≤sizeLine then some (.tuple ds) else none) (aC (eC (.int 7)) (aC (eC (.str "b")) aN))) aN))) η).bind gL)))))))
include tx bZ fO cK gE ju nU in
theorem qC:FnOk Pr w K mg base CX0 (k+1) t.cj t.ce [] (spM K (cl t) (dN 0 3 (mE bQ iP cc))) :=
 fnM tx.bO fQ fun _ _ _ _ _ _ hr =>
  (@ag _ _ _ _ _ _ (bC 0 fQ.nd (ME.make (kc:=1) tx.cl_Hands tx.mk_Hands bZ hr fO tx.mg_Hands tx.l6 (aq (ac fun _=>(f7 (ab (f7 (ab aX (ab aX (ab ao (ab ao (ab ao (ab ao (ab aX am)))))))) (ab (f7 (ab aX (ab aX (ab ao (ab ao (ab ao (ab ao (ab aX am)))))))) am)))) bg)))
  (@ag _ _ _ _ _ _ (@MS.for _ _ _ _ _ _ _ _ _ _ _ PassesOwn.never rfl (@MI.pu _ _ _ _ _ (fun _=>(@I.tup _ _ _ _ _ (@E.cst _ _ _ _ (by kernel_rfl))))) (wG (n:=2) rfl (jE (aQ (i:=1) fQ.nd rfl (by first | exact Or.inl rfl | exact Or.inr rfl) ) (jE (aQ (i:=2) fQ.nd rfl (by first | exact Or.inl rfl | exact Or.inr rfl) ) tK))) (TgP.tup (n:=2) (TgsP.cons (aF (i:=1)) (TgsP.cons (aF (i:=2)) TgsP.nil)) (tu))
  (@aJ _ _ _ _ (MS.exp (c6 (kc:=1) (bc 0) tx.cl_Hands tx.t8 ju hr nU tx.vd (aq (ac fun _=>(av 1)) (aq (ac fun _=>(av 2)) bg))))) (fun _=>rfl))
  (@aJ _ _ _ _ (cq (ME.eq hr (c6 (kc:=1) (bc 0) tx.cl_Hands tx.mn cK hr gE tx.nz (aq (ac fun _=>(f7 am)) bg)) (ac fun _=>(bb (bt (ab (f7 (ab ao (ab aX am))) (ab (f7 (ab ao (ab aX am))) (ab (f7 (ab ao (ab aX am))) am)))))))))))
noncomputable abbrev FB:List Str:=["_law_script"]
theorem C1:aI FB ["_law_script"] (aj zR):=bR
noncomputable def xh (iL:DFn) (fX:DFn):Wd→Option MOut :=
 (fU (IV (la fX maN) (la iL (maC (mP (eV 0)) maN))))
include tx jq nQ gI lW in
theorem C7:FnOk Pr w K mg base CX0 (k+1) t.pj t.pe ["_law_script"] (spM K (cl t) (dN 1 1 (xh iL fX))) :=
 fnM tx.rh C1 fun _ _ _ _ _ _ hr =>
  (@aJ _ _ _ _ (cq (ME.and (ME.call0 gI hr lW tx.rK tx.bO.kp tx.rO) (ME.one (ME.call jq hr nQ tx.uV tx.dJ.kp tx.u5 (aq (ac fun _=>(av 0)) bg))))))
end
noncomputable def cB:PFn:=b9 2 2 (kK )
theorem kX (tx:Tx K mg t):FnOk Pr w K mg base CX0 1 t.fJ t.fA i4 (spP K cB):=vT (k:=0) tx 
noncomputable def ak:PFn:=b9 3 4 (jW cB)
theorem aS (tx:Tx K mg t):FnOk Pr w K mg base CX0 2 t.eE t.d9 iA (spP K ak):=uQ (k:=1) tx (kX tx) (by omega)
noncomputable def bp:PFn:=b9 2 13 (jV ak)
theorem iH (tx:Tx K mg t):FnOk Pr w K mg base CX0 3 t.eB t.d7 iy (spP K bp):=uO (k:=2) tx (aS tx) (by omega)
noncomputable def b6:DFn:=dN 2 2 (fV )
theorem bZ (tx:Tx K mg t):FnOk Pr w K mg base CX0 1 t.bY t.bX dR (spM K (cl t) b6):=qj (k:=0) tx 
noncomputable def cA:DFn:=dN 0 0 (nu )
theorem jh (tx:Tx K mg t):FnOk Pr w K mg base CX0 1 t.fI t.fw [] (spM K (cl t) cA):=vS (k:=0) tx 
noncomputable def bo:Nat→PFn
 | 0=>fun _=>none
 | n+1=>b9 5 9 (ly (bo n))
theorem dH (tx:Tx K mg t):∀ n:Nat,FnOk Pr w K mg base CX0 (n+0) t.dB t.dm gN (spP K (bo n))
 | 0=>fn0
 | n+1=>(tV (k:=n+0) tx (dH tx n) (by omega)).mono (by omega)
noncomputable def eX:PFn:=b9 3 3 (ot )
theorem lP (tx:Tx K mg t):FnOk Pr w K mg base CX0 1 t.gz t.gm jL (spP K eX):=wQ (k:=0) tx 
noncomputable def fN:PFn:=b9 3 4 (nt (bo 13) eX)
theorem kW (tx:Tx K mg t):FnOk Pr w K mg base CX0 14 t.fH t.fu i3 (spP K fN):=vR (k:=13) tx (dH tx 13) (by omega) (lP tx) (by omega)
noncomputable def bM:PFn:=b9 2 2 (ou )
theorem jP (tx:Tx K mg t):FnOk Pr w K mg base CX0 1 t.gA t.gn jM (spP K bM):=wR (k:=0) tx 
noncomputable def b0:PFn:=b9 2 3 (nr bM)
theorem fM (tx:Tx K mg t):FnOk Pr w K mg base CX0 2 t.fG t.fq i0 (spP K b0):=vQ (k:=1) tx (jP tx) (by omega)
noncomputable def ax:PFn:=b9 3 4 (j8 fN b0)
theorem iq (tx:Tx K mg t):FnOk Pr w K mg base CX0 15 t.cH t.cE fe (spP K ax):=rF (k:=14) tx (kW tx) (by omega) (fM tx) (by omega)
noncomputable def bf:DFn:=dN 2 4 (oq )
theorem iI (tx:Tx K mg t):FnOk Pr w K mg base CX0 1 t.gy t.gk jK (spM K (cl t) bf):=wP (k:=0) tx 
noncomputable def bz:DFn:=dN 6 9 (b7 ax bf)
theorem j3 (tx:Tx K mg t):FnOk Pr w K mg base CX0 16 t.eD t.d8 iz (spM K (cl t) bz):=uP (k:=15) tx (iq tx) (by omega) (iI tx) (by omega)
noncomputable def cr:DFn:=dN 1 1 (gF )
theorem gJ (tx:Tx K mg t):FnOk Pr w K mg base CX0 1 t.cn t.cg eL (spM K (cl t) cr):=qE (k:=0) tx 
noncomputable def ar:DFn:=dN 2 2 (jB cr)
theorem ay (tx:Tx K mg t):FnOk Pr w K mg base CX0 3 t.cm t.cf eJ (spM K (cl t) ar):=qD (k:=2) tx (gJ tx) (by omega)
noncomputable def aB:DFn:=dN 2 2 (hV )
theorem a6 (tx:Tx K mg t):FnOk Pr w K mg base CX0 1 t.bG t.bF cU (spM K (cl t) aB):=oT (k:=0) tx 
noncomputable def br:PFn:=b9 2 2 (lK )
theorem gC (tx:Tx K mg t):FnOk Pr w K mg base CX0 1 t.gx t.gj jJ (spP K br):=wO (k:=0) tx 
noncomputable def aL:PFn:=b9 2 3 (nX )
theorem bD (tx:Tx K mg t):FnOk Pr w K mg base CX0 1 t.jf t.jb lT (spP K aL):=yW (k:=0) tx 
noncomputable def dI:Nat→PFn
 | 0=>fun _=>none
 | n+1=>b9 2 4 (pM aL br (dI n))
theorem ki (tx:Tx K mg t):∀ n:Nat,FnOk Pr w K mg base CX0 (n+1) t.kg t.kf mZ (spP K (dI n))
 | 0=>fn0
 | n+1=>(Af (k:=n+1) tx (bD tx) (by omega) (gC tx) (by omega) (ki tx n) (by omega)).mono (by omega)
noncomputable def dQ:PFn:=b9 1 3 (mJ br (dI 13))
theorem mO (tx:Tx K mg t):FnOk Pr w K mg base CX0 15 t.ij t.ia kz (spP K dQ):=xL (k:=14) tx (gC tx) (by omega) (ki tx 13) (by omega)
noncomputable def aK:Nat→PFn
 | 0=>fun _=>none
 | n+1=>b9 2 3 (mI aL (aK n))
theorem bu (tx:Tx K mg t):∀ n:Nat,FnOk Pr w K mg base CX0 (n+1) t.ii t.h9 kx (spP K (aK n))
 | 0=>fn0
 | n+1=>(xK (k:=n+1) tx (bD tx) (by omega) (bu tx n) (by omega)).mono (by omega)
noncomputable def ba:PFn:=b9 3 3 (on aL)
theorem cT (tx:Tx K mg t):FnOk Pr w K mg base CX0 2 t.gu t.gh jH (spP K ba):=wM (k:=1) tx (bD tx) (by omega)
noncomputable def eW:PFn:=b9 2 2 (ol (aK 13) ba)
theorem lN (tx:Tx K mg t):FnOk Pr w K mg base CX0 15 t.gp t.gf jF (spP K eW):=wK (k:=14) tx (bu tx 13) (by omega) (cT tx) (by omega)
noncomputable def cC:PFn:=b9 2 6 (mK (aK 13) aL)
theorem kU (tx:Tx K mg t):FnOk Pr w K mg base CX0 15 t.im t.ie kC (spP K cC):=xO (k:=14) tx (bD tx) (by omega) (bu tx 13) (by omega)
noncomputable def eP:PFn:=b9 2 4 (pK )
theorem mQ (tx:Tx K mg t):FnOk Pr w K mg base CX0 1 t.ik t.ib kA (spP K eP):=xM (k:=0) tx 
noncomputable def dS:PFn:=b9 2 4 (nn cC (aK 13) ba eP)
theorem kS (tx:Tx K mg t):FnOk Pr w K mg base CX0 16 t.fE t.fm iY (spP K dS):=vO (k:=15) tx (bu tx 13) (by omega) (cT tx) (by omega) (kU tx) (by omega) (mQ tx) (by omega)
noncomputable def ji:PFn:=b9 1 2 (qS dQ eW ba dS)
theorem nY (tx:Tx K mg t):FnOk Pr w K mg base CX0 17 t.jd t.i9 lR (spP K ji):=yU (k:=16) tx (cT tx) (by omega) (mO tx) (by omega) (lN tx) (by omega) (kS tx) (by omega)
noncomputable def bA:PFn:=b9 3 3 (nq )
theorem kT (tx:Tx K mg t):FnOk Pr w K mg base CX0 1 t.fF t.fo iZ (spP K bA):=vP (k:=0) tx 
noncomputable def gD:PFn:=b9 3 5 (jN bA)
theorem lO (tx:Tx K mg t):FnOk Pr w K mg base CX0 2 t.gw t.gi jI (spP K gD):=wN (k:=1) tx (kT tx) (by omega)
noncomputable def nF:PFn:=b9 3 3 (xi ji gD)
theorem uG (tx:Tx K mg t):FnOk Pr w K mg base CX0 18 t.nA t.ny qz (spP K nF):=C8 (k:=17) tx (nY tx) (by omega) (lO tx) (by omega)
noncomputable def aV:PFn:=b9 3 4 (om nF (aK 13))
theorem cS (tx:Tx K mg t):FnOk Pr w K mg base CX0 19 t.gq t.gg jG (spP K aV):=wL (k:=18) tx (bu tx 13) (by omega) (uG tx) (by omega)
noncomputable def eU:PFn:=b9 2 5 (qT )
theorem jg (tx:Tx K mg t):FnOk Pr w K mg base CX0 1 t.je t.ja lS (spP K eU):=yV (k:=0) tx 
noncomputable def bh:DFn:=dN 2 4 (l9 eU)
theorem b8 (tx:Tx K mg t):FnOk Pr w K mg base CX0 2 t.eI t.eA iC (spM K (cl t) bh):=uS (k:=1) tx (jg tx) (by omega)
noncomputable def cP:DFn:=dN 5 7 (jm ar aB aV bh)
theorem jt (tx:Tx K mg t):FnOk Pr w K mg base CX0 20 t.dD t.dr gP (spM K (cl t) cP):=tX (k:=19) tx (ay tx) (by omega) (a6 tx) (by omega) (cS tx) (by omega) (b8 tx) (by omega)
noncomputable def ca:DFn:=dN 5 8 (jn ar aV bh aB)
theorem jv (tx:Tx K mg t):FnOk Pr w K mg base CX0 20 t.dF t.du gR (spM K (cl t) ca):=tZ (k:=19) tx (ay tx) (by omega) (a6 tx) (by omega) (cS tx) (by omega) (b8 tx) (by omega)
noncomputable def c8:DFn:=dN 2 3 (kM eU)
theorem iT (tx:Tx K mg t):FnOk Pr w K mg base CX0 2 t.cZ t.cX fS (spM K (cl t) c8):=sI (k:=1) tx (jg tx) (by omega)
noncomputable def cb:DFn:=dN 3 5 (lB )
theorem jw (tx:Tx K mg t):FnOk Pr w K mg base CX0 1 t.dG t.dw gS (spM K (cl t) cb):=t3 (k:=0) tx 
noncomputable def dU:DFn:=dN 5 9 (kL ar aV aB c8 cb bh)
theorem kY (tx:Tx K mg t):FnOk Pr w K mg base CX0 20 t.fK t.fB i5 (spM K (cl t) dU):=vU (k:=19) tx (ay tx) (by omega) (a6 tx) (by omega) (cS tx) (by omega) (b8 tx) (by omega) (iT tx) (by omega) (jw tx) (by omega)
noncomputable def cD:DFn:=dN 6 6 (iE cP ca dU)
theorem j4 (tx:Tx K mg t):FnOk Pr w K mg base CX0 21 t.eG t.ee iB (spM K (cl t) cD):=uR (k:=20) tx (jt tx) (by omega) (jv tx) (by omega) (kY tx) (by omega)
noncomputable def c7:PFn:=b9 2 2 (pL )
theorem io (tx:Tx K mg t):FnOk Pr w K mg base CX0 1 t.il t.ic kB (spP K c7):=xN (k:=0) tx 
noncomputable def bL:PFn:=b9 2 2 (lv c7)
theorem g9 (tx:Tx K mg t):FnOk Pr w K mg base CX0 2 t.dz t.dj gK (spP K bL):=tR (k:=1) tx (io tx) (by omega)
noncomputable def cv:DFn:=dN 2 3 (kN bL c7)
theorem iU (tx:Tx K mg t):FnOk Pr w K mg base CX0 3 t.c0 t.cY fT (spM K (cl t) cv):=sJ (k:=2) tx (io tx) (by omega) (g9 tx) (by omega)
noncomputable def bi:DFn:=dN 2 4 (ke cv)
theorem cK (tx:Tx K mg t):FnOk Pr w K mg base CX0 4 t.cJ t.cG fj (spM K (cl t) bi):=rH (k:=3) tx (iU tx) (by omega)
noncomputable def cL:DFn:=dN 2 2 (j9 ar)
theorem ir (tx:Tx K mg t):FnOk Pr w K mg base CX0 4 t.cI t.cF fg (spM K (cl t) cL):=rG (k:=3) tx (ay tx) (by omega)
noncomputable def dL:DFn:=dN 2 2 (lz ar)
theorem jr (tx:Tx K mg t):FnOk Pr w K mg base CX0 4 t.dC t.dq gO (spM K (cl t) dL):=tW (k:=3) tx (ay tx) (by omega)
noncomputable def dJ:DFn:=dN 1 16 (lx bp b6 cA ak bz cD b0 bi cL dL)
theorem jq (tx:Tx K mg t):FnOk Pr w K mg base CX0 22 t.dA t.dk gM (spM K (cl t) dJ):=tU (k:=21) tx (aS tx) (by omega) (fM tx) (by omega) (iH tx) (by omega) (bZ tx) (by omega) (jh tx) (by omega) (j3 tx) (by omega) (j4 tx) (by omega) (cK tx) (by omega) (ir tx) (by omega) (jr tx) (by omega)
noncomputable def jx:DFn:=dN 3 4 (o9 aL ar)
theorem ju (tx:Tx K mg t):FnOk Pr w K mg base CX0 4 t.dE t.dt gQ (spM K (cl t) jx):=tY (k:=3) tx (bD tx) (by omega) (ay tx) (by omega)
noncomputable def bO:DFn:=dN 0 3 (mE b6 jx bi)
theorem gI (tx:Tx K mg t):FnOk Pr w K mg base CX0 5 t.cj t.ce [] (spM K (cl t) bO):=qC (k:=4) tx (bZ tx) (by omega) (cK tx) (by omega) (ju tx) (by omega)
noncomputable def rh:DFn:=dN 1 1 (xh dJ bO)
theorem FE (tx:Tx K mg t):FnOk Pr w K mg base CX0 23 t.pj t.pe ["_law_script"] (spM K (cl t) rh):=C7 (k:=22) tx (jq tx) (by omega) (gI tx) (by omega)
end
end K24
namespace K24
noncomputable def chN (st:List (Nat×Nat)) (q:Nat):List Nat:=(st.filter fun x=>decide (x.2=q)).map (·.1)
noncomputable def tL:List (Nat×Nat)→Nat→Option Nat
 | [],_=>none
 | x::r,q=>if x.1=q then some x.2 else tL r q
noncomputable def BD (f:Nat→Option (List Nat)):List Nat→Option (List Nat)
 | []=>some []
 | x::r=>(f x).bind fun a=>(BD f r).bind fun b=>some (a++b)
noncomputable def zW (st:List (Nat×Nat)):Nat→Nat→Option (List Nat)
 | 0,_=>none
 | n+1,q=>(tL st q).bind fun p=>if p=0 then some [q] else (zW st n p).bind fun l=>if l.length+1≤3000000 then some (l++[q]) else none
noncomputable def Dq (st:List (Nat×Nat)):Nat→Nat→Option (List Nat)
 | 0,_=>none
 | n+1,q=>(tL st q).bind fun _=>(BD (Dq st n) (chN st q)).bind fun r=>if r.length+1≤3000000 then some (q::r) else none
noncomputable def D1 (st:List (Nat×Nat)):Option (List Nat):=(BD (Dq st 13) (chN st 0)).bind fun r=>if r.length≤3000000 then some r else none
noncomputable def stF (ps:List Nat):List (Nat×Nat):=(List.range ps.length).map fun i=>(i+1,ps.getD i 0)
noncomputable def par (ps:List Nat) (q:Nat):Nat:=ps.getD (q - 1) 0
structure uC (ps:List Nat):Prop where
 len:ps.length≤7
 par:∀ i,ps.getD i 0≤i
noncomputable def pF (ps:List Nat):Nat→Nat→List Nat
 | 0,_=>[]
 | n+1,q=>if q=0 then [] else pF ps n (par ps q)++[q]
noncomputable def P (ps:List Nat) (q:Nat):List Nat:=pF ps q q
noncomputable def blF (st:List (Nat×Nat)):Nat→Nat→List Nat
 | 0,_=>[]
 | n+1,q=>q::(chN st q).flatMap (blF st n)
noncomputable def kids (st:List (Nat×Nat)) (n a:Nat):List Nat:=(chN st a).flatMap (blF st n)
theorem sW {α β:Type} {f g:α→List β}:∀ {l:List α},(∀ x∈l,f x=g x)→l.flatMap f=l.flatMap g
 | [],_=>rfl
 | x::r,h=>by
  rw [MG,MG,h x L7,sW fun y hy=>h y (LX _ hy)]
theorem ut {α β:Type} {f:α→List β}:∀ {l:List α},(∀ x∈l,f x=[])→l.flatMap f=[]
 | [],_=>rfl
 | x::r,h=>by
  rw [MG,h x L7,ut fun y hy=>h y (LX _ hy)]; rfl
theorem qU {α β:Type} {f:α→List β} {b:Nat}:∀ {l:List α},(∀ x∈l,(f x).length≤b)→(l.flatMap f).length≤l.length*b
 | [],_=>by simp
 | x::r,h=>by
  have h1:=h x L7;have h2:=qU (l:=r) fun y hy=>h y (LX _ hy);rw [MG,LQ,L1,Nat.add_mul];omega
section
variable {ps:List Nat} (ok:uC ps)
theorem yP (n:Nat):pF ps n 0=[]:=by
 cases n with
 | zero=>rfl
 | succ n=>rfl
theorem qx (ok:uC ps) {q:Nat} (h:1≤q):par ps q < q:=by
 have:=ok.par (q - 1)
 unfold par;omega
include ok
theorem HB:∀ q n,q≤n→pF ps n q=pF ps q q:=by
 intro q
 induction q using Nat.strongRecOn with
 | _ q ih =>
  intro n hn;cases q with
  | zero=>rw [yP,yP]
  | succ j =>
   cases n with
   | zero=>omega
   | succ m =>
    have hp:=qx ok (q:=j+1) (by omega);unfold pF;rw [if_neg (by omega),if_neg (by omega),ih _ hp m (by omega),ih _ hp j (by omega)]
theorem tf {q:Nat} (h:1≤q):P ps q=P ps (par ps q)++[q]:=by
 obtain ⟨j,rfl⟩:∃ j,q=j+1:=⟨q - 1,by omega⟩;have hp:=qx ok (q:=j+1) h;unfold P;rw [pF,if_neg (by omega),HB ok _ j (by omega)]
omit ok in
theorem Bg:∀ n q,(pF ps n q).length≤n
 | 0,_=>by simp [pF]
 | n+1,q=>by
  have:=Bg n (par ps q)
  unfold pF
  split
  ·simp
  ·simp; omega
omit ok in
theorem yG {x:Nat×Nat} (h:x∈stF ps):1≤x.1∧x.1≤ps.length∧x.2=par ps x.1:=by
 obtain ⟨i,hi,rfl⟩:=M6.mp h
 have:=MN.mp hi
 refine ⟨by simp,by show i+1≤_; omega,?_⟩;show _=ps.getD (i+1 - 1) 0;rfl
omit ok in
theorem IR {q:Nat} (h1:1≤q) (h2:q≤ps.length):(q,par ps q)∈stF ps:=by
 refine M6.mpr ⟨q - 1,MN.mpr (by omega),?_⟩;unfold par;rw [show q - 1+1=q by omega]
omit ok in
theorem Cb {q p:Nat}:∀ {st:List (Nat×Nat)},(∀ y∈st,y.1=q→y.2=p)→(q,p)∈st→tL st q=some p
 | x::r,hu,hm=>by
  unfold tL;by_cases e:x.1=q
  ·rw [if_pos e,hu x L7 e]
  ·rw [if_neg e];rcases Mb.mp hm with z | z
   ·exact absurd (by rw [← z]) e
   ·exact Cb (fun y hy=>hu y (LX _ hy)) z
omit ok in
theorem wj {q:Nat} (h1:1≤q) (h2:q≤ps.length):tL (stF ps) q=some (par ps q) :=
 Cb (fun y hy e=>by rw [(yG hy).2.2,e]) (IR h1 h2)
theorem B0:∀ n q,n≤13→1≤q→q≤ps.length→q≤n→zW (stF ps) n q=some (pF ps n q)
 | 0,q,_,h1,_,h3=>by omega
 | n+1,q,hn,h1,h2,h3=>by
  have hp:=qx ok h1;unfold zW pF;rw [wj h1 h2,LM,if_neg (show ¬ q=0 by omega)];by_cases e:par ps q=0
  ·rw [if_pos e,e,yP]; rfl
  ·rw [if_neg e,B0 n _ (by omega) (by omega) (by omega) (by omega),LM]
   have:=Bg (ps:=ps) n (par ps q)
   rw [if_pos (by omega)]
theorem Gp {q:Nat} (h1:1≤q) (h2:q≤ps.length):zW (stF ps) 13 q=some (P ps q):=by
 have:=ok.len
 rw [B0 ok 13 q (by omega) h1 h2 (by omega),HB ok q 13 (by omega)]; rfl
theorem fC {a x:Nat} (h:x∈chN (stF ps) a):1≤x∧x≤ps.length∧par ps x=a∧a < x:=by
 obtain ⟨y,hy,rfl⟩:=M6.mp h;obtain ⟨h1,h2⟩:=Mr.mp hy;have h3:=yG h1;have h4:=qx ok h3.1;have h5:y.2=a:=by simpa using h2
 exact ⟨h3.1,h3.2.1,by rw [← h3.2.2,h5],by rw [← h5,h3.2.2]; exact h4⟩
theorem zl (a:Nat):(chN (stF ps) a).length≤7:=by
 unfold chN;rw [LO];refine L9 (MJ ..) ?_;unfold stF;rw [LO,Mx];exact ok.len
omit ok in
theorem zm {f:Nat→Option (List Nat)} {g:Nat→List Nat}:∀ {xs:List Nat},(∀ x∈xs,f x=some (g x))→BD f xs=some (xs.flatMap g)
 | [],_=>rfl
 | x::r,h=>by
  unfold BD;rw [h x L7,LM,zm fun y hy=>h y (LX _ hy)]
  simp
theorem uv:∀ n q,1≤q→q≤ps.length→ps.length < n+q→(blF (stF ps) n q).length≤8 ^ (ps.length - q)
 | 0,q,_,h2,h3=>by omega
 | n+1,q,h1,h2,h3=>by
  unfold blF;rw [L1];by_cases e:q=ps.length
  ·have:(chN (stF ps) q)=[]:=by
    rw [List.eq_nil_iff_forall_not_mem];intro x hx
    have:=fC ok hx
    omega
   rw [this,e]; simp
  ·obtain ⟨k,hk⟩:∃ k,ps.length - q=k+1:=⟨ps.length - q - 1,by omega⟩;have h4:=qU (f:=blF (stF ps) n) (b:=8 ^ k) (l:=chN (stF ps) q) fun x hx=>by
    have hm:=fC ok hx;exact L9 (uv n x hm.1 hm.2.1 (by omega)) (Nat.pow_le_pow_right (by decide) (by omega))
   have h5:=zl ok q;have h6:(chN (stF ps) q).length*8 ^ k≤7*8 ^ k:=Nat.mul_le_mul_right _ h5;have h7:0 < 8 ^ k:=Nat.pow_pos (by decide);rw [hk,Nat.pow_succ];omega
theorem wg {q:Nat} (h1:1≤q):8 ^ (ps.length - q)≤262144:=by
 have:=ok.len
 exact L9 (Nat.pow_le_pow_right (by decide) (show ps.length - q≤6 by omega)) (by decide)
theorem CJ:∀ n q,1≤q→q≤ps.length→ps.length < n+q→Dq (stF ps) n q=some (blF (stF ps) n q)
 | 0,q,_,h2,h3=>by omega
 | n+1,q,h1,h2,h3=>by
  have hl:=uv ok (n+1) q h1 h2 h3;unfold blF at hl;rw [L1] at hl;have hp:=wg ok h1;unfold Dq blF;rw [wj h1 h2,LM,zm (g:=blF (stF ps) n) fun x hx=>CJ n x (fC ok hx).1 (fC ok hx).2.1 (by have:=fC ok hx; omega),LM,if_pos (by omega)]
theorem As:(kids (stF ps) 13 0).length≤3000000:=by
 have:=ok.len
 have h4:=qU (f:=blF (stF ps) 13) (b:=262144) (l:=chN (stF ps) 0) fun x hx=>L9 (uv ok 13 x (fC ok hx).1 (fC ok hx).2.1 (by omega)) (wg ok (fC ok hx).1);have h5:=zl ok 0;unfold kids;omega
theorem IC:D1 (stF ps)=some (kids (stF ps) 13 0):=by
 have:=ok.len
 have hl:=As ok;unfold kids at hl;unfold D1;rw [zm (g:=blF (stF ps) 13) fun x hx=>CJ ok 13 x (fC ok hx).1 (fC ok hx).2.1 (by have:=fC ok hx; omega),LM,if_pos hl];rfl
theorem w8 {x n a:Nat} (h:x∈kids (stF ps) n a):1≤x∧x≤ps.length:=by
 induction n generalizing a x with
 | zero =>
  obtain ⟨y,_,hy⟩:=List.mem_flatMap.mp h;cases hy
 | succ n ih =>
  obtain ⟨y,hy,hx⟩:=List.mem_flatMap.mp h;rcases Mb.mp hx with rfl | z
  ·exact ⟨(fC ok hy).1,(fC ok hy).2.1⟩
  ·exact ih z
end
noncomputable abbrev Ar:=Int×Int×Int×Int
noncomputable abbrev Row:=Nat×Ar×List Ar
structure Geo where
 L:Nat→Int
 T:Nat→Int
 W:Nat→Int
 H:Nat→Int
 c:Nat→Bool
 h:Nat→Bool
 l:Nat→Bool
noncomputable def Geo.at (g:Geo) (l t:Int) (x:Nat):Ar:=(l+g.L x,t+g.T x,l+g.L x+g.W x,t+g.T x+g.H x)
noncomputable def spF (g:Geo) (st:List (Nat×Nat)):Nat→Nat→Int→Int→List Ar→List Row
 | 0,_,_,_,_=>[]
 | n+1,a,l,t,cu=>(chN st a).flatMap fun x=>if g.h x=true then [] else (x,g.at l t x,cu++[g.at l t x])::spF g st n x (l+g.L x) (t+g.T x) (cu++if g.c x=true then [g.at l t x] else [])
section
variable (g:Geo) (ps:List Nat)
noncomputable def Geo.sL (q:Nat):Int:=((P ps q).map g.L).sum
noncomputable def Geo.sT (q:Nat):Int:=((P ps q).map g.T).sum
noncomputable def Geo.area (q:Nat):Ar:=(g.sL ps q,g.sT ps q,g.sL ps q+g.W q,g.sT ps q+g.H q)
noncomputable def Geo.cuts (a:Nat):List Ar:=((P ps a).filter g.c).map (g.area ps)
noncomputable def Geo.shown (q:Nat):Bool:=(P ps q).all fun x=>!g.h x
noncomputable def Geo.row (x:Nat):Row:=(x,g.area ps x,g.cuts ps (par ps x)++[g.area ps x])
end
section
variable {g:Geo} {ps:List Nat} (ok:uC ps)
include ok
theorem Hu {x:Nat} (h:1≤x):g.sL ps x=g.sL ps (par ps x)+g.L x:=by
 unfold Geo.sL;rw [tf ok h,Mo,List.sum_append]; simp
theorem Ht {x:Nat} (h:1≤x):g.sT ps x=g.sT ps (par ps x)+g.T x:=by
 unfold Geo.sT;rw [tf ok h,Mo,List.sum_append]; simp
theorem KK {x:Nat} (h:1≤x):g.at (g.sL ps (par ps x)) (g.sT ps (par ps x)) x=g.area ps x:=by
 unfold Geo.at Geo.area;rw [Hu ok h,Ht ok h]
theorem zM {x:Nat} (h:1≤x):g.shown ps x=(g.shown ps (par ps x)&&!g.h x):=by
 unfold Geo.shown;rw [tf ok h,List.all_append]; simp
theorem CF {x:Nat} (h:1≤x):g.cuts ps x=g.cuts ps (par ps x)++if g.c x=true then [g.area ps x] else []:=by
 unfold Geo.cuts;rw [tf ok h,List.filter_append,Mo]
 congr 1
 cases hc:g.c x <;> simp [hc]
theorem ET:∀ n a,g.shown ps a=false→(kids (stF ps) n a).filter (g.shown ps)=[]:=by
 intro n
 induction n with
 | zero =>
  intro a _
  have:kids (stF ps) 0 a=[]:=ut fun _ _=>rfl
  rw [this]; rfl
 | succ n ih =>
  intro a ha;unfold kids;rw [List.filter_flatMap];refine ut fun x hx=>?_;have hm:=fC ok hx;have hs:g.shown ps x=false:=by rw [zM ok hm.1,hm.2.2.1,ha]; rfl
  show List.filter _ (x::kids (stF ps) n x)=[];rw [MB,hs,ih x hs]; rfl
theorem CZ:∀ n a,g.shown ps a=true→spF g (stF ps) n a (g.sL ps a) (g.sT ps a) (g.cuts ps a)=((kids (stF ps) n a).filter (g.shown ps)).map (g.row ps):=by
 intro n
 induction n with
 | zero =>
  intro a _
  have:kids (stF ps) 0 a=[]:=ut fun _ _=>rfl
  rw [this]; rfl
 | succ n ih =>
  intro a ha;unfold kids spF;rw [List.filter_flatMap,List.map_flatMap];refine sW fun x hx=>?_;have hm:=fC ok hx;obtain ⟨h1,h2,rfl,h4⟩:=hm;have hs:g.shown ps x=!g.h x:=by rw [zM ok h1,ha]; rfl
  rw [KK ok h1];show _=List.map _ (List.filter _ (x::kids (stF ps) n x));cases hh:g.h x with
  | true =>
   rw [hh] at hs;rw [if_pos rfl,MB,hs,ET ok n x hs]; rfl
  | false =>
   rw [hh] at hs;have e1:List.filter (g.shown ps) (x::kids (stF ps) n x)=x::List.filter (g.shown ps) (kids (stF ps) n x):=Nr hs;rw [if_neg (show ¬ false=true by decide),e1,LW,← ih x hs,← CF ok h1,← Hu ok h1,← Ht ok h1];rfl
end
noncomputable def rM (a:Ar) (x y:Int):Bool:=decide (a.1≤x)&&decide (x < a.2.2.1)&&(decide (a.2.1≤y)&&decide (y < a.2.2.2))
noncomputable def ovl (a b:Ar):Ar:=(max a.1 b.1,max a.2.1 b.2.1,min a.2.2.1 b.2.2.1,min a.2.2.2 b.2.2.2)
theorem Ju:∀ a b c d:Bool,((a&&b)&&(c&&d))=((a&&c)&&(b&&d)):=by decide
theorem EV (a b:Ar) (x y:Int):rM (ovl a b) x y=(rM a x y&&rM b x y):=by
 have h1:∀ p q r:Int,decide (max p q≤r)=(decide (p≤r)&&decide (q≤r)):=fun p q r=>by
  rw [Bool.eq_iff_iff,Ms,decide_eq_true_eq,decide_eq_true_eq,decide_eq_true_eq];exact Int.max_le
 have h2:∀ p q r:Int,decide (r < min p q)=(decide (r < p)&&decide (r < q)):=fun p q r=>by
  rw [Bool.eq_iff_iff,Ms,decide_eq_true_eq,decide_eq_true_eq,decide_eq_true_eq];exact Int.lt_min
 unfold rM ovl;dsimp only;rw [h1,h1,h2,h2,Ju (decide (a.1≤x)),Ju (decide (a.2.1≤y)),Ju]
noncomputable def A4 (g:Geo) (ps:List Nat):List Nat→Ar→Ar
 | [],w=>w
 | s::r,w=>A4 g ps r (if g.c s=true then ovl w (g.area ps s) else w)
noncomputable def Geo.wnd (g:Geo) (ps:List Nat) (q:Nat):Ar:=A4 g ps (P ps q) (g.area ps q)
theorem zC (g:Geo) (ps:List Nat) (x y:Int):∀ l w,rM (A4 g ps l w) x y=(rM w x y&&((l.filter g.c).map (g.area ps)).all fun a=>rM a x y)
 | [],w=>by simp [A4]
 | s::r,w=>by
  unfold A4;rw [zC g ps x y r,MB];cases hc:g.c s with
  | false=>rfl
  | true =>
   rw [if_pos rfl,if_pos rfl,EV,LW,MY,Bool.and_assoc]
noncomputable def Geo.tch (g:Geo) (ps:List Nat) (x y:Int) (q:Nat):Bool:=(g.row ps q).2.2.all fun a=>rM a x y
theorem FK {g:Geo} {ps:List Nat} (ok:uC ps) {q:Nat} (h:1≤q) (x y:Int):rM (g.wnd ps q) x y=g.tch ps x y q:=by
 unfold Geo.wnd Geo.tch Geo.row;rw [zC];show (_&&(g.cuts ps q).all _)=_;rw [CF ok h,List.all_append];dsimp only;rw [List.all_append];generalize (g.cuts ps (par ps q)).all (fun a=>rM a x y)=u;cases g.c q
 ·simp [Bool.and_comm]
 ·cases h2:rM (g.area ps q) x y <;> simp [h2]
noncomputable def Geo.hits (g:Geo) (ps:List Nat) (x y:Int):List Nat:=(((kids (stF ps) 13 0).reverse.filter (g.shown ps)).filter fun q=>!g.l q).filter (g.tch ps x y)
theorem ES (g:Geo) (ps:List Nat) (x y:Int):((((kids (stF ps) 13 0).filter (g.shown ps)).filter fun q=>!g.l q&&g.tch ps x y q)).reverse=g.hits ps x y:=by
 unfold Geo.hits;rw [← List.filter_reverse,← List.filter_reverse];generalize List.filter (g.shown ps) _=A;rw [List.filter_filter]
 congr 1
 funext q
 rw [Bool.and_comm]
noncomputable def z0 (ps:List Nat):List Nat:=kids (stF ps) 13 0
noncomputable abbrev In (ps:List Nat) (q:Nat):Prop:=1≤q∧q≤ps.length
theorem P_in' {ps:List Nat} (ok:uC ps) {x:Nat}:∀ q,In ps q→x∈P ps q→In ps x:=by
 intro q
 induction q using Nat.strongRecOn with
 | _ q ih =>
  intro hq hx;rw [tf ok hq.1] at hx;rcases MH.mp hx with z | z
  ·have hp:=qx ok hq.1;by_cases e:par ps q=0
   ·rw [e] at z;cases z
   ·exact ih _ hp ⟨by omega,by have:=hq.2; omega⟩ z
  ·have:x=q:=by simpa using z
   rw [this]; exact hq
theorem IX {ps:List Nat} (ok:uC ps):(z0 ps).length≤2000000:=by
 have:=ok.len
 have h4:=qU (f:=blF (stF ps) 13) (b:=262144) (l:=chN (stF ps) 0) fun x hx=>L9 (uv ok 13 x (fC ok hx).1 (fC ok hx).2.1 (by omega)) (wg ok (fC ok hx).1);have h5:=zl ok 0;unfold z0 kids;omega
noncomputable def tkL (g:Geo) (ps pnt:List Nat):List Nat:=(pnt.reverse.filter (g.shown ps)).filter fun q=>!g.l q
noncomputable def zb (g:Geo) (ps pnt:List Nat) (x y:Int):List Nat:=(tkL g ps pnt).filter (g.tch ps x y)
end K24
namespace K24
open PySem L2 L2.PU
theorem iS {ι:Type} {t:En→PyData→Option En} {p:En→Option Bool} {f:En→Option PyData} {η:En} (D:ι→PyData) (P:ι→Bool) (Y:ι→PyData) :
  ∀ xs:List ι,(∀ x∈xs,∃ η1,t η (D x)=some η1∧p η1=some (P x)∧(P x=true→f η1=some (Y x)))→cGo t p f η (xs.map D)=some ((xs.filter P).map Y)
 | [],_=>rfl
 | x::r,h=>by
  obtain ⟨η1,h1,h2,h3⟩:=h x L7;have ih:=iS D P Y r fun y hy=>h y (LX _ hy);rw [LW];unfold cGo;rw [h1,LM,h2,LM,ih,MB];cases hP:P x with
  | false=>rfl
  | true=>rw [if_pos rfl,h3 hP]; rfl
structure Sc where
 st:List (Nat×Nat)
 nm:Nat→Str
 L:Nat→Int
 T:Nat→Int
 W:Nat→Int
 H:Nat→Int
 mr:Nat→Str
structure Sc.Ok (c:Sc):Prop where
 inj:∀ a b,c.nm a=c.nm b→a=b
 top:c.nm 0 = ""
 ok:∀ a,PyData.strOk (c.nm a)=true
 okm:∀ a,PyData.strOk (c.mr a)=true
 len:c.st.length≤12
noncomputable def Sc.box (c:Sc) (x:Nat×Nat):PyData:=.tuple [.str (c.nm x.1),.str (c.nm x.2),.int (c.L x.1),.int (c.T x.1),.int (c.W x.1),.int (c.H x.1),.str (c.mr x.1)]
noncomputable def Sc.d (c:Sc):PyData:=.tuple (c.st.map c.box)
noncomputable def Sc.s (c:Sc) (q:Nat):PyData:=.str (c.nm q)
noncomputable def Sc.S (c:Sc) (l:List Nat):PyData:=.list (l.map c.s)
theorem str_dec (a b:Str):(a==b)=decide (a=b):=rfl
theorem lc {a:Str} (h:PyData.strOk a=true):SeqAt.shaped (.str a)=true:=by
 simp [SeqAt.shaped,PyData.canLay0,PyData.depth,h]
theorem Gu {a b:Str} (ha:PyData.strOk a=true) (hb:PyData.strOk b=true):pEq (.str a) (.str b)=some (.bool (decide (a=b))):=by
 unfold pEq;rw [if_pos ⟨lc ha,lc hb⟩];simp [PyData.eqv,str_dec]
theorem Ce {a b:Str} (ha:PyData.strOk a=true) (hb:PyData.strOk b=true):pNe (.str a) (.str b)=some (.bool (!decide (a=b))):=by
 unfold pNe;rw [if_pos ⟨lc ha,lc hb⟩];simp [PyData.eqv,str_dec]
section
variable {c:Sc} (h:c.Ok)
include h
theorem Sc.Ok.dec (a b:Nat):decide (c.nm a=c.nm b)=decide (a=b):=by
 by_cases e:a=b
 ·subst e; simp
 ·have:¬ c.nm a=c.nm b:=fun z=>e (h.inj _ _ z)
  rw [decide_eq_false this,decide_eq_false e]
theorem Sc.Ok.eqs (a b:Nat):pEq (c.s a) (c.s b)=some (.bool (decide (a=b))):=by
 unfold Sc.s;rw [Gu (h.ok a) (h.ok b),h.dec]
theorem Sc.Ok.nes (a b:Nat):pNe (c.s a) (c.s b)=some (.bool (!decide (a=b))):=by
 unfold Sc.s;rw [Ce (h.ok a) (h.ok b),h.dec]
theorem Sc.Ok.eq0 (a:Nat):pEq (c.s a) (.str "")=some (.bool (decide (a=0))):=by
 have:=h.eqs a 0
 unfold Sc.s at this ⊢;rw [h.top] at this;exact this
theorem Sc.Ok.ne0 (a:Nat):pNe (c.s a) (.str "")=some (.bool (!decide (a=0))):=by
 have:=h.nes a 0
 unfold Sc.s at this ⊢;rw [h.top] at this;exact this
theorem Sc.Ok.canAll (l:List Nat):PyData.canLayAll0 (l.map c.s)=true:=by
 induction l with
 | nil=>rfl
 | cons x r ih=>simp [PyData.canLayAll0,Sc.s,PyData.canLay0,h.ok x]; simpa [Sc.s] using ih
omit h in
theorem BA (l:List Nat):PyData.depthAll (l.map c.s)=0:=by
 induction l with
 | nil=>rfl
 | cons x r ih=>simp [PyData.depthAll,Sc.s,PyData.depth]; simpa [Sc.s] using ih
theorem Sc.Ok.shS (l:List Nat):SeqAt.shaped (c.S l)=true:=by
 simp [SeqAt.shaped,Sc.S,PyData.canLay0,PyData.depth,h.canAll l,BA]
theorem Sc.Ok.eqvS:∀ (l m:List Nat),PyData.eqvAll (l.map c.s) (m.map c.s)=decide (l=m)
 | [],[]=>by simp [PyData.eqvAll]
 | [],_::_=>by simp [PyData.eqvAll]
 | _::_,[]=>by simp [PyData.eqvAll]
 | x::r,y::t=>by
  have ih:=Sc.Ok.eqvS r t;rw [LW,LW];unfold PyData.eqvAll;rw [ih];unfold Sc.s PyData.eqv;rw [str_dec,h.dec];by_cases e:x=y
  ·subst e; simp
  ·simp [e]
theorem Sc.Ok.neS (l m:List Nat):pNe (c.S l) (c.S m)=some (.bool (!decide (l=m))):=by
 unfold pNe;rw [if_pos ⟨h.shS l,h.shS m⟩];unfold Sc.S PyData.eqv;rw [h.eqvS]
end
theorem big {n:Nat} (h:n≤3000000):n≤sizeLine:=L9 h (by show 3000000≤2 ^ 24; decide)
section
variable {c:Sc} (h:c.Ok)
include h
theorem Iq:(c.st.map c.box).length≤sizeLine:=by
 rw [LO];exact big (L9 h.len (by decide))
theorem sF (q:Nat):br [c.d,c.s q]=some (c.S (chN c.st q)):=by
 unfold br b9;rw [if_pos (by rfl)];show (lK [.val c.d,.val (c.s q)]).bind _=_;have e:cGo (tgN 0) (bT (l2 pEq (l2 pIx (eV 0) (eC (.int 1))) (eV 1))) (l2 pIx (eV 0) (eC (.int 0))) [.un,.val (c.s q)] (c.st.map c.box)=some ((c.st.filter fun x=>decide (x.2=q)).map fun x=>c.s x.1):=by
  refine iS c.box (fun x=>decide (x.2=q)) (fun x=>c.s x.1) _ fun x _=>⟨_,rfl,?_,fun _=>rfl⟩;show (pEq (c.s x.2) (c.s q)).bind asB=_;rw [h.eqs]; rfl
 have e2:bH [none,some 1] (lI oB (eV 0)) (tgN 0) (bT (l2 pEq (l2 pIx (eV 0) (eC (.int 1))) (eV 1))) (l2 pIx (eV 0) (eC (.int 0))) [.val c.d,.val (c.s q)]=some ((c.st.filter fun x=>decide (x.2=q)).map fun x=>c.s x.1):=by
  show (if (c.st.map c.box).length≤sizeLine then cGo _ _ _ _ _ else none)=_;rw [if_pos (Iq h)];exact e
 unfold lK f9 oE;rw [e2];show some (PyData.list _)=some (PyData.list _);unfold chN;rw [Ml]; rfl
theorem Fi (q p:Nat):∀ (l:List (Nat×Nat)),tL l q=some p→∀ s:Sl,sGo (tgN 2) (sIf (bT (l2 pEq (l2 pIx (eV 2) (eC (.int 0))) (eV 1))) (f9 (eV 2)) sNx) (l.map c.box) [.val c.d,.val (c.s q),s]=some (.rt (c.box (q,p)))
 | x::r,hm,s=>by
  rw [LW];unfold sGo;have et:tgN 2 [.val c.d,.val (c.s q),s] (c.box x)=some [.val c.d,.val (c.s q),.val (c.box x)]:=rfl;rw [et,LM];have eb:(bT (l2 pEq (l2 pIx (eV 2) (eC (.int 0))) (eV 1))) [.val c.d,.val (c.s q),.val (c.box x)]=some (decide (x.1=q)):=by
   show (pEq (c.s x.1) (c.s q)).bind asB=_;rw [h.eqs]; rfl
  unfold sIf;rw [eb,LM];unfold tL at hm;by_cases e:x.1=q
  ·rw [if_pos e] at hm;cases hm;rw [if_pos (by simpa using e)];subst e;rfl
  ·rw [if_neg e] at hm;rw [if_neg (by simpa using e)];show sGo _ _ (r.map c.box) _=_;exact Fi q p r hm _
theorem rg {q p:Nat} (h1:tL c.st q=some p):aL [c.d,c.s q]=some (c.box (q,p)):=by
 unfold aL b9;rw [if_pos (by rfl)];show (nX [.val c.d,.val (c.s q),.un]).bind _=_;have e2:pz (lI oB (eV 0)) (tgN 2) (sIf (bT (l2 pEq (l2 pIx (eV 2) (eC (.int 0))) (eV 1))) (f9 (eV 2)) sNx) [.val c.d,.val (c.s q),.un]=some (.rt (c.box (q,p))):=Fi h q p c.st h1 .un;unfold nX cw;rw [e2]; rfl
theorem vm:∀ (n q:Nat) (l:List Nat),zW c.st n q=some l→aK n [c.d,c.s q]=some (c.S l)
 | n+1,q,l,e=>by
  unfold zW at e;obtain ⟨p,hq,e⟩:=bind_some e
  ·unfold aK b9;rw [if_pos (by rfl)];show (mI aL (aK n) [.val c.d,.val (c.s q),.un]).bind _=_;have eb:=rg h hq;have e1:dY 2 (l2 pIx (lA aL (aC (eV 0) (aC (eV 1) aN))) (eC (.int 1))) [.val c.d,.val (c.s q),.un]=some (.nx [.val c.d,.val (c.s q),.val (c.s (p))]):=by
    show ((aL [c.d,c.s q]).bind fun x=>_).bind _=_;rw [eb]; rfl
   have e2:(bT (l2 pEq (eV 2) (eC (.str "")))) [.val c.d,.val (c.s q),.val (c.s (p))]=some (decide (p=0)):=by
    show (pEq (c.s (p)) (.str "")).bind asB=_;rw [h.eq0]; rfl
   unfold mI cw;rw [e1,LM];show L0 (L0 (sIf _ _ _ _) _) _=_;unfold sIf;rw [e2,LM];split at e
   ·rename_i h0;cases e;rw [if_pos (by simpa using h0)];rfl
   ·rename_i h0;rw [if_neg (by simpa using h0)];obtain ⟨m,hm,e⟩:=bind_some e;split at e
    ·rename_i hl;cases e;have ih:=vm n _ m hm;show L0 (f9 _ _) _=_;have e3:f9 (l2 aG (lA (aK n) (aC (eV 0) (aC (eV 2) aN))) (oE (fun η=>((aC (eV 1) aN) η).bind gL))) [.val c.d,.val (c.s q),.val (c.s (p))]=some (.rt (c.S (m++[q]))):=by
      show (((aK n) [c.d,c.s (p)]).bind fun x=>(oE _ _).bind fun y=>aG x y).bind _=_;rw [ih,LM];show ((aG (c.S m) (.list [c.s q])).bind _)=_;unfold Sc.S aG;dsimp only;rw [if_pos (by rw [LO]; exact big hl)];simp [Sc.S]
     rw [e3]; rfl
    ·cases e
theorem AW {F:PFn} {f:Nat→Option (List Nat)} (hF:∀ x l,f x=some l→F [c.d,c.s x]=some (c.S l)) (q:Nat) :
  ∀ (xs r:List Nat),BD f xs=some r→∀ (done:List Nat) (s3:Sl),done.length+r.length≤3000000→∃ s3',sGo (tgN 3) (wC 2 (lI asL (lA F (aC (eV 0) (aC (eV 3) aN))))) (xs.map c.s) [.val c.d,.val (c.s q),.own (done.map c.s),s3]=some (.nx [.val c.d,.val (c.s q),.own ((done++r).map c.s),s3'])
 | [],r,e,done,s3,_=>by
  cases e;exact ⟨s3,by rw [Mn]; rfl⟩
 | x::xs,r,e,done,s3,hl=>by
  obtain ⟨a,ea,e⟩:=bind_some e;obtain ⟨b,eb,e⟩:=bind_some e;cases e;rw [LQ] at hl;obtain ⟨s3',ih⟩:=AW hF q xs b eb (done++a) (.val (c.s x)) (by rw [LQ]; omega);refine ⟨s3',?_⟩;have e1:wC 2 (lI asL (lA F (aC (eV 0) (aC (eV 3) aN)))) [.val c.d,.val (c.s q),.own (done.map c.s),.val (c.s x)]=some (.nx [.val c.d,.val (c.s q),.own ((done++a).map c.s),.val (c.s x)]):=by
   show L0 (L0 (F [c.d,c.s x]) asL) _=_;rw [hF x a ea];show (if (done.map c.s).length+(a.map c.s).length≤sizeLine then _ else _)=_;rw [if_pos (by rw [LO,LO]; exact big (by omega)),Mo];rfl
  rw [LW];unfold sGo;show L0 (wC 2 _ [.val c.d,.val (c.s q),.own (done.map c.s),.val (c.s x)]) _=_;rw [e1,LM];show sGo _ _ _ _=_;rw [ih,Mw]
theorem Ad {F:PFn} {f:Nat→Option (List Nat)} (hF:∀ x l,f x=some l→F [c.d,c.s x]=some (c.S l)) :
  ∀ (xs r:List Nat),BD f xs=some r→∀ (done:List Nat) (s3:Sl),done.length+r.length≤3000000→∃ s3',sGo (tgN 2) (wC 1 (lI asL (lA F (aC (eV 0) (aC (eV 2) aN))))) (xs.map c.s) [.val c.d,.own (done.map c.s),s3]=some (.nx [.val c.d,.own ((done++r).map c.s),s3'])
 | [],r,e,done,s3,_=>by
  cases e;exact ⟨s3,by rw [Mn]; rfl⟩
 | x::xs,r,e,done,s3,hl=>by
  obtain ⟨a,ea,e⟩:=bind_some e;obtain ⟨b,eb,e⟩:=bind_some e;cases e;rw [LQ] at hl;obtain ⟨s3',ih⟩:=Ad hF xs b eb (done++a) (.val (c.s x)) (by rw [LQ]; omega);refine ⟨s3',?_⟩;have e1:wC 1 (lI asL (lA F (aC (eV 0) (aC (eV 2) aN)))) [.val c.d,.own (done.map c.s),.val (c.s x)]=some (.nx [.val c.d,.own ((done++a).map c.s),.val (c.s x)]):=by
   show L0 (L0 (F [c.d,c.s x]) asL) _=_;rw [hF x a ea];show (if (done.map c.s).length+(a.map c.s).length≤sizeLine then _ else _)=_;rw [if_pos (by rw [LO,LO]; exact big (by omega)),Mo];rfl
  rw [LW];unfold sGo;show L0 (wC 1 _ [.val c.d,.own (done.map c.s),.val (c.s x)]) _=_;rw [e1,LM];show sGo _ _ _ _=_;rw [ih,Mw]
theorem xF:∀ (n q:Nat) (l:List Nat),Dq c.st n q=some l→dI n [c.d,c.s q]=some (c.S l)
 | n+1,q,l,e=>by
  unfold Dq at e;obtain ⟨p,hq,e⟩:=bind_some e
  ·obtain ⟨r,hr,e⟩:=bind_some e;split at e
   ·rename_i hl;cases e;unfold dI b9;rw [if_pos (by rfl)];show (pM aL br (dI n) [.val c.d,.val (c.s q),.un,.un]).bind _=_;have eb:=rg h hq;have e1:ml 2 (fun η=>((aC (l2 pIx (lA aL (aC (eV 0) (aC (eV 1) aN))) (eC (.int 0))) aN) η).bind gL) [.val c.d,.val (c.s q),.un,.un]=some (.nx [.val c.d,.val (c.s q),.own [c.s q],.un]):=by
     show L0 (L0 (L0 (L0 (aL [c.d,c.s q]) _) _) _) _=_;rw [eb];rfl
    obtain ⟨s3',e2⟩:=AW h (xF n) q (chN c.st q) r hr [q] .un (by simpa [Nat.add_comm] using hl);have e3:pz (lI asL (lA br (aC (eV 0) (aC (eV 1) aN)))) (tgN 3) (wC 2 (lI asL (lA (dI n) (aC (eV 0) (aC (eV 3) aN))))) [.val c.d,.val (c.s q),.own [c.s q],.un]=some (.nx [.val c.d,.val (c.s q),.own (([q]++r).map c.s),s3']):=by
     show L0 (L0 (br [c.d,c.s q]) asL) _=_;rw [sF h];exact e2
    unfold pM cw;rw [e1,LM];show L0 (L0 (pz _ _ _ _) _) _=_;rw [e3];rfl
   ·cases e
theorem zA {l:List Nat} (e:D1 c.st=some l):dQ [c.d]=some (c.S l):=by
 unfold D1 at e;obtain ⟨r,hr,e⟩:=bind_some e;split at e
 ·rename_i hl;cases e;unfold dQ b9;rw [if_pos (by rfl)];show (mJ br (dI 13) [.val c.d,.un,.un]).bind _=_;obtain ⟨s3',e2⟩:=Ad h (xF h 13) (chN c.st 0) l hr [] .un (by simpa using hl);have e3:pz (lI asL (lA br (aC (eV 0) (aC (eC (.str "")) aN)))) (tgN 2) (wC 1 (lI asL (lA (dI 13) (aC (eV 0) (aC (eV 2) aN))))) [.val c.d,.own [],.un]=some (.nx [.val c.d,.own (l.map c.s),s3']):=by
   show L0 (L0 (br [c.d,.str ""]) asL) _=_
   have:=sF h 0
   unfold Sc.s at this;rw [h.top] at this;rw [this];exact e2
  unfold mJ cw;show L0 (L0 (pz _ _ _ [.val c.d,.own [],.un]) _) _=_;rw [e3];rfl
 ·cases e
end
noncomputable def Sd (ns:List Int):PyData:=.list (ns.map PyData.int)
theorem AU:∀ ns:List Int,PyData.canLayAll0 (ns.map PyData.int)=true
 | []=>rfl
 | _::r=>by
  have ih:=AU r;simpa [PyData.canLayAll0,PyData.canLay0] using ih
theorem AJ:∀ ns:List Int,PyData.depthAll (ns.map PyData.int)=0
 | []=>rfl
 | _::r=>by
  have ih:=AJ r;simpa [PyData.depthAll,PyData.depth] using ih
theorem zN (ns:List Int):SeqAt.shaped (.list (ns.map PyData.int))=true:=by
 simp [SeqAt.shaped,PyData.canLay0,PyData.depth,AU,AJ]
theorem wv (i:Int):SeqAt.shaped (.int i)=true:=by simp [SeqAt.shaped,PyData.canLay0,PyData.depth]
theorem df (i j:Int):pEq (.int i) (.int j)=some (.bool (i==j)):=by
 unfold pEq;rw [if_pos ⟨wv i,wv j⟩];simp [PyData.eqv]
theorem ae {o:PyData→PyData→Option PyData} {f g:En→Option PyData} {η:En} {x y z:PyData} (hf:f η=some x) (hg:g η=some y) (ho:o x y=some z):l2 o f g η=some z:=by
 unfold l2;rw [hf,LM,hg,LM,ho]
theorem pB {i j:Int} (h:CMul i j):kZ (.int i) (.int j)=some (.int (i*j)):=if_pos h
theorem pC {i j:Int} (h:0 < j):oS (.int i) (.int j)=some (.int (i % j)):=if_pos h
theorem tQ {i j:Int} (h:CDiv i j):qB (.int i) (.int j)=some (.int (i / j)):=if_pos h
theorem Da {i j:Int} (h1:-(2 ^ 64) < i) (h2:i < 2 ^ 64):CMul i j:=Or.inl ⟨h1,h2⟩
theorem Lm {i j:Int} (h1:-(2 ^ 64) < j) (h2:j < 2 ^ 64):CMul i j:=Or.inr ⟨h1,h2⟩
section
variable {ns:List Int}
theorem G3 (hn:ns.length≤63) {k:Int} (hk:0≤k):∃ v:Int,cB [Sd ns,.int k]=some (.int v):=by
 unfold cB b9;rw [if_pos (by rfl)];have et:(bT (l2 pEq (eV 0) (oE (fun η=>(aN η).bind gL)))) [.val (Sd ns),.val (.int k)]=some (decide (ns=[])):=by
  show L0 (pEq (Sd ns) (.list [])) asB=_;unfold pEq;rw [if_pos ⟨zN ns,by rfl⟩];cases ns <;> simp [Sd,PyData.eqv,PyData.eqvAll,asB]
 show ∃ v,L0 (kK [.val (Sd ns),.val (.int k)]) _=_;unfold kK cw sIf;rw [et,LM];by_cases h0:ns=[]
 ·rw [if_pos (by simpa using h0)];refine ⟨7*k,?_⟩
  have:l2 kZ (eC (.int 7)) (eV 1) [.val (Sd ns),.val (.int k)]=some (.int (7*k)):=ae rfl rfl (pB (Da (by decide) (by decide)))
  unfold f9;rw [this]; rfl
 ·rw [if_neg (by simpa using h0)];have hp:0 < ns.length:=by cases ns with | nil=>exact absurd rfl h0 | cons=>simp
  have hlen:lA rE (aC (eV 0) aN) [.val (Sd ns),.val (.int k)]=some (.int (ns.length:Int)):=by
   show some (PyData.int ((ns.map PyData.int).length:Int))=_;rw [LO]
  have hm:l2 oS (eV 1) (lA rE (aC (eV 0) aN)) [.val (Sd ns),.val (.int k)]=some (.int (k % (ns.length:Int))):=ae rfl hlen (pC (by omega));have hd:l2 qB (eV 1) (lA rE (aC (eV 0) aN)) [.val (Sd ns),.val (.int k)]=some (.int (k / (ns.length:Int))):=ae rfl hlen (tQ ⟨by omega,by omega⟩);obtain ⟨j,hj⟩:∃ j:Nat,k % (ns.length:Int)=(j:Int):=⟨(k % (ns.length:Int)).toNat,by have:=Nj k (show (ns.length:Int)≠0 by omega); omega⟩;have hjl:j < ns.length:=by have:=Nn k (show (0:Int) < ns.length by omega); omega
  refine ⟨ns[j]+6553*(k / (ns.length:Int)),?_⟩;have hx:l2 pIx (eV 0) (l2 oS (eV 1) (lA rE (aC (eV 0) aN))) [.val (Sd ns),.val (.int k)]=some (.int ns[j]):=by
   refine ae rfl hm ?_;rw [hj];show atI (ns.map PyData.int) (j:Int)=_;exact wo (by rw [L8,Me hjl]; rfl)
  have hy:l2 kZ (eC (.int 6553)) (l2 qB (eV 1) (lA rE (aC (eV 0) aN))) [.val (Sd ns),.val (.int k)]=some (.int (6553*(k / (ns.length:Int)))):=ae rfl hd (pB (Da (by decide) (by decide)));have hz:=ae (o:=aG) hx hy rfl;show L0 (f9 _ [.val (Sd ns),.val (.int k)]) _=_;unfold f9;rw [hz];rfl
theorem iG (hn:ns.length≤63) {k m:Int} (hk:0≤k) (hm:0 < m):∃ r:Nat,(r:Int) < m∧ak [Sd ns,.int k,.int m]=some (.int r):=by
 obtain ⟨v,hv⟩:=G3 hn hk;unfold ak b9;rw [if_pos (by rfl)];have hc:lA cB (aC (eV 0) (aC (eV 1) aN)) [.val (Sd ns),.val (.int k),.val (.int m),.un]=some (.int v):=hv;have x1:l2 oS (l2 aG (l2 kZ (l2 oS (lA cB (aC (eV 0) (aC (eV 1) aN))) (eC (.int 2147483563))) (eC (.int 69069))) (l2 kZ (eC (.int 104723)) (l2 aG (eV 1) (eC (.int 1))))) (eC (.int 2147483563)) [.val (Sd ns),.val (.int k),.val (.int m),.un]=some (.int ((v % 2147483563*69069+104723*(k+1)) % 2147483563)) :=
  ae (ae (ae (ae hc rfl (pC (by decide))) rfl (pB (Lm (by decide) (by decide)))) (ae rfl (ae rfl rfl rfl) (pB (Da (by decide) (by decide)))) rfl) rfl (pC (by decide))
 generalize hx:(v % 2147483563*69069+104723*(k+1)) % 2147483563=x at x1;have bx:0≤x∧x < 2147483563:=by rw [← hx]; exact ⟨Nj _ (by decide),Nn _ (by decide)⟩
 have x2:l2 oS (l2 aG (l2 kZ (eV 3) (eV 3)) (l2 qB (eV 3) (eC (.int 3)))) (eC (.int 2147483399)) [.val (Sd ns),.val (.int k),.val (.int m),.val (.int x)]=some (.int ((x*x+x / 3) % 2147483399)) :=
  ae (ae (ae rfl rfl (pB (Da (by omega) (by omega)))) (ae rfl rfl (tQ ⟨by decide,by decide⟩)) rfl) rfl (pC (by decide))
 generalize hy:(x*x+x / 3) % 2147483399=y at x2;have byy:0≤y∧y < 2147483399:=by rw [← hy]; exact ⟨Nj _ (by decide),Nn _ (by decide)⟩
 have x3:l2 oS (l2 qB (l2 oS (l2 aG (l2 kZ (eV 3) (eV 3)) (l2 qB (eV 3) (eC (.int 7)))) (eC (.int 2147483647))) (eC (.int 11))) (eV 2) [.val (Sd ns),.val (.int k),.val (.int m),.val (.int y)]=some (.int ((y*y+y / 7) % 2147483647 / 11 % m)) :=
  ae (ae (ae (ae (ae rfl rfl (pB (Da (by omega) (by omega)))) (ae rfl rfl (tQ ⟨by decide,by decide⟩)) rfl) rfl (pC (by decide))) rfl (tQ ⟨by decide,by decide⟩)) rfl (pC hm)
 refine ⟨((y*y+y / 7) % 2147483647 / 11 % m).toNat,?_,?_⟩
 ·have h1:=Nj ((y*y+y / 7) % 2147483647 / 11) (show m≠0 by omega);have h2:=Nn ((y*y+y / 7) % 2147483647 / 11) hm;omega
 ·have h1:=Nj ((y*y+y / 7) % 2147483647 / 11) (show m≠0 by omega);have e:(((y*y+y / 7) % 2147483647 / 11 % m).toNat:Int)=(y*y+y / 7) % 2147483647 / 11 % m:=by omega
  rw [e];show L0 (jW cB [.val (Sd ns),.val (.int k),.val (.int m),.un]) _=_;unfold jW cw dY f9;rw [x1,LM,LM];show L0 (L0 (L0 (l2 oS _ _ [.val (Sd ns),.val (.int k),.val (.int m),.val (.int x)]) _) _) _=_;rw [x2,LM,LM];show L0 (L0 (l2 oS _ _ [.val (Sd ns),.val (.int k),.val (.int m),.val (.int y)]) _) _=_;rw [x3];rfl
end
theorem de {f g:En→Option Out} {η η1:En} {r:Option Out} (h1:f η=some (.nx η1)) (h2:g η1=r):cw f g η=r:=by
 unfold cw;rw [h1]; exact h2
theorem f8 {i:Nat} {f:En→Option PyData} {η:En} {d:PyData} (h:f η=some d):dY i f η=some (.nx (η.set i (.val d))):=by
 unfold dY;rw [h]; rfl
theorem wf {i:Nat} {f:En→Option (List PyData)} {η:En} {d:List PyData} (h:f η=some d):ml i f η=some (.nx (η.set i (.own d))):=by
 unfold ml;rw [h]; rfl
theorem aW {o:PFn} {fs:En→Option (List PyData)} {η:En} {ds:List PyData} {d:PyData} (h1:fs η=some ds) (h2:o ds=some d):lA o fs η=some d:=by
 unfold lA;rw [h1]; exact h2
theorem af {f:En→Option PyData} {g:En→Option (List PyData)} {η:En} {d:PyData} {ds:List PyData} (h1:f η=some d) (h2:g η=some ds):aC f g η=some (d::ds):=by
 unfold aC;rw [h1,LM,h2]; rfl
theorem xg {c:En→Option Bool} {f g:En→Option Out} {η:En} {b:Bool} (h:c η=some b):sIf c f g η=if b=true then f η else g η:=by
 unfold sIf;rw [h]; rfl
theorem bm {f:En→Option PyData} {η:En} {b:Bool} (h:f η=some (.bool b)):bT f η=some b:=by
 unfold bT;rw [h]; rfl
theorem sV {it:En→Option (List PyData)} {t:En→PyData→Option En} {body:En→Option Out} {η:En} {ds:List PyData} {r:Option Out} (h:it η=some ds) (h2:sGo t body ds η=r):pz it t body η=r:=by
 unfold pz;rw [h]; exact h2
theorem BW {j:Int} (h1:-(2 ^ 62)≤j) (h2:j < 2 ^ 62):rng1 [.int j]=some (xI 0 j.toNat):=if_pos ⟨h1,h2⟩
theorem F0 {t:En→PyData→Option En} {body:En→Option Out} (Inv:Nat→En→Prop) (n:Nat)
  (st:∀ k η,k < n→Inv k η→∃ η1 η2,t η (.int (0+(k:Nat)))=some η1∧body η1=some (.nx η2)∧Inv (k+1) η2) {η:En} (h0:Inv 0 η):∃ η',sGo t body (xI 0 n) η=some (.nx η')∧Inv n η':=by
 have key:∀ (m k:Nat) (η:En),k+m=n→Inv k η→∃ η',sGo t body ((List.range' k m).map fun (k:Nat)=>PyData.int (0+(k:Nat))) η=some (.nx η')∧Inv n η':=by
  intro m
  induction m with
  | zero=>intro k η e h; exact ⟨η,rfl,by rw [← e]; exact h⟩
  | succ m ih =>
   intro k η e h;obtain ⟨η1,η2,h1,h2,h3⟩:=st k η (by omega) h;obtain ⟨η',e1,e2⟩:=ih (k+1) η2 (by omega) h3;refine ⟨η',?_,e2⟩;rw [List.range'_succ,LW];unfold sGo;rw [h1,LM,h2,LM];exact e1
 unfold xI;rw [List.range_eq_range'];exact key n 0 η (by omega) h0
theorem F6 {ι:Type} {t:En→PyData→Option En} {body:En→Option Out} (D:ι→PyData) (Inv:List ι→En→Prop) (all:List ι)
  (st:∀ done x rest η,all=done++x::rest→Inv done η→∃ η1 η2,t η (D x)=some η1∧body η1=some (.nx η2)∧Inv (done++[x]) η2) {η:En} (h0:Inv [] η):∃ η',sGo t body (all.map D) η=some (.nx η')∧Inv all η':=by
 have key:∀ (rest done:List ι) (η:En),all=done++rest→Inv done η→∃ η',sGo t body (rest.map D) η=some (.nx η')∧Inv all η':=by
  intro rest
  induction rest with
  | nil=>intro done η e h; exact ⟨η,rfl,by rw [e,Mn]; exact h⟩
  | cons x r ih =>
   intro done η e h;obtain ⟨η1,η2,h1,h2,h3⟩:=st done x r η e h;obtain ⟨η',e1,e2⟩:=ih (done++[x]) η2 (by rw [e]; simp) h3;refine ⟨η',?_,e2⟩;rw [LW];unfold sGo;rw [h1,LM,h2,LM];exact e1
 exact key all [] η rfl h0
noncomputable def let8:List Nat:=[100,98,103,97,104,99,102,101]
noncomputable def nmT (t:Nat):Nat→Str
 | 0 => ""
 | j+1=>if j < 8 then ⟨#[let8.getD ((j+t) % 8) 0]⟩ else ⟨(Ma (j+1) 97).toArray⟩
theorem EF:∀ x:Fin 8,∀ y:Fin 8,let8.getD x.val 0=let8.getD y.val 0→x=y:=by decide
theorem sK {t j:Nat} (h:j < 8):nmT t (j+1)=⟨#[let8.getD ((j+t) % 8) 0]⟩:=if_pos h
theorem yX {t j:Nat} (h:¬ j < 8):nmT t (j+1)=⟨(Ma (j+1) 97).toArray⟩:=if_neg h
theorem Bx:("" : Str).cps.size=0:=by decide
theorem Gx (t:Nat):∀ a b,nmT t a=nmT t b→a=b:=by
 have sz:∀ a,(nmT t a).cps.size=if a=0 then 0 else if a - 1 < 8 then 1 else a:=fun a=>by
  cases a with
  | zero=>exact Bx
  | succ j =>
   by_cases h:j < 8
   ·rw [sK h]; simp [h]
   ·rw [yX h]; simp [h]
 intro a b e;have s1:=sz a;have s2:=sz b;rw [e,s2] at s1;cases a with
 | zero =>
  cases b with
  | zero=>rfl
  | succ k =>
   simp at s1;split at s1 <;> omega
 | succ j =>
  cases b with
  | zero =>
   simp at s1;split at s1 <;> omega
  | succ k =>
   by_cases hj:j < 8
   ·by_cases hk:k < 8
    ·rw [sK hj,sK hk] at e;have e1:(#[let8.getD ((j+t) % 8) 0]:Array Nat)=#[let8.getD ((k+t) % 8) 0]:=by injection e
     have e2:let8.getD ((j+t) % 8) 0=let8.getD ((k+t) % 8) 0:=by simpa using e1
     have e3:=EF ⟨(j+t) % 8,Nat.mod_lt _ (by decide)⟩ ⟨(k+t) % 8,Nat.mod_lt _ (by decide)⟩ e2;have e4:(j+t) % 8=(k+t) % 8:=by injection e3
     omega
    ·simp [hj,hk] at s1; omega
   ·by_cases hk:k < 8
    ·simp [hj,hk] at s1; omega
    ·simp [hj,hk] at s1; omega
theorem GD:∀ x:Fin 8,let8.getD x.val 0 < 0x110000:=by decide
theorem Er (t:Nat):∀ a,PyData.strOk (nmT t a)=true:=fun a=>by
 cases a with
 | zero=>exact (by decide +kernel:PyData.strOk ("" : Str)=true)
 | succ j =>
  by_cases h:j < 8
  ·rw [sK h]
   have:=GD ⟨(j+t) % 8,Nat.mod_lt _ (by decide)⟩
   simp only [Mc] at this;simp [PyData.strOk,this]
  ·rw [yX h];unfold PyData.strOk;rw [Array.all_eq_true];intro i hi
   simp
structure Dr where
 ps:List Nat
 nm:Nat→Str
 L:Nat→Int
 T:Nat→Int
 W:Nat→Int
 H:Nat→Int
 mr:Nat→Str
noncomputable def bd (l t w h:Int):Prop:=(-3≤l∧l≤5)∧(-3≤t∧t≤5)∧(0≤w∧w≤8)∧(0≤h∧h≤8)
noncomputable def mkS:List Bool→Str
 | [] => ""
 | b::r=>mkS r++(if b then (⟨#[[99,102,104,108].getD r.length 0]⟩:Str) else ("" : Str))
noncomputable def IQ (m:Str):Prop:=∃ bs:List Bool,bs.length=4∧m=mkS bs
structure Dr.Ok (c:Dr):Prop where
 inj:∀ a b,c.nm a=c.nm b→a=b
 top:c.nm 0 = ""
 ok:∀ a,PyData.strOk (c.nm a)=true
 okm:∀ a,PyData.strOk (c.mr a)=true
 len:c.ps.length≤12
 par:∀ i,c.ps.getD i 0≤i
 bds:∀ i,bd (c.L i) (c.T i) (c.W i) (c.H i)
 mks:∀ i,IQ (c.mr i)
noncomputable def Dr.box (c:Dr) (i:Nat):PyData:=.tuple [.str (c.nm (i+1)),.str (c.nm (c.ps.getD i 0)),.int (c.L i),.int (c.T i),.int (c.W i),.int (c.H i),.str (c.mr i)]
noncomputable def Dr.d (c:Dr):PyData:=.tuple ((List.range c.ps.length).map c.box)
noncomputable def Dr.s (c:Dr) (q:Nat):PyData:=.str (c.nm q)
noncomputable def Dr.more (c:Dr) (p:Nat) (l t w h:Int) (m:Str):Dr :=
 { ps:=c.ps++[p],nm:=c.nm,L:=fun i=>if i=c.ps.length then l else c.L i,T:=fun i=>if i=c.ps.length then t else c.T i,W:=fun i=>if i=c.ps.length then w else c.W i,H:=fun i=>if i=c.ps.length then h else c.H i,mr:=fun i=>if i=c.ps.length then m else c.mr i }
theorem Dr.more_d (c:Dr) (p:Nat) (l t w h:Int) (m:Str):(c.more p l t w h m).d=.tuple ((List.range c.ps.length).map c.box++[.tuple [.str (c.nm (c.ps.length+1)),.str (c.nm p),.int l,.int t,.int w,.int h,.str m]]):=by
 unfold Dr.d;have e:(c.more p l t w h m).ps.length=c.ps.length+1:=by unfold Dr.more; simp
 rw [e,List.range_succ,Mo]
 congr 2
 ·refine NH fun i hi=>?_;have hlt:=MN.mp hi;have hne:i≠c.ps.length:=Mg hlt;have hps:(c.ps++[p])[i]?=c.ps[i]?:=LR hlt;unfold Dr.box Dr.more;simp only [hne,if_false,Mc,hps]
 ·unfold Dr.box Dr.more
  simp
theorem Dr.more_ok {c:Dr} (h:c.Ok) (hl:c.ps.length < 12) {p:Nat} (hp:p≤c.ps.length) (l t w g:Int) {m:Str} (hm:PyData.strOk m=true) (hb:bd l t w g) (hk:IQ m):(c.more p l t w g m).Ok where
 inj:=h.inj
 top:=h.top
 ok:=h.ok
 okm:=fun i=>by
  unfold Dr.more;dsimp only
  split
  ·exact hm
  ·exact h.okm i
 len:=by unfold Dr.more; simp; omega
 par:=fun i=>by
  unfold Dr.more;dsimp only;rw [Mc];by_cases hi:i < c.ps.length
  ·rw [LR hi,← Mc];exact h.par i
  ·by_cases he:i=c.ps.length
   ·subst he;rw [LY (LS _)];simpa using hp
   ·rw [Mj (by simp; omega)];exact Mz _
 bds:=fun i=>by
  unfold Dr.more;dsimp only;by_cases e:i=c.ps.length
  ·rw [if_pos e,if_pos e,if_pos e,if_pos e]; exact hb
  ·rw [if_neg e,if_neg e,if_neg e,if_neg e]; exact h.bds i
 mks:=fun i=>by
  unfold Dr.more;dsimp only
  split
  ·exact hk
  ·exact h.mks i
noncomputable def sg4:Nat→Str:=fun j=>⟨#[[99,102,104,108].getD j 0]⟩
theorem cfhl:enS [.str "cfhl"]=some ([0,1,2,3].map fun (j:Nat)=>PyData.tuple [.int (j:Nat),.str (sg4 j)]):=by
 have e:("cfhl" : Str).cps.toList=[99,102,104,108]:=by decide +kernel
 unfold enS;dsimp only;unfold yf;rw [e];rfl
theorem dbg:("dbgahcfe" : Str).cps.toList=let8:=by decide +kernel
theorem GX:("dbgahcfe" : Str).length≤sizeLine:=by decide +kernel
theorem CY {a b:Str} (ha:PyData.strOk a=true) (hb:PyData.strOk b=true):PyData.strOk (a++b)=true:=by
 unfold PyData.strOk at ha hb ⊢;show (a.cps++b.cps).all _=true;rw [Array.all_append,ha,hb]; rfl
theorem GH (a b:Str):(a++b).length=a.length+b.length:=by
 show (a.cps++b.cps).size=_;rw [Array.size_append]; rfl
theorem Iu (j:Nat) (h:j∈[0,1,2,3]):PyData.strOk (sg4 j)=true:=by
 simp at h;rcases h with rfl | rfl | rfl | rfl <;> decide +kernel
theorem Db (bs:List Bool):mkS bs=mkS (false::bs):=by
 show mkS bs=mkS bs++("" : Str);apply FT;show _=((mkS bs).cps++("" : Str).cps).toList
 have:("" : Str).cps=#[]:=by decide +kernel
 rw [this]; simp
theorem BU (j:Nat):(sg4 j).length=1:=rfl
section
variable {ns:List Int} (hn:ns.length≤63)
include hn
theorem Et {x1 x2 x3 x4 x6 x7 x8:Sl} {hh:Int} (h0:0≤hh) (s10 s11 s12:Sl):∃ (m:Str) (u v:Sl),(PyData.strOk m=true∧IQ m) ∧
  pz (fun η=>((aC (eC (.str "cfhl")) aN) η).bind enS) (tgT (bU (tgN 10) (bU (tgN 11) kn)))
  (sIf (bT (l2 pEq (lA ak (aC (eV 0) (aC (l2 aG (l2 aG (eV 5) (eC (.int 5))) (eV 10)) (aC (l2 pIx (oE (fun η=>((aC (eC (.int 4)) (aC (eC (.int 2)) (aC (eC (.int 9)) (aC (eC (.int 6)) aN)))) η).bind gL)) (eV 10)) aN)))) (eC (.int 0)))) (dY 9 (l2 aG (eV 9) (eV 11))) sNx)
   [.val (Sd ns),x1,x2,x3,x4,.val (.int hh),x6,x7,x8,.val (.str ""),s10,s11,s12]=some (.nx [.val (Sd ns),x1,x2,x3,x4,.val (.int hh),x6,x7,x8,.val (.str m),u,v,s12]):=by
 have inv:=F6 (t:=tgT (bU (tgN 10) (bU (tgN 11) kn)))
  (body:=(sIf (bT (l2 pEq (lA ak (aC (eV 0) (aC (l2 aG (l2 aG (eV 5) (eC (.int 5))) (eV 10)) (aC (l2 pIx (oE (fun η=>((aC (eC (.int 4)) (aC (eC (.int 2)) (aC (eC (.int 9)) (aC (eC (.int 6)) aN)))) η).bind gL)) (eV 10)) aN)))) (eC (.int 0)))) (dY 9 (l2 aG (eV 9) (eV 11))) sNx))
  (fun (j:Nat)=>PyData.tuple [.int (j:Nat),.str (sg4 j)])
  (fun done η=>∃ (m:Str) (u v:Sl),(PyData.strOk m=true∧∃ bs:List Bool,bs.length=done.length∧m=mkS bs)∧m.length≤done.length∧η=[.val (Sd ns),x1,x2,x3,x4,.val (.int hh),x6,x7,x8,.val (.str m),u,v,s12])
  [0,1,2,3] ?_ (η:=[.val (Sd ns),x1,x2,x3,x4,.val (.int hh),x6,x7,x8,.val (.str ""),s10,s11,s12]) ⟨"", s10,s11,⟨by decide +kernel,[],rfl,rfl⟩,by decide +kernel,rfl⟩
 ·obtain ⟨η',e1,m,u,v,hm,_,rfl⟩:=inv;refine ⟨m,u,v,⟨hm.1,hm.2⟩,sV (ds:=[0,1,2,3].map fun (j:Nat)=>PyData.tuple [.int (j:Nat),.str (sg4 j)]) cfhl e1⟩
 ·rintro done j rest η hall ⟨m,u,v,hm,hml,rfl⟩
  have hj:j∈[0,1,2,3]:=by rw [hall]; simp
  have hdl:done.length≤3:=by
   have:=congrArg List.length hall
   simp at this;omega
  have hjd:j=done.length:=by
   match done,hall,hdl with
   | [],hall,_=>simp at hall; simp [hall.1]
   | [_],hall,_=>simp at hall; simp [hall.2.1]
   | [_,_],hall,_=>simp at hall; simp [hall.2.2.1]
   | [_,_,_],hall,_=>simp at hall; simp [hall.2.2.2.1]
  obtain ⟨hm,bs,hbs,hmm⟩:=hm;have hmod:∃ q:Int,0 < q∧l2 pIx (oE (fun η=>((aC (eC (.int 4)) (aC (eC (.int 2)) (aC (eC (.int 9)) (aC (eC (.int 6)) aN)))) η).bind gL)) (eV 10) [.val (Sd ns),x1,x2,x3,x4,.val (.int hh),x6,x7,x8,.val (.str m),.val (.int (j:Nat)),.val (.str (sg4 j)),s12]=some (.int q):=by
   have eo:oE (fun η=>((aC (eC (.int 4)) (aC (eC (.int 2)) (aC (eC (.int 9)) (aC (eC (.int 6)) aN)))) η).bind gL) [.val (Sd ns),x1,x2,x3,x4,.val (.int hh),x6,x7,x8,.val (.str m),.val (.int (j:Nat)),.val (.str (sg4 j)),s12]=some (.list [.int 4,.int 2,.int 9,.int 6]):=by
    have:gL [.int 4,.int 2,.int 9,.int 6]=some [.int 4,.int 2,.int 9,.int 6]:=if_pos (by show 4≤sizeLine; decide)
    show L0 (gL [.int 4,.int 2,.int 9,.int 6]) _=_;rw [this]; rfl
   simp at hj;rcases hj with rfl | rfl | rfl | rfl
   ·exact ⟨4,by decide,ae eo rfl rfl⟩
   ·exact ⟨2,by decide,ae eo rfl rfl⟩
   ·exact ⟨9,by decide,ae eo rfl rfl⟩
   ·exact ⟨6,by decide,ae eo rfl rfl⟩
  obtain ⟨q,hq,eq⟩:=hmod;obtain ⟨r,hr,er⟩:=iG hn (k:=hh+5+(j:Nat)) (m:=q) (by omega) hq;have eb:bT (l2 pEq (lA ak (aC (eV 0) (aC (l2 aG (l2 aG (eV 5) (eC (.int 5))) (eV 10)) (aC (l2 pIx (oE (fun η=>((aC (eC (.int 4)) (aC (eC (.int 2)) (aC (eC (.int 9)) (aC (eC (.int 6)) aN)))) η).bind gL)) (eV 10)) aN)))) (eC (.int 0)))
    [.val (Sd ns),x1,x2,x3,x4,.val (.int hh),x6,x7,x8,.val (.str m),.val (.int (j:Nat)),.val (.str (sg4 j)),s12]=some ((r:Int)==0) :=
   bm (ae (aW (af rfl (af (ae (ae rfl rfl rfl) rfl rfl) (af eq rfl))) er) rfl (df _ _))
  refine ⟨[.val (Sd ns),x1,x2,x3,x4,.val (.int hh),x6,x7,x8,.val (.str m),.val (.int (j:Nat)),.val (.str (sg4 j)),s12],?_⟩;by_cases h0:(r:Int)==0
  ·refine ⟨[.val (Sd ns),x1,x2,x3,x4,.val (.int hh),x6,x7,x8,.val (.str (m++sg4 j)),.val (.int (j:Nat)),.val (.str (sg4 j)),s12],rfl,?_,m++sg4 j,_,_,⟨CY hm (Iu j hj),true::bs,by simp [hbs],by rw [hmm,hjd,← hbs]; rfl⟩,?_,rfl⟩
   ·rw [xg eb,if_pos h0];refine f8 (d:=.str (m++sg4 j)) (ae rfl rfl ?_);show (if m.length+(sg4 j).length≤sizeLine then some (PyData.str (m++sg4 j)) else none)=_;rw [if_pos (by rw [BU]; exact big (by omega))]
   ·rw [GH,BU,LQ];simpa using hml
  ·refine ⟨[.val (Sd ns),x1,x2,x3,x4,.val (.int hh),x6,x7,x8,.val (.str m),.val (.int (j:Nat)),.val (.str (sg4 j)),s12],rfl,?_,m,_,_,⟨hm,false::bs,by simp [hbs],by rw [hmm]; exact Db bs⟩,?_,rfl⟩
   ·rw [xg eb,if_neg h0]; rfl
   ·rw [LQ]; simp; omega
end
theorem jj {ds:List PyData} (h:ds.length≤3000000):(if ds.length≤sizeLine then some (PyData.tuple ds) else none)=some (.tuple ds):=if_pos (big h)
theorem eS {ds:List PyData} (h:ds.length≤3000000):gL ds=some ds:=if_pos (big h)
theorem AY {a b:List PyData} (h:a.length+b.length≤3000000):aG (.list a) (.list b)=some (.list (a++b)):=if_pos (big h)
theorem Jw {a b:List PyData} (h:a.length+b.length≤3000000):aG (.tuple a) (.tuple b)=some (.tuple (a++b)):=if_pos (big h)
theorem cx {f:En→Option (List PyData)} {η:En} {ds:List PyData} (h:f η=some ds):oE f η=some (.list ds):=by
 unfold oE;rw [h]; rfl
theorem fZ {mp:List (Option Nat)} {fi:En→Option (List PyData)} {t:En→PyData→Option En} {p:En→Option Bool} {f:En→Option PyData} {η:En} {ds:List PyData} {r:Option (List PyData)} (h1:fi η=some ds) (hz:ds.length≤3000000) (h2:cGo t p f (sS mp η) ds=r):bH mp fi t p f η=r:=by
 unfold bH;rw [h1,LM,if_pos (big hz)];exact h2
noncomputable def J2 (aA:PFn):En→Option Out :=
 (cw (dY 5 (l2 aG (l2 aG (eV 1) (eC (.int 3))) (l2 kZ (eC (.int 9)) (eV 4))))
  (cw (dY 6 (l2 pIx (l2 aG (oE (fun η=>((aC (eC (.str "")) aN) η).bind gL)) (oE (bH [none] (lI oB (eV 2)) (tgN 0) dM (l2 pIx (eV 0) (eC (.int 0)))))) (lA aA (aC (eV 0) (aC (eV 5) (aC (l2 aG (eV 4) (eC (.int 1))) aN))))))
  (cw (ml 7 (bH [none,some 0,some 5] (fun η=>((aC (eC (.int 2)) aN) η).bind rng1) (tgN 0) dM (l2 tN (lA aA (aC (eV 1) (aC (l2 aG (l2 aG (eV 2) (eC (.int 1))) (eV 0)) (aC (eC (.int 9)) aN)))) (eC (.int 3)))))
  (fun η=>(cw (ml 8 (bH [none,some 0,some 5] (fun η=>((aC (eC (.int 2)) aN) η).bind rng1) (tgN 0) dM (lA aA (aC (eV 1) (aC (l2 aG (l2 aG (eV 2) (eC (.int 3))) (eV 0)) (aC (eC (.int 9)) aN))))))
  (fun η=>(cw (dY 9 (eC (.str "")))
  (cw (pz (fun η=>((aC (eC (.str "cfhl")) aN) η).bind enS) (tgT (bU (tgN 10) (bU (tgN 11) kn)))
  (sIf (bT (l2 pEq (lA aA (aC (eV 0) (aC (l2 aG (l2 aG (eV 5) (eC (.int 5))) (eV 10)) (aC (l2 pIx (oE (fun η=>((aC (eC (.int 4)) (aC (eC (.int 2)) (aC (eC (.int 9)) (aC (eC (.int 6)) aN)))) η).bind gL)) (eV 10)) aN)))) (eC (.int 0)))) (dY 9 (l2 aG (eV 9) (eV 11))) sNx))
  (cw (dY 12 (l2 pIx (eC (.str "dbgahcfe")) (l2 oS (l2 aG (eV 4) (eV 3)) (eC (.int 8)))))
  (dY 2 (l2 aG (eV 2) (lA (fun ds=>if ds.length≤sizeLine then some (.tuple ds) else none) (aC (l2 aG (l2 aG (lA (fun ds=>if ds.length≤sizeLine then some (.tuple ds) else none) (aC (eV 12) (aC (eV 6) aN))) (lA Ae (aC (l2 aG (eV 7) (eV 8)) aN))) (lA (fun ds=>if ds.length≤sizeLine then some (.tuple ds) else none) (aC (eV 9) aN))) aN))))))) (frz 8 η))) (frz 7 η)))))
section
variable {ns:List Int} (hn:ns.length≤63)
include hn
theorem Dx {f:En→Option PyData} {η:En} {mp:List (Option Nat)} (lo hi:Int) (h:∀ k:Nat,k < 2→∃ y,(lo≤y∧y≤hi)∧f ((sS mp η).set 0 (.val (.int (0+(k:Nat)))))=some (.int y)):∃ a b:Int,((lo≤a∧a≤hi)∧(lo≤b∧b≤hi))∧bH mp (fun η=>((aC (eC (.int 2)) aN) η).bind rng1) (tgN 0) dM f η=some [.int a,.int b]:=by
 obtain ⟨a,ha,ea⟩:=h 0 (by decide);obtain ⟨b,hb,eb⟩:=h 1 (by decide);refine ⟨a,b,⟨ha,hb⟩,fZ (ds:=xI 0 2) (BW (j:=2) (by decide) (by decide)) (by decide) ?_⟩
 have:=iS (t:=tgN 0) (p:=dM) (f:=f) (η:=sS mp η) (fun (k:Nat)=>PyData.int (0+(k:Nat))) (fun _=>true) (fun k=>.int (if k=0 then a else b)) (List.range 2) fun k hk=>by
  refine ⟨_,rfl,rfl,fun _=>?_⟩;have hk:=MN.mp hk;rcases (show k=0∨k=1 by omega) with rfl | rfl
  ·exact ea
  ·exact eb
 exact this
theorem zQ {a0:Int} (ha:0≤a0):∃ (c:Dr) (tn:Nat),c.Ok∧c.nm=nmT tn∧c.ps.length≤7∧bp [Sd ns,.int a0]=some c.d:=by
 obtain ⟨tn,htn,et⟩:=iG hn (k:=a0+1) (m:=8) (by omega) (by decide);obtain ⟨n,hnn,en⟩:=iG hn (k:=a0) (m:=8) ha (by decide);have main:=F0 (t:=tgN 4) (body:=J2 ak) (fun k η=>∃ (c:Dr) (s4 s5 s6 s7 s8 s9 s10 s11 s12:Sl),c.Ok∧c.nm=nmT tn∧c.ps.length=k∧η=[.val (Sd ns),.val (.int a0),.val c.d,.val (.int tn),s4,s5,s6,s7,s8,s9,s10,s11,s12]) n ?st
  (η:=[.val (Sd ns),.val (.int a0),.val (.tuple []),.val (.int tn),.un,.un,.un,.un,.un,.un,.un,.un,.un]) ⟨⟨[],nmT tn,fun _=>0,fun _=>0,fun _=>0,fun _=>0,fun _ => ""⟩,.un,.un,.un,.un,.un,.un,.un,.un,.un,⟨Gx tn,rfl,Er tn,fun _=>Er 0 0,by simp,fun _=>by simp,fun _=>by show bd 0 0 0 0; unfold bd; decide,fun _=>⟨[false,false,false,false],rfl,by show ("" : Str)=mkS [false,false,false,false]; decide +kernel⟩⟩,rfl,rfl,rfl⟩
 case st =>
  rintro k η hk ⟨c,s4,s5,s6,s7,s8,s9,s10,s11,s12,hc,hnm,hlen,rfl⟩
  have hk7:k < 7:=by omega
  refine ⟨[.val (Sd ns),.val (.int a0),.val c.d,.val (.int tn),.val (.int (0+(k:Nat))),s5,s6,s7,s8,s9,s10,s11,s12],?_⟩;have hh:l2 aG (l2 aG (eV 1) (eC (.int 3))) (l2 kZ (eC (.int 9)) (eV 4)) [.val (Sd ns),.val (.int a0),.val c.d,.val (.int tn),.val (.int (0+(k:Nat))),s5,s6,s7,s8,s9,s10,s11,s12]=some (.int (a0+3+9*(0+(k:Nat)))) :=
   ae (ae rfl rfl rfl) (ae rfl rfl (pB (Da (by decide) (by decide)))) rfl
  generalize hhe:(a0+3+9*(0+(k:Nat)):Int)=hr at hh;have hr0:0≤hr:=by omega
  obtain ⟨p,hp,ep⟩:=iG hn (k:=hr) (m:=0+(k:Nat)+1) hr0 (by omega);have hp':p≤k:=by omega
  have ea:l2 pIx (l2 aG (oE (fun η=>((aC (eC (.str "")) aN) η).bind gL)) (oE (bH [none] (lI oB (eV 2)) (tgN 0) dM (l2 pIx (eV 0) (eC (.int 0)))))) (lA ak (aC (eV 0) (aC (eV 5) (aC (l2 aG (eV 4) (eC (.int 1))) aN))))
    [.val (Sd ns),.val (.int a0),.val c.d,.val (.int tn),.val (.int (0+(k:Nat))),.val (.int hr),s6,s7,s8,s9,s10,s11,s12]=some (c.s p):=by
   have e1:oE (fun η=>((aC (eC (.str "")) aN) η).bind gL) [.val (Sd ns),.val (.int a0),.val c.d,.val (.int tn),.val (.int (0+(k:Nat))),.val (.int hr),s6,s7,s8,s9,s10,s11,s12]=some (.list [c.s 0]):=by
    refine cx ?_;show gL [.str ""]=_;rw [eS (by decide)];unfold Dr.s;rw [hc.top]
   have e2:oE (bH [none] (lI oB (eV 2)) (tgN 0) dM (l2 pIx (eV 0) (eC (.int 0)))) [.val (Sd ns),.val (.int a0),.val c.d,.val (.int tn),.val (.int (0+(k:Nat))),.val (.int hr),s6,s7,s8,s9,s10,s11,s12]=some (.list ((List.range k).map fun i=>c.s (i+1))):=by
    refine cx (fZ (ds:=(List.range c.ps.length).map c.box) rfl (by rw [LO,Mx]; omega) ?_);rw [hlen]
    have:=iS (t:=tgN 0) (p:=dM) (f:=l2 pIx (eV 0) (eC (.int 0))) (η:=[.un]) c.box (fun _=>true) (fun i=>c.s (i+1)) (List.range k) fun i _=>⟨_,rfl,rfl,fun _=>rfl⟩
    rw [show (List.range k).filter (fun _=>true)=List.range k by simp] at this;exact this
   refine ae (ae e1 e2 (AY (by simp; omega))) (aW (af rfl (af rfl (af (ae rfl rfl rfl) rfl))) ep) ?_;show atI ([c.s 0]++(List.range k).map fun i=>c.s (i+1)) (p:Int)=_;refine wo ?_;cases p with
   | zero=>rfl
   | succ j =>
    show ((List.range k).map fun i=>c.s (i+1))[j]?=_;rw [L8,NG (by omega)];rfl
  obtain ⟨pa,pb,hbp,epl⟩:=Dx hn (-3) 5 (mp:=[none,some 0,some 5]) (f:=l2 tN (lA ak (aC (eV 1) (aC (l2 aG (l2 aG (eV 2) (eC (.int 1))) (eV 0)) (aC (eC (.int 9)) aN)))) (eC (.int 3)))
   (η:=[.val (Sd ns),.val (.int a0),.val c.d,.val (.int tn),.val (.int (0+(k:Nat))),.val (.int hr),.val (c.s p),s7,s8,s9,s10,s11,s12]) fun j hj=>by
    obtain ⟨r,hr9,er⟩:=iG hn (k:=hr+1+(0+(j:Nat))) (m:=9) (by omega) (by decide);exact ⟨(r:Int) - 3,by omega,ae (aW (af rfl (af (ae (ae rfl rfl rfl) rfl rfl) (af rfl rfl))) er) rfl rfl⟩
  obtain ⟨sa,sb,hbs,esz⟩:=Dx hn 0 8 (mp:=[none,some 0,some 5]) (f:=lA ak (aC (eV 1) (aC (l2 aG (l2 aG (eV 2) (eC (.int 3))) (eV 0)) (aC (eC (.int 9)) aN))))
   (η:=[.val (Sd ns),.val (.int a0),.val c.d,.val (.int tn),.val (.int (0+(k:Nat))),.val (.int hr),.val (c.s p),.val (.list [.int pa,.int pb]),s8,s9,s10,s11,s12]) fun j hj=>by
    obtain ⟨r,hr9,er⟩:=iG hn (k:=hr+3+(0+(j:Nat))) (m:=9) (by omega) (by decide);exact ⟨(r:Int),by omega,aW (af rfl (af (ae (ae rfl rfl rfl) rfl rfl) (af rfl rfl))) er⟩
  obtain ⟨m,u,v,hm,em⟩:=Et hn (x1:=.val (.int a0)) (x2:=.val c.d) (x3:=.val (.int tn)) (x4:=.val (.int (0+(k:Nat)))) (x6:=.val (c.s p)) (x7:=.val (.list [.int pa,.int pb])) (x8:=.val (.list [.int sa,.int sb])) hr0 s10 s11 s12;have enm:l2 pIx (eC (.str "dbgahcfe")) (l2 oS (l2 aG (eV 4) (eV 3)) (eC (.int 8))) [.val (Sd ns),.val (.int a0),.val c.d,.val (.int tn),.val (.int (0+(k:Nat))),.val (.int hr),.val (c.s p),.val (.list [.int pa,.int pb]),.val (.list [.int sa,.int sb]),.val (.str m),u,v,s12]=some (c.s (k+1)):=by
   refine ae rfl (ae (ae rfl rfl rfl) rfl (pC (by decide))) ?_;show (if ("dbgahcfe" : Str).length≤sizeLine then (atI ("dbgahcfe" : Str).cps.toList ((0+(k:Nat)+(tn:Int)) % 8)).bind _ else none)=_;rw [if_pos GX,dbg];have e8:((0+(k:Nat)+(tn:Int)) % 8:Int)=(((k+tn) % 8:Nat):Int):=by omega
   have hlt:(k+tn) % 8 < 8:=Nat.mod_lt _ (by decide);rw [e8,wo (v:=let8.getD ((k+tn) % 8) 0) (by rw [Mc,Me (show (k+tn) % 8 < let8.length from hlt)]; rfl)];unfold Dr.s;rw [hnm,sK (by omega)];rfl
  have hcd:c.d=.tuple ((List.range c.ps.length).map c.box):=rfl;have efin:l2 aG (eV 2) (lA (fun ds=>if ds.length≤sizeLine then some (.tuple ds) else none) (aC (l2 aG (l2 aG (lA (fun ds=>if ds.length≤sizeLine then some (.tuple ds) else none) (aC (eV 12) (aC (eV 6) aN))) (lA Ae (aC (l2 aG (eV 7) (eV 8)) aN))) (lA (fun ds=>if ds.length≤sizeLine then some (.tuple ds) else none) (aC (eV 9) aN))) aN))
    [.val (Sd ns),.val (.int a0),.val c.d,.val (.int tn),.val (.int (0+(k:Nat))),.val (.int hr),.val (c.s p),.val (.list [.int pa,.int pb]),.val (.list [.int sa,.int sb]),.val (.str m),u,v,.val (c.s (k+1))]=some (c.more p pa pb sa sb m).d:=by
   rw [Dr.more_d];refine ae (x:=c.d) rfl (aW (af (ae (ae (aW (af rfl (af rfl rfl)) (jj (by simp))) (aW (af (ae rfl rfl (AY (by simp))) rfl) rfl) (Jw (by simp))) (aW (af rfl rfl) (jj (by simp))) (Jw (by simp))) rfl) (jj (by simp))) ?_;rw [hcd];refine (Jw (by simp; omega)).trans ?_;rw [hlen];rfl
  refine ⟨[.val (Sd ns),.val (.int a0),.val (c.more p pa pb sa sb m).d,.val (.int tn),.val (.int (0+(k:Nat))),.val (.int hr),.val (c.s p),.val (.list [.int pa,.int pb]),.val (.list [.int sa,.int sb]),.val (.str m),u,v,.val (c.s (k+1))],rfl,?_,c.more p pa pb sa sb m,_,_,_,_,_,_,_,_,_,Dr.more_ok hc (by omega) (by omega) pa pb sa sb hm.1 ⟨hbp.1,hbp.2,hbs.1,hbs.2⟩ hm.2,hnm,by simp [Dr.more,hlen],rfl⟩;refine de (f8 hh) (de (f8 ea) (de (wf epl) ?_));refine de (wf esz) ?_;refine de (f8 rfl) (de em (de (f8 enm) (f8 efin)))
 obtain ⟨η',e1,c,s4,s5,s6,s7,s8,s9,s10,s11,s12,hc,hnm,hlen,rfl⟩:=main;refine ⟨c,tn,hc,hnm,by omega,?_⟩;unfold bp b9;rw [if_pos (by rfl)];show L0 (jV ak [.val (Sd ns),.val (.int a0),.un,.un,.un,.un,.un,.un,.un,.un,.un,.un,.un]) _=_;have e2:jV ak [.val (Sd ns),.val (.int a0),.un,.un,.un,.un,.un,.un,.un,.un,.un,.un,.un]=some (.rt c.d):=by
  refine de (f8 (aW rfl (jj (by decide)))) (de (f8 (aW (af rfl (af (ae rfl rfl rfl) (af rfl rfl))) et)) (de (sV ?_ e1) rfl));show L0 (aC (lA ak _) aN _) rng1=_;rw [af (aW (af rfl (af rfl (af rfl rfl))) en) rfl];rw [LM,BW (by omega) (by omega),Int.toNat_natCast]
 rw [e2]; rfl
end
theorem qd:∀ ss:List Str,PyData.eqvAll (ss.map PyData.str) (ss.map PyData.str)=true
 | []=>by simp [PyData.eqvAll]
 | s::r=>by
  have ih:=qd r;rw [LW];unfold PyData.eqvAll PyData.eqv;rw [ih,str_dec,decide_eq_true rfl]; rfl
theorem vn {ss:List Str} (h:∀ s∈ss,PyData.strOk s=true):SeqAt.shaped (.list (ss.map PyData.str))=true:=by
 have h1:PyData.canLayAll0 (ss.map PyData.str)=true:=by
  induction ss with
  | nil=>rfl
  | cons x r ih=>simp [PyData.canLayAll0,PyData.canLay0,h x L7,ih fun s hs=>h s (LX _ hs)]
 have h2:PyData.depthAll (ss.map PyData.str)=0:=by
  clear h h1
  induction ss with
  | nil=>rfl
  | cons x r ih=>simp [PyData.depthAll,PyData.depth,ih]
 simp [SeqAt.shaped,PyData.canLay0,PyData.depth,h1,h2]
theorem Ef {ss:List Str} (h:∀ s∈ss,PyData.strOk s=true):pNe (.list (ss.map PyData.str)) (.list (ss.map PyData.str))=some (.bool false):=by
 unfold pNe;rw [if_pos ⟨vn h,vn h⟩];unfold PyData.eqv;rw [qd]; rfl
theorem Fk {f g:En→Option Bool} {η:En} {b:Bool} (h1:f η=some false) (h2:g η=some b):bOr f g η=some b:=by
 unfold bOr;rw [h1]; exact h2
theorem KJ {f g:En→Option Bool} {η:En} (h1:f η=some false):rQ f g η=some false:=by
 unfold rQ;rw [h1]; rfl
theorem HQ {f g:En→Option Bool} {η:En} {b:Bool} (h1:f η=some true) (h2:g η=some b):rQ f g η=some b:=by
 unfold rQ;rw [h1]; exact h2
theorem ifF {c:En→Option Bool} {f g:En→Option Out} {η:En} (h:c η=some false):sIf c f g η=g η:=by
 rw [xg h]; rfl
theorem wq {c:En→Option Bool} {f g:En→Option PyData} {η:En} {b:Bool} (h:c η=some b):vIf c f g η=if b=true then f η else g η:=by
 unfold vIf;rw [h]; rfl
theorem qV {f:En→Option PyData} {fl fh:En→Option (Option Int)} {η:En} {x d:PyData} {l h:Option Int} (h1:f η=some x) (h2:fl η=some l) (h3:fh η=some h) (h4:pSl x l h=some d):eSl f fl fh η=some d:=by
 unfold eSl;rw [h1,LM,h2,LM,h3]; exact h4
theorem oQ {f:En→Option PyData} {η:En} {i:Int} (h:f η=some (.int i)):pS f η=some (some i):=by
 unfold pS;rw [h]; rfl
theorem lU {k:PyData→Option (List PyData)} {f:En→Option PyData} {η:En} {d:PyData} {ds:List PyData} (h:f η=some d) (h2:k d=some ds):lI k f η=some ds:=by
 unfold lI;rw [h]; exact h2
section
variable {c:Sc} (h:c.Ok)
theorem EZ (l:List Nat):(l.map c.s).all lY=true:=by
 rw [List.all_map,List.all_eq_true];intro x _;rfl
include h
theorem KF (a b:Nat):PyData.eqv (c.s a) (c.s b)=decide (a=b):=by
 unfold Sc.s PyData.eqv;rw [str_dec,h.dec]
theorem KL (x:Nat) (l:List Nat):((l.map c.s).any fun y=>PyData.eqv y (c.s x))=decide (x∈l):=by
 induction l with
 | nil=>simp
 | cons y r ih =>
  rw [LW,Mt,ih,KF h];by_cases e:y=x
  ·subst e; simp
  ·have:¬ x=y:=fun z=>e z.symm
   simp [e,this]
theorem Eg (neg:Bool) (x:Nat) (l:List Nat):pIn neg (c.s x) (c.S l)=some (.bool (if neg then !decide (x∈l) else decide (x∈l))):=by
 unfold pIn Sc.S;dsimp only;rw [if_pos ⟨rfl,EZ l⟩,KL h]
omit h in
theorem LB {l:List Nat} {i:Int} {x:Nat} (e:atI l i=some x):atI (l.map c.s) i=some (c.s x):=by
 unfold atI at e ⊢;obtain ⟨j,h1,h2⟩:=bind_some e;rw [LO,h1,LM,L8,h2]; rfl
omit h in
theorem wn {α β:Type} (f:α→β) (xs:List α) (lo hi:Option Int):rN (xs.map f) lo hi=(rN xs lo hi).map f:=by
 unfold rN;rw [LO,List.map_take,List.map_drop]
omit h in
theorem GY {α:Type} (xs:List α) (i k:Nat) (hi:i≤xs.length):rN xs (some (i:Int)) (some ((i:Int)+(k:Int)))=(xs.drop i).take k:=by
 unfold rN;have e:((i:Int)+(k:Int))=((i+k:Nat):Int):=by omega
 rw [e,HT.sIx_nat,HT.sIx_nat,Nat.min_eq_left hi];rw [← List.take_eq_take_iff.mpr (show min (min (i+k) xs.length - i) (xs.drop i).length=min k (xs.drop i).length by rw [Mh]; omega)]
omit h in
theorem Jl {α:Type} (xs:List α) (k:Nat):rN xs none (some (k:Int))=xs.take k:=by
 unfold rN;rw [HT.sIx_none,HT.sIx_nat,List.drop_zero,Nat.sub_zero];exact List.take_eq_take_iff.mpr (by omega)
end
section
variable {c:Sc} (h:c.Ok)
include h
theorem Du {q p:Nat} {l:List Nat} (h1:tL c.st q=some p) (e:zW c.st 13 q=some l) (pr:Nat→Nat) (hl:∀ x∈l,tL c.st x=some (pr x)) (hz:l.length≤3000000) :
  cC [c.d,c.s q]=some (.tuple [.int ((l.map fun x=>c.L x).sum),.int ((l.map fun x=>c.T x).sum),.int ((l.map fun x=>c.L x).sum+c.W q),.int ((l.map fun x=>c.T x).sum+c.H q)]):=by
 unfold cC b9;rw [if_pos (by rfl)];show (mK (aK 13) aL [.val c.d,.val (c.s q),.un,.un,.un,.un]).bind _=_;have all:∀ l:List Nat,l.filter (fun _=>true)=l:=fun l=>by simp
 have e0:bH [none,some 0] (lI asL (lA (aK 13) (aC (eV 0) (aC (eV 1) aN)))) (tgN 0) dM (lA aL (aC (eV 1) (aC (eV 0) aN))) [.val c.d,.val (c.s q),.un,.un,.un,.un]=some (l.map fun x=>c.box (x,pr x)):=by
  show L0 (L0 (aK 13 [c.d,c.s q]) asL) _=_;rw [vm h 13 q l e];show (if (l.map c.s).length≤sizeLine then _ else _)=_;rw [if_pos (by rw [LO]; exact big hz)]
  have:=iS (t:=tgN 0) (p:=dM) (f:=lA aL (aC (eV 1) (aC (eV 0) aN))) (η:=[.un,.val c.d]) c.s (fun _=>true) (fun x=>c.box (x,pr x)) l fun x hx=>⟨_,rfl,rfl,fun _=>rg h (hl x hx)⟩
  rw [all] at this;exact this
 have sm:∀ (k:Int) (Y:Nat→Int) (η:En),(∀ x,(l2 pIx (eV 0) (eC (.int k))) [.val (c.box (x,pr x))]=some (.int (Y x)))→eV 2 η=some (.list (l.map fun x=>c.box (x,pr x))) →
   lA yO (aC (oE (bH [none] (lI asL (eV 2)) (tgN 0) dM (l2 pIx (eV 0) (eC (.int k))))) aN) η=some (.int ((l.map fun x=>Y x).sum)):=fun k Y η hY hη=>by
  have e1:bH [none] (lI asL (eV 2)) (tgN 0) dM (l2 pIx (eV 0) (eC (.int k))) η=some ((l.map fun x=>Y x).map PyData.int):=by
   show L0 (L0 (eV 2 η) asL) _=_;rw [hη];show (if (l.map fun x=>c.box (x,pr x)).length≤sizeLine then _ else _)=_;rw [if_pos (by rw [LO]; exact big hz)]
   have:=iS (t:=tgN 0) (p:=dM) (f:=l2 pIx (eV 0) (eC (.int k))) (η:=sS [none] η) (fun x=>c.box (x,pr x)) (fun _=>true) (fun x=>.int (Y x)) l fun x hx=>⟨_,rfl,rfl,fun _=>hY x⟩
   rw [all] at this;rw [Ml];exact this
  show L0 (L0 (L0 (bH _ _ _ _ _ η) _) _) _=_;rw [e1];show yO [.list ((l.map fun x=>Y x).map PyData.int)]=_;unfold yO;dsimp only;rw [Ds]; rfl
 unfold mK cw ml;rw [e0];have s1:=sm 2 c.L [.val c.d,.val (c.s q),.val (.list (l.map fun x=>c.box (x,pr x))),.un,.un,.un] (fun _=>rfl) rfl;have s2:=sm 3 c.T [.val c.d,.val (c.s q),.val (.list (l.map fun x=>c.box (x,pr x))),.val (.int ((l.map fun x=>c.L x).sum)),.un,.un] (fun _=>rfl) rfl;have s3:=rg h h1;show L0 (L0 (dY 3 _ [.val c.d,.val (c.s q),.val (.list (l.map fun x=>c.box (x,pr x))),.un,.un,.un]) _) _=_;unfold dY;rw [s1,LM,LM];show L0 (L0 (L0 (lA yO _ [.val c.d,.val (c.s q),.val (.list (l.map fun x=>c.box (x,pr x))),.val (.int ((l.map fun x=>c.L x).sum)),.un,.un]) _) _) _=_;rw [s2,LM,LM];show L0 (L0 (L0 (aL [c.d,c.s q]) _) _) _=_;rw [s3];rfl
end
theorem eN {α β:Type} {o:Option α} {k:α→Option β} {x:α} {r:Option β} (h:o=some x) (h2:k x=r):o.bind k=r:=by
 rw [h]; exact h2
theorem Kv {o:PyData→Option PyData} {f:En→Option PyData} {η:En} {x d:PyData} (h1:f η=some x) (h2:o x=some d):l1 o f η=some d:=by
 unfold l1;rw [h1]; exact h2
theorem wI {d:PyData} (h:SeqAt.shaped d=true):pNe d d=some (.bool false):=by
 unfold pNe;rw [if_pos ⟨h,h⟩,SeqAt.eqv_refl d (SeqAt.canLay_of_shaped h)]; rfl
theorem ifN {c:En→Option Bool} {f:En→Option Out} {η:En} (h:c η=some false):sIf c f sNx η=some (.nx η):=by
 rw [ifF h]; rfl
theorem CL {f:En→Option Bool} {η:En} {b:Bool} (h:f η=some b):BG f η=some (!b):=by
 unfold BG;rw [h]; rfl
theorem zr {f g:En→Option Bool} {η:En} {a b:Bool} (h1:f η=some a) (h2:g η=some b):rQ f g η=some (a&&b):=by
 unfold rQ;rw [h1];cases a with
 | false=>rfl
 | true=>exact h2
theorem BP {f:En→Option PyData} {η:En} {b:Bool} (h:f η=some (.bool b)):CU f η=some (.bool (!b)):=by
 unfold CU;rw [h]; rfl
theorem yC {f g:En→Option PyData} {η:En} {a b:Bool} (h1:f η=some (.bool a)) (h2:g η=some (.bool b)):zE f g η=some (.bool (a&&b)):=by
 unfold zE;rw [h1];cases a with
 | false=>rfl
 | true=>exact h2
theorem y4 {f g h:En→Option PyData} {η:En} {i j k:Int} (hf:f η=some (.int i)) (hg:g η=some (.int j)) (hh:h η=some (.int k)):lch pLe pLt f g h η=some (.bool (decide (i≤j)&&decide (j < k))):=by
 have e1:pLe (.int i) (.int j)=some (.bool (decide (i≤j))):=rfl;have e2:pLt (.int j) (.int k)=some (.bool (decide (j < k))):=rfl;unfold lch;rw [hf,LM,hg,LM,e1,LM];show (if decide (i≤j)=true then (h η).bind fun w=>pLt (.int j) w else some (.bool false))=_;cases decide (i≤j) with
 | false=>rfl
 | true=>rw [if_pos rfl,hh,LM,e2]; rfl
theorem hE {n m:Nat} {g:En→Option Out} {ds:List PyData} {d:PyData} (hl:ds.length=n) (h:g (ds.map Sl.val++Ma (m - n) .un)=some (.rt d)):b9 n m g ds=some d:=by
 unfold b9;rw [if_pos hl,h]; rfl
theorem iV {f:En→Option PyData} {η:En} {d:PyData} (h:f η=some d):f9 f η=some (.rt d):=by
 unfold f9;rw [h]; rfl
theorem lZ {ι:Type} {t:En→PyData→Option En} {f:En→Option PyData} {η:En} (D:ι→PyData) (Y:ι→PyData) (xs:List ι) (h:∀ x∈xs,∃ η1,t η (D x)=some η1∧f η1=some (Y x)):cGo t dM f η (xs.map D)=some (xs.map Y):=by
 have:=iS (t:=t) (p:=dM) (f:=f) (η:=η) D (fun _=>true) Y xs fun x hx=>by
  obtain ⟨η1,h1,h2⟩:=h x hx;exact ⟨η1,h1,rfl,fun _=>h2⟩
 rw [show xs.filter (fun _=>true)=xs by simp] at this;exact this
theorem Ci (bs:List Bool):Ei [.list (bs.map PyData.bool)]=some (.bool (bs.any id)):=by
 unfold Ei yQ;dsimp only;rw [BH]; rfl
theorem Cg (i j:Int):Gs [.int i,.int j]=some (.int (max i j)):=by
 show some (PyData.int (if j > i then j else i))=_
 have:(if j > i then j else i)=max i j:=by split <;> omega
 rw [this]
theorem Cf (i j:Int):Gq [.int i,.int j]=some (.int (min i j)):=by
 show some (PyData.int (if j < i then j else i))=_
 have:(if j < i then j else i)=min i j:=by split <;> omega
 rw [this]
noncomputable def inM (s m:Str):Bool:=!(Builtin.Str.occurrences m s 0 m.length 1).isEmpty
theorem Eh (neg:Bool) (s m:Str):pIn neg (.str s) (.str m)=some (.bool (if neg then !inM s m else inM s m)):=rfl
noncomputable def Sc.geo (c:Sc):Geo:=⟨c.L,c.T,c.W,c.H,fun q=>inM "c" (c.mr q),fun q=>inM "h" (c.mr q),fun q=>inM "l" (c.mr q)⟩
noncomputable def arD (a:Ar):PyData:=.tuple [.int a.1,.int a.2.1,.int a.2.2.1,.int a.2.2.2]
structure Tr (c:Sc) (ps:List Nat) (D:Nat→Prop) (pnt:List Nat):Prop where
 ok:c.Ok
 din:∀ q,D q→In ps q
 par:∀ q,D q→tL c.st q=some (K24.par ps q)
 path:∀ q,D q→zW c.st 13 q=some (P ps q)
 up:∀ q,D q→∀ x∈P ps q,D x
 pn:D1 c.st=some pnt
 pd:∀ q∈pnt,D q
 pl:pnt.length≤2000000
 ps:uC ps
theorem HU {ps:List Nat} (q:Nat):(P ps q).length≤q:=Bg q q
theorem Cm (h:Nat→Bool):∀ l:List Nat,(!(l.map h).any id)=l.all fun x=>!h x
 | []=>rfl
 | x::r=>by
  have:=Cm h r
  rw [LW,Mt,MY,← this];cases h x <;> simp
section
variable {c:Sc} {ps:List Nat} {D:Nat→Prop} {pnt:List Nat} (t:Tr c ps D pnt)
include t
theorem KM {q:Nat} (hq:D q):aL [c.d,c.s q]=some (c.box (q,par ps q)):=rg t.ok (t.par q hq)
theorem BJ {q:Nat} (hq:D q):aK 13 [c.d,c.s q]=some (c.S (P ps q)):=vm t.ok 13 q _ (t.path q hq)
theorem Lu {q:Nat} (hq:D q):q≤7:=L9 (t.din q hq).2 t.ps.len
theorem P_7 {q:Nat} (hq:D q):(P ps q).length≤7:=L9 (HU q) (Lu t hq)
theorem Fz {q:Nat} (hq:D q):cC [c.d,c.s q]=some (arD (c.geo.area ps q)) :=
 Du t.ok (t.par q hq) (t.path q hq) (par ps) (fun x hx=>t.par x (t.up q hq x hx)) (by have:=P_7 t hq; omega)
theorem Dt:dQ [c.d]=some (c.S pnt):=zA t.ok t.pn
theorem BK {q:Nat} (hq:D q) (m:Str):ba [c.d,c.s q,.str m]=some (.bool (inM m (c.mr q))) :=
 hE rfl (show on aL [.val c.d,.val (c.s q),.val (.str m)]=_ from iV (ae rfl (ae (aW (af rfl (af rfl rfl)) (KM t hq)) rfl rfl) rfl))
theorem G8 {q:Nat} (hq:D q):eW [c.d,c.s q]=some (.bool (c.geo.shown ps q)):=by
 have e:bH [none,some 0] (lI asL (lA (aK 13) (aC (eV 0) (aC (eV 1) aN)))) (tgN 0) dM (lA ba (aC (eV 1) (aC (eV 0) (aC (eC (.str "h")) aN)))) [.val c.d,.val (c.s q)]=some (((P ps q).map c.geo.h).map PyData.bool):=by
  refine fZ (ds:=(P ps q).map c.s) (lU (aW (af rfl (af rfl rfl)) (BJ t hq)) rfl) (by rw [LO]; have:=P_7 t hq; omega) ?_;rw [Ml];exact lZ (η:=[.un,.val c.d]) c.s (fun x=>.bool (c.geo.h x)) (P ps q) fun x hx=>⟨[.val (c.s x),.val c.d],rfl,aW (af rfl (af rfl (af rfl rfl))) (BK t (t.up q hq x hx) "h")⟩
 have e2:=BP (aW (af (g:=aN) (cx e) rfl) (Ci _));rw [Cm] at e2;exact hE rfl (show ol (aK 13) ba [.val c.d,.val (c.s q)]=_ from iV e2)
omit t in
theorem JC (a b:Ar):eP [arD a,arD b]=some (arD (ovl a b)) :=
 hE rfl (show pK [.val (arD a),.val (arD b),.un,.un]=_ from
  de (f8 (aW (af (ae rfl rfl rfl) (af (ae rfl rfl rfl) rfl)) (Cg _ _)))
   (de (f8 (aW (af (ae rfl rfl rfl) (af (ae rfl rfl rfl) rfl)) (Cg _ _)))
    (iV (aW (af rfl (af rfl (af (aW (af (ae rfl rfl rfl) (af (ae rfl rfl rfl) rfl)) (Cf _ _)) (af (aW (af (ae rfl rfl rfl) (af (ae rfl rfl rfl) rfl)) (Cf _ _)) rfl)))) (jj (by simp))))))
omit t in
theorem G9 (a:Ar) (x y:Int):bA [arD a,.int x,.int y]=some (.bool (rM a x y)) :=
 hE rfl (show nq [.val (arD a),.val (.int x),.val (.int y)]=_ from
  iV (yC (y4 (ae rfl rfl rfl) rfl (ae rfl rfl rfl)) (y4 (ae rfl rfl rfl) rfl (ae rfl rfl rfl))))
theorem Dv {x1:Sl}:∀ (l:List Nat) (w:Ar) (s3:Sl),(∀ x∈l,D x)→∃ s3',sGo (tgN 3) (sIf (bT (lA ba (aC (eV 0) (aC (eV 3) (aC (eC (.str "c")) aN))))) (dY 2 (lA eP (aC (eV 2) (aC (lA cC (aC (eV 0) (aC (eV 3) aN))) aN)))) sNx)
  (l.map c.s) [.val c.d,x1,.val (arD w),s3]=some (.nx [.val c.d,x1,.val (arD (A4 c.geo ps l w)),s3'])
 | [],w,s3,_=>⟨s3,rfl⟩
 | x::r,w,s3,h=>by
  have hx:=h x L7;obtain ⟨s3',ih⟩:=Dv r (if c.geo.c x=true then ovl w (c.geo.area ps x) else w) (.val (c.s x)) fun y hy=>h y (LX _ hy);refine ⟨s3',?_⟩;rw [LW];unfold sGo A4;have eb:bT (lA ba (aC (eV 0) (aC (eV 3) (aC (eC (.str "c")) aN)))) [.val c.d,x1,.val (arD w),.val (c.s x)]=some (c.geo.c x):=bm (aW (af rfl (af rfl (af rfl rfl))) (BK t hx "c"));show L0 (sIf _ _ _ [.val c.d,x1,.val (arD w),.val (c.s x)]) _=_;have e1:sIf (bT (lA ba (aC (eV 0) (aC (eV 3) (aC (eC (.str "c")) aN))))) (dY 2 (lA eP (aC (eV 2) (aC (lA cC (aC (eV 0) (aC (eV 3) aN))) aN)))) sNx [.val c.d,x1,.val (arD w),.val (c.s x)]
    = some (.nx [.val c.d,x1,.val (arD (if c.geo.c x=true then ovl w (c.geo.area ps x) else w)),.val (c.s x)]):=by
   rw [xg eb];cases c.geo.c x with
   | false=>rfl
   | true =>
    rw [if_pos rfl,if_pos rfl];exact f8 (aW (af rfl (af (aW (af rfl (af rfl rfl)) (Fz t hx)) rfl)) (JC w _))
  rw [e1,LM];exact ih
theorem Fx {q:Nat} (hq:D q):dS [c.d,c.s q]=some (arD (c.geo.wnd ps q)):=by
 obtain ⟨s3,e⟩:=Dv t (x1:=.val (c.s q)) (P ps q) (c.geo.area ps q) .un fun x hx=>t.up q hq x hx;exact hE rfl (show nn cC (aK 13) ba eP [.val c.d,.val (c.s q),.un,.un]=_ from
  de (f8 (aW (af rfl (af rfl rfl)) (Fz t hq))) (de (sV (lU (aW (af rfl (af rfl rfl)) (BJ t hq)) rfl) e) (iV rfl)))
omit t in
noncomputable def tkD (c:Sc) (ps:List Nat) (q:Nat):PyData:=.tuple [c.s q,arD (c.geo.wnd ps q)]
theorem Bn {q:Nat} (h:q∈pnt.reverse.filter (c.geo.shown ps)):D q:=t.pd q (List.mem_reverse.mp (Mr.mp h).1)
theorem Hj {q:Nat} (h:q∈tkL c.geo ps pnt):D q:=Bn t (Mr.mp h).1
theorem Fy:ji [c.d]=some (.list ((tkL c.geo ps pnt).map (tkD c ps))):=by
 have hk:pnt.length≤3000000:=L9 t.pl (by decide);have e1:bH [none,some 0] (fun η=>((aC (lA dQ (aC (eV 0) aN)) aN) η).bind rvS) (tgN 0) (bT (lA eW (aC (eV 1) (aC (eV 0) aN)))) (eV 0) [.val c.d,.un]=some ((pnt.reverse.filter (c.geo.shown ps)).map c.s):=by
  refine fZ (ds:=pnt.reverse.map c.s) ?_ (by rw [LO,Mq]; exact hk) ?_
  ·refine eN (af (aW (af rfl rfl) (Dt t)) rfl) ?_;show some ((List.map c.s _).reverse)=_;rw [Nv]
  ·exact iS (η:=[.un,.val c.d]) c.s (c.geo.shown ps) c.s _ fun x hx=>⟨[.val (c.s x),.val c.d],rfl,bm (aW (af rfl (af rfl rfl)) (G8 t (t.pd x (List.mem_reverse.mp hx)))),fun _=>rfl⟩
 have e2:bH [none,some 0] (lI asL (eV 1)) (tgN 0) (BG (bT (lA ba (aC (eV 1) (aC (eV 0) (aC (eC (.str "l")) aN)))))) (lA (fun ds=>if ds.length≤sizeLine then some (.tuple ds) else none) (aC (eV 0) (aC (lA dS (aC (eV 1) (aC (eV 0) aN))) aN)))
   [.val c.d,.val (.list ((pnt.reverse.filter (c.geo.shown ps)).map c.s))]=some ((tkL c.geo ps pnt).map (tkD c ps)):=by
  refine fZ (ds:=(pnt.reverse.filter (c.geo.shown ps)).map c.s) (lU rfl rfl) ?_ ?_
  ·rw [LO];refine L9 (MJ ..) ?_;rw [Mq]; exact hk
  ·exact iS (η:=[.un,.val c.d]) c.s (fun q=>!c.geo.l q) (tkD c ps) _ fun x hx=>⟨[.val (c.s x),.val c.d],rfl,CL (bm (aW (af rfl (af rfl (af rfl rfl))) (BK t (Bn t hx) "l"))),fun _=>aW (af rfl (af (aW (af rfl (af rfl rfl)) (Fx t (Bn t hx))) rfl)) (jj (by simp))⟩
 exact hE rfl (show qS dQ eW ba dS [.val c.d,.un]=_ from de (wf e1) (iV (cx e2)))
omit t in
noncomputable def hdD (c:Sc):List Nat→PyData
 | []=>.none
 | q::_=>c.s q
theorem AC (x y:Int) {x0:Sl}:∀ (l:List Nat) (s3 s4:Sl),(∀ q∈l,D q) →
  (l.filter (c.geo.tch ps x y)=[]→∃ s3' s4',sGo (tgT (bU (tgN 3) (bU (tgN 4) kn))) (sIf (bT (lA bA (aC (eV 4) (aC (eV 1) (aC (eV 2) aN))))) (f9 (eV 3)) sNx) (l.map (tkD c ps)) [x0,.val (.int x),.val (.int y),s3,s4]=some (.nx [x0,.val (.int x),.val (.int y),s3',s4']))
  ∧ (∀ q r,l.filter (c.geo.tch ps x y)=q::r→sGo (tgT (bU (tgN 3) (bU (tgN 4) kn))) (sIf (bT (lA bA (aC (eV 4) (aC (eV 1) (aC (eV 2) aN))))) (f9 (eV 3)) sNx) (l.map (tkD c ps)) [x0,.val (.int x),.val (.int y),s3,s4]=some (.rt (c.s q)))
 | [],s3,s4,_=>⟨fun _=>⟨s3,s4,rfl⟩,fun q r e=>by cases e⟩
 | p::l,s3,s4,h=>by
  have hp:=h p L7;have ih:=AC x y (x0:=x0) l (.val (c.s p)) (.val (arD (c.geo.wnd ps p))) fun q hq=>h q (LX _ hq);have eb:bT (lA bA (aC (eV 4) (aC (eV 1) (aC (eV 2) aN)))) [x0,.val (.int x),.val (.int y),.val (c.s p),.val (arD (c.geo.wnd ps p))]=some (c.geo.tch ps x y p):=by
   rw [← FK t.ps (t.din p hp).1];exact bm (aW (af rfl (af rfl (af rfl rfl))) (G9 _ x y))
  have es:sGo (tgT (bU (tgN 3) (bU (tgN 4) kn))) (sIf (bT (lA bA (aC (eV 4) (aC (eV 1) (aC (eV 2) aN))))) (f9 (eV 3)) sNx) ((p::l).map (tkD c ps)) [x0,.val (.int x),.val (.int y),s3,s4]
    = if c.geo.tch ps x y p=true then some (.rt (c.s p)) else sGo (tgT (bU (tgN 3) (bU (tgN 4) kn))) (sIf (bT (lA bA (aC (eV 4) (aC (eV 1) (aC (eV 2) aN))))) (f9 (eV 3)) sNx) (l.map (tkD c ps)) [x0,.val (.int x),.val (.int y),.val (c.s p),.val (arD (c.geo.wnd ps p))]:=by
   rw [LW]
   conv=>lhs; unfold sGo
   show L0 (sIf _ _ _ [x0,.val (.int x),.val (.int y),.val (c.s p),.val (arD (c.geo.wnd ps p))]) _=_;rw [xg eb];cases c.geo.tch ps x y p <;> rfl
  rw [es,MB];cases c.geo.tch ps x y p with
  | false =>
   rw [if_neg LU,if_neg LU];exact ih
  | true =>
   rw [if_pos rfl,if_pos rfl];exact ⟨fun e=>(by cases e),fun q r e=>(by cases e; rfl)⟩
theorem Ha (x y:Int):gD [.list ((tkL c.geo ps pnt).map (tkD c ps)),.int x,.int y]=some (hdD c (zb c.geo ps pnt x y)):=by
 have:=AC t x y (x0:=.val (.list ((tkL c.geo ps pnt).map (tkD c ps)))) (tkL c.geo ps pnt) .un .un fun q hq=>Hj t hq
 have eh:zb c.geo ps pnt x y=(tkL c.geo ps pnt).filter (c.geo.tch ps x y):=rfl;rw [eh];cases hh:(tkL c.geo ps pnt).filter (c.geo.tch ps x y) with
 | nil =>
  obtain ⟨s3,s4,e⟩:=this.1 hh;exact hE rfl (show jN bA [.val (.list ((tkL c.geo ps pnt).map (tkD c ps))),.val (.int x),.val (.int y),.un,.un]=_ from de (sV (lU rfl rfl) e) (iV rfl))
 | cons q r =>
  have e:=this.2 q r hh;refine hE rfl (show jN bA [.val (.list ((tkL c.geo ps pnt).map (tkD c ps))),.val (.int x),.val (.int y),.un,.un]=_ from ?_);unfold jN cw;rw [sV (r:=some (.rt (c.s q))) (lU rfl rfl) e];rfl
end
noncomputable def kD (c:Sc):Option Nat→PyData
 | some x=>c.s x
 | none=>.none
noncomputable def oL (c:Sc):Option (List Nat)→PyData
 | some l=>c.S l
 | none=>.none
structure Hd where
 trail:List Nat
 pr:Option (List Nat)
 held:Option Nat
 clk:Option Nat
 mom:Int
 dbl:Bool
noncomputable def hd0:Hd:=⟨[],none,none,none,0,false⟩
noncomputable def hf (c:Sc) (h:Hd):List (Str×D):=[("trail", .d (c.S h.trail)),("pressed_at", .d (oL c h.pr)),("held_by", .d (kD c h.held)),("clicked", .d (kD c h.clk)),("clicked_moment", .d (.int h.mom)),("was_double", .d (.bool h.dbl))]
noncomputable abbrev Ho (c:Sc) (s:Sto) (m:Nat) (h:Hd):Prop:=s[m]?=some (.obj 0 (hf c h))
noncomputable def rD (c:Sc) (r:Str×Nat):PyData:=.tuple [.str r.1,c.s r.2]
noncomputable def Rw (c:Sc) (l:List (Str×Nat)):PyData:=.list (l.map (rD c))
noncomputable def shN:List Nat→List Nat→List Nat
 | x::xs,y::ys=>if x=y then x::shN xs ys else []
 | _,_=>[]
theorem yI:∀ a b:List Nat,(shN a b).length≤a.length
 | [],_=>by simp [shN]
 | x::xs,[]=>by simp [shN]
 | x::xs,y::ys=>by
  unfold shN
  split
  ·have:=yI xs ys
   simp; omega
  ·simp
theorem jC {w:Wd} {i m k:Nat} {fs:List (Str×D)} {f:Str} {x:PyData} (h1:w.η[i]?=some (some (.r m))) (h2:w.s[m]?=some (.obj k fs)) (h3:fs.lookup f=some (.d x)):gd i f (vw w)=some x:=by
 unfold gd vw;rw [L8,h1];show (match some (vwS (pD w.s) w.s (some (.r m))) with | some (.ob fs)=>fs f | _=>none)=_;rw [FM h2];show (fs.lookup f).bind (pD w.s)=_;rw [h3]; rfl
theorem uu {c:Sc} {l m:List (Str×Nat)} (hl:l.length≤1000) (hm:m.length≤1000):aG (Rw c l) (Rw c m)=some (Rw c (l++m)):=by
 unfold aG Rw;dsimp only;rw [if_pos (by rw [LO,LO]; exact big (by omega)),← Mo]
theorem Fd {α:Type} (xs:List α) (k:Nat):rN xs (some (k:Int)) none=xs.drop k:=by
 unfold rN;rw [HT.sIx_nat,HT.sIx_none];rcases Nat.le_total k xs.length with h | h
 ·rw [Nat.min_eq_left h];exact Nw (by rw [Mh]; omega)
 ·rw [Nat.min_eq_right h,List.drop_eq_nil_of_le (LS _),List.drop_eq_nil_of_le h,List.take_nil]
theorem zd {c:Sc} (l:List Nat) (k:Nat):pSl (c.S l) (some (k:Int)) none=some (c.S (l.drop k)):=by
 show some (PyData.list _)=_;rw [wn,Fd]; rfl
theorem Bl {c:Sc} (l:List Nat):pSl (c.S l) (some (-1)) none=some (c.S (l.drop (l.length - 1))):=by
 show some (PyData.list (rN (l.map c.s) (some (-1)) none))=_;rw [wn]
 have:rN l (some (-1)) none=l.drop (l.length - 1):=by
  unfold rN;rw [HT.sIx_none];have e:HT.sIx l.length 0 (some (-1))=l.length - 1:=by
   unfold HT.sIx
   first | (dsimp only; split <;> omega) | (dsimp only; omega) | (simp; omega) | skip
  rw [e];exact Nw (by rw [Mh]; omega)
 rw [this]; rfl
section
variable {c:Sc} (h:c.Ok)
include h
theorem nes (a b:Nat):pNe (c.s a) (c.s b)=some (.bool (!decide (a=b))):=by
 have:=Ce (h.ok a) (h.ok b)
 rw [h.dec] at this;exact this
theorem Hr {A B:Sl}:∀ (a b acc:List Nat) (s3 s4:Sl),acc.length+a.length≤1000→∃ s3' s4',sGo (tgT (bU (tgN 3) (bU (tgN 4) kn))) (cw (sIf (bT (l2 pNe (eV 3) (eV 4))) sBk sNx) (DH 2 (eV 3))) (zpD (a.map c.s) (b.map c.s)) [A,B,.own (acc.map c.s),s3,s4]=some (.nx [A,B,.own ((acc++shN a b).map c.s),s3',s4'])
 | [],b,acc,s3,s4,_=>⟨s3,s4,by simp [zpD,sGo,shN]⟩
 | x::xs,[],acc,s3,s4,_=>⟨s3,s4,by simp [zpD,sGo,shN]⟩
 | x::xs,y::ys,acc,s3,s4,hl=>by
  rw [LW,LW,zpD];unfold sGo shN;show ∃ s3' s4',L0 (some [A,B,.own (acc.map c.s),.val (c.s x),.val (c.s y)]) _=_;by_cases e:x=y
  ·subst e;obtain ⟨s3',s4',ih⟩:=Hr xs ys (acc++[x]) (.val (c.s x)) (.val (c.s x)) (by rw [LQ]; simp at hl ⊢; omega);refine ⟨s3',s4',?_⟩;have hne:=nes h x x;rw [decide_eq_true rfl] at hne;have hb:cw (sIf (bT (l2 pNe (eV 3) (eV 4))) sBk sNx) (DH 2 (eV 3)) [A,B,.own (acc.map c.s),.val (c.s x),.val (c.s x)]=some (.nx [A,B,.own ((acc++[x]).map c.s),.val (c.s x),.val (c.s x)]):=by
    refine de (η1:=[A,B,.own (acc.map c.s),.val (c.s x),.val (c.s x)]) (ifN (bm (ae rfl rfl hne))) ?_;show (if (acc.map c.s).length < sizeLine then some (Out.nx [A,B,.own (acc.map c.s++[c.s x]),.val (c.s x),.val (c.s x)]) else none)=_;rw [if_pos (L5 (show (acc.map c.s).length < 1001 by rw [LO]; omega) (big (by decide))),Mo]; rfl
   rw [LM,hb,LM,if_pos rfl];dsimp only;rw [ih]
   simp
  ·refine ⟨.val (c.s x),.val (c.s y),?_⟩;have hne:=nes h x y;rw [decide_eq_false e] at hne;have hb:cw (sIf (bT (l2 pNe (eV 3) (eV 4))) sBk sNx) (DH 2 (eV 3)) [A,B,.own (acc.map c.s),.val (c.s x),.val (c.s y)]=some (.bk [A,B,.own (acc.map c.s),.val (c.s x),.val (c.s y)]):=by
    unfold cw;rw [xg (b:=true) (bm (ae rfl rfl hne)),if_pos rfl]; rfl
   rw [LM,hb,LM,if_neg e]
   simp
theorem KP {a b:List Nat} (ha:a.length≤1000):eU [c.S a,c.S b]=some (c.S (shN a b)):=by
 obtain ⟨s3,s4,e⟩:=Hr h (A:=.val (c.S a)) (B:=.val (c.S b)) a b [] .un .un (by simpa using ha);refine hE rfl (show qT [.val (c.S a),.val (c.S b),.un,.un,.un]=_ from ?_);refine de (η1:=[.val (c.S a),.val (c.S b),.own [],.un,.un]) (wf (eN rfl (eS (by simp)))) (de (η1:=[.val (c.S a),.val (c.S b),.own ((shN a b).map c.s),s3,s4]) (sV (eN rfl rfl) ?_) rfl);simpa using e
end
noncomputable def wr (w:Str) (l:List Nat):List (Str×Nat):=l.map fun x=>(w,x)
noncomputable def lead (h:Hd) (p:List Nat):List (Str×Nat):=wr "leave" (h.trail.drop (shN h.trail p).length).reverse++wr "enter" (p.drop (shN h.trail p).length)
noncomputable def tell (h:Hd) (w:Str):List (Str×Nat):=match h.held with | some x=>[(w,x)] | none=>[]
noncomputable def v4 (h:Hd) (x:Nat) (mo:Int):Bool:=decide (h.clk=some x)&&(decide (mo - h.mom≤20)&&!h.dbl)
noncomputable def lE (h:Hd) (x:Nat) (mo:Int):List (Str×Nat):=if v4 h x mo=true then [("click", x),("double", x)] else [("click", x)]
noncomputable def ox (h:Hd) (x:Nat) (mo:Int):Hd:={ h with clk:=some x,mom:=mo,dbl:=v4 h x mo }
theorem set_set {l:Sto} {n:Nat} {c c':Cell}:(l.set n c).set n c'=l.set n c':=M9 ..
theorem Ho.set {c:Sc} {s:Sto} {m:Nat} {h:Hd} (hc:Ho c s m h) (h':Hd):Ho c (s.set m (.obj 0 (hf c h'))) m h':=LV (LT.mp hc).1
theorem CW (w:Str) {c:Sc} (x:Nat) (η:En) (h:eV 0 η=some (c.s x)):lA (fun ds=>if ds.length≤sizeLine then some (.tuple ds) else none) (aC (eC (.str w)) (aC (eV 0) aN)) η=some (rD c (w,x)) :=
 aW (af rfl (af h rfl)) (jj (by simp))
section
variable {c:Sc} {s:Sto} {m:Nat} {h:Hd}
theorem BN (ok:c.Ok) (hc:Ho c s m h) {p:List Nat} (ht:h.trail.length≤1000) (hp:p.length≤1000):bh [.r m,.d (c.S p)] s=some (.d (Rw c (lead h p)),s.set m (.obj 0 (hf c { h with trail:=p }))):=by
 refine bJ rfl (show l9 eU ⟨[some (.r m),some (.d (c.S p)),none,none],s⟩=_ from ?_);have ft:∀ (x2 x3:Option D),gd 0 "trail" (vw ⟨[some (.r m),some (.d (c.S p)),x2,x3],s⟩)=some (c.S h.trail):=fun x2 x3=>jC rfl hc rfl;refine ai (w1:=⟨[some (.r m),some (.d (c.S p)),some (.d (.int ((shN h.trail p).length:Nat))),none],s⟩) (aY (au (aW (af (aW (af (ft _ _) (af rfl rfl)) (KP ok ht)) rfl) ?_))) ?_
 ·show some (PyData.int (((shN h.trail p).map c.s).length:Nat))=_;rw [LO]
 have e3:bH [none] (fun η=>((aC (eSl (gd 0 "trail") (pS (eV 2)) pN) aN) η).bind rvS) (tgN 0) dM (lA (fun ds=>if ds.length≤sizeLine then some (.tuple ds) else none) (aC (eC (.str "leave")) (aC (eV 0) aN))) (vw ⟨[some (.r m),some (.d (c.S p)),some (.d (.int ((shN h.trail p).length:Nat))),none],s⟩)=some ((wr "leave" (h.trail.drop (shN h.trail p).length).reverse).map (rD c)):=by
  refine fZ (ds:=(h.trail.drop (shN h.trail p).length).reverse.map c.s) (eN (af (qV (ft _ _) (oQ rfl) rfl (zd _ _)) rfl) ?_) (by rw [LO,Mq,Mh]; omega) ?_
  ·show some ((h.trail.drop (shN h.trail p).length).map c.s).reverse=_;rw [Nv]
  ·unfold wr;rw [Ml];exact lZ (η:=[.un]) c.s (fun x=>rD c ("leave", x)) _ fun x hx=>⟨[.val (c.s x)],rfl,CW "leave" x _ rfl⟩
 refine ai (w1:=⟨[some (.r m),some (.d (c.S p)),some (.d (.int ((shN h.trail p).length:Nat))),some (.d (Rw c (wr "leave" (h.trail.drop (shN h.trail p).length).reverse)))],s⟩) (aY (Kn e3)) ?_;refine ai (w1:=⟨[some (.r m),some (.d (c.S p)),some (.d (.int ((shN h.trail p).length:Nat))),some (.d (Rw c (wr "leave" (h.trail.drop (shN h.trail p).length).reverse)))],s.set m (.obj 0 (hf c { h with trail:=p }))⟩) ?_ (bE (au ?_))
 ·rw [hJ (d:=.d (c.S p)) (n:=m) (fs:=hf c h) (au (aW (af rfl rfl) rfl)) rfl hc (by simp [hf])];rfl
 ·refine ae rfl (cx (fZ (ds:=(p.drop (shN h.trail p).length).map c.s) (lU (qV rfl (oQ rfl) rfl (zd _ _)) rfl) (by rw [LO,Mh]; omega) ?_)) (uu (l:=wr "leave" (h.trail.drop (shN h.trail p).length).reverse) (m:=wr "enter" (p.drop (shN h.trail p).length)) (by unfold wr; rw [LO,Mq,Mh]; omega) (by unfold wr; rw [LO,Mh]; omega));unfold wr;rw [Ml];exact lZ (η:=[.un]) c.s (fun x=>rD c ("enter", x)) _ fun x hx=>⟨[.val (c.s x)],rfl,CW "enter" x _ rfl⟩
theorem FF (hc:Ho c s m h) (w:Str):aB [.r m,.d (.str w)] s=some (.r s.length,s++[.lst ((tell h w).map fun r=>D.d (rD c r))]):=by
 refine bJ rfl (show hV ⟨[some (.r m),some (.d (.str w))],s⟩=_ from bE ?_);have fh:gd 0 "held_by" (vw ⟨[some (.r m),some (.d (.str w))],s⟩)=some (kD c h.held):=jC rfl hc rfl;unfold IT tell;cases hh:h.held with
 | none =>
  rw [hh] at fh;rw [bB (b:=true) (bm (ae fh rfl rfl)),LM,if_pos rfl];rfl
 | some x =>
  rw [hh] at fh;rw [bB (b:=false) (bm (ae fh rfl rfl)),LM,if_neg LU];unfold mN;have e:aC (lA (fun ds=>if ds.length≤sizeLine then some (.tuple ds) else none) (aC (eV 1) (aC (gd 0 "held_by") aN))) aN (vw ⟨[some (.r m),some (.d (.str w))],s⟩)=some [rD c (w,x)]:=af (aW (af rfl (af fh rfl)) (jj (by simp))) rfl;show L0 (L0 (aC _ aN _) gL) _=_;rw [e,LM,eS (by simp)];rfl
theorem FG (ok:c.Ok) (hc:Ho c s m h) {q p:List Nat} (hq:h.pr=some q) (hl:q.length≤1000):c8 [.r m,.d (c.S p)] s=some (.d (c.S ((shN q p).drop ((shN q p).length - 1))),s.set m (.obj 0 (hf c { h with pr:=none,held:=none }))):=by
 refine bJ rfl (show kM eU ⟨[some (.r m),some (.d (c.S p)),none],s⟩=_ from ?_);have fp:gd 0 "pressed_at" (vw ⟨[some (.r m),some (.d (c.S p)),none],s⟩)=some (c.S q):=(jC rfl hc rfl).trans (by rw [hq]; rfl);have hc1:Ho c (s.set m (.obj 0 (hf c { h with pr:=none }))) m { h with pr:=none }:=hc.set _;refine ai (w1:=⟨[some (.r m),some (.d (c.S p)),some (.d (c.S (shN q p)))],s⟩) (aY (au (aW (af fp (af rfl rfl)) (KP ok hl)))) ?_;refine ai (w1:=⟨[some (.r m),some (.d (c.S p)),some (.d (c.S (shN q p)))],s.set m (.obj 0 (hf c { h with pr:=none }))⟩) ?_ ?_
 ·rw [hJ (d:=.d .none) (n:=m) (fs:=hf c h) (au rfl) rfl hc (by simp [hf])];rfl
 refine ai (w1:=⟨[some (.r m),some (.d (c.S p)),some (.d (c.S (shN q p)))],s.set m (.obj 0 (hf c { h with pr:=none,held:=none }))⟩) ?_ (bE (au (qV rfl (oQ rfl) rfl (Bl _))));rw [hJ (d:=.d .none) (n:=m) (fs:=hf c { h with pr:=none }) (au rfl) rfl hc1 (by simp [hf])];show some (MOut.nx ⟨_,(s.set m _).set m _⟩)=_;rw [set_set]; rfl
theorem Lw (ok:c.Ok) (K:Option Nat) (x:Nat):pEq (kD c K) (c.s x)=some (.bool (decide (K=some x))):=by
 cases K with
 | none =>
  show pEq .none (.str (c.nm x))=_;unfold pEq;rw [if_pos ⟨by rfl,lc (ok.ok x)⟩];simp [PyData.eqv]
 | some y =>
  show pEq (c.s y) (c.s x)=_;rw [ok.eqs]; simp
theorem Hh (ok:c.Ok) (hc:Ho c s m h) (x:Nat) (mo:Int):cb [.r m,.d (c.s x),.d (.int mo)] s=some (.d (Rw c (lE h x mo)),s.set m (.obj 0 (hf c (ox h x mo)))):=by
 refine bJ rfl (show lB ⟨[some (.r m),some (.d (c.s x)),some (.d (.int mo)),none,none],s⟩=_ from ?_);refine ai (w1:=⟨[some (.r m),some (.d (c.s x)),some (.d (.int mo)),some (.d (.bool (decide (mo - h.mom≤20)))),none],s⟩) (aY (au (ae (ae rfl (jC rfl hc rfl) rfl) rfl rfl))) ?_;have e4:zE (l2 pEq (gd 0 "clicked") (eV 1)) (zE (eV 3) (CU (gd 0 "was_double"))) (vw ⟨[some (.r m),some (.d (c.s x)),some (.d (.int mo)),some (.d (.bool (decide (mo - h.mom≤20)))),none],s⟩)=some (.bool (v4 h x mo)) :=
  yC (ae (jC rfl hc rfl) rfl (Lw ok _ _)) (yC rfl (BP (jC rfl hc rfl)))
 refine ai (w1:=⟨[some (.r m),some (.d (c.s x)),some (.d (.int mo)),some (.d (.bool (decide (mo - h.mom≤20)))),some (.d (.bool (v4 h x mo)))],s⟩) (aY (au e4)) ?_;have hc1:=hc.set { h with clk:=some x };have hc2:=hc.set { h with clk:=some x,mom:=mo };refine ai (w1:=⟨[some (.r m),some (.d (c.s x)),some (.d (.int mo)),some (.d (.bool (decide (mo - h.mom≤20)))),some (.d (.bool (v4 h x mo)))],s.set m (.obj 0 (hf c { h with clk:=some x }))⟩) ?_ ?_
 ·rw [hJ (d:=.d (c.s x)) (n:=m) (fs:=hf c h) (au rfl) rfl hc (by simp [hf])];rfl
 refine ai (w1:=⟨[some (.r m),some (.d (c.s x)),some (.d (.int mo)),some (.d (.bool (decide (mo - h.mom≤20)))),some (.d (.bool (v4 h x mo)))],s.set m (.obj 0 (hf c { h with clk:=some x,mom:=mo }))⟩) ?_ ?_
 ·rw [hJ (d:=.d (.int mo)) (n:=m) (fs:=hf c { h with clk:=some x }) (au rfl) rfl hc1 (by simp [hf])];show some (MOut.nx ⟨_,(s.set m _).set m _⟩)=_;rw [set_set]; rfl
 refine ai (w1:=⟨[some (.r m),some (.d (c.s x)),some (.d (.int mo)),some (.d (.bool (decide (mo - h.mom≤20)))),some (.d (.bool (v4 h x mo)))],s.set m (.obj 0 (hf c (ox h x mo)))⟩) ?_ (bE (au ?_))
 ·rw [hJ (d:=.d (.bool (v4 h x mo))) (n:=m) (fs:=hf c { h with clk:=some x,mom:=mo }) (au rfl) rfl hc2 (by simp [hf])];show some (MOut.nx ⟨_,(s.set m _).set m _⟩)=_;rw [set_set]; rfl
 ·have et:∀ w:Str,∀ η:En,eV 1 η=some (c.s x)→lA (fun ds=>if ds.length≤sizeLine then some (.tuple ds) else none) (aC (eC (.str w)) (aC (eV 1) aN)) η=some (rD c (w,x)):=fun w η hη=>aW (af rfl (af hη rfl)) (jj (by simp));rw [wq (b:=v4 h x mo) rfl];unfold lE;cases v4 h x mo with
  | true =>
   rw [if_pos rfl,if_pos rfl];exact cx (eN (af (et _ _ rfl) (af (et _ _ rfl) rfl)) (eS (by simp)))
  | false =>
   rw [if_neg LU,if_neg LU];exact cx (eN (af (et _ _ rfl) rfl) (eS (by simp)))
end
noncomputable def nf (c:Sc) (kd:Nat):List (Str×D):=[("scene", .d c.d),("known", .r kd)]
noncomputable def Bd (h:Hd):Prop:=h.trail.length≤7∧∀ q,h.pr=some q→q.length≤7
noncomputable def Ky (kvs:List (Key×D)):Prop:=∃ ns:List Int,keyIs' kvs=some ns∧ns.Nodup
theorem GB {kvs:List (Key×D)} {k:Key}:bN kvs k=none↔k∉kvs.map (·.1):=by
 induction kvs with
 | nil=>simp [bN]
 | cons e r ih =>
  by_cases h:e.1=k
  ·simp [bN,h]
  ·have h':¬ k=e.1:=fun z=>h z.symm;simp only [bN,ML,h,decide_false,LW,Mb,h',false_or] at ih ⊢;exact ih
theorem ym {j:Int} {d:D}:∀ {kvs:List (Key×D)} {ns:List Int},keyIs' kvs=some ns→keyIs' (kvs++[(.inl j,d)])=some (ns++[j])
 | [],_,h=>by cases h; rfl
 | (.inl n,_)::r,_,h=>by
  obtain ⟨l,h1,h2⟩:=bind_some h;cases h2;show (keyIs' (r++[(.inl j,d)])).bind _=_;rw [ym h1]; rfl
 | (.inr _,_)::r,_,h=>by cases h
theorem Ky.look {kvs:List (Key×D)} {ns:List Int} (h:keyIs' kvs=some ns) (j:Int):bN kvs (.inl j)=none↔j∉ns:=by
 rw [GB,pJ h]
 simp
theorem Ky.app {kvs:List (Key×D)} (h:Ky kvs) {j:Int} {d:D} (hj:bN kvs (.inl j)=none):Ky (kvs++[(.inl j,d)]):=by
 obtain ⟨ns,h1,h2⟩:=h;refine ⟨ns++[j],ym h1,?_⟩;rw [M8];refine ⟨h2,by simp,fun a ha b hb e=>?_⟩;rw [Mi.mp hb] at e;exact (Ky.look h1 j).mp hj (e ▸ ha)
structure HOk (c:Sc) (s:Sto) (n kd:Nat) (kvs:List (Key×D)) (K:Int→Hd):Prop where
 ob:s[n]?=some (.obj 1 (nf c kd))
 dc:s[kd]?=some (.dct kvs)
 dflt:∀ j:Int,bN kvs (.inl j)=none→K j=hd0
 hand:∀ (j:Int) d,bN kvs (.inl j)=some d→∃ m,d=.r m∧Ho c s m (K j)
 inj:∀ (j j':Int) m,bN kvs (.inl j)=some (.r m)→bN kvs (.inl j')=some (.r m)→j=j'
 bd:∀ j,Bd (K j)
 ky:Ky kvs
noncomputable def Own (n kd:Nat) (kvs:List (Key×D)) (i:Nat):Prop:=i=n∨i=kd∨∃ j:Int,bN kvs (.inl j)=some (.r i)
structure Stp (s s':Sto) (O O':Nat→Prop):Prop where
 len:s.length≤s'.length
 kp:∀ i,i < s.length→¬ O i→s'[i]?=s[i]?
 ow:∀ i,O' i→O i∨s.length≤i
noncomputable def upK (K:Int→Hd) (j:Int) (h:Hd):Int→Hd:=fun i=>if i=j then h else K i
theorem fP {s:Sto} {i:Nat} {x:Cell} (h:s[i]?=some x):i < s.length:=(LT.mp h).1
theorem Stp.refl {s:Sto} {O:Nat→Prop}:Stp s s O O:=⟨LS _,fun _ _ _=>rfl,fun _ h=>.inl h⟩
theorem Stp.trans {s s1 s2:Sto} {O O1 O2:Nat→Prop} (a:Stp s s1 O O1) (b:Stp s1 s2 O1 O2):Stp s s2 O O2:=⟨L9 a.len b.len,fun i hi ho=>by
 have n1:¬ O1 i:=fun z=>by
  rcases a.ow i z with y | y
  ·exact ho y
  ·omega
 rw [b.kp i (L5 hi a.len) n1,a.kp i hi ho],fun i h=>by
 rcases b.ow i h with y | y
 ·exact a.ow i y
 ·exact .inr (L9 a.len y)⟩
section
variable {c:Sc} {s:Sto} {n kd:Nat} {kvs:List (Key×D)} {K:Int→Hd}
theorem HOk.lt (H:HOk c s n kd kvs K) {i:Nat} (h:Own n kd kvs i):i < s.length:=by
 rcases h with rfl | rfl | ⟨j,hj⟩
 ·exact fP H.ob
 ·exact fP H.dc
 ·obtain ⟨m,e,hm⟩:=H.hand j _ hj;cases e;exact fP hm
theorem HOk.frame (H:HOk c s n kd kvs K) {s':Sto} (hk:∀ i,Own n kd kvs i→s'[i]?=s[i]?):HOk c s' n kd kvs K where
 ob:=(hk n (.inl rfl)).trans H.ob
 dc:=(hk kd (.inr (.inl rfl))).trans H.dc
 dflt:=H.dflt
 hand:=fun j d h=>by
  obtain ⟨m,rfl,hm⟩:=H.hand j d h;exact ⟨m,rfl,(hk m (.inr (.inr ⟨j,h⟩))).trans hm⟩
 inj:=H.inj
 bd:=H.bd
 ky:=H.ky
theorem HOk.app (H:HOk c s n kd kvs K) (t:Sto):HOk c (s++t) n kd kvs K:=H.frame fun i hi=>LR (H.lt hi)
theorem nG {O:Nat→Prop} (t:Sto):Stp s (s++t) O O:=⟨by rw [LQ]; omega,fun i hi _=>LR hi,fun _ h=>.inl h⟩
theorem lF {O:Nat→Prop} {i:Nat} {x:Cell} (h:O i):Stp s (s.set i x) O O:=⟨by rw [L6]; exact LS _,fun k _ hk=>LP (by intro e; exact hk (by rw [← e]; exact h)),fun _ h=>.inl h⟩
theorem HOk.setX (H:HOk c s n kd kvs K) {i:Nat} {x:Cell} (h:¬ Own n kd kvs i):HOk c (s.set i x) n kd kvs K:=H.frame fun k hk=>LP (by intro e; exact h (by rw [e]; exact hk))
theorem HOk.put (H:HOk c s n kd kvs K) {j:Int} {m:Nat} (hj:bN kvs (.inl j)=some (.r m)) {h':Hd} (hb:Bd h'):HOk c (s.set m (.obj 0 (hf c h'))) n kd kvs (upK K j h'):=by
 obtain ⟨m',e,hm⟩:=H.hand j _ hj;cases e;have hn:m≠n:=fun e=>by have:=H.ob; rw [← e] at this; rw [hm] at this; cases this
 have hk:m≠kd:=fun e=>by have:=H.dc; rw [← e] at this; rw [hm] at this; cases this
 refine ⟨by rw [LP hn]; exact H.ob,by rw [LP hk]; exact H.dc,fun i hi=>?_,fun i d hi=>?_,H.inj,fun i=>?_,H.ky⟩
 ·unfold upK;rw [if_neg (fun e=>by rw [e,hj] at hi; cases hi)];exact H.dflt i hi
 ·obtain ⟨mi,rfl,hmi⟩:=H.hand i d hi;refine ⟨mi,rfl,?_⟩;unfold upK;by_cases e:i=j
  ·subst e;rw [hj] at hi;cases hi;rw [if_pos rfl];exact hm.set h'
  ·rw [if_neg e];unfold Ho;rw [LP fun z=>e (H.inj i j mi hi (by rw [← z]; exact hj))];exact hmi
 ·unfold upK
  split
  ·exact hb
  ·exact H.bd i
theorem EE (kvs:List (Key×D)) (k k':Key) (d:D):bN (kvs++[(k,d)]) k'=match bN kvs k' with | some x=>some x | none=>if k=k' then some d else none:=by
 unfold bN;rw [List.find?_append];cases kvs.find? fun kv=>decide (kv.1=k') with
 | some x=>rfl
 | none =>
  by_cases e:k=k'
  ·simp [e]
  ·simp [e]
theorem Hg (c:Sc) (s0:Sto):cr [.r s0.length] (s0++[.obj 0 []])=some (.d .none,s0++[.obj 0 (hf c hd0)]):=by
 have st:∀ c c':Cell,(s0++[c]).set s0.length c'=s0++[c']:=fun c c'=>by rw [Na _ _ (LS _),Mp]; rfl
 have ge:∀ c:Cell,(s0++[c])[s0.length]?=some c:=fun c=>by rw [LY (LS _),Mp]; rfl
 have p:∀ (f:Str) (e:En→Option PyData) (x:PyData) (fs:List (Str×D)),e (vw ⟨[some (.r s0.length)],s0++[.obj 0 fs]⟩)=some x→fs.length < 999→km 0 f (mV 0) (mP e) ⟨[some (.r s0.length)],s0++[.obj 0 fs]⟩=some (.nx ⟨[some (.r s0.length)],s0++[.obj 0 (xJ f (.d x) fs)]⟩):=fun f e x fs he hl=>by
  rw [hJ (d:=.d x) (n:=s0.length) (fs:=fs) (au he) rfl (ge _) hl];dsimp only;rw [st]
 show dN 1 1 gF [.r s0.length] (s0++[.obj 0 []])=_;refine HG (w1:=⟨[some (.r s0.length)],s0++[.obj 0 (hf c hd0)]⟩) rfl ?_;show gF ⟨[some (.r s0.length)],s0++[.obj 0 []]⟩=_;refine ai (p _ _ (.list []) _ (cx (eN rfl (eS (by simp)))) (by simp)) ?_;refine ai (p _ _ .none _ rfl (by decide +kernel)) ?_;refine ai (p _ _ .none _ rfl (by decide +kernel)) ?_;refine ai (p _ _ .none _ rfl (by decide +kernel)) ?_;refine ai (p _ _ (.int 0) _ rfl (by decide +kernel)) ?_;rw [p _ _ (.bool false) _ rfl (by decide +kernel)];rfl
theorem xE (H:HOk c s n kd kvs K) (hl:kvs.length < 1000) (j:Int):∃ s' m kvs',ar [.r n,.d (.int j)] s=some (.r m,s')∧HOk c s' n kd kvs' K∧bN kvs' (.inl j)=some (.r m)∧Stp s s' (Own n kd kvs) (Own n kd kvs')∧kvs'.length≤kvs.length+1:=by
 have em:vz 0 cr maN ⟨[some (.r n),some (.d (.int j))],s⟩=some (.r s.length,s++[.obj 0 (hf c hd0)]):=An gU (Hg c s);have hdc:(s++[Cell.obj 0 (hf c hd0)])[kd]?=some (.dct kvs):=by rw [LR (fP H.dc)]; exact H.dc
 have e0:rL (mV 0) "known" ⟨[some (.r n),some (.d (.int j))],s⟩=some (.r kd,s):=by
  unfold rL;show L0 (some (D.r n,s)) _=_;rw [LM];dsimp only;rw [H.ob];rfl
 have run:∀ d s',(match bN kvs (.inl j) with | some d=>some (d,s++[Cell.obj 0 (hf c hd0)]) | none=>if kvs.length < sizeLine then some (D.r s.length,(s++[Cell.obj 0 (hf c hd0)]).set kd (.dct (kvs++[(.inl j,.r s.length)]))) else none)=some (d,s')→ar [.r n,.d (.int j)] s=some (d,s'):=fun d s' h=>by
  refine bJ rfl (show jB cr ⟨[some (.r n),some (.d (.int j))],s⟩=_ from bE ?_);unfold Ey;rw [e0,LM];dsimp only;rw [H.dc];dsimp only;rw [show mP (eV 1) (⟨[some (.r n),some (.d (.int j))],s⟩:Wd)=some (.d (.int j),s) from au rfl,LM];dsimp only;show L0 (some (Sum.inl j)) _=_;rw [LM,em,LM];dsimp only;rw [hdc];exact h
 cases hj:bN kvs (.inl j) with
 | some d =>
  obtain ⟨m,rfl,hm⟩:=H.hand j d hj;exact ⟨_,m,kvs,run _ _ (by rw [hj]),H.app _,hj,nG _,Nat.le_succ _⟩
 | none =>
  have hn:n≠kd:=fun e=>by have:=H.dc; rw [← e,H.ob] at this; cases this
  have hk:kd < s.length:=fP H.dc;have lk:∀ i:Int,bN (kvs++[(Sum.inl j,D.r s.length)]) (.inl i)=match bN kvs (.inl i) with | some x=>some x | none=>if i=j then some (.r s.length) else none:=fun i=>by
   rw [EE];cases bN kvs (.inl i) with
   | some x=>rfl
   | none =>
    by_cases e:i=j
    ·simp [e]
    ·have:¬ (Sum.inl j:Key)=Sum.inl i:=fun z=>e (by cases z; rfl)
     simp [e,this]
  refine ⟨(s++[Cell.obj 0 (hf c hd0)]).set kd (.dct (kvs++[(.inl j,.r s.length)])),s.length,kvs++[(.inl j,.r s.length)],run _ _ ?_,?_,?_,?_,by simp⟩
  ·rw [hj];dsimp only;rw [if_pos (L5 hl (big (by decide)))]
  ·refine ⟨?_,?_,fun i hi=>?_,fun i d hi=>?_,fun i i' m h1 h2=>?_,H.bd,H.ky.app hj⟩
   ·rw [LP (Ne.symm hn),LR (fP H.ob)]; exact H.ob
   ·exact LV (by rw [LQ]; omega)
   ·rw [lk] at hi;cases q:bN kvs (.inl i) with
    | some x=>rw [q] at hi; cases hi
    | none=>exact H.dflt i q
   ·rw [lk] at hi;cases q:bN kvs (.inl i) with
    | some x =>
     rw [q] at hi;cases hi;obtain ⟨m,rfl,hm⟩:=H.hand i _ q;have hmk:kd≠m:=fun e=>by have:=H.dc; rw [e,hm] at this; cases this
     refine ⟨m,rfl,?_⟩;unfold Ho;rw [LP hmk,LR (fP hm)]; exact hm
    | none =>
     rw [q] at hi;dsimp only at hi;split at hi
     ·rename_i e;cases hi;refine ⟨s.length,rfl,?_⟩;unfold Ho;rw [LP (Mg hk),LY (LS _),Mp,H.dflt i q]; rfl
     ·cases hi
   ·rw [lk] at h1 h2;cases q1:bN kvs (.inl i) with
    | some x =>
     rw [q1] at h1;cases h1;cases q2:bN kvs (.inl i') with
     | some x' =>
      rw [q2] at h2;cases h2;exact H.inj i i' m q1 q2
     | none =>
      rw [q2] at h2;dsimp only at h2;split at h2
      ·cases h2
       have:=H.lt (.inr (.inr ⟨i,q1⟩))
       omega
      ·cases h2
    | none =>
     rw [q1] at h1;dsimp only at h1;split at h1
     ·rename_i e1;cases h1;cases q2:bN kvs (.inl i') with
      | some x' =>
       rw [q2] at h2;cases h2
       have:=H.lt (.inr (.inr ⟨i',q2⟩))
       omega
      | none =>
       rw [q2] at h2;dsimp only at h2;split at h2
       ·rename_i e2;rw [e1,e2]
       ·cases h2
     ·cases h1
  ·rw [lk,hj]
   simp
  ·refine ⟨by rw [L6,LQ]; omega,fun i hi ho=>?_,fun i hi=>?_⟩
   ·rw [LP (fun e=>ho (.inr (.inl e.symm))),LR hi]
   ·rcases hi with e | e | ⟨i',hi⟩
    ·exact .inl (.inl e)
    ·exact .inl (.inr (.inl e))
    ·rw [lk] at hi;cases q:bN kvs (.inl i') with
     | some x=>rw [q] at hi; cases hi; exact .inl (.inr (.inr ⟨i',q⟩))
     | none =>
      rw [q] at hi;dsimp only at hi;split at hi
      ·cases hi; exact .inr (LS _)
      ·cases hi
end
noncomputable def hpth (ps:List Nat):List Nat→List Nat
 | []=>[]
 | q::_=>P ps q
theorem LG {c:Sc} {ps pnt:List Nat} {Dm:Nat→Prop} (t:Tr c ps Dm pnt) (x y:Int):aV [c.d,.int x,.int y]=some (c.S (hpth ps (zb c.geo ps pnt x y)))∧(hpth ps (zb c.geo ps pnt x y)).length≤7:=by
 have e1:nF [c.d,.int x,.int y]=some (hdD c (zb c.geo ps pnt x y)):=hE rfl (show xi ji gD [.val c.d,.val (.int x),.val (.int y)]=_ from iV (aW (af (aW (af rfl rfl) (Fy t)) (af rfl (af rfl rfl))) (Ha t x y)));have hin:∀ q∈zb c.geo ps pnt x y,Dm q:=fun q hq=>Hj t (Mr.mp hq).1;generalize zb c.geo ps pnt x y=l at *;refine ⟨hE rfl (show om nF (aK 13) [.val c.d,.val (.int x),.val (.int y),.un]=_ from de (η1:=[.val c.d,.val (.int x),.val (.int y),.val (hdD c l)]) (f8 (aW (af rfl (af rfl (af rfl rfl))) e1)) (iV ?_)),?_⟩
 ·cases l with
  | nil =>
   rw [wq (b:=true) (bm (ae rfl rfl rfl)),if_pos rfl];exact cx (eN rfl (eS (by simp)))
  | cons q r =>
   rw [wq (b:=false) (bm (ae rfl rfl rfl)),if_neg LU];exact aW (af rfl (af rfl rfl)) (BJ t (hin q L7))
 ·cases l with
  | nil=>simp [hpth]
  | cons q r=>exact P_7 t (hin q L7)
noncomputable def Res (c:Sc) (s:Sto) (n kd:Nat) (kvs:List (Key×D)) (K':Int→Hd) (out:Option (D×Sto)) (d:D):Prop :=
 ∃ s' kvs',out=some (d,s')∧HOk c s' n kd kvs' K'∧Stp s s' (Own n kd kvs) (Own n kd kvs')∧kvs'.length≤kvs.length+1
theorem wt (K:Int→Hd) (j:Int):upK K j (K j)=K:=by
 funext i
 unfold upK
 split
 ·rename_i e; rw [e]
 ·rfl
noncomputable def mvR (h:Hd) (p:List Nat):List (Str×Nat):=if h.held=none then lead h p++wr "move" (p.drop (p.length - 1)) else tell h "move"
noncomputable def mvH (h:Hd) (p:List Nat):Hd:=if h.held=none then { h with trail:=p } else h
noncomputable def v0 (h:Hd) (p:List Nat):Hd:=if h.held=none then { h with pr:=some p,trail:=p,held:=p.getLast? } else { h with pr:=some p }
noncomputable def dnR (h:Hd) (p:List Nat):List (Str×Nat):=if h.pr=none then (if h.held=none then lead { h with pr:=some p } p else [])++tell (v0 h p) "down" else []
noncomputable def dnH (h:Hd) (p:List Nat):Hd:=if h.pr=none then v0 h p else h
theorem BB {c:Sc}:∀ l:List (Str×Nat),v5 (l.map fun r=>D.d (rD c r))=some (l.map (rD c))
 | []=>rfl
 | x::r=>by
  rw [LW];show ((some (rD c x)).bind fun y=>(v5 (r.map fun r=>D.d (rD c r))).bind fun xs=>some (y::xs))=_;rw [BB r]; rfl
theorem oH (h:Hd) (w:Str):(tell h w).length≤1:=by
 unfold tell
 split <;> simp
theorem oW {h:Hd} {p:List Nat} (ht:h.trail.length≤7) (hp:p.length≤7):(lead h p).length≤14:=by
 unfold lead wr;rw [LQ,LO,LO,Mq,Mh,Mh]; omega
section
variable {c:Sc} {s:Sto} {n kd m:Nat} {kvs:List (Key×D)} {K:Int→Hd} {h:Hd}
theorem fzT (hc:Ho c s m h) {w:Str} {η:MEn} {i:Nat} (hi:η[i]?=some (some (.r m))):mFz (cO 0 "tell_holder" aB (mV i) (maC (mP (eC (.str w))) maN)) ⟨η,s⟩=some (.d (Rw c (tell h w)),s++[.fz (Rw c (tell h w))]):=by
 have em:cO 0 "tell_holder" aB (mV i) (maC (mP (eC (.str w))) maN) ⟨η,s⟩=some (.r s.length,s++[.lst ((tell h w).map fun r=>D.d (rD c r))]):=cV (n:=m) (by unfold mV; rw [hi]) hc rfl (aO (s1:=s) (au rfl) gU) (FF hc w);unfold mFz;rw [em,LM];dsimp only;rw [show (s++[Cell.lst ((tell h w).map fun r=>D.d (rD c r))])[s.length]?=some (.lst ((tell h w).map fun r=>D.d (rD c r))) by rw [LY (LS _),Mp]; rfl];dsimp only;rw [BB,LM,Na _ _ (LS _),Mp];rfl
theorem LJ (ok:c.Ok) (H:HOk c s n kd kvs K) (hl:kvs.length < 1000) (j:Int) {mo:PyData} {x y:Int} {p:List Nat} (hp:aV [c.d,.int x,.int y]=some (c.S p)) (lp:p.length≤7) :
  Res c s n kd kvs (upK K j (mvH (K j) p)) (cP [.r n,.d (.int j),.d mo,.d (.int x),.d (.int y)] s) (.d (Rw c (mvR (K j) p))):=by
 obtain ⟨s1,m,kvs1,e1,H1,hj,st,hl1⟩:=xE H hl j;obtain ⟨m',em,hm⟩:=H1.hand j _ hj;cases em;have hb:=H1.bd j;have hown:Own n kd kvs1 m:=.inr (.inr ⟨j,hj⟩);have hs5:cO 1 "hand_of" ar (mV 0) (maC (mP (eV 1)) maN) ⟨[some (.r n),some (.d (.int j)),some (.d mo),some (.d (.int x)),some (.d (.int y)),none,none],s⟩=some (.r m,s1):=cV (n:=n) rfl H.ob rfl (aO (s1:=s) (au rfl) gU) e1;have fh:gd 5 "held_by" (vw ⟨[some (.r n),some (.d (.int j)),some (.d mo),some (.d (.int x)),some (.d (.int y)),some (.r m),none],s1⟩)=some (kD c (K j).held):=jC rfl hm rfl;cases hh:(K j).held with
 | some k =>
  rw [hh] at fh;refine ⟨s1++[.fz (Rw c (tell (K j) "move"))],kvs1,?_,?_,st.trans (nG _),hl1⟩
  ·unfold mvR;rw [if_neg (by rw [hh]; simp)];refine bJ rfl (show jm ar aB aV bh ⟨[some (.r n),some (.d (.int j)),some (.d mo),some (.d (.int x)),some (.d (.int y)),none,none],s⟩=_ from ?_);refine ai (aY hs5) (hG (mG (s:=s1) (bB (bm (ae fh rfl rfl))) (bE (fzT hm rfl))))
  ·unfold mvH;rw [if_neg (by rw [hh]; simp),wt];exact H1.app _
 | none =>
  rw [hh] at fh;have el:=BN ok hm (p:=p) (by have:=hb.1; omega) (by omega);refine ⟨s1.set m (.obj 0 (hf c { K j with trail:=p })),kvs1,?_,?_,st.trans (lF hown),hl1⟩
  ·unfold mvR;rw [if_pos hh];refine bJ rfl (show jm ar aB aV bh ⟨[some (.r n),some (.d (.int j)),some (.d mo),some (.d (.int x)),some (.d (.int y)),none,none],s⟩=_ from ?_);refine ai (aY hs5) (ai (j7 (s:=s1) (bB (bm (ae fh rfl rfl)))) ?_);refine ai (w1:=⟨[some (.r n),some (.d (.int j)),some (.d mo),some (.d (.int x)),some (.d (.int y)),some (.r m),some (.d (c.S p))],s1⟩) (aY (au (aW (af (jC rfl H1.ob rfl) (af rfl (af rfl rfl))) hp))) (bE ?_);refine ln (cV (n:=m) rfl hm rfl (aO (s1:=s1) (au rfl) gU) el) (au (cx (fZ (ds:=(p.drop (p.length - 1)).map c.s) (lU (qV rfl (oQ rfl) rfl (Bl _)) rfl) (by rw [LO,Mh]; omega) (r:=some ((wr "move" (p.drop (p.length - 1))).map (rD c))) ?_))) rfl rfl (uu (by have:=oW (h:=K j) hb.1 lp; omega) (by unfold wr; rw [LO,Mh]; omega));unfold wr;rw [Ml];exact lZ (η:=[.un]) c.s (fun x=>rD c ("move", x)) _ fun x hx=>⟨[.val (c.s x)],rfl,CW "move" x _ rfl⟩
  ·unfold mvH;rw [if_pos hh];exact H1.put hj ⟨lp,hb.2⟩
end
noncomputable def uI (h:Hd) (mo:Int):List Nat→Hd
 | []=>{ h with pr:=none,held:=none }
 | k::_=>ox { h with pr:=none,held:=none } k mo
noncomputable def upC (h:Hd) (mo:Int):List Nat→List (Str×Nat)
 | []=>[]
 | k::_=>lE { h with pr:=none,held:=none } k mo
noncomputable def upN (q p:List Nat):List Nat:=(shN q p).drop ((shN q p).length - 1)
noncomputable def upR (h:Hd) (p:List Nat) (mo:Int):List (Str×Nat):=match h.pr with | none=>[] | some q=>(tell h "up" ++ upC h mo (upN q p))++lead (uI h mo (upN q p)) p
noncomputable def upH (h:Hd) (p:List Nat) (mo:Int):Hd:=match h.pr with | none=>h | some q=>{ uI h mo (upN q p) with trail:=p }
theorem BQ (K:Int→Hd) (j:Int) (a b:Hd):upK (upK K j a) j b=upK K j b:=by
 funext i
 unfold upK
 split <;> rfl
theorem FN (q p:List Nat):(upN q p).length≤1:=by
 unfold upN;rw [Mh]; omega
theorem zH {s s':Sto} {O:Nat→Prop} {L:Nat} {x:Cell} (a:Stp s s' O O) (h:s.length≤L):Stp s (s'.set L x) O O:=⟨by rw [L6]; exact a.len,fun i hi ho=>by rw [LP (by omega)]; exact a.kp i hi ho,a.ow⟩
theorem Cv {c:Sc} (p:List Nat):(if decide (p≠[])=true then pIx (c.S p) (.int (-1)) else some .none)=some (kD c p.getLast?):=by
 cases p with
 | nil=>rfl
 | cons a r =>
  rw [if_pos (by simp)];show atI ((a::r).map c.s) (-1)=_
  have:atI (a::r) (-1)=some ((a::r).getLast (by simp)):=by
   unfold atI ixN;rw [if_neg (by decide),if_pos (by rw [L1]; omega),LM];rw [show (-1+((a::r).length:Int)).toNat=(a::r).length - 1 by rw [L1]; omega,← List.getLast?_eq_getElem?,Nd (by simp)]
  rw [LB this,Nd (by simp)];rfl
section
variable {c:Sc} {s:Sto} {n kd:Nat} {kvs:List (Key×D)} {K:Int→Hd}
theorem LL (ok:c.Ok) (H:HOk c s n kd kvs K) (hl:kvs.length < 1000) (j:Int) {mo:PyData} {x y:Int} {p:List Nat} (hp:aV [c.d,.int x,.int y]=some (c.S p)) (lp:p.length≤7) :
  Res c s n kd kvs (upK K j (dnH (K j) p)) (ca [.r n,.d (.int j),.d mo,.d (.int x),.d (.int y)] s) (.d (Rw c (dnR (K j) p))):=by
 obtain ⟨s1,m,kvs1,e1,H1,hj,st,hl1⟩:=xE H hl j;obtain ⟨m',em,hm⟩:=H1.hand j _ hj;cases em;have hb:=H1.bd j;have hown:Own n kd kvs1 m:=.inr (.inr ⟨j,hj⟩);have hs5:cO 1 "hand_of" ar (mV 0) (maC (mP (eV 1)) maN) ⟨[some (.r n),some (.d (.int j)),some (.d mo),some (.d (.int x)),some (.d (.int y)),none,none,none],s⟩=some (.r m,s1):=cV (n:=n) rfl H.ob rfl (aO (s1:=s) (au rfl) gU) e1;have fp:gd 5 "pressed_at" (vw ⟨[some (.r n),some (.d (.int j)),some (.d mo),some (.d (.int x)),some (.d (.int y)),some (.r m),none,none],s1⟩)=some (oL c (K j).pr):=jC rfl hm rfl;cases hpr:(K j).pr with
 | some q =>
  rw [hpr] at fp;refine ⟨s1,kvs1,?_,?_,st,hl1⟩
  ·unfold dnR;rw [if_neg (by rw [hpr]; simp)];refine bJ rfl (show jn ar aV bh aB ⟨[some (.r n),some (.d (.int j)),some (.d mo),some (.d (.int x)),some (.d (.int y)),none,none,none],s⟩=_ from ?_);exact ai (aY hs5) (hG (mG (s:=s1) (bB (bm (ae fp rfl rfl))) (bE (au (cx (eN rfl (eS (by simp))))))))
  ·unfold dnH;rw [if_neg (by rw [hpr]; simp),wt];exact H1
 | none =>
  rw [hpr] at fp;have hm2:=hm.set { K j with pr:=some p };have fin:∀ (h2:Hd) (rows:List (Str×Nat)),rows.length≤14→Bd h2→h2=v0 (K j) p→rows=(if (K j).held=none then lead { K j with pr:=some p } p else []) →
    (mIf (tPv (bT (l2 (iD false) (gd 5 "held_by") (eC .none)))) (aH (bI 7 (cO 0 "lead" bh (mV 5) (maC (mP (eV 6)) maN)))
     (km 0 "held_by" (mV 5) (mP (vIf (bTr (eV 6)) (l2 pIx (eV 6) (l1 pA (eC (.int 1)))) (eC .none))))) mNx)
     ⟨[some (.r n),some (.d (.int j)),some (.d mo),some (.d (.int x)),some (.d (.int y)),some (.r m),some (.d (c.S p)),some (.d (.list []))],s1.set m (.obj 0 (hf c { K j with pr:=some p }))⟩
     = some (.nx ⟨[some (.r n),some (.d (.int j)),some (.d mo),some (.d (.int x)),some (.d (.int y)),some (.r m),some (.d (c.S p)),some (.d (Rw c rows))],s1.set m (.obj 0 (hf c h2))⟩) →
    Res c s n kd kvs (upK K j (dnH (K j) p)) (ca [.r n,.d (.int j),.d mo,.d (.int x),.d (.int y)] s) (.d (Rw c (dnR (K j) p))):=fun h2 rows lr b2 eh er ei=>by
   have hm3:=hm.set h2;refine ⟨s1.set m (.obj 0 (hf c h2))++[.fz (Rw c (tell h2 "down"))],kvs1,?_,?_,(st.trans (lF hown)).trans (nG _),hl1⟩
   ·unfold dnR;rw [if_pos hpr,← er,← eh];refine bJ rfl (show jn ar aV bh aB ⟨[some (.r n),some (.d (.int j)),some (.d mo),some (.d (.int x)),some (.d (.int y)),none,none,none],s⟩=_ from ?_);refine ai (aY hs5) (ai (j7 (s:=s1) (bB (bm (ae fp rfl rfl)))) ?_);refine ai (w1:=⟨[some (.r n),some (.d (.int j)),some (.d mo),some (.d (.int x)),some (.d (.int y)),some (.r m),some (.d (c.S p)),none],s1⟩) (aY (au (aW (af (jC rfl H1.ob rfl) (af rfl (af rfl rfl))) hp))) ?_;refine ai (w1:=⟨[some (.r n),some (.d (.int j)),some (.d mo),some (.d (.int x)),some (.d (.int y)),some (.r m),some (.d (c.S p)),none],s1.set m (.obj 0 (hf c { K j with pr:=some p }))⟩) ?_ ?_
    ·rw [hJ (d:=.d (c.S p)) (n:=m) (fs:=hf c (K j)) (au rfl) rfl hm (by simp [hf])];rfl
    refine ai (w1:=⟨[some (.r n),some (.d (.int j)),some (.d mo),some (.d (.int x)),some (.d (.int y)),some (.r m),some (.d (c.S p)),some (.d (.list []))],s1.set m (.obj 0 (hf c { K j with pr:=some p }))⟩) (aY (au (cx (eN rfl (eS (by simp)))))) ?_;refine ai ei (bE ?_);exact ln (au rfl) (fzT hm3 rfl) rfl rfl (uu (by omega) (by have:=oH h2 "down"; omega))
   ·unfold dnH;rw [if_pos hpr,← eh];exact (H1.put hj b2).app _
  have fh:gd 5 "held_by" (vw ⟨[some (.r n),some (.d (.int j)),some (.d mo),some (.d (.int x)),some (.d (.int y)),some (.r m),some (.d (c.S p)),some (.d (.list []))],s1.set m (.obj 0 (hf c { K j with pr:=some p }))⟩)=some (kD c (K j).held):=jC rfl hm2 rfl;cases hh:(K j).held with
  | some k =>
   rw [hh] at fh;refine fin { K j with pr:=some p } [] (by simp) ⟨hb.1,fun q e=>by cases e; exact lp⟩ (by unfold v0; rw [if_neg (by rw [hh]; simp)]) (by rw [if_neg (by rw [hh]; simp)]) ?_;exact j7 (bB (bm (ae fh rfl rfl)))
  | none =>
   rw [hh] at fh;have el:=BN ok hm2 (p:=p) (by have:=hb.1; show (K j).trail.length≤1000; omega) (by omega);have hm3:=hm.set { K j with pr:=some p,trail:=p };rw [set_set] at el;refine fin { K j with pr:=some p,trail:=p,held:=p.getLast? } (lead { K j with pr:=some p } p) (oW (h:={ K j with pr:=some p }) hb.1 lp) ⟨lp,fun q e=>by cases e; exact lp⟩ (by unfold v0; rw [if_pos hh]) (by rw [if_pos hh]) ?_;refine mG (s:=s1.set m (.obj 0 (hf c { K j with pr:=some p }))) (bB (bm (ae fh rfl rfl))) ?_;refine ai (w1:=⟨[some (.r n),some (.d (.int j)),some (.d mo),some (.d (.int x)),some (.d (.int y)),some (.r m),some (.d (c.S p)),some (.d (Rw c (lead { K j with pr:=some p } p)))],s1.set m (.obj 0 (hf c { K j with pr:=some p,trail:=p }))⟩) (aY (cV (n:=m) rfl hm2 rfl (aO (au rfl) gU) el)) ?_;rw [hJ (d:=.d (kD c p.getLast?)) (n:=m) (fs:=hf c { K j with pr:=some p,trail:=p }) (au ?_) rfl hm3 (by simp [hf])]
   ·show some (MOut.nx ⟨_,(s1.set m _).set m _⟩)=_;rw [set_set];show some (MOut.nx ⟨_,s1.set m (.obj 0 (xJ "held_by" (.d (kD c p.getLast?)) (hf c { K j with pr:=some p,trail:=p })))⟩)=_;rfl
   ·rw [wq (b:=decide (p≠[])) (by cases p <;> rfl)];exact Cv p
theorem JH (H:HOk c s n kd kvs K) (hl:kvs.length < 1000) (j:Int):Res c s n kd kvs K (cL [.r n,.d (.int j)] s) (.d (kD c (K j).held)):=by
 obtain ⟨s1,m,kvs1,e1,H1,hj,st,hl1⟩:=xE H hl j;obtain ⟨m',em,hm⟩:=H1.hand j _ hj;cases em;refine ⟨s1,kvs1,bJ rfl (show j9 ar ⟨[some (.r n),some (.d (.int j))],s⟩=_ from bE ?_),H1,st,hl1⟩;unfold rL;rw [cV (n:=n) (d:=.r m) (s2:=s1) rfl H.ob rfl (aO (s1:=s) (au rfl) gU) e1,LM];dsimp only;rw [hm];rfl
theorem LI (H:HOk c s n kd kvs K) (hl:kvs.length < 1000) (j:Int):Res c s n kd kvs K (dL [.r n,.d (.int j)] s) (.d (c.S (K j).trail)):=by
 obtain ⟨s1,m,kvs1,e1,H1,hj,st,hl1⟩:=xE H hl j;obtain ⟨m',em,hm⟩:=H1.hand j _ hj;cases em;refine ⟨s1,kvs1,bJ rfl (show lz ar ⟨[some (.r n),some (.d (.int j))],s⟩=_ from bE (ED (ds:=[.d (c.S (K j).trail)]) (xs:=[c.S (K j).trail]) (aO ?_ gU) rfl rfl)),H1,st,hl1⟩;unfold rL;rw [cV (n:=n) (d:=.r m) (s2:=s1) rfl H.ob rfl (aO (s1:=s) (au rfl) gU) e1,LM];dsimp only;rw [hm];rfl
end
theorem xl (h:Hd) (k:Nat) (mo:Int):(lE h k mo).length≤2:=by
 unfold lE
 split <;> simp
section
variable {c:Sc} {s:Sto} {n kd:Nat} {kvs:List (Key×D)} {K:Int→Hd}
theorem LH (ok:c.Ok) (H:HOk c s n kd kvs K) (hl:kvs.length < 1000) (j:Int) {mo:Int} {x y:Int} {p:List Nat} (hp:aV [c.d,.int x,.int y]=some (c.S p)) (lp:p.length≤7) :
  Res c s n kd kvs (upK K j (upH (K j) p mo)) (dU [.r n,.d (.int j),.d (.int mo),.d (.int x),.d (.int y)] s) (.d (Rw c (upR (K j) p mo))):=by
 obtain ⟨s1,m,kvs1,e1,H1,hj,st,hl1⟩:=xE H hl j;obtain ⟨m',em,hm⟩:=H1.hand j _ hj;cases em;have hb:=H1.bd j;have hown:Own n kd kvs1 m:=.inr (.inr ⟨j,hj⟩);have hs5:cO 1 "hand_of" ar (mV 0) (maC (mP (eV 1)) maN) ⟨[some (.r n),some (.d (.int j)),some (.d (.int mo)),some (.d (.int x)),some (.d (.int y)),none,none,none,none],s⟩=some (.r m,s1):=cV (n:=n) rfl H.ob rfl (aO (s1:=s) (au rfl) gU) e1;have fp:gd 5 "pressed_at" (vw ⟨[some (.r n),some (.d (.int j)),some (.d (.int mo)),some (.d (.int x)),some (.d (.int y)),some (.r m),none,none,none],s1⟩)=some (oL c (K j).pr):=jC rfl hm rfl;cases hpr:(K j).pr with
 | none =>
  rw [hpr] at fp;refine ⟨s1,kvs1,?_,?_,st,hl1⟩
  ·unfold upR;rw [hpr];refine bJ rfl (show kL ar aV aB c8 cb bh ⟨[some (.r n),some (.d (.int j)),some (.d (.int mo)),some (.d (.int x)),some (.d (.int y)),none,none,none,none],s⟩=_ from ?_);exact ai (aY hs5) (hG (mG (s:=s1) (bB (bm (ae fp rfl rfl))) (bE (au (cx (eN rfl (eS (by simp))))))))
  ·unfold upH;rw [hpr];dsimp only;rw [wt];exact H1
 | some q =>
  rw [hpr] at fp;have lq:=hb.2 q hpr;have hmL:m < s1.length:=fP hm;have hnL:¬ Own n kd kvs1 s1.length:=fun z=>MQ _ (H1.lt z);have hm2:Ho c (s1++[Cell.lst ((tell (K j) "up").map fun r=>D.d (rD c r))]) m (K j):=by
   unfold Ho;rw [LR hmL]; exact hm
  have elg:=FG ok hm2 (p:=p) hpr (by omega);have hm3:=hm2.set { K j with pr:=none,held:=none };have H3:HOk c ((s1++[Cell.lst ((tell (K j) "up").map fun r=>D.d (rD c r))]).set m (.obj 0 (hf c { K j with pr:=none,held:=none }))) n kd kvs1 (upK K j { K j with pr:=none,held:=none }):=(H1.app _).put hj ⟨hb.1,fun q e=>by cases e⟩;have S3:Stp s1 ((s1++[Cell.lst ((tell (K j) "up").map fun r=>D.d (rD c r))]).set m (.obj 0 (hf c { K j with pr:=none,held:=none }))) (Own n kd kvs1) (Own n kd kvs1):=(nG _).trans (lF hown);have L3:((s1++[Cell.lst ((tell (K j) "up").map fun r=>D.d (rD c r))]).set m (.obj 0 (hf c { K j with pr:=none,held:=none })))[s1.length]?=some (.lst ((tell (K j) "up").map fun r=>D.d (rD c r))):=by
   rw [LP (Mg hmL),LY (LS _),Mp]; rfl
  obtain ⟨s3,hs3⟩:∃ s3:Sto,s3=(s1++[Cell.lst ((tell (K j) "up").map fun r=>D.d (rD c r))]).set m (.obj 0 (hf c { K j with pr:=none,held:=none })):=⟨_,rfl⟩;rw [← hs3] at elg hm3 H3 S3 L3;have loop:∃ (x8:Option D) (s4:Sto),mGo [8] (tgN 8) (qk (uh (mV 7) (cO 0 "click" cb (mV 5) (maC (mP (eV 8)) (maC (mP (eV 2)) maN))))) ((upN q p).map c.s) ⟨[some (.r n),some (.d (.int j)),some (.d (.int mo)),some (.d (.int x)),some (.d (.int y)),some (.r m),some (.d (c.S p)),some (.r s1.length),none],s3⟩
    = some (.nx ⟨[some (.r n),some (.d (.int j)),some (.d (.int mo)),some (.d (.int x)),some (.d (.int y)),some (.r m),some (.d (c.S p)),some (.r s1.length),x8],s4⟩)
    ∧ s4[s1.length]?=some (.lst ((tell (K j) "up" ++ upC (K j) mo (upN q p)).map fun r=>D.d (rD c r)))∧Ho c s4 m (uI (K j) mo (upN q p))∧HOk c s4 n kd kvs1 (upK K j (uI (K j) mo (upN q p)))∧Stp s1 s4 (Own n kd kvs1) (Own n kd kvs1):=by
   have hlen:=FN q p;cases hN:upN q p with
   | nil=>exact ⟨none,s3,rfl,by simpa [upC] using L3,hm3,H3,S3⟩
   | cons k r =>
    have hr:r=[]:=by
     rw [hN] at hlen;simp at hlen;exact hlen
    subst hr;have ec:=Hh ok hm3 k mo;have hm4:=hm3.set (ox { K j with pr:=none,held:=none } k mo);have L4:(s3.set m (.obj 0 (hf c (ox { K j with pr:=none,held:=none } k mo))))[s1.length]?=some (.lst ((tell (K j) "up").map fun r=>D.d (rD c r))):=by
     rw [LP (Mg hmL)]; exact L3
    have H4:=H3.put (h':=ox { K j with pr:=none,held:=none } k mo) hj ⟨hb.1,fun q e=>by cases e⟩;rw [BQ] at H4;have S4:Stp s1 (s3.set m (.obj 0 (hf c (ox { K j with pr:=none,held:=none } k mo)))) (Own n kd kvs1) (Own n kd kvs1):=S3.trans (lF hown);generalize s3.set m (.obj 0 (hf c (ox { K j with pr:=none,held:=none } k mo)))=s4 at *;have hlt:s1.length < s4.length:=fP L4;refine ⟨some (.d (c.s k)),s4.set s1.length (.lst ((tell (K j) "up" ++ lE { K j with pr:=none,held:=none } k mo).map fun r=>D.d (rD c r))),?_,LV hlt,?_,H4.setX hnL,zH S4 (LS _)⟩
    ·rw [LW,M5];unfold mGo;rw [i6 (by simp),LM];have ex:qk (uh (mV 7) (cO 0 "click" cb (mV 5) (maC (mP (eV 8)) (maC (mP (eV 2)) maN)))) ⟨[some (.r n),some (.d (.int j)),some (.d (.int mo)),some (.d (.int x)),some (.d (.int y)),some (.r m),some (.d (c.S p)),some (.r s1.length),some (.d (c.s k))],s3⟩
       = some (.nx ⟨[some (.r n),some (.d (.int j)),some (.d (.int mo)),some (.d (.int x)),some (.d (.int y)),some (.r m),some (.d (c.S p)),some (.r s1.length),some (.d (c.s k))],s4.set s1.length (.lst ((tell (K j) "up" ++ lE { K j with pr:=none,held:=none } k mo).map fun r=>D.d (rD c r)))⟩):=by
      refine wk (d:=.d .none) ?_;unfold uh;show L0 (some (D.r s1.length,s3)) _=_;rw [LM];dsimp only;rw [L3];dsimp only;rw [cV (n:=m) (d:=.d (Rw c (lE { K j with pr:=none,held:=none } k mo))) (s2:=s4) rfl hm3 rfl (aO (s1:=s3) (au rfl) (aO (s1:=s3) (au rfl) gU)) ec,LM];show L0 (some (Rw c (lE { K j with pr:=none,held:=none } k mo))) _=_;rw [LM];unfold Rw;dsimp only;rw [L4];dsimp only;rw [if_pos (big (by rw [LO,LO]; exact L9 (Nat.add_le_add (oH _ _) (xl _ _ _)) (by decide))),Mo,Ml];rfl
     show L0 (qk _ ⟨[some (.r n),some (.d (.int j)),some (.d (.int mo)),some (.d (.int x)),some (.d (.int y)),some (.r m),some (.d (c.S p)),some (.r s1.length),some (.d (c.s k))],s3⟩) _=_;rw [ex];rfl
    ·unfold Ho;rw [LP (Nb hmL)]; exact hm4
  obtain ⟨x8,s4,eg,L4,hm4,H4,S4⟩:=loop;have hlt:s1.length < s4.length:=fP L4;have lt14:(uI (K j) mo (upN q p)).trail.length≤7:=by
   cases upN q p with
   | nil=>exact hb.1
   | cons k r=>exact hb.1
  have lC:(upC (K j) mo (upN q p)).length≤2:=by
   cases upN q p with
   | nil=>simp [upC]
   | cons k r=>exact xl _ _ _
  have hm5:Ho c (s4.set s1.length (.fz (Rw c (tell (K j) "up" ++ upC (K j) mo (upN q p))))) m (uI (K j) mo (upN q p)):=by
   unfold Ho;rw [LP (Nb hmL)]; exact hm4
  have ef:∀ x8:Option D,mFz (mV 7) ⟨[some (.r n),some (.d (.int j)),some (.d (.int mo)),some (.d (.int x)),some (.d (.int y)),some (.r m),some (.d (c.S p)),some (.r s1.length),x8],s4⟩=some (.d (Rw c (tell (K j) "up" ++ upC (K j) mo (upN q p))),s4.set s1.length (.fz (Rw c (tell (K j) "up" ++ upC (K j) mo (upN q p))))):=fun x8=>by
   unfold mFz;show L0 (some (D.r s1.length,s4)) _=_;rw [LM];dsimp only;rw [L4];dsimp only;rw [BB]; rfl
  have H5:=H4.setX (x:=.fz (Rw c (tell (K j) "up" ++ upC (K j) mo (upN q p)))) hnL;have S5:Stp s1 (s4.set s1.length (.fz (Rw c (tell (K j) "up" ++ upC (K j) mo (upN q p))))) (Own n kd kvs1) (Own n kd kvs1):=zH S4 (LS _);have el:=BN ok hm5 (p:=p) (by omega) (by omega);generalize s4.set s1.length (.fz (Rw c (tell (K j) "up" ++ upC (K j) mo (upN q p))))=s5 at *;have H6:=H5.put (h':={ uI (K j) mo (upN q p) with trail:=p }) hj ⟨lp,fun q' e=>by
   have:(uI (K j) mo (upN q p)).pr=none:=by
    cases upN q p with
    | nil=>rfl
    | cons k r=>rfl
   have e':(uI (K j) mo (upN q p)).pr=some q':=e;rw [this] at e'; cases e'⟩
  rw [BQ] at H6;refine ⟨s5.set m (.obj 0 (hf c { uI (K j) mo (upN q p) with trail:=p })),kvs1,?_,?_,st.trans (S5.trans (lF hown)),hl1⟩
  ·unfold upR;rw [hpr];dsimp only;refine bJ rfl (show kL ar aV aB c8 cb bh ⟨[some (.r n),some (.d (.int j)),some (.d (.int mo)),some (.d (.int x)),some (.d (.int y)),none,none,none,none],s⟩=_ from ?_);refine ai (aY hs5) (ai (j7 (s:=s1) (bB (bm (ae fp rfl rfl)))) ?_);refine ai (w1:=⟨[some (.r n),some (.d (.int j)),some (.d (.int mo)),some (.d (.int x)),some (.d (.int y)),some (.r m),some (.d (c.S p)),none,none],s1⟩) (aY (au (aW (af (jC rfl H1.ob rfl) (af rfl (af rfl rfl))) hp))) ?_;refine ai (w1:=⟨[some (.r n),some (.d (.int j)),some (.d (.int mo)),some (.d (.int x)),some (.d (.int y)),some (.r m),some (.d (c.S p)),some (.r s1.length),none],s1++[Cell.lst ((tell (K j) "up").map fun r=>D.d (rD c r))]⟩) (aY (cV (n:=m) rfl hm rfl (aO (s1:=s1) (au rfl) gU) (FF hm "up"))) ?_;refine ai (nL (s:=s3) (xs:=(upN q p).map c.s) ?_ eg) (bE ?_)
   ·unfold iM;rw [cV (n:=m) (d:=.d (c.S (upN q p))) (s2:=s3) rfl hm2 rfl (aO (au rfl) gU) elg];rfl
   ·exact ln (ef x8) (cV (n:=m) rfl hm5 rfl (aO (s1:=s5) (au rfl) gU) el) rfl rfl (uu (by rw [LQ]; have:=oH (K j) "up"; omega) (by have:=oW (h:=uI (K j) mo (upN q p)) lt14 lp; omega))
  ·unfold upH;rw [hpr];exact H6
end
theorem JO {f g:MTF} {w:Wd} {s1:Sto} {r:Option (Bool×Sto)} (h1:f w=some (false,s1)) (h2:g ⟨w.η,s1⟩=r):DA f g w=r:=by
 unfold DA;rw [h1]; exact h2
theorem kF {fn:DFn} {fs:MFs} {w:Wd} {ds:List D} {s1:Sto} {r:Option (D×Sto)} (h1:fs w=some (ds,s1)) (h2:fn ds s1=r):la fn fs w=r:=by
 unfold la;rw [h1]; exact h2
theorem Dg {c:Sc} (h:c.Ok) (K:Option Nat):SeqAt.shaped (kD c K)=true:=by
 cases K with
 | none=>rfl
 | some x=>exact lc (h.ok x)
theorem Kg {c:Sc} (h:c.Ok) (l:List Nat):pNe (c.S l) (c.S l)=some (.bool false):=by
 have e:c.S l=.list ((l.map c.nm).map PyData.str):=by unfold Sc.S; rw [Ml]; rfl
 rw [e];exact Ef fun s hs=>by
  obtain ⟨x,_,rfl⟩:=M6.mp hs;exact h.ok x
noncomputable def okW (w:Str):Prop:=PyData.strOk w=true
theorem DI {c:Sc} (h:c.Ok):∀ l:List (Str×Nat),(∀ r∈l,okW r.1)→PyData.canLayAll0 (l.map (rD c))=true∧PyData.depthAll (l.map (rD c))≤1
 | [],_=>⟨rfl,by simp [PyData.depthAll]⟩
 | r::l,hl=>by
  obtain ⟨h1,h2⟩:=DI h l fun x hx=>hl x (LX _ hx);have hr:PyData.strOk r.1=true:=hl r L7;refine ⟨?_,?_⟩
  ·simp [rD,Sc.s,PyData.canLayAll0,PyData.canLay0,hr,h.ok,h1]
  ·simp [rD,Sc.s,PyData.depthAll,PyData.depth];omega
theorem Kh {c:Sc} (h:c.Ok) {l:List (Str×Nat)} (hl:∀ r∈l,okW r.1):pNe (Rw c l) (Rw c l)=some (.bool false):=by
 obtain ⟨h1,h2⟩:=DI h l hl;refine wI ?_;have h3:PyData.depthAll (l.map (rD c))=0∨PyData.depthAll (l.map (rD c))=1:=by omega
 rcases h3 with h3 | h3
 ·simp [Rw,SeqAt.shaped,PyData.canLay0,PyData.depth,h1,h3]
 ·simp [Rw,SeqAt.shaped,PyData.canLay0,PyData.depth,h1,h3]
theorem yD {f g:MTF} {w:Wd} {s1:Sto} {r:Option (Bool×Sto)} (h1:f w=some (true,s1)) (h2:g ⟨w.η,s1⟩=r):oG f g w=r:=by
 unfold oG;rw [h1]; exact h2
theorem yE {f g:MTF} {w:Wd} {s1:Sto} (h1:f w=some (false,s1)):oG f g w=some (false,s1):=by
 unfold oG;rw [h1]; rfl
theorem HC {c:Sc} (h:c.Ok) (l m:List Nat):pEq (c.S l) (c.S m)=some (.bool (decide (l=m))):=by
 unfold pEq;rw [if_pos ⟨h.shS l,h.shS m⟩];show some (PyData.bool (PyData.eqvAll (l.map c.s) (m.map c.s)))=_;rw [h.eqvS]
noncomputable def Dr.sc (c:Dr):Sc:=⟨stF c.ps,c.nm,fun i=>c.L (i - 1),fun i=>c.T (i - 1),fun i=>c.W (i - 1),fun i=>c.H (i - 1),fun i=>c.mr (i - 1)⟩
theorem Dr.sc_d (c:Dr):c.sc.d=c.d:=by
 unfold Sc.d Dr.d Dr.sc stF;dsimp only;rw [Ml];rfl
theorem Hb (c:Sc) (s0:Sto):b6 [.r s0.length,.d c.d] (s0++[.obj 1 []])=some (.d .none,s0++[.obj 1 (nf c (s0.length+1)),.dct []]):=by
 have ge:(s0++[Cell.obj 1 []])[s0.length]?=some (.obj 1 []):=by rw [LY (LS _),Mp]; rfl
 have ge2:(s0++[Cell.obj 1 [("scene", .d c.d)],.dct []])[s0.length]?=some (.obj 1 [("scene", .d c.d)]):=by rw [LY (LS _),Mp]; rfl
 show dN 2 2 fV [.r s0.length,.d c.d] (s0++[.obj 1 []])=_;refine HG (w1:=⟨[some (.r s0.length),some (.d c.d)],s0++[.obj 1 (nf c (s0.length+1)),.dct []]⟩) rfl ?_;show fV ⟨[some (.r s0.length),some (.d c.d)],s0++[.obj 1 []]⟩=_;refine ai (w1:=⟨[some (.r s0.length),some (.d c.d)],s0++[.obj 1 [("scene", .d c.d)]]⟩) ?_ ?_
 ·rw [hJ (d:=.d c.d) (n:=s0.length) (fs:=[]) (au rfl) rfl ge (by simp)];dsimp only;rw [Na _ _ (LS _),Mp]; rfl
 ·have ed:Cq ⟨[some (.r s0.length),some (.d c.d)],s0++[.obj 1 [("scene", .d c.d)]]⟩=some (.r (s0.length+1),s0++[.obj 1 [("scene", .d c.d)],.dct []]):=by
   unfold Cq;dsimp only;rw [LQ,Mw]; rfl
  rw [hJ (d:=.r (s0.length+1)) (n:=s0.length) (fs:=[("scene", .d c.d)]) ed rfl ge2 (by simp)];dsimp only;rw [Na _ _ (LS _),Mp]; rfl
theorem Ao {w:Wd} {s s1:Sto} {n:Nat} {d:D} {ds:List D} {o g:MF} {ds0:List D} (h1:o w=some (.r n,s)) (h2:s[n]?=some (.lst ds0)) (h3:g ⟨w.η,s⟩=some (d,s1)) (h4:s1[n]?=some (.lst ds)) (hl:ds.length≤3000000):vA o g w=some (.d .none,s1.set n (.lst (ds++[d]))):=by
 unfold vA;rw [h1,LM];dsimp only;rw [h2];dsimp only;rw [h3,LM];dsimp only;rw [h4];dsimp only;rw [if_pos (Nm hl (by show 3000000 < 2 ^ 24; decide))]
noncomputable def okL (last:Option (Nat×Int)) (h:Hd):Prop:=match last with
 | none=>h.clk=none∨h.dbl=true
 | some (x,m)=>h.clk=some x∧h.mom=m∧h.dbl=false
noncomputable def lDb (last:Option (Nat×Int)) (x:Nat) (mo:Int):Bool:=match last with
 | none=>false
 | some (y,m)=>decide (y=x)&&decide (mo - m≤20)
theorem Jk {last:Option (Nat×Int)} {h:Hd} (ok:okL last h) (x:Nat) (mo:Int):v4 h x mo=lDb last x mo:=by
 unfold v4 lDb;cases last with
 | none =>
  rcases ok with e | e
  ·rw [e]; simp
  ·rw [e]; simp
 | some e =>
  obtain ⟨y,m⟩:=e;obtain ⟨e1,e2,e3⟩:=ok;rw [e1,e2,e3]
  simp
noncomputable def nxL (last:Option (Nat×Int)) (mo:Int):Option Nat→Option (Nat×Int)
 | none=>last
 | some x=>if lDb last x mo=true then none else some (x,mo)
noncomputable def AF (last:Option (Nat×Int)) (mo:Int):Option Nat→List (Str×Nat)
 | none=>[]
 | some x=>if lDb last x mo=true then [("click", x),("double", x)] else [("click", x)]
theorem HX (q p:List Nat):upN q p=match (shN q p).getLast? with | none=>[] | some x=>[x]:=by
 unfold upN;rcases List.eq_nil_or_concat (shN q p) with e | ⟨l,x,e⟩
 ·rw [e]; rfl
 ·rw [List.concat_eq_append] at e;rw [e]; simp
structure Tn (c:Sc) (ps:List Nat):Prop where
 ok:c.Ok
 st:c.st=stF ps
 ps:uC ps
noncomputable def oP (c:Sc) (ps:List Nat) (r:Row):PyData:=.tuple [c.box (r.1,par ps r.1),arD r.2.1,.list (r.2.2.map arD)]
theorem vq {q p:Nat}:∀ {st:List (Nat×Nat)},tL st q=some p→∃ r,st.filter (fun x=>decide (x.1=q))=(q,p)::r
 | x::r,h=>by
  unfold tL at h;by_cases e:x.1=q
  ·rw [if_pos e] at h;cases h;refine ⟨r.filter fun x=>decide (x.1=q),?_⟩;rw [MB,if_pos (by simpa using e)];subst e; rfl
  ·rw [if_neg e] at h;obtain ⟨s,hs⟩:=vq h;refine ⟨s,?_⟩;rw [MB,if_neg (by simpa using e),hs]
theorem ix0 (d:PyData) (l:List PyData):pIx (.list (d::l)) (.int 0)=some d:=by
 show atI (d::l) ((0:Nat):Int)=_;exact wo rfl
theorem vI {α β γ:Type} {f:α→List β} {g:α→List γ}:∀ {l:List α},(∀ x∈l,(f x).length≤(g x).length)→(l.flatMap f).length≤(l.flatMap g).length
 | [],_=>by simp
 | x::r,h=>by
  have h1:=h x L7;have h2:=vI (l:=r) fun y hy=>h y (LX _ hy);rw [MG,MG,LQ,LQ];omega
theorem DE (g:Geo) (st:List (Nat×Nat)):∀ n a l t cu,(spF g st n a l t cu).length≤(kids st n a).length
 | 0,a,l,t,cu=>Mz _
 | n+1,a,l,t,cu=>by
  unfold spF kids;refine vI fun x _=>?_;show _≤(x::kids st n x).length
  split
  ·exact Mz _
  ·have:=DE g st n x (l+g.L x) (t+g.T x) (cu++if g.c x=true then [g.at l t x] else [])
   rw [L1,L1];omega
theorem EK {ps:List Nat} (ok:uC ps) {n a:Nat} (h:13≤n+a):(kids (stF ps) n a).length≤2000000:=by
 have:=ok.len
 have h4:=qU (f:=blF (stF ps) n) (b:=262144) (l:=chN (stF ps) a) fun x hx=>L9 (uv ok n x (fC ok hx).1 (fC ok hx).2.1 (by have:=(fC ok hx).2.2.2; omega)) (wg ok (fC ok hx).1);have h5:=zl ok a;unfold kids;omega
theorem Ff:∀ l:List Ar,PyData.canLayAll0 (l.map arD)=true
 | []=>rfl
 | x::r=>by
  rw [LW];unfold PyData.canLayAll0;rw [Ff r];simp [arD,PyData.canLay0,PyData.canLayAll0]
theorem E6:∀ l:List Ar,PyData.depthAll (l.map arD)≤1
 | []=>Mz _
 | x::r=>by
  rw [LW];unfold PyData.depthAll
  have:=E6 r
  have h2:PyData.depth (arD x)=1:=by simp [arD,PyData.depth,PyData.depthAll]
  omega
theorem J0 (l:List Ar):SeqAt.shaped (.list (l.map arD))=true:=by
 have:=E6 l
 unfold SeqAt.shaped PyData.canLay0 PyData.depth;rw [Ff,Bool.true_and,decide_eq_true_eq];omega
theorem Jh {α:Type} (D:α→PyData) (l:List α) (hs:SeqAt.shaped (.list (l.map D))=true):pEq (.list (l.map D)) (.list [])=some (.bool (decide (l=[]))):=by
 unfold pEq;rw [if_pos ⟨hs,by rfl⟩];cases l with
 | nil=>simp [PyData.eqv,PyData.eqvAll]
 | cons x r=>simp [PyData.eqv,PyData.eqvAll]
theorem AE {α:Type} (p:α→Bool):∀ l:List α,decide (l.filter (fun x=>!p x)=[])=l.all p
 | []=>by simp
 | x::r=>by
  have:=AE p r
  rw [MB,MY];cases hp:p x with
  | false=>simp
  | true=>simpa using this
theorem KN (l:List Ar) (hl:l.length≤3000000) (x y:Int):eX [.list (l.map arD),.int x,.int y]=some (.bool (l.all fun a=>rM a x y)):=by
 have e:bH [none,some 1,some 2] (lI asL (eV 0)) (tgN 0) (BG (rQ (bT (lch pLe pLt (l2 pIx (eV 0) (eC (.int 0))) (eV 1) (l2 pIx (eV 0) (eC (.int 2))))) (bT (lch pLe pLt (l2 pIx (eV 0) (eC (.int 1))) (eV 2) (l2 pIx (eV 0) (eC (.int 3))))))) (eV 0)
   [.val (.list (l.map arD)),.val (.int x),.val (.int y)]=some ((l.filter fun a=>!rM a x y).map arD):=by
  refine fZ (ds:=l.map arD) (lU rfl rfl) (by rw [LO]; exact hl) ?_;exact iS (η:=[.un,.val (.int x),.val (.int y)]) arD (fun a=>!rM a x y) arD l fun a _=>⟨[.val (arD a),.val (.int x),.val (.int y)],rfl,CL (zr (bm (y4 (ae rfl rfl rfl) rfl (ae rfl rfl rfl))) (bm (y4 (ae rfl rfl rfl) rfl (ae rfl rfl rfl)))),fun _=>rfl⟩
 have e2:=Jh arD (l.filter fun a=>!rM a x y) (J0 _);rw [AE] at e2;exact hE rfl (show ot [.val (.list (l.map arD)),.val (.int x),.val (.int y)]=_ from iV (ae (cx e) (cx (eS (by simp))) e2))
theorem GT {fs:En→Option (List PyData)} {g:En→Option PyData} {η:En} {d:PyData} {b:Bool} (h1:fs η=some [d]) (h2:g η=some (.int (if b then 1 else 0))):By fs g η=some (.list (if b=true then [d] else [])):=by
 unfold By;rw [h1,LM,h2,LM];cases b <;> rfl
section
variable {c:Sc} {ps:List Nat} (t:Tn c ps)
include t
theorem KO {q:Nat} (hq:In ps q):bM [c.d,c.s q]=some (c.box (q,par ps q)):=by
 obtain ⟨r,hr⟩:=vq (wj (ps:=ps) hq.1 hq.2);rw [← t.st] at hr;have e:bH [none,some 1] (lI oB (eV 0)) (tgN 0) (bT (l2 pEq (l2 pIx (eV 0) (eC (.int 0))) (eV 1))) (eV 0) [.val c.d,.val (c.s q)]=some ((c.st.filter fun x=>decide (x.1=q)).map c.box):=by
  refine fZ (ds:=c.st.map c.box) (lU rfl rfl) (by rw [LO]; have:=t.ok.len; omega) ?_;exact iS (η:=[.un,.val (c.s q)]) c.box (fun x=>decide (x.1=q)) c.box c.st fun x _=>⟨[.val (c.box x),.val (c.s q)],rfl,bm (ae (ae rfl rfl rfl) rfl (t.ok.eqs x.1 q)),fun _=>rfl⟩
 rw [hr,LW] at e;exact hE rfl (show ou [.val c.d,.val (c.s q)]=_ from iV (ae (cx e) rfl (ix0 _ _)))
theorem Ca {x1:Sl}:∀ (n q:Nat) (tl:List Nat),In ps q→q≤n→tl.length+n≤100 →
  sWh (bT (l2 pNe (l2 pIx (lA bM (aC (eV 0) (aC (l2 pIx (eV 2) (eC (.int 0))) aN))) (eC (.int 1))) (eC (.str "")))) (dY 2 (l2 aG (oE (fun η=>((aC (l2 pIx (lA bM (aC (eV 0) (aC (l2 pIx (eV 2) (eC (.int 0))) aN))) (eC (.int 1))) aN) η).bind gL)) (eV 2))) n
   [.val c.d,x1,.val (c.S (q::tl))]=some (.nx [.val c.d,x1,.val (c.S (P ps q++tl))])
 | 0,q,tl,hq,h1,_=>by have:=hq.1; omega
 | n+1,q,tl,hq,h1,h2=>by
  have hp:=qx t.ps hq.1;have ea:l2 pIx (lA bM (aC (eV 0) (aC (l2 pIx (eV 2) (eC (.int 0))) aN))) (eC (.int 1)) [.val c.d,x1,.val (c.S (q::tl))]=some (c.s (par ps q)) :=
   ae (aW (af rfl (af (ae rfl rfl (ix0 _ _)) rfl)) (KO t hq)) rfl rfl
  have et:bT (l2 pNe (l2 pIx (lA bM (aC (eV 0) (aC (l2 pIx (eV 2) (eC (.int 0))) aN))) (eC (.int 1))) (eC (.str ""))) [.val c.d,x1,.val (c.S (q::tl))]=some (!decide (par ps q=0)) :=
   bm (ae ea rfl (t.ok.ne0 _))
  unfold sWh;rw [et,LM,tf t.ps hq.1];by_cases e:par ps q=0
  ·rw [decide_eq_true e,e];rfl
  ·rw [decide_eq_false e];show L0 (dY _ _ _) _=_;have eb:dY 2 (l2 aG (oE (fun η=>((aC (l2 pIx (lA bM (aC (eV 0) (aC (l2 pIx (eV 2) (eC (.int 0))) aN))) (eC (.int 1))) aN) η).bind gL)) (eV 2)) [.val c.d,x1,.val (c.S (q::tl))]=some (.nx [.val c.d,x1,.val (c.S (par ps q::q::tl))]) :=
    f8 (ae (cx (eN (af ea rfl) (eS (by simp)))) rfl (AY (by simp; omega)))
   rw [eb,LM];show sWh _ _ n _=_;rw [Ca n (par ps q) (q::tl) ⟨by omega,by have:=hq.2; omega⟩ (by omega) (by simp; omega)]
   simp
theorem FD {q:Nat} (hq:In ps q):b0 [c.d,c.s q]=some (c.S (P ps q)):=by
 have h7:=(show q≤7 from L9 hq.2 t.ps.len);have e:=Ca t (x1:=.val (c.s q)) 13 q [] hq (by omega) (by simp);rw [Mn] at e;exact hE rfl (show nr bM [.val c.d,.val (c.s q),.un]=_ from de (f8 (cx (eN (af rfl rfl) (eS (by simp))))) (de e (iV rfl)))
omit t in
noncomputable def spB (bS:PFn):En→Option Out :=
  (sIf (rQ (bT (l2 pEq (l2 pIx (eV 6) (eC (.int 1))) (eV 1))) (bT (l2 (pIn true) (eC (.str "h")) (l2 pIx (eV 6) (eC (.int 6)))))) (cw (dY 7 (lA (fun ds=>if ds.length≤sizeLine then some (.tuple ds) else none) (aC (l2 aG (eV 2) (l2 pIx (eV 6) (eC (.int 2)))) (aC (l2 aG (eV 3) (l2 pIx (eV 6) (eC (.int 3)))) (aC (l2 aG (l2 aG (eV 2) (l2 pIx (eV 6) (eC (.int 2)))) (l2 pIx (eV 6) (eC (.int 4)))) (aC (l2 aG (l2 aG (eV 3) (l2 pIx (eV 6) (eC (.int 3)))) (l2 pIx (eV 6) (eC (.int 5)))) aN))))))
  (cw (dY 8 (l2 aG (eV 4) (By (fun η=>((aC (eV 7) aN) η).bind gL) (lA qA (aC (l2 (pIn false) (eC (.str "c")) (l2 pIx (eV 6) (eC (.int 6)))) aN)))))
  (dY 5 (l2 aG (l2 aG (eV 5) (oE (fun η=>((aC (lA (fun ds=>if ds.length≤sizeLine then some (.tuple ds) else none) (aC (eV 6) (aC (eV 7) (aC (l2 aG (eV 4) (oE (fun η=>((aC (eV 7) aN) η).bind gL))) aN)))) aN) η).bind gL))) (lA bS (aC (eV 0) (aC (l2 pIx (eV 6) (eC (.int 0))) (aC (l2 pIx (eV 7) (eC (.int 0))) (aC (l2 pIx (eV 7) (eC (.int 1))) (aC (eV 8) aN)))))))))) sNx)
omit t in
noncomputable def spX (g:Geo) (st:List (Nat×Nat)) (n:Nat) (l0 t0:Int) (cu:List Ar) (x:Nat):List Row :=
 if g.h x=true then [] else (x,g.at l0 t0 x,cu++[g.at l0 t0 x])::spF g st n x (l0+g.L x) (t0+g.T x) (cu++if g.c x=true then [g.at l0 t0 x] else [])
theorem Hq {n a:Nat} {l0 t0:Int} {cu:List Ar} (hcu:cu.length≤90) {F:PFn}
  (hF:∀ x,x∈chN (stF ps) a→∀ cu':List Ar,cu'.length≤cu.length+1→F [c.d,c.s x,.int (l0+c.geo.L x),.int (t0+c.geo.T x),.list (cu'.map arD)]=some (.list ((spF c.geo (stF ps) n x (l0+c.geo.L x) (t0+c.geo.T x) cu').map (oP c ps)))) :
  ∀ (l:List (Nat×Nat)) (fd:List Row) (s6 s7 s8:Sl),(∀ x∈l,x∈stF ps)→fd.length+(((l.filter fun x=>decide (x.2=a)).map (·.1)).flatMap (spX c.geo (stF ps) n l0 t0 cu)).length≤3000000 →
  ∃ s6' s7' s8',sGo (tgN 6) (spB F) (l.map c.box) [.val c.d,.val (c.s a),.val (.int l0),.val (.int t0),.val (.list (cu.map arD)),.val (.list (fd.map (oP c ps))),s6,s7,s8]
   = some (.nx [.val c.d,.val (c.s a),.val (.int l0),.val (.int t0),.val (.list (cu.map arD)),.val (.list ((fd++((l.filter fun x=>decide (x.2=a)).map (·.1)).flatMap (spX c.geo (stF ps) n l0 t0 cu)).map (oP c ps))),s6',s7',s8'])
 | [],fd,s6,s7,s8,_,_=>⟨s6,s7,s8,by simp [sGo]⟩
 | x::l,fd,s6,s7,s8,hm,hz=>by
  have hx:=hm x L7;have hxp:=(yG hx).2.2;have hxe:x=(x.1,par ps x.1):=by rw [← hxp]
  have et:rQ (bT (l2 pEq (l2 pIx (eV 6) (eC (.int 1))) (eV 1))) (bT (l2 (pIn true) (eC (.str "h")) (l2 pIx (eV 6) (eC (.int 6))))) [.val c.d,.val (c.s a),.val (.int l0),.val (.int t0),.val (.list (cu.map arD)),.val (.list (fd.map (oP c ps))),.val (c.box x),s7,s8]=some (decide (x.2=a)&&!c.geo.h x.1) :=
   zr (bm (ae (ae rfl rfl rfl) rfl (t.ok.eqs x.2 a))) (bm (ae rfl (ae rfl rfl rfl) (Eh true "h" (c.mr x.1))))
  have step:∃ s7' s8',spB F [.val c.d,.val (c.s a),.val (.int l0),.val (.int t0),.val (.list (cu.map arD)),.val (.list (fd.map (oP c ps))),.val (c.box x),s7,s8]
    = some (.nx [.val c.d,.val (c.s a),.val (.int l0),.val (.int t0),.val (.list (cu.map arD)),.val (.list ((fd++(if x.2=a then spX c.geo (stF ps) n l0 t0 cu x.1 else [])).map (oP c ps))),.val (c.box x),s7',s8']):=by
   unfold spB;rw [xg et];by_cases ea:x.2=a
   ·rw [decide_eq_true ea,if_pos ea];have hch:x.1∈chN (stF ps) a:=M6.mpr ⟨x,Mr.mpr ⟨hx,by simpa using ea⟩,rfl⟩;have hzz:fd.length+(spX c.geo (stF ps) n l0 t0 cu x.1).length≤3000000:=by
     rw [MB,if_pos (by simpa using ea),LW,MG,LQ] at hz;omega
    unfold spX at hzz ⊢;cases hh:c.geo.h x.1 with
    | true =>
     rw [if_neg (by decide),if_pos rfl,Mn];exact ⟨s7,s8,rfl⟩
    | false =>
     rw [hh,if_neg LU] at hzz;rw [if_pos (by decide),if_neg LU];have e8:By (fun η=>((aC (eV 7) aN) η).bind gL) (lA qA (aC (l2 (pIn false) (eC (.str "c")) (l2 pIx (eV 6) (eC (.int 6)))) aN)) [.val c.d,.val (c.s a),.val (.int l0),.val (.int t0),.val (.list (cu.map arD)),.val (.list (fd.map (oP c ps))),.val (c.box x),.val (arD (c.geo.at l0 t0 x.1)),s8]
       = some (.list ((if c.geo.c x.1=true then [c.geo.at l0 t0 x.1] else []).map arD)):=by
      have:=GT (fs:=fun η=>((aC (eV 7) aN) η).bind gL) (g:=lA qA (aC (l2 (pIn false) (eC (.str "c")) (l2 pIx (eV 6) (eC (.int 6)))) aN)) (η:=[.val c.d,.val (c.s a),.val (.int l0),.val (.int t0),.val (.list (cu.map arD)),.val (.list (fd.map (oP c ps))),.val (c.box x),.val (arD (c.geo.at l0 t0 x.1)),s8]) (d:=arD (c.geo.at l0 t0 x.1)) (b:=c.geo.c x.1)
       (eN (af rfl rfl) (eS (by simp))) (aW (af (ae rfl (ae rfl rfl rfl) (Eh false "c" (c.mr x.1))) rfl) rfl)
      rw [this];cases c.geo.c x.1 <;> rfl
     have e8':l2 aG (eV 4) (By (fun η=>((aC (eV 7) aN) η).bind gL) (lA qA (aC (l2 (pIn false) (eC (.str "c")) (l2 pIx (eV 6) (eC (.int 6)))) aN))) [.val c.d,.val (c.s a),.val (.int l0),.val (.int t0),.val (.list (cu.map arD)),.val (.list (fd.map (oP c ps))),.val (c.box x),.val (arD (c.geo.at l0 t0 x.1)),s8]
       = some (.list ((cu++if c.geo.c x.1=true then [c.geo.at l0 t0 x.1] else []).map arD)):=by
      rw [Mo];exact ae rfl e8 (AY (by cases c.geo.c x.1 <;> simp <;> omega))
     have ef:=hF x.1 hch (cu++if c.geo.c x.1=true then [c.geo.at l0 t0 x.1] else []) (by cases c.geo.c x.1 <;> simp);rw [L1] at hzz;refine ⟨_,_,de (f8 (d:=arD (c.geo.at l0 t0 x.1)) (aW (af (ae rfl (ae rfl rfl rfl) rfl) (af (ae rfl (ae rfl rfl rfl) rfl) (af (ae (ae rfl (ae rfl rfl rfl) rfl) (ae rfl rfl rfl) rfl) (af (ae (ae rfl (ae rfl rfl rfl) rfl) (ae rfl rfl rfl) rfl) rfl)))) (jj (by simp)))) (de (f8 e8') (f8 ?_))⟩;have e5:l2 aG (eV 5) (oE (fun η=>((aC (lA (fun ds=>if ds.length≤sizeLine then some (.tuple ds) else none) (aC (eV 6) (aC (eV 7) (aC (l2 aG (eV 4) (oE (fun η=>((aC (eV 7) aN) η).bind gL))) aN)))) aN) η).bind gL))
       [.val c.d,.val (c.s a),.val (.int l0),.val (.int t0),.val (.list (cu.map arD)),.val (.list (fd.map (oP c ps))),.val (c.box x),.val (arD (c.geo.at l0 t0 x.1)),.val (.list ((cu++if c.geo.c x.1=true then [c.geo.at l0 t0 x.1] else []).map arD))]
       = some (.list ((fd++[(x.1,c.geo.at l0 t0 x.1,cu++[c.geo.at l0 t0 x.1])]).map (oP c ps))):=by
      refine ae rfl (cx (eN (af (aW (af rfl (af rfl (af (ae rfl (cx (eN (af rfl rfl) (eS (by simp)))) (AY (by simp; omega))) rfl))) (jj (by simp))) rfl) (eS (by simp)))) ?_;have er:oP c ps (x.1,c.geo.at l0 t0 x.1,cu++[c.geo.at l0 t0 x.1])=.tuple [c.box x,arD (c.geo.at l0 t0 x.1),.list (cu.map arD++[arD (c.geo.at l0 t0 x.1)])]:=by
       unfold oP;rw [Mo,← hxp];rfl
      rw [Mo,LW,M5,er];exact AY (by simp; omega)
     refine (ae e5 (aW (af rfl (af (d:=c.s x.1) (ae rfl rfl rfl) (af (d:=.int (l0+c.geo.L x.1)) (ae rfl rfl rfl) (af (d:=.int (t0+c.geo.T x.1)) (ae rfl rfl rfl) (af rfl rfl))))) ef) (AY ?_)).trans ?_
     ·rw [LO,LO,LQ]; simp; omega
     ·rw [← Mo,Mw]; rfl
   ·rw [decide_eq_false ea,if_neg ea,Bool.false_and,if_neg LU,Mn];exact ⟨s7,s8,rfl⟩
  obtain ⟨s7',s8',step⟩:=step;have key:((x::l).filter fun x=>decide (x.2=a)).map (·.1)=(if x.2=a then [x.1] else [])++(l.filter fun x=>decide (x.2=a)).map (·.1):=by
   rw [MB];by_cases ea:x.2=a
   ·rw [if_pos ea,if_pos (by simpa using ea)]; rfl
   ·rw [if_neg ea,if_neg (by simpa using ea)]; rfl
  have key2:((((x::l).filter fun x=>decide (x.2=a)).map (·.1)).flatMap (spX c.geo (stF ps) n l0 t0 cu))=(if x.2=a then spX c.geo (stF ps) n l0 t0 cu x.1 else [])++(((l.filter fun x=>decide (x.2=a)).map (·.1)).flatMap (spX c.geo (stF ps) n l0 t0 cu)):=by
   rw [key,List.flatMap_append];by_cases ea:x.2=a
   ·rw [if_pos ea,if_pos ea]; simp
   ·rw [if_neg ea,if_neg ea]; rfl
  rw [key2,LQ] at hz;obtain ⟨u6,u7,u8,ih⟩:=Hq hcu hF l (fd++(if x.2=a then spX c.geo (stF ps) n l0 t0 cu x.1 else [])) (.val (c.box x)) s7' s8' (fun y hy=>hm y (LX _ hy)) (by rw [LQ]; omega);refine ⟨u6,u7,u8,?_⟩;rw [LW]
  conv=>lhs; unfold sGo
  show L0 (spB F [.val c.d,.val (c.s a),.val (.int l0),.val (.int t0),.val (.list (cu.map arD)),.val (.list (fd.map (oP c ps))),.val (c.box x),s7,s8]) _=_;rw [step,LM];show sGo _ _ _ _=_;rw [ih,key2,Mw]
theorem A3:∀ (n a:Nat) (l0 t0:Int) (cu:List Ar),13≤n+a→a≤ps.length→cu.length+n≤80→bo n [c.d,c.s a,.int l0,.int t0,.list (cu.map arD)]=some (.list ((spF c.geo (stF ps) n a l0 t0 cu).map (oP c ps)))
 | 0,a,l0,t0,cu,h1,h2,_=>by have:=t.ps.len; omega
 | n+1,a,l0,t0,cu,h1,h2,h3=>by
  have hlim:=L9 (DE c.geo (stF ps) (n+1) a l0 t0 cu) (EK t.ps h1);have e0:spF c.geo (stF ps) (n+1) a l0 t0 cu=(((stF ps).filter fun x=>decide (x.2=a)).map (·.1)).flatMap (spX c.geo (stF ps) n l0 t0 cu):=rfl;rw [e0] at hlim ⊢;obtain ⟨s6,s7,s8,e⟩:=Hq t (n:=n) (a:=a) (l0:=l0) (t0:=t0) (cu:=cu) (by omega) (F:=bo n) (fun x hx cu' hc=>by
   have hm:=fC t.ps hx;exact A3 n x _ _ cu' (by omega) hm.2.1 (by omega)) (stF ps) [] .un .un .un (fun _ h=>h) (by simpa using L9 hlim (by decide))
  refine hE rfl (show ly (bo n) [.val c.d,.val (c.s a),.val (.int l0),.val (.int t0),.val (.list (cu.map arD)),.un,.un,.un,.un]=_ from ?_);refine de (f8 (cx (eS (by simp)))) (de (sV (ds:=(stF ps).map c.box) (lU (d:=c.d) rfl ?_) e) (iV rfl));show some (c.st.map c.box)=_;rw [t.st]
omit t in
noncomputable def shR (c:Sc) (ps:List Nat):List Nat:=(kids (stF ps) 13 0).filter (c.geo.shown ps)
theorem JF:bo 13 [c.d,.str "", .int 0,.int 0,.list []]=some (.list ((shR c ps).map fun q=>oP c ps (c.geo.row ps q))):=by
 have e:=A3 t 13 0 0 0 [] (by decide) (Mz _) (by simp);have e2:spF c.geo (stF ps) 13 0 0 0 []=(shR c ps).map (c.geo.row ps):=CZ t.ps 13 0 rfl;rw [e2,Ml] at e;have e3:c.s 0=.str "" := by
  unfold Sc.s;rw [t.ok.top]
 rw [e3] at e;exact e
theorem Ir {q:Nat} (h:q∈shR c ps):In ps q:=w8 t.ps (Mr.mp h).1
theorem FY:(shR c ps).length≤3000000:=L9 (MJ ..) (As t.ps)
theorem Fb {q:Nat} (h:q≤ps.length):(c.geo.cuts ps q).length≤7:=by
 unfold Geo.cuts;rw [LO];refine L9 (MJ ..) (L9 (HU q) (L9 h t.ps.len))
theorem F7 {q:Nat} (h:In ps q):(c.geo.row ps q).2.2.length≤8:=by
 have hp:=qx t.ps h.1
 have:=Fb t (q:=par ps q) (by have:=h.2; omega)
 unfold Geo.row;rw [LQ];simpa using this
theorem JG (x y:Int):fN [c.d,.int x,.int y]=some (c.S (c.geo.hits ps x y)):=by
 have e:bH [none,some 1,some 2] (lI asL (eV 3)) (tgN 0) (rQ (bT (l2 (pIn true) (eC (.str "l")) (l2 pIx (l2 pIx (eV 0) (eC (.int 0))) (eC (.int 6))))) (bT (lA eX (aC (l2 pIx (eV 0) (eC (.int 2))) (aC (eV 1) (aC (eV 2) aN)))))) (l2 pIx (l2 pIx (eV 0) (eC (.int 0))) (eC (.int 0)))
   [.val c.d,.val (.int x),.val (.int y),.val (.list ((shR c ps).map fun q=>oP c ps (c.geo.row ps q)))]=some (((shR c ps).filter fun q=>!c.geo.l q&&c.geo.tch ps x y q).map c.s):=by
  refine fZ (ds:=(shR c ps).map fun q=>oP c ps (c.geo.row ps q)) (lU rfl rfl) (by rw [LO]; exact FY t) ?_;refine iS (η:=[.un,.val (.int x),.val (.int y)]) (fun q=>oP c ps (c.geo.row ps q)) (fun q=>!c.geo.l q&&c.geo.tch ps x y q) c.s (shR c ps) fun q hq=>⟨[.val (oP c ps (c.geo.row ps q)),.val (.int x),.val (.int y)],rfl,?_,fun _=>ae (ae rfl rfl rfl) rfl rfl⟩;exact zr (bm (ae rfl (ae (ae rfl rfl rfl) rfl rfl) (Eh true "l" (c.mr q)))) (bm (aW (af (ae rfl rfl rfl) (af rfl (af rfl rfl))) (KN (c.geo.row ps q).2.2 (by have:=F7 t (Ir t hq); omega) x y)))
 have er:pRv (.list (((shR c ps).filter fun q=>!c.geo.l q&&c.geo.tch ps x y q).map c.s)) (.int (-1))=some (c.S (c.geo.hits ps x y)):=by
  show some (PyData.list (List.reverse _))=_;rw [← Nv]
  have:=ES c.geo ps x y
  unfold shR;rw [this];rfl
 exact hE rfl (show nt (bo 13) eX [.val c.d,.val (.int x),.val (.int y),.un]=_ from
  de (f8 (aW (af rfl (af rfl (af rfl (af rfl (af (cx (eS (by simp))) rfl))))) (JF t))) (iV (ae (cx e) (Kv rfl rfl) er)))
theorem GQ {x y:Int} {q:Nat} (h:q∈c.geo.hits ps x y):In ps q:=w8 t.ps (List.mem_reverse.mp (Mr.mp (Mr.mp (Mr.mp h).1).1).1)
theorem IP (l:List Nat):pNe (c.S l) (.list [])=some (.bool (!decide (l=[]))):=t.ok.neS l []
theorem BM (x y:Int):ax [c.d,.int x,.int y]=some (c.S (hpth ps (c.geo.hits ps x y))):=by
 have e1:=JG t x y;have hin:=fun q=>GQ t (x:=x) (y:=y) (q:=q);refine hE rfl (show j8 fN b0 [.val c.d,.val (.int x),.val (.int y),.un]=_ from de (f8 (aW (af rfl (af rfl (af rfl rfl))) e1)) (iV ?_));have et:=bm (ae (o:=pNe) (f:=eV 3) (g:=oE (fun η=>(aN η).bind gL)) (η:=[.val c.d,.val (.int x),.val (.int y),.val (c.S (c.geo.hits ps x y))]) rfl (cx (eS (by simp))) (IP t (c.geo.hits ps x y)));show vIf _ _ _ [.val c.d,.val (.int x),.val (.int y),.val (c.S (c.geo.hits ps x y))]=_;rw [wq et];cases hh:c.geo.hits ps x y with
 | nil =>
  rw [if_neg (by simp)];exact cx (eS (by simp))
 | cons q r =>
  rw [if_pos (by simp)];exact aW (af rfl (af (ae rfl rfl (ix0 _ _)) rfl)) (FD t (hin q (by rw [hh]; exact L7)))
end
section
variable {w:Wd} {s s1 s2:Sto} {n k:Nat} {ds:List D} {d:D}
theorem Cs {o:MF} {nm:Str} {fs:List (Str×D)} (h1:o w=some (.r n,s)) (h2:s[n]?=some (.obj k fs)) (h3:fs.lookup nm=some d):rL o nm w=some (d,s):=by
 unfold rL;rw [h1,LM];dsimp only;rw [h2];dsimp only;rw [h3]; rfl
theorem ue {fs:MFs} {xs:List PyData} (h1:fs w=some (ds,s)) (h2:pDs s ds=some xs) (hl:xs.length≤3000000):mq fs w=some (.d (.tuple xs),s):=by
 unfold mq;rw [h1,LM,h2,LM,if_pos (big hl)]
theorem pH {o g:MF} {x:PyData} {ky:Key} {kvs:List (Key×D)} (h1:o w=some (.r n,s)) (h2:g ⟨w.η,s⟩=some (.d x,s1)) (h3:Au x=some ky) (h4:s1[n]?=some (.dct kvs)) (h5:bN kvs ky=some d):cQ o g w=some (d,s1):=by
 unfold cQ;rw [h1,LM];dsimp only;rw [h2,LM];dsimp only;rw [h3,LM,h4];dsimp only;rw [h5,LM]
theorem uf {o g e:MF} {x:PyData} {ky:Key} {kvs:List (Key×D)} {s0:Sto} (h0:e w=some (d,s0)) (h1:o ⟨w.η,s0⟩=some (.r n,s)) (h2:g ⟨w.η,s⟩=some (.d x,s1)) (h3:Au x=some ky) (h4:s1[n]?=some (.dct kvs)) (hl:kvs.length≤3000000):gW o g e w=some (.nx ⟨w.η,s1.set n (.dct (pV kvs ky d))⟩):=by
 unfold gW;rw [h0,LM];dsimp only;rw [h1,LM];dsimp only;rw [h2,LM];dsimp only;rw [h3,LM,h4];dsimp only;rw [if_pos (Nm hl (by show 3000000 < 2 ^ 24; decide))]
theorem y0 {f:MF} {xs:List PyData} (h1:f w=some (.r n,s)) (h2:s[n]?=some (.lst ds)) (h3:v5 ds=some xs):mFz f w=some (.d (.list xs),s.set n (.fz (.list xs))):=by
 unfold mFz;rw [h1,LM];dsimp only;rw [h2];dsimp only;rw [h3,LM]
theorem CB {f:MF} {xs:List PyData} (h:f w=some (.d (.list xs),s)):iM f w=some (xs,s):=by
 unfold iM;rw [h]; rfl
end
theorem yK {s:Sto} {i:Nat} {x y:Cell} (h:s[i]?=some y):(s.set i x)[i]?=some x:=LV (fP h)
theorem sX {ι:Type} (f:ι→PyData):∀ l:List ι,v5 (l.map fun x=>D.d (f x))=some (l.map f)
 | []=>rfl
 | x::r=>by
  rw [LW,LW];unfold v5;rw [sX f r]; rfl
theorem zP {s:Sto} {n:Nat} {x:Cell} (h:s[n]?=some x):s.set n x=s:=by
 refine List.ext_getElem? fun i=>?_;by_cases e:n=i
 ·subst e; rw [LV (fP h),h]
 ·rw [LP e]
theorem uU {ι:Type} {ks:List Nat} {t:En→PyData→Option En} {p:MTF} {f:MF} {n:Nat} {η:MEn} (Z:ι→PyData) (q:ι→Bool) (Y:ι→PyData) (W:ι→MEn):∀ (xs:List ι) (s:Sto) (acc:List D),acc.length+xs.length≤3000000→s[n]?=some (.lst acc) →
  (∀ x∈xs,∀ a,mTg ks t ⟨η,s.set n (.lst a)⟩ (Z x)=some ⟨W x,s.set n (.lst a)⟩∧p ⟨W x,s.set n (.lst a)⟩=some (q x,s.set n (.lst a))∧(q x=true→f ⟨W x,s.set n (.lst a)⟩=some (.d (Y x),s.set n (.lst a)))) →
  Al ks t p f n η (xs.map Z) s=some (s.set n (.lst (acc++(xs.filter q).map fun x=>D.d (Y x))))
 | [],s,acc,_,hs,_=>by
  simp only [List.filter_nil,M5,Mn];rw [zP hs]; rfl
 | x::r,s,acc,hl,hs,hf=>by
  rw [L1] at hl;obtain ⟨e1,e2,e3⟩:=hf x L7 acc;rw [zP hs] at e1 e2 e3;rw [LW];unfold Al;rw [e1,LM,e2,LM];dsimp only;cases hq:q x with
  | false =>
   rw [if_neg LU,List.filter_cons_of_neg (by rw [hq]; decide)];exact uU Z q Y W r s acc (by omega) hs fun y hy=>hf y (LX _ hy)
  | true =>
   rw [if_pos rfl,e3 hq,LM];dsimp only;rw [hs];dsimp only;have ih:=uU Z q Y W r (s.set n (.lst (acc++[.d (Y x)]))) (acc++[.d (Y x)]) (by rw [LQ]; simp; omega) (yK hs) fun y hy a=>by
    rw [M9];exact hf y (LX _ hy) a
   rw [if_pos (Nm (show acc.length≤3000000 by omega) (by show 3000000 < 2 ^ 24; decide)),ih,M9,Nr hq,LW,Mw]; rfl
theorem yJ (s:Sto) (x y:Cell):(s++[x]).set s.length y=s++[y]:=by simp
theorem ur (s:Sto) (x:Cell):(s++[x])[s.length]?=some x:=by simp
theorem ub {ι:Type} {mp:List (Option Nat)} {it:Wd→Option (List PyData×Sto)} {ks:List Nat} {t:En→PyData→Option En} {p:MTF} {f:MF} {w:Wd} {s:Sto} (Z:ι→PyData) (q:ι→Bool) (Y:ι→PyData) (W:ι→MEn) (xs:List ι) (h1:it w=some (xs.map Z,s)) (hl:xs.length≤3000000)
  (hf:∀ x∈xs,∀ a,mTg ks t ⟨xP mp w.η,s++[.lst a]⟩ (Z x)=some ⟨W x,s++[.lst a]⟩∧p ⟨W x,s++[.lst a]⟩=some (q x,s++[.lst a])∧(q x=true→f ⟨W x,s++[.lst a]⟩=some (.d (Y x),s++[.lst a]))) :
  mcL mp it ks t p f w=some (.r s.length,s++[.lst ((xs.filter q).map fun x=>D.d (Y x))]):=by
 unfold mcL;rw [h1,LM];dsimp only;have e:=uU (n:=s.length) Z q Y W xs (s++[Cell.lst []]) [] (by simpa using hl) (ur s _) fun x hx a=>by
  rw [yJ]; exact hf x hx a
 rw [e,LM,yJ]; rfl
theorem EA {ι:Type} {f:MF} {w:Wd} {s:Sto} {Y:ι→PyData} {l:List ι} (h:f w=some (.r s.length,s++[.lst (l.map fun x=>D.d (Y x))])):mFz f w=some (.d (.list (l.map Y)),s++[.fz (.list (l.map Y))]):=by
 rw [y0 h (ur s _) (sX Y l),yJ]
theorem IU {o o':PyData→PyData→Option PyData} {f g h:MF} {w:Wd} {x y z:PyData} {k k':Bool} (h1:f w=some (.d x,w.s)) (h2:g w=some (.d y,w.s)) (h3:h w=some (.d z,w.s)) (e1:o x y=some (.bool k)) (e2:o' y z=some (.bool k')):mCh o o' f g h w=some (k&&k',w.s):=by
 unfold mCh;rw [h1,LM];dsimp only;rw [show g ⟨w.η,w.s⟩=some (.d y,w.s) from h2,LM];show (some x).bind _=_;rw [LM];show (some y).bind _=_;rw [LM,e1,LM];show (some k).bind _=_;rw [LM];cases k with
 | false=>rfl
 | true =>
  rw [if_pos rfl];dsimp only;rw [show h ⟨w.η,w.s⟩=some (.d z,w.s) from h3,LM];show (some z).bind _=_;rw [LM,e2,LM]; rfl
theorem Ln {c:MTF} {body:Wd→Option MOut} {n:Nat} {w w':Wd} {s:Sto} (h1:c w=some (true,s)) (h2:body ⟨w.η,s⟩=some (.nx w')):mWh c body (n+1) w=mWh c body n w':=by
 rw [mWh];rw [h1,LM];dsimp only;rw [if_pos rfl,h2,LM]
theorem Lp {c:MTF} {body:Wd→Option MOut} {n:Nat} {w:Wd} {s:Sto} (h1:c w=some (false,s)):mWh c body (n+1) w=some (.nx ⟨w.η,s⟩):=by
 rw [mWh];rw [h1,LM]; rfl
theorem IS {f:MF} {g:En→Option PyData} {w:Wd} {d:D} {s:Sto} {ds:List PyData} (h1:f w=some (d,s)) (hx:pD s d=some (.list ds)) (hy:g (vw ⟨w.η,s⟩)=some (.int (-1))):mRv f g w=some (.d (.list ds.reverse),s):=by
 unfold mRv;rw [h1,LM];dsimp only;rw [hx,LM,hy]; rfl
theorem Cr {fs:MFs} {w:Wd} {ds:List D} {s:Sto} (h:fs w=some (ds,s)) (hl:ds.length≤3000000):xT fs w=some (.r s.length,s++[.lst ds]):=by
 unfold xT;rw [h,LM];dsimp only;rw [if_pos (big hl)]
theorem Ez {f g:MF} {w:Wd} {n:Nat} {s s1:Sto} {d:D} {b:Bool} (h1:f w=some (.r n,s)) (h2:g ⟨w.η,s⟩=some (.d (.int (if b then 1 else 0)),s1)) (h3:s1[n]?=some (.lst [d])):yk f g w=some (.r s1.length,s1++[.lst (if b=true then [d] else [])]):=by
 unfold yk;rw [h1,LM];dsimp only;rw [h2,LM];dsimp only;rw [h3];cases b <;> rfl
noncomputable def laD (c:Sc):Option (Nat×Int)→PyData
 | none=>.none
 | some (x,m)=>.tuple [c.s x,.int m]
noncomputable def kvL (c:Sc) (h:Hd) (l:Option (Nat×Int)):List (Key×D):=[(.inr "over", .d (c.S h.trail)),(.inr "pressed", .d (oL c h.pr)),(.inr "held", .d (kD c h.held)),(.inr "last", .d (laD c l))]
noncomputable abbrev Lo (c:Sc) (s:Sto) (a:Nat) (h:Hd) (l:Option (Nat×Int)):Prop:=s[a]?=some (.dct (kvL c h l))
theorem k1:(("over" : Str) = "pressed")=False:=eq_false (by decide +kernel)
theorem k2:(("over" : Str) = "held")=False:=eq_false (by decide +kernel)
theorem k3:(("over" : Str) = "last")=False:=eq_false (by decide +kernel)
theorem k4:(("pressed" : Str) = "over")=False:=eq_false (by decide +kernel)
theorem k5:(("pressed" : Str) = "held")=False:=eq_false (by decide +kernel)
theorem k6:(("pressed" : Str) = "last")=False:=eq_false (by decide +kernel)
theorem k7:(("held" : Str) = "over")=False:=eq_false (by decide +kernel)
theorem k8:(("held" : Str) = "pressed")=False:=eq_false (by decide +kernel)
theorem k9:(("held" : Str) = "last")=False:=eq_false (by decide +kernel)
theorem k10:(("last" : Str) = "over")=False:=eq_false (by decide +kernel)
theorem k11:(("last" : Str) = "pressed")=False:=eq_false (by decide +kernel)
theorem k12:(("last" : Str) = "held")=False:=eq_false (by decide +kernel)
section
variable (c:Sc) (h:Hd) (l:Option (Nat×Int))
theorem Kq:bN (kvL c h l) (.inr "over")=some (.d (c.S h.trail)):=by simp [kvL,bN,k1,k2,k3,k4,k5,k6,k7,k8,k9,k10,k11,k12]
theorem Lq:bN (kvL c h l) (.inr "pressed")=some (.d (oL c h.pr)):=by simp [kvL,bN,k1,k2,k3,k4,k5,k6,k7,k8,k9,k10,k11,k12]
theorem Kr:bN (kvL c h l) (.inr "held")=some (.d (kD c h.held)):=by simp [kvL,bN,k1,k2,k3,k4,k5,k6,k7,k8,k9,k10,k11,k12]
theorem Lr:bN (kvL c h l) (.inr "last")=some (.d (laD c l)):=by simp [kvL,bN,k1,k2,k3,k4,k5,k6,k7,k8,k9,k10,k11,k12]
theorem Lh (p:List Nat):pV (kvL c h l) (.inr "over") (.d (c.S p))=kvL c { h with trail:=p } l:=by simp [kvL,pV,k1,k2,k3,k4,k5,k6,k7,k8,k9,k10,k11,k12]
theorem Lg (p:Option (List Nat)):pV (kvL c h l) (.inr "pressed") (.d (oL c p))=kvL c { h with pr:=p } l:=by simp [kvL,pV,k1,k2,k3,k4,k5,k6,k7,k8,k9,k10,k11,k12]
theorem Lj (p:Option Nat):pV (kvL c h l) (.inr "held") (.d (kD c p))=kvL c { h with held:=p } l:=by simp [kvL,pV,k1,k2,k3,k4,k5,k6,k7,k8,k9,k10,k11,k12]
theorem Li (p:Option (Nat×Int)):pV (kvL c h l) (.inr "last") (.d (laD c p))=kvL c h p:=by simp [kvL,pV,k1,k2,k3,k4,k5,k6,k7,k8,k9,k10,k11,k12]
end
theorem pG {w:Wd} {i:Nat} {d:D} (h:w.η[i]?=some (some d)):mV i w=some (d,w.s):=by
 unfold mV;rw [h]
section
variable {c:Sc} {h:Hd} {l:Option (Nat×Int)} {w:Wd} {i a:Nat} (hi:w.η[i]?=some (some (.r a))) (hc:Lo c w.s a h l)
include hi hc
theorem Jr:cQ (mV i) (mP (eC (.str "over"))) w=some (.d (c.S h.trail),w.s):=pH (pG hi) rfl rfl hc (Kq c h l)
theorem Jq:cQ (mV i) (mP (eC (.str "pressed"))) w=some (.d (oL c h.pr),w.s):=pH (pG hi) rfl rfl hc (Lq c h l)
theorem Js:cQ (mV i) (mP (eC (.str "held"))) w=some (.d (kD c h.held),w.s):=pH (pG hi) rfl rfl hc (Kr c h l)
theorem LC:cQ (mV i) (mP (eC (.str "last"))) w=some (.d (laD c l),w.s):=pH (pG hi) rfl rfl hc (Lr c h l)
end
section
variable {c:Sc} {h:Hd} {l:Option (Nat×Int)} {w:Wd} {i a:Nat} {s:Sto} {e:MF} (hi:w.η[i]?=some (some (.r a))) (hc:Lo c s a h l)
include hi hc
theorem Hx {p:List Nat} (h0:e w=some (.d (c.S p),s)):gW (mV i) (mP (eC (.str "over"))) e w=some (.nx ⟨w.η,s.set a (.dct (kvL c { h with trail:=p } l))⟩):=by
 rw [uf h0 (pG (w:=⟨w.η,s⟩) hi) rfl rfl hc (show 4≤3000000 by decide),Lh]
theorem DQ {p:Option (List Nat)} (h0:e w=some (.d (oL c p),s)):gW (mV i) (mP (eC (.str "pressed"))) e w=some (.nx ⟨w.η,s.set a (.dct (kvL c { h with pr:=p } l))⟩):=by
 rw [uf h0 (pG (w:=⟨w.η,s⟩) hi) rfl rfl hc (show 4≤3000000 by decide),Lg]
theorem DS {p:Option Nat} (h0:e w=some (.d (kD c p),s)):gW (mV i) (mP (eC (.str "held"))) e w=some (.nx ⟨w.η,s.set a (.dct (kvL c { h with held:=p } l))⟩):=by
 rw [uf h0 (pG (w:=⟨w.η,s⟩) hi) rfl rfl hc (show 4≤3000000 by decide),Lj]
theorem Hy {p:Option (Nat×Int)} (h0:e w=some (.d (laD c p),s)):gW (mV i) (mP (eC (.str "last"))) e w=some (.nx ⟨w.η,s.set a (.dct (kvL c h p))⟩):=by
 rw [uf h0 (pG (w:=⟨w.η,s⟩) hi) rfl rfl hc (show 4≤3000000 by decide),Li]
end
theorem BT:∀ (k:Nat) (a b:List Nat),k≤(shN a b).length→shN (a.drop k) (b.drop k)=(shN a b).drop k
 | 0,a,b,_=>by simp
 | k+1,[],b,h=>by simp [shN] at h
 | k+1,x::xs,[],h=>by simp [shN] at h
 | k+1,x::xs,y::ys,h=>by
  by_cases e:x=y
  ·have es:shN (x::xs) (y::ys)=x::shN xs ys:=by rw [shN,if_pos e]
   rw [es,L1] at h;rw [es,NI,NI,NI];exact BT k xs ys (by omega)
  ·have es:shN (x::xs) (y::ys)=[]:=by rw [shN,if_neg e]
   rw [es] at h;simp at h
theorem zO:∀ a b:List Nat,(shN a b).length≤b.length
 | [],_=>by simp [shN]
 | x::xs,[]=>by simp [shN]
 | x::xs,y::ys=>by
  unfold shN
  split
  ·have:=zO xs ys
   simp; omega
  ·simp
theorem FX (a b:List Nat):(decide (a.take 1=b.take 1)&&!decide (b.take 1=[]))=decide (0 < (shN a b).length):=by
 cases a with
 | nil=>cases b <;> simp [shN]
 | cons x xs =>
  cases b with
  | nil=>simp [shN]
  | cons y ys =>
   by_cases e:x=y
   ·subst e; simp [shN]
   ·simp [shN,e]
theorem Hs {c:Sc} (l:List Nat) (i:Nat) (hi:i≤l.length):pSl (c.S l) (some (i:Int)) (some ((i:Int)+1))=some (c.S ((l.drop i).take 1)):=by
 show some (PyData.list _)=_;rw [wn,show ((i:Int)+1)=(i:Int)+((1:Nat):Int) by omega,GY _ _ _ hi]; rfl
noncomputable abbrev Kt:MTF:=mCh pEq pNe (mSl (cQ (mV 0) (mP (eC (.str "over")))) (pS (eV 2)) (pS (L2.PU.l2 aG (eV 2) (eC (.int 1))))) (mP (eSl (eV 1) (pS (eV 2)) (pS (L2.PU.l2 aG (eV 2) (eC (.int 1)))))) (mP (oE (fun η=>(aN η).bind gL)))
section
variable {c:Sc} {s:Sto} {a:Nat} {h:Hd} {l:Option (Nat×Int)}
theorem Ks (ok:c.Ok) (hc:Lo c s a h l) {p:List Nat} {k:Nat} (hk:k≤(shN h.trail p).length):Kt ⟨[some (.r a),some (.d (c.S p)),some (.d (.int (k:Nat))),none],s⟩=some (decide (k < (shN h.trail p).length),s):=by
 have l1:=L9 hk (yI h.trail p);have l2:=L9 hk (zO h.trail p);have e1:mSl (cQ (mV 0) (mP (eC (.str "over")))) (pS (eV 2)) (pS (L2.PU.l2 aG (eV 2) (eC (.int 1)))) ⟨[some (.r a),some (.d (c.S p)),some (.d (.int (k:Nat))),none],s⟩=some (.d (c.S ((h.trail.drop k).take 1)),s) :=
  Bk (Jr (w:=⟨[some (.r a),some (.d (c.S p)),some (.d (.int (k:Nat))),none],s⟩) (i:=0) rfl hc) rfl (oQ rfl) (oQ (i:=(k:Int)+1) (ae rfl rfl rfl)) (Hs _ _ l1)
 have e2:mP (eSl (eV 1) (pS (eV 2)) (pS (L2.PU.l2 aG (eV 2) (eC (.int 1))))) ⟨[some (.r a),some (.d (c.S p)),some (.d (.int (k:Nat))),none],s⟩=some (.d (c.S ((p.drop k).take 1)),s) :=
  au (qV rfl (oQ rfl) (oQ (i:=(k:Int)+1) (ae rfl rfl rfl)) (Hs _ _ l2))
 have e3:mP (oE (fun η=>(aN η).bind gL)) ⟨[some (.r a),some (.d (c.S p)),some (.d (.int (k:Nat))),none],s⟩=some (.d (c.S []),s):=au (cx (eS (by simp)))
 have:=IU (o:=pEq) (o':=pNe) e1 e2 e3 (HC ok _ _) (ok.neS _ _)
 rw [FX,BT k _ _ hk,Mh] at this;rw [show decide (k < (shN h.trail p).length)=decide (0 < (shN h.trail p).length - k) by congr 1; exact propext ⟨fun _=>by omega,fun _=>by omega⟩];exact this
theorem EG (ok:c.Ok) (hc:Lo c s a h l) {p:List Nat}:∀ (n k:Nat),k≤(shN h.trail p).length→(shN h.trail p).length < n+k→mWh Kt (bI 2 (mP (L2.PU.l2 aG (eV 2) (eC (.int 1))))) n ⟨[some (.r a),some (.d (c.S p)),some (.d (.int (k:Nat))),none],s⟩=some (.nx ⟨[some (.r a),some (.d (c.S p)),some (.d (.int ((shN h.trail p).length:Nat))),none],s⟩)
 | 0,k,h1,h2=>by omega
 | n+1,k,h1,h2=>by
  have e:=Ks ok hc h1;by_cases hk:k < (shN h.trail p).length
  ·rw [show decide (k < (shN h.trail p).length)=true from decide_eq_true hk] at e;rw [Ln e (w':=⟨[some (.r a),some (.d (c.S p)),some (.d (.int ((k+1:Nat):Int))),none],s⟩) (aY (au (ae rfl rfl rfl)))];exact EG ok hc n (k+1) hk (by omega)
  ·rw [show decide (k < (shN h.trail p).length)=false from decide_eq_false hk] at e;rw [Lp e,show k=(shN h.trail p).length by omega]
theorem Kf {η:En}:l1 pA (eC (.int 1)) η=some (.int (-1)):=rfl
theorem FH (ok:c.Ok) (hc:Lo c s a h l) {p:List Nat} (ht:h.trail.length≤7) (hp:p.length≤7):bf [.r a,.d (c.S p)] s=some (.d (Rw c (lead h p)),(s++[Cell.fz (Rw c (wr "leave" (h.trail.drop (shN h.trail p).length).reverse))]).set a (.dct (kvL c { h with trail:=p } l))):=by
 have hs:=yI h.trail p;have ha:=fP hc;refine bJ rfl (show oq ⟨[some (.r a),some (.d (c.S p)),none,none],s⟩=_ from ?_);refine ai (w1:=⟨[some (.r a),some (.d (c.S p)),some (.d (.int ((0:Nat):Int))),none],s⟩) (aY (au rfl)) ?_;refine ai (EG ok hc 13 0 (Mz _) (by omega)) ?_;generalize hn:(shN h.trail p).length=n at *;have e1:iM (mRv (mSl (cQ (mV 0) (mP (eC (.str "over")))) (pS (eV 2)) pN) (l1 pA (eC (.int 1)))) ⟨[some (.r a),some (.d (c.S p)),some (.d (.int (n:Nat))),none],s⟩=some ((h.trail.drop n).reverse.map c.s,s):=by
  rw [Nv];exact CB (IS (Bk (Jr (w:=⟨[some (.r a),some (.d (c.S p)),some (.d (.int (n:Nat))),none],s⟩) (i:=0) rfl hc) rfl (oQ rfl) rfl (zd _ _)) rfl Kf)
 have e2:=ub (mp:=[none]) (ks:=[0]) (t:=tgN 0) (p:=uJ) (f:=mP (lA (fun ds=>if ds.length≤sizeLine then some (.tuple ds) else none) (aC (eC (.str "leave")) (aC (eV 0) aN)))) c.s (fun _=>true) (fun x=>rD c ("leave", x)) (fun x=>[some (.d (c.s x))]) _ e1 (by rw [Mq,Mh]; omega) fun x hx acc =>
  ⟨i6 (w:=⟨[none],_⟩) (by show 0 < 1; decide),rfl,fun _=>au (CW "leave" x _ rfl)⟩
 rw [List.filter_eq_self.mpr (fun _ _=>rfl)] at e2;have e3:=EA e2;have e4:mP (oE (bH [none] (lI asL (eSl (eV 1) (pS (eV 2)) pN)) (tgN 0) dM (lA (fun ds=>if ds.length≤sizeLine then some (.tuple ds) else none) (aC (eC (.str "enter")) (aC (eV 0) aN))))) ⟨[some (.r a),some (.d (c.S p)),some (.d (.int (n:Nat))),none],s++[.fz (.list ((h.trail.drop n).reverse.map fun x=>rD c ("leave", x)))]⟩=some (.d (Rw c (wr "enter" (p.drop n))),s++[.fz (.list ((h.trail.drop n).reverse.map fun x=>rD c ("leave", x)))]):=by
  refine au (cx (fZ (ds:=(p.drop n).map c.s) (lU (qV rfl (oQ rfl) rfl (zd _ _)) rfl) (by rw [LO,Mh]; omega) ?_));unfold wr;rw [Ml];exact lZ (η:=[.un]) c.s (fun x=>rD c ("enter", x)) _ fun x hx=>⟨[.val (c.s x)],rfl,CW "enter" x _ rfl⟩
 have er:(PyData.list ((h.trail.drop n).reverse.map fun x=>rD c ("leave", x)))=Rw c (wr "leave" (h.trail.drop n).reverse):=by
  unfold Rw wr;rw [Ml]; rfl
 rw [er] at e3 e4;have el:lead h p=wr "leave" (h.trail.drop n).reverse++wr "enter" (p.drop n):=by unfold lead; rw [hn]
 have e5:=ln (o:=aG) e3 e4 rfl rfl (uu (by unfold wr; rw [LO,Mq,Mh]; omega) (by unfold wr; rw [LO,Mh]; omega));rw [← el] at e5;refine ai (aY e5) ?_;have hc2:Lo c (s++[Cell.fz (Rw c (wr "leave" (h.trail.drop n).reverse))]) a h l:=by
  show (s++_)[a]?=_;rw [LR ha]; exact hc
 refine ai (Hx (w:=⟨[some (.r a),some (.d (c.S p)),some (.d (.int (n:Nat))),some (.d (Rw c (lead h p)))],_⟩) (i:=0) rfl hc2 (au rfl)) ?_;exact bE (au rfl)
end
noncomputable abbrev Fr (s s':Sto) (a:Nat):Prop:=Stp s s' (fun i=>i=a) (fun i=>i=a)
theorem ze {s s':Sto} {a:Nat} {x:Cell} (h:Fr s s' a):Fr s (s'.set a x) a:=h.trans (lF rfl)
theorem uZ {s s':Sto} {a:Nat} (t:Sto) (h:Fr s s' a):Fr s (s'++t) a:=h.trans (nG t)
theorem Lo.app {c:Sc} {s:Sto} {a:Nat} {h:Hd} {l:Option (Nat×Int)} (hc:Lo c s a h l) (t:Sto):Lo c (s++t) a h l:=by
 show (s++t)[a]?=_;rw [LR (fP hc)]; exact hc
theorem Lo.set {c:Sc} {s:Sto} {a:Nat} {h:Hd} {l:Option (Nat×Int)} (hc:Lo c s a h l) (h':Hd) (l':Option (Nat×Int)):Lo c (s.set a (.dct (kvL c h' l'))) a h' l':=yK hc
noncomputable abbrev Ev (c:Sc) (a:Nat) (way mo x y:Int) (s6 s7 s8:Option D):MEn:=[some (.d c.d),some (.r a),some (.d (.int way)),some (.d (.int mo)),some (.d (.int x)),some (.d (.int y)),s6,s7,s8]
section
variable {c:Sc} {h:Hd} {l:Option (Nat×Int)} {w:Wd} {i a:Nat}
theorem uY (hi:w.η[i]?=some (some (.r a))) (hc:Lo c w.s a h l) (neg:Bool):dP (iD neg) (cQ (mV i) (mP (eC (.str "held")))) (mP (eC .none)) w=some (.d (.bool (if neg then h.held.isSome else h.held.isNone)),w.s):=by
 refine jl (Js hi hc) rfl rfl rfl ?_ rfl;cases h.held <;> cases neg <;> rfl
theorem DZ (hi:w.η[i]?=some (some (.r a))) (hc:Lo c w.s a h l) (neg:Bool):dP (iD neg) (cQ (mV i) (mP (eC (.str "pressed")))) (mP (eC .none)) w=some (.d (.bool (if neg then h.pr.isSome else h.pr.isNone)),w.s):=by
 refine jl (Jq hi hc) rfl rfl rfl ?_ rfl;cases h.pr <;> cases neg <;> rfl
noncomputable abbrev H0 (wd:Str) (i:Nat):MF:=mq (maC (mP (eC (.str wd))) (maC (cQ (mV i) (mP (eC (.str "held")))) maN))
theorem KZ (wd:Str) (hi:w.η[i]?=some (some (.r a))) (hc:Lo c w.s a h l):H0 wd i w=some (.d (.tuple [.str wd,kD c h.held]),w.s) :=
 ue (aO (au rfl) (aO (Js (w:=⟨w.η,w.s⟩) hi hc) rfl)) rfl (by simp)
theorem Ko (wd:Str) (hi:w.η[i]?=some (some (.r a))) (hc:Lo c w.s a h l):xT (maC (H0 wd i) maN) w=some (.r w.s.length,w.s++[.lst [.d (.tuple [.str wd,kD c h.held])]]) :=
 Cr (aO (KZ wd hi hc) rfl) (by simp)
noncomputable abbrev F8 (wd:Str) (i:Nat):MF:=yk (xT (maC (H0 wd i) maN)) (mCB qA (maC (dP (iD true) (cQ (mV i) (mP (eC (.str "held")))) (mP (eC .none))) maN))
theorem J4 (wd:Str) (hi:w.η[i]?=some (some (.r a))) (hc:Lo c w.s a h l):F8 wd i w=some (.r (w.s++[Cell.lst [.d (.tuple [.str wd,kD c h.held])]]).length,(w.s++[Cell.lst [.d (.tuple [.str wd,kD c h.held])]])++[.lst ((tell h wd).map fun r=>D.d (rD c r))]):=by
 have e0:mCB qA (maC (dP (iD true) (cQ (mV i) (mP (eC (.str "held")))) (mP (eC .none))) maN) ⟨w.η,w.s++[Cell.lst [.d (.tuple [.str wd,kD c h.held])]]⟩=some (.d (.int (if h.held.isSome then 1 else 0)),w.s++[Cell.lst [.d (.tuple [.str wd,kD c h.held])]]) :=
  ED (xs:=[.bool h.held.isSome]) (aO (uY (w:=⟨w.η,w.s++[Cell.lst [.d (.tuple [.str wd,kD c h.held])]]⟩) hi (hc.app _) true) rfl) rfl (by cases h.held <;> rfl)
 have e:=Ez (b:=h.held.isSome) (Ko wd hi hc) e0 (ur _ _);rw [show F8 wd i w=_ from e];unfold tell;cases h.held <;> rfl
theorem fzH (wd:Str) (hi:w.η[i]?=some (some (.r a))) (hc:Lo c w.s a h l):mFz (F8 wd i) w=some (.d (Rw c (tell h wd)),(w.s++[Cell.lst [.d (.tuple [.str wd,kD c h.held])]])++[.fz (Rw c (tell h wd))]):=EA (J4 wd hi hc)
end
theorem GK {c:Sc} (p:List Nat):pIx (.list (p.map c.s++[.none])) (.int (-1 - (if p≠[] then 1 else 0)))=some (kD c p.getLast?):=by
 cases p with
 | nil=>rfl
 | cons a r =>
  rw [if_pos (by simp)];show atI ((a::r).map c.s++[PyData.none]) (-2)=_;unfold atI ixN;rw [if_neg (by decide),if_pos (by rw [LQ,LO,L1]; simp; omega),LM];rw [show (-2+(((a::r).map c.s++[PyData.none]).length:Int)).toNat=(a::r).length - 1 by rw [LQ,LO,L1]; simp; omega];rw [LR (by rw [LO,L1]; omega),L8,← List.getLast?_eq_getElem?,Nd (by simp)];rfl
section
variable {c:Sc} {s:Sto} {a:Nat} {h:Hd} {l:Option (Nat×Int)} {mo x y:Int} {p:List Nat}
theorem ev6 (hP:ax [c.d,.int x,.int y]=some (c.S p)) {way:Int} {r:Option MOut} {g:Wd→Option MOut} (h2:g ⟨Ev c a way mo x y (some (.d (c.S p))) none none,s⟩=r):aH (bI 6 (mP (lA ax (aC (eV 0) (aC (eV 4) (aC (eV 5) aN)))))) g ⟨Ev c a way mo x y none none none,s⟩=r :=
 ai (aY (au (aW (af rfl (af rfl (af rfl rfl))) hP))) h2
theorem KU (ok:c.Ok) (hc:Lo c s a h l) (hP:ax [c.d,.int x,.int y]=some (c.S p)) (ht:h.trail.length≤7) (hp:p.length≤7) :
  ∃ s',bz [.d c.d,.r a,.d (.int 0),.d (.int mo),.d (.int x),.d (.int y)] s=some (.d (Rw c (mvR h p)),s')∧Lo c s' a (mvH h p) l∧Fr s s' a:=by
 cases hh:h.held with
 | some k =>
  have e1:mvR h p=tell h "move" := by unfold mvR; rw [if_neg (by rw [hh]; simp)]
  have e2:mvH h p=h:=by unfold mvH; rw [if_neg (by rw [hh]; simp)]
  have e3:Rw c (tell h "move")=.list [PyData.tuple [.str "move", kD c h.held]]:=by unfold tell; rw [hh]; rfl
  rw [e1,e2];refine ⟨s++[.fz (Rw c (tell h "move"))],?_,hc.app _,nG _⟩;refine bJ rfl (show b7 ax bf ⟨Ev c a 0 mo x y none none none,s⟩=_ from ev6 hP ?_);refine hG (mG (s:=s) (bB (bm (ae rfl rfl (df _ _)))) (hG (mG (s:=s) (iJ ?_) (bE ?_))))
  ·exact (uY (i:=1) (w:=⟨Ev c a 0 mo x y (some (.d (c.S p))) none none,s⟩) rfl hc true).trans (by rw [hh]; rfl)
  ·rw [e3];exact EA (l:=[PyData.tuple [.str "move", kD c h.held]]) (Y:=fun d=>d) (Ko (w:=⟨Ev c a 0 mo x y (some (.d (c.S p))) none none,s⟩) "move" rfl hc)
 | none =>
  have e1:mvR h p=lead h p++wr "move" (p.drop (p.length - 1)):=by unfold mvR; rw [if_pos hh]
  have e2:mvH h p={ h with trail:=p }:=by unfold mvH; rw [if_pos hh]
  rw [e1,e2];refine ⟨_,?_,(hc.app [Cell.fz (Rw c (wr "leave" (h.trail.drop (shN h.trail p).length).reverse))]).set { h with trail:=p } l,ze (nG _)⟩;refine bJ rfl (show b7 ax bf ⟨Ev c a 0 mo x y none none none,s⟩=_ from ev6 hP ?_);refine hG (mG (s:=s) (bB (bm (ae rfl rfl (df _ _)))) (ai (j7 (s:=s) (iJ ?_)) (bE ?_)))
  ·exact (uY (i:=1) (w:=⟨Ev c a 0 mo x y (some (.d (c.S p))) none none,s⟩) rfl hc true).trans (by rw [hh]; rfl)
  ·refine ln (kF (aO rfl (aO (au rfl) rfl)) (FH ok hc ht hp)) (au (cx (fZ (ds:=(p.drop (p.length - 1)).map c.s) (lU (qV rfl (oQ rfl) rfl (Bl _)) rfl) (by rw [LO,Mh]; omega) ?_))) rfl rfl (uu (m:=wr "move" (p.drop (p.length - 1))) (by have:=oW ht hp; omega) (by unfold wr; rw [LO,Mh]; omega));unfold wr;rw [Ml];exact lZ (η:=[.un]) c.s (fun x=>rD c ("move", x)) _ fun x hx=>⟨[.val (c.s x)],rfl,CW "move" x _ rfl⟩
theorem KS (ok:c.Ok) (hc:Lo c s a h l) (hP:ax [c.d,.int x,.int y]=some (c.S p)) (ht:h.trail.length≤7) (hp:p.length≤7) :
  ∃ s',bz [.d c.d,.r a,.d (.int 1),.d (.int mo),.d (.int x),.d (.int y)] s=some (.d (Rw c (dnR h p)),s')∧Lo c s' a (dnH h p) l∧Fr s s' a:=by
 cases hpr:h.pr with
 | some q =>
  have e1:dnR h p=[]:=by unfold dnR; rw [if_neg (by rw [hpr]; simp)]
  have e2:dnH h p=h:=by unfold dnH; rw [if_neg (by rw [hpr]; simp)]
  rw [e1,e2];refine ⟨s,?_,hc,Stp.refl⟩;refine bJ rfl (show b7 ax bf ⟨Ev c a 1 mo x y none none none,s⟩=_ from ev6 hP ?_);refine ai (j7 (s:=s) (bB (bm (ae rfl rfl (df _ _))))) (hG (mG (s:=s) (bB (bm (ae rfl rfl (df _ _)))) ?_));refine ai (aY (au (cx (eS (by simp))))) (hG (mG (s:=s) (iJ ?_) (bE (au (cx (eS (by simp)))))));exact (DZ (i:=1) (w:=⟨Ev c a 1 mo x y (some (.d (c.S p))) (some (.d (.list []))) none,s⟩) rfl hc true).trans (by rw [hpr]; rfl)
 | none =>
  have hc1:=hc.set { h with pr:=some p } l;have hd:dnH h p=v0 h p:=by unfold dnH; rw [if_pos hpr]
  have st0:∀ (r:Option MOut) (g:Wd→Option MOut),g ⟨Ev c a 1 mo x y (some (.d (c.S p))) (some (.d (.list []))) none,s.set a (.dct (kvL c { h with pr:=some p } l))⟩=r→(aH (bI 7 (mP (oE (fun η=>(aN η).bind gL))))
    (aH (mIf (mB (dP (iD true) (cQ (mV 1) (mP (eC (.str "pressed")))) (mP (eC .none)))) (fU (mP (oE (fun η=>(aN η).bind gL)))) mNx)
    (aH (gW (mV 1) (mP (eC (.str "pressed"))) (mP (eV 6))) g))) ⟨Ev c a 1 mo x y (some (.d (c.S p))) none none,s⟩=r:=fun r g hg=>by
   refine ai (aY (au (cx (eS (by simp))))) (ai (j7 (s:=s) (iJ ?_)) (ai (DQ (w:=⟨Ev c a 1 mo x y (some (.d (c.S p))) (some (.d (.list []))) none,s⟩) (i:=1) (p:=some p) rfl hc (au rfl)) hg));exact (DZ (i:=1) (w:=⟨Ev c a 1 mo x y (some (.d (c.S p))) (some (.d (.list []))) none,s⟩) rfl hc true).trans (by rw [hpr]; rfl)
  cases hh:h.held with
  | some k =>
   have e0:v0 h p={ h with pr:=some p }:=by unfold v0; rw [if_neg (by rw [hh]; simp)]
   have e1:dnR h p=tell { h with pr:=some p } "down" := by unfold dnR; rw [if_pos hpr,if_neg (by rw [hh]; simp),e0]; rfl
   rw [e1,hd,e0];refine ⟨_,?_,(hc1.app [Cell.lst [.d (.tuple [.str "down", kD c h.held])]]).app [.fz (Rw c (tell { h with pr:=some p } "down"))],uZ _ (uZ _ (lF rfl))⟩;refine bJ rfl (show b7 ax bf ⟨Ev c a 1 mo x y none none none,s⟩=_ from ev6 hP ?_);refine ai (j7 (s:=s) (bB (bm (ae rfl rfl (df _ _))))) (hG (mG (s:=s) (bB (bm (ae rfl rfl (df _ _)))) (st0 _ _ ?_)));refine ai (j7 (s:=s.set a (.dct (kvL c { h with pr:=some p } l))) (iJ ?_)) (bE ?_)
   ·exact (uY (i:=1) (w:=⟨Ev c a 1 mo x y (some (.d (c.S p))) (some (.d (.list []))) none,_⟩) rfl hc1 false).trans (by show some (D.d (.bool h.held.isNone),_)=_; rw [hh]; rfl)
   ·exact ln (au rfl) (fzH (h:={ h with pr:=some p }) (i:=1) (w:=⟨Ev c a 1 mo x y (some (.d (c.S p))) (some (.d (.list []))) none,_⟩) "down" rfl hc1) rfl rfl (uu (l:=[]) (m:=tell { h with pr:=some p } "down") (by simp) (by have:=oH { h with pr:=some p } "down"; omega))
  | none =>
   have e0:v0 h p={ h with pr:=some p,trail:=p,held:=p.getLast? }:=by unfold v0; rw [if_pos hh]
   have e1:dnR h p=lead { h with pr:=some p } p++tell (v0 h p) "down" := by unfold dnR; rw [if_pos hpr,if_pos hh]
   rw [e1,hd,e0];have hc2:=(hc1.app [Cell.fz (Rw c (wr "leave" (h.trail.drop (shN h.trail p).length).reverse))]).set { h with pr:=some p,trail:=p } l;have hc3:=hc2.set { h with pr:=some p,trail:=p,held:=p.getLast? } l;refine ⟨_,?_,(hc3.app [Cell.lst [.d (.tuple [.str "down", kD c p.getLast?])]]).app [.fz (Rw c (tell { h with pr:=some p,trail:=p,held:=p.getLast? } "down"))],uZ _ (uZ _ (ze (ze (uZ _ (lF rfl)))))⟩;refine bJ rfl (show b7 ax bf ⟨Ev c a 1 mo x y none none none,s⟩=_ from ev6 hP ?_);refine ai (j7 (s:=s) (bB (bm (ae rfl rfl (df _ _))))) (hG (mG (s:=s) (bB (bm (ae rfl rfl (df _ _)))) (st0 _ _ ?_)));have ei:qA [PyData.bool (!decide (p=[]))]=some (PyData.int (if p≠[] then 1 else 0)):=by
    by_cases e:p=[] <;> simp [qA,e]
   have e7:=DS (w:=⟨Ev c a 1 mo x y (some (.d (c.S p))) (some (.d (Rw c (lead { h with pr:=some p } p)))) none,_⟩) (i:=1) (p:=p.getLast?) (e:=mP (L2.PU.l2 pIx (L2.PU.l2 aG (eV 6) (oE (fun η=>((aC (eC .none) aN) η).bind gL))) (L2.PU.l2 tN (l1 pA (eC (.int 1))) (lA qA (aC (L2.PU.l2 pNe (eV 6) (oE (fun η=>(aN η).bind gL))) aN))))) rfl hc2
    (au (ae (ae rfl (cx (eS (by simp))) (AY (a:=p.map c.s) (b:=[.none]) (by rw [LO]; simp; omega))) (ae rfl (aW (af (ae rfl (cx (eS (by simp))) (ok.neS p [])) rfl) ei) rfl) (GK p)))
   refine ai (mG (s:=s.set a (.dct (kvL c { h with pr:=some p } l))) (iJ ?_) (ai (aY (kF (aO rfl (aO (au rfl) rfl)) (FH ok hc1 ht hp))) e7)) (bE ?_)
   ·exact (uY (i:=1) (w:=⟨Ev c a 1 mo x y (some (.d (c.S p))) (some (.d (.list []))) none,_⟩) rfl hc1 false).trans (by show some (D.d (.bool h.held.isNone),_)=_; rw [hh]; rfl)
   ·exact ln (au rfl) (fzH (h:={ h with pr:=some p,trail:=p,held:=p.getLast? }) (i:=1) (w:=⟨Ev c a 1 mo x y (some (.d (c.S p))) (some (.d (Rw c (lead { h with pr:=some p } p)))) none,_⟩) "down" rfl hc3) rfl rfl (uu (by have:=oW (h:={ h with pr:=some p }) ht hp; omega) (by have:=oH { h with pr:=some p,trail:=p,held:=p.getLast? } "down"; omega))
end
theorem E2 (f:Nat→PyData):∀ (p:List Nat) (k:Nat),nv (p.map f) k=(p.zipIdx k).map fun e=>PyData.tuple [.int (e.2:Nat),f e.1]
 | [],_=>rfl
 | x::r,k=>by
  rw [LW,Nf,LW,← E2 f r (k+1)];rfl
theorem zB:∀ (p q:List Nat) (k:Nat) (P:Nat×Nat→Bool),(∀ e∈p.zipIdx k,P e=decide (p.take (e.2 - k+1)=q.take (e.2 - k+1)))→((p.zipIdx k).filter P).map (·.1)=shN q p
 | [],q,k,P,_=>by cases q <;> rfl
 | x::r,[],k,P,h=>by
  have hz:((x::r).zipIdx k).filter P=[]:=by
   rw [List.filter_eq_nil_iff];intro e he;rw [h e he]
   simp
  rw [hz]; rfl
 | x::r,y::t,k,P,h=>by
  have h0:=h (x,k) (by rw [Nf]; exact L7);rw [Nf];by_cases e:x=y
  ·subst e;have ih:=zB r t (k+1) P fun e he=>by
    have hk:=(List.mk_mem_zipIdx_iff_le_and_getElem?_sub (x:=e.1) (i:=e.2)).mp he;rw [h e (by rw [Nf]; exact LX _ he),show e.2 - k+1=(e.2 - (k+1)+1)+1 by omega,Ni,Ni]
    simp
   have hp:P (x,k)=true:=by rw [h0]; simp
   rw [Nr hp,LW,ih,shN,if_pos rfl]
  ·have hz:(((x,k)::r.zipIdx (k+1))).filter P=[]:=by
    rw [← Nf,List.filter_eq_nil_iff];intro e' he;rw [h e' he,Ni,Ni];simp [e]
   rw [hz,shN,if_neg (fun z=>e z.symm)]; rfl
noncomputable def St (s0:Sto) (x y z:Cell):Sto:=s0++[x,y,z]
section
variable {s0:Sto} {x y z v:Cell} {L a:Nat} (hL:s0.length=L)
include hL
theorem St1:(St s0 x y z)[L+1]?=some y:=by subst hL; simp [St]
theorem St2:(St s0 x y z)[L+2]?=some z:=by subst hL; simp [St]
theorem Ss1:(St s0 x y z).set (L+1) v=St s0 x v z:=by subst hL; simp [St]
theorem Ss2:(St s0 x y z).set (L+2) v=St s0 x y v:=by subst hL; simp [St]
theorem Ssa (h:a < L):(St s0 x y z).set a v=St (s0.set a v) x y z:=by
 subst hL;unfold St;rw [List.set_append_left _ _ h]
end
theorem JN {c:Sc} (l:List Nat) (k:Nat):pSl (c.S l) none (some ((k:Int)+1))=some (c.S (l.take (k+1))):=by
 show some (PyData.list _)=_;rw [wn,show ((k:Int)+1)=((k+1:Nat):Int) by omega,Jl]; rfl
theorem EN {c:Sc} {l:List Nat} {b:Nat} (h:l.getLast?=some b):pIx (c.S l) (.int (-1))=some (c.s b):=by
 have:=Cv (c:=c) l
 rw [h] at this;cases l with
 | nil=>cases h
 | cons x r=>rw [if_pos (by simp)] at this; exact this
theorem tg2 {s:Sto} {η:MEn} {x y:PyData} (h:2≤η.length):mTg [0,1] (tgT (bU (tgN 0) (bU (tgN 1) kn))) ⟨η,s⟩ (.tuple [x,y])=some ⟨(η.set 0 (some (.d x))).set 1 (some (.d y)),s⟩:=by
 match η,h with
 | e0::e1::r,_=>rfl
section
variable {c:Sc} {s:Sto} {a:Nat} {h:Hd} {l:Option (Nat×Int)} {mo x y:Int} {p q:List Nat}
noncomputable abbrev HN:MF:=mcL [none,none,some 1,some 6] (iPu (fun η=>((aC (eV 6) aN) η).bind enL)) [0,1] (tgT (bU (tgN 0) (bU (tgN 1) kn))) (mB (dP pEq (mP (eSl (eV 3) pN (pS (L2.PU.l2 aG (eV 0) (eC (.int 1)))))) (mSl (cQ (mV 2) (mP (eC (.str "pressed")))) pN (pS (L2.PU.l2 aG (eV 0) (eC (.int 1))))))) (mP (eV 1))
theorem G4 (ok:c.Ok) (hc:Lo c s a h l) (hq:h.pr=some q) (hp:p.length≤7) {s7 s8:Option D}:HN ⟨Ev c a 2 mo x y (some (.d (c.S p))) s7 s8,s⟩=some (.r s.length,s++[.lst ((shN q p).map fun x=>D.d (c.s x))]):=by
 have h1:iPu (fun η=>((aC (eV 6) aN) η).bind enL) ⟨Ev c a 2 mo x y (some (.d (c.S p))) s7 s8,s⟩=some ((p.zipIdx).map fun e=>PyData.tuple [.int (e.2:Nat),c.s e.1],s):=sU (eN (af rfl rfl) (by show some (nv (p.map c.s) 0)=_; rw [E2]));have e:=ub (mp:=[none,none,some 1,some 6]) (ks:=[0,1]) (t:=tgT (bU (tgN 0) (bU (tgN 1) kn))) (p:=mB (dP pEq (mP (eSl (eV 3) pN (pS (L2.PU.l2 aG (eV 0) (eC (.int 1)))))) (mSl (cQ (mV 2) (mP (eC (.str "pressed")))) pN (pS (L2.PU.l2 aG (eV 0) (eC (.int 1))))))) (f:=mP (eV 1)) (fun e:Nat×Nat=>PyData.tuple [.int (e.2:Nat),c.s e.1]) (fun e=>decide (p.take (e.2+1)=q.take (e.2+1))) (fun e=>c.s e.1) (fun e=>[some (.d (.int (e.2:Nat))),some (.d (c.s e.1)),some (.r a),some (.d (c.S p))]) p.zipIdx h1 (by rw [List.length_zipIdx]; omega) fun e he acc=>by
  refine ⟨tg2 (η:=[none,none,some (.r a),some (.d (c.S p))]) (by simp),iJ (jl (au (qV rfl rfl (oQ (i:=(e.2:Int)+1) (ae rfl rfl rfl)) (JN _ _))) (Bk (Jq (i:=2) (w:=⟨[some (.d (.int (e.2:Nat))),some (.d (c.s e.1)),some (.r a),some (.d (c.S p))],s++[.lst acc]⟩) rfl (hc.app _)) (show pD _ (.d (oL c h.pr))=some (c.S q) by rw [hq]; rfl) rfl (oQ (i:=(e.2:Int)+1) (ae rfl rfl rfl)) (JN _ _)) rfl rfl (HC ok _ _) rfl),fun _=>au rfl⟩
 have ez:(p.zipIdx.filter fun e=>decide (p.take (e.2+1)=q.take (e.2+1))).map (fun e=>D.d (c.s e.1))=(shN q p).map fun x=>D.d (c.s x):=by
  rw [← zB p q 0 (fun e=>decide (p.take (e.2+1)=q.take (e.2+1))) (fun e _=>rfl),Ml]; rfl
 rw [ez] at e;exact e
end
noncomputable abbrev U (c:Sc) (rows:List (Str×Nat)):Cell:=.lst (rows.map fun r=>D.d (rD c r))
noncomputable abbrev wZ:MF:=mOp pIx (mFz (mV 8)) (mP (l1 pA (eC (.int 1))))
noncomputable abbrev G6 (wd:Str):MF:=vA (mV 7) (mq (maC (mP (eC (.str wd))) (maC wZ maN)))
section
variable {c:Sc} {s0:Sto} {L a b:Nat} {X Y Z:Cell} {η:MEn} {both:List Nat} {rows:List (Str×Nat)} (hL:s0.length=L)
include hL
theorem Ku (hb:both.getLast?=some b) (hη:η[8]?=some (some (.r (L+2)))):wZ ⟨η,St s0 X Y (.lst (both.map fun x=>D.d (c.s x)))⟩=some (.d (c.s b),St s0 X Y (.fz (c.S both))):=by
 have e:=y0 (f:=mV 8) (pG (w:=⟨η,St s0 X Y (.lst (both.map fun x=>D.d (c.s x)))⟩) hη) (St2 hL) (sX c.s both);rw [Ss2 hL] at e;exact ln e (au rfl) rfl rfl (EN hb)
theorem EI (hb:both.getLast?=some b) (hη:η[8]?=some (some (.r (L+2)))):wZ ⟨η,St s0 X Y (.fz (c.S both))⟩=some (.d (c.s b),St s0 X Y (.fz (c.S both))):=by
 have e:mFz (mV 8) ⟨η,St s0 X Y (.fz (c.S both))⟩=some (.d (c.S both),St s0 X Y (.fz (c.S both))):=by
  unfold mFz;rw [pG (w:=⟨η,St s0 X Y (.fz (c.S both))⟩) hη,LM];dsimp only;rw [St2 hL]
 exact ln e (au rfl) rfl rfl (EN hb)
theorem Fo (wd:Str) (hl:wZ ⟨η,St s0 X (U c rows) Z⟩=some (.d (c.s b),St s0 X (U c rows) (.fz (c.S both)))) (h7:η[7]?=some (some (.r (L+1)))) (hr:rows.length≤1000):qk (G6 wd) ⟨η,St s0 X (U c rows) Z⟩=some (.nx ⟨η,St s0 X (U c (rows++[(wd,b)])) (.fz (c.S both))⟩):=by
 have eT:mq (maC (mP (eC (.str wd))) (maC wZ maN)) ⟨η,St s0 X (U c rows) Z⟩=some (.d (.tuple [.str wd,c.s b]),St s0 X (U c rows) (.fz (c.S both))):=ue (ds:=[.d (.str wd),.d (c.s b)]) (aO (au rfl) (aO hl rfl)) rfl (by simp);have e:=Ao (ds:=rows.map fun r=>D.d (rD c r)) (pG (w:=⟨η,St s0 X (U c rows) Z⟩) h7) (St1 hL) eT (St1 hL) (by rw [LO]; omega);rw [Ss1 hL] at e;refine wk (d:=.d .none) (show G6 wd _=_ from e.trans ?_);unfold U;rw [Mo]; rfl
end
theorem Lk {l:Option (Nat×Int)} {b:Nat} {mo:Int} (h:lDb l b mo=true):nxL l mo (some b)=none:=if_pos h
theorem Ll {l:Option (Nat×Int)} {b:Nat} {mo:Int} (h:lDb l b mo=false):nxL l mo (some b)=some (b,mo):=if_neg (by rw [h]; decide)
theorem Lx {l:Option (Nat×Int)} {b:Nat} {mo:Int} (h:lDb l b mo=true):AF l mo (some b)=[(("click" : Str),b),(("double" : Str),b)]:=if_pos h
theorem Ly {l:Option (Nat×Int)} {b:Nat} {mo:Int} (h:lDb l b mo=false):AF l mo (some b)=[(("click" : Str),b)]:=if_neg (by rw [h]; decide)
theorem LD {f g k:MTF} {w:Wd} {b1 b2 b3:Bool} (h1:f w=some (b1,w.s)) (h2:b1=true→g w=some (b2,w.s)) (h3:b1=true→b2=true→k w=some (b3,w.s)):oG f (oG g k) w=some (b1&&(b2&&b3),w.s):=by
 cases b1 with
 | false=>exact yE h1
 | true =>
  refine (yD h1 (r:=some (b2&&b3,w.s)) ?_);cases b2 with
  | false=>exact yE (w:=⟨w.η,w.s⟩) (h2 rfl)
  | true=>exact yD (w:=⟨w.η,w.s⟩) (h2 rfl) (h3 rfl rfl)
noncomputable abbrev JL:MTF:=oG (mB (dP (iD true) (cQ (mV 1) (mP (eC (.str "last")))) (mP (eC .none)))) (oG (mB (dP pEq (mOp pIx (cQ (mV 1) (mP (eC (.str "last")))) (mP (eC (.int 0)))) wZ)) (mB (dP pLe (mOp tN (mP (eV 3)) (mOp pIx (cQ (mV 1) (mP (eC (.str "last")))) (mP (eC (.int 1))))) (mP (eC (.int 20))))))
section
variable {c:Sc} {s0:Sto} {L a b:Nat} {X Y:Cell} {h:Hd} {l:Option (Nat×Int)} {mo x y:Int} {p both:List Nat} {rows:List (Str×Nat)}
noncomputable abbrev E8 (c:Sc) (a:Nat) (mo x y:Int) (p:List Nat) (L:Nat):MEn:=Ev c a 2 mo x y (some (.d (c.S p))) (some (.r (L+1))) (some (.r (L+2)))
theorem Ia (ok:c.Ok) (hL:s0.length=L) (hc:Lo c s0 a h l) (hb:both.getLast?=some b):JL ⟨E8 c a mo x y p L,St s0 X Y (.fz (c.S both))⟩=some (lDb l b mo,St s0 X Y (.fz (c.S both))):=by
 have hc':Lo c (St s0 X Y (.fz (c.S both))) a h l:=hc.app _;have al:=LC (w:=⟨E8 c a mo x y p L,St s0 X Y (.fz (c.S both))⟩) (i:=1) rfl hc';cases l with
 | none=>exact yE (iJ (jl al rfl rfl rfl rfl rfl))
 | some e =>
  obtain ⟨z,m⟩:=e;have a0:mOp pIx (cQ (mV 1) (mP (eC (.str "last")))) (mP (eC (.int 0))) ⟨E8 c a mo x y p L,St s0 X Y (.fz (c.S both))⟩=some (.d (c.s z),St s0 X Y (.fz (c.S both))):=ln al rfl rfl rfl rfl;have a1:mOp pIx (cQ (mV 1) (mP (eC (.str "last")))) (mP (eC (.int 1))) ⟨E8 c a mo x y p L,St s0 X Y (.fz (c.S both))⟩=some (.d (.int m),St s0 X Y (.fz (c.S both))):=ln al rfl rfl rfl rfl;exact LD (b1:=true) (b2:=decide (z=b)) (b3:=decide (mo - m≤20)) (iJ (jl al rfl rfl rfl rfl rfl)) (fun _=>iJ (jl a0 (EI hL hb rfl) rfl rfl (ok.eqs z b) rfl)) (fun _ _=>iJ (jl (ln (au rfl) a1 rfl rfl rfl) rfl rfl rfl rfl rfl))
theorem Jn (ok:c.Ok) (hL:s0.length=L) (hc:Lo c s0 a h l) (hb:both.getLast?=some b) (hr:rows.length≤900) :
  aH (qk (G6 "click")) (mIf JL (aH (qk (G6 "double")) (gW (mV 1) (mP (eC (.str "last"))) (mP (eC .none)))) (gW (mV 1) (mP (eC (.str "last"))) (mq (maC wZ (maC (mP (eV 3)) maN))))) ⟨E8 c a mo x y p L,St s0 X (U c rows) (.lst (both.map fun x=>D.d (c.s x)))⟩
   = some (.nx ⟨E8 c a mo x y p L,St (s0.set a (.dct (kvL c h (nxL l mo (some b))))) X (U c (rows++AF l mo (some b))) (.fz (c.S both))⟩):=by
 have ha:a < L:=by rw [← hL]; exact fP hc
 refine ai (Fo hL "click" (Ku hL hb rfl) rfl (by omega)) ?_;have t:=Ia (X:=X) (Y:=U c (rows++[(("click" : Str),b)])) (mo:=mo) (x:=x) (y:=y) (p:=p) ok hL hc hb;cases hd:lDb l b mo with
 | true =>
  rw [hd] at t;have hc':Lo c (St s0 X (U c ((rows++[(("click" : Str),b)])++[(("double" : Str),b)])) (.fz (c.S both))) a h l:=hc.app _;refine mG t (ai (Fo hL "double" (EI hL hb rfl) rfl (by rw [LQ]; simp; omega)) ?_);refine (Hy (w:=⟨E8 c a mo x y p L,St s0 X (U c ((rows++[(("click" : Str),b)])++[(("double" : Str),b)])) (.fz (c.S both))⟩) (i:=1) (p:=none) rfl hc' (au rfl)).trans ?_;rw [Ssa hL ha];rw [Lk hd,Lx hd,Mw]; rfl
 | false =>
  rw [hd] at t;have hc':Lo c (St s0 X (U c (rows++[(("click" : Str),b)])) (.fz (c.S both))) a h l:=hc.app _;refine Km t ?_;refine (Hy (w:=⟨E8 c a mo x y p L,St s0 X (U c (rows++[(("click" : Str),b)])) (.fz (c.S both))⟩) (i:=1) (p:=some (b,mo)) rfl hc' (ue (ds:=[.d (c.s b),.d (.int mo)]) (aO (EI hL hb rfl) (aO (au rfl) rfl)) rfl (by simp))).trans ?_;rw [Ssa hL ha];rw [Ll hd,Ly hd]
theorem DK (ok:c.Ok) (hL:s0.length=L) (hc:Lo c s0 a h l) (ht:h.trail.length≤7) (hp:p.length≤7) (hr:rows.length≤900) {Z:Cell} {s8:Option D}:∃ s',fU (mOp aG (mFz (mV 7)) (la bf (maC (mV 1) (maC (mP (eV 6)) maN)))) ⟨Ev c a 2 mo x y (some (.d (c.S p))) (some (.r (L+1))) s8,St s0 X (U c rows) Z⟩=some (.rt (.d (Rw c (rows++lead h p))) s')∧Lo c s' a { h with trail:=p } l∧Fr s0 s' a:=by
 have e1:=y0 (f:=mV 7) (pG (w:=⟨Ev c a 2 mo x y (some (.d (c.S p))) (some (.r (L+1))) s8,St s0 X (U c rows) Z⟩) (i:=7) rfl) (St1 hL) (sX (rD c) rows);rw [Ss1 hL] at e1;have hc':Lo c (St s0 X (.fz (Rw c rows)) Z) a h l:=hc.app _;refine ⟨_,bE (ln e1 (kF (aO rfl (aO (au rfl) rfl)) (FH ok hc' ht hp)) rfl rfl (uu (l:=rows) (by omega) (by have:=oW ht hp; omega))),(hc'.app _).set _ _,ze (uZ _ (nG _))⟩
end
section
variable {c:Sc} {s:Sto} {a:Nat} {h:Hd} {l:Option (Nat×Int)} {mo x y:Int} {p:List Nat}
theorem IN (hk:okL l h):okL l { h with pr:=none,held:=none }:=by
 unfold okL at *;exact hk
theorem KR (ok:c.Ok) (hc:Lo c s a h l) (hP:ax [c.d,.int x,.int y]=some (c.S p)) (ht:h.trail.length≤7) (hp:p.length≤7) (hk:okL l h) :
  ∃ s' l',bz [.d c.d,.r a,.d (.int 2),.d (.int mo),.d (.int x),.d (.int y)] s=some (.d (Rw c (upR h p mo)),s')∧Lo c s' a (upH h p mo) l'∧okL l' (upH h p mo)∧Fr s s' a:=by
 cases hpr:h.pr with
 | none =>
  have e1:upR h p mo=[]:=by unfold upR; rw [hpr]
  have e2:upH h p mo=h:=by unfold upH; rw [hpr]
  rw [e1,e2];refine ⟨s,l,?_,hc,hk,Stp.refl⟩;refine bJ rfl (show b7 ax bf ⟨Ev c a 2 mo x y none none none,s⟩=_ from ev6 hP ?_);refine ai (j7 (s:=s) (bB (bm (ae rfl rfl (df _ _))))) (ai (j7 (s:=s) (bB (bm (ae rfl rfl (df _ _))))) (hG (mG (s:=s) (iJ ?_) (bE (au (cx (eS (by simp))))))));exact (DZ (i:=1) (w:=⟨Ev c a 2 mo x y (some (.d (c.S p))) none none,s⟩) rfl hc false).trans (by rw [hpr]; rfl)
 | some q =>
  have ha:=fP hc;generalize hX:Cell.lst [D.d (.tuple [.str "up", kD c h.held])]=X;have e7:=J4 (w:=⟨Ev c a 2 mo x y (some (.d (c.S p))) none none,s⟩) (i:=1) "up" rfl hc;rw [hX] at e7;have el:(s++[X]).length=s.length+1:=by simp
  rw [show (Wd.s ⟨Ev c a 2 mo x y (some (.d (c.S p))) none none,s⟩++[X]).length=s.length+1 from el] at e7;have hc2:Lo c ((s++[X])++[U c (tell h "up")]) a h l:=(hc.app _).app _;have e8:=G4 (mo:=mo) (x:=x) (y:=y) (p:=p) (s7:=some (.r (s.length+1))) (s8:=none) ok hc2 hpr hp;have el2:((s++[X])++[U c (tell h "up")]).length=s.length+2:=by simp
  have es:((s++[X])++[U c (tell h "up")])++[Cell.lst ((shN q p).map fun x=>D.d (c.s x))]=St s X (U c (tell h "up")) (.lst ((shN q p).map fun x=>D.d (c.s x))):=by simp [St]
  rw [el2,es] at e8;have hc3:Lo c (St s X (U c (tell h "up")) (.lst ((shN q p).map fun x=>D.d (c.s x)))) a h l:=hc.app _;have p1:=DQ (w:=⟨E8 c a mo x y p s.length,_⟩) (i:=1) (p:=none) (e:=mP (eC .none)) rfl hc3 (au rfl);rw [Ssa rfl ha] at p1;have hc4:=hc.set { h with pr:=none } l;have l4:(s.set a (.dct (kvL c { h with pr:=none } l))).length=s.length:=L6;have p2:=DS (w:=⟨E8 c a mo x y p s.length,_⟩) (i:=1) (p:=none) (e:=mP (eC .none)) rfl (hc4.app [X,U c (tell h "up"),.lst ((shN q p).map fun x=>D.d (c.s x))]) (au rfl);rw [show s.set a (.dct (kvL c { h with pr:=none } l))++[X,U c (tell h "up"),.lst ((shN q p).map fun x=>D.d (c.s x))]=St (s.set a (.dct (kvL c { h with pr:=none } l))) X (U c (tell h "up")) (.lst ((shN q p).map fun x=>D.d (c.s x))) from rfl,Ssa l4 ha,M9] at p2;have hc5:Lo c (s.set a (.dct (kvL c { h with pr:=none,held:=none } l))) a { h with pr:=none,held:=none } l:=hc.set _ _;have l5:(s.set a (.dct (kvL c { h with pr:=none,held:=none } l))).length=s.length:=L6;have tl:=oH h "up";have st1:∀ (r:Option MOut) (g:Wd→Option MOut),g ⟨E8 c a mo x y p s.length,St (s.set a (.dct (kvL c { h with pr:=none,held:=none } l))) X (U c (tell h "up")) (.lst ((shN q p).map fun x=>D.d (c.s x)))⟩=r →
    (aH (mIf (mB (dP (iD false) (cQ (mV 1) (mP (eC (.str "pressed")))) (mP (eC .none)))) (fU (mP (oE (fun η=>(aN η).bind gL)))) mNx)
    (aH (bI 7 (F8 "up" 1)) (aH (bI 8 HN) (aH (gW (mV 1) (mP (eC (.str "pressed"))) (mP (eC .none))) (aH (gW (mV 1) (mP (eC (.str "held"))) (mP (eC .none))) g))))) ⟨Ev c a 2 mo x y (some (.d (c.S p))) none none,s⟩=r:=fun r g hg =>
   ai (j7 (s:=s) (iJ ((DZ (i:=1) (w:=⟨Ev c a 2 mo x y (some (.d (c.S p))) none none,s⟩) rfl hc false).trans (by rw [hpr]; rfl)))) (ai (aY e7) (ai (aY e8) (ai p1 (ai p2 hg))))
  have fr0:Fr s (s.set a (.dct (kvL c { h with pr:=none,held:=none } l))) a:=lF rfl;have tne:mB (dP pNe (mV 8) (mP (oE (fun η=>(aN η).bind gL)))) ⟨E8 c a mo x y p s.length,St (s.set a (.dct (kvL c { h with pr:=none,held:=none } l))) X (U c (tell h "up")) (.lst ((shN q p).map fun x=>D.d (c.s x)))⟩=some (!decide (shN q p=[]),St (s.set a (.dct (kvL c { h with pr:=none,held:=none } l))) X (U c (tell h "up")) (.lst ((shN q p).map fun x=>D.d (c.s x)))) :=
   iJ (jl (x:=c.S (shN q p)) (y:=c.S []) (pG rfl) (au (cx (eS (by simp)))) (by unfold lD; dsimp only; rw [St2 l5]; dsimp only; rw [sX]; rfl) rfl (ok.neS _ _) rfl)
  have eR:upR h p mo=(tell h "up" ++ upC h mo (upN q p))++lead (uI h mo (upN q p)) p:=by unfold upR; rw [hpr]
  have eH:upH h p mo={ uI h mo (upN q p) with trail:=p }:=by unfold upH; rw [hpr]
  have hk0:=IN hk;rw [eR,eH,HX];cases hs:(shN q p).getLast? with
  | none =>
   have hn:shN q p=[]:=List.getLast?_eq_none_iff.mp hs;rw [show (!decide (shN q p=[]))=false by rw [hn]; rfl] at tne;obtain ⟨s',r1,r2,r3⟩:=DK (mo:=mo) (x:=x) (y:=y) (X:=X) (Z:=.lst ((shN q p).map fun x=>D.d (c.s x))) (s8:=some (.r (s.length+2))) (rows:=tell h "up") ok l5 hc5 ht hp (by omega);refine ⟨s',l,?_,r2,hk0,fr0.trans r3⟩;refine bJ rfl (show b7 ax bf ⟨Ev c a 2 mo x y none none none,s⟩=_ from ev6 hP ?_);refine ai (j7 (s:=s) (bB (bm (ae rfl rfl (df _ _))))) (ai (j7 (s:=s) (bB (bm (ae rfl rfl (df _ _))))) (st1 _ _ (ai (j7 tne) ?_)));rw [show (tell h "up" ++ upC h mo [])=tell h "up" from Mn _];exact r1
  | some b =>
   have hn:shN q p≠[]:=fun e=>by rw [e] at hs; cases hs
   rw [show (!decide (shN q p=[]))=true by rw [decide_eq_false hn]; rfl] at tne;have ck:=Jn (mo:=mo) (x:=x) (y:=y) (p:=p) (X:=X) (rows:=tell h "up") ok l5 hc5 hs (by omega);rw [M9] at ck;have hc6:Lo c (s.set a (.dct (kvL c { h with pr:=none,held:=none } (nxL l mo (some b))))) a { h with pr:=none,held:=none } (nxL l mo (some b)):=hc.set _ _;have dl:(AF l mo (some b)).length≤2:=by unfold AF; dsimp only; split <;> simp
   obtain ⟨s',r1,r2,r3⟩:=DK (mo:=mo) (x:=x) (y:=y) (X:=X) (Z:=.fz (c.S (shN q p))) (s8:=some (.r (s.length+2))) (rows:=tell h "up" ++ AF l mo (some b)) ok (L6 ..) hc6 ht hp (by rw [LQ]; omega);have hd:=Jk hk0 b mo;have eC:upC h mo [b]=AF l mo (some b):=by
    show lE { h with pr:=none,held:=none } b mo=_;unfold lE AF;rw [hd]
   refine ⟨s',nxL l mo (some b),?_,r2,?_,(show Fr s _ a from lF rfl).trans r3⟩
   ·refine bJ rfl (show b7 ax bf ⟨Ev c a 2 mo x y none none none,s⟩=_ from ev6 hP ?_);refine ai (j7 (s:=s) (bB (bm (ae rfl rfl (df _ _))))) (ai (j7 (s:=s) (bB (bm (ae rfl rfl (df _ _))))) (st1 _ _ (ai (mG tne ck) ?_)));rw [eC];exact r1
   ·show okL (nxL l mo (some b)) { ox { h with pr:=none,held:=none } b mo with trail:=p };unfold ox;rw [hd];show okL (if lDb l b mo=true then none else some (b,mo)) _;cases hb:lDb l b mo with
    | true=>rw [if_pos rfl]; exact .inr rfl
    | false=>rw [if_neg (by decide)]; exact ⟨rfl,rfl,rfl⟩
end
noncomputable def isB (st:List (Nat×Nat)) (x:Nat):Bool:=st.any fun e=>decide (e.1=x)
noncomputable def fgt (B:Nat→Bool) (h:Hd):Hd:={ h with trail:=h.trail.filter B,pr:=h.pr.map (·.filter B),held:=h.held.filter B }
noncomputable def lost (B:Nat→Bool) (h:Hd):List Nat:=match h.held with | some x=>if B x=true then [] else [x] | none=>[]
section
variable {c:Sc} (ok:c.Ok)
include ok
theorem FI (x:Nat):c7 [c.d,c.s x]=some (.bool (isB c.st x)):=by
 have e:bH [none,some 1] (lI oB (eV 0)) (tgN 0) dM (L2.PU.l2 pEq (L2.PU.l2 pIx (eV 0) (eC (.int 0))) (eV 1)) [.val c.d,.val (c.s x)]=some ((c.st.map fun e=>decide (e.1=x)).map PyData.bool):=by
  refine fZ (ds:=c.st.map c.box) (lU rfl rfl) (by rw [LO]; have:=ok.len; omega) ?_;rw [Ml];exact lZ (η:=[.un,.val (c.s x)]) c.box (fun e=>.bool (decide (e.1=x))) c.st fun e he=>⟨[.val (c.box e),.val (c.s x)],rfl,ae (ae rfl rfl rfl) rfl (ok.eqs e.1 x)⟩
 have e2:=aW (af (g:=aN) (cx e) rfl) (Ci _);refine hE rfl (show pL [.val c.d,.val (c.s x)]=_ from (iV e2).trans ?_);unfold isB;rw [List.any_map]; rfl
theorem CS (l:List Nat) (hl:l.length≤1000):bL [c.d,c.S l]=some (c.S (l.filter (isB c.st))):=by
 have e:bH [none,some 0] (lI asL (eV 1)) (tgN 0) (bT (lA c7 (aC (eV 1) (aC (eV 0) aN)))) (eV 0) [.val c.d,.val (c.S l)]=some ((l.filter (isB c.st)).map c.s):=by
  refine fZ (ds:=l.map c.s) (lU rfl rfl) (by rw [LO]; omega) ?_;exact iS (η:=[.un,.val c.d]) c.s (isB c.st) c.s l fun x _=>⟨[.val (c.s x),.val c.d],rfl,bm (aW (af rfl (af rfl rfl)) (FI ok x)),fun _=>rfl⟩
 exact hE rfl (show lv c7 [.val c.d,.val (c.S l)]=_ from iV (cx e))
end
theorem LA {f g:En→Option Bool} {η:En} (h1:f η=some true):bOr f g η=some true:=by
 unfold bOr;rw [h1]; rfl
section
variable {c:Sc} {s:Sto} {m:Nat} {h:Hd}
theorem KQ (ok:c.Ok) (hc:Ho c s m h) (hb:Bd h):cv [.r m,.d c.d] s=some (.d (c.S (lost (isB c.st) h)),s.set m (.obj 0 (hf c (fgt (isB c.st) h)))):=by
 obtain ⟨tr,pr,he,ck,mo,db⟩:=h;have ht:tr.length≤7:=hb.1;have hq:∀ q,pr=some q→q.length≤7:=hb.2;refine bJ rfl (show kN bL c7 ⟨[some (.r m),some (.d c.d),none],s⟩=_ from ?_);have p1:km 0 "trail" (mV 0) (mP (lA bL (aC (eV 1) (aC (gd 0 "trail") aN)))) ⟨[some (.r m),some (.d c.d),none],s⟩=some (.nx ⟨[some (.r m),some (.d c.d),none],s.set m (.obj 0 (hf c ⟨tr.filter (isB c.st),pr,he,ck,mo,db⟩))⟩):=by
  rw [hJ (d:=.d (c.S (tr.filter (isB c.st)))) (n:=m) (fs:=hf c ⟨tr,pr,he,ck,mo,db⟩) (au (aW (af rfl (af (jC rfl hc rfl) rfl)) (CS ok _ (by omega)))) rfl hc (by simp [hf])];rfl
 refine ai p1 ?_;have hc1:Ho c (s.set m (.obj 0 (hf c ⟨tr.filter (isB c.st),pr,he,ck,mo,db⟩))) m ⟨tr.filter (isB c.st),pr,he,ck,mo,db⟩:=hc.set _;have p2:mIf (tPv (bT (L2.PU.l2 (iD true) (gd 0 "pressed_at") (eC .none)))) (km 0 "pressed_at" (mV 0) (mP (lA bL (aC (eV 1) (aC (gd 0 "pressed_at") aN))))) mNx ⟨[some (.r m),some (.d c.d),none],s.set m (.obj 0 (hf c ⟨tr.filter (isB c.st),pr,he,ck,mo,db⟩))⟩=some (.nx ⟨[some (.r m),some (.d c.d),none],s.set m (.obj 0 (hf c ⟨tr.filter (isB c.st),pr.map (·.filter (isB c.st)),he,ck,mo,db⟩))⟩):=by
  have fp:gd 0 "pressed_at" (vw ⟨[some (.r m),some (.d c.d),none],s.set m (.obj 0 (hf c ⟨tr.filter (isB c.st),pr,he,ck,mo,db⟩))⟩)=some (oL c pr):=jC rfl hc1 rfl;cases pr with
  | none=>exact j7 (bB (bm (ae fp rfl rfl)))
  | some q =>
   refine mG (bB (bm (ae fp rfl rfl))) ?_;rw [hJ (d:=.d (c.S (q.filter (isB c.st)))) (n:=m) (fs:=hf c ⟨tr.filter (isB c.st),some q,he,ck,mo,db⟩) (au (aW (af rfl (af fp rfl)) (CS ok _ (by have:=hq q rfl; omega)))) rfl hc1 (by simp [hf]),M9];rfl
 refine ai p2 ?_;have hc2:Ho c (s.set m (.obj 0 (hf c ⟨tr.filter (isB c.st),pr.map (·.filter (isB c.st)),he,ck,mo,db⟩))) m ⟨tr.filter (isB c.st),pr.map (·.filter (isB c.st)),he,ck,mo,db⟩:=hc.set _;have fh:gd 0 "held_by" (vw ⟨[some (.r m),some (.d c.d),none],s.set m (.obj 0 (hf c ⟨tr.filter (isB c.st),pr.map (·.filter (isB c.st)),he,ck,mo,db⟩))⟩)=some (kD c he):=jC rfl hc2 rfl;cases he with
 | none=>exact hG (mG (bB (LA (bm (ae fh rfl rfl)))) (bE (au (cx (eS (by simp))))))
 | some x =>
  have hx:=FI ok x;cases hb2:isB c.st x with
  | true =>
   rw [hb2] at hx;have e1:lost (isB c.st) ⟨tr,pr,some x,ck,mo,db⟩=[]:=if_pos hb2;have e2:fgt (isB c.st) ⟨tr,pr,some x,ck,mo,db⟩=⟨tr.filter (isB c.st),pr.map (·.filter (isB c.st)),some x,ck,mo,db⟩:=by
    unfold fgt;simp [Option.filter,hb2]
   rw [e1,e2];exact hG (mG (bB (Fk (bm (ae fh rfl rfl)) (bm (aW (af rfl (af fh rfl)) hx)))) (bE (au (cx (eS (by simp))))))
  | false =>
   rw [hb2] at hx;have e1:lost (isB c.st) ⟨tr,pr,some x,ck,mo,db⟩=[x]:=if_neg (by rw [hb2]; decide);have e2:fgt (isB c.st) ⟨tr,pr,some x,ck,mo,db⟩=⟨tr.filter (isB c.st),pr.map (·.filter (isB c.st)),none,ck,mo,db⟩:=by
    unfold fgt;simp [Option.filter,hb2]
   rw [e1,e2];refine ai (j7 (bB (Fk (bm (ae fh rfl rfl)) (bm (aW (af rfl (af fh rfl)) hx))))) ?_;refine ai (aY (au fh)) ?_;refine ai (w1:=⟨[some (.r m),some (.d c.d),some (.d (c.s x))],s.set m (.obj 0 (hf c ⟨tr.filter (isB c.st),pr.map (·.filter (isB c.st)),none,ck,mo,db⟩))⟩) ?_ (bE (au (cx (eN (af rfl rfl) (eS (by simp))))));rw [hJ (d:=.d .none) (n:=m) (fs:=hf c ⟨tr.filter (isB c.st),pr.map (·.filter (isB c.st)),some x,ck,mo,db⟩) (au rfl) rfl hc2 (by simp [hf])];show some (MOut.nx ⟨_,((s.set m _).set m _)⟩)=_;rw [M9];rfl
end
noncomputable def ren (ρ:Nat→Nat) (h:Hd):Hd:={ h with trail:=h.trail.map ρ,pr:=h.pr.map (·.map ρ),held:=h.held.map ρ,clk:=h.clk.map ρ }
noncomputable def hD (c:Sc) (r:Int×Nat):PyData:=.tuple [.int r.1,c.s r.2]
section
variable {c c2:Sc} {ρ:Nat→Nat} (hρ:∀ x,c2.nm (ρ x)=c.nm x)
include hρ
theorem DG (x:Nat):c2.s (ρ x)=c.s x:=by unfold Sc.s; rw [hρ]
theorem FA (l:List Nat):c2.S (l.map ρ)=c.S l:=by
 unfold Sc.S;rw [Ml];exact congrArg _ (NH fun x _=>DG hρ x)
theorem EL (k:Option Nat):kD c2 (k.map ρ)=kD c k:=by
 cases k with
 | none=>rfl
 | some x=>exact DG hρ x
theorem HE (k:Option (List Nat)):oL c2 (k.map (·.map ρ))=oL c k:=by
 cases k with
 | none=>rfl
 | some x=>exact FA hρ x
theorem Jg (h:Hd):hf c2 (ren ρ h)=hf c h:=by
 unfold hf ren;dsimp only;rw [FA hρ,HE hρ,EL hρ,EL hρ]
theorem BF {h:Hd} (hb:Bd h):Bd (ren ρ h):=by
 obtain ⟨tr,pr,he,ck,mo,db⟩:=h;refine ⟨by show (tr.map ρ).length≤7; rw [LO]; exact hb.1,fun q hq=>?_⟩;cases pr with
 | none=>cases hq
 | some r =>
  cases hq;rw [LO];exact hb.2 r rfl
variable {s:Sto} {n kd:Nat} {kvs:List (Key×D)} {K:Int→Hd}
theorem HOk.ren (H:HOk c s n kd kvs K):HOk c2 (s.set n (.obj 1 (nf c2 kd))) n kd kvs (fun j=>K24.ren ρ (K j)) where
 ob:=LV (fP H.ob)
 dc:=by
  have hn:n≠kd:=fun e=>by have:=H.dc; rw [← e,H.ob] at this; cases this
  rw [LP hn]; exact H.dc
 dflt:=fun j hj=>by rw [H.dflt j hj]; rfl
 hand:=fun j d hj=>by
  obtain ⟨m,rfl,hm⟩:=H.hand j d hj;have hn:n≠m:=fun e=>by have:=H.ob; rw [e,hm] at this; cases this
  refine ⟨m,rfl,?_⟩;unfold Ho;rw [LP hn,Jg hρ]; exact hm
 inj:=H.inj
 bd:=fun j=>BF hρ (H.bd j)
 ky:=H.ky
end
theorem Jp {B:Nat→Bool} {h:Hd} (hb:Bd h):Bd (fgt B h):=by
 obtain ⟨tr,pr,he,ck,mo,db⟩:=h;refine ⟨L9 (MJ ..) hb.1,fun q hq=>?_⟩;cases pr with
 | none=>cases hq
 | some r =>
  cases hq;exact L9 (MJ ..) (hb.2 r rfl)
noncomputable abbrev chB:Wd→Option MOut:=qk (uh (mV 2) (mFz (mcL [none,some 3] (iM (cO 0 "forget" cv (cQ (rL (mV 0) "known") (mP (eV 3))) (maC (mP (eV 1)) maN))) [0] (tgN 0) uJ (mP (lA (fun ds=>if ds.length≤sizeLine then some (.tuple ds) else none) (aC (eV 1) (aC (eV 0) aN)))))))
theorem EB {o g:MF} {w:Wd} {n:Nat} {s s1:Sto} {ds0 ds:List D} {ys:List PyData} (h1:o w=some (.r n,s)) (h2:s[n]?=some (.lst ds0)) (h3:g ⟨w.η,s⟩=some (.d (.list ys),s1)) (h4:s1[n]?=some (.lst ds)) (hl:ds.length+ys.length≤3000000):uh o g w=some (.d .none,s1.set n (.lst (ds++ys.map .d))):=by
 unfold uh;rw [h1,LM];dsimp only;rw [h2];dsimp only;rw [h3,LM];show (some (PyData.list ys)).bind _=_;rw [LM,h4];dsimp only;rw [if_pos (big hl)]
section
variable {c:Sc} {s:Sto} {n kd R m:Nat} {kvs:List (Key×D)} {K:Int→Hd} {j:Int} {rows:List (Int×Nat)}
theorem G2 (ok:c.Ok) (H:HOk c s n kd kvs K) (hj:bN kvs (.inl j)=some (.r m)) (hR:s[R]?=some (.lst (rows.map fun r=>D.d (hD c r)))) (hO:¬ Own n kd kvs R) (hr:rows.length≤1000) :
  ∃ s',chB ⟨[some (.r n),some (.d c.d),some (.r R),some (.d (.int j))],s⟩=some (.nx ⟨[some (.r n),some (.d c.d),some (.r R),some (.d (.int j))],s'⟩)∧HOk c s' n kd kvs (upK K j (fgt (isB c.st) (K j)))∧s'[R]?=some (.lst ((rows++(lost (isB c.st) (K j)).map fun x=>(j,x)).map fun r=>D.d (hD c r)))∧s.length≤s'.length∧∀ i,i < s.length→¬ Own n kd kvs i→i≠R→s'[i]?=s[i]?:=by
 obtain ⟨m',em,hm⟩:=H.hand j _ hj;cases em;have hRl:=fP hR;have hOm:Own n kd kvs m:=.inr (.inr ⟨j,hj⟩);have hmR:m≠R:=fun e=>hO (e ▸ hOm);have e1:cO 0 "forget" cv (cQ (rL (mV 0) "known") (mP (eV 3))) (maC (mP (eV 1)) maN) ⟨[some (.r n),some (.d c.d),some (.r R),some (.d (.int j))],s⟩=some (.d (c.S (lost (isB c.st) (K j))),s.set m (.obj 0 (hf c (fgt (isB c.st) (K j))))) :=
  cV (n:=m) (pH (Cs (pG (i:=0) (w:=⟨[some (.r n),some (.d c.d),some (.r R),some (.d (.int j))],s⟩) rfl) H.ob rfl) (au rfl) rfl H.dc hj) hm rfl (aO (au rfl) rfl) (KQ ok hm (H.bd j))
 have ll:(lost (isB c.st) (K j)).length≤1:=by unfold lost; split <;> (try split) <;> simp
 have e2:=ub (mp:=[none,some 3]) (ks:=[0]) (t:=tgN 0) (p:=uJ) (f:=mP (lA (fun ds=>if ds.length≤sizeLine then some (.tuple ds) else none) (aC (eV 1) (aC (eV 0) aN)))) c.s (fun _=>true) (fun x=>hD c (j,x)) (fun x=>[some (.d (c.s x)),some (.d (.int j))]) _ (CB e1) (by omega) fun x hx acc =>
  ⟨i6 (w:=⟨[none,some (.d (.int j))],_⟩) (by show 0 < 2; decide),rfl,fun _=>au (aW (af rfl (af rfl rfl)) (jj (by simp)))⟩
 rw [List.filter_eq_self.mpr (fun _ _=>rfl)] at e2;have e3:=EA e2;have hR1:(s.set m (.obj 0 (hf c (fgt (isB c.st) (K j))))++[Cell.fz (.list ((lost (isB c.st) (K j)).map fun x=>hD c (j,x)))])[R]?=some (.lst (rows.map fun r=>D.d (hD c r))):=by
  rw [LR (by rw [L6]; exact hRl),LP hmR]; exact hR
 have e4:=EB (o:=mV 2) (pG (i:=2) (w:=⟨[some (.r n),some (.d c.d),some (.r R),some (.d (.int j))],s⟩) rfl) hR e3 hR1 (by rw [LO,LO]; omega);refine ⟨_,wk e4,((H.put hj (Jp (H.bd j))).app _).setX hO,?_,?_,fun i hi ho hne=>?_⟩
 ·rw [yK hR1];rw [Mo,Ml,Ml]; rfl
 ·rw [L6,LQ,L6]; omega
 ·rw [LP (Ne.symm hne),LR (by rw [L6]; exact hi),LP (fun (e:m=i)=>ho (e ▸ hOm))]
theorem HL (ok:c.Ok):∀ (js:List Int) (s:Sto) (K:Int→Hd) (rows:List (Int×Nat)) (x3:Option D),HOk c s n kd kvs K→js.Nodup→(∀ j∈js,bN kvs (.inl j)≠none)→s[R]?=some (.lst (rows.map fun r=>D.d (hD c r)))→¬ Own n kd kvs R→rows.length+js.length≤1000 →
  ∃ s' x3',mGo [3] (tgN 3) chB (js.map PyData.int) ⟨[some (.r n),some (.d c.d),some (.r R),x3],s⟩=some (.nx ⟨[some (.r n),some (.d c.d),some (.r R),x3'],s'⟩)∧HOk c s' n kd kvs (fun j=>if j∈js then fgt (isB c.st) (K j) else K j)∧s'[R]?=some (.lst ((rows++js.flatMap fun j=>(lost (isB c.st) (K j)).map fun x=>(j,x)).map fun r=>D.d (hD c r)))∧s.length≤s'.length∧∀ i,i < s.length→¬ Own n kd kvs i→i≠R→s'[i]?=s[i]?
 | [],s,K,rows,x3,H,_,_,hR,_,_=>⟨s,x3,rfl,by simpa using H,by simpa using hR,LS _,fun _ _ _ _=>rfl⟩
 | j::js,s,K,rows,x3,H,nd,hk,hR,hO,hl=>by
  rw [L1] at hl;rw [Ng] at nd;cases hd:bN kvs (.inl j) with
  | none=>exact absurd hd (hk j L7)
  | some d =>
   obtain ⟨m,rfl,hm⟩:=H.hand j d hd;obtain ⟨s1,a1,a2,a3,a4,a5⟩:=G2 ok H hd hR hO (by omega);have ll:(lost (isB c.st) (K j)).length≤1:=by unfold lost; split <;> (try split) <;> simp
   obtain ⟨s2,x3',b1,b2,b3,b4,b5⟩:=HL ok js s1 _ _ (some (.d (.int j))) a2 nd.2 (fun i hi=>hk i (LX _ hi)) a3 hO (by rw [LQ,LO]; omega);have eK:∀ i∈js,upK K j (fgt (isB c.st) (K j)) i=K i:=fun i hi=>by
    unfold upK;rw [if_neg (fun (e:i=j)=>nd.1 (e ▸ hi))]
   refine ⟨s2,x3',?_,?_,?_,L9 a4 b4,fun i hi ho hne=>(b5 i (L5 hi a4) ho hne).trans (a5 i hi ho hne)⟩
   ·rw [LW];unfold mGo;rw [i6 (w:=⟨[some (.r n),some (.d c.d),some (.r R),x3],s⟩) (by show 3 < 4; decide),LM];show (chB ⟨[some (.r n),some (.d c.d),some (.r R),some (.d (.int j))],s⟩).bind _=_;rw [a1,LM];exact b1
   ·have e:(fun i=>if i∈js then fgt (isB c.st) (upK K j (fgt (isB c.st) (K j)) i) else upK K j (fgt (isB c.st) (K j)) i)=fun i=>if i∈j::js then fgt (isB c.st) (K i) else K i:=by
     funext i
     by_cases hi:i∈js
     ·rw [if_pos hi,if_pos (LX _ hi),eK i hi]
     ·rw [if_neg hi];unfold upK;by_cases e:i=j
      ·subst e; rw [if_pos rfl,if_pos L7]
      ·rw [if_neg e,if_neg (by rw [Mb]; exact fun z=>z.elim e hi)]
    rw [← e]; exact b2
   ·rw [b3,MG,Mw];have ef:(js.flatMap fun i=>(lost (isB c.st) (upK K j (fgt (isB c.st) (K j)) i)).map fun x=>(i,x))=js.flatMap fun i=>(lost (isB c.st) (K i)).map fun x=>(i,x):=sW fun i hi=>by rw [eK i hi]
    rw [ef]
end
theorem zF {α:Type} {f:Int→List α} (hf:∀ j,j≠0→j≠1→f j=[]):∀ l:List Int,l.Pairwise (· < ·)→l.flatMap f=(if (0:Int)∈l then f 0 else [])++(if (1:Int)∈l then f 1 else [])
 | [],_=>by simp
 | a::r,h=>by
  obtain ⟨h1,h2⟩:=Nk.mp h;rw [MG,zF hf r h2];by_cases e0:a=0
  ·subst e0;have n0:(0:Int)∉r:=fun z=>by have:=h1 0 z; omega
   simp [n0]
  ·by_cases e1:a=1
   ·subst e1;have n0:(0:Int)∉r:=fun z=>by have:=h1 0 z; omega
    have n1:(1:Int)∉r:=fun z=>by have:=h1 1 z; omega
    simp [n0,n1]
   ·have e0':¬ (0:Int)=a:=fun z=>e0 z.symm;have e1':¬ (1:Int)=a:=fun z=>e1 z.symm;simp [hf a e0 e1,e0',e1']
theorem Io {ns:List Int} (h:ns.Nodup):(qg ns).Pairwise (· < ·):=by
 have h1:=BS ns;have h2:(qg ns).Nodup:=(M4 ns _).nodup_iff.mpr h;exact (h1.and h2).imp fun ⟨a,b⟩=>by omega
theorem we {ns:List Int} (j:Int):j∈qg ns↔j∈ns:=(M4 ns _).mem_iff
noncomputable def zV (B:Nat→Bool) (K:Int→Hd):List (Int×Nat):=((lost B (K 0)).map fun x=>((0:Int),x))++((lost B (K 1)).map fun x=>((1:Int),x))
section
variable {c c2:Sc} {ρ:Nat→Nat} {s:Sto} {n kd:Nat} {kvs:List (Key×D)} {K:Int→Hd}
theorem FJ (ok:c2.Ok) (hρ:∀ x,c2.nm (ρ x)=c.nm x) (H:HOk c s n kd kvs K) (hl:kvs.length < 60) (hz:∀ j,j≠0→j≠1→K j=hd0) :
  ∃ s',bi [.r n,.d c2.d] s=some (.d (.list ((zV (isB c2.st) fun j=>K24.ren ρ (K j)).map (hD c2))),s')∧HOk c2 s' n kd kvs (fun j=>fgt (isB c2.st) (K24.ren ρ (K j)))∧Stp s s' (Own n kd kvs) (Own n kd kvs):=by
 have H1:=H.ren (c2:=c2) hρ;have l1:(s.set n (.obj 1 (nf c2 kd))).length=s.length:=L6;have H2:=H1.app [Cell.lst []];have hR:(s.set n (.obj 1 (nf c2 kd))++[Cell.lst []])[s.length]?=some (.lst (([]:List (Int×Nat)).map fun r=>D.d (hD c2 r))):=by
  rw [← l1]; exact ur _ _
 have hO:¬ Own n kd kvs s.length:=fun z=>by have:=H.lt z; omega
 obtain ⟨ns,k1,k2⟩:=H.ky;have nl:ns.length=kvs.length:=by have:=congrArg List.length (pJ k1); simpa using this.symm
 have sl:(qg ns).length=ns.length:=(M4 ns _).length_eq;obtain ⟨s',x3,g1,g2,g3,g4,g5⟩:=HL ok (R:=s.length) (qg ns) _ _ [] none H2 ((M4 ns _).nodup_iff.mpr k2) (fun j hj e=>(Ky.look k1 j).mp e ((we j).mp hj)) hR hO (by rw [sl,nl]; simp; omega);have ld:∀ j,j≠0→j≠1→((lost (isB c2.st) (K24.ren ρ (K j))).map fun x=>(j,x))=[]:=fun j h0 h1=>by rw [hz j h0 h1]; rfl
 have lk:∀ j,j∉ns→((lost (isB c2.st) (K24.ren ρ (K j))).map fun x=>(j,x))=[]:=fun j h=>by rw [H.dflt j ((Ky.look k1 j).mpr h)]; rfl
 have er:([]:List (Int×Nat))++(qg ns).flatMap (fun j=>(lost (isB c2.st) (K24.ren ρ (K j))).map fun x=>(j,x))=zV (isB c2.st) fun j=>K24.ren ρ (K j):=by
  rw [List.nil_append,zF ld _ (Io k2)];unfold zV
  congr 1
  ·by_cases h:(0:Int)∈qg ns
   ·rw [if_pos h]
   ·rw [if_neg h,lk 0 fun z=>h ((we 0).mpr z)]
  ·by_cases h:(1:Int)∈qg ns
   ·rw [if_pos h]
   ·rw [if_neg h,lk 1 fun z=>h ((we 1).mpr z)]
 rw [er] at g3;have eK:(fun j=>if j∈qg ns then fgt (isB c2.st) (K24.ren ρ (K j)) else K24.ren ρ (K j))=fun j=>fgt (isB c2.st) (K24.ren ρ (K j)):=by
  funext j
  by_cases h:j∈qg ns
  ·rw [if_pos h]
  ·rw [if_neg h,H.dflt j ((Ky.look k1 j).mpr fun z=>h ((we j).mpr z))]; rfl
 rw [eK] at g2;rw [LQ,l1] at g4;have e1:[Cell.lst []].length=1:=rfl;refine ⟨s'.set s.length (.fz (.list ((zV (isB c2.st) fun j=>K24.ren ρ (K j)).map (hD c2)))),?_,g2.setX hO,⟨by rw [L6]; omega,fun i hi ho=>?_,fun i h=>.inl h⟩⟩
 ·refine bJ rfl (show ke cv ⟨[some (.r n),some (.d c2.d),none,none],s⟩=_ from ?_);have p1:km 1 "scene" (mV 0) (mP (eV 1)) ⟨[some (.r n),some (.d c2.d),none,none],s⟩=some (.nx ⟨[some (.r n),some (.d c2.d),none,none],s.set n (.obj 1 (nf c2 kd))⟩):=by
   rw [hJ (d:=.d c2.d) (n:=n) (fs:=nf c kd) (au rfl) rfl H.ob (by simp [nf])];rfl
  refine ai p1 ?_;have p2:bI 2 (mN (fun η=>(aN η).bind gL)) ⟨[some (.r n),some (.d c2.d),none,none],s.set n (.obj 1 (nf c2 kd))⟩=some (.nx ⟨[some (.r n),some (.d c2.d),some (.r s.length),none],s.set n (.obj 1 (nf c2 kd))++[.lst []]⟩):=by
   rw [← l1];exact aY rfl
  refine ai p2 (ai (nL (CB (xs:=(qg ns).map PyData.int) (s:=s.set n (.obj 1 (nf c2 kd))++[.lst []]) ?_) g1) (bE (y0 (pG (i:=2) rfl) g3 (sX (hD c2) _))));have eF:rL (mV 0) "known" ⟨[some (.r n),some (.d c2.d),some (.r s.length),none],s.set n (.obj 1 (nf c2 kd))++[Cell.lst []]⟩=some (.r kd,s.set n (.obj 1 (nf c2 kd))++[Cell.lst []]):=Cs (n:=n) (k:=1) (pG (i:=0) rfl) H2.ob rfl;unfold wY;rw [eF,LM];dsimp only;rw [H2.dc];dsimp only;rw [k1,LM,if_pos (by omega)]
 ·rw [LP (by omega),g5 i (by rw [LQ,l1]; omega) ho (by omega),LR (by rw [l1]; exact hi),LP (fun (e:n=i)=>ho (.inl e.symm))]
end
noncomputable def stR (way:Nat) (h:Hd) (p:List Nat) (mo:Int):List (Str×Nat):=if way=0 then mvR h p else if way=1 then dnR h p else upR h p mo
noncomputable def stH (way:Nat) (h:Hd) (p:List Nat) (mo:Int):Hd:=if way=0 then mvH h p else if way=1 then dnH h p else upH h p mo
section
variable {c:Sc} {s:Sto} {n kd:Nat} {kvs:List (Key×D)} {K:Int→Hd}
theorem KW (ok:c.Ok) (H:HOk c s n kd kvs K) (hl:kvs.length < 1000) {way:Nat} (hw:way < 3) (j:Int) {mo x y:Int} {p:List Nat} (hp:aV [c.d,.int x,.int y]=some (c.S p)) (lp:p.length≤7) :
  Res c s n kd kvs (upK K j (stH way (K j) p mo)) (cD [.r n,.d (.int ((way:Nat):Int)),.d (.int j),.d (.int mo),.d (.int x),.d (.int y)] s) (.d (Rw c (stR way (K j) p mo))):=by
 have h3:way=0∨way=1∨way=2:=by omega
 rcases h3 with rfl | rfl | rfl
 ·obtain ⟨s',kvs',e,a,b,d⟩:=LJ ok H hl j (mo:=.int mo) hp lp;refine ⟨s',kvs',?_,a,b,d⟩;refine bJ rfl (show iE cP ca dU ⟨[some (.r n),some (.d (.int ((0:Nat):Int))),some (.d (.int j)),some (.d (.int mo)),some (.d (.int x)),some (.d (.int y))],s⟩=_ from ?_);exact hG (mG (s:=s) (bB (bm (ae rfl rfl (df _ _)))) (bE (cV (n:=n) rfl H.ob rfl (aO (s1:=s) (au rfl) (aO (s1:=s) (au rfl) (aO (s1:=s) (au rfl) (aO (s1:=s) (au rfl) gU)))) e)))
 ·obtain ⟨s',kvs',e,a,b,d⟩:=LL ok H hl j (mo:=.int mo) hp lp;refine ⟨s',kvs',?_,a,b,d⟩;refine bJ rfl (show iE cP ca dU ⟨[some (.r n),some (.d (.int ((1:Nat):Int))),some (.d (.int j)),some (.d (.int mo)),some (.d (.int x)),some (.d (.int y))],s⟩=_ from ?_);refine ai (j7 (s:=s) (bB (bm (ae rfl rfl (df _ _))))) ?_;exact hG (mG (s:=s) (bB (bm (ae rfl rfl (df _ _)))) (bE (cV (n:=n) rfl H.ob rfl (aO (s1:=s) (au rfl) (aO (s1:=s) (au rfl) (aO (s1:=s) (au rfl) (aO (s1:=s) (au rfl) gU)))) e)))
 ·obtain ⟨s',kvs',e,a,b,d⟩:=LH ok H hl j (mo:=mo) hp lp;refine ⟨s',kvs',?_,a,b,d⟩;refine bJ rfl (show iE cP ca dU ⟨[some (.r n),some (.d (.int ((2:Nat):Int))),some (.d (.int j)),some (.d (.int mo)),some (.d (.int x)),some (.d (.int y))],s⟩=_ from ?_);refine ai (j7 (s:=s) (bB (bm (ae rfl rfl (df _ _))))) (ai (j7 (s:=s) (bB (bm (ae rfl rfl (df _ _))))) ?_);exact bE (cV (n:=n) rfl H.ob rfl (aO (s1:=s) (au rfl) (aO (s1:=s) (au rfl) (aO (s1:=s) (au rfl) (aO (s1:=s) (au rfl) gU)))) e)
end
theorem Ld (way:Nat) (h:Hd) (p:List Nat) (mo:Int):∀ r∈stR way h p mo,okW r.1:=by
 have hw:∀ (w:Str) (l:List Nat),okW w→∀ r∈wr w l,okW r.1:=fun w l hw r hr=>by
  obtain ⟨x,_,rfl⟩:=M6.mp hr;exact hw
 have hld:∀ (h:Hd) (p:List Nat),∀ r∈lead h p,okW r.1:=fun h p r hr=>by
  rcases MH.mp hr with z | z
  ·exact hw _ _ (by unfold okW; decide +kernel) r z
  ·exact hw _ _ (by unfold okW; decide +kernel) r z
 have htl:∀ (h:Hd) (w:Str),okW w→∀ r∈tell h w,okW r.1:=fun h w hw r hr=>by
  unfold tell at hr;split at hr
  ·rw [Mi.mp hr]; exact hw
  ·cases hr
 have hck:∀ (h:Hd) (k:Nat) (mo:Int),∀ r∈lE h k mo,okW r.1:=fun h k mo r hr=>by
  unfold lE at hr;split at hr
  ·simp only [Mb,M3,or_false] at hr;rcases hr with rfl | rfl
   ·show PyData.strOk ("click" : Str)=true;decide +kernel
   ·show PyData.strOk ("double" : Str)=true;decide +kernel
  ·rw [Mi.mp hr];show PyData.strOk ("click" : Str)=true;decide +kernel
 intro r hr;unfold stR at hr;split at hr
 ·unfold mvR at hr;split at hr
  ·rcases MH.mp hr with z | z
   ·exact hld _ _ r z
   ·exact hw _ _ (by unfold okW; decide +kernel) r z
  ·exact htl _ _ (by unfold okW; decide +kernel) r hr
 ·split at hr
  ·unfold dnR at hr;split at hr
   ·rcases MH.mp hr with z | z
    ·split at z
     ·exact hld _ _ r z
     ·cases z
    ·exact htl _ _ (by unfold okW; decide +kernel) r z
   ·cases hr
  ·unfold upR at hr;split at hr
   ·cases hr
   ·rename_i q _;rcases MH.mp hr with z | z
    ·rcases MH.mp z with y | y
     ·exact htl _ _ (by unfold okW; decide +kernel) r y
     ·cases hN:upN q p with
      | nil=>rw [hN] at y; cases y
      | cons k l=>rw [hN] at y; exact hck _ _ _ r y
    ·exact hld _ _ r z
theorem wS {l:Option (Nat×Int)} {h h':Hd} (e1:h'.clk=h.clk) (e2:h'.mom=h.mom) (e3:h'.dbl=h.dbl) (hk:okL l h):okL l h':=by
 unfold okL at *;rw [e1,e2,e3]; exact hk
theorem LK {c:Sc} {s:Sto} {a:Nat} {h:Hd} {l:Option (Nat×Int)} {mo x y:Int} {p:List Nat} {way:Nat} (hw:way < 3) (ok:c.Ok) (hc:Lo c s a h l) (hP:ax [c.d,.int x,.int y]=some (c.S p)) (ht:h.trail.length≤7) (hp:p.length≤7) (hk:okL l h) :
  ∃ s' l',bz [.d c.d,.r a,.d (.int ((way:Nat):Int)),.d (.int mo),.d (.int x),.d (.int y)] s=some (.d (Rw c (stR way h p mo)),s')∧Lo c s' a (stH way h p mo) l'∧okL l' (stH way h p mo)∧Fr s s' a:=by
 have h3:way=0∨way=1∨way=2:=by omega
 rcases h3 with rfl | rfl | rfl
 ·obtain ⟨s',e1,e2,e3⟩:=KU (mo:=mo) ok hc hP ht hp;refine ⟨s',l,e1,e2,?_,e3⟩;show okL l (mvH h p);unfold mvH
  split
  ·exact wS rfl rfl rfl hk
  ·exact hk
 ·obtain ⟨s',e1,e2,e3⟩:=KS (mo:=mo) ok hc hP ht hp;refine ⟨s',l,e1,e2,?_,e3⟩;show okL l (dnH h p);unfold dnH v0
  split
  ·split
   ·exact wS rfl rfl rfl hk
   ·exact wS rfl rfl rfl hk
  ·exact hk
 ·exact KR ok hc hP ht hp hk
structure Wo (c:Sc) (s:Sto) (n g:Nat) (ad:Nat→Nat) (b:Nat) (K:Int→Hd):Prop where
 ho:∃ kd kvs,HOk c s n kd kvs K∧kvs.length≤b∧¬ Own n kd kvs g∧∀ i,i < 2→¬ Own n kd kvs (ad i)
 li:s[g]?=some (.lst [.r (ad 0),.r (ad 1)])
 lw:∀ i,i < 2→∃ l,Lo c s (ad i) (K (i:Int)) l∧okL l (K (i:Int))
 ne:ad 0≠ad 1
 hz:∀ j,j≠0→j≠1→K j=hd0
section
variable {c:Sc} {s:Sto} {n g b:Nat} {ad:Nat→Nat} {K:Int→Hd}
theorem Wo.gne (w:Wo c s n g ad b K) {i:Nat} (hi:i < 2):g≠ad i:=fun e=>by
 obtain ⟨l,h1,_⟩:=w.lw i hi
 have:=w.li
 rw [e] at this;rw [show s[ad i]?=_ from h1] at this;cases this
theorem Wo.bd (w:Wo c s n g ad b K) (j:Int):Bd (K j):=by
 obtain ⟨kd,kvs,H,_⟩:=w.ho;exact H.bd j
theorem Wo.ob (w:Wo c s n g ad b K):∃ kd,s[n]?=some (.obj 1 (nf c kd)):=by
 obtain ⟨kd,kvs,H,_⟩:=w.ho;exact ⟨kd,H.ob⟩
theorem Wo.step {K':Int→Hd} {out:Option (D×Sto)} {d:D} (w:Wo c s n g ad b K) (hb:b < 1000) (op:∀ kd kvs,HOk c s n kd kvs K→kvs.length < 1000→Res c s n kd kvs K' out d) (hK:∀ i:Nat,i < 2→∃ l,Lo c s (ad i) (K' (i:Int)) l∧okL l (K' (i:Int))) (hz:∀ j,j≠0→j≠1→K' j=hd0) :
  ∃ s',out=some (d,s')∧Wo c s' n g ad (b+1) K':=by
 obtain ⟨kd,kvs,H,hl,hg,ha⟩:=w.ho;obtain ⟨s',kvs',e,H',st,hl'⟩:=op kd kvs H (by omega);have no:∀ i,i < s.length→¬ Own n kd kvs i→¬ Own n kd kvs' i:=fun i hi ho z=>by
  rcases st.ow i z with y | y
  ·exact ho y
  ·omega
 have al:∀ i,i < 2→ad i < s.length:=fun i hi=>by obtain ⟨l,h1,_⟩:=w.lw i hi; exact fP h1
 refine ⟨s',e,⟨kd,kvs',H',by omega,no g (fP w.li) hg,fun i hi=>no _ (al i hi) (ha i hi)⟩,?_,fun i hi=>?_,w.ne,hz⟩
 ·rw [st.kp g (fP w.li) hg]; exact w.li
 ·obtain ⟨l,h1,h2⟩:=hK i hi;refine ⟨l,?_,h2⟩;show s'[ad i]?=_;rw [st.kp _ (al i hi) (ha i hi)]; exact h1
theorem Wo.ev {ps:List Nat} (t:Tr c ps (In ps) (z0 ps)) (tn:Tn c ps) (w:Wo c s n g ad b K) (hb:b < 1000) {way j:Nat} (hw:way < 3) (hj:j < 2) (mo x y:Int) :
  ∃ s1 s2 rows K',bz [.d c.d,.r (ad j),.d (.int ((way:Nat):Int)),.d (.int mo),.d (.int x),.d (.int y)] s=some (.d (Rw c rows),s1)∧cD [.r n,.d (.int ((way:Nat):Int)),.d (.int (j:Int)),.d (.int mo),.d (.int x),.d (.int y)] s1=some (.d (Rw c rows),s2)∧(∀ r∈rows,okW r.1)∧s1[n]?=s[n]?∧Wo c s2 n g ad (b+1) K':=by
 obtain ⟨hP,hp⟩:=LG t x y;have hL:=BM tn x y;have hPL:ax [c.d,.int x,.int y]=some (c.S (hpth ps (zb c.geo ps (z0 ps) x y))):=hL;generalize hpth ps (zb c.geo ps (z0 ps) x y)=p at hP hp hPL;obtain ⟨l,lo,lk⟩:=w.lw j hj;obtain ⟨s1,l',e1,e2,e3,e4⟩:=LK (mo:=mo) hw t.ok lo hPL (w.bd j).1 hp lk;obtain ⟨kd,kvs,H,hl,hg,ha⟩:=w.ho;have al:∀ i,i < 2→ad i < s.length:=fun i hi=>by obtain ⟨l,h1,_⟩:=w.lw i hi; exact fP h1
 have H1:HOk c s1 n kd kvs K:=H.frame fun i hi=>e4.kp i (H.lt hi) fun z=>ha j hj (z ▸ hi);have w1:Wo c s1 n g ad b K∨True:=.inr trivial;obtain ⟨s2,kvs',f1,f2,f3,f4⟩:=KW t.ok H1 (by omega) hw (j:Int) (mo:=mo) hP hp;have no:∀ i,i < s1.length→¬ Own n kd kvs i→¬ Own n kd kvs' i:=fun i hi ho z=>by
  rcases f3.ow i z with y | y
  ·exact ho y
  ·omega
 have hs:=e4.len;refine ⟨s1,s2,_,_,e1,f1,Ld way _ p mo,?_,⟨kd,kvs',f2,by omega,no g (L5 (fP w.li) hs) hg,fun i hi=>no _ (L5 (al i hi) hs) (ha i hi)⟩,?_,fun i hi=>?_,w.ne,fun i h0 h1=>?_⟩
 ·exact e4.kp n (fP H.ob) fun z=>ha j hj (z ▸ .inl rfl)
 ·rw [f3.kp g (L5 (fP w.li) hs) hg,e4.kp g (fP w.li) (w.gne hj)]; exact w.li
 ·by_cases e:i=j
  ·subst e;refine ⟨l',?_,?_⟩
   ·show s2[ad i]?=_;rw [f3.kp _ (L5 (al i hi) hs) (ha i hi)];unfold upK;rw [if_pos rfl]; exact e2
   ·unfold upK;rw [if_pos rfl]; exact e3
  ·obtain ⟨l2,g1,g2⟩:=w.lw i hi;have ne:ad i≠ad j:=by
    have h3:(i=0∧j=1)∨(i=1∧j=0):=by omega
    rcases h3 with ⟨rfl,rfl⟩ | ⟨rfl,rfl⟩
    ·exact w.ne
    ·exact Ne.symm w.ne
   have eu:upK K (j:Int) (stH way (K (j:Int)) p mo) (i:Int)=K (i:Int):=by
    unfold upK;rw [if_neg (fun z=>e (by omega))]
   refine ⟨l2,?_,by rw [eu]; exact g2⟩;show s2[ad i]?=_;rw [f3.kp _ (L5 (al i hi) hs) (ha i hi),e4.kp _ (al i hi) ne,eu]; exact g1
 ·unfold upK;rw [if_neg (fun z=>by omega)];exact w.hz i h0 h1
end
noncomputable abbrev G (ns:List Int) (sc:PyData) (n g:Nat) (tt:Int) (x5 x6 x7 x8 x9 x10 x11 x12 x13 x14 x15:Option D):MEn:=[some (.d (Sd ns)),some (.d sc),some (.r n),some (.r g),some (.d (.int tt)),x5,x6,x7,x8,x9,x10,x11,x12,x13,x14,x15]
noncomputable abbrev evB:Wd→Option MOut:=(aH (bI 6 (mP (L2.PU.l2 aG (L2.PU.l2 aG (eC (.int 100)) (L2.PU.l2 kZ (eC (.int 60)) (eV 4))) (L2.PU.l2 kZ (eC (.int 9)) (eV 5)))))
  (aH (bI 7 (mP (lA ak (aC (eV 0) (aC (eV 6) (aC (eC (.int 2)) aN))))))
  (aH (bI 8 (mP (L2.PU.l2 pIx (oE (fun η=>((aC (eC (.int 0)) (aC (eC (.int 1)) (aC (eC (.int 1)) (aC (eC (.int 2)) aN)))) η).bind gL)) (lA ak (aC (eV 0) (aC (L2.PU.l2 aG (eV 6) (eC (.int 1))) (aC (eC (.int 4)) aN)))))))
  (aH (bI 9 (mP (L2.PU.l2 tN (lA ak (aC (eV 0) (aC (L2.PU.l2 aG (eV 6) (eC (.int 2))) (aC (eC (.int 9)) aN)))) (eC (.int 1)))))
  (aH (bI 10 (mP (L2.PU.l2 tN (lA ak (aC (eV 0) (aC (L2.PU.l2 aG (eV 6) (eC (.int 3))) (aC (eC (.int 9)) aN)))) (eC (.int 1)))))
  (aH (bI 11 (la bz (maC (mP (eV 1)) (maC (vY (mV 3) (mP (eV 7))) (maC (mP (eV 8)) (maC (mP (L2.PU.l2 aG (L2.PU.l2 kZ (eC (.int 10)) (eV 4)) (eV 5))) (maC (mP (eV 9)) (maC (mP (eV 10)) maN))))))))
  (mIf (mB (dP pNe (la cD (maC (mV 2) (maC (mP (eV 8)) (maC (mP (eV 7)) (maC (mP (L2.PU.l2 aG (L2.PU.l2 kZ (eC (.int 10)) (eV 4)) (eV 5))) (maC (mP (eV 9)) (maC (mP (eV 10)) maN))))))) (mP (eV 11)))) (fU (mP (eC (.bool false)))) mNx)))))))
theorem KY {a:Nat} (h:a < 4):∃ v:Nat,v < 3∧pIx (.list [.int 0,.int 1,.int 1,.int 2]) (.int (a:Nat))=some (.int ((v:Nat):Int)):=by
 match a,h with
 | 0,_=>exact ⟨0,by decide,rfl⟩
 | 1,_=>exact ⟨1,by decide,rfl⟩
 | 2,_=>exact ⟨1,by decide,rfl⟩
 | 3,_=>exact ⟨2,by decide,rfl⟩
section
variable {c:Sc} {s:Sto} {n g b:Nat} {ad:Nat→Nat} {K:Int→Hd} {ns:List Int} {ps:List Nat}
theorem ixl (hL:s[g]?=some (.lst [.r (ad 0),.r (ad 1)])) {η:MEn} {i k j:Nat} (hi:η[i]?=some (some (.r g))) (hk:eV k (vw ⟨η,s⟩)=some (.int (j:Nat))) (hj:j < 2):vY (mV i) (mP (eV k)) ⟨η,s⟩=some (.r (ad j),s):=by
 unfold vY;rw [pG (w:=⟨η,s⟩) hi,LM];dsimp only;rw [au (w:=⟨η,s⟩) hk,LM];dsimp only;rw [hL]
 match j,hj with
 | 0,_=>rfl
 | 1,_=>rfl
theorem GS (hn:ns.length≤63) (t:Tr c ps (In ps) (z0 ps)) (tn:Tn c ps) (w:Wo c s n g ad b K) (hb:b < 1000) {tt k:Nat} (ht:tt < 2) (hk:k < 4) (x6 x7 x8 x9 x10 x11 x12 x13 x14 x15:Option D) :
  ∃ y6 y7 y8 y9 y10 y11 s' K',evB ⟨G ns c.d n g (tt:Int) (some (.d (.int (k:Int)))) x6 x7 x8 x9 x10 x11 x12 x13 x14 x15,s⟩=some (.nx ⟨G ns c.d n g (tt:Int) (some (.d (.int (k:Int)))) y6 y7 y8 y9 y10 y11 x12 x13 x14 x15,s'⟩)∧Wo c s' n g ad (b+1) K':=by
 have m1:kZ (.int 60) (.int (tt:Int))=some (.int (60*(tt:Int))):=by
  match tt,ht with
  | 0,_=>rfl
  | 1,_=>rfl
 have m2:kZ (.int 9) (.int (k:Int))=some (.int (9*(k:Int))):=by
  match k,hk with
  | 0,_=>rfl
  | 1,_=>rfl
  | 2,_=>rfl
  | 3,_=>rfl
 have m3:kZ (.int 10) (.int (tt:Int))=some (.int (10*(tt:Int))):=by
  match tt,ht with
  | 0,_=>rfl
  | 1,_=>rfl
 generalize hh:(100+60*(tt:Int)+9*(k:Int))=he;obtain ⟨j,hj,d1⟩:=iG hn (k:=he) (m:=2) (by omega) (by decide);obtain ⟨a,ha,d2⟩:=iG hn (k:=he+1) (m:=4) (by omega) (by decide);obtain ⟨u,_,d3⟩:=iG hn (k:=he+2) (m:=9) (by omega) (by decide);obtain ⟨v,_,d4⟩:=iG hn (k:=he+3) (m:=9) (by omega) (by decide);obtain ⟨way,hw,e8⟩:=KY (a:=a) (by omega);have hj2:j < 2:=by omega
 obtain ⟨s1,s2,rows,K',f1,f2,f3,f4,f5⟩:=w.ev t tn hb hw hj2 (10*(tt:Int)+(k:Int)) ((u:Int) - 1) ((v:Int) - 1);refine ⟨some (.d (.int he)),some (.d (.int (j:Nat))),some (.d (.int (way:Nat))),some (.d (.int ((u:Int) - 1))),some (.d (.int ((v:Int) - 1))),some (.d (Rw c rows)),s2,K',?_,f5⟩;refine ai (w1:=⟨G ns c.d n g (tt:Int) (some (.d (.int (k:Int)))) (some (.d (.int he))) x7 x8 x9 x10 x11 x12 x13 x14 x15,s⟩) (aY (au (ae (ae rfl (ae rfl rfl m1) rfl) (ae rfl rfl m2) (by show some (PyData.int (100+60*(tt:Int)+9*(k:Int)))=_; rw [hh])))) ?_;refine ai (aY (au (aW (af rfl (af rfl (af rfl rfl))) d1))) ?_;refine ai (aY (au (ae (cx (eN (af rfl (af rfl (af rfl (af rfl rfl)))) (eS (by simp)))) (aW (af rfl (af (ae rfl rfl rfl) (af rfl rfl))) d2) e8))) ?_;refine ai (aY (au (ae (aW (af rfl (af (ae rfl rfl rfl) (af rfl rfl))) d3) rfl rfl))) ?_;refine ai (aY (au (ae (aW (af rfl (af (ae rfl rfl rfl) (af rfl rfl))) d4) rfl rfl))) ?_;refine ai (aY (kF (aO (au rfl) (aO (ixl w.li rfl rfl hj2) (aO (au rfl) (aO (au (ae (ae rfl rfl m3) rfl rfl)) (aO (au rfl) (aO (au rfl) rfl)))))) f1)) ?_;refine j7 (iJ (jl (kF (aO rfl (aO (au rfl) (aO (au rfl) (aO (au (ae (ae rfl rfl m3) rfl rfl)) (aO (au rfl) (aO (au rfl) rfl)))))) f2) (au rfl) rfl rfl (Kh t.ok f3) rfl))
theorem zg (hn:ns.length≤63) (t:Tr c ps (In ps) (z0 ps)) (tn:Tn c ps) {tt:Nat} (ht:tt < 2):∀ (ks:List Nat) (s:Sto) (b:Nat) (K:Int→Hd) (x5 x6 x7 x8 x9 x10 x11 x12 x13 x14 x15:Option D),(∀ k∈ks,k < 4)→Wo c s n g ad b K→b+ks.length < 1000 →
  ∃ y5 y6 y7 y8 y9 y10 y11 s' K',mGo [5] (tgN 5) evB (ks.map fun k:Nat=>PyData.int (k:Int)) ⟨G ns c.d n g (tt:Int) x5 x6 x7 x8 x9 x10 x11 x12 x13 x14 x15,s⟩=some (.nx ⟨G ns c.d n g (tt:Int) y5 y6 y7 y8 y9 y10 y11 x12 x13 x14 x15,s'⟩)∧Wo c s' n g ad (b+ks.length) K'
 | [],s,b,K,x5,x6,x7,x8,x9,x10,x11,x12,x13,x14,x15,_,w,_=>⟨x5,x6,x7,x8,x9,x10,x11,s,K,rfl,w⟩
 | k::ks,s,b,K,x5,x6,x7,x8,x9,x10,x11,x12,x13,x14,x15,hk,w,hb=>by
  rw [L1] at hb;obtain ⟨y6,y7,y8,y9,y10,y11,s1,K1,e1,w1⟩:=GS hn t tn w (by omega) ht (hk k L7) x6 x7 x8 x9 x10 x11 x12 x13 x14 x15;obtain ⟨z5,z6,z7,z8,z9,z10,z11,s2,K2,e2,w2⟩:=zg hn t tn ht ks s1 (b+1) K1 (some (.d (.int (k:Int)))) y6 y7 y8 y9 y10 y11 x12 x13 x14 x15 (fun i hi=>hk i (LX _ hi)) w1 (by omega);refine ⟨z5,z6,z7,z8,z9,z10,z11,s2,K2,?_,by rw [L1,show b+(ks.length+1)=b+1+ks.length by omega]; exact w2⟩;rw [LW];unfold mGo;rw [i6 (w:=⟨G ns c.d n g (tt:Int) x5 x6 x7 x8 x9 x10 x11 x12 x13 x14 x15,s⟩) (by show 5 < 16; decide),LM];show (evB ⟨G ns c.d n g (tt:Int) (some (.d (.int (k:Int)))) x6 x7 x8 x9 x10 x11 x12 x13 x14 x15,s⟩).bind _=_;rw [e1,LM];exact e2
end
noncomputable abbrev G1:Wd→Option MOut:=(mIf (DA (mB (dP pNe (cO 1 "over" dL (mV 2) (maC (mP (eV 7)) maN)) (cQ (vY (mV 3) (mP (eV 7))) (mP (eC (.str "over")))))) (mB (dP pNe (cO 1 "holder" cL (mV 2) (maC (mP (eV 7)) maN)) (cQ (vY (mV 3) (mP (eV 7))) (mP (eC (.str "held"))))))) (fU (mP (eC (.bool false)))) mNx)
section
variable {c:Sc} {s:Sto} {n g b:Nat} {ad:Nat→Nat} {K:Int→Hd} {ns:List Int}
theorem Fe (ok:c.Ok) (w:Wo c s n g ad b K) (hb:b < 900) {tt:Int} {j:Nat} (hj:j < 2) (x5 x6 x8 x9 x10 x11 x12 x13 x14 x15:Option D) :
  ∃ s',G1 ⟨G ns c.d n g tt x5 x6 (some (.d (.int (j:Int)))) x8 x9 x10 x11 x12 x13 x14 x15,s⟩=some (.nx ⟨G ns c.d n g tt x5 x6 (some (.d (.int (j:Int)))) x8 x9 x10 x11 x12 x13 x14 x15,s'⟩)∧Wo c s' n g ad (b+2) K:=by
 obtain ⟨s1,e1,w1⟩:=w.step (by omega) (fun kd kvs H hl=>LI H hl (j:Int)) w.lw w.hz;obtain ⟨s2,e2,w2⟩:=w1.step (by omega) (fun kd kvs H hl=>JH H hl (j:Int)) w1.lw w1.hz;obtain ⟨l1,lo1,_⟩:=w1.lw j hj;obtain ⟨l2,lo2,_⟩:=w2.lw j hj;obtain ⟨kd,o0⟩:=w.ob;obtain ⟨kd1,o1⟩:=w1.ob;refine ⟨s2,j7 (JO (iJ (jl (cV (n:=n) rfl o0 rfl (aO (au rfl) rfl) e1) (pH (ixl w1.li rfl rfl hj) (au rfl) rfl lo1 (Kq c _ l1)) rfl rfl (Kg ok _) rfl)) (iJ (jl (cV (n:=n) rfl o1 rfl (aO (au rfl) rfl) e2) (pH (ixl w2.li rfl rfl hj) (au rfl) rfl lo2 (Kr c _ l2)) rfl rfl (wI (Dg ok _)) rfl))),w2⟩
theorem xm (ok:c.Ok) {tt:Int}:∀ (ks:List Nat) (s:Sto) (b:Nat) (x5 x6 x7 x8 x9 x10 x11 x12 x13 x14 x15:Option D),(∀ k∈ks,k < 2)→Wo c s n g ad b K→b+2*ks.length < 900 →
  ∃ y7 s',mGo [7] (tgN 7) G1 (ks.map fun k:Nat=>PyData.int (k:Int)) ⟨G ns c.d n g tt x5 x6 x7 x8 x9 x10 x11 x12 x13 x14 x15,s⟩=some (.nx ⟨G ns c.d n g tt x5 x6 y7 x8 x9 x10 x11 x12 x13 x14 x15,s'⟩)∧Wo c s' n g ad (b+2*ks.length) K
 | [],s,b,x5,x6,x7,x8,x9,x10,x11,x12,x13,x14,x15,_,w,_=>⟨x7,s,rfl,w⟩
 | k::ks,s,b,x5,x6,x7,x8,x9,x10,x11,x12,x13,x14,x15,hk,w,hb=>by
  rw [L1] at hb;obtain ⟨s1,e1,w1⟩:=Fe (ns:=ns) (tt:=tt) ok w (by omega) (hk k L7) x5 x6 x8 x9 x10 x11 x12 x13 x14 x15;obtain ⟨z7,s2,e2,w2⟩:=xm ok ks s1 (b+2) x5 x6 (some (.d (.int (k:Int)))) x8 x9 x10 x11 x12 x13 x14 x15 (fun i hi=>hk i (LX _ hi)) w1 (by omega);refine ⟨z7,s2,?_,by rw [L1,show b+2*(ks.length+1)=b+2+2*ks.length by omega]; exact w2⟩;rw [LW];unfold mGo;rw [i6 (w:=⟨G ns c.d n g tt x5 x6 x7 x8 x9 x10 x11 x12 x13 x14 x15,s⟩) (by show 7 < 16; decide),LM];show (G1 ⟨G ns c.d n g tt x5 x6 (some (.d (.int (k:Int)))) x8 x9 x10 x11 x12 x13 x14 x15,s⟩).bind _=_;rw [e1,LM];exact e2
end
noncomputable abbrev Aw (ky:Str):MF:=mFz (mcL [none,some 14] (iM (cQ (mV 15) (mP (eC (.str ky))))) [0] (tgN 0) (tPv (bT (L2.PU.l2 (pIn false) (eV 0) (eV 1)))) (mP (eV 0)))
noncomputable abbrev lcB:Wd→Option MOut:=(aH (bI 15 (vY (mV 3) (mP (eV 7))))
  (aH (gW (mV 15) (mP (eC (.str "over"))) (Aw "over"))
  (aH (mIf (mB (dP (iD true) (cQ (mV 15) (mP (eC (.str "pressed")))) (mP (eC .none)))) (gW (mV 15) (mP (eC (.str "pressed"))) (Aw "pressed")) mNx)
  (mIf (oG (mB (dP (iD true) (cQ (mV 15) (mP (eC (.str "held")))) (mP (eC .none)))) (mB (dP (pIn true) (cQ (mV 15) (mP (eC (.str "held")))) (mP (eV 14))))) (aH (qk (vA (mV 11) (mq (maC (mP (eV 7)) (maC (cQ (mV 15) (mP (eC (.str "held")))) maN)))))
  (gW (mV 15) (mP (eC (.str "held"))) (mP (eC .none)))) mNx))))
noncomputable def bxs (c:Sc):List Nat:=c.st.map (·.1)
theorem Cz (c:Sc) (x:Nat):decide (x∈bxs c)=isB c.st x:=by
 unfold isB bxs
 induction c.st with
 | nil=>rfl
 | cons e r ih =>
  rw [LW,Mt,← ih];by_cases h:e.1=x
  ·subst h; simp
  ·have h':¬ x=e.1:=fun z=>h z.symm;simp [h,h']
section
variable {c:Sc} {s:Sto} {n g R a j:Nat} {ad:Nat→Nat} {h:Hd} {l:Option (Nat×Int)} {ns:List Int} {sc:PyData} {tt:Int} {rows:List (Int×Nat)} {x5 x6 x8 x9 x10 x12 x13 x15:Option D}
noncomputable abbrev G' (ns:List Int) (sc:PyData) (n g:Nat) (tt:Int) (x5 x6:Option D) (j:Nat) (x8 x9 x10:Option D) (R:Nat) (x12 x13:Option D) (c:Sc) (x15:Option D):MEn:=G ns sc n g tt x5 x6 (some (.d (.int (j:Int)))) x8 x9 x10 (some (.r R)) x12 x13 (some (.d (c.S (bxs c)))) x15
theorem Cy (ok:c.Ok) {ky:Str} {q:List Nat} (hq:q.length≤7) (e1:cQ (mV 15) (mP (eC (.str ky))) ⟨G' ns sc n g tt x5 x6 j x8 x9 x10 R x12 x13 c (some (.r a)),s⟩=some (.d (c.S q),s)):Aw ky ⟨G' ns sc n g tt x5 x6 j x8 x9 x10 R x12 x13 c (some (.r a)),s⟩=some (.d (c.S (q.filter (isB c.st))),s++[.fz (c.S (q.filter (isB c.st)))]):=by
 have e2:=ub (mp:=[none,some 14]) (ks:=[0]) (t:=tgN 0) (p:=tPv (bT (L2.PU.l2 (pIn false) (eV 0) (eV 1)))) (f:=mP (eV 0)) c.s (isB c.st) c.s (fun x=>[some (.d (c.s x)),some (.d (c.S (bxs c)))]) q (CB e1) (by omega) fun x hx acc =>
  ⟨i6 (w:=⟨[none,some (.d (c.S (bxs c)))],_⟩) (by show 0 < 2; decide),bB (bm (ae rfl rfl ((Eg ok false x (bxs c)).trans (by rw [← Cz]; rfl)))),fun _=>au rfl⟩
 exact EA e2
end
noncomputable def Kp (s s':Sto) (a R:Nat):Prop:=s.length≤s'.length∧∀ i,i < s.length→i≠a→i≠R→s'[i]?=s[i]?
theorem Kp.trans {s s1 s2:Sto} {a R:Nat} (h1:Kp s s1 a R) (h2:Kp s1 s2 a R):Kp s s2 a R:=⟨L9 h1.1 h2.1,fun i hi ha hr=>(h2.2 i (L5 hi h1.1) ha hr).trans (h1.2 i hi ha hr)⟩
theorem EJ {s:Sto} {a R:Nat} (t:Sto):Kp s (s++t) a R:=⟨by rw [LQ]; omega,fun i hi _ _=>LR hi⟩
theorem Bm {s:Sto} {a R:Nat} {x:Cell}:Kp s (s.set a x) a R:=⟨by rw [L6]; exact LS _,fun i _ ha _=>LP (Ne.symm ha)⟩
theorem kp_setR {s:Sto} {a R:Nat} {x:Cell}:Kp s (s.set R x) a R:=⟨by rw [L6]; exact LS _,fun i _ _ hr=>LP (Ne.symm hr)⟩
section
variable {c:Sc} {s:Sto} {n g R a j:Nat} {l:Option (Nat×Int)} {ns:List Int} {sc:PyData} {tt:Int} {x5 x6 x8 x9 x10 x12 x13 x15:Option D}
theorem GI (ok:c.Ok) {tr:List Nat} {pr:Option (List Nat)} {he ck:Option Nat} {mo:Int} {db:Bool} (hc:Lo c s a ⟨tr,pr,he,ck,mo,db⟩ l) (ht:tr.length≤7) (hq:∀ q,pr=some q→q.length≤7) {Rc:Cell} (hR:s[R]?=some Rc) (hRa:R≠a) :
  ∃ s2,(∀ (r:Option MOut) (k:Wd→Option MOut),k ⟨G' ns sc n g tt x5 x6 j x8 x9 x10 R x12 x13 c (some (.r a)),s2⟩=r→(aH (gW (mV 15) (mP (eC (.str "over"))) (Aw "over"))
   (aH (mIf (mB (dP (iD true) (cQ (mV 15) (mP (eC (.str "pressed")))) (mP (eC .none)))) (gW (mV 15) (mP (eC (.str "pressed"))) (Aw "pressed")) mNx) k)) ⟨G' ns sc n g tt x5 x6 j x8 x9 x10 R x12 x13 c (some (.r a)),s⟩=r)∧Lo c s2 a ⟨tr.filter (isB c.st),pr.map (·.filter (isB c.st)),he,ck,mo,db⟩ l∧s2[R]?=some Rc∧Kp s s2 a R:=by
 have k1:=Cy (j:=j) (R:=R) (x12:=x12) (x13:=x13) (x5:=x5) (x6:=x6) (x8:=x8) (x9:=x9) (x10:=x10) (ns:=ns) (sc:=sc) (n:=n) (g:=g) (tt:=tt) ok ht (Jr (w:=⟨G' ns sc n g tt x5 x6 j x8 x9 x10 R x12 x13 c (some (.r a)),s⟩) (i:=15) rfl hc);have p1:=Hx (w:=⟨G' ns sc n g tt x5 x6 j x8 x9 x10 R x12 x13 c (some (.r a)),s⟩) (i:=15) rfl (hc.app [.fz (c.S (tr.filter (isB c.st)))]) k1;have hc1:Lo c _ a ⟨tr.filter (isB c.st),pr,he,ck,mo,db⟩ l:=(hc.app [.fz (c.S (tr.filter (isB c.st)))]).set ⟨tr.filter (isB c.st),pr,he,ck,mo,db⟩ l;have q1:Kp s ((s++[Cell.fz (c.S (tr.filter (isB c.st)))]).set a (.dct (kvL c ⟨tr.filter (isB c.st),pr,he,ck,mo,db⟩ l))) a R:=(EJ _).trans Bm;have hR1:((s++[Cell.fz (c.S (tr.filter (isB c.st)))]).set a (.dct (kvL c ⟨tr.filter (isB c.st),pr,he,ck,mo,db⟩ l)))[R]?=some Rc:=by
  rw [LP (Ne.symm hRa),LR (fP hR)]; exact hR
 have tp:=DZ (w:=⟨G' ns sc n g tt x5 x6 j x8 x9 x10 R x12 x13 c (some (.r a)),_⟩) (i:=15) rfl hc1 true;cases pr with
 | none=>exact ⟨_,fun r k hk=>ai p1 (ai (j7 (iJ tp)) hk),hc1,hR1,q1⟩
 | some q =>
  have k2:=Cy (j:=j) (R:=R) (x12:=x12) (x13:=x13) (x5:=x5) (x6:=x6) (x8:=x8) (x9:=x9) (x10:=x10) (ns:=ns) (sc:=sc) (n:=n) (g:=g) (tt:=tt) (q:=q) ok (hq q rfl) (Jq (w:=⟨G' ns sc n g tt x5 x6 j x8 x9 x10 R x12 x13 c (some (.r a)),_⟩) (i:=15) rfl hc1);have p2:=DQ (w:=⟨G' ns sc n g tt x5 x6 j x8 x9 x10 R x12 x13 c (some (.r a)),_⟩) (i:=15) (p:=some (q.filter (isB c.st))) rfl (hc1.app [.fz (c.S (q.filter (isB c.st)))]) k2;refine ⟨_,fun r k hk=>ai p1 (ai (mG (iJ tp) p2) hk),(hc1.app [.fz (c.S (q.filter (isB c.st)))]).set ⟨tr.filter (isB c.st),some (q.filter (isB c.st)),he,ck,mo,db⟩ l,?_,q1.trans ((EJ _).trans Bm)⟩;rw [LP (Ne.symm hRa),LR (fP hR1)]; exact hR1
theorem Cu {ad:Nat→Nat} {h:Hd} {rows:List (Int×Nat)} (ok:c.Ok) (hL:s[g]?=some (.lst [.r (ad 0),.r (ad 1)])) (hj:j < 2) (hc:Lo c s (ad j) h l) (hb:Bd h) (hR:s[R]?=some (.lst (rows.map fun r=>D.d (hD c r)))) (hRa:R≠ad j) (hr:rows.length≤100) :
  ∃ s',lcB ⟨G' ns sc n g tt x5 x6 j x8 x9 x10 R x12 x13 c x15,s⟩=some (.nx ⟨G' ns sc n g tt x5 x6 j x8 x9 x10 R x12 x13 c (some (.r (ad j))),s'⟩)∧Lo c s' (ad j) (fgt (isB c.st) h) l∧s'[R]?=some (.lst ((rows++(lost (isB c.st) h).map fun x=>((j:Int),x)).map fun r=>D.d (hD c r)))∧Kp s s' (ad j) R:=by
 obtain ⟨tr,pr,he,ck,mo,db⟩:=h;obtain ⟨s2,st,hc2,hR2,q2⟩:=GI (ns:=ns) (sc:=sc) (n:=n) (g:=g) (tt:=tt) (j:=j) (x5:=x5) (x6:=x6) (x8:=x8) (x9:=x9) (x10:=x10) (x12:=x12) (x13:=x13) ok hc hb.1 hb.2 hR hRa;have th:=uY (w:=⟨G' ns sc n g tt x5 x6 j x8 x9 x10 R x12 x13 c (some (.r (ad j))),s2⟩) (i:=15) rfl hc2 true;have ah:=Js (w:=⟨G' ns sc n g tt x5 x6 j x8 x9 x10 R x12 x13 c (some (.r (ad j))),s2⟩) (i:=15) rfl hc2;have e0:bI 15 (vY (mV 3) (mP (eV 7))) ⟨G' ns sc n g tt x5 x6 j x8 x9 x10 R x12 x13 c x15,s⟩=some (.nx ⟨G' ns sc n g tt x5 x6 j x8 x9 x10 R x12 x13 c (some (.r (ad j))),s⟩):=aY (ixl hL rfl rfl hj);cases he with
 | none =>
  refine ⟨s2,ai e0 (st _ _ (j7 (yE (iJ th)))),hc2,?_,q2⟩;rw [hR2];show _=some (Cell.lst ((rows++[]).map fun r=>D.d (hD c r)));rw [Mn]
 | some x =>
  have tn:mB (dP (pIn true) (cQ (mV 15) (mP (eC (.str "held")))) (mP (eV 14))) ⟨G' ns sc n g tt x5 x6 j x8 x9 x10 R x12 x13 c (some (.r (ad j))),s2⟩=some (!isB c.st x,s2):=iJ (jl ah (au rfl) rfl rfl ((Eg ok true x (bxs c)).trans (by rw [← Cz]; rfl)) rfl);cases hB:isB c.st x with
  | true =>
   rw [hB] at tn;have e1:lost (isB c.st) ⟨tr,pr,some x,ck,mo,db⟩=[]:=if_pos hB;have e2:fgt (isB c.st) ⟨tr,pr,some x,ck,mo,db⟩=⟨tr.filter (isB c.st),pr.map (·.filter (isB c.st)),some x,ck,mo,db⟩:=by
    unfold fgt;simp [Option.filter,hB]
   rw [e1,e2];refine ⟨s2,ai e0 (st _ _ (j7 (yD (iJ th) tn))),hc2,?_,q2⟩;rw [hR2,M5,Mn]
  | false =>
   rw [hB] at tn;have e1:lost (isB c.st) ⟨tr,pr,some x,ck,mo,db⟩=[x]:=if_neg (by rw [hB]; decide);have e2:fgt (isB c.st) ⟨tr,pr,some x,ck,mo,db⟩=⟨tr.filter (isB c.st),pr.map (·.filter (isB c.st)),none,ck,mo,db⟩:=by
    unfold fgt;simp [Option.filter,hB]
   rw [e1,e2];have eT:mq (maC (mP (eV 7)) (maC (cQ (mV 15) (mP (eC (.str "held")))) maN)) ⟨G' ns sc n g tt x5 x6 j x8 x9 x10 R x12 x13 c (some (.r (ad j))),s2⟩=some (.d (.tuple [.int (j:Int),c.s x]),s2):=ue (ds:=[.d (.int (j:Int)),.d (c.s x)]) (aO (au rfl) (aO ah rfl)) rfl (by simp);have ea:=Ao (o:=mV 11) (ds:=rows.map fun r=>D.d (hD c r)) (pG (i:=11) (w:=⟨G' ns sc n g tt x5 x6 j x8 x9 x10 R x12 x13 c (some (.r (ad j))),s2⟩) rfl) hR2 eT hR2 (by rw [LO]; omega);have hc3:Lo c (s2.set R (.lst ((rows.map fun r=>D.d (hD c r))++[.d (.tuple [.int (j:Int),c.s x])]))) (ad j) ⟨tr.filter (isB c.st),pr.map (·.filter (isB c.st)),some x,ck,mo,db⟩ l:=by
    show (s2.set R _)[ad j]?=_;rw [LP hRa]; exact hc2
   have p3:=DS (w:=⟨G' ns sc n g tt x5 x6 j x8 x9 x10 R x12 x13 c (some (.r (ad j))),_⟩) (i:=15) (p:=none) (e:=mP (eC .none)) rfl hc3 (au rfl);refine ⟨_,ai e0 (st _ _ (mG (yD (iJ th) tn) (ai (wk ea) p3))),hc3.set ⟨tr.filter (isB c.st),pr.map (·.filter (isB c.st)),none,ck,mo,db⟩ l,?_,q2.trans (kp_setR.trans Bm)⟩;rw [LP (Ne.symm hRa),yK hR2,Mo]; rfl
end
noncomputable def lren (ρ:Nat→Nat) (l:Option (Nat×Int)):Option (Nat×Int):=l.map fun e=>(ρ e.1,e.2)
section
variable {c c2:Sc} {ρ:Nat→Nat} (hρ:∀ x,c2.nm (ρ x)=c.nm x)
include hρ
theorem Lo.ren {s:Sto} {a:Nat} {h:Hd} {l:Option (Nat×Int)} (hc:Lo c s a h l):Lo c2 s a (K24.ren ρ h) (lren ρ l):=by
 show s[a]?=some (.dct (kvL c2 (K24.ren ρ h) (lren ρ l)));have e:kvL c2 (K24.ren ρ h) (lren ρ l)=kvL c h l:=by
  unfold kvL K24.ren;dsimp only;rw [FA hρ,HE hρ,EL hρ];cases l with
  | none=>rfl
  | some e =>
   obtain ⟨x,m⟩:=e;show [_,_,_,((Sum.inr "last" : Key),D.d (.tuple [c2.s (ρ x),.int m]))]=_;rw [DG hρ]; rfl
 rw [e]; exact hc
omit hρ in
theorem Cl {h:Hd} {l:Option (Nat×Int)} {B:Nat→Bool} (hk:okL l h):okL (lren ρ l) (fgt B (K24.ren ρ h)):=by
 cases l with
 | none =>
  rcases hk with e | e
  ·left
   show h.clk.map ρ=none;rw [e]; rfl
  ·exact .inr e
 | some e =>
  obtain ⟨x,m⟩:=e;obtain ⟨e1,e2,e3⟩:=hk;refine ⟨?_,e2,e3⟩;show h.clk.map ρ=some (ρ x);rw [e1]; rfl
end
theorem ug {ks:List Nat} {t:En→PyData→Option En} {body:Wd→Option MOut} {d:PyData} {ds:List PyData} {w w1 w2:Wd} (h1:mTg ks t w d=some w1) (h2:body w1=some (.nx w2)):mGo ks t body (d::ds) w=mGo ks t body ds w2:=by
 rw [mGo];rw [h1,LM,h2,LM]
theorem HH {c:Sc} (h:c.Ok):∀ l:List (Int×Nat),PyData.canLayAll0 (l.map (hD c))=true∧PyData.depthAll (l.map (hD c))≤1
 | []=>⟨rfl,by simp [PyData.depthAll]⟩
 | r::l=>by
  obtain ⟨h1,h2⟩:=HH h l;refine ⟨?_,?_⟩
  ·simp [hD,Sc.s,PyData.canLayAll0,PyData.canLay0,h.ok,h1]
  ·simp [hD,Sc.s,PyData.depthAll,PyData.depth];omega
theorem Ki {c:Sc} (h:c.Ok) (l:List (Int×Nat)):pNe (.list (l.map (hD c))) (.list (l.map (hD c)))=some (.bool false):=by
 obtain ⟨h1,h2⟩:=HH h l;refine wI ?_;have h3:PyData.depthAll (l.map (hD c))=0∨PyData.depthAll (l.map (hD c))=1:=by omega
 rcases h3 with h3 | h3
 ·simp [SeqAt.shaped,PyData.canLay0,PyData.depth,h1,h3]
 ·simp [SeqAt.shaped,PyData.canLay0,PyData.depth,h1,h3]
theorem DJ {η:En}:(fun η=>((aC (eC (.int 2)) aN) η).bind rng1) η=some ([0,1].map fun k:Nat=>PyData.int (k:Int)):=rfl
theorem J3 {η:En}:(fun η=>((aC (eC (.int 4)) aN) η).bind rng1) η=some ([0,1,2,3].map fun k:Nat=>PyData.int (k:Int)):=rfl
section
variable {c c2:Sc} {ρ:Nat→Nat} {s:Sto} {n g b:Nat} {ad:Nat→Nat} {K:Int→Hd} {ns:List Int} {sc:PyData}
theorem Fw (ok:c2.Ok) (hρ:∀ x,c2.nm (ρ x)=c.nm x) (w:Wo c s n g ad b K) (hb:b < 50) {tt:Int} (x5 x6 x7 x8 x9 x10 x11 x13 x15:Option D) :
  ∃ y7 y11 y15 s' K',(aH (bI 11 (mN (fun η=>(aN η).bind gL)))
   (aH (sQ [7] (iPu (fun η=>((aC (eC (.int 2)) aN) η).bind rng1)) (tgN 7) lcB)
   (aH (mIf (mB (dP pNe (cO 1 "change" bi (mV 2) (maC (mP (eV 12)) maN)) (mV 11))) (fU (mP (eC (.bool false)))) mNx)
   (bI 1 (mP (eV 12)))))) ⟨G ns sc n g tt x5 x6 x7 x8 x9 x10 x11 (some (.d c2.d)) x13 (some (.d (c2.S (bxs c2)))) x15,s⟩=some (.nx ⟨G ns c2.d n g tt x5 x6 y7 x8 x9 x10 y11 (some (.d c2.d)) x13 (some (.d (c2.S (bxs c2)))) y15,s'⟩)∧Wo c2 s' n g ad b K':=by
 obtain ⟨kd,kvs,H,hl,hg,ha⟩:=w.ho;have al:∀ i,i < 2→ad i < s.length:=fun i hi=>by obtain ⟨l,h1,_⟩:=w.lw i hi; exact fP h1
 obtain ⟨l0,lo0,lk0⟩:=w.lw 0 (by decide);obtain ⟨l1,lo1,lk1⟩:=w.lw 1 (by decide);have a0:=al 0 (by decide);have a1:=al 1 (by decide);have gl:=fP w.li;have len0:(s++[Cell.lst []]).length=s.length+1:=by simp
 have hL0:(s++[Cell.lst []])[g]?=some (.lst [.r (ad 0),.r (ad 1)]):=by rw [LR gl]; exact w.li
 obtain ⟨s1,e1,c1,r1,q1⟩:=Cu (ns:=ns) (sc:=sc) (n:=n) (tt:=tt) (R:=s.length) (rows:=[]) (j:=0) (x5:=x5) (x6:=x6) (x8:=x8) (x9:=x9) (x10:=x10) (x12:=some (.d c2.d)) (x13:=x13) (x15:=x15) ok hL0 (by decide) ((Lo.ren hρ lo0).app [Cell.lst []]) (BF hρ (H.bd 0)) (ur _ _) (by omega) (by simp);have hL1:s1[g]?=some (.lst [.r (ad 0),.r (ad 1)]):=by rw [q1.2 g (by omega) (w.gne (by decide)) (by omega)]; exact hL0
 have lo1':Lo c2 s1 (ad 1) (K24.ren ρ (K (((1:Nat)):Int))) (lren ρ l1):=by
  show s1[ad 1]?=_;rw [q1.2 (ad 1) (by omega) (Ne.symm w.ne) (by omega),LR a1];exact Lo.ren hρ lo1
 have ll:((lost (isB c2.st) (K24.ren ρ (K ((0:Nat):Int)))).map fun x=>(((0:Nat):Int),x)).length≤1:=by
  rw [LO];unfold lost
  split <;> (try split) <;> simp
 obtain ⟨s2,e2,c2',r2,q2⟩:=Cu (ns:=ns) (sc:=sc) (n:=n) (tt:=tt) (R:=s.length) (j:=1) (x5:=x5) (x6:=x6) (x8:=x8) (x9:=x9) (x10:=x10) (x12:=some (.d c2.d)) (x13:=x13) (x15:=some (.r (ad 0))) ok hL1 (by decide) lo1' (BF hρ (H.bd 1)) r1 (by omega) (by rw [List.nil_append]; omega);have ls1:=q1.1;have ls2:=q2.1;have fr:∀ i,i < s.length→i≠ad 0→i≠ad 1→s2[i]?=s[i]?:=fun i hi h0 h1=>by
  rw [q2.2 i (by omega) h1 (by omega),q1.2 i (by omega) h0 (by omega),LR hi]
 have H2:HOk c s2 n kd kvs K:=H.frame fun i hi=>fr i (H.lt hi) (fun z=>ha 0 (by decide) (z ▸ hi)) (fun z=>ha 1 (by decide) (z ▸ hi));obtain ⟨s3,f1,f2,f3⟩:=FJ ok hρ H2 (by omega) w.hz;have oR:¬ Own n kd kvs s.length:=fun z=>by have:=H.lt z; omega
 have rR:s3[s.length]?=some (.lst ((zV (isB c2.st) fun j=>K24.ren ρ (K j)).map fun r=>D.d (hD c2 r))):=by
  rw [f3.kp _ (by omega) oR,r2]; rfl
 have fr3:∀ i,i < s2.length→¬ Own n kd kvs i→s3[i]?=s2[i]?:=fun i hi ho=>f3.kp i hi ho;refine ⟨some (.d (.int ((1:Nat):Int))),some (.r s.length),some (.r (ad 1)),s3,fun j=>fgt (isB c2.st) (K24.ren ρ (K j)),?_,⟨kd,kvs,f2,hl,hg,ha⟩,?_,fun i hi=>?_,w.ne,fun j h0 h1=>?_⟩
 ·refine ai (w1:=⟨G ns sc n g tt x5 x6 x7 x8 x9 x10 (some (.r s.length)) (some (.d c2.d)) x13 (some (.d (c2.S (bxs c2)))) x15,s++[Cell.lst []]⟩) (aY rfl) ?_;refine ai (w1:=⟨G' ns sc n g tt x5 x6 1 x8 x9 x10 s.length (some (.d c2.d)) x13 c2 (some (.r (ad 1))),s2⟩) (nL (sU DJ) ?_) ?_
  ·refine (ug (i6 (w:=⟨G ns sc n g tt x5 x6 x7 x8 x9 x10 (some (.r s.length)) (some (.d c2.d)) x13 (some (.d (c2.S (bxs c2)))) x15,s++[Cell.lst []]⟩) (by show 7 < 16; decide)) e1).trans ?_;exact (ug (i6 (w:=⟨G' ns sc n g tt x5 x6 0 x8 x9 x10 s.length (some (.d c2.d)) x13 c2 (some (.r (ad 0))),s1⟩) (by show 7 < 16; decide)) e2).trans rfl
  ·refine ai (j7 (s:=s3) (iJ (jl (d2:=.r s.length) (cV (n:=n) rfl H2.ob rfl (aO (au rfl) rfl) f1) rfl rfl ?_ (Ki ok _) rfl))) (aY (au rfl));unfold lD;dsimp only;rw [rR];dsimp only;rw [sX]; rfl
 ·rw [fr3 g (by omega) hg,fr g gl (w.gne (by decide)) (w.gne (by decide))]; exact w.li
 ·have h2:i=0∨i=1:=by omega
  rcases h2 with rfl | rfl
  ·refine ⟨lren ρ l0,?_,Cl lk0⟩;show s3[ad 0]?=_;rw [fr3 _ (by omega) (ha 0 (by decide)),q2.2 _ (by omega) w.ne (by omega)];exact c1
  ·refine ⟨lren ρ l1,?_,Cl lk1⟩;show s3[ad 1]?=_;rw [fr3 _ (by omega) (ha 1 (by decide))];exact c2'
 ·show fgt (isB c2.st) (K24.ren ρ (K j))=hd0;rw [w.hz j h0 h1]; rfl
end
noncomputable def nums (N:Nat):List Nat:=(List.range N).map (·+1)
noncomputable def rem (N:Nat) (keep:Nat→Bool):List Nat:=(nums N).filter keep
noncomputable def EW (N:Nat) (keep:Nat→Bool):List Nat:=(nums N).filter fun q=>!keep q
noncomputable def rS (N:Nat) (keep:Nat→Bool):List Nat:=rem N keep++EW N keep
noncomputable def piN (N:Nat) (keep:Nat→Bool) (i:Nat):Nat:=if 1≤i∧i≤N then (rS N keep).getD (i - 1) 0 else i
noncomputable def roN (N:Nat) (keep:Nat→Bool) (x:Nat):Nat:=if 1≤x∧x≤N then (rS N keep).idxOf x+1 else x
section
variable {N:Nat} {keep:Nat→Bool}
theorem Ak {x:Nat}:x∈nums N↔1≤x∧x≤N:=by
 unfold nums;rw [M6]
 constructor
 ·rintro ⟨a,h,rfl⟩
  have:=MN.mp h
  omega
 ·intro h;exact ⟨x - 1,MN.mpr (by omega),by omega⟩
theorem nums_lt:(nums N).Pairwise (· < ·):=by
 unfold nums;rw [List.pairwise_map];exact List.pairwise_lt_range.imp fun h=>by omega
theorem Iw:(rem N keep).Pairwise (· < ·):=nums_lt.filter _
theorem nums_nd:(nums N).Nodup:=nums_lt.imp fun h=>by omega
theorem mem_rem {x:Nat}:x∈rem N keep↔(1≤x∧x≤N)∧keep x=true:=by
 unfold rem;rw [Mr,Ak]
theorem all_mem {x:Nat}:x∈rS N keep↔1≤x∧x≤N:=by
 unfold rS EW;rw [MH,mem_rem,Mr,Ak];cases keep x <;> simp
theorem Jv:(rS N keep).Nodup:=by
 unfold rS;rw [M8];refine ⟨nums_nd.filter _,nums_nd.filter _,fun a ha b hb e=>?_⟩;subst e;have h1:=(mem_rem.mp ha).2;have h2:=(Mr.mp hb).2;rw [h1] at h2;cases h2
theorem AD (p:Nat→Bool):∀ l:List Nat,(l.filter p).length+(l.filter fun q=>!p q).length=l.length
 | []=>rfl
 | x::r=>by
  have:=AD p r
  cases h:p x <;> simp [h] <;> omega
theorem CO:(rS N keep).length=N:=by
 unfold rS rem EW;rw [LQ,AD];unfold nums;rw [LO,Mx]
theorem D3 {i:Nat} (h:i < N):∃ h':i < (rS N keep).length,piN N keep (i+1)=(rS N keep)[i]:=by
 have h':i < (rS N keep).length:=by rw [CO]; exact h
 refine ⟨h',?_⟩;unfold piN;rw [if_pos ⟨by omega,by omega⟩,Nat.add_sub_cancel,Mc,Me h']; rfl
theorem Hv (i:Nat):roN N keep (piN N keep i)=i:=by
 by_cases h:1≤i∧i≤N
 ·obtain ⟨j,rfl⟩:∃ j,i=j+1:=⟨i - 1,by omega⟩;obtain ⟨h',e⟩:=D3 (keep:=keep) (show j < N by omega);rw [e];have hm:=all_mem.mp (List.getElem_mem h');unfold roN;rw [if_pos hm,List.Nodup.idxOf_getElem Jv]
 ·unfold piN;rw [if_neg h];unfold roN;rw [if_neg h]
theorem HA (x:Nat):piN N keep (roN N keep x)=x:=by
 by_cases h:1≤x∧x≤N
 ·have hm:x∈rS N keep:=all_mem.mpr h;have hi:=List.idxOf_lt_length_of_mem hm;unfold roN;rw [if_pos h];obtain ⟨h',e⟩:=D3 (keep:=keep) (show (rS N keep).idxOf x < N by rw [CO] at hi; exact hi);rw [e,List.getElem_idxOf]
 ·unfold roN;rw [if_neg h];unfold piN;rw [if_neg h]
end
noncomputable def ps2 (ps:List Nat) (keep:Nat→Bool):List Nat:=(rem ps.length keep).map fun q=>roN ps.length keep (par ps q)
noncomputable def sub (c:Sc) (ps:List Nat) (keep:Nat→Bool):Sc:=⟨stF (ps2 ps keep),fun i=>c.nm (piN ps.length keep i),fun i=>c.L (piN ps.length keep i),fun i=>c.T (piN ps.length keep i),fun i=>c.W (piN ps.length keep i),fun i=>c.H (piN ps.length keep i),fun i=>c.mr (piN ps.length keep i)⟩
section
variable {c:Sc} {ps:List Nat} {keep:Nat→Bool}
theorem yL:(rem ps.length keep).length≤ps.length:=by
 unfold rem;refine L9 (MJ ..) ?_;unfold nums;rw [LO,Mx]; exact LS _
theorem DY {i:Nat} (h:i < (rem ps.length keep).length):(ps2 ps keep).getD i 0=roN ps.length keep (par ps (rem ps.length keep)[i]):=by
 unfold ps2;rw [Mc,L8,Me h]; rfl
theorem BV:roN ps.length keep 0=0:=by unfold roN; rw [if_neg (by omega)]
theorem Ik (ok:uC ps) (up:∀ q,In ps q→keep q=true→par ps q=0∨keep (par ps q)=true):uC (ps2 ps keep) where
 len:=by
  unfold ps2;rw [LO];exact L9 yL ok.len
 par:=fun i=>by
  by_cases h:i < (rem ps.length keep).length
  ·rw [DY h];have hq:=mem_rem.mp (List.getElem_mem h);generalize hqq:(rem ps.length keep)[i]=q at hq;rcases up q hq.1 hq.2 with e | e
   ·rw [e,BV]; exact Mz _
   ·have hlt:=qx ok hq.1.1;by_cases h0:K24.par ps q=0
    ·rw [h0,BV]; exact Mz _
    ·have hin:1≤K24.par ps q∧K24.par ps q≤ps.length:=⟨by omega,by have:=hq.1.2; omega⟩;have hm:K24.par ps q∈rem ps.length keep:=mem_rem.mpr ⟨hin,e⟩;unfold roN;rw [if_pos hin];have ei:(rS ps.length keep).idxOf (K24.par ps q)=(rem ps.length keep).idxOf (K24.par ps q):=by
      unfold rS;rw [List.idxOf_append,if_pos hm]
     rw [ei];have hl:=List.idxOf_lt_length_of_mem hm;apply Nat.lt_of_not_le;intro hle;rcases Nat.lt_or_eq_of_le hle with z | z
     ·have:=(List.pairwise_iff_getElem.mp (Iw (N:=ps.length) (keep:=keep))) i _ h hl z
      rw [hqq,List.getElem_idxOf] at this;omega
     ·have e3:(rem ps.length keep)[i]=K24.par ps q:=by
       have:=List.getElem_idxOf hl
       rw [← this]
       congr 1
      omega
  ·have e:(ps2 ps keep).getD i 0=0:=by
    rw [Mc,Mj (by unfold ps2; rw [LO]; omega)]; rfl
   rw [e]; exact Mz _
theorem Il (ok:c.Ok) (pk:uC ps):(sub c ps keep).Ok where
 inj:=fun a b e=>by
  have:=ok.inj _ _ e
  rw [← Hv (N:=ps.length) (keep:=keep) a,← Hv (N:=ps.length) (keep:=keep) b,this]
 top:=by
  show c.nm (piN ps.length keep 0) = "";unfold piN;rw [if_neg (by omega)];exact ok.top
 ok:=fun a=>ok.ok _
 okm:=fun a=>ok.okm _
 len:=by
  show (stF (ps2 ps keep)).length≤12;unfold stF ps2;rw [LO,Mx,LO]
  have:=pk.len
  have:=yL (ps:=ps) (keep:=keep)
  omega
theorem FR {i:Nat} (h:i < (rem ps.length keep).length):(sub c ps keep).box (i+1,(ps2 ps keep).getD i 0)=c.box ((rem ps.length keep)[i],par ps (rem ps.length keep)[i]):=by
 obtain ⟨h',e⟩:=D3 (keep:=keep) (show i < ps.length from L5 h yL);have e2:(rS ps.length keep)[i]=(rem ps.length keep)[i]:=by
  exact List.getElem_append_left h
 rw [e2] at e;unfold Sc.box sub;dsimp only;rw [e,DY h,HA]
theorem Ij:(sub c ps keep).st=(List.range (rem ps.length keep).length).map fun i=>(i+1,(ps2 ps keep).getD i 0):=by
 show stF (ps2 ps keep)=_;unfold stF;rw [show (ps2 ps keep).length=(rem ps.length keep).length from LO ..]
theorem JY:(sub c ps keep).d=.tuple ((rem ps.length keep).map fun q=>c.box (q,par ps q)):=by
 unfold Sc.d;rw [Ij,Ml]
 congr 1
 refine List.ext_getElem (by rw [LO,Mx,LO]) fun i h1 h2=>?_;rw [LO,Mx] at h1;rw [List.getElem_map,List.getElem_map,List.getElem_range];exact FR h1
theorem Im (x:Nat):(sub c ps keep).nm (roN ps.length keep x)=c.nm x:=by
 show c.nm (piN ps.length keep (roN ps.length keep x))=_;rw [HA]
end
theorem CI {c:Sc} (h:c.Ok):∀ l:List (Nat×Nat),PyData.canLayAll0 (l.map c.box)=true∧PyData.depthAll (l.map c.box)≤1
 | []=>⟨rfl,by simp [PyData.depthAll]⟩
 | x::l=>by
  obtain ⟨h1,h2⟩:=CI h l;refine ⟨?_,?_⟩
  ·simp [Sc.box,PyData.canLayAll0,PyData.canLay0,h.ok,h.okm,h1]
  ·simp [Sc.box,PyData.depthAll,PyData.depth];omega
theorem shD {c:Sc} (h:c.Ok):SeqAt.shaped c.d=true:=by
 obtain ⟨h1,h2⟩:=CI h c.st;unfold Sc.d SeqAt.shaped;rw [PyData.canLay0,PyData.depth,h1]
 simp
 omega
theorem IJ {c:Sc} (h:c.Ok):pNe c.d (.tuple [])=some (.bool (decide (c.st≠[]))):=by
 unfold pNe;rw [if_pos ⟨shD h,rfl⟩];unfold Sc.d;cases c.st with
 | nil=>rfl
 | cons x l=>rfl
theorem Es (t1 t2:Nat):∃ ρ:Nat→Nat,∀ x,nmT t2 (ρ x)=nmT t1 x:=by
 refine ⟨fun x=>if x=0 then 0 else if x - 1 < 8 then ((x - 1)+t1+(8 - t2 % 8)) % 8+1 else x,fun x=>?_⟩;cases x with
 | zero=>rfl
 | succ j =>
  show nmT t2 (if j+1=0 then 0 else if j+1 - 1 < 8 then ((j+1 - 1)+t1+(8 - t2 % 8)) % 8+1 else j+1)=nmT t1 (j+1);rw [if_neg (by omega),Nat.add_sub_cancel];by_cases h:j < 8
  ·rw [if_pos h,sK (Nat.mod_lt _ (by decide)),sK h];rw [show ((j+t1+(8 - t2 % 8)) % 8+t2) % 8=(j+t1) % 8 by omega]
  ·rw [if_neg h,yX h,yX h]
theorem Hf {c:Sc} (ok:c.Ok) {w:Wd} (h:eV 12 (vw w)=some c.d):mP (oE (bH [none] (lI oB (eV 12)) (tgN 0) dM (L2.PU.l2 pIx (eV 0) (eC (.int 0))))) w=some (.d (c.S (bxs c)),w.s):=by
 refine au (cx (fZ (ds:=c.st.map c.box) (lU h rfl) (by rw [LO]; have:=ok.len; omega) ?_));unfold bxs;rw [Ml];exact lZ (η:=[.un]) c.box (fun e=>c.s e.1) c.st fun e he=>⟨[.val (c.box e)],rfl,ae rfl rfl rfl⟩
theorem Dr.tr {d:Dr} (hd:d.Ok) (hlen:d.ps.length≤7):d.sc.Ok∧uC d.ps:=⟨⟨hd.inj,hd.top,hd.ok,fun a=>hd.okm _,by
  show (stF d.ps).length≤12;unfold stF;rw [LO,Mx]; omega⟩,⟨hlen,hd.par⟩⟩
theorem Hi {c:Sc} {ps:List Nat} (tn:Tn c ps):Tr c ps (In ps) (z0 ps):=⟨tn.ok,fun q h=>h,fun q h=>by rw [tn.st]; exact wj h.1 h.2,fun q h=>by rw [tn.st]; exact Gp tn.ps h.1 h.2,fun q h x hx=>P_in' tn.ps q h hx,by rw [tn.st]; exact IC tn.ps,fun q h=>w8 tn.ps h,IX tn.ps,tn.ps⟩
theorem FU (ps:List Nat):stF ps=(nums ps.length).map fun q=>(q,par ps q):=by
 unfold stF nums;rw [Ml];exact NH fun i _=>rfl
noncomputable abbrev GZ:MF:=mP (lA Ae (aC (oE (bH [none,some 1,some 13] (lI oB (eV 1)) (tgN 0) (bT (L2.PU.l2 (pIn true) (eV 2) (lA b0 (aC (eV 1) (aC (L2.PU.l2 pIx (eV 0) (eC (.int 0))) aN))))) (eV 0))) aN))
section
variable {c:Sc} {ps:List Nat} {n g:Nat} {s:Sto} {ns:List Int} {tt:Int} {x5 x6 x7 x8 x9 x10 x11 x12 x14 x15:Option D}
theorem Jm (tn:Tn c ps) (x:Nat):GZ ⟨G ns c.d n g tt x5 x6 x7 x8 x9 x10 x11 x12 (some (.d (c.s x))) x14 x15,s⟩=some (.d (sub c ps fun q=>!decide (x∈P ps q)).d,s):=by
 refine au (aW (af (cx (fZ (ds:=(c.st.map c.box)) (r:=some ((c.st.filter fun e=>!decide (x∈P ps e.1)).map c.box)) (lU rfl rfl) (by rw [LO]; have:=tn.ok.len; omega) ?_)) rfl) ?_)
 ·refine iS (η:=[.un,.val c.d,.val (c.s x)]) c.box (fun e=>!decide (x∈P ps e.1)) c.box c.st fun e he=>⟨[.val (c.box e),.val c.d,.val (c.s x)],rfl,?_,fun _=>rfl⟩;have hm:=yG (by rw [← tn.st]; exact he);refine bm (ae rfl (aW (af rfl (af (ae rfl rfl rfl) rfl)) (FD tn ⟨hm.1,hm.2.1⟩)) ((Eg tn.ok true x (P ps e.1)).trans rfl))
 ·rw [JY,tn.st,FU,List.filter_map,Ml];rfl
theorem HW (ok:uC ps) (x q:Nat) (hq:In ps q) (h:(!decide (x∈P ps q))=true):par ps q=0∨(!decide (x∈P ps (par ps q)))=true:=by
 right
 rw [tf ok hq.1] at h;simp only [MH,Bool.not_eq_true',decide_eq_false_iff_not,not_or] at h ⊢;exact h.1
end
noncomputable def Bs (a:Int):List Int→List Int
 | []=>[a]
 | b::r=>if a≤b then a::b::r else b::Bs a r
noncomputable def srt':List Int→List Int
 | []=>[]
 | a::r=>Bs a (srt' r)
theorem xf (a:Int):∀ l,(Bs a l).Perm (a::l)
 | []=>List.Perm.refl _
 | b::r=>by
  unfold Bs
  split
  ·exact List.Perm.refl _
  ·exact ((xf a r).cons b).trans (List.Perm.swap a b r)
theorem zK:∀ l,(srt' l).Perm l
 | []=>List.Perm.refl _
 | a::r=>(xf a (srt' r)).trans ((zK r).cons a)
theorem ER (a:Int):∀ l:List Int,l.Pairwise (·≤·)→(Bs a l).Pairwise (·≤·)
 | [],_=>by simp [Bs]
 | b::r,h=>by
  obtain ⟨h1,h2⟩:=Nk.mp h;unfold Bs
  split
  ·rename_i hab;refine Nk.mpr ⟨fun x hx=>?_,h⟩;rcases Mb.mp hx with e | e
   ·omega
   ·have:=h1 x e; omega
  ·rename_i hab;refine Nk.mpr ⟨fun x hx=>?_,ER a r h2⟩;rcases Mb.mp ((xf a r).mem_iff.mp hx) with e | e
   ·omega
   ·exact h1 x e
theorem DD:∀ l,(srt' l).Pairwise (·≤·)
 | []=>List.Pairwise.nil
 | a::r=>ER a _ (DD r)
theorem Ip:qg=srt':=funext fun ns=>(yd (zK ns) (DD ns)).symm
noncomputable def mSortC' (f:MF):MF:=fun w=>(f w).bind fun r=>match r.1 with
 | .r n=>(match r.2[n]? with
  | some (.dct kvs)=>(keyIs' kvs).bind fun ns=>if ns.length < 64 then some (.d (.list ((srt' ns).map PyData.int)),r.2) else none
  | _=>none)
 | _=>none
theorem Dc:wY=mSortC':=by
 funext f w
 unfold wY mSortC';rw [Ip]
 try rfl
noncomputable def gch:Wd→Option MOut :=
 (aH (km 1 "scene" (mV 0) (mP (eV 1)))
  (aH (bI 2 (mN (fun η=>(aN η).bind gL)))
  (aH (sQ [3] (iM (mSortC' (rL (mV 0) "known"))) (tgN 3) chB)
  (fU (mFz (mV 2))))))
theorem KH:bi=dN 2 4 gch:=by
 unfold bi gch;rw [← Dc]; rfl
noncomputable def isT:Option (D×Sto)→Bool
 | some (.d (.bool true),_)=>true
 | _=>false
theorem EQ:∀ {o:Option (D×Sto)},isT o=true→∃ s,o=some (.d (.bool true),s)
 | some (.d (.bool true),s),_=>⟨s,rfl⟩
theorem known:isT (bO [] [])=true:=by
 unfold bO;rw [KH];decide +kernel
theorem CT (c:Sc) (s:Sto):cA [] s=some (.r s.length,s++[.dct (kvL c hd0 none)]):=by
 refine bJ rfl (show nu ⟨[],s⟩=_ from bE ?_);rfl
noncomputable abbrev scT:MTF:=tPv (rQ (bT (L2.PU.l2 pNe (eV 1) (lA (fun ds=>if ds.length≤sizeLine then some (.tuple ds) else none) aN))) (bT (L2.PU.l2 pGt (lA ak (aC (eV 0) (aC (eC (.int 290)) (aC (eC (.int 3)) aN)))) (eC (.int 0)))))
section
variable {c:Sc} {ps:List Nat} {n g:Nat} {s:Sto} {ns:List Int} {tt:Int} {x5 x6 x7 x8 x9 x10 x11 x12 x13 x14 x15:Option D}
theorem sc2 (hn:ns.length≤63) (tn:Tn c ps) {t1:Nat} (hnm:c.nm=nmT t1):∃ (c2:Sc) (ps':List Nat) (ρ:Nat→Nat) (y13:Option D),Tn c2 ps'∧(∀ x,c2.nm (ρ x)=c.nm x)∧∀ (r:Option MOut) (k:Wd→Option MOut),k ⟨G ns c.d n g tt x5 x6 x7 x8 x9 x10 x11 (some (.d c2.d)) y13 x14 x15,s⟩=r →
  (aH (bI 12 (mP (lA bp (aC (eV 0) (aC (eC (.int 300)) aN))))) (aH (mIf scT (aH (bI 13 (mP (L2.PU.l2 pIx (L2.PU.l2 pIx (eV 1) (lA ak (aC (eV 0) (aC (eC (.int 291)) (aC (lA rE (aC (eV 1) aN)) aN))))) (eC (.int 0))))) (bI 12 GZ)) mNx) k)) ⟨G ns c.d n g tt x5 x6 x7 x8 x9 x10 x11 x12 x13 x14 x15,s⟩=r:=by
 obtain ⟨d,t2,hd,hdn,hlen,es⟩:=zQ hn (a0:=300) (by decide);obtain ⟨okd,pd⟩:=Dr.tr hd hlen;rw [← Dr.sc_d d] at es;obtain ⟨a,_,da⟩:=iG hn (k:=290) (m:=3) (by decide) (by decide);have s12:∀ x12:Option D,bI 12 (mP (lA bp (aC (eV 0) (aC (eC (.int 300)) aN)))) ⟨G ns c.d n g tt x5 x6 x7 x8 x9 x10 x11 x12 x13 x14 x15,s⟩=some (.nx ⟨G ns c.d n g tt x5 x6 x7 x8 x9 x10 x11 (some (.d d.sc.d)) x13 x14 x15,s⟩):=fun _=>aY (au (aW (af rfl (af rfl rfl)) es));have p0:bT (L2.PU.l2 pNe (eV 1) (lA (fun ds=>if ds.length≤sizeLine then some (.tuple ds) else none) aN)) (vw ⟨G ns c.d n g tt x5 x6 x7 x8 x9 x10 x11 (some (.d d.sc.d)) x13 x14 x15,s⟩)=some (decide (c.st≠[])):=bm (ae rfl (aW rfl (jj (by simp))) (IJ tn.ok));have p1:bT (L2.PU.l2 pGt (lA ak (aC (eV 0) (aC (eC (.int 290)) (aC (eC (.int 3)) aN)))) (eC (.int 0))) (vw ⟨G ns c.d n g tt x5 x6 x7 x8 x9 x10 x11 (some (.d d.sc.d)) x13 x14 x15,s⟩)=some (decide ((a:Int) > 0)):=bm (ae (aW (af rfl (af rfl (af rfl rfl))) da) rfl rfl);have other:scT ⟨G ns c.d n g tt x5 x6 x7 x8 x9 x10 x11 (some (.d d.sc.d)) x13 x14 x15,s⟩=some (false,s)→∃ (c2:Sc) (ps':List Nat) (ρ:Nat→Nat) (y13:Option D),Tn c2 ps'∧(∀ x,c2.nm (ρ x)=c.nm x)∧∀ (r:Option MOut) (k:Wd→Option MOut),k ⟨G ns c.d n g tt x5 x6 x7 x8 x9 x10 x11 (some (.d c2.d)) y13 x14 x15,s⟩=r →
  (aH (bI 12 (mP (lA bp (aC (eV 0) (aC (eC (.int 300)) aN))))) (aH (mIf scT (aH (bI 13 (mP (L2.PU.l2 pIx (L2.PU.l2 pIx (eV 1) (lA ak (aC (eV 0) (aC (eC (.int 291)) (aC (lA rE (aC (eV 1) aN)) aN))))) (eC (.int 0))))) (bI 12 GZ)) mNx) k)) ⟨G ns c.d n g tt x5 x6 x7 x8 x9 x10 x11 x12 x13 x14 x15,s⟩=r:=fun hf=>by
  obtain ⟨ρ,hρ⟩:=Es t1 t2;refine ⟨d.sc,d.ps,ρ,x13,⟨okd,rfl,pd⟩,fun x=>?_,fun r k hk=>ai (s12 _) (ai (j7 hf) hk)⟩;show d.nm (ρ x)=c.nm x;rw [hdn,hnm,hρ]
 by_cases he:c.st=[]
 ·exact other (bB (KJ (p0.trans (by rw [he]; rfl))))
 ·by_cases ha:(a:Int) > 0
  ·have hl:(c.st.map c.box).length=ps.length:=by rw [LO,tn.st]; unfold stF; rw [LO,Mx]
   have hN:0 < ps.length:=by
    rw [← hl,LO];exact List.length_pos_iff.mpr he
   obtain ⟨i,hi,di⟩:=iG hn (k:=291) (m:=((c.st.map c.box).length:Nat)) (by decide) (by rw [hl]; omega);have hi2:i < ps.length:=by rw [hl] at hi; omega
   have e13:L2.PU.l2 pIx (L2.PU.l2 pIx (eV 1) (lA ak (aC (eV 0) (aC (eC (.int 291)) (aC (lA rE (aC (eV 1) aN)) aN))))) (eC (.int 0)) (vw ⟨G ns c.d n g tt x5 x6 x7 x8 x9 x10 x11 (some (.d d.sc.d)) x13 x14 x15,s⟩)=some (c.s (i+1)):=by
    refine ae (x:=c.box (i+1,ps.getD i 0)) (ae rfl (aW (af rfl (af rfl (af (aW (af rfl rfl) rfl) rfl))) di) ?_) rfl rfl;show atI (c.st.map c.box) (i:Int)=_;unfold atI ixN;rw [if_pos (Int.natCast_nonneg i),if_pos hi,LM,Int.toNat_natCast,L8,tn.st];unfold stF;rw [L8,NG hi2]; rfl
   refine ⟨sub c ps fun q=>!decide (i+1∈P ps q),ps2 ps fun q=>!decide (i+1∈P ps q),roN ps.length fun q=>!decide (i+1∈P ps q),some (.d (c.s (i+1))),⟨Il tn.ok tn.ps,rfl,Ik tn.ps (HW tn.ps (i+1))⟩,fun x=>Im x,fun r k hk=>ai (s12 _) (ai (mG (s:=s) (bB (HQ (p0.trans (by rw [decide_eq_true (show c.st≠[] from he)])) (p1.trans (by rw [decide_eq_true ha])))) (ai (aY (au e13)) (aY (Jm tn (i+1))))) hk)⟩
  ·exact other (bB (HQ (p0.trans (by rw [decide_eq_true (show c.st≠[] from he)])) (p1.trans (by rw [decide_eq_false ha]))))
end
noncomputable def st5 (c:Sc) (s0:Sto):Sto:=s0++[.obj 1 (nf c (s0.length+1)),.dct [],.dct (kvL c hd0 none),.dct (kvL c hd0 none),.lst [.r (s0.length+2),.r (s0.length+3)]]
theorem AB (s0 l:Sto) (i:Nat):(s0++l)[s0.length+i]?=l[i]?:=by
 rw [LY (by omega),Nat.add_sub_cancel_left]
theorem wo0 (c:Sc) (s0:Sto):Wo c (st5 c s0) s0.length (s0.length+4) (fun i=>s0.length+2+i) 0 (fun _=>hd0):=by
 have own:∀ i,Own s0.length (s0.length+1) ([]:List (Key×D)) i→i=s0.length∨i=s0.length+1:=fun i h=>by
  rcases h with h | h | ⟨j,h⟩
  ·exact .inl h
  ·exact .inr h
  ·cases h
 refine ⟨⟨s0.length+1,[],⟨?_,?_,fun _ _=>rfl,fun j d h=>(by cases h),fun j j' m h=>(by cases h),fun _=>⟨by simp [hd0],fun q e=>(by cases e)⟩,⟨[],rfl,List.nodup_nil⟩⟩,LS _,fun h=>?_,fun i _ h=>?_⟩,?_,fun i hi=>⟨none,?_,.inl rfl⟩,?_,fun _ _ _=>rfl⟩
 ·exact AB s0 _ 0
 ·exact AB s0 _ 1
 ·have:=own _ h; omega
 ·have:=own _ h; omega
 ·exact AB s0 _ 4
 ·match i,hi with
  | 0,_=>exact AB s0 _ 2
  | 1,_=>exact AB s0 _ 3
 ·show s0.length+2+0≠s0.length+2+1;omega
noncomputable abbrev Lz:Wd→Option MOut:=(aH (bI 11 (mN (fun η=>(aN η).bind gL)))
   (aH (sQ [7] (iPu (fun η=>((aC (eC (.int 2)) aN) η).bind rng1)) (tgN 7) lcB)
   (aH (mIf (mB (dP pNe (cO 1 "change" bi (mV 2) (maC (mP (eV 12)) maN)) (mV 11))) (fU (mP (eC (.bool false)))) mNx)
   (bI 1 (mP (eV 12))))))
noncomputable abbrev HP:Wd→Option MOut:=(aH (sQ [5] (iPu (fun η=>((aC (eC (.int 4)) aN) η).bind rng1)) (tgN 5) evB)
  (aH (mIf (tPv (bT (L2.PU.l2 pEq (eV 4) (eC (.int 0))))) (aH (bI 12 (mP (lA bp (aC (eV 0) (aC (eC (.int 300)) aN))))) (aH (mIf scT (aH (bI 13 (mP (L2.PU.l2 pIx (L2.PU.l2 pIx (eV 1) (lA ak (aC (eV 0) (aC (eC (.int 291)) (aC (lA rE (aC (eV 1) aN)) aN))))) (eC (.int 0))))) (bI 12 GZ)) mNx)
   (aH (bI 14 (mP (oE (bH [none] (lI oB (eV 12)) (tgN 0) dM (L2.PU.l2 pIx (eV 0) (eC (.int 0))))))) Lz))) mNx)
  (sQ [7] (iPu (fun η=>((aC (eC (.int 2)) aN) η).bind rng1)) (tgN 7) G1)))
section
variable {c:Sc} {ps:List Nat} {n g b:Nat} {ad:Nat→Nat} {s:Sto} {K:Int→Hd} {ns:List Int}
theorem JK (hn:ns.length≤63) (tn:Tn c ps) {t1:Nat} (hnm:c.nm=nmT t1) (w:Wo c s n g ad b K) (hb:b < 20) (x5 x6 x7 x8 x9 x10 x11 x12 x13 x14 x15:Option D) :
  ∃ c2 ps' y5 y6 y7 y8 y9 y10 y11 y12 y13 y14 y15 s' K',HP ⟨G ns c.d n g ((0:Nat):Int) x5 x6 x7 x8 x9 x10 x11 x12 x13 x14 x15,s⟩=some (.nx ⟨G ns c2.d n g ((0:Nat):Int) y5 y6 y7 y8 y9 y10 y11 y12 y13 y14 y15,s'⟩)∧Tn c2 ps'∧Wo c2 s' n g ad (b+8) K':=by
 obtain ⟨y5,y6,y7,y8,y9,y10,y11,s1,K1,e1,w1⟩:=zg hn (Hi tn) tn (tt:=0) (by decide) [0,1,2,3] s b K x5 x6 x7 x8 x9 x10 x11 x12 x13 x14 x15 (by decide) w (by simp; omega);obtain ⟨c2,ps',ρ,z13,tn2,hρ,sc⟩:=sc2 (n:=n) (g:=g) (s:=s1) (tt:=((0:Nat):Int)) (x5:=y5) (x6:=y6) (x7:=y7) (x8:=y8) (x9:=y9) (x10:=y10) (x11:=y11) (x12:=x12) (x13:=x13) (x14:=x14) (x15:=x15) hn tn hnm;obtain ⟨z7,z11,z15,s2,K2,e2,w2⟩:=Fw (ns:=ns) (sc:=c.d) (tt:=((0:Nat):Int)) tn2.ok hρ w1 (by simp; omega) y5 y6 y7 y8 y9 y10 y11 z13 x15;obtain ⟨u7,s3,e3,w3⟩:=xm (ns:=ns) (tt:=((0:Nat):Int)) tn2.ok [0,1] s2 _ y5 y6 z7 y8 y9 y10 z11 (some (.d c2.d)) z13 (some (.d (c2.S (bxs c2)))) z15 (by decide) w2 (by simp; omega);refine ⟨c2,ps',y5,y6,u7,y8,y9,y10,z11,some (.d c2.d),z13,some (.d (c2.S (bxs c2))),z15,s3,K2,?_,tn2,by simpa using w3⟩;refine ai (nL (sU J3) e1) (ai (mG (s:=s1) (bB (bm (ae rfl rfl (df _ _)))) (sc _ _ (ai (aY (Hf tn2.ok rfl)) e2))) (nL (sU DJ) e3))
theorem JJ (hn:ns.length≤63) (tn:Tn c ps) (w:Wo c s n g ad b K) (hb:b < 20) (x5 x6 x7 x8 x9 x10 x11 x12 x13 x14 x15:Option D) :
  ∃ y5 y6 y7 y8 y9 y10 y11 y12 y13 y14 y15 s',HP ⟨G ns c.d n g ((1:Nat):Int) x5 x6 x7 x8 x9 x10 x11 x12 x13 x14 x15,s⟩=some (.nx ⟨G ns c.d n g ((1:Nat):Int) y5 y6 y7 y8 y9 y10 y11 y12 y13 y14 y15,s'⟩):=by
 obtain ⟨y5,y6,y7,y8,y9,y10,y11,s1,K1,e1,w1⟩:=zg hn (Hi tn) tn (tt:=1) (by decide) [0,1,2,3] s b K x5 x6 x7 x8 x9 x10 x11 x12 x13 x14 x15 (by decide) w (by simp; omega);obtain ⟨u7,s3,e3,w3⟩:=xm (ns:=ns) (tt:=((1:Nat):Int)) tn.ok [0,1] s1 _ y5 y6 y7 y8 y9 y10 y11 x12 x13 x14 x15 (by decide) w1 (by simp; omega);refine ⟨y5,y6,u7,y8,y9,y10,y11,x12,x13,x14,x15,s3,?_⟩;exact ai (nL (sU J3) e1) (ai (j7 (s:=s1) (bB (bm (ae rfl rfl (df _ _))))) (nL (sU DJ) e3))
end
theorem stands (ns:List Int) (hn:ns.length≤63) (s0:Sto):∃ s',dJ [.d (Sd ns)] s0=some (.d (.bool true),s'):=by
 obtain ⟨d,t1,hd,hdn,hlen,es⟩:=zQ hn (a0:=0) (by decide);obtain ⟨okd,pd⟩:=Dr.tr hd hlen;have tn:Tn d.sc d.ps:=⟨okd,rfl,pd⟩;have hnm:d.sc.nm=nmT t1:=hdn;rw [← Dr.sc_d d] at es;generalize d.sc=c at *;generalize d.ps=ps at *;obtain ⟨c2,ps',y5,y6,y7,y8,y9,y10,y11,y12,y13,y14,y15,s1,K1,e1,tn2,w1⟩:=JK hn tn hnm (wo0 c s0) (by decide) none none none none none none none none none none none;obtain ⟨z5,z6,z7,z8,z9,z10,z11,z12,z13,z14,z15,s2,e2⟩:=JJ hn tn2 w1 (by decide) y5 y6 y7 y8 y9 y10 y11 y12 y13 y14 y15;refine ⟨s2,bJ rfl (show lx bp b6 cA ak bz cD b0 bi cL dL ⟨[some (.d (Sd ns)),none,none,none,none,none,none,none,none,none,none,none,none,none,none,none],s0⟩=_ from ?_)⟩;refine ai (aY (au (aW (af rfl (af rfl rfl)) es))) ?_;refine ai (aY (An (aO (s1:=s0) (au rfl) gU) (Hb c s0))) ?_;have l2':(s0++[Cell.obj 1 (nf c (s0.length+1)),Cell.dct []]).length=s0.length+2:=by simp
 have h1:=CT c (s0++[Cell.obj 1 (nf c (s0.length+1)),Cell.dct []]);have h2:=CT c (s0++[Cell.obj 1 (nf c (s0.length+1)),Cell.dct []]++[Cell.dct (kvL c hd0 none)]);have h3:xT (maC (la cA maN) (maC (la cA maN) maN)) ⟨[some (.d (Sd ns)),some (.d c.d),some (.r s0.length),none,none,none,none,none,none,none,none,none,none,none,none,none],s0++[Cell.obj 1 (nf c (s0.length+1)),Cell.dct []]⟩=some (.r (s0.length+4),st5 c s0):=by
  rw [Cr (aO (kF rfl h1) (aO (kF rfl h2) rfl)) (by simp)];simp [st5]
 refine ai (aY h3) (ai (w1:=⟨G ns c2.d s0.length (s0.length+4) ((1:Nat):Int) z5 z6 z7 z8 z9 z10 z11 z12 z13 z14 z15,s2⟩) (nL (sU DJ) ?_) (bE (au rfl)));refine (ug (i6 (w:=⟨[some (.d (Sd ns)),some (.d c.d),some (.r s0.length),some (.r (s0.length+4)),none,none,none,none,none,none,none,none,none,none,none,none],st5 c s0⟩) (by show 4 < 16; decide)) e1).trans ?_;exact (ug (i6 (w:=⟨G ns c2.d s0.length (s0.length+4) ((0:Nat):Int) y5 y6 y7 y8 y9 y10 y11 y12 y13 y14 y15,s1⟩) (by show 4 < 16; decide)) e2).trans rfl
theorem main:∀ ns:List Int,ns.length≤63→∃ s',rh [.d (.list (ns.map PyData.int))] []=some (.d (.bool true),s'):=fun ns hn=>by
 obtain ⟨s0,h0⟩:=EQ known;obtain ⟨s',h1⟩:=stands ns hn s0;refine ⟨s',bJ rfl (show xh dJ bO ⟨[some (.d (Sd ns))],[]⟩=_ from bE ?_)⟩;unfold IV;rw [kF rfl h0,LM];exact kF (fs:=maC (mP (eV 0)) maN) (w:=⟨[some (.d (Sd ns))],s0⟩) (ds:=[.d (Sd ns)]) (s1:=s0) rfl h1
end K24
open PySem L2 L2.PU
theorem PySem.Challenge.cw_touchtree_k24_changes_holds : PySem.Challenge.rw_touchtree_k24_changes.Holds := by
  obtain ⟨K, hY, tx⟩ := K24.tx
  exact Kz K24.hk K24.hlA K24.hlB (FL (n := 63) (k := 23) (x := "_law_script") (CX := fun _ => CX0) (sp := fun w => spL (K w.params)) rfl (by decide) K24.hk.dd ⟨rfl, by decide, by decide⟩ hY (fun w mg fa h KX G hm => by
    obtain ⟨t, tx⟩ := tx w.params mg h KX G
    rw [K24.hk.dn] at hm
    exact IW hm tx.Ew tx.rh (fun _ => (K24.FE tx).imp (FV K24.main)) fun _ _ _ _ _ _ _ => rfl) (fun _ _ a ns hl _ hS => ⟨a, ns, rfl, hS, hl, fun _ => rfl⟩) fun _ _ _ _ _ z => z)
#print axioms PySem.Challenge.cw_touchtree_k24_changes_holds
