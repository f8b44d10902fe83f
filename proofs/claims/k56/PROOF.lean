import PyProof.Rows.All
import Wide.All
import OpenK.AllK
import Wide.FinOn
import PyProof.EqAt
import PyProof.EqKinds
import PyProof.TupleCall
import PyProof.CompFree
import PyProof.Cells
import KE.KDictList
import KE.KDictLaws
import PyProof.Rows.SetFrom
import PyProof.AttrMissHeap
import KE.KDictOf
import PyProof.StrWalks
import PyProof.ZipIter
import KE.KIntText
import PyProof.CallStr
import PyProof.Rows.StrItems
import PyProof.StrLawsTight
import KE.KSortTup
import KE.KItemsList
import PyProof.ListMulRoad
import PyProof.AutoIntOps
import KE.KRevSl
import Lean
import PySem.Challenge.RW_touchtree_k56_whole_pictures
open PySem renaming PyData → K5, Value → Lf, Shared → Lh, sizeLine → Li, starEach → Lj, wpAny_bind → Lo, Addr → Lz, wpAny_pure → LH, Program → LM, wpAny → L1, model → L6, compareOp → L8, Around → Mb, FuncData → Mj, behindInMarks → Mo
open PySem.W renaming Frag → K6, findIn → Me, emptyDict → Mp, instObj → Mz, keepIn → MH, fnOf → M8, openEnds → Ni, plainGet → Nj, OpenLaw → Nn, lookIn → Nt, plainGet_of → NA, WalkO → NE, callWith_K → NF
open List renaming length_map → K7, getElem?_eq_getElem → K9, mem_cons_of_mem → La, getElem?_eq_some_iff → Lb, mem_cons_self → Lc, getElem?_set_ne → Ld, getElem?_map → Le, getD_eq_getElem?_getD → Lk, length_append → Lm, map_cons → Ln, getElem?_set_self → Lr, size_toArray → Ls, length_cons → Lu, getElem?_append_left → Lw, getElem?_append_right → Lx, mem_cons → LA, length_set → LC, mem_singleton → LD, mem_of_getElem? → LG, mem_map → LI, map_append → LJ, map_map → LK, getElem?_eq_none → LN, prefix_refl → LO, map_congr_left → LQ, mem_append_right → LR, length_range → LW, mem_append → LX, append_nil → LY, mem_filter → LZ, mem_append_left → L0, all_eq_true → L5, sum_cons → L7, append_assoc → Ma, nodup_cons → Mf, mem_range → Mg, not_mem_nil → Mh, mem_flatMap → Mi, replicate → Mm, flatMap_cons → Mq, length_filter_le → Mr, any_cons → Ms, getElem?_range → Mt, mem_iff_getElem? → Mw, drop_eq_getElem_cons → My, getElem?_of_mem → MB, pairwise_map → MD, getElem?_replicate → MJ, lookup_cons → MK, any_eq_true → ML, countP_cons → MM, length_replicate → MN, all_cons → MO, getElem?_inj → MQ, find?_cons → MX, foldl_cons → MY, pairwise_lt_range → MZ, filter_eq_nil_iff → M0, lookup → M3, nodup_append → M4, map_nil → M5, eq_nil_of_length_eq_zero → M6, filter_cons → M7, length_reverse → M9, mergeSort_perm → Na, mem_filterMap → Nc, prefix_append → Nf, filterMap_cons_none → Nk, filterMap_cons_some → Nl, filter_cons_of_neg → Nm, length_take → No, drop_length → Np, find?_cons_of_pos → Nq, find?_cons_of_neg → Nr, length_singleton → Nu, range_succ → Nw, nil_append → Ny, set_append_right → Nz, mem_erase_of_ne → ND, nodup_nil → NG, filterMap_cons → NI, filter_sublist → NJ
open Option renaming bind_some → K8, bind → Ll
open PySem.Heap renaming get?_push_of_some → Lg, lt_size → Ly, get?_push_size → LL
open Nat renaming le_refl → Lp, lt_of_lt_of_le → LF, ne_of_lt → LP, le_trans → LS, sub_self → Mc, zero_le → Ml, strongRecOn → MG, lt_irrefl → MU, mul_le_mul → Nh, pow_le_pow_right → NH
open PySem.PyData renaming strOk → Lq, int → Lv, eqv → LV, canLay0 → L9, canLayAll0 → Mn, depthAll → Mx
open Bool renaming false_ne_true → LB, and_eq_true → L4, eq_iff_iff → MC, not_eq_true' → MP, and_eq_true_iff → MW, false_eq_true → Nd, and_eq_false_imp → Nv, or_eq_false_iff → NC
open PySem.SeqAt renaming shaped → LU
open PySem.PassesOwn renaming never → L3
open Int renaming emod_nonneg → Nb, emod_lt_of_pos → Ng, natCast_add → NB
set_option Elab.async false
set_option linter.all false
set_option maxRecDepth 100000
set_option maxHeartbeats 4000000
namespace L2.PU
open PySem PySem.W PySem.Spec PyProof.Rows
noncomputable def HLf (p q:LM) (loose:List Str) (Xt:Lh->Bool) (N:Nat) (H:PySem.W.Hook):Prop:=∀ w,(Ni treeTable p w N).map (λ s=>(PySem.W.openSeen q loose (importedModules p.main.body) Xt true s,H.obs s))=some (PySem.W.openGood q loose,H.val w)
structure HK (l:Nn) (p q:LM) (loose:List Str) (XP:(Str->Option Lf)->Heap->Prop) (Xt:Lh->Bool) (N:Nat) where
 H:PySem.W.Hook
 d:DefRec
 dd:d.params.defaults=[]
 dn:d.name = "law"
 go:(∀ H',H'=H->HLf p q loose Xt N H'/\NE q loose XP H'.says l.row.toRowW d [] (λ f vs=>PySem.call f vs))->l.Holds
noncomputable def hk_mk {l:Nn} {p q:LM} {loose:List Str} {XP:(Str->Option Lf)->Heap->Prop} {Xt:Lh->Bool} {N:Nat} {H:PySem.W.Hook} {d:DefRec} (dd:d.params.defaults=[]) (dn:d.name = "law")
  (go:(∀ H',H'=H->HLf p q loose Xt N H'/\NE q loose XP H'.says l.row.toRowW d [] (λ f vs=>PySem.call f vs))->l.Holds):HK l p q loose XP Xt N:=⟨H,d,dd,dn,go⟩
theorem IV {l:Nn} {p q:LM} {loose:List Str} {XP:(Str->Option Lf)->Heap->Prop} {Xt:Lh->Bool} {N:Nat} (k:HK l p q loose XP Xt N) (h1:∀ w,(Ni treeTable p w N).map (λ s=>PySem.W.openSeen q loose (importedModules p.main.body) Xt true s)=some (PySem.W.openGood q loose))
  (h2:∀ w,(Ni treeTable p w N).map (λ s=>k.H.obs s)=some (k.H.val w)) (h3:NE q loose XP k.H.says l.row.toRowW k.d [] (λ f vs=>PySem.call f vs)):l.Holds :=
 k.go λ H' e=>by
  subst e;refine ⟨λ w=>?_,h3⟩;have a:=h1 w;have b:=h2 w;cases o:Ni treeTable p w N with
  | none=>rw [o] at a; cases a
  | some s =>
   rw [o] at a b;have a':=Option.some.inj a;have b':=Option.some.inj b;show some (_,_)=some (_,_);dsimp only at a' b';rw [a',b']
theorem tx_mk {H:PySem.W.Hook} {K:Params->K6} {T:K6->(Str->Option Lf)->Prop} (hY:∀ w h,H.says w h->(K w.params).In h) (tx:∀ (P:Params) (mg:Str->Option Lf) (h:Heap),(K P).In h->h.Ns mainGlobals mg->T (K P) mg) :
  ∃ K:Params->K6,(∀ w h,H.says w h->(K w.params).In h)/\∀ (P:Params) (mg:Str->Option Lf) (h:Heap),(K P).In h->h.Ns mainGlobals mg->T (K P) mg:=⟨K,hY,tx⟩
end L2.PU
section
open PySem PySem.W PyProof.Rows
noncomputable def K56.view:LM:={ PySem.Challenge.pw_touchtree_k56_whole_pictures with main:={ PySem.Challenge.pw_touchtree_k56_whole_pictures.main with body:=[53,49,42,29,7,1].foldl (λ l i=>l.eraseIdx i) PySem.Challenge.pw_touchtree_k56_whole_pictures.main.body } }
set_option hygiene false in
local macro_rules
 | `(tactic| o_head $H)=>`(tactic| (
   refine holds_open (q:=K56.view) (loose:=[]) (Xt:=(λ s=>xlAt K56.view [] s&&recOk (RowW.records (OpenRow.toRowW (OpenLaw.row PySem.Challenge.rw_touchtree_k56_whole_pictures))) s)) (XP:=XL K56.view []) (Yf:=Hook.obs $H) (Ya:=Hook.val $H) (YP:=Hook.says $H) (N:=5672) (k $H rfl).1 (Hook.of $H) (Hook.keeps $H) (λ s e=>xl_of s (MW.mp e).1) XL.keeps (by rfl) (by rfl) (by rfl) (λ s e=>recFacts_of (MW.mp e).2) (by rfl) (by assumption) (by decide +kernel) ⟨rfl,rfl,rfl,rfl,rfl,by decide +kernel⟩ ?hw (k $H rfl).2))
set_option maxRecDepth 100000 in
set_option maxHeartbeats 0 in
noncomputable def K56.hk:L2.PU.HK PySem.Challenge.rw_touchtree_k56_whole_pictures PySem.Challenge.pw_touchtree_k56_whole_pictures K56.view [] (XL K56.view []) (λ s=>xlAt K56.view [] s&&recOk (RowW.records (OpenRow.toRowW (OpenLaw.row PySem.Challenge.rw_touchtree_k56_whole_pictures))) s) 5672:=by
 refine' L2.PU.hk_mk ?dd ?dn (λ k=>?go)
 (case go =>
  w_on; o_law; k_head; (case hw=>w_witness2))
 (case dd=>rfl)
 (case dn=>rfl)
set_option maxRecDepth 100000 in
set_option maxHeartbeats 0 in
theorem K56.hlA (w:World):(openEnds treeTable PySem.Challenge.pw_touchtree_k56_whole_pictures w 5672).map (λ s=>openSeen K56.view [] (importedModules PySem.Challenge.pw_touchtree_k56_whole_pictures.main.body) (λ s=>xlAt K56.view [] s&&recOk (RowW.records (OpenRow.toRowW (OpenLaw.row PySem.Challenge.rw_touchtree_k56_whole_pictures))) s) true s)=some (openGood K56.view []):=by
 unfold openEnds fencedOpening topFrom; rewrite [PySem.W.Fast.te10274390034422433532,PySem.W.Fast.te14082659384304107361,PySem.W.Fast.te14364793385576792824,PySem.W.Fast.te14289696077712309145,PySem.W.Fast.te1435165496053646825,PySem.W.Fast.te4187177175401517315]; kernel_rfl
set_option maxRecDepth 100000 in
set_option maxHeartbeats 0 in
theorem K56.hlB (w:World):(openEnds treeTable PySem.Challenge.pw_touchtree_k56_whole_pictures w 5672).map (λ s=>K56.hk.H.obs s)=some (K56.hk.H.val w):=by
 unfold openEnds fencedOpening topFrom; rewrite [PySem.W.Fast.te10274390034422433532,PySem.W.Fast.te14082659384304107361,PySem.W.Fast.te14364793385576792824,PySem.W.Fast.te14289696077712309145,PySem.W.Fast.te1435165496053646825]; kernel_rfl
end
namespace L2
open PySem PySem.Spec PyProof.Rows
noncomputable abbrev Key:=Sum Int Str
noncomputable def qW:Key->Lf->Bool
 | .inl k,v=>Value.isInt k v
 | .inr x,v=>Value.isStrOf x v
noncomputable def Ky (w:World):Key->Int
 | .inl k=>hashInt k
 | .inr x=>hashStr w x
theorem c8:∀ {k:Key} {v:Lf},qW k v=true->(∃ i t,k=Sum.inl i/\v=Value.int i t)\/(∃ x t,k=Sum.inr x/\v=Value.str x t)
 | .inl i,v,h=>by
  obtain ⟨t,e⟩:=Value.isInt_shape (k:=i) (v:=v) h;exact .inl ⟨i,t,rfl,e⟩
 | .inr x,v,h=>by
  obtain ⟨t,e⟩:=Value.isStrOf_shape (x:=x) (v:=v) h;exact .inr ⟨x,t,rfl,e⟩
theorem Bp (i:Int) (t:Tok):qW (.inl i) (.int i t)=true:=by simp [qW,Value.isInt]
theorem Bo (x:Str) (t:Tok):qW (.inr x) (.str x t)=true:=by simp [qW,Value.isStrOf]
theorem Hb (a b:Int):decide ((Sum.inl a:Key)=Sum.inl b)=(a==b):=by
 by_cases e:a=b
 ·subst e; simp
 ·have h:¬ (Sum.inl a:Key)=Sum.inl b:=λ q=>e (Sum.inl.inj q);rw [decide_eq_false h];exact (beq_eq_false_iff_ne.mpr e).symm
theorem G8 (a b:Str):decide ((Sum.inr a:Key)=Sum.inr b)=decide (a=b):=by
 by_cases e:a=b
 ·subst e; simp
 ·have h:¬ (Sum.inr a:Key)=Sum.inr b:=λ q=>e (Sum.inr.inj q);rw [decide_eq_false h,decide_eq_false e]
theorem Ha (a:Int) (b:Str):decide ((Sum.inl a:Key)=Sum.inr b)=false:=decide_eq_false (λ q=>nomatch q)
theorem G9 (a:Str) (b:Int):decide ((Sum.inr a:Key)=Sum.inl b)=false:=decide_eq_false (λ q=>nomatch q)
noncomputable def cx (prog:LM) (w:World):PySem.KeyKind prog w Key where
 is:=qW
 hash:=Ky w
 inj:=λ v a b ha hb=>by
  rcases c8 ha with ⟨i,t,rfl,rfl⟩ | ⟨x,t,rfl,rfl⟩
  ·rcases c8 hb with ⟨j,u,rfl,e⟩ | ⟨y,u,rfl,e⟩
   ·injection e with e1 _; rw [e1]
   ·exact nomatch e
  ·rcases c8 hb with ⟨j,u,rfl,e⟩ | ⟨y,u,rfl,e⟩
   ·exact nomatch e
   ·injection e with e1 _; rw [e1]
 byValue:=λ k v h=>by
  rcases c8 h with ⟨i,t,rfl,rfl⟩ | ⟨x,t,rfl,rfl⟩ <;> rfl
 pyHash:=λ hv h=>by
  rcases c8 hv with ⟨i,t,rfl,rfl⟩ | ⟨x,t,rfl,rfl⟩
  ·exact wpAny_pyHash_int h
  ·exact wpAny_pyHash_str h
 eqBool:=λ hu hv h=>by
  rcases c8 hu with ⟨i,t,rfl,rfl⟩ | ⟨x,t,rfl,rfl⟩
  ·rcases c8 hv with ⟨j,u,rfl,rfl⟩ | ⟨y,u,rfl,rfl⟩
   ·rw [Hb] at h; exact wpAny_eqBool_int h
   ·rw [Ha] at h; exact SeqAt.EqAt.int_str i t y u _ _ _ _ h
  ·rcases c8 hv with ⟨j,u,rfl,rfl⟩ | ⟨y,u,rfl,rfl⟩
   ·rw [G9] at h; exact SeqAt.EqAt.str_int x t j u _ _ _ _ h
   ·rw [G8] at h; exact wpAny_eqBool_str h
 «strs»:=λ k x t v h=>by
  rcases c8 h with ⟨i,u,rfl,e⟩ | ⟨y,u,rfl,e⟩
  ·exact nomatch e
  ·injection e with e1 _
   subst e1;cases v <;> rfl
theorem xw (prog:LM) (w:World) (i:Int) (t:Tok):(cx prog w).is (.inl i) (.int i t)=true:=Bp i t
theorem xu (prog:LM) (w:World) (x:Str) (t:Tok):(cx prog w).is (.inr x) (.str x t)=true:=Bo x t
inductive V where
 | non | bl (b:Bool) | int (i:Int) | str (x:Str) | byt (b:Array UInt8) | flt (b:UInt64) | ref (a:Lz) | ty (n:String)
 deriving DecidableEq
noncomputable def RelV:V->Lf->Prop
 | .non,u=>u=Value.none
 | .bl b,u=>u=Value.bool b
 | .int i,u=>∃ t,u=Value.int i t
 | .str x,u=>∃ t,u=Value.str x t
 | .byt b,u=>∃ t,u=Value.bytes b t
 | .flt b,u=>∃ t,u=Value.float b t
 | .ref a,u=>u=Value.ref a
 | .ty n,u=>u=Value.type n
noncomputable abbrev Vals:List V->List Lf->Prop:=Paired RelV
theorem Vals.length {xs:List V} {us:List Lf} (r:Vals xs us):xs.length=us.length:=Paired.length r
theorem Vals.get:∀ {xs:List V} {us:List Lf} {i:Nat} {x:V},Vals xs us->xs[i]?=some x->∃ u,us[i]?=some u/\RelV x u
 | _,_,_,_,.nil,e=>by simp at e
 | _,_,0,_,.cons r _,e=>by simp at e; subst e; exact ⟨_,rfl,r⟩
 | _,_,i+1,x,.cons _ t,e=>by
  obtain ⟨u,h1,h2⟩:=Vals.get (i:=i) (x:=x) t (by simpa using e);exact ⟨u,by simpa using h1,h2⟩
theorem Vals.append:∀ {xs ys:List V} {us ws:List Lf},Vals xs us->Vals ys ws->Vals (xs++ys) (us++ws)
 | _,_,_,_,.nil,s=>s
 | _,_,_,_,.cons r t,s=>.cons r (Vals.append t s)
theorem Vals.take:∀ {xs:List V} {us:List Lf} (n:Nat),Vals xs us->Vals (xs.take n) (us.take n)
 | _,_,0,_=>.nil
 | _,_,_+1,.nil=>.nil
 | _,_,n+1,.cons r t=>.cons r (Vals.take n t)
theorem Vals.drop:∀ {xs:List V} {us:List Lf} (n:Nat),Vals xs us->Vals (xs.drop n) (us.drop n)
 | _,_,0,r=>r
 | _,_,_+1,.nil=>.nil
 | _,_,n+1,.cons _ t=>Vals.drop n t
noncomputable def RelO:Option V->Option Lf->Prop
 | some v,some u=>RelV v u
 | none,none=>True
 | _,_=>False
noncomputable def KV {κ:Type}:List (κ×V)->List (κ×Lf)->Prop:=Paired λ (p:κ×V) (q:κ×Lf)=>p.1=q.1/\RelV p.2 q.2
noncomputable def kV:Key->V
 | .inl i=>.int i
 | .inr x=>.str x
inductive HO where
 | lst (xs:List V)
 | tup (xs:List V)
 | dK (kvs:List (Key×V)) | dT (kvs:List (List Key×V))
 | set (S:Int->Bool) (n:Nat)
 | ins (C dx:Lz) (fs:List (Str×V))
 | own (x:Lz)
 | xd (fs:List (Str×V))
 | met (f x:Lz)
 | rng (lo hi:Int)
 | frz (o:Obj) (u:HO)
 | tbl (ps:Array Lf)
 | ext (φ:Heap->Prop)
noncomputable abbrev Hp:=Lz->Option HO
noncomputable def upd (H:Hp) (a:Lz) (o:HO):Hp:=λ b=>if b=a then some o else H b
theorem aX {H:Hp} {a:Lz} {o:HO}:upd H a o a=some o:=by unfold upd; rw [if_pos rfl]
theorem aE {H:Hp} {a b:Lz} {o:HO} (h:b≠a):upd H a o b=H b:=by unfold upd; rw [if_neg h]
theorem IL {H:Hp} {a b:Lz} {o u:HO} (h:H a=some o) (h':H b=some u) (d:o≠u):a≠b:=by
 intro e; subst e; rw [h] at h'; exact d (Option.some.inj h')
theorem aR {H:Hp} {a b:Lz} {o:HO} (h:H a=some o) (h':H b=none):a≠b:=by
 intro e; subst e; rw [h] at h'; cases h'
section
variable (P:LM) (w:World)
noncomputable def ObjOk (H:Hp) (h:Heap) (a:Lz):HO->Prop
 | .lst xs=>xs.length<=Li/\∃ (its:List Lf) (n:Nat),Vals xs its/\h.get? a=some { cls:=.type "list", data:=.seq its.toArray n }
 | .tup xs=>xs.length<=Li/\∃ its:List Lf,Vals xs its/\IsTup h a its.toArray
 | .dK kvs=>kvs.length<=Li/\(a==sysModules)=false/\∃ vs,KV kvs vs/\h.DictOf (cx P w) a vs
 | .dT kvs=>kvs.length<=Li/\(a==sysModules)=false/\∃ xs:List (List Key×Lz×Lf),Paired (λ (p:List Key×V) (q:List Key×Lz×Lf)=>p.1=q.1/\H q.2.1=some (.tup (p.1.map kV))/\RelV p.2 q.2.2) kvs xs /\
   ∃ o es ep,h.get? a=some o/\o.ExactDict/\o.data=.dict es ep/\es.toList=xs.map (entryOfKey (tupleKind (cx P w)))/\(xs.map (·.1)).Nodup
 | .set S n=>h.SetOf (intKind P w) a S n
 | .ins C dx fs=>H dx=some (.own a)/\fs.length<=1000/\dx≠a/\h.get? a=some (Mz C dx) /\
   ∃ mA,h.Ns1 dx mA/\(∀ f,RelO (fs.lookup f) (mA f))/\PySem.Within mA (fs.map (·.1))
 | .own _=>∃ o,h.get? a=some o
 | .xd fs=>∃ mA,h.Ns1 a mA/\∀ f,RelO (fs.lookup f) (mA f)
 | .rng lo hi=>∃ t u v,h.get? a=some { cls:=.type "range", data:=.fields #[.int lo t,.int hi u,.int 1 v] }
 | .frz o u=>h.get? a=some o/\ObjOk H h a u
 | .tbl ps=>h.get? a=some { cls:=.none,data:=.fields ps }
 | .met f x=>h.get? a=some (PySem.W.methodObj (.ref f) (.ref x))
 | .ext φ=>φ h/\(∃ o,h.get? a=some o)/\∀ h1 h2:Heap,φ h1->(∀ o,h1.get? a=some o->h2.get? a=some o)->φ h2
noncomputable def HOk (H:Hp) (h:Heap):Prop:=∀ a o,H a=some o->ObjOk P w H h a o
end
section
variable {P:LM} {w:World} {H H':Hp} {h h':Heap} {a:Lz} {o:HO}
theorem ObjOk.lt (x:ObjOk P w H h a o):a < h.objs.size:=by
 cases o with
 | lst xs=>obtain ⟨_,_,_,_,e⟩:=x; exact Ly e
 | tup xs=>obtain ⟨_,_,_,p⟩:=x; exact p.lt
 | dK kvs=>obtain ⟨_,_,_,_,o,_,_,e,_⟩:=x; exact Ly e
 | dT kvs=>obtain ⟨_,_,_,_,o,_,_,e,_⟩:=x; exact Ly e
 | set S n=>obtain ⟨o,_,_,_,e,_⟩:=x; exact Ly e
 | ins C dx fs=>obtain ⟨_,_,_,e,_⟩:=x; exact Ly e
 | own y=>obtain ⟨_,e⟩:=x; exact Ly e
 | xd fs=>obtain ⟨_,⟨_,_,_,e,_⟩,_⟩:=x; exact Ly e
 | rng lo hi=>obtain ⟨_,_,_,e⟩:=x; exact Ly e
 | frz ob u=>obtain ⟨e,_⟩:=x; exact Ly e
 | tbl ps=>exact Ly (show h.get? a=some _ from x)
 | met f y=>exact Ly (show h.get? a=some _ from x)
 | ext φ=>obtain ⟨_,⟨_,e⟩,_⟩:=x; exact Ly e
theorem Paired.mapP {α β:Type} {F G:α->β->Prop}:∀ {l₁:List α} {l₂:List β},Paired F l₁ l₂->(∀ a b,F a b->G a b)->Paired G l₁ l₂
 | _,_,.nil,_=>.nil
 | _,_,.cons r t,f=>.cons (f _ _ r) (Paired.mapP t f)
theorem ObjOk.stay (x:ObjOk P w H h a o) (k:∀ b u,(b=a\/H b=some (.own a))->h.get? b=some u->h'.get? b=some u)
  (ho:∀ b,H b=some (.own a)->H' b=some (.own a)) (ht:∀ b xs,H b=some (.tup xs)->H' b=some (.tup xs)):ObjOk P w H' h' a o:=by
 induction o with
 | lst xs=>obtain ⟨z,its,n,r,e⟩:=x; exact ⟨z,its,n,r,k _ _ (.inl rfl) e⟩
 | tup xs=>obtain ⟨z,its,r,ob,e,c⟩:=x; exact ⟨z,its,r,ob,k _ _ (.inl rfl) e,c⟩
 | dK kvs=>obtain ⟨z,y,vs,r,ob,es,ep,e,c⟩:=x; exact ⟨z,y,vs,r,ob,es,ep,k _ _ (.inl rfl) e,c⟩
 | dT kvs =>
  obtain ⟨z,y,xs,r,ob,es,ep,e,c⟩:=x;exact ⟨z,y,xs,Paired.mapP r λ p q z=>⟨z.1,ht _ _ z.2.1,z.2.2⟩,ob,es,ep,k _ _ (.inl rfl) e,c⟩
 | set S n=>obtain ⟨ob,es,ep,t,e,c⟩:=x; exact ⟨ob,es,ep,t,k _ _ (.inl rfl) e,c⟩
 | ins C dx fs =>
  obtain ⟨d,z,ne,e,mA,⟨od,es,ep,e2,c⟩,r⟩:=x;exact ⟨ho _ d,z,ne,k _ _ (.inl rfl) e,mA,⟨od,es,ep,k _ _ (.inr d) e2,c⟩,r⟩
 | own y=>obtain ⟨ob,e⟩:=x; exact ⟨ob,k _ _ (.inl rfl) e⟩
 | xd fs=>obtain ⟨mA,⟨od,es,ep,e,c⟩,r⟩:=x; exact ⟨mA,⟨od,es,ep,k _ _ (.inl rfl) e,c⟩,r⟩
 | rng lo hi=>obtain ⟨t,u,v,e⟩:=x; exact ⟨t,u,v,k _ _ (.inl rfl) e⟩
 | frz ob u ih=>obtain ⟨e,q⟩:=x; exact ⟨k _ _ (.inl rfl) e,ih q⟩
 | tbl ps =>
  have e:h.get? a=some { cls:=.none,data:=.fields ps }:=x;show h'.get? a=some { cls:=.none,data:=.fields ps };exact k a _ (.inl rfl) e
 | met f y =>
  have e:h.get? a=some (PySem.W.methodObj (.ref f) (.ref y)):=x;show h'.get? a=some (PySem.W.methodObj (.ref f) (.ref y));exact k a _ (.inl rfl) e
 | ext φ=>obtain ⟨p,⟨o,e⟩,st⟩:=x; exact ⟨st _ _ p λ o q=>k _ _ (.inl rfl) q,⟨o,k _ _ (.inl rfl) e⟩,st⟩
theorem HOk.lt (x:HOk P w H h) (e:H a=some o):a < h.objs.size:=(x a o e).lt
theorem HOk.fresh (x:HOk P w H h) (e:h.objs.size<=a):H a=none:=by
 cases q:H a with
 | none=>rfl
 | some u=>exact absurd (LF (x.lt q) e) (MU _)
theorem HOk.kept (x:HOk P w H h) (k:∀ b u,h.get? b=some u->h'.get? b=some u):HOk P w H h':=λ a o e =>
 (x a o e).stay (λ b u _ q=>k b u q) (λ _ q=>q) λ _ _ q=>q
theorem HOk.laid (x:HOk P w H h) (k:∀ b u,h.get? b=some u->h'.get? b=some u) (hp:h.objs.size<=a) (new:ObjOk P w (upd H a o) h' a o):HOk P w (upd H a o) h':=λ b u e=>by
 have hn:=x.fresh hp;by_cases hb:b=a
 ·subst hb; rw [aX] at e; cases e; exact new
 ·rw [aE hb] at e;exact (x b u e).stay (λ c v _ q=>k c v q) (λ c q=>by rw [aE (aR q hn)]; exact q) λ c xs q=>by rw [aE (aR q hn)]; exact q
end
noncomputable def Rd (H:Hp) (a:Lz) (u:HO):Prop:=H a=some u\/∃ o,H a=some (.frz o u)
theorem Rd.ok {P:LM} {w:World} {H:Hp} {h:Heap} {a:Lz} {u:HO} (r:Rd H a u) (x:HOk P w H h):ObjOk P w H h a u:=by
 rcases r with r | ⟨o,r⟩
 ·exact x a u r
 ·obtain ⟨_,q⟩:=x a _ r;exact q
noncomputable def Mut:Option HO->Prop
 | some (.lst _)=>True
 | some (.dK _)=>True
 | some (.dT _)=>True
 | some (.set _ _)=>True
 | some (.ins _ _ _)=>True
 | some (.ext _)=>True
 | _=>False
section
variable {P:LM} {w:World} {H:Hp} {h h':Heap} {x e:Lz} {o':HO}
theorem HOk.write (ok:HOk P w H h) (mu:Mut (H x)) (he:e=x\/H e=some (.own x)) (k:∀ b u,b≠e->h.get? b=some u->h'.get? b=some u) (heo:∃ u,h'.get? e=some u)
  (new:ObjOk P w (upd H x o') h' x o'):HOk P w (upd H x o') h':=λ b u q=>by
 have nown:∀ c y,H c=some (.own y)->c≠x:=λ c y r z=>by subst z; rw [r] at mu; exact mu
 have ntup:∀ c xs,H c=some (.tup xs)->c≠x:=λ c xs r z=>by subst z; rw [r] at mu; exact mu
 by_cases hb:b=x
 ·subst hb; rw [aX] at q; cases q; exact new
 ·rw [aE hb] at q;by_cases hbe:b=e
  ·have q':H b=some (.own x):=by
    rcases he with z | z
    ·exact absurd (hbe.trans z) hb
    ·rw [hbe]; exact z
   rw [q] at q'; cases q';obtain ⟨v,hv⟩:=heo;exact ⟨v,by rw [hbe]; exact hv⟩
  ·refine (ok b u q).stay (λ c v hc r=>k c v ?_ r) (λ c r=>by rw [aE (nown c b r)]; exact r) λ c xs r=>by rw [aE (ntup c xs r)]; exact r
   rcases hc with rfl | hc
   ·exact hbe
   ·rintro rfl
    rcases he with z | z
    ·exact nown c b hc z
    ·rw [hc] at z; cases z; exact hb rfl
end
structure Un (fs ex:List Lz) (H H':Hp) (h h':Heap):Prop where
 keep:∀ b o,h.get? b=some o->H b=none->b∉fs->b∉ex->h'.get? b=some o
 slot:∀ b o,h.get? b=some o->H b=none->b∈fs->b∉ex->∃ sl,h'.get? b=some { o with slots:=sl }
 free:∀ b o,h.get? b=some o->H b=none->b∉ex->H' b=none
 there:∀ b o,h.get? b=some o->b∉ex->∃ o',h'.get? b=some o'
 tups:∀ b xs,H b=some (.tup xs)->H' b=some (.tup xs)
 frzs:∀ b o u,H b=some (.frz o u)->H' b=some (.frz o u)
 tbls:∀ b ps,H b=some (.tbl ps)->∃ more,H' b=some (.tbl (ps++more))
section
variable {fs fs' ex ex':List Lz} {H H1 H2:Hp} {h h1 h2 h':Heap} {a x e:Lz} {o:HO}
theorem Un.any (u:Un fs ex H H1 h h1) {b:Lz} {ob:Obj} (q:h.get? b=some ob) (n:H b=none) (hx:b∉ex):∃ sl,h1.get? b=some { ob with slots:=sl }:=by
 by_cases hb:b∈fs
 ·exact u.slot b ob q n hb hx
 ·exact ⟨ob.slots,u.keep b ob q n hb hx⟩
theorem Un.kept (k:∀ b u,h.get? b=some u->h'.get? b=some u):Un fs ex H H h h' :=
 ⟨λ b ob q _ _ _=>k b ob q,λ b ob q _ _ _=>⟨ob.slots,k b ob q⟩,λ _ _ _ n _=>n,λ b ob q _=>⟨ob,k b ob q⟩,λ _ _ q=>q,λ _ _ _ q=>q,λ _ ps q=>⟨#[],by rw [q]; simp⟩⟩
theorem Un.refl:Un fs ex H H h h:=Un.kept λ _ _ q=>q
theorem Un.laid (k:∀ b u,h.get? b=some u->h'.get? b=some u) (hp:h.objs.size<=a) (hn:H a=none):Un fs ex H (upd H a o) h h' where
 keep:=λ b u q _ _ _=>k b u q
 slot:=λ b u q _ _ _=>⟨u.slots,k b u q⟩
 free:=λ b u q n _=>by rw [aE (LP (LF (Ly q) hp))]; exact n
 there:=λ b u q _=>⟨u,k b u q⟩
 tups:=λ b xs q=>by rw [aE (aR q hn)]; exact q
 frzs:=λ b u xs q=>by rw [aE (aR q hn)]; exact q
 tbls:=λ b ps q=>⟨#[],by rw [aE (aR q hn),q]; simp⟩
theorem Un.write (mu:Mut (H x)) (he:e=x\/H e=some (.own x)) (k:∀ b u,b≠e->h.get? b=some u->h'.get? b=some u) (heo:∃ u,h'.get? e=some u):Un fs ex H (upd H x o) h h':=by
 have hx:∀ b,H b=none->b≠x:=λ b n z=>by subst z; rw [n] at mu; exact mu
 have hb:∀ b,H b=none->b≠e:=λ b n z=>by
  subst z;rcases he with r | r
  ·exact hx b n r
  ·rw [n] at r; cases r
 have hm:∀ b u,H b=some u->¬ Mut (some u)->b≠x:=λ b u q nm z=>by subst z; rw [q] at mu; exact nm mu
 refine ⟨λ b u q n _ _=>k b u (hb b n) q,λ b u q n _ _=>⟨u.slots,k b u (hb b n) q⟩,λ b u q n _=>by rw [aE (hx b n)]; exact n,λ b u q _=>?_,λ b xs q=>by rw [aE (hm b _ q λ z=>z)]; exact q,λ b u xs q=>by rw [aE (hm b _ q λ z=>z)]; exact q,λ b ps q=>⟨#[],by rw [aE (hm b _ q λ z=>z),q]; simp⟩⟩;by_cases hbe:b=e
 ·subst hbe; exact heo
 ·exact ⟨u,k b u hbe q⟩
end
noncomputable def trk (h:Heap) (H:Hp):List Lz:=(List.range h.objs.size).filter λ a=>(H a).isSome
noncomputable def wl (h:Heap) (H:Hp):Heap:=PySem.W.hideAll h (trk h H)
theorem Bv (h:Heap) (H:Hp):(wl h H).objs.size=h.objs.size:=PySem.W.hideAll_size _ _
theorem Di {h:Heap} {H:Hp} {b:Lz} {o:Obj} (e:h.get? b=some o) (n:H b=none):(wl h H).get? b=some o :=
 PySem.W.hideAll_get _ e λ hm=>by
  have q:(H b).isSome=true:=(LZ.mp hm).2;rw [n] at q; simp at q
theorem ER {h:Heap} {H:Hp} {b:Lz} {o:Obj} (e:(wl h H).get? b=some o):h.get? b=some o/\H b=none:=by
 have e':h.get? b=some o:=PySem.W.of_hideAll (trk h H) e;refine ⟨e',?_⟩;cases q:H b with
 | none=>rfl
 | some x =>
  have hm:b∈trk h H:=LZ.mpr ⟨Mg.mpr (Ly e'),by simp [q]⟩;have z:(wl h H).get? b=none:=PySem.W.hideAll_none (trk h H) hm;rw [z] at e; cases e
noncomputable def Ft (g h:Heap) (L:Lz):List (Lz×Obj):=(List.range h.objs.size).filterMap λ a=>if a=L\/(g.get? a).isSome=true then none else (h.get? a).map λ o=>(a,o)
noncomputable def rest (g h:Heap) (L d:Lz):List (Lz×Obj):=(Ft g h L).filter λ p=>decide (p.1≠d)
structure Mod (K:K6) (mg:Str->Option Lf) (base:Heap):Prop where
 kin:K.In base
 glob:base.Ns mainGlobals mg
 blt:∃ mb,base.Ns builtinsNs mb/\∀ x:Str,x ≠ "__name__" -> mb x=bootBuiltins x
 nolimit:base.NoLimit
structure Cx where
 prog:LM
 w:World
 K:K6
 mg:Str->Option Lf
 base:Heap
 A:Mb
 N:List Str
 s₀:Lh
 H₀:Hp
 env:Env
 outer:List Env
 stack:List Env
 ex:List Lz
 fn:Str->Bool
 calm:Bool
 pn:List (Lz×Obj)
 xe:Lf->Lh->Prop
noncomputable def frs (l:List Env):List Lz:=l.filterMap (·.frame)
noncomputable abbrev Cx.fs (X:Cx):List Lz:=frs X.outer
noncomputable def Vis (sc:Scope) (x:Str):Prop:=sc.names.lookup x=some .local\/sc.names.lookup x=some .cell\/sc.names.lookup x=some .free
noncomputable def Loc (sc:Scope) (x:Str):Prop:=sc.names.lookup x=some .local\/sc.names.lookup x=some .cell
noncomputable def Look (env:Env) (h:Heap) (m:Str->Option Lf) (x:Str) (u:Lf):Prop :=
 (env.kindOf x=some .local/\m x=some u)\/((env.kindOf x=some .cell\/env.kindOf x=some .free)/\∃ c,env.cells.lookup x=some c/\h.IsCell c (some u))
structure Cx.Ok (X:Cx):Prop where
 mod:Mod X.K X.mg X.base
 kind:X.env.scope.kind=.function
 glob:X.env.globals=mainGlobals
 blt:X.env.builtins=builtinsNs
 above:X.s₀.heap.objs.size<=X.env.locals
 inj:∀ x y c,X.env.cells.lookup x=some c->X.env.cells.lookup y=some c->x=y
 has:∀ x,(X.env.kindOf x=some .cell\/X.env.kindOf x=some .free)->∃ c,X.env.cells.lookup x=some c
 cab:∀ x c,X.fn x=true->X.env.cells.lookup x=some c->X.s₀.heap.objs.size<=c
 hd:X.calm=true->X.A.handled=none
 frames:X.A.frames=some X.stack
 stk:X.stack=X.outer\/(X.stack=X.env::X.outer/\X.env.frame=some X.env.locals)
 exf:∀ b∈X.ex,b≠X.env.locals/\∀ x c,X.env.cells.lookup x=some c->c≠b
 bs:∀ b o,X.base.get? b=some o->X.s₀.heap.get? b=some o/\X.H₀ b=none
 bsz:X.base.objs.size<=X.s₀.heap.objs.size
 noex:∀ b o,X.base.get? b=some o->b∉X.ex
 exfs:∀ b∈X.ex,b∉X.fs
 funs:X.s₀.heap.FunFrames X.base X.outer
 frf:∀ b∈X.fs,X.H₀ b=none
structure Inv (X:Cx) (pins:List (Lz×Obj)) (σ:List (Option V)) (H:Hp) (s:Lh):Prop where
 ok:X.Ok
 os:s.os=X.s₀.os
 bare:AllBare s.gens
 base:Un X.fs X.ex X.H₀ H X.s₀.heap s.heap
 loc:∃ m,s.heap.Ns X.env.locals m/\∀ (i:Nat) (x:Str) (v:V),X.N[i]?=some x->σ[i]?=some (some v)->Vis X.env.scope x->∃ u,RelV v u/\Look X.env s.heap m x u
 cell:∀ x c,X.env.cells.lookup x=some c->∃ v,s.heap.IsCell c v
 free:H X.env.locals=none
 freeC:∀ x c,X.env.cells.lookup x=some c->H c=none
 pin:∀ p∈X.pn++pins,s.heap.get? p.1=some p.2/\H p.1=none/\p.1≠X.env.locals/\p.1∉X.fs/\∀ v,p.2.data≠.cell v
 hok:HOk X.prog X.w H s.heap
 len:σ.length=X.N.length
section
variable {X:Cx} {pins:List (Lz×Obj)} {σ:List (Option V)} {H H':Hp} {s:Lh} {h':Heap}
theorem Cx.Ok.nofr (ok:X.Ok) {b:Lz} {o:Obj} (e:X.base.get? b=some o):b∉X.fs:=λ hb=>by
 have:=(ok.funs.mem hb).1
 rw [e] at this; cases this
theorem Inv.bs (I:Inv X pins σ H s):∀ b o,X.base.get? b=some o->s.heap.get? b=some o/\H b=none:=λ b o e =>
 ⟨I.base.keep b o (I.ok.bs b o e).1 (I.ok.bs b o e).2 (I.ok.nofr e) (I.ok.noex b o e),I.base.free b o (I.ok.bs b o e).1 (I.ok.bs b o e).2 (I.ok.noex b o e)⟩
theorem Inv.bk (I:Inv X pins σ H s):∀ b o,X.base.get? b=some o->s.heap.get? b=some o:=λ b o e=>(I.bs b o e).1
theorem Inv.mod (I:Inv X pins σ H s):Mod X.K X.mg X.base:=I.ok.mod
theorem Inv.kIn (I:Inv X pins σ H s):X.K.In s.heap:=I.ok.mod.kin.keeps I.bk
theorem Inv.lt (I:Inv X pins σ H s):X.env.locals < s.heap.objs.size:=let ⟨_,hn,_⟩:=I.loc; hn.lt
theorem Inv.sz (I:Inv X pins σ H s):X.s₀.heap.objs.size<=s.heap.objs.size:=LS I.ok.above (Nat.le_of_lt I.lt)
theorem Inv.nofs (I:Inv X pins σ H s) {a:Lz} (h:s.heap.objs.size<=a):a∉X.fs:=λ hb=>by
 obtain ⟨_,o,ho,_⟩:=I.ok.funs.mem hb;exact absurd (LF (Ly ho) (LS I.sz h)) (MU _)
theorem Inv.cne (I:Inv X pins σ H s):∀ x c,X.env.cells.lookup x=some c->c≠X.env.locals:=λ x c e z=>by
 obtain ⟨v,o,ho,hd⟩:=I.cell x c e;obtain ⟨m,⟨o',es,ep,ho',hd',_⟩,_⟩:=I.loc;rw [z,ho'] at ho; cases ho; rw [hd'] at hd; cases hd
theorem Inv.funs (I:Inv X pins σ H s):s.heap.FunFrames X.base X.outer:=by
 have all:∀ (l:List Env),(∀ b∈frs l,b∈X.fs)->X.s₀.heap.FunFrames X.base l->s.heap.FunFrames X.base l:=by
  intro l
  induction l with
  | nil=>intro _ _; trivial
  | cons env r ih =>
   intro hs hl;obtain ⟨hk,⟨L,o,hf,hn,ho,hd⟩,hr⟩:=hl;have hL:L∈X.fs:=hs L (by unfold frs; rw [NI,hf]; exact Lc);obtain ⟨sl,e⟩:=I.base.slot L o ho (I.ok.frf L hL) hL λ z=>I.ok.exfs L z hL;exact ⟨hk,⟨L,_,hf,hn,e,hd⟩,ih (λ b hb=>hs b (by unfold frs; rw [NI,hf]; exact La _ hb)) hr⟩
 exact all X.outer (λ _ hb=>hb) I.ok.funs
theorem Inv.stack (I:Inv X pins σ H s):s.heap.FunFrames X.base X.stack:=by
 rcases I.ok.stk with e | ⟨e,hf⟩
 ·rw [e]; exact I.funs
 ·rw [e];obtain ⟨m,hn,_⟩:=I.loc;refine .cons (by rw [I.ok.kind]; decide) hf hn ?_ I.funs;exact Heap.get?_none_of_le (LS I.ok.bsz I.ok.above)
theorem Inv.stkSub (I:Inv X pins σ H s):∀ b∈frs X.stack,b∈X.env.locals::X.fs:=λ b hb=>by
 rcases I.ok.stk with e | ⟨e,hf⟩
 ·rw [e] at hb; exact La _ hb
 ·rw [e] at hb;unfold frs at hb;rw [NI,hf] at hb;exact hb
theorem Inv.stkFree (I:Inv X pins σ H s):∀ b∈frs X.stack,H b=none:=λ b hb=>by
 rcases LA.mp (I.stkSub b hb) with e | hb
 ·rw [e]; exact I.free
 ·obtain ⟨_,o,ho,_⟩:=I.ok.funs.mem hb;exact I.base.free b o ho (I.ok.frf b hb) λ z=>I.ok.exfs b z hb
theorem Inv.step {g':Array GenState} {t':Nat} {d':Drawn} {ch:List Lz} (I:Inv X pins σ H s)
  (hch:∀ b∈ch,(b∈X.ex\/X.s₀.heap.objs.size<=b)/\b≠X.env.locals/\(∀ x c,X.env.cells.lookup x=some c->c≠b)/\∀ p∈X.pn++pins,p.1≠b)
  (keep:∀ b o,b≠X.env.locals->b∉X.fs->b∉ch->s.heap.get? b=some o->H b=none->h'.get? b=some o)
  (slot:∀ b o,b≠X.env.locals->b∈X.fs->b∉ch->s.heap.get? b=some o->H b=none->∃ sl,h'.get? b=some { o with slots:=sl }) (free:∀ b o,b∉ch->s.heap.get? b=some o->H b=none->H' b=none)
  (there:∀ b o,b∉ch->s.heap.get? b=some o->∃ o',h'.get? b=some o')
  (tups:∀ b xs,H b=some (.tup xs)->H' b=some (.tup xs)) (frzs:∀ b o u,H b=some (.frz o u)->H' b=some (.frz o u)) (tbls:∀ b ps,H b=some (.tbl ps)->∃ more,H' b=some (.tbl (ps++more)))
  (ns:∀ m,s.heap.Ns X.env.locals m->h'.Ns X.env.locals m) (hok:HOk X.prog X.w H' h') (hg:AllBare g') :
  Inv X pins σ H' { s with heap:=h',gens:=g',drawn:=d',toks:=t' }:=by
 have neL:∀ b o,X.s₀.heap.get? b=some o->b≠X.env.locals:=λ b o e=>LP (LF (Ly e) I.ok.above);have neC:∀ b o,X.s₀.heap.get? b=some o->b∉X.ex->b∉ch:=λ b o e hx hb=>by
  rcases (hch b hb).1 with z | z
  ·exact hx z
  ·exact absurd (LF (Ly e) z) (MU _)
 have cellK:∀ x c,X.env.cells.lookup x=some c->∀ v,s.heap.IsCell c v->h'.IsCell c v:=λ x c e v ⟨o,ho,hd⟩=>by
  have nch:c∉ch:=λ z=>(hch c z).2.2.1 x c e rfl;by_cases hc:c∈X.fs
  ·obtain ⟨sl,q⟩:=slot c o (I.cne x c e) hc nch ho (I.freeC x c e);exact ⟨_,q,hd⟩
  ·exact ⟨o,keep c o (I.cne x c e) hc nch ho (I.freeC x c e),hd⟩
 refine ⟨I.ok,I.os,hg,⟨λ b o e n hb hx=>?_,λ b o e n hb hx=>?_,λ b o e n hx=>?_,λ b o e hx=>?_,λ b xs e=>tups b xs (I.base.tups b xs e),λ b o xs e=>frzs b o xs (I.base.frzs b o xs e),λ b ps e=>?_⟩,?_,λ x c e=>?_,?_,λ x c e=>?_,λ p hp=>?_,hok,I.len⟩
 ·exact keep b o (neL b o e) hb (neC b o e hx) (I.base.keep b o e n hb hx) (I.base.free b o e n hx)
 ·obtain ⟨sl,e1⟩:=I.base.slot b o e n hb hx;obtain ⟨sl',e2⟩:=slot b _ (neL b o e) hb (neC b o e hx) e1 (I.base.free b o e n hx);exact ⟨sl',e2⟩
 ·obtain ⟨o',e1⟩:=I.base.there b o e hx;exact free b o' (neC b o e hx) e1 (I.base.free b o e n hx)
 ·obtain ⟨o',e1⟩:=I.base.there b o e hx;exact there b o' (neC b o e hx) e1
 ·obtain ⟨m1,e1⟩:=I.base.tbls b ps e;obtain ⟨m2,e2⟩:=tbls b _ e1;exact ⟨m1++m2,by rw [e2,Array.append_assoc]⟩
 ·obtain ⟨m,hn,hl⟩:=I.loc;refine ⟨m,ns m hn,λ i x v e1 e2 e3=>?_⟩;obtain ⟨u,r,l⟩:=hl i x v e1 e2 e3;refine ⟨u,r,?_⟩;rcases l with l | ⟨k,c,e,z⟩
  ·exact .inl l
  ·exact .inr ⟨k,c,e,cellK x c e _ z⟩
 ·obtain ⟨v,z⟩:=I.cell x c e;exact ⟨v,cellK x c e v z⟩
 ·obtain ⟨m,⟨o,_,_,ho,_⟩,_⟩:=I.loc;exact free _ o (λ z=>(hch _ z).2.1 rfl) ho I.free
 ·obtain ⟨v,o,ho,hd⟩:=I.cell x c e;exact free c o (λ z=>(hch c z).2.2.1 x c e rfl) ho (I.freeC x c e)
 ·obtain ⟨e,n,ne,nf,d⟩:=I.pin p hp;have nch:p.1∉ch:=λ z=>(hch p.1 z).2.2.2 p hp rfl;exact ⟨keep p.1 p.2 ne nf nch e n,free p.1 p.2 nch e n,ne,nf,d⟩
theorem Inv.un {t':Nat} (I:Inv X pins σ H s) (u:Un X.fs [] H H' s.heap h') (hok:HOk X.prog X.w H' h'):Inv X pins σ H' { s with heap:=h',toks:=t' }:=by
 obtain ⟨m,⟨o,es,ep,ho,r⟩,_⟩:=id I.loc;obtain ⟨sl,hL⟩:=u.any ho I.free (by simp);exact I.step (g':=s.gens) (d':=s.drawn) (ch:=[]) (λ _ z=>nomatch z) (λ b o _ hb _ e n=>u.keep b o e n hb (by simp)) (λ b o _ hb _ e n=>u.slot b o e n hb (by simp)) (λ b o _ e n=>u.free b o e n (by simp)) (λ b o _ e=>u.there b o e (by simp)) u.tups u.frzs u.tbls (λ m' hm=>by
  obtain ⟨o',es',ep',ho',r'⟩:=hm;rw [ho] at ho'; cases ho';exact ⟨_,es',ep',hL,r'⟩) hok I.bare
theorem Inv.call {g':Array GenState} {t':Nat} {d':Drawn} {ch:List Lz} (I:Inv X pins σ H s) (u:Un (frs X.stack) ch H H' s.heap h') (hok:HOk X.prog X.w H' h') (hg:AllBare g')
  (hch:∀ b∈ch,(b∈X.ex\/X.s₀.heap.objs.size<=b)/\b≠X.env.locals/\(∀ x c,X.env.cells.lookup x=some c->c≠b)/\∀ p∈X.pn++pins,p.1≠b) :
  Inv X pins σ H' { s with heap:=h',gens:=g',drawn:=d',toks:=t' }:=by
 obtain ⟨m,⟨o,es,ep,ho,r⟩,_⟩:=id I.loc;obtain ⟨sl,hL⟩:=u.any ho I.free λ z=>(hch _ z).2.1 rfl;exact I.step (ch:=ch) hch (λ b o hL hb hc e n=>u.keep b o e n (λ z=>(LA.mp (I.stkSub b z)).elim hL hb) hc) (λ b o _ _ hc e n=>u.any e n hc) (λ b o hc e n=>u.free b o e n hc) (λ b o hc e=>u.there b o e hc) u.tups u.frzs u.tbls (λ m' hm=>by
  obtain ⟨o',es',ep',ho',r'⟩:=hm;rw [ho] at ho'; cases ho';exact ⟨_,es',ep',hL,r'⟩) hok hg
theorem Inv.turned {t':Nat} {it:Lz} (I:Inv X pins σ H s) (k:∀ b o,b≠it->s.heap.get? b=some o->h'.get? b=some o) (hn:H it=none) (hL:it≠X.env.locals)
  (h1:it∈X.ex\/X.s₀.heap.objs.size<=it) (h2:∀ x c,X.env.cells.lookup x=some c->c≠it) (h3:∀ p∈X.pn++pins,p.1≠it):Inv X pins σ H { s with heap:=h',toks:=t' }:=by
 have nit:∀ b u,H b=some u->b≠it:=λ b u e z=>by rw [z,hn] at e; cases e
 refine I.step (g':=s.gens) (d':=s.drawn) (ch:=[it]) (λ b hb=>?_) (λ b o _ _ hc e _=>k b o (λ z=>hc (by simp [z])) e) (λ b o _ _ hc e _=>⟨o.slots,k b o (λ z=>hc (by simp [z])) e⟩) (λ _ _ _ _ n=>n)
  (λ b o hc e=>⟨o,k b o (λ z=>hc (by simp [z])) e⟩) (λ _ _ e=>e) (λ _ _ _ e=>e) (λ b ps e=>⟨#[],by rw [e]; simp⟩) (λ m hm=>?_) (λ b u e=>?_) I.bare
 ·have e:b=it:=by simpa using hb
  subst e;exact ⟨h1,hL,h2,h3⟩
 ·obtain ⟨o,es,ep,ho,r⟩:=hm;exact ⟨o,es,ep,k _ o (Ne.symm hL) ho,r⟩
 ·refine (I.hok b u e).stay (λ c v hc q=>k c v ?_ q) (λ _ q=>q) λ _ _ q=>q;rcases hc with z | z
  ·rw [z]; exact nit b u e
  ·exact nit c _ z
theorem Inv.tok (I:Inv X pins σ H s) (t:Nat):Inv X pins σ H { s with toks:=t }:=I.un (h':=s.heap) (t':=t) Un.refl I.hok
theorem Inv.kept {t':Nat} (I:Inv X pins σ H s) (k:∀ b u,s.heap.get? b=some u->h'.get? b=some u):Inv X pins σ H { s with heap:=h',toks:=t' }:=I.un (Un.kept k) (I.hok.kept k)
theorem Inv.laid {a:Lz} {o:HO} {t':Nat} (I:Inv X pins σ H s) (k:∀ b u,s.heap.get? b=some u->h'.get? b=some u) (hp:s.heap.objs.size<=a) (new:ObjOk X.prog X.w (upd H a o) h' a o) :
  Inv X pins σ (upd H a o) { s with heap:=h',toks:=t' }:=I.un (Un.laid k hp (I.hok.fresh hp)) (I.hok.laid k hp new)
theorem Inv.write {x e:Lz} {o:HO} {t':Nat} (I:Inv X pins σ H s) (mu:Mut (H x)) (he:e=x\/H e=some (.own x)) (k:∀ b u,b≠e->s.heap.get? b=some u->h'.get? b=some u) (heo:∃ u,h'.get? e=some u)
  (new:ObjOk X.prog X.w (upd H x o) h' x o):Inv X pins σ (upd H x o) { s with heap:=h',toks:=t' }:=I.un (Un.write mu he k heo) (I.hok.write mu he k heo new)
theorem Inv.weak {σ':List (Option V)} (I:Inv X pins σ H s) (hl:σ'.length=σ.length) (w:∀ (i:Nat) v,σ'[i]?=some (some v)->σ[i]?=some (some v)):Inv X pins σ' H s :=
 ⟨I.ok,I.os,I.bare,I.base,let ⟨m,hn,hl'⟩:=I.loc; ⟨m,hn,λ i x v e1 e2 e3=>hl' i x v e1 (w i v e2) e3⟩,I.cell,I.free,I.freeC,I.pin,I.hok,hl.trans I.len⟩
theorem Inv.pins_of {pins':List (Lz×Obj)} (I:Inv X pins σ H s) (h:∀ p∈pins',s.heap.get? p.1=some p.2/\H p.1=none/\p.1≠X.env.locals/\p.1∉X.fs/\∀ v,p.2.data≠.cell v):Inv X pins' σ H s :=
 ⟨I.ok,I.os,I.bare,I.base,I.loc,I.cell,I.free,I.freeC,λ p hp=>(LX.mp hp).elim (λ z=>I.pin p (L0 _ z)) (h p),I.hok,I.len⟩
theorem xp {N:List Str} (hN:N.Nodup) {i j:Nat} {x:Str} (a:N[i]?=some x) (b:N[j]?=some x):i=j:=by
 obtain ⟨h1,e1⟩:=Lb.mp a;obtain ⟨h2,e2⟩:=Lb.mp b;exact (List.getElem_inj hN).mp (e1.trans e2.symm)
theorem uN {M:Model} {A:Mb} {E:Lf->Lh->Prop} {i:Nat} {x:Str} {v:V} {u:Lf} {Q:Unit->Lh->Prop} (I:Inv X pins σ H s) (hN:X.N.Nodup) (hi:X.N[i]?=some x) (hx:Loc X.env.scope x) (r:RelV v u)
  (h:∀ s',Inv X pins (σ.set i (some v)) H s'->(∃ a,Heap.SameBut a s.heap s'.heap/\(a=X.env.locals\/X.env.cells.lookup x=some a))->Q () s') (hf:X.fn x=true\/X.env.scope.names.lookup x=some .local:=by first | exact .inl rfl | exact .inr rfl | assumption):L1 M A (storeName X.env x u) Q E s:=by
 obtain ⟨m,hn,hl⟩:=id I.loc;have hcls:(X.env.scope.kind==.class||(X.env.scope.kind==.module&&X.env.locals != X.env.globals))=false:=by rw [I.ok.kind]; rfl
 have hiσ:i < σ.length:=by rw [I.len]; exact (Lb.mp hi).1
 have cne:=I.cne;have tracked:∀ {a:Lz} {h':Heap},(∃ o,s.heap.get? a=some o/\H a=none)->Heap.SameBut a s.heap h'->HOk X.prog X.w H h':=λ {a h'} ha hs b ob e=>by
  obtain ⟨_,_,hfree⟩:=ha;refine (I.hok b ob e).stay (λ c w' hc q=>(hs.2 c ?_).trans q) (λ _ q=>q) λ _ _ q=>q
  rintro rfl
  rcases hc with rfl | hc
  ·rw [hfree] at e; cases e
  ·rw [hfree] at hc; cases hc
 rcases hx with hk | hk
 ·refine wpAny_storeName_local hk hn (λ h' hn' hs=>?_) hcls;obtain ⟨oL,_,_,hoL,_⟩:=id hn;refine h _ ⟨I.ok,I.os,I.bare,⟨λ b o e n hb hx=>?_,λ b o e n hb hx=>?_,I.base.free,λ b o e hx=>?_,I.base.tups,I.base.frzs,I.base.tbls⟩,⟨_,hn',λ j y v' e1 e2 e3=>?_⟩,λ y c e=>?_,I.free,I.freeC,λ p hp=>?_,tracked ⟨oL,hoL,I.free⟩ hs,by simpa using I.len⟩ ⟨_,hs,.inl rfl⟩
  ·exact (hs.2 b (LP (LF (Ly e) I.ok.above))).trans (I.base.keep b o e n hb hx)
  ·obtain ⟨sl,e1⟩:=I.base.slot b o e n hb hx;exact ⟨sl,(hs.2 b (LP (LF (Ly e) I.ok.above))).trans e1⟩
  ·obtain ⟨o',e1⟩:=I.base.there b o e hx;exact ⟨o',(hs.2 b (LP (LF (Ly e) I.ok.above))).trans e1⟩
  ·by_cases hj:j=i
   ·subst hj;rw [hi] at e1; cases e1;rw [Lr hiσ] at e2;cases e2;exact ⟨u,r,.inl ⟨hk,by simp⟩⟩
   ·rw [Ld (Ne.symm hj)] at e2;obtain ⟨u',r',q⟩:=hl j y v' e1 e2 e3;refine ⟨u',r',?_⟩;rcases q with ⟨k,e⟩ | ⟨k,c,e,z⟩
    ·refine .inl ⟨k,?_⟩
     have:y≠x:=λ e=>hj (xp hN e1 (e ▸ hi))
     simp [this,e]
    ·exact .inr ⟨k,c,e,z.sameBut hs (cne y c e)⟩
  ·obtain ⟨w',z⟩:=I.cell y c e;exact ⟨w',z.sameBut hs (cne y c e)⟩
  ·obtain ⟨e,n,ne,nf,d⟩:=I.pin p hp;exact ⟨(hs.2 p.1 ne).trans e,n,ne,nf,d⟩
 ·have hfn:X.fn x=true:=by
   rcases hf with z | z
   ·exact z
   ·rw [z] at hk; cases hk
  obtain ⟨c,hc⟩:=I.ok.has x (.inl hk);obtain ⟨w',z⟩:=I.cell x c hc;refine wpAny_storeName_cell I.ok.kind hk hc z (λ h' hc' hs=>?_);obtain ⟨oc,hoc,hocd⟩:=id z;refine h { s with heap:=h' } ⟨I.ok,I.os,I.bare,⟨λ b o e n hb hx=>?_,λ b o e n hb hx=>?_,I.base.free,λ b o e hx=>?_,I.base.tups,I.base.frzs,I.base.tbls⟩,⟨m,hn.sameBut hs (Ne.symm (cne x c hc)),λ j y v' e1 e2 e3=>?_⟩,λ y c' e=>?_,I.free,I.freeC,λ p hp=>?_,tracked ⟨oc,hoc,I.freeC x c hc⟩ hs,by simpa using I.len⟩ ⟨c,hs,.inr hc⟩
  ·exact (hs.2 b (LP (LF (Ly e) (I.ok.cab x c hfn hc)))).trans (I.base.keep b o e n hb hx)
  ·obtain ⟨sl,e1⟩:=I.base.slot b o e n hb hx;exact ⟨sl,(hs.2 b (LP (LF (Ly e) (I.ok.cab x c hfn hc)))).trans e1⟩
  ·obtain ⟨o',e1⟩:=I.base.there b o e hx;exact ⟨o',(hs.2 b (LP (LF (Ly e) (I.ok.cab x c hfn hc)))).trans e1⟩
  ·by_cases hj:j=i
   ·subst hj;rw [hi] at e1; cases e1;rw [Lr hiσ] at e2;cases e2;exact ⟨u,r,.inr ⟨.inl hk,c,hc,hc'⟩⟩
   ·rw [Ld (Ne.symm hj)] at e2;obtain ⟨u',r',q⟩:=hl j y v' e1 e2 e3;refine ⟨u',r',?_⟩;rcases q with q | ⟨k,c',e,z'⟩
    ·exact .inl q
    ·refine .inr ⟨k,c',e,z'.sameBut hs ?_⟩
     rintro rfl
     exact hj (xp hN e1 (I.ok.inj _ _ _ e hc ▸ hi))
  ·by_cases hcc:c'=c
   ·subst hcc; exact ⟨_,hc'⟩
   ·obtain ⟨w2,z2⟩:=I.cell y c' e;exact ⟨w2,z2.sameBut hs hcc⟩
  ·obtain ⟨e,n,ne,nf,d⟩:=I.pin p hp;refine ⟨(hs.2 p.1 ?_).trans e,n,ne,nf,d⟩;intro q;rw [q,hoc] at e;have q':oc=p.2:=Option.some.inj e;exact d w' (by rw [<- q']; exact hocd)
theorem mF {M:Model} {A:Mb} {E:Lf->Lh->Prop} {i:Nat} {x:Str} {v:V} {u:Lf} {Q:Unit->Lh->Prop} (I:Inv X pins σ H s) (hN:X.N.Nodup) (hi:X.N[i]?=some x) (hx:Loc X.env.scope x) (r:RelV v u)
  (h:∀ s',Inv X pins (σ.set i (some v)) H s'->Q () s') (hf:X.fn x=true\/X.env.scope.names.lookup x=some .local:=by first | exact .inl rfl | exact .inr rfl | assumption):L1 M A (storeName X.env x u) Q E s :=
 uN I hN hi hx r (λ s' I' _=>h s' I') hf
theorem Inv.call' {s':Lh} {ch:List Lz} (I:Inv X pins σ H s) (ho:s'.os=s.os) (u:Un (frs X.stack) ch H H' s.heap s'.heap) (hok:HOk X.prog X.w H' s'.heap) (hg:AllBare s'.gens)
  (hch:∀ b∈ch,(b∈X.ex\/X.s₀.heap.objs.size<=b)/\b≠X.env.locals/\(∀ x c,X.env.cells.lookup x=some c->c≠b)/\∀ p∈X.pn++pins,p.1≠b):Inv X pins σ H' s':=by
 obtain ⟨h',g',d',t',o'⟩:=s';have e:o'=s.os:=ho;subst e;exact I.call (g':=g') (t':=t') (d':=d') u hok hg hch
end
noncomputable abbrev XK:=Lf->Option Lz->Hp->Prop
noncomputable abbrev St:=List (Option V)
noncomputable abbrev VK:=V->Hp->Prop
noncomputable abbrev TE:=St->Hp->VK->Prop
noncomputable abbrev TT:=St->Hp->(Bool->Hp->Prop)->Prop
noncomputable abbrev TA:=St->Hp->(List V->Hp->Prop)->Prop
structure Ends where
 nx:St->Hp->Prop
 rt:VK
 bk:St->Hp->Prop:=λ _ _=>False
 ct:St->Hp->Prop:=λ _ _=>False
noncomputable abbrev TS:=Ends->St->Hp->Prop
noncomputable def EP (X:Cx) (pins:List (Lz×Obj)) (σ:St) (Q:VK) (u:Lf) (s':Lh):Prop:=∃ v H',Inv X pins σ H' s'/\RelV v u/\Q v H'
noncomputable def TP (X:Cx) (pins:List (Lz×Obj)) (σ:St) (Q:Bool->Hp->Prop) (b:Bool) (s':Lh):Prop:=∃ H',Inv X pins σ H' s'/\Q b H'
noncomputable def AP (X:Cx) (pins:List (Lz×Obj)) (σ:St) (Q:List V->Hp->Prop) (us:List Lf) (s':Lh):Prop:=∃ vs H',Inv X pins σ H' s'/\Vals vs us/\Q vs H'
noncomputable def SP (X:Cx) (pins:List (Lz×Obj)) (D:Ends) (f:Flow) (s':Lh):Prop :=
 match f with
 | .next=>∃ σ' H',Inv X pins σ' H' s'/\D.nx σ' H'
 | .brk=>∃ σ' H',Inv X pins σ' H' s'/\D.bk σ' H'
 | .cont=>∃ σ' H',Inv X pins σ' H' s'/\D.ct σ' H'
 | .ret u=>∃ v σ' H',Inv X pins σ' H' s'/\RelV v u/\D.rt v H'
noncomputable def PE (X:Cx) (e:Expr) (t:TE):Prop :=
 ∀ (pins:List (Lz×Obj)) (s:Lh) (σ:St) (H:Hp) (Q:VK),Inv X pins σ H s->t σ H Q->L1 (L6 X.prog X.w) X.A (eval e X.env) (EP X pins σ Q) X.xe s
noncomputable def PT (X:Cx) (e:Expr) (t:TT):Prop :=
 ∀ (pins:List (Lz×Obj)) (s:Lh) (σ:St) (H:Hp) (Q:Bool->Hp->Prop),Inv X pins σ H s->t σ H Q->L1 (L6 X.prog X.w) X.A (isTrue e X.env (eval e X.env)) (TP X pins σ Q) X.xe s
noncomputable def PW (X:Cx) (e:Expr) (t:TT):Prop :=
 ∀ (whole:Sem Lf) (pins:List (Lz×Obj)) (s:Lh) (σ:St) (H:Hp) (Q:Bool->Hp->Prop),Inv X pins σ H s->t σ H Q->L1 (L6 X.prog X.w) X.A (isTrue e X.env whole) (TP X pins σ Q) X.xe s
theorem PW.pt {X:Cx} {e:Expr} {t:TT} (h:PW X e t):PT X e t:=h _
noncomputable def PA (X:Cx) (es:List Expr) (t:TA):Prop :=
 ∀ (pos:Pos) (pins:List (Lz×Obj)) (s:Lh) (σ:St) (H:Hp) (Q:List V->Hp->Prop),Inv X pins σ H s->t σ H Q->L1 (L6 X.prog X.w) X.A (spliced (backTo pos (Lj es X.env))) (AP X pins σ Q) X.xe s
noncomputable def PS (X:Cx) (st:Stmt) (t:TS):Prop :=
 ∀ (pins:List (Lz×Obj)) (s:Lh) (σ:St) (H:Hp) (D:Ends),Inv X pins σ H s->t D σ H->L1 (L6 X.prog X.w) X.A (exec st X.env) (SP X pins D) X.xe s
noncomputable def PSs (X:Cx) (st:List Stmt) (t:TS):Prop :=
 ∀ (pins:List (Lz×Obj)) (s:Lh) (σ:St) (H:Hp) (D:Ends),Inv X pins σ H s->t D σ H->L1 (L6 X.prog X.w) X.A (execs st X.env) (SP X pins D) X.xe s
theorem thn {α:Type} {t:Sem α} {Q Q':α->Lh->Prop} {M:Model} {A:Mb} {E:Lf->Lh->Prop} {s:Lh} (h:L1 M A t Q E s) (hQ:∀ a s,Q a s->Q' a s):L1 M A t Q' E s:=wpAny_mono h hQ λ _ _ x=>x
section
variable {X:Cx}
noncomputable def Kg (i:Nat):TE:=λ σ H Q=>∃ v,σ[i]?=some (some v)/\Q v H
noncomputable def tC (v:V):TE:=λ _ H Q=>Q v H
theorem mS {i:Nat} {x:Str} {pos:Pos} (hN:X.N[i]?=some x) (hv:Vis X.env.scope x) (hd:(x==("__debug__" : Str))=false:=by decide) (hcd:(x==("__classdict__" : Str))=false:=by decide):PE X (.Name x pos) (Kg i):=by
 intro pins s σ H Q I h;obtain ⟨v,e,h⟩:=h;obtain ⟨m,hn,hl⟩:=I.loc;obtain ⟨u,r,l⟩:=hl i x v hN e hv;have fin:EP X pins σ Q u s:=⟨v,H,I,r,h⟩;rcases l with ⟨hk,hm⟩ | ⟨hk,c,hc,hcell⟩
 ·exact wpAny_Name (wpAny_loadName_local I.ok.kind hk hn hm fin) hd
 ·rcases hk with hk | hk
  ·exact wpAny_Name (wpAny_loadName_cell I.ok.kind hk hc hcell fin) hd
  ·exact wpAny_Name (wpAny_loadName_free I.ok.kind hk hc hcell fin hcd) hd
theorem GM {i j pos}:PE X (.Constant (.int i) j pos) (tC (.int i)):=λ _ _ _ H _ I h=>wpAny_Constant_int ⟨.int i,H,I.tok _,⟨_,rfl⟩,h⟩
theorem IF {b j pos}:PE X (.Constant (.bool b) j pos) (tC (.bl b)):=λ _ _ _ H _ I h=>Constant_bool ⟨.bl b,H,I,rfl,h⟩
theorem GK {j pos}:PE X (.Constant .none j pos) (tC .non):=λ _ _ _ H _ I h=>Constant_none ⟨.non,H,I,rfl,h⟩
theorem GH {x j pos}:PE X (.Constant (.str x) j pos) (tC (.str x)):=λ _ _ _ H _ I h=>Calls.Constant_str ⟨.str x,H,I.tok _,⟨_,rfl⟩,h⟩
noncomputable def Gl (X:Cx) (x:Str):Prop:=X.env.kindOf x=some .globalImplicit
theorem wg {E:Lf->Lh->Prop} {pins:List (Lz×Obj)} {s:Lh} {σ:St} {H:Hp} {x:Str} {u:Lf} {pos:Pos} {Q:Lf->Lh->Prop} (I:Inv X pins σ H s) (hg:Gl X x) (hm:X.mg x=some u) (h:Q u s)
  (hd:(x==("__debug__" : Str))=false:=by decide):L1 (L6 X.prog X.w) X.A (eval (.Name x pos) X.env) Q E s :=
 Calls.Name_function_global I.ok.kind hg (Calls.loadGlobal_global (by rw [I.ok.glob]; exact I.mod.glob.keeps I.bk) hm h) hd
theorem nh {E:Lf->Lh->Prop} {pins:List (Lz×Obj)} {s:Lh} {σ:St} {H:Hp} {x:Str} {u:Lf} {pos:Pos} {Q:Lf->Lh->Prop} (I:Inv X pins σ H s) (hg:Gl X x) (hm:X.mg x=none) (hv:bootBuiltins x=some u) (h:Q u s)
  (hn:x ≠ "__name__" := by decide) (hd:(x==("__debug__" : Str))=false:=by decide):L1 (L6 X.prog X.w) X.A (eval (.Name x pos) X.env) Q E s:=by
 obtain ⟨mb,h1,h2⟩:=I.mod.blt;exact Calls.Name_function_global I.ok.kind hg (Calls.loadGlobal_builtin (by rw [I.ok.glob]; exact I.mod.glob.keeps I.bk) hm (by rw [I.ok.blt]; exact h1.keeps I.bk) ((h2 x hn).trans hv) h) hd
theorem EE {x:Str} {v:V} {u:Lf} {pos:Pos} (hg:Gl X x) (hm:X.mg x=some u) (r:RelV v u) (hd:(x==("__debug__" : Str))=false:=by decide):PE X (.Name x pos) (tC v) :=
 λ _ _ _ H _ I h=>wg I hg hm ⟨v,H,I,r,h⟩ hd
variable {a b:Expr} {ta tb:TE} {pos:Pos}
noncomputable def tB (t:TE):TT:=λ σ H Q=>t σ H λ x H1=>∃ c,x=.bl c/\Q c H1
theorem GA {e:Expr} {t:TE} (h:PE X e t) (he:∀ whole,isTrue e X.env whole=(do let v <- whole; standAt e.pos; holding [v] (truthy v)):=by intro _; rfl):PT X e (tB t):=by
 intro pins s σ H Q I hw;refine isTrue_plain (thn (h pins s σ H _ I hw) λ v s1 ⟨x,H1,I1,r1,q1⟩=>?_) (he _);obtain ⟨d,rfl,q⟩:=q1;cases r1;exact wpAny_truthy_bool ⟨H1,I1,q⟩
variable {tA tB':TT} {rest:List Expr}
noncomputable def Ks (t u:TT):TT:=λ σ H Q=>t σ H λ c H1=>if c=true then u σ H1 Q else Q false H1
noncomputable def Kl (t:TT):TT:=λ σ H Q=>t σ H λ c H1=>Q (!c) H1
theorem pw_and1 (ha:PT X a tA):PW X (.BoolOp .And [a] pos) tA:=by
 intro wh pins s σ H Q I h;refine isTrue_and (thn (ha pins s σ H Q I h) λ c s1 e=>?_);cases c with
 | true=>exact isTrue_and_nil e
 | false=>exact e
theorem pw_and (ha:PT X a tA) (hb:PW X (.BoolOp .And (b::rest) pos) tB'):PW X (.BoolOp .And (a::b::rest) pos) (Ks tA tB'):=by
 intro wh pins s σ H Q I h;refine isTrue_and (thn (ha pins s σ H _ I h) λ c s1 ⟨H1,I1,q1⟩=>?_);cases c with
 | true=>exact hb wh pins s1 σ H1 Q I1 q1
 | false=>exact ⟨H1,I1,q1⟩
theorem Ce (ha:PT X a tA):PT X (.UnaryOp .Not a pos) (Kl tA):=by
 intro pins s σ H Q I h;exact isTrue_not (ha pins s σ H (λ c H1=>Q (!c) H1) I h)
noncomputable def Ih (ta tb:TE):TE:=λ σ H Q=>ta σ H λ x H1=>∃ c,x=.bl c/\if c=true then tb σ H1 Q else Q (.bl false) H1
noncomputable def HZ (ta:TE):TE:=λ σ H Q=>ta σ H λ x H1=>∃ c,x=.bl c/\Q (.bl (!c)) H1
theorem GI {op} {t:TE} (h:PE X a t):PE X (.BoolOp op [a] pos) t:=λ pins s σ H Q I hw=>BoolOp_one (h pins s σ H Q I hw)
theorem GO (ha:PE X a ta) (hb:PE X (.BoolOp .And (b::rest) pos) tb):PE X (.BoolOp .And (a::b::rest) pos) (Ih ta tb):=by
 intro pins s σ H Q I h;refine BoolOp_and (thn (ha pins s σ H _ I h) λ v s1 ⟨x,H1,I1,r1,q1⟩=>?_);obtain ⟨c,rfl,q1⟩:=q1;cases r1;refine wpAny_truthy_bool ?_;cases c with
 | true=>exact hb pins s1 σ H1 Q I1 q1
 | false=>exact ⟨.bl false,H1,I1,rfl,q1⟩
theorem GJ (ha:PE X a ta):PE X (.UnaryOp .Not a pos) (HZ ta):=by
 intro pins s σ H Q I h;refine UnaryOp_ (thn (ha pins s σ H _ I h) λ v s1 ⟨x,H1,I1,r1,q1⟩=>?_);obtain ⟨c,rfl,q1⟩:=q1;cases r1;exact not_of (wpAny_truthy_bool ⟨.bl (!c),H1,I1,rfl,q1⟩)
noncomputable def tIf (t:TT) (ta tb:TE):TE:=λ σ H Q=>t σ H λ c H1=>if c=true then ta σ H1 Q else tb σ H1 Q
theorem Cp {c:Expr} (hc:PT X c tA) (ha:PE X a ta) (hb:PE X b tb):PE X (.IfExp c a b pos) (tIf tA ta tb):=by
 intro pins s σ H Q I h;refine wpAny_IfExp (thn (hc pins s σ H _ I h) λ d s1 ⟨H1,I1,q1⟩=>?_);cases d with
 | true=>exact ha pins s1 σ H1 Q I1 q1
 | false=>exact hb pins s1 σ H1 Q I1 q1
end
noncomputable def SqL (K:K6) (H:Hp) (a:Lz) (xs:List V):Prop :=
 Rd H a (.lst xs) \/
  ∃ (o:Obj) (its:Array Lf) (n:Nat),K.lookup a=some o/\o.cls=.type "list" /\ o.dict=none/\o.data=.seq its n/\its.size<=Li/\Vals xs its.toList
noncomputable def SqT (K:K6) (H:Hp) (a:Lz) (xs:List V):Prop :=
 Rd H a (.tup xs) \/
  ∃ (o:Obj) (its:Array Lf) (n:Nat),K.lookup a=some o/\o.cls=.type "tuple" /\ o.data=.seq its n/\its.size<=Li/\Vals xs its.toList
noncomputable def KK:Lf->Option V
 | .none=>some .non
 | .bool b=>some (.bl b)
 | .int i _=>some (.int i)
 | .str x _=>some (.str x)
 | .bytes b _=>some (.byt b)
 | .float b _=>some (.flt b)
 | .ref a=>some (.ref a)
 | .type n=>some (.ty n)
 | _=>none
theorem RelV.abs {x:V} {u:Lf} (r:RelV x u):KK u=some x:=by
 cases x with
 | non=>cases r; rfl
 | bl _=>cases r; rfl
 | int _=>obtain ⟨t,rfl⟩:=r; rfl
 | str _=>obtain ⟨t,rfl⟩:=r; rfl
 | byt _=>obtain ⟨t,rfl⟩:=r; rfl
 | flt _=>obtain ⟨t,rfl⟩:=r; rfl
 | ref _=>cases r; rfl
 | ty _=>cases r; rfl
theorem RelV.inj {x y:V} {u:Lf} (r:RelV x u) (q:RelV y u):x=y:=Option.some.inj (r.abs.symm.trans q.abs)
theorem Vals.inj:∀ {xs ys:List V} {us:List Lf},Vals xs us->Vals ys us->xs=ys
 | _,_,_,.nil,.nil=>rfl
 | _,_,_,.cons r t,.cons r' t'=>by rw [r.inj r',Vals.inj t t']
section
variable {X:Cx} {pins:List (Lz×Obj)} {σ:St} {H:Hp} {s:Lh} {a:Lz} {xs ys:List V}
theorem SqL.of {K:K6} (h:H a=some (.lst xs)):SqL K H a xs:=.inl (.inl h)
theorem SqT.of {K:K6} (h:H a=some (.tup xs)):SqT K H a xs:=.inl (.inl h)
theorem Inv.list (I:Inv X pins σ H s) (h:SqL X.K H a xs):∃ its:List Lf,Vals xs its/\PlainL s.heap a its.toArray/\xs.length<=Li:=by
 rcases h with h | ⟨o,its,n,hk,hc,hd,hs,hz,r⟩
 ·obtain ⟨z,its,n,r,e⟩:=h.ok I.hok;exact ⟨its,r,⟨_,n,e,rfl,rfl,rfl⟩,z⟩
 ·refine ⟨its.toList,r,⟨o,n,I.kIn a o hk,hc,hd,by simpa using hs⟩,?_⟩;have e:=r.length;simp only [Array.length_toList] at e;omega
theorem Inv.tuple (I:Inv X pins σ H s) (h:SqT X.K H a xs):∃ its:List Lf,Vals xs its/\IsTup s.heap a its.toArray/\xs.length<=Li:=by
 rcases h with h | ⟨o,its,n,hk,hc,hs,hz,r⟩
 ·obtain ⟨z,its,r,p⟩:=h.ok I.hok;exact ⟨its,r,p,z⟩
 ·refine ⟨its.toList,r,⟨o,I.kIn a o hk,hc,n,by simpa using hs⟩,?_⟩;have e:=r.length;simp only [Array.length_toList] at e;omega
theorem Inv.list_inj (I:Inv X pins σ H s) (h:SqL X.K H a xs) (h':SqL X.K H a ys):xs=ys:=by
 obtain ⟨its,r,⟨o,n,e,_,_,d⟩,_⟩:=I.list h;obtain ⟨its',r',⟨o',n',e',_,_,d'⟩,_⟩:=I.list h';rw [e] at e'; cases e';rw [d] at d';injection d' with d1 _
 have:its=its':=by simpa using congrArg Array.toList d1
 subst this;exact r.inj r'
theorem Inv.tuple_inj (I:Inv X pins σ H s) (h:SqT X.K H a xs) (h':SqT X.K H a ys):xs=ys:=by
 obtain ⟨its,r,⟨o,e,_,n,d⟩,_⟩:=I.tuple h;obtain ⟨its',r',⟨o',e',_,n',d'⟩,_⟩:=I.tuple h';rw [e] at e'; cases e';rw [d] at d';injection d' with d1 _
 have:its=its':=by simpa using congrArg Array.toList d1
 subst this;exact r.inj r'
end
noncomputable abbrev Cx.wish (X:Cx) (E:Lf->Lh->Prop):Cx:={ X with xe:=E }
noncomputable abbrev Cx.nox (X:Cx):Cx:=X.wish λ _ _=>False
theorem Cx.Ok.wish {X:Cx} (ok:X.Ok) (E:Lf->Lh->Prop):(X.wish E).Ok :=
 ⟨ok.mod,ok.kind,ok.glob,ok.blt,ok.above,ok.inj,ok.has,ok.cab,ok.hd,ok.frames,ok.stk,ok.exf,ok.bs,ok.bsz,ok.noex,ok.exfs,ok.funs,ok.frf⟩
theorem Cx.Ok.unwish {X:Cx} {E:Lf->Lh->Prop} (ok:(X.wish E).Ok):X.Ok :=
 ⟨ok.mod,ok.kind,ok.glob,ok.blt,ok.above,ok.inj,ok.has,ok.cab,ok.hd,ok.frames,ok.stk,ok.exf,ok.bs,ok.bsz,ok.noex,ok.exfs,ok.funs,ok.frf⟩
section
variable {X:Cx} {pins:List (Lz×Obj)} {σ:St} {H:Hp} {s:Lh} {E:Lf->Lh->Prop}
theorem Inv.wish (I:Inv X pins σ H s) (E:Lf->Lh->Prop):Inv (X.wish E) pins σ H s:=⟨I.ok.wish E,I.os,I.bare,I.base,I.loc,I.cell,I.free,I.freeC,I.pin,I.hok,I.len⟩
theorem Inv.unwish (I:Inv (X.wish E) pins σ H s):Inv X pins σ H s:=⟨I.ok.unwish,I.os,I.bare,I.base,I.loc,I.cell,I.free,I.freeC,I.pin,I.hok,I.len⟩
theorem SP.unwish {D:Ends} {f:Flow} {s':Lh} (h:SP (X.wish E) pins D f s'):SP X pins D f s':=by
 cases f with
 | next=>obtain ⟨σ',H',I,q⟩:=h; exact ⟨σ',H',I.unwish,q⟩
 | brk=>obtain ⟨σ',H',I,q⟩:=h; exact ⟨σ',H',I.unwish,q⟩
 | cont=>obtain ⟨σ',H',I,q⟩:=h; exact ⟨σ',H',I.unwish,q⟩
 | ret u=>obtain ⟨v,σ',H',I,r,q⟩:=h; exact ⟨v,σ',H',I.unwish,r,q⟩
theorem PSs.nox {st:List Stmt} {t:TS} (h:PSs X.nox st t):PSs X st t:=λ pins s σ H D I hw =>
 wpAny_mono (h pins s σ H D (I.wish _) hw) (λ _ _ q=>q.unwish) λ _ _ z=>False.elim z
end
section
variable {X:Cx} {st:Stmt} {rest:List Stmt} {t u:TS} {e:Expr} {te:TE} {pos:Pos}
noncomputable def Ia:TS:=λ D σ H=>D.nx σ H
noncomputable def Ki (t u:TS):TS:=λ D σ H=>t { D with nx:=u D } σ H
theorem zX:PSs X [] Ia:=λ _ _ σ H _ I h=>wpAny_execs_nil ⟨σ,H,I,h⟩
theorem xg (h1:PS X st t) (h2:PSs X rest u):PSs X (st::rest) (Ki t u):=by
 intro pins s σ H D I h;refine wpAny_execs_cons (thn (h1 pins s σ H { D with nx:=u D } I h) λ f s1 q=>?_);cases f with
 | next =>
  obtain ⟨σ',H',I',q⟩:=q;exact h2 pins s1 σ' H' D I' q
 | ret v=>exact q
 | brk=>exact q
 | cont=>exact q
theorem zW (h1:PS X st t):PSs X [st] t:=by
 intro pins s σ H D I h;refine wpAny_execs_cons (thn (h1 pins s σ H D I h) λ f s1 q=>?_);cases f with
 | next=>exact wpAny_execs_nil q
 | ret v=>exact q
 | brk=>exact q
 | cont=>exact q
theorem Inv.quiet {pins:List (Lz×Obj)} {σ:St} {H:Hp} {s:Lh} (I:Inv X pins σ H s):interactive X.env=false:=by simp [interactive,I.ok.kind]
noncomputable def Ic (te:TE):TS:=λ D σ H=>te σ H λ _ H1=>D.nx σ H1
theorem vN (he:PE X e te) (hs:swapsWith e none pos.line X.env=pure false:=by rfl):PS X (.Expr e pos) (Ic te):=by
 intro pins s σ H D I h;exact wpAny_Expr_any (thn (he pins s σ H _ I h) λ v s1 ⟨x,H1,I1,r1,q1⟩=>⟨σ,H1,I1,q1⟩) I.quiet hs
noncomputable def Kj (te:TE):TS:=λ D σ H=>te σ H D.rt
theorem yT (he:PE X e te):PS X (.Return (some e) pos) (Kj te):=by
 intro pins s σ H D I h;exact wpAny_Return_some (thn (he pins s σ H _ I h) λ v s1 ⟨x,H1,I1,r1,q1⟩=>⟨x,σ,H1,I1,r1,q1⟩)
noncomputable def Kn (c:TT) (t u:TS):TS:=λ D σ H=>c σ H λ b H1=>if b=true then t D σ H1 else u D σ H1
theorem FL {c:Expr} {a b:List Stmt} {tc:TT} (hc:PT X c tc) (ha:PSs X a t) (hb:PSs X b u):PS X (.If c a b pos) (Kn tc t u):=by
 intro pins s σ H D I h;refine wpAny_If (thn (hc pins s σ H _ I h) λ d s1 ⟨H1,I1,q1⟩=>?_);cases d with
 | true=>exact ha pins s1 σ H1 D I1 q1
 | false=>exact hb pins s1 σ H1 D I1 q1
noncomputable def Gg:TS:=λ _ _ _=>False
theorem xh:PS X st Gg:=λ _ _ _ _ _ _ h=>h.elim
end
noncomputable abbrev TG:=V->St->Hp->(St->Hp->Prop)->Prop
noncomputable abbrev TGs:=List V->St->Hp->(St->Hp->Prop)->Prop
noncomputable def PG (X:Cx) (target:Expr) (t:TG):Prop :=
 ∀ (pins:List (Lz×Obj)) (s:Lh) (σ:St) (H:Hp) (v:V) (u:Lf) (Q:St->Hp->Prop),Inv X pins σ H s->RelV v u->t v σ H Q ->
  L1 (L6 X.prog X.w) X.A (assign target X.env u) (λ _ s'=>∃ σ' H',Inv X pins σ' H' s'/\Q σ' H') X.xe s
noncomputable def PGs (X:Cx) (ts:List Expr) (t:TGs):Prop :=
 ∀ (pins:List (Lz×Obj)) (s:Lh) (σ:St) (H:Hp) (vs:List V) (us:List Lf) (Q:St->Hp->Prop),Inv X pins σ H s->Vals vs us->t vs σ H Q ->
  L1 (L6 X.prog X.w) X.A (assignInOrder ((assignEach ts X.env).map (·.2)) us) (λ _ s'=>∃ σ' H',Inv X pins σ' H' s'/\Q σ' H') X.xe s
noncomputable abbrev TIp:=V->V->Hp->VK->Prop
noncomputable def PIp (X:Cx) (op:Operator) (t:TIp):Prop :=
 ∀ (pins:List (Lz×Obj)) (s:Lh) (σ:St) (H:Hp) (x y:V) (v u:Lf) (Q:VK),Inv X pins σ H s->RelV x v->RelV y u->t x y H Q ->
  L1 (L6 X.prog X.w) X.A (inplaceOp op v u) (EP X pins σ Q) X.xe s
section
variable {X:Cx} {pos:Pos}
noncomputable def u6 (i:Nat):TG:=λ v σ H Q=>Q (σ.set i (some v)) H
theorem aU {i:Nat} {x:Str} (hN:X.N.Nodup) (hi:X.N[i]?=some x) (hx:Loc X.env.scope x) (hf:X.fn x=true\/X.env.scope.names.lookup x=some .local:=by first | exact .inl rfl | exact .inr rfl | assumption):PG X (.Name x pos) (u6 i):=by
 intro pins s σ H v u Q I r h;exact wpAny_assign_Name (mF I hN hi hx r (λ s' I'=>⟨_,H,I',h⟩) hf)
noncomputable def IY:TGs:=λ vs σ H Q=>vs=[]/\Q σ H
noncomputable def FT (t:TG) (u:TGs):TGs:=λ vs σ H Q=>∃ v r,vs=v::r/\t v σ H λ σ' H'=>u r σ' H' Q
theorem pC:PGs X [] IY:=by
 intro pins s σ H vs us Q I r h;obtain ⟨e,h⟩:=h;subst e;cases r;exact assignInOrder_nil ⟨σ,H,I,h⟩
theorem gX {e:Expr} {es:List Expr} {t:TG} {u:TGs} (h1:PG X e t) (h2:PGs X es u)
  (hs:(assignEach (e::es) X.env).map (·.2)=assign e X.env::(assignEach es X.env).map (·.2):=by rfl):PGs X (e::es) (FT t u):=by
 intro pins s σ H vs us Q I r h;obtain ⟨v,vr,e1,h⟩:=h;subst e1;cases r with
 | cons r rr =>
  rw [hs];refine assignInOrder_cons (thn (h1 pins s σ H _ _ _ I r h) λ _ s1 ⟨σ1,H1,I1,q1⟩=>?_);exact h2 pins s1 σ1 H1 _ _ Q I1 rr q1
noncomputable def IX (K:K6) (n:Nat) (t:TGs):TG:=λ v σ H Q=>∃ a xs,v=.ref a/\SqT K H a xs/\xs.length=n/\t xs σ H Q
theorem sR {es:List Expr} {k:Nat} {t:TGs} {n:Nat} (hc:X.calm=true) (h:PGs X es t)
  (hn:(assignEach es X.env).length=n:=by rfl) (hst:(assignEach es X.env).findIdx? (·.1)=none:=by rfl):PG X (.Tuple es k pos) (IX X.K n t):=by
 intro pins s σ H v u Q I r hw;obtain ⟨a,xs,e1,hq,hl,hw⟩:=hw;subst e1;cases r;obtain ⟨its,rv,ht,hz⟩:=I.tuple hq;refine assign_Tuple_tuple (I.ok.hd hc) ht (by simp [hn,<- hl,rv.length]) hst λ h' hx=>?_;have I1:Inv X pins σ H { s with heap:=h' }:=I.kept (t':=s.toks) λ b o e=>hx b o (LP (Ly e)) e;exact h pins _ σ H xs _ Q I1 (by simpa using rv) hw
noncomputable def Ed (te:TE) (g:TG):TS:=λ D σ H=>te σ H λ x H1=>g x σ H1 D.nx
theorem vM {i:Nat} {x:Str} {e:Expr} {te:TE} {pos':Pos} (hN:X.N.Nodup) (hi:X.N[i]?=some x) (hx:Loc X.env.scope x) (he:PE X e te) (hs:swapsWith e (some (.Name x pos')) pos.line X.env=pure false:=by rfl) (hf:X.fn x=true\/X.env.scope.names.lookup x=some .local:=by first | exact .inl rfl | exact .inr rfl | assumption) :
  PS X (.Assign [.Name x pos'] e pos) (Ed te (u6 i)):=by
 intro pins s σ H D I h;refine wpAny_Assign_Name (thn (he pins s σ H _ I h) λ v s1 ⟨y,H1,I1,r1,q1⟩=>?_) hs;exact mF I1 hN hi hx r1 (λ s2 I2=>⟨_,H1,I2,q1⟩) hf
noncomputable def Kk (i j:Nat) (ta:TA):TS:=λ D σ H=>ta σ H λ vs H1=>∃ v w,vs=[v,w]/\D.nx ((σ.set i (some v)).set j (some w)) H1
theorem GB {i j:Nat} {x y:Str} {a b:Expr} {ta:TA} {px py pt:Pos} {kt k2 pt2} (hc:X.calm=true) (hN:X.N.Nodup) (hi:X.N[i]?=some x) (hj:X.N[j]?=some y) (hij:i≠j)
  (hx:X.env.scope.names.lookup x=some .local) (hy:X.env.scope.names.lookup y=some .local) (ha:PA X [a,b] ta)
  (hw:swappedStores [.Tuple [.Name x px,.Name y py] kt pt] (.Tuple [a,b] k2 pt2) X.env=pure (some [x,y]))
  (hs:swapsWithSole [.Tuple [.Name x px,.Name y py] kt pt] (.Tuple [a,b] k2 pt2) pos.line X.env=pure false:=by rfl) :
  PS X (.Assign [.Tuple [.Name x px,.Name y py] kt pt] (.Tuple [a,b] k2 pt2) pos) (Kk i j ta):=by
 intro pins s σ H D I h;rw [exec_Assign_arm];refine Lo (wpAny_standAt ?_);rw [hs];refine Lo (LH ?_);rw [if_neg (by decide)];refine Lo (Tuple_ (thn (ha _ pins s σ H _ I h) λ us s1 ⟨vs,H1,I1,r1,q1⟩=>?_));obtain ⟨v,w,e1,q1⟩:=q1;subst e1;obtain ⟨u1,u2,rfl,rv,rw'⟩:∃ u1 u2,us=[u1,u2]/\RelV v u1/\RelV w u2:=by
  cases r1 with
  | cons p q =>
   cases q with
   | cons p' q' =>
    cases q';exact ⟨_,_,rfl,p,p'⟩
 refine wpAny_newObj_type ?_ (by show 2<=Li; decide);have I2:Inv X pins σ H1 { s1 with heap:=s1.heap.push { cls:=.type "tuple", data:=.seq [u1,u2].toArray } }:=I1.kept (t':=s1.toks) λ b o e=>Lg _ e;rw [hw];refine Lo (LH ?_);show L1 (L6 X.prog X.w) X.A (do rule "assign.swapped-stores"; let items <- unpackItems (.ref s1.heap.objs.size) 2 none; assignInOrder [λ v=>bindName X.env y v,λ v=>bindName X.env x v] items.reverse; pure Flow.next) _ _ _;refine Lo (wpAny_rule (Lo (unpackItems_tuple (items:=#[u1,u2]) (I.ok.hd hc) (IsTup.new s1.heap _) λ h' hx'=>?_)));have I3:=I2.kept (h':=h') (t':=s1.toks) λ b o e=>hx' b o (LP (Ly e)) e;show L1 _ _ (assignInOrder [λ v=>bindName X.env y v,λ v=>bindName X.env x v] [u2,u1] >>= λ _=>pure Flow.next) _ _ _;refine Lo (assignInOrder_cons (wpAny_bindName (mF I3 hN hj (.inl hy) rw' (λ s2 I4=>?_) (.inr hy))));refine assignInOrder_cons (wpAny_bindName (mF I4 hN hi (.inl hx) rv (λ s3 I5=>assignInOrder_nil (LH ?_)) (.inr hx)));rw [List.set_comm _ _ (Ne.symm hij)] at I5;exact ⟨_,H1,I5,q1⟩
noncomputable def Kr (i:Nat) (te:TE) (ti:TIp):TS:=λ D σ H=>∃ x,σ[i]?=some (some x)/\te σ H λ y H1=>ti x y H1 λ z H2=>D.nx (σ.set i (some z)) H2
theorem GD {i:Nat} {x:Str} {e:Expr} {te:TE} {op:Operator} {ti:TIp} {pos':Pos} (hN:X.N.Nodup) (hi:X.N[i]?=some x) (hx:Loc X.env.scope x) (he:PE X e te) (ho:PIp X op ti) (hf:X.fn x=true\/X.env.scope.names.lookup x=some .local:=by first | exact .inl rfl | exact .inr rfl | assumption) :
  PS X (.AugAssign (.Name x pos') op e pos) (Kr i te ti):=by
 intro pins s σ H D I h;obtain ⟨v,e1,h⟩:=h;obtain ⟨m,hn,hl⟩:=I.loc;have vis:Vis X.env.scope x:=by rcases hx with k | k; exact .inl k; exact .inr (.inl k)
 obtain ⟨u,r,l⟩:=hl i x v hi e1 vis;refine wpAny_AugAssign_Name ?_;have go:L1 (L6 X.prog X.w) X.A (eval e X.env) (λ w s₂=>L1 (L6 X.prog X.w) X.A (inplaceOp op u w) (λ r s₃=>L1 (L6 X.prog X.w) X.A (storeName X.env x r) (λ _=>SP X pins D .next) X.xe s₃) X.xe s₂) X.xe s:=by
  refine thn (he pins s σ H _ I h) λ w s1 ⟨y,H1,I1,r1,q1⟩=>?_;refine thn (ho pins s1 σ H1 v y u w _ I1 r r1 q1) λ z s2 ⟨zv,H2,I2,r2,q2⟩=>?_;exact mF I2 hN hi hx r2 (λ s3 I3=>⟨_,H2,I3,q2⟩) hf
 rcases l with ⟨hk,hm⟩ | ⟨hk,c,hc,hcell⟩
 ·exact wpAny_loadName_local I.ok.kind hk hn hm go
 ·rcases hk with hk | hk
  ·exact wpAny_loadName_cell I.ok.kind hk hc hcell go
  ·rcases hx with k | k
   ·have:X.env.scope.names.lookup x=some .free:=hk
    rw [k] at this; cases this
   ·have:X.env.scope.names.lookup x=some .free:=hk
    rw [k] at this; cases this
noncomputable def ipI (f:Int->Int->Int):TIp:=λ x y H Q=>∃ i j,x=.int i/\y=.int j/\Q (.int (f i j)) H
theorem Hi:PIp X .Add (ipI λ i j=>i+j):=by
 intro pins s σ H x y v u Q I r1 r2 h;obtain ⟨i,j,e1,e2,q⟩:=h;subst e1; subst e2;obtain ⟨t,rfl⟩:=r1;obtain ⟨t',rfl⟩:=r2;exact iadd_int ⟨.int _,H,I.tok _,⟨_,rfl⟩,q⟩
end
section
variable {X:Cx} {pos:Pos}
end
structure It where
 go:Nat->Hp->Prop
 yld:Nat->Hp->V->Hp->Prop
 stop:Nat->Hp->Prop
noncomputable def o4 (X:Cx) (pins:List (Lz×Obj)) (H:Hp) (b:Lz):Prop :=
 H b=none/\b≠X.env.locals/\b∉X.fs/\(b∈X.ex\/X.s₀.heap.objs.size<=b)/\(∀ x c,X.env.cells.lookup x=some c->c≠b)/\∀ p∈X.pn++pins,p.1≠b
theorem Inv.fpOk {X:Cx} {pins:List (Lz×Obj)} {σ:St} {H H':Hp} {s:Lh} {b:Lz} (I:Inv X pins σ H s) (hb:s.heap.objs.size<=b) (hn:H' b=none):o4 X pins H' b:=by
 refine ⟨hn,Nat.ne_of_gt (LF I.lt hb),I.nofs hb,.inr (LS I.sz hb),λ x c e z=>?_,λ p hp z=>?_⟩
 ·obtain ⟨v,q⟩:=I.cell x c e;exact absurd (LF q.lt (by rw [z]; exact hb)) (MU _)
 ·exact absurd (LF (Ly (I.pin p hp).1) (by rw [z]; exact hb)) (MU _)
structure Turn (P:LM) (w:World) (K:K6) (tg:Expr) (J:It) (fp:List Lz) (it:Lz) (tn:Nat->Heap->Prop):Prop where
 mem:it∈fp
 obj:∀ i h,tn i h->∀ b∈fp,∃ o,h.get? b=some o/\∀ v,o.data≠.cell v
 keep:∀ i h h',tn i h->(∀ b∈fp,∀ o,h.get? b=some o->h'.get? b=some o)->tn i h'
 item:∀ (X:Cx),X.prog=P->X.w=w->X.K=K->X.calm=true->∀ (i:Nat) (pins:List (Lz×Obj)) (s:Lh) (σ:St) (H:Hp) (E:Lf->Lh->Prop),Inv X pins σ H s->(∀ b∈fp,o4 X pins H b)->tn i s.heap->J.go i H ->
  L1 (L6 P w) X.A (pyNext (.ref it)) (λ r s1=>∃ u,r=some u /\
   L1 (L6 P w) X.A (letOwnedTupleGo tg (.ref it) u) (λ _ s2=>∃ x H',Inv X pins σ H' s2/\RelV x u/\J.yld i H x H'/\tn (i+1) s2.heap/\∀ b∈fp,H' b=none) E s1) E s
 done:∀ (X:Cx),X.prog=P->X.w=w->X.K=K->X.calm=true->∀ (i:Nat) (pins:List (Lz×Obj)) (s:Lh) (σ:St) (H:Hp) (E:Lf->Lh->Prop),Inv X pins σ H s->(∀ b∈fp,o4 X pins H b)->tn i s.heap->J.stop i H ->
  L1 (L6 P w) X.A (pyNext (.ref it)) (λ r s1=>r=none/\Inv X pins σ H s1) E s
 self:∀ (A:Mb) (i:Nat) (s:Lh) (Q:Lf->Lh->Prop) (E:Lf->Lh->Prop),tn i s.heap->Q (.ref it) s->L1 (L6 P w) A (pyIter (.ref it)) Q E s
noncomputable abbrev TI:=St->Hp->(It->Hp->Prop)->Prop
noncomputable def PIE (X:Cx) (pins:List (Lz×Obj)) (σ:St) (tg:Expr) (R:It->Hp->Prop) (itv:Lf) (s2:Lh):Prop :=
 ∃ (it:Lz) (fp:List Lz) (tn:Nat->Heap->Prop) (J:It) (H':Hp),itv=.ref it/\Inv X pins σ H' s2/\Turn X.prog X.w X.K tg J fp it tn/\tn 0 s2.heap/\(∀ b∈fp,o4 X pins H' b)/\R J H'
noncomputable def PI (X:Cx) (tg iter:Expr) (wi:TI):Prop :=
 ∀ (pins:List (Lz×Obj)) (s:Lh) (σ:St) (H:Hp) (R:It->Hp->Prop),Inv X pins σ H s->wi σ H R ->
  L1 (L6 X.prog X.w) X.A (eval iter X.env) (λ v s1=>L1 (L6 X.prog X.w) X.A (pyIter v) (PIE X pins σ tg R) X.xe s1) X.xe s
theorem AC {M:Model} {A:Mb} {E:Lf->Lh->Prop} {s:Lh} {tg:Expr} {it:Lz} {u:Lf} {o:Obj} {n:String} {vs:Array Lf} {Q:Unit->Lh->Prop} (ho:s.heap.get? it=some o) (hc:o.cls=.type n) (hd:o.data=.fields vs)
  (hn:["enumerate", "zip", "dict_itemiterator", "dict_reverseitemiterator", "odict_iterator", "itertools.zip_longest", "itertools.pairwise"].contains n=false) (hQ:Q () s):L1 M A (letOwnedTupleGo tg (.ref it) u) Q E s:=by
 unfold letOwnedTupleGo;cases tg <;> first
  | exact LH hQ
  | (cases u <;> first
    | exact LH hQ
    | (refine Lo (wpAny_load ho ?_)
       rw [hc,hd];show L1 M A (if (["enumerate", "zip", "dict_itemiterator", "dict_reverseitemiterator", "odict_iterator", "itertools.zip_longest", "itertools.pairwise"].contains n&&vs[0]?==some (rawInt _))=true then _ else _) Q E s;rw [if_neg (by intro h; rw [hn,Bool.false_and] at h; cases h)];exact LH hQ))
noncomputable def Itl (K:K6) (a:Lz):It :=
 ⟨λ i H=>∃ xs x,SqL K H a xs/\xs[i]?=some x,λ i H x H'=>H'=H/\∀ xs,SqL K H a xs->xs[i]?=some x,λ i H=>∃ xs,SqL K H a xs/\xs.length<=i⟩
noncomputable def Itt (K:K6) (a:Lz):It :=
 ⟨λ i H=>∃ xs x,SqT K H a xs/\xs[i]?=some x,λ i H x H'=>H'=H/\∀ xs,SqT K H a xs->xs[i]?=some x,λ i H=>∃ xs,SqT K H a xs/\xs.length<=i⟩
noncomputable def Itr (lo:Int) (n:Nat):It:=⟨λ i _=>i < n,λ i H x H'=>H'=H/\x=.int (lo+i),λ i _=>n<=i⟩
theorem AX {P:LM} {w:World} {K:K6} {tg:Expr} (a it:Lz):Turn P w K tg (Itl K a) [it] it (λ i h=>h.IsListIter it a i) where
 mem:=by simp
 obj:=λ i h st b hb=>by
  have e:b=it:=by simpa using hb
  subst e;obtain ⟨o,e,c,d⟩:=st;exact ⟨o,e,λ v z=>by rw [d] at z; cases z⟩
 keep:=λ i h h' st k=>st.at λ o e=>k it (by simp) o e
 item:=by
  intro X hP hw hK hc i pins s σ H E I hf st hg;subst hP hw hK;obtain ⟨xs,x,hq,hx⟩:=hg;obtain ⟨its,rv,p,hz⟩:=I.list hq;obtain ⟨u,hu,ru⟩:=rv.get hx;obtain ⟨f0,f1,f2,f3,f4,f5⟩:=hf it (by simp);refine wpAny_pyNext_list_item st p.isList (x:=u) (by simpa using hu) λ h' st' sb=>?_;have I1:Inv X pins σ H { s with heap:=h' }:=I.turned (t':=s.toks) (λ b o hb e=>(sb.2 b hb).trans e) f0 f1 f3 f4 f5;obtain ⟨o,e,c,d⟩:=id st';exact ⟨u,rfl,AC (s:={ s with heap:=h' }) e c d (by decide) ⟨x,H,I1,ru,⟨rfl,λ ys hy=>by rw [I.list_inj hy hq]; exact hx⟩,st',λ b hb=>(hf b hb).1⟩⟩
 done:=by
  intro X hP hw hK hc i pins s σ H E I hf st hg;subst hP hw hK;obtain ⟨xs,hq,hx⟩:=hg;obtain ⟨its,rv,p,hz⟩:=I.list hq;obtain ⟨f0,f1,f2,f3,f4,f5⟩:=hf it (by simp);have hl:=rv.length;exact wpAny_pyNext_list_end (I.ok.hd hc) st p.isList (by simp; omega) λ h' eb=>⟨rfl,I.turned (t':=s.toks) (λ b o hb e=>eb b o hb e) f0 f1 f3 f4 f5⟩
 self:=λ _ _ _ _ _ st h=>wpAny_pyIter_listiter st h
theorem yE {P:LM} {w:World} {K:K6} {tg:Expr} (a it:Lz):Turn P w K tg (Itt K a) [it] it (λ i h=>h.IsTupleIter it a i) where
 mem:=by simp
 obj:=λ i h st b hb=>by
  have e:b=it:=by simpa using hb
  subst e;obtain ⟨o,e,c,d⟩:=st;exact ⟨o,e,λ v z=>by rw [d] at z; cases z⟩
 keep:=λ i h h' st k=>st.at λ o e=>k it (by simp) o e
 item:=by
  intro X hP hw hK hc i pins s σ H E I hf st hg;subst hP hw hK;obtain ⟨xs,x,hq,hx⟩:=hg;obtain ⟨its,rv,p,hz⟩:=I.tuple hq;obtain ⟨u,hu,ru⟩:=rv.get hx;obtain ⟨f0,f1,f2,f3,f4,f5⟩:=hf it (by simp);refine wpAny_pyNext_tuple_item st (show s.heap.IsTuple a its.toArray from p) (x:=u) (by simpa using hu) λ h' st' sb=>?_;have I1:Inv X pins σ H { s with heap:=h' }:=I.turned (t':=s.toks) (λ b o hb e=>(sb.2 b hb).trans e) f0 f1 f3 f4 f5;obtain ⟨o,e,c,d⟩:=id st';exact ⟨u,rfl,AC (s:={ s with heap:=h' }) e c d (by decide) ⟨x,H,I1,ru,⟨rfl,λ ys hy=>by rw [I.tuple_inj hy hq]; exact hx⟩,st',λ b hb=>(hf b hb).1⟩⟩
 done:=by
  intro X hP hw hK hc i pins s σ H E I hf st hg;subst hP hw hK;obtain ⟨xs,hq,hx⟩:=hg;obtain ⟨its,rv,p,hz⟩:=I.tuple hq;obtain ⟨f0,f1,f2,f3,f4,f5⟩:=hf it (by simp);have hl:=rv.length;exact wpAny_pyNext_tuple_end (I.ok.hd hc) st (show s.heap.IsTuple a its.toArray from p) (by simp; omega) λ h' eb=>⟨rfl,I.turned (t':=s.toks) (λ b o hb e=>eb b o hb e) f0 f1 f3 f4 f5⟩
 self:=λ _ _ _ _ _ st h=>wpAny_pyIter_tupleiter st h
theorem yF {P:LM} {w:World} {K:K6} {tg:Expr} (it:Lz) (lo:Int) (n:Nat):Turn P w K tg (Itr lo n) [it] it (λ i h=>IsRangeIter h it (lo+(i:Nat)*1) ((n:Int) - (i:Nat)) 1) where
 mem:=by simp
 obj:=λ i h st b hb=>by
  have e:b=it:=by simpa using hb
  subst e;exact ⟨_,st,λ v z=>by
   have z':Data.fields _=Data.cell v:=z;cases z'⟩
 keep:=λ i h h' st k=>k it (by simp) _ st
 item:=by
  intro X hP hw hK hc i pins s σ H E I hf st hg;subst hP hw hK;obtain ⟨f0,f1,f2,f3,f4,f5⟩:=hf it (by simp);have W:=Walks.range (prog:=X.prog) (w:=X.w) (I.ok.hd hc) it lo 1 n;refine W.item i s _ _ hg st λ v h' tk hv st' kk=>?_;obtain ⟨t,rfl⟩:=hv;have I1:Inv X pins σ H { s with heap:=h',toks:=tk }:=I.turned (λ b o hb e=>kk b o (by simpa using hb) e) f0 f1 f3 f4 f5;refine ⟨_,rfl,AC (s:={ s with heap:=h',toks:=tk }) (n := "range_iterator") st' rfl rfl (by decide) ⟨.int (lo+i),H,I1,⟨t,?_⟩,⟨rfl,rfl⟩,st',λ b hb=>(hf b hb).1⟩⟩;rw [Int.mul_one]
 done:=by
  intro X hP hw hK hc i pins s σ H E I hf st hg;subst hP hw hK;obtain ⟨f0,f1,f2,f3,f4,f5⟩:=hf it (by simp);exact wpAny_pyNext_range_end (I.ok.hd hc) st (by have:n<=i:=hg; omega) λ h' eb=>⟨rfl,I.turned (t':=s.toks) (λ b o hb e=>eb b o hb e) f0 f1 f3 f4 f5⟩
 self:=λ _ _ _ _ _ st h=>wpAny_pyIter_rangeiter st h
section
variable {X:Cx} {tg:Expr}
noncomputable def IU (K:K6) (tl:TE):TI:=λ σ H R=>tl σ H λ x H1=>∃ a,x=.ref a/\(∃ xs,SqL K H1 a xs)/\R (Itl K a) H1
noncomputable def KB (K:K6) (tl:TE):TI:=λ σ H R=>tl σ H λ x H1=>∃ a,x=.ref a/\(∃ xs,SqT K H1 a xs)/\R (Itt K a) H1
theorem EB {l:Expr} {tl:TE} (hl:PE X l tl):PI X tg l (IU X.K tl):=by
 intro pins s σ H R I h;refine thn (hl pins s σ H _ I h) λ v s1 ⟨x,H1,I1,r1,q1⟩=>?_;obtain ⟨a,e,⟨xs,hq⟩,q⟩:=q1;subst e;cases r1;obtain ⟨its,rv,p,hz⟩:=I1.list hq;refine wpAny_pyIter_list p.isList ?_;refine ⟨s1.heap.objs.size,[s1.heap.objs.size],_,_,H1,rfl,I1.kept (t':=s1.toks) λ b o e=>Lg _ e,AX a _,⟨_,LL _ rfl,rfl,rfl⟩,λ b hb=>?_,q⟩;have e:b=s1.heap.objs.size:=by simpa using hb
 subst e;exact I1.fpOk (Lp _) (I1.hok.fresh (Lp _))
theorem Cm {l:Expr} {tl:TE} (hl:PE X l tl):PI X tg l (KB X.K tl):=by
 intro pins s σ H R I h;refine thn (hl pins s σ H _ I h) λ v s1 ⟨x,H1,I1,r1,q1⟩=>?_;obtain ⟨a,e,⟨xs,hq⟩,q⟩:=q1;subst e;cases r1;obtain ⟨its,rv,p,hz⟩:=I1.tuple hq;refine wpAny_pyIter_tuple (show s1.heap.IsTuple a its.toArray from p) ?_;refine ⟨s1.heap.objs.size,[s1.heap.objs.size],_,_,H1,rfl,I1.kept (t':=s1.toks) λ b o e=>Lg _ e,yE a _,⟨_,LL _ rfl,rfl,rfl⟩,λ b hb=>?_,q⟩;have e:b=s1.heap.objs.size:=by simpa using hb
 subst e;exact I1.fpOk (Lp _) (I1.hok.fresh (Lp _))
theorem xb {pins:List (Lz×Obj)} {σ:St} {H:Hp} {s:Lh} {R:It->Hp->Prop} {E:Lf->Lh->Prop} {lo hi:Int} {t u v:Tok} {tk:Nat} (I:Inv X pins σ H s) (h1:-(2 ^ 62)<=lo) (h2:lo < 2 ^ 62) (h3:-(2 ^ 62)<=hi) (h4:hi < 2 ^ 62)
  (q:R (Itr lo (hi - lo).toNat) H):L1 (L6 X.prog X.w) X.A (pyIter (.ref s.heap.objs.size)) (PIE X pins σ tg R) E { s with heap:=s.heap.push { cls:=.type "range", data:=.fields #[.int lo t,.int hi u,.int 1 v] },toks:=tk }:=by
 refine wpAny_pyIter_range (IsRange.new ..) (small_one h1 h2 h3 h4) ?_;have I1:Inv X pins σ H { s with heap:=s.heap.push { cls:=.type "range", data:=.fields #[.int lo t,.int hi u,.int 1 v] },toks:=tk }:=I.kept λ b o e=>Lg _ e;refine ⟨(s.heap.push { cls:=.type "range", data:=.fields #[.int lo t,.int hi u,.int 1 v] }).objs.size,[(s.heap.push { cls:=.type "range", data:=.fields #[.int lo t,.int hi u,.int 1 v] }).objs.size],_,_,H,rfl,I1.kept (t':=tk) λ b o e=>Lg _ e,yF _ lo (hi - lo).toNat,?_,λ b hb=>?_,q⟩
 ·have e1:lo+((0:Nat):Int)*1=lo:=by simp
  have e2:(((hi - lo).toNat:Nat):Int) - ((0:Nat):Int)=Builtin.Range.rangeSize lo hi 1:=by rw [rangeSize_one]; split <;> omega
  show IsRangeIter _ _ (lo+((0:Nat):Int)*1) ((((hi - lo).toNat:Nat):Int) - ((0:Nat):Int)) 1;rw [e1,e2];exact LL _ rfl
 ·have e:b=(s.heap.push { cls:=.type "range", data:=.fields #[.int lo t,.int hi u,.int 1 v] }).objs.size:=by simpa using hb
  subst e;exact I1.fpOk (Lp _) (I1.hok.fresh (Lp _))
noncomputable def IT (ta:TA):TI:=λ σ H R=>ta σ H λ vs H1=>∃ j:Int,vs=[.int j]/\-(2 ^ 62)<=j/\j < 2 ^ 62/\R (Itr 0 j.toNat) H1
noncomputable def IS (ta:TA):TI:=λ σ H R=>ta σ H λ vs H1=>∃ i j:Int,vs=[.int i,.int j]/\(-(2 ^ 62)<=i/\i < 2 ^ 62/\-(2 ^ 62)<=j/\j < 2 ^ 62)/\R (Itr i (j - i).toNat) H1
theorem A8 {a:Expr} {ta:TA} {p pos:Pos} (hg:Gl X "range") (hm:X.mg "range" = none) (ha:PA X [a] ta) (hs:Lj [a] X.env=[(false,eval a X.env)]:=by rfl):PI X tg (.Call (.Name "range" p) [a] [] pos) (IT ta):=by
 intro pins s σ H R I h;refine Call_ (nh I hg hm boot_range (PyProof.Rows.callWith_type1 (thn (ha pos pins s σ H _ I h) λ us s1 ⟨vs,H1,I1,r1,q1⟩=>?_) hs rfl));obtain ⟨j,e,q1,q2,q⟩:=q1;subst e;cases r1 with
 | cons r rr =>
  cases rr;obtain ⟨t,rfl⟩:=r;exact call_range_1 (xb I1 (by omega) (by omega) q1 q2 (by simpa using q))
theorem A7 {a b:Expr} {ta:TA} {p pos:Pos} (hg:Gl X "range") (hm:X.mg "range" = none) (ha:PA X [a,b] ta) (hs:Lj [a,b] X.env=[(false,eval a X.env),(false,eval b X.env)]:=by rfl) (hs2:Lj [b] X.env=[(false,eval b X.env)]:=by rfl) :
  PI X tg (.Call (.Name "range" p) [a,b] [] pos) (IS ta):=by
 intro pins s σ H R I h;refine Call_ (nh I hg hm boot_range (PyProof.Rows.callWith_type1 (thn (ha pos pins s σ H _ I h) λ us s1 ⟨vs,H1,I1,r1,q1⟩=>?_) (by rw [hs,hs2]) (by rw [hs2]; rfl)));obtain ⟨i,j,e,⟨q1,q2,q3,q4⟩,q⟩:=q1;subst e;cases r1 with
 | cons r rr =>
  cases rr with
  | cons r' rr =>
   cases rr;obtain ⟨t,rfl⟩:=r;obtain ⟨t',rfl⟩:=r';exact call_range_2 (xb I1 q1 q2 q3 q4 q)
noncomputable def Ko (wi:TI) (g:TG) (tb:TS):TS:=λ D σ H=>wi σ H λ J H1=>∃ W:Nat->Nat->St->Hp->Prop,(∃ m,W 0 m σ H1)/\∀ i m σ H,W i m σ H ->
 (J.stop i H/\D.nx σ H)\/(J.go i H/\∃ N:St->Hp->Prop,(∀ σ' H',N σ' H'->∃ m',m' < m/\W (i+1) m' σ' H')/\∀ x H',J.yld i H x H'->g x σ H' λ σ2 H2=>tb { D with nx:=N,ct:=N,bk:=D.nx } σ2 H2)
noncomputable def sQ (fp:List Lz) (h:Heap):List (Lz×Obj):=fp.filterMap λ b=>(h.get? b).map λ o=>(b,o)
theorem lP {fp:List Lz} {h:Heap} {b:Lz} {o:Obj} (hb:b∈fp) (e:h.get? b=some o):(b,o)∈sQ fp h:=Nc.mpr ⟨b,hb,by rw [e]; rfl⟩
theorem Bh {fp:List Lz} {h:Heap} {p:Lz×Obj} (hp:p∈sQ fp h):p.1∈fp/\h.get? p.1=some p.2:=by
 obtain ⟨b,hb,e⟩:=Nc.mp hp;cases q:h.get? b with
 | none=>rw [q] at e; cases e
 | some o =>
  rw [q] at e;have e':(b,o)=p:=Option.some.inj e;subst e';exact ⟨hb,q⟩
theorem Inv.pinned {pins:List (Lz×Obj)} {σ:St} {H:Hp} {s:Lh} {fp:List Lz} (I:Inv X pins σ H s) (hf:∀ b∈fp,o4 X pins H b) (ho:∀ b∈fp,∃ o,s.heap.get? b=some o/\∀ v,o.data≠.cell v):Inv X (pins++sQ fp s.heap) σ H s :=
 I.pins_of λ p hp=>(LX.mp hp).elim (λ z=>I.pin p (LR _ z)) λ z=>by
  obtain ⟨hb,e⟩:=Bh z;obtain ⟨f0,f1,f2,_⟩:=hf p.1 hb;obtain ⟨o,e',d⟩:=ho p.1 hb;rw [e] at e'; cases e';exact ⟨e,f0,f1,f2,d⟩
theorem Inv.unpinned {pins pl:List (Lz×Obj)} {σ:St} {H:Hp} {s:Lh} (I:Inv X (pins++pl) σ H s):Inv X pins σ H s:=I.pins_of λ p hp=>I.pin p (LR _ (L0 _ hp))
theorem Cg {iter:Expr} {body:List Stmt} {wi:TI} {g:TG} {tb:TS} {pos:Pos} (hp:PassesOwn (L6 X.prog X.w) X.A X.env X.xe) (hc:X.calm=true) (hi:PI X tg iter wi) (hg:PG X tg g) (hb:PSs X body tb)
  (hs:∀ x,foldedSetIterable iter X.env x=pure x:=by intro _; rfl):PS X (.For tg iter body [] pos) (Ko wi g tb):=by
 intro pins s σ H D I h;refine wpAny_For (thn (hi pins s σ H _ I h) λ v s1 h1=>thn h1 λ itv s2 h2=>?_) hs;obtain ⟨it,fp,tn,J,H2,e,I2,T,st2,f2,W,⟨m0,w0⟩,turn⟩:=h2;subst e;have stat:∀ {H':Hp},(∀ b∈fp,H' b=none)->∀ b∈fp,o4 X pins H' b:=λ hn b hb=>⟨hn b hb,(f2 b hb).2⟩;refine codeAny_forLoop_any (λ n s'=>∃ i σ' H',Inv X pins σ' H' s'/\tn i s'.heap/\(∀ b∈fp,H' b=none)/\W i n σ' H') ?_ m0 ⟨0,σ,H2,I2,st2,λ b hb=>(f2 b hb).1,w0⟩
 rintro n s3 ⟨i,σ3,H3,I3,st3,fr3,w3⟩
 rcases turn i n σ3 H3 w3 with ⟨stop,qn⟩ | ⟨go,N,hN,step⟩
 ·refine wpAny_passesOwn hp (thn (T.done X rfl rfl rfl hc i pins s3 σ3 H3 X.xe I3 (stat fr3) st3 stop) λ r s4 ⟨hr,I4⟩=>?_);subst hr;exact wpAny_execs_nil ⟨σ3,H3,I4,qn⟩
 ·refine wpAny_passesOwn hp (thn (T.item X rfl rfl rfl hc i pins s3 σ3 H3 X.xe I3 (stat fr3) st3 go) λ r s4 ⟨u,hr,h4⟩=>?_);subst hr;refine wpAny_passesOwn hp (thn h4 λ _ s5 ⟨x,H5,I5,r5,y5,st5,fr5⟩=>?_);have I5':=I5.pinned (stat fr5) (T.obj _ _ st5);refine wpAny_passesOwn hp (thn (hg _ s5 σ3 H5 x u _ I5' r5 (step x H5 y5)) λ _ s6 ⟨σ6,H6,I6,q6⟩=>?_);refine wpAny_passesOwn hp (thn (hb _ s6 σ6 H6 _ I6 q6) λ f s7 q7=>?_);have again:∀ {σ7:St} {H7:Hp},Inv X (pins++sQ fp s5.heap) σ7 H7 s7->N σ7 H7->∃ m,m < n/\∃ i σ' H',Inv X pins σ' H' s7/\tn i s7.heap/\(∀ b∈fp,H' b=none)/\W i m σ' H':=λ {σ7 H7} I7 n7=>by
   obtain ⟨m',hm,w7⟩:=hN σ7 H7 n7;refine ⟨m',hm,i+1,σ7,H7,I7.unpinned,T.keep _ _ _ st5 λ b hb o e=>(I7.pin (b,o) (LR _ (LR _ (lP hb e)))).1,λ b hb=>?_,w7⟩;obtain ⟨o,e,d⟩:=T.obj _ _ st5 b hb;exact (I7.pin (b,o) (LR _ (LR _ (lP hb e)))).2.1
  cases f with
  | next=>obtain ⟨σ7,H7,I7,n7⟩:=q7; exact again I7 n7
  | cont=>obtain ⟨σ7,H7,I7,n7⟩:=q7; exact again I7 n7
  | brk=>obtain ⟨σ7,H7,I7,q7⟩:=q7; exact ⟨σ7,H7,I7.unpinned,q7⟩
  | ret v=>obtain ⟨x7,σ7,H7,I7,r7,q7⟩:=q7; exact ⟨x7,σ7,H7,I7.unpinned,r7,q7⟩
end
noncomputable abbrev R2:=V->V->Hp->VK->Prop
noncomputable def OpR (X:Cx) (f:Lf->Lf->Sem Lf) (r:R2):Prop :=
 ∀ (pins:List (Lz×Obj)) (s:Lh) (σ:St) (H:Hp) (x y:V) (v u:Lf) (Q:VK),Inv X pins σ H s->RelV x v->RelV y u->r x y H Q ->
  L1 (L6 X.prog X.w) X.A (f v u) (EP X pins σ Q) X.xe s
noncomputable def UnR (X:Cx) (f:Lf->Sem Lf) (r:V->Hp->VK->Prop):Prop :=
 ∀ (pins:List (Lz×Obj)) (s:Lh) (σ:St) (H:Hp) (x:V) (v:Lf) (Q:VK),Inv X pins σ H s->RelV x v->r x H Q ->
  L1 (L6 X.prog X.w) X.A (f v) (EP X pins σ Q) X.xe s
noncomputable def CallR (X:Cx) (f:Lf) (r:List V->Hp->VK->Prop):Prop :=
 ∀ (pins:List (Lz×Obj)) (s:Lh) (σ:St) (H:Hp) (xs:List V) (us:List Lf) (Q:VK),Inv X pins σ H s->Vals xs us->r xs H Q ->
  L1 (L6 X.prog X.w) X.A (call f us) (EP X pins σ Q) X.xe s
noncomputable def K3 (X:Cx) (r:V->Hp->(Bool->Hp->Prop)->Prop):Prop :=
 ∀ (pins:List (Lz×Obj)) (s:Lh) (σ:St) (H:Hp) (x:V) (v:Lf) (Q:Bool->Hp->Prop),Inv X pins σ H s->RelV x v->r x H Q ->
  L1 (L6 X.prog X.w) X.A (truthy v) (TP X pins σ Q) X.xe s
noncomputable def tOp (r:R2) (ta tb:TE):TE:=λ σ H Q=>ta σ H λ x H1=>tb σ H1 λ y H2=>r x y H2 Q
noncomputable def tUn (r:V->Hp->VK->Prop) (ta:TE):TE:=λ σ H Q=>ta σ H λ x H1=>r x H1 Q
noncomputable def rI (C:Int->Int->Prop) (g:Int->Int->V):R2:=λ x y H Q=>∃ i j,x=.int i/\y=.int j/\C i j/\Q (g i j) H
noncomputable def rI0 (g:Int->Int->V):R2:=λ x y H Q=>∃ i j,x=.int i/\y=.int j/\Q (g i j) H
noncomputable def rU (g:Int->V):V->Hp->VK->Prop:=λ x H Q=>∃ i,x=.int i/\Q (g i) H
section
variable {X:Cx} {a b c:Expr} {ta tb tc:TE} {pos:Pos}
theorem Hx (ha:PE X a ta) (hb:PE X b tb) {pins:List (Lz×Obj)} {s:Lh} {σ:St} {H:Hp} {R:V->V->Hp->Prop} (I:Inv X pins σ H s)
  (h:ta σ H λ x H1=>tb σ H1 λ y H2=>R x y H2) {Q:Lf->Lh->Prop} {f:Lf->Lf->Sem Lf}
  (hf:∀ v u s2 x y H2,Inv X pins σ H2 s2->RelV x v->RelV y u->R x y H2->L1 (L6 X.prog X.w) X.A (f v u) Q X.xe s2) :
  L1 (L6 X.prog X.w) X.A (eval a X.env) (λ v s₁=>L1 (L6 X.prog X.w) X.A (eval b X.env) (λ u s₂=>L1 (L6 X.prog X.w) X.A (f v u) Q X.xe s₂) X.xe s₁) X.xe s:=by
 refine thn (ha pins s σ H _ I h) λ v s1 ⟨x,H1,I1,r1,q1⟩=>?_;refine thn (hb pins s1 σ H1 _ I1 q1) λ u s2 ⟨y,H2,I2,r2,q2⟩=>?_;exact hf v u s2 x y H2 I2 r1 r2 q2
theorem ID {op:Operator} {r:R2} (ho:OpR X (binaryOp op) r) (ha:PE X a ta) (hb:PE X b tb):PE X (.BinOp a op b pos) (tOp r ta tb):=by
 intro pins s σ H Q I h;exact wpAny_BinOp (Hx ha hb I h λ v u s2 x y H2 I2 rx ry q=>ho pins s2 σ H2 x y v u Q I2 rx ry q)
theorem IC {op:UnaryOp} {r:V->Hp->VK->Prop} (ho:UnR X (unaryOp op) r) (ha:PE X a ta):PE X (.UnaryOp op a pos) (tUn r ta):=by
 intro pins s σ H Q I h;exact UnaryOp_ (thn (ha pins s σ H _ I h) λ v s1 ⟨x,H1,I1,r1,q1⟩=>ho pins s1 σ H1 x v Q I1 r1 q1)
theorem opI {f:Lf->Lf->Sem Lf} {C:Int->Int->Prop} {g:Int->Int->Int}
  (rule:∀ (i j:Int) (t u:Tok) (s:Lh) (Q:Lf->Lh->Prop) (E:Lf->Lh->Prop),C i j->Q (.int (g i j) s.toks) { s with toks:=s.toks+1 }->L1 (L6 X.prog X.w) X.A (f (.int i t) (.int j u)) Q E s) :
  OpR X f (rI C λ i j=>.int (g i j)):=by
 intro pins s σ H x y v u Q I rx ry h;obtain ⟨i,j,rfl,rfl,hc,q⟩:=h;obtain ⟨t,rfl⟩:=rx;obtain ⟨t',rfl⟩:=ry;exact rule i j t t' s _ _ hc ⟨.int (g i j),H,I.tok _,⟨_,rfl⟩,q⟩
theorem IJ {f:Lf->Lf->Sem Lf} {g:Int->Int->Int}
  (rule:∀ (i j:Int) (t u:Tok) (s:Lh) (Q:Lf->Lh->Prop) (E:Lf->Lh->Prop),Q (.int (g i j) s.toks) { s with toks:=s.toks+1 }->L1 (L6 X.prog X.w) X.A (f (.int i t) (.int j u)) Q E s) :
  OpR X f (rI0 λ i j=>.int (g i j)):=by
 intro pins s σ H x y v u Q I rx ry h;obtain ⟨i,j,rfl,rfl,q⟩:=h;obtain ⟨t,rfl⟩:=rx;obtain ⟨t',rfl⟩:=ry;exact rule i j t t' s _ _ ⟨.int (g i j),H,I.tok _,⟨_,rfl⟩,q⟩
theorem GW {f:Lf->Lf->Sem Lf} {g:Int->Int->Bool}
  (rule:∀ (i j:Int) (t u:Tok) (s:Lh) (Q:Lf->Lh->Prop) (E:Lf->Lh->Prop),Q (.bool (g i j)) s->L1 (L6 X.prog X.w) X.A (f (.int i t) (.int j u)) Q E s) :
  OpR X f (rI0 λ i j=>.bl (g i j)):=by
 intro pins s σ H x y v u Q I rx ry h;obtain ⟨i,j,rfl,rfl,q⟩:=h;obtain ⟨t,rfl⟩:=rx;obtain ⟨t',rfl⟩:=ry;exact rule i j t t' s _ _ ⟨.bl (g i j),H,I,rfl,q⟩
noncomputable def CDiv (i j:Int):Prop:=0 < j/\j < 1073741824
noncomputable def CMul (i j:Int):Prop:=(-(2 ^ 64) < i/\i < 2 ^ 64)\/(-(2 ^ 64) < j/\j < 2 ^ 64)
theorem CMul.ok {i j:Int} (h:CMul i j):IntMulOk i j:=by
 rcases h with ⟨h1,h2⟩ | ⟨h1,h2⟩
 ·exact .of_left (intBits_le_64 h1 h2)
 ·exact .of_right (intBits_le_64 h1 h2)
theorem op_add:OpR X (binaryOp .Add) (rI0 λ i j=>.int (i+j)):=IJ λ _ _ _ _ _ _ _ q=>add_int q
theorem GR:OpR X (binaryOp .Sub) (rI0 λ i j=>.int (i - j)):=IJ λ _ _ _ _ _ _ _ q=>sub_int q
theorem GS:OpR X (binaryOp .Mult) (rI CMul λ i j=>.int (i*j)):=opI λ _ _ _ _ _ _ _ hc q=>mul_int q hc.ok
theorem EN:OpR X (binaryOp .FloorDiv) (rI CDiv λ i j=>.int (i / j)):=opI λ i j _ _ _ _ _ hc q=>by
 have h1:(0:Int) < j:=hc.1;have h2:j < 1073741824:=hc.2;exact floordiv_int (by omega) (by rw [Int.fdiv_eq_ediv_of_nonneg i (by omega)]; exact q) (.inl (PyProof.noPylong_small (by omega)))
theorem GT:OpR X (binaryOp .Mod) (rI (λ _ j=>0 < j) λ i j=>.int (i % j)):=opI λ i j _ _ _ _ _ hc q=>by
 have h1:(0:Int) < j:=hc;exact mod_int' (by omega) (by rw [Int.fmod_eq_emod_of_nonneg i (by omega)]; exact q)
theorem unI {f:Lf->Sem Lf} {g:Int->Int}
  (rule:∀ (i:Int) (t:Tok) (s:Lh) (Q:Lf->Lh->Prop) (E:Lf->Lh->Prop),Q (.int (g i) s.toks) { s with toks:=s.toks+1 }->L1 (L6 X.prog X.w) X.A (f (.int i t)) Q E s) :
  UnR X f (rU λ i=>.int (g i)):=by
 intro pins s σ H x v Q I rx h;obtain ⟨i,rfl,q⟩:=h;obtain ⟨t,rfl⟩:=rx;exact rule i t s _ _ ⟨.int (g i),H,I.tok _,⟨_,rfl⟩,q⟩
theorem Gc:UnR X (unaryOp .USub) (rU λ i=>.int (-i)):=unI λ _ _ _ _ _ q=>neg_int q
end
section
variable {X:Cx} {a b c:Expr} {ta tb tc:TE} {pos:Pos}
theorem zh {pins:List (Lz×Obj)} {σ:St} {H:Hp} {s:Lh} {Q:VK} {k k':Bool} (I:Inv X pins σ H s) (q:Q (.bl k) H) (e:k=k'):EP X pins σ Q (.bool k') s:=by
 subst e;exact ⟨.bl k,H,I,rfl,q⟩
theorem Af:OpR X (L8 .Lt) (rI0 λ i j=>.bl (decide (i < j))):=GW λ _ _ _ _ _ _ _ q=>lt_int q
theorem CB:OpR X (L8 .LtE) (rI0 λ i j=>.bl (decide (i<=j))):=GW λ _ _ _ _ _ _ _ q=>le_int q
theorem II:OpR X (L8 .GtE) (rI0 λ i j=>.bl (decide (j<=i))):=GW λ _ _ _ _ _ _ _ q=>ge_int q
theorem Bc:OpR X (L8 .In) (λ x y H Q=>∃ i j,x=.str i/\y=.str j/\Q (.bl (!(Builtin.Str.occurrences j i 0 j.length 1).isEmpty)) H):=by
 intro pins s σ H x y v u Q I rx ry h;obtain ⟨i,j,rfl,rfl,q⟩:=h;obtain ⟨t,rfl⟩:=rx;obtain ⟨t',rfl⟩:=ry;exact in_str (zh I q rfl)
theorem GU:OpR X (L8 .Is) (λ x y H Q=>y=.non/\Q (.bl (decide (x=.non))) H):=by
 intro pins s σ H x y v u Q I rx ry h;obtain ⟨rfl,q⟩:=h;cases ry;refine is_none_gen (zh I q ?_);cases x <;> first
  | (cases rx; rfl)
  | (obtain ⟨t,rfl⟩:=rx; rfl)
theorem EL:OpR X (L8 .IsNot) (λ x y H Q=>y=.non/\Q (.bl (!decide (x=.non))) H):=by
 intro pins s σ H x y v u Q I rx ry h;obtain ⟨rfl,q⟩:=h;cases ry;refine isnot_none_gen (zh I q ?_);cases x <;> first
  | (cases rx; rfl)
  | (obtain ⟨t,rfl⟩:=rx; rfl)
theorem OpR.or {f:Lf->Lf->Sem Lf} {r r':R2} (h:OpR X f r) (h':OpR X f r'):OpR X f (λ x y H Q=>r x y H Q\/r' x y H Q):=by
 intro pins s σ H x y v u Q I rx ry q;rcases q with q | q
 ·exact h pins s σ H x y v u Q I rx ry q
 ·exact h' pins s σ H x y v u Q I rx ry q
theorem nomark (b:Expr) {op:CmpOp} (h:op≠.In:=by decide) (h2:op≠.NotIn:=by decide):Mo op b=false:=by
 have e1:(op==CmpOp.In)=false:=by cases op <;> first | rfl | exact absurd rfl h
 have e2:(op==CmpOp.NotIn)=false:=by cases op <;> first | rfl | exact absurd rfl h2
 cases b <;> simp [Mo,e1,e2]
theorem EF {op:CmpOp} {r:R2} (ho:OpR X (L8 op) r) (ha:PE X a ta) (hb:PE X b tb) (hm:Mo op b=false):PE X (.Compare a [op] [b] pos) (tOp r ta tb):=by
 intro pins s σ H Q I h;exact wpAny_Compare1 (Hx ha hb I h λ v u s2 x y H2 I2 rx ry q=>ho pins s2 σ H2 x y v u Q I2 rx ry q) hm
noncomputable def FE (t:TE):TT:=λ σ H Q=>t σ H λ x H'=>∃ k,x=.bl k/\Q k H'
theorem zV {op:CmpOp} {r:R2} (ho:OpR X (L8 op) r) (ha:PE X a ta) (hb:PE X b tb) (hm:Mo op b=false):PT X (.Compare a [op] [b] pos) (FE (tOp r ta tb)):=by
 intro pins s σ H Q I h;refine wpAny_isTrue_Compare1 (thn (ha pins s σ H _ I h) λ v s1 ⟨x,H1,I1,r1,q1⟩=>thn (hb pins s1 σ H1 _ I1 q1) λ u s2 ⟨y,H2,I2,r2,q2⟩ =>
  thn (ho pins s2 σ H2 x y v u _ I2 r1 r2 q2) λ c s3 ⟨z,H3,I3,r3,k,e,q3⟩=>?_) hm
 subst e;cases r3;exact wpAny_truthy_bool ⟨H3,I3,q3⟩
noncomputable def BV (r r':R2) (ta tb tc:TE):TE:=λ σ H Q=>ta σ H λ x H1=>tb σ H1 λ y H2=>r x y H2 λ z H3=>∃ k,z=.bl k /\
 (if k=true then tc σ H3 λ w' H4=>r' y w' H4 Q else Q (.bl false) H3)
theorem Ct {op op':CmpOp} {r r':R2} (ho:OpR X (L8 op) r) (ho':OpR X (L8 op') r') (ha:PE X a ta) (hb:PE X b tb) (hc:PE X c tc)
  (hm:lastMarks [op,op'] [b,c]=false:=by with_unfolding_all rfl):PE X (.Compare a [op,op'] [b,c] pos) (BV r r' ta tb tc):=by
 intro pins s σ H Q I h;refine Compare_chain (thn (ha pins s σ H _ I h) λ v s1 ⟨x,H1,I1,r1,q1⟩=>chain_link (thn (hb pins s1 σ H1 _ I1 q1) λ u s2 ⟨y,H2,I2,r2,q2⟩ =>
  thn (ho pins s2 σ H2 x y v u _ I2 r1 r2 q2) λ d s3 ⟨z,H3,I3,r3,k,e,q3⟩=>?_)) hm
 subst e;cases r3;refine wpAny_truthy_bool ?_;cases k with
 | false=>exact ite_ff ⟨.bl false,H3,I3,rfl,q3⟩
 | true=>exact ite_tt (chain_last (thn (hc pins s3 σ H3 _ I3 q3) λ w' s4 ⟨z',H4,I4,r4,q4⟩=>ho' pins s4 σ H4 y z' u w' Q I4 r2 r4 q4))
theorem Cf {op op':CmpOp} {r r':R2} (ho:OpR X (L8 op) r) (ho':OpR X (L8 op') r') (ha:PE X a ta) (hb:PE X b tb) (hc:PE X c tc)
  (hm:lastMarks [op,op'] [b,c]=false:=by with_unfolding_all rfl):PT X (.Compare a [op,op'] [b,c] pos) (FE (BV r r' ta tb tc)):=by
 intro pins s σ H Q I h;refine isTrue_chain (thn (ha pins s σ H _ I h) λ v s1 ⟨x,H1,I1,r1,q1⟩=>test_link (thn (hb pins s1 σ H1 _ I1 q1) λ u s2 ⟨y,H2,I2,r2,q2⟩ =>
  thn (ho pins s2 σ H2 x y v u _ I2 r1 r2 q2) λ d s3 ⟨z,H3,I3,r3,k,e,q3⟩=>?_)) hm
 subst e;cases r3;refine wpAny_truthy_bool ?_;cases k with
 | false =>
  obtain ⟨k',e',q'⟩:=q3;cases e';exact ite_ff ⟨H3,I3,q'⟩
 | true =>
  refine ite_tt (test_last (thn (hc pins s3 σ H3 _ I3 q3) λ w' s4 ⟨z',H4,I4,r4,q4⟩=>thn (ho' pins s4 σ H4 y z' u w' _ I4 r2 r4 q4) λ d' s5 ⟨z2,H5,I5,r5,k2,e2,q5⟩=>?_));subst e2;cases r5;exact wpAny_truthy_bool ⟨H5,I5,q5⟩
noncomputable def J5 (K:K6) (x:V) (H:Hp) (k:Bool):Prop :=
 match x with
 | .non=>k=false
 | .bl b=>k=b
 | .int i=>k=(i != 0)
 | .str y=>y.length<=Li/\k=((y.length:Int) != 0)
 | .byt y=>y.size<=Li/\k=((y.size:Int) != 0)
 | .ref p=>(∃ xs,SqL K H p xs/\k=!xs.isEmpty)\/(∃ xs,SqT K H p xs/\k=!xs.isEmpty)\/∃ kvs,H p=some (.dK kvs)/\k=!kvs.isEmpty
 | _=>False
theorem zb {κ:Type} {kvs:List (κ×V)} {vs:List (κ×Lf)} (r:KV kvs vs):(!vs.isEmpty)=!kvs.isEmpty:=by
 cases r <;> rfl
theorem tJ {xs:List V} {its:List Lf} (r:Vals xs its):(!its.toArray.isEmpty)=!xs.isEmpty:=by
 cases r <;> simp
theorem qC:(Li:Nat) < 2 ^ 63:=by rw [sizeLine_eq]; decide
theorem Ge:K3 X (λ x H Q=>∃ k,J5 X.K x H k/\Q k H):=by
 intro pins s σ H x v Q I rx h;obtain ⟨k,e,q⟩:=h;have hl:=qC;have hs:Li=16777216:=sizeLine_eq;cases x with
 | non =>
  cases rx;have e':k=false:=e;subst e';exact truthy_none ⟨H,I,q⟩
 | bl b =>
  cases rx;have e':k=b:=e;subst e';exact wpAny_truthy_bool ⟨H,I,q⟩
 | int i =>
  obtain ⟨t,rfl⟩:=rx;have e':k=(i != 0):=e;subst e';exact PySem.P.truthy_int ⟨H,I,q⟩
 | str y =>
  obtain ⟨t,rfl⟩:=rx;obtain ⟨hy,e'⟩:y.length<=Li/\k=((y.length:Int) != 0):=e;subst e';exact PySem.P.truthy_str (by omega) ⟨H,I.tok _,q⟩
 | byt y =>
  obtain ⟨t,rfl⟩:=rx;obtain ⟨hy,e'⟩:y.size<=Li/\k=((y.size:Int) != 0):=e;subst e';exact PySem.W.truthy_bytes (by omega) ⟨H,I.tok _,q⟩
 | ref p =>
  cases rx;have e':(∃ xs,SqL X.K H p xs/\k=!xs.isEmpty)\/(∃ xs,SqT X.K H p xs/\k=!xs.isEmpty)\/∃ kvs,H p=some (.dK kvs)/\k=!kvs.isEmpty:=e;rcases e' with ⟨xs,hx,e'⟩ | ⟨xs,hx,e'⟩ | ⟨kvs,hx,e'⟩
  ·subst e';obtain ⟨its,r,pl,hz⟩:=I.list hx;have hlen:=r.length;exact wpAny_truthy_list pl.isList (by simp only [Ls]; omega) ⟨H,I.tok _,by rw [tJ r]; exact q⟩
  ·subst e';obtain ⟨its,r,pl,hz⟩:=I.tuple hx;have hlen:=r.length;exact truthy_tuple pl (by simp only [Ls]; omega) ⟨H,I.tok _,by rw [tJ r]; exact q⟩
  ·subst e';obtain ⟨hz,hS,vs,r,m⟩:kvs.length<=Li/\(p==sysModules)=false/\∃ vs,KV kvs vs/\s.heap.DictOf (cx X.prog X.w) p vs:=I.hok p _ hx;have hlen:kvs.length=vs.length:=Paired.length r;exact wpAny_truthy_dict hS m (by omega) ⟨H,I.tok _,by rw [zb r]; exact q⟩
 | _=>exact (show False from e).elim
theorem Cd (ha:PE X a ta) (he:∀ whole,isTrue a X.env whole=(do let v <- whole; standAt a.pos; holding [v] (truthy v))) :
  PT X a (λ σ H Q=>ta σ H λ x H'=>∃ k,J5 X.K x H' k/\Q k H'):=by
 intro pins s σ H Q I h;exact isTrue_plain (thn (ha pins s σ H _ I h) λ v s1 ⟨x,H1,I1,r1,q1⟩=>Ge pins s1 σ H1 x v Q I1 r1 q1) (he _)
theorem op_add_str:OpR X (binaryOp .Add) (λ x y H Q=>∃ i j,x=.str i/\y=.str j/\i.length+j.length<=Li/\Q (.str (i++j)) H):=by
 intro pins s σ H x y v u Q I rx ry h;obtain ⟨i,j,rfl,rfl,hz,q⟩:=h;obtain ⟨t,rfl⟩:=rx;obtain ⟨t',rfl⟩:=ry;exact add_str (λ t' tk=>⟨.str (i++j),H,I.tok _,⟨_,rfl⟩,q⟩) hz
theorem ot {x:V} {us:List Lf} (r:Vals [x] us):∃ u,us=[u]/\RelV x u:=by
 cases r with
 | cons r1 r2=>cases r2; exact ⟨_,rfl,r1⟩
theorem BK {x y:V} {us:List Lf} (r:Vals [x,y] us):∃ u w',us=[u,w']/\RelV x u/\RelV y w':=by
 cases r with
 | cons r1 r2 =>
  cases r2 with
  | cons r3 r4=>cases r4; exact ⟨_,_,rfl,r1,r3⟩
theorem BD (hc:X.calm=true):CallR X (.builtin "max") (λ xs H Q=>∃ i j,xs=[.int i,.int j]/\Q (.int (if j > i then j else i)) H):=by
 intro pins s σ H xs us Q I r h;obtain ⟨i,j,rfl,q⟩:=h;obtain ⟨u,w',rfl,⟨t,rfl⟩,⟨t',rfl⟩⟩:=BK r;refine max_two_ints (I.ok.hd hc) λ h' tk k=>⟨_,H,I.kept k,?_,q⟩;by_cases hj:j > i
 ·rw [if_pos hj,if_pos hj]; exact ⟨_,rfl⟩
 ·rw [if_neg hj,if_neg hj]; exact ⟨_,rfl⟩
theorem BC (hc:X.calm=true):CallR X (.builtin "min") (λ xs H Q=>∃ i j,xs=[.int i,.int j]/\Q (.int (if j < i then j else i)) H):=by
 intro pins s σ H xs us Q I r h;obtain ⟨i,j,rfl,q⟩:=h;obtain ⟨u,w',rfl,⟨t,rfl⟩,⟨t',rfl⟩⟩:=BK r;refine min_two_ints (I.ok.hd hc) λ h' tk k=>⟨_,H,I.kept k,?_,q⟩;by_cases hj:j < i
 ·rw [if_pos hj,if_pos hj]; exact ⟨_,rfl⟩
 ·rw [if_neg hj,if_neg hj]; exact ⟨_,rfl⟩
end
structure ObjM (h:Heap) (x dx C:Lz) (mA:Str->Option Lf):Prop where
 obj:h.get? x=some (Mz C dx)
 ns:h.Ns1 dx mA
 ne:dx≠x
theorem Bk {h:Heap} {dx:Lz} {mA:Str->Option Lf} (n:h.Ns1 dx mA):∃ od,h.get? dx=some od/\∀ name,Nt name od=some (mA name):=by
 obtain ⟨o,es,ep,ho,hd,hk,_,hm⟩:=n;refine ⟨o,ho,λ name=>?_⟩;have e:=hm name;unfold nsFind findBy at e;rw [<- Array.find?_toList] at e;unfold Nt;rw [hd];dsimp only
 split
 ·rename_i y q;rw [q] at e;exact congrArg some e
 ·rename_i q;rw [q] at e;have a:es.toList.any (·.refKey)=false:=by
   rw [List.any_eq_false];intro y hy;obtain ⟨z,t,hkey⟩:=hk y (Array.mem_toList_iff.mp hy);simp [DictEntry.refKey,hkey]
  have a':¬ es.toList.any (·.refKey)=true:=by rw [a]; exact LB
  rw [if_neg a'];exact congrArg some e
theorem ObjM.look {h:Heap} {x dx C:Lz} {mA:Str->Option Lf} (I:ObjM h x dx C mA):∃ od,PySem.W.InstAt h x (Mz C dx) C (some od)/\∀ name,Nt name od=some (mA name) :=
 let ⟨od,ho,hl⟩:=Bk I.ns
 ⟨od,⟨I.obj,rfl,rfl,ho⟩,hl⟩
section
variable {prog:LM} {w:World} {A:Mb} {E:Lf->Lh->Prop} {s:Lh} {K:K6} {x dx C f:Lz} {mA:Str->Option Lf} {name:Str} {v:Lf}
theorem Fg {expr:Bool} {Q:Lf->Lh->Prop} (X:K.In s.heap) (I:ObjM s.heap x dx C mA) (hg:Nj K C name=true) (hh:PySem.W.hasDictIn K C=true)
  (ha:Me K (.ref C) name=some none) (hv:mA name=some v) (hv':PySem.W.handedIn v=true) (h:Q v { s with toks:=s.toks+1 }) :
  L1 (L6 prog w) A (getAttr (.ref x) name expr) Q E s:=by
 obtain ⟨od,J,hl⟩:=I.look;exact PySem.W.get_value X J (NA hg).1 (PySem.W.findObj_own hh ha rfl (by rw [hl,hv])) hv' h
theorem Dk {pl:Sem Bool} {Q:Lf×List Lf->Lh->Prop} (X:K.In s.heap) (I:ObjM s.heap x dx C mA) (hg:Nj K C name=true)
  (hf:Me K (.ref C) name=some (some (.ref f))) (ht:PySem.W.isFn K (.ref f)=true) (hv:mA name=none) (h:Q (.ref f,[.ref x]) s) :
  L1 (L6 prog w) A (getMethod (.ref x) name pl) Q E s:=by
 obtain ⟨od,J,hl⟩:=I.look;exact PySem.W.method_fn X J (NA hg).1 (NA hg).2 hf (beq_iff_eq.mp ht) (by show (Nt name od).map (·.isSome)=some false; rw [hl,hv]; rfl) h
theorem Ek {ns:List Str} {Q:Unit->Lh->Prop} (X:K.In s.heap) (I:ObjM s.heap x dx C mA)
  (hs:Me K (.ref C) "__setattr__" = some (some (.builtin "object.__setattr__"))) (hp:PySem.W.plainOver K C=true) (ht:PySem.W.takerIn K C name=some none) (hh:PySem.W.hasDictIn K C=true)
  (hw:PySem.Within mA ns) (hsz:ns.length<=Li)
  (h:∀ h',ObjM h' x dx C (λ y=>if y=name then some v else mA y)->Heap.SameBut dx s.heap h'->Q () { s with heap:=h',toks:=s.toks+2 }) :
  L1 (L6 prog w) A (setAttr (.ref x) name v) Q E s:=by
 obtain ⟨od,J,hl⟩:=I.look;refine PySem.W.set_plain X J hs (PySem.W.osa_open (s:={ s with toks:=s.toks+1 }) (r:=none) X J hp ht λ b=>?_);obtain ⟨cd,hc,hd'⟩:=PySem.W.any_some hh;have hx:s.heap.get? x=some ⟨.ref C,some dx,.plain,#[]⟩:=I.obj;refine Lo (LH (Lo (Lo (wpAny_loadPart hx (Lo (PySem.W.Looks.here (s:={ s with toks:=s.toks+1 }) (PySem.W.looks_clsIn X hc) ?_))))));rw [hd'];refine LH (a:=some dx) (Lo (LH (Lo ?_)));refine wpAny_nsSet1 (s:={ s with toks:=s.toks+1 }) I.ns λ h' hn2 hs2=>?_;obtain ⟨oD,esD,epD,hoD,hdD,hcD⟩:=hn2.count (PySem.Within.cons name v hw);refine Lo (wpAny_lookBehind hoD (by rw [hdD]; exact pastItsLine_dict (LS hcD (by rw [Lu]; omega))) ?_);exact LH (h _ ⟨(hs2.2 _ (Ne.symm I.ne)).trans I.obj,hn2,I.ne⟩ hs2)
theorem CU {R:Result->Lh->Prop} {vs:List Lf} {kw:List (Str×Lf)} (X:K.In s.heap) (hm:PySem.W.makesIn K C=true)
  (hi:Me K (.ref C) "__init__" = some (some (.ref f))) (hf:PySem.W.typeIn K (.ref f)=some (.type "function"))
  (h:codeAny (L6 prog w) (A.under (.builtin "type.__call__" ⟨.ref C::vs,kw⟩)) (.call (.ref f) ⟨.ref (s.heap.objs.size+1)::vs,kw⟩) (PySem.W.InitBack (s.heap.objs.size+1) R)
   { s with heap:=(s.heap.push Mp).push (Mz C s.heap.objs.size) }) :
  codeAny (L6 prog w) A (.call (.ref C) ⟨vs,kw⟩) R s:=by
 obtain ⟨hh,g,d,t,os⟩:=s;exact PySem.W.make_core (PySem.W.makes_of X hm) (PySem.W.looks_findIn X hi) (λ self=>PySem.W.bind_fn X self hf) (.inl rfl) h
end
noncomputable def mE (f:Str) (v:V):List (Str×V)->List (Str×V)
 | []=>[(f,v)]
 | (g,x)::r=>if g=f then (g,v)::r else (g,x)::mE f v r
theorem qR (f g:Str) (v:V):∀ fs:List (Str×V),(mE f v fs).lookup g=if g=f then some v else fs.lookup g
 | []=>by
  show M3 g [(f,v)]=_;by_cases h:g=f
  ·have hb:(g==f)=true:=beq_iff_eq.mpr h;simp only [M3,hb,if_pos h]
  ·have hb:(g==f)=false:=beq_eq_false_iff_ne.mpr h;simp only [M3,hb,if_neg h]
 | (k,x)::r=>by
  have ih:=qR f g v r;rw [show mE f v ((k,x)::r)=(if k=f then (k,v)::r else (k,x)::mE f v r) from rfl];by_cases hk:k=f
  ·rw [if_pos hk];by_cases h:g=k
   ·have hb:(g==k)=true:=beq_iff_eq.mpr h;simp only [M3,hb,if_pos (h.trans hk)]
   ·have hb:(g==k)=false:=beq_eq_false_iff_ne.mpr h;simp only [M3,hb,if_neg (λ e:g=f=>h (e.trans hk.symm))]
  ·rw [if_neg hk];by_cases h:g=k
   ·have hb:(g==k)=true:=beq_iff_eq.mpr h;simp only [M3,hb,if_neg (λ e:g=f=>hk (h.symm.trans e))]
   ·have hb:(g==k)=false:=beq_eq_false_iff_ne.mpr h;simp only [M3,hb];exact ih
theorem qE (f:Str) (v:V):∀ fs:List (Str×V),f∈(mE f v fs).map (·.1)/\∀ g,g∈fs.map (·.1)->g∈(mE f v fs).map (·.1)
 | []=>⟨by simp [mE],λ g h=>by simp at h⟩
 | (k,x)::r=>by
  obtain ⟨i1,i2⟩:=qE f v r;rw [show mE f v ((k,x)::r)=(if k=f then (k,v)::r else (k,x)::mE f v r) from rfl];by_cases hk:k=f
  ·rw [if_pos hk];subst hk;exact ⟨by simp,λ g h=>by simpa using h⟩
  ·rw [if_neg hk];refine ⟨?_,λ g h=>?_⟩
   ·rw [Ln];exact La _ i1
   ·rw [Ln] at h ⊢;rcases LA.mp h with e | e
    ·exact LA.mpr (.inl e)
    ·exact La _ (i2 g e)
theorem qU (f:Str) (v:V):∀ fs:List (Str×V),(mE f v fs).length<=fs.length+1
 | []=>by simp [mE]
 | (k,x)::r=>by
  have ih:=qU f v r;rw [show mE f v ((k,x)::r)=(if k=f then (k,v)::r else (k,x)::mE f v r) from rfl];by_cases hk:k=f
  ·rw [if_pos hk,Lu,Lu]; omega
  ·rw [if_neg hk,Lu,Lu]; omega
theorem RelO.some_of {v:V} {o:Option Lf} (r:RelO (some v) o):∃ u,o=some u/\RelV v u:=by
 cases o with
 | none=>exact (show False from r).elim
 | some u=>exact ⟨u,rfl,r⟩
theorem RelO.none_of {o:Option Lf} (r:RelO none o):o=none:=by
 cases o with
 | none=>rfl
 | some u=>exact (show False from r).elim
theorem Bw {v:V} {u:Lf} (r:RelV v u):PySem.W.handedIn u=true:=by
 cases v with
 | non=>cases (show u=Value.none from r); rfl
 | bl b=>cases (show u=Value.bool b from r); rfl
 | int i=>obtain ⟨t,e⟩:=(show ∃ t,u=Value.int i t from r); cases e; rfl
 | str x=>obtain ⟨t,e⟩:=(show ∃ t,u=Value.str x t from r); cases e; rfl
 | byt b=>obtain ⟨t,e⟩:=(show ∃ t,u=Value.bytes b t from r); cases e; rfl
 | flt b=>obtain ⟨t,e⟩:=(show ∃ t,u=Value.float b t from r); cases e; rfl
 | ref a=>cases (show u=Value.ref a from r); rfl
 | ty n=>cases (show u=Value.type n from r); rfl
section
variable {P:LM} {w:World} {H H':Hp} {h h':Heap} {a C dx:Lz} {fs fs':List (Str×V)}
theorem wk (hok:HOk P w H h) (e:H a=some (.ins C dx fs)):∃ mA,ObjM h a dx C mA/\(∀ f,RelO (fs.lookup f) (mA f))/\PySem.Within mA (fs.map (·.1))/\fs.length<=1000/\H dx=some (.own a):=by
 obtain ⟨d,z,ne,ob,mA,n,r,q⟩:=(show ObjOk P w H h a (.ins C dx fs) from hok a _ e);exact ⟨mA,⟨ob,n,ne⟩,r,q,z,d⟩
end
structure Cls (K:K6) (C:Lz):Prop where
 pg:Nj K C Str.empty=true
 hd:PySem.W.hasDictIn K C=true
 po:PySem.W.plainOver K C=true
 sa:Me K (.ref C) "__setattr__" = some (some (.builtin "object.__setattr__"))
theorem Cls.get {K:K6} {C:Lz} (c:Cls K C) (f:Str):Nj K C f=true:=c.pg
noncomputable def NoAttr (K:K6) (C:Lz) (f:Str):Prop:=Me K (.ref C) f=some none
theorem NoAttr.taker {K:K6} {C:Lz} {f:Str} (n:NoAttr K C f):PySem.W.takerIn K C f=some none:=by
 unfold PySem.W.takerIn;rw [show Me K (.ref C) f=some none from n];rfl
structure Con (K:K6) (C:Lz) (f:Str) (v:V) (u:Lf):Prop where
 at_:Me K (.ref C) f=some (some u)
 rel:RelV v u
 get:PySem.W.specialIn K u "__get__" = some none
 cp:PySem.W.copiedNames.contains f=false
structure Meth (K:K6) (C:Lz) (m:Str) (f:Lz):Prop where
 at_:Me K (.ref C) m=some (some (.ref f))
 fn:PySem.W.isFn K (.ref f)=true
 kp:MH K (.ref f)=true
section
variable {X:Cx} {pins:List (Lz×Obj)} {σ:St} {H:Hp} {s:Lh} {a C dx:Lz} {fs:List (Str×V)} {f:Str} {v:V} {A:Mb} {E:Lf->Lh->Prop}
theorem zg {b:Bool} {Q:Lf->Lh->Prop} (I:Inv X pins σ H s) (e:H a=some (.ins C dx fs)) (c:Cls X.K C) (n:NoAttr X.K C f) (l:fs.lookup f=some v)
  (h:∀ u s',Inv X pins σ H s'->RelV v u->Q u s'):L1 (L6 X.prog X.w) A (getAttr (.ref a) f b) Q E s:=by
 obtain ⟨mA,O,r,_,_,_⟩:=wk I.hok e;obtain ⟨u,hu,ru⟩:=RelO.some_of (v:=v) (o:=mA f) (by rw [<- l]; exact r f);exact Fg I.kIn O (c.get f) c.hd n hu (Bw ru) (h u _ (I.tok _) ru)
theorem tL {m:Str} {g:Lz} {pl:Sem Bool} {Q:Lf×List Lf->Lh->Prop} (I:Inv X pins σ H s) (e:H a=some (.ins C dx fs)) (c:Cls X.K C) (k:Meth X.K C m g) (l:fs.lookup m=none)
  (h:Q (.ref g,[.ref a]) s):L1 (L6 X.prog X.w) A (getMethod (.ref a) m pl) Q E s:=by
 obtain ⟨mA,O,r,_,_,_⟩:=wk I.hok e;have hn:mA m=none:=RelO.none_of (by rw [<- l]; exact r m);exact Dk I.kIn O (c.get m) k.at_ k.fn hn h
theorem yL {y:V} {u:Lf} {Q:Unit->Lh->Prop} (I:Inv X pins σ H s) (e:H a=some (.ins C dx fs)) (c:Cls X.K C) (n:NoAttr X.K C f) (hl:fs.length < 1000) (ry:RelV y u)
  (h:∀ s',Inv X pins σ (upd H a (.ins C dx (mE f y fs))) s'->Q () s'):L1 (L6 X.prog X.w) A (setAttr (.ref a) f u) Q E s:=by
 obtain ⟨mA,O,r,wi,_,ho⟩:=wk I.hok e;have hz:(fs.map (·.1)).length<=Li:=by rw [K7,sizeLine_eq]; omega
 refine Ek I.kIn O c.sa c.po n.taker c.hd wi hz λ h' O' sb=>h _ ?_;have hd:∃ o,h'.get? dx=some o:=let ⟨o,_,_,e',_⟩:=O'.ns; ⟨o,e'⟩;refine I.write (x:=a) (e:=dx) (by rw [e]; exact True.intro) (.inr ho) (λ b q hb z=>(sb.2 b hb).trans z) hd ?_;refine ⟨by rw [aE O.ne]; exact ho,?_,O.ne,O'.obj,_,O'.ns,λ g=>?_,λ g hg=>?_⟩
 ·have:=qU f y fs; omega
 ·show RelO ((mE f y fs).lookup g) (if g=f then some u else mA g);rw [qR];by_cases q:g=f
  ·rw [if_pos q,if_pos q]; exact ry
  ·rw [if_neg q,if_neg q]; exact r g
 ·by_cases q:g=f
  ·rw [q]; exact (qE f y fs).1
  ·refine (qE f y fs).2 g (wi g λ z=>hg ?_);show (if g=f then some u else mA g)=none;rw [if_neg q]; exact z
theorem Inv.made (I:Inv X pins σ H s):Inv X pins σ (upd (upd H s.heap.objs.size (.own (s.heap.objs.size+1))) (s.heap.objs.size+1) (.ins C s.heap.objs.size []))
  { s with heap:=(s.heap.push Mp).push (Mz C s.heap.objs.size) }:=by
 have e1:(s.heap.push Mp).get? s.heap.objs.size=some Mp:=LL s.heap rfl;have e2:((s.heap.push Mp).push (Mz C s.heap.objs.size)).get? (s.heap.objs.size+1)=some (Mz C s.heap.objs.size):=by
  have:=LL (s.heap.push Mp) (o:=Mz C s.heap.objs.size) rfl
  rwa [Heap.size_push] at this
 have e3:(s.heap.push Mp).Ns s.heap.objs.size (λ _=>none):=⟨Mp,#[],_,e1,rfl,(λ e he=>absurd he (by simp)),λ _=>rfl⟩;have I1:=I.laid (a:=s.heap.objs.size) (o:=.own (s.heap.objs.size+1)) (h':=s.heap.push Mp) (t':=s.toks) (λ b u q=>Lg _ q) (Lp _) ⟨_,e1⟩;refine I1.laid (a:=s.heap.objs.size+1) (o:=.ins C s.heap.objs.size []) (t':=s.toks) (λ b u q=>Lg _ q) (Nat.le_of_eq (Heap.size_push _ _)) ?_;have ne:s.heap.objs.size≠s.heap.objs.size+1:=LP (Nat.lt_succ_self _);refine ⟨by rw [aE ne,aX],Ml _,ne,e2,λ _=>none,(Heap.Ns1.of_empty e3).at λ o q=>Lg _ q,λ _=>True.intro,λ y hy=>absurd rfl hy⟩
theorem Fs {prog:LM} {w:World} {env:Env} {e:Expr} {f:Str} {pos:Pos} {s:Lh} {Q:Lf->Lh->Prop} (hb:attributeBase e f env (eval e env)=eval e env)
  (h:L1 (L6 prog w) A (eval e env) (λ o s₁=>L1 (L6 prog w) A (getAttr o f true) Q E s₁) E s):L1 (L6 prog w) A (eval (.Attribute e f pos) env) Q E s :=
 Attribute_any_ h (by rw [arm_eval_Attribute,hb])
end
noncomputable def Kp (K:K6) (ta:TE) (f:Str):TE:=λ σ H Q=>ta σ H λ x H1=>∃ a C dx fs v,x=.ref a/\H1 a=some (.ins C dx fs)/\Cls K C/\NoAttr K C f/\fs.lookup f=some v/\Q v H1
noncomputable def Ku (K:K6) (ta tv:TE) (f:Str):TS:=λ D σ H=>tv σ H λ y H1=>ta σ H1 λ x H2=>∃ a C dx fs,x=.ref a/\H2 a=some (.ins C dx fs)/\Cls K C/\NoAttr K C f/\fs.length < 1000 /\
 D.nx σ (upd H2 a (.ins C dx (mE f y fs)))
section
variable {X:Cx} {o e value:Expr} {f:Str} {pos pos' tpos:Pos} {ta tv:TE}
theorem Cq (he:PE X e ta) (hb:attributeBase e f X.env (eval e X.env)=eval e X.env):PE X (.Attribute e f pos) (Kp X.K ta f):=by
 intro pins s σ H Q I h;refine Fs hb (thn (he pins s σ H _ I h) λ u s1 ⟨x,H1,I1,rx,a,C,dx,fs,v,ex,ea,c,n,l,q⟩=>?_);subst ex;obtain rfl:u=Value.ref a:=rx;exact zg I1 ea c n l λ u' s2 I2 ru=>⟨v,H1,I2,ru,q⟩
theorem GC (ha:PE X o ta) (hv:PE X value tv) (hs:swapsWith value (some (.Attribute o f pos')) pos.line X.env=pure false):PS X (.Assign [.Attribute o f pos'] value pos) (Ku X.K ta tv f):=by
 intro pins s σ H D I h;refine plainObj_wpAny_Assign_Attribute (thn (hv pins s σ H _ I h) λ u s1 ⟨y,H1,I1,ry,q⟩=>thn (ha pins s1 σ H1 _ I1 q) λ ov s2 ⟨x,H2,I2,rx,a,C,dx,fs,ex,ea,c,n,l,q2⟩=>?_) hs;subst ex;obtain rfl:ov=Value.ref a:=rx;exact yL I2 ea c n l ry λ s3 I3=>⟨σ,_,I3,q2⟩
end
section
variable {X:Cx} {pins:List (Lz×Obj)} {σ:St} {H:Hp} {s:Lh} {A:Mb} {E:Lf->Lh->Prop} {Q:Lf->Lh->Prop} {c:Lf} {b:Bool}
inductive ub (K:K6) (H:Hp):V->Lf->Prop where
 | non:ub K H .non (.type "NoneType")
 | bl (x:Bool):ub K H (.bl x) (.type "bool")
 | int (i:Int):ub K H (.int i) (.type "int")
 | str (x:Str):ub K H (.str x) (.type "str")
 | flt (x:UInt64):ub K H (.flt x) (.type "float")
 | lst {a:Lz} {xs:List V} (e:H a=some (.lst xs)):ub K H (.ref a) (.type "list")
 | frz {a:Lz} {o:Obj} {xs:List V} (e:H a=some (.frz o (.lst xs))):ub K H (.ref a) (.type "list")
 | tup {a:Lz} {xs:List V} (e:H a=some (.tup xs)):ub K H (.ref a) (.type "tuple")
 | dK {a:Lz} {kvs:List (Key×V)} (e:H a=some (.dK kvs)):ub K H (.ref a) (.type "dict")
 | dT {a:Lz} {kvs:List (List Key×V)} (e:H a=some (.dT kvs)):ub K H (.ref a) (.type "dict")
 | ins {a C dx:Lz} {fs:List (Str×V)} (e:H a=some (.ins C dx fs)) (cl:Cls K C) (ha:Me K (.ref C) "__class__" = some (some (.builtin "object.__class__")))
   (hn:PySem.W.specialIn K (.builtin "object.__class__") "__get__" = some (some (.builtin "getset_descriptor.__get__"))) (htk:PySem.W.takesIn K (.builtin "object.__class__")=some true)
   (hm:PySem.W.mroIn K C (.type "object")=some true):ub K H (.ref a) (.ref C)
end
structure Room (k:Nat) (A:Mb):Prop where
 hd:A.handled=none
 dp:A.depth+3*k+5 < recursionLimit
 un:A.units+16*k+200 < cLine
theorem Room.mono {j k:Nat} {A:Mb} (r:Room k A) (h:j<=k):Room j A:=⟨r.hd,by have:=r.dp; omega,by have:=r.un; omega⟩
theorem Room.deeper {k:Nat} {A:Mb} (r:Room (k+1) A) (env:Env):Room k (A.deeper env) :=
 ⟨r.hd,by have:=r.dp; show A.depth+1+3*k+5 < _; omega,by have:=r.un; show A.units+3+16*k+200 < _; omega⟩
theorem y4 {A:Mb} {C:Lz} {us:List Lf} {kw:List (Str×Lf)}:(A.under (.builtin "type.__call__" ⟨.ref C::us,kw⟩)).depth=A.depth+1:=by
 first | rfl | simp [Around.under,Code.weight,Code.isCreation,Code.isGuard,Code.isCaller,Code.frames,Code.isFrame,guardIds]
theorem y3 {A:Mb} {C:Lz} {us:List Lf} {kw:List (Str×Lf)}:(A.under (.builtin "type.__call__" ⟨.ref C::us,kw⟩)).units=A.units+1:=by
 first | rfl | simp [Around.under,Code.cUnits,Code.frames,Code.isFrame]
theorem Room.make {k:Nat} {A:Mb} (r:Room (k+1) A) (C:Lz) (us:List Lf) (kw:List (Str×Lf)):Room k (A.under (.builtin "type.__call__" ⟨.ref C::us,kw⟩)) :=
 ⟨r.hd,by have:=r.dp; rw [y4]; omega,by have:=r.un; rw [y3]; omega⟩
theorem Room.depth {k:Nat} {A:Mb} (r:Room k A):A.depth < recursionLimit:=by have:=r.dp; omega
theorem Room.units {k:Nat} {A:Mb} (r:Room k A):A.units+64 < cLine:=by have:=r.un; omega
noncomputable def H0:TA:=λ _ H Q=>Q [] H
noncomputable def Ie (ta:TE) (tr:TA):TA:=λ σ H Q=>ta σ H λ x H1=>tr σ H1 λ xs H2=>Q (x::xs) H2
section
variable {X:Cx} {e:Expr} {es:List Expr} {te:TE} {t:TA} {pos:Pos}
theorem Cv:PA X [] H0:=λ _ _ _ _ H Q I h=>Calls.spliced_nil ⟨[],H,I,.nil,h⟩
theorem z7 (ha:PE X e te) (hr:PA X es t) (hs:Lj (e::es) X.env=(false,eval e X.env)::Lj es X.env:=by rfl):PA X (e::es) (Ie te t):=by
 intro pos pins s σ H Q I h;rw [hs];show L1 _ _ (spliced ((false,eval e X.env)::backTo pos (Lj es X.env))) _ _ s;refine Calls.spliced_cons (thn (ha pins s σ H _ I h) λ u s1 ⟨x,H1,I1,r1,q1⟩=>?_);exact thn (hr pos pins s1 σ H1 _ I1 q1) λ us s2 ⟨xs,H2,I2,r2,q2⟩=>⟨x::xs,H2,I2,.cons r1 r2,q2⟩
noncomputable def Kh (t:TA):TE:=λ σ H Q=>t σ H λ xs H1=>xs.length<=Li/\∀ p,H1 p=none->Q (.ref p) (upd H1 p (.tup xs))
noncomputable def Km (t:TA):TE:=λ σ H Q=>t σ H λ xs H1=>xs.length<=Li/\∀ p,H1 p=none->Q (.ref p) (upd H1 p (.lst xs))
theorem GG {x1} (h:PA X es t):PE X (.Tuple es x1 pos) (Kh t):=by
 intro pins s σ H Q I hq;refine wpAny_Tuple_spliced (thn (h pos pins s σ H _ I hq) λ us s1 ⟨xs,H1,I1,r,z,q⟩=>⟨by rw [<- r.length]; exact z,?_⟩);have hf:H1 s1.heap.objs.size=none:=I1.hok.fresh (Lp _);refine ⟨.ref s1.heap.objs.size,upd H1 s1.heap.objs.size (.tup xs),I1.laid (t':=s1.toks) (λ b u e=>Lg _ e) (Lp _) ?_,rfl,q _ hf⟩;exact ⟨z,us,r,⟨_,LL _ rfl,rfl,_,rfl⟩⟩
theorem GL (h:PA X es t):PE X (.List es pos) (Km t):=by
 intro pins s σ H Q I hq;refine wpAny_List_spliced (thn (h pos pins s σ H _ I hq) λ us s1 ⟨xs,H1,I1,r,z,q⟩=>⟨by rw [<- r.length]; exact z,?_⟩);have hf:H1 s1.heap.objs.size=none:=I1.hok.fresh (Lp _);refine ⟨.ref s1.heap.objs.size,upd H1 s1.heap.objs.size (.lst xs),I1.laid (t':=s1.toks) (λ b u e=>Lg _ e) (Lp _) ?_,rfl,q _ hf⟩;exact ⟨z,us,0,r,LL _ rfl⟩
end
noncomputable abbrev Sp:=List V->Hp->VK->XK->Prop
noncomputable abbrev CXT:=List Env->Hp->Lh->XK->Lf->Lh->Prop
structure Env0 (P:LM) (w:World) (K:K6) (mg:Str->Option Lf) (base:Heap) (A:Mb) (outer:List Env) (s:Lh) (H:Hp):Prop where
 frames:A.frames=some outer
 mod:Mod K mg base
 bs:∀ b o,base.get? b=some o->s.heap.get? b=some o/\H b=none
 bsz:base.objs.size<=s.heap.objs.size
 funs:s.heap.FunFrames base outer
 frf:∀ b∈frs outer,H b=none
 hok:HOk P w H s.heap
 bare:AllBare s.gens
noncomputable def CE (outer:List Env) (P:LM) (w:World) (H:Hp) (s:Lh) (Q:VK) (u:Lf) (s':Lh):Prop :=
 ∃ v H',s'.os=s.os/\AllBare s'.gens/\Un (frs outer) [] H H' s.heap s'.heap/\HOk P w H' s'.heap/\RelV v u/\Q v H'
noncomputable def CR (CX:CXT) (outer:List Env) (P:LM) (w:World) (H:Hp) (s:Lh) (Q:VK) (E:XK) (r:Result) (s':Lh):Prop :=
 match r with
 | .ok (.ret u)=>CE outer P w H s Q u s'
 | .ok _=>False
 | .error e=>CX outer H s E e s'
structure FnOk (P:LM) (w:World) (K:K6) (mg:Str->Option Lf) (base:Heap) (CX:CXT) (k:Nat) (f:Lz) (fd:Mj) (ps:List Str) (sp:Sp):Prop where
 len:∀ vs H Q E,sp vs H Q E->vs.length=ps.length
 run:∀ (A:Mb) (outer:List Env) (s:Lh) (H:Hp) (args:Args) (us:List Lf) (vs:List V) (Q:VK) (E:XK),Room k A->Env0 P w K mg base A outer s H->BindsTo s fd args (ps.zip us)->Vals vs us->sp vs H Q E ->
  codeAny (L6 P w) A (.call (.ref f) args) (CR CX outer P w H s Q E) s
theorem FnOk.mono {P:LM} {w:World} {K:K6} {mg:Str->Option Lf} {base:Heap} {CX:CXT} {j k:Nat} {f:Lz} {fd:Mj} {ps:List Str} {sp:Sp} (F:FnOk P w K mg base CX j f fd ps sp) (h:j<=k) :
  FnOk P w K mg base CX k f fd ps sp:=⟨F.len,λ A outer s H args us vs Q E hr=>F.run A outer s H args us vs Q E (hr.mono h)⟩
theorem FnOk.imp {P:LM} {w:World} {K:K6} {mg:Str->Option Lf} {base:Heap} {CX:CXT} {k:Nat} {f:Lz} {fd:Mj} {ps:List Str} {sp sp':Sp} (F:FnOk P w K mg base CX k f fd ps sp)
  (h:∀ vs H Q E,sp' vs H Q E->sp vs H Q E):FnOk P w K mg base CX k f fd ps sp' :=
 ⟨λ vs H Q E q=>F.len vs H Q E (h _ _ _ _ q),λ A outer s H args us vs Q E hr he hb hv hs=>F.run A outer s H args us vs Q E hr he hb hv (h _ _ _ _ hs)⟩
theorem Env0.make {P:LM} {w:World} {K:K6} {mg:Str->Option Lf} {base:Heap} {A:Mb} {outer:List Env} {s:Lh} {H:Hp} (e:Env0 P w K mg base A outer s H) (C:Lz) (us:List Lf) (kw:List (Str×Lf)) :
  Env0 P w K mg base (A.under (.builtin "type.__call__" ⟨.ref C::us,kw⟩)) outer s H:=⟨by first | exact e.frames | (simpa [Around.under,Code.envs,Code.isFrame,pushEnvs] using e.frames),e.mod,e.bs,e.bsz,e.funs,e.frf,e.hok,e.bare⟩
section
variable {X:Cx} {pins:List (Lz×Obj)} {σ:St} {H:Hp} {s s':Lh}
theorem Inv.env0 (I:Inv X pins σ H s):Env0 X.prog X.w X.K X.mg X.base X.A X.stack s H :=
 ⟨I.ok.frames,I.ok.mod,I.bs,LS I.ok.bsz I.sz,I.stack,I.stkFree,I.hok,I.bare⟩
theorem Inv.after {Q:VK} {u:Lf} (I:Inv X pins σ H s) (h:CE X.stack X.prog X.w H s Q u s'):EP X pins σ Q u s':=by
 obtain ⟨v,H',os,bare,un,hok,r,q⟩:=h;obtain ⟨hh,g,d,t,os'⟩:=s';obtain rfl:os'=s.os:=os;exact ⟨v,H',I.call (h':=hh) (g':=g) (d':=d) (t':=t) (ch:=[]) un hok bare (λ b z=>absurd z (by simp)),r,q⟩
end
noncomputable def Ig (sp:Sp) (dvs:List V) (E:XK) (t:TA):TE:=λ σ H Q=>t σ H λ vs H1=>sp (vs++dvs) H1 Q E
noncomputable def BU (C:Lz) (m:Str) (sp:Sp) (dvs:List V) (E:XK) (ta:TE) (t:TA):TE:=λ σ H Q=>ta σ H λ x H1=>∃ a dx fs,x=.ref a/\H1 a=some (.ins C dx fs)/\fs.lookup m=none /\
 t σ H1 λ vs H2=>sp (x::(vs++dvs)) H2 Q E
noncomputable def Ib (C:Lz) (sp:Sp) (dvs:List V) (E:XK) (t:TA):TE:=λ σ H Q=>t σ H λ vs H1=>∀ x dx,H1 x=none->H1 dx=none->dx≠x ->
 sp (.ref x::(vs++dvs)) (upd (upd H1 dx (.own x)) x (.ins C dx [])) (λ v H2=>v=.non/\Q (.ref x) H2) E
noncomputable def Binds (K:K6) (fd:Mj) (ps:List Str) (ds:List Lf):Prop :=
 ∀ (s:Lh) (us:List Lf),K.In s.heap->(us++ds).length=ps.length->BindsTo s fd ⟨us,[]⟩ (ps.zip (us++ds))
theorem Binds.all {K:K6} {fd:Mj} {ps:List Str} (h:∀ us:List Lf,us.length=ps.length->bindArgs fd ⟨us,[]⟩=pure (ps.zip us)):Binds K fd ps []:=λ s us _ hl=>by
 rw [LY] at hl ⊢;exact .of_eq (h us hl)
noncomputable def Passes (CX:CXT) (X:Cx) (E:XK):Prop:=∀ (pins:List (Lz×Obj)) (σ:St) (H:Hp) (s:Lh) (e:Lf) (s':Lh),Inv X pins σ H s->CX X.stack H s E e s'->X.xe e s'
section
variable {X:Cx} {CX:CXT} {k:Nat} {f C:Lz} {fd:Mj} {ps:List Str} {sp:Sp} {dvs:List V} {ds:List Lf} {E:XK} {x m:Str} {p pos apos:Pos} {e o:Expr} {es:List Expr} {ta:TE} {t:TA}
theorem yO {pins:List (Lz×Obj)} {σ:St} {H:Hp} {s:Lh} {Q:VK} {us:List Lf} {vs:List V} (F:FnOk X.prog X.w X.K X.mg X.base CX k f fd ps sp) (hr:Room k X.A) (hb:Binds X.K fd ps ds) (hd:Vals dvs ds) (hx:Passes CX X E)
  (I:Inv X pins σ H s) (r:Vals vs us) (h:sp (vs++dvs) H Q E):L1 (L6 X.prog X.w) X.A (call (.ref f) us) (EP X pins σ Q) X.xe s:=by
 have r2:Vals (vs++dvs) (us++ds):=r.append hd;have hl:(us++ds).length=ps.length:=by rw [<- r2.length]; exact F.len _ _ _ _ h
 refine wpAny_call (codeAny_mono (F.run X.A X.stack s H ⟨us,[]⟩ (us++ds) (vs++dvs) Q E hr I.env0 (hb s us I.kIn hl) r2 h) λ r s' hq=>?_);cases r with
 | error e=>exact hx pins σ H s e s' I hq
 | ok fl =>
  cases fl with
  | ret u=>exact I.after hq
  | next=>exact False.elim hq
  | brk=>exact False.elim hq
  | cont=>exact False.elim hq
theorem vP (F:FnOk X.prog X.w X.K X.mg X.base CX k f fd ps sp) (hr:Room k X.A) (hg:Gl X x) (hm:X.mg x=some (.ref f)) (hk:MH X.K (.ref f)=true) (hb:Binds X.K fd ps ds) (hd:Vals dvs ds) (hx:Passes CX X E)
  (ha:PA X (e::es) t) (hdb:(x==("__debug__" : Str))=false:=by decide) (he:Lj (e::es) X.env=(false,eval e X.env)::Lj es X.env:=by rfl) (hpl:(backTo pos (Lj es X.env)).any (·.1)=false:=by rfl) :
  PE X (.Call (.Name x p) (e::es) [] pos) (Ig sp dvs E t):=by
 intro pins s σ H Q I h;refine wpAny_Call_Name_kw (wg I hg hm ?_ hdb);refine NF (h₀:=X.base) I.ok.mod.kin hk (thn (ha pos pins s σ H _ I h) λ us s1 ⟨vs,H1,I1,r,q⟩=>⟨I1.kIn,?_⟩) he hpl;exact yO F hr hb hd hx I1 r q
theorem EC {pl:Sem Bool} (he:PE X o ta) (c:Cls X.K C) (hm:Meth X.K C m f) (F:FnOk X.prog X.w X.K X.mg X.base CX k f fd ps sp) (hr:Room k X.A) (hb:Binds X.K fd ps ds) (hd:Vals dvs ds) (hx:Passes CX X E) (ha:PA X (e::es) t)
  (hst:Lj (e::es) X.env=(false,eval e X.env)::Lj es X.env:=by rfl) (hpl:(backTo pos (Lj es X.env)).any (·.1)=false:=by rfl)
  (ht:eval (.Call (.Attribute o m apos) (e::es) [] pos) X.env=(do
   let ov <- eval o X.env
   standAt apos.atName
   let (f,first) <- holding [ov] (getMethod ov m pl)
   callWith pos f first (backTo pos (Lj (e::es) X.env)) (backToKw pos (keywordEach [] X.env))):=by rfl) :
  PE X (.Call (.Attribute o m apos) (e::es) [] pos) (BU C m sp dvs E ta t):=by
 intro pins s σ H Q I h;refine PySem.W.methodCall_KW (pl:=pl) (thn (he pins s σ H _ I h) λ u s1 ⟨x,H1,I1,rx,a,dx,fs,ex,ea,l,q⟩=>?_) ht;subst ex;obtain rfl:u=Value.ref a:=rx;refine tL I1 ea c hm l ?_;refine NF (first:=[.ref a]) (h₀:=X.base) I.ok.mod.kin hm.kp (thn (ha pos pins s1 σ H1 _ I1 q) λ us s2 ⟨vs,H2,I2,r,q2⟩=>⟨I2.kIn,?_⟩) hst hpl;exact yO (us:=.ref a::us) (vs:=.ref a::vs) F hr hb hd hx I2 (.cons rfl r) q2
theorem Co {pl:Sem Bool} (he:PE X o ta) (c:Cls X.K C) (hm:Meth X.K C m f) (F:FnOk X.prog X.w X.K X.mg X.base CX k f fd ps sp) (hr:Room k X.A) (hb:Binds X.K fd ps ds) (hd:Vals dvs ds) (hx:Passes CX X E)
  (ht:eval (.Call (.Attribute o m apos) [] [] pos) X.env=(do
   let ov <- eval o X.env
   standAt apos.atName
   let (f,first) <- holding [ov] (getMethod ov m pl)
   callWith pos f first (backTo pos (Lj [] X.env)) (backToKw pos (keywordEach [] X.env))):=by rfl) :
  PE X (.Call (.Attribute o m apos) [] [] pos) (BU C m sp dvs E ta H0):=by
 intro pins s σ H Q I h;refine PySem.W.methodCall_KW (pl:=pl) (thn (he pins s σ H _ I h) λ u s1 ⟨x,H1,I1,rx,a,dx,fs,ex,ea,l,q⟩=>?_) ht;subst ex;obtain rfl:u=Value.ref a:=rx;refine tL I1 ea c hm l ?_;exact PySem.W.callWith_K0 (first:=[.ref a]) I1.kIn hm.kp (yO (us:=[.ref a]) (vs:=[.ref a]) F hr hb hd hx I1 (.cons rfl .nil) q)
structure Mk (K:K6) (C f:Lz):Prop where
 makes:PySem.W.makesIn K C=true
 init:Me K (.ref C) "__init__" = some (some (.ref f))
 fn:PySem.W.isFn K (.ref f)=true
 kp:MH K (.ref C)=true
theorem B5 {pins:List (Lz×Obj)} {σ:St} {H:Hp} {s:Lh} {Q:VK} {us:List Lf} {vs:List V} (M:Mk X.K C f) (F:FnOk X.prog X.w X.K X.mg X.base CX k f fd ps sp) (hr:Room (k+1) X.A) (hb:Binds X.K fd ps ds) (hd:Vals dvs ds)
  (hx:Passes CX X E) (I:Inv X pins σ H s) (r:Vals vs us)
  (h:∀ x dx,H x=none->H dx=none->dx≠x->sp (.ref x::(vs++dvs)) (upd (upd H dx (.own x)) x (.ins C dx [])) (λ v H2=>v=.non/\Q (.ref x) H2) E) :
  L1 (L6 X.prog X.w) X.A (call (.ref C) us) (EP X pins σ Q) X.xe s:=by
 have hq:=h (s.heap.objs.size+1) s.heap.objs.size (I.hok.fresh (Nat.le_succ _)) (I.hok.fresh (Lp _)) (LP (Nat.lt_succ_self _));have I2:=Inv.made (C:=C) I;have r2:Vals (V.ref (s.heap.objs.size+1)::(vs++dvs)) (Value.ref (s.heap.objs.size+1)::(us++ds)):=.cons rfl (r.append hd);have hl:(Value.ref (s.heap.objs.size+1)::us++ds).length=ps.length:=by
  have e:=r2.length;rw [F.len _ _ _ _ hq] at e;exact e.symm
 refine wpAny_call (CU (f:=f) I.kIn M.makes M.init (beq_iff_eq.mp M.fn) (codeAny_mono (F.run _ X.stack _ _ ⟨Value.ref (s.heap.objs.size+1)::us,[]⟩ (Value.ref (s.heap.objs.size+1)::(us++ds)) _ _ E (hr.make C us [])
  (I2.env0.make C us []) (hb _ (Value.ref (s.heap.objs.size+1)::us) I2.kIn hl) r2 hq) λ r s' hq'=>?_))
 cases r with
 | error e=>exact hx pins σ _ _ e s' I2 hq'
 | ok fl =>
  cases fl with
  | ret u =>
   obtain ⟨v,H',I3,rv,ev,q3⟩:=I2.after hq';subst ev;exact ⟨rv,⟨V.ref (s.heap.objs.size+1),H',I3,rfl,q3⟩⟩
  | next=>exact False.elim hq'
  | brk=>exact False.elim hq'
  | cont=>exact False.elim hq'
theorem ED (M:Mk X.K C f) (F:FnOk X.prog X.w X.K X.mg X.base CX k f fd ps sp) (hr:Room (k+1) X.A) (hg:Gl X x) (hm:X.mg x=some (.ref C)) (hb:Binds X.K fd ps ds) (hd:Vals dvs ds) (hx:Passes CX X E)
  (ha:PA X (e::es) t) (hdb:(x==("__debug__" : Str))=false:=by decide) (he:Lj (e::es) X.env=(false,eval e X.env)::Lj es X.env:=by rfl) (hpl:(backTo pos (Lj es X.env)).any (·.1)=false:=by rfl) :
  PE X (.Call (.Name x p) (e::es) [] pos) (Ib C sp dvs E t):=by
 intro pins s σ H Q I h;refine wpAny_Call_Name_kw (wg I hg hm ?_ hdb);refine NF (h₀:=X.base) I.ok.mod.kin M.kp (thn (ha pos pins s σ H _ I h) λ us s1 ⟨vs,H1,I1,r,q⟩=>⟨I1.kIn,?_⟩) he hpl;exact B5 M F hr hb hd hx I1 r q
end
section
variable {X:Cx} {CX:CXT} {k:Nat} {f C:Lz} {fd:Mj} {ps ks:List Str} {sp:Sp} {E:XK} {x m:Str} {p pos apos kpos:Pos} {e o:Expr} {es:List Expr} {kws:List Keyword} {te ta:TE} {t tk:TA} {nm:Option Str}
structure KBinds (K:K6) (fd:Mj) (ps ks:List Str) (g:List Lf->List Lf->List Lf) (gV:List V->List V->List V):Prop where
 to:∀ (s:Lh) (us ws:List Lf),K.In s.heap->(g us ws).length=ps.length->BindsTo s fd ⟨us,ks.zip ws⟩ (ps.zip (g us ws))
 rel:∀ {vs:List V} {us:List Lf} {zs:List V} {ws:List Lf},Vals vs us->Vals zs ws->Vals (gV vs zs) (g us ws)
variable {g:List Lf->List Lf->List Lf} {gV:List V->List V->List V}
end
structure aL (N P:List Str) (sc:Scope):Prop where
 kind:sc.kind=.function
 co:sc.isCoroutine=false
 gen:sc.isGenerator=false
 nd:N.Nodup
 pre:N.take P.length=P
 par:∀ x∈P,sc.names.lookup x=some .local\/sc.names.lookup x=some .cell
 nofree:∀ y∈sc.names,y.2≠.free
theorem vf {kindOf:Str->Option NameKind} {x:Str}:∀ {binds:List (Str×Lf)} {m:Str->Option Lf},(∀ v,(x,v)∉binds)->bindL kindOf binds m x=m x
 | [],_,_=>rfl
 | (n,v)::r,m,h=>by
  unfold bindL;rw [vf λ w hw=>h w (La _ hw)]
  split
  ·have:x≠n:=by rintro rfl; exact h v Lc
   simp [this]
  ·rfl
theorem vh {kindOf:Str->Option NameKind} {x:Str}:∀ {binds:List (Str×Lf)} {m:Str->Option Lf},(∀ v,(x,v)∉binds)->bindC kindOf binds m x=m x
 | [],_,_=>rfl
 | (n,v)::r,m,h=>by
  unfold bindC;rw [vh λ w hw=>h w (La _ hw)]
  split
  ·rfl
  ·have:x≠n:=by rintro rfl; exact h v Lc
   simp [this]
theorem vg {kindOf:Str->Option NameKind} {x:Str} {v:Lf}:∀ {P:List Str} {vs:List Lf} {i:Nat} {m:Str->Option Lf},P.Nodup->P[i]?=some x->vs[i]?=some v->kindOf x=some .local ->
  bindL kindOf (P.zip vs) m x=some v
 | [],_,_,_,_,h,_,_=>by simp at h
 | _::_,[],_,_,_,_,h,_=>by simp at h
 | p::P,w::vs,0,m,nd,h1,h2,hk=>by
  simp at h1 h2; subst h1; subst h2;show bindL kindOf ((p,w)::P.zip vs) m p=_;unfold bindL;rw [vf λ v hv=>(Mf.mp nd).1 (List.of_mem_zip hv).1,if_pos hk]
  simp
 | p::P,w::vs,i+1,m,nd,h1,h2,hk=>by
  show bindL kindOf ((p,w)::P.zip vs) m x=_;unfold bindL;exact vg (i:=i) (Mf.mp nd).2 (by simpa using h1) (by simpa using h2) hk
theorem vi {kindOf:Str->Option NameKind} {x:Str} {v:Lf}:∀ {P:List Str} {vs:List Lf} {i:Nat} {m:Str->Option Lf},P.Nodup->P[i]?=some x->vs[i]?=some v->kindOf x≠some .local ->
  bindC kindOf (P.zip vs) m x=some v
 | [],_,_,_,_,h,_,_=>by simp at h
 | _::_,[],_,_,_,_,h,_=>by simp at h
 | p::P,w::vs,0,m,nd,h1,h2,hk=>by
  simp at h1 h2; subst h1; subst h2;show bindC kindOf ((p,w)::P.zip vs) m p=_;unfold bindC;rw [vh λ v hv=>(Mf.mp nd).1 (List.of_mem_zip hv).1,if_neg hk]
  simp
 | p::P,w::vs,i+1,m,nd,h1,h2,hk=>by
  show bindC kindOf ((p,w)::P.zip vs) m x=_;unfold bindC;exact vi (i:=i) (Mf.mp nd).2 (by simpa using h1) (by simpa using h2) hk
noncomputable def start (N:List Str) (vs:List V):St:=vs.map some++Mm (N.length - vs.length) none
noncomputable def ya (CX:CXT) (P:LM) (w:World) (K:K6) (mg:Str->Option Lf) (base:Heap) (N:List Str) (qual:Str) (scope:Scope) (f:Lz) (cd:Lf) (A:Mb) (outer:List Env) (s:Lh) (H:Hp) (E:XK):Cx where
 prog:=P
 w:=w
 K:=K
 mg:=mg
 base:=base
 A:=A.deeper (envOfC qual scope s.heap.objs.size f cd)
 N:=N
 s₀:=s
 H₀:=H
 env:=envOfC qual scope s.heap.objs.size f cd
 outer:=outer
 stack:=envOfC qual scope s.heap.objs.size f cd::outer
 ex:=[]
 calm:=true
 fn:=λ _=>true
 pn:=[]
 xe:=λ e s'=>L1 (L6 P w) (A.deeper (envOfC qual scope s.heap.objs.size f cd)) (leaving (envOfC qual scope s.heap.objs.size f cd) e) (λ _ s''=>CX outer H s E e s'') (λ e' s''=>CX outer H s E e' s'') s'
theorem yg {sc:Scope} {n:Nat} {x:Str} (h:sc.names.lookup x=some .cell):∃ c,(cellsFrom n sc.names []).lookup x=some c:=by
 have q:=PySem.W.cellsFrom_some sc.names n [] (.inl h);exact Option.isSome_iff_exists.mp q
theorem Br {CX:CXT} {P:LM} {w:World} {K:K6} {mg:Str->Option Lf} {base:Heap} {N ps:List Str} {qual:Str} {scope:Scope} {f:Lz} {cd:Lf} {A:Mb} {outer:List Env} {s s1:Lh} {H:Hp} {E:XK} {us:List Lf} {vs:List V}
  (S:aL N ps scope) (hd:A.handled=none) (e0:Env0 P w K mg base A outer s H) (hl:vs.length=ps.length) (r:Vals vs us)
  (x:InCallC s s.heap.objs.size (bindL (envOfC qual scope s.heap.objs.size f cd).kindOf (ps.zip us) λ _=>none) (cellsFrom (s.heap.objs.size+1) scope.names []) (bindC (envOfC qual scope s.heap.objs.size f cd).kindOf (ps.zip us) λ _=>none) s1) :
  Inv (ya CX P w K mg base N qual scope f cd A outer s H E) [] (start N vs) H s1:=by
 have hpl:ps.length<=N.length:=by have:=congrArg List.length S.pre; rw [No] at this; omega
 obtain ⟨h1,tk,rfl,hk⟩:=x.done;have noA:∀ b:Lz,b∉(ya CX P w K mg base N qual scope f cd A outer s H E).ex:=λ b z=>absurd (show b∈([]:List Lz) from z) (by simp);refine ⟨⟨e0.mod,S.kind,rfl,rfl,Lp _,λ y z c h1 h2=>?_,λ y hy=>?_,λ y c _ h=>?_,λ _=>hd,Around.frames_deeper e0.frames,.inr ⟨rfl,rfl⟩,λ b z=>absurd z (noA b),e0.bs,e0.bsz,λ b _ _=>noA b,λ b z=>absurd z (noA b),e0.funs,e0.frf⟩,rfl,e0.bare,Un.kept hk,⟨_,x.toInCall.ns,λ i y v h1 h2 h3=>?_⟩,λ y c h=>⟨_,x.cell y c h⟩,e0.hok.fresh (Lp _),λ y c h=>?_,λ p hp=>absurd (show p∈([]:List (Lz×Obj)) from hp) (by simp),e0.hok.kept hk,?_⟩
 ·exact name_of_addr x.apart (PySem.mem_of_lookup h1) (PySem.mem_of_lookup h2)
 ·have hy:scope.names.lookup y=some .cell\/scope.names.lookup y=some .free:=hy;rcases hy with hy | hy
  ·exact yg hy
  ·exact absurd rfl (S.nofree _ (PySem.mem_of_lookup hy))
 ·exact Nat.le_of_lt (x.above y c (PySem.mem_of_lookup h))
 ·have hi:i < vs.length:=by
   unfold start at h2;by_cases hi:i < vs.length
   ·exact hi
   ·rw [Lx (by simpa using hi)] at h2;rw [MJ] at h2;split at h2 <;> cases h2
  have ha:vs[i]?=some v:=by
   unfold start at h2;rw [Lw (by simpa using hi),Le] at h2;cases e:vs[i]? with
   | none=>rw [e] at h2; cases h2
   | some a=>rw [e] at h2; cases h2; rfl
  obtain ⟨u,hu,rv⟩:=r.get ha;have hp:ps[i]?=some y:=by
   rw [<- S.pre,List.getElem?_take_of_lt (by omega)]; exact h1
  have ndP:ps.Nodup:=by rw [<- S.pre]; exact S.nd.sublist (List.take_sublist _ _)
  refine ⟨u,rv,?_⟩;rcases S.par y (LG hp) with k | k
  ·exact .inl ⟨k,vg ndP hp hu k⟩
  ·obtain ⟨c,e⟩:=yg (n:=s.heap.objs.size+1) k;refine .inr ⟨.inl k,c,e,?_⟩;have q:=x.cell y c e;rw [vi ndP hp hu (by show scope.names.lookup y≠_; rw [k]; decide)] at q;exact q
 ·exact e0.hok.fresh (Nat.le_of_lt (x.above y c (PySem.mem_of_lookup h)))
 ·unfold start;show _=N.length;rw [Lm,K7,MN];omega
theorem I0 {CX:CXT} {P:LM} {w:World} {K:K6} {mg:Str->Option Lf} {base:Heap} {k:Nat} {f:Lz} {name qual:Str} {params:Arguments} {body:List Stmt} {scope:Scope} {dV kV doc pm cdv ct oc:Lf} {an od:Option Lz}
  {osl:Array (Option Lf)} {N ps:List Str} {sp:Sp} (lk:K.lookup f=some ⟨oc,od,.func (M8 name qual params body scope dV kV doc pm an cdv ct),osl⟩) (hcd:PySem.W.codeIn K cdv qual=true) (S:aL N ps scope)
  (len:∀ vs H Q E,sp vs H Q E->vs.length=ps.length)
  (hbody:∀ (A:Mb) (outer:List Env) (s:Lh) (H:Hp) (vs:List V) (Q:VK) (E:XK),Room k (A.deeper (envOfC qual scope s.heap.objs.size f cdv))->sp vs H Q E ->
   ∃ t,PSs (ya CX P w K mg base N qual scope f cdv A outer s H E) body t/\t { nx:=λ _ H'=>Q .non H',rt:=Q } (start N vs) H) :
  FnOk P w K mg base CX (k+1) f (M8 name qual params body scope dV kV doc pm an cdv ct) ps sp:=by
 refine ⟨len,λ A outer s H args us vs Q E hr e0 hb r hsp=>?_⟩;have hl:=len _ _ _ _ hsp;have KX:K.In s.heap:=e0.mod.kin.keeps λ b o e=>(e0.bs b o e).1;have lim:s.heap.NoLimit:=e0.mod.nolimit.keeps λ b o e=>(e0.bs b o e).1;have hkind:∀ y∈ps.zip us,scope.names.lookup y.1=some .local\/(scope.names.lookup y.1=some .cell/\((cellsFrom (s.heap.objs.size+1) scope.names []).lookup y.1).isSome=true):=λ ⟨n,v⟩ hy=>by
  rcases S.par n (List.of_mem_zip hy).1 with q | q
  ·exact .inl q
  ·exact .inr ⟨q,PySem.W.cellsFrom_some _ _ _ (.inl q)⟩
 refine codeAny_call_function hr.depth (KX _ _ lk) rfl S.co S.gen rfl (PySem.W.codeRec_of KX hcd) (hb _ _ _ _ ?_);refine wpAny_newFunctionEnv_cells S.kind hkind λ env he s1 x=>?_;subst he;refine ⟨lim.keeps x.toInCall.keep,codeAny_func ?_⟩;obtain ⟨t,ht,hq⟩:=hbody A outer s H vs Q E (hr.deeper _) hsp;have I:Inv (ya CX P w K mg base N qual scope f cdv A outer s H E) [] (start N vs) H s1:=Br S hr.hd e0 hl r x;refine wpAny_mono (ht [] s1 (start N vs) H _ I hq) (λ fl s' hs=>?_) λ e s' hs=>hs;have fin:∀ {σ':St} {H':Hp} {v:V} {u:Lf},Inv (ya CX P w K mg base N qual scope f cdv A outer s H E) [] σ' H' s'->RelV v u->Q v H'->CE outer P w H s Q u s' :=
  λ {σ' H' v u} J rv q=>⟨v,H',J.os,J.bare,J.base,J.hok,rv,q⟩
 cases fl with
 | ret u =>
  obtain ⟨v,σ',H',J,rv,q⟩:=hs;exact fin J rv q
 | next =>
  obtain ⟨σ',H',J,q⟩:=hs;exact fin (v:=V.non) (u:=Value.none) J rfl q
 | brk =>
  obtain ⟨_,_,_,q⟩:=hs;exact False.elim q
 | cont =>
  obtain ⟨_,_,_,q⟩:=hs;exact False.elim q
section
variable {X:Cx} {x:Str} {p pos:Pos} {e:Expr} {es:List Expr} {t:TA} {id T:String} {r:List V->Hp->VK->Prop}
noncomputable def tCB (r:List V->Hp->VK->Prop) (t:TA):TE:=λ σ H Q=>t σ H λ vs H1=>r vs H1 Q
theorem Cu (hc:CallR X (.builtin id) r) (hg:Gl X x) (hm:X.mg x=none) (hv:bootBuiltins x=some (.builtin id)) (ha:PA X (e::es) t) (hn:x ≠ "__name__" := by decide) (hdb:(x==("__debug__" : Str))=false:=by decide)
  (he:Lj (e::es) X.env=(false,eval e X.env)::Lj es X.env:=by rfl) (hpl:(backTo pos (Lj es X.env)).any (·.1)=false:=by rfl):PE X (.Call (.Name x p) (e::es) [] pos) (tCB r t):=by
 intro pins s σ H Q I h;refine wpAny_Call_Name_kw (nh I hg hm hv ?_ hn hdb);exact PyProof.Rows.callWith_builtin1 (thn (ha pos pins s σ H _ I h) λ us s1 ⟨vs,H1,I1,r1,q1⟩=>hc pins s1 σ H1 vs us Q I1 r1 q1) he hpl
theorem A9 (hc:CallR X (.type T) r) (hg:Gl X x) (hm:X.mg x=none) (hv:bootBuiltins x=some (.type T)) (ha:PA X (e::es) t) (hn:x ≠ "__name__" := by decide) (hdb:(x==("__debug__" : Str))=false:=by decide)
  (he:Lj (e::es) X.env=(false,eval e X.env)::Lj es X.env:=by rfl) (hpl:(backTo pos (Lj es X.env)).any (·.1)=false:=by rfl):PE X (.Call (.Name x p) (e::es) [] pos) (tCB r t):=by
 intro pins s σ H Q I h;refine wpAny_Call_Name_kw (nh I hg hm hv ?_ hn hdb);exact PyProof.Rows.callWith_type1 (thn (ha pos pins s σ H _ I h) λ us s1 ⟨vs,H1,I1,r1,q1⟩=>hc pins s1 σ H1 vs us Q I1 r1 q1) he hpl
end
end L2
namespace HT
open PySem PyProof.Rows
section
open PySem.SeqAt
open PySem.AutoSeq1 (wpAny_loadPart')
open PySem.MeetsSeq PySem.MeetsSeq2 PySem.MeetsSeq3
end
section
variable {prog:LM} {w:World} {A:Mb} {E:Lf->Lh->Prop} {s:Lh}
theorem cat_tup {t b:Lz} {vs ws:List Lf} {Q:Lf->Lh->Prop} (ht:IsTup s.heap t vs.toArray) (hb:IsTup s.heap b ws.toArray) (hv:vs≠[])
  (h1:ws=[]->Q (.ref t) s) (h2:ws≠[]->Q (.ref s.heap.objs.size) { s with heap:=s.heap.push { cls:=.type "tuple", data:=.seq (vs++ws).toArray } })
  (hsz:vs.length+ws.length<=Li):L1 (L6 prog w) A (binaryOp .Add (.ref t) (.ref b)) Q E s:=by
 obtain ⟨⟨cls,dd,data,sl⟩,ho,hc,n,hd⟩:=id ht;obtain ⟨⟨cls2,dd2,data2,sl2⟩,ho2,hc2,n2,hd2⟩:=id hb;simp only at hc hd hc2 hd2;subst hc hd hc2 hd2;have e:vs.toArray++ws.toArray=(vs++ws).toArray:=by simp
 by_cases hw:ws=[]
 ·exact concat_meets ⟨_,ho,rfl⟩ ⟨_,ho2,rfl⟩ noFill_tuple_add seq_tuple_add PySem.F.slot_tuple_add PySem.F.entry_tuple_add (PySem.F.args_tuple_add_2 _ _)
   (tuple_addW1 t b vs.toArray ws.toArray n n2 dd dd2 sl sl2 (by simpa using hv) (by simp [hw])) ⟨ho,ho2,h1 hw⟩
 ·refine concat_meets ⟨_,ho,rfl⟩ ⟨_,ho2,rfl⟩ noFill_tuple_add seq_tuple_add PySem.F.slot_tuple_add PySem.F.entry_tuple_add (PySem.F.args_tuple_add_2 _ _)
   (tuple_addW2 t b vs.toArray ws.toArray n n2 dd dd2 sl sl2 (by simpa using hv) (by simpa using hw) (by rw [Ls,Ls]; exact hsz)) ⟨ho,ho2,?_⟩
  rw [e];exact h2 hw
noncomputable def sIx (n d:Nat):Option Int->Nat
 | none=>d
 | some v=>if v < 0 then (v+(n:Int)).toNat else min v.toNat n
theorem Gp (n d:Nat) (hd:d<=n) (o:Option Int):sIx n d o<=n:=by
 cases o with
 | none=>exact hd
 | some v =>
  show (if v < 0 then (v+(n:Int)).toNat else min v.toNat n)<=n;by_cases hv:v < 0
  ·rw [if_pos hv]; omega
  ·rw [if_neg hv]; exact Nat.min_le_right _ _
theorem AJ (v:Int) (n d:Nat):(if v < 0 then max (v+(n:Int)) 0 else min v (n:Int))=((sIx n d (some v):Nat):Int):=by
 show (if v < 0 then max (v+(n:Int)) 0 else min v (n:Int))=(((if v < 0 then (v+(n:Int)).toNat else min v.toNat n):Nat):Int);by_cases hv:v < 0
 ·simp only [if_pos hv]; omega
 ·simp only [if_neg hv]; omega
theorem zt (lo hi:Option Int) (n:Nat):Builtin.Slice.sliceAdjust lo hi 1 (n:Int)=(((sIx n 0 lo:Nat):Int),((sIx n n hi:Nat):Int)):=by
 have h1:¬ ((1:Int) < 0):=by omega
 unfold Builtin.Slice.sliceAdjust;simp only [h1,if_false];refine Prod.ext ?_ ?_
 ·cases lo with
  | none=>rfl
  | some v=>exact AJ v n 0
 ·cases hi with
  | none=>rfl
  | some v=>exact AJ v n n
theorem yU (i j:Nat):Builtin.Slice.slicePlaces (i:Int) (j:Int) 1=j - i:=by
 unfold Builtin.Slice.slicePlaces;have h1:(1:Int) > 0:=by omega
 simp only [h1,if_true,Int.ediv_one]
 split <;> omega
theorem sC {v:Lf} {o:Option Int} {Q:Option Int->Lh->Prop} (p:IsPart v o) (h:Q o s):L1 (L6 prog w) A (Builtin.Slice.slicePartIndex v) Q E s:=by
 cases p with
 | none=>exact slicePart_none h
 | int i t=>exact slicePart_int h
theorem sliceApplied_gen {sl:Lz} {vl vu:Lf} {lo hi:Option Int} {n:Nat} {Q:Int×Int×Nat->Lh->Prop} (hs:s.heap.IsSliceOf sl vl vu .none) (pl:IsPart vl lo) (pu:IsPart vu hi)
  (h:Q (((sIx n 0 lo:Nat):Int),1,sIx n n hi - sIx n 0 lo) s):L1 (L6 prog w) A (Builtin.Slice.sliceApplied (.ref sl) (pure (n:Int))) Q E s:=by
 obtain ⟨os,hos,hcs,hds⟩:=id hs;unfold Builtin.Slice.sliceApplied Builtin.Slice.sliceFields;refine Lo (Lo (wpAny_field hos hds (x:=vl) rfl (Lo (wpAny_field hos hds (x:=vu) rfl (Lo (wpAny_field hos hds (x:=.none) rfl (LH ?_)))))));refine Lo (slicePart_none ?_);show L1 _ _ (if ((1:Int)==0)=true then _ else _) _ _ s;rw [if_neg (by decide)];refine Lo (sC pl (Lo (sC pu (Lo (LH ?_)))));show L1 _ _ (match Builtin.Slice.sliceAdjust lo hi 1 (n:Int) with | (lo,hi)=>pure (lo,(1:Int),Builtin.Slice.slicePlaces lo hi 1)) _ _ s;rw [zt lo hi n];show L1 _ _ (pure (((sIx n 0 lo:Nat):Int),(1:Int),Builtin.Slice.slicePlaces ((sIx n 0 lo:Nat):Int) ((sIx n n hi:Nat):Int) 1)) _ _ s;rw [yU];exact LH h
theorem Ci (xs:Array Lf) (i k:Nat):((List.range k).filterMap λ (m:Nat)=>xs[((i:Int)+(m:Int)*1).toNat]?).toArray=((xs.toList.drop i).take k).toArray:=by
 have e:(λ (m:Nat)=>xs[((i:Int)+(m:Int)*1).toNat]?)=λ m=>xs[i+m]?:=by
  funext m
  have:((i:Int)+(m:Int)*1).toNat=i+m:=by omega
  rw [this]
 rw [e]
 have:=pick_run xs i k
 rw [List.filterMap_map] at this;have e2:((λ x=>xs[x]?)∘λ x=>i+x)=λ m=>xs[i+m]?:=rfl;rw [e2] at this;rw [this]
theorem getItem_tuple_cut {t sl:Lz} {items:Array Lf} {vl vu:Lf} {lo hi:Option Int} {Q:Lf->Lh->Prop} (ht:IsTup s.heap t items) (hs:s.heap.IsSliceOf sl vl vu .none) (pl:IsPart vl lo) (pu:IsPart vu hi)
  (hw:¬ (sIx items.size 0 lo=0/\sIx items.size items.size hi=items.size))
  (h:Q (.ref s.heap.objs.size) { s with heap:=s.heap.push { cls:=.type "tuple", data:=.seq ((items.toList.drop (sIx items.size 0 lo)).take (sIx items.size items.size hi - sIx items.size 0 lo)).toArray } })
  (hsz:items.size<=Li):L1 (L6 prog w) A (getItem (.ref t) (.ref sl)) Q E s:=by
 have htake:sizeOk (.seq ((items.toList.drop (sIx items.size 0 lo)).take (sIx items.size items.size hi - sIx items.size 0 lo)).toArray):=by
  show ((items.toList.drop (sIx items.size 0 lo)).take (sIx items.size items.size hi - sIx items.size 0 lo)).toArray.size<=Li;rw [Ls,No,List.length_drop,Array.length_toList];omega
 have hj:sIx items.size items.size hi<=items.size:=Gp _ _ (Lp _) hi;obtain ⟨os,hos,hcs,hds⟩:=id hs;have hTs:s.TypeIs (.ref sl) "slice" := ⟨os,hos,hcs⟩;unfold getItem
 try with_reducible refine wpAny_holding ?_
 first | refine Lo (LH ?_) | skip
 refine Lo (wpAny_sequenceKey ht.typeIs (by decide) ?_);refine Lo (wpAny_callSpecial?_slot (name:=Str.ofString "__getitem__") ht.typeIs PyProof.Rows.slot_tuple_getitem
  (wpAny_call_entry PyProof.Rows.slot_tuple_getitem ht.typeIs entry_tuple_getitem ?_ (args_tuple_getitem _ _)))
 show L1 _ _ (Builtin.Tuple.tupleItemsOf (.ref t) >>= _) _ _ s;refine Lo (tupleItemsOf_ ht ?_);refine Lo (wpAny_typeOf hTs ?_);rw [if_pos (by decide)];refine Lo (sliceApplied_gen hs pl pu ?_);have hno:¬ ((((sIx items.size 0 lo:Nat):Int)==0&&(1:Int)==1&&(sIx items.size items.size hi - sIx items.size 0 lo)==items.size)=true):=by
  intro q;rw [L4,L4] at q;have q1:((sIx items.size 0 lo:Nat):Int)=0:=eq_of_beq q.1.1;have q2:sIx items.size items.size hi - sIx items.size 0 lo=items.size:=eq_of_beq q.2;exact hw ⟨by omega,by omega⟩
 show L1 _ _ (if (((sIx items.size 0 lo:Nat):Int)==0&&(1:Int)==1&&(sIx items.size items.size hi - sIx items.size 0 lo)==items.size)=true then _ else _) _ _ s;rw [if_neg hno,Ci]
 first
  | exact Lo (m:=Builtin.Tuple.tupleExact _) (wpAny_newObj_type (LH ⟨_,rfl,LH h⟩) htake)
  | exact Lo (m:=Builtin.Tuple.tupleExact _) (wpAny_newObj_type (Lo (LH (LH ⟨_,rfl,LH h⟩))) htake)
  | exact Lo (Lo (m:=Builtin.Tuple.tupleExact _) (wpAny_newObj_type (LH (LH ⟨_,rfl,LH h⟩)) htake))
  | exact Lo (Lo (m:=Builtin.Tuple.tupleExact _) (wpAny_newObj_type (LH ⟨_,rfl,LH h⟩) htake))
end
end HT
namespace L2
open PySem PySem.Spec PyProof.Rows
noncomputable abbrev TO:=St->Hp->(Option Int->Hp->Prop)->Prop
noncomputable def PO (X:Cx) (e:Option Expr) (t:TO):Prop :=
 ∀ (pins:List (Lz×Obj)) (s:Lh) (σ:St) (H:Hp) (Q:Option Int->Hp->Prop),Inv X pins σ H s->t σ H Q ->
  L1 (L6 X.prog X.w) X.A (evalPart e X.env) (λ u s'=>∃ o H',Inv X pins σ H' s'/\IsPart u o/\Q o H') X.xe s
noncomputable def Ec:TO:=λ _ H Q=>Q none H
noncomputable def HY (t:TE):TO:=λ σ H Q=>t σ H λ x H1=>∃ i,x=.int i/\Q (some i) H1
theorem zc {ns:List Int}:∀ {us:List Lf},Vals (ns.map V.int) us->IntsAre us ns:=by
 induction ns with
 | nil=>intro us r; rw [M5] at r; cases r; exact .nil
 | cons n ns ih =>
  intro us r;rw [Ln] at r;cases r with
  | cons r1 r2 =>
   obtain ⟨t,e⟩:=r1;subst e;exact .cons n t (ih r2)
section
variable {X:Cx} {e:Expr} {te:TE} {lo hi:Option Expr} {tl th:TO} {pos p2:Pos}
theorem Ez:PO X none Ec:=by
 intro pins s σ H Q I h;rw [evalPart_none];exact LH ⟨none,H,I,.none,h⟩
theorem Ey (h:PE X e te):PO X (some e) (HY te):=by
 intro pins s σ H Q I hw;rw [evalPart_some];refine thn (h pins s σ H _ I hw) λ u s1 ⟨x,H1,I1,r1,q1⟩=>?_;obtain ⟨i,rfl,q⟩:=q1;obtain ⟨t,rfl⟩:=r1;exact ⟨some i,H1,I1,.int i t,q⟩
noncomputable def SlR (X:Cx) (r:V->Option Int->Option Int->Hp->VK->Prop):Prop :=
 ∀ (pins:List (Lz×Obj)) (s:Lh) (σ:St) (H:Hp) (x:V) (v vl vu:Lf) (lo hi:Option Int) (sl:Lz) (Q:VK),Inv X pins σ H s->RelV x v->s.heap.IsSliceOf sl vl vu .none->IsPart vl lo->IsPart vu hi->r x lo hi H Q ->
  ∃ T id,typeLookup (.type T) "__getitem__" = pure (some (.builtin id))/\s.TypeIs v T/\L1 (L6 X.prog X.w) X.A (getItem v (.ref sl)) (EP X pins σ Q) X.xe s
theorem SlR.or {r r':V->Option Int->Option Int->Hp->VK->Prop} (h:SlR X r) (h':SlR X r'):SlR X (λ x lo hi H Q=>r x lo hi H Q\/r' x lo hi H Q):=by
 intro pins s σ H x v vl vu lo hi sl Q I rx hs pl pu q;rcases q with q | q
 ·exact h pins s σ H x v vl vu lo hi sl Q I rx hs pl pu q
 ·exact h' pins s σ H x v vl vu lo hi sl Q I rx hs pl pu q
noncomputable def tSl (r:V->Option Int->Option Int->Hp->VK->Prop) (te:TE) (tl th:TO):TE:=λ σ H Q=>te σ H λ x H1=>tl σ H1 λ l H2=>th σ H2 λ u H3=>r x l u H3 Q
theorem Cn {r:V->Option Int->Option Int->Hp->VK->Prop} (hr:SlR X r) (he:PE X e te) (hl:PO X lo tl) (hu:PO X hi th):PE X (.Subscript e (.Slice lo hi none p2) pos) (tSl r te tl th):=by
 intro pins s σ H Q I h;refine Subscript_ (thn (he pins s σ H _ I h) λ v s1 ⟨x,H1,I1,r1,q1⟩=>?_);refine wpAny_Slice (thn (hl pins s1 σ H1 _ I1 q1) λ vl s2 ⟨l,H2,I2,pl,q2⟩=>thn (hu pins s2 σ H2 _ I2 q2) λ vu s3 ⟨u,H3,I3,pu,q3⟩=>?_);rw [evalPart_none];refine LH ?_;have I4:Inv X pins σ H3 { s3 with heap:=s3.heap.push { cls:=.type "slice", data:=.fields #[vl,vu,.none] } }:=I3.kept (t':=s3.toks) λ b ob q=>Lg _ q;obtain ⟨T,id,hT,ht,hg⟩:=hr pins { s3 with heap:=s3.heap.push { cls:=.type "slice", data:=.fields #[vl,vu,.none] } } σ H3 x v vl vu l u s3.heap.objs.size Q I4 r1 (Heap.IsSliceOf.new ..) pl pu q3;show L1 (L6 X.prog X.w) X.A (subscriptTail e (.Slice lo hi none p2) v (.ref s3.heap.objs.size)) (EP X pins σ Q) X.xe { s3 with heap:=s3.heap.push { cls:=.type "slice", data:=.fields #[vl,vu,.none] } };exact tail_any (ops:=[.ref s3.heap.objs.size,v]) ht hT hg (by with_unfolding_all rfl)
noncomputable def rQ (xs:List V) (lo hi:Option Int):List V:=(xs.drop (HT.sIx xs.length 0 lo)).take (HT.sIx xs.length xs.length hi - HT.sIx xs.length 0 lo)
theorem rh (xs:List V) (lo hi:Option Int):(rQ xs lo hi).length<=xs.length:=by
 unfold rQ;rw [No,List.length_drop];omega
noncomputable def Ip (K:K6):V->Option Int->Option Int->Hp->VK->Prop:=λ x lo hi H Q=>∃ a xs,x=.ref a/\SqT K H a xs /\
 ¬ (HT.sIx xs.length 0 lo=0/\HT.sIx xs.length xs.length hi=xs.length)/\∀ p,H p=none->Q (.ref p) (upd H p (.tup (rQ xs lo hi)))
theorem sl_tup:SlR X (Ip X.K):=by
 intro pins s σ H x v vl vu lo hi sl Q I rx hs pl pu h;obtain ⟨a,xs,rfl,hx,hw,q⟩:=h;cases rx;obtain ⟨its,r,ht,hz⟩:=I.tuple hx;have hlen:its.toArray.size=xs.length:=by rw [Ls]; exact r.length.symm
 refine ⟨"tuple", _,PyProof.Rows.slot_tuple_getitem.lookup,ht.typeIs,?_⟩;refine HT.getItem_tuple_cut ht hs pl pu (by rw [hlen]; exact hw) ?_ (by rw [hlen]; exact hz);rw [hlen];refine ⟨.ref s.heap.objs.size,_,I.laid (t':=s.toks) (o:=.tup (rQ xs lo hi)) (λ b ob q=>Lg _ q) (Lp _) ?_,rfl,q _ (I.hok.fresh (Lp _))⟩;exact ⟨LS (rh xs lo hi) hz,_,(r.drop (HT.sIx xs.length 0 lo)).take (HT.sIx xs.length xs.length hi - HT.sIx xs.length 0 lo),IsTup.new _ _⟩
theorem Vals.nil_iff {xs:List V} {us:List Lf} (r:Vals xs us):us=[]↔xs=[]:=by
 cases r with
 | nil=>simp
 | cons _ _=>simp
end
noncomputable def ixN (n:Nat) (i:Int):Option Nat:=if 0<=i then (if i < n then some i.toNat else none) else if -(n:Int)<=i then some (i+n).toNat else none
noncomputable def atI {α:Type} (xs:List α) (i:Int):Option α:=(ixN xs.length i).bind λ j=>xs[j]?
theorem Fd {n:Nat} {i:Int} {j:Nat} (h:ixN n i=some j):seqIndex? i n=some j/\j < n/\-(n:Int)<=i/\i < n:=by
 unfold ixN at h;by_cases h0:0<=i
 ·rw [if_pos h0] at h;by_cases h1:i < n
  ·rw [if_pos h1] at h;have e:i.toNat=j:=Option.some.inj h;exact ⟨by rw [seqIndex_of h0 h1,e],by omega,by omega,h1⟩
  ·rw [if_neg h1] at h; cases h
 ·rw [if_neg h0] at h;by_cases h1:-(n:Int)<=i
  ·rw [if_pos h1] at h;have e:(i+n).toNat=j:=Option.some.inj h;exact ⟨by rw [seqIndex_neg (by omega) h1,e],by omega,h1,by omega⟩
  ·rw [if_neg h1] at h; cases h
theorem wG {α:Type} {xs:List α} {i:Int} {v:α} (h:atI xs i=some v):∃ j,seqIndex? i xs.length=some j/\xs[j]?=some v/\j < xs.length/\-(xs.length:Int)<=i/\i < xs.length:=by
 unfold atI at h;cases e:ixN xs.length i with
 | none=>rw [e] at h; cases h
 | some j =>
  rw [e] at h;obtain ⟨h1,h2,h3,h4⟩:=Fd e;exact ⟨j,h1,h,h2,h3,h4⟩
theorem n8 {α:Type} {xs:List α} {j:Nat} {v:α} (h:xs[j]?=some v):atI xs (j:Int)=some v:=by
 have hj:j < xs.length:=(Lb.mp h).1;have e:ixN xs.length (j:Int)=some j:=by
  unfold ixN;rw [if_pos (by omega),if_pos (by omega)]; simp
 unfold atI; rw [e]; exact h
noncomputable def wI (b:Expr):Prop:=∀ o i,subscripted b false o i=operate [o,i] (getItem o i)
noncomputable def IxR (X:Cx) (r:R2):Prop :=
 ∀ (value slice:Expr) (pins:List (Lz×Obj)) (s:Lh) (σ:St) (H:Hp) (x y:V) (v u:Lf) (Q:VK),Inv X pins σ H s->RelV x v->RelV y u->r x y H Q ->
  subscripted slice false v u=operate [v,u] (getItem v u)->L1 (L6 X.prog X.w) X.A (subscriptTail value slice v u) (EP X pins σ Q) X.xe s
noncomputable def MtR (X:Cx) (id:String) (r:V->List V->Hp->VK->Prop):Prop :=
 ∀ (pins:List (Lz×Obj)) (s:Lh) (σ:St) (H:Hp) (x:V) (xs:List V) (v:Lf) (us:List Lf) (Q:VK),Inv X pins σ H s->RelV x v->Vals xs us->r x xs H Q ->
  L1 (L6 X.prog X.w) X.A (call (.builtin id) (v::us)) (EP X pins σ Q) X.xe s
section
variable {X:Cx} {a b:Expr} {ta tb:TE} {pos:Pos}
theorem IxR.or {r r':R2} (h:IxR X r) (h':IxR X r'):IxR X (λ x y H Q=>r x y H Q\/r' x y H Q):=by
 intro value slice pins s σ H x y v u Q I rx ry q hs;rcases q with q | q
 ·exact h value slice pins s σ H x y v u Q I rx ry q hs
 ·exact h' value slice pins s σ H x y v u Q I rx ry q hs
theorem IE {r:R2} (hr:IxR X r) (ha:PE X a ta) (hb:PE X b tb) (hs:wI b):PE X (.Subscript a b pos) (tOp r ta tb):=by
 intro pins s σ H Q I h;exact Subscript_ (Hx ha hb I h λ v u s2 x y H2 I2 rx ry q=>hr a b pins s2 σ H2 x y v u Q I2 rx ry q (hs _ _))
noncomputable def Iy (K:K6):R2:=λ x y H Q=>∃ p xs i v,x=.ref p/\y=.int i/\SqL K H p xs/\atI xs i=some v/\Q v H
noncomputable def Iv (K:K6):R2:=λ x y H Q=>∃ p xs i v,x=.ref p/\y=.int i/\SqT K H p xs/\atI xs i=some v/\Q v H
noncomputable def Iw:R2:=λ x y H Q=>∃ z i c,x=.str z/\y=.int i/\z.length<=Li/\atI z.cps.toList i=some c/\Q (.str ⟨#[c]⟩) H
theorem ix_list:IxR X (Iy X.K):=by
 intro value slice pins s σ H x y v u Q I rx ry h hs;obtain ⟨p,xs,i,z,rfl,rfl,hq,he,q⟩:=h;cases rx;obtain ⟨t,rfl⟩:=ry;obtain ⟨its,r,pl,hz⟩:=I.list hq;obtain ⟨j,h1,h2,h3,h4,h5⟩:=wG he;obtain ⟨w,ew,rw'⟩:=r.get h2;have hl:=r.length;have hn:=qC;have fin:EP X pins σ Q w s:=⟨z,H,I,rw',q⟩;by_cases h0:0<=i
 ·have hj:i.toNat=j:=by
   rw [seqIndex_of h0 h5] at h1;exact Option.some.inj h1
  exact item_listR pl.isList h0 (by omega) (by rw [hj]; simpa using ew) fin hs
 ·have hj:(i+(its.toArray.size:Int)).toNat=j:=by
   rw [seqIndex_neg (by omega) h4] at h1;rw [Ls,<- hl];exact Option.some.inj h1
  exact subscriptTail_builtinR (x:=w) pl.isList.typeIs slot_list_getitem.lookup
   (wpAny_getItem_list_neg (Q:=λ r s'=>r=w/\EP X pins σ Q r s') pl.isList (by omega) (by rw [Ls] <;> omega) (by omega) (by rw [hj]; simpa using ew) ⟨rfl,fin⟩) hs
theorem ix_tup:IxR X (Iv X.K):=by
 intro value slice pins s σ H x y v u Q I rx ry h hs;obtain ⟨p,xs,i,z,rfl,rfl,hq,he,q⟩:=h;cases rx;obtain ⟨t,rfl⟩:=ry;obtain ⟨its,r,pl,hz⟩:=I.tuple hq;obtain ⟨j,h1,h2,h3,h4,h5⟩:=wG he;obtain ⟨w,ew,rw'⟩:=r.get h2;have hl:=r.length;have hn:=qC;have fin:EP X pins σ Q w s:=⟨z,H,I,rw',q⟩;exact subscriptTail_builtinR (x:=w) pl.typeIs slot_tuple_getitem.lookup
  (getItem_tuple (j:=j) (Q:=λ r s'=>r=w/\EP X pins σ Q r s') pl (by omega) (by omega) (by rw [Ls,<- hl]; exact h1) (by simpa using ew) ⟨rfl,fin⟩) hs
theorem Hd:IxR X Iw:=by
 intro value slice pins s σ H x y v u Q I rx ry h hs;obtain ⟨z,i,c,rfl,rfl,hz,he,q⟩:=h;obtain ⟨t,rfl⟩:=rx;obtain ⟨t',rfl⟩:=ry;obtain ⟨j,h1,h2,h3,h4,h5⟩:=wG he;have hl:z.cps.toList.length=z.length:=by simp [Str.length]
 rw [hl] at h1 h4 h5;have hn:=qC;exact tail_any (typeIs_str s z t) slot_str_getitem.lookup (getItem_str (c:=c) (by
  have e1:decide (i < -(2 ^ 63:Int))=false:=decide_eq_false (by omega);have e2:decide (i ≥ 2 ^ 63)=false:=decide_eq_false (by omega);rw [e1,e2,Bool.or_false]) (by rw [h1]; simpa using h2) ⟨.str ⟨#[c]⟩,H,I.tok _,⟨_,rfl⟩,q⟩) hs
noncomputable def rIx (K:K6):R2:=λ x y H Q=>Iy K x y H Q\/Iv K x y H Q\/Iw x y H Q
theorem Hf:IxR X (rIx X.K):=ix_list.or (ix_tup.or Hd)
theorem vF (lo hi:Option Int) (n:Nat):(sliceBounds lo hi none n).1=((HT.sIx n 0 lo:Nat):Int)/\(sliceBounds lo hi none n).2.1=((HT.sIx n n hi:Nat):Int)/\(sliceBounds lo hi none n).2.2=1:=by
 refine ⟨?_,?_,rfl⟩
 ·cases lo with
  | none=>simp [sliceBounds,HT.sIx]
  | some i =>
   simp only [sliceBounds,HT.sIx,Option.getD_none,show (1:Int) > 0 by decide,if_true];by_cases h:i < 0
   ·simp only [h,if_true] <;> omega
   ·simp only [h,if_false] <;> omega
 ·cases hi with
  | none=>simp [sliceBounds,HT.sIx]
  | some i =>
   simp only [sliceBounds,HT.sIx,Option.getD_none,show (1:Int) > 0 by decide,if_true];by_cases h:i < 0
   ·simp only [h,if_true] <;> omega
   ·simp only [h,if_false] <;> omega
theorem uk (its:List Lf) (lo hi:Option Int):slicePick its.toArray lo hi none=((its.drop (HT.sIx its.length 0 lo)).take (HT.sIx its.length its.length hi - HT.sIx its.length 0 lo)).toArray:=by
 obtain ⟨h1,h2,h3⟩:=vF lo hi its.toArray.size;unfold slicePick;rw [h1,h2,h3];simp only [sliceRange_one,pick_run,Ls] <;> rfl
noncomputable def Iq (K:K6):V->Option Int->Option Int->Hp->VK->Prop:=λ x lo hi H Q=>∃ a xs,x=.ref a/\SqL K H a xs/\∀ p,H p=none->Q (.ref p) (upd H p (.lst (rQ xs lo hi)))
theorem sl_list:SlR X (Iq X.K):=by
 intro pins s σ H x v vl vu lo hi sl Q I rx hs pl pu h;obtain ⟨a,xs,rfl,hx,q⟩:=h;cases rx;obtain ⟨its,r,ht,hz⟩:=I.list hx;have hlen:=r.length;refine ⟨"list", _,slot_list_getitem.lookup,ht.isList.typeIs,?_⟩;refine wpAny_getItem_list_slice ht.isList hs pl pu .none (by simp) ?_ (by rw [Ls] <;> omega);rw [uk,<- hlen];refine ⟨.ref s.heap.objs.size,_,I.laid (t':=s.toks) (o:=.lst (rQ xs lo hi)) (λ b ob q=>Lg _ q) (Lp _) ?_,rfl,q _ (I.hok.fresh (Lp _))⟩;exact ⟨LS (rh xs lo hi) hz,_,0,(r.drop (HT.sIx xs.length 0 lo)).take (HT.sIx xs.length xs.length hi - HT.sIx xs.length 0 lo),LL _ rfl⟩
noncomputable def oN:V->Bool
 | .non=>true
 | .bl _=>true
 | .int _=>true
 | .str _=>true
 | _=>false
noncomputable def eqV:V->V->Bool
 | .non,.non=>true
 | .bl a,.bl b=>a==b
 | .bl a,.int b=>(if a then 1 else 0)==b
 | .int a,.bl b=>a==(if b then 1 else 0)
 | .int a,.int b=>a==b
 | .str a,.str b=>a==b
 | _,_=>false
theorem Ho {A:Mb} {s:Lh} {y x:V} {u v:Lf} (ry:RelV y u) (rx:RelV x v) (fy:oN y=true) (fx:oN x=true):SeqAt.EqAt A s u v (eqV y x):=by
 cases y with
 | non =>
  cases ry;cases x with
  | non=>cases rx; exact SeqAt.EqAt.same _
  | bl b=>cases rx; exact SeqAt.EqAt.none_bool b
  | int b=>obtain ⟨t,rfl⟩:=rx; exact SeqAt.EqAt.none_int b t
  | str b=>obtain ⟨t,rfl⟩:=rx; exact SeqAt.EqAt.none_str b t
  | _=>exact absurd (show false=true from fx) LB
 | bl a =>
  cases ry;cases x with
  | non=>cases rx; exact SeqAt.EqAt.bool_none a
  | bl b=>cases rx; exact SeqAt.EqAt.bool_bool a b
  | int b=>obtain ⟨t,rfl⟩:=rx; exact SeqAt.EqAt.bool_int a b t
  | str b=>obtain ⟨t,rfl⟩:=rx; exact SeqAt.EqAt.bool_str a b t
  | _=>exact absurd (show false=true from fx) LB
 | int a =>
  obtain ⟨t',rfl⟩:=ry;cases x with
  | non=>cases rx; exact SeqAt.EqAt.int_none a t'
  | bl b=>cases rx; exact SeqAt.EqAt.int_bool a t' b
  | int b=>obtain ⟨t,rfl⟩:=rx; exact SeqAt.EqAt.int_int a t' b t
  | str b=>obtain ⟨t,rfl⟩:=rx; exact SeqAt.EqAt.int_str a t' b t
  | _=>exact absurd (show false=true from fx) LB
 | str a =>
  obtain ⟨t',rfl⟩:=ry;cases x with
  | non=>cases rx; exact SeqAt.EqAt.str_none a t'
  | bl b=>cases rx; exact SeqAt.EqAt.str_bool a t' b
  | int b=>obtain ⟨t,rfl⟩:=rx; exact SeqAt.EqAt.str_int a t' b t
  | str b=>obtain ⟨t,rfl⟩:=rx; exact SeqAt.EqAt.str_str a t' b t
  | _=>exact absurd (show false=true from fx) LB
 | _=>exact absurd (show false=true from fy) LB
noncomputable def eqU (x:V) (u:Lf):Bool:=match u with
 | .none=>eqV .non x
 | .bool b=>eqV (.bl b) x
 | .int i _=>eqV (.int i) x
 | .str z _=>eqV (.str z) x
 | _=>false
theorem Dq {x y:V} {u:Lf} (r:RelV y u) (f:oN y=true):eqU x u=eqV y x:=by
 cases y with
 | non=>cases r; rfl
 | bl b=>cases r; rfl
 | int i=>obtain ⟨t,rfl⟩:=r; rfl
 | str z=>obtain ⟨t,rfl⟩:=r; rfl
 | _=>exact absurd (show false=true from f) LB
theorem qa {x:V}:∀ {xs:List V} {us:List Lf},Vals xs us->xs.all oN=true->us.any (eqU x)=xs.any λ y=>eqV y x
 | _,_,.nil,_=>rfl
 | y::xs,u::us,.cons r t,f=>by
  rw [MO,L4] at f;rw [Ms,Ms,Dq r f.1,qa t f.2]
theorem mZ {A:Mb} {s:Lh} {x:V} {v:Lf} (rx:RelV x v) (fx:oN x=true):∀ {xs:List V} {us:List Lf},Vals xs us->xs.all oN=true->∀ u∈us,SeqAt.EqAt A s u v (eqU x u)
 | _,_,.nil,_=>λ u hu=>by cases hu
 | y::xs,u::us,.cons r t,f=>λ u' hu=>by
  rw [MO,L4] at f;rcases LA.mp hu with rfl | hu
  ·rw [Dq r f.1]; exact Ho r rx f.1 fx
  ·exact mZ rx fx t f.2 u' hu
noncomputable def inV (x:V) (xs:List V):Bool:=xs.any λ y=>eqV y x
noncomputable def rIn (K:K6) (neg:Bool):R2:=λ x y H Q=>∃ p xs,y=.ref p/\(SqL K H p xs\/SqT K H p xs)/\oN x=true/\xs.all oN=true/\Q (.bl (if neg then !inV x xs else inV x xs)) H
theorem op_in_seq:OpR X (L8 .In) (rIn X.K false):=by
 intro pins s σ H x y v u Q I rx ry h;obtain ⟨p,xs,rfl,hq,fx,fs,q⟩:=h;cases ry;rcases hq with hq | hq
 ·obtain ⟨its,r,pl,hz⟩:=I.list hq;refine SeqAt.in_listAt (eqU x) pl.isList (λ w hw=>mZ rx fx r fs w (by simpa using hw)) ⟨.bl _,H,I,rfl,?_⟩;rw [show its.toArray.any (eqU x)=its.any (eqU x) by simp,qa r fs];exact q
 ·obtain ⟨its,r,pl,hz⟩:=I.tuple hq;refine SeqAt.in_tupleAt (eqU x) pl (λ w hw=>mZ rx fx r fs w (by simpa using hw)) ⟨.bl _,H,I,rfl,?_⟩;rw [show its.toArray.any (eqU x)=its.any (eqU x) by simp,qa r fs];exact q
theorem op_notIn_seq:OpR X (L8 .NotIn) (rIn X.K true):=by
 intro pins s σ H x y v u Q I rx ry h;obtain ⟨p,xs,rfl,hq,fx,fs,q⟩:=h;cases ry;rcases hq with hq | hq
 ·obtain ⟨its,r,pl,hz⟩:=I.list hq;refine SeqAt.notIn_listAt (eqU x) pl.isList (λ w hw=>mZ rx fx r fs w (by simpa using hw)) ⟨.bl _,H,I,rfl,?_⟩;rw [show its.toArray.any (eqU x)=its.any (eqU x) by simp,qa r fs];exact q
 ·obtain ⟨its,r,pl,hz⟩:=I.tuple hq;refine SeqAt.notIn_tupleAt (eqU x) pl (λ w hw=>mZ rx fx r fs w (by simpa using hw)) ⟨.bl _,H,I,rfl,?_⟩;rw [show its.toArray.any (eqU x)=its.any (eqU x) by simp,qa r fs];exact q
theorem vT:OpR X (L8 .NotIn) (λ x y H Q=>∃ i j,x=.str i/\y=.str j/\Q (.bl (!(!(Builtin.Str.occurrences j i 0 j.length 1).isEmpty))) H):=by
 intro pins s σ H x y v u Q I rx ry h;obtain ⟨i,j,rfl,rfl,q⟩:=h;obtain ⟨t,rfl⟩:=rx;obtain ⟨t',rfl⟩:=ry;exact notIn_str ⟨.bl _,H,I,rfl,q⟩
theorem call_len_seq:CallR X (.builtin "len") (λ xs H Q=>∃ p ys,xs=[.ref p]/\(SqL X.K H p ys\/SqT X.K H p ys)/\Q (.int ys.length) H):=by
 intro pins s σ H xs us Q I r h;obtain ⟨p,ys,rfl,hq,q⟩:=h;obtain ⟨u,rfl,rx⟩:=ot r;cases rx;have hn:=qC;rcases hq with hq | hq
 ·obtain ⟨its,r',pl,hz⟩:=I.list hq;have hlen:=r'.length;exact Calls.call_len_list pl.isList (by simp only [Ls] <;> omega) ⟨.int ys.length,H,I.tok _,⟨s.toks+1,by rw [Ls,hlen]⟩,q⟩
 ·obtain ⟨its,r',pl,hz⟩:=I.tuple hq;have hlen:=r'.length;exact len_tuple pl (by simp only [Ls] <;> omega) ⟨.int ys.length,H,I.tok _,⟨s.toks+1,by rw [Ls,hlen]⟩,q⟩
theorem ww:CallR X (.builtin "len") (λ xs H Q=>∃ z,xs=[.str z]/\z.length<=Li/\Q (.int z.length) H):=by
 intro pins s σ H xs us Q I r h;obtain ⟨z,rfl,hz,q⟩:=h;obtain ⟨u,rfl,t,rfl⟩:=ot r;have hn:=qC;exact len_str (by omega) ⟨.int z.length,H,I.tok _,⟨_,rfl⟩,q⟩
theorem CallR.or {f:Lf} {r r':List V->Hp->VK->Prop} (h:CallR X f r) (h':CallR X f r'):CallR X f (λ xs H Q=>r xs H Q\/r' xs H Q):=by
 intro pins s σ H xs us Q I rs q;rcases q with q | q
 ·exact h pins s σ H xs us Q I rs q
 ·exact h' pins s σ H xs us Q I rs q
theorem uC:CallR X (.type "tuple") (λ xs H Q=>∃ p ys,xs=[.ref p]/\((SqL X.K H p ys/\∀ l,H l=none->Q (.ref l) (upd H l (.tup ys)))\/(SqT X.K H p ys/\Q (.ref p) H))):=by
 intro pins s σ H xs us Q I r h;obtain ⟨p,ys,rfl,h⟩:=h;obtain ⟨u,rfl,rx⟩:=ot r;cases rx;rcases h with ⟨hq,q⟩ | ⟨hq,q⟩
 ·obtain ⟨its,r',pl,hz⟩:=I.list hq;have hlen:=r'.length;refine call_tuple_list pl.isList (λ h' kp=>?_) (by simp only [Ls] <;> omega);have I1:Inv X pins σ H { s with heap:=h' }:=I.kept (t':=s.toks) kp;have I2:Inv X pins σ (upd H h'.objs.size (.tup ys)) { s with heap:=h'.push { cls:=.type "tuple", data:=.seq its.toArray } } :=
   I1.laid (t':=s.toks) (λ b o e=>Lg _ e) (Lp _) (show ObjOk X.prog X.w _ _ _ (.tup ys) from ⟨hz,its,r',IsTup.new _ _⟩)
  exact ⟨.ref h'.objs.size,_,I2,rfl,q _ (I1.hok.fresh (Lp _))⟩
 ·obtain ⟨its,r',pl,hz⟩:=I.tuple hq;exact call_tuple_same pl ⟨.ref p,H,I,rfl,q⟩
noncomputable def tyV (K:K6) (T:String) (x:V) (H:Hp):Prop:=match x with
 | .str _=>T = "str"
 | .int _=>T = "int"
 | .ref p=>(T = "list" /\ ∃ xs,SqL K H p xs)\/(T = "tuple" /\ ∃ o,K.lookup p=some o/\o.cls=.type "tuple" /\ o.dict=none) \/
   (T = "dict" /\ ((∃ kvs,H p=some (.dK kvs))\/∃ kvs,H p=some (.dT kvs)))\/(T = "set" /\ ∃ S n,H p=some (.set S n))
 | _=>False
theorem BN {pins:List (Lz×Obj)} {σ:St} {H:Hp} {s:Lh} {T:String} {x:V} {v:Lf} (I:Inv X pins σ H s) (r:RelV x v) (ty:tyV X.K T x H) :
  s.TypeIs v T/\∀ a,v=.ref a->∃ ob,s.heap.get? a=some ob/\ob.dict=none:=by
 cases x with
 | str z =>
  obtain ⟨t,rfl⟩:=r;cases (show T = "str" from ty);exact ⟨typeIs_str s z t,λ _ e=>nomatch e⟩
 | int i =>
  obtain ⟨t,rfl⟩:=r;cases (show T = "int" from ty);exact ⟨typeIs_int s i t,λ _ e=>nomatch e⟩
 | ref p =>
  cases r;rcases ty with ⟨rfl,xs,hq⟩ | ⟨rfl,o,hk,hc,hd⟩ | ⟨rfl,hk⟩ | ⟨rfl,S,n,hk⟩
  ·obtain ⟨its,_,pl,_⟩:=I.list hq;refine ⟨pl.isList.typeIs,λ a e=>?_⟩;cases e;obtain ⟨o,n,e,c,hd,_⟩:=pl;exact ⟨o,e,hd⟩
  ·refine ⟨⟨o,I.kIn p o hk,hc⟩,λ a e=>?_⟩;cases e;exact ⟨o,I.kIn _ o hk,hd⟩
  ·have z:∃ o,s.heap.get? p=some o/\o.ExactDict:=by
    rcases hk with ⟨kvs,hk⟩ | ⟨kvs,hk⟩
    ·obtain ⟨_,_,_,_,o,_,_,e,ex,_⟩:=I.hok p _ hk;exact ⟨o,e,ex⟩
    ·obtain ⟨_,_,_,_,o,_,_,e,ex,_⟩:=I.hok p _ hk;exact ⟨o,e,ex⟩
   obtain ⟨o,e,ex⟩:=z;refine ⟨⟨o,e,ex.1⟩,λ a e2=>?_⟩;cases e2;exact ⟨o,e,ex.2.1⟩
  ·obtain ⟨o,_,_,_,e,ex,_⟩:=I.hok p _ hk;refine ⟨⟨o,e,ex.1⟩,λ a e2=>?_⟩;cases e2;exact ⟨o,e,ex.2.1⟩
 | _=>exact False.elim ty
noncomputable def Kq (K:K6) (T:String) (r:V->List V->Hp->VK->Prop) (to:TE):TE:=λ σ H Q=>to σ H λ x H1=>tyV K T x H1/\r x [] H1 Q
noncomputable def tBM (K:K6) (T:String) (r:V->List V->Hp->VK->Prop) (to:TE) (t:TA):TE:=λ σ H Q=>to σ H λ x H1=>tyV K T x H1/\t σ H1 λ xs H2=>r x xs H2 Q
variable {o e:Expr} {es:List Expr} {to:TE} {t:TA} {name:Str} {apos cpos:Pos} {T id:String} {r:V->List V->Hp->VK->Prop}
theorem GN (pa:PlainAttrs T) (slot:Slot T name id) (hty:typeOf (.builtin id)=pure (.type "method_descriptor")) (hm:MtR X id r) (ho:PE X o to)
  (hbase:attributeBase o name X.env (eval o X.env)=eval o X.env:=by rfl) (hline:(apos.endLine==cpos.line)=true:=by rfl):PE X (.Call (.Attribute o name apos) [] [] cpos) (Kq X.K T r to):=by
 intro pins s σ H Q I h;refine wpAny_Call_method0_late hbase hline (thn (ho pins s σ H _ I h) λ v s1 ⟨x,H1,I1,r1,ty,q1⟩=>?_);obtain ⟨h1,h2⟩:=BN I1 r1 ty;exact ⟨T,id,pa,slot,hty,h1,h2,Calls.callWith_builtin rfl (PySem.evalArgs_none (hm pins s1 σ H1 x [] v [] Q I1 r1 .nil q1))⟩
theorem uU (pa:PlainAttrs T) (slot:Slot T name id) (hty:typeOf (.builtin id)=pure (.type "method_descriptor")) (hm:MtR X id r) (ho:PE X o to) (ha:PA X (e::es) t)
  (hbase:attributeBase o name X.env (eval o X.env)=eval o X.env:=by rfl)
  (hfew:((backTo cpos (Lj (e::es) X.env)).all (λ x=>!x.1)&&(backToKw cpos (keywordEach [] X.env)).all (λ x=>x.1.isSome)
   && decide ((e::es).length+([]:List Keyword).length+(if ([]:List Keyword).isEmpty then 0 else 1) < 30))=true:=by rfl)
  (hline:(apos.endLine==cpos.line)=true:=by rfl) (hs:Lj (e::es) X.env=(false,eval e X.env)::Lj es X.env:=by rfl) (hplain:(backTo cpos (Lj es X.env)).any (·.1)=false:=by rfl) :
  PE X (.Call (.Attribute o name apos) (e::es) [] cpos) (tBM X.K T r to t):=by
 intro pins s σ H Q I h;refine wpAny_Call_method_late hbase hfew hline rfl (thn (ho pins s σ H _ I h) λ v s1 ⟨x,H1,I1,r1,ty,q1⟩=>?_);obtain ⟨h1,h2⟩:=BN I1 r1 ty;refine ⟨T,id,pa,slot,hty,h1,h2,?_⟩;have hA:=ha cpos pins s1 σ H1 _ I1 q1;rw [hs] at hA ⊢;refine Calls.callWith_builtin (by show (false||(backTo cpos (Lj es X.env)).any (·.1))=false; rw [hplain] <;> rfl) (Calls.evalArgs_plain ?_);exact thn hA λ us s2 ⟨vs,H2,I2,r2,q2⟩=>hm pins s2 σ H2 x vs v us Q I2 r1 r2 q2
end
noncomputable def MtM (X:Cx) (id:String) (r:V->List V->Hp->VK->Prop):Prop :=
 ∀ (pins:List (Lz×Obj)) (s:Lh) (σ:St) (H:Hp) (x:V) (xs:List V) (v:Lf) (us:List Lf) (Q:VK),Inv X pins σ H s->RelV x v->Vals xs us->r x xs H Q ->
  L1 (L6 X.prog X.w) X.A (call (.builtin id) (v::us)) (EP X pins σ Q) X.xe s
theorem Vals.one:∀ {x:V} {us:List Lf},Vals [x] us->∃ u,us=[u]/\RelV x u
 | _,_,.cons r .nil=>⟨_,rfl,r⟩
theorem Vals.zero:∀ {us:List Lf},Vals [] us->us=[]
 | _,.nil=>rfl
theorem Vals.dropLast {xs:List V} {us:List Lf} (h:Vals xs us):Vals xs.dropLast us.dropLast:=by
 induction h with
 | nil=>exact .nil
 | cons r t ih =>
  cases t with
  | nil=>exact .nil
  | cons q t'=>exact .cons r ih
theorem zi {α:Type} (l:List α):l.eraseIdx (l.length - 1)=l.dropLast:=by
 induction l with
 | nil=>rfl
 | cons a r ih =>
  cases r with
  | nil=>rfl
  | cons b r =>
   have e:(a::b::r).length - 1=((b::r).length - 1)+1:=by
    have h1:(a::b::r).length=r.length+2:=rfl;have h2:(b::r).length=r.length+1:=rfl;omega
   rw [e,List.eraseIdx_cons_succ,ih]
   all_goals rfl
section
variable {X:Cx} {pins:List (Lz×Obj)} {σ:St} {H:Hp} {s:Lh} {l b:Lz} {xs ys zs:List V}
theorem Inv.lset {its its':List Lf} {n:Nat} {f:Array Lf->Array Lf} {t':Nat} (I:Inv X pins σ H s) (hH:H l=some (.lst xs))
  (e:s.heap.get? l=some { cls:=.type "list", data:=.seq its.toArray n }) (hf:f its.toArray=its'.toArray) (hv:Vals ys its') (hz:ys.length<=Li) :
  Inv X pins σ (upd H l (.lst ys)) { s with heap:=s.heap.update l (Obj.mapSeq f),toks:=t' }:=by
 have q:=PySem.IsL.update e f;rw [hf] at q;refine I.write (x:=l) (e:=l) (by rw [hH]; exact trivial) (.inl rfl) (λ b' u hb hu=>(Heap.get?_update_other s.heap (Obj.mapSeq f) (Ne.symm hb)).trans hu) ⟨_,q⟩ ?_;exact ⟨hz,its',_,hv,q⟩
theorem Inv.lnew {its:List Lf} {t':Nat} (I:Inv X pins σ H s) (hv:Vals ys its) (hz:ys.length<=Li) :
  Inv X pins σ (upd H s.heap.objs.size (.lst ys)) { s with heap:=s.heap.push { cls:=.type "list", data:=.seq its.toArray },toks:=t' } :=
 I.laid (λ _ _ q=>Lg _ q) (Lp _) ⟨hz,its,0,hv,LL _ rfl⟩
theorem Inv.fresh (I:Inv X pins σ H s):H s.heap.objs.size=none:=I.hok.fresh (Lp _)
theorem Inv.lstM (I:Inv X pins σ H s) (hH:H l=some (.lst xs)):xs.length<=Li/\∃ (its:List Lf) (n:Nat),Vals xs its/\xs.length=its.length/\s.heap.get? l=some { cls:=.type "list", data:=.seq its.toArray n }:=by
 obtain ⟨z,its,n,r,e⟩:=I.hok l _ hH;exact ⟨z,its,n,r,r.length,e⟩
theorem CG {n:Nat} (h:n<=Li):Builtin.List.listTooLong n=false:=by
 unfold Builtin.List.listTooLong;exact decide_eq_false (by omega)
end
section
variable {X:Cx}
noncomputable def Ev:V->List V->Hp->VK->Prop:=λ x vs H Q=>∃ l xs y,x=.ref l/\vs=[y]/\H l=some (.lst xs)/\xs.length < Li/\Q .non (upd H l (.lst (xs++[y])))
theorem qy:MtM X "list.append" Ev:=by
 intro pins s σ H x vs v us Q I rx rv h;obtain ⟨l,xs,y,rfl,rfl,hH,hz,q⟩:=h;cases rx;obtain ⟨u,rfl,ru⟩:=rv.one;obtain ⟨z,its,n,r,hl,e⟩:=I.lstM hH;refine call_meets F.slot_list_append ⟨_,e,rfl⟩ F.entry_list_append (F.args_list_append_2 _ _) (PySem.list_append l its.toArray n u (by rw [Ls]; omega)) ⟨e,?_⟩;refine ⟨.non,_,I.lset (its':=its++[u]) hH e (by simp) (r.append (.cons ru .nil)) ?_,rfl,q⟩;rw [Lm,Nu];omega
noncomputable def Kv:V->List V->Hp->VK->Prop:=λ x vs H Q=>∃ l xs y,x=.ref l/\vs=[]/\H l=some (.lst xs)/\xs[xs.length - 1]?=some y/\Q y (upd H l (.lst xs.dropLast))
theorem GZ:MtM X "list.pop" Kv:=by
 intro pins s σ H x vs v us Q I rx rv h;obtain ⟨l,xs,y,rfl,rfl,hH,hy,q⟩:=h;cases rx;have hus:=rv.zero;subst hus;obtain ⟨z,its,n,r,hl,e⟩:=I.lstM hH;obtain ⟨u,hu,ru⟩:=r.get hy;have hy':its.toArray[its.toArray.size - 1]?=some u:=by
  show its.toArray[its.length - 1]?=some u;rw [<- Array.getElem?_toList,<- hl];exact hu
 refine call_meets F.slot_list_pop ⟨_,e,rfl⟩ F.entry_list_pop (F.args_list_pop_1 _) (MeetsSeq.list_pop_last l its.toArray n u hy' (by rw [Ls]; omega)) ⟨e,?_⟩;refine ⟨y,_,I.lset (its':=its.dropLast) hH e ?_ r.dropLast ?_,ru,q⟩
 ·show its.toArray.eraseIdxIfInBounds (its.toArray.size - 1)=its.dropLast.toArray;rw [Ls,List.eraseIdxIfInBounds_toArray,zi]
 ·rw [List.length_dropLast];omega
end
end L2
namespace Att
open PySem PySem.W PySem.Calls PyProof.Rows
theorem rP {P:Params} {h:Heap}:∀ (ns:List Int) (vs:List Lf),WellAll P h vs (ns.map WData.int)->IntsAre vs ns:=by
 intro ns
 induction ns with
 | nil =>
  intro vs w;rw [M5] at w;cases w;exact .nil
 | cons n ns ih =>
  intro vs w;rw [Ln] at w;cases w with
  | cons a b =>
   cases a;exact .cons _ _ (ih _ b)
theorem A0 {l:OpenLaw} {n:Nat} (hn:l.most=some n) {P:Params} {h:Heap} {args:List WData} {vals:List Lf}
  (hpre:l.row.toRowW.claim.pre args=true) (hwl:WellAll P h vals args) :
  ∃ a vs ns,vals=[Value.ref a]/\args=[WData.list (ns.map WData.int)]/\h.get? a=some { cls:=.type "list", data:=.seq vs.toArray }/\IntsAre vs ns/\ns.length<=n:=by
 have hsh:WShape.hasAll [] args [.list .int]=true:=(pre_splitW hpre).1;have hc:l.pre.holds [] { args:=args }=true:=(pre_splitW hpre).2;obtain ⟨d,r,rfl,h1,h2⟩:=hasAllW_cons hsh;obtain rfl:=hasAllW_nil h2;obtain ⟨xs,rfl,h3⟩:=hasW_list h1;obtain ⟨ns,rfl⟩:=items_int h3;have hlen:ns.length<=n:=by
  unfold OpenLaw.pre at hc;have h4:(WTm.not (.lt (.lit (.int (n:Int))) (.len (.arg 0)))).holds [] { args:=[.list (ns.map .int)] }=true:=by
   have h4:=(holds_andW hc).1;rw [hn] at h4;exact h4
  have h5:=condW_of h4 (w_not (w_lt w_lit (w_len_list (w_arg rfl))));rw [K7] at h5;refine Nat.le_of_not_lt λ q=>?_;have q':(n:Int) < ((ns.length:Nat):Int):=by omega
  first
   | (rw [decide_eq_true q'] at h5; exact absurd h5 (by decide))
   | (simp at h5; omega)
 cases hwl with
 | cons w1 w2 =>
  cases w2;cases w1 with
  | list ho hall=>exact ⟨_,_,ns,rfl,rfl,ho,rP ns _ hall,hlen⟩
theorem A6 (l:OpenLaw) (args:List WData):l.row.toRowW.claim.post args (.bool true) args=true :=
 postW_of (r:=l.row.toRowW) (X:=(true==true))
  (show WShape.has [] (.bool true) .bool=true by first | rfl | decide | simp [WShape.has,WShape.arms,WShape.armsAll])
  (show (WTm.eq .res (.lit (.bool true))).value [] { args:=args,res:=some (.bool true),after:=args }=some (.bool (true==true)) from w_eq_bool (w_res rfl) w_lit) rfl
theorem attach_call {l:OpenLaw} {n:Nat} {q:LM} {loose:List Str} {XP:(Str->Option Lf)->Heap->Prop} {YP:World->Heap->Prop} {d:DefRec}
  (hn:l.most=some n) (hdf:d.params.defaults=[])
  (call:∀ (w:World) (s₀ s₁:Lh) (mg mb:Str->Option Lf) (fa:Lz) (o:Obj) (pm cd doc:Lf) (a:Lz) (vs:List Lf) (ns:List Int),Ground q loose [] XP w s₀ mg mb s₁.heap->YP w s₁.heap ->
   s₁.heap.get? fa=some o->o.data=.func (docDef d.name d.params d.body d.scope pm cd doc)->s₁.heap.CodeRec cd d.name->mg d.name=some (.ref fa) ->
   s₁.heap.get? a=some { cls:=.type "list", data:=.seq vs.toArray }->IntsAre vs ns->ns.length<=n->s₁.gens=#[] ->
   codeAny (L6 l.prog w) callerA (.call (.ref fa) ⟨[.ref a],[]⟩) (λ r s'=>r=.ok (.ret (.bool true))/\OldK s₁.heap s'.heap/\s'.os=s₁.os/\AllBare s'.gens) s₁) :
  WalkO q loose XP YP l.row.toRowW d [] (λ f vs=>PySem.call f vs):=by
 intro w s₀ s₁ mg mb G Y fa o pm cd doc dV kV ho hd hcd hD hmg hg args vals as hpre hlay hrd hwl hlo;obtain rfl:dV=.none:=Dflts.none hD hdf;obtain rfl:kV=.none:=Dflts.noKw hD;obtain ⟨a,vs,ns,rfl,rfl,hobj,hints,hlen⟩:=A0 hn hpre hwl;refine enter_call (codeAny_mono (call w s₀ s₁ mg mb fa o pm cd doc a vs ns G Y ho (fd_plain hd) hcd hmg hobj hints hlen hg) λ r s' hq=>?_);obtain ⟨rfl,h2,h3,h4⟩:=hq;exact ⟨.inl ⟨.bool true,.bool true,[],rfl,λ _=>rfl,.bool true,A6 l _,λ _=>⟨List.Pairwise.nil,λ _ hm=>(nomatch hm)⟩⟩,h2,h3,h4⟩
section
variable {prog:LM} {w:World} {A:Mb} {E:Lf->Lh->Prop} {s:Lh} {K:Frag}
end
end Att
namespace L2
open PySem PySem.Spec PyProof.Rows
theorem uJ:∀ {vs:List Lf} {ns:List Int},IntsAre vs ns->Vals (ns.map V.int) vs
 | _,_,.nil=>.nil
 | _,_,.cons n t h=>.cons ⟨t,rfl⟩ (uJ h)
noncomputable def Only (H:Hp):Prop:=∀ b,H b=none\/∃ o xs,H b=some (.frz o (.lst xs))
theorem C9 {P:LM} {w:World} {K:K6} {mg mb:Str->Option Lf} {CX:CXT} {k:Nat} {fa a:Lz} {fd:Mj} {x:Str} {sp:Sp} {s₁:Lh} {vs:List Lf} {ns:List Int}
  (KX:K.In s₁.heap) (hns:s₁.heap.Ns mainGlobals mg) (hb:s₁.heap.Ns builtinsNs mb) (hbb:∀ x:Str,x ≠ "__name__" -> mb x=bootBuiltins x) (hlim:s₁.heap.NoLimit) (hg:s₁.gens=#[])
  (ha:s₁.heap.get? a=some { cls:=.type "list", data:=.seq vs.toArray }) (hi:IntsAre vs ns) (hl:ns.length<=Li) (hr:Room k callerA)
  (F:∀ base:Heap,K.In base->base.Ns mainGlobals mg->FnOk P w K mg base CX k fa fd [x] sp) (hbind:∀ (s:Lh) (u:Lf),BindsTo s fd ⟨[u],[]⟩ [(x,u)])
  (hsp:∀ H:Hp,Only H->SqL K H a (ns.map V.int)->sp [.ref a] H (λ v _=>v=.bl true) λ _ _ _=>False)
  (hCX:∀ H e s',CX [] H s₁ (λ _ _ _=>False) e s'->False) :
  codeAny (L6 P w) callerA (.call (.ref fa) ⟨[.ref a],[]⟩) (λ r s'=>r=.ok (.ret (.bool true))/\OldK s₁.heap s'.heap/\s'.os=s₁.os/\AllBare s'.gens) s₁:=by
 have rv:=uJ hi;have lenV:=hi.length;have core:∀ H:Hp,Only H->SqL K H a (ns.map V.int)->HOk P w H s₁.heap->(∀ b,H b≠none->b=a)->(H a≠none->K.lookup a=none) ->
   codeAny (L6 P w) callerA (.call (.ref fa) ⟨[.ref a],[]⟩) (λ r s'=>r=.ok (.ret (.bool true))/\OldK s₁.heap s'.heap/\s'.os=s₁.os/\AllBare s'.gens) s₁:=by
  intro H hO hS hok hA hK;have base_of:∀ {b:Lz} {o:Obj},s₁.heap.get? b=some o->H b=none->(wl s₁.heap H).get? b=some o:=λ e n=>Di e n;have noA:∀ {b:Lz} {o:Obj} {es:Array DictEntry} {ep:Nat},s₁.heap.get? b=some o->o.data=.dict es ep->H b=none:=λ {b o es ep} e d=>by
   cases q:H b with
   | none=>rfl
   | some u =>
    have e':b=a:=hA b (by rw [q]; simp);subst e';rw [ha] at e; cases e;have d':Data.seq vs.toArray _=Data.dict es ep:=d;cases d'
  have nsK:∀ {b:Lz} {m:Str->Option Lf},s₁.heap.Ns b m->(wl s₁.heap H).Ns b m:=λ {b m} ⟨o,es,ep,e,d,r⟩=>⟨o,es,ep,base_of e (noA e d),d,r⟩;have hKb:K.In (wl s₁.heap H):=λ b o e=>base_of (KX b o e) (by
   cases q:H b with
   | none=>rfl
   | some u =>
    have e':b=a:=hA b (by rw [q]; simp);subst e';rw [hK (by rw [q]; simp)] at e; cases e)
  have hM:Mod K mg (wl s₁.heap H):=⟨hKb,nsK hns,⟨mb,nsK hb,hbb⟩,let ⟨mc,h1,h2⟩:=hlim; ⟨mc,nsK h1,h2⟩⟩;have e0:Env0 P w K mg (wl s₁.heap H) callerA [] s₁ H:=⟨rfl,hM,λ b o e=>ER e,Nat.le_of_eq (Bv _ _),trivial,λ b hb=>absurd (show b∈([]:List Lz) from hb) (by simp),hok,.of_eq hg⟩;refine codeAny_mono ((F _ hKb (nsK hns)).run callerA [] s₁ H ⟨[.ref a],[]⟩ [.ref a] [.ref a] _ _ hr e0 (hbind s₁ (.ref a)) (.cons rfl .nil) (hsp H hO hS)) λ r s' h=>?_;cases r with
  | error e=>exact (hCX H e s' h).elim
  | ok fl =>
   cases fl with
   | next=>exact False.elim h
   | brk=>exact False.elim h
   | cont=>exact False.elim h
   | ret u =>
    obtain ⟨v,H',os,bare,un,hok',r',q⟩:=h;have q':v=.bl true:=q;subst q';obtain rfl:u=Value.bool true:=r';refine ⟨rfl,OldK.of_keep λ b o e=>?_,os,bare⟩;cases q:H b with
    | none=>exact un.keep b o e q (by intro z; exact absurd (show b∈([]:List Lz) from z) (by simp)) (by simp)
    | some u =>
     rcases hO b with z | ⟨ob,xs,z⟩
     ·rw [q] at z; cases z
     ·have z2:=un.frzs b ob _ z;obtain ⟨e1,_⟩:=hok b _ z;obtain ⟨e2,_⟩:=hok' b _ z2;rw [e] at e1; cases e1;exact e2
 cases hk:K.lookup a with
 | some o =>
  have e:=KX a o hk;rw [ha] at e;cases e;refine core (λ _=>none) (λ _=>.inl rfl) (.inr ⟨_,vs.toArray,_,hk,rfl,rfl,rfl,by rw [Ls,lenV]; exact hl,by simpa using rv⟩) (λ b u z=>by have z':(none:Option HO)=some u:=z; cases z') (λ b z=>absurd rfl z) λ z=>absurd rfl z
 | none =>
  refine core (λ b=>if b=a then some (.frz { cls:=.type "list", data:=.seq vs.toArray } (.lst (ns.map V.int))) else none) (λ b=>?_) (.inl (.inr ⟨{ cls:=.type "list", data:=.seq vs.toArray },if_pos rfl⟩)) (λ b u z=>?_) (λ b z=>?_) λ _=>hk
  ·by_cases hb:b=a
   ·exact .inr ⟨_,_,if_pos hb⟩
   ·exact .inl (if_neg hb)
  ·by_cases hb:b=a
   ·have z':=(if_pos hb).symm.trans z;cases z';subst hb;exact ⟨ha,by rw [K7]; exact hl,vs,_,rv,ha⟩
   ·have z':=(if_neg hb).symm.trans z;cases z'
  ·by_cases hb:b=a
   ·exact hb
   ·exact absurd (if_neg hb) z
noncomputable abbrev KOf {K:K6} {h:Heap} (_:K.In h):K6:=K
theorem D3 {l:Nn} {n k:Nat} {q:LM} {loose:List Str} {XP:(Str->Option Lf)->Heap->Prop} {YP:World->Heap->Prop} {d:DefRec} {K:Params->K6} {CX:World->CXT} {sp:World->Sp} {x:Str}
  (hn:l.most=some n) (hn2:n<=Li) (hdf:d.params.defaults=[]) (hr:Room k callerA)
  (hY:∀ (w:World) (h:Heap),YP w h->(K w.params).In h)
  (F:∀ (w:World) (mg:Str->Option Lf) (fa:Lz) (h:Heap),(K w.params).In h->h.Ns mainGlobals mg->mg d.name=some (.ref fa) ->
   ∃ fd:Mj,(∀ (s:Lh) (u:Lf),BindsTo s fd ⟨[u],[]⟩ [(x,u)]) /\
    ∀ base:Heap,(K w.params).In base->base.Ns mainGlobals mg->FnOk l.prog w (K w.params) mg base (CX w) k fa fd [x] (sp w))
  (hsp:∀ (w:World) (H:Hp) (a:Lz) (ns:List Int),ns.length<=n->Only H->SqL (K w.params) H a (ns.map V.int)->sp w [.ref a] H (λ v _=>v=.bl true) λ _ _ _=>False)
  (hCX:∀ (w:World) (H:Hp) (s:Lh) (e:Lf) (s':Lh),CX w [] H s (λ _ _ _=>False) e s'->False) :
  NE q loose XP YP l.row.toRowW d [] (λ f vs=>PySem.call f vs):=by
 refine Att.attach_call hn hdf λ w s₀ s₁ mg mb fa o pm cd doc a vs ns G Y ho hd hcd hmg hobj hints hlen hg=>?_;have KX:=hY w _ Y;obtain ⟨fd,hb,hF⟩:=F w mg fa _ KX G.T.g hmg;exact C9 KX G.T.g G.T.b G.T.builtins G.T.nolimit hg hobj hints (LS hlen hn2) hr hF hb (λ H hO hS=>hsp w H a ns hlen hO hS) λ H e s'=>hCX w H s₁ e s'
noncomputable def jV (s:Stmt) (j:Nat):Stmt:=match s with
 | .ClassDef _ _ _ body _ _ _ _ _ _ _=>body.getD j (.Pass ⟨0,0,0,0⟩)
 | _=>.Pass ⟨0,0,0,0⟩
noncomputable def sv (s:Stmt):Arguments:=match s with
 | .FunctionDef _ a _ _ _ _ _ _ _ _=>a
 | _=>{ posonlyargs:=[],args:=[],vararg:=none,kwonlyargs:=[],kw_defaults:=[],kwarg:=none,defaults:=[] }
noncomputable def lV (s:Stmt):List Stmt:=match s with
 | .FunctionDef _ _ b _ _ _ _ _ _ _=>b
 | _=>[]
noncomputable def ah (s:Stmt):Scope:=match s with
 | .FunctionDef _ _ _ _ _ _ sc _ _ _=>sc
 | _=>{ kind:=.function,names:=[],isGenerator:=false,isCoroutine:=false }
noncomputable abbrev CX0:CXT:=λ _ _ _ _ _ _=>False
noncomputable abbrev E0:XK:=λ _ _ _=>False
theorem uV {X:Cx}:Passes CX0 X E0:=λ _ _ _ _ _ _ _ h=>h.elim
structure Fun (K:K6) (x qual:Str) (st:Stmt) (f:Lz) (fd:Mj):Prop where
 ex:∃ (oc:Lf) (od:Option Lz) (kV doc pm:Lf) (an:Option Lz) (cdv ct:Lf) (osl:Array (Option Lf)),fd=M8 x qual (sv st) (lV st) (ah st) .none kV doc pm an cdv ct/\K.lookup f=some ⟨oc,od,.func fd,osl⟩/\PySem.W.codeIn K cdv qual=true
 kp:MH K (.ref f)=true
section
variable {P:LM} {w:World} {K:K6} {mg:Str->Option Lf} {base:Heap}
theorem Fun.ok {x qual:Str} {st:Stmt} {f:Lz} {fd:Mj} {N ps:List Str} {k:Nat} {sp:Sp} (F:Fun K x qual st f fd) (S:aL N ps (ah st)) (len:∀ vs H Q E,sp vs H Q E->vs.length=ps.length)
  (hbody:∀ (cdv:Lf) (A:Mb) (outer:List Env) (s:Lh) (H:Hp) (vs:List V) (Q:VK) (E:XK),Room k (A.deeper (envOfC qual (ah st) s.heap.objs.size f cdv))->sp vs H Q E ->
   ∃ t,PSs (ya CX0 P w K mg base N qual (ah st) f cdv A outer s H E).nox (lV st) t/\t { nx:=λ _ H'=>Q .non H',rt:=Q } (start N vs) H):FnOk P w K mg base CX0 (k+1) f fd ps sp:=by
 obtain ⟨oc,od,kV,doc,pm,an,cdv,ct,osl,rfl,lk,hcd⟩:=F.ex;refine I0 lk hcd S len λ A outer s H vs Q E hr hsp=>?_;obtain ⟨t,h,q⟩:=hbody cdv A outer s H vs Q E hr hsp;exact ⟨t,h.nox,q⟩
theorem fun_mk {x qual:Str} {st:Stmt} {f:Lz} {oc:Lf} {od an:Option Lz} {osl:Array (Option Lf)} {kV doc pm cdv ct:Lf} (l:K.lookup f=some ⟨oc,od,.func (M8 x qual (sv st) (lV st) (ah st) .none kV doc pm an cdv ct),osl⟩)
  (c:PySem.W.codeIn K cdv qual=true) (k:MH K (.ref f)=true):Fun K x qual st f (M8 x qual (sv st) (lV st) (ah st) .none kV doc pm an cdv ct):=⟨⟨oc,od,kV,doc,pm,an,cdv,ct,osl,rfl,l,c⟩,k⟩
end
theorem KA {A B:Prop} (h:B):if false=true then A else B:=by
 rw [if_neg LB];exact h
theorem Kz {A B:Prop} (h:A):if true=true then A else B:=by
 rw [if_pos rfl];exact h
noncomputable def Same (H H':Hp):Prop:=∀ b o,H b=some o->H' b=some o
theorem Same.refl (H:Hp):Same H H:=λ _ _ h=>h
theorem Same.trans {H H1 H2:Hp} (a:Same H H1) (b:Same H1 H2):Same H H2:=λ c o h=>b c o (a c o h)
theorem Same.free {H H':Hp} (e:Same H H') {l:Lz} (h:H' l=Option.none):H l=Option.none:=by
 cases q:H l with
 | none=>rfl
 | some o =>
  rw [e l o q] at h;cases h
theorem Same.seq {K:K6} {H H':Hp} {a:Lz} {xs:List V} (e:Same H H') (h:SqL K H a xs):SqL K H' a xs:=by
 rcases h with (h | ⟨o,h⟩) | h
 ·exact .inl (.inl (e _ _ h))
 ·exact .inl (.inr ⟨o,e _ _ h⟩)
 ·exact .inr h
end L2
set_option autoImplicit false
namespace L2.PU
open PySem  PySem.Spec PyProof.Rows
noncomputable def AL:Nat->(List Lf->Prop)->Prop
 | 0,P=>P []
 | n+1,P=>∀ a,AL n λ l=>P (a::l)
theorem AL.all:∀ {n:Nat} {P:List Lf->Prop},AL n P->∀ us:List Lf,us.length=n->P us
 | 0,_,h,[],_=>h
 | n+1,_,h,a::us,e=>AL.all (n:=n) (h a) us (Nat.succ.inj e)
theorem bi_mk {K:K6} {fd:Mj} {ps:List Str} (h:AL ps.length λ us=>bindArgs fd ⟨us,[]⟩=pure (ps.zip us)):Binds K fd ps []:=.all h.all
theorem G4 {Pr:LM} {w:World} {K:K6} {mg:Str->Option Lf} {fa f:Lz} {d:Mj} {x q:Str} {st:Stmt} {k:Nat} {y:Str} {sp:Sp} (hfa:mg "law" = some (.ref fa)) (m:mg "law" = some (.ref f)) (F:Fun K x q st f d)
  (G:∀ base:Heap,FnOk Pr w K mg base CX0 k f d [y] sp) (hb:∀ (kV doc pm:Lf) (an:Option Lz) (cdv ct v:Lf),bindArgs (M8 x q (sv st) (lV st) (ah st) .none kV doc pm an cdv ct) ⟨[v],[]⟩=pure [(y,v)]) :
  ∃ fd:Mj,(∀ (s:Lh) (v:Lf),BindsTo s fd ⟨[v],[]⟩ [(y,v)])/\∀ base:Heap,K.In base->base.Ns mainGlobals mg->FnOk Pr w K mg base CX0 k fa fd [y] sp:=by
 cases hfa.symm.trans m;obtain ⟨oc,od,kV,doc,pm,an,cdv,ct,osl,rfl,lk,hcd⟩:=F.ex;exact ⟨_,λ s v=>.of_eq (hb kV doc pm an cdv ct v),λ base _ _=>G base⟩
theorem bY {N P:List Str} {sc:Scope} (h1:sc.kind=.function:=by rfl) (h2:sc.isCoroutine=false:=by rfl) (h3:sc.isGenerator=false:=by rfl) (h4:N.Nodup:=by decide +kernel) (h5:N.take P.length=P:=by rfl)
  (h6:∀ x∈P,sc.names.lookup x=some .local\/sc.names.lookup x=some .cell:=by decide +kernel) (h7:∀ y∈sc.names,y.2≠.free:=by decide +kernel):aL N P sc:=⟨h1,h2,h3,h4,h5,h6,h7⟩
end L2.PU
namespace L2
open PySem PySem.Spec PyProof.Rows
section
variable {κ:Type} [DecidableEq κ]
noncomputable def qe (kvs:List (κ×V)) (k:κ):Option V:=(kvs.find? λ kv=>decide (kv.1=k)).map (·.2)
noncomputable def ql (kvs:List (κ×V)) (k:κ) (v:V):List (κ×V) :=
 if (kvs.any λ kv=>decide (kv.1=k))=true then kvs.map (λ kv=>if kv.1=k then (kv.1,v) else kv) else kvs++[(k,v)]
theorem o5 {p:κ×V} {r:List (κ×V)} {k:κ} (e:p.1=k):qe (p::r) k=some p.2:=by simp [qe,MX,e]
theorem o6 {p:κ×V} {r:List (κ×V)} {k:κ} (e:¬ p.1=k):qe (p::r) k=qe r k:=by simp [qe,MX,e]
theorem wQ (k:κ):∀ kvs:List (κ×V),(kvs.any λ kv=>decide (kv.1=k))=(qe kvs k).isSome
 | []=>rfl
 | p::r=>by
  rw [Ms];by_cases e:p.1=k
  ·simp only [o5 e,decide_eq_true e,Bool.true_or,Option.isSome_some]
  ·rw [o6 e,decide_eq_false e,Bool.false_or]; exact wQ k r
theorem qT (kvs:List (κ×V)) (k:κ) (v:V):(ql kvs k v).length<=kvs.length+1:=by
 unfold ql
 split
 ·rw [K7]; omega
 ·rw [Lm,Lu,List.length_nil]; omega
theorem RelO.isSome_eq {o:Option V} {u:Option Lf} (r:RelO o u):o.isSome=u.isSome:=by
 cases o with
 | none=>cases u with
  | none=>rfl
  | some _=>exact (show False from r).elim
 | some _=>cases u with
  | none=>exact (show False from r).elim
  | some _=>rfl
theorem RelO.getD {o:Option V} {u:Option Lf} {d:V} {d':Lf} (r:RelO o u) (rd:RelV d d'):RelV (o.getD d) (u.getD d'):=by
 cases o with
 | none=>cases u with
  | none=>exact rd
  | some _=>exact (show False from r).elim
 | some _=>cases u with
  | none=>exact (show False from r).elim
  | some _=>exact r
theorem KV.val {kvs:List (κ×V)} {vs:List (κ×Lf)} (r:KV kvs vs) (k:κ):RelO (qe kvs k) (valueAt vs k):=by
 unfold KV at r
 induction r with
 | nil=>exact True.intro
 | @cons p q ps qs h t ih =>
  obtain ⟨h1,h2⟩:=h;by_cases e:p.1=k
  ·have e':q.1=k:=h1.symm.trans e;have b:valueAt (q::qs) k=some q.2:=by simp [valueAt,MX,e']
   rw [o5 e,b]; exact h2
  ·have e':¬ q.1=k:=λ z=>e (h1.trans z);have b:valueAt (q::qs) k=valueAt qs k:=by simp [valueAt,MX,e']
   rw [o6 e,b]; exact ih
theorem KV.any {kvs:List (κ×V)} {vs:List (κ×Lf)} (r:KV kvs vs) (k:κ):(kvs.any λ kv=>decide (kv.1=k))=vs.any λ kv=>decide (kv.1=k):=by
 unfold KV at r
 induction r with
 | nil=>rfl
 | cons h t ih=>rw [Ms,Ms,ih,h.1]
theorem KV.repl {kvs:List (κ×V)} {vs:List (κ×Lf)} (r:KV kvs vs) (k:κ) {y:V} {u:Lf} (ry:RelV y u) :
  KV (kvs.map λ kv=>if kv.1=k then (kv.1,y) else kv) (vs.map λ kv=>if kv.1=k then (kv.1,u) else kv):=by
 unfold KV at r ⊢
 induction r with
 | nil=>exact .nil
 | @cons p q ps qs h t ih =>
  rw [Ln,Ln];refine .cons ?_ ih;obtain ⟨h1,h2⟩:=h;by_cases e:p.1=k
  ·rw [if_pos e,if_pos (h1.symm.trans e)]; exact ⟨h1,ry⟩
  ·rw [if_neg e,if_neg (λ z=>e (h1.trans z))]; exact ⟨h1,h2⟩
theorem KV.put {kvs:List (κ×V)} {vs:List (κ×Lf)} (r:KV kvs vs) (k:κ) {y:V} {u:Lf} (ry:RelV y u):KV (ql kvs k y) (stored vs k u):=by
 unfold ql stored;rw [r.any k];by_cases e:(vs.any λ kv=>decide (kv.1=k))=true
 ·rw [if_pos e,if_pos e]; exact r.repl k ry
 ·rw [if_neg e,if_neg e]; exact Paired.snoc r ⟨rfl,ry⟩
theorem KV.keys {kvs:List (κ×V)} {vs:List (κ×Lf)} (r:KV kvs vs):kvs.map (·.1)=vs.map (·.1):=by
 unfold KV at r
 induction r with
 | nil=>rfl
 | cons h t ih=>rw [Ln,Ln,ih,h.1]
theorem KV.length {kvs:List (κ×V)} {vs:List (κ×Lf)} (r:KV kvs vs):kvs.length=vs.length:=Paired.length r
end
theorem De {P:LM} {w:World} {k:Key} {u:Lf} (r:RelV (kV k) u):(cx P w).is k u=true:=by
 cases k with
 | inl i=>obtain ⟨t,e⟩:=(show ∃ t,u=Value.int i t from r); subst e; exact xw P w i t
 | inr x=>obtain ⟨t,e⟩:=(show ∃ t,u=Value.str x t from r); subst e; exact xu P w x t
theorem u3 {P:LM} {w:World}:∀ {ks:List Key} {us:List Lf},Vals (ks.map kV) us->ItemsAre (cx P w) ks us
 | [],_,r=>by rw [M5] at r; cases r; exact .nil
 | k::ks,_,r=>by
  rw [Ln] at r;cases r with
  | cons h t=>exact .cons (De h) (u3 t)
noncomputable abbrev KT (H:Hp):List (List Key×V)->List (List Key×Lz×Lf)->Prop:=Paired λ p q=>p.1=q.1/\H q.2.1=some (.tup (p.1.map kV))/\RelV p.2 q.2.2
theorem KT.val {H:Hp} {kvs:List (List Key×V)} {xs:List (List Key×Lz×Lf)} (r:KT H kvs xs) (k:List Key):RelO (qe kvs k) ((atKey xs k).map (·.2)):=by
 induction r with
 | nil=>exact True.intro
 | @cons p q ps qs h t ih =>
  obtain ⟨h1,_,h2⟩:=h;by_cases e:p.1=k
  ·have e':q.1=k:=h1.symm.trans e;have b:atKey (q::qs) k=some q.2:=by simp [atKey,MX,e']
   rw [o5 e,b]; exact h2
  ·have e':¬ q.1=k:=λ z=>e (h1.trans z);have b:atKey (q::qs) k=atKey qs k:=by simp [atKey,MX,e']
   rw [o6 e,b]; exact ih
theorem KT.repl {H:Hp} {kvs:List (List Key×V)} {xs:List (List Key×Lz×Lf)} (r:KT H kvs xs) (k:List Key) {y:V} {u:Lf} (ry:RelV y u) :
  KT H (kvs.map λ kv=>if kv.1=k then (kv.1,y) else kv) (xs.map (putAt k u)):=by
 induction r with
 | nil=>exact .nil
 | @cons p q ps qs h t ih =>
  rw [Ln,Ln];refine .cons ?_ ih;obtain ⟨h1,h2,h3⟩:=h;unfold putAt;by_cases e:p.1=k
  ·rw [if_pos e,if_pos (h1.symm.trans e)]; exact ⟨h1,h2,ry⟩
  ·rw [if_neg e,if_neg (λ z=>e (h1.trans z))]; exact ⟨h1,h2,h3⟩
theorem KT.put {H:Hp} {kvs:List (List Key×V)} {xs:List (List Key×Lz×Lf)} (r:KT H kvs xs) (k:List Key) {b:Lz} {y:V} {u:Lf} (hb:H b=some (.tup (k.map kV))) (ry:RelV y u) :
  KT H (ql kvs k y) (storedH xs k b u):=by
 have e:(kvs.any λ kv=>decide (kv.1=k))=(atKey xs k).isSome:=by
  rw [wQ,(r.val k).isSome_eq,Option.isSome_map]
 unfold ql storedH;rw [e];by_cases q:(atKey xs k).isSome=true
 ·rw [if_pos q,if_pos q]; exact r.repl k ry
 ·rw [if_neg q,if_neg q]; exact Paired.snoc r ⟨rfl,hb,ry⟩
theorem KT.keeps {H H':Hp} {kvs:List (List Key×V)} {xs:List (List Key×Lz×Lf)} (r:KT H kvs xs) (ht:∀ b ys,H b=some (.tup ys)->H' b=some (.tup ys)):KT H' kvs xs :=
 Paired.mapP r λ _ _ z=>⟨z.1,ht _ _ z.2.1,z.2.2⟩
section
variable {P:LM} {w:World} {H:Hp} {h:Heap} {a:Lz}
theorem FK {u:HO} (ok:HOk P w H h) (e:Rd H a u):ObjOk P w H h a u:=e.ok ok
theorem AG {kvs:List (Key×V)} (ok:HOk P w H h) (e:Rd H a (.dK kvs)):kvs.length<=Li/\(a==sysModules)=false/\∃ vs,KV kvs vs/\h.DictOf (cx P w) a vs :=
 show ObjOk P w H h a (.dK kvs) from FK ok e
theorem Jd {kvs:List (Key×V)} (ok:HOk P w H h) (e:H a=some (.dK kvs)):kvs.length<=Li/\(a==sysModules)=false/\∃ vs,KV kvs vs/\h.DictOf (cx P w) a vs:=AG ok (.inl e)
theorem za {ks:List Key} (ok:HOk P w H h) (e:H a=some (.tup (ks.map kV))):(tupleKind (cx P w)).is h ks a:=by
 obtain ⟨_,its,r,o,h1,h2,n,h3⟩:=(show ObjOk P w H h a (.tup (ks.map kV)) from ok a _ e);exact ⟨o,its.toArray,n,h1,h2,h3,by simpa using u3 r⟩
theorem Ds {kvs:List (List Key×V)} (ok:HOk P w H h) (e:Rd H a (.dT kvs)):kvs.length<=Li/\(a==sysModules)=false /\
  ∃ xs,KT H kvs xs/\h.DictOfH (tupleKind (cx P w)) a xs:=by
 obtain ⟨z,y,xs,r,o,es,ep,h1,h2,h3,h4,h5⟩:=(show ObjOk P w H h a (.dT kvs) from FK ok e);refine ⟨z,y,xs,r,o,es,ep,h1,h2,h3,h4,λ x hx=>?_,h5⟩;have all:∀ {l:List (List Key×V)} {m:List (List Key×Lz×Lf)},KT H l m->∀ x∈m,(tupleKind (cx P w)).is h x.1 x.2.1:=by
  intro l m q
  induction q with
  | nil=>intro x hx; exact nomatch hx
  | @cons p q ps qs hq t ih =>
   intro x hx;rcases LA.mp hx with e | hx
   ·subst e;exact za ok (by rw [<- hq.1]; exact hq.2.1)
   ·exact ih x hx
 exact all r x hx
theorem Jc {kvs:List (List Key×V)} (ok:HOk P w H h) (e:H a=some (.dT kvs)):kvs.length<=Li/\(a==sysModules)=false /\
  ∃ xs,KT H kvs xs/\h.DictOfH (tupleKind (cx P w)) a xs:=Ds ok (.inl e)
end
noncomputable def DGet (H:Hp) (a:Lz) (y:V) (r:Option V):Prop :=
 (∃ kvs k,Rd H a (.dK kvs)/\y=kV k/\r=qe kvs k)\/∃ kvs k b,Rd H a (.dT kvs)/\y=.ref b/\H b=some (.tup (k.map kV))/\r=qe kvs k
noncomputable def DPut (H:Hp) (a:Lz) (y v:V) (H':Hp):Prop :=
 (∃ kvs k,H a=some (.dK kvs)/\y=kV k/\kvs.length < Li/\H'=upd H a (.dK (ql kvs k v))) \/
 ∃ kvs k b,H a=some (.dT kvs)/\y=.ref b/\H b=some (.tup (k.map kV))/\kvs.length < Li/\H'=upd H a (.dT (ql kvs k v))
theorem DGet.k {H:Hp} {a:Lz} {kvs:List (Key×V)} {k:Key} (e:H a=some (.dK kvs)):DGet H a (kV k) (qe kvs k):=.inl ⟨kvs,k,.inl e,rfl,rfl⟩
theorem DPut.k {H:Hp} {a:Lz} {kvs:List (Key×V)} {k:Key} {v:V} (e:H a=some (.dK kvs)) (hl:kvs.length < Li):DPut H a (kV k) v (upd H a (.dK (ql kvs k v))):=.inl ⟨kvs,k,e,rfl,hl,rfl⟩
section
variable {X:Cx} {pins:List (Lz×Obj)} {σ:St} {H:Hp} {s:Lh} {a:Lz} {y v:V} {u r:Lf} {o:Option V} {A:Mb} {E:Lf->Lh->Prop}
theorem Inv.big (I:Inv X pins σ H s):sysModules < s.heap.objs.size:=by
 have h:mainGlobals < s.heap.objs.size:=(I.mod.glob.keeps I.bk).lt;exact Nat.lt_trans (by decide) h
theorem AH {h':Heap} {t':Nat} {ob:HO} (I:Inv X pins σ H s) (mu:Mut (H a)) (hs:Heap.SameBut a s.heap h') (he:∃ q,h'.get? a=some q) (new:ObjOk X.prog X.w (upd H a ob) h' a ob) :
  Inv X pins σ (upd H a ob) { s with heap:=h',toks:=t' } :=
 I.write (x:=a) (e:=a) mu (.inl rfl) (λ b q hb z=>(hs.2 b hb).trans z) he new
theorem Hs {P:LM} {w:World} {H':Hp} {h':Heap} {kvs:List (Key×V)} {vs:List (Key×Lf)} (z:kvs.length<=Li) (hd:(a==sysModules)=false) (rel:KV kvs vs) (dd:h'.DictOf (cx P w) a vs) :
  ObjOk P w H' h' a (.dK kvs):=⟨z,hd,vs,rel,dd⟩
theorem BA {H':Hp} {Q:Unit->Lh->Prop} (hu:A.units+1 < cLine) (I:Inv X pins σ H s) (g:DPut H a y v H') (ry:RelV y u) (rv:RelV v r) (h:∀ s',Inv X pins σ H' s'->Q () s') :
  L1 (L6 X.prog X.w) A (setItem (.ref a) u r) Q E s:=by
 rcases g with ⟨kvs,k,e,ey,l,eH⟩ | ⟨kvs,k,b,e,ey,eb,l,eH⟩
 ·subst ey eH;obtain ⟨z,hd,vs,rel,dd⟩:=Jd I.hok e;have hz:vs.length<=Li:=by rw [<- rel.length]; exact z
  have hl:(ql kvs k v).length<=Li:=by have:=qT kvs k v; omega
  refine wpAny_setItem_pairs (hsz:=hz) (De ry) dd λ h' dd' hs=>h _ ?_;have he:∃ q,h'.get? a=some q:=let ⟨q,_,_,hq,_⟩:=dd'; ⟨q,hq⟩;exact AH I (by rw [e]; exact True.intro) hs he (Hs hl hd (rel.put k rv) dd')
 ·subst ey eH;cases (show u=Value.ref b from ry);obtain ⟨z,hd,xs,rel,dd⟩:=Jc I.hok e;have hz:xs.length<=Li:=by rw [<- Paired.length rel]; exact z
  have hl:(ql kvs k v).length<=Li:=by have:=qT kvs k v; omega
  refine wpAny_setItem_heap (hsz:=hz) (tupleKind_room_in1 hu) (za I.hok eb) dd λ h' dd' hs=>h _ ?_;obtain ⟨q,es,ep,hq,h2,h3,h4,_,h5⟩:=dd';refine AH I (by rw [e]; exact True.intro) hs ⟨q,hq⟩ ⟨hl,hd,_,(rel.put k eb rv).keeps λ c ys ec=>?_,q,es,ep,hq,h2,h3,h4,h5⟩;rw [aE (IL ec e (λ z=>nomatch z))];exact ec
end
noncomputable def Ij (td ty tv:TE):TS:=λ D σ H=>tv σ H λ v H1=>td σ H1 λ x H2=>ty σ H2 λ y H3=>∃ a H4,x=.ref a/\DPut H3 a y v H4/\D.nx σ H4
section
variable {X:Cx} {o i e value:Expr} {pos pos' tpos:Pos} {td ty tv:TE}
theorem Ew (hu:X.A.units+1 < cLine) (ho:PE X o td) (hi:PE X i ty) (hv:PE X value tv) (hs:swapsWith value (some (.Subscript o i pos')) pos.line X.env=pure false) :
  PS X (.Assign [.Subscript o i pos'] value pos) (Ij td ty tv):=by
 intro pins s σ H D I h;refine wpAny_Assign_Subscript (thn (hv pins s σ H _ I h) λ r s1 ⟨v,H1,I1,rv,q1⟩=>thn (ho pins s1 σ H1 _ I1 q1) λ u s2 ⟨x,H2,I2,rx,q2⟩=>thn (hi pins s2 σ H2 _ I2 q2) λ iv s3 ⟨y,H3,I3,ry,a,H4,ex,g,q3⟩=>?_) hs;subst ex;obtain rfl:u=Value.ref a:=rx;exact BA hu I3 g ry rv λ s4 I4=>⟨σ,H4,I4,q3⟩
end
theorem Dt {P:LM} {w:World} {H:Hp} (h:Heap) (hb:sysModules < h.objs.size):ObjOk P w H (h.push { cls:=.type "dict", data:=.dict #[] }) h.objs.size (.dK []) :=
 ⟨Ml _,beq_eq_false_iff_ne.mpr (Ne.symm (LP hb)),[],.nil,Heap.DictOf.new h⟩
noncomputable def Gh:TE:=λ _ H Q=>∀ p,H p=none->Q (.ref p) (upd H p (.dK []))
section
variable {X:Cx} {pos:Pos}
theorem Cr:PE X (.Dict [] [] pos) Gh:=λ pins s σ H Q I h =>
 wpAny_Dict_empty ⟨.ref s.heap.objs.size,_,I.laid (a:=s.heap.objs.size) (o:=.dK []) (t':=s.toks) (λ _ _ q=>Lg _ q) (Lp _) (Dt s.heap I.big),rfl,h _ (I.hok.fresh (Lp _))⟩
end
structure M1 (X:Cx) (o:Expr) (m:Str) (apos:Pos) (e:Expr) (cpos:Pos):Prop where
 base:attributeBase o m X.env (eval o X.env)=eval o X.env
 few:((backTo cpos (Lj [e] X.env)).all (λ x=>!x.1)&&(backToKw cpos (keywordEach [] X.env)).all (λ x=>x.1.isSome)
  && decide (([e]:List Expr).length+([]:List Keyword).length+(if ([]:List Keyword).isEmpty then 0 else 1) < 30))=true
 line:(apos.endLine==cpos.line)=true
 trees:backTo cpos (Lj [e] X.env)=[(false,eval e X.env)]
structure M2 (X:Cx) (o:Expr) (m:Str) (apos:Pos) (e f:Expr) (cpos:Pos):Prop where
 base:attributeBase o m X.env (eval o X.env)=eval o X.env
 few:((backTo cpos (Lj [e,f] X.env)).all (λ x=>!x.1)&&(backToKw cpos (keywordEach [] X.env)).all (λ x=>x.1.isSome)
  && decide (([e,f]:List Expr).length+([]:List Keyword).length+(if ([]:List Keyword).isEmpty then 0 else 1) < 30))=true
 line:(apos.endLine==cpos.line)=true
 trees:backTo cpos (Lj [e,f] X.env)=[(false,eval e X.env),(false,eval f X.env)]
noncomputable def IsD (H:Hp) (a:Lz):Prop:=(∃ kvs,Rd H a (.dK kvs))\/∃ kvs,Rd H a (.dT kvs)
theorem Dg {X:Cx} {pins:List (Lz×Obj)} {σ:St} {H:Hp} {s:Lh} {a:Lz} (I:Inv X pins σ H s) (d:IsD H a) :
  s.TypeIs (.ref a) "dict" /\ (∀ b,Value.ref a=.ref b->∃ ob,s.heap.get? b=some ob/\ob.dict=none)/\(a==sysModules)=false:=by
 rcases d with ⟨kvs,e⟩ | ⟨kvs,e⟩
 ·obtain ⟨_,hd,vs,_,dd⟩:=AG I.hok e;refine ⟨dd.typeIs,λ b q=>?_,hd⟩;cases q;obtain ⟨ob,_,_,h1,h2,_⟩:=dd;exact ⟨ob,h1,h2.2.1⟩
 ·obtain ⟨_,hd,xs,_,dd⟩:=Ds I.hok e;refine ⟨dd.typeIs,λ b q=>?_,hd⟩;cases q;obtain ⟨ob,_,_,h1,h2,_⟩:=dd;exact ⟨ob,h1,h2.2.1⟩
section
variable {X:Cx} {pins:List (Lz×Obj)} {σ:St} {H:Hp} {s:Lh} {a:Lz} {y d:V} {u r:Lf} {o:Option V} {A:Mb} {E:Lf->Lh->Prop}
theorem Ht {Q:Lf->Lh->Prop} (hu:A.units+1 < cLine) (I:Inv X pins σ H s) (g:DGet H a y o) (ry:RelV y u) (rd:RelV d r) (h:∀ w' s',Inv X pins σ H s'->RelV (o.getD d) w'->Q w' s') :
  L1 (L6 X.prog X.w) A (call (.builtin "dict.get") [.ref a,u,r]) Q E s:=by
 rcases g with ⟨kvs,k,e,ey,l⟩ | ⟨kvs,k,b,e,ey,eb,l⟩
 ·subst ey;obtain ⟨z,hd,vs,rel,dd⟩:=AG I.hok e;refine call_meetsIn PySem.F.slot_dict_get dd.typeIs PySem.F.entry_dict_get (PySem.F.args_dict_get_3 _ _ _) (meets_dict_get_default (cx X.prog X.w) a (De ry) hd r) ⟨_,dd.mapOf,h _ _ (I.tok _) ?_⟩;rw [l];exact (rel.val k).getD rd
 ·subst ey;cases (show u=Value.ref b from ry);obtain ⟨z,hd,xs,rel,dd⟩:=Ds I.hok e;refine call_meetsIn PySem.F.slot_dict_get dd.typeIs PySem.F.entry_dict_get (PySem.F.args_dict_get_3 _ _ _) (meetsH_dict_get_default (tupleKind (cx X.prog X.w)) a b hd r) ⟨tupleKind_room_in1 hu,k,xs,za I.hok eb,dd,h _ _ (I.tok _) ?_⟩;rw [l];exact (rel.val k).getD rd
end
noncomputable def Gi (td ty tx:TE):TE:=λ σ H Q=>td σ H λ x H1=>∃ a,x=.ref a/\IsD H1 a/\ty σ H1 λ y H2=>tx σ H2 λ z H3=>∃ o,DGet H3 a y o/\Q (o.getD z) H3
section
variable {X:Cx} {o e f:Expr} {apos cpos:Pos} {td ty tx:TE}
theorem Cs (hu:X.A.units+1 < cLine) (ho:PE X o td) (he:PE X e ty) (hf:PE X f tx) (m:M2 X o "get" apos e f cpos):PE X (.Call (.Attribute o "get" apos) [e,f] [] cpos) (Gi td ty tx):=by
 intro pins s σ H Q I h;refine wpAny_Call_method m.base m.few m.line PySem.F.plainAttrs_dict PySem.F.slot_dict_get PySem.F.type_dict_get (thn (ho pins s σ H _ I h) λ u s1 ⟨x,H1,I1,rx,a,ex,d,q1⟩=>?_);subst ex;obtain rfl:u=Value.ref a:=rx;obtain ⟨t1,t2,_⟩:=Dg I1 d;refine ⟨t1,t2,?_⟩;rw [m.trees];refine Calls.callWith_builtin rfl (Calls.evalArgs_plain (Calls.spliced_cons (thn (he pins s1 σ H1 _ I1 q1) λ iv s2 ⟨y,H2,I2,ry,q2⟩ =>
  Calls.spliced_cons (thn (hf pins s2 σ H2 _ I2 q2) λ fv s3 ⟨z,H3,I3,rz,ov,g,q3⟩=>Calls.spliced_nil ?_))))
 exact Ht hu I3 g ry rz λ w' s4 I4 rw'=>⟨_,H3,I4,rw',q3⟩
end
end L2
namespace L2
open PySem
noncomputable def wu (env:Env):List (Str×NameKind)->List (Str×Lz)->List (Str×Lz)
 | [],cs=>cs
 | (n,k)::r,cs=>wu env r (if k==.free then (n,(env.cells.lookup n).getD 0)::cs else cs)
noncomputable def yd (scope:Scope) (env:Env):List (Str×Lz):=wu env scope.names []
theorem oO {scope:Scope} {env:Env} (h:∀ x∈scope.names,x.2=.free->∃ c,env.cells.lookup x.1=some c):closureFor scope env=pure (yd scope env):=by
 unfold closureFor yd;have key:∀ (l:List (Str×NameKind)) (cs:List (Str×Lz)),(∀ x∈l,x.2=.free->∃ c,env.cells.lookup x.1=some c) ->
   (forIn l cs (λ x (r:List (Str×Lz))=>match x with
    | (name,kind)=>if (kind==NameKind.free)=true then do let a <- cellOf env name; pure (ForInStep.yield ((name,a)::r)) else pure (ForInStep.yield r)):Sem (List (Str×Lz)))=pure (wu env l cs):=by
  intro l
  induction l with
  | nil=>intro cs _; rfl
  | cons x r ih =>
   intro cs hx;obtain ⟨n,k⟩:=x;rw [List.forIn_cons];by_cases hk:(k==NameKind.free)=true
   ·obtain ⟨c,hc⟩:=hx (n,k) Lc (by simpa using hk);have e:cellOf env n=pure c:=by unfold cellOf; rw [show env.cells.lookup n=some c from hc]
    simp only [hk,if_true,e,pure_bind];rw [ih _ λ y hy=>hx y (La _ hy)];have hc':env.cells.lookup n=some c:=hc;simp only [wu,hk,if_true,hc',Option.getD_some]
   ·simp only [hk,Nd,if_false,pure_bind];rw [ih _ λ y hy=>hx y (La _ hy)];simp only [wu,hk,Nd,if_false]
 have:=key scope.names [] h
 dsimp only;rw [this];rfl
theorem ye (env:Env):∀ (l:List (Str×NameKind)) (cs:List (Str×Lz)) (p:Str×Lz),p∈wu env l cs->p∈cs\/((p.1,NameKind.free)∈l/\p.2=(env.cells.lookup p.1).getD 0)
 | [],cs,p,h=>.inl h
 | (n,k)::r,cs,p,h=>by
  unfold wu at h;rcases ye env r _ p h with h | ⟨h1,h2⟩
  ·by_cases hk:(k==NameKind.free)=true
   ·rw [if_pos hk] at h;rcases LA.mp h with h | h
    ·have e:k=.free:=by simpa using hk
     subst h; subst e;exact .inr ⟨Lc,rfl⟩
    ·exact .inl h
   ·rw [if_neg hk] at h; exact .inl h
  ·exact .inr ⟨La _ h1,h2⟩
theorem yf (env:Env):∀ (l:List (Str×NameKind)) (cs:List (Str×Lz)) (n:Str),((n,NameKind.free)∈l\/∃ a,(n,a)∈cs)->∃ a,(n,a)∈wu env l cs
 | [],cs,n,h=>by
  rcases h with h | h
  ·cases h
  ·exact h
 | (m,k)::r,cs,n,h=>by
  unfold wu;refine yf env r _ n ?_;rcases h with h | ⟨a,h⟩
  ·rcases LA.mp h with h | h
   ·cases h;exact .inr ⟨_,by rw [if_pos (by simp)]; exact Lc⟩
   ·exact .inl h
  ·refine .inr ⟨a,?_⟩
   split
   ·exact La _ h
   ·exact h
theorem km {β:Type}:∀ {l:List (Str×β)} {n:Str} {a:β},(n,a)∈l->∃ b,l.lookup n=some b
 | [],_,_,h=>by cases h
 | (m,b)::r,n,a,h=>by
  rw [MK];by_cases e:n=m
  ·subst e; simp
  ·have hb:(n==m)=false:=by simpa using e
   rw [hb];rcases LA.mp h with h | h
   ·cases h; exact absurd rfl e
   ·exact km h
theorem AK {scope:Scope} {env:Env} (h:∀ x∈scope.names,x.2=.free->∃ c,env.cells.lookup x.1=some c) {x:Str} {c:Lz} (e:(yd scope env).lookup x=some c):env.cells.lookup x=some c:=by
 have m:=PySem.mem_of_lookup e;rcases ye env scope.names [] (x,c) m with h' | ⟨h1,h2⟩
 ·cases h'
 ·obtain ⟨d,hd⟩:=h _ h1 rfl;have hd':env.cells.lookup x=some d:=hd;have h2':c=(env.cells.lookup x).getD 0:=h2;rw [hd'] at h2' ⊢;rw [h2']; rfl
theorem yc {scope:Scope} {env:Env} {x:Str} (h:(x,NameKind.free)∈scope.names):∃ c,(yd scope env).lookup x=some c:=by
 obtain ⟨a,ha⟩:=yf env scope.names [] x (.inl h);exact km ha
end L2
namespace L2
open PySem PySem.Spec PyProof.Rows
structure CompSc (X:Cx) (scope:Scope) (N':List Str) (mp:List (Option Nat)):Prop where
 kind:scope.kind=.function
 nocell:∀ x∈scope.names,x.2≠.cell
 names:∀ x∈scope.names,x.2=.local->scope.names.lookup x.1=some .local
 fr:∀ x∈scope.names,x.2=.free->X.env.scope.names.lookup x.1=some .cell\/X.env.scope.names.lookup x.1=some .free
 len:mp.length=N'.length
 map:∀ (i:Nat) (x:Str) (j:Nat),N'[i]?=some x->mp[i]?=some (some j)->X.N[j]?=some x/\(x,NameKind.free)∈scope.names/\((relabel scope X.env).names.lookup x=some .cell\/(relabel scope X.env).names.lookup x=some .free)
noncomputable def gR (mp:List (Option Nat)) (σ:St):St:=mp.map λ o=>o.bind λ j=>(σ[j]?).join
noncomputable def b6 (X:Cx) (scope:Scope) (N':List Str) (s:Lh) (H:Hp) (fp:List Lz):Cx :=
 { X with N:=N',s₀:=s,H₀:=H,env:=compEnvC scope (yd scope X.env) s.heap.objs.size X.env,outer:=X.stack,ex:=fp,fn:=λ _=>false,pn:=[],xe:=λ _ _=>False }
theorem vK {scope:Scope} {env:Env} {x:Str} (nc:∀ y∈scope.names,y.2≠.cell) (h:(relabel scope env).names.lookup x=some .cell\/(relabel scope env).names.lookup x=some .free):(x,NameKind.free)∈scope.names:=by
 have m:∃ k,(x,k)∈(relabel scope env).names/\(k=.cell\/k=.free):=by
  rcases h with h | h
  ·exact ⟨_,PySem.mem_of_lookup h,.inl rfl⟩
  ·exact ⟨_,PySem.mem_of_lookup h,.inr rfl⟩
 obtain ⟨k,hm,hk⟩:=m;unfold relabel at hm;obtain ⟨⟨n,k'⟩,hin,e⟩:=LI.mp hm;dsimp only at e;split at e
 ·rename_i hc;have e1:n=x:=congrArg Prod.fst e;have e2:k'=.free:=by
   have:=(MW.mp (MW.mp hc).1).1
   simpa using this
  rw [<- e1,<- e2]; exact hin
 ·have e1:n=x:=congrArg Prod.fst e;have e2:k'=k:=congrArg Prod.snd e;rcases hk with hk | hk
  ·exact absurd (e2.trans hk) (nc _ hin)
  ·rw [<- e1,<- hk,<- e2]; exact hin
section
variable {X:Cx} {pins:List (Lz×Obj)} {σ:St} {H:Hp} {s:Lh} {scope:Scope} {N':List Str} {mp:List (Option Nat)} {fp:List Lz}
theorem CompSc.cells (ck:CompSc X scope N' mp) (ok:X.Ok):∀ x∈scope.names,x.2=.free->∃ c,X.env.cells.lookup x.1=some c:=λ x hx hf=>ok.has x.1 (ck.fr x hx hf)
theorem Inv.inner (I:Inv X pins σ H s) (ck:CompSc X scope N' mp) (hf:∀ b∈fp,o4 X pins H b) (hlt:∀ b∈fp,b < s.heap.objs.size) {h₁:Heap} {tk:Nat}
  (hn:h₁.Ns s.heap.objs.size (λ _=>none)) (hk:∀ b o,s.heap.get? b=some o->h₁.get? b=some o) :
  Inv (b6 X scope N' s H fp) [] (gR mp σ) H { s with heap:=h₁,toks:=tk }:=by
 have hfree:=ck.cells I.ok;have cin:∀ x c,(yd scope X.env).lookup x=some c->X.env.cells.lookup x=some c:=λ x c e=>AK hfree e;have clt:∀ x c,X.env.cells.lookup x=some c->c < s.heap.objs.size:=λ x c e=>by
  obtain ⟨v,q⟩:=I.cell x c e;exact q.lt
 refine ⟨⟨I.ok.mod,ck.kind,I.ok.glob,I.ok.blt,Lp _,λ x y c h1 h2=>I.ok.inj x y c (cin x c h1) (cin y c h2),λ x hx=>?_,λ x c h _=>?_,I.ok.hd,I.ok.frames,.inl rfl,λ b hb=>⟨?_,λ x c e=>?_⟩,I.bs,LS I.ok.bsz I.sz,λ b o e hb=>?_,λ b hb hs=>?_,I.stack,I.stkFree⟩,rfl,I.bare,Un.kept hk,⟨_,hn,λ i x v h1 h2 h3=>?_⟩,λ x c e=>?_,I.hok.fresh (Lp _),λ x c e=>?_,λ p hp=>absurd (show p∈([]:List (Lz×Obj)) from hp) (by simp),I.hok.kept hk,?_⟩
 ·exact yc (vK ck.nocell hx)
 ·exact absurd (show false=true from h) (by decide)
 ·exact LP (hlt b hb)
 ·exact (hf b hb).2.2.2.2.1 x c (cin x c e)
 ·have q:=(hf b hb).2.2.2.1;rcases q with q | q
  ·exact I.ok.noex b o e q
  ·exact absurd (LF (Ly e) (LS I.ok.bsz q)) (MU _)
 ·rcases LA.mp (I.stkSub b hs) with z | z
  ·exact (hf b hb).2.1 z
  ·exact (hf b hb).2.2.1 z
 ·have hi:∃ j,mp[i]?=some (some j)/\σ[j]?=some (some v):=by
   unfold gR at h2;rw [Le] at h2;cases q:mp[i]? with
   | none=>rw [q] at h2; cases h2
   | some o =>
    rw [q] at h2;have h2':(o.bind λ j=>(σ[j]?).join)=some v:=Option.some.inj h2;cases o with
    | none=>cases h2'
    | some j =>
     have h2'':(σ[j]?).join=some v:=h2';refine ⟨j,rfl,?_⟩;cases r:σ[j]? with
     | none=>rw [r] at h2''; cases h2''
     | some w' =>
      rw [r] at h2''
      have:w'=some v:=h2''
      rw [this]
  obtain ⟨j,hj,hσ⟩:=hi;obtain ⟨m1,m2,m3⟩:=ck.map i x j h1 hj;obtain ⟨m,hm,hl⟩:=I.loc;have vis:Vis X.env.scope x:=by
   rcases ck.fr _ m2 rfl with q | q
   ·exact .inr (.inl q)
   ·exact .inr (.inr q)
  obtain ⟨u,ru,l⟩:=hl j x v m1 hσ vis;refine ⟨u,ru,.inr ⟨m3,?_⟩⟩;obtain ⟨c,hc⟩:=yc (env:=X.env) m2;refine ⟨c,hc,?_⟩;rcases l with ⟨k,_⟩ | ⟨_,c',e',z⟩
  ·rcases ck.fr _ m2 rfl with q | q
   ·have k':X.env.scope.names.lookup x=some .local:=k;have q':X.env.scope.names.lookup x=some .cell:=q;rw [k'] at q'; cases q'
   ·have k':X.env.scope.names.lookup x=some .local:=k;have q':X.env.scope.names.lookup x=some .free:=q;rw [k'] at q'; cases q'
  ·have e2:=cin x c hc;rw [e'] at e2;cases e2;obtain ⟨o,ho,hd⟩:=z;exact ⟨o,hk _ o ho,hd⟩
 ·obtain ⟨v,o,ho,hd⟩:=I.cell x c (cin x c e);exact ⟨v,o,hk _ o ho,hd⟩
 ·exact I.freeC x c (cin x c e)
 ·show (gR mp σ).length=N'.length;unfold gR;rw [K7];exact ck.len
theorem Inv.outer {σ':St} {H':Hp} {s':Lh} (I:Inv X pins σ H s) (hf:∀ b∈fp,o4 X pins H b) (J:Inv (b6 X scope N' s H fp) [] σ' H' s'):Inv X pins σ H' s' :=
 I.call' (ch:=fp) J.os J.base J.hok J.bare λ b hb=>⟨(hf b hb).2.2.2.1,(hf b hb).2.1,(hf b hb).2.2.2.2.1,(hf b hb).2.2.2.2.2⟩
end
noncomputable def sw (σ σ':St):Prop:=σ'.length=σ.length/\∀ (i:Nat) v,σ[i]?=some (some v)->σ'[i]?=some (some v)
noncomputable def PTs (X:Cx) (ifs:List Expr) (t:TT):Prop :=
 ∀ (pins:List (Lz×Obj)) (s:Lh) (σ:St) (H:Hp) (Q:Bool->Hp->Prop),Inv X pins σ H s->t σ H Q ->
  L1 (L6 X.prog X.w) X.A (forIn ifs true λ c r=>if r=true then do let ok <- isTrue c X.env (eval c X.env); pure (ForInStep.yield ok) else pure (ForInStep.yield r)) (TP X pins σ Q) X.xe s
theorem zR {X:Cx}:PTs X [] (λ _ H Q=>Q true H):=λ _ _ _ H _ I h=>wpAny_tests_nil ⟨H,I,h⟩
theorem zQ {X:Cx} {c:Expr} {t:TT} (hc:PT X c t):PTs X [c] t:=λ pins s σ H Q I h=>wpAny_tests_one (hc pins s σ H Q I h)
noncomputable def F8 (J:It) (σ':St) (g:TG) (tt:TT) (te:TE) (D:Lz) (Fin:Hp->Prop) (H1:Hp):Prop :=
 ∃ W:Nat->Nat->Hp->Prop,(∃ m,W 0 m (upd H1 D (.lst [])))/\∀ i m H,W i m H ->
  (J.stop i H/\Fin H)\/(J.go i H/\∃ Nx:Hp->Prop,(∀ H',Nx H'->∃ m',m' < m/\W (i+1) m' H')/\∀ x H',J.yld i H x H'->g x σ' H' λ σ2 H2=>sw σ' σ2 /\
   tt σ2 H2 λ ok H3=>if ok=true then te σ2 H3 λ y H4=>∃ ys,H4 D=some (.lst ys)/\ys.length < Li/\Nx (upd H4 D (.lst (ys++[y]))) else Nx H3)
noncomputable def zD (mp:List (Option Nat)) (wi:TI) (g:TG) (tt:TT) (te:TE):TE:=λ σ H Q=>wi σ H λ J H1=>∀ D,H1 D=none->F8 J (gR mp σ) g tt te D (λ H=>Q (.ref D) H) H1
theorem nJ {prog:LM} {w:World} {A:Mb} {R:Result->Lh->Prop} {s:Lh} {elt target iter:Expr} {ifs:List Expr} {scope:Scope} {pos:Pos} {it acc:Lf} {env:Env} (I:Nat->Lh->Prop)
  (turn:∀ n s,I n s->L1 (L6 prog w) A (pyNext it) (λ r s₁=>match r with
   | none=>R (.ok .next) s₁
   | some v=>L1 (L6 prog w) A (letOwnedTupleGo target it v) (λ _ s₀=>L1 (L6 prog w) A (assign target env v) (λ _ s₂ =>
     L1 (L6 prog w) A (forIn ifs true λ c r=>if r=true then do let ok <- isTrue c env (eval c env); pure (ForInStep.yield ok) else pure (ForInStep.yield r)) (λ ok s₃ =>
      if ok=true then L1 (L6 prog w) A (eval elt env) (λ x s₄ =>
       L1 (L6 prog w) A (call (.builtin "list.append") [acc,x]) (λ _ s₅=>∃ m,m < n/\I m s₅) (λ _ _=>False) s₄) (λ _ _=>False) s₃
      else ∃ m,m < n/\I m s₃) (λ _ _=>False) s₂) (λ _ _=>False) s₀) (λ _ _=>False) s₁) (λ _ _=>False) s)
  (n:Nat) (h:I n s) :
  codeAny (L6 prog w) A (.compLoop (.ListComp elt [⟨target,iter,ifs,0⟩] scope pos) 0 it acc env) R s:=by
 refine codeAny_loop rfl I (λ n s hI=>?_) n h;show L1 _ A ((compTurn (.ListComp elt [⟨target,iter,ifs,0⟩] scope pos) 0 it acc env).onRaise (λ x=>do noteFrame x env; theTreesLotGoes x)) _ _ s;refine wpAny_noted ?_;rw [compTurn_list];have no:∀ {P:Lf->Lh->Prop} (e:Lf) (s':Lh),False->P e s':=λ _ _ f=>f.elim;refine Lo (wpAny_standAt (Lo (wpAny_mono (turn n s hI) (λ r s₁ h₁=>?_) no)));cases r with
 | none=>exact LH h₁
 | some v =>
  refine Lo (wpAny_mono h₁ (λ _ s₀ h₀=>?_) no);refine Lo (wpAny_mono h₀ (λ _ s₂ h₂=>Lo (wpAny_mono h₂ (λ ok s₃ h₃=>?_) no)) no);cases ok with
  | false=>exact LH ⟨rfl,h₃⟩
  | true =>
   exact Lo (Lo (wpAny_mono h₃ (λ x s₄ h₄=>Lo (wpAny_mono h₄ (λ _ s₅ h₅=>LH (LH ⟨rfl,h₅⟩)) no)) no))
section
variable {X:Cx} {elt iter tg:Expr} {ifs:List Expr} {scope:Scope} {pos:Pos} {N':List Str} {mp:List (Option Nat)} {wi:TI} {g:TG} {tt:TT} {te:TE}
theorem tY {pins:List (Lz×Obj)} {σ:St} {H:Hp} {s:Lh} {J:It} {it:Lz} {fp:List Lz} {tn:Nat->Heap->Prop} {Fin:Hp->Prop} {E:Lf->Lh->Prop} {RR:Lf->Lz->Result->Lh->Prop}
  (hc:X.calm=true) (ck:CompSc X scope N' mp) (hb:∀ s H fp,PG (b6 X scope N' s H fp) tg g/\PTs (b6 X scope N' s H fp) ifs tt/\PE (b6 X scope N' s H fp) elt te)
  (I:Inv X pins σ H s) (T:Turn X.prog X.w X.K tg J fp it tn) (st:tn 0 s.heap) (hf:∀ b∈fp,o4 X pins H b) (hq:F8 J (gR mp σ) g tt te s.heap.objs.size Fin H)
  (hRR:∀ (C:Lz) (s':Lh) (H':Hp),Inv X pins σ H' s'->Fin H'->(∃ m,s'.heap.Ns C m)->H' C=none->C≠X.env.locals->X.s₀.heap.objs.size<=C->(∀ x c,X.env.cells.lookup x=some c->c≠C)->(∀ p∈X.pn++pins,p.1≠C)->RR (.ref s.heap.objs.size) C (.ok .next) s') :
  L1 (L6 X.prog X.w) X.A (newList []) (λ acc s₃=>L1 (L6 X.prog X.w) X.A (newFunctionEnv scope X.env.globals (yd scope X.env) [] X.env.qual none .none (some X.env)) (λ cenv s₄ =>
   codeAny (L6 X.prog X.w) X.A (.compStart (.ListComp elt [⟨tg,iter,ifs,0⟩] scope pos) 0 (.ref it) acc { cenv with scope:=relabel scope X.env }) (RR acc cenv.locals) s₄) E s₃) E s:=by
 refine wpAny_newObj_type (wpAny_newFunctionEnv ck.nocell (by intro y hy; simp at hy) (λ h₁ hns₁ hsb₁=>?_) ck.kind);dsimp only at hns₁ hsb₁ ⊢;have I3:Inv X pins σ (upd H s.heap.objs.size (.lst [])) { s with heap:=s.heap.push { cls:=.type "list", dict:=none,data:=.seq ([]:List Lf).toArray } }:=I.lnew (its:=[]) (t':=s.toks) .nil (Ml _);generalize hs3:({ s with heap:=s.heap.push { cls:=.type "list", dict:=none,data:=.seq ([]:List Lf).toArray } }:Lh)=s3 at I3;have e3:s.heap.push { cls:=.type "list", dict:=none,data:=.seq ([]:List Lf).toArray }=s3.heap:=by rw [<- hs3]
 rw [e3] at hns₁ hsb₁ ⊢;have sz3:s3.heap.objs.size=s.heap.objs.size+1:=by rw [<- e3,Heap.size_push]
 have le3:s.heap.objs.size<=s3.heap.objs.size:=by rw [sz3]; exact Nat.le_succ _
 have fplt:∀ b∈fp,b < s.heap.objs.size:=λ b hb=>by
  obtain ⟨o,e,_⟩:=T.obj 0 _ st b hb;exact Ly e
 have hf3:∀ b∈fp,o4 X pins (upd H s.heap.objs.size (.lst [])) b:=λ b hb=>⟨by rw [aE (LP (fplt b hb))]; exact (hf b hb).1,(hf b hb).2⟩;have k1:∀ b o,s3.heap.get? b=some o->h₁.get? b=some o:=λ b o e=>by
  rw [hsb₁.2 b (LP (Ly e))];exact Lg _ e
 have k0:∀ b o,s.heap.get? b=some o->h₁.get? b=some o:=λ b o e=>k1 b o (by rw [<- e3]; exact Lg _ e);obtain ⟨W,⟨m0,w0⟩,turn⟩:=hq;obtain ⟨hg,ht,he⟩:=hb s3 (upd H s.heap.objs.size (.lst [])) fp;have no:∀ {P:Lf->Lh->Prop} (e:Lf) (s':Lh),False->P e s':=λ _ _ f=>f.elim;have stat:∀ {H':Hp},(∀ b∈fp,H' b=none)->∀ b∈fp,o4 (b6 X scope N' s3 (upd H s.heap.objs.size (.lst [])) fp) [] H' b:=λ hn b hb =>
  ⟨hn b hb,LP (LF (fplt b hb) le3),λ z=>by
   rcases LA.mp (I3.stkSub b z) with z | z
   ·exact (hf b hb).2.1 z
   ·exact (hf b hb).2.2.1 z,.inl hb,λ x c e=>(hf b hb).2.2.2.2.1 x c (AK (ck.cells I.ok) e),λ p hp=>absurd (show p∈([]:List (Lz×Obj)) from hp) (by simp)⟩
 have loop:∀ tk:Nat,codeAny (L6 X.prog X.w) X.A (.compLoop (.ListComp elt [⟨tg,iter,ifs,0⟩] scope pos) 0 (.ref it) (.ref s.heap.objs.size) (compEnvC scope (yd scope X.env) s3.heap.objs.size X.env))
   (RR (.ref s.heap.objs.size) s3.heap.objs.size) { s3 with heap:=h₁,toks:=tk }:=by
  intro tk;have I4:Inv (b6 X scope N' s3 (upd H s.heap.objs.size (.lst [])) fp) [] (gR mp σ) (upd H s.heap.objs.size (.lst [])) { s3 with heap:=h₁,toks:=tk } :=
   I3.inner ck hf3 (λ b hb=>LF (fplt b hb) le3) (by simpa using hns₁) k1
  refine nJ (λ n s'=>∃ i H',Inv (b6 X scope N' s3 (upd H s.heap.objs.size (.lst [])) fp) [] (gR mp σ) H' s'/\tn i s'.heap/\(∀ b∈fp,H' b=none)/\W i n H') ?_ m0
   ⟨0,_,I4,T.keep _ _ _ st λ b _ o e=>k0 b o e,λ b hb=>(hf3 b hb).1,w0⟩
  rintro n s5 ⟨i,H5,I5,st5,fr5,w5⟩
  rcases turn i n H5 w5 with ⟨stop,fin⟩ | ⟨go,Nx,hN,step⟩
  ·refine thn (T.done (b6 X scope N' s3 (upd H s.heap.objs.size (.lst [])) fp) rfl rfl rfl hc i [] s5 (gR mp σ) H5 _ I5 (stat fr5) st5 stop) λ r s6 ⟨hr,I6⟩=>?_;subst hr;have IO:Inv X pins σ H5 s6:=I3.outer hf3 I6;obtain ⟨m,hm,_⟩:=I6.loc;refine hRR _ s6 H5 IO fin ⟨m,hm⟩ I6.free (Nat.ne_of_gt I3.lt) I3.sz (λ x c e=>?_) λ p hp=>?_
   ·obtain ⟨v,q⟩:=I3.cell x c e;exact LP q.lt
   ·exact LP (Ly (I3.pin p hp).1)
  ·refine thn (T.item (b6 X scope N' s3 (upd H s.heap.objs.size (.lst [])) fp) rfl rfl rfl hc i [] s5 (gR mp σ) H5 _ I5 (stat fr5) st5 go) λ r s6 ⟨u,hr,h6⟩=>?_;subst hr;refine thn h6 λ _ s7 ⟨x,H7,I7,r7,y7,st7,fr7⟩=>?_;have I7':=I7.pinned (stat fr7) (T.obj _ _ st7);have back:∀ {σ9:St} {H9:Hp} {s9:Lh},Inv (b6 X scope N' s3 (upd H s.heap.objs.size (.lst [])) fp) ([]++sQ fp s7.heap) σ9 H9 s9->sw (gR mp σ) σ9->Nx H9 ->
     ∃ m,m < n/\∃ i H',Inv (b6 X scope N' s3 (upd H s.heap.objs.size (.lst [])) fp) [] (gR mp σ) H' s9/\tn i s9.heap/\(∀ b∈fp,H' b=none)/\W i m H':=λ {σ9 H9 s9} I9 ks n9=>by
    obtain ⟨m',hm,w9⟩:=hN H9 n9;refine ⟨m',hm,i+1,H9,(Inv.unpinned (pins:=[]) I9).weak ks.1.symm ks.2,T.keep _ _ _ st7 λ b hb o e=>(I9.pin (b,o) (LR _ (LR _ (lP hb e)))).1,λ b hb=>?_,w9⟩;obtain ⟨o,e,d⟩:=T.obj _ _ st7 b hb;exact (I9.pin (b,o) (LR _ (LR _ (lP hb e)))).2.1
   refine thn (hg _ s7 (gR mp σ) H7 x u _ I7' r7 (step x H7 y7)) λ _ s8 ⟨σ8,H8,I8,ks,q8⟩=>?_;refine thn (ht _ s8 σ8 H8 _ I8 q8) λ ok s9 ⟨H9,I9,q9⟩=>?_;cases ok with
   | false =>
    rw [if_neg LB] at q9 ⊢;exact back I9 ks q9
   | true =>
    rw [if_pos rfl] at q9 ⊢;refine thn (he _ s9 σ8 H9 _ I9 q9) λ y s10 ⟨yv,H10,I10,r10,ys,hD,hlen,nx⟩=>?_;refine thn (qy _ s10 σ8 H10 (.ref s.heap.objs.size) [yv] (.ref s.heap.objs.size) [y] (λ _ H'=>Nx H') I10 rfl (.cons r10 .nil) ⟨_,ys,yv,rfl,rfl,hD,hlen,nx⟩) λ z s11 ⟨zv,H11,I11,_,n11⟩=>?_;exact back I11 ks n11
 subst hs3;exact codeAny_compStart_list (loop _) (T.self _ 0 _ _ _ (T.keep _ _ _ st λ b _ o e=>k0 b o e) (loop _))
theorem z5 (hc:X.calm=true) (ck:CompSc X scope N' mp) (hi:PI X tg iter wi)
  (hb:∀ s H fp,PG (b6 X scope N' s H fp) tg g/\PTs (b6 X scope N' s H fp) ifs tt/\PE (b6 X scope N' s H fp) elt te)
  (hs:∀ x,foldedSetIterable iter X.env x=pure x:=by intro _; rfl):PE X (.ListComp elt [⟨tg,iter,ifs,0⟩] scope pos) (zD mp wi g tt te):=by
 intro pins s σ H Q I h;rw [eval_ListComp];refine wpAny_comprehension_free (use:=none) rfl hs (oO (ck.cells I.ok)) ck.kind ck.names ?_;refine thn (hi pins s σ H _ I h) λ v s1 h1=>thn h1 λ itv s2 h2=>?_;obtain ⟨it,fp,tn,J,H2,e,I2,T,st2,f2,q2⟩:=h2;subst e;refine tY hc ck hb I2 T st2 f2 (q2 _ (I2.hok.fresh (Lp _))) λ C s' H' I' fin hm hC h1 h2 h3 h4=>?_;obtain ⟨m,hm⟩:=hm;refine ⟨m,hm,λ h' sb=>⟨.ref _,H',?_,rfl,fin⟩⟩;exact I'.turned (t':=s'.toks) (λ b o hb e=>(sb.2 b hb).trans e) hC h1 (.inr h2) h3 h4
theorem sO {i:Nat} {y:Str} {py spos:Pos} (hc:X.calm=true) (hN:X.N.Nodup) (hiy:X.N[i]?=some y) (hy:X.env.scope.names.lookup y=some .local) (ck:CompSc X scope N' mp) (hi:PI X tg iter wi)
  (hb:∀ s H fp,PG (b6 X scope N' s H fp) tg g/\PTs (b6 X scope N' s H fp) ifs tt/\PE (b6 X scope N' s H fp) elt te)
  (hsw:swapsWith (.ListComp elt [⟨tg,iter,ifs,0⟩] scope pos) (some (.Name y py)) spos.line X.env=pure true:=by rfl)
  (hs:∀ x,foldedSetIterable iter X.env x=pure x:=by intro _; rfl) :
  PS X (.Assign [.Name y py] (.ListComp elt [⟨tg,iter,ifs,0⟩] scope pos) spos) (Ed (zD mp wi g tt te) (u6 i)):=by
 intro pins s σ H D I h;rw [exec_Assign_Name_used _ _ _ _ hsw];refine Lo (wpAny_standAt (Lo ?_));show L1 _ X.A (do let _ <- comprehension (.ListComp elt [⟨tg,iter,ifs,0⟩] scope pos) scope X.env _ (newList []) false (eval iter X.env) (some (assign (.Name y py) X.env))) _ _ s;refine Lo (wpAny_mono (wpAny_comprehension_free (use:=some (assign (.Name y py) X.env)) (Q:=λ _ s'=>SP X pins D .next s') rfl hs (oO (ck.cells I.ok)) ck.kind ck.names ?_) (λ _ s' hq=>LH (LH hq)) λ _ _ e=>e);refine thn (hi pins s σ H _ I h) λ v s1 h1=>thn h1 λ itv s2 h2=>?_;obtain ⟨it,fp,tn,J,H2,e,I2,T,st2,f2,q2⟩:=h2;subst e;refine tY hc ck hb I2 T st2 f2 (q2 _ (I2.hok.fresh (Lp _))) λ C s' H' I' fin hm hC h1 h2 h3 h4=>?_;obtain ⟨m,hm⟩:=hm;refine wpAny_assign_Name (uN (v:=.ref s2.heap.objs.size) I' hN hiy (.inl hy) rfl (λ s'' I'' ⟨a,sb,ha⟩=>?_) (.inr hy));have hCa:C≠a:=by
  rcases ha with ha | ha
  ·rw [ha]; exact h1
  ·exact λ z=>h3 _ _ ha z.symm
 refine ⟨m,hm.sameBut sb hCa,λ h' sb'=>⟨_,H',?_,fin⟩⟩;exact I''.turned (t':=s''.toks) (λ b o hb e=>(sb'.2 b hb).trans e) hC h1 (.inr h2) h3 h4
end
end L2
namespace L2.PU
open PySem PySem.Spec PyProof.Rows
noncomputable def nst:Expr->Bool
 | .Starred _ _=>false
 | _=>true
theorem bD {e:Expr} {es:List Expr} {env:Env} (h:nst e=true):Lj (e::es) env=(false,eval e env)::Lj es env:=by
 cases e <;> first | rfl | cases h
theorem BX {a b:Expr} {env:Env} (ha:nst a=true) (hb:nst b=true):Lj [a,b] env=[(false,eval a env),(false,eval b env)]:=by rw [bD ha,bD hb]; rfl
theorem iJ {pos:Pos} {env:Env}:∀ {es:List Expr},es.all nst=true->(backTo pos (Lj es env)).any (·.1)=false
 | [],_=>rfl
 | e::es,h=>by
  rw [MO,L4] at h;rw [bD h.1];show (false||(backTo pos (Lj es env)).any (·.1))=false;rw [iJ h.2]; rfl
noncomputable def kD:Key->K5
 | .inl i=>.int i
 | .inr x=>.str x
mutual
noncomputable def Rel (K:K6) (F:Hp):K5->V->Prop
 | .none,v=>v=.non
 | .bool b,v=>v=.bl b
 | .int i,v=>v=.int i
 | .str x,v=>v=.str x
 | .tuple ds,v=>∃ a xs,v=.ref a/\SqT K F a xs/\RelL K F ds xs
 | .list ds,v=>∃ a xs,v=.ref a/\SqL K F a xs/\RelL K F ds xs
 | .dict es,v=>∃ a ks,v=.ref a/\Rd F a (.dK ks)/\RelD K F es ks
noncomputable def RelL (K:K6) (F:Hp):List K5->List V->Prop
 | [],xs=>xs=[]
 | d::ds,xs=>∃ x r,xs=x::r/\Rel K F d x/\RelL K F ds r
noncomputable def RelD (K:K6) (F:Hp):List (K5×K5)->List (Key×V)->Prop
 | [],ks=>ks=[]
 | (d,e)::es,ks=>∃ k x r,ks=(k,x)::r/\d=kD k/\Rel K F e x/\RelD K F es r
end
section
variable {K:K6} {F F' H H':Hp}
theorem cn {a:Lz} {xs:List V} (e:Same H H') (h:SqT K H a xs):SqT K H' a xs:=by
 rcases h with (h | ⟨o,h⟩) | h
 ·exact .inl (.inl (e _ _ h))
 ·exact .inl (.inr ⟨o,e _ _ h⟩)
 ·exact .inr h
theorem zP {a:Lz} {u:HO} (e:Same F F') (h:Rd F a u):Rd F' a u:=h.elim (λ h=>.inl (e _ _ h)) λ ⟨o,h⟩=>.inr ⟨o,e _ _ h⟩
theorem dj {p:Lz} (h:H p=none) (o:HO):Same H (upd H p o):=λ b u q=>by rw [aE (aR q h)]; exact q
mutual
theorem Rel.mono (e:Same F F'):∀ {d:K5} {v:V},Rel K F d v->Rel K F' d v
 | .none,v,h=>by unfold Rel at h ⊢; exact h
 | .bool b,v,h=>by unfold Rel at h ⊢; exact h
 | .int i,v,h=>by unfold Rel at h ⊢; exact h
 | .str x,v,h=>by unfold Rel at h ⊢; exact h
 | .tuple ds,v,h=>by
  unfold Rel at h ⊢;obtain ⟨a,xs,h1,h2,h3⟩:=h;exact ⟨a,xs,h1,cn e h2,RelL.mono e h3⟩
 | .list ds,v,h=>by
  unfold Rel at h ⊢;obtain ⟨a,xs,h1,h2,h3⟩:=h;exact ⟨a,xs,h1,e.seq h2,RelL.mono e h3⟩
 | .dict es,v,h=>by
  unfold Rel at h ⊢;obtain ⟨a,ks,h1,h2,h3⟩:=h;exact ⟨a,ks,h1,zP e h2,RelD.mono e h3⟩
theorem RelL.mono (e:Same F F'):∀ {ds:List K5} {xs:List V},RelL K F ds xs->RelL K F' ds xs
 | [],xs,h=>by unfold RelL at h ⊢; exact h
 | d::ds,xs,h=>by
  unfold RelL at h ⊢;obtain ⟨x,r,h1,h2,h3⟩:=h;exact ⟨x,r,h1,Rel.mono e h2,RelL.mono e h3⟩
theorem RelD.mono (e:Same F F'):∀ {es:List (K5×K5)} {ks:List (Key×V)},RelD K F es ks->RelD K F' es ks
 | [],ks,h=>by unfold RelD at h ⊢; exact h
 | (d,e')::es,ks,h=>by
  unfold RelD at h ⊢;obtain ⟨k,x,r,h1,h2,h3,h4⟩:=h;exact ⟨k,x,r,h1,h2,Rel.mono e h3,RelD.mono e h4⟩
end
theorem Rel.dct {es:List (K5×K5)} {v:V} (h:Rel K F (.dict es) v):∃ a ks,v=.ref a/\Rd F a (.dK ks)/\RelD K F es ks:=by unfold Rel at h; exact h
theorem zO {es:List (K5×K5)} {a:Lz} {ks:List (Key×V)} (h:Rd F a (.dK ks)) (r:RelD K F es ks):Rel K F (.dict es) (.ref a):=by unfold Rel; exact ⟨a,ks,rfl,h,r⟩
theorem RelD.nil:RelD K F [] []:=by unfold RelD; rfl
theorem RelD.nil_of {ks:List (Key×V)} (h:RelD K F [] ks):ks=[]:=by unfold RelD at h; exact h
theorem RelD.cons_of {d e:K5} {es:List (K5×K5)} {ks:List (Key×V)} (h:RelD K F ((d,e)::es) ks):∃ k x r,ks=(k,x)::r/\d=kD k/\Rel K F e x/\RelD K F es r:=by unfold RelD at h; exact h
theorem RelD.cons {k:Key} {e:K5} {x:V} {es:List (K5×K5)} {ks:List (Key×V)} (h:Rel K F e x) (t:RelD K F es ks):RelD K F ((kD k,e)::es) ((k,x)::ks):=by unfold RelD; exact ⟨k,x,ks,rfl,rfl,h,t⟩
noncomputable def prs (kvs:List (Key×K5)):List (K5×K5):=kvs.map λ e=>(kD e.1,e.2)
theorem RelL.nil:RelL K F [] []:=by unfold RelL; rfl
theorem RelL.cons {d:K5} {ds:List K5} {x:V} {xs:List V} (h:Rel K F d x) (t:RelL K F ds xs):RelL K F (d::ds) (x::xs):=by unfold RelL; exact ⟨x,xs,rfl,h,t⟩
theorem RelL.nil_of {xs:List V} (h:RelL K F [] xs):xs=[]:=by unfold RelL at h; exact h
theorem RelL.cons_of {d:K5} {ds:List K5} {xs:List V} (h:RelL K F (d::ds) xs):∃ x r,xs=x::r/\Rel K F d x/\RelL K F ds r:=by unfold RelL at h; exact h
theorem RelL.length:∀ {ds:List K5} {xs:List V},RelL K F ds xs->xs.length=ds.length
 | [],xs,h=>by rw [h.nil_of]; rfl
 | d::ds,xs,h=>by
  obtain ⟨x,r,rfl,_,h3⟩:=h.cons_of;rw [Lu,Lu,RelL.length h3]
theorem RelL.append:∀ {ds es:List K5} {xs ys:List V},RelL K F ds xs->RelL K F es ys->RelL K F (ds++es) (xs++ys)
 | [],es,xs,ys,h,k=>by rw [h.nil_of]; exact k
 | d::ds,es,xs,ys,h,k=>by
  obtain ⟨x,r,rfl,h2,h3⟩:=h.cons_of;exact RelL.cons h2 (RelL.append h3 k)
theorem RelL.get:∀ {ds:List K5} {xs:List V} {i:Nat} {d:K5},RelL K F ds xs->ds[i]?=some d->∃ x,xs[i]?=some x/\Rel K F d x
 | [],_,_,_,_,e=>by simp at e
 | d::ds,xs,0,_,h,e=>by
  obtain ⟨x,r,rfl,h2,h3⟩:=h.cons_of;have e':d=_:=Option.some.inj e;exact ⟨x,rfl,e' ▸ h2⟩
 | d::ds,xs,i+1,d',h,e=>by
  obtain ⟨x,r,rfl,h2,h3⟩:=h.cons_of;exact RelL.get (i:=i) h3 (by simpa using e)
theorem RelL.take:∀ {ds:List K5} {xs:List V} (n:Nat),RelL K F ds xs->RelL K F (ds.take n) (xs.take n)
 | _,_,0,_=>by rw [List.take_zero,List.take_zero]; exact .nil
 | [],xs,n+1,h=>by rw [h.nil_of]; exact .nil
 | d::ds,xs,n+1,h=>by
  obtain ⟨x,r,rfl,h2,h3⟩:=h.cons_of;exact RelL.cons h2 (RelL.take n h3)
theorem RelL.drop:∀ {ds:List K5} {xs:List V} (n:Nat),RelL K F ds xs->RelL K F (ds.drop n) (xs.drop n)
 | _,_,0,h=>by simpa using h
 | [],xs,n+1,h=>by rw [h.nil_of]; exact .nil
 | d::ds,xs,n+1,h=>by
  obtain ⟨x,r,rfl,h2,h3⟩:=h.cons_of;exact RelL.drop n h3
theorem Rel.non {v:V} (h:Rel K F .none v):v=.non:=by unfold Rel at h; exact h
theorem Rel.bl {b:Bool} {v:V} (h:Rel K F (.bool b) v):v=.bl b:=by unfold Rel at h; exact h
theorem Rel.int {i:Int} {v:V} (h:Rel K F (.int i) v):v=.int i:=by unfold Rel at h; exact h
theorem Rel.str {x:Str} {v:V} (h:Rel K F (.str x) v):v=.str x:=by unfold Rel at h; exact h
theorem Rel.tup {ds:List K5} {v:V} (h:Rel K F (.tuple ds) v):∃ a xs,v=.ref a/\SqT K F a xs/\RelL K F ds xs:=by unfold Rel at h; exact h
theorem Rel.lst {ds:List K5} {v:V} (h:Rel K F (.list ds) v):∃ a xs,v=.ref a/\SqL K F a xs/\RelL K F ds xs:=by unfold Rel at h; exact h
theorem pB:Rel K F .none .non:=by unfold Rel; rfl
theorem ef {b:Bool}:Rel K F (.bool b) (.bl b):=by unfold Rel; rfl
theorem cZ {i:Int}:Rel K F (.int i) (.int i):=by unfold Rel; rfl
theorem jP {x:Str}:Rel K F (.str x) (.str x):=by unfold Rel; rfl
theorem iI {ds:List K5} {a:Lz} {xs:List V} (h:SqT K F a xs) (r:RelL K F ds xs):Rel K F (.tuple ds) (.ref a):=by unfold Rel; exact ⟨a,xs,rfl,h,r⟩
theorem jk {ds:List K5} {a:Lz} {xs:List V} (h:SqL K F a xs) (r:RelL K F ds xs):Rel K F (.list ds) (.ref a):=by unfold Rel; exact ⟨a,xs,rfl,h,r⟩
theorem RelL.ints:∀ (ns:List Int),RelL K F (ns.map Lv) (ns.map V.int)
 | []=>.nil
 | _::r=>.cons cZ (RelL.ints r)
structure Gr (F H F' H':Hp):Prop where
 ff:Same F F'
 hh:Same H H'
 fh:Same F' H'
 new:∀ b,F' b≠none->F b≠none\/H b=none
theorem Gr.refl (h:Same F H):Gr F H F H:=⟨.refl _,.refl _,h,λ _ q=>.inl q⟩
theorem Gr.trans {F1 H1 F2 H2:Hp} (a:Gr F H F1 H1) (b:Gr F1 H1 F2 H2):Gr F H F2 H2 :=
 ⟨a.ff.trans b.ff,a.hh.trans b.hh,b.fh,λ c q=>(b.new c q).elim (λ q=>a.new c q) λ q=>.inr (a.hh.free q)⟩
theorem Gr.one {p:Lz} {o:HO} (h:Same F H) (hp:H p=none):Gr F H (upd F p o) (upd H p o) where
 ff:=dj (h.free hp) o
 hh:=dj hp o
 fh:=λ b u q=>by
  by_cases e:b=p
  ·subst e; rw [aX] at q ⊢; exact q
  ·rw [aE e] at q ⊢; exact h _ _ q
 new:=λ b q=>by
  by_cases e:b=p
  ·subst e; exact .inr hp
  ·rw [aE e] at q; exact .inl q
end
inductive Sl where
 | un
 | val (d:K5)
 | own (ds:List K5)
 | odc (kvs:List (Key×K5))
 | ob (fs:Str->Option K5)
noncomputable abbrev En:=List Sl
noncomputable def jd:Sl->Bool
 | .own _=>true
 | .odc _=>true
 | _=>false
noncomputable def CellR (K:K6) (F:Hp):Sl->HO->Prop
 | .own ds,o=>∃ xs,o=.lst xs/\RelL K F ds xs
 | .odc kvs,o=>∃ ks,o=.dK ks/\RelD K F (prs kvs) ks
 | _,_=>False
noncomputable def ObF (K:K6) (C:Lz) (F:Hp) (fs:Str->Option K5) (xs:List (Str×V)):Prop:=∀ f d,fs f=some d->NoAttr K C f/\∃ v,xs.lookup f=some v/\Rel K F d v
structure EnR (K:K6) (He F H:Hp) (σ:St) (η:En):Prop where
 len:η.length=σ.length
 val:∀ (i:Nat) d,η[i]?=some (.val d)->∃ v,σ[i]?=some (some v)/\Rel K F d v
 cel:∀ (i:Nat) sl,η[i]?=some sl->jd sl=true->∃ p o,σ[i]?=some (some (.ref p))/\F p=none/\He p=none/\H p=some o/\CellR K F sl o
 apart:∀ (i j:Nat) a b,η[i]?=some a->η[j]?=some b->jd a=true->jd b=true->i≠j->σ[i]?≠σ[j]?
 obs:∀ (i:Nat) fs,η[i]?=some (.ob fs)->∃ p C dx xs,σ[i]?=some (some (.ref p))/\H p=some (.ins C dx xs)/\Cls K C/\ObF K C F fs xs
structure Bd where
 F:Hp
 H:Hp
structure SR (K:K6) (B:Bd) (F H:Hp) (σ:St) (η:En):Prop where
 gr:Gr B.F B.H F H
 en:EnR K B.H F H σ η
section
variable {K:K6} {B:Bd} {F H F' H':Hp} {σ:St} {η:En}
theorem CellR.mono (e:Same F F'):∀ {sl:Sl} {o:HO},CellR K F sl o->CellR K F' sl o
 | .own _,_,⟨xs,h1,h2⟩=>⟨xs,h1,h2.mono e⟩
 | .odc _,_,⟨xs,h1,h2⟩=>⟨xs,h1,h2.mono e⟩
 | .un,_,h=>h.elim
 | .val _,_,h=>h.elim
 | .ob _,_,h=>h.elim
theorem ObF.mono {C:Lz} {fs:Str->Option K5} {xs:List (Str×V)} (e:Same F F') (h:ObF K C F fs xs):ObF K C F' fs xs:=λ f d q=>let ⟨a,v,b,c⟩:=h f d q; ⟨a,v,b,c.mono e⟩
theorem CellR.noins {sl:Sl} {o:HO} (h:CellR K F sl o) (C dx:Lz) (xs:List (Str×V)):o≠.ins C dx xs:=by
 cases sl with
 | own ds=>obtain ⟨ys,rfl,_⟩:=h; intro z; cases z
 | odc ds=>obtain ⟨ys,rfl,_⟩:=h; intro z; cases z
 | un=>exact h.elim
 | val _=>exact h.elim
 | ob _=>exact h.elim
theorem EnR.own {He:Hp} (r:EnR K He F H σ η) (i:Nat) (ds:List K5) (e:η[i]?=some (.own ds)):∃ p xs,σ[i]?=some (some (.ref p))/\F p=none/\He p=none/\H p=some (.lst xs)/\RelL K F ds xs:=by
 obtain ⟨p,o,h1,h2,h3,h4,xs,rfl,h5⟩:=r.cel i _ e rfl;exact ⟨p,xs,h1,h2,h3,h4,h5⟩
theorem EnR.odc {He:Hp} (r:EnR K He F H σ η) (i:Nat) (kvs:List (Key×K5)) (e:η[i]?=some (.odc kvs)):∃ p ks,σ[i]?=some (some (.ref p))/\F p=none/\He p=none/\H p=some (.dK ks)/\RelD K F (prs kvs) ks:=by
 obtain ⟨p,o,h1,h2,h3,h4,xs,rfl,h5⟩:=r.cel i _ e rfl;exact ⟨p,xs,h1,h2,h3,h4,h5⟩
theorem EnR.grow {He:Hp} (r:EnR K He F H σ η) (g:Gr F H F' H'):EnR K He F' H' σ η where
 len:=r.len
 val:=λ i d e=>let ⟨v,e1,e2⟩:=r.val i d e; ⟨v,e1,e2.mono g.ff⟩
 cel:=λ i sl e hs=>by
  obtain ⟨p,o,e1,e2,e3,e4,e5⟩:=r.cel i sl e hs;refine ⟨p,o,e1,?_,e3,g.hh _ _ e4,e5.mono g.ff⟩;cases q:F' p with
  | none=>rfl
  | some o =>
   rcases g.new p (by rw [q]; simp) with z | z
   ·exact absurd e2 z
   ·rw [e4] at z; cases z
 apart:=r.apart
 obs:=λ i fs e=>let ⟨p,C,dx,xs,e1,e2,e3,e4⟩:=r.obs i fs e; ⟨p,C,dx,xs,e1,g.hh _ _ e2,e3,e4.mono g.ff⟩
theorem SR.grow (r:SR K B F H σ η) (g:Gr F H F' H'):SR K B F' H' σ η:=⟨r.gr.trans g,r.en.grow g⟩
theorem SR.same (r:SR K B F H σ η):Same F H:=r.gr.fh
theorem EnR.set {He:Hp} (r:EnR K He F H σ η) (i:Nat) {d:K5} {v:V} (h:Rel K F d v):EnR K He F H (σ.set i (some v)) (η.set i (.val d)) where
 len:=by rw [LC,LC]; exact r.len
 val:=λ j d' e=>by
  by_cases hj:i=j
  ·subst hj;by_cases hl:i < η.length
   ·rw [Lr hl] at e;have e':d=d':=by injection (Option.some.inj e)
    subst e';exact ⟨v,by rw [Lr (by rw [<- r.len]; exact hl)],h⟩
   ·rw [LN (by rw [LC]; omega)] at e; cases e
  ·rw [Ld hj] at e ⊢; exact r.val j d' e
 cel:=λ j sl e hs=>by
  by_cases hj:i=j
  ·subst hj;by_cases hl:i < η.length
   ·rw [Lr hl] at e;have e':Sl.val d=sl:=Option.some.inj e;subst e';cases hs
   ·rw [LN (by rw [LC]; omega)] at e; cases e
  ·rw [Ld hj] at e ⊢; exact r.cel j sl e hs
 apart:=λ j k a b ej ek ha hb hjk=>by
  have no:∀ (j:Nat) a,(η.set i (.val d))[j]?=some a->jd a=true->i≠j:=λ j a ej ha hj=>by
   subst hj;by_cases hl:i < η.length
   ·rw [Lr hl] at ej;have e':Sl.val d=a:=Option.some.inj ej;subst e';cases ha
   ·rw [LN (by rw [LC]; omega)] at ej; cases ej
  have nj:=no j a ej ha;have nk:=no k b ek hb;rw [Ld nj] at ej ⊢;rw [Ld nk] at ek ⊢;exact r.apart j k a b ej ek ha hb hjk
 obs:=λ j fs e=>by
  by_cases hj:i=j
  ·subst hj;by_cases hl:i < η.length
   ·rw [Lr hl] at e; cases e
   ·rw [LN (by rw [LC]; omega)] at e; cases e
  ·rw [Ld hj] at e ⊢; exact r.obs j fs e
theorem EnR.setCell {He:Hp} (r:EnR K He F H σ η) (i:Nat) {sl:Sl} {p:Lz} {o:HO} (hsl:jd sl=true) (h1:F p=none) (h2:He p=none) (h3:H p=some o) (h4:CellR K F sl o)
  (h5:∀ (j:Nat),σ[j]?=some (some (.ref p))->∀ a,η[j]?=some a->jd a=false):EnR K He F H (σ.set i (some (.ref p))) (η.set i sl) where
 len:=by rw [LC,LC]; exact r.len
 val:=λ j d' e=>by
  by_cases hj:i=j
  ·subst hj;by_cases hl:i < η.length
   ·rw [Lr hl] at e;have e':sl=.val d':=Option.some.inj e;subst e';cases hsl
   ·rw [LN (by rw [LC]; omega)] at e; cases e
  ·rw [Ld hj] at e ⊢; exact r.val j d' e
 cel:=λ j a e ha=>by
  by_cases hj:i=j
  ·subst hj;by_cases hl:i < η.length
   ·rw [Lr hl] at e;have e':sl=a:=Option.some.inj e;subst e';exact ⟨p,o,by rw [Lr (by rw [<- r.len]; exact hl)],h1,h2,h3,h4⟩
   ·rw [LN (by rw [LC]; omega)] at e; cases e
  ·rw [Ld hj] at e ⊢; exact r.cel j a e ha
 apart:=λ j k a b ej ek ha hb hjk=>by
  by_cases hj:i=j
  ·subst hj;have hl:i < η.length:=by
    by_cases hl:i < η.length
    ·exact hl
    ·rw [LN (by rw [LC]; omega)] at ej; cases ej
   rw [Ld hjk] at ek ⊢;rw [Lr (by rw [<- r.len]; exact hl)];exact λ z=>by rw [h5 k z.symm b ek] at hb; cases hb
  ·by_cases hk:i=k
   ·subst hk;have hl:i < η.length:=by
     by_cases hl:i < η.length
     ·exact hl
     ·rw [LN (by rw [LC]; omega)] at ek; cases ek
    rw [Ld hj] at ej ⊢;rw [Lr (by rw [<- r.len]; exact hl)];exact λ z=>by rw [h5 j z a ej] at ha; cases ha
   ·rw [Ld hj] at ej ⊢;rw [Ld hk] at ek ⊢;exact r.apart j k a b ej ek ha hb hjk
 obs:=λ j fs e=>by
  by_cases hj:i=j
  ·subst hj;by_cases hl:i < η.length
   ·rw [Lr hl] at e;have e':sl=.ob fs:=Option.some.inj e;subst e';cases hsl
   ·rw [LN (by rw [LC]; omega)] at e; cases e
  ·rw [Ld hj] at e ⊢; exact r.obs j fs e
theorem EnR.setOwn {He:Hp} (r:EnR K He F H σ η) (i:Nat) {ds:List K5} {p:Lz} {xs:List V} (h1:F p=none) (h2:He p=none) (h3:H p=some (.lst xs)) (h4:RelL K F ds xs)
  (h5:∀ (j:Nat),σ[j]?=some (some (.ref p))->∀ a,η[j]?=some a->jd a=false):EnR K He F H (σ.set i (some (.ref p))) (η.set i (.own ds)):=r.setCell i rfl h1 h2 h3 ⟨xs,rfl,h4⟩ h5
theorem EnR.notown {He:Hp} (r:EnR K He F H σ η) {p:Lz} (h:H p=none):∀ (j:Nat),σ[j]?=some (some (.ref p))->∀ a,η[j]?=some a->jd a=false:=λ j e a z=>by
 cases ha:jd a with
 | false=>rfl
 | true =>
  obtain ⟨q,o,e1,_,_,e4,_⟩:=r.cel j a z ha;rw [e] at e1
  have:p=q:=by injection (Option.some.inj (Option.some.inj e1))
  rw [this,e4] at h; cases h
theorem EnR.putCell {He:Hp} (r:EnR K He F H σ η) {i:Nat} {sl sl':Sl} {p:Lz} {o:HO} (hi:η[i]?=some sl) (hs:jd sl=true) (hs':jd sl'=true) (hσ:σ[i]?=some (some (.ref p))) (h4:CellR K F sl' o) :
  EnR K He F (upd H p o) σ (η.set i sl') where
 len:=by rw [LC]; exact r.len
 val:=λ j d' e=>by
  by_cases hj:i=j
  ·subst hj;rw [Lr (Lb.mp hi).1] at e;have e':sl'=.val d':=Option.some.inj e;subst e';cases hs'
  ·rw [Ld hj] at e; exact r.val j d' e
 cel:=λ j a e ha=>by
  by_cases hj:i=j
  ·subst hj;rw [Lr (Lb.mp hi).1] at e;have e':sl'=a:=Option.some.inj e;subst e';obtain ⟨q,o1,e1,e2,e3,e4,e5⟩:=r.cel i sl hi hs;rw [hσ] at e1
   have:p=q:=by injection (Option.some.inj (Option.some.inj e1))
   subst this;exact ⟨p,o,hσ,e2,e3,aX,h4⟩
  ·rw [Ld hj] at e;obtain ⟨q,o1,e1,e2,e3,e4,e5⟩:=r.cel j a e ha;refine ⟨q,o1,e1,e2,e3,?_,e5⟩;rw [aE]
   ·exact e4
   ·intro z;subst z;exact r.apart i j sl a hi e hs ha hj (by rw [hσ,e1])
 apart:=λ j k a b ej ek ha hb hjk=>by
  have aa:∀ (j:Nat) a,(η.set i sl')[j]?=some a->jd a=true->∃ a',η[j]?=some a'/\jd a'=true:=λ j a e ha=>by
   by_cases hj:i=j
   ·subst hj; exact ⟨sl,hi,hs⟩
   ·rw [Ld hj] at e; exact ⟨a,e,ha⟩
  obtain ⟨a',e1,f1⟩:=aa j a ej ha;obtain ⟨b',e2,f2⟩:=aa k b ek hb;exact r.apart j k a' b' e1 e2 f1 f2 hjk
 obs:=λ j fs e=>by
  by_cases hj:i=j
  ·subst hj;rw [Lr (Lb.mp hi).1] at e;have e':sl'=.ob fs:=Option.some.inj e;subst e';cases hs'
  ·rw [Ld hj] at e;obtain ⟨q,C,dx,xs,e1,e2,e3,e4⟩:=r.obs j fs e;refine ⟨q,C,dx,xs,e1,?_,e3,e4⟩;obtain ⟨p',o1,f1,_,_,f4,f5⟩:=r.cel i sl hi hs;rw [hσ] at f1
   have:p=p':=by injection (Option.some.inj (Option.some.inj f1))
   subst this;rw [aE]
   ·exact e2
   ·intro z;subst z;rw [f4] at e2;exact f5.noins _ _ _ (Option.some.inj e2)
theorem EnR.putOwn {He:Hp} (r:EnR K He F H σ η) {i:Nat} {ds es:List K5} {p:Lz} {ys:List V} (hi:η[i]?=some (.own ds)) (hσ:σ[i]?=some (some (.ref p))) (h4:RelL K F es ys) :
  EnR K He F (upd H p (.lst ys)) σ (η.set i (.own es)):=r.putCell hi rfl rfl hσ ⟨ys,rfl,h4⟩
theorem SR.freezeCell (r:SR K B F H σ η) {i:Nat} {sl:Sl} {d:K5} {p:Lz} {o:HO} (hi:η[i]?=some sl) (hs:jd sl=true) (e1:σ[i]?=some (some (.ref p))) (e2:F p=none) (e3:B.H p=none) (e4:H p=some o) (rel:Rel K (upd F p o) d (.ref p)) :
  Same F (upd F p o)/\SR K B (upd F p o) H σ (η.set i (.val d)):=by
 have sn:=dj (H:=F) e2 o;refine ⟨sn,⟨⟨r.gr.ff.trans sn,r.gr.hh,?_,?_⟩,?_⟩⟩
 ·intro b u q;by_cases e:b=p
  ·subst e; rw [aX] at q; rw [<- q]; exact e4
  ·rw [aE e] at q; exact r.gr.fh _ _ q
 ·intro b q;by_cases e:b=p
  ·subst e; exact .inr e3
  ·rw [aE e] at q; exact r.gr.new b q
 ·refine ⟨by rw [LC]; exact r.en.len,λ j d' e=>?_,λ j a e ha=>?_,λ j k a b ej ek ha hb hjk=>?_,λ j fs e=>?_⟩
  ·by_cases hj:i=j
   ·subst hj;rw [Lr (Lb.mp hi).1] at e;have e':d=d':=by injection (Option.some.inj e)
    subst e';exact ⟨_,e1,rel⟩
   ·rw [Ld hj] at e;obtain ⟨v,q1,q2⟩:=r.en.val j d' e;exact ⟨v,q1,q2.mono sn⟩
  ·by_cases hj:i=j
   ·subst hj;rw [Lr (Lb.mp hi).1] at e;have e':Sl.val d=a:=Option.some.inj e;subst e';cases ha
   ·rw [Ld hj] at e;obtain ⟨q,o1,q1,q2,q3,q4,q5⟩:=r.en.cel j a e ha;refine ⟨q,o1,q1,?_,q3,q4,q5.mono sn⟩;rw [aE]
    ·exact q2
    ·intro z;subst z;exact r.en.apart i j sl a hi e hs ha hj (by rw [e1,q1])
  ·have no:∀ (j:Nat) a,(η.set i (.val d))[j]?=some a->jd a=true->i≠j:=λ j a ej ha hj=>by
    subst hj;rw [Lr (Lb.mp hi).1] at ej;have e':Sl.val d=a:=Option.some.inj ej;subst e';cases ha
   have nj:=no j a ej ha;have nk:=no k b ek hb;rw [Ld nj] at ej;rw [Ld nk] at ek;exact r.en.apart j k a b ej ek ha hb hjk
  ·by_cases hj:i=j
   ·subst hj;rw [Lr (Lb.mp hi).1] at e; cases e
   ·rw [Ld hj] at e;obtain ⟨q,C,dx,xs,q1,q2,q3,q4⟩:=r.en.obs j fs e;exact ⟨q,C,dx,xs,q1,q2,q3,q4.mono sn⟩
theorem SR.freeze (r:SR K B F H σ η) {i:Nat} {ds:List K5} (hi:η[i]?=some (.own ds)):∃ F' p,σ[i]?=some (some (.ref p))/\Same F F'/\SR K B F' H σ (η.set i (.val (.list ds)))/\Rel K F' (.list ds) (.ref p):=by
 obtain ⟨p,xs,e1,e2,e3,e4,e5⟩:=r.en.own i ds hi;have rel:Rel K (upd F p (.lst xs)) (.list ds) (.ref p):=jk (SqL.of aX) (e5.mono (dj (H:=F) e2 (.lst xs)));obtain ⟨h1,h2⟩:=r.freezeCell hi rfl e1 e2 e3 e4 rel;exact ⟨_,p,e1,h1,h2,rel⟩
theorem SR.freezeD (r:SR K B F H σ η) {i:Nat} {kvs:List (Key×K5)} (hi:η[i]?=some (.odc kvs)):∃ F' p,σ[i]?=some (some (.ref p))/\Same F F'/\SR K B F' H σ (η.set i (.val (.dict (prs kvs))))/\Rel K F' (.dict (prs kvs)) (.ref p):=by
 obtain ⟨p,ks,e1,e2,e3,e4,e5⟩:=r.en.odc i kvs hi;have rel:Rel K (upd F p (.dK ks)) (.dict (prs kvs)) (.ref p):=zO (.inl aX) (e5.mono (dj (H:=F) e2 (.dK ks)));obtain ⟨h1,h2⟩:=r.freezeCell hi rfl e1 e2 e3 e4 rel;exact ⟨_,p,e1,h1,h2,rel⟩
end
section
variable (K:K6) (B:Bd)
noncomputable def tE (f:En->Option K5):TE:=λ σ H Q=>∃ F η d,SR K B F H σ η/\f η=some d/\∀ v F' H',Gr F H F' H'->Rel K F' d v->Q v H'
noncomputable def tO (f:En->Option (List K5)):TE:=λ σ H Q=>∃ F η ds,SR K B F H σ η/\f η=some ds/\∀ p xs F' H',Gr F H F' H'->H p=none->F' p=none->H' p=some (.lst xs)->RelL K F' ds xs->Q (.ref p) H'
noncomputable def tT (f:En->Option Bool):TT:=λ σ H Q=>∃ F η b,SR K B F H σ η/\f η=some b/\∀ F' H',Gr F H F' H'->Q b H'
noncomputable def tA (f:En->Option (List K5)):TA:=λ σ H Q=>∃ F η ds,SR K B F H σ η/\f η=some ds/\∀ vs F' H',Gr F H F' H'->RelL K F' ds vs->Q vs H'
end
noncomputable def E (X:Cx) (B:Bd) (e:Expr) (f:En->Option K5):Prop:=PE X e (tE X.K B f)
noncomputable def EO (X:Cx) (B:Bd) (e:Expr) (f:En->Option (List K5)):Prop:=PE X e (tO X.K B f)
noncomputable def T (X:Cx) (B:Bd) (e:Expr) (f:En->Option Bool):Prop:=PT X e (tT X.K B f)
noncomputable def TW (X:Cx) (B:Bd) (e:Expr) (f:En->Option Bool):Prop:=PW X e (tT X.K B f)
noncomputable def A (X:Cx) (B:Bd) (es:List Expr) (f:En->Option (List K5)):Prop:=PA X es (tA X.K B f)
theorem PE.imp {X:Cx} {e:Expr} {t t':TE} (h:PE X e t) (i:∀ σ H Q,t' σ H Q->t σ H Q):PE X e t':=λ pins s σ H Q I q=>h pins s σ H Q I (i σ H Q q)
theorem PT.imp {X:Cx} {e:Expr} {t t':TT} (h:PT X e t) (i:∀ σ H Q,t' σ H Q->t σ H Q):PT X e t':=λ pins s σ H Q I q=>h pins s σ H Q I (i σ H Q q)
theorem PW.imp {X:Cx} {e:Expr} {t t':TT} (h:PW X e t) (i:∀ σ H Q,t' σ H Q->t σ H Q):PW X e t':=λ wh pins s σ H Q I q=>h wh pins s σ H Q I (i σ H Q q)
theorem PA.imp {X:Cx} {e:List Expr} {t t':TA} (h:PA X e t) (i:∀ σ H Q,t' σ H Q->t σ H Q):PA X e t':=λ pos pins s σ H Q I q=>h pos pins s σ H Q I (i σ H Q q)
noncomputable def eV (i:Nat):En->Option K5:=λ η=>match η[i]? with | some (.val d)=>some d | _=>none
noncomputable def eC (d:K5):En->Option K5:=λ _=>some d
noncomputable def l1 (o:K5->Option K5) (f:En->Option K5):En->Option K5:=λ η=>(f η).bind o
noncomputable def l2 (o:K5->K5->Option K5) (f g:En->Option K5):En->Option K5:=λ η=>(f η).bind λ x=>(g η).bind λ y=>o x y
noncomputable def aN:En->Option (List K5):=λ _=>some []
noncomputable def aC (f:En->Option K5) (g:En->Option (List K5)):En->Option (List K5):=λ η=>(f η).bind λ x=>(g η).bind λ xs=>some (x::xs)
noncomputable def lA (o:List K5->Option K5) (f:En->Option (List K5)):En->Option K5:=λ η=>(f η).bind o
section
variable {X:Cx} {B:Bd} {a b c e:Expr} {es:List Expr} {f g h:En->Option K5} {fs:En->Option (List K5)} {pos:Pos}
theorem ab {α β:Type} {o:Option α} {k:α->Option β} {y:β} (h:o.bind k=some y):∃ x,o=some x/\k x=some y:=by
 cases o with
 | none=>cases h
 | some x=>exact ⟨x,rfl,h⟩
noncomputable def Ad2 (K:K6) (r:R2) (o:K5->K5->Option K5):Prop :=
 ∀ F H x y dx dy d Q,Same F H->Rel K F dx x->Rel K F dy y->o dx dy=some d->(∀ v F' H',Gr F H F' H'->Rel K F' d v->Q v H')->r x y H Q
theorem t2 {K:K6} {r:R2} {o:K5->K5->Option K5} (ad:Ad2 K r o):∀ σ H Q,tE K B (l2 o f g) σ H Q->tOp r (tE K B f) (tE K B g) σ H Q:=by
 intro σ H Q ⟨F,η,d,sr,hd,q⟩;obtain ⟨x,hx,hd⟩:=ab hd;obtain ⟨y,hy,hd⟩:=ab hd;refine ⟨F,η,x,sr,hx,λ v F1 H1 g1 rv=>⟨F1,η,y,sr.grow g1,hy,λ u F2 H2 g2 ru=>?_⟩⟩;exact ad F2 H2 v u x y d Q g2.fh (rv.mono g2.ff) ru hd λ w F3 H3 g3 rw'=>q w F3 H3 ((g1.trans g2).trans g3) rw'
theorem E.op {op:Operator} {r:R2} {o:K5->K5->Option K5} (ho:OpR X (binaryOp op) r) (ad:Ad2 X.K r o) (ha:E X B a f) (hb:E X B b g):E X B (.BinOp a op b pos) (l2 o f g) :=
 PE.imp (ID ho ha hb) (t2 ad)
theorem E.cmp {op:CmpOp} {r:R2} {o:K5->K5->Option K5} (ho:OpR X (L8 op) r) (ad:Ad2 X.K r o) (hm:Mo op b=false) (ha:E X B a f) (hb:E X B b g):E X B (.Compare a [op] [b] pos) (l2 o f g) :=
 PE.imp (EF ho ha hb hm) (t2 ad)
theorem E.ix {r:R2} {o:K5->K5->Option K5} (hr:IxR X r) (ad:Ad2 X.K r o) (ha:E X B a f) (hb:E X B b g) (hs:wI b:=by intro _ _; rfl):E X B (.Subscript a b pos) (l2 o f g) :=
 PE.imp (IE hr ha hb hs) (t2 ad)
theorem al (i:Nat) {x:Str} (hN:X.N[i]?=some x:=by rfl) (hv:Vis X.env.scope x:=by first | exact Or.inl rfl | exact Or.inr (Or.inl rfl) | exact Or.inr (Or.inr rfl)) (hd:(x==("__debug__" : Str))=false:=by decide)
  (hcd:(x==("__classdict__" : Str))=false:=by decide):E X B (.Name x pos) (eV i) :=
 PE.imp (mS hN hv hd hcd) λ σ H Q ⟨F,η,d,sr,hd,q⟩=>by
  unfold eV at hd;split at hd
  ·rename_i d' e;cases hd;obtain ⟨v,e1,e2⟩:=sr.en.val i d e;exact ⟨v,e1,q v F H (.refl sr.same) e2⟩
  ·cases hd
theorem wS {K:K6} {v:V} {d:K5} (h:∀ F,Rel K F d v):∀ σ H Q,tE K B (eC d) σ H Q->tC v σ H Q:=λ σ H Q ⟨F,η,d',sr,hd,q⟩=>by
 have e:d=d':=Option.some.inj hd;subst e;exact q v F H (.refl sr.same) (h F)
theorem au {i:Int} {j}:E X B (.Constant (.int i) j pos) (eC (.int i)):=PE.imp GM (wS λ _=>cZ)
theorem E.bl {i:Bool} {j}:E X B (.Constant (.bool i) j pos) (eC (.bool i)):=PE.imp IF (wS λ _=>ef)
theorem E.non {j}:E X B (.Constant .none j pos) (eC .none):=PE.imp GK (wS λ _=>pB)
theorem eZ {i:Str} {j}:E X B (.Constant (.str i) j pos) (eC (.str i)):=PE.imp GH (wS λ _=>jP)
theorem E.glob {x:Str} {v:V} {u:Lf} {d:K5} (hm:X.mg x=some u) (r:RelV v u) (h:∀ F,Rel X.K F d v) (hg:Gl X x:=by rfl) (hd:(x==("__debug__" : Str))=false:=by decide):E X B (.Name x pos) (eC d) :=
 PE.imp (EE hg hm r hd) (wS h)
theorem ag:A X B [] aN:=PA.imp Cv λ σ H Q ⟨F,η,d,sr,hd,q⟩=>by
 cases hd;exact q [] F H (.refl sr.same) .nil
theorem ac (ha:E X B e f) (hr:A X B es fs) (hs:Lj (e::es) X.env=(false,eval e X.env)::Lj es X.env:=by exact bD rfl):A X B (e::es) (aC f fs):=PA.imp (z7 ha hr hs) λ σ H Q ⟨F,η,d,sr,hd,q⟩=>by
 obtain ⟨x,hx,hd⟩:=ab hd;obtain ⟨y,hy,hd⟩:=ab hd;cases hd;exact ⟨F,η,x,sr,hx,λ v F1 H1 g1 rv=>⟨F1,η,y,sr.grow g1,hy,λ vs F2 H2 g2 rs=>q (v::vs) F2 H2 (g1.trans g2) (.cons (rv.mono g2.ff) rs)⟩⟩
noncomputable def gL (ds:List K5):Option (List K5):=if ds.length<=Li then some ds else none
theorem jC {x1} (hs:A X B es fs):E X B (.Tuple es x1 pos) (lA (λ ds=>if ds.length<=Li then some (.tuple ds) else none) fs):=PE.imp (GG hs) λ σ H Q ⟨F,η,d,sr,hd,q⟩=>by
 obtain ⟨ds,hx,hd⟩:=ab hd;split at hd
 ·rename_i hl;cases hd;refine ⟨F,η,ds,sr,hx,λ vs F1 H1 g1 rs=>⟨by rw [rs.length]; exact hl,λ p hp=>?_⟩⟩;have g2:Gr F1 H1 (upd F1 p (.tup vs)) (upd H1 p (.tup vs)):=Gr.one g1.fh hp;exact q _ _ _ (g1.trans g2) (iI (SqT.of aX) (rs.mono g2.ff))
 ·cases hd
theorem f6 (hs:A X B es fs):EO X B (.List es pos) (λ η=>(fs η).bind gL):=PE.imp (GL hs) λ σ H Q ⟨F,η,ds,sr,hd,q⟩=>by
 obtain ⟨ds',hx,hd⟩:=ab hd;unfold gL at hd;split at hd
 ·rename_i hl;cases hd;refine ⟨F,η,ds,sr,hx,λ vs F1 H1 g1 rs=>⟨by rw [rs.length]; exact hl,λ p hp=>?_⟩⟩;refine q p vs F1 (upd H1 p (.lst vs)) ?_ (g1.hh.free hp) (g1.fh.free hp) aX rs;refine ⟨g1.ff,g1.hh.trans (dj hp _),λ b u z=>?_,g1.new⟩;exact dj hp _ b u (g1.fh b u z)
 ·cases hd
noncomputable def oE (f:En->Option (List K5)):En->Option K5:=λ η=>(f η).bind λ ds=>some (.list ds)
theorem cw (he:EO X B e fs):E X B e (oE fs):=PE.imp he λ σ H Q ⟨F,η,d,sr,hd,q⟩=>by
 obtain ⟨ds,hx,hd⟩:=ab hd;cases hd;refine ⟨F,η,ds,sr,hx,λ p xs F' H' g1 hp fp hp' rs=>?_⟩;have sn:=dj (H:=F') fp (.lst xs);refine q (.ref p) (upd F' p (.lst xs)) H' ⟨g1.ff.trans sn,g1.hh,λ b u z=>?_,λ b z=>?_⟩ (jk (SqL.of aX) (rs.mono sn))
 ·by_cases e:b=p
  ·subst e; rw [aX] at z; rw [<- z]; exact hp'
  ·rw [aE e] at z; exact g1.fh _ _ z
 ·by_cases e:b=p
  ·subst e; exact .inr hp
  ·rw [aE e] at z; exact g1.new b z
noncomputable def asB:K5->Option Bool
 | .bool b=>some b
 | _=>none
noncomputable def bT (f:En->Option K5):En->Option Bool:=λ η=>(f η).bind asB
theorem jA {d:K5} {b:Bool} (h:asB d=some b):d=.bool b:=by
 cases d <;> simp [asB] at h;rw [h]
theorem T.val (he:E X B e f) (hi:∀ whole,isTrue e X.env whole=(do let v <- whole; standAt e.pos; holding [v] (truthy v)):=by intro _; rfl):T X B e (bT f):=PT.imp (GA he hi) λ σ H Q ⟨F,η,b,sr,hd,q⟩=>by
 obtain ⟨x,hx,hd⟩:=ab hd;obtain rfl:=jA hd;exact ⟨F,η,_,sr,hx,λ v F1 H1 g1 rv=>⟨b,rv.bl,q F1 H1 g1⟩⟩
theorem T.cmp {op:CmpOp} {r:R2} {o:K5->K5->Option K5} (ho:OpR X (L8 op) r) (ad:Ad2 X.K r o) (hm:Mo op b=false) (ha:E X B a f) (hb:E X B b g):T X B (.Compare a [op] [b] pos) (bT (l2 o f g)) :=
 PT.imp (zV ho ha hb hm) λ σ H Q ⟨F,η,b,sr,hd,q⟩=>by
  obtain ⟨x,hx,hd⟩:=ab hd;obtain rfl:=jA hd;exact t2 ad σ H _ ⟨F,η,_,sr,hx,λ v F1 H1 g1 rv=>⟨b,rv.bl,q F1 H1 g1⟩⟩
noncomputable def lch (o o':K5->K5->Option K5) (f g h:En->Option K5):En->Option K5:=λ η=>(f η).bind λ x=>(g η).bind λ y=>(o x y).bind λ z=>(asB z).bind λ k =>
 if k=true then (h η).bind λ w=>o' y w else some (.bool false)
theorem E.chain {op op':CmpOp} {r r':R2} {o o':K5->K5->Option K5} (ho:OpR X (L8 op) r) (ad:Ad2 X.K r o) (ho':OpR X (L8 op') r') (ad':Ad2 X.K r' o') (ha:E X B a f) (hb:E X B b g) (hc:E X B c h)
  (hm:lastMarks [op,op'] [b,c]=false:=by with_unfolding_all rfl):E X B (.Compare a [op,op'] [b,c] pos) (lch o o' f g h):=PE.imp (Ct ho ho' ha hb hc hm) λ σ H Q ⟨F,η,d,sr,hd,q⟩=>by
 obtain ⟨x,hx,hd⟩:=ab hd;obtain ⟨y,hy,hd⟩:=ab hd;obtain ⟨z,hz,hd⟩:=ab hd;obtain ⟨k,hk,hd2⟩:=ab hd;clear hd;obtain rfl:=jA hk;have hd:=hd2;refine ⟨F,η,x,sr,hx,λ v F1 H1 g1 rv=>⟨F1,η,y,sr.grow g1,hy,λ u F2 H2 g2 ru=>?_⟩⟩;refine ad F2 H2 v u x y _ _ g2.fh (rv.mono g2.ff) ru hz λ w F3 H3 g3 rw'=>⟨k,rw'.bl,?_⟩;cases k with
 | false =>
  rw [if_neg LB] at hd ⊢;cases hd;exact q _ F3 H3 ((g1.trans g2).trans g3) ef
 | true =>
  rw [if_pos rfl] at hd ⊢;obtain ⟨w2,hw2,hd⟩:=ab hd;refine ⟨F3,η,w2,(sr.grow (g1.trans g2)).grow g3,hw2,λ t F4 H4 g4 rt=>?_⟩;exact ad' F4 H4 u t y w2 d Q g4.fh (ru.mono (g3.ff.trans g4.ff)) rt hd λ w5 F5 H5 g5 r5=>q w5 F5 H5 (((g1.trans g2).trans g3).trans (g4.trans g5)) r5
theorem T.chain {op op':CmpOp} {r r':R2} {o o':K5->K5->Option K5} (ho:OpR X (L8 op) r) (ad:Ad2 X.K r o) (ho':OpR X (L8 op') r') (ad':Ad2 X.K r' o') (ha:E X B a f) (hb:E X B b g) (hc:E X B c h)
  (hm:lastMarks [op,op'] [b,c]=false:=by with_unfolding_all rfl):T X B (.Compare a [op,op'] [b,c] pos) (bT (lch o o' f g h)):=PT.imp (Cf ho ho' ha hb hc hm) λ σ H Q ⟨F,η,d',sr,hd',q'⟩=>by
 obtain ⟨d,hd,hdb⟩:=ab hd';obtain rfl:=jA hdb;obtain ⟨x,hx,hd⟩:=ab hd;obtain ⟨y,hy,hd⟩:=ab hd;obtain ⟨z,hz,hd⟩:=ab hd;obtain ⟨k,hk,hd2⟩:=ab hd;clear hd;obtain rfl:=jA hk;have hd:=hd2;refine ⟨F,η,x,sr,hx,λ v F1 H1 g1 rv=>⟨F1,η,y,sr.grow g1,hy,λ u F2 H2 g2 ru=>?_⟩⟩;refine ad F2 H2 v u x y _ _ g2.fh (rv.mono g2.ff) ru hz λ w F3 H3 g3 rw'=>⟨k,rw'.bl,?_⟩;cases k with
 | false =>
  rw [if_neg LB] at hd ⊢;cases hd;exact ⟨_,rfl,q' F3 H3 ((g1.trans g2).trans g3)⟩
 | true =>
  rw [if_pos rfl] at hd ⊢;obtain ⟨w2,hw2,hd⟩:=ab hd;refine ⟨F3,η,w2,(sr.grow (g1.trans g2)).grow g3,hw2,λ t F4 H4 g4 rt=>?_⟩;exact ad' F4 H4 u t y w2 _ _ g4.fh (ru.mono (g3.ff.trans g4.ff)) rt hd λ w5 F5 H5 g5 r5=>⟨_,r5.bl,q' F5 H5 (((g1.trans g2).trans g3).trans (g4.trans g5))⟩
noncomputable def om (f g:En->Option Bool):En->Option Bool:=λ η=>(f η).bind λ c=>if c=true then g η else some false
noncomputable def wF (f:En->Option Bool):En->Option Bool:=λ η=>(f η).bind λ c=>some (!c)
variable {p q r:En->Option Bool} {rest:List Expr}
theorem T.not (ha:T X B a p):T X B (.UnaryOp .Not a pos) (wF p):=PT.imp (Ce ha) λ σ H Q ⟨F,η,b,sr,hd,q⟩=>by
 obtain ⟨x,hx,hd⟩:=ab hd;cases hd;exact ⟨F,η,x,sr,hx,q⟩
theorem TW.t (h:TW X B a p):T X B a p:=PW.pt h
theorem TW.and1 (ha:T X B a p):TW X B (.BoolOp .And [a] pos) p:=pw_and1 ha
theorem TW.and (ha:T X B a p) (hb:TW X B (.BoolOp .And (b::rest) pos) q):TW X B (.BoolOp .And (a::b::rest) pos) (om p q):=PW.imp (pw_and ha hb) λ σ H Q ⟨F,η,b,sr,hd,k⟩=>by
 obtain ⟨x,hx,hd⟩:=ab hd;refine ⟨F,η,x,sr,hx,λ F1 H1 g1=>?_⟩;cases x with
 | false =>
  rw [if_neg LB] at hd ⊢;cases hd;exact k F1 H1 g1
 | true =>
  rw [if_pos rfl] at hd ⊢;exact ⟨F1,η,b,sr.grow g1,hd,λ F2 H2 g2=>k F2 H2 (g1.trans g2)⟩
noncomputable def D8 (f g:En->Option K5):En->Option K5:=λ η=>(f η).bind λ x=>(asB x).bind λ c=>if c=true then g η else some (.bool false)
noncomputable def D6 (f:En->Option K5):En->Option K5:=λ η=>(f η).bind λ x=>(asB x).bind λ c=>some (.bool (!c))
theorem E.one {op} (ha:E X B a f):E X B (.BoolOp op [a] pos) f:=GI ha
theorem E.and (ha:E X B a f) (hb:E X B (.BoolOp .And (b::rest) pos) g):E X B (.BoolOp .And (a::b::rest) pos) (D8 f g):=PE.imp (GO ha hb) λ σ H Q ⟨F,η,b,sr,hd,k⟩=>by
 obtain ⟨x,hx,hd⟩:=ab hd;obtain ⟨c,hc,hd2⟩:=ab hd;clear hd;obtain rfl:=jA hc;have hd:=hd2;refine ⟨F,η,_,sr,hx,λ v F1 H1 g1 rv=>⟨c,rv.bl,?_⟩⟩;cases c with
 | false =>
  rw [if_neg LB] at hd ⊢;cases hd;exact k _ F1 H1 g1 ef
 | true =>
  rw [if_pos rfl] at hd ⊢;exact ⟨F1,η,b,sr.grow g1,hd,λ u F2 H2 g2=>k u F2 H2 (g1.trans g2)⟩
theorem E.not (ha:E X B a f):E X B (.UnaryOp .Not a pos) (D6 f):=PE.imp (GJ ha) λ σ H Q ⟨F,η,b,sr,hd,k⟩=>by
 obtain ⟨x,hx,hd⟩:=ab hd;obtain ⟨c,hc,hd2⟩:=ab hd;clear hd;obtain rfl:=jA hc;have hd:=hd2;cases hd;exact ⟨F,η,_,sr,hx,λ v F1 H1 g1 rv=>⟨c,rv.bl,k _ F1 H1 g1 ef⟩⟩
noncomputable def vIf (c:En->Option Bool) (f g:En->Option K5):En->Option K5:=λ η=>(c η).bind λ c=>if c=true then f η else g η
theorem E.ifE (hc:T X B c p) (ha:E X B a f) (hb:E X B b g):E X B (.IfExp c a b pos) (vIf p f g):=PE.imp (Cp hc ha hb) λ σ H Q ⟨F,η,d,sr,hd,k⟩=>by
 obtain ⟨x,hx,hd⟩:=ab hd;refine ⟨F,η,x,sr,hx,λ F1 H1 g1=>?_⟩;cases x with
 | false =>
  rw [if_neg LB] at hd ⊢;exact ⟨F1,η,d,sr.grow g1,hd,λ u F2 H2 g2=>k u F2 H2 (g1.trans g2)⟩
 | true =>
  rw [if_pos rfl] at hd ⊢;exact ⟨F1,η,d,sr.grow g1,hd,λ u F2 H2 g2=>k u F2 H2 (g1.trans g2)⟩
noncomputable def spP (K:K6) (fn:List K5->Option K5):Sp:=λ vs H Q _=>∃ F ds d,Same F H/\RelL K F ds vs/\fn ds=some d/\∀ v F' H',Gr F H F' H'->Rel K F' d v->Q v H'
theorem aq {k k':Nat} {fa:Lz} {fd:Mj} {ps:List Str} {x:Str} {ppos:Pos} {fn:List K5->Option K5} (G:FnOk X.prog X.w X.K X.mg X.base CX0 k fa fd ps (spP X.K fn)) (hr:Room k' X.A) (hkk:k<=k') (hm:X.mg x=some (.ref fa)) (hk:MH X.K (.ref fa)=true) (hb:Binds X.K fd ps [])
  (ha:A X B (e::es) fs) (hg:Gl X x:=by rfl) (hdb:(x==("__debug__" : Str))=false:=by decide) (he:Lj (e::es) X.env=(false,eval e X.env)::Lj es X.env:=by exact bD rfl) (hpl:(backTo pos (Lj es X.env)).any (·.1)=false:=by exact iJ rfl) :
  E X B (.Call (.Name x ppos) (e::es) [] pos) (lA fn fs):=PE.imp (vP G (hr.mono hkk) hg hm hk hb .nil uV ha hdb he hpl) λ σ H Q ⟨F,η,d,sr,hd,q⟩=>by
 obtain ⟨ds,hx,hd⟩:=ab hd;refine ⟨F,η,ds,sr,hx,λ vs F1 H1 g1 rs=>?_⟩;show spP X.K fn (vs++[]) H1 Q E0;rw [LY];exact ⟨F1,ds,d,g1.fh,rs,hd,λ v F2 H2 g2 rv=>q v F2 H2 (g1.trans g2) rv⟩
end
inductive Out where
 | nx (η:En)
 | rt (d:K5)
 | bk (η:En)
 | ct (η:En)
noncomputable def OutOk (K:K6) (B:Bd) (F:Hp) (D:Ends):Out->Prop
 | .nx η=>∀ σ' F' H',SR K B F' H' σ' η->Same F F'->D.nx σ' H'
 | .rt d=>∀ v F' H',Gr B.F B.H F' H'->Rel K F' d v->D.rt v H'
 | .bk η=>∀ σ' F' H',SR K B F' H' σ' η->Same F F'->D.bk σ' H'
 | .ct η=>∀ σ' F' H',SR K B F' H' σ' η->Same F F'->D.ct σ' H'
noncomputable def tS (K:K6) (B:Bd) (f:En->Option Out):TS:=λ D σ H=>∃ F η o,SR K B F H σ η/\f η=some o/\OutOk K B F D o
noncomputable def S (X:Cx) (B:Bd) (st:Stmt) (f:En->Option Out):Prop:=PS X st (tS X.K B f)
noncomputable def Ss (X:Cx) (B:Bd) (st:List Stmt) (f:En->Option Out):Prop:=PSs X st (tS X.K B f)
theorem PS.imp {X:Cx} {e:Stmt} {t t':TS} (h:PS X e t) (i:∀ D σ H,t' D σ H->t D σ H):PS X e t':=λ pins s σ H D I q=>h pins s σ H D I (i D σ H q)
theorem PSs.imp {X:Cx} {e:List Stmt} {t t':TS} (h:PSs X e t) (i:∀ D σ H,t' D σ H->t D σ H):PSs X e t':=λ pins s σ H D I q=>h pins s σ H D I (i D σ H q)
theorem OutOk.up {K:K6} {B:Bd} {F F1:Hp} {D:Ends} {o:Out} (h:OutOk K B F D o) (s:Same F F1):OutOk K B F1 D o:=by
 cases o with
 | nx η=>exact λ σ' F' H' r e=>h σ' F' H' r (s.trans e)
 | rt d=>exact h
 | bk η=>exact λ σ' F' H' r e=>h σ' F' H' r (s.trans e)
 | ct η=>exact λ σ' F' H' r e=>h σ' F' H' r (s.trans e)
noncomputable def sNx:En->Option Out:=λ η=>some (.nx η)
noncomputable def bt (f g:En->Option Out):En->Option Out:=λ η=>(f η).bind λ o=>match o with
 | .nx η'=>g η'
 | o=>some o
noncomputable def dk (f:En->Option K5):En->Option Out:=λ η=>(f η).bind λ d=>some (.rt d)
noncomputable def wX (i:Nat):En->Option Out:=λ η=>match η[i]? with | some (.own ds)=>some (.rt (.list ds)) | _=>none
noncomputable def sIf (c:En->Option Bool) (f g:En->Option Out):En->Option Out:=λ η=>(c η).bind λ b=>if b=true then f η else g η
noncomputable def cj (i:Nat) (f:En->Option K5):En->Option Out:=λ η=>(f η).bind λ d=>some (.nx (η.set i (.val d)))
noncomputable def iG (i:Nat) (f:En->Option (List K5)):En->Option Out:=λ η=>(f η).bind λ ds=>some (.nx (η.set i (.own ds)))
noncomputable def B4 (i:Nat) (f:En->Option K5):En->Option Out:=λ η=>(f η).bind λ d=>match η[i]? with
 | some (.own ds)=>if ds.length < Li then some (.nx (η.set i (.own (ds++[d])))) else none
 | _=>none
noncomputable def oW (i:Nat) (f:En->Option (List K5)):En->Option Out:=λ η=>(f η).bind λ es=>match η[i]? with
 | some (.own ds)=>if ds.length+es.length<=Li then some (.nx (η.set i (.own (ds++es)))) else none
 | _=>none
noncomputable def frz (i:Nat) (η:En):En:=match η[i]? with | some (.own ds)=>η.set i (.val (.list ds)) | some (.odc kvs)=>η.set i (.val (.dict (prs kvs))) | _=>η
section
variable {X:Cx} {B:Bd} {st:Stmt} {sts sts':List Stmt} {u v:En->Option Out} {a b c e:Expr} {f g:En->Option K5} {fs:En->Option (List K5)} {p:En->Option Bool} {pos pos':Pos}
theorem kL:Ss X B [] sNx:=PSs.imp zX λ D σ H ⟨F,η,o,sr,hd,q⟩=>by
 cases hd;exact q σ F H sr (.refl _)
theorem aW (h:S X B st u):Ss X B [st] u:=zW h
theorem aw (h:S X B st u) (k:Ss X B sts v):Ss X B (st::sts) (bt u v):=PSs.imp (xg h k) λ D σ H ⟨F,η,o,sr,hd,q⟩=>by
 obtain ⟨o1,h1,hd⟩:=ab hd;refine ⟨F,η,o1,sr,h1,?_⟩;cases o1 with
 | nx η'=>exact λ σ' F' H' r e=>⟨F',η',o,r,hd,q.up e⟩
 | rt d=>cases hd; exact q
 | bk η'=>cases hd; exact q
 | ct η'=>cases hd; exact q
theorem S.never:S X B st (λ _=>none):=PS.imp xh λ D σ H ⟨F,η,o,sr,hd,q⟩=>by cases hd
theorem dW (he:E X B e f):S X B (.Return (some e) pos) (dk f):=PS.imp (yT he) λ D σ H ⟨F,η,o,sr,hd,q⟩=>by
 obtain ⟨d,h1,hd⟩:=ab hd;cases hd;exact ⟨F,η,d,sr,h1,λ v F' H' g rv=>q v F' H' (sr.gr.trans g) rv⟩
theorem S.retO (i:Nat) {x:Str} (hN:X.N[i]?=some x:=by rfl) (hv:Vis X.env.scope x:=by first | exact Or.inl rfl | exact Or.inr (Or.inl rfl) | exact Or.inr (Or.inr rfl)) (hd:(x==("__debug__" : Str))=false:=by decide)
  (hcd:(x==("__classdict__" : Str))=false:=by decide):S X B (.Return (some (.Name x pos')) pos) (wX i):=PS.imp (yT (mS hN hv hd hcd)) λ D σ H ⟨F,η,o,sr,hd,q⟩=>by
 unfold wX at hd;split at hd
 ·rename_i ds e;cases hd;obtain ⟨F',p,e1,sf,sr',rel⟩:=sr.freeze e;exact ⟨_,e1,q _ F' H sr'.gr rel⟩
 ·cases hd
theorem nM (hc:T X B c p) (ha:Ss X B sts u) (hb:Ss X B sts' v):S X B (.If c sts sts' pos) (sIf p u v):=PS.imp (FL hc ha hb) λ D σ H ⟨F,η,o,sr,hd,q⟩=>by
 obtain ⟨b,h1,hd⟩:=ab hd;refine ⟨F,η,b,sr,h1,λ F1 H1 g1=>?_⟩;cases b with
 | false =>
  rw [if_neg LB] at hd ⊢;exact ⟨F1,η,o,sr.grow g1,hd,q.up g1.ff⟩
 | true =>
  rw [if_pos rfl] at hd ⊢;exact ⟨F1,η,o,sr.grow g1,hd,q.up g1.ff⟩
theorem Hz {K:K6} {i:Nat}:∀ D σ H,tS K B (cj i f) D σ H->Ed (tE K B f) (u6 i) D σ H:=λ D σ H ⟨F,η,o,sr,hd,q⟩=>by
 obtain ⟨d,h1,hd⟩:=ab hd;cases hd;refine ⟨F,η,d,sr,h1,λ v F1 H1 g1 rv=>q _ F1 H1 ⟨sr.gr.trans g1,(sr.en.grow g1).set i rv⟩ g1.ff⟩
theorem AT {K:K6} {i:Nat}:∀ D σ H,tS K B (iG i fs) D σ H->Ed (tO K B fs) (u6 i) D σ H:=λ D σ H ⟨F,η,o,sr,hd,q⟩=>by
 obtain ⟨d,h1,hd⟩:=ab hd;cases hd;refine ⟨F,η,d,sr,h1,λ p xs F1 H1 g1 hp fp hp' rs=>q _ F1 H1 ⟨sr.gr.trans g1,(sr.en.grow g1).setOwn i fp (sr.gr.hh.free hp) hp' rs λ j ej=>sr.en.notown hp j ej⟩ g1.ff⟩
theorem cy (i:Nat) {x:Str} (hN:X.N.Nodup) (he:E X B e f) (hi:X.N[i]?=some x:=by rfl) (hx:Loc X.env.scope x:=by first | exact Or.inl rfl | exact Or.inr rfl) (hs:swapsWith e (some (.Name x pos')) pos.line X.env=pure false:=by rfl)
  (hf:X.fn x=true\/X.env.scope.names.lookup x=some .local:=by first | exact .inl rfl | exact .inr rfl):S X B (.Assign [.Name x pos'] e pos) (cj i f):=PS.imp (vM hN hi hx he hs hf) Hz
theorem S.setO (i:Nat) {x:Str} (hN:X.N.Nodup) (he:EO X B e fs) (hi:X.N[i]?=some x:=by rfl) (hx:Loc X.env.scope x:=by first | exact Or.inl rfl | exact Or.inr rfl) (hs:swapsWith e (some (.Name x pos')) pos.line X.env=pure false:=by rfl)
  (hf:X.fn x=true\/X.env.scope.names.lookup x=some .local:=by first | exact .inl rfl | exact .inr rfl):S X B (.Assign [.Name x pos'] e pos) (iG i fs):=PS.imp (vM hN hi hx he hs hf) AT
theorem Ss.frz (i:Nat) (h:Ss X B sts u):Ss X B sts (λ η=>u (frz i η)):=PSs.imp h λ D σ H ⟨F,η,o,sr,hd,q⟩=>by
 have hd:u (PU.frz i η)=some o:=hd;unfold PU.frz at hd;split at hd
 ·rename_i ds e;obtain ⟨F',p,e1,sf,sr',rel⟩:=sr.freeze e;exact ⟨F',_,o,sr',hd,q.up sf⟩
 ·rename_i kvs e;obtain ⟨F',p,e1,sf,sr',rel⟩:=sr.freezeD e;exact ⟨F',_,o,sr',hd,q.up sf⟩
 ·exact ⟨F,η,o,sr,hd,q⟩
noncomputable def ItP (K:K6) (J:It) (F:Hp) (ds:List K5):Prop:=∀ F1 H1 (i:Nat),Same F F1->Same F1 H1 ->
 (∀ d,ds[i]?=some d->J.go i H1/\∀ x H2,J.yld i H1 x H2->∃ F2,Gr F1 H1 F2 H2/\Rel K F2 d x)/\(i=ds.length->J.stop i H1)
noncomputable def tI (K:K6) (B:Bd) (f:En->Option (List K5)):TI:=λ σ H R=>∃ F η ds,SR K B F H σ η/\f η=some ds/\∀ J F' H',Gr F H F' H'->ItP K J F' ds->R J H'
noncomputable def I (X:Cx) (B:Bd) (tg iter:Expr) (f:En->Option (List K5)):Prop:=PI X tg iter (tI X.K B f)
theorem PI.imp {X:Cx} {tg it:Expr} {t t':TI} (h:PI X tg it t) (i:∀ σ H Q,t' σ H Q->t σ H Q):PI X tg it t':=λ pins s σ H Q I q=>h pins s σ H Q I (i σ H Q q)
noncomputable def TgP (K:K6) (ks:List Nat) (g:TG) (t:En->K5->Option En):Prop:=∀ (B:Bd) F H σ η d x η',SR K B F H σ η->Rel K F d x->t η d=some η'->∀ Q:St->Hp->Prop,(∀ σ' F' H',SR K B F' H' σ' η'->Gr F H F' H'->σ'.length=σ.length->(∀ i,i∉ks->σ'[i]?=σ[i]?)->Q σ' H')->g x σ H Q
noncomputable def tgN (i:Nat):En->K5->Option En:=λ η d=>some (η.set i (.val d))
theorem aF {K:K6} {i:Nat}:TgP K [i] (u6 i) (tgN i):=λ B F H σ η d x η' sr rx e Q q=>by
 cases e;exact q _ F H ⟨sr.gr,sr.en.set i rx⟩ (.refl sr.same) (LC ..) λ j hj=>Ld (λ e=>hj (by simp [e])) ..
noncomputable def TgsP (K:K6) (ks:List Nat) (g:TGs) (t:En->List K5->Option En):Prop:=∀ (B:Bd) F H σ η ds xs η',SR K B F H σ η->RelL K F ds xs->t η ds=some η'->∀ Q:St->Hp->Prop,(∀ σ' F' H',SR K B F' H' σ' η'->Gr F H F' H'->σ'.length=σ.length->(∀ i,i∉ks->σ'[i]?=σ[i]?)->Q σ' H')->g xs σ H Q
noncomputable def gO:En->List K5->Option En:=λ η ds=>match ds with | []=>some η | _=>none
noncomputable def bo (t:En->K5->Option En) (r:En->List K5->Option En):En->List K5->Option En:=λ η ds=>match ds with | []=>none | d::ds=>(t η d).bind λ η1=>r η1 ds
theorem TgsP.nil {K:K6}:TgsP K [] IY gO:=λ B F H σ η ds xs η' sr rx e Q q=>by
 cases ds with
 | nil =>
  cases e;exact ⟨rx.nil_of,q _ F H sr (.refl sr.same) rfl λ _ _=>rfl⟩
 | cons d ds=>cases e
theorem TgsP.cons {K:K6} {ks ls:List Nat} {g:TG} {gs:TGs} {t:En->K5->Option En} {r:En->List K5->Option En} (h:TgP K ks g t) (k:TgsP K ls gs r):TgsP K (ks++ls) (FT g gs) (bo t r):=λ B F H σ η ds xs η' sr rx e Q q=>by
 cases ds with
 | nil=>cases e
 | cons d ds =>
  obtain ⟨x,r',rfl,h1,h2⟩:=rx.cons_of;obtain ⟨η1,e1,e2⟩:=ab e;refine ⟨x,r',rfl,h B F H σ η d x η1 sr h1 e1 _ λ σ1 F1 H1 sr1 g1 l1 n1=>?_⟩;refine k B F1 H1 σ1 η1 ds r' η' sr1 (h2.mono g1.ff) e2 _ λ σ2 F2 H2 sr2 g2 l2 n2=>?_;exact q σ2 F2 H2 sr2 (g1.trans g2) (l2.trans l1) λ i hi=>(n2 i λ z=>hi (LR _ z)).trans (n1 i λ z=>hi (L0 _ z))
noncomputable def tgT (t:En->List K5->Option En):En->K5->Option En:=λ η d=>match d with | .tuple ds=>t η ds | _=>none
theorem TgP.tup {K:K6} {ks:List Nat} {n:Nat} {g:TGs} {t:En->List K5->Option En} (h:TgsP K ks g t) (hn:∀ η ds η',t η ds=some η'->ds.length=n):TgP K ks (IX K n g) (tgT t):=λ B F H σ η d x η' sr rx e Q q=>by
 cases d with
 | tuple ds =>
  obtain ⟨a,xs,rfl,hq,rs⟩:=rx.tup;exact ⟨a,xs,rfl,cn sr.same hq,by rw [rs.length]; exact hn η ds η' e,h B F H σ η ds xs η' sr rs e Q q⟩
 | none=>cases e
 | bool _=>cases e
 | int _=>cases e
 | str _=>cases e
 | list _=>cases e
 | dict _=>cases e
noncomputable def sGo (t:En->K5->Option En) (body:En->Option Out):List K5->En->Option Out
 | [],η=>some (.nx η)
 | d::ds,η=>(t η d).bind λ η1=>(body η1).bind λ o=>match o with
  | .nx η2=>sGo t body ds η2
  | .ct η2=>sGo t body ds η2
  | .bk η2=>some (.nx η2)
  | .rt d=>some (.rt d)
noncomputable def jF (it:En->Option (List K5)) (t:En->K5->Option En) (body:En->Option Out):En->Option Out:=λ η=>(it η).bind λ ds=>sGo t body ds η
theorem lH {tg iter:Expr} {body:List Stmt} {gt:TG} {ks:List Nat} {t:En->K5->Option En} (hp:PassesOwn (L6 X.prog X.w) X.A X.env X.xe) (hc:X.calm=true) (hi:I X B tg iter fs) (hg:PG X tg gt) (ht:TgP X.K ks gt t) (hb:Ss X B body u)
  (hs:∀ x,foldedSetIterable iter X.env x=pure x:=by intro _; rfl):S X B (.For tg iter body [] pos) (jF fs t u):=PS.imp (Cg hp hc hi hg hb hs) λ D σ H ⟨F,η,o,sr,hd,q⟩=>by
 obtain ⟨ds,h1,hd⟩:=ab hd;refine ⟨F,η,ds,sr,h1,λ J F1 H1 g1 ip=>?_⟩;refine ⟨λ i m σ H=>m=ds.length - i/\i<=ds.length/\∃ Fc ηc,SR X.K B Fc H σ ηc/\Same F1 Fc/\sGo t u (ds.drop i) ηc=some o,⟨_,rfl,Ml _,F1,η,sr.grow g1,.refl _,by simpa using hd⟩,?_⟩
 rintro i m σc Hc ⟨rfl,hi,Fc,ηc,src,sc,hgo⟩
 obtain ⟨ip1,ip2⟩:=ip Fc Hc i sc src.same;by_cases hlt:i < ds.length
 ·have e:ds[i]?=some ds[i]:=K9 hlt;obtain ⟨go,yl⟩:=ip1 _ e;rw [My hlt] at hgo;unfold sGo at hgo;obtain ⟨η1,e1,hgo⟩:=ab hgo;obtain ⟨o1,e2,hgo⟩:=ab hgo;have cont:∀ (η2:En),sGo t u (ds.drop (i+1)) η2=some o->∀ σ' F' H',SR X.K B F' H' σ' η2->Same F1 F' ->
    ∃ m',m' < ds.length - i/\(λ i m σ H=>m=ds.length - i/\i<=ds.length/\∃ Fc ηc,SR X.K B Fc H σ ηc/\Same F1 Fc/\sGo t u (ds.drop i) ηc=some o) (i+1) m' σ' H':=λ η2 h2 σ' F' H' r s =>
   ⟨ds.length - (i+1),by omega,rfl,hlt,F',η2,r,s,h2⟩
  refine .inr ⟨go,λ σ' H'=>∃ m',m' < ds.length - i/\(λ i m σ H=>m=ds.length - i/\i<=ds.length/\∃ Fc ηc,SR X.K B Fc H σ ηc/\Same F1 Fc/\sGo t u (ds.drop i) ηc=some o) (i+1) m' σ' H',λ σ' H' n=>n,λ x H' y=>?_⟩;obtain ⟨F2,g2,rx⟩:=yl x H' y;refine ht B F2 H' σc ηc _ x η1 (src.grow g2) rx e1 _ λ σ3 F3 H3 sr3 g3 _ _=>?_;refine ⟨F3,η1,o1,sr3,e2,?_⟩;have s3:Same F1 F3:=sc.trans (g2.ff.trans g3.ff);cases o1 with
  | nx η2=>exact λ σ' F' H' r s=>cont η2 hgo σ' F' H' r (s3.trans s)
  | ct η2=>exact λ σ' F' H' r s=>cont η2 hgo σ' F' H' r (s3.trans s)
  | bk η2 =>
   cases hgo;exact λ σ' F' H' r s=>q σ' F' H' r (g1.ff.trans (s3.trans s))
  | rt d =>
   cases hgo;exact q
 ·have ei:i=ds.length:=by omega
  subst ei;rw [Np] at hgo;cases hgo;exact .inl ⟨ip2 rfl,q σc Fc Hc src (g1.ff.trans sc)⟩
noncomputable def asL:K5->Option (List K5)
 | .list ds=>some ds
 | _=>none
noncomputable def lj:K5->Option (List K5)
 | .tuple ds=>some ds
 | _=>none
noncomputable def lI (k:K5->Option (List K5)) (f:En->Option K5):En->Option (List K5):=λ η=>(f η).bind k
theorem Df {K:K6} {F:Hp} {a:Lz} {xs:List V} {ds:List K5} (h:SqL K F a xs) (r:RelL K F ds xs):ItP K (Itl K a) F ds:=λ F1 H1 i s1 s2=>by
 have q:=s2.seq (s1.seq h);refine ⟨λ d e=>?_,λ e=>⟨xs,q,by rw [r.length,e]; exact Lp _⟩⟩;obtain ⟨x,ex,rx⟩:=r.get e;refine ⟨⟨xs,x,q,ex⟩,λ x' H2 y=>?_⟩;obtain ⟨e2,y⟩:=y;subst e2;have z:=y xs q;rw [ex] at z;cases z;exact ⟨F1,.refl s2,rx.mono s1⟩
theorem Av {K:K6} {F:Hp} {a:Lz} {xs:List V} {ds:List K5} (h:SqT K F a xs) (r:RelL K F ds xs):ItP K (Itt K a) F ds:=λ F1 H1 i s1 s2=>by
 have q:=cn s2 (cn s1 h);refine ⟨λ d e=>?_,λ e=>⟨xs,q,by rw [r.length,e]; exact Lp _⟩⟩;obtain ⟨x,ex,rx⟩:=r.get e;refine ⟨⟨xs,x,q,ex⟩,λ x' H2 y=>?_⟩;obtain ⟨e2,y⟩:=y;subst e2;have z:=y xs q;rw [ex] at z;cases z;exact ⟨F1,.refl s2,rx.mono s1⟩
theorem I.list {tg:Expr} (he:E X B e f):I X B tg e (lI asL f):=PI.imp (EB he) λ σ H Q ⟨F,η,ds,sr,hd,q⟩=>by
 obtain ⟨d,h1,hd⟩:=ab hd;cases d <;> simp only [asL,Option.some.injEq,reduceCtorEq] at hd;subst hd;refine ⟨F,η,_,sr,h1,λ v F1 H1 g1 rv=>?_⟩;obtain ⟨a,xs,rfl,hq,rs⟩:=rv.lst;exact ⟨a,rfl,⟨xs,g1.fh.seq hq⟩,q _ F1 H1 g1 (Df hq rs)⟩
theorem I.tup {tg:Expr} (he:E X B e f):I X B tg e (lI lj f):=PI.imp (Cm he) λ σ H Q ⟨F,η,ds,sr,hd,q⟩=>by
 obtain ⟨d,h1,hd⟩:=ab hd;cases d <;> simp only [lj,Option.some.injEq,reduceCtorEq] at hd;subst hd;refine ⟨F,η,_,sr,h1,λ v F1 H1 g1 rv=>?_⟩;obtain ⟨a,xs,rfl,hq,rs⟩:=rv.tup;exact ⟨a,rfl,⟨xs,cn g1.fh hq⟩,q _ F1 H1 g1 (Av hq rs)⟩
noncomputable def pA (lo:Int) (n:Nat):List K5:=(List.range n).map λ (k:Nat)=>Lv (lo+k)
theorem Aw {K:K6} {F:Hp} {lo:Int} {n:Nat}:ItP K (Itr lo n) F (pA lo n):=λ F1 H1 i s1 s2=>by
 have hl:(pA lo n).length=n:=by unfold pA; rw [K7,LW]
 refine ⟨λ d e=>?_,λ e=>by show n<=i; omega⟩;have hi:i < n:=by rw [<- hl]; exact (Lb.mp e).1
 refine ⟨hi,λ x H2 y=>?_⟩;obtain ⟨e2,e3⟩:=y;subst e2 e3
 have:d=.int (lo+i):=by
  unfold pA at e;rw [Le,Mt hi] at e;exact (Option.some.inj e).symm
 subst this;exact ⟨F1,.refl s2,cZ⟩
noncomputable def rng1 (ds:List K5):Option (List K5):=match ds with
 | [.int j]=>if -(2 ^ 62)<=j/\j < 2 ^ 62 then some (pA 0 j.toNat) else none
 | _=>none
noncomputable def rng2 (ds:List K5):Option (List K5):=match ds with
 | [.int i,.int j]=>if (-(2 ^ 62)<=i/\i < 2 ^ 62)/\(-(2 ^ 62)<=j/\j < 2 ^ 62) then some (pA i (j - i).toNat) else none
 | _=>none
theorem I.rng1 {tg:Expr} {pp:Pos} (hm:X.mg "range" = none) (ha:A X B [a] fs) (hg:Gl X "range" := by rfl) (hs:Lj [a] X.env=[(false,eval a X.env)]:=by exact bD rfl):I X B tg (.Call (.Name "range" pp) [a] [] pos) (λ η=>(fs η).bind PU.rng1) :=
 PI.imp (A8 hg hm ha hs) λ σ H Q ⟨F,η,ds,sr,hd,q⟩=>by
  obtain ⟨es,h1,hd⟩:=ab hd;unfold PU.rng1 at hd;split at hd
  ·rename_i j;split at hd
   ·rename_i hj;cases hd;refine ⟨F,η,_,sr,h1,λ vs F1 H1 g1 rs=>?_⟩;obtain ⟨x,r,rfl,rx,rr⟩:=rs.cons_of;obtain rfl:=rr.nil_of;exact ⟨j,by rw [rx.int],hj.1,hj.2,q _ F1 H1 g1 Aw⟩
   ·cases hd
  ·cases hd
theorem I.rng2 {tg:Expr} {pp:Pos} (hm:X.mg "range" = none) (ha:A X B [a,b] fs) (hg:Gl X "range" := by rfl) (hs:Lj [a,b] X.env=[(false,eval a X.env),(false,eval b X.env)]:=by exact BX rfl rfl) (hs2:Lj [b] X.env=[(false,eval b X.env)]:=by exact bD rfl) :
  I X B tg (.Call (.Name "range" pp) [a,b] [] pos) (λ η=>(fs η).bind PU.rng2) :=
 PI.imp (A7 hg hm ha hs hs2) λ σ H Q ⟨F,η,ds,sr,hd,q⟩=>by
  obtain ⟨es,h1,hd⟩:=ab hd;unfold PU.rng2 at hd;split at hd
  ·rename_i i j;split at hd
   ·rename_i hj;cases hd;refine ⟨F,η,_,sr,h1,λ vs F1 H1 g1 rs=>?_⟩;obtain ⟨x,r,rfl,rx,rr⟩:=rs.cons_of;obtain ⟨y,r2,rfl,ry,rr2⟩:=rr.cons_of;obtain rfl:=rr2.nil_of;exact ⟨i,j,by rw [rx.int,ry.int],⟨hj.1.1,hj.1.2,hj.2.1,hj.2.2⟩,q _ F1 H1 g1 Aw⟩
   ·cases hd
  ·cases hd
end
noncomputable def nz (mp:List (Option Nat)) (η:En):En:=mp.map λ o=>match o with
 | some j=>(match η[j]? with | some (.val d)=>.val d | some (.ob fs)=>.ob fs | _=>.un)
 | none=>.un
noncomputable def cGo (t:En->K5->Option En) (p:En->Option Bool) (f:En->Option K5) (η:En):List K5->Option (List K5)
 | []=>some []
 | d::ds=>(t η d).bind λ η1=>(p η1).bind λ ok=>if ok=true then (f η1).bind λ y=>(cGo t p f η ds).bind λ r=>some (y::r) else cGo t p f η ds
noncomputable def bf (mp:List (Option Nat)) (fi:En->Option (List K5)) (t:En->K5->Option En) (p:En->Option Bool) (f:En->Option K5):En->Option (List K5):=λ η =>
 (fi η).bind λ ds=>if ds.length<=Li then cGo t p f (nz mp η) ds else none
noncomputable def Ts (X:Cx) (B:Bd) (ifs:List Expr) (p:En->Option Bool):Prop:=PTs X ifs (tT X.K B p)
noncomputable def ci:En->Option Bool:=λ _=>some true
section
variable {X:Cx} {B:Bd}
theorem Ts.nil:Ts X B [] ci:=λ pins s σ H Q I ⟨F,η,b,sr,hd,q⟩=>by
 cases hd;exact zR pins s σ H Q I (q F H (.refl sr.same))
theorem Ts.one {c:Expr} {p:En->Option Bool} (h:T X B c p):Ts X B [c] p:=zQ h
theorem Ay {mp:List (Option Nat)} {η:En} {i:Nat} {a:Sl} (e:(nz mp η)[i]?=some a):jd a=false:=by
 unfold nz at e;rw [Le] at e;cases q:mp[i]? with
 | none=>rw [q] at e; cases e
 | some o =>
  rw [q] at e;cases o with
  | none=>cases e; rfl
  | some j =>
   have e':(match η[j]? with | some (.val d)=>Sl.val d | some (.ob fs)=>.ob fs | _=>.un)=a:=Option.some.inj e;split at e' <;> (subst e'; rfl)
theorem EnR.inner {K:K6} {He F H:Hp} {σ:St} {η:En} (r:EnR K He F H σ η) (mp:List (Option Nat)):EnR K He F H (gR mp σ) (nz mp η) where
 len:=by unfold nz gR; rw [K7,K7]
 val:=λ i d e=>by
  unfold nz at e;rw [Le] at e;cases q:mp[i]? with
  | none=>rw [q] at e; cases e
  | some o =>
   rw [q] at e;cases o with
   | none=>cases e
   | some j =>
    have e':(match η[j]? with | some (.val d)=>Sl.val d | some (.ob fs)=>.ob fs | _=>.un)=.val d:=Option.some.inj e;split at e'
    ·rename_i d' ed
     have:d'=d:=by injection e'
     subst this;obtain ⟨v,e1,e2⟩:=r.val j d' ed;refine ⟨v,?_,e2⟩;unfold gR;rw [Le,q];show some ((σ[j]?).join)=_;rw [e1];rfl
    ·cases e'
    ·cases e'
 obs:=λ i fs e=>by
  unfold nz at e;rw [Le] at e;cases q:mp[i]? with
  | none=>rw [q] at e; cases e
  | some o =>
   rw [q] at e;cases o with
   | none=>cases e
   | some j =>
    have e':(match η[j]? with | some (.val d)=>Sl.val d | some (.ob fs)=>.ob fs | _=>.un)=.ob fs:=Option.some.inj e;split at e'
    ·cases e'
    ·rename_i d' ed
     have:d'=fs:=by injection e'
     subst this;obtain ⟨p,C,dx,xs,e1,e2⟩:=r.obs j d' ed;refine ⟨p,C,dx,xs,?_,e2⟩;unfold gR;rw [Le,q];show some ((σ[j]?).join)=_;rw [e1];rfl
    ·cases e'
 cel:=λ i a e ha=>by rw [Ay e] at ha; cases ha
 apart:=λ i j a b e _ ha _ _=>by rw [Ay e] at ha; cases ha
variable {elt iter tg:Expr} {ifs:List Expr} {scope:Scope} {pos:Pos} {N':List Str} {mp:List (Option Nat)} {ks:List Nat} {gt:TG} {t:En->K5->Option En} {fi:En->Option (List K5)} {p:En->Option Bool} {f:En->Option K5}
theorem wq {K:K6} (ht:TgP K ks gt t) (hks:∀ k∈ks,mp[k]?=some none):∀ σ H Q,tO K B (bf mp fi t p f) σ H Q->zD mp (tI K B fi) gt (tT K B p) (tE K B f) σ H Q:=λ σ H Q ⟨F,η,rs,sr,hd,q⟩=>by
 obtain ⟨ds,h1,hd⟩:=ab hd;split at hd
 rotate_left
 ·cases hd
 rename_i hz;refine ⟨F,η,ds,sr,h1,λ J F1 H1 g1 ip D hD=>?_⟩;have fD:F1 D=none:=g1.fh.free hD;have kept:∀ {σ2:St},σ2.length=(gR mp σ).length->(∀ i,i∉ks->σ2[i]?=(gR mp σ)[i]?)->sw (gR mp σ) σ2:=λ {σ2} hl hn=>⟨hl,λ i v e=>by
  by_cases hi:i∈ks
  ·have z:=hks i hi;unfold gR at e;rw [Le,z] at e;cases e
  ·rw [hn i hi]; exact e⟩
 refine ⟨λ i m Hc=>m=ds.length - i/\i<=ds.length/\∃ Fc ys done rest,Gr F1 H1 Fc Hc/\Fc D=none/\Hc D=some (.lst ys)/\RelL K Fc done ys/\done.length<=i/\cGo t p f (nz mp η) (ds.drop i)=some rest/\rs=done++rest,⟨_,rfl,Ml _,F1,[],[],rs,⟨.refl _,dj hD _,λ b u z=>dj hD _ b u (g1.fh b u z),λ b z=>.inl z⟩,fD,aX,.nil,Lp _,by simpa using hd,rfl⟩,?_⟩
 rintro i m Hc ⟨rfl,hi,Fc,ys,done,rest,gc,fcD,hcD,rd,hdl,hgo,hrs⟩
 obtain ⟨ip1,ip2⟩:=ip Fc Hc i gc.ff gc.fh;by_cases hlt:i < ds.length
 ·have e:ds[i]?=some ds[i]:=K9 hlt;obtain ⟨go,yl⟩:=ip1 _ e;rw [My hlt] at hgo;unfold cGo at hgo;obtain ⟨η1,e1,hgo⟩:=ab hgo;obtain ⟨ok,e2,hgo⟩:=ab hgo;refine .inr ⟨go,λ H'=>∃ m',m' < ds.length - i/\(m'=ds.length - (i+1)/\i+1<=ds.length/\∃ Fc ys done rest,Gr F1 H1 Fc H'/\Fc D=none/\H' D=some (.lst ys)/\RelL K Fc done ys/\done.length<=i+1/\cGo t p f (nz mp η) (ds.drop (i+1))=some rest/\rs=done++rest),λ H' n=>n,λ x H' y=>?_⟩;obtain ⟨F2,g2,rx⟩:=yl x H' y;have sin:SR K B F2 H' (gR mp σ) (nz mp η):=⟨(sr.gr.trans g1).trans (gc.trans g2),((sr.en.grow g1).inner mp).grow (gc.trans g2)⟩;refine ht B F2 H' (gR mp σ) (nz mp η) _ x η1 sin rx e1 _ λ σ3 F3 H3 sr3 g3 l3 n3=>⟨kept l3 n3,F3,η1,ok,sr3,e2,λ F4 H4 g4=>?_⟩;have gall:Gr Fc Hc F4 H4:=(g2.trans g3).trans g4;have nD:∀ {F5 H5:Hp},Gr Fc Hc F5 H5->F5 D=none:=λ {F5 H5} g=>by
   cases z:F5 D with
   | none=>rfl
   | some o =>
    rcases g.new D (by rw [z]; simp) with w | w
    ·exact absurd fcD w
    ·rw [hcD] at w; cases w
  cases ok with
  | false =>
   rw [if_neg LB] at hgo;refine KA ?_;exact ⟨ds.length - (i+1),by omega,rfl,hlt,F4,ys,done,rest,gc.trans gall,nD gall,gall.hh _ _ hcD,rd.mono gall.ff,Nat.le_succ_of_le hdl,hgo,hrs⟩
  | true =>
   rw [if_pos rfl] at hgo;refine Kz ?_;obtain ⟨yv,e3,hgo⟩:=ab hgo;obtain ⟨r,e4,hgo⟩:=ab hgo;cases hgo;refine ⟨F4,η1,yv,sr3.grow g4,e3,λ v F5 H5 g5 rv=>?_⟩;have ga:=gall.trans g5;have h5D:=ga.hh _ _ hcD;refine ⟨ys,h5D,by rw [rd.length]; omega,ds.length - (i+1),by omega,rfl,hlt,F5,ys++[v],done++[yv],r,?_,nD ga,aX,(rd.mono ga.ff).append (.cons rv .nil),by rw [Lm,Nu]; omega,e4,by rw [hrs,Ma]; rfl⟩;have gt':=gc.trans ga;refine ⟨gt'.ff,λ b u z=>?_,λ b u z=>?_,gt'.new⟩
   ·have nb:b≠D:=aR z hD;rw [aE nb]; exact gt'.hh b u z
   ·have nb:b≠D:=aR z (nD ga);rw [aE nb]; exact gt'.fh b u z
 ·have ei:i=ds.length:=by omega
  subst ei;rw [Np] at hgo;cases hgo;rw [LY] at hrs;subst hrs;exact .inl ⟨ip2 rfl,q D ys Fc Hc (g1.trans gc) (g1.hh.free hD) fcD hcD rd⟩
theorem fK (hc:X.calm=true) (ck:CompSc X scope N' mp) (ht:TgP X.K ks gt t) (hks:∀ k∈ks,mp[k]?=some none) (hi:I X B tg iter fi)
  (hb:∀ s H fp,PG (b6 X scope N' s H fp) tg gt/\Ts (b6 X scope N' s H fp) B ifs p/\E (b6 X scope N' s H fp) B elt f)
  (hs:∀ x,foldedSetIterable iter X.env x=pure x:=by intro _; rfl):EO X B (.ListComp elt [⟨tg,iter,ifs,0⟩] scope pos) (bf mp fi t p f):=PE.imp (z5 hc ck hi hb hs) (wq ht hks)
theorem S.setC (i:Nat) {y:Str} {py spos:Pos} (hc:X.calm=true) (hN:X.N.Nodup) (ck:CompSc X scope N' mp) (ht:TgP X.K ks gt t) (hks:∀ k∈ks,mp[k]?=some none) (hi:I X B tg iter fi)
  (hb:∀ s H fp,PG (b6 X scope N' s H fp) tg gt/\Ts (b6 X scope N' s H fp) B ifs p/\E (b6 X scope N' s H fp) B elt f)
  (hiy:X.N[i]?=some y:=by rfl) (hy:X.env.scope.names.lookup y=some .local:=by rfl) (hsw:swapsWith (.ListComp elt [⟨tg,iter,ifs,0⟩] scope pos) (some (.Name y py)) spos.line X.env=pure true:=by rfl)
  (hs:∀ x,foldedSetIterable iter X.env x=pure x:=by intro _; rfl):S X B (.Assign [.Name y py] (.ListComp elt [⟨tg,iter,ifs,0⟩] scope pos) spos) (iG i (bf mp fi t p f)) :=
 PS.imp (sO hc hN hiy hy ck hi hb hsw hs) λ D σ H h=>by
  have h':=AT D σ H h;exact wq ht hks σ H _ h'
end
noncomputable def bv (n m:Nat) (g:En->Option Out) (ds:List K5):Option K5:=if ds.length=n then (g (ds.map Sl.val++Mm (m - n) .un)).bind λ o=>match o with
 | .rt d=>some d
 | .nx _=>some .none
 | _=>none else none
section
variable {P:LM} {w:World} {K:K6} {mg:Str->Option Lf} {base:Heap}
theorem wT {n:Nat} {ds:List K5} {i:Nat} {a:Sl} (e:(ds.map Sl.val++Mm n .un)[i]?=some a):jd a=false:=by
 by_cases hi:i < ds.length
 ·rw [Lw (by rw [K7]; exact hi),Le] at e;cases q:ds[i]? with
  | none=>rw [q] at e; cases e
  | some d'=>rw [q] at e; cases e; rfl
 ·rw [Lx (by rw [K7]; omega),MJ] at e;split at e <;> cases e;rfl
theorem EnR.start {F H:Hp} {N:List Str} {ds:List K5} {vs:List V} (r:RelL K F ds vs):EnR K H F H (L2.start N vs) (ds.map Sl.val++Mm (N.length - ds.length) .un) where
 len:=by unfold L2.start; rw [Lm,Lm,K7,K7,MN,MN,r.length]
 val:=λ i d e=>by
  unfold L2.start;by_cases hi:i < ds.length
  ·rw [Lw (by rw [K7]; exact hi),Le] at e;rw [Lw (by rw [K7,r.length]; exact hi),Le];cases q:ds[i]? with
   | none=>rw [q] at e; cases e
   | some d' =>
    rw [q] at e
    have:d'=d:=by injection (Option.some.inj e)
    subst this;obtain ⟨x,e1,e2⟩:=r.get q;exact ⟨x,by rw [e1]; rfl,e2⟩
  ·rw [Lx (by rw [K7]; omega),MJ] at e;split at e <;> cases e
 cel:=λ i a e ha=>by rw [wT e] at ha; cases ha
 obs:=λ i fs e=>by
  by_cases hi:i < ds.length
  ·rw [Lw (by rw [K7]; exact hi),Le] at e;cases q:ds[i]? with
   | none=>rw [q] at e; cases e
   | some d'=>rw [q] at e; cases e
  ·rw [Lx (by rw [K7]; omega),MJ] at e;split at e <;> cases e
 apart:=λ i _ a _ e _ ha _ _=>by rw [wT e] at ha; cases ha
theorem fnP {x qual:Str} {st:Stmt} {f:Lz} {fd:Mj} {N ps:List Str} {k:Nat} {g:En->Option Out} (Fn:Fun K x qual st f fd) (Sc:aL N ps (ah st))
  (hb:∀ (cdv:Lf) (A:Mb) (outer:List Env) (s:Lh) (H:Hp) (E:XK) (F:Hp),Room k (A.deeper (envOfC qual (ah st) s.heap.objs.size f cdv)) ->
   Ss (ya CX0 P w K mg base N qual (ah st) f cdv A outer s H E).nox ⟨F,H⟩ (lV st) g) :
  FnOk P w K mg base CX0 (k+1) f fd ps (spP K (bv ps.length N.length g)):=by
 have len:∀ {F:Hp} {ds:List K5} {vs:List V} {d:K5},RelL K F ds vs->bv ps.length N.length g ds=some d->ds.length=ps.length/\vs.length=ps.length:=λ {F ds vs d} r e=>by
  unfold bv at e;split at e
  ·rename_i hl;exact ⟨hl,by rw [r.length]; exact hl⟩
  ·cases e
 refine Fn.ok Sc (λ vs H Q E h=>?_) (λ cdv A outer s H vs Q E hr h=>?_)
 ·obtain ⟨F,ds,d,_,r,e,_⟩:=h;exact (len r e).2
 ·obtain ⟨F,ds,d,sm,r,e,q⟩:=h;obtain ⟨l1,l2⟩:=len r e;refine ⟨_,hb cdv A outer s H E F hr,?_⟩;unfold bv at e;rw [if_pos l1] at e;obtain ⟨o,e1,e2⟩:=ab e;refine ⟨F,_,o,⟨.refl sm,?_⟩,e1,?_⟩
  ·have z:=EnR.start (K:=K) (H:=H) (N:=N) r;rw [l1] at z;exact z
  ·cases o with
   | rt d' =>
    cases e2;exact λ v F' H' g rv=>q v F' H' g rv
   | nx η' =>
    cases e2;exact λ σ' F' H' sr _=>q .non F' H' sr.gr pB
   | bk η'=>cases e2
   | ct η'=>cases e2
theorem fn0 {f:Lz} {fd:Mj} {ps:List Str} {k:Nat}:FnOk P w K mg base CX0 k f fd ps (spP K (λ _=>none)) :=
 ⟨λ vs H Q E h=>(by obtain ⟨_,_,_,_,_,e,_⟩:=h; cases e),λ A outer s H args us vs Q E _ _ _ _ h=>(by obtain ⟨_,_,_,_,_,e,_⟩:=h; cases e)⟩
end
section
variable {X:Cx}
mutual
theorem Rel.reads {pins:List (Lz×Obj)} {σ:St} {F H:Hp} {s:Lh} (I:Inv X pins σ H s) (sm:Same F H):∀ {d:K5} {v:V} {u:Lf},L9 d=true->Rel X.K F d v->RelV v u->∃ as,Reads s.heap u d as
 | .none,v,u,_,h,r=>by
  rw [h.non] at r; cases r;exact ⟨_,.none⟩
 | .bool b,v,u,_,h,r=>by
  rw [h.bl] at r; cases r;exact ⟨_,.bool b⟩
 | .int i,v,u,_,h,r=>by
  rw [h.int] at r; obtain ⟨t,rfl⟩:=r;exact ⟨_,.int i t⟩
 | .str x,v,u,_,h,r=>by
  rw [h.str] at r; obtain ⟨t,rfl⟩:=r;exact ⟨_,.str x t⟩
 | .tuple ds,v,u,c,h,r=>by
  unfold L9 at c;obtain ⟨a,xs,rfl,hq,rs⟩:=h.tup;cases r;obtain ⟨its,rv,⟨o,ho,hc,n,hd⟩,_⟩:=I.tuple (cn sm hq);obtain ⟨as,h'⟩:=RelL.reads I sm c rs rv;exact ⟨as,.tuple ho hc hd (by simpa using h')⟩
 | .list ds,v,u,c,h,r=>by
  unfold L9 at c;obtain ⟨a,xs,rfl,hq,rs⟩:=h.lst;cases r;obtain ⟨its,rv,p,_⟩:=I.list (sm.seq hq);obtain ⟨o,ho,hc,n,hd⟩:=p.isList;obtain ⟨as,h'⟩:=RelL.reads I sm c rs rv;exact ⟨a::as,.list ho hc hd (by simpa using h')⟩
 | .dict _,v,u,c,h,r=>by unfold L9 at c; cases c
theorem RelL.reads {pins:List (Lz×Obj)} {σ:St} {F H:Hp} {s:Lh} (I:Inv X pins σ H s) (sm:Same F H):∀ {ds:List K5} {vs:List V} {us:List Lf},Mn ds=true->RelL X.K F ds vs->Vals vs us->∃ as,ReadsAll s.heap us ds as
 | [],vs,us,_,h,r=>by
  rw [h.nil_of] at r; cases r;exact ⟨_,.nil⟩
 | d::ds,vs,us,c,h,r=>by
  unfold Mn at c;obtain ⟨c1,c2⟩:=MW.mp c;obtain ⟨x,xs,rfl,h1,h2⟩:=h.cons_of;cases r with
  | cons r1 r2 =>
   obtain ⟨as,e1⟩:=Rel.reads I sm c1 h1 r1;obtain ⟨bs,e2⟩:=RelL.reads I sm c2 h2 r2;exact ⟨as++bs,.cons e1 e2⟩
end
noncomputable def Eu (K:K6) (neg:Bool):R2:=λ x y H Q=>∃ F dx dy,Same F H/\Rel K F dx x/\Rel K F dy y/\LU dx=true/\LU dy=true/\Q (.bl (if neg then !LV dx dy else LV dx dy)) H
theorem yZ (hu:X.A.units+64 < cLine):OpR X (L8 .Eq) (Eu X.K false):=by
 intro pins s σ H x y v u Q I rx ry h;obtain ⟨F,dx,dy,sm,h1,h2,s1,s2,q⟩:=h;obtain ⟨as,ra⟩:=Rel.reads I sm (SeqAt.canLay_of_shaped s1) h1 rx;obtain ⟨bs,rb⟩:=Rel.reads I sm (SeqAt.canLay_of_shaped s2) h2 ry;exact SeqAt.compareEq_shaped ra rb s1 s2 hu ⟨.bl _,H,I,rfl,q⟩
theorem CA (hu:X.A.units+64 < cLine):OpR X (L8 .NotEq) (Eu X.K true):=by
 intro pins s σ H x y v u Q I rx ry h;obtain ⟨F,dx,dy,sm,h1,h2,s1,s2,q⟩:=h;obtain ⟨as,ra⟩:=Rel.reads I sm (SeqAt.canLay_of_shaped s1) h1 rx;obtain ⟨bs,rb⟩:=Rel.reads I sm (SeqAt.canLay_of_shaped s2) h2 ry;exact SeqAt.compareNe_shaped ra rb s1 s2 hu ⟨.bl _,H,I,rfl,q⟩
noncomputable def pEq (x y:K5):Option K5:=if LU x=true/\LU y=true then some (.bool (LV x y)) else none
noncomputable def pNe (x y:K5):Option K5:=if LU x=true/\LU y=true then some (.bool (!LV x y)) else none
theorem DP {K:K6}:Ad2 K (Eu K false) pEq:=λ F H x y dx dy d Q sm rx ry e q=>by
 unfold pEq at e;split at e
 ·rename_i hs;cases e;exact ⟨F,dx,dy,sm,rx,ry,hs.1,hs.2,q _ F H (.refl sm) ef⟩
 ·cases e
theorem FY {K:K6}:Ad2 K (Eu K true) pNe:=λ F H x y dx dy d Q sm rx ry e q=>by
 unfold pNe at e;split at e
 ·rename_i hs;cases e;exact ⟨F,dx,dy,sm,rx,ry,hs.1,hs.2,q _ F H (.refl sm) ef⟩
 ·cases e
noncomputable def pI (C:Int->Int->Prop) [∀ i j,Decidable (C i j)] (g:Int->Int->K5) (x y:K5):Option K5:=match x,y with
 | .int i,.int j=>if C i j then some (g i j) else none
 | _,_=>none
instance:∀ i j,Decidable (CMul i j):=λ i j=>by unfold CMul; infer_instance
instance:∀ i j,Decidable (CDiv i j):=λ i j=>by unfold CDiv; infer_instance
theorem HI {K:K6} {C:Int->Int->Prop} [∀ i j,Decidable (C i j)] {g:Int->Int->K5} {gv:Int->Int->V} (hg:∀ F i j,Rel K F (g i j) (gv i j)):Ad2 K (rI C gv) (pI C g):=λ F H x y dx dy d Q sm rx ry e q=>by
 cases dx <;> cases dy <;> simp only [pI,reduceCtorEq] at e;split at e
 ·rename_i hc;cases e;exact ⟨_,_,rx.int,ry.int,hc,q _ F H (.refl sm) (hg F _ _)⟩
 ·cases e
theorem qb {K:K6} {g:Int->Int->K5} {gv:Int->Int->V} (hg:∀ F i j,Rel K F (g i j) (gv i j)):Ad2 K (rI0 gv) (pI (λ _ _=>True) g):=λ F H x y dx dy d Q sm rx ry e q=>by
 cases dx <;> cases dy <;> simp only [pI,reduceCtorEq,if_true] at e;cases e;exact ⟨_,_,rx.int,ry.int,q _ F H (.refl sm) (hg F _ _)⟩
noncomputable def kQ:=pI (λ _ _=>True) λ i j=>.int (i - j)
noncomputable def kj:=pI CMul λ i j=>.int (i*j)
noncomputable def mX:=pI CDiv λ i j=>.int (i / j)
noncomputable def lq:=pI (λ _ j=>0 < j) λ i j=>.int (i % j)
noncomputable def pLt:=pI (λ _ _=>True) λ i j=>.bool (decide (i < j))
noncomputable def pLe:=pI (λ _ _=>True) λ i j=>.bool (decide (i<=j))
noncomputable def pGe:=pI (λ _ _=>True) λ i j=>.bool (decide (j<=i))
section
variable {B:Bd} {a b:Expr} {f g:En->Option K5} {pos:Pos}
theorem E.sub (ha:E X B a f) (hb:E X B b g):E X B (.BinOp a .Sub b pos) (l2 kQ f g):=E.op GR (qb λ _ _ _=>cZ) ha hb
theorem E.mul (ha:E X B a f) (hb:E X B b g):E X B (.BinOp a .Mult b pos) (l2 kj f g):=E.op GS (HI λ _ _ _=>cZ) ha hb
theorem E.fdiv (ha:E X B a f) (hb:E X B b g):E X B (.BinOp a .FloorDiv b pos) (l2 mX f g):=E.op EN (HI λ _ _ _=>cZ) ha hb
theorem E.mod (ha:E X B a f) (hb:E X B b g):E X B (.BinOp a .Mod b pos) (l2 lq f g):=E.op GT (HI λ _ _ _=>cZ) ha hb
theorem E.eq {k:Nat} (hr:Room k X.A) (ha:E X B a f) (hb:E X B b g):E X B (.Compare a [.Eq] [b] pos) (l2 pEq f g):=E.cmp (yZ hr.units) DP (nomark b) ha hb
theorem qI {k:Nat} (hr:Room k X.A) (ha:E X B a f) (hb:E X B b g):T X B (.Compare a [.Eq] [b] pos) (bT (l2 pEq f g)):=T.cmp (yZ hr.units) DP (nomark b) ha hb
theorem T.ne {k:Nat} (hr:Room k X.A) (ha:E X B a f) (hb:E X B b g):T X B (.Compare a [.NotEq] [b] pos) (bT (l2 pNe f g)):=T.cmp (CA hr.units) FY (nomark b) ha hb
theorem T.lt (ha:E X B a f) (hb:E X B b g):T X B (.Compare a [.Lt] [b] pos) (bT (l2 pLt f g)):=T.cmp Af (qb λ _ _ _=>ef) (nomark b) ha hb
theorem T.ge (ha:E X B a f) (hb:E X B b g):T X B (.Compare a [.GtE] [b] pos) (bT (l2 pGe f g)):=T.cmp II (qb λ _ _ _=>ef) (nomark b) ha hb
end
noncomputable def Ca (K:K6):R2:=λ x y H Q=>∃ l b xs zs,x=.ref l/\y=.ref b/\SqL K H l xs/\SqL K H b zs/\xs.length+zs.length<=Li/\∀ p,H p=none->Q (.ref p) (upd H p (.lst (xs++zs)))
theorem op_catS:OpR X (binaryOp .Add) (Ca X.K):=by
 intro pins s σ H x y v u Q I rx ry h;obtain ⟨l,b,xs,zs,rfl,rfl,hH,hB,hz,q⟩:=h;cases rx;cases ry;obtain ⟨its,r,⟨⟨c1,d1,t1,sl1⟩,n,e,ec,ed,es⟩,z⟩:=I.list hH;obtain ⟨its2,r2,⟨⟨c2,d2,t2,sl2⟩,n2,e2,ec2,ed2,es2⟩,z2⟩:=I.list hB;have hl:=r.length;have hl2:=r2.length;simp only at ec ed es ec2 ed2 es2;subst ec ed es ec2 ed2 es2;have ea:its.toArray++its2.toArray=(its++its2).toArray:=by simp
 refine concat_meets ⟨_,e,rfl⟩ ⟨_,e2,rfl⟩ PySem.noFill_list_add PySem.seq_list_add PySem.F.slot_list_add PySem.F.entry_list_add (PySem.F.args_list_add_2 _ _)
   (list_addW l b its.toArray its2.toArray n n2 none none sl1 sl2 (by rw [Ls,Ls]; omega)) ⟨e,e2,?_⟩
 rw [ea];exact ⟨.ref _,_,I.lnew (t':=s.toks) (r.append r2) (by rw [Lm]; omega),rfl,q _ I.fresh⟩
noncomputable def yR (K:K6):R2:=λ x y H Q=>∃ a b xs ys,x=.ref a/\y=.ref b/\SqT K H a xs/\SqT K H b ys/\xs.length+ys.length<=Li /\
 (xs=[]->Q (.ref b) H)/\(xs≠[]->ys=[]->Q (.ref a) H)/\(∀ p,H p=none->Q (.ref p) (upd H p (.tup (xs++ys))))
theorem CD:OpR X (binaryOp .Add) (yR X.K):=by
 intro pins s σ H x y v u Q I rx ry h;obtain ⟨a,b,xs,ys,rfl,rfl,ha,hb,hz,q0,q1,q2⟩:=h;cases rx;cases ry;obtain ⟨its,r1,p1,_⟩:=I.tuple ha;obtain ⟨its2,r2,p2,_⟩:=I.tuple hb;by_cases hx:xs=[]
 ·have hi:its=[]:=r1.nil_iff.mpr hx;obtain ⟨⟨cls,dd,data,sl⟩,ho,hc,n,hd⟩:=id p1;obtain ⟨⟨cls2,dd2,data2,sl2⟩,ho2,hc2,n2,hd2⟩:=id p2;simp only at hc hd hc2 hd2;subst hc hd hc2 hd2;exact concat_meets ⟨_,ho,rfl⟩ ⟨_,ho2,rfl⟩ noFill_tuple_add seq_tuple_add PySem.F.slot_tuple_add PySem.F.entry_tuple_add (PySem.F.args_tuple_add_2 _ _)
   (tuple_addW0 a b its.toArray its2.toArray n n2 dd dd2 sl sl2 (by simp [hi])) ⟨ho,ho2,⟨.ref b,H,I,rfl,q0 hx⟩⟩
 ·refine HT.cat_tup p1 p2 (λ z=>hx (r1.nil_iff.mp z)) (λ z=>⟨.ref a,H,I,rfl,q1 hx (r2.nil_iff.mp z)⟩) (λ z=>?_) (by rw [<- r1.length,<- r2.length]; exact hz);refine ⟨.ref s.heap.objs.size,_,I.laid (t':=s.toks) (o:=.tup (xs++ys)) (λ b ob q=>Lg _ q) (Lp _) ?_,rfl,q2 _ (I.hok.fresh (Lp _))⟩;exact ⟨by rw [Lm]; exact hz,_,r1.append r2,IsTup.new _ _⟩
noncomputable def az (x y:K5):Option K5:=match x,y with
 | .int i,.int j=>some (.int (i+j))
 | .str i,.str j=>if i.length+j.length<=Li then some (.str (i++j)) else none
 | .list i,.list j=>if i.length+j.length<=Li then some (.list (i++j)) else none
 | .tuple i,.tuple j=>if i.length+j.length<=Li then some (.tuple (i++j)) else none
 | _,_=>none
theorem EQ:OpR X (binaryOp .Add) (λ x y H Q=>(∃ i j,x=.int i/\y=.int j/\Q (.int (i+j)) H)\/(∃ i j,x=.str i/\y=.str j/\i.length+j.length<=Li/\Q (.str (i++j)) H)\/Ca X.K x y H Q\/yR X.K x y H Q) :=
 op_add.or (op_add_str.or (op_catS.or CD))
theorem HH {K:K6}:Ad2 K (λ x y H Q=>(∃ i j,x=.int i/\y=.int j/\Q (.int (i+j)) H)\/(∃ i j,x=.str i/\y=.str j/\i.length+j.length<=Li/\Q (.str (i++j)) H)\/Ca K x y H Q\/yR K x y H Q) az:=λ F H x y dx dy d Q sm rx ry e q=>by
 unfold az at e;split at e
 ·cases e;exact .inl ⟨_,_,rx.int,ry.int,q _ F H (.refl sm) cZ⟩
 ·split at e
  ·rename_i hz;cases e;exact .inr (.inl ⟨_,_,rx.str,ry.str,hz,q _ F H (.refl sm) jP⟩)
  ·cases e
 ·split at e
  ·rename_i hz;cases e;obtain ⟨a,xs,rfl,h1,r1⟩:=rx.lst;obtain ⟨b,ys,rfl,h2,r2⟩:=ry.lst;refine .inr (.inr (.inl ⟨a,b,xs,ys,rfl,rfl,sm.seq h1,sm.seq h2,by rw [r1.length,r2.length]; exact hz,λ p hp=>?_⟩));have g:=Gr.one (o:=.lst (xs++ys)) sm hp;exact q _ _ _ g (jk (SqL.of aX) ((r1.append r2).mono g.ff))
  ·cases e
 ·rename_i i j;split at e
  ·rename_i hz;cases e;obtain ⟨a,xs,rfl,h1,r1⟩:=rx.tup;obtain ⟨b,ys,rfl,h2,r2⟩:=ry.tup;refine .inr (.inr (.inr ⟨a,b,xs,ys,rfl,rfl,cn sm h1,cn sm h2,by rw [r1.length,r2.length]; exact hz,λ z=>?_,λ z1 z2=>?_,λ p hp=>?_⟩))
   ·subst z
    have:=M6 r1.length.symm
    subst this;exact q _ F H (.refl sm) (iI h2 (by simpa using r2))
   ·subst z2
    have:=M6 r2.length.symm
    subst this;exact q _ F H (.refl sm) (iI h1 (by simpa using r1))
   ·have g:=Gr.one (o:=.tup (xs++ys)) sm hp;exact q _ _ _ g (iI (SqT.of aX) ((r1.append r2).mono g.ff))
  ·cases e
 ·cases e
section
variable {B:Bd} {a b e:Expr} {es:List Expr} {f g:En->Option K5} {fs:En->Option (List K5)} {pos pp:Pos}
theorem bq (ha:E X B a f) (hb:E X B b g):E X B (.BinOp a .Add b pos) (l2 az f g):=E.op EQ HH ha hb
noncomputable def Cw:K5->Option K5
 | .int i=>some (.int (-i))
 | _=>none
theorem E.neg (ha:E X B a f):E X B (.UnaryOp .USub a pos) (l1 Cw f):=PE.imp (IC Gc ha) λ σ H Q ⟨F,η,d,sr,hd,q⟩=>by
 obtain ⟨x,hx,hd⟩:=ab hd;cases x <;> simp only [Cw,reduceCtorEq,Option.some.injEq] at hd;subst hd;exact ⟨F,η,_,sr,hx,λ v F1 H1 g1 rv=>⟨_,rv.int,q _ F1 H1 g1 cZ⟩⟩
noncomputable def pIx (x y:K5):Option K5:=match x,y with
 | .list ds,.int i=>atI ds i
 | .tuple ds,.int i=>atI ds i
 | .str z,.int i=>if z.length<=Li then (atI z.cps.toList i).bind λ c=>some (.str ⟨#[c]⟩) else none
 | _,_=>none
theorem AS {K:K6} {F:Hp} {ds:List K5} {xs:List V} {i:Int} {d:K5} (r:RelL K F ds xs) (e:atI ds i=some d):∃ x,atI xs i=some x/\Rel K F d x:=by
 unfold atI at e ⊢;rw [r.length];obtain ⟨j,h1,h2⟩:=ab e;rw [h1];obtain ⟨x,h3,h4⟩:=r.get h2;exact ⟨x,h3,h4⟩
theorem Jo {K:K6}:Ad2 K (rIx K) pIx:=λ F H x y dx dy d Q sm rx ry e q=>by
 unfold pIx at e;split at e
 ·obtain ⟨a,xs,rfl,h1,r1⟩:=rx.lst;obtain ⟨v,h2,h3⟩:=AS r1 e;exact .inl ⟨a,xs,_,v,rfl,ry.int,sm.seq h1,h2,q _ F H (.refl sm) h3⟩
 ·obtain ⟨a,xs,rfl,h1,r1⟩:=rx.tup;obtain ⟨v,h2,h3⟩:=AS r1 e;exact .inr (.inl ⟨a,xs,_,v,rfl,ry.int,cn sm h1,h2,q _ F H (.refl sm) h3⟩)
 ·split at e
  ·rename_i hz;obtain ⟨c,h1,h2⟩:=ab e;cases h2;exact .inr (.inr ⟨_,_,c,rx.str,ry.int,hz,h1,q _ F H (.refl sm) jP⟩)
  ·cases e
 ·cases e
theorem cu (ha:E X B a f) (hb:E X B b g) (hs:wI b:=by intro _ _; rfl):E X B (.Subscript a b pos) (l2 pIx f g):=E.ix Hf Jo ha hb hs
noncomputable def je:K5->Bool
 | .none=>true
 | .bool _=>true
 | .int _=>true
 | .str _=>true
 | _=>false
theorem wm {K:K6} {F:Hp} {d:K5} {v:V} (h:je d=true) (r:Rel K F d v):oN v=true:=by
 cases d <;> simp [je] at h
 ·rw [r.non]; rfl
 ·rw [r.bl]; rfl
 ·rw [r.int]; rfl
 ·rw [r.str]; rfl
theorem tR {K:K6} {F:Hp}:∀ {ds:List K5} {vs:List V},ds.all je=true->RelL K F ds vs->vs.all oN=true
 | [],vs,_,r=>by rw [r.nil_of]; rfl
 | d::ds,vs,h,r=>by
  obtain ⟨x,xs,rfl,r1,r2⟩:=r.cons_of;rw [MO,L4] at h ⊢;exact ⟨wm h.1 r1,tR h.2 r2⟩
theorem Hn {K:K6} {F:Hp} {d e:K5} {x y:V} (hd:je d=true) (he:je e=true) (r:Rel K F d x) (s:Rel K F e y):eqV x y=LV d e:=by
 cases d <;> simp [je] at hd <;> cases e <;> simp [je] at he
 all_goals (first | rw [r.non] | rw [r.bl] | rw [r.int] | rw [r.str]) <;> (first | rw [s.non] | rw [s.bl] | rw [s.int] | rw [s.str])
 all_goals first | rfl | simp [eqV,LV]
theorem ze {K:K6} {F:Hp} {d:K5} {x:V} (hd:je d=true) (r:Rel K F d x):∀ {ds:List K5} {vs:List V},ds.all je=true->RelL K F ds vs->inV x vs=ds.any λ y=>LV y d
 | [],vs,_,rs=>by rw [rs.nil_of]; rfl
 | e::ds,vs,h,rs=>by
  obtain ⟨y,xs,rfl,r1,r2⟩:=rs.cons_of;rw [MO,L4] at h;have ih:=ze hd r h.2 r2;unfold inV at ih ⊢;rw [Ms,Ms,ih,Hn h.1 hd r1 r]
noncomputable def pIn (neg:Bool) (x y:K5):Option K5:=match y with
 | .list ds=>if je x=true/\ds.all je=true then some (.bool (if neg then !(ds.any λ y=>LV y x) else ds.any λ y=>LV y x)) else none
 | .tuple ds=>if je x=true/\ds.all je=true then some (.bool (if neg then !(ds.any λ y=>LV y x) else ds.any λ y=>LV y x)) else none
 | .str j=>match x with
  | .str i=>some (.bool (if neg then !(!(Builtin.Str.occurrences j i 0 j.length 1).isEmpty) else !(Builtin.Str.occurrences j i 0 j.length 1).isEmpty))
  | _=>none
 | _=>none
noncomputable def Gx (K:K6) (neg:Bool):R2:=λ x y H Q=>rIn K neg x y H Q\/(∃ i j,x=.str i/\y=.str j/\Q (.bl (if neg then !(!(Builtin.Str.occurrences j i 0 j.length 1).isEmpty) else !(Builtin.Str.occurrences j i 0 j.length 1).isEmpty)) H)
theorem CC:OpR X (L8 .In) (Gx X.K false):=op_in_seq.or Bc
theorem Bb:OpR X (L8 .NotIn) (Gx X.K true):=op_notIn_seq.or vT
theorem DO {K:K6} {neg:Bool}:Ad2 K (Gx K neg) (pIn neg):=λ F H x y dx dy d Q sm rx ry e q=>by
 unfold pIn at e;split at e
 ·split at e
  ·rename_i hf;cases e;obtain ⟨b,ys,rfl,h2,r2⟩:=ry.lst;refine .inl ⟨b,ys,rfl,.inl (sm.seq h2),wm hf.1 rx,tR hf.2 r2,?_⟩;rw [ze hf.1 rx hf.2 r2];exact q _ F H (.refl sm) ef
  ·cases e
 ·split at e
  ·rename_i hf;cases e;obtain ⟨b,ys,rfl,h2,r2⟩:=ry.tup;refine .inl ⟨b,ys,rfl,.inr (cn sm h2),wm hf.1 rx,tR hf.2 r2,?_⟩;rw [ze hf.1 rx hf.2 r2];exact q _ F H (.refl sm) ef
  ·cases e
 ·split at e
  ·cases e;exact .inr ⟨_,_,rx.str,ry.str,q _ F H (.refl sm) ef⟩
  ·cases e
 ·cases e
theorem T.in (ha:E X B a f) (hb:E X B b g) (hm:Mo .In b=false:=by with_unfolding_all rfl):T X B (.Compare a [.In] [b] pos) (bT (l2 (pIn false) f g)):=T.cmp CC DO hm ha hb
theorem T.notIn (ha:E X B a f) (hb:E X B b g) (hm:Mo .NotIn b=false:=by with_unfolding_all rfl):T X B (.Compare a [.NotIn] [b] pos) (bT (l2 (pIn true) f g)):=T.cmp Bb DO hm ha hb
theorem E.in (ha:E X B a f) (hb:E X B b g) (hm:Mo .In b=false:=by with_unfolding_all rfl):E X B (.Compare a [.In] [b] pos) (l2 (pIn false) f g):=E.cmp CC DO hm ha hb
noncomputable def AdA (K:K6) (r:List V->Hp->VK->Prop) (o:List K5->Option K5):Prop :=
 ∀ F H xs ds d Q,Same F H->RelL K F ds xs->o ds=some d->(∀ v F' H',Gr F H F' H'->Rel K F' d v->Q v H')->r xs H Q
theorem BW {K:K6} {r:List V->Hp->VK->Prop} {o:List K5->Option K5} (ad:AdA K r o):∀ σ H Q,tE K B (lA o fs) σ H Q->tCB r (tA K B fs) σ H Q:=λ σ H Q ⟨F,η,d,sr,hd,q⟩=>by
 obtain ⟨ds,hx,hd⟩:=ab hd;exact ⟨F,η,ds,sr,hx,λ vs F1 H1 g1 rs=>ad F1 H1 vs ds d Q g1.fh rs hd λ v F2 H2 g2 rv=>q v F2 H2 (g1.trans g2) rv⟩
theorem E.callB {x:Str} {id:String} {r:List V->Hp->VK->Prop} {o:List K5->Option K5} (hc:CallR X (.builtin id) r) (ad:AdA X.K r o) (hm:X.mg x=none) (hv:bootBuiltins x=some (.builtin id)) (ha:A X B (e::es) fs) (hg:Gl X x:=by rfl) (hn:x ≠ "__name__" := by decide) (hdb:(x==("__debug__" : Str))=false:=by decide)
  (he:Lj (e::es) X.env=(false,eval e X.env)::Lj es X.env:=by exact bD rfl) (hpl:(backTo pos (Lj es X.env)).any (·.1)=false:=by exact iJ rfl):E X B (.Call (.Name x pp) (e::es) [] pos) (lA o fs) :=
 PE.imp (Cu hc hg hm hv ha hn hdb he hpl) (BW ad)
theorem E.callTy {x:Str} {id:String} {r:List V->Hp->VK->Prop} {o:List K5->Option K5} (hc:CallR X (.type id) r) (ad:AdA X.K r o) (hm:X.mg x=none) (hv:bootBuiltins x=some (.type id)) (ha:A X B (e::es) fs) (hg:Gl X x:=by rfl) (hn:x ≠ "__name__" := by decide) (hdb:(x==("__debug__" : Str))=false:=by decide)
  (he:Lj (e::es) X.env=(false,eval e X.env)::Lj es X.env:=by exact bD rfl) (hpl:(backTo pos (Lj es X.env)).any (·.1)=false:=by exact iJ rfl):E X B (.Call (.Name x pp) (e::es) [] pos) (lA o fs) :=
 PE.imp (A9 hc hg hm hv ha hn hdb he hpl) (BW ad)
noncomputable def kR (ds:List K5):Option K5:=match ds with
 | [.list xs]=>some (.int xs.length)
 | [.tuple xs]=>some (.int xs.length)
 | [.str z]=>if z.length<=Li then some (.int z.length) else none
 | _=>none
theorem HF {K:K6}:AdA K (λ xs H Q=>(∃ p ys,xs=[.ref p]/\(SqL K H p ys\/SqT K H p ys)/\Q (.int ys.length) H)\/(∃ z,xs=[.str z]/\z.length<=Li/\Q (.int z.length) H)) kR:=λ F H xs ds d Q sm rs e q=>by
 unfold kR at e;split at e
 ·cases e;obtain ⟨x,r,rfl,rx,rr⟩:=rs.cons_of;obtain rfl:=rr.nil_of;obtain ⟨a,ys,rfl,h1,r1⟩:=rx.lst;exact .inl ⟨a,ys,rfl,.inl (sm.seq h1),by rw [r1.length]; exact q _ F H (.refl sm) cZ⟩
 ·cases e;obtain ⟨x,r,rfl,rx,rr⟩:=rs.cons_of;obtain rfl:=rr.nil_of;obtain ⟨a,ys,rfl,h1,r1⟩:=rx.tup;exact .inl ⟨a,ys,rfl,.inr (cn sm h1),by rw [r1.length]; exact q _ F H (.refl sm) cZ⟩
 ·split at e
  ·rename_i hz;cases e;obtain ⟨x,r,rfl,rx,rr⟩:=rs.cons_of;obtain rfl:=rr.nil_of;exact .inr ⟨_,by rw [rx.str],hz,q _ F H (.refl sm) cZ⟩
  ·cases e
 ·cases e
theorem E.len (hm:X.mg "len" = none) (ha:A X B [e] fs) (hg:Gl X "len" := by rfl) (he:Lj [e] X.env=(false,eval e X.env)::Lj [] X.env:=by exact bD rfl) (hpl:(backTo pos (Lj [] X.env)).any (·.1)=false:=by rfl):E X B (.Call (.Name "len" pp) [e] [] pos) (lA kR fs) :=
 E.callB (call_len_seq.or ww) HF hm PySem.boot_len ha hg (by decide) (by decide) he hpl
noncomputable def uo (ds:List K5):Option K5:=match ds with
 | [.list xs]=>some (.tuple xs)
 | [.tuple xs]=>some (.tuple xs)
 | _=>none
theorem HD {K:K6}:AdA K (λ xs H Q=>∃ p ys,xs=[.ref p]/\((SqL K H p ys/\∀ l,H l=none->Q (.ref l) (upd H l (.tup ys)))\/(SqT K H p ys/\Q (.ref p) H))) uo:=λ F H xs ds d Q sm rs e q=>by
 unfold uo at e;split at e
 ·cases e;obtain ⟨x,r,rfl,rx,rr⟩:=rs.cons_of;obtain rfl:=rr.nil_of;obtain ⟨a,ys,rfl,h1,r1⟩:=rx.lst;refine ⟨a,ys,rfl,.inl ⟨sm.seq h1,λ p hp=>?_⟩⟩;have g:=Gr.one (o:=.tup ys) sm hp;exact q _ _ _ g (iI (SqT.of aX) (r1.mono g.ff))
 ·cases e;obtain ⟨x,r,rfl,rx,rr⟩:=rs.cons_of;obtain rfl:=rr.nil_of;obtain ⟨a,ys,rfl,h1,r1⟩:=rx.tup;exact ⟨a,ys,rfl,.inr ⟨cn sm h1,q _ F H (.refl sm) (iI h1 r1)⟩⟩
 ·cases e
theorem E.tuple (hm:X.mg "tuple" = none) (ha:A X B [e] fs) (hg:Gl X "tuple" := by rfl) (he:Lj [e] X.env=(false,eval e X.env)::Lj [] X.env:=by exact bD rfl) (hpl:(backTo pos (Lj [] X.env)).any (·.1)=false:=by rfl):E X B (.Call (.Name "tuple" pp) [e] [] pos) (lA uo fs) :=
 E.callTy uC HD hm (by decide +kernel) ha hg (by decide) (by decide) he hpl
end
end
noncomputable def Dy {α:Type} (xs:List α) (lo hi:Option Int):List α:=(xs.drop (HT.sIx xs.length 0 lo)).take (HT.sIx xs.length xs.length hi - HT.sIx xs.length 0 lo)
section
variable {X:Cx}
theorem RelL.cut {K:K6} {F:Hp} {ds:List K5} {xs:List V} (r:RelL K F ds xs) (lo hi:Option Int):RelL K F (Dy ds lo hi) (rQ xs lo hi):=by
 unfold Dy rQ;rw [r.length];exact (r.drop _).take _
theorem Eh:SlR X (λ x lo hi H Q=>∃ a xs,x=.ref a/\SqT X.K H a xs/\(HT.sIx xs.length 0 lo=0/\HT.sIx xs.length xs.length hi=xs.length)/\Q (.ref a) H):=by
 intro pins s σ H x v vl vu lo hi sl Q I rx hs pl pu h;obtain ⟨a,xs,rfl,hx,hw,q⟩:=h;cases rx;obtain ⟨its,r,ht,hz⟩:=I.tuple hx;have hlen:its.toArray.size=xs.length:=by rw [Ls]; exact r.length.symm
 refine ⟨"tuple", _,PyProof.Rows.slot_tuple_getitem.lookup,ht.typeIs,?_⟩;obtain ⟨os,hos,hcs,hds⟩:=id hs;have hTs:s.TypeIs (.ref sl) "slice" := ⟨os,hos,hcs⟩;unfold getItem
 try with_reducible refine wpAny_holding ?_
 first | refine Lo (LH ?_) | skip
 refine Lo (wpAny_sequenceKey ht.typeIs (by decide) ?_);refine Lo (wpAny_callSpecial?_slot (name:=Str.ofString "__getitem__") ht.typeIs PyProof.Rows.slot_tuple_getitem
  (wpAny_call_entry PyProof.Rows.slot_tuple_getitem ht.typeIs entry_tuple_getitem ?_ (args_tuple_getitem _ _)))
 show L1 _ _ (Builtin.Tuple.tupleItemsOf (.ref a) >>= _) _ _ s;refine Lo (tupleItemsOf_ ht ?_);refine Lo (wpAny_typeOf hTs ?_);rw [if_pos (by decide)];refine Lo (HT.sliceApplied_gen hs pl pu ?_);rw [hlen];have hyes:((((HT.sIx xs.length 0 lo:Nat):Int)==0&&(1:Int)==1&&(HT.sIx xs.length xs.length hi - HT.sIx xs.length 0 lo)==xs.length)=true):=by
  rw [hw.1,hw.2]; simp
 show L1 _ _ (if (((HT.sIx xs.length 0 lo:Nat):Int)==0&&(1:Int)==1&&(HT.sIx xs.length xs.length hi - HT.sIx xs.length 0 lo)==xs.length)=true then _ else _) _ _ s;rw [if_pos hyes];have fin:EP X pins σ Q (.ref a) s:=⟨.ref a,H,I,rfl,q⟩;refine Lo ?_;unfold Builtin.Tuple.tupleIsExact;refine Lo (wpAny_typeOf ht.typeIs (LH ?_));rw [if_pos (by decide)];exact Lo (wpAny_rule (LH ⟨_,rfl,LH fin⟩))
noncomputable def pSl (x:K5) (lo hi:Option Int):Option K5:=match x with
 | .list ds=>some (.list (Dy ds lo hi))
 | .tuple ds=>some (.tuple (Dy ds lo hi))
 | _=>none
noncomputable def Ir (K:K6):V->Option Int->Option Int->Hp->VK->Prop:=λ x lo hi H Q=>Iq K x lo hi H Q\/Ip K x lo hi H Q\/(∃ a xs,x=.ref a/\SqT K H a xs/\(HT.sIx xs.length 0 lo=0/\HT.sIx xs.length xs.length hi=xs.length)/\Q (.ref a) H)
theorem Kt:SlR X (Ir X.K):=sl_list.or (sl_tup.or Eh)
theorem Jn {K:K6} {F H:Hp} {x:V} {dx d:K5} {lo hi:Option Int} {Q:VK} (sm:Same F H) (rx:Rel K F dx x) (e:pSl dx lo hi=some d) (q:∀ v F' H',Gr F H F' H'->Rel K F' d v->Q v H'):Ir K x lo hi H Q:=by
 unfold pSl at e;split at e
 ·cases e;obtain ⟨a,xs,rfl,h1,r1⟩:=rx.lst;refine .inl ⟨a,xs,rfl,sm.seq h1,λ p hp=>?_⟩;have g:=Gr.one (o:=.lst (rQ xs lo hi)) sm hp;exact q _ _ _ g (jk (SqL.of aX) ((r1.cut lo hi).mono g.ff))
 ·cases e;obtain ⟨a,xs,rfl,h1,r1⟩:=rx.tup;by_cases hw:HT.sIx xs.length 0 lo=0/\HT.sIx xs.length xs.length hi=xs.length
  ·refine .inr (.inr ⟨a,xs,rfl,cn sm h1,hw,q _ F H (.refl sm) (iI h1 ?_)⟩)
   have:=r1.cut lo hi
   have e2:rQ xs lo hi=xs:=by
    unfold rQ;rw [hw.1,hw.2]
    simp
   rw [e2] at this;exact this
  ·refine .inr (.inl ⟨a,xs,rfl,cn sm h1,hw,λ p hp=>?_⟩);have g:=Gr.one (o:=.tup (rQ xs lo hi)) sm hp;exact q _ _ _ g (iI (SqT.of aX) ((r1.cut lo hi).mono g.ff))
 ·cases e
section
variable {B:Bd} {a b e:Expr} {es:List Expr} {f g:En->Option K5} {fs:En->Option (List K5)} {pos pp p2:Pos} {lo hi:Option Expr} {fl fh:En->Option (Option Int)}
noncomputable def tP (K:K6) (B:Bd) (f:En->Option (Option Int)):TO:=λ σ H Q=>∃ F η o,SR K B F H σ η/\f η=some o/\∀ F' H',Gr F H F' H'->Q o H'
noncomputable def P (X:Cx) (B:Bd) (e:Option Expr) (f:En->Option (Option Int)):Prop:=PO X e (tP X.K B f)
noncomputable def pN:En->Option (Option Int):=λ _=>some none
noncomputable def asI:K5->Option Int
 | .int i=>some i
 | _=>none
theorem DL {d:K5} {i:Int} (h:asI d=some i):d=.int i:=by
 cases d <;> simp [asI] at h;rw [h]
noncomputable def pS (f:En->Option K5):En->Option (Option Int):=λ η=>(f η).bind λ d=>(asI d).bind λ i=>some (some i)
theorem PO.imp {X:Cx} {e:Option Expr} {t t':TO} (h:PO X e t) (i:∀ σ H Q,t' σ H Q->t σ H Q):PO X e t':=λ pins s σ H Q I q=>h pins s σ H Q I (i σ H Q q)
theorem P.none:P X B none pN:=PO.imp Ez λ σ H Q ⟨F,η,d,sr,hd,q⟩=>by
 cases hd;exact q F H (.refl sr.same)
theorem P.some (h:E X B e f):P X B (some e) (pS f):=PO.imp (Ey h) λ σ H Q ⟨F,η,d,sr,hd,q⟩=>by
 obtain ⟨x,hx,hd⟩:=ab hd;obtain ⟨i,hi,hd⟩:=ab hd;cases hd;obtain rfl:=DL hi;exact ⟨F,η,_,sr,hx,λ v F1 H1 g1 rv=>⟨i,rv.int,q F1 H1 g1⟩⟩
noncomputable def eSl (f:En->Option K5) (fl fh:En->Option (Option Int)):En->Option K5:=λ η=>(f η).bind λ x=>(fl η).bind λ l=>(fh η).bind λ h=>pSl x l h
theorem E.sl (he:E X B e f) (hl:P X B lo fl) (hu:P X B hi fh):E X B (.Subscript e (.Slice lo hi none p2) pos) (eSl f fl fh):=PE.imp (Cn Kt he hl hu) λ σ H Q ⟨F,η,d,sr,hd,q⟩=>by
 obtain ⟨x,hx,hd⟩:=ab hd;obtain ⟨l,hl,hd⟩:=ab hd;obtain ⟨h,hh,hd⟩:=ab hd;refine ⟨F,η,x,sr,hx,λ v F1 H1 g1 rv=>⟨F1,η,l,sr.grow g1,hl,λ F2 H2 g2=>⟨F2,η,h,(sr.grow g1).grow g2,hh,λ F3 H3 g3=>?_⟩⟩⟩;exact Jn g3.fh (rv.mono (g2.ff.trans g3.ff)) hd λ w F4 H4 g4 rw'=>q w F4 H4 (((g1.trans g2).trans g3).trans g4) rw'
noncomputable def Io (K:K6):List V->Hp->VK->Prop:=λ xs H Q=>∃ (p:Lz) (ns:List Int),xs=[.ref p]/\SqL K H p (ns.map V.int)/\Q (.int ns.sum) H
theorem sP:∀ (ns:List Int) (n:Nat),n<=ns.length->preSum (λ i=>ns.getD i 0) n=(ns.take n).sum
 | ns,0,_=>by simp [preSum]
 | ns,n+1,h=>by
  have hn:n < ns.length:=by omega
  rw [preSum,sP ns n (by omega),List.take_succ_eq_append_getElem hn,List.sum_append];show _+ns.getD n 0=_;rw [Lk,K9 hn]
  simp
theorem DC (hc:X.calm=true):CallR X (.builtin "sum") (Io X.K):=by
 intro pins s σ H xs us Q I r h;obtain ⟨p,ns,rfl,hq,q⟩:=h;obtain ⟨u,rfl,rx⟩:=ot r;cases rx;obtain ⟨its,rv,pl,hz⟩:=I.list hq;have iv:IntsAre its ns:=zc rv;have hlt:p < s.heap.objs.size:=by
  obtain ⟨o,ho,_⟩:=pl.isList;exact Ly ho
 refine call_sum_walkG (wpAny_pyIter_list pl.isList ?_);refine ⟨s.heap.objs.size,_,_,_,_,_,λ i=>ns.getD i 0,rfl,Walks.list (A:=X.A.in1) (I.ok.hd hc) s.heap.objs.size p (LP hlt) its.toArray,⟨⟨_,LL _ rfl,rfl,rfl⟩,pl.isList.at λ o e=>Lg _ e⟩,?_,?_,λ h' tk t' hk=>?_⟩
 ·intro b hb;show b < (s.heap.push _).objs.size;rw [Heap.size_push];rcases LA.mp hb with e | hb
  ·rw [e]; exact Nat.lt_succ_self _
  ·rw [LD.mp hb]; exact Nat.lt_succ_of_lt hlt
 ·intro i v hv;have hv':its[i]?=some v:=by simpa using hv
  obtain ⟨hi,e⟩:=Lb.mp hv';have hl:=rv.length;rw [K7] at hl;have hn:ns[i]?=some ns[i]:=K9 (by omega);obtain ⟨u,hu,ru⟩:=rv.get (i:=i) (x:=.int ns[i]) (by rw [Le,hn]; rfl);rw [hv'] at hu;cases hu;obtain ⟨t,rfl⟩:=ru;exact ⟨t,by show Value.int ns[i] t=Value.int (ns.getD i 0) t; rw [Lk,hn]; rfl⟩
 ·have hl:=rv.length;rw [K7] at hl;have e:preSum (λ i=>ns.getD i 0) its.toArray.size=ns.sum:=by
   rw [Ls,sP ns _ (by omega),List.take_of_length_le (by omega)]
  rw [e];refine ⟨.int ns.sum,H,I.kept (t':=tk) λ b o eb=>hk b o ?_ (Lg _ eb),⟨t',rfl⟩,q⟩;intro hb;exact absurd (Ly eb) (by rw [LD.mp hb]; exact MU _)
noncomputable def DK:List K5->Option (List Int)
 | []=>some []
 | .int i::r=>(DK r).bind λ ns=>some (i::ns)
 | _::_=>none
theorem vo:∀ {ds:List K5} {ns:List Int},DK ds=some ns->ds=ns.map Lv
 | [],ns,h=>by cases h; rfl
 | .int i::r,ns,h=>by
  obtain ⟨ms,h1,h2⟩:=ab h;cases h2;rw [vo h1]; rfl
 | .none::_,_,h=>by cases h
 | .bool _::_,_,h=>by cases h
 | .str _::_,_,h=>by cases h
 | .list _::_,_,h=>by cases h
 | .tuple _::_,_,h=>by cases h
 | .dict _::_,_,h=>by cases h
theorem vq (ns:List Int):DK (ns.map Lv)=some ns:=by
 induction ns with
 | nil=>rfl
 | cons n r ih=>rw [Ln]; unfold DK; rw [ih]; rfl
theorem RelL.ints_of {K:K6} {F:Hp}:∀ {ns:List Int} {xs:List V},RelL K F (ns.map Lv) xs->xs=ns.map V.int
 | [],xs,h=>h.nil_of
 | n::r,xs,h=>by
  obtain ⟨x,ys,rfl,h1,h2⟩:=h.cons_of;rw [h1.int,RelL.ints_of h2]; rfl
noncomputable def qm (ds:List K5):Option K5:=match ds with
 | [.list xs]=>(DK xs).bind λ ns=>some (.int ns.sum)
 | _=>none
theorem HE {K:K6}:AdA K (Io K) qm:=λ F H xs ds d Q sm rs e q=>by
 unfold qm at e;split at e
 ·obtain ⟨ns,h1,h2⟩:=ab e;cases h2
  have:=vo h1
  subst this;obtain ⟨x,r,rfl,rx,rr⟩:=rs.cons_of;obtain rfl:=rr.nil_of;obtain ⟨a,ys,rfl,hq,r1⟩:=rx.lst
  have:=r1.ints_of
  subst this;exact ⟨a,ns,rfl,sm.seq hq,q _ F H (.refl sm) cZ⟩
 ·cases e
theorem E.sum (hc:X.calm=true) (hm:X.mg "sum" = none) (ha:A X B [e] fs) (hg:Gl X "sum" := by rfl) (he:Lj [e] X.env=(false,eval e X.env)::Lj [] X.env:=by exact bD rfl) (hpl:(backTo pos (Lj [] X.env)).any (·.1)=false:=by rfl):E X B (.Call (.Name "sum" pp) [e] [] pos) (lA qm fs) :=
 E.callB (DC hc) HE hm (by decide +kernel) ha hg (by decide) (by decide) he hpl
theorem wf (l b:Lz) (items items2:Array Lf) (n n2:Nat) (dd2:Option Lz) (sl2:Array (Option Lf)) (hc0:¬(!items.isEmpty&&Builtin.List.listTooLong (items.size+items2.size))=true) (hc1:items.size<=Li) (hs2:items.size+items2.size<=Li+1) :
  Meets (Builtin.«list.extend» ⟨[.ref l,.ref b],[]⟩) (λ _ R s=>s.heap.get? l=some { cls:=.type "list", dict:=none,data:=.seq items n,slots:=#[] }/\s.heap.get? b=some { cls:=.type "list", dict:=dd2,data:=.seq items2 n2,slots:=sl2 }/\R (.ok (.ret Value.none)) { s with heap:=s.heap.update l (Obj.mapSeq λ x=>x++items2),toks:=s.toks }) :=
 .of_wp λ prog w A R s h=>by
  obtain ⟨hp,g,d,tk,os⟩:=s; obtain ⟨hl,hb,h⟩:=h; have f1:=AutoSeq1.idx_int; have f2:=AutoSeq1.sub_tuple_tuple; have f3:=AutoSeq1.sub_list_list; have f4:=AutoSeq1.sub_tuple_list; have f5:=AutoSeq1.sub_list_tuple;have hz':(items++items2).size<=Li+1:=by rw [Array.size_append]; exact hs2
  wp_walk using (wpAny_updateSeq hl rfl (hz:=hc1) (_hz':=hz')),AutoSeq1.wpAny_loadPart' hl,AutoSeq1.wpAny_loadPart' hb; exact ⟨_,rfl,h⟩
noncomputable def Iz (K:K6):V->List V->Hp->VK->Prop:=λ x vs H Q=>∃ l b xs zs,x=.ref l/\vs=[.ref b]/\H l=some (.lst xs)/\SqL K H b zs/\xs.length+zs.length<=Li/\Q .non (upd H l (.lst (xs++zs)))
theorem EX:MtM X "list.extend" (Iz X.K):=by
 intro pins s σ H x vs v us Q I rx rv h;obtain ⟨l,b,xs,zs,rfl,rfl,hH,hB,hz,q⟩:=h;cases rx;obtain ⟨u,rfl,ru⟩:=rv.one;cases ru;obtain ⟨z,its,n,r,hl,e⟩:=I.lstM hH;obtain ⟨its2,r2,⟨⟨c2,d2,t2,sl2⟩,n2,e2,ec2,ed2,es2⟩,z2⟩:=I.list hB;simp only at ec2 ed2 es2;subst ec2 ed2 es2;have hl2:=r2.length;have hsz:its.toArray.size+its2.toArray.size<=Li:=by rw [Ls,Ls]; omega
 have hlong:¬ (!its.toArray.isEmpty&&Builtin.List.listTooLong (its.toArray.size+its2.toArray.size))=true:=by
  rw [CG hsz,Bool.and_false];exact LB
 refine call_meets F.slot_list_extend ⟨_,e,rfl⟩ F.entry_list_extend (F.args_list_extend_2 _ _)
  (wf l b its.toArray its2.toArray n n2 none sl2 hlong (by rw [Ls]; omega) (by omega)) ⟨e,e2,?_⟩
 refine ⟨.non,_,I.lset (its':=its++its2) hH e (by simp) (r.append r2) ?_,rfl,q⟩;rw [Lm];omega
variable {apos cpos:Pos}
theorem S.ext (i:Nat) {x:Str} {npos:Pos} (he:E X B e f) (hN:X.N[i]?=some x:=by rfl) (hv:Vis X.env.scope x:=by first | exact Or.inl rfl | exact Or.inr (Or.inl rfl) | exact Or.inr (Or.inr rfl)) (hd:(x==("__debug__" : Str))=false:=by decide) (hcd:(x==("__classdict__" : Str))=false:=by decide)
  (hbase:attributeBase (.Name x npos) "extend" X.env (eval (.Name x npos) X.env)=eval (.Name x npos) X.env:=by rfl)
  (hfew:((backTo cpos (Lj [e] X.env)).all (λ x=>!x.1)&&(backToKw cpos (keywordEach [] X.env)).all (λ x=>x.1.isSome)
   && decide ([e].length+([]:List Keyword).length+(if ([]:List Keyword).isEmpty then 0 else 1) < 30))=true:=by rfl)
  (hline:(apos.endLine==cpos.line)=true:=by rfl) (hs:Lj [e] X.env=(false,eval e X.env)::Lj [] X.env:=by exact bD rfl) (hplain:(backTo cpos (Lj [] X.env)).any (·.1)=false:=by rfl)
  (hsw:swapsWith (.Call (.Attribute (.Name x npos) "extend" apos) [e] [] cpos) none pos.line X.env=pure false:=by rfl) :
  S X B (.Expr (.Call (.Attribute (.Name x npos) "extend" apos) [e] [] cpos) pos) (oW i (lI asL f)) :=
 PS.imp (vN (uU PySem.F.plainAttrs_list PySem.F.slot_list_extend PySem.F.type_list_extend EX (mS hN hv hd hcd) (ac he ag hs) hbase hfew hline hs hplain) hsw) λ D σ H ⟨F,η,o,sr,hd,q⟩=>by
  obtain ⟨es,h1,hd⟩:=ab hd;split at hd
  ·rename_i ds ed;split at hd
   ·rename_i hz;cases hd;obtain ⟨dl,h2,h3⟩:=ab h1;cases dl <;> simp only [asL,Option.some.injEq,reduceCtorEq] at h3;subst h3;obtain ⟨p,xs,e1,e2,e3,e4,e5⟩:=sr.en.own i ds ed;refine ⟨_,e1,.inl ⟨rfl,xs,SqL.of e4⟩,F,η,_,sr,(by show (f η).bind _=_; rw [h2]; rfl),λ vs F1 H1 g1 rs=>?_⟩;obtain ⟨y,r,rfl,ry,rr⟩:=rs.cons_of;obtain rfl:=rr.nil_of;obtain ⟨b,zs,rfl,hq,r1⟩:=ry.lst;have sr1:=sr.grow g1;obtain ⟨p',xs',q1,q2,q3,q4,q5⟩:=sr1.en.own i ds ed;rw [e1] at q1;have ep:p=p':=by injection (Option.some.inj (Option.some.inj q1))
    subst ep;refine ⟨p,b,xs',zs,rfl,rfl,q4,g1.fh.seq hq,by rw [q5.length,r1.length]; exact hz,?_⟩;refine q σ F1 _ ⟨⟨sr1.gr.ff,λ c u z=>?_,λ c u z=>?_,sr1.gr.new⟩,sr1.en.putOwn ed e1 (q5.append r1)⟩ g1.ff
    ·have nb:c≠p:=aR z q3;rw [aE nb]; exact sr1.gr.hh c u z
    ·have nb:c≠p:=aR z q2;rw [aE nb]; exact sr1.gr.fh c u z
   ·cases hd
  ·cases hd
theorem S.app (i:Nat) {x:Str} {npos:Pos} (he:E X B e f) (hN:X.N[i]?=some x:=by rfl) (hv:Vis X.env.scope x:=by first | exact Or.inl rfl | exact Or.inr (Or.inl rfl) | exact Or.inr (Or.inr rfl)) (hd:(x==("__debug__" : Str))=false:=by decide) (hcd:(x==("__classdict__" : Str))=false:=by decide)
  (hbase:attributeBase (.Name x npos) "append" X.env (eval (.Name x npos) X.env)=eval (.Name x npos) X.env:=by rfl)
  (hfew:((backTo cpos (Lj [e] X.env)).all (λ x=>!x.1)&&(backToKw cpos (keywordEach [] X.env)).all (λ x=>x.1.isSome)
   && decide ([e].length+([]:List Keyword).length+(if ([]:List Keyword).isEmpty then 0 else 1) < 30))=true:=by rfl)
  (hline:(apos.endLine==cpos.line)=true:=by rfl) (hs:Lj [e] X.env=(false,eval e X.env)::Lj [] X.env:=by exact bD rfl) (hplain:(backTo cpos (Lj [] X.env)).any (·.1)=false:=by rfl)
  (hsw:swapsWith (.Call (.Attribute (.Name x npos) "append" apos) [e] [] cpos) none pos.line X.env=pure false:=by rfl) :
  S X B (.Expr (.Call (.Attribute (.Name x npos) "append" apos) [e] [] cpos) pos) (B4 i f) :=
 PS.imp (vN (uU PySem.F.plainAttrs_list PySem.F.slot_list_append PySem.F.type_list_append qy (mS hN hv hd hcd) (ac he ag hs) hbase hfew hline hs hplain) hsw) λ D σ H ⟨F,η,o,sr,hd,q⟩=>by
  obtain ⟨dv,h1,hd⟩:=ab hd;split at hd
  ·rename_i ds ed;split at hd
   ·rename_i hz;cases hd;obtain ⟨p,xs,e1,e2,e3,e4,e5⟩:=sr.en.own i ds ed;refine ⟨_,e1,.inl ⟨rfl,xs,SqL.of e4⟩,F,η,_,sr,(by show (f η).bind _=_; rw [h1]; rfl),λ vs F1 H1 g1 rs=>?_⟩;obtain ⟨y,r,rfl,ry,rr⟩:=rs.cons_of;obtain rfl:=rr.nil_of;have sr1:=sr.grow g1;obtain ⟨p',xs',q1,q2,q3,q4,q5⟩:=sr1.en.own i ds ed;rw [e1] at q1;have ep:p=p':=by injection (Option.some.inj (Option.some.inj q1))
    subst ep;refine ⟨p,xs',y,rfl,rfl,q4,by rw [q5.length]; exact hz,?_⟩;refine q σ F1 _ ⟨⟨sr1.gr.ff,λ c u z=>?_,λ c u z=>?_,sr1.gr.new⟩,sr1.en.putOwn ed e1 (q5.append (.cons ry .nil))⟩ g1.ff
    ·have nb:c≠p:=aR z q3;rw [aE nb]; exact sr1.gr.hh c u z
    ·have nb:c≠p:=aR z q2;rw [aE nb]; exact sr1.gr.fh c u z
   ·cases hd
  ·cases hd
end
end
noncomputable def uO (x:Str):List K5:=x.cps.toList.map λ c=>PyData.str ⟨#[c]⟩
noncomputable def nH (ds:List K5) (i:Nat):List K5:=match ds with
 | []=>[]
 | d::r=>.tuple [.int i,d]::nH r (i+1)
theorem u8:∀ (ds:List K5) (k i:Nat) (d:K5),(nH ds k)[i]?=some d->∃ c,ds[i]?=some c/\d=.tuple [.int ((k+i:Nat):Int),c]
 | [],k,i,d,h=>by simp [nH] at h
 | c::r,k,0,d,h=>by
  simp [nH] at h;exact ⟨c,rfl,h.symm⟩
 | c::r,k,i+1,d,h=>by
  have h':(nH r (k+1))[i]?=some d:=by simpa [nH] using h
  obtain ⟨c',h1,h2⟩:=u8 r (k+1) i d h';exact ⟨c',by simpa using h1,by rw [h2,show k+1+i=k+(i+1) by omega]⟩
theorem u7:∀ (ds:List K5) (k:Nat),(nH ds k).length=ds.length
 | [],_=>rfl
 | _::r,k=>by rw [nH,Lu,Lu,u7 r]
noncomputable def Ite (x:Str):It:=⟨λ i _=>i < x.cps.size,λ i H v H'=>∃ T c,H T=none/\x.cps[i]?=some c/\v=.ref T/\H'=upd H T (.tup [.int (i:Nat),.str ⟨#[c]⟩]),λ i _=>i=x.cps.size⟩
section
theorem uK {P:LM} {w:World} {K:K6} {elts:List Expr} {k:Nat} {tp:Pos} {e it:Lz} {x:Str} {St:Nat->Heap->Prop} (hei:e≠it)
  (D:∀ A:Mb,A.handled=none->Draws P w A it [it] x.cps.size (λ i v=>∃ c u,x.cps[i]?=some c/\v=.str ⟨#[c]⟩ u) St) (hcell:∀ i h,St i h->∃ o,h.get? it=some o/\∀ v,o.data≠.cell v) :
  Turn P w K (.Tuple elts k tp) (Ite x) [e,it] e (λ i h=>(∃ old,IsEnum h e it i old)/\St i h) where
 mem:=by simp
 obj:=λ i h st b hb=>by
  obtain ⟨⟨old,he⟩,hs⟩:=st;rcases LA.mp hb with rfl | hb
  ·exact ⟨_,he,λ v z=>by cases z⟩
  ·rw [LD.mp hb];exact hcell i h hs
 keep:=λ i h h' st kk=>by
  obtain ⟨⟨old,he⟩,hs⟩:=st;refine ⟨⟨old,kk e (by simp) _ he⟩,?_⟩;exact (D { frames:=none,units:=0,depth:=0,handled:=none } rfl).frame i h h' hs λ b hb o q=>kk b (by rw [LD.mp hb]; simp) o q
 item:=by
  intro X hP hw hK hc i pins s σ H E I hf st hg;subst hP hw hK;have W:=WalksT.enumerateD (prog:=X.prog) (w:=X.w) (A:=X.A) (D X.A.in1 (I.ok.hd hc)) e hei (by simpa using hei) (by simp);refine W.item i s _ _ hg st λ T vals h' tk Pt hT hIs Md kp=>⟨.ref T,rfl,?_⟩;refine W.go elts k tp i T _ _ _ Md λ h'' st'' kp''=>?_;obtain ⟨t,xv,⟨c,u,hcx,rfl⟩,rfl⟩:=Pt;have nT:H T=none:=I.hok.fresh hT;have aT:T∉[e,it]:=W.apart i T _ Md;have kall:∀ b o,b∉[e,it]->s.heap.get? b=some o->h''.get? b=some o:=λ b o hb q=>kp'' b o hb (kp b o hb q);have hIs'':IsTup h'' T #[.int i t,.str ⟨#[c]⟩ u]:=by
   obtain ⟨o,ho,hcl,n,hd⟩:=hIs;exact ⟨o,kp'' T o aT ho,hcl,n,hd⟩
  have ltT:∀ b o,s.heap.get? b=some o->b≠T:=λ b o q=>LP (LF (Ly q) hT);have nfp:∀ b o,H b=some o->b∉[e,it]:=λ b o q hb=>by rw [(hf b hb).1] at q; cases q
  have J:Inv X pins σ (upd H T (.tup [.int (i:Nat),.str ⟨#[c]⟩])) { s with heap:=h'',toks:=tk }:=by
   refine I.step (h':=h'') (g':=s.gens) (d':=s.drawn) (t':=tk) (ch:=[e,it]) (λ b hb=>⟨(hf b hb).2.2.2.1,(hf b hb).2.1,(hf b hb).2.2.2.2.1,(hf b hb).2.2.2.2.2⟩)
    (λ b o _ _ hb q _=>kall b o hb q) (λ b o _ _ hb q _=>⟨o.slots,kall b o hb q⟩) (λ b o _ q n=>by rw [aE (ltT b o q)]; exact n) (λ b o hb q=>⟨o,kall b o hb q⟩)
    (λ b xs q=>by rw [aE (aR q nT)]; exact q) (λ b o xs q=>by rw [aE (aR q nT)]; exact q) (λ b ps q=>⟨#[],by rw [aE (aR q nT),q]; simp⟩) (λ m hm=>?_) (λ b o q=>?_) I.bare
   ·obtain ⟨o,es,ep,ho,r⟩:=hm;refine ⟨o,es,ep,kall _ o (λ hb=>?_) ho,r⟩;exact (hf _ hb).2.1 rfl
   ·by_cases hb:b=T
    ·subst hb;rw [aX] at q;cases q;exact ⟨by show 2<=Li; decide,[.int i t,.str ⟨#[c]⟩ u],.cons ⟨t,rfl⟩ (.cons ⟨u,rfl⟩ .nil),hIs''⟩
    ·rw [aE hb] at q;refine (I.hok b o q).stay (λ c' v hc' z=>kall c' v ?_ z) (λ c' z=>by rw [aE (aR z nT)]; exact z) λ c' xs z=>by rw [aE (aR z nT)]; exact z
     rcases hc' with rfl | hc'
     ·exact nfp _ _ q
     ·exact nfp _ _ hc'
  refine ⟨.ref T,upd H T (.tup [.int (i:Nat),.str ⟨#[c]⟩]),J,rfl,⟨T,c,nT,hcx,rfl,rfl⟩,st'',λ b hb=>?_⟩;have nb:b≠T:=λ z=>aT (by rw [<- z]; exact hb);rw [aE nb]; exact (hf b hb).1
 done:=by
  intro X hP hw hK hc i pins s σ H E I hf st hg;subst hP hw hK;have W:=WalksT.enumerateD (prog:=X.prog) (w:=X.w) (A:=X.A) (D X.A.in1 (I.ok.hd hc)) e hei (by simpa using hei) (by simp);have hg':i=x.cps.size:=hg;rw [hg'] at st;refine W.done s _ _ st λ h' tk kp=>⟨rfl,?_⟩;have nfp:∀ b o,H b=some o->b∉[e,it]:=λ b o q hb=>by rw [(hf b hb).1] at q; cases q
  refine I.step (h':=h') (g':=s.gens) (d':=s.drawn) (t':=tk) (ch:=[e,it]) (λ b hb=>⟨(hf b hb).2.2.2.1,(hf b hb).2.1,(hf b hb).2.2.2.2.1,(hf b hb).2.2.2.2.2⟩)
   (λ b o _ _ hb q _=>kp b o hb q) (λ b o _ _ hb q _=>⟨o.slots,kp b o hb q⟩) (λ _ _ _ _ n=>n) (λ b o hb q=>⟨o,kp b o hb q⟩)
   (λ _ _ q=>q) (λ _ _ _ q=>q) (λ b ps q=>⟨#[],by rw [q]; simp⟩) (λ m hm=>?_) (λ b o q=>?_) I.bare
  ·obtain ⟨o,es,ep,ho,r⟩:=hm;exact ⟨o,es,ep,kp _ o (λ hb=>(hf _ hb).2.1 rfl) ho,r⟩
  ·refine (I.hok b o q).stay (λ c' v hc' z=>kp c' v ?_ z) (λ _ z=>z) λ _ _ z=>z;rcases hc' with rfl | hc'
   ·exact nfp _ _ q
   ·exact nfp _ _ hc'
 self:=λ A i s Q E st h=>by
  obtain ⟨⟨old,he⟩,hs⟩:=st;exact wpAny_pyIter_enum he h
variable {X:Cx} {B:Bd} {a:Expr} {fs:En->Option (List K5)} {pos pp:Pos}
noncomputable def enS (ds:List K5):Option (List K5):=match ds with
 | [.str x]=>some (nH (uO x) 0)
 | _=>none
theorem xS {K:K6} {F:Hp} {x:Str}:ItP K (Ite x) F (nH (uO x) 0):=λ F1 H1 i s1 s2=>by
 have hl:(nH (uO x) 0).length=x.cps.size:=by rw [u7]; unfold uO; rw [K7,Array.length_toList]
 refine ⟨λ d e=>?_,λ e=>by show i=_; rw [e,hl]⟩;have hi:i < x.cps.size:=by rw [<- hl]; exact (Lb.mp e).1
 refine ⟨hi,λ v H2 y=>?_⟩;obtain ⟨T,c,hT,hc,rfl,rfl⟩:=y;obtain ⟨cd,h1,h2⟩:=u8 _ _ _ _ e
 have:cd=.str ⟨#[c]⟩:=by
  unfold uO at h1;rw [Le] at h1;have hc':x.cps.toList[i]?=some c:=by simpa using hc
  rw [hc'] at h1;exact (Option.some.inj h1).symm
 subst this;rw [Nat.zero_add] at h2;subst h2;have g:=Gr.one (o:=.tup [.int (i:Nat),.str ⟨#[c]⟩]) s2 hT;exact ⟨_,g,iI (SqT.of aX) (.cons cZ (.cons jP .nil))⟩
theorem I.enum {elts:List Expr} {k:Nat} {tp:Pos} (hc:X.calm=true) (hm:X.mg "enumerate" = none) (ha:A X B [a] fs) (hg:Gl X "enumerate" := by rfl) (hs:Lj [a] X.env=[(false,eval a X.env)]:=by exact bD rfl) :
  I X B (.Tuple elts k tp) (.Call (.Name "enumerate" pp) [a] [] pos) (λ η=>(fs η).bind enS):=by
 intro pins s σ H R I ⟨F,η,ds,sr,hd,q⟩;obtain ⟨es,h1,hd⟩:=ab hd;unfold enS at hd;split at hd
 ·rename_i x;cases hd;refine Call_ (nh I hg hm boot_enumerate (PyProof.Rows.callWith_type1 (thn (ha pos pins s σ H (λ vs H1=>∃ F',Gr F H F' H1/\RelL X.K F' [.str x] vs) I ⟨F,η,_,sr,h1,λ vs F' H' g r=>⟨F',g,r⟩⟩) λ us s1 ⟨vs,H1,I1,r1,F1,g1,rl⟩=>?_) hs rfl));obtain ⟨y,r,rfl,ry,rr⟩:=rl.cons_of;obtain rfl:=rr.nil_of;obtain ⟨u,rfl,ru⟩:=ot r1;rw [ry.str] at ru;obtain ⟨t,rfl⟩:=ru;refine call_enumerate_str λ h' he hit hsz hk=>?_;refine wpAny_pyIter_enum he ?_;have I2:Inv X pins σ H1 { s1 with heap:=h' }:=I1.kept (t':=s1.toks) hk;have nw:∀ b,s1.heap.objs.size<=b->o4 X pins H1 b:=λ b hb=>I1.fpOk hb (I1.hok.fresh hb);have fpo:∀ b∈[s1.heap.objs.size+1,s1.heap.objs.size],o4 X pins H1 b:=λ b hb=>by
   rcases LA.mp hb with rfl | hb
   ·exact nw _ (Nat.le_succ _)
   ·rw [LD.mp hb]; exact nw _ (Lp _)
  have cel:∀ (ty:String) (i:Nat) (h:Heap),h.IsStrIter s1.heap.objs.size ty x t i->∃ o,h.get? s1.heap.objs.size=some o/\∀ v,o.data≠.cell v:=λ ty i h st=>by
   obtain ⟨o,ho,hcl,hd⟩:=st;exact ⟨o,ho,λ v z=>by rw [hd] at z; cases z⟩
  cases ha':x.cps.all (· < 128)
  ·have hit':h'.IsStrIter s1.heap.objs.size "str_iterator" x t 0:=by simpa [strIterType,ha'] using hit
   exact ⟨_,_,_,_,H1,rfl,I2,uK (Nat.succ_ne_self _) (λ A hA=>Draws.strWide hA _ x t) (cel _),⟨⟨_,he⟩,hit'⟩,fpo,q _ F1 H1 g1 xS⟩
  ·have hit':h'.IsStrIter s1.heap.objs.size "str_ascii_iterator" x t 0:=by simpa [strIterType,ha'] using hit
   exact ⟨_,_,_,_,H1,rfl,I2,uK (Nat.succ_ne_self _) (λ A hA=>Draws.strAscii hA _ x t) (cel _),⟨⟨_,he⟩,hit'⟩,fpo,q _ F1 H1 g1 xS⟩
 ·cases hd
end
theorem m9:∀ a b:List Nat,ltCps a b=true->ltCps b a=false
 | [],[],h=>by simp [ltCps] at h
 | [],_::_,_=>by simp [ltCps]
 | _::_,[],h=>by simp [ltCps] at h
 | x::r,y::t,h=>by
  simp only [ltCps,Bool.or_eq_true,decide_eq_true_eq,L4,beq_iff_eq] at h;simp only [ltCps,NC,decide_eq_false_iff_not,Nv,beq_iff_eq];rcases h with h | ⟨rfl,h⟩
  ·exact ⟨by omega,λ e=>by omega⟩
  ·exact ⟨by omega,λ _=>m9 r t h⟩
theorem wd:∀ a b:List Nat,ltCps a b=false->ltCps b a=false->a=b
 | [],[],_,_=>rfl
 | [],_::_,h,_=>by simp [ltCps] at h
 | _::_,[],_,h=>by simp [ltCps] at h
 | x::r,y::t,h,k=>by
  simp only [ltCps,NC,decide_eq_false_iff_not,Nv,beq_iff_eq] at h k;have e:x=y:=by omega
  subst e;rw [wd r t (h.2 rfl) (k.2 rfl)]
theorem m8:∀ a b c:List Nat,ltCps b a=false->ltCps c b=false->ltCps c a=false
 | [],[],c,_,h=>h
 | [],_::_,[],_,h=>by simp [ltCps]
 | [],y::t,z::u,_,_=>by simp [ltCps]
 | x::r,[],_,h,_=>by simp [ltCps] at h
 | x::r,y::t,[],_,h=>by simp [ltCps] at h
 | x::r,y::t,z::u,h,k=>by
  simp only [ltCps,NC,decide_eq_false_iff_not,Nv,beq_iff_eq] at h k ⊢;refine ⟨by omega,λ e=>?_⟩;subst e;have e:y=z:=by omega
  subst e;exact m8 r t u (h.2 rfl) (k.2 rfl)
noncomputable def leS (a b:Str):Bool:=!ltCps b.cps.toList a.cps.toList
theorem vD {a b:Str} (h:a.cps.toList=b.cps.toList):a=b:=by
 obtain ⟨a⟩:=a;obtain ⟨b⟩:=b
 have:a=b:=Array.toList_inj.mp h
 rw [this]
noncomputable def sA (ss:List Str):List Str:=ss.mergeSort leS
theorem Ef (ss:List Str):(sA ss).Pairwise (λ a b=>leS a b=true):=by
 refine List.pairwise_mergeSort (le:=leS) (λ a b c h k=>?_) (λ a b=>?_) ss
 ·unfold leS at h k ⊢;rw [MP] at h k ⊢;exact m8 _ _ _ h k
 ·unfold leS;cases e:ltCps b.cps.toList a.cps.toList with
  | false=>rfl
  | true=>rw [m9 _ _ e]; rfl
section
variable {X:Cx}
noncomputable def DI:List K5->Option (List Str)
 | []=>some []
 | .str i::r=>(DI r).bind λ ns=>some (i::ns)
 | _::_=>none
theorem vk:∀ {ds:List K5} {ns:List Str},DI ds=some ns->ds=ns.map PyData.str
 | [],ns,h=>by cases h; rfl
 | .str i::r,ns,h=>by
  obtain ⟨ms,h1,h2⟩:=ab h;cases h2;rw [vk h1]; rfl
 | .none::_,_,h=>by cases h
 | .bool _::_,_,h=>by cases h
 | .int _::_,_,h=>by cases h
 | .list _::_,_,h=>by cases h
 | .tuple _::_,_,h=>by cases h
 | .dict _::_,_,h=>by cases h
theorem RelL.strs_of {K:K6} {F:Hp}:∀ {ns:List Str} {xs:List V},RelL K F (ns.map PyData.str) xs->xs=ns.map V.str
 | [],xs,h=>h.nil_of
 | n::r,xs,h=>by
  obtain ⟨x,ys,rfl,h1,h2⟩:=h.cons_of;rw [h1.str,RelL.strs_of h2]; rfl
variable {B:Bd} {a b e:Expr} {es:List Expr} {f g:En->Option K5} {fs:En->Option (List K5)} {pos pp apos cpos:Pos}
end
noncomputable def wt (N:List Str) (sc scope:Scope) (N':List Str) (mp:List (Option Nat)):Bool :=
 decide (scope.kind=.function)&&decide (sc.kind=.function)&&decide (∀ x∈scope.names,x.2≠.cell)&&decide (∀ x∈scope.names,x.2=.local->scope.names.lookup x.1=some .local) &&
 decide (∀ x∈scope.names,x.2=.free->sc.names.lookup x.1=some .cell)&&decide (mp.length=N'.length) &&
 (N'.zip mp).all λ p=>match p.2 with
  | none=>true
  | some j=>decide (N[j]?=some p.1)&&decide (scope.names.lookup p.1=some .free)
theorem jM {env:Env} (hk:env.scope.kind=.function):∀ {names:List (Str×NameKind)} {x:Str},names.lookup x=some .free->env.kindOf x=some .cell ->
  (names.map λ (n,k)=>if (k==NameKind.free&&env.scope.kind==.function&&env.kindOf n==some .cell) then (n,NameKind.cell) else (n,k)).lookup x=some .cell
 | [],_,h,_=>by simp at h
 | (n,k)::r,x,h,hc=>by
  have ih:=@jM env hk r x;show M3 x ((if (k==NameKind.free&&env.scope.kind==.function&&env.kindOf n==some .cell)=true then (n,NameKind.cell) else (n,k))::_)=_;cases hx:x==n with
  | true =>
   have en:x=n:=by simpa using hx
   subst en;simp only [MK,hx] at h;cases h;rw [if_pos (by rw [hk,hc]; rfl)];simp [MK]
  | false =>
   simp only [MK,hx] at h
   split <;> simp only [MK,hx] <;> exact ih h hc
theorem CompSc.of {X:Cx} {scope:Scope} {N':List Str} {mp:List (Option Nat)} (h:wt X.N X.env.scope scope N' mp=true):CompSc X scope N' mp:=by
 unfold wt at h;simp only [L4,decide_eq_true_eq] at h;obtain ⟨⟨⟨⟨⟨⟨h1,h0⟩,h2⟩,h3⟩,h4⟩,h5⟩,h6⟩:=h;refine ⟨h1,h2,h3,λ x hx hf=>.inl (h4 x hx hf),h5,λ i x j e1 e2=>?_⟩;have hm:(x,some j)∈N'.zip mp:=by
  have:(N'.zip mp)[i]?=some (x,some j):=by rw [List.getElem?_zip_eq_some]; exact ⟨e1,e2⟩
  exact LG this
 have h7:=L5.mp h6 _ hm;simp only [L4,decide_eq_true_eq] at h7;have hmem:(x,NameKind.free)∈scope.names:=PySem.mem_of_lookup h7.2;exact ⟨h7.1,hmem,.inl (jM h0 h7.2 (h4 _ hmem rfl))⟩
theorem bI {X:Cx} {B:Bd} {x:Str} {i:Int} {t:Tok} {pos:Pos} (hm:X.mg x=some (.int i t)) (hg:Gl X x:=by rfl) (hd:(x==("__debug__" : Str))=false:=by decide):E X B (.Name x pos) (eC (.int i)):=E.glob hm (v:=.int i) ⟨t,rfl⟩ (λ _=>cZ) hg hd
theorem E.globS {X:Cx} {B:Bd} {x:Str} {i:Str} {t:Tok} {pos:Pos} (hm:X.mg x=some (.str i t)) (hg:Gl X x:=by rfl) (hd:(x==("__debug__" : Str))=false:=by decide):E X B (.Name x pos) (eC (.str i)):=E.glob hm (v:=.str i) ⟨t,rfl⟩ (λ _=>jP) hg hd
theorem Eb {t:En->K5->Option En}:∀ η ds η',bo t gO η ds=some η'->ds.length=1:=λ η ds η' h=>by
 match ds,h with
 | [_],_=>rfl
 | _::_::_,h=>obtain ⟨_,_,h⟩:=ab h; cases h
theorem o7 {t u:En->K5->Option En}:∀ η ds η',bo t (bo u gO) η ds=some η'->ds.length=2:=λ η ds η' h=>by
 match ds,h with
 | d::r,h =>
  obtain ⟨η1,_,h⟩:=ab h;rw [Lu,Eb _ _ _ h]
theorem a9 {X:Cx} {scope:Scope} {N':List Str} {mp:List (Option Nat)} (N:List Str) (sc:Scope) (hN:X.N=N) (hs:X.env.scope=sc) (h:wt N sc scope N' mp=true):CompSc X scope N' mp:=CompSc.of (by rw [hN,hs]; exact h)
section
variable {X:Cx}
variable {B:Bd} {a b e:Expr} {es:List Expr} {f g:En->Option K5} {fs:En->Option (List K5)} {pos pp tp apos cpos pos':Pos} {sts:List Stmt} {u:En->Option Out} {p:En->Option Bool}
noncomputable def DM:List K5->Option (List Bool)
 | []=>some []
 | .bool i::r=>(DM r).bind λ ns=>some (i::ns)
 | _::_=>none
theorem vt:∀ {ds:List K5} {ns:List Bool},DM ds=some ns->ds=ns.map PyData.bool
 | [],ns,h=>by cases h; rfl
 | .bool i::r,ns,h=>by
  obtain ⟨ms,h1,h2⟩:=ab h;cases h2;rw [vt h1]; rfl
 | .none::_,_,h=>by cases h
 | .str _::_,_,h=>by cases h
 | .int _::_,_,h=>by cases h
 | .list _::_,_,h=>by cases h
 | .tuple _::_,_,h=>by cases h
 | .dict _::_,_,h=>by cases h
theorem zq (ns:List Bool):DM (ns.map PyData.bool)=some ns:=by
 induction ns with
 | nil=>rfl
 | cons n r ih=>rw [Ln]; unfold DM; rw [ih]; rfl
theorem RelL.bools_of {K:K6} {F:Hp}:∀ {ns:List Bool} {xs:List V},RelL K F (ns.map PyData.bool) xs->xs=ns.map V.bl
 | [],xs,h=>h.nil_of
 | n::r,xs,h=>by
  obtain ⟨x,ys,rfl,h1,h2⟩:=h.cons_of;rw [h1.bl,RelL.bools_of h2]; rfl
theorem A4 (bs:List Bool):(List.range bs.length).any (λ i=>bs.getD i false)=bs.any id:=by
 rw [MC,ML,ML]
 constructor
 ·rintro ⟨i,hi,h⟩
  have hi:=Mg.mp hi;rw [Lk,K9 hi] at h;exact ⟨_,List.getElem_mem hi,h⟩
 ·rintro ⟨x,hx,h⟩
  obtain ⟨i,hi,rfl⟩:=List.mem_iff_getElem.mp hx;exact ⟨i,Mg.mpr hi,by rw [Lk,K9 hi]; exact h⟩
noncomputable def Cb (K:K6) (r:List Bool->Bool):List V->Hp->VK->Prop:=λ xs H Q=>∃ (p:Lz) (bs:List Bool),xs=[.ref p]/\SqL K H p (bs.map V.bl)/\Q (.bl (r bs)) H
theorem zo (hc:X.calm=true) {pins:List (Lz×Obj)} {s:Lh} {σ:St} {H:Hp} {p:Lz} {bs:List Bool} {Q:Bool->Lf->Lh->Prop} {r:(Nat->Bool)->Nat->Bool} (I:Inv X pins σ H s) (hq:SqL X.K H p (bs.map V.bl))
  (hQ:∀ h' tk,(∀ b o,s.heap.get? b=some o->h'.get? b=some o)->Q true (.bool (r (λ i=>bs.getD i false) bs.length)) { s with heap:=h',toks:=tk }) :
  L1 (L6 X.prog X.w) X.A.in1 (pyIter (.ref p)) (λ it s₂=>∃ I fp wr n P St tr,it=.ref I/\Walks X.prog X.w X.A.in1 I fp wr n P St/\St 0 s₂.heap/\TruthOf X.prog X.w X.A.in1 P tr /\
   ∀ h' tk,(∀ b o,b∉wr->s₂.heap.get? b=some o->h'.get? b=some o)->Q true (.bool (r tr n)) { s₂ with heap:=h',toks:=tk }) X.xe s:=by
 obtain ⟨its,rv,pl,hz⟩:=I.list hq;have hl:=rv.length;rw [K7] at hl;have hlt:p < s.heap.objs.size:=by
  obtain ⟨o,ho,_⟩:=pl.isList;exact Ly ho
 refine wpAny_pyIter_list pl.isList ?_;refine ⟨s.heap.objs.size,_,_,_,_,_,λ i=>bs.getD i false,rfl,Walks.list (A:=X.A.in1) (I.ok.hd hc) s.heap.objs.size p (LP hlt) its.toArray,⟨⟨_,LL _ rfl,rfl,rfl⟩,pl.isList.at λ o e=>Lg _ e⟩,?_,λ h' tk hk=>?_⟩
 ·intro i v s' Q' E' hv hq';have hv':its[i]?=some v:=by simpa using hv
  obtain ⟨hi,_⟩:=Lb.mp hv';have hn:bs[i]?=some bs[i]:=K9 (by omega);obtain ⟨w,hw,rw'⟩:=rv.get (i:=i) (x:=.bl bs[i]) (by rw [Le,hn]; rfl);rw [hv'] at hw;cases hw;cases rw';have e:bs.getD i false=bs[i]:=by rw [Lk,hn]; rfl
  rw [show (λ i=>bs.getD i false) i=bs[i] from e] at hq';exact wpAny_truthy_bool hq'
 ·have e:its.toArray.size=bs.length:=by rw [Ls]; exact hl.symm
  rw [e];refine hQ h' tk λ b o eb=>hk b o ?_ (Lg _ eb);intro hb;exact absurd (Ly eb) (by rw [LD.mp hb]; exact MU _)
theorem DD (hc:X.calm=true):CallR X (.builtin "any") (Cb X.K λ bs=>bs.any id):=by
 intro pins s σ H xs us Q I r h;obtain ⟨p,bs,rfl,hq,q⟩:=h;obtain ⟨u,rfl,rx⟩:=ot r;cases rx;refine call_any_walk (zo hc (Q:=λ _ v s'=>EP X pins σ Q v s') (r:=λ tr n=>(List.range n).any tr) I hq λ h' tk k=>?_);rw [A4];exact ⟨.bl _,H,I.kept k,rfl,q⟩
noncomputable def vS (r:List Bool->Bool) (ds:List K5):Option K5:=match ds with
 | [.list xs]=>(DM xs).bind λ bs=>some (.bool (r bs))
 | _=>none
theorem DQ {K:K6} {r:List Bool->Bool}:AdA K (Cb K r) (vS r):=λ F H xs ds d Q sm rs e q=>by
 unfold vS at e;split at e
 ·obtain ⟨bs,h1,h2⟩:=ab e;cases h2
  have:=vt h1
  subst this;obtain ⟨x,r,rfl,rx,rr⟩:=rs.cons_of;obtain rfl:=rr.nil_of;obtain ⟨a,ys,rfl,hq,r1⟩:=rx.lst
  have:=r1.bools_of
  subst this;exact ⟨a,bs,rfl,sm.seq hq,q _ F H (.refl sm) ef⟩
 ·cases e
noncomputable def Cz:=vS λ bs=>bs.any id
theorem E.any (hc:X.calm=true) (hm:X.mg "any" = none) (ha:A X B [e] fs) (hg:Gl X "any" := by rfl) (he:Lj [e] X.env=(false,eval e X.env)::Lj [] X.env:=by exact bD rfl) (hpl:(backTo pos (Lj [] X.env)).any (·.1)=false:=by rfl):E X B (.Call (.Name "any" pp) [e] [] pos) (lA Cz fs) :=
 E.callB (DD hc) DQ hm (by decide +kernel) ha hg (by decide) (by decide) he hpl
noncomputable def EJ (ds:List K5):Option K5:=match ds with
 | [.int i,.int j]=>some (.int (if j > i then j else i))
 | _=>none
noncomputable def EI (ds:List K5):Option K5:=match ds with
 | [.int i,.int j]=>some (.int (if j < i then j else i))
 | _=>none
theorem DN {K:K6} {g:Int->Int->Int}:AdA K (λ xs H Q=>∃ i j,xs=[.int i,.int j]/\Q (.int (g i j)) H) (λ ds=>match ds with | [.int i,.int j]=>some (.int (g i j)) | _=>none):=λ F H xs ds d Q sm rs e q=>by
 dsimp only at e;split at e
 ·cases e;obtain ⟨x,r,rfl,rx,rr⟩:=rs.cons_of;obtain ⟨y,r2,rfl,ry,rr2⟩:=rr.cons_of;obtain rfl:=rr2.nil_of;exact ⟨_,_,by rw [rx.int,ry.int],q _ F H (.refl sm) cZ⟩
 ·cases e
theorem E.max (hc:X.calm=true) (hm:X.mg "max" = none) (ha:A X B [a,b] fs) (hg:Gl X "max" := by rfl) (he:Lj [a,b] X.env=(false,eval a X.env)::Lj [b] X.env:=by rfl) (hpl:(backTo pos (Lj [b] X.env)).any (·.1)=false:=by rfl):E X B (.Call (.Name "max" pp) [a,b] [] pos) (lA EJ fs) :=
 E.callB (BD hc) DN hm (by decide +kernel) ha hg (by decide) (by decide) he hpl
theorem E.min (hc:X.calm=true) (hm:X.mg "min" = none) (ha:A X B [a,b] fs) (hg:Gl X "min" := by rfl) (he:Lj [a,b] X.env=(false,eval a X.env)::Lj [b] X.env:=by rfl) (hpl:(backTo pos (Lj [b] X.env)).any (·.1)=false:=by rfl):E X B (.Call (.Name "min" pp) [a,b] [] pos) (lA EI fs) :=
 E.callB (BC hc) DN hm (by decide +kernel) ha hg (by decide) (by decide) he hpl
noncomputable def yN (i:Nat) (f:En->Option K5):En->Option Out:=λ η=>(eV i η).bind λ x=>(f η).bind λ y=>match x,y with
 | .int n,.int m=>some (.nx (η.set i (.val (.int (n+m)))))
 | _,_=>none
theorem S.aug (i:Nat) {x:Str} (hN:X.N.Nodup) (he:E X B e f) (hi:X.N[i]?=some x:=by rfl) (hx:Loc X.env.scope x:=by first | exact Or.inl rfl | exact Or.inr rfl) (hf:X.fn x=true\/X.env.scope.names.lookup x=some .local:=by first | exact .inl rfl | exact .inr rfl):S X B (.AugAssign (.Name x pos') .Add e pos) (yN i f) :=
 PS.imp (GD hN hi hx he Hi hf) λ D σ H ⟨F,η,o,sr,hd,q⟩=>by
  obtain ⟨x,hx,hd⟩:=ab hd;obtain ⟨y,hy,hd⟩:=ab hd;split at hd
  ·cases hd;unfold eV at hx;split at hx
   ·rename_i d' e;cases hx;obtain ⟨v,e1,e2⟩:=sr.en.val i _ e;refine ⟨v,e1,F,η,_,sr,hy,λ w F1 H1 g1 rw'=>⟨_,_,e2.int,rw'.int,?_⟩⟩;exact q _ F1 H1 ⟨sr.gr.trans g1,(sr.en.grow g1).set i cZ⟩ g1.ff
   ·cases hx
  ·cases hd
end
section
variable {X:Cx} {B:Bd} {e:Expr} {f:En->Option K5} {tg:Expr}
end
theorem uM:∀ {ss:List Str} {us:List Lf},Vals (ss.map V.str) us->∃ l:List (Str×Tok),us=strValues l/\l.map (·.1)=ss
 | [],us,h=>by cases h; exact ⟨[],rfl,rfl⟩
 | x::r,us,h=>by
  cases h with
  | cons h1 h2 =>
   obtain ⟨l,rfl,e⟩:=uM h2;obtain ⟨t,rfl⟩:=h1;exact ⟨(x,t)::l,rfl,by rw [Ln,e]⟩
section
variable {X:Cx} {B:Bd} {a b e:Expr} {f g:En->Option K5} {apos cpos:Pos}
noncomputable def Iu (K:K6):V->List V->Hp->VK->Prop:=λ x vs H Q=>∃ z p ss,x=.str z/\vs=[.ref p]/\SqL K H p (ss.map V.str)/\JoinOk z ss=true/\Q (.str (Txt.join z ss)) H
theorem EW:MtR X "str.join" (Iu X.K):=by
 intro pins s σ H x vs v us Q I rx rv h;obtain ⟨z,p,ss,rfl,rfl,hq,ok,q⟩:=h;obtain ⟨t,rfl⟩:=rx;obtain ⟨u,rfl,ru⟩:=ot rv;cases ru;obtain ⟨its,r,pl,hz⟩:=I.list hq;obtain ⟨l,rfl,hl⟩:=uM r;exact SC.join pl.isList hl ok λ t' k=>⟨.str _,H,I.tok k,⟨t',rfl⟩,q⟩
noncomputable def oA (x y:K5):Option K5:=match x,y with
 | .str z,.list ds=>(DI ds).bind λ ss=>if JoinOk z ss=true then some (.str (Txt.join z ss)) else none
 | _,_=>none
theorem E.join (ha:E X B a f) (he:E X B e g) (hbase:attributeBase a "join" X.env (eval a X.env)=eval a X.env:=by rfl)
  (hfew:((backTo cpos (Lj [e] X.env)).all (λ x=>!x.1)&&(backToKw cpos (keywordEach [] X.env)).all (λ x=>x.1.isSome)
   && decide ([e].length+([]:List Keyword).length+(if ([]:List Keyword).isEmpty then 0 else 1) < 30))=true:=by rfl)
  (hline:(apos.endLine==cpos.line)=true:=by rfl) (hs:Lj [e] X.env=(false,eval e X.env)::Lj [] X.env:=by exact bD rfl) (hplain:(backTo cpos (Lj [] X.env)).any (·.1)=false:=by rfl) :
  E X B (.Call (.Attribute a "join" apos) [e] [] cpos) (l2 oA f g) :=
 PE.imp (uU PySem.F.plainAttrs_str PySem.F.slot_str_join PySem.F.type_str_join EW ha (ac he ag hs) hbase hfew hline hs hplain) λ σ H Q ⟨F,η,d,sr,hd,q⟩=>by
  obtain ⟨x,hx,hd⟩:=ab hd;obtain ⟨y,hy,hd⟩:=ab hd;unfold oA at hd;split at hd
  ·rename_i z ds;obtain ⟨ss,h1,hd⟩:=ab hd;split at hd
   ·rename_i hf;cases hd
    have:=vk h1
    subst this;refine ⟨F,η,_,sr,hx,λ v F1 H1 g1 rv=>?_⟩;rw [rv.str];refine ⟨rfl,F1,η,[.list (ss.map PyData.str)],sr.grow g1,(by show (g η).bind _=_; rw [hy]; rfl),λ vs F2 H2 g2 rs=>?_⟩;obtain ⟨w,r,rfl,rw',rr⟩:=rs.cons_of;obtain rfl:=rr.nil_of;obtain ⟨p,xs,rfl,hq,r1⟩:=rw'.lst
    have:=r1.strs_of
    subst this;exact ⟨_,p,ss,rfl,rfl,g2.fh.seq hq,hf,q _ F2 H2 (g1.trans g2) jP⟩
   ·cases hd
  ·cases hd
end
section
variable {X:Cx} {B:Bd} {a b e:Expr} {f g:En->Option K5} {pos:Pos}
noncomputable def Hg:K5->Bool
 | .none=>true
 | _=>false
noncomputable def uq (neg:Bool) (x y:K5):Option K5:=match y with
 | .none=>some (.bool (if neg then !Hg x else Hg x))
 | _=>none
theorem Ah {K:K6} {F:Hp} {d:K5} {x:V} (r:Rel K F d x):decide (x=.non)=Hg d:=by
 cases d with
 | none=>rw [r.non]; rfl
 | bool b=>rw [r.bl]; rfl
 | int i=>rw [r.int]; rfl
 | str s=>rw [r.str]; rfl
 | list ds=>obtain ⟨a,xs,rfl,_⟩:=r.lst; rfl
 | tuple ds=>obtain ⟨a,xs,rfl,_⟩:=r.tup; rfl
 | dict es=>obtain ⟨a,xs,rfl,_⟩:=r.dct; rfl
theorem HG {K:K6}:Ad2 K (λ x y H Q=>y=.non/\Q (.bl (decide (x=.non))) H) (uq false):=λ F H x y dx dy d Q sm rx ry e q=>by
 unfold uq at e;split at e
 ·cases e;refine ⟨ry.non,?_⟩;rw [Ah rx];exact q _ F H (.refl sm) ef
 ·cases e
theorem Fw {K:K6}:Ad2 K (λ x y H Q=>y=.non/\Q (.bl (!decide (x=.non))) H) (uq true):=λ F H x y dx dy d Q sm rx ry e q=>by
 unfold uq at e;split at e
 ·cases e;refine ⟨ry.non,?_⟩;rw [Ah rx];exact q _ F H (.refl sm) ef
 ·cases e
theorem T.isN (ha:E X B a f) (hb:E X B b g) (hm:Mo .Is b=false:=by rfl):T X B (.Compare a [.Is] [b] pos) (bT (l2 (uq false) f g)):=T.cmp GU HG hm ha hb
theorem T.notN (ha:E X B a f) (hb:E X B b g) (hm:Mo .IsNot b=false:=by rfl):T X B (.Compare a [.IsNot] [b] pos) (bT (l2 (uq true) f g)):=T.cmp EL Fw hm ha hb
end
noncomputable def Itv (K:K6) (a:Lz) (n:Nat):It :=
 ⟨λ i H=>i < n/\∃ xs x,SqL K H a xs/\xs[n - 1 - i]?=some x,λ i H x H'=>H'=H/\∀ xs,SqL K H a xs->xs[n - 1 - i]?=some x,λ i _=>i=n⟩
theorem BQ {P:LM} {w:World} {K:K6} {tg:Expr} (a it:Lz) (n:Nat):Turn P w K tg (Itv K a n) [it] it (λ i h=>h.IsRevIter it a ((n:Int) - 1 - (i:Nat))) where
 mem:=by simp
 obj:=λ i h st b hb=>by
  have e:b=it:=by simpa using hb
  subst e;obtain ⟨o,e,c,d⟩:=st;exact ⟨o,e,λ v z=>by rw [d] at z; cases z⟩
 keep:=λ i h h' st k=>st.at λ o e=>k it (by simp) o e
 item:=by
  intro X hP hw hK hc i pins s σ H E I hf st hg;subst hP hw hK;obtain ⟨hi,xs,x,hq,hx⟩:=hg;obtain ⟨its,rv,p,hz⟩:=I.list hq;obtain ⟨u,hu,ru⟩:=rv.get hx;obtain ⟨f0,f1,f2,f3,f4,f5⟩:=hf it (by simp);have ei:(n:Int) - 1 - (i:Nat)=((n - 1 - i:Nat):Int):=by omega
  rw [ei] at st;refine wpAny_pyNext_rev_item st p.isList (x:=u) (by simpa using hu) λ h' st' sb=>?_;have I1:Inv X pins σ H { s with heap:=h' }:=I.turned (t':=s.toks) (λ b o hb e=>(sb.2 b hb).trans e) f0 f1 f3 f4 f5;have st2:h'.IsRevIter it a ((n:Int) - 1 - ((i+1:Nat):Nat)):=by
   have e2:((n - 1 - i:Nat):Int) - 1=(n:Int) - 1 - ((i+1:Nat):Nat):=by omega
   rw [<- e2]; exact st'
  obtain ⟨o,e,c,d⟩:=id st';exact ⟨u,rfl,AC (s:={ s with heap:=h' }) e c d (by decide) ⟨x,H,I1,ru,⟨rfl,λ ys hy=>by rw [I.list_inj hy hq]; exact hx⟩,st2,λ b hb=>(hf b hb).1⟩⟩
 done:=by
  intro X hP hw hK hc i pins s σ H E I hf st hg;subst hP hw hK;obtain ⟨f0,f1,f2,f3,f4,f5⟩:=hf it (by simp);have hg:i=n:=hg;have ei:(n:Int) - 1 - (i:Nat)=-1:=by omega
  rw [ei] at st;exact wpAny_pyNext_rev_end (I.ok.hd hc) st λ h' eb=>⟨rfl,I.turned (t':=s.toks) (λ b o hb e=>eb b o hb e) f0 f1 f3 f4 f5⟩
 self:=λ _ _ _ _ _ st h=>wpAny_pyIter_revIter st h
section
variable {X:Cx} {B:Bd} {a:Expr} {fs:En->Option (List K5)} {pos pp:Pos}
noncomputable def rvS (ds:List K5):Option (List K5):=match ds with
 | [.list xs]=>some xs.reverse
 | _=>none
theorem Ff {K:K6} {F:Hp} {p:Lz} {ds:List K5} {xs:List V} (hq:SqL K F p xs) (rs:RelL K F ds xs):ItP K (Itv K p ds.length) F ds.reverse:=λ F1 H1 i s1 s2=>by
 refine ⟨λ d e=>?_,λ e=>by show i=ds.length; rw [e,M9]⟩;have hi:i < ds.length:=by
  have:=(Lb.mp e).1
  rwa [M9] at this
 rw [List.getElem?_reverse hi] at e;obtain ⟨x,hx,rx⟩:=rs.get e;have hq1:SqL K H1 p xs:=s2.seq (s1.seq hq);refine ⟨⟨hi,xs,x,hq1,hx⟩,λ v H2 y=>?_⟩;obtain ⟨rfl,y⟩:=y
 have:=(y xs hq1).symm.trans hx
 cases this;exact ⟨F1,.refl s2,rx.mono s1⟩
theorem I.rev {tg:Expr} (hc:X.calm=true) (hm:X.mg "reversed" = none) (ha:A X B [a] fs) (hg:Gl X "reversed" := by rfl) (hs:Lj [a] X.env=[(false,eval a X.env)]:=by exact bD rfl) :
  I X B tg (.Call (.Name "reversed" pp) [a] [] pos) (λ η=>(fs η).bind rvS):=by
 intro pins s σ H R I ⟨F,η,ds,sr,hd,q⟩;obtain ⟨es,h1,hd⟩:=ab hd;unfold rvS at hd;split at hd
 ·rename_i x;cases hd;refine Call_ (nh I hg hm (show bootBuiltins "reversed" = some (.type "reversed") by decide +kernel) (PyProof.Rows.callWith_type1 (thn (ha pos pins s σ H (λ vs H1=>∃ F',Gr F H F' H1/\RelL X.K F' [.list x] vs) I ⟨F,η,_,sr,h1,λ vs F' H' g r=>⟨F',g,r⟩⟩) λ us s1 ⟨vs,H1,I1,r1,F1,g1,rl⟩=>?_) hs rfl));obtain ⟨y,r,rfl,ry,rr⟩:=rl.cons_of;obtain rfl:=rr.nil_of;obtain ⟨u,rfl,ru⟩:=ot r1;obtain ⟨p,xs,rfl,hq,rs⟩:=ry.lst;cases ru;obtain ⟨its,rv,pl,hz⟩:=I1.list (g1.fh.seq hq);refine call_reversed_list pl.isList ?_;have hl:its.toArray.size=x.length:=by
   have h1:=rv.length;have h2:=rs.length;rw [Ls];omega
  have st:(s1.heap.push (revObj p ((its.toArray.size:Int) - 1))).IsRevIter s1.heap.objs.size p ((x.length:Int) - 1 - ((0:Nat):Nat)):=by
   refine ⟨_,LL _ rfl,rfl,?_⟩;have e2:(its.toArray.size:Int) - 1=(x.length:Int) - 1 - ((0:Nat):Nat):=by rw [hl]; omega
   rw [<- e2]; rfl
  refine wpAny_pyIter_revIter st ?_;refine ⟨_,[s1.heap.objs.size],_,_,H1,rfl,I1.kept (t':=s1.toks) λ b o e=>Lg _ e,BQ p _ x.length,st,λ b hb=>?_,q _ F1 H1 g1 (Ff hq rs)⟩;rw [LD.mp hb];exact I1.fpOk (Lp _) (I1.hok.fresh (Lp _))
 ·cases hd
end
section
variable {X:Cx} {B:Bd} {a b e:Expr} {f g:En->Option K5} {fs:En->Option (List K5)} {pos:Pos}
end
section
variable {X:Cx} {B:Bd} {e st:Expr} {f g:En->Option K5} {pos p2:Pos}
end
section
variable {X:Cx} {B:Bd} {pos pp:Pos}
end
noncomputable def qV:K5->Option Key
 | .int i=>some (.inl i)
 | .str x=>some (.inr x)
 | _=>none
theorem pM (k:Key):qV (kD k)=some k:=by cases k <;> rfl
theorem zN {K:K6} {F:Hp} {d:K5} {k:Key} {v:V} (h:qV d=some k) (r:Rel K F d v):v=kV k:=by
 cases d with
 | int i=>cases h; rw [r.int]; rfl
 | str x=>cases h; rw [r.str]; rfl
 | none=>cases h
 | bool b=>cases h
 | list ds=>cases h
 | tuple ds=>cases h
 | dict es=>cases h
noncomputable def ng (es:List (K5×K5)) (k:Key):Option K5:=(es.find? λ e=>decide (qV e.1=some k)).map (·.2)
theorem uY {k:Key} {e:K5} {es:List (K5×K5)}:ng ((kD k,e)::es) k=some e:=by
 unfold ng;rw [Nq (by simp [pM])]; rfl
theorem uZ {k k':Key} {e:K5} {es:List (K5×K5)} (h:¬ k'=k):ng ((kD k',e)::es) k=ng es k:=by
 unfold ng;rw [Nr (by rw [pM]; simp [h])]
theorem RelD.look {K:K6} {F:Hp}:∀ {es:List (K5×K5)} {ks:List (Key×V)},RelD K F es ks->∀ k,(∀ d,ng es k=some d->∃ x,qe ks k=some x/\Rel K F d x)/\(ng es k=none->qe ks k=none)
 | [],ks,h,k=>by
  rw [h.nil_of];exact ⟨λ d e=>(by cases e),λ _=>rfl⟩
 | (d,e)::es,ks,h,k=>by
  obtain ⟨k',x,r,rfl,rfl,h3,h4⟩:=h.cons_of;have ih:=RelD.look h4 k;by_cases hk:k'=k
  ·subst hk;rw [uY,o5 rfl];exact ⟨λ d q=>(by cases q; exact ⟨x,rfl,h3⟩),λ q=>(by cases q)⟩
  ·rw [uZ hk,o6 hk];exact ih
noncomputable def A5 (kvs:List (Key×K5)) (k:Key) (d:K5):List (Key×K5) :=
 if (kvs.any λ kv=>decide (kv.1=k))=true then kvs.map (λ kv=>if kv.1=k then (kv.1,d) else kv) else kvs++[(k,d)]
theorem wj {a b:Key} (h:kD a=kD b):a=b:=by
 have:=congrArg qV h
 rw [pM,pM] at this;exact Option.some.inj this
section
variable {K:K6} {F:Hp}
theorem RelD.any:∀ {kvs:List (Key×K5)} {ks:List (Key×V)},RelD K F (prs kvs) ks->∀ k,(kvs.any λ kv=>decide (kv.1=k))=ks.any λ kv=>decide (kv.1=k)
 | [],ks,h,k=>by rw [h.nil_of]; rfl
 | (k',d)::kvs,ks,h,k=>by
  obtain ⟨k2,x,r,rfl,e,h3,h4⟩:=RelD.cons_of (d:=kD k') (e:=d) (es:=prs kvs) h
  have:=wj e
  subst this;rw [Ms,Ms,RelD.any h4 k]
theorem RelD.length:∀ {kvs:List (Key×K5)} {ks:List (Key×V)},RelD K F (prs kvs) ks->ks.length=kvs.length
 | [],ks,h=>by rw [h.nil_of]; rfl
 | (k',d)::kvs,ks,h=>by
  obtain ⟨k2,x,r,rfl,e,h3,h4⟩:=RelD.cons_of (d:=kD k') (e:=d) (es:=prs kvs) h;rw [Lu,Lu,RelD.length h4]
theorem RelD.repl {k:Key} {d:K5} {x:V} (hd:Rel K F d x):∀ {kvs:List (Key×K5)} {ks:List (Key×V)},RelD K F (prs kvs) ks->RelD K F (prs (kvs.map λ kv=>if kv.1=k then (kv.1,d) else kv)) (ks.map λ kv=>if kv.1=k then (kv.1,x) else kv)
 | [],ks,h=>by rw [h.nil_of]; exact .nil
 | (k',d')::kvs,ks,h=>by
  obtain ⟨k2,x',r,rfl,e,h3,h4⟩:=RelD.cons_of (d:=kD k') (e:=d') (es:=prs kvs) h
  have:=wj e
  subst this;have ih:=RelD.repl (k:=k) hd h4;rw [Ln,Ln];by_cases hk:k'=k
  ·rw [if_pos hk,if_pos hk];exact RelD.cons hd ih
  ·rw [if_neg hk,if_neg hk];exact RelD.cons h3 ih
theorem RelD.snoc {k:Key} {d:K5} {x:V} (hd:Rel K F d x):∀ {kvs:List (Key×K5)} {ks:List (Key×V)},RelD K F (prs kvs) ks->RelD K F (prs (kvs++[(k,d)])) (ks++[(k,x)])
 | [],ks,h=>by rw [h.nil_of]; exact RelD.cons hd .nil
 | (k',d')::kvs,ks,h=>by
  obtain ⟨k2,x',r,rfl,e,h3,h4⟩:=RelD.cons_of (d:=kD k') (e:=d') (es:=prs kvs) h
  have:=wj e
  subst this;exact RelD.cons h3 (RelD.snoc hd h4)
theorem RelD.put {k:Key} {d:K5} {x:V} (hd:Rel K F d x) {kvs:List (Key×K5)} {ks:List (Key×V)} (h:RelD K F (prs kvs) ks):RelD K F (prs (A5 kvs k d)) (ql ks k x):=by
 unfold A5 ql;rw [h.any k]
 split
 ·exact RelD.repl hd h
 ·exact RelD.snoc hd h
end
section
variable {X:Cx} {B:Bd} {o e e2 a b:Expr} {f g h:En->Option K5} {pos pos' apos cpos npos:Pos}
theorem Room.one {k:Nat} {A:Mb} (hr:Room k A):A.units+1 < cLine:=by have:=hr.units; omega
noncomputable def FI (i:Nat):En->Option Out:=λ η=>some (.nx (η.set i (.odc [])))
theorem S.setD (i:Nat) {x:Str} {dp:Pos} (hN:X.N.Nodup) (hi:X.N[i]?=some x:=by rfl) (hx:Loc X.env.scope x:=by first | exact Or.inl rfl | exact Or.inr rfl) (hs:swapsWith (.Dict [] [] dp) (some (.Name x pos')) pos.line X.env=pure false:=by rfl)
  (hf:X.fn x=true\/X.env.scope.names.lookup x=some .local:=by first | exact .inl rfl | exact .inr rfl):S X B (.Assign [.Name x pos'] (.Dict [] [] dp) pos) (FI i):=PS.imp (vM hN hi hx Cr hs hf) λ D σ H ⟨F,η,o,sr,hd,q⟩=>by
 cases hd;intro p hp;have g1:Gr F H F (upd H p (.dK [])):=⟨.refl _,dj hp _,sr.same.trans (dj hp _),λ _ z=>.inl z⟩;exact q _ F _ ⟨sr.gr.trans g1,(sr.en.grow g1).setCell i rfl (sr.same.free hp) (sr.gr.hh.free hp) aX ⟨[],rfl,.nil⟩ λ j ej=>sr.en.notown hp j ej⟩ (.refl _)
noncomputable def qG (i:Nat) (g h:En->Option K5):En->Option K5:=λ η=>match η[i]? with
 | some (.odc kvs)=>(g η).bind λ y=>(h η).bind λ z=>(qV y).bind λ k=>some ((ng (prs kvs) k).getD z)
 | _=>none
theorem E.get2O {k:Nat} (i:Nat) (hr:Room k X.A) {x:Str} (he:E X B e g) (hf:E X B e2 h) (m:M2 X (.Name x npos) "get" apos e e2 cpos:=by exact ⟨rfl,rfl,rfl,rfl⟩) (hN:X.N[i]?=some x:=by rfl) (hv:Vis X.env.scope x:=by first | exact Or.inl rfl | exact Or.inr (Or.inl rfl) | exact Or.inr (Or.inr rfl)) (hd:(x==("__debug__" : Str))=false:=by decide) (hcd:(x==("__classdict__" : Str))=false:=by decide) :
  E X B (.Call (.Attribute (.Name x npos) "get" apos) [e,e2] [] cpos) (qG i g h) :=
 PE.imp (Cs (Room.one hr) (mS hN hv hd hcd) he hf m) λ σ H Q ⟨F,η,d,sr,hd,q⟩=>by
  unfold qG at hd;split at hd
  ·rename_i kvs ed;obtain ⟨y,hy,hd⟩:=ab hd;obtain ⟨z,hz,hd⟩:=ab hd;obtain ⟨k,hk,hd⟩:=ab hd;cases hd;obtain ⟨p,ks,e1,e2,e3,e4,e5⟩:=sr.en.odc i kvs ed;refine ⟨_,e1,p,rfl,.inl ⟨ks,.inl e4⟩,F,η,y,sr,hy,λ vy F2 H2 g2 ry=>⟨F2,η,z,sr.grow g2,hz,λ vz F3 H3 g3 rz=>?_⟩⟩
   have:=zN hk ry
   subst this;refine ⟨_,DGet.k (g3.hh _ _ (g2.hh _ _ e4)),?_⟩;have lk:=(e5.mono (g2.ff.trans g3.ff)).look k;cases hl:ng (prs kvs) k with
   | some d' =>
    obtain ⟨x',q1,q2⟩:=lk.1 d' hl;rw [q1];rw [hl] at q;exact q _ F3 H3 (g2.trans g3) q2
   | none =>
    rw [lk.2 hl];rw [hl] at q;exact q _ F3 H3 (g2.trans g3) rz
  ·cases hd
noncomputable def wY (i:Nat) (g h:En->Option K5):En->Option Out:=λ η=>(h η).bind λ d=>(g η).bind λ y=>(qV y).bind λ k=>match η[i]? with
 | some (.odc kvs)=>if kvs.length < Li then some (.nx (η.set i (.odc (A5 kvs k d)))) else none
 | _=>none
theorem S.putD {k:Nat} (i:Nat) (hr:Room k X.A) {x:Str} (he:E X B e g) (hf:E X B e2 h) (hs:swapsWith e2 (some (.Subscript (.Name x npos) e pos')) pos.line X.env=pure false:=by rfl) (hN:X.N[i]?=some x:=by rfl) (hv:Vis X.env.scope x:=by first | exact Or.inl rfl | exact Or.inr (Or.inl rfl) | exact Or.inr (Or.inr rfl)) (hd:(x==("__debug__" : Str))=false:=by decide) (hcd:(x==("__classdict__" : Str))=false:=by decide) :
  S X B (.Assign [.Subscript (.Name x npos) e pos'] e2 pos) (wY i g h) :=
 PS.imp (Ew (Room.one hr) (mS hN hv hd hcd) he hf hs) λ D σ H ⟨F,η,o,sr,hd,q⟩=>by
  obtain ⟨d,h1,hd⟩:=ab hd;obtain ⟨y,h2,hd⟩:=ab hd;obtain ⟨k,hk,hd⟩:=ab hd;split at hd
  ·rename_i kvs ed;split at hd
   ·rename_i hz;cases hd;refine ⟨F,η,d,sr,h1,λ vd F1 H1 g1 rd=>?_⟩;obtain ⟨p,ks,e1,e2,e3,e4,e5⟩:=(sr.grow g1).en.odc i kvs ed;refine ⟨_,e1,F1,η,y,sr.grow g1,h2,λ vy F2 H2 g2 ry=>?_⟩
    have:=zN hk ry
    subst this;have sr2:=(sr.grow g1).grow g2;have q4:H2 p=some (.dK ks):=g2.hh _ _ e4;have q5:=e5.mono g2.ff;have q2:F2 p=none:=by
     obtain ⟨p',ks',f1,f2,_⟩:=sr2.en.odc i kvs ed;rw [e1] at f1;have ep:p=p':=by injection (Option.some.inj (Option.some.inj f1))
     rw [ep]; exact f2
    refine ⟨p,_,rfl,DPut.k q4 (by rw [q5.length]; exact hz),?_⟩;refine q σ F2 _ ⟨⟨sr2.gr.ff,λ c u z=>?_,λ c u z=>?_,sr2.gr.new⟩,sr2.en.putCell ed rfl rfl e1 ⟨_,rfl,RelD.put (rd.mono g2.ff) q5⟩⟩ (g1.ff.trans g2.ff)
    ·have nb:c≠p:=aR z e3;rw [aE nb]; exact sr2.gr.hh c u z
    ·have nb:c≠p:=aR z q2;rw [aE nb]; exact sr2.gr.fh c u z
   ·cases hd
  ·cases hd
end
section
variable {X:Cx}
variable {B:Bd} {a:Expr} {f:En->Option K5} {pos:Pos}
end
section
variable {K:K6} {F F':Hp}
theorem Dn {d:K5} {v:V} (h:je d=true) (r:Rel K F' d v):Rel K F d v:=by
 cases d with
 | none=>rw [r.non]; exact pB
 | bool b=>rw [r.bl]; exact ef
 | int i=>rw [r.int]; exact cZ
 | str x=>rw [r.str]; exact jP
 | list ds=>cases h
 | tuple ds=>cases h
 | dict es=>cases h
end
theorem Gr.back {F H F1 F' H':Hp} (sm:Same F H) (g:Gr F1 H F' H'):Gr F H F H':=⟨.refl _,g.hh,sm.trans g.hh,λ _ z=>.inl z⟩
section
variable {X:Cx} {B:Bd} {e:Expr} {f:En->Option K5} {fs:En->Option (List K5)} {p:En->Option Bool}
end
section
variable {X:Cx} {B:Bd} {e o:Expr} {f g:En->Option K5} {fs:En->Option (List K5)} {pos pp rp rpos:Pos}
end
theorem Fa {k:Key} {v:Lf} (h:qW k v=true):RelV (kV k) v:=by
 rcases c8 h with ⟨i,t,rfl,rfl⟩ | ⟨x,t,rfl,rfl⟩
 ·exact ⟨t,rfl⟩
 ·exact ⟨t,rfl⟩
section
variable {X:Cx} {B:Bd} {pos npos:Pos} {tg:Expr}
end
section
variable {X:Cx} {B:Bd} {e o:Expr} {f g:En->Option K5} {fs:En->Option (List K5)} {pos pos' pp rp rpos:Pos}
end
section
variable {X:Cx} {B:Bd}
end
section
variable {X:Cx} {B:Bd} {a:Expr} {fs:En->Option (List K5)} {pos pp:Pos}
end
section
variable {X:Cx} {B:Bd} {e:Expr} {f g:En->Option K5} {fs:En->Option (List K5)} {pos pp:Pos}
end
mutual
noncomputable def cst:Expr->Option K5
 | .Constant (.int i) _ _=>some (.int i)
 | .Constant (.str x) _ _=>some (.str x)
 | .Constant (.bool b) _ _=>some (.bool b)
 | .Constant .none _ _=>some .none
 | .UnaryOp .USub a _=>(cst a).bind Cw
 | .Tuple es _ _=>(csts es).bind λ ds=>if ds.length<=1000 then some (.tuple ds) else none
 | .List es _=>(csts es).bind λ ds=>if ds.length<=1000 then some (.list ds) else none
 | _=>none
noncomputable def csts:List Expr->Option (List K5)
 | []=>some []
 | e::r=>(cst e).bind λ d=>(csts r).bind λ ds=>some (d::ds)
end
theorem Fm {e:Expr} {d:K5} (h:cst e=some d):nst e=true:=by
 cases e <;> first | rfl | (unfold cst at h; cases h)
section
variable {X:Cx} {B:Bd}
theorem AO {n:Nat} (h:n<=1000):n<=Li:=LS h (by show 1000<=2 ^ 24; decide)
theorem E.same {e:Expr} {f g:En->Option K5} (h:E X B e f) (k:∀ η,g η=f η):E X B e g:=by
 have:g=f:=funext k
 rw [this]; exact h
theorem A.same {e:List Expr} {f g:En->Option (List K5)} (h:A X B e f) (k:∀ η,g η=f η):A X B e g:=by
 have:g=f:=funext k
 rw [this]; exact h
mutual
theorem zm:∀ {e:Expr} {d:K5},cst e=some d->E X B e (eC d)
 | .Constant (.int i) _ _,d,h=>by unfold cst at h; cases h; exact au
 | .Constant (.str x) _ _,d,h=>by unfold cst at h; cases h; exact eZ
 | .Constant (.bool b) _ _,d,h=>by unfold cst at h; cases h; exact E.bl
 | .Constant .none _ _,d,h=>by unfold cst at h; cases h; exact E.non
 | .UnaryOp .USub a _,d,h=>by
  unfold cst at h;obtain ⟨x,h1,h2⟩:=ab h;exact E.same (E.neg (zm h1)) λ η=>h2.symm
 | .Tuple es _ _,d,h=>by
  unfold cst at h;obtain ⟨ds,h1,h2⟩:=ab h;split at h2
  ·rename_i hl;cases h2;exact E.same (jC (wo h1)) λ η=>(if_pos (AO hl)).symm
  ·cases h2
 | .List es _,d,h=>by
  unfold cst at h;obtain ⟨ds,h1,h2⟩:=ab h;split at h2
  ·rename_i hl;cases h2;refine E.same (cw (f6 (wo h1))) λ η=>?_;show some (PyData.list ds)=((gL ds).bind λ ds=>some (PyData.list ds));unfold gL;rw [if_pos (AO hl)]; rfl
  ·cases h2
theorem wo:∀ {es:List Expr} {ds:List K5},csts es=some ds->A X B es (λ _=>some ds)
 | [],ds,h=>by unfold csts at h; cases h; exact ag
 | e::r,ds,h=>by
  unfold csts at h;obtain ⟨d,h1,h⟩:=ab h;obtain ⟨ds',h2,h⟩:=ab h;cases h;exact A.same (ac (zm h1) (wo h2) (bD (Fm h1))) λ η=>rfl
end
theorem E.cst {e:Expr} {d:K5} (h:PU.cst e=some d):E X B e (eC d):=zm h
end
noncomputable def Itz (K:K6) (l1 l2:Lz) (n:Nat):It :=
 ⟨λ i H=>i < n/\∃ xs ys x y,SqL K H l1 xs/\SqL K H l2 ys/\min xs.length ys.length=n/\xs[i]?=some x/\ys[i]?=some y,λ i H v H'=>∃ T x y,H T=none/\(∀ xs,SqL K H l1 xs->xs[i]?=some x)/\(∀ ys,SqL K H l2 ys->ys[i]?=some y)/\v=.ref T/\H'=upd H T (.tup [x,y]),λ i H=>i=n/\∃ xs ys,SqL K H l1 xs/\SqL K H l2 ys/\min xs.length ys.length=n⟩
theorem BP {P:LM} {w:World} {K:K6} {elts:List Expr} {k:Nat} {tp:Pos} {z TI TO i1 i2 l1 l2:Lz} {n:Nat} (D:ZipApart z TI TO i1 i2 l1 l2) :
  Turn P w K (.Tuple elts k tp) (Itz K l1 l2 n) [z,TI,TO,i1,i2] z (λ i h=>IsZip h z TI TO .none/\IsPair h TI (.ref i1) (.ref i2)/\(∃ a b,IsPair h TO a b)/\h.IsListIter i1 l1 i/\h.IsListIter i2 l2 i) where
 mem:=by simp
 obj:=λ i h st b hb=>by
  obtain ⟨hz,h1,⟨a,c,h2⟩,h3,h4⟩:=st;simp only [LA,Mh,or_false] at hb;rcases hb with rfl | rfl | rfl | rfl | rfl
  ·exact ⟨_,hz,λ v z=>by cases z⟩
  ·exact ⟨_,h1,λ v z=>by cases z⟩
  ·exact ⟨_,h2,λ v z=>by cases z⟩
  ·obtain ⟨o,ho,hcl,hd⟩:=h3;exact ⟨o,ho,λ v z=>by rw [hd] at z; cases z⟩
  ·obtain ⟨o,ho,hcl,hd⟩:=h4;exact ⟨o,ho,λ v z=>by rw [hd] at z; cases z⟩
 keep:=λ i h h' st kk=>by
  obtain ⟨hz,h1,⟨a,c,h2⟩,h3,h4⟩:=st;exact ⟨kk z (by simp) _ hz,kk TI (by simp) _ h1,⟨a,c,kk TO (by simp) _ h2⟩,h3.at λ o q=>kk i1 (by simp) o q,h4.at λ o q=>kk i2 (by simp) o q⟩
 item:=by
  intro X hP hw hK hc i pins s σ H E I hf st hg;subst hP hw hK;obtain ⟨hin,xs,ys,x,y,hq1,hq2,hxl,hx,hy⟩:=hg;obtain ⟨its1,rv1,pl1,hz1⟩:=I.list hq1;obtain ⟨its2,rv2,pl2,hz2⟩:=I.list hq2;obtain ⟨u1,hu1,ru1⟩:=rv1.get hx;obtain ⟨u2,hu2,ru2⟩:=rv2.get hy;have hlen:min its1.toArray.size its2.toArray.size=n:=by rw [Ls,Ls,<- rv1.length,<- rv2.length]; exact hxl
  have W:=WalksT.zip2 (prog:=X.prog) (w:=X.w) (A:=X.A) (I.ok.hd hc) z TI TO i1 i2 l1 l2 D its1.toArray its2.toArray;obtain ⟨s1,s2,s3,s4,s5⟩:=st;refine W.item i s _ _ (by rw [hlen]; exact hin) ⟨s1,s2,s3,s4,s5,pl1.isList,pl2.isList⟩ λ T vals h' tk Pt hT hIs Md kp=>⟨.ref T,rfl,?_⟩;refine W.go elts k tp i T _ _ _ Md λ h'' st'' kp''=>?_;obtain ⟨xv,yv,hxv,hyv,rfl⟩:=Pt;have exu:xv=u1:=by
   have:its1.toArray[i]?=some u1:=by simpa using hu1
   rw [this] at hxv;exact (Option.some.inj hxv).symm
  have eyu:yv=u2:=by
   have:its2.toArray[i]?=some u2:=by simpa using hu2
   rw [this] at hyv;exact (Option.some.inj hyv).symm
  subst exu eyu;have nT:H T=none:=I.hok.fresh hT;have aT0:T∉[z,TO,i1,i2]:=W.apart i T _ Md;have ltT:∀ b o,s.heap.get? b=some o->b≠T:=λ b o q=>LP (LF (Ly q) hT);have aT:T∉[z,TI,TO,i1,i2]:=λ hb=>by
   simp only [LA,Mh,or_false,not_or] at hb aT0;rcases hb with e | e | e | e | e
   ·exact aT0.1 e
   ·exact ltT TI _ s2 e.symm
   ·exact aT0.2.1 e
   ·exact aT0.2.2.1 e
   ·exact aT0.2.2.2 e
  have wr:∀ b,b∉[z,TI,TO,i1,i2]->b∉[z,TO,i1,i2]:=λ b hb hm=>hb (by simp only [LA,Mh,or_false] at hm ⊢; rcases hm with e | e | e | e <;> simp [e]);have kall:∀ b o,b∉[z,TI,TO,i1,i2]->s.heap.get? b=some o->h''.get? b=some o:=λ b o hb q=>kp'' b o (wr b hb) (kp b o (wr b hb) q);have hIs'':IsTup h'' T #[xv,yv]:=by
   obtain ⟨o,ho,hcl,n,hd⟩:=hIs;exact ⟨o,kp'' T o aT0 ho,hcl,n,hd⟩
  have nfp:∀ b o,H b=some o->b∉[z,TI,TO,i1,i2]:=λ b o q hb=>by rw [(hf b hb).1] at q; cases q
  have J:Inv X pins σ (upd H T (.tup [x,y])) { s with heap:=h'',toks:=tk }:=by
   refine I.step (h':=h'') (g':=s.gens) (d':=s.drawn) (t':=tk) (ch:=[z,TI,TO,i1,i2]) (λ b hb=>⟨(hf b hb).2.2.2.1,(hf b hb).2.1,(hf b hb).2.2.2.2.1,(hf b hb).2.2.2.2.2⟩)
    (λ b o _ _ hb q _=>kall b o hb q) (λ b o _ _ hb q _=>⟨o.slots,kall b o hb q⟩) (λ b o _ q n=>by rw [aE (ltT b o q)]; exact n) (λ b o hb q=>⟨o,kall b o hb q⟩)
    (λ b xs q=>by rw [aE (aR q nT)]; exact q) (λ b o xs q=>by rw [aE (aR q nT)]; exact q) (λ b ps q=>⟨#[],by rw [aE (aR q nT),q]; simp⟩) (λ m hm=>?_) (λ b o q=>?_) I.bare
   ·obtain ⟨o,es,ep,ho,r⟩:=hm;refine ⟨o,es,ep,kall _ o (λ hb=>?_) ho,r⟩;exact (hf _ hb).2.1 rfl
   ·by_cases hb:b=T
    ·subst hb;rw [aX] at q;cases q;exact ⟨by show 2<=Li; decide,[xv,yv],.cons ru1 (.cons ru2 .nil),hIs''⟩
    ·rw [aE hb] at q;refine (I.hok b o q).stay (λ c' v hc' z=>kall c' v ?_ z) (λ c' z=>by rw [aE (aR z nT)]; exact z) λ c' xs z=>by rw [aE (aR z nT)]; exact z
     rcases hc' with rfl | hc'
     ·exact nfp _ _ q
     ·exact nfp _ _ hc'
  refine ⟨.ref T,upd H T (.tup [x,y]),J,rfl,⟨T,x,y,nT,λ zs hz=>by rw [I.list_inj hz hq1]; exact hx,λ zs hz=>by rw [I.list_inj hz hq2]; exact hy,rfl,rfl⟩,⟨st''.1,st''.2.1,st''.2.2.1,st''.2.2.2.1,st''.2.2.2.2.1⟩,λ b hb=>?_⟩;have nb:b≠T:=λ z=>aT (by rw [<- z]; exact hb);rw [aE nb]; exact (hf b hb).1
 done:=by
  intro X hP hw hK hc i pins s σ H E I hf st hg;subst hP hw hK;obtain ⟨hin,xs,ys,hq1,hq2,hxl⟩:=hg;obtain ⟨its1,rv1,pl1,hz1⟩:=I.list hq1;obtain ⟨its2,rv2,pl2,hz2⟩:=I.list hq2;have hlen:min its1.toArray.size its2.toArray.size=n:=by rw [Ls,Ls,<- rv1.length,<- rv2.length]; exact hxl
  have W:=WalksT.zip2 (prog:=X.prog) (w:=X.w) (A:=X.A) (I.ok.hd hc) z TI TO i1 i2 l1 l2 D its1.toArray its2.toArray;rw [hin,<- hlen] at st;obtain ⟨s1,s2,s3,s4,s5⟩:=st;have wr:∀ b,b∉[z,TI,TO,i1,i2]->b∉[z,TO,i1,i2]:=λ b hb hm=>hb (by simp only [LA,Mh,or_false] at hm ⊢; rcases hm with e | e | e | e <;> simp [e]);refine W.done s _ _ ⟨s1,s2,s3,s4,s5,pl1.isList,pl2.isList⟩ λ h' tk kp=>⟨rfl,?_⟩;have nfp:∀ b o,H b=some o->b∉[z,TI,TO,i1,i2]:=λ b o q hb=>by rw [(hf b hb).1] at q; cases q
  refine I.step (h':=h') (g':=s.gens) (d':=s.drawn) (t':=tk) (ch:=[z,TI,TO,i1,i2]) (λ b hb=>⟨(hf b hb).2.2.2.1,(hf b hb).2.1,(hf b hb).2.2.2.2.1,(hf b hb).2.2.2.2.2⟩)
   (λ b o _ _ hb q _=>kp b o (wr b hb) q) (λ b o _ _ hb q _=>⟨o.slots,kp b o (wr b hb) q⟩) (λ _ _ _ _ n=>n) (λ b o hb q=>⟨o,kp b o (wr b hb) q⟩)
   (λ _ _ q=>q) (λ _ _ _ q=>q) (λ b ps q=>⟨#[],by rw [q]; simp⟩) (λ m hm=>?_) (λ b o q=>?_) I.bare
  ·obtain ⟨o,es,ep,ho,r⟩:=hm;exact ⟨o,es,ep,kp _ o (wr _ λ hb=>(hf _ hb).2.1 rfl) ho,r⟩
  ·refine (I.hok b o q).stay (λ c' v hc' z=>kp c' v (wr _ ?_) z) (λ _ z=>z) λ _ _ z=>z;rcases hc' with rfl | hc'
   ·exact nfp _ _ q
   ·exact nfp _ _ hc'
 self:=λ A i s Q E st h=>wpAny_pyIter_zip st.1 h
section
variable {X:Cx} {B:Bd} {a b:Expr} {fs:En->Option (List K5)} {pos pp:Pos}
noncomputable def zpD:List K5->List K5->List K5
 | x::xs,y::ys=>.tuple [x,y]::zpD xs ys
 | _,_=>[]
noncomputable def zpL (ds:List K5):Option (List K5):=match ds with
 | [.list xs,.list ys]=>some (zpD xs ys)
 | _=>none
theorem vA:∀ xs ys:List K5,(zpD xs ys).length=min xs.length ys.length
 | [],ys=>by simp [zpD]
 | x::xs,[]=>by simp [zpD]
 | x::xs,y::ys=>by rw [zpD,Lu,vA xs ys,Lu,Lu]; omega
theorem zA:∀ (xs ys:List K5) (i:Nat) (d:K5),(zpD xs ys)[i]?=some d->∃ x y,xs[i]?=some x/\ys[i]?=some y/\d=.tuple [x,y]
 | [],ys,i,d,h=>by simp [zpD] at h
 | x::xs,[],i,d,h=>by simp [zpD] at h
 | x::xs,y::ys,0,d,h=>by simp [zpD] at h; exact ⟨x,y,rfl,rfl,h.symm⟩
 | x::xs,y::ys,i+1,d,h=>by
  rw [zpD,List.getElem?_cons_succ] at h;obtain ⟨a,b,h1,h2,h3⟩:=zA xs ys i d h;exact ⟨a,b,by simpa using h1,by simpa using h2,h3⟩
theorem Fe {K:K6} {F:Hp} {l1 l2:Lz} {ds es:List K5} {xs ys:List V} (hq1:SqL K F l1 xs) (hq2:SqL K F l2 ys) (r1:RelL K F ds xs) (r2:RelL K F es ys):ItP K (Itz K l1 l2 (min ds.length es.length)) F (zpD ds es):=λ F1 H1 i s1 s2=>by
 have q1:SqL K H1 l1 xs:=s2.seq (s1.seq hq1);have q2:SqL K H1 l2 ys:=s2.seq (s1.seq hq2);have hl:min xs.length ys.length=min ds.length es.length:=by rw [r1.length,r2.length]
 refine ⟨λ d e=>?_,λ e=>⟨by rw [e,vA],xs,ys,q1,q2,hl⟩⟩;have hi:i < min ds.length es.length:=by
  have:=(Lb.mp e).1
  rwa [vA] at this
 obtain ⟨x,y,h1,h2,h3⟩:=zA _ _ _ _ e;obtain ⟨vx,hx,rx⟩:=r1.get h1;obtain ⟨vy,hy,ry⟩:=r2.get h2;refine ⟨⟨hi,xs,ys,vx,vy,q1,q2,hl,hx,hy⟩,λ v H2 z=>?_⟩;obtain ⟨T,x',y',hT,hxx,hyy,rfl,rfl⟩:=z;have e1:=(hxx xs q1).symm.trans hx;have e2:=(hyy ys q2).symm.trans hy;cases e1;cases e2;subst h3;have g:=Gr.one (o:=.tup [vx,vy]) s2 hT;exact ⟨_,g,iI (SqT.of aX) (.cons (rx.mono (s1.trans g.ff)) (.cons (ry.mono (s1.trans g.ff)) .nil))⟩
end
section
variable {X:Cx} {B:Bd} {a b:Expr} {fs:En->Option (List K5)} {pos pp:Pos}
theorem I.zip {elts:List Expr} {k:Nat} {tp:Pos} (hm:X.mg "zip" = none) (ha:A X B [a,b] fs) (hg:Gl X "zip" := by rfl) (hs:Lj [a,b] X.env=(false,eval a X.env)::Lj [b] X.env:=by exact bD rfl) (hpl:(backTo pos (Lj [b] X.env)).any (·.1)=false:=by exact iJ rfl) :
  I X B (.Tuple elts k tp) (.Call (.Name "zip" pp) [a,b] [] pos) (λ η=>(fs η).bind zpL):=by
 intro pins s σ H R I ⟨F,η,ds,sr,hd,q⟩;obtain ⟨es,h1,hd⟩:=ab hd;unfold zpL at hd;split at hd
 ·rename_i x y;cases hd;refine Call_ (nh I hg hm boot_zip (PyProof.Rows.callWith_type1 (thn (ha pos pins s σ H (λ vs H1=>∃ F',Gr F H F' H1/\RelL X.K F' [.list x,.list y] vs) I ⟨F,η,_,sr,h1,λ vs F' H' g r=>⟨F',g,r⟩⟩) λ us s1 ⟨vs,H1,I1,r1,F1,g1,rl⟩=>?_) hs hpl));obtain ⟨v1,r,rfl,ry1,rr⟩:=rl.cons_of;obtain ⟨v2,r',rfl,ry2,rr⟩:=rr.cons_of;obtain rfl:=rr.nil_of;obtain ⟨p1,xs,rfl,hq1,rs1⟩:=ry1.lst;obtain ⟨p2,ys,rfl,hq2,rs2⟩:=ry2.lst;obtain ⟨u1,u2,rfl,ru1,ru2⟩:=BK r1;cases ru1;cases ru2;obtain ⟨its1,rv1,pl1,hz1⟩:=I1.list (g1.fh.seq hq1);obtain ⟨its2,rv2,pl2,hz2⟩:=I1.list (g1.fh.seq hq2);have hpl1:p1 < s1.heap.objs.size:=by
   obtain ⟨o,ho,_⟩:=pl1.isList;exact Ly ho
  have hpl2:p2 < s1.heap.objs.size:=by
   obtain ⟨o,ho,_⟩:=pl2.isList;exact Ly ho
  refine call_zip_2 pl1.isList pl2.isList λ h' hz hTI hTO hi1 hi2 hsz hk=>?_;refine wpAny_pyIter_zip hz ?_;have I2:Inv X pins σ H1 { s1 with heap:=h' }:=I1.kept (t':=s1.toks) hk;have nw:∀ b,s1.heap.objs.size<=b->o4 X pins H1 b:=λ b hb=>I1.fpOk hb (I1.hok.fresh hb);have fpo:∀ b∈[s1.heap.objs.size+4,s1.heap.objs.size+2,s1.heap.objs.size+3,s1.heap.objs.size,s1.heap.objs.size+1],o4 X pins H1 b:=λ b hb=>nw b (by
   simp only [LA,Mh,or_false] at hb;rcases hb with rfl | rfl | rfl | rfl | rfl <;> omega)
  exact ⟨_,_,_,_,H1,rfl,I2,BP (n:=min x.length y.length) (zipApart_new hpl1 hpl2),⟨hz,hTI,⟨_,_,hTO⟩,hi1,hi2⟩,fpo,q _ F1 H1 g1 (Fe hq1 hq2 rs1 rs2)⟩
 ·cases hd
end
section
variable {X:Cx} {B:Bd} {e:Expr} {fs:En->Option (List K5)} {pos pp:Pos}
end
inductive D where
 | d (x:K5)
 | r (n:Nat)
inductive Cell where
 | obj (k:Nat) (fs:List (Str×D))
 | lst (ds:List D)
 | dct (kvs:List (Key×D))
 | fz (x:K5)
noncomputable abbrev Sto:=List Cell
noncomputable abbrev MEn:=List (Option D)
noncomputable def DR (K:K6) (θ:List Lz) (F:Hp):D->V->Prop
 | .d x,v=>Rel K F x v
 | .r n,v=>∃ a,θ[n]?=some a/\v=.ref a
noncomputable abbrev DRs (K:K6) (θ:List Lz) (F:Hp):List D->List V->Prop:=Paired (DR K θ F)
noncomputable abbrev DRf (K:K6) (θ:List Lz) (F:Hp):List (Str×D)->List (Str×V)->Prop:=Paired λ p q=>p.1=q.1/\DR K θ F p.2 q.2
noncomputable abbrev DRk (K:K6) (θ:List Lz) (F:Hp):List (Key×D)->List (Key×V)->Prop:=Paired λ p q=>p.1=q.1/\DR K θ F p.2 q.2
noncomputable def CelR (K:K6) (cl:Nat->Lz) (θ:List Lz) (F H:Hp) (a:Lz):Cell->Prop
 | .obj k fs=>F a=none/\Cls K (cl k)/\(∀ f∈fs.map (·.1),NoAttr K (cl k) f)/\∃ dx xs,H a=some (.ins (cl k) dx xs)/\DRf K θ F fs xs
 | .lst ds=>F a=none/\∃ xs,H a=some (.lst xs)/\DRs K θ F ds xs
 | .dct kvs=>F a=none/\∃ ks,H a=some (.dK ks)/\DRk K θ F kvs ks
 | .fz x=>Rel K F x (.ref a)/\∃ o,H a=some o
structure MR (K:K6) (cl:Nat->Lz) (θ:List Lz) (F H:Hp) (s:Sto):Prop where
 sm:Same F H
 len:θ.length=s.length
 nd:θ.Nodup
 cel:∀ (n:Nat) a c,θ[n]?=some a->s[n]?=some c->CelR K cl θ F H a c
structure MV (K:K6) (θ:List Lz) (F:Hp) (σ:St) (η:MEn):Prop where
 len:η.length=σ.length
 val:∀ (i:Nat) d,η[i]?=some (some d)->∃ v,σ[i]?=some (some v)/\DR K θ F d v
section
variable {K:K6} {cl:Nat->Lz} {θ θ':List Lz} {F F' H H':Hp} {s:Sto} {σ:St} {η:MEn}
theorem sh {α:Type} {l l':List α} (h:l<+:l') {n:Nat} {a:α} (e:l[n]?=some a):l'[n]?=some a:=by
 obtain ⟨t,rfl⟩:=h;rw [Lw (Lb.mp e).1]; exact e
theorem DR.mono (hp:θ<+:θ') (hs:Same F F'):∀ {d:D} {v:V},DR K θ F d v->DR K θ' F' d v
 | .d _,_,h=>Rel.mono hs h
 | .r _,_,⟨a,e1,e2⟩=>⟨a,sh hp e1,e2⟩
theorem DRs.mono (hp:θ<+:θ') (hs:Same F F') {ds:List D} {vs:List V} (h:DRs K θ F ds vs):DRs K θ' F' ds vs:=Paired.mapP h λ _ _ r=>DR.mono hp hs r
theorem DRf.mono (hp:θ<+:θ') (hs:Same F F') {ds:List (Str×D)} {vs:List (Str×V)} (h:DRf K θ F ds vs):DRf K θ' F' ds vs:=Paired.mapP h λ _ _ r=>⟨r.1,DR.mono hp hs r.2⟩
theorem DRk.mono (hp:θ<+:θ') (hs:Same F F') {ds:List (Key×D)} {vs:List (Key×V)} (h:DRk K θ F ds vs):DRk K θ' F' ds vs:=Paired.mapP h λ _ _ r=>⟨r.1,DR.mono hp hs r.2⟩
theorem MV.mono (hp:θ<+:θ') (hs:Same F F') (h:MV K θ F σ η):MV K θ' F' σ η:=⟨h.len,λ i d e=>let ⟨v,e1,e2⟩:=h.val i d e; ⟨v,e1,e2.mono hp hs⟩⟩
theorem MV.set (h:MV K θ F σ η) (i:Nat) {d:D} {v:V} (r:DR K θ F d v):MV K θ F (σ.set i (some v)) (η.set i (some d)):=by
 refine ⟨by rw [LC,LC]; exact h.len,λ j d' e=>?_⟩;by_cases hj:i=j
 ·subst hj;by_cases hl:i < η.length
  ·rw [Lr hl] at e;have e':d=d':=Option.some.inj (Option.some.inj e);subst e';exact ⟨v,by rw [Lr (by rw [<- h.len]; exact hl)],r⟩
  ·rw [LN (by rw [LC]; omega)] at e; cases e
 ·rw [Ld hj] at e ⊢; exact h.val j d' e
theorem DRs.get {ds:List D} {vs:List V} (h:DRs K θ F ds vs) {i:Nat} {d:D} (e:ds[i]?=some d):∃ v,vs[i]?=some v/\DR K θ F d v:=by
 induction h generalizing i with
 | nil=>simp at e
 | @cons a b as bs r t ih =>
  cases i with
  | zero=>simp at e; subst e; exact ⟨b,rfl,r⟩
  | succ i=>exact ih (by simpa using e)
theorem MR.grow (m:MR K cl θ F H s) (g:Gr F H F' H'):MR K cl θ F' H' s where
 sm:=g.fh
 len:=m.len
 nd:=m.nd
 cel:=λ n a c e1 e2=>by
  have q:=m.cel n a c e1 e2;have fr:F a=none->∀ o,H a=some o->F' a=none:=λ hF o hH=>by
   cases z:F' a with
   | none=>rfl
   | some u =>
    rcases g.new a (by rw [z]; simp) with y | y
    ·exact absurd hF y
    ·rw [hH] at y; cases y
  cases c with
  | obj k fs =>
   obtain ⟨h1,h2,h3,dx,xs,h4,h5⟩:=q;exact ⟨fr h1 _ h4,h2,h3,dx,xs,g.hh _ _ h4,h5.mono (LO _) g.ff⟩
  | lst ds =>
   obtain ⟨h1,xs,h4,h5⟩:=q;exact ⟨fr h1 _ h4,xs,g.hh _ _ h4,h5.mono (LO _) g.ff⟩
  | dct kvs =>
   obtain ⟨h1,xs,h4,h5⟩:=q;exact ⟨fr h1 _ h4,xs,g.hh _ _ h4,h5.mono (LO _) g.ff⟩
  | fz x=>exact ⟨Rel.mono g.ff q.1,let ⟨o,e⟩:=q.2; ⟨o,g.hh _ _ e⟩⟩
noncomputable def Mu:Cell->Bool
 | .fz _=>false
 | _=>true
theorem CelR.mut {a:Lz} {c:Cell} (h:CelR K cl θ F H a c) (hm:Mu c=true):F a=none/\∃ o,H a=some o:=by
 cases c with
 | obj k fs=>obtain ⟨h1,_,_,dx,xs,h4,_⟩:=h; exact ⟨h1,_,h4⟩
 | lst ds=>obtain ⟨h1,xs,h4,_⟩:=h; exact ⟨h1,_,h4⟩
 | dct kvs=>obtain ⟨h1,xs,h4,_⟩:=h; exact ⟨h1,_,h4⟩
 | fz x=>cases hm
theorem CelR.else {a b:Lz} {o:HO} {c:Cell} (h:CelR K cl θ F H a c) (hne:a≠b):CelR K cl θ F (upd H b o) a c:=by
 cases c with
 | obj k fs=>obtain ⟨h1,h2,h3,dx,xs,h4,h5⟩:=h; exact ⟨h1,h2,h3,dx,xs,by rw [aE hne]; exact h4,h5⟩
 | lst ds=>obtain ⟨h1,xs,h4,h5⟩:=h; exact ⟨h1,xs,by rw [aE hne]; exact h4,h5⟩
 | dct kvs=>obtain ⟨h1,xs,h4,h5⟩:=h; exact ⟨h1,xs,by rw [aE hne]; exact h4,h5⟩
 | fz x=>exact ⟨h.1,let ⟨o,e⟩:=h.2; ⟨o,by rw [aE hne]; exact e⟩⟩
theorem CelR.pre {a:Lz} {c:Cell} (hp:θ<+:θ') (h:CelR K cl θ F H a c):CelR K cl θ' F H a c:=by
 cases c with
 | obj k fs=>obtain ⟨h1,h2,h3,dx,xs,h4,h5⟩:=h; exact ⟨h1,h2,h3,dx,xs,h4,h5.mono hp (.refl _)⟩
 | lst ds=>obtain ⟨h1,xs,h4,h5⟩:=h; exact ⟨h1,xs,h4,h5.mono hp (.refl _)⟩
 | dct kvs=>obtain ⟨h1,xs,h4,h5⟩:=h; exact ⟨h1,xs,h4,h5.mono hp (.refl _)⟩
 | fz x=>exact h
theorem FN {l:List Lz} (h:l.Nodup) {i j:Nat} {a b:Lz} (e1:l[i]?=some a) (e2:l[j]?=some b) (hne:i≠j):a≠b:=λ z=>by
 subst z;obtain ⟨l1,q1⟩:=Lb.mp e1;obtain ⟨l2,q2⟩:=Lb.mp e2;have pw:=List.pairwise_iff_getElem.mp h;rcases Nat.lt_or_gt_of_ne hne with z | z
 ·exact pw i j l1 l2 z (q1.trans q2.symm)
 ·exact pw j i l2 l1 z (q2.trans q1.symm)
theorem MR.put (m:MR K cl θ F H s) {n:Nat} {a:Lz} {c c':Cell} {o:HO} (e1:θ[n]?=some a) (e2:s[n]?=some c) (hm:Mu c=true) (h:CelR K cl θ F (upd H a o) a c'):MR K cl θ F (upd H a o) (s.set n c') where
 sm:=λ b u q=>by
  have nb:b≠a:=aR q (CelR.mut (m.cel n a c e1 e2) hm).1;rw [aE nb]; exact m.sm b u q
 len:=by rw [LC]; exact m.len
 nd:=m.nd
 cel:=λ k b c2 f1 f2=>by
  by_cases hk:n=k
  ·subst hk;rw [Lr (Lb.mp e2).1] at f2;cases f2;rw [e1] at f1;cases f1;exact h
  ·rw [Ld hk] at f2;exact (m.cel k b c2 f1 f2).else (FN m.nd f1 e1 (Ne.symm hk))
theorem CelR.there {a:Lz} {c:Cell} (h:CelR K cl θ F H a c):∃ o,H a=some o:=by
 cases c with
 | obj k fs=>obtain ⟨_,_,_,dx,xs,h4,_⟩:=h; exact ⟨_,h4⟩
 | lst ds=>obtain ⟨_,xs,h4,_⟩:=h; exact ⟨_,h4⟩
 | dct kvs=>obtain ⟨_,xs,h4,_⟩:=h; exact ⟨_,h4⟩
 | fz x=>exact h.2
theorem MR.ne (m:MR K cl θ F H s) {a:Lz} (ha:H a=none) {k:Nat} {b:Lz} (e:θ[k]?=some b):b≠a:=λ z=>by
 subst z;have hk:k < s.length:=by rw [<- m.len]; exact (Lb.mp e).1
 obtain ⟨o,h⟩:=(m.cel k b _ e (K9 hk)).there;rw [ha] at h; cases h
theorem MR.new (m:MR K cl θ F H s) {a:Lz} {c:Cell} {o:HO} (ha:H a=none) (h:CelR K cl (θ++[a]) F (upd H a o) a c):MR K cl (θ++[a]) F (upd H a o) (s++[c]) where
 sm:=λ b u q=>by
  have nb:b≠a:=aR q (m.sm.free ha);rw [aE nb]; exact m.sm b u q
 len:=by rw [Lm,Lm,m.len]; rfl
 nd:=by
  rw [M4];refine ⟨m.nd,by simp,λ b hb b' hb'=>?_⟩;rw [LD.mp hb'];obtain ⟨k,hk⟩:=MB hb;exact m.ne ha hk
 cel:=λ k b c2 f1 f2=>by
  by_cases hk:k < θ.length
  ·rw [Lw hk] at f1;rw [Lw (by rw [<- m.len]; exact hk)] at f2;exact ((m.cel k b c2 f1 f2).else (m.ne ha f1)).pre (Nf _ _)
  ·have hk1:k=θ.length:=by
    have:=(Lb.mp f1).1
    rw [Lm] at this;have e1:[a].length=1:=rfl;omega
   subst hk1;rw [Lx (Lp _),Mc] at f1;rw [Lx (by rw [m.len]; exact Lp _),m.len,Mc] at f2;cases f1;cases f2;exact h
theorem MR.more (m:MR K cl θ F H s) {a:Lz} {o:HO} (ha:H a=none):MR K cl θ F (upd H a o) s where
 sm:=λ b u q=>by
  have nb:b≠a:=aR q (m.sm.free ha);rw [aE nb]; exact m.sm b u q
 len:=m.len
 nd:=m.nd
 cel:=λ k b c f1 f2=>(m.cel k b c f1 f2).else (m.ne ha f1)
end
structure Wd where
 η:MEn
 s:Sto
noncomputable def pD (s:Sto):D->Option K5
 | .d x=>some x
 | .r n=>match s[n]? with | some (.fz x)=>some x | _=>none
noncomputable def FV:D->Option K5
 | .d x=>some x
 | .r _=>none
noncomputable def tW:List D->Option (List K5)
 | []=>some []
 | d::r=>(FV d).bind λ x=>(tW r).bind λ xs=>some (x::xs)
noncomputable def Dv:List (Key×D)->Option (List (Key×K5))
 | []=>some []
 | (k,d)::r=>(FV d).bind λ x=>(Dv r).bind λ xs=>some ((k,x)::xs)
noncomputable def lD (s:Sto):D->Option K5
 | .d x=>some x
 | .r n=>match s[n]? with
  | some (.fz x)=>some x
  | some (.lst ds)=>(tW ds).bind λ xs=>some (.list xs)
  | some (.dct kvs)=>(Dv kvs).bind λ xs=>some (.dict (prs xs))
  | _=>none
noncomputable def vwS (g:D->Option K5) (s:Sto):Option D->Sl
 | none=>.un
 | some (.d x)=>.val x
 | some (.r n)=>match s[n]? with
  | some (.obj _ fs)=>.ob λ f=>(fs.lookup f).bind g
  | _=>match g (.r n) with | some x=>.val x | none=>.un
noncomputable def vw (w:Wd):En:=w.η.map (vwS (pD w.s) w.s)
section
variable {K:K6} {cl:Nat->Lz} {θ θ':List Lz} {F F' H H':Hp} {s:Sto} {σ:St} {η:MEn} {w:Wd}
theorem DRf.look {fs:List (Str×D)} {xs:List (Str×V)} (h:DRf K θ F fs xs) (f:Str):(∀ d,fs.lookup f=some d->∃ v,xs.lookup f=some v/\DR K θ F d v)/\(fs.lookup f=none->xs.lookup f=none):=by
 induction h with
 | nil=>exact ⟨λ d e=>(by cases e),λ _=>rfl⟩
 | @cons a b as bs r t ih =>
  obtain ⟨ka,da⟩:=a;obtain ⟨kb,vb⟩:=b;have e:ka=kb:=r.1;subst e;by_cases hk:f=ka
  ·subst hk;simp only [List.lookup_cons_self];exact ⟨λ d e=>(by cases e; exact ⟨vb,rfl,r.2⟩),λ e=>(by cases e)⟩
  ·have hb:(f==ka)=false:=by simpa using hk
   simp only [MK,hb];exact ih
theorem xJ {fs:List (Str×D)} {f:Str} {d:D} (h:fs.lookup f=some d):f∈fs.map (·.1):=by
 induction fs with
 | nil=>cases h
 | cons a r ih =>
  obtain ⟨k,x⟩:=a;by_cases hk:f=k
  ·subst hk; simp
  ·have hb:(f==k)=false:=by simpa using hk
   simp only [MK,hb] at h;exact La _ (ih h)
noncomputable def Sees (K:K6) (θ:List Lz) (F Fv:Hp) (g:D->Option K5):Prop:=∀ d x v,g d=some x->DR K θ F d v->Rel K Fv x v
theorem HW {g:D->Option K5} {Fv:Hp} (m:MR K cl θ F H s) (e:MV K θ F σ η) (hs:Same Fv H) (hg:Sees K θ F Fv g) (hd:∀ x,g (.d x)=some x):SR K ⟨Fv,H⟩ Fv H σ (η.map (vwS g s)):=by
 have no:∀ (i:Nat) a,(η.map (vwS g s))[i]?=some a->jd a=false:=λ i a q=>by
  rw [Le] at q;cases h:η[i]? with
  | none=>rw [h] at q; cases q
  | some o =>
   rw [h] at q;have q':vwS g s o=a:=Option.some.inj q;subst q';unfold vwS
   split
   ·rfl
   ·rfl
   ·split
    ·rfl
    ·split <;> rfl
 refine ⟨.refl hs,⟨by rw [K7]; exact e.len,λ i x q=>?_,λ i a q ha=>(by rw [no i a q] at ha; cases ha),λ i _ a _ q _ ha _ _=>(by rw [no i a q] at ha; cases ha),λ i fs q=>?_⟩⟩
 ·rw [Le] at q;cases h:η[i]? with
  | none=>rw [h] at q; cases q
  | some o =>
   rw [h] at q;have q':vwS g s o=.val x:=Option.some.inj q;unfold vwS at q';split at q'
   ·cases q'
   ·rename_i y
    have:y=x:=by injection q'
    subst this;obtain ⟨v,e1,e2⟩:=e.val i _ h;exact ⟨v,e1,hg _ _ _ (hd y) e2⟩
   ·rename_i n;split at q'
    ·cases q'
    ·split at q'
     ·rename_i y hy
      have:y=x:=by injection q'
      subst this;obtain ⟨v,e1,e2⟩:=e.val i _ h;exact ⟨v,e1,hg _ _ _ hy e2⟩
     ·cases q'
 ·rw [Le] at q;cases h:η[i]? with
  | none=>rw [h] at q; cases q
  | some o =>
   rw [h] at q;have q':vwS g s o=.ob fs:=Option.some.inj q;unfold vwS at q';split at q'
   ·cases q'
   ·cases q'
   ·rename_i n;split at q'
    ·rename_i k fs0 hc
     have:(λ f=>(fs0.lookup f).bind g)=fs:=by injection q'
     subst this;obtain ⟨v,e1,a,e2,e3⟩:=e.val i _ h;subst e3;obtain ⟨h1,h2,h3,dx,xs,h4,h5⟩:=m.cel n a _ e2 hc;refine ⟨a,cl k,dx,xs,e1,h4,h2,λ f d hf=>?_⟩;obtain ⟨D',hl,hx⟩:=ab hf;obtain ⟨v,e5,e6⟩:=(h5.look f).1 D' hl;exact ⟨h3 f (xJ hl),v,e5,hg _ _ _ hx e6⟩
    ·split at q' <;> cases q'
theorem B1 (m:MR K cl θ F H s):Sees K θ F F (pD s):=λ d x v h r=>by
 cases d with
 | d y=>cases h; exact r
 | r n =>
  have h:(match s[n]? with | some (.fz x)=>some x | _=>none)=some x:=h;split at h
  ·rename_i y hy;cases h;obtain ⟨a,e1,e2⟩:=r;subst e2;exact (m.cel n a _ e1 hy).1
  ·cases h
theorem MR.vw (m:MR K cl θ F H w.s) (e:MV K θ F σ w.η):SR K ⟨F,H⟩ F H σ (vw w):=HW m e m.sm (B1 m) λ _=>rfl
noncomputable def qS (θ:List Lz) (F H:Hp):Hp:=λ b=>match F b with | some o=>some o | none=>if b∈θ then H b else none
theorem E8 (θ:List Lz) (F H:Hp):Same F (qS θ F H):=λ b u q=>by unfold qS; rw [q]
theorem E9 {θ:List Lz} {F H:Hp} (h:Same F H):Same (qS θ F H) H:=λ b u q=>by
 unfold qS at q;split at q
 ·rename_i o ho; rw [<- q]; exact h _ _ ho
 ·split at q
  ·exact q
  ·cases q
theorem Au {θ:List Lz} {F H:Hp} {n:Nat} {a:Lz} {o:HO} (e:θ[n]?=some a) (hF:F a=none) (hH:H a=some o):qS θ F H a=some o:=by
 unfold qS;rw [hF];dsimp only;rw [if_pos (LG e)]; exact hH
theorem x5 {ds:List D} {xs:List V} (h:DRs K θ F ds xs):∀ {ys:List K5},tW ds=some ys->RelL K F ys xs:=by
 induction h with
 | nil=>intro ys e; cases e; exact .nil
 | @cons a b as bs r t ih =>
  intro ys e;unfold tW at e;obtain ⟨x,h1,e⟩:=ab e;obtain ⟨zs,h2,e⟩:=ab e;cases e;cases a with
  | d y=>cases h1; exact .cons r (ih h2)
  | r n=>cases h1
theorem Du {ds:List (Key×D)} {xs:List (Key×V)} (h:DRk K θ F ds xs):∀ {ys:List (Key×K5)},Dv ds=some ys->RelD K F (prs ys) xs:=by
 induction h with
 | nil=>intro ys e; cases e; exact .nil
 | @cons a b as bs r t ih =>
  intro ys e;obtain ⟨ka,da⟩:=a;obtain ⟨kb,vb⟩:=b;have hk:ka=kb:=r.1;subst hk;unfold Dv at e;obtain ⟨x,h1,e⟩:=ab e;obtain ⟨zs,h2,e⟩:=ab e;cases e;cases da with
  | d y=>cases h1; exact RelD.cons r.2 (ih h2)
  | r n=>cases h1
theorem B2 (m:MR K cl θ F H s):Sees K θ F (qS θ F H) (lD s):=λ d x v h r=>by
 have sm:=E8 θ F H;cases d with
 | d y=>cases h; exact Rel.mono sm r
 | r n =>
  have h:(match s[n]? with | some (.fz x)=>some x | some (.lst ds)=>(tW ds).bind λ xs=>some (.list xs) | some (.dct kvs)=>(Dv kvs).bind λ xs=>some (.dict (prs xs)) | _=>none)=some x:=h;obtain ⟨a,e1,e2⟩:=r;subst e2;split at h
  ·rename_i y hy;cases h;exact Rel.mono sm (m.cel n a _ e1 hy).1
  ·rename_i ds hy;obtain ⟨ys,h1,h2⟩:=ab h;cases h2;obtain ⟨q1,xs,q2,q3⟩:=m.cel n a _ e1 hy;exact jk (SqL.of (Au e1 q1 q2)) ((x5 q3 h1).mono sm)
  ·rename_i kvs hy;obtain ⟨ys,h1,h2⟩:=ab h;cases h2;obtain ⟨q1,ks,q2,q3⟩:=m.cel n a _ e1 hy;exact zO (.inl (Au e1 q1 q2)) ((Du q3 h1).mono sm)
  ·cases h
end
noncomputable abbrev MF:=Wd->Option (D×Sto)
noncomputable abbrev MFs:=Wd->Option (List D×Sto)
section
variable (K:K6) (cl:Nat->Lz)
noncomputable def tM (f:MF):TE:=λ σ H Q=>∃ θ F w d s',MR K cl θ F H w.s/\MV K θ F σ w.η/\f w=some (d,s')/\∀ v θ' F' H',θ<+:θ'->Same F F'->MR K cl θ' F' H' s'->DR K θ' F' d v->Q v H'
noncomputable def tMT (f:Wd->Option (Bool×Sto)):TT:=λ σ H Q=>∃ θ F w b s',MR K cl θ F H w.s/\MV K θ F σ w.η/\f w=some (b,s')/\∀ θ' F' H',θ<+:θ'->Same F F'->MR K cl θ' F' H' s'->Q b H'
noncomputable def tMA (f:MFs):TA:=λ σ H Q=>∃ θ F w ds s',MR K cl θ F H w.s/\MV K θ F σ w.η/\f w=some (ds,s')/\∀ vs θ' F' H',θ<+:θ'->Same F F'->MR K cl θ' F' H' s'->DRs K θ' F' ds vs->Q vs H'
end
noncomputable def ME (X:Cx) (cl:Nat->Lz) (e:Expr) (f:MF):Prop:=PE X e (tM X.K cl f)
noncomputable abbrev MTF:=Wd->Option (Bool×Sto)
noncomputable def MT (X:Cx) (cl:Nat->Lz) (e:Expr) (f:MTF):Prop:=PT X e (tMT X.K cl f)
noncomputable def MTW (X:Cx) (cl:Nat->Lz) (e:Expr) (f:MTF):Prop:=PW X e (tMT X.K cl f)
noncomputable def MA (X:Cx) (cl:Nat->Lz) (es:List Expr) (f:MFs):Prop:=PA X es (tMA X.K cl f)
noncomputable def mP (f:En->Option K5):MF:=λ w=>(f (vw w)).bind λ x=>some (.d x,w.s)
noncomputable def mN (f:En->Option (List K5)):MF:=λ w=>(f (vw w)).bind λ xs=>some (.r w.s.length,w.s++[.lst (xs.map .d)])
noncomputable def mV (i:Nat):MF:=λ w=>match w.η[i]? with | some (some d)=>some (d,w.s) | _=>none
noncomputable def tPv (f:En->Option Bool):MTF:=λ w=>(f (vw w)).bind λ b=>some (b,w.s)
section
variable {X:Cx} {cl:Nat->Lz} {a b c e o:Expr} {es:List Expr} {f g:MF} {fs:MFs} {p:En->Option K5} {ps:En->Option (List K5)} {pt:En->Option Bool} {pos:Pos}
theorem aG (h:∀ B,E X B e p):ME X cl e (mP p):=λ pins s σ H Q I ⟨θ,F,w,d,s',m,v,hf,q⟩=>by
 obtain ⟨x,hx,hf⟩:=ab hf;cases hf;exact h ⟨F,H⟩ pins s σ H Q I ⟨F,vw w,x,m.vw v,hx,λ u F' H' g r=>q u θ F' H' (LO _) g.ff (m.grow g) r⟩
theorem E4 {K:K6} {F H F' H':Hp} {p:Lz} {xs:List V} {ds:List K5} (sm:Same F H) (g:Gr F H F' H') (hp:H p=none) (fp:F' p=none) (hp':H' p=some (.lst xs)) (rs:RelL K F' ds xs):Gr F H (upd F' p (.lst xs)) H'/\Rel K (upd F' p (.lst xs)) (.list ds) (.ref p):=by
 have sn:=dj (H:=F') fp (.lst xs);refine ⟨⟨g.ff.trans sn,g.hh,λ b u z=>?_,λ b z=>?_⟩,jk (SqL.of aX) (rs.mono sn)⟩
 ·by_cases e:b=p
  ·subst e; rw [aX] at z; rw [<- z]; exact hp'
  ·rw [aE e] at z; exact g.fh _ _ z
 ·by_cases e:b=p
  ·subst e; exact .inr hp
  ·rw [aE e] at z; exact g.new b z
theorem B9 {K:K6} {θ:List Lz} {F:Hp}:∀ {xs:List K5} {vs:List V},RelL K F xs vs->DRs K θ F (xs.map .d) vs
 | [],_,h=>by rw [h.nil_of]; exact .nil
 | x::xs,vs,h=>by
  obtain ⟨v,r,rfl,h1,h2⟩:=h.cons_of;exact .cons h1 (B9 h2)
theorem ME.nw (h:∀ B,EO X B e ps):ME X cl e (mN ps):=λ pins s σ H Q I ⟨θ,F,w,d,s',m,v,hf,q⟩=>by
 obtain ⟨x,hx,hf⟩:=ab hf;cases hf;refine h ⟨F,H⟩ pins s σ H Q I ⟨F,vw w,x,m.vw v,hx,λ p xs F' H' g hp fp hp' rs=>?_⟩;have m1:=m.grow g;have na:∀ (k:Nat) b,θ[k]?=some b->b≠p:=λ k b e=>m.ne hp e;have pre:θ<+:θ++[p]:=Nf _ _;refine q _ (θ++[p]) F' H' pre g.ff ⟨m1.sm,by rw [Lm,Lm,m1.len]; rfl,?_,λ k b c2 f1 f2=>?_⟩ ⟨p,by rw [<- m.len,Lx (Lp _),Mc]; rfl,rfl⟩
 ·rw [M4];refine ⟨m.nd,by simp,λ b hb b' hb'=>?_⟩;rw [LD.mp hb'];obtain ⟨k,hk⟩:=MB hb;exact na k b hk
 ·by_cases hk:k < θ.length
  ·rw [Lw hk] at f1;rw [Lw (by rw [<- m.len]; exact hk)] at f2;exact (m1.cel k b c2 f1 f2).pre pre
  ·have hk1:k=θ.length:=by
    have:=(Lb.mp f1).1
    rw [Lm] at this;have e1:[p].length=1:=rfl;omega
   subst hk1;rw [Lx (Lp _),Mc] at f1;rw [Lx (by rw [m.len]; exact Lp _),m.len,Mc] at f2;cases f1;cases f2;exact ⟨fp,xs,hp',B9 rs⟩
theorem iZ (i:Nat) {x:Str} (hN:X.N[i]?=some x:=by rfl) (hv:Vis X.env.scope x:=by first | exact Or.inl rfl | exact Or.inr (Or.inl rfl) | exact Or.inr (Or.inr rfl)) (hd:(x==("__debug__" : Str))=false:=by decide)
  (hcd:(x==("__classdict__" : Str))=false:=by decide):ME X cl (.Name x pos) (mV i) :=
 PE.imp (mS hN hv hd hcd) λ σ H Q ⟨θ,F,w,d,s',m,v,hf,q⟩=>by
  unfold mV at hf;split at hf
  ·rename_i d' e;cases hf;obtain ⟨u,e1,e2⟩:=v.val i _ e;exact ⟨u,e1,q u θ F H (LO _) (.refl _) m e2⟩
  ·cases hf
theorem MT.pu (h:∀ B,T X B e pt):MT X cl e (tPv pt):=λ pins s σ H Q I ⟨θ,F,w,b,s',m,v,hf,q⟩=>by
 obtain ⟨c,hx,hf⟩:=ab hf;cases hf;exact h ⟨F,H⟩ pins s σ H Q I ⟨F,vw w,_,m.vw v,hx,λ F' H' g=>q θ F' H' (LO _) g.ff (m.grow g)⟩
noncomputable def zC (f:MTF):MTF:=λ w=>(f w).bind λ r=>some (!r.1,r.2)
noncomputable def sy (f g:MTF):MTF:=λ w=>(f w).bind λ r=>if r.1=true then g ⟨w.η,r.2⟩ else some (false,r.2)
variable {ta tb:MTF} {rest:List Expr}
theorem MT.not (ha:MT X cl a ta):MT X cl (.UnaryOp .Not a pos) (zC ta):=PT.imp (Ce ha) λ σ H Q ⟨θ,F,w,b,s',m,v,hf,q⟩=>by
 obtain ⟨⟨c,s1⟩,hx,hf⟩:=ab hf;cases hf;exact ⟨θ,F,w,c,_,m,v,hx,q⟩
theorem MTW.t (h:MTW X cl a ta):MT X cl a ta:=PW.pt h
theorem MTW.and1 (ha:MT X cl a ta):MTW X cl (.BoolOp .And [a] pos) ta:=pw_and1 ha
theorem MTW.and (ha:MT X cl a ta) (hb:MTW X cl (.BoolOp .And (b::rest) pos) tb):MTW X cl (.BoolOp .And (a::b::rest) pos) (sy ta tb):=PW.imp (pw_and ha hb) λ σ H Q ⟨θ,F,w,b,s',m,v,hf,q⟩=>by
 obtain ⟨⟨c,s1⟩,hx,hf⟩:=ab hf;refine ⟨θ,F,w,c,s1,m,v,hx,λ θ1 F1 H1 p1 q1 m1=>?_⟩;cases c with
 | false =>
  rw [if_neg LB] at hf ⊢;cases hf;exact q θ1 F1 H1 p1 q1 m1
 | true =>
  rw [if_pos rfl] at hf ⊢;exact ⟨θ1,F1,⟨w.η,s1⟩,b,s',m1,v.mono p1 q1,hf,λ θ2 F2 H2 p2 q2 m2=>q θ2 F2 H2 (p1.trans p2) (q1.trans q2) m2⟩
noncomputable def m7 (o:K5->K5->Option K5) (f g:MF):MF:=λ w=>(f w).bind λ r=>(g ⟨w.η,r.2⟩).bind λ q=>(lD q.2 r.1).bind λ x=>(lD q.2 q.1).bind λ y=>(o x y).bind λ z=>if je z=true then some (.d z,q.2) else none
theorem GV {r:R2} {o:K5->K5->Option K5} (ad:Ad2 X.K r o):∀ σ H Q,tM X.K cl (m7 o f g) σ H Q->tOp r (tM X.K cl f) (tM X.K cl g) σ H Q:=λ σ H Q ⟨θ,F,w,d,s',m,v,hf,q⟩=>by
 obtain ⟨⟨d1,s1⟩,h1,hf⟩:=ab hf;obtain ⟨⟨d2,s2⟩,h2,hf⟩:=ab hf;obtain ⟨x,hx,hf⟩:=ab hf;obtain ⟨y,hy,hf⟩:=ab hf;obtain ⟨z,hz,hf⟩:=ab hf;split at hf
 ·rename_i hfl;cases hf;refine ⟨θ,F,w,d1,s1,m,v,h1,λ u θ1 F1 H1 p1 q1 m1 r1=>⟨θ1,F1,⟨w.η,s1⟩,d2,_,m1,v.mono p1 q1,h2,λ u2 θ2 F2 H2 p2 q2 m2 r2=>?_⟩⟩;exact ad (qS θ2 F2 H2) H2 u u2 x y z Q (E9 m2.sm) (B2 m2 _ _ _ hx (r1.mono p2 q2)) (B2 m2 _ _ _ hy r2) hz λ t F3 H3 g3 rt=>q t θ2 F2 H3 (p1.trans p2) (q1.trans q2) (m2.grow (Gr.back m2.sm g3)) (Dn hfl rt)
 ·cases hf
noncomputable def mB (f:MF):MTF:=λ w=>(f w).bind λ r=>match r.1 with | .d x=>(asB x).bind λ b=>some (b,r.2) | _=>none
theorem MT.cmp {op:CmpOp} {r:R2} {oo:K5->K5->Option K5} (ho:OpR X (L8 op) r) (ad:Ad2 X.K r oo) (hm:Mo op b=false) (ha:ME X cl a f) (hb:ME X cl b g):MT X cl (.Compare a [op] [b] pos) (mB (m7 oo f g)) :=
 PT.imp (zV ho ha hb hm) λ σ H Q ⟨θ,F,w,c,s',m,v,hf,q⟩=>by
  obtain ⟨⟨d,s1⟩,h1,hf⟩:=ab hf;cases d with
  | r n=>cases hf
  | d x =>
   dsimp only at hf;obtain ⟨b,hb,hf⟩:=ab hf;cases hf;obtain rfl:=jA hb;exact GV ad σ H _ ⟨θ,F,w,_,_,m,v,h1,λ u θ1 F1 H1 p1 q1 m1 r1=>⟨c,(show Rel X.K F1 (.bool c) u from r1).bl,q θ1 F1 H1 p1 q1 m1⟩⟩
noncomputable def maN:MFs:=λ w=>some ([],w.s)
noncomputable def maC (f:MF) (fs:MFs):MFs:=λ w=>(f w).bind λ r=>(fs ⟨w.η,r.2⟩).bind λ rs=>some (r.1::rs.1,rs.2)
theorem eN:MA X cl [] maN:=PA.imp Cv λ σ H Q ⟨θ,F,w,ds,s',m,v,hf,q⟩=>by
 cases hf;exact q [] θ F H (LO _) (.refl _) m .nil
theorem aA (ha:ME X cl e f) (hr:MA X cl es fs) (hs:Lj (e::es) X.env=(false,eval e X.env)::Lj es X.env:=by exact bD rfl):MA X cl (e::es) (maC f fs):=PA.imp (z7 ha hr hs) λ σ H Q ⟨θ,F,w,ds,s',m,v,hf,q⟩=>by
 obtain ⟨⟨d,s1⟩,h1,hf⟩:=ab hf;obtain ⟨⟨ds2,s2⟩,h2,hf⟩:=ab hf;cases hf;refine ⟨θ,F,w,d,s1,m,v,h1,λ u θ1 F1 H1 p1 q1 m1 r1=>⟨θ1,F1,⟨w.η,s1⟩,ds2,s2,m1,v.mono p1 q1,h2,λ us θ2 F2 H2 p2 q2 m2 r2=>?_⟩⟩;exact q (u::us) θ2 F2 H2 (p1.trans p2) (q1.trans q2) m2 (.cons (r1.mono p2 q2) r2)
noncomputable def y8 (o:MF) (f:Str):MF:=λ w=>(o w).bind λ r=>match r.1 with
 | .r n=>(match r.2[n]? with | some (.obj _ fs)=>(fs.lookup f).bind λ d=>some (d,r.2) | _=>none)
 | _=>none
theorem ME.fld {f:Str} {g:MF} (ho:ME X cl o g) (hb:attributeBase o f X.env (eval o X.env)=eval o X.env:=by rfl):ME X cl (.Attribute o f pos) (y8 g f) :=
 PE.imp (Cq ho hb) λ σ H Q ⟨θ,F,w,d,s',m,v,hf,q⟩=>by
  obtain ⟨⟨d0,s0⟩,h0,hf⟩:=ab hf;cases d0 with
  | d x=>cases hf
  | r n =>
   dsimp only at hf;split at hf
   ·rename_i k fs hc;obtain ⟨d1,hl,hf⟩:=ab hf;cases hf;refine ⟨θ,F,w,.r n,_,m,v,h0,λ u θ1 F1 H1 p1 q1 m1 r1=>?_⟩;obtain ⟨a,e1,rfl⟩:=r1;obtain ⟨h1,h2,h3,dx,xs,h4,h5⟩:=m1.cel n a _ e1 hc;obtain ⟨u,e5,e6⟩:=(h5.look f).1 _ hl;exact ⟨a,cl k,dx,xs,u,rfl,h4,h2,h3 f (xJ hl),e5,q u θ1 F1 H1 p1 q1 m1 e6⟩
   ·cases hf
end
noncomputable def p7 (i:Nat) (f:Str):En->Option K5:=λ η=>match η[i]? with | some (.ob fs)=>fs f | _=>none
theorem nS (i:Nat) {X:Cx} {B:Bd} {x f:Str} {npos pos:Pos} (hN:X.N[i]?=some x:=by rfl) (hv:Vis X.env.scope x:=by first | exact Or.inl rfl | exact Or.inr (Or.inl rfl) | exact Or.inr (Or.inr rfl)) (hd:(x==("__debug__" : Str))=false:=by decide)
  (hcd:(x==("__classdict__" : Str))=false:=by decide) (hb:attributeBase (.Name x npos) f X.env (eval (.Name x npos) X.env)=eval (.Name x npos) X.env:=by rfl):E X B (.Attribute (.Name x npos) f pos) (p7 i f) :=
 PE.imp (Cq (mS hN hv hd hcd) hb) λ σ H Q ⟨F,η,d,sr,hd,q⟩=>by
  unfold p7 at hd;split at hd
  ·rename_i fs e;obtain ⟨p,C,dx,xs,e1,e2,e3,e4⟩:=sr.en.obs i fs e;obtain ⟨n,v,h1,h2⟩:=e4 f d hd;exact ⟨_,e1,p,C,dx,xs,v,rfl,e2,e3,n,h1,q v F H (.refl sr.same) h2⟩
  ·cases hd
noncomputable def spM (K:K6) (cl:Nat->Lz) (fn:List D->Sto->Option (D×Sto)):Sp:=λ vs H Q _=>∃ θ F s ds d s',MR K cl θ F H s/\DRs K θ F ds vs/\fn ds s=some (d,s')/\∀ v θ' F' H',θ<+:θ'->Same F F'->MR K cl θ' F' H' s'->DR K θ' F' d v->Q v H'
noncomputable def uW (fn:List D->Sto->Option (D×Sto)) (fs:MFs):MF:=λ w=>(fs w).bind λ r=>fn r.1 r.2
section
variable {X:Cx} {cl:Nat->Lz} {e o:Expr} {es:List Expr} {g:MF} {fs:MFs} {pos:Pos}
theorem ME.call {k k':Nat} {fa:Lz} {fd:Mj} {ps:List Str} {x:Str} {ppos:Pos} {fn:List D->Sto->Option (D×Sto)} (G:FnOk X.prog X.w X.K X.mg X.base CX0 k fa fd ps (spM X.K cl fn)) (hr:Room k' X.A) (hkk:k<=k') (hm:X.mg x=some (.ref fa)) (hk:MH X.K (.ref fa)=true) (hb:Binds X.K fd ps [])
  (ha:MA X cl (e::es) fs) (hg:Gl X x:=by rfl) (hdb:(x==("__debug__" : Str))=false:=by decide) (he:Lj (e::es) X.env=(false,eval e X.env)::Lj es X.env:=by exact bD rfl) (hpl:(backTo pos (Lj es X.env)).any (·.1)=false:=by exact iJ rfl) :
  ME X cl (.Call (.Name x ppos) (e::es) [] pos) (uW fn fs):=PE.imp (vP G (hr.mono hkk) hg hm hk hb .nil uV ha hdb he hpl) λ σ H Q ⟨θ,F,w,d,s',m,v,hf,q⟩=>by
 obtain ⟨⟨ds,s1⟩,h1,hf⟩:=ab hf;refine ⟨θ,F,w,ds,s1,m,v,h1,λ vs θ1 F1 H1 p1 q1 m1 r1=>?_⟩;show spM X.K cl fn (vs++[]) H1 Q E0;rw [LY];exact ⟨θ1,F1,s1,ds,d,s',m1,r1,hf,λ u θ2 F2 H2 p2 q2 m2 r2=>q u θ2 F2 H2 (p1.trans p2) (q1.trans q2) m2 r2⟩
noncomputable def bZ (k:Nat) (nm:Str) (fn:List D->Sto->Option (D×Sto)) (o:MF) (fs:MFs):MF:=λ w=>(o w).bind λ r=>match r.1 with
 | .r n=>(match r.2[n]? with
  | some (.obj k' as)=>if k'=k/\as.lookup nm=none then (fs ⟨w.η,r.2⟩).bind λ rs=>fn (.r n::rs.1) rs.2 else none
  | _=>none)
 | _=>none
theorem EY {nm:Str} {k:Nat} {fn:List D->Sto->Option (D×Sto)}:∀ σ H Q,tM X.K cl (bZ k nm fn g fs) σ H Q->BU (cl k) nm (spM X.K cl fn) [] E0 (tM X.K cl g) (tMA X.K cl fs) σ H Q:=λ σ H Q ⟨θ,F,w,d,s',m,v,hf,q⟩=>by
 obtain ⟨⟨d0,s0⟩,h0,hf⟩:=ab hf;cases d0 with
 | d x=>cases hf
 | r n =>
  dsimp only at hf;split at hf
  ·rename_i k' as hc;split at hf
   ·rename_i hk;obtain ⟨⟨ds,s1⟩,h1,hf⟩:=ab hf;obtain ⟨hk1,hk2⟩:=hk;rw [hk1] at hc;refine ⟨θ,F,w,.r n,s0,m,v,h0,λ u θ1 F1 H1 p1 q1 m1 r1=>?_⟩;obtain ⟨a,e1,rfl⟩:=id r1;obtain ⟨c1,c2,c3,dx,xs,c4,c5⟩:=m1.cel n a _ e1 hc;refine ⟨a,dx,xs,rfl,c4,(c5.look nm).2 hk2,θ1,F1,⟨w.η,s0⟩,ds,s1,m1,v.mono p1 q1,h1,λ vs θ2 F2 H2 p2 q2 m2 r2=>?_⟩;show spM X.K cl fn (.ref a::(vs++[])) H2 Q E0;rw [LY];exact ⟨θ2,F2,s1,.r n::ds,d,s',m2,.cons (DR.mono p2 q2 r1) r2,hf,λ u θ3 F3 H3 p3 q3 m3 r3=>q u θ3 F3 H3 (p1.trans (p2.trans p3)) (q1.trans (q2.trans q3)) m3 r3⟩
   ·cases hf
  ·cases hf
theorem i3 {pl:Sem Bool} {k k' kc:Nat} {fa:Lz} {fd:Mj} {ps:List Str} {nm:Str} {apos:Pos} {fn:List D->Sto->Option (D×Sto)} (ho:ME X cl o g) (c:Cls X.K (cl kc)) (hm:Meth X.K (cl kc) nm fa) (G:FnOk X.prog X.w X.K X.mg X.base CX0 k fa fd ps (spM X.K cl fn)) (hr:Room k' X.A) (hkk:k<=k') (hb:Binds X.K fd ps [])
  (ha:MA X cl (e::es) fs) (hst:Lj (e::es) X.env=(false,eval e X.env)::Lj es X.env:=by exact bD rfl) (hpl:(backTo pos (Lj es X.env)).any (·.1)=false:=by exact iJ rfl)
  (ht:eval (.Call (.Attribute o nm apos) (e::es) [] pos) X.env=(do
   let ov <- eval o X.env
   standAt apos.atName
   let (f,first) <- holding [ov] (getMethod ov nm pl)
   callWith pos f first (backTo pos (Lj (e::es) X.env)) (backToKw pos (keywordEach [] X.env))):=by rfl):ME X cl (.Call (.Attribute o nm apos) (e::es) [] pos) (bZ kc nm fn g fs) :=
 PE.imp (EC (pl:=pl) ho c hm G (hr.mono hkk) hb .nil uV ha hst hpl ht) EY
theorem ME.meth0 {pl:Sem Bool} {k k' kc:Nat} {fa:Lz} {fd:Mj} {ps:List Str} {nm:Str} {apos:Pos} {fn:List D->Sto->Option (D×Sto)} (ho:ME X cl o g) (c:Cls X.K (cl kc)) (hm:Meth X.K (cl kc) nm fa) (G:FnOk X.prog X.w X.K X.mg X.base CX0 k fa fd ps (spM X.K cl fn)) (hr:Room k' X.A) (hkk:k<=k') (hb:Binds X.K fd ps [])
  (ht:eval (.Call (.Attribute o nm apos) [] [] pos) X.env=(do
   let ov <- eval o X.env
   standAt apos.atName
   let (f,first) <- holding [ov] (getMethod ov nm pl)
   callWith pos f first (backTo pos (Lj [] X.env)) (backToKw pos (keywordEach [] X.env))):=by rfl):ME X cl (.Call (.Attribute o nm apos) [] [] pos) (bZ kc nm fn g maN) :=
 PE.imp (Co (pl:=pl) ho c hm G (hr.mono hkk) hb .nil uV ht) λ σ H Q h=>by
  obtain ⟨θ,F,w,d,s',m,v,hf,q⟩:=h;obtain ⟨⟨d0,s0⟩,h0,hf⟩:=ab hf;cases d0 with
  | d x=>cases hf
  | r n =>
   dsimp only at hf;split at hf
   ·rename_i k' as hc;split at hf
    ·rename_i hk;obtain ⟨⟨ds,s1⟩,h1,hf⟩:=ab hf;obtain ⟨hk1,hk2⟩:=hk;rw [hk1] at hc;cases h1;refine ⟨θ,F,w,.r n,s0,m,v,h0,λ u θ1 F1 H1 p1 q1 m1 r1=>?_⟩;obtain ⟨a,e1,rfl⟩:=id r1;obtain ⟨c1,c2,c3,dx,xs,c4,c5⟩:=m1.cel n a _ e1 hc;exact ⟨a,dx,xs,rfl,c4,(c5.look nm).2 hk2,θ1,F1,s0,[.r n],d,s',m1,.cons r1 .nil,hf,λ u θ3 F3 H3 p3 q3 m3 r3=>q u θ3 F3 H3 (p1.trans p3) (q1.trans q3) m3 r3⟩
    ·cases hf
   ·cases hf
noncomputable def xF (k:Nat) (fn:List D->Sto->Option (D×Sto)) (fs:MFs):MF:=λ w=>(fs w).bind λ r=>(fn (.r r.2.length::r.1) (r.2++[.obj k []])).bind λ q=>match q.1 with
 | .d .none=>some (.r r.2.length,q.2)
 | _=>none
theorem E2 {K:K6} {θ:List Lz} {F H:Hp} {s:Sto} {kc:Nat} (c:Cls K (cl kc)) (m:MR K cl θ F H s) {x dx:Lz} (hx:H x=none) (hdx:H dx=none) (hne:dx≠x) :
  MR K cl (θ++[x]) F (upd (upd H dx (.own x)) x (.ins (cl kc) dx [])) (s++[.obj kc []]):=by
 have m1:=m.more (o:=.own x) hdx;have hx1:upd H dx (.own x) x=none:=by rw [aE (Ne.symm hne)]; exact hx
 exact m1.new hx1 ⟨m1.sm.free hx1,c,λ f hf=>(by cases hf),dx,[],aX,.nil⟩
theorem E1 {kc:Nat} {fn:List D->Sto->Option (D×Sto)} (c:Cls X.K (cl kc)) {θ:List Lz} {F H:Hp} {s s':Sto} {ds:List D} {d:D} {vs:List V} {Q:VK} (m:MR X.K cl θ F H s) (r:DRs X.K θ F ds vs)
  (hf:((fn (.r s.length::ds) (s++[.obj kc []])).bind λ q=>match q.1 with | .d .none=>some (D.r s.length,q.2) | _=>none)=some (d,s'))
  (q:∀ v θ' F' H',θ<+:θ'->Same F F'->MR X.K cl θ' F' H' s'->DR X.K θ' F' d v->Q v H') (x dx:Lz) (hx:H x=none) (hdx:H dx=none) (hne:dx≠x) :
  spM X.K cl fn (.ref x::vs) (upd (upd H dx (.own x)) x (.ins (cl kc) dx [])) (λ v H2=>v=.non/\Q (.ref x) H2) E0:=by
 obtain ⟨⟨d1,s1⟩,h1,hf⟩:=ab hf;have pre:θ<+:θ++[x]:=Nf _ _;have hix:(θ++[x])[s.length]?=some x:=by rw [<- m.len,Lx (Lp _),Mc]; rfl
 refine ⟨θ++[x],F,s++[.obj kc []],.r s.length::ds,d1,s1,E2 c m hx hdx hne,.cons ⟨x,hix,rfl⟩ (r.mono pre (.refl _)),h1,λ v θ2 F2 H2 p2 q2 m2 r2=>?_⟩;dsimp only at hf;split at hf
 ·rename_i hd;cases hf;have r2':Rel X.K F2 .none v:=r2;exact ⟨r2'.non,q _ θ2 F2 H2 (pre.trans p2) q2 m2 ⟨x,sh p2 hix,rfl⟩⟩
 ·cases hf
theorem ME.make {k k' kc:Nat} {fa:Lz} {fd:Mj} {ps:List Str} {x:Str} {ppos:Pos} {fn:List D->Sto->Option (D×Sto)} (c:Cls X.K (cl kc)) (M:Mk X.K (cl kc) fa) (G:FnOk X.prog X.w X.K X.mg X.base CX0 k fa fd ps (spM X.K cl fn)) (hr:Room k' X.A) (hkk:k+1<=k') (hm:X.mg x=some (.ref (cl kc))) (hb:Binds X.K fd ps [])
  (ha:MA X cl (e::es) fs) (hg:Gl X x:=by rfl) (hdb:(x==("__debug__" : Str))=false:=by decide) (he:Lj (e::es) X.env=(false,eval e X.env)::Lj es X.env:=by exact bD rfl) (hpl:(backTo pos (Lj es X.env)).any (·.1)=false:=by exact iJ rfl) :
  ME X cl (.Call (.Name x ppos) (e::es) [] pos) (xF kc fn fs):=PE.imp (ED M G (hr.mono hkk) hg hm hb .nil uV ha hdb he hpl) λ σ H Q ⟨θ,F,w,d,s',m,v,hf,q⟩=>by
 obtain ⟨⟨ds,s1⟩,h1,hf⟩:=ab hf;refine ⟨θ,F,w,ds,s1,m,v,h1,λ vs θ1 F1 H1 p1 q1 m1 r1=>λ x dx hx hdx hne=>?_⟩;show spM X.K cl fn (.ref x::(vs++[])) _ _ E0;rw [LY];exact E1 c m1 r1 hf (λ u θ2 F2 H2 p2 q2 m2 r2=>q u θ2 F2 H2 (p1.trans p2) (q1.trans q2) m2 r2) x dx hx hdx hne
end
inductive MOut where
 | nx (w:Wd)
 | rt (d:D) (s:Sto)
 | bk (w:Wd)
 | ct (w:Wd)
section
variable (K:K6) (cl:Nat->Lz)
noncomputable def MNx (θ:List Lz) (F:Hp) (N:St->Hp->Prop) (w:Wd):Prop:=∀ σ' θ' F' H',θ<+:θ'->Same F F'->MR K cl θ' F' H' w.s->MV K θ' F' σ' w.η->N σ' H'
noncomputable def MOk (θ:List Lz) (F:Hp) (Z:Ends):MOut->Prop
 | .nx w=>MNx K cl θ F Z.nx w
 | .rt d s=>∀ v θ' F' H',θ<+:θ'->Same F F'->MR K cl θ' F' H' s->DR K θ' F' d v->Z.rt v H'
 | .bk w=>MNx K cl θ F Z.bk w
 | .ct w=>MNx K cl θ F Z.ct w
noncomputable def tMS (f:Wd->Option MOut):TS:=λ Z σ H=>∃ θ F w o,MR K cl θ F H w.s/\MV K θ F σ w.η/\f w=some o/\MOk K cl θ F Z o
end
noncomputable def MS (X:Cx) (cl:Nat->Lz) (st:Stmt) (f:Wd->Option MOut):Prop:=PS X st (tMS X.K cl f)
noncomputable def MSs (X:Cx) (cl:Nat->Lz) (st:List Stmt) (f:Wd->Option MOut):Prop:=PSs X st (tMS X.K cl f)
theorem MNx.up {K:K6} {cl:Nat->Lz} {θ θ1:List Lz} {F F1:Hp} {N:St->Hp->Prop} {w:Wd} (h:MNx K cl θ F N w) (p:θ<+:θ1) (s:Same F F1):MNx K cl θ1 F1 N w:=λ σ' θ' F' H' p' s'=>h σ' θ' F' H' (p.trans p') (s.trans s')
theorem MOk.up {K:K6} {cl:Nat->Lz} {θ θ1:List Lz} {F F1:Hp} {Z:Ends} {o:MOut} (h:MOk K cl θ F Z o) (p:θ<+:θ1) (s:Same F F1):MOk K cl θ1 F1 Z o:=by
 cases o with
 | nx w=>exact MNx.up h p s
 | rt d s2=>exact λ v θ' F' H' p' s'=>h v θ' F' H' (p.trans p') (s.trans s')
 | bk w=>exact MNx.up h p s
 | ct w=>exact MNx.up h p s
noncomputable def mNx:Wd->Option MOut:=λ w=>some (.nx w)
noncomputable def b5 (f g:Wd->Option MOut):Wd->Option MOut:=λ w=>(f w).bind λ o=>match o with
 | .nx w'=>g w'
 | o=>some o
noncomputable def jU (f:MF):Wd->Option MOut:=λ w=>(f w).bind λ r=>some (.rt r.1 r.2)
noncomputable def mIf (c:MTF) (f g:Wd->Option MOut):Wd->Option MOut:=λ w=>(c w).bind λ r=>if r.1=true then f ⟨w.η,r.2⟩ else g ⟨w.η,r.2⟩
noncomputable def gQ (i:Nat) (f:MF):Wd->Option MOut:=λ w=>(f w).bind λ r=>some (.nx ⟨w.η.set i (some r.1),r.2⟩)
noncomputable def jc (f:MF):Wd->Option MOut:=λ w=>(f w).bind λ r=>some (.nx ⟨w.η,r.2⟩)
noncomputable def vL (f:Str) (v:D):List (Str×D)->List (Str×D)
 | []=>[(f,v)]
 | (g,x)::r=>if g=f then (g,v)::r else (g,x)::vL f v r
noncomputable def tD (k:Nat) (nm:Str) (o e:MF):Wd->Option MOut:=λ w=>(e w).bind λ r=>(o ⟨w.η,r.2⟩).bind λ q=>match q.1 with
 | .r n=>(match q.2[n]? with
  | some (.obj k' fs)=>if k'=k/\fs.length < 999 then some (.nx ⟨w.η,q.2.set n (.obj k (vL nm r.1 fs))⟩) else none
  | _=>none)
 | _=>none
section
variable {X:Cx} {cl:Nat->Lz} {st:Stmt} {sts sts':List Stmt} {u v:Wd->Option MOut} {a b c e o:Expr} {f g:MF} {p:MTF} {pos pos':Pos}
theorem MSs.nil:MSs X cl [] mNx:=PSs.imp zX λ Z σ H ⟨θ,F,w,o,m,v,hf,q⟩=>by
 cases hf;exact q σ θ F H (LO _) (.refl _) m v
theorem bw (h:MS X cl st u):MSs X cl [st] u:=zW h
theorem aJ (h:MS X cl st u) (k:MSs X cl sts v):MSs X cl (st::sts) (b5 u v):=PSs.imp (xg h k) λ Z σ H ⟨θ,F,w,o,m,v,hf,q⟩=>by
 obtain ⟨o1,h1,hf⟩:=ab hf;refine ⟨θ,F,w,o1,m,v,h1,?_⟩;cases o1 with
 | nx w'=>exact λ σ' θ' F' H' p s m' v'=>⟨θ',F',w',o,m',v',hf,q.up p s⟩
 | rt d s=>cases hf; exact q
 | bk w'=>cases hf; exact q
 | ct w'=>cases hf; exact q
theorem MS.never:MS X cl st (λ _=>none):=PS.imp xh λ Z σ H ⟨θ,F,w,o,m,v,hf,q⟩=>by cases hf
theorem ji (he:ME X cl e f):MS X cl (.Return (some e) pos) (jU f):=PS.imp (yT he) λ Z σ H ⟨θ,F,w,o,m,v,hf,q⟩=>by
 obtain ⟨⟨d,s⟩,h1,hf⟩:=ab hf;cases hf;exact ⟨θ,F,w,d,s,m,v,h1,q⟩
theorem iB (he:ME X cl e f) (hs:swapsWith e none pos.line X.env=pure false:=by rfl):MS X cl (.Expr e pos) (jc f):=PS.imp (vN he hs) λ Z σ H ⟨θ,F,w,o,m,v,hf,q⟩=>by
 obtain ⟨⟨d,s⟩,h1,hf⟩:=ab hf;cases hf;exact ⟨θ,F,w,d,s,m,v,h1,λ u θ' F' H' p' s' m' _=>q σ θ' F' H' p' s' m' (v.mono p' s')⟩
theorem jj (hc:MT X cl c p) (ha:MSs X cl sts u) (hb:MSs X cl sts' v):MS X cl (.If c sts sts' pos) (mIf p u v):=PS.imp (FL hc ha hb) λ Z σ H ⟨θ,F,w,o,m,v,hf,q⟩=>by
 obtain ⟨⟨b,s1⟩,h1,hf⟩:=ab hf;refine ⟨θ,F,w,b,s1,m,v,h1,λ θ' F' H' p' s' m'=>?_⟩;cases b with
 | false =>
  rw [if_neg LB] at hf ⊢;exact ⟨θ',F',⟨w.η,s1⟩,o,m',v.mono p' s',hf,q.up p' s'⟩
 | true =>
  rw [if_pos rfl] at hf ⊢;exact ⟨θ',F',⟨w.η,s1⟩,o,m',v.mono p' s',hf,q.up p' s'⟩
theorem fZ (i:Nat) {x:Str} (hN:X.N.Nodup) (he:ME X cl e f) (hi:X.N[i]?=some x:=by rfl) (hx:Loc X.env.scope x:=by first | exact Or.inl rfl | exact Or.inr rfl) (hs:swapsWith e (some (.Name x pos')) pos.line X.env=pure false:=by rfl)
  (hf:X.fn x=true\/X.env.scope.names.lookup x=some .local:=by first | exact .inl rfl | exact .inr rfl):MS X cl (.Assign [.Name x pos'] e pos) (gQ i f):=PS.imp (vM hN hi hx he hs hf) λ Z σ H ⟨θ,F,w,o,m,v,hf,q⟩=>by
 obtain ⟨⟨d,s⟩,h1,hf⟩:=ab hf;cases hf;exact ⟨θ,F,w,d,s,m,v,h1,λ u θ' F' H' p' s' m' r'=>q _ θ' F' H' p' s' m' ((v.mono p' s').set i r')⟩
theorem DRf.put {K:K6} {θ:List Lz} {F:Hp} {fs:List (Str×D)} {xs:List (Str×V)} (h:DRf K θ F fs xs) (f:Str) {d:D} {v:V} (r:DR K θ F d v):DRf K θ F (vL f d fs) (mE f v xs):=by
 induction h with
 | nil=>exact .cons ⟨rfl,r⟩ .nil
 | @cons a b as bs q t ih =>
  obtain ⟨ka,da⟩:=a;obtain ⟨kb,vb⟩:=b;have e:ka=kb:=q.1;subst e;unfold vL mE;by_cases hk:ka=f
  ·rw [if_pos hk,if_pos hk]; exact .cons ⟨rfl,r⟩ t
  ·rw [if_neg hk,if_neg hk]; exact .cons q ih
theorem uS {f:Str} {d:D}:∀ {fs:List (Str×D)} {g:Str},g∈(vL f d fs).map (·.1)->g=f\/g∈fs.map (·.1)
 | [],g,h=>.inl (by simpa [vL] using h)
 | (k,x)::r,g,h=>by
  unfold vL at h;by_cases hk:k=f
  ·rw [if_pos hk] at h;rcases LA.mp h with z | z
   ·exact .inr (by rw [z]; exact Lc)
   ·exact .inr (La _ z)
  ·rw [if_neg hk] at h;rcases LA.mp h with z | z
   ·exact .inr (by rw [z]; exact Lc)
   ·rcases uS z with y | y
    ·exact .inl y
    ·exact .inr (La _ y)
theorem MS.put {k:Nat} {nm:Str} (ho:ME X cl o g) (he:ME X cl e f) (hn:NoAttr X.K (cl k) nm) (hs:swapsWith e (some (.Attribute o nm pos')) pos.line X.env=pure false:=by rfl):MS X cl (.Assign [.Attribute o nm pos'] e pos) (tD k nm g f) :=
 PS.imp (GC ho he hs) λ Z σ H ⟨θ,F,w,o,m,v,hf,q⟩=>by
  obtain ⟨⟨d,s1⟩,h1,hf⟩:=ab hf;obtain ⟨⟨d2,s2⟩,h2,hf⟩:=ab hf;cases d2 with
  | d x=>cases hf
  | r n =>
   dsimp only at hf h2;split at hf
   ·rename_i k' fs hc;split at hf
    ·rename_i hk;cases hf;obtain ⟨hk1,hk2⟩:=hk;rw [hk1] at hc;refine ⟨θ,F,w,d,s1,m,v,h1,λ y θ1 F1 H1 p1 q1 m1 r1=>⟨θ1,F1,⟨w.η,s1⟩,.r n,s2,m1,v.mono p1 q1,h2,λ x θ2 F2 H2 p2 q2 m2 r2=>?_⟩⟩;obtain ⟨a,e1,rfl⟩:=r2;obtain ⟨c1,c2,c3,dx,xs,c4,c5⟩:=m2.cel n a _ e1 hc;have hl:xs.length < 1000:=by
      have:=Paired.length c5
      omega
     refine ⟨a,cl k,dx,xs,rfl,c4,c2,hn,hl,q _ θ2 F2 _ (p1.trans p2) (q1.trans q2) (m2.put e1 hc rfl ⟨c1,c2,λ f hf=>?_,dx,_,aX,c5.put nm (r1.mono p2 q2)⟩) ((v.mono p1 q1).mono p2 q2)⟩;rcases uS hf with z | z
     ·rw [z]; exact hn
     ·exact c3 f z
    ·cases hf
   ·cases hf
end
noncomputable def iH (n m:Nat) (g:Wd->Option MOut):List D->Sto->Option (D×Sto):=λ ds s=>if ds.length=n then (g ⟨ds.map some++Mm (m - n) none,s⟩).bind λ o=>match o with
 | .rt d s'=>some (d,s')
 | .nx w=>some (.d .none,w.s)
 | _=>none else none
section
variable {P:LM} {w:World} {K:K6} {mg:Str->Option Lf} {base:Heap} {cl:Nat->Lz}
theorem MV.start {θ:List Lz} {F:Hp} {N:List Str} {ds:List D} {vs:List V} (r:DRs K θ F ds vs):MV K θ F (L2.start N vs) (ds.map some++Mm (N.length - ds.length) none) where
 len:=by unfold L2.start; rw [Lm,Lm,K7,K7,MN,MN,Paired.length r]
 val:=λ i d e=>by
  unfold L2.start;by_cases hi:i < ds.length
  ·rw [Lw (by rw [K7]; exact hi),Le] at e;rw [Lw (by rw [K7,<- Paired.length r]; exact hi),Le];cases q:ds[i]? with
   | none=>rw [q] at e; cases e
   | some d' =>
    rw [q] at e
    have:d'=d:=Option.some.inj (Option.some.inj e)
    subst this;obtain ⟨x,e1,e2⟩:=r.get q;exact ⟨x,by rw [e1]; rfl,e2⟩
  ·rw [Lx (by rw [K7]; omega),MJ] at e;split at e <;> cases e
theorem fnM {x qual:Str} {st:Stmt} {f:Lz} {fd:Mj} {N ps:List Str} {k:Nat} {g:Wd->Option MOut} (Fn:Fun K x qual st f fd) (Sc:aL N ps (ah st))
  (hb:∀ (cdv:Lf) (A:Mb) (outer:List Env) (s:Lh) (H:Hp) (E:XK),Room k (A.deeper (envOfC qual (ah st) s.heap.objs.size f cdv)) ->
   MSs (ya CX0 P w K mg base N qual (ah st) f cdv A outer s H E).nox cl (lV st) g) :
  FnOk P w K mg base CX0 (k+1) f fd ps (spM K cl (iH ps.length N.length g)):=by
 refine Fn.ok Sc (λ vs H Q E h=>?_) (λ cdv A outer s H vs Q E hr h=>?_)
 ·obtain ⟨θ,F,s,ds,d,s',_,r,e,_⟩:=h;unfold iH at e;split at e
  ·rename_i hl;rw [<- Paired.length r]; exact hl
  ·cases e
 ·obtain ⟨θ,F,s0,ds,d,s',m,r,e,q⟩:=h;refine ⟨_,hb cdv A outer s H E hr,?_⟩;unfold iH at e;split at e
  ·rename_i hl;obtain ⟨o,h1,e⟩:=ab e;have z:=MV.start (K:=K) (N:=N) r;rw [hl] at z;refine ⟨θ,F,⟨_,s0⟩,o,m,z,h1,?_⟩;cases o with
   | rt d' s2 =>
    cases e;exact q
   | nx w' =>
    cases e;exact λ σ' θ' F' H' p' s' m' _=>q .non θ' F' H' p' s' m' (show Rel K F' .none .non from pB)
   | bk w'=>cases e
   | ct w'=>cases e
  ·cases e
end
noncomputable def tMI (K:K6) (cl:Nat->Lz) (f:Wd->Option (List K5×Sto)):TI:=λ σ H R=>∃ θ F w ds s',MR K cl θ F H w.s/\MV K θ F σ w.η/\f w=some (ds,s')/\∀ J θ' F' H',θ<+:θ'->Same F F'->MR K cl θ' F' H' s'->ItP K J F' ds->R J H'
noncomputable def MI (X:Cx) (cl:Nat->Lz) (tg iter:Expr) (f:Wd->Option (List K5×Sto)):Prop:=PI X tg iter (tMI X.K cl f)
noncomputable def iPu (f:En->Option (List K5)):Wd->Option (List K5×Sto):=λ w=>(f (vw w)).bind λ ds=>some (ds,w.s)
noncomputable def back:List Nat->MEn->En->Option MEn
 | [],η,_=>some η
 | k::ks,η,ζ=>match ζ[k]? with | some (.val x)=>back ks (η.set k (some (.d x))) ζ | _=>none
noncomputable def mTg (ks:List Nat) (t:En->K5->Option En) (w:Wd) (d:K5):Option Wd:=(t (vw w) d).bind λ ζ=>(back ks w.η ζ).bind λ η=>some ⟨η,w.s⟩
noncomputable def mGo (ks:List Nat) (t:En->K5->Option En) (body:Wd->Option MOut):List K5->Wd->Option MOut
 | [],w=>some (.nx w)
 | d::ds,w=>(mTg ks t w d).bind λ w1=>(body w1).bind λ o=>match o with
  | .nx w2=>mGo ks t body ds w2
  | .ct w2=>mGo ks t body ds w2
  | .bk w2=>some (.nx w2)
  | .rt d s=>some (.rt d s)
noncomputable def y6 (ks:List Nat) (it:Wd->Option (List K5×Sto)) (t:En->K5->Option En) (body:Wd->Option MOut):Wd->Option MOut:=λ w=>(it w).bind λ r=>mGo ks t body r.1 ⟨w.η,r.2⟩
section
variable {X:Cx} {cl:Nat->Lz} {tg iter e:Expr} {f:MF} {fi:En->Option (List K5)} {pos:Pos}
theorem MI.pu (h:∀ B,I X B tg iter fi):MI X cl tg iter (iPu fi):=λ pins s σ H R I ⟨θ,F,w,ds,s',m,v,hf,q⟩=>by
 obtain ⟨x,hx,hf⟩:=ab hf;cases hf;exact h ⟨F,H⟩ pins s σ H R I ⟨F,vw w,_,m.vw v,hx,λ J F' H' g ip=>q J θ F' H' (LO _) g.ff (m.grow g) ip⟩
theorem wA {K:K6} {θ:List Lz} {B:Bd} {F H:Hp} {σ':St} {ζ:En} (sr:SR K B F H σ' ζ):∀ (ks:List Nat) {η η':MEn},back ks η ζ=some η'->η.length=σ'.length ->
  (∀ (i:Nat) d,η[i]?=some (some d)->i∈ks\/∃ v,σ'[i]?=some (some v)/\DR K θ F d v)->MV K θ F σ' η'
 | [],η,η',h,hl,hv=>by
  cases h;exact ⟨hl,λ i d e=>(hv i d e).elim (λ z=>(by cases z)) id⟩
 | k::ks,η,η',h,hl,hv=>by
  unfold back at h;split at h
  ·rename_i x hx;refine wA sr ks h (by rw [LC]; exact hl) λ i d e=>?_;by_cases hk:k=i
   ·subst hk;by_cases hlt:k < η.length
    ·rw [Lr hlt] at e;have e':D.d x=d:=Option.some.inj (Option.some.inj e);subst e';exact .inr (sr.en.val k x hx)
    ·rw [LN (by rw [LC]; omega)] at e; cases e
   ·rw [Ld hk] at e;rcases hv i d e with z | z
    ·rcases LA.mp z with y | y
     ·exact absurd y.symm hk
     ·exact .inl y
    ·exact .inr z
  ·cases h
theorem HX {K:K6} {cl:Nat->Lz} {ks:List Nat} {gt:TG} {t:En->K5->Option En} (ht:TgP K ks gt t) {θ:List Lz} {F H:Hp} {σ:St} {w w1:Wd} {d:K5} {x:V} (m:MR K cl θ F H w.s) (v:MV K θ F σ w.η) (rx:Rel K F d x) (h:mTg ks t w d=some w1) {Q:St->Hp->Prop}
  (q:∀ σ' F' H',Same F F'->MR K cl θ F' H' w1.s->MV K θ F' σ' w1.η->Q σ' H'):gt x σ H Q:=by
 obtain ⟨ζ,h1,h⟩:=ab h;obtain ⟨η,h2,h⟩:=ab h;cases h;refine ht ⟨F,H⟩ F H σ (vw w) d x ζ (m.vw v) rx h1 Q λ σ' F' H' sr g hl hn=>q σ' F' H' g.ff (m.grow g) (wA sr ks h2 (by rw [v.len,hl]) λ i d' e=>?_);by_cases hi:i∈ks
 ·exact .inl hi
 ·obtain ⟨u,e1,e2⟩:=v.val i d' e;exact .inr ⟨u,by rw [hn i hi]; exact e1,e2.mono (LO _) g.ff⟩
theorem MS.for {body:List Stmt} {gt:TG} {ks:List Nat} {t:En->K5->Option En} {fi:Wd->Option (List K5×Sto)} {u:Wd->Option MOut} (hp:PassesOwn (L6 X.prog X.w) X.A X.env X.xe) (hc:X.calm=true) (hi:MI X cl tg iter fi) (hg:PG X tg gt) (ht:TgP X.K ks gt t) (hb:MSs X cl body u)
  (hs:∀ x,foldedSetIterable iter X.env x=pure x:=by intro _; rfl):MS X cl (.For tg iter body [] pos) (y6 ks fi t u):=PS.imp (Cg hp hc hi hg hb hs) λ Z σ H ⟨θ,F,w,o,m,v,hf,q⟩=>by
 obtain ⟨⟨ds,s1⟩,h1,hd⟩:=ab hf;refine ⟨θ,F,w,ds,s1,m,v,h1,λ J θ1 F1 H1 p1 q1 m1 ip=>?_⟩;refine ⟨λ i n σ H=>n=ds.length - i/\i<=ds.length/\∃ θc Fc wc,θ1<+:θc/\Same F1 Fc/\MR X.K cl θc Fc H wc.s/\MV X.K θc Fc σ wc.η/\mGo ks t u (ds.drop i) wc=some o,⟨_,rfl,Ml _,θ1,F1,⟨w.η,s1⟩,LO _,.refl _,m1,v.mono p1 q1,by simpa using hd⟩,?_⟩
 rintro i n σc Hc ⟨rfl,hi,θc,Fc,wc,pc,sc,mc,vc,hgo⟩
 obtain ⟨ip1,ip2⟩:=ip Fc Hc i sc mc.sm;by_cases hlt:i < ds.length
 ·have e:ds[i]?=some ds[i]:=K9 hlt;obtain ⟨go,yl⟩:=ip1 _ e;rw [My hlt] at hgo;unfold mGo at hgo;obtain ⟨w1,e1,hgo⟩:=ab hgo;obtain ⟨o1,e2,hgo⟩:=ab hgo;have cont:∀ (w2:Wd),mGo ks t u (ds.drop (i+1)) w2=some o->∀ σ' θ' F' H',θ1<+:θ'->Same F1 F'->MR X.K cl θ' F' H' w2.s->MV X.K θ' F' σ' w2.η ->
    ∃ n',n' < ds.length - i/\(λ i n σ H=>n=ds.length - i/\i<=ds.length/\∃ θc Fc wc,θ1<+:θc/\Same F1 Fc/\MR X.K cl θc Fc H wc.s/\MV X.K θc Fc σ wc.η/\mGo ks t u (ds.drop i) wc=some o) (i+1) n' σ' H':=λ w2 h2 σ' θ' F' H' p s m v =>
   ⟨ds.length - (i+1),by omega,rfl,hlt,θ',F',w2,p,s,m,v,h2⟩
  refine .inr ⟨go,λ σ' H'=>∃ n',n' < ds.length - i/\(λ i n σ H=>n=ds.length - i/\i<=ds.length/\∃ θc Fc wc,θ1<+:θc/\Same F1 Fc/\MR X.K cl θc Fc H wc.s/\MV X.K θc Fc σ wc.η/\mGo ks t u (ds.drop i) wc=some o) (i+1) n' σ' H',λ σ' H' n=>n,λ x H' y=>?_⟩;obtain ⟨F2,g2,rx⟩:=yl x H' y;refine HX ht (mc.grow g2) (vc.mono (LO _) g2.ff) rx e1 λ σ3 F3 H3 s3 m3 v3=>?_;refine ⟨θc,F3,w1,o1,m3,v3,e2,?_⟩;have s4:Same F1 F3:=sc.trans (g2.ff.trans s3);cases o1 with
  | nx w2=>exact λ σ' θ' F' H' p' s' m' v'=>cont w2 hgo σ' θ' F' H' (pc.trans p') (s4.trans s') m' v'
  | ct w2=>exact λ σ' θ' F' H' p' s' m' v'=>cont w2 hgo σ' θ' F' H' (pc.trans p') (s4.trans s') m' v'
  | bk w2 =>
   cases hgo;exact λ σ' θ' F' H' p' s' m' v'=>q σ' θ' F' H' (p1.trans (pc.trans p')) (q1.trans (s4.trans s')) m' v'
  | rt d s2 =>
   cases hgo;exact λ u θ' F' H' p' s' m' r'=>q u θ' F' H' (p1.trans (pc.trans p')) (q1.trans (s4.trans s')) m' r'
 ·have ei:i=ds.length:=by omega
  subst ei;rw [Np] at hgo;cases hgo;exact .inl ⟨ip2 rfl,q σc θc Fc Hc (p1.trans pc) (q1.trans sc) mc vc⟩
end
section
variable {X:Cx} {cl:Nat->Lz} {tg iter elt:Expr} {ifs:List Expr} {scope:Scope} {N':List Str} {mp:List (Option Nat)} {ks:List Nat} {gt:TG} {t:En->K5->Option En} {fi:En->Option (List K5)} {p:En->Option Bool} {f:En->Option K5} {pos:Pos}
noncomputable def mC (fs:En->Option (List K5)):MF:=λ w=>(fs (vw w)).bind λ xs=>some (.d (.list xs),w.s)
theorem MS.setC (i:Nat) {y:Str} {py spos:Pos} (hc:X.calm=true) (hN:X.N.Nodup) (ck:CompSc X scope N' mp) (ht:TgP X.K ks gt t) (hks:∀ k∈ks,mp[k]?=some none) (hi:∀ B,I X B tg iter fi)
  (hb:∀ B s H fp,PG (b6 X scope N' s H fp) tg gt/\Ts (b6 X scope N' s H fp) B ifs p/\E (b6 X scope N' s H fp) B elt f)
  (hiy:X.N[i]?=some y:=by rfl) (hy:X.env.scope.names.lookup y=some .local:=by rfl) (hsw:swapsWith (.ListComp elt [⟨tg,iter,ifs,0⟩] scope pos) (some (.Name y py)) spos.line X.env=pure true:=by rfl)
  (hs:∀ x,foldedSetIterable iter X.env x=pure x:=by intro _; rfl):MS X cl (.Assign [.Name y py] (.ListComp elt [⟨tg,iter,ifs,0⟩] scope pos) spos) (gQ i (mC (bf mp fi t p f))):=λ pins s σ H Z I ⟨θ,F,w,o,m,v,hf,q⟩=>by
 obtain ⟨⟨d,s1⟩,h1,hf⟩:=ab hf;cases hf;obtain ⟨xs,hx,h1⟩:=ab h1;cases h1;refine sO (g:=gt) (tt:=tT X.K ⟨F,H⟩ p) (te:=tE X.K ⟨F,H⟩ f) hc hN hiy hy ck (hi ⟨F,H⟩) (hb ⟨F,H⟩) hsw hs pins s σ H Z I ?_;refine wq ht hks σ H _ ⟨F,vw w,xs,m.vw v,hx,λ p zs F' H' g hp fp hp' rs=>?_⟩;obtain ⟨g2,r2⟩:=E4 m.sm g hp fp hp' rs;exact q _ θ _ H' (LO _) g2.ff (m.grow g2) ((v.mono (LO _) g2.ff).set i r2)
end
noncomputable def pDs (s:Sto):List D->Option (List K5)
 | []=>some []
 | d::r=>(pD s d).bind λ x=>(pDs s r).bind λ xs=>some (x::xs)
noncomputable def mCB (o:List K5->Option K5) (fs:MFs):MF:=λ w=>(fs w).bind λ r=>(pDs r.2 r.1).bind λ xs=>(o xs).bind λ x=>some (.d x,r.2)
section
variable {X:Cx} {cl:Nat->Lz} {e:Expr} {es:List Expr} {fs:MFs} {pos pp:Pos}
theorem EK {K:K6} {θ:List Lz} {F H:Hp} {s:Sto} (m:MR K cl θ F H s) {ds:List D} {vs:List V} (h:DRs K θ F ds vs):∀ {xs:List K5},pDs s ds=some xs->RelL K F xs vs:=by
 induction h with
 | nil=>intro xs e; cases e; exact .nil
 | @cons a b as bs r t ih =>
  intro xs e;unfold pDs at e;obtain ⟨x,h1,e⟩:=ab e;obtain ⟨zs,h2,e⟩:=ab e;cases e;exact .cons (B1 m _ _ _ h1 r) (ih h2)
end
section
variable {X:Cx} {cl:Nat->Lz} {a b:Expr} {f g:MF} {pos:Pos}
theorem MT.eq {k:Nat} (hr:Room k X.A) (ha:ME X cl a f) (hb:ME X cl b g):MT X cl (.Compare a [.Eq] [b] pos) (mB (m7 pEq f g)):=MT.cmp (yZ hr.units) DP (nomark b) ha hb
theorem MT.ne {k:Nat} (hr:Room k X.A) (ha:ME X cl a f) (hb:ME X cl b g):MT X cl (.Compare a [.NotEq] [b] pos) (mB (m7 pNe f g)):=MT.cmp (CA hr.units) FY (nomark b) ha hb
end
noncomputable def spL (K:K6):Sp:=λ vs H Q _=>∃ (a:Lz) (ns:List Int),vs=[.ref a]/\SqL K H a (ns.map V.int)/\ns.length<=63/\∀ H',Q (.bl true) H'
theorem Eg {K:K6} {cl:Nat->Lz} {fn:List D->Sto->Option (D×Sto)} (main:∀ ns:List Int,ns.length<=63->∃ s',fn [.d (.list (ns.map Lv))] []=some (.d (.bool true),s')):∀ vs H Q E,spL K vs H Q E->spM K cl fn vs H Q E:=λ vs H Q E ⟨a,ns,e,hS,hl,q⟩=>by
 subst e;obtain ⟨s',hm⟩:=main ns hl;exact ⟨[],H,[],[.d (.list (ns.map Lv))],.d (.bool true),s',⟨.refl _,rfl,by simp,λ n a c h=>by simp at h⟩,.cons (show Rel K H (.list (ns.map Lv)) (.ref a) from jk hS (RelL.ints ns)) .nil,hm,λ v θ' F' H' _ _ _ r=>by rw [(show Rel K F' (.bool true) v from r).bl]; exact q H'⟩
section
variable {X:Cx} {cl:Nat->Lz} {e:Expr} {es:List Expr} {fs:MFs} {pos:Pos}
theorem ME.callP {k k':Nat} {fa:Lz} {fd:Mj} {ps:List Str} {x:Str} {ppos:Pos} {fn:List K5->Option K5} (G:FnOk X.prog X.w X.K X.mg X.base CX0 k fa fd ps (spP X.K fn)) (hr:Room k' X.A) (hkk:k<=k') (hm:X.mg x=some (.ref fa)) (hk:MH X.K (.ref fa)=true) (hb:Binds X.K fd ps [])
  (ha:MA X cl (e::es) fs) (hg:Gl X x:=by rfl) (hdb:(x==("__debug__" : Str))=false:=by decide) (he:Lj (e::es) X.env=(false,eval e X.env)::Lj es X.env:=by exact bD rfl) (hpl:(backTo pos (Lj es X.env)).any (·.1)=false:=by exact iJ rfl) :
  ME X cl (.Call (.Name x ppos) (e::es) [] pos) (mCB fn fs):=PE.imp (vP G (hr.mono hkk) hg hm hk hb .nil uV ha hdb he hpl) λ σ H Q ⟨θ,F,w,d,s',m,v,hf,q⟩=>by
 obtain ⟨⟨ds,s1⟩,h1,hf⟩:=ab hf;obtain ⟨xs,h2,hf⟩:=ab hf;obtain ⟨x,h3,hf⟩:=ab hf;cases hf;refine ⟨θ,F,w,ds,_,m,v,h1,λ vs θ1 F1 H1 p1 q1 m1 r1=>?_⟩;show spP X.K fn (vs++[]) H1 Q E0;rw [LY];exact ⟨F1,xs,x,m1.sm,EK m1 r1 h2,h3,λ u F2 H2 g2 r2=>q u θ1 F2 H2 p1 (q1.trans g2.ff) (m1.grow g2) r2⟩
end
section
variable {w w1:Wd} {s s1 s2:Sto} {d d1 d2:D} {ds:List D} {n i k:Nat} {nm:Str}
theorem a6 {f g:Wd->Option MOut} {r:Option MOut} (h1:f w=some (.nx w1)) (h2:g w1=r):b5 f g w=r:=by
 unfold b5;rw [h1]; exact h2
theorem c0 {f:MF} (h:f w=some (d,s)):gQ i f w=some (.nx ⟨w.η.set i (some d),s⟩):=by
 unfold gQ;rw [h]; rfl
theorem n0 {f:MF} (h:f w=some (d,s)):jU f w=some (.rt d s):=by
 unfold jU;rw [h]; rfl
theorem e9 {f:MF} (h:f w=some (d,s)):jc f w=some (.nx ⟨w.η,s⟩):=by
 unfold jc;rw [h]; rfl
theorem aQ {f:En->Option K5} {x:K5} (h:f (vw w)=some x):mP f w=some (.d x,w.s):=by
 unfold mP;rw [h]; rfl
theorem IM {f:En->Option (List K5)} {x:List K5} (h:f (vw w)=some x):mC f w=some (.d (.list x),w.s):=by
 unfold mC;rw [h]; rfl
theorem oT {f:En->Option Bool} {b:Bool} (h:f (vw w)=some b):tPv f w=some (b,w.s):=by
 unfold tPv;rw [h]; rfl
theorem C1 {c:MTF} {f g:Wd->Option MOut} {r:Option MOut} (h:c w=some (true,s)) (h2:f ⟨w.η,s⟩=r):mIf c f g w=r:=by
 unfold mIf;rw [h]; exact h2
theorem oj {c:MTF} {f g:Wd->Option MOut} {r:Option MOut} (h:c w=some (false,s)) (h2:g ⟨w.η,s⟩=r):mIf c f g w=r:=by
 unfold mIf;rw [h]; exact h2
theorem xG {c:MTF} {f:Wd->Option MOut} (h:c w=some (false,s)):mIf c f mNx w=some (.nx ⟨w.η,s⟩):=oj h rfl
theorem eg:maN w=some ([],w.s):=rfl
theorem aV {f:MF} {fs:MFs} (h1:f w=some (d,s1)) (h2:fs ⟨w.η,s1⟩=some (ds,s2)):maC f fs w=some (d::ds,s2):=by
 unfold maC;rw [h1,K8,h2]; rfl
theorem d6 {fn:List D->Sto->Option (D×Sto)} {o:MF} {fs:MFs} {as:List (Str×D)} (h0:o w=some (.r n,s)) (hc:s[n]?=some (.obj k as)) (hl:as.lookup nm=none) (h1:fs ⟨w.η,s⟩=some (ds,s1)) (h2:fn (.r n::ds) s1=some (d,s2)):bZ k nm fn o fs w=some (d,s2):=by
 unfold bZ;rw [h0,K8];dsimp only;rw [hc];dsimp only;rw [if_pos ⟨rfl,hl⟩,h1]; exact h2
theorem C0 {fn:List D->Sto->Option (D×Sto)} {fs:MFs} (h1:fs w=some (ds,s)) (h2:fn (.r s.length::ds) (s++[.obj k []])=some (.d .none,s2)):xF k fn fs w=some (.r s.length,s2):=by
 unfold xF;rw [h1,K8,h2]; rfl
theorem n4 {o e:MF} {fs:List (Str×D)} (h1:e w=some (d,s1)) (h2:o ⟨w.η,s1⟩=some (.r n,s2)) (hc:s2[n]?=some (.obj k fs)) (hl:fs.length < 999):tD k nm o e w=some (.nx ⟨w.η,s2.set n (.obj k (vL nm d fs))⟩):=by
 unfold tD;rw [h1,K8,h2,K8];dsimp only;rw [hc];dsimp only;rw [if_pos ⟨rfl,hl⟩]
theorem C3 {f:MF} {b:Bool} (h:f w=some (.d (.bool b),s)):mB f w=some (b,s):=by
 unfold mB;rw [h]; rfl
theorem wb {o:K5->K5->Option K5} {f g:MF} {x y z:K5} (h1:f w=some (d1,s1)) (h2:g ⟨w.η,s1⟩=some (d2,s2)) (hx:lD s2 d1=some x) (hy:lD s2 d2=some y) (ho:o x y=some z) (hf:je z=true):m7 o f g w=some (.d z,s2):=by
 unfold m7;rw [h1,K8,h2,K8,hx,K8,hy,K8,ho,K8,if_pos hf]
theorem tF {o:List K5->Option K5} {fs:MFs} {xs:List K5} {x:K5} (h1:fs w=some (ds,s)) (h2:pDs s ds=some xs) (h3:o xs=some x):mCB o fs w=some (.d x,s):=by
 unfold mCB;rw [h1,K8,h2,K8,h3]; rfl
theorem BS {f g:MTF} {a b:Bool} (h1:f w=some (a,w.s)) (h2:g w=some (b,w.s)):sy f g w=some (a&&b,w.s):=by
 unfold sy;rw [h1,K8];cases a with
 | false=>rfl
 | true=>exact h2
theorem Gf {f g:MTF} (h1:f w=some (false,w.s)):sy f g w=some (false,w.s):=by
 unfold sy;rw [h1]; rfl
theorem nZ {a b:Nat} {g:Wd->Option MOut} (hl:ds.length=a) (h:g ⟨ds.map some++Mm (b - a) none,s⟩=some (.rt d s1)):iH a b g ds s=some (d,s1):=by
 unfold iH;rw [if_pos hl,h]; rfl
theorem xE {a b:Nat} {g:Wd->Option MOut} (hl:ds.length=a) (h:g ⟨ds.map some++Mm (b - a) none,s⟩=some (.nx w1)):iH a b g ds s=some (.d .none,w1.s):=by
 unfold iH;rw [if_pos hl,h]; rfl
theorem Ap {ks:List Nat} {it:Wd->Option (List K5×Sto)} {t:En->K5->Option En} {body:Wd->Option MOut} {xs:List K5} {r:Option MOut} (h:it w=some (xs,s)) (h2:mGo ks t body xs ⟨w.η,s⟩=r):y6 ks it t body w=r:=by
 unfold y6;rw [h]; exact h2
theorem zf {f:En->Option (List K5)} {xs:List K5} (h:f (vw w)=some xs):iPu f w=some (xs,w.s):=by
 unfold iPu;rw [h]; rfl
theorem pJ {x:K5} (h:i < w.η.length):mTg [i] (tgN i) w x=some ⟨w.η.set i (some (.d x)),w.s⟩:=by
 have e:((vw w).set i (.val x))[i]?=some (.val x):=Lr (by unfold vw; rw [K7]; exact h);show (some ((vw w).set i (.val x))).bind _=_;rw [K8];unfold back;rw [e];rfl
theorem D4 {g:D->Option K5} {fs:List (Str×D)} (hc:s[n]?=some (.obj k fs)):vwS g s (some (.r n))=.ob λ f=>(fs.lookup f).bind g:=by
 unfold vwS;dsimp only;rw [hc]
end
noncomputable def uz (mp:List (Option Nat)) (η:MEn):MEn:=mp.map λ o=>o.bind λ j=>(η[j]?).join
noncomputable def tm (ks:List Nat) (t:En->K5->Option En) (p:MTF) (f:MF) (n:Nat) (η:MEn):List K5->Sto->Option Sto
 | [],s=>some s
 | d::ds,s=>(mTg ks t ⟨η,s⟩ d).bind λ w1=>(p w1).bind λ r=>if r.1=true then
   (f ⟨w1.η,r.2⟩).bind λ q=>match q.2[n]? with
    | some (.lst acc)=>if acc.length < Li then tm ks t p f n η ds (q.2.set n (.lst (acc++[q.1]))) else none
    | _=>none
  else tm ks t p f n η ds r.2
noncomputable def mcL (mp:List (Option Nat)) (it:Wd->Option (List K5×Sto)) (ks:List Nat) (t:En->K5->Option En) (p:MTF) (f:MF):MF:=λ w=>(it w).bind λ r =>
 (tm ks t p f r.2.length (uz mp w.η) r.1 (r.2++[.lst []])).bind λ s=>some (.r r.2.length,s)
noncomputable def MTs (X:Cx) (cl:Nat->Lz) (ifs:List Expr) (f:MTF):Prop:=PTs X ifs (tMT X.K cl f)
noncomputable def qg:MTF:=λ w=>some (true,w.s)
section
variable {X:Cx} {cl:Nat->Lz} {tg iter elt c:Expr} {ifs:List Expr} {scope:Scope} {N':List Str} {mp:List (Option Nat)} {ks:List Nat} {gt:TG} {t:En->K5->Option En} {fi:Wd->Option (List K5×Sto)} {p:MTF} {f:MF} {pos:Pos}
theorem MTs.nil:MTs X cl [] qg:=λ pins s σ H Q I ⟨θ,F,w,b,s',m,v,hf,q⟩=>by
 cases hf;exact zR pins s σ H Q I (q θ F H (LO _) (.refl _) m)
theorem MTs.one (h:MT X cl c p):MTs X cl [c] p:=zQ h
theorem sS {α β:Type} {R:α->β->Prop} {as:List α} {bs:List β} (h:Paired R as bs) {a:α} {b:β} (r:R a b):Paired R (as++[a]) (bs++[b]):=by
 induction h with
 | nil=>exact .cons r .nil
 | cons q _ ih=>exact .cons q ih
theorem lM {α β:Type} {R:α->β->Prop} {as:List α} {bs:List β} (h:Paired R as bs):as.length=bs.length:=by
 induction h with
 | nil=>rfl
 | cons q _ ih=>rw [Lu,Lu,ih]
theorem EZ {K:K6} {θ:List Lz} {F:Hp} {σ:St} {η:MEn} (v:MV K θ F σ η) (mp:List (Option Nat)):MV K θ F (gR mp σ) (uz mp η):=by
 refine ⟨by unfold uz gR; rw [K7,K7],λ i d e=>?_⟩;unfold uz at e;unfold gR;rw [Le] at e ⊢;cases hm:mp[i]? with
 | none=>rw [hm] at e; cases e
 | some o =>
  rw [hm] at e;have e':(o.bind λ j=>(η[j]?).join)=some d:=Option.some.inj e;cases o with
  | none=>cases e'
  | some j =>
   have e2:(η[j]?).join=some d:=e';cases hj:η[j]? with
   | none=>rw [hj] at e2; cases e2
   | some y =>
    rw [hj] at e2;have e3:y=some d:=e2;subst e3;obtain ⟨u,h1,h2⟩:=v.val j d hj;refine ⟨u,?_,h2⟩;show some ((σ[j]?).join)=some (some u);rw [h1]; rfl
theorem C7 (ht:TgP X.K ks gt t) (hks:∀ k∈ks,mp[k]?=some none):∀ σ H Q,tM X.K cl (mcL mp fi ks t p f) σ H Q->zD mp (tMI X.K cl fi) gt (tMT X.K cl p) (tM X.K cl f) σ H Q:=λ σ H Q ⟨θ,F,w,d,s',m,v,hf,q⟩=>by
 obtain ⟨⟨ds,s1⟩,h1,hf⟩:=ab hf;obtain ⟨s2,h2,hf⟩:=ab hf;cases hf;dsimp only at h2;refine ⟨θ,F,w,ds,s1,m,v,h1,λ J θ1 F1 H1 p1 q1 m1 ip D hD=>?_⟩;have kept:∀ {σ2:St},σ2.length=(gR mp σ).length->(∀ i,i∉ks->σ2[i]?=(gR mp σ)[i]?)->sw (gR mp σ) σ2:=λ {σ2} hl hn=>⟨hl,λ i v e=>by
  by_cases hi:i∈ks
  ·have z:=hks i hi;unfold gR at e;rw [Le,z] at e;cases e
  ·rw [hn i hi]; exact e⟩
 have v1:MV X.K θ1 F1 (gR mp σ) (uz mp w.η):=EZ (v.mono p1 q1) mp;have pD:θ1<+:θ1++[D]:=Nf _ _;have mD:MR X.K cl (θ1++[D]) F1 (upd H1 D (.lst [])) (s1++[.lst []]):=m1.new hD ⟨m1.sm.free hD,[],aX,.nil⟩;have hDn:∀ {θ'},(θ1++[D])<+:θ'->θ'[s1.length]?=some D:=λ {θ'} hp=>sh hp (by rw [<- m1.len,Lx (Lp _),Mc]; rfl);refine ⟨λ i k Hc=>k=ds.length - i/\i<=ds.length/\∃ θc Fc sc,(θ1++[D])<+:θc/\Same F1 Fc/\MR X.K cl θc Fc Hc sc/\tm ks t p f s1.length (uz mp w.η) (ds.drop i) sc=some s',⟨_,rfl,Ml _,θ1++[D],F1,_,LO _,.refl _,mD,by simpa using h2⟩,?_⟩
 rintro i k Hc ⟨rfl,hi,θc,Fc,sc,pc,fc,mc,hgo⟩
 obtain ⟨ip1,ip2⟩:=ip Fc Hc i fc mc.sm;by_cases hlt:i < ds.length
 ·have e:ds[i]?=some ds[i]:=K9 hlt;obtain ⟨go,yl⟩:=ip1 _ e;rw [My hlt] at hgo;unfold tm at hgo;obtain ⟨w1,e1,hgo⟩:=ab hgo;obtain ⟨⟨ok,s3⟩,e2,hgo⟩:=ab hgo;dsimp only at hgo;refine .inr ⟨go,λ H'=>∃ m',m' < ds.length - i/\(m'=ds.length - (i+1)/\i+1<=ds.length/\∃ θc Fc sc,(θ1++[D])<+:θc/\Same F1 Fc/\MR X.K cl θc Fc H' sc/\tm ks t p f s1.length (uz mp w.η) (ds.drop (i+1)) sc=some s'),λ H' n=>n,λ x H' y=>?_⟩;obtain ⟨F2,g2,rx⟩:=yl x H' y;have m2:=mc.grow g2;have v2:MV X.K θc F2 (gR mp σ) (uz mp w.η):=v1.mono (pD.trans pc) (fc.trans g2.ff);obtain ⟨ζ,e3,e1⟩:=ab e1;obtain ⟨η1,e4,e1⟩:=ab e1;cases e1;refine ht ⟨F2,H'⟩ F2 H' (gR mp σ) _ _ x ζ (MR.vw (w:=⟨uz mp w.η,sc⟩) m2 v2) rx e3 _ λ σ3 F3 H3 sr3 g3 l3 n3=>⟨kept l3 n3,?_⟩;have m3:=m2.grow g3;have v3:MV X.K θc F3 σ3 η1:=wA sr3 ks e4 (by rw [v2.len,l3]) λ i d' e=>by
   by_cases hi:i∈ks
   ·exact .inl hi
   ·obtain ⟨u,e1,e2⟩:=v2.val i d' e;exact .inr ⟨u,by rw [n3 i hi]; exact e1,e2.mono (LO _) g3.ff⟩
  have f3:Same F1 F3:=fc.trans (g2.ff.trans g3.ff);refine ⟨θc,F3,⟨η1,sc⟩,ok,s3,m3,v3,e2,λ θ4 F4 H4 p4 q4 m4=>?_⟩;cases ok with
  | false =>
   rw [if_neg LB] at hgo;rw [if_neg LB];exact ⟨_,by omega,rfl,hlt,θ4,F4,s3,pc.trans p4,f3.trans q4,m4,hgo⟩
  | true =>
   rw [if_pos rfl] at hgo;rw [if_pos rfl];obtain ⟨⟨d5,s5⟩,e5,hgo⟩:=ab hgo;refine ⟨θ4,F4,⟨η1,s3⟩,d5,s5,m4,v3.mono p4 q4,e5,λ u θ5 F5 H5 p5 q5 m5 r5=>?_⟩;dsimp only at hgo;split at hgo
   ·rename_i acc hacc;split at hgo
    ·rename_i hlen;have hp5:(θ1++[D])<+:θ5:=pc.trans (p4.trans p5);obtain ⟨z1,xs,z2,z3⟩:=m5.cel _ D _ (hDn hp5) hacc;refine ⟨xs,z2,by rw [<- lM z3]; exact hlen,_,by omega,rfl,hlt,θ5,F5,_,hp5,f3.trans (q4.trans q5),m5.put (c':=.lst (acc++[d5])) (hDn hp5) hacc rfl ⟨z1,xs++[u],aX,sS z3 r5⟩,hgo⟩
    ·cases hgo
   ·cases hgo
 ·have ei:i=ds.length:=by omega
  subst ei;rw [Np] at hgo;cases hgo;exact .inl ⟨ip2 rfl,q _ θc Fc Hc (p1.trans (pD.trans pc)) (q1.trans fc) mc ⟨D,hDn pc,rfl⟩⟩
theorem ME.lcomp (hc:X.calm=true) (ck:CompSc X scope N' mp) (ht:TgP X.K ks gt t) (hks:∀ k∈ks,mp[k]?=some none) (hi:MI X cl tg iter fi)
  (hb:∀ s H fp,PG (b6 X scope N' s H fp) tg gt/\MTs (b6 X scope N' s H fp) cl ifs p/\ME (b6 X scope N' s H fp) cl elt f)
  (hs:∀ x,foldedSetIterable iter X.env x=pure x:=by intro _; rfl):ME X cl (.ListComp elt [⟨tg,iter,ifs,0⟩] scope pos) (mcL mp fi ks t p f):=PE.imp (z5 hc ck hi hb hs) (C7 ht hks)
end
noncomputable def mFz (f:MF):MF:=λ w=>(f w).bind λ r=>match r.1 with
 | .d x=>some (.d x,r.2)
 | .r n=>match r.2[n]? with
  | some (.lst ds)=>(tW ds).bind λ xs=>some (.d (.list xs),r.2.set n (.fz (.list xs)))
  | some (.fz x)=>some (.d x,r.2)
  | _=>none
section
variable {X:Cx} {cl:Nat->Lz} {a b c e o:Expr} {es:List Expr} {f g:MF} {fs:MFs} {tc:MTF} {pos:Pos}
theorem CelR.frz {K:K6} {θ:List Lz} {F H:Hp} {a b:Lz} {o:HO} {c:Cell} (h:CelR K cl θ F H b c) (hne:b≠a) (hF:F a=none):CelR K cl θ (upd F a o) H b c:=by
 have sn:Same F (upd F a o):=dj hF o;cases c with
 | obj k fs=>obtain ⟨h1,h2,h3,dx,xs,h4,h5⟩:=h; exact ⟨by rw [aE hne]; exact h1,h2,h3,dx,xs,h4,h5.mono (LO _) sn⟩
 | lst ds=>obtain ⟨h1,xs,h4,h5⟩:=h; exact ⟨by rw [aE hne]; exact h1,xs,h4,h5.mono (LO _) sn⟩
 | dct kvs=>obtain ⟨h1,xs,h4,h5⟩:=h; exact ⟨by rw [aE hne]; exact h1,xs,h4,h5.mono (LO _) sn⟩
 | fz x=>exact ⟨Rel.mono sn h.1,h.2⟩
theorem MR.frz {K:K6} {θ:List Lz} {F H:Hp} {s:Sto} (m:MR K cl θ F H s) {n:Nat} {ad:Lz} {ds:List D} {xs:List K5} (e1:θ[n]?=some ad) (e2:s[n]?=some (.lst ds)) (hx:tW ds=some xs) :
  ∃ F',Same F F'/\MR K cl θ F' H (s.set n (.fz (.list xs)))/\Rel K F' (.list xs) (.ref ad):=by
 obtain ⟨h1,vs,h4,h5⟩:=m.cel n ad _ e1 e2;have sn:Same F (upd F ad (.lst vs)):=dj h1 _;have rl:Rel K (upd F ad (.lst vs)) (.list xs) (.ref ad):=jk (SqL.of aX) ((x5 h5 hx).mono sn);refine ⟨upd F ad (.lst vs),sn,⟨λ b u q=>?_,by rw [LC]; exact m.len,m.nd,λ k b c f1 f2=>?_⟩,rl⟩
 ·by_cases hb:b=ad
  ·subst hb; rw [aX] at q; rw [<- q]; exact h4
  ·rw [aE hb] at q; exact m.sm b u q
 ·by_cases hk:n=k
  ·subst hk;rw [Lr (Lb.mp e2).1] at f2;cases f2;rw [e1] at f1;cases f1;exact ⟨rl,_,h4⟩
  ·rw [Ld hk] at f2;exact (m.cel k b c f1 f2).frz (FN m.nd f1 e1 (Ne.symm hk)) h1
theorem IZ:∀ σ H Q,tM X.K cl (mFz f) σ H Q->tM X.K cl f σ H Q:=λ σ H Q ⟨θ,F,w,d,s',m,v,hf,q⟩=>by
 obtain ⟨⟨d1,s1⟩,h1,hf⟩:=ab hf;refine ⟨θ,F,w,d1,s1,m,v,h1,λ u θ1 F1 H1 p1 q1 m1 r1=>?_⟩;cases d1 with
 | d x=>cases hf; exact q u θ1 F1 H1 p1 q1 m1 r1
 | r n =>
  dsimp only at hf;obtain ⟨ad,e1,rfl⟩:=r1;split at hf
  ·rename_i ds e2;obtain ⟨xs,hx,hf⟩:=ab hf;cases hf;obtain ⟨F2,sn,m2,rl⟩:=m1.frz e1 e2 hx;exact q _ θ1 F2 H1 p1 (q1.trans sn) m2 rl
  ·rename_i x e2;cases hf;exact q _ θ1 F1 H1 p1 q1 m1 (m1.cel n ad _ e1 e2).1
  ·cases hf
theorem ME.fz (h:ME X cl e f):ME X cl e (mFz f):=PE.imp h IZ
end
noncomputable def xI (o g:MF):MF:=λ w=>(o w).bind λ r=>match r.1 with
 | .r n=>(match r.2[n]? with
  | some (.lst _)=>(g ⟨w.η,r.2⟩).bind λ q=>match q.2[n]? with
   | some (.lst ds)=>if ds.length < Li then some (.d .none,q.2.set n (.lst (ds++[q.1]))) else none
   | _=>none
  | _=>none)
 | _=>none
section
variable {X:Cx} {cl:Nat->Lz} {o e:Expr} {f g:MF} {apos cpos:Pos}
theorem ME.appC (ho:ME X cl o f) (he:ME X cl e g) (hbase:attributeBase o "append" X.env (eval o X.env)=eval o X.env:=by rfl)
  (hfew:((backTo cpos (Lj [e] X.env)).all (λ x=>!x.1)&&(backToKw cpos (keywordEach [] X.env)).all (λ x=>x.1.isSome)
   && decide ([e].length+([]:List Keyword).length+(if ([]:List Keyword).isEmpty then 0 else 1) < 30))=true:=by rfl)
  (hline:(apos.endLine==cpos.line)=true:=by rfl) (hs:Lj [e] X.env=(false,eval e X.env)::Lj [] X.env:=by exact bD rfl) (hplain:(backTo cpos (Lj [] X.env)).any (·.1)=false:=by rfl) :
  ME X cl (.Call (.Attribute o "append" apos) [e] [] cpos) (xI f g) :=
 PE.imp (uU PySem.F.plainAttrs_list PySem.F.slot_list_append PySem.F.type_list_append qy ho (aA he eN hs) hbase hfew hline hs hplain) λ σ H Q ⟨θ,F,w,d,s',m,v,hf,q⟩=>by
  obtain ⟨⟨d1,s1⟩,h1,hf⟩:=ab hf;cases d1 with
  | d x=>cases hf
  | r n =>
   dsimp only at hf;split at hf
   ·rename_i ds0 hc0;obtain ⟨⟨d2,s2⟩,h2,hf⟩:=ab hf;dsimp only at hf;split at hf
    ·rename_i ds hc;split at hf
     ·rename_i hl;cases hf;refine ⟨θ,F,w,_,s1,m,v,h1,λ u θ1 F1 H1 p1 q1 m1 r1=>?_⟩;obtain ⟨ad,z1,rfl⟩:=r1;obtain ⟨w1,xs0,w3,w4⟩:=m1.cel n ad _ z1 hc0;refine ⟨.inl ⟨rfl,xs0,SqL.of w3⟩,θ1,F1,⟨w.η,s1⟩,[d2],s2,m1,v.mono p1 q1,aV h2 eg,λ vs θ2 F2 H2 p2 q2 m2 r2=>?_⟩;cases r2 with
      | @cons _ y _ _ ra rn =>
       cases rn;have z2:=sh p2 z1;obtain ⟨w5,xs,w6,w7⟩:=m2.cel n ad _ z2 hc;have hlx:=lM w7;refine ⟨ad,xs,y,rfl,rfl,w6,by rw [<- hlx]; exact hl,?_⟩;exact q _ θ2 F2 _ (p1.trans p2) (q1.trans q2) (m2.put (c':=.lst (ds++[d2])) z2 hc rfl ⟨w5,xs++[y],aX,sS w7 ra⟩) (show Rel X.K F2 .none .non from pB)
     ·cases hf
    ·cases hf
   ·cases hf
end
section
variable {X:Cx} {cl:Nat->Lz} {tg e:Expr} {f:MF} {pos:Pos}
end
structure Fly (P:LM) (w:World) (outer:List Env) (H:Hp) (s:Lh) (a C:Lz) (H':Hp) (s':Lh):Prop where
 os:s'.os=s.os
 bare:AllBare s'.gens
 un:Un (frs outer) [] H H' s.heap s'.heap
 hok:HOk P w H' s'.heap
 nofr:∀ b∈frs outer,H' b=none
 fly:∃ (B:Heap) (t:Lz),Heap.FlyingW B outer a (.ref C) (.ref t) s'.heap/\∀ b o,s'.heap.get? b=some o->((∃ u,H' b=some u)\/∃ o₀,s.heap.get? b=some o₀)->b∉frs outer->B.get? b=some o
section
variable {X:Cx} {B:Bd} {W:Nat->Hp->Prop} {ca:Nat->Lz}
variable {st:Stmt} {sts sts':List Stmt} {e a b:Expr} {es:List Expr} {f:En->Option K5} {fs:En->Option (List K5)} {g g':En->Option Nat} {u:En->Option Out} {p:En->Option Bool} {pos pos':Pos}
end
section
variable {X:Cx} {B:Bd} {W:Nat->Hp->Prop} {ca:Nat->Lz} {e a b c:Expr} {f:En->Option K5} {p q r:En->Bool} {pos pos':Pos}
end
noncomputable abbrev KC:List Lf:=[.type "ValueError", .type "Exception", .type "BaseException", .type "object"]
structure XCls (K:K6) (D:Lz):Prop where
 ex:PySem.W.excIn K D KC "ValueError.__new__" = true
 ga:Me K (.ref D) "__getattribute__" = some (some (.builtin "BaseException.__getattribute__"))
 gt:Me K (.ref D) "__getattr__" = some none
 cl:Me K (.ref D) "__class__" = some (some (.builtin "object.__class__"))
 gg:PySem.W.specialIn K (.builtin "object.__class__") "__get__" = some (some (.builtin "getset_descriptor.__get__"))
 tk:PySem.W.takesIn K (.builtin "object.__class__")=some true
 mb:PySem.W.mroIn K D (.type "BaseException")=some true
 mo:PySem.W.mroIn K D (.type "object")=some true
section
variable {P:LM} {w:World} {A:Mb} {Z:Lf->Lh->Prop} {s:Lh} {K:K6} {x D:Lz}
end
section
variable {X:Cx} {pos pp ep tp:Pos} {en T:Str}
end
structure J8 (k:Nat) (A:Mb):Prop where
 dp:A.depth+3*k+5 < recursionLimit
 un:A.units+16*k+200 < cLine
noncomputable abbrev Cx.at (X:Cx) (A:Mb):Cx:={ X with A:=A,calm:=false,xe:=λ _ _=>False }
noncomputable abbrev SpC:=List V->Hp->VK->Prop
structure FnC (P:LM) (w:World) (K:K6) (mg:Str->Option Lf) (base:Heap) (k:Nat) (f:Lz) (fd:Mj) (ps:List Str) (sp:SpC):Prop where
 len:∀ vs H Q,sp vs H Q->vs.length=ps.length
 run:∀ (A:Mb) (outer:List Env) (s:Lh) (H:Hp) (us:List Lf) (vs:List V) (Q:VK),J8 k A->Env0 P w K mg base A outer s H->BindsTo s fd ⟨us,[]⟩ (ps.zip us)->Vals vs us->sp vs H Q ->
  codeAny (L6 P w) A (.call (.ref f) ⟨us,[]⟩) (CR CX0 outer P w H s Q E0) s
structure Refs (K:K6) (ca:Nat->Lz):Prop where
 xc:∀ c,c < 4->XCls K (ca c)
 kit:∀ c i,c < 4->i < 4->PySem.W.kitOne K (.ref (ca c)) (.ref (ca i))=some (decide (c=i))
 val:∀ c,c < 4->PySem.W.kitOne K (.ref (ca c)) (.type "ValueError")=some true
section
variable (K:K6) (cl:Nat->Lz) (W:Nat->Hp->Prop)
end
noncomputable abbrev MXF:=Wd->Option (Nat×Sto)
section
variable {X:Cx} {cl:Nat->Lz} {W:Nat->Hp->Prop} {ca:Nat->Lz} {st:Stmt} {sts sts':List Stmt} {e o:Expr} {es:List Expr} {u:Wd->Option MOut} {f:MF} {fs:MFs} {g g':MXF} {px:En->Option Nat} {p:MTF} {pos pos':Pos}
end
noncomputable def Am (f:MF):MTF:=λ w=>(f w).bind λ r=>match r.1 with
 | .r n=>(match r.2[n]? with
  | some (.lst ds)=>some (!ds.isEmpty,r.2)
  | _=>none)
 | _=>none
noncomputable def An (f:MF):MF:=λ w=>(f w).bind λ r=>match r.1 with
 | .r n=>(match r.2[n]? with
  | some (.lst ds)=>(ds[ds.length - 1]?).bind λ d=>some (d,r.2.set n (.lst ds.dropLast))
  | _=>none)
 | _=>none
theorem xl {α β:Type} {R:α->β->Prop} {as:List α} {bs:List β} (h:Paired R as bs):Paired R as.dropLast bs.dropLast:=by
 induction h with
 | nil=>exact .nil
 | @cons a b as bs q t ih =>
  cases t with
  | nil=>exact .nil
  | cons q2 t2=>exact .cons q ih
section
variable {X:Cx} {cl:Nat->Lz} {o e:Expr} {f:MF} {apos cpos pos pp:Pos}
theorem MT.truL (he:ME X cl e f) (hi:∀ whole,isTrue e X.env whole=(do let v <- whole; standAt e.pos; holding [v] (truthy v)):=by intro _; rfl):MT X cl e (Am f):=PT.imp (Cd he hi) λ σ H Q ⟨θ,F,w,b,s',m,v,hf,q⟩=>by
 obtain ⟨⟨d1,s1⟩,h1,hf⟩:=ab hf;cases d1 with
 | d x=>cases hf
 | r n =>
  dsimp only at hf;split at hf
  ·rename_i ds hc;cases hf;refine ⟨θ,F,w,_,_,m,v,h1,λ u θ1 F1 H1 p1 q1 m1 r1=>?_⟩;obtain ⟨ad,z1,rfl⟩:=r1;obtain ⟨w1,xs,w3,w4⟩:=m1.cel n ad _ z1 hc;have hlx:=lM w4;refine ⟨_,.inl ⟨xs,SqL.of w3,?_⟩,q θ1 F1 H1 p1 q1 m1⟩;cases w4 with
   | nil=>rfl
   | cons _ _=>rfl
  ·cases hf
theorem ME.popL (ho:ME X cl o f) (hbase:attributeBase o "pop" X.env (eval o X.env)=eval o X.env:=by rfl)
  (hline:(apos.endLine==cpos.line)=true:=by rfl):ME X cl (.Call (.Attribute o "pop" apos) [] [] cpos) (An f) :=
 PE.imp (GN PySem.F.plainAttrs_list PySem.F.slot_list_pop PySem.F.type_list_pop GZ ho hbase hline) λ σ H Q ⟨θ,F,w,d,s',m,v,hf,q⟩=>by
  obtain ⟨⟨d1,s1⟩,h1,hf⟩:=ab hf;cases d1 with
  | d x=>cases hf
  | r n =>
   dsimp only at hf;split at hf
   ·rename_i ds hc;obtain ⟨d2,hd,hf⟩:=ab hf;cases hf;refine ⟨θ,F,w,_,s1,m,v,h1,λ u θ1 F1 H1 p1 q1 m1 r1=>?_⟩;obtain ⟨ad,z1,rfl⟩:=r1;obtain ⟨w1,xs,w3,w4⟩:=m1.cel n ad _ z1 hc;have hlx:=lM w4;obtain ⟨y,e1,e2⟩:=DRs.get w4 hd;rw [hlx] at e1;refine ⟨.inl ⟨rfl,xs,SqL.of w3⟩,ad,xs,y,rfl,rfl,w3,e1,?_⟩;exact q _ θ1 F1 _ p1 q1 (m1.put (c':=.lst ds.dropLast) z1 hc rfl ⟨w1,xs.dropLast,aX,xl w4⟩) e2
   ·cases hf
end
section
variable {X:Cx} {tg a b c:Expr} {B:Bd} {fs:En->Option (List K5)} {pos:Pos}
end
section
variable {X:Cx} {cl:Nat->Lz} {tg a b e:Expr} {f g:MF} {pos:Pos}
noncomputable def iMT (f:MF):Wd->Option (List K5×Sto):=λ w=>(f w).bind λ r=>match r.1 with | .d (.tuple ds)=>some (ds,r.2) | _=>none
theorem MI.tup (h:ME X cl e f):MI X cl tg e (iMT f):=PI.imp (Cm h) λ σ H R ⟨θ,F,w,ds,s',m,v,hf,q⟩=>by
 obtain ⟨⟨d,s1⟩,h1,hf⟩:=ab hf;dsimp only at hf;split at hf
 ·rename_i ys hd;cases hf;refine ⟨θ,F,w,_,_,m,v,h1,λ u θ' F' H' p' s' m' r'=>?_⟩;have r2:Rel X.K F' (.tuple ds) u:=r';obtain ⟨a,xs,rfl,hq,rs⟩:=r2.tup;exact ⟨a,rfl,⟨xs,cn m'.sm hq⟩,q _ θ' F' H' p' s' m' (Av hq rs)⟩
 ·cases hf
end
section
variable {X:Cx} {cl:Nat->Lz} {elts:List Expr} {kk:Nat} {tp np ap ip cp pos:Pos} {elt:Expr} {ifs:List Expr} {scope:Scope} {N':List Str} {mp:List (Option Nat)} {ks:List Nat} {gt:TG} {t:En->K5->Option En} {p:En->Option Bool} {f:En->Option K5}
end
section
variable {X:Cx}
variable {B:Bd} {a e:Expr} {f g:En->Option K5} {apos cpos:Pos}
end
section
variable {X:Cx} {B:Bd} {e:Expr} {fs:En->Option (List K5)} {p1 p2 q1 q2:Pos}
end
section
variable {prog:LM} {w:World} {K:Type} [DecidableEq K] {knd:KeyKind prog w K} {kf:Lf->K} {J:SetTable->Nat->Prop}
variable {A:Mb} {E:Lf->Lh->Prop} {s:Lh}
noncomputable def Kf (t:SetTable) (es:Array (Int×Lf)) (h:Int) (x:Lf):SetTable :=
 if (if (layNew t es h x).2.1.plain then plainKind x else true) then (layNew t es h x).2.1 else { (layNew t es h x).2.1 with plain:=false }
structure Jok (J:SetTable->Nat->Prop) (Px:Lf->Prop):Prop where
 new:∀ t es h x,Px x->t.fits es.size=true->J t es.size->J (Kf t es h x) (es.size+1)
 rel:∀ t es m,t.fits es.size=true->J t es.size->J (relayAll t es m).2.1 es.size
noncomputable def sd [BEq K] (σ:List K) (k:K):List K:=if σ.any (·==k) then σ else σ++[k]
end
section
variable {prog:LM} {w:World} {K:Type} [DecidableEq K] [BEq K] [LawfulBEq K] {knd:KeyKind prog w K} {kf:Lf->K} {J:SetTable->Nat->Prop} {Px:Lf->Prop}
variable {A:Mb} {E:Lf->Lh->Prop} {s:Lh} {R:Result->Lh->Prop} {I:Lz} {fp wr:List Lz} {G:Array GenState->Array GenState->Prop} {n:Nat} {P:Nat->Lf->Prop} {St:Nat->Lh->Prop}
noncomputable def fmet (val:Nat->K) (i:Nat):List K:=((List.range i).map val).foldl sd []
omit [DecidableEq K] [LawfulBEq K] in
theorem By (val:Nat->K) (i:Nat):fmet val (i+1)=sd (fmet val i) (val i):=by
 unfold fmet; rw [Nw,LJ,List.foldl_append]; rfl
omit [DecidableEq K] [LawfulBEq K] in
theorem AF (val:Nat->K):∀ i,(fmet val i).length<=i
 | 0=>Lp _
 | i+1=>by
  rw [By]; unfold sd;have ih:=AF val i
  split
  ·omega
  ·rw [Lm,Nu]; omega
end
section
variable {prog:LM} {w:World} {A:Mb} {E:Lf->Lh->Prop} {s:Lh}
variable {K:Type} [DecidableEq K] [BEq K] [LawfulBEq K] {knd:KeyKind prog w K} {kf:Lf->K} {J:SetTable->Nat->Prop} {Px:Lf->Prop}
end
section
variable {prog:LM} {w:World} {A:Mb} {E:Lf->Lh->Prop} {s:Lh} {it a:Lz} {first:Lf} {i n ep slot:Nat} {o:Obj} {es:Array (Int×Lf)} {t:SetTable}
end
section
variable {X:Cx} {B:Bd} {e:Expr} {fs:En->Option (List K5)} {p1 p2 q1 q2:Pos}
theorem Bz (ss:List Str):fmet (λ i=>ss.getD i "") ss.length=ss.foldl sd []:=by
 unfold fmet
 congr 1
 refine List.ext_getElem (by simp) λ i h1 h2=>?_;simp [Lk,h2]
theorem Go (ss:List Str):(ss.foldl sd []).length<=ss.length:=by
 rw [<- Bz];exact AF _ _
end
section
variable {X:Cx} {B:Bd} {e:Expr} {fs:En->Option (List K5)} {p1 p2 q1 q2:Pos}
end
section
variable {X:Cx} {B:Bd}
end
section
variable {X:Cx} {B:Bd} {e:Expr} {fs:En->Option (List K5)} {pp pos:Pos}
end
section
variable {X:Cx} {B:Bd} {a:Expr} {fs:En->Option (List K5)} {pos pp:Pos}
end
section
variable {X:Cx} {B:Bd} {e:Expr} {fs:En->Option (List K5)} {p1 p2 q1 q2:Pos}
end
section
variable {prog:LM} {w:World} {A:Mb} {E:Lf->Lh->Prop} {s:Lh}
noncomputable abbrev K1 (h:Heap) (z TI TO T0:Lz) (b:Bool):Prop :=
 h.get? z=some { cls:=.type "zip", dict:=none,data:=.fields #[rawInt T0,.bool b,.bool false,.ref TI,.ref TO],slots:=#[] }
end
section
variable {prog:LM} {w:World} {A:Mb} {E:Lf->Lh->Prop} {s:Lh}
end
section
variable {prog:LM} {w:World} {A:Mb} {E:Lf->Lh->Prop} {R:Result->Lh->Prop}
structure ZSt (h:Heap) (z TI TO T0 i1 i2 l1 l2:Lz) (xs ys:Array Lf) (bb:Bool) (i:Nat):Prop where
 zip:K1 h z TI TO T0 bb
 t0:∃ a b,IsPair h T0 a b
 ti:IsPair h TI (.ref i1) (.ref i2)
 j1:h.IsListIter i1 l1 i
 j2:h.IsListIter i2 l2 i
 m1:h.IsList l1 xs
 m2:h.IsList l2 ys
end
section
variable {prog:LM} {w:World} {A:Mb} {E:Lf->Lh->Prop} {R:Result->Lh->Prop}
structure ZS0 (h:Heap) (z TI TO i1 i2 l1 l2:Lz) (xs ys:Array Lf):Prop where
 zip:IsZip h z TI TO .none
 ti:IsPair h TI (.ref i1) (.ref i2)
 to:∃ a b,IsPair h TO a b
 j1:h.IsListIter i1 l1 0
 j2:h.IsListIter i2 l2 0
 m1:h.IsList l1 xs
 m2:h.IsList l2 ys
variable {s:Lh}
end
noncomputable def lay (H:Hp) (m:Nat) (N:Hp):Hp:=λ b=>if m<=b then N b else H b
theorem iT {H N:Hp} {m:Nat} {b:Lz} (h:¬ m<=b):lay H m N b=H b:=if_neg h
theorem sk {H N:Hp} {m:Nat} {b:Lz} (h:m<=b):lay H m N b=N b:=if_pos h
theorem Dh {X:Cx} {pins:List (Lz×Obj)} {σ:St} {H:Hp} {s:Lh} {h':Heap} {N:Hp} (I:Inv X pins σ H s) (k:∀ b u,s.heap.get? b=some u->h'.get? b=some u)
  (new:∀ b o,s.heap.objs.size<=b->N b=some o->ObjOk X.prog X.w (lay H s.heap.objs.size N) h' b o):Inv X pins σ (lay H s.heap.objs.size N) { s with heap:=h' }:=by
 have old:∀ b o,H b=some o->¬ s.heap.objs.size<=b:=λ b o e z=>by rw [I.hok.fresh z] at e; cases e
 refine I.step (h':=h') (g':=s.gens) (d':=s.drawn) (t':=s.toks) (ch:=[]) (λ b hb=>by cases hb) (λ b o _ _ _ q _=>k b o q) (λ b o _ _ _ q _=>⟨o.slots,k b o q⟩) (λ b o _ q n=>?_) (λ b o _ q=>⟨o,k b o q⟩) (λ b xs q=>?_) (λ b o u q=>?_) (λ b ps q=>⟨#[],?_⟩) (λ m hm=>?_) (λ b o q=>?_) I.bare
 ·rw [iT (Nat.not_le.mpr (Ly q))]; exact n
 ·rw [iT (old b _ q)]; exact q
 ·rw [iT (old b _ q)]; exact q
 ·rw [iT (old b _ q),q]; simp
 ·obtain ⟨o,es,ep,ho,r⟩:=hm;exact ⟨o,es,ep,k _ o ho,r⟩
 ·by_cases hb:s.heap.objs.size<=b
  ·rw [sk hb] at q;exact new b o hb q
  ·rw [iT hb] at q;exact (I.hok b o q).stay (λ c u _ z=>k c u z) (λ c z=>by rw [iT (old _ _ z)]; exact z) λ c xs z=>by rw [iT (old _ _ z)]; exact z
theorem Hj {F H N:Hp} {m:Nat} (sm:Same F H) (fr:∀ b,m<=b->H b=none):Gr F H (lay F m N) (lay H m N):=by
 have fF:∀ b o,F b=some o->¬ m<=b:=λ b o e z=>absurd (sm b o e) (by rw [fr b z]; simp);have fH:∀ b o,H b=some o->¬ m<=b:=λ b o e z=>by rw [fr b z] at e; cases e
 refine ⟨λ c u z=>?_,λ c u z=>?_,λ c u z=>?_,λ c z=>?_⟩
 ·rw [iT (fF c u z)]; exact z
 ·rw [iT (fH c u z)]; exact z
 ·by_cases hc:m<=c
  ·rw [sk hc] at z ⊢; exact z
  ·rw [iT hc] at z ⊢; exact sm c u z
 ·by_cases hc:m<=c
  ·exact .inr (fr c hc)
  ·rw [iT hc] at z; exact .inl z
theorem w8 {K:K6} {F:Hp}:∀ {ds:List K5} {vs:List V},ds.length=vs.length->(∀ (i:Nat) (d:K5),ds[i]?=some d->∃ v,vs[i]?=some v/\Rel K F d v)->RelL K F ds vs
 | [],[],_,_=>.nil
 | [],_::_,h,_=>by simp at h
 | _::_,[],h,_=>by simp at h
 | d::ds,v::vs,h,hr=>by
  obtain ⟨v',e,r⟩:=hr 0 d rfl;simp at e;subst e;exact .cons r (w8 (by simpa using h) λ i d' e=>by
   obtain ⟨v',e',r'⟩:=hr (i+1) d' (by simpa using e);exact ⟨v',by simpa using e',r'⟩)
section
variable {X:Cx} {B:Bd} {a e:Expr} {f g:En->Option K5} {fs:En->Option (List K5)} {pos pp apos cpos:Pos}
noncomputable def Gw:V->List V->Hp->VK->Prop:=λ x vs H Q=>∃ z y,x=.str z/\vs=[.str y]/\y.length≠0/\z.length+2<=Li/\∀ l,H l=none->Q (.ref l) (upd H l (.lst ((Txt.split z y).map V.str)))
theorem uI:∀ (ss:List Str) (k:Nat),Vals (ss.map V.str) (strValues (numbered k ss))
 | [],_=>.nil
 | x::r,k=>.cons ⟨_,rfl⟩ (uI r (k+1))
theorem CO:MtR X "str.split" Gw:=by
 intro pins s σ H x vs v us Q I rx rv h;obtain ⟨z,y,rfl,rfl,hy,hz,q⟩:=h;obtain ⟨t,rfl⟩:=rx;obtain ⟨w,rfl,rw'⟩:=ot rv;obtain ⟨u,rfl⟩:=rw';have hle:=split_le z y;have q':=q _ (I.hok.fresh (Lp _));have hy':(y.length==0)=false:=by simpa using hy
 cases h1:(decide (z.length < y.length)||decide (Builtin.Str.strKind z < Builtin.Str.strKind y))
 ·cases hf:(Builtin.Str.occurrences z y 0 z.length (z.length+1)).isEmpty
  ·have es:Txt.split z y=Builtin.Str.partsBetween z (Builtin.Str.occurrences z y 0 z.length (z.length+1)) y.length:=(if_neg (ne_true_of_eq_false h1)).trans (if_neg (ne_true_of_eq_false hf));rw [es] at hle q';refine call_meets PySem.F.slot_str_split (typeIs_str _ _ _) PySem.F.entry_str_split (PySem.F.args_str_split_2 _ _) (meets_str_split_sep z y t u h1 hy' hf (by omega) (by omega)) ?_;refine ⟨.ref s.heap.objs.size,_,I.laid (t':=_) (o:=.lst ((Builtin.Str.partsBetween z (Builtin.Str.occurrences z y 0 z.length (z.length+1)) y.length).map V.str)) (λ b ob q=>Lg _ q) (Lp _) ?_,rfl,q'⟩;rw [strsFrom_eq];exact ⟨by rw [K7]; omega,_,0,uI _ _,LL _ rfl⟩
  ·have es:Txt.split z y=[z]:=(if_neg (ne_true_of_eq_false h1)).trans (if_pos hf);rw [es] at q';refine call_meets PySem.F.slot_str_split (typeIs_str _ _ _) PySem.F.entry_str_split (PySem.F.args_str_split_2 _ _) (meets_str_split_not_found z y t u h1 hy' hf) ?_;refine ⟨.ref s.heap.objs.size,_,I.laid (t':=s.toks) (o:=.lst [V.str z]) (λ b ob q=>Lg _ q) (Lp _) ?_,rfl,q'⟩;exact ⟨by show 1<=_; omega,[.str z t],0,.cons ⟨t,rfl⟩ .nil,LL _ rfl⟩
 ·have es:Txt.split z y=[z]:=if_pos h1;rw [es] at q';refine call_meets PySem.F.slot_str_split (typeIs_str _ _ _) PySem.F.entry_str_split (PySem.F.args_str_split_2 _ _) (meets_str_split_cannot_occur z y t u h1) ?_;refine ⟨.ref s.heap.objs.size,_,I.laid (t':=s.toks) (o:=.lst [V.str z]) (λ b ob q=>Lg _ q) (Lp _) ?_,rfl,q'⟩;exact ⟨by show 1<=_; omega,[.str z t],0,.cons ⟨t,rfl⟩ .nil,LL _ rfl⟩
noncomputable def mW (x y:K5):Option K5:=match x,y with
 | .str z,.str y=>if y.length≠0/\z.length+2<=Li then some (.list ((Txt.split z y).map PyData.str)) else none
 | _,_=>none
theorem uQ {K:K6} {F:Hp}:∀ (ss:List Str),RelL K F (ss.map PyData.str) (ss.map V.str)
 | []=>.nil
 | _::r=>.cons jP (uQ r)
theorem E.split (ha:E X B a f) (he:E X B e g) (hbase:attributeBase a "split" X.env (eval a X.env)=eval a X.env:=by rfl)
  (hfew:((backTo cpos (Lj [e] X.env)).all (λ x=>!x.1)&&(backToKw cpos (keywordEach [] X.env)).all (λ x=>x.1.isSome)
   && decide ([e].length+([]:List Keyword).length+(if ([]:List Keyword).isEmpty then 0 else 1) < 30))=true:=by rfl)
  (hline:(apos.endLine==cpos.line)=true:=by rfl) (hs:Lj [e] X.env=(false,eval e X.env)::Lj [] X.env:=by exact bD rfl) (hplain:(backTo cpos (Lj [] X.env)).any (·.1)=false:=by rfl) :
  E X B (.Call (.Attribute a "split" apos) [e] [] cpos) (l2 mW f g) :=
 PE.imp (uU PySem.F.plainAttrs_str PySem.F.slot_str_split PySem.F.type_str_split CO ha (ac he ag hs) hbase hfew hline hs hplain) λ σ H Q ⟨F,η,d,sr,hd,q⟩=>by
  obtain ⟨x,hx,hd⟩:=ab hd;obtain ⟨y,hy,hd⟩:=ab hd;cases x with
  | str z=>cases y with
   | str y =>
   unfold mW at hd;dsimp only at hd;split at hd
   ·rename_i hf;cases hd;refine ⟨F,η,_,sr,hx,λ v F1 H1 g1 rv=>?_⟩;rw [rv.str];refine ⟨rfl,F1,η,[.str y],sr.grow g1,(by show (g η).bind _=_; rw [hy]; rfl),λ vs F2 H2 g2 rs=>?_⟩;obtain ⟨w,r,rfl,rw',rr⟩:=rs.cons_of;obtain rfl:=rr.nil_of;rw [rw'.str];refine ⟨z,y,rfl,rfl,hf.1,hf.2,λ l hl=>?_⟩;have g3:=Gr.one (o:=.lst ((Txt.split z y).map V.str)) g2.fh hl;exact q _ _ _ ((g1.trans g2).trans g3) (jk (SqL.of aX) (uQ _))
   ·cases hd
   | _=>cases hd
  | _=>cases hd
variable {body:List Stmt} {h₀:ExceptHandler} {hs:List ExceptHandler} {u:En->Option Out}
end
section
variable {prog:LM} {w:World} {A:Mb} {E:Lf->Lh->Prop} {s:Lh}
end
section
variable {X:Cx} {B:Bd} {a b:Expr} {fs:En->Option (List K5)} {pos pp:Pos}
end
noncomputable def wZ {α:Type} (n:Nat) (f:Nat->Nat->Bool):PySem.W.KasT α->Option α
 | .ret a=>some a
 | .ask i j k=>bif Nat.blt i n&&(Nat.blt j n&&!Nat.beq i j) then wZ n f (k (f i j)) else none
noncomputable def Gd (n:Nat) (r:List Nat):Bool:=match wZ n (λ i j=>Nat.blt (r.getD i 0) (r.getD j 0)) (PySem.W.kas_sort n) with
 | some p=>(p.toList.map λ i=>r.getD i 0)==List.range n&&p.toList.isPerm (List.range n)
 | none=>false
noncomputable def bO (n:Nat):Nat->List Nat->List Nat->Bool
 | 0,_,acc=>Gd n acc
 | f+1,rem,acc=>rem.all λ x=>bO n f (rem.erase x) (acc++[x])
theorem KJ:bO 2 2 (List.range 2) []=true:=by decide +kernel
theorem KI:bO 3 3 (List.range 3) []=true:=by decide +kernel
theorem KH:bO 4 4 (List.range 4) []=true:=by decide +kernel
theorem KG:bO 5 5 (List.range 5) []=true:=by decide +kernel
theorem K0:bO 6 5 ((List.range 6).erase 0) [0]=true:=by decide +kernel
theorem KZ:bO 6 5 ((List.range 6).erase 1) [1]=true:=by decide +kernel
theorem KY:bO 6 5 ((List.range 6).erase 2) [2]=true:=by decide +kernel
theorem KW:bO 6 5 ((List.range 6).erase 3) [3]=true:=by decide +kernel
theorem KU:bO 6 5 ((List.range 6).erase 4) [4]=true:=by decide +kernel
theorem KS:bO 6 5 ((List.range 6).erase 5) [5]=true:=by decide +kernel
theorem KF:bO 6 6 (List.range 6) []=true:=by
 refine L5.mpr λ x hx=>?_;have hx:=Mg.mp hx
 match x,hx with
 | 0,_=>exact K0
 | 1,_=>exact KZ
 | 2,_=>exact KY
 | 3,_=>exact KW
 | 4,_=>exact KU
 | 5,_=>exact KS
theorem J4:bO 7 5 (((List.range 7).erase 0).erase 1) [0,1]=true:=by decide +kernel
theorem J3:bO 7 5 (((List.range 7).erase 0).erase 2) [0,2]=true:=by decide +kernel
theorem J2:bO 7 5 (((List.range 7).erase 0).erase 3) [0,3]=true:=by decide +kernel
theorem J1:bO 7 5 (((List.range 7).erase 0).erase 4) [0,4]=true:=by decide +kernel
theorem J0:bO 7 5 (((List.range 7).erase 0).erase 5) [0,5]=true:=by decide +kernel
theorem JZ:bO 7 5 (((List.range 7).erase 0).erase 6) [0,6]=true:=by decide +kernel
theorem KR:bO 7 6 ((List.range 7).erase 0) [0]=true:=by
 refine L5.mpr λ y hy=>?_;have hy:y∈[1,2,3,4,5,6]:=hy;simp only [LA,Mh,or_false] at hy;rcases hy with rfl | rfl | rfl | rfl | rfl | rfl
 ·exact J4
 ·exact J3
 ·exact J2
 ·exact J1
 ·exact J0
 ·exact JZ
theorem JY:bO 7 5 (((List.range 7).erase 1).erase 0) [1,0]=true:=by decide +kernel
theorem JX:bO 7 5 (((List.range 7).erase 1).erase 2) [1,2]=true:=by decide +kernel
theorem JW:bO 7 5 (((List.range 7).erase 1).erase 3) [1,3]=true:=by decide +kernel
theorem JV:bO 7 5 (((List.range 7).erase 1).erase 4) [1,4]=true:=by decide +kernel
theorem JU:bO 7 5 (((List.range 7).erase 1).erase 5) [1,5]=true:=by decide +kernel
theorem JT:bO 7 5 (((List.range 7).erase 1).erase 6) [1,6]=true:=by decide +kernel
theorem KQ:bO 7 6 ((List.range 7).erase 1) [1]=true:=by
 refine L5.mpr λ y hy=>?_;have hy:y∈[0,2,3,4,5,6]:=hy;simp only [LA,Mh,or_false] at hy;rcases hy with rfl | rfl | rfl | rfl | rfl | rfl
 ·exact JY
 ·exact JX
 ·exact JW
 ·exact JV
 ·exact JU
 ·exact JT
theorem JS:bO 7 5 (((List.range 7).erase 2).erase 0) [2,0]=true:=by decide +kernel
theorem JR:bO 7 5 (((List.range 7).erase 2).erase 1) [2,1]=true:=by decide +kernel
theorem JQ:bO 7 5 (((List.range 7).erase 2).erase 3) [2,3]=true:=by decide +kernel
theorem JP:bO 7 5 (((List.range 7).erase 2).erase 4) [2,4]=true:=by decide +kernel
theorem JO:bO 7 5 (((List.range 7).erase 2).erase 5) [2,5]=true:=by decide +kernel
theorem JN:bO 7 5 (((List.range 7).erase 2).erase 6) [2,6]=true:=by decide +kernel
theorem KP:bO 7 6 ((List.range 7).erase 2) [2]=true:=by
 refine L5.mpr λ y hy=>?_;have hy:y∈[0,1,3,4,5,6]:=hy;simp only [LA,Mh,or_false] at hy;rcases hy with rfl | rfl | rfl | rfl | rfl | rfl
 ·exact JS
 ·exact JR
 ·exact JQ
 ·exact JP
 ·exact JO
 ·exact JN
theorem JM:bO 7 5 (((List.range 7).erase 3).erase 0) [3,0]=true:=by decide +kernel
theorem JL:bO 7 5 (((List.range 7).erase 3).erase 1) [3,1]=true:=by decide +kernel
theorem JK:bO 7 5 (((List.range 7).erase 3).erase 2) [3,2]=true:=by decide +kernel
theorem JJ:bO 7 5 (((List.range 7).erase 3).erase 4) [3,4]=true:=by decide +kernel
theorem JI:bO 7 5 (((List.range 7).erase 3).erase 5) [3,5]=true:=by decide +kernel
theorem JH:bO 7 5 (((List.range 7).erase 3).erase 6) [3,6]=true:=by decide +kernel
theorem KO:bO 7 6 ((List.range 7).erase 3) [3]=true:=by
 refine L5.mpr λ y hy=>?_;have hy:y∈[0,1,2,4,5,6]:=hy;simp only [LA,Mh,or_false] at hy;rcases hy with rfl | rfl | rfl | rfl | rfl | rfl
 ·exact JM
 ·exact JL
 ·exact JK
 ·exact JJ
 ·exact JI
 ·exact JH
theorem JG:bO 7 5 (((List.range 7).erase 4).erase 0) [4,0]=true:=by decide +kernel
theorem JF:bO 7 5 (((List.range 7).erase 4).erase 1) [4,1]=true:=by decide +kernel
theorem JE:bO 7 5 (((List.range 7).erase 4).erase 2) [4,2]=true:=by decide +kernel
theorem JD:bO 7 5 (((List.range 7).erase 4).erase 3) [4,3]=true:=by decide +kernel
theorem JC:bO 7 5 (((List.range 7).erase 4).erase 5) [4,5]=true:=by decide +kernel
theorem JB:bO 7 5 (((List.range 7).erase 4).erase 6) [4,6]=true:=by decide +kernel
theorem KN:bO 7 6 ((List.range 7).erase 4) [4]=true:=by
 refine L5.mpr λ y hy=>?_;have hy:y∈[0,1,2,3,5,6]:=hy;simp only [LA,Mh,or_false] at hy;rcases hy with rfl | rfl | rfl | rfl | rfl | rfl
 ·exact JG
 ·exact JF
 ·exact JE
 ·exact JD
 ·exact JC
 ·exact JB
theorem JA:bO 7 5 (((List.range 7).erase 5).erase 0) [5,0]=true:=by decide +kernel
theorem Jz:bO 7 5 (((List.range 7).erase 5).erase 1) [5,1]=true:=by decide +kernel
theorem Jy:bO 7 5 (((List.range 7).erase 5).erase 2) [5,2]=true:=by decide +kernel
theorem Jx:bO 7 5 (((List.range 7).erase 5).erase 3) [5,3]=true:=by decide +kernel
theorem Jw:bO 7 5 (((List.range 7).erase 5).erase 4) [5,4]=true:=by decide +kernel
theorem Jv:bO 7 5 (((List.range 7).erase 5).erase 6) [5,6]=true:=by decide +kernel
theorem KM:bO 7 6 ((List.range 7).erase 5) [5]=true:=by
 refine L5.mpr λ y hy=>?_;have hy:y∈[0,1,2,3,4,6]:=hy;simp only [LA,Mh,or_false] at hy;rcases hy with rfl | rfl | rfl | rfl | rfl | rfl
 ·exact JA
 ·exact Jz
 ·exact Jy
 ·exact Jx
 ·exact Jw
 ·exact Jv
theorem Ju:bO 7 5 (((List.range 7).erase 6).erase 0) [6,0]=true:=by decide +kernel
theorem Jt:bO 7 5 (((List.range 7).erase 6).erase 1) [6,1]=true:=by decide +kernel
theorem Js:bO 7 5 (((List.range 7).erase 6).erase 2) [6,2]=true:=by decide +kernel
theorem Jr:bO 7 5 (((List.range 7).erase 6).erase 3) [6,3]=true:=by decide +kernel
theorem Jq:bO 7 5 (((List.range 7).erase 6).erase 4) [6,4]=true:=by decide +kernel
theorem Jp:bO 7 5 (((List.range 7).erase 6).erase 5) [6,5]=true:=by decide +kernel
theorem KL:bO 7 6 ((List.range 7).erase 6) [6]=true:=by
 refine L5.mpr λ y hy=>?_;have hy:y∈[0,1,2,3,4,5]:=hy;simp only [LA,Mh,or_false] at hy;rcases hy with rfl | rfl | rfl | rfl | rfl | rfl
 ·exact Ju
 ·exact Jt
 ·exact Js
 ·exact Jr
 ·exact Jq
 ·exact Jp
theorem KD:bO 7 7 (List.range 7) []=true:=by
 refine L5.mpr λ x hx=>?_;have hx:=Mg.mp hx
 match x,hx with
 | 0,_=>exact KR
 | 1,_=>exact KQ
 | 2,_=>exact KP
 | 3,_=>exact KO
 | 4,_=>exact KN
 | 5,_=>exact KM
 | 6,_=>exact KL
theorem Fu {n:Nat} (h2:2<=n) (h7:n<=7):bO n n (List.range n) []=true:=by
 match n,h2,h7 with
 | 2,_,_=>exact KJ
 | 3,_,_=>exact KI
 | 4,_,_=>exact KH
 | 5,_,_=>exact KG
 | 6,_,_=>exact KF
 | 7,_,_=>exact KD
theorem AU {n:Nat}:∀ (f:Nat) (rem acc v:List Nat),bO n f rem acc=true->v.length=f->v.Nodup->(∀ x∈v,x∈rem)->Gd n (acc++v)=true
 | 0,rem,acc,v,h,hl,_,_=>by
  have:v=[]:=M6 hl
  subst this;rw [LY];exact h
 | f+1,rem,acc,[],h,hl,_,_=>by cases hl
 | f+1,rem,acc,x::r,h,hl,hn,hm=>by
  have h1:(rem.all λ x=>bO n f (rem.erase x) (acc++[x]))=true:=h;rw [L5] at h1;have hn':=Mf.mp hn
  have:=AU f (rem.erase x) (acc++[x]) r (h1 x (hm x Lc)) (by simpa using hl) hn'.2 λ y hy =>
   (ND (λ e:y=x=>hn'.1 (e ▸ hy))).mpr (hm y (La _ hy))
  rwa [Ma] at this
theorem Ji {i j n:Nat} (h:(Nat.blt i n&&(Nat.blt j n&&!Nat.beq i j))=true):i < n/\j < n/\i≠j:=by
 simp only [L4,MP,Nat.blt_eq] at h;exact ⟨h.1,h.2.1,λ e=>by
  have h3:=h.2.2;rw [e,Nat.beq_refl] at h3;cases h3⟩
theorem zL {α:Type} {ask:Nat->Nat->(Bool->Lh->Prop)->Lh->Prop} {n:Nat} {f:Nat->Nat->Bool} {s:Lh} (ha:∀ i j C,i < n->j < n->i≠j->C (f i j) s->ask i j C s) {G:α->Lh->Prop} {p:α} :
  ∀ t:PySem.W.KasT α,wZ n f t=some p->G p s->t.kasWp ask G s
 | .ret a,h,g=>by cases h; exact g
 | .ask i j k,h,g=>by
  unfold wZ at h;cases hc:(Nat.blt i n&&(Nat.blt j n&&!Nat.beq i j)) with
  | false=>rw [hc] at h; cases h
  | true =>
   rw [hc] at h;obtain ⟨h1,h2,h3⟩:=Ji hc;exact ha i j _ h1 h2 h3 (zL ha (k (f i j)) h g)
theorem sM {α:Type} {n:Nat} {f g:Nat->Nat->Bool} (h:∀ i j,i < n->j < n->f i j=g i j):∀ t:PySem.W.KasT α,wZ n f t=wZ n g t
 | .ret a=>rfl
 | .ask i j k=>by
  unfold wZ;cases hc:(Nat.blt i n&&(Nat.blt j n&&!Nat.beq i j)) with
  | false=>rfl
  | true =>
   obtain ⟨h1,h2,_⟩:=Ji hc;rw [h i j h1 h2];exact sM h (k (g i j))
noncomputable abbrev ltS (a b:Str):Bool:=ltCps a.cps.toList b.cps.toList
noncomputable def rkS (K:List Str) (k:Str):Nat:=K.countP λ y=>ltS y k
theorem Aq (a:Str):ltS a a=false:=by
 cases e:ltS a a with
 | false=>rfl
 | true=>rw [<- e]; exact m9 _ _ e
theorem tX {α:Type} {p q:α->Bool} (h:∀ y,p y=true->q y=true) {x:α}:∀ {l:List α},x∈l->p x=false->q x=true->l.countP p < l.countP q
 | y::r,hx,h1,h2=>by
  have hm:r.countP p<=r.countP q:=List.countP_mono_left λ z _ hz=>h z hz;rw [MM,MM];rcases LA.mp hx with rfl | hx
  ·rw [h1,h2]; simp; omega
  ·have ih:=tX h hx h1 h2;cases hp:p y with
   | false=>simp; omega
   | true=>rw [h y hp]; simp; omega
theorem Il {K:List Str} {a b:Str} (ha:a∈K) (h:ltS a b=true):rkS K a < rkS K b :=
 tX (λ y hy=>by
  cases e:ltS y b with
  | true=>rfl
  | false =>
   have h3:ltS a b=false:=m8 _ _ _ e (m9 _ _ hy);rw [h] at h3; cases h3) ha (Aq a) h
theorem Im {K:List Str} {a b:Str} (h:ltS a b=false):rkS K b<=rkS K a:=List.countP_mono_left λ y _ hy=>by
 cases e:ltS y a with
 | true=>rfl
 | false =>
  have h3:ltS y b=false:=m8 _ _ _ h e;rw [hy] at h3; cases h3
theorem vI {K:List Str} {a b:Str} (ha:a∈K):ltS a b=decide (rkS K a < rkS K b):=by
 cases e:ltS a b with
 | true=>rw [decide_eq_true (Il ha e)]
 | false=>rw [decide_eq_false (Nat.not_lt.mpr (Im e))]
theorem Gs {K:List Str} {a b:Str} (ha:a∈K) (hb:b∈K) (h:rkS K a=rkS K b):a=b:=by
 refine vD (wd _ _ ?_ ?_)
 ·show ltS a b=false;rw [vI ha,h]; simp
 ·show ltS b a=false;rw [vI hb,h]; simp
theorem B8 {K:List Str} {a:Str} (ha:a∈K):rkS K a < K.length:=by
 have:=tX (p:=λ y=>ltS y a) (q:=λ _=>true) (λ _ _=>rfl) ha (Aq a) rfl
 unfold rkS;simpa using this
theorem lO {α β:Type} {f:α->β}:∀ {l:List α},l.Nodup->(∀ a∈l,∀ b∈l,f a=f b->a=b)->(l.map f).Nodup
 | [],_,_=>NG
 | x::r,hn,h=>by
  have hn':=Mf.mp hn;rw [Ln,Mf];refine ⟨λ hm=>?_,lO hn'.2 λ a ha b hb=>h a (La _ ha) b (La _ hb)⟩;obtain ⟨y,hy,e⟩:=LI.mp hm;exact hn'.1 (h y (La _ hy) x Lc e ▸ hy)
theorem AD (K:List Str) {i:Nat} (h:i < K.length):K.getD i "" ∈ K:=by
 rw [Lk,K9 h];exact List.getElem_mem h
theorem vJ (K:List Str) {i:Nat} (h:i < K.length):(K.map (rkS K)).getD i 0=rkS K (K.getD i ""):=by
 rw [Lk,Lk,Le,K9 h]; rfl
theorem uR (K:List Str):(List.range K.length).map (λ i=>K.getD i "")=K:=by
 apply List.ext_getElem?;intro i;rw [Le];by_cases h:i < K.length
 ·rw [Mt h,K9 h];show some (K.getD i "")=_;rw [Lk,K9 h]; rfl
 ·rw [LN (by simpa using h),LN (by simpa using h)]; rfl
theorem AZ {K:List Str} (hn:K.Nodup) (h2:2<=K.length) (h7:K.length<=7):∃ p:Array Nat,wZ K.length (λ i j=>ltS (K.getD i "") (K.getD j "")) (PySem.W.kas_sort K.length)=some p /\
  p.toList.Perm (List.range K.length)/\(p.toList.map λ i=>K.getD i "")=sA K:=by
 have hR:(K.map (rkS K)).Nodup:=lO hn λ a ha b hb e=>Gs ha hb e;have ht:=AU K.length (List.range K.length) [] (K.map (rkS K)) (Fu h2 h7) (by rw [K7]) hR λ x hx=>by
  obtain ⟨a,ha,rfl⟩:=LI.mp hx;exact Mg.mpr (B8 ha)
 rw [Ny] at ht;unfold Gd at ht;split at ht
 ·rename_i p hp;rw [L4,beq_iff_eq,List.isPerm_iff] at ht;obtain ⟨h1,hperm⟩:=ht;have hlt:∀ i∈p.toList,i < K.length:=λ i hi=>Mg.mp (hperm.mem_iff.mp hi);refine ⟨p,?_,hperm,?_⟩
  ·rw [<- hp];refine sM (λ i j hi hj=>?_) _;rw [vJ K hi,vJ K hj,vI (AD K hi)];rw [MC,decide_eq_true_eq,Nat.blt_eq]
  ·refine List.Perm.eq_of_pairwise (le:=λ a b=>leS a b=true) (λ a b _ _ h k=>?_) ?_ (Ef K) ?_
   ·unfold leS at h k;rw [MP] at h k;exact vD (wd _ _ k h)
   ·rw [MD];have hpw:(p.toList.map λ i=>(K.map (rkS K)).getD i 0).Pairwise (· < ·):=by rw [h1]; exact MZ
    rw [MD] at hpw;refine hpw.imp_of_mem λ {i j} hi hj h=>?_;rw [vJ K (hlt i hi),vJ K (hlt j hj)] at h;unfold leS;rw [MP];refine m9 _ _ ?_;show ltS _ _=true;rw [vI (AD K (hlt i hi)),decide_eq_true h]
   ·have:=hperm.map λ i=>K.getD i ""
    rw [uR] at this;exact this.trans (Na K leS).symm
 ·cases ht
section
variable {prog:LM} {w:World} {A:Mb} {E:Lf->Lh->Prop} {s:Lh}
theorem FR {h:Heap}:∀ (as:List Lz),(∀ b∈as,∃ k t x,h.get? b=some { cls:=.type "tuple", data:=.seq #[Value.str k t,x] })->∃ fs,PySem.W.KatTups h (as.map Value.ref) fs/\fs.length=as.length/\∀ v∈fs,∃ k t,v=Value.str k t
 | [],_=>⟨[],PySem.W.KatTups.nil,rfl,λ v hv=>by cases hv⟩
 | b::r,h=>by
  obtain ⟨fs,f1,f2,f3⟩:=FR r λ c hc=>h c (La _ hc);obtain ⟨k,t,x,e⟩:=h b Lc;refine ⟨.str k t::fs,PySem.W.KatTups.cons e rfl rfl rfl f1,by rw [Lu,f2,Lu],λ v hv=>?_⟩;rcases LA.mp hv with rfl | hv
  ·exact ⟨k,t,rfl⟩
  ·exact f3 v hv
theorem sN {as:List Lz} {i:Nat} {b:Lz} (h:as[i]?=some b):(as.map Value.ref).getD i Value.none=.ref b:=by
 rw [Lk,Le,h]; rfl
theorem AY {K:List Str} (h:K.length < 2):sA K=K:=by
 match K,h with
 | [],_=>simp [sA]
 | [k],_=>simp [sA]
theorem rO {a:Lz} {as:List Lz} {K:List Str} {n:Nat} {P:PySem.Fin->Lh->Prop} (ho:s.heap.get? a=some (seqObj "list" (as.map Value.ref).toArray n)) (hl:as.length=K.length)
  (hp:∀ j b,as[j]?=some b->b≠a/\∃ t x,s.heap.get? b=some { cls:=.type "tuple", data:=.seq #[Value.str (K.getD j "") t,x] }) (hK:K.Nodup) (h7:K.length<=7)
  (h:∀ q:List Nat,q.Perm (List.range K.length)->(q.map λ i=>K.getD i "")=sA K->P (.done (.ret .none)) { s with heap:=sortedHeap s.heap a (as.map Value.ref) (q.map λ i=>(as.map Value.ref).getD i Value.none).toArray }) :
  L1 (L6 prog w) A (Builtin.«list.sort» ⟨[.ref a],[]⟩) P E s:=by
 have hvl:(as.map Value.ref).length=K.length:=by rw [K7,hl]
 have hsz:(as.map Value.ref).toArray.size=K.length:=by rw [Ls,hvl]
 have hmem:∀ b∈as,b≠a/\∃ k t x,s.heap.get? b=some { cls:=.type "tuple", data:=.seq #[Value.str k t,x] }:=λ b hb=>by
  obtain ⟨j,hj⟩:=MB hb;obtain ⟨h1,t,x,h2⟩:=hp j b hj;exact ⟨h1,_,t,x,h2⟩
 rw [list_sort_plain];have ha:a < s.heap.objs.size:=Ly ho;refine Lo (listItems_at ho rfl ?_);refine Lo (listUpdate_at ho rfl ?_ (by rw [hsz,sizeLine_eq]; omega) (Ml _));obtain ⟨e1,ho1⟩:∃ e1,(s.heap.update a (Obj.mapSeq λ _=>(#[]:Array Lf))).get? a=some (seqObj "list" #[] e1):=⟨_,get?_update_seq ho λ _=>#[]⟩;refine Lo (seqEpoch_at ho1 rfl ?_);refine Lo (wpAny_newTuple ?_ (by show (as.map Value.ref).length<=_; rw [hvl,sizeLine_eq]; omega));refine Lo (wpAny_newList ?_ (Ml _));refine wpAny_holding ?_;have ho6:(((s.heap.update a (Obj.mapSeq λ _=>(#[]:Array Lf))).push (seqObj "tuple" (as.map Value.ref).toArray 0)).push (seqObj "list" #[] 0)).get? a=some (seqObj "list" #[] e1):=Lg _ (Lg _ ho1);have up:∀ b o,b≠a->s.heap.get? b=some o->(((s.heap.update a (Obj.mapSeq λ _=>(#[]:Array Lf))).push (seqObj "tuple" (as.map Value.ref).toArray 0)).push (seqObj "list" #[] 0)).get? b=some o:=λ b o hb e =>
  Lg _ (Lg _ ((Heap.get?_update_other _ _ (Ne.symm hb)).trans e))
 show L1 (L6 prog w) A _ P E { s with heap:=((s.heap.update a (Obj.mapSeq λ _=>(#[]:Array Lf))).push (seqObj "tuple" (as.map Value.ref).toArray 0)).push (seqObj "list" #[] 0) };dsimp only;by_cases h2:(as.map Value.ref).toArray.size < 2
 ·rw [if_pos h2,if_pos h2];refine Lo (LH ?_);rw [StateT.run_pure];refine Lo (LH ?_);dsimp only;have eout:(arrOf (SortSt.mk' general' ((as.map Value.ref).toArray.zip (as.map Value.ref).toArray) #[] 7 none)).map (·.2)=((List.range K.length).map λ i=>(as.map Value.ref).getD i Value.none).toArray:=by
   show ((as.map Value.ref).toArray.zip (as.map Value.ref).toArray).map (·.2)=_;apply Array.ext_getElem?;intro i;by_cases hi:i < K.length
   ·have hi':i < (as.map Value.ref).length:=by rw [hvl]; exact hi
    simp [hi,Lk,Array.getElem?_zip_eq_some,hl]
   ·simp [hi,hl]
  rw [eout];refine Lo (seqEpoch_at ho6 rfl ?_);refine Lo (listUpdate_at ho6 rfl ?_ (Ml _) (by rw [Ls,K7,LW,sizeLine_eq]; omega));simp only [bne_self_eq_false,Nd,if_false];refine LH (h (List.range K.length) (List.Perm.refl _) ?_);rw [uR,AY (by rw [<- hsz]; exact h2)]
 ·rw [if_neg h2,if_neg h2];obtain ⟨fs,t1,t2,t3⟩:=FR (h:=((s.heap.update a (Obj.mapSeq λ _=>(#[]:Array Lf))).push (seqObj "tuple" (as.map Value.ref).toArray 0)).push (seqObj "list" #[] 0)) as λ b hb=>by
   obtain ⟨h1,k,t,x,h3⟩:=hmem b hb;exact ⟨k,t,x,up b _ h1 h3⟩
  have hn2:2<=K.length:=by rw [<- hsz]; omega
  obtain ⟨p,p1,p2,p3⟩:=AZ hK hn2 h7;refine Lo (PySem.W.kat_kind (T:=.type "str") t1 (by omega) (λ v hv=>by
   obtain ⟨k,t,rfl⟩:=t3 v hv;exact PySem.W.Looks.of_pure rfl) (by decide) ?_)
  refine Lo (wpAny_mono (PySem.W.kat_run (ks:=as.map Value.ref) (Q:=λ st' s'=>arrOf st'=p.map (PySem.W.kas_item ((as.map Value.ref).toArray.zip (as.map Value.ref).toArray))/\failedOf st'=none /\
    s'={ s with heap:=((s.heap.update a (Obj.mapSeq λ _=>(#[]:Array Lf))).push (seqObj "tuple" (as.map Value.ref).toArray 0)).push (seqObj "list" #[] 0) })
   (G:=λ p' s'=>p'=p/\s'={ s with heap:=((s.heap.update a (Obj.mapSeq λ _=>(#[]:Array Lf))).push (seqObj "tuple" (as.map Value.ref).toArray 0)).push (seqObj "list" #[] 0) })
   rfl (by omega) (by omega) (λ p' st' s' a1 a2 a3 a4=>⟨by rw [<- a4.1]; exact a2,a3,a4.2⟩) ?_) ?_ λ _ _ e=>e)
  ·rw [hvl];refine zL (λ i j C hi hj hne hC=>?_) _ p1 ⟨rfl,rfl⟩;obtain ⟨bi,ebi⟩:∃ b,as[i]?=some b:=⟨_,K9 (by omega)⟩;obtain ⟨bj,ebj⟩:∃ b,as[j]?=some b:=⟨_,K9 (by omega)⟩;obtain ⟨i1,ti,xi,i2⟩:=hp i bi ebi;obtain ⟨j1,tj,xj,j2⟩:=hp j bj ebj;have hkk:K.getD i "" ≠ K.getD j "" := λ e=>hne (by
    rw [Lk,Lk,K9 hi,K9 hj] at e;exact (MQ hi hK).mp (by rw [K9 hi,K9 hj]; exact congrArg some e))
   unfold PySem.W.kas_ask;rw [sN ebi,sN ebj];refine PySem.W.kat_lt (up bi _ i1 i2) rfl (up bj _ j1 j2) rfl (PySem.W.kat_cons (wpAny_eqBool_str ?_));rw [decide_eq_false hkk];refine PySem.W.kat_no ?_;show L1 _ _ (oneLt' true _ _) _ _ _;refine oneLt_str ?_;rw [lt_meets];exact hC
  ·rintro ⟨⟨⟩,st'⟩ s' ⟨har,hf,rfl⟩
   dsimp only;have eout:=PySem.W.kat_snds (ks:=as.map Value.ref) (vs:=as.map Value.ref) rfl har;rw [eout];refine Lo (seqEpoch_at ho6 rfl ?_);refine Lo (listUpdate_at ho6 rfl ?_ (Ml _) (by rw [Ls,K7,p2.length_eq,LW,sizeLine_eq]; omega));rw [hf];simp only [bne_self_eq_false,Nd,if_false];exact LH (h p.toList p2 p3)
theorem vE {r d:Lz} {kvs:List (Key×Lf)} {ep:Nat} {K:List Str} {Q:Lf->Lh->Prop} (hh:A.handled=none) (hv:s.heap.IsItemsView r d) (hrs:s.heap.objs.size=r+1) (hm:s.heap.DictAt (cx prog w) d kvs ep) (hk:kvs.map (·.1)=K.map Sum.inr) (hK:K.Nodup) (h7:K.length<=7)
  (h:∀ (h':Heap) (p:Lz) (tk c:Nat) (bs:List Lz) (q:List Nat),q.Perm (List.range K.length)->(q.map λ i=>K.getD i "")=sA K->(∀ b o,s.heap.get? b=some o->h'.get? b=some o)->s.heap.objs.size<=p->h'.get? p=some (seqObj "list" (bs.map Value.ref).toArray c) ->
   bs.length=K.length->bs.Nodup->(∀ (j:Nat) (b:Lz),bs[j]?=some b->s.heap.objs.size<=b/\b≠p/\∃ (i:Nat) (t:Tok) (x:Lf),q[j]?=some i/\i < K.length/\kvs[i]?=some (Sum.inr (K.getD i ""),x)/\h'.get? b=some { cls:=.type "tuple", data:=.seq #[Value.str (K.getD i "") t,x] }) ->
   Q (.ref p) { s with heap:=h',toks:=tk }) :
  L1 (L6 prog w) A (call (.builtin "sorted") [.ref r]) Q E s:=by
 have hlen:kvs.length=K.length:=by have:=congrArg List.length hk; simpa using this
 refine Calls.call_function_entry kind_sorted plain_sorted entry_sorted (args_sorted1 _) ?_;unfold Builtin.«sorted»;refine Lo (m:=checkCount "sorted" 1 1 _) (LH ?_);refine Lo (PySem.W.kdx_collect (knd:=cx prog w) hh hv hm (by rw [sizeLine_eq]; omega) λ h1 tk as kp hla G=>?_);refine Lo (wpAny_newList ?_ (by rw [K7,sizeLine_eq]; omega));have hkey:∀ j b,as[j]?=some b->s.heap.objs.size < b/\∃ t x,kvs[j]?=some (Sum.inr (K.getD j ""),x)/\h1.get? b=some { cls:=.type "tuple", data:=.seq #[Value.str (K.getD j "") t,x] }:=λ j b hj=>by
  obtain ⟨key,k,x,e1,e2,e3⟩:=G.pairs j b hj;have ek:K[j]?.map (Sum.inr:Str->Key)=some k:=by
   have:=congrArg (λ l=>l[j]?) hk
   simp only [Le,e1] at this;exact this.symm
  cases eK:K[j]? with
  | none=>rw [eK] at ek; cases ek
  | some kk =>
   rw [eK] at ek;cases ek;have egd:K.getD j "" = kk:=by rw [Lk,eK]; rfl
   obtain ⟨t,rfl⟩:=(show ∃ t,key=Value.str kk t from Fa (k:=Sum.inr kk) (show qW (Sum.inr kk) key=true from e2));rw [egd];exact ⟨G.above b (LG hj),t,x,e1,e3⟩
 have hoL:(h1.push (seqObj "list" (as.map Value.ref).toArray 0)).get? h1.objs.size=some (seqObj "list" (as.map Value.ref).toArray 0):=LL _ rfl;have lt1:∀ j b,as[j]?=some b->b < h1.objs.size:=λ j b hj=>by
  obtain ⟨_,_,_,_,e⟩:=hkey j b hj;exact Ly e
 have hs1:s.heap.objs.size<=h1.objs.size:=by
  obtain ⟨o,ho,_⟩:=hv;rw [hrs];exact Ly (kp r o ho)
 show L1 _ _ _ _ _ { s with heap:=h1.push (seqObj "list" (as.map Value.ref).toArray 0),toks:=tk };refine Lo (wpAny_holding (wpAny_call_entry slot_list_sort ⟨_,hoL,rfl⟩ entry_list_sort (rO (s:={ s with heap:=h1.push (seqObj "list" (as.map Value.ref).toArray 0),toks:=tk }) (K:=K) hoL (by omega) (λ j b hj=>?_) hK h7 λ q hq1 hq2=>⟨_,rfl,?_⟩) (args_list_sort _)))
 ·obtain ⟨_,t,x,_,e⟩:=hkey j b hj;exact ⟨LP (lt1 j b hj),t,x,Lg _ e⟩
 obtain ⟨c,hc⟩:=sortedHeap_at (out:=(q.map λ i=>(as.map Value.ref).getD i Value.none).toArray) hoL;have hqlt:∀ i∈q,i < K.length:=λ i hi=>Mg.mp (hq1.mem_iff.mp hi);have ebs:(q.map λ i=>(as.map Value.ref).getD i Value.none)=(q.map λ i=>as.getD i 0).map Value.ref:=by
  rw [LK];refine LQ λ i hi=>?_;have hi':i < as.length:=by have:=hqlt i hi; omega
  rw [sN (K9 hi')];show _=Value.ref (as.getD i 0);rw [Lk,K9 hi']; rfl
 rw [ebs] at hc ⊢;have keepS:∀ b o,b < h1.objs.size->h1.get? b=some o->(sortedHeap (h1.push (seqObj "list" (as.map Value.ref).toArray 0)) h1.objs.size (as.map Value.ref) ((q.map λ i=>as.getD i 0).map Value.ref).toArray).get? b=some o:=λ b o lt e=>by
  rw [sortedHeap_old (LP lt) (by rw [size_push']; exact Nat.lt_succ_of_lt lt)];exact Lg _ e
 refine LH ⟨_,rfl,h _ _ tk c (q.map λ i=>as.getD i 0) q hq1 hq2 (λ b o e=>keepS b o (Ly (kp b o e)) (kp b o e)) hs1 hc (by rw [K7,hq1.length_eq,LW]) ?_ λ j b hj=>?_⟩
 ·refine lO (hq1.nodup_iff.mpr List.nodup_range) λ i hi j hj e=>?_;have hi':i < as.length:=by have:=hqlt i hi; omega
  have hj':j < as.length:=by have:=hqlt j hj; omega
  have hn:as.Nodup:=G.rise.imp λ h=>LP h;rw [Lk,Lk,K9 hi',K9 hj'] at e;exact (MQ hi' hn).mp (by rw [K9 hi',K9 hj']; exact congrArg some e)
 ·rw [Le] at hj;cases eq:q[j]? with
  | none=>rw [eq] at hj; cases hj
  | some i =>
   rw [eq] at hj;have hi:=hqlt i (LG eq);have hb:as[i]?=some b:=by
    have:as.getD i 0=b:=Option.some.inj hj
    rw [Lk,K9 (by omega)] at this;rw [K9 (by omega)];exact congrArg some this
   obtain ⟨h3,t,x,e1,e2⟩:=hkey i b hb;exact ⟨Nat.le_of_lt h3,LP (lt1 i b hb),i,t,x,rfl,hi,e1,keepS b _ (lt1 i b hb) e2⟩
end
noncomputable def zp:List (K5×K5)->Option (List (Str×K5))
 | []=>some []
 | (.str k,v)::r=>(zp r).bind λ ps=>some ((k,v)::ps)
 | _::_=>none
noncomputable def lkS:List (Str×K5)->Str->K5
 | [],_=>.none
 | p::r,k=>if p.1=k then p.2 else lkS r k
theorem vn:∀ {es:List (K5×K5)} {ps:List (Str×K5)},zp es=some ps->es=ps.map λ p=>(.str p.1,p.2)
 | [],ps,h=>by cases h; rfl
 | (d,v)::r,ps,h=>by
  cases d with
  | str k =>
   obtain ⟨qs,h1,h2⟩:=ab (show (zp r).bind (λ ps=>some ((k,v)::ps))=some ps from h);cases h2;rw [vn h1]; rfl
  | _=>cases h
theorem As:∀ {ps:List (Str×K5)},(ps.map (·.1)).Nodup->∀ (i:Nat) (p:Str×K5),ps[i]?=some p->lkS ps p.1=p.2
 | [],_,i,p,h=>by simp at h
 | x::r,hn,0,p,h=>by
  have:x=p:=by simpa using h
  subst this;exact if_pos rfl
 | x::r,hn,i+1,p,h=>by
  rw [Ln,Mf] at hn;have h':r[i]?=some p:=by simpa using h
  have hne:¬ x.1=p.1:=λ e=>hn.1 (by rw [e]; exact List.mem_map_of_mem (LG h'));show (if x.1=p.1 then x.2 else lkS r p.1)=_;rw [if_neg hne];exact As hn.2 i p h'
noncomputable def yX (x:K5):Option K5:=match x with
 | .dict es=>(zp es).bind λ ps=>if ps.length<=7/\(ps.map (·.1)).Nodup then some (.list ((sA (ps.map (·.1))).map λ k=>.tuple [.str k,lkS ps k])) else none
 | _=>none
theorem xa {K:K6} {F:Hp}:∀ {ps:List (Str×K5)} {ks:List (Key×V)},RelD K F (ps.map λ p=>(PyData.str p.1,p.2)) ks->ks.map (·.1)=(ps.map (·.1)).map Sum.inr/\∀ (i:Nat) (p:Str×K5),ps[i]?=some p->∃ x,ks[i]?=some (Sum.inr p.1,x)/\Rel K F p.2 x
 | [],ks,h=>by rw [h.nil_of]; exact ⟨rfl,λ i p e=>by simp at e⟩
 | q::ps,ks,h=>by
  obtain ⟨k,x,r,rfl,e1,h3,h4⟩:=h.cons_of;have ek:k=Sum.inr q.1:=wj (b:=Sum.inr q.1) e1.symm;subst ek;obtain ⟨a,b⟩:=xa h4;refine ⟨by rw [Ln,a]; rfl,λ i p e=>?_⟩;cases i with
  | zero =>
   have:q=p:=by simpa using e
   subst this;exact ⟨x,rfl,h3⟩
  | succ i=>exact b i p (by simpa using e)
theorem G6:∀ {ks:List (Key×V)} {vs:List (Key×Lf)},KV ks vs->∀ (i:Nat) (p:Key×V),ks[i]?=some p->∃ v,vs[i]?=some (p.1,v)/\RelV p.2 v:=λ {ks vs} r=>by
 induction r with
 | nil=>intro i p e; simp at e
 | @cons a b as bs hab t ih =>
  intro i p e;cases i with
  | zero =>
   have:a=p:=by simpa using e
   subst this;exact ⟨b.2,by simp [hab.1],hab.2⟩
  | succ i=>exact ih i p (by simpa using e)
theorem u5 {bs:List Lz} (hn:bs.Nodup) {j:Nat} {b:Lz} (h:bs[j]?=some b):bs.idxOf b=j:=by
 have hj:=(Lb.mp h).1;have hb:b∈bs:=LG h;have hi:bs.idxOf b < bs.length:=List.idxOf_lt_length_of_mem hb;refine (MQ hi hn).mp ?_;rw [h,K9 hi,List.getElem_idxOf]
section
variable {X:Cx} {B:Bd} {a:Expr} {f:En->Option K5} {p1 ip cp q1:Pos}
theorem E.sortItems {k:Nat} (hr:Room k X.A) (hl:X.mg "sorted" = none) (ha:E X B a f) (hg:Gl X "sorted" := by rfl) (hb:attributeBase a "items" X.env (eval a X.env)=eval a X.env:=by rfl) (hline:(ip.endLine==cp.line)=true:=by rfl)
  (he2:Lj [.Call (.Attribute a "items" ip) [] [] cp] X.env=(false,eval (.Call (.Attribute a "items" ip) [] [] cp) X.env)::Lj [] X.env:=by exact bD rfl) (hpl2:(backTo q1 (Lj [] X.env)).any (·.1)=false:=by rfl) :
  E X B (.Call (.Name "sorted" p1) [.Call (.Attribute a "items" ip) [] [] cp] [] q1) (l1 yX f):=by
 intro pins s σ H Q I ⟨F,η,d,sr,hd,q⟩;obtain ⟨x,h1,hd⟩:=ab hd;unfold yX at hd;split at hd
 ·rename_i es;obtain ⟨ps,hps,hd⟩:=ab hd;split at hd
  ·rename_i hc;obtain ⟨h7,hnd⟩:=hc;cases hd;have ees:=vn hps;refine wpAny_Call_Name_kw (nh I hg hl boot_sorted ?_ (by decide) (by decide));refine PyProof.Rows.callWith_builtin1 ?_ he2 hpl2;rw [he2];show L1 _ _ (spliced ((false,eval (.Call (.Attribute a "items" ip) [] [] cp) X.env)::backTo q1 (Lj [] X.env))) _ _ s;refine Calls.spliced_cons ?_;refine wpAny_Call_method0_late hb hline (thn (ha pins s σ H (λ v H1=>∃ F',Gr F H F' H1/\Rel X.K F' (.dict es) v) I ⟨F,η,_,sr,h1,λ v F' H' g r=>⟨F',g,r⟩⟩) λ v s1 ⟨y,H1,I1,r1,F1,g1,rl⟩=>?_);obtain ⟨pd,ks,rfl,hq,rd⟩:=rl.dct;cases r1;have hq':=zP g1.fh hq;obtain ⟨t1,t2,t3⟩:=Dg I1 (a:=pd) (.inl ⟨ks,hq'⟩);obtain ⟨z,zd,vs,rel,o,es',ep,g,c⟩:=AG I1.hok hq';have da:s1.heap.DictAt (cx X.prog X.w) pd vs ep:=⟨o,es',g,c.1,c.2.1,c.2.2⟩;refine ⟨"dict", "dict.items", PySem.F.plainAttrs_dict,PySem.F.slot_dict_items,PySem.F.type_dict_items,t1,t2,Calls.callWith_builtin rfl (PySem.evalArgs_none ?_)⟩;refine call_meetsIn PySem.F.slot_dict_items t1 PySem.F.entry_dict_items (PySem.F.args_dict_items_1 _) (meets_dict_items (cx X.prog X.w) pd t3) ⟨⟨vs,da.dictOf⟩,?_⟩;have I2:Inv X pins σ H1 { s1 with heap:=s1.heap.push { cls:=.type "dict_items", data:=.fields #[.ref pd] } }:=I1.kept (t':=s1.toks) λ b u e=>Lg _ e;refine Calls.spliced_nil ?_;rw [ees] at rd;obtain ⟨rk,rg⟩:=xa rd;have hkv:vs.map (·.1)=(ps.map (·.1)).map Sum.inr:=by rw [<- rel.keys]; exact rk
   have hKl:(ps.map (·.1)).length=ps.length:=K7 _;refine vE (s:={ s1 with heap:=s1.heap.push { cls:=.type "dict_items", data:=.fields #[.ref pd] } }) (K:=ps.map (·.1)) hr.hd ⟨_,LL _ rfl,rfl,rfl⟩ (Heap.size_push ..) (da.push _) hkv hnd (by omega) λ h' p tk c' bs qq hq1 hq2 kp hp hat hbl hbn hbs=>?_;have hix:∀ (j i:Nat),qq[j]?=some i->i < ps.length->∃ pr x,ps[i]?=some pr/\ks[i]?=some (Sum.inr pr.1,x)/\Rel X.K F1 pr.2 x/\(ps.map (λ x=>x.1):List Str).getD i "" = pr.1:=λ j i _ hi=>by
    obtain ⟨x,e1,e2⟩:=rg i ps[i] (K9 hi);exact ⟨ps[i],x,K9 hi,e1,e2,by rw [Lk,Le,K9 hi]; rfl⟩
   let vp:Nat->Option HO:=λ j=>(qq[j]?).bind λ i=>(ks[i]?).bind λ kx=>some (.tup [kV kx.1,kx.2])
   let N:Hp:=λ t=>if t=p then some (.lst (bs.map V.ref)) else if t∈bs then vp (bs.idxOf t) else none
   have hN:∀ j b,bs[j]?=some b->b≠p->N b=vp j:=λ j b hj hne=>by
    show (if b=p then _ else if b∈bs then vp (bs.idxOf b) else none)=_;rw [if_neg hne,if_pos (LG hj),u5 hbn hj]
   have I3:Inv X pins σ (lay H1 (s1.heap.push { cls:=.type "dict_items", data:=.fields #[.ref pd] }).objs.size N) { s1 with heap:=h',toks:=tk }:=(Dh I2 kp λ t o ht ho=>by
    by_cases e:t=p
    ·have e2:N t=some (.lst (bs.map V.ref)):=if_pos e;rw [e2] at ho;cases ho;subst e;refine ⟨by rw [K7,hbl,hKl,sizeLine_eq]; omega,bs.map Value.ref,c',?_,by simpa using hat⟩;have gen:∀ l:List Lz,Vals (l.map V.ref) (l.map Value.ref):=λ l=>by
      induction l with
      | nil=>exact .nil
      | cons v r ih=>exact .cons rfl ih
     exact gen bs
    ·have e2:N t=if t∈bs then vp (bs.idxOf t) else none:=if_neg e;rw [e2] at ho;split at ho
     ·rename_i hm;obtain ⟨j,hj⟩:=MB hm;rw [u5 hbn hj] at ho;obtain ⟨_,_,i,tt,xx,f1,f2,f3,f4⟩:=hbs j t hj;obtain ⟨pr,xv,p1,p2,p3,p4⟩:=hix j i f1 (by rw [<- hKl]; exact f2);have ho':vp j=some (.tup [V.str pr.1,xv]):=by
       show (qq[j]?).bind _=_;rw [f1,K8,p2]; rfl
      rw [ho'] at ho;cases ho;obtain ⟨vv,v1,v2⟩:=G6 rel i _ p2;rw [f3] at v1;have exx:xx=vv:=by
       have:=Option.some.inj v1
       exact congrArg Prod.snd this
      subst exx;rw [p4] at f4;exact ⟨by show 2<=Li; decide,[.str pr.1 tt,xx],.cons ⟨tt,rfl⟩ (.cons v2 .nil),⟨_,f4,rfl,_,rfl⟩⟩
     ·cases ho).tok tk
   refine ⟨.ref p,_,I3,rfl,?_⟩;have g2:Gr F1 H1 (lay F1 (s1.heap.push { cls:=.type "dict_items", data:=.fields #[.ref pd] }).objs.size N) (lay H1 (s1.heap.push { cls:=.type "dict_items", data:=.fields #[.ref pd] }).objs.size N):=Hj g1.fh λ t ht=>I2.hok.fresh ht;have hNp:N p=some (.lst (bs.map V.ref)):=if_pos rfl;have hql:qq.length=ps.length:=by rw [hq1.length_eq,LW,hKl]
   refine q _ _ _ (g1.trans g2) (jk (SqL.of (by rw [sk hp]; exact hNp)) (w8 ?_ λ j d hd=>?_))
   ·rw [K7,<- hq2,K7,K7,hql,hbl,hKl]
   ·rw [<- hq2,Le,Le] at hd;cases eq:qq[j]? with
    | none=>rw [eq] at hd; cases hd
    | some i =>
     rw [eq] at hd;cases hd;have hj:j < bs.length:=by
      have:=(Lb.mp eq).1
      omega
     obtain ⟨b0,b1,i',tt,xx,f1,f2,f3,f4⟩:=hbs j bs[j] (K9 hj);rw [eq] at f1;cases f1;obtain ⟨pr,xv,p1,p2,p3,p4⟩:=hix j i eq (by rw [<- hKl]; exact f2);have ho':vp j=some (.tup [V.str pr.1,xv]):=by
      show (qq[j]?).bind _=_;rw [eq,K8,p2]; rfl
     refine ⟨.ref bs[j],by rw [Le,K9 hj]; rfl,?_⟩;dsimp only;rw [p4,As hnd i pr p1];exact iI (SqT.of (by rw [sk b0,hN j _ (K9 hj) b1]; exact ho')) (.cons jP (.cons (p3.mono g2.ff) .nil))
  ·cases hd
 ·cases hd
end
section
variable {X:Cx} {B:Bd} {a b e st:Expr} {f g:En->Option K5} {fs:En->Option (List K5)} {pos pp p2:Pos}
end
section
variable {X:Cx} {B:Bd} {a b e st:Expr} {f g:En->Option K5} {fs:En->Option (List K5)} {pos pp p2:Pos}
end
section
variable {X:Cx} {cl:Nat->Lz} {a b c e o st:Expr} {es:List Expr} {sts:List Stmt} {f g h:MF} {fs:MFs} {p:MTF} {u:Wd->Option MOut} {pos p2 pp:Pos}
end
end L2.PU
namespace L2.PU
open PySem  PySem.Spec PyProof.Rows
section
variable {X:Cx} {cl:Nat->Lz} {a b:Expr} {fs:MFs} {px py pt pos:Pos} {kt k2:Nat} {pt2:Pos}
noncomputable def CZ (i j:Nat) (fs:MFs):Wd->Option MOut:=λ w=>(fs w).bind λ r=>match r.1 with
 | [x,y]=>some (.nx ⟨(w.η.set i (some x)).set j (some y),r.2⟩)
 | _=>none
theorem MS.par (i j:Nat) {x y:Str} (hN:X.N.Nodup) (ha:MA X cl [a,b] fs) (hc:X.calm=true:=by rfl) (hi:X.N[i]?=some x:=by rfl) (hj:X.N[j]?=some y:=by rfl) (hij:i≠j:=by decide)
  (hx:X.env.scope.names.lookup x=some .local:=by rfl) (hy:X.env.scope.names.lookup y=some .local:=by rfl)
  (hw:swappedStores [.Tuple [.Name x px,.Name y py] kt pt] (.Tuple [a,b] k2 pt2) X.env=pure (some [x,y]):=by rfl)
  (hs:swapsWithSole [.Tuple [.Name x px,.Name y py] kt pt] (.Tuple [a,b] k2 pt2) pos.line X.env=pure false:=by rfl) :
  MS X cl (.Assign [.Tuple [.Name x px,.Name y py] kt pt] (.Tuple [a,b] k2 pt2) pos) (CZ i j fs) :=
 PS.imp (GB hc hN hi hj hij hx hy ha hw hs) λ Z σ H ⟨θ,F,w,o,m,v,hf,q⟩=>by
  obtain ⟨⟨ds,s1⟩,h1,hf⟩:=ab hf;dsimp only at hf;split at hf
  ·rename_i d1 d2;cases hf;refine ⟨θ,F,w,_,_,m,v,h1,λ vs θ' F' H' p' s' m' rs=>?_⟩;cases rs with
   | cons r1 rr=>cases rr with
    | cons r2 rn=>cases rn with
     | nil=>exact ⟨_,_,rfl,q _ θ' F' H' p' s' m' (((v.mono p' s').set i r1).set j r2)⟩
  ·cases hf
theorem Ao {i j:Nat} {w:Wd} {x y:D} {s1:Sto} (h:fs w=some ([x,y],s1)):CZ i j fs w=some (.nx ⟨(w.η.set i (some x)).set j (some y),s1⟩):=by
 unfold CZ; rw [h]; rfl
end
section
variable {X:Cx} {B:Bd} {a e:Expr} {f g:En->Option K5} {apos cpos:Pos}
noncomputable def IA:V->List V->Hp->VK->Prop:=λ x vs H Q=>∃ z y,x=.str z/\vs=[.str y]/\Q (.int (Txt.count z y)) H
theorem Bi:MtR X "str.count" IA:=by
 intro pins s σ H x vs v us Q I rx rv h;obtain ⟨z,y,rfl,rfl,q⟩:=h;obtain ⟨t,rfl⟩:=rx;obtain ⟨w,rfl,rw'⟩:=ot rv;obtain ⟨u,rfl⟩:=rw';exact SC.count ⟨.int (Txt.count z y),_,I.tok _,⟨_,rfl⟩,q⟩
noncomputable def Cy (x y:K5):Option K5:=match x,y with
 | .str z,.str y=>some (.int (Txt.count z y))
 | _,_=>none
theorem E.countS (ha:E X B a f) (he:E X B e g) (hbase:attributeBase a "count" X.env (eval a X.env)=eval a X.env:=by rfl)
  (hfew:((backTo cpos (Lj [e] X.env)).all (λ x=>!x.1)&&(backToKw cpos (keywordEach [] X.env)).all (λ x=>x.1.isSome)
   && decide ([e].length+([]:List Keyword).length+(if ([]:List Keyword).isEmpty then 0 else 1) < 30))=true:=by rfl)
  (hline:(apos.endLine==cpos.line)=true:=by rfl) (hs:Lj [e] X.env=(false,eval e X.env)::Lj [] X.env:=by exact bD rfl) (hplain:(backTo cpos (Lj [] X.env)).any (·.1)=false:=by rfl) :
  E X B (.Call (.Attribute a "count" apos) [e] [] cpos) (l2 Cy f g) :=
 PE.imp (uU PySem.F.plainAttrs_str PySem.F.slot_str_count PySem.F.type_str_count Bi ha (ac he ag hs) hbase hfew hline hs hplain) λ σ H Q ⟨F,η,d,sr,hd,q⟩=>by
  obtain ⟨x,hx,hd⟩:=ab hd;obtain ⟨y,hy,hd⟩:=ab hd;cases x with
  | str z=>cases y with
   | str y =>
   cases hd;refine ⟨F,η,_,sr,hx,λ v F1 H1 g1 rv=>?_⟩;rw [rv.str];refine ⟨rfl,F1,η,[.str y],sr.grow g1,(by show (g η).bind _=_; rw [hy]; rfl),λ vs F2 H2 g2 rs=>?_⟩;obtain ⟨w,r,rfl,rw',rr⟩:=rs.cons_of;obtain rfl:=rr.nil_of;rw [rw'.str];exact ⟨z,y,rfl,rfl,q _ F2 H2 (g1.trans g2) cZ⟩
   | _=>cases hd
  | _=>cases hd
end
end L2.PU
namespace K56
open PySem L2 L2.PU
abbrev DFn:=List D->Sto->Option (D×Sto)
abbrev PFn:=List K5->Option K5
noncomputable def top (i:Nat):Stmt:=PySem.Challenge.pw_touchtree_k56_whole_pictures.main.body.getD i (.Pass ⟨0,0,0,0⟩)
noncomputable abbrev mL:Stmt:=top 54
noncomputable abbrev lY:Stmt:=top 55
noncomputable abbrev fL:Stmt:=top 56
noncomputable abbrev k7:Stmt:=top 19
noncomputable abbrev qP:Stmt:=top 17
noncomputable abbrev sK:Stmt:=top 20
noncomputable abbrev pv:Stmt:=top 21
noncomputable abbrev pq:Stmt:=top 18
noncomputable abbrev oy:Stmt:=top 33
noncomputable abbrev k6:Stmt:=top 37
noncomputable abbrev iE:Stmt:=top 22
noncomputable abbrev pz:Stmt:=top 35
noncomputable abbrev mI:Stmt:=top 36
noncomputable abbrev kS:Stmt:=top 38
noncomputable abbrev mK:Stmt:=top 34
noncomputable abbrev oz:Stmt:=top 39
noncomputable abbrev qM:Stmt:=top 48
noncomputable abbrev pk:Stmt:=top 45
noncomputable abbrev lK:Stmt:=top 46
noncomputable abbrev kg:Stmt:=top 41
noncomputable abbrev jL:Stmt:=jV (top 52) 0
noncomputable abbrev mO:Stmt:=jV (top 52) 1
noncomputable abbrev kh:Stmt:=jV (top 52) 2
noncomputable abbrev sJ:Stmt:=top 24
noncomputable abbrev lZ:Stmt:=jV (top 52) 4
noncomputable abbrev mJ:Stmt:=top 25
noncomputable abbrev l4:Stmt:=jV (top 52) 5
noncomputable abbrev jE:Stmt:=top 26
noncomputable abbrev qO:Stmt:=top 27
noncomputable abbrev l0:Stmt:=jV (top 52) 6
noncomputable abbrev qN:Stmt:=top 28
noncomputable abbrev mQ:Stmt:=jV (top 52) 7
noncomputable abbrev lL:Stmt:=top 16
noncomputable abbrev ox:Stmt:=top 23
noncomputable abbrev mM:Stmt:=jV (top 52) 3
noncomputable abbrev iF:Stmt:=top 57
noncomputable abbrev iq:Stmt:=top 47
noncomputable abbrev wW:Stmt:=top 40
noncomputable abbrev l5:Stmt:=jV (top 52) 8
noncomputable abbrev lX:Stmt:=top 58
noncomputable abbrev lp:Stmt:=top 59
structure Adr where
 (C_Plan dM cN cL eM gB iA fE fC eJ eI fJ fG dH gw dJ eL gx fA fB dI bK dO bX kK cO gy cQ cK gA cP gz dP fI eG dN dL bW kJ cR cM lF:Lz)
 (dC cE cC eE gu iy fm fk eB eA fu fo du gl dA eD gm fg fj dz bJ dE bV kG cG gn cI cB gq cH gp dF fq el dD dB bU kF cJ cD lC:Mj)
 (t_AROUND t_CUTS_OFF t_HEIGHT t_HIDDEN t_LEFT t_LETS_BY t_MARKS t_MOST_BOXES t_NAME t_NOTHING t_ROW_END t_SCENE t_TOP t_WIDTH t_WORD:Tok)
noncomputable abbrev gh:List Str:=["_law_script", "_law_k"]
noncomputable abbrev fP:List Str:=["_law_script", "_law_k", "_law_many"]
noncomputable abbrev fN:List Str:=["_law_script", "_law_at"]
noncomputable abbrev g7:List Str:=["scene", "name"]
noncomputable abbrev jy:List Str:=["scene", "name"]
noncomputable abbrev ki:List Str:=["scene", "name"]
noncomputable abbrev iO:List Str:=["scene"]
noncomputable abbrev iN:List Str:=["scene", "name"]
noncomputable abbrev g0:List Str:=["scene", "name", "mark"]
noncomputable abbrev gZ:List Str:=["scene", "name"]
noncomputable abbrev iR:List Str:=["scene", "name"]
noncomputable abbrev iP:List Str:=["one", "other"]
noncomputable abbrev f9:List Str:=["scene", "name"]
noncomputable abbrev jt:List Str:=["scene"]
noncomputable abbrev gd:List Str:=["area", "x", "y"]
noncomputable abbrev g6:List Str:=["rows", "x", "y"]
noncomputable abbrev ju:List Str:=["scene", "left", "top", "right", "bottom"]
noncomputable abbrev iL:List Str:=["name"]
noncomputable abbrev iM:List Str:=["scene", "left", "top", "right", "bottom"]
noncomputable abbrev gb:List Str:=["scene", "name"]
noncomputable abbrev cX:List Str:=["self", "scene"]
noncomputable abbrev gj:List Str:=["self"]
noncomputable abbrev dq:List Str:=["self", "word", "scene"]
noncomputable abbrev mU:List Str:=["scene", "name"]
noncomputable abbrev fQ:List Str:=["self", "name"]
noncomputable abbrev jv:List Str:=["scene", "name"]
noncomputable abbrev fS:List Str:=["self", "name"]
noncomputable abbrev fM:List Str:=["scene", "other"]
noncomputable abbrev jx:List Str:=["scene", "name", "marks"]
noncomputable abbrev fR:List Str:=["self", "name", "marks"]
noncomputable abbrev jw:List Str:=["scene", "name", "left", "top"]
noncomputable abbrev gk:List Str:=["self", "name", "left", "top"]
noncomputable abbrev iQ:List Str:=["scene", "name"]
noncomputable abbrev gY:List Str:=["scene", "box"]
noncomputable abbrev gi:List Str:=["self", "box"]
noncomputable abbrev gf:List Str:=["_law_script", "_law_at", "_law_plan"]
noncomputable abbrev dm:List Str:=["one", "other", "left", "top", "right", "bottom"]
noncomputable abbrev mT:List Str:=["scene", "x", "y"]
noncomputable abbrev fT:List Str:=["self"]
noncomputable abbrev fO:List Str:=["_law_scene_here", "_law_right", "_law_down"]
structure Tx (K:K6) (mg:Str->Option Lf) (t:Adr):Prop where
 mg_Plan:mg "Plan" = some (.ref t.C_Plan)
 mk_Plan:Mk K t.C_Plan t.bK
 tz:mg "_law_cell" = some (.ref t.dM)
 aH:mg "_law_drawn" = some (.ref t.cN)
 rM:mg "_law_scene" = some (.ref t.cL)
 oB:mg "children" = some (.ref t.eM)
 d4:mg "box_of" = some (.ref t.gB)
 kl:mg "below" = some (.ref t.iA)
 v9:mg "painted" = some (.ref t.fE)
 jT:mg "path_of" = some (.ref t.fC)
 k9:mg "has_mark" = some (.ref t.eJ)
 uB:mg "is_shown" = some (.ref t.eI)
 pH:mg "area_of" = some (.ref t.fJ)
 wa:mg "overlap" = some (.ref t.fG)
 m6:mg "window_of" = some (.ref t.dH)
 iC:mg "takers" = some (.ref t.gw)
 tu:mg "has_point" = some (.ref t.dJ)
 fV:mg "first_at" = some (.ref t.eL)
 xz:mg "shares" = some (.ref t.gx)
 v8:mg "sign_of" = some (.ref t.fA)
 iS:mg "picture" = some (.ref t.fB)
 tq:mg "points_of" = some (.ref t.dI)
 dZ:Meth K t.C_Plan "now" t.dO
 cY:Meth K t.C_Plan "step_to" t.bX
 xD:mg "cut" = some (.ref t.kK)
 lr:Meth K t.C_Plan "take" t.cO
 xA:mg "raised" = some (.ref t.gy)
 qA:Meth K t.C_Plan "lift" t.cQ
 l7:mg "with_other" = some (.ref t.cK)
 xB:mg "marked" = some (.ref t.gA)
 qz:Meth K t.C_Plan "mark" t.cP
 qQ:mg "put_at" = some (.ref t.gz)
 rL:Meth K t.C_Plan "lay" t.dP
 pG:mg "has_box" = some (.ref t.fI)
 uA:mg "with_box" = some (.ref t.eG)
 rK:Meth K t.C_Plan "put" t.dN
 tw:mg "_law_step" = some (.ref t.dL)
 ir:mg "unlike_points" = some (.ref t.bW)
 xC:mg "hit" = some (.ref t.kJ)
 qB:Meth K t.C_Plan "back" t.cR
 rN:mg "_law_moved" = some (.ref t.cM)
 CV:mg "law" = some (.ref t.lF)
 c_AROUND:mg "AROUND" = some (.int (1) t.t_AROUND)
 c_CUTS_OFF:mg "CUTS_OFF" = some (.str "c" t.t_CUTS_OFF)
 c_HEIGHT:mg "HEIGHT" = some (.int (5) t.t_HEIGHT)
 c_HIDDEN:mg "HIDDEN" = some (.str "h" t.t_HIDDEN)
 c_LEFT:mg "LEFT" = some (.int (2) t.t_LEFT)
 c_LETS_BY:mg "LETS_BY" = some (.str "l" t.t_LETS_BY)
 c_MARKS:mg "MARKS" = some (.int (6) t.t_MARKS)
 c_MOST_BOXES:mg "MOST_BOXES" = some (.int (12) t.t_MOST_BOXES)
 c_NAME:mg "NAME" = some (.int (0) t.t_NAME)
 c_NOTHING:mg "NOTHING" = some (.str "." t.t_NOTHING)
 c_ROW_END:mg "ROW_END" = some (.str "\n" t.t_ROW_END)
 c_SCENE:mg "SCENE" = some (.int (1) t.t_SCENE)
 c_TOP:mg "TOP" = some (.int (3) t.t_TOP)
 c_WIDTH:mg "WIDTH" = some (.int (4) t.t_WIDTH)
 c_WORD:mg "WORD" = some (.int (0) t.t_WORD)
 z_any:mg "any" = none
 z_enumerate:mg "enumerate" = none
 z_len:mg "len" = none
 z_max:mg "max" = none
 z_min:mg "min" = none
 z_range:mg "range" = none
 z_reversed:mg "reversed" = none
 z_sorted:mg "sorted" = none
 z_sum:mg "sum" = none
 z_tuple:mg "tuple" = none
 z_zip:mg "zip" = none
 cl_Plan:Cls K t.C_Plan
 na_Plan_done:NoAttr K t.C_Plan "done"
 na_Plan_scene:NoAttr K t.C_Plan "scene"
 na_Plan_undone:NoAttr K t.C_Plan "undone"
 bR:Fun K "_law_cell" "_law_cell" mL t.dM t.dC
 af:Fun K "_law_drawn" "_law_drawn" lY t.cN t.cE
 ce:Fun K "_law_scene" "_law_scene" fL t.cL t.cC
 bn:Fun K "children" "children" k7 t.eM t.eE
 ak:Fun K "box_of" "box_of" qP t.gB t.gu
 aO:Fun K "below" "below" sK t.iA t.iy
 cv:Fun K "painted" "painted" pv t.fE t.fm
 aM:Fun K "path_of" "path_of" pq t.fC t.fk
 a5:Fun K "has_mark" "has_mark" oy t.eJ t.eB
 dh:Fun K "is_shown" "is_shown" k6 t.eI t.eA
 bS:Fun K "area_of" "area_of" iE t.fJ t.fu
 c6:Fun K "overlap" "overlap" pz t.fG t.fo
 bG:Fun K "window_of" "window_of" mI t.dH t.du
 ba:Fun K "takers" "takers" kS t.gw t.gl
 bp:Fun K "has_point" "has_point" mK t.dJ t.dA
 ao:Fun K "first_at" "first_at" oz t.eL t.eD
 eY:Fun K "shares" "shares" qM t.gx t.gm
 ee:Fun K "sign_of" "sign_of" pk t.fA t.fg
 bm:Fun K "picture" "picture" lK t.fB t.fj
 bP:Fun K "points_of" "points_of" kg t.dI t.dz
 bM:Fun K "__init__" "Plan.__init__" jL t.bK t.bJ
 aZ:Fun K "now" "Plan.now" mO t.dO t.dE
 aP:Fun K "step_to" "Plan.step_to" kh t.bX t.bV
 dR:Fun K "cut" "cut" sJ t.kK t.kG
 cg:Fun K "take" "Plan.take" lZ t.cO t.cG
 df:Fun K "raised" "raised" mJ t.gy t.gn
 cV:Fun K "lift" "Plan.lift" l4 t.cQ t.cI
 a8:Fun K "with_other" "with_other" jE t.cK t.cB
 dg:Fun K "marked" "marked" qO t.gA t.gq
 cU:Fun K "mark" "Plan.mark" l0 t.cP t.cH
 b4:Fun K "put_at" "put_at" qN t.gz t.gp
 dU:Fun K "lay" "Plan.lay" mQ t.dP t.dF
 c7:Fun K "has_box" "has_box" lL t.fI t.fq
 de:Fun K "with_box" "with_box" ox t.eG t.el
 dS:Fun K "put" "Plan.put" mM t.dN t.dD
 bQ:Fun K "_law_step" "_law_step" iF t.dL t.dB
 aS:Fun K "unlike_points" "unlike_points" iq t.bW t.bU
 hG:Fun K "hit" "hit" wW t.kJ t.kF
 bA:Fun K "back" "Plan.back" l5 t.cR t.cJ
 cf:Fun K "_law_moved" "_law_moved" lX t.cM t.cD
 nR:Fun K "law" "law" lp t.lF t.lC
 t8:Binds K t.dC gh []
 aI:Binds K t.cE fP []
 rR:Binds K t.cC fN []
 oP:Binds K t.eE g7 []
 d8:Binds K t.gu jy []
 kI:Binds K t.iy ki []
 wC:Binds K t.fm iO []
 j5:Binds K t.fk iN []
 li:Binds K t.eB g0 []
 uE:Binds K t.eA gZ []
 p9:Binds K t.fu iR []
 wD:Binds K t.fo iP []
 nL:Binds K t.du f9 []
 iD:Binds K t.gl jt []
 t6:Binds K t.dA gd []
 fX:Binds K t.eD g6 []
 ym:Binds K t.gm ju []
 wB:Binds K t.fg iL []
 iY:Binds K t.fj iM []
 t5:Binds K t.dz gb []
 ol:Binds K t.bJ cX []
 eU:Binds K t.dE gj []
 dG:Binds K t.bV dq []
 yq:Binds K t.kG mU []
 my:Binds K t.cG fQ []
 yn:Binds K t.gn jv []
 rV:Binds K t.cI fS []
 mx:Binds K t.cB fM []
 yo:Binds K t.gq jx []
 rT:Binds K t.cH fR []
 ri:Binds K t.gp jw []
 ua:Binds K t.dF gk []
 p8:Binds K t.fq iQ []
 uD:Binds K t.el gY []
 t9:Binds K t.dD gi []
 t7:Binds K t.dB gf []
 iz:Binds K t.bU dm []
 yp:Binds K t.kF mT []
 rW:Binds K t.cJ fT []
 rS:Binds K t.cD fO []
 Jh:Binds K t.lC ["_law_script"] []
theorem tx_ex {K:K6} {mg:Str->Option Lf} {C_Plan dM cN cL eM gB iA fE fC eJ eI fJ fG dH gw dJ eL gx fA fB dI bK dO bX kK cO gy cQ cK gA cP gz dP fI eG dN dL bW kJ cR cM lF:Lz} {dC cE cC eE gu iy fm fk eB eA fu fo du gl dA eD gm fg fj dz bJ dE bV kG cG gn cI cB gq cH gp dF fq el dD dB bU kF cJ cD lC:Mj} {t_AROUND t_CUTS_OFF t_HEIGHT t_HIDDEN t_LEFT t_LETS_BY t_MARKS t_MOST_BOXES t_NAME t_NOTHING t_ROW_END t_SCENE t_TOP t_WIDTH t_WORD:Tok} (tx:Tx K mg ⟨C_Plan,dM,cN,cL,eM,gB,iA,fE,fC,eJ,eI,fJ,fG,dH,gw,dJ,eL,gx,fA,fB,dI,bK,dO,bX,kK,cO,gy,cQ,cK,gA,cP,gz,dP,fI,eG,dN,dL,bW,kJ,cR,cM,lF,dC,cE,cC,eE,gu,iy,fm,fk,eB,eA,fu,fo,du,gl,dA,eD,gm,fg,fj,dz,bJ,dE,bV,kG,cG,gn,cI,cB,gq,cH,gp,dF,fq,el,dD,dB,bU,kF,cJ,cD,lC,t_AROUND,t_CUTS_OFF,t_HEIGHT,t_HIDDEN,t_LEFT,t_LETS_BY,t_MARKS,t_MOST_BOXES,t_NAME,t_NOTHING,t_ROW_END,t_SCENE,t_TOP,t_WIDTH,t_WORD⟩):∃ t,Tx K mg t:=⟨_,tx⟩
end K56
section
open PySem PySem.W PyProof.Rows
set_option maxRecDepth 100000 in
set_option maxHeartbeats 0 in
theorem K56.tx:∃ K:Params->Frag,(∀ w h,K56.hk.H.says w h->(K w.params).In h)/\∀ (P:Params) (mg:Str->Option Lf) (h:Heap),(K P).In h->h.Ns mainGlobals mg->∃ t,K56.Tx (K P) mg t:=by
 refine' L2.PU.tx_mk (H:=K56.hk.H) (T:=λ K mg=>∃ t,K56.Tx K mg t) (λ w h Y=>show InK _ w h from Y) ?tx
 (case tx =>
  refine (λ (f:PySem.Challenge.rw_touchtree_k56_whole_pictures=PySem.Challenge.rw_touchtree_k56_whole_pictures->_)=>f rfl) ?_
  k_fill
  intro _ P mg h KX G
  refine' K56.tx_ex ?t2
  case t2 =>
   constructor
   all_goals first
   | exact mg_of KX G (by k_is)
   | exact mg_none_of KX G (by k_is)
   | exact L2.PU.na_mk (by k_is)
   | exact L2.fun_mk (by k_is) (by k_is) (by (try dsimp only); k_is)
   | exact L2.PU.bi_mk (by (repeat' intro _); exact rfl)
   | (constructor <;> (try dsimp only) <;> k_is)
)
end
namespace K56
open PySem L2 L2.PU
noncomputable def cl (t:Adr):Nat->Lz
 | _=>t.C_Plan
section
variable {Pr:LM} {w:World} {K:K6} {mg:Str->Option Lf} {base:Heap} {t:Adr}
section
variable {k:Nat} {nr me rf oI tH pQ oG pV pT pR oF ni nn qX oH pO ko xQ qZ l9 re rc pU oC nv mf mi mh ny nt ma qY pP nl jN nq kn xP mj md:Nat}
variable {ic aj aD dt bC bB bN hE jp jo iX cA ia bh aY jm jh j3 cq j4 fe g9 iW gH j0 dc h9 cb lB gI:PFn}
variable {ax bz eT gK gJ ig ie d7 ib gM:DFn}
variable (tx:Tx K mg t)
variable (i9:FnOk Pr w K mg base CX0 nr t.dM t.dC gh (spP K ic)) (mq:nr<=k)
variable (am:FnOk Pr w K mg base CX0 me t.cN t.cE fP (spP K aj)) (av:me<=k)
variable (aK:FnOk Pr w K mg base CX0 rf t.gB t.gu jy (spP K aD)) (bg:rf<=k)
variable (eO:FnOk Pr w K mg base CX0 oI t.eM t.eE g7 (spP K dt)) (iU:oI<=k)
variable (bL:FnOk Pr w K mg base CX0 tH t.iA t.iy ki (spP K bC)) (db:tH<=k)
variable (bH:FnOk Pr w K mg base CX0 pQ t.fC t.fk iN (spP K bB)) (c9:pQ<=k)
variable (b7:FnOk Pr w K mg base CX0 oG t.eJ t.eB g0 (spP K bN)) (eR:oG<=k)
variable (i7:FnOk Pr w K mg base CX0 pV t.fJ t.fu iR (spP K hE)) (ld:pV<=k)
variable (j9:FnOk Pr w K mg base CX0 pT t.fG t.fo iP (spP K jp)) (oM:pT<=k)
variable (j8:FnOk Pr w K mg base CX0 pR t.fE t.fm iO (spP K jo)) (oK:pR<=k)
variable (js:FnOk Pr w K mg base CX0 oF t.eI t.eA gZ (spP K iX)) (nB:oF<=k)
variable (dQ:FnOk Pr w K mg base CX0 ni t.dH t.du f9 (spP K cA)) (hV:ni<=k)
variable (i5:FnOk Pr w K mg base CX0 nn t.dJ t.dA gd (spP K ia)) (mm:nn<=k)
variable (bu:FnOk Pr w K mg base CX0 qX t.gw t.gl jt (spP K bh)) (b8:qX<=k)
variable (a7:FnOk Pr w K mg base CX0 oH t.eL t.eD g6 (spP K aY)) (bE:oH<=k)
variable (j7:FnOk Pr w K mg base CX0 pO t.fA t.fg iL (spP K jm)) (oJ:pO<=k)
variable (aB:FnOk Pr w K mg base CX0 ko t.bX t.bV dq (spM K (cl t) ax)) (bc:ko<=k)
variable (kO:FnOk Pr w K mg base CX0 xQ t.kK t.kG mU (spP K jh)) (n5:xQ<=k)
variable (kZ:FnOk Pr w K mg base CX0 qZ t.gy t.gn jv (spP K j3)) (pX:qZ<=k)
variable (cS:FnOk Pr w K mg base CX0 l9 t.cK t.cB fM (spP K cq)) (gG:l9<=k)
variable (k3:FnOk Pr w K mg base CX0 re t.gA t.gq jx (spP K j4)) (pY:re<=k)
variable (gD:FnOk Pr w K mg base CX0 rc t.gz t.gp jw (spP K fe)) (jW:rc<=k)
variable (i6:FnOk Pr w K mg base CX0 pU t.fI t.fq iQ (spP K g9)) (lc:pU<=k)
variable (jr:FnOk Pr w K mg base CX0 oC t.eG t.el gY (spP K iW)) (nA:oC<=k)
variable (bF:FnOk Pr w K mg base CX0 nv t.dO t.dE gj (spM K (cl t) bz)) (cc:nv<=k)
variable (fU:FnOk Pr w K mg base CX0 mf t.cO t.cG fQ (spM K (cl t) eT)) (jg:mf<=k)
variable (im:FnOk Pr w K mg base CX0 mi t.cQ t.cI fS (spM K (cl t) gK)) (ly:mi<=k)
variable (il:FnOk Pr w K mg base CX0 mh t.cP t.cH fR (spM K (cl t) gJ)) (lx:mh<=k)
variable (jb:FnOk Pr w K mg base CX0 ny t.dP t.dF gk (spM K (cl t) ig)) (mw:ny<=k)
variable (ja:FnOk Pr w K mg base CX0 nt t.dN t.dD gi (spM K (cl t) ie)) (mt:nt<=k)
variable (ij:FnOk Pr w K mg base CX0 ma t.cL t.cC fN (spP K gH)) (lv:ma<=k)
variable (kY:FnOk Pr w K mg base CX0 qY t.gx t.gm ju (spP K j0)) (pW:qY<=k)
variable (d9:FnOk Pr w K mg base CX0 pP t.fB t.fj iM (spP K dc)) (fW:pP<=k)
variable (i4:FnOk Pr w K mg base CX0 nl t.dI t.dz gb (spP K h9)) (ml:nl<=k)
variable (eQ:FnOk Pr w K mg base CX0 jN t.bK t.bJ cX (spM K (cl t) d7)) (jz:jN+1<=k)
variable (i8:FnOk Pr w K mg base CX0 nq t.dL t.dB gf (spM K (cl t) ib)) (mn:nq<=k)
variable (cr:FnOk Pr w K mg base CX0 kn t.bW t.bU dm (spP K cb)) (eP:kn<=k)
variable (nQ:FnOk Pr w K mg base CX0 xP t.kJ t.kF mT (spP K lB)) (qF:xP<=k)
variable (io:FnOk Pr w K mg base CX0 mj t.cR t.cJ fT (spM K (cl t) gM)) (lz:mj<=k)
variable (ik:FnOk Pr w K mg base CX0 md t.cM t.cD fO (spP K gI)) (lw:md<=k)
noncomputable abbrev uf:List Str:=["_law_script", "_law_k"]
theorem ro:aL uf gh (ah mL):=bY
noncomputable def iV  : En->Option Out :=
 (bt (sIf (bT (l2 pEq (eV 0) (oE (λ η=>(aN η).bind gL)))) (dk (l2 kj (eC (.int 7)) (eV 1))) sNx)
  (dk (l2 az (l2 pIx (eV 0) (l2 lq (eV 1) (lA kR (aC (eV 0) aN)))) (l2 kj (eC (.int 6553)) (l2 mX (eV 1) (lA kR (aC (eV 0) aN)))))))
include tx in
theorem rF:FnOk Pr w K mg base CX0 (k+1) t.dM t.dC gh (spP K (bv 2 2 (iV))) :=
 fnP tx.bR ro λ _ _ _ _ _ _ _ hr =>
  (@aw _ _ _ _ _ _ (@nM _ _ _ _ _ _ _ _ _ (qI hr (al 0) (cw (f6 ag))) (@aW _ _ _ _ (dW (E.mul au (al 1)))) kL)
  (@aW _ _ _ _ (dW (bq (cu (al 0) (E.mod (al 1) (E.len tx.z_len (ac (al 0) ag)))) (E.mul au (E.fdiv (al 1) (E.len tx.z_len (ac (al 0) ag))))))))
noncomputable abbrev rY:List Str:=["_law_script", "_law_k", "_law_many", "_law_cell_here"]
theorem jf:aL rY fP (ah lY):=bY
noncomputable def h8 (ic:PFn):En->Option Out :=
 (bt (cj 3 (l2 lq (l2 az (l2 kj (l2 lq (lA ic (aC (eV 0) (aC (eV 1) aN))) (eC (.int 2147483563))) (eC (.int 69069))) (l2 kj (eC (.int 104723)) (l2 az (eV 1) (eC (.int 1))))) (eC (.int 2147483563))))
  (bt (cj 3 (l2 lq (l2 az (l2 kj (eV 3) (eV 3)) (l2 mX (eV 3) (eC (.int 3)))) (eC (.int 2147483399))))
  (dk (l2 lq (l2 mX (l2 lq (l2 az (l2 kj (eV 3) (eV 3)) (l2 mX (eV 3) (eC (.int 7)))) (eC (.int 2147483647))) (eC (.int 11))) (eV 2)))))
include tx i9 mq in
theorem qt:FnOk Pr w K mg base CX0 (k+1) t.cN t.cE fP (spP K (bv 3 4 (h8 ic))) :=
 fnP tx.af jf λ _ _ _ _ _ _ _ hr =>
  (@aw _ _ _ _ _ _ (cy 3 jf.nd (E.mod (bq (E.mul (E.mod (aq i9 hr mq tx.tz tx.bR.kp tx.t8 (ac (al 0) (ac (al 1) ag))) au) au) (E.mul au (bq (al 1) au))) au))
  (@aw _ _ _ _ _ _ (cy 3 jf.nd (E.mod (bq (E.mul (al 3) (al 3)) (E.fdiv (al 3) au)) au))
  (@aW _ _ _ _ (dW (E.mod (E.fdiv (E.mod (bq (E.mul (al 3) (al 3)) (E.fdiv (al 3) au)) au) au) (al 2))))))
noncomputable abbrev ii:List Str:=["_law_script", "_law_at", "_law_found", "_law_turn", "_law_k", "_law_here", "_law_around", "_law_places", "_law_sizes", "_law_marks", "_law_j", "_law_sign", "_law_name"]
theorem a0:aL ii fN (ah fL):=bY
noncomputable def hZ (aj:PFn):En->Option Out :=
 (bt (cj 2 (lA (λ ds=>if ds.length<=Li then some (.tuple ds) else none) aN))
  (bt (cj 3 (lA aj (aC (eV 0) (aC (l2 az (eV 1) (eC (.int 1))) (aC (eC (.int 8)) aN)))))
  (bt (jF (λ η=>((aC (lA aj (aC (eV 0) (aC (eV 1) (aC (eC (.int 8)) aN)))) aN) η).bind rng1) (tgN 4)
  (bt (cj 5 (l2 az (l2 az (eV 1) (eC (.int 3))) (l2 kj (eC (.int 9)) (eV 4))))
  (bt (cj 6 (l2 pIx (l2 az (oE (λ η=>((aC (eC (.str "")) aN) η).bind gL)) (oE (bf [none] (lI lj (eV 2)) (tgN 0) ci (l2 pIx (eV 0) (eC (.int 0)))))) (lA aj (aC (eV 0) (aC (eV 5) (aC (l2 az (eV 4) (eC (.int 1))) aN))))))
  (bt (iG 7 (bf [none,some 0,some 5] (λ η=>((aC (eC (.int 2)) aN) η).bind rng1) (tgN 0) ci (l2 kQ (lA aj (aC (eV 1) (aC (l2 az (l2 az (eV 2) (eC (.int 1))) (eV 0)) (aC (eC (.int 9)) aN)))) (eC (.int 3)))))
  (λ η=>(bt (iG 8 (bf [none,some 0,some 5] (λ η=>((aC (eC (.int 2)) aN) η).bind rng1) (tgN 0) ci (lA aj (aC (eV 1) (aC (l2 az (l2 az (eV 2) (eC (.int 3))) (eV 0)) (aC (eC (.int 9)) aN))))))
  (λ η=>(bt (cj 9 (eC (.str "")))
  (bt (jF (λ η=>((aC (eC (.str "cfhl")) aN) η).bind enS) (tgT (bo (tgN 10) (bo (tgN 11) gO)))
  (sIf (bT (l2 pEq (lA aj (aC (eV 0) (aC (l2 az (l2 az (eV 5) (eC (.int 5))) (eV 10)) (aC (l2 pIx (oE (λ η=>((aC (eC (.int 4)) (aC (eC (.int 2)) (aC (eC (.int 9)) (aC (eC (.int 6)) aN)))) η).bind gL)) (eV 10)) aN)))) (eC (.int 0)))) (cj 9 (l2 az (eV 9) (eV 11))) sNx))
  (bt (cj 12 (l2 pIx (eC (.str "dbgahcfe")) (l2 lq (l2 az (eV 4) (eV 3)) (eC (.int 8)))))
  (cj 2 (l2 az (eV 2) (lA (λ ds=>if ds.length<=Li then some (.tuple ds) else none) (aC (l2 az (l2 az (lA (λ ds=>if ds.length<=Li then some (.tuple ds) else none) (aC (eV 12) (aC (eV 6) aN))) (lA uo (aC (l2 az (eV 7) (eV 8)) aN))) (lA (λ ds=>if ds.length<=Li then some (.tuple ds) else none) (aC (eV 9) aN))) aN))))))) (frz 8 η))) (frz 7 η))))))
  (dk (eV 2)))))
include tx am av in
theorem qp:FnOk Pr w K mg base CX0 (k+1) t.cL t.cC fN (spP K (bv 2 13 (hZ aj))) :=
 fnP tx.ce a0 λ _ _ _ _ _ _ _ hr =>
  (@aw _ _ _ _ _ _ (cy 2 a0.nd (jC ag))
  (@aw _ _ _ _ _ _ (cy 3 a0.nd (aq am hr av tx.aH tx.af.kp tx.aI (ac (al 0) (ac (bq (al 1) au) (ac au ag)))))
  (@aw _ _ _ _ _ _ (@lH _ _ _ _ _ _ _ _ _ _ _ L3 rfl (I.rng1 tx.z_range (ac (aq am hr av tx.aH tx.af.kp tx.aI (ac (al 0) (ac (al 1) (ac au ag)))) ag)) (aU (i:=4) a0.nd rfl (by first | exact Or.inl rfl | exact Or.inr rfl) ) (aF (i:=4))
  (@aw _ _ _ _ _ _ (cy 5 a0.nd (bq (bq (al 1) au) (E.mul au (al 4))))
  (@aw _ _ _ _ _ _ (cy 6 a0.nd (cu (bq (cw (f6 (ac eZ ag))) (cw (fK (N':=["_law_box"]) (mp:=[none]) rfl (a9 ii (ah fL) rfl rfl (by decide +kernel)) (aF (i:=0)) (by decide) (I.tup (al 2)) (λ _ _ _=>⟨(aU (i:=0) (show (["_law_box"]:List Str).Nodup by decide +kernel) rfl (Or.inl rfl) (.inr rfl)),Ts.nil,(cu (al 0) au)⟩)))) (aq am hr av tx.aH tx.af.kp tx.aI (ac (al 0) (ac (al 5) (ac (bq (al 4) au) ag))))))
  (@aw _ _ _ _ _ _ (S.setC 7 (N':=["_law_j", "_law_script", "_law_here"]) (mp:=[none,some 0,some 5]) rfl a0.nd (a9 ii (ah fL) rfl rfl (by decide +kernel)) (aF (i:=0)) (by decide) (I.rng1 tx.z_range (ac au ag)) (λ _ _ _=>⟨(aU (i:=0) (show (["_law_j", "_law_script", "_law_here"]:List Str).Nodup by decide +kernel) rfl (Or.inl rfl) (.inr rfl)),Ts.nil,(E.sub (aq am hr av tx.aH tx.af.kp tx.aI (ac (al 1) (ac (bq (bq (al 2) au) (al 0)) (ac au ag)))) au)⟩))
  (@Ss.frz _ _ _ _ 7 (@aw _ _ _ _ _ _ (S.setC 8 (N':=["_law_j", "_law_script", "_law_here"]) (mp:=[none,some 0,some 5]) rfl a0.nd (a9 ii (ah fL) rfl rfl (by decide +kernel)) (aF (i:=0)) (by decide) (I.rng1 tx.z_range (ac au ag)) (λ _ _ _=>⟨(aU (i:=0) (show (["_law_j", "_law_script", "_law_here"]:List Str).Nodup by decide +kernel) rfl (Or.inl rfl) (.inr rfl)),Ts.nil,(aq am hr av tx.aH tx.af.kp tx.aI (ac (al 1) (ac (bq (bq (al 2) au) (al 0)) (ac au ag))))⟩))
  (@Ss.frz _ _ _ _ 8 (@aw _ _ _ _ _ _ (cy 9 a0.nd eZ)
  (@aw _ _ _ _ _ _ (@lH _ _ _ _ _ _ _ _ _ _ _ L3 rfl (I.enum rfl tx.z_enumerate (ac eZ ag)) (sR (n:=2) rfl (gX (aU (i:=10) a0.nd rfl (by first | exact Or.inl rfl | exact Or.inr rfl) ) (gX (aU (i:=11) a0.nd rfl (by first | exact Or.inl rfl | exact Or.inr rfl) ) pC))) (TgP.tup (n:=2) (TgsP.cons (aF (i:=10)) (TgsP.cons (aF (i:=11)) TgsP.nil)) (o7))
  (@aW _ _ _ _ (@nM _ _ _ _ _ _ _ _ _ (qI hr (aq am hr av tx.aH tx.af.kp tx.aI (ac (al 0) (ac (bq (bq (al 5) au) (al 10)) (ac (cu (cw (f6 (ac au (ac au (ac au (ac au ag)))))) (al 10)) ag)))) au) (@aW _ _ _ _ (cy 9 a0.nd (bq (al 9) (al 11)))) kL)) (λ _=>rfl))
  (@aw _ _ _ _ _ _ (cy 12 a0.nd (cu eZ (E.mod (bq (al 4) (al 3)) au)))
  (@aW _ _ _ _ (cy 2 a0.nd (bq (al 2) (jC (ac (bq (bq (jC (ac (al 12) (ac (al 6) ag))) (E.tuple tx.z_tuple (ac (bq (al 7) (al 8)) ag))) (jC (ac (al 9) ag))) ag)))))))))))))) (λ _=>rfl))
  (@aW _ _ _ _ (dW (al 2))))))
noncomputable abbrev oR:List Str:=["scene", "name"]
theorem sH:aL oR g7 (ah k7):=bY
noncomputable def jl  : En->Option Out :=
 (dk (oE (bf [none,some 1] (lI lj (eV 0)) (tgN 0) (bT (l2 pEq (l2 pIx (eV 0) (eC (.int 1))) (eV 1))) (l2 pIx (eV 0) (eC (.int 0))))))
include tx in
theorem tf:FnOk Pr w K mg base CX0 (k+1) t.eM t.eE g7 (spP K (bv 2 2 (jl))) :=
 fnP tx.bn sH λ _ _ _ _ _ _ _ hr =>
  (@aW _ _ _ _ (dW (cw (fK (N':=["box", "name"]) (mp:=[none,some 1]) rfl (a9 oR (ah k7) rfl rfl (by decide +kernel)) (aF (i:=0)) (by decide) (I.tup (al 0)) (λ _ _ _=>⟨(aU (i:=0) (show (["box", "name"]:List Str).Nodup by decide +kernel) rfl (Or.inl rfl) (.inr rfl)),(Ts.one (qI hr (cu (al 0) (bI tx.c_AROUND)) (al 1))),(cu (al 0) (bI tx.c_NAME))⟩)))))
noncomputable abbrev yz:List Str:=["scene", "name", "box"]
theorem pj:aL yz jy (ah qP):=bY
noncomputable def kX  : En->Option Out :=
 (bt (jF (lI lj (eV 0)) (tgN 2)
  (sIf (bT (l2 pEq (l2 pIx (eV 2) (eC (.int 0))) (eV 1))) (dk (eV 2)) sNx))
  (λ _=>none))
include tx in
theorem vZ:FnOk Pr w K mg base CX0 (k+1) t.gB t.gu jy (spP K (bv 2 3 (kX))) :=
 fnP tx.ak pj λ _ _ _ _ _ _ _ hr =>
  (@aw _ _ _ _ _ _ (@lH _ _ _ _ _ _ _ _ _ _ _ L3 rfl (I.tup (al 0)) (aU (i:=2) pj.nd rfl (by first | exact Or.inl rfl | exact Or.inr rfl) ) (aF (i:=2))
  (@aW _ _ _ _ (@nM _ _ _ _ _ _ _ _ _ (qI hr (cu (al 2) (bI tx.c_NAME)) (al 1)) (@aW _ _ _ _ (dW (al 2))) kL)) (λ _=>rfl))
  (@aW _ _ _ _ S.never))
noncomputable abbrev zz:List Str:=["scene", "name", "names", "child"]
theorem mG:aL zz ki (ah sK):=bY
noncomputable def lU (aD:PFn) (dt:PFn) (bC:PFn):En->Option Out :=
 (bt (iG 2 (λ η=>((aC (l2 pIx (lA aD (aC (eV 0) (aC (eV 1) aN))) (eC (.int 0))) aN) η).bind gL))
  (bt (jF (lI asL (lA dt (aC (eV 0) (aC (eV 1) aN)))) (tgN 3)
  (oW 2 (lI asL (lA bC (aC (eV 0) (aC (eV 3) aN))))))
  (wX 2)))
include tx aK bg eO iU bL db in
theorem xo:FnOk Pr w K mg base CX0 (k+1) t.iA t.iy ki (spP K (bv 2 4 (lU aD dt bC))) :=
 fnP tx.aO mG λ _ _ _ _ _ _ _ hr =>
  (@aw _ _ _ _ _ _ (S.setO 2 mG.nd (f6 (ac (cu (aq aK hr bg tx.d4 tx.ak.kp tx.d8 (ac (al 0) (ac (al 1) ag))) (bI tx.c_NAME)) ag)))
  (@aw _ _ _ _ _ _ (@lH _ _ _ _ _ _ _ _ _ _ _ L3 rfl (I.list (aq eO hr iU tx.oB tx.bn.kp tx.oP (ac (al 0) (ac (al 1) ag)))) (aU (i:=3) mG.nd rfl (by first | exact Or.inl rfl | exact Or.inr rfl) ) (aF (i:=3))
  (@aW _ _ _ _ (S.ext 2 (aq bL hr db tx.kl tx.aO.kp tx.kI (ac (al 0) (ac (al 3) ag))))) (λ _=>rfl))
  (@aW _ _ _ _ (S.retO 2))))
noncomputable abbrev wL:List Str:=["scene", "names", "name"]
theorem k4:aL wL iO (ah pv):=bY
noncomputable def jY (dt:PFn) (bC:PFn):En->Option Out :=
 (bt (iG 1 (λ η=>(aN η).bind gL))
  (bt (jF (lI asL (lA dt (aC (eV 0) (aC (eC (.str "")) aN)))) (tgN 2)
  (oW 1 (lI asL (lA bC (aC (eV 0) (aC (eV 2) aN))))))
  (wX 1)))
include tx eO iU bL db in
theorem uv:FnOk Pr w K mg base CX0 (k+1) t.fE t.fm iO (spP K (bv 1 3 (jY dt bC))) :=
 fnP tx.cv k4 λ _ _ _ _ _ _ _ hr =>
  (@aw _ _ _ _ _ _ (S.setO 1 k4.nd (f6 ag))
  (@aw _ _ _ _ _ _ (@lH _ _ _ _ _ _ _ _ _ _ _ L3 rfl (I.list (aq eO hr iU tx.oB tx.bn.kp tx.oP (ac (al 0) (ac eZ ag)))) (aU (i:=2) k4.nd rfl (by first | exact Or.inl rfl | exact Or.inr rfl) ) (aF (i:=2))
  (@aW _ _ _ _ (S.ext 1 (aq bL hr db tx.kl tx.aO.kp tx.kI (ac (al 0) (ac (al 2) ag))))) (λ _=>rfl))
  (@aW _ _ _ _ (S.retO 1))))
noncomputable abbrev wK:List Str:=["scene", "name", "around"]
theorem ou:aL wK iN (ah pq):=bY
noncomputable def jX (aD:PFn) (bB:PFn):En->Option Out :=
 (bt (cj 2 (l2 pIx (lA aD (aC (eV 0) (aC (eV 1) aN))) (eC (.int 1))))
  (bt (sIf (bT (l2 pEq (eV 2) (eC (.str "")))) (dk (oE (λ η=>((aC (eV 1) aN) η).bind gL))) sNx)
  (dk (l2 az (lA bB (aC (eV 0) (aC (eV 2) aN))) (oE (λ η=>((aC (eV 1) aN) η).bind gL))))))
include tx aK bg bH c9 in
theorem uu:FnOk Pr w K mg base CX0 (k+1) t.fC t.fk iN (spP K (bv 2 3 (jX aD bB))) :=
 fnP tx.aM ou λ _ _ _ _ _ _ _ hr =>
  (@aw _ _ _ _ _ _ (cy 2 ou.nd (cu (aq aK hr bg tx.d4 tx.ak.kp tx.d8 (ac (al 0) (ac (al 1) ag))) (bI tx.c_AROUND)))
  (@aw _ _ _ _ _ _ (@nM _ _ _ _ _ _ _ _ _ (qI hr (al 2) eZ) (@aW _ _ _ _ (dW (cw (f6 (ac (al 1) ag))))) kL)
  (@aW _ _ _ _ (dW (bq (aq bH hr c9 tx.jT tx.aM.kp tx.j5 (ac (al 0) (ac (al 2) ag))) (cw (f6 (ac (al 1) ag))))))))
noncomputable abbrev uG:List Str:=["scene", "name", "mark"]
theorem sG:aL uG g0 (ah oy):=bY
noncomputable def lh (aD:PFn):En->Option Out :=
 (dk (l2 (pIn false) (eV 2) (l2 pIx (lA aD (aC (eV 0) (aC (eV 1) aN))) (eC (.int 6)))))
include tx aK bg in
theorem sY:FnOk Pr w K mg base CX0 (k+1) t.eJ t.eB g0 (spP K (bv 3 3 (lh aD))) :=
 fnP tx.a5 sG λ _ _ _ _ _ _ _ hr =>
  (@aW _ _ _ _ (dW (E.in (al 2) (cu (aq aK hr bg tx.d4 tx.ak.kp tx.d8 (ac (al 0) (ac (al 1) ag))) (bI tx.c_MARKS)))))
noncomputable abbrev oQ:List Str:=["scene", "name"]
theorem sF:aL oQ gZ (ah k6):=bY
noncomputable def lg (bB:PFn) (bN:PFn):En->Option Out :=
 (dk (D6 (lA Cz (aC (oE (bf [none,some 0] (lI asL (lA bB (aC (eV 0) (aC (eV 1) aN)))) (tgN 0) ci (lA bN (aC (eV 1) (aC (eV 0) (aC (eC (.str "h")) aN)))))) aN))))
include tx bH c9 b7 eR in
theorem sX:FnOk Pr w K mg base CX0 (k+1) t.eI t.eA gZ (spP K (bv 2 2 (lg bB bN))) :=
 fnP tx.dh sF λ _ _ _ _ _ _ _ hr =>
  (@aW _ _ _ _ (dW (E.not (E.any rfl tx.z_any (ac (cw (fK (N':=["step", "scene"]) (mp:=[none,some 0]) rfl (a9 oQ (ah k6) rfl rfl (by decide +kernel)) (aF (i:=0)) (by decide) (I.list (aq bH hr c9 tx.jT tx.aM.kp tx.j5 (ac (al 0) (ac (al 1) ag)))) (λ _ _ _=>⟨(aU (i:=0) (show (["step", "scene"]:List Str).Nodup by decide +kernel) rfl (Or.inl rfl) (.inr rfl)),Ts.nil,(aq b7 hr eR tx.k9 tx.a5.kp tx.li (ac (al 1) (ac (al 0) (ac (E.globS tx.c_HIDDEN) ag))))⟩))) ag)))))
noncomputable abbrev j6:List Str:=["scene", "name", "path", "left", "top", "last"]
theorem gW:aL j6 iR (ah iE):=bY
noncomputable def jZ (bB:PFn) (aD:PFn):En->Option Out :=
 (bt (iG 2 (bf [none,some 0] (lI asL (lA bB (aC (eV 0) (aC (eV 1) aN)))) (tgN 0) ci (lA aD (aC (eV 1) (aC (eV 0) aN)))))
  (λ η=>(bt (cj 3 (lA qm (aC (oE (bf [none] (lI asL (eV 2)) (tgN 0) ci (l2 pIx (eV 0) (eC (.int 2))))) aN)))
  (bt (cj 4 (lA qm (aC (oE (bf [none] (lI asL (eV 2)) (tgN 0) ci (l2 pIx (eV 0) (eC (.int 3))))) aN)))
  (bt (cj 5 (lA aD (aC (eV 0) (aC (eV 1) aN))))
  (dk (lA (λ ds=>if ds.length<=Li then some (.tuple ds) else none) (aC (eV 3) (aC (eV 4) (aC (l2 az (eV 3) (l2 pIx (eV 5) (eC (.int 4)))) (aC (l2 az (eV 4) (l2 pIx (eV 5) (eC (.int 5)))) aN))))))))) (frz 2 η)))
include tx aK bg bH c9 in
theorem uy:FnOk Pr w K mg base CX0 (k+1) t.fJ t.fu iR (spP K (bv 2 6 (jZ bB aD))) :=
 fnP tx.bS gW λ _ _ _ _ _ _ _ hr =>
  (@aw _ _ _ _ _ _ (S.setC 2 (N':=["step", "scene"]) (mp:=[none,some 0]) rfl gW.nd (a9 j6 (ah iE) rfl rfl (by decide +kernel)) (aF (i:=0)) (by decide) (I.list (aq bH hr c9 tx.jT tx.aM.kp tx.j5 (ac (al 0) (ac (al 1) ag)))) (λ _ _ _=>⟨(aU (i:=0) (show (["step", "scene"]:List Str).Nodup by decide +kernel) rfl (Or.inl rfl) (.inr rfl)),Ts.nil,(aq aK hr bg tx.d4 tx.ak.kp tx.d8 (ac (al 1) (ac (al 0) ag)))⟩))
  (@Ss.frz _ _ _ _ 2 (@aw _ _ _ _ _ _ (cy 3 gW.nd (E.sum rfl tx.z_sum (ac (cw (fK (N':=["box"]) (mp:=[none]) rfl (a9 j6 (ah iE) rfl rfl (by decide +kernel)) (aF (i:=0)) (by decide) (I.list (al 2)) (λ _ _ _=>⟨(aU (i:=0) (show (["box"]:List Str).Nodup by decide +kernel) rfl (Or.inl rfl) (.inr rfl)),Ts.nil,(cu (al 0) (bI tx.c_LEFT))⟩))) ag)))
  (@aw _ _ _ _ _ _ (cy 4 gW.nd (E.sum rfl tx.z_sum (ac (cw (fK (N':=["box"]) (mp:=[none]) rfl (a9 j6 (ah iE) rfl rfl (by decide +kernel)) (aF (i:=0)) (by decide) (I.list (al 2)) (λ _ _ _=>⟨(aU (i:=0) (show (["box"]:List Str).Nodup by decide +kernel) rfl (Or.inl rfl) (.inr rfl)),Ts.nil,(cu (al 0) (bI tx.c_TOP))⟩))) ag)))
  (@aw _ _ _ _ _ _ (cy 5 gW.nd (aq aK hr bg tx.d4 tx.ak.kp tx.d8 (ac (al 0) (ac (al 1) ag))))
  (@aW _ _ _ _ (dW (jC (ac (al 3) (ac (al 4) (ac (bq (al 3) (cu (al 5) (bI tx.c_WIDTH))) (ac (bq (al 4) (cu (al 5) (bI tx.c_HEIGHT))) ag))))))))))))
noncomputable abbrev wM:List Str:=["one", "other", "left", "top"]
theorem k5:aL wM iP (ah pz):=bY
noncomputable def lS  : En->Option Out :=
 (bt (cj 2 (lA EJ (aC (l2 pIx (eV 0) (eC (.int 0))) (aC (l2 pIx (eV 1) (eC (.int 0))) aN))))
  (bt (cj 3 (lA EJ (aC (l2 pIx (eV 0) (eC (.int 1))) (aC (l2 pIx (eV 1) (eC (.int 1))) aN))))
  (dk (lA (λ ds=>if ds.length<=Li then some (.tuple ds) else none) (aC (eV 2) (aC (eV 3) (aC (lA EI (aC (l2 pIx (eV 0) (eC (.int 2))) (aC (l2 pIx (eV 1) (eC (.int 2))) aN))) (aC (lA EI (aC (l2 pIx (eV 0) (eC (.int 3))) (aC (l2 pIx (eV 1) (eC (.int 3))) aN))) aN))))))))
include tx in
theorem uw:FnOk Pr w K mg base CX0 (k+1) t.fG t.fo iP (spP K (bv 2 4 (lS))) :=
 fnP tx.c6 k5 λ _ _ _ _ _ _ _ hr =>
  (@aw _ _ _ _ _ _ (cy 2 k5.nd (E.max rfl tx.z_max (ac (cu (al 0) au) (ac (cu (al 1) au) ag))))
  (@aw _ _ _ _ _ _ (cy 3 k5.nd (E.max rfl tx.z_max (ac (cu (al 0) au) (ac (cu (al 1) au) ag))))
  (@aW _ _ _ _ (dW (jC (ac (al 2) (ac (al 3) (ac (E.min rfl tx.z_min (ac (cu (al 0) au) (ac (cu (al 1) au) ag))) (ac (E.min rfl tx.z_min (ac (cu (al 0) au) (ac (cu (al 1) au) ag))) ag)))))))))
noncomputable abbrev ud:List Str:=["scene", "name", "window", "step"]
theorem hJ:aL ud f9 (ah mI):=bY
noncomputable def kr (hE:PFn) (bB:PFn) (bN:PFn) (jp:PFn):En->Option Out :=
 (bt (cj 2 (lA hE (aC (eV 0) (aC (eV 1) aN))))
  (bt (jF (lI asL (lA bB (aC (eV 0) (aC (eV 1) aN)))) (tgN 3)
  (sIf (bT (lA bN (aC (eV 0) (aC (eV 3) (aC (eC (.str "c")) aN))))) (cj 2 (lA jp (aC (eV 2) (aC (lA hE (aC (eV 0) (aC (eV 3) aN))) aN)))) sNx))
  (dk (eV 2))))
include tx bH c9 b7 eR i7 ld j9 oM in
theorem rB:FnOk Pr w K mg base CX0 (k+1) t.dH t.du f9 (spP K (bv 2 4 (kr hE bB bN jp))) :=
 fnP tx.bG hJ λ _ _ _ _ _ _ _ hr =>
  (@aw _ _ _ _ _ _ (cy 2 hJ.nd (aq i7 hr ld tx.pH tx.bS.kp tx.p9 (ac (al 0) (ac (al 1) ag))))
  (@aw _ _ _ _ _ _ (@lH _ _ _ _ _ _ _ _ _ _ _ L3 rfl (I.list (aq bH hr c9 tx.jT tx.aM.kp tx.j5 (ac (al 0) (ac (al 1) ag)))) (aU (i:=3) hJ.nd rfl (by first | exact Or.inl rfl | exact Or.inr rfl) ) (aF (i:=3))
  (@aW _ _ _ _ (@nM _ _ _ _ _ _ _ _ _ (T.val (aq b7 hr eR tx.k9 tx.a5.kp tx.li (ac (al 0) (ac (al 3) (ac (E.globS tx.c_CUTS_OFF) ag))))) (@aW _ _ _ _ (cy 2 hJ.nd (aq j9 hr oM tx.wa tx.c6.kp tx.wD (ac (al 2) (ac (aq i7 hr ld tx.pH tx.bS.kp tx.p9 (ac (al 0) (ac (al 3) ag))) ag))))) kL)) (λ _=>rfl))
  (@aW _ _ _ _ (dW (al 2)))))
noncomputable abbrev nN:List Str:=["scene", "names"]
theorem o9:aL nN jt (ah kS):=bY
noncomputable def nE (jo:PFn) (iX:PFn) (bN:PFn) (cA:PFn):En->Option Out :=
 (bt (iG 1 (bf [none,some 0] (λ η=>((aC (lA jo (aC (eV 0) aN)) aN) η).bind rvS) (tgN 0) (bT (lA iX (aC (eV 1) (aC (eV 0) aN)))) (eV 0)))
  (λ η=>(dk (oE (bf [none,some 0] (lI asL (eV 1)) (tgN 0) (wF (bT (lA bN (aC (eV 1) (aC (eV 0) (aC (eC (.str "l")) aN)))))) (lA (λ ds=>if ds.length<=Li then some (.tuple ds) else none) (aC (eV 0) (aC (lA cA (aC (eV 1) (aC (eV 0) aN))) aN)))))) (frz 1 η)))
include tx b7 eR j8 oK js nB dQ hV in
theorem vU:FnOk Pr w K mg base CX0 (k+1) t.gw t.gl jt (spP K (bv 1 2 (nE jo iX bN cA))) :=
 fnP tx.ba o9 λ _ _ _ _ _ _ _ hr =>
  (@aw _ _ _ _ _ _ (S.setC 1 (N':=["name", "scene"]) (mp:=[none,some 0]) rfl o9.nd (a9 nN (ah kS) rfl rfl (by decide +kernel)) (aF (i:=0)) (by decide) (I.rev rfl tx.z_reversed (ac (aq j8 hr oK tx.v9 tx.cv.kp tx.wC (ac (al 0) ag)) ag)) (λ _ _ _=>⟨(aU (i:=0) (show (["name", "scene"]:List Str).Nodup by decide +kernel) rfl (Or.inl rfl) (.inr rfl)),(Ts.one (T.val (aq js hr nB tx.uB tx.dh.kp tx.uE (ac (al 1) (ac (al 0) ag))))),(al 0)⟩))
  (@Ss.frz _ _ _ _ 1 (@aW _ _ _ _ (dW (cw (fK (N':=["name", "scene"]) (mp:=[none,some 0]) rfl (a9 nN (ah kS) rfl rfl (by decide +kernel)) (aF (i:=0)) (by decide) (I.list (al 1)) (λ _ _ _=>⟨(aU (i:=0) (show (["name", "scene"]:List Str).Nodup by decide +kernel) rfl (Or.inl rfl) (.inr rfl)),(Ts.one (T.not (T.val (aq b7 hr eR tx.k9 tx.a5.kp tx.li (ac (al 1) (ac (al 0) (ac (E.globS tx.c_LETS_BY) ag))))))),(jC (ac (al 0) (ac (aq dQ hr hV tx.m6 tx.bG.kp tx.nL (ac (al 1) (ac (al 0) ag))) ag)))⟩)))))))
noncomputable abbrev ue:List Str:=["area", "x", "y"]
theorem rm:aL ue gd (ah mK):=bY
noncomputable def ky  : En->Option Out :=
 (dk (D8 (lch pLe pLt (l2 pIx (eV 0) (eC (.int 0))) (eV 1) (l2 pIx (eV 0) (eC (.int 2)))) (lch pLe pLt (l2 pIx (eV 0) (eC (.int 1))) (eV 2) (l2 pIx (eV 0) (eC (.int 3))))))
include tx in
theorem rD:FnOk Pr w K mg base CX0 (k+1) t.dJ t.dA gd (spP K (bv 3 3 (ky))) :=
 fnP tx.bp rm λ _ _ _ _ _ _ _ hr =>
  (@aW _ _ _ _ (dW (E.and (E.chain CB (qb λ _ _ _=>ef) Af (qb λ _ _ _=>ef) (cu (al 0) au) (al 1) (cu (al 0) au)) (E.one (E.chain CB (qb λ _ _ _=>ef) Af (qb λ _ _ _=>ef) (cu (al 0) au) (al 2) (cu (al 0) au))))))
noncomputable abbrev uH:List Str:=["rows", "x", "y", "name", "window"]
theorem ke:aL uH g6 (ah oz):=bY
noncomputable def g8 (ia:PFn):En->Option Out :=
 (bt (jF (lI asL (eV 0)) (tgT (bo (tgN 3) (bo (tgN 4) gO)))
  (sIf (bT (lA ia (aC (eV 4) (aC (eV 1) (aC (eV 2) aN))))) (dk (eV 3)) sNx))
  (dk (eC .none)))
include tx i5 mm in
theorem sZ:FnOk Pr w K mg base CX0 (k+1) t.eL t.eD g6 (spP K (bv 3 5 (g8 ia))) :=
 fnP tx.ao ke λ _ _ _ _ _ _ _ hr =>
  (@aw _ _ _ _ _ _ (@lH _ _ _ _ _ _ _ _ _ _ _ L3 rfl (I.list (al 0)) (sR (n:=2) rfl (gX (aU (i:=3) ke.nd rfl (by first | exact Or.inl rfl | exact Or.inr rfl) ) (gX (aU (i:=4) ke.nd rfl (by first | exact Or.inl rfl | exact Or.inr rfl) ) pC))) (TgP.tup (n:=2) (TgsP.cons (aF (i:=3)) (TgsP.cons (aF (i:=4)) TgsP.nil)) (o7))
  (@aW _ _ _ _ (@nM _ _ _ _ _ _ _ _ _ (T.val (aq i5 hr mm tx.tu tx.bp.kp tx.t6 (ac (al 4) (ac (al 1) (ac (al 2) ag))))) (@aW _ _ _ _ (dW (al 3))) kL)) (λ _=>rfl))
  (@aW _ _ _ _ (dW E.non)))
noncomputable abbrev yu:List Str:=["scene", "left", "top", "right", "bottom", "rows", "counts", "x", "y", "name"]
theorem gE:aL yu ju (ah qM):=bY
noncomputable def nF (bh:PFn) (aY:PFn):En->Option Out :=
 (bt (cj 5 (lA bh (aC (eV 0) aN)))
  (bt (FI 6)
  (bt (jF (λ η=>((aC (eV 1) (aC (eV 3) aN)) η).bind rng2) (tgN 7)
  (jF (λ η=>((aC (eV 2) (aC (eV 4) aN)) η).bind rng2) (tgN 8)
  (bt (cj 9 (lA aY (aC (eV 5) (aC (eV 7) (aC (eV 8) aN)))))
  (sIf (bT (l2 (uq true) (eV 9) (eC .none))) (wY 6 (eV 9) (l2 az (qG 6 (eV 9) (eC (.int 0))) (eC (.int 1)))) sNx))))
  (λ η=>(dk (l1 yX (eV 6))) (frz 6 η)))))
include tx bu b8 a7 bE in
theorem vV:FnOk Pr w K mg base CX0 (k+1) t.gx t.gm ju (spP K (bv 5 10 (nF bh aY))) :=
 fnP tx.eY gE λ _ _ _ _ _ _ _ hr =>
  (@aw _ _ _ _ _ _ (cy 5 gE.nd (aq bu hr b8 tx.iC tx.ba.kp tx.iD (ac (al 0) ag)))
  (@aw _ _ _ _ _ _ (S.setD 6 gE.nd)
  (@aw _ _ _ _ _ _ (@lH _ _ _ _ _ _ _ _ _ _ _ L3 rfl (I.rng2 tx.z_range (ac (al 1) (ac (al 3) ag))) (aU (i:=7) gE.nd rfl (by first | exact Or.inl rfl | exact Or.inr rfl) ) (aF (i:=7))
  (@aW _ _ _ _ (@lH _ _ _ _ _ _ _ _ _ _ _ L3 rfl (I.rng2 tx.z_range (ac (al 2) (ac (al 4) ag))) (aU (i:=8) gE.nd rfl (by first | exact Or.inl rfl | exact Or.inr rfl) ) (aF (i:=8))
  (@aw _ _ _ _ _ _ (cy 9 gE.nd (aq a7 hr bE tx.fV tx.ao.kp tx.fX (ac (al 5) (ac (al 7) (ac (al 8) ag)))))
  (@aW _ _ _ _ (@nM _ _ _ _ _ _ _ _ _ (T.notN (al 9) E.non) (@aW _ _ _ _ (S.putD 6 hr (al 9) (bq (E.get2O 6 hr (al 9) au) au))) kL))) (λ _=>rfl))) (λ _=>rfl))
  (@Ss.frz _ _ _ _ 6 (@aW _ _ _ _ (dW (E.sortItems hr tx.z_sorted (al 6))))))))
noncomputable abbrev wJ:List Str:=["name"]
theorem ul:aL wJ iL (ah pk):=bY
noncomputable def pZ  : En->Option Out :=
 (dk (vIf (bT (l2 (uq false) (eV 0) (eC .none))) (eC (.str ".")) (l2 pIx (eV 0) (eC (.int 0)))))
include tx in
theorem ur:FnOk Pr w K mg base CX0 (k+1) t.fA t.fg iL (spP K (bv 1 1 (pZ))) :=
 fnP tx.ee ul λ _ _ _ _ _ _ _ hr =>
  (@aW _ _ _ _ (dW (E.ifE (T.isN (al 0) E.non) (E.globS tx.c_NOTHING) (cu (al 0) au))))
noncomputable abbrev qc:List Str:=["scene", "left", "top", "right", "bottom", "rows", "lines", "y", "signs"]
theorem gU:aL qc iM (ah lK):=bY
noncomputable def lR (bh:PFn) (aY:PFn) (jm:PFn):En->Option Out :=
 (bt (cj 5 (lA bh (aC (eV 0) aN)))
  (bt (iG 6 (λ η=>(aN η).bind gL))
  (bt (jF (λ η=>((aC (eV 2) (aC (eV 4) aN)) η).bind rng2) (tgN 7)
  (bt (iG 8 (bf [none,some 5,some 7] (λ η=>((aC (eV 1) (aC (eV 3) aN)) η).bind rng2) (tgN 0) ci (lA jm (aC (lA aY (aC (eV 1) (aC (eV 0) (aC (eV 2) aN)))) aN))))
  (λ η=>(B4 6 (l2 az (l2 oA (eC (.str "")) (eV 8)) (eC (.str "\n")))) (frz 8 η))))
  (λ η=>(dk (l2 oA (eC (.str "")) (eV 6))) (frz 6 η)))))
include tx bu b8 a7 bE j7 oJ in
theorem ut:FnOk Pr w K mg base CX0 (k+1) t.fB t.fj iM (spP K (bv 5 9 (lR bh aY jm))) :=
 fnP tx.bm gU λ _ _ _ _ _ _ _ hr =>
  (@aw _ _ _ _ _ _ (cy 5 gU.nd (aq bu hr b8 tx.iC tx.ba.kp tx.iD (ac (al 0) ag)))
  (@aw _ _ _ _ _ _ (S.setO 6 gU.nd (f6 ag))
  (@aw _ _ _ _ _ _ (@lH _ _ _ _ _ _ _ _ _ _ _ L3 rfl (I.rng2 tx.z_range (ac (al 2) (ac (al 4) ag))) (aU (i:=7) gU.nd rfl (by first | exact Or.inl rfl | exact Or.inr rfl) ) (aF (i:=7))
  (@aw _ _ _ _ _ _ (S.setC 8 (N':=["x", "rows", "y"]) (mp:=[none,some 5,some 7]) rfl gU.nd (a9 qc (ah lK) rfl rfl (by decide +kernel)) (aF (i:=0)) (by decide) (I.rng2 tx.z_range (ac (al 1) (ac (al 3) ag))) (λ _ _ _=>⟨(aU (i:=0) (show (["x", "rows", "y"]:List Str).Nodup by decide +kernel) rfl (Or.inl rfl) (.inr rfl)),Ts.nil,(aq j7 hr oJ tx.v8 tx.ee.kp tx.wB (ac (aq a7 hr bE tx.fV tx.ao.kp tx.fX (ac (al 1) (ac (al 0) (ac (al 2) ag)))) ag))⟩))
  (@Ss.frz _ _ _ _ 8 (@aW _ _ _ _ (S.app 6 (bq (E.join eZ (al 8)) (E.globS tx.c_ROW_END)))))) (λ _=>rfl))
  (@Ss.frz _ _ _ _ 6 (@aW _ _ _ _ (dW (E.join eZ (al 6))))))))
noncomputable abbrev nO:List Str:=["scene", "name", "window", "rows", "points", "y"]
theorem dX:aL nO gb (ah kg):=bY
noncomputable def ku (cA:PFn) (bh:PFn) (aY:PFn):En->Option Out :=
 (bt (cj 2 (lA cA (aC (eV 0) (aC (eV 1) aN))))
  (bt (cj 3 (lA bh (aC (eV 0) aN)))
  (bt (cj 4 (eC (.int 0)))
  (bt (jF (λ η=>((aC (l2 pIx (eV 2) (eC (.int 1))) (aC (l2 pIx (eV 2) (eC (.int 3))) aN)) η).bind rng2) (tgN 5)
  (yN 4 (lA kR (aC (oE (bf [none,some 1,some 3,some 5] (λ η=>((aC (l2 pIx (eV 2) (eC (.int 0))) (aC (l2 pIx (eV 2) (eC (.int 2))) aN)) η).bind rng2) (tgN 0) (bT (l2 pEq (lA aY (aC (eV 2) (aC (eV 0) (aC (eV 3) aN)))) (eV 1))) (eV 0))) aN))))
  (dk (eV 4))))))
include tx dQ hV bu b8 a7 bE in
theorem rC:FnOk Pr w K mg base CX0 (k+1) t.dI t.dz gb (spP K (bv 2 6 (ku cA bh aY))) :=
 fnP tx.bP dX λ _ _ _ _ _ _ _ hr =>
  (@aw _ _ _ _ _ _ (cy 2 dX.nd (aq dQ hr hV tx.m6 tx.bG.kp tx.nL (ac (al 0) (ac (al 1) ag))))
  (@aw _ _ _ _ _ _ (cy 3 dX.nd (aq bu hr b8 tx.iC tx.ba.kp tx.iD (ac (al 0) ag)))
  (@aw _ _ _ _ _ _ (cy 4 dX.nd au)
  (@aw _ _ _ _ _ _ (@lH _ _ _ _ _ _ _ _ _ _ _ L3 rfl (I.rng2 tx.z_range (ac (cu (al 2) au) (ac (cu (al 2) au) ag))) (aU (i:=5) dX.nd rfl (by first | exact Or.inl rfl | exact Or.inr rfl) ) (aF (i:=5))
  (@aW _ _ _ _ (S.aug 4 dX.nd (E.len tx.z_len (ac (cw (fK (N':=["x", "name", "rows", "y"]) (mp:=[none,some 1,some 3,some 5]) rfl (a9 nO (ah kg) rfl rfl (by decide +kernel)) (aF (i:=0)) (by decide) (I.rng2 tx.z_range (ac (cu (al 2) au) (ac (cu (al 2) au) ag))) (λ _ _ _=>⟨(aU (i:=0) (show (["x", "name", "rows", "y"]:List Str).Nodup by decide +kernel) rfl (Or.inl rfl) (.inr rfl)),(Ts.one (qI hr (aq a7 hr bE tx.fV tx.ao.kp tx.fX (ac (al 2) (ac (al 0) (ac (al 3) ag)))) (al 1))),(al 0)⟩))) ag)))) (λ _=>rfl))
  (@aW _ _ _ _ (dW (al 4)))))))
noncomputable abbrev oq:List Str:=["self", "scene"]
theorem mH:aL oq cX (ah jL):=bY
noncomputable def gS  : Wd->Option MOut :=
 (b5 (tD 0 "scene" (mV 0) (mP (eV 1)))
  (b5 (tD 0 "done" (mV 0) (mN (λ η=>(aN η).bind gL)))
  (tD 0 "undone" (mV 0) (mN (λ η=>(aN η).bind gL)))))
include tx in
theorem mY:FnOk Pr w K mg base CX0 (k+1) t.bK t.bJ cX (spM K (cl t) (iH 2 2 (gS))) :=
 fnM tx.bM mH λ _ _ _ _ _ _ hr =>
  (@aJ _ _ _ _ _ _ (MS.put (k:=0) (iZ 0) (aG λ _=>(al 1)) tx.na_Plan_scene)
  (@aJ _ _ _ _ _ _ (MS.put (k:=0) (iZ 0) (ME.nw λ _=>(f6 ag)) tx.na_Plan_done)
  (@bw _ _ _ _ (MS.put (k:=0) (iZ 0) (ME.nw λ _=>(f6 ag)) tx.na_Plan_undone))))
noncomputable abbrev uh:List Str:=["self"]
theorem rA:aL uh gj (ah mO):=bY
noncomputable def kB  : Wd->Option MOut :=
 (jU (mP (p7 0 "scene")))
include tx in
theorem rH:FnOk Pr w K mg base CX0 (k+1) t.dO t.dE gj (spM K (cl t) (iH 1 1 (kB))) :=
 fnM tx.aZ rA λ _ _ _ _ _ _ hr =>
  (@bw _ _ _ _ (ji (aG λ _=>(nS 0))))
noncomputable abbrev o0:List Str:=["self", "word", "scene"]
theorem oe:aL o0 dq (ah kh):=bY
noncomputable def iw  : Wd->Option MOut :=
 (b5 (jc (xI (y8 (mV 0) "done") (mP (lA (λ ds=>if ds.length<=Li then some (.tuple ds) else none) (aC (eV 1) (aC (p7 0 "scene") aN))))))
  (b5 (tD 0 "undone" (mV 0) (mN (λ η=>(aN η).bind gL)))
  (tD 0 "scene" (mV 0) (mP (eV 2)))))
include tx in
theorem oi:FnOk Pr w K mg base CX0 (k+1) t.bX t.bV dq (spM K (cl t) (iH 3 3 (iw))) :=
 fnM tx.aP oe λ _ _ _ _ _ _ hr =>
  (@aJ _ _ _ _ _ _ (iB (ME.appC (ME.fld (iZ 0)) (aG λ _=>(jC (ac (al 1) (ac (nS 0) ag))))))
  (@aJ _ _ _ _ _ _ (MS.put (k:=0) (iZ 0) (ME.nw λ _=>(f6 ag)) tx.na_Plan_undone)
  (@bw _ _ _ _ (MS.put (k:=0) (iZ 0) (aG λ _=>(al 2)) tx.na_Plan_scene))))
noncomputable abbrev yy:List Str:=["scene", "name", "gone"]
theorem uP:aL yy mU (ah sJ):=bY
noncomputable def p0 (bC:PFn):En->Option Out :=
 (bt (cj 2 (lA bC (aC (eV 0) (aC (eV 1) aN))))
  (dk (lA uo (aC (oE (bf [none,some 2] (lI lj (eV 0)) (tgN 0) (bT (l2 (pIn true) (l2 pIx (eV 0) (eC (.int 0))) (eV 1))) (eV 0))) aN))))
include tx bL db in
theorem Bg:FnOk Pr w K mg base CX0 (k+1) t.kK t.kG mU (spP K (bv 2 3 (p0 bC))) :=
 fnP tx.dR uP λ _ _ _ _ _ _ _ hr =>
  (@aw _ _ _ _ _ _ (cy 2 uP.nd (aq bL hr db tx.kl tx.aO.kp tx.kI (ac (al 0) (ac (al 1) ag))))
  (@aW _ _ _ _ (dW (E.tuple tx.z_tuple (ac (cw (fK (N':=["box", "gone"]) (mp:=[none,some 2]) rfl (a9 yy (ah sJ) rfl rfl (by decide +kernel)) (aF (i:=0)) (by decide) (I.tup (al 0)) (λ _ _ _=>⟨(aU (i:=0) (show (["box", "gone"]:List Str).Nodup by decide +kernel) rfl (Or.inl rfl) (.inr rfl)),(Ts.one (T.notIn (cu (al 0) (bI tx.c_NAME)) (al 1))),(al 0)⟩))) ag)))))
noncomputable abbrev rZ:List Str:=["self", "name", "names"]
theorem ll:aL rZ fQ (ah lZ):=bY
noncomputable def jH (bC:PFn) (ax:DFn) (jh:PFn):Wd->Option MOut :=
 (b5 (gQ 2 (mP (lA bC (aC (p7 0 "scene") (aC (eV 1) aN)))))
  (b5 (jc (bZ 0 "step_to" ax (mV 0) (maC (mP (eC (.str "take"))) (maC (mP (lA jh (aC (p7 0 "scene") (aC (eV 1) aN)))) maN))))
  (jU (mP (eV 2)))))
include tx bL db aB bc kO n5 in
theorem qu:FnOk Pr w K mg base CX0 (k+1) t.cO t.cG fQ (spM K (cl t) (iH 2 3 (jH bC ax jh))) :=
 fnM tx.cg ll λ _ _ _ _ _ _ hr =>
  (@aJ _ _ _ _ _ _ (fZ 2 ll.nd (aG λ _=>(aq bL hr db tx.kl tx.aO.kp tx.kI (ac (nS 0) (ac (al 1) ag)))))
  (@aJ _ _ _ _ _ _ (iB (i3 (kc:=0) (iZ 0) tx.cl_Plan tx.cY aB hr bc tx.dG (aA (aG λ _=>eZ) (aA (aG λ _=>(aq kO hr n5 tx.xD tx.dR.kp tx.yq (ac (nS 0) (ac (al 1) ag)))) eN))))
  (@bw _ _ _ _ (ji (aG λ _=>(al 2))))))
noncomputable abbrev rj:List Str:=["scene", "name", "lifted"]
theorem pe:aL rj jv (ah mJ):=bY
noncomputable def kU (bC:PFn) (jh:PFn):En->Option Out :=
 (bt (cj 2 (lA bC (aC (eV 0) (aC (eV 1) aN))))
  (dk (l2 az (lA jh (aC (eV 0) (aC (eV 1) aN))) (lA uo (aC (oE (bf [none,some 2] (lI lj (eV 0)) (tgN 0) (bT (l2 (pIn false) (l2 pIx (eV 0) (eC (.int 0))) (eV 1))) (eV 0))) aN)))))
include tx bL db kO n5 in
theorem vW:FnOk Pr w K mg base CX0 (k+1) t.gy t.gn jv (spP K (bv 2 3 (kU bC jh))) :=
 fnP tx.df pe λ _ _ _ _ _ _ _ hr =>
  (@aw _ _ _ _ _ _ (cy 2 pe.nd (aq bL hr db tx.kl tx.aO.kp tx.kI (ac (al 0) (ac (al 1) ag))))
  (@aW _ _ _ _ (dW (bq (aq kO hr n5 tx.xD tx.dR.kp tx.yq (ac (al 0) (ac (al 1) ag))) (E.tuple tx.z_tuple (ac (cw (fK (N':=["box", "lifted"]) (mp:=[none,some 2]) rfl (a9 rj (ah mJ) rfl rfl (by decide +kernel)) (aF (i:=0)) (by decide) (I.tup (al 0)) (λ _ _ _=>⟨(aU (i:=0) (show (["box", "lifted"]:List Str).Nodup by decide +kernel) rfl (Or.inl rfl) (.inr rfl)),(Ts.one (T.in (cu (al 0) (bI tx.c_NAME)) (al 1))),(al 0)⟩))) ag))))))
noncomputable abbrev r6:List Str:=["self", "name"]
theorem qk:aL r6 fS (ah l4):=bY
noncomputable def jJ (ax:DFn) (j3:PFn):Wd->Option MOut :=
 (jc (bZ 0 "step_to" ax (mV 0) (maC (mP (eC (.str "lift"))) (maC (mP (lA j3 (aC (p7 0 "scene") (aC (eV 1) aN)))) maN))))
include tx aB bc kZ pX in
theorem qw:FnOk Pr w K mg base CX0 (k+1) t.cQ t.cI fS (spM K (cl t) (iH 2 2 (jJ ax j3))) :=
 fnM tx.cV qk λ _ _ _ _ _ _ hr =>
  (@bw _ _ _ _ (iB (i3 (kc:=0) (iZ 0) tx.cl_Plan tx.cY aB hr bc tx.dG (aA (aG λ _=>eZ) (aA (aG λ _=>(aq kZ hr pX tx.xA tx.df.kp tx.yn (ac (nS 0) (ac (al 1) ag)))) eN)))))
noncomputable abbrev mz:List Str:=["scene", "other"]
theorem qj:aL mz fM (ah jE):=bY
noncomputable def hX  : En->Option Out :=
 (dk (lA uo (aC (oE (bf [none,some 1] (lI lj (eV 0)) (tgN 0) ci (vIf (bT (l2 pEq (l2 pIx (eV 0) (eC (.int 0))) (l2 pIx (eV 1) (eC (.int 0))))) (eV 1) (eV 0)))) aN)))
include tx in
theorem qo:FnOk Pr w K mg base CX0 (k+1) t.cK t.cB fM (spP K (bv 2 2 (hX))) :=
 fnP tx.a8 qj λ _ _ _ _ _ _ _ hr =>
  (@aW _ _ _ _ (dW (E.tuple tx.z_tuple (ac (cw (fK (N':=["box", "other"]) (mp:=[none,some 1]) rfl (a9 mz (ah jE) rfl rfl (by decide +kernel)) (aF (i:=0)) (by decide) (I.tup (al 0)) (λ _ _ _=>⟨(aU (i:=0) (show (["box", "other"]:List Str).Nodup by decide +kernel) rfl (Or.inl rfl) (.inr rfl)),Ts.nil,(E.ifE (qI hr (cu (al 0) (bI tx.c_NAME)) (cu (al 1) (bI tx.c_NAME))) (al 1) (al 0))⟩))) ag))))
noncomputable abbrev yx:List Str:=["scene", "name", "marks", "box"]
theorem pi:aL yx jx (ah qO):=bY
noncomputable def kW (aD:PFn) (cq:PFn):En->Option Out :=
 (bt (cj 3 (lA aD (aC (eV 0) (aC (eV 1) aN))))
  (dk (lA cq (aC (eV 0) (aC (l2 az (eSl (eV 3) pN (pS (eC (.int 6)))) (lA (λ ds=>if ds.length<=Li then some (.tuple ds) else none) (aC (eV 2) aN))) aN)))))
include tx aK bg cS gG in
theorem vY:FnOk Pr w K mg base CX0 (k+1) t.gA t.gq jx (spP K (bv 3 4 (kW aD cq))) :=
 fnP tx.dg pi λ _ _ _ _ _ _ _ hr =>
  (@aw _ _ _ _ _ _ (cy 3 pi.nd (aq aK hr bg tx.d4 tx.ak.kp tx.d8 (ac (al 0) (ac (al 1) ag))))
  (@aW _ _ _ _ (dW (aq cS hr gG tx.l7 tx.a8.kp tx.mx (ac (al 0) (ac (bq (E.sl (al 3) P.none (P.some (bI tx.c_MARKS))) (jC (ac (al 2) ag))) ag))))))
noncomputable abbrev r0:List Str:=["self", "name", "marks", "box"]
theorem lm:aL r0 fR (ah l0):=bY
noncomputable def jI (aD:PFn) (ax:DFn) (j4:PFn):Wd->Option MOut :=
 (b5 (gQ 3 (mP (lA aD (aC (p7 0 "scene") (aC (eV 1) aN)))))
  (b5 (jc (bZ 0 "step_to" ax (mV 0) (maC (mP (eC (.str "mark"))) (maC (mP (lA j4 (aC (p7 0 "scene") (aC (eV 1) (aC (eV 2) aN))))) maN))))
  (jU (mP (l2 pIx (eV 3) (eC (.int 6)))))))
include tx aK bg aB bc k3 pY in
theorem qv:FnOk Pr w K mg base CX0 (k+1) t.cP t.cH fR (spM K (cl t) (iH 3 4 (jI aD ax j4))) :=
 fnM tx.cU lm λ _ _ _ _ _ _ hr =>
  (@aJ _ _ _ _ _ _ (fZ 3 lm.nd (aG λ _=>(aq aK hr bg tx.d4 tx.ak.kp tx.d8 (ac (nS 0) (ac (al 1) ag)))))
  (@aJ _ _ _ _ _ _ (iB (i3 (kc:=0) (iZ 0) tx.cl_Plan tx.cY aB hr bc tx.dG (aA (aG λ _=>eZ) (aA (aG λ _=>(aq k3 hr pY tx.xB tx.dg.kp tx.yo (ac (nS 0) (ac (al 1) (ac (al 2) ag))))) eN))))
  (@bw _ _ _ _ (ji (aG λ _=>(cu (al 3) (bI tx.c_MARKS)))))))
noncomputable abbrev yw:List Str:=["scene", "name", "left", "top", "box"]
theorem ph:aL yw jw (ah qN):=bY
noncomputable def nG (aD:PFn) (cq:PFn):En->Option Out :=
 (bt (cj 4 (lA aD (aC (eV 0) (aC (eV 1) aN))))
  (dk (lA cq (aC (eV 0) (aC (l2 az (l2 az (eSl (eV 4) pN (pS (eC (.int 2)))) (lA (λ ds=>if ds.length<=Li then some (.tuple ds) else none) (aC (eV 2) (aC (eV 3) aN)))) (eSl (eV 4) (pS (eC (.int 4))) pN)) aN)))))
include tx aK bg cS gG in
theorem vX:FnOk Pr w K mg base CX0 (k+1) t.gz t.gp jw (spP K (bv 4 5 (nG aD cq))) :=
 fnP tx.b4 ph λ _ _ _ _ _ _ _ hr =>
  (@aw _ _ _ _ _ _ (cy 4 ph.nd (aq aK hr bg tx.d4 tx.ak.kp tx.d8 (ac (al 0) (ac (al 1) ag))))
  (@aW _ _ _ _ (dW (aq cS hr gG tx.l7 tx.a8.kp tx.mx (ac (al 0) (ac (bq (bq (E.sl (al 4) P.none (P.some (bI tx.c_LEFT))) (jC (ac (al 2) (ac (al 3) ag)))) (E.sl (al 4) (P.some (bI tx.c_WIDTH)) P.none)) ag))))))
noncomputable abbrev ui:List Str:=["self", "name", "left", "top", "box"]
theorem lW:aL ui gk (ah mQ):=bY
noncomputable def kC (aD:PFn) (ax:DFn) (fe:PFn):Wd->Option MOut :=
 (b5 (gQ 4 (mP (lA aD (aC (p7 0 "scene") (aC (eV 1) aN)))))
  (b5 (jc (bZ 0 "step_to" ax (mV 0) (maC (mP (eC (.str "lay"))) (maC (mP (lA fe (aC (p7 0 "scene") (aC (eV 1) (aC (eV 2) (aC (eV 3) aN)))))) maN))))
  (jU (mP (eSl (eV 4) (pS (eC (.int 2))) (pS (eC (.int 4))))))))
include tx aK bg aB bc gD jW in
theorem rJ:FnOk Pr w K mg base CX0 (k+1) t.dP t.dF gk (spM K (cl t) (iH 4 5 (kC aD ax fe))) :=
 fnM tx.dU lW λ _ _ _ _ _ _ hr =>
  (@aJ _ _ _ _ _ _ (fZ 4 lW.nd (aG λ _=>(aq aK hr bg tx.d4 tx.ak.kp tx.d8 (ac (nS 0) (ac (al 1) ag)))))
  (@aJ _ _ _ _ _ _ (iB (i3 (kc:=0) (iZ 0) tx.cl_Plan tx.cY aB hr bc tx.dG (aA (aG λ _=>eZ) (aA (aG λ _=>(aq gD hr jW tx.qQ tx.b4.kp tx.ri (ac (nS 0) (ac (al 1) (ac (al 2) (ac (al 3) ag)))))) eN))))
  (@bw _ _ _ _ (ji (aG λ _=>(E.sl (al 4) (P.some (bI tx.c_LEFT)) (P.some (bI tx.c_WIDTH))))))))
noncomputable abbrev qd:List Str:=["scene", "name"]
theorem um:aL qd iQ (ah lL):=bY
noncomputable def lT  : En->Option Out :=
 (dk (lA Cz (aC (oE (bf [none,some 1] (lI lj (eV 0)) (tgN 0) ci (l2 pEq (l2 pIx (eV 0) (eC (.int 0))) (eV 1)))) aN)))
include tx in
theorem ux:FnOk Pr w K mg base CX0 (k+1) t.fI t.fq iQ (spP K (bv 2 2 (lT))) :=
 fnP tx.c7 um λ _ _ _ _ _ _ _ hr =>
  (@aW _ _ _ _ (dW (E.any rfl tx.z_any (ac (cw (fK (N':=["box", "name"]) (mp:=[none,some 1]) rfl (a9 qd (ah lL) rfl rfl (by decide +kernel)) (aF (i:=0)) (by decide) (I.tup (al 0)) (λ _ _ _=>⟨(aU (i:=0) (show (["box", "name"]:List Str).Nodup by decide +kernel) rfl (Or.inl rfl) (.inr rfl)),Ts.nil,(E.eq hr (cu (al 0) (bI tx.c_NAME)) (al 1))⟩))) ag))))
noncomputable abbrev uF:List Str:=["scene", "box", "name", "around"]
theorem kd:aL uF gY (ah ox):=bY
noncomputable def lf (g9:PFn):En->Option Out :=
 (bt (cj 2 (l2 pIx (eV 1) (eC (.int 0))))
  (bt (cj 3 (l2 pIx (eV 1) (eC (.int 1))))
  (bt (sIf (bT (lA g9 (aC (eV 0) (aC (eV 2) aN)))) (λ _=>none) sNx)
  (bt (sIf (om (bT (l2 pNe (eV 3) (eC (.str "")))) (wF (bT (lA g9 (aC (eV 0) (aC (eV 3) aN)))))) (λ _=>none) sNx)
  (bt (sIf (bT (l2 pGe (lA kR (aC (eV 0) aN)) (eC (.int 12)))) (λ _=>none) sNx)
  (dk (l2 az (eV 0) (lA (λ ds=>if ds.length<=Li then some (.tuple ds) else none) (aC (eV 1) aN)))))))))
include tx i6 lc in
theorem sW:FnOk Pr w K mg base CX0 (k+1) t.eG t.el gY (spP K (bv 2 4 (lf g9))) :=
 fnP tx.de kd λ _ _ _ _ _ _ _ hr =>
  (@aw _ _ _ _ _ _ (cy 2 kd.nd (cu (al 1) (bI tx.c_NAME)))
  (@aw _ _ _ _ _ _ (cy 3 kd.nd (cu (al 1) (bI tx.c_AROUND)))
  (@aw _ _ _ _ _ _ (@nM _ _ _ _ _ _ _ _ _ (T.val (aq i6 hr lc tx.pG tx.c7.kp tx.p8 (ac (al 0) (ac (al 2) ag)))) (@aW _ _ _ _ S.never) kL)
  (@aw _ _ _ _ _ _ (@nM _ _ _ _ _ _ _ _ _ (TW.t (TW.and (T.ne hr (al 3) eZ) (TW.and1 (T.not (T.val (aq i6 hr lc tx.pG tx.c7.kp tx.p8 (ac (al 0) (ac (al 3) ag)))))))) (@aW _ _ _ _ S.never) kL)
  (@aw _ _ _ _ _ _ (@nM _ _ _ _ _ _ _ _ _ (T.ge (E.len tx.z_len (ac (al 0) ag)) (bI tx.c_MOST_BOXES)) (@aW _ _ _ _ S.never) kL)
  (@aW _ _ _ _ (dW (bq (al 0) (jC (ac (al 1) ag))))))))))
noncomputable abbrev ug:List Str:=["self", "box"]
theorem rq:aL ug gi (ah mM):=bY
noncomputable def kA (ax:DFn) (iW:PFn):Wd->Option MOut :=
 (jc (bZ 0 "step_to" ax (mV 0) (maC (mP (eC (.str "put"))) (maC (mP (lA iW (aC (p7 0 "scene") (aC (eV 1) aN)))) maN))))
include tx aB bc jr nA in
theorem rG:FnOk Pr w K mg base CX0 (k+1) t.dN t.dD gi (spM K (cl t) (iH 2 2 (kA ax iW))) :=
 fnM tx.dS rq λ _ _ _ _ _ _ hr =>
  (@bw _ _ _ _ (iB (i3 (kc:=0) (iZ 0) tx.cl_Plan tx.cY aB hr bc tx.dG (aA (aG λ _=>eZ) (aA (aG λ _=>(aq jr hr nA tx.uA tx.de.kp tx.uD (ac (nS 0) (ac (al 1) ag)))) eN)))))
noncomputable abbrev kN:List Str:=["_law_script", "_law_at", "_law_plan", "_law_names", "_law_way", "_law_name", "_law_fresh", "_law_sizes"]
theorem dY:aL kN gf (ah iF):=bY
noncomputable def kz (bz:DFn) (aj:PFn) (eT:DFn) (gK:DFn) (gJ:DFn) (ig:DFn) (ie:DFn):Wd->Option MOut :=
 (b5 (gQ 3 (mFz (mcL [none] (iMT (bZ 0 "now" bz (mV 2) maN)) [0] (tgN 0) qg (mP (l2 pIx (eV 0) (eC (.int 0)))))))
  (b5 (gQ 4 (mP (lA aj (aC (eV 0) (aC (eV 1) (aC (eC (.int 6)) aN))))))
  (b5 (gQ 5 (mP (vIf (bT (l2 pNe (eV 3) (oE (λ η=>(aN η).bind gL)))) (l2 pIx (eV 3) (lA aj (aC (eV 0) (aC (l2 az (eV 1) (eC (.int 1))) (aC (lA kR (aC (eV 3) aN)) aN))))) (eC (.str "")))))
  (mIf (tPv (om (bT (l2 pEq (eV 4) (eC (.int 0)))) (bT (l2 pNe (eV 5) (eC (.str "")))))) (jc (bZ 0 "take" eT (mV 2) (maC (mP (eV 5)) maN))) (mIf (tPv (om (bT (l2 pEq (eV 4) (eC (.int 1)))) (bT (l2 pNe (eV 5) (eC (.str "")))))) (jc (bZ 0 "lift" gK (mV 2) (maC (mP (eV 5)) maN))) (mIf (tPv (om (bT (l2 pEq (eV 4) (eC (.int 2)))) (bT (l2 pNe (eV 5) (eC (.str "")))))) (jc (bZ 0 "mark" gJ (mV 2) (maC (mP (eV 5)) (maC (mP (l2 pIx (eC (.list [(.str ""),(.str "c"),(.str "f"),(.str "h"),(.str "l"),(.str "cf")])) (lA aj (aC (eV 0) (aC (l2 az (eV 1) (eC (.int 2))) (aC (eC (.int 6)) aN)))))) maN)))) (mIf (tPv (om (bT (l2 pEq (eV 4) (eC (.int 3)))) (bT (l2 pNe (eV 5) (eC (.str "")))))) (jc (bZ 0 "lay" ig (mV 2) (maC (mP (eV 5)) (maC (mP (l2 kQ (lA aj (aC (eV 0) (aC (l2 az (eV 1) (eC (.int 2))) (aC (eC (.int 9)) aN)))) (eC (.int 4)))) (maC (mP (l2 kQ (lA aj (aC (eV 0) (aC (l2 az (eV 1) (eC (.int 3))) (aC (eC (.int 9)) aN)))) (eC (.int 4)))) maN))))) (mIf (tPv (bT (l2 pLt (lA kR (aC (eV 3) aN)) (eC (.int 12))))) (b5 (gQ 6 (mC (bf [none,some 3] (lI asL (eC (.list [(.str "x"),(.str "y"),(.str "z"),(.str "w"),(.str "v"),(.str "u"),(.str "t"),(.str "s"),(.str "r"),(.str "q"),(.str "p"),(.str "o")]))) (tgN 0) (bT (l2 (pIn true) (eV 0) (eV 1))) (eV 0))))
  (b5 (gQ 7 (mP (lA (λ ds=>if ds.length<=Li then some (.tuple ds) else none) (aC (lA aj (aC (eV 0) (aC (l2 az (eV 1) (eC (.int 4))) (aC (eC (.int 9)) aN)))) (aC (lA aj (aC (eV 0) (aC (l2 az (eV 1) (eC (.int 5))) (aC (eC (.int 9)) aN)))) aN)))))
  (jc (bZ 0 "put" ie (mV 2) (maC (mP (l2 az (l2 az (lA (λ ds=>if ds.length<=Li then some (.tuple ds) else none) (aC (l2 pIx (eV 6) (eC (.int 0))) (aC (eV 5) (aC (eC (.int 1)) (aC (eC (.int 1)) aN))))) (eV 7)) (lA (λ ds=>if ds.length<=Li then some (.tuple ds) else none) (aC (eC (.str "")) aN)))) maN))))) (jc (bZ 0 "take" eT (mV 2) (maC (mP (eV 5)) maN)))))))))))
include tx am av bF cc fU jg im ly il lx jb mw ja mt in
theorem rE:FnOk Pr w K mg base CX0 (k+1) t.dL t.dB gf (spM K (cl t) (iH 3 8 (kz bz aj eT gK gJ ig ie))) :=
 fnM tx.bQ dY λ _ _ _ _ _ _ hr =>
  (@aJ _ _ _ _ _ _ (fZ 3 dY.nd (ME.fz (ME.lcomp (N':=["_law_box"]) (mp:=[none]) rfl (a9 kN (ah iF) rfl rfl (by decide +kernel)) (aF (i:=0)) (by decide) (MI.tup (ME.meth0 (kc:=0) (iZ 2) tx.cl_Plan tx.dZ bF hr cc tx.eU)) (λ _ _ _=>⟨(aU (i:=0) (show (["_law_box"]:List Str).Nodup by decide +kernel) rfl (Or.inl rfl) (.inr rfl)),MTs.nil,(aG λ _=>(cu (al 0) au))⟩))))
  (@aJ _ _ _ _ _ _ (fZ 4 dY.nd (aG λ _=>(aq am hr av tx.aH tx.af.kp tx.aI (ac (al 0) (ac (al 1) (ac au ag))))))
  (@aJ _ _ _ _ _ _ (fZ 5 dY.nd (aG λ _=>(E.ifE (T.ne hr (al 3) (cw (f6 ag))) (cu (al 3) (aq am hr av tx.aH tx.af.kp tx.aI (ac (al 0) (ac (bq (al 1) au) (ac (E.len tx.z_len (ac (al 3) ag)) ag))))) eZ)))
  (@bw _ _ _ _ (@jj _ _ _ _ _ _ _ _ _ (MT.pu λ _=>(TW.t (TW.and (qI hr (al 4) au) (TW.and1 (T.ne hr (al 5) eZ))))) (@bw _ _ _ _ (iB (i3 (kc:=0) (iZ 2) tx.cl_Plan tx.lr fU hr jg tx.my (aA (aG λ _=>(al 5)) eN)))) (@bw _ _ _ _ (@jj _ _ _ _ _ _ _ _ _ (MT.pu λ _=>(TW.t (TW.and (qI hr (al 4) au) (TW.and1 (T.ne hr (al 5) eZ))))) (@bw _ _ _ _ (iB (i3 (kc:=0) (iZ 2) tx.cl_Plan tx.qA im hr ly tx.rV (aA (aG λ _=>(al 5)) eN)))) (@bw _ _ _ _ (@jj _ _ _ _ _ _ _ _ _ (MT.pu λ _=>(TW.t (TW.and (qI hr (al 4) au) (TW.and1 (T.ne hr (al 5) eZ))))) (@bw _ _ _ _ (iB (i3 (kc:=0) (iZ 2) tx.cl_Plan tx.qz il hr lx tx.rT (aA (aG λ _=>(al 5)) (aA (aG λ _=>(cu (@E.cst _ _ _ _ rfl) (aq am hr av tx.aH tx.af.kp tx.aI (ac (al 0) (ac (bq (al 1) au) (ac au ag)))))) eN))))) (@bw _ _ _ _ (@jj _ _ _ _ _ _ _ _ _ (MT.pu λ _=>(TW.t (TW.and (qI hr (al 4) au) (TW.and1 (T.ne hr (al 5) eZ))))) (@bw _ _ _ _ (iB (i3 (kc:=0) (iZ 2) tx.cl_Plan tx.rL jb hr mw tx.ua (aA (aG λ _=>(al 5)) (aA (aG λ _=>(E.sub (aq am hr av tx.aH tx.af.kp tx.aI (ac (al 0) (ac (bq (al 1) au) (ac au ag)))) au)) (aA (aG λ _=>(E.sub (aq am hr av tx.aH tx.af.kp tx.aI (ac (al 0) (ac (bq (al 1) au) (ac au ag)))) au)) eN)))))) (@bw _ _ _ _ (@jj _ _ _ _ _ _ _ _ _ (MT.pu λ _=>(T.lt (E.len tx.z_len (ac (al 3) ag)) au)) (@aJ _ _ _ _ _ _ (@MS.setC _ _ _ _ _ _ _ ["_law_one", "_law_names"] [none,some 3] _ _ _ _ _ _ _ 6 _ _ _ rfl dY.nd (a9 kN (ah iF) rfl rfl (by decide +kernel)) (aF (i:=0)) (by decide) (λ _=>(@I.list _ _ _ _ _ (@E.cst _ _ _ _ rfl))) (λ _ _ _ _=>⟨(aU (i:=0) (show (["_law_one", "_law_names"]:List Str).Nodup by decide +kernel) rfl (Or.inl rfl) (.inr rfl)),(Ts.one (T.notIn (al 0) (al 1))),(al 0)⟩) rfl rfl rfl (λ _=>rfl))
  (@aJ _ _ _ _ _ _ (fZ 7 dY.nd (aG λ _=>(jC (ac (aq am hr av tx.aH tx.af.kp tx.aI (ac (al 0) (ac (bq (al 1) au) (ac au ag)))) (ac (aq am hr av tx.aH tx.af.kp tx.aI (ac (al 0) (ac (bq (al 1) au) (ac au ag)))) ag)))))
  (@bw _ _ _ _ (iB (i3 (kc:=0) (iZ 2) tx.cl_Plan tx.rK ja hr mt tx.t9 (aA (aG λ _=>(bq (bq (jC (ac (cu (al 6) au) (ac (al 5) (ac au (ac au ag))))) (al 7)) (jC (ac eZ ag)))) eN)))))) (@bw _ _ _ _ (iB (i3 (kc:=0) (iZ 2) tx.cl_Plan tx.lr fU hr jg tx.my (aA (aG λ _=>(al 5)) eN)))))))))))))))))
noncomputable abbrev kM:List Str:=["one", "other", "left", "top", "right", "bottom", "ones", "others", "points", "x"]
theorem cW:aL kM dm (ah iq):=bY
noncomputable def iu (bh:PFn) (aY:PFn):En->Option Out :=
 (bt (cj 6 (lA bh (aC (eV 0) aN)))
  (bt (cj 7 (lA bh (aC (eV 1) aN)))
  (bt (iG 8 (λ η=>(aN η).bind gL))
  (bt (jF (λ η=>((aC (eV 2) (aC (eV 4) aN)) η).bind rng2) (tgN 9)
  (oW 8 (lI asL (oE (bf [none,some 6,some 7,some 9] (λ η=>((aC (eV 3) (aC (eV 5) aN)) η).bind rng2) (tgN 0) (bT (l2 pNe (lA aY (aC (eV 1) (aC (eV 3) (aC (eV 0) aN)))) (lA aY (aC (eV 2) (aC (eV 3) (aC (eV 0) aN)))))) (lA (λ ds=>if ds.length<=Li then some (.tuple ds) else none) (aC (eV 3) (aC (eV 0) aN))))))))
  (wX 8)))))
include tx bu b8 a7 bE in
theorem oh:FnOk Pr w K mg base CX0 (k+1) t.bW t.bU dm (spP K (bv 6 10 (iu bh aY))) :=
 fnP tx.aS cW λ _ _ _ _ _ _ _ hr =>
  (@aw _ _ _ _ _ _ (cy 6 cW.nd (aq bu hr b8 tx.iC tx.ba.kp tx.iD (ac (al 0) ag)))
  (@aw _ _ _ _ _ _ (cy 7 cW.nd (aq bu hr b8 tx.iC tx.ba.kp tx.iD (ac (al 1) ag)))
  (@aw _ _ _ _ _ _ (S.setO 8 cW.nd (f6 ag))
  (@aw _ _ _ _ _ _ (@lH _ _ _ _ _ _ _ _ _ _ _ L3 rfl (I.rng2 tx.z_range (ac (al 2) (ac (al 4) ag))) (aU (i:=9) cW.nd rfl (by first | exact Or.inl rfl | exact Or.inr rfl) ) (aF (i:=9))
  (@aW _ _ _ _ (S.ext 8 (cw (fK (N':=["y", "ones", "others", "x"]) (mp:=[none,some 6,some 7,some 9]) rfl (a9 kM (ah iq) rfl rfl (by decide +kernel)) (aF (i:=0)) (by decide) (I.rng2 tx.z_range (ac (al 3) (ac (al 5) ag))) (λ _ _ _=>⟨(aU (i:=0) (show (["y", "ones", "others", "x"]:List Str).Nodup by decide +kernel) rfl (Or.inl rfl) (.inr rfl)),(Ts.one (T.ne hr (aq a7 hr bE tx.fV tx.ao.kp tx.fX (ac (al 1) (ac (al 3) (ac (al 0) ag)))) (aq a7 hr bE tx.fV tx.ao.kp tx.fX (ac (al 2) (ac (al 3) (ac (al 0) ag)))))),(jC (ac (al 3) (ac (al 0) ag)))⟩))))) (λ _=>rfl))
  (@aW _ _ _ _ (S.retO 8))))))
noncomputable abbrev DX:List Str:=["scene", "x", "y"]
theorem A3:aL DX mT (ah wW):=bY
noncomputable def tQ (bh:PFn) (aY:PFn):En->Option Out :=
 (dk (lA aY (aC (lA bh (aC (eV 0) aN)) (aC (eV 1) (aC (eV 2) aN)))))
include tx bu b8 a7 bE in
theorem Bf:FnOk Pr w K mg base CX0 (k+1) t.kJ t.kF mT (spP K (bv 3 3 (tQ bh aY))) :=
 fnP tx.hG A3 λ _ _ _ _ _ _ _ hr =>
  (@aW _ _ _ _ (dW (aq a7 hr bE tx.fV tx.ao.kp tx.fX (ac (aq bu hr b8 tx.iC tx.ba.kp tx.iD (ac (al 0) ag)) (ac (al 1) (ac (al 2) ag))))))
noncomputable abbrev r8:List Str:=["self", "step"]
theorem ln:aL r8 fT (ah l5):=bY
noncomputable def jK  : Wd->Option MOut :=
 (b5 (mIf (zC (Am (y8 (mV 0) "done"))) (λ _=>none) mNx)
  (b5 (gQ 1 (An (y8 (mV 0) "done")))
  (b5 (jc (xI (y8 (mV 0) "undone") (mP (lA (λ ds=>if ds.length<=Li then some (.tuple ds) else none) (aC (l2 pIx (eV 1) (eC (.int 0))) (aC (p7 0 "scene") aN))))))
  (b5 (tD 0 "scene" (mV 0) (mP (l2 pIx (eV 1) (eC (.int 1)))))
  (jU (mP (l2 pIx (eV 1) (eC (.int 0)))))))))
include tx in
theorem qx:FnOk Pr w K mg base CX0 (k+1) t.cR t.cJ fT (spM K (cl t) (iH 1 2 (jK))) :=
 fnM tx.bA ln λ _ _ _ _ _ _ hr =>
  (@aJ _ _ _ _ _ _ (@jj _ _ _ _ _ _ _ _ _ (MT.not (MT.truL (ME.fld (iZ 0)))) (@bw _ _ _ _ MS.never) MSs.nil)
  (@aJ _ _ _ _ _ _ (fZ 1 ln.nd (ME.popL (ME.fld (iZ 0))))
  (@aJ _ _ _ _ _ _ (iB (ME.appC (ME.fld (iZ 0)) (aG λ _=>(jC (ac (cu (al 1) (bI tx.c_WORD)) (ac (nS 0) ag))))))
  (@aJ _ _ _ _ _ _ (MS.put (k:=0) (iZ 0) (aG λ _=>(cu (al 1) (bI tx.c_SCENE))) tx.na_Plan_scene)
  (@bw _ _ _ _ (ji (aG λ _=>(cu (al 1) (bI tx.c_WORD)))))))))
noncomputable abbrev rX:List Str:=["_law_scene_here", "_law_right", "_law_down", "_law_found", "_law_box"]
theorem gF:aL rX fO (ah lX):=bY
noncomputable def jG (fe:PFn):En->Option Out :=
 (bt (cj 3 (eV 0))
  (bt (jF (lI lj (eV 0)) (tgN 4)
  (sIf (bT (l2 pEq (l2 pIx (eV 4) (eC (.int 1))) (eC (.str "")))) (cj 3 (lA fe (aC (eV 3) (aC (l2 pIx (eV 4) (eC (.int 0))) (aC (l2 az (l2 pIx (eV 4) (eC (.int 2))) (eV 1)) (aC (l2 az (l2 pIx (eV 4) (eC (.int 3))) (eV 2)) aN)))))) sNx))
  (dk (eV 3))))
include tx gD jW in
theorem qr:FnOk Pr w K mg base CX0 (k+1) t.cM t.cD fO (spP K (bv 3 5 (jG fe))) :=
 fnP tx.cf gF λ _ _ _ _ _ _ _ hr =>
  (@aw _ _ _ _ _ _ (cy 3 gF.nd (al 0))
  (@aw _ _ _ _ _ _ (@lH _ _ _ _ _ _ _ _ _ _ _ L3 rfl (I.tup (al 0)) (aU (i:=4) gF.nd rfl (by first | exact Or.inl rfl | exact Or.inr rfl) ) (aF (i:=4))
  (@aW _ _ _ _ (@nM _ _ _ _ _ _ _ _ _ (qI hr (cu (al 4) au) eZ) (@aW _ _ _ _ (cy 3 gF.nd (aq gD hr jW tx.qQ tx.b4.kp tx.ri (ac (al 3) (ac (cu (al 4) au) (ac (bq (cu (al 4) au) (al 1)) (ac (bq (cu (al 4) au) (al 2)) ag))))))) kL)) (λ _=>rfl))
  (@aW _ _ _ _ (dW (al 3)))))
noncomputable abbrev nP:List Str:=["_law_script", "_law_scene_here", "_law_left", "_law_top", "_law_right", "_law_bottom", "_law_some", "_law_text", "_law_plan", "_law_steps", "_law_k", "_law_unlike", "_law_turn", "_law_at", "_law_ones", "_law_others", "_law_moved_here"]
theorem cm:aL nP ["_law_script"] (ah lp):=bY
noncomputable def tN (gH:PFn) (aj:PFn) (j0:PFn) (dc:PFn) (h9:PFn) (d7:DFn) (ib:DFn) (cb:PFn) (bz:DFn) (lB:PFn) (gM:DFn) (gI:PFn):Wd->Option MOut :=
 (b5 (gQ 1 (mP (lA gH (aC (eV 0) (aC (eC (.int 0)) aN)))))
  (b5 (CZ 2 3 (maC (mP (l2 kQ (lA aj (aC (eV 0) (aC (eC (.int 200)) (aC (eC (.int 9)) aN)))) (eC (.int 4)))) (maC (mP (l2 kQ (lA aj (aC (eV 0) (aC (eC (.int 201)) (aC (eC (.int 9)) aN)))) (eC (.int 4)))) maN)))
  (b5 (CZ 4 5 (maC (mP (l2 az (l2 az (eV 2) (eC (.int 1))) (lA aj (aC (eV 0) (aC (eC (.int 202)) (aC (eC (.int 6)) aN)))))) (maC (mP (l2 az (l2 az (eV 3) (eC (.int 1))) (lA aj (aC (eV 0) (aC (eC (.int 203)) (aC (eC (.int 6)) aN)))))) maN)))
  (b5 (gQ 6 (mP (lA j0 (aC (eV 1) (aC (eV 2) (aC (eV 3) (aC (eV 4) (aC (eV 5) aN))))))))
  (b5 (gQ 7 (mP (lA dc (aC (eV 1) (aC (eV 2) (aC (eV 3) (aC (eV 4) (aC (eV 5) aN))))))))
  (b5 (mIf (tPv (bT (l2 pNe (l2 az (lA qm (aC (oE (bf [none,none] (lI asL (eV 6)) (tgT (bo (tgN 0) (bo (tgN 1) gO))) ci (eV 1))) aN)) (l2 Cy (eV 7) (eC (.str ".")))) (l2 kj (l2 kQ (eV 4) (eV 2)) (l2 kQ (eV 5) (eV 3)))))) (jU (mP (eC (.bool false)))) mNx)
  (b5 (mIf (tPv (bT (l2 pNe (oE (bf [none,none,some 1] (lI asL (eV 6)) (tgT (bo (tgN 0) (bo (tgN 1) gO))) (wF (bT (lch pLt pLe (eC (.int 0)) (eV 1) (lA h9 (aC (eV 2) (aC (eV 0) aN)))))) (eV 0))) (oE (λ η=>(aN η).bind gL))))) (jU (mP (eC (.bool false)))) mNx)
  (b5 (gQ 8 (xF 0 d7 (maC (mP (eV 1)) maN)))
  (b5 (gQ 9 (mP (l2 az (eC (.int 1)) (lA aj (aC (eV 0) (aC (eC (.int 204)) (aC (eC (.int 4)) aN)))))))
  (b5 (y6 [10] (iPu (λ η=>((aC (eV 9) aN) η).bind rng1)) (tgN 10)
  (jc (uW ib (maC (mP (eV 0)) (maC (mP (l2 az (eC (.int 210)) (l2 kj (eC (.int 6)) (eV 10)))) (maC (mV 8) maN))))))
  (b5 (gQ 11 (mCB cb (maC (mP (eV 1)) (maC (bZ 0 "now" bz (mV 8) maN) (maC (mP (eV 2)) (maC (mP (eV 3)) (maC (mP (eV 4)) (maC (mP (eV 5)) maN))))))))
  (b5 (mIf (mB (m7 pNe (mCB cb (maC (bZ 0 "now" bz (mV 8) maN) (maC (mP (eV 1)) (maC (mP (eV 2)) (maC (mP (eV 3)) (maC (mP (eV 4)) (maC (mP (eV 5)) maN))))))) (mP (eV 11)))) (jU (mP (eC (.bool false)))) mNx)
  (b5 (mIf (mB (m7 pNe (mcL [none,some 1,some 8] (iPu (lI asL (eV 11))) [0] (tgN 0) (mB (m7 pEq (mP (lA lB (aC (eV 1) (aC (l2 pIx (eV 0) (eC (.int 0))) (aC (l2 pIx (eV 0) (eC (.int 1))) aN))))) (mCB lB (maC (bZ 0 "now" bz (mV 2) maN) (maC (mP (l2 pIx (eV 0) (eC (.int 0)))) (maC (mP (l2 pIx (eV 0) (eC (.int 1)))) maN)))))) (mP (eV 0))) (mP (oE (λ η=>(aN η).bind gL))))) (jU (mP (eC (.bool false)))) mNx)
  (b5 (mIf (sy (tPv (bT (l2 pEq (eV 11) (oE (λ η=>(aN η).bind gL))))) (mB (m7 pNe (mCB dc (maC (bZ 0 "now" bz (mV 8) maN) (maC (mP (eV 2)) (maC (mP (eV 3)) (maC (mP (eV 4)) (maC (mP (eV 5)) maN)))))) (mP (eV 7))))) (jU (mP (eC (.bool false)))) mNx)
  (b5 (y6 [12] (iPu (λ η=>((aC (eV 9) aN) η).bind rng1)) (tgN 12)
  (jc (bZ 0 "back" gM (mV 8) maN)))
  (b5 (mIf (mB (m7 pNe (mCB cb (maC (bZ 0 "now" bz (mV 8) maN) (maC (mP (eV 1)) (maC (mP (eV 2)) (maC (mP (eV 3)) (maC (mP (eV 4)) (maC (mP (eV 5)) maN))))))) (mP (oE (λ η=>(aN η).bind gL))))) (jU (mP (eC (.bool false)))) mNx)
  (b5 (gQ 13 (mP (l2 az (eV 2) (lA aj (aC (eV 0) (aC (eC (.int 205)) (aC (l2 az (l2 kQ (eV 4) (eV 2)) (eC (.int 1))) aN)))))))
  (b5 (gQ 14 (mP (l2 mW (lA dc (aC (eV 1) (aC (eV 2) (aC (eV 3) (aC (eV 13) (aC (eV 5) aN)))))) (eC (.str "\n")))))
  (b5 (gQ 15 (mP (l2 mW (lA dc (aC (eV 1) (aC (eV 13) (aC (eV 3) (aC (eV 4) (aC (eV 5) aN)))))) (eC (.str "\n")))))
  (b5 (mIf (tPv (bT (l2 pNe (l2 oA (eC (.str "\n")) (oE (bf [none,none] (λ η=>((aC (eV 14) (aC (eV 15) aN)) η).bind zpL) (tgT (bo (tgN 0) (bo (tgN 1) gO))) ci (l2 az (eV 0) (eV 1))))) (eV 7)))) (jU (mP (eC (.bool false)))) mNx)
  (b5 (gQ 16 (mP (lA gI (aC (eV 1) (aC (eC (.int 3)) (aC (l1 Cw (eC (.int 2))) aN))))))
  (jU (mP (l2 pEq (lA dc (aC (eV 16) (aC (l2 az (eV 2) (eC (.int 3))) (aC (l2 kQ (eV 3) (eC (.int 2))) (aC (l2 az (eV 4) (eC (.int 3))) (aC (l2 kQ (eV 5) (eC (.int 2))) aN)))))) (eV 7)))))))))))))))))))))))))
include tx am av bF cc ij lv kY pW d9 fW i4 ml eQ jz i8 mn cr eP nQ qF io lz ik lw in
theorem Be:FnOk Pr w K mg base CX0 (k+1) t.lF t.lC ["_law_script"] (spM K (cl t) (iH 1 17 (tN gH aj j0 dc h9 d7 ib cb bz lB gM gI))) :=
 fnM tx.nR cm λ _ _ _ _ _ _ hr =>
  (@aJ _ _ _ _ _ _ (fZ 1 cm.nd (aG λ _=>(aq ij hr lv tx.rM tx.ce.kp tx.rR (ac (al 0) (ac au ag)))))
  (@aJ _ _ _ _ _ _ (MS.par 2 3 cm.nd (aA (aG λ _=>(E.sub (aq am hr av tx.aH tx.af.kp tx.aI (ac (al 0) (ac au (ac au ag)))) au)) (aA (aG λ _=>(E.sub (aq am hr av tx.aH tx.af.kp tx.aI (ac (al 0) (ac au (ac au ag)))) au)) eN)))
  (@aJ _ _ _ _ _ _ (MS.par 4 5 cm.nd (aA (aG λ _=>(bq (bq (al 2) au) (aq am hr av tx.aH tx.af.kp tx.aI (ac (al 0) (ac au (ac au ag)))))) (aA (aG λ _=>(bq (bq (al 3) au) (aq am hr av tx.aH tx.af.kp tx.aI (ac (al 0) (ac au (ac au ag)))))) eN)))
  (@aJ _ _ _ _ _ _ (fZ 6 cm.nd (aG λ _=>(aq kY hr pW tx.xz tx.eY.kp tx.ym (ac (al 1) (ac (al 2) (ac (al 3) (ac (al 4) (ac (al 5) ag))))))))
  (@aJ _ _ _ _ _ _ (fZ 7 cm.nd (aG λ _=>(aq d9 hr fW tx.iS tx.bm.kp tx.iY (ac (al 1) (ac (al 2) (ac (al 3) (ac (al 4) (ac (al 5) ag))))))))
  (@aJ _ _ _ _ _ _ (@jj _ _ _ _ _ _ _ _ _ (MT.pu λ _=>(T.ne hr (bq (E.sum rfl tx.z_sum (ac (cw (fK (N':=["_law_name", "_law_many"]) (mp:=[none,none]) rfl (a9 nP (ah lp) rfl rfl (by decide +kernel)) (TgP.tup (n:=2) (TgsP.cons (aF (i:=0)) (TgsP.cons (aF (i:=1)) TgsP.nil)) (o7)) (by decide) (I.list (al 6)) (λ _ _ _=>⟨(sR (n:=2) rfl (gX (aU (i:=0) (show (["_law_name", "_law_many"]:List Str).Nodup by decide +kernel) rfl (Or.inl rfl) (.inr rfl)) (gX (aU (i:=1) (show (["_law_name", "_law_many"]:List Str).Nodup by decide +kernel) rfl (Or.inl rfl) (.inr rfl)) pC))),Ts.nil,(al 1)⟩))) ag)) (E.countS (al 7) eZ)) (E.mul (E.sub (al 4) (al 2)) (E.sub (al 5) (al 3))))) (@bw _ _ _ _ (ji (aG λ _=>E.bl))) MSs.nil)
  (@aJ _ _ _ _ _ _ (@jj _ _ _ _ _ _ _ _ _ (MT.pu λ _=>(T.ne hr (cw (fK (N':=["_law_name", "_law_many", "_law_scene_here"]) (mp:=[none,none,some 1]) rfl (a9 nP (ah lp) rfl rfl (by decide +kernel)) (TgP.tup (n:=2) (TgsP.cons (aF (i:=0)) (TgsP.cons (aF (i:=1)) TgsP.nil)) (o7)) (by decide) (I.list (al 6)) (λ _ _ _=>⟨(sR (n:=2) rfl (gX (aU (i:=0) (show (["_law_name", "_law_many", "_law_scene_here"]:List Str).Nodup by decide +kernel) rfl (Or.inl rfl) (.inr rfl)) (gX (aU (i:=1) (show (["_law_name", "_law_many", "_law_scene_here"]:List Str).Nodup by decide +kernel) rfl (Or.inl rfl) (.inr rfl)) pC))),(Ts.one (T.not (T.chain Af (qb λ _ _ _=>ef) CB (qb λ _ _ _=>ef) au (al 1) (aq i4 hr ml tx.tq tx.bP.kp tx.t5 (ac (al 2) (ac (al 0) ag)))))),(al 0)⟩))) (cw (f6 ag)))) (@bw _ _ _ _ (ji (aG λ _=>E.bl))) MSs.nil)
  (@aJ _ _ _ _ _ _ (fZ 8 cm.nd (ME.make (kc:=0) tx.cl_Plan tx.mk_Plan eQ hr jz tx.mg_Plan tx.ol (aA (aG λ _=>(al 1)) eN)))
  (@aJ _ _ _ _ _ _ (fZ 9 cm.nd (aG λ _=>(bq au (aq am hr av tx.aH tx.af.kp tx.aI (ac (al 0) (ac au (ac au ag)))))))
  (@aJ _ _ _ _ _ _ (@MS.for _ _ _ _ _ _ _ _ _ _ _ L3 rfl (MI.pu λ _=>(I.rng1 tx.z_range (ac (al 9) ag))) (aU (i:=10) cm.nd rfl (by first | exact Or.inl rfl | exact Or.inr rfl) ) (aF (i:=10))
  (@bw _ _ _ _ (iB (ME.call i8 hr mn tx.tw tx.bQ.kp tx.t7 (aA (aG λ _=>(al 0)) (aA (aG λ _=>(bq au (E.mul au (al 10)))) (aA (iZ 8) eN)))))) (λ _=>rfl))
  (@aJ _ _ _ _ _ _ (fZ 11 cm.nd (ME.callP cr hr eP tx.ir tx.aS.kp tx.iz (aA (aG λ _=>(al 1)) (aA (ME.meth0 (kc:=0) (iZ 8) tx.cl_Plan tx.dZ bF hr cc tx.eU) (aA (aG λ _=>(al 2)) (aA (aG λ _=>(al 3)) (aA (aG λ _=>(al 4)) (aA (aG λ _=>(al 5)) eN))))))))
  (@aJ _ _ _ _ _ _ (@jj _ _ _ _ _ _ _ _ _ (MT.ne hr (ME.callP cr hr eP tx.ir tx.aS.kp tx.iz (aA (ME.meth0 (kc:=0) (iZ 8) tx.cl_Plan tx.dZ bF hr cc tx.eU) (aA (aG λ _=>(al 1)) (aA (aG λ _=>(al 2)) (aA (aG λ _=>(al 3)) (aA (aG λ _=>(al 4)) (aA (aG λ _=>(al 5)) eN))))))) (aG λ _=>(al 11))) (@bw _ _ _ _ (ji (aG λ _=>E.bl))) MSs.nil)
  (@aJ _ _ _ _ _ _ (@jj _ _ _ _ _ _ _ _ _ (MT.ne hr (ME.lcomp (N':=["_law_point", "_law_scene_here", "_law_plan"]) (mp:=[none,some 1,some 8]) rfl (a9 nP (ah lp) rfl rfl (by decide +kernel)) (aF (i:=0)) (by decide) (MI.pu λ _=>(I.list (al 11))) (λ _ _ _=>⟨(aU (i:=0) (show (["_law_point", "_law_scene_here", "_law_plan"]:List Str).Nodup by decide +kernel) rfl (Or.inl rfl) (.inr rfl)),(MTs.one (MT.eq hr (aG λ _=>(aq nQ hr qF tx.xC tx.hG.kp tx.yp (ac (al 1) (ac (cu (al 0) au) (ac (cu (al 0) au) ag))))) (ME.callP nQ hr qF tx.xC tx.hG.kp tx.yp (aA (ME.meth0 (kc:=0) (iZ 2) tx.cl_Plan tx.dZ bF hr cc tx.eU) (aA (aG λ _=>(cu (al 0) au)) (aA (aG λ _=>(cu (al 0) au)) eN)))))),(aG λ _=>(al 0))⟩)) (aG λ _=>(cw (f6 ag)))) (@bw _ _ _ _ (ji (aG λ _=>E.bl))) MSs.nil)
  (@aJ _ _ _ _ _ _ (@jj _ _ _ _ _ _ _ _ _ (MTW.t (MTW.and (MT.pu λ _=>(qI hr (al 11) (cw (f6 ag)))) (MTW.and1 (MT.ne hr (ME.callP d9 hr fW tx.iS tx.bm.kp tx.iY (aA (ME.meth0 (kc:=0) (iZ 8) tx.cl_Plan tx.dZ bF hr cc tx.eU) (aA (aG λ _=>(al 2)) (aA (aG λ _=>(al 3)) (aA (aG λ _=>(al 4)) (aA (aG λ _=>(al 5)) eN)))))) (aG λ _=>(al 7)))))) (@bw _ _ _ _ (ji (aG λ _=>E.bl))) MSs.nil)
  (@aJ _ _ _ _ _ _ (@MS.for _ _ _ _ _ _ _ _ _ _ _ L3 rfl (MI.pu λ _=>(I.rng1 tx.z_range (ac (al 9) ag))) (aU (i:=12) cm.nd rfl (by first | exact Or.inl rfl | exact Or.inr rfl) ) (aF (i:=12))
  (@bw _ _ _ _ (iB (ME.meth0 (kc:=0) (iZ 8) tx.cl_Plan tx.qB io hr lz tx.rW))) (λ _=>rfl))
  (@aJ _ _ _ _ _ _ (@jj _ _ _ _ _ _ _ _ _ (MT.ne hr (ME.callP cr hr eP tx.ir tx.aS.kp tx.iz (aA (ME.meth0 (kc:=0) (iZ 8) tx.cl_Plan tx.dZ bF hr cc tx.eU) (aA (aG λ _=>(al 1)) (aA (aG λ _=>(al 2)) (aA (aG λ _=>(al 3)) (aA (aG λ _=>(al 4)) (aA (aG λ _=>(al 5)) eN))))))) (aG λ _=>(cw (f6 ag)))) (@bw _ _ _ _ (ji (aG λ _=>E.bl))) MSs.nil)
  (@aJ _ _ _ _ _ _ (fZ 13 cm.nd (aG λ _=>(bq (al 2) (aq am hr av tx.aH tx.af.kp tx.aI (ac (al 0) (ac au (ac (bq (E.sub (al 4) (al 2)) au) ag)))))))
  (@aJ _ _ _ _ _ _ (fZ 14 cm.nd (aG λ _=>(E.split (aq d9 hr fW tx.iS tx.bm.kp tx.iY (ac (al 1) (ac (al 2) (ac (al 3) (ac (al 13) (ac (al 5) ag)))))) eZ)))
  (@aJ _ _ _ _ _ _ (fZ 15 cm.nd (aG λ _=>(E.split (aq d9 hr fW tx.iS tx.bm.kp tx.iY (ac (al 1) (ac (al 13) (ac (al 3) (ac (al 4) (ac (al 5) ag)))))) eZ)))
  (@aJ _ _ _ _ _ _ (@jj _ _ _ _ _ _ _ _ _ (MT.pu λ _=>(T.ne hr (E.join eZ (cw (fK (N':=["_law_one", "_law_other"]) (mp:=[none,none]) rfl (a9 nP (ah lp) rfl rfl (by decide +kernel)) (TgP.tup (n:=2) (TgsP.cons (aF (i:=0)) (TgsP.cons (aF (i:=1)) TgsP.nil)) (o7)) (by decide) (I.zip tx.z_zip (ac (al 14) (ac (al 15) ag))) (λ _ _ _=>⟨(sR (n:=2) rfl (gX (aU (i:=0) (show (["_law_one", "_law_other"]:List Str).Nodup by decide +kernel) rfl (Or.inl rfl) (.inr rfl)) (gX (aU (i:=1) (show (["_law_one", "_law_other"]:List Str).Nodup by decide +kernel) rfl (Or.inl rfl) (.inr rfl)) pC))),Ts.nil,(bq (al 0) (al 1))⟩)))) (al 7))) (@bw _ _ _ _ (ji (aG λ _=>E.bl))) MSs.nil)
  (@aJ _ _ _ _ _ _ (fZ 16 cm.nd (aG λ _=>(aq ik hr lw tx.rN tx.cf.kp tx.rS (ac (al 1) (ac au (ac (E.neg au) ag))))))
  (@bw _ _ _ _ (ji (aG λ _=>(E.eq hr (aq d9 hr fW tx.iS tx.bm.kp tx.iY (ac (al 16) (ac (bq (al 2) au) (ac (E.sub (al 3) au) (ac (bq (al 4) au) (ac (E.sub (al 5) au) ag)))))) (al 7))))))))))))))))))))))))))
end
noncomputable def bR:PFn:=bv 2 2 (iV )
theorem i9 (tx:Tx K mg t):FnOk Pr w K mg base CX0 1 t.dM t.dC gh (spP K bR):=rF (k:=0) tx 
noncomputable def af:PFn:=bv 3 4 (h8 bR)
theorem am (tx:Tx K mg t):FnOk Pr w K mg base CX0 2 t.cN t.cE fP (spP K af):=qt (k:=1) tx (i9 tx) (by omega)
noncomputable def ce:PFn:=bv 2 13 (hZ af)
theorem ij (tx:Tx K mg t):FnOk Pr w K mg base CX0 3 t.cL t.cC fN (spP K ce):=qp (k:=2) tx (am tx) (by omega)
noncomputable def bn:PFn:=bv 2 2 (jl )
theorem eO (tx:Tx K mg t):FnOk Pr w K mg base CX0 1 t.eM t.eE g7 (spP K bn):=tf (k:=0) tx 
noncomputable def ak:PFn:=bv 2 3 (kX )
theorem aK (tx:Tx K mg t):FnOk Pr w K mg base CX0 1 t.gB t.gu jy (spP K ak):=vZ (k:=0) tx 
noncomputable def aO:Nat->PFn
 | 0=>λ _=>none
 | n+1=>bv 2 4 (lU ak bn (aO n))
theorem bL (tx:Tx K mg t):∀ n:Nat,FnOk Pr w K mg base CX0 (n+1) t.iA t.iy ki (spP K (aO n))
 | 0=>fn0
 | n+1=>(xo (k:=n+1) tx (aK tx) (by omega) (eO tx) (by omega) (bL tx n) (by omega)).mono (by omega)
noncomputable def cv:PFn:=bv 1 3 (jY bn (aO 13))
theorem j8 (tx:Tx K mg t):FnOk Pr w K mg base CX0 15 t.fE t.fm iO (spP K cv):=uv (k:=14) tx (eO tx) (by omega) (bL tx 13) (by omega)
noncomputable def aM:Nat->PFn
 | 0=>λ _=>none
 | n+1=>bv 2 3 (jX ak (aM n))
theorem bH (tx:Tx K mg t):∀ n:Nat,FnOk Pr w K mg base CX0 (n+1) t.fC t.fk iN (spP K (aM n))
 | 0=>fn0
 | n+1=>(uu (k:=n+1) tx (aK tx) (by omega) (bH tx n) (by omega)).mono (by omega)
noncomputable def a5:PFn:=bv 3 3 (lh ak)
theorem b7 (tx:Tx K mg t):FnOk Pr w K mg base CX0 2 t.eJ t.eB g0 (spP K a5):=sY (k:=1) tx (aK tx) (by omega)
noncomputable def dh:PFn:=bv 2 2 (lg (aM 13) a5)
theorem js (tx:Tx K mg t):FnOk Pr w K mg base CX0 15 t.eI t.eA gZ (spP K dh):=sX (k:=14) tx (bH tx 13) (by omega) (b7 tx) (by omega)
noncomputable def bS:PFn:=bv 2 6 (jZ (aM 13) ak)
theorem i7 (tx:Tx K mg t):FnOk Pr w K mg base CX0 15 t.fJ t.fu iR (spP K bS):=uy (k:=14) tx (aK tx) (by omega) (bH tx 13) (by omega)
noncomputable def c6:PFn:=bv 2 4 (lS )
theorem j9 (tx:Tx K mg t):FnOk Pr w K mg base CX0 1 t.fG t.fo iP (spP K c6):=uw (k:=0) tx 
noncomputable def bG:PFn:=bv 2 4 (kr bS (aM 13) a5 c6)
theorem dQ (tx:Tx K mg t):FnOk Pr w K mg base CX0 16 t.dH t.du f9 (spP K bG):=rB (k:=15) tx (bH tx 13) (by omega) (b7 tx) (by omega) (i7 tx) (by omega) (j9 tx) (by omega)
noncomputable def ba:PFn:=bv 1 2 (nE cv dh a5 bG)
theorem bu (tx:Tx K mg t):FnOk Pr w K mg base CX0 17 t.gw t.gl jt (spP K ba):=vU (k:=16) tx (b7 tx) (by omega) (j8 tx) (by omega) (js tx) (by omega) (dQ tx) (by omega)
noncomputable def bp:PFn:=bv 3 3 (ky )
theorem i5 (tx:Tx K mg t):FnOk Pr w K mg base CX0 1 t.dJ t.dA gd (spP K bp):=rD (k:=0) tx 
noncomputable def ao:PFn:=bv 3 5 (g8 bp)
theorem a7 (tx:Tx K mg t):FnOk Pr w K mg base CX0 2 t.eL t.eD g6 (spP K ao):=sZ (k:=1) tx (i5 tx) (by omega)
noncomputable def eY:PFn:=bv 5 10 (nF ba ao)
theorem kY (tx:Tx K mg t):FnOk Pr w K mg base CX0 18 t.gx t.gm ju (spP K eY):=vV (k:=17) tx (bu tx) (by omega) (a7 tx) (by omega)
noncomputable def ee:PFn:=bv 1 1 (pZ )
theorem j7 (tx:Tx K mg t):FnOk Pr w K mg base CX0 1 t.fA t.fg iL (spP K ee):=ur (k:=0) tx 
noncomputable def bm:PFn:=bv 5 9 (lR ba ao ee)
theorem d9 (tx:Tx K mg t):FnOk Pr w K mg base CX0 18 t.fB t.fj iM (spP K bm):=ut (k:=17) tx (bu tx) (by omega) (a7 tx) (by omega) (j7 tx) (by omega)
noncomputable def bP:PFn:=bv 2 6 (ku bG ba ao)
theorem i4 (tx:Tx K mg t):FnOk Pr w K mg base CX0 18 t.dI t.dz gb (spP K bP):=rC (k:=17) tx (dQ tx) (by omega) (bu tx) (by omega) (a7 tx) (by omega)
noncomputable def bM:DFn:=iH 2 2 (gS )
theorem eQ (tx:Tx K mg t):FnOk Pr w K mg base CX0 1 t.bK t.bJ cX (spM K (cl t) bM):=mY (k:=0) tx 
noncomputable def aZ:DFn:=iH 1 1 (kB )
theorem bF (tx:Tx K mg t):FnOk Pr w K mg base CX0 1 t.dO t.dE gj (spM K (cl t) aZ):=rH (k:=0) tx 
noncomputable def aP:DFn:=iH 3 3 (iw )
theorem aB (tx:Tx K mg t):FnOk Pr w K mg base CX0 1 t.bX t.bV dq (spM K (cl t) aP):=oi (k:=0) tx 
noncomputable def dR:PFn:=bv 2 3 (p0 (aO 13))
theorem kO (tx:Tx K mg t):FnOk Pr w K mg base CX0 15 t.kK t.kG mU (spP K dR):=Bg (k:=14) tx (bL tx 13) (by omega)
noncomputable def cg:DFn:=iH 2 3 (jH (aO 13) aP dR)
theorem fU (tx:Tx K mg t):FnOk Pr w K mg base CX0 16 t.cO t.cG fQ (spM K (cl t) cg):=qu (k:=15) tx (bL tx 13) (by omega) (aB tx) (by omega) (kO tx) (by omega)
noncomputable def df:PFn:=bv 2 3 (kU (aO 13) dR)
theorem kZ (tx:Tx K mg t):FnOk Pr w K mg base CX0 16 t.gy t.gn jv (spP K df):=vW (k:=15) tx (bL tx 13) (by omega) (kO tx) (by omega)
noncomputable def cV:DFn:=iH 2 2 (jJ aP df)
theorem im (tx:Tx K mg t):FnOk Pr w K mg base CX0 17 t.cQ t.cI fS (spM K (cl t) cV):=qw (k:=16) tx (aB tx) (by omega) (kZ tx) (by omega)
noncomputable def a8:PFn:=bv 2 2 (hX )
theorem cS (tx:Tx K mg t):FnOk Pr w K mg base CX0 1 t.cK t.cB fM (spP K a8):=qo (k:=0) tx 
noncomputable def dg:PFn:=bv 3 4 (kW ak a8)
theorem k3 (tx:Tx K mg t):FnOk Pr w K mg base CX0 2 t.gA t.gq jx (spP K dg):=vY (k:=1) tx (aK tx) (by omega) (cS tx) (by omega)
noncomputable def cU:DFn:=iH 3 4 (jI ak aP dg)
theorem il (tx:Tx K mg t):FnOk Pr w K mg base CX0 3 t.cP t.cH fR (spM K (cl t) cU):=qv (k:=2) tx (aK tx) (by omega) (aB tx) (by omega) (k3 tx) (by omega)
noncomputable def b4:PFn:=bv 4 5 (nG ak a8)
theorem gD (tx:Tx K mg t):FnOk Pr w K mg base CX0 2 t.gz t.gp jw (spP K b4):=vX (k:=1) tx (aK tx) (by omega) (cS tx) (by omega)
noncomputable def dU:DFn:=iH 4 5 (kC ak aP b4)
theorem jb (tx:Tx K mg t):FnOk Pr w K mg base CX0 3 t.dP t.dF gk (spM K (cl t) dU):=rJ (k:=2) tx (aK tx) (by omega) (aB tx) (by omega) (gD tx) (by omega)
noncomputable def c7:PFn:=bv 2 2 (lT )
theorem i6 (tx:Tx K mg t):FnOk Pr w K mg base CX0 1 t.fI t.fq iQ (spP K c7):=ux (k:=0) tx 
noncomputable def de:PFn:=bv 2 4 (lf c7)
theorem jr (tx:Tx K mg t):FnOk Pr w K mg base CX0 2 t.eG t.el gY (spP K de):=sW (k:=1) tx (i6 tx) (by omega)
noncomputable def dS:DFn:=iH 2 2 (kA aP de)
theorem ja (tx:Tx K mg t):FnOk Pr w K mg base CX0 3 t.dN t.dD gi (spM K (cl t) dS):=rG (k:=2) tx (aB tx) (by omega) (jr tx) (by omega)
noncomputable def bQ:DFn:=iH 3 8 (kz aZ af cg cV cU dU dS)
theorem i8 (tx:Tx K mg t):FnOk Pr w K mg base CX0 18 t.dL t.dB gf (spM K (cl t) bQ):=rE (k:=17) tx (am tx) (by omega) (bF tx) (by omega) (fU tx) (by omega) (im tx) (by omega) (il tx) (by omega) (jb tx) (by omega) (ja tx) (by omega)
noncomputable def aS:PFn:=bv 6 10 (iu ba ao)
theorem cr (tx:Tx K mg t):FnOk Pr w K mg base CX0 18 t.bW t.bU dm (spP K aS):=oh (k:=17) tx (bu tx) (by omega) (a7 tx) (by omega)
noncomputable def hG:PFn:=bv 3 3 (tQ ba ao)
theorem nQ (tx:Tx K mg t):FnOk Pr w K mg base CX0 18 t.kJ t.kF mT (spP K hG):=Bf (k:=17) tx (bu tx) (by omega) (a7 tx) (by omega)
noncomputable def bA:DFn:=iH 1 2 (jK )
theorem io (tx:Tx K mg t):FnOk Pr w K mg base CX0 1 t.cR t.cJ fT (spM K (cl t) bA):=qx (k:=0) tx 
noncomputable def cf:PFn:=bv 3 5 (jG b4)
theorem ik (tx:Tx K mg t):FnOk Pr w K mg base CX0 3 t.cM t.cD fO (spP K cf):=qr (k:=2) tx (gD tx) (by omega)
noncomputable def nR:DFn:=iH 1 17 (tN ce af eY bm bP bM bQ aS aZ hG bA cf)
theorem DZ (tx:Tx K mg t):FnOk Pr w K mg base CX0 19 t.lF t.lC ["_law_script"] (spM K (cl t) nR):=Be (k:=18) tx (am tx) (by omega) (bF tx) (by omega) (ij tx) (by omega) (kY tx) (by omega) (d9 tx) (by omega) (i4 tx) (by omega) (eQ tx) (by omega) (i8 tx) (by omega) (cr tx) (by omega) (nQ tx) (by omega) (io tx) (by omega) (ik tx) (by omega)
end
end K56
namespace K56
noncomputable def chN (st:List (Nat×Nat)) (q:Nat):List Nat:=(st.filter λ x=>decide (x.2=q)).map (·.1)
noncomputable def og:List (Nat×Nat)->Nat->Option Nat
 | [],_=>none
 | x::r,q=>if x.1=q then some x.2 else og r q
noncomputable def zn (f:Nat->Option (List Nat)):List Nat->Option (List Nat)
 | []=>some []
 | x::r=>(f x).bind λ a=>(zn f r).bind λ b=>some (a++b)
noncomputable def xf (st:List (Nat×Nat)):Nat->Nat->Option (List Nat)
 | 0,_=>none
 | n+1,q=>(og st q).bind λ p=>if p=0 then some [q] else (xf st n p).bind λ l=>if l.length+1<=3000000 then some (l++[q]) else none
noncomputable def wy (st:List (Nat×Nat)):Nat->Nat->Option (List Nat)
 | 0,_=>none
 | n+1,q=>(og st q).bind λ _=>(zn (wy st n) (chN st q)).bind λ r=>if r.length+1<=3000000 then some (q::r) else none
noncomputable def Ch (st:List (Nat×Nat)):Option (List Nat):=(zn (wy st 13) (chN st 0)).bind λ r=>if r.length<=3000000 then some r else none
noncomputable def stF (ps:List Nat):List (Nat×Nat):=(List.range ps.length).map λ i=>(i+1,ps.getD i 0)
noncomputable def par (ps:List Nat) (q:Nat):Nat:=ps.getD (q - 1) 0
structure uc (ps:List Nat):Prop where
 len:ps.length<=12
 par:∀ i,ps.getD i 0<=i
noncomputable def pF (ps:List Nat):Nat->Nat->List Nat
 | 0,_=>[]
 | n+1,q=>if q=0 then [] else pF ps n (par ps q)++[q]
noncomputable def P (ps:List Nat) (q:Nat):List Nat:=pF ps q q
noncomputable def blF (st:List (Nat×Nat)):Nat->Nat->List Nat
 | 0,_=>[]
 | n+1,q=>q::(chN st q).flatMap (blF st n)
noncomputable def kids (st:List (Nat×Nat)) (n a:Nat):List Nat:=(chN st a).flatMap (blF st n)
theorem oZ {α β:Type} {f g:α->List β}:∀ {l:List α},(∀ x∈l,f x=g x)->l.flatMap f=l.flatMap g
 | [],_=>rfl
 | x::r,h=>by
  rw [Mq,Mq,h x Lc,oZ λ y hy=>h y (La _ hy)]
theorem p6 {α β:Type} {f:α->List β}:∀ {l:List α},(∀ x∈l,f x=[])->l.flatMap f=[]
 | [],_=>rfl
 | x::r,h=>by
  rw [Mq,h x Lc,p6 λ y hy=>h y (La _ hy)]; rfl
section
variable {ps:List Nat} (ok:uc ps)
theorem vQ (n:Nat):pF ps n 0=[]:=by
 cases n with
 | zero=>rfl
 | succ n=>rfl
theorem iK (ok:uc ps) {q:Nat} (h:1<=q):par ps q < q:=by
 have:=ok.par (q - 1)
 unfold par;omega
include ok
theorem FM:∀ q n,q<=n->pF ps n q=pF ps q q:=by
 intro q
 induction q using MG with
 | _ q ih =>
  intro n hn;cases q with
  | zero=>rw [vQ,vQ]
  | succ j =>
   cases n with
   | zero=>omega
   | succ m =>
    have hp:=iK ok (q:=j+1) (by omega);unfold pF;rw [if_neg (by omega),if_neg (by omega),ih _ hp m (by omega),ih _ hp j (by omega)]
theorem gC {q:Nat} (h:1<=q):P ps q=P ps (par ps q)++[q]:=by
 obtain ⟨j,rfl⟩:∃ j,q=j+1:=⟨q - 1,by omega⟩;have hp:=iK ok (q:=j+1) h;unfold P;rw [pF,if_neg (by omega),FM ok _ j (by omega)]
omit ok in
theorem qJ:P ps 0=[]:=rfl
omit ok in
theorem yY:∀ n q,(pF ps n q).length<=n
 | 0,_=>by simp [pF]
 | n+1,q=>by
  have:=yY n (par ps q)
  unfold pF
  split
  ·simp
  ·simp; omega
omit ok in
theorem qh {x:Nat×Nat} (h:x∈stF ps):1<=x.1/\x.1<=ps.length/\x.2=par ps x.1:=by
 obtain ⟨i,hi,rfl⟩:=LI.mp h
 have:=Mg.mp hi
 refine ⟨by simp,by show i+1<=_; omega,?_⟩;show _=ps.getD (i+1 - 1) 0;rfl
omit ok in
theorem y2 {q:Nat} (h1:1<=q) (h2:q<=ps.length):(q,par ps q)∈stF ps:=by
 refine LI.mpr ⟨q - 1,Mg.mpr (by omega),?_⟩;unfold par;rw [show q - 1+1=q by omega]
omit ok in
theorem z6 {q p:Nat}:∀ {st:List (Nat×Nat)},(∀ y∈st,y.1=q->y.2=p)->(q,p)∈st->og st q=some p
 | x::r,hu,hm=>by
  unfold og;by_cases e:x.1=q
  ·rw [if_pos e,hu x Lc e]
  ·rw [if_neg e];rcases LA.mp hm with z | z
   ·exact absurd (by rw [<- z]) e
   ·exact z6 (λ y hy=>hu y (La _ hy)) z
omit ok in
theorem nY {q:Nat} (h1:1<=q) (h2:q<=ps.length):og (stF ps) q=some (par ps q) :=
 z6 (λ y hy e=>by rw [(qh hy).2.2,e]) (y2 h1 h2)
theorem zU:∀ n q,n<=13->1<=q->q<=ps.length->q<=n->xf (stF ps) n q=some (pF ps n q)
 | 0,q,_,h1,_,h3=>by omega
 | n+1,q,hn,h1,h2,h3=>by
  have hp:=iK ok h1;unfold xf pF;rw [nY h1 h2,K8,if_neg (show ¬ q=0 by omega)];by_cases e:par ps q=0
  ·rw [if_pos e,e,vQ]; rfl
  ·rw [if_neg e,zU n _ (by omega) (by omega) (by omega) (by omega),K8]
   have:=yY (ps:=ps) n (par ps q)
   rw [if_pos (by omega)]
theorem EG {q:Nat} (h1:1<=q) (h2:q<=ps.length):xf (stF ps) 13 q=some (P ps q):=by
 have:=ok.len
 rw [zU ok 13 q (by omega) h1 h2 (by omega),FM ok q 13 (by omega)]; rfl
theorem eF {a x:Nat} (h:x∈chN (stF ps) a):1<=x/\x<=ps.length/\par ps x=a/\a < x:=by
 obtain ⟨y,hy,rfl⟩:=LI.mp h;obtain ⟨h1,h2⟩:=LZ.mp hy;have h3:=qh h1;have h4:=iK ok h3.1;have h5:y.2=a:=by simpa using h2
 exact ⟨h3.1,h3.2.1,by rw [<- h3.2.2,h5],by rw [<- h5,h3.2.2]; exact h4⟩
omit ok in
theorem CQ {x:Nat} (h1:1<=x) (h2:x<=ps.length):x∈chN (stF ps) (par ps x) :=
 LI.mpr ⟨(x,par ps x),LZ.mpr ⟨y2 h1 h2,by simp⟩,rfl⟩
omit ok in
theorem Ii:(stF ps).Pairwise (λ a b=>a.1 < b.1):=by
 unfold stF;rw [MD];exact List.Pairwise.imp (λ h=>by show _+1 < _+1; omega) MZ
omit ok in
theorem FW (a:Nat):(chN (stF ps) a).Pairwise (· < ·):=by
 unfold chN;rw [MD];exact List.Pairwise.filter _ Ii
omit ok in
theorem wv {f:Nat->Option (List Nat)} {g:Nat->List Nat}:∀ {xs:List Nat},(∀ x∈xs,f x=some (g x))->zn f xs=some (xs.flatMap g)
 | [],_=>rfl
 | x::r,h=>by
  unfold zn;rw [h x Lc,K8,wv λ y hy=>h y (La _ hy)]
  simp
omit ok in
theorem tU {n:Nat} {f:Nat->List Nat}:∀ (l:List Nat) (s:Nat),l.Pairwise (· < ·)->(∀ x∈l,s < x/\x<=n)->(∀ x∈l,(f x).length<=2 ^ (n - x))->(l.flatMap f).length+1<=2 ^ (n - s)
 | [],s,_,_,_=>Nat.one_le_two_pow
 | x::r,s,hp,hs,hf=>by
  obtain ⟨p1,p2⟩:=List.pairwise_cons.mp hp;have ih:=tU r x p2 (λ y hy=>⟨p1 y hy,(hs y (La _ hy)).2⟩) λ y hy=>hf y (La _ hy);have h1:=hf x Lc;have h2:=hs x Lc;rw [Mq,Lm];have h3:2 ^ (n - x)+2 ^ (n - x)=2 ^ (n - x+1):=by rw [Nat.pow_succ]; omega
  have h4:2 ^ (n - x+1)<=2 ^ (n - s):=NH (by decide) (by omega);omega
theorem wz:∀ m q,1<=q->q<=ps.length->(blF (stF ps) m q).length<=2 ^ (ps.length - q)
 | 0,q,_,_=>Ml _
 | m+1,q,h1,h2=>by
  unfold blF;rw [Lu];exact tU _ q (FW q) (λ x hx=>⟨(eF ok hx).2.2.2,(eF ok hx).2.1⟩) λ x hx=>wz m x (eF ok hx).1 (eF ok hx).2.1
theorem Ex {q:Nat} (h1:1<=q):2 ^ (ps.length - q)<=4096:=by
 have:=ok.len
 exact LS (NH (by decide) (show ps.length - q<=12 by omega)) (by decide)
theorem wx:∀ n q,1<=q->q<=ps.length->ps.length < n+q->wy (stF ps) n q=some (blF (stF ps) n q)
 | 0,q,_,h2,h3=>by omega
 | n+1,q,h1,h2,h3=>by
  have hl:=wz ok (n+1) q h1 h2;unfold blF at hl;rw [Lu] at hl;have hp:=Ex ok h1;unfold wy blF;rw [nY h1 h2,K8,wv (g:=blF (stF ps) n) λ x hx=>wx n x (eF ok hx).1 (eF ok hx).2.1 (by have:=eF ok hx; omega),K8,if_pos (by omega)]
theorem u0:(kids (stF ps) 13 0).length<=4096:=by
 have:=tU (n:=ps.length) (f:=blF (stF ps) 13) (chN (stF ps) 0) 0 (FW 0) (λ x hx=>⟨(eF ok hx).1,(eF ok hx).2.1⟩) λ x hx=>wz ok 13 x (eF ok hx).1 (eF ok hx).2.1
 have h2:2 ^ (ps.length - 0)<=4096:=LS (NH (by decide) (show ps.length - 0<=12 by have:=ok.len; omega)) (by decide);unfold kids;omega
theorem Dd:(kids (stF ps) 13 0).length<=3000000:=LS (u0 ok) (by decide)
theorem GF:Ch (stF ps)=some (kids (stF ps) 13 0):=by
 have:=ok.len
 have hl:=Dd ok;unfold kids at hl;unfold Ch;rw [wv (g:=blF (stF ps) 13) λ x hx=>wx ok 13 x (eF ok hx).1 (eF ok hx).2.1 (by have:=eF ok hx; omega),K8,if_pos hl];rfl
theorem xM {x n a:Nat} (h:x∈kids (stF ps) n a):1<=x/\x<=ps.length:=by
 induction n generalizing a x with
 | zero =>
  obtain ⟨y,_,hy⟩:=Mi.mp h;cases hy
 | succ n ih =>
  obtain ⟨y,hy,hx⟩:=Mi.mp h;rcases LA.mp hx with rfl | z
  ·exact ⟨(eF ok hy).1,(eF ok hy).2.1⟩
  ·exact ih z
omit ok in
theorem Bm {q p:Nat} (hq:q∈chN (stF ps) p):∀ (m a:Nat),p∈kids (stF ps) m a->q∈kids (stF ps) (m+1) a:=by
 intro m
 induction m with
 | zero =>
  intro a h;obtain ⟨y,_,hy⟩:=Mi.mp h;cases hy
 | succ m ih =>
  intro a h;obtain ⟨y,hy,hx⟩:=Mi.mp h;refine Mi.mpr ⟨y,hy,La _ ?_⟩;rcases LA.mp hx with rfl | z
  ·exact Mi.mpr ⟨q,hq,Lc⟩
  ·exact ih y z
theorem xy:∀ (n q:Nat),1<=q->q<=ps.length->q<=n->q∈kids (stF ps) n 0
 | 0,q,h1,_,h3=>by omega
 | n+1,q,h1,h2,h3=>by
  have hp:=iK ok h1;have hc:=CQ h1 h2;by_cases e:par ps q=0
  ·rw [e] at hc;exact Mi.mpr ⟨q,hc,Lc⟩
  ·exact Bm hc n 0 (xy n _ (by omega) (by omega) (by omega))
end
noncomputable abbrev Ar:=Int×Int×Int×Int
noncomputable abbrev Row:=Nat×Ar×List Ar
structure Geo where
 L:Nat->Int
 T:Nat->Int
 W:Nat->Int
 H:Nat->Int
 c:Nat->Bool
 h:Nat->Bool
 l:Nat->Bool
noncomputable def Geo.at (g:Geo) (l t:Int) (x:Nat):Ar:=(l+g.L x,t+g.T x,l+g.L x+g.W x,t+g.T x+g.H x)
section
variable (g:Geo) (ps:List Nat)
noncomputable def Geo.sL (q:Nat):Int:=((P ps q).map g.L).sum
noncomputable def Geo.sT (q:Nat):Int:=((P ps q).map g.T).sum
noncomputable def Geo.area (q:Nat):Ar:=(g.sL ps q,g.sT ps q,g.sL ps q+g.W q,g.sT ps q+g.H q)
noncomputable def Geo.cuts (a:Nat):List Ar:=((P ps a).filter g.c).map (g.area ps)
noncomputable def Geo.shown (q:Nat):Bool:=(P ps q).all λ x=>!g.h x
noncomputable def Geo.row (x:Nat):Row:=(x,g.area ps x,g.cuts ps (par ps x)++[g.area ps x])
end
section
variable {g:Geo} {ps:List Nat} (ok:uc ps)
include ok
theorem FJ {x:Nat} (h:1<=x):g.sL ps x=g.sL ps (par ps x)+g.L x:=by
 unfold Geo.sL;rw [gC ok h,LJ,List.sum_append]; simp
theorem FH {x:Nat} (h:1<=x):g.sT ps x=g.sT ps (par ps x)+g.T x:=by
 unfold Geo.sT;rw [gC ok h,LJ,List.sum_append]; simp
theorem Fk {x:Nat} (h:1<=x):g.cuts ps x=g.cuts ps (par ps x)++if g.c x=true then [g.area ps x] else []:=by
 unfold Geo.cuts;rw [gC ok h,List.filter_append,LJ]
 congr 1
 cases hc:g.c x <;> simp [hc]
end
noncomputable def lQ (a:Ar) (x y:Int):Bool:=decide (a.1<=x)&&decide (x < a.2.2.1)&&(decide (a.2.1<=y)&&decide (y < a.2.2.2))
noncomputable def ovl (a b:Ar):Ar:=(max a.1 b.1,max a.2.1 b.2.1,min a.2.2.1 b.2.2.1,min a.2.2.2 b.2.2.2)
theorem HC:∀ a b c d:Bool,((a&&b)&&(c&&d))=((a&&c)&&(b&&d)):=by decide
theorem Dj (a b:Ar) (x y:Int):lQ (ovl a b) x y=(lQ a x y&&lQ b x y):=by
 have h1:∀ p q r:Int,decide (max p q<=r)=(decide (p<=r)&&decide (q<=r)):=λ p q r=>by
  rw [MC,L4,decide_eq_true_eq,decide_eq_true_eq,decide_eq_true_eq];exact Int.max_le
 have h2:∀ p q r:Int,decide (r < min p q)=(decide (r < p)&&decide (r < q)):=λ p q r=>by
  rw [MC,L4,decide_eq_true_eq,decide_eq_true_eq,decide_eq_true_eq];exact Int.lt_min
 unfold lQ ovl;dsimp only;rw [h1,h1,h2,h2,HC (decide (a.1<=x)),HC (decide (a.2.1<=y)),HC]
noncomputable def vB (g:Geo) (ps:List Nat):List Nat->Ar->Ar
 | [],w=>w
 | s::r,w=>vB g ps r (if g.c s=true then ovl w (g.area ps s) else w)
noncomputable def Geo.wnd (g:Geo) (ps:List Nat) (q:Nat):Ar:=vB g ps (P ps q) (g.area ps q)
theorem wP (g:Geo) (ps:List Nat) (x y:Int):∀ l w,lQ (vB g ps l w) x y=(lQ w x y&&((l.filter g.c).map (g.area ps)).all λ a=>lQ a x y)
 | [],w=>by simp [vB]
 | s::r,w=>by
  unfold vB;rw [wP g ps x y r,M7];cases hc:g.c s with
  | false=>rfl
  | true =>
   rw [if_pos rfl,if_pos rfl,Dj,Ln,MO,Bool.and_assoc]
noncomputable def Geo.tch (g:Geo) (ps:List Nat) (x y:Int) (q:Nat):Bool:=(g.row ps q).2.2.all λ a=>lQ a x y
theorem zB {g:Geo} {ps:List Nat} (ok:uc ps) {q:Nat} (h:1<=q) (x y:Int):lQ (g.wnd ps q) x y=g.tch ps x y q:=by
 unfold Geo.wnd Geo.tch Geo.row;rw [wP];show (_&&(g.cuts ps q).all _)=_;rw [Fk ok h,List.all_append];dsimp only;rw [List.all_append];generalize (g.cuts ps (par ps q)).all (λ a=>lQ a x y)=u;cases g.c q
 ·simp [Bool.and_comm]
 ·cases h2:lQ (g.area ps q) x y <;> simp [h2]
noncomputable def Fl (st:List (Nat×Nat)) (q:Nat):Option (List (Nat×Nat)):=(wy st 13 q).bind λ g=>some (st.filter λ x=>!decide (x.1∈g))
noncomputable def Gu (st:List (Nat×Nat)) (q:Nat):Option (List (Nat×Nat)):=(wy st 13 q).bind λ g=>some (st.filter (λ x=>!decide (x.1∈g))++st.filter λ x=>decide (x.1∈g))
noncomputable abbrev In (ps:List Nat) (q:Nat):Prop:=1<=q/\q<=ps.length
theorem P_in' {ps:List Nat} (ok:uc ps) {x:Nat}:∀ q,In ps q->x∈P ps q->In ps x:=by
 intro q
 induction q using MG with
 | _ q ih =>
  intro hq hx;rw [gC ok hq.1] at hx;rcases LX.mp hx with z | z
  ·have hp:=iK ok hq.1;by_cases e:par ps q=0
   ·rw [e] at z;cases z
   ·exact ih _ hp ⟨by omega,by have:=hq.2; omega⟩ z
  ·have:x=q:=by simpa using z
   rw [this]; exact hq
noncomputable def xk (ps:List Nat):List Nat:=kids (stF ps) 13 0
theorem G7 {ps:List Nat} (ok:uc ps):(xk ps).length<=2000000:=LS (u0 ok) (by decide)
noncomputable def tkL (g:Geo) (ps pnt:List Nat):List Nat:=(pnt.reverse.filter (g.shown ps)).filter λ q=>!g.l q
noncomputable def kq (g:Geo) (ps pnt:List Nat) (x y:Int):List Nat:=(tkL g ps pnt).filter (g.tch ps x y)
end K56
namespace K56
open PySem L2 L2.PU
theorem fw {ι:Type} {t:En->K5->Option En} {p:En->Option Bool} {f:En->Option K5} {η:En} (D:ι->K5) (P:ι->Bool) (Y:ι->K5) :
  ∀ xs:List ι,(∀ x∈xs,∃ η1,t η (D x)=some η1/\p η1=some (P x)/\(P x=true->f η1=some (Y x)))->cGo t p f η (xs.map D)=some ((xs.filter P).map Y)
 | [],_=>rfl
 | x::r,h=>by
  obtain ⟨η1,h1,h2,h3⟩:=h x Lc;have ih:=fw D P Y r λ y hy=>h y (La _ hy);rw [Ln];unfold cGo;rw [h1,K8,h2,K8,ih,M7];cases hP:P x with
  | false=>rfl
  | true=>rw [if_pos rfl,h3 hP]; rfl
structure Sc where
 st:List (Nat×Nat)
 nm:Nat->Str
 L:Nat->Int
 T:Nat->Int
 W:Nat->Int
 H:Nat->Int
 mr:Nat->Str
structure Sc.Ok (c:Sc):Prop where
 inj:∀ a b,c.nm a=c.nm b->a=b
 top:c.nm 0 = ""
 ok:∀ a,Lq (c.nm a)=true
 okm:∀ a,Lq (c.mr a)=true
 len:c.st.length<=12
noncomputable def Sc.box (c:Sc) (x:Nat×Nat):K5:=.tuple [.str (c.nm x.1),.str (c.nm x.2),.int (c.L x.1),.int (c.T x.1),.int (c.W x.1),.int (c.H x.1),.str (c.mr x.1)]
noncomputable def Sc.d (c:Sc):K5:=.tuple (c.st.map c.box)
noncomputable def Sc.s (c:Sc) (q:Nat):K5:=.str (c.nm q)
noncomputable def Sc.S (c:Sc) (l:List Nat):K5:=.list (l.map c.s)
theorem str_dec (a b:Str):(a==b)=decide (a=b):=rfl
theorem f8 {a:Str} (h:Lq a=true):LU (.str a)=true:=by
 simp [LU,L9,PyData.depth,h]
theorem vR {a b:Str} (ha:Lq a=true) (hb:Lq b=true):pEq (.str a) (.str b)=some (.bool (decide (a=b))):=by
 unfold pEq;rw [if_pos ⟨f8 ha,f8 hb⟩];simp [LV,str_dec]
theorem z9 {a b:Str} (ha:Lq a=true) (hb:Lq b=true):pNe (.str a) (.str b)=some (.bool (!decide (a=b))):=by
 unfold pNe;rw [if_pos ⟨f8 ha,f8 hb⟩];simp [LV,str_dec]
section
variable {c:Sc} (h:c.Ok)
include h
theorem Sc.Ok.dec (a b:Nat):decide (c.nm a=c.nm b)=decide (a=b):=by
 by_cases e:a=b
 ·subst e; simp
 ·have:¬ c.nm a=c.nm b:=λ z=>e (h.inj _ _ z)
  rw [decide_eq_false this,decide_eq_false e]
theorem Sc.Ok.eqs (a b:Nat):pEq (c.s a) (c.s b)=some (.bool (decide (a=b))):=by
 unfold Sc.s;rw [vR (h.ok a) (h.ok b),h.dec]
theorem Sc.Ok.eq0 (a:Nat):pEq (c.s a) (.str "")=some (.bool (decide (a=0))):=by
 have:=h.eqs a 0
 unfold Sc.s at this ⊢;rw [h.top] at this;exact this
end
theorem big {n:Nat} (h:n<=3000000):n<=Li:=LS h (by show 3000000<=2 ^ 24; decide)
section
variable {c:Sc} (h:c.Ok)
include h
theorem yI:(c.st.map c.box).length<=Li:=by
 rw [K7];exact big (LS h.len (by decide))
theorem oS (q:Nat):bn [c.d,c.s q]=some (c.S (chN c.st q)):=by
 unfold bn bv;rw [if_pos (by rfl)];show (jl [.val c.d,.val (c.s q)]).bind _=_;have e:cGo (tgN 0) (bT (l2 pEq (l2 pIx (eV 0) (eC (.int 1))) (eV 1))) (l2 pIx (eV 0) (eC (.int 0))) [.un,.val (c.s q)] (c.st.map c.box)=some ((c.st.filter λ x=>decide (x.2=q)).map λ x=>c.s x.1):=by
  refine fw c.box (λ x=>decide (x.2=q)) (λ x=>c.s x.1) _ λ x _=>⟨_,rfl,?_,λ _=>rfl⟩;show (pEq (c.s x.2) (c.s q)).bind asB=_;rw [h.eqs]; rfl
 have e2:bf [none,some 1] (lI lj (eV 0)) (tgN 0) (bT (l2 pEq (l2 pIx (eV 0) (eC (.int 1))) (eV 1))) (l2 pIx (eV 0) (eC (.int 0))) [.val c.d,.val (c.s q)]=some ((c.st.filter λ x=>decide (x.2=q)).map λ x=>c.s x.1):=by
  show (if (c.st.map c.box).length<=Li then cGo _ _ _ _ _ else none)=_;rw [if_pos (yI h)];exact e
 unfold jl dk oE;rw [e2];show some (PyData.list _)=some (PyData.list _);unfold chN;rw [LK]; rfl
theorem DE (q p:Nat):∀ (l:List (Nat×Nat)),og l q=some p->∀ s:Sl,sGo (tgN 2) (sIf (bT (l2 pEq (l2 pIx (eV 2) (eC (.int 0))) (eV 1))) (dk (eV 2)) sNx) (l.map c.box) [.val c.d,.val (c.s q),s]=some (.rt (c.box (q,p)))
 | x::r,hm,s=>by
  rw [Ln];unfold sGo;have et:tgN 2 [.val c.d,.val (c.s q),s] (c.box x)=some [.val c.d,.val (c.s q),.val (c.box x)]:=rfl;rw [et,K8];have eb:(bT (l2 pEq (l2 pIx (eV 2) (eC (.int 0))) (eV 1))) [.val c.d,.val (c.s q),.val (c.box x)]=some (decide (x.1=q)):=by
   show (pEq (c.s x.1) (c.s q)).bind asB=_;rw [h.eqs]; rfl
  unfold sIf;rw [eb,K8];unfold og at hm;by_cases e:x.1=q
  ·rw [if_pos e] at hm;cases hm;rw [if_pos (by simpa using e)];subst e;rfl
  ·rw [if_neg e] at hm;rw [if_neg (by simpa using e)];show sGo _ _ (r.map c.box) _=_;exact DE q p r hm _
theorem jB {q p:Nat} (h1:og c.st q=some p):ak [c.d,c.s q]=some (c.box (q,p)):=by
 unfold ak bv;rw [if_pos (by rfl)];show (kX [.val c.d,.val (c.s q),.un]).bind _=_;have e2:jF (lI lj (eV 0)) (tgN 2) (sIf (bT (l2 pEq (l2 pIx (eV 2) (eC (.int 0))) (eV 1))) (dk (eV 2)) sNx) [.val c.d,.val (c.s q),.un]=some (.rt (c.box (q,p))):=DE h q p c.st h1 .un;unfold kX bt;rw [e2]; rfl
theorem qL:∀ (n q:Nat) (l:List Nat),xf c.st n q=some l->aM n [c.d,c.s q]=some (c.S l)
 | n+1,q,l,e=>by
  unfold xf at e;obtain ⟨p,hq,e⟩:=ab e
  ·unfold aM bv;rw [if_pos (by rfl)];show (jX ak (aM n) [.val c.d,.val (c.s q),.un]).bind _=_;have eb:=jB h hq;have e1:cj 2 (l2 pIx (lA ak (aC (eV 0) (aC (eV 1) aN))) (eC (.int 1))) [.val c.d,.val (c.s q),.un]=some (.nx [.val c.d,.val (c.s q),.val (c.s (p))]):=by
    show ((ak [c.d,c.s q]).bind λ x=>_).bind _=_;rw [eb]; rfl
   have e2:(bT (l2 pEq (eV 2) (eC (.str "")))) [.val c.d,.val (c.s q),.val (c.s (p))]=some (decide (p=0)):=by
    show (pEq (c.s (p)) (.str "")).bind asB=_;rw [h.eq0]; rfl
   unfold jX bt;rw [e1,K8];show Ll (Ll (sIf _ _ _ _) _) _=_;unfold sIf;rw [e2,K8];split at e
   ·rename_i h0;cases e;rw [if_pos (by simpa using h0)];rfl
   ·rename_i h0;rw [if_neg (by simpa using h0)];obtain ⟨m,hm,e⟩:=ab e;split at e
    ·rename_i hl;cases e;have ih:=qL n _ m hm;show Ll (dk _ _) _=_;have e3:dk (l2 az (lA (aM n) (aC (eV 0) (aC (eV 2) aN))) (oE (λ η=>((aC (eV 1) aN) η).bind gL))) [.val c.d,.val (c.s q),.val (c.s (p))]=some (.rt (c.S (m++[q]))):=by
      show (((aM n) [c.d,c.s (p)]).bind λ x=>(oE _ _).bind λ y=>az x y).bind _=_;rw [ih,K8];show ((az (c.S m) (.list [c.s q])).bind _)=_;unfold Sc.S az;dsimp only;rw [if_pos (by rw [K7]; exact big hl)];simp [Sc.S]
     rw [e3]; rfl
    ·cases e
theorem yj {F:PFn} {f:Nat->Option (List Nat)} (hF:∀ x l,f x=some l->F [c.d,c.s x]=some (c.S l)) (q:Nat) :
  ∀ (xs r:List Nat),zn f xs=some r->∀ (done:List Nat) (s3:Sl),done.length+r.length<=3000000->∃ s3',sGo (tgN 3) (oW 2 (lI asL (lA F (aC (eV 0) (aC (eV 3) aN))))) (xs.map c.s) [.val c.d,.val (c.s q),.own (done.map c.s),s3]=some (.nx [.val c.d,.val (c.s q),.own ((done++r).map c.s),s3'])
 | [],r,e,done,s3,_=>by
  cases e;exact ⟨s3,by rw [LY]; rfl⟩
 | x::xs,r,e,done,s3,hl=>by
  obtain ⟨a,ea,e⟩:=ab e;obtain ⟨b,eb,e⟩:=ab e;cases e;rw [Lm] at hl;obtain ⟨s3',ih⟩:=yj hF q xs b eb (done++a) (.val (c.s x)) (by rw [Lm]; omega);refine ⟨s3',?_⟩;have e1:oW 2 (lI asL (lA F (aC (eV 0) (aC (eV 3) aN)))) [.val c.d,.val (c.s q),.own (done.map c.s),.val (c.s x)]=some (.nx [.val c.d,.val (c.s q),.own ((done++a).map c.s),.val (c.s x)]):=by
   show Ll (Ll (F [c.d,c.s x]) asL) _=_;rw [hF x a ea];show (if (done.map c.s).length+(a.map c.s).length<=Li then _ else _)=_;rw [if_pos (by rw [K7,K7]; exact big (by omega)),LJ];rfl
  rw [Ln];unfold sGo;show Ll (oW 2 _ [.val c.d,.val (c.s q),.own (done.map c.s),.val (c.s x)]) _=_;rw [e1,K8];show sGo _ _ _ _=_;rw [ih,Ma]
theorem xm {F:PFn} {f:Nat->Option (List Nat)} (hF:∀ x l,f x=some l->F [c.d,c.s x]=some (c.S l)) :
  ∀ (xs r:List Nat),zn f xs=some r->∀ (done:List Nat) (s3:Sl),done.length+r.length<=3000000->∃ s3',sGo (tgN 2) (oW 1 (lI asL (lA F (aC (eV 0) (aC (eV 2) aN))))) (xs.map c.s) [.val c.d,.own (done.map c.s),s3]=some (.nx [.val c.d,.own ((done++r).map c.s),s3'])
 | [],r,e,done,s3,_=>by
  cases e;exact ⟨s3,by rw [LY]; rfl⟩
 | x::xs,r,e,done,s3,hl=>by
  obtain ⟨a,ea,e⟩:=ab e;obtain ⟨b,eb,e⟩:=ab e;cases e;rw [Lm] at hl;obtain ⟨s3',ih⟩:=xm hF xs b eb (done++a) (.val (c.s x)) (by rw [Lm]; omega);refine ⟨s3',?_⟩;have e1:oW 1 (lI asL (lA F (aC (eV 0) (aC (eV 2) aN)))) [.val c.d,.own (done.map c.s),.val (c.s x)]=some (.nx [.val c.d,.own ((done++a).map c.s),.val (c.s x)]):=by
   show Ll (Ll (F [c.d,c.s x]) asL) _=_;rw [hF x a ea];show (if (done.map c.s).length+(a.map c.s).length<=Li then _ else _)=_;rw [if_pos (by rw [K7,K7]; exact big (by omega)),LJ];rfl
  rw [Ln];unfold sGo;show Ll (oW 1 _ [.val c.d,.own (done.map c.s),.val (c.s x)]) _=_;rw [e1,K8];show sGo _ _ _ _=_;rw [ih,Ma]
theorem kP:∀ (n q:Nat) (l:List Nat),wy c.st n q=some l->aO n [c.d,c.s q]=some (c.S l)
 | n+1,q,l,e=>by
  unfold wy at e;obtain ⟨p,hq,e⟩:=ab e
  ·obtain ⟨r,hr,e⟩:=ab e;split at e
   ·rename_i hl;cases e;unfold aO bv;rw [if_pos (by rfl)];show (lU ak bn (aO n) [.val c.d,.val (c.s q),.un,.un]).bind _=_;have eb:=jB h hq;have e1:iG 2 (λ η=>((aC (l2 pIx (lA ak (aC (eV 0) (aC (eV 1) aN))) (eC (.int 0))) aN) η).bind gL) [.val c.d,.val (c.s q),.un,.un]=some (.nx [.val c.d,.val (c.s q),.own [c.s q],.un]):=by
     show Ll (Ll (Ll (Ll (ak [c.d,c.s q]) _) _) _) _=_;rw [eb];rfl
    obtain ⟨s3',e2⟩:=yj h (kP n) q (chN c.st q) r hr [q] .un (by simpa [Nat.add_comm] using hl);have e3:jF (lI asL (lA bn (aC (eV 0) (aC (eV 1) aN)))) (tgN 3) (oW 2 (lI asL (lA (aO n) (aC (eV 0) (aC (eV 3) aN))))) [.val c.d,.val (c.s q),.own [c.s q],.un]=some (.nx [.val c.d,.val (c.s q),.own (([q]++r).map c.s),s3']):=by
     show Ll (Ll (bn [c.d,c.s q]) asL) _=_;rw [oS h];exact e2
    unfold lU bt;rw [e1,K8];show Ll (Ll (jF _ _ _ _) _) _=_;rw [e3];rfl
   ·cases e
theorem wN {l:List Nat} (e:Ch c.st=some l):cv [c.d]=some (c.S l):=by
 unfold Ch at e;obtain ⟨r,hr,e⟩:=ab e;split at e
 ·rename_i hl;cases e;unfold cv bv;rw [if_pos (by rfl)];show (jY bn (aO 13) [.val c.d,.un,.un]).bind _=_;obtain ⟨s3',e2⟩:=xm h (kP h 13) (chN c.st 0) l hr [] .un (by simpa using hl);have e3:jF (lI asL (lA bn (aC (eV 0) (aC (eC (.str "")) aN)))) (tgN 2) (oW 1 (lI asL (lA (aO 13) (aC (eV 0) (aC (eV 2) aN))))) [.val c.d,.own [],.un]=some (.nx [.val c.d,.own (l.map c.s),s3']):=by
   show Ll (Ll (bn [c.d,.str ""]) asL) _=_
   have:=oS h 0
   unfold Sc.s at this;rw [h.top] at this;rw [this];exact e2
  unfold jY bt;show Ll (Ll (jF _ _ _ [.val c.d,.own [],.un]) _) _=_;rw [e3];rfl
 ·cases e
end
noncomputable def Sd (ns:List Int):K5:=.list (ns.map Lv)
theorem yh:∀ ns:List Int,Mn (ns.map Lv)=true
 | []=>rfl
 | _::r=>by
  have ih:=yh r;simpa [Mn,L9] using ih
theorem xZ:∀ ns:List Int,Mx (ns.map Lv)=0
 | []=>rfl
 | _::r=>by
  have ih:=xZ r;simpa [Mx,PyData.depth] using ih
theorem wV (ns:List Int):LU (.list (ns.map Lv))=true:=by
 simp [LU,L9,PyData.depth,yh,xZ]
theorem sD (i:Int):LU (.int i)=true:=by simp [LU,L9,PyData.depth]
theorem Ac (i j:Int):pEq (.int i) (.int j)=some (.bool (i==j)):=by
 unfold pEq;rw [if_pos ⟨sD i,sD j⟩];simp [LV]
theorem ai {o:K5->K5->Option K5} {f g:En->Option K5} {η:En} {x y z:K5} (hf:f η=some x) (hg:g η=some y) (ho:o x y=some z):l2 o f g η=some z:=by
 unfold l2;rw [hf,K8,hg,K8,ho]
theorem jR {i j:Int} (h:CMul i j):kj (.int i) (.int j)=some (.int (i*j)):=if_pos h
theorem lN {i j:Int} (h:0 < j):lq (.int i) (.int j)=some (.int (i % j)):=if_pos h
theorem pE {i j:Int} (h:CDiv i j):mX (.int i) (.int j)=some (.int (i / j)):=if_pos h
theorem xt {i j:Int} (h1:-(2 ^ 64) < i) (h2:i < 2 ^ 64):CMul i j:=Or.inl ⟨h1,h2⟩
theorem Kw {i j:Int} (h1:-(2 ^ 64) < j) (h2:j < 2 ^ 64):CMul i j:=Or.inr ⟨h1,h2⟩
section
variable {ns:List Int}
theorem Fo (hn:ns.length<=63) {k:Int} (hk:0<=k):∃ v:Int,bR [Sd ns,.int k]=some (.int v):=by
 unfold bR bv;rw [if_pos (by rfl)];have et:(bT (l2 pEq (eV 0) (oE (λ η=>(aN η).bind gL)))) [.val (Sd ns),.val (.int k)]=some (decide (ns=[])):=by
  show Ll (pEq (Sd ns) (.list [])) asB=_;unfold pEq;rw [if_pos ⟨wV ns,by rfl⟩];cases ns <;> simp [Sd,LV,PyData.eqvAll,asB]
 show ∃ v,Ll (iV [.val (Sd ns),.val (.int k)]) _=_;unfold iV bt sIf;rw [et,K8];by_cases h0:ns=[]
 ·rw [if_pos (by simpa using h0)];refine ⟨7*k,?_⟩
  have:l2 kj (eC (.int 7)) (eV 1) [.val (Sd ns),.val (.int k)]=some (.int (7*k)):=ai rfl rfl (jR (xt (by decide) (by decide)))
  unfold dk;rw [this]; rfl
 ·rw [if_neg (by simpa using h0)];have hp:0 < ns.length:=by cases ns with | nil=>exact absurd rfl h0 | cons=>simp
  have hlen:lA kR (aC (eV 0) aN) [.val (Sd ns),.val (.int k)]=some (.int (ns.length:Int)):=by
   show some (Lv ((ns.map Lv).length:Int))=_;rw [K7]
  have hm:l2 lq (eV 1) (lA kR (aC (eV 0) aN)) [.val (Sd ns),.val (.int k)]=some (.int (k % (ns.length:Int))):=ai rfl hlen (lN (by omega));have hd:l2 mX (eV 1) (lA kR (aC (eV 0) aN)) [.val (Sd ns),.val (.int k)]=some (.int (k / (ns.length:Int))):=ai rfl hlen (pE ⟨by omega,by omega⟩);obtain ⟨j,hj⟩:∃ j:Nat,k % (ns.length:Int)=(j:Int):=⟨(k % (ns.length:Int)).toNat,by have:=Nb k (show (ns.length:Int)≠0 by omega); omega⟩;have hjl:j < ns.length:=by have:=Ng k (show (0:Int) < ns.length by omega); omega
  refine ⟨ns[j]+6553*(k / (ns.length:Int)),?_⟩;have hx:l2 pIx (eV 0) (l2 lq (eV 1) (lA kR (aC (eV 0) aN))) [.val (Sd ns),.val (.int k)]=some (.int ns[j]):=by
   refine ai rfl hm ?_;rw [hj];show atI (ns.map Lv) (j:Int)=_;exact n8 (by rw [Le,K9 hjl]; rfl)
  have hy:l2 kj (eC (.int 6553)) (l2 mX (eV 1) (lA kR (aC (eV 0) aN))) [.val (Sd ns),.val (.int k)]=some (.int (6553*(k / (ns.length:Int)))):=ai rfl hd (jR (xt (by decide) (by decide)));have hz:=ai (o:=az) hx hy rfl;show Ll (dk _ [.val (Sd ns),.val (.int k)]) _=_;unfold dk;rw [hz];rfl
theorem b9 (hn:ns.length<=63) {k m:Int} (hk:0<=k) (hm:0 < m):∃ r:Nat,(r:Int) < m/\af [Sd ns,.int k,.int m]=some (.int r):=by
 obtain ⟨v,hv⟩:=Fo hn hk;unfold af bv;rw [if_pos (by rfl)];have hc:lA bR (aC (eV 0) (aC (eV 1) aN)) [.val (Sd ns),.val (.int k),.val (.int m),.un]=some (.int v):=hv;have x1:l2 lq (l2 az (l2 kj (l2 lq (lA bR (aC (eV 0) (aC (eV 1) aN))) (eC (.int 2147483563))) (eC (.int 69069))) (l2 kj (eC (.int 104723)) (l2 az (eV 1) (eC (.int 1))))) (eC (.int 2147483563)) [.val (Sd ns),.val (.int k),.val (.int m),.un]=some (.int ((v % 2147483563*69069+104723*(k+1)) % 2147483563)) :=
  ai (ai (ai (ai hc rfl (lN (by decide))) rfl (jR (Kw (by decide) (by decide)))) (ai rfl (ai rfl rfl rfl) (jR (xt (by decide) (by decide)))) rfl) rfl (lN (by decide))
 generalize hx:(v % 2147483563*69069+104723*(k+1)) % 2147483563=x at x1;have bx:0<=x/\x < 2147483563:=by rw [<- hx]; exact ⟨Nb _ (by decide),Ng _ (by decide)⟩
 have x2:l2 lq (l2 az (l2 kj (eV 3) (eV 3)) (l2 mX (eV 3) (eC (.int 3)))) (eC (.int 2147483399)) [.val (Sd ns),.val (.int k),.val (.int m),.val (.int x)]=some (.int ((x*x+x / 3) % 2147483399)) :=
  ai (ai (ai rfl rfl (jR (xt (by omega) (by omega)))) (ai rfl rfl (pE ⟨by decide,by decide⟩)) rfl) rfl (lN (by decide))
 generalize hy:(x*x+x / 3) % 2147483399=y at x2;have byy:0<=y/\y < 2147483399:=by rw [<- hy]; exact ⟨Nb _ (by decide),Ng _ (by decide)⟩
 have x3:l2 lq (l2 mX (l2 lq (l2 az (l2 kj (eV 3) (eV 3)) (l2 mX (eV 3) (eC (.int 7)))) (eC (.int 2147483647))) (eC (.int 11))) (eV 2) [.val (Sd ns),.val (.int k),.val (.int m),.val (.int y)]=some (.int ((y*y+y / 7) % 2147483647 / 11 % m)) :=
  ai (ai (ai (ai (ai rfl rfl (jR (xt (by omega) (by omega)))) (ai rfl rfl (pE ⟨by decide,by decide⟩)) rfl) rfl (lN (by decide))) rfl (pE ⟨by decide,by decide⟩)) rfl (lN hm)
 refine ⟨((y*y+y / 7) % 2147483647 / 11 % m).toNat,?_,?_⟩
 ·have h1:=Nb ((y*y+y / 7) % 2147483647 / 11) (show m≠0 by omega);have h2:=Ng ((y*y+y / 7) % 2147483647 / 11) hm;omega
 ·have h1:=Nb ((y*y+y / 7) % 2147483647 / 11) (show m≠0 by omega);have e:(((y*y+y / 7) % 2147483647 / 11 % m).toNat:Int)=(y*y+y / 7) % 2147483647 / 11 % m:=by omega
  rw [e];show Ll (h8 bR [.val (Sd ns),.val (.int k),.val (.int m),.un]) _=_;unfold h8 bt cj dk;rw [x1,K8,K8];show Ll (Ll (Ll (l2 lq _ _ [.val (Sd ns),.val (.int k),.val (.int m),.val (.int x)]) _) _) _=_;rw [x2,K8,K8];show Ll (Ll (l2 lq _ _ [.val (Sd ns),.val (.int k),.val (.int m),.val (.int y)]) _) _=_;rw [x3];rfl
end
theorem br {f g:En->Option Out} {η η1:En} {r:Option Out} (h1:f η=some (.nx η1)) (h2:g η1=r):bt f g η=r:=by
 unfold bt;rw [h1]; exact h2
theorem cz {i:Nat} {f:En->Option K5} {η:En} {d:K5} (h:f η=some d):cj i f η=some (.nx (η.set i (.val d))):=by
 unfold cj;rw [h]; rfl
theorem nW {i:Nat} {f:En->Option (List K5)} {η:En} {d:List K5} (h:f η=some d):iG i f η=some (.nx (η.set i (.own d))):=by
 unfold iG;rw [h]; rfl
theorem ay {o:PFn} {fs:En->Option (List K5)} {η:En} {ds:List K5} {d:K5} (h1:fs η=some ds) (h2:o ds=some d):lA o fs η=some d:=by
 unfold lA;rw [h1]; exact h2
theorem ae {f:En->Option K5} {g:En->Option (List K5)} {η:En} {d:K5} {ds:List K5} (h1:f η=some d) (h2:g η=some ds):aC f g η=some (d::ds):=by
 unfold aC;rw [h1,K8,h2]; rfl
theorem u4 {c:En->Option Bool} {f g:En->Option Out} {η:En} {b:Bool} (h:c η=some b):sIf c f g η=if b=true then f η else g η:=by
 unfold sIf;rw [h]; rfl
theorem eX {f:En->Option K5} {η:En} {b:Bool} (h:f η=some (.bool b)):bT f η=some b:=by
 unfold bT;rw [h]; rfl
theorem kE {it:En->Option (List K5)} {t:En->K5->Option En} {body:En->Option Out} {η:En} {ds:List K5} {r:Option Out} (h:it η=some ds) (h2:sGo t body ds η=r):jF it t body η=r:=by
 unfold jF;rw [h]; exact h2
theorem vH {j:Int} (h1:-(2 ^ 62)<=j) (h2:j < 2 ^ 62):rng1 [.int j]=some (pA 0 j.toNat):=if_pos ⟨h1,h2⟩
theorem El {t:En->K5->Option En} {body:En->Option Out} (Inv:Nat->En->Prop) (n:Nat)
  (st:∀ k η,k < n->Inv k η->∃ η1 η2,t η (.int (0+(k:Nat)))=some η1/\body η1=some (.nx η2)/\Inv (k+1) η2) {η:En} (h0:Inv 0 η):∃ η',sGo t body (pA 0 n) η=some (.nx η')/\Inv n η':=by
 have key:∀ (m k:Nat) (η:En),k+m=n->Inv k η->∃ η',sGo t body ((List.range' k m).map λ (k:Nat)=>Lv (0+(k:Nat))) η=some (.nx η')/\Inv n η':=by
  intro m
  induction m with
  | zero=>intro k η e h; exact ⟨η,rfl,by rw [<- e]; exact h⟩
  | succ m ih =>
   intro k η e h;obtain ⟨η1,η2,h1,h2,h3⟩:=st k η (by omega) h;obtain ⟨η',e1,e2⟩:=ih (k+1) η2 (by omega) h3;refine ⟨η',?_,e2⟩;rw [List.range'_succ,Ln];unfold sGo;rw [h1,K8,h2,K8];exact e1
 unfold pA;rw [List.range_eq_range'];exact key n 0 η (by omega) h0
theorem nX {ι:Type} {t:En->K5->Option En} {body:En->Option Out} (D:ι->K5) (Inv:List ι->En->Prop) (all:List ι)
  (st:∀ done x rest η,all=done++x::rest->Inv done η->∃ η1 η2,t η (D x)=some η1/\body η1=some (.nx η2)/\Inv (done++[x]) η2) {η:En} (h0:Inv [] η):∃ η',sGo t body (all.map D) η=some (.nx η')/\Inv all η':=by
 have key:∀ (rest done:List ι) (η:En),all=done++rest->Inv done η->∃ η',sGo t body (rest.map D) η=some (.nx η')/\Inv all η':=by
  intro rest
  induction rest with
  | nil=>intro done η e h; exact ⟨η,rfl,by rw [e,LY]; exact h⟩
  | cons x r ih =>
   intro done η e h;obtain ⟨η1,η2,h1,h2,h3⟩:=st done x r η e h;obtain ⟨η',e1,e2⟩:=ih (done++[x]) η2 (by rw [e]; simp) h3;refine ⟨η',?_,e2⟩;rw [Ln];unfold sGo;rw [h1,K8,h2,K8];exact e1
 exact key all [] η rfl h0
noncomputable def let8:List Nat:=[100,98,103,97,104,99,102,101]
noncomputable def nmT (t:Nat):Nat->Str
 | 0 => ""
 | j+1=>if j < 8 then ⟨#[let8.getD ((j+t) % 8) 0]⟩ else ⟨(Mm (j+1) 97).toArray⟩
theorem C5:∀ x:Fin 8,∀ y:Fin 8,let8.getD x.val 0=let8.getD y.val 0->x=y:=by decide
theorem oX {t j:Nat} (h:j < 8):nmT t (j+1)=⟨#[let8.getD ((j+t) % 8) 0]⟩:=if_pos h
theorem CJ {t j:Nat} (h:¬ j < 8):nmT t (j+1)=⟨(Mm (j+1) 97).toArray⟩:=if_neg h
theorem zj:("" : Str).cps.size=0:=by decide
theorem EU (t:Nat):∀ a b,nmT t a=nmT t b->a=b:=by
 have sz:∀ a,(nmT t a).cps.size=if a=0 then 0 else if a - 1 < 8 then 1 else a:=λ a=>by
  cases a with
  | zero=>exact zj
  | succ j =>
   by_cases h:j < 8
   ·rw [oX h]; simp [h]
   ·rw [CJ h]; simp [h]
 intro a b e;have s1:=sz a;have s2:=sz b;rw [e,s2] at s1;cases a with
 | zero =>
  cases b with
  | zero=>rfl
  | succ k =>
   simp at s1;split at s1 <;> omega
 | succ j =>
  cases b with
  | zero =>
   simp at s1;split at s1 <;> omega
  | succ k =>
   by_cases hj:j < 8
   ·by_cases hk:k < 8
    ·rw [oX hj,oX hk] at e;have e1:(#[let8.getD ((j+t) % 8) 0]:Array Nat)=#[let8.getD ((k+t) % 8) 0]:=by injection e
     have e2:let8.getD ((j+t) % 8) 0=let8.getD ((k+t) % 8) 0:=by simpa using e1
     have e3:=C5 ⟨(j+t) % 8,Nat.mod_lt _ (by decide)⟩ ⟨(k+t) % 8,Nat.mod_lt _ (by decide)⟩ e2;have e4:(j+t) % 8=(k+t) % 8:=by injection e3
     omega
    ·simp [hj,hk] at s1; omega
   ·by_cases hk:k < 8
    ·simp [hj,hk] at s1; omega
    ·simp [hj,hk] at s1; omega
theorem E7:∀ x:Fin 8,let8.getD x.val 0 < 0x110000:=by decide
theorem CI (t:Nat):∀ a,Lq (nmT t a)=true:=λ a=>by
 cases a with
 | zero=>exact (by decide +kernel:Lq ("" : Str)=true)
 | succ j =>
  by_cases h:j < 8
  ·rw [oX h]
   have:=E7 ⟨(j+t) % 8,Nat.mod_lt _ (by decide)⟩
   simp only [Lk] at this;simp [Lq,this]
  ·rw [CJ h];unfold Lq;rw [Array.all_eq_true];intro i hi
   simp
structure Dr where
 ps:List Nat
 nm:Nat->Str
 L:Nat->Int
 T:Nat->Int
 W:Nat->Int
 H:Nat->Int
 mr:Nat->Str
noncomputable def bd (l t w h:Int):Prop:=(-3<=l/\l<=5)/\(-3<=t/\t<=5)/\(0<=w/\w<=8)/\(0<=h/\h<=8)
noncomputable def mkS:List Bool->Str
 | [] => ""
 | b::r=>mkS r++(if b then (⟨#[[99,102,104,108].getD r.length 0]⟩:Str) else ("" : Str))
noncomputable def G0 (m:Str):Prop:=∃ bs:List Bool,bs.length=4/\m=mkS bs
structure Dr.Ok (c:Dr):Prop where
 inj:∀ a b,c.nm a=c.nm b->a=b
 top:c.nm 0 = ""
 ok:∀ a,Lq (c.nm a)=true
 okm:∀ a,Lq (c.mr a)=true
 len:c.ps.length<=12
 par:∀ i,c.ps.getD i 0<=i
 bds:∀ i,bd (c.L i) (c.T i) (c.W i) (c.H i)
 mks:∀ i,G0 (c.mr i)
noncomputable def Dr.box (c:Dr) (i:Nat):K5:=.tuple [.str (c.nm (i+1)),.str (c.nm (c.ps.getD i 0)),.int (c.L i),.int (c.T i),.int (c.W i),.int (c.H i),.str (c.mr i)]
noncomputable def Dr.d (c:Dr):K5:=.tuple ((List.range c.ps.length).map c.box)
noncomputable def Dr.s (c:Dr) (q:Nat):K5:=.str (c.nm q)
noncomputable def Dr.more (c:Dr) (p:Nat) (l t w h:Int) (m:Str):Dr :=
 { ps:=c.ps++[p],nm:=c.nm,L:=λ i=>if i=c.ps.length then l else c.L i,T:=λ i=>if i=c.ps.length then t else c.T i,W:=λ i=>if i=c.ps.length then w else c.W i,H:=λ i=>if i=c.ps.length then h else c.H i,mr:=λ i=>if i=c.ps.length then m else c.mr i }
theorem Dr.more_d (c:Dr) (p:Nat) (l t w h:Int) (m:Str):(c.more p l t w h m).d=.tuple ((List.range c.ps.length).map c.box++[.tuple [.str (c.nm (c.ps.length+1)),.str (c.nm p),.int l,.int t,.int w,.int h,.str m]]):=by
 unfold Dr.d;have e:(c.more p l t w h m).ps.length=c.ps.length+1:=by unfold Dr.more; simp
 rw [e,Nw,LJ]
 congr 2
 ·refine LQ λ i hi=>?_;have hlt:=Mg.mp hi;have hne:i≠c.ps.length:=LP hlt;have hps:(c.ps++[p])[i]?=c.ps[i]?:=Lw hlt;unfold Dr.box Dr.more;simp only [hne,if_false,Lk,hps]
 ·unfold Dr.box Dr.more
  simp
theorem Dr.more_ok {c:Dr} (h:c.Ok) (hl:c.ps.length < 12) {p:Nat} (hp:p<=c.ps.length) (l t w g:Int) {m:Str} (hm:Lq m=true) (hb:bd l t w g) (hk:G0 m):(c.more p l t w g m).Ok where
 inj:=h.inj
 top:=h.top
 ok:=h.ok
 okm:=λ i=>by
  unfold Dr.more;dsimp only
  split
  ·exact hm
  ·exact h.okm i
 len:=by unfold Dr.more; simp; omega
 par:=λ i=>by
  unfold Dr.more;dsimp only;rw [Lk];by_cases hi:i < c.ps.length
  ·rw [Lw hi,<- Lk];exact h.par i
  ·by_cases he:i=c.ps.length
   ·subst he;rw [Lx (Lp _)];simpa using hp
   ·rw [LN (by simp; omega)];exact Ml _
 bds:=λ i=>by
  unfold Dr.more;dsimp only;by_cases e:i=c.ps.length
  ·rw [if_pos e,if_pos e,if_pos e,if_pos e]; exact hb
  ·rw [if_neg e,if_neg e,if_neg e,if_neg e]; exact h.bds i
 mks:=λ i=>by
  unfold Dr.more;dsimp only
  split
  ·exact hk
  ·exact h.mks i
noncomputable def sg4:Nat->Str:=λ j=>⟨#[[99,102,104,108].getD j 0]⟩
theorem cfhl:enS [.str "cfhl"]=some ([0,1,2,3].map λ (j:Nat)=>PyData.tuple [.int (j:Nat),.str (sg4 j)]):=by
 have e:("cfhl" : Str).cps.toList=[99,102,104,108]:=by decide +kernel
 unfold enS;dsimp only;unfold uO;rw [e];rfl
theorem dbg:("dbgahcfe" : Str).cps.toList=let8:=by decide +kernel
theorem Fj:("dbgahcfe" : Str).length<=Li:=by decide +kernel
theorem nU {a b:Str} (ha:Lq a=true) (hb:Lq b=true):Lq (a++b)=true:=by
 unfold Lq at ha hb ⊢;show (a.cps++b.cps).all _=true;rw [Array.all_append,ha,hb]; rfl
theorem pL (a b:Str):(a++b).length=a.length+b.length:=by
 show (a.cps++b.cps).size=_;rw [Array.size_append]; rfl
theorem Gn (j:Nat) (h:j∈[0,1,2,3]):Lq (sg4 j)=true:=by
 simp at h;rcases h with rfl | rfl | rfl | rfl <;> decide +kernel
theorem Bj (bs:List Bool):mkS bs=mkS (false::bs):=by
 show mkS bs=mkS bs++("" : Str);apply vD;show _=((mkS bs).cps++("" : Str).cps).toList
 have:("" : Str).cps=#[]:=by decide +kernel
 rw [this]; simp
theorem zJ (j:Nat):(sg4 j).length=1:=rfl
section
variable {ns:List Int} (hn:ns.length<=63)
include hn
theorem CT {x1 x2 x3 x4 x6 x7 x8:Sl} {hh:Int} (h0:0<=hh) (s10 s11 s12:Sl):∃ (m:Str) (u v:Sl),(Lq m=true/\G0 m) /\
  jF (λ η=>((aC (eC (.str "cfhl")) aN) η).bind enS) (tgT (bo (tgN 10) (bo (tgN 11) gO)))
  (sIf (bT (l2 pEq (lA af (aC (eV 0) (aC (l2 az (l2 az (eV 5) (eC (.int 5))) (eV 10)) (aC (l2 pIx (oE (λ η=>((aC (eC (.int 4)) (aC (eC (.int 2)) (aC (eC (.int 9)) (aC (eC (.int 6)) aN)))) η).bind gL)) (eV 10)) aN)))) (eC (.int 0)))) (cj 9 (l2 az (eV 9) (eV 11))) sNx)
   [.val (Sd ns),x1,x2,x3,x4,.val (.int hh),x6,x7,x8,.val (.str ""),s10,s11,s12]=some (.nx [.val (Sd ns),x1,x2,x3,x4,.val (.int hh),x6,x7,x8,.val (.str m),u,v,s12]):=by
 have inv:=nX (t:=tgT (bo (tgN 10) (bo (tgN 11) gO)))
  (body:=(sIf (bT (l2 pEq (lA af (aC (eV 0) (aC (l2 az (l2 az (eV 5) (eC (.int 5))) (eV 10)) (aC (l2 pIx (oE (λ η=>((aC (eC (.int 4)) (aC (eC (.int 2)) (aC (eC (.int 9)) (aC (eC (.int 6)) aN)))) η).bind gL)) (eV 10)) aN)))) (eC (.int 0)))) (cj 9 (l2 az (eV 9) (eV 11))) sNx))
  (λ (j:Nat)=>PyData.tuple [.int (j:Nat),.str (sg4 j)])
  (λ done η=>∃ (m:Str) (u v:Sl),(Lq m=true/\∃ bs:List Bool,bs.length=done.length/\m=mkS bs)/\m.length<=done.length/\η=[.val (Sd ns),x1,x2,x3,x4,.val (.int hh),x6,x7,x8,.val (.str m),u,v,s12])
  [0,1,2,3] ?_ (η:=[.val (Sd ns),x1,x2,x3,x4,.val (.int hh),x6,x7,x8,.val (.str ""),s10,s11,s12]) ⟨"", s10,s11,⟨by decide +kernel,[],rfl,rfl⟩,by decide +kernel,rfl⟩
 ·obtain ⟨η',e1,m,u,v,hm,_,rfl⟩:=inv;refine ⟨m,u,v,⟨hm.1,hm.2⟩,kE (ds:=[0,1,2,3].map λ (j:Nat)=>PyData.tuple [.int (j:Nat),.str (sg4 j)]) cfhl e1⟩
 ·rintro done j rest η hall ⟨m,u,v,hm,hml,rfl⟩
  have hj:j∈[0,1,2,3]:=by rw [hall]; simp
  have hdl:done.length<=3:=by
   have:=congrArg List.length hall
   simp at this;omega
  have hjd:j=done.length:=by
   match done,hall,hdl with
   | [],hall,_=>simp at hall; simp [hall.1]
   | [_],hall,_=>simp at hall; simp [hall.2.1]
   | [_,_],hall,_=>simp at hall; simp [hall.2.2.1]
   | [_,_,_],hall,_=>simp at hall; simp [hall.2.2.2.1]
  obtain ⟨hm,bs,hbs,hmm⟩:=hm;have hmod:∃ q:Int,0 < q/\l2 pIx (oE (λ η=>((aC (eC (.int 4)) (aC (eC (.int 2)) (aC (eC (.int 9)) (aC (eC (.int 6)) aN)))) η).bind gL)) (eV 10) [.val (Sd ns),x1,x2,x3,x4,.val (.int hh),x6,x7,x8,.val (.str m),.val (.int (j:Nat)),.val (.str (sg4 j)),s12]=some (.int q):=by
   have eo:oE (λ η=>((aC (eC (.int 4)) (aC (eC (.int 2)) (aC (eC (.int 9)) (aC (eC (.int 6)) aN)))) η).bind gL) [.val (Sd ns),x1,x2,x3,x4,.val (.int hh),x6,x7,x8,.val (.str m),.val (.int (j:Nat)),.val (.str (sg4 j)),s12]=some (.list [.int 4,.int 2,.int 9,.int 6]):=by
    have:gL [.int 4,.int 2,.int 9,.int 6]=some [.int 4,.int 2,.int 9,.int 6]:=if_pos (by show 4<=Li; decide)
    show Ll (gL [.int 4,.int 2,.int 9,.int 6]) _=_;rw [this]; rfl
   simp at hj;rcases hj with rfl | rfl | rfl | rfl
   ·exact ⟨4,by decide,ai eo rfl rfl⟩
   ·exact ⟨2,by decide,ai eo rfl rfl⟩
   ·exact ⟨9,by decide,ai eo rfl rfl⟩
   ·exact ⟨6,by decide,ai eo rfl rfl⟩
  obtain ⟨q,hq,eq⟩:=hmod;obtain ⟨r,hr,er⟩:=b9 hn (k:=hh+5+(j:Nat)) (m:=q) (by omega) hq;have eb:bT (l2 pEq (lA af (aC (eV 0) (aC (l2 az (l2 az (eV 5) (eC (.int 5))) (eV 10)) (aC (l2 pIx (oE (λ η=>((aC (eC (.int 4)) (aC (eC (.int 2)) (aC (eC (.int 9)) (aC (eC (.int 6)) aN)))) η).bind gL)) (eV 10)) aN)))) (eC (.int 0)))
    [.val (Sd ns),x1,x2,x3,x4,.val (.int hh),x6,x7,x8,.val (.str m),.val (.int (j:Nat)),.val (.str (sg4 j)),s12]=some ((r:Int)==0) :=
   eX (ai (ay (ae rfl (ae (ai (ai rfl rfl rfl) rfl rfl) (ae eq rfl))) er) rfl (Ac _ _))
  refine ⟨[.val (Sd ns),x1,x2,x3,x4,.val (.int hh),x6,x7,x8,.val (.str m),.val (.int (j:Nat)),.val (.str (sg4 j)),s12],?_⟩;by_cases h0:(r:Int)==0
  ·refine ⟨[.val (Sd ns),x1,x2,x3,x4,.val (.int hh),x6,x7,x8,.val (.str (m++sg4 j)),.val (.int (j:Nat)),.val (.str (sg4 j)),s12],rfl,?_,m++sg4 j,_,_,⟨nU hm (Gn j hj),true::bs,by simp [hbs],by rw [hmm,hjd,<- hbs]; rfl⟩,?_,rfl⟩
   ·rw [u4 eb,if_pos h0];refine cz (d:=.str (m++sg4 j)) (ai rfl rfl ?_);show (if m.length+(sg4 j).length<=Li then some (PyData.str (m++sg4 j)) else none)=_;rw [if_pos (by rw [zJ]; exact big (by omega))]
   ·rw [pL,zJ,Lm];simpa using hml
  ·refine ⟨[.val (Sd ns),x1,x2,x3,x4,.val (.int hh),x6,x7,x8,.val (.str m),.val (.int (j:Nat)),.val (.str (sg4 j)),s12],rfl,?_,m,_,_,⟨hm,false::bs,by simp [hbs],by rw [hmm]; exact Bj bs⟩,?_,rfl⟩
   ·rw [u4 eb,if_neg h0]; rfl
   ·rw [Lm]; simp; omega
end
theorem f7 {ds:List K5} (h:ds.length<=3000000):(if ds.length<=Li then some (PyData.tuple ds) else none)=some (.tuple ds):=if_pos (big h)
theorem Dl {ds:List K5} (h:ds.length<=3000000):gL ds=some ds:=if_pos (big h)
theorem Jm {a b:List K5} (h:a.length+b.length<=3000000):az (.list a) (.list b)=some (.list (a++b)):=if_pos (big h)
theorem zu {a b:List K5} (h:a.length+b.length<=3000000):az (.tuple a) (.tuple b)=some (.tuple (a++b)):=if_pos (big h)
theorem l6 {f:En->Option (List K5)} {η:En} {ds:List K5} (h:f η=some ds):oE f η=some (.list ds):=by
 unfold oE;rw [h]; rfl
theorem gN {mp:List (Option Nat)} {fi:En->Option (List K5)} {t:En->K5->Option En} {p:En->Option Bool} {f:En->Option K5} {η:En} {ds:List K5} {r:Option (List K5)} (h1:fi η=some ds) (hz:ds.length<=3000000) (h2:cGo t p f (nz mp η) ds=r):bf mp fi t p f η=r:=by
 unfold bf;rw [h1,K8,if_pos (big hz)];exact h2
noncomputable def Ik (aj:PFn):En->Option Out :=
 (bt (cj 5 (l2 az (l2 az (eV 1) (eC (.int 3))) (l2 kj (eC (.int 9)) (eV 4))))
  (bt (cj 6 (l2 pIx (l2 az (oE (λ η=>((aC (eC (.str "")) aN) η).bind gL)) (oE (bf [none] (lI lj (eV 2)) (tgN 0) ci (l2 pIx (eV 0) (eC (.int 0)))))) (lA aj (aC (eV 0) (aC (eV 5) (aC (l2 az (eV 4) (eC (.int 1))) aN))))))
  (bt (iG 7 (bf [none,some 0,some 5] (λ η=>((aC (eC (.int 2)) aN) η).bind rng1) (tgN 0) ci (l2 kQ (lA aj (aC (eV 1) (aC (l2 az (l2 az (eV 2) (eC (.int 1))) (eV 0)) (aC (eC (.int 9)) aN)))) (eC (.int 3)))))
  (λ η=>(bt (iG 8 (bf [none,some 0,some 5] (λ η=>((aC (eC (.int 2)) aN) η).bind rng1) (tgN 0) ci (lA aj (aC (eV 1) (aC (l2 az (l2 az (eV 2) (eC (.int 3))) (eV 0)) (aC (eC (.int 9)) aN))))))
  (λ η=>(bt (cj 9 (eC (.str "")))
  (bt (jF (λ η=>((aC (eC (.str "cfhl")) aN) η).bind enS) (tgT (bo (tgN 10) (bo (tgN 11) gO)))
  (sIf (bT (l2 pEq (lA aj (aC (eV 0) (aC (l2 az (l2 az (eV 5) (eC (.int 5))) (eV 10)) (aC (l2 pIx (oE (λ η=>((aC (eC (.int 4)) (aC (eC (.int 2)) (aC (eC (.int 9)) (aC (eC (.int 6)) aN)))) η).bind gL)) (eV 10)) aN)))) (eC (.int 0)))) (cj 9 (l2 az (eV 9) (eV 11))) sNx))
  (bt (cj 12 (l2 pIx (eC (.str "dbgahcfe")) (l2 lq (l2 az (eV 4) (eV 3)) (eC (.int 8)))))
  (cj 2 (l2 az (eV 2) (lA (λ ds=>if ds.length<=Li then some (.tuple ds) else none) (aC (l2 az (l2 az (lA (λ ds=>if ds.length<=Li then some (.tuple ds) else none) (aC (eV 12) (aC (eV 6) aN))) (lA uo (aC (l2 az (eV 7) (eV 8)) aN))) (lA (λ ds=>if ds.length<=Li then some (.tuple ds) else none) (aC (eV 9) aN))) aN))))))) (frz 8 η))) (frz 7 η)))))
section
variable {ns:List Int} (hn:ns.length<=63)
include hn
theorem BO {f:En->Option K5} {η:En} {mp:List (Option Nat)} (lo hi:Int) (h:∀ k:Nat,k < 2->∃ y,(lo<=y/\y<=hi)/\f ((nz mp η).set 0 (.val (.int (0+(k:Nat)))))=some (.int y)):∃ a b:Int,((lo<=a/\a<=hi)/\(lo<=b/\b<=hi))/\bf mp (λ η=>((aC (eC (.int 2)) aN) η).bind rng1) (tgN 0) ci f η=some [.int a,.int b]:=by
 obtain ⟨a,ha,ea⟩:=h 0 (by decide);obtain ⟨b,hb,eb⟩:=h 1 (by decide);refine ⟨a,b,⟨ha,hb⟩,gN (ds:=pA 0 2) (vH (j:=2) (by decide) (by decide)) (by decide) ?_⟩
 have:=fw (t:=tgN 0) (p:=ci) (f:=f) (η:=nz mp η) (λ (k:Nat)=>Lv (0+(k:Nat))) (λ _=>true) (λ k=>.int (if k=0 then a else b)) (List.range 2) λ k hk=>by
  refine ⟨_,rfl,rfl,λ _=>?_⟩;have hk:=Mg.mp hk;rcases (show k=0\/k=1 by omega) with rfl | rfl
  ·exact ea
  ·exact eb
 exact this
theorem B3:∃ (c:Dr) (tn:Nat),c.Ok/\c.nm=nmT tn/\c.ps.length<=7/\ce [Sd ns,.int 0]=some c.d:=by
 obtain ⟨tn,htn,et⟩:=b9 hn (k:=0+1) (m:=8) (by decide) (by decide);obtain ⟨n,hnn,en⟩:=b9 hn (k:=0) (m:=8) (by decide) (by decide);have main:=El (t:=tgN 4) (body:=Ik af) (λ k η=>∃ (c:Dr) (s4 s5 s6 s7 s8 s9 s10 s11 s12:Sl),c.Ok/\c.nm=nmT tn/\c.ps.length=k/\η=[.val (Sd ns),.val (.int 0),.val c.d,.val (.int tn),s4,s5,s6,s7,s8,s9,s10,s11,s12]) n ?st
  (η:=[.val (Sd ns),.val (.int 0),.val (.tuple []),.val (.int tn),.un,.un,.un,.un,.un,.un,.un,.un,.un]) ⟨⟨[],nmT tn,λ _=>0,λ _=>0,λ _=>0,λ _=>0,λ _ => ""⟩,.un,.un,.un,.un,.un,.un,.un,.un,.un,⟨EU tn,rfl,CI tn,λ _=>CI 0 0,by simp,λ _=>by simp,λ _=>by show bd 0 0 0 0; unfold bd; decide,λ _=>⟨[false,false,false,false],rfl,by show ("" : Str)=mkS [false,false,false,false]; decide +kernel⟩⟩,rfl,rfl,rfl⟩
 case st =>
  rintro k η hk ⟨c,s4,s5,s6,s7,s8,s9,s10,s11,s12,hc,hnm,hlen,rfl⟩
  have hk7:k < 7:=by omega
  refine ⟨[.val (Sd ns),.val (.int 0),.val c.d,.val (.int tn),.val (.int (0+(k:Nat))),s5,s6,s7,s8,s9,s10,s11,s12],?_⟩;have hh:l2 az (l2 az (eV 1) (eC (.int 3))) (l2 kj (eC (.int 9)) (eV 4)) [.val (Sd ns),.val (.int 0),.val c.d,.val (.int tn),.val (.int (0+(k:Nat))),s5,s6,s7,s8,s9,s10,s11,s12]=some (.int (0+3+9*(0+(k:Nat)))) :=
   ai (ai rfl rfl rfl) (ai rfl rfl (jR (xt (by decide) (by decide)))) rfl
  generalize hhe:(0+3+9*(0+(k:Nat)):Int)=hr at hh;have hr0:0<=hr:=by omega
  obtain ⟨p,hp,ep⟩:=b9 hn (k:=hr) (m:=0+(k:Nat)+1) hr0 (by omega);have hp':p<=k:=by omega
  have ea:l2 pIx (l2 az (oE (λ η=>((aC (eC (.str "")) aN) η).bind gL)) (oE (bf [none] (lI lj (eV 2)) (tgN 0) ci (l2 pIx (eV 0) (eC (.int 0)))))) (lA af (aC (eV 0) (aC (eV 5) (aC (l2 az (eV 4) (eC (.int 1))) aN))))
    [.val (Sd ns),.val (.int 0),.val c.d,.val (.int tn),.val (.int (0+(k:Nat))),.val (.int hr),s6,s7,s8,s9,s10,s11,s12]=some (c.s p):=by
   have e1:oE (λ η=>((aC (eC (.str "")) aN) η).bind gL) [.val (Sd ns),.val (.int 0),.val c.d,.val (.int tn),.val (.int (0+(k:Nat))),.val (.int hr),s6,s7,s8,s9,s10,s11,s12]=some (.list [c.s 0]):=by
    refine l6 ?_;show gL [.str ""]=_;rw [Dl (by decide)];unfold Dr.s;rw [hc.top]
   have e2:oE (bf [none] (lI lj (eV 2)) (tgN 0) ci (l2 pIx (eV 0) (eC (.int 0)))) [.val (Sd ns),.val (.int 0),.val c.d,.val (.int tn),.val (.int (0+(k:Nat))),.val (.int hr),s6,s7,s8,s9,s10,s11,s12]=some (.list ((List.range k).map λ i=>c.s (i+1))):=by
    refine l6 (gN (ds:=(List.range c.ps.length).map c.box) rfl (by rw [K7,LW]; omega) ?_);rw [hlen]
    have:=fw (t:=tgN 0) (p:=ci) (f:=l2 pIx (eV 0) (eC (.int 0))) (η:=[.un]) c.box (λ _=>true) (λ i=>c.s (i+1)) (List.range k) λ i _=>⟨_,rfl,rfl,λ _=>rfl⟩
    rw [show (List.range k).filter (λ _=>true)=List.range k by simp] at this;exact this
   refine ai (ai e1 e2 (Jm (by simp; omega))) (ay (ae rfl (ae rfl (ae (ai rfl rfl rfl) rfl))) ep) ?_;show atI ([c.s 0]++(List.range k).map λ i=>c.s (i+1)) (p:Int)=_;refine n8 ?_;cases p with
   | zero=>rfl
   | succ j =>
    show ((List.range k).map λ i=>c.s (i+1))[j]?=_;rw [Le,Mt (by omega)];rfl
  obtain ⟨pa,pb,hbp,epl⟩:=BO hn (-3) 5 (mp:=[none,some 0,some 5]) (f:=l2 kQ (lA af (aC (eV 1) (aC (l2 az (l2 az (eV 2) (eC (.int 1))) (eV 0)) (aC (eC (.int 9)) aN)))) (eC (.int 3)))
   (η:=[.val (Sd ns),.val (.int 0),.val c.d,.val (.int tn),.val (.int (0+(k:Nat))),.val (.int hr),.val (c.s p),s7,s8,s9,s10,s11,s12]) λ j hj=>by
    obtain ⟨r,hr9,er⟩:=b9 hn (k:=hr+1+(0+(j:Nat))) (m:=9) (by omega) (by decide);exact ⟨(r:Int) - 3,by omega,ai (ay (ae rfl (ae (ai (ai rfl rfl rfl) rfl rfl) (ae rfl rfl))) er) rfl rfl⟩
  obtain ⟨sa,sb,hbs,esz⟩:=BO hn 0 8 (mp:=[none,some 0,some 5]) (f:=lA af (aC (eV 1) (aC (l2 az (l2 az (eV 2) (eC (.int 3))) (eV 0)) (aC (eC (.int 9)) aN))))
   (η:=[.val (Sd ns),.val (.int 0),.val c.d,.val (.int tn),.val (.int (0+(k:Nat))),.val (.int hr),.val (c.s p),.val (.list [.int pa,.int pb]),s8,s9,s10,s11,s12]) λ j hj=>by
    obtain ⟨r,hr9,er⟩:=b9 hn (k:=hr+3+(0+(j:Nat))) (m:=9) (by omega) (by decide);exact ⟨(r:Int),by omega,ay (ae rfl (ae (ai (ai rfl rfl rfl) rfl rfl) (ae rfl rfl))) er⟩
  obtain ⟨m,u,v,hm,em⟩:=CT hn (x1:=.val (.int 0)) (x2:=.val c.d) (x3:=.val (.int tn)) (x4:=.val (.int (0+(k:Nat)))) (x6:=.val (c.s p)) (x7:=.val (.list [.int pa,.int pb])) (x8:=.val (.list [.int sa,.int sb])) hr0 s10 s11 s12;have enm:l2 pIx (eC (.str "dbgahcfe")) (l2 lq (l2 az (eV 4) (eV 3)) (eC (.int 8))) [.val (Sd ns),.val (.int 0),.val c.d,.val (.int tn),.val (.int (0+(k:Nat))),.val (.int hr),.val (c.s p),.val (.list [.int pa,.int pb]),.val (.list [.int sa,.int sb]),.val (.str m),u,v,s12]=some (c.s (k+1)):=by
   refine ai rfl (ai (ai rfl rfl rfl) rfl (lN (by decide))) ?_;show (if ("dbgahcfe" : Str).length<=Li then (atI ("dbgahcfe" : Str).cps.toList ((0+(k:Nat)+(tn:Int)) % 8)).bind _ else none)=_;rw [if_pos Fj,dbg];have e8:((0+(k:Nat)+(tn:Int)) % 8:Int)=(((k+tn) % 8:Nat):Int):=by omega
   have hlt:(k+tn) % 8 < 8:=Nat.mod_lt _ (by decide);rw [e8,n8 (v:=let8.getD ((k+tn) % 8) 0) (by rw [Lk,K9 (show (k+tn) % 8 < let8.length from hlt)]; rfl)];unfold Dr.s;rw [hnm,oX (by omega)];rfl
  have hcd:c.d=.tuple ((List.range c.ps.length).map c.box):=rfl;have efin:l2 az (eV 2) (lA (λ ds=>if ds.length<=Li then some (.tuple ds) else none) (aC (l2 az (l2 az (lA (λ ds=>if ds.length<=Li then some (.tuple ds) else none) (aC (eV 12) (aC (eV 6) aN))) (lA uo (aC (l2 az (eV 7) (eV 8)) aN))) (lA (λ ds=>if ds.length<=Li then some (.tuple ds) else none) (aC (eV 9) aN))) aN))
    [.val (Sd ns),.val (.int 0),.val c.d,.val (.int tn),.val (.int (0+(k:Nat))),.val (.int hr),.val (c.s p),.val (.list [.int pa,.int pb]),.val (.list [.int sa,.int sb]),.val (.str m),u,v,.val (c.s (k+1))]=some (c.more p pa pb sa sb m).d:=by
   rw [Dr.more_d];refine ai (x:=c.d) rfl (ay (ae (ai (ai (ay (ae rfl (ae rfl rfl)) (f7 (by simp))) (ay (ae (ai rfl rfl (Jm (by simp))) rfl) rfl) (zu (by simp))) (ay (ae rfl rfl) (f7 (by simp))) (zu (by simp))) rfl) (f7 (by simp))) ?_;rw [hcd];refine (zu (by simp; omega)).trans ?_;rw [hlen];rfl
  refine ⟨[.val (Sd ns),.val (.int 0),.val (c.more p pa pb sa sb m).d,.val (.int tn),.val (.int (0+(k:Nat))),.val (.int hr),.val (c.s p),.val (.list [.int pa,.int pb]),.val (.list [.int sa,.int sb]),.val (.str m),u,v,.val (c.s (k+1))],rfl,?_,c.more p pa pb sa sb m,_,_,_,_,_,_,_,_,_,Dr.more_ok hc (by omega) (by omega) pa pb sa sb hm.1 ⟨hbp.1,hbp.2,hbs.1,hbs.2⟩ hm.2,hnm,by simp [Dr.more,hlen],rfl⟩;refine br (cz hh) (br (cz ea) (br (nW epl) ?_));refine br (nW esz) ?_;refine br (cz rfl) (br em (br (cz enm) (cz efin)))
 obtain ⟨η',e1,c,s4,s5,s6,s7,s8,s9,s10,s11,s12,hc,hnm,hlen,rfl⟩:=main;refine ⟨c,tn,hc,hnm,by omega,?_⟩;unfold ce bv;rw [if_pos (by rfl)];show Ll (hZ af [.val (Sd ns),.val (.int 0),.un,.un,.un,.un,.un,.un,.un,.un,.un,.un,.un]) _=_;have e2:hZ af [.val (Sd ns),.val (.int 0),.un,.un,.un,.un,.un,.un,.un,.un,.un,.un,.un]=some (.rt c.d):=by
  refine br (cz (ay rfl (f7 (by decide)))) (br (cz (ay (ae rfl (ae (ai rfl rfl rfl) (ae rfl rfl))) et)) (br (kE ?_ e1) rfl));show Ll (aC (lA af _) aN _) rng1=_;rw [ae (ay (ae rfl (ae rfl (ae rfl rfl))) en) rfl];rw [K8,vH (by omega) (by omega),Int.toNat_natCast]
 rw [e2]; rfl
end
theorem wU {ss:List Str} (h:∀ s∈ss,Lq s=true):LU (.list (ss.map PyData.str))=true:=by
 have h1:Mn (ss.map PyData.str)=true:=by
  induction ss with
  | nil=>rfl
  | cons x r ih=>simp [Mn,L9,h x Lc,ih λ s hs=>h s (La _ hs)]
 have h2:Mx (ss.map PyData.str)=0:=by
  clear h h1
  induction ss with
  | nil=>rfl
  | cons x r ih=>simp [Mx,PyData.depth,ih]
 simp [LU,L9,PyData.depth,h1,h2]
theorem ifF {c:En->Option Bool} {f g:En->Option Out} {η:En} (h:c η=some false):sIf c f g η=g η:=by
 rw [u4 h]; rfl
theorem sx {c:En->Option Bool} {f g:En->Option K5} {η:En} {b:Bool} (h:c η=some b):vIf c f g η=if b=true then f η else g η:=by
 unfold vIf;rw [h]; rfl
theorem zk {f:En->Option K5} {fl fh:En->Option (Option Int)} {η:En} {x d:K5} {l h:Option Int} (h1:f η=some x) (h2:fl η=some l) (h3:fh η=some h) (h4:pSl x l h=some d):eSl f fl fh η=some d:=by
 unfold eSl;rw [h1,K8,h2,K8,h3]; exact h4
theorem z8 {f:En->Option K5} {η:En} {i:Int} (h:f η=some (.int i)):pS f η=some (some i):=by
 unfold pS;rw [h]; rfl
theorem l8 {k:K5->Option (List K5)} {f:En->Option K5} {η:En} {d:K5} {ds:List K5} (h:f η=some d) (h2:k d=some ds):lI k f η=some ds:=by
 unfold lI;rw [h]; exact h2
section
variable {c:Sc} (h:c.Ok)
theorem Do (l:List Nat):(l.map c.s).all je=true:=by
 rw [List.all_map,L5];intro x _;rfl
include h
theorem Ja (a b:Nat):LV (c.s a) (c.s b)=decide (a=b):=by
 unfold Sc.s LV;rw [str_dec,h.dec]
theorem Jk (x:Nat) (l:List Nat):((l.map c.s).any λ y=>LV y (c.s x))=decide (x∈l):=by
 induction l with
 | nil=>simp
 | cons y r ih =>
  rw [Ln,Ms,ih,Ja h];by_cases e:y=x
  ·subst e; simp
  ·have:¬ x=y:=λ z=>e z.symm
   simp [e,this]
theorem IH (neg:Bool) (x:Nat) (l:List Nat):pIn neg (c.s x) (c.S l)=some (.bool (if neg then !decide (x∈l) else decide (x∈l))):=by
 unfold pIn Sc.S;dsimp only;rw [if_pos ⟨rfl,Do l⟩,Jk h]
end
noncomputable def Sc.on (c:Sc) (st:List (Nat×Nat)):Sc:={ c with st:=st }
noncomputable def D9 (f:Nat->Int) (q:Nat) (v:Int):Nat->Int:=λ x=>if x=q then v else f x
noncomputable def Sc.put (c:Sc) (q:Nat) (l t:Int):Sc:={ c with L:=D9 c.L q l,T:=D9 c.T q t }
noncomputable def Sc.mark (c:Sc) (q:Nat) (m:Str):Sc:={ c with mr:=λ x=>if x=q then m else c.mr x }
theorem Sc.Ok.put {c:Sc} (h:c.Ok) (q:Nat) (l t:Int):(c.put q l t).Ok:=⟨h.inj,h.top,h.ok,h.okm,h.len⟩
section
variable {c:Sc} (h:c.Ok)
include h
theorem zY (neg:Bool) (g:List Nat) (η:En) (h0:eV 0 η=some c.d) (h2:eV 2 η=some (c.S g)) (hi:nz [none,some 2] η=[.un,.val (c.S g)]) :
  lA uo (aC (oE (bf [none,some 2] (lI lj (eV 0)) (tgN 0) (bT (l2 (pIn neg) (l2 pIx (eV 0) (eC (.int 0))) (eV 1))) (eV 0))) aN) η=some (.tuple ((c.st.filter λ x=>if neg then !decide (x.1∈g) else decide (x.1∈g)).map c.box)):=by
 have e:bf [none,some 2] (lI lj (eV 0)) (tgN 0) (bT (l2 (pIn neg) (l2 pIx (eV 0) (eC (.int 0))) (eV 1))) (eV 0) η=some ((c.st.filter λ x=>if neg then !decide (x.1∈g) else decide (x.1∈g)).map c.box):=by
  show Ll (Ll (eV 0 η) lj) _=_;rw [h0];show (if (c.st.map c.box).length<=Li then cGo _ _ _ (nz [none,some 2] η) _ else none)=_;rw [if_pos (yI h),hi];refine fw c.box (λ x=>if neg then !decide (x.1∈g) else decide (x.1∈g)) c.box _ λ x _=>⟨_,rfl,?_,λ _=>rfl⟩;show (pIn neg (c.s x.1) (c.S g)).bind asB=_;rw [IH h]; rfl
 show Ll (Ll (Ll (bf _ _ _ _ _ η) _) _) _=_;rw [e]; rfl
theorem yC {q:Nat} {st:List (Nat×Nat)} (e:Fl c.st q=some st):dR [c.d,c.s q]=some (c.on st).d:=by
 obtain ⟨g,hg,e⟩:=ab e;cases e;unfold dR bv;rw [if_pos (by rfl)];show (p0 (aO 13) [.val c.d,.val (c.s q),.un]).bind _=_;have e1:cj 2 (lA (aO 13) (aC (eV 0) (aC (eV 1) aN))) [.val c.d,.val (c.s q),.un]=some (.nx [.val c.d,.val (c.s q),.val (c.S g)]):=by
  show ((aO 13 [c.d,c.s q])).bind _=_;rw [kP h 13 q g hg]; rfl
 unfold p0 bt;rw [e1,K8];have e2:=zY h true g [.val c.d,.val (c.s q),.val (c.S g)] rfl rfl rfl;show Ll (Ll (lA _ _ _) _) _=_;rw [e2]; rfl
theorem yA {q:Nat} {st:List (Nat×Nat)} (e:Gu c.st q=some st):df [c.d,c.s q]=some (c.on st).d:=by
 obtain ⟨g,hg,e⟩:=ab e;cases e;unfold df bv;rw [if_pos (by rfl)];show (kU (aO 13) dR [.val c.d,.val (c.s q),.un]).bind _=_;have e1:cj 2 (lA (aO 13) (aC (eV 0) (aC (eV 1) aN))) [.val c.d,.val (c.s q),.un]=some (.nx [.val c.d,.val (c.s q),.val (c.S g)]):=by
  show ((aO 13 [c.d,c.s q])).bind _=_;rw [kP h 13 q g hg]; rfl
 unfold kU bt;rw [e1,K8];have e2:=zY h false g [.val c.d,.val (c.s q),.val (c.S g)] rfl rfl rfl;have e3:dR [c.d,c.s q]=some (c.on (c.st.filter λ x=>!decide (x.1∈g))).d:=yC h (by unfold Fl; rw [hg]; rfl);show Ll (Ll (Ll (dR [c.d,c.s q]) _) _) _=_;rw [e3,K8,e2];show Ll (Ll (az (.tuple (List.map c.box (c.st.filter λ x=>!decide (x.1∈g)))) (.tuple (List.map c.box (c.st.filter λ x=>decide (x.1∈g))))) _) _=_;have l1:=Mr (λ x:Nat×Nat=>!decide (x.1∈g)) c.st;have l2:=Mr (λ x:Nat×Nat=>decide (x.1∈g)) c.st;have l3:=h.len;unfold az;dsimp only;rw [if_pos (by rw [K7,K7]; exact big (by omega)),<- LJ];rfl
theorem uj {c':Sc} {q p:Nat} (hs:c'.st=c.st) (hn:c'.nm=c.nm) (hu:∀ x∈c.st,x.1=q->x.2=p) (hb:∀ x∈c.st,x.1≠q->c'.box x=c.box x):a8 [c.d,c'.box (q,p)]=some c'.d:=by
 unfold a8 bv;rw [if_pos (by rfl)];show (hX [.val c.d,.val (c'.box (q,p))]).bind _=_;have e:bf [none,some 1] (lI lj (eV 0)) (tgN 0) ci (vIf (bT (l2 pEq (l2 pIx (eV 0) (eC (.int 0))) (l2 pIx (eV 1) (eC (.int 0))))) (eV 1) (eV 0)) [.val c.d,.val (c'.box (q,p))]=some (c.st.map c'.box):=by
  show (if (c.st.map c.box).length<=Li then cGo _ _ _ _ _ else none)=_;rw [if_pos (yI h)]
  have:=fw (t:=tgN 0) (p:=ci) (f:=vIf (bT (l2 pEq (l2 pIx (eV 0) (eC (.int 0))) (l2 pIx (eV 1) (eC (.int 0))))) (eV 1) (eV 0)) (η:=[.un,.val (c'.box (q,p))]) c.box (λ _=>true) c'.box c.st λ x hx=>⟨_,rfl,rfl,λ _=>?_⟩
  ·rw [show c.st.filter (λ _=>true)=c.st by simp] at this;exact this
  ·have eb:bT (l2 pEq (l2 pIx (eV 0) (eC (.int 0))) (l2 pIx (eV 1) (eC (.int 0)))) [.val (c.box x),.val (c'.box (q,p))]=some (decide (x.1=q)):=by
    show (pEq (c.s x.1) (.str (c'.nm q))).bind asB=_;rw [hn];show (pEq (c.s x.1) (c.s q)).bind asB=_;rw [h.eqs]; rfl
   show vIf _ _ _ [.val (c.box x),.val (c'.box (q,p))]=_;rw [sx eb];by_cases e:x.1=q
   ·rw [if_pos (by simpa using e)]
    have:x=(q,p):=by
     have:=hu x hx e
     cases x; simp at e this; simp [e,this]
    rw [this]; rfl
   ·rw [if_neg (by simpa using e),hb x hx e]; rfl
 unfold hX dk;show Ll (Ll (Ll (Ll (Ll (bf _ _ _ _ _ _) _) _) _) _) _=_;rw [e];show some (PyData.tuple _)=some (Sc.d c');unfold Sc.d;rw [hs]
theorem BF {q p:Nat} {m:Str} (hp:og c.st q=some p) (hu:∀ x∈c.st,x.1=q->x.2=p):dg [c.d,c.s q,.str m]=some (c.mark q m).d:=by
 have e1:=jB h hp;have e2:a8 [c.d,(c.mark q m).box (q,p)]=some (c.mark q m).d:=uj h rfl rfl hu λ x _ hx=>by
  unfold Sc.box Sc.mark;dsimp only;rw [if_neg hx]
 unfold dg bv;rw [if_pos (by rfl)];show (kW ak a8 [.val c.d,.val (c.s q),.val (.str m),.un]).bind _=_;unfold kW bt;show Ll (Ll (Ll (ak [c.d,c.s q]) _) _) _=_;rw [e1];have e3:(c.mark q m).box (q,p)=.tuple [.str (c.nm q),.str (c.nm p),.int (c.L q),.int (c.T q),.int (c.W q),.int (c.H q),.str m]:=by
  unfold Sc.box Sc.mark;dsimp only;rw [if_pos rfl]
 rw [e3] at e2;show Ll (Ll (a8 [c.d,.tuple [.str (c.nm q),.str (c.nm p),.int (c.L q),.int (c.T q),.int (c.W q),.int (c.H q),.str m]]) _) _=_;rw [e2]; rfl
end
section
variable {c:Sc} (h:c.Ok)
include h
theorem BG {q p:Nat} {l:List Nat} (h1:og c.st q=some p) (e:xf c.st 13 q=some l) (pr:Nat->Nat) (hl:∀ x∈l,og c.st x=some (pr x)) (hz:l.length<=3000000) :
  bS [c.d,c.s q]=some (.tuple [.int ((l.map λ x=>c.L x).sum),.int ((l.map λ x=>c.T x).sum),.int ((l.map λ x=>c.L x).sum+c.W q),.int ((l.map λ x=>c.T x).sum+c.H q)]):=by
 unfold bS bv;rw [if_pos (by rfl)];show (jZ (aM 13) ak [.val c.d,.val (c.s q),.un,.un,.un,.un]).bind _=_;have all:∀ l:List Nat,l.filter (λ _=>true)=l:=λ l=>by simp
 have e0:bf [none,some 0] (lI asL (lA (aM 13) (aC (eV 0) (aC (eV 1) aN)))) (tgN 0) ci (lA ak (aC (eV 1) (aC (eV 0) aN))) [.val c.d,.val (c.s q),.un,.un,.un,.un]=some (l.map λ x=>c.box (x,pr x)):=by
  show Ll (Ll (aM 13 [c.d,c.s q]) asL) _=_;rw [qL h 13 q l e];show (if (l.map c.s).length<=Li then _ else _)=_;rw [if_pos (by rw [K7]; exact big hz)]
  have:=fw (t:=tgN 0) (p:=ci) (f:=lA ak (aC (eV 1) (aC (eV 0) aN))) (η:=[.un,.val c.d]) c.s (λ _=>true) (λ x=>c.box (x,pr x)) l λ x hx=>⟨_,rfl,rfl,λ _=>jB h (hl x hx)⟩
  rw [all] at this;exact this
 have sm:∀ (k:Int) (Y:Nat->Int) (η:En),(∀ x,(l2 pIx (eV 0) (eC (.int k))) [.val (c.box (x,pr x))]=some (.int (Y x)))->eV 2 η=some (.list (l.map λ x=>c.box (x,pr x))) ->
   lA qm (aC (oE (bf [none] (lI asL (eV 2)) (tgN 0) ci (l2 pIx (eV 0) (eC (.int k))))) aN) η=some (.int ((l.map λ x=>Y x).sum)):=λ k Y η hY hη=>by
  have e1:bf [none] (lI asL (eV 2)) (tgN 0) ci (l2 pIx (eV 0) (eC (.int k))) η=some ((l.map λ x=>Y x).map Lv):=by
   show Ll (Ll (eV 2 η) asL) _=_;rw [hη];show (if (l.map λ x=>c.box (x,pr x)).length<=Li then _ else _)=_;rw [if_pos (by rw [K7]; exact big hz)]
   have:=fw (t:=tgN 0) (p:=ci) (f:=l2 pIx (eV 0) (eC (.int k))) (η:=nz [none] η) (λ x=>c.box (x,pr x)) (λ _=>true) (λ x=>.int (Y x)) l λ x hx=>⟨_,rfl,rfl,λ _=>hY x⟩
   rw [all] at this;rw [LK];exact this
  show Ll (Ll (Ll (bf _ _ _ _ _ η) _) _) _=_;rw [e1];show qm [.list ((l.map λ x=>Y x).map Lv)]=_;unfold qm;dsimp only;rw [vq]; rfl
 unfold jZ bt iG;rw [e0];have s1:=sm 2 c.L [.val c.d,.val (c.s q),.val (.list (l.map λ x=>c.box (x,pr x))),.un,.un,.un] (λ _=>rfl) rfl;have s2:=sm 3 c.T [.val c.d,.val (c.s q),.val (.list (l.map λ x=>c.box (x,pr x))),.val (.int ((l.map λ x=>c.L x).sum)),.un,.un] (λ _=>rfl) rfl;have s3:=jB h h1;show Ll (Ll (cj 3 _ [.val c.d,.val (c.s q),.val (.list (l.map λ x=>c.box (x,pr x))),.un,.un,.un]) _) _=_;unfold cj;rw [s1,K8,K8];show Ll (Ll (Ll (lA qm _ [.val c.d,.val (c.s q),.val (.list (l.map λ x=>c.box (x,pr x))),.val (.int ((l.map λ x=>c.L x).sum)),.un,.un]) _) _) _=_;rw [s2,K8,K8];show Ll (Ll (Ll (ak [c.d,c.s q]) _) _) _=_;rw [s3];rfl
end
theorem n6 {α β:Type} {o:Option α} {k:α->Option β} {x:α} {r:Option β} (h:o=some x) (h2:k x=r):o.bind k=r:=by
 rw [h]; exact h2
theorem FQ {o:K5->Option K5} {f:En->Option K5} {η:En} {x d:K5} (h1:f η=some x) (h2:o x=some d):l1 o f η=some d:=by
 unfold l1;rw [h1]; exact h2
theorem sU {d:K5} (h:LU d=true):pNe d d=some (.bool false):=by
 unfold pNe;rw [if_pos ⟨h,h⟩,SeqAt.eqv_refl d (SeqAt.canLay_of_shaped h)]; rfl
theorem ifN {c:En->Option Bool} {f:En->Option Out} {η:En} (h:c η=some false):sIf c f sNx η=some (.nx η):=by
 rw [ifF h]; rfl
theorem wE {f:En->Option Bool} {η:En} {b:Bool} (h:f η=some b):wF f η=some (!b):=by
 unfold wF;rw [h]; rfl
theorem AR {f g:En->Option Bool} {η:En} {a b:Bool} (h1:f η=some a) (h2:g η=some b):om f g η=some (a&&b):=by
 unfold om;rw [h1];cases a with
 | false=>rfl
 | true=>exact h2
theorem D5 {f:En->Option K5} {η:En} {b:Bool} (h:f η=some (.bool b)):D6 f η=some (.bool (!b)):=by
 unfold D6;rw [h]; rfl
theorem D7 {f g:En->Option K5} {η:En} {a b:Bool} (h1:f η=some (.bool a)) (h2:g η=some (.bool b)):D8 f g η=some (.bool (a&&b)):=by
 unfold D8;rw [h1];cases a with
 | false=>rfl
 | true=>exact h2
theorem C8 {f g h:En->Option K5} {η:En} {i j k:Int} (hf:f η=some (.int i)) (hg:g η=some (.int j)) (hh:h η=some (.int k)):lch pLe pLt f g h η=some (.bool (decide (i<=j)&&decide (j < k))):=by
 have e1:pLe (.int i) (.int j)=some (.bool (decide (i<=j))):=rfl;have e2:pLt (.int j) (.int k)=some (.bool (decide (j < k))):=rfl;unfold lch;rw [hf,K8,hg,K8,e1,K8];show (if decide (i<=j)=true then (h η).bind λ w=>pLt (.int j) w else some (.bool false))=_;cases decide (i<=j) with
 | false=>rfl
 | true=>rw [if_pos rfl,hh,K8,e2]; rfl
theorem fY {n m:Nat} {g:En->Option Out} {ds:List K5} {d:K5} (hl:ds.length=n) (h:g (ds.map Sl.val++Mm (m - n) .un)=some (.rt d)):bv n m g ds=some d:=by
 unfold bv;rw [if_pos hl,h]; rfl
theorem gP {f:En->Option K5} {η:En} {d:K5} (h:f η=some d):dk f η=some (.rt d):=by
 unfold dk;rw [h]; rfl
theorem nK {ι:Type} {t:En->K5->Option En} {f:En->Option K5} {η:En} (D:ι->K5) (Y:ι->K5) (xs:List ι) (h:∀ x∈xs,∃ η1,t η (D x)=some η1/\f η1=some (Y x)):cGo t ci f η (xs.map D)=some (xs.map Y):=by
 have:=fw (t:=t) (p:=ci) (f:=f) (η:=η) D (λ _=>true) Y xs λ x hx=>by
  obtain ⟨η1,h1,h2⟩:=h x hx;exact ⟨η1,h1,rfl,λ _=>h2⟩
 rw [show xs.filter (λ _=>true)=xs by simp] at this;exact this
theorem Ae (bs:List Bool):Cz [.list (bs.map PyData.bool)]=some (.bool (bs.any id)):=by
 unfold Cz vS;dsimp only;rw [zq]; rfl
theorem Ab (i j:Int):EJ [.int i,.int j]=some (.int (max i j)):=by
 show some (Lv (if j > i then j else i))=_
 have:(if j > i then j else i)=max i j:=by split <;> omega
 rw [this]
theorem Aa (i j:Int):EI [.int i,.int j]=some (.int (min i j)):=by
 show some (Lv (if j < i then j else i))=_
 have:(if j < i then j else i)=min i j:=by split <;> omega
 rw [this]
noncomputable def inM (s m:Str):Bool:=!(Builtin.Str.occurrences m s 0 m.length 1).isEmpty
noncomputable def Sc.geo (c:Sc):Geo:=⟨c.L,c.T,c.W,c.H,λ q=>inM "c" (c.mr q),λ q=>inM "h" (c.mr q),λ q=>inM "l" (c.mr q)⟩
noncomputable def arD (a:Ar):K5:=.tuple [.int a.1,.int a.2.1,.int a.2.2.1,.int a.2.2.2]
structure Tr (c:Sc) (ps:List Nat) (D:Nat->Prop) (pnt:List Nat):Prop where
 ok:c.Ok
 din:∀ q,D q->In ps q
 par:∀ q,D q->og c.st q=some (K56.par ps q)
 path:∀ q,D q->xf c.st 13 q=some (P ps q)
 up:∀ q,D q->∀ x∈P ps q,D x
 pn:Ch c.st=some pnt
 pd:∀ q∈pnt,D q
 pl:pnt.length<=2000000
 ps:uc ps
theorem Ka {ps:List Nat} (q:Nat):(P ps q).length<=q:=yY q q
theorem Ag (h:Nat->Bool):∀ l:List Nat,(!(l.map h).any id)=l.all λ x=>!h x
 | []=>rfl
 | x::r=>by
  have:=Ag h r
  rw [Ln,Ms,MO,<- this];cases h x <;> simp
section
variable {c:Sc} {ps:List Nat} {D:Nat->Prop} {pnt:List Nat} (t:Tr c ps D pnt)
include t
theorem J6 {q:Nat} (hq:D q):ak [c.d,c.s q]=some (c.box (q,par ps q)):=jB t.ok (t.par q hq)
theorem DU {q:Nat} (hq:D q):aM 13 [c.d,c.s q]=some (c.S (P ps q)):=qL t.ok 13 q _ (t.path q hq)
theorem IR {q:Nat} (hq:D q):q<=12:=LS (t.din q hq).2 t.ps.len
theorem FB {q:Nat} (hq:D q):(P ps q).length<=12:=LS (Ka q) (IR t hq)
theorem DV {q:Nat} (hq:D q):bS [c.d,c.s q]=some (arD (c.geo.area ps q)) :=
 BG t.ok (t.par q hq) (t.path q hq) (par ps) (λ x hx=>t.par x (t.up q hq x hx)) (by have:=FB t hq; omega)
theorem BE:cv [c.d]=some (c.S pnt):=wN t.ok t.pn
theorem zw {q:Nat} (hq:D q) (m:Str):a5 [c.d,c.s q,.str m]=some (.bool (inM m (c.mr q))) :=
 fY rfl (show lh ak [.val c.d,.val (c.s q),.val (.str m)]=_ from gP (ai rfl (ai (ay (ae rfl (ae rfl rfl)) (J6 t hq)) rfl rfl) rfl))
theorem Fx {q:Nat} (hq:D q):dh [c.d,c.s q]=some (.bool (c.geo.shown ps q)):=by
 have e:bf [none,some 0] (lI asL (lA (aM 13) (aC (eV 0) (aC (eV 1) aN)))) (tgN 0) ci (lA a5 (aC (eV 1) (aC (eV 0) (aC (eC (.str "h")) aN)))) [.val c.d,.val (c.s q)]=some (((P ps q).map c.geo.h).map PyData.bool):=by
  refine gN (ds:=(P ps q).map c.s) (l8 (ay (ae rfl (ae rfl rfl)) (DU t hq)) rfl) (by rw [K7]; have:=FB t hq; omega) ?_;rw [LK];exact nK (η:=[.un,.val c.d]) c.s (λ x=>.bool (c.geo.h x)) (P ps q) λ x hx=>⟨[.val (c.s x),.val c.d],rfl,ay (ae rfl (ae rfl (ae rfl rfl))) (zw t (t.up q hq x hx) "h")⟩
 have e2:=D5 (ay (ae (g:=aN) (l6 e) rfl) (Ae _));rw [Ag] at e2;exact fY rfl (show lg (aM 13) a5 [.val c.d,.val (c.s q)]=_ from gP e2)
omit t in
theorem HL (a b:Ar):c6 [arD a,arD b]=some (arD (ovl a b)) :=
 fY rfl (show lS [.val (arD a),.val (arD b),.un,.un]=_ from
  br (cz (ay (ae (ai rfl rfl rfl) (ae (ai rfl rfl rfl) rfl)) (Ab _ _)))
   (br (cz (ay (ae (ai rfl rfl rfl) (ae (ai rfl rfl rfl) rfl)) (Ab _ _)))
    (gP (ay (ae rfl (ae rfl (ae (ay (ae (ai rfl rfl rfl) (ae (ai rfl rfl rfl) rfl)) (Aa _ _)) (ae (ay (ae (ai rfl rfl rfl) (ae (ai rfl rfl rfl) rfl)) (Aa _ _)) rfl)))) (f7 (by simp))))))
omit t in
theorem Fy (a:Ar) (x y:Int):bp [arD a,.int x,.int y]=some (.bool (lQ a x y)) :=
 fY rfl (show ky [.val (arD a),.val (.int x),.val (.int y)]=_ from
  gP (D7 (C8 (ai rfl rfl rfl) rfl (ai rfl rfl rfl)) (C8 (ai rfl rfl rfl) rfl (ai rfl rfl rfl))))
theorem BI {x1:Sl}:∀ (l:List Nat) (w:Ar) (s3:Sl),(∀ x∈l,D x)->∃ s3',sGo (tgN 3) (sIf (bT (lA a5 (aC (eV 0) (aC (eV 3) (aC (eC (.str "c")) aN))))) (cj 2 (lA c6 (aC (eV 2) (aC (lA bS (aC (eV 0) (aC (eV 3) aN))) aN)))) sNx)
  (l.map c.s) [.val c.d,x1,.val (arD w),s3]=some (.nx [.val c.d,x1,.val (arD (vB c.geo ps l w)),s3'])
 | [],w,s3,_=>⟨s3,rfl⟩
 | x::r,w,s3,h=>by
  have hx:=h x Lc;obtain ⟨s3',ih⟩:=BI r (if c.geo.c x=true then ovl w (c.geo.area ps x) else w) (.val (c.s x)) λ y hy=>h y (La _ hy);refine ⟨s3',?_⟩;rw [Ln];unfold sGo vB;have eb:bT (lA a5 (aC (eV 0) (aC (eV 3) (aC (eC (.str "c")) aN)))) [.val c.d,x1,.val (arD w),.val (c.s x)]=some (c.geo.c x):=eX (ay (ae rfl (ae rfl (ae rfl rfl))) (zw t hx "c"));show Ll (sIf _ _ _ [.val c.d,x1,.val (arD w),.val (c.s x)]) _=_;have e1:sIf (bT (lA a5 (aC (eV 0) (aC (eV 3) (aC (eC (.str "c")) aN))))) (cj 2 (lA c6 (aC (eV 2) (aC (lA bS (aC (eV 0) (aC (eV 3) aN))) aN)))) sNx [.val c.d,x1,.val (arD w),.val (c.s x)]
    = some (.nx [.val c.d,x1,.val (arD (if c.geo.c x=true then ovl w (c.geo.area ps x) else w)),.val (c.s x)]):=by
   rw [u4 eb];cases c.geo.c x with
   | false=>rfl
   | true =>
    rw [if_pos rfl,if_pos rfl];exact cz (ay (ae rfl (ae (ay (ae rfl (ae rfl rfl)) (DV t hx)) rfl)) (HL w _))
  rw [e1,K8];exact ih
theorem yt {q:Nat} (hq:D q):bG [c.d,c.s q]=some (arD (c.geo.wnd ps q)):=by
 obtain ⟨s3,e⟩:=BI t (x1:=.val (c.s q)) (P ps q) (c.geo.area ps q) .un λ x hx=>t.up q hq x hx;exact fY rfl (show kr bS (aM 13) a5 c6 [.val c.d,.val (c.s q),.un,.un]=_ from
  br (cz (ay (ae rfl (ae rfl rfl)) (DV t hq))) (br (kE (l8 (ay (ae rfl (ae rfl rfl)) (DU t hq)) rfl) e) (gP rfl)))
omit t in
noncomputable def tkD (c:Sc) (ps:List Nat) (q:Nat):K5:=.tuple [c.s q,arD (c.geo.wnd ps q)]
theorem y9 {q:Nat} (h:q∈pnt.reverse.filter (c.geo.shown ps)):D q:=t.pd q (List.mem_reverse.mp (LZ.mp h).1)
theorem wR {q:Nat} (h:q∈tkL c.geo ps pnt):D q:=y9 t (LZ.mp h).1
theorem lG:ba [c.d]=some (.list ((tkL c.geo ps pnt).map (tkD c ps))):=by
 have hk:pnt.length<=3000000:=LS t.pl (by decide);have e1:bf [none,some 0] (λ η=>((aC (lA cv (aC (eV 0) aN)) aN) η).bind rvS) (tgN 0) (bT (lA dh (aC (eV 1) (aC (eV 0) aN)))) (eV 0) [.val c.d,.un]=some ((pnt.reverse.filter (c.geo.shown ps)).map c.s):=by
  refine gN (ds:=pnt.reverse.map c.s) ?_ (by rw [K7,M9]; exact hk) ?_
  ·refine n6 (ae (ay (ae rfl rfl) (BE t)) rfl) ?_;show some ((List.map c.s _).reverse)=_;rw [List.map_reverse]
  ·exact fw (η:=[.un,.val c.d]) c.s (c.geo.shown ps) c.s _ λ x hx=>⟨[.val (c.s x),.val c.d],rfl,eX (ay (ae rfl (ae rfl rfl)) (Fx t (t.pd x (List.mem_reverse.mp hx)))),λ _=>rfl⟩
 have e2:bf [none,some 0] (lI asL (eV 1)) (tgN 0) (wF (bT (lA a5 (aC (eV 1) (aC (eV 0) (aC (eC (.str "l")) aN)))))) (lA (λ ds=>if ds.length<=Li then some (.tuple ds) else none) (aC (eV 0) (aC (lA bG (aC (eV 1) (aC (eV 0) aN))) aN)))
   [.val c.d,.val (.list ((pnt.reverse.filter (c.geo.shown ps)).map c.s))]=some ((tkL c.geo ps pnt).map (tkD c ps)):=by
  refine gN (ds:=(pnt.reverse.filter (c.geo.shown ps)).map c.s) (l8 rfl rfl) ?_ ?_
  ·rw [K7];refine LS (Mr ..) ?_;rw [M9]; exact hk
  ·exact fw (η:=[.un,.val c.d]) c.s (λ q=>!c.geo.l q) (tkD c ps) _ λ x hx=>⟨[.val (c.s x),.val c.d],rfl,wE (eX (ay (ae rfl (ae rfl (ae rfl rfl))) (zw t (y9 t hx) "l"))),λ _=>ay (ae rfl (ae (ay (ae rfl (ae rfl rfl)) (yt t (y9 t hx))) rfl)) (f7 (by simp))⟩
 exact fY rfl (show nE cv dh a5 bG [.val c.d,.un]=_ from br (nW e1) (gP (l6 e2)))
omit t in
noncomputable def hdD (c:Sc):List Nat->K5
 | []=>.none
 | q::_=>c.s q
theorem xW (x y:Int) {x0:Sl}:∀ (l:List Nat) (s3 s4:Sl),(∀ q∈l,D q) ->
  (l.filter (c.geo.tch ps x y)=[]->∃ s3' s4',sGo (tgT (bo (tgN 3) (bo (tgN 4) gO))) (sIf (bT (lA bp (aC (eV 4) (aC (eV 1) (aC (eV 2) aN))))) (dk (eV 3)) sNx) (l.map (tkD c ps)) [x0,.val (.int x),.val (.int y),s3,s4]=some (.nx [x0,.val (.int x),.val (.int y),s3',s4']))
  /\ (∀ q r,l.filter (c.geo.tch ps x y)=q::r->sGo (tgT (bo (tgN 3) (bo (tgN 4) gO))) (sIf (bT (lA bp (aC (eV 4) (aC (eV 1) (aC (eV 2) aN))))) (dk (eV 3)) sNx) (l.map (tkD c ps)) [x0,.val (.int x),.val (.int y),s3,s4]=some (.rt (c.s q)))
 | [],s3,s4,_=>⟨λ _=>⟨s3,s4,rfl⟩,λ q r e=>by cases e⟩
 | p::l,s3,s4,h=>by
  have hp:=h p Lc;have ih:=xW x y (x0:=x0) l (.val (c.s p)) (.val (arD (c.geo.wnd ps p))) λ q hq=>h q (La _ hq);have eb:bT (lA bp (aC (eV 4) (aC (eV 1) (aC (eV 2) aN)))) [x0,.val (.int x),.val (.int y),.val (c.s p),.val (arD (c.geo.wnd ps p))]=some (c.geo.tch ps x y p):=by
   rw [<- zB t.ps (t.din p hp).1];exact eX (ay (ae rfl (ae rfl (ae rfl rfl))) (Fy _ x y))
  have es:sGo (tgT (bo (tgN 3) (bo (tgN 4) gO))) (sIf (bT (lA bp (aC (eV 4) (aC (eV 1) (aC (eV 2) aN))))) (dk (eV 3)) sNx) ((p::l).map (tkD c ps)) [x0,.val (.int x),.val (.int y),s3,s4]
    = if c.geo.tch ps x y p=true then some (.rt (c.s p)) else sGo (tgT (bo (tgN 3) (bo (tgN 4) gO))) (sIf (bT (lA bp (aC (eV 4) (aC (eV 1) (aC (eV 2) aN))))) (dk (eV 3)) sNx) (l.map (tkD c ps)) [x0,.val (.int x),.val (.int y),.val (c.s p),.val (arD (c.geo.wnd ps p))]:=by
   rw [Ln]
   conv=>lhs; unfold sGo
   show Ll (sIf _ _ _ [x0,.val (.int x),.val (.int y),.val (c.s p),.val (arD (c.geo.wnd ps p))]) _=_;rw [u4 eb];cases c.geo.tch ps x y p <;> rfl
  rw [es,M7];cases c.geo.tch ps x y p with
  | false =>
   rw [if_neg LB,if_neg LB];exact ih
  | true =>
   rw [if_pos rfl,if_pos rfl];exact ⟨λ e=>(by cases e),λ q r e=>(by cases e; rfl)⟩
theorem oa (x y:Int):ao [.list ((tkL c.geo ps pnt).map (tkD c ps)),.int x,.int y]=some (hdD c (kq c.geo ps pnt x y)):=by
 have:=xW t x y (x0:=.val (.list ((tkL c.geo ps pnt).map (tkD c ps)))) (tkL c.geo ps pnt) .un .un λ q hq=>wR t hq
 have eh:kq c.geo ps pnt x y=(tkL c.geo ps pnt).filter (c.geo.tch ps x y):=rfl;rw [eh];cases hh:(tkL c.geo ps pnt).filter (c.geo.tch ps x y) with
 | nil =>
  obtain ⟨s3,s4,e⟩:=this.1 hh;exact fY rfl (show g8 bp [.val (.list ((tkL c.geo ps pnt).map (tkD c ps))),.val (.int x),.val (.int y),.un,.un]=_ from br (kE (l8 rfl rfl) e) (gP rfl))
 | cons q r =>
  have e:=this.2 q r hh;refine fY rfl (show g8 bp [.val (.list ((tkL c.geo ps pnt).map (tkD c ps))),.val (.int x),.val (.int y),.un,.un]=_ from ?_);unfold g8 bt;rw [kE (r:=some (.rt (c.s q))) (l8 rfl rfl) e];rfl
end
theorem ifT {c:En->Option Bool} {f g:En->Option Out} {η:En} {r:Option Out} (h:c η=some true) (h2:f η=r):sIf c f g η=r:=by
 unfold sIf;rw [h]; exact h2
structure TrS (c:Sc) (ps:List Nat):Prop where
 ok:c.Ok
 st:c.st=stF ps
 ps:uc ps
theorem ix0 (d:K5) (l:List K5):pIx (.list (d::l)) (.int 0)=some d:=by
 show atI (d::l) ((0:Nat):Int)=_;exact n8 rfl
theorem Hm {α:Type} (D:α->K5) (l:List α) (hs:LU (.list (l.map D))=true):pEq (.list (l.map D)) (.list [])=some (.bool (decide (l=[]))):=by
 unfold pEq;rw [if_pos ⟨hs,by rfl⟩];cases l with
 | nil=>simp [LV,PyData.eqvAll]
 | cons x r=>simp [LV,PyData.eqvAll]
section
variable {c:Sc} {ps:List Nat} (t:TrS c ps)
include t
theorem J7 {q:Nat} (hq:In ps q):ak [c.d,c.s q]=some (c.box (q,par ps q)):=jB t.ok (by rw [t.st]; exact nY hq.1 hq.2)
end
section
variable {ps:List Nat} (ok:uc ps)
include ok
theorem DG:∀ n m q,1<=q->ps.length < n+q->ps.length < m+q->q<=ps.length->blF (stF ps) n q=blF (stF ps) m q
 | 0,m,q,_,h,_,h2=>by omega
 | n+1,0,q,_,_,h,h2=>by omega
 | n+1,m+1,q,h1,h2,h3,h4=>by
  show q::(chN (stF ps) q).flatMap (blF (stF ps) n)=q::(chN (stF ps) q).flatMap (blF (stF ps) m);rw [oZ λ x hx=>?_]
  have:=eF ok hx
  exact DG n m x this.1 (by omega) (by omega) this.2.1
theorem FA:∀ r x,x∈P ps r->x<=r:=by
 intro r
 induction r using MG with
 | _ r ih =>
  intro x hx;by_cases hr:1<=r
  ·rw [gC ok hr] at hx
   have:=iK ok hr
   rcases LX.mp hx with z | z
   ·have:=ih _ this x z; omega
   ·rw [LD] at z; omega
  ·have:r=0:=by omega
   subst this;rw [qJ] at hx; cases hx
theorem qK {q:Nat} (h:1<=q):q∈P ps q:=by rw [gC ok h]; simp
theorem DW:∀ r x,x∈P ps r->1<=x:=by
 intro r
 induction r using MG with
 | _ r ih =>
  intro x hx;by_cases hr:1<=r
  ·rw [gC ok hr] at hx;rcases LX.mp hx with z | z
   ·exact ih _ (iK ok hr) x z
   ·rw [LD] at z; omega
  ·have:r=0:=by omega
   subst this;rw [qJ] at hx; cases hx
theorem HN:∀ q,1<=q->∀ a,(a=0\/a∈P ps q)->a≠q->∃ x∈P ps q,par ps x=a:=by
 intro q
 induction q using MG with
 | _ q ih =>
  intro hq a ha hne;by_cases hp:a=par ps q
  ·exact ⟨q,qK ok hq,hp.symm⟩
  ·have ha':a=0\/a∈P ps (par ps q):=by
    rcases ha with z | z
    ·exact .inl z
    ·rw [gC ok hq] at z;rcases LX.mp z with z | z
     ·exact .inr z
     ·rw [LD] at z; exact absurd z hne
   by_cases h0:1<=par ps q
   ·obtain ⟨x,hx,e⟩:=ih _ (iK ok hq) h0 a ha' hp;exact ⟨x,by rw [gC ok hq]; exact L0 _ hx,e⟩
   ·have z:par ps q=0:=by omega
    rw [z,qJ] at ha';rcases ha' with y | y
    ·exact absurd (y.trans z.symm) hp
    ·cases y
theorem J9:∀ q x,x∈P ps q->par ps x=0\/par ps x∈P ps q:=by
 intro q
 induction q using MG with
 | _ q ih =>
  intro x hx;by_cases hq:1<=q
  ·rw [gC ok hq] at hx;rcases LX.mp hx with z | z
   ·rcases ih _ (iK ok hq) x z with y | y
    ·exact .inl y
    ·exact .inr (by rw [gC ok hq]; exact L0 _ y)
   ·rw [LD] at z;subst z;by_cases h0:1<=par ps x
    ·exact .inr (by rw [gC ok hq]; exact L0 _ (qK ok h0))
    ·exact .inl (by omega)
  ·have:q=0:=by omega
   subst this;rw [qJ] at hx; cases hx
theorem HM:∀ q x y,x∈P ps q->y∈P ps q->par ps x=par ps y->x=y:=by
 intro q
 induction q using MG with
 | _ q ih =>
  intro x y hx hy e;by_cases hq:1<=q
  ·have hlt:=iK ok hq;have hx1:=DW ok _ _ hx;have hy1:=DW ok _ _ hy;have px:=iK ok hx1;have py:=iK ok hy1;rw [gC ok hq] at hx hy;rcases LX.mp hx with zx | zx <;> rcases LX.mp hy with zy | zy
   ·exact ih _ hlt x y zx zy e
   ·rw [LD] at zy
    have:=FA ok _ _ zx
    rw [zy] at e; omega
   ·rw [LD] at zx
    have:=FA ok _ _ zy
    rw [zx] at e; omega
   ·rw [LD] at zx zy; rw [zx,zy]
  ·have:q=0:=by omega
   subst this;rw [qJ] at hx; cases hx
omit ok in
theorem DB (a:Nat):(chN (stF ps) a).Nodup:=by
 have h:((stF ps).map (·.1)).Nodup:=by
  unfold stF;rw [LK];exact List.Pairwise.map _ (λ i j hij=>by show i+1≠j+1; omega) (List.nodup_range (n:=ps.length))
 exact h.sublist ((NJ).map _)
omit ok in
theorem xV {α β:Type} {p:α->Prop} [DecidablePred p] {B:List β} {x:α}:∀ {l:List α},l.Nodup->x∈l->p x->(∀ y∈l,p y->y=x)->l.flatMap (λ y=>if p y then B else [])=B
 | [],_,h,_,_=>by cases h
 | y::l,nd,h,hp,hu=>by
  rw [Mq];have nd':=Mf.mp nd;by_cases hy:y=x
  ·subst hy;rw [if_pos hp,p6 (f:=λ y=>if p y then B else []) λ z hz=>?_,LY];rw [if_neg λ hz'=>?_]
   have:=hu z (La _ hz) hz'
   subst this;exact nd'.1 hz
  ·rw [if_neg λ hz=>hy (hu y Lc hz),Ny];refine xV nd'.2 ?_ hp λ z hz=>hu z (La _ hz);rcases LA.mp h with z | z
   ·exact absurd z.symm hy
   ·exact z
theorem DF {q:Nat}:∀ n a,1<=a->a<=ps.length->q∈P ps a->∀ x∈blF (stF ps) n a,q∈P ps x
 | 0,_,_,_,_,x,hx=>by cases hx
 | n+1,a,h1,h2,hq,x,hx=>by
  rcases LA.mp hx with z | z
  ·rw [z]; exact hq
  ·obtain ⟨y,hy,hx⟩:=Mi.mp z;have m:=eF ok hy;exact DF n y m.1 m.2.1 (by rw [gC ok m.1,m.2.2.1]; exact L0 _ hq) x hx
theorem xN {q:Nat} (hq:In ps q):∀ n a,q∉P ps a->ps.length<=n+a->a<=ps.length ->
  (kids (stF ps) n a).filter (λ x=>decide (q∈P ps x))=if a=0\/a∈P ps q then blF (stF ps) 13 q else []:=by
 intro n
 induction n with
 | zero =>
  intro a hn hl ha;have e:a=ps.length:=by omega
  have hk:kids (stF ps) 0 a=[]:=by unfold kids; exact p6 λ x _=>rfl
  rw [hk,List.filter_nil,if_neg]
  rintro (z | z)
  ·have:=hq.1; have:=hq.2; omega
  ·have:=FA ok _ _ z
   have e2:a=q:=by have:=hq.2; omega
   exact hn (by rw [e2]; exact qK ok hq.1)
 | succ n ih =>
  intro a hn hl ha;have one:∀ x∈chN (stF ps) a,(blF (stF ps) (n+1) x).filter (λ x=>decide (q∈P ps x))=if x∈P ps q then blF (stF ps) 13 q else []:=λ x hx=>by
   have m:=eF ok hx;by_cases hxq:x=q
   ·subst hxq;rw [if_pos (qK ok m.1),List.filter_eq_self.mpr λ y hy=>decide_eq_true (DF ok _ _ m.1 m.2.1 (qK ok m.1) y hy)]
    have:=ok.len
    exact DG ok _ _ _ m.1 (by omega) (by omega) m.2.1
   ·have hnx:q∉P ps x:=by
     rw [gC ok m.1,m.2.2.1];intro z;rcases LX.mp z with z | z
     ·exact hn z
     ·rw [LD] at z; exact hxq z.symm
    show (x::kids (stF ps) n x).filter _=_;rw [Nm (by simpa using hnx),ih x hnx (by omega) m.2.1]
    have:x≠0:=by have:=m.1; omega
    simp only [this,false_or]
  unfold kids;rw [List.filter_flatMap,oZ one];by_cases hc:a=0\/a∈P ps q
  ·rw [if_pos hc];have hne:a≠q:=by
    rintro rfl
    exact hn (qK ok hq.1)
   obtain ⟨x,hx,e⟩:=HN ok q hq.1 a hc hne;have hx1:=DW ok _ _ hx;have hxl:x<=ps.length:=LS (FA ok _ _ hx) hq.2;refine xV (x:=x) (DB a) (by rw [<- e]; exact CQ hx1 hxl) hx λ y hy hyq=>?_;have m:=eF ok hy;exact HM ok q y x hyq hx (m.2.2.1.trans e.symm)
  ·rw [if_neg hc];refine p6 λ x hx=>?_;have m:=eF ok hx;rw [if_neg λ hxq=>?_]
   have:=J9 ok q x hxq
   rw [m.2.2.1] at this;exact hc this
theorem DH {q:Nat} (hq:In ps q):(kids (stF ps) 13 0).filter (λ x=>decide (q∈P ps x))=blF (stF ps) 13 q:=by
 have:=ok.len
 rw [xN ok hq 13 0 (by rw [qJ]; exact λ z=>by cases z) (by omega) (by omega),if_pos (.inl rfl)]
end
section
variable {c:Sc} {ps:List Nat} (t:TrS c ps)
include t
theorem blw {q:Nat} (hq:In ps q):wy c.st 13 q=some (blF (stF ps) 13 q):=by
 have:=t.ps.len
 rw [t.st]; exact wx t.ps 13 q hq.1 hq.2 (by omega)
theorem Fz {q:Nat} (hq:In ps q):aO 13 [c.d,c.s q]=some (c.S (blF (stF ps) 13 q)):=kP t.ok 13 q _ (blw t hq)
theorem AN {q x:Nat} (hq:In ps q) (hx:In ps x):x∈blF (stF ps) 13 q↔q∈P ps x:=by
 have h12:=t.ps.len;rw [<- DH t.ps hq,LZ,decide_eq_true_eq];exact ⟨λ h=>h.2,λ h=>⟨xy t.ps 13 x hx.1 hx.2 (by have:=hx.2; omega),h⟩⟩
theorem yB {q:Nat} (hq:In ps q) (l r:Int):b4 [c.d,c.s q,.int l,.int r]=some (c.put q l r).d:=by
 have hp:og c.st q=some (par ps q):=by rw [t.st]; exact nY hq.1 hq.2
 have hu:∀ x∈c.st,x.1=q->x.2=par ps q:=λ x hx e=>by rw [t.st] at hx; rw [(qh hx).2.2,e]
 have e1:=jB t.ok hp;have e2:a8 [c.d,(c.put q l r).box (q,par ps q)]=some (c.put q l r).d:=uj t.ok rfl rfl hu λ x _ hx=>by
  unfold Sc.box Sc.put D9;dsimp only;rw [if_neg hx,if_neg hx]
 have e3:(c.put q l r).box (q,par ps q)=.tuple [.str (c.nm q),.str (c.nm (par ps q)),.int l,.int r,.int (c.W q),.int (c.H q),.str (c.mr q)]:=by
  unfold Sc.box Sc.put D9;dsimp only;rw [if_pos rfl,if_pos rfl]
 rw [e3] at e2;refine fY rfl (show nG ak a8 [.val c.d,.val (c.s q),.val (.int l),.val (.int r),.un]=_ from br (cz (ay (ae rfl (ae rfl rfl)) e1)) (gP (ay (ae rfl (ae ?_ rfl)) e2)));exact ai (ai (zk rfl rfl (z8 rfl) rfl) (ay (ae rfl (ae rfl rfl)) (f7 (by simp))) (zu (by simp [Dy,HT.sIx]))) (zk rfl (z8 rfl) rfl rfl) rfl
end
structure Bx where
 nm:Str
 ar:Str
 l:Int
 t:Int
 w:Int
 h:Int
 mr:Str
noncomputable def Bx.d (b:Bx):K5:=.tuple [.str b.nm,.str b.ar,.int b.l,.int b.t,.int b.w,.int b.h,.str b.mr]
structure VB (bs:List Bx):Prop where
 len:bs.length<=12
 nd:(bs.map (·.nm)).Nodup
 one:∀ b∈bs,(1<=b.nm.length/\b.nm.length<=1)/\Lq b.nm=true/\Lq b.mr=true
 ar:∀ (i:Nat) b,bs[i]?=some b->b.ar = "" \/ ∃ j b',j < i/\bs[j]?=some b'/\b'.nm=b.ar
noncomputable def nmB (bs:List Bx) (a:Nat):Str:=if a=0 then "" else match bs[a - 1]? with
 | some b=>b.nm
 | none=>⟨(Mm (a+3) 97).toArray⟩
noncomputable def psB (bs:List Bx):List Nat:=bs.map λ b=>if b.ar=("" : Str) then 0 else (bs.map (·.nm)).idxOf b.ar+1
noncomputable def scB (bs:List Bx):Sc:=⟨stF (psB bs),nmB bs,λ i=>((bs[i - 1]?).map (·.l)).getD 0,λ i=>((bs[i - 1]?).map (·.t)).getD 0,λ i=>((bs[i - 1]?).map (·.w)).getD 0,λ i=>((bs[i - 1]?).map (·.h)).getD 0,λ i=>((bs[i - 1]?).map (·.mr)).getD ""⟩
theorem k8 {bs:List Bx} {i:Nat} {b:Bx} (h:bs[i]?=some b):nmB bs (i+1)=b.nm:=by
 unfold nmB;rw [if_neg (by omega),show i+1 - 1=i from rfl,h]
theorem Jb:("" : Str).length=0:=by decide
theorem y0 {bs:List Bx} (v:VB bs) (a:Nat):(a=0/\(nmB bs a).length=0)\/((∃ b,bs[a - 1]?=some b/\nmB bs a=b.nm/\b∈bs)/\1<=a/\(1<=(nmB bs a).length/\(nmB bs a).length<=1))\/(1<=a/\bs[a - 1]?=none/\(nmB bs a).length=a+3):=by
 by_cases h:a=0
 ·exact .inl ⟨h,by unfold nmB; rw [if_pos h]; exact Jb⟩
 ·cases hb:bs[a - 1]? with
  | some b =>
   have e:nmB bs a=b.nm:=by unfold nmB; rw [if_neg h,hb]
   have hm:=LG hb;exact .inr (.inl ⟨⟨b,rfl,e,hm⟩,by omega,by rw [e]; exact (v.one b hm).1⟩)
  | none =>
   refine .inr (.inr ⟨by omega,rfl,?_⟩);unfold nmB;rw [if_neg h,hb];show (Mm (a+3) 97).toArray.size=a+3
   simp
theorem si {bs:List Bx} (v:VB bs):∀ a b,nmB bs a=nmB bs b->a=b:=λ a b e=>by
 have s:(nmB bs a).length=(nmB bs b).length:=by rw [e]
 rcases y0 v a with ⟨ha,la⟩ | ⟨⟨x,hx,ex,_⟩,ha,la⟩ | ⟨ha,_,la⟩ <;> rcases y0 v b with ⟨hb,lb⟩ | ⟨⟨y,hy,ey,_⟩,hb,lb⟩ | ⟨hb,_,lb⟩
 ·omega
 ·omega
 ·omega
 ·omega
 ·have h1:(bs.map (·.nm))[a - 1]?=some x.nm:=by rw [Le,hx]; rfl
  have h2:(bs.map (·.nm))[b - 1]?=some y.nm:=by rw [Le,hy]; rfl
  rw [ex,ey] at e;rw [<- e] at h2;have hlt:a - 1 < (bs.map (·.nm)).length:=by
   rw [K7];exact (Lb.mp hx).1
  have:=(MQ hlt v.nd).mp (h1.trans h2.symm)
  omega
 ·omega
 ·omega
 ·omega
 ·omega
theorem kT (bs:List Bx):(psB bs).length=bs.length:=K7 ..
theorem vO {bs:List Bx} (v:VB bs) {i:Nat} {b:Bx} (h:bs[i]?=some b):(psB bs).getD i 0<=i/\nmB bs ((psB bs).getD i 0)=b.ar:=by
 have e:(psB bs).getD i 0=if b.ar=("" : Str) then 0 else (bs.map (·.nm)).idxOf b.ar+1:=by
  unfold psB;rw [Lk,Le,h]; rfl
 rw [e];by_cases ha:b.ar = ""
 ·rw [if_pos ha];exact ⟨Ml _,ha.symm⟩
 ·rw [if_neg ha];obtain ⟨j,b',hj,hb,en⟩:=(v.ar i b h).resolve_left ha;have hm:(bs.map (·.nm))[j]?=some b.ar:=by rw [Le,hb]; show some b'.nm=_; rw [en]
  have hin:b.ar∈bs.map (·.nm):=LG hm;have hl:=List.idxOf_lt_length_of_mem hin;have hg:(bs.map (·.nm))[(bs.map (·.nm)).idxOf b.ar]?=some b.ar:=by
   rw [K9 hl,List.getElem_idxOf hl]
  have:=(MQ hl v.nd).mp (hg.trans hm.symm)
  rw [this];exact ⟨hj,(k8 hb).trans en⟩
theorem mR {bs:List Bx} (v:VB bs):uc (psB bs):=⟨by rw [kT]; exact v.len,λ i=>by
 cases h:bs[i]? with
 | some b=>exact (vO v h).1
 | none =>
  have:(psB bs)[i]?=none:=by unfold psB; rw [Le,h]; rfl
  rw [Lk,this]; exact Ml _⟩
theorem oV {bs:List Bx} (v:VB bs):(scB bs).Ok:=⟨si v,rfl,λ a=>by
  show Lq (nmB bs a)=true;rcases y0 v a with ⟨h,_⟩ | ⟨⟨b,_,e,hm⟩,_,_⟩ | ⟨h,hb,_⟩
  ·rw [h]; show Lq ("" : Str)=true; decide +kernel
  ·rw [e]; exact (v.one b hm).2.1
  ·unfold nmB;rw [if_neg (by omega),hb];unfold Lq;rw [Array.all_eq_true];intro i hi
   simp,λ a=>by
  show Lq (((bs[a - 1]?).map (·.mr)).getD "")=true;cases h:bs[a - 1]? with
  | some b=>exact (v.one b (LG h)).2.2
  | none=>show Lq ("" : Str)=true; decide +kernel,by
  show (stF (psB bs)).length<=12;unfold stF;rw [K7,LW,kT]; exact v.len⟩
theorem sI {bs:List Bx} (v:VB bs):(scB bs).d=.tuple (bs.map Bx.d):=by
 unfold Sc.d;show PyData.tuple ((stF (psB bs)).map (scB bs).box)=_
 congr 1
 refine List.ext_getElem? λ i=>?_;rw [Le,Le];unfold stF;rw [Le,kT];cases h:bs[i]? with
 | none =>
  have:=List.getElem?_eq_none_iff.mp h
  rw [LN (by rw [LW]; exact this)]; rfl
 | some b =>
  have hl:=(Lb.mp h).1;rw [Mt hl];show some ((scB bs).box (i+1,(psB bs).getD i 0))=some b.d;unfold Sc.box scB Bx.d;dsimp only;rw [k8 h,(vO v h).2,show i+1 - 1=i from rfl,h];rfl
noncomputable def up:List Str->List Bx->Prop
 | _,[]=>True
 | seen,b::r=>(b.ar=("" : Str)\/b.ar∈seen)/\up (seen++[b.nm]) r
theorem FD:∀ {bs:List Bx} {seen:List Str},up seen bs->∀ (i:Nat) b,bs[i]?=some b->b.ar = "" \/ b.ar∈seen\/∃ j b',j < i/\bs[j]?=some b'/\b'.nm=b.ar
 | [],_,_,i,b,h=>by simp at h
 | b0::r,seen,⟨h1,h2⟩,0,b,h=>by
  have:b0=b:=by simpa using h
  subst this;exact h1.imp_right .inl
 | b0::r,seen,⟨h1,h2⟩,i+1,b,h=>by
  rcases FD h2 i b (by simpa using h) with z | z | ⟨j,b',hj,hb,e⟩
  ·exact .inl z
  ·rcases LX.mp z with y | y
   ·exact .inr (.inl y)
   ·have y:b.ar=b0.nm:=by simpa using y
    exact .inr (.inr ⟨0,b0,by omega,by simp,y.symm⟩)
  ·exact .inr (.inr ⟨j+1,b',by omega,by simpa using hb,e⟩)
theorem FX:∀ {bs:List Bx} {seen:List Str},(∀ (i:Nat) b,bs[i]?=some b->b.ar = "" \/ b.ar∈seen\/∃ j b',j < i/\bs[j]?=some b'/\b'.nm=b.ar)->up seen bs
 | [],_,_=>trivial
 | b0::r,seen,h=>by
  refine ⟨?_,FX λ i b hb=>?_⟩
  ·rcases h 0 b0 (by simp) with z | z | ⟨j,_,hj,_⟩
   ·exact .inl z
   ·exact .inr z
   ·omega
  ·rcases h (i+1) b (by simpa using hb) with z | z | ⟨j,b',hj,hb',e⟩
   ·exact .inl z
   ·exact .inr (.inl (L0 _ z))
   ·cases j with
    | zero =>
     have:b0=b':=by simpa using hb'
     subst this;exact .inr (.inl (LR _ (by simp [e])))
    | succ j=>exact .inr (.inr ⟨j,b',by omega,by simpa using hb',e⟩)
theorem VB.up {bs:List Bx} (v:VB bs):up [] bs:=FX λ i b h=>(v.ar i b h).imp_right .inr
theorem VB.of {bs:List Bx} (hl:bs.length<=12) (nd:(bs.map (·.nm)).Nodup) (one:∀ b∈bs,(1<=b.nm.length/\b.nm.length<=1)/\Lq b.nm=true/\Lq b.mr=true) (h:K56.up [] bs):VB bs :=
 ⟨hl,nd,one,λ i b hb=>(FD h i b hb).imp_right λ z=>z.resolve_left (by simp)⟩
theorem yD:∀ {as bs:List Bx} {seen:List Str},up seen as->up (seen++as.map (·.nm)) bs->up seen (as++bs)
 | [],bs,seen,_,h=>by simpa using h
 | a::r,bs,seen,⟨h1,h2⟩,h=>⟨h1,yD h2 (by rw [Ma]; exact h)⟩
theorem qf {G:Str->Prop} {p:Bx->Bool}:∀ {bs:List Bx} {seen seen':List Str},(∀ x∈seen,G x->x∈seen')->(∀ b∈bs,G b.nm->p b=true)->(∀ b∈bs,p b=true->b.ar = "" \/ G b.ar)->up seen bs->up seen' (bs.filter p)
 | [],_,_,_,_,_,_=>trivial
 | b::r,seen,seen',hs,hn,ha,⟨h1,h2⟩=>by
  have tl1:=λ b' hb'=>hn b' (La _ hb');have tl2:=λ b' hb'=>ha b' (La _ hb');cases hp:p b with
  | true =>
   rw [List.filter_cons_of_pos hp];refine ⟨?_,qf (λ x hx g=>?_) tl1 tl2 h2⟩
   ·rcases h1 with z | z
    ·exact .inl z
    ·exact (ha b Lc hp).imp_right λ g=>hs _ z g
   ·rcases LX.mp hx with y | y
    ·exact L0 _ (hs x y g)
    ·exact LR _ y
  | false =>
   rw [Nm (by rw [hp]; decide)];refine qf (λ x hx g=>?_) tl1 tl2 h2;rcases LX.mp hx with y | y
   ·exact hs x y g
   ·have:x=b.nm:=by simpa using y
    rw [this] at g;rw [hn b Lc g] at hp;cases hp
theorem vC {p:Bx->Bool}:∀ {bs:List Bx} {seen seen':List Str},(∀ x∈seen,x∈seen')->(∀ b∈bs,p b=false->b.nm∈seen')->up seen bs->up seen' (bs.filter p)
 | [],_,_,_,_,_=>trivial
 | b::r,seen,seen',hs,hn,⟨h1,h2⟩=>by
  have tl:=λ b' hb'=>hn b' (La _ hb');cases hp:p b with
  | true =>
   rw [List.filter_cons_of_pos hp];refine ⟨h1.imp_right (hs _),vC (λ x hx=>?_) (λ b' hb' e=>L0 _ (tl b' hb' e)) h2⟩;rcases LX.mp hx with y | y
   ·exact L0 _ (hs x y)
   ·exact LR _ y
  | false =>
   rw [Nm (by rw [hp]; decide)];refine vC (λ x hx=>?_) tl h2;rcases LX.mp hx with y | y
   ·exact hs x y
   ·have:x=b.nm:=by simpa using y
    rw [this]; exact hn b Lc hp
theorem VB.more {bs:List Bx} (v:VB bs) {b:Bx} (hl:bs.length < 12) (hn:b.nm∉bs.map (·.nm)) (ha:b.ar = "" \/ b.ar∈bs.map (·.nm)) (h1:(1<=b.nm.length/\b.nm.length<=1)/\Lq b.nm=true/\Lq b.mr=true):VB (bs++[b]):=by
 refine VB.of (by simp; omega) ?_ (λ x hx=>?_) (yD v.up ⟨by simpa using ha,trivial⟩)
 ·rw [LJ,M4];refine ⟨v.nd,by simp,λ x hx y hy e=>?_⟩
  have:y=b.nm:=by simpa using hy
  rw [e,this] at hx;exact hn hx
 ·rcases LX.mp hx with z | z
  ·exact v.one x z
  ·have:x=b:=by simpa using z
   rw [this]; exact h1
theorem VB.cut {bs:List Bx} (v:VB bs) {p:Bx->Bool} (h:∀ b∈bs,p b=true->b.ar = "" \/ ∃ b'∈bs,b'.nm=b.ar/\p b'=true):VB (bs.filter p):=by
 refine VB.of (LS (Mr ..) v.len) (v.nd.sublist (List.Sublist.map _ NJ)) (λ x hx=>v.one x (LZ.mp hx).1) (qf (G:=λ x=>∃ b'∈bs,b'.nm=x/\p b'=true) (λ x hx=>by cases hx) (λ b hb g=>?_) h v.up);obtain ⟨b',hb',e,hp⟩:=g;obtain ⟨i,hi⟩:=Mw.mp hb;obtain ⟨j,hj⟩:=Mw.mp hb';have h1:(bs.map (·.nm))[i]?=some b.nm:=by rw [Le,hi]; rfl
 have h2:(bs.map (·.nm))[j]?=some b.nm:=by rw [Le,hj]; show some b'.nm=_; rw [e]
 have hlt:i < (bs.map (·.nm)).length:=by rw [K7]; exact (Lb.mp hi).1
 have:=(MQ hlt v.nd).mp (h1.trans h2.symm)
 rw [this,hj] at hi;cases hi;exact hp
theorem VB.lift {bs:List Bx} (v:VB bs) {p:Bx->Bool} (h:∀ b∈bs,p b=false->b.ar = "" \/ ∃ b'∈bs,b'.nm=b.ar/\p b'=false):VB (bs.filter (λ b=>!p b)++bs.filter p):=by
 have c:=v.cut (p:=λ b=>!p b) (λ b hb hp=>(h b hb (by simpa using hp)).imp_right λ ⟨b',x,y,z⟩=>⟨b',x,y,by rw [z]; rfl⟩);have pm:(bs.filter (λ b=>!p b)++bs.filter p).Perm bs:=(List.perm_append_comm).trans (List.filter_append_perm p bs);refine VB.of (by rw [pm.length_eq]; exact v.len) ((pm.map _).nodup_iff.mpr v.nd) (λ x hx=>v.one x (pm.mem_iff.mp hx)) (yD c.up ?_);refine vC (seen:=[]) (λ x hx=>by cases hx) (λ b hb e=>?_) v.up;rw [Ny];exact LI.mpr ⟨b,LZ.mpr ⟨hb,by rw [e]; rfl⟩,rfl⟩
theorem VB.same {bs:List Bx} (v:VB bs) {f:Bx->Bx} (hf:∀ b∈bs,(f b).nm=b.nm/\(f b).ar=b.ar/\Lq (f b).mr=true):VB (bs.map f):=by
 have hn:(bs.map f).map (·.nm)=bs.map (·.nm):=by
  rw [LK];exact LQ λ b hb=>(hf b hb).1
 refine ⟨by rw [K7]; exact v.len,by rw [hn]; exact v.nd,λ b hb=>?_,λ i b h=>?_⟩
 ·obtain ⟨x,hx,rfl⟩:=LI.mp hb;obtain ⟨e1,_,e3⟩:=hf x hx;rw [e1];exact ⟨(v.one x hx).1,(v.one x hx).2.1,e3⟩
 ·rw [Le] at h;obtain ⟨x,hx,rfl⟩:=Option.map_eq_some_iff.mp h;obtain ⟨_,e2,_⟩:=hf x (LG hx);rw [e2];refine (v.ar i x hx).imp_right λ ⟨j,y,hj,hy,e⟩=>⟨j,f y,hj,by rw [Le,hy]; rfl,?_⟩;rw [(hf y (LG hy)).1,e]
noncomputable def SD (bs:List Bx):K5:=.tuple (bs.map Bx.d)
theorem filt {α β γ:Type} (f:α->γ) (h:β->γ) (p:α->Bool) (q:β->Bool):∀ (as:List α) (bs:List β),as.length=bs.length->(∀ (i:Nat) a b,as[i]?=some a->bs[i]?=some b->f a=h b/\p a=q b)->(as.filter p).map f=(bs.filter q).map h
 | [],[],_,_=>rfl
 | [],_::_,e,_=>by cases e
 | _::_,[],e,_=>by cases e
 | a::as,b::bs,e,H=>by
  obtain ⟨e1,e2⟩:=H 0 a b rfl rfl;have ih:=filt f h p q as bs (by simpa using e) λ i a b h1 h2=>H (i+1) a b (by simpa using h1) (by simpa using h2);rw [M7,M7,e2];cases q b with
  | true=>rw [if_pos rfl,if_pos rfl,Ln,Ln,e1,ih]
  | false=>rw [if_neg (by decide),if_neg (by decide),ih]
theorem mapt {α β γ:Type} (f:α->γ) (h:β->γ) (as:List α) (bs:List β) (hl:as.length=bs.length) (H:∀ (i:Nat) a b,as[i]?=some a->bs[i]?=some b->f a=h b):as.map f=bs.map h:=by
 have:=filt f h (λ _=>true) (λ _=>true) as bs hl λ i a b h1 h2=>⟨H i a b h1 h2,rfl⟩
 rwa [show as.filter (λ _=>true)=as by simp,show bs.filter (λ _=>true)=bs by simp] at this
theorem trB {bs:List Bx} (v:VB bs):TrS (scB bs) (psB bs):=⟨oV v,rfl,mR v⟩
theorem r9 (bs:List Bx):(stF (psB bs)).length=bs.length:=by
 unfold stF;rw [K7,LW,kT]
theorem stB {bs:List Bx} {i:Nat} {x:Nat×Nat} (h:(stF (psB bs))[i]?=some x):x=(i+1,(psB bs).getD i 0):=by
 have hl:=(Lb.mp h).1;rw [r9] at hl;unfold stF at h;rw [Le,kT,Mt hl] at h;exact (Option.some.inj h).symm
theorem Fp {bs:List Bx} (v:VB bs) {i:Nat} {b:Bx} (h:bs[i]?=some b):(scB bs).box (i+1,(psB bs).getD i 0)=b.d:=by
 unfold Sc.box scB Bx.d;dsimp only;rw [k8 h,(vO v h).2,show i+1 - 1=i from rfl,h];rfl
theorem inB {bs:List Bx} {i:Nat} {b:Bx} (h:bs[i]?=some b):In (psB bs) (i+1):=⟨by omega,by rw [kT]; exact (Lb.mp h).1⟩
theorem sB {bs:List Bx} {i:Nat} {b:Bx} (h:bs[i]?=some b):(scB bs).s (i+1)=.str b.nm:=by
 show PyData.str (nmB bs (i+1))=_;rw [k8 h]
section
variable {bs:List Bx} (v:VB bs) {i0:Nat} {b0:Bx} (h0:bs[i0]?=some b0)
include v h0
theorem Gb:ak [SD bs,.str b0.nm]=some b0.d:=by
 have:=J7 (trB v) (inB h0)
 rw [sI v,sB h0] at this;rw [show SD bs=PyData.tuple (bs.map Bx.d) from rfl,this];exact congrArg some (Fp v h0)
noncomputable def gone (bs:List Bx) (i:Nat):List Str:=(blF (stF (psB bs)) 13 (i+1)).map (nmB bs)
theorem tK {i:Nat} {b:Bx} (h:bs[i]?=some b):b.nm∈gone bs i0↔i+1∈blF (stF (psB bs)) 13 (i0+1):=by
 unfold gone;rw [LI]
 constructor
 ·rintro ⟨x,hx,e⟩
  rw [<- k8 h] at e;rw [<- si v _ _ e]; exact hx
 ·exact λ hx=>⟨i+1,hx,k8 h⟩
theorem AB {i:Nat} {b:Bx} (h:bs[i]?=some b) (hn:b.nm∉gone bs i0):b.ar = "" \/ ∃ b'∈bs,b'.nm=b.ar/\b'.nm∉gone bs i0:=by
 refine (v.ar i b h).imp_right λ ⟨j,b',hj,hb,e⟩=>⟨b',LG hb,e,λ z=>hn ?_⟩;rw [tK v h0 hb,AN (trB v) (inB h0) (inB hb)] at z;rw [tK v h0 h,AN (trB v) (inB h0) (inB h)];have e1:par (psB bs) (i+1)=j+1:=si v _ _ (by rw [k8 hb,e]; exact (vO v h).2);rw [gC (mR v) (by omega),e1];exact L0 _ z
theorem AW:aO 13 [SD bs,.str b0.nm]=some (.list ((gone bs i0).map PyData.str)):=by
 have:=Fz (trB v) (inB h0)
 rw [sI v,sB h0] at this;rw [show SD bs=PyData.tuple (bs.map Bx.d) from rfl,this];unfold Sc.S gone;rw [LK]; rfl
theorem Cj (neg:Bool):((stF (psB bs)).filter λ x=>if neg then !decide (x.1∈blF (stF (psB bs)) 13 (i0+1)) else decide (x.1∈blF (stF (psB bs)) 13 (i0+1))).map (scB bs).box=(bs.filter λ b=>if neg then !decide (b.nm∈gone bs i0) else decide (b.nm∈gone bs i0)).map Bx.d:=by
 refine filt _ _ _ _ _ _ (r9 bs) λ i x b h1 h2=>?_;obtain rfl:=stB h1;refine ⟨Fp v h2,?_⟩
 have:decide (i+1∈blF (stF (psB bs)) 13 (i0+1))=decide (b.nm∈gone bs i0):=by
  rw [decide_eq_decide]; exact (tK v h0 h2).symm
 dsimp only;rw [this]
noncomputable def Je (bs:List Bx) (i:Nat):List Bx:=bs.filter λ b=>!decide (b.nm∈gone bs i)
noncomputable def Gv (bs:List Bx) (i:Nat):List Bx:=(bs.filter λ b=>!decide (b.nm∈gone bs i))++bs.filter λ b=>decide (b.nm∈gone bs i)
theorem AI:VB (Je bs i0):=v.cut λ b hb hp=>by
 obtain ⟨i,hi⟩:=Mw.mp hb;refine (AB v h0 hi (by simpa using hp)).imp_right λ ⟨b',h1,h2,h3⟩=>⟨b',h1,h2,by simpa using h3⟩
theorem Et:VB (Gv bs i0):=v.lift (p:=λ b=>decide (b.nm∈gone bs i0)) λ b hb hp=>by
 obtain ⟨i,hi⟩:=Mw.mp hb;refine (AB v h0 hi (by simpa using hp)).imp_right λ ⟨b',h1,h2,h3⟩=>⟨b',h1,h2,by simpa using h3⟩
theorem Ga:dR [SD bs,.str b0.nm]=some (SD (Je bs i0)):=by
 have e:Fl (scB bs).st (i0+1)=some ((stF (psB bs)).filter λ x=>!decide (x.1∈blF (stF (psB bs)) 13 (i0+1))):=by
  unfold Fl;rw [blw (trB v) (inB h0)]; rfl
 have:=yC (oV v) e
 rw [sI v,sB h0] at this;rw [show SD bs=PyData.tuple (bs.map Bx.d) from rfl,this];exact congrArg (λ l=>some (PyData.tuple l)) (Cj v h0 true)
theorem D1:df [SD bs,.str b0.nm]=some (SD (Gv bs i0)):=by
 have e:Gu (scB bs).st (i0+1)=some ((stF (psB bs)).filter (λ x=>!decide (x.1∈blF (stF (psB bs)) 13 (i0+1)))++(stF (psB bs)).filter λ x=>decide (x.1∈blF (stF (psB bs)) 13 (i0+1))):=by
  unfold Gu;rw [blw (trB v) (inB h0)]; rfl
 have:=yA (oV v) e
 rw [sI v,sB h0] at this;rw [show SD bs=PyData.tuple (bs.map Bx.d) from rfl,this];refine congrArg (λ l=>some (PyData.tuple l)) ?_;show List.map (scB bs).box ((stF (psB bs)).filter (λ x=>!decide (x.1∈blF (stF (psB bs)) 13 (i0+1)))++(stF (psB bs)).filter λ x=>decide (x.1∈blF (stF (psB bs)) 13 (i0+1)))=_;rw [LJ];unfold Gv;rw [LJ];exact congr (congrArg (·++·) (Cj v h0 true)) (Cj v h0 false)
noncomputable def DA (bs:List Bx) (n:Str) (f:Bx->Bx):List Bx:=bs.map λ b=>if b.nm=n then f b else b
theorem AM {f:Bx->Bx} (hf:∀ b∈bs,(f b).nm=b.nm/\(f b).ar=b.ar/\Lq (f b).mr=true):VB (DA bs b0.nm f):=v.same λ b hb=>by
 split
 ·exact hf b hb
 ·exact ⟨rfl,rfl,(v.one b hb).2.2⟩
theorem CH {i:Nat} {b:Bx} (h:bs[i]?=some b):b.nm=b0.nm↔i+1=i0+1:=by
 rw [<- k8 h,<- k8 h0];exact ⟨λ e=>si v _ _ e,λ e=>by rw [e]⟩
theorem D2 (m:Str):dg [SD bs,.str b0.nm,.str m]=some (SD (DA bs b0.nm λ b=>{ b with mr:=m })):=by
 have hp:og (scB bs).st (i0+1)=some (par (psB bs) (i0+1)):=nY (inB h0).1 (inB h0).2
 have:=BF (oV v) (m:=m) hp λ x hx e=>by rw [(qh hx).2.2,e]
 rw [sI v,sB h0] at this;rw [show SD bs=PyData.tuple (bs.map Bx.d) from rfl,this];unfold SD DA;rw [LK];refine congrArg (λ l=>some (PyData.tuple l)) (mapt _ _ _ _ (r9 bs) λ i x b h1 h2=>?_);obtain rfl:=stB h1;have hb:=Fp v h2;unfold Sc.box Bx.d at hb;show PyData.tuple [.str (nmB bs (i+1)),.str (nmB bs ((psB bs).getD i 0)),.int ((scB bs).L (i+1)),.int ((scB bs).T (i+1)),.int ((scB bs).W (i+1)),.int ((scB bs).H (i+1)),.str (if i+1=i0+1 then m else (scB bs).mr (i+1))]=Bx.d (if b.nm=b0.nm then _ else _);have k:=CH v h0 h2;injection hb with hb
 simp only [List.cons.injEq,and_true] at hb;obtain ⟨e1,e2,e3,e4,e5,e6,e7⟩:=hb;by_cases hq:i+1=i0+1
 ·rw [if_pos hq,if_pos (k.mpr hq)];unfold Bx.d;show PyData.tuple [_,_,_,_,_,_,_]=_;rw [show PyData.str (nmB bs (i+1))=_ from e1,show PyData.str (nmB bs ((psB bs).getD i 0))=_ from e2,e3,e4,e5,e6]
 ·rw [if_neg hq,if_neg (λ z=>hq (k.mp z))];unfold Bx.d;rw [show PyData.str (nmB bs (i+1))=_ from e1,show PyData.str (nmB bs ((psB bs).getD i 0))=_ from e2,e3,e4,e5,e6,e7]
theorem Ke (l t:Int):b4 [SD bs,.str b0.nm,.int l,.int t]=some (SD (DA bs b0.nm λ b=>{ b with l:=l,t:=t })):=by
 have:=yB (trB v) (inB h0) l t
 rw [sI v,sB h0] at this;rw [show SD bs=PyData.tuple (bs.map Bx.d) from rfl,this];unfold SD DA;rw [LK];refine congrArg (λ l=>some (PyData.tuple l)) (mapt _ _ _ _ (r9 bs) λ i x b h1 h2=>?_);obtain rfl:=stB h1;have hb:=Fp v h2;unfold Sc.box Bx.d at hb;show PyData.tuple [.str (nmB bs (i+1)),.str (nmB bs ((psB bs).getD i 0)),.int (if i+1=i0+1 then l else (scB bs).L (i+1)),.int (if i+1=i0+1 then t else (scB bs).T (i+1)),.int ((scB bs).W (i+1)),.int ((scB bs).H (i+1)),.str ((scB bs).mr (i+1))]=Bx.d (if b.nm=b0.nm then _ else _);have k:=CH v h0 h2;injection hb with hb
 simp only [List.cons.injEq,and_true] at hb;obtain ⟨e1,e2,e3,e4,e5,e6,e7⟩:=hb;by_cases hq:i+1=i0+1
 ·rw [if_pos hq,if_pos hq,if_pos (k.mpr hq)];unfold Bx.d;rw [show PyData.str (nmB bs (i+1))=_ from e1,show PyData.str (nmB bs ((psB bs).getD i 0))=_ from e2,e5,e6,e7]
 ·rw [if_neg hq,if_neg hq,if_neg (λ z=>hq (k.mp z))];unfold Bx.d;rw [show PyData.str (nmB bs (i+1))=_ from e1,show PyData.str (nmB bs ((psB bs).getD i 0))=_ from e2,e3,e4,e5,e6,e7]
end
theorem Jj (bs:List Bx):(bs.map Bx.d).length=bs.length:=K7 ..
theorem F9 {bs:List Bx} (v:VB bs) {n:Str} (hn:Lq n=true):c7 [SD bs,.str n]=some (.bool (decide (n∈bs.map (·.nm)))):=by
 have e:bf [none,some 1] (lI lj (eV 0)) (tgN 0) ci (l2 pEq (l2 pIx (eV 0) (eC (.int 0))) (eV 1)) [.val (SD bs),.val (.str n)]=some ((bs.map λ x=>decide (x.nm=n)).map PyData.bool):=by
  refine gN (ds:=bs.map Bx.d) (l8 rfl rfl) (by rw [K7]; have:=v.len; omega) ?_;rw [LK];exact nK Bx.d (λ x=>PyData.bool (decide (x.nm=n))) bs λ x hx=>⟨_,rfl,ai (ai rfl rfl rfl) rfl (vR (v.one x hx).2.1 hn)⟩
 refine fY rfl (show lT [.val (SD bs),.val (.str n)]=_ from gP (ay (ae (l6 e) rfl) ((Ae _).trans ?_)));rw [List.any_map]
 congr 2
 rw [MC,ML,decide_eq_true_eq,LI]
 simp
theorem GQ (i j:Int):pGe (.int i) (.int j)=some (.bool (decide (i ≥ j))):=rfl
theorem HV {bs:List Bx} (v:VB bs) {b:Bx} (hl:bs.length < 12) (hn:b.nm∉bs.map (·.nm)) (ha:b.ar = "" \/ b.ar∈bs.map (·.nm)) (h1:Lq b.nm=true) (h2:Lq b.ar=true):de [SD bs,b.d]=some (SD (bs++[b])):=by
 have e1:=F9 v h1;have e2:=F9 v h2;rw [decide_eq_false hn] at e1;refine fY rfl (show lf c7 [.val (SD bs),.val b.d,.un,.un]=_ from ?_);refine br (cz (d:=.str b.nm) (ai rfl rfl rfl)) (br (cz (d:=.str b.ar) (ai rfl rfl rfl)) ?_);show bt _ _ [.val (SD bs),.val b.d,.val (.str b.nm),.val (.str b.ar)]=_;refine br (ifN (eX (ay (ae rfl (ae rfl rfl)) e1))) (br (ifN ?_) (br (ifN (eX (ai (ay (ae rfl rfl) rfl) rfl ((GQ _ _).trans ?_)))) (gP (ai rfl (ay (ae rfl rfl) (f7 (by simp))) ?_))))
 ·have e3:bT (l2 pNe (eV 3) (eC (.str ""))) [.val (SD bs),.val b.d,.val (.str b.nm),.val (.str b.ar)]=some (!decide (b.ar = "")):=eX (ai rfl rfl (z9 h2 (by decide +kernel)));have e4:=wE (eX (ay (o:=c7) (η:=[.val (SD bs),.val b.d,.val (.str b.nm),.val (.str b.ar)]) (fs:=aC (eV 0) (aC (eV 3) aN)) (ae rfl (ae rfl rfl)) e2));rw [AR e3 e4];rcases ha with z | z
  ·rw [decide_eq_true z]; rfl
  ·rw [decide_eq_true z]; simp
 ·rw [Jj,decide_eq_false (by omega)]
 ·show az (.tuple (bs.map Bx.d)) (.tuple [b.d])=_;rw [zu (by rw [Jj]; show bs.length+1<=_; omega)];unfold SD;rw [LJ]; rfl
section
variable {w:Wd} {s s1 s2:Sto} {n k:Nat} {ds:List D} {d:D}
theorem sj {o:MF} {nm:Str} {fs:List (Str×D)} (h1:o w=some (.r n,s)) (h2:s[n]?=some (.obj k fs)) (h3:fs.lookup nm=some d):y8 o nm w=some (d,s):=by
 unfold y8;rw [h1,K8];dsimp only;rw [h2];dsimp only;rw [h3]; rfl
theorem CW {f:MF} (h1:f w=some (.r n,s)) (h2:s[n]?=some (.lst ds)):Am f w=some (!ds.isEmpty,s):=by
 unfold Am;rw [h1,K8];dsimp only;rw [h2]
theorem CY {f:MF} {ds:List D} {d:D} (h1:f w=some (.r n,s)) (h2:s[n]?=some (.lst (ds++[d]))):An f w=some (d,s.set n (.lst ds)):=by
 unfold An;rw [h1,K8];dsimp only;rw [h2];dsimp only;rw [show (ds++[d]).length - 1=ds.length by simp,Lx (Lp _),Mc,List.dropLast_concat];rfl
theorem xH {o g:MF} {ds0:List D} (h1:o w=some (.r n,s)) (h2:s[n]?=some (.lst ds0)) (h3:g ⟨w.η,s⟩=some (d,s1)) (h4:s1[n]?=some (.lst ds)) (hl:ds.length<=3000000):xI o g w=some (.d .none,s1.set n (.lst (ds++[d]))):=by
 unfold xI;rw [h1,K8];dsimp only;rw [h2];dsimp only;rw [h3,K8];dsimp only;rw [h4];dsimp only;rw [if_pos (Nat.lt_of_le_of_lt hl (by show 3000000 < 2 ^ 24; decide))]
theorem mN0:mN (λ η=>(aN η).bind gL) w=some (.r w.s.length,w.s++[.lst []]):=rfl
theorem BR {f:MTF} {b:Bool} (h:f w=some (b,s)):zC f w=some (!b,s):=by
 unfold zC;rw [h]; rfl
theorem C2 {fn:DFn} {fs:MFs} {r:Option (D×Sto)} (h1:fs w=some (ds,s1)) (h2:fn ds s1=r):uW fn fs w=r:=by
 unfold uW;rw [h1]; exact h2
end
structure Ad where
 p:Nat
 n:Nat
 u:Nat
noncomputable abbrev Ad.l (a:Ad):List Nat:=[a.p,a.n,a.u]
noncomputable def pf (sc:K5) (n u:Nat):List (Str×D):=[("scene", .d sc),("done", .r n),("undone", .r u)]
noncomputable def rw1 (x:Str×K5):D:=.d (.tuple [.str x.1,x.2])
structure Pl (s:Sto) (a:Ad) (sc:K5) (dn un:List (Str×K5)):Prop where
 ob:s[a.p]?=some (.obj 0 (pf sc a.n a.u))
 dn:s[a.n]?=some (.lst (dn.map rw1))
 un:s[a.u]?=some (.lst (un.map rw1))
 nu:a.n≠a.u
structure Mv (s s':Sto) (a a':Ad):Prop where
 len:s.length<=s'.length
 kp:∀ i,i < s.length->i∉a.l->s'[i]?=s[i]?
 ow:∀ i∈a'.l,i∈a.l\/s.length<=i
theorem Mv.trans {s s1 s2:Sto} {a a1 a2:Ad} (x:Mv s s1 a a1) (y:Mv s1 s2 a1 a2):Mv s s2 a a2:=⟨LS x.len y.len,λ i hi ho=>by
 have n1:i∉a1.l:=λ z=>by
  rcases x.ow i z with q | q
  ·exact ho q
  ·omega
 rw [y.kp i (LF hi x.len) n1,x.kp i hi ho],λ i h=>by
 rcases y.ow i h with q | q
 ·exact x.ow i q
 ·exact .inr (LS x.len q)⟩
section
variable {s s':Sto} {a b a':Ad} {sc sc':K5} {dn un dn' un':List (Str×K5)}
theorem uX {i:Nat} {x:Cell} (h:s[i]?=some x):i < s.length:=(Lb.mp h).1
theorem Pl.pn (P:Pl s a sc dn un):a.p≠a.n:=λ e=>by have:=P.ob; rw [e,P.dn] at this; cases this
theorem Pl.pu (P:Pl s a sc dn un):a.p≠a.u:=λ e=>by have:=P.ob; rw [e,P.un] at this; cases this
theorem Pl.lt (P:Pl s a sc dn un) {i:Nat} (h:i∈a.l):i < s.length:=by
 have e:i=a.p\/i=a.n\/i=a.u:=by simpa using h
 rcases e with rfl | rfl | rfl
 ·exact uX P.ob
 ·exact uX P.dn
 ·exact uX P.un
theorem Pl.frame (P:Pl s a sc dn un) (h:∀ i∈a.l,s'[i]?=s[i]?):Pl s' a sc dn un:=⟨by rw [h _ (by simp)]; exact P.ob,by rw [h _ (by simp)]; exact P.dn,by rw [h _ (by simp)]; exact P.un,P.nu⟩
noncomputable def obP (s:Sto) (sc:K5) (n u:Nat):Str->Option K5:=λ f=>((pf sc n u).lookup f).bind (pD s)
theorem vw1 {p n u:Nat} {η:MEn} (hc:s[p]?=some (.obj 0 (pf sc n u))):vw ⟨some (.r p)::η,s⟩=.ob (obP s sc n u)::vw ⟨η,s⟩:=by
 unfold vw;rw [Ln,D4 hc]; rfl
theorem jq {n u:Nat} (l:En):p7 0 "scene" (.ob (obP s sc n u)::l)=some sc:=by rfl
theorem we {n u:Nat}:(pf sc n u).lookup ("done" : Str)=some (D.r n):=by rfl
theorem Bl {n u:Nat}:(pf sc n u).lookup ("undone" : Str)=some (D.r u):=by rfl
theorem yS {n u m:Nat}:vL ("undone" : Str) (.r m) (pf sc n u)=pf sc n m:=by rfl
theorem yW {n u:Nat}:(pf sc n u).length < 999:=by show 3 < 999; decide
theorem qi {i:Nat} {x y:Cell} (h:s[i]?=some y):(s.set i x)[i]?=some x:=Lr (uX h)
theorem F7 (P:Pl s a sc dn un):aZ [.r a.p] s=some (.d sc,s):=by
 refine nZ rfl (show kB ⟨[some (.r a.p)],s⟩=_ from n0 (aQ ?_));rw [vw1 P.ob]; rfl
theorem vG (l:List (Str×K5)) (x:Str×K5):l.map rw1++[rw1 x]=(l++[x]).map rw1:=by rw [LJ]; rfl
theorem lJ (P:Pl s a sc dn un) (hd:dn.length<=1000) (w:Str) (S:K5):∃ s',aP [.r a.p,.d (.str w),.d S] s=some (.d .none,s')/\Pl s' ⟨a.p,a.n,s.length⟩ S (dn++[(w,sc)]) []/\Mv s s' a ⟨a.p,a.n,s.length⟩:=by
 have hp:=uX P.ob;have hn:=uX P.dn;have s1:∃ s1,s1=s.set a.n (.lst ((dn++[(w,sc)]).map rw1)):=⟨_,rfl⟩;obtain ⟨s1,e1⟩:=s1;have l1:s1.length=s.length:=by rw [e1,LC]
 have o1:s1[a.p]?=some (.obj 0 (pf sc a.n a.u)):=by rw [e1,Ld P.pn.symm]; exact P.ob
 have o2:(s1++[Cell.lst []])[a.p]?=some (.obj 0 (pf sc a.n a.u)):=by rw [Lw (by omega)]; exact o1
 have s2:∃ s2,s2=(s1++[Cell.lst []]).set a.p (.obj 0 (pf sc a.n s.length)):=⟨_,rfl⟩;obtain ⟨s2,e2⟩:=s2;have o3:s2[a.p]?=some (.obj 0 (pf sc a.n s.length)):=by rw [e2]; exact qi o2
 have l2:s2.length=s.length+1:=by rw [e2,LC,Lm,l1]; rfl
 refine ⟨s2.set a.p (.obj 0 (pf S a.n s.length)),?_,⟨qi o3,?_,?_,by show a.n≠s.length; omega⟩,⟨by rw [LC,l2]; omega,λ i hi ho=>?_,λ i hi=>?_⟩⟩
 ·refine xE (w1:=⟨[some (.r a.p),some (.d (.str w)),some (.d S)],s2.set a.p (.obj 0 (pf S a.n s.length))⟩) rfl ?_;show iw ⟨[some (.r a.p),some (.d (.str w)),some (.d S)],s⟩=_;refine a6 (w1:=⟨[some (.r a.p),some (.d (.str w)),some (.d S)],s1⟩) ?_ (a6 (w1:=⟨[some (.r a.p),some (.d (.str w)),some (.d S)],s2⟩) ?_ ?_)
  ·rw [e1,<- vG];refine e9 (xH (sj rfl P.ob we) P.dn (aQ ?_) P.dn (by rw [K7]; omega));rw [vw1 P.ob];exact ay (ae rfl (ae (jq _) rfl)) (f7 (by simp))
  ·rw [n4 (s1:=s1++[.lst []]) mN0 rfl o2 yW,yS,e2];dsimp only;rw [l1]
  ·exact (n4 (aQ rfl) rfl o3 yW)
 ·show (s2.set a.p _)[a.n]?=_;rw [Ld P.pn,e2,Ld P.pn,Lw (by omega),e1];exact qi P.dn
 ·show (s2.set a.p _)[s.length]?=_;rw [Ld (by omega),e2,Ld (by omega),Lx (by omega),l1,Mc]; rfl
 ·have h:i≠a.p/\i≠a.n/\i≠a.u:=by simpa using ho
  rw [Ld (Ne.symm h.1),e2,Ld (Ne.symm h.1),Lw (by omega),e1,Ld (Ne.symm h.2.1)]
 ·have h:i=a.p\/i=a.n\/i=s.length:=by simpa using hi
  rcases h with rfl | rfl | rfl
  ·exact .inl (by simp)
  ·exact .inl (by simp)
  ·exact .inr (Lp _)
theorem emp (l:List (Str×K5)) (x:Str×K5):((l++[x]).map rw1).isEmpty=false:=by
 cases l <;> rfl
theorem EV {x y z:Cell}:Mv s (((s.set a.n x).set a.u y).set a.p z) a a:=⟨by rw [LC,LC,LC]; exact Lp _,λ i hi ho=>by
 have h:i≠a.p/\i≠a.n/\i≠a.u:=by simpa using ho
 rw [Ld (Ne.symm h.1),Ld (Ne.symm h.2.2),Ld (Ne.symm h.2.1)],λ _ h=>.inl h⟩
theorem HU {w:Str} {S:K5} (P:Pl s a sc (dn++[(w,S)]) un) (hd:un.length<=1000):∃ s',bA [.r a.p] s=some (.d (.str w),s')/\Pl s' a S dn (un++[(w,sc)])/\Mv s s' a a:=by
 have pd:s[a.n]?=some (.lst (dn.map rw1++[rw1 (w,S)])):=by rw [vG]; exact P.dn
 have s1:∃ s1,s1=s.set a.n (.lst (dn.map rw1)):=⟨_,rfl⟩;obtain ⟨s1,e1⟩:=s1;have o1:s1[a.p]?=some (.obj 0 (pf sc a.n a.u)):=by rw [e1,Ld P.pn.symm]; exact P.ob
 have u1:s1[a.u]?=some (.lst (un.map rw1)):=by rw [e1,Ld P.nu]; exact P.un
 have s2:∃ s2,s2=s1.set a.u (.lst ((un++[(w,sc)]).map rw1)):=⟨_,rfl⟩;obtain ⟨s2,e2⟩:=s2;have o2:s2[a.p]?=some (.obj 0 (pf sc a.n a.u)):=by rw [e2,Ld P.pu.symm]; exact o1
 refine ⟨s2.set a.p (.obj 0 (pf S a.n a.u)),?_,⟨qi o2,?_,?_,P.nu⟩,by rw [e2,e1]; exact EV⟩
 ·refine nZ rfl (show jK ⟨[some (.r a.p),none],s⟩=_ from ?_);refine a6 (xG (BR (CW (sj rfl P.ob we) P.dn) |>.trans (by rw [emp]; rfl))) ?_;refine a6 (w1:=⟨[some (.r a.p),some (rw1 (w,S))],s1⟩) ?_ (a6 (w1:=⟨[some (.r a.p),some (rw1 (w,S))],s2⟩) ?_ (a6 (w1:=⟨[some (.r a.p),some (rw1 (w,S))],s2.set a.p (.obj 0 (pf S a.n a.u))⟩) ?_ (n0 (aQ ?_))))
  ·rw [e1]; exact c0 (CY (sj rfl P.ob we) pd)
  ·rw [e2,<- vG];refine e9 (xH (sj rfl o1 Bl) u1 (aQ ?_) u1 (by rw [K7]; omega));rw [vw1 o1];exact ay (ae (ai rfl rfl rfl) (ae (jq _) rfl)) (f7 (by simp))
  ·exact n4 (aQ (ai rfl rfl rfl)) rfl o2 yW
  ·exact ai rfl rfl rfl
 ·rw [Ld P.pn,e2,Ld P.nu.symm,e1]; exact qi P.dn
 ·rw [Ld P.pu,e2]; exact qi u1
theorem HS (s0:Sto) (x:K5):bM [.r s0.length,.d x] (s0++[.obj 0 []])=some (.d .none,s0++[.obj 0 (pf x (s0.length+1) (s0.length+2)),.lst [],.lst []]):=by
 have ge:∀ (c:Cell) (t:Sto),(s0++c::t)[s0.length]?=some c:=λ c t=>by rw [Lx (Lp _),Mc]; rfl
 have st:∀ (c c':Cell) (t:Sto),(s0++c::t).set s0.length c'=s0++c'::t:=λ c c' t=>by rw [Nz _ _ (Lp _),Mc]; rfl
 refine xE (w1:=⟨[some (.r s0.length),some (.d x)],s0++[.obj 0 (pf x (s0.length+1) (s0.length+2)),.lst [],.lst []]⟩) rfl ?_;show gS ⟨[some (.r s0.length),some (.d x)],s0++[.obj 0 []]⟩=_;have p1:tD 0 "scene" (mV 0) (mP (eV 1)) ⟨[some (.r s0.length),some (.d x)],s0++[.obj 0 []]⟩=some (.nx ⟨[some (.r s0.length),some (.d x)],s0++[.obj 0 [("scene", .d x)]]⟩):=by
  rw [n4 (d:=.d x) (n:=s0.length) (fs:=[]) (aQ rfl) rfl (ge _ _) (by decide)];dsimp only;rw [st]; rfl
 have p2:tD 0 "done" (mV 0) (mN (λ η=>(aN η).bind gL)) ⟨[some (.r s0.length),some (.d x)],s0++[.obj 0 [("scene", .d x)]]⟩=some (.nx ⟨[some (.r s0.length),some (.d x)],s0++[.obj 0 [("scene", .d x),("done", .r (s0.length+1))],.lst []]⟩):=by
  rw [n4 (n:=s0.length) (s1:=(s0++[.obj 0 [("scene", .d x)]])++[.lst []]) (fs:=[("scene", .d x)]) mN0 rfl (by rw [Ma]; exact ge _ _) (by simp)];dsimp only;rw [Ma,Lm];rw [show s0++([Cell.obj 0 [("scene", .d x)]]++[Cell.lst []])=s0++Cell.obj 0 [("scene", .d x)]::[.lst []] from rfl,st]; rfl
 refine a6 p1 (a6 p2 ?_);rw [n4 (n:=s0.length) (s1:=(s0++[.obj 0 [("scene", .d x),("done", .r (s0.length+1))],.lst []])++[.lst []]) (fs:=[("scene", .d x),("done", .r (s0.length+1))]) mN0 rfl (by rw [Ma]; exact ge _ _) (by simp)];dsimp only;rw [Ma,Lm];rw [show s0++([Cell.obj 0 [("scene", .d x),("done", .r (s0.length+1))],Cell.lst []]++[Cell.lst []])=s0++Cell.obj 0 [("scene", .d x),("done", .r (s0.length+1))]::[.lst [],.lst []] from rfl,st]; rfl
end
section
variable {s s':Sto} {a b a':Ad} {sc sc':K5} {dn un dn' un':List (Str×K5)}
noncomputable def Did (s s':Sto) (a:Ad) (sc S:K5) (dn:List (Str×K5)) (w:Str):Prop:=Pl s' ⟨a.p,a.n,s.length⟩ S (dn++[(w,sc)]) []/\Mv s s' a ⟨a.p,a.n,s.length⟩
theorem xK (sc:K5) (n u:Nat):(pf sc n u).lookup ("step_to" : Str)=none:=by rfl
theorem Kb (P:Pl s a sc dn un) (hd:dn.length<=1000) {b S:K5} (h:de [sc,b]=some S):∃ s',dS [.r a.p,.d b] s=some (.d .none,s')/\Did s s' a sc S dn "put" := by
 obtain ⟨s',e,q⟩:=lJ P hd "put" S;refine ⟨s',?_,q⟩;refine xE (w1:=⟨[some (.r a.p),some (.d b)],s'⟩) rfl (show kA aP de ⟨[some (.r a.p),some (.d b)],s⟩=_ from e9 (d6 rfl P.ob (xK ..) (aV (s1:=s) (aQ rfl) (aV (s1:=s) (aQ ?_) eg)) e));rw [vw1 P.ob];exact ay (ae (jq _) (ae rfl rfl)) h
theorem HQ (P:Pl s a sc dn un) (hd:dn.length<=1000) {b S:K5} (h:df [sc,b]=some S):∃ s',cV [.r a.p,.d b] s=some (.d .none,s')/\Did s s' a sc S dn "lift" := by
 obtain ⟨s',e,q⟩:=lJ P hd "lift" S;refine ⟨s',?_,q⟩;refine xE (w1:=⟨[some (.r a.p),some (.d b)],s'⟩) rfl (show jJ aP df ⟨[some (.r a.p),some (.d b)],s⟩=_ from e9 (d6 rfl P.ob (xK ..) (aV (s1:=s) (aQ rfl) (aV (s1:=s) (aQ ?_) eg)) e));rw [vw1 P.ob];exact ay (ae (jq _) (ae rfl rfl)) h
theorem DY (P:Pl s a sc dn un) (hd:dn.length<=1000) {b S g:K5} (h1:aO 13 [sc,b]=some g) (h:dR [sc,b]=some S):∃ s',cg [.r a.p,.d b] s=some (.d g,s')/\Did s s' a sc S dn "take" := by
 obtain ⟨s',e,q⟩:=lJ P hd "take" S;refine ⟨s',?_,q⟩;refine nZ rfl (show jH (aO 13) aP dR ⟨[some (.r a.p),some (.d b),none],s⟩=_ from a6 (w1:=⟨[some (.r a.p),some (.d b),some (.d g)],s⟩) (c0 (aQ ?_)) (a6 (w1:=⟨[some (.r a.p),some (.d b),some (.d g)],s'⟩) (e9 (d6 rfl P.ob (xK ..) (aV (s1:=s) (aQ rfl) (aV (s1:=s) (aQ ?_) eg)) e)) (n0 (aQ rfl))))
 ·rw [vw1 P.ob];exact ay (ae (jq _) (ae rfl rfl)) h1
 ·rw [vw1 P.ob];exact ay (ae (jq _) (ae rfl rfl)) h
theorem HP (P:Pl s a sc dn un) (hd:dn.length<=1000) {b m S:K5} {x:Bx} (h1:ak [sc,b]=some x.d) (h:dg [sc,b,m]=some S):∃ s',cU [.r a.p,.d b,.d m] s=some (.d (.str x.mr),s')/\Did s s' a sc S dn "mark" := by
 obtain ⟨s',e,q⟩:=lJ P hd "mark" S;refine ⟨s',?_,q⟩;refine nZ rfl (show jI ak aP dg ⟨[some (.r a.p),some (.d b),some (.d m),none],s⟩=_ from a6 (w1:=⟨[some (.r a.p),some (.d b),some (.d m),some (.d x.d)],s⟩) (c0 (aQ ?_)) (a6 (w1:=⟨[some (.r a.p),some (.d b),some (.d m),some (.d x.d)],s'⟩) (e9 (d6 rfl P.ob (xK ..) (aV (s1:=s) (aQ rfl) (aV (s1:=s) (aQ ?_) eg)) e)) (n0 (aQ (ai rfl rfl rfl)))))
 ·rw [vw1 P.ob];exact ay (ae (jq _) (ae rfl rfl)) h1
 ·rw [vw1 P.ob];exact ay (ae (jq _) (ae rfl (ae rfl rfl))) h
theorem Kc (P:Pl s a sc dn un) (hd:dn.length<=1000) {b l t S:K5} {x:Bx} (h1:ak [sc,b]=some x.d) (h:b4 [sc,b,l,t]=some S):∃ s',dU [.r a.p,.d b,.d l,.d t] s=some (.d (.tuple [.int x.l,.int x.t]),s')/\Did s s' a sc S dn "lay" := by
 obtain ⟨s',e,q⟩:=lJ P hd "lay" S;refine ⟨s',?_,q⟩;refine nZ rfl (show kC ak aP b4 ⟨[some (.r a.p),some (.d b),some (.d l),some (.d t),none],s⟩=_ from a6 (w1:=⟨[some (.r a.p),some (.d b),some (.d l),some (.d t),some (.d x.d)],s⟩) (c0 (aQ ?_)) (a6 (w1:=⟨[some (.r a.p),some (.d b),some (.d l),some (.d t),some (.d x.d)],s'⟩) (e9 (d6 rfl P.ob (xK ..) (aV (s1:=s) (aQ rfl) (aV (s1:=s) (aQ ?_) eg)) e)) (n0 (aQ (zk rfl (z8 rfl) (z8 rfl) rfl)))))
 ·rw [vw1 P.ob];exact ay (ae (jq _) (ae rfl rfl)) h1
 ·rw [vw1 P.ob];exact ay (ae (jq _) (ae rfl (ae rfl (ae rfl rfl)))) h
end
noncomputable def FF:Wd->Option MOut :=
 (mIf (tPv (om (bT (l2 pEq (eV 4) (eC (.int 0)))) (bT (l2 pNe (eV 5) (eC (.str "")))))) (jc (bZ 0 "take" cg (mV 2) (maC (mP (eV 5)) maN))) (mIf (tPv (om (bT (l2 pEq (eV 4) (eC (.int 1)))) (bT (l2 pNe (eV 5) (eC (.str "")))))) (jc (bZ 0 "lift" cV (mV 2) (maC (mP (eV 5)) maN))) (mIf (tPv (om (bT (l2 pEq (eV 4) (eC (.int 2)))) (bT (l2 pNe (eV 5) (eC (.str "")))))) (jc (bZ 0 "mark" cU (mV 2) (maC (mP (eV 5)) (maC (mP (l2 pIx (eC (.list [(.str ""),(.str "c"),(.str "f"),(.str "h"),(.str "l"),(.str "cf")])) (lA af (aC (eV 0) (aC (l2 az (eV 1) (eC (.int 2))) (aC (eC (.int 6)) aN)))))) maN)))) (mIf (tPv (om (bT (l2 pEq (eV 4) (eC (.int 3)))) (bT (l2 pNe (eV 5) (eC (.str "")))))) (jc (bZ 0 "lay" dU (mV 2) (maC (mP (eV 5)) (maC (mP (l2 kQ (lA af (aC (eV 0) (aC (l2 az (eV 1) (eC (.int 2))) (aC (eC (.int 9)) aN)))) (eC (.int 4)))) (maC (mP (l2 kQ (lA af (aC (eV 0) (aC (l2 az (eV 1) (eC (.int 3))) (aC (eC (.int 9)) aN)))) (eC (.int 4)))) maN))))) (mIf (tPv (bT (l2 pLt (lA kR (aC (eV 3) aN)) (eC (.int 12))))) (b5 (gQ 6 (mC (bf [none,some 3] (lI asL (eC (.list [(.str "x"),(.str "y"),(.str "z"),(.str "w"),(.str "v"),(.str "u"),(.str "t"),(.str "s"),(.str "r"),(.str "q"),(.str "p"),(.str "o")]))) (tgN 0) (bT (l2 (pIn true) (eV 0) (eV 1))) (eV 0))))
  (b5 (gQ 7 (mP (lA (λ ds=>if ds.length<=Li then some (.tuple ds) else none) (aC (lA af (aC (eV 0) (aC (l2 az (eV 1) (eC (.int 4))) (aC (eC (.int 9)) aN)))) (aC (lA af (aC (eV 0) (aC (l2 az (eV 1) (eC (.int 5))) (aC (eC (.int 9)) aN)))) aN)))))
  (jc (bZ 0 "put" dS (mV 2) (maC (mP (l2 az (l2 az (lA (λ ds=>if ds.length<=Li then some (.tuple ds) else none) (aC (l2 pIx (eV 6) (eC (.int 0))) (aC (eV 5) (aC (eC (.int 1)) (aC (eC (.int 1)) aN))))) (eV 7)) (lA (λ ds=>if ds.length<=Li then some (.tuple ds) else none) (aC (eC (.str "")) aN)))) maN))))) (jc (bZ 0 "take" cg (mV 2) (maC (mP (eV 5)) maN))))))))
noncomputable def IP:Wd->Option MOut :=
 (jc (uW bQ (maC (mP (eV 0)) (maC (mP (l2 az (eC (.int 210)) (l2 kj (eC (.int 6)) (eV 10)))) (maC (mV 8) maN)))))
noncomputable def G5:Wd->Option MOut :=
 (jc (bZ 0 "back" bA (mV 8) maN))
noncomputable def Da:Wd->Option MOut :=
 (b5 (gQ 13 (mP (l2 az (eV 2) (lA af (aC (eV 0) (aC (eC (.int 205)) (aC (l2 az (l2 kQ (eV 4) (eV 2)) (eC (.int 1))) aN)))))))
  (b5 (gQ 14 (mP (l2 mW (lA bm (aC (eV 1) (aC (eV 2) (aC (eV 3) (aC (eV 13) (aC (eV 5) aN)))))) (eC (.str "\n")))))
  (b5 (gQ 15 (mP (l2 mW (lA bm (aC (eV 1) (aC (eV 13) (aC (eV 3) (aC (eV 4) (aC (eV 5) aN)))))) (eC (.str "\n")))))
  (b5 (mIf (tPv (bT (l2 pNe (l2 oA (eC (.str "\n")) (oE (bf [none,none] (λ η=>((aC (eV 14) (aC (eV 15) aN)) η).bind zpL) (tgT (bo (tgN 0) (bo (tgN 1) gO))) ci (l2 az (eV 0) (eV 1))))) (eV 7)))) (jU (mP (eC (.bool false)))) mNx)
  (b5 (gQ 16 (mP (lA cf (aC (eV 1) (aC (eC (.int 3)) (aC (l1 Cw (eC (.int 2))) aN))))))
  (jU (mP (l2 pEq (lA bm (aC (eV 16) (aC (l2 az (eV 2) (eC (.int 3))) (aC (l2 kQ (eV 3) (eC (.int 2))) (aC (l2 az (eV 4) (eC (.int 3))) (aC (l2 kQ (eV 5) (eC (.int 2))) aN)))))) (eV 7)))))))))
noncomputable def Db:Wd->Option MOut :=
 (b5 (y6 [12] (iPu (λ η=>((aC (eV 9) aN) η).bind rng1)) (tgN 12)
  (jc (bZ 0 "back" bA (mV 8) maN)))
  (b5 (mIf (mB (m7 pNe (mCB aS (maC (bZ 0 "now" aZ (mV 8) maN) (maC (mP (eV 1)) (maC (mP (eV 2)) (maC (mP (eV 3)) (maC (mP (eV 4)) (maC (mP (eV 5)) maN))))))) (mP (oE (λ η=>(aN η).bind gL))))) (jU (mP (eC (.bool false)))) mNx)
  Da))
noncomputable def Dc:Wd->Option MOut :=
 (b5 (gQ 11 (mCB aS (maC (mP (eV 1)) (maC (bZ 0 "now" aZ (mV 8) maN) (maC (mP (eV 2)) (maC (mP (eV 3)) (maC (mP (eV 4)) (maC (mP (eV 5)) maN))))))))
  (b5 (mIf (mB (m7 pNe (mCB aS (maC (bZ 0 "now" aZ (mV 8) maN) (maC (mP (eV 1)) (maC (mP (eV 2)) (maC (mP (eV 3)) (maC (mP (eV 4)) (maC (mP (eV 5)) maN))))))) (mP (eV 11)))) (jU (mP (eC (.bool false)))) mNx)
  (b5 (mIf (mB (m7 pNe (mcL [none,some 1,some 8] (iPu (lI asL (eV 11))) [0] (tgN 0) (mB (m7 pEq (mP (lA hG (aC (eV 1) (aC (l2 pIx (eV 0) (eC (.int 0))) (aC (l2 pIx (eV 0) (eC (.int 1))) aN))))) (mCB hG (maC (bZ 0 "now" aZ (mV 2) maN) (maC (mP (l2 pIx (eV 0) (eC (.int 0)))) (maC (mP (l2 pIx (eV 0) (eC (.int 1)))) maN)))))) (mP (eV 0))) (mP (oE (λ η=>(aN η).bind gL))))) (jU (mP (eC (.bool false)))) mNx)
  (b5 (mIf (sy (tPv (bT (l2 pEq (eV 11) (oE (λ η=>(aN η).bind gL))))) (mB (m7 pNe (mCB bm (maC (bZ 0 "now" aZ (mV 8) maN) (maC (mP (eV 2)) (maC (mP (eV 3)) (maC (mP (eV 4)) (maC (mP (eV 5)) maN)))))) (mP (eV 7))))) (jU (mP (eC (.bool false)))) mNx)
  Db))))
noncomputable def FP:Wd->Option MOut :=
 (b5 (gQ 8 (xF 0 bM (maC (mP (eV 1)) maN)))
  (b5 (gQ 9 (mP (l2 az (eC (.int 1)) (lA af (aC (eV 0) (aC (eC (.int 204)) (aC (eC (.int 4)) aN)))))))
  (b5 (y6 [10] (iPu (λ η=>((aC (eV 9) aN) η).bind rng1)) (tgN 10)
  (jc (uW bQ (maC (mP (eV 0)) (maC (mP (l2 az (eC (.int 210)) (l2 kj (eC (.int 6)) (eV 10)))) (maC (mV 8) maN))))))
  Dc)))
noncomputable def IN:Wd->Option MOut :=
 (b5 (mIf (tPv (bT (l2 pNe (l2 az (lA qm (aC (oE (bf [none,none] (lI asL (eV 6)) (tgT (bo (tgN 0) (bo (tgN 1) gO))) ci (eV 1))) aN)) (l2 Cy (eV 7) (eC (.str ".")))) (l2 kj (l2 kQ (eV 4) (eV 2)) (l2 kQ (eV 5) (eV 3)))))) (jU (mP (eC (.bool false)))) mNx)
  (b5 (mIf (tPv (bT (l2 pNe (oE (bf [none,none,some 1] (lI asL (eV 6)) (tgT (bo (tgN 0) (bo (tgN 1) gO))) (wF (bT (lch pLt pLe (eC (.int 0)) (eV 1) (lA bP (aC (eV 2) (aC (eV 0) aN)))))) (eV 0))) (oE (λ η=>(aN η).bind gL))))) (jU (mP (eC (.bool false)))) mNx)
  FP))
noncomputable def jS (bs:List Bx):K5:=.list (bs.map λ b=>PyData.str b.nm)
theorem E3 {f:MF} {w:Wd} {s:Sto} {n:Nat} {ds:List D} {xs:List K5} (h1:f w=some (.r n,s)) (h2:s[n]?=some (.lst ds)) (h3:tW ds=some xs):mFz f w=some (.d (.list xs),s.set n (.fz (.list xs))):=by
 unfold mFz;rw [h1,K8];dsimp only;rw [h2];dsimp only;rw [h3]; rfl
theorem Dw (xs:List K5):tW (xs.map D.d)=some xs:=by
 induction xs with
 | nil=>rfl
 | cons x r ih =>
  rw [Ln];unfold tW;rw [ih]; rfl
theorem xr (s:Sto):∀ (l:List Bx) (acc:List D),acc.length+l.length<=1000->tm [0] (tgN 0) qg (mP (l2 pIx (eV 0) (eC (.int 0)))) s.length [none] (l.map Bx.d) (s++[.lst acc])=some (s++[.lst (acc++(l.map λ b=>PyData.str b.nm).map D.d)])
 | [],acc,_=>by
  show some _=_;rw [M5,M5,LY]
 | b::r,acc,h=>by
  have h:acc.length+(r.length+1)<=1000:=h;have ih:=xr s r (acc++[.d (.str b.nm)]) (by rw [Lm]; show acc.length+1+r.length<=1000; omega);rw [Ln];unfold tm;have et:mTg [0] (tgN 0) ⟨[none],s++[Cell.lst acc]⟩ b.d=some ⟨[some (.d b.d)],s++[Cell.lst acc]⟩:=pJ (show 0 < 1 by decide);rw [et,K8];have e0:qg ⟨[some (.d b.d)],s++[Cell.lst acc]⟩=some (true,s++[Cell.lst acc]):=rfl;rw [e0,K8,if_pos rfl];have e1:mP (l2 pIx (eV 0) (eC (.int 0))) ⟨[some (.d b.d)],s++[Cell.lst acc]⟩=some (.d (.str b.nm),s++[Cell.lst acc]):=aQ (ai rfl rfl rfl);rw [e1,K8];dsimp only;rw [Lx (Lp _),Mc];show (if acc.length < Li then _ else _)=_;rw [if_pos (Nat.lt_of_le_of_lt (show acc.length<=1000 by omega) (by show 1000 < 2 ^ 24; decide)),Nz _ _ (Lp _),Mc];show tm _ _ _ _ _ _ _ (s++[.lst (acc++[.d (.str b.nm)])])=_;rw [ih,Ma]; rfl
section
variable {s:Sto} {a:Ad} {dn un:List (Str×K5)} {bs:List Bx}
theorem CN (v:VB bs) (P:Pl s a (SD bs) dn un) {x0 x1:Option D} {η:MEn}:mFz (mcL [none] (iMT (bZ 0 "now" aZ (mV 2) maN)) [0] (tgN 0) qg (mP (l2 pIx (eV 0) (eC (.int 0))))) ⟨x0::x1::some (.r a.p)::η,s⟩=some (.d (jS bs),s++[.fz (jS bs)]):=by
 have e1:iMT (bZ 0 "now" aZ (mV 2) maN) ⟨x0::x1::some (.r a.p)::η,s⟩=some (bs.map Bx.d,s):=by
  unfold iMT;rw [d6 (s:=s) (n:=a.p) rfl P.ob rfl rfl (F7 P)]; rfl
 have e2:mcL [none] (iMT (bZ 0 "now" aZ (mV 2) maN)) [0] (tgN 0) qg (mP (l2 pIx (eV 0) (eC (.int 0)))) ⟨x0::x1::some (.r a.p)::η,s⟩=some (.r s.length,s++[.lst ((bs.map λ b=>PyData.str b.nm).map D.d)]):=by
  unfold mcL;rw [e1,K8]
  have:=xr s bs [] (by have:=v.len; show 0+bs.length<=1000; omega)
  rw [Ny] at this;exact (congrArg (λ o=>Ll o λ s2=>some (D.r s.length,s2)) this)
 have e3:=E3 e2 (by rw [Lx (Lp _),Mc]; rfl) (Dw _);rw [Nz _ _ (Lp _),Mc] at e3;exact e3
theorem Pl.app (P:Pl s a (SD bs) dn un) (t:Sto):Pl (s++t) a (SD bs) dn un:=P.frame λ i hi=>Lw (P.lt hi)
theorem Mv.app (t:Sto):Mv s (s++t) a a:=⟨by rw [Lm]; omega,λ i hi _=>Lw hi,λ _ h=>.inl h⟩
end
noncomputable abbrev stE (ns:List Int) (at_:Int) (a:Ad) (bs:List Bx) (w:Int) (nm:Str) (x y:Option D):MEn:=[some (.d (Sd ns)),some (.d (.int at_)),some (.r a.p),some (.d (jS bs)),some (.d (.int w)),some (.d (.str nm)),x,y]
noncomputable def steps:List Str:=["put", "take", "lift", "mark", "lay"]
noncomputable def Step (ns:List Int) (at_:Int) (bs:List Bx) (w:Str) (bs':List Bx):Prop:=w∈steps/\VB bs'/\∀ (s:Sto) (a:Ad) (dn un:List (Str×K5)),Pl s a (SD bs) dn un->dn.length<=1000 ->
 ∃ s' a',bQ [.d (Sd ns),.d (.int at_),.r a.p] s=some (.d .none,s')/\a'.p=a.p/\Pl s' a' (SD bs') (dn++[(w,SD bs)]) []/\Mv s s' a a'
section
variable {ns:List Int} (hn:ns.length<=63)
include hn
theorem nV {at_:Int} {bs:List Bx} (v:VB bs) {way:Nat} {nm:Str} (h1:af [Sd ns,.int at_,.int 6]=some (.int (way:Int)))
  (h2:∀ x2:Sl,vIf (bT (l2 pNe (eV 3) (oE (λ η=>(aN η).bind gL)))) (l2 pIx (eV 3) (lA af (aC (eV 0) (aC (l2 az (eV 1) (eC (.int 1))) (aC (lA kR (aC (eV 3) aN)) aN))))) (eC (.str "")) [.val (Sd ns),.val (.int at_),x2,.val (jS bs),.val (.int (way:Int)),.un,.un,.un]=some (.str nm))
  {w:Str} {bs':List Bx} (hw:w∈steps) (v':VB bs') (h3:∀ (s:Sto) (a:Ad) (dn un:List (Str×K5)),Pl s a (SD bs) dn un->dn.length<=1000->∃ η s',FF ⟨stE ns at_ a bs (way:Int) nm none none,s⟩=some (.nx ⟨η,s'⟩)/\Did s s' a (SD bs) (SD bs') dn w):Step ns at_ bs w bs':=by
 refine ⟨hw,v',λ s a dn un P hd=>?_⟩;obtain ⟨η,s',e,q1,q2⟩:=h3 _ a dn un (P.app [.fz (jS bs)]) hd;refine ⟨s',⟨a.p,a.n,(s++[Cell.fz (jS bs)]).length⟩,?_,rfl,q1,(Mv.app _).trans q2⟩;refine xE (w1:=⟨η,s'⟩) rfl (show kz aZ af cg cV cU dU dS ⟨[some (.d (Sd ns)),some (.d (.int at_)),some (.r a.p),none,none,none,none,none],s⟩=_ from ?_);refine a6 (w1:=⟨[some (.d (Sd ns)),some (.d (.int at_)),some (.r a.p),some (.d (jS bs)),none,none,none,none],s++[.fz (jS bs)]⟩) (c0 (CN v P)) ?_;refine a6 (w1:=⟨[some (.d (Sd ns)),some (.d (.int at_)),some (.r a.p),some (.d (jS bs)),some (.d (.int (way:Int))),none,none,none],s++[.fz (jS bs)]⟩) (c0 (d:=.d (.int (way:Int))) (aQ (ay (ds:=[Sd ns,.int at_,.int 6]) (ae rfl (ae rfl (ae rfl rfl))) h1))) ?_;have z:gQ 5 (mP (vIf (bT (l2 pNe (eV 3) (oE (λ η=>(aN η).bind gL)))) (l2 pIx (eV 3) (lA af (aC (eV 0) (aC (l2 az (eV 1) (eC (.int 1))) (aC (lA kR (aC (eV 3) aN)) aN))))) (eC (.str "")))) ⟨[some (.d (Sd ns)),some (.d (.int at_)),some (.r a.p),some (.d (jS bs)),some (.d (.int (way:Int))),none,none,none],s++[.fz (jS bs)]⟩=some (.nx ⟨stE ns at_ a bs (way:Int) nm none none,s++[.fz (jS bs)]⟩):=c0 (d:=.d (.str nm)) (aQ (h2 _));refine a6 z ?_;exact e
end
theorem wp {ns:List Int} {at_:Int} {a:Ad} {bs:List Bx} {way:Nat} {nm:Str} (ok:Lq nm=true) {x y:Option D} {s:Sto} (k:Nat):tPv (om (bT (l2 pEq (eV 4) (eC (.int (k:Int))))) (bT (l2 pNe (eV 5) (eC (.str ""))))) ⟨stE ns at_ a bs (way:Int) nm x y,s⟩=some ((decide (way=k)&&!decide (nm = "")),s):=by
 refine oT (AR (eX (ai rfl rfl ((Ac _ _).trans ?_))) (eX (ai rfl rfl (z9 ok (by decide +kernel)))))
 congr 2
 rw [MC,beq_iff_eq,decide_eq_true_eq];exact Int.ofNat_inj
theorem zF {α:Type} [DecidableEq α]:∀ (l m:List α),l.Nodup->(∀ x∈l,x∈m)->l.length<=m.length
 | [],_,_,_=>Ml _
 | x::r,m,hd,hs=>by
  obtain ⟨h1,h2⟩:=Mf.mp hd;have ih:=zF r (m.erase x) h2 λ y hy=>(ND (by rintro rfl; exact h1 hy)).mpr (hs y (La _ hy));rw [List.length_erase_of_mem (hs x Lc)] at ih
  have:=List.length_pos_of_mem (hs x Lc)
  rw [Lu];omega
noncomputable def let12:List Str:=["x", "y", "z", "w", "v", "u", "t", "s", "r", "q", "p", "o"]
theorem C6:let12.Nodup:=by decide +kernel
theorem pK:∀ x∈let12,Lq x=true/\(1<=x.length/\x.length<=1):=by decide +kernel
theorem Dm {bs:List Bx} (h:bs.length < 12):∃ f r,let12.filter (λ x=>!decide (x∈bs.map (·.nm)))=f::r/\f∈let12/\f∉bs.map (·.nm):=by
 cases e:let12.filter (λ x=>!decide (x∈bs.map (·.nm))) with
 | nil =>
  have:=zF let12 (bs.map (·.nm)) C6 λ x hx=>by
   have z:=M0.mp e x hx;simpa using z
  rw [K7] at this;have h12:let12.length=12:=rfl;omega
 | cons f r =>
  have hm:f∈let12.filter (λ x=>!decide (x∈bs.map (·.nm))):=by rw [e]; exact Lc
  obtain ⟨h1,h2⟩:=LZ.mp hm;exact ⟨f,r,rfl,h1,by simpa using h2⟩
theorem Ba {bs:List Bx} (v:VB bs) {x:Str} (hx:Lq x=true):pIn true (.str x) (jS bs)=some (.bool (!decide (x∈bs.map (·.nm)))):=by
 unfold pIn jS;dsimp only;have hf:(bs.map λ b=>PyData.str b.nm).all je=true:=by
  rw [L5];intro y hy;obtain ⟨b,_,rfl⟩:=LI.mp hy;rfl
 rw [if_pos ⟨rfl,hf⟩]
 congr 2
 rw [if_pos rfl]
 congr 1
 rw [MC,ML,decide_eq_true_eq,LI]
 constructor
 ·rintro ⟨y,hy,e⟩
  obtain ⟨b,hb,rfl⟩:=LI.mp hy;refine ⟨b,hb,?_⟩;simpa [LV,str_dec] using e
 ·rintro ⟨b,hb,e⟩
  exact ⟨.str b.nm,LI.mpr ⟨b,hb,rfl⟩,by simp [LV,str_dec,e]⟩
section
variable {ns:List Int} (hn:ns.length<=63)
include hn
theorem Dp {at_:Int} (h0:0<=at_) {bs:List Bx} (v:VB bs) (way:Nat) {nm:Str} (hs:bs.length < 12->nm = "" \/ nm∈bs.map (·.nm)) (hf:¬ bs.length < 12->∃ (i0:Nat) (b0:Bx),bs[i0]?=some b0/\b0.nm=nm) (ok:Lq nm=true) (hc:∀ k,k < 4->(decide (way=k)&&!decide (nm = ""))=false) :
  ∃ w bs',w∈steps/\VB bs'/\∀ (s:Sto) (a:Ad) (dn un:List (Str×K5)),Pl s a (SD bs) dn un->dn.length<=1000->∃ η s',FF ⟨stE ns at_ a bs (way:Int) nm none none,s⟩=some (.nx ⟨η,s'⟩)/\Did s s' a (SD bs) (SD bs') dn w:=by
 have c:∀ (k:Nat) (a:Ad) (s:Sto),k < 4->tPv (om (bT (l2 pEq (eV 4) (eC (.int (k:Int))))) (bT (l2 pNe (eV 5) (eC (.str ""))))) ⟨stE ns at_ a bs (way:Int) nm none none,s⟩=some (false,s):=λ k a s hk=>by rw [wp ok k,hc k hk]
 have e12:∀ (a:Ad) (s:Sto),tPv (bT (l2 pLt (lA kR (aC (eV 3) aN)) (eC (.int 12)))) ⟨stE ns at_ a bs (way:Int) nm none none,s⟩=some (decide (bs.length < 12),s):=λ a s=>by
  refine oT (eX (ai (ay (ae rfl rfl) rfl) rfl ?_));show some (PyData.bool (decide (((bs.map λ b=>PyData.str b.nm).length:Int) < 12)))=_;rw [K7]
  congr 2
  rw [decide_eq_decide];omega
 by_cases hl:bs.length < 12
 ·obtain ⟨f,r,hfr,hf1,hf2⟩:=Dm hl;obtain ⟨r1,_,d1⟩:=b9 hn (k:=at_+4) (m:=9) (by omega) (by decide);obtain ⟨r2,_,d2⟩:=b9 hn (k:=at_+5) (m:=9) (by omega) (by decide);have hb:VB (bs++[⟨f,nm,1,1,r1,r2, ""⟩]):=v.more hl hf2 (hs hl) ⟨(pK f hf1).2,(pK f hf1).1,by show Lq ("" : Str)=true; decide +kernel⟩;have hwb:=HV v (b:=⟨f,nm,1,1,r1,r2, ""⟩) hl hf2 (hs hl) (pK f hf1).1 ok;refine ⟨"put", _,by decide +kernel,hb,λ s a dn un P hd=>?_⟩;obtain ⟨s',e,q⟩:=Kb P hd hwb;refine ⟨stE ns at_ a bs (way:Int) nm (some (.d (.list ((f::r).map PyData.str)))) (some (.d (.tuple [.int (r1:Int),.int (r2:Int)]))),s',oj (c 0 a s (by decide)) (oj (c 1 a s (by decide)) (oj (c 2 a s (by decide)) (oj (c 3 a s (by decide)) (C1 ((e12 a s).trans (by rw [decide_eq_true hl])) ?_)))),q⟩;refine a6 (w1:=⟨stE ns at_ a bs (way:Int) nm (some (.d (.list ((f::r).map PyData.str)))) none,s⟩) (c0 (IM ?_)) (a6 (w1:=⟨stE ns at_ a bs (way:Int) nm (some (.d (.list ((f::r).map PyData.str)))) (some (.d (.tuple [.int (r1:Int),.int (r2:Int)]))),s⟩) (c0 (d:=.d (.tuple [.int (r1:Int),.int (r2:Int)])) (aQ (ay (ae (ay (ae rfl (ae (ai rfl rfl rfl) (ae rfl rfl))) d1) (ae (ay (ae rfl (ae (ai rfl rfl rfl) (ae rfl rfl))) d2) rfl)) (f7 (by simp))))) (e9 (d6 rfl P.ob rfl (aV (s1:=s) (aQ ?_) eg) e)))
  ·refine gN (ds:=let12.map PyData.str) (l8 rfl rfl) (by decide) ?_;rw [<- hfr];exact fw (t:=tgN 0) (p:=bT (l2 (pIn true) (eV 0) (eV 1))) (f:=eV 0) (η:=[.un,.val (jS bs)]) PyData.str (λ x=>!decide (x∈bs.map (·.nm))) PyData.str let12 λ x hx=>⟨[.val (.str x),.val (jS bs)],rfl,eX (ai rfl rfl (Ba v (pK x hx).1)),λ _=>rfl⟩
  ·exact ai (ai (ay (ae (ai rfl rfl (ix0 _ _)) (ae rfl (ae rfl (ae rfl rfl)))) (f7 (by simp))) rfl (zu (by simp))) (ay (ae rfl rfl) (f7 (by simp))) (zu (by simp))
 ·obtain ⟨i0,b0,hi,rfl⟩:=hf hl;refine ⟨"take", _,by decide +kernel,AI v hi,λ s a dn un P hd=>?_⟩;obtain ⟨s',e,q⟩:=DY P hd (AW v hi) (Ga v hi);exact ⟨stE ns at_ a bs (way:Int) b0.nm none none,s',oj (c 0 a s (by decide)) (oj (c 1 a s (by decide)) (oj (c 2 a s (by decide)) (oj (c 3 a s (by decide)) (oj ((e12 a s).trans (by rw [decide_eq_false hl])) (e9 (d6 rfl P.ob rfl (aV (s1:=s) (aQ rfl) eg) e)))))),q⟩
end
theorem ET (bs:List Bx):jS bs=.list ((bs.map (·.nm)).map PyData.str):=by unfold jS; rw [LK]; rfl
theorem yJ {bs:List Bx} (v:VB bs):LU (jS bs)=true:=by
 rw [ET];refine wU λ x hx=>?_;obtain ⟨b,hb,rfl⟩:=LI.mp hx;exact (v.one b hb).2.1
theorem CK {bs:List Bx} (v:VB bs):pNe (jS bs) (.list [])=some (.bool (!bs.isEmpty)):=by
 have h:=yJ v;unfold pNe;rw [if_pos ⟨h,by decide +kernel⟩];cases bs with
 | nil=>rfl
 | cons b r=>simp [jS,LV,PyData.eqvAll]
noncomputable def mk6:List Str:=["", "c", "f", "h", "l", "cf"]
theorem G1:∀ x∈mk6,Lq x=true:=by decide +kernel
section
variable {ns:List Int} (hn:ns.length<=63)
include hn
theorem Ee {at_:Int} (h0:0<=at_) {bs:List Bx} (v:VB bs):∃ w bs',Step ns at_ bs w bs':=by
 obtain ⟨way,hw,dw⟩:=b9 hn (k:=at_) (m:=6) h0 (by decide);by_cases he:bs=[]
 ·have h2:∀ x2:Sl,vIf (bT (l2 pNe (eV 3) (oE (λ η=>(aN η).bind gL)))) (l2 pIx (eV 3) (lA af (aC (eV 0) (aC (l2 az (eV 1) (eC (.int 1))) (aC (lA kR (aC (eV 3) aN)) aN))))) (eC (.str "")) [.val (Sd ns),.val (.int at_),x2,.val (jS bs),.val (.int (way:Int)),.un,.un,.un]=some (.str ""):=λ x2=>by
   rw [sx (b:=false) (eX (ai rfl (l6 rfl) ((CK v).trans (by rw [he]; rfl)))),if_neg (by decide)]; rfl
  obtain ⟨w,bs',q1,q2,q3⟩:=Dp hn h0 v way (nm := "") (λ _=>.inl rfl) (λ h=>absurd (by rw [he]; decide) h) (by decide +kernel) (λ k _=>by simp);exact ⟨w,bs',nV hn v dw h2 q1 q2 q3⟩
 ·have hpos:0 < bs.length:=List.length_pos_iff.mpr he;obtain ⟨i0,hi0,di⟩:=b9 hn (k:=at_+1) (m:=(bs.length:Int)) (by omega) (by omega);have hlt:i0 < bs.length:=by omega
  obtain ⟨b0,hb⟩:∃ b0,bs[i0]?=some b0:=⟨bs[i0],K9 hlt⟩;have ok:=(v.one b0 (LG hb)).2.1;have hne:b0.nm ≠ "" := λ z=>by
   have:=(v.one b0 (LG hb)).1.1
   rw [z] at this;exact absurd this (by decide)
  have h2:∀ x2:Sl,vIf (bT (l2 pNe (eV 3) (oE (λ η=>(aN η).bind gL)))) (l2 pIx (eV 3) (lA af (aC (eV 0) (aC (l2 az (eV 1) (eC (.int 1))) (aC (lA kR (aC (eV 3) aN)) aN))))) (eC (.str "")) [.val (Sd ns),.val (.int at_),x2,.val (jS bs),.val (.int (way:Int)),.un,.un,.un]=some (.str b0.nm):=λ x2=>by
   rw [sx (b:=true) (eX (ai rfl (l6 rfl) ((CK v).trans (by cases bs with | nil=>exact absurd rfl he | cons _ _=>rfl)))),if_pos rfl];refine ai (y:=.int (i0:Int)) rfl (ay (ds:=[Sd ns,.int (at_+1),.int (bs.length:Int)]) (ae rfl (ae (ai rfl rfl rfl) (ae (ay (ae rfl rfl) ?_) rfl))) di) ?_
   ·show some (Lv (((bs.map λ b=>PyData.str b.nm).length:Nat):Int))=_;rw [K7]
   ·show atI (bs.map λ b=>PyData.str b.nm) (i0:Int)=_;exact n8 (by rw [Le,hb]; rfl)
  have cT:∀ (k:Nat) (a:Ad) (s:Sto),way=k->tPv (om (bT (l2 pEq (eV 4) (eC (.int (k:Int))))) (bT (l2 pNe (eV 5) (eC (.str ""))))) ⟨stE ns at_ a bs (way:Int) b0.nm none none,s⟩=some (true,s):=λ k a s hk=>by
   rw [wp ok k,decide_eq_true hk,decide_eq_false hne]; rfl
  have cF:∀ (k:Nat) (a:Ad) (s:Sto),way≠k->tPv (om (bT (l2 pEq (eV 4) (eC (.int (k:Int))))) (bT (l2 pNe (eV 5) (eC (.str ""))))) ⟨stE ns at_ a bs (way:Int) b0.nm none none,s⟩=some (false,s):=λ k a s hk=>by
   rw [wp ok k,decide_eq_false hk]; rfl
  by_cases w0:way=0
  ·refine ⟨"take", _,nV hn v dw h2 (by decide +kernel) (AI v hb) λ s a dn un P hd=>?_⟩;obtain ⟨s',e,q⟩:=DY P hd (AW v hb) (Ga v hb);exact ⟨stE ns at_ a bs (way:Int) b0.nm none none,s',C1 (cT 0 a s w0) (e9 (d6 rfl P.ob rfl (aV (s1:=s) (aQ rfl) eg) e)),q⟩
  by_cases w1:way=1
  ·refine ⟨"lift", _,nV hn v dw h2 (by decide +kernel) (Et v hb) λ s a dn un P hd=>?_⟩;obtain ⟨s',e,q⟩:=HQ P hd (D1 v hb);exact ⟨stE ns at_ a bs (way:Int) b0.nm none none,s',oj (cF 0 a s w0) (C1 (cT 1 a s w1) (e9 (d6 rfl P.ob rfl (aV (s1:=s) (aQ rfl) eg) e))),q⟩
  by_cases w2:way=2
  ·obtain ⟨r,hr,dr⟩:=b9 hn (k:=at_+2) (m:=6) (by omega) (by decide);have hr6:r < mk6.length:=by show r < 6; omega
   obtain ⟨m,hm⟩:∃ m,mk6[r]?=some m:=⟨mk6[r],K9 hr6⟩;have okm:=G1 m (LG hm);refine ⟨"mark", _,nV hn v dw h2 (by decide +kernel) (AM v hb (f:=λ b=>{ b with mr:=m }) λ b _=>⟨rfl,rfl,okm⟩) λ s a dn un P hd=>?_⟩;obtain ⟨s',e,q⟩:=HP P hd (Gb v hb) (D2 v hb m);have ea:mP (l2 pIx (eC (.list [.str "", .str "c", .str "f", .str "h", .str "l", .str "cf"])) (lA af (aC (eV 0) (aC (l2 az (eV 1) (eC (.int 2))) (aC (eC (.int 6)) aN))))) ⟨stE ns at_ a bs (way:Int) b0.nm none none,s⟩=some (.d (.str m),s):=by
    refine aQ (ai (x:=.list (mk6.map PyData.str)) (y:=.int (r:Int)) rfl (ay (ae rfl (ae (ai rfl rfl rfl) (ae rfl rfl))) dr) ?_);exact n8 (by rw [Le,hm]; rfl)
   exact ⟨stE ns at_ a bs (way:Int) b0.nm none none,s',oj (cF 0 a s w0) (oj (cF 1 a s w1) (C1 (cT 2 a s w2) (e9 (d6 rfl P.ob rfl (aV (s1:=s) (aQ rfl) (aV ea eg)) e)))),q⟩
  by_cases w3:way=3
  ·obtain ⟨r1,_,d1⟩:=b9 hn (k:=at_+2) (m:=9) (by omega) (by decide);obtain ⟨r2,_,d2⟩:=b9 hn (k:=at_+3) (m:=9) (by omega) (by decide);refine ⟨"lay", _,nV hn v dw h2 (by decide +kernel) (AM v hb (f:=λ b=>{ b with l:=(r1:Int) - 4,t:=(r2:Int) - 4 }) λ b hb=>⟨rfl,rfl,(v.one b hb).2.2⟩) λ s a dn un P hd=>?_⟩;obtain ⟨s',e,q⟩:=Kc P hd (Gb v hb) (Ke v hb ((r1:Int) - 4) ((r2:Int) - 4));have e1:mP (l2 kQ (lA af (aC (eV 0) (aC (l2 az (eV 1) (eC (.int 2))) (aC (eC (.int 9)) aN)))) (eC (.int 4))) ⟨stE ns at_ a bs (way:Int) b0.nm none none,s⟩=some (.d (.int ((r1:Int) - 4)),s) :=
    aQ (ai (x:=.int (r1:Int)) (ay (ae rfl (ae (ai rfl rfl rfl) (ae rfl rfl))) d1) rfl rfl)
   have e2:mP (l2 kQ (lA af (aC (eV 0) (aC (l2 az (eV 1) (eC (.int 3))) (aC (eC (.int 9)) aN)))) (eC (.int 4))) ⟨stE ns at_ a bs (way:Int) b0.nm none none,s⟩=some (.d (.int ((r2:Int) - 4)),s) :=
    aQ (ai (x:=.int (r2:Int)) (ay (ae rfl (ae (ai rfl rfl rfl) (ae rfl rfl))) d2) rfl rfl)
   exact ⟨stE ns at_ a bs (way:Int) b0.nm none none,s',oj (cF 0 a s w0) (oj (cF 1 a s w1) (oj (cF 2 a s w2) (C1 (cT 3 a s w3) (e9 (d6 rfl P.ob rfl (aV (s1:=s) (aQ rfl) (aV e1 (aV e2 eg))) e))))),q⟩
  obtain ⟨w,bs',q1,q2,q3⟩:=Dp hn h0 v way (nm:=b0.nm) (λ _=>.inr (LI.mpr ⟨b0,LG hb,rfl⟩)) (λ _=>⟨i0,b0,hb,rfl⟩) ok (λ k hk=>by rw [decide_eq_false (show ¬ way=k by omega)]; rfl);exact ⟨w,bs',nV hn v dw h2 q1 q2 q3⟩
end
noncomputable def dnL (W:Nat->Str) (S:Nat->K5) (k:Nat):List (Str×K5):=(List.range k).map λ i=>(W (i+1),S i)
noncomputable def unL (W:Nat->Str) (S:Nat->K5) (m k:Nat):List (Str×K5):=(List.range (m - k)).map λ i=>(W (m - i),S (m - i))
theorem Fi (W:Nat->Str) (S:Nat->K5) (k:Nat):(dnL W S k).length=k:=by unfold dnL; rw [K7,LW]
theorem Ea (W:Nat->Str) (S:Nat->K5) (m k:Nat):(unL W S m k).length=m - k:=by unfold unL; rw [K7,LW]
theorem xY (W:Nat->Str) (S:Nat->K5) (k:Nat):dnL W S (k+1)=dnL W S k++[(W (k+1),S k)]:=by
 unfold dnL;rw [Nw,LJ]; rfl
theorem BL (W:Nat->Str) (S:Nat->K5) {m k:Nat} (h:k < m):unL W S m k=unL W S m (k+1)++[(W (k+1),S (k+1))]:=by
 unfold unL;rw [show m - k=(m - (k+1))+1 by omega,Nw,LJ];show _++[(W (m - (m - (k+1))),S (m - (m - (k+1))))]=_;rw [show m - (m - (k+1))=k+1 by omega]
theorem BM (W:Nat->Str) (S:Nat->K5) (m:Nat):unL W S m m=[]:=by unfold unL; rw [Mc]; rfl
noncomputable abbrev At (s:Sto) (a:Ad) (W:Nat->Str) (S:Nat->K5) (m k:Nat):Prop:=Pl s a (S k) (dnL W S k) (unL W S m k)
section
variable {s:Sto} {a:Ad} {W:Nat->Str} {S:Nat->K5} {m k:Nat}
theorem At.back (A:At s a W S m (k+1)) (hk:k < m) (hm:m<=100):∃ s',bA [.r a.p] s=some (.d (.str (W (k+1))),s')/\At s' a W S m k/\Mv s s' a a:=by
 have P:Pl s a (S (k+1)) (dnL W S k++[(W (k+1),S k)]) (unL W S m (k+1)):=by rw [<- xY]; exact A
 obtain ⟨s',e,q,mv⟩:=HU P (by rw [Ea]; omega);rw [<- BL W S hk] at q;exact ⟨s',e,q,mv⟩
end
theorem B6 {ks:List Nat} {t:En->K5->Option En} {body:Wd->Option MOut} (Z:Nat->K5) (Inv:Nat->Wd->Prop) (n:Nat) (st:∀ k w,k < n->Inv k w->∃ w1 w2,mTg ks t w (Z k)=some w1/\body w1=some (.nx w2)/\Inv (k+1) w2) {w:Wd} (h0:Inv 0 w) :
  ∃ w',mGo ks t body ((List.range n).map Z) w=some (.nx w')/\Inv n w':=by
 have key:∀ (j k:Nat) (w:Wd),k+j=n->Inv k w->∃ w',mGo ks t body ((List.range' k j).map Z) w=some (.nx w')/\Inv n w':=by
  intro j
  induction j with
  | zero=>intro k w e h; exact ⟨w,rfl,by rw [<- e]; exact h⟩
  | succ j ih =>
   intro k w e h;obtain ⟨w1,w2,h1,h2,h3⟩:=st k w (by omega) h;obtain ⟨w',e1,e2⟩:=ih (k+1) w2 (by omega) h3;refine ⟨w',?_,e2⟩;rw [List.range'_succ,Ln];unfold mGo;rw [h1,K8,h2,K8];exact e1
 rw [List.range_eq_range'];exact key n 0 w (by omega) h0
open Classical in
noncomputable def nxt (ns:List Int) (at_:Int) (bs:List Bx):Str×List Bx:=if h:∃ w bs',Step ns at_ bs w bs' then (h.choose,h.choose_spec.choose) else ("", bs)
theorem CF {ns:List Int} (hn:ns.length<=63) {at_:Int} (h0:0<=at_) {bs:List Bx} (v:VB bs):Step ns at_ bs (nxt ns at_ bs).1 (nxt ns at_ bs).2:=by
 have h:=Ee hn h0 v;unfold nxt;rw [dif_pos h];exact h.choose_spec.choose_spec
noncomputable def Bq (ns:List Int) (bs:List Bx) (b:Int):Nat->List Bx
 | 0=>bs
 | k+1=>(nxt ns (b+6*(k:Int)) (Bq ns bs b k)).2
noncomputable def Wq (ns:List Int) (bs:List Bx) (b:Int):Nat->Str
 | 0 => ""
 | k+1=>(nxt ns (b+6*(k:Int)) (Bq ns bs b k)).1
section
variable {ns:List Int} (hn:ns.length<=63) {bs:List Bx} (v:VB bs) {b:Int} (h0:0<=b)
include hn v h0
theorem D0:∀ k,VB (Bq ns bs b k)
 | 0=>v
 | k+1=>(CF hn (show 0<=b+6*(k:Int) by omega) (D0 k)).2.1
theorem FC (k:Nat):Step ns (b+6*(k:Int)) (Bq ns bs b k) (Wq ns bs b (k+1)) (Bq ns bs b (k+1)):=CF hn (show 0<=b+6*(k:Int) by omega) (D0 hn v h0 k)
end
theorem Bu {ns:List Int} {at_:Int} {bs bs':List Bx} {W:Nat->Str} {S:Nat->K5} {k:Nat} (st:Step ns at_ bs (W (k+1)) bs') (e1:S k=SD bs) (e2:S (k+1)=SD bs') (hk:k<=100) {s:Sto} {a:Ad} {un:List (Str×K5)} (P:Pl s a (S k) (dnL W S k) un) :
  ∃ s' a',bQ [.d (Sd ns),.d (.int at_),.r a.p] s=some (.d .none,s')/\a'.p=a.p/\Pl s' a' (S (k+1)) (dnL W S (k+1)) []/\Mv s s' a a':=by
 rw [e1] at P;obtain ⟨s',a',h1,h2,h3,h4⟩:=st.2.2 s a _ _ P (by rw [Fi]; omega);refine ⟨s',a',h1,h2,?_,h4⟩;rw [xY,e2,e1]; exact h3
noncomputable abbrev cp (s:Str):List Nat:=s.cps.toList
noncomputable abbrev EM:Str := ""
noncomputable def SP:Str:=⟨#[32]⟩
noncomputable def NL:Str:=⟨#[10]⟩
theorem xq:("\n" : Str)=NL:=by decide +kernel
theorem nI (a b:Str):cp (a++b)=cp a++cp b:=by
 unfold cp;rw [Str.cps_append,Array.toList_append]
theorem qH {a b:Str} (h:cp a=cp b):a=b:=Str.ext' (Array.toList_inj.mp h)
theorem jn (sep:Str) (l:List Str):Txt.join sep l=Str.join sep l:=StrLaws.glued_eq_join sep l
theorem sq (c:Nat) (x y:Str) (r:List Str):cp (Str.join ⟨#[c]⟩ (x::y::r))=cp x++c::cp (Str.join ⟨#[c]⟩ (y::r)):=by
 show cp (x++⟨#[c]⟩++Str.join ⟨#[c]⟩ (y::r))=_;rw [nI,nI,Ma]; rfl
theorem Dx (c:Nat):∀ (a b r s:List Nat),c∉a->c∉b->a++c::r=b++c::s->a=b/\r=s
 | [],[],r,s,_,_,h=>by simp at h; exact ⟨rfl,h⟩
 | [],y::b,r,s,_,hb,h=>by simp at h; exact absurd (h.1 ▸ Lc) hb
 | x::a,[],r,s,ha,_,h=>by simp at h; exact absurd (h.1 ▸ Lc) ha
 | x::a,y::b,r,s,ha,hb,h=>by
  simp only [List.cons_append,List.cons.injEq] at h;obtain ⟨h1,h2⟩:=h;obtain ⟨e1,e2⟩:=Dx c a b r s (λ z=>ha (La _ z)) (λ z=>hb (La _ z)) h2;exact ⟨by rw [h1,e1],e2⟩
theorem xR (c:Nat):∀ (l m:List Str),l≠[]->m≠[]->(∀ x∈l,c∉cp x)->(∀ x∈m,c∉cp x)->Str.join ⟨#[c]⟩ l=Str.join ⟨#[c]⟩ m->l=m
 | [],_,h,_,_,_,_=>absurd rfl h
 | _,[],_,h,_,_,_=>absurd rfl h
 | [x],[y],_,_,_,_,h=>by
  have h:x=y:=h;rw [h]
 | [x],y::z::r,_,_,hl,_,h=>by
  have e:cp x=cp (Str.join ⟨#[c]⟩ (y::z::r)):=congrArg cp h;rw [sq] at e;exact absurd (by rw [e]; simp) (hl x Lc)
 | y::z::r,[x],_,_,_,hm,h=>by
  have e:cp (Str.join ⟨#[c]⟩ (y::z::r))=cp x:=congrArg cp h;rw [sq] at e;exact absurd (by rw [<- e]; simp) (hm x Lc)
 | x::y::r,x'::y'::r',_,_,hl,hm,h=>by
  have e:cp (Str.join ⟨#[c]⟩ (x::y::r))=cp (Str.join ⟨#[c]⟩ (x'::y'::r')):=congrArg cp h;rw [sq,sq] at e;obtain ⟨e1,e2⟩:=Dx c _ _ _ _ (hl x Lc) (hm x' Lc) e;rw [qH e1,xR c (y::r) (y'::r') (by simp) (by simp) (λ z hz=>hl z (La _ hz)) (λ z hz=>hm z (La _ hz)) (qH e2)]
theorem yH (c:Nat) (l:List Str) (h:l≠[]) (hf:∀ x∈l,c∉cp x):Txt.split (Str.join ⟨#[c]⟩ l) ⟨#[c]⟩=l:=by
 refine xR c _ _ (λ e=>?_) h (StrLaws.split_free _ c) hf (StrLaws.join_split _ _)
 have:=PyProof.Rows.split_pos (Str.join ⟨#[c]⟩ l) ⟨#[c]⟩
 rw [e] at this;exact absurd this (by decide)
theorem oY:∀ l:List Str,Str.join "" (l.map λ x=>x++NL)=Str.join NL (l++[EM])
 | []=>by decide +kernel
 | [x]=>by
  show x++NL=x++NL ++ "";exact qH (by simp only [nI,show cp ("" : Str)=[] by decide +kernel,LY])
 | x::y::r=>by
  have ih:=oY (y::r);show x++NL ++ "" ++ Str.join "" ((y::r).map λ x=>x++NL)=x++NL++Str.join NL ((y::r)++[EM]);rw [ih];exact qH (by simp only [nI,show cp ("" : Str)=[] by decide +kernel,LY])
theorem xL (l:List Str) (hf:∀ x∈l,10∉cp x):Txt.split (Str.join "" (l.map λ x=>x++NL)) NL=l++[EM]:=by
 rw [oY];refine yH 10 _ (by simp) λ x hx=>?_;rcases LX.mp hx with hx | hx
 ·exact hf x hx
 ·rw [LD.mp hx]; decide +kernel
theorem AE (k b:Nat):∀ (l:List Str) (a:Nat),(∀ x∈l,x.length<=b)->l.foldl (λ n x=>n+x.length+k) a<=a+l.length*(b+k)
 | [],a,_=>by simp
 | x::r,a,h=>by
  have h1:=h x Lc;have h2:=AE k b r (a+x.length+k) λ y hy=>h y (La _ hy);rw [MY,Lu,Nat.add_mul];omega
theorem Fb {sep:Str} {l:List Str} {b:Nat} (h:∀ x∈l,x.length<=b) (hz:l.length*(b+sep.length)<=3000000):JoinOk sep l=true:=by
 unfold JoinOk Builtin.Str.tooLong;have e:=AE sep.length b l 0 h;rw [List.foldl_toArray];have hb:=big hz;simp only [MP,decide_eq_false_iff_not];show ¬ (l.foldl (λ n x=>n+x.length+sep.length) 0 > Li);omega
theorem vj:∀ ss:List Str,DI (ss.map PyData.str)=some ss
 | []=>rfl
 | x::r=>by
  show (DI (r.map PyData.str)).bind _=_;rw [vj r]; rfl
theorem sV {sep:Str} {l:List Str} {b:Nat} (h:∀ x∈l,x.length<=b) (hz:l.length*(b+sep.length)<=3000000):oA (.str sep) (.list (l.map PyData.str))=some (.str (Str.join sep l)):=by
 unfold oA;dsimp only;rw [vj,K8,if_pos (Fb h hz),jn]
theorem G2 (s:Str):s.length=(cp s).length:=by simp [Str.length,cp]
theorem tG (sep:Str) (b:Nat):∀ l:List Str,(∀ x∈l,x.length<=b)->(Str.join sep l).length<=l.length*(b+sep.length)
 | [],_=>by
  show Str.length Str.empty<=_;simp [Str.empty,Str.length]
 | [x],h=>by
  have:=h x Lc
  show x.length<=1*_;omega
 | x::y::r,h=>by
  have h1:=h x Lc;have h2:=tG sep b (y::r) λ z hz=>h z (La _ hz);show (x++sep++Str.join sep (y::r)).length<=_;rw [pL,pL,Lu,Nat.add_mul];omega
theorem HA {i:Nat} {f:En->Option K5} {η:En} {d:K5} {ds:List K5} (h1:f η=some d) (h2:η[i]?=some (.own ds)) (h3:ds.length < 3000000):B4 i f η=some (.nx (η.set i (.own (ds++[d])))):=by
 unfold B4;rw [h1,K8,h2];exact if_pos (LF h3 (big (Lp _)))
theorem BH {α:Type} (f g:α->K5):∀ l:List α,zpD (l.map f) (l.map g)=l.map λ x=>.tuple [f x,g x]
 | []=>rfl
 | x::r=>by
  show PyData.tuple [f x,g x]::zpD (r.map f) (r.map g)=_;rw [BH f g r]; rfl
noncomputable def Zs (lo:Int) (n:Nat):List Int:=(List.range n).map λ (k:Nat)=>lo+(k:Int)
theorem gT (lo:Int) (n:Nat):(Zs lo n).length=n:=by unfold Zs; rw [K7,LW]
theorem Es {i j:Int} (h1:-1000<=i) (h2:i<=1000) (h3:-1000<=j) (h4:j<=1000):rng2 [.int i,.int j]=some ((Zs i (j - i).toNat).map Lv):=by
 unfold rng2;dsimp only;rw [if_pos ⟨⟨by omega,by omega⟩,by omega,by omega⟩];unfold pA Zs;rw [LK]; rfl
theorem lE {f:En->Option (List K5)} {η:En} {i j:Int} (hf:f η=some [.int i,.int j]) (h1:-1000<=i) (h2:i<=1000) (h3:-1000<=j) (h4:j<=1000):(λ η=>(f η).bind rng2) η=some ((Zs i (j - i).toNat).map Lv):=by
 show (f η).bind rng2=_;rw [hf]; exact Es h1 h2 h3 h4
noncomputable def sgn (c:Sc):List Nat->Str
 | [] => "."
 | q::_=>c.nm q
noncomputable def On (c:Sc) (ps:List Nat):Prop:=∀ q,In ps q->∃ ch,c.nm q=⟨#[ch]⟩
theorem Jl {a b:Str} (h:a.length+b.length<=3000000):az (.str a) (.str b)=some (.str (a++b)):=if_pos (big h)
theorem Fh:(".": Str).length=1:=by decide +kernel
theorem Hq:Lq "." = true:=by decide +kernel
theorem FU:Lq "" = true:=by decide +kernel
theorem tV:("" : Str).length=0:=by decide +kernel
theorem v4:NL.length=1:=rfl
theorem sgE {c:Sc} {l:List Nat} (hl:∀ q∈l,∃ ch,c.nm q=⟨#[ch]⟩) {f:En->Option K5} {η:En} (h:f η=some (hdD c l)) :
  vIf (bT (l2 (uq false) f (eC .none))) (eC (.str ".")) (l2 pIx f (eC (.int 0))) η=some (.str (sgn c l)):=by
 cases l with
 | nil=>rw [sx (b:=true) (eX (ai h rfl rfl)),if_pos rfl]; rfl
 | cons q r =>
  obtain ⟨ch,e⟩:=hl q Lc;rw [sx (b:=false) (eX (ai h rfl rfl)),if_neg (by decide)];refine ai h rfl ?_;show pIx (.str (c.nm q)) (.int 0)=some (.str (c.nm q));rw [e];show (if (⟨#[ch]⟩:Str).length<=Li then (atI [ch] 0).bind λ c=>some (PyData.str ⟨#[c]⟩) else none)=_;rw [if_pos (big (by show 1<=3000000; decide))]; rfl
theorem zI {c:Sc} {l:List Nat} (hl:∀ q∈l,∃ ch,c.nm q=⟨#[ch]⟩):(sgn c l).length=1:=by
 cases l with
 | nil=>exact Fh
 | cons q r =>
  obtain ⟨ch,e⟩:=hl q Lc;show (c.nm q).length=1;rw [e]; rfl
theorem Gm {c:Sc} (h:c.Ok) (l:List Nat):Lq (sgn c l)=true:=by
 cases l with
 | nil=>exact Hq
 | cons q r=>exact h.ok q
theorem oU {sep:Str} (hs:Lq sep=true):∀ l:List Str,(∀ s∈l,Lq s=true)->Lq (Str.join sep l)=true
 | [],_=>by show Lq Str.empty=true; decide +kernel
 | [x],h=>h x Lc
 | x::y::r,h=>nU (nU (h x Lc) hs) (oU hs (y::r) λ z hz=>h z (La _ hz))
noncomputable def jO (c:Sc) (H:Int->Int->List Nat) (xs:List Int) (y:Int):Str:=Str.join "" (xs.map λ x=>sgn c (H x y))
noncomputable def jQ (c:Sc) (H:Int->Int->List Nat) (xs ys:List Int):Str:=Str.join "" (ys.map λ y=>jO c H xs y++NL)
section
variable {c:Sc} {ps:List Nat} {pnt:List Nat} (t:Tr c ps (In ps) pnt) (on:On c ps)
noncomputable abbrev Hh (c:Sc) (ps pnt:List Nat):Int->Int->List Nat:=λ x y=>kq c.geo ps pnt x y
include t on
theorem HR (x y:Int):∀ q∈Hh c ps pnt x y,∃ ch,c.nm q=⟨#[ch]⟩:=λ q hq=>on q (wR t (LZ.mp hq).1)
theorem se (xs:List Int) (y:Int) (hx:xs.length<=60):(jO c (Hh c ps pnt) xs y).length<=60:=by
 have:=tG "" 1 (xs.map λ x=>sgn c (Hh c ps pnt x y)) λ s hs=>by
  obtain ⟨x,_,rfl⟩:=LI.mp hs;rw [zI (HR t on x y)];exact Lp _
 rw [tV,K7] at this;unfold jO;omega
omit on in
theorem yV (xs ys:List Int):Lq (jQ c (Hh c ps pnt) xs ys)=true:=oU FU _ λ s hs=>by
 obtain ⟨y,_,rfl⟩:=LI.mp hs;refine nU (oU FU _ λ s hs=>?_) (by decide +kernel);obtain ⟨x,_,rfl⟩:=LI.mp hs;exact Gm t.ok _
theorem F6 {l tp r b:Int} (hl:-100<=l/\l<=100) (htp:-100<=tp/\tp<=100) (hr:-100<=r/\r<=100) (hb:-100<=b/\b<=100) (hx:(r - l).toNat<=60) (hy:(b - tp).toNat<=60) :
  bm [c.d,.int l,.int tp,.int r,.int b]=some (.str (jQ c (Hh c ps pnt) (Zs l (r - l).toNat) (Zs tp (b - tp).toNat))):=by
 have hzx:=gT l (r - l).toNat;have hzy:=gT tp (b - tp).toNat;generalize hxs:Zs l (r - l).toNat=xs at hzx;generalize hys:Zs tp (b - tp).toNat=ys at hzy;obtain ⟨η',e,s7,s8,rfl⟩:=nX (t:=tgN 7) (body:=bt (iG 8 (bf [none,some 5,some 7] (λ η=>((aC (eV 1) (aC (eV 3) aN)) η).bind rng2) (tgN 0) ci (lA ee (aC (lA ao (aC (eV 1) (aC (eV 0) (aC (eV 2) aN)))) aN))))
   (λ η=>(B4 6 (l2 az (l2 oA (eC (.str "")) (eV 8)) (eC (.str "\n")))) (frz 8 η))) Lv
  (λ done η=>∃ s7 s8,η=[.val c.d,.val (.int l),.val (.int tp),.val (.int r),.val (.int b),.val (.list ((tkL c.geo ps pnt).map (tkD c ps))),.own ((done.map λ y=>jO c (Hh c ps pnt) xs y++NL).map PyData.str),s7,s8]) ys (λ done y rest η hall hη=>by
   obtain ⟨s7,s8,rfl⟩:=hη;have hdl:done.length<=60:=by
    have:=congrArg List.length hall
    rw [Lm,Lu] at this;omega
   have e8:bf [none,some 5,some 7] (λ η=>((aC (eV 1) (aC (eV 3) aN)) η).bind rng2) (tgN 0) ci (lA ee (aC (lA ao (aC (eV 1) (aC (eV 0) (aC (eV 2) aN)))) aN))
     [.val c.d,.val (.int l),.val (.int tp),.val (.int r),.val (.int b),.val (.list ((tkL c.geo ps pnt).map (tkD c ps))),.own ((done.map λ y=>jO c (Hh c ps pnt) xs y++NL).map PyData.str),.val (.int y),s8]=some ((xs.map λ x=>sgn c (Hh c ps pnt x y)).map PyData.str):=by
    refine gN (ds:=xs.map Lv) ((lE (ae rfl (ae rfl rfl)) (by omega) (by omega) (by omega) (by omega)).trans (by rw [hxs])) (by rw [K7]; omega) ?_;refine (nK Lv (λ x=>.str (sgn c (Hh c ps pnt x y))) xs λ x _=>⟨_,rfl,ay (ae (ay (ae rfl (ae rfl (ae rfl rfl))) (oa t x y)) rfl) ?_⟩).trans ?_
    ·exact fY rfl (gP (sgE (HR t on x y) rfl))
    ·rw [LK]; rfl
   have rl:=se t on xs y (by omega);refine ⟨_,[.val c.d,.val (.int l),.val (.int tp),.val (.int r),.val (.int b),.val (.list ((tkL c.geo ps pnt).map (tkD c ps))),.own ((done.map λ y=>jO c (Hh c ps pnt) xs y++NL).map PyData.str++[.str (jO c (Hh c ps pnt) xs y++NL)]),.val (.int y),.val (.list ((xs.map λ x=>sgn c (Hh c ps pnt x y)).map PyData.str))],rfl,br (nW e8) ?_,.val (.int y),.val (.list ((xs.map λ x=>sgn c (Hh c ps pnt x y)).map PyData.str)),?_⟩
   ·refine HA (ai (ai rfl rfl (sV (b:=1) (λ s hs=>?_) ?_)) rfl ?_) rfl (by rw [K7,K7]; omega)
    ·obtain ⟨x,_,rfl⟩:=LI.mp hs;rw [zI (HR t on x y)]; exact Lp _
    ·rw [tV,K7]; omega
    ·rw [xq];exact Jl (by rw [v4]; show (jO c (Hh c ps pnt) xs y).length+1<=_; omega)
   ·rw [LJ,LJ]; rfl) (η:=[.val c.d,.val (.int l),.val (.int tp),.val (.int r),.val (.int b),.val (.list ((tkL c.geo ps pnt).map (tkD c ps))),.own [],.un,.un]) ⟨.un,.un,rfl⟩
 refine fY rfl ?_;show lR ba ao ee [.val c.d,.val (.int l),.val (.int tp),.val (.int r),.val (.int b),.un,.un,.un,.un]=_;refine br (cz (ay (ae rfl rfl) (lG t))) ?_;refine br (nW (d:=[]) (Dl (by decide))) ?_;refine br (kE ((lE (ae rfl (ae rfl rfl)) (by omega) (by omega) (by omega) (by omega)).trans (by rw [hys])) e) ?_;refine gP (ai rfl rfl (sV (b:=61) (λ s hs=>?_) ?_))
 ·obtain ⟨y,_,rfl⟩:=LI.mp hs
  have:=se t on xs y (by omega)
  rw [pL,v4]; omega
 ·rw [tV,K7]; omega
end
noncomputable def hname (c:Sc):List Nat->Option Str
 | []=>none
 | q::_=>some (c.nm q)
noncomputable def nC (cs:List (Str×Nat)) (s:Str):Nat:=((cs.find? λ p=>decide (p.1=s)).map (·.2)).getD 0
noncomputable def wH (cs:List (Str×Nat)) (s:Str):List (Str×Nat):=if (cs.any λ p=>decide (p.1=s))=true then cs.map (λ p=>if p.1=s then (p.1,nC cs s+1) else p) else cs++[(s,1)]
noncomputable def kvC (cs:List (Str×Nat)):List (Key×K5):=cs.map λ p=>(Sum.inr p.1,.int (p.2:Nat))
theorem none_of {cs:List (Str×Nat)} {s:Str} (h:(cs.any λ p=>decide (p.1=s))=false):cs.find? (λ p=>decide (p.1=s))=none:=by
 rw [List.find?_eq_none];intro x hx;rw [List.any_eq_false] at h;exact h x hx
theorem IB (cs:List (Str×Nat)) (s:Str):A5 (kvC cs) (Sum.inr s) (.int ((nC cs s:Int)+1))=kvC (wH cs s):=by
 have ha:((kvC cs).any λ kv=>decide (kv.1=(Sum.inr s:Key)))=cs.any λ p=>decide (p.1=s):=by
  unfold kvC;rw [List.any_map]
  congr 1
  funext p
  simp [Function.comp]
 unfold A5 wH;rw [ha];cases hb:cs.any λ p=>decide (p.1=s) with
 | true =>
  rw [if_pos rfl,if_pos rfl];unfold kvC;rw [LK,LK];refine LQ λ p _=>?_;simp only [Function.comp,Sum.inr.injEq]
  split
  ·rfl
  ·rfl
 | false =>
  rw [if_neg (by decide),if_neg (by decide)]
  have:nC cs s=0:=by unfold nC; rw [none_of hb]; rfl
  unfold kvC;rw [LJ,this]; rfl
theorem FS (s:Str):∀ cs:List (Str×Nat),(ng (prs (kvC cs)) (Sum.inr s)).getD (.int 0)=.int (nC cs s:Nat)
 | []=>rfl
 | p::r=>by
  have ih:=FS s r;by_cases e:p.1=s
  ·have e1:prs (kvC (p::r))=(kD (Sum.inr s),.int (p.2:Nat))::prs (kvC r):=by rw [<- e]; rfl
   rw [e1,uY];unfold nC;rw [Nq (by simpa using e)]; rfl
  ·have e1:prs (kvC (p::r))=(kD (Sum.inr p.1),.int (p.2:Nat))::prs (kvC r):=rfl;rw [e1,uZ (λ z=>e (Sum.inr.inj z)),ih];unfold nC;rw [Nr (by simpa using e)]
theorem IQ (cs:List (Str×Nat)) (s:Str):(wH cs s).map (·.1)=sd (cs.map (·.1)) s:=by
 have ha:((cs.map (·.1)).any (·==s))=cs.any λ p=>decide (p.1=s):=by rw [List.any_map]; rfl
 unfold wH sd;rw [ha];cases hb:cs.any λ p=>decide (p.1=s) with
 | true =>
  rw [if_pos rfl,if_pos rfl,LK];refine LQ λ p _=>?_;simp only [Function.comp]
  split <;> rfl
 | false =>
  rw [if_neg (by decide),if_neg (by decide),LJ]; rfl
theorem Jg (cs:List (Str×Nat)) (s k:Str):nC (wH cs s) k=nC cs k+if k=s then 1 else 0:=by
 unfold wH;cases hb:cs.any λ p=>decide (p.1=s) with
 | true =>
  rw [if_pos rfl];unfold nC;rw [List.find?_map];have hf:((λ p:Str×Nat=>decide (p.1=k))∘λ p=>if p.1=s then (p.1,((cs.find? λ p=>decide (p.1=s)).map (·.2)).getD 0+1) else p)=λ p=>decide (p.1=k):=by
   funext p
   simp only [Function.comp]
   split <;> rfl
  rw [hf];cases hq:cs.find? (λ p=>decide (p.1=k)) with
  | none =>
   have hne:¬ k=s:=λ e=>by
    subst e;obtain ⟨x,hx,h2⟩:=ML.mp hb;exact List.find?_eq_none.mp hq x hx h2
   rw [if_neg hne]; rfl
  | some p =>
   have hp:p.1=k:=by have:=List.find?_some hq; simpa using this
   by_cases e:k=s
   ·subst e;rw [if_pos rfl];simp [hp,hq]
   ·rw [if_neg e]
    have:¬ p.1=s:=λ z=>e (by rw [<- hp,z])
    simp [this]
 | false =>
  rw [if_neg (by decide)];unfold nC;rw [List.find?_append];by_cases e:k=s
  ·subst e;rw [none_of hb,if_pos rfl]
   simp
  ·rw [if_neg e]
   have:([(s,1)]:List (Str×Nat)).find? (λ p=>decide (p.1=k))=none:=by
    rw [List.find?_eq_none];intro x hx;rw [LD.mp hx];simpa using λ z=>e z.symm
   rw [this];cases cs.find? (λ p=>decide (p.1=k)) <;> rfl
theorem xT:∀ (ss:List Str) (cs:List (Str×Nat)),(ss.foldl wH cs).map (·.1)=ss.foldl sd (cs.map (·.1))
 | [],_=>rfl
 | s::r,cs=>by
  rw [MY,MY,xT r,IQ]
theorem xU (k:Str):∀ (ss:List Str) (cs:List (Str×Nat)),nC (ss.foldl wH cs) k=nC cs k+ss.count k
 | [],cs=>by simp
 | s::r,cs=>by
  rw [MY,xU k r,Jg,List.count_cons];by_cases e:k=s
  ·subst e;rw [if_pos rfl,if_pos (by simp)]; omega
  ·rw [if_neg e,if_neg (by simpa using λ z:s=k=>e z.symm)]; omega
noncomputable def cF (ss:List Str):List (Str×Nat):=ss.foldl wH []
theorem t4 (ss:List Str):(cF ss).map (·.1)=ss.foldl sd []:=xT ss []
theorem Hw (ss:List Str) (k:Str):nC (cF ss) k=ss.count k:=(xU k ss []).trans (by show 0+_=_; omega)
theorem Hv (ss:List Str):(cF ss).length<=ss.length:=by
 have h:=congrArg List.length (t4 ss);rw [K7] at h;rw [h];exact Go ss
theorem sE:∀ (ss l:List Str),l.Nodup->(ss.foldl sd l).Nodup
 | [],_,h=>h
 | s::r,l,h=>by
  rw [MY];refine sE r _ ?_;unfold sd
  split
  ·exact h
  ·rename_i hn;rw [M4];refine ⟨h,by simp,λ a ha b hb=>?_⟩;rw [LD.mp hb];intro e;exact hn (ML.mpr ⟨a,ha,by rw [e]; simp⟩)
theorem yM {x:Str}:∀ (ss l:List Str),x∈ss.foldl sd l->x∈l\/x∈ss
 | [],_,h=>.inl h
 | s::r,l,h=>by
  rw [MY] at h;rcases yM r _ h with h | h
  ·unfold sd at h;split at h
   ·exact .inl h
   ·rcases LX.mp h with h | h
    ·exact .inl h
    ·exact .inr (by rw [LD.mp h]; exact Lc)
  ·exact .inr (La _ h)
theorem v6 {α:Type} [BEq α] [LawfulBEq α]:∀ (l m:List α),l.Nodup->(∀ x∈l,x∈m)->l.length<=m.length
 | [],_,_,_=>Ml _
 | x::r,m,hn,h=>by
  have hn':=Mf.mp hn;have hx:=h x Lc;have ih:=v6 r (m.erase x) hn'.2 λ y hy=>(ND (λ e:y=x=>hn'.1 (e ▸ hy))).mpr (h y (La _ hy));rw [List.length_erase_of_mem hx] at ih
  have:1<=m.length:=List.length_pos_of_mem hx
  rw [Lu];omega
theorem DJ:∀ cs:List (Str×Nat),zp (prs (kvC cs))=some (cs.map λ p=>(p.1,Lv (p.2:Nat)))
 | []=>rfl
 | p::r=>by
  show (zp (prs (kvC r))).bind _=_;rw [DJ r]; rfl
theorem FO (k:Str):∀ cs:List (Str×Nat),k∈cs.map (·.1)->lkS (cs.map λ p=>(p.1,Lv (p.2:Nat))) k=.int (nC cs k:Nat)
 | [],h=>by cases h
 | p::r,h=>by
  show (if p.1=k then Lv (p.2:Nat) else lkS (r.map λ p=>(p.1,Lv (p.2:Nat))) k)=_;unfold nC;by_cases e:p.1=k
  ·rw [if_pos e,Nq (by simpa using e)]; rfl
  ·rw [if_neg e,Nr (by simpa using e)];rcases LA.mp h with h | h
   ·exact absurd h.symm e
   ·exact FO k r h
theorem Gy {i:Nat} {g h:En->Option K5} {η:En} {d y:K5} {k:Key} {kvs:List (Key×K5)} (h1:h η=some d) (h2:g η=some y) (h3:qV y=some k) (h4:η[i]?=some (.odc kvs)) (h5:kvs.length < 3000000):wY i g h η=some (.nx (η.set i (.odc (A5 kvs k d)))):=by
 unfold wY;rw [h1,K8,h2,K8,h3,K8,h4];exact if_pos (LF h5 (big (Lp _)))
theorem Hk {i:Nat} {g h:En->Option K5} {η:En} {z y:K5} {k:Key} {kvs:List (Key×K5)} (h1:η[i]?=some (.odc kvs)) (h2:g η=some y) (h3:h η=some z) (h4:qV y=some k):qG i g h η=some ((ng (prs kvs) k).getD z):=by
 unfold qG;rw [h1];dsimp only;rw [h2,K8,h3,K8,h4]; rfl
noncomputable def pts (xs ys:List Int):List (Int×Int):=xs.flatMap λ x=>ys.map λ y=>(x,y)
noncomputable def nms (c:Sc) (H:Int->Int->List Nat) (ps:List (Int×Int)):List Str:=ps.filterMap λ p=>hname c (H p.1 p.2)
theorem ES (c:Sc) (H:Int->Int->List Nat) (a b:List (Int×Int)):nms c H (a++b)=nms c H a++nms c H b:=List.filterMap_append
theorem Ai (c:Sc) (H:Int->Int->List Nat) (a:List (Int×Int)):(nms c H a).length<=a.length:=List.length_filterMap_le _ _
theorem zT (xs:List Int) (x:Int) (ys:List Int):pts (xs++[x]) ys=pts xs ys++ys.map λ y=>(x,y):=by
 unfold pts;rw [List.flatMap_append,Mq,List.flatMap_nil,LY]
theorem sg (xs ys:List Int):(pts xs ys).length=xs.length*ys.length:=by
 unfold pts
 induction xs with
 | nil=>simp
 | cons x r ih=>rw [Mq,Lm,ih,K7,Lu,Nat.add_mul]; omega
noncomputable def zl (ss:List Str):K5:=.list ((sA (ss.foldl sd [])).map λ k=>.tuple [.str k,.int (ss.count k:Nat)])
section
variable {c:Sc} {ps:List Nat} {pnt:List Nat} (t:Tr c ps (In ps) pnt) (h7:ps.length<=7)
include t h7
theorem GY (l:List (Int×Int)):∀ s∈nms c (Hh c ps pnt) l,s∈(List.range 7).map λ i=>c.nm (i+1):=λ s hs=>by
 obtain ⟨p,_,e⟩:=Nc.mp hs;cases hq:Hh c ps pnt p.1 p.2 with
 | nil=>rw [hq] at e; cases e
 | cons q r =>
  rw [hq] at e;cases e;have hi:In ps q:=wR t (LZ.mp (show q∈kq c.geo ps pnt p.1 p.2 by rw [show kq c.geo ps pnt p.1 p.2=q::r from hq]; exact Lc)).1;have h7q:=LS hi.2 h7;exact LI.mpr ⟨q - 1,Mg.mpr (by have:=hi.1; omega),by rw [Nat.sub_add_cancel hi.1]⟩
noncomputable def shY:En->Option Out:=bt (cj 9 (lA ao (aC (eV 5) (aC (eV 7) (aC (eV 8) aN))))) (sIf (bT (l2 (uq true) (eV 9) (eC .none))) (wY 6 (eV 9) (l2 az (qG 6 (eV 9) (eC (.int 0))) (eC (.int 1)))) sNx)
theorem Ej {x y:Int} {ss:List Str} (hss:ss.length < 3000000) {x0 x1 x2 x3 x4 s9:Sl}:∃ s9',shY [x0,x1,x2,x3,x4,.val (.list ((tkL c.geo ps pnt).map (tkD c ps))),.odc (kvC (cF ss)),.val (.int x),.val (.int y),s9] =
  some (.nx [x0,x1,x2,x3,x4,.val (.list ((tkL c.geo ps pnt).map (tkD c ps))),.odc (kvC (cF (ss++nms c (Hh c ps pnt) [(x,y)]))),.val (.int x),.val (.int y),s9']):=by
 have e1:=oa t x y;have hl:(kvC (cF ss)).length < 3000000:=by
  unfold kvC;rw [K7]
  have:=Hv ss
  omega
 refine ⟨.val (hdD c (kq c.geo ps pnt x y)),?_⟩;refine br (cz (ay (ae rfl (ae rfl (ae rfl rfl))) e1)) ?_;cases hq:kq c.geo ps pnt x y with
 | nil =>
  have en:nms c (Hh c ps pnt) [(x,y)]=[]:=by
   show [(x,y)].filterMap (λ p=>hname c (kq c.geo ps pnt p.1 p.2))=[];rw [Nk (by show hname c (kq c.geo ps pnt x y)=none; rw [hq]; rfl)]; rfl
  rw [en,LY];exact ifN (eX (ai (x:=.none) (y:=.none) (z:=.bool false) rfl rfl rfl))
 | cons q r =>
  have en:nms c (Hh c ps pnt) [(x,y)]=[c.nm q]:=by
   show [(x,y)].filterMap (λ p=>hname c (kq c.geo ps pnt p.1 p.2))=[c.nm q];rw [Nl (by show hname c (kq c.geo ps pnt x y)=some (c.nm q); rw [hq]; rfl)]; rfl
  rw [en];refine ifT (eX (ai (x:=c.s q) (y:=.none) (z:=.bool true) rfl rfl rfl)) ?_;refine (Gy (k:=Sum.inr (c.nm q)) (d:=.int ((nC (cF ss) (c.nm q):Int)+1)) (ai ((Hk rfl rfl rfl rfl).trans (congrArg some (FS (c.nm q) (cF ss)))) rfl rfl) rfl rfl rfl hl).trans ?_;rw [IB];unfold cF;rw [List.foldl_append]; rfl
theorem K4 {l tp r b:Int} (hl:-100<=l/\l<=100) (htp:-100<=tp/\tp<=100) (hr:-100<=r/\r<=100) (hb:-100<=b/\b<=100) (hx:(r - l).toNat<=60) (hy:(b - tp).toNat<=60) :
  eY [c.d,.int l,.int tp,.int r,.int b]=some (zl (nms c (Hh c ps pnt) (pts (Zs l (r - l).toNat) (Zs tp (b - tp).toNat)))):=by
 have hzx:=gT l (r - l).toNat;have hzy:=gT tp (b - tp).toNat;generalize hxs:Zs l (r - l).toNat=xs at hzx;generalize hys:Zs tp (b - tp).toNat=ys at hzy;obtain ⟨η',e,s7,s8,s9,rfl⟩:=nX (t:=tgN 7) (body:=jF (λ η=>((aC (eV 2) (aC (eV 4) aN)) η).bind rng2) (tgN 8) shY) Lv
  (λ done η=>∃ s7 s8 s9,η=[.val c.d,.val (.int l),.val (.int tp),.val (.int r),.val (.int b),.val (.list ((tkL c.geo ps pnt).map (tkD c ps))),.odc (kvC (cF (nms c (Hh c ps pnt) (pts done ys)))),s7,s8,s9]) xs (λ done x rest η hall hη=>by
   obtain ⟨s7,s8,s9,rfl⟩:=hη;have hdl:done.length<=60:=by
    have:=congrArg List.length hall
    rw [Lm,Lu] at this;omega
   obtain ⟨η2,e2,s8',s9',rfl⟩:=nX (t:=tgN 8) (body:=shY) Lv
    (λ dn η=>∃ s8 s9,η=[.val c.d,.val (.int l),.val (.int tp),.val (.int r),.val (.int b),.val (.list ((tkL c.geo ps pnt).map (tkD c ps))),.odc (kvC (cF (nms c (Hh c ps pnt) (pts done ys++dn.map λ y=>(x,y))))),.val (.int x),s8,s9]) ys (λ dn y rst η hal hη=>by
     obtain ⟨s8,s9,rfl⟩:=hη;have hdn:dn.length<=60:=by
      have:=congrArg List.length hal
      rw [Lm,Lu] at this;omega
     have hlen:(nms c (Hh c ps pnt) (pts done ys++dn.map λ y=>(x,y))).length < 3000000:=by
      have h1:=Ai c (Hh c ps pnt) (pts done ys++dn.map λ y=>(x,y));rw [Lm,sg,K7] at h1;have h2:done.length*ys.length<=60*60:=Nh hdl (by omega);omega
     obtain ⟨s9',e⟩:=Ej t h7 (x:=x) (y:=y) hlen (x0:=.val c.d) (x1:=.val (.int l)) (x2:=.val (.int tp)) (x3:=.val (.int r)) (x4:=.val (.int b)) (s9:=s9);refine ⟨_,_,rfl,e,.val (.int y),s9',?_⟩;rw [LJ,<- Ma,ES c (Hh c ps pnt) (pts done ys++dn.map λ y=>(x,y))]; rfl) (η:=[.val c.d,.val (.int l),.val (.int tp),.val (.int r),.val (.int b),.val (.list ((tkL c.geo ps pnt).map (tkD c ps))),.odc (kvC (cF (nms c (Hh c ps pnt) (pts done ys)))),.val (.int x),s8,s9]) ⟨s8,s9,by rw [M5,LY]⟩
   refine ⟨_,_,rfl,kE ((lE (ae rfl (ae rfl rfl)) (by omega) (by omega) (by omega) (by omega)).trans (by rw [hys])) e2,.val (.int x),s8',s9',?_⟩;rw [zT]) (η:=[.val c.d,.val (.int l),.val (.int tp),.val (.int r),.val (.int b),.val (.list ((tkL c.geo ps pnt).map (tkD c ps))),.odc [],.un,.un,.un]) ⟨.un,.un,.un,rfl⟩
 refine fY rfl ?_;show nF ba ao [.val c.d,.val (.int l),.val (.int tp),.val (.int r),.val (.int b),.un,.un,.un,.un,.un]=_;refine br (cz (ay (ae rfl rfl) (lG t))) ?_;refine br (η1:=[.val c.d,.val (.int l),.val (.int tp),.val (.int r),.val (.int b),.val (.list ((tkL c.geo ps pnt).map (tkD c ps))),.odc [],.un,.un,.un]) rfl ?_;refine br (kE ((lE (ae rfl (ae rfl rfl)) (by omega) (by omega) (by omega) (by omega)).trans (by rw [hxs])) e) ?_;generalize hss:nms c (Hh c ps pnt) (pts xs ys)=ss;have hin:∀ s∈ss,s∈(List.range 7).map λ i=>c.nm (i+1):=by rw [<- hss]; exact GY t h7 _
 have hnd:((cF ss).map (·.1)).Nodup:=by rw [t4]; exact sE ss [] NG
 have h7:(cF ss).length<=7:=by
  have:=v6 ((cF ss).map (·.1)) ((List.range 7).map λ i=>c.nm (i+1)) hnd λ x hx=>by
   rw [t4] at hx;rcases yM ss [] hx with h | h
   ·cases h
   ·exact hin x h
  rwa [K7,K7,LW] at this
 refine gP (FQ rfl ?_);show (zp (prs (kvC (cF ss)))).bind _=_;rw [DJ,K8];have ek:((cF ss).map λ p=>(p.1,Lv (p.2:Nat))).map (·.1)=(cF ss).map (·.1):=by rw [LK]; rfl
 rw [ek,if_pos ⟨by rw [K7]; exact h7,hnd⟩,t4];unfold zl;refine congrArg (λ l=>some (PyData.list l)) (LQ λ k hk=>?_);have hk':k∈(cF ss).map (·.1):=by
  rw [t4];exact (Na _ _).mem_iff.mp hk
 rw [FO k _ hk',Hw]
end
theorem Hl {i:Nat} {f:En->Option (List K5)} {η:En} {es ds:List K5} (h1:f η=some es) (h2:η[i]?=some (.own ds)) (h3:ds.length+es.length<=3000000):oW i f η=some (.nx (η.set i (.own (ds++es)))):=by
 unfold oW;rw [h1,K8,h2];exact if_pos (big h3)
noncomputable def ptD (p:Int×Int):K5:=.tuple [.int p.1,.int p.2]
theorem zH {c:Sc} (h:c.Ok) (l:List Nat):LU (hdD c l)=true:=by
 cases l with
 | nil=>rfl
 | cons q r=>exact f8 (h.ok q)
theorem zG {α:Type} (D:α->K5) (h:∀ x,PyData.depth (D x)=1):∀ l:List α,(∀ x∈l,L9 (D x)=true)->Mn (l.map D)=true/\Mx (l.map D)<=1
 | [],_=>⟨rfl,Ml _⟩
 | x::r,hc=>by
  obtain ⟨a,b⟩:=zG D h r λ y hy=>hc y (La _ hy);rw [Ln];simp only [Mn,Mx];rw [hc x Lc,a,h x];exact ⟨rfl,by omega⟩
theorem shl {α:Type} (D:α->K5) (h:∀ x,PyData.depth (D x)=1) {l:List α} (hc:∀ x∈l,L9 (D x)=true):LU (.list (l.map D))=true:=by
 obtain ⟨a,b⟩:=zG D h l hc;unfold LU L9 PyData.depth;rw [a,Bool.true_and,decide_eq_true_eq];omega
theorem Gj (l:List (Int×Int)):LU (.list (l.map ptD))=true :=
 shl ptD (λ x=>by simp [ptD,PyData.depth,Mx]) λ x _=>by simp [ptD,L9,Mn]
noncomputable def ne2 (c1 c2:Sc) (H1 H2:Int->Int->List Nat) (p:Int×Int):Bool:=!LV (hdD c1 (H1 p.1 p.2)) (hdD c2 (H2 p.1 p.2))
theorem GP {c1 c2:Sc} (h1:c1.Ok) (h2:c2.Ok) (l1 l2:List Nat):pNe (hdD c1 l1) (hdD c2 l2)=some (.bool (!LV (hdD c1 l1) (hdD c2 l2))):=by
 unfold pNe;rw [if_pos ⟨zH h1 l1,zH h2 l2⟩]
section
variable {c1 c2:Sc} {ps1 ps2 pn1 pn2:List Nat} (t1:Tr c1 ps1 (In ps1) pn1) (t2:Tr c2 ps2 (In ps2) pn2)
include t1 t2
theorem Kd {l tp r b:Int} (hl:-100<=l/\l<=100) (htp:-100<=tp/\tp<=100) (hr:-100<=r/\r<=100) (hb:-100<=b/\b<=100) (hx:(r - l).toNat<=60) (hy:(b - tp).toNat<=60) :
  aS [c1.d,c2.d,.int l,.int tp,.int r,.int b]=some (.list (((pts (Zs l (r - l).toNat) (Zs tp (b - tp).toNat)).filter (ne2 c1 c2 (Hh c1 ps1 pn1) (Hh c2 ps2 pn2))).map ptD)):=by
 have hzx:=gT l (r - l).toNat;have hzy:=gT tp (b - tp).toNat;generalize hxs:Zs l (r - l).toNat=xs at hzx;generalize hys:Zs tp (b - tp).toNat=ys at hzy;obtain ⟨η',e,s9,rfl⟩:=nX (t:=tgN 9) (body:=oW 8 (lI asL (oE (bf [none,some 6,some 7,some 9] (λ η=>((aC (eV 3) (aC (eV 5) aN)) η).bind rng2) (tgN 0) (bT (l2 pNe (lA ao (aC (eV 1) (aC (eV 3) (aC (eV 0) aN)))) (lA ao (aC (eV 2) (aC (eV 3) (aC (eV 0) aN)))))) (lA (λ ds=>if ds.length<=Li then some (.tuple ds) else none) (aC (eV 3) (aC (eV 0) aN))))))) Lv
  (λ done η=>∃ s9,η=[.val c1.d,.val c2.d,.val (.int l),.val (.int tp),.val (.int r),.val (.int b),.val (.list ((tkL c1.geo ps1 pn1).map (tkD c1 ps1))),.val (.list ((tkL c2.geo ps2 pn2).map (tkD c2 ps2))),.own (((pts done ys).filter (ne2 c1 c2 (Hh c1 ps1 pn1) (Hh c2 ps2 pn2))).map ptD),s9]) xs (λ done x rest η hall hη=>by
   obtain ⟨s9,rfl⟩:=hη;have hdl:done.length<=60:=by
    have:=congrArg List.length hall
    rw [Lm,Lu] at this;omega
   have hc:bf [none,some 6,some 7,some 9] (λ η=>((aC (eV 3) (aC (eV 5) aN)) η).bind rng2) (tgN 0) (bT (l2 pNe (lA ao (aC (eV 1) (aC (eV 3) (aC (eV 0) aN)))) (lA ao (aC (eV 2) (aC (eV 3) (aC (eV 0) aN)))))) (lA (λ ds=>if ds.length<=Li then some (.tuple ds) else none) (aC (eV 3) (aC (eV 0) aN)))
     [.val c1.d,.val c2.d,.val (.int l),.val (.int tp),.val (.int r),.val (.int b),.val (.list ((tkL c1.geo ps1 pn1).map (tkD c1 ps1))),.val (.list ((tkL c2.geo ps2 pn2).map (tkD c2 ps2))),.own (((pts done ys).filter (ne2 c1 c2 (Hh c1 ps1 pn1) (Hh c2 ps2 pn2))).map ptD),.val (.int x)]=some (((ys.map λ y=>(x,y)).filter (ne2 c1 c2 (Hh c1 ps1 pn1) (Hh c2 ps2 pn2))).map ptD):=by
    refine gN (ds:=ys.map Lv) ((lE (ae rfl (ae rfl rfl)) (by omega) (by omega) (by omega) (by omega)).trans (by rw [hys])) (by rw [K7]; omega) ?_;refine (fw Lv (λ y=>ne2 c1 c2 (Hh c1 ps1 pn1) (Hh c2 ps2 pn2) (x,y)) (λ y=>ptD (x,y)) ys λ y _=>⟨_,rfl,eX (ai (ay (ae rfl (ae rfl (ae rfl rfl))) (oa t1 x y)) (ay (ae rfl (ae rfl (ae rfl rfl))) (oa t2 x y)) (GP t1.ok t2.ok _ _)),λ _=>ay (ae rfl (ae rfl rfl)) (f7 (by simp))⟩).trans ?_;rw [List.filter_map,LK]; rfl
   have l1:(((pts done ys).filter (ne2 c1 c2 (Hh c1 ps1 pn1) (Hh c2 ps2 pn2))).map ptD).length<=3600:=by
    rw [K7];have h1:=Mr (ne2 c1 c2 (Hh c1 ps1 pn1) (Hh c2 ps2 pn2)) (pts done ys);rw [sg] at h1;have h2:done.length*ys.length<=60*60:=Nh hdl (by omega);omega
   have l2':(((ys.map λ y=>(x,y)).filter (ne2 c1 c2 (Hh c1 ps1 pn1) (Hh c2 ps2 pn2))).map ptD).length<=60:=by
    rw [K7];have h1:=Mr (ne2 c1 c2 (Hh c1 ps1 pn1) (Hh c2 ps2 pn2)) (ys.map λ y=>(x,y));rw [K7] at h1;omega
   refine ⟨_,_,rfl,Hl (l8 (l6 hc) rfl) rfl (by omega),.val (.int x),?_⟩;rw [zT,List.filter_append,LJ]; rfl) (η:=[.val c1.d,.val c2.d,.val (.int l),.val (.int tp),.val (.int r),.val (.int b),.val (.list ((tkL c1.geo ps1 pn1).map (tkD c1 ps1))),.val (.list ((tkL c2.geo ps2 pn2).map (tkD c2 ps2))),.own [],.un]) ⟨.un,rfl⟩
 refine fY rfl ?_;show iu ba ao [.val c1.d,.val c2.d,.val (.int l),.val (.int tp),.val (.int r),.val (.int b),.un,.un,.un,.un]=_;refine br (cz (ay (ae rfl rfl) (lG t1))) ?_;refine br (cz (ay (ae rfl rfl) (lG t2))) ?_;refine br (nW (d:=[]) (Dl (by decide))) ?_;exact br (kE ((lE (ae rfl (ae rfl rfl)) (by omega) (by omega) (by omega) (by omega)).trans (by rw [hxs])) e) rfl
end
noncomputable abbrev pnB (bs:List Bx):List Nat:=kids (stF (psB bs)) 13 0
noncomputable abbrev HB (bs:List Bx):Int->Int->List Nat:=Hh (scB bs) (psB bs) (pnB bs)
theorem trV {bs:List Bx} (v:VB bs):Tr (scB bs) (psB bs) (In (psB bs)) (pnB bs) :=
 ⟨oV v,λ q h=>h,λ q h=>nY h.1 h.2,λ q h=>EG (mR v) h.1 h.2,λ q h x hx=>P_in' (mR v) q h hx,GF (mR v),λ q h=>xM (mR v) h,G7 (mR v),mR v⟩
theorem dV {bs:List Bx} (v:VB bs):(scB bs).d=SD bs:=sI v
theorem nmV {bs:List Bx} (v:VB bs) {q:Nat} (hq:In (psB bs) q):∃ b∈bs,bs[q - 1]?=some b/\nmB bs q=b.nm:=by
 have h2:=hq.2;rw [kT] at h2;have h1:=hq.1;have e:bs[q - 1]?=some (bs[q - 1]'(by omega)):=K9 (by omega);refine ⟨_,LG e,e,?_⟩
 have:=k8 e
 rwa [show q - 1+1=q by omega] at this
theorem GX {s:Str} (h1:1<=s.length) (h2:s.length<=1):∃ ch,s=⟨#[ch]⟩:=by
 have hl:(cp s).length=1:=by rw [<- G2]; omega
 obtain ⟨ch,e⟩:∃ ch,cp s=[ch]:=by
  cases hc:cp s with
  | nil=>rw [hc] at hl; cases hl
  | cons x r=>cases r with
   | nil=>exact ⟨x,rfl⟩
   | cons y r=>rw [hc] at hl; simp at hl
 exact ⟨ch,qH e⟩
theorem onV {bs:List Bx} (v:VB bs):On (scB bs) (psB bs):=λ q hq=>by
 obtain ⟨b,hb,_,e⟩:=nmV v hq;obtain ⟨ch,h⟩:=GX (v.one b hb).1.1 (v.one b hb).1.2;exact ⟨ch,e.trans h⟩
section
variable {bs bs':List Bx} (v:VB bs) (v':VB bs') {l tp r b:Int} (hl:-100<=l/\l<=100) (htp:-100<=tp/\tp<=100) (hr:-100<=r/\r<=100) (hb:-100<=b/\b<=100) (hx:(r - l).toNat<=60) (hy:(b - tp).toNat<=60)
include v hl htp hr hb hx hy
theorem AV:bm [SD bs,.int l,.int tp,.int r,.int b]=some (.str (jQ (scB bs) (HB bs) (Zs l (r - l).toNat) (Zs tp (b - tp).toNat))):=by
 rw [<- dV v]; exact F6 (trV v) (onV v) hl htp hr hb hx hy
theorem K2 (h7:bs.length<=7):eY [SD bs,.int l,.int tp,.int r,.int b]=some (zl (nms (scB bs) (HB bs) (pts (Zs l (r - l).toNat) (Zs tp (b - tp).toNat)))):=by
 rw [<- dV v]; exact K4 (trV v) (by rw [kT]; exact h7) hl htp hr hb hx hy
include v'
theorem DS:aS [SD bs,SD bs',.int l,.int tp,.int r,.int b]=some (.list (((pts (Zs l (r - l).toNat) (Zs tp (b - tp).toNat)).filter (ne2 (scB bs) (scB bs') (HB bs) (HB bs'))).map ptD)):=by
 rw [<- dV v,<- dV v']; exact Kd (trV v) (trV v') hl htp hr hb hx hy
end
theorem F0 {bs:List Bx} (v:VB bs) (x y:Int):hG [SD bs,.int x,.int y]=some (hdD (scB bs) (HB bs x y)):=by
 rw [<- dV v];exact fY rfl (show tQ ba ao [.val (scB bs).d,.val (.int x),.val (.int y)]=_ from
  gP (ay (ae (ay (ae rfl rfl) (lG (trV v))) (ae rfl (ae rfl rfl))) (oa (trV v) x y)))
open StrLaws in
theorem ve (x:Str) (c:Nat):∀ (cuts:List Nat) (a f:Nat),ChainG x ⟨#[c]⟩ x.length a cuts f->(∀ k,f<=k->¬ StrLaws.At x ⟨#[c]⟩ x.length k)->cuts.length=((cp x).drop a).count c
 | [],a,f,h,hn=>by
  have e:f=a:=h;subst e;refine (List.count_eq_zero.mpr λ hm=>?_).symm;obtain ⟨j,hj⟩:=MB hm;rw [List.getElem?_drop] at hj;exact hn (f+j) (by omega) ((subAt_one x c (f+j)).mpr hj)
 | d::r,a,f,h,hn=>by
  obtain ⟨h1,h2,h3,h4⟩:=h;have ih:=ve x c r (d+1) f h4 hn;have hd:(cp x)[d]?=some c:=(subAt_one x c d).mp h2;have hlt:=(Lb.mp hd).1;have e1:(cp x).drop a=((cp x).drop a).take (d - a)++(c::(cp x).drop (d+1)):=by
   conv=>lhs; rw [<- List.take_append_drop (d - a) ((cp x).drop a)]
   congr 1
   rw [List.drop_drop,show a+(d - a)=d by omega,My hlt]
   congr 1
   exact (Lb.mp hd).2
  have e2:(((cp x).drop a).take (d - a)).count c=0:=List.count_eq_zero.mpr λ hm=>by
   obtain ⟨j,hj⟩:=MB hm;have hlt':j < d - a:=by
    have:=(Lb.mp hj).1
    rw [No] at this;omega
   rw [List.getElem?_take_of_lt hlt',List.getElem?_drop] at hj;exact h3 (a+j) (by omega) (by omega) ((subAt_one x c (a+j)).mpr hj)
  rw [e1,List.count_append,e2,List.count_cons_self,<- ih,Lu];omega
theorem BB (x:Str) (c:Nat):Txt.count x ⟨#[c]⟩=((cp x).count c:Nat):=by
 obtain ⟨f,h1,h2⟩:=StrLaws.occ_tight x ⟨#[c]⟩ (by show 1<=1; decide);unfold Txt.count;rw [ve x c _ 0 f h1 h2,List.drop_zero]
noncomputable def dsum (q:Int->Int->Bool) (xs ys:List Int):Nat:=(xs.map λ x=>ys.countP λ y=>q x y).sum
theorem yb (q:Int->Bool) (f:Int->Nat):∀ ys:List Int,(ys.map λ y=>f y+if q y=true then 1 else 0).sum=(ys.map f).sum+ys.countP q
 | []=>rfl
 | y::r=>by
  rw [Ln,L7,Ln,L7,MM,yb q f r];omega
theorem u9 (q:Int->Int->Bool) (ys:List Int):∀ xs:List Int,dsum q xs ys=(ys.map λ y=>xs.countP λ x=>q x y).sum
 | []=>by
  unfold dsum
  induction ys with
  | nil=>rfl
  | cons y r ih=>rw [Ln,L7,<- ih]; rfl
 | x::r=>by
  have ih:=u9 q ys r;unfold dsum at ih ⊢;rw [Ln,L7,ih]
  have:(λ y=>(x::r).countP λ x=>q x y)=λ y=>(r.countP λ x=>q x y)+if q x y=true then 1 else 0:=by
   funext y; rw [MM]
  rw [this,yb (q x)];exact Nat.add_comm _ _
theorem xX (q:Int->Int->Bool) (ys:List Int):∀ xs:List Int,dsum q xs ys+dsum (λ x y=>!q x y) xs ys=xs.length*ys.length
 | []=>by simp [dsum]
 | x::r=>by
  have ih:=xX q ys r;unfold dsum at ih ⊢;rw [Ln,L7,Ln,L7,Lu,Nat.add_mul];have h:ys.length=ys.countP (λ y=>q x y)+ys.countP λ y=>!q x y:=by
   rw [List.length_eq_countP_add_countP (λ y=>q x y)]
   congr 2
   funext y; cases q x y <;> rfl
  show ys.countP (λ y=>q x y)+_+(ys.countP (λ y=>!q x y)+_)=_;omega
theorem zS (q:Int->Int->Bool) (ys:List Int):∀ xs:List Int,(pts xs ys).countP (λ p=>q p.1 p.2)=dsum q xs ys
 | []=>rfl
 | x::r=>by
  have ih:=zS q ys r;unfold dsum at ih ⊢;show ((ys.map λ y=>(x,y))++pts r ys).countP _=_;rw [List.countP_append,ih,Ln,L7,List.countP_map]; rfl
theorem Aj (c:Sc) (H:Int->Int->List Nat):∀ l:List (Int×Int),(nms c H l).length=l.countP λ p=>!(H p.1 p.2).isEmpty
 | []=>rfl
 | p::r=>by
  have ih:=Aj c H r;unfold nms at ih ⊢;rw [MM,<- ih];cases hq:H p.1 p.2 with
  | nil=>rw [Nk (by show hname c (H p.1 p.2)=none; rw [hq]; rfl)]; simp
  | cons a b=>rw [Nl (b:=c.nm a) (by show hname c (H p.1 p.2)=some (c.nm a); rw [hq]; rfl)]; simp
theorem Ax {α:Type} [DecidableEq α] (x:α):∀ m:List α,m.Nodup->(m.map λ k=>if k=x then (1:Nat) else 0).sum=if x∈m then 1 else 0
 | [],_=>rfl
 | k::r,h=>by
  obtain ⟨h1,h2⟩:=Mf.mp h;rw [Ln,L7,Ax x r h2];by_cases e:k=x
  ·subst e;rw [if_pos rfl,if_neg h1,if_pos Lc]
  ·rw [if_neg e];by_cases hx:x∈r
   ·rw [if_pos hx,if_pos (La _ hx)]
   ·rw [if_neg hx,if_neg (λ z=>(LA.mp z).elim (λ z=>e z.symm) hx)]
theorem zE (f g:Str->Nat):∀ m:List Str,(m.map λ k=>f k+g k).sum=(m.map f).sum+(m.map g).sum
 | []=>rfl
 | k::r=>by
  rw [Ln,L7,Ln,L7,Ln,L7,zE f g r]; omega
theorem wO:∀ m:List Str,(m.map λ _=>(0:Nat)).sum=0
 | []=>rfl
 | k::r=>by rw [Ln,L7,wO r]
theorem uL (m:List Str) (hm:m.Nodup):∀ ss:List Str,(∀ x∈ss,x∈m)->(m.map λ k=>ss.count k).sum=ss.length
 | [],_=>by
  have:(m.map λ k=>([]:List Str).count k)=m.map λ _=>0:=LQ λ _ _=>rfl
  rw [this,wO]; rfl
 | x::r,h=>by
  have ih:=uL m hm r λ y hy=>h y (La _ hy);have e:(m.map λ k=>(x::r).count k)=m.map λ k=>r.count k+if k=x then 1 else 0:=LQ λ k _=>by
   rw [List.count_cons]
   congr 1
   by_cases e:x=k
   ·subst e; simp
   ·rw [if_neg (by simpa using e),if_neg (λ z=>e z.symm)]
  rw [e,zE,ih,Ax x m hm,if_pos (h x Lc),Lu]
theorem zK {x:Str}:∀ (ss l:List Str),x∈l->x∈ss.foldl sd l
 | [],_,h=>h
 | s::r,l,h=>zK r _ (by unfold sd; split <;> simp [h])
theorem FG {x:Str}:∀ (ss l:List Str),x∈ss->x∈ss.foldl sd l
 | s::r,l,h=>by
  rcases LA.mp h with e | e
  ·subst e;refine zK r _ ?_;unfold sd
   split
   ·rename_i h2;obtain ⟨y,hy,e⟩:=ML.mp h2
    have:y=x:=by simpa using e
    rw [<- this]; exact hy
   ·simp
  ·exact FG r _ e
theorem BY {x:Str} {l:List Str}:x∈sA l↔x∈l:=(Na l _).mem_iff
noncomputable def lu (ss:List Str):List Str:=sA (ss.foldl sd [])
theorem keysS_mem {x:Str} {ss:List Str}:x∈lu ss↔x∈ss:=by
 unfold lu;rw [BY];exact ⟨λ h=>(yM ss [] h).resolve_left (by simp),FG ss []⟩
theorem xO (ss:List Str):(lu ss).Nodup:=(Na _ _).nodup_iff.mpr (sE ss [] NG)
theorem Bn (ss:List Str):((lu ss).map λ k=>ss.count k).sum=ss.length:=uL _ (xO ss) ss λ x hx=>keysS_mem.mpr hx
theorem kH:∀ l:List Str,cp (Str.join "" l)=l.flatMap cp
 | []=>by show cp Str.empty=[]; decide +kernel
 | [x]=>by show cp x=_; simp
 | x::y::r=>by
  show cp (x ++ "" ++ Str.join "" (y::r))=_;rw [nI,nI,kH (y::r),Mq]
  have:cp ("" : Str)=[]:=by decide +kernel
  rw [this,LY]; rfl
theorem tZ {α:Type} (f:α->List Nat) (c:Nat):∀ l:List α,(l.flatMap f).count c=(l.map λ x=>(f x).count c).sum
 | []=>rfl
 | x::r=>by rw [Mq,List.count_append,tZ f c r,Ln,L7]
theorem Dz:cp "." = [46]:=by decide +kernel
theorem Jf:cp NL=[10]:=rfl
theorem Em {c:Sc} {H:Int->Int->List Nat} (hc:∀ x y,∀ q∈H x y,(cp (c.nm q)).count 46=0) (y:Int):∀ xs:List Int,(cp (jO c H xs y)).count 46=xs.countP λ x=>(H x y).isEmpty:=λ xs=>by
 unfold jO;rw [kH,List.flatMap_map,tZ]
 induction xs with
 | nil=>rfl
 | cons x r ih =>
  rw [Ln,L7,MM,ih,Nat.add_comm]
  congr 1
  cases hq:H x y with
  | nil=>show (cp ".").count 46=_; rw [Dz]; rfl
  | cons q t=>exact hc x y q (by rw [hq]; exact Lc)
theorem EA {c:Sc} {H:Int->Int->List Nat} (hc:∀ x y,∀ q∈H x y,(cp (c.nm q)).count 46=0) (xs ys:List Int):(cp (jQ c H xs ys)).count 46=dsum (λ x y=>(H x y).isEmpty) xs ys:=by
 rw [u9];unfold jQ;rw [kH,List.flatMap_map,tZ]
 congr 1
 refine LQ λ y _=>?_;show (cp (jO c H xs y++NL)).count 46=_;rw [nI,List.count_append,Em hc,Jf]; rfl
theorem zr {c:Sc} {H:Int->Int->List Nat} (hc:∀ x y,∀ q∈H x y,(cp (c.nm q)).count 46=0) (xs ys:List Int) :
  ((lu (nms c H (pts xs ys))).map λ k=>(nms c H (pts xs ys)).count k).sum+(cp (jQ c H xs ys)).count 46=xs.length*ys.length:=by
 rw [Bn,Aj,EA hc,zS (λ x y=>!(H x y).isEmpty)]
 have:=xX (λ x y=>(H x y).isEmpty) ys xs
 omega
noncomputable def rng (lo hi:Int):List Int:=(List.range (hi - lo).toNat).map λ (k:Nat)=>lo+(k:Int)
theorem Ep (lo hi:Int):(rng lo hi).length=(hi - lo).toNat:=by unfold rng; rw [K7,LW]
noncomputable def cnt (g:Geo) (ps pnt:List Nat) (q:Nat):Nat:=((rng (g.wnd ps q).2.1 (g.wnd ps q).2.2.2).map λ y=>((rng (g.wnd ps q).1 (g.wnd ps q).2.2.1).filter λ x=>decide ((kq g ps pnt x y).head?=some q)).length).sum
noncomputable def bdA (a:Ar):Prop:=(-1000<=a.1/\a.1<=1000)/\(-1000<=a.2.1/\a.2.1<=1000)/\(-1000<=a.2.2.1/\a.2.2.1<=1000)/\(-1000<=a.2.2.2/\a.2.2.2<=1000)
theorem Fq {a b:Ar} (ha:bdA a) (hb:bdA b):bdA (ovl a b):=by
 unfold bdA ovl at *;dsimp only;omega
theorem AQ (g:Geo) (ps:List Nat):∀ (l:List Nat) (w:Ar),(∀ x∈l,bdA (g.area ps x))->bdA w->bdA (vB g ps l w)
 | [],w,_,h=>h
 | s::r,w,hl,h=>by
  unfold vB;refine AQ g ps r _ (λ x hx=>hl x (La _ hx)) ?_
  split
  ·exact Fq h (hl s Lc)
  ·exact h
theorem yG {f:Nat->Int} {b:Int} (h0:0<=b) (h:∀ x,-b<=f x/\f x<=b):∀ l:List Nat,-(b*l.length)<=(l.map f).sum/\(l.map f).sum<=b*l.length
 | []=>by simp
 | x::r=>by
  have ih:=yG h0 h r;have hx:=h x;rw [Ln,L7,Lu]
  have:b*((r.length+1:Nat):Int)=b*(r.length:Int)+b:=by
   rw [NB,Int.mul_add]; simp
  omega
structure Sm (g:Geo):Prop where
 l:∀ x,-5<=g.L x/\g.L x<=5
 t:∀ x,-5<=g.T x/\g.T x<=5
 w:∀ x,0<=g.W x/\g.W x<=8
 h:∀ x,0<=g.H x/\g.H x<=8
theorem yk {g:Geo} (sm:Sm g) {ps:List Nat} {q:Nat} (hl:(P ps q).length<=12):bdA (g.area ps q):=by
 have h1:=yG (by decide) sm.l (P ps q);have h2:=yG (by decide) sm.t (P ps q);have h3:=sm.w q;have h4:=sm.h q;unfold bdA Geo.area Geo.sL Geo.sT;dsimp only;omega
theorem Hy {i:Nat} {f:En->Option K5} {η:En} {n m:Int} (h1:eV i η=some (.int n)) (h2:f η=some (.int m)):yN i f η=some (.nx (η.set i (.val (.int (n+m))))):=by
 unfold yN;rw [h1,K8,h2,K8]
theorem Er (lo hi:Int):pA lo (hi - lo).toNat=(rng lo hi).map Lv:=by
 unfold pA rng;rw [LK]; rfl
theorem B7 {i j:Int} (h1:-1000<=i/\i<=1000) (h2:-1000<=j/\j<=1000):rng2 [.int i,.int j]=some ((rng i j).map Lv):=by
 rw [<- Er];exact if_pos ⟨⟨by omega,by omega⟩,⟨by omega,by omega⟩⟩
theorem EH (ns:List Nat):qm [.list (ns.map λ (n:Nat)=>Lv (n:Int))]=some (.int ((ns.sum:Nat):Int)):=by
 have e:ns.map (λ (n:Nat)=>Lv (n:Int))=(ns.map λ (n:Nat)=>(n:Int)).map Lv:=by rw [LK]; rfl
 have e2:∀ l:List Nat,(l.map λ (n:Nat)=>(n:Int)).sum=((l.sum:Nat):Int):=λ l=>by
  induction l with
  | nil=>rfl
  | cons x r ih=>rw [Ln,L7,L7,ih,NB]
 unfold qm;dsimp only;rw [e,vq];show some (Lv _)=_;rw [e2]
section
variable {c:Sc} {ps:List Nat} {D:Nat->Prop} {pnt:List Nat} (t:Tr c ps D pnt) (sm:Sm c.geo)
include t
theorem IW (l:List Nat) (q:Nat):pEq (hdD c l) (c.s q)=some (.bool (decide (l.head?=some q))):=by
 cases l with
 | nil =>
  show pEq .none (.str (c.nm q))=_;unfold pEq;rw [if_pos ⟨by rfl,f8 (t.ok.ok q)⟩];simp [LV]
 | cons x r =>
  show pEq (c.s x) (c.s q)=_;rw [t.ok.eqs]; simp
include sm
theorem BJ {q:Nat} (hq:D q):bdA (c.geo.wnd ps q):=AQ c.geo ps _ _ (λ x hx=>yk sm (FB t (t.up q hq x hx))) (yk sm (FB t hq))
theorem Cc {q:Nat} (hq:D q):∀ (ys:List Int) (acc:Int) (s5:Sl),∃ s5',sGo (tgN 5) (yN 4 (lA kR (aC (oE (bf [none,some 1,some 3,some 5] (λ η=>((aC (l2 pIx (eV 2) (eC (.int 0))) (aC (l2 pIx (eV 2) (eC (.int 2))) aN)) η).bind rng2) (tgN 0) (bT (l2 pEq (lA ao (aC (eV 2) (aC (eV 0) (aC (eV 3) aN)))) (eV 1))) (eV 0))) aN)))
  (ys.map Lv) [.val c.d,.val (c.s q),.val (arD (c.geo.wnd ps q)),.val (.list ((tkL c.geo ps pnt).map (tkD c ps))),.val (.int acc),s5]
  = some (.nx [.val c.d,.val (c.s q),.val (arD (c.geo.wnd ps q)),.val (.list ((tkL c.geo ps pnt).map (tkD c ps))),.val (.int (acc+(((ys.map λ y=>((rng (c.geo.wnd ps q).1 (c.geo.wnd ps q).2.2.1).filter λ x=>decide ((kq c.geo ps pnt x y).head?=some q)).length).sum:Nat):Int))),s5'])
 | [],acc,s5=>⟨s5,by simp [sGo]⟩
 | y::ys,acc,s5=>by
  have hb:=BJ t sm hq;have ec:bf [none,some 1,some 3,some 5] (λ η=>((aC (l2 pIx (eV 2) (eC (.int 0))) (aC (l2 pIx (eV 2) (eC (.int 2))) aN)) η).bind rng2) (tgN 0) (bT (l2 pEq (lA ao (aC (eV 2) (aC (eV 0) (aC (eV 3) aN)))) (eV 1))) (eV 0)
    [.val c.d,.val (c.s q),.val (arD (c.geo.wnd ps q)),.val (.list ((tkL c.geo ps pnt).map (tkD c ps))),.val (.int acc),.val (.int y)]=some (((rng (c.geo.wnd ps q).1 (c.geo.wnd ps q).2.2.1).filter λ x=>decide ((kq c.geo ps pnt x y).head?=some q)).map Lv):=by
   refine gN (ds:=(rng (c.geo.wnd ps q).1 (c.geo.wnd ps q).2.2.1).map Lv) (n6 (ae (ai rfl rfl rfl) (ae (ai rfl rfl rfl) rfl)) (B7 hb.1 hb.2.2.1)) ?_ ?_
   ·rw [K7,Ep]
    have:=hb.1
    have:=hb.2.2.1
    omega
   ·exact fw (η:=[.un,.val (c.s q),.val (.list ((tkL c.geo ps pnt).map (tkD c ps))),.val (.int y)]) Lv (λ x=>decide ((kq c.geo ps pnt x y).head?=some q)) Lv _ λ x _ =>
     ⟨[.val (.int x),.val (c.s q),.val (.list ((tkL c.geo ps pnt).map (tkD c ps))),.val (.int y)],rfl,eX (ai (ay (ae rfl (ae rfl (ae rfl rfl))) (oa t x y)) rfl (IW t _ q)),λ _=>rfl⟩
  obtain ⟨s5',ih⟩:=Cc hq ys (acc+((((rng (c.geo.wnd ps q).1 (c.geo.wnd ps q).2.2.1).filter λ x=>decide ((kq c.geo ps pnt x y).head?=some q)).length:Nat):Int)) (.val (.int y));refine ⟨s5',?_⟩;rw [Ln]
  conv=>lhs; unfold sGo
  show Ll (yN 4 _ [.val c.d,.val (c.s q),.val (arD (c.geo.wnd ps q)),.val (.list ((tkL c.geo ps pnt).map (tkD c ps))),.val (.int acc),.val (.int y)]) _=_;have ea:yN 4 (lA kR (aC (oE (bf [none,some 1,some 3,some 5] (λ η=>((aC (l2 pIx (eV 2) (eC (.int 0))) (aC (l2 pIx (eV 2) (eC (.int 2))) aN)) η).bind rng2) (tgN 0) (bT (l2 pEq (lA ao (aC (eV 2) (aC (eV 0) (aC (eV 3) aN)))) (eV 1))) (eV 0))) aN)) [.val c.d,.val (c.s q),.val (arD (c.geo.wnd ps q)),.val (.list ((tkL c.geo ps pnt).map (tkD c ps))),.val (.int acc),.val (.int y)]
    = some (.nx [.val c.d,.val (c.s q),.val (arD (c.geo.wnd ps q)),.val (.list ((tkL c.geo ps pnt).map (tkD c ps))),.val (.int (acc+((((rng (c.geo.wnd ps q).1 (c.geo.wnd ps q).2.2.1).filter λ x=>decide ((kq c.geo ps pnt x y).head?=some q)).length:Nat):Int))),.val (.int y)]):=by
   refine Hy rfl (ay (ae (l6 ec) rfl) ?_);show some (Lv ((List.map Lv _).length:Nat))=_;rw [K7]
  rw [ea,K8];show sGo _ _ _ _=_;rw [ih,Ln,L7,NB,Int.add_assoc]
theorem DT {q:Nat} (hq:D q):bP [c.d,c.s q]=some (.int ((cnt c.geo ps pnt q:Nat):Int)):=by
 have hb:=BJ t sm hq;obtain ⟨s5,e⟩:=Cc t sm hq (rng (c.geo.wnd ps q).2.1 (c.geo.wnd ps q).2.2.2) 0 .un;rw [Int.zero_add] at e;exact fY rfl (show ku bG ba ao [.val c.d,.val (c.s q),.un,.un,.un,.un]=_ from
  br (cz (ay (ae rfl (ae rfl rfl)) (yt t hq))) (br (cz (ay (ae rfl rfl) (lG t))) (br (cz rfl)
   (br (kE (n6 (ae (ai rfl rfl rfl) (ae (ai rfl rfl rfl) rfl)) (B7 hb.2.1 hb.2.2.2)) e) (gP rfl)))))
end
theorem FZ (lo:Int) (n:Nat):(Zs lo n).Nodup:=by
 unfold Zs List.Nodup;rw [MD];exact List.Pairwise.imp (λ h=>by omega) MZ
theorem Gz {xs ys:List Int} (hx:xs.Nodup) (hy:ys.Nodup):(pts xs ys).Nodup:=by
 induction xs with
 | nil=>exact NG
 | cons x r ih =>
  obtain ⟨h1,h2⟩:=Mf.mp hx;show ((ys.map λ y=>(x,y))++pts r ys).Nodup;rw [M4];refine ⟨?_,ih h2,?_⟩
  ·unfold List.Nodup;rw [MD];exact List.Pairwise.imp (λ h e=>h (Prod.mk.inj e).2) hy
  ·intro a ha b hb e;subst e;obtain ⟨y,_,rfl⟩:=LI.mp ha;obtain ⟨x',hx',hb⟩:=Mi.mp hb;obtain ⟨y',_,e⟩:=LI.mp hb
   have:=(Prod.mk.inj e).1
   subst this;exact h1 hx'
theorem Ak {lo hi x:Int} (h1:lo<=x) (h2:x < hi):x∈rng lo hi:=by
 unfold rng;exact LI.mpr ⟨(x - lo).toNat,Mg.mpr (by omega),by omega⟩
theorem va {c:Sc} (ok:c.Ok) (H:Int->Int->List Nat) (q:Nat):∀ l:List (Int×Int),(nms c H l).count (c.nm q)=l.countP λ p=>decide ((H p.1 p.2).head?=some q)
 | []=>rfl
 | p::r=>by
  have ih:=va ok H q r;unfold nms at ih ⊢;rw [MM,<- ih];cases hq:H p.1 p.2 with
  | nil=>rw [Nk (by show hname c (H p.1 p.2)=none; rw [hq]; rfl)]; simp
  | cons a b =>
   rw [Nl (b:=c.nm a) (by show hname c (H p.1 p.2)=some (c.nm a); rw [hq]; rfl),List.count_cons]
   congr 1
   by_cases e:a=q
   ·subst e; simp
   ·rw [if_neg (by simpa using λ z=>e (ok.inj _ _ z)),if_neg (by simpa using e)]
section
variable {c:Sc} {ps pnt:List Nat} (t:Tr c ps (In ps) pnt)
include t
theorem AA {x y:Int} {q:Nat} (h:(Hh c ps pnt x y).head?=some q):In ps q/\lQ (c.geo.wnd ps q) x y=true:=by
 have hm:q∈kq c.geo ps pnt x y:=List.mem_of_mem_head? h;have h2:=LZ.mp hm;have hi:=wR t h2.1;exact ⟨hi,by rw [zB t.ps hi.1]; exact h2.2⟩
theorem B0 {q:Nat} {xs ys:List Int} (hx:xs.Nodup) (hy:ys.Nodup):(nms c (Hh c ps pnt) (pts xs ys)).count (c.nm q)<=cnt c.geo ps pnt q:=by
 rw [va t.ok,List.countP_eq_length_filter];have hl:cnt c.geo ps pnt q=((rng (c.geo.wnd ps q).2.1 (c.geo.wnd ps q).2.2.2).flatMap λ y=>((rng (c.geo.wnd ps q).1 (c.geo.wnd ps q).2.2.1).filter λ x=>decide ((kq c.geo ps pnt x y).head?=some q)).map λ x=>(x,y)).length:=by
  rw [List.length_flatMap];unfold cnt
  congr 1
  refine LQ λ y _=>?_;rw [K7]
 rw [hl];refine v6 _ _ ((Gz hx hy).sublist NJ) λ p hp=>?_;obtain ⟨x,y⟩:=p;have h:=of_decide_eq_true (LZ.mp hp).2;obtain ⟨_,hw⟩:=AA t h;unfold lQ at hw;simp only [L4,decide_eq_true_eq] at hw;refine Mi.mpr ⟨y,Ak hw.2.1 hw.2.2,LI.mpr ⟨x,LZ.mpr ⟨Ak hw.1.1 hw.1.2,decide_eq_true h⟩,rfl⟩⟩
theorem IK {l:List (Int×Int)} {s:Str} (hs:s∈nms c (Hh c ps pnt) l):∃ q,In ps q/\s=c.nm q:=by
 obtain ⟨p,_,e⟩:=Nc.mp hs;cases hq:Hh c ps pnt p.1 p.2 with
 | nil=>rw [hq] at e; cases e
 | cons q r =>
  rw [hq] at e;cases e;exact ⟨q,(AA t (x:=p.1) (y:=p.2) (by rw [hq]; rfl)).1,rfl⟩
end
theorem wn (c1 c2:Sc) (l1 l2:List Nat):LV (hdD c1 l1) (hdD c2 l2)=decide ((l1.head?.map c1.nm)=(l2.head?.map c2.nm)):=by
 cases l1 with
 | nil=>cases l2 with
  | nil=>simp [hdD,LV]
  | cons b s=>simp [hdD,Sc.s,LV]
 | cons a r=>cases l2 with
  | nil=>simp [hdD,Sc.s,LV]
  | cons b s =>
   show LV (.str (c1.nm a)) (.str (c2.nm b))=_;unfold LV
   simp
   rfl
theorem CM (c1 c2:Sc) (H1 H2:Int->Int->List Nat):ne2 c1 c2 H1 H2=ne2 c2 c1 H2 H1:=by
 funext p
 unfold ne2;rw [wn,wn]
 congr 1
 exact decide_eq_decide.mpr ⟨Eq.symm,Eq.symm⟩
theorem o8 (c:Sc) (l:List Nat):sgn c l=(l.head?.map c.nm).getD "." := by cases l <;> rfl
theorem Ck {c1 c2:Sc} {H1 H2:Int->Int->List Nat} {xs ys:List Int} (h:(pts xs ys).filter (ne2 c1 c2 H1 H2)=[]):jQ c1 H1 xs ys=jQ c2 H2 xs ys:=by
 have ha:∀ x∈xs,∀ y∈ys,sgn c1 (H1 x y)=sgn c2 (H2 x y):=λ x hx y hy=>by
  have hp:(x,y)∈pts xs ys:=Mi.mpr ⟨x,hx,LI.mpr ⟨y,hy,rfl⟩⟩
  have:=M0.mp h (x,y) hp
  unfold ne2 at this;rw [wn] at this;have e:(H1 x y).head?.map c1.nm=(H2 x y).head?.map c2.nm:=by simpa using this
  rw [o8,o8,e]
 unfold jQ
 congr 1
 refine LQ λ y hy=>?_;unfold jO
 congr 2
 exact LQ λ x hx=>ha x hx y hy
theorem CL (c:Sc) (H:Int->Int->List Nat) (l:List (Int×Int)):l.filter (ne2 c c H H)=[]:=M0.mpr λ p _=>by
 unfold ne2;rw [wn]; simp
theorem Eo (c:Sc) (H:Int->Int->List Nat) (xs zs:List Int) (y:Int):jO c H (xs++zs) y=jO c H xs y++jO c H zs y:=qH (by
 unfold jO;rw [nI,kH,kH,kH,LJ,List.flatMap_append])
theorem Gq {c:Sc} {H:Int->Int->List Nat} (hc:∀ x y,∀ q∈H x y,10∉cp (c.nm q)) (xs:List Int) (y:Int):10∉cp (jO c H xs y):=by
 unfold jO;rw [kH];intro hm;obtain ⟨s,hs,hm⟩:=Mi.mp hm;obtain ⟨x,_,rfl⟩:=LI.mp hs;cases hq:H x y with
 | nil =>
  rw [hq] at hm;have hm:10∈cp "." := hm;rw [Dz] at hm;simp at hm
 | cons q r =>
  rw [hq] at hm;exact hc x y q (by rw [hq]; exact Lc) hm
noncomputable def rws (c:Sc) (H:Int->Int->List Nat) (xs ys:List Int):List Str:=ys.map λ y=>jO c H xs y
theorem zZ (c:Sc) (H:Int->Int->List Nat) (xs ys:List Int):jQ c H xs ys=Str.join "" ((rws c H xs ys).map λ x=>x++NL):=by
 unfold jQ rws;rw [LK]; rfl
theorem uT {c:Sc} {H:Int->Int->List Nat} (hc:∀ x y,∀ q∈H x y,10∉cp (c.nm q)) (xs ys:List Int):Txt.split (jQ c H xs ys) NL=rws c H xs ys++[EM]:=by
 rw [zZ];exact xL _ λ s hs=>by
  obtain ⟨y,_,rfl⟩:=LI.mp hs;exact Gq hc xs y
theorem Cl (c:Sc) (H:Int->Int->List Nat) (xs ys:List Int):Str.join NL (rws c H xs ys++[EM])=jQ c H xs ys:=by
 rw [zZ,oY]
theorem HJ (lo:Int) (m n:Nat):Zs lo (m+n)=Zs lo m++Zs (lo+m) n:=by
 unfold Zs;rw [List.range_add,LJ,LK]
 congr 1
 refine LQ λ k _=>?_;show lo+((m+k:Nat):Int)=lo+m+k;omega
theorem Az (g:Geo) (ps pnt:List Nat) (x y:Int):kq g ps pnt x y=pnt.reverse.filter λ q=>g.tch ps x y q&&(!g.l q&&g.shown ps q):=by
 unfold kq tkL;rw [List.filter_filter,List.filter_filter];exact List.filter_congr λ q _=>Bool.and_assoc _ _ _
theorem BT (g:Geo) (ps:List Nat) (x y:Int) (q:Nat):g.tch ps x y q=(((P ps (par ps q)).filter g.c).all (λ z=>lQ (g.area ps z) x y)&&lQ (g.area ps q) x y):=by
 unfold Geo.tch Geo.row Geo.cuts;dsimp only;rw [List.all_append,List.all_map,MO,List.all_nil,Bool.and_true]; rfl
section
variable {ps:List Nat} (ok:uc ps)
include ok
theorem GE {x:Nat} (h:x∈xk ps):In ps x:=xM ok h
theorem IG {q x:Nat} (hq:1<=q) (h:x∈P ps (par ps q)):x∈P ps q:=by
 rw [gC ok hq];exact L0 _ h
theorem Bt {g g':Geo} (hL:∀ x,In ps x->g'.L x=g.L x+if par ps x=0 then 3 else 0) (hT:∀ x,In ps x->g'.T x=g.T x - if par ps x=0 then 2 else 0) (hW:g'.W=g.W) (hH:g'.H=g.H) (hc:g'.c=g.c) (hh:g'.h=g.h) (hl:g'.l=g.l) (x y:Int) :
  kq g' ps (xk ps) (x+3) (y - 2)=kq g ps (xk ps) x y:=by
 have hs:∀ z,In ps z->g'.sL ps z=g.sL ps z+3/\g'.sT ps z=g.sT ps z - 2:=λ z=>by
  induction z using MG with
  | ind z ih =>
   intro hz;rw [FJ ok hz.1,FJ (g:=g) ok hz.1,FH ok hz.1,FH (g:=g) ok hz.1,hL z hz,hT z hz];by_cases e:par ps z=0
   ·rw [if_pos e,if_pos e,e];have h1:∀ f:Geo,f.sL ps 0=0:=λ f=>rfl;have h2:∀ f:Geo,f.sT ps 0=0:=λ f=>rfl;rw [h1,h1,h2,h2];omega
   ·rw [if_neg e,if_neg e];have hp:=iK ok hz.1;obtain ⟨h1,h2⟩:=ih (par ps z) hp ⟨by omega,by have:=hz.2; omega⟩;rw [h1,h2];omega
 have ha:∀ z,In ps z->lQ (g'.area ps z) (x+3) (y - 2)=lQ (g.area ps z) x y:=λ z hz=>by
  obtain ⟨h1,h2⟩:=hs z hz;unfold lQ Geo.area;dsimp only;rw [h1,h2,hW,hH]
  congr 1
  ·congr 1
   ·exact decide_eq_decide.mpr (by omega)
   ·exact decide_eq_decide.mpr (by omega)
  ·congr 1
   ·exact decide_eq_decide.mpr (by omega)
   ·exact decide_eq_decide.mpr (by omega)
 rw [Az,Az];refine List.filter_congr λ z hz=>?_;have hin:=GE ok (List.mem_reverse.mp hz);have h1:g'.shown ps z=g.shown ps z:=by unfold Geo.shown; rw [hh]
 have h3:g'.tch ps (x+3) (y - 2) z=g.tch ps x y z:=by
  rw [BT,BT,ha z hin,hc]
  congr 1
  rw [MC,L5,L5];have hm:∀ w∈(P ps (par ps z)).filter g.c,In ps w:=λ w hw=>P_in' ok z hin (IG ok hin.1 (LZ.mp hw).1);exact ⟨λ h w hw=>by rw [<- ha w (hm w hw)]; exact h w hw,λ h w hw=>by rw [ha w (hm w hw)]; exact h w hw⟩
 rw [h1,h3,hl]
end
theorem Tr.same {c c':Sc} {ps pnt:List Nat} {D:Nat->Prop} (t:Tr c ps D pnt) (hs:c'.st=c.st) (ok':c'.Ok):Tr c' ps D pnt :=
 ⟨ok',t.din,λ q h=>by rw [hs]; exact t.par q h,λ q h=>by rw [hs]; exact t.path q h,t.up,by rw [hs]; exact t.pn,t.pd,t.pl,t.ps⟩
noncomputable abbrev E5 (c:Sc) (s2 s3:Sl):En:=[.val c.d,.val (.int 3),.val (.int (-2)),s2,s3]
noncomputable def shB:En->Option Out:=sIf (bT (l2 pEq (l2 pIx (eV 4) (eC (.int 1))) (eC (.str "")))) (cj 3 (lA b4 (aC (eV 3) (aC (l2 pIx (eV 4) (eC (.int 0))) (aC (l2 az (l2 pIx (eV 4) (eC (.int 2))) (eV 1)) (aC (l2 az (l2 pIx (eV 4) (eC (.int 3))) (eV 2)) aN)))))) sNx
structure Sh (c c':Sc) (ps:List Nat) (done:List (Nat×Nat)):Prop where
 st:c'.st=c.st
 nm:c'.nm=c.nm
 w:c'.W=c.W
 h:c'.H=c.H
 mr:c'.mr=c.mr
 ok:c'.Ok
 l:∀ x,In ps x->c'.L x=c.L x+if x∈done.map (·.1)/\par ps x=0 then 3 else 0
 t:∀ x,In ps x->c'.T x=c.T x - if x∈done.map (·.1)/\par ps x=0 then 2 else 0
theorem su {A B:Prop} [Decidable A] [Decidable B] {u v:Int} (h:A↔B):(if A then u else v)=if B then u else v:=by
 by_cases a:A
 ·rw [if_pos a,if_pos (h.mp a)]
 ·rw [if_neg a,if_neg λ b=>a (h.mpr b)]
theorem v7 {z:Nat} {x:Nat×Nat} {done:List (Nat×Nat)} {A:Prop} (ez:¬ z=x.1):(z∈done.map (·.1)/\A)↔(z∈(done++[x]).map (·.1)/\A):=by
 rw [LJ,LX]
 constructor
 ·exact λ w=>⟨.inl w.1,w.2⟩
 ·rintro ⟨w | w,a⟩
  ·exact ⟨w,a⟩
  ·exact absurd (LD.mp w) ez
theorem BZ {c:Sc} {ps:List Nat} (t:Tr c ps (In ps) (xk ps)) (hst:c.st=stF ps) :
  ∃ (c':Sc) (s3:Sl),Sh c c' ps c.st/\jF (lI lj (eV 0)) (tgN 4) shB (E5 c (.val c.d) .un)=some (.nx (E5 c (.val c'.d) s3)):=by
 obtain ⟨η',e,c',s3,h,rfl⟩:=nX (t:=tgN 4) (body:=shB) c.box (λ done η=>∃ (c':Sc) (s3:Sl),Sh c c' ps done/\η=E5 c (.val c'.d) s3) c.st (λ done x rest η hall ⟨c',s3,h,hη⟩=>by
  subst hη;have hx:x∈stF ps:=by rw [<- hst,hall]; simp
  obtain ⟨h1,h2,h3⟩:=qh hx;have hin:In ps x.1:=⟨h1,h2⟩;have t1:bT (l2 pEq (l2 pIx (eV 4) (eC (.int 1))) (eC (.str ""))) (E5 c (.val c'.d) (.val (c.box x)))=some (decide (x.2=0)):=eX (ai (x:=c.s x.2) (ai rfl rfl rfl) rfl (t.ok.eq0 x.2));by_cases e:x.2=0
  ·rw [decide_eq_true e] at t1;have hp:og c'.st x.1=some 0:=by
    rw [h.st,t.par x.1 hin,<- h3,e]
   have hu:∀ y∈c'.st,y.1=x.1->y.2=0:=λ y hy ey=>by
    rw [h.st,hst] at hy;obtain ⟨_,_,g3⟩:=qh hy;rw [g3,ey,<- h3,e]
   have ep:=yB (c:=c') (ps:=ps) ⟨h.ok,h.st.trans hst,t.ps⟩ hin (c.L x.1+3) (c.T x.1+-2);have es:c'.s x.1=c.s x.1:=by unfold Sc.s; rw [h.nm]
   rw [es] at ep;have hpar:par ps x.1=0:=by rw [<- h3,e]
   refine ⟨E5 c (.val c'.d) (.val (c.box x)),E5 c (.val (c'.put x.1 (c.L x.1+3) (c.T x.1+-2)).d) (.val (c.box x)),rfl,?_,c'.put x.1 (c.L x.1+3) (c.T x.1+-2),.val (c.box x),⟨h.st,h.nm,h.w,h.h,h.mr,h.ok.put _ _ _,λ z hz=>?_,λ z hz=>?_⟩,rfl⟩
   ·unfold shB;rw [u4 t1,if_pos rfl];exact cz (ay (ae rfl (ae (ai rfl rfl rfl) (ae (ai (ai rfl rfl rfl) rfl rfl) (ae (ai (ai rfl rfl rfl) rfl rfl) rfl)))) ep)
   ·show (if z=x.1 then c.L x.1+3 else c'.L z)=_;by_cases ez:z=x.1
    ·rw [if_pos ez,ez,if_pos ⟨by simp,hpar⟩]
    ·rw [if_neg ez,h.l z hz];exact congrArg (c.L z+·) (su (v7 ez))
   ·show (if z=x.1 then c.T x.1+-2 else c'.T z)=_;by_cases ez:z=x.1
    ·rw [if_pos ez,ez,if_pos ⟨by simp,hpar⟩]; rfl
    ·rw [if_neg ez,h.t z hz];exact congrArg (c.T z - ·) (su (v7 ez))
  ·rw [decide_eq_false e] at t1;have hpar:par ps x.1≠0:=by rw [<- h3]; exact e
   refine ⟨E5 c (.val c'.d) (.val (c.box x)),E5 c (.val c'.d) (.val (c.box x)),rfl,ifN t1,c',.val (c.box x),⟨h.st,h.nm,h.w,h.h,h.mr,h.ok,λ z hz=>?_,λ z hz=>?_⟩,rfl⟩
   ·rw [h.l z hz];refine congrArg (c.L z+·) (su ?_);by_cases ez:z=x.1
    ·subst ez;exact ⟨λ w=>absurd w.2 hpar,λ w=>absurd w.2 hpar⟩
    ·exact v7 ez
   ·rw [h.t z hz];refine congrArg (c.T z - ·) (su ?_);by_cases ez:z=x.1
    ·subst ez;exact ⟨λ w=>absurd w.2 hpar,λ w=>absurd w.2 hpar⟩
    ·exact v7 ez) (η:=E5 c (.val c.d) .un) ⟨c,.un,⟨rfl,rfl,rfl,rfl,rfl,t.ok,λ x _=>by simp,λ x _=>by simp⟩,rfl⟩
 exact ⟨c',s3,h,kE (ds:=c.st.map c.box) (l8 rfl rfl) e⟩
theorem Ei {c c':Sc} {ps:List Nat} (t:Tr c ps (In ps) (xk ps)) (hst:c.st=stF ps) (h:Sh c c' ps c.st) (x y:Int):Hh c' ps (xk ps) (x+3) (y - 2)=Hh c ps (xk ps) x y:=by
 have hm:∀ z,In ps z->z∈c.st.map (·.1):=λ z hz=>by
  rw [hst];exact LI.mpr ⟨(z,par ps z),y2 hz.1 hz.2,rfl⟩
 exact Bt t.ps (g:=c.geo) (g':=c'.geo) (λ z hz=>by
  show c'.L z=c.L z+_;rw [h.l z hz];simp [hm z hz]) (λ z hz=>by
  show c'.T z=c.T z - _;rw [h.t z hz];simp [hm z hz]) h.w h.h (by show (λ q=>inM "c" (c'.mr q))=_; rw [h.mr]; rfl) (by show (λ q=>inM "h" (c'.mr q))=_; rw [h.mr]; rfl) (by show (λ q=>inM "l" (c'.mr q))=_; rw [h.mr]; rfl) x y
theorem yr (lo k:Int) (n:Nat):Zs (lo+k) n=(Zs lo n).map (·+k):=by
 unfold Zs;rw [LK];exact LQ λ j _=>by show lo+k+(j:Int)=lo+(j:Int)+k; omega
theorem CP {bs:List Bx} (v:VB bs):∃ c':Sc,cf [SD bs,.int 3,.int (-2)]=some c'.d/\Tr c' (psB bs) (In (psB bs)) (pnB bs)/\c'.nm=(scB bs).nm/\∀ x y,Hh c' (psB bs) (pnB bs) (x+3) (y - 2)=HB bs x y:=by
 have t:=trV v;obtain ⟨c',s3,h,e⟩:=BZ (c:=scB bs) (ps:=psB bs) t rfl;refine ⟨c',?_,t.same h.st h.ok,h.nm,λ x y=>Ei t rfl h x y⟩;rw [<- dV v];exact fY rfl (show jG b4 [.val (scB bs).d,.val (.int 3),.val (.int (-2)),.un,.un]=_ from
  br (cz rfl) (br e (gP rfl)))
theorem C4 (sc:K5) (n u:Nat):(pf sc n u).lookup ("now" : Str)=none/\(pf sc n u).lookup ("back" : Str)=none:=⟨rfl,rfl⟩
section
variable {w:Wd} {s s':Sto} {a:Ad} {sc:K5} {dn un:List (Str×K5)} {d:D}
theorem yi {o:MF} (P:Pl s a sc dn un) (h:o w=some (.r a.p,s)):bZ 0 "now" aZ o maN w=some (.d sc,s):=d6 h P.ob (C4 ..).1 rfl (F7 P)
theorem Hu {o:MF} (P:Pl s a sc dn un) (h:o w=some (.r a.p,s)) (e:bA [.r a.p] s=some (d,s')):bZ 0 "back" bA o maN w=some (d,s'):=d6 h P.ob (C4 ..).2 rfl e
theorem v5 {f g:MF} {s1 s2:Sto} {x:K5} (h1:f w=some (.d x,s1)) (h2:g ⟨w.η,s1⟩=some (.d x,s2)) (hx:LU x=true):mB (m7 pNe f g) w=some (false,s2):=C3 (wb h1 h2 rfl rfl (sU hx) rfl)
end
theorem Kx (k:Nat):kj (.int 6) (.int (0+(k:Int)))=some (.int (6*(k:Int))):=by
 rw [jR (xt (by decide) (by decide)),Int.zero_add]
theorem zM {j:Int} {n:Nat} (h:j=(n:Int)) (hn:n<=1000):rng1 [.int j]=some ((List.range n).map λ (k:Nat)=>Lv (0+(k:Int))):=by
 subst h;rw [vH (by omega) (by omega)];show some (pA 0 ((n:Int).toNat))=_;rw [show ((n:Int).toNat)=n by omega]; rfl
theorem qD {f g:En->Option K5} {η:En} {x:K5} (h1:f η=some x) (h2:g η=some x) (hx:LU x=true):bT (l2 pNe f g) η=some false:=eX (ai h1 h2 (sU hx))
section
variable {c:Sc} {ps pnt:List Nat} (tr:Tr c ps (In ps) pnt) (on:On c ps)
include tr on
theorem z0 (xs ys:List Int) (hx:xs.length<=60) (hy:ys.length<=60):(jQ c (Hh c ps pnt) xs ys).length<=3660:=by
 have:=tG "" 61 (ys.map λ y=>jO c (Hh c ps pnt) xs y++NL) λ s hs=>by
  obtain ⟨y,_,rfl⟩:=LI.mp hs
  have:=se tr on xs y hx
  rw [pL,v4]; omega
 rw [tV,K7] at this;unfold jQ;have h2:ys.length*(61+0)<=60*61:=Nh hy (by omega);omega
end
theorem xn:("\n" : Str).length≠0:=by decide +kernel
noncomputable def rk (c:Sc) (H:Int->Int->List Nat) (xs:List Int):Option Int->Str
 | some y=>jO c H xs y
 | none=>EM
theorem yP (c:Sc) (H:Int->Int->List Nat) (xs ys:List Int):rws c H xs ys++[EM]=(ys.map some++[none]).map (rk c H xs):=by
 rw [LJ,LK]; rfl
theorem Gt (c:Sc) (H:Int->Int->List Nat) (xs zs:List Int) (o:Option Int):rk c H xs o++rk c H zs o=rk c H (xs++zs) o:=by
 cases o with
 | none=>exact (show EM++EM=EM by decide +kernel)
 | some y=>exact (Eo c H xs zs y).symm
noncomputable abbrev jD (i:Int):Option D:=some (.d (.int i))
noncomputable abbrev LE (ns:List Int) (S:K5) (l tp r b:Int) (so tx x8 x9 x10 x11 x12 x13 x14 x15 x16:Option D):MEn:=[some (.d (Sd ns)),some (.d S),jD l,jD tp,jD r,jD b,so,tx,x8,x9,x10,x11,x12,x13,x14,x15,x16]
noncomputable abbrev PT (bs:List Bx) (l tp r b:Int):Str:=jQ (scB bs) (HB bs) (Zs l (r - l).toNat) (Zs tp (b - tp).toNat)
structure Fr (l tp r b:Int):Prop where
 fl:-20<=l/\l<=20
 ft:-20<=tp/\tp<=20
 fr:l<=r/\r<=l+6
 fb:tp<=b/\b<=tp+6
structure Pn (bs:List Bx):Prop where
 no:∀ b∈bs,10∉cp b.nm/\46∉cp b.nm
theorem Pn.q {bs:List Bx} (p:Pn bs) (v:VB bs) {x y:Int} {q:Nat} (h:q∈HB bs x y):10∉cp ((scB bs).nm q)/\46∉cp ((scB bs).nm q):=by
 have hi:=wR (trV v) (LZ.mp h).1;obtain ⟨b,hb,_,e⟩:=nmV v hi;show 10∉cp (nmB bs q)/\46∉cp (nmB bs q);rw [e]; exact p.no b hb
theorem yQ {c:Sc} {ps pnt:List Nat} (tr:Tr c ps (In ps) pnt) (on:On c ps) (xs:List Int) (hx:xs.length<=60) (o:Option Int):(rk c (Hh c ps pnt) xs o).length<=60:=by
 cases o with
 | none=>show ("" : Str).length<=60; rw [tV]; omega
 | some y=>exact se tr on xs y hx
section
variable {ns:List Int} (hn:ns.length<=63) {bs:List Bx} (v:VB bs) (pn:Pn bs) {l tp r b:Int} (f:Fr l tp r b) {so x8 x9 x10 x11 x12:Option D} {s:Sto}
include hn v pn f
theorem T16:Da ⟨LE ns (SD bs) l tp r b so (some (.d (.str (PT bs l tp r b)))) x8 x9 x10 x11 x12 none none none none,s⟩=some (.rt (.d (.bool true)) s):=by
 obtain ⟨w,hw,dw⟩:=b9 hn (k:=205) (m:=r - l+1) (by decide) (by have:=f.fr; omega);have f1:=f.fl; have f2:=f.ft; have f3:=f.fr; have f4:=f.fb;obtain ⟨at_,hat⟩:∃ a:Int,a=l+(w:Int):=⟨_,rfl⟩;have e1:=AV v (l:=l) (tp:=tp) (r:=at_) (b:=b) (by omega) (by omega) (by omega) (by omega) (by omega) (by omega);have e2:=AV v (l:=at_) (tp:=tp) (r:=r) (b:=b) (by omega) (by omega) (by omega) (by omega) (by omega) (by omega);have hxs:Zs l (r - l).toNat=Zs l (at_ - l).toNat++Zs at_ (r - at_).toNat:=by
  have:=HJ l (at_ - l).toNat (r - at_).toNat
  rw [show (at_ - l).toNat+(r - at_).toNat=(r - l).toNat by omega,show l+((at_ - l).toNat:Int)=at_ by omega] at this;exact this
 have hl1:=gT l (at_ - l).toNat;have hl2:=gT at_ (r - at_).toNat;have hl3:=gT tp (b - tp).toNat;have hl0:=gT l (r - l).toNat;obtain ⟨c',em,t',nm',hH⟩:=CP v;have on':On c' (psB bs):=λ q hq=>by rw [nm']; exact onV v q hq
 have e3:=F6 t' on' (l:=l+3) (tp:=tp - 2) (r:=r+3) (b:=b - 2) (by omega) (by omega) (by omega) (by omega) (by omega) (by omega);have e3':jQ c' (Hh c' (psB bs) (pnB bs)) (Zs (l+3) (r+3 - (l+3)).toNat) (Zs (tp - 2) (b - 2 - (tp - 2)).toNat)=PT bs l tp r b:=by
  rw [show r+3 - (l+3)=r - l by omega,show b - 2 - (tp - 2)=b - tp by omega,yr,show tp - 2=tp+-2 by omega,yr];unfold PT jQ;rw [LK]
  congr 1
  refine LQ λ y _=>?_;show jO c' _ _ (y+-2)++NL=jO _ _ _ y++NL
  congr 1
  unfold jO;rw [LK]
  congr 1
  refine LQ λ x _=>?_;show sgn c' (Hh c' (psB bs) (pnB bs) (x+3) (y+-2))=sgn (scB bs) (HB bs x y);rw [show y+-2=y - 2 by omega,hH,o8,o8,nm']
 rw [e3'] at e3;have pok:Lq (PT bs l tp r b)=true:=yV (trV v) _ _;generalize hX1:Zs l (at_ - l).toNat=xs1 at *;generalize hX2:Zs at_ (r - at_).toNat=xs2 at *;generalize hY:Zs tp (b - tp).toNat=ys at *;have h10:∀ x y,∀ q∈HB bs x y,10∉cp ((scB bs).nm q):=λ x y q hq=>(pn.q v hq).1;have p1:mW (.str (jQ (scB bs) (HB bs) xs1 ys)) (.str "\n")=some (.list (((ys.map some++[none]).map (rk (scB bs) (HB bs) xs1)).map PyData.str)):=by
  have hp:(jQ (scB bs) (HB bs) xs1 ys).length<=3660:=z0 (trV v) (onV v) xs1 ys (by omega) (by omega);show (if _/\_ then _ else _)=_;rw [if_pos ⟨xn,big (by omega)⟩,xq,uT h10,yP]
 have p2:mW (.str (jQ (scB bs) (HB bs) xs2 ys)) (.str "\n")=some (.list (((ys.map some++[none]).map (rk (scB bs) (HB bs) xs2)).map PyData.str)):=by
  have hp:(jQ (scB bs) (HB bs) xs2 ys).length<=3660:=z0 (trV v) (onV v) xs2 ys (by omega) (by omega);show (if _/\_ then _ else _)=_;rw [if_pos ⟨xn,big (by omega)⟩,xq,uT h10,yP]
 generalize hL:ys.map some++[none]=L at p1 p2;have hLl:L.length<=61:=by rw [<- hL,Lm,K7]; simp; omega
 have ec:∀ {x1 x13:Option D},bf [none,none] (λ η=>((aC (eV 14) (aC (eV 15) aN)) η).bind zpL) (tgT (bo (tgN 0) (bo (tgN 1) gO))) ci (l2 az (eV 0) (eV 1))
   (vw ⟨LE ns (SD bs) l tp r b so x1 x8 x9 x10 x11 x12 x13 (some (.d (.list ((L.map (rk (scB bs) (HB bs) xs1)).map PyData.str)))) (some (.d (.list ((L.map (rk (scB bs) (HB bs) xs2)).map PyData.str)))) none,s⟩)=some ((L.map (rk (scB bs) (HB bs) (xs1++xs2))).map PyData.str):=λ {x1 x13}=>by
  refine gN (ds:=L.map λ o=>.tuple [.str (rk (scB bs) (HB bs) xs1 o),.str (rk (scB bs) (HB bs) xs2 o)]) (n6 (ae rfl (ae rfl rfl)) ?_) (by rw [K7]; omega) ?_
  ·show some (zpD _ _)=_;rw [LK,LK];exact congrArg some (BH _ _ L)
  ·refine (nK (t:=tgT (bo (tgN 0) (bo (tgN 1) gO))) (f:=l2 az (eV 0) (eV 1)) (η:=[.un,.un]) (λ o=>PyData.tuple [.str (rk (scB bs) (HB bs) xs1 o),.str (rk (scB bs) (HB bs) xs2 o)]) (PyData.str∘rk (scB bs) (HB bs) (xs1++xs2)) L λ o _=>⟨[.val (.str (rk (scB bs) (HB bs) xs1 o)),.val (.str (rk (scB bs) (HB bs) xs2 o))],rfl,ai rfl rfl ?_⟩).trans (by rw [LK]);have g1:(rk (scB bs) (HB bs) xs1 o).length<=60:=yQ (trV v) (onV v) xs1 (by omega) o;have g2:(rk (scB bs) (HB bs) xs2 o).length<=60:=yQ (trV v) (onV v) xs2 (by omega) o;rw [Jl (by omega),Gt]; rfl
 have ej:oA (.str "\n") (.list ((L.map (rk (scB bs) (HB bs) (xs1++xs2))).map PyData.str))=some (.str (PT bs l tp r b)):=by
  have:=sV (sep := "\n") (l:=L.map (rk (scB bs) (HB bs) (xs1++xs2))) (b:=60) (λ x hx=>by
   obtain ⟨o,_,rfl⟩:=LI.mp hx;exact yQ (trV v) (onV v) _ (by rw [Lm]; omega) o) (by
   rw [K7,xq,v4]; omega)
  rw [this,xq,<- hL,<- yP,Cl,<- hxs];show some (PyData.str (jQ _ _ _ ys))=some (.str (jQ _ _ _ (Zs tp (b - tp).toNat)));rw [hY]
 refine a6 (w1:=⟨LE ns (SD bs) l tp r b so (some (.d (.str (PT bs l tp r b)))) x8 x9 x10 x11 x12 (jD at_) none none none,s⟩) (c0 (aQ (ai rfl (ay (ae rfl (ae rfl (ae (ai (ai rfl rfl rfl) rfl rfl) rfl))) dw) (by rw [hat]; rfl)))) ?_;refine a6 (c0 (aQ (ai (ay (ae rfl (ae rfl (ae rfl (ae rfl (ae rfl rfl))))) e1) rfl p1))) ?_;refine a6 (c0 (aQ (ai (ay (ae rfl (ae rfl (ae rfl (ae rfl (ae rfl rfl))))) e2) rfl p2))) ?_;refine a6 (xG (oT (qD (ai rfl (l6 ec) ej) rfl (f8 pok)))) ?_;refine a6 (c0 (aQ (ay (ae rfl (ae rfl (ae (FQ rfl rfl) rfl))) em))) ?_;refine n0 (aQ (ai (ay (ae rfl (ae (ai rfl rfl rfl) (ae (ai rfl rfl rfl) (ae (ai rfl rfl rfl) (ae (ai rfl rfl rfl) rfl))))) e3) rfl ?_));rw [vR pok pok]; simp
end
theorem yK:LU (.list [])=true:=by decide +kernel
theorem Al {ks:List Nat} {t:En->K5->Option En} {p:MTF} {f:MF} {n:Nat} {η:MEn} {s:Sto}:∀ l:List K5,(∀ x∈l,∃ w1,mTg ks t ⟨η,s⟩ x=some w1/\p w1=some (false,s))->tm ks t p f n η l s=some s
 | [],_=>rfl
 | x::r,h=>by
  obtain ⟨w1,h1,h2⟩:=h x Lc;have ih:=Al (ks:=ks) (t:=t) (p:=p) (f:=f) (n:=n) (η:=η) (s:=s) r λ z hz=>h z (La _ hz);unfold tm;rw [h1,K8,h2,K8,if_neg LB];exact ih
theorem CS {mp:List (Option Nat)} {it:Wd->Option (List K5×Sto)} {ks:List Nat} {t:En->K5->Option En} {p:MTF} {f:MF} {w:Wd} {s:Sto} {l:List K5} (h:it w=some (l,s)) (h2:∀ x∈l,∃ w1,mTg ks t ⟨uz mp w.η,s++[.lst []]⟩ x=some w1/\p w1=some (false,s++[.lst []])):mcL mp it ks t p f w=some (.r s.length,s++[.lst []]):=by
 unfold mcL;rw [h,K8];dsimp only;rw [Al l h2]; rfl
section
variable {ns:List Int} (hn:ns.length<=63) {bs:List Bx} (v:VB bs) (pn:Pn bs) {l tp r b:Int} (f:Fr l tp r b) {so:Option D} {s:Sto} {a:Ad} {W:Nat->Str} {S:Nat->K5} {Bs:Nat->List Bx} {m:Nat}
 (hm:m<=20) (hS:∀ k,S k=SD (Bs k)) (hv:∀ k,VB (Bs k)) (h0:Bs 0=bs)
include hn v pn f hm hS hv h0
theorem T14 {x10 x11:Option D} (A:At s a W S m m):∃ s',Db ⟨LE ns (SD bs) l tp r b so (some (.d (.str (PT bs l tp r b)))) (some (.r a.p)) (jD (m:Int)) x10 x11 none none none none none,s⟩=some (.rt (.d (.bool true)) s'):=by
 have f1:=f.fl; have f2:=f.ft; have f3:=f.fr; have f4:=f.fb;obtain ⟨w1,g1,s1,y1,rfl,A1⟩:=B6 (ks:=[12]) (t:=tgN 12) (body:=G5) (λ (k:Nat)=>Lv (0+(k:Int))) (λ j w=>∃ s' x,w=⟨LE ns (SD bs) l tp r b so (some (.d (.str (PT bs l tp r b)))) (some (.r a.p)) (jD (m:Int)) x10 x11 x none none none none,s'⟩/\At s' a W S m (m - j)) m
  (λ j w hj ⟨s',x,e,q1⟩=>by
   subst e;have ek:m - j=m - (j+1)+1:=by omega
   rw [ek] at q1;obtain ⟨s2,e2,A2,m2⟩:=At.back q1 (by omega) (by omega);exact ⟨_,⟨LE ns (SD bs) l tp r b so (some (.d (.str (PT bs l tp r b)))) (some (.r a.p)) (jD (m:Int)) x10 x11 (some (.d (.int (0+(j:Int))))) none none none none,s2⟩,pJ (show 12 < 17 by decide),e9 (Hu q1 rfl e2),s2,_,rfl,A2⟩)
  (w:=⟨LE ns (SD bs) l tp r b so (some (.d (.str (PT bs l tp r b)))) (some (.r a.p)) (jD (m:Int)) x10 x11 none none none none none,s⟩) ⟨s,none,rfl,A⟩
 rw [Mc] at A1;have e0:S 0=SD bs:=by rw [hS,h0]
 have eu:=DS v v (l:=l) (tp:=tp) (r:=r) (b:=b) (by omega) (by omega) (by omega) (by omega) (by omega) (by omega);rw [CL,M5] at eu;refine ⟨s1,a6 (Ap (s:=s) (xs:=(List.range m).map λ (k:Nat)=>Lv (0+(k:Int))) (zf (n6 (ae (d:=.int (m:Int)) rfl rfl) (zM rfl (by omega)))) g1) ?_⟩;refine a6 (xG (v5 (x:=.list []) (tF (aV (yi A1 rfl) (aV (aQ rfl) (aV (aQ rfl) (aV (aQ rfl) (aV (aQ rfl) (aV (aQ rfl) eg)))))) rfl (by rw [e0]; exact eu)) (aQ rfl) yK)) ?_;exact T16 hn v pn f
theorem T10 {x10:Option D} (A:At s a W S m m):∃ s',Dc ⟨LE ns (SD bs) l tp r b so (some (.d (.str (PT bs l tp r b)))) (some (.r a.p)) (jD (m:Int)) x10 none none none none none none,s⟩=some (.rt (.d (.bool true)) s'):=by
 have f1:=f.fl; have f2:=f.ft; have f3:=f.fr; have f4:=f.fb;have em:S m=SD (Bs m):=hS m;have vm:=hv m;have eu:=DS v vm (l:=l) (tp:=tp) (r:=r) (b:=b) (by omega) (by omega) (by omega) (by omega) (by omega) (by omega);have eu':=DS vm v (l:=l) (tp:=tp) (r:=r) (b:=b) (by omega) (by omega) (by omega) (by omega) (by omega) (by omega);rw [CM] at eu';have ep:=AV vm (l:=l) (tp:=tp) (r:=r) (b:=b) (by omega) (by omega) (by omega) (by omega) (by omega) (by omega);have pok:Lq (PT bs l tp r b)=true:=yV (trV v) _ _;have pok':Lq (PT (Bs m) l tp r b)=true:=yV (trV vm) _ _;obtain ⟨Un,hU⟩:∃ U,U=(pts (Zs l (r - l).toNat) (Zs tp (b - tp).toNat)).filter (ne2 (scB bs) (scB (Bs m)) (HB bs) (HB (Bs m))):=⟨_,rfl⟩;rw [<- hU] at eu eu';have hsh:=Gj Un;have hUl:Un.length<=3000000:=by
  have h1:=Mr (ne2 (scB bs) (scB (Bs m)) (HB bs) (HB (Bs m))) (pts (Zs l (r - l).toNat) (Zs tp (b - tp).toNat));rw [<- hU,sg,gT,gT] at h1;have h2:(r - l).toNat*(b - tp).toNat<=60*60:=Nh (by omega) (by omega);omega
 have A':Pl (s++[Cell.lst []]) a (S m) (dnL W S m) (unL W S m m):=A.frame λ i hi=>Lw (A.lt hi);obtain ⟨s',e'⟩:=T14 hn v pn f (so:=so) hm hS hv h0 (x10:=x10) (x11:=some (.d (.list (Un.map ptD)))) A';refine ⟨s',?_⟩;refine a6 (w1:=⟨LE ns (SD bs) l tp r b so (some (.d (.str (PT bs l tp r b)))) (some (.r a.p)) (jD (m:Int)) x10 (some (.d (.list (Un.map ptD)))) none none none none none,s⟩) (c0 (tF (aV (aQ rfl) (aV (yi A rfl) (aV (aQ rfl) (aV (aQ rfl) (aV (aQ rfl) (aV (aQ rfl) eg)))))) rfl (by rw [em]; exact eu))) ?_;refine a6 (xG (v5 (tF (aV (yi A rfl) (aV (aQ rfl) (aV (aQ rfl) (aV (aQ rfl) (aV (aQ rfl) (aV (aQ rfl) eg)))))) rfl (by rw [em]; exact eu')) (aQ rfl) hsh)) ?_;refine a6 (w1:=⟨LE ns (SD bs) l tp r b so (some (.d (.str (PT bs l tp r b)))) (some (.r a.p)) (jD (m:Int)) x10 (some (.d (.list (Un.map ptD)))) none none none none none,s++[Cell.lst []]⟩) (xG (C3 (wb (x:=.list []) (CS (s:=s) (l:=Un.map ptD) (zf (l8 rfl ?_)) ?_) (aQ rfl) ?_ rfl (sU yK) rfl))) ?_
 ·rfl
 ·intro x hx;obtain ⟨p,hp,rfl⟩:=LI.mp hx;have hne:ne2 (scB bs) (scB (Bs m)) (HB bs) (HB (Bs m)) p=true:=by
   rw [hU] at hp; exact (LZ.mp hp).2
  have h1:=F0 v p.1 p.2;have h2:=F0 vm p.1 p.2;refine ⟨⟨[some (.d (ptD p)),some (.d (SD bs)),some (.r a.p)],s++[Cell.lst []]⟩,pJ (show 0 < 3 by decide),C3 (wb (aQ (ay (ae rfl (ae (ai rfl rfl rfl) (ae (ai rfl rfl rfl) rfl))) h1)) (tF (aV (yi A' rfl) (aV (aQ (ai rfl rfl rfl)) (aV (aQ (ai rfl rfl rfl)) eg))) rfl (by rw [em]; exact h2)) rfl rfl ?_ rfl)⟩
  have:=zH (oV v) (HB bs p.1 p.2)
  have:=zH (oV vm) (HB (Bs m) p.1 p.2)
  unfold ne2 at hne;unfold pEq;rw [if_pos ⟨by assumption,by assumption⟩];simp only [MP] at hne;rw [hne]
 ·show (match (s++[Cell.lst []])[s.length]? with | some (.fz x)=>some x | some (.lst ds)=>(tW ds).bind λ xs=>some (PyData.list xs) | some (.dct kvs)=>_ | _=>none)=_;rw [Lx (Lp _),Mc]; rfl
 refine a6 (w1:=⟨LE ns (SD bs) l tp r b so (some (.d (.str (PT bs l tp r b)))) (some (.r a.p)) (jD (m:Int)) x10 (some (.d (.list (Un.map ptD)))) none none none none none,s++[Cell.lst []]⟩) (xG (s:=s++[Cell.lst []]) ?_) e';by_cases hz:Un=[]
 ·have hp:=Ck (hU.symm.trans hz);have ep':bm [SD (Bs m),.int l,.int tp,.int r,.int b]=some (.str (PT bs l tp r b)):=by
   rw [ep]; exact congrArg (λ z=>some (PyData.str z)) hp.symm
  refine (BS (a:=true) (b:=false) (oT (eX (ai (x:=.list []) (y:=.list []) (by rw [hz]; rfl) rfl rfl))) (v5 (tF (aV (yi A' rfl) (aV (aQ rfl) (aV (aQ rfl) (aV (aQ rfl) (aV (aQ rfl) eg))))) rfl (by rw [em]; exact ep')) (aQ rfl) (f8 pok)))
 ·refine Gf (oT (eX (ai rfl rfl ?_)));rw [Hm ptD Un hsh,decide_eq_false hz]
end
noncomputable def Dr.bs (c:Dr):List Bx:=(List.range c.ps.length).map λ i=>⟨c.nm (i+1),c.nm (c.ps.getD i 0),c.L i,c.T i,c.W i,c.H i,c.mr i⟩
theorem Dr.bs_at {c:Dr} {i:Nat} {b:Bx} (h:c.bs[i]?=some b):i < c.ps.length/\b=⟨c.nm (i+1),c.nm (c.ps.getD i 0),c.L i,c.T i,c.W i,c.H i,c.mr i⟩:=by
 have hl:=(Lb.mp h).1;unfold Dr.bs at hl h;rw [K7,LW] at hl;rw [Le,Mt hl] at h;exact ⟨hl,(Option.some.inj h).symm⟩
theorem Dr.bs_ok {c:Dr} (h:c.Ok) {tn:Nat} (en:c.nm=nmT tn) (h7:c.ps.length<=7):VB c.bs:=by
 refine ⟨by unfold Dr.bs; rw [K7,LW]; omega,?_,λ b hb=>?_,λ i b hb=>?_⟩
 ·unfold Dr.bs;rw [LK,List.nodup_iff_pairwise_ne,MD];refine List.Pairwise.imp_of_mem (R:=(· < ·)) (λ {x y} _ _ hxy e=>?_) MZ
  have:=h.inj _ _ e
  omega
 ·obtain ⟨i,hi⟩:=Mw.mp hb;obtain ⟨hl,rfl⟩:=Dr.bs_at hi;refine ⟨?_,h.ok _,h.okm _⟩;dsimp only;rw [en,oX (by omega)];exact ⟨Lp 1,by show 1<=1; decide⟩
 ·obtain ⟨hl,rfl⟩:=Dr.bs_at hb;dsimp only;by_cases e:c.ps.getD i 0=0
  ·rw [e,h.top]; exact .inl rfl
  ·have hp:=h.par i;refine .inr ⟨c.ps.getD i 0 - 1,⟨c.nm (c.ps.getD i 0 - 1+1),c.nm (c.ps.getD (c.ps.getD i 0 - 1) 0),c.L (c.ps.getD i 0 - 1),c.T (c.ps.getD i 0 - 1),c.W (c.ps.getD i 0 - 1),c.H (c.ps.getD i 0 - 1),c.mr (c.ps.getD i 0 - 1)⟩,by omega,?_,?_⟩
   ·unfold Dr.bs;rw [Le,Mt (by omega)]; rfl
   ·dsimp only;rw [show c.ps.getD i 0 - 1+1=c.ps.getD i 0 by omega]
theorem Dr.bs_d (c:Dr):c.d=SD c.bs:=by
 unfold Dr.d SD Dr.bs;rw [LK]; rfl
theorem E6:∀ i:Fin 8,let8.getD i.val 0≠10/\let8.getD i.val 0≠46:=by decide
theorem Dr.bs_pn {c:Dr} {tn:Nat} (en:c.nm=nmT tn) (h7:c.ps.length<=7):Pn c.bs:=⟨λ b hb=>by
 obtain ⟨i,hi⟩:=Mw.mp hb;obtain ⟨hl,rfl⟩:=Dr.bs_at hi;dsimp only;rw [en,oX (by omega)]
 have:=E6 ⟨(i+tn) % 8,Nat.mod_lt _ (by decide)⟩
 dsimp only at this;show 10∉[let8.getD ((i+tn) % 8) 0]/\46∉[let8.getD ((i+tn) % 8) 0];simp only [LD];exact ⟨λ e=>this.1 e.symm,λ e=>this.2 e.symm⟩⟩
theorem Dr.bs_sm {c:Dr} (h:c.Ok):Sm (scB c.bs).geo:=by
 have key:∀ x:Nat,(∃ i,c.bs[x - 1]?=some ⟨c.nm (i+1),c.nm (c.ps.getD i 0),c.L i,c.T i,c.W i,c.H i,c.mr i⟩)\/c.bs[x - 1]?=none:=λ x=>by
  cases hb:c.bs[x - 1]? with
  | none=>exact .inr rfl
  | some b=>obtain ⟨_,rfl⟩:=Dr.bs_at hb; exact .inl ⟨_,rfl⟩
 refine ⟨λ x=>?_,λ x=>?_,λ x=>?_,λ x=>?_⟩
 ·show -5<=((c.bs[x - 1]?).map (·.l)).getD 0/\((c.bs[x - 1]?).map (·.l)).getD 0<=5;rcases key x with ⟨i,e⟩ | e
  ·rw [e]; have:=h.bds i; unfold bd at this; show -5<=c.L i/\c.L i<=5; omega
  ·rw [e]; decide
 ·show -5<=((c.bs[x - 1]?).map (·.t)).getD 0/\((c.bs[x - 1]?).map (·.t)).getD 0<=5;rcases key x with ⟨i,e⟩ | e
  ·rw [e]; have:=h.bds i; unfold bd at this; show -5<=c.T i/\c.T i<=5; omega
  ·rw [e]; decide
 ·show 0<=((c.bs[x - 1]?).map (·.w)).getD 0/\((c.bs[x - 1]?).map (·.w)).getD 0<=8;rcases key x with ⟨i,e⟩ | e
  ·rw [e]; have:=h.bds i; unfold bd at this; show 0<=c.W i/\c.W i<=8; omega
  ·rw [e]; decide
 ·show 0<=((c.bs[x - 1]?).map (·.h)).getD 0/\((c.bs[x - 1]?).map (·.h)).getD 0<=8;rcases key x with ⟨i,e⟩ | e
  ·rw [e]; have:=h.bds i; unfold bd at this; show 0<=c.H i/\c.H i<=8; omega
  ·rw [e]; decide
theorem G3 {f g h:En->Option K5} {η:En} {i j k:Int} (hf:f η=some (.int i)) (hg:g η=some (.int j)) (hh:h η=some (.int k)):lch pLt pLe f g h η=some (.bool (decide (i < j)&&decide (j<=k))):=by
 have e1:pLt (.int i) (.int j)=some (.bool (decide (i < j))):=rfl;have e2:pLe (.int j) (.int k)=some (.bool (decide (j<=k))):=rfl;unfold lch;rw [hf,K8,hg,K8,e1,K8];show (if decide (i < j)=true then (h η).bind λ w=>pLe (.int j) w else some (.bool false))=_;cases decide (i < j) with
 | false=>rfl
 | true=>rw [if_pos rfl,hh,K8,e2]; rfl
theorem Hr:("." : Str)=⟨#[46]⟩:=by decide +kernel
theorem Gk (i:Int):LU (.int i)=true:=rfl
section
variable {ns:List Int} (hn:ns.length<=63) {bs:List Bx} (v:VB bs) (pn:Pn bs) (sm:Sm (scB bs).geo) {l tp r b:Int} (f:Fr l tp r b)
include hn v pn f
theorem T7 {so:Option D}:∃ s',FP ⟨LE ns (SD bs) l tp r b so (some (.d (.str (PT bs l tp r b)))) none none none none none none none none none,[]⟩=some (.rt (.d (.bool true)) s'):=by
 obtain ⟨w,hw,dw⟩:=b9 hn (k:=204) (m:=4) (by decide) (by decide);have hv:=λ k=>D0 hn v (show (0:Int)<=210 by decide) k;obtain ⟨W,eW⟩:∃ W,W=Wq ns bs 210:=⟨_,rfl⟩;obtain ⟨S,eS⟩:∃ S:Nat->K5,S=λ k=>SD (Bq ns bs 210 k):=⟨_,rfl⟩;have hS:∀ k,S k=SD (Bq ns bs 210 k):=λ k=>by rw [eS]
 have hst:∀ k:Nat,Step ns (210+6*(k:Int)) (Bq ns bs 210 k) (W (k+1)) (Bq ns bs 210 (k+1)):=λ k=>by rw [eW]; exact FC hn v (show (0:Int)<=210 by decide) k
 obtain ⟨s0,e0⟩:∃ s0:Sto,s0=[Cell.obj 0 (pf (S 0) 1 2),.lst [],.lst []]:=⟨_,rfl⟩;have P0:Pl s0 ⟨0,1,2⟩ (S 0) (dnL W S 0) []:=by rw [e0]; exact ⟨rfl,rfl,rfl,by decide⟩
 obtain ⟨w1,g1,s1,a1,y1,rfl,pa,P1⟩:=B6 (ks:=[10]) (t:=tgN 10) (body:=IP) (λ (k:Nat)=>Lv (0+(k:Int))) (λ j w'=>∃ (s':Sto) (a':Ad) (x:Option D),w'=⟨LE ns (SD bs) l tp r b so (some (.d (.str (PT bs l tp r b)))) (some (.r 0)) (jD ((1+w:Nat):Int)) x none none none none none none,s'⟩/\a'.p=0/\Pl s' a' (S j) (dnL W S j) []) (1+w)
  (λ j w' hj ⟨s',a',x,e,q1,q2⟩=>by
   subst e;obtain ⟨s2,a2,z1,z2,z3,z4⟩:=Bu (hst j) (hS j) (hS (j+1)) (show j<=100 by omega) q2;rw [q1] at z1;refine ⟨_,⟨LE ns (SD bs) l tp r b so (some (.d (.str (PT bs l tp r b)))) (some (.r 0)) (jD ((1+w:Nat):Int)) (some (.d (.int (0+(j:Int))))) none none none none none none,s2⟩,pJ (show 10 < 17 by decide),?_,s2,a2,_,rfl,z2.trans q1,z3⟩;exact e9 (C2 (s1:=s') (aV (s1:=s') (aQ rfl) (aV (s1:=s') (aQ (ai rfl (ai rfl rfl (Kx j)) rfl)) (aV (s1:=s') rfl eg))) z1))
  (w:=⟨LE ns (SD bs) l tp r b so (some (.d (.str (PT bs l tp r b)))) (some (.r 0)) (jD ((1+w:Nat):Int)) none none none none none none none,s0⟩) ⟨s0,⟨0,1,2⟩,none,rfl,rfl,P0⟩
 have A:At s1 a1 W S (1+w) (1+w):=by
  unfold At;rw [BM]; exact P1
 obtain ⟨s',e'⟩:=T10 hn v pn f (so:=so) (x10:=y1) (show 1+w<=20 by omega) hS hv rfl A;rw [pa] at e';refine ⟨s',?_⟩;have hi:=HS [] (SD bs);have hs0:S 0=SD bs:=hS 0;refine a6 (w1:=⟨LE ns (SD bs) l tp r b so (some (.d (.str (PT bs l tp r b)))) (some (.r 0)) none none none none none none none none,s0⟩) (c0 (d:=.r 0) (C0 (s:=[]) (aV (d:=.d (SD bs)) (s1:=[]) (aQ rfl) eg) ?_)) ?_
 ·rw [e0,hs0]; exact hi
 refine a6 (w1:=⟨LE ns (SD bs) l tp r b so (some (.d (.str (PT bs l tp r b)))) (some (.r 0)) (jD ((1+w:Nat):Int)) none none none none none none none,s0⟩) (c0 (d:=.d (.int ((1+w:Nat):Int))) (aQ (ai (y:=.int (w:Int)) rfl (ay (ae rfl (ae rfl (ae rfl rfl))) dw) ?_))) ?_
 ·show some (Lv (1+(w:Int)))=_
  congr 2
 exact a6 (Ap (s:=s0) (xs:=(List.range (1+w)).map λ (k:Nat)=>Lv (0+(k:Int))) (zf (n6 (ae (d:=.int ((1+w:Nat):Int)) rfl rfl) (zM rfl (by omega)))) g1) e'
include sm
theorem T5 (ss:List Str) (hss:ss=nms (scB bs) (HB bs) (pts (Zs l (r - l).toNat) (Zs tp (b - tp).toNat))):∃ s',IN ⟨LE ns (SD bs) l tp r b (some (.d (zl ss))) (some (.d (.str (PT bs l tp r b)))) none none none none none none none none none,[]⟩=some (.rt (.d (.bool true)) s'):=by
 have f1:=f.fl; have f2:=f.ft; have f3:=f.fr; have f4:=f.fb;obtain ⟨s',e'⟩:=T7 hn v pn f (so:=some (.d (zl ss)));refine ⟨s',?_⟩;have hkl:(lu ss).length<=3000000:=by
  have h1:(lu ss).length<=ss.length:=v6 _ _ (xO ss) λ x hx=>keysS_mem.mp hx;have h2:=Ai (scB bs) (HB bs) (pts (Zs l (r - l).toNat) (Zs tp (b - tp).toNat));rw [<- hss,sg,gT,gT] at h2;have h3:(r - l).toNat*(b - tp).toNat<=60*60:=Nh (by omega) (by omega);omega
 have tot:=zr (c:=scB bs) (H:=HB bs) (λ x y q hq=>List.count_eq_zero.mpr (pn.q v hq).2) (Zs l (r - l).toNat) (Zs tp (b - tp).toNat);rw [<- hss,gT,gT] at tot;refine a6 (w1:=⟨LE ns (SD bs) l tp r b (some (.d (zl ss))) (some (.d (.str (PT bs l tp r b)))) none none none none none none none none none,[]⟩) (xG (oT (qD (x:=.int ((r - l)*(b - tp))) (ai (x:=.int (((lu ss).map λ k=>ss.count k).sum:Nat)) (y:=.int (((cp (PT bs l tp r b)).count 46:Nat):Int)) (ay (ae (l6 (ds:=((lu ss).map λ k=>ss.count k).map λ (n:Nat)=>Lv (n:Int)) ?_) rfl) (EH _)) (ai rfl rfl ?_) ?_) (ai (x:=.int (r - l)) (y:=.int (b - tp)) (ai rfl rfl rfl) (ai rfl rfl rfl) (jR (xt (by omega) (by omega)))) (Gk _)))) ?_
 ·refine gN (ds:=(lu ss).map λ k=>.tuple [.str k,.int (ss.count k:Nat)]) (l8 rfl rfl) (by rw [K7]; exact hkl) ?_;rw [LK];exact nK (t:=tgT (bo (tgN 0) (bo (tgN 1) gO))) (f:=eV 1) (η:=[.un,.un]) (λ k=>PyData.tuple [.str k,.int (ss.count k:Nat)]) _ (lu ss) λ k _=>⟨[.val (.str k),.val (.int (ss.count k:Nat))],rfl,rfl⟩
 ·show some (Lv (Txt.count (PT bs l tp r b) "."))=_;rw [Hr,BB]
 ·show some (Lv (_+_))=_
  congr 2
  have e1:((r - l).toNat:Int)=r - l:=by omega
  have e2:((b - tp).toNat:Int)=b - tp:=by omega
  rw [<- e1,<- e2,<- Int.natCast_mul,<- tot,NB]
 refine a6 (w1:=⟨LE ns (SD bs) l tp r b (some (.d (zl ss))) (some (.d (.str (PT bs l tp r b)))) none none none none none none none none none,[]⟩) (xG (oT (qD (x:=.list []) (l6 ?_) rfl yK))) e';refine gN (ds:=(lu ss).map λ k=>.tuple [.str k,.int (ss.count k:Nat)]) (l8 rfl rfl) (by rw [K7]; exact hkl) ?_;refine (fw (t:=tgT (bo (tgN 0) (bo (tgN 1) gO))) (p:=wF (bT (lch pLt pLe (eC (.int 0)) (eV 1) (lA bP (aC (eV 2) (aC (eV 0) aN)))))) (f:=eV 0) (η:=[.un,.un,.val (SD bs)]) (λ k=>PyData.tuple [.str k,.int (ss.count k:Nat)]) (λ _=>false) (λ k=>.str k) (lu ss) λ k hk=>⟨[.val (.str k),.val (.int (ss.count k:Nat)),.val (SD bs)],rfl,?_,λ h=>by cases h⟩).trans ?_
 ·have hks:=keysS_mem.mp hk;have hks':=hks;rw [hss] at hks';obtain ⟨q,hq,rfl⟩:=IK (trV v) hks';have hp:=DT (trV v) sm hq;rw [dV v] at hp;have h1:0 < ss.count ((scB bs).nm q):=List.count_pos_iff.mpr hks;have h2:ss.count ((scB bs).nm q)<=cnt (scB bs).geo (psB bs) (pnB bs) q:=by
   rw [hss]; exact B0 (trV v) (FZ _ _) (FZ _ _)
  have e1:decide ((0:Int) < (ss.count ((scB bs).nm q):Nat))=true:=decide_eq_true (by omega);have e2:decide (((ss.count ((scB bs).nm q):Nat):Int)<=(cnt (scB bs).geo (psB bs) (pnB bs) q:Nat))=true:=decide_eq_true (by omega)
  have:=wE (eX (G3 (f:=eC (.int 0)) (g:=eV 1) (h:=lA bP (aC (eV 2) (aC (eV 0) aN))) (η:=[.val (.str ((scB bs).nm q)),.val (.int (ss.count ((scB bs).nm q):Nat)),.val (SD bs)]) rfl rfl (ay (ae rfl (ae rfl rfl)) hp)))
  rw [e1,e2] at this;exact this
 ·rw [M0.mpr λ _ _=>LB]; rfl
end
theorem main (ns:List Int) (hn:ns.length<=63):∃ s',nR [.d (.list (ns.map Lv))] []=some (.d (.bool true),s'):=by
 obtain ⟨c,tn,ok,en,h7,es⟩:=B3 hn;rw [Dr.bs_d] at es;have v:=Dr.bs_ok ok en h7;have pn:=Dr.bs_pn en h7;have sm:=Dr.bs_sm ok;have hb7:c.bs.length<=7:=by unfold Dr.bs; rw [K7,LW]; exact h7
 generalize c.bs=bs at es v pn sm hb7;obtain ⟨v0,b0,d0⟩:=b9 hn (k:=200) (m:=9) (by decide) (by decide);obtain ⟨v1,b1,d1⟩:=b9 hn (k:=201) (m:=9) (by decide) (by decide);obtain ⟨v2,b2,d2⟩:=b9 hn (k:=202) (m:=6) (by decide) (by decide);obtain ⟨v3,b3,d3⟩:=b9 hn (k:=203) (m:=6) (by decide) (by decide);obtain ⟨l,hl⟩:∃ l:Int,l=(v0:Int) - 4:=⟨_,rfl⟩;obtain ⟨tp,htp⟩:∃ l:Int,l=(v1:Int) - 4:=⟨_,rfl⟩;obtain ⟨r,hr⟩:∃ r:Int,r=l+1+(v2:Int):=⟨_,rfl⟩;obtain ⟨b,hb⟩:∃ r:Int,r=tp+1+(v3:Int):=⟨_,rfl⟩;have f:Fr l tp r b:=⟨by omega,by omega,by omega,by omega⟩;have ep:=AV v (l:=l) (tp:=tp) (r:=r) (b:=b) (by omega) (by omega) (by omega) (by omega) (by omega) (by omega);have esh:=K2 v (l:=l) (tp:=tp) (r:=r) (b:=b) (by omega) (by omega) (by omega) (by omega) (by omega) (by omega) hb7;obtain ⟨s',e'⟩:=T5 hn v pn sm f _ rfl;refine ⟨s',nZ rfl (show tN ce af eY bm bP bM bQ aS aZ hG bA cf ⟨[some (.d (Sd ns)),none,none,none,none,none,none,none,none,none,none,none,none,none,none,none,none],[]⟩=_ from ?_)⟩;refine a6 (c0 (aQ (ay (ae rfl (ae rfl rfl)) es))) ?_;refine a6 (Ao (x:=.d (.int l)) (y:=.d (.int tp)) (s1:=[]) (aV (aQ (ai (ay (ae rfl (ae rfl (ae rfl rfl))) d0) rfl (by rw [hl]; rfl))) (aV (aQ (ai (ay (ae rfl (ae rfl (ae rfl rfl))) d1) rfl (by rw [htp]; rfl))) eg))) ?_;refine a6 (Ao (x:=.d (.int r)) (y:=.d (.int b)) (s1:=[]) (aV (aQ (ai (ai rfl rfl rfl) (ay (ae rfl (ae rfl (ae rfl rfl))) d2) (by rw [hr]; rfl))) (aV (aQ (ai (ai rfl rfl rfl) (ay (ae rfl (ae rfl (ae rfl rfl))) d3) (by rw [hb]; rfl))) eg))) ?_;refine a6 (c0 (aQ (ay (ae rfl (ae rfl (ae rfl (ae rfl (ae rfl rfl))))) esh))) ?_;exact a6 (c0 (aQ (ay (ae rfl (ae rfl (ae rfl (ae rfl (ae rfl rfl))))) ep))) e'
end K56
open PySem L2 L2.PU
theorem PySem.Challenge.cw_touchtree_k56_whole_pictures_holds : PySem.Challenge.rw_touchtree_k56_whole_pictures.Holds := by
  obtain ⟨K, hY, tx⟩ := K56.tx
  exact IV K56.hk K56.hlA K56.hlB (D3 (n := 63) (k := 19) (x := "_law_script") (CX := λ _ => CX0) (sp := λ w => spL (K w.params)) rfl (by decide) K56.hk.dd ⟨rfl, by decide, by decide⟩ hY (λ w mg fa h KX G hm => by
    obtain ⟨t, tx⟩ := tx w.params mg h KX G
    rw [K56.hk.dn] at hm
    exact G4 hm tx.CV tx.nR (λ _ => (K56.DZ tx).imp (Eg K56.main)) λ _ _ _ _ _ _ _ => rfl) (λ _ _ a ns hl _ hS => ⟨a, ns, rfl, hS, hl, λ _ => rfl⟩) λ _ _ _ _ _ z => z)
#print axioms PySem.Challenge.cw_touchtree_k56_whole_pictures_holds
